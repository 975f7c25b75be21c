/-
  A part of the proof: what a piece of the program gives; conditions: those of each theorem.
-/
import Derived.Test.YtijeaicbnfiegaaSv25
import Derived.Test.YtijeaicbnfiegaaSm7
set_option linter.unusedVariables false
namespace Go.Proofs.Ytijeaicbnfiegaa
open Go.Px Go.Ax
def bytesOK (b : List Int) : Prop := ∀ c ∈ b, 0 ≤ c ∧ c < 256
def preSo (b : List Int) : Prop := b.length < 1048576 ∧ bytesOK b
def ctSo : Ctr := ⟨[slB], fun x => preSo x.1, fun x => [.win true (.int .i64) 0 0 (List.length (mapI (ordB x.1)))], fun x => [.row 3 (.int .i64) (mapI (ordB x.1))]⟩
abbrev QSo (b : List Int) : List SV → List (Nat × LB) → Prop := fun rs blk => rs = [.win true (.int .i64) 12 0 b.length] ∧ lk blk 12 = some (.row 3 (.int .i64) (mapI (ordB b)))
theorem winAll {e : Sh} (l : List e.D) : winL e 0 l.length l = l := by
  unfold winL
  rw [List.drop_zero, List.take_length]
theorem ints_of_perm {l : List Int} {o : List Nat} (h : l.Perm (mapI o)) : l = mapI (natsOf l) ∧ (natsOf l).Perm o := by
  have hp : ∀ i ∈ l, 0 ≤ i := by
    intro i hi
    have := h.mem_iff.1 hi
    unfold mapI at this
    obtain ⟨k, _, rfl⟩ := List.mem_map.1 this
    exact Int.natCast_nonneg k
  constructor
  · unfold mapI natsOf
    rw [List.map_map]
    conv => lhs; rw [← List.map_id l]
    refine List.map_congr_left fun i hi => ?_
    have := hp i hi
    simp only [Function.comp, id]
    omega
  · have := h.map Int.toNat
    rw [show (mapI o).map Int.toNat = o from nats_map o] at this
    exact this
theorem sop_of {x : List Int} {k : Nat} {r : List Int} {o : List Nat} (hr : r.length = x.length) (ho : o.Perm (List.range x.length)) (hs : Srt (pbB (prs r k)) (mapI o)) : SOP x k r o := by
  refine ⟨ho, fun a b hb hab => ?_⟩
  have hl : ∀ {a : Nat} (ha : a < o.length), o[a] < x.length := fun ha => by simpa using ho.mem_iff.1 (List.getElem_mem ha)
  have := List.pairwise_iff_getElem.1 hs a b (by rw [mapI_len]; omega) (by rw [mapI_len]; exact hb) hab
  unfold pbB at this
  have e : ∀ {a : Nat} (ha : a < o.length), (mapI o)[a]'(by rw [mapI_len]; exact ha) = ((o[a] : Nat) : Int) := fun ha => by simp [mapI]
  rw [e hb, e (show a < o.length by omega), Int.toNat_natCast, Int.toNat_natCast, gt_prs (by have := hl hb; omega), gt_prs (by have := hl (show a < o.length by omega); omega)] at this
  exact this
abbrev oS (x : List Int) (o : List Nat) (r : List Int) (c : Nat) : PS := ⟨[(0, .sl (.int .u8) x), (3, .win true (.int .i64) 12 0 (mapI o).length), (4, .win true (.int .i64) 15 0 r.length), (7, .int .i64 (c : Int))], [(12, .row 3 (.int .i64) (mapI o)), (15, .row 3 (.int .i64) r)]⟩
theorem so_loop {x : List Int} (hx : x.length < 1048576) : ∀ (m c : Nat) (o : List Nat) (r : List Int), x.length ≤ c + m → 0 < c → c < 2097152 → RI x c r → o.Perm (List.range x.length) → (x.length ≤ c → OrdOK x o) →
    GD 14 Try.f14 (QSo x) (hd Try.f14 1) (oS x o r c) := by
  intro m
  induction m with
  | zero =>
    intro c o r hm hc hc2 hr ho hok
    refine sy_goK cxd6 (vc_sordL _ _ _ _ _ _) (bc_of (fun h => ?_) (fun h => ?_))
    · have h := of_decide_eq_true h; omega
    · have hok := hok (by omega)
      have e := hok.unique (ordN_ok x)
      rw [e]
      exact ⟨by rw [mapI_len, ordN_len], rfl⟩
  | succ m ih =>
    intro c o r hm hc hc2 hr ho hok
    by_cases hlt : c < x.length
    · refine sy_goK cxd6 (vc_sordL _ _ _ _ _ _) ?_
      have hrl := hr.len
      have hol : o.length = x.length := by simpa using ho.length_eq
      have hml := mapI_len o
      have w1 := winAll (e := .int .i64) r
      rw [decide_eq_true (show (c : Int) < (x.length : Int) by omega), bc_t, w1, Int.toNat_natCast]
      generalize hp : (List.range r.length).map (pairF r c) = p
      have hpl : p.length = x.length := by rw [← hp]; simp [hrl]
      have w2 := winAll (e := shP) p
      rw [w2]
      have hin : inP p (mapI o) := by
        intro i hi
        unfold mapI at hi
        obtain ⟨k, hk, rfl⟩ := List.mem_map.1 hi
        have := ho.mem_iff.1 hk
        rw [List.mem_range] at this
        omega
      generalize hl : srtP p (mapI o) = l
      have hperm : l.Perm (mapI o) := by rw [← hl]; exact sortF_perm _ _ _ _
      have hsrt : Srt (pbB p) l := by rw [← hl]; exact sortF_srt (wo_pb p) _ _ _ (Nat.le_refl _)
      obtain ⟨e1, hp2⟩ := ints_of_perm hperm
      have hp3 := hp2.trans ho
      have hll : l.length = x.length := by rw [hperm.length_eq, mapI_len, hol]
      have w3 := winAll (e := .int .i64) l
      rw [hml, hol, ← hll, w3, hll]
      generalize natsOf l = o' at e1 hp3
      subst e1
      have hol' : o'.length = x.length := by simpa using hp3.length_eq
      have sop : SOP x c r o' := sop_of hrl hp3 (by rw [show prs r c = p from hp]; exact hsrt)
      have hlast : IntKind.i64.wrap ((x.length : Int) - 1) = ((x.length - 1 : Nat) : Int) := by rw [IntWalk.i64_in _ (by omega)]; omega
      have g1 : gt (Sh.int .i64) (mapI o') (0 + (x.length - 1)) = ((o'[x.length - 1]'(by omega) : Nat) : Int) := by rw [Nat.zero_add]; exact gt_mapI (by omega)
      have o1 := sop.lt (a := x.length - 1) (by omega)
      have hvl : (rankV p o').length = x.length := by rw [rankV, rowF_len, hol']
      have g2 : gt (Sh.int .i64) (rankV p o') (0 + (o'[x.length - 1]'(by omega))) = ((rk p o' (x.length - 1) : Nat) : Int) := by
        rw [Nat.zero_add]
        have := gt_rowF (n := o'.length) (f := fun j => ((rk p o' (o'.idxOf j) : Nat) : Int)) (i := o'[x.length - 1]'(by omega)) (by omega)
        rw [show o'.idxOf (o'[x.length - 1]'(by omega)) = x.length - 1 from nodup_at (hp3.nodup_iff.2 List.nodup_range) (ixlt hp3 o1) (by omega) (ixat hp3 o1)] at this
        exact this
      rw [hlast, Int.toNat_natCast, g1, Int.toNat_natCast, g2, hvl]
      refine ⟨by omega, (show prePa r (c : Int) from ⟨by omega, by omega, by omega⟩), rfl, by omega, (show prePl (mapI o) p from ⟨by rw [mapI_len]; omega, hin⟩), by omega, by omega,
        (show preRk (mapI o') p from ⟨by omega, o', by rw [hpl]; exact hp3, rfl⟩), by omega, by omega, (by have := mapI_len o'; omega), (show (0 : Int) ≤ ((o'[x.length - 1]'(by omega) : Nat) : Int) by omega), (show ((o'[x.length - 1]'(by omega) : Nat) : Int) < (x.length : Int) by omega), (by omega), bc_of (fun h => ?_) (fun h => ?_)⟩
      · have h := of_decide_eq_true h
        have h' : ((rk p o' (x.length - 1) : Nat) : Int) = ((x.length - 1 : Nat) : Int) := h
        have hok2 : OrdOK x o' := sop.full hr hc (by omega) (by rw [show prs r c = p from hp, hol']; omega)
        have e := hok2.unique (ordN_ok x)
        rw [e]
        exact ⟨rfl, rfl⟩
      · have hw : IntKind.i64.wrap ((c : Int) * 2) = ((c * 2 : Nat) : Int) := by rw [IntWalk.i64_in _ (by omega)]; omega
        rw [hw]
        have nx := sop.next hr hc
        rw [show prs r c = p from hp] at nx
        refine (ih (c * 2) o' (rankV p o') (by omega) (by omega) (by omega) nx hp3 (fun hn => sop.long hr hc hn)).onlyR [(15, 1192512)] rfl ⟨rfl, ?_, ?_, rfl, trivial⟩ ⟨rfl, rfl, trivial⟩
        · rw [mapI_len, hol']; rfl
        · rw [hvl]; rfl
    · exact ih c o r (by omega) hc hc2 hr ho hok
theorem pre_one {x : List Int} {i : Nat} (h : i < x.length) : pre x 1 i = [x[i]] := by
  unfold pre
  rw [List.drop_eq_getElem_cons h]
  rfl
theorem ri_one {x : List Int} (hb : bytesOK x) : RI x 1 x := by
  have g : ∀ i (h : i < x.length), G64 x i = x[i] := fun i h => gt_eq h
  refine ⟨rfl, fun i hi => by rw [g i hi]; exact (hb _ (List.getElem_mem hi)).1, fun i j hi hj => ?_⟩
  rw [g i hi, g j hj, pre_one hi, pre_one hj, lexLt]
  by_cases e : x[i] = x[j]
  · rw [if_pos e, e]
    exact ⟨fun h => absurd h (Int.lt_irrefl _), fun h => absurd h (by decide)⟩
  · rw [if_neg e]
    simp
abbrev oI (x : List Int) (i : Nat) : List Int := bld (fun (j : Nat) => ((j : Nat) : Int)) x.length i 0
abbrev rI' (x : List Int) (i : Nat) : List Int := bld (fun j => G64 x j) x.length i 0
theorem oI_all (x : List Int) : oI x x.length = mapI (List.range x.length) := bld_all
theorem rI_all (x : List Int) : rI' x x.length = x := by
  rw [rI', bld_all]
  apply List.ext_getElem
  · simp
  · intro j h1 h2
    simp only [List.getElem_map, List.getElem_range]
    exact gt_eq h2
theorem so_init {x : List Int} (hx : x.length < 1048576) (hb : bytesOK x) : ∀ (m i : Nat), x.length - i ≤ m → i ≤ x.length →
    GD 14 Try.f14 (QSo x) (hd Try.f14 0) ⟨[(0, .sl (.int .u8) x), (3, .win true (.int .i64) 12 0 (oI x i).length), (4, .win true (.int .i64) 15 0 (rI' x i).length), (16, .sl (.int .u8) x), (17, .int .i64 x.length), (18, .int .i64 (i : Int))], [(12, .row 3 (.int .i64) (oI x i)), (15, .row 3 (.int .i64) (rI' x i))]⟩ := by
  have fin : GD 14 Try.f14 (QSo x) (hd Try.f14 0) ⟨[(0, .sl (.int .u8) x), (3, .win true (.int .i64) 12 0 (oI x x.length).length), (4, .win true (.int .i64) 15 0 (rI' x x.length).length), (16, .sl (.int .u8) x), (17, .int .i64 x.length), (18, .int .i64 (x.length : Int))], [(12, .row 3 (.int .i64) (oI x x.length)), (15, .row 3 (.int .i64) (rI' x x.length))]⟩ := by
    refine sy_goK cxd6 (vc_sordI _ _ _ _ _ _) (bc_of (fun h => ?_) (fun h => ?_))
    · have h := of_decide_eq_true h; omega
    · rw [oI_all, rI_all]
      refine (so_loop hx x.length 1 (List.range x.length) x (by omega) (by omega) (by omega) (ri_one hb) (.refl _) (fun hn => ⟨.refl _, ?_⟩)).only ⟨rfl, rfl, rfl, rfl, trivial⟩ ⟨rfl, rfl, trivial⟩
      obtain h0 | h0 : x.length = 0 ∨ x.length = 1 := by omega
      · rw [h0]; exact List.Pairwise.nil
      · rw [h0]; exact List.pairwise_singleton _ _
  intro m
  induction m with
  | zero =>
    intro i hm h1
    obtain rfl : i = x.length := by omega
    exact fin
  | succ m ih =>
    intro i hm h1
    by_cases hi : i < x.length
    · refine sy_goK cxd6 (vc_sordI _ _ _ _ _ _) ?_
      have l1 : (oI x i).length = x.length := bld_len h1
      have l2 : (rI' x i).length = x.length := bld_len h1
      have hbi := hb _ (List.getElem_mem hi)
      have g : gt (Sh.int .u8) x i = x[i] := gt_eq hi
      have g' : G64 x i = x[i] := gt_eq hi
      have w1 : IntKind.i64.wrap ((i : Int) + 1) = ((i + 1 : Nat) : Int) := by rw [IntWalk.i64_in _ (by omega)]; omega
      have w2 : IntKind.i64.wrap x[i] = x[i] := IntWalk.i64_in _ (by omega)
      rw [decide_eq_true (show (i : Int) < (x.length : Int) by omega), bc_t, Int.toNat_natCast, g, w1, w2, l1, l2, Nat.zero_add]
      refine ⟨by omega, by omega, by omega, by omega, by omega, by omega, by omega, by omega, ?_⟩
      have q := ih (i + 1) (by omega) (by omega)
      have s1 : (oI x i).set i (i : Int) = oI x (i + 1) := bld_set (f := fun (j : Nat) => ((j : Nat) : Int)) hi
      have s2 : (rI' x i).set i x[i] = rI' x (i + 1) := by rw [← g']; exact bld_set (f := fun j => G64 x j) hi
      rw [← s1, ← s2] at q
      refine q.only ⟨rfl, ?_, ?_, rfl, rfl, rfl, trivial⟩ ⟨rfl, rfl, trivial⟩
      · rw [List.length_set, l1]; rfl
      · rw [List.length_set, l2]; rfl
    · obtain rfl : i = x.length := by omega
      exact fin
theorem so_run (x : List Int) (hp : preSo x) : sy tt G0 D6 Try.f14.ntmps Try.f14.results.toList (QC ctSo (x, ())) (Px.Good Try.prog tt G0 14 Try.f14.ntmps Try.f14.results.toList (QC ctSo (x, ()))) 1000 [.code (bodyOf Try.f14)] (entry [slB] (x, ())) := by
  obtain ⟨hx, hb⟩ := hp
  refine (vc_sord _ _ _).mpr ⟨by omega, Int.le_refl _, by omega, by omega, by omega, Int.le_refl _, by omega, by omega, ?_⟩
  rw [Int.toNat_natCast]
  have q := so_init hx hb _ 0 (Nat.le_refl _) (Nat.zero_le _)
  refine (q.post fun rs blk hq => ?_).only ⟨rfl, ?_, ?_, rfl, rfl, rfl, trivial⟩ ⟨rfl, rfl, trivial⟩
  · refine QC.row (e := .int .i64) (et := 3) (a := 12) (k := x.length) (xs := mapI (ordB x)) rfl rfl hq.1 (by rw [mapI_len, ordB, ordN_len]) hq.2
  · rw [show (oI x 0).length = x.length from bld_len (Nat.zero_le _)]; rfl
  · rw [show (rI' x 0).length = x.length from bld_len (Nat.zero_le _)]; rfl
theorem so_held : Held Try.prog G0 14 ctSo := Held.run cxd6 (fn := Try.f14) rfl rfl ⟨by decide, by decide⟩ fun x hp => so_run x.1 hp
theorem bytes_of {l : List Int} (h : ∀ n ∈ l, (Lit.int .u8 n).wf = true) : bytesOK l := fun n hn => by
  have := Go.bounds_u8 (h n hn)
  exact ⟨this.1, by omega⟩
end Go.Proofs.Ytijeaicbnfiegaa
