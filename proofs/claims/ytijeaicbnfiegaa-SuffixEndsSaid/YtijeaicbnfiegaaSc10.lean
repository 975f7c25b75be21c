/-
  A part of the proof: what a piece of the program gives; conditions: those of each theorem.
-/
import Derived.Test.YtijeaicbnfiegaaSv9
import Derived.Test.YtijeaicbnfiegaaHD
set_option linter.unusedVariables false
namespace Go.Proofs.Ytijeaicbnfiegaa
open Go.Px Go.Ax
abbrev cap32 {α : Type} (f : List Int → List Int → List Int → Int → α) (x : DI [.ptr [fn28]]) : α := cap31 f x.1
def ctNs : CtrI := ⟨K32, fun x => cap32 (preSt x.1) x.2, fun x => [.bool (!cap32 stB x.2 x.1)], fun x => bkKL 0 K32 x⟩
theorem ns_run (k : Int) (b o s : List Int) (n : Int) (hp : preSt k b o s n) (R : List Item → PS → Prop) : sy tt G0 C6 Try.f32.ntmps Try.f32.results.toList (QI ctNs (k, (((), ((b, ()), (o, ()), (s, ()), (n, ()), ())), ()), ())) R 1000 [.code (bodyOf Try.f32)] (entryI K32 (k, (((), ((b, ()), (o, ()), (s, ()), (n, ()), ())), ()), ())) := by
  refine (vc_ns _ _ _ _ _ _ _).mpr ⟨hp, QI.self rfl rfl rfl ?_⟩
  intro p hp
  simp only [ctNs, bkKL, bkK, cnt, cntL, List.append_nil, List.nil_append, List.mem_append, List.mem_cons, List.mem_singleton, List.not_mem_nil, or_false] at hp
  rcases hp with rfl | rfl | rfl | rfl | rfl <;> rfl
theorem ns_held : HeldI Try.prog G0 32 ctNs := HeldI.run cx6 (fn := Try.f32) rfl rfl ⟨by decide, by decide⟩ fun x hp => ns_run x.1 x.2.1.1.2.1.1 x.2.1.1.2.2.1.1 x.2.1.1.2.2.2.1.1 x.2.1.1.2.2.2.2.1.1 hp _
def C8 : CV := (32, .inr ctNs) :: (31, .inr ctFa) :: C6
theorem cx8 : CxOK Try.prog tt G0 C8 := (cx6.consI fa_held (fn := Try.f31) rfl rfl rfl).consI ns_held (fn := Try.f32) rfl rfl rfl
end Go.Proofs.Ytijeaicbnfiegaa
