/-
  A part of the proof: what the run over an abstract memory gives; conditions: those of each theorem.
-/
import Derived.Test.YtpfenodmchhglaaA15
namespace Go.Ax
/-- A frame of the run: within a round of a loop over a function, or not. -/
def Fr (b : Frame) (a : Act) (todo : List Item) : Frame := { fn := b.fn, tmps := a.tmps, todo, defers := a.defers, mode := .run, kind := b.kind, roundOf := b.roundOf }
theorem Fr.eval (b : Frame) (a : Act) (todo : List Item) (x : Operand) : (Fr b a todo).eval x = a.eval x := by cases x <;> rfl
theorem Fr.eval' (b : Frame) (a : Act) (todo : List Item) : (Fr b a todo).eval = a.eval := funext (Fr.eval b a todo)
section
variable {P : Program} {b : Frame} {a : Act} {k : List Item} {cs : List Frame} {w : World}
theorem st_skip : step P (lone (Fr b a (.code .skip :: k)) cs w) = .next (lone (Fr b a k) cs w) := step_lone_go (by simp [stepG, stepG.exec, Fr])
theorem st_label {l : Nat} : step P (lone (Fr b a (.code (.label l) :: k)) cs w) = .next (lone (Fr b a k) cs w) := step_lone_go (by simp [stepG, stepG.exec, Fr])
theorem st_inBlock {id : Nat} : step P (lone (Fr b a (.inBlock id :: k)) cs w) = .next (lone (Fr b a k) cs w) := step_lone_go (by simp [stepG, stepG.exec, Fr])
theorem st_inScope {c : Code} : step P (lone (Fr b a (.inScope c :: k)) cs w) = .next (lone (Fr b a k) cs w) := step_lone_go (by simp [stepG, stepG.exec, Fr])
theorem st_seq {x y : Code} : step P (lone (Fr b a (.code (.seq x y) :: k)) cs w) = .next (lone (Fr b a (.code x :: .code y :: k)) cs w) := step_lone_go (by simp [stepG, stepG.exec, Fr])
theorem st_cond {c : Operand} {x y : Code} {t : Bool} (h : a.eval c = .bool t) : step P (lone (Fr b a (.code (.cond c x y) :: k)) cs w) = .next (lone (Fr b a (.code (if t then x else y) :: k)) cs w) :=
  step_lone_go (by
    have := Fr.eval b a (.code (.cond c x y) :: k) c
    simp only [Fr] at this
    simp [stepG, stepG.exec, Fr, this, h])
theorem st_block {id : Nat} {c : Code} : step P (lone (Fr b a (.code (.block id c) :: k)) cs w) = .next (lone (Fr b a (.code c :: .inBlock id :: k)) cs w) := step_lone_go (by simp [stepG, stepG.exec, Fr])
theorem st_scope {c : Code} : step P (lone (Fr b a (.code (.scope c) :: k)) cs w) = .next (lone (Fr b a (.code c :: .inScope c :: k)) cs w) := step_lone_go (by simp [stepG, stepG.exec, Fr])
theorem st_loop {c : Code} : step P (lone (Fr b a (.code (.loop c) :: k)) cs w) = .next (lone (Fr b a (.code c :: .inLoop c :: k)) cs w) := step_lone_go (by simp [stepG, stepG.exec, Fr])
theorem st_inLoop {c : Code} : step P (lone (Fr b a (.inLoop c :: k)) cs w) = .next (lone (Fr b a (.code c :: .inLoop c :: k)) cs w) := step_lone_go (by simp [stepG, stepG.exec, Fr])
theorem st_exit {id : Nat} {k' : List Item} (h : exitTo id k = some k') : step P (lone (Fr b a (.code (.exit id) :: k)) cs w) = .next (lone (Fr b a k') cs w) := step_lone_go (by simp [stepG, stepG.exec, Fr, h])
theorem st_goto {l : Nat} {k' : List Item} (h : gotoIn l k = some k') : step P (lone (Fr b a (.code (.goto l) :: k)) cs w) = .next (lone (Fr b a k') cs w) := step_lone_go (by simp [stepG, stepG.exec, Fr, h])
theorem st_region {id : Nat} {ops : Array Oper} : step P (lone (Fr b a (.code (.region id ops false) :: k)) cs w) = .next (lone (Fr b a (.inRegion ops (List.range ops.size) :: k)) cs w) := step_lone_go (by simp [stepG, stepG.exec, Fr])
theorem st_region_draw {id : Nat} {ops : Array Oper} : step P (lone (Fr b a (.code (.region id ops true) :: k)) cs w) =
    .next (lone (Fr b a (.inRegion ops (Region.schedule (P.follows .mixedOrders) ops (w.tape w.drawn (.order b.fn id))) :: k)) cs { w with drawn := w.drawn + 1 }) :=
  step_lone_go (by simp [stepG, stepG.exec, Fr, choose, Sem.run, Question.forced, Question.cut])
theorem st_region_end {ops : Array Oper} : step P (lone (Fr b a (.inRegion ops [] :: k)) cs w) = .next (lone (Fr b a k) cs w) := step_lone_go (by simp [stepG, stepG.exec, Fr])
theorem Fr.finish {ops : Array Oper} {i : Nat} {rest : List Nat} (v : Value) : (Fr b a (.inRegion ops (i :: rest) :: k)).finish v = Fr b (a.put ((ops[i]?).bind (·.dst)) v) (.inRegion ops rest :: k) := by
  cases h : (ops[i]?).bind (·.dst) <;> simp [Frame.finish, Fr, Act.put, h]
theorem st_op_skip {ops : Array Oper} {i : Nat} {rest : List Nat} (h : ((ops[i]?).map (Region.wanted · (yielded ops a.tmps))).getD false = false) :
    step P (lone (Fr b a (.inRegion ops (i :: rest) :: k)) cs w) = .next (lone (Fr b (a.put ((ops[i]?).bind (·.dst)) undef) (.inRegion ops rest :: k)) cs w) := by
  rw [← Fr.finish]
  exact step_lone_go (by
    have h' := h
    simp only [Fr] at *
    simp [stepG, stepG.exec, h'])
theorem stepG_op' {ops : Array Oper} {i : Nat} {rest : List Nat} {o : Oper} (ho : ops[i]? = some o) (hw : Region.wanted o (yielded ops a.tmps) = true) (hd : ∀ c, o.op ≠ .defer c) :
    stepG P true { frame := Fr b a (.inRegion ops (i :: rest) :: k), callers := cs, status := .running, dying := none } w =
      stepG.apply P true (Fr b a (.inRegion ops (i :: rest) :: k)) cs none (execOp a.eval o) w := by
  have he := Fr.eval' b a (.inRegion ops (i :: rest) :: k)
  simp only [Fr] at he
  simp only [stepG, stepG.exec, Fr, ho, Option.map_some, Option.getD_some, hw, if_true, stepG.oper, Frame.oper?, he]
  split
  · rename_i c _ hc; exact absurd hc (hd _)
  · rfl
theorem st_op {ops : Array Oper} {i : Nat} {rest : List Nat} {o : Oper} {v : Value} {w' : World} (ho : ops[i]? = some o) (hw : Region.wanted o (yielded ops a.tmps) = true) (hd : ∀ c, o.op ≠ .defer c)
    (hr : (execOp a.eval o).run P w = .ok (.value v) w') : step P (lone (Fr b a (.inRegion ops (i :: rest) :: k)) cs w) = .next (lone (Fr b (a.put o.dst v) (.inRegion ops rest :: k)) cs w') := by
  have hf : (Fr b a (.inRegion ops (i :: rest) :: k)).finish v = Fr b (a.put o.dst v) (.inRegion ops rest :: k) := by rw [Fr.finish, ho]; rfl
  rw [← hf]
  exact step_lone_go (by rw [stepG_op' ho hw hd]; simp [stepG.apply, hr])
theorem st_op_void {ops : Array Oper} {i : Nat} {rest : List Nat} {o : Oper} {w' : World} (ho : ops[i]? = some o) (hw : Region.wanted o (yielded ops a.tmps) = true) (hd : ∀ c, o.op ≠ .defer c)
    (hr : (execOp a.eval o).run P w = .ok .skip w') : step P (lone (Fr b a (.inRegion ops (i :: rest) :: k)) cs w) = .next (lone (Fr b (a.put o.dst undef) (.inRegion ops rest :: k)) cs w') := by
  have hf : (Fr b a (.inRegion ops (i :: rest) :: k)).finish undef = Fr b (a.put o.dst undef) (.inRegion ops rest :: k) := by rw [Fr.finish, ho]; rfl
  rw [← hf]
  exact step_lone_go (by rw [stepG_op' ho hw hd]; simp [stepG.apply, hr])
theorem st_op_enter {ops : Array Oper} {i : Nat} {rest : List Nat} {o : Oper} {f : FuncId} {args : Array Value} {w' : World} (ho : ops[i]? = some o) (hw : Region.wanted o (yielded ops a.tmps) = true) (hd : ∀ c, o.op ≠ .defer c)
    (hr : (execOp a.eval o).run P w = .ok (.enter f args) w') : step P (lone (Fr b a (.inRegion ops (i :: rest) :: k)) cs w) = .next (lone (Frame.enter P f args .normal) (Fr b a (.inRegion ops (i :: rest) :: k) :: cs) w') :=
  step_lone_go (by rw [stepG_op' ho hw hd]; simp [stepG.apply, hr, Fr])
theorem st_op_round {ops : Array Oper} {i : Nat} {rest : List Nat} {o : Oper} {l f : Nat} {tmps : Array Value} {assign body : Code} {w' : World} (ho : ops[i]? = some o) (hw : Region.wanted o (yielded ops a.tmps) = true) (hd : ∀ c, o.op ≠ .defer c)
    (hr : (execOp a.eval o).run P w = .ok (.round l f tmps assign body) w') : step P (lone (Fr b a (.inRegion ops (i :: rest) :: k)) cs w) = .next (lone (Frame.round l f tmps assign body .normal) (Fr b a (.inRegion ops (i :: rest) :: k) :: cs) w') :=
  step_lone_go (by rw [stepG_op' ho hw hd]; simp [stepG.apply, hr, Fr])
theorem st_end (hb : b.roundOf = none) : step P (lone (Fr b a []) cs w) = .next (lone { Fr b a [] with mode := .returning } cs w) := step_lone_go (by simp [stepG, stepG.exec, Fr, hb])
theorem st_ret (hb : b.roundOf = none) : step P (lone (Fr b a (.code .ret :: k)) cs w) = .next (lone { Fr b a (.code .ret :: k) with mode := .returning } cs w) := step_lone_go (by simp [stepG, stepG.exec, Fr, hb])
theorem st_collected {r : Nat} {ds : List Deferred} {w' : World} (hr : (Instr.takeDeferred r).run P w = .ok [] w') :
    step P (lone { Fr b { a with defers := { target := .collected r, args := #[] } :: ds } k with mode := .returning } cs w) = .next (lone { Fr b { a with defers := ds } k with mode := .returning } cs w') :=
  step_lone_go (by simp [stepG, Fr, unwind, Sem.runT_eq, hr])
/-- The end of a round. -/
def jumpOf : Code → Bool
  | .ret => true
  | .exit _ => true
  | .goto _ => true
  | _ => false
theorem st_round_end {l : Nat} {c : Frame} {v : Value} {w' : World} (hb : b.roundOf = some l) (hk : b.kind = .normal) (hr : (Instr.endRound l none).run P w = .ok v w') :
    step P (lone (Fr b a []) (c :: cs) w) = .next (lone (c.finish v) cs w') := step_lone_go (by simp [stepG, stepG.exec, Fr, hb, hk, Sem.runT_eq, hr, doReturn])
theorem st_round_ret {l : Nat} {c : Frame} {v : Value} {w' : World} (hb : b.roundOf = some l) (hk : b.kind = .normal) (hr : (Instr.endRound l (some .ret)).run P w = .ok v w') :
    step P (lone (Fr b a (.code .ret :: k)) (c :: cs) w) = .next (lone (c.finish v) cs w') := step_lone_go (by simp [stepG, stepG.exec, Fr, hb, hk, Sem.runT_eq, hr, doReturn])
theorem st_round_exit {l id : Nat} {c : Frame} {v : Value} {w' : World} (hb : b.roundOf = some l) (hk : b.kind = .normal) (he : exitTo id k = none) (hr : (Instr.endRound l (some (.exit id))).run P w = .ok v w') :
    step P (lone (Fr b a (.code (.exit id) :: k)) (c :: cs) w) = .next (lone (c.finish v) cs w') := step_lone_go (by simp [stepG, stepG.exec, Fr, hb, hk, he, Sem.runT_eq, hr, doReturn])
theorem st_round_goto {l id : Nat} {c : Frame} {v : Value} {w' : World} (hb : b.roundOf = some l) (hk : b.kind = .normal) (he : gotoIn id k = none) (hr : (Instr.endRound l (some (.goto id))).run P w = .ok v w') :
    step P (lone (Fr b a (.code (.goto id) :: k)) (c :: cs) w) = .next (lone (c.finish v) cs w') := step_lone_go (by simp [stepG, stepG.exec, Fr, hb, hk, he, Sem.runT_eq, hr, doReturn])
theorem st_beginRound {l : Nat} {w' : World} (hb : b.roundOf = some l) (hr : (Instr.beginRound l).run P w = .ok () w') :
    step P (lone (Fr b a (.beginRound :: k)) cs w) = .next (lone (Fr b a k) cs w') := step_lone_go (by simp [stepG, stepG.exec, stepG.apply, Fr, hb, Sem.runT_eq, hr, Frame.finish])
theorem st_rangeFunc {f : Operand} {ps : Array Tmp} {assign body : Code} {l : Nat} {mark : List Deferred} {w1 : World} {g : FuncId} {first captured : Array Value}
    (hr : (Instr.enterLoop b.fn a.tmps ps assign body b.roundOf).run P w = .ok (l, mark) w1) (hf : a.eval f = .func (.func g) first captured)
    (hg : ∀ args w, (callFunc g args).run P w = .ok (.enter g args) w) :
    step P (lone (Fr b a (.code (.rangeFunc f ps assign body) :: k)) cs w) =
      .next (lone (Frame.enter P g (first ++ #[.func (.yield l) #[] #[]] ++ captured) .normal) (Fr b { a with defers := mark ++ a.defers } (.inRangeFunc l :: k) :: cs) w1) := by
  have he := Fr.eval b { a with defers := mark ++ a.defers } (.inRangeFunc l :: k) f
  simp only [Fr] at he
  have hf' : ({ a with defers := mark ++ a.defers } : Act).eval f = .func (.func g) first captured := by rw [← hf]; cases f <;> rfl
  rw [hf'] at he
  have hx : ∀ y, (Frame.eval { fn := b.fn, tmps := a.tmps, todo := Item.inRangeFunc l :: k, defers := mark ++ a.defers, mode := FrameMode.run, kind := b.kind, roundOf := b.roundOf } (.const y)) = y := fun _ => rfl
  exact step_lone_go (by simp [stepG, stepG.exec, stepG.apply, Fr, Sem.runT_eq, hr, resolve, he, hx, Deferred.ofValue, invoke, hg])
theorem st_endRangeFunc {l : Nat} {jump : Option Code} {w1 : World} (hr : (Instr.endLoop l).run P w = .ok jump w1) :
    step P (lone (Fr b a (.endRangeFunc l :: k)) cs w) = .next (lone (Fr b a ((jump.map Item.code).toList ++ k)) cs w1) := step_lone_go (by simp [stepG, stepG.exec, Fr, Sem.runT_eq, hr])
end
end Go.Ax
