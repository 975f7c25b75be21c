/-
  A part of the proof: what the run over an abstract memory gives; conditions: those of each theorem.
-/
import Derived.Test.YtpfenodmchhglaaA16
import Derived.Orders
namespace Go.Ax
structure FrS where
  fn : FuncId
  rd : Option Nat
  n : Nat
structure AS where
  env : T Value
  defs : List Nat
  H : AHeap
inductive AExit where
  | normal
  | exit (id : Nat)
  | goto (l : Nat)
  | ret
inductive Req where
  | code (fs : FrS) (c : Code) (s : AS)
  | again (fs : FrS) (c : Code) (s : AS)
  | scope (fs : FrS) (body rest : Code) (s : AS)
  | call (f : FuncId) (args : Array Value) (H : AHeap)
  | round (l : Nat) (args : Array Value) (H : AHeap)
inductive Res where
  | exit (e : AExit) (s : AS)
  | value (v : Value) (H : AHeap)
def aEval (E : T Value) : Operand → Option Value
  | .tmp t => E.get t
  | .const v => if flat v then some v else none
  | .global _ => none
  | .func f => some (.func (.func f) #[] #[])
def aYield (ops : Array Oper) (E : T Value) (j : Nat) : Option (Option Bool) :=
  match (ops[j]?).bind (·.dst) with
  | some d => match E.get d with
    | some (.bool b) => some (some b)
    | some (.tuple _) => some none
    | _ => none
  | none => none
def aWanted (ops : Array Oper) (o : Oper) (E : T Value) : Option Bool :=
  match o.guard with
  | none => some true
  | some (j, want) => (aYield ops E j).map fun y => y == some want
/-- What an operation gives, and the memory behind it. -/
def opEff (P : Program) (F : FuncId → Bool) (ev : Req → Option Res) (ops : Array Oper) (o : Oper) (E : T Value) (H : AHeap) : Option (Value × AHeap) :=
  match aWanted ops o E with
  | none => none
  | some false => some (undef, H)
  | some true =>
    match aOp P F (aEval E) H o with
    | none => none
    | some (.val v, H') => some (v, H')
    | some (.skip, H') => some (undef, H')
    | some (.enter f args, H') => match ev (.call f args H') with
      | some (.value v H2) => some (v, H2)
      | _ => none
    | some (.yld l args, H') => match ev (.round l args H') with
      | some (.value v H2) => some (v, H2)
      | _ => none
def putE (n : Nat) (dst : Option Tmp) (v : Value) (E : T Value) : Option (T Value) :=
  match dst with
  | none => some E
  | some d => if d < n ∧ d < 500000 then some (T.set 20 E d v) else none
def opStep (P : Program) (F : FuncId → Bool) (ev : Req → Option Res) (n : Nat) (ops : Array Oper) (i : Nat) (x : T Value × AHeap) : Option (T Value × AHeap) :=
  match ops[i]? with
  | none => none
  | some o => (opEff P F ev ops o x.1 x.2).bind fun r => (putE n o.dst r.1 x.1).map fun E => (E, r.2)
def opsRun (P : Program) (F : FuncId → Bool) (ev : Req → Option Res) (n : Nat) (ops : Array Oper) : List Nat → T Value × AHeap → Option (T Value × AHeap)
  | [], x => some x
  | i :: l, x => (opStep P F ev n ops i x).bind (opsRun P F ev n ops l)
/-- An operation that looks at no memory; one that only reads. -/
def pureOp : Op → Bool
  | .move _ | .assign _ | .pick _ _ _ | .build _ _ | .nilCheck _ | .binOp _ _ _ _ _ | .unOp _ _ _ | .makeInterface _ _ | .makeFunc _ _ _ | .fieldAddr _ _ _ | .field _ _ _ | .indexAddr _ _ _ | .index _ _ _ | .extract _ _ => true
  | .call c => match c.callee with
    | .builtin .len | .builtin .min | .builtin .max => true
    | _ => false
  | _ => false
def readOp : Op → Bool
  | .load _ _ | .slice _ _ _ _ _ => true
  | _ => false
end Go.Ax
