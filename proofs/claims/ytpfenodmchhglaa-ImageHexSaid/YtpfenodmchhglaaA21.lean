/-
  A part of the proof: what the run over an abstract memory gives; conditions: those of each theorem.
-/
import Derived.Test.YtpfenodmchhglaaA20
namespace Go.Ax
def setArgs : Nat → List Value → T Value → T Value
  | _, [], E => E
  | k, v :: l, E => setArgs (k + 1) l (T.set 20 E k v)
def resVal (P : Program) (E : T Value) (H : AHeap) : ResultVar → Option Value
  | .tmp t => E.get t
  | .cell a t => match E.get a with
    | some p => aLoad P H t p
    | none => none
def resOf : List Value → Value
  | [v] => v
  | vs => .tuple vs.toArray
/-- The marks of loops over functions, taken at a function's end. -/
def takeAll (H : AHeap) : List Nat → Option AHeap
  | [] => some H
  | d :: ds => match H.t.get d with
    | some (.deferred true) => if d < maxIds then takeAll (H.put d (.deferred false)) ds else none
    | _ => none
def putParams : List Tmp → List Value → Nat → T Value → Option (T Value)
  | [], [], _, E => some E
  | p :: ps, v :: vs, n, E => (putE n (some p) v E).bind fun E => putParams ps vs n E
  | _, _, _, _ => none
def jumpCode : AExit → Option Code
  | .normal => none
  | .exit id => some (.exit id)
  | .goto l => some (.goto l)
  | .ret => some .ret
def exitOf : Option Code → Option AExit
  | none => some .normal
  | some (.exit id) => some (.exit id)
  | some (.goto l) => some (.goto l)
  | some .ret => some .ret
  | some _ => none
/-- A code's step, given what nested requests give. -/
def codeStep (P : Program) (F : FuncId → Option Func) (ev : Req → Option Res) (fs : FrS) (c : Code) (s : AS) : Option Res :=
  match c with
  | .skip => some (.exit .normal s)
  | .label _ => some (.exit .normal s)
  | .seq a b => match ev (.code fs a s) with
    | some (.exit .normal s1) => ev (.code fs b s1)
    | r => r
  | .cond c a b => match aEval s.env c with
    | some (.bool t) => ev (.code fs (if t then a else b) s)
    | _ => none
  | .block id c => match ev (.code fs c s) with
    | some (.exit (.exit id') s1) => if id' = id then some (.exit .normal s1) else some (.exit (.exit id') s1)
    | r => r
  | .loop c => match ev (.code fs c s) with
    | some (.exit .normal s1) => ev (.again fs c s1)
    | r => r
  | .scope c => ev (.scope fs c c s)
  | .exit id => some (.exit (.exit id) s)
  | .goto l => some (.exit (.goto l) s)
  | .ret => some (.exit .ret s)
  | .region _ ops true => (opsDraw P (fun f => (F f).isSome) ev fs.n ops (s.env, s.H)).map fun r => .exit .normal { s with env := r.1, H := r.2 }
  | .region _ ops false => (opsRun P (fun f => (F f).isSome) ev fs.n ops (List.range ops.size) (s.env, s.H)).map fun r => .exit .normal { s with env := r.1, H := r.2 }
  | .rangeFunc f ps assign body =>
    match aEval s.env f with
    | some (.func (.func g) first captured) =>
      if (F g).isSome then
        let start (d : Nat) (H1 : AHeap) (defs : List Nat) : Option Res :=
          if H1.next < maxIds then
            match ev (.call g (first ++ #[.func (.yield H1.next) #[] #[]] ++ captured) (H1.add (.loop { state := .ready, pending := none, fn := fs.fn, tmps := #[], params := ps, assign, body, defers := d } s.env fs.n))) with
            | some (.value _ H3) =>
              match H3.t.get H1.next with
              | some (.loop L E n) => if L.state == .busy then none else
                match exitOf L.pending with
                | some e => some (.exit e { s with defs := defs, H := H3.put H1.next (.loop { L with state := .exhausted } E n) })
                | none => none
              | _ => none
            | _ => none
          else none
        match fs.rd with
        | none => if s.H.next < maxIds then start s.H.next (s.H.add (.deferred true)) (s.H.next :: s.defs) else none
        | some l => match s.H.t.get l with
          | some (.loop L _ _) => start L.defers s.H s.defs
          | _ => none
      else none
    | _ => none
  | .refuse _ => none
def eval (P : Program) (F : FuncId → Option Func) : Nat → Req → Option Res
  | 0, _ => none
  | k + 1, .code fs c s => codeStep P F (eval P F k) fs c s
  | k + 1, .again fs c s => match eval P F k (.code fs c s) with
    | some (.exit .normal s1) => eval P F k (.again fs c s1)
    | r => r
  | k + 1, .scope fs body rest s => match eval P F k (.code fs rest s) with
    | some (.exit (.goto l) s1) => match findLabel body l with
      | some rest => eval P F k (.scope fs body rest s1)
      | none => some (.exit (.goto l) s1)
    | r => r
  | k + 1, .call f args H => match F f with
    | some fn => match fn.body with
      | some c => if args.size ≤ fn.ntmps ∧ args.size < 1000 then
          match eval P F k (.code ⟨f, none, fn.ntmps⟩ c ⟨setArgs 0 args.toList .nil, [], H⟩) with
          | some (.exit e s) => match e with
            | .normal | .ret => (takeAll s.H s.defs).bind fun H2 => (allSome (fn.results.toList.map (resVal P s.env H2))).map fun vs => .value (resOf vs) H2
            | _ => none
          | _ => none
        else none
      | none => none
    | none => none
  | k + 1, .round l args H => match H.t.get l with
    | some (.loop L E n) =>
      if L.state == .ready ∧ args.size = L.params.size ∧ l < maxIds then
        match putParams L.params.toList args.toList n E with
        | some E1 => match eval P F k (.code ⟨L.fn, some l, n⟩ L.assign ⟨E1, [], H⟩) with
          | some (.exit .normal s1) => match s1.H.t.get l with
            | some (.loop L1 E' n') => if L1.state == .ready then
                match eval P F k (.code ⟨L.fn, some l, n⟩ L.body { s1 with H := s1.H.put l (.loop { L1 with state := .busy } E' n') }) with
                | some (.exit e s3) => match s3.H.t.get l, s3.defs with
                  | some (.loop L3 E3 n3), [] => some (.value (.bool (jumpCode e).isNone) (s3.H.put l (.loop { L3 with state := if (jumpCode e).isNone then .ready else .done, pending := jumpCode e } E3 n3)))
                  | _, _ => none
                | _ => none
              else none
            | _ => none
          | _ => none
        | none => none
      else none
    | _ => none
end Go.Ax
