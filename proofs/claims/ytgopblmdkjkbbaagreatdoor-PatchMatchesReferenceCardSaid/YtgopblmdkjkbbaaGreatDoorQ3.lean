/-
  A part of the proof: what pieces of the program give; conditions: those of each theorem.
-/
import Derived.Test.YtgopblmdkjkbbaaGreatDoorQ2
import Derived.Test.YtgopblmdkjkbbaaGreatDoorHD
import Derived.Test.YtgopblmdkjkbbaaGreatDoorQ1
import Derived.KernelRfl
set_option linter.unusedVariables false
set_option linter.unusedSimpArgs false
namespace Go.Proofs.YtgopblmdkjkbbaaGreatDoor
open Go.Px Go.Ax
open Go.IntKind(i64 u32 u8)
set_option maxRecDepth 100000
abbrev ttO:TT:=match lk tt 91 with
 | some ti=>(91,ti)::tt
 | none=>tt
def COf:CV:=[(67,.inl ctIn),(72,.inl ctRsyB),(73,.inl ctRgo),(74,.inl ctRk)]
set_option maxRecDepth 100000
theorem q21 (m:Int) (l:List SyT) (Q:QT) (R:RT):sy ttO G0 COf Tryz.f24.ntmps Tryz.f24.results.toList Q (λ it S=>R it (qcb [0,1,4,6,7] [4,6,65,97] S)) 1000 [.code (qah Tryz.f24)] (entry [.sl syS,iI] (l,m,())) =
  (ctIn.pre (m,(0:Int),(65536:Int),())/\bc (!(decide ((0:Int)<=m)&&decide (m<=65536))) (true=true/\Q [.agg [.bool false,.i 0,.i 0,.nils],.i 60] [(4,.var [.bool false,.i 0,.i 0,.nils])]) (bc (bif false then true else decide ((65536:Int)<(l.length:Int))) (Q [.agg [.bool false,.i 0,.i 0,.nils],.i 60] [(4,.var [.bool false,.i 0,.i 0,.nils])]) (R (hd Tryz.f24 0) { env:=[(0,.sl syS l),(1,.i m),(4,.ptr 4 0),(6,.ptr 6 0),(7,.i 0)],blk:=[(4,.var [.bool false,.i 0,.i 0,.nils]),(6,.var [.bool false,.i m,.i (l.length:Int),.nils])] }))):=by kernel_rfl
theorem qz0 (m:Int) (l:List SyT) (i:Nat) (Q:QT) (R:RT):sy ttO G0 COf Tryz.f24.ntmps Tryz.f24.results.toList Q (λ it S=>R it (qcb [0,1,4,6,7] [4,6,65,97] S)) 1000 (hd Tryz.f24 0) ⟨[(0,.sl syS l),(1,.i m),(4,.ptr 4 0),(6,.ptr 6 0),(7,.i (i:Nat))],[(4,.var [.bool false,.i 0,.i 0,.nils]),(6,.var [.bool false,.i m,.i (l.length:Nat),.nils])]⟩ =
  (bc (decide ((i:Int)<(l.length:Int))) ((0:Int)<=(i:Int)/\(i:Int)<(l.length:Int)/\ctRsyB.pre ((gtY l (i:Int).toNat),m,())/\bc (!sOK m (gtY l (i:Int).toNat)) (Q [.agg [.bool false,.i 0,.i 0,.nils],.i 60] [(4,.var [.bool false,.i 0,.i 0,.nils]),(6,.var [.bool false,.i m,.i (l.length:Int),.nils])]) (bc (decide ((i:Int)=(0:Int))) (true=true/\(0:Int)<=(i:Int)/\(i:Int)<(l.length:Int)/\ctRk.pre ((gtY l (i:Int).toNat),())/\(0:Int)<=(i:Int)/\(i:Int)<(l.length:Int)/\(56:Nat)<=2 ^ 10/\(0:Int)<=i64.wrap ((↑(1:Nat):Int)-1)/\i64.wrap ((↑(1:Nat):Int)-1)<(↑(1:Nat):Int)/\0+(i64.wrap ((↑(1:Nat):Int)-1)).toNat=(0:Nat)/\0+(i64.wrap ((↑(1:Nat):Int)-1)).toNat=(0:Nat)/\0+(i64.wrap ((↑(1:Nat):Int)-1)).toNat=(0:Nat)/\bc (decide (rkd (gtY l (i:Int).toNat)≠1)) (0+(i64.wrap ((↑(1:Nat):Int)-1)).toNat=(0:Nat)/\(0:Int)<=(i:Int)/\(i:Int)<(l.length:Int)/\0+1<=((List.replicate (1:Nat) uB.dflt).set (0:Nat) (gtY l (i:Int).toNat).2.2).length/\(winL uB 0 1 ((List.replicate (1:Nat) uB.dflt).set (0:Nat) (gtY l (i:Int).toNat).2.2)).length<2 ^ 30/\(1:Nat)<=2 ^ 10/\0+(i64.wrap ((↑(1:Nat):Int)-1)).toNat=(0:Nat)/\R (hd Tryz.f24 0) { env:=[(0,.sl syS l),(1,.i m),(4,.ptr 4 0),(6,.ptr 6 0),(7,.i (i64.wrap ((i:Int)+1)))],blk:=[(4,.var [.bool false,.i 0,.i 0,.nils]),(6,.var [.bool false,.i m,.i (l.length:Int),.win true opS 65 0 (1:Nat)]),(65,.var [.arr (91:Nat) Sh.unit (List.replicate (91:TypeId) ()),.arr (0:Nat) opS [],.i (rkd (gtY l (i:Int).toNat)),.i (gtY l (i:Int).toNat).2.1,.i ((1:Int)),.u 0,.win true uB 97 0 (1:Nat)]),(97,.row 5 uB (winL uB 0 1 ((List.replicate (1:Nat) uB.dflt).set (0:Nat) (gtY l (i:Int).toNat).2.2)))] }) (R (hd Tryz.f24 0) { env:=[(0,.sl syS l),(1,.i m),(4,.ptr 4 0),(6,.ptr 6 0),(7,.i (i64.wrap ((i:Int)+1)))],blk:=[(4,.var [.bool false,.i 0,.i 0,.nils]),(6,.var [.bool false,.i m,.i (l.length:Int),.win true opS 65 0 (1:Nat)]),(65,.var [.arr (91:Nat) Sh.unit (List.replicate (91:TypeId) ()),.arr (0:Nat) opS [],.i (rkd (gtY l (i:Int).toNat)),.i (gtY l (i:Int).toNat).2.1,.i ((1:Int)),.u 0,.nils])] })) ((0:Int)<=i64.wrap ((i:Int)-1)/\i64.wrap ((i:Int)-1)<(l.length:Int)/\(0:Int)<=(i:Int)/\(i:Int)<(l.length:Int)/\ctRgo.pre ((gtY l (i64.wrap ((i:Int)-1)).toNat),(gtY l (i:Int).toNat),())/\bc (bif false then true else !rgoB (gtY l (i64.wrap ((i:Int)-1)).toNat) (gtY l (i:Int).toNat)) ((0:Int)<=(i:Int)/\(i:Int)<(l.length:Int)/\ctRk.pre ((gtY l (i:Int).toNat),())/\(0:Int)<=(i:Int)/\(i:Int)<(l.length:Int)/\(56:Nat)<=2 ^ 10/\(0:Int)<=i64.wrap ((↑(1:Nat):Int)-1)/\i64.wrap ((↑(1:Nat):Int)-1)<(↑(1:Nat):Int)/\0+(i64.wrap ((↑(1:Nat):Int)-1)).toNat=(0:Nat)/\0+(i64.wrap ((↑(1:Nat):Int)-1)).toNat=(0:Nat)/\0+(i64.wrap ((↑(1:Nat):Int)-1)).toNat=(0:Nat)/\bc (decide (rkd (gtY l (i:Int).toNat)≠1)) (0+(i64.wrap ((↑(1:Nat):Int)-1)).toNat=(0:Nat)/\(0:Int)<=(i:Int)/\(i:Int)<(l.length:Int)/\0+1<=((List.replicate (1:Nat) uB.dflt).set (0:Nat) (gtY l (i:Int).toNat).2.2).length/\(winL uB 0 1 ((List.replicate (1:Nat) uB.dflt).set (0:Nat) (gtY l (i:Int).toNat).2.2)).length<2 ^ 30/\(1:Nat)<=2 ^ 10/\0+(i64.wrap ((↑(1:Nat):Int)-1)).toNat=(0:Nat)/\R (hd Tryz.f24 0) { env:=[(0,.sl syS l),(1,.i m),(4,.ptr 4 0),(6,.ptr 6 0),(7,.i (i64.wrap ((i:Int)+1)))],blk:=[(4,.var [.bool false,.i 0,.i 0,.nils]),(6,.var [.bool false,.i m,.i (l.length:Int),.win true opS 65 0 (1:Nat)]),(65,.var [.arr (91:Nat) Sh.unit (List.replicate (91:TypeId) ()),.arr (0:Nat) opS [],.i (rkd (gtY l (i:Int).toNat)),.i (gtY l (i:Int).toNat).2.1,.i ((1:Int)),.u 0,.win true uB 97 0 (1:Nat)]),(97,.row 5 uB (winL uB 0 1 ((List.replicate (1:Nat) uB.dflt).set (0:Nat) (gtY l (i:Int).toNat).2.2)))] }) (R (hd Tryz.f24 0) { env:=[(0,.sl syS l),(1,.i m),(4,.ptr 4 0),(6,.ptr 6 0),(7,.i (i64.wrap ((i:Int)+1)))],blk:=[(4,.var [.bool false,.i 0,.i 0,.nils]),(6,.var [.bool false,.i m,.i (l.length:Int),.win true opS 65 0 (1:Nat)]),(65,.var [.arr (91:Nat) Sh.unit (List.replicate (91:TypeId) ()),.arr (0:Nat) opS [],.i (rkd (gtY l (i:Int).toNat)),.i (gtY l (i:Int).toNat).2.1,.i ((1:Int)),.u 0,.nils])] })) False))) (Q [.agg [.bool false,.i m,.i (l.length:Int),.nils],.i 0] [(4,.var [.bool false,.i m,.i (l.length:Int),.nils]),(6,.var [.bool false,.i m,.i (l.length:Int),.nils])])):=by kernel_rfl
def qjk (m:Int) (l:List SyT) (j:Nat) (xs:List OpT) (k a c b:Int):List (Nat × LB):=[(4,.var [.bool false,.i 0,.i 0,.nils]),(6,.var [.bool false,.i m,.i (l.length:Int),.win true opS 65 0 (j+(1:Nat))]),(65,.var [.arr (91:Nat) Sh.unit (List.replicate (91:Nat) ()),.arr j opS xs,.i k,.i a,.i c,.u b,.nils])]
theorem qzz (m:Int) (l:List SyT) (i j:Nat) (xs:List OpT) (k a c b:Int) (d:List Int) (Q:QT) (R:RT):sy ttO G0 COf Tryz.f24.ntmps Tryz.f24.results.toList Q (λ it S=>R it (qcb [0,1,4,6,7] [4,6,65,97] S)) 1000 (hd Tryz.f24 0) ⟨[(0,.sl syS l),(1,.i m),(4,.ptr 4 0),(6,.ptr 6 0),(7,.i (i:Nat))],[(4,.var [.bool false,.i 0,.i 0,.nils]),(6,.var [.bool false,.i m,.i (l.length:Nat),.win true opS 65 0 (j+1)]),(65,.var [.arr 91 .unit (List.replicate 91 ()),.arr j opS xs,.i k,.i a,.i c,.u b,.nils])]⟩ =
  (bc (decide ((i:Int)<(l.length:Int))) ((0:Int)<=(i:Int)/\(i:Int)<(l.length:Int)/\ctRsyB.pre ((gtY l (i:Int).toNat),m,())/\bc (!sOK m (gtY l (i:Int).toNat)) (Q [.agg [.bool false,.i 0,.i 0,.nils],.i 60] (qjk m l j xs k a c b)) (bc (decide ((i:Int)=(0:Int))) (true=true/\(0:Int)<=(i:Int)/\(i:Int)<(l.length:Int)/\ctRk.pre ((gtY l (i:Int).toNat),())/\(0:Int)<=(i:Int)/\(i:Int)<(l.length:Int)/\j+1=j+1/\j+2<2 ^ 30/\(56:Nat)<=2 ^ 10/\(0:Int)<=i64.wrap ((↑(j+1+1):Int)-1)/\i64.wrap ((↑(j+1+1):Int)-1)<(↑(j+1+1):Int)/\0+(i64.wrap ((↑(j+1+1):Int)-1)).toNat=j+1/\0+(i64.wrap ((↑(j+1+1):Int)-1)).toNat=j+1/\0+(i64.wrap ((↑(j+1+1):Int)-1)).toNat=j+1/\bc (decide (rkd (gtY l (i:Int).toNat)≠1)) (0+(i64.wrap ((↑(j+1+1):Int)-1)).toNat=j+1/\(0:Int)<=(i:Int)/\(i:Int)<(l.length:Int)/\0+1<=((List.replicate (1:Nat) uB.dflt).set (0:Nat) (gtY l (i:Int).toNat).2.2).length/\(winL uB 0 1 ((List.replicate (1:Nat) uB.dflt).set (0:Nat) (gtY l (i:Int).toNat).2.2)).length<2 ^ 30/\(1:Nat)<=2 ^ 10/\0+(i64.wrap ((↑(j+1+1):Int)-1)).toNat=j+1/\R (hd Tryz.f24 0) { env:=[(0,.sl syS l),(1,.i m),(4,.ptr 4 0),(6,.ptr 6 0),(7,.i (i64.wrap ((i:Int)+1)))],blk:=[(4,.var [.bool false,.i 0,.i 0,.nils]),(6,.var [.bool false,.i m,.i (l.length:Int),.win true opS 65 0 (j+1+1)]),(65,.var [.arr (91:Nat) Sh.unit (List.replicate (91:TypeId) ()),.arr (j+1) opS (xs++[(k,a,c,b,[])]),.i (rkd (gtY l (i:Int).toNat)),.i (gtY l (i:Int).toNat).2.1,.i ((1:Int)),.u 0,.win true uB 97 0 (1:Nat)]),(97,.row 5 uB (winL uB 0 1 ((List.replicate (1:Nat) uB.dflt).set (0:Nat) (gtY l (i:Int).toNat).2.2)))] }) (R (hd Tryz.f24 0) { env:=[(0,.sl syS l),(1,.i m),(4,.ptr 4 0),(6,.ptr 6 0),(7,.i (i64.wrap ((i:Int)+1)))],blk:=[(4,.var [.bool false,.i 0,.i 0,.nils]),(6,.var [.bool false,.i m,.i (l.length:Int),.win true opS 65 0 (j+1+1)]),(65,.var [.arr (91:Nat) Sh.unit (List.replicate (91:TypeId) ()),.arr (j+1) opS (xs++[(k,a,c,b,[])]),.i (rkd (gtY l (i:Int).toNat)),.i (gtY l (i:Int).toNat).2.1,.i ((1:Int)),.u 0,.nils])] })) ((0:Int)<=i64.wrap ((i:Int)-1)/\i64.wrap ((i:Int)-1)<(l.length:Int)/\(0:Int)<=(i:Int)/\(i:Int)<(l.length:Int)/\ctRgo.pre ((gtY l (i64.wrap ((i:Int)-1)).toNat),(gtY l (i:Int).toNat),())/\bc (bif false then true else !rgoB (gtY l (i64.wrap ((i:Int)-1)).toNat) (gtY l (i:Int).toNat)) ((0:Int)<=(i:Int)/\(i:Int)<(l.length:Int)/\ctRk.pre ((gtY l (i:Int).toNat),())/\(0:Int)<=(i:Int)/\(i:Int)<(l.length:Int)/\j+1=j+1/\j+2<2 ^ 30/\(56:Nat)<=2 ^ 10/\(0:Int)<=i64.wrap ((↑(j+1+1):Int)-1)/\i64.wrap ((↑(j+1+1):Int)-1)<(↑(j+1+1):Int)/\0+(i64.wrap ((↑(j+1+1):Int)-1)).toNat=j+1/\0+(i64.wrap ((↑(j+1+1):Int)-1)).toNat=j+1/\0+(i64.wrap ((↑(j+1+1):Int)-1)).toNat=j+1/\bc (decide (rkd (gtY l (i:Int).toNat)≠1)) (0+(i64.wrap ((↑(j+1+1):Int)-1)).toNat=j+1/\(0:Int)<=(i:Int)/\(i:Int)<(l.length:Int)/\0+1<=((List.replicate (1:Nat) uB.dflt).set (0:Nat) (gtY l (i:Int).toNat).2.2).length/\(winL uB 0 1 ((List.replicate (1:Nat) uB.dflt).set (0:Nat) (gtY l (i:Int).toNat).2.2)).length<2 ^ 30/\(1:Nat)<=2 ^ 10/\0+(i64.wrap ((↑(j+1+1):Int)-1)).toNat=j+1/\R (hd Tryz.f24 0) { env:=[(0,.sl syS l),(1,.i m),(4,.ptr 4 0),(6,.ptr 6 0),(7,.i (i64.wrap ((i:Int)+1)))],blk:=[(4,.var [.bool false,.i 0,.i 0,.nils]),(6,.var [.bool false,.i m,.i (l.length:Int),.win true opS 65 0 (j+1+1)]),(65,.var [.arr (91:Nat) Sh.unit (List.replicate (91:TypeId) ()),.arr (j+1) opS (xs++[(k,a,c,b,[])]),.i (rkd (gtY l (i:Int).toNat)),.i (gtY l (i:Int).toNat).2.1,.i ((1:Int)),.u 0,.win true uB 97 0 (1:Nat)]),(97,.row 5 uB (winL uB 0 1 ((List.replicate (1:Nat) uB.dflt).set (0:Nat) (gtY l (i:Int).toNat).2.2)))] }) (R (hd Tryz.f24 0) { env:=[(0,.sl syS l),(1,.i m),(4,.ptr 4 0),(6,.ptr 6 0),(7,.i (i64.wrap ((i:Int)+1)))],blk:=[(4,.var [.bool false,.i 0,.i 0,.nils]),(6,.var [.bool false,.i m,.i (l.length:Int),.win true opS 65 0 (j+1+1)]),(65,.var [.arr (91:Nat) Sh.unit (List.replicate (91:TypeId) ()),.arr (j+1) opS (xs++[(k,a,c,b,[])]),.i (rkd (gtY l (i:Int).toNat)),.i (gtY l (i:Int).toNat).2.1,.i ((1:Int)),.u 0,.nils])] })) ((0:Int)<=i64.wrap ((↑(j+1):Int)-1)/\i64.wrap ((↑(j+1):Int)-1)<(↑(j+1):Int)/\0+(i64.wrap ((↑(j+1):Int)-1)).toNat=j/\0+(i64.wrap ((↑(j+1):Int)-1)).toNat=j/\0+(i64.wrap ((↑(j+1):Int)-1)).toNat=j/\bc (decide (k≠1)) (0+(i64.wrap ((↑(j+1):Int)-1)).toNat=j/\(0:Int)<=(i:Int)/\(i:Int)<(l.length:Int)/\0+1<=((List.replicate (1:Nat) uB.dflt).set (0:Nat) (gtY l (i:Int).toNat).2.2).length/\(winL uB 0 1 ((List.replicate (1:Nat) uB.dflt).set (0:Nat) (gtY l (i:Int).toNat).2.2)).length<2 ^ 30/\(1:Nat)<=2 ^ 10/\0+(i64.wrap ((↑(j+1):Int)-1)).toNat=j/\R (hd Tryz.f24 0) { env:=[(0,.sl syS l),(1,.i m),(4,.ptr 4 0),(6,.ptr 6 0),(7,.i (i64.wrap ((i:Int)+1)))],blk:=[(4,.var [.bool false,.i 0,.i 0,.nils]),(6,.var [.bool false,.i m,.i (l.length:Int),.win true opS 65 0 (j+1)]),(65,.var [.arr (91:Nat) Sh.unit (List.replicate (91:Nat) ()),.arr j opS xs,.i k,.i a,.i (i64.wrap (c+1)),.u b,.win true uB 97 0 (1:Nat)]),(97,.row 5 uB (winL uB 0 1 ((List.replicate (1:Nat) uB.dflt).set (0:Nat) (gtY l (i:Int).toNat).2.2)))] }) (R (hd Tryz.f24 0) { env:=[(0,.sl syS l),(1,.i m),(4,.ptr 4 0),(6,.ptr 6 0),(7,.i (i64.wrap ((i:Int)+1)))],blk:=[(4,.var [.bool false,.i 0,.i 0,.nils]),(6,.var [.bool false,.i m,.i (l.length:Int),.win true opS 65 0 (j+1)]),(65,.var [.arr (91:Nat) Sh.unit (List.replicate (91:Nat) ()),.arr j opS xs,.i k,.i a,.i (i64.wrap (c+1)),.u b,.nils])] }))))) (bc (decide ((4096:Int)<(↑(j+1):Int))) (Q [.agg [.bool false,.i 0,.i 0,.nils],.i 2] (qjk m l j xs k a c b)) (Q [.agg [.bool false,.i m,.i (l.length:Int),.win true opS 65 0 (j+1)],.i 0] [(4,.var [.bool false,.i m,.i (l.length:Int),.win true opS 65 0 (j+1)]),(6,.var [.bool false,.i m,.i (l.length:Int),.win true opS 65 0 (j+1)]),(65,.var [.arr (91:Nat) Sh.unit (List.replicate (91:Nat) ()),.arr j opS xs,.i k,.i a,.i c,.u b,.nils])]))):=by kernel_rfl
def qjj (m:Int) (l:List SyT) (j:Nat) (xs:List OpT) (k a c b:Int) (d:List Int):List (Nat × LB):=[(4,.var [.bool false,.i 0,.i 0,.nils]),(6,.var [.bool false,.i m,.i (l.length:Int),.win true opS 65 0 (j+(1:Nat))]),(65,.var [.arr (91:Nat) Sh.unit (List.replicate (91:Nat) ()),.arr j opS xs,.i k,.i a,.i c,.u b,.win true uB 97 0 d.length]),(97,.row 5 uB d)]
theorem qzy (m:Int) (l:List SyT) (i j:Nat) (xs:List OpT) (k a c b:Int) (d:List Int) (Q:QT) (R:RT):sy ttO G0 COf Tryz.f24.ntmps Tryz.f24.results.toList Q (λ it S=>R it (qcb [0,1,4,6,7] [4,6,65,97] S)) 1000 (hd Tryz.f24 0) ⟨[(0,.sl syS l),(1,.i m),(4,.ptr 4 0),(6,.ptr 6 0),(7,.i (i:Nat))],[(4,.var [.bool false,.i 0,.i 0,.nils]),(6,.var [.bool false,.i m,.i (l.length:Nat),.win true opS 65 0 (j+1)]),(65,.var [.arr 91 .unit (List.replicate 91 ()),.arr j opS xs,.i k,.i a,.i c,.u b,.win true uB 97 0 d.length]),(97,.row 5 uB d)]⟩ =
  (bc (decide ((i:Int)<(l.length:Int))) ((0:Int)<=(i:Int)/\(i:Int)<(l.length:Int)/\ctRsyB.pre ((gtY l (i:Int).toNat),m,())/\bc (!sOK m (gtY l (i:Int).toNat)) (Q [.agg [.bool false,.i 0,.i 0,.nils],.i 60] (qjj m l j xs k a c b d)) (bc (decide ((i:Int)=(0:Int))) (true=true/\(0:Int)<=(i:Int)/\(i:Int)<(l.length:Int)/\ctRk.pre ((gtY l (i:Int).toNat),())/\(0:Int)<=(i:Int)/\(i:Int)<(l.length:Int)/\False) ((0:Int)<=i64.wrap ((i:Int)-1)/\i64.wrap ((i:Int)-1)<(l.length:Int)/\(0:Int)<=(i:Int)/\(i:Int)<(l.length:Int)/\ctRgo.pre ((gtY l (i64.wrap ((i:Int)-1)).toNat),(gtY l (i:Int).toNat),())/\bc (bif false then true else !rgoB (gtY l (i64.wrap ((i:Int)-1)).toNat) (gtY l (i:Int).toNat)) ((0:Int)<=(i:Int)/\(i:Int)<(l.length:Int)/\ctRk.pre ((gtY l (i:Int).toNat),())/\(0:Int)<=(i:Int)/\(i:Int)<(l.length:Int)/\False) ((0:Int)<=i64.wrap ((↑(j+1):Int)-1)/\i64.wrap ((↑(j+1):Int)-1)<(↑(j+1):Int)/\0+(i64.wrap ((↑(j+1):Int)-1)).toNat=j/\0+(i64.wrap ((↑(j+1):Int)-1)).toNat=j/\0+(i64.wrap ((↑(j+1):Int)-1)).toNat=j/\bc (decide (k≠1)) (0+(i64.wrap ((↑(j+1):Int)-1)).toNat=j/\(0:Int)<=(i:Int)/\(i:Int)<(l.length:Int)/\0+1<=((List.replicate (1:Nat) uB.dflt).set (0:Nat) (gtY l (i:Int).toNat).2.2).length/\d.length=d.length/\(0:Nat)=(0:Nat)/\d.length+(winL uB 0 1 ((List.replicate (1:Nat) uB.dflt).set (0:Nat) (gtY l (i:Int).toNat).2.2)).length<2 ^ 30/\(1:Nat)<=2 ^ 10/\0+(i64.wrap ((↑(j+1):Int)-1)).toNat=j/\R (hd Tryz.f24 0) { env:=[(0,.sl syS l),(1,.i m),(4,.ptr 4 0),(6,.ptr 6 0),(7,.i (i64.wrap ((i:Int)+1)))],blk:=[(4,.var [.bool false,.i 0,.i 0,.nils]),(6,.var [.bool false,.i m,.i (l.length:Int),.win true opS 65 0 (j+1)]),(65,.var [.arr (91:Nat) Sh.unit (List.replicate (91:Nat) ()),.arr j opS xs,.i k,.i a,.i (i64.wrap (c+1)),.u b,.win true uB 97 0 (d.length+(winL uB 0 1 ((List.replicate (1:Nat) uB.dflt).set (0:Nat) (gtY l (i:Int).toNat).2.2)).length)]),(97,.row 5 uB (d++winL uB 0 1 ((List.replicate (1:Nat) uB.dflt).set (0:Nat) (gtY l (i:Int).toNat).2.2)))] }) (R (hd Tryz.f24 0) { env:=[(0,.sl syS l),(1,.i m),(4,.ptr 4 0),(6,.ptr 6 0),(7,.i (i64.wrap ((i:Int)+1)))],blk:=[(4,.var [.bool false,.i 0,.i 0,.nils]),(6,.var [.bool false,.i m,.i (l.length:Int),.win true opS 65 0 (j+1)]),(65,.var [.arr (91:Nat) Sh.unit (List.replicate (91:Nat) ()),.arr j opS xs,.i k,.i a,.i (i64.wrap (c+1)),.u b,.win true uB 97 0 d.length]),(97,.row 5 uB d)] }))))) (bc (decide ((4096:Int)<(↑(j+1):Int))) (Q [.agg [.bool false,.i 0,.i 0,.nils],.i 2] (qjj m l j xs k a c b d)) (Q [.agg [.bool false,.i m,.i (l.length:Int),.win true opS 65 0 (j+1)],.i 0] [(4,.var [.bool false,.i m,.i (l.length:Int),.win true opS 65 0 (j+1)]),(6,.var [.bool false,.i m,.i (l.length:Int),.win true opS 65 0 (j+1)]),(65,.var [.arr (91:Nat) Sh.unit (List.replicate (91:Nat) ()),.arr j opS xs,.i k,.i a,.i c,.u b,.win true uB 97 0 d.length]),(97,.row 5 uB d)]))):=by kernel_rfl
def qji (m:Int) (l:List SyT) (j:Nat) (xs:List OpT) (k a c b:Int) (d:List Int):List (Nat × LB):=[(4,.var [.bool false,.i 0,.i 0,.nils]),(6,.var [.bool false,.i m,.i (l.length:Int),.win true opS 65 0 (j+(1:Nat))]),(65,.var [.arr (91:Nat) Sh.unit (List.replicate (91:Nat) ()),.arr j opS xs,.i k,.i a,.i c,.u b,.sl uB d])]
theorem qzx (m:Int) (l:List SyT) (i j:Nat) (xs:List OpT) (k a c b:Int) (d:List Int) (Q:QT) (R:RT):sy ttO G0 COf Tryz.f24.ntmps Tryz.f24.results.toList Q (λ it S=>R it (qcb [0,1,4,6,7] [4,6,65,97] S)) 1000 (hd Tryz.f24 0) ⟨[(0,.sl syS l),(1,.i m),(4,.ptr 4 0),(6,.ptr 6 0),(7,.i (i:Nat))],[(4,.var [.bool false,.i 0,.i 0,.nils]),(6,.var [.bool false,.i m,.i (l.length:Nat),.win true opS 65 0 (j+1)]),(65,.var [.arr 91 .unit (List.replicate 91 ()),.arr j opS xs,.i k,.i a,.i c,.u b,.sl uB d])]⟩ =
  (bc (decide ((i:Int)<(l.length:Int))) ((0:Int)<=(i:Int)/\(i:Int)<(l.length:Int)/\ctRsyB.pre ((gtY l (i:Int).toNat),m,())/\bc (!sOK m (gtY l (i:Int).toNat)) (Q [.agg [.bool false,.i 0,.i 0,.nils],.i 60] (qji m l j xs k a c b d)) (bc (decide ((i:Int)=(0:Int))) (true=true/\(0:Int)<=(i:Int)/\(i:Int)<(l.length:Int)/\ctRk.pre ((gtY l (i:Int).toNat),())/\(0:Int)<=(i:Int)/\(i:Int)<(l.length:Int)/\j+1=j+1/\j+2<2 ^ 30/\(56:Nat)<=2 ^ 10/\(0:Int)<=i64.wrap ((↑(j+1+1):Int)-1)/\i64.wrap ((↑(j+1+1):Int)-1)<(↑(j+1+1):Int)/\0+(i64.wrap ((↑(j+1+1):Int)-1)).toNat=j+1/\0+(i64.wrap ((↑(j+1+1):Int)-1)).toNat=j+1/\0+(i64.wrap ((↑(j+1+1):Int)-1)).toNat=j+1/\bc (decide (rkd (gtY l (i:Int).toNat)≠1)) (0+(i64.wrap ((↑(j+1+1):Int)-1)).toNat=j+1/\(0:Int)<=(i:Int)/\(i:Int)<(l.length:Int)/\0+1<=((List.replicate (1:Nat) uB.dflt).set (0:Nat) (gtY l (i:Int).toNat).2.2).length/\(winL uB 0 1 ((List.replicate (1:Nat) uB.dflt).set (0:Nat) (gtY l (i:Int).toNat).2.2)).length<2 ^ 30/\(1:Nat)<=2 ^ 10/\0+(i64.wrap ((↑(j+1+1):Int)-1)).toNat=j+1/\R (hd Tryz.f24 0) { env:=[(0,.sl syS l),(1,.i m),(4,.ptr 4 0),(6,.ptr 6 0),(7,.i (i64.wrap ((i:Int)+1)))],blk:=[(4,.var [.bool false,.i 0,.i 0,.nils]),(6,.var [.bool false,.i m,.i (l.length:Int),.win true opS 65 0 (j+1+1)]),(65,.var [.arr (91:Nat) Sh.unit (List.replicate (91:TypeId) ()),.arr (j+1) opS (xs++[(k,a,c,b,d)]),.i (rkd (gtY l (i:Int).toNat)),.i (gtY l (i:Int).toNat).2.1,.i ((1:Int)),.u 0,.win true uB 97 0 (1:Nat)]),(97,.row 5 uB (winL uB 0 1 ((List.replicate (1:Nat) uB.dflt).set (0:Nat) (gtY l (i:Int).toNat).2.2)))] }) (R (hd Tryz.f24 0) { env:=[(0,.sl syS l),(1,.i m),(4,.ptr 4 0),(6,.ptr 6 0),(7,.i (i64.wrap ((i:Int)+1)))],blk:=[(4,.var [.bool false,.i 0,.i 0,.nils]),(6,.var [.bool false,.i m,.i (l.length:Int),.win true opS 65 0 (j+1+1)]),(65,.var [.arr (91:Nat) Sh.unit (List.replicate (91:TypeId) ()),.arr (j+1) opS (xs++[(k,a,c,b,d)]),.i (rkd (gtY l (i:Int).toNat)),.i (gtY l (i:Int).toNat).2.1,.i ((1:Int)),.u 0,.nils])] })) ((0:Int)<=i64.wrap ((i:Int)-1)/\i64.wrap ((i:Int)-1)<(l.length:Int)/\(0:Int)<=(i:Int)/\(i:Int)<(l.length:Int)/\ctRgo.pre ((gtY l (i64.wrap ((i:Int)-1)).toNat),(gtY l (i:Int).toNat),())/\bc (bif false then true else !rgoB (gtY l (i64.wrap ((i:Int)-1)).toNat) (gtY l (i:Int).toNat)) ((0:Int)<=(i:Int)/\(i:Int)<(l.length:Int)/\ctRk.pre ((gtY l (i:Int).toNat),())/\(0:Int)<=(i:Int)/\(i:Int)<(l.length:Int)/\j+1=j+1/\j+2<2 ^ 30/\(56:Nat)<=2 ^ 10/\(0:Int)<=i64.wrap ((↑(j+1+1):Int)-1)/\i64.wrap ((↑(j+1+1):Int)-1)<(↑(j+1+1):Int)/\0+(i64.wrap ((↑(j+1+1):Int)-1)).toNat=j+1/\0+(i64.wrap ((↑(j+1+1):Int)-1)).toNat=j+1/\0+(i64.wrap ((↑(j+1+1):Int)-1)).toNat=j+1/\bc (decide (rkd (gtY l (i:Int).toNat)≠1)) (0+(i64.wrap ((↑(j+1+1):Int)-1)).toNat=j+1/\(0:Int)<=(i:Int)/\(i:Int)<(l.length:Int)/\0+1<=((List.replicate (1:Nat) uB.dflt).set (0:Nat) (gtY l (i:Int).toNat).2.2).length/\(winL uB 0 1 ((List.replicate (1:Nat) uB.dflt).set (0:Nat) (gtY l (i:Int).toNat).2.2)).length<2 ^ 30/\(1:Nat)<=2 ^ 10/\0+(i64.wrap ((↑(j+1+1):Int)-1)).toNat=j+1/\R (hd Tryz.f24 0) { env:=[(0,.sl syS l),(1,.i m),(4,.ptr 4 0),(6,.ptr 6 0),(7,.i (i64.wrap ((i:Int)+1)))],blk:=[(4,.var [.bool false,.i 0,.i 0,.nils]),(6,.var [.bool false,.i m,.i (l.length:Int),.win true opS 65 0 (j+1+1)]),(65,.var [.arr (91:Nat) Sh.unit (List.replicate (91:TypeId) ()),.arr (j+1) opS (xs++[(k,a,c,b,d)]),.i (rkd (gtY l (i:Int).toNat)),.i (gtY l (i:Int).toNat).2.1,.i ((1:Int)),.u 0,.win true uB 97 0 (1:Nat)]),(97,.row 5 uB (winL uB 0 1 ((List.replicate (1:Nat) uB.dflt).set (0:Nat) (gtY l (i:Int).toNat).2.2)))] }) (R (hd Tryz.f24 0) { env:=[(0,.sl syS l),(1,.i m),(4,.ptr 4 0),(6,.ptr 6 0),(7,.i (i64.wrap ((i:Int)+1)))],blk:=[(4,.var [.bool false,.i 0,.i 0,.nils]),(6,.var [.bool false,.i m,.i (l.length:Int),.win true opS 65 0 (j+1+1)]),(65,.var [.arr (91:Nat) Sh.unit (List.replicate (91:TypeId) ()),.arr (j+1) opS (xs++[(k,a,c,b,d)]),.i (rkd (gtY l (i:Int).toNat)),.i (gtY l (i:Int).toNat).2.1,.i ((1:Int)),.u 0,.nils])] })) ((0:Int)<=i64.wrap ((↑(j+1):Int)-1)/\i64.wrap ((↑(j+1):Int)-1)<(↑(j+1):Int)/\0+(i64.wrap ((↑(j+1):Int)-1)).toNat=j/\0+(i64.wrap ((↑(j+1):Int)-1)).toNat=j/\0+(i64.wrap ((↑(j+1):Int)-1)).toNat=j/\bc (decide (k≠1)) (0+(i64.wrap ((↑(j+1):Int)-1)).toNat=j/\(0:Int)<=(i:Int)/\(i:Int)<(l.length:Int)/\False) (R (hd Tryz.f24 0) { env:=[(0,.sl syS l),(1,.i m),(4,.ptr 4 0),(6,.ptr 6 0),(7,.i (i64.wrap ((i:Int)+1)))],blk:=[(4,.var [.bool false,.i 0,.i 0,.nils]),(6,.var [.bool false,.i m,.i (l.length:Int),.win true opS 65 0 (j+1)]),(65,.var [.arr (91:Nat) Sh.unit (List.replicate (91:Nat) ()),.arr j opS xs,.i k,.i a,.i (i64.wrap (c+1)),.u b,.sl uB d])] }))))) (bc (decide ((4096:Int)<(↑(j+1):Int))) (Q [.agg [.bool false,.i 0,.i 0,.nils],.i 2] (qji m l j xs k a c b d)) (Q [.agg [.bool false,.i m,.i (l.length:Int),.win true opS 65 0 (j+1)],.i 0] [(4,.var [.bool false,.i m,.i (l.length:Int),.win true opS 65 0 (j+1)]),(6,.var [.bool false,.i m,.i (l.length:Int),.win true opS 65 0 (j+1)]),(65,.var [.arr (91:Nat) Sh.unit (List.replicate (91:Nat) ()),.arr j opS xs,.i k,.i a,.i c,.u b,.sl uB d])]))):=by kernel_rfl
def qjh (m:Int) (l:List SyT) (d:List OpT):List (Nat × LB):=[(4,.var [.bool false,.i 0,.i 0,.nils]),(6,.var [.bool false,.i m,.i (l.length:Int),.sl opS d])]
theorem qzw (m:Int) (l:List SyT) (d:List OpT) (i:Nat) (Q:QT) (R:RT):sy ttO G0 COf Tryz.f24.ntmps Tryz.f24.results.toList Q (λ it S=>R it (qcb [0,1,4,6,7] [4,6,65,97] S)) 1000 (hd Tryz.f24 0) ⟨[(0,.sl syS l),(1,.i m),(4,.ptr 4 0),(6,.ptr 6 0),(7,.i (i:Nat))],[(4,.var [.bool false,.i 0,.i 0,.nils]),(6,.var [.bool false,.i m,.i (l.length:Nat),.sl opS d])]⟩ =
  (bc (decide ((i:Int)<(l.length:Int))) ((0:Int)<=(i:Int)/\(i:Int)<(l.length:Int)/\ctRsyB.pre ((gtY l (i:Int).toNat),m,())/\bc (!sOK m (gtY l (i:Int).toNat)) (Q [.agg [.bool false,.i 0,.i 0,.nils],.i 60] (qjh m l d)) (bc (decide ((i:Int)=(0:Int))) (true=true/\(0:Int)<=(i:Int)/\(i:Int)<(l.length:Int)/\ctRk.pre ((gtY l (i:Int).toNat),())/\(0:Int)<=(i:Int)/\(i:Int)<(l.length:Int)/\False) ((0:Int)<=i64.wrap ((i:Int)-1)/\i64.wrap ((i:Int)-1)<(l.length:Int)/\(0:Int)<=(i:Int)/\(i:Int)<(l.length:Int)/\ctRgo.pre ((gtY l (i64.wrap ((i:Int)-1)).toNat),(gtY l (i:Int).toNat),())/\bc (bif false then true else !rgoB (gtY l (i64.wrap ((i:Int)-1)).toNat) (gtY l (i:Int).toNat)) ((0:Int)<=(i:Int)/\(i:Int)<(l.length:Int)/\ctRk.pre ((gtY l (i:Int).toNat),())/\(0:Int)<=(i:Int)/\(i:Int)<(l.length:Int)/\False) ((0:Int)<=i64.wrap ((d.length:Int)-1)/\i64.wrap ((d.length:Int)-1)<(d.length:Int)/\False)))) (bc (decide ((4096:Int)<(d.length:Int))) (Q [.agg [.bool false,.i 0,.i 0,.nils],.i 2] (qjh m l d)) (Q [.agg [.bool false,.i m,.i (l.length:Int),.sl opS d],.i 0] [(4,.var [.bool false,.i m,.i (l.length:Int),.sl opS d]),(6,.var [.bool false,.i m,.i (l.length:Int),.sl opS d])]))):=by kernel_rfl
attribute [local irreducible] Go.Px.sy Go.Px.syE
theorem q3x {tt:TT} {a:Nat} {ti:TI} (h:lk tt a=some ti) (t:Nat):lk ((a,ti)::tt) t=lk tt t:=by
 simp only[lk];split
 next e=>subst e;exact h.symm
 ·rfl
theorem q25:∀ t,lk ttO t=lk tt t:=by
 intro t;unfold ttO;split
 next ti h=>exact q3x h t
 ·rfl
theorem cxO:CxOK Tryz.prog ttO G0 COf:=((((cx0.k qtg (fn:=Tryz.f74)).k qwy (fn:=Tryz.f73)).k qtf (fn:=Tryz.f72)).k qjp (fn:=Tryz.f67)).tab q25
def newO (s:SyT):OpT:=(rkd s,s.2.1,1,0,if rkd s=1 then [] else [s.2.2])
def extO (x:OpT) (s:SyT):OpT:=(x.1,x.2.1,x.2.2.1+1,x.2.2.2.1,if x.1=1 then x.2.2.2.2 else x.2.2.2.2++[s.2.2])
def stpR (r:List OpT × OpT) (p s:SyT):List OpT × OpT:=match rgoB p s with
 | true=>(r.1,extO r.2 s)
 | false=>(r.1++[r.2],newO s)
def ofR (l:List SyT):Nat->List OpT × OpT
 | 0=>([],newO (gtY l 0))
 | i+1=>stpR (ofR l i) (gtY l i) (gtY l (i+1))
def ofO (l:List SyT):List OpT:=match l.length with
 | 0=>[]
 | n+1=>(ofR l n).1++[(ofR l n).2]
def ofRV (l:List SyT) (m:Int):PaT × Int:=if szB m=true/\szB l.length=true/\l.all (sOK m)=true then (if 4096<(ofO l).length then ((false,0,0,[]),2) else ((false,m,l.length,ofO l),0)) else ((false,0,0,[]),60)
def q3y (l:List SyT) (i:Nat) (r:List OpT × OpT):Prop:=r.2.1=rkd (gtY l i)/\(1<=r.2.2.2.1/\r.2.2.2.1<=i+1)/\r.1.length<=i/\r.2.2.2.2.2.length<=i+1/\(r.2.1=1->r.2.2.2.2.2=[])
theorem qp2 (s:SyT):(newO s).2.2.2.2.length<=1/\(rkd s=1->(newO s).2.2.2.2=[]):=by
 unfold newO;by_cases h:rkd s=1
 ·simp[h]
 ·simp[h]
theorem qog (l:List SyT):∀ i,q3y l i (ofR l i)
 | 0=>⟨rfl,⟨Int.le_refl _,by simp[ofR,newO]⟩,Nat.le_refl _,(qp2 _).1,(qp2 _).2⟩
 | i+1=>by
  obtain ⟨h1,⟨h2,h3⟩,h4,h5,h6⟩:=qog l i
  show q3y l (i+1) (stpR (ofR l i) (gtY l i) (gtY l (i+1)))
  unfold stpR;split
  next hg=>
   simp only[rgoB,Bool.and_eq_true,decide_eq_true_eq] at hg;refine ⟨h1.trans hg.1,⟨?_,?_⟩,Nat.le_succ_of_le h4,?_,?_⟩
   ·show 1<=(ofR l i).2.2.2.1+1;omega
   ·show (ofR l i).2.2.2.1+1<=((i+1:Nat):Int)+1;omega
   ·show (extO (ofR l i).2 (gtY l (i+1))).2.2.2.2.length<=_
    unfold extO;by_cases hk:(ofR l i).2.1=1
    ·simp only[hk,if_true];omega
    ·simp only[hk,if_false,List.length_append,List.length_singleton];omega
   ·intro hk;have hk:(ofR l i).2.1=1:=hk
    show (extO (ofR l i).2 (gtY l (i+1))).2.2.2.2=[]
    unfold extO;simp only[hk,if_true];exact h6 hk
  ·refine ⟨rfl,⟨Int.le_refl _,?_⟩,?_,?_,(qp2 _).2⟩
   ·show (1:Int)<=((i+1:Nat):Int)+1;omega
   ·simp only[List.length_append,List.length_singleton];omega
   ·have:=(qp2 (gtY l (i+1))).1;show (newO (gtY l (i+1))).2.2.2.2.length<=_;omega
abbrev QPe (p:PaT × Int):List SV->List (Nat × LB)->Prop:=λ rs _=>MtL (λ _=>none) [paV p.1,.i p.2] rs
abbrev GDo (Q:List SV->List (Nat × LB)->Prop) (it:List Item) (S:PS):Prop:=Px.Good Tryz.prog ttO G0 24 Tryz.f24.ntmps Tryz.f24.results.toList Q it S
section
variable (m:Int) (l:List SyT) (hm0:0<=m) (hm1:m<=65536) (hn:l.length<=65536)
abbrev sE (i:Nat) (w:SV) (bs:List (Nat × LB)):PS:=⟨[(0,.sl syS l),(1,.i m),(4,.ptr 4 0),(6,.ptr 6 0),(7,.i (i:Nat))],(4,.var [.bool false,.i 0,.i 0,.nils])::(6,.var [.bool false,.i m,.i (l.length:Nat),w])::bs⟩
abbrev bO (xs:List OpT) (k a c b:Int) (d:SV):LB:=.var [.arr 91 .unit (List.replicate 91 ()),.arr xs.length opS xs,.i k,.i a,.i c,.u b,d]
abbrev sB (i:Nat) (xs:List OpT) (k a c b:Int):PS:=sE m l i (.win true opS 65 0 (xs.length+1)) [(65,bO xs k a c b .nils)]
abbrev sC (i:Nat) (xs:List OpT) (k a c b:Int) (d:List Int):PS:=sE m l i (.win true opS 65 0 (xs.length+1)) [(65,bO xs k a c b (.win true uB 97 0 d.length)),(97,.row 5 uB d)]
abbrev sD (i:Nat) (xs:List OpT) (k a c b:Int) (d:List Int):PS:=sE m l i (.win true opS 65 0 (xs.length+1)) [(65,bO xs k a c b (.sl uB d))]
theorem sC_D {i:Nat} {xs:List OpT} {k a c b:Int} {d:List Int} {Q:List SV->List (Nat × LB)->Prop} {it:List Item} (h:GDo Q it (sD m l i xs k a c b d)):GDo Q it (sC m l i xs k a c b d):=by
 refine Good.frz (i:=97) (e:=uB) (et:=5) (xs:=d) rfl (λ c hc=>?_) ?_
 ·have hc:c∈[0+d.length<=d.length]:=hc;rw[List.mem_singleton] at hc;subst hc;omega
 ·have e:winL uB 0 d.length d=d:=winA (e:=uB) d;refine Good.only (S':=sD m l i xs k a c b (winL uB 0 d.length d)) ?_ ⟨rfl,rfl,rfl,rfl,rfl,trivial⟩ ⟨rfl,rfl,rfl,trivial⟩;rw[e];exact h
end
section
variable (m:Int) (l:List SyT) (hm0:0<=m) (hm1:m<=65536) (hn:l.length<=65536) {Q:List SV->List (Nat × LB)->Prop}
theorem wr1 (i:Nat) (h:i<1000000):IntKind.i64.wrap (((i+1:Nat):Int)-1)=(i:Nat):=by rw[IntWalk.i64_in _ (by omega)];omega
theorem wr2 (i:Nat) (h:i<1000000):IntKind.i64.wrap ((i:Int)+1)=((i+1:Nat):Int):=by rw[IntWalk.i64_in _ (by omega)];omega
include hm0 hm1 hn
abbrev badQ (Q:List SV->List (Nat × LB)->Prop):Prop:=∀ blk,Q [SV.agg [SV.bool false,SV.i 0,SV.i 0,SV.nils],SV.i 60] blk
theorem rndB (i:Nat) (xs:List OpT) (k a c b:Int) (hi:i+1<l.length) (hk:k=1) (hc:1<=c/\c<=i+1) (hx:xs.length<=i) (bad:sOK m (gtY l (i+1))=false->badQ Q)
  (nxG:sOK m (gtY l (i+1))=true->rgoB (gtY l i) (gtY l (i+1))=true->GDo Q (Px.hd Tryz.f24 0) (sB m l (i+2) xs k a (c+1) b))
  (nx1:sOK m (gtY l (i+1))=true->rgoB (gtY l i) (gtY l (i+1))=false->rkd (gtY l (i+1))=1->GDo Q (Px.hd Tryz.f24 0) (sB m l (i+2) (xs++[(k,a,c,b,[])]) (rkd (gtY l (i+1))) (gtY l (i+1)).2.1 1 0))
  (nx2:sOK m (gtY l (i+1))=true->rgoB (gtY l i) (gtY l (i+1))=false->rkd (gtY l (i+1))≠1->GDo Q (Px.hd Tryz.f24 0) (sC m l (i+2) (xs++[(k,a,c,b,[])]) (rkd (gtY l (i+1))) (gtY l (i+1)).2.1 1 0 [(gtY l (i+1)).2.2])) :
  GDo Q (Px.hd Tryz.f24 0) (sB m l (i+1) xs k a c b):=by
 refine qaw cxO (qzz m l (i+1) xs.length xs k a c b [] _ _) ?_;have e1:=wr1 i (by omega);have e2:=wr2 (i+1) (by omega);have e3:=wr1 xs.length (by omega);have e4:=wr1 (xs.length+1) (by omega);have e5:IntKind.i64.wrap (c+1)=c+1:=IntWalk.i64_in _ (by omega);rw[decide_eq_true (show ((i+1:Nat):Int)<(l.length:Int) by omega),bc_t];refine ⟨by omega,by omega,⟨hm0,(show m<16777216 by omega)⟩,?_⟩;rw[decide_eq_false (show ¬ ((i+1:Nat):Int)=0 by omega)];simp only[e1,e2,e3,e4,e5,Int.toNat_natCast,bc_f,cond_false];refine qaf (λ hs=>bad (by simpa using hs) _) (λ hs=>⟨by omega,by omega,by omega,by omega,trivial,qaf (λ hg=>?_) (λ hg=>?_)⟩)
 ·have hs:sOK m (gtY l (i+1))=true:=by simpa using hs
  have hg:rgoB (gtY l i) (gtY l (i+1))=false:=by simpa using hg
  refine ⟨by omega,by omega,trivial,by omega,by omega,trivial,by omega,by decide,by omega,by omega,Nat.zero_add _,Nat.zero_add _,Nat.zero_add _,qaf (λ h=>?_) (λ h=>?_)⟩
  ·have h:=of_decide_eq_true h;exact ⟨Nat.zero_add _,by omega,by omega,Nat.le_refl 1,(show 1<2 ^ 30 by decide),by decide,Nat.zero_add _,(nx2 hs hg h).only ⟨rfl,rfl,rfl,rfl,rfl,trivial⟩ ⟨rfl,by rw[List.length_append];rfl,by simp only[bO,List.length_append];rfl,rfl,trivial⟩⟩
  ·have h:rkd (gtY l (i+1))=1:=by have:=of_decide_eq_false h;omega
   exact (nx1 hs hg h).only ⟨rfl,rfl,rfl,rfl,rfl,trivial⟩ ⟨rfl,by rw[List.length_append];rfl,by simp only[bO,List.length_append];rfl,trivial⟩
 ·have hs:sOK m (gtY l (i+1))=true:=by simpa using hs
  have hg:rgoB (gtY l i) (gtY l (i+1))=true:=by simpa using hg
  refine ⟨by omega,by omega,Nat.zero_add _,Nat.zero_add _,Nat.zero_add _,?_⟩;rw[decide_eq_false (show ¬ k≠1 by omega),bc_f];exact (nxG hs hg).only ⟨rfl,rfl,rfl,rfl,rfl,trivial⟩ ⟨rfl,rfl,rfl,trivial⟩
theorem rndD (i:Nat) (xs:List OpT) (k a c b:Int) (d:List Int) (hi:i+1<l.length) (hx:xs.length<=i) (hg:rgoB (gtY l i) (gtY l (i+1))=false) (bad:sOK m (gtY l (i+1))=false->badQ Q)
  (nx1:sOK m (gtY l (i+1))=true->rkd (gtY l (i+1))=1->GDo Q (Px.hd Tryz.f24 0) (sB m l (i+2) (xs++[(k,a,c,b,d)]) (rkd (gtY l (i+1))) (gtY l (i+1)).2.1 1 0))
  (nx2:sOK m (gtY l (i+1))=true->rkd (gtY l (i+1))≠1->GDo Q (Px.hd Tryz.f24 0) (sC m l (i+2) (xs++[(k,a,c,b,d)]) (rkd (gtY l (i+1))) (gtY l (i+1)).2.1 1 0 [(gtY l (i+1)).2.2])) :
  GDo Q (Px.hd Tryz.f24 0) (sD m l (i+1) xs k a c b d):=by
 refine qaw cxO (qzx m l (i+1) xs.length xs k a c b d _ _) ?_;have e1:=wr1 i (by omega);have e2:=wr2 (i+1) (by omega);have e4:=wr1 (xs.length+1) (by omega);rw[decide_eq_true (show ((i+1:Nat):Int)<(l.length:Int) by omega),bc_t];refine ⟨by omega,by omega,⟨hm0,(show m<16777216 by omega)⟩,?_⟩;rw[decide_eq_false (show ¬ ((i+1:Nat):Int)=0 by omega)];simp only[e1,e2,e4,Int.toNat_natCast,bc_f,cond_false];refine qaf (λ hs=>bad (by simpa using hs) _) (λ hs=>⟨by omega,by omega,by omega,by omega,trivial,?_⟩);have hs:sOK m (gtY l (i+1))=true:=by simpa using hs
 rw[hg,Bool.not_false,bc_t];refine ⟨by omega,by omega,trivial,by omega,by omega,trivial,by omega,by decide,by omega,by omega,Nat.zero_add _,Nat.zero_add _,Nat.zero_add _,qaf (λ h=>?_) (λ h=>?_)⟩
 ·have h:=of_decide_eq_true h;exact ⟨Nat.zero_add _,by omega,by omega,Nat.le_refl 1,(show 1<2 ^ 30 by decide),by decide,Nat.zero_add _,(nx2 hs h).only ⟨rfl,rfl,rfl,rfl,rfl,trivial⟩ ⟨rfl,by rw[List.length_append];rfl,by simp only[bO,List.length_append];rfl,rfl,trivial⟩⟩
 ·have h:rkd (gtY l (i+1))=1:=by have:=of_decide_eq_false h;omega
  exact (nx1 hs h).only ⟨rfl,rfl,rfl,rfl,rfl,trivial⟩ ⟨rfl,by rw[List.length_append];rfl,by simp only[bO,List.length_append];rfl,trivial⟩
theorem rndC (i:Nat) (xs:List OpT) (k a c b:Int) (d:List Int) (hi:i+1<l.length) (hk:k≠1) (hc:1<=c/\c<=i+1) (hx:xs.length<=i) (hd:d.length<=i+1) (hg:rgoB (gtY l i) (gtY l (i+1))=true) (bad:sOK m (gtY l (i+1))=false->badQ Q)
  (nxG:sOK m (gtY l (i+1))=true->GDo Q (Px.hd Tryz.f24 0) (sC m l (i+2) xs k a (c+1) b (d++[(gtY l (i+1)).2.2]))):GDo Q (Px.hd Tryz.f24 0) (sC m l (i+1) xs k a c b d):=by
 refine qaw cxO (qzy m l (i+1) xs.length xs k a c b d _ _) ?_;have e1:=wr1 i (by omega);have e2:=wr2 (i+1) (by omega);have e3:=wr1 xs.length (by omega);have e5:IntKind.i64.wrap (c+1)=c+1:=IntWalk.i64_in _ (by omega);rw[decide_eq_true (show ((i+1:Nat):Int)<(l.length:Int) by omega),bc_t];refine ⟨by omega,by omega,⟨hm0,(show m<16777216 by omega)⟩,?_⟩;rw[decide_eq_false (show ¬ ((i+1:Nat):Int)=0 by omega)];simp only[e1,e2,e3,e5,Int.toNat_natCast,bc_f,cond_false];refine qaf (λ hs=>bad (by simpa using hs) _) (λ hs=>⟨by omega,by omega,by omega,by omega,trivial,?_⟩);have hs:sOK m (gtY l (i+1))=true:=by simpa using hs
 rw[hg,Bool.not_true,bc_f];refine ⟨by omega,by omega,Nat.zero_add _,Nat.zero_add _,Nat.zero_add _,?_⟩;rw[decide_eq_true hk,bc_t];refine ⟨Nat.zero_add _,by omega,by omega,Nat.le_refl 1,trivial,trivial,?_,by decide,Nat.zero_add _,(nxG hs).only ⟨rfl,rfl,rfl,rfl,rfl,trivial⟩ ⟨rfl,rfl,by simp only[bO,List.length_append];rfl,rfl,trivial⟩⟩
 show d.length+1<2 ^ 30
 omega
end
section
variable (m:Int) (l:List SyT) (hm0:0<=m) (hm1:m<=65536) (hn:l.length<=65536)
theorem okM (hm0:0<=m) (hm1:m<=65536):szB m=true:=by simp[szB];omega
theorem qp0 {i:Nat} (hi:i<l.length) (h:sOK m (gtY l i)=false):ofRV l m=((false,0,0,[]),60):=by
 refine if_neg λ q=>?_
 have:=List.all_eq_true.1 q.2.2 (gtY l i) (by rw[qdf hi];exact List.getElem_mem hi);rw[h] at this;cases this
include hm0 hm1 hn
theorem qt4 (h:∀ j,j<l.length->sOK m (gtY l j)=true):ofRV l m=(if 4096<(ofO l).length then ((false,0,0,[]),2) else ((false,m,(l.length:Int),ofO l),0):PaT × Int):=by
 refine if_pos ⟨okM m hm0 hm1,by simp[szB];omega,?_⟩;rw[List.all_eq_true];intro x hx;obtain ⟨j,hj,rfl⟩:=List.getElem_of_mem hx;rw[<- qdf hj];exact h j hj
theorem rndE (hok:∀ j,j<l.length->sOK m (gtY l j)=true):GDo (QPe (ofRV l m)) (Px.hd Tryz.f24 0) (sE m l l.length (.sl opS (ofO l)) []):=by
 rw[qt4 m l hm0 hm1 hn hok];refine qaw cxO (qzw m l (ofO l) l.length _ _) ?_;rw[decide_eq_false (show ¬ (l.length:Int)<(l.length:Int) by omega),bc_f];refine qaf (λ h=>?_) (λ h=>?_)
 ·have h:=of_decide_eq_true h;rw[if_pos (by omega)];exact qiu 2
 ·have h:=of_decide_eq_false h;rw[if_neg (by omega)];exact ⟨_,_,rfl,⟨_,rfl,_,_,rfl,rfl,_,_,rfl,rfl,_,_,rfl,rfl,_,_,rfl,.inl rfl,rfl⟩,_,_,rfl,rfl,rfl⟩
theorem shutD (i:Nat) (xs:List OpT) (k a c b:Int) (d:List Int) {Q:List SV->List (Nat × LB)->Prop} {it:List Item} (h:GDo Q it (sE m l i (.sl opS (xs++[(k,a,c,b,d)])) [])):GDo Q it (sD m l i xs k a c b d):=by
 have _:=And.intro hm0 (And.intro hm1 hn);refine Good.shut (i:=65) (e:=opS) (y:=(k,a,c,b,d)) rfl rfl (by decide) λ et'=>?_
 refine Good.frz (i:=65) (e:=opS) (et:=et') (xs:=xs++[(k,a,c,b,d)]) rfl (λ c hc=>?_) ?_
 ·have hc:c∈[0+(xs.length+1)<=(xs++[(k,a,_,b,d)]).length]:=hc;rw[List.mem_singleton] at hc;subst hc;rw[List.length_append,List.length_singleton];omega
 ·have e:winL opS 0 (xs.length+1) (xs++[(k,a,c,b,d)])=xs++[(k,a,c,b,d)]:=by
   have:=winA (e:=opS) (xs++[(k,a,c,b,d)]);rwa[List.length_append,List.length_singleton] at this
  refine Good.only (S':=sE m l i (.sl opS (winL opS 0 (xs.length+1) (xs++[(k,a,c,b,d)]))) []) ?_ ⟨rfl,rfl,rfl,rfl,rfl,trivial⟩ ⟨rfl,rfl,trivial⟩;rw[e];exact h
theorem shutB (i:Nat) (xs:List OpT) (k a c b:Int) {Q:List SV->List (Nat × LB)->Prop} {it:List Item} (h:GDo Q it (sE m l i (.sl opS (xs++[(k,a,c,b,[])])) [])):GDo Q it (sB m l i xs k a c b):=by
 have _:=And.intro hm0 (And.intro hm1 hn);refine Good.shut (i:=65) (e:=opS) (y:=(k,a,c,b,[])) rfl rfl (by decide) λ et'=>?_
 refine Good.frz (i:=65) (e:=opS) (et:=et') (xs:=xs++[(k,a,c,b,[])]) rfl (λ c hc=>?_) ?_
 ·have hc:c∈[0+(xs.length+1)<=(xs++[(k,a,_,b,[])]).length]:=hc;rw[List.mem_singleton] at hc;subst hc;rw[List.length_append,List.length_singleton];omega
 ·have e:winL opS 0 (xs.length+1) (xs++[(k,a,c,b,[])])=xs++[(k,a,c,b,[])]:=by
   have:=winA (e:=opS) (xs++[(k,a,c,b,[])]);rwa[List.length_append,List.length_singleton] at this
  refine Good.only (S':=sE m l i (.sl opS (winL opS 0 (xs.length+1) (xs++[(k,a,c,b,[])]))) []) ?_ ⟨rfl,rfl,rfl,rfl,rfl,trivial⟩ ⟨rfl,rfl,trivial⟩;rw[e];exact h
theorem qp1:∀ (n i:Nat),l.length-(i+1)=n->i+1<=l.length->(∀ j,j<i+1->sOK m (gtY l j)=true)->∀ xs k a c b d,ofR l i=(xs,(k,a,c,b,d)) ->
  (k=1->GDo (QPe (ofRV l m)) (Px.hd Tryz.f24 0) (sB m l (i+1) xs k a c b))/\(k≠1->GDo (QPe (ofRV l m)) (Px.hd Tryz.f24 0) (sC m l (i+1) xs k a c b d)):=by
 intro n
 induction n with
 | zero=>
  intro i hk hi hok xs k a c b d he;have hil:i+1=l.length:=by omega
  have hO:ofO l=xs++[(k,a,c,b,d)]:=by unfold ofO;rw[<- hil];simp only;rw[he]
  have hE:=rndE m l hm0 hm1 hn (λ j hj=>hok j (by omega));rw[hO,<- hil] at hE;obtain ⟨_,_,_,_,h6⟩:=qog l i;rw[he] at h6;refine ⟨λ hk1=>shutB m l hm0 hm1 hn _ xs k a c b ?_,λ _=>sC_D m l (shutD m l hm0 hm1 hn _ xs k a c b d hE)⟩;have hd:d=[]:=h6 hk1;rw[hd] at hE;exact hE
 | succ n ih=>
  intro i hk hi hok xs k a c b d he;obtain ⟨h1,h2,h4,h5,h6⟩:=qog l i;rw[he] at h1 h2 h4 h5 h6;have h1:k=rkd (gtY l i):=h1;have h2:1<=c/\c<=i+1:=h2;have h4:xs.length<=i:=h4;have h5:d.length<=i+1:=h5;have h6:k=1->d=[]:=h6;have hi2:i+1<l.length:=by omega
  have hS:ofR l (i+1)=stpR (xs,(k,a,c,b,d)) (gtY l i) (gtY l (i+1)):=by rw[<- he];rfl
  have bad:sOK m (gtY l (i+1))=false->badQ (QPe (ofRV l m)):=λ h blk=>by
   rw[qp0 m l hi2 h];exact qiu 60
  have nx:sOK m (gtY l (i+1))=true->∀ xs k a c b d,ofR l (i+1)=(xs,(k,a,c,b,d))->(k=1->GDo (QPe (ofRV l m)) (Px.hd Tryz.f24 0) (sB m l (i+2) xs k a c b))/\(k≠1->GDo (QPe (ofRV l m)) (Px.hd Tryz.f24 0) (sC m l (i+2) xs k a c b d)):=λ hs=>
   ih (i+1) (by omega) (by omega) λ j hj=>by
    rcases Nat.lt_or_ge j (i+1) with h | h
    ·exact hok j h
    ·rw[show j=i+1 by omega];exact hs
  have hN:rgoB (gtY l i) (gtY l (i+1))=false->ofR l (i+1)=(xs++[(k,a,c,b,d)],newO (gtY l (i+1))):=λ hg=>by rw[hS];unfold stpR;rw[hg]
  have hG:rgoB (gtY l i) (gtY l (i+1))=true->ofR l (i+1)=(xs,(k,a,c+1,b,if k=1 then d else d++[(gtY l (i+1)).2.2])):=λ hg=>by rw[hS];unfold stpR;rw[hg];rfl
  have n1:sOK m (gtY l (i+1))=true->rgoB (gtY l i) (gtY l (i+1))=false->rkd (gtY l (i+1))=1->GDo (QPe (ofRV l m)) (Px.hd Tryz.f24 0) (sB m l (i+2) (xs++[(k,a,c,b,d)]) (rkd (gtY l (i+1))) (gtY l (i+1)).2.1 1 0):=λ hs hg h1=>(nx hs _ _ _ _ _ _ (hN hg)).1 h1
  have n2:sOK m (gtY l (i+1))=true->rgoB (gtY l i) (gtY l (i+1))=false->rkd (gtY l (i+1))≠1->GDo (QPe (ofRV l m)) (Px.hd Tryz.f24 0) (sC m l (i+2) (xs++[(k,a,c,b,d)]) (rkd (gtY l (i+1))) (gtY l (i+1)).2.1 1 0 [(gtY l (i+1)).2.2]):=λ hs hg h1=>by
   have:=(nx hs _ _ _ _ _ _ (hN hg)).2 h1;simp only[if_neg h1] at this;exact this
  constructor
  ·intro hk1;have hd:=h6 hk1;subst hd;refine rndB m l hm0 hm1 hn i xs k a c b hi2 hk1 h2 h4 bad (λ hs hg=>(nx hs _ _ _ _ _ _ (hG hg)).1 hk1) n1 n2
  ·intro hk1
   cases hg:rgoB (gtY l i) (gtY l (i+1)) with
   | false=>exact sC_D m l (rndD m l hm0 hm1 hn i xs k a c b d hi2 h4 hg bad (λ hs h=>n1 hs hg h) (λ hs h=>n2 hs hg h))
   | true=>
    refine rndC m l hm0 hm1 hn i xs k a c b d hi2 hk1 h2 h4 h5 hg bad λ hs=>?_
    have:=(nx hs _ _ _ _ _ _ (hG hg)).2 hk1;rw[if_neg hk1] at this;exact this
theorem qt6:GDo (QPe (ofRV l m)) (Px.hd Tryz.f24 0) (sE m l 0 .nils []):=by
 refine qaw cxO (qz0 m l 0 _ _) ?_;refine qaf (λ h=>?_) (λ h=>?_)
 ·have h:=of_decide_eq_true h;have h0:0<l.length:=by omega
  have e2:IntKind.i64.wrap (((0:Nat):Int)+1)=((0+1:Nat):Int):=by rw[IntWalk.i64_in _ (by omega)];omega
  have e4:IntKind.i64.wrap (((1:Nat):Int)-1)=(0:Nat):=by rw[IntWalk.i64_in _ (by omega)];omega
  refine ⟨by omega,by omega,⟨hm0,(show m<16777216 by omega)⟩,?_⟩;rw[decide_eq_true (show ((0:Nat):Int)=0 by omega),bc_t];simp only[e2,e4,Int.toNat_natCast];refine qaf (λ hs=>?_) (λ hs=>⟨trivial,by omega,by omega,trivial,by omega,by omega,by decide,by omega,by omega,trivial,trivial,trivial,qaf (λ h1=>?_) (λ h1=>?_)⟩)
  ·rw[qp0 m l h0 (by simpa using hs)];exact qiu 60
  ·have h1:=of_decide_eq_true h1;have hs:sOK m (gtY l 0)=true:=by simpa using hs
   have nx:=(qp1 m l hm0 hm1 hn _ 0 rfl (by omega) (λ j hj=>by rw[show j=0 by omega];exact hs) _ _ _ _ _ _ rfl).2 h1;simp only[if_neg h1] at nx;exact ⟨trivial,by omega,by omega,Nat.le_refl 1,(show 1<2 ^ 30 by decide),by decide,trivial,nx.only ⟨rfl,rfl,rfl,rfl,rfl,trivial⟩ ⟨rfl,rfl,rfl,rfl,trivial⟩⟩
  ·have h1:rkd (gtY l 0)=1:=by have:=of_decide_eq_false h1;omega
   have hs:sOK m (gtY l 0)=true:=by simpa using hs
   have nx:=(qp1 m l hm0 hm1 hn _ 0 rfl (by omega) (λ j hj=>by rw[show j=0 by omega];exact hs) _ _ _ _ _ _ rfl).1 h1;exact nx.only ⟨rfl,rfl,rfl,rfl,rfl,trivial⟩ ⟨rfl,rfl,rfl,trivial⟩
 ·have h:=of_decide_eq_false h;have h0:l.length=0:=by omega
  rw[qt4 m l hm0 hm1 hn λ j hj=>by omega];have hO:ofO l=[]:=by unfold ofO;rw[h0]
  rw[hO,if_neg (by simp)];exact ⟨_,_,rfl,⟨_,rfl,_,_,rfl,rfl,_,_,rfl,rfl,_,_,rfl,rfl,_,_,rfl,.inr ⟨rfl,rfl⟩,rfl⟩,_,_,rfl,rfl,rfl⟩
end
def qyz (l:List SyT):Prop:=l.length<1099511627776
def ctOf6:Ctr:=⟨[.sl syS,iI],λ x=>qyz x.1,λ x=>[paV (ofRV x.1 x.2.1).1,.i (ofRV x.1 x.2.1).2],λ _=>[]⟩
theorem qxk:Held Tryz.prog G0 24 ctOf6:=by
 refine Held.of cxO (fn:=Tryz.f24) rfl rfl ⟨by decide,by decide⟩ ?_;rintro ⟨l,m,⟨⟩⟩ hp;replace hp:qyz l:=hp;have go:GDo (QPe (ofRV l m)) [.code (qah Tryz.f24)] (entry [.sl syS,iI] (l,m,())):=by
  refine qaw cxO (q21 m l _ _) ⟨trivial,?_⟩;have bad:¬ (szB m=true/\szB l.length=true/\l.all (sOK m)=true)->ofRV l m=((false,0,0,[]),60):=λ q=>if_neg q
  refine qaf (λ h=>⟨rfl,?_⟩) (λ h=>qaf (λ h2=>?_) (λ h2=>?_))
  ·have h:(!szB m)=true:=h;rw[bad λ q=>by rw[q.1] at h;cases h];exact qiu 60
  ·have h2:decide ((65536:Int)<(l.length:Int))=true:=h2;have h2:=of_decide_eq_true h2;rw[bad λ q=>by have:=q.2.1;simp[szB] at this;omega];exact qiu 60
  ·have h:(!szB m)=false:=h;have h2:decide ((65536:Int)<(l.length:Int))=false:=h2;have h2:=of_decide_eq_false h2;have h3:szB m=true:=by simpa using h
   simp only[szB,Bool.and_eq_true,decide_eq_true_eq] at h3;exact (qt6 m l h3.1 h3.2 (by omega)).only ⟨rfl,rfl,rfl,rfl,rfl,trivial⟩ ⟨rfl,rfl,trivial⟩
 exact go.post λ rs blk h=>QC.mt h rfl
def CQ:CV:=[(62,.inl ctPl),(22,.inl ctSym)]
theorem cxQ:CxOK Tryz.prog tt G0 CQ:=(cx0.k qlc (fn:=Tryz.f22)).k q1b (fn:=Tryz.f62)
theorem qwd (old:List Int) (li:Bool) (m o:Int) (l:List OpT) (Q:QT) (R:RT):sA CQ Tryz.f17 Q R [.code (qah Tryz.f17)] (entry [.sl uB,paS] (old,(li,m,o,l),())) =
  (ctSym.pre ((li,m,o,l),())/\bc (decide ((symV (li,m,o,l)).2≠0)) (Q [.nils,.i (symV (li,m,o,l)).2] [(3,.var [.bool li,.i m,.i o,.sl opS l]),(1040960,.row 93 syS (symV (li,m,o,l)).1)]) (bc li False ((0:Nat)+(symV (li,m,o,l)).1.length<=(symV (li,m,o,l)).1.length/\ctPl.pre (old,m,winL syS 0 (symV (li,m,o,l)).1.length (symV (li,m,o,l)).1,())/\Q [.win true uB 1118784 0 (plV old m (winL syS 0 (symV (li,m,o,l)).1.length (symV (li,m,o,l)).1)).1.length,.i (plV old m (winL syS 0 (symV (li,m,o,l)).1.length (symV (li,m,o,l)).1)).2] [(3,.var [.bool li,.i m,.i o,.sl opS l]),(1040960,.row 93 syS (symV (li,m,o,l)).1),(1118784,.row 5 uB (plV old m (winL syS 0 (symV (li,m,o,l)).1.length (symV (li,m,o,l)).1)).1)]))):=by kernel_rfl
def apV (old:List Int) (p:PaT):List Int × Int:=if (symV p).2=0 then plV old p.2.1 (symV p).1 else ([],(symV p).2)
def ctAp:Ctr:=⟨[.sl uB,paS],λ x=>x.2.1.1=false,λ x=>[.win true uB 0 0 (apV x.1 x.2.1).1.length,.i (apV x.1 x.2.1).2],λ x=>[.row 5 uB (apV x.1 x.2.1).1]⟩
theorem qvn:Held Tryz.prog G0 17 ctAp:=by
 refine Held.run cxQ (fn:=Tryz.f17) rfl rfl ⟨by decide,by decide⟩ ?_;rintro ⟨old,⟨li,m,o,l⟩,⟨⟩⟩ hp;replace hp:li=false:=hp;subst hp;refine (qwd old false m o l _ _).mpr ⟨trivial,qaf (λ h=>?_) (λ h=>?_)⟩
 ·have h:(symV (false,m,o,l)).2≠0:=of_decide_eq_true h;have hv:apV old (false,m,o,l)=([],(symV (false,m,o,l)).2):=if_neg h;refine qf0 (e:=uB) (et:=5) (z:=(symV (false,m,o,l)).2) ?_ ?_ rfl (by decide)
  ·show [_,_]=_;rw[hv];rfl
  ·show [_]=_;rw[hv]
 ·have h:¬ (symV (false,m,o,l)).2≠0:=of_decide_eq_false h;have h:(symV (false,m,o,l)).2=0:=by simpa using h
  have hv:apV old (false,m,o,l)=plV old m (symV (false,m,o,l)).1:=if_pos h;have hl:=qld (false,m,o,l);have hw:winL syS 0 (symV (false,m,o,l)).1.length (symV (false,m,o,l)).1=(symV (false,m,o,l)).1:=winA (e:=syS) _;rw[bc_f,hw];refine ⟨Nat.le_of_eq (Nat.zero_add _),hl,?_⟩;refine qfz (e:=uB) (et:=5) (a:=1118784) (z:=(plV old m (symV (false,m,o,l)).1).2) (xs:=(plV old m (symV (false,m,o,l)).1).1) ?_ ?_ rfl rfl rfl
  ·show [_,_]=_;rw[hv]
  ·show [_]=_;rw[hv]
def CN:CV:=[(21,.inl ctR2),(26,.inl ctSS),(27,.inl ctSm),(57,.inl ctRw),(45,.inl ctWh),(28,.inl ctCost),(22,.inl ctSym),(17,.inl ctAp),(23,.inl ctOf),(25,.inl ctChk)]
theorem cxN:CxOK Tryz.prog tt G0 CN:=(((((((((cx0.k qma (fn:=Tryz.f25)).k of_held (fn:=Tryz.f23)).k qvn (fn:=Tryz.f17)).k qlc (fn:=Tryz.f22)).k qnm (fn:=Tryz.f28)).k qzm (fn:=Tryz.f45)).k q03 (fn:=Tryz.f57)).k qs4 (fn:=Tryz.f27)).k qs3 (fn:=Tryz.f26)).k qtq (fn:=Tryz.f21)
abbrev gI3 (w:List Int) (i:Nat):Int:=gt (Sh.int .i32) w i
def preW (w:List Int):Prop:=∀ j,-2147483648<=gI3 w j/\gI3 w j<2147483648
theorem q4a {m N:Int}:∀ {l:List OpT} {left i:Int},(chkF m N l left i).2=0\/(chkF m N l left i).2=60
 | [],left,i=>by
  simp only[chkF];split
  ·exact .inr rfl
  ·exact .inl rfl
 | x::l,left,i=>by
  simp only[chkF];split
  ·exact .inr rfl
  ·split
   ·exact .inr rfl
   ·exact q4a
theorem q39 (p:PaT):(chkV p).2=0\/(chkV p).2=60:=by
 unfold chkV;split
 ·exact q4a
 ·exact .inr rfl
section
variable (z:Int) (l4:List (List Int)) (w:List Int) (h6:qw5 z l4) (hw:preW w)
include h6 hw
end
def ctOpc:Ctr:=⟨[opS],λ _=>True,λ x=>[.i (cN x.1.1.toNat x.1)],λ _=>[]⟩
def ctRco:Ctr:=⟨[paS],λ x=>List.length x.1.2.2.2<1099511627776,λ x=>[.i (ql8 0 x.1.2.2.2)],λ _=>[]⟩
set_option maxRecDepth 100000
def qhj (x:OpT):List (Nat × LB):=[(1,.var [.i x.1,.i x.2.1,.i x.2.2.1,.u x.2.2.2.1,.sl uB x.2.2.2.2])]
theorem q2x (x:OpT) (Q:QT) (R:RT):sA [] Tryz.f77 Q R [.code (qah Tryz.f77)] (entry [opS] (x,())) =
  (bc (decide (x.1=(2:Int))) (Q [.i (IntKind.i64.wrap ((4:Int)+x.2.2.1))] (qhj x)) (bc (decide (x.1=(4:Int))) (Q [.i (IntKind.i64.wrap ((2:Int)+x.2.2.1))] (qhj x)) (Q [.i 4] (qhj x)))):=by kernel_rfl
theorem q2t (li:Bool) (m o:Int) (l:List OpT) (Q:QT) (R:RT):sA [(77,.inl ctOpc)] Tryz.f29 Q (λ it S=>R it (qcb [1,3,4] [1] S)) [.code (qah Tryz.f29)] (entry [paS] ((li,m,o,l),())) =
  (R (hd Tryz.f29 0) { env:=[(1,.ptr 1 0),(3,.i 0),(4,.i 0)],blk:=[(1,.var [.bool li,.i m,.i o,.sl opS l])] }):=by kernel_rfl
theorem qsh (li:Bool) (m o:Int) (l:List OpT) (s:Int) (i:Nat) (Q:QT) (R:RT):sA [(77,.inl ctOpc)] Tryz.f29 Q (λ it S=>R it (qcb [1,3,4] [1] S)) (hd Tryz.f29 0) ⟨[(1,.ptr 1 0),(3,.i s),(4,.i (i:Nat))],[(1,.var [.bool li,.i m,.i o,.sl opS l])]⟩ =
  (bc (decide ((i:Int)<(l.length:Int))) ((0:Int)<=(i:Int)/\(i:Int)<(l.length:Int)/\ctOpc.pre ((gtO l (i:Int).toNat),())/\R (hd Tryz.f29 0) { env:=[(1,.ptr 1 0),(3,.i (IntKind.i64.wrap (s+cN (Int.toNat (gtO l (i:Int).toNat).1) (gtO l (i:Int).toNat)))),(4,.i (IntKind.i64.wrap ((i:Int)+1)))],blk:=[(1,.var [.bool li,.i m,.i o,.sl opS l])] }) (Q [.i s] [(1,.var [.bool li,.i m,.i o,.sl opS l])])):=by kernel_rfl
theorem q1d (k f n b:Int) (d:List Int) (R:List Item->PS->Prop):sA [] Tryz.f77 (QC ctOpc ((k,f,n,b,d),())) R [.code (qah Tryz.f77)] (entry [opS] ((k,f,n,b,d),())):=by
 have out:∀ c,cN k.toNat ((k,f,n,b,d):OpT)=c->ctOpc.out ((k,f,n,b,d),())=[SV.i c]:=λ c e=>congrArg (λ c=>[SV.i c]) e
 refine (q2x (k,f,n,b,d) _ _).mpr (qaf (λ h=>?_) (λ h=>qaf (λ h2=>?_) (λ h2=>?_)))
 ·have h:k=2:=of_decide_eq_true h;subst h;exact QC.flat (out _ rfl) rfl rfl
 ·have h2:k=4:=of_decide_eq_true h2;subst h2;exact QC.flat (out _ rfl) rfl rfl
 ·have h:¬ k=2:=of_decide_eq_false h;have h2:¬ k=4:=of_decide_eq_false h2;refine QC.flat (out _ ?_) rfl rfl;unfold cN;split
  ·omega
  ·omega
  ·rfl
theorem qxe:Held Tryz.prog G0 77 ctOpc:=Held.run cx0 (fn:=Tryz.f77) rfl rfl ⟨by decide,by decide⟩ λ ⟨⟨k,f,n,b,d⟩,_⟩ _=>q1d k f n b d _
theorem qx2:CxOK Tryz.prog tt G0 [(77,.inl ctOpc)]:=cx0.k qxe (fn:=Tryz.f77)
theorem qw0 (li:Bool) (m o:Int) (l:List OpT) (hl:l.length<1099511627776):∀ (k i:Nat) (s:Int),l.length-i=k->i<=l.length ->
  GD 29 Tryz.f29 (λ rs _=>rs=[.i (ql8 s (l.drop i))]) (hd Tryz.f29 0) ⟨[(1,.ptr 1 0),(3,.i s),(4,.i (i:Nat))],[(1,.var [.bool li,.i m,.i o,.sl opS l])]⟩:=by
 intro k
 induction k with
 | zero=>
  intro i s hk hi;refine qaw qx2 (qsh li m o l s i _ _) ?_;rw[decide_eq_false (by omega),bc_f,List.drop_eq_nil_of_le (by omega)];rfl
 | succ k ih=>
  intro i s hk hi;have hil:i<l.length:=by omega
  have nx:=ih (i+1) (IntKind.i64.wrap (s+cN l[i].1.toNat l[i])) (by omega) (by omega);have wi:IntKind.i64.wrap ((i:Int)+1)=((i+1:Nat):Int):=by rw[IntWalk.i64_in _ (by omega)];omega
  refine qaw qx2 (qsh li m o l s i _ _) ?_;rw[decide_eq_true (show (i:Int)<(l.length:Int) by omega),bc_t,Int.toNat_natCast,qcz hil,wi,qnl hil,ql8];exact ⟨by omega,by omega,trivial,nx.only ⟨rfl,rfl,rfl,trivial⟩ ⟨rfl,trivial⟩⟩
theorem qw1:Held Tryz.prog G0 29 ctRco:=Held.of qx2 (fn:=Tryz.f29) rfl rfl ⟨by decide,by decide⟩ λ ⟨⟨li,m,o,l⟩,_⟩ hp=>
 qaw qx2 (q2t li m o l _ _) (((qw0 li m o l hp _ 0 0 rfl (Nat.zero_le _)).post λ rs blk hq=>QC.flat (by rw[hq];rfl) rfl (by rw[hq];rfl)).only ⟨rfl,rfl,rfl,trivial⟩ ⟨rfl,trivial⟩)
def q09 (x:OpT) (i:Int):Prop:=k14 x/\0<=i/\(x.1=2\/x.1=4->i<(x.2.2.2.2.length:Int))
def syV (s:SyT):SV:=.agg [.bool s.1,.i s.2.1,.u s.2.2]
def ctSb:Ctr:=⟨[opS,iI],λ x=>q09 x.1 x.2.1,λ x=>[syV (elO x.1.1.toNat x.1 (Int.toNat x.2.1))],λ _=>[]⟩
def CSm:CV:=[(59,.inl ctRi),(60,.inl ctSb)]
set_option maxRecDepth 100000
theorem vc_sb (x:OpT) (i:Int) (Q:QT) (R:RT):sA [] Tryz.f60 Q R [.code (qah Tryz.f60)] (entry [opS,iI] (x,i,())) =
  (bc (decide (x.1=(1:Int))) (Q [.agg [.bool true,.i (i64.wrap (x.2.1+i)),.u 0]] [(2,.var [.i x.1,.i x.2.1,.i x.2.2.1,.u x.2.2.2.1,.sl uB x.2.2.2.2]),(4,.var [.bool true,.i (i64.wrap (x.2.1+i)),.u 0])]) (bc (decide (x.1=(2:Int))) ((0:Int)<=i/\i<(↑(List.length x.2.2.2.2):Int)/\Q [.agg [.bool true,.i (i64.wrap (x.2.1+i)),.u (gtB x.2.2.2.2 i.toNat)]] [(2,.var [.i x.1,.i x.2.1,.i x.2.2.1,.u x.2.2.2.1,.sl uB x.2.2.2.2]),(4,.var [.bool true,.i (i64.wrap (x.2.1+i)),.u (gtB x.2.2.2.2 i.toNat)])]) (bc (decide (x.1=(3:Int))) (Q [.agg [.bool false,.i 0,.u x.2.2.2.1]] [(2,.var [.i x.1,.i x.2.1,.i x.2.2.1,.u x.2.2.2.1,.sl uB x.2.2.2.2]),(4,.var [.bool false,.i 0,.u x.2.2.2.1])]) ((0:Int)<=i/\i<(↑(List.length x.2.2.2.2):Int)/\Q [.agg [.bool false,.i 0,.u (gtB x.2.2.2.2 i.toNat)]] [(2,.var [.i x.1,.i x.2.1,.i x.2.2.1,.u x.2.2.2.1,.sl uB x.2.2.2.2]),(4,.var [.bool false,.i 0,.u (gtB x.2.2.2.2 i.toNat)])])))):=by kernel_rfl
theorem vc_rs (li:Bool) (m o:Int) (l:List OpT) (Q:QT) (R:RT):sA CSm Tryz.f15 Q (λ it S=>R it (qcb [1,4,5,6] [1,10,37] S)) [.code (qah Tryz.f15)] (entry [paS] ((li,m,o,l),())) =
  (ctRi.pre ((li,m,o,l),())/\bc (!decide ((chkV (li,m,o,l)).2=(0:Int))) (Q [.nils,.i 60] [(1,.var [.bool li,.i m,.i o,.sl opS l])]) (R (hd Tryz.f15 0) { env:=[(1,.ptr 1 0),(4,.win true syS 10 0 (0:Nat)),(5,.i 0)],blk:=[(1,.var [.bool li,.i m,.i o,.sl opS l]),(10,.row 93 syS (List.replicate (0:Nat) syS.dflt))] })):=by kernel_rfl
theorem qyo (li:Bool) (m o:Int) (l:List OpT) (s:List SyT) (i:Nat) (Q:QT) (R:RT):sA CSm Tryz.f15 Q (λ it S=>R it (qcb [1,4,5,6] [1,10,37] S)) (hd Tryz.f15 0) ⟨[(1,.ptr 1 0),(4,.win true syS 10 0 s.length),(5,.i (i:Nat))],[(1,.var [.bool li,.i m,.i o,.sl opS l]),(10,.row 93 syS s)]⟩ =
  (bc (decide ((i:Int)<(l.length:Int))) (R (hd Tryz.f15 1) { env:=[(1,.ptr 1 0),(4,.win true syS 10 0 s.length),(5,.i (i:Int)),(6,.i 0)],blk:=[(1,.var [.bool li,.i m,.i o,.sl opS l]),(10,.row 93 syS s)] }) (Q [.win true syS 10 0 s.length,.i 0] [(1,.var [.bool li,.i m,.i o,.sl opS l]),(10,.row 93 syS s)])):=by kernel_rfl
theorem qyp (li:Bool) (m o:Int) (l:List OpT) (s:List SyT) (i k:Nat) (Q:QT) (R:RT):sA CSm Tryz.f15 Q (λ it S=>R it (qcb [1,4,5,6] [1,10,37] S)) (hd Tryz.f15 1) ⟨[(1,.ptr 1 0),(4,.win true syS 10 0 s.length),(5,.i (i:Nat)),(6,.i (k:Nat))],[(1,.var [.bool li,.i m,.i o,.sl opS l]),(10,.row 93 syS s)]⟩ =
  ((0:Int)<=(i:Int)/\(i:Int)<(l.length:Int)/\bc (decide ((k:Int)<(gtO l (i:Int).toNat).2.2.1)) ((0:Int)<=(i:Int)/\(i:Int)<(l.length:Int)/\ctSb.pre ((gtO l (i:Int).toNat),(k:Int),())/\0+1<=([(elO (Int.toNat (gtO l (i:Int).toNat).1) (gtO l (i:Int).toNat) (k:Int).toNat)]:List syS.D).length/\s.length=s.length/\(0:Nat)=(0:Nat)/\s.length+(([(elO (Int.toNat (gtO l (i:Int).toNat).1) (gtO l (i:Int).toNat) (k:Int).toNat)]:List syS.D)).length<2 ^ 30/\(24:Nat)<=2 ^ 10/\R (hd Tryz.f15 1) { env:=[(1,.ptr 1 0),(4,.win true syS 37 0 (s.length+(([(elO (Int.toNat (gtO l (i:Int).toNat).1) (gtO l (i:Int).toNat) (k:Int).toNat)]:List syS.D)).length)),(5,.i (i:Int)),(6,.i (i64.wrap ((k:Int)+1)))],blk:=[(1,.var [.bool li,.i m,.i o,.sl opS l]),(37,.row 93 syS (s++([(elO (Int.toNat (gtO l (i:Int).toNat).1) (gtO l (i:Int).toNat) (k:Int).toNat)]:List syS.D)))] }) (R (hd Tryz.f15 0) { env:=[(1,.ptr 1 0),(4,.win true syS 10 0 s.length),(5,.i (i64.wrap ((i:Int)+1))),(6,.i (k:Int))],blk:=[(1,.var [.bool li,.i m,.i o,.sl opS l]),(10,.row 93 syS s)] })):=by kernel_rfl
theorem q3m (k f n b i:Int) (d:List Int) (hp:q09 (k,f,n,b,d) i) (R:List Item->PS->Prop):sA [] Tryz.f60 (QC ctSb ((k,f,n,b,d),i,())) R [.code (qah Tryz.f60)] (entry [opS,iI] ((k,f,n,b,d),i,())):=by
 obtain ⟨hk,h0,hd⟩:=hp;have out:∀ s,elO k.toNat ((k,f,n,b,d):OpT) i.toNat=s->ctSb.out ((k,f,n,b,d),i,())=[syV s]:=λ s e=>congrArg (λ s=>[syV s]) e
 have hi:((i.toNat:Nat):Int)=i:=by omega
 refine (vc_sb (k,f,n,b,d) i _ _).mpr ?_;rcases hk with e | e | e | e
 ·have e:k=1:=e;subst e;refine QC.flat (out (true,IntKind.i64.wrap (f+i),0) ?_) rfl rfl
  show ((true,IntKind.i64.wrap (f+(i.toNat:Int)),0):SyT)=_
  rw[hi]
 ·have e:k=2:=e;subst e;have hd2:i<(d.length:Int):=hd (.inl rfl);refine ⟨h0,hd2,QC.flat (out (true,IntKind.i64.wrap (f+i),gtB d i.toNat) ?_) rfl rfl⟩
  show ((true,IntKind.i64.wrap (f+(i.toNat:Int)),gtB d i.toNat):SyT)=_
  rw[hi]
 ·have e:k=3:=e;subst e;exact QC.flat (out _ rfl) rfl rfl
 ·have e:k=4:=e;subst e;have hd2:i<(d.length:Int):=hd (.inr rfl);exact ⟨h0,hd2,QC.flat (out _ rfl) rfl rfl⟩
theorem q01:Held Tryz.prog G0 60 ctSb:=Held.run cx0 (fn:=Tryz.f60) rfl rfl ⟨by decide,by decide⟩ λ ⟨⟨k,f,n,b,d⟩,i,_⟩ hp=>q3m k f n b i d hp _
theorem qr0:CxOK Tryz.prog tt G0 CSm:=(cx0.k q01 (fn:=Tryz.f60)).k qra (fn:=Tryz.f59)
section
variable (li:Bool) (m o:Int) (l:List OpT) (hc:(chkV (li,m,o,l)).2=0)
abbrev RsQ:List SV->List (Nat × LB)->Prop:=QC ctSym ((li,m,o,l),())
include hc
theorem qwu (i:Nat) (hi:i<l.length) (nx:GD 15 Tryz.f15 (RsQ li m o l) (hd Tryz.f15 0) ⟨[(1,.ptr 1 0),(4,.win true syS 10 0 (symF (l.take (i+1))).length),(5,.i ((i+1:Nat):Int))],[(1,.var [.bool li,.i m,.i o,.sl opS l]),(10,.row 93 syS (symF (l.take (i+1))))]⟩) :
  ∀ (c k:Nat),l[i].2.2.1.toNat-k=c->k<=l[i].2.2.1.toNat ->
  GD 15 Tryz.f15 (RsQ li m o l) (hd Tryz.f15 1) ⟨[(1,.ptr 1 0),(4,.win true syS 10 0 (symF (l.take i)++(qav l[i].1.toNat l[i]).take k).length),(5,.i (i:Nat)),(6,.i (k:Nat))],[(1,.var [.bool li,.i m,.i o,.sl opS l]),(10,.row 93 syS (symF (l.take i)++(qav l[i].1.toNat l[i]).take k))]⟩:=by
 obtain ⟨hr,hs,ho,hl⟩:=qf9 hc;have hl:l.length<=4096:=hl;have hx:=hr _ (List.getElem_mem hi);have hlx:=qde hx;obtain ⟨k4,hcn⟩:=qdq hx;have sl:(qav l[i].1.toNat l[i]).length=cntO l[i].1.toNat l[i]:=ql0 ..;have hsf:(symF (l.take i)).length<=65536:=by
  have h1:=qgf (m:=m) (l:=l.take i) λ y hy=>hr y (List.mem_of_mem_take hy)
  have h2:lenS l=lenS (l.take i)+lenS (l.drop i):=by rw[<- qly,List.take_append_drop]
  have h3:=qg0 (m:=m) (l:=l.drop i) λ y hy=>hr y (List.mem_of_mem_drop hy)
  have ho2:o<=65536:=ho.2;have hs2:lenS l=o:=hs;omega
 have ht:symF (l.take (i+1))=symF (l.take i)++qav l[i].1.toNat l[i]:=by
  rw[List.take_succ_eq_append_getElem hi,qpe];simp[symF]
 intro c
 induction c with
 | zero=>
  intro k hk hk2;have hk:k=l[i].2.2.1.toNat:=by omega
  have e:(qav l[i].1.toNat l[i]).take k=qav l[i].1.toNat l[i]:=List.take_of_length_le (by omega);rw[e,<- ht];refine qaw qr0 (qyp li m o l (symF (l.take (i+1))) i k _ _) ?_;rw[Int.toNat_natCast,qcz hi,decide_eq_false (by omega),bc_f,IntWalk.i64_in ((i:Int)+1) (by omega)];exact ⟨by omega,by omega,nx.only ⟨rfl,rfl,rfl,trivial⟩ ⟨rfl,rfl,trivial⟩⟩
 | succ c ih=>
  intro k hk hk2;have hk3:k<cntO l[i].1.toNat l[i]:=by omega
  have nk:=ih (k+1) (by omega) (by omega);have e:(qav l[i].1.toNat l[i]).take (k+1)=(qav l[i].1.toNat l[i]).take k++[elO l[i].1.toNat l[i] k]:=by
   rw[List.take_succ_eq_append_getElem (by omega)]
   congr 2
   have:=qu4 (elO l[i].1.toNat l[i]) (cntO l[i].1.toNat l[i]) 0 k hk3;rw[Nat.zero_add] at this;have h2:(qav l[i].1.toNat l[i])[k]?=some (elO l[i].1.toNat l[i] k):=this;rw[List.getElem?_eq_getElem (by omega)] at h2;exact Option.some.inj h2
  rw[e,<- List.append_assoc] at nk;have tl:((qav l[i].1.toNat l[i]).take k).length<=65536:=by rw[List.length_take];omega
  have pre:q09 l[i] (k:Int):=⟨k4,by omega,λ h=>by
   have:cntO l[i].1.toNat l[i]=l[i].2.2.2.2.length:=by rcases h with h | h <;> (rw[h];rfl)
   omega⟩
  generalize hss:symF (l.take i)++(qav l[i].1.toNat l[i]).take k=ss at *;have hsl:ss.length<=131072:=by rw[<- hss,List.length_append];omega
  refine qaw qr0 (qyp li m o l ss i k _ _) ?_;rw[Int.toNat_natCast,qcz hi,decide_eq_true (show (k:Int)<l[i].2.2.1 by omega),bc_t,IntWalk.i64_in ((k:Int)+1) (by omega),Int.toNat_natCast];refine ⟨by omega,by omega,by omega,by omega,pre,Nat.le_refl 1,rfl,rfl,?_,by decide,?_⟩
  ·show ss.length+1<2 ^ 30
   show ss.length+1<1073741824
   omega
  ·exact nk.onlyR [(10,37)] rfl ⟨rfl,by rw[List.length_append];rfl,rfl,rfl,trivial⟩ ⟨rfl,rfl,trivial⟩
theorem qwt:∀ (c i:Nat),l.length-i=c->i<=l.length ->
  GD 15 Tryz.f15 (RsQ li m o l) (hd Tryz.f15 0) ⟨[(1,.ptr 1 0),(4,.win true syS 10 0 (symF (l.take i)).length),(5,.i (i:Nat))],[(1,.var [.bool li,.i m,.i o,.sl opS l]),(10,.row 93 syS (symF (l.take i)))]⟩:=by
 have hv:symV (li,m,o,l)=(symF l,0):=by unfold symV;rw[if_pos hc]
 intro c
 induction c with
 | zero=>
  intro i hc2 hi;refine qaw qr0 (qyo li m o l (symF (l.take i)) i _ _) ?_;rw[decide_eq_false (by omega),bc_f,List.take_of_length_le (by omega)];refine qfz (e:=syS) (et:=93) (a:=10) (z:=0) (xs:=symF l) ?_ ?_ rfl rfl rfl
  ·show [SV.win true syS 0 0 (symV (li,m,o,l)).1.length,.i (symV (li,m,o,l)).2]=_
   rw[hv]
  ·show [LB.row 93 syS (symV (li,m,o,l)).1]=_
   rw[hv]
 | succ c ih=>
  intro i hc2 hi;have hil:i<l.length:=by omega
  refine qaw qr0 (qyo li m o l (symF (l.take i)) i _ _) ?_;rw[decide_eq_true (show (i:Int)<(l.length:Int) by omega),bc_t];have h:=qwu li m o l hc i hil (ih (i+1) (by omega) (by omega)) _ 0 rfl (Nat.zero_le _);rw[List.take_zero,List.append_nil] at h;exact h.only ⟨rfl,rfl,rfl,rfl,trivial⟩ ⟨rfl,rfl,trivial⟩
end
theorem rs_held:Held Tryz.prog G0 15 ctSym:=Held.of qr0 (fn:=Tryz.f15) rfl rfl ⟨by decide,by decide⟩ λ ⟨⟨li,m,o,l⟩,_⟩ _=>by
 refine qaw qr0 (vc_rs li m o l _ _) ⟨trivial,qaf (λ h=>?_) (λ h=>?_)⟩
 ·have h:¬ (chkV (li,m,o,l)).2=0:=by
   have h:(!decide ((chkV (li,m,o,l)).2=0))=true:=h;simpa using h
  have h6:(chkV (li,m,o,l)).2=60:=by rcases q39 (li,m,o,l) with q | q;exact absurd q h;exact q
  have hv:symV (li,m,o,l)=([],60):=by unfold symV;rw[if_neg h,h6]
  refine qf0 (e:=syS) (et:=93) (z:=60) ?_ ?_ rfl (by decide)
  ·show [SV.win true syS 0 0 (symV (li,m,o,l)).1.length,.i (symV (li,m,o,l)).2]=_
   rw[hv];rfl
  ·show [LB.row 93 syS (symV (li,m,o,l)).1]=_
   rw[hv]
 ·have h:(chkV (li,m,o,l)).2=0:=by
   have h:(!decide ((chkV (li,m,o,l)).2=0))=false:=h;simpa using h
  exact (qwt li m o l h _ 0 rfl (Nat.zero_le _)).only ⟨rfl,rfl,rfl,trivial⟩ ⟨rfl,rfl,trivial⟩
def ctRunR:Ctr:=⟨[.sl uB,.sl syS],λ x=>List.length x.1<1099511627776/\List.length x.2.1<16777216,ctRun.out,ctRun.rows⟩
set_option maxRecDepth 100000
theorem q2q (b:List Int) (l:List SyT) (Q:QT) (R:RT):sA [(67,.inl ctIn)] Tryz.f20 Q R [.code (qah Tryz.f20)] (entry [.sl uB,.sl syS] (b,l,())) =
  (R (hd Tryz.f20 0) { env:=[(0,.sl uB b),(1,.sl syS l),(4,.nils),(5,.i 0),(6,.win true uB 9 0 (0:Nat)),(7,.i 0),(9,.win true uB 9 0 (0:Nat))],blk:=[(9,.row 5 uB (List.replicate (0:Nat) uB.dflt))] }):=by kernel_rfl
def qks (m o:Int) (l:List OpT):List (Nat × LB):=[(3,.var [.bool false,.i m,.i o,.sl opS l]),(1069632,.row 93 syS (symV (false,m,o,l)).1)]
theorem q2v (b:List Int) (m o:Int) (l:List OpT) (Q:QT) (R:RT):sA [(20,.inl ctRunR),(15,.inl ctSym)] Tryz.f18 Q R [.code (qah Tryz.f18)] (entry [.sl uB,paS] (b,(false,m,o,l),())) =
  (ctSym.pre ((false,m,o,l),())/\bc (decide ((symV (false,m,o,l)).2≠0)) (Q [.nils,.i (symV (false,m,o,l)).2] (qks m o l)) (bc (decide ((b.length:Int)≠m)) (Q [.nils,.i 61] (qks m o l)) (0+(symV (false,m,o,l)).1.length<=(symV (false,m,o,l)).1.length/\ctRunR.pre (b,winL syS 0 (symV (false,m,o,l)).1.length (symV (false,m,o,l)).1,())/\Q [.win true uB 1176128 0 (runV b (winL syS 0 (symV (false,m,o,l)).1.length (symV (false,m,o,l)).1)).1.length,.i 0] [(3,.var [.bool false,.i m,.i o,.sl opS l]),(1069632,.row 93 syS (symV (false,m,o,l)).1),(1176128,.row 5 uB (runV b (winL syS 0 (symV (false,m,o,l)).1.length (symV (false,m,o,l)).1)).1)]))):=by kernel_rfl
theorem qsg (b:List Int) (l:List SyT) (o:List Int) (i:Int) (Q:QT) (R:RT):sA [(67,.inl ctIn)] Tryz.f20 Q R (hd Tryz.f20 0) ⟨[(0,.sl uB b),(1,.sl syS l),(6,.win true uB 77 0 o.length),(7,.i i)],[(77,.row 5 uB o)]⟩ =
  (bc (decide (i<(l.length:Int))) ((0:Int)<=i/\i<(l.length:Int)/\(0:Int)<=i/\i<(l.length:Int)/\bc (gtY l i.toNat).1 ((0:Int)<=i/\i<(l.length:Int)/\ctIn.pre ((gtY l i.toNat).2.1,(0:Int),i64.wrap ((b.length:Int)-1),())/\bc (!(decide ((0:Int)<=(gtY l i.toNat).2.1)&&decide ((gtY l i.toNat).2.1<=i64.wrap ((b.length:Int)-1)))) (Q [.nils,.i 61] [(77,.row 5 uB o)]) ((0:Int)<=i/\i<(l.length:Int)/\(0:Int)<=(gtY l i.toNat).2.1/\(gtY l i.toNat).2.1<(b.length:Int)/\0+1<=([(u8.wrap ((gtY l i.toNat).2.2+gtB b (Int.toNat (gtY l i.toNat).2.1)))]:List uB.D).length/\o.length=o.length/\(0:Nat)=(0:Nat)/\o.length+(([(u8.wrap ((gtY l i.toNat).2.2+gtB b (Int.toNat (gtY l i.toNat).2.1)))]:List uB.D)).length<2 ^ 30/\(1:Nat)<=2 ^ 10/\R (hd Tryz.f20 0) { env:=[(0,.sl uB b),(1,.sl syS l),(6,.win true uB 49 0 (o.length+(([(u8.wrap ((gtY l i.toNat).2.2+gtB b (Int.toNat (gtY l i.toNat).2.1)))]:List uB.D)).length)),(7,.i (i64.wrap (i+1))),(8,.u (u8.wrap ((gtY l i.toNat).2.2+gtB b (Int.toNat (gtY l i.toNat).2.1)))),(10,.i i),(11,.sl syS l),(12,.i (l.length:Int)),(13,.bool (decide (i<(l.length:Int)))),(14,.i i),(15,.i (i64.wrap (i+1))),(16,.sl syS l),(17,.i i),(18,.elv syS (gtY l i.toNat)),(19,.elv uB (gtY l i.toNat).2.2),(20,.u (gtY l i.toNat).2.2),(21,.sl syS l),(22,.i i),(23,.elv syS (gtY l i.toNat)),(24,.elv Sh.bool (gtY l i.toNat).1),(25,.bool (gtY l i.toNat).1),(26,.sl syS l),(27,.i i),(28,.elv syS (gtY l i.toNat)),(29,.elv iI (gtY l i.toNat).2.1),(30,.i (gtY l i.toNat).2.1),(31,.sl uB b),(32,.i (b.length:Int)),(33,.i (i64.wrap ((b.length:Int)-1))),(34,.bool (decide ((0:Int)<=(gtY l i.toNat).2.1)&&decide ((gtY l i.toNat).2.1<=i64.wrap ((b.length:Int)-1)))),(35,.bool !(decide ((0:Int)<=(gtY l i.toNat).2.1)&&decide ((gtY l i.toNat).2.1<=i64.wrap ((b.length:Int)-1)))),(36,.u (gtY l i.toNat).2.2),(37,.sl uB b),(38,.sl syS l),(39,.i i),(40,.elv syS (gtY l i.toNat)),(41,.elv iI (gtY l i.toNat).2.1),(42,.i (gtY l i.toNat).2.1),(43,.elv uB (gtB b (Int.toNat (gtY l i.toNat).2.1))),(44,.u (gtB b (Int.toNat (gtY l i.toNat).2.1))),(45,.u (u8.wrap ((gtY l i.toNat).2.2+gtB b (Int.toNat (gtY l i.toNat).2.1)))),(46,.dead),(47,.u (u8.wrap ((gtY l i.toNat).2.2+gtB b (Int.toNat (gtY l i.toNat).2.1)))),(48,.win true uB 48 0 (1:Nat)),(49,.win true uB 49 0 (o.length+(([(u8.wrap ((gtY l i.toNat).2.2+gtB b (Int.toNat (gtY l i.toNat).2.1)))]:List uB.D)).length))],blk:=[(48,.row 5 uB ([(u8.wrap ((gtY l i.toNat).2.2+gtB b (Int.toNat (gtY l i.toNat).2.1)))]:List uB.D)),(49,.row 5 uB (o++([(u8.wrap ((gtY l i.toNat).2.2+gtB b (Int.toNat (gtY l i.toNat).2.1)))]:List uB.D)))] })) (0+1<=((List.replicate (1:Nat) uB.dflt).set (0:Nat) (gtY l i.toNat).2.2).length/\o.length=o.length/\(0:Nat)=(0:Nat)/\o.length+(winL uB 0 1 ((List.replicate (1:Nat) uB.dflt).set (0:Nat) (gtY l i.toNat).2.2)).length<2 ^ 30/\(1:Nat)<=2 ^ 10/\R (hd Tryz.f20 0) { env:=[(0,.sl uB b),(1,.sl syS l),(6,.win true uB 49 0 (o.length+(winL uB 0 1 ((List.replicate (1:Nat) uB.dflt).set (0:Nat) (gtY l i.toNat).2.2)).length)),(7,.i (i64.wrap (i+1))),(8,.u (gtY l i.toNat).2.2),(10,.i i),(11,.sl syS l),(12,.i (l.length:Int)),(13,.bool (decide (i<(l.length:Int)))),(14,.i i),(15,.i (i64.wrap (i+1))),(16,.sl syS l),(17,.i i),(18,.elv syS (gtY l i.toNat)),(19,.elv uB (gtY l i.toNat).2.2),(20,.u (gtY l i.toNat).2.2),(21,.sl syS l),(22,.i i),(23,.elv syS (gtY l i.toNat)),(24,.elv Sh.bool (gtY l i.toNat).1),(25,.bool (gtY l i.toNat).1),(46,.dead),(47,.u (gtY l i.toNat).2.2),(48,.win true uB 48 0 (1:Nat)),(49,.win true uB 49 0 (o.length+(winL uB 0 1 ((List.replicate (1:Nat) uB.dflt).set (0:Nat) (gtY l i.toNat).2.2)).length))],blk:=[(48,.row 5 uB ((List.replicate (1:Nat) uB.dflt).set (0:Nat) (gtY l i.toNat).2.2)),(49,.row 5 uB (o++winL uB 0 1 ((List.replicate (1:Nat) uB.dflt).set (0:Nat) (gtY l i.toNat).2.2)))] })) (Q [.win true uB 77 0 o.length,.i 0] [(77,.row 5 uB o)])):=by kernel_rfl
def opK (k:Int) (l:List SyT):OpT:=(k,if k=1\/k=2 then (gtY l 0).2.1 else 0,(l.length:Int),if k=3 then (gtY l 0).2.2 else 0,if k=2\/k=4 then l.map λ s=>s.2.2 else [])
set_option maxRecDepth 100000
section
variable (a b:Int) (l:List SyT) (hl:l.length<16777216)
include hl
end
def preLi (l:List SyT):Prop:=l.length<=65536/\∃ m:Int,m<16777216/\∀ s∈l,sOK m s=true
section
variable (l:List SyT) (hp:preLi l)
include hp
end
theorem q19 {x:OpT} {m:Int} (h:isRB x m=true) (h0:0<=m) (hm:m<16777216) {k:Nat} (hk:(k:Int)<x.2.2.1):sOK m (elO x.1.toNat x k)=true:=by
 have pp:=qut h ⟨h0,hm⟩;rcases (qdq h).1 with e | e | e | e
 ·rw[e];have pp:=pp (.inl e)
  show sOK m (true,IntKind.i64.wrap (x.2.1+(k:Int)),0)=true
  rw[IntWalk.i64_in _ (by omega)];simp[sOK];omega
 ·rw[e];have pp:=pp (.inr e)
  show sOK m (true,IntKind.i64.wrap (x.2.1+(k:Int)),gtB x.2.2.2.2 k)=true
  rw[IntWalk.i64_in _ (by omega)];simp[sOK];omega
 ·rw[e];rfl
 ·rw[e];rfl
theorem q0i {m:Int} (h0:0<=m) (hm:m<16777216) {l:List OpT} (hr:∀ x∈l,isRB x m=true):∀ s∈symF l,sOK m s=true:=λ s hs=>by
 obtain ⟨x,hx,k,hk,e⟩:=qsw hr s hs;rw[e];exact q19 (hr x hx) h0 hm hk
theorem q2g {p:PaT} (h:(chkV p).2=0):0<=p.2.1/\p.2.1<=65536:=by
 unfold chkV at h;split at h
 next q=>exact q27 q.1
 ·cases h
theorem q0j {p:PaT} (h:(symV p).2=0):(chkV p).2=0/\(symV p).1=symF p.2.2.2:=by
 unfold symV at h |-;split at h
 next q=>rw[if_pos q];exact ⟨q,rfl⟩
 next q=>exact absurd h q
theorem qq4 {p:PaT} (h:(symV p).2=0):(∀ s∈(symV p).1,sOK p.2.1 s=true)/\(0<=p.2.1/\p.2.1<=65536)/\((symV p).1.length:Int)=p.2.2.1:=by
 obtain ⟨h1,h2⟩:=q0j h;obtain ⟨hr,hs,ho,hl⟩:=qf9 h1;have hi:=q2g h1;rw[h2];exact ⟨q0i hi.1 (by omega) hr,hi,by rw[qgf hr,hs]⟩
theorem q02 {old:List Int} {s:SyT} (h:sOK old.length s=true):ruOK old s=true:=by
 unfold sOK at h;unfold ruOK;split at h
 next q=>rw[q];simpa using h
 next q=>simp[q]
theorem qws {old:List Int} {l:List SyT} (h:∀ x∈l,sOK old.length x=true):runV old l=(l.map (ruB old),0):=by
 unfold runV;rw[if_pos (List.all_eq_true.2 λ x hx=>q02 (h x hx))]
theorem qx3:CxOK Tryz.prog tt G0 [(67,.inl ctIn)]:=cx0.k qjp (fn:=Tryz.f67)
theorem qww (old:List Int) (hold:old.length<1099511627776) (l:List SyT) (hl:l.length<16777216):∀ (k i:Nat) (o:List Int),l.length-i=k->i<=l.length->o.length=i->o=(l.take i).map (ruB old)->(∀ j (_:j<i) (h2:j<l.length),ruOK old l[j]=true) ->
  GD 20 Tryz.f20 (RQ old l) (hd Tryz.f20 0) ⟨[(0,.sl uB old),(1,.sl syS l),(6,.win true uB 77 0 o.length),(7,.i (i:Nat))],[(77,.row 5 uB o)]⟩:=by
 intro k
 induction k with
 | zero=>
  intro i o hk hi ho he hr;refine q0l qx3 (qsg old l o i _ _) ?_;rw[decide_eq_false (show ¬ (i:Int)<(l.length:Int) by omega),bc_f];have hall:l.all (ruOK old)=true:=List.all_eq_true.2 λ x hx=>by
   obtain ⟨j,hj,rfl⟩:=List.mem_iff_getElem.1 hx;exact hr j (by omega) hj
  have hv:runV old l=(o,0):=by
   unfold runV;rw[if_pos hall,he,List.take_of_length_le (by omega)]
  refine qfz (e:=uB) (et:=5) (a:=77) (z:=0) (xs:=o) ?_ ?_ rfl rfl rfl
  ·show [_,_]=_;rw[hv]
  ·show [_]=_;rw[hv]
 | succ k ih=>
  intro i o hk hi ho he hr;have hx:i<l.length:=by omega
  have w1:IntKind.i64.wrap ((i:Int)+1)=((i+1:Nat):Int):=by rw[IntWalk.i64_in _ (by omega)];omega
  have wb:IntKind.i64.wrap ((old.length:Int)-1)=(old.length:Int)-1:=IntWalk.i64_in _ (by omega);refine q0l qx3 (qsg old l o i _ _) ?_;rw[decide_eq_true (show (i:Int)<(l.length:Int) by omega),bc_t,Int.toNat_natCast,w1,wb];have nx:∀ v,v=ruB old l[i]->ruOK old l[i]=true->GD 20 Tryz.f20 (RQ old l) (hd Tryz.f20 0) ⟨[(0,.sl uB old),(1,.sl syS l),(6,.win true uB 77 0 (o++[v]).length),(7,.i ((i+1:Nat):Int))],[(77,.row 5 uB (o++[v]))]⟩:=λ v hv hok=>
   ih (i+1) (o++[v]) (by omega) (by omega) (by simp;omega) (by rw[List.take_succ_eq_append_getElem hx,List.map_append,<- he,hv];rfl) λ j h h2=>by
    by_cases e:j=i
    ·subst e;exact hok
    ·exact hr j (by omega) h2
  rw[qdf hx];refine ⟨by omega,by omega,by omega,by omega,qaf (λ h1=>⟨by omega,by omega,trivial,qaf (λ h2=>?_) (λ h2=>?_)⟩) (λ h1=>⟨by simp,rfl,rfl,by simp[winL];omega,by omega,?_⟩)⟩
  ·have hb:ruOK old l[i]=false:=by
    have h2:l[i].2.1<0\/(old.length:Int)-1<l[i].2.1:=by simpa using h2
    cases q:ruOK old l[i] with
    | false=>rfl
    | true=>
     unfold ruOK at q;rw[h1] at q;simp at q;omega
   exact qn1 (qn2 hx hb)
  ·have h2:0<=l[i].2.1/\l[i].2.1<=(old.length:Int)-1:=by simpa using h2
   have hok:ruOK old l[i]=true:=by unfold ruOK;rw[h1];simp;omega
   refine ⟨by omega,by omega,by omega,by omega,by simp,rfl,rfl,by simp;omega,by omega,?_⟩;have nx:=nx (IntKind.u8.wrap (l[i].2.2+gtB old l[i].2.1.toNat)) (by rw[ruB,if_pos h1]) hok;refine nx.onlyR [(77,49)] rfl ⟨rfl,rfl,?_,rfl,trivial⟩ ⟨rfl,trivial⟩
   show some (SV.win true uB 49 0 (o.length+1))=some (SV.win true uB 49 0 (o++[_]).length)
   rw[List.length_append];rfl
  ·have hok:ruOK old l[i]=true:=by unfold ruOK;rw[h1];rfl
   have nx:=nx l[i].2.2 (by rw[ruB,if_neg (by rw[h1];decide)]) hok;refine nx.onlyR [(77,49)] rfl ⟨rfl,rfl,?_,rfl,trivial⟩ ⟨rfl,trivial⟩
   show some (SV.win true uB 49 0 (o.length+1))=some (SV.win true uB 49 0 (o++[_]).length)
   rw[List.length_append];rfl
theorem qpp:Held Tryz.prog G0 20 ctRunR:=by
 refine Held.of qx3 (fn:=Tryz.f20) rfl rfl ⟨by decide,by decide⟩ ?_;rintro ⟨old,l,⟨⟩⟩ hp;obtain ⟨h1,h2⟩:=hp;refine q0l qx3 (q2q old l _ _) ?_;exact (qww old h1 l h2 l.length 0 [] rfl (Nat.zero_le _) rfl rfl (λ j h=>by omega)).onlyR [(77,9)] rfl ⟨rfl,rfl,rfl,rfl,trivial⟩ ⟨rfl,trivial⟩
theorem cxRap:CxOK Tryz.prog tt G0 [(20,.inl ctRunR),(15,.inl ctSym)]:=(cx0.k rs_held (fn:=Tryz.f15)).k qpp (fn:=Tryz.f20)
theorem q06 (old:List Int) (m o:Int) (l:List OpT) (R:List Item->PS->Prop):sA [(20,.inl ctRunR),(15,.inl ctSym)] Tryz.f18 (QC ctAp (old,(false,m,o,l),())) R [.code (qah Tryz.f18)] (entry [.sl uB,paS] (old,(false,m,o,l),())):=by
 refine (q2v old m o l _ _).mpr ⟨trivial,qaf (λ h=>?_) (λ h=>?_)⟩
 ·have h:(symV (false,m,o,l)).2≠0:=of_decide_eq_true h;have hv:apV old (false,m,o,l)=([],(symV (false,m,o,l)).2):=if_neg h;refine qf0 (e:=uB) (et:=5) (z:=(symV (false,m,o,l)).2) ?_ ?_ rfl (by decide)
  ·show [_,_]=_;rw[hv];rfl
  ·show [_]=_;rw[hv]
 ·have h:¬ (symV (false,m,o,l)).2≠0:=of_decide_eq_false h;have h:(symV (false,m,o,l)).2=0:=by simpa using h
  have hv:apV old (false,m,o,l)=plV old m (symV (false,m,o,l)).1:=if_pos h;obtain ⟨r1,r2,r3⟩:=qq4 h;have hs:=q0k (false,m,o,l);refine qaf (λ h2=>?_) (λ h2=>?_)
  ·have h2:(old.length:Int)≠m:=of_decide_eq_true h2;have hv2:apV old (false,m,o,l)=([],61):=by rw[hv];exact if_neg h2
   refine qf0 (e:=uB) (et:=5) (z:=61) ?_ ?_ rfl (by decide)
   ·show [_,_]=_;rw[hv2];rfl
   ·show [_]=_;rw[hv2]
  ·have h2:(old.length:Int)=m:=by
    have h2:¬ (old.length:Int)≠m:=of_decide_eq_false h2;omega
   have r2:0<=m/\m<=65536:=r2;have hv2:apV old (false,m,o,l)=runV old (symV (false,m,o,l)).1:=by rw[hv];exact if_pos h2
   have hr:runV old (symV (false,m,o,l)).1=((symV (false,m,o,l)).1.map (ruB old),0):=qws (by rw[h2];exact r1);have q1:List.length (α:=Int) old<1099511627776:=by
    have h2:((List.length (α:=Int) old:Nat):Int)=m:=h2;omega
   have q2:List.length (symV (false,m,o,l)).1<16777216:=by omega
   rw[winA];refine ⟨by omega,⟨q1,q2⟩,?_⟩;refine qfz (e:=uB) (et:=5) (a:=1176128) (z:=0) (xs:=(runV old (symV (false,m,o,l)).1).1) ?_ ?_ rfl rfl rfl
   ·show [_,_]=_;rw[hv2,hr]
   ·show [_]=_;rw[hv2]
theorem qw4:Held Tryz.prog G0 18 ctAp:=by
 refine Held.run cxRap (fn:=Tryz.f18) rfl rfl ⟨by decide,by decide⟩ ?_;rintro ⟨old,⟨li,m,o,l⟩,⟨⟩⟩ hp;replace hp:li=false:=hp;subst hp;exact q06 old m o l _
theorem q2n  (Q:QT) (R:RT):sA CN Tryz.f12 Q R [.code (qah Tryz.f12)] (entry [] ()) =
  (0+2<=(((List.replicate (2:Nat) uB.dflt).set (0:Nat) (255:Int)).set (1:Nat) (1:Int)).length/\0+2<=(((List.replicate (2:Nat) uB.dflt).set (0:Nat) (255:Int)).set (1:Nat) (1:Int)).length/\0+3<=((((List.replicate (3:Nat) uB.dflt).set (0:Nat) (1:Int)).set (1:Nat) (2:Int)).set (2:Nat) (3:Int)).length/\0+2<=(((List.replicate (2:Nat) opS.dflt).set (0:Nat) ((1:Int),(1:Int),(2:Int),(0:Int),[])).set (1:Nat) ((3:Int),(0:Int),(2:Int),(9:Int),[])).length/\ctAp.pre (winL uB 0 3 ((((List.replicate (3:Nat) uB.dflt).set (0:Nat) (1:Int)).set (1:Nat) (2:Int)).set (2:Nat) (3:Int)),(false,(3:Int),(4:Int),winL opS 0 2 (((List.replicate (2:Nat) opS.dflt).set (0:Nat) ((1:Int),(1:Int),(2:Int),(0:Int),[])).set (1:Nat) ((3:Int),(0:Int),(2:Int),(9:Int),[]))),())/\0+3<=((((List.replicate (3:Nat) uB.dflt).set (0:Nat) (1:Int)).set (1:Nat) (2:Int)).set (2:Nat) (3:Int)).length/\0+1<=([((2:Int),(0:Int),(2:Int),(0:Int),winL uB 0 2 (((List.replicate (2:Nat) uB.dflt).set (0:Nat) (255:Int)).set (1:Nat) (1:Int)))]:List opS.D).length/\ctAp.pre (winL uB 0 3 ((((List.replicate (3:Nat) uB.dflt).set (0:Nat) (1:Int)).set (1:Nat) (2:Int)).set (2:Nat) (3:Int)),(false,(3:Int),(2:Int),([((2:Int),(0:Int),(2:Int),(0:Int),winL uB 0 2 (((List.replicate (2:Nat) uB.dflt).set (0:Nat) (255:Int)).set (1:Nat) (1:Int)))]:List opS.D)),())/\0+2<=(((List.replicate (2:Nat) opS.dflt).set (0:Nat) ((1:Int),(1:Int),(2:Int),(0:Int),[])).set (1:Nat) ((3:Int),(0:Int),(2:Int),(9:Int),[])).length/\ctSym.pre ((false,(3:Int),(4:Int),winL opS 0 2 (((List.replicate (2:Nat) opS.dflt).set (0:Nat) ((1:Int),(1:Int),(2:Int),(0:Int),[])).set (1:Nat) ((3:Int),(0:Int),(2:Int),(9:Int),[]))),())/\0+1<=([((1:Int),(2:Int),(2:Int),(0:Int),[])]:List opS.D).length/\ctChk.pre ((false,(3:Int),(2:Int),([((1:Int),(2:Int),(2:Int),(0:Int),[])]:List opS.D)),())/\0+1<=([(7:Int)]:List uB.D).length/\0+1<=([(7:Int)]:List uB.D).length/\0+1<=([((4:Int),(0:Int),(1:Int),(0:Int),([(7:Int)]:List uB.D))]:List opS.D).length/\ctChk.pre ((false,(3:Int),(2:Int),([((4:Int),(0:Int),(1:Int),(0:Int),winL uB 0 1 ([(7:Int)]:List uB.D))]:List opS.D)),())/\0+4<=(((((List.replicate (4:Nat) syS.dflt).set (0:Nat) (true,(1:Int),(0:Int))).set (1:Nat) (true,(2:Int),(0:Int))).set (2:Nat) (false,(0:Int),(9:Int))).set (3:Nat) (false,(0:Int),(9:Int))).length/\ctOf.pre (winL syS 0 4 (((((List.replicate (4:Nat) syS.dflt).set (0:Nat) (true,(1:Int),(0:Int))).set (1:Nat) (true,(2:Int),(0:Int))).set (2:Nat) (false,(0:Int),(9:Int))).set (3:Nat) (false,(0:Int),(9:Int))),(3:Int),())/\(0:Int)<=2/\(2:Int)<=(↑(3:Nat):Int)/\0+3<=((((List.replicate (3:Nat) uB.dflt).set (0:Nat) (1:Int)).set (1:Nat) (2:Int)).set (2:Nat) (3:Int)).length/\0+0+(2-0)<=((((List.replicate (3:Nat) uB.dflt).set (0:Nat) (1:Int)).set (1:Nat) (2:Int)).set (2:Nat) (3:Int)).length/\0+2<=(((List.replicate (2:Nat) opS.dflt).set (0:Nat) ((1:Int),(1:Int),(2:Int),(0:Int),[])).set (1:Nat) ((3:Int),(0:Int),(2:Int),(9:Int),[])).length/\ctAp.pre (winL uB (0+0) (2-0) ((((List.replicate (3:Nat) uB.dflt).set (0:Nat) (1:Int)).set (1:Nat) (2:Int)).set (2:Nat) (3:Int)),(false,(3:Int),(4:Int),winL opS 0 2 (((List.replicate (2:Nat) opS.dflt).set (0:Nat) ((1:Int),(1:Int),(2:Int),(0:Int),[])).set (1:Nat) ((3:Int),(0:Int),(2:Int),(9:Int),[]))),())/\0+2<=(((List.replicate (2:Nat) uB.dflt).set (0:Nat) (9:Int)).set (1:Nat) (9:Int)).length/\0+2<=(((List.replicate (2:Nat) uB.dflt).set (0:Nat) (9:Int)).set (1:Nat) (9:Int)).length/\0+(apV (winL uB 0 3 ((((List.replicate (3:Nat) uB.dflt).set (0:Nat) (1:Int)).set (1:Nat) (2:Int)).set (2:Nat) (3:Int))) (false,(3:Int),(4:Int),winL opS 0 2 (((List.replicate (2:Nat) opS.dflt).set (0:Nat) ((1:Int),(1:Int),(2:Int),(0:Int),[])).set (1:Nat) ((3:Int),(0:Int),(2:Int),(9:Int),[])))).1.length<=(apV (winL uB 0 3 ((((List.replicate (3:Nat) uB.dflt).set (0:Nat) (1:Int)).set (1:Nat) (2:Int)).set (2:Nat) (3:Int))) (false,(3:Int),(4:Int),winL opS 0 2 (((List.replicate (2:Nat) opS.dflt).set (0:Nat) ((1:Int),(1:Int),(2:Int),(0:Int),[])).set (1:Nat) ((3:Int),(0:Int),(2:Int),(9:Int),[])))).1.length/\0+4<=(((((List.replicate (4:Nat) uB.dflt).set (0:Nat) (2:Int)).set (1:Nat) (3:Int)).set (2:Nat) (9:Int)).set (3:Nat) (9:Int)).length/\ctR2.pre (winL uB 0 (apV (winL uB 0 3 ((((List.replicate (3:Nat) uB.dflt).set (0:Nat) (1:Int)).set (1:Nat) (2:Int)).set (2:Nat) (3:Int))) (false,(3:Int),(4:Int),winL opS 0 2 (((List.replicate (2:Nat) opS.dflt).set (0:Nat) ((1:Int),(1:Int),(2:Int),(0:Int),[])).set (1:Nat) ((3:Int),(0:Int),(2:Int),(9:Int),[])))).1.length (apV (winL uB 0 3 ((((List.replicate (3:Nat) uB.dflt).set (0:Nat) (1:Int)).set (1:Nat) (2:Int)).set (2:Nat) (3:Int))) (false,(3:Int),(4:Int),winL opS 0 2 (((List.replicate (2:Nat) opS.dflt).set (0:Nat) ((1:Int),(1:Int),(2:Int),(0:Int),[])).set (1:Nat) ((3:Int),(0:Int),(2:Int),(9:Int),[])))).1,winL uB 0 4 (((((List.replicate (4:Nat) uB.dflt).set (0:Nat) (2:Int)).set (1:Nat) (3:Int)).set (2:Nat) (9:Int)).set (3:Nat) (9:Int)),())/\0+(apV (winL uB 0 3 ((((List.replicate (3:Nat) uB.dflt).set (0:Nat) (1:Int)).set (1:Nat) (2:Int)).set (2:Nat) (3:Int))) (false,(3:Int),(2:Int),([((2:Int),(0:Int),(2:Int),(0:Int),winL uB 0 2 (((List.replicate (2:Nat) uB.dflt).set (0:Nat) (255:Int)).set (1:Nat) (1:Int)))]:List opS.D))).1.length<=(apV (winL uB 0 3 ((((List.replicate (3:Nat) uB.dflt).set (0:Nat) (1:Int)).set (1:Nat) (2:Int)).set (2:Nat) (3:Int))) (false,(3:Int),(2:Int),([((2:Int),(0:Int),(2:Int),(0:Int),winL uB 0 2 (((List.replicate (2:Nat) uB.dflt).set (0:Nat) (255:Int)).set (1:Nat) (1:Int)))]:List opS.D))).1.length/\0+2<=(((List.replicate (2:Nat) uB.dflt).set (0:Nat) (0:Int)).set (1:Nat) (3:Int)).length/\ctR2.pre (winL uB 0 (apV (winL uB 0 3 ((((List.replicate (3:Nat) uB.dflt).set (0:Nat) (1:Int)).set (1:Nat) (2:Int)).set (2:Nat) (3:Int))) (false,(3:Int),(2:Int),([((2:Int),(0:Int),(2:Int),(0:Int),winL uB 0 2 (((List.replicate (2:Nat) uB.dflt).set (0:Nat) (255:Int)).set (1:Nat) (1:Int)))]:List opS.D))).1.length (apV (winL uB 0 3 ((((List.replicate (3:Nat) uB.dflt).set (0:Nat) (1:Int)).set (1:Nat) (2:Int)).set (2:Nat) (3:Int))) (false,(3:Int),(2:Int),([((2:Int),(0:Int),(2:Int),(0:Int),winL uB 0 2 (((List.replicate (2:Nat) uB.dflt).set (0:Nat) (255:Int)).set (1:Nat) (1:Int)))]:List opS.D))).1,winL uB 0 2 (((List.replicate (2:Nat) uB.dflt).set (0:Nat) (0:Int)).set (1:Nat) (3:Int)),())/\0+(symV (false,(3:Int),(4:Int),winL opS 0 2 (((List.replicate (2:Nat) opS.dflt).set (0:Nat) ((1:Int),(1:Int),(2:Int),(0:Int),[])).set (1:Nat) ((3:Int),(0:Int),(2:Int),(9:Int),[])))).1.length<=(symV (false,(3:Int),(4:Int),winL opS 0 2 (((List.replicate (2:Nat) opS.dflt).set (0:Nat) ((1:Int),(1:Int),(2:Int),(0:Int),[])).set (1:Nat) ((3:Int),(0:Int),(2:Int),(9:Int),[])))).1.length/\0+4<=(((((List.replicate (4:Nat) syS.dflt).set (0:Nat) (true,(1:Int),(0:Int))).set (1:Nat) (true,(2:Int),(0:Int))).set (2:Nat) (false,(0:Int),(9:Int))).set (3:Nat) (false,(0:Int),(9:Int))).length/\ctSS.pre (winL syS 0 (symV (false,(3:Int),(4:Int),winL opS 0 2 (((List.replicate (2:Nat) opS.dflt).set (0:Nat) ((1:Int),(1:Int),(2:Int),(0:Int),[])).set (1:Nat) ((3:Int),(0:Int),(2:Int),(9:Int),[])))).1.length (symV (false,(3:Int),(4:Int),winL opS 0 2 (((List.replicate (2:Nat) opS.dflt).set (0:Nat) ((1:Int),(1:Int),(2:Int),(0:Int),[])).set (1:Nat) ((3:Int),(0:Int),(2:Int),(9:Int),[])))).1,winL syS 0 4 (((((List.replicate (4:Nat) syS.dflt).set (0:Nat) (true,(1:Int),(0:Int))).set (1:Nat) (true,(2:Int),(0:Int))).set (2:Nat) (false,(0:Int),(9:Int))).set (3:Nat) (false,(0:Int),(9:Int))),())/\0+2<=(((List.replicate (2:Nat) opS.dflt).set (0:Nat) ((1:Int),(1:Int),(2:Int),(0:Int),[])).set (1:Nat) ((4:Int),(0:Int),(2:Int),(0:Int),winL uB 0 2 (((List.replicate (2:Nat) uB.dflt).set (0:Nat) (9:Int)).set (1:Nat) (9:Int)))).length/\ctSm.pre (((ofV (winL syS 0 4 (((((List.replicate (4:Nat) syS.dflt).set (0:Nat) (true,(1:Int),(0:Int))).set (1:Nat) (true,(2:Int),(0:Int))).set (2:Nat) (false,(0:Int),(9:Int))).set (3:Nat) (false,(0:Int),(9:Int)))) (3:Int)).1),(false,(3:Int),(4:Int),winL opS 0 2 (((List.replicate (2:Nat) opS.dflt).set (0:Nat) ((1:Int),(1:Int),(2:Int),(0:Int),[])).set (1:Nat) ((4:Int),(0:Int),(2:Int),(0:Int),winL uB 0 2 (((List.replicate (2:Nat) uB.dflt).set (0:Nat) (9:Int)).set (1:Nat) (9:Int))))),())/\0+2<=(((List.replicate (2:Nat) opS.dflt).set (0:Nat) ((1:Int),(1:Int),(2:Int),(0:Int),[])).set (1:Nat) ((3:Int),(0:Int),(2:Int),(9:Int),[])).length/\ctCost.pre ((false,(3:Int),(4:Int),winL opS 0 2 (((List.replicate (2:Nat) opS.dflt).set (0:Nat) ((1:Int),(1:Int),(2:Int),(0:Int),[])).set (1:Nat) ((3:Int),(0:Int),(2:Int),(9:Int),[]))),())/\0+1<=([((2:Int),(0:Int),(2:Int),(0:Int),winL uB 0 2 (((List.replicate (2:Nat) uB.dflt).set (0:Nat) (255:Int)).set (1:Nat) (1:Int)))]:List opS.D).length/\ctCost.pre ((false,(3:Int),(2:Int),([((2:Int),(0:Int),(2:Int),(0:Int),winL uB 0 2 (((List.replicate (2:Nat) uB.dflt).set (0:Nat) (255:Int)).set (1:Nat) (1:Int)))]:List opS.D)),())/\0+2<=(((List.replicate (2:Nat) opS.dflt).set (0:Nat) ((1:Int),(1:Int),(2:Int),(0:Int),[])).set (1:Nat) ((4:Int),(0:Int),(2:Int),(0:Int),winL uB 0 2 (((List.replicate (2:Nat) uB.dflt).set (0:Nat) (9:Int)).set (1:Nat) (9:Int)))).length/\ctCost.pre ((false,(3:Int),(4:Int),winL opS 0 2 (((List.replicate (2:Nat) opS.dflt).set (0:Nat) ((1:Int),(1:Int),(2:Int),(0:Int),[])).set (1:Nat) ((4:Int),(0:Int),(2:Int),(0:Int),winL uB 0 2 (((List.replicate (2:Nat) uB.dflt).set (0:Nat) (9:Int)).set (1:Nat) (9:Int))))),())/\ctWh.pre ((3:Int),())/\ctRw.pre ((3:Int),())/\ctSm.pre ((whV (3:Int)),(rwV (3:Int)),())/\ctWh.pre ((0:Int),())/\ctSm.pre ((whV (0:Int)),(false,(0:Int),(0:Int),[]),())/\Q [.bool (bif true then smB (whV (0:Int)) (false,(0:Int),(0:Int),[]) else false)] [(2,.var [.bool false,.i 3,.i 4,.win true opS 23 0 (2:Nat)]),(3,.var [.bool false,.i 3,.i 2,.win true opS 27 0 (1:Nat)]),(14,.var [.bool (ofV (winL syS 0 4 (((((List.replicate (4:Nat) syS.dflt).set (0:Nat) (true,(1:Int),(0:Int))).set (1:Nat) (true,(2:Int),(0:Int))).set (2:Nat) (false,(0:Int),(9:Int))).set (3:Nat) (false,(0:Int),(9:Int)))) (3:Int)).1.1,.i (ofV (winL syS 0 4 (((((List.replicate (4:Nat) syS.dflt).set (0:Nat) (true,(1:Int),(0:Int))).set (1:Nat) (true,(2:Int),(0:Int))).set (2:Nat) (false,(0:Int),(9:Int))).set (3:Nat) (false,(0:Int),(9:Int)))) (3:Int)).1.2.1,.i (ofV (winL syS 0 4 (((((List.replicate (4:Nat) syS.dflt).set (0:Nat) (true,(1:Int),(0:Int))).set (1:Nat) (true,(2:Int),(0:Int))).set (2:Nat) (false,(0:Int),(9:Int))).set (3:Nat) (false,(0:Int),(9:Int)))) (3:Int)).1.2.2.1,.sl opS (ofV (winL syS 0 4 (((((List.replicate (4:Nat) syS.dflt).set (0:Nat) (true,(1:Int),(0:Int))).set (1:Nat) (true,(2:Int),(0:Int))).set (2:Nat) (false,(0:Int),(9:Int))).set (3:Nat) (false,(0:Int),(9:Int)))) (3:Int)).1.2.2.2]),(18,.var [.bool false,.i 3,.i 4,.win true opS 80 0 (2:Nat)]),(20,.row 5 uB ((((List.replicate (3:Nat) uB.dflt).set (0:Nat) (1:Int)).set (1:Nat) (2:Int)).set (2:Nat) (3:Int))),(23,.row 91 opS (((List.replicate (2:Nat) opS.dflt).set (0:Nat) ((1:Int),(1:Int),(2:Int),(0:Int),[])).set (1:Nat) ((3:Int),(0:Int),(2:Int),(9:Int),[]))),(27,.row 91 opS ([((2:Int),(0:Int),(2:Int),(0:Int),winL uB 0 2 (((List.replicate (2:Nat) uB.dflt).set (0:Nat) (255:Int)).set (1:Nat) (1:Int)))]:List opS.D)),(48,.row 91 opS ([((1:Int),(2:Int),(2:Int),(0:Int),[])]:List opS.D)),(56,.row 91 opS ([((4:Int),(0:Int),(1:Int),(0:Int),([(7:Int)]:List uB.D))]:List opS.D)),(80,.row 91 opS (((List.replicate (2:Nat) opS.dflt).set (0:Nat) ((1:Int),(1:Int),(2:Int),(0:Int),[])).set (1:Nat) ((4:Int),(0:Int),(2:Int),(0:Int),winL uB 0 2 (((List.replicate (2:Nat) uB.dflt).set (0:Nat) (9:Int)).set (1:Nat) (9:Int))))),(86,.row 5 uB (((((List.replicate (4:Nat) uB.dflt).set (0:Nat) (2:Int)).set (1:Nat) (3:Int)).set (2:Nat) (9:Int)).set (3:Nat) (9:Int))),(95,.row 5 uB (((List.replicate (2:Nat) uB.dflt).set (0:Nat) (0:Int)).set (1:Nat) (3:Int))),(108,.row 93 syS (((((List.replicate (4:Nat) syS.dflt).set (0:Nat) (true,(1:Int),(0:Int))).set (1:Nat) (true,(2:Int),(0:Int))).set (2:Nat) (false,(0:Int),(9:Int))).set (3:Nat) (false,(0:Int),(9:Int)))),(1131072,.row 5 uB (apV (winL uB 0 3 ((((List.replicate (3:Nat) uB.dflt).set (0:Nat) (1:Int)).set (1:Nat) (2:Int)).set (2:Nat) (3:Int))) (false,(3:Int),(4:Int),winL opS 0 2 (((List.replicate (2:Nat) opS.dflt).set (0:Nat) ((1:Int),(1:Int),(2:Int),(0:Int),[])).set (1:Nat) ((3:Int),(0:Int),(2:Int),(9:Int),[])))).1),(1155648,.row 5 uB (apV (winL uB 0 3 ((((List.replicate (3:Nat) uB.dflt).set (0:Nat) (1:Int)).set (1:Nat) (2:Int)).set (2:Nat) (3:Int))) (false,(3:Int),(2:Int),([((2:Int),(0:Int),(2:Int),(0:Int),winL uB 0 2 (((List.replicate (2:Nat) uB.dflt).set (0:Nat) (255:Int)).set (1:Nat) (1:Int)))]:List opS.D))).1),(1176128,.row 93 syS (symV (false,(3:Int),(4:Int),winL opS 0 2 (((List.replicate (2:Nat) opS.dflt).set (0:Nat) ((1:Int),(1:Int),(2:Int),(0:Int),[])).set (1:Nat) ((3:Int),(0:Int),(2:Int),(9:Int),[])))).1),(1303104,.row 5 uB (apV (winL uB (0+0) (2-0) ((((List.replicate (3:Nat) uB.dflt).set (0:Nat) (1:Int)).set (1:Nat) (2:Int)).set (2:Nat) (3:Int))) (false,(3:Int),(4:Int),winL opS 0 2 (((List.replicate (2:Nat) opS.dflt).set (0:Nat) ((1:Int),(1:Int),(2:Int),(0:Int),[])).set (1:Nat) ((3:Int),(0:Int),(2:Int),(9:Int),[])))).1)]):=by kernel_rfl
def ctSn6:Ctr:=⟨[],λ _=>True,λ _=>[.bool true],λ _=>[]⟩
instance (x:OpT):Decidable (k14 x):=by unfold k14;infer_instance
instance (l:List SyT):Decidable (qj8 l):=by unfold qj8;infer_instance
theorem q0y (R:List Item->PS->Prop):sA CN Tryz.f12 (QC ctSn6 ()) R [.code (qah Tryz.f12)] (entry [] ()):=by
 refine (q2n _ _).mpr ?_
 repeat' first
  | exact trivial
  | decide +kernel
  | refine And.intro ?_ ?_
  | (refine QC.flat ?_ rfl rfl)
  | exact (rfl:_=false)
  | (show List.length _<1099511627776;decide +kernel)
  | (refine congrArg (λ b=>[SV.bool b]) ?_;decide +kernel)
theorem qwo:Held Tryz.prog G0 12 ctSn6:=Held.run cxN (fn:=Tryz.f12) rfl rfl ⟨by decide,by decide⟩ λ x _=>q0y _
def ctInpF:Ctr:=⟨[.sl uB,iI],λ x=>preI x.2.1,λ x=>[.sl uB (inpL x.1 x.2.1.toNat)],λ _=>[]⟩
def ctSymF:Ctr:=⟨[paS],λ _=>True,λ x=>[.sl syS (symV x.1).1,.i (symV x.1).2],λ _=>[]⟩
def ctRawF:Ctr:=⟨[.sl a2S,iI],λ x=>q3o x.1 x.2.1,λ x=>[.sl syS (rawL x.1 x.2.1 (rawK x.1))],λ _=>[]⟩
abbrev gtBs (l:List (List Int)) (i:Nat):List Int:=gt (.sl uB) l i
def CPm:CV:=[(12,.inl ctSn6),(13,.inl ctM6),(14,.inl ctInpF),(15,.inl ctSymF),(16,.inl ctRawF),(17,.inl ctAp),(18,.inl ctAp),(19,.inl ctRun),(20,.inl ctRunR),(21,.inl ctR2),(22,.inl ctSym),(23,.inl ctOfA),(24,.inl ctOf6),(25,.inl ctChk),(26,.inl ctSS),(27,.inl ctSm),(28,.inl ctCost),(29,.inl ctRco)]
set_option maxRecDepth 100000
theorem q2w (x:Int × List (List Int)) (b:List Int) (l:List (List Int)) (Q:List SV->Prop) (R:List Item->PS->Prop):sA CPm Tryz.f3 (λ rs _=>Q rs) (λ it S=>R it (qcb [6,7,8,10,12,13,14] [8,13] S)) [.code (qah Tryz.f3)] (entry [raS,.sl uB,.sl a2S] (x,b,l,())) =
  (ctSn6.pre ()/\ctM6.pre ((x.1,x.2),())/\ctInpF.pre (b,(szV x.2 (x.1 % (13:Int))).2.1,())/\ctSymF.pre ((szV x.2 (x.1 % (13:Int))),())/\ctRawF.pre (l,(szV x.2 (x.1 % (13:Int))).2.1,())/\(0:Int)<=min (b.length:Int) (20:Int)/\min (b.length:Int) (20:Int)<=(b.length:Int)/\R (hd Tryz.f3 0) { env:=[(6,.bool false),(7,.bool true),(8,.ptr 8 0),(10,.sl syS (symV (szV x.2 (x.1 % (13:Int)))).1),(12,.sl syS (rawL l (szV x.2 (x.1 % (13:Int))).2.1 (rawK l))),(13,.ptr 13 0),(14,.i 0)],blk:=[(8,.var [.bool (szV x.2 (x.1 % (13:Int))).1,.i (szV x.2 (x.1 % (13:Int))).2.1,.i (szV x.2 (x.1 % (13:Int))).2.2.1,.sl opS (szV x.2 (x.1 % (13:Int))).2.2.2]),(13,.var [.arr (2:Nat) uB.sl ((List.set (Sh.arr (2:Nat) uB.sl).dflt (0:Nat) (inpL b (szV x.2 (x.1 % (13:Int))).2.1.toNat)).set (1:Nat) (List.take (min (b.length:Int) (20:Int)).toNat b))])] }):=by kernel_rfl
theorem qsj (p:PaT) (bd:List (List Int)) (s r:List SyT) (i:Nat) (Q:List SV->Prop) (R:List Item->PS->Prop):sA CPm Tryz.f3 (λ rs _=>Q rs) (λ it S=>R it (qcb [6,7,8,10,12,13,14] [8,13] S)) (hd Tryz.f3 0) ⟨[(6,.bool false),(7,.bool true),(8,.ptr 8 0),(10,.sl syS s),(12,.sl syS r),(13,.ptr 13 0),(14,.i (i:Nat))],[(8,.var [.bool p.1,.i p.2.1,.i p.2.2.1,.sl opS p.2.2.2]),(13,.var [.arr 2 (.sl uB) bd])]⟩ =
  (bc (decide ((i:Int)<2)) ((0:Int)<=(i:Int)/\(i:Int)<(↑(2:Nat):Int)/\(i:Int).toNat<2/\ctAp.pre (gtBs bd (i:Int).toNat,p,())/\(0:Int)<=(i:Int)/\(i:Int)<(↑(2:Nat):Int)/\(i:Int).toNat<2/\ctAp.pre (gtBs bd (i:Int).toNat,p,())/\(0:Int)<=(i:Int)/\(i:Int)<(↑(2:Nat):Int)/\(i:Int).toNat<2/\ctRun.pre (gtBs bd (i:Int).toNat,r,())/\(0:Int)<=(i:Int)/\(i:Int)<(↑(2:Nat):Int)/\(i:Int).toNat<2/\ctRunR.pre (gtBs bd (i:Int).toNat,r,())/\0+(apV (gtBs bd (i:Int).toNat) p).1.length<=(apV (gtBs bd (i:Int).toNat) p).1.length/\0+(apV (gtBs bd (i:Int).toNat) p).1.length<=(apV (gtBs bd (i:Int).toNat) p).1.length/\ctR2.pre (winL uB 0 (apV (gtBs bd (i:Int).toNat) p).1.length (apV (gtBs bd (i:Int).toNat) p).1,winL uB 0 (apV (gtBs bd (i:Int).toNat) p).1.length (apV (gtBs bd (i:Int).toNat) p).1,())/\bc (!decide ((have this:=winL uB 0 (apV (gtBs bd (i:Int).toNat) p).1.length (apV (gtBs bd (i:Int).toNat) p).1;this)=winL uB 0 (apV (gtBs bd (i:Int).toNat) p).1.length (apV (gtBs bd (i:Int).toNat) p).1)) (true=true/\true=true/\true=true/\Q [.bool false]) (bc (bif false then true else decide ((apV (gtBs bd (i:Int).toNat) p).2≠(apV (gtBs bd (i:Int).toNat) p).2)) (true=true/\true=true/\Q [.bool false]) (0+(runV (gtBs bd (i:Int).toNat) r).1.length<=(runV (gtBs bd (i:Int).toNat) r).1.length/\0+(runV (gtBs bd (i:Int).toNat) r).1.length<=(runV (gtBs bd (i:Int).toNat) r).1.length/\ctR2.pre (winL uB 0 (runV (gtBs bd (i:Int).toNat) r).1.length (runV (gtBs bd (i:Int).toNat) r).1,winL uB 0 (runV (gtBs bd (i:Int).toNat) r).1.length (runV (gtBs bd (i:Int).toNat) r).1,())/\bc (bif false then true else !decide ((have this:=winL uB 0 (runV (gtBs bd (i:Int).toNat) r).1.length (runV (gtBs bd (i:Int).toNat) r).1;this)=winL uB 0 (runV (gtBs bd (i:Int).toNat) r).1.length (runV (gtBs bd (i:Int).toNat) r).1)) (true=true/\Q [.bool false]) (bc (bif false then true else decide ((runV (gtBs bd (i:Int).toNat) r).2≠(runV (gtBs bd (i:Int).toNat) r).2)) (Q [.bool false]) (R (hd Tryz.f3 0) { env:=[(6,.bool false),(7,.bool true),(8,.ptr 8 0),(10,.sl syS s),(12,.sl syS r),(13,.ptr 13 0),(14,.i (IntKind.i64.wrap ((i:Int)+1)))],blk:=[(8,.var [.bool p.1,.i p.2.1,.i p.2.2.1,.sl opS p.2.2.2]),(13,.var [.arr (2:Nat) uB.sl bd])] }))))) (ctSym.pre (p,())/\ctOfA.pre (r,p.2.1,())/\ctOf6.pre (r,p.2.1,())/\ctChk.pre (p,())/\bc (decide ((symV p).2=(0:Int))) (0+(symV p).1.length<=(symV p).1.length/\ctSS.pre (s,winL syS 0 (symV p).1.length (symV p).1,())/\bc (decide ((have this:=s;this)=winL syS 0 (symV p).1.length (symV p).1)) (bc (decide ((ofV r p.2.1).2=(ofRV r p.2.1).2)) (ctSm.pre (((ofV r p.2.1).1),((ofRV r p.2.1).1),())/\bc (bif true then smB ((ofV r p.2.1).1) ((ofRV r p.2.1).1) else false) (bc (decide ((chkV p).2=(0:Int))) (bc (decide ((chkV p).1=(p.2.2.2.length:Int))) (ctCost.pre (p,())/\ctRco.pre (p,())/\bc (decide (ql8 (0:Int) p.2.2.2=ql8 (0:Int) p.2.2.2)) (Q [.bool true]) (false=false/\Q [.bool false])) (false=false/\false=false/\Q [.bool false])) (false=false/\false=false/\false=false/\Q [.bool false])) (false=false/\false=false/\false=false/\false=false/\Q [.bool false])) (false=false/\false=false/\false=false/\false=false/\false=false/\Q [.bool false])) (false=false/\false=false/\false=false/\false=false/\false=false/\false=false/\Q [.bool false])) (false=false/\false=false/\false=false/\false=false/\false=false/\false=false/\false=false/\Q [.bool false]))):=by kernel_rfl
end Go.Proofs.YtgopblmdkjkbbaaGreatDoor
