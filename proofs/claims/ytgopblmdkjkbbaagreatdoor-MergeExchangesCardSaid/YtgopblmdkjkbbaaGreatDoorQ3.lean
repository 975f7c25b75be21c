/-
  A part of the proof: what pieces of the program give; conditions: those of each theorem.
-/
import Derived.Test.YtgopblmdkjkbbaaGreatDoorQ2
import Derived.Test.YtgopblmdkjkbbaaGreatDoorHD
import Derived.Test.YtgopblmdkjkbbaaGreatDoorQ1
set_option linter.unusedVariables false
set_option linter.unusedSimpArgs false
namespace Go.Proofs.YtgopblmdkjkbbaaGreatDoor
open Go.Px Go.Ax
open Go.IntKind(i64 u32 u8)
set_option maxRecDepth 100000
abbrev ttO:TT:=match lk tt 91 with
 | some ti=>(91,ti)::tt
 | none=>tt
def COf:CV:=[(67,.inl ctIn),(72,.inl ctRsyB),(73,.inl ctRgo),(74,.inl ctRk)]
set_option maxRecDepth 100000
theorem q8p (m:Int) (l:List SyT) (Q:QT) (R:RT):sy ttO G0 COf Tryz.f24.ntmps Tryz.f24.results.toList Q (λ it S=>R it (qa5 [0,1,4,6,7] [4,6,65,97] S)) 1000 [.code (qad Tryz.f24)] (entry [.sl syS,iI] (l,m,())) =
  (ctIn.pre (m,(0:Int),(65536:Int),())/\bc (!(decide ((0:Int)<=m)&&decide (m<=65536))) (true=true/\Q [.agg [.bool false,.i 0,.i 0,.nils],.i 60] [(4,.var [.bool false,.i 0,.i 0,.nils])]) (bc (bif false then true else decide ((65536:Int)<l.length)) (Q [.agg [.bool false,.i 0,.i 0,.nils],.i 60] [(4,.var [.bool false,.i 0,.i 0,.nils])]) (R (hd Tryz.f24 0) { env:=[(0,.sl syS l),(1,.i m),(4,.ptr 4 0),(6,.ptr 6 0),(7,.i 0)],blk:=[(4,.var [.bool false,.i 0,.i 0,.nils]),(6,.var [.bool false,.i m,.i l.length,.nils])] }))):=by kernel_rfl
theorem q4o (m:Int) (l:List SyT) (i:Nat) (Q:QT) (R:RT):sy ttO G0 COf Tryz.f24.ntmps Tryz.f24.results.toList Q (λ it S=>R it (qa5 [0,1,4,6,7] [4,6,65,97] S)) 1000 (hd Tryz.f24 0) ⟨[(0,.sl syS l),(1,.i m),(4,.ptr 4 0),(6,.ptr 6 0),(7,.i (i:Nat))],[(4,.var [.bool false,.i 0,.i 0,.nils]),(6,.var [.bool false,.i m,.i (l.length:Nat),.nils])]⟩ =
  (bc (decide ((i:Int)<l.length)) ((0:Int)<=i/\(i:Int)<l.length/\ctRsyB.pre ((gtY l (i:Int).toNat),m,())/\bc (!sOK m (gtY l (i:Int).toNat)) (Q [.agg [.bool false,.i 0,.i 0,.nils],.i 60] [(4,.var [.bool false,.i 0,.i 0,.nils]),(6,.var [.bool false,.i m,.i l.length,.nils])]) (bc (decide ((i:Int)=(0:Int))) (true=true/\(0:Int)<=i/\(i:Int)<l.length/\ctRk.pre ((gtY l (i:Int).toNat),())/\(0:Int)<=i/\(i:Int)<l.length/\(56:Nat)<=2 ^ 10/\(0:Int)<=i64.wrap ((↑(1:Nat):Int)-1)/\i64.wrap ((↑(1:Nat):Int)-1)<(↑(1:Nat):Int)/\0+(i64.wrap ((↑(1:Nat):Int)-1)).toNat=(0:Nat)/\0+(i64.wrap ((↑(1:Nat):Int)-1)).toNat=(0:Nat)/\0+(i64.wrap ((↑(1:Nat):Int)-1)).toNat=(0:Nat)/\bc (decide (rkd (gtY l (i:Int).toNat)≠1)) (0+(i64.wrap ((↑(1:Nat):Int)-1)).toNat=(0:Nat)/\(0:Int)<=i/\(i:Int)<l.length/\0+1<=((List.replicate (1:Nat) uB.dflt).set (0:Nat) (gtY l (i:Int).toNat).2.2).length/\(winL uB 0 1 ((List.replicate (1:Nat) uB.dflt).set (0:Nat) (gtY l (i:Int).toNat).2.2)).length<2 ^ 30/\(1:Nat)<=2 ^ 10/\0+(i64.wrap ((↑(1:Nat):Int)-1)).toNat=(0:Nat)/\R (hd Tryz.f24 0) { env:=[(0,.sl syS l),(1,.i m),(4,.ptr 4 0),(6,.ptr 6 0),(7,.i (i64.wrap ((i:Int)+1)))],blk:=[(4,.var [.bool false,.i 0,.i 0,.nils]),(6,.var [.bool false,.i m,.i l.length,.win true opS 65 0 (1:Nat)]),(65,.var [.arr (91:Nat) Sh.unit (List.replicate (91:TypeId) ()),.arr (0:Nat) opS [],.i (rkd (gtY l (i:Int).toNat)),.i (gtY l (i:Int).toNat).2.1,.i ((1:Int)),.u 0,.win true uB 97 0 (1:Nat)]),(97,.row 5 uB (winL uB 0 1 ((List.replicate (1:Nat) uB.dflt).set (0:Nat) (gtY l (i:Int).toNat).2.2)))] }) (R (hd Tryz.f24 0) { env:=[(0,.sl syS l),(1,.i m),(4,.ptr 4 0),(6,.ptr 6 0),(7,.i (i64.wrap ((i:Int)+1)))],blk:=[(4,.var [.bool false,.i 0,.i 0,.nils]),(6,.var [.bool false,.i m,.i l.length,.win true opS 65 0 (1:Nat)]),(65,.var [.arr (91:Nat) Sh.unit (List.replicate (91:TypeId) ()),.arr (0:Nat) opS [],.i (rkd (gtY l (i:Int).toNat)),.i (gtY l (i:Int).toNat).2.1,.i ((1:Int)),.u 0,.nils])] })) ((0:Int)<=i64.wrap ((i:Int)-1)/\i64.wrap ((i:Int)-1)<(l.length:Int)/\(0:Int)<=i/\(i:Int)<l.length/\ctRgo.pre ((gtY l (i64.wrap ((i:Int)-1)).toNat),(gtY l (i:Int).toNat),())/\bc (bif false then true else !rgoB (gtY l (i64.wrap ((i:Int)-1)).toNat) (gtY l (i:Int).toNat)) ((0:Int)<=i/\(i:Int)<l.length/\ctRk.pre ((gtY l (i:Int).toNat),())/\(0:Int)<=i/\(i:Int)<l.length/\(56:Nat)<=2 ^ 10/\(0:Int)<=i64.wrap ((↑(1:Nat):Int)-1)/\i64.wrap ((↑(1:Nat):Int)-1)<(↑(1:Nat):Int)/\0+(i64.wrap ((↑(1:Nat):Int)-1)).toNat=(0:Nat)/\0+(i64.wrap ((↑(1:Nat):Int)-1)).toNat=(0:Nat)/\0+(i64.wrap ((↑(1:Nat):Int)-1)).toNat=(0:Nat)/\bc (decide (rkd (gtY l (i:Int).toNat)≠1)) (0+(i64.wrap ((↑(1:Nat):Int)-1)).toNat=(0:Nat)/\(0:Int)<=i/\(i:Int)<l.length/\0+1<=((List.replicate (1:Nat) uB.dflt).set (0:Nat) (gtY l (i:Int).toNat).2.2).length/\(winL uB 0 1 ((List.replicate (1:Nat) uB.dflt).set (0:Nat) (gtY l (i:Int).toNat).2.2)).length<2 ^ 30/\(1:Nat)<=2 ^ 10/\0+(i64.wrap ((↑(1:Nat):Int)-1)).toNat=(0:Nat)/\R (hd Tryz.f24 0) { env:=[(0,.sl syS l),(1,.i m),(4,.ptr 4 0),(6,.ptr 6 0),(7,.i (i64.wrap ((i:Int)+1)))],blk:=[(4,.var [.bool false,.i 0,.i 0,.nils]),(6,.var [.bool false,.i m,.i l.length,.win true opS 65 0 (1:Nat)]),(65,.var [.arr (91:Nat) Sh.unit (List.replicate (91:TypeId) ()),.arr (0:Nat) opS [],.i (rkd (gtY l (i:Int).toNat)),.i (gtY l (i:Int).toNat).2.1,.i ((1:Int)),.u 0,.win true uB 97 0 (1:Nat)]),(97,.row 5 uB (winL uB 0 1 ((List.replicate (1:Nat) uB.dflt).set (0:Nat) (gtY l (i:Int).toNat).2.2)))] }) (R (hd Tryz.f24 0) { env:=[(0,.sl syS l),(1,.i m),(4,.ptr 4 0),(6,.ptr 6 0),(7,.i (i64.wrap ((i:Int)+1)))],blk:=[(4,.var [.bool false,.i 0,.i 0,.nils]),(6,.var [.bool false,.i m,.i l.length,.win true opS 65 0 (1:Nat)]),(65,.var [.arr (91:Nat) Sh.unit (List.replicate (91:TypeId) ()),.arr (0:Nat) opS [],.i (rkd (gtY l (i:Int).toNat)),.i (gtY l (i:Int).toNat).2.1,.i ((1:Int)),.u 0,.nils])] })) False))) (Q [.agg [.bool false,.i m,.i l.length,.nils],.i 0] [(4,.var [.bool false,.i m,.i l.length,.nils]),(6,.var [.bool false,.i m,.i l.length,.nils])])):=by kernel_rfl
def qkv (m:Int) (l:List SyT) (j:Nat) (xs:List OpT) (k a c b:Int):List (Nat × LB):=[(4,.var [.bool false,.i 0,.i 0,.nils]),(6,.var [.bool false,.i m,.i l.length,.win true opS 65 0 (j+(1:Nat))]),(65,.var [.arr (91:Nat) Sh.unit (List.replicate (91:Nat) ()),.arr j opS xs,.i k,.i a,.i c,.u b,.nils])]
theorem q4n (m:Int) (l:List SyT) (i j:Nat) (xs:List OpT) (k a c b:Int) (d:List Int) (Q:QT) (R:RT):sy ttO G0 COf Tryz.f24.ntmps Tryz.f24.results.toList Q (λ it S=>R it (qa5 [0,1,4,6,7] [4,6,65,97] S)) 1000 (hd Tryz.f24 0) ⟨[(0,.sl syS l),(1,.i m),(4,.ptr 4 0),(6,.ptr 6 0),(7,.i (i:Nat))],[(4,.var [.bool false,.i 0,.i 0,.nils]),(6,.var [.bool false,.i m,.i (l.length:Nat),.win true opS 65 0 (j+1)]),(65,.var [.arr 91 .unit (List.replicate 91 ()),.arr j opS xs,.i k,.i a,.i c,.u b,.nils])]⟩ =
  (bc (decide ((i:Int)<l.length)) ((0:Int)<=i/\(i:Int)<l.length/\ctRsyB.pre ((gtY l (i:Int).toNat),m,())/\bc (!sOK m (gtY l (i:Int).toNat)) (Q [.agg [.bool false,.i 0,.i 0,.nils],.i 60] (qkv m l j xs k a c b)) (bc (decide ((i:Int)=(0:Int))) (true=true/\(0:Int)<=i/\(i:Int)<l.length/\ctRk.pre ((gtY l (i:Int).toNat),())/\(0:Int)<=i/\(i:Int)<l.length/\j+1=j+1/\j+2<2 ^ 30/\(56:Nat)<=2 ^ 10/\(0:Int)<=i64.wrap ((↑(j+1+1):Int)-1)/\i64.wrap ((↑(j+1+1):Int)-1)<(↑(j+1+1):Int)/\0+(i64.wrap ((↑(j+1+1):Int)-1)).toNat=j+1/\0+(i64.wrap ((↑(j+1+1):Int)-1)).toNat=j+1/\0+(i64.wrap ((↑(j+1+1):Int)-1)).toNat=j+1/\bc (decide (rkd (gtY l (i:Int).toNat)≠1)) (0+(i64.wrap ((↑(j+1+1):Int)-1)).toNat=j+1/\(0:Int)<=i/\(i:Int)<l.length/\0+1<=((List.replicate (1:Nat) uB.dflt).set (0:Nat) (gtY l (i:Int).toNat).2.2).length/\(winL uB 0 1 ((List.replicate (1:Nat) uB.dflt).set (0:Nat) (gtY l (i:Int).toNat).2.2)).length<2 ^ 30/\(1:Nat)<=2 ^ 10/\0+(i64.wrap ((↑(j+1+1):Int)-1)).toNat=j+1/\R (hd Tryz.f24 0) { env:=[(0,.sl syS l),(1,.i m),(4,.ptr 4 0),(6,.ptr 6 0),(7,.i (i64.wrap ((i:Int)+1)))],blk:=[(4,.var [.bool false,.i 0,.i 0,.nils]),(6,.var [.bool false,.i m,.i l.length,.win true opS 65 0 (j+1+1)]),(65,.var [.arr (91:Nat) Sh.unit (List.replicate (91:TypeId) ()),.arr (j+1) opS (xs++[(k,a,c,b,[])]),.i (rkd (gtY l (i:Int).toNat)),.i (gtY l (i:Int).toNat).2.1,.i ((1:Int)),.u 0,.win true uB 97 0 (1:Nat)]),(97,.row 5 uB (winL uB 0 1 ((List.replicate (1:Nat) uB.dflt).set (0:Nat) (gtY l (i:Int).toNat).2.2)))] }) (R (hd Tryz.f24 0) { env:=[(0,.sl syS l),(1,.i m),(4,.ptr 4 0),(6,.ptr 6 0),(7,.i (i64.wrap ((i:Int)+1)))],blk:=[(4,.var [.bool false,.i 0,.i 0,.nils]),(6,.var [.bool false,.i m,.i l.length,.win true opS 65 0 (j+1+1)]),(65,.var [.arr (91:Nat) Sh.unit (List.replicate (91:TypeId) ()),.arr (j+1) opS (xs++[(k,a,c,b,[])]),.i (rkd (gtY l (i:Int).toNat)),.i (gtY l (i:Int).toNat).2.1,.i ((1:Int)),.u 0,.nils])] })) ((0:Int)<=i64.wrap ((i:Int)-1)/\i64.wrap ((i:Int)-1)<(l.length:Int)/\(0:Int)<=i/\(i:Int)<l.length/\ctRgo.pre ((gtY l (i64.wrap ((i:Int)-1)).toNat),(gtY l (i:Int).toNat),())/\bc (bif false then true else !rgoB (gtY l (i64.wrap ((i:Int)-1)).toNat) (gtY l (i:Int).toNat)) ((0:Int)<=i/\(i:Int)<l.length/\ctRk.pre ((gtY l (i:Int).toNat),())/\(0:Int)<=i/\(i:Int)<l.length/\j+1=j+1/\j+2<2 ^ 30/\(56:Nat)<=2 ^ 10/\(0:Int)<=i64.wrap ((↑(j+1+1):Int)-1)/\i64.wrap ((↑(j+1+1):Int)-1)<(↑(j+1+1):Int)/\0+(i64.wrap ((↑(j+1+1):Int)-1)).toNat=j+1/\0+(i64.wrap ((↑(j+1+1):Int)-1)).toNat=j+1/\0+(i64.wrap ((↑(j+1+1):Int)-1)).toNat=j+1/\bc (decide (rkd (gtY l (i:Int).toNat)≠1)) (0+(i64.wrap ((↑(j+1+1):Int)-1)).toNat=j+1/\(0:Int)<=i/\(i:Int)<l.length/\0+1<=((List.replicate (1:Nat) uB.dflt).set (0:Nat) (gtY l (i:Int).toNat).2.2).length/\(winL uB 0 1 ((List.replicate (1:Nat) uB.dflt).set (0:Nat) (gtY l (i:Int).toNat).2.2)).length<2 ^ 30/\(1:Nat)<=2 ^ 10/\0+(i64.wrap ((↑(j+1+1):Int)-1)).toNat=j+1/\R (hd Tryz.f24 0) { env:=[(0,.sl syS l),(1,.i m),(4,.ptr 4 0),(6,.ptr 6 0),(7,.i (i64.wrap ((i:Int)+1)))],blk:=[(4,.var [.bool false,.i 0,.i 0,.nils]),(6,.var [.bool false,.i m,.i l.length,.win true opS 65 0 (j+1+1)]),(65,.var [.arr (91:Nat) Sh.unit (List.replicate (91:TypeId) ()),.arr (j+1) opS (xs++[(k,a,c,b,[])]),.i (rkd (gtY l (i:Int).toNat)),.i (gtY l (i:Int).toNat).2.1,.i ((1:Int)),.u 0,.win true uB 97 0 (1:Nat)]),(97,.row 5 uB (winL uB 0 1 ((List.replicate (1:Nat) uB.dflt).set (0:Nat) (gtY l (i:Int).toNat).2.2)))] }) (R (hd Tryz.f24 0) { env:=[(0,.sl syS l),(1,.i m),(4,.ptr 4 0),(6,.ptr 6 0),(7,.i (i64.wrap ((i:Int)+1)))],blk:=[(4,.var [.bool false,.i 0,.i 0,.nils]),(6,.var [.bool false,.i m,.i l.length,.win true opS 65 0 (j+1+1)]),(65,.var [.arr (91:Nat) Sh.unit (List.replicate (91:TypeId) ()),.arr (j+1) opS (xs++[(k,a,c,b,[])]),.i (rkd (gtY l (i:Int).toNat)),.i (gtY l (i:Int).toNat).2.1,.i ((1:Int)),.u 0,.nils])] })) ((0:Int)<=i64.wrap ((↑(j+1):Int)-1)/\i64.wrap ((↑(j+1):Int)-1)<(↑(j+1):Int)/\0+(i64.wrap ((↑(j+1):Int)-1)).toNat=j/\0+(i64.wrap ((↑(j+1):Int)-1)).toNat=j/\0+(i64.wrap ((↑(j+1):Int)-1)).toNat=j/\bc (decide (k≠1)) (0+(i64.wrap ((↑(j+1):Int)-1)).toNat=j/\(0:Int)<=i/\(i:Int)<l.length/\0+1<=((List.replicate (1:Nat) uB.dflt).set (0:Nat) (gtY l (i:Int).toNat).2.2).length/\(winL uB 0 1 ((List.replicate (1:Nat) uB.dflt).set (0:Nat) (gtY l (i:Int).toNat).2.2)).length<2 ^ 30/\(1:Nat)<=2 ^ 10/\0+(i64.wrap ((↑(j+1):Int)-1)).toNat=j/\R (hd Tryz.f24 0) { env:=[(0,.sl syS l),(1,.i m),(4,.ptr 4 0),(6,.ptr 6 0),(7,.i (i64.wrap ((i:Int)+1)))],blk:=[(4,.var [.bool false,.i 0,.i 0,.nils]),(6,.var [.bool false,.i m,.i l.length,.win true opS 65 0 (j+1)]),(65,.var [.arr (91:Nat) Sh.unit (List.replicate (91:Nat) ()),.arr j opS xs,.i k,.i a,.i (i64.wrap (c+1)),.u b,.win true uB 97 0 (1:Nat)]),(97,.row 5 uB (winL uB 0 1 ((List.replicate (1:Nat) uB.dflt).set (0:Nat) (gtY l (i:Int).toNat).2.2)))] }) (R (hd Tryz.f24 0) { env:=[(0,.sl syS l),(1,.i m),(4,.ptr 4 0),(6,.ptr 6 0),(7,.i (i64.wrap ((i:Int)+1)))],blk:=[(4,.var [.bool false,.i 0,.i 0,.nils]),(6,.var [.bool false,.i m,.i l.length,.win true opS 65 0 (j+1)]),(65,.var [.arr (91:Nat) Sh.unit (List.replicate (91:Nat) ()),.arr j opS xs,.i k,.i a,.i (i64.wrap (c+1)),.u b,.nils])] }))))) (bc (decide ((4096:Int)<(↑(j+1):Int))) (Q [.agg [.bool false,.i 0,.i 0,.nils],.i 2] (qkv m l j xs k a c b)) (Q [.agg [.bool false,.i m,.i l.length,.win true opS 65 0 (j+1)],.i 0] [(4,.var [.bool false,.i m,.i l.length,.win true opS 65 0 (j+1)]),(6,.var [.bool false,.i m,.i l.length,.win true opS 65 0 (j+1)]),(65,.var [.arr (91:Nat) Sh.unit (List.replicate (91:Nat) ()),.arr j opS xs,.i k,.i a,.i c,.u b,.nils])]))):=by kernel_rfl
def qku (m:Int) (l:List SyT) (j:Nat) (xs:List OpT) (k a c b:Int) (d:List Int):List (Nat × LB):=[(4,.var [.bool false,.i 0,.i 0,.nils]),(6,.var [.bool false,.i m,.i l.length,.win true opS 65 0 (j+(1:Nat))]),(65,.var [.arr (91:Nat) Sh.unit (List.replicate (91:Nat) ()),.arr j opS xs,.i k,.i a,.i c,.u b,.win true uB 97 0 d.length]),(97,.row 5 uB d)]
theorem q4m (m:Int) (l:List SyT) (i j:Nat) (xs:List OpT) (k a c b:Int) (d:List Int) (Q:QT) (R:RT):sy ttO G0 COf Tryz.f24.ntmps Tryz.f24.results.toList Q (λ it S=>R it (qa5 [0,1,4,6,7] [4,6,65,97] S)) 1000 (hd Tryz.f24 0) ⟨[(0,.sl syS l),(1,.i m),(4,.ptr 4 0),(6,.ptr 6 0),(7,.i (i:Nat))],[(4,.var [.bool false,.i 0,.i 0,.nils]),(6,.var [.bool false,.i m,.i (l.length:Nat),.win true opS 65 0 (j+1)]),(65,.var [.arr 91 .unit (List.replicate 91 ()),.arr j opS xs,.i k,.i a,.i c,.u b,.win true uB 97 0 d.length]),(97,.row 5 uB d)]⟩ =
  (bc (decide ((i:Int)<l.length)) ((0:Int)<=i/\(i:Int)<l.length/\ctRsyB.pre ((gtY l (i:Int).toNat),m,())/\bc (!sOK m (gtY l (i:Int).toNat)) (Q [.agg [.bool false,.i 0,.i 0,.nils],.i 60] (qku m l j xs k a c b d)) (bc (decide ((i:Int)=(0:Int))) (true=true/\(0:Int)<=i/\(i:Int)<l.length/\ctRk.pre ((gtY l (i:Int).toNat),())/\(0:Int)<=i/\(i:Int)<l.length/\False) ((0:Int)<=i64.wrap ((i:Int)-1)/\i64.wrap ((i:Int)-1)<(l.length:Int)/\(0:Int)<=i/\(i:Int)<l.length/\ctRgo.pre ((gtY l (i64.wrap ((i:Int)-1)).toNat),(gtY l (i:Int).toNat),())/\bc (bif false then true else !rgoB (gtY l (i64.wrap ((i:Int)-1)).toNat) (gtY l (i:Int).toNat)) ((0:Int)<=i/\(i:Int)<l.length/\ctRk.pre ((gtY l (i:Int).toNat),())/\(0:Int)<=i/\(i:Int)<l.length/\False) ((0:Int)<=i64.wrap ((↑(j+1):Int)-1)/\i64.wrap ((↑(j+1):Int)-1)<(↑(j+1):Int)/\0+(i64.wrap ((↑(j+1):Int)-1)).toNat=j/\0+(i64.wrap ((↑(j+1):Int)-1)).toNat=j/\0+(i64.wrap ((↑(j+1):Int)-1)).toNat=j/\bc (decide (k≠1)) (0+(i64.wrap ((↑(j+1):Int)-1)).toNat=j/\(0:Int)<=i/\(i:Int)<l.length/\0+1<=((List.replicate (1:Nat) uB.dflt).set (0:Nat) (gtY l (i:Int).toNat).2.2).length/\d.length=d.length/\(0:Nat)=(0:Nat)/\d.length+(winL uB 0 1 ((List.replicate (1:Nat) uB.dflt).set (0:Nat) (gtY l (i:Int).toNat).2.2)).length<2 ^ 30/\(1:Nat)<=2 ^ 10/\0+(i64.wrap ((↑(j+1):Int)-1)).toNat=j/\R (hd Tryz.f24 0) { env:=[(0,.sl syS l),(1,.i m),(4,.ptr 4 0),(6,.ptr 6 0),(7,.i (i64.wrap ((i:Int)+1)))],blk:=[(4,.var [.bool false,.i 0,.i 0,.nils]),(6,.var [.bool false,.i m,.i l.length,.win true opS 65 0 (j+1)]),(65,.var [.arr (91:Nat) Sh.unit (List.replicate (91:Nat) ()),.arr j opS xs,.i k,.i a,.i (i64.wrap (c+1)),.u b,.win true uB 97 0 (d.length+(winL uB 0 1 ((List.replicate (1:Nat) uB.dflt).set (0:Nat) (gtY l (i:Int).toNat).2.2)).length)]),(97,.row 5 uB (d++winL uB 0 1 ((List.replicate (1:Nat) uB.dflt).set (0:Nat) (gtY l (i:Int).toNat).2.2)))] }) (R (hd Tryz.f24 0) { env:=[(0,.sl syS l),(1,.i m),(4,.ptr 4 0),(6,.ptr 6 0),(7,.i (i64.wrap ((i:Int)+1)))],blk:=[(4,.var [.bool false,.i 0,.i 0,.nils]),(6,.var [.bool false,.i m,.i l.length,.win true opS 65 0 (j+1)]),(65,.var [.arr (91:Nat) Sh.unit (List.replicate (91:Nat) ()),.arr j opS xs,.i k,.i a,.i (i64.wrap (c+1)),.u b,.win true uB 97 0 d.length]),(97,.row 5 uB d)] }))))) (bc (decide ((4096:Int)<(↑(j+1):Int))) (Q [.agg [.bool false,.i 0,.i 0,.nils],.i 2] (qku m l j xs k a c b d)) (Q [.agg [.bool false,.i m,.i l.length,.win true opS 65 0 (j+1)],.i 0] [(4,.var [.bool false,.i m,.i l.length,.win true opS 65 0 (j+1)]),(6,.var [.bool false,.i m,.i l.length,.win true opS 65 0 (j+1)]),(65,.var [.arr (91:Nat) Sh.unit (List.replicate (91:Nat) ()),.arr j opS xs,.i k,.i a,.i c,.u b,.win true uB 97 0 d.length]),(97,.row 5 uB d)]))):=by kernel_rfl
def qkt (m:Int) (l:List SyT) (j:Nat) (xs:List OpT) (k a c b:Int) (d:List Int):List (Nat × LB):=[(4,.var [.bool false,.i 0,.i 0,.nils]),(6,.var [.bool false,.i m,.i l.length,.win true opS 65 0 (j+(1:Nat))]),(65,.var [.arr (91:Nat) Sh.unit (List.replicate (91:Nat) ()),.arr j opS xs,.i k,.i a,.i c,.u b,.sl uB d])]
theorem q4l (m:Int) (l:List SyT) (i j:Nat) (xs:List OpT) (k a c b:Int) (d:List Int) (Q:QT) (R:RT):sy ttO G0 COf Tryz.f24.ntmps Tryz.f24.results.toList Q (λ it S=>R it (qa5 [0,1,4,6,7] [4,6,65,97] S)) 1000 (hd Tryz.f24 0) ⟨[(0,.sl syS l),(1,.i m),(4,.ptr 4 0),(6,.ptr 6 0),(7,.i (i:Nat))],[(4,.var [.bool false,.i 0,.i 0,.nils]),(6,.var [.bool false,.i m,.i (l.length:Nat),.win true opS 65 0 (j+1)]),(65,.var [.arr 91 .unit (List.replicate 91 ()),.arr j opS xs,.i k,.i a,.i c,.u b,.sl uB d])]⟩ =
  (bc (decide ((i:Int)<l.length)) ((0:Int)<=i/\(i:Int)<l.length/\ctRsyB.pre ((gtY l (i:Int).toNat),m,())/\bc (!sOK m (gtY l (i:Int).toNat)) (Q [.agg [.bool false,.i 0,.i 0,.nils],.i 60] (qkt m l j xs k a c b d)) (bc (decide ((i:Int)=(0:Int))) (true=true/\(0:Int)<=i/\(i:Int)<l.length/\ctRk.pre ((gtY l (i:Int).toNat),())/\(0:Int)<=i/\(i:Int)<l.length/\j+1=j+1/\j+2<2 ^ 30/\(56:Nat)<=2 ^ 10/\(0:Int)<=i64.wrap ((↑(j+1+1):Int)-1)/\i64.wrap ((↑(j+1+1):Int)-1)<(↑(j+1+1):Int)/\0+(i64.wrap ((↑(j+1+1):Int)-1)).toNat=j+1/\0+(i64.wrap ((↑(j+1+1):Int)-1)).toNat=j+1/\0+(i64.wrap ((↑(j+1+1):Int)-1)).toNat=j+1/\bc (decide (rkd (gtY l (i:Int).toNat)≠1)) (0+(i64.wrap ((↑(j+1+1):Int)-1)).toNat=j+1/\(0:Int)<=i/\(i:Int)<l.length/\0+1<=((List.replicate (1:Nat) uB.dflt).set (0:Nat) (gtY l (i:Int).toNat).2.2).length/\(winL uB 0 1 ((List.replicate (1:Nat) uB.dflt).set (0:Nat) (gtY l (i:Int).toNat).2.2)).length<2 ^ 30/\(1:Nat)<=2 ^ 10/\0+(i64.wrap ((↑(j+1+1):Int)-1)).toNat=j+1/\R (hd Tryz.f24 0) { env:=[(0,.sl syS l),(1,.i m),(4,.ptr 4 0),(6,.ptr 6 0),(7,.i (i64.wrap ((i:Int)+1)))],blk:=[(4,.var [.bool false,.i 0,.i 0,.nils]),(6,.var [.bool false,.i m,.i l.length,.win true opS 65 0 (j+1+1)]),(65,.var [.arr (91:Nat) Sh.unit (List.replicate (91:TypeId) ()),.arr (j+1) opS (xs++[(k,a,c,b,d)]),.i (rkd (gtY l (i:Int).toNat)),.i (gtY l (i:Int).toNat).2.1,.i ((1:Int)),.u 0,.win true uB 97 0 (1:Nat)]),(97,.row 5 uB (winL uB 0 1 ((List.replicate (1:Nat) uB.dflt).set (0:Nat) (gtY l (i:Int).toNat).2.2)))] }) (R (hd Tryz.f24 0) { env:=[(0,.sl syS l),(1,.i m),(4,.ptr 4 0),(6,.ptr 6 0),(7,.i (i64.wrap ((i:Int)+1)))],blk:=[(4,.var [.bool false,.i 0,.i 0,.nils]),(6,.var [.bool false,.i m,.i l.length,.win true opS 65 0 (j+1+1)]),(65,.var [.arr (91:Nat) Sh.unit (List.replicate (91:TypeId) ()),.arr (j+1) opS (xs++[(k,a,c,b,d)]),.i (rkd (gtY l (i:Int).toNat)),.i (gtY l (i:Int).toNat).2.1,.i ((1:Int)),.u 0,.nils])] })) ((0:Int)<=i64.wrap ((i:Int)-1)/\i64.wrap ((i:Int)-1)<(l.length:Int)/\(0:Int)<=i/\(i:Int)<l.length/\ctRgo.pre ((gtY l (i64.wrap ((i:Int)-1)).toNat),(gtY l (i:Int).toNat),())/\bc (bif false then true else !rgoB (gtY l (i64.wrap ((i:Int)-1)).toNat) (gtY l (i:Int).toNat)) ((0:Int)<=i/\(i:Int)<l.length/\ctRk.pre ((gtY l (i:Int).toNat),())/\(0:Int)<=i/\(i:Int)<l.length/\j+1=j+1/\j+2<2 ^ 30/\(56:Nat)<=2 ^ 10/\(0:Int)<=i64.wrap ((↑(j+1+1):Int)-1)/\i64.wrap ((↑(j+1+1):Int)-1)<(↑(j+1+1):Int)/\0+(i64.wrap ((↑(j+1+1):Int)-1)).toNat=j+1/\0+(i64.wrap ((↑(j+1+1):Int)-1)).toNat=j+1/\0+(i64.wrap ((↑(j+1+1):Int)-1)).toNat=j+1/\bc (decide (rkd (gtY l (i:Int).toNat)≠1)) (0+(i64.wrap ((↑(j+1+1):Int)-1)).toNat=j+1/\(0:Int)<=i/\(i:Int)<l.length/\0+1<=((List.replicate (1:Nat) uB.dflt).set (0:Nat) (gtY l (i:Int).toNat).2.2).length/\(winL uB 0 1 ((List.replicate (1:Nat) uB.dflt).set (0:Nat) (gtY l (i:Int).toNat).2.2)).length<2 ^ 30/\(1:Nat)<=2 ^ 10/\0+(i64.wrap ((↑(j+1+1):Int)-1)).toNat=j+1/\R (hd Tryz.f24 0) { env:=[(0,.sl syS l),(1,.i m),(4,.ptr 4 0),(6,.ptr 6 0),(7,.i (i64.wrap ((i:Int)+1)))],blk:=[(4,.var [.bool false,.i 0,.i 0,.nils]),(6,.var [.bool false,.i m,.i l.length,.win true opS 65 0 (j+1+1)]),(65,.var [.arr (91:Nat) Sh.unit (List.replicate (91:TypeId) ()),.arr (j+1) opS (xs++[(k,a,c,b,d)]),.i (rkd (gtY l (i:Int).toNat)),.i (gtY l (i:Int).toNat).2.1,.i ((1:Int)),.u 0,.win true uB 97 0 (1:Nat)]),(97,.row 5 uB (winL uB 0 1 ((List.replicate (1:Nat) uB.dflt).set (0:Nat) (gtY l (i:Int).toNat).2.2)))] }) (R (hd Tryz.f24 0) { env:=[(0,.sl syS l),(1,.i m),(4,.ptr 4 0),(6,.ptr 6 0),(7,.i (i64.wrap ((i:Int)+1)))],blk:=[(4,.var [.bool false,.i 0,.i 0,.nils]),(6,.var [.bool false,.i m,.i l.length,.win true opS 65 0 (j+1+1)]),(65,.var [.arr (91:Nat) Sh.unit (List.replicate (91:TypeId) ()),.arr (j+1) opS (xs++[(k,a,c,b,d)]),.i (rkd (gtY l (i:Int).toNat)),.i (gtY l (i:Int).toNat).2.1,.i ((1:Int)),.u 0,.nils])] })) ((0:Int)<=i64.wrap ((↑(j+1):Int)-1)/\i64.wrap ((↑(j+1):Int)-1)<(↑(j+1):Int)/\0+(i64.wrap ((↑(j+1):Int)-1)).toNat=j/\0+(i64.wrap ((↑(j+1):Int)-1)).toNat=j/\0+(i64.wrap ((↑(j+1):Int)-1)).toNat=j/\bc (decide (k≠1)) (0+(i64.wrap ((↑(j+1):Int)-1)).toNat=j/\(0:Int)<=i/\(i:Int)<l.length/\False) (R (hd Tryz.f24 0) { env:=[(0,.sl syS l),(1,.i m),(4,.ptr 4 0),(6,.ptr 6 0),(7,.i (i64.wrap ((i:Int)+1)))],blk:=[(4,.var [.bool false,.i 0,.i 0,.nils]),(6,.var [.bool false,.i m,.i l.length,.win true opS 65 0 (j+1)]),(65,.var [.arr (91:Nat) Sh.unit (List.replicate (91:Nat) ()),.arr j opS xs,.i k,.i a,.i (i64.wrap (c+1)),.u b,.sl uB d])] }))))) (bc (decide ((4096:Int)<(↑(j+1):Int))) (Q [.agg [.bool false,.i 0,.i 0,.nils],.i 2] (qkt m l j xs k a c b d)) (Q [.agg [.bool false,.i m,.i l.length,.win true opS 65 0 (j+1)],.i 0] [(4,.var [.bool false,.i m,.i l.length,.win true opS 65 0 (j+1)]),(6,.var [.bool false,.i m,.i l.length,.win true opS 65 0 (j+1)]),(65,.var [.arr (91:Nat) Sh.unit (List.replicate (91:Nat) ()),.arr j opS xs,.i k,.i a,.i c,.u b,.sl uB d])]))):=by kernel_rfl
def qks (m:Int) (l:List SyT) (d:List OpT):List (Nat × LB):=[(4,.var [.bool false,.i 0,.i 0,.nils]),(6,.var (pL false m (l.length:Int) d))]
theorem q4k (m:Int) (l:List SyT) (d:List OpT) (i:Nat) (Q:QT) (R:RT):sy ttO G0 COf Tryz.f24.ntmps Tryz.f24.results.toList Q (λ it S=>R it (qa5 [0,1,4,6,7] [4,6,65,97] S)) 1000 (hd Tryz.f24 0) ⟨[(0,.sl syS l),(1,.i m),(4,.ptr 4 0),(6,.ptr 6 0),(7,.i (i:Nat))],[(4,.var [.bool false,.i 0,.i 0,.nils]),(6,.var (pL false m (l.length:Nat) d))]⟩ =
  (bc (decide ((i:Int)<l.length)) ((0:Int)<=i/\(i:Int)<l.length/\ctRsyB.pre ((gtY l (i:Int).toNat),m,())/\bc (!sOK m (gtY l (i:Int).toNat)) (Q [.agg [.bool false,.i 0,.i 0,.nils],.i 60] (qks m l d)) (bc (decide ((i:Int)=(0:Int))) (true=true/\(0:Int)<=i/\(i:Int)<l.length/\ctRk.pre ((gtY l (i:Int).toNat),())/\(0:Int)<=i/\(i:Int)<l.length/\False) ((0:Int)<=i64.wrap ((i:Int)-1)/\i64.wrap ((i:Int)-1)<(l.length:Int)/\(0:Int)<=i/\(i:Int)<l.length/\ctRgo.pre ((gtY l (i64.wrap ((i:Int)-1)).toNat),(gtY l (i:Int).toNat),())/\bc (bif false then true else !rgoB (gtY l (i64.wrap ((i:Int)-1)).toNat) (gtY l (i:Int).toNat)) ((0:Int)<=i/\(i:Int)<l.length/\ctRk.pre ((gtY l (i:Int).toNat),())/\(0:Int)<=i/\(i:Int)<l.length/\False) ((0:Int)<=i64.wrap ((d.length:Int)-1)/\i64.wrap ((d.length:Int)-1)<(d.length:Int)/\False)))) (bc (decide ((4096:Int)<d.length)) (Q [.agg [.bool false,.i 0,.i 0,.nils],.i 2] (qks m l d)) (Q [.agg (pL false m (l.length:Int) d),.i 0] [(4,.var (pL false m (l.length:Int) d)),(6,.var (pL false m (l.length:Int) d))]))):=by kernel_rfl
attribute [local irreducible] Go.Px.sy Go.Px.syE
theorem zaf {tt:TT} {a:Nat} {ti:TI} (h:lk tt a=some ti) (t:Nat):lk ((a,ti)::tt) t=lk tt t:=by
 simp only[lk];split
 next e=>subst e;exact h.symm
 ·rfl
theorem q9i:∀ t,lk ttO t=lk tt t:=by
 intro t;unfold ttO;split
 next ti h=>exact zaf h t
 ·rfl
theorem cxO:CxOK Tryz.prog ttO G0 COf:=((((cx0.k qvx (fn:=Tryz.f74)).k qzt (fn:=Tryz.f73)).k qvt (fn:=Tryz.f72)).k qnl (fn:=Tryz.f67)).tab q9i
def newO (s:SyT):OpT:=(rkd s,s.2.1,1,0,if rkd s=1 then [] else [s.2.2])
def extO (x:OpT) (s:SyT):OpT:=(x.1,x.2.1,x.2.2.1+1,x.2.2.2.1,if x.1=1 then x.2.2.2.2 else x.2.2.2.2++[s.2.2])
def stpR (r:List OpT × OpT) (p s:SyT):List OpT × OpT:=match rgoB p s with
 | true=>(r.1,extO r.2 s)
 | false=>(r.1++[r.2],newO s)
def ofR (l:List SyT):Nat->List OpT × OpT
 | 0=>([],newO (gtY l 0))
 | i+1=>stpR (ofR l i) (gtY l i) (gtY l (i+1))
def ofO (l:List SyT):List OpT:=match l.length with
 | 0=>[]
 | n+1=>(ofR l n).1++[(ofR l n).2]
def ofRV (l:List SyT) (m:Int):PaT × Int:=if szB m=true/\szB l.length=true/\l.all (sOK m)=true then (if 4096<(ofO l).length then ((false,0,0,[]),2) else ((false,m,l.length,ofO l),0)) else ((false,0,0,[]),60)
def zah (l:List SyT) (i:Nat) (r:List OpT × OpT):Prop:=r.2.1=rkd (gtY l i)/\(1<=r.2.2.2.1/\r.2.2.2.1<=i+1)/\r.1.length<=i/\r.2.2.2.2.2.length<=i+1/\(r.2.1=1->r.2.2.2.2.2=[])
theorem qrz (s:SyT):(newO s).2.2.2.2.length<=1/\(rkd s=1->(newO s).2.2.2.2=[]):=by
 unfold newO;by_cases h:rkd s=1
 ·simp[h]
 ·simp[h]
theorem qnf (l:List SyT):∀ i,zah l i (ofR l i)
 | 0=>⟨rfl,⟨Int.le_refl _,by simp[ofR,newO]⟩,Nat.le_refl _,(qrz _).1,(qrz _).2⟩
 | i+1=>by
  obtain ⟨h1,⟨h2,h3⟩,h4,h5,h6⟩:=qnf l i
  show zah l (i+1) (stpR (ofR l i) (gtY l i) (gtY l (i+1)))
  unfold stpR;split
  next hg=>
   simp only[rgoB,Bool.and_eq_true,decide_eq_true_eq] at hg;refine ⟨h1.trans hg.1,⟨?_,?_⟩,Nat.le_succ_of_le h4,?_,?_⟩
   ·show 1<=(ofR l i).2.2.2.1+1;omega
   ·show (ofR l i).2.2.2.1+1<=((i+1:Nat):Int)+1;omega
   ·show (extO (ofR l i).2 (gtY l (i+1))).2.2.2.2.length<=_
    unfold extO;by_cases hk:(ofR l i).2.1=1
    ·simp only[hk,if_true];omega
    ·simp only[hk,if_false,List.length_append,List.length_singleton];omega
   ·intro hk;have hk:(ofR l i).2.1=1:=hk
    show (extO (ofR l i).2 (gtY l (i+1))).2.2.2.2=[]
    unfold extO;simp only[hk,if_true];exact h6 hk
  ·refine ⟨rfl,⟨Int.le_refl _,?_⟩,?_,?_,(qrz _).2⟩
   ·show (1:Int)<=((i+1:Nat):Int)+1;omega
   ·simp only[List.length_append,List.length_singleton];omega
   ·have:=(qrz (gtY l (i+1))).1;show (newO (gtY l (i+1))).2.2.2.2.length<=_;omega
abbrev QPe (p:PaT × Int):List SV->List (Nat × LB)->Prop:=λ rs _=>MtL (λ _=>none) [paV p.1,.i p.2] rs
abbrev GDo (Q:List SV->List (Nat × LB)->Prop) (it:List Item) (S:PS):Prop:=Px.Good Tryz.prog ttO G0 24 Tryz.f24.ntmps Tryz.f24.results.toList Q it S
section
variable (m:Int) (l:List SyT) (hm0:0<=m) (hm1:m<=65536) (hn:l.length<=65536)
abbrev sE (i:Nat) (w:SV) (bs:List (Nat × LB)):PS:=⟨[(0,.sl syS l),(1,.i m),(4,.ptr 4 0),(6,.ptr 6 0),(7,.i (i:Nat))],(4,.var [.bool false,.i 0,.i 0,.nils])::(6,.var [.bool false,.i m,.i (l.length:Nat),w])::bs⟩
abbrev bO (xs:List OpT) (k a c b:Int) (d:SV):LB:=.var [.arr 91 .unit (List.replicate 91 ()),.arr xs.length opS xs,.i k,.i a,.i c,.u b,d]
abbrev sB (i:Nat) (xs:List OpT) (k a c b:Int):PS:=sE m l i (.win true opS 65 0 (xs.length+1)) [(65,bO xs k a c b .nils)]
abbrev sC (i:Nat) (xs:List OpT) (k a c b:Int) (d:List Int):PS:=sE m l i (.win true opS 65 0 (xs.length+1)) [(65,bO xs k a c b (.win true uB 97 0 d.length)),(97,.row 5 uB d)]
abbrev sD (i:Nat) (xs:List OpT) (k a c b:Int) (d:List Int):PS:=sE m l i (.win true opS 65 0 (xs.length+1)) [(65,bO xs k a c b (.sl uB d))]
theorem sC_D {i:Nat} {xs:List OpT} {k a c b:Int} {d:List Int} {Q:List SV->List (Nat × LB)->Prop} {it:List Item} (h:GDo Q it (sD m l i xs k a c b d)):GDo Q it (sC m l i xs k a c b d):=by
 refine Good.frz (i:=97) (e:=uB) (et:=5) (xs:=d) rfl (λ c hc=>?_) ?_
 ·have hc:c∈[0+d.length<=d.length]:=hc;rw[List.mem_singleton] at hc;subst hc;omega
 ·have e:winL uB 0 d.length d=d:=winA (e:=uB) d;refine Good.only (S':=sD m l i xs k a c b (winL uB 0 d.length d)) ?_ ⟨rfl,rfl,rfl,rfl,rfl,trivial⟩ ⟨rfl,rfl,rfl,trivial⟩;rw[e];exact h
end
section
variable (m:Int) (l:List SyT) (hm0:0<=m) (hm1:m<=65536) (hn:l.length<=65536) {Q:List SV->List (Nat × LB)->Prop}
theorem wr1 (i:Nat) (h:i<1000000):IntKind.i64.wrap (((i+1:Nat):Int)-1)=(i:Nat):=by rw[IntWalk.i64_in _ (by omega)];omega
theorem wr2 (i:Nat) (h:i<1000000):IntKind.i64.wrap ((i:Int)+1)=((i+1:Nat):Int):=by rw[IntWalk.i64_in _ (by omega)];omega
include hm0 hm1 hn
abbrev badQ (Q:List SV->List (Nat × LB)->Prop):Prop:=∀ blk,Q [SV.agg [SV.bool false,SV.i 0,SV.i 0,SV.nils],SV.i 60] blk
theorem rndB (i:Nat) (xs:List OpT) (k a c b:Int) (hi:i+1<l.length) (hk:k=1) (hc:1<=c/\c<=i+1) (hx:xs.length<=i) (bad:sOK m (gtY l (i+1))=false->badQ Q)
  (nxG:sOK m (gtY l (i+1))=true->rgoB (gtY l i) (gtY l (i+1))=true->GDo Q (Px.hd Tryz.f24 0) (sB m l (i+2) xs k a (c+1) b))
  (nx1:sOK m (gtY l (i+1))=true->rgoB (gtY l i) (gtY l (i+1))=false->rkd (gtY l (i+1))=1->GDo Q (Px.hd Tryz.f24 0) (sB m l (i+2) (xs++[(k,a,c,b,[])]) (rkd (gtY l (i+1))) (gtY l (i+1)).2.1 1 0))
  (nx2:sOK m (gtY l (i+1))=true->rgoB (gtY l i) (gtY l (i+1))=false->rkd (gtY l (i+1))≠1->GDo Q (Px.hd Tryz.f24 0) (sC m l (i+2) (xs++[(k,a,c,b,[])]) (rkd (gtY l (i+1))) (gtY l (i+1)).2.1 1 0 [(gtY l (i+1)).2.2])) :
  GDo Q (Px.hd Tryz.f24 0) (sB m l (i+1) xs k a c b):=by
 refine qak cxO (q4n m l (i+1) xs.length xs k a c b [] _ _) ?_;have e1:=wr1 i (by omega);have e2:=wr2 (i+1) (by omega);have e3:=wr1 xs.length (by omega);have e4:=wr1 (xs.length+1) (by omega);have e5:IntKind.i64.wrap (c+1)=c+1:=IntWalk.i64_in _ (by omega);rw[decide_eq_true (show ((i+1:Nat):Int)<(l.length:Int) by omega),bc_t];refine ⟨by omega,by omega,⟨hm0,(show m<16777216 by omega)⟩,?_⟩;rw[decide_eq_false (show ¬ ((i+1:Nat):Int)=0 by omega)];simp only[e1,e2,e3,e4,e5,Int.toNat_natCast,bc_f,cond_false];refine qaf (λ hs=>bad (by simpa using hs) _) (λ hs=>⟨by omega,by omega,by omega,by omega,trivial,qaf (λ hg=>?_) (λ hg=>?_)⟩)
 ·have hs:sOK m (gtY l (i+1))=true:=by simpa using hs
  have hg:rgoB (gtY l i) (gtY l (i+1))=false:=by simpa using hg
  refine ⟨by omega,by omega,trivial,by omega,by omega,trivial,by omega,by decide,by omega,by omega,Nat.zero_add _,Nat.zero_add _,Nat.zero_add _,qaf (λ h=>?_) (λ h=>?_)⟩
  ·have h:=of_decide_eq_true h;exact ⟨Nat.zero_add _,by omega,by omega,Nat.le_refl 1,(show 1<2 ^ 30 by decide),by decide,Nat.zero_add _,(nx2 hs hg h).only ⟨rfl,rfl,rfl,rfl,rfl,trivial⟩ ⟨rfl,by rw[List.length_append];rfl,by simp only[bO,List.length_append];rfl,rfl,trivial⟩⟩
  ·have h:rkd (gtY l (i+1))=1:=by have:=of_decide_eq_false h;omega
   exact (nx1 hs hg h).only ⟨rfl,rfl,rfl,rfl,rfl,trivial⟩ ⟨rfl,by rw[List.length_append];rfl,by simp only[bO,List.length_append];rfl,trivial⟩
 ·have hs:sOK m (gtY l (i+1))=true:=by simpa using hs
  have hg:rgoB (gtY l i) (gtY l (i+1))=true:=by simpa using hg
  refine ⟨by omega,by omega,Nat.zero_add _,Nat.zero_add _,Nat.zero_add _,?_⟩;rw[decide_eq_false (show ¬ k≠1 by omega),bc_f];exact (nxG hs hg).only ⟨rfl,rfl,rfl,rfl,rfl,trivial⟩ ⟨rfl,rfl,rfl,trivial⟩
theorem rndD (i:Nat) (xs:List OpT) (k a c b:Int) (d:List Int) (hi:i+1<l.length) (hx:xs.length<=i) (hg:rgoB (gtY l i) (gtY l (i+1))=false) (bad:sOK m (gtY l (i+1))=false->badQ Q)
  (nx1:sOK m (gtY l (i+1))=true->rkd (gtY l (i+1))=1->GDo Q (Px.hd Tryz.f24 0) (sB m l (i+2) (xs++[(k,a,c,b,d)]) (rkd (gtY l (i+1))) (gtY l (i+1)).2.1 1 0))
  (nx2:sOK m (gtY l (i+1))=true->rkd (gtY l (i+1))≠1->GDo Q (Px.hd Tryz.f24 0) (sC m l (i+2) (xs++[(k,a,c,b,d)]) (rkd (gtY l (i+1))) (gtY l (i+1)).2.1 1 0 [(gtY l (i+1)).2.2])) :
  GDo Q (Px.hd Tryz.f24 0) (sD m l (i+1) xs k a c b d):=by
 refine qak cxO (q4l m l (i+1) xs.length xs k a c b d _ _) ?_;have e1:=wr1 i (by omega);have e2:=wr2 (i+1) (by omega);have e4:=wr1 (xs.length+1) (by omega);rw[decide_eq_true (show ((i+1:Nat):Int)<(l.length:Int) by omega),bc_t];refine ⟨by omega,by omega,⟨hm0,(show m<16777216 by omega)⟩,?_⟩;rw[decide_eq_false (show ¬ ((i+1:Nat):Int)=0 by omega)];simp only[e1,e2,e4,Int.toNat_natCast,bc_f,cond_false];refine qaf (λ hs=>bad (by simpa using hs) _) (λ hs=>⟨by omega,by omega,by omega,by omega,trivial,?_⟩);have hs:sOK m (gtY l (i+1))=true:=by simpa using hs
 rw[hg,Bool.not_false,bc_t];refine ⟨by omega,by omega,trivial,by omega,by omega,trivial,by omega,by decide,by omega,by omega,Nat.zero_add _,Nat.zero_add _,Nat.zero_add _,qaf (λ h=>?_) (λ h=>?_)⟩
 ·have h:=of_decide_eq_true h;exact ⟨Nat.zero_add _,by omega,by omega,Nat.le_refl 1,(show 1<2 ^ 30 by decide),by decide,Nat.zero_add _,(nx2 hs h).only ⟨rfl,rfl,rfl,rfl,rfl,trivial⟩ ⟨rfl,by rw[List.length_append];rfl,by simp only[bO,List.length_append];rfl,rfl,trivial⟩⟩
 ·have h:rkd (gtY l (i+1))=1:=by have:=of_decide_eq_false h;omega
  exact (nx1 hs h).only ⟨rfl,rfl,rfl,rfl,rfl,trivial⟩ ⟨rfl,by rw[List.length_append];rfl,by simp only[bO,List.length_append];rfl,trivial⟩
theorem rndC (i:Nat) (xs:List OpT) (k a c b:Int) (d:List Int) (hi:i+1<l.length) (hk:k≠1) (hc:1<=c/\c<=i+1) (hx:xs.length<=i) (hd:d.length<=i+1) (hg:rgoB (gtY l i) (gtY l (i+1))=true) (bad:sOK m (gtY l (i+1))=false->badQ Q)
  (nxG:sOK m (gtY l (i+1))=true->GDo Q (Px.hd Tryz.f24 0) (sC m l (i+2) xs k a (c+1) b (d++[(gtY l (i+1)).2.2]))):GDo Q (Px.hd Tryz.f24 0) (sC m l (i+1) xs k a c b d):=by
 refine qak cxO (q4m m l (i+1) xs.length xs k a c b d _ _) ?_;have e1:=wr1 i (by omega);have e2:=wr2 (i+1) (by omega);have e3:=wr1 xs.length (by omega);have e5:IntKind.i64.wrap (c+1)=c+1:=IntWalk.i64_in _ (by omega);rw[decide_eq_true (show ((i+1:Nat):Int)<(l.length:Int) by omega),bc_t];refine ⟨by omega,by omega,⟨hm0,(show m<16777216 by omega)⟩,?_⟩;rw[decide_eq_false (show ¬ ((i+1:Nat):Int)=0 by omega)];simp only[e1,e2,e3,e5,Int.toNat_natCast,bc_f,cond_false];refine qaf (λ hs=>bad (by simpa using hs) _) (λ hs=>⟨by omega,by omega,by omega,by omega,trivial,?_⟩);have hs:sOK m (gtY l (i+1))=true:=by simpa using hs
 rw[hg,Bool.not_true,bc_f];refine ⟨by omega,by omega,Nat.zero_add _,Nat.zero_add _,Nat.zero_add _,?_⟩;rw[decide_eq_true hk,bc_t];refine ⟨Nat.zero_add _,by omega,by omega,Nat.le_refl 1,trivial,trivial,?_,by decide,Nat.zero_add _,(nxG hs).only ⟨rfl,rfl,rfl,rfl,rfl,trivial⟩ ⟨rfl,rfl,by simp only[bO,List.length_append];rfl,rfl,trivial⟩⟩
 show d.length+1<2 ^ 30
 omega
end
section
variable (m:Int) (l:List SyT) (hm0:0<=m) (hm1:m<=65536) (hn:l.length<=65536)
theorem okM (hm0:0<=m) (hm1:m<=65536):szB m=true:=by simp[szB];omega
theorem qrx {i:Nat} (hi:i<l.length) (h:sOK m (gtY l i)=false):ofRV l m=((false,0,0,[]),60):=by
 refine if_neg λ q=>?_
 have:=List.all_eq_true.1 q.2.2 (gtY l i) (by rw[qay hi];exact List.getElem_mem hi);rw[h] at this;cases this
include hm0 hm1 hn
theorem qp6 (h:∀ j,j<l.length->sOK m (gtY l j)=true):ofRV l m=(if 4096<(ofO l).length then ((false,0,0,[]),2) else ((false,m,(l.length:Int),ofO l),0):PaT × Int):=by
 refine if_pos ⟨okM m hm0 hm1,by simp[szB];omega,?_⟩;rw[List.all_eq_true];intro x hx;obtain ⟨j,hj,rfl⟩:=List.getElem_of_mem hx;rw[<- qay hj];exact h j hj
theorem rndE (hok:∀ j,j<l.length->sOK m (gtY l j)=true):GDo (QPe (ofRV l m)) (Px.hd Tryz.f24 0) (sE m l l.length (.sl opS (ofO l)) []):=by
 rw[qp6 m l hm0 hm1 hn hok];refine qak cxO (q4k m l (ofO l) l.length _ _) ?_;rw[decide_eq_false (show ¬ (l.length:Int)<(l.length:Int) by omega),bc_f];refine qaf (λ h=>?_) (λ h=>?_)
 ·have h:=of_decide_eq_true h;rw[if_pos (by omega)];exact qcy 2
 ·have h:=of_decide_eq_false h;rw[if_neg (by omega)];exact ⟨_,_,rfl,⟨_,rfl,_,_,rfl,rfl,_,_,rfl,rfl,_,_,rfl,rfl,_,_,rfl,.inl rfl,rfl⟩,_,_,rfl,rfl,rfl⟩
theorem shutD (i:Nat) (xs:List OpT) (k a c b:Int) (d:List Int) {Q:List SV->List (Nat × LB)->Prop} {it:List Item} (h:GDo Q it (sE m l i (.sl opS (xs++[(k,a,c,b,d)])) [])):GDo Q it (sD m l i xs k a c b d):=by
 have _:=And.intro hm0 (And.intro hm1 hn);refine Good.shut (i:=65) (e:=opS) (y:=(k,a,c,b,d)) rfl rfl (by decide) λ et'=>?_
 refine Good.frz (i:=65) (e:=opS) (et:=et') (xs:=xs++[(k,a,c,b,d)]) rfl (λ c hc=>?_) ?_
 ·have hc:c∈[0+(xs.length+1)<=(xs++[(k,a,_,b,d)]).length]:=hc;rw[List.mem_singleton] at hc;subst hc;rw[List.length_append,List.length_singleton];omega
 ·have e:winL opS 0 (xs.length+1) (xs++[(k,a,c,b,d)])=xs++[(k,a,c,b,d)]:=by
   have:=winA (e:=opS) (xs++[(k,a,c,b,d)]);rwa[List.length_append,List.length_singleton] at this
  refine Good.only (S':=sE m l i (.sl opS (winL opS 0 (xs.length+1) (xs++[(k,a,c,b,d)]))) []) ?_ ⟨rfl,rfl,rfl,rfl,rfl,trivial⟩ ⟨rfl,rfl,trivial⟩;rw[e];exact h
theorem shutB (i:Nat) (xs:List OpT) (k a c b:Int) {Q:List SV->List (Nat × LB)->Prop} {it:List Item} (h:GDo Q it (sE m l i (.sl opS (xs++[(k,a,c,b,[])])) [])):GDo Q it (sB m l i xs k a c b):=by
 have _:=And.intro hm0 (And.intro hm1 hn);refine Good.shut (i:=65) (e:=opS) (y:=(k,a,c,b,[])) rfl rfl (by decide) λ et'=>?_
 refine Good.frz (i:=65) (e:=opS) (et:=et') (xs:=xs++[(k,a,c,b,[])]) rfl (λ c hc=>?_) ?_
 ·have hc:c∈[0+(xs.length+1)<=(xs++[(k,a,_,b,[])]).length]:=hc;rw[List.mem_singleton] at hc;subst hc;rw[List.length_append,List.length_singleton];omega
 ·have e:winL opS 0 (xs.length+1) (xs++[(k,a,c,b,[])])=xs++[(k,a,c,b,[])]:=by
   have:=winA (e:=opS) (xs++[(k,a,c,b,[])]);rwa[List.length_append,List.length_singleton] at this
  refine Good.only (S':=sE m l i (.sl opS (winL opS 0 (xs.length+1) (xs++[(k,a,c,b,[])]))) []) ?_ ⟨rfl,rfl,rfl,rfl,rfl,trivial⟩ ⟨rfl,rfl,trivial⟩;rw[e];exact h
theorem qry:∀ (n i:Nat),l.length-(i+1)=n->i+1<=l.length->(∀ j,j<i+1->sOK m (gtY l j)=true)->∀ xs k a c b d,ofR l i=(xs,(k,a,c,b,d)) ->
  (k=1->GDo (QPe (ofRV l m)) (Px.hd Tryz.f24 0) (sB m l (i+1) xs k a c b))/\(k≠1->GDo (QPe (ofRV l m)) (Px.hd Tryz.f24 0) (sC m l (i+1) xs k a c b d)):=by
 intro n
 induction n with
 | zero=>
  intro i hk hi hok xs k a c b d he;have hil:i+1=l.length:=by omega
  have hO:ofO l=xs++[(k,a,c,b,d)]:=by unfold ofO;rw[<- hil];simp only;rw[he]
  have hE:=rndE m l hm0 hm1 hn (λ j hj=>hok j (by omega));rw[hO,<- hil] at hE;obtain ⟨_,_,_,_,h6⟩:=qnf l i;rw[he] at h6;refine ⟨λ hk1=>shutB m l hm0 hm1 hn _ xs k a c b ?_,λ _=>sC_D m l (shutD m l hm0 hm1 hn _ xs k a c b d hE)⟩;have hd:d=[]:=h6 hk1;rw[hd] at hE;exact hE
 | succ n ih=>
  intro i hk hi hok xs k a c b d he;obtain ⟨h1,h2,h4,h5,h6⟩:=qnf l i;rw[he] at h1 h2 h4 h5 h6;have h1:k=rkd (gtY l i):=h1;have h2:1<=c/\c<=i+1:=h2;have h4:xs.length<=i:=h4;have h5:d.length<=i+1:=h5;have h6:k=1->d=[]:=h6;have hi2:i+1<l.length:=by omega
  have hS:ofR l (i+1)=stpR (xs,(k,a,c,b,d)) (gtY l i) (gtY l (i+1)):=by rw[<- he];rfl
  have bad:sOK m (gtY l (i+1))=false->badQ (QPe (ofRV l m)):=λ h blk=>by
   rw[qrx m l hi2 h];exact qcy 60
  have nx:sOK m (gtY l (i+1))=true->∀ xs k a c b d,ofR l (i+1)=(xs,(k,a,c,b,d))->(k=1->GDo (QPe (ofRV l m)) (Px.hd Tryz.f24 0) (sB m l (i+2) xs k a c b))/\(k≠1->GDo (QPe (ofRV l m)) (Px.hd Tryz.f24 0) (sC m l (i+2) xs k a c b d)):=λ hs=>
   ih (i+1) (by omega) (by omega) λ j hj=>by
    rcases Nat.lt_or_ge j (i+1) with h | h
    ·exact hok j h
    ·rw[show j=i+1 by omega];exact hs
  have hN:rgoB (gtY l i) (gtY l (i+1))=false->ofR l (i+1)=(xs++[(k,a,c,b,d)],newO (gtY l (i+1))):=λ hg=>by rw[hS];unfold stpR;rw[hg]
  have hG:rgoB (gtY l i) (gtY l (i+1))=true->ofR l (i+1)=(xs,(k,a,c+1,b,if k=1 then d else d++[(gtY l (i+1)).2.2])):=λ hg=>by rw[hS];unfold stpR;rw[hg];rfl
  have n1:sOK m (gtY l (i+1))=true->rgoB (gtY l i) (gtY l (i+1))=false->rkd (gtY l (i+1))=1->GDo (QPe (ofRV l m)) (Px.hd Tryz.f24 0) (sB m l (i+2) (xs++[(k,a,c,b,d)]) (rkd (gtY l (i+1))) (gtY l (i+1)).2.1 1 0):=λ hs hg h1=>(nx hs _ _ _ _ _ _ (hN hg)).1 h1
  have n2:sOK m (gtY l (i+1))=true->rgoB (gtY l i) (gtY l (i+1))=false->rkd (gtY l (i+1))≠1->GDo (QPe (ofRV l m)) (Px.hd Tryz.f24 0) (sC m l (i+2) (xs++[(k,a,c,b,d)]) (rkd (gtY l (i+1))) (gtY l (i+1)).2.1 1 0 [(gtY l (i+1)).2.2]):=λ hs hg h1=>by
   have:=(nx hs _ _ _ _ _ _ (hN hg)).2 h1;simp only[if_neg h1] at this;exact this
  constructor
  ·intro hk1;have hd:=h6 hk1;subst hd;refine rndB m l hm0 hm1 hn i xs k a c b hi2 hk1 h2 h4 bad (λ hs hg=>(nx hs _ _ _ _ _ _ (hG hg)).1 hk1) n1 n2
  ·intro hk1
   cases hg:rgoB (gtY l i) (gtY l (i+1)) with
   | false=>exact sC_D m l (rndD m l hm0 hm1 hn i xs k a c b d hi2 h4 hg bad (λ hs h=>n1 hs hg h) (λ hs h=>n2 hs hg h))
   | true=>
    refine rndC m l hm0 hm1 hn i xs k a c b d hi2 hk1 h2 h4 h5 hg bad λ hs=>?_
    have:=(nx hs _ _ _ _ _ _ (hG hg)).2 hk1;rw[if_neg hk1] at this;exact this
theorem qwo:GDo (QPe (ofRV l m)) (Px.hd Tryz.f24 0) (sE m l 0 .nils []):=by
 refine qak cxO (q4o m l 0 _ _) ?_;refine qaf (λ h=>?_) (λ h=>?_)
 ·have h:=of_decide_eq_true h;have h0:0<l.length:=by omega
  have e2:IntKind.i64.wrap (((0:Nat):Int)+1)=((0+1:Nat):Int):=by rw[IntWalk.i64_in _ (by omega)];omega
  have e4:IntKind.i64.wrap (((1:Nat):Int)-1)=(0:Nat):=by rw[IntWalk.i64_in _ (by omega)];omega
  refine ⟨by omega,by omega,⟨hm0,(show m<16777216 by omega)⟩,?_⟩;rw[decide_eq_true (show ((0:Nat):Int)=0 by omega),bc_t];simp only[e2,e4,Int.toNat_natCast];refine qaf (λ hs=>?_) (λ hs=>⟨trivial,by omega,by omega,trivial,by omega,by omega,by decide,by omega,by omega,trivial,trivial,trivial,qaf (λ h1=>?_) (λ h1=>?_)⟩)
  ·rw[qrx m l h0 (by simpa using hs)];exact qcy 60
  ·have h1:=of_decide_eq_true h1;have hs:sOK m (gtY l 0)=true:=by simpa using hs
   have nx:=(qry m l hm0 hm1 hn _ 0 rfl (by omega) (λ j hj=>by rw[show j=0 by omega];exact hs) _ _ _ _ _ _ rfl).2 h1;simp only[if_neg h1] at nx;exact ⟨trivial,by omega,by omega,Nat.le_refl 1,(show 1<2 ^ 30 by decide),by decide,trivial,nx.only ⟨rfl,rfl,rfl,rfl,rfl,trivial⟩ ⟨rfl,rfl,rfl,rfl,trivial⟩⟩
  ·have h1:rkd (gtY l 0)=1:=by have:=of_decide_eq_false h1;omega
   have hs:sOK m (gtY l 0)=true:=by simpa using hs
   have nx:=(qry m l hm0 hm1 hn _ 0 rfl (by omega) (λ j hj=>by rw[show j=0 by omega];exact hs) _ _ _ _ _ _ rfl).1 h1;exact nx.only ⟨rfl,rfl,rfl,rfl,rfl,trivial⟩ ⟨rfl,rfl,rfl,trivial⟩
 ·have h:=of_decide_eq_false h;have h0:l.length=0:=by omega
  rw[qp6 m l hm0 hm1 hn λ j hj=>by omega];have hO:ofO l=[]:=by unfold ofO;rw[h0]
  rw[hO,if_neg (by simp)];exact ⟨_,_,rfl,⟨_,rfl,_,_,rfl,rfl,_,_,rfl,rfl,_,_,rfl,rfl,_,_,rfl,.inr ⟨rfl,rfl⟩,rfl⟩,_,_,rfl,rfl,rfl⟩
end
def q29 (l:List SyT):Prop:=l.length<1099511627776
def ctOf6:Ctr:=⟨[.sl syS,iI],λ x=>q29 x.1,λ x=>[paV (ofRV x.1 x.2.1).1,.i (ofRV x.1 x.2.1).2],λ _=>[]⟩
theorem q0c:Held Tryz.prog G0 24 ctOf6:=by
 refine Held.of cxO (fn:=Tryz.f24) rfl rfl ⟨by decide,by decide⟩ ?_;rintro ⟨l,m,⟨⟩⟩ hp;replace hp:q29 l:=hp;have go:GDo (QPe (ofRV l m)) [.code (qad Tryz.f24)] (entry [.sl syS,iI] (l,m,())):=by
  refine qak cxO (q8p m l _ _) ⟨trivial,?_⟩;have bad:¬ (szB m=true/\szB l.length=true/\l.all (sOK m)=true)->ofRV l m=((false,0,0,[]),60):=λ q=>if_neg q
  refine qaf (λ h=>⟨rfl,?_⟩) (λ h=>qaf (λ h2=>?_) (λ h2=>?_))
  ·have h:(!szB m)=true:=h;rw[bad λ q=>by rw[q.1] at h;cases h];exact qcy 60
  ·have h2:decide ((65536:Int)<l.length)=true:=h2;have h2:=of_decide_eq_true h2;rw[bad λ q=>by have:=q.2.1;simp[szB] at this;omega];exact qcy 60
  ·have h:(!szB m)=false:=h;have h2:decide ((65536:Int)<l.length)=false:=h2;have h2:=of_decide_eq_false h2;have h3:szB m=true:=by simpa using h
   simp only[szB,Bool.and_eq_true,decide_eq_true_eq] at h3;exact (qwo m l h3.1 h3.2 (by omega)).only ⟨rfl,rfl,rfl,rfl,rfl,trivial⟩ ⟨rfl,rfl,trivial⟩
 exact go.post λ rs blk h=>QC.mt h rfl
def opK (k:Int) (l:List SyT):OpT:=(k,if k=1\/k=2 then (gtY l 0).2.1 else 0,(l.length:Int),if k=3 then (gtY l 0).2.2 else 0,if k=2\/k=4 then l.map λ s=>s.2.2 else [])
set_option maxRecDepth 100000
section
variable (a b:Int) (l:List SyT) (hl:l.length<16777216)
include hl
end
def preLi (l:List SyT):Prop:=l.length<=65536/\∃ m:Int,m<16777216/\∀ s∈l,sOK m s=true
section
variable (l:List SyT) (hp:preLi l)
include hp
end
theorem q7i {x:OpT} {m:Int} (h:isRB x m=true) (h0:0<=m) (hm:m<16777216) {k:Nat} (hk:(k:Int)<x.2.2.1):sOK m (elO x.1.toNat x k)=true:=by
 have pp:=qxc h ⟨h0,hm⟩;rcases (qfh h).1 with e | e | e | e
 ·rw[e];have pp:=pp (.inl e)
  show sOK m (true,IntKind.i64.wrap (x.2.1+(k:Int)),0)=true
  rw[IntWalk.i64_in _ (by omega)];simp[sOK];omega
 ·rw[e];have pp:=pp (.inr e)
  show sOK m (true,IntKind.i64.wrap (x.2.1+(k:Int)),gtB x.2.2.2.2 k)=true
  rw[IntWalk.i64_in _ (by omega)];simp[sOK];omega
 ·rw[e];rfl
 ·rw[e];rfl
theorem q5c {m:Int} (h0:0<=m) (hm:m<16777216) {l:List OpT} (hr:∀ x∈l,isRB x m=true):∀ s∈symF l,sOK m s=true:=λ s hs=>by
 obtain ⟨x,hx,k,hk,e⟩:=qu9 hr s hs;rw[e];exact q7i (hr x hx) h0 hm hk
theorem q7t {p:PaT} (h:(chkV p).2=0):0<=p.2.1/\p.2.1<=65536:=by
 unfold chkV at h;split at h
 next q=>exact q2x q.1
 ·cases h
theorem q5d {p:PaT} (h:(symV p).2=0):(chkV p).2=0/\(symV p).1=symF p.2.2.2:=by
 unfold symV at h |-;split at h
 next q=>rw[if_pos q];exact ⟨q,rfl⟩
 next q=>exact absurd h q
theorem ql3 {p:PaT} (h:(symV p).2=0):(∀ s∈(symV p).1,sOK p.2.1 s=true)/\(0<=p.2.1/\p.2.1<=65536)/\((symV p).1.length:Int)=p.2.2.1:=by
 obtain ⟨h1,h2⟩:=q5d h;obtain ⟨hr,hs,ho,hl⟩:=qim h1;have hi:=q7t h1;rw[h2];exact ⟨q5c hi.1 (by omega) hr,hi,by rw[qec hr,hs]⟩
theorem qzd {p:PaT} (h:(chkV p).2=0):symV p=(symF p.2.2.2,0):=by unfold symV;rw[if_pos h]
abbrev nfP (li:Bool) (m:Int) (s:List SyT):PaT:=(li,m,(s.length:Int),chL s)
theorem nf_ok {s:List SyT} {m:Int} (li:Bool) (hr:∀ x∈s,sOK m x=true) (h0:0<=m) (h1:m<=65536) (hl:s.length<=4096):(chkV (nfP li m s)).2=0/\symF (chL s)=s/\symV (nfP li m s)=(s,0):=by
 obtain ⟨q1,q2,q3,q4,q5,q6⟩:=qwb hr h0 h1 hl;have q6:(chkV (nfP li m s)).2=0:=q6;refine ⟨q6,q2,?_⟩;unfold symV;rw[if_pos q6];exact Prod.ext q2 rfl
theorem fo_nf {p:PaT} (h:(chkV p).2=0) (hs:p.2.2.1<=4096):foV p=(nfP p.1 p.2.1 (symF p.2.2.2),0):=by
 obtain ⟨h1,h2,h3⟩:=ql3 (p:=p) (by rw[qzd h]);rw[qzd h] at h1 h3;have h1:∀ s∈symF p.2.2.2,sOK p.2.1 s=true:=h1;have h3:((symF p.2.2.2).length:Int)=p.2.2.1:=h3;obtain ⟨q1,_⟩:=qwb h1 h2.1 h2.2 (by omega);unfold foV;rw[qzd h];simp only[q1];rfl
theorem qef (s:SyT):kOK (rkd s)/\rkd s≠3/\canB (rkd s) s=true:=by
 unfold rkd;cases h:s.1 with
 | false=>
  show kOK 4/\(4:Int)≠3/\canB 4 s=true
  refine ⟨by unfold kOK;omega,by omega,?_⟩;simp[canB,h]
 | true=>
  by_cases hb:s.2.2≠0
  ·simp only[if_pos hb];refine ⟨by unfold kOK;omega,by omega,?_⟩;simp[canB,h]
  ·simp only[if_neg hb];refine ⟨by unfold kOK;omega,by omega,?_⟩;have hb:s.2.2=0:=by omega
   simp[canB,h,hb]
theorem qwy (s:SyT):newO s=mdK (rkd s) [s]:=by
 obtain ⟨h1,h2,_⟩:=qef s;have e:gtY [s] 0=s:=qox s [];unfold newO mdK;rw[e,if_neg h2];refine Prod.ext rfl (Prod.ext rfl (Prod.ext rfl (Prod.ext rfl ?_)))
 show (if rkd s=1 then [] else [s.2.2])=if rkd s=2\/rkd s=4 then [s.2.2] else []
 by_cases h:rkd s=1
 ·rw[if_pos h,if_neg (by omega)]
 ·rw[if_neg h,if_pos (by unfold kOK at h1;omega)]
theorem qjv {a b:List SyT} {j:Nat} (h:j<a.length):gtY (a++b) j=gtY a j:=by
 rw[qay (by rw[List.length_append];omega),qay h,List.getElem_append_left h]
theorem qsa (a:List SyT) (s:SyT):gtY (a++[s]) a.length=s:=by
 rw[qay (by rw[List.length_append];simp)];simp
structure InvO (m:Int) (l:List SyT) (i:Nat) (r:List OpT × OpT) (seg:List SyT):Prop where
 len:1<=seg.length
 md:r.2=mdK (rkd (gtY l i)) seg
 is:isK (rkd (gtY l i)) seg seg.length
 tk:symF r.1++seg=l.take (i+1)
 rt:∀ x∈r.1,isRB x m=true
 last:gtY seg (seg.length-1)=gtY l i
theorem qxj (s:SyT):isK (rkd s) [s] 1:=λ j hj=>by
 have hj:j=0:=by omega
 subst hj;rw[qox];exact ⟨(qef s).2.2,λ _=>by simp,λ _=>rfl⟩
theorem qpq {l:List SyT} {i:Nat} (h:i<l.length):l.take (i+1)=l.take i++[gtY l i]:=by
 rw[List.take_add_one,List.getElem?_eq_getElem h,<- qay h];rfl
theorem qq8 (x:OpT):symF [x]=qaz x.1.toNat x:=by simp[symF]
theorem qwm {m:Int} {l:List SyT} (hr:∀ s∈l,sOK m s=true) (h1:m<=65536) (hl:l.length<=65536):∀ i,i<l.length->∃ seg,InvO m l i (ofR l i) seg
 | 0,h=>by
  refine ⟨[gtY l 0],Nat.le_refl _,qwy _,qxj _,?_,λ x hx=>?_,qox _ _⟩
  ·rw[qpq h];rfl
  ·have hx:x∈[]:=hx;cases hx
 | i+1,h=>by
  obtain ⟨seg,a1,a2,a3,a4,a5,a6⟩:=qwm hr h1 hl i (by omega);have hs:=hr _ (show gtY l (i+1)∈l by rw[qay h];exact List.getElem_mem h);have hp:=hr _ (show gtY l i∈l by rw[qay (show i<l.length by omega)];exact List.getElem_mem _);have hmem:∀ s∈seg,s∈l:=λ s hs=>List.mem_of_mem_take (i:=i+1) (by rw[<- a4];exact List.mem_append_right _ hs)
  have hsl:seg.length<=65536:=by
   have:=congrArg List.length a4;rw[List.length_append,List.length_take] at this;omega
  obtain ⟨c1,c2,c3⟩:=qef (gtY l (i+1))
  show ∃ seg',InvO m l (i+1) (stpR (ofR l i) (gtY l i) (gtY l (i+1))) seg'
  cases hg:rgoB (gtY l i) (gtY l (i+1)) with
  | false=>
   refine ⟨[gtY l (i+1)],Nat.le_refl _,?_,qxj _,?_,?_,qox _ _⟩
   ·unfold stpR;rw[hg];exact qwy _
   ·unfold stpR;rw[hg]
    show symF ((ofR l i).1++[(ofR l i).2])++[gtY l (i+1)]=_
    rw[qjk,qq8,a2,show (mdK (rkd (gtY l i)) seg).1.toNat=(rkd (gtY l i)).toNat from rfl,qqe (m:=m) (by omega) (qef _).1 (λ s hs=>hr s (hmem s hs)) a3,a4,<- qpq h]
   ·unfold stpR;rw[hg];intro x hx;have hx:x∈(ofR l i).1++[(ofR l i).2]:=hx;rcases List.mem_append.1 hx with hx | hx
    ·exact a5 x hx
    ·rw[List.mem_singleton] at hx;rw[hx,a2];exact qkx (m:=m) (by omega) (qef _).1 (λ s hs=>hr s (hmem s hs)) a3 a1 hsl
  | true=>
   have hg2:=hg;simp only[rgoB,Bool.and_eq_true,Bool.or_eq_true,Bool.not_eq_true',decide_eq_true_eq] at hg2;obtain ⟨g1,g2⟩:=hg2;refine ⟨seg++[gtY l (i+1)],by simp,?_,?_,?_,?_,?_⟩
   ·unfold stpR;rw[hg]
    show extO (ofR l i).2 (gtY l (i+1))=_
    rw[a2,<- g1];obtain ⟨b1,b2,_⟩:=qef (gtY l i);unfold extO mdK;rw[qjv (by omega),if_neg b2];refine Prod.ext rfl (Prod.ext rfl (Prod.ext ?_ (Prod.ext rfl ?_)))
    ·show (seg.length:Int)+1=((seg++[gtY l (i+1)]).length:Int)
     rw[List.length_append];simp
    ·show (if rkd (gtY l i)=1 then (if rkd (gtY l i)=2\/rkd (gtY l i)=4 then seg.map (λ s=>s.2.2) else []) else (if rkd (gtY l i)=2\/rkd (gtY l i)=4 then seg.map (λ s=>s.2.2) else [])++[(gtY l (i+1)).2.2])=if rkd (gtY l i)=2\/rkd (gtY l i)=4 then (seg++[gtY l (i+1)]).map (λ s=>s.2.2) else []
     by_cases h:rkd (gtY l i)=1
     ·rw[if_pos h,if_neg (by omega),if_neg (by omega)]
     ·rw[if_neg h,if_pos (by unfold kOK at b1;omega),if_pos (by unfold kOK at b1;omega),List.map_append];rfl
   ·rw[List.length_append,List.length_singleton];rw[<- g1];intro j hj;rcases Nat.lt_or_ge j seg.length with hj2 | hj2
    ·rw[qjv hj2,qjv (by omega)];exact a3 j hj2
    ·have hj3:j=seg.length:=by omega
     subst hj3;rw[qsa,qjv (by omega)];refine ⟨by rw[g1];exact c3,λ hk=>?_,λ hk=>absurd hk (qef _).2.1⟩;have hL:=(a3 (seg.length-1) (by omega)).2.1 hk;rw[a6] at hL;have hpo:(gtY l i).1=true:=by
      rcases hk with hk | hk <;> (unfold rkd at hk;cases hq:(gtY l i).1 with
       | true=>rfl
       | false=>rw[hq] at hk;simp at hk)
     rcases g2 with g2 | g2
     ·rw[hpo] at g2;cases g2
     ·have hb:=qpw hp hpo;rw[IntWalk.i64_in _ (by omega)] at g2;rw[g2,hL];omega
   ·unfold stpR;rw[hg]
    show symF (ofR l i).1++(seg++[gtY l (i+1)])=_
    rw[<- List.append_assoc,a4,<- qpq h]
   ·unfold stpR;rw[hg];exact a5
   ·rw[List.length_append,List.length_singleton,Nat.add_sub_cancel,qsa]
theorem q99 {m:Int} {l:List SyT} (hr:∀ s∈l,sOK m s=true) (h0:0<=m) (h1:m<=65536) (hl:l.length<=4096) :
  ofRV l m=(((false,m,(l.length:Int),ofO l):PaT),(0:Int))/\(chkV (false,m,(l.length:Int),ofO l)).2=0/\symF (ofO l)=l:=by
 have hO:symF (ofO l)=l/\(∀ x∈ofO l,isRB x m=true)/\(ofO l).length<=l.length:=by
  cases hn:l.length with
  | zero=>
   have:l=[]:=List.eq_nil_of_length_eq_zero hn;subst this;exact ⟨rfl,λ x hx=>by simp[ofO] at hx,by simp[ofO]⟩
  | succ n=>
   obtain ⟨seg,a1,a2,a3,a4,a5,a6⟩:=qwm hr h1 (by omega) n (by omega);have hmem:∀ s∈seg,s∈l:=λ s hs=>List.mem_of_mem_take (i:=n+1) (by rw[<- a4];exact List.mem_append_right _ hs)
   have hsl:seg.length<=65536:=by
    have:=congrArg List.length a4;rw[List.length_append,List.length_take] at this;omega
   have e:ofO l=(ofR l n).1++[(ofR l n).2]:=by unfold ofO;rw[hn]
   obtain ⟨_,_,b4,_,_⟩:=qnf l n;rw[e];refine ⟨?_,λ x hx=>?_,?_⟩
   ·rw[qjk,qq8,a2,show (mdK (rkd (gtY l n)) seg).1.toNat=(rkd (gtY l n)).toNat from rfl,qqe (m:=m) (by omega) (qef _).1 (λ s hs=>hr s (hmem s hs)) a3,a4,<- hn,List.take_length]
   ·rcases List.mem_append.1 hx with hx | hx
    ·exact a5 x hx
    ·rw[List.mem_singleton] at hx;rw[hx,a2];exact qkx (m:=m) (by omega) (qef _).1 (λ s hs=>hr s (hmem s hs)) a3 a1 hsl
   ·rw[List.length_append,List.length_singleton];omega
 obtain ⟨k1,k2,k3⟩:=hO;have hs:=qec k2;rw[k1] at hs;refine ⟨?_,?_,k1⟩
 ·rw[qp6 m l h0 h1 (by omega) λ j hj=>hr _ (by rw[qay hj];exact List.getElem_mem hj),if_neg (by omega)]
 ·have:=qx2 (li:=false) (o:=(l.length:Int)) h0 h1 (by omega) (by omega) k2 hs.symm;rw[this]
abbrev rgS:Sh:=.pair iI iI
abbrev gtR (l:List (Int × Int)) (i:Nat):Int × Int:=gt rgS l i
abbrev slY:Sh:=.sl syS
abbrev ySy:List Sh:=[iI,syS]
abbrev yBo:List Sh:=[iI,.bool]
abbrev fT:AK:=.fn 84 [] []
abbrev fC:AK:=.fn 134 [] [.ptr [.dat slY]]
abbrev fR:AK:=.fn 87 [] []
abbrev capT:List AK:=[.ptr [.dat slY],.ptr [fT]]
abbrev capC:List AK:=[.ptr [.dat slY],.ptr [fC]]
abbrev capR:List AK:=[.ptr [.dat (.sl .bool)],.ptr [fR]]
def tcB (i:Int) (s:SyT):Bool := !decide ((s.1,s.2.1,s.2.2)=(true,i,(0:Int)))
def ctTc:Ctr:=⟨[iI,syS],λ _=>True,λ x=>[.bool (tcB x.1 x.2.1)],λ _=>[]⟩
def clB (b:List SyT) (i:Int) (s:SyT):Bool:=tcB i s&&(tcB i (gtY b i.toNat) && !decide ((s.1,s.2.1,s.2.2)=((gtY b i.toNat).1,(gtY b i.toNat).2.1,(gtY b i.toNat).2.2)))
def q57 (b:List SyT) (i:Int):Prop:=0<=i/\i<b.length
def ctC1:CtrI:=⟨[.dat iI,.dat syS,.ptr [.dat slY]],λ x=>q57 x.2.2.1.1 x.1,λ x=>[.bool (clB x.2.2.1.1 x.1 x.2.1)],λ x=>bkKL 0 [.dat iI,.dat syS,.ptr [.dat slY]] x⟩
def CC1:CV:=[(134,.inr ctC1)]
def ctR1:Ctr:=⟨[iI,.bool],λ _=>True,λ x=>[.bool x.2.1],λ _=>[]⟩
set_option maxRecDepth 100000
theorem q8b (i:Int) (f:Bool) (a b:Int) (Q:QT) (R:RT):sA [] Tryz.f84 Q R [.code (qad Tryz.f84)] (entry [iI,syS] (i,(f,a,b),())) =
  (Q [.bool !decide ([Cl.cb f,Cl.ci i64 a,Cl.ci u8 b]=[Cl.cb true,Cl.ci i64 i,Cl.ci u8 (0:Int)])] [(3,.var [.bool f,.i a,.u b])]):=by kernel_rfl
theorem q8n (i:Int) (f:Bool) (Q:QT) (R:RT):sA [] Tryz.f87 Q R [.code (qad Tryz.f87)] (entry [iI,.bool] (i,f,())) =
  (Q [.bool f] []):=by kernel_rfl
theorem q76 (l:List SyT) (Q:QT) (R:RT):sA [] Tryz.f83 Q R [.code (qad Tryz.f83)] (qa7 [.dat slY,fT] (l,((),()),())) =
  (Q [.fn (132:Nat) [] [.ptr (2:Nat) 0,.ptr 3 0]] [(2,.var [.sl syS l]),(3,.var [.fn (84:Nat) [] []])]):=by kernel_rfl
theorem q78 (l b:List SyT) (Q:QT) (R:RT):sA [] Tryz.f83 Q R [.code (qad Tryz.f83)] (qa7 [.dat slY,fC] (l,((),((b,()),())),())) =
  (Q [.fn (132:Nat) [] [.ptr (2:Nat) 0,.ptr 3 0]] [(2,.var [.sl syS l]),(3,.var [.fn (134:Nat) [] [.ptr 1099511627776 0]]),(1099511627776,.var [.sl syS b])]):=by kernel_rfl
theorem q77 (l:List Bool) (Q:QT) (R:RT):sA [] Tryz.f89 Q R [.code (qad Tryz.f89)] (qa7 [.dat (.sl .bool),fR] (l,((),()),())) =
  (Q [.fn (133:Nat) [] [.ptr (2:Nat) 0,.ptr 3 0]] [(2,.var [.sl Sh.bool l]),(3,.var [.fn (87:Nat) [] []])]):=by kernel_rfl
theorem q9b (i:Int) (f:Bool) (a c:Int) (b:List SyT) (Q:QT) (R:RT):sA [(84,.inl ctTc)] Tryz.f134 Q R [.code (qad Tryz.f134)] (qa7 [.dat iI,.dat syS,.ptr [.dat slY]] (i,(f,a,c),(b,()),())) =
  (ctTc.pre (i,(f,a,c),())/\bc (tcB i (f,a,c)) ((0:Int)<=i/\i<(b.length:Int)/\ctTc.pre (i,(gtY b i.toNat),())/\bc (bif true then tcB i (gtY b i.toNat) else false) ((0:Int)<=i/\i<(b.length:Int)/\Q [.bool (bif true then !decide ([Cl.cb f,Cl.ci i64 a,Cl.ci u8 c]=[Cl.cb (gtY b i.toNat).1,Cl.ci i64 (gtY b i.toNat).2.1,Cl.ci u8 (gtY b i.toNat).2.2]) else false)] [(4,.var [.bool f,.i a,.u c]),(1099511627776,.var [.sl syS b])]) (false=false/\Q [.bool false] [(4,.var [.bool f,.i a,.u c]),(1099511627776,.var [.sl syS b])])) (false=false/\false=false/\Q [.bool false] [(4,.var [.bool f,.i a,.u c]),(1099511627776,.var [.sl syS b])])):=by kernel_rfl
theorem q8z (l:List SyT) (lp:Nat) (ys:List (DL ySy)) (Q:AExit->Nat × Bool->PS->Prop) (R:List Item->Nat × Bool->PS->Prop):syE tt G0 [(84,.inl ctTc)] Tryz.f132.ntmps ⟨lp,ySy,ys⟩ Q R .fn 1000 [.code (qad Tryz.f132)] (0,false) (qmg lp capT ((l,()),(((),()),()),())) =
  (R (hd Tryz.f132 0) ((0:Nat),false) { env:=[(0,.yl lp),(1,.ptr 1099511627776 0),(2,.ptr 1099511627777 0),(6,.sl syS l),(7,.i l.length),(8,.i 0)],blk:=[(1099511627776,.var [.sl syS l]),(1099511627777,.var [.fn (84:Nat) [] []])] }):=by kernel_rfl
theorem quu (l:List SyT) (i:Int) (j:Nat) (q:Bool) (lp:Nat) (ys:List (DL ySy)) (Q:AExit->Nat × Bool->PS->Prop) (R:List Item->Nat × Bool->PS->Prop):syE tt G0 [(84,.inl ctTc)] Tryz.f132.ntmps ⟨lp,ySy,ys⟩ Q (λ it g S=>R it g (qa5 [0,1,2,6,7,8] [BIG,BIG+1] S)) .fn 1000 (hd Tryz.f132 0) (j,q) (⟨[(0,.yl lp),(1,.ptr BIG 0),(2,.ptr (BIG+1) 0),(6,.sl syS l),(7,.i (l.length:Nat)),(8,.i i)],[(BIG,.var [.sl syS l]),(BIG+1,.var [.fn 84 [] []])]⟩) =
  (bc (decide (i<(l.length:Int))) ((0:Int)<=i/\i<(l.length:Int)/\ctTc.pre (i,(gtY l i.toNat),())/\bc (tcB i (gtY l i.toNat)) (lp=(Yp.mk lp ySy ys).l/\q=false/\(Yp.mk lp ySy ys).ys[j]?=some (i,(gtY l i.toNat),())/\∀ (r:Bool),bc (bif true then !r else false) (Q AExit.ret (j+1,!r) { env:=[(0,.yl lp),(1,.ptr 1099511627776 0),(2,.ptr 1099511627777 0),(4,.i i),(5,.ptr 5 0),(6,.sl syS l),(7,.i l.length),(8,.i i),(9,.bool (decide (i<(l.length:Int)))),(10,.i i),(11,.elv syS (gtY l i.toNat)),(12,.agg (yI (gtY l i.toNat))),(13,.fn (84:Nat) [] []),(14,.i i),(15,.agg (yI (gtY l i.toNat))),(16,.bool (tcB i (gtY l i.toNat))),(17,.bool true),(18,.yl lp),(19,.i i),(20,.agg (yI (gtY l i.toNat))),(21,.bool r),(22,.bool !r),(23,.bool (bif true then !r else false))],blk:=[(5,.var (yI (gtY l i.toNat))),(1099511627776,.var [.sl syS l]),(1099511627777,.var [.fn (84:Nat) [] []])] }) (R (hd Tryz.f132 0) (j+1,!r) { env:=[(0,.yl lp),(1,.ptr 1099511627776 0),(2,.ptr 1099511627777 0),(6,.sl syS l),(7,.i l.length),(8,.i (i64.wrap (i+1)))],blk:=[(1099511627776,.var [.sl syS l]),(1099511627777,.var [.fn (84:Nat) [] []])] })) (false=false/\R (hd Tryz.f132 0) (j,q) { env:=[(0,.yl lp),(1,.ptr 1099511627776 0),(2,.ptr 1099511627777 0),(6,.sl syS l),(7,.i l.length),(8,.i (i64.wrap (i+1)))],blk:=[(1099511627776,.var [.sl syS l]),(1099511627777,.var [.fn (84:Nat) [] []])] })) (Q AExit.normal (j,q) { env:=[(0,.yl lp),(1,.ptr 1099511627776 0),(2,.ptr 1099511627777 0),(6,.sl syS l),(7,.i l.length),(8,.i i),(9,.bool (decide (i<(l.length:Int))))],blk:=[(1099511627776,.var [.sl syS l]),(1099511627777,.var [.fn (84:Nat) [] []])] })):=by kernel_rfl
theorem q81 (l b:List SyT) (lp:Nat) (ys:List (DL ySy)) (Q:AExit->Nat × Bool->PS->Prop) (R:List Item->Nat × Bool->PS->Prop):syE tt G0 CC1 Tryz.f132.ntmps ⟨lp,ySy,ys⟩ Q R .fn 1000 [.code (qad Tryz.f132)] (0,false) (qmg lp capC ((l,()),(((),((b,()),())),()),())) =
  (R (hd Tryz.f132 0) ((0:Nat),false) { env:=[(0,.yl lp),(1,.ptr 1099511627776 0),(2,.ptr 1099511627777 0),(6,.sl syS l),(7,.i l.length),(8,.i 0)],blk:=[(1099511627776,.var [.sl syS l]),(1099511627777,.var [.fn (134:Nat) [] [.ptr 1099511627778 0]]),(1099511627778,.var [.sl syS b])] }):=by kernel_rfl
theorem quw (l b:List SyT) (i:Int) (j:Nat) (q:Bool) (lp:Nat) (ys:List (DL ySy)) (Q:AExit->Nat × Bool->PS->Prop) (R:List Item->Nat × Bool->PS->Prop):syE tt G0 CC1 Tryz.f132.ntmps ⟨lp,ySy,ys⟩ Q (λ it g S=>R it g (qa5 [0,1,2,6,7,8] [BIG,BIG+1,BIG+2] S)) .fn 1000 (hd Tryz.f132 0) (j,q) (⟨[(0,.yl lp),(1,.ptr BIG 0),(2,.ptr (BIG+1) 0),(6,.sl syS l),(7,.i (l.length:Nat)),(8,.i i)],[(BIG,.var [.sl syS l]),(BIG+1,.var [.fn 134 [] [.ptr (BIG+2) 0]]),(BIG+2,.var [.sl syS b])]⟩) =
  (bc (decide (i<(l.length:Int))) ((0:Int)<=i/\i<(l.length:Int)/\ctC1.pre (i,(gtY l i.toNat),(b,()),())/\bc (clB b i (gtY l i.toNat)) (lp=(Yp.mk lp ySy ys).l/\q=false/\(Yp.mk lp ySy ys).ys[j]?=some (i,(gtY l i.toNat),())/\∀ (r:Bool),bc (bif true then !r else false) (Q AExit.ret (j+1,!r) { env:=[(0,.yl lp),(1,.ptr 1099511627776 0),(2,.ptr 1099511627777 0),(4,.i i),(5,.ptr 5 0),(6,.sl syS l),(7,.i l.length),(8,.i i),(9,.bool (decide (i<(l.length:Int)))),(10,.i i),(11,.elv syS (gtY l i.toNat)),(12,.agg (yI (gtY l i.toNat))),(13,.fn (134:Nat) [] [.ptr 1099511627778 0]),(14,.i i),(15,.agg (yI (gtY l i.toNat))),(16,.bool (clB b i (gtY l i.toNat))),(17,.bool true),(18,.yl lp),(19,.i i),(20,.agg (yI (gtY l i.toNat))),(21,.bool r),(22,.bool !r),(23,.bool (bif true then !r else false))],blk:=[(5,.var (yI (gtY l i.toNat))),(1099511627776,.var [.sl syS l]),(1099511627777,.var [.fn (134:Nat) [] [.ptr 1099511627778 0]]),(1099511627778,.var [.sl syS b])] }) (R (hd Tryz.f132 0) (j+1,!r) { env:=[(0,.yl lp),(1,.ptr 1099511627776 0),(2,.ptr 1099511627777 0),(6,.sl syS l),(7,.i l.length),(8,.i (i64.wrap (i+1)))],blk:=[(1099511627776,.var [.sl syS l]),(1099511627777,.var [.fn (134:Nat) [] [.ptr 1099511627778 0]]),(1099511627778,.var [.sl syS b])] })) (false=false/\R (hd Tryz.f132 0) (j,q) { env:=[(0,.yl lp),(1,.ptr 1099511627776 0),(2,.ptr 1099511627777 0),(6,.sl syS l),(7,.i l.length),(8,.i (i64.wrap (i+1)))],blk:=[(1099511627776,.var [.sl syS l]),(1099511627777,.var [.fn (134:Nat) [] [.ptr 1099511627778 0]]),(1099511627778,.var [.sl syS b])] })) (Q AExit.normal (j,q) { env:=[(0,.yl lp),(1,.ptr 1099511627776 0),(2,.ptr 1099511627777 0),(6,.sl syS l),(7,.i l.length),(8,.i i),(9,.bool (decide (i<(l.length:Int))))],blk:=[(1099511627776,.var [.sl syS l]),(1099511627777,.var [.fn (134:Nat) [] [.ptr 1099511627778 0]]),(1099511627778,.var [.sl syS b])] })):=by kernel_rfl
theorem q80 (l:List Bool) (lp:Nat) (ys:List (DL yBo)) (Q:AExit->Nat × Bool->PS->Prop) (R:List Item->Nat × Bool->PS->Prop):syE tt G0 [(87,.inl ctR1)] Tryz.f133.ntmps ⟨lp,yBo,ys⟩ Q R .fn 1000 [.code (qad Tryz.f133)] (0,false) (qmg lp capR ((l,()),(((),()),()),())) =
  (R (hd Tryz.f133 0) ((0:Nat),false) { env:=[(0,.yl lp),(1,.ptr 1099511627776 0),(2,.ptr 1099511627777 0),(6,.sl Sh.bool l),(7,.i l.length),(8,.i 0)],blk:=[(1099511627776,.var [.sl Sh.bool l]),(1099511627777,.var [.fn (87:Nat) [] []])] }):=by kernel_rfl
theorem quv (l:List Bool) (i:Int) (j:Nat) (q:Bool) (lp:Nat) (ys:List (DL yBo)) (Q:AExit->Nat × Bool->PS->Prop) (R:List Item->Nat × Bool->PS->Prop):syE tt G0 [(87,.inl ctR1)] Tryz.f133.ntmps ⟨lp,yBo,ys⟩ Q (λ it g S=>R it g (qa5 [0,1,2,6,7,8] [BIG,BIG+1] S)) .fn 1000 (hd Tryz.f133 0) (j,q) (⟨[(0,.yl lp),(1,.ptr BIG 0),(2,.ptr (BIG+1) 0),(6,.sl .bool l),(7,.i (l.length:Nat)),(8,.i i)],[(BIG,.var [.sl .bool l]),(BIG+1,.var [.fn 87 [] []])]⟩) =
  (bc (decide (i<(l.length:Int))) ((0:Int)<=i/\i<(l.length:Int)/\ctR1.pre (i,gt Sh.bool l i.toNat,())/\bc (gt Sh.bool l i.toNat) (lp=(Yp.mk lp yBo ys).l/\q=false/\(Yp.mk lp yBo ys).ys[j]?=some (i,gt Sh.bool l i.toNat,())/\∀ (r:Bool),bc (bif true then !r else false) (Q AExit.ret (j+1,!r) { env:=[(0,.yl lp),(1,.ptr 1099511627776 0),(2,.ptr 1099511627777 0),(4,.i i),(5,.bool (gt Sh.bool l i.toNat)),(6,.sl Sh.bool l),(7,.i l.length),(8,.i i),(9,.bool (decide (i<(l.length:Int)))),(10,.i i),(11,.elv Sh.bool (gt Sh.bool l i.toNat)),(12,.bool (gt Sh.bool l i.toNat)),(13,.fn (87:Nat) [] []),(14,.i i),(15,.bool (gt Sh.bool l i.toNat)),(16,.bool (gt Sh.bool l i.toNat)),(17,.bool true),(18,.yl lp),(19,.i i),(20,.bool (gt Sh.bool l i.toNat)),(21,.bool r),(22,.bool !r),(23,.bool (bif true then !r else false))],blk:=[(1099511627776,.var [.sl Sh.bool l]),(1099511627777,.var [.fn (87:Nat) [] []])] }) (R (hd Tryz.f133 0) (j+1,!r) { env:=[(0,.yl lp),(1,.ptr 1099511627776 0),(2,.ptr 1099511627777 0),(6,.sl Sh.bool l),(7,.i l.length),(8,.i (i64.wrap (i+1)))],blk:=[(1099511627776,.var [.sl Sh.bool l]),(1099511627777,.var [.fn (87:Nat) [] []])] })) (false=false/\R (hd Tryz.f133 0) (j,q) { env:=[(0,.yl lp),(1,.ptr 1099511627776 0),(2,.ptr 1099511627777 0),(6,.sl Sh.bool l),(7,.i l.length),(8,.i (i64.wrap (i+1)))],blk:=[(1099511627776,.var [.sl Sh.bool l]),(1099511627777,.var [.fn (87:Nat) [] []])] })) (Q AExit.normal (j,q) { env:=[(0,.yl lp),(1,.ptr 1099511627776 0),(2,.ptr 1099511627777 0),(6,.sl Sh.bool l),(7,.i l.length),(8,.i i),(9,.bool (decide (i<(l.length:Int))))],blk:=[(1099511627776,.var [.sl Sh.bool l]),(1099511627777,.var [.fn (87:Nat) [] []])] })):=by kernel_rfl
abbrev GE (f:Nat) (fn:Func) (Y:Yp) (K:AExit->Nat × Bool->PS->Prop) (it:List Item) (g:Nat × Bool) (S:PS):Prop:=Px.GoodE Tryz.prog G0 f fn.ntmps .fn Y K it g S
theorem qpp:Held Tryz.prog G0 84 ctTc:=by
 refine Held.run cx0 (fn:=Tryz.f84) rfl rfl ⟨by decide,by decide⟩ λ ⟨i,⟨f,a,b⟩,_⟩ _=>(q8b i f a b _ _).mpr (QC.flat ?_ rfl rfl)
 show [SV.bool (tcB i (f,a,b))]=_
 have e:decide ([Cl.cb f,Cl.ci i64 a,Cl.ci u8 b]=[Cl.cb true,Cl.ci i64 i,Cl.ci u8 (0:Int)])=decide ((f,a,b)=(true,i,(0:Int))):=decide_eq_decide.2 (by simp);rw[e];rfl
theorem q53:Held Tryz.prog G0 87 ctR1:=Held.run cx0 (fn:=Tryz.f87) rfl rfl ⟨by decide,by decide⟩ λ ⟨i,f,_⟩ _=>(q8n i f _ _).mpr (QC.flat rfl rfl rfl)
theorem qx4 {i a c:Int} {f v:Bool} {b:List SyT} {w:LB} (h:clB b i (f,a,c)=v):QI ctC1 (i,(f,a,c),(b,()),()) [SV.bool v] [(4,w),(BIG,LB.var [SV.sl syS b])]:=by
 refine QI.self ?_ rfl rfl (λ p hp=>?_)
 ·show [SV.bool (clB b i (f,a,c))]=_;rw[h]
 ·have hp:p∈[(BIG,LB.var [SV.sl syS b])]:=hp;rw[List.mem_singleton] at hp;subst hp;rfl
theorem q7y:HeldI Tryz.prog G0 134 ctC1:=by
 refine HeldI.run (cx0.k qpp (fn:=Tryz.f84)) (fn:=Tryz.f134) rfl rfl ⟨by decide,by decide⟩ λ ⟨i,⟨f,a,c⟩,⟨b,⟨⟩⟩,⟨⟩⟩ hp=>(q9b i f a c b _ _).mpr ⟨trivial,?_⟩
 have hp:q57 b i:=hp;obtain ⟨h0,h1⟩:=hp;have e:∀ s:SyT,decide ([Cl.cb f,Cl.ci i64 a,Cl.ci u8 c]=[Cl.cb s.1,Cl.ci i64 s.2.1,Cl.ci u8 s.2.2])=decide ((f,a,c)=(s.1,s.2.1,s.2.2)):=λ s=>decide_eq_decide.2 (by simp)
 refine qaf (λ k1=>⟨h0,h1,trivial,qaf (λ k2=>⟨h0,h1,?_⟩) (λ k2=>⟨rfl,?_⟩)⟩) (λ k1=>⟨rfl,rfl,?_⟩)
 ·have k2:tcB i (gtY b i.toNat)=true:=k2;have v:clB b i (f,a,c) = !decide ((f,a,c)=((gtY b i.toNat).1,(gtY b i.toNat).2.1,(gtY b i.toNat).2.2)):=by unfold clB;rw[k1,k2];rfl
  rw[e];exact qx4 v
 ·have k2:tcB i (gtY b i.toNat)=false:=k2;exact qx4 (by unfold clB;rw[k1,k2];simp)
 ·exact qx4 (by unfold clB;rw[k1];simp)
theorem cC1:CxOK Tryz.prog tt G0 CC1:=cx0.consI q7y (fn:=Tryz.f134) rfl rfl rfl
def whF {α:Type} (p:Int->α->Bool):Nat->List α->List (Int × α)
 | _,[]=>[]
 | i,s::r=>match p i s with
  | true=>((i:Int),s)::whF p (i+1) r
  | false=>whF p (i+1) r
abbrev yS (x:Int × SyT):DL ySy:=(x.1,x.2,())
abbrev yB (x:Int × Bool):DL yBo:=(x.1,x.2,())
theorem qa4 {α:Type} {l:List α} {i:Nat} (h:i<l.length):l.drop i=l[i]::l.drop (i+1):=List.drop_eq_getElem_cons h
theorem q7c {l:List Bool} {i:Nat} (h:i<l.length):gt Sh.bool l i=l[i]:=gtE (e:=.bool) h
def preT (x:DI capT):Prop:=x.1.1.length<1000000
def preC (x:DI capC):Prop:=x.1.1.length<1000000/\x.1.1.length<=x.2.1.1.2.1.1.length
def preR (x:DI capR):Prop:=x.1.1.length<1000000
theorem cT1:CxOK Tryz.prog tt G0 [(84,.inl ctTc)]:=cx0.k qpp (fn:=Tryz.f84)
theorem cR1:CxOK Tryz.prog tt G0 [(87,.inl ctR1)]:=cx0.k q53 (fn:=Tryz.f87)
theorem q0x (l:List SyT) (hl:l.length<1000000) (lp:Nat) (ys:List (DL ySy)):∀ (k i j:Nat),l.length-i=k->i<=l.length->j<=ys.length->ys.drop j=(whF tcB i (l.drop i)).map yS ->
  GE 132 Tryz.f132 ⟨lp,ySy,ys⟩ (endY ys.length) (hd Tryz.f132 0) (j,false) ⟨[(0,.yl lp),(1,.ptr BIG 0),(2,.ptr (BIG+1) 0),(6,.sl syS l),(7,.i (l.length:Nat)),(8,.i (i:Nat))],[(BIG,.var [.sl syS l]),(BIG+1,.var [.fn 84 [] []])]⟩:=by
 intro k
 induction k with
 | zero=>
  intro i j hk hi hj hd;have hi:i=l.length:=by omega
  subst hi;refine qh6 cT1 (quu l (l.length:Nat) j false lp ys _ _) ?_;rw[decide_eq_false (by omega),bc_f];rw[List.drop_length] at hd;have:=congrArg List.length hd;simp only[List.length_drop,whF,List.map_nil,List.length_nil] at this;exact .inr (by omega)
 | succ k ih=>
  intro i j hk hi hj hd;have hil:i<l.length:=by omega
  refine qh6 cT1 (quu l (i:Nat) j false lp ys _ _) ?_;rw[decide_eq_true (show (i:Int)<(l.length:Int) by omega),bc_t];simp only[Int.toNat_natCast];rw[wr2 i (by omega)];rw[qa4 hil,whF,<- qay hil] at hd;refine ⟨by omega,by omega,trivial,qaf (λ h=>?_) (λ h=>⟨trivial,?_⟩)⟩
  ·have h:tcB i (gtY l i)=true:=h;rw[h] at hd;simp only[List.map_cons] at hd;have hil:j<ys.length:=by
    rcases Nat.lt_or_ge j ys.length with q | q
    ·exact q
    ·rw[List.drop_eq_nil_of_le q] at hd;cases hd
   have hget:ys[j]?=some ((i:Int),gtY l i,()):=by
    rw[qa4 hil] at hd;rw[List.getElem?_eq_getElem hil];exact congrArg some (List.cons.inj hd).1
   have hd2:=hd;rw[qa4 hil] at hd2;have hd2:=(List.cons.inj hd2).2;refine ⟨trivial,trivial,hget,λ r=>?_⟩
   cases r with
   | false=>exact qaf (λ _=>.inl rfl) (λ h=>by cases h)
   | true=>exact qaf (λ h=>by cases h) (λ _=>ih (i+1) (j+1) (by omega) (by omega) (by omega) hd2)
  ·have h:tcB i (gtY l i)=false:=h;rw[h] at hd;exact ih (i+1) j (by omega) (by omega) hj hd
def ctTY:CtrY:=⟨capT,λ x=>preT x,ySy,λ x=>(whF tcB 0 x.1.1).map yS⟩
theorem qjt:HeldY Tryz.prog G0 132 ctTY:=HeldY.of (fn:=Tryz.f132) rfl rfl rfl ⟨by decide,by decide⟩ λ ⟨⟨l,_⟩,_,_⟩ hp lp=>by
 have hp:l.length<1000000:=hp;exact qc7 cT1 (q8z l lp _ _ _) (q0x l hp lp _ _ 0 0 rfl (Nat.zero_le _) (Nat.zero_le _) rfl)
theorem q00 (l:List SyT) (b:List SyT) (hl:l.length<1000000) (hb:l.length<=b.length) (lp:Nat) (ys:List (DL ySy)):∀ (k i j:Nat),l.length-i=k->i<=l.length->j<=ys.length->ys.drop j=(whF (clB b) i (l.drop i)).map yS ->
  GE 132 Tryz.f132 ⟨lp,ySy,ys⟩ (endY ys.length) (hd Tryz.f132 0) (j,false) ⟨[(0,.yl lp),(1,.ptr BIG 0),(2,.ptr (BIG+1) 0),(6,.sl syS l),(7,.i (l.length:Nat)),(8,.i (i:Nat))],[(BIG,.var [.sl syS l]),(BIG+1,.var [.fn 134 [] [.ptr (BIG+2) 0]]),(BIG+2,.var [.sl syS b])]⟩:=by
 intro k
 induction k with
 | zero=>
  intro i j hk hi hj hd;have hi:i=l.length:=by omega
  subst hi;refine qh6 cC1 (quw l b (l.length:Nat) j false lp ys _ _) ?_;rw[decide_eq_false (by omega),bc_f];rw[List.drop_length] at hd;have:=congrArg List.length hd;simp only[List.length_drop,whF,List.map_nil,List.length_nil] at this;exact .inr (by omega)
 | succ k ih=>
  intro i j hk hi hj hd;have hil:i<l.length:=by omega
  refine qh6 cC1 (quw l b (i:Nat) j false lp ys _ _) ?_;rw[decide_eq_true (show (i:Int)<(l.length:Int) by omega),bc_t];simp only[Int.toNat_natCast];rw[wr2 i (by omega)];rw[qa4 hil,whF,<- qay hil] at hd;refine ⟨by omega,by omega,(show q57 b (i:Nat) from ⟨by omega,by omega⟩),qaf (λ h=>?_) (λ h=>⟨trivial,?_⟩)⟩
  ·have h:clB b i (gtY l i)=true:=h;rw[h] at hd;simp only[List.map_cons] at hd;have hil:j<ys.length:=by
    rcases Nat.lt_or_ge j ys.length with q | q
    ·exact q
    ·rw[List.drop_eq_nil_of_le q] at hd;cases hd
   have hget:ys[j]?=some ((i:Int),gtY l i,()):=by
    rw[qa4 hil] at hd;rw[List.getElem?_eq_getElem hil];exact congrArg some (List.cons.inj hd).1
   have hd2:=hd;rw[qa4 hil] at hd2;have hd2:=(List.cons.inj hd2).2;refine ⟨trivial,trivial,hget,λ r=>?_⟩
   cases r with
   | false=>exact qaf (λ _=>.inl rfl) (λ h=>by cases h)
   | true=>exact qaf (λ h=>by cases h) (λ _=>ih (i+1) (j+1) (by omega) (by omega) (by omega) hd2)
  ·have h:clB b i (gtY l i)=false:=h;rw[h] at hd;exact ih (i+1) j (by omega) (by omega) hj hd
def ctCY:CtrY:=⟨capC,λ x=>preC x,ySy,λ x=>(whF (clB x.2.1.1.2.1.1) 0 x.1.1).map yS⟩
theorem q01:HeldY Tryz.prog G0 132 ctCY:=HeldY.of (fn:=Tryz.f132) rfl rfl rfl ⟨by decide,by decide⟩ λ ⟨⟨l,_⟩,⟨⟨_,⟨⟨b,_⟩,_⟩⟩,_⟩,_⟩ hp lp=>by
 have hp:l.length<1000000/\l.length<=b.length:=hp;exact qc7 cC1 (q81 l b lp _ _ _) (q00 l b hp.1 hp.2 lp _ _ 0 0 rfl (Nat.zero_le _) (Nat.zero_le _) rfl)
theorem q0y (l:List Bool) (hl:l.length<1000000) (lp:Nat) (ys:List (DL yBo)):∀ (k i j:Nat),l.length-i=k->i<=l.length->j<=ys.length->ys.drop j=(whF (λ _ x=>x) i (l.drop i)).map yB ->
  GE 133 Tryz.f133 ⟨lp,yBo,ys⟩ (endY ys.length) (hd Tryz.f133 0) (j,false) ⟨[(0,.yl lp),(1,.ptr BIG 0),(2,.ptr (BIG+1) 0),(6,.sl .bool l),(7,.i (l.length:Nat)),(8,.i (i:Nat))],[(BIG,.var [.sl .bool l]),(BIG+1,.var [.fn 87 [] []])]⟩:=by
 intro k
 induction k with
 | zero=>
  intro i j hk hi hj hd;have hi:i=l.length:=by omega
  subst hi;refine qh6 cR1 (quv l (l.length:Nat) j false lp ys _ _) ?_;rw[decide_eq_false (by omega),bc_f];rw[List.drop_length] at hd;have:=congrArg List.length hd;simp only[List.length_drop,whF,List.map_nil,List.length_nil] at this;exact .inr (by omega)
 | succ k ih=>
  intro i j hk hi hj hd;have hil:i<l.length:=by omega
  refine qh6 cR1 (quv l (i:Nat) j false lp ys _ _) ?_;rw[decide_eq_true (show (i:Int)<(l.length:Int) by omega),bc_t];simp only[Int.toNat_natCast];rw[wr2 i (by omega)];rw[qa4 hil,whF,<- q7c hil] at hd;refine ⟨by omega,by omega,trivial,qaf (λ h=>?_) (λ h=>⟨trivial,?_⟩)⟩
  ·have h:gt Sh.bool l i=true:=h;rw[h] at hd;simp only[List.map_cons] at hd;have hil:j<ys.length:=by
    rcases Nat.lt_or_ge j ys.length with q | q
    ·exact q
    ·rw[List.drop_eq_nil_of_le q] at hd;cases hd
   have hget:ys[j]?=some ((i:Int),true,()):=by
    rw[qa4 hil] at hd;rw[List.getElem?_eq_getElem hil];exact congrArg some (List.cons.inj hd).1
   have hd2:=hd;rw[qa4 hil] at hd2;have hd2:=(List.cons.inj hd2).2;refine ⟨trivial,trivial,(by rw[h];exact hget),λ r=>?_⟩
   cases r with
   | false=>exact qaf (λ _=>.inl rfl) (λ h=>by cases h)
   | true=>exact qaf (λ h=>by cases h) (λ _=>ih (i+1) (j+1) (by omega) (by omega) (by omega) hd2)
  ·have h:gt Sh.bool l i=false:=h;rw[h] at hd;exact ih (i+1) j (by omega) (by omega) hj hd
def ctRY:CtrY:=⟨capR,λ x=>preR x,yBo,λ x=>(whF (λ _ x=>x) 0 x.1.1).map yB⟩
theorem q0z:HeldY Tryz.prog G0 133 ctRY:=HeldY.of (fn:=Tryz.f133) rfl rfl rfl ⟨by decide,by decide⟩ λ ⟨⟨l,_⟩,_,_⟩ hp lp=>by
 have hp:l.length<1000000:=hp;exact qc7 cR1 (q80 l lp _ _ _) (q0y l hp lp _ _ 0 0 rfl (Nat.zero_le _) (Nat.zero_le _) rfl)
theorem qa8 {π:Nat->Option Nat}:MtL π [] []:=by simp only[MtL]
theorem qbb {π:Nat->Option Nat} {s t:SV} {l r:List SV} (h1:Mt π s t) (h2:MtL π l r):MtL π (s::l) (t::r):=by simp only[MtL];exact ⟨t,r,rfl,h1,h2⟩
theorem qko {π:Nat->Option Nat} {i j o:Nat} (h:π i=some j):Mt π (.ptr i o) (.ptr j o):=by simp only[Mt];exact ⟨j,rfl,h⟩
theorem qtp {π:Nat->Option Nat} {f:Nat} {a a' c c':List SV} (h1:MtL π a a') (h2:MtL π c c'):Mt π (.fn f a c) (.fn f a' c'):=by simp only[Mt];exact ⟨a',c',rfl,h1,h2⟩
def ctWhT:CtrI:=⟨[.dat slY,fT],λ _=>True,λ _=>[.fn 132 [] [.ptr 0 0,.ptr 1 0]],λ x=>[(0,.var [.sl syS x.1]),(1,.var [.fn 84 [] []])]⟩
def ctWhC:CtrI:=⟨[.dat slY,fC],λ _=>True,λ _=>[.fn 132 [] [.ptr 0 0,.ptr 1 0]],λ x=>[(0,.var [.sl syS x.1]),(1,.var [.fn 134 [] [.ptr BIG 0]]),(BIG,.var [.sl syS x.2.1.2.1.1])]⟩
def ctWhR:CtrI:=⟨[.dat (.sl .bool),fR],λ _=>True,λ _=>[.fn 133 [] [.ptr 0 0,.ptr 1 0]],λ x=>[(0,.var [.sl .bool x.1]),(1,.var [.fn 87 [] []])]⟩
abbrev KG:List AK:=[.ptr [.row 127 rgS]]
abbrev iT:AK:=.fn 132 [] capT
abbrev iC:AK:=.fn 132 [] capC
abbrev iR:AK:=.fn 133 [] capR
set_option maxRecDepth 100000
theorem q8j (l:List SyT) (Q:QT) (R:RT):sA [] Tryz.f82 Q R [.code (qad Tryz.f82)] (qa7 [iT] (((),(l,()),(((),()),()),()),())) =
  (R (hd Tryz.f82 0) { env:=[(0,.fn (132:Nat) [] [.ptr (1099511627776:Nat) 0,.ptr 1099511627777 0]),(2,.nils),(3,.ptr 3 0),(6,.fn (132:Nat) [] [.ptr (1099511627776:Nat) 0,.ptr 1099511627777 0])],blk:=[(3,.var [.nils]),(1099511627776,.var [.sl syS l]),(1099511627777,.var [.fn (84:Nat) [] []])] }):=by kernel_rfl
theorem q8l (l b:List SyT) (Q:QT) (R:RT):sA [] Tryz.f82 Q R [.code (qad Tryz.f82)] (qa7 [iC] (((),(l,()),(((),((b,()),())),()),()),())) =
  (R (hd Tryz.f82 0) { env:=[(0,.fn (132:Nat) [] [.ptr (1099511627776:Nat) 0,.ptr 1099511627777 0]),(2,.nils),(3,.ptr 3 0),(6,.fn (132:Nat) [] [.ptr (1099511627776:Nat) 0,.ptr 1099511627777 0])],blk:=[(3,.var [.nils]),(1099511627776,.var [.sl syS l]),(1099511627777,.var [.fn (134:Nat) [] [.ptr 1099511627778 0]]),(1099511627778,.var [.sl syS b])] }):=by kernel_rfl
theorem q8k (l:List Bool) (Q:QT) (R:RT):sA [] Tryz.f88 Q R [.code (qad Tryz.f88)] (qa7 [iR] (((),(l,()),(((),()),()),()),())) =
  (R (hd Tryz.f88 0) { env:=[(0,.fn (133:Nat) [] [.ptr (1099511627776:Nat) 0,.ptr 1099511627777 0]),(2,.nils),(3,.ptr 3 0),(6,.fn (133:Nat) [] [.ptr (1099511627776:Nat) 0,.ptr 1099511627777 0])],blk:=[(3,.var [.nils]),(1099511627776,.var [.sl Sh.bool l]),(1099511627777,.var [.fn (87:Nat) [] []])] }):=by kernel_rfl
theorem q4c (o:List (Int × Int)) (i:Int) (s:SyT) (j:Nat) (q:Bool) (Q:AExit->Nat × Bool->PS->Prop) (R:List Item->Nat × Bool->PS->Prop):syE tt G0 [] Tryz.f82.ntmps Y0 Q R .ready 1000 (rnd Tryz.f82 0) (j,q) (qdu [3] [7,8] KG ySy ((o,()),()) (i,s,())) =
  (bc (decide ((0:Int)<o.length)) ((0:Int)<=i64.wrap ((o.length:Int)-1)/\i64.wrap ((o.length:Int)-1)<(o.length:Int)/\0+(i64.wrap ((o.length:Int)-1)).toNat<o.length/\bc (decide ((gtR o (0+(i64.wrap ((o.length:Int)-1)).toNat)).2=i)) ((0:Int)<=i64.wrap ((o.length:Int)-1)/\i64.wrap ((o.length:Int)-1)<(o.length:Int)/\0+(i64.wrap ((o.length:Int)-1)).toNat<o.length/\(0:Int)<=i64.wrap ((o.length:Int)-1)/\i64.wrap ((o.length:Int)-1)<(o.length:Int)/\0+(i64.wrap ((o.length:Int)-1)).toNat<o.length/\Q AExit.normal (j,q) { env:=[(4,.i i),(5,.i o.length),(7,.i i),(8,.agg [.bool s.1,.i s.2.1,.u s.2.2]),(3,.ptr 1099511627776 0),(9,.win true rgS 1099511627777 0 o.length),(10,.i o.length),(11,.i o.length),(12,.bool (decide ((0:Int)<o.length))),(13,.bool true),(14,.win true rgS 1099511627777 0 o.length),(15,.i o.length),(16,.i (i64.wrap ((o.length:Int)-1))),(17,.elp rgS (1099511627777:Nat) (0+(i64.wrap ((o.length:Int)-1)).toNat) (0:Nat)),(18,.elp rgS (1099511627777:Nat) (0+(i64.wrap ((o.length:Int)-1)).toNat) (1:Nat)),(19,.i (gtR o (0+(i64.wrap ((o.length:Int)-1)).toNat)).2),(20,.i i),(21,.bool (decide ((gtR o (0+(i64.wrap ((o.length:Int)-1)).toNat)).2=i))),(22,.bool (decide ((gtR o (0+(i64.wrap ((o.length:Int)-1)).toNat)).2=i))),(23,.win true rgS 1099511627777 0 o.length),(24,.i o.length),(25,.i (i64.wrap ((o.length:Int)-1))),(26,.elp rgS (1099511627777:Nat) (0+(i64.wrap ((o.length:Int)-1)).toNat) (0:Nat)),(27,.elp rgS (1099511627777:Nat) (0+(i64.wrap ((o.length:Int)-1)).toNat) (1:Nat)),(28,.i (gtR o (0+(i64.wrap ((o.length:Int)-1)).toNat)).2),(29,.i (i64.wrap ((gtR o (0+(i64.wrap ((o.length:Int)-1)).toNat)).2+1))),(30,.elp rgS (1099511627777:Nat) (0+(i64.wrap ((o.length:Int)-1)).toNat) (0:Nat)),(31,.elp rgS (1099511627777:Nat) (0+(i64.wrap ((o.length:Int)-1)).toNat) (1:Nat))],blk:=[(1099511627776,.var [.win true rgS 1099511627777 0 o.length]),(1099511627777,.row 127 rgS (o.set (0+(i64.wrap ((o.length:Int)-1)).toNat) ((gtR o (0+(i64.wrap ((o.length:Int)-1)).toNat)).1,i64.wrap ((gtR o (0+(i64.wrap ((o.length:Int)-1)).toNat)).2+1))))] }) (0+1<=([(i,i64.wrap (i+1))]:List rgS.D).length/\o.length=o.length/\(0:Nat)=(0:Nat)/\o.length+(([(i,i64.wrap (i+1))]:List rgS.D)).length<2 ^ 30/\(16:Nat)<=2 ^ 10/\Q AExit.normal (j,q) { env:=[(4,.i i),(5,.i o.length),(7,.i i),(8,.agg [.bool s.1,.i s.2.1,.u s.2.2]),(3,.ptr 1099511627776 0),(9,.dead),(10,.i o.length),(11,.i o.length),(12,.bool (decide ((0:Int)<o.length))),(13,.bool true),(14,.dead),(15,.i o.length),(16,.i (i64.wrap ((o.length:Int)-1))),(17,.dead),(18,.dead),(19,.i (gtR o (0+(i64.wrap ((o.length:Int)-1)).toNat)).2),(20,.i i),(21,.bool (decide ((gtR o (0+(i64.wrap ((o.length:Int)-1)).toNat)).2=i))),(22,.bool (decide ((gtR o (0+(i64.wrap ((o.length:Int)-1)).toNat)).2=i))),(32,.dead),(33,.i i),(34,.i i),(35,.i (i64.wrap (i+1))),(36,.agg [.i i,.i (i64.wrap (i+1))]),(37,.win true rgS 37 0 (1:Nat)),(38,.win true rgS 38 0 (o.length+(([(i,i64.wrap (i+1))]:List rgS.D)).length))],blk:=[(37,.row 127 rgS ([(i,i64.wrap (i+1))]:List rgS.D)),(38,.row 127 rgS (o++([(i,i64.wrap (i+1))]:List rgS.D))),(1099511627776,.var [.win true rgS 38 0 (o.length+(([(i,i64.wrap (i+1))]:List rgS.D)).length)])] })) (false=false/\0+1<=([(i,i64.wrap (i+1))]:List rgS.D).length/\o.length=o.length/\(0:Nat)=(0:Nat)/\o.length+(([(i,i64.wrap (i+1))]:List rgS.D)).length<2 ^ 30/\(16:Nat)<=2 ^ 10/\Q AExit.normal (j,q) { env:=[(4,.i i),(5,.i o.length),(7,.i i),(8,.agg [.bool s.1,.i s.2.1,.u s.2.2]),(3,.ptr 1099511627776 0),(9,.dead),(10,.i o.length),(11,.i o.length),(12,.bool (decide ((0:Int)<o.length))),(13,.bool false),(14,SV.tup []),(15,SV.tup []),(16,SV.tup []),(17,SV.tup []),(18,SV.tup []),(19,SV.tup []),(20,SV.tup []),(21,SV.tup []),(22,.bool false),(32,.dead),(33,.i i),(34,.i i),(35,.i (i64.wrap (i+1))),(36,.agg [.i i,.i (i64.wrap (i+1))]),(37,.win true rgS 37 0 (1:Nat)),(38,.win true rgS 38 0 (o.length+(([(i,i64.wrap (i+1))]:List rgS.D)).length))],blk:=[(37,.row 127 rgS ([(i,i64.wrap (i+1))]:List rgS.D)),(38,.row 127 rgS (o++([(i,i64.wrap (i+1))]:List rgS.D))),(1099511627776,.var [.win true rgS 38 0 (o.length+(([(i,i64.wrap (i+1))]:List rgS.D)).length)])] })):=by kernel_rfl
theorem q4e (o:List (Int × Int)) (i:Int) (s:Bool) (j:Nat) (q:Bool) (Q:AExit->Nat × Bool->PS->Prop) (R:List Item->Nat × Bool->PS->Prop):syE tt G0 [] Tryz.f88.ntmps Y0 Q R .ready 1000 (rnd Tryz.f88 0) (j,q) (qdu [3] [7,8] KG yBo ((o,()),()) (i,s,())) =
  (bc (decide ((0:Int)<o.length)) ((0:Int)<=i64.wrap ((o.length:Int)-1)/\i64.wrap ((o.length:Int)-1)<(o.length:Int)/\0+(i64.wrap ((o.length:Int)-1)).toNat<o.length/\bc (decide ((gtR o (0+(i64.wrap ((o.length:Int)-1)).toNat)).2=i)) ((0:Int)<=i64.wrap ((o.length:Int)-1)/\i64.wrap ((o.length:Int)-1)<(o.length:Int)/\0+(i64.wrap ((o.length:Int)-1)).toNat<o.length/\(0:Int)<=i64.wrap ((o.length:Int)-1)/\i64.wrap ((o.length:Int)-1)<(o.length:Int)/\0+(i64.wrap ((o.length:Int)-1)).toNat<o.length/\Q AExit.normal (j,q) { env:=[(4,.i i),(5,.i o.length),(7,.i i),(8,.bool s),(3,.ptr 1099511627776 0),(9,.win true rgS 1099511627777 0 o.length),(10,.i o.length),(11,.i o.length),(12,.bool (decide ((0:Int)<o.length))),(13,.bool true),(14,.win true rgS 1099511627777 0 o.length),(15,.i o.length),(16,.i (i64.wrap ((o.length:Int)-1))),(17,.elp rgS (1099511627777:Nat) (0+(i64.wrap ((o.length:Int)-1)).toNat) (0:Nat)),(18,.elp rgS (1099511627777:Nat) (0+(i64.wrap ((o.length:Int)-1)).toNat) (1:Nat)),(19,.i (gtR o (0+(i64.wrap ((o.length:Int)-1)).toNat)).2),(20,.i i),(21,.bool (decide ((gtR o (0+(i64.wrap ((o.length:Int)-1)).toNat)).2=i))),(22,.bool (decide ((gtR o (0+(i64.wrap ((o.length:Int)-1)).toNat)).2=i))),(23,.win true rgS 1099511627777 0 o.length),(24,.i o.length),(25,.i (i64.wrap ((o.length:Int)-1))),(26,.elp rgS (1099511627777:Nat) (0+(i64.wrap ((o.length:Int)-1)).toNat) (0:Nat)),(27,.elp rgS (1099511627777:Nat) (0+(i64.wrap ((o.length:Int)-1)).toNat) (1:Nat)),(28,.i (gtR o (0+(i64.wrap ((o.length:Int)-1)).toNat)).2),(29,.i (i64.wrap ((gtR o (0+(i64.wrap ((o.length:Int)-1)).toNat)).2+1))),(30,.elp rgS (1099511627777:Nat) (0+(i64.wrap ((o.length:Int)-1)).toNat) (0:Nat)),(31,.elp rgS (1099511627777:Nat) (0+(i64.wrap ((o.length:Int)-1)).toNat) (1:Nat))],blk:=[(1099511627776,.var [.win true rgS 1099511627777 0 o.length]),(1099511627777,.row 127 rgS (o.set (0+(i64.wrap ((o.length:Int)-1)).toNat) ((gtR o (0+(i64.wrap ((o.length:Int)-1)).toNat)).1,i64.wrap ((gtR o (0+(i64.wrap ((o.length:Int)-1)).toNat)).2+1))))] }) (0+1<=([(i,i64.wrap (i+1))]:List rgS.D).length/\o.length=o.length/\(0:Nat)=(0:Nat)/\o.length+(([(i,i64.wrap (i+1))]:List rgS.D)).length<2 ^ 30/\(16:Nat)<=2 ^ 10/\Q AExit.normal (j,q) { env:=[(4,.i i),(5,.i o.length),(7,.i i),(8,.bool s),(3,.ptr 1099511627776 0),(9,.dead),(10,.i o.length),(11,.i o.length),(12,.bool (decide ((0:Int)<o.length))),(13,.bool true),(14,.dead),(15,.i o.length),(16,.i (i64.wrap ((o.length:Int)-1))),(17,.dead),(18,.dead),(19,.i (gtR o (0+(i64.wrap ((o.length:Int)-1)).toNat)).2),(20,.i i),(21,.bool (decide ((gtR o (0+(i64.wrap ((o.length:Int)-1)).toNat)).2=i))),(22,.bool (decide ((gtR o (0+(i64.wrap ((o.length:Int)-1)).toNat)).2=i))),(32,.dead),(33,.i i),(34,.i i),(35,.i (i64.wrap (i+1))),(36,.agg [.i i,.i (i64.wrap (i+1))]),(37,.win true rgS 37 0 (1:Nat)),(38,.win true rgS 38 0 (o.length+(([(i,i64.wrap (i+1))]:List rgS.D)).length))],blk:=[(37,.row 127 rgS ([(i,i64.wrap (i+1))]:List rgS.D)),(38,.row 127 rgS (o++([(i,i64.wrap (i+1))]:List rgS.D))),(1099511627776,.var [.win true rgS 38 0 (o.length+(([(i,i64.wrap (i+1))]:List rgS.D)).length)])] })) (false=false/\0+1<=([(i,i64.wrap (i+1))]:List rgS.D).length/\o.length=o.length/\(0:Nat)=(0:Nat)/\o.length+(([(i,i64.wrap (i+1))]:List rgS.D)).length<2 ^ 30/\(16:Nat)<=2 ^ 10/\Q AExit.normal (j,q) { env:=[(4,.i i),(5,.i o.length),(7,.i i),(8,.bool s),(3,.ptr 1099511627776 0),(9,.dead),(10,.i o.length),(11,.i o.length),(12,.bool (decide ((0:Int)<o.length))),(13,.bool false),(14,SV.tup []),(15,SV.tup []),(16,SV.tup []),(17,SV.tup []),(18,SV.tup []),(19,SV.tup []),(20,SV.tup []),(21,SV.tup []),(22,.bool false),(32,.dead),(33,.i i),(34,.i i),(35,.i (i64.wrap (i+1))),(36,.agg [.i i,.i (i64.wrap (i+1))]),(37,.win true rgS 37 0 (1:Nat)),(38,.win true rgS 38 0 (o.length+(([(i,i64.wrap (i+1))]:List rgS.D)).length))],blk:=[(37,.row 127 rgS ([(i,i64.wrap (i+1))]:List rgS.D)),(38,.row 127 rgS (o++([(i,i64.wrap (i+1))]:List rgS.D))),(1099511627776,.var [.win true rgS 38 0 (o.length+(([(i,i64.wrap (i+1))]:List rgS.D)).length)])] })):=by kernel_rfl
theorem qur (o:List (Int × Int)) (j:Nat) (q:Bool) (Q:AExit->Nat × Bool->PS->Prop) (R:List Item->Nat × Bool->PS->Prop):syE tt G0 [] Tryz.f82.ntmps Y0 Q R .fn 1000 (rfK Tryz.f82 0) (j,q) (⟨[(3,.ptr 3 0)],[(3,.var [.win true rgS 1086016 0 o.length]),(1086016,.row 127 rgS o)]⟩) =
  (Q AExit.ret (j,q) { env:=[(2,.win true rgS 1086016 0 o.length),(3,.ptr 3 0),(39,.win true rgS 1086016 0 o.length)],blk:=[(3,.var [.win true rgS 1086016 0 o.length]),(1086016,.row 127 rgS o)] }):=by kernel_rfl
theorem q4d (o:List (Int × Int)) (j:Nat) (q:Bool) (Q:AExit->Nat × Bool->PS->Prop) (R:List Item->Nat × Bool->PS->Prop):syE tt G0 [] Tryz.f88.ntmps Y0 Q R .fn 1000 (rfK Tryz.f88 0) (j,q) (⟨[(3,.ptr 3 0)],[(3,.var [.win true rgS 1086016 0 o.length]),(1086016,.row 127 rgS o)]⟩) =
  (Q AExit.ret (j,q) { env:=[(2,.win true rgS 1086016 0 o.length),(3,.ptr 3 0),(39,.win true rgS 1086016 0 o.length)],blk:=[(3,.var [.win true rgS 1086016 0 o.length]),(1086016,.row 127 rgS o)] }):=by kernel_rfl
end Go.Proofs.YtgopblmdkjkbbaaGreatDoor
