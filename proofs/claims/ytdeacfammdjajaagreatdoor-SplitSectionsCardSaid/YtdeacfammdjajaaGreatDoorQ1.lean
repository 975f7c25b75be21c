/-
  A part of the proof: what pieces of the program give; conditions: those of each theorem.
-/
import Derived.Test.YtdeacfammdjajaaGreatDoorQ0
set_option linter.unusedVariables false
set_option linter.unusedSimpArgs false
namespace Go.Proofs.YtdeacfammdjajaaGreatDoor
open Go.Px Go.Ax
open Go.IntKind(i64 u32 u8)
set_option maxRecDepth 100000
set_option maxRecDepth 100000
theorem qyv (k f n b:Int) (d:List Int) (o:List SyT) (Q:QT) (R:RT):sA [] Tryz.f203 Q R [.code (qae Tryz.f203)] (qbd [.dat opS,.row 83 syS] ((k,f,n,b,d),o,())) =
  (R (hd Tryz.f203 0) { env:=[(0,.agg [.i k,.i f,.i n,.u b,.sl uB d]),(1,.win true syS 1099511627776 0 o.length),(2,.ptr 2 0),(4,.nils),(6,.ptr 2 2),(7,.i n),(8,.i 0)],blk:=[(2,.var [.i k,.i f,.i n,.u b,.sl uB d]),(1099511627776,.row 83 syS o)] }):=by kernel_rfl
theorem qur (k f n b:Int) (d:List Int) (o:List SyT) (i:Nat) (Q:QT) (R:RT):sA [] Tryz.f203 Q R (hd Tryz.f203 0) ⟨[(1,.win true syS 1099511627776 0 o.length),(2,.ptr 2 0),(7,.i n),(8,.i (i:Nat))],[(2,.var [.i k,.i f,.i n,.u b,.sl uB d]),(1099511627776,.row 83 syS o)]⟩ =
  (bc (decide ((i:Int)<n)) ((0:Nat)+1<=([(true,i64.wrap (f+(i:Int)),(0:Int))]:List syS.D).length/\o.length=o.length/\(0:Nat)=(0:Nat)/\o.length+(winL syS 0 1 ([(true,i64.wrap (f+(i:Int)),(0:Int))]:List syS.D)).length<2 ^ 30/\(24:Nat)<=2 ^ 10/\R (hd Tryz.f203 0) { env:=[(1,.win true syS 18 0 (o.length+(winL syS 0 1 ([(true,i64.wrap (f+(i:Int)),(0:Int))]:List syS.D)).length)),(2,.ptr 2 0),(5,.i (i:Int)),(7,.i n),(8,.i (i64.wrap ((i:Int)+1))),(9,.bool (decide ((i:Int)<n))),(10,.i (i:Int)),(11,.dead),(12,.ptr 2 1),(13,.i f),(14,.i (i:Int)),(15,.i (i64.wrap (f+(i:Int)))),(16,.agg [.bool true,.i (i64.wrap (f+(i:Int))),.u 0]),(17,.win true syS 17 0 (1:Nat)),(18,.win true syS 18 0 (o.length+(winL syS 0 1 ([(true,i64.wrap (f+(i:Int)),(0:Int))]:List syS.D)).length)),(19,.i (i64.wrap ((i:Int)+1)))],blk:=[(2,.var [.i k,.i f,.i n,.u b,.sl uB d]),(17,.row 83 syS ([(true,i64.wrap (f+(i:Int)),(0:Int))]:List syS.D)),(18,.row 83 syS (o++([(true,i64.wrap (f+(i:Int)),(0:Int))]:List syS.D)))] }) (Q [.win true syS 1099511627776 0 o.length] [(2,.var [.i k,.i f,.i n,.u b,.sl uB d]),(1099511627776,.row 83 syS o)])):=by kernel_rfl
theorem qn4 (k f n b:Int) (d:List Int) (o:List SyT) (i:Nat) (Q:QT) (R:RT):sA [] Tryz.f203 Q R (hd Tryz.f203 0) ⟨[(1,.win true syS 1 0 o.length),(2,.ptr 2 0),(7,.i n),(8,.i (i:Nat))],[(2,.var [.i k,.i f,.i n,.u b,.sl uB d]),(1,.row 83 syS o)]⟩ =
  (bc (decide ((i:Int)<n)) ((0:Nat)+1<=([(true,i64.wrap (f+(i:Int)),(0:Int))]:List syS.D).length/\o.length=o.length/\(0:Nat)=(0:Nat)/\o.length+(winL syS 0 1 ([(true,i64.wrap (f+(i:Int)),(0:Int))]:List syS.D)).length<2 ^ 30/\(24:Nat)<=2 ^ 10/\R (hd Tryz.f203 0) { env:=[(1,.win true syS 18 0 (o.length+(winL syS 0 1 ([(true,i64.wrap (f+(i:Int)),(0:Int))]:List syS.D)).length)),(2,.ptr 2 0),(5,.i (i:Int)),(7,.i n),(8,.i (i64.wrap ((i:Int)+1))),(9,.bool (decide ((i:Int)<n))),(10,.i (i:Int)),(11,.dead),(12,.ptr 2 1),(13,.i f),(14,.i (i:Int)),(15,.i (i64.wrap (f+(i:Int)))),(16,.agg [.bool true,.i (i64.wrap (f+(i:Int))),.u 0]),(17,.win true syS 17 0 (1:Nat)),(18,.win true syS 18 0 (o.length+(winL syS 0 1 ([(true,i64.wrap (f+(i:Int)),(0:Int))]:List syS.D)).length)),(19,.i (i64.wrap ((i:Int)+1)))],blk:=[(2,.var [.i k,.i f,.i n,.u b,.sl uB d]),(17,.row 83 syS ([(true,i64.wrap (f+(i:Int)),(0:Int))]:List syS.D)),(18,.row 83 syS (o++([(true,i64.wrap (f+(i:Int)),(0:Int))]:List syS.D)))] }) (Q [.win true syS 1 0 o.length] [(2,.var [.i k,.i f,.i n,.u b,.sl uB d]),(1,.row 83 syS o)])):=by kernel_rfl
theorem qys (k f n b:Int) (d:List Int) (o:List SyT) (Q:QT) (R:RT):sA [] Tryz.f207 Q R [.code (qae Tryz.f207)] (qbd [.dat opS,.row 83 syS] ((k,f,n,b,d),o,())) =
  (R (hd Tryz.f207 0) { env:=[(0,.agg [.i k,.i f,.i n,.u b,.sl uB d]),(1,.win true syS 1099511627776 0 o.length),(2,.ptr 2 0),(4,.nils),(7,.ptr 2 4),(8,.sl uB d),(9,.i (d.length:Int)),(10,.i 0)],blk:=[(2,.var [.i k,.i f,.i n,.u b,.sl uB d]),(1099511627776,.row 83 syS o)] }):=by kernel_rfl
theorem qum (k f n b:Int) (d:List Int) (o:List SyT) (i:Nat) (Q:QT) (R:RT):sA [] Tryz.f207 Q R (hd Tryz.f207 0) ⟨[(1,.win true syS 1099511627776 0 o.length),(2,.ptr 2 0),(8,.sl uB d),(9,.i d.length),(10,.i (i:Nat))],[(2,.var [.i k,.i f,.i n,.u b,.sl uB d]),(1099511627776,.row 83 syS o)]⟩ =
  (bc (decide ((i:Int)<(d.length:Int))) ((0:Int)<=(i:Int)/\(i:Int)<(d.length:Int)/\(0:Nat)+1<=([(true,i64.wrap (f+(i:Int)),gtB d (i:Int).toNat)]:List syS.D).length/\o.length=o.length/\(0:Nat)=(0:Nat)/\o.length+(winL syS 0 1 ([(true,i64.wrap (f+(i:Int)),gtB d (i:Int).toNat)]:List syS.D)).length<2 ^ 30/\(24:Nat)<=2 ^ 10/\R (hd Tryz.f207 0) { env:=[(1,.win true syS 23 0 (o.length+(winL syS 0 1 ([(true,i64.wrap (f+(i:Int)),gtB d (i:Int).toNat)]:List syS.D)).length)),(2,.ptr 2 0),(5,.i (i:Int)),(6,.u (gtB d (i:Int).toNat)),(8,.sl uB d),(9,.i (d.length:Int)),(10,.i (i64.wrap ((i:Int)+1))),(11,.bool (decide ((i:Int)<(d.length:Int)))),(12,.i (i:Int)),(13,.elv uB (gtB d (i:Int).toNat)),(14,.u (gtB d (i:Int).toNat)),(15,.dead),(16,.ptr 2 1),(17,.i f),(18,.i (i:Int)),(19,.i (i64.wrap (f+(i:Int)))),(20,.u (gtB d (i:Int).toNat)),(21,.agg [.bool true,.i (i64.wrap (f+(i:Int))),.u (gtB d (i:Int).toNat)]),(22,.win true syS 22 0 (1:Nat)),(23,.win true syS 23 0 (o.length+(winL syS 0 1 ([(true,i64.wrap (f+(i:Int)),gtB d (i:Int).toNat)]:List syS.D)).length)),(24,.i (i64.wrap ((i:Int)+1)))],blk:=[(2,.var [.i k,.i f,.i n,.u b,.sl uB d]),(22,.row 83 syS ([(true,i64.wrap (f+(i:Int)),gtB d (i:Int).toNat)]:List syS.D)),(23,.row 83 syS (o++([(true,i64.wrap (f+(i:Int)),gtB d (i:Int).toNat)]:List syS.D)))] }) (Q [.win true syS 1099511627776 0 o.length] [(2,.var [.i k,.i f,.i n,.u b,.sl uB d]),(1099511627776,.row 83 syS o)])):=by kernel_rfl
theorem qn2 (k f n b:Int) (d:List Int) (o:List SyT) (i:Nat) (Q:QT) (R:RT):sA [] Tryz.f207 Q R (hd Tryz.f207 0) ⟨[(1,.win true syS 1 0 o.length),(2,.ptr 2 0),(8,.sl uB d),(9,.i d.length),(10,.i (i:Nat))],[(2,.var [.i k,.i f,.i n,.u b,.sl uB d]),(1,.row 83 syS o)]⟩ =
  (bc (decide ((i:Int)<(d.length:Int))) ((0:Int)<=(i:Int)/\(i:Int)<(d.length:Int)/\(0:Nat)+1<=([(true,i64.wrap (f+(i:Int)),gtB d (i:Int).toNat)]:List syS.D).length/\o.length=o.length/\(0:Nat)=(0:Nat)/\o.length+(winL syS 0 1 ([(true,i64.wrap (f+(i:Int)),gtB d (i:Int).toNat)]:List syS.D)).length<2 ^ 30/\(24:Nat)<=2 ^ 10/\R (hd Tryz.f207 0) { env:=[(1,.win true syS 23 0 (o.length+(winL syS 0 1 ([(true,i64.wrap (f+(i:Int)),gtB d (i:Int).toNat)]:List syS.D)).length)),(2,.ptr 2 0),(5,.i (i:Int)),(6,.u (gtB d (i:Int).toNat)),(8,.sl uB d),(9,.i (d.length:Int)),(10,.i (i64.wrap ((i:Int)+1))),(11,.bool (decide ((i:Int)<(d.length:Int)))),(12,.i (i:Int)),(13,.elv uB (gtB d (i:Int).toNat)),(14,.u (gtB d (i:Int).toNat)),(15,.dead),(16,.ptr 2 1),(17,.i f),(18,.i (i:Int)),(19,.i (i64.wrap (f+(i:Int)))),(20,.u (gtB d (i:Int).toNat)),(21,.agg [.bool true,.i (i64.wrap (f+(i:Int))),.u (gtB d (i:Int).toNat)]),(22,.win true syS 22 0 (1:Nat)),(23,.win true syS 23 0 (o.length+(winL syS 0 1 ([(true,i64.wrap (f+(i:Int)),gtB d (i:Int).toNat)]:List syS.D)).length)),(24,.i (i64.wrap ((i:Int)+1)))],blk:=[(2,.var [.i k,.i f,.i n,.u b,.sl uB d]),(22,.row 83 syS ([(true,i64.wrap (f+(i:Int)),gtB d (i:Int).toNat)]:List syS.D)),(23,.row 83 syS (o++([(true,i64.wrap (f+(i:Int)),gtB d (i:Int).toNat)]:List syS.D)))] }) (Q [.win true syS 1 0 o.length] [(2,.var [.i k,.i f,.i n,.u b,.sl uB d]),(1,.row 83 syS o)])):=by kernel_rfl
theorem q3o (k f n b:Int) (d:List Int) (o:List SyT) (Q:QT) (R:RT):sA [] Tryz.f210 Q R [.code (qae Tryz.f210)] (qbd [.dat opS,.row 83 syS] ((k,f,n,b,d),o,())) =
  (R (hd Tryz.f210 0) { env:=[(0,.agg [.i k,.i f,.i n,.u b,.sl uB d]),(1,.win true syS 1099511627776 0 o.length),(2,.ptr 2 0),(4,.nils),(5,.ptr 2 2),(6,.i n),(7,.i 0)],blk:=[(2,.var [.i k,.i f,.i n,.u b,.sl uB d]),(1099511627776,.row 83 syS o)] }):=by kernel_rfl
theorem qyi (k f n b:Int) (d:List Int) (o:List SyT) (i:Nat) (Q:QT) (R:RT):sA [] Tryz.f210 Q R (hd Tryz.f210 0) ⟨[(1,.win true syS 1099511627776 0 o.length),(2,.ptr 2 0),(6,.i n),(7,.i (i:Nat))],[(2,.var [.i k,.i f,.i n,.u b,.sl uB d]),(1099511627776,.row 83 syS o)]⟩ =
  (bc (decide ((i:Int)<n)) ((0:Nat)+1<=([(false,(0:Int),b)]:List syS.D).length/\o.length=o.length/\(0:Nat)=(0:Nat)/\o.length+(winL syS 0 1 ([(false,(0:Int),b)]:List syS.D)).length<2 ^ 30/\(24:Nat)<=2 ^ 10/\R (hd Tryz.f210 0) { env:=[(1,.win true syS 14 0 (o.length+(winL syS 0 1 ([(false,(0:Int),b)]:List syS.D)).length)),(2,.ptr 2 0),(6,.i n),(7,.i (i64.wrap ((i:Int)+1))),(8,.bool (decide ((i:Int)<n))),(9,.dead),(10,.ptr 2 3),(11,.u b),(12,.agg [.bool false,.i 0,.u b]),(13,.win true syS 13 0 (1:Nat)),(14,.win true syS 14 0 (o.length+(winL syS 0 1 ([(false,(0:Int),b)]:List syS.D)).length)),(15,.i (i64.wrap ((i:Int)+1)))],blk:=[(2,.var [.i k,.i f,.i n,.u b,.sl uB d]),(13,.row 83 syS ([(false,(0:Int),b)]:List syS.D)),(14,.row 83 syS (o++([(false,(0:Int),b)]:List syS.D)))] }) (Q [.win true syS 1099511627776 0 o.length] [(2,.var [.i k,.i f,.i n,.u b,.sl uB d]),(1099511627776,.row 83 syS o)])):=by kernel_rfl
theorem qqz (k f n b:Int) (d:List Int) (o:List SyT) (i:Nat) (Q:QT) (R:RT):sA [] Tryz.f210 Q R (hd Tryz.f210 0) ⟨[(1,.win true syS 1 0 o.length),(2,.ptr 2 0),(6,.i n),(7,.i (i:Nat))],[(2,.var [.i k,.i f,.i n,.u b,.sl uB d]),(1,.row 83 syS o)]⟩ =
  (bc (decide ((i:Int)<n)) ((0:Nat)+1<=([(false,(0:Int),b)]:List syS.D).length/\o.length=o.length/\(0:Nat)=(0:Nat)/\o.length+(winL syS 0 1 ([(false,(0:Int),b)]:List syS.D)).length<2 ^ 30/\(24:Nat)<=2 ^ 10/\R (hd Tryz.f210 0) { env:=[(1,.win true syS 14 0 (o.length+(winL syS 0 1 ([(false,(0:Int),b)]:List syS.D)).length)),(2,.ptr 2 0),(6,.i n),(7,.i (i64.wrap ((i:Int)+1))),(8,.bool (decide ((i:Int)<n))),(9,.dead),(10,.ptr 2 3),(11,.u b),(12,.agg [.bool false,.i 0,.u b]),(13,.win true syS 13 0 (1:Nat)),(14,.win true syS 14 0 (o.length+(winL syS 0 1 ([(false,(0:Int),b)]:List syS.D)).length)),(15,.i (i64.wrap ((i:Int)+1)))],blk:=[(2,.var [.i k,.i f,.i n,.u b,.sl uB d]),(13,.row 83 syS ([(false,(0:Int),b)]:List syS.D)),(14,.row 83 syS (o++([(false,(0:Int),b)]:List syS.D)))] }) (Q [.win true syS 1 0 o.length] [(2,.var [.i k,.i f,.i n,.u b,.sl uB d]),(1,.row 83 syS o)])):=by kernel_rfl
theorem q3x (k f n b:Int) (d:List Int) (o:List SyT) (Q:QT) (R:RT):sA [] Tryz.f213 Q R [.code (qae Tryz.f213)] (qbd [.dat opS,.row 83 syS] ((k,f,n,b,d),o,())) =
  (R (hd Tryz.f213 0) { env:=[(0,.agg [.i k,.i f,.i n,.u b,.sl uB d]),(1,.win true syS 1099511627776 0 o.length),(2,.ptr 2 0),(4,.nils),(7,.ptr 2 4),(8,.sl uB d),(9,.i (d.length:Int)),(10,.i 0)],blk:=[(2,.var [.i k,.i f,.i n,.u b,.sl uB d]),(1099511627776,.row 83 syS o)] }):=by kernel_rfl
theorem qyn (k f n b:Int) (d:List Int) (o:List SyT) (i:Nat) (Q:QT) (R:RT):sA [] Tryz.f213 Q R (hd Tryz.f213 0) ⟨[(1,.win true syS 1099511627776 0 o.length),(2,.ptr 2 0),(8,.sl uB d),(9,.i d.length),(10,.i (i:Nat))],[(2,.var [.i k,.i f,.i n,.u b,.sl uB d]),(1099511627776,.row 83 syS o)]⟩ =
  (bc (decide ((i:Int)<(d.length:Int))) ((0:Int)<=(i:Int)/\(i:Int)<(d.length:Int)/\(0:Nat)+1<=([(false,(0:Int),gtB d (i:Int).toNat)]:List syS.D).length/\o.length=o.length/\(0:Nat)=(0:Nat)/\o.length+(winL syS 0 1 ([(false,(0:Int),gtB d (i:Int).toNat)]:List syS.D)).length<2 ^ 30/\(24:Nat)<=2 ^ 10/\R (hd Tryz.f213 0) { env:=[(1,.win true syS 18 0 (o.length+(winL syS 0 1 ([(false,(0:Int),gtB d (i:Int).toNat)]:List syS.D)).length)),(2,.ptr 2 0),(6,.u (gtB d (i:Int).toNat)),(8,.sl uB d),(9,.i (d.length:Int)),(10,.i (i64.wrap ((i:Int)+1))),(11,.bool (decide ((i:Int)<(d.length:Int)))),(12,.elv uB (gtB d (i:Int).toNat)),(13,.u (gtB d (i:Int).toNat)),(14,.dead),(15,.u (gtB d (i:Int).toNat)),(16,.agg [.bool false,.i 0,.u (gtB d (i:Int).toNat)]),(17,.win true syS 17 0 (1:Nat)),(18,.win true syS 18 0 (o.length+(winL syS 0 1 ([(false,(0:Int),gtB d (i:Int).toNat)]:List syS.D)).length)),(19,.i (i64.wrap ((i:Int)+1)))],blk:=[(2,.var [.i k,.i f,.i n,.u b,.sl uB d]),(17,.row 83 syS ([(false,(0:Int),gtB d (i:Int).toNat)]:List syS.D)),(18,.row 83 syS (o++([(false,(0:Int),gtB d (i:Int).toNat)]:List syS.D)))] }) (Q [.win true syS 1099511627776 0 o.length] [(2,.var [.i k,.i f,.i n,.u b,.sl uB d]),(1099511627776,.row 83 syS o)])):=by kernel_rfl
theorem qq1 (k f n b:Int) (d:List Int) (o:List SyT) (i:Nat) (Q:QT) (R:RT):sA [] Tryz.f213 Q R (hd Tryz.f213 0) ⟨[(1,.win true syS 1 0 o.length),(2,.ptr 2 0),(8,.sl uB d),(9,.i d.length),(10,.i (i:Nat))],[(2,.var [.i k,.i f,.i n,.u b,.sl uB d]),(1,.row 83 syS o)]⟩ =
  (bc (decide ((i:Int)<(d.length:Int))) ((0:Int)<=(i:Int)/\(i:Int)<(d.length:Int)/\(0:Nat)+1<=([(false,(0:Int),gtB d (i:Int).toNat)]:List syS.D).length/\o.length=o.length/\(0:Nat)=(0:Nat)/\o.length+(winL syS 0 1 ([(false,(0:Int),gtB d (i:Int).toNat)]:List syS.D)).length<2 ^ 30/\(24:Nat)<=2 ^ 10/\R (hd Tryz.f213 0) { env:=[(1,.win true syS 18 0 (o.length+(winL syS 0 1 ([(false,(0:Int),gtB d (i:Int).toNat)]:List syS.D)).length)),(2,.ptr 2 0),(6,.u (gtB d (i:Int).toNat)),(8,.sl uB d),(9,.i (d.length:Int)),(10,.i (i64.wrap ((i:Int)+1))),(11,.bool (decide ((i:Int)<(d.length:Int)))),(12,.elv uB (gtB d (i:Int).toNat)),(13,.u (gtB d (i:Int).toNat)),(14,.dead),(15,.u (gtB d (i:Int).toNat)),(16,.agg [.bool false,.i 0,.u (gtB d (i:Int).toNat)]),(17,.win true syS 17 0 (1:Nat)),(18,.win true syS 18 0 (o.length+(winL syS 0 1 ([(false,(0:Int),gtB d (i:Int).toNat)]:List syS.D)).length)),(19,.i (i64.wrap ((i:Int)+1)))],blk:=[(2,.var [.i k,.i f,.i n,.u b,.sl uB d]),(17,.row 83 syS ([(false,(0:Int),gtB d (i:Int).toNat)]:List syS.D)),(18,.row 83 syS (o++([(false,(0:Int),gtB d (i:Int).toNat)]:List syS.D)))] }) (Q [.win true syS 1 0 o.length] [(2,.var [.i k,.i f,.i n,.u b,.sl uB d]),(1,.row 83 syS o)])):=by kernel_rfl
attribute [local irreducible] Go.Px.sy Go.Px.syE
theorem QI.row {ct:CtrI} {x:DI ct.args} {rs:List SV} {blk:List (Nat × LB)} {e:Sh} {et:TypeId} {a k:Nat} {xs:List e.D} (h:ct.out x=[.win true e 0 0 xs.length]) (hr:ct.blk x=[(0,.row et e xs)]) (hs:rs=[.win true e a 0 k]) (hk:k=xs.length) (hb:lk blk a=some (.row et e xs)) (ha:a<BIG):QI ct x rs blk:=by
 subst hs;subst hk;refine ⟨[(0,a)],?_,?_,by simp,λ p hp=>by simp at hp;subst hp;exact ha⟩
 ·rw[h];exact ⟨_,_,rfl,.inl ⟨true,a,rfl,rfl,λ h=>h⟩,rfl⟩
 ·rw[hr];exact ⟨.inl ⟨a,_,rfl,hb,rfl⟩,trivial⟩
def gen (el:Nat->SyT):Nat->Nat->List SyT
 | 0,_=>[]
 | k+1,i=>el i::gen el k (i+1)
theorem qnh (el:Nat->SyT):∀ k i,(gen el k i).length=k
 | 0,_=>rfl
 | k+1,i=>by rw[gen,List.length_cons,qnh el k]
def elO (t:Nat) (x:OpT) (i:Nat):SyT:=match t with
 | 1=>(true,IntKind.i64.wrap (x.2.1+i),0)
 | 2=>(true,IntKind.i64.wrap (x.2.1+i),gtB x.2.2.2.2 i)
 | 3=>(false,0,x.2.2.2.1)
 | _=>(false,0,gtB x.2.2.2.2 i)
def cntO (t:Nat) (x:OpT):Nat:=match t with
 | 1=>x.2.2.1.toNat
 | 3=>x.2.2.1.toNat
 | _=>x.2.2.2.2.length
def qa8 (t:Nat) (x:OpT):List SyT:=gen (elO t x) (cntO t x) 0
def preA (t:Nat) (x:OpT) (o:List SyT):Prop:=1<=cntO t x/\o.length+cntO t x<268435456/\x.2.2.1<268435456
abbrev KA:List AK:=[.dat opS,.row 83 syS]
def ctA (t:Nat):CtrI:=⟨KA,λ x=>preA t x.1 x.2.1,λ x=>[.win true syS 0 0 (List.length (x.2.1++qa8 t x.1))],λ x=>[(0,.row 83 syS (x.2.1++qa8 t x.1))]⟩
abbrev GQ (t:Nat) (x:OpT) (o:List SyT):List SV->List (Nat × LB)->Prop:=QI (ctA t) (x,o,())
theorem qty (k f n b:Int) (d:List Int) (o0:List SyT) (hb:n<268435456/\True):∀ (c i:Nat) (o:List SyT),cntO 1 (k,f,n,b,d)-i=c->i<=cntO 1 (k,f,n,b,d)->o.length+c<268435456->o++gen (elO 1 (k,f,n,b,d)) c i=o0++qa8 1 (k,f,n,b,d) ->
  GD 203 Tryz.f203 (GQ 1 (k,f,n,b,d) o0) (hd Tryz.f203 0) ⟨[(1,.win true syS 1 0 o.length),(2,.ptr 2 0),(7,.i n),(8,.i (i:Nat))],[(2,.var [.i k,.i f,.i n,.u b,.sl uB d]),(1,.row 83 syS o)]⟩:=by
 intro c
 induction c with
 | zero=>
  intro i o hc hi hl he;have hn:cntO 1 (k,f,n,b,d)=n.toNat:=rfl;refine qai cx0 _ _ _ ((qn4 k f n b d o i _ _).mpr ?_);rw[decide_eq_false (by omega),bc_f];have he:o=o0++qa8 1 (k,f,n,b,d):=by simpa [gen] using he
  exact QI.row (e:=syS) (et:=83) (a:=1) (xs:=o0++qa8 1 (k,f,n,b,d)) rfl rfl (by rw[he]) rfl (by rw[he];rfl) (by decide)
 | succ c ih=>
  intro i o hc hi hl he;have hn:cntO 1 (k,f,n,b,d)=n.toNat:=rfl;refine qai cx0 _ _ _ ((qn4 k f n b d o i _ _).mpr ?_);rw[decide_eq_true (show (i:Int)<n by omega),bc_t,IntWalk.i64_in ((i:Int)+1) (by omega)];refine ⟨Nat.le_refl 1,rfl,rfl,?_,by decide,?_⟩
  ·show o.length+1<2 ^ 30
   omega
  ·refine Good.onlyR (ih (i+1) (o++[elO 1 (k,f,n,b,d) i]) (by omega) (by omega) (by rw[List.length_append,List.length_singleton];omega) (by rw[List.append_assoc];exact he)) [(1,18)] rfl ⟨by rw[List.length_append];rfl,rfl,rfl,rfl,trivial⟩ ⟨rfl,rfl,trivial⟩
theorem qtz:HeldI Tryz.prog G0 203 (ctA 1):=by
 refine HeldI.run cx0 (fn:=Tryz.f203) rfl rfl ⟨by decide,by decide⟩ ?_;rintro ⟨⟨k,f,n,b,d⟩,o,⟨⟩⟩ hp;obtain ⟨h1,h2,h3⟩:preA 1 (k,f,n,b,d) o:=hp;have hn:cntO 1 (k,f,n,b,d)=n.toNat:=rfl;replace h3:n<268435456:=h3;refine (qyv k f n b d o _ _).mpr ?_;have hb:n<268435456/\True:=⟨h3,trivial⟩;obtain ⟨c,hc⟩:∃ c,cntO 1 (k,f,n,b,d)=c+1:=⟨cntO 1 (k,f,n,b,d)-1,by omega⟩;have e:GD 203 Tryz.f203 (GQ 1 (k,f,n,b,d) o) (hd Tryz.f203 0) ⟨[(1,.win true syS 1099511627776 0 o.length),(2,.ptr 2 0),(7,.i n),(8,.i ((0:Nat):Int))],[(2,.var [.i k,.i f,.i n,.u b,.sl uB d]),(1099511627776,.row 83 syS o)]⟩:=by
  refine qai cx0 _ _ _ ((qur k f n b d o 0 _ _).mpr ?_);rw[decide_eq_true (show ((0:Nat):Int)<n by omega),bc_t,IntWalk.i64_in (((0:Nat):Int)+1) (by omega)];refine ⟨Nat.le_refl 1,rfl,rfl,?_,by decide,?_⟩
  ·show o.length+1<2 ^ 30
   omega
  ·refine Good.onlyR (qty k f n b d o ⟨h3,trivial⟩ c 1 (o++[elO 1 (k,f,n,b,d) 0]) (by omega) (by omega) (by rw[List.length_append,List.length_singleton];omega) (by rw[List.append_assoc];unfold qa8;rw[hc];rfl)) [(1,18)] rfl ⟨by rw[List.length_append];rfl,rfl,rfl,rfl,trivial⟩ ⟨rfl,rfl,trivial⟩
 exact e.only ⟨rfl,rfl,rfl,rfl,trivial⟩ ⟨rfl,rfl,trivial⟩
theorem qtu (k f n b:Int) (d:List Int) (o0:List SyT) (hb:n<268435456/\d.length<268435456):∀ (c i:Nat) (o:List SyT),cntO 2 (k,f,n,b,d)-i=c->i<=cntO 2 (k,f,n,b,d)->o.length+c<268435456->o++gen (elO 2 (k,f,n,b,d)) c i=o0++qa8 2 (k,f,n,b,d) ->
  GD 207 Tryz.f207 (GQ 2 (k,f,n,b,d) o0) (hd Tryz.f207 0) ⟨[(1,.win true syS 1 0 o.length),(2,.ptr 2 0),(8,.sl uB d),(9,.i d.length),(10,.i (i:Nat))],[(2,.var [.i k,.i f,.i n,.u b,.sl uB d]),(1,.row 83 syS o)]⟩:=by
 intro c
 induction c with
 | zero=>
  intro i o hc hi hl he;have hn:cntO 2 (k,f,n,b,d)=d.length:=rfl;refine qai cx0 _ _ _ ((qn2 k f n b d o i _ _).mpr ?_);rw[decide_eq_false (by omega),bc_f];have he:o=o0++qa8 2 (k,f,n,b,d):=by simpa [gen] using he
  exact QI.row (e:=syS) (et:=83) (a:=1) (xs:=o0++qa8 2 (k,f,n,b,d)) rfl rfl (by rw[he]) rfl (by rw[he];rfl) (by decide)
 | succ c ih=>
  intro i o hc hi hl he;have hn:cntO 2 (k,f,n,b,d)=d.length:=rfl;refine qai cx0 _ _ _ ((qn2 k f n b d o i _ _).mpr ?_);rw[decide_eq_true (show (i:Int)<(d.length:Int) by omega),bc_t,IntWalk.i64_in ((i:Int)+1) (by omega),Int.toNat_natCast];refine ⟨by omega,by omega,Nat.le_refl 1,rfl,rfl,?_,by decide,?_⟩
  ·show o.length+1<2 ^ 30
   omega
  ·refine Good.onlyR (ih (i+1) (o++[elO 2 (k,f,n,b,d) i]) (by omega) (by omega) (by rw[List.length_append,List.length_singleton];omega) (by rw[List.append_assoc];exact he)) [(1,23)] rfl ⟨by rw[List.length_append];rfl,rfl,rfl,rfl,rfl,trivial⟩ ⟨rfl,rfl,trivial⟩
theorem qtv:HeldI Tryz.prog G0 207 (ctA 2):=by
 refine HeldI.run cx0 (fn:=Tryz.f207) rfl rfl ⟨by decide,by decide⟩ ?_;rintro ⟨⟨k,f,n,b,d⟩,o,⟨⟩⟩ hp;obtain ⟨h1,h2,h3⟩:preA 2 (k,f,n,b,d) o:=hp;have hn:cntO 2 (k,f,n,b,d)=d.length:=rfl;replace h3:n<268435456:=h3;refine (qys k f n b d o _ _).mpr ?_;have hb:n<268435456/\d.length<268435456:=⟨h3,by omega⟩;obtain ⟨c,hc⟩:∃ c,cntO 2 (k,f,n,b,d)=c+1:=⟨cntO 2 (k,f,n,b,d)-1,by omega⟩;have e:GD 207 Tryz.f207 (GQ 2 (k,f,n,b,d) o) (hd Tryz.f207 0) ⟨[(1,.win true syS 1099511627776 0 o.length),(2,.ptr 2 0),(8,.sl uB d),(9,.i d.length),(10,.i ((0:Nat):Int))],[(2,.var [.i k,.i f,.i n,.u b,.sl uB d]),(1099511627776,.row 83 syS o)]⟩:=by
  refine qai cx0 _ _ _ ((qum k f n b d o 0 _ _).mpr ?_);rw[decide_eq_true (show ((0:Nat):Int)<(d.length:Int) by omega),bc_t,IntWalk.i64_in (((0:Nat):Int)+1) (by omega),Int.toNat_natCast];refine ⟨by omega,by omega,Nat.le_refl 1,rfl,rfl,?_,by decide,?_⟩
  ·show o.length+1<2 ^ 30
   omega
  ·refine Good.onlyR (qtu k f n b d o hb c 1 (o++[elO 2 (k,f,n,b,d) 0]) (by omega) (by omega) (by rw[List.length_append,List.length_singleton];omega) (by rw[List.append_assoc];unfold qa8;rw[hc];rfl)) [(1,23)] rfl ⟨by rw[List.length_append];rfl,rfl,rfl,rfl,rfl,trivial⟩ ⟨rfl,rfl,trivial⟩
 exact e.only ⟨rfl,rfl,rfl,rfl,rfl,trivial⟩ ⟨rfl,rfl,trivial⟩
theorem qvp (k f n b:Int) (d:List Int) (o0:List SyT) (hb:n<268435456/\True):∀ (c i:Nat) (o:List SyT),cntO 3 (k,f,n,b,d)-i=c->i<=cntO 3 (k,f,n,b,d)->o.length+c<268435456->o++gen (elO 3 (k,f,n,b,d)) c i=o0++qa8 3 (k,f,n,b,d) ->
  GD 210 Tryz.f210 (GQ 3 (k,f,n,b,d) o0) (hd Tryz.f210 0) ⟨[(1,.win true syS 1 0 o.length),(2,.ptr 2 0),(6,.i n),(7,.i (i:Nat))],[(2,.var [.i k,.i f,.i n,.u b,.sl uB d]),(1,.row 83 syS o)]⟩:=by
 intro c
 induction c with
 | zero=>
  intro i o hc hi hl he;have hn:cntO 3 (k,f,n,b,d)=n.toNat:=rfl;refine qai cx0 _ _ _ ((qqz k f n b d o i _ _).mpr ?_);rw[decide_eq_false (by omega),bc_f];have he:o=o0++qa8 3 (k,f,n,b,d):=by simpa [gen] using he
  exact QI.row (e:=syS) (et:=83) (a:=1) (xs:=o0++qa8 3 (k,f,n,b,d)) rfl rfl (by rw[he]) rfl (by rw[he];rfl) (by decide)
 | succ c ih=>
  intro i o hc hi hl he;have hn:cntO 3 (k,f,n,b,d)=n.toNat:=rfl;refine qai cx0 _ _ _ ((qqz k f n b d o i _ _).mpr ?_);rw[decide_eq_true (show (i:Int)<n by omega),bc_t,IntWalk.i64_in ((i:Int)+1) (by omega)];refine ⟨Nat.le_refl 1,rfl,rfl,?_,by decide,?_⟩
  ·show o.length+1<2 ^ 30
   omega
  ·refine Good.onlyR (ih (i+1) (o++[elO 3 (k,f,n,b,d) i]) (by omega) (by omega) (by rw[List.length_append,List.length_singleton];omega) (by rw[List.append_assoc];exact he)) [(1,14)] rfl ⟨by rw[List.length_append];rfl,rfl,rfl,rfl,trivial⟩ ⟨rfl,rfl,trivial⟩
theorem qvq:HeldI Tryz.prog G0 210 (ctA 3):=by
 refine HeldI.run cx0 (fn:=Tryz.f210) rfl rfl ⟨by decide,by decide⟩ ?_;rintro ⟨⟨k,f,n,b,d⟩,o,⟨⟩⟩ hp;obtain ⟨h1,h2,h3⟩:preA 3 (k,f,n,b,d) o:=hp;have hn:cntO 3 (k,f,n,b,d)=n.toNat:=rfl;replace h3:n<268435456:=h3;refine (q3o k f n b d o _ _).mpr ?_;have hb:n<268435456/\True:=⟨h3,trivial⟩;obtain ⟨c,hc⟩:∃ c,cntO 3 (k,f,n,b,d)=c+1:=⟨cntO 3 (k,f,n,b,d)-1,by omega⟩;have e:GD 210 Tryz.f210 (GQ 3 (k,f,n,b,d) o) (hd Tryz.f210 0) ⟨[(1,.win true syS 1099511627776 0 o.length),(2,.ptr 2 0),(6,.i n),(7,.i ((0:Nat):Int))],[(2,.var [.i k,.i f,.i n,.u b,.sl uB d]),(1099511627776,.row 83 syS o)]⟩:=by
  refine qai cx0 _ _ _ ((qyi k f n b d o 0 _ _).mpr ?_);rw[decide_eq_true (show ((0:Nat):Int)<n by omega),bc_t,IntWalk.i64_in (((0:Nat):Int)+1) (by omega)];refine ⟨Nat.le_refl 1,rfl,rfl,?_,by decide,?_⟩
  ·show o.length+1<2 ^ 30
   omega
  ·refine Good.onlyR (qvp k f n b d o ⟨h3,trivial⟩ c 1 (o++[elO 3 (k,f,n,b,d) 0]) (by omega) (by omega) (by rw[List.length_append,List.length_singleton];omega) (by rw[List.append_assoc];unfold qa8;rw[hc];rfl)) [(1,14)] rfl ⟨by rw[List.length_append];rfl,rfl,rfl,rfl,trivial⟩ ⟨rfl,rfl,trivial⟩
 exact e.only ⟨rfl,rfl,rfl,rfl,trivial⟩ ⟨rfl,rfl,trivial⟩
theorem qwz (k f n b:Int) (d:List Int) (o0:List SyT) (hb:n<268435456/\d.length<268435456):∀ (c i:Nat) (o:List SyT),cntO 4 (k,f,n,b,d)-i=c->i<=cntO 4 (k,f,n,b,d)->o.length+c<268435456->o++gen (elO 4 (k,f,n,b,d)) c i=o0++qa8 4 (k,f,n,b,d) ->
  GD 213 Tryz.f213 (GQ 4 (k,f,n,b,d) o0) (hd Tryz.f213 0) ⟨[(1,.win true syS 1 0 o.length),(2,.ptr 2 0),(8,.sl uB d),(9,.i d.length),(10,.i (i:Nat))],[(2,.var [.i k,.i f,.i n,.u b,.sl uB d]),(1,.row 83 syS o)]⟩:=by
 intro c
 induction c with
 | zero=>
  intro i o hc hi hl he;have hn:cntO 4 (k,f,n,b,d)=d.length:=rfl;refine qai cx0 _ _ _ ((qq1 k f n b d o i _ _).mpr ?_);rw[decide_eq_false (by omega),bc_f];have he:o=o0++qa8 4 (k,f,n,b,d):=by simpa [gen] using he
  exact QI.row (e:=syS) (et:=83) (a:=1) (xs:=o0++qa8 4 (k,f,n,b,d)) rfl rfl (by rw[he]) rfl (by rw[he];rfl) (by decide)
 | succ c ih=>
  intro i o hc hi hl he;have hn:cntO 4 (k,f,n,b,d)=d.length:=rfl;refine qai cx0 _ _ _ ((qq1 k f n b d o i _ _).mpr ?_);rw[decide_eq_true (show (i:Int)<(d.length:Int) by omega),bc_t,IntWalk.i64_in ((i:Int)+1) (by omega),Int.toNat_natCast];refine ⟨by omega,by omega,Nat.le_refl 1,rfl,rfl,?_,by decide,?_⟩
  ·show o.length+1<2 ^ 30
   omega
  ·refine Good.onlyR (ih (i+1) (o++[elO 4 (k,f,n,b,d) i]) (by omega) (by omega) (by rw[List.length_append,List.length_singleton];omega) (by rw[List.append_assoc];exact he)) [(1,18)] rfl ⟨by rw[List.length_append];rfl,rfl,rfl,rfl,rfl,trivial⟩ ⟨rfl,rfl,trivial⟩
theorem qw0:HeldI Tryz.prog G0 213 (ctA 4):=by
 refine HeldI.run cx0 (fn:=Tryz.f213) rfl rfl ⟨by decide,by decide⟩ ?_;rintro ⟨⟨k,f,n,b,d⟩,o,⟨⟩⟩ hp;obtain ⟨h1,h2,h3⟩:preA 4 (k,f,n,b,d) o:=hp;have hn:cntO 4 (k,f,n,b,d)=d.length:=rfl;replace h3:n<268435456:=h3;refine (q3x k f n b d o _ _).mpr ?_;have hb:n<268435456/\d.length<268435456:=⟨h3,by omega⟩;obtain ⟨c,hc⟩:∃ c,cntO 4 (k,f,n,b,d)=c+1:=⟨cntO 4 (k,f,n,b,d)-1,by omega⟩;have e:GD 213 Tryz.f213 (GQ 4 (k,f,n,b,d) o) (hd Tryz.f213 0) ⟨[(1,.win true syS 1099511627776 0 o.length),(2,.ptr 2 0),(8,.sl uB d),(9,.i d.length),(10,.i ((0:Nat):Int))],[(2,.var [.i k,.i f,.i n,.u b,.sl uB d]),(1099511627776,.row 83 syS o)]⟩:=by
  refine qai cx0 _ _ _ ((qyn k f n b d o 0 _ _).mpr ?_);rw[decide_eq_true (show ((0:Nat):Int)<(d.length:Int) by omega),bc_t,IntWalk.i64_in (((0:Nat):Int)+1) (by omega),Int.toNat_natCast];refine ⟨by omega,by omega,Nat.le_refl 1,rfl,rfl,?_,by decide,?_⟩
  ·show o.length+1<2 ^ 30
   omega
  ·refine Good.onlyR (qwz k f n b d o hb c 1 (o++[elO 4 (k,f,n,b,d) 0]) (by omega) (by omega) (by rw[List.length_append,List.length_singleton];omega) (by rw[List.append_assoc];unfold qa8;rw[hc];rfl)) [(1,18)] rfl ⟨by rw[List.length_append];rfl,rfl,rfl,rfl,rfl,trivial⟩ ⟨rfl,rfl,trivial⟩
 exact e.only ⟨rfl,rfl,rfl,rfl,rfl,trivial⟩ ⟨rfl,rfl,trivial⟩
def CA:CV:=(213,.inr (ctA 4))::(210,.inr (ctA 3))::(207,.inr (ctA 2))::(203,.inr (ctA 1))::(93,.inl ctChk)::C1
theorem cxA:CxOK Tryz.prog tt G0 CA:=((((cx1.k qsh (fn:=Tryz.f93)).consI qtz (fn:=Tryz.f203) rfl rfl rfl).consI qtv (fn:=Tryz.f207) rfl rfl rfl).consI qvq (fn:=Tryz.f210) rfl rfl rfl).consI qw0 (fn:=Tryz.f213) rfl rfl rfl
def E1:CV:=(72,.inl (ctO 1 157))::CA
def E2:CV:=(72,.inl (ctO 2 158))::CA
def E3:CV:=(72,.inl (ctO 3 159))::CA
def E4:CV:=(72,.inl (ctO 4 160))::CA
theorem ex1:CxOK Tryz.prog tt G0 E1:=cxA.k qwj (fn:=Tryz.f72)
theorem ex2:CxOK Tryz.prog tt G0 E2:=cxA.k qwi (fn:=Tryz.f72)
theorem ex3:CxOK Tryz.prog tt G0 E3:=cxA.k qwh (fn:=Tryz.f72)
theorem ex4:CxOK Tryz.prog tt G0 E4:=cxA.k qwg (fn:=Tryz.f72)
set_option maxRecDepth 100000
theorem q3j (li:Bool) (m o:Int) (l:List OpT) (Q:QT) (R:RT):sA CA Tryz.f63 Q R [.code (qae Tryz.f63)] (entry [paS] ((li,m,o,l),())) =
  (ctChk.pre ((li,m,o,l),())/\bc (decide ((chkV (li,m,o,l)).2≠0)) (Q [.nils,.i (chkV (li,m,o,l)).2] [(1,.var [.bool li,.i m,.i o,.sl opS l])]) ((0:Int)<=0/\(0:Int)<=o/\o<2 ^ 24/\(↑(24:Nat):Int)*o<=2 ^ 48/\R (hd Tryz.f63 0) { env:=[(0,.agg [.bool li,.i m,.i o,.sl opS l]),(1,.ptr 1 0),(2,.nils),(3,.i 0),(4,.i (chkV (li,m,o,l)).1),(5,.i (chkV (li,m,o,l)).2),(6,.win true syS 19 0 (0:Nat)),(9,SV.tup [.i (chkV (li,m,o,l)).1,.i (chkV (li,m,o,l)).2]),(10,.agg [.bool li,.i m,.i o,.sl opS l]),(11,SV.tup [.i (chkV (li,m,o,l)).1,.i (chkV (li,m,o,l)).2]),(12,.i (chkV (li,m,o,l)).1),(13,.i (chkV (li,m,o,l)).2),(14,.i (chkV (li,m,o,l)).2),(15,.bool (decide ((chkV (li,m,o,l)).2≠0))),(17,.ptr 1 2),(18,.i o),(19,.win true syS 19 0 (0:Nat)),(20,.ptr 1 3),(21,.sl opS l),(22,.i (l.length:Int)),(23,.i 0)],blk:=[(1,.var [.bool li,.i m,.i o,.sl opS l]),(19,.row 83 syS (List.replicate (0) syS.dflt))] })):=by kernel_rfl
theorem qn0 (li:Bool) (m o:Int) (l:List OpT) (s:List SyT) (i:Nat) (Q:QT) (R:RT):sA E1 Tryz.f63 Q R (hd Tryz.f63 0) ⟨[(1,.ptr 1 0),(6,.win true syS 19 0 s.length),(21,.sl opS l),(22,.i l.length),(23,.i (i:Nat))],[(1,.var [.bool li,.i m,.i o,.sl opS l]),(19,.row 83 syS s)]⟩ =
  (bc (decide ((i:Int)<(l.length:Int))) ((0:Int)<=(i:Int)/\(i:Int)<(l.length:Int)/\(ctO (1:Int) (157:Nat)).pre ((gtO l (i:Int).toNat),())/\s.length=s.length/\(ctA (1:Nat)).pre ((gtO l (i:Int).toNat),s,())/\R (hd Tryz.f63 0) { env:=[(1,.ptr 1 0),(6,.win true syS 1122880 0 (List.length (s++qa8 (1:Nat) (gtO l (i:Int).toNat)))),(8,.ptr 8 0),(21,.sl opS l),(22,.i (l.length:Int)),(23,.i (i64.wrap ((i:Int)+1))),(24,.bool (decide ((i:Int)<(l.length:Int)))),(25,.elv opS (gtO l (i:Int).toNat)),(26,.agg (oI (gtO l (i:Int).toNat))),(27,.agg (oI (gtO l (i:Int).toNat))),(28,.ifc (157:Nat) true (oI (gtO l (i:Int).toNat))),(29,.dead),(30,.win true syS 1122880 0 (List.length (s++qa8 (1:Nat) (gtO l (i:Int).toNat)))),(31,.i (i64.wrap ((i:Int)+1)))],blk:=[(1,.var [.bool li,.i m,.i o,.sl opS l]),(8,.var (oI (gtO l (i:Int).toNat))),(1122880,.row 83 syS (s++qa8 (1:Nat) (gtO l (i:Int).toNat)))] }) (Q [.win true syS 19 0 s.length,.i 0] [(1,.var [.bool li,.i m,.i o,.sl opS l]),(19,.row 83 syS s)])):=by kernel_rfl
theorem qua (li:Bool) (m o:Int) (l:List OpT) (s:List SyT) (i:Nat) (Q:QT) (R:RT):sA E2 Tryz.f63 Q R (hd Tryz.f63 0) ⟨[(1,.ptr 1 0),(6,.win true syS 19 0 s.length),(21,.sl opS l),(22,.i l.length),(23,.i (i:Nat))],[(1,.var [.bool li,.i m,.i o,.sl opS l]),(19,.row 83 syS s)]⟩ =
  (bc (decide ((i:Int)<(l.length:Int))) ((0:Int)<=(i:Int)/\(i:Int)<(l.length:Int)/\(ctO (2:Int) (158:Nat)).pre ((gtO l (i:Int).toNat),())/\s.length=s.length/\(ctA (2:Nat)).pre ((gtO l (i:Int).toNat),s,())/\R (hd Tryz.f63 0) { env:=[(1,.ptr 1 0),(6,.win true syS 1122880 0 (List.length (s++qa8 (2:Nat) (gtO l (i:Int).toNat)))),(8,.ptr 8 0),(21,.sl opS l),(22,.i (l.length:Int)),(23,.i (i64.wrap ((i:Int)+1))),(24,.bool (decide ((i:Int)<(l.length:Int)))),(25,.elv opS (gtO l (i:Int).toNat)),(26,.agg (oI (gtO l (i:Int).toNat))),(27,.agg (oI (gtO l (i:Int).toNat))),(28,.ifc (158:Nat) true (oI (gtO l (i:Int).toNat))),(29,.dead),(30,.win true syS 1122880 0 (List.length (s++qa8 (2:Nat) (gtO l (i:Int).toNat)))),(31,.i (i64.wrap ((i:Int)+1)))],blk:=[(1,.var [.bool li,.i m,.i o,.sl opS l]),(8,.var (oI (gtO l (i:Int).toNat))),(1122880,.row 83 syS (s++qa8 (2:Nat) (gtO l (i:Int).toNat)))] }) (Q [.win true syS 19 0 s.length,.i 0] [(1,.var [.bool li,.i m,.i o,.sl opS l]),(19,.row 83 syS s)])):=by kernel_rfl
theorem qt9 (li:Bool) (m o:Int) (l:List OpT) (s:List SyT) (i:Nat) (Q:QT) (R:RT):sA E3 Tryz.f63 Q R (hd Tryz.f63 0) ⟨[(1,.ptr 1 0),(6,.win true syS 19 0 s.length),(21,.sl opS l),(22,.i l.length),(23,.i (i:Nat))],[(1,.var [.bool li,.i m,.i o,.sl opS l]),(19,.row 83 syS s)]⟩ =
  (bc (decide ((i:Int)<(l.length:Int))) ((0:Int)<=(i:Int)/\(i:Int)<(l.length:Int)/\(ctO (3:Int) (159:Nat)).pre ((gtO l (i:Int).toNat),())/\s.length=s.length/\(ctA (3:Nat)).pre ((gtO l (i:Int).toNat),s,())/\R (hd Tryz.f63 0) { env:=[(1,.ptr 1 0),(6,.win true syS 1122880 0 (List.length (s++qa8 (3:Nat) (gtO l (i:Int).toNat)))),(8,.ptr 8 0),(21,.sl opS l),(22,.i (l.length:Int)),(23,.i (i64.wrap ((i:Int)+1))),(24,.bool (decide ((i:Int)<(l.length:Int)))),(25,.elv opS (gtO l (i:Int).toNat)),(26,.agg (oI (gtO l (i:Int).toNat))),(27,.agg (oI (gtO l (i:Int).toNat))),(28,.ifc (159:Nat) true (oI (gtO l (i:Int).toNat))),(29,.dead),(30,.win true syS 1122880 0 (List.length (s++qa8 (3:Nat) (gtO l (i:Int).toNat)))),(31,.i (i64.wrap ((i:Int)+1)))],blk:=[(1,.var [.bool li,.i m,.i o,.sl opS l]),(8,.var (oI (gtO l (i:Int).toNat))),(1122880,.row 83 syS (s++qa8 (3:Nat) (gtO l (i:Int).toNat)))] }) (Q [.win true syS 19 0 s.length,.i 0] [(1,.var [.bool li,.i m,.i o,.sl opS l]),(19,.row 83 syS s)])):=by kernel_rfl
theorem qt8 (li:Bool) (m o:Int) (l:List OpT) (s:List SyT) (i:Nat) (Q:QT) (R:RT):sA E4 Tryz.f63 Q R (hd Tryz.f63 0) ⟨[(1,.ptr 1 0),(6,.win true syS 19 0 s.length),(21,.sl opS l),(22,.i l.length),(23,.i (i:Nat))],[(1,.var [.bool li,.i m,.i o,.sl opS l]),(19,.row 83 syS s)]⟩ =
  (bc (decide ((i:Int)<(l.length:Int))) ((0:Int)<=(i:Int)/\(i:Int)<(l.length:Int)/\(ctO (4:Int) (160:Nat)).pre ((gtO l (i:Int).toNat),())/\s.length=s.length/\(ctA (4:Nat)).pre ((gtO l (i:Int).toNat),s,())/\R (hd Tryz.f63 0) { env:=[(1,.ptr 1 0),(6,.win true syS 1122880 0 (List.length (s++qa8 (4:Nat) (gtO l (i:Int).toNat)))),(8,.ptr 8 0),(21,.sl opS l),(22,.i (l.length:Int)),(23,.i (i64.wrap ((i:Int)+1))),(24,.bool (decide ((i:Int)<(l.length:Int)))),(25,.elv opS (gtO l (i:Int).toNat)),(26,.agg (oI (gtO l (i:Int).toNat))),(27,.agg (oI (gtO l (i:Int).toNat))),(28,.ifc (160:Nat) true (oI (gtO l (i:Int).toNat))),(29,.dead),(30,.win true syS 1122880 0 (List.length (s++qa8 (4:Nat) (gtO l (i:Int).toNat)))),(31,.i (i64.wrap ((i:Int)+1)))],blk:=[(1,.var [.bool li,.i m,.i o,.sl opS l]),(8,.var (oI (gtO l (i:Int).toNat))),(1122880,.row 83 syS (s++qa8 (4:Nat) (gtO l (i:Int).toNat)))] }) (Q [.win true syS 19 0 s.length,.i 0] [(1,.var [.bool li,.i m,.i o,.sl opS l]),(19,.row 83 syS s)])):=by kernel_rfl
theorem q36 (li:Bool) (m o:Int) (l:List OpT) (Q:QT) (R:RT):sA CM Tryz.f31 Q R [.code (qae Tryz.f31)] (entry [paS] ((li,m,o,l),())) =
  (R (hd Tryz.f31 0) { env:=[(0,.agg [.bool li,.i m,.i o,.sl opS l]),(1,.ptr 1 0),(2,.i 0),(3,.i 0),(6,.ptr 1 3),(7,.sl opS l),(8,.i (l.length:Int)),(9,.i 0)],blk:=[(1,.var [.bool li,.i m,.i o,.sl opS l])] }):=by kernel_rfl
theorem qn3 (li:Bool) (m o:Int) (l:List OpT) (s:Int) (i:Nat) (Q:QT) (R:RT):sA D1 Tryz.f31 Q R (hd Tryz.f31 0) ⟨[(1,.ptr 1 0),(3,.i s),(7,.sl opS l),(8,.i l.length),(9,.i (i:Nat))],[(1,.var [.bool li,.i m,.i o,.sl opS l])]⟩ =
  (bc (decide ((i:Int)<(l.length:Int))) ((0:Int)<=(i:Int)/\(i:Int)<(l.length:Int)/\(ctO (1:Int) (157:Nat)).pre ((gtO l (i:Int).toNat),())/\(ctC (1:Nat)).pre ((gtO l (i:Int).toNat),())/\R (hd Tryz.f31 0) { env:=[(1,.ptr 1 0),(3,.i (i64.wrap (s+cN (1:Nat) (gtO l (i:Int).toNat)))),(5,.ptr 5 0),(7,.sl opS l),(8,.i (l.length:Int)),(9,.i (i64.wrap ((i:Int)+1))),(10,.bool (decide ((i:Int)<(l.length:Int)))),(11,.elv opS (gtO l (i:Int).toNat)),(12,.agg (oI (gtO l (i:Int).toNat))),(13,.i s),(14,.agg (oI (gtO l (i:Int).toNat))),(15,.ifc (157:Nat) true (oI (gtO l (i:Int).toNat))),(16,.i (cN (1:Nat) (gtO l (i:Int).toNat))),(17,.i (i64.wrap (s+cN (1:Nat) (gtO l (i:Int).toNat)))),(18,.i (i64.wrap ((i:Int)+1)))],blk:=[(1,.var [.bool li,.i m,.i o,.sl opS l]),(5,.var (oI (gtO l (i:Int).toNat)))] }) (Q [.i s] [(1,.var [.bool li,.i m,.i o,.sl opS l])])):=by kernel_rfl
theorem quq (li:Bool) (m o:Int) (l:List OpT) (s:Int) (i:Nat) (Q:QT) (R:RT):sA D2 Tryz.f31 Q R (hd Tryz.f31 0) ⟨[(1,.ptr 1 0),(3,.i s),(7,.sl opS l),(8,.i l.length),(9,.i (i:Nat))],[(1,.var [.bool li,.i m,.i o,.sl opS l])]⟩ =
  (bc (decide ((i:Int)<(l.length:Int))) ((0:Int)<=(i:Int)/\(i:Int)<(l.length:Int)/\(ctO (2:Int) (158:Nat)).pre ((gtO l (i:Int).toNat),())/\(ctC (2:Nat)).pre ((gtO l (i:Int).toNat),())/\R (hd Tryz.f31 0) { env:=[(1,.ptr 1 0),(3,.i (i64.wrap (s+cN (2:Nat) (gtO l (i:Int).toNat)))),(5,.ptr 5 0),(7,.sl opS l),(8,.i (l.length:Int)),(9,.i (i64.wrap ((i:Int)+1))),(10,.bool (decide ((i:Int)<(l.length:Int)))),(11,.elv opS (gtO l (i:Int).toNat)),(12,.agg (oI (gtO l (i:Int).toNat))),(13,.i s),(14,.agg (oI (gtO l (i:Int).toNat))),(15,.ifc (158:Nat) true (oI (gtO l (i:Int).toNat))),(16,.i (cN (2:Nat) (gtO l (i:Int).toNat))),(17,.i (i64.wrap (s+cN (2:Nat) (gtO l (i:Int).toNat)))),(18,.i (i64.wrap ((i:Int)+1)))],blk:=[(1,.var [.bool li,.i m,.i o,.sl opS l]),(5,.var (oI (gtO l (i:Int).toNat)))] }) (Q [.i s] [(1,.var [.bool li,.i m,.i o,.sl opS l])])):=by kernel_rfl
theorem qup (li:Bool) (m o:Int) (l:List OpT) (s:Int) (i:Nat) (Q:QT) (R:RT):sA D3 Tryz.f31 Q R (hd Tryz.f31 0) ⟨[(1,.ptr 1 0),(3,.i s),(7,.sl opS l),(8,.i l.length),(9,.i (i:Nat))],[(1,.var [.bool li,.i m,.i o,.sl opS l])]⟩ =
  (bc (decide ((i:Int)<(l.length:Int))) ((0:Int)<=(i:Int)/\(i:Int)<(l.length:Int)/\(ctO (3:Int) (159:Nat)).pre ((gtO l (i:Int).toNat),())/\(ctC (3:Nat)).pre ((gtO l (i:Int).toNat),())/\R (hd Tryz.f31 0) { env:=[(1,.ptr 1 0),(3,.i (i64.wrap (s+cN (3:Nat) (gtO l (i:Int).toNat)))),(5,.ptr 5 0),(7,.sl opS l),(8,.i (l.length:Int)),(9,.i (i64.wrap ((i:Int)+1))),(10,.bool (decide ((i:Int)<(l.length:Int)))),(11,.elv opS (gtO l (i:Int).toNat)),(12,.agg (oI (gtO l (i:Int).toNat))),(13,.i s),(14,.agg (oI (gtO l (i:Int).toNat))),(15,.ifc (159:Nat) true (oI (gtO l (i:Int).toNat))),(16,.i (cN (3:Nat) (gtO l (i:Int).toNat))),(17,.i (i64.wrap (s+cN (3:Nat) (gtO l (i:Int).toNat)))),(18,.i (i64.wrap ((i:Int)+1)))],blk:=[(1,.var [.bool li,.i m,.i o,.sl opS l]),(5,.var (oI (gtO l (i:Int).toNat)))] }) (Q [.i s] [(1,.var [.bool li,.i m,.i o,.sl opS l])])):=by kernel_rfl
theorem qun (li:Bool) (m o:Int) (l:List OpT) (s:Int) (i:Nat) (Q:QT) (R:RT):sA D4 Tryz.f31 Q R (hd Tryz.f31 0) ⟨[(1,.ptr 1 0),(3,.i s),(7,.sl opS l),(8,.i l.length),(9,.i (i:Nat))],[(1,.var [.bool li,.i m,.i o,.sl opS l])]⟩ =
  (bc (decide ((i:Int)<(l.length:Int))) ((0:Int)<=(i:Int)/\(i:Int)<(l.length:Int)/\(ctO (4:Int) (160:Nat)).pre ((gtO l (i:Int).toNat),())/\(ctC (4:Nat)).pre ((gtO l (i:Int).toNat),())/\R (hd Tryz.f31 0) { env:=[(1,.ptr 1 0),(3,.i (i64.wrap (s+cN (4:Nat) (gtO l (i:Int).toNat)))),(5,.ptr 5 0),(7,.sl opS l),(8,.i (l.length:Int)),(9,.i (i64.wrap ((i:Int)+1))),(10,.bool (decide ((i:Int)<(l.length:Int)))),(11,.elv opS (gtO l (i:Int).toNat)),(12,.agg (oI (gtO l (i:Int).toNat))),(13,.i s),(14,.agg (oI (gtO l (i:Int).toNat))),(15,.ifc (160:Nat) true (oI (gtO l (i:Int).toNat))),(16,.i (cN (4:Nat) (gtO l (i:Int).toNat))),(17,.i (i64.wrap (s+cN (4:Nat) (gtO l (i:Int).toNat)))),(18,.i (i64.wrap ((i:Int)+1)))],blk:=[(1,.var [.bool li,.i m,.i o,.sl opS l]),(5,.var (oI (gtO l (i:Int).toNat)))] }) (Q [.i s] [(1,.var [.bool li,.i m,.i o,.sl opS l])])):=by kernel_rfl
def qcc (x y:OpT):List (Nat × LB):=[(2,.var [.i x.1,.i x.2.1,.i x.2.2.1,.u x.2.2.2.1,.sl uB x.2.2.2.2]),(3,.var [.i y.1,.i y.2.1,.i y.2.2.1,.u y.2.2.2.1,.sl uB y.2.2.2.2])]
theorem quc (x y:OpT) (Q:QT) (R:RT):sA [] Tryz.f57 Q R [.code (qae Tryz.f57)] (entry [opS,opS] (x,y,())) =
  (bc (decide (x.1=y.1)) (bc (decide (x.2.1=y.2.1)) (bc (decide (x.2.2.1=y.2.2.1)) (bc (decide (x.2.2.2.1=y.2.2.2.1)) (Q [.bool (decide (List.map toB x.2.2.2.2=List.map toB y.2.2.2.2))] (qcc x y)) (false=false/\Q [.bool false] (qcc x y))) (false=false/\false=false/\Q [.bool false] (qcc x y))) (false=false/\false=false/\false=false/\Q [.bool false] (qcc x y))) (false=false/\false=false/\false=false/\false=false/\Q [.bool false] (qcc x y))):=by kernel_rfl
theorem vc_r2 (x y:List Int) (Q:QT) (R:RT):sA [] Tryz.f30 Q R [.code (qae Tryz.f30)] (entry [.sl uB,.sl uB] (x,y,())) =
  (bc (decide ((x.length:Int)≠(y.length:Int))) (Q [.bool false] []) (R (hd Tryz.f30 0) { env:=[(0,.sl uB x),(1,.sl uB y),(4,.bool false),(5,.i 0),(6,.sl uB x),(7,.i (x.length:Int)),(8,.sl uB y),(9,.i (y.length:Int)),(10,.bool (decide ((x.length:Int)≠(y.length:Int))))],blk:=[] })):=by kernel_rfl
theorem q17 (x y:List Int) (i:Nat) (Q:QT) (R:RT):sA [] Tryz.f30 Q R (hd Tryz.f30 0) ⟨[(0,.sl uB x),(1,.sl uB y),(5,.i (i:Nat))],[]⟩ =
  (bc (decide ((i:Int)<(x.length:Int))) ((0:Int)<=(i:Int)/\(i:Int)<(x.length:Int)/\(0:Int)<=(i:Int)/\(i:Int)<(y.length:Int)/\bc (decide (gtB x (i:Int).toNat≠gtB y (i:Int).toNat)) (Q [.bool false] []) (R (hd Tryz.f30 0) { env:=[(0,.sl uB x),(1,.sl uB y),(5,.i (i64.wrap ((i:Int)+1))),(11,.i (i:Int)),(12,.sl uB x),(13,.i (x.length:Int)),(14,.bool (decide ((i:Int)<(x.length:Int)))),(15,.i (i:Int)),(16,.i (i64.wrap ((i:Int)+1))),(17,.sl uB x),(18,.i (i:Int)),(19,.elv uB (gtB x (i:Int).toNat)),(20,.u (gtB x (i:Int).toNat)),(21,.sl uB y),(22,.i (i:Int)),(23,.elv uB (gtB y (i:Int).toNat)),(24,.u (gtB y (i:Int).toNat)),(25,.bool (decide (gtB x (i:Int).toNat≠gtB y (i:Int).toNat)))],blk:=[] })) (Q [.bool true] [])):=by kernel_rfl
theorem qoy {l:List Int} {i:Nat} (h:i<l.length):gtB l i=l[i]:=gtE (e:=uB) h
theorem qgo {ct:Ctr} {x:DL ct.args} {rs:List SV} {blk:List (Nat × LB)} {e:Sh} {et:TypeId} {a k:Nat} {z:Int} {xs:List e.D} (h:ct.out x=[.win true e 0 0 xs.length,.i z]) (hr:ct.rows x=[.row et e xs]) (hs:rs=[.win true e a 0 k,.i z]) (hk:k=xs.length) (hb:lk blk a=some (.row et e xs)):QC ct x rs blk:=by
 subst hs;subst hk;refine ⟨λ i=>if i=0 then some a else none,?_,?_,λ i j b h1 h2=>?_,by rw[hr];rfl⟩
 ·rw[h];exact ⟨_,_,rfl,.inl ⟨true,a,rfl,rfl,λ h=>h⟩,_,_,rfl,rfl,rfl⟩
 ·rw[hr];exact ⟨.inl ⟨a,rfl,hb⟩,trivial⟩
 ·simp only at h1 h2;split at h1
  ·split at h2
   ·omega
   ·cases h2
  ·cases h1
theorem qdd {ct:Ctr} {x:DL ct.args} {rs:List SV} {blk:List (Nat × LB)} {e:Sh} {et:TypeId} {z:Int} (h:ct.out x=[.win true e 0 0 0,.i z]) (hr:ct.rows x=[.row et e []]) (hs:rs=[.nils,.i z]) (he:0<e.size):QC ct x rs blk:=by
 subst hs;refine ⟨λ _=>none,?_,?_,λ i j b h1 h2=>?_,by rw[hr];rfl⟩
 ·rw[h];exact ⟨_,_,rfl,.inr ⟨rfl,rfl,rfl,rfl⟩,_,_,rfl,rfl,rfl⟩
 ·rw[hr];exact ⟨.inr ⟨rfl,_,_,rfl,he⟩,trivial⟩
 ·simp at h1
def ruOK (old:List Int) (s:SyT):Bool := !s.1 || (decide (0<=s.2.1)&&decide (s.2.1<old.length))
def ruB (old:List Int) (s:SyT):Int:=if s.1=true then IntKind.u8.wrap (s.2.2+gtB old s.2.1.toNat) else s.2.2
def runV (old:List Int) (l:List SyT):List Int × Int:=if l.all (ruOK old)=true then (l.map (ruB old),0) else ([],61)
def ctRun:Ctr:=⟨[.sl uB,.sl syS],λ x=>List.length x.2.1<16777216,λ x=>[.win true uB 0 0 (runV x.1 x.2.1).1.length,.i (runV x.1 x.2.1).2],λ x=>[.row 5 uB (runV x.1 x.2.1).1]⟩
abbrev RQ (old:List Int) (l:List SyT):List SV->List (Nat × LB)->Prop:=QC ctRun (old,l,())
theorem qvl {old:List Int} {l:List SyT} {i:Nat} (h:i<l.length) (hb:ruOK old l[i]=false):runV old l=([],61):=by
 unfold runV
 rw[if_neg λ q=>by
  have:=List.all_eq_true.1 q l[i] (List.getElem_mem h)
  rw[hb] at this;cases this]
theorem qvk {old:List Int} {l:List SyT} (hb:runV old l=([],61)) {blk:List (Nat × LB)}:RQ old l [.nils,.i 61] blk:=by
 refine qdd (e:=uB) (et:=5) (z:=61) ?_ ?_ rfl (by decide)
 ·show [_,_]=_;rw[hb];rfl
 ·show [_]=_;rw[hb]
theorem qzg (old:List Int) (l:List SyT) (hl:l.length<16777216):∀ (k i:Nat) (b:List Int),l.length-i=k->i<=l.length->b.length=l.length->(∀ j,j<i->b[j]?=(l.map (ruB old))[j]?)->(∀ j (h:j<i) (h2:j<l.length),ruOK old l[j]=true) ->
  GD 98 Tryz.f98 (RQ old l) (hd Tryz.f98 0) ⟨[(0,.sl uB old),(6,.win true uB 11 0 b.length),(12,.sl syS l),(13,.i l.length),(14,.i (i:Nat))],[(11,.row 5 uB b)]⟩:=by
 intro k
 induction k with
 | zero=>
  intro i b hk hi hb hj ho;have hi:i=l.length:=by omega
  subst hi;refine qai cx0 _ _ _ ((qud old b l _ _ _).mpr ?_);rw[decide_eq_false (by omega),bc_f];have hv:runV old l=(l.map (ruB old),0):=by
   unfold runV
   rw[if_pos (List.all_eq_true.2 λ s hs=>by
    obtain ⟨j,hj,rfl⟩:=List.getElem_of_mem hs
    exact ho j hj hj)]
  have hbl:b=l.map (ruB old):=by
   refine List.ext_getElem? λ j=>?_
   by_cases h:j<l.length
   ·exact hj j h
   ·rw[List.getElem?_eq_none (by omega),List.getElem?_eq_none (by rw[List.length_map];omega)]
  refine qgo (e:=uB) (et:=5) (a:=11) (z:=0) (xs:=b) ?_ ?_ rfl rfl rfl
  ·show [_,_]=_;rw[hv,hbl]
  ·show [_]=_;rw[hv,hbl]
 | succ k ih=>
  intro i b hk hi hb hj ho;have hil:i<l.length:=by omega
  refine qai cx0 _ _ _ ((qud old b l i _ _).mpr ?_);rw[decide_eq_true (show (i:Int)<(l.length:Int) by omega),bc_t,Int.toNat_natCast,qi1 hil,IntWalk.i64_in ((i:Int)+1) (by omega),Nat.zero_add];have nx:∀ b':List Int,b'.length=b.length->(∀ j,j≠i->b'[j]?=b[j]?)->b'[i]?=some (ruB old l[i])->ruOK old l[i]=true->GD 98 Tryz.f98 (RQ old l) (hd Tryz.f98 0) ⟨[(0,.sl uB old),(6,.win true uB 11 0 b'.length),(12,.sl syS l),(13,.i l.length),(14,.i ((i+1:Nat):Int))],[(11,.row 5 uB b')]⟩:=λ b' h1 h2 h3 h4=>by
   refine ih (i+1) b' (by omega) (by omega) (by omega) (λ j h=>?_) (λ j h h'=>?_)
   ·by_cases hji:j=i
    ·subst hji;rw[h3,List.getElem?_map,List.getElem?_eq_getElem hil];rfl
    ·rw[h2 j hji];exact hj j (by omega)
   ·by_cases hji:j=i
    ·subst hji;exact h4
    ·exact ho j (by omega) h'
  generalize hs:l[i]=s at nx;obtain ⟨f,a,v⟩:=s;refine ⟨by omega,by omega,by omega,by omega,by omega,qag (λ h=>?_) (λ h=>qag (λ h2=>⟨rfl,?_⟩) (λ h2=>qag (λ h3=>?_) (λ h3=>?_)))⟩
  ·have h:f=false:=by simpa using h
   subst h;refine (nx (b.set i v) (by rw[List.length_set]) (λ j hji=>by rw[List.getElem?_set_ne (by omega)]) (by rw[List.getElem?_set_self (by omega)];rfl) rfl).only ⟨rfl,by rw[List.length_set];rfl,rfl,rfl,rfl,trivial⟩ ⟨rfl,trivial⟩
  ·have h:f=true:=by simpa using h
   subst h;have h2:a<0:=of_decide_eq_true h2;exact qvk (qvl hil (by rw[hs];simp[ruOK];omega))
  ·have h:f=true:=by simpa using h
   subst h;have h3:(old.length:Int)<=a:=of_decide_eq_true h3;exact qvk (qvl hil (by rw[hs];simp[ruOK];omega))
  ·have h:f=true:=by simpa using h
   subst h;have h2:¬ a<0:=of_decide_eq_false h2;have h3:¬ (old.length:Int)<=a:=of_decide_eq_false h3;refine ⟨by omega,by omega,by rw[List.length_set];omega,by show 0<=a;omega,by show a<_;omega,by omega,by omega,by rw[List.length_set];omega,?_⟩;have e:gtB (b.set i v) i=v:=by
    rw[qoy (by rw[List.length_set];omega),List.getElem_set_self]
   rw[e];refine (nx ((b.set i v).set i (IntKind.u8.wrap (v+gtB old a.toNat))) (by rw[List.length_set,List.length_set]) (λ j hji=>by rw[List.getElem?_set_ne (by omega),List.getElem?_set_ne (by omega)]) (by rw[List.getElem?_set_self (by rw[List.length_set];omega)];rfl) (by simp[ruOK];omega)).only ⟨rfl,by rw[List.length_set,List.length_set];rfl,rfl,rfl,rfl,trivial⟩ ⟨rfl,trivial⟩
theorem qzh:Held Tryz.prog G0 98 ctRun:=by
 refine Held.run cx0 (fn:=Tryz.f98) rfl rfl ⟨by decide,by decide⟩ ?_;rintro ⟨old,l,⟨⟩⟩ hp;replace hp:l.length<16777216:=hp;refine (q7e old l _ _).mpr ⟨by omega,by omega,?_,?_,?_⟩
 ·show (l.length:Int)<16777216
  omega
 ·show (1:Int)*(l.length:Int)<=281474976710656
  omega
 ·exact (qzg old l hp _ 0 (List.replicate (l.length:Int).toNat 0) rfl (by omega) (by rw[List.length_replicate,Int.toNat_natCast]) (λ j h=>by omega) (λ j h=>by omega)).only ⟨rfl,by rw[List.length_replicate];rfl,rfl,rfl,rfl,trivial⟩ ⟨rfl,trivial⟩
def ctR2:Ctr:=⟨[.sl uB,.sl uB],λ x=>List.length x.1<1099511627776,λ x=>[.bool (decide ((show List Int from x.1)=x.2.1))],λ _=>[]⟩
theorem q4y (x y:List Int) (hl:x.length<1099511627776) (he:x.length=y.length):∀ (k i:Nat),x.length-i=k->i<=x.length->x.take i=y.take i ->
  GD 30 Tryz.f30 (λ rs _=>rs=[.bool (decide (x=y))]) (hd Tryz.f30 0) ⟨[(0,.sl uB x),(1,.sl uB y),(5,.i (i:Nat))],[]⟩:=by
 intro k
 induction k with
 | zero=>
  intro i hk hi ht;refine qai cx0 _ _ _ ((q17 x y i _ _).mpr ?_);rw[decide_eq_false (show ¬ (i:Int)<(x.length:Int) by omega),bc_f];rw[List.take_of_length_le (by omega),List.take_of_length_le (by omega)] at ht
  show [SV.bool true]=_
  rw[decide_eq_true ht]
 | succ k ih=>
  intro i hk hi ht;have hx:i<x.length:=by omega
  have hy:i<y.length:=by omega
  refine qai cx0 _ _ _ ((q17 x y i _ _).mpr ?_);rw[decide_eq_true (show (i:Int)<(x.length:Int) by omega),bc_t,Int.toNat_natCast,qoy hx,qoy hy,IntWalk.i64_in ((i:Int)+1) (by omega)];refine ⟨by omega,by omega,by omega,by omega,qag (λ h=>?_) (λ h=>?_)⟩
  ·have h:x[i]≠y[i]:=of_decide_eq_true h
   show [SV.bool false]=_
   rw[decide_eq_false (λ q=>h (by simp only[q]))]
  ·have h:¬ x[i]≠y[i]:=of_decide_eq_false h;have h:x[i]=y[i]:=by simpa using h
   exact (ih (i+1) (by omega) (by omega) (by rw[List.take_succ_eq_append_getElem hx,List.take_succ_eq_append_getElem hy,ht,h])).only ⟨rfl,rfl,rfl,trivial⟩ trivial
theorem q4z:Held Tryz.prog G0 30 ctR2:=by
 refine Held.run cx0 (fn:=Tryz.f30) rfl rfl ⟨by decide,by decide⟩ ?_;rintro ⟨x,y,⟨⟩⟩ hp;replace hp:x.length<1099511627776:=hp;refine (vc_r2 x y _ _).mpr (qag (λ h=>?_) (λ h=>?_))
 ·have h:(x.length:Int)≠y.length:=of_decide_eq_true h;refine QC.flat ?_ rfl rfl
  show [SV.bool (decide (x=y))]=_
  rw[decide_eq_false (λ q=>h (by rw[q]))]
 ·have h:¬ (x.length:Int)≠y.length:=of_decide_eq_false h;have h:x.length=y.length:=by omega
  exact ((q4y x y hp h _ 0 rfl (by omega) rfl).post λ rs blk hq=>QC.flat (by rw[hq];rfl) rfl (by rw[hq];rfl)).only ⟨rfl,rfl,rfl,trivial⟩ trivial
def soB (x y:OpT):Bool:=decide (x.1=y.1)&&(decide (x.2.1=y.2.1)&&(decide (x.2.2.1=y.2.2.1)&&(decide (x.2.2.2.1=y.2.2.2.1)&&decide (x.2.2.2.2.map toB=y.2.2.2.2.map toB))))
def ctSO:Ctr:=⟨[opS,opS],λ _=>True,λ x=>[.bool (soB x.1 x.2.1)],λ _=>[]⟩
theorem q4u:Held Tryz.prog G0 57 ctSO:=by
 refine Held.run cx0 (fn:=Tryz.f57) rfl rfl ⟨by decide,by decide⟩ ?_;rintro ⟨x,y,⟨⟩⟩ _;refine (quc x y _ _).mpr ?_
 cases e1:decide (x.1=y.1) <;> cases e2:decide (x.2.1=y.2.1) <;> cases e3:decide (x.2.2.1=y.2.2.1) <;> cases e4:decide (x.2.2.2.1=y.2.2.2.1) <;>
  simp only[bc_t,bc_f,cond_true,cond_false,true_and] <;> exact QC.flat (by simp only[ctSO,soB,e1,e2,e3,e4];rfl) rfl rfl
def ofV (l:List SyT) (m:Int):PaT × Int:=if szB m=true/\szB l.length=true/\l.all (sOK m)=true then (if 4096<(opsL l).length then ((false,0,0,[]),2) else ((false,m,l.length,opsL l),0)) else ((false,0,0,[]),60)
def paV (p:PaT):SV:=.agg [.bool p.1,.i p.2.1,.i p.2.2.1,.sl opS p.2.2.2]
def lenS (l:List OpT):Int:=(l.map λ x=>x.2.2.1).sum
theorem q29 {m N:Int}:∀ {l:List OpT} {left i:Int},(chkF m N l left i).2=0->0<=left->(∀ x∈l,isRB x m=true)/\lenS l=left
 | [],left,i,h,h0=>by
  refine ⟨λ x hx=>by simp at hx,?_⟩;simp only[chkF] at h;split at h
  ·cases h
  ·show (0:Int)=left;omega
 | x::l,left,i,h,h0=>by
  simp only[chkF] at h;split at h
  ·cases h
  next h1=>
   split at h
   ·cases h
   next h2=>
    have hr:isRB x m=true:=by simpa using h1
    have hx:=qer hr;obtain ⟨k1,k2⟩:=q29 h (by omega);refine ⟨λ y hy=>?_,?_⟩
    ·rcases List.mem_cons.1 hy with rfl | hy
     ·exact hr
     ·exact k1 y hy
    ·simp only[lenS,List.map_cons,List.sum_cons] at k2 |-;omega
theorem qd6 {x:OpT} {m:Int} (h:isRB x m=true):(x.1=1\/x.1=2\/x.1=3\/x.1=4)/\(cntO x.1.toNat x:Int)=x.2.2.1:=by
 have hl:=qer h;unfold isRB kR at h;simp only[Bool.and_eq_true,decide_eq_true_eq] at h;obtain ⟨_,_,h⟩:=h;obtain ⟨k,f,n,b,d⟩:=x;simp only at h hl |-;split at h
 next e=>subst e;exact ⟨.inl rfl,by show (n.toNat:Int)=n;omega⟩
 ·split at h
  next e=>subst e;simp only[rB,Bool.and_eq_true,decide_eq_true_eq] at h;exact ⟨.inr (.inl rfl),h.2.2⟩
  ·split at h
   next e=>subst e;exact ⟨.inr (.inr (.inl rfl)),by show (n.toNat:Int)=n;omega⟩
   ·split at h
    next e=>subst e;simp only[rB,Bool.and_eq_true,decide_eq_true_eq] at h;exact ⟨.inr (.inr (.inr rfl)),h.2.2⟩
    ·cases h
theorem qkr (x:OpT) (l:List OpT):lenS (x::l)=x.2.2.1+lenS l:=by simp only[lenS,List.map_cons,List.sum_cons]
theorem qjs {m:Int}:∀ {l:List OpT},(∀ x∈l,isRB x m=true)->0<=lenS l
 | [],_=>Int.le_refl 0
 | x::l,h=>by
  have h1:=qer (h x (by simp));have h2:=qjs (l:=l) λ y hy=>h y (by simp[hy])
  simp only[lenS,List.map_cons,List.sum_cons] at h2 |-;omega
def symF:List OpT->List SyT
 | []=>[]
 | x::l=>qa8 x.1.toNat x++symF l
def symV (p:PaT):List SyT × Int:=if (chkV p).2=0 then (symF p.2.2.2,0) else ([],(chkV p).2)
def ctSym:Ctr:=⟨[paS],λ _=>True,λ x=>[.win true syS 0 0 (symV x.1).1.length,.i (symV x.1).2],λ x=>[.row 83 syS (symV x.1).1]⟩
abbrev SQ (p:PaT):List SV->List (Nat × LB)->Prop:=QC ctSym (p,())
theorem qew {p:PaT} (h:(chkV p).2=0):(∀ x∈p.2.2.2,isRB x p.2.1=true)/\lenS p.2.2.2=p.2.2.1/\(0<=p.2.2.1/\p.2.2.1<=65536)/\p.2.2.2.length<=4096:=by
 unfold chkV at h;split at h
 next hg=>
  have hs:0<=p.2.2.1/\p.2.2.1<=65536:=by
   have:=hg.2.1;unfold szB at this;simpa only[Bool.and_eq_true,decide_eq_true_eq] using this
  obtain ⟨h1,h2⟩:=q29 h hs.1;exact ⟨h1,h2,hs,hg.2.2⟩
 ·cases h
theorem qy2 (li:Bool) (m o:Int) (l:List OpT) (hc:(chkV (li,m,o,l)).2=0):∀ (k i:Nat) (s:List SyT),l.length-i=k->i<=l.length->(s.length:Int)+lenS (l.drop i)<=65536->s++symF (l.drop i)=symF l ->
  GD 63 Tryz.f63 (SQ (li,m,o,l)) (hd Tryz.f63 0) ⟨[(1,.ptr 1 0),(6,.win true syS 19 0 s.length),(21,.sl opS l),(22,.i l.length),(23,.i (i:Nat))],[(1,.var [.bool li,.i m,.i o,.sl opS l]),(19,.row 83 syS s)]⟩:=by
 obtain ⟨hr,hsum,hob,hlen⟩:=qew hc;simp only at hr hsum hob hlen;intro k
 induction k with
 | zero=>
  intro i s hk hi hb hs;have hi:i=l.length:=by omega
  subst hi;refine qai ex1 _ _ _ ((qn0 li m o l s _ _ _).mpr ?_);rw[decide_eq_false (by omega),bc_f];rw[List.drop_length,symF,List.append_nil] at hs;have hv:symV (li,m,o,l)=(s,0):=by unfold symV;rw[if_pos hc,hs]
  refine qgo (e:=syS) (et:=83) (a:=19) (z:=0) (xs:=s) ?_ ?_ rfl rfl rfl
  ·show [_,_]=_;rw[hv]
  ·show [_]=_;rw[hv]
 | succ k ih=>
  intro i s hk hi hb hs;have hil:i<l.length:=by omega
  have hx:=hr l[i] (List.getElem_mem hil);have hk2:=qd6 hx;have hl2:=qer hx;rw[qk7 hil] at hb hs;rw[qkr] at hb;have hb2:(s.length:Int)+(l[i].2.2.1+lenS (l.drop (i+1)))<=65536:=hb;have hpos:0<=lenS (l.drop (i+1)):=qjs λ y hy=>hr y (List.mem_of_mem_drop hy)
  have hcl:(qa8 l[i].1.toNat l[i]).length=cntO l[i].1.toNat l[i]:=by unfold qa8;exact qnh _ _ _
  have hpre:preA l[i].1.toNat l[i] s:=⟨by omega,by omega,by omega⟩;have nx:GD 63 Tryz.f63 (SQ (li,m,o,l)) (hd Tryz.f63 0) ⟨[(1,.ptr 1 0),(6,.win true syS 19 0 (s++qa8 l[i].1.toNat l[i]).length),(21,.sl opS l),(22,.i l.length),(23,.i ((i+1:Nat):Int))],[(1,.var [.bool li,.i m,.i o,.sl opS l]),(19,.row 83 syS (s++qa8 l[i].1.toNat l[i]))]⟩:=
   ih (i+1) _ (by omega) (by omega) (by rw[List.length_append];omega) (by rw[List.append_assoc];exact hs)
  have wi:IntKind.i64.wrap ((i:Int)+1)=((i+1:Nat):Int):=by rw[IntWalk.i64_in _ (by omega)];omega
  rcases hk2.1 with e | e | e | e
  ·rw[e] at hpre nx;refine qai ex1 _ _ _ ((qn0 li m o l s i _ _).mpr ?_);rw[decide_eq_true (show (i:Int)<(l.length:Int) by omega),bc_t,Int.toNat_natCast,qfl hil,wi];exact ⟨by omega,by omega,e,rfl,hpre,nx.onlyR [(19,1122880)] rfl ⟨rfl,rfl,rfl,rfl,rfl,trivial⟩ ⟨rfl,rfl,trivial⟩⟩
  ·rw[e] at hpre nx;refine qai ex2 _ _ _ ((qua li m o l s i _ _).mpr ?_);rw[decide_eq_true (show (i:Int)<(l.length:Int) by omega),bc_t,Int.toNat_natCast,qfl hil,wi];exact ⟨by omega,by omega,e,rfl,hpre,nx.onlyR [(19,1122880)] rfl ⟨rfl,rfl,rfl,rfl,rfl,trivial⟩ ⟨rfl,rfl,trivial⟩⟩
  ·rw[e] at hpre nx;refine qai ex3 _ _ _ ((qt9 li m o l s i _ _).mpr ?_);rw[decide_eq_true (show (i:Int)<(l.length:Int) by omega),bc_t,Int.toNat_natCast,qfl hil,wi];exact ⟨by omega,by omega,e,rfl,hpre,nx.onlyR [(19,1122880)] rfl ⟨rfl,rfl,rfl,rfl,rfl,trivial⟩ ⟨rfl,rfl,trivial⟩⟩
  ·rw[e] at hpre nx;refine qai ex4 _ _ _ ((qt8 li m o l s i _ _).mpr ?_);rw[decide_eq_true (show (i:Int)<(l.length:Int) by omega),bc_t,Int.toNat_natCast,qfl hil,wi];exact ⟨by omega,by omega,e,rfl,hpre,nx.onlyR [(19,1122880)] rfl ⟨rfl,rfl,rfl,rfl,rfl,trivial⟩ ⟨rfl,rfl,trivial⟩⟩
theorem sym_held:Held Tryz.prog G0 63 ctSym:=by
 refine Held.run cxA (fn:=Tryz.f63) rfl rfl ⟨by decide,by decide⟩ ?_;rintro ⟨⟨li,m,o,l⟩,⟨⟩⟩ _;refine (q3j li m o l _ _).mpr ⟨trivial,qag (λ h=>?_) (λ h=>?_)⟩
 ·have h:(chkV (li,m,o,l)).2≠0:=of_decide_eq_true h;have hv:symV (li,m,o,l)=([],(chkV (li,m,o,l)).2):=by unfold symV;rw[if_neg h]
  refine qdd (e:=syS) (et:=83) (z:=(chkV (li,m,o,l)).2) ?_ ?_ rfl (by decide)
  ·show [_,_]=_;rw[hv];rfl
  ·show [_]=_;rw[hv]
 ·have h:¬ (chkV (li,m,o,l)).2≠0:=of_decide_eq_false h;have h:(chkV (li,m,o,l)).2=0:=by simpa using h
  obtain ⟨hr,hsum,hob,hlen⟩:=qew h;simp only at hr hsum hob hlen;refine ⟨Int.le_refl 0,hob.1,?_,?_,?_⟩
  ·exact Int.lt_of_le_of_lt hob.2 (by decide)
  ·exact Int.le_trans (Int.mul_le_mul_of_nonneg_left hob.2 (by decide)) (by decide)
  ·exact (qy2 li m o l h _ 0 [] rfl (by omega) (by rw[List.drop_zero,hsum];simpa using hob.2) rfl).only ⟨rfl,rfl,rfl,rfl,rfl,trivial⟩ ⟨rfl,rfl,trivial⟩
def qgb:Int->List OpT->Int
 | s,[]=>s
 | s,x::l=>qgb (IntKind.i64.wrap (s+cN x.1.toNat x)) l
def k14 (x:OpT):Prop:=x.1=1\/x.1=2\/x.1=3\/x.1=4
def ctCost:Ctr:=⟨[paS],λ x=>(∀ y∈x.1.2.2.2,k14 y)/\List.length x.1.2.2.2<1099511627776,λ x=>[.i (qgb 0 x.1.2.2.2)],λ _=>[]⟩
theorem qxx (li:Bool) (m o:Int) (l:List OpT) (hr:∀ y∈l,k14 y) (hl:l.length<1099511627776):∀ (k i:Nat) (s:Int),l.length-i=k->i<=l.length ->
  GD 31 Tryz.f31 (λ rs _=>rs=[.i (qgb s (l.drop i))]) (hd Tryz.f31 0) ⟨[(1,.ptr 1 0),(3,.i s),(7,.sl opS l),(8,.i l.length),(9,.i (i:Nat))],[(1,.var [.bool li,.i m,.i o,.sl opS l])]⟩:=by
 intro k
 induction k with
 | zero=>
  intro i s hk hi;have hi:i=l.length:=by omega
  subst hi;refine qai dx1 _ _ _ ((qn3 li m o l s _ _ _).mpr ?_);rw[decide_eq_false (by omega),bc_f,List.drop_length];rfl
 | succ k ih=>
  intro i s hk hi;have hil:i<l.length:=by omega
  have hx:=hr l[i] (List.getElem_mem hil);have nx:=ih (i+1) (IntKind.i64.wrap (s+cN l[i].1.toNat l[i])) (by omega) (by omega);rw[qk7 hil,qgb];have wi:IntKind.i64.wrap ((i:Int)+1)=((i+1:Nat):Int):=by rw[IntWalk.i64_in _ (by omega)];omega
  rcases hx with e | e | e | e
  ·rw[e] at nx;rw[e];refine qai dx1 _ _ _ ((qn3 li m o l s i _ _).mpr ?_);rw[decide_eq_true (show (i:Int)<(l.length:Int) by omega),bc_t,Int.toNat_natCast,qfl hil,wi];exact ⟨by omega,by omega,e,trivial,nx.only ⟨rfl,rfl,rfl,rfl,rfl,trivial⟩ ⟨rfl,trivial⟩⟩
  ·rw[e] at nx;rw[e];refine qai dx2 _ _ _ ((quq li m o l s i _ _).mpr ?_);rw[decide_eq_true (show (i:Int)<(l.length:Int) by omega),bc_t,Int.toNat_natCast,qfl hil,wi];exact ⟨by omega,by omega,e,trivial,nx.only ⟨rfl,rfl,rfl,rfl,rfl,trivial⟩ ⟨rfl,trivial⟩⟩
  ·rw[e] at nx;rw[e];refine qai dx3 _ _ _ ((qup li m o l s i _ _).mpr ?_);rw[decide_eq_true (show (i:Int)<(l.length:Int) by omega),bc_t,Int.toNat_natCast,qfl hil,wi];exact ⟨by omega,by omega,e,trivial,nx.only ⟨rfl,rfl,rfl,rfl,rfl,trivial⟩ ⟨rfl,trivial⟩⟩
  ·rw[e] at nx;rw[e];refine qai dx4 _ _ _ ((qun li m o l s i _ _).mpr ?_);rw[decide_eq_true (show (i:Int)<(l.length:Int) by omega),bc_t,Int.toNat_natCast,qfl hil,wi];exact ⟨by omega,by omega,e,trivial,nx.only ⟨rfl,rfl,rfl,rfl,rfl,trivial⟩ ⟨rfl,trivial⟩⟩
theorem qxy:Held Tryz.prog G0 31 ctCost:=by
 refine Held.run cxM (fn:=Tryz.f31) rfl rfl ⟨by decide,by decide⟩ ?_;rintro ⟨⟨li,m,o,l⟩,⟨⟩⟩ hp;obtain ⟨h1,h2⟩:(∀ y∈l,k14 y)/\l.length<1099511627776:=hp;refine (q36 li m o l _ _).mpr ?_;exact ((qxx li m o l h1 h2 _ 0 0 rfl (by omega)).post λ rs blk hq=>QC.flat (by rw[hq];rfl) rfl (by rw[hq];rfl)).only ⟨rfl,rfl,rfl,rfl,rfl,trivial⟩ ⟨rfl,trivial⟩
def CP:CV:=[(98,.inl ctRun)]
theorem cxP:CxOK Tryz.prog tt G0 CP:=cx0.k qzh (fn:=Tryz.f98)
def CS:CV:=[(57,.inl ctSO)]
theorem cxS:CxOK Tryz.prog tt G0 CS:=cx0.k q4u (fn:=Tryz.f57)
set_option maxRecDepth 100000
theorem qyj (old:List Int) (m:Int) (l:List SyT) (Q:QT) (R:RT):sA CP Tryz.f65 Q R [.code (qae Tryz.f65)] (entry [.sl uB,iI,.sl syS] (old,m,l,())) =
  (bc (decide ((old.length:Int)≠m)) (Q [.nils,.i 61] []) (ctRun.pre (old,l,())/\Q [.win true uB 1057344 0 (runV old l).1.length,.i (runV old l).2] [(1057344,.row 5 uB (runV old l).1)])):=by kernel_rfl
def qen (li li2:Bool) (m o m2 o2:Int) (l l2:List OpT):List (Nat × LB):=[(2,.var [.bool li,.i m,.i o,.sl opS l]),(3,.var [.bool li2,.i m2,.i o2,.sl opS l2])]
theorem q3l (li li2:Bool) (m o m2 o2:Int) (l l2:List OpT) (Q:QT) (R:RT):sA CS Tryz.f20 Q R [.code (qae Tryz.f20)] (entry [paS,paS] ((li,m,o,l),(li2,m2,o2,l2),())) =
  (bc (!li == li2) (true=true/\true=true/\true=true/\Q [.bool false] (qen li li2 m o m2 o2 l l2)) (bc (bif false then true else decide (m≠m2)) (true=true/\true=true/\Q [.bool false] (qen li li2 m o m2 o2 l l2)) (bc (bif false then true else decide (o≠o2)) (true=true/\Q [.bool false] (qen li li2 m o m2 o2 l l2)) (bc (bif false then true else decide ((l.length:Int)≠(l2.length:Int))) (Q [.bool false] (qen li li2 m o m2 o2 l l2)) (R (hd Tryz.f20 0) { env:=[(0,.agg [.bool li,.i m,.i o,.sl opS l]),(1,.agg [.bool li2,.i m2,.i o2,.sl opS l2]),(2,.ptr 2 0),(3,.ptr 3 0),(4,.bool false),(5,.i 0),(6,.ptr 2 0),(7,.bool li),(8,.ptr 3 0),(9,.bool li2),(10,.bool !li == li2),(11,.bool false),(12,.ptr 2 1),(13,.i m),(14,.ptr 3 1),(15,.i m2),(16,.bool (decide (m≠m2))),(17,.bool (bif false then true else decide (m≠m2))),(18,.bool false),(19,.ptr 2 2),(20,.i o),(21,.ptr 3 2),(22,.i o2),(23,.bool (decide (o≠o2))),(24,.bool (bif false then true else decide (o≠o2))),(25,.bool false),(26,.ptr 2 3),(27,.sl opS l),(28,.i (l.length:Int)),(29,.ptr 3 3),(30,.sl opS l2),(31,.i (l2.length:Int)),(32,.bool (decide ((l.length:Int)≠(l2.length:Int)))),(33,.bool (bif false then true else decide ((l.length:Int)≠(l2.length:Int))))],blk:=[(2,.var [.bool li,.i m,.i o,.sl opS l]),(3,.var [.bool li2,.i m2,.i o2,.sl opS l2])] }))))):=by kernel_rfl
def qiy (li li2:Bool) (m o m2 o2:Int) (l l2:List OpT):List (Nat × LB):=[(2,.var [.bool li,.i m,.i o,.sl opS l]),(3,.var [.bool li2,.i m2,.i o2,.sl opS l2])]
theorem qqy (li li2:Bool) (m o m2 o2:Int) (l l2:List OpT) (i:Nat) (Q:QT) (R:RT):sA CS Tryz.f20 Q R (hd Tryz.f20 0) ⟨[(2,.ptr 2 0),(3,.ptr 3 0),(5,.i (i:Nat))],[(2,.var [.bool li,.i m,.i o,.sl opS l]),(3,.var [.bool li2,.i m2,.i o2,.sl opS l2])]⟩ =
  (bc (decide ((i:Int)<(l.length:Int))) ((0:Int)<=(i:Int)/\(i:Int)<(l.length:Int)/\(0:Int)<=(i:Int)/\(i:Int)<(l2.length:Int)/\ctSO.pre ((gtO l (i:Int).toNat),(gtO l2 (i:Int).toNat),())/\bc (!soB (gtO l (i:Int).toNat) (gtO l2 (i:Int).toNat)) (Q [.bool false] (qiy li li2 m o m2 o2 l l2)) (R (hd Tryz.f20 0) { env:=[(2,.ptr 2 0),(3,.ptr 3 0),(5,.i (IntKind.i64.wrap ((i:Int)+1))),(34,.i (i:Int)),(35,.ptr 2 3),(36,.sl opS l),(37,.i (l.length:Int)),(38,.bool (decide ((i:Int)<(l.length:Int)))),(39,.i (i:Int)),(40,.i (IntKind.i64.wrap ((i:Int)+1))),(41,.ptr 2 3),(42,.sl opS l),(43,.i (i:Int)),(44,.elv opS (gtO l (i:Int).toNat)),(45,.agg (oI (gtO l (i:Int).toNat))),(46,.ptr 3 3),(47,.sl opS l2),(48,.i (i:Int)),(49,.elv opS (gtO l2 (i:Int).toNat)),(50,.agg (oI (gtO l2 (i:Int).toNat))),(51,.bool (soB (gtO l (i:Int).toNat) (gtO l2 (i:Int).toNat))),(52,.bool !soB (gtO l (i:Int).toNat) (gtO l2 (i:Int).toNat))],blk:=[(2,.var [.bool li,.i m,.i o,.sl opS l]),(3,.var [.bool li2,.i m2,.i o2,.sl opS l2])] })) (Q [.bool true] (qiy li li2 m o m2 o2 l l2))):=by kernel_rfl
def plV (old:List Int) (m:Int) (l:List SyT):List Int × Int:=if (old.length:Int)=m then runV old l else ([],61)
def ctPl:Ctr:=⟨[.sl uB,iI,.sl syS],λ x=>List.length x.2.2.1<16777216,λ x=>[.win true uB 0 0 (plV x.1 x.2.1 x.2.2.1).1.length,.i (plV x.1 x.2.1 x.2.2.1).2],λ x=>[.row 5 uB (plV x.1 x.2.1 x.2.2.1).1]⟩
theorem q46:Held Tryz.prog G0 65 ctPl:=by
 refine Held.run cxP (fn:=Tryz.f65) rfl rfl ⟨by decide,by decide⟩ ?_;rintro ⟨old,m,l,⟨⟩⟩ hp;replace hp:l.length<16777216:=hp;refine (qyj old m l _ _).mpr (qag (λ h=>?_) (λ h=>⟨hp,?_⟩))
 ·have h:(old.length:Int)≠m:=of_decide_eq_true h;have hv:plV old m l=([],61):=if_neg h;refine qdd (e:=uB) (et:=5) (z:=61) ?_ ?_ rfl (by decide)
  ·show [_,_]=_;rw[hv];rfl
  ·show [_]=_;rw[hv]
 ·have h:¬ (old.length:Int)≠m:=of_decide_eq_false h;have h:(old.length:Int)=m:=by simpa using h
  have hv:plV old m l=runV old l:=if_pos h;refine qgo (e:=uB) (et:=5) (a:=1057344) (z:=(runV old l).2) (xs:=(runV old l).1) ?_ ?_ rfl rfl rfl
  ·show [_,_]=_;rw[hv]
  ·show [_]=_;rw[hv]
theorem qfv {m:Int}:∀ {l:List OpT},(∀ x∈l,isRB x m=true)->((symF l).length:Int)=lenS l
 | [],_=>rfl
 | x::l,h=>by
  have h1:=qd6 (h x (by simp));have h2:=qfv (l:=l) λ y hy=>h y (by simp[hy])
  have hcl:(qa8 x.1.toNat x).length=cntO x.1.toNat x:=by unfold qa8;exact qnh _ _ _
  rw[qkr,symF,List.length_append,hcl];omega
theorem qy3 (p:PaT):(symV p).1.length<16777216:=by
 unfold symV;split
 next h=>obtain ⟨h1,h2,h3,_⟩:=qew h;have:=qfv h1;have h4:=h3.2;simp only;omega
 ·show 0<16777216
  decide
def smL:List OpT->List OpT->Bool
 | [],[]=>true
 | x::l,y::m=>soB x y&&smL l m
 | _,_=>false
def smB (p q:PaT):Bool:=(p.1 == q.1)&&(decide (p.2.1=q.2.1)&&(decide (p.2.2.1=q.2.2.1)&&(decide (p.2.2.2.length=q.2.2.2.length)&&smL p.2.2.2 q.2.2.2)))
def ctSm:Ctr:=⟨[paS,paS],λ x=>List.length x.1.2.2.2<1099511627776,λ x=>[.bool (smB x.1 x.2.1)],λ _=>[]⟩
theorem q4v (li li2:Bool) (m o m2 o2:Int) (l l2:List OpT) (hl:l.length<1099511627776) (he:l.length=l2.length):∀ (k i:Nat),l.length-i=k->i<=l.length ->
  GD 20 Tryz.f20 (λ rs _=>rs=[.bool (smL (l.drop i) (l2.drop i))]) (hd Tryz.f20 0) ⟨[(2,.ptr 2 0),(3,.ptr 3 0),(5,.i (i:Nat))],[(2,.var [.bool li,.i m,.i o,.sl opS l]),(3,.var [.bool li2,.i m2,.i o2,.sl opS l2])]⟩:=by
 intro k
 induction k with
 | zero=>
  intro i hk hi;have hi:i=l.length:=by omega
  subst hi;refine qai cxS _ _ _ ((qqy li li2 m o m2 o2 l l2 _ _ _).mpr ?_);rw[decide_eq_false (by omega),bc_f,List.drop_length,he,List.drop_length];rfl
 | succ k ih=>
  intro i hk hi;have hx:i<l.length:=by omega
  have hy:i<l2.length:=by omega
  refine qai cxS _ _ _ ((qqy li li2 m o m2 o2 l l2 i _ _).mpr ?_);rw[decide_eq_true (show (i:Int)<(l.length:Int) by omega),bc_t,Int.toNat_natCast,qfl hx,qfl hy,IntWalk.i64_in ((i:Int)+1) (by omega),qk7 hx,qk7 hy,smL];refine ⟨by omega,by omega,by omega,by omega,trivial,qag (λ h=>?_) (λ h=>?_)⟩
  ·have h:soB l[i] l2[i]=false:=by simpa using h
   rw[h];rfl
  ·have h:soB l[i] l2[i]=true:=by simpa using h
   rw[h];exact (ih (i+1) (by omega) (by omega)).only ⟨rfl,rfl,rfl,trivial⟩ ⟨rfl,rfl,trivial⟩
theorem qvc:Held Tryz.prog G0 20 ctSm:=by
 refine Held.run cxS (fn:=Tryz.f20) rfl rfl ⟨by decide,by decide⟩ ?_;rintro ⟨⟨li,m,o,l⟩,⟨li2,m2,o2,l2⟩,⟨⟩⟩ hp;replace hp:l.length<1099511627776:=hp;refine (q3l li li2 m o m2 o2 l l2 _ _).mpr ?_
 cases e0:(li == li2)
 ·exact ⟨rfl,rfl,rfl,QC.flat (by show [SV.bool (smB _ _)]=_;simp only[smB,e0];rfl) rfl rfl⟩
 ·rw[Bool.not_true,bc_f];refine qag (λ h=>⟨rfl,rfl,?_⟩) (λ h=>qag (λ h2=>⟨rfl,?_⟩) (λ h2=>qag (λ h3=>?_) (λ h3=>?_)))
  ·have h:m≠m2:=of_decide_eq_true h;exact QC.flat (by show [SV.bool (smB _ _)]=_;simp only[smB,e0,decide_eq_false h];rfl) rfl rfl
  ·have h2:o≠o2:=of_decide_eq_true h2;exact QC.flat (by show [SV.bool (smB _ _)]=_;simp only[smB,e0,decide_eq_false h2,Bool.false_and,Bool.and_false]) rfl rfl
  ·have h3:(l.length:Int)≠l2.length:=of_decide_eq_true h3;have h3:¬ l.length=l2.length:=by omega
   exact QC.flat (by show [SV.bool (smB _ _)]=_;simp only[smB,e0,decide_eq_false h3,Bool.false_and,Bool.and_false]) rfl rfl
  ·have h:m=m2:=by
    have h:¬ m≠m2:=of_decide_eq_false h;simpa using h
   have h2:o=o2:=by
    have h2:¬ o≠o2:=of_decide_eq_false h2;simpa using h2
   have h3:l.length=l2.length:=by
    have h3:¬ (l.length:Int)≠l2.length:=of_decide_eq_false h3;omega
   refine ((q4v li li2 m o m2 o2 l l2 hp h3 _ 0 rfl (by omega)).post λ rs blk hq=>QC.flat ?_ rfl (by rw[hq];rfl)).only ⟨rfl,rfl,rfl,trivial⟩ ⟨rfl,rfl,trivial⟩;rw[hq]
   show [SV.bool (smB _ _)]=_
   simp only[smB,e0,decide_eq_true h,decide_eq_true h2,decide_eq_true h3,Bool.true_and];rfl
theorem qyp (x:List Int) (n:Int) (Q:QT) (R:RT):sA [] Tryz.f26 Q R [.code (qae Tryz.f26)] (entry [.sl uB,iI] (x,n,())) =
  (R (hd Tryz.f26 0) { env:=[(0,.sl uB x),(1,.i n),(4,.nils),(5,.win true uB 8 0 (0:Nat)),(6,.i 0),(8,.win true uB 8 0 (0:Nat))],blk:=[(8,.row 5 uB (List.replicate (0:Nat) uB.dflt))] }):=by kernel_rfl
theorem qn1 (x o:List Int) (n:Int) (i:Nat) (Q:QT) (R:RT):sA [] Tryz.f26 Q R (hd Tryz.f26 0) ⟨[(0,.sl uB x),(1,.i n),(5,.win true uB 5 0 o.length),(6,.i (i:Nat))],[(5,.row 5 uB o)]⟩ =
  (bc (decide ((i:Int)<n)) (bc (decide ((i:Int)<(x.length:Int))) ((0:Int)<=(i:Int)/\(i:Int)<(x.length:Int)/\(0:Nat)+1<=([(gtB x (i:Int).toNat)]:List uB.D).length/\o.length=o.length/\(0:Nat)=(0:Nat)/\o.length+(([(gtB x (i:Int).toNat)]:List uB.D)).length<2 ^ 30/\(1:Nat)<=2 ^ 10/\R (hd Tryz.f26 0) { env:=[(0,.sl uB x),(1,.i n),(5,.win true uB 28 0 (o.length+(([(gtB x (i:Int).toNat)]:List uB.D)).length)),(6,.i (i64.wrap ((i:Int)+1))),(7,.u (gtB x (i:Int).toNat)),(9,.i (i:Int)),(10,.i n),(11,.bool (decide ((i:Int)<n))),(12,.i (i:Int)),(13,.i (i64.wrap ((i:Int)+1))),(14,.i (i:Int)),(15,.i (i64.wrap ((7:Int)*(i:Int)))),(16,.u (u8.wrap (i64.wrap ((7:Int)*(i:Int))))),(17,.i (i:Int)),(18,.sl uB x),(19,.i (x.length:Int)),(20,.bool (decide ((i:Int)<(x.length:Int)))),(21,.sl uB x),(22,.i (i:Int)),(23,.elv uB (gtB x (i:Int).toNat)),(24,.u (gtB x (i:Int).toNat)),(25,.dead),(26,.u (gtB x (i:Int).toNat)),(27,.win true uB 27 0 (1:Nat)),(28,.win true uB 28 0 (o.length+(([(gtB x (i:Int).toNat)]:List uB.D)).length))],blk:=[(27,.row 5 uB ([(gtB x (i:Int).toNat)]:List uB.D)),(28,.row 5 uB (o++([(gtB x (i:Int).toNat)]:List uB.D)))] }) ((0:Nat)+1<=([(u8.wrap (i64.wrap ((7:Int)*(i:Int))))]:List uB.D).length/\o.length=o.length/\(0:Nat)=(0:Nat)/\o.length+(([(u8.wrap (i64.wrap ((7:Int)*(i:Int))))]:List uB.D)).length<2 ^ 30/\(1:Nat)<=2 ^ 10/\R (hd Tryz.f26 0) { env:=[(0,.sl uB x),(1,.i n),(5,.win true uB 28 0 (o.length+(([(u8.wrap (i64.wrap ((7:Int)*(i:Int))))]:List uB.D)).length)),(6,.i (i64.wrap ((i:Int)+1))),(7,.u (u8.wrap (i64.wrap ((7:Int)*(i:Int))))),(9,.i (i:Int)),(10,.i n),(11,.bool (decide ((i:Int)<n))),(12,.i (i:Int)),(13,.i (i64.wrap ((i:Int)+1))),(14,.i (i:Int)),(15,.i (i64.wrap ((7:Int)*(i:Int)))),(16,.u (u8.wrap (i64.wrap ((7:Int)*(i:Int))))),(17,.i (i:Int)),(18,.sl uB x),(19,.i (x.length:Int)),(20,.bool (decide ((i:Int)<(x.length:Int)))),(25,.dead),(26,.u (u8.wrap (i64.wrap ((7:Int)*(i:Int))))),(27,.win true uB 27 0 (1:Nat)),(28,.win true uB 28 0 (o.length+(([(u8.wrap (i64.wrap ((7:Int)*(i:Int))))]:List uB.D)).length))],blk:=[(27,.row 5 uB ([(u8.wrap (i64.wrap ((7:Int)*(i:Int))))]:List uB.D)),(28,.row 5 uB (o++([(u8.wrap (i64.wrap ((7:Int)*(i:Int))))]:List uB.D)))] })) (Q [.win true uB 5 0 o.length] [(5,.row 5 uB o)])):=by kernel_rfl
theorem qvy {ct:Ctr} {x:DL ct.args} {rs:List SV} {blk:List (Nat × LB)} {e:Sh} {et:TypeId} {a k:Nat} {xs:List e.D} (h:ct.out x=[.win true e 0 0 xs.length]) (hr:ct.rows x=[.row et e xs]) (hs:rs=[.win true e a 0 k]) (hk:k=xs.length) (hb:lk blk a=some (.row et e xs)):QC ct x rs blk:=by
 subst hs;subst hk;refine ⟨λ i=>if i=0 then some a else none,?_,?_,λ i j b h1 h2=>?_,by rw[hr];rfl⟩
 ·rw[h];exact ⟨_,_,rfl,.inl ⟨true,a,rfl,rfl,λ h=>h⟩,rfl⟩
 ·rw[hr];exact ⟨.inl ⟨a,rfl,hb⟩,trivial⟩
 ·simp only at h1 h2;split at h1
  ·split at h2
   ·omega
   ·cases h2
  ·cases h1
def inB (x:List Int) (i:Nat):Int:=if i<x.length then gtB x i else IntKind.u8.wrap (IntKind.i64.wrap (7*(i:Int)))
def inpL (x:List Int) (n:Nat):List Int:=(List.range n).map (inB x)
theorem qr2 (x:List Int) (n:Nat):(inpL x n).length=n:=by simp[inpL]
theorem qxb (x:List Int) (i:Nat):inpL x (i+1)=inpL x i++[inB x i]:=by simp[inpL,List.range_succ]
def preI (n:Int):Prop:=0<=n/\n<16777216
def q9e:Ctr:=⟨[.sl uB,iI],λ x=>preI x.2.1,λ x=>[.win true uB 0 0 (inpL x.1 x.2.1.toNat).length],λ x=>[.row 5 uB (inpL x.1 x.2.1.toNat)]⟩
abbrev IQ (x:List Int) (n:Int):List SV->List (Nat × LB)->Prop:=QC q9e (x,n,())
theorem q0k (x:List Int) (n:Nat) (hn:n<16777216):∀ (k i:Nat),n-i=k->i<=n ->
  GD 26 Tryz.f26 (IQ x n) (hd Tryz.f26 0) ⟨[(0,.sl uB x),(1,.i (n:Nat)),(5,.win true uB 5 0 (inpL x i).length),(6,.i (i:Nat))],[(5,.row 5 uB (inpL x i))]⟩:=by
 intro k
 induction k with
 | zero=>
  intro i hk hi;have hi:i=n:=by omega
  subst hi;refine qai cx0 _ _ _ ((qn1 x (inpL x i) (i:Int) i _ _).mpr ?_);rw[decide_eq_false (by omega),bc_f];exact qvy (e:=uB) (et:=5) (a:=5) (xs:=inpL x i) rfl rfl rfl rfl rfl
 | succ k ih=>
  intro i hk hi;have nx:=ih (i+1) (by omega) (by omega);have hlen:=qr2 x i;rw[qxb] at nx;refine qai cx0 _ _ _ ((qn1 x (inpL x i) (n:Int) i _ _).mpr ?_);rw[decide_eq_true (show (i:Int)<(n:Int) by omega),bc_t,Int.toNat_natCast,IntWalk.i64_in ((i:Int)+1) (by omega)];refine qag (λ h=>?_) (λ h=>?_)
  ·have h:i<x.length:=by have:=of_decide_eq_true h;omega
   have e:inB x i=gtB x i:=if_pos h;rw[e] at nx;refine ⟨by omega,by omega,Nat.le_refl 1,rfl,rfl,(show (inpL x i).length+1<2 ^ 30 by omega),by decide,?_⟩;exact nx.onlyR [(5,28)] rfl ⟨rfl,rfl,by rw[List.length_append];rfl,rfl,trivial⟩ ⟨rfl,trivial⟩
  ·have h:¬ i<x.length:=by have:=of_decide_eq_false h;omega
   have e:inB x i=IntKind.u8.wrap (IntKind.i64.wrap (7*(i:Int))):=if_neg h;rw[e] at nx;refine ⟨Nat.le_refl 1,rfl,rfl,(show (inpL x i).length+1<2 ^ 30 by omega),by decide,?_⟩;exact nx.onlyR [(5,28)] rfl ⟨rfl,rfl,by rw[List.length_append];rfl,rfl,trivial⟩ ⟨rfl,trivial⟩
theorem inp_held:Held Tryz.prog G0 26 q9e:=by
 refine Held.run cx0 (fn:=Tryz.f26) rfl rfl ⟨by decide,by decide⟩ ?_;rintro ⟨x,n,⟨⟩⟩ hp;obtain ⟨h0,h1⟩:preI n:=hp;obtain ⟨N,rfl⟩:=Int.eq_ofNat_of_zero_le h0;refine (qyp x (N:Int) _ _).mpr ?_;exact (q0k x N (by omega) _ 0 rfl (by omega)).onlyR [(5,8)] rfl ⟨rfl,rfl,rfl,rfl,trivial⟩ ⟨rfl,trivial⟩
theorem vc_op (x:List Int) (n:Int) (Q:QT) (R:RT):sA [] Tryz.f81 Q (λ it S=>R it (qbr [2,4,5,6] [2,4,5] S)) [.code (qae Tryz.f81)] (entry [.arr 4 uB,iI] (x,n,())) =
  ((0:Int)<=0/\(0:Int)<(↑(4:Nat):Int)/\0<4/\(4:Int)≠0/\(0:Int)<=2/\(2:Int)<(↑(4:Nat):Int)/\2<4/\(5:Int)≠0/\bc (decide (i64.wrap ((1:Int)+(i64.wrap (gtB x (0))).tmod (4:Int))<=2)) (bc (decide (n=(0:Int))) (R (hd Tryz.f81 0) { env:=[(2,.ptr 2 0),(4,.ptr 4 0),(5,.ptr 5 0),(6,.i 0)],blk:=[(2,.var [.arr (4:Nat) uB x]),(4,.var [.i 0,.i 0,.i 0,.u 0,.nils]),(5,.var [.i 4,.i 0,.i (i64.wrap ((1:Int)+(i64.wrap (gtB x (2))).tmod (5:Int))),.u 0,.nils])] }) ((0:Int)<=1/\(1:Int)<(↑(4:Nat):Int)/\1<4/\n≠0/\(0:Int)<=2/\(2:Int)<(↑(4:Nat):Int)/\2<4/\i64.wrap (n-(i64.wrap (gtB x (1))).tmod n)≠0/\(5:Int)≠0/\bc (decide (i64.wrap ((1:Int)+(i64.wrap (gtB x (0))).tmod (4:Int))=(3:Int))) ((0:Int)<=3/\(3:Int)<(↑(4:Nat):Int)/\3<4/\R (hd Tryz.f81 0) { env:=[(2,.ptr 2 0),(4,.ptr 4 0),(5,.ptr 5 0),(6,.i 0)],blk:=[(2,.var [.arr (4:Nat) uB x]),(4,.var [.i 0,.i 0,.i 0,.u 0,.nils]),(5,.var [.i (i64.wrap ((1:Int)+(i64.wrap (gtB x (0))).tmod (4:Int))),.i ((i64.wrap (gtB x (1))).tmod n),.i (i64.wrap ((1:Int)+((i64.wrap (gtB x (2))).tmod (i64.wrap (n-(i64.wrap (gtB x (1))).tmod n))).tmod (5:Int))),.u (gtB x (3)),.nils])] }) (R (hd Tryz.f81 0) { env:=[(2,.ptr 2 0),(4,.ptr 4 0),(5,.ptr 5 0),(6,.i 0)],blk:=[(2,.var [.arr (4:Nat) uB x]),(4,.var [.i 0,.i 0,.i 0,.u 0,.nils]),(5,.var [.i (i64.wrap ((1:Int)+(i64.wrap (gtB x (0))).tmod (4:Int))),.i ((i64.wrap (gtB x (1))).tmod n),.i (i64.wrap ((1:Int)+((i64.wrap (gtB x (2))).tmod (i64.wrap (n-(i64.wrap (gtB x (1))).tmod n))).tmod (5:Int))),.u 0,.nils])] }))) (bc (decide (i64.wrap ((1:Int)+(i64.wrap (gtB x (0))).tmod (4:Int))=(3:Int))) ((0:Int)<=3/\(3:Int)<(↑(4:Nat):Int)/\3<4/\R (hd Tryz.f81 0) { env:=[(2,.ptr 2 0),(4,.ptr 4 0),(5,.ptr 5 0),(6,.i 0)],blk:=[(2,.var [.arr (4:Nat) uB x]),(4,.var [.i 0,.i 0,.i 0,.u 0,.nils]),(5,.var [.i (i64.wrap ((1:Int)+(i64.wrap (gtB x (0))).tmod (4:Int))),.i 0,.i (i64.wrap ((1:Int)+(i64.wrap (gtB x (2))).tmod (5:Int))),.u (gtB x (3)),.nils])] }) (R (hd Tryz.f81 0) { env:=[(2,.ptr 2 0),(4,.ptr 4 0),(5,.ptr 5 0),(6,.i 0)],blk:=[(2,.var [.arr (4:Nat) uB x]),(4,.var [.i 0,.i 0,.i 0,.u 0,.nils]),(5,.var [.i (i64.wrap ((1:Int)+(i64.wrap (gtB x (0))).tmod (4:Int))),.i 0,.i (i64.wrap ((1:Int)+(i64.wrap (gtB x (2))).tmod (5:Int))),.u 0,.nils])] }))):=by kernel_rfl
def ql5 (x:List Int) (k a n b:Int):List (Nat × LB):=[(2,.var [.arr (4:Nat) uB x]),(4,.var [.i k,.i a,.i n,.u b,.nils]),(5,.var [.i k,.i a,.i n,.u b,.nils])]
theorem q7m (x:List Int) (k a n b:Int) (i:Nat) (Q:QT) (R:RT):sA [] Tryz.f81 Q (λ it S=>R it (qbr [2,4,5,6] [2,4,5,76] S)) (hd Tryz.f81 0) ⟨[(2,.ptr 2 0),(4,.ptr 4 0),(5,.ptr 5 0),(6,.i (i:Nat))],[(2,.var [.arr 4 uB x]),(4,.var [.i 0,.i 0,.i 0,.u 0,.nils]),(5,.var [.i k,.i a,.i n,.u b,.nils])]⟩ =
  (bc (decide ((i:Int)<n)) (bc (decide (k=(2:Int))) (true=true/\(0:Int)<=3/\(3:Int)<(↑(4:Nat):Int)/\3<4/\(0:Int)<=0/\(0:Int)<(↑(4:Nat):Int)/\0<4/\(4:Int)≠0/\(0:Nat)+1<=([(u8.wrap (gtB x (3)*u8.wrap (i64.wrap ((i:Int)+i64.wrap ((i64.wrap (gtB x (0))).tdiv (4:Int))))))]:List uB.D).length/\(([(u8.wrap (gtB x (3)*u8.wrap (i64.wrap ((i:Int)+i64.wrap ((i64.wrap (gtB x (0))).tdiv (4:Int))))))]:List uB.D)).length<2 ^ 30/\(1:Nat)<=2 ^ 10/\R (hd Tryz.f81 0) { env:=[(2,.ptr 2 0),(4,.ptr 4 0),(5,.ptr 5 0),(6,.i (i64.wrap ((i:Int)+1)))],blk:=[(2,.var [.arr (4:Nat) uB x]),(4,.var [.i 0,.i 0,.i 0,.u 0,.nils]),(5,.var [.i k,.i a,.i n,.u b,.win true uB 76 0 (1:Nat)]),(76,.row 5 uB (([(u8.wrap (gtB x (3)*u8.wrap (i64.wrap ((i:Int)+i64.wrap ((i64.wrap (gtB x (0))).tdiv (4:Int))))))]:List uB.D)))] }) (bc (decide (k=(4:Int))) ((0:Int)<=3/\(3:Int)<(↑(4:Nat):Int)/\3<4/\(0:Int)<=0/\(0:Int)<(↑(4:Nat):Int)/\0<4/\(4:Int)≠0/\(0:Nat)+1<=([(u8.wrap (gtB x (3)*u8.wrap (i64.wrap ((i:Int)+i64.wrap ((i64.wrap (gtB x (0))).tdiv (4:Int))))))]:List uB.D).length/\(([(u8.wrap (gtB x (3)*u8.wrap (i64.wrap ((i:Int)+i64.wrap ((i64.wrap (gtB x (0))).tdiv (4:Int))))))]:List uB.D)).length<2 ^ 30/\(1:Nat)<=2 ^ 10/\R (hd Tryz.f81 0) { env:=[(2,.ptr 2 0),(4,.ptr 4 0),(5,.ptr 5 0),(6,.i (i64.wrap ((i:Int)+1)))],blk:=[(2,.var [.arr (4:Nat) uB x]),(4,.var [.i 0,.i 0,.i 0,.u 0,.nils]),(5,.var [.i k,.i a,.i n,.u b,.win true uB 76 0 (1:Nat)]),(76,.row 5 uB (([(u8.wrap (gtB x (3)*u8.wrap (i64.wrap ((i:Int)+i64.wrap ((i64.wrap (gtB x (0))).tdiv (4:Int))))))]:List uB.D)))] }) (Q [.agg [.i k,.i a,.i n,.u b,.nils]] (ql5 x k a n b)))) (false=false/\Q [.agg [.i k,.i a,.i n,.u b,.nils]] (ql5 x k a n b))):=by kernel_rfl
def ql4 (x d:List Int) (k a n b:Int):List (Nat × LB):=[(2,.var [.arr (4:Nat) uB x]),(4,.var [.i k,.i a,.i n,.u b,.win true uB 76 0 d.length]),(5,.var [.i k,.i a,.i n,.u b,.win true uB 76 0 d.length]),(76,.row 5 uB d)]
theorem q7l (x d:List Int) (k a n b:Int) (i:Nat) (Q:QT) (R:RT):sA [] Tryz.f81 Q (λ it S=>R it (qbr [2,4,5,6] [2,4,5,76] S)) (hd Tryz.f81 0) ⟨[(2,.ptr 2 0),(4,.ptr 4 0),(5,.ptr 5 0),(6,.i (i:Nat))],[(2,.var [.arr 4 uB x]),(4,.var [.i 0,.i 0,.i 0,.u 0,.nils]),(5,.var [.i k,.i a,.i n,.u b,.win true uB 76 0 d.length]),(76,.row 5 uB d)]⟩ =
  (bc (decide ((i:Int)<n)) (bc (decide (k=(2:Int))) (true=true/\(0:Int)<=3/\(3:Int)<(↑(4:Nat):Int)/\3<4/\(0:Int)<=0/\(0:Int)<(↑(4:Nat):Int)/\0<4/\(4:Int)≠0/\(0:Nat)+1<=([(u8.wrap (gtB x (3)*u8.wrap (i64.wrap ((i:Int)+i64.wrap ((i64.wrap (gtB x (0))).tdiv (4:Int))))))]:List uB.D).length/\d.length=d.length/\(0:Nat)=(0:Nat)/\d.length+(([(u8.wrap (gtB x (3)*u8.wrap (i64.wrap ((i:Int)+i64.wrap ((i64.wrap (gtB x (0))).tdiv (4:Int))))))]:List uB.D)).length<2 ^ 30/\(1:Nat)<=2 ^ 10/\R (hd Tryz.f81 0) { env:=[(2,.ptr 2 0),(4,.ptr 4 0),(5,.ptr 5 0),(6,.i (i64.wrap ((i:Int)+1)))],blk:=[(2,.var [.arr (4:Nat) uB x]),(4,.var [.i 0,.i 0,.i 0,.u 0,.nils]),(5,.var [.i k,.i a,.i n,.u b,.win true uB 76 0 (d.length+(([(u8.wrap (gtB x (3)*u8.wrap (i64.wrap ((i:Int)+i64.wrap ((i64.wrap (gtB x (0))).tdiv (4:Int))))))]:List uB.D)).length)]),(76,.row 5 uB (d++([(u8.wrap (gtB x (3)*u8.wrap (i64.wrap ((i:Int)+i64.wrap ((i64.wrap (gtB x (0))).tdiv (4:Int))))))]:List uB.D)))] }) (bc (decide (k=(4:Int))) ((0:Int)<=3/\(3:Int)<(↑(4:Nat):Int)/\3<4/\(0:Int)<=0/\(0:Int)<(↑(4:Nat):Int)/\0<4/\(4:Int)≠0/\(0:Nat)+1<=([(u8.wrap (gtB x (3)*u8.wrap (i64.wrap ((i:Int)+i64.wrap ((i64.wrap (gtB x (0))).tdiv (4:Int))))))]:List uB.D).length/\d.length=d.length/\(0:Nat)=(0:Nat)/\d.length+(([(u8.wrap (gtB x (3)*u8.wrap (i64.wrap ((i:Int)+i64.wrap ((i64.wrap (gtB x (0))).tdiv (4:Int))))))]:List uB.D)).length<2 ^ 30/\(1:Nat)<=2 ^ 10/\R (hd Tryz.f81 0) { env:=[(2,.ptr 2 0),(4,.ptr 4 0),(5,.ptr 5 0),(6,.i (i64.wrap ((i:Int)+1)))],blk:=[(2,.var [.arr (4:Nat) uB x]),(4,.var [.i 0,.i 0,.i 0,.u 0,.nils]),(5,.var [.i k,.i a,.i n,.u b,.win true uB 76 0 (d.length+(([(u8.wrap (gtB x (3)*u8.wrap (i64.wrap ((i:Int)+i64.wrap ((i64.wrap (gtB x (0))).tdiv (4:Int))))))]:List uB.D)).length)]),(76,.row 5 uB (d++([(u8.wrap (gtB x (3)*u8.wrap (i64.wrap ((i:Int)+i64.wrap ((i64.wrap (gtB x (0))).tdiv (4:Int))))))]:List uB.D)))] }) (Q [.agg [.i k,.i a,.i n,.u b,.win true uB 76 0 d.length]] (ql4 x d k a n b)))) (false=false/\Q [.agg [.i k,.i a,.i n,.u b,.win true uB 76 0 d.length]] (ql4 x d k a n b))):=by kernel_rfl
def ql3 (x d:List Int) (k a n b:Int):List (Nat × LB):=[(2,.var [.arr (4:Nat) uB x]),(4,.var [.i k,.i a,.i n,.u b,.sl uB d]),(5,.var [.i k,.i a,.i n,.u b,.sl uB d])]
theorem q7k (x d:List Int) (k a n b:Int) (i:Nat) (Q:QT) (R:RT):sA [] Tryz.f81 Q (λ it S=>R it (qbr [2,4,5,6] [2,4,5,76] S)) (hd Tryz.f81 0) ⟨[(2,.ptr 2 0),(4,.ptr 4 0),(5,.ptr 5 0),(6,.i (i:Nat))],[(2,.var [.arr 4 uB x]),(4,.var [.i 0,.i 0,.i 0,.u 0,.nils]),(5,.var [.i k,.i a,.i n,.u b,.sl uB d])]⟩ =
  (bc (decide ((i:Int)<n)) (bc (decide (k=(2:Int))) (true=true/\(0:Int)<=3/\(3:Int)<(↑(4:Nat):Int)/\3<4/\(0:Int)<=0/\(0:Int)<(↑(4:Nat):Int)/\0<4/\(4:Int)≠0/\False) (bc (decide (k=(4:Int))) ((0:Int)<=3/\(3:Int)<(↑(4:Nat):Int)/\3<4/\(0:Int)<=0/\(0:Int)<(↑(4:Nat):Int)/\0<4/\(4:Int)≠0/\False) (Q [.agg [.i k,.i a,.i n,.u b,.sl uB d]] (ql3 x d k a n b)))) (false=false/\Q [.agg [.i k,.i a,.i n,.u b,.sl uB d]] (ql3 x d k a n b))):=by kernel_rfl
end Go.Proofs.YtdeacfammdjajaaGreatDoor
