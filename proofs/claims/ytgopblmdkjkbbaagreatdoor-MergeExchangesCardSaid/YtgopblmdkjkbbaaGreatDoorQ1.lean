/-
  A part of the proof: what pieces of the program give; conditions: those of each theorem.
-/
import Derived.Test.YtgopblmdkjkbbaaGreatDoorQ0
set_option linter.unusedVariables false
set_option linter.unusedSimpArgs false
namespace Go.Proofs.YtgopblmdkjkbbaaGreatDoor
open Go.Px Go.Ax
open Go.IntKind(i64 u32 u8)
set_option maxRecDepth 100000
set_option maxRecDepth 100000
theorem qy1 (k f n b:Int) (d:List Int) (o:List SyT) (Q:QT) (R:RT):sA [] Tryz.f236 Q R [.code (qad Tryz.f236)] (qa7 [.dat opS,.row 93 syS] ((k,f,n,b,d),o,())) =
  (R (hd Tryz.f236 0) { env:=[(0,.agg (oJ k f n b d)),(1,.win true syS 1099511627776 0 o.length),(2,.ptr 2 0),(4,.nils),(6,.ptr 2 2),(7,.i n),(8,.i 0)],blk:=[(2,.var (oJ k f n b d)),(1099511627776,.row 93 syS o)] }):=by kernel_rfl
theorem qu4 (k f n b:Int) (d:List Int) (o:List SyT) (i:Nat) (Q:QT) (R:RT):sA [] Tryz.f236 Q R (hd Tryz.f236 0) ⟨[(1,.win true syS 1099511627776 0 o.length),(2,.ptr 2 0),(7,.i n),(8,.i (i:Nat))],[(2,.var (oJ k f n b d)),(1099511627776,.row 93 syS o)]⟩ =
  (bc (decide ((i:Int)<n)) ((0:Nat)+1<=([(true,i64.wrap (f+(i:Int)),(0:Int))]:List syS.D).length/\o.length=o.length/\(0:Nat)=(0:Nat)/\o.length+(winL syS 0 1 ([(true,i64.wrap (f+(i:Int)),(0:Int))]:List syS.D)).length<2 ^ 30/\(24:Nat)<=2 ^ 10/\R (hd Tryz.f236 0) { env:=[(1,.win true syS 18 0 (o.length+(winL syS 0 1 ([(true,i64.wrap (f+(i:Int)),(0:Int))]:List syS.D)).length)),(2,.ptr 2 0),(5,.i i),(7,.i n),(8,.i (i64.wrap ((i:Int)+1))),(9,.bool (decide ((i:Int)<n))),(10,.i i),(11,.dead),(12,.ptr 2 1),(13,.i f),(14,.i i),(15,.i (i64.wrap (f+(i:Int)))),(16,.agg [.bool true,.i (i64.wrap (f+(i:Int))),.u 0]),(17,.win true syS 17 0 (1:Nat)),(18,.win true syS 18 0 (o.length+(winL syS 0 1 ([(true,i64.wrap (f+(i:Int)),(0:Int))]:List syS.D)).length)),(19,.i (i64.wrap ((i:Int)+1)))],blk:=[(2,.var (oJ k f n b d)),(17,.row 93 syS ([(true,i64.wrap (f+(i:Int)),(0:Int))]:List syS.D)),(18,.row 93 syS (o++([(true,i64.wrap (f+(i:Int)),(0:Int))]:List syS.D)))] }) (Q [.win true syS 1099511627776 0 o.length] [(2,.var (oJ k f n b d)),(1099511627776,.row 93 syS o)])):=by kernel_rfl
theorem qn5 (k f n b:Int) (d:List Int) (o:List SyT) (i:Nat) (Q:QT) (R:RT):sA [] Tryz.f236 Q R (hd Tryz.f236 0) ⟨[(1,.win true syS 1 0 o.length),(2,.ptr 2 0),(7,.i n),(8,.i (i:Nat))],[(2,.var (oJ k f n b d)),(1,.row 93 syS o)]⟩ =
  (bc (decide ((i:Int)<n)) ((0:Nat)+1<=([(true,i64.wrap (f+(i:Int)),(0:Int))]:List syS.D).length/\o.length=o.length/\(0:Nat)=(0:Nat)/\o.length+(winL syS 0 1 ([(true,i64.wrap (f+(i:Int)),(0:Int))]:List syS.D)).length<2 ^ 30/\(24:Nat)<=2 ^ 10/\R (hd Tryz.f236 0) { env:=[(1,.win true syS 18 0 (o.length+(winL syS 0 1 ([(true,i64.wrap (f+(i:Int)),(0:Int))]:List syS.D)).length)),(2,.ptr 2 0),(5,.i i),(7,.i n),(8,.i (i64.wrap ((i:Int)+1))),(9,.bool (decide ((i:Int)<n))),(10,.i i),(11,.dead),(12,.ptr 2 1),(13,.i f),(14,.i i),(15,.i (i64.wrap (f+(i:Int)))),(16,.agg [.bool true,.i (i64.wrap (f+(i:Int))),.u 0]),(17,.win true syS 17 0 (1:Nat)),(18,.win true syS 18 0 (o.length+(winL syS 0 1 ([(true,i64.wrap (f+(i:Int)),(0:Int))]:List syS.D)).length)),(19,.i (i64.wrap ((i:Int)+1)))],blk:=[(2,.var (oJ k f n b d)),(17,.row 93 syS ([(true,i64.wrap (f+(i:Int)),(0:Int))]:List syS.D)),(18,.row 93 syS (o++([(true,i64.wrap (f+(i:Int)),(0:Int))]:List syS.D)))] }) (Q [.win true syS 1 0 o.length] [(2,.var (oJ k f n b d)),(1,.row 93 syS o)])):=by kernel_rfl
theorem qyy (k f n b:Int) (d:List Int) (o:List SyT) (Q:QT) (R:RT):sA [] Tryz.f240 Q R [.code (qad Tryz.f240)] (qa7 [.dat opS,.row 93 syS] ((k,f,n,b,d),o,())) =
  (R (hd Tryz.f240 0) { env:=[(0,.agg (oJ k f n b d)),(1,.win true syS 1099511627776 0 o.length),(2,.ptr 2 0),(4,.nils),(7,.ptr 2 4),(8,.sl uB d),(9,.i d.length),(10,.i 0)],blk:=[(2,.var (oJ k f n b d)),(1099511627776,.row 93 syS o)] }):=by kernel_rfl
theorem qu3 (k f n b:Int) (d:List Int) (o:List SyT) (i:Nat) (Q:QT) (R:RT):sA [] Tryz.f240 Q R (hd Tryz.f240 0) ⟨[(1,.win true syS 1099511627776 0 o.length),(2,.ptr 2 0),(8,.sl uB d),(9,.i d.length),(10,.i (i:Nat))],[(2,.var (oJ k f n b d)),(1099511627776,.row 93 syS o)]⟩ =
  (bc (decide ((i:Int)<d.length)) ((0:Int)<=i/\(i:Int)<d.length/\(0:Nat)+1<=([(true,i64.wrap (f+(i:Int)),gtB d (i:Int).toNat)]:List syS.D).length/\o.length=o.length/\(0:Nat)=(0:Nat)/\o.length+(winL syS 0 1 ([(true,i64.wrap (f+(i:Int)),gtB d (i:Int).toNat)]:List syS.D)).length<2 ^ 30/\(24:Nat)<=2 ^ 10/\R (hd Tryz.f240 0) { env:=[(1,.win true syS 23 0 (o.length+(winL syS 0 1 ([(true,i64.wrap (f+(i:Int)),gtB d (i:Int).toNat)]:List syS.D)).length)),(2,.ptr 2 0),(5,.i i),(6,.u (gtB d (i:Int).toNat)),(8,.sl uB d),(9,.i d.length),(10,.i (i64.wrap ((i:Int)+1))),(11,.bool (decide ((i:Int)<d.length))),(12,.i i),(13,.elv uB (gtB d (i:Int).toNat)),(14,.u (gtB d (i:Int).toNat)),(15,.dead),(16,.ptr 2 1),(17,.i f),(18,.i i),(19,.i (i64.wrap (f+(i:Int)))),(20,.u (gtB d (i:Int).toNat)),(21,.agg [.bool true,.i (i64.wrap (f+(i:Int))),.u (gtB d (i:Int).toNat)]),(22,.win true syS 22 0 (1:Nat)),(23,.win true syS 23 0 (o.length+(winL syS 0 1 ([(true,i64.wrap (f+(i:Int)),gtB d (i:Int).toNat)]:List syS.D)).length)),(24,.i (i64.wrap ((i:Int)+1)))],blk:=[(2,.var (oJ k f n b d)),(22,.row 93 syS ([(true,i64.wrap (f+(i:Int)),gtB d (i:Int).toNat)]:List syS.D)),(23,.row 93 syS (o++([(true,i64.wrap (f+(i:Int)),gtB d (i:Int).toNat)]:List syS.D)))] }) (Q [.win true syS 1099511627776 0 o.length] [(2,.var (oJ k f n b d)),(1099511627776,.row 93 syS o)])):=by kernel_rfl
theorem qn4 (k f n b:Int) (d:List Int) (o:List SyT) (i:Nat) (Q:QT) (R:RT):sA [] Tryz.f240 Q R (hd Tryz.f240 0) ⟨[(1,.win true syS 1 0 o.length),(2,.ptr 2 0),(8,.sl uB d),(9,.i d.length),(10,.i (i:Nat))],[(2,.var (oJ k f n b d)),(1,.row 93 syS o)]⟩ =
  (bc (decide ((i:Int)<d.length)) ((0:Int)<=i/\(i:Int)<d.length/\(0:Nat)+1<=([(true,i64.wrap (f+(i:Int)),gtB d (i:Int).toNat)]:List syS.D).length/\o.length=o.length/\(0:Nat)=(0:Nat)/\o.length+(winL syS 0 1 ([(true,i64.wrap (f+(i:Int)),gtB d (i:Int).toNat)]:List syS.D)).length<2 ^ 30/\(24:Nat)<=2 ^ 10/\R (hd Tryz.f240 0) { env:=[(1,.win true syS 23 0 (o.length+(winL syS 0 1 ([(true,i64.wrap (f+(i:Int)),gtB d (i:Int).toNat)]:List syS.D)).length)),(2,.ptr 2 0),(5,.i i),(6,.u (gtB d (i:Int).toNat)),(8,.sl uB d),(9,.i d.length),(10,.i (i64.wrap ((i:Int)+1))),(11,.bool (decide ((i:Int)<d.length))),(12,.i i),(13,.elv uB (gtB d (i:Int).toNat)),(14,.u (gtB d (i:Int).toNat)),(15,.dead),(16,.ptr 2 1),(17,.i f),(18,.i i),(19,.i (i64.wrap (f+(i:Int)))),(20,.u (gtB d (i:Int).toNat)),(21,.agg [.bool true,.i (i64.wrap (f+(i:Int))),.u (gtB d (i:Int).toNat)]),(22,.win true syS 22 0 (1:Nat)),(23,.win true syS 23 0 (o.length+(winL syS 0 1 ([(true,i64.wrap (f+(i:Int)),gtB d (i:Int).toNat)]:List syS.D)).length)),(24,.i (i64.wrap ((i:Int)+1)))],blk:=[(2,.var (oJ k f n b d)),(22,.row 93 syS ([(true,i64.wrap (f+(i:Int)),gtB d (i:Int).toNat)]:List syS.D)),(23,.row 93 syS (o++([(true,i64.wrap (f+(i:Int)),gtB d (i:Int).toNat)]:List syS.D)))] }) (Q [.win true syS 1 0 o.length] [(2,.var (oJ k f n b d)),(1,.row 93 syS o)])):=by kernel_rfl
theorem q39 (k f n b:Int) (d:List Int) (o:List SyT) (Q:QT) (R:RT):sA [] Tryz.f243 Q R [.code (qad Tryz.f243)] (qa7 [.dat opS,.row 93 syS] ((k,f,n,b,d),o,())) =
  (R (hd Tryz.f243 0) { env:=[(0,.agg (oJ k f n b d)),(1,.win true syS 1099511627776 0 o.length),(2,.ptr 2 0),(4,.nils),(5,.ptr 2 2),(6,.i n),(7,.i 0)],blk:=[(2,.var (oJ k f n b d)),(1099511627776,.row 93 syS o)] }):=by kernel_rfl
theorem qyn (k f n b:Int) (d:List Int) (o:List SyT) (i:Nat) (Q:QT) (R:RT):sA [] Tryz.f243 Q R (hd Tryz.f243 0) ⟨[(1,.win true syS 1099511627776 0 o.length),(2,.ptr 2 0),(6,.i n),(7,.i (i:Nat))],[(2,.var (oJ k f n b d)),(1099511627776,.row 93 syS o)]⟩ =
  (bc (decide ((i:Int)<n)) ((0:Nat)+1<=([(false,(0:Int),b)]:List syS.D).length/\o.length=o.length/\(0:Nat)=(0:Nat)/\o.length+(winL syS 0 1 ([(false,(0:Int),b)]:List syS.D)).length<2 ^ 30/\(24:Nat)<=2 ^ 10/\R (hd Tryz.f243 0) { env:=[(1,.win true syS 14 0 (o.length+(winL syS 0 1 ([(false,(0:Int),b)]:List syS.D)).length)),(2,.ptr 2 0),(6,.i n),(7,.i (i64.wrap ((i:Int)+1))),(8,.bool (decide ((i:Int)<n))),(9,.dead),(10,.ptr 2 3),(11,.u b),(12,.agg [.bool false,.i 0,.u b]),(13,.win true syS 13 0 (1:Nat)),(14,.win true syS 14 0 (o.length+(winL syS 0 1 ([(false,(0:Int),b)]:List syS.D)).length)),(15,.i (i64.wrap ((i:Int)+1)))],blk:=[(2,.var (oJ k f n b d)),(13,.row 93 syS ([(false,(0:Int),b)]:List syS.D)),(14,.row 93 syS (o++([(false,(0:Int),b)]:List syS.D)))] }) (Q [.win true syS 1099511627776 0 o.length] [(2,.var (oJ k f n b d)),(1099511627776,.row 93 syS o)])):=by kernel_rfl
theorem qq3 (k f n b:Int) (d:List Int) (o:List SyT) (i:Nat) (Q:QT) (R:RT):sA [] Tryz.f243 Q R (hd Tryz.f243 0) ⟨[(1,.win true syS 1 0 o.length),(2,.ptr 2 0),(6,.i n),(7,.i (i:Nat))],[(2,.var (oJ k f n b d)),(1,.row 93 syS o)]⟩ =
  (bc (decide ((i:Int)<n)) ((0:Nat)+1<=([(false,(0:Int),b)]:List syS.D).length/\o.length=o.length/\(0:Nat)=(0:Nat)/\o.length+(winL syS 0 1 ([(false,(0:Int),b)]:List syS.D)).length<2 ^ 30/\(24:Nat)<=2 ^ 10/\R (hd Tryz.f243 0) { env:=[(1,.win true syS 14 0 (o.length+(winL syS 0 1 ([(false,(0:Int),b)]:List syS.D)).length)),(2,.ptr 2 0),(6,.i n),(7,.i (i64.wrap ((i:Int)+1))),(8,.bool (decide ((i:Int)<n))),(9,.dead),(10,.ptr 2 3),(11,.u b),(12,.agg [.bool false,.i 0,.u b]),(13,.win true syS 13 0 (1:Nat)),(14,.win true syS 14 0 (o.length+(winL syS 0 1 ([(false,(0:Int),b)]:List syS.D)).length)),(15,.i (i64.wrap ((i:Int)+1)))],blk:=[(2,.var (oJ k f n b d)),(13,.row 93 syS ([(false,(0:Int),b)]:List syS.D)),(14,.row 93 syS (o++([(false,(0:Int),b)]:List syS.D)))] }) (Q [.win true syS 1 0 o.length] [(2,.var (oJ k f n b d)),(1,.row 93 syS o)])):=by kernel_rfl
theorem q4x (k f n b:Int) (d:List Int) (o:List SyT) (Q:QT) (R:RT):sA [] Tryz.f246 Q R [.code (qad Tryz.f246)] (qa7 [.dat opS,.row 93 syS] ((k,f,n,b,d),o,())) =
  (R (hd Tryz.f246 0) { env:=[(0,.agg (oJ k f n b d)),(1,.win true syS 1099511627776 0 o.length),(2,.ptr 2 0),(4,.nils),(7,.ptr 2 4),(8,.sl uB d),(9,.i d.length),(10,.i 0)],blk:=[(2,.var (oJ k f n b d)),(1099511627776,.row 93 syS o)] }):=by kernel_rfl
theorem qyt (k f n b:Int) (d:List Int) (o:List SyT) (i:Nat) (Q:QT) (R:RT):sA [] Tryz.f246 Q R (hd Tryz.f246 0) ⟨[(1,.win true syS 1099511627776 0 o.length),(2,.ptr 2 0),(8,.sl uB d),(9,.i d.length),(10,.i (i:Nat))],[(2,.var (oJ k f n b d)),(1099511627776,.row 93 syS o)]⟩ =
  (bc (decide ((i:Int)<d.length)) ((0:Int)<=i/\(i:Int)<d.length/\(0:Nat)+1<=([(false,(0:Int),gtB d (i:Int).toNat)]:List syS.D).length/\o.length=o.length/\(0:Nat)=(0:Nat)/\o.length+(winL syS 0 1 ([(false,(0:Int),gtB d (i:Int).toNat)]:List syS.D)).length<2 ^ 30/\(24:Nat)<=2 ^ 10/\R (hd Tryz.f246 0) { env:=[(1,.win true syS 18 0 (o.length+(winL syS 0 1 ([(false,(0:Int),gtB d (i:Int).toNat)]:List syS.D)).length)),(2,.ptr 2 0),(6,.u (gtB d (i:Int).toNat)),(8,.sl uB d),(9,.i d.length),(10,.i (i64.wrap ((i:Int)+1))),(11,.bool (decide ((i:Int)<d.length))),(12,.elv uB (gtB d (i:Int).toNat)),(13,.u (gtB d (i:Int).toNat)),(14,.dead),(15,.u (gtB d (i:Int).toNat)),(16,.agg [.bool false,.i 0,.u (gtB d (i:Int).toNat)]),(17,.win true syS 17 0 (1:Nat)),(18,.win true syS 18 0 (o.length+(winL syS 0 1 ([(false,(0:Int),gtB d (i:Int).toNat)]:List syS.D)).length)),(19,.i (i64.wrap ((i:Int)+1)))],blk:=[(2,.var (oJ k f n b d)),(17,.row 93 syS ([(false,(0:Int),gtB d (i:Int).toNat)]:List syS.D)),(18,.row 93 syS (o++([(false,(0:Int),gtB d (i:Int).toNat)]:List syS.D)))] }) (Q [.win true syS 1099511627776 0 o.length] [(2,.var (oJ k f n b d)),(1099511627776,.row 93 syS o)])):=by kernel_rfl
theorem qq6 (k f n b:Int) (d:List Int) (o:List SyT) (i:Nat) (Q:QT) (R:RT):sA [] Tryz.f246 Q R (hd Tryz.f246 0) ⟨[(1,.win true syS 1 0 o.length),(2,.ptr 2 0),(8,.sl uB d),(9,.i d.length),(10,.i (i:Nat))],[(2,.var (oJ k f n b d)),(1,.row 93 syS o)]⟩ =
  (bc (decide ((i:Int)<d.length)) ((0:Int)<=i/\(i:Int)<d.length/\(0:Nat)+1<=([(false,(0:Int),gtB d (i:Int).toNat)]:List syS.D).length/\o.length=o.length/\(0:Nat)=(0:Nat)/\o.length+(winL syS 0 1 ([(false,(0:Int),gtB d (i:Int).toNat)]:List syS.D)).length<2 ^ 30/\(24:Nat)<=2 ^ 10/\R (hd Tryz.f246 0) { env:=[(1,.win true syS 18 0 (o.length+(winL syS 0 1 ([(false,(0:Int),gtB d (i:Int).toNat)]:List syS.D)).length)),(2,.ptr 2 0),(6,.u (gtB d (i:Int).toNat)),(8,.sl uB d),(9,.i d.length),(10,.i (i64.wrap ((i:Int)+1))),(11,.bool (decide ((i:Int)<d.length))),(12,.elv uB (gtB d (i:Int).toNat)),(13,.u (gtB d (i:Int).toNat)),(14,.dead),(15,.u (gtB d (i:Int).toNat)),(16,.agg [.bool false,.i 0,.u (gtB d (i:Int).toNat)]),(17,.win true syS 17 0 (1:Nat)),(18,.win true syS 18 0 (o.length+(winL syS 0 1 ([(false,(0:Int),gtB d (i:Int).toNat)]:List syS.D)).length)),(19,.i (i64.wrap ((i:Int)+1)))],blk:=[(2,.var (oJ k f n b d)),(17,.row 93 syS ([(false,(0:Int),gtB d (i:Int).toNat)]:List syS.D)),(18,.row 93 syS (o++([(false,(0:Int),gtB d (i:Int).toNat)]:List syS.D)))] }) (Q [.win true syS 1 0 o.length] [(2,.var (oJ k f n b d)),(1,.row 93 syS o)])):=by kernel_rfl
attribute [local irreducible] Go.Px.sy Go.Px.syE
theorem QI.row {ct:CtrI} {x:DI ct.args} {rs:List SV} {blk:List (Nat × LB)} {e:Sh} {et:TypeId} {a k:Nat} {xs:List e.D} (h:ct.out x=[.win true e 0 0 xs.length]) (hr:ct.blk x=[(0,.row et e xs)]) (hs:rs=[.win true e a 0 k]) (hk:k=xs.length) (hb:lk blk a=some (.row et e xs)) (ha:a<BIG):QI ct x rs blk:=by
 subst hs;subst hk;refine ⟨[(0,a)],?_,?_,by simp,λ p hp=>by simp at hp;subst hp;exact ha⟩
 ·rw[h];exact ⟨_,_,rfl,.inl ⟨true,a,rfl,rfl,λ h=>h⟩,rfl⟩
 ·rw[hr];exact ⟨.inl ⟨a,_,rfl,hb,rfl⟩,trivial⟩
def gen (el:Nat->SyT):Nat->Nat->List SyT
 | 0,_=>[]
 | k+1,i=>el i::gen el k (i+1)
theorem qk6 (el:Nat->SyT):∀ k i,(gen el k i).length=k
 | 0,_=>rfl
 | k+1,i=>by rw[gen,List.length_cons,qk6 el k]
def elO (t:Nat) (x:OpT) (i:Nat):SyT:=match t with
 | 1=>(true,IntKind.i64.wrap (x.2.1+i),0)
 | 2=>(true,IntKind.i64.wrap (x.2.1+i),gtB x.2.2.2.2 i)
 | 3=>(false,0,x.2.2.2.1)
 | _=>(false,0,gtB x.2.2.2.2 i)
def cntO (t:Nat) (x:OpT):Nat:=match t with
 | 1=>x.2.2.1.toNat
 | 3=>x.2.2.1.toNat
 | _=>x.2.2.2.2.length
def qaz (t:Nat) (x:OpT):List SyT:=gen (elO t x) (cntO t x) 0
def preA (t:Nat) (x:OpT) (o:List SyT):Prop:=1<=cntO t x/\o.length+cntO t x<268435456/\x.2.2.1<268435456
abbrev KA:List AK:=[.dat opS,.row 93 syS]
def ctA (t:Nat):CtrI:=⟨KA,λ x=>preA t x.1 x.2.1,λ x=>[.win true syS 0 0 (List.length (x.2.1++qaz t x.1))],λ x=>[(0,.row 93 syS (x.2.1++qaz t x.1))]⟩
abbrev GQ (t:Nat) (x:OpT) (o:List SyT):List SV->List (Nat × LB)->Prop:=QI (ctA t) (x,o,())
theorem qua (k f n b:Int) (d:List Int) (o0:List SyT) (hb:n<268435456/\True):∀ (c i:Nat) (o:List SyT),cntO 1 (k,f,n,b,d)-i=c->i<=cntO 1 (k,f,n,b,d)->o.length+c<268435456->o++gen (elO 1 (k,f,n,b,d)) c i=o0++qaz 1 (k,f,n,b,d) ->
  GD 236 Tryz.f236 (GQ 1 (k,f,n,b,d) o0) (hd Tryz.f236 0) ⟨[(1,.win true syS 1 0 o.length),(2,.ptr 2 0),(7,.i n),(8,.i (i:Nat))],[(2,.var (oJ k f n b d)),(1,.row 93 syS o)]⟩:=by
 intro c
 induction c with
 | zero=>
  intro i o hc hi hl he;have hn:cntO 1 (k,f,n,b,d)=n.toNat:=rfl;refine qaj cx0 _ _ _ ((qn5 k f n b d o i _ _).mpr ?_);rw[decide_eq_false (by omega),bc_f];have he:o=o0++qaz 1 (k,f,n,b,d):=by simpa [gen] using he
  exact QI.row (e:=syS) (et:=93) (a:=1) (xs:=o0++qaz 1 (k,f,n,b,d)) rfl rfl (by rw[he]) rfl (by rw[he];rfl) (by decide)
 | succ c ih=>
  intro i o hc hi hl he;have hn:cntO 1 (k,f,n,b,d)=n.toNat:=rfl;refine qaj cx0 _ _ _ ((qn5 k f n b d o i _ _).mpr ?_);rw[decide_eq_true (show (i:Int)<n by omega),bc_t,IntWalk.i64_in ((i:Int)+1) (by omega)];refine ⟨Nat.le_refl 1,rfl,rfl,?_,by decide,?_⟩
  ·show o.length+1<2 ^ 30
   omega
  ·refine Good.onlyR (ih (i+1) (o++[elO 1 (k,f,n,b,d) i]) (by omega) (by omega) (by rw[List.length_append,List.length_singleton];omega) (by rw[List.append_assoc];exact he)) [(1,18)] rfl ⟨by rw[List.length_append];rfl,rfl,rfl,rfl,trivial⟩ ⟨rfl,rfl,trivial⟩
theorem qub:HeldI Tryz.prog G0 236 (ctA 1):=by
 refine HeldI.run cx0 (fn:=Tryz.f236) rfl rfl ⟨by decide,by decide⟩ ?_;rintro ⟨⟨k,f,n,b,d⟩,o,⟨⟩⟩ hp;obtain ⟨h1,h2,h3⟩:preA 1 (k,f,n,b,d) o:=hp;have hn:cntO 1 (k,f,n,b,d)=n.toNat:=rfl;replace h3:n<268435456:=h3;refine (qy1 k f n b d o _ _).mpr ?_;have hb:n<268435456/\True:=⟨h3,trivial⟩;obtain ⟨c,hc⟩:∃ c,cntO 1 (k,f,n,b,d)=c+1:=⟨cntO 1 (k,f,n,b,d)-1,by omega⟩;have e:GD 236 Tryz.f236 (GQ 1 (k,f,n,b,d) o) (hd Tryz.f236 0) ⟨[(1,.win true syS 1099511627776 0 o.length),(2,.ptr 2 0),(7,.i n),(8,.i ((0:Nat):Int))],[(2,.var (oJ k f n b d)),(1099511627776,.row 93 syS o)]⟩:=by
  refine qaj cx0 _ _ _ ((qu4 k f n b d o 0 _ _).mpr ?_);rw[decide_eq_true (show ((0:Nat):Int)<n by omega),bc_t,IntWalk.i64_in (((0:Nat):Int)+1) (by omega)];refine ⟨Nat.le_refl 1,rfl,rfl,?_,by decide,?_⟩
  ·show o.length+1<2 ^ 30
   omega
  ·refine Good.onlyR (qua k f n b d o ⟨h3,trivial⟩ c 1 (o++[elO 1 (k,f,n,b,d) 0]) (by omega) (by omega) (by rw[List.length_append,List.length_singleton];omega) (by rw[List.append_assoc];unfold qaz;rw[hc];rfl)) [(1,18)] rfl ⟨by rw[List.length_append];rfl,rfl,rfl,rfl,trivial⟩ ⟨rfl,rfl,trivial⟩
 exact e.only ⟨rfl,rfl,rfl,rfl,trivial⟩ ⟨rfl,rfl,trivial⟩
theorem qt4 (k f n b:Int) (d:List Int) (o0:List SyT) (hb:n<268435456/\d.length<268435456):∀ (c i:Nat) (o:List SyT),cntO 2 (k,f,n,b,d)-i=c->i<=cntO 2 (k,f,n,b,d)->o.length+c<268435456->o++gen (elO 2 (k,f,n,b,d)) c i=o0++qaz 2 (k,f,n,b,d) ->
  GD 240 Tryz.f240 (GQ 2 (k,f,n,b,d) o0) (hd Tryz.f240 0) ⟨[(1,.win true syS 1 0 o.length),(2,.ptr 2 0),(8,.sl uB d),(9,.i d.length),(10,.i (i:Nat))],[(2,.var (oJ k f n b d)),(1,.row 93 syS o)]⟩:=by
 intro c
 induction c with
 | zero=>
  intro i o hc hi hl he;have hn:cntO 2 (k,f,n,b,d)=d.length:=rfl;refine qaj cx0 _ _ _ ((qn4 k f n b d o i _ _).mpr ?_);rw[decide_eq_false (by omega),bc_f];have he:o=o0++qaz 2 (k,f,n,b,d):=by simpa [gen] using he
  exact QI.row (e:=syS) (et:=93) (a:=1) (xs:=o0++qaz 2 (k,f,n,b,d)) rfl rfl (by rw[he]) rfl (by rw[he];rfl) (by decide)
 | succ c ih=>
  intro i o hc hi hl he;have hn:cntO 2 (k,f,n,b,d)=d.length:=rfl;refine qaj cx0 _ _ _ ((qn4 k f n b d o i _ _).mpr ?_);rw[decide_eq_true (show (i:Int)<(d.length:Int) by omega),bc_t,IntWalk.i64_in ((i:Int)+1) (by omega),Int.toNat_natCast];refine ⟨by omega,by omega,Nat.le_refl 1,rfl,rfl,?_,by decide,?_⟩
  ·show o.length+1<2 ^ 30
   omega
  ·refine Good.onlyR (ih (i+1) (o++[elO 2 (k,f,n,b,d) i]) (by omega) (by omega) (by rw[List.length_append,List.length_singleton];omega) (by rw[List.append_assoc];exact he)) [(1,23)] rfl ⟨by rw[List.length_append];rfl,rfl,rfl,rfl,rfl,trivial⟩ ⟨rfl,rfl,trivial⟩
theorem qt5:HeldI Tryz.prog G0 240 (ctA 2):=by
 refine HeldI.run cx0 (fn:=Tryz.f240) rfl rfl ⟨by decide,by decide⟩ ?_;rintro ⟨⟨k,f,n,b,d⟩,o,⟨⟩⟩ hp;obtain ⟨h1,h2,h3⟩:preA 2 (k,f,n,b,d) o:=hp;have hn:cntO 2 (k,f,n,b,d)=d.length:=rfl;replace h3:n<268435456:=h3;refine (qyy k f n b d o _ _).mpr ?_;have hb:n<268435456/\d.length<268435456:=⟨h3,by omega⟩;obtain ⟨c,hc⟩:∃ c,cntO 2 (k,f,n,b,d)=c+1:=⟨cntO 2 (k,f,n,b,d)-1,by omega⟩;have e:GD 240 Tryz.f240 (GQ 2 (k,f,n,b,d) o) (hd Tryz.f240 0) ⟨[(1,.win true syS 1099511627776 0 o.length),(2,.ptr 2 0),(8,.sl uB d),(9,.i d.length),(10,.i ((0:Nat):Int))],[(2,.var (oJ k f n b d)),(1099511627776,.row 93 syS o)]⟩:=by
  refine qaj cx0 _ _ _ ((qu3 k f n b d o 0 _ _).mpr ?_);rw[decide_eq_true (show ((0:Nat):Int)<(d.length:Int) by omega),bc_t,IntWalk.i64_in (((0:Nat):Int)+1) (by omega),Int.toNat_natCast];refine ⟨by omega,by omega,Nat.le_refl 1,rfl,rfl,?_,by decide,?_⟩
  ·show o.length+1<2 ^ 30
   omega
  ·refine Good.onlyR (qt4 k f n b d o hb c 1 (o++[elO 2 (k,f,n,b,d) 0]) (by omega) (by omega) (by rw[List.length_append,List.length_singleton];omega) (by rw[List.append_assoc];unfold qaz;rw[hc];rfl)) [(1,23)] rfl ⟨by rw[List.length_append];rfl,rfl,rfl,rfl,rfl,trivial⟩ ⟨rfl,rfl,trivial⟩
 exact e.only ⟨rfl,rfl,rfl,rfl,rfl,trivial⟩ ⟨rfl,rfl,trivial⟩
theorem qvr (k f n b:Int) (d:List Int) (o0:List SyT) (hb:n<268435456/\True):∀ (c i:Nat) (o:List SyT),cntO 3 (k,f,n,b,d)-i=c->i<=cntO 3 (k,f,n,b,d)->o.length+c<268435456->o++gen (elO 3 (k,f,n,b,d)) c i=o0++qaz 3 (k,f,n,b,d) ->
  GD 243 Tryz.f243 (GQ 3 (k,f,n,b,d) o0) (hd Tryz.f243 0) ⟨[(1,.win true syS 1 0 o.length),(2,.ptr 2 0),(6,.i n),(7,.i (i:Nat))],[(2,.var (oJ k f n b d)),(1,.row 93 syS o)]⟩:=by
 intro c
 induction c with
 | zero=>
  intro i o hc hi hl he;have hn:cntO 3 (k,f,n,b,d)=n.toNat:=rfl;refine qaj cx0 _ _ _ ((qq3 k f n b d o i _ _).mpr ?_);rw[decide_eq_false (by omega),bc_f];have he:o=o0++qaz 3 (k,f,n,b,d):=by simpa [gen] using he
  exact QI.row (e:=syS) (et:=93) (a:=1) (xs:=o0++qaz 3 (k,f,n,b,d)) rfl rfl (by rw[he]) rfl (by rw[he];rfl) (by decide)
 | succ c ih=>
  intro i o hc hi hl he;have hn:cntO 3 (k,f,n,b,d)=n.toNat:=rfl;refine qaj cx0 _ _ _ ((qq3 k f n b d o i _ _).mpr ?_);rw[decide_eq_true (show (i:Int)<n by omega),bc_t,IntWalk.i64_in ((i:Int)+1) (by omega)];refine ⟨Nat.le_refl 1,rfl,rfl,?_,by decide,?_⟩
  ·show o.length+1<2 ^ 30
   omega
  ·refine Good.onlyR (ih (i+1) (o++[elO 3 (k,f,n,b,d) i]) (by omega) (by omega) (by rw[List.length_append,List.length_singleton];omega) (by rw[List.append_assoc];exact he)) [(1,14)] rfl ⟨by rw[List.length_append];rfl,rfl,rfl,rfl,trivial⟩ ⟨rfl,rfl,trivial⟩
theorem qvs:HeldI Tryz.prog G0 243 (ctA 3):=by
 refine HeldI.run cx0 (fn:=Tryz.f243) rfl rfl ⟨by decide,by decide⟩ ?_;rintro ⟨⟨k,f,n,b,d⟩,o,⟨⟩⟩ hp;obtain ⟨h1,h2,h3⟩:preA 3 (k,f,n,b,d) o:=hp;have hn:cntO 3 (k,f,n,b,d)=n.toNat:=rfl;replace h3:n<268435456:=h3;refine (q39 k f n b d o _ _).mpr ?_;have hb:n<268435456/\True:=⟨h3,trivial⟩;obtain ⟨c,hc⟩:∃ c,cntO 3 (k,f,n,b,d)=c+1:=⟨cntO 3 (k,f,n,b,d)-1,by omega⟩;have e:GD 243 Tryz.f243 (GQ 3 (k,f,n,b,d) o) (hd Tryz.f243 0) ⟨[(1,.win true syS 1099511627776 0 o.length),(2,.ptr 2 0),(6,.i n),(7,.i ((0:Nat):Int))],[(2,.var (oJ k f n b d)),(1099511627776,.row 93 syS o)]⟩:=by
  refine qaj cx0 _ _ _ ((qyn k f n b d o 0 _ _).mpr ?_);rw[decide_eq_true (show ((0:Nat):Int)<n by omega),bc_t,IntWalk.i64_in (((0:Nat):Int)+1) (by omega)];refine ⟨Nat.le_refl 1,rfl,rfl,?_,by decide,?_⟩
  ·show o.length+1<2 ^ 30
   omega
  ·refine Good.onlyR (qvr k f n b d o ⟨h3,trivial⟩ c 1 (o++[elO 3 (k,f,n,b,d) 0]) (by omega) (by omega) (by rw[List.length_append,List.length_singleton];omega) (by rw[List.append_assoc];unfold qaz;rw[hc];rfl)) [(1,14)] rfl ⟨by rw[List.length_append];rfl,rfl,rfl,rfl,trivial⟩ ⟨rfl,rfl,trivial⟩
 exact e.only ⟨rfl,rfl,rfl,rfl,trivial⟩ ⟨rfl,rfl,trivial⟩
theorem qw8 (k f n b:Int) (d:List Int) (o0:List SyT) (hb:n<268435456/\d.length<268435456):∀ (c i:Nat) (o:List SyT),cntO 4 (k,f,n,b,d)-i=c->i<=cntO 4 (k,f,n,b,d)->o.length+c<268435456->o++gen (elO 4 (k,f,n,b,d)) c i=o0++qaz 4 (k,f,n,b,d) ->
  GD 246 Tryz.f246 (GQ 4 (k,f,n,b,d) o0) (hd Tryz.f246 0) ⟨[(1,.win true syS 1 0 o.length),(2,.ptr 2 0),(8,.sl uB d),(9,.i d.length),(10,.i (i:Nat))],[(2,.var (oJ k f n b d)),(1,.row 93 syS o)]⟩:=by
 intro c
 induction c with
 | zero=>
  intro i o hc hi hl he;have hn:cntO 4 (k,f,n,b,d)=d.length:=rfl;refine qaj cx0 _ _ _ ((qq6 k f n b d o i _ _).mpr ?_);rw[decide_eq_false (by omega),bc_f];have he:o=o0++qaz 4 (k,f,n,b,d):=by simpa [gen] using he
  exact QI.row (e:=syS) (et:=93) (a:=1) (xs:=o0++qaz 4 (k,f,n,b,d)) rfl rfl (by rw[he]) rfl (by rw[he];rfl) (by decide)
 | succ c ih=>
  intro i o hc hi hl he;have hn:cntO 4 (k,f,n,b,d)=d.length:=rfl;refine qaj cx0 _ _ _ ((qq6 k f n b d o i _ _).mpr ?_);rw[decide_eq_true (show (i:Int)<(d.length:Int) by omega),bc_t,IntWalk.i64_in ((i:Int)+1) (by omega),Int.toNat_natCast];refine ⟨by omega,by omega,Nat.le_refl 1,rfl,rfl,?_,by decide,?_⟩
  ·show o.length+1<2 ^ 30
   omega
  ·refine Good.onlyR (ih (i+1) (o++[elO 4 (k,f,n,b,d) i]) (by omega) (by omega) (by rw[List.length_append,List.length_singleton];omega) (by rw[List.append_assoc];exact he)) [(1,18)] rfl ⟨by rw[List.length_append];rfl,rfl,rfl,rfl,rfl,trivial⟩ ⟨rfl,rfl,trivial⟩
theorem qw9:HeldI Tryz.prog G0 246 (ctA 4):=by
 refine HeldI.run cx0 (fn:=Tryz.f246) rfl rfl ⟨by decide,by decide⟩ ?_;rintro ⟨⟨k,f,n,b,d⟩,o,⟨⟩⟩ hp;obtain ⟨h1,h2,h3⟩:preA 4 (k,f,n,b,d) o:=hp;have hn:cntO 4 (k,f,n,b,d)=d.length:=rfl;replace h3:n<268435456:=h3;refine (q4x k f n b d o _ _).mpr ?_;have hb:n<268435456/\d.length<268435456:=⟨h3,by omega⟩;obtain ⟨c,hc⟩:∃ c,cntO 4 (k,f,n,b,d)=c+1:=⟨cntO 4 (k,f,n,b,d)-1,by omega⟩;have e:GD 246 Tryz.f246 (GQ 4 (k,f,n,b,d) o) (hd Tryz.f246 0) ⟨[(1,.win true syS 1099511627776 0 o.length),(2,.ptr 2 0),(8,.sl uB d),(9,.i d.length),(10,.i ((0:Nat):Int))],[(2,.var (oJ k f n b d)),(1099511627776,.row 93 syS o)]⟩:=by
  refine qaj cx0 _ _ _ ((qyt k f n b d o 0 _ _).mpr ?_);rw[decide_eq_true (show ((0:Nat):Int)<(d.length:Int) by omega),bc_t,IntWalk.i64_in (((0:Nat):Int)+1) (by omega),Int.toNat_natCast];refine ⟨by omega,by omega,Nat.le_refl 1,rfl,rfl,?_,by decide,?_⟩
  ·show o.length+1<2 ^ 30
   omega
  ·refine Good.onlyR (qw8 k f n b d o hb c 1 (o++[elO 4 (k,f,n,b,d) 0]) (by omega) (by omega) (by rw[List.length_append,List.length_singleton];omega) (by rw[List.append_assoc];unfold qaz;rw[hc];rfl)) [(1,18)] rfl ⟨by rw[List.length_append];rfl,rfl,rfl,rfl,rfl,trivial⟩ ⟨rfl,rfl,trivial⟩
 exact e.only ⟨rfl,rfl,rfl,rfl,rfl,trivial⟩ ⟨rfl,rfl,trivial⟩
def CA:CV:=(246,.inr (ctA 4))::(243,.inr (ctA 3))::(240,.inr (ctA 2))::(236,.inr (ctA 1))::(25,.inl ctChk)::C1
theorem cxA:CxOK Tryz.prog tt G0 CA:=((((cx1.k q1s (fn:=Tryz.f25)).consI qub (fn:=Tryz.f236) rfl rfl rfl).consI qt5 (fn:=Tryz.f240) rfl rfl rfl).consI qvs (fn:=Tryz.f243) rfl rfl rfl).consI qw9 (fn:=Tryz.f246) rfl rfl rfl
def E1:CV:=(68,.inl (ctO 1 181))::CA
def E2:CV:=(68,.inl (ctO 2 182))::CA
def E3:CV:=(68,.inl (ctO 3 183))::CA
def E4:CV:=(68,.inl (ctO 4 184))::CA
theorem ex1:CxOK Tryz.prog tt G0 E1:=cxA.k qws (fn:=Tryz.f68)
theorem ex2:CxOK Tryz.prog tt G0 E2:=cxA.k qwr (fn:=Tryz.f68)
theorem ex3:CxOK Tryz.prog tt G0 E3:=cxA.k qwq (fn:=Tryz.f68)
theorem ex4:CxOK Tryz.prog tt G0 E4:=cxA.k qwp (fn:=Tryz.f68)
set_option maxRecDepth 100000
theorem q35 (li:Bool) (m o:Int) (l:List OpT) (Q:QT) (R:RT):sA CA Tryz.f22 Q R [.code (qad Tryz.f22)] (entry [paS] ((li,m,o,l),())) =
  (ctChk.pre ((li,m,o,l),())/\bc (decide ((chkV (li,m,o,l)).2≠0)) (Q [.nils,.i (chkV (li,m,o,l)).2] [(1,.var (pL li m o l))]) ((0:Int)<=0/\(0:Int)<=o/\o<2 ^ 24/\(↑(24:Nat):Int)*o<=2 ^ 48/\R (hd Tryz.f22 0) { env:=[(0,.agg (pL li m o l)),(1,.ptr 1 0),(2,.nils),(3,.i 0),(4,.i (chkV (li,m,o,l)).1),(5,.i (chkV (li,m,o,l)).2),(6,.win true syS 19 0 (0:Nat)),(9,SV.tup [.i (chkV (li,m,o,l)).1,.i (chkV (li,m,o,l)).2]),(10,.agg (pL li m o l)),(11,SV.tup [.i (chkV (li,m,o,l)).1,.i (chkV (li,m,o,l)).2]),(12,.i (chkV (li,m,o,l)).1),(13,.i (chkV (li,m,o,l)).2),(14,.i (chkV (li,m,o,l)).2),(15,.bool (decide ((chkV (li,m,o,l)).2≠0))),(17,.ptr 1 2),(18,.i o),(19,.win true syS 19 0 (0:Nat)),(20,.ptr 1 3),(21,.sl opS l),(22,.i l.length),(23,.i 0)],blk:=[(1,.var (pL li m o l)),(19,.row 93 syS (List.replicate (0) syS.dflt))] })):=by kernel_rfl
theorem qn1 (li:Bool) (m o:Int) (l:List OpT) (s:List SyT) (i:Nat) (Q:QT) (R:RT):sA E1 Tryz.f22 Q R (hd Tryz.f22 0) ⟨[(1,.ptr 1 0),(6,.win true syS 19 0 s.length),(21,.sl opS l),(22,.i l.length),(23,.i (i:Nat))],[(1,.var (pL li m o l)),(19,.row 93 syS s)]⟩ =
  (bc (decide ((i:Int)<l.length)) ((0:Int)<=i/\(i:Int)<l.length/\(ctO (1:Int) (181:Nat)).pre ((gtO l (i:Int).toNat),())/\s.length=s.length/\(ctA (1:Nat)).pre ((gtO l (i:Int).toNat),s,())/\R (hd Tryz.f22 0) { env:=[(1,.ptr 1 0),(6,.win true syS 1122880 0 (List.length (s++qaz (1:Nat) (gtO l (i:Int).toNat)))),(8,.ptr 8 0),(21,.sl opS l),(22,.i l.length),(23,.i (i64.wrap ((i:Int)+1))),(24,.bool (decide ((i:Int)<l.length))),(25,.elv opS (gtO l (i:Int).toNat)),(26,.agg (oI (gtO l (i:Int).toNat))),(27,.agg (oI (gtO l (i:Int).toNat))),(28,.ifc (181:Nat) true (oI (gtO l (i:Int).toNat))),(29,.dead),(30,.win true syS 1122880 0 (List.length (s++qaz (1:Nat) (gtO l (i:Int).toNat)))),(31,.i (i64.wrap ((i:Int)+1)))],blk:=[(1,.var (pL li m o l)),(8,.var (oI (gtO l (i:Int).toNat))),(1122880,.row 93 syS (s++qaz (1:Nat) (gtO l (i:Int).toNat)))] }) (Q [.win true syS 19 0 s.length,.i 0] [(1,.var (pL li m o l)),(19,.row 93 syS s)])):=by kernel_rfl
theorem qun (li:Bool) (m o:Int) (l:List OpT) (s:List SyT) (i:Nat) (Q:QT) (R:RT):sA E2 Tryz.f22 Q R (hd Tryz.f22 0) ⟨[(1,.ptr 1 0),(6,.win true syS 19 0 s.length),(21,.sl opS l),(22,.i l.length),(23,.i (i:Nat))],[(1,.var (pL li m o l)),(19,.row 93 syS s)]⟩ =
  (bc (decide ((i:Int)<l.length)) ((0:Int)<=i/\(i:Int)<l.length/\(ctO (2:Int) (182:Nat)).pre ((gtO l (i:Int).toNat),())/\s.length=s.length/\(ctA (2:Nat)).pre ((gtO l (i:Int).toNat),s,())/\R (hd Tryz.f22 0) { env:=[(1,.ptr 1 0),(6,.win true syS 1122880 0 (List.length (s++qaz (2:Nat) (gtO l (i:Int).toNat)))),(8,.ptr 8 0),(21,.sl opS l),(22,.i l.length),(23,.i (i64.wrap ((i:Int)+1))),(24,.bool (decide ((i:Int)<l.length))),(25,.elv opS (gtO l (i:Int).toNat)),(26,.agg (oI (gtO l (i:Int).toNat))),(27,.agg (oI (gtO l (i:Int).toNat))),(28,.ifc (182:Nat) true (oI (gtO l (i:Int).toNat))),(29,.dead),(30,.win true syS 1122880 0 (List.length (s++qaz (2:Nat) (gtO l (i:Int).toNat)))),(31,.i (i64.wrap ((i:Int)+1)))],blk:=[(1,.var (pL li m o l)),(8,.var (oI (gtO l (i:Int).toNat))),(1122880,.row 93 syS (s++qaz (2:Nat) (gtO l (i:Int).toNat)))] }) (Q [.win true syS 19 0 s.length,.i 0] [(1,.var (pL li m o l)),(19,.row 93 syS s)])):=by kernel_rfl
theorem qum (li:Bool) (m o:Int) (l:List OpT) (s:List SyT) (i:Nat) (Q:QT) (R:RT):sA E3 Tryz.f22 Q R (hd Tryz.f22 0) ⟨[(1,.ptr 1 0),(6,.win true syS 19 0 s.length),(21,.sl opS l),(22,.i l.length),(23,.i (i:Nat))],[(1,.var (pL li m o l)),(19,.row 93 syS s)]⟩ =
  (bc (decide ((i:Int)<l.length)) ((0:Int)<=i/\(i:Int)<l.length/\(ctO (3:Int) (183:Nat)).pre ((gtO l (i:Int).toNat),())/\s.length=s.length/\(ctA (3:Nat)).pre ((gtO l (i:Int).toNat),s,())/\R (hd Tryz.f22 0) { env:=[(1,.ptr 1 0),(6,.win true syS 1122880 0 (List.length (s++qaz (3:Nat) (gtO l (i:Int).toNat)))),(8,.ptr 8 0),(21,.sl opS l),(22,.i l.length),(23,.i (i64.wrap ((i:Int)+1))),(24,.bool (decide ((i:Int)<l.length))),(25,.elv opS (gtO l (i:Int).toNat)),(26,.agg (oI (gtO l (i:Int).toNat))),(27,.agg (oI (gtO l (i:Int).toNat))),(28,.ifc (183:Nat) true (oI (gtO l (i:Int).toNat))),(29,.dead),(30,.win true syS 1122880 0 (List.length (s++qaz (3:Nat) (gtO l (i:Int).toNat)))),(31,.i (i64.wrap ((i:Int)+1)))],blk:=[(1,.var (pL li m o l)),(8,.var (oI (gtO l (i:Int).toNat))),(1122880,.row 93 syS (s++qaz (3:Nat) (gtO l (i:Int).toNat)))] }) (Q [.win true syS 19 0 s.length,.i 0] [(1,.var (pL li m o l)),(19,.row 93 syS s)])):=by kernel_rfl
theorem qul (li:Bool) (m o:Int) (l:List OpT) (s:List SyT) (i:Nat) (Q:QT) (R:RT):sA E4 Tryz.f22 Q R (hd Tryz.f22 0) ⟨[(1,.ptr 1 0),(6,.win true syS 19 0 s.length),(21,.sl opS l),(22,.i l.length),(23,.i (i:Nat))],[(1,.var (pL li m o l)),(19,.row 93 syS s)]⟩ =
  (bc (decide ((i:Int)<l.length)) ((0:Int)<=i/\(i:Int)<l.length/\(ctO (4:Int) (184:Nat)).pre ((gtO l (i:Int).toNat),())/\s.length=s.length/\(ctA (4:Nat)).pre ((gtO l (i:Int).toNat),s,())/\R (hd Tryz.f22 0) { env:=[(1,.ptr 1 0),(6,.win true syS 1122880 0 (List.length (s++qaz (4:Nat) (gtO l (i:Int).toNat)))),(8,.ptr 8 0),(21,.sl opS l),(22,.i l.length),(23,.i (i64.wrap ((i:Int)+1))),(24,.bool (decide ((i:Int)<l.length))),(25,.elv opS (gtO l (i:Int).toNat)),(26,.agg (oI (gtO l (i:Int).toNat))),(27,.agg (oI (gtO l (i:Int).toNat))),(28,.ifc (184:Nat) true (oI (gtO l (i:Int).toNat))),(29,.dead),(30,.win true syS 1122880 0 (List.length (s++qaz (4:Nat) (gtO l (i:Int).toNat)))),(31,.i (i64.wrap ((i:Int)+1)))],blk:=[(1,.var (pL li m o l)),(8,.var (oI (gtO l (i:Int).toNat))),(1122880,.row 93 syS (s++qaz (4:Nat) (gtO l (i:Int).toNat)))] }) (Q [.win true syS 19 0 s.length,.i 0] [(1,.var (pL li m o l)),(19,.row 93 syS s)])):=by kernel_rfl
theorem qn2 (n:Int) (Q:QT) (R:RT):sA [] Tryz.f57 Q R [.code (qad Tryz.f57)] (entry [iI] (n,())) =
  (bc (decide (n=(0:Int))) (Q [.agg [.bool false,.i 0,.i 0,.nils]] [(2,.var [.bool false,.i 0,.i 0,.nils])]) (Q [.agg [.bool false,.i n,.i n,.win true opS 10 0 (1:Nat)]] [(2,.var [.bool false,.i n,.i n,.win true opS 10 0 (1:Nat)]),(10,.row 91 opS ([((1:Int),(0:Int),n,(0:Int),[])]:List opS.D))])):=by kernel_rfl
def qcd (x y:OpT):List (Nat × LB):=[(2,.var (oJ x.1 x.2.1 x.2.2.1 x.2.2.2.1 x.2.2.2.2)),(3,.var (oJ y.1 y.2.1 y.2.2.1 y.2.2.2.1 y.2.2.2.2))]
theorem qup (x y:OpT) (Q:QT) (R:RT):sA [] Tryz.f76 Q R [.code (qad Tryz.f76)] (entry [opS,opS] (x,y,())) =
  (bc (decide (x.1=y.1)) (bc (decide (x.2.1=y.2.1)) (bc (decide (x.2.2.1=y.2.2.1)) (bc (decide (x.2.2.2.1=y.2.2.2.1)) (Q [.bool (decide (List.map toB x.2.2.2.2=List.map toB y.2.2.2.2))] (qcd x y)) (false=false/\Q [.bool false] (qcd x y))) (false=false/\false=false/\Q [.bool false] (qcd x y))) (false=false/\false=false/\false=false/\Q [.bool false] (qcd x y))) (false=false/\false=false/\false=false/\false=false/\Q [.bool false] (qcd x y))):=by kernel_rfl
theorem qk5 {l:List Int} {i:Nat} (h:i<l.length):gtB l i=l[i]:=gtE (e:=uB) h
theorem qke {ct:Ctr} {x:DL ct.args} {rs:List SV} {blk:List (Nat × LB)} {e:Sh} {et:TypeId} {a k:Nat} {z:Int} {xs:List e.D} (h:ct.out x=[.win true e 0 0 xs.length,.i z]) (hr:ct.rows x=[.row et e xs]) (hs:rs=[.win true e a 0 k,.i z]) (hk:k=xs.length) (hb:lk blk a=some (.row et e xs)):QC ct x rs blk:=by
 subst hs;subst hk;refine ⟨λ i=>if i=0 then some a else none,?_,?_,λ i j b h1 h2=>?_,by rw[hr];rfl⟩
 ·rw[h];exact ⟨_,_,rfl,.inl ⟨true,a,rfl,rfl,λ h=>h⟩,_,_,rfl,rfl,rfl⟩
 ·rw[hr];exact ⟨.inl ⟨a,rfl,hb⟩,trivial⟩
 ·simp only at h1 h2;split at h1
  ·split at h2
   ·omega
   ·cases h2
  ·cases h1
theorem qkf {ct:Ctr} {x:DL ct.args} {rs:List SV} {blk:List (Nat × LB)} {e:Sh} {et:TypeId} {z:Int} (h:ct.out x=[.win true e 0 0 0,.i z]) (hr:ct.rows x=[.row et e []]) (hs:rs=[.nils,.i z]) (he:0<e.size):QC ct x rs blk:=by
 subst hs;refine ⟨λ _=>none,?_,?_,λ i j b h1 h2=>?_,by rw[hr];rfl⟩
 ·rw[h];exact ⟨_,_,rfl,.inr ⟨rfl,rfl,rfl,rfl⟩,_,_,rfl,rfl,rfl⟩
 ·rw[hr];exact ⟨.inr ⟨rfl,_,_,rfl,he⟩,trivial⟩
 ·simp at h1
def ruOK (old:List Int) (s:SyT):Bool := !s.1 || (decide (0<=s.2.1)&&decide (s.2.1<old.length))
def ruB (old:List Int) (s:SyT):Int:=if s.1=true then IntKind.u8.wrap (s.2.2+gtB old s.2.1.toNat) else s.2.2
def runV (old:List Int) (l:List SyT):List Int × Int:=if l.all (ruOK old)=true then (l.map (ruB old),0) else ([],61)
def ctRun:Ctr:=⟨[.sl uB,.sl syS],λ x=>List.length x.2.1<16777216,λ x=>[.win true uB 0 0 (runV x.1 x.2.1).1.length,.i (runV x.1 x.2.1).2],λ x=>[.row 5 uB (runV x.1 x.2.1).1]⟩
abbrev RQ (old:List Int) (l:List SyT):List SV->List (Nat × LB)->Prop:=QC ctRun (old,l,())
theorem qvo {old:List Int} {l:List SyT} {i:Nat} (h:i<l.length) (hb:ruOK old l[i]=false):runV old l=([],61):=by
 unfold runV
 rw[if_neg λ q=>by
  have:=List.all_eq_true.1 q l[i] (List.getElem_mem h)
  rw[hb] at this;cases this]
theorem qvn {old:List Int} {l:List SyT} (hb:runV old l=([],61)) {blk:List (Nat × LB)}:RQ old l [.nils,.i 61] blk:=by
 refine qkf (e:=uB) (et:=5) (z:=61) ?_ ?_ rfl (by decide)
 ·show [_,_]=_;rw[hb];rfl
 ·show [_]=_;rw[hb]
theorem qzm (old:List Int) (l:List SyT) (hl:l.length<16777216):∀ (k i:Nat) (b:List Int),l.length-i=k->i<=l.length->b.length=l.length->(∀ j,j<i->b[j]?=(l.map (ruB old))[j]?)->(∀ j (h:j<i) (h2:j<l.length),ruOK old l[j]=true) ->
  GD 19 Tryz.f19 (RQ old l) (hd Tryz.f19 0) ⟨[(0,.sl uB old),(6,.win true uB 11 0 b.length),(12,.sl syS l),(13,.i l.length),(14,.i (i:Nat))],[(11,.row 5 uB b)]⟩:=by
 intro k
 induction k with
 | zero=>
  intro i b hk hi hb hj ho;have hi:i=l.length:=by omega
  subst hi;refine qaj cx0 _ _ _ ((quq old b l _ _ _).mpr ?_);rw[decide_eq_false (by omega),bc_f];have hv:runV old l=(l.map (ruB old),0):=by
   unfold runV
   rw[if_pos (List.all_eq_true.2 λ s hs=>by
    obtain ⟨j,hj,rfl⟩:=List.getElem_of_mem hs
    exact ho j hj hj)]
  have hbl:b=l.map (ruB old):=by
   refine List.ext_getElem? λ j=>?_
   by_cases h:j<l.length
   ·exact hj j h
   ·rw[List.getElem?_eq_none (by omega),List.getElem?_eq_none (by rw[List.length_map];omega)]
  refine qke (e:=uB) (et:=5) (a:=11) (z:=0) (xs:=b) ?_ ?_ rfl rfl rfl
  ·show [_,_]=_;rw[hv,hbl]
  ·show [_]=_;rw[hv,hbl]
 | succ k ih=>
  intro i b hk hi hb hj ho;have hil:i<l.length:=by omega
  refine qaj cx0 _ _ _ ((quq old b l i _ _).mpr ?_);rw[decide_eq_true (show (i:Int)<(l.length:Int) by omega),bc_t,Int.toNat_natCast,qay hil,IntWalk.i64_in ((i:Int)+1) (by omega),Nat.zero_add];have nx:∀ b':List Int,b'.length=b.length->(∀ j,j≠i->b'[j]?=b[j]?)->b'[i]?=some (ruB old l[i])->ruOK old l[i]=true->GD 19 Tryz.f19 (RQ old l) (hd Tryz.f19 0) ⟨[(0,.sl uB old),(6,.win true uB 11 0 b'.length),(12,.sl syS l),(13,.i l.length),(14,.i ((i+1:Nat):Int))],[(11,.row 5 uB b')]⟩:=λ b' h1 h2 h3 h4=>by
   refine ih (i+1) b' (by omega) (by omega) (by omega) (λ j h=>?_) (λ j h h'=>?_)
   ·by_cases hji:j=i
    ·subst hji;rw[h3,List.getElem?_map,List.getElem?_eq_getElem hil];rfl
    ·rw[h2 j hji];exact hj j (by omega)
   ·by_cases hji:j=i
    ·subst hji;exact h4
    ·exact ho j (by omega) h'
  generalize hs:l[i]=s at nx;obtain ⟨f,a,v⟩:=s;refine ⟨by omega,by omega,by omega,by omega,by omega,qaf (λ h=>?_) (λ h=>qaf (λ h2=>⟨rfl,?_⟩) (λ h2=>qaf (λ h3=>?_) (λ h3=>?_)))⟩
  ·have h:f=false:=by simpa using h
   subst h;refine (nx (b.set i v) (by rw[List.length_set]) (λ j hji=>by rw[List.getElem?_set_ne (by omega)]) (by rw[List.getElem?_set_self (by omega)];rfl) rfl).only ⟨rfl,by rw[List.length_set];rfl,rfl,rfl,rfl,trivial⟩ ⟨rfl,trivial⟩
  ·have h:f=true:=by simpa using h
   subst h;have h2:a<0:=of_decide_eq_true h2;exact qvn (qvo hil (by rw[hs];simp[ruOK];omega))
  ·have h:f=true:=by simpa using h
   subst h;have h3:(old.length:Int)<=a:=of_decide_eq_true h3;exact qvn (qvo hil (by rw[hs];simp[ruOK];omega))
  ·have h:f=true:=by simpa using h
   subst h;have h2:¬ a<0:=of_decide_eq_false h2;have h3:¬ (old.length:Int)<=a:=of_decide_eq_false h3;refine ⟨by omega,by omega,by rw[List.length_set];omega,by show 0<=a;omega,by show a<_;omega,by omega,by omega,by rw[List.length_set];omega,?_⟩;have e:gtB (b.set i v) i=v:=by
    rw[qk5 (by rw[List.length_set];omega),List.getElem_set_self]
   rw[e];refine (nx ((b.set i v).set i (IntKind.u8.wrap (v+gtB old a.toNat))) (by rw[List.length_set,List.length_set]) (λ j hji=>by rw[List.getElem?_set_ne (by omega),List.getElem?_set_ne (by omega)]) (by rw[List.getElem?_set_self (by rw[List.length_set];omega)];rfl) (by simp[ruOK];omega)).only ⟨rfl,by rw[List.length_set,List.length_set];rfl,rfl,rfl,rfl,trivial⟩ ⟨rfl,trivial⟩
theorem qzn:Held Tryz.prog G0 19 ctRun:=by
 refine Held.run cx0 (fn:=Tryz.f19) rfl rfl ⟨by decide,by decide⟩ ?_;rintro ⟨old,l,⟨⟩⟩ hp;replace hp:l.length<16777216:=hp;refine (q8f old l _ _).mpr ⟨by omega,by omega,?_,?_,?_⟩
 ·show (l.length:Int)<16777216
  omega
 ·show (1:Int)*(l.length:Int)<=281474976710656
  omega
 ·exact (qzm old l hp _ 0 (List.replicate (l.length:Int).toNat 0) rfl (by omega) (by rw[List.length_replicate,Int.toNat_natCast]) (λ j h=>by omega) (λ j h=>by omega)).only ⟨rfl,by rw[List.length_replicate];rfl,rfl,rfl,rfl,trivial⟩ ⟨rfl,trivial⟩
def soB (x y:OpT):Bool:=decide (x.1=y.1)&&(decide (x.2.1=y.2.1)&&(decide (x.2.2.1=y.2.2.1)&&(decide (x.2.2.2.1=y.2.2.2.1)&&decide (x.2.2.2.2.map toB=y.2.2.2.2.map toB))))
def ctSO:Ctr:=⟨[opS,opS],λ _=>True,λ x=>[.bool (soB x.1 x.2.1)],λ _=>[]⟩
theorem q5t:Held Tryz.prog G0 76 ctSO:=by
 refine Held.run cx0 (fn:=Tryz.f76) rfl rfl ⟨by decide,by decide⟩ ?_;rintro ⟨x,y,⟨⟩⟩ _;refine (qup x y _ _).mpr ?_
 cases e1:decide (x.1=y.1) <;> cases e2:decide (x.2.1=y.2.1) <;> cases e3:decide (x.2.2.1=y.2.2.1) <;> cases e4:decide (x.2.2.2.1=y.2.2.2.1) <;>
  simp only[bc_t,bc_f,cond_true,cond_false,true_and] <;> exact QC.flat (by simp only[ctSO,soB,e1,e2,e3,e4];rfl) rfl rfl
def ofV (l:List SyT) (m:Int):PaT × Int:=if szB m=true/\szB l.length=true/\l.all (sOK m)=true then (if 4096<(opsL l).length then ((false,0,0,[]),2) else ((false,m,l.length,opsL l),0)) else ((false,0,0,[]),60)
def paV (p:PaT):SV:=.agg (pL p.1 p.2.1 p.2.2.1 p.2.2.2)
def lenS (l:List OpT):Int:=(l.map λ x=>x.2.2.1).sum
theorem q3u {m N:Int}:∀ {l:List OpT} {left i:Int},(chkF m N l left i).2=0->0<=left->(∀ x∈l,isRB x m=true)/\lenS l=left
 | [],left,i,h,h0=>by
  refine ⟨λ x hx=>by simp at hx,?_⟩;simp only[chkF] at h;split at h
  ·cases h
  ·show (0:Int)=left;omega
 | x::l,left,i,h,h0=>by
  simp only[chkF] at h;split at h
  ·cases h
  next h1=>
   split at h
   ·cases h
   next h2=>
    have hr:isRB x m=true:=by simpa using h1
    have hx:=qdt hr;obtain ⟨k1,k2⟩:=q3u h (by omega);refine ⟨λ y hy=>?_,?_⟩
    ·rcases List.mem_cons.1 hy with rfl | hy
     ·exact hr
     ·exact k1 y hy
    ·simp only[lenS,List.map_cons,List.sum_cons] at k2 |-;omega
theorem qfh {x:OpT} {m:Int} (h:isRB x m=true):(x.1=1\/x.1=2\/x.1=3\/x.1=4)/\(cntO x.1.toNat x:Int)=x.2.2.1:=by
 have hl:=qdt h;unfold isRB kR at h;simp only[Bool.and_eq_true,decide_eq_true_eq] at h;obtain ⟨_,_,h⟩:=h;obtain ⟨k,f,n,b,d⟩:=x;simp only at h hl |-;split at h
 next e=>subst e;exact ⟨.inl rfl,by show (n.toNat:Int)=n;omega⟩
 ·split at h
  next e=>subst e;simp only[rB,Bool.and_eq_true,decide_eq_true_eq] at h;exact ⟨.inr (.inl rfl),h.2.2⟩
  ·split at h
   next e=>subst e;exact ⟨.inr (.inr (.inl rfl)),by show (n.toNat:Int)=n;omega⟩
   ·split at h
    next e=>subst e;simp only[rB,Bool.and_eq_true,decide_eq_true_eq] at h;exact ⟨.inr (.inr (.inr rfl)),h.2.2⟩
    ·cases h
theorem qk0 (x:OpT) (l:List OpT):lenS (x::l)=x.2.2.1+lenS l:=by simp only[lenS,List.map_cons,List.sum_cons]
theorem qho {m:Int}:∀ {l:List OpT},(∀ x∈l,isRB x m=true)->0<=lenS l
 | [],_=>Int.le_refl 0
 | x::l,h=>by
  have h1:=qdt (h x (by simp));have h2:=qho (l:=l) λ y hy=>h y (by simp[hy])
  simp only[lenS,List.map_cons,List.sum_cons] at h2 |-;omega
def symF:List OpT->List SyT
 | []=>[]
 | x::l=>qaz x.1.toNat x++symF l
def symV (p:PaT):List SyT × Int:=if (chkV p).2=0 then (symF p.2.2.2,0) else ([],(chkV p).2)
def ctSym:Ctr:=⟨[paS],λ _=>True,λ x=>[.win true syS 0 0 (symV x.1).1.length,.i (symV x.1).2],λ x=>[.row 93 syS (symV x.1).1]⟩
abbrev SQ (p:PaT):List SV->List (Nat × LB)->Prop:=QC ctSym (p,())
theorem qim {p:PaT} (h:(chkV p).2=0):(∀ x∈p.2.2.2,isRB x p.2.1=true)/\lenS p.2.2.2=p.2.2.1/\(0<=p.2.2.1/\p.2.2.1<=65536)/\p.2.2.2.length<=4096:=by
 unfold chkV at h;split at h
 next hg=>
  have hs:0<=p.2.2.1/\p.2.2.1<=65536:=by
   have:=hg.2.1;unfold szB at this;simpa only[Bool.and_eq_true,decide_eq_true_eq] using this
  obtain ⟨h1,h2⟩:=q3u h hs.1;exact ⟨h1,h2,hs,hg.2.2⟩
 ·cases h
theorem qzb (li:Bool) (m o:Int) (l:List OpT) (hc:(chkV (li,m,o,l)).2=0):∀ (k i:Nat) (s:List SyT),l.length-i=k->i<=l.length->(s.length:Int)+lenS (l.drop i)<=65536->s++symF (l.drop i)=symF l ->
  GD 22 Tryz.f22 (SQ (li,m,o,l)) (hd Tryz.f22 0) ⟨[(1,.ptr 1 0),(6,.win true syS 19 0 s.length),(21,.sl opS l),(22,.i l.length),(23,.i (i:Nat))],[(1,.var (pL li m o l)),(19,.row 93 syS s)]⟩:=by
 obtain ⟨hr,hsum,hob,hlen⟩:=qim hc;simp only at hr hsum hob hlen;intro k
 induction k with
 | zero=>
  intro i s hk hi hb hs;have hi:i=l.length:=by omega
  subst hi;refine qaj ex1 _ _ _ ((qn1 li m o l s _ _ _).mpr ?_);rw[decide_eq_false (by omega),bc_f];rw[List.drop_length,symF,List.append_nil] at hs;have hv:symV (li,m,o,l)=(s,0):=by unfold symV;rw[if_pos hc,hs]
  refine qke (e:=syS) (et:=93) (a:=19) (z:=0) (xs:=s) ?_ ?_ rfl rfl rfl
  ·show [_,_]=_;rw[hv]
  ·show [_]=_;rw[hv]
 | succ k ih=>
  intro i s hk hi hb hs;have hil:i<l.length:=by omega
  have hx:=hr l[i] (List.getElem_mem hil);have hk2:=qfh hx;have hl2:=qdt hx;rw[qt1 hil] at hb hs;rw[qk0] at hb;have hb2:(s.length:Int)+(l[i].2.2.1+lenS (l.drop (i+1)))<=65536:=hb;have hpos:0<=lenS (l.drop (i+1)):=qho λ y hy=>hr y (List.mem_of_mem_drop hy)
  have hcl:(qaz l[i].1.toNat l[i]).length=cntO l[i].1.toNat l[i]:=by unfold qaz;exact qk6 _ _ _
  have hpre:preA l[i].1.toNat l[i] s:=⟨by omega,by omega,by omega⟩;have nx:GD 22 Tryz.f22 (SQ (li,m,o,l)) (hd Tryz.f22 0) ⟨[(1,.ptr 1 0),(6,.win true syS 19 0 (s++qaz l[i].1.toNat l[i]).length),(21,.sl opS l),(22,.i l.length),(23,.i ((i+1:Nat):Int))],[(1,.var (pL li m o l)),(19,.row 93 syS (s++qaz l[i].1.toNat l[i]))]⟩:=
   ih (i+1) _ (by omega) (by omega) (by rw[List.length_append];omega) (by rw[List.append_assoc];exact hs)
  have wi:IntKind.i64.wrap ((i:Int)+1)=((i+1:Nat):Int):=by rw[IntWalk.i64_in _ (by omega)];omega
  rcases hk2.1 with e | e | e | e
  ·rw[e] at hpre nx;refine qaj ex1 _ _ _ ((qn1 li m o l s i _ _).mpr ?_);rw[decide_eq_true (show (i:Int)<(l.length:Int) by omega),bc_t,Int.toNat_natCast,qgh hil,wi];exact ⟨by omega,by omega,e,rfl,hpre,nx.onlyR [(19,1122880)] rfl ⟨rfl,rfl,rfl,rfl,rfl,trivial⟩ ⟨rfl,rfl,trivial⟩⟩
  ·rw[e] at hpre nx;refine qaj ex2 _ _ _ ((qun li m o l s i _ _).mpr ?_);rw[decide_eq_true (show (i:Int)<(l.length:Int) by omega),bc_t,Int.toNat_natCast,qgh hil,wi];exact ⟨by omega,by omega,e,rfl,hpre,nx.onlyR [(19,1122880)] rfl ⟨rfl,rfl,rfl,rfl,rfl,trivial⟩ ⟨rfl,rfl,trivial⟩⟩
  ·rw[e] at hpre nx;refine qaj ex3 _ _ _ ((qum li m o l s i _ _).mpr ?_);rw[decide_eq_true (show (i:Int)<(l.length:Int) by omega),bc_t,Int.toNat_natCast,qgh hil,wi];exact ⟨by omega,by omega,e,rfl,hpre,nx.onlyR [(19,1122880)] rfl ⟨rfl,rfl,rfl,rfl,rfl,trivial⟩ ⟨rfl,rfl,trivial⟩⟩
  ·rw[e] at hpre nx;refine qaj ex4 _ _ _ ((qul li m o l s i _ _).mpr ?_);rw[decide_eq_true (show (i:Int)<(l.length:Int) by omega),bc_t,Int.toNat_natCast,qgh hil,wi];exact ⟨by omega,by omega,e,rfl,hpre,nx.onlyR [(19,1122880)] rfl ⟨rfl,rfl,rfl,rfl,rfl,trivial⟩ ⟨rfl,rfl,trivial⟩⟩
theorem qmx:Held Tryz.prog G0 22 ctSym:=by
 refine Held.run cxA (fn:=Tryz.f22) rfl rfl ⟨by decide,by decide⟩ ?_;rintro ⟨⟨li,m,o,l⟩,⟨⟩⟩ _;refine (q35 li m o l _ _).mpr ⟨trivial,qaf (λ h=>?_) (λ h=>?_)⟩
 ·have h:(chkV (li,m,o,l)).2≠0:=of_decide_eq_true h;have hv:symV (li,m,o,l)=([],(chkV (li,m,o,l)).2):=by unfold symV;rw[if_neg h]
  refine qkf (e:=syS) (et:=93) (z:=(chkV (li,m,o,l)).2) ?_ ?_ rfl (by decide)
  ·show [_,_]=_;rw[hv];rfl
  ·show [_]=_;rw[hv]
 ·have h:¬ (chkV (li,m,o,l)).2≠0:=of_decide_eq_false h;have h:(chkV (li,m,o,l)).2=0:=by simpa using h
  obtain ⟨hr,hsum,hob,hlen⟩:=qim h;simp only at hr hsum hob hlen;refine ⟨Int.le_refl 0,hob.1,?_,?_,?_⟩
  ·exact Int.lt_of_le_of_lt hob.2 (by decide)
  ·exact Int.le_trans (Int.mul_le_mul_of_nonneg_left hob.2 (by decide)) (by decide)
  ·exact (qzb li m o l h _ 0 [] rfl (by omega) (by rw[List.drop_zero,hsum];simpa using hob.2) rfl).only ⟨rfl,rfl,rfl,rfl,rfl,trivial⟩ ⟨rfl,rfl,trivial⟩
def k14 (x:OpT):Prop:=x.1=1\/x.1=2\/x.1=3\/x.1=4
def CP:CV:=[(19,.inl ctRun)]
theorem cxP:CxOK Tryz.prog tt G0 CP:=cx0.k qzn (fn:=Tryz.f19)
def CS:CV:=[(76,.inl ctSO)]
theorem cxS:CxOK Tryz.prog tt G0 CS:=cx0.k q5t (fn:=Tryz.f76)
set_option maxRecDepth 100000
theorem qyq (old:List Int) (m:Int) (l:List SyT) (Q:QT) (R:RT):sA CP Tryz.f62 Q R [.code (qad Tryz.f62)] (entry [.sl uB,iI,.sl syS] (old,m,l,())) =
  (bc (decide ((old.length:Int)≠m)) (Q [.nils,.i 61] []) (ctRun.pre (old,l,())/\Q [.win true uB 1057344 0 (runV old l).1.length,.i (runV old l).2] [(1057344,.row 5 uB (runV old l).1)])):=by kernel_rfl
def qeo (li li2:Bool) (m o m2 o2:Int) (l l2:List OpT):List (Nat × LB):=[(2,.var (pL li m o l)),(3,.var (pL li2 m2 o2 l2))]
theorem q36 (li li2:Bool) (m o m2 o2:Int) (l l2:List OpT) (Q:QT) (R:RT):sA CS Tryz.f27 Q R [.code (qad Tryz.f27)] (entry [paS,paS] ((li,m,o,l),(li2,m2,o2,l2),())) =
  (bc (!li == li2) (true=true/\true=true/\true=true/\Q [.bool false] (qeo li li2 m o m2 o2 l l2)) (bc (bif false then true else decide (m≠m2)) (true=true/\true=true/\Q [.bool false] (qeo li li2 m o m2 o2 l l2)) (bc (bif false then true else decide (o≠o2)) (true=true/\Q [.bool false] (qeo li li2 m o m2 o2 l l2)) (bc (bif false then true else decide ((l.length:Int)≠(l2.length:Int))) (Q [.bool false] (qeo li li2 m o m2 o2 l l2)) (R (hd Tryz.f27 0) { env:=[(0,.agg (pL li m o l)),(1,.agg (pL li2 m2 o2 l2)),(2,.ptr 2 0),(3,.ptr 3 0),(4,.bool false),(5,.i 0),(6,.ptr 2 0),(7,.bool li),(8,.ptr 3 0),(9,.bool li2),(10,.bool !li == li2),(11,.bool false),(12,.ptr 2 1),(13,.i m),(14,.ptr 3 1),(15,.i m2),(16,.bool (decide (m≠m2))),(17,.bool (bif false then true else decide (m≠m2))),(18,.bool false),(19,.ptr 2 2),(20,.i o),(21,.ptr 3 2),(22,.i o2),(23,.bool (decide (o≠o2))),(24,.bool (bif false then true else decide (o≠o2))),(25,.bool false),(26,.ptr 2 3),(27,.sl opS l),(28,.i l.length),(29,.ptr 3 3),(30,.sl opS l2),(31,.i l2.length),(32,.bool (decide ((l.length:Int)≠(l2.length:Int)))),(33,.bool (bif false then true else decide ((l.length:Int)≠(l2.length:Int))))],blk:=[(2,.var (pL li m o l)),(3,.var (pL li2 m2 o2 l2))] }))))):=by kernel_rfl
def qiz (li li2:Bool) (m o m2 o2:Int) (l l2:List OpT):List (Nat × LB):=[(2,.var (pL li m o l)),(3,.var (pL li2 m2 o2 l2))]
theorem qq2 (li li2:Bool) (m o m2 o2:Int) (l l2:List OpT) (i:Nat) (Q:QT) (R:RT):sA CS Tryz.f27 Q R (hd Tryz.f27 0) ⟨[(2,.ptr 2 0),(3,.ptr 3 0),(5,.i (i:Nat))],[(2,.var (pL li m o l)),(3,.var (pL li2 m2 o2 l2))]⟩ =
  (bc (decide ((i:Int)<l.length)) ((0:Int)<=i/\(i:Int)<l.length/\(0:Int)<=i/\(i:Int)<l2.length/\ctSO.pre ((gtO l (i:Int).toNat),(gtO l2 (i:Int).toNat),())/\bc (!soB (gtO l (i:Int).toNat) (gtO l2 (i:Int).toNat)) (Q [.bool false] (qiz li li2 m o m2 o2 l l2)) (R (hd Tryz.f27 0) { env:=[(2,.ptr 2 0),(3,.ptr 3 0),(5,.i (IntKind.i64.wrap ((i:Int)+1))),(34,.i i),(35,.ptr 2 3),(36,.sl opS l),(37,.i l.length),(38,.bool (decide ((i:Int)<l.length))),(39,.i i),(40,.i (IntKind.i64.wrap ((i:Int)+1))),(41,.ptr 2 3),(42,.sl opS l),(43,.i i),(44,.elv opS (gtO l (i:Int).toNat)),(45,.agg (oI (gtO l (i:Int).toNat))),(46,.ptr 3 3),(47,.sl opS l2),(48,.i i),(49,.elv opS (gtO l2 (i:Int).toNat)),(50,.agg (oI (gtO l2 (i:Int).toNat))),(51,.bool (soB (gtO l (i:Int).toNat) (gtO l2 (i:Int).toNat))),(52,.bool !soB (gtO l (i:Int).toNat) (gtO l2 (i:Int).toNat))],blk:=[(2,.var (pL li m o l)),(3,.var (pL li2 m2 o2 l2))] })) (Q [.bool true] (qiz li li2 m o m2 o2 l l2))):=by kernel_rfl
def plV (old:List Int) (m:Int) (l:List SyT):List Int × Int:=if (old.length:Int)=m then runV old l else ([],61)
def ctPl:Ctr:=⟨[.sl uB,iI,.sl syS],λ x=>List.length x.2.2.1<16777216,λ x=>[.win true uB 0 0 (plV x.1 x.2.1 x.2.2.1).1.length,.i (plV x.1 x.2.1 x.2.2.1).2],λ x=>[.row 5 uB (plV x.1 x.2.1 x.2.2.1).1]⟩
theorem q6b:Held Tryz.prog G0 62 ctPl:=by
 refine Held.run cxP (fn:=Tryz.f62) rfl rfl ⟨by decide,by decide⟩ ?_;rintro ⟨old,m,l,⟨⟩⟩ hp;replace hp:l.length<16777216:=hp;refine (qyq old m l _ _).mpr (qaf (λ h=>?_) (λ h=>⟨hp,?_⟩))
 ·have h:(old.length:Int)≠m:=of_decide_eq_true h;have hv:plV old m l=([],61):=if_neg h;refine qkf (e:=uB) (et:=5) (z:=61) ?_ ?_ rfl (by decide)
  ·show [_,_]=_;rw[hv];rfl
  ·show [_]=_;rw[hv]
 ·have h:¬ (old.length:Int)≠m:=of_decide_eq_false h;have h:(old.length:Int)=m:=by simpa using h
  have hv:plV old m l=runV old l:=if_pos h;refine qke (e:=uB) (et:=5) (a:=1057344) (z:=(runV old l).2) (xs:=(runV old l).1) ?_ ?_ rfl rfl rfl
  ·show [_,_]=_;rw[hv]
  ·show [_]=_;rw[hv]
theorem qec {m:Int}:∀ {l:List OpT},(∀ x∈l,isRB x m=true)->((symF l).length:Int)=lenS l
 | [],_=>rfl
 | x::l,h=>by
  have h1:=qfh (h x (by simp));have h2:=qec (l:=l) λ y hy=>h y (by simp[hy])
  have hcl:(qaz x.1.toNat x).length=cntO x.1.toNat x:=by unfold qaz;exact qk6 _ _ _
  rw[qk0,symF,List.length_append,hcl];omega
theorem qzc (p:PaT):(symV p).1.length<16777216:=by
 unfold symV;split
 next h=>obtain ⟨h1,h2,h3,_⟩:=qim h;have:=qec h1;have h4:=h3.2;simp only;omega
 ·show 0<16777216
  decide
def smL:List OpT->List OpT->Bool
 | [],[]=>true
 | x::l,y::m=>soB x y&&smL l m
 | _,_=>false
def smB (p q:PaT):Bool:=(p.1 == q.1)&&(decide (p.2.1=q.2.1)&&(decide (p.2.2.1=q.2.2.1)&&(decide (p.2.2.2.length=q.2.2.2.length)&&smL p.2.2.2 q.2.2.2)))
def ctSm:Ctr:=⟨[paS,paS],λ x=>List.length x.1.2.2.2<1099511627776,λ x=>[.bool (smB x.1 x.2.1)],λ _=>[]⟩
theorem q5v (li li2:Bool) (m o m2 o2:Int) (l l2:List OpT) (hl:l.length<1099511627776) (he:l.length=l2.length):∀ (k i:Nat),l.length-i=k->i<=l.length ->
  GD 27 Tryz.f27 (λ rs _=>rs=[.bool (smL (l.drop i) (l2.drop i))]) (hd Tryz.f27 0) ⟨[(2,.ptr 2 0),(3,.ptr 3 0),(5,.i (i:Nat))],[(2,.var (pL li m o l)),(3,.var (pL li2 m2 o2 l2))]⟩:=by
 intro k
 induction k with
 | zero=>
  intro i hk hi;have hi:i=l.length:=by omega
  subst hi;refine qaj cxS _ _ _ ((qq2 li li2 m o m2 o2 l l2 _ _ _).mpr ?_);rw[decide_eq_false (by omega),bc_f,List.drop_length,he,List.drop_length];rfl
 | succ k ih=>
  intro i hk hi;have hx:i<l.length:=by omega
  have hy:i<l2.length:=by omega
  refine qaj cxS _ _ _ ((qq2 li li2 m o m2 o2 l l2 i _ _).mpr ?_);rw[decide_eq_true (show (i:Int)<(l.length:Int) by omega),bc_t,Int.toNat_natCast,qgh hx,qgh hy,IntWalk.i64_in ((i:Int)+1) (by omega),qt1 hx,qt1 hy,smL];refine ⟨by omega,by omega,by omega,by omega,trivial,qaf (λ h=>?_) (λ h=>?_)⟩
  ·have h:soB l[i] l2[i]=false:=by simpa using h
   rw[h];rfl
  ·have h:soB l[i] l2[i]=true:=by simpa using h
   rw[h];exact (ih (i+1) (by omega) (by omega)).only ⟨rfl,rfl,rfl,trivial⟩ ⟨rfl,rfl,trivial⟩
theorem qvh:Held Tryz.prog G0 27 ctSm:=by
 refine Held.run cxS (fn:=Tryz.f27) rfl rfl ⟨by decide,by decide⟩ ?_;rintro ⟨⟨li,m,o,l⟩,⟨li2,m2,o2,l2⟩,⟨⟩⟩ hp;replace hp:l.length<1099511627776:=hp;refine (q36 li li2 m o m2 o2 l l2 _ _).mpr ?_
 cases e0:(li == li2)
 ·exact ⟨rfl,rfl,rfl,QC.flat (by show [SV.bool (smB _ _)]=_;simp only[smB,e0];rfl) rfl rfl⟩
 ·rw[Bool.not_true,bc_f];refine qaf (λ h=>⟨rfl,rfl,?_⟩) (λ h=>qaf (λ h2=>⟨rfl,?_⟩) (λ h2=>qaf (λ h3=>?_) (λ h3=>?_)))
  ·have h:m≠m2:=of_decide_eq_true h;exact QC.flat (by show [SV.bool (smB _ _)]=_;simp only[smB,e0,decide_eq_false h];rfl) rfl rfl
  ·have h2:o≠o2:=of_decide_eq_true h2;exact QC.flat (by show [SV.bool (smB _ _)]=_;simp only[smB,e0,decide_eq_false h2,Bool.false_and,Bool.and_false]) rfl rfl
  ·have h3:(l.length:Int)≠l2.length:=of_decide_eq_true h3;have h3:¬ l.length=l2.length:=by omega
   exact QC.flat (by show [SV.bool (smB _ _)]=_;simp only[smB,e0,decide_eq_false h3,Bool.false_and,Bool.and_false]) rfl rfl
  ·have h:m=m2:=by
    have h:¬ m≠m2:=of_decide_eq_false h;simpa using h
   have h2:o=o2:=by
    have h2:¬ o≠o2:=of_decide_eq_false h2;simpa using h2
   have h3:l.length=l2.length:=by
    have h3:¬ (l.length:Int)≠l2.length:=of_decide_eq_false h3;omega
   refine ((q5v li li2 m o m2 o2 l l2 hp h3 _ 0 rfl (by omega)).post λ rs blk hq=>QC.flat ?_ rfl (by rw[hq];rfl)).only ⟨rfl,rfl,rfl,trivial⟩ ⟨rfl,rfl,trivial⟩;rw[hq]
   show [SV.bool (smB _ _)]=_
   simp only[smB,e0,decide_eq_true h,decide_eq_true h2,decide_eq_true h3,Bool.true_and];rfl
def rwV (n:Int):PaT:=if n=0 then (false,0,0,[]) else (false,n,n,[((1,0,n,0,[]):OpT)])
def ctRw:Ctr:=⟨[iI],λ _=>True,λ x=>[paV (rwV x.1)],λ _=>[]⟩
def ctRw1:Ctr:=⟨[iI],λ x=>x.1≠0,λ x=>[.agg [.bool false,.i x.1,.i x.1,.win true opS 0 0 1]],λ x=>[.row 91 opS [((1,0,x.1,0,[]):OpT)]]⟩
def ctRw0:Ctr:=⟨[iI],λ x=>¬ x.1≠0,λ x=>[paV (rwV x.1)],λ _=>[]⟩
theorem rw1_held:Held Tryz.prog G0 57 ctRw1:=by
 refine Held.run cx0 (fn:=Tryz.f57) rfl rfl ⟨by decide,by decide⟩ ?_;rintro ⟨n,⟨⟩⟩ hp;replace hp:n≠0:=hp;refine (qn2 n _ _).mpr ?_;rw[decide_eq_false hp,bc_f];refine ⟨λ i=>if i=0 then some 10 else none,?_,?_,λ i j b h1 h2=>?_,rfl⟩
 ·exact ⟨_,_,rfl,⟨_,rfl,_,_,rfl,rfl,_,_,rfl,rfl,_,_,rfl,rfl,_,_,rfl,.inl ⟨true,10,rfl,rfl,λ h=>h⟩,rfl⟩,rfl⟩
 ·exact ⟨.inl ⟨10,rfl,rfl⟩,trivial⟩
 ·simp only at h1 h2;split at h1
  ·split at h2
   ·omega
   ·cases h2
  ·cases h1
theorem qzl:Held Tryz.prog G0 57 ctRw0:=by
 refine Held.run cx0 (fn:=Tryz.f57) rfl rfl ⟨by decide,by decide⟩ ?_;rintro ⟨n,⟨⟩⟩ hp;replace hp:¬ n≠0:=hp;have hp:n=0:=by simpa using hp
 refine (qn2 n _ _).mpr ?_;rw[decide_eq_true hp,bc_t];refine QC.mt ?_ rfl
 show MtL _ [paV (rwV n)] _
 unfold rwV;rw[if_pos hp];exact ⟨_,_,rfl,⟨_,rfl,_,_,rfl,rfl,_,_,rfl,rfl,_,_,rfl,rfl,_,_,rfl,.inr ⟨rfl,rfl⟩,rfl⟩,rfl⟩
theorem q5y:Held Tryz.prog G0 57 ctRw:=λ x _=>by
 by_cases h:x.1≠0
 ·have e:=(rw1_held.frz (λ x hp=>⟨by simp[ctRw1,inL,inS],trivial⟩)) x h;have hv:[paV (rwV x.1)]=qtt 0 (ctRw1.rows x) (ctRw1.out x):=by
   unfold rwV;rw[if_neg h];rfl
  intro base M args args' w cs Z H h1 h2 h3 h4 h5;have:=e base M args args' w cs Z H h1 h2 h3 h4 h5;simp only[Ctr.frz,ctRw] at this |-;rw[hv];exact this
 ·exact qzl x h
theorem q8g (n a b:Int) (Q:QT) (R:RT):sA [] Tryz.f67 Q R [.code (qad Tryz.f67)] (entry [iI,iI,iI] (n,a,b,())) =
  (bc (decide (a<=n)) (Q [.bool (decide (n<=b))] []) (false=false/\Q [.bool false] [])):=by kernel_rfl
theorem qyv (x:List Int) (n:Int) (Q:QT) (R:RT):sA [] Tryz.f14 Q R [.code (qad Tryz.f14)] (entry [.sl uB,iI] (x,n,())) =
  (R (hd Tryz.f14 0) { env:=[(0,.sl uB x),(1,.i n),(4,.nils),(5,.win true uB 8 0 (0:Nat)),(6,.i 0),(8,.win true uB 8 0 (0:Nat))],blk:=[(8,.row 5 uB (List.replicate (0:Nat) uB.dflt))] }):=by kernel_rfl
theorem qn3 (x o:List Int) (n:Int) (i:Nat) (Q:QT) (R:RT):sA [] Tryz.f14 Q R (hd Tryz.f14 0) ⟨[(0,.sl uB x),(1,.i n),(5,.win true uB 5 0 o.length),(6,.i (i:Nat))],[(5,.row 5 uB o)]⟩ =
  (bc (decide ((i:Int)<n)) (bc (decide ((i:Int)<x.length)) ((0:Int)<=i/\(i:Int)<x.length/\(0:Nat)+1<=([(gtB x (i:Int).toNat)]:List uB.D).length/\o.length=o.length/\(0:Nat)=(0:Nat)/\o.length+(([(gtB x (i:Int).toNat)]:List uB.D)).length<2 ^ 30/\(1:Nat)<=2 ^ 10/\R (hd Tryz.f14 0) { env:=[(0,.sl uB x),(1,.i n),(5,.win true uB 28 0 (o.length+(([(gtB x (i:Int).toNat)]:List uB.D)).length)),(6,.i (i64.wrap ((i:Int)+1))),(7,.u (gtB x (i:Int).toNat)),(9,.i i),(10,.i n),(11,.bool (decide ((i:Int)<n))),(12,.i i),(13,.i (i64.wrap ((i:Int)+1))),(14,.i i),(15,.i (i64.wrap ((7:Int)*(i:Int)))),(16,.u (u8.wrap (i64.wrap ((7:Int)*(i:Int))))),(17,.i i),(18,.sl uB x),(19,.i x.length),(20,.bool (decide ((i:Int)<x.length))),(21,.sl uB x),(22,.i i),(23,.elv uB (gtB x (i:Int).toNat)),(24,.u (gtB x (i:Int).toNat)),(25,.dead),(26,.u (gtB x (i:Int).toNat)),(27,.win true uB 27 0 (1:Nat)),(28,.win true uB 28 0 (o.length+(([(gtB x (i:Int).toNat)]:List uB.D)).length))],blk:=[(27,.row 5 uB ([(gtB x (i:Int).toNat)]:List uB.D)),(28,.row 5 uB (o++([(gtB x (i:Int).toNat)]:List uB.D)))] }) ((0:Nat)+1<=([(u8.wrap (i64.wrap ((7:Int)*(i:Int))))]:List uB.D).length/\o.length=o.length/\(0:Nat)=(0:Nat)/\o.length+(([(u8.wrap (i64.wrap ((7:Int)*(i:Int))))]:List uB.D)).length<2 ^ 30/\(1:Nat)<=2 ^ 10/\R (hd Tryz.f14 0) { env:=[(0,.sl uB x),(1,.i n),(5,.win true uB 28 0 (o.length+(([(u8.wrap (i64.wrap ((7:Int)*(i:Int))))]:List uB.D)).length)),(6,.i (i64.wrap ((i:Int)+1))),(7,.u (u8.wrap (i64.wrap ((7:Int)*(i:Int))))),(9,.i i),(10,.i n),(11,.bool (decide ((i:Int)<n))),(12,.i i),(13,.i (i64.wrap ((i:Int)+1))),(14,.i i),(15,.i (i64.wrap ((7:Int)*(i:Int)))),(16,.u (u8.wrap (i64.wrap ((7:Int)*(i:Int))))),(17,.i i),(18,.sl uB x),(19,.i x.length),(20,.bool (decide ((i:Int)<x.length))),(25,.dead),(26,.u (u8.wrap (i64.wrap ((7:Int)*(i:Int))))),(27,.win true uB 27 0 (1:Nat)),(28,.win true uB 28 0 (o.length+(([(u8.wrap (i64.wrap ((7:Int)*(i:Int))))]:List uB.D)).length))],blk:=[(27,.row 5 uB ([(u8.wrap (i64.wrap ((7:Int)*(i:Int))))]:List uB.D)),(28,.row 5 uB (o++([(u8.wrap (i64.wrap ((7:Int)*(i:Int))))]:List uB.D)))] })) (Q [.win true uB 5 0 o.length] [(5,.row 5 uB o)])):=by kernel_rfl
theorem q27 {ct:Ctr} {x:DL ct.args} {rs:List SV} {blk:List (Nat × LB)} {e:Sh} {et:TypeId} {a k:Nat} {xs:List e.D} (h:ct.out x=[.win true e 0 0 xs.length]) (hr:ct.rows x=[.row et e xs]) (hs:rs=[.win true e a 0 k]) (hk:k=xs.length) (hb:lk blk a=some (.row et e xs)):QC ct x rs blk:=by
 subst hs;subst hk;refine ⟨λ i=>if i=0 then some a else none,?_,?_,λ i j b h1 h2=>?_,by rw[hr];rfl⟩
 ·rw[h];exact ⟨_,_,rfl,.inl ⟨true,a,rfl,rfl,λ h=>h⟩,rfl⟩
 ·rw[hr];exact ⟨.inl ⟨a,rfl,hb⟩,trivial⟩
 ·simp only at h1 h2;split at h1
  ·split at h2
   ·omega
   ·cases h2
  ·cases h1
def ctIn:Ctr:=⟨[iI,iI,iI],λ _=>True,λ x=>[.bool (decide (x.2.1<=x.1)&&decide (x.1<=x.2.2.1))],λ _=>[]⟩
theorem qnl:Held Tryz.prog G0 67 ctIn:=by
 refine Held.run cx0 (fn:=Tryz.f67) rfl rfl ⟨by decide,by decide⟩ ?_;rintro ⟨n,a,b,⟨⟩⟩ _;refine (q8g n a b _ _).mpr (qaf (λ h=>?_) (λ h=>⟨rfl,?_⟩))
 ·exact QC.flat (by simp only[ctIn,h];rfl) rfl rfl
 ·exact QC.flat (by simp only[ctIn,h];rfl) rfl rfl
def inB (x:List Int) (i:Nat):Int:=if i<x.length then gtB x i else IntKind.u8.wrap (IntKind.i64.wrap (7*(i:Int)))
def inpL (x:List Int) (n:Nat):List Int:=(List.range n).map (inB x)
theorem qr7 (x:List Int) (n:Nat):(inpL x n).length=n:=by simp[inpL]
theorem qxl (x:List Int) (i:Nat):inpL x (i+1)=inpL x i++[inB x i]:=by simp[inpL,List.range_succ]
def preI (n:Int):Prop:=0<=n/\n<16777216
def ctInp:Ctr:=⟨[.sl uB,iI],λ x=>preI x.2.1,λ x=>[.win true uB 0 0 (inpL x.1 x.2.1.toNat).length],λ x=>[.row 5 uB (inpL x.1 x.2.1.toNat)]⟩
abbrev IQ (x:List Int) (n:Int):List SV->List (Nat × LB)->Prop:=QC ctInp (x,n,())
theorem q04 (x:List Int) (n:Nat) (hn:n<16777216):∀ (k i:Nat),n-i=k->i<=n ->
  GD 14 Tryz.f14 (IQ x n) (hd Tryz.f14 0) ⟨[(0,.sl uB x),(1,.i (n:Nat)),(5,.win true uB 5 0 (inpL x i).length),(6,.i (i:Nat))],[(5,.row 5 uB (inpL x i))]⟩:=by
 intro k
 induction k with
 | zero=>
  intro i hk hi;have hi:i=n:=by omega
  subst hi;refine qaj cx0 _ _ _ ((qn3 x (inpL x i) (i:Int) i _ _).mpr ?_);rw[decide_eq_false (by omega),bc_f];exact q27 (e:=uB) (et:=5) (a:=5) (xs:=inpL x i) rfl rfl rfl rfl rfl
 | succ k ih=>
  intro i hk hi;have nx:=ih (i+1) (by omega) (by omega);have hlen:=qr7 x i;rw[qxl] at nx;refine qaj cx0 _ _ _ ((qn3 x (inpL x i) (n:Int) i _ _).mpr ?_);rw[decide_eq_true (show (i:Int)<(n:Int) by omega),bc_t,Int.toNat_natCast,IntWalk.i64_in ((i:Int)+1) (by omega)];refine qaf (λ h=>?_) (λ h=>?_)
  ·have h:i<x.length:=by have:=of_decide_eq_true h;omega
   have e:inB x i=gtB x i:=if_pos h;rw[e] at nx;refine ⟨by omega,by omega,Nat.le_refl 1,rfl,rfl,(show (inpL x i).length+1<2 ^ 30 by omega),by decide,?_⟩;exact nx.onlyR [(5,28)] rfl ⟨rfl,rfl,by rw[List.length_append];rfl,rfl,trivial⟩ ⟨rfl,trivial⟩
  ·have h:¬ i<x.length:=by have:=of_decide_eq_false h;omega
   have e:inB x i=IntKind.u8.wrap (IntKind.i64.wrap (7*(i:Int))):=if_neg h;rw[e] at nx;refine ⟨Nat.le_refl 1,rfl,rfl,(show (inpL x i).length+1<2 ^ 30 by omega),by decide,?_⟩;exact nx.onlyR [(5,28)] rfl ⟨rfl,rfl,by rw[List.length_append];rfl,rfl,trivial⟩ ⟨rfl,trivial⟩
theorem q05:Held Tryz.prog G0 14 ctInp:=by
 refine Held.run cx0 (fn:=Tryz.f14) rfl rfl ⟨by decide,by decide⟩ ?_;rintro ⟨x,n,⟨⟩⟩ hp;obtain ⟨h0,h1⟩:preI n:=hp;obtain ⟨N,rfl⟩:=Int.eq_ofNat_of_zero_le h0;refine (qyv x (N:Int) _ _).mpr ?_;exact (q04 x N (by omega) _ 0 rfl (by omega)).onlyR [(5,8)] rfl ⟨rfl,rfl,rfl,rfl,trivial⟩ ⟨rfl,trivial⟩
def q6a (x:List Int):Prop:=∀ j,0<=gtB x j/\gtB x j<256
abbrev a4S:Sh:=.arr 4 uB
abbrev raS:Sh:=.pair uB (.sl a4S)
set_option maxRecDepth 100000
theorem q0r (a b:List OpT):lenS (a++b)=lenS a+lenS b:=by simp[lenS]
def qtf (l:List (List Int)):Prop:=∀ j,q6a (gt a4S l j)
section
variable (z m:Int) (l:List (List Int)) (hl:qtf l) (hm0:0<=m) (hm1:m<16777216) (hn:l.length<9223372036854775808)
include hl hm0 hm1 hn
end
def preM6 (z:Int) (l:List (List Int)):Prop:=(0<=z/\z<256)/\qtf l/\l.length<9223372036854775808
theorem qql (el:Nat->SyT):∀ n i k,k<n->(gen el n i)[k]?=some (el (i+k))
 | 0,_,_,h=>by omega
 | n+1,i,0,_=>by rw[gen];rfl
 | n+1,i,k+1,h=>by
  rw[gen,List.getElem?_cons_succ,qql el n (i+1) k (by omega)]
  congr 2;omega
theorem qxp (el:Nat->SyT):∀ n i s,s∈gen el n i->∃ k,k<n/\s=el (i+k)
 | 0,_,_,h=>by cases h
 | n+1,i,s,h=>by
  rw[gen] at h;rcases List.mem_cons.1 h with h | h
  ·exact ⟨0,by omega,h⟩
  ·obtain ⟨k,h1,h2⟩:=qxp el n (i+1) s h;exact ⟨k+1,by omega,by rw[h2];congr 1;omega⟩
theorem q3v {m N:Int}:∀ {l:List OpT} {left i:Int},(∀ x∈l,isRB x m=true)->lenS l=left->chkF m N l left i=(N,0)
 | [],left,i,_,h=>by
  have h:(0:Int)=left:=h;rw[chkF,if_neg (by omega)]
 | x::l,left,i,hr,h=>by
  have h1:=hr x (by simp);have h2:=qdt h1;have h3:=qho (l:=l) λ y hy=>hr y (by simp[hy])
  rw[qk0] at h;rw[chkF,if_neg (by rw[h1];decide),if_neg (by omega)];exact q3v (λ y hy=>hr y (by simp[hy])) (by omega)
theorem qx2 {li:Bool} {m o:Int} {l:List OpT} (h0:0<=m) (h1:m<=65536) (ho:o<=65536) (hl:l.length<=4096) (hr:∀ x∈l,isRB x m=true) (hs:lenS l=o):chkV (li,m,o,l)=((l.length:Int),(0:Int)):=by
 have:=qho hr;unfold chkV;rw[if_pos ⟨by simp[szB];omega,by simp[szB];omega,hl⟩];exact q3v hr hs
theorem qu9 {m:Int}:∀ {l:List OpT},(∀ x∈l,isRB x m=true)->∀ s∈symF l,∃ x∈l,∃ k:Nat,(k:Int)<x.2.2.1/\s=elO x.1.toNat x k
 | [],_,s,h=>by cases h
 | x::l,hr,s,h=>by
  rw[symF] at h;rcases List.mem_append.1 h with h | h
  ·obtain ⟨k,h1,h2⟩:=qxp _ _ _ _ h;have:=(qfh (hr x (by simp))).2;exact ⟨x,by simp,k,by omega,by rw[h2,Nat.zero_add]⟩
  ·obtain ⟨y,hy,k,h1,h2⟩:=qu9 (λ y hy=>hr y (by simp[hy])) s h;exact ⟨y,by simp[hy],k,h1,h2⟩
theorem qxc {x:OpT} {m:Int} (h:isRB x m=true) (hm:0<=m/\m<16777216) (hk:x.1=1\/x.1=2):0<=x.2.1/\x.2.1+x.2.2.1<=m:=by
 unfold isRB kR at h;simp only[Bool.and_eq_true,decide_eq_true_eq] at h;obtain ⟨h1,h2,h3⟩:=h;have w:IntKind.i64.wrap (m-x.2.2.1)=m-x.2.2.1:=IntWalk.i64_in _ (by omega);rcases hk with e | e
 ·rw[if_pos e] at h3;simp only[rB,qbi,w,Bool.and_eq_true,decide_eq_true_eq] at h3;omega
 ·rw[if_neg (by omega),if_pos e] at h3;simp only[rB,qbi,w,Bool.and_eq_true,decide_eq_true_eq] at h3;omega
theorem qjk:∀ (a b:List OpT),symF (a++b)=symF a++symF b
 | [],b=>rfl
 | x::a,b=>by rw[List.cons_append,symF,symF,qjk a b,List.append_assoc]
def q1n:List OpT->Int
 | []=>0
 | x::l=>cN x.1.toNat x+q1n l
def seg (l:List SyT) (a i:Nat):Prop:=∀ j,a<=j->j+1<i->goB (gtY l j) (gtY l (j+1))=true
theorem qpw {m:Int} {s:SyT} (h:sOK m s=true) (ho:s.1=true):0<=s.2.1/\s.2.1<m:=by
 unfold sOK at h;rw[if_pos ho] at h;simpa using h
theorem q9y {m:Int} {s:SyT} (h:sOK m s=true) (ho:s.1=false):s.2.1=0:=by
 unfold sOK at h;rw[if_neg (by rw[ho];decide)] at h;simpa using h
section
variable {l:List SyT} {m:Int} (hr:∀ s∈l,sOK m s=true) (hm:m<16777216)
include hr hm
end
def zav:Ctr:=⟨[.sl syS],λ x=>List.length x.1=0,λ x=>[.sl opS (opsL x.1)],λ _=>[]⟩
def ctOpsA:Ctr:=⟨[.sl syS],λ x=>List.length x.1<16777216,λ x=>[.sl opS (opsL x.1)],λ _=>[]⟩
set_option maxRecDepth 100000
theorem qyo (k f n b m:Int) (d:List Int) (Q:QT) (R:RT):sA [(67,.inl ctIn)] Tryz.f145 Q R [.code (qad Tryz.f145)] (entry [opS,iI] ((k,f,n,b,d),m,())) =
  (ctIn.pre (n,(1:Int),(65536:Int),())/\bc (!(decide ((1:Int)<=n)&&decide (n<=65536))) (Q [.bool false] [(2,.var (oJ k f n b d))]) (ctIn.pre (f,(0:Int),IntKind.i64.wrap (m-n),())/\bc (decide (k=(1:Int))) (bc (decide ((0:Int)<=f)&&decide (f<=IntKind.i64.wrap (m-n))) (bc (decide (b=(0:Int))) (Q [.bool (decide ((d.length:Int)=(0:Int)))] [(2,.var (oJ k f n b d))]) (false=false/\Q [.bool false] [(2,.var (oJ k f n b d))])) (false=false/\false=false/\Q [.bool false] [(2,.var (oJ k f n b d))])) (bc (decide (k=(2:Int))) (bc (decide ((0:Int)<=f)&&decide (f<=IntKind.i64.wrap (m-n))) (bc (decide (b=(0:Int))) (Q [.bool (decide ((d.length:Int)=n))] [(2,.var (oJ k f n b d))]) (false=false/\Q [.bool false] [(2,.var (oJ k f n b d))])) (false=false/\false=false/\Q [.bool false] [(2,.var (oJ k f n b d))])) (bc (decide (k=(3:Int))) (bc (decide (f=(0:Int))) (Q [.bool (decide ((d.length:Int)=(0:Int)))] [(2,.var (oJ k f n b d))]) (false=false/\Q [.bool false] [(2,.var (oJ k f n b d))])) (bc (decide (k=(4:Int))) (bc (decide (f=(0:Int))) (bc (decide (b=(0:Int))) (Q [.bool (decide ((d.length:Int)=n))] [(2,.var (oJ k f n b d))]) (false=false/\Q [.bool false] [(2,.var (oJ k f n b d))])) (false=false/\false=false/\Q [.bool false] [(2,.var (oJ k f n b d))])) (Q [.bool false] [(2,.var (oJ k f n b d))])))))):=by kernel_rfl
theorem q8q (l:List SyT) (m:Int) (Q:QT) (R:RT):sA ((71,.inl ctOpsA)::(70,.inl ctAre)::C1) Tryz.f23 Q R [.code (qad Tryz.f23)] (entry [.sl syS,iI] (l,m,())) =
  (ctSize.pre (m,())/\bc (!(decide ((0:iI.D)<=m)&&decide (m<=(65536:iI.D)))) (true=true/\true=true/\Q [.agg [.bool false,.i 0,.i 0,.nils],.i 60] [(4,.var [.bool false,.i 0,.i 0,.nils])]) (ctSize.pre ((l.length:Int),())/\bc (bif false then true else !(decide ((0:iI.D)<=(l.length:Int))&&decide ((l.length:Int)<=(65536:iI.D)))) (true=true/\Q [.agg [.bool false,.i 0,.i 0,.nils],.i 60] [(4,.var [.bool false,.i 0,.i 0,.nils])]) (ctAre.pre (l,m,())/\bc (bif false then true else !l.all (sOK m)) (Q [.agg [.bool false,.i 0,.i 0,.nils],.i 60] [(4,.var [.bool false,.i 0,.i 0,.nils])]) (ctOpsA.pre (l,())/\bc (decide ((4096:Int)<(↑(opsL l).length:Int))) (Q [.agg [.bool false,.i 0,.i 0,.nils],.i 2] [(4,.var [.bool false,.i 0,.i 0,.nils])]) (Q [.agg (pL false m (l.length:Int) (opsL l)),.i 0] [(4,.var (pL false m (l.length:Int) (opsL l)))]))))):=by kernel_rfl
def ctRop:Ctr:=⟨[opS,iI],λ _=>True,λ x=>[.bool (isRB x.1 x.2.1)],λ _=>[]⟩
theorem q50 (k f n b m:Int) (d:List Int):sA [(67,.inl ctIn)] Tryz.f145 (QC ctRop ((k,f,n,b,d),m,())) (Px.Good Tryz.prog tt G0 145 Tryz.f145.ntmps Tryz.f145.results.toList (QC ctRop ((k,f,n,b,d),m,()))) [.code (qad Tryz.f145)] (entry [opS,iI] ((k,f,n,b,d),m,())):=by
 have fin:∀ (v:Bool) (blk:List (Nat × LB)),isRB (k,f,n,b,d) m=v->QC ctRop ((k,f,n,b,d),m,()) [SV.bool v] blk:=λ v blk h=>QC.flat (by show [SV.bool (isRB _ _)]=_;rw[h]) rfl rfl
 refine (qyo k f n b m d _ _).mpr ⟨trivial,qaf (λ h=>?_) (λ h=>?_)⟩
 ·have h:(!(decide (1<=n)&&decide (n<=65536)))=true:=h;refine fin _ _ ?_
  show (decide (1<=n)&&(decide (n<=65536)&&kR _ m))=false
  rw[Bool.not_eq_true'] at h;rw[<- Bool.and_assoc,h];rfl
 ·have h:(!(decide (1<=n)&&decide (n<=65536)))=false:=h;rw[Bool.not_eq_false'] at h;have hk:isRB (k,f,n,b,d) m=kR (k,f,n,b,d) m:=by
   show (decide (1<=n)&&(decide (n<=65536)&&kR _ m))=_
   rw[<- Bool.and_assoc,h,Bool.true_and]
  refine ⟨trivial,qaf (λ h1=>?_) (λ h1=>qaf (λ h2=>?_) (λ h2=>qaf (λ h3=>?_) (λ h3=>qaf (λ h4=>?_) (λ h4=>?_))))⟩
  ·have h1:k=1:=of_decide_eq_true h1;have e:kR (k,f,n,b,d) m=(qbi f n m&&(decide (b=0)&&decide ((d.length:Int)=0))):=by subst h1;rfl
   rw[e] at hk;refine qaf (λ a=>qaf (λ c=>?_) (λ c=>⟨rfl,?_⟩)) (λ a=>⟨rfl,rfl,?_⟩)
   ·exact fin _ _ (by rw[hk,show qbi f n m=true from a,c];rfl)
   ·exact fin _ _ (by rw[hk,show qbi f n m=true from a,c];rfl)
   ·exact fin _ _ (by rw[hk,show qbi f n m=false from a];rfl)
  ·have h2:k=2:=of_decide_eq_true h2;have e:kR (k,f,n,b,d) m=(qbi f n m&&(decide (b=0)&&decide ((d.length:Int)=n))):=by subst h2;rfl
   rw[e] at hk;refine qaf (λ a=>qaf (λ c=>?_) (λ c=>⟨rfl,?_⟩)) (λ a=>⟨rfl,rfl,?_⟩)
   ·exact fin _ _ (by rw[hk,show qbi f n m=true from a,c];rfl)
   ·exact fin _ _ (by rw[hk,show qbi f n m=true from a,c];rfl)
   ·exact fin _ _ (by rw[hk,show qbi f n m=false from a];rfl)
  ·have h3:k=3:=of_decide_eq_true h3;have e:kR (k,f,n,b,d) m=(decide (f=0)&&decide ((d.length:Int)=0)):=by subst h3;rfl
   rw[e] at hk;refine qaf (λ a=>?_) (λ a=>⟨rfl,?_⟩)
   ·exact fin _ _ (by rw[hk,a];rfl)
   ·exact fin _ _ (by rw[hk,a];rfl)
  ·have h4:k=4:=of_decide_eq_true h4;have e:kR (k,f,n,b,d) m=(decide (f=0)&&(decide (b=0)&&decide ((d.length:Int)=n))):=by subst h4;rfl
   rw[e] at hk;refine qaf (λ a=>qaf (λ c=>?_) (λ c=>⟨rfl,?_⟩)) (λ a=>⟨rfl,rfl,?_⟩)
   ·exact fin _ _ (by rw[hk,a,c];rfl)
   ·exact fin _ _ (by rw[hk,a,c];rfl)
   ·exact fin _ _ (by rw[hk,a];rfl)
  ·have h1:¬ k=1:=of_decide_eq_false h1;have h2:¬ k=2:=of_decide_eq_false h2;have h3:¬ k=3:=of_decide_eq_false h3;have h4:¬ k=4:=of_decide_eq_false h4;refine fin _ _ ?_;rw[hk]
   show (if k=1 then _ else if k=2 then _ else if k=3 then _ else if k=4 then _ else false)=false
   rw[if_neg h1,if_neg h2,if_neg h3,if_neg h4]
theorem qzq:Held Tryz.prog G0 145 ctRop:=
 Held.run (cx0.k qnl (fn:=Tryz.f67)) (fn:=Tryz.f145) rfl rfl ⟨by decide,by decide⟩ λ ⟨⟨k,f,n,b,d⟩,m,_⟩ _=>q50 k f n b m d
theorem qwh:Held Tryz.prog G0 71 zav:=by
 refine Held.run dxO (fn:=Tryz.f71) rfl rfl ⟨by decide,by decide⟩ ?_;rintro ⟨l,⟨⟩⟩ hp;replace hp:l.length=0:=hp;have e:l=[]:=List.eq_nil_of_length_eq_zero hp;subst e;refine (q2s [] _ _).mpr ?_;refine Good.only (S':=⟨[(0,.sl syS []),(3,.nils),(4,.i ((0:Nat):Int)),(5,.i ((1:Nat):Int))],[]⟩) (qaj dxO _ _ _ ((qus [] 0 1 _ _).mpr ?_)) ⟨rfl,rfl,rfl,rfl,trivial⟩ trivial;rw[decide_eq_false (by decide),bc_f];exact QC.mt ⟨_,_,rfl,.inr ⟨rfl,rfl⟩,rfl⟩ rfl
theorem qwg:Held Tryz.prog G0 71 ctOpsA:=λ x hp=>by
 by_cases h:List.length x.1=0
 ·exact qwh x h
 ·exact qz6 x ⟨Nat.pos_of_ne_zero h,hp⟩
def ctOfA:Ctr:=⟨[.sl syS,iI],λ x=>List.length x.1<16777216,λ x=>[paV (ofV x.1 x.2.1).1,.i (ofV x.1 x.2.1).2],λ _=>[]⟩
theorem q0b:Held Tryz.prog G0 23 ctOfA:=by
 refine Held.run ((cx1.k q12 (fn:=Tryz.f70)).k qwg (fn:=Tryz.f71)) (fn:=Tryz.f23) rfl rfl ⟨by decide,by decide⟩ ?_;rintro ⟨l,m,⟨⟩⟩ hp;replace hp:l.length<16777216:=hp;have bad:¬ (szB m=true/\szB l.length=true/\l.all (sOK m)=true)->ofV l m=((false,0,0,[]),60):=λ q=>if_neg q
 refine (q8q l m _ _).mpr ⟨trivial,qaf (λ h=>⟨rfl,rfl,?_⟩) (λ h=>⟨trivial,qaf (λ h2=>⟨rfl,?_⟩) (λ h2=>⟨(show l.length<1099511627776 by omega),qaf (λ h3=>?_) (λ h3=>⟨hp,qaf (λ h4=>?_) (λ h4=>?_)⟩)⟩)⟩)⟩
 ·have h:(!szB m)=true:=h;have hv:=bad λ q=>by rw[q.1] at h;cases h
  exact QC.mt (by show MtL _ [paV (ofV l m).1,.i (ofV l m).2] _;rw[hv];exact ⟨_,_,rfl,⟨_,rfl,_,_,rfl,rfl,_,_,rfl,rfl,_,_,rfl,rfl,_,_,rfl,.inr ⟨rfl,rfl⟩,rfl⟩,_,_,rfl,rfl,rfl⟩) rfl
 ·have h2:(!szB l.length)=true:=h2;have hv:=bad λ q=>by rw[q.2.1] at h2;cases h2
  exact QC.mt (by show MtL _ [paV (ofV l m).1,.i (ofV l m).2] _;rw[hv];exact ⟨_,_,rfl,⟨_,rfl,_,_,rfl,rfl,_,_,rfl,rfl,_,_,rfl,rfl,_,_,rfl,.inr ⟨rfl,rfl⟩,rfl⟩,_,_,rfl,rfl,rfl⟩) rfl
 ·have h3:(!l.all (sOK m))=true:=h3;have hv:=bad λ q=>by rw[q.2.2] at h3;cases h3
  exact QC.mt (by show MtL _ [paV (ofV l m).1,.i (ofV l m).2] _;rw[hv];exact ⟨_,_,rfl,⟨_,rfl,_,_,rfl,rfl,_,_,rfl,rfl,_,_,rfl,rfl,_,_,rfl,.inr ⟨rfl,rfl⟩,rfl⟩,_,_,rfl,rfl,rfl⟩) rfl
 all_goals
  have h:(!szB m)=false:=h;have h2:(!szB l.length)=false:=h2;have h3:(!l.all (sOK m))=false:=h3;have hg:szB m=true/\szB l.length=true/\l.all (sOK m)=true:=⟨by simpa using h,by simpa using h2,by simpa using h3⟩
 ·have h4:(4096:Int)<((opsL l).length:Int):=of_decide_eq_true h4;have hv:ofV l m=((false,0,0,[]),2):=by unfold ofV;rw[if_pos hg,if_pos (by omega)]
  exact QC.mt (by show MtL _ [paV (ofV l m).1,.i (ofV l m).2] _;rw[hv];exact ⟨_,_,rfl,⟨_,rfl,_,_,rfl,rfl,_,_,rfl,rfl,_,_,rfl,rfl,_,_,rfl,.inr ⟨rfl,rfl⟩,rfl⟩,_,_,rfl,rfl,rfl⟩) rfl
 ·have h4:¬ (4096:Int)<((opsL l).length:Int):=of_decide_eq_false h4;have hv:ofV l m=(((false,m,(l.length:Int),opsL l):PaT),(0:Int)):=by unfold ofV;rw[if_pos hg,if_neg (by omega)]
  exact QC.flat (by show [paV (ofV l m).1,.i (ofV l m).2]=_;rw[hv];rfl) rfl rfl
def CRc:CV:=[(145,.inl ctRop),(67,.inl ctIn)]
theorem cxRc:CxOK Tryz.prog tt G0 CRc:=(cx0.k qnl (fn:=Tryz.f67)).k qzq (fn:=Tryz.f145)
set_option maxRecDepth 100000
theorem q4h (li:Bool) (m o:Int) (l:List OpT) (Q:QT) (R:RT):sA CRc Tryz.f111 Q (λ it S=>R it (qa5 [1,4,5] [1] S)) [.code (qad Tryz.f111)] (entry [paS] ((li,m,o,l),())) =
  (ctIn.pre (m,(0:Int),(65536:Int),())/\bc (!(decide ((0:Int)<=m)&&decide (m<=65536))) (true=true/\true=true/\Q [.i (-1:Int),.i 60] [(1,.var (pL li m o l))]) (ctIn.pre (o,(0:Int),(65536:Int),())/\bc (bif false then true else !(decide ((0:Int)<=o)&&decide (o<=65536))) (true=true/\Q [.i (-1:Int),.i 60] [(1,.var (pL li m o l))]) (bc (bif false then true else decide ((4096:Int)<l.length)) (Q [.i (-1:Int),.i 60] [(1,.var (pL li m o l))]) (R (hd Tryz.f111 0) { env:=[(1,.ptr 1 0),(4,.i 0),(5,.i 0)],blk:=[(1,.var (pL li m o l))] })))):=by kernel_rfl
theorem qq5 (li:Bool) (m o s:Int) (l:List OpT) (i:Nat) (Q:QT) (R:RT):sA CRc Tryz.f111 Q (λ it S=>R it (qa5 [1,4,5] [1] S)) (hd Tryz.f111 0) ⟨[(1,.ptr 1 0),(4,.i s),(5,.i (i:Nat))],[(1,.var (pL li m o l))]⟩ =
  (bc (decide ((i:Int)<l.length)) ((0:Int)<=i/\(i:Int)<l.length/\ctRop.pre ((gtO l (i:Int).toNat),m,())/\bc (!isRB (gtO l (i:Int).toNat) m) (true=true/\Q [.i i,.i 60] [(1,.var (pL li m o l))]) ((0:Int)<=i/\(i:Int)<l.length/\bc (bif false then true else decide (o<IntKind.i64.wrap (s+(gtO l (i:Int).toNat).2.2.1))) (Q [.i i,.i 60] [(1,.var (pL li m o l))]) ((0:Int)<=i/\(i:Int)<l.length/\R (hd Tryz.f111 0) { env:=[(1,.ptr 1 0),(4,.i (IntKind.i64.wrap (s+(gtO l (i:Int).toNat).2.2.1))),(5,.i (IntKind.i64.wrap ((i:Int)+1)))],blk:=[(1,.var (pL li m o l))] }))) (bc (decide (s≠o)) (Q [.i l.length,.i 60] [(1,.var (pL li m o l))]) (Q [.i l.length,.i 0] [(1,.var (pL li m o l))]))):=by kernel_rfl
theorem qyp (li:Bool) (m o:Int) (l:List OpT) (Q:QT) (R:RT):sA [(111,.inl ctChk)] Tryz.f59 Q R [.code (qad Tryz.f59)] (entry [paS] ((li,m,o,l),())) =
  (ctChk.pre ((li,m,o,l),())/\Q [.bool (decide ((chkV (li,m,o,l)).2=(0:Int)))] [(1,.var (pL li m o l))]):=by kernel_rfl
abbrev ChQ (a b:Int):List SV->List (Nat × LB)->Prop:=λ rs _=>rs=[.i a,.i b]
theorem qv5 (li:Bool) (m o:Int) (l:List OpT) (ho:0<=o/\o<=65536) (hl:l.length<=4096):∀ (k i:Nat) (s:Int),l.length-i=k->i<=l.length->0<=s->s<=o ->
  GD 111 Tryz.f111 (ChQ (chkF m l.length (l.drop i) (o-s) i).1 (chkF m l.length (l.drop i) (o-s) i).2) (hd Tryz.f111 0) ⟨[(1,.ptr 1 0),(4,.i s),(5,.i (i:Nat))],[(1,.var (pL li m o l))]⟩:=by
 intro k
 induction k with
 | zero=>
  intro i s hk hi h0 hs;have hi:i=l.length:=by omega
  subst hi;refine qak cxRc (qq5 li m o s l _ _ _) ?_;rw[decide_eq_false (by omega),bc_f,List.drop_length];simp only[chkF];refine qaf (λ h=>?_) (λ h=>?_)
  ·have h:s≠o:=of_decide_eq_true h;rw[if_pos (by omega)]
  ·have h:¬ s≠o:=of_decide_eq_false h;rw[if_neg (by omega)]
 | succ k ih=>
  intro i s hk hi h0 hs;have hil:i<l.length:=by omega
  refine qak cxRc (qq5 li m o s l i _ _) ?_;rw[decide_eq_true (show (i:Int)<(l.length:Int) by omega),bc_t,Int.toNat_natCast,qgh hil,IntWalk.i64_in ((i:Int)+1) (by omega),qt1 hil];simp only[chkF];refine ⟨by omega,by omega,trivial,qaf (λ h=>⟨trivial,?_⟩) (λ h=>⟨by omega,by omega,?_⟩)⟩
  ·have h:isRB l[i] m=false:=by simpa using h
   rw[if_pos h]
  ·have h:isRB l[i] m=true:=by simpa using h
   have hx:=qdt h;have w:IntKind.i64.wrap (s+l[i].2.2.1)=s+l[i].2.2.1:=IntWalk.i64_in _ (by omega);have h2:¬ isRB l[i] m=false:=by rw[h];decide
   rw[w,if_neg h2];refine qaf (λ h3=>?_) (λ h3=>?_)
   ·have h3:o<s+l[i].2.2.1:=of_decide_eq_true h3;rw[if_pos (by omega)]
   ·have h3:¬ o<s+l[i].2.2.1:=of_decide_eq_false h3;have nx:=ih (i+1) (s+l[i].2.2.1) (by omega) (by omega) (by omega) (by omega);have e:o-(s+l[i].2.2.1)=o-s-l[i].2.2.1:=by omega
    rw[e] at nx;rw[if_neg (by omega)];exact ⟨by omega,by omega,nx.only ⟨rfl,rfl,rfl,trivial⟩ ⟨rfl,trivial⟩⟩
theorem qz0 (li:Bool) (m o:Int) (l:List OpT):GD 111 Tryz.f111 (ChQ (chkV (li,m,o,l)).1 (chkV (li,m,o,l)).2) [.code (qad Tryz.f111)] (entry [paS] ((li,m,o,l),())):=by
 have bad:¬ (szB m=true/\szB o=true/\l.length<=4096)->chkV (li,m,o,l)=(-1,60):=λ q=>if_neg q
 refine qak cxRc (q4h li m o l _ _) ⟨trivial,qaf (λ h=>⟨rfl,rfl,?_⟩) (λ h=>⟨trivial,qaf (λ h2=>⟨rfl,?_⟩) (λ h2=>qaf (λ h3=>?_) (λ h3=>?_))⟩)⟩
 ·have h:(!szB m)=true:=h;rw[bad λ q=>by rw[q.1] at h;cases h]
 ·have h2:(!szB o)=true:=h2;rw[bad λ q=>by rw[q.2.1] at h2;cases h2]
 ·have h3:(4096:Int)<(l.length:Int):=of_decide_eq_true h3;rw[bad λ q=>by omega]
 ·have h:(!szB m)=false:=h;have h2:(!szB o)=false:=h2;have h3:¬ (4096:Int)<(l.length:Int):=of_decide_eq_false h3;have hg:szB m=true/\szB o=true/\l.length<=4096:=⟨by simpa using h,by simpa using h2,by omega⟩;have ho:0<=o/\o<=65536:=by
   have:=hg.2.1;simpa [szB] using this
  have hv:chkV (li,m,o,l)=chkF m l.length (l.drop 0) (o-0) ((0:Nat):Int):=by
   unfold chkV;rw[if_pos hg,Int.sub_zero];rfl
  rw[hv];exact (qv5 li m o l ho hg.2.2 _ 0 0 rfl (by omega) (by omega) ho.1).only ⟨rfl,rfl,rfl,trivial⟩ ⟨rfl,trivial⟩
theorem qv6:Held Tryz.prog G0 111 ctChk:=
 Held.of cxRc (fn:=Tryz.f111) rfl rfl ⟨by decide,by decide⟩ λ ⟨⟨li,m,o,l⟩,_⟩ _=>
  (qz0 li m o l).post λ rs blk hq=>QC.flat (by rw[hq];rfl) rfl (by rw[hq];rfl)
def ctRi:Ctr:=⟨[paS],λ _=>True,λ x=>[.bool (decide ((chkV x.1).2=0))],λ _=>[]⟩
theorem qta:Held Tryz.prog G0 59 ctRi:=
 Held.run (cx0.k qv6 (fn:=Tryz.f111)) (fn:=Tryz.f59) rfl rfl ⟨by decide,by decide⟩ λ ⟨⟨li,m,o,l⟩,_⟩ _=>
  (qyp li m o l _ _).mpr ⟨trivial,QC.flat rfl rfl rfl⟩
end Go.Proofs.YtgopblmdkjkbbaaGreatDoor
