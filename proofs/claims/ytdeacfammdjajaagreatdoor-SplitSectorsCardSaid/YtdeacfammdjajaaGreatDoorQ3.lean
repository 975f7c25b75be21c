/-
  A part of the proof: what pieces of the program give; conditions: those of each theorem.
-/
import Derived.Test.YtdeacfammdjajaaGreatDoorQ1
import Derived.Test.YtdeacfammdjajaaGreatDoorQ0
import Derived.Test.YtdeacfammdjajaaGreatDoorHD
import Derived.Test.YtdeacfammdjajaaGreatDoorQ2
set_option linter.unusedVariables false
set_option linter.unusedSimpArgs false
namespace Go.Proofs.YtdeacfammdjajaaGreatDoor.Im
open Go.Px Go.Ax
open Go.IntKind(i64 u32 u8)
set_option maxRecDepth 100000
abbrev seS:Sh:=.pair .str (.pair (.int .i64) (.pair (.int .i64) .bool))
abbrev rwS:Sh:=.pair (.int .u8) (.pair (.int .u8) (.pair (.int .u8) .bool))
set_option maxRecDepth 100000
theorem q3l (l:List (rwS.D)) (n:Int) (Q:QT) (R:RT):sA [] Tryz.f25 Q R [.code (qae Tryz.f25)] (entry [.sl rwS,iI] (l,n,())) =
  (R (hd Tryz.f25 0) { env:=[(0,.sl ((Sh.int u8).pair ((Sh.int u8).pair ((Sh.int u8).pair Sh.bool))) l),(1,.i n),(4,.nils),(5,.win true Sh.str (10:Nat) (0:Nat) (8:Nat)),(6,.win true (Sh.str.pair ((Sh.int i64).pair ((Sh.int i64).pair Sh.bool))) (11:Nat) (0:Nat) (0:Nat)),(7,.i 0),(8,.i 0),(10,.win true Sh.str (10:Nat) (0:Nat) (8:Nat)),(11,.win true (Sh.str.pair ((Sh.int i64).pair ((Sh.int i64).pair Sh.bool))) (11:Nat) (0:Nat) (0:Nat))],blk:=[(10,.row 9 Sh.str (((((((((List.replicate (8:Nat) Sh.str.dflt).set (0:Nat) (ByteArray.mk #[(98:UInt8),(111:UInt8),(111:UInt8),(116:UInt8)]).data.toList).set (1:Nat) (ByteArray.mk #[(97:UInt8),(112:UInt8),(112:UInt8)]).data.toList).set (2:Nat) (ByteArray.mk #[(68:UInt8),(97:UInt8),(116:UInt8),(97:UInt8)]).data.toList).set (3:Nat) (ByteArray.mk #[(120:UInt8),(49:UInt8)]).data.toList).set (4:Nat) (ByteArray.mk #[(116:UInt8),(97:UInt8),(105:UInt8),(108:UInt8)]).data.toList).set (5:Nat) (ByteArray.mk #[(99:UInt8),(102:UInt8),(103:UInt8)]).data.toList).set (6:Nat) (ByteArray.mk #[(65:UInt8)]).data.toList).set (7:Nat) (ByteArray.mk #[(116:UInt8),(119:UInt8),(101:UInt8),(108:UInt8),(118:UInt8),(101:UInt8),(108:UInt8),(101:UInt8),(116:UInt8),(116:UInt8),(101:UInt8),(114:UInt8)]).data.toList)),(11,.row 62 (Sh.str.pair ((Sh.int i64).pair ((Sh.int i64).pair Sh.bool))) (List.replicate (0:Nat) (Sh.str.pair ((Sh.int i64).pair ((Sh.int i64).pair Sh.bool))).dflt))] }):=by kernel_rfl
theorem qq1 (l:List (rwS.D)) (n at_ i:Int) (nm:List (List UInt8)) (o:List seS.D) (Q:QT) (R:RT):sA [] Tryz.f25 Q (λ it S=>R it (qbt [0,1,5,6,7,8] [10,11,90] S)) (hd Tryz.f25 0) ⟨[(0,.sl rwS l),(1,.i n),(5,.win true .str 10 0 nm.length),(6,.win true seS 11 0 o.length),(7,.i at_),(8,.i i)],[(10,.row 9 .str nm),(11,.row 62 seS o)]⟩ =
  (bc (decide (i<(l.length:Int))) (bc (bif true then decide (i<8) else false) ((0:Int)<=i/\i<(nm.length:Int)/\(0:Nat)+i.toNat<nm.length/\(0:Int)<=i/\i<(l.length:Int)/\(8:Int)≠0/\(0:Int)<=i/\i<(l.length:Int)/\bc (gt ((Sh.int u8).pair ((Sh.int u8).pair ((Sh.int u8).pair Sh.bool))) l i.toNat).2.2.2 ((4:Int)≠0/\(0:Int)<=i/\i<(l.length:Int)/\(8:Int)≠0/\bc (decide (n<i64.wrap (i64.wrap (i64.wrap (i64.wrap ((i64.wrap (i64.wrap (at_+i64.wrap (Int.tmod (gt ((Sh.int u8).pair ((Sh.int u8).pair ((Sh.int u8).pair Sh.bool))) l i.toNat).1 (8:Int)))+3)).tdiv (4:Int))*(4:Int))+4)+i64.wrap ((4:Int)*i64.wrap (Int.tmod (gt ((Sh.int u8).pair ((Sh.int u8).pair ((Sh.int u8).pair Sh.bool))) l i.toNat).2.1 (8:Int)))))) (Q [.win true (Sh.str.pair ((Sh.int i64).pair ((Sh.int i64).pair Sh.bool))) (11:Nat) (0:Nat) o.length] [(9,.var [.str (gt Sh.str nm ((0:Nat)+i.toNat)),.i (i64.wrap (i64.wrap ((i64.wrap (i64.wrap (at_+i64.wrap (Int.tmod (gt ((Sh.int u8).pair ((Sh.int u8).pair ((Sh.int u8).pair Sh.bool))) l i.toNat).1 (8:Int)))+3)).tdiv (4:Int))*(4:Int))),.i (i64.wrap (i64.wrap (i64.wrap (i64.wrap ((i64.wrap (i64.wrap (at_+i64.wrap (Int.tmod (gt ((Sh.int u8).pair ((Sh.int u8).pair ((Sh.int u8).pair Sh.bool))) l i.toNat).1 (8:Int)))+3)).tdiv (4:Int))*(4:Int))+4)+i64.wrap ((4:Int)*i64.wrap (Int.tmod (gt ((Sh.int u8).pair ((Sh.int u8).pair ((Sh.int u8).pair Sh.bool))) l i.toNat).2.1 (8:Int))))),.bool (gt ((Sh.int u8).pair ((Sh.int u8).pair ((Sh.int u8).pair Sh.bool))) l i.toNat).2.2.2]),(10,.row 9 Sh.str nm),(11,.row 62 (Sh.str.pair ((Sh.int i64).pair ((Sh.int i64).pair Sh.bool))) o)]) ((0:Nat)+1<=((List.replicate (1:Nat) (Sh.str.pair ((Sh.int i64).pair ((Sh.int i64).pair Sh.bool))).dflt).set (0:Nat) (gt Sh.str nm ((0:Nat)+i.toNat),i64.wrap (i64.wrap ((i64.wrap (i64.wrap (at_+i64.wrap (Int.tmod (gt ((Sh.int u8).pair ((Sh.int u8).pair ((Sh.int u8).pair Sh.bool))) l i.toNat).1 (8:Int)))+3)).tdiv (4:Int))*(4:Int)),i64.wrap (i64.wrap (i64.wrap (i64.wrap ((i64.wrap (i64.wrap (at_+i64.wrap (Int.tmod (gt ((Sh.int u8).pair ((Sh.int u8).pair ((Sh.int u8).pair Sh.bool))) l i.toNat).1 (8:Int)))+3)).tdiv (4:Int))*(4:Int))+4)+i64.wrap ((4:Int)*i64.wrap (Int.tmod (gt ((Sh.int u8).pair ((Sh.int u8).pair ((Sh.int u8).pair Sh.bool))) l i.toNat).2.1 (8:Int)))),(gt ((Sh.int u8).pair ((Sh.int u8).pair ((Sh.int u8).pair Sh.bool))) l i.toNat).2.2.2)).length/\o.length=o.length/\(0:Nat)=(0:Nat)/\o.length+(winL seS 0 1 ((List.replicate (1:Nat) (Sh.str.pair ((Sh.int i64).pair ((Sh.int i64).pair Sh.bool))).dflt).set (0:Nat) (gt Sh.str nm ((0:Nat)+i.toNat),i64.wrap (i64.wrap ((i64.wrap (i64.wrap (at_+i64.wrap (Int.tmod (gt ((Sh.int u8).pair ((Sh.int u8).pair ((Sh.int u8).pair Sh.bool))) l i.toNat).1 (8:Int)))+3)).tdiv (4:Int))*(4:Int)),i64.wrap (i64.wrap (i64.wrap (i64.wrap ((i64.wrap (i64.wrap (at_+i64.wrap (Int.tmod (gt ((Sh.int u8).pair ((Sh.int u8).pair ((Sh.int u8).pair Sh.bool))) l i.toNat).1 (8:Int)))+3)).tdiv (4:Int))*(4:Int))+4)+i64.wrap ((4:Int)*i64.wrap (Int.tmod (gt ((Sh.int u8).pair ((Sh.int u8).pair ((Sh.int u8).pair Sh.bool))) l i.toNat).2.1 (8:Int)))),(gt ((Sh.int u8).pair ((Sh.int u8).pair ((Sh.int u8).pair Sh.bool))) l i.toNat).2.2.2))).length<2 ^ 30/\(40:Nat)<=2 ^ 10/\R (hd Tryz.f25 0) { env:=[(0,.sl ((Sh.int u8).pair ((Sh.int u8).pair ((Sh.int u8).pair Sh.bool))) l),(1,.i n),(5,.win true Sh.str (10:Nat) (0:Nat) nm.length),(6,.win true (Sh.str.pair ((Sh.int i64).pair ((Sh.int i64).pair Sh.bool))) (90:Nat) (0:Nat) (o.length+(winL seS 0 1 ((List.replicate (1:Nat) (Sh.str.pair ((Sh.int i64).pair ((Sh.int i64).pair Sh.bool))).dflt).set (0:Nat) (gt Sh.str nm ((0:Nat)+i.toNat),i64.wrap (i64.wrap ((i64.wrap (i64.wrap (at_+i64.wrap (Int.tmod (gt ((Sh.int u8).pair ((Sh.int u8).pair ((Sh.int u8).pair Sh.bool))) l i.toNat).1 (8:Int)))+3)).tdiv (4:Int))*(4:Int)),i64.wrap (i64.wrap (i64.wrap (i64.wrap ((i64.wrap (i64.wrap (at_+i64.wrap (Int.tmod (gt ((Sh.int u8).pair ((Sh.int u8).pair ((Sh.int u8).pair Sh.bool))) l i.toNat).1 (8:Int)))+3)).tdiv (4:Int))*(4:Int))+4)+i64.wrap ((4:Int)*i64.wrap (Int.tmod (gt ((Sh.int u8).pair ((Sh.int u8).pair ((Sh.int u8).pair Sh.bool))) l i.toNat).2.1 (8:Int)))),(gt ((Sh.int u8).pair ((Sh.int u8).pair ((Sh.int u8).pair Sh.bool))) l i.toNat).2.2.2))).length)),(7,.i (i64.wrap (i64.wrap (i64.wrap (i64.wrap ((i64.wrap (i64.wrap (at_+i64.wrap (Int.tmod (gt ((Sh.int u8).pair ((Sh.int u8).pair ((Sh.int u8).pair Sh.bool))) l i.toNat).1 (8:Int)))+3)).tdiv (4:Int))*(4:Int))+4)+i64.wrap ((4:Int)*i64.wrap (Int.tmod (gt ((Sh.int u8).pair ((Sh.int u8).pair ((Sh.int u8).pair Sh.bool))) l i.toNat).2.1 (8:Int)))))),(8,.i (i64.wrap (i+1)))],blk:=[(10,.row 9 Sh.str nm),(90,.row 62 (Sh.str.pair ((Sh.int i64).pair ((Sh.int i64).pair Sh.bool))) (o++winL (Sh.str.pair ((Sh.int i64).pair ((Sh.int i64).pair Sh.bool))) (0:Nat) (1:Nat) ((List.replicate (1:Nat) (Sh.str.pair ((Sh.int i64).pair ((Sh.int i64).pair Sh.bool))).dflt).set (0:Nat) (gt Sh.str nm ((0:Nat)+i.toNat),i64.wrap (i64.wrap ((i64.wrap (i64.wrap (at_+i64.wrap (Int.tmod (gt ((Sh.int u8).pair ((Sh.int u8).pair ((Sh.int u8).pair Sh.bool))) l i.toNat).1 (8:Int)))+3)).tdiv (4:Int))*(4:Int)),i64.wrap (i64.wrap (i64.wrap (i64.wrap ((i64.wrap (i64.wrap (at_+i64.wrap (Int.tmod (gt ((Sh.int u8).pair ((Sh.int u8).pair ((Sh.int u8).pair Sh.bool))) l i.toNat).1 (8:Int)))+3)).tdiv (4:Int))*(4:Int))+4)+i64.wrap ((4:Int)*i64.wrap (Int.tmod (gt ((Sh.int u8).pair ((Sh.int u8).pair ((Sh.int u8).pair Sh.bool))) l i.toNat).2.1 (8:Int)))),(gt ((Sh.int u8).pair ((Sh.int u8).pair ((Sh.int u8).pair Sh.bool))) l i.toNat).2.2.2))))] })) ((0:Int)<=i/\i<(l.length:Int)/\(8:Int)≠0/\(0:Int)<=i/\i<(l.length:Int)/\(4:Int)≠0/\bc (decide (n<i64.wrap (i64.wrap (i64.wrap (i64.wrap (at_+i64.wrap (Int.tmod (gt ((Sh.int u8).pair ((Sh.int u8).pair ((Sh.int u8).pair Sh.bool))) l i.toNat).1 (8:Int)))+1)+i64.wrap ((4:Int)*i64.wrap (Int.tmod (gt ((Sh.int u8).pair ((Sh.int u8).pair ((Sh.int u8).pair Sh.bool))) l i.toNat).2.1 (8:Int))))+i64.wrap (Int.tmod (gt ((Sh.int u8).pair ((Sh.int u8).pair ((Sh.int u8).pair Sh.bool))) l i.toNat).2.2.1 (4:Int))))) (Q [.win true (Sh.str.pair ((Sh.int i64).pair ((Sh.int i64).pair Sh.bool))) (11:Nat) (0:Nat) o.length] [(9,.var [.str (gt Sh.str nm ((0:Nat)+i.toNat)),.i (i64.wrap (at_+i64.wrap (Int.tmod (gt ((Sh.int u8).pair ((Sh.int u8).pair ((Sh.int u8).pair Sh.bool))) l i.toNat).1 (8:Int)))),.i (i64.wrap (i64.wrap (i64.wrap (i64.wrap (at_+i64.wrap (Int.tmod (gt ((Sh.int u8).pair ((Sh.int u8).pair ((Sh.int u8).pair Sh.bool))) l i.toNat).1 (8:Int)))+1)+i64.wrap ((4:Int)*i64.wrap (Int.tmod (gt ((Sh.int u8).pair ((Sh.int u8).pair ((Sh.int u8).pair Sh.bool))) l i.toNat).2.1 (8:Int))))+i64.wrap (Int.tmod (gt ((Sh.int u8).pair ((Sh.int u8).pair ((Sh.int u8).pair Sh.bool))) l i.toNat).2.2.1 (4:Int)))),.bool (gt ((Sh.int u8).pair ((Sh.int u8).pair ((Sh.int u8).pair Sh.bool))) l i.toNat).2.2.2]),(10,.row 9 Sh.str nm),(11,.row 62 (Sh.str.pair ((Sh.int i64).pair ((Sh.int i64).pair Sh.bool))) o)]) ((0:Nat)+1<=((List.replicate (1:Nat) (Sh.str.pair ((Sh.int i64).pair ((Sh.int i64).pair Sh.bool))).dflt).set (0:Nat) (gt Sh.str nm ((0:Nat)+i.toNat),i64.wrap (at_+i64.wrap (Int.tmod (gt ((Sh.int u8).pair ((Sh.int u8).pair ((Sh.int u8).pair Sh.bool))) l i.toNat).1 (8:Int))),i64.wrap (i64.wrap (i64.wrap (i64.wrap (at_+i64.wrap (Int.tmod (gt ((Sh.int u8).pair ((Sh.int u8).pair ((Sh.int u8).pair Sh.bool))) l i.toNat).1 (8:Int)))+1)+i64.wrap ((4:Int)*i64.wrap (Int.tmod (gt ((Sh.int u8).pair ((Sh.int u8).pair ((Sh.int u8).pair Sh.bool))) l i.toNat).2.1 (8:Int))))+i64.wrap (Int.tmod (gt ((Sh.int u8).pair ((Sh.int u8).pair ((Sh.int u8).pair Sh.bool))) l i.toNat).2.2.1 (4:Int))),(gt ((Sh.int u8).pair ((Sh.int u8).pair ((Sh.int u8).pair Sh.bool))) l i.toNat).2.2.2)).length/\o.length=o.length/\(0:Nat)=(0:Nat)/\o.length+(winL seS 0 1 ((List.replicate (1:Nat) (Sh.str.pair ((Sh.int i64).pair ((Sh.int i64).pair Sh.bool))).dflt).set (0:Nat) (gt Sh.str nm ((0:Nat)+i.toNat),i64.wrap (at_+i64.wrap (Int.tmod (gt ((Sh.int u8).pair ((Sh.int u8).pair ((Sh.int u8).pair Sh.bool))) l i.toNat).1 (8:Int))),i64.wrap (i64.wrap (i64.wrap (i64.wrap (at_+i64.wrap (Int.tmod (gt ((Sh.int u8).pair ((Sh.int u8).pair ((Sh.int u8).pair Sh.bool))) l i.toNat).1 (8:Int)))+1)+i64.wrap ((4:Int)*i64.wrap (Int.tmod (gt ((Sh.int u8).pair ((Sh.int u8).pair ((Sh.int u8).pair Sh.bool))) l i.toNat).2.1 (8:Int))))+i64.wrap (Int.tmod (gt ((Sh.int u8).pair ((Sh.int u8).pair ((Sh.int u8).pair Sh.bool))) l i.toNat).2.2.1 (4:Int))),(gt ((Sh.int u8).pair ((Sh.int u8).pair ((Sh.int u8).pair Sh.bool))) l i.toNat).2.2.2))).length<2 ^ 30/\(40:Nat)<=2 ^ 10/\R (hd Tryz.f25 0) { env:=[(0,.sl ((Sh.int u8).pair ((Sh.int u8).pair ((Sh.int u8).pair Sh.bool))) l),(1,.i n),(5,.win true Sh.str (10:Nat) (0:Nat) nm.length),(6,.win true (Sh.str.pair ((Sh.int i64).pair ((Sh.int i64).pair Sh.bool))) (90:Nat) (0:Nat) (o.length+(winL seS 0 1 ((List.replicate (1:Nat) (Sh.str.pair ((Sh.int i64).pair ((Sh.int i64).pair Sh.bool))).dflt).set (0:Nat) (gt Sh.str nm ((0:Nat)+i.toNat),i64.wrap (at_+i64.wrap (Int.tmod (gt ((Sh.int u8).pair ((Sh.int u8).pair ((Sh.int u8).pair Sh.bool))) l i.toNat).1 (8:Int))),i64.wrap (i64.wrap (i64.wrap (i64.wrap (at_+i64.wrap (Int.tmod (gt ((Sh.int u8).pair ((Sh.int u8).pair ((Sh.int u8).pair Sh.bool))) l i.toNat).1 (8:Int)))+1)+i64.wrap ((4:Int)*i64.wrap (Int.tmod (gt ((Sh.int u8).pair ((Sh.int u8).pair ((Sh.int u8).pair Sh.bool))) l i.toNat).2.1 (8:Int))))+i64.wrap (Int.tmod (gt ((Sh.int u8).pair ((Sh.int u8).pair ((Sh.int u8).pair Sh.bool))) l i.toNat).2.2.1 (4:Int))),(gt ((Sh.int u8).pair ((Sh.int u8).pair ((Sh.int u8).pair Sh.bool))) l i.toNat).2.2.2))).length)),(7,.i (i64.wrap (i64.wrap (i64.wrap (i64.wrap (at_+i64.wrap (Int.tmod (gt ((Sh.int u8).pair ((Sh.int u8).pair ((Sh.int u8).pair Sh.bool))) l i.toNat).1 (8:Int)))+1)+i64.wrap ((4:Int)*i64.wrap (Int.tmod (gt ((Sh.int u8).pair ((Sh.int u8).pair ((Sh.int u8).pair Sh.bool))) l i.toNat).2.1 (8:Int))))+i64.wrap (Int.tmod (gt ((Sh.int u8).pair ((Sh.int u8).pair ((Sh.int u8).pair Sh.bool))) l i.toNat).2.2.1 (4:Int))))),(8,.i (i64.wrap (i+1)))],blk:=[(10,.row 9 Sh.str nm),(90,.row 62 (Sh.str.pair ((Sh.int i64).pair ((Sh.int i64).pair Sh.bool))) (o++winL (Sh.str.pair ((Sh.int i64).pair ((Sh.int i64).pair Sh.bool))) (0:Nat) (1:Nat) ((List.replicate (1:Nat) (Sh.str.pair ((Sh.int i64).pair ((Sh.int i64).pair Sh.bool))).dflt).set (0:Nat) (gt Sh.str nm ((0:Nat)+i.toNat),i64.wrap (at_+i64.wrap (Int.tmod (gt ((Sh.int u8).pair ((Sh.int u8).pair ((Sh.int u8).pair Sh.bool))) l i.toNat).1 (8:Int))),i64.wrap (i64.wrap (i64.wrap (i64.wrap (at_+i64.wrap (Int.tmod (gt ((Sh.int u8).pair ((Sh.int u8).pair ((Sh.int u8).pair Sh.bool))) l i.toNat).1 (8:Int)))+1)+i64.wrap ((4:Int)*i64.wrap (Int.tmod (gt ((Sh.int u8).pair ((Sh.int u8).pair ((Sh.int u8).pair Sh.bool))) l i.toNat).2.1 (8:Int))))+i64.wrap (Int.tmod (gt ((Sh.int u8).pair ((Sh.int u8).pair ((Sh.int u8).pair Sh.bool))) l i.toNat).2.2.1 (4:Int))),(gt ((Sh.int u8).pair ((Sh.int u8).pair ((Sh.int u8).pair Sh.bool))) l i.toNat).2.2.2))))] }))) (Q [.win true (Sh.str.pair ((Sh.int i64).pair ((Sh.int i64).pair Sh.bool))) (11:Nat) (0:Nat) o.length] [(10,.row 9 Sh.str nm),(11,.row 62 (Sh.str.pair ((Sh.int i64).pair ((Sh.int i64).pair Sh.bool))) o)])) (false=false/\Q [.win true (Sh.str.pair ((Sh.int i64).pair ((Sh.int i64).pair Sh.bool))) (11:Nat) (0:Nat) o.length] [(10,.row 9 Sh.str nm),(11,.row 62 (Sh.str.pair ((Sh.int i64).pair ((Sh.int i64).pair Sh.bool))) o)])):=by kernel_rfl
attribute [local irreducible] Go.Px.sy Go.Px.syE
abbrev Sec:Type:=List UInt8 × Int × Int × Bool
abbrev Raw:Type:=Int × Int × Int × Bool
def rawOK (r:Raw):Prop:=(0<=r.1/\r.1<256)/\(0<=r.2.1/\r.2.1<256)/\(0<=r.2.2.1/\r.2.2.1<256)
def qu9 (nm:List UInt8) (at_:Int) (r:Raw):Sec:=match r.2.2.2 with
 | true=>(nm,(at_+r.1 % 8+3) / 4*4,(at_+r.1 % 8+3) / 4*4+4+4*(r.2.1 % 8),true)
 | false=>(nm,at_+r.1 % 8,at_+r.1 % 8+1+4*(r.2.1 % 8)+r.2.2.1 % 4,false)
def mkF (n:Int):List (List UInt8)->Int->List Raw->List Sec
 | nm::nms,at_,r::rs=>if n<(qu9 nm at_ r).2.2.1 then [] else qu9 nm at_ r::mkF n nms (qu9 nm at_ r).2.2.1 rs
 | _,_,_=>[]
def nmL:List (List UInt8):=[[98,111,111,116],[97,112,112],[68,97,116,97],[120,49],[116,97,105,108],[99,102,103],[65],[116,119,101,108,118,101,108,101,116,116,101,114]]
def qpz (l:List Raw) (n:Int):Prop:=(∀ r∈l,rawOK r)/\0<=n/\n<100000
def mk (l:List Raw) (n:Int):List Sec:=mkF n nmL 0 l
def ctMk:Ctr:=⟨[.sl rwS,iI],λ x=>qpz x.1 x.2.1,λ x=>[.win true seS 0 0 (List.length (mk x.1 x.2.1))],λ x=>[.row 62 seS (mk x.1 x.2.1)]⟩
theorem qp6 {l:List Raw} {n:Int} (hp:qpz l n) {nm:List (List UInt8)} (hnm:nm.length=8) {x:List Sec} (hx:x=mk l n):∀ (k i:Nat) (at_:Int) (o:List Sec),8-i<=k->i<=8->0<=at_->at_<=n->o.length=i->o++mkF n (nm.drop i) at_ (l.drop i)=x ->
  GD 25 Tryz.f25 (QC ctMk (l,n,())) (hd Tryz.f25 0) ⟨[(0,.sl rwS l),(1,.i n),(5,.win true .str 10 0 nm.length),(6,.win true seS 11 0 o.length),(7,.i at_),(8,.i (i:Nat))],[(10,.row 9 .str nm),(11,.row 62 seS o)]⟩:=by
 obtain ⟨hr,hn1,hn2⟩:=hp;have fin:∀ (o:List Sec) (blk:List (Nat × LB)),o=x->lk blk 11=some (.row 62 seS o)->QC ctMk (l,n,()) [.win true seS 11 0 o.length] blk:=by
  intro o blk ho hb;rw[hx] at ho;subst ho;exact qvt rfl rfl rfl rfl hb
 intro k
 induction k with
 | zero=>
  intro i at_ o hk hi h1 h2 ho hx;refine qat cx0 (qq1 l n at_ i nm o _ _) ?_;have hf:∀ h:i<l.length,False->False:=λ _ h=>h
  rw[List.drop_eq_nil_of_le (show nm.length<=i by omega)] at hx;simp only[mkF,List.append_nil] at hx;refine qag (λ h=>?_) (λ h=>⟨rfl,fin o _ hx rfl⟩);rw[decide_eq_false (show ¬ ((i:Int)<8) by omega),cond_true,bc_f];exact fin o _ hx rfl
 | succ k ih=>
  intro i at_ o hk hi h1 h2 ho hx;by_cases h8:i<8
  ·refine qat cx0 (qq1 l n at_ i nm o _ _) ?_;by_cases hl:i<l.length
   ·have e1:gt rwS l (i:Int).toNat=l[i]:=gtE hl;have e2:gt .str nm (0+(i:Int).toNat)=nm[i]:=by rw[Nat.zero_add];exact gtE (by omega)
    have hro:=hr l[i] (List.getElem_mem hl);have k2:=λ a o=>ih (i+1) a o (by omega) (by omega)
    rw[qlo (show i<nm.length by omega),qlo hl] at hx;rw[decide_eq_true (show (i:Int)<(l.length:Int) by omega),bc_t,decide_eq_true (show (i:Int)<8 by omega),cond_true,bc_t,e1,e2];generalize l[i]=r at hx hro;generalize nm[i]=nmi at hx;obtain ⟨g,w,od,c⟩:=r;obtain ⟨⟨g1,g2⟩,⟨w1,w2⟩,⟨d1,d2⟩⟩:=hro;have g1:0<=g:=g1;have g2:g<256:=g2;have w1:0<=w:=w1;have w2:w<256:=w2;have d1:0<=od:=d1;have d2:od<256:=d2;have tg:g.tmod 8=g % 8:=Int.tmod_eq_emod_of_nonneg g1;have tw:w.tmod 8=w % 8:=Int.tmod_eq_emod_of_nonneg w1;have td:od.tmod 4=od % 4:=Int.tmod_eq_emod_of_nonneg d1;have q1:i64.wrap (g % 8)=g % 8:=IntWalk.i64_in _ (by omega);have q2:i64.wrap (at_+g % 8)=at_+g % 8:=IntWalk.i64_in _ (by omega);have q3:i64.wrap (w % 8)=w % 8:=IntWalk.i64_in _ (by omega);have q4:i64.wrap (4*(w % 8))=4*(w % 8):=IntWalk.i64_in _ (by omega);have q5:i64.wrap (od % 4)=od % 4:=IntWalk.i64_in _ (by omega);have q0:i64.wrap ((i:Int)+1)=((i+1:Nat):Int):=by rw[IntWalk.i64_in _ (by omega)];rfl
    cases c with
    | true=>
     have q6:i64.wrap (at_+g % 8+3)=at_+g % 8+3:=IntWalk.i64_in _ (by omega);have q7:(at_+g % 8+3).tdiv 4=(at_+g % 8+3) / 4:=Int.tdiv_eq_ediv_of_nonneg (by omega);have q7b:i64.wrap ((at_+g % 8+3) / 4)=(at_+g % 8+3) / 4:=IntWalk.i64_in _ (by omega);have q8:i64.wrap ((at_+g % 8+3) / 4*4)=(at_+g % 8+3) / 4*4:=IntWalk.i64_in _ (by omega);have q9:i64.wrap ((at_+g % 8+3) / 4*4+4)=(at_+g % 8+3) / 4*4+4:=IntWalk.i64_in _ (by omega);have q10:i64.wrap ((at_+g % 8+3) / 4*4+4+4*(w % 8))=(at_+g % 8+3) / 4*4+4+4*(w % 8):=IntWalk.i64_in _ (by omega);have hsec:qu9 nmi at_ (g,w,od,true)=(nmi,(at_+g % 8+3) / 4*4,(at_+g % 8+3) / 4*4+4+4*(w % 8),true):=rfl;simp only[tg,tw,td,q1,q2,q3,q4,q5,q6,q7,q7b,q8,q9,q10,q0,bc_t];rw[mkF,hsec] at hx;simp only at hx;refine ⟨by omega,by omega,by omega,by omega,by omega,by decide,by omega,by omega,by decide,by omega,by omega,by decide,qag (λ h=>?_) (λ h=>?_)⟩
     ·have h:=of_decide_eq_true h;rw[if_pos h,List.append_nil] at hx;exact fin o _ hx rfl
     ·have h:=of_decide_eq_false h;rw[if_neg h] at hx;refine ⟨by simp,trivial,trivial,?_,by decide,?_⟩
      ·show o.length+1<2 ^ 30
       omega
      ·refine Good.onlyR (k2 _ (o++[(nmi,(at_+g % 8+3) / 4*4,(at_+g % 8+3) / 4*4+4+4*(w % 8),true)]) (by omega) (by omega) (by simp[ho]) (by rw[List.append_assoc];exact hx)) [(11,90)] rfl ⟨rfl,rfl,rfl,?_,rfl,rfl,trivial⟩ ⟨rfl,rfl,trivial⟩
       show some (SV.win true seS 90 0 (o.length+1))=some (SV.win true seS 90 0 (o++[_]).length)
       rw[List.length_append,List.length_singleton]
    | false=>
     have q6:i64.wrap (at_+g % 8+1)=at_+g % 8+1:=IntWalk.i64_in _ (by omega);have q7:i64.wrap (at_+g % 8+1+4*(w % 8))=at_+g % 8+1+4*(w % 8):=IntWalk.i64_in _ (by omega);have q8:i64.wrap (at_+g % 8+1+4*(w % 8)+od % 4)=at_+g % 8+1+4*(w % 8)+od % 4:=IntWalk.i64_in _ (by omega);have hsec:qu9 nmi at_ (g,w,od,false)=(nmi,at_+g % 8,at_+g % 8+1+4*(w % 8)+od % 4,false):=rfl;simp only[tg,tw,td,q1,q2,q3,q4,q5,q6,q7,q8,q0,bc_f];rw[mkF,hsec] at hx;simp only at hx;refine ⟨by omega,by omega,by omega,by omega,by omega,by decide,by omega,by omega,by omega,by omega,by decide,by omega,by omega,by decide,qag (λ h=>?_) (λ h=>?_)⟩
     ·have h:=of_decide_eq_true h;rw[if_pos h,List.append_nil] at hx;exact fin o _ hx rfl
     ·have h:=of_decide_eq_false h;rw[if_neg h] at hx;refine ⟨by simp,trivial,trivial,?_,by decide,?_⟩
      ·show o.length+1<2 ^ 30
       omega
      ·refine Good.onlyR (k2 _ (o++[(nmi,at_+g % 8,at_+g % 8+1+4*(w % 8)+od % 4,false)]) (by omega) (by omega) (by simp[ho]) (by rw[List.append_assoc];exact hx)) [(11,90)] rfl ⟨rfl,rfl,rfl,?_,rfl,rfl,trivial⟩ ⟨rfl,rfl,trivial⟩
       show some (SV.win true seS 90 0 (o.length+1))=some (SV.win true seS 90 0 (o++[_]).length)
       rw[List.length_append,List.length_singleton]
   ·have e0:mkF n (nm.drop i) at_ (l.drop i)=[]:=by
     rw[List.drop_eq_nil_of_le (show l.length<=i by omega)]
     cases nm.drop i <;> rfl
    rw[e0,List.append_nil] at hx;rw[decide_eq_false (by omega),bc_f];exact ⟨rfl,fin o _ hx rfl⟩
  ·exact ih i at_ o (by omega) hi h1 h2 ho hx
theorem qwk (l:List Raw) (n:Int) (hp:qpz l n):sA [] Tryz.f25 (QC ctMk (l,n,())) (Px.Good Tryz.prog tt G0 25 Tryz.f25.ntmps Tryz.f25.results.toList (QC ctMk (l,n,()))) [.code (qae Tryz.f25)] (entry [.sl rwS,iI] (l,n,())):=by
 rw[q3l];exact (qp6 hp (nm:=nmL) rfl rfl _ 0 0 [] (Nat.le_refl _) (Nat.zero_le _) (by omega) hp.2.1 rfl rfl).only ⟨rfl,rfl,rfl,rfl,rfl,rfl,trivial⟩ ⟨rfl,rfl,trivial⟩
theorem qp7:Held Tryz.prog G0 25 ctMk:=Held.run cx0 (fn:=Tryz.f25) rfl rfl ⟨by decide,by decide⟩ λ x hp=>qwk x.1 x.2.1 hp
abbrev D1:CV:=[(25,.inl ctMk)]
theorem dx1:CxOK Tryz.prog tt G0 D1:=cx0.k qp7 (fn:=Tryz.f25)
set_option maxRecDepth 100000
theorem q7i (c:Int) (Q:QT) (R:RT):sA D1 Tryz.f126 Q R [.code (qae Tryz.f126)] (entry [.int .i32] (c,())) =
  (bc (decide ((97:Int)<=c)) (bc (bif true then decide (c<=122) else false) (true=true/\Q [.bool true] []) (bc (decide ((65:Int)<=c)) (Q [.bool (bif false then true else bif true then decide (c<=90) else false)] []) (false=false/\Q [.bool (bif false then true else false)] []))) (false=false/\bc (decide ((65:Int)<=c)) (Q [.bool (bif false then true else bif true then decide (c<=90) else false)] []) (false=false/\Q [.bool (bif false then true else false)] []))):=by kernel_rfl
theorem q7p (c:Int) (Q:QT) (R:RT):sA D1 Tryz.f127 Q R [.code (qae Tryz.f127)] (entry [.int .i32] (c,())) =
  (bc (decide ((48:Int)<=c)) (Q [.bool (bif true then decide (c<=57) else false)] []) (false=false/\Q [.bool false] [])):=by kernel_rfl
theorem q7n (l:List Sec) (s:List UInt8) (Q:QT) (R:RT):sA D1 Tryz.f100 Q R [.code (qae Tryz.f100)] (entry [.sl seS,.str] (l,s,())) =
  (R (hd Tryz.f100 0) { env:=[(0,.sl (Sh.str.pair ((Sh.int i64).pair ((Sh.int i64).pair Sh.bool))) l),(1,.str s),(4,.bool false),(7,.sl (Sh.str.pair ((Sh.int i64).pair ((Sh.int i64).pair Sh.bool))) l),(8,.i (l.length:Int)),(9,.i 0)],blk:=[] }):=by kernel_rfl
theorem qul (l:List Sec) (s:List UInt8) (i:Int) (Q:QT) (R:RT):sA D1 Tryz.f100 Q (λ it S=>R it (qbt [1,7,8,9] [] S)) (hd Tryz.f100 0) ⟨[(1,.str s),(7,.sl seS l),(8,.i l.length),(9,.i i)],[]⟩ =
  (bc (decide (i<(l.length:Int))) ((0:Int)<=i/\i<(l.length:Int)/\bc (decide ((gt (Sh.str.pair ((Sh.int i64).pair ((Sh.int i64).pair Sh.bool))) l i.toNat).1=s)) (Q [.bool true] [(6,.var [.str (gt (Sh.str.pair ((Sh.int i64).pair ((Sh.int i64).pair Sh.bool))) l i.toNat).1,.i (gt (Sh.str.pair ((Sh.int i64).pair ((Sh.int i64).pair Sh.bool))) l i.toNat).2.1,.i (gt (Sh.str.pair ((Sh.int i64).pair ((Sh.int i64).pair Sh.bool))) l i.toNat).2.2.1,.bool (gt (Sh.str.pair ((Sh.int i64).pair ((Sh.int i64).pair Sh.bool))) l i.toNat).2.2.2])]) (R (hd Tryz.f100 0) { env:=[(1,.str s),(7,.sl (Sh.str.pair ((Sh.int i64).pair ((Sh.int i64).pair Sh.bool))) l),(8,.i (l.length:Int)),(9,.i (i64.wrap (i+1)))],blk:=[] })) (Q [.bool false] [])):=by kernel_rfl
theorem q68 (x:Sec) (e n:Int) (Q:QT) (R:RT):sA D1 Tryz.f101 Q R [.code (qae Tryz.f101)] (entry [seS,iI,iI] (x,e,n,())) =
  (bc (decide (x.2.1<e)) (true=true/\true=true/\Q [.bool false] [(3,.var [.str x.1,.i x.2.1,.i x.2.2.1,.bool x.2.2.2])]) (bc (bif false then true else decide (x.2.2.1<=x.2.1)) (true=true/\Q [.bool false] [(3,.var [.str x.1,.i x.2.1,.i x.2.2.1,.bool x.2.2.2])]) (bc (bif false then true else decide (n<x.2.2.1)) (Q [.bool false] [(3,.var [.str x.1,.i x.2.1,.i x.2.2.1,.bool x.2.2.2])]) (bc (!x.2.2.2) (true=true/\Q [.bool true] [(3,.var [.str x.1,.i x.2.1,.i x.2.2.1,.bool x.2.2.2])]) ((4:Int)≠0/\bc (decide (Int.tmod x.2.1 (4:Int)=(0:Int))) ((4:Int)≠0/\Q [.bool (bif false then true else bif true then decide (Int.tmod x.2.2.1 (4:Int)=(0:Int)) else false)] [(3,.var [.str x.1,.i x.2.1,.i x.2.2.1,.bool x.2.2.2])]) (false=false/\Q [.bool (bif false then true else false)] [(3,.var [.str x.1,.i x.2.1,.i x.2.2.1,.bool x.2.2.2])])))))):=by kernel_rfl
def letB (c:Int):Bool:=decide (97<=c/\c<=122\/65<=c/\c<=90)
def digB (c:Int):Bool:=decide (48<=c/\c<=57)
def sgnB (c:Int):Bool:=letB c || digB c
theorem qmk {a b:Bool} (h:a=true↔b=true):[SV.bool a]=[SV.bool b]:=by
 cases a <;> cases b <;> simp at h |-
def ctLet:Ctr:=⟨[.int .i32],λ _=>True,λ x=>[.bool (letB x.1)],λ _=>[]⟩
def ctDig:Ctr:=⟨[.int .i32],λ _=>True,λ x=>[.bool (digB x.1)],λ _=>[]⟩
theorem q5p (c:Int) (R:List Item->PS->Prop):sA D1 Tryz.f126 (QC ctLet (c,())) R [.code (qae Tryz.f126)] (entry [.int .i32] (c,())):=by
 rw[q7i];simp only[qi6,cond_true,cond_false,decide_eq_true_eq,decide_eq_false_iff_not]
 repeat' first
  | exact trivial
  | exact rfl
  | (refine And.intro ?_ ?_)
  | (intro _)
  | (refine QC.flat (qmk ?_) rfl rfl;simp[letB];omega)
theorem q59 (c:Int) (R:List Item->PS->Prop):sA D1 Tryz.f127 (QC ctDig (c,())) R [.code (qae Tryz.f127)] (entry [.int .i32] (c,())):=by
 rw[q7p];simp only[qi6,cond_true,cond_false,decide_eq_true_eq,decide_eq_false_iff_not]
 repeat' first
  | exact trivial
  | exact rfl
  | (refine And.intro ?_ ?_)
  | (intro _)
  | (refine QC.flat (qmk ?_) rfl rfl;simp[digB];omega)
theorem qz4:Held Tryz.prog G0 126 ctLet:=Held.run dx1 (fn:=Tryz.f126) rfl rfl ⟨by decide,by decide⟩ λ x _=>q5p x.1 _
theorem q0s:Held Tryz.prog G0 127 ctDig:=Held.run dx1 (fn:=Tryz.f127) rfl rfl ⟨by decide,by decide⟩ λ x _=>q59 x.1 _
def plcB (e n:Int) (s:Sec):Bool:=decide (e<=s.2.1/\s.2.1<s.2.2.1/\s.2.2.1<=n/\(s.2.2.2=true->s.2.1.tmod 4=0/\s.2.2.1.tmod 4=0))
def ctPlc:Ctr:=⟨[seS,iI,iI],λ _=>True,λ x=>[.bool (plcB x.2.1 x.2.2.1 x.1)],λ _=>[]⟩
theorem q4x (x:Sec) (e n:Int) (R:List Item->PS->Prop):sA D1 Tryz.f101 (QC ctPlc (x,e,n,())) R [.code (qae Tryz.f101)] (entry [seS,iI,iI] (x,e,n,())):=by
 rw[q68];obtain ⟨nm,f,t,c⟩:=x;simp only[qi6,cond_true,cond_false,decide_eq_true_eq,decide_eq_false_iff_not]
 cases c <;>
 repeat' first
  | exact trivial
  | exact rfl
  | decide
  | (refine And.intro ?_ ?_)
  | (intro _)
  | (refine QC.flat (qmk ?_) rfl rfl;simp[plcB];omega)
  | (exfalso;simp at *;done)
theorem qzg:Held Tryz.prog G0 101 ctPlc:=Held.run dx1 (fn:=Tryz.f101) rfl rfl ⟨by decide,by decide⟩ λ x _=>q4x x.1 x.2.1 x.2.2.1 _
def hasN (l:List Sec) (s:List UInt8):Bool:=l.any λ x=>decide (x.1=s)
def qzf (n:Nat):Prop:=n<2 ^ 62
def ctHas:Ctr:=⟨[.sl seS,.str],λ x=>qzf (List.length x.1),λ x=>[.bool (hasN x.1 x.2.1)],λ _=>[]⟩
theorem q0j {l:List Sec} {s:List UInt8} (hp:l.length<2 ^ 62):∀ (k i:Nat),l.length-i<=k->i<=l.length ->
  GD 100 Tryz.f100 (λ rs _=>rs=[.bool (hasN (l.drop i) s)]) (hd Tryz.f100 0) ⟨[(1,.str s),(7,.sl seS l),(8,.i l.length),(9,.i (i:Nat))],[]⟩:=by
 intro k
 induction k with
 | zero=>
  intro i h1 h2;refine qat dx1 (qul l s i _ _) ?_;rw[decide_eq_false (by omega),bc_f,List.drop_eq_nil_of_le (by omega)];rfl
 | succ k ih=>
  intro i h1 h2;by_cases hi:i<l.length
  ·refine qat dx1 (qul l s i _ _) ?_;have e1:gt seS l (i:Int).toNat=l[i]:=gtE hi;rw[decide_eq_true (show (i:Int)<(l.length:Int) by omega),bc_t,e1,IntWalk.i64_in ((i:Int)+1) (by omega),qlo hi];have k2:=ih (i+1) (by omega) (by omega);have hh:hasN (l[i]::l.drop (i+1)) s=(decide (l[i].1=s) || hasN (l.drop (i+1)) s):=rfl;rw[hh];refine ⟨by omega,by omega,qag (λ ha=>?_) (λ ha=>?_)⟩
   ·have ha:decide (l[i].1=s)=true:=ha;rw[ha];rfl
   ·have ha:decide (l[i].1=s)=false:=ha;rw[ha,Bool.false_or];exact k2
  ·exact ih i (by omega) h2
theorem q5x (l:List Sec) (s:List UInt8) (hp:qzf l.length):sA D1 Tryz.f100 (QC ctHas (l,s,())) (Px.Good Tryz.prog tt G0 100 Tryz.f100.ntmps Tryz.f100.results.toList (QC ctHas (l,s,()))) [.code (qae Tryz.f100)] (entry [.sl seS,.str] (l,s,())):=by
 rw[q7n];exact ((q0j hp _ 0 (Nat.le_refl _) (Nat.zero_le _)).post λ rs blk hq=>QC.flat (by rw[hq];rfl) rfl (by rw[hq];rfl)).only ⟨rfl,rfl,rfl,rfl,trivial⟩ trivial
theorem q0k:Held Tryz.prog G0 100 ctHas:=Held.run dx1 (fn:=Tryz.f100) rfl rfl ⟨by decide,by decide⟩ λ x hp=>q5x x.1 x.2.1 hp
abbrev D2:CV:=(100,.inl ctHas)::(101,.inl ctPlc)::(126,.inl ctLet)::(127,.inl ctDig)::D1
theorem dx2:CxOK Tryz.prog tt G0 D2:=((((dx1).k q0s (fn:=Tryz.f127)).k qz4 (fn:=Tryz.f126)).k qzg (fn:=Tryz.f101)).k q0k (fn:=Tryz.f100)
theorem q7g (s:List UInt8) (Q:QT) (R:RT):sA D2 Tryz.f99 Q R [.code (qae Tryz.f99)] (entry [.str] (s,())) =
  (bc (decide ((s.length:Int)<1)) (true=true/\Q [.bool false] []) (bc (bif false then true else decide ((12:Int)<(s.length:Int))) (Q [.bool false] []) (R (hd Tryz.f99 0) { env:=[(0,.str s),(2,.bool false),(5,.str s),(6,.i (s.length:Int)),(7,.bool (decide ((s.length:Int)<1))),(8,.bool false),(9,.str s),(10,.i (s.length:Int)),(11,.bool (decide ((12:Int)<(s.length:Int)))),(12,.bool (bif false then true else decide ((12:Int)<(s.length:Int)))),(13,.str s),(14,.ptr 14 0)],blk:=[(14,LB.iter s (0:Nat))] }))):=by kernel_rfl
theorem quf (s:List UInt8) (p:Nat) (Q:QT) (R:RT):sA D2 Tryz.f99 Q (λ it S=>R it (qbt [14] [14] S)) (hd Tryz.f99 0) ⟨[(14,.ptr 14 0)],[(14,.iter s p)]⟩ =
  (bc (decide (p<s.length)) (ctLet.pre ((↑(qc2 s p).1:Int),())/\bc (!letB (↑(qc2 s p).1:Int)) (ctDig.pre ((↑(qc2 s p).1:Int),())/\bc (bif true then !digB (↑(qc2 s p).1:Int) else false) (Q [.bool false] [(14,LB.iter s (qki s p true))]) (R (hd Tryz.f99 0) { env:=[(14,.ptr 14 0)],blk:=[(14,LB.iter s (qki s p true))] })) (false=false/\R (hd Tryz.f99 0) { env:=[(14,.ptr 14 0)],blk:=[(14,LB.iter s (qki s p true))] })) (Q [.bool true] [(14,LB.iter s (qki s p false))])):=by kernel_rfl
def allS (s:List UInt8):Bool:=s.all λ c=>sgnB (c.toNat:Int)
def qok (s:List UInt8):Bool:=decide (1<=s.length)&&decide (s.length<=12)&&allS s
theorem qx1 {s:List UInt8} {i:Nat} (h:i<s.length):allS (s.drop i)=(sgnB (s[i].toNat:Int)&&allS (s.drop (i+1))):=by
 rw[qlo h];rfl
theorem q2d {c:Int} (h:128<=c):letB c=false/\digB c=false:=by
 constructor
 ·exact decide_eq_false (by omega)
 ·exact decide_eq_false (by omega)
theorem qzz (s:List UInt8):∀ (k i:Nat),s.length-i<=k ->
  GD 99 Tryz.f99 (λ rs _=>rs=[.bool (allS (s.drop i))]) (hd Tryz.f99 0) ⟨[(14,.ptr 14 0)],[(14,.iter s i)]⟩:=by
 have hend:∀ i:Nat,¬ i<s.length->GD 99 Tryz.f99 (λ rs _=>rs=[.bool (allS (s.drop i))]) (hd Tryz.f99 0) ⟨[(14,.ptr 14 0)],[(14,.iter s i)]⟩:=by
  intro i hi;refine qat dx2 (quf s i _ _) ?_;rw[decide_eq_false hi,bc_f,List.drop_eq_nil_of_le (by omega)];rfl
 intro k
 induction k with
 | zero=>intro i h1;exact hend i (by omega)
 | succ k ih=>
  intro i h1;by_cases hi:i<s.length
  ·refine qat dx2 (quf s i _ _) ?_;rw[decide_eq_true hi,bc_t,qx1 hi,cond_true];by_cases hb:s[i].toNat<128
   ·have k2:=ih (i+1) (by omega);rw[qki,qvd hi hb,sgnB];refine ⟨trivial,qag (λ h=>⟨trivial,qag (λ h2=>?_) (λ h2=>?_)⟩) (λ h=>⟨rfl,?_⟩)⟩
    ·simp only[Bool.not_eq_true'] at h h2;simp only[h,h2,Bool.or_self,Bool.false_and]
    ·simp only[Bool.not_eq_false'] at h2;rw[h2,Bool.or_true,Bool.true_and];exact k2
    ·simp only[Bool.not_eq_false'] at h;rw[h,Bool.true_or,Bool.true_and];exact k2
   ·obtain ⟨r1,r2,_⟩:=qve hi (by omega);obtain ⟨s1,s2⟩:=q2d (c:=((qc2 s i).1:Int)) (by omega);obtain ⟨s3,s4⟩:=q2d (c:=(s[i].toNat:Int)) (by omega);rw[s1,s2,sgnB,s3,s4];exact ⟨trivial,trivial,rfl⟩
  ·exact hend i hi
def ctNam:Ctr:=⟨[.str],λ _=>True,λ x=>[.bool (qok x.1)],λ _=>[]⟩
theorem q5i (s:List UInt8):sA D2 Tryz.f99 (QC ctNam (s,())) (Px.Good Tryz.prog tt G0 99 Tryz.f99.ntmps Tryz.f99.results.toList (QC ctNam (s,()))) [.code (qae Tryz.f99)] (entry [.str] (s,())):=by
 rw[q7g];refine qag (λ h=>⟨rfl,?_⟩) (λ h=>?_)
 ·have h:=of_decide_eq_true h;refine QC.flat (qmk ?_) rfl rfl;simp[qok];omega
 ·have h:=of_decide_eq_false h;rw[cond_false];refine qag (λ h2=>?_) (λ h2=>?_)
  ·have h2:=of_decide_eq_true h2;refine QC.flat (qmk ?_) rfl rfl;simp[qok];omega
  ·have h2:=of_decide_eq_false h2;have e:qok s=allS (s.drop 0):=by
    unfold qok;rw[decide_eq_true (by omega),decide_eq_true (by omega)];rfl
   refine ((qzz s _ 0 (Nat.le_refl _)).post λ rs blk hq=>QC.flat (by rw[hq,<- e];rfl) rfl (by rw[hq];rfl)).only ⟨rfl,trivial⟩ ⟨rfl,trivial⟩
theorem qz0:Held Tryz.prog G0 99 ctNam:=Held.run dx2 (fn:=Tryz.f99) rfl rfl ⟨by decide,by decide⟩ λ x _=>q5i x.1
abbrev D3:CV:=(99,.inl ctNam)::D2
theorem dx3:CxOK Tryz.prog tt G0 D3:=(dx2).k qz0 (fn:=Tryz.f99)
theorem q6x (l:List Sec) (n:Int) (Q:QT) (R:RT):sA D3 Tryz.f67 Q R [.code (qae Tryz.f67)] (entry [.sl seS,iI] (l,n,())) =
  (bc (decide ((8:Int)<(l.length:Int))) (Q [.bool false] []) (R (hd Tryz.f67 0) { env:=[(0,.sl (Sh.str.pair ((Sh.int i64).pair ((Sh.int i64).pair Sh.bool))) l),(1,.i n),(4,.bool false),(5,.i 0),(8,.sl (Sh.str.pair ((Sh.int i64).pair ((Sh.int i64).pair Sh.bool))) l),(9,.i (l.length:Int)),(10,.bool (decide ((8:Int)<(l.length:Int)))),(11,.sl (Sh.str.pair ((Sh.int i64).pair ((Sh.int i64).pair Sh.bool))) l),(12,.i (l.length:Int)),(13,.i 0)],blk:=[] })):=by kernel_rfl
def qgs (l:List Sec) (i:Int):List (Nat × LB):=[(7,.var [.str (gt (Sh.str.pair ((Sh.int i64).pair ((Sh.int i64).pair Sh.bool))) l i.toNat).1,.i (gt (Sh.str.pair ((Sh.int i64).pair ((Sh.int i64).pair Sh.bool))) l i.toNat).2.1,.i (gt (Sh.str.pair ((Sh.int i64).pair ((Sh.int i64).pair Sh.bool))) l i.toNat).2.2.1,.bool (gt (Sh.str.pair ((Sh.int i64).pair ((Sh.int i64).pair Sh.bool))) l i.toNat).2.2.2])]
theorem qt7 (l:List Sec) (n e i:Int) (Q:QT) (R:RT):sA D3 Tryz.f67 Q (λ it S=>R it (qbt [0,1,5,11,12,13] [] S)) (hd Tryz.f67 0) ⟨[(0,.sl seS l),(1,.i n),(5,.i e),(11,.sl seS l),(12,.i l.length),(13,.i i)],[]⟩ =
  (bc (decide (i<(l.length:Int))) ((0:Int)<=i/\i<(l.length:Int)/\ctNam.pre ((gt (Sh.str.pair ((Sh.int i64).pair ((Sh.int i64).pair Sh.bool))) l i.toNat).1,())/\bc (!qok (gt (Sh.str.pair ((Sh.int i64).pair ((Sh.int i64).pair Sh.bool))) l i.toNat).1) (true=true/\true=true/\Q [.bool false] (qgs l i)) ((0:Int)<=i/\i<=(l.length:Int)/\ctHas.pre (List.take i.toNat l,(gt (Sh.str.pair ((Sh.int i64).pair ((Sh.int i64).pair Sh.bool))) l i.toNat).1,())/\bc (bif false then true else hasN (List.take i.toNat l) (gt (Sh.str.pair ((Sh.int i64).pair ((Sh.int i64).pair Sh.bool))) l i.toNat).1) (true=true/\Q [.bool false] (qgs l i)) (ctPlc.pre (((gt (Sh.str.pair ((Sh.int i64).pair ((Sh.int i64).pair Sh.bool))) l i.toNat).1,(gt (Sh.str.pair ((Sh.int i64).pair ((Sh.int i64).pair Sh.bool))) l i.toNat).2.1,(gt (Sh.str.pair ((Sh.int i64).pair ((Sh.int i64).pair Sh.bool))) l i.toNat).2.2.1,(gt (Sh.str.pair ((Sh.int i64).pair ((Sh.int i64).pair Sh.bool))) l i.toNat).2.2.2),e,n,())/\bc (bif false then true else !plcB e n ((gt (Sh.str.pair ((Sh.int i64).pair ((Sh.int i64).pair Sh.bool))) l i.toNat).1,(gt (Sh.str.pair ((Sh.int i64).pair ((Sh.int i64).pair Sh.bool))) l i.toNat).2.1,(gt (Sh.str.pair ((Sh.int i64).pair ((Sh.int i64).pair Sh.bool))) l i.toNat).2.2.1,(gt (Sh.str.pair ((Sh.int i64).pair ((Sh.int i64).pair Sh.bool))) l i.toNat).2.2.2)) (Q [.bool false] (qgs l i)) (R (hd Tryz.f67 0) { env:=[(0,.sl (Sh.str.pair ((Sh.int i64).pair ((Sh.int i64).pair Sh.bool))) l),(1,.i n),(5,.i (gt (Sh.str.pair ((Sh.int i64).pair ((Sh.int i64).pair Sh.bool))) l i.toNat).2.2.1),(11,.sl (Sh.str.pair ((Sh.int i64).pair ((Sh.int i64).pair Sh.bool))) l),(12,.i (l.length:Int)),(13,.i (i64.wrap (i+1)))],blk:=[] })))) (Q [.bool true] [])):=by kernel_rfl
def valF (n:Int):List Sec->Int->List Sec->Bool
 | _,_,[]=>true
 | d,e,s::r=>qok s.1 && !hasN d s.1&&plcB e n s&&valF n (d++[s]) s.2.2.1 r
def validB (l:List Sec) (n:Int):Bool:=decide (l.length<=8)&&valF n [] 0 l
theorem qur {n e:Int} {l:List Sec} {i:Nat} (h:i<l.length):valF n (l.take i) e (l.drop i)=(qok l[i].1 && !hasN (l.take i) l[i].1&&plcB e n l[i]&&valF n (l.take (i+1)) l[i].2.2.1 (l.drop (i+1))):=by
 rw[qlo h,valF,List.take_succ_eq_append_getElem h]
def ctVal (p:Prop):Ctr:=⟨[.sl seS,iI],λ x=>p/\∀ s∈(x.1:List Sec),s.1.length<2 ^ 62,λ x=>[.bool (validB x.1 x.2.1)],λ _=>[]⟩
theorem qyr {l:List Sec} {n:Int} (h8:l.length<=8):∀ (k i:Nat) (e:Int),l.length-i<=k->i<=l.length ->
  GD 67 Tryz.f67 (λ rs _=>rs=[.bool (valF n (l.take i) e (l.drop i))]) (hd Tryz.f67 0) ⟨[(0,.sl seS l),(1,.i n),(5,.i e),(11,.sl seS l),(12,.i l.length),(13,.i (i:Nat))],[]⟩:=by
 have hend:∀ (i:Nat) (e:Int),¬ i<l.length->GD 67 Tryz.f67 (λ rs _=>rs=[.bool (valF n (l.take i) e (l.drop i))]) (hd Tryz.f67 0) ⟨[(0,.sl seS l),(1,.i n),(5,.i e),(11,.sl seS l),(12,.i l.length),(13,.i (i:Nat))],[]⟩:=by
  intro i e hi;refine qat dx3 (qt7 l n e i _ _) ?_;rw[decide_eq_false (by omega),bc_f,List.drop_eq_nil_of_le (by omega)];rfl
 intro k
 induction k with
 | zero=>intro i e h1 _;exact hend i e (by omega)
 | succ k ih=>
  intro i e h1 h2;by_cases hi:i<l.length
  ·refine qat dx3 (qt7 l n e i _ _) ?_;have e1:gt seS l (i:Int).toNat=l[i]:=gtE hi;have k2:=ih (i+1) l[i].2.2.1 (by omega) (by omega);rw[decide_eq_true (show (i:Int)<(l.length:Int) by omega),bc_t,e1,qur hi,IntWalk.i64_in ((i:Int)+1) (by omega),Int.toNat_natCast];have hps:qzf (l.take i).length:=by unfold qzf;rw[List.length_take];omega
   generalize l[i]=x at *;have ex:(x.1,x.2.1,x.2.2.1,x.2.2.2)=x:=rfl;rw[ex];refine ⟨by omega,by omega,trivial,qag (λ h=>⟨rfl,rfl,?_⟩) (λ h=>⟨by omega,by omega,hps,?_⟩)⟩
   ·simp only[Bool.not_eq_true'] at h;rw[h];rfl
   ·simp only[Bool.not_eq_false'] at h;rw[h,cond_false];refine qag (λ h3=>⟨rfl,?_⟩) (λ h3=>⟨trivial,?_⟩)
    ·rw[h3];rfl
    ·rw[h3,cond_false];refine qag (λ h4=>?_) (λ h4=>?_)
     ·simp only[Bool.not_eq_true'] at h4;rw[h4];rfl
     ·simp only[Bool.not_eq_false'] at h4;rw[h4];exact k2
  ·exact hend i e hi
theorem q31 (l:List Sec) (n:Int):sA D3 Tryz.f67 (QC (ctVal True) (l,n,())) (Px.Good Tryz.prog tt G0 67 Tryz.f67.ntmps Tryz.f67.results.toList (QC (ctVal True) (l,n,()))) [.code (qae Tryz.f67)] (entry [.sl seS,iI] (l,n,())):=by
 rw[q6x];refine qag (λ h=>?_) (λ h=>?_)
 ·have h:=of_decide_eq_true h;exact QC.flat (qmk (by simp[validB];omega)) rfl rfl
 ·have h:=of_decide_eq_false h;have e:validB l n=valF n (l.take 0) 0 (l.drop 0):=by
   unfold validB;rw[decide_eq_true (by omega)];rfl
  exact ((qyr (by omega) _ 0 0 (Nat.le_refl _) (Nat.zero_le _)).post λ rs blk hq=>QC.flat (by rw[hq,<- e];rfl) rfl (by rw[hq];rfl)).only ⟨rfl,rfl,rfl,rfl,rfl,rfl,trivial⟩ trivial
theorem val_held:Held Tryz.prog G0 67 (ctVal True):=Held.run dx3 (fn:=Tryz.f67) rfl rfl ⟨by decide,by decide⟩ λ x _=>q31 x.1 x.2.1
end Go.Proofs.YtdeacfammdjajaaGreatDoor.Im
namespace Go.Proofs.YtdeacfammdjajaaGreatDoor
open Go.Px Go.Ax
open Go.IntKind(i64 u32 u8)
set_option maxRecDepth 100000
abbrev seS:Sh:=.pair .str (.pair (.int .i64) (.pair (.int .i64) .bool))
abbrev SecT:Type:=List UInt8 × Int × Int × Bool
abbrev slS:Sh:=.sl syS
def psV (p:PaT):List SyT × Int:=match decide ((symV p).2≠0) with
 | true=>([],(symV p).2)
 | false=>match p.1 with
  | true=>([],62)
  | false=>((symV p).1,0)
def ctPs:Ctr:=⟨[paS],λ _=>True,λ x=>[.win true syS 0 0 (psV x.1).1.length,.i (psV x.1).2],λ x=>[.row 83 syS (psV x.1).1]⟩
abbrev capS:List AK:=[.ptr [.dat (.sl seS)],.ptr [.dat slS]]
abbrev capC:List AK:=[.ptr [.dat slS],.ptr [.dat iI]]
abbrev iS:AK:=.fn 103 [] capS
abbrev iK:AK:=.fn 105 [] capC
abbrev q6o:List AK:=[.ptr [iS],.ptr [.dat iI]]
abbrev q6p:List AK:=[.ptr [iK],.ptr [.dat iI]]
abbrev pS:AK:=.fn 102 [] q6o
abbrev pK:AK:=.fn 102 [] q6p
abbrev yS1:List Sh:=[slS]
abbrev yP:List Sh:=[paS,iI]
set_option maxRecDepth 100000
theorem vc_ps (li:Bool) (m o:Int) (l:List OpT) (Q:QT) (R:RT):sA [(63,.inl ctSym)] Tryz.f66 Q R [.code (qae Tryz.f66)] (entry [paS] ((li,m,o,l),())) =
  (ctSym.pre ((li,m,o,l),())/\bc (decide ((symV (li,m,o,l)).2≠0)) (Q [.nils,.i (symV (li,m,o,l)).2] [(1,.var [.bool li,.i m,.i o,.sl opS l]),(1032768,.row 83 syS (symV (li,m,o,l)).1)]) (bc li (Q [.nils,.i 62] [(1,.var [.bool li,.i m,.i o,.sl opS l]),(1032768,.row 83 syS (symV (li,m,o,l)).1)]) (Q [.win true syS 1032768 0 (symV (li,m,o,l)).1.length,.i 0] [(1,.var [.bool li,.i m,.i o,.sl opS l]),(1032768,.row 83 syS (symV (li,m,o,l)).1)]))):=by kernel_rfl
theorem q7l (s:List SyT) (l:List SecT) (Q:QT) (R:RT):sA [] Tryz.f70 Q R [.code (qae Tryz.f70)] (qbf [.dat slS,.dat (.sl seS)] (s,l,())) =
  (Q [.fn (103:Nat) [] [.ptr (3:Nat) 0,.ptr 2 0]] [(2,.var [.sl syS s]),(3,.var [.sl seS l])]):=by kernel_rfl
theorem q7v (s:List SyT) (n:Int) (Q:QT) (R:RT):sA [] Tryz.f73 Q R [.code (qae Tryz.f73)] (qbf [.dat slS,.dat iI] (s,n,())) =
  (bc (decide (n<1)) False (Q [.fn (105:Nat) [] [.ptr (2:Nat) 0,.ptr 3 0]] [(2,.var [.sl syS s]),(3,.var [.i n])])):=by kernel_rfl
theorem q3h (s:List SyT) (l:List SecT) (m:Int) (Q:QT) (R:RT):sA [] Tryz.f69 Q R [.code (qae Tryz.f69)] (qbf [iS,.dat iI] (((),(l,()),(s,()),()),m,())) =
  (Q [.fn (102:Nat) [] [.ptr (2:Nat) 0,.ptr 3 0]] [(2,.var [.fn (103:Nat) [] [.ptr (1099511627776:Nat) 0,.ptr 1099511627777 0]]),(3,.var [.i m]),(1099511627776,.var [.sl seS l]),(1099511627777,.var [.sl syS s])]):=by kernel_rfl
theorem q3i (s:List SyT) (n:Int) (m:Int) (Q:QT) (R:RT):sA [] Tryz.f69 Q R [.code (qae Tryz.f69)] (qbf [iK,.dat iI] (((),(s,()),(n,()),()),m,())) =
  (Q [.fn (102:Nat) [] [.ptr (2:Nat) 0,.ptr 3 0]] [(2,.var [.fn (105:Nat) [] [.ptr (1099511627776:Nat) 0,.ptr 1099511627777 0]]),(3,.var [.i m]),(1099511627776,.var [.sl syS s]),(1099511627777,.var [.i n])]):=by kernel_rfl
theorem q7j (s:List SyT) (l:List SecT) (lp:Nat) (ys:List (DL yS1)) (Q:AExit->Nat × Bool->PS->Prop) (R:List Item->Nat × Bool->PS->Prop):syE tt G0 [] Tryz.f103.ntmps ⟨lp,yS1,ys⟩ Q R .fn 1000 [.code (qae Tryz.f103)] (0,false) (qk5 lp capS ((l,()),(s,()),())) =
  (R (hd Tryz.f103 0) ((0:Nat),false) { env:=[(0,.yl lp),(1,.ptr 1099511627776 0),(2,.ptr 1099511627777 0),(6,.sl seS l),(7,.i (l.length:Int)),(8,.i 0)],blk:=[(1099511627776,.var [.sl seS l]),(1099511627777,.var [.sl syS s])] }):=by kernel_rfl
theorem quh (s:List SyT) (l:List SecT) (i:Int) (j:Nat) (q:Bool) (lp:Nat) (ys:List (DL yS1)) (Q:AExit->Nat × Bool->PS->Prop) (R:List Item->Nat × Bool->PS->Prop):syE tt G0 [] Tryz.f103.ntmps ⟨lp,yS1,ys⟩ Q (λ it g S=>R it g (qbt [0,1,2,6,7,8] [BIG,BIG+1] S)) .fn 1000 (hd Tryz.f103 0) (j,q) (⟨[(0,.yl lp),(1,.ptr BIG 0),(2,.ptr (BIG+1) 0),(6,.sl seS l),(7,.i (l.length:Nat)),(8,.i i)],[(BIG,.var [.sl seS l]),(BIG+1,.var [.sl syS s])]⟩) =
  (bc (decide (i<(l.length:Int))) ((0:Int)<=i/\i<(l.length:Int)/\(0:Int)<=(gt seS l i.toNat).2.1/\(gt seS l i.toNat).2.1<(gt seS l i.toNat).2.2.1/\(gt seS l i.toNat).2.2.1<=(gt seS l i.toNat).2.2.1/\(gt seS l i.toNat).2.2.1<=(s.length:Int)/\(gt seS l i.toNat).2.2.1<1099511627776/\lp=(Yp.mk lp yS1 ys).l/\q=false/\(Yp.mk lp yS1 ys).ys[j]?=some (Px.part s (some (gt seS l i.toNat).2.1) (some (gt seS l i.toNat).2.2.1),())/\∀ (r:Bool),bc (!r) (Q AExit.ret (j+1,!r) { env:=[(0,.yl lp),(1,.ptr 1099511627776 0),(2,.ptr 1099511627777 0),(5,.ptr 5 0),(6,.sl seS l),(7,.i (l.length:Int)),(8,.i i),(9,.bool (decide (i<(l.length:Int)))),(10,.elv seS (gt seS l i.toNat)),(11,.agg [.str (gt seS l i.toNat).1,.i (gt seS l i.toNat).2.1,.i (gt seS l i.toNat).2.2.1,.bool (gt seS l i.toNat).2.2.2]),(12,.yl lp),(13,.sl syS s),(14,.ptr 5 1),(15,.i (gt seS l i.toNat).2.1),(16,.ptr 5 2),(17,.i (gt seS l i.toNat).2.2.1),(18,.ptr 5 2),(19,.i (gt seS l i.toNat).2.2.1),(20,.sl syS (Px.part s (some (gt seS l i.toNat).2.1) (some (gt seS l i.toNat).2.2.1))),(21,.bool r),(22,.bool !r)],blk:=[(5,.var [.str (gt seS l i.toNat).1,.i (gt seS l i.toNat).2.1,.i (gt seS l i.toNat).2.2.1,.bool (gt seS l i.toNat).2.2.2]),(1099511627776,.var [.sl seS l]),(1099511627777,.var [.sl syS s])] }) (R (hd Tryz.f103 0) (j+1,!r) { env:=[(0,.yl lp),(1,.ptr 1099511627776 0),(2,.ptr 1099511627777 0),(6,.sl seS l),(7,.i (l.length:Int)),(8,.i (i64.wrap (i+1)))],blk:=[(1099511627776,.var [.sl seS l]),(1099511627777,.var [.sl syS s])] })) (Q AExit.normal (j,q) { env:=[(0,.yl lp),(1,.ptr 1099511627776 0),(2,.ptr 1099511627777 0),(6,.sl seS l),(7,.i (l.length:Int)),(8,.i i),(9,.bool (decide (i<(l.length:Int))))],blk:=[(1099511627776,.var [.sl seS l]),(1099511627777,.var [.sl syS s])] })):=by kernel_rfl
theorem q7u (s:List SyT) (n:Int) (lp:Nat) (ys:List (DL yS1)) (Q:AExit->Nat × Bool->PS->Prop) (R:List Item->Nat × Bool->PS->Prop):syE tt G0 [] Tryz.f105.ntmps ⟨lp,yS1,ys⟩ Q R .fn 1000 [.code (qae Tryz.f105)] (0,false) (qk5 lp capC ((s,()),(n,()),())) =
  (R (hd Tryz.f105 0) ((0:Nat),false) { env:=[(0,.yl lp),(1,.ptr 1099511627776 0),(2,.ptr 1099511627777 0),(4,.i 0)],blk:=[(1099511627776,.var [.sl syS s]),(1099511627777,.var [.i n])] }):=by kernel_rfl
theorem qup (s:List SyT) (n i:Int) (j:Nat) (q:Bool) (lp:Nat) (ys:List (DL yS1)) (Q:AExit->Nat × Bool->PS->Prop) (R:List Item->Nat × Bool->PS->Prop):syE tt G0 [] Tryz.f105.ntmps ⟨lp,yS1,ys⟩ Q (λ it g S=>R it g (qbt [0,1,2,4] [BIG,BIG+1] S)) .fn 1000 (hd Tryz.f105 0) (j,q) (⟨[(0,.yl lp),(1,.ptr BIG 0),(2,.ptr (BIG+1) 0),(4,.i i)],[(BIG,.var [.sl syS s]),(BIG+1,.var [.i n])]⟩) =
  (bc (decide (i<(s.length:Int))) ((0:Int)<=i/\i<=(s.length:Int)/\(0:Int)<=i/\i<i64.wrap (i+min n (↑(List.drop i.toNat s).length:Int))/\i64.wrap (i+min n (↑(List.drop i.toNat s).length:Int))<=i64.wrap (i+min n (↑(List.drop i.toNat s).length:Int))/\i64.wrap (i+min n (↑(List.drop i.toNat s).length:Int))<=(s.length:Int)/\i64.wrap (i+min n (↑(List.drop i.toNat s).length:Int))<1099511627776/\lp=(Yp.mk lp yS1 ys).l/\q=false/\(Yp.mk lp yS1 ys).ys[j]?=some (Px.part s (some i) (some (i64.wrap (i+min n (↑(List.drop i.toNat s).length:Int)))),())/\∀ (r:Bool),bc (!r) (Q AExit.ret (j+1,!r) { env:=[(0,.yl lp),(1,.ptr 1099511627776 0),(2,.ptr 1099511627777 0),(4,.i i),(5,.i (min n (↑(List.drop i.toNat s).length:Int))),(6,.i i),(7,.sl syS s),(8,.i (s.length:Int)),(9,.bool (decide (i<(s.length:Int)))),(13,.i n),(14,.sl syS s),(15,.i i),(16,.sl syS (List.drop i.toNat s)),(17,.i (↑(List.drop i.toNat s).length:Int)),(18,.i (min n (↑(List.drop i.toNat s).length:Int))),(19,.yl lp),(20,.sl syS s),(21,.i i),(22,.i i),(23,.i (min n (↑(List.drop i.toNat s).length:Int))),(24,.i (i64.wrap (i+min n (↑(List.drop i.toNat s).length:Int)))),(25,.i i),(26,.i (min n (↑(List.drop i.toNat s).length:Int))),(27,.i (i64.wrap (i+min n (↑(List.drop i.toNat s).length:Int)))),(28,.sl syS (Px.part s (some i) (some (i64.wrap (i+min n (↑(List.drop i.toNat s).length:Int)))))),(29,.bool r),(30,.bool !r)],blk:=[(1099511627776,.var [.sl syS s]),(1099511627777,.var [.i n])] }) (R (hd Tryz.f105 0) (j+1,!r) { env:=[(0,.yl lp),(1,.ptr 1099511627776 0),(2,.ptr 1099511627777 0),(4,.i (i64.wrap (i+n)))],blk:=[(1099511627776,.var [.sl syS s]),(1099511627777,.var [.i n])] })) (Q AExit.normal (j,q) { env:=[(0,.yl lp),(1,.ptr 1099511627776 0),(2,.ptr 1099511627777 0),(4,.i i),(6,.i i),(7,.sl syS s),(8,.i (s.length:Int)),(9,.bool (decide (i<(s.length:Int))))],blk:=[(1099511627776,.var [.sl syS s]),(1099511627777,.var [.i n])] })):=by kernel_rfl
theorem q65 (s:List SyT) (l:List SecT) (m:Int) (lp:Nat) (ys:List (DL yP)) (Q:AExit->Nat × Bool->PS->Prop) (R:List Item->Nat × Bool->PS->Prop):syE tt G0 [(55,.inl ctCp)] Tryz.f102.ntmps ⟨lp,yP,ys⟩ Q R .fn 1000 [.code (qae Tryz.f102)] (0,false) (qk5 lp q6o (((((),(l,()),(s,()),()),()),(m,()),()))) =
  (R (hd Tryz.f102 0) ((0:Nat),false) { env:=[(0,.yl lp),(1,.ptr 1099511627776 0),(2,.ptr 1099511627779 0),(3,.ptr 3 0),(5,.fn (103:Nat) [] [.ptr (1099511627777:Nat) 0,.ptr 1099511627778 0])],blk:=[(3,.var [.yl lp]),(1099511627776,.var [.fn (103:Nat) [] [.ptr (1099511627777:Nat) 0,.ptr 1099511627778 0]]),(1099511627777,.var [.sl seS l]),(1099511627778,.var [.sl syS s]),(1099511627779,.var [.i m])] }):=by kernel_rfl
theorem q67 (s:List SyT) (n:Int) (m:Int) (lp:Nat) (ys:List (DL yP)) (Q:AExit->Nat × Bool->PS->Prop) (R:List Item->Nat × Bool->PS->Prop):syE tt G0 [(55,.inl ctCp)] Tryz.f102.ntmps ⟨lp,yP,ys⟩ Q R .fn 1000 [.code (qae Tryz.f102)] (0,false) (qk5 lp q6p (((((),(s,()),(n,()),()),()),(m,()),()))) =
  (R (hd Tryz.f102 0) ((0:Nat),false) { env:=[(0,.yl lp),(1,.ptr 1099511627776 0),(2,.ptr 1099511627779 0),(3,.ptr 3 0),(5,.fn (105:Nat) [] [.ptr (1099511627777:Nat) 0,.ptr 1099511627778 0])],blk:=[(3,.var [.yl lp]),(1099511627776,.var [.fn (105:Nat) [] [.ptr (1099511627777:Nat) 0,.ptr 1099511627778 0]]),(1099511627777,.var [.sl syS s]),(1099511627778,.var [.i n]),(1099511627779,.var [.i m])] }):=by kernel_rfl
theorem q66 (m:Int) (l:List SyT) (j:Nat) (q:Bool) (lp:Nat) (ys:List (DL yP)) (Q:AExit->Nat × Bool->PS->Prop) (R:List Item->Nat × Bool->PS->Prop):syE tt G0 [(55,.inl ctCp)] Tryz.f102.ntmps ⟨lp,yP,ys⟩ Q R .ready 1000 (rnd Tryz.f102 0) (j,q) (qk6 [2,3] [6] [.ptr [.dat iI],.ptr [.yl lp]] yS1 ((m,()),((),()),()) (l,())) =
  (ctCp.pre (l,m,())/\lp=(Yp.mk lp yP ys).l/\q=false/\(Yp.mk lp yP ys).ys[j]?=some (((cpV l m).1),(cpV l m).2,())/\∀ (r:Bool),bc (!r) (Q AExit.ret (j+1,!r) { env:=[(4,.sl syS l),(6,.sl syS l),(2,.ptr 1099511627776 0),(3,.ptr 1099511627777 0),(7,.yl lp),(8,.sl syS l),(9,.i m),(10,SV.tup [.agg [.bool (cpV l m).1.1,.i (cpV l m).1.2.1,.i (cpV l m).1.2.2.1,.sl opS (cpV l m).1.2.2.2],.i (cpV l m).2]),(11,.agg [.bool (cpV l m).1.1,.i (cpV l m).1.2.1,.i (cpV l m).1.2.2.1,.sl opS (cpV l m).1.2.2.2]),(12,.i (cpV l m).2),(13,.bool r),(14,.bool !r)],blk:=[(1099511627776,.var [.i m]),(1099511627777,.var [.yl lp])] }) (Q AExit.normal (j+1,!r) { env:=[(4,.sl syS l),(6,.sl syS l),(2,.ptr 1099511627776 0),(3,.ptr 1099511627777 0),(7,.yl lp),(8,.sl syS l),(9,.i m),(10,SV.tup [.agg [.bool (cpV l m).1.1,.i (cpV l m).1.2.1,.i (cpV l m).1.2.2.1,.sl opS (cpV l m).1.2.2.2],.i (cpV l m).2]),(11,.agg [.bool (cpV l m).1.1,.i (cpV l m).1.2.1,.i (cpV l m).1.2.2.1,.sl opS (cpV l m).1.2.2.2]),(12,.i (cpV l m).2),(13,.bool r),(14,.bool !r)],blk:=[(1099511627776,.var [.i m]),(1099511627777,.var [.yl lp])] })):=by kernel_rfl
attribute [local irreducible] Go.Px.sy Go.Px.syE
theorem q8h {p:PaT} (h:(symV p).2≠0):psV p=([],(symV p).2):=by unfold psV;rw[decide_eq_true h]
theorem q8g {p:PaT} (h:(symV p).2=0) (hl:p.1=true):psV p=([],62):=by unfold psV;rw[decide_eq_false (by simp[h]),hl]
theorem q4t {p:PaT} (h:(symV p).2=0) (hl:p.1=false):psV p=((symV p).1,0):=by unfold psV;rw[decide_eq_false (by simp[h]),hl]
theorem ps_held:Held Tryz.prog G0 66 ctPs:=Held.run (cx0.k sym_held (fn:=Tryz.f63)) (fn:=Tryz.f66) rfl rfl ⟨by decide,by decide⟩ λ ⟨⟨li,m,o,l⟩,_⟩ _=>by
 refine (vc_ps li m o l _ _).mpr ⟨trivial,qag (λ h=>?_) (λ h=>qag (λ h2=>?_) (λ h2=>?_))⟩
 ·have h:(symV (li,m,o,l)).2≠0:=of_decide_eq_true h;have e:=q8h h;refine qde (e:=syS) (et:=83) (z:=(symV (li,m,o,l)).2) ?_ ?_ rfl (by decide)
  ·show [_,_]=_;rw[e];rfl
  ·show [_]=_;rw[e]
 ·have h:(symV (li,m,o,l)).2=0:=by have:=of_decide_eq_false h;simpa using this
  have e:=q8g h h2;refine qde (e:=syS) (et:=83) (z:=62) ?_ ?_ rfl (by decide)
  ·show [_,_]=_;rw[e];rfl
  ·show [_]=_;rw[e]
 ·have h:(symV (li,m,o,l)).2=0:=by have:=of_decide_eq_false h;simpa using this
  have e:=q4t h h2;refine qgp (e:=syS) (et:=83) (a:=1032768) (z:=0) (xs:=(symV (li,m,o,l)).1) ?_ ?_ rfl rfl rfl
  ·show [_,_]=_;rw[e]
  ·show [_]=_;rw[e]
theorem qbl {π:Nat->Option Nat}:MtL π [] []:=by simp only[MtL]
theorem qax {π:Nat->Option Nat} {s t:SV} {l r:List SV} (h1:Mt π s t) (h2:MtL π l r):MtL π (s::l) (t::r):=by simp only[MtL];exact ⟨t,r,rfl,h1,h2⟩
theorem qez {π:Nat->Option Nat} {i j o:Nat} (h:π i=some j):Mt π (.ptr i o) (.ptr j o):=by simp only[Mt];exact ⟨j,rfl,h⟩
theorem qtg {π:Nat->Option Nat} {f:Nat} {a a' c c':List SV} (h1:MtL π a a') (h2:MtL π c c'):Mt π (.fn f a c) (.fn f a' c'):=by simp only[Mt];exact ⟨a',c',rfl,h1,h2⟩
def ctIns:CtrI:=⟨[.dat slS,.dat (.sl seS)],λ _=>True,λ _=>[.fn 103 [] [.ptr 0 0,.ptr 1 0]],λ x=>[(0,.var [.sl seS x.2.1]),(1,.var [.sl syS x.1])]⟩
theorem q0c:HeldI Tryz.prog G0 70 ctIns:=HeldI.run cx0 (fn:=Tryz.f70) rfl rfl ⟨by decide,by decide⟩ λ ⟨s,l,_⟩ _=>by
 refine (q7l s l _ _).mpr ⟨[(0,3),(1,2)],?_,?_,by decide,λ p hp=>?_⟩
 rotate_left 2
 ·simp only[List.mem_cons,List.not_mem_nil,or_false] at hp;rcases hp with rfl | rfl <;> decide
 all_goals
  have p0:piOf [(0,3),(1,2)] 0=some 3:=by decide
  have p1:piOf [(0,3),(1,2)] 1=some 2:=by decide
 ·exact qax (qtg qbl (qax (qez p0) (qax (qez p1) qbl))) qbl
 ·exact ⟨.inl ⟨3,_,p0,rfl,_,rfl,qaz _ _ rfl⟩,.inl ⟨2,_,p1,rfl,_,rfl,qaz _ _ rfl⟩,trivial⟩
def ctCk:CtrI:=⟨[.dat slS,.dat iI],λ x=>1<=x.2.1,λ _=>[.fn 105 [] [.ptr 0 0,.ptr 1 0]],λ x=>[(0,.var [.sl syS x.1]),(1,.var [.i x.2.1])]⟩
theorem lt1_f {n:Int} (h:1<=n):decide (n<1)=false:=decide_eq_false (by omega)
theorem q6h:HeldI Tryz.prog G0 73 ctCk:=HeldI.run cx0 (fn:=Tryz.f73) rfl rfl ⟨by decide,by decide⟩ λ ⟨s,n,_⟩ hn=>by
 refine (q7v s n _ _).mpr ?_;rw[lt1_f hn,bc_f];refine ⟨[(0,2),(1,3)],?_,?_,by decide,λ p hp=>?_⟩
 rotate_left 2
 ·simp only[List.mem_cons,List.not_mem_nil,or_false] at hp;rcases hp with rfl | rfl <;> decide
 all_goals
  have p0:piOf [(0,2),(1,3)] 0=some 2:=by decide
  have p1:piOf [(0,2),(1,3)] 1=some 3:=by decide
 ·exact qax (qtg qbl (qax (qez p0) (qax (qez p1) qbl))) qbl
 ·exact ⟨.inl ⟨2,_,p0,rfl,_,rfl,qaz _ _ rfl⟩,.inl ⟨3,_,p1,rfl,_,rfl,qaz _ _ rfl⟩,trivial⟩
def ctPaS:CtrI:=⟨[iS,.dat iI],λ _=>True,λ _=>[.fn 102 [] [.ptr 0 0,.ptr 1 0]],λ x=>[(0,.var [.fn 103 [] [.ptr BIG 0,.ptr (BIG+1) 0]]),(1,.var [.i x.2.1]),(BIG,.var [.sl seS x.1.2.1.1]),(BIG+1,.var [.sl syS x.1.2.2.1.1])]⟩
theorem qzi:HeldI Tryz.prog G0 69 ctPaS:=HeldI.run cx0 (fn:=Tryz.f69) rfl rfl ⟨by decide,by decide⟩ λ ⟨⟨⟨⟩,⟨l,⟨⟩⟩,⟨s,⟨⟩⟩,⟨⟩⟩,m,⟨⟩⟩ _=>by
 refine (q3h s l m _ _).mpr ⟨[(0,2),(1,3)],?_,?_,by decide,λ p hp=>?_⟩
 rotate_left 2
 ·simp only[List.mem_cons,List.not_mem_nil,or_false] at hp;rcases hp with rfl | rfl <;> decide
 all_goals
  have p0:piOf [(0,2),(1,3)] 0=some 2:=by decide
  have p1:piOf [(0,2),(1,3)] 1=some 3:=by decide
  have p2:piOf [(0,2),(1,3)] BIG=some BIG:=by decide
  have p3:piOf [(0,2),(1,3)] (BIG+1)=some (BIG+1):=by decide
 ·exact qax (qtg qbl (qax (qez p0) (qax (qez p1) qbl))) qbl
 ·exact ⟨.inl ⟨2,_,p0,rfl,_,rfl,qax (qtg qbl (qax (qez p2) (qax (qez p3) qbl))) qbl⟩,.inl ⟨3,_,p1,rfl,_,rfl,qaz _ _ rfl⟩,.inl ⟨BIG,_,p2,rfl,_,rfl,qaz _ _ rfl⟩,.inl ⟨BIG+1,_,p3,rfl,_,rfl,qaz _ _ rfl⟩,trivial⟩
def ctPaK:CtrI:=⟨[iK,.dat iI],λ _=>True,λ _=>[.fn 102 [] [.ptr 0 0,.ptr 1 0]],λ x=>[(0,.var [.fn 105 [] [.ptr BIG 0,.ptr (BIG+1) 0]]),(1,.var [.i x.2.1]),(BIG,.var [.sl syS x.1.2.1.1]),(BIG+1,.var [.i x.1.2.2.1.1])]⟩
theorem qzj:HeldI Tryz.prog G0 69 ctPaK:=HeldI.run cx0 (fn:=Tryz.f69) rfl rfl ⟨by decide,by decide⟩ λ ⟨⟨⟨⟩,⟨s,⟨⟩⟩,⟨n,⟨⟩⟩,⟨⟩⟩,m,⟨⟩⟩ _=>by
 refine (q3i s n m _ _).mpr ⟨[(0,2),(1,3)],?_,?_,by decide,λ p hp=>?_⟩
 rotate_left 2
 ·simp only[List.mem_cons,List.not_mem_nil,or_false] at hp;rcases hp with rfl | rfl <;> decide
 all_goals
  have p0:piOf [(0,2),(1,3)] 0=some 2:=by decide
  have p1:piOf [(0,2),(1,3)] 1=some 3:=by decide
  have p2:piOf [(0,2),(1,3)] BIG=some BIG:=by decide
  have p3:piOf [(0,2),(1,3)] (BIG+1)=some (BIG+1):=by decide
 ·exact qax (qtg qbl (qax (qez p0) (qax (qez p1) qbl))) qbl
 ·exact ⟨.inl ⟨2,_,p0,rfl,_,rfl,qax (qtg qbl (qax (qez p2) (qax (qez p3) qbl))) qbl⟩,.inl ⟨3,_,p1,rfl,_,rfl,qaz _ _ rfl⟩,.inl ⟨BIG,_,p2,rfl,_,rfl,qaz _ _ rfl⟩,.inl ⟨BIG+1,_,p3,rfl,_,rfl,qaz _ _ rfl⟩,trivial⟩
abbrev GEz (f:Nat) (fn:Func) (Y:Yp) (K:AExit->Nat × Bool->PS->Prop) (it:List Item) (g:Nat × Bool) (S:PS):Prop:=Px.GoodE Tryz.prog G0 f fn.ntmps .fn Y K it g S
abbrev yL (l:List SyT):DL yS1:=(l,())
abbrev cutS (s:List SyT) (a b:Int):List SyT:=Px.part s (some a) (some b)
def secF (s:List SyT) (l:List SecT):List (List SyT):=l.map λ x=>cutS s x.2.1 x.2.2.1
def qiu (s:List SyT) (l:List SecT):Prop:=s.length<16777216/\l.length<1000000/\∀ x∈l,0<=x.2.1/\x.2.1<x.2.2.1/\x.2.2.1<=s.length
theorem q50 {l:List SecT} {i:Nat} (h:i<l.length):gt seS l i=l[i]:=gtE (e:=seS) h
theorem qgz {α:Type} {l:List α} {i:Nat} (h:i<l.length):l.drop i=l[i]::l.drop (i+1):=List.drop_eq_getElem_cons h
theorem qt5 {α:Type} {ys:List α} {j:Nat} {y:α} {r:List α} (h:ys.drop j=y::r):j<ys.length/\ys[j]?=some y/\ys.drop (j+1)=r:=by
 have hj:j<ys.length:=by
  rcases Nat.lt_or_ge j ys.length with q | q
  ·exact q
  ·rw[List.drop_eq_nil_of_le q] at h;cases h
 rw[qgz hj] at h;exact ⟨hj,by rw[List.getElem?_eq_getElem hj];exact congrArg some (List.cons.inj h).1,(List.cons.inj h).2⟩
theorem qqw {α:Type} {ys:List α} {j:Nat} (hj:j<=ys.length) (h:ys.drop j=[]):j=ys.length:=by
 have:=congrArg List.length h;simp at this;omega
theorem q5u (s:List SyT) (l:List SecT) (hp:qiu s l) (lp:Nat) (ys:List (DL yS1)):∀ (k i j:Nat),l.length-i=k->i<=l.length->j<=ys.length->ys.drop j=(secF s (l.drop i)).map yL ->
  GEz 103 Tryz.f103 ⟨lp,yS1,ys⟩ (endY ys.length) (hd Tryz.f103 0) (j,false) ⟨[(0,.yl lp),(1,.ptr BIG 0),(2,.ptr (BIG+1) 0),(6,.sl seS l),(7,.i (l.length:Nat)),(8,.i (i:Nat))],[(BIG,.var [.sl seS l]),(BIG+1,.var [.sl syS s])]⟩:=by
 obtain ⟨hs,hl,hx⟩:=hp;intro k
 induction k with
 | zero=>
  intro i j hk hi hj hd;refine qms cx0 (quh s l (i:Nat) j false lp ys _ _) ?_;rw[decide_eq_false (show ¬ (i:Int)<(l.length:Int) by omega),bc_f];rw[show l.drop i=[] from List.drop_of_length_le (by omega)] at hd;exact .inr (qqw hj hd)
 | succ k ih=>
  intro i j hk hi hj hd;have hil:i<l.length:=by omega
  have hb:=hx _ (List.getElem_mem hil);refine qms cx0 (quh s l (i:Nat) j false lp ys _ _) ?_;rw[qgz hil] at hd;obtain ⟨h1,h2,h3⟩:=qt5 (y:=yL (cutS s l[i].2.1 l[i].2.2.1)) (r:=(secF s (l.drop (i+1))).map yL) hd;rw[decide_eq_true (show (i:Int)<(l.length:Int) by omega),bc_t,Int.toNat_natCast,q50 hil,IntWalk.i64_in ((i:Int)+1) (by omega)];refine ⟨by omega,by omega,hb.1,hb.2.1,Int.le_refl _,hb.2.2,Int.lt_of_le_of_lt hb.2.2 (by omega),rfl,rfl,h2,λ r=>?_⟩
  cases r with
  | false=>exact qag (λ _=>.inl rfl) (λ h=>by cases h)
  | true=>exact qag (λ h=>by cases h) (λ _=>ih (i+1) (j+1) (by omega) (by omega) (by omega) h3)
def q89:CtrY:=⟨capS,λ x=>qiu x.2.1.1 x.1.1,yS1,λ x=>(secF x.2.1.1 x.1.1).map yL⟩
theorem q5v:HeldY Tryz.prog G0 103 q89:=HeldY.of (fn:=Tryz.f103) rfl rfl rfl ⟨by decide,by decide⟩ λ ⟨⟨l,_⟩,⟨s,_⟩,_⟩ hp lp=>by
 have hp:qiu s l:=hp;exact qdq cx0 (q7j s l lp _ _ _) (q5u s l hp lp _ _ 0 0 rfl (Nat.zero_le _) (Nat.zero_le _) rfl)
def qa4 (s:List SyT) (n:Nat):Nat->Nat->List (List SyT)
 | 0,_=>[]
 | f+1,i=>if i<s.length then cutS s (i:Nat) ((i+min n (s.length-i):Nat):Int)::qa4 s n f (i+n) else []
def qof (s:List SyT) (n:Int):Prop:=s.length<16777216/\1<=n/\n<=4096
theorem q6g (s:List SyT) (n:Nat) (hs:s.length<16777216) (hn:1<=n) (hn2:n<=4096) (lp:Nat) (ys:List (DL yS1)):∀ (f i j:Nat),s.length<=i+f->i<=s.length+4096->j<=ys.length->ys.drop j=(qa4 s n f i).map yL ->
  GEz 105 Tryz.f105 ⟨lp,yS1,ys⟩ (endY ys.length) (hd Tryz.f105 0) (j,false) ⟨[(0,.yl lp),(1,.ptr BIG 0),(2,.ptr (BIG+1) 0),(4,.i (i:Nat))],[(BIG,.var [.sl syS s]),(BIG+1,.var [.i (n:Nat)])]⟩:=by
 intro f
 induction f with
 | zero=>
  intro i j hk hi hj hd;refine qms cx0 (qup s (n:Nat) (i:Nat) j false lp ys _ _) ?_;rw[decide_eq_false (show ¬ (i:Int)<(s.length:Int) by omega),bc_f];exact .inr (qqw hj hd)
 | succ f ih=>
  intro i j hk hi hj hd;refine qms cx0 (qup s (n:Nat) (i:Nat) j false lp ys _ _) ?_;by_cases hil:i<s.length
  ·rw[qa4,if_pos hil,List.map_cons] at hd;obtain ⟨h1,h2,h3⟩:=qt5 hd;have e:IntKind.i64.wrap ((i:Int)+min (n:Int) ((List.drop i s).length:Int))=((i+min n (s.length-i):Nat):Int):=by
    rw[List.length_drop,IntWalk.i64_in _ (by omega)];omega
   rw[decide_eq_true (show (i:Int)<(s.length:Int) by omega),bc_t,Int.toNat_natCast,e,IntWalk.i64_in ((i:Int)+n) (by omega)];refine ⟨by omega,by omega,by omega,by omega,Int.le_refl _,by omega,by omega,rfl,rfl,h2,λ r=>?_⟩
   cases r with
   | false=>exact qag (λ _=>.inl rfl) (λ h=>by cases h)
   | true=>exact qag (λ h=>by cases h) (λ _=>ih (i+n) (j+1) (by omega) (by omega) (by omega) h3)
  ·rw[qa4,if_neg hil] at hd;rw[decide_eq_false (show ¬ (i:Int)<(s.length:Int) by omega),bc_f];exact .inr (qqw hj hd)
def qa9 (s:List SyT) (n:Int):List (List SyT):=qa4 s n.toNat s.length 0
def q9b:CtrY:=⟨capC,λ x=>qof x.1.1 x.2.1.1,yS1,λ x=>(qa9 x.1.1 x.2.1.1).map yL⟩
theorem q0x:HeldY Tryz.prog G0 105 q9b:=HeldY.of (fn:=Tryz.f105) rfl rfl rfl ⟨by decide,by decide⟩ λ ⟨⟨s,_⟩,⟨n,_⟩,_⟩ hp lp=>by
 obtain ⟨h1,h2,h3⟩:qof s n:=hp;obtain ⟨k,rfl⟩:=Int.eq_ofNat_of_zero_le (Int.le_trans (by decide:(0:Int)<=1) h2);have g:=q6g s k h1 (by omega) (by omega) lp ((qa4 s k s.length 0).map yL) s.length 0 0 (by omega) (by omega) (Nat.zero_le _) rfl;exact qdq cx0 (q7u s (k:Nat) lp _ _ _) g
abbrev KP (lp:Nat):List AK:=[.ptr [.dat iI],.ptr [.yl lp]]
abbrev KL:List AK:=[.ptr [.nl],.ptr [.dat iI],.ptr [.row 31 paS]]
theorem cxPt:CxOK Tryz.prog tt G0 [(55,.inl ctCp)]:=cx0.k qxq (fn:=Tryz.f55)
set_option maxRecDepth 100000
theorem q1v (j:Nat) (q:Bool) (lp:Nat) (ys:List (DL yP)) (Q:AExit->Nat × Bool->PS->Prop) (R:List Item->Nat × Bool->PS->Prop):syE tt G0 [(55,.inl ctCp)] Tryz.f102.ntmps ⟨lp,yP,ys⟩ Q R .fn 1000 (rfK Tryz.f102 0) (j,q) (⟨[],[]⟩) =
  (Q AExit.normal (j,q) { env:=[],blk:=[] }):=by kernel_rfl
theorem q1u (j:Nat) (q:Bool) (lp:Nat) (ys:List (DL yP)) (Q:AExit->Nat × Bool->PS->Prop) (R:List Item->Nat × Bool->PS->Prop):syE tt G0 [(55,.inl ctCp)] Tryz.f102.ntmps ⟨lp,yP,ys⟩ Q R .fn 1000 (qku .ret++rfK Tryz.f102 0) (j,q) (⟨[],[]⟩) =
  (Q AExit.ret (j,q) { env:=[],blk:=[] }):=by kernel_rfl
theorem q7q (s:List SyT) (l:List SecT) (m:Int) (Q:QT) (R:RT):sA [] Tryz.f68 Q R [.code (qae Tryz.f68)] (qbf [pS] (((),((((),(l,()),(s,()),()),()),(m,()),())),())) =
  (R (hd Tryz.f68 0) { env:=[(0,.fn (102:Nat) [] [.ptr (1099511627776:Nat) 0,.ptr 1099511627779 0]),(2,.ptr 2 0),(3,.ptr 3 0),(4,.ptr 4 0),(7,.fn (102:Nat) [] [.ptr (1099511627776:Nat) 0,.ptr 1099511627779 0])],blk:=[(2,.var [.nils]),(3,.var [.i iI.dflt]),(4,.var [.nils]),(1099511627776,.var [.fn (103:Nat) [] [.ptr (1099511627777:Nat) 0,.ptr 1099511627778 0]]),(1099511627777,.var [.sl seS l]),(1099511627778,.var [.sl syS s]),(1099511627779,.var [.i m])] }):=by kernel_rfl
theorem q7s (s:List SyT) (n:Int) (m:Int) (Q:QT) (R:RT):sA [] Tryz.f68 Q R [.code (qae Tryz.f68)] (qbf [pK] (((),((((),(s,()),(n,()),()),()),(m,()),())),())) =
  (R (hd Tryz.f68 0) { env:=[(0,.fn (102:Nat) [] [.ptr (1099511627776:Nat) 0,.ptr 1099511627779 0]),(2,.ptr 2 0),(3,.ptr 3 0),(4,.ptr 4 0),(7,.fn (102:Nat) [] [.ptr (1099511627776:Nat) 0,.ptr 1099511627779 0])],blk:=[(2,.var [.nils]),(3,.var [.i iI.dflt]),(4,.var [.nils]),(1099511627776,.var [.fn (105:Nat) [] [.ptr (1099511627777:Nat) 0,.ptr 1099511627778 0]]),(1099511627777,.var [.sl syS s]),(1099511627778,.var [.i n]),(1099511627779,.var [.i m])] }):=by kernel_rfl
theorem q7r (o:List PaT) (e0:Int) (p:PaT) (e:Int) (j:Nat) (q:Bool) (Q:AExit->Nat × Bool->PS->Prop) (R:List Item->Nat × Bool->PS->Prop):syE tt G0 [] Tryz.f68.ntmps Y0 Q R .ready 1000 (rnd Tryz.f68 0) (j,q) (qk6 [2,3,4] [8,9] KL yP (((),()),((e0,()),((o,()),()))) (p,e,())) =
  (bc (decide (e≠0)) (Q AExit.ret (j,q) { env:=[(5,.ptr 5 0),(6,.i e),(8,.agg [.bool p.1,.i p.2.1,.i p.2.2.1,.sl opS p.2.2.2]),(9,.i e),(2,.ptr 1099511627776 0),(3,.ptr 1099511627777 0),(4,.ptr 1099511627778 0),(10,.i e),(11,.bool (decide (e≠0))),(12,.i e)],blk:=[(5,.var [.bool p.1,.i p.2.1,.i p.2.2.1,.sl opS p.2.2.2]),(1099511627776,.var [.nils]),(1099511627777,.var [.i e]),(1099511627778,.var [.win true paS 1099511627779 0 o.length]),(1099511627779,.row 31 paS o)] }) (0+1<=([p]:List paS.D).length/\o.length=o.length/\(0:Nat)=(0:Nat)/\o.length+(([p]:List paS.D)).length<2 ^ 30/\(48:Nat)<=2 ^ 10/\Q AExit.normal (j,q) { env:=[(5,.ptr 5 0),(6,.i e),(8,.agg [.bool p.1,.i p.2.1,.i p.2.2.1,.sl opS p.2.2.2]),(9,.i e),(2,.ptr 1099511627776 0),(3,.ptr 1099511627777 0),(4,.ptr 1099511627778 0),(10,.i e),(11,.bool (decide (e≠0))),(13,.dead),(14,.agg [.bool p.1,.i p.2.1,.i p.2.2.1,.sl opS p.2.2.2]),(15,.win true paS 15 0 (1:Nat)),(16,.win true paS 16 0 (o.length+(([p]:List paS.D)).length))],blk:=[(5,.var [.bool p.1,.i p.2.1,.i p.2.2.1,.sl opS p.2.2.2]),(15,.row 31 paS ([p]:List paS.D)),(16,.row 31 paS (o++([p]:List paS.D))),(1099511627776,.var [.nils]),(1099511627777,.var [.i e0]),(1099511627778,.var [.win true paS 16 0 (o.length+(([p]:List paS.D)).length)])] })):=by kernel_rfl
theorem q12 (o:List PaT) (e0:Int) (j:Nat) (q:Bool) (Q:AExit->Nat × Bool->PS->Prop) (R:List Item->Nat × Bool->PS->Prop):syE tt G0 [] Tryz.f68.ntmps Y0 Q R .fn 1000 (rfK Tryz.f68 0) (j,q) (⟨[(2,.ptr 2 0),(3,.ptr 3 0),(4,.ptr 4 0)],[(2,.var [.nils]),(3,.var [.i e0]),(4,.var [.win true paS 1086016 0 o.length]),(1086016,.row 31 paS o)]⟩) =
  (Q AExit.ret (j,q) { env:=[(2,.ptr 2 0),(3,.ptr 3 0),(4,.ptr 4 0),(17,.win true paS 1086016 0 o.length)],blk:=[(2,.var [.win true paS 1086016 0 o.length]),(3,.var [.i 0]),(4,.var [.win true paS 1086016 0 o.length]),(1086016,.row 31 paS o)] }):=by kernel_rfl
theorem q1z (e:Int) (j:Nat) (q:Bool) (Q:AExit->Nat × Bool->PS->Prop) (R:List Item->Nat × Bool->PS->Prop):syE tt G0 [] Tryz.f68.ntmps Y0 Q R .fn 1000 (qku .ret++rfK Tryz.f68 0) (j,q) (⟨[(2,.ptr 2 0),(3,.ptr 3 0)],[(2,.var [.nils]),(3,.var [.i e])]⟩) =
  (Q AExit.ret (j,q) { env:=[(2,.ptr 2 0),(3,.ptr 3 0)],blk:=[(2,.var [.nils]),(3,.var [.i e])] }):=by kernel_rfl
abbrev yPf (m:Int) (q:List SyT):DL yP:=((cpV q m).1,(cpV q m).2,())
theorem hdPt:hd Tryz.f102 0=.code (.rangeFunc (.tmp 5) #[6] (rfA Tryz.f102 0) (rfB Tryz.f102 0))::rfK Tryz.f102 0:=by kernel_rfl
theorem rndPt:rnd Tryz.f102 0=[.code (rfA Tryz.f102 0),.beginRound,.code (rfB Tryz.f102 0)]:=by kernel_rfl
theorem qkc {m:Int} {lp:Nat} {ys:List (DL yP)} {QL:AExit->Nat × Bool->DI (KP lp)->Prop} (hN:QL .normal (ys.length,false) ((m,()),((),()),())) (hR:∀ j,QL .ret (j,true) ((m,()),((),()),())):∀ (rs:List (List SyT)) (j:Nat),j<=ys.length->ys.drop j=rs.map (yPf m)->(∀ q∈rs,q.length<16777216) ->
  qpl Tryz.prog G0 102 Tryz.f102.ntmps ⟨lp,yP,ys⟩ [2,3] [6] (KP lp) yS1 (rfA Tryz.f102 0) (rfB Tryz.f102 0) QL (rs.map yL) (j,false) ((m,()),((),()),())
 | [],j,hj,h,_=>by
  have e:=qqw hj h;subst e;exact hN
 | q::rs,j,hj,h,hq=>by
  obtain ⟨h1,h2,h3⟩:=qt5 (y:=yPf m q) (r:=rs.map (yPf m)) h;have k:=qkc (m:=m) (lp:=lp) (ys:=ys) (QL:=QL) hN hR rs (j+1) (by omega) h3 (λ x hx=>hq x (by simp[hx]))
  show GoodE Tryz.prog G0 102 Tryz.f102.ntmps .ready ⟨lp,yP,ys⟩ _ [.code (rfA Tryz.f102 0),.beginRound,.code (rfB Tryz.f102 0)] (j,false) (qk6 [2,3] [6] (KP lp) yS1 ((m,()),((),()),()) (q,()))
  rw[<- rndPt];refine qdq cxPt (q66 m q j false lp ys _ _) ⟨hq q (by simp),rfl,rfl,h2,λ r=>?_⟩
  cases r with
  | false=>exact qag (λ _=>⟨[],((m,()),((),()),()),⟨⟨rfl,rfl,trivial⟩,rfl,rfl⟩,hR (j+1)⟩) (λ h=>by cases h)
  | true=>exact qag (λ h=>by cases h) (λ _=>⟨[],((m,()),((),()),()),⟨⟨rfl,rfl,trivial⟩,rfl,rfl⟩,k⟩)
def bkP (lp:Nat) (x:DI (KP lp)):List (Nat × LB):=[(BIG,.var [.i x.1.1]),(BIG+1,.var [.yl lp])]
theorem qy9 {s:List SyT} {l:List SecT} (hs:s.length<16777216):∀ q∈secF s l,q.length<16777216:=λ q hq=>by
 obtain ⟨x,_,rfl⟩:=List.mem_map.1 hq
 show ((s.take _).drop _).length<_
 rw[List.length_drop,List.length_take];omega
theorem qpb {s:List SyT} {n:Nat} (hs:s.length<16777216):∀ (f i:Nat),∀ q∈qa4 s n f i,q.length<16777216
 | 0,_,q,h=>by cases h
 | f+1,i,q,h=>by
  rw[qa4] at h;split at h
  ·rcases List.mem_cons.1 h with rfl | h
   ·show ((s.take _).drop _).length<_
    rw[List.length_drop,List.length_take];omega
   ·exact qpb hs f (i+n) q h
  ·cases h
def q86:CtrY:=⟨q6o,λ x=>qiu x.1.1.2.2.1.1 x.1.1.2.1.1,yP,λ x=>(secF x.1.1.2.2.1.1 x.1.1.2.1.1).map (yPf x.2.1.1)⟩
theorem qzd:HeldY Tryz.prog G0 102 q86:=HeldY.of (fn:=Tryz.f102) rfl rfl rfl ⟨by decide,by decide⟩ λ ⟨⟨⟨⟨⟩,⟨l,⟨⟩⟩,⟨s,⟨⟩⟩,⟨⟩⟩,⟨⟩⟩,⟨m,⟨⟩⟩,⟨⟩⟩ hp lp=>by
 have hp:qiu s l:=hp;refine qdq cxPt (q65 s l m lp _ _ _) ?_
 show GoodE Tryz.prog G0 102 Tryz.f102.ntmps .fn ⟨lp,yP,(secF s l).map (yPf m)⟩ (endY ((secF s l).map (yPf m)).length) (hd Tryz.f102 0) (0,false) _
 rw[hdPt];refine GoodE.rangeF (gf:=103) (ct:=q89) (Ko:=KP lp) (xi:=((l,()),((s,()),()))) (x0:=((m,()),((),()),())) (ns1:=[some (BIG+1),some (BIG+2)]) (ns2:=[some (BIG+3),some 3]) (tl:=[(2,.ptr (BIG+3) 0),(3,.ptr 3 0)]) (bkF:=bkP lp) (rF:=[]) (d:=21) (m:=2)
  (by simp) ?_ q5v rfl rfl rfl ?_ hp ⟨rfl,rfl,trivial⟩ rfl ?_ (by decide) ⟨by decide,by decide,rfl⟩ rfl ?_ (by decide) ?_
 ·exact λ args w=>qbk (fn:=Tryz.f103) rfl rfl rfl args w
 ·exact λ c hc=>by cases hc
 ·intro c hc;have hc:c∈[lp=lp]:=hc;rw[List.mem_singleton] at hc;subst hc;rfl
 ·exact λ x hx=>⟨⟨rfl,rfl,trivial⟩,by simp[bkP,rho,lk,BIG],λ p hp hb=>(by
   simp only[bkP,List.mem_cons,List.not_mem_nil,or_false] at hp;rcases hp with rfl | rfl
   ·exact ⟨rfl,rfl⟩
   ·exact ⟨rfl,rfl⟩),by kernel_rfl⟩
 ·refine qkc ?_ (λ j=>?_) (secF s l) 0 (Nat.zero_le _) rfl (qy9 hp.1)
  ·have e:GEz 102 Tryz.f102 ⟨lp,yP,(secF s l).map (yPf m)⟩ (endY ((secF s l).map (yPf m)).length) (rfK Tryz.f102 0) (((secF s l).map (yPf m)).length,false) ⟨[],[]⟩:=qdq cxPt (q1v _ false lp _ _ _) (.inr rfl);exact e.only trivial trivial
  ·have e:GEz 102 Tryz.f102 ⟨lp,yP,(secF s l).map (yPf m)⟩ (endY ((secF s l).map (yPf m)).length) (qku .ret++rfK Tryz.f102 0) (j,true) ⟨[],[]⟩:=qdq cxPt (q1u j true lp _ _ _) (.inl rfl);exact e.only trivial trivial
def q87:CtrY:=⟨q6p,λ x=>qof x.1.1.2.1.1 x.1.1.2.2.1.1,yP,λ x=>(qa9 x.1.1.2.1.1 x.1.1.2.2.1.1).map (yPf x.2.1.1)⟩
theorem qze:HeldY Tryz.prog G0 102 q87:=HeldY.of (fn:=Tryz.f102) rfl rfl rfl ⟨by decide,by decide⟩ λ ⟨⟨⟨⟨⟩,⟨s,⟨⟩⟩,⟨n,⟨⟩⟩,⟨⟩⟩,⟨⟩⟩,⟨m,⟨⟩⟩,⟨⟩⟩ hp lp=>by
 have hp:qof s n:=hp;refine qdq cxPt (q67 s n m lp _ _ _) ?_
 show GoodE Tryz.prog G0 102 Tryz.f102.ntmps .fn ⟨lp,yP,(qa9 s n).map (yPf m)⟩ (endY ((qa9 s n).map (yPf m)).length) (hd Tryz.f102 0) (0,false) _
 rw[hdPt];refine GoodE.rangeF (gf:=105) (ct:=q9b) (Ko:=KP lp) (xi:=((s,()),((n,()),()))) (x0:=((m,()),((),()),())) (ns1:=[some (BIG+1),some (BIG+2)]) (ns2:=[some (BIG+3),some 3]) (tl:=[(2,.ptr (BIG+3) 0),(3,.ptr 3 0)]) (bkF:=bkP lp) (rF:=[]) (d:=21) (m:=2)
  (by simp) ?_ q0x rfl rfl rfl ?_ hp ⟨rfl,rfl,trivial⟩ rfl ?_ (by decide) ⟨by decide,by decide,rfl⟩ rfl ?_ (by decide) ?_
 ·exact λ args w=>qbk (fn:=Tryz.f105) rfl rfl rfl args w
 ·exact λ c hc=>by cases hc
 ·intro c hc;have hc:c∈[lp=lp]:=hc;rw[List.mem_singleton] at hc;subst hc;rfl
 ·exact λ x hx=>⟨⟨rfl,rfl,trivial⟩,by simp[bkP,rho,lk,BIG],λ p hp hb=>(by
   simp only[bkP,List.mem_cons,List.not_mem_nil,or_false] at hp;rcases hp with rfl | rfl
   ·exact ⟨rfl,rfl⟩
   ·exact ⟨rfl,rfl⟩),by kernel_rfl⟩
 ·refine qkc ?_ (λ j=>?_) (qa9 s n) 0 (Nat.zero_le _) rfl (qpb hp.1 _ _)
  ·have e:GEz 102 Tryz.f102 ⟨lp,yP,(qa9 s n).map (yPf m)⟩ (endY ((qa9 s n).map (yPf m)).length) (rfK Tryz.f102 0) (((qa9 s n).map (yPf m)).length,false) ⟨[],[]⟩:=qdq cxPt (q1v _ false lp _ _ _) (.inr rfl);exact e.only trivial trivial
  ·have e:GEz 102 Tryz.f102 ⟨lp,yP,(qa9 s n).map (yPf m)⟩ (endY ((qa9 s n).map (yPf m)).length) (qku .ret++rfK Tryz.f102 0) (j,true) ⟨[],[]⟩:=qdq cxPt (q1u j true lp _ _ _) (.inl rfl);exact e.only trivial trivial
def colF:List (PaT × Int)->List PaT->List PaT × Int
 | [],o=>(o,0)
 | x::r,o=>match decide (x.2≠0) with
  | true=>([],x.2)
  | false=>colF r (o++[x.1])
abbrev yQ (x:PaT × Int):DL yP:=(x.1,x.2,())
theorem hdCo:hd Tryz.f68 0=.code (.rangeFunc (.tmp 7) #[8,9] (rfA Tryz.f68 0) (rfB Tryz.f68 0))::rfK Tryz.f68 0:=by kernel_rfl
theorem rndCo:rnd Tryz.f68 0=[.code (rfA Tryz.f68 0),.beginRound,.code (rfB Tryz.f68 0)]:=by kernel_rfl
theorem qk7 {QL:AExit->Nat × Bool->DI KL->Prop} {g:Nat × Bool} {V:List PaT × Int} (hN:∀ o,V=(o,0)->QL .normal g (((),()),((0,()),((o,()),())))) (hR:∀ e o,e≠0->V=([],e)->QL .ret g (((),()),((e,()),((o,()),())))):∀ (rs:List (PaT × Int)) (o:List PaT),o.length+rs.length<2 ^ 30->colF rs o=V ->
  qpl Tryz.prog G0 68 Tryz.f68.ntmps Y0 [2,3,4] [8,9] KL yP (rfA Tryz.f68 0) (rfB Tryz.f68 0) QL (rs.map yQ) g (((),()),((0,()),((o,()),())))
 | [],o,_,h=>hN o h.symm
 | (p,e)::rs,o,hl,h=>by
  rw[List.length_cons] at hl
  show GoodE Tryz.prog G0 68 Tryz.f68.ntmps .ready Y0 _ [.code (rfA Tryz.f68 0),.beginRound,.code (rfB Tryz.f68 0)] g (qk6 [2,3,4] [8,9] KL yP (((),()),((0,()),((o,()),()))) (p,e,()))
  rw[<- rndCo];refine qdq cx0 (q7r o 0 p e g.1 g.2 _ _) (qag (λ h1=>?_) (λ h1=>⟨by simp,rfl,rfl,?_,by decide,?_⟩))
  ·have h1:decide (e≠0)=true:=h1;have hv:V=([],e):=by rw[<- h];simp only[colF,h1]
   exact ⟨[],(((),()),((e,()),((o,()),()))),⟨⟨rfl,rfl,rfl,rfl,trivial⟩,rfl,rfl⟩,hR e o (of_decide_eq_true h1) hv⟩
  ·show o.length+([p]:List PaT).length<2 ^ 30
   simp only[List.length_singleton];omega
  ·have h1:decide (e≠0)=false:=h1;have hv:colF rs (o++[p])=V:=by rw[<- h];simp only[colF,h1]
   have k:=qk7 (QL:=QL) (g:=g) (V:=V) hN hR rs (o++[p]) (by rw[List.length_append,List.length_singleton];omega) hv;exact ⟨[(BIG+3,16)],(((),()),((0,()),((o++[p],()),()))),⟨⟨rfl,rfl,by show some (LB.var [SV.win true paS 16 0 (o.length+1)])=some (LB.var [SV.win true paS 16 0 (o++[p]).length]);rw[List.length_append,List.length_singleton],rfl,trivial⟩,rfl,rfl⟩,k⟩
def bkL (x:DI KL):List (Nat × LB):=[(BIG,.var [.nils]),(BIG+1,.var [.i x.2.1.1]),(BIG+2,.var [.win true paS 0 0 x.2.2.1.1.length]),(0,.row 31 paS x.2.2.1.1)]
theorem q2v (Q:List SV->List (Nat × LB)->Prop) (o:List PaT) (g:Nat × Bool):endK tt G0 Tryz.f68.results.toList Q AExit.ret g { env:=[(2,SV.ptr 2 0),(3,SV.ptr 3 0),(4,SV.ptr 4 0),(17,SV.win true paS 1086016 0 o.length)],blk:=[(2,LB.var [SV.win true paS 1086016 0 o.length]),(3,LB.var [SV.int IntKind.i64 0]),(4,LB.var [SV.win true paS 1086016 0 o.length]),(1086016,LB.row 31 paS o)] }=Q [.win true paS 1086016 0 o.length,.i 0] [(2,LB.var [SV.win true paS 1086016 0 o.length]),(3,LB.var [SV.int IntKind.i64 0]),(4,LB.var [SV.win true paS 1086016 0 o.length]),(1086016,LB.row 31 paS o)]:=by kernel_rfl
theorem q2u (Q:List SV->List (Nat × LB)->Prop) (e:Int) (g:Nat × Bool):endK tt G0 Tryz.f68.results.toList Q AExit.ret g { env:=[(2,SV.ptr 2 0),(3,SV.ptr 3 0)],blk:=[(2,LB.var [SV.nils]),(3,LB.var [SV.int IntKind.i64 e])] }=Q [.nils,.i e] [(2,LB.var [SV.nils]),(3,LB.var [SV.int IntKind.i64 e])]:=by kernel_rfl
theorem qhx {s:List SyT} {n:Nat}:∀ (f i:Nat),(qa4 s n f i).length<=f
 | 0,_=>Nat.le_refl _
 | f+1,i=>by
  have:=qhx (s:=s) (n:=n) f (i+n);rw[qa4];split
  ·rw[List.length_cons];omega
  ·simp
theorem qxu {s:List SyT} {n:Int} (h:qof s n):(qa9 s n).length<16777216:=by
 have:=qhx (s:=s) (n:=n.toNat) s.length 0;have h1:=h.1;unfold qa9;omega
def ctCoS:CtrI:=⟨[pS],λ x=>qiu x.1.2.1.1.2.2.1.1 x.1.2.1.1.2.1.1,λ x=>[.win true paS 0 0 (colF ((secF x.1.2.1.1.2.2.1.1 x.1.2.1.1.2.1.1).map (cpV · x.1.2.2.1.1)) []).1.length,.i (colF ((secF x.1.2.1.1.2.2.1.1 x.1.2.1.1.2.1.1).map (cpV · x.1.2.2.1.1)) []).2],λ x=>[(0,.row 31 paS (colF ((secF x.1.2.1.1.2.2.1.1 x.1.2.1.1.2.1.1).map (cpV · x.1.2.2.1.1)) []).1)]⟩
theorem q0u:HeldI Tryz.prog G0 68 ctCoS:=by
 refine HeldI.of cx0 (fn:=Tryz.f68) rfl rfl ⟨by decide,by decide⟩ λ ⟨⟨⟨⟩,⟨⟨⟨⟩,⟨l,⟨⟩⟩,⟨s,⟨⟩⟩,⟨⟩⟩,⟨⟩⟩,⟨m,⟨⟩⟩,⟨⟩⟩,⟨⟩⟩ hp=>?_
 have hpp:qiu s l:=hp;have hll:=hpp.2.1;refine qjd cx0 (q7q s l m _ _) ?_
 show GoodE Tryz.prog G0 68 Tryz.f68.ntmps .fn Y0 (endK tt G0 Tryz.f68.results.toList (QI ctCoS (((),((((),(l,()),(s,()),()),()),(m,()),())),()))) (hd Tryz.f68 0) (0,false) _
 rw[hdCo];refine GoodE.rangeF (gf:=102) (ct:=q86) (Ko:=KL) (xi:=((((),(l,()),(s,()),()),()),(m,()),())) (x0:=(((),()),((0,()),(([],()),())))) (ns1:=[some BIG,some (BIG+1),some (BIG+2),some (BIG+3)]) (ns2:=[some 2,some 3,some 4,none]) (tl:=[(2,.ptr 2 0),(3,.ptr 3 0),(4,.ptr 4 0)]) (bkF:=bkL) (rF:=[(0,BIG+3)]) (d:=21) (m:=3)
  (by simp) ?_ qzd rfl rfl rfl ?_ hpp ⟨rfl,rfl,rfl,trivial⟩ rfl ?_ (by decide) ⟨by decide,by decide,rfl⟩ rfl ?_ (by decide) ?_
 ·exact λ args w=>qbk (fn:=Tryz.f102) rfl rfl rfl args w
 ·exact λ c hc=>by cases hc
 ·exact λ c hc=>by cases hc
 ·exact λ x hx=>⟨⟨rfl,rfl,rfl,rfl,trivial⟩,by simp[bkL,rho,lk,BIG],λ p hp hb=>(by
   simp only[bkL,List.mem_cons,List.not_mem_nil,or_false] at hp;rcases hp with rfl | rfl | rfl | rfl
   ·exact ⟨rfl,rfl⟩
   ·exact ⟨rfl,rfl⟩
   ·exact ⟨rfl,rfl⟩
   ·exact absurd hb (show ¬ BIG<=0 by decide)),by kernel_rfl⟩
 ·show qpl Tryz.prog G0 68 Tryz.f68.ntmps Y0 [2,3,4] [8,9] KL yP _ _ _ ((secF s l).map (yPf m)) _ _
  have hmap:(secF s l).map (yPf m)=((secF s l).map (cpV · m)).map yQ:=by rw[List.map_map];rfl
  rw[hmap];refine qk7 (V:=colF ((secF s l).map (cpV · m)) []) (λ o ho=>?_) (λ e o he ho=>?_) _ [] (by show 0+_<_;rw[List.length_map,secF,List.length_map];omega) rfl
  ·have q:GoodE Tryz.prog G0 68 Tryz.f68.ntmps .fn Y0 (endK tt G0 Tryz.f68.results.toList (QI ctCoS (((),((((),(l,()),(s,()),()),()),(m,()),())),()))) (rfK Tryz.f68 0) (0,false) ⟨[(2,.ptr 2 0),(3,.ptr 3 0),(4,.ptr 4 0)],[(2,.var [.nils]),(3,.var [.i 0]),(4,.var [.win true paS 1086016 0 o.length]),(1086016,.row 31 paS o)]⟩:=by
    refine qdq cx0 (q12 o 0 0 false _ _) ?_;rw[q2v];have p0:piOf [(0,1086016)] 0=some 1086016:=by decide
    refine ⟨[(0,1086016)],?_,?_,by decide,λ p hp=>?_⟩
    ·show MtL _ [.win true paS 0 0 (colF ((secF s l).map (cpV · m)) []).1.length,.i (colF ((secF s l).map (cpV · m)) []).2] _
     rw[ho];exact qax (by simp only[Mt];exact .inl ⟨true,1086016,rfl,p0,λ _=>rfl⟩) (qaz _ _ rfl)
    ·show MtK _ _ [(0,.row 31 paS (colF ((secF s l).map (cpV · m)) []).1)]
     rw[ho];exact ⟨.inl ⟨1086016,_,p0,rfl,rfl⟩,trivial⟩
    ·simp only[List.mem_cons,List.not_mem_nil,or_false] at hp;subst hp;decide
   exact q.only ⟨by kernel_rfl,by kernel_rfl,by kernel_rfl,trivial⟩ ⟨by kernel_rfl,by kernel_rfl,by kernel_rfl,by kernel_rfl,trivial⟩
  ·have q:GoodE Tryz.prog G0 68 Tryz.f68.ntmps .fn Y0 (endK tt G0 Tryz.f68.results.toList (QI ctCoS (((),((((),(l,()),(s,()),()),()),(m,()),())),()))) (qku .ret++rfK Tryz.f68 0) (0,false) ⟨[(2,.ptr 2 0),(3,.ptr 3 0)],[(2,.var [.nils]),(3,.var [.i e])]⟩:=by
    refine qdq cx0 (q1z e 0 false _ _) ?_;rw[q2u];refine ⟨[],?_,?_,by simp,by simp⟩
    ·show MtL _ [.win true paS 0 0 (colF ((secF s l).map (cpV · m)) []).1.length,.i (colF ((secF s l).map (cpV · m)) []).2] _
     rw[ho];exact ⟨_,_,rfl,.inr ⟨rfl,rfl,rfl,rfl⟩,qaz _ _ rfl⟩
    ·show MtK _ _ [(0,.row 31 paS (colF ((secF s l).map (cpV · m)) []).1)]
     rw[ho];exact ⟨.inr ⟨rfl,_,_,rfl,by decide⟩,trivial⟩
   exact q.only ⟨by kernel_rfl,by kernel_rfl,trivial⟩ ⟨by kernel_rfl,by kernel_rfl,trivial⟩
def ctCoK:CtrI:=⟨[pK],λ x=>qof x.1.2.1.1.2.1.1 x.1.2.1.1.2.2.1.1,λ x=>[.win true paS 0 0 (colF ((qa9 x.1.2.1.1.2.1.1 x.1.2.1.1.2.2.1.1).map (cpV · x.1.2.2.1.1)) []).1.length,.i (colF ((qa9 x.1.2.1.1.2.1.1 x.1.2.1.1.2.2.1.1).map (cpV · x.1.2.2.1.1)) []).2],λ x=>[(0,.row 31 paS (colF ((qa9 x.1.2.1.1.2.1.1 x.1.2.1.1.2.2.1.1).map (cpV · x.1.2.2.1.1)) []).1)]⟩
theorem q0v:HeldI Tryz.prog G0 68 ctCoK:=by
 refine HeldI.of cx0 (fn:=Tryz.f68) rfl rfl ⟨by decide,by decide⟩ λ ⟨⟨⟨⟩,⟨⟨⟨⟩,⟨s,⟨⟩⟩,⟨n,⟨⟩⟩,⟨⟩⟩,⟨⟩⟩,⟨m,⟨⟩⟩,⟨⟩⟩,⟨⟩⟩ hp=>?_
 have hpp:qof s n:=hp;have hll:=qxu hpp;refine qjd cx0 (q7s s n m _ _) ?_
 show GoodE Tryz.prog G0 68 Tryz.f68.ntmps .fn Y0 (endK tt G0 Tryz.f68.results.toList (QI ctCoK (((),((((),(s,()),(n,()),()),()),(m,()),())),()))) (hd Tryz.f68 0) (0,false) _
 rw[hdCo];refine GoodE.rangeF (gf:=102) (ct:=q87) (Ko:=KL) (xi:=((((),(s,()),(n,()),()),()),(m,()),())) (x0:=(((),()),((0,()),(([],()),())))) (ns1:=[some BIG,some (BIG+1),some (BIG+2),some (BIG+3)]) (ns2:=[some 2,some 3,some 4,none]) (tl:=[(2,.ptr 2 0),(3,.ptr 3 0),(4,.ptr 4 0)]) (bkF:=bkL) (rF:=[(0,BIG+3)]) (d:=21) (m:=3)
  (by simp) ?_ qze rfl rfl rfl ?_ hpp ⟨rfl,rfl,rfl,trivial⟩ rfl ?_ (by decide) ⟨by decide,by decide,rfl⟩ rfl ?_ (by decide) ?_
 ·exact λ args w=>qbk (fn:=Tryz.f102) rfl rfl rfl args w
 ·exact λ c hc=>by cases hc
 ·exact λ c hc=>by cases hc
 ·exact λ x hx=>⟨⟨rfl,rfl,rfl,rfl,trivial⟩,by simp[bkL,rho,lk,BIG],λ p hp hb=>(by
   simp only[bkL,List.mem_cons,List.not_mem_nil,or_false] at hp;rcases hp with rfl | rfl | rfl | rfl
   ·exact ⟨rfl,rfl⟩
   ·exact ⟨rfl,rfl⟩
   ·exact ⟨rfl,rfl⟩
   ·exact absurd hb (show ¬ BIG<=0 by decide)),by kernel_rfl⟩
 ·show qpl Tryz.prog G0 68 Tryz.f68.ntmps Y0 [2,3,4] [8,9] KL yP _ _ _ ((qa9 s n).map (yPf m)) _ _
  have hmap:(qa9 s n).map (yPf m)=((qa9 s n).map (cpV · m)).map yQ:=by rw[List.map_map];rfl
  rw[hmap];refine qk7 (V:=colF ((qa9 s n).map (cpV · m)) []) (λ o ho=>?_) (λ e o he ho=>?_) _ [] (by show 0+_<_;rw[List.length_map];omega) rfl
  ·have q:GoodE Tryz.prog G0 68 Tryz.f68.ntmps .fn Y0 (endK tt G0 Tryz.f68.results.toList (QI ctCoK (((),((((),(s,()),(n,()),()),()),(m,()),())),()))) (rfK Tryz.f68 0) (0,false) ⟨[(2,.ptr 2 0),(3,.ptr 3 0),(4,.ptr 4 0)],[(2,.var [.nils]),(3,.var [.i 0]),(4,.var [.win true paS 1086016 0 o.length]),(1086016,.row 31 paS o)]⟩:=by
    refine qdq cx0 (q12 o 0 0 false _ _) ?_;rw[q2v];have p0:piOf [(0,1086016)] 0=some 1086016:=by decide
    refine ⟨[(0,1086016)],?_,?_,by decide,λ p hp=>?_⟩
    ·show MtL _ [.win true paS 0 0 (colF ((qa9 s n).map (cpV · m)) []).1.length,.i (colF ((qa9 s n).map (cpV · m)) []).2] _
     rw[ho];exact qax (by simp only[Mt];exact .inl ⟨true,1086016,rfl,p0,λ _=>rfl⟩) (qaz _ _ rfl)
    ·show MtK _ _ [(0,.row 31 paS (colF ((qa9 s n).map (cpV · m)) []).1)]
     rw[ho];exact ⟨.inl ⟨1086016,_,p0,rfl,rfl⟩,trivial⟩
    ·simp only[List.mem_cons,List.not_mem_nil,or_false] at hp;subst hp;decide
   exact q.only ⟨by kernel_rfl,by kernel_rfl,by kernel_rfl,trivial⟩ ⟨by kernel_rfl,by kernel_rfl,by kernel_rfl,by kernel_rfl,trivial⟩
  ·have q:GoodE Tryz.prog G0 68 Tryz.f68.ntmps .fn Y0 (endK tt G0 Tryz.f68.results.toList (QI ctCoK (((),((((),(s,()),(n,()),()),()),(m,()),())),()))) (qku .ret++rfK Tryz.f68 0) (0,false) ⟨[(2,.ptr 2 0),(3,.ptr 3 0)],[(2,.var [.nils]),(3,.var [.i e])]⟩:=by
    refine qdq cx0 (q1z e 0 false _ _) ?_;rw[q2u];refine ⟨[],?_,?_,by simp,by simp⟩
    ·show MtL _ [.win true paS 0 0 (colF ((qa9 s n).map (cpV · m)) []).1.length,.i (colF ((qa9 s n).map (cpV · m)) []).2] _
     rw[ho];exact ⟨_,_,rfl,.inr ⟨rfl,rfl,rfl,rfl⟩,qaz _ _ rfl⟩
    ·show MtK _ _ [(0,.row 31 paS (colF ((qa9 s n).map (cpV · m)) []).1)]
     rw[ho];exact ⟨.inr ⟨rfl,_,_,rfl,by decide⟩,trivial⟩
   exact q.only ⟨by kernel_rfl,by kernel_rfl,trivial⟩ ⟨by kernel_rfl,by kernel_rfl,trivial⟩
theorem qri:Held Tryz.prog G0 66 ⟨[paS],λ _=>True,λ x=>[.sl syS (psV x.1).1,.i (psV x.1).2],λ _=>[]⟩:=by
 have h:=ps_held.frz (λ x _=>by
  show inL 0 (psV x.1).1.length [SV.win true syS 0 0 (psV x.1).1.length,SV.i (psV x.1).2]/\True
  exact ⟨⟨λ _=>by omega,⟨trivial,trivial⟩⟩,trivial⟩)
 refine h.iff rfl (λ x h=>h) (λ x _=>?_) (λ x _=>rfl)
 show [SV.sl syS (psV x.1).1,SV.i (psV x.1).2]=[SV.sl syS (winL syS 0 (psV x.1).1.length (psV x.1).1),SV.i (psV x.1).2]
 rw[winA (e:=syS)]
def ctPsf:Ctr:=⟨[paS],λ _=>True,λ x=>[.sl syS (psV x.1).1,.i (psV x.1).2],λ _=>[]⟩
def CSp:CV:=[(66,.inl ctPsf),(67,.inl (Im.ctVal True)),(70,.inr ctIns),(69,.inr ctPaS),(68,.inr ctCoS)]
theorem cxSp:CxOK Tryz.prog tt G0 CSp:=((((cx0.consI q0u (fn:=Tryz.f68) rfl rfl rfl).consI qzi (fn:=Tryz.f69) rfl rfl rfl).consI q0c (fn:=Tryz.f70) rfl rfl rfl).k Im.val_held (fn:=Tryz.f67)).k qri (fn:=Tryz.f66)
def CSe:CV:=[(66,.inl ctPsf),(73,.inr ctCk),(69,.inr ctPaK),(68,.inr ctCoK)]
theorem cxSe:CxOK Tryz.prog tt G0 CSe:=(((cx0.consI q0v (fn:=Tryz.f68) rfl rfl rfl).consI qzj (fn:=Tryz.f69) rfl rfl rfl).consI q6h (fn:=Tryz.f73) rfl rfl rfl).k qri (fn:=Tryz.f66)
abbrev KJ:List AK:=[.dat paS,.ptr [.dat (.sl paS)]]
abbrev fJ:AK:=.fn 106 [] [.ptr [.dat (.sl paS)]]
abbrev gtP (l:List PaT) (i:Nat):PaT:=gt paS l i
def othB (l:List PaT) (p:PaT):Bool:=p.1 != (gtP l 0).1
def ctOth:CtrI:=⟨KJ,λ x=>0<x.2.1.1.length,λ x=>[.bool (othB x.2.1.1 x.1)],λ x=>bkKL 0 KJ x⟩
abbrev slP:Sh:=.sl paS
def ixF (p:PaT->Bool):List PaT->Nat->Int
 | [],_ => -1
 | x::r,i=>match p x with
  | true=>(i:Int)
  | false=>ixF p r (i+1)
abbrev KO:List AK:=[.dat slP,fJ]
def q4u (l b:List PaT):Prop:=0<b.length/\l.length<1000000
def ctIfO:CtrI:=⟨KO,λ x=>q4u x.1 x.2.1.2.1.1,λ x=>[.i (ixF (othB x.2.1.2.1.1) x.1 0)],λ x=>bkKL 0 KO x⟩
set_option maxRecDepth 100000
theorem q61 (p:PaT) (l:List SecT) (Q:QT) (R:RT):sA CSp Tryz.f28 Q R [.code (qae Tryz.f28)] (entry [paS,.sl seS] (p,l,())) =
  (ctPsf.pre (p,())/\bc (decide ((psV p).2≠0)) (Q [.nils,.i (psV p).2] [(2,.var [.bool p.1,.i p.2.1,.i p.2.2.1,.sl opS p.2.2.2])]) ((Im.ctVal True).pre (l,p.2.2.1,())/\bc (!Im.validB l p.2.2.1) (Q [.nils,.i 120] [(2,.var [.bool p.1,.i p.2.1,.i p.2.2.1,.sl opS p.2.2.2])]) (ctIns.pre ((psV p).1,l,())/\ctPaS.pre (((),(l,()),((psV p).1,()),()),p.2.1,())/\ctCoS.pre (((),(((),(l,()),((psV p).1,()),()),()),(p.2.1,()),()),())/\Q [.win true paS 1110592 0 (colF (List.map (λ x=>cpV x p.2.1) (secF (psV p).1 l)) []).1.length,.i (colF (List.map (λ x=>cpV x p.2.1) (secF (psV p).1 l)) []).2] [(2,.var [.bool p.1,.i p.2.1,.i p.2.2.1,.sl opS p.2.2.2]),(1110592,.row 31 paS (colF (List.map (λ x=>cpV x p.2.1) (secF (psV p).1 l)) []).1)]))):=by kernel_rfl
theorem q63 (p:PaT) (n:Int) (Q:QT) (R:RT):sA CSe Tryz.f32 Q R [.code (qae Tryz.f32)] (entry [paS,iI] (p,n,())) =
  (ctPsf.pre (p,())/\bc (decide ((psV p).2≠0)) (Q [.nils,.i (psV p).2] [(2,.var [.bool p.1,.i p.2.1,.i p.2.2.1,.sl opS p.2.2.2])]) (bc (decide (n<1)) (true=true/\Q [.nils,.i 1] [(2,.var [.bool p.1,.i p.2.1,.i p.2.2.1,.sl opS p.2.2.2])]) (bc (bif false then true else decide ((4096:Int)<n)) (Q [.nils,.i 1] [(2,.var [.bool p.1,.i p.2.1,.i p.2.2.1,.sl opS p.2.2.2])]) (ctCk.pre ((psV p).1,n,())/\ctPaK.pre (((),((psV p).1,()),(n,()),()),p.2.1,())/\ctCoK.pre (((),(((),((psV p).1,()),(n,()),()),()),(p.2.1,()),()),())/\Q [.win true paS 1114688 0 (colF (List.map (λ x=>cpV x p.2.1) (qa9 (psV p).1 n)) []).1.length,.i (colF (List.map (λ x=>cpV x p.2.1) (qa9 (psV p).1 n)) []).2] [(2,.var [.bool p.1,.i p.2.1,.i p.2.2.1,.sl opS p.2.2.2]),(1114688,.row 31 paS (colF (List.map (λ x=>cpV x p.2.1) (qa9 (psV p).1 n)) []).1)])))):=by kernel_rfl
theorem q69 (l:List PaT) (li:Bool) (m o:Int) (x:List OpT) (Q:QT) (R:RT):sA [] Tryz.f106 Q R [.code (qae Tryz.f106)] (qbf KJ ((li,m,o,x),(l,()),())) =
  ((0:Int)<=0/\(0:Int)<(l.length:Int)/\Q [.bool !li == (gtP l (0)).1] [(2,.var [.bool li,.i m,.i o,.sl opS x]),(1099511627776,.var [.sl paS l])]):=by kernel_rfl
theorem q7m (l b:List PaT) (Q:QT) (R:RT):sA [(106,.inr ctOth)] Tryz.f108 Q (λ it S=>R it (qbt [0,1,7,8] [BIG] S)) [.code (qae Tryz.f108)] (qbf KO (l,((),((b,()),())),())) =
  (R (hd Tryz.f108 0) { env:=[(0,.sl paS l),(1,.fn (106:Nat) [] [.ptr 1099511627776 0]),(7,.i (l.length:Int)),(8,.i 0)],blk:=[(1099511627776,.var [.sl paS b])] }):=by kernel_rfl
theorem quk (l b:List PaT) (i:Nat) (Q:QT) (R:RT):sA [(106,.inr ctOth)] Tryz.f108 Q (λ it S=>R it (qbt [0,1,7,8] [BIG] S)) (hd Tryz.f108 0) ⟨[(0,.sl paS l),(1,.fn 106 [] [.ptr BIG 0]),(7,.i (l.length:Nat)),(8,.i (i:Nat))],[(BIG,.var [.sl paS b])]⟩ =
  (bc (decide ((i:Int)<(l.length:Int))) ((0:Int)<=(i:Int)/\(i:Int)<(l.length:Int)/\ctOth.pre ((gtP l (i:Int).toNat),(b,()),())/\bc (othB b (gtP l (i:Int).toNat)) (Q [.i (i:Int)] [(1099511627776,.var [.sl paS b])]) (R (hd Tryz.f108 0) { env:=[(0,.sl paS l),(1,.fn (106:Nat) [] [.ptr 1099511627776 0]),(7,.i (l.length:Int)),(8,.i (IntKind.i64.wrap ((i:Int)+1)))],blk:=[(1099511627776,.var [.sl paS b])] })) (Q [.i (-1:Int)] [(1099511627776,.var [.sl paS b])])):=by kernel_rfl
theorem q7y (l b:List PaT) (Q:QT) (R:RT):sA [(108,.inr ctIfO)] Tryz.f83 Q R [.code (qae Tryz.f83)] (qbf KO (l,((),((b,()),())),())) =
  (ctIfO.pre (l,((),(b,()),()),())/\Q [.bool (decide ((0:Int)<=ixF (othB b) l (0:Nat)))] [(1099511627776,.var [.sl paS b])]):=by kernel_rfl
abbrev gI3 (w:List Int) (i:Nat):Int:=gt (Sh.int .i32) w i
def preW (w:List Int):Prop:=∀ j,-2147483648<=gI3 w j/\gI3 w j<2147483648
section
variable (z:Int) (l4:List (List Int)) (w:List Int) (h6:qvw z l4) (hw:preW w)
include h6 hw
end
theorem qrj {s:List SyT} {m:Int} (hr:∀ x∈s,sOK m x=true) (h0:0<=m) (h1:m<=65536) (hl:s.length<=4096):poV s m=((false,m,(s.length:Int),chL s),0)/\symF (chL s)=s/\(∀ x∈chL s,isRB x m=true)/\qqm (chL s)=cst s/\(chL s).length<=4096/\ (chkV (false,m,(s.length:Int),chL s)).2=0:=by
 obtain ⟨c1,c2,c3,c4⟩:=ch_ok (m:=m) (by omega) s.length s (Nat.le_refl _) (by omega) hr;have hb:=qsg s (by omega);unfold boL at hb;have hlen:(chL s).length<=4096:=by
  show (chF s.length s).length<=4096
  have:oct s=(bst s).2.2.2:=rfl;omega
 have hs:=qfx c2;rw[c1] at hs;refine ⟨?_,c1,c2,c3,hlen,?_⟩
 ·unfold poV;rw[if_neg (by omega)]
 ·have:=qxs (li:=false) (o:=(s.length:Int)) h0 h1 (by omega) hlen c2 hs.symm;rw[this]
theorem q2y {s:List SyT} {m:Int} (hr:∀ x∈s,sOK m x=true) (h0:0<=m) (h1:m<=65536) (hl:s.length<=4096):cpV s m=((false,m,(s.length:Int),chL s),0):=by
 unfold cpV;rw[if_neg (q5a ⟨by simp[szB];omega,by simp[szB];omega,by rw[List.all_eq_true];exact hr⟩)];exact (qrj hr h0 h1 hl).1
theorem q6d {s:List SyT} {m:Int} (hr:∀ x∈s,sOK m x=true) (h0:0<=m) (h1:m<=65536) (hl:s.length<=4096):qtv 0 (chL s)=cst s:=by
 obtain ⟨_,_,c2,c3,c4,_⟩:=qrj hr h0 h1 hl;rw[qsa c2 (Int.le_refl 0) (by omega),Int.zero_add,c3]
def opK (k:Int) (l:List SyT):OpT:=(k,if k=1\/k=2 then (gtY l 0).2.1 else 0,(l.length:Int),if k=3 then (gtY l 0).2.2 else 0,if k=2\/k=4 then l.map λ s=>s.2.2 else [])
set_option maxRecDepth 100000
section
variable (a b:Int) (l:List SyT) (hl:l.length<16777216)
include hl
end
def preLi (l:List SyT):Prop:=l.length<=65536/\∃ m:Int,m<16777216/\∀ s∈l,sOK m s=true
section
variable (l:List SyT) (hp:preLi l)
include hp
end
section
variable (li:Bool) (m o:Int) (l:List OpT) (hc:(chkV (li,m,o,l)).2=0)
include hc
end
theorem q57 {x:OpT} {m:Int} (h:isRB x m=true) (h0:0<=m) (hm:m<16777216) {k:Nat} (hk:(k:Int)<x.2.2.1):sOK m (elO x.1.toNat x k)=true:=by
 have pp:=qw0 h ⟨h0,hm⟩;rcases (qd6 h).1 with e | e | e | e
 ·rw[e];have pp:=pp (.inl e)
  show sOK m (true,IntKind.i64.wrap (x.2.1+(k:Int)),0)=true
  rw[IntWalk.i64_in _ (by omega)];simp[sOK];omega
 ·rw[e];have pp:=pp (.inr e)
  show sOK m (true,IntKind.i64.wrap (x.2.1+(k:Int)),gtB x.2.2.2.2 k)=true
  rw[IntWalk.i64_in _ (by omega)];simp[sOK];omega
 ·rw[e];rfl
 ·rw[e];rfl
theorem quy {m:Int} (h0:0<=m) (hm:m<16777216) {l:List OpT} (hr:∀ x∈l,isRB x m=true):∀ s∈symF l,sOK m s=true:=λ s hs=>by
 obtain ⟨x,hx,k,hk,e⟩:=quz hr s hs;rw[e];exact q57 (hr x hx) h0 hm hk
theorem qxt {p:PaT} (h:(chkV p).2=0):0<=p.2.1/\p.2.1<=65536:=by
 unfold chkV at h;split at h
 next q=>exact q18 q.1
 ·cases h
theorem qpp {p:PaT} (h:(symV p).2=0):(chkV p).2=0/\(symV p).1=symF p.2.2.2:=by
 unfold symV at h |-;split at h
 next q=>rw[if_pos q];exact ⟨q,rfl⟩
 next q=>exact absurd h q
theorem qc7 {p:PaT} (h:(symV p).2=0):(∀ s∈(symV p).1,sOK p.2.1 s=true)/\(0<=p.2.1/\p.2.1<=65536)/\((symV p).1.length:Int)=p.2.2.1:=by
 obtain ⟨h1,h2⟩:=qpp h;obtain ⟨hr,hs,ho,hl⟩:=qex h1;have hi:=qxt h1;rw[h2];exact ⟨quy hi.1 (by omega) hr,hi,by rw[qfx hr,hs]⟩
end Go.Proofs.YtdeacfammdjajaaGreatDoor
