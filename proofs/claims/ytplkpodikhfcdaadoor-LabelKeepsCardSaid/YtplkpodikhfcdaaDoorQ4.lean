/-
  A part of the proof: what pieces of the program give; conditions: those of each theorem.
-/
import Derived.Test.YtplkpodikhfcdaaDoorQ3
import Derived.Test.YtplkpodikhfcdaaDoorQ2
import Derived.Test.YtplkpodikhfcdaaDoorHD
set_option linter.unusedVariables false
set_option linter.unusedSimpArgs false
namespace Go.Proofs.YtplkpodikhfcdaaDoor.InM
open Go.Px Go.Ax
open Go.IntKind(i64 u32 u8)
theorem oc0 (w:Int):octV w 0=w / 16777216 % 256:=by
 unfold octV;rw[show (2:Int) ^ (24-8*(0:Int)).toNat=16777216 from by decide]
theorem oc1 (w:Int):octV w 1=w / 65536 % 256:=by
 unfold octV;rw[show (2:Int) ^ (24-8*(1:Int)).toNat=65536 from by decide]
theorem oc2 (w:Int):octV w 2=w / 256 % 256:=by
 unfold octV;rw[show (2:Int) ^ (24-8*(2:Int)).toNat=256 from by decide]
theorem oc3 (w:Int):octV w 3=w % 256:=by
 unfold octV;rw[show (2:Int) ^ (24-8*(3:Int)).toNat=1 from by decide,Int.ediv_one]
theorem lw0 (w:Int):lowV w 0=0:=by
 unfold lowV;rw[show (2:Int) ^ (32-(0:Int)).toNat=4294967296 from by decide];omega
theorem lw16 (w:Int):lowV w 16=w % 65536:=by
 unfold lowV;rw[show (2:Int) ^ (32-(16:Int)).toNat=65536 from by decide];omega
theorem lw24 (w:Int):lowV w 24=w % 16777216:=by
 unfold lowV;rw[show (2:Int) ^ (32-(24:Int)).toNat=256 from by decide];omega
theorem lw32 (w:Int):lowV w 32=w % 4294967296:=by
 unfold lowV;rw[show (2:Int) ^ (32-(32:Int)).toNat=1 from by decide];omega
theorem ls16 (w:Int):qkj w 16=sgn (w % 65536) 65536:=by
 unfold qkj;rw[show (2:Int) ^ (32-(16:Int)).toNat=65536 from by decide,IntKind.wrap_i32];unfold sgn;split <;> omega
theorem ls24 (w:Int):qkj w 24=sgn (w % 16777216) 16777216:=by
 unfold qkj;rw[show (2:Int) ^ (32-(24:Int)).toNat=256 from by decide,IntKind.wrap_i32];unfold sgn;split <;> omega
theorem opV_opS (w:Int):opV w=opS (w / 16777216 % 256) (w / 65536 % 256) (w / 256 % 256) (w % 256):=by
 unfold opV badR;rw[oc0,oc1,oc2,oc3];generalize hb0:w / 16777216 % 256=b0;generalize w / 65536 % 256=b1;generalize w / 256 % 256=b2;generalize w % 256=b3;have h0:0<=b0:=by omega
 unfold opS;by_cases h9:9<=b0
 ·rw[if_pos h9,if_pos h9]
 ·rw[if_neg h9,if_neg h9];clear hb0;rcases nine b0 h0 (by omega) with rfl | rfl | rfl | rfl | rfl | rfl | rfl | rfl | rfl <;> simp[regs] <;> (repeat' split) <;> omega
theorem key (w t:Int):∀ o,opV w=o->decN w t=[o,rg w (regs o) 0,rg w (regs o) 1,rg w (regs o) 2,numN w t (kd o).2.2.1 (kd o).2.2.2.1 (kd o).2.2.2.2]:=by
 rintro _ rfl;rfl
def toL (x:I5):List Int:=[x.o,x.a,x.b,x.c,x.n]
theorem rg3 (w:Int):rg w 3 0=octV w 1/\rg w 3 1=octV w 2/\rg w 3 2=octV w 3:=⟨by unfold rg;rw[if_pos (by decide)];rfl,by unfold rg;rw[if_pos (by decide)];rfl,by unfold rg;rw[if_pos (by decide)];rfl⟩
theorem rg1 (w:Int):rg w 1 0=octV w 1/\rg w 1 1=0/\rg w 1 2=0:=⟨by unfold rg;rw[if_pos (by decide)];rfl,by unfold rg;rw[if_neg (by decide)],by unfold rg;rw[if_neg (by decide)]⟩
theorem rg0 (w:Int):rg w 0 0=0/\rg w 0 1=0/\rg w 0 2=0:=⟨by unfold rg;rw[if_neg (by decide)],by unfold rg;rw[if_neg (by decide)],by unfold rg;rw[if_neg (by decide)]⟩
theorem decN_eq {w:Int} (h0:0<=w) (h1:w<4294967296) (t:Int):decN w t=toL (decI w t):=by
 have k:=key w t _ rfl;rw[k,opV_opS];unfold decI;have hc:=opC (b0:=w / 16777216 % 256) (b1:=w / 65536 % 256) (b2:=w / 256 % 256) (b3:=w % 256) (by omega);generalize opS (w / 16777216 % 256) (w / 65536 % 256) (w / 256 % 256) (w % 256)=o at hc;have h15:o=0\/o=1\/o=2\/o=3\/o=4\/o=5\/o=6\/o=7\/o=8:=by
  cases hc <;> omega
 clear hc k;rcases h15 with rfl | rfl | rfl | rfl | rfl | rfl | rfl | rfl | rfl
 ·rw[show regs 0=0 from by decide,(rg0 w).1,(rg0 w).2.1,(rg0 w).2.2]
  show [0,0,0,0,lowV w 32]=[0,0,0,0,w]
  rw[lw32,Int.emod_eq_of_lt h0 h1]
 ·rw[show regs 1=3 from by decide,(rg3 w).1,(rg3 w).2.1,(rg3 w).2.2,oc1,oc2,oc3]
  show [1,_,_,_,lowV w 0]=[1,_,_,_,0]
  rw[lw0];rfl
 ·rw[show regs 2=1 from by decide,(rg1 w).1,(rg1 w).2.1,(rg1 w).2.2,oc1]
  show [2,_,0,0,lowV w 16]=[2,_,0,0,w % 65536]
  rw[lw16];rfl
 ·rw[show regs 3=3 from by decide,(rg3 w).1,(rg3 w).2.1,(rg3 w).2.2,oc1,oc2,oc3]
  show [3,_,_,_,lowV w 0]=[3,_,_,_,0]
  rw[lw0];rfl
 ·rw[show regs 4=3 from by decide,(rg3 w).1,(rg3 w).2.1,(rg3 w).2.2,oc1,oc2,oc3]
  show [4,_,_,_,lowV w 0]=[4,_,_,_,0]
  rw[lw0];rfl
 ·rw[show regs 5=0 from by decide,(rg0 w).1,(rg0 w).2.1,(rg0 w).2.2]
  show [5,0,0,0,t+4*qkj w 24]=[5,0,0,0,t+4*sgn (w % 16777216) 16777216]
  rw[ls24]
 ·rw[show regs 6=0 from by decide,(rg0 w).1,(rg0 w).2.1,(rg0 w).2.2]
  show [6,0,0,0,t+4*qkj w 24]=[6,0,0,0,t+4*sgn (w % 16777216) 16777216]
  rw[ls24]
 ·rw[show regs 7=1 from by decide,(rg1 w).1,(rg1 w).2.1,(rg1 w).2.2,oc1]
  show [7,_,0,0,t+4*qkj w 16]=[7,_,0,0,t+4*sgn (w % 65536) 65536]
  rw[ls16];rfl
 ·rw[show regs 8=1 from by decide,(rg1 w).1,(rg1 w).2.1,(rg1 w).2.2,oc1]
  show [8,_,0,0,t+4*lowV w 16]=[8,_,0,0,t+4*(w % 65536)]
  rw[lw16];rfl
theorem OkI.bounds {x:I5} {t:Int} (h:OkI t x) (ht:0<=t/\t<=65540):(0<=x.a/\x.a<=15)/\(0<=x.b/\x.b<=15)/\(0<=x.c/\x.c<=15) /\ -5000000000<=x.n/\x.n<=5000000000:=by
 cases h <;> simp only <;> omega
theorem q6j (a b:Int):bitI .or .u32 a b=orW .u32 a b:=rfl
theorem sh24:min (Int.toNat 24) u32.bits=24:=rfl
theorem sh16:min (Int.toNat 16) u32.bits=16:=rfl
theorem sh8:min (Int.toNat 8) u32.bits=8:=rfl
theorem asmV_asm {x:I5} {t:Int} (h:OkI t x) (ht:0<=t/\t<=65540):asmV x.o x.a x.b x.c x.n t=asm x t:=by
 have hb:=h.bounds ht;have ho:=h.o_range;unfold asmV asm;simp only[q6j];rw[sh24,sh16,sh8];have e1:∀ z:Int,0<=z->z<=15->u8.wrap z=z:=fun z a b=>IntWalk.u8_in _ (by omega)
 have e2:∀ z:Int,0<=z->z<4294967296->u32.wrap z=z:=fun z a b=>IntWalk.u32_in _ (by omega)
 rw[e1 _ hb.1.1 hb.1.2,e1 _ hb.2.1.1 hb.2.1.2,e1 _ hb.2.2.1.1 hb.2.2.1.2];rw[e2 x.o (by omega) (by omega),e2 x.a (by omega) (by omega),e2 x.b (by omega) (by omega),e2 x.c (by omega) (by omega)];rw[show (2:Int) ^ 24=16777216 from by decide,show (2:Int) ^ 16=65536 from by decide,show (2:Int) ^ 8=256 from by decide];rw[e2 (x.o*16777216) (by omega) (by omega),e2 (x.a*65536) (by omega) (by omega),e2 (x.b*256) (by omega) (by omega)];rw[Int.emod_eq_of_lt (a:=x.a) (b:=256) (by omega) (by omega),Int.emod_eq_of_lt (a:=x.b) (b:=256) (by omega) (by omega),Int.emod_eq_of_lt (a:=x.c) (b:=256) (by omega) (by omega)];have el:u32.wrap (lowV (u32.wrap (numW x.o x.n t)) (kd x.o).2.2.1)=asmL x.o x.n t:=by
  have hn:=hb.2.2.2;generalize x.n=n at hn;generalize x.o=o at ho;have hi:i64.wrap (n-t)=n-t:=IntWalk.i64_in _ (by omega);have h15:o=0\/o=1\/o=2\/o=3\/o=4\/o=5\/o=6\/o=7\/o=8:=by omega
  rcases h15 with rfl | rfl | rfl | rfl | rfl | rfl | rfl | rfl | rfl
  ·show u32.wrap (lowV (u32.wrap n) 32)=n % 4294967296
   rw[lw32,qbp,qbp];omega
  ·show u32.wrap (lowV (u32.wrap n) 0)=0
   rw[lw0,qbp];rfl
  ·show u32.wrap (lowV (u32.wrap n) 16)=n % 4294967296 % 65536
   rw[lw16,qbp,qbp];omega
  ·show u32.wrap (lowV (u32.wrap n) 0)=0
   rw[lw0,qbp];rfl
  ·show u32.wrap (lowV (u32.wrap n) 0)=0
   rw[lw0,qbp];rfl
  ·show u32.wrap (lowV (u32.wrap ((n-t).tdiv 4)) 24)=(i64.wrap (n-t)).tdiv 4 % 4294967296 % 16777216
   rw[hi,lw24,qbp,qbp];omega
  ·show u32.wrap (lowV (u32.wrap ((n-t).tdiv 4)) 24)=(i64.wrap (n-t)).tdiv 4 % 4294967296 % 16777216
   rw[hi,lw24,qbp,qbp];omega
  ·show u32.wrap (lowV (u32.wrap ((n-t).tdiv 4)) 16)=(i64.wrap (n-t)).tdiv 4 % 4294967296 % 65536
   rw[hi,lw16,qbp,qbp];omega
  ·show u32.wrap (lowV (u32.wrap ((n-t).tdiv 4)) 16)=(i64.wrap (n-t)).tdiv 4 % 4294967296 % 65536
   rw[hi,lw16,qbp,qbp];omega
 rw[el]
end Go.Proofs.YtplkpodikhfcdaaDoor.InM
namespace Go.Proofs.YtplkpodikhfcdaaDoor
open Go.Px Go.Ax
set_option maxRecDepth 100000
theorem q76 {k:Nat} (hk:k=16\/k=24) {p:Nat} (hp:p<65536) (x:BitVec 32):((x &&& ~~~(BitVec.ofNat 32 (2 ^ k-1))) ||| BitVec.ofNat 32 p) &&& BitVec.ofNat 32 (2 ^ k-1)=BitVec.ofNat 32 p:=by
 apply BitVec.eq_of_getLsbD_eq;intro i hi;rw[BitVec.getLsbD_and,BitVec.getLsbD_or,BitVec.getLsbD_and,BitVec.getLsbD_not,qxf k i hi];by_cases h:i<k
 ·rw[decide_eq_true h];simp
 ·rw[decide_eq_false h,q27 hp (by omega)];simp
theorem top_k {k:Nat} (hk:k=16\/k=24) {p:Nat} (hp:p<65536) (x:BitVec 32):((x &&& ~~~(BitVec.ofNat 32 (2 ^ k-1))) ||| BitVec.ofNat 32 p) >>> k=x >>> k:=by
 apply BitVec.eq_of_getLsbD_eq;intro i hi;rw[BitVec.getLsbD_ushiftRight,BitVec.getLsbD_ushiftRight,BitVec.getLsbD_or,BitVec.getLsbD_and,BitVec.getLsbD_not,q27 hp (by omega)];by_cases h:k+i<32
 ·rw[qxf k _ h,decide_eq_true h,decide_eq_false (show ¬ k+i<k by omega)];simp
 ·rw[BitVec.getLsbD_of_ge x _ (by omega)];simp
theorem q3h {w:Int} (hw:0<=w/\w<4294967296) {k:Nat} (hk:k=16\/k=24) {p:Nat} (hp:p<65536) :
  bitI .or .u32 (bitI .andNot .u32 w ((2 ^ k-1:Nat):Int)) (IntKind.u32.wrap (p:Int))=w / ((2 ^ k:Nat):Int)*((2 ^ k:Nat):Int)+p /\
  bitI .and .u32 (bitI .or .u32 (bitI .andNot .u32 w ((2 ^ k-1:Nat):Int)) (IntKind.u32.wrap (p:Int))) ((2 ^ k-1:Nat):Int)=p:=by
 obtain ⟨n,rfl⟩:=Int.eq_ofNat_of_zero_le hw.1;have hn:n<2 ^ 32:=by omega
 have h2k:2 ^ k-1<2 ^ 32:=by rcases hk with rfl | rfl <;> decide
 have ek:((2 ^ k-1:Nat):Int)=((BitVec.ofNat 32 (2 ^ k-1)).toNat:Int):=by rw[BitVec.toNat_ofNat,Nat.mod_eq_of_lt h2k]
 have ew:((n:Nat):Int)=((BitVec.ofNat 32 n).toNat:Int):=by rw[BitVec.toNat_ofNat,Nat.mod_eq_of_lt hn]
 have ep:IntKind.u32.wrap (p:Int)=((BitVec.ofNat 32 p).toNat:Int):=by rw[IntWalk.u32_in _ (by omega),BitVec.toNat_ofNat,Nat.mod_eq_of_lt (by omega)]
 have ep2:((BitVec.ofNat 32 p).toNat:Int)=(p:Int):=by rw[BitVec.toNat_ofNat,Nat.mod_eq_of_lt (by omega)]
 rw[ep,ek,ew,qu9,q8t,q6i,q76 hk hp];refine ⟨?_,ep2⟩;have h1:=congrArg BitVec.toNat (top_k hk hp (BitVec.ofNat 32 n));have h2:=congrArg BitVec.toNat (q76 hk hp (BitVec.ofNat 32 n));rw[BitVec.toNat_ushiftRight,BitVec.toNat_ushiftRight,Nat.shiftRight_eq_div_pow,Nat.shiftRight_eq_div_pow] at h1;rw[BitVec.toNat_and,BitVec.toNat_ofNat,Nat.mod_eq_of_lt h2k,Nat.and_two_pow_sub_one_eq_mod,BitVec.toNat_ofNat,Nat.mod_eq_of_lt (show p<2 ^ 32 by omega)] at h2;generalize ((BitVec.ofNat 32 n &&& ~~~(BitVec.ofNat 32 (2 ^ k-1))) ||| BitVec.ofNat 32 p).toNat=a at *;generalize (BitVec.ofNat 32 n).toNat=b at *;rcases hk with rfl | rfl
 ·show (a:Int)=(b:Int) / 65536*65536+p
  have h1:a / 65536=b / 65536:=h1;have h2:a % 65536=p:=h2;omega
 ·show (a:Int)=(b:Int) / 16777216*16777216+p
  have h1:a / 16777216=b / 16777216:=h1;have h2:a % 16777216=p:=h2;omega
theorem qpl {w:Int} (hw:0<=w/\w<4294967296) (h:5<=opV w/\opV w<=8):((opV w=5\/opV w=6)/\w / 16777216=opV w)\/((opV w=7\/opV w=8)/\w / 16777216=opV w/\w / 65536 % 256<=15):=by
 rw[InM.opV_opS] at *;have hc:=InM.opC (b0:=w / 16777216 % 256) (b1:=w / 65536 % 256) (b2:=w / 256 % 256) (b3:=w % 256) (by omega);generalize InM.opS (w / 16777216 % 256) (w / 65536 % 256) (w / 256 % 256) (w % 256)=o at *
 cases hc with
 | data h2=>omega
 | regs ho e _ _ _=>omega
 | set e _=>omega
 | jump ho e=>exact .inl ⟨ho,by omega⟩
 | branch e h1=>exact .inr ⟨.inl rfl,by omega,h1⟩
 | pool e h1=>exact .inr ⟨.inr rfl,by omega,h1⟩
end Go.Proofs.YtplkpodikhfcdaaDoor
namespace Go.Proofs.YtplkpodikhfcdaaDoor
open Go.Px Go.Ax
set_option maxRecDepth 100000
theorem q07 {w:Int} (hw:0<=w/\w<4294967296) (h:5<=opV w/\opV w<=8) (t:Int):InM.form (InM.decI w t) t=w:=by
 have hc:=qpl hw h;rw[InM.opV_opS] at hc;unfold InM.decI;generalize InM.opS (w / 16777216 % 256) (w / 65536 % 256) (w / 256 % 256) (w % 256)=o at *;rcases hc with ⟨rfl | rfl,e⟩ | ⟨rfl | rfl,e,e1⟩
 ·show (t+4*InM.sgn (w % 16777216) 16777216-t) / 4 % 16777216+5*16777216=w
  unfold InM.sgn;split <;> omega
 ·show (t+4*InM.sgn (w % 16777216) 16777216-t) / 4 % 16777216+6*16777216=w
  unfold InM.sgn;split <;> omega
 ·show (t+4*InM.sgn (w % 65536) 65536-t) / 4 % 65536+(7*16777216+w / 65536 % 256*65536)=w
  unfold InM.sgn;split <;> omega
 ·show (t+4*(w % 65536)-t) / 4 % 65536+(8*16777216+w / 65536 % 256*65536)=w
  omega
theorem q6a {w:Int} (hw:0<=w/\w<4294967296) (h:5<=opV w/\opV w<=8) {t:Int} (ht:0<=t/\t<=65540) :
  encB (opV w) (rg w (regs (opV w)) 0) (rg w (regs (opV w)) 1) (rg w (regs (opV w)) 2) (decT w t).2.2.2.2 t=true /\
  asmV (opV w) (rg w (regs (opV w)) 0) (rg w (regs (opV w)) 1) (rg w (regs (opV w)) 2) (decT w t).2.2.2.2 t=w:=by
 have hd:=InM.decN_eq hw.1 hw.2 t;have hk:=InM.ok_dec hw.1 hw.2 t;have hf:=q07 hw h t;generalize InM.decI w t=X at *;have hd2:[opV w,rg w (regs (opV w)) 0,rg w (regs (opV w)) 1,rg w (regs (opV w)) 2,(decT w t).2.2.2.2]=[X.o,X.a,X.b,X.c,X.n]:=hd;have ho:=hk.o_range;simp only[List.cons.injEq,and_true] at hd2;obtain ⟨e1,e2,e3,e4,e5⟩:=hd2;rw[e1] at e2 e3 e4 |-;rw[e2,e3,e4,e5];have ea:asmV X.o X.a X.b X.c X.n t=w:=by rw[InM.asmV_asm hk ht,InM.asm_form hk,hf]
 refine ⟨?_,ea⟩;unfold encB;rw[ea,hd,decide_eq_true ho.1,decide_eq_true (show X.o<9 by omega)]
 show (true&&(true&&decide (InM.toL X=[X.o,X.a,X.b,X.c,X.n])))=true
 rw[decide_eq_true (show InM.toL X=[X.o,X.a,X.b,X.c,X.n] from rfl)];rfl
theorem qp1 {w:Int} (hw:0<=w/\w<4294967296) (h:5<=opV w/\opV w<=8) {p:Nat} (hp:p<65536) {x:Int} (hx:x=bitI .or .u32 (bitI .andNot .u32 w (dbV (opV w))) (IntKind.u32.wrap (p:Int))) :
  opV x=opV w/\lix x=p/\∀ j,0<=j->rg x (regs (opV w)) j=rg w (regs (opV w)) j:=by
 rcases qpl hw h with ⟨ho,e⟩ | ⟨ho,e,e1⟩
 ·have hd:dbV (opV w)=((2 ^ 24-1:Nat):Int):=by
   rcases ho with q | q <;> rw[q] <;> decide
  rw[hd] at hx;obtain ⟨b1,b2⟩:=q3h hw (.inr rfl) hp;rw[<- hx] at b1 b2;have b1:x=w / 16777216*16777216+p:=b1;have eo:opV x=opV w:=by
   rw[InM.opV_opS x];have ex:x / 16777216 % 256=opV w:=by rw[e] at b1;omega
   rw[ex];rcases ho with q | q <;> rw[q] <;> rfl
  refine ⟨eo,?_,fun j hj=>?_⟩
  ·unfold lix;rw[eo,hd];exact b2
  ·have r0:regs (opV w)=0:=by rcases ho with q | q <;> rw[q] <;> decide
   unfold rg;rw[r0,if_neg (by omega),if_neg (by omega)]
 ·have hd:dbV (opV w)=((2 ^ 16-1:Nat):Int):=by
   rcases ho with q | q <;> rw[q] <;> decide
  rw[hd] at hx;obtain ⟨b1,b2⟩:=q3h hw (.inl rfl) hp;rw[<- hx] at b1 b2;have b1:x=w / 65536*65536+p:=b1;have ex1:x / 65536 % 256=w / 65536 % 256:=by omega
  have eo:opV x=opV w:=by
   rw[InM.opV_opS x];have ex:x / 16777216 % 256=opV w:=by omega
   rw[ex,ex1];unfold InM.opS;rcases ho with q | q <;> rw[q] <;> simp[e1]
  refine ⟨eo,?_,fun j hj=>?_⟩
  ·unfold lix;rw[eo,hd];exact b2
  ·have r0:regs (opV w)=1:=by rcases ho with q | q <;> rw[q] <;> decide
   unfold rg;rw[r0];split
   ·obtain rfl:j=0:=by omega
    show octV x 1=octV w 1
    rw[InM.oc1,InM.oc1,ex1]
   ·rfl
theorem qxp {w:Int} (hw:0<=w/\w<4294967296) (h:5<=opV w/\opV w<=8) {t:Int} (ht:0<=t/\t<=65540) {l:List Int} {p:Nat} (hp:p<l.length) (hp2:p<65536) (hl:gtI l p=(decT w t).2.2.2.2) :
  lkV (bitI .or .u32 (bitI .andNot .u32 w (dbV (opV w))) (IntKind.u32.wrap (p:Int))) t l=(w,0):=by
 obtain ⟨e1,e2,e3⟩:=qp1 hw h hp2 rfl;generalize bitI .or .u32 (bitI .andNot .u32 w (dbV (opV w))) (IntKind.u32.wrap (p:Int))=x at *;have hc:¬ lkC x l:=by
  unfold lkC;rw[e1,e2];rintro (q | q)
  ·exact ((qot _).2 h) q
  ·omega
 obtain ⟨c1,c2⟩:=q6a hw h ht;unfold lkV;rw[if_neg hc];unfold lkN;rw[e1,e2,e3 0 (by decide),e3 1 (by decide),e3 2 (by decide),Int.toNat_natCast,hl];unfold encW encE;rw[if_pos c1,if_pos c1,c2]
theorem q5m {ws:List Int} (hr:∀ w∈ws,0<=w/\w<4294967296) (hn:ws.length<=16384) (hl:(qbl ws).length<=65536):loV (lfV ws).1 (lfV ws).2 (qbl ws)=(ws,0):=by
 obtain ⟨f1,f2,f3⟩:=qna ws;have key:∀ (f i:Nat) (o:List Int),ws.length-i=f->i<=ws.length->o.length=ws.length->(∀ j,j<i->gtW o j=gtW ws j)->(∀ j,i<=j->gtW o j=gtW (lfV ws).1 j)->loF (lfV ws).2 (qbl ws) f i o=(ws,0):=by
  intro f
  induction f with
  | zero=>
   intro i o hf hi ho h1 h2;have:o=ws:=List.ext_getElem ho fun j a b=>by
    have:=h1 j (by omega);rw[qcl a,qcl b] at this;exact this
   rw[loF,this]
  | succ f ih=>
   intro i o hf hi ho h1 h2;have hlt:i<ws.length:=by omega
   obtain ⟨m1,m2,m3⟩:=f3 i hlt;have hw:=hr _ (List.getElem_mem hlt);have ei:=h2 i (Nat.le_refl _);rw[loF,m1];split
   ·rename_i hk;obtain ⟨m4,p,hp,g1,g2⟩:=m3 hk;have hop:5<=opV ws[i]/\opV ws[i]<=8:=by
     unfold isLk at hk;rw[Bool.and_eq_true,decide_eq_true_iff,qot] at hk;exact hk.1
    have hx:gtW o i=bitI .or .u32 (bitI .andNot .u32 ws[i] (dbV (opV ws[i]))) (IntKind.u32.wrap (p:Int)):=by
     rw[ei,m4];unfold lfW;rw[qcl hlt,g2];rfl
    have lb:=qxp hw hop (t:=4*(i:Int)) (by omega) hp (by omega) g1;rw[hx,lb,if_neg (fun q=>q rfl)];refine ih (i+1) (o.set i ws[i]) (by omega) (by omega) (by rw[List.length_set];exact ho) (fun j hj=>?_) (fun j hj=>?_)
    ·rw[qj7 (by omega)];split
     ·rename_i q;rw[q,qcl hlt]
     ·exact h1 j (by omega)
    ·rw[qj7 (by omega),if_neg (by omega)];exact h2 j (by omega)
   ·rename_i hk;have hk:isLk ws.length ws[i] i=false:=by simpa using hk
    refine ih (i+1) o (by omega) (by omega) ho (fun j hj=>?_) (fun j hj=>h2 j (by omega));by_cases q:j=i
    ·rw[q,ei,m2 hk,qcl hlt]
    ·exact h1 j (by omega)
 unfold loV;rw[if_neg (by omega),f2];exact key ws.length 0 (lfV ws).1 rfl (Nat.zero_le _) f1 (fun j hj=>by omega) (fun j _=>rfl)
end Go.Proofs.YtplkpodikhfcdaaDoor
namespace Go.Proofs.YtplkpodikhfcdaaDoor
open Go.Px Go.Ax
open Go.IntKind(i64 u32 u8)
set_option maxRecDepth 100000
abbrev a2S:Sh:=.arr 2 uB
noncomputable def CT9:CV:=[(11,.inl ctSanL),(12,.inl ctCod),(15,.inl ctMoved),(21,.inl ct_r2),(24,.inl ctWo),(25,.inl ctDec)]
theorem cxT9:CxOK Tryd.prog tt G0 CT9:=(((((cx0.cons qtv (fn:=Tryd.f25) rfl rfl rfl).cons qi7 (fn:=Tryd.f24) rfl rfl rfl).cons qwl (fn:=Tryd.f21) rfl rfl rfl).cons qte (fn:=Tryd.f15) rfl rfl rfl).cons q1o (fn:=Tryd.f12) rfl rfl rfl).cons qxd (fn:=Tryd.f11) rfl rfl rfl
set_option maxRecDepth 100000
theorem q2k (nw:List Int) (a y i:Nat) (Q:QT) (R:RT):sy tt G0 CT9 Tryd.f9.ntmps Tryd.f9.results.toList Q (fun it S=>R it (qbe [5,7,8,15,21] [] S)) 1000 (hd Tryd.f9 1) ⟨[(5,.bool true),(7,.int .i64 (a:Nat)),(8,.int .i64 (y:Nat)),(15,.sl u4 nw),(21,.int .i64 (i:Nat))],[]⟩ =
  (bc (decide ((i:Int)<i64.wrap ((a:Int)+(y:Int)))) ((0:Int)<=(i:Int) /\
 (i:Int)<(nw.length:Int) /\
 bc (decide (gtW nw (i:Int).toNat≠0)) (Q [.bool false] []) (R (hd Tryd.f9 1) { env:=[(5,.bool true),(7,.int .i64 (a:Int)),(8,.int .i64 (y:Int)),(15,.sl u4 nw),(21,.int .i64 (i64.wrap ((i:Int)+1)))],blk:=[] })) (Q [.bool true] [])):=by kernel_rfl
def qm6 (od nw:List Int) (y i:Nat):List (Nat × LB):=[(19,.var [.int .i64 (opV (gtW od (i:Int).toNat)),.int .i64 (rg (gtW od (i:Int).toNat) (regs (opV (gtW od (i:Int).toNat))) (0:Int)),.int .i64 (rg (gtW od (i:Int).toNat) (regs (opV (gtW od (i:Int).toNat))) (1:Int)),.int .i64 (rg (gtW od (i:Int).toNat) (regs (opV (gtW od (i:Int).toNat))) (2:Int)),.int .i64 (i64.wrap (numN (gtW od (i:Int).toNat) (i64.wrap ((4:Int)*(i:Int))) (kd (opV (gtW od (i:Int).toNat))).2.2.1 (kd (opV (gtW od (i:Int).toNat))).2.2.2.1 (kd (opV (gtW od (i:Int).toNat))).2.2.2.2+i64.wrap ((4:Int)*i64.wrap (i64.wrap ((i:Int)+(y:Int))-(i:Int)))))]),(20,.var [.int .i64 (opV (gtW nw (i64.wrap ((i:Int)+(y:Int))).toNat)),.int .i64 (rg (gtW nw (i64.wrap ((i:Int)+(y:Int))).toNat) (regs (opV (gtW nw (i64.wrap ((i:Int)+(y:Int))).toNat))) (0:Int)),.int .i64 (rg (gtW nw (i64.wrap ((i:Int)+(y:Int))).toNat) (regs (opV (gtW nw (i64.wrap ((i:Int)+(y:Int))).toNat))) (1:Int)),.int .i64 (rg (gtW nw (i64.wrap ((i:Int)+(y:Int))).toNat) (regs (opV (gtW nw (i64.wrap ((i:Int)+(y:Int))).toNat))) (2:Int)),.int .i64 (numN (gtW nw (i64.wrap ((i:Int)+(y:Int))).toNat) (i64.wrap ((4:Int)*i64.wrap ((i:Int)+(y:Int)))) (kd (opV (gtW nw (i64.wrap ((i:Int)+(y:Int))).toNat))).2.2.1 (kd (opV (gtW nw (i64.wrap ((i:Int)+(y:Int))).toNat))).2.2.2.1 (kd (opV (gtW nw (i64.wrap ((i:Int)+(y:Int))).toNat))).2.2.2.2)])]
def qjl (od nw:List Int) (y i:Nat):List (Nat × LB):=[(19,.var [.int .i64 (opV (gtW od (i:Int).toNat)),.int .i64 (rg (gtW od (i:Int).toNat) (regs (opV (gtW od (i:Int).toNat))) (0:Int)),.int .i64 (rg (gtW od (i:Int).toNat) (regs (opV (gtW od (i:Int).toNat))) (1:Int)),.int .i64 (rg (gtW od (i:Int).toNat) (regs (opV (gtW od (i:Int).toNat))) (2:Int)),.int .i64 (numN (gtW od (i:Int).toNat) (i64.wrap ((4:Int)*(i:Int))) (kd (opV (gtW od (i:Int).toNat))).2.2.1 (kd (opV (gtW od (i:Int).toNat))).2.2.2.1 (kd (opV (gtW od (i:Int).toNat))).2.2.2.2)]),(20,.var [.int .i64 (opV (gtW nw (i64.wrap ((i:Int)+(y:Int))).toNat)),.int .i64 (rg (gtW nw (i64.wrap ((i:Int)+(y:Int))).toNat) (regs (opV (gtW nw (i64.wrap ((i:Int)+(y:Int))).toNat))) (0:Int)),.int .i64 (rg (gtW nw (i64.wrap ((i:Int)+(y:Int))).toNat) (regs (opV (gtW nw (i64.wrap ((i:Int)+(y:Int))).toNat))) (1:Int)),.int .i64 (rg (gtW nw (i64.wrap ((i:Int)+(y:Int))).toNat) (regs (opV (gtW nw (i64.wrap ((i:Int)+(y:Int))).toNat))) (2:Int)),.int .i64 (numN (gtW nw (i64.wrap ((i:Int)+(y:Int))).toNat) (i64.wrap ((4:Int)*i64.wrap ((i:Int)+(y:Int)))) (kd (opV (gtW nw (i64.wrap ((i:Int)+(y:Int))).toNat))).2.2.1 (kd (opV (gtW nw (i64.wrap ((i:Int)+(y:Int))).toNat))).2.2.2.1 (kd (opV (gtW nw (i64.wrap ((i:Int)+(y:Int))).toNat))).2.2.2.2)])]
def qm5 (od nw:List Int) (i:Nat):List (Nat × LB):=[(19,.var [.int .i64 (opV (gtW od (i:Int).toNat)),.int .i64 (rg (gtW od (i:Int).toNat) (regs (opV (gtW od (i:Int).toNat))) (0:Int)),.int .i64 (rg (gtW od (i:Int).toNat) (regs (opV (gtW od (i:Int).toNat))) (1:Int)),.int .i64 (rg (gtW od (i:Int).toNat) (regs (opV (gtW od (i:Int).toNat))) (2:Int)),.int .i64 (i64.wrap (numN (gtW od (i:Int).toNat) (i64.wrap ((4:Int)*(i:Int))) (kd (opV (gtW od (i:Int).toNat))).2.2.1 (kd (opV (gtW od (i:Int).toNat))).2.2.2.1 (kd (opV (gtW od (i:Int).toNat))).2.2.2.2+i64.wrap ((4:Int)*i64.wrap ((i:Int)-(i:Int)))))]),(20,.var [.int .i64 (opV (gtW nw (i:Int).toNat)),.int .i64 (rg (gtW nw (i:Int).toNat) (regs (opV (gtW nw (i:Int).toNat))) (0:Int)),.int .i64 (rg (gtW nw (i:Int).toNat) (regs (opV (gtW nw (i:Int).toNat))) (1:Int)),.int .i64 (rg (gtW nw (i:Int).toNat) (regs (opV (gtW nw (i:Int).toNat))) (2:Int)),.int .i64 (numN (gtW nw (i:Int).toNat) (i64.wrap ((4:Int)*(i:Int))) (kd (opV (gtW nw (i:Int).toNat))).2.2.1 (kd (opV (gtW nw (i:Int).toNat))).2.2.2.1 (kd (opV (gtW nw (i:Int).toNat))).2.2.2.2)])]
def qjk (od nw:List Int) (i:Nat):List (Nat × LB):=[(19,.var [.int .i64 (opV (gtW od (i:Int).toNat)),.int .i64 (rg (gtW od (i:Int).toNat) (regs (opV (gtW od (i:Int).toNat))) (0:Int)),.int .i64 (rg (gtW od (i:Int).toNat) (regs (opV (gtW od (i:Int).toNat))) (1:Int)),.int .i64 (rg (gtW od (i:Int).toNat) (regs (opV (gtW od (i:Int).toNat))) (2:Int)),.int .i64 (numN (gtW od (i:Int).toNat) (i64.wrap ((4:Int)*(i:Int))) (kd (opV (gtW od (i:Int).toNat))).2.2.1 (kd (opV (gtW od (i:Int).toNat))).2.2.2.1 (kd (opV (gtW od (i:Int).toNat))).2.2.2.2)]),(20,.var [.int .i64 (opV (gtW nw (i:Int).toNat)),.int .i64 (rg (gtW nw (i:Int).toNat) (regs (opV (gtW nw (i:Int).toNat))) (0:Int)),.int .i64 (rg (gtW nw (i:Int).toNat) (regs (opV (gtW nw (i:Int).toNat))) (1:Int)),.int .i64 (rg (gtW nw (i:Int).toNat) (regs (opV (gtW nw (i:Int).toNat))) (2:Int)),.int .i64 (numN (gtW nw (i:Int).toNat) (i64.wrap ((4:Int)*(i:Int))) (kd (opV (gtW nw (i:Int).toNat))).2.2.1 (kd (opV (gtW nw (i:Int).toNat))).2.2.2.1 (kd (opV (gtW nw (i:Int).toNat))).2.2.2.2)])]
theorem q2l (b od nw:List Int) (a y i:Nat) (Q:QT) (R:RT):sy tt G0 CT9 Tryd.f9.ntmps Tryd.f9.results.toList Q (fun it S=>R it (qbe [5,6,7,8,13,15,17,21] [] S)) 1000 (hd Tryd.f9 0) ⟨[(5,.bool true),(6,.sl uB b),(7,.int .i64 (a:Nat)),(8,.int .i64 (y:Nat)),(13,.sl u4 od),(15,.sl u4 nw),(17,.int .i64 (i:Nat))],[]⟩ =
  (bc (decide ((i:Int)<(od.length:Int))) (bc (decide ((a:Int)<=(i:Int))) ((0:Int)<=(i:Int) /\
 (i:Int)<(od.length:Int) /\
 ctDec.pre (gtW od (i:Int).toNat,i64.wrap ((4:Int)*(i:Int)),()) /\
 (0:Int)<=i64.wrap ((i:Int)+(y:Int)) /\
 i64.wrap ((i:Int)+(y:Int))<(nw.length:Int) /\
 ctDec.pre (gtW nw (i64.wrap ((i:Int)+(y:Int))).toNat,i64.wrap ((4:Int)*i64.wrap ((i:Int)+(y:Int))),()) /\
 bc (decide ((5:Int)<=opV (gtW od (i:Int).toNat))) (bc (decide (opV (gtW od (i:Int).toNat)<=8)) (bc (decide ((0:Int)<=numN (gtW od (i:Int).toNat) (i64.wrap ((4:Int)*(i:Int))) (kd (opV (gtW od (i:Int).toNat))).2.2.1 (kd (opV (gtW od (i:Int).toNat))).2.2.2.1 (kd (opV (gtW od (i:Int).toNat))).2.2.2.2)) (bc (decide (numN (gtW od (i:Int).toNat) (i64.wrap ((4:Int)*(i:Int))) (kd (opV (gtW od (i:Int).toNat))).2.2.1 (kd (opV (gtW od (i:Int).toNat))).2.2.2.1 (kd (opV (gtW od (i:Int).toNat))).2.2.2.2<(b.length:Int))) (bc (decide (i64.wrap ((4:Int)*(a:Int))<=numN (gtW od (i:Int).toNat) (i64.wrap ((4:Int)*(i:Int))) (kd (opV (gtW od (i:Int).toNat))).2.2.1 (kd (opV (gtW od (i:Int).toNat))).2.2.2.1 (kd (opV (gtW od (i:Int).toNat))).2.2.2.2)) (bc (!decide ([opV (gtW od (i:Int).toNat),rg (gtW od (i:Int).toNat) (regs (opV (gtW od (i:Int).toNat))) (0:Int),rg (gtW od (i:Int).toNat) (regs (opV (gtW od (i:Int).toNat))) (1:Int),rg (gtW od (i:Int).toNat) (regs (opV (gtW od (i:Int).toNat))) (2:Int),i64.wrap (numN (gtW od (i:Int).toNat) (i64.wrap ((4:Int)*(i:Int))) (kd (opV (gtW od (i:Int).toNat))).2.2.1 (kd (opV (gtW od (i:Int).toNat))).2.2.2.1 (kd (opV (gtW od (i:Int).toNat))).2.2.2.2+i64.wrap ((4:Int)*(y:Int)))]=[opV (gtW nw (i64.wrap ((i:Int)+(y:Int))).toNat),rg (gtW nw (i64.wrap ((i:Int)+(y:Int))).toNat) (regs (opV (gtW nw (i64.wrap ((i:Int)+(y:Int))).toNat))) (0:Int),rg (gtW nw (i64.wrap ((i:Int)+(y:Int))).toNat) (regs (opV (gtW nw (i64.wrap ((i:Int)+(y:Int))).toNat))) (1:Int),rg (gtW nw (i64.wrap ((i:Int)+(y:Int))).toNat) (regs (opV (gtW nw (i64.wrap ((i:Int)+(y:Int))).toNat))) (2:Int),numN (gtW nw (i64.wrap ((i:Int)+(y:Int))).toNat) (i64.wrap ((4:Int)*i64.wrap ((i:Int)+(y:Int)))) (kd (opV (gtW nw (i64.wrap ((i:Int)+(y:Int))).toNat))).2.2.1 (kd (opV (gtW nw (i64.wrap ((i:Int)+(y:Int))).toNat))).2.2.2.1 (kd (opV (gtW nw (i64.wrap ((i:Int)+(y:Int))).toNat))).2.2.2.2])) (Q [.bool false] [(19,.var [.int .i64 (opV (gtW od (i:Int).toNat)),.int .i64 (rg (gtW od (i:Int).toNat) (regs (opV (gtW od (i:Int).toNat))) (0:Int)),.int .i64 (rg (gtW od (i:Int).toNat) (regs (opV (gtW od (i:Int).toNat))) (1:Int)),.int .i64 (rg (gtW od (i:Int).toNat) (regs (opV (gtW od (i:Int).toNat))) (2:Int)),.int .i64 (i64.wrap (numN (gtW od (i:Int).toNat) (i64.wrap ((4:Int)*(i:Int))) (kd (opV (gtW od (i:Int).toNat))).2.2.1 (kd (opV (gtW od (i:Int).toNat))).2.2.2.1 (kd (opV (gtW od (i:Int).toNat))).2.2.2.2+i64.wrap ((4:Int)*(y:Int))))]),(20,.var [.int .i64 (opV (gtW nw (i64.wrap ((i:Int)+(y:Int))).toNat)),.int .i64 (rg (gtW nw (i64.wrap ((i:Int)+(y:Int))).toNat) (regs (opV (gtW nw (i64.wrap ((i:Int)+(y:Int))).toNat))) (0:Int)),.int .i64 (rg (gtW nw (i64.wrap ((i:Int)+(y:Int))).toNat) (regs (opV (gtW nw (i64.wrap ((i:Int)+(y:Int))).toNat))) (1:Int)),.int .i64 (rg (gtW nw (i64.wrap ((i:Int)+(y:Int))).toNat) (regs (opV (gtW nw (i64.wrap ((i:Int)+(y:Int))).toNat))) (2:Int)),.int .i64 (numN (gtW nw (i64.wrap ((i:Int)+(y:Int))).toNat) (i64.wrap ((4:Int)*i64.wrap ((i:Int)+(y:Int)))) (kd (opV (gtW nw (i64.wrap ((i:Int)+(y:Int))).toNat))).2.2.1 (kd (opV (gtW nw (i64.wrap ((i:Int)+(y:Int))).toNat))).2.2.2.1 (kd (opV (gtW nw (i64.wrap ((i:Int)+(y:Int))).toNat))).2.2.2.2)])]) (R (hd Tryd.f9 0) { env:=[(5,.bool true),(6,.sl uB b),(7,.int .i64 (a:Int)),(8,.int .i64 (y:Int)),(13,.sl u4 od),(15,.sl u4 nw),(17,.int .i64 (i64.wrap ((i:Int)+1)))],blk:=[] })) (bc (!decide ([opV (gtW od (i:Int).toNat),rg (gtW od (i:Int).toNat) (regs (opV (gtW od (i:Int).toNat))) (0:Int),rg (gtW od (i:Int).toNat) (regs (opV (gtW od (i:Int).toNat))) (1:Int),rg (gtW od (i:Int).toNat) (regs (opV (gtW od (i:Int).toNat))) (2:Int),numN (gtW od (i:Int).toNat) (i64.wrap ((4:Int)*(i:Int))) (kd (opV (gtW od (i:Int).toNat))).2.2.1 (kd (opV (gtW od (i:Int).toNat))).2.2.2.1 (kd (opV (gtW od (i:Int).toNat))).2.2.2.2]=[opV (gtW nw (i64.wrap ((i:Int)+(y:Int))).toNat),rg (gtW nw (i64.wrap ((i:Int)+(y:Int))).toNat) (regs (opV (gtW nw (i64.wrap ((i:Int)+(y:Int))).toNat))) (0:Int),rg (gtW nw (i64.wrap ((i:Int)+(y:Int))).toNat) (regs (opV (gtW nw (i64.wrap ((i:Int)+(y:Int))).toNat))) (1:Int),rg (gtW nw (i64.wrap ((i:Int)+(y:Int))).toNat) (regs (opV (gtW nw (i64.wrap ((i:Int)+(y:Int))).toNat))) (2:Int),numN (gtW nw (i64.wrap ((i:Int)+(y:Int))).toNat) (i64.wrap ((4:Int)*i64.wrap ((i:Int)+(y:Int)))) (kd (opV (gtW nw (i64.wrap ((i:Int)+(y:Int))).toNat))).2.2.1 (kd (opV (gtW nw (i64.wrap ((i:Int)+(y:Int))).toNat))).2.2.2.1 (kd (opV (gtW nw (i64.wrap ((i:Int)+(y:Int))).toNat))).2.2.2.2])) (Q [.bool false] (qjl od nw y i)) (R (hd Tryd.f9 0) { env:=[(5,.bool true),(6,.sl uB b),(7,.int .i64 (a:Int)),(8,.int .i64 (y:Int)),(13,.sl u4 od),(15,.sl u4 nw),(17,.int .i64 (i64.wrap ((i:Int)+1)))],blk:=[] }))) (bc (!decide ([opV (gtW od (i:Int).toNat),rg (gtW od (i:Int).toNat) (regs (opV (gtW od (i:Int).toNat))) (0:Int),rg (gtW od (i:Int).toNat) (regs (opV (gtW od (i:Int).toNat))) (1:Int),rg (gtW od (i:Int).toNat) (regs (opV (gtW od (i:Int).toNat))) (2:Int),i64.wrap (numN (gtW od (i:Int).toNat) (i64.wrap ((4:Int)*(i:Int))) (kd (opV (gtW od (i:Int).toNat))).2.2.1 (kd (opV (gtW od (i:Int).toNat))).2.2.2.1 (kd (opV (gtW od (i:Int).toNat))).2.2.2.2+i64.wrap ((4:Int)*i64.wrap (i64.wrap ((i:Int)+(y:Int))-(i:Int))))]=[opV (gtW nw (i64.wrap ((i:Int)+(y:Int))).toNat),rg (gtW nw (i64.wrap ((i:Int)+(y:Int))).toNat) (regs (opV (gtW nw (i64.wrap ((i:Int)+(y:Int))).toNat))) (0:Int),rg (gtW nw (i64.wrap ((i:Int)+(y:Int))).toNat) (regs (opV (gtW nw (i64.wrap ((i:Int)+(y:Int))).toNat))) (1:Int),rg (gtW nw (i64.wrap ((i:Int)+(y:Int))).toNat) (regs (opV (gtW nw (i64.wrap ((i:Int)+(y:Int))).toNat))) (2:Int),numN (gtW nw (i64.wrap ((i:Int)+(y:Int))).toNat) (i64.wrap ((4:Int)*i64.wrap ((i:Int)+(y:Int)))) (kd (opV (gtW nw (i64.wrap ((i:Int)+(y:Int))).toNat))).2.2.1 (kd (opV (gtW nw (i64.wrap ((i:Int)+(y:Int))).toNat))).2.2.2.1 (kd (opV (gtW nw (i64.wrap ((i:Int)+(y:Int))).toNat))).2.2.2.2])) (Q [.bool false] (qm6 od nw y i)) (R (hd Tryd.f9 0) { env:=[(5,.bool true),(6,.sl uB b),(7,.int .i64 (a:Int)),(8,.int .i64 (y:Int)),(13,.sl u4 od),(15,.sl u4 nw),(17,.int .i64 (i64.wrap ((i:Int)+1)))],blk:=[] }))) (false=false /\
 bc (!decide ([opV (gtW od (i:Int).toNat),rg (gtW od (i:Int).toNat) (regs (opV (gtW od (i:Int).toNat))) (0:Int),rg (gtW od (i:Int).toNat) (regs (opV (gtW od (i:Int).toNat))) (1:Int),rg (gtW od (i:Int).toNat) (regs (opV (gtW od (i:Int).toNat))) (2:Int),i64.wrap (numN (gtW od (i:Int).toNat) (i64.wrap ((4:Int)*(i:Int))) (kd (opV (gtW od (i:Int).toNat))).2.2.1 (kd (opV (gtW od (i:Int).toNat))).2.2.2.1 (kd (opV (gtW od (i:Int).toNat))).2.2.2.2+i64.wrap ((4:Int)*i64.wrap (i64.wrap ((i:Int)+(y:Int))-(i:Int))))]=[opV (gtW nw (i64.wrap ((i:Int)+(y:Int))).toNat),rg (gtW nw (i64.wrap ((i:Int)+(y:Int))).toNat) (regs (opV (gtW nw (i64.wrap ((i:Int)+(y:Int))).toNat))) (0:Int),rg (gtW nw (i64.wrap ((i:Int)+(y:Int))).toNat) (regs (opV (gtW nw (i64.wrap ((i:Int)+(y:Int))).toNat))) (1:Int),rg (gtW nw (i64.wrap ((i:Int)+(y:Int))).toNat) (regs (opV (gtW nw (i64.wrap ((i:Int)+(y:Int))).toNat))) (2:Int),numN (gtW nw (i64.wrap ((i:Int)+(y:Int))).toNat) (i64.wrap ((4:Int)*i64.wrap ((i:Int)+(y:Int)))) (kd (opV (gtW nw (i64.wrap ((i:Int)+(y:Int))).toNat))).2.2.1 (kd (opV (gtW nw (i64.wrap ((i:Int)+(y:Int))).toNat))).2.2.2.1 (kd (opV (gtW nw (i64.wrap ((i:Int)+(y:Int))).toNat))).2.2.2.2])) (Q [.bool false] (qm6 od nw y i)) (R (hd Tryd.f9 0) { env:=[(5,.bool true),(6,.sl uB b),(7,.int .i64 (a:Int)),(8,.int .i64 (y:Int)),(13,.sl u4 od),(15,.sl u4 nw),(17,.int .i64 (i64.wrap ((i:Int)+1)))],blk:=[] }))) (bc (!decide ([opV (gtW od (i:Int).toNat),rg (gtW od (i:Int).toNat) (regs (opV (gtW od (i:Int).toNat))) (0:Int),rg (gtW od (i:Int).toNat) (regs (opV (gtW od (i:Int).toNat))) (1:Int),rg (gtW od (i:Int).toNat) (regs (opV (gtW od (i:Int).toNat))) (2:Int),numN (gtW od (i:Int).toNat) (i64.wrap ((4:Int)*(i:Int))) (kd (opV (gtW od (i:Int).toNat))).2.2.1 (kd (opV (gtW od (i:Int).toNat))).2.2.2.1 (kd (opV (gtW od (i:Int).toNat))).2.2.2.2]=[opV (gtW nw (i64.wrap ((i:Int)+(y:Int))).toNat),rg (gtW nw (i64.wrap ((i:Int)+(y:Int))).toNat) (regs (opV (gtW nw (i64.wrap ((i:Int)+(y:Int))).toNat))) (0:Int),rg (gtW nw (i64.wrap ((i:Int)+(y:Int))).toNat) (regs (opV (gtW nw (i64.wrap ((i:Int)+(y:Int))).toNat))) (1:Int),rg (gtW nw (i64.wrap ((i:Int)+(y:Int))).toNat) (regs (opV (gtW nw (i64.wrap ((i:Int)+(y:Int))).toNat))) (2:Int),numN (gtW nw (i64.wrap ((i:Int)+(y:Int))).toNat) (i64.wrap ((4:Int)*i64.wrap ((i:Int)+(y:Int)))) (kd (opV (gtW nw (i64.wrap ((i:Int)+(y:Int))).toNat))).2.2.1 (kd (opV (gtW nw (i64.wrap ((i:Int)+(y:Int))).toNat))).2.2.2.1 (kd (opV (gtW nw (i64.wrap ((i:Int)+(y:Int))).toNat))).2.2.2.2])) (Q [.bool false] (qjl od nw y i)) (R (hd Tryd.f9 0) { env:=[(5,.bool true),(6,.sl uB b),(7,.int .i64 (a:Int)),(8,.int .i64 (y:Int)),(13,.sl u4 od),(15,.sl u4 nw),(17,.int .i64 (i64.wrap ((i:Int)+1)))],blk:=[] }))) (false=false /\
 bc (!decide ([opV (gtW od (i:Int).toNat),rg (gtW od (i:Int).toNat) (regs (opV (gtW od (i:Int).toNat))) (0:Int),rg (gtW od (i:Int).toNat) (regs (opV (gtW od (i:Int).toNat))) (1:Int),rg (gtW od (i:Int).toNat) (regs (opV (gtW od (i:Int).toNat))) (2:Int),numN (gtW od (i:Int).toNat) (i64.wrap ((4:Int)*(i:Int))) (kd (opV (gtW od (i:Int).toNat))).2.2.1 (kd (opV (gtW od (i:Int).toNat))).2.2.2.1 (kd (opV (gtW od (i:Int).toNat))).2.2.2.2]=[opV (gtW nw (i64.wrap ((i:Int)+(y:Int))).toNat),rg (gtW nw (i64.wrap ((i:Int)+(y:Int))).toNat) (regs (opV (gtW nw (i64.wrap ((i:Int)+(y:Int))).toNat))) (0:Int),rg (gtW nw (i64.wrap ((i:Int)+(y:Int))).toNat) (regs (opV (gtW nw (i64.wrap ((i:Int)+(y:Int))).toNat))) (1:Int),rg (gtW nw (i64.wrap ((i:Int)+(y:Int))).toNat) (regs (opV (gtW nw (i64.wrap ((i:Int)+(y:Int))).toNat))) (2:Int),numN (gtW nw (i64.wrap ((i:Int)+(y:Int))).toNat) (i64.wrap ((4:Int)*i64.wrap ((i:Int)+(y:Int)))) (kd (opV (gtW nw (i64.wrap ((i:Int)+(y:Int))).toNat))).2.2.1 (kd (opV (gtW nw (i64.wrap ((i:Int)+(y:Int))).toNat))).2.2.2.1 (kd (opV (gtW nw (i64.wrap ((i:Int)+(y:Int))).toNat))).2.2.2.2])) (Q [.bool false] (qjl od nw y i)) (R (hd Tryd.f9 0) { env:=[(5,.bool true),(6,.sl uB b),(7,.int .i64 (a:Int)),(8,.int .i64 (y:Int)),(13,.sl u4 od),(15,.sl u4 nw),(17,.int .i64 (i64.wrap ((i:Int)+1)))],blk:=[] }))) ((0:Int)<=(i:Int) /\
 (i:Int)<(od.length:Int) /\
 ctDec.pre (gtW od (i:Int).toNat,i64.wrap ((4:Int)*(i:Int)),()) /\
 (0:Int)<=(i:Int) /\
 (i:Int)<(nw.length:Int) /\
 ctDec.pre (gtW nw (i:Int).toNat,i64.wrap ((4:Int)*(i:Int)),()) /\
 bc (decide ((5:Int)<=opV (gtW od (i:Int).toNat))) (bc (decide (opV (gtW od (i:Int).toNat)<=8)) (bc (decide ((0:Int)<=numN (gtW od (i:Int).toNat) (i64.wrap ((4:Int)*(i:Int))) (kd (opV (gtW od (i:Int).toNat))).2.2.1 (kd (opV (gtW od (i:Int).toNat))).2.2.2.1 (kd (opV (gtW od (i:Int).toNat))).2.2.2.2)) (bc (decide (numN (gtW od (i:Int).toNat) (i64.wrap ((4:Int)*(i:Int))) (kd (opV (gtW od (i:Int).toNat))).2.2.1 (kd (opV (gtW od (i:Int).toNat))).2.2.2.1 (kd (opV (gtW od (i:Int).toNat))).2.2.2.2<(b.length:Int))) (bc (decide (i64.wrap ((4:Int)*(a:Int))<=numN (gtW od (i:Int).toNat) (i64.wrap ((4:Int)*(i:Int))) (kd (opV (gtW od (i:Int).toNat))).2.2.1 (kd (opV (gtW od (i:Int).toNat))).2.2.2.1 (kd (opV (gtW od (i:Int).toNat))).2.2.2.2)) (bc (!decide ([opV (gtW od (i:Int).toNat),rg (gtW od (i:Int).toNat) (regs (opV (gtW od (i:Int).toNat))) (0:Int),rg (gtW od (i:Int).toNat) (regs (opV (gtW od (i:Int).toNat))) (1:Int),rg (gtW od (i:Int).toNat) (regs (opV (gtW od (i:Int).toNat))) (2:Int),i64.wrap (numN (gtW od (i:Int).toNat) (i64.wrap ((4:Int)*(i:Int))) (kd (opV (gtW od (i:Int).toNat))).2.2.1 (kd (opV (gtW od (i:Int).toNat))).2.2.2.1 (kd (opV (gtW od (i:Int).toNat))).2.2.2.2+i64.wrap ((4:Int)*(y:Int)))]=[opV (gtW nw (i:Int).toNat),rg (gtW nw (i:Int).toNat) (regs (opV (gtW nw (i:Int).toNat))) (0:Int),rg (gtW nw (i:Int).toNat) (regs (opV (gtW nw (i:Int).toNat))) (1:Int),rg (gtW nw (i:Int).toNat) (regs (opV (gtW nw (i:Int).toNat))) (2:Int),numN (gtW nw (i:Int).toNat) (i64.wrap ((4:Int)*(i:Int))) (kd (opV (gtW nw (i:Int).toNat))).2.2.1 (kd (opV (gtW nw (i:Int).toNat))).2.2.2.1 (kd (opV (gtW nw (i:Int).toNat))).2.2.2.2])) (Q [.bool false] [(19,.var [.int .i64 (opV (gtW od (i:Int).toNat)),.int .i64 (rg (gtW od (i:Int).toNat) (regs (opV (gtW od (i:Int).toNat))) (0:Int)),.int .i64 (rg (gtW od (i:Int).toNat) (regs (opV (gtW od (i:Int).toNat))) (1:Int)),.int .i64 (rg (gtW od (i:Int).toNat) (regs (opV (gtW od (i:Int).toNat))) (2:Int)),.int .i64 (i64.wrap (numN (gtW od (i:Int).toNat) (i64.wrap ((4:Int)*(i:Int))) (kd (opV (gtW od (i:Int).toNat))).2.2.1 (kd (opV (gtW od (i:Int).toNat))).2.2.2.1 (kd (opV (gtW od (i:Int).toNat))).2.2.2.2+i64.wrap ((4:Int)*(y:Int))))]),(20,.var [.int .i64 (opV (gtW nw (i:Int).toNat)),.int .i64 (rg (gtW nw (i:Int).toNat) (regs (opV (gtW nw (i:Int).toNat))) (0:Int)),.int .i64 (rg (gtW nw (i:Int).toNat) (regs (opV (gtW nw (i:Int).toNat))) (1:Int)),.int .i64 (rg (gtW nw (i:Int).toNat) (regs (opV (gtW nw (i:Int).toNat))) (2:Int)),.int .i64 (numN (gtW nw (i:Int).toNat) (i64.wrap ((4:Int)*(i:Int))) (kd (opV (gtW nw (i:Int).toNat))).2.2.1 (kd (opV (gtW nw (i:Int).toNat))).2.2.2.1 (kd (opV (gtW nw (i:Int).toNat))).2.2.2.2)])]) (R (hd Tryd.f9 0) { env:=[(5,.bool true),(6,.sl uB b),(7,.int .i64 (a:Int)),(8,.int .i64 (y:Int)),(13,.sl u4 od),(15,.sl u4 nw),(17,.int .i64 (i64.wrap ((i:Int)+1)))],blk:=[] })) (bc (!decide ([opV (gtW od (i:Int).toNat),rg (gtW od (i:Int).toNat) (regs (opV (gtW od (i:Int).toNat))) (0:Int),rg (gtW od (i:Int).toNat) (regs (opV (gtW od (i:Int).toNat))) (1:Int),rg (gtW od (i:Int).toNat) (regs (opV (gtW od (i:Int).toNat))) (2:Int),numN (gtW od (i:Int).toNat) (i64.wrap ((4:Int)*(i:Int))) (kd (opV (gtW od (i:Int).toNat))).2.2.1 (kd (opV (gtW od (i:Int).toNat))).2.2.2.1 (kd (opV (gtW od (i:Int).toNat))).2.2.2.2]=[opV (gtW nw (i:Int).toNat),rg (gtW nw (i:Int).toNat) (regs (opV (gtW nw (i:Int).toNat))) (0:Int),rg (gtW nw (i:Int).toNat) (regs (opV (gtW nw (i:Int).toNat))) (1:Int),rg (gtW nw (i:Int).toNat) (regs (opV (gtW nw (i:Int).toNat))) (2:Int),numN (gtW nw (i:Int).toNat) (i64.wrap ((4:Int)*(i:Int))) (kd (opV (gtW nw (i:Int).toNat))).2.2.1 (kd (opV (gtW nw (i:Int).toNat))).2.2.2.1 (kd (opV (gtW nw (i:Int).toNat))).2.2.2.2])) (Q [.bool false] (qjk od nw i)) (R (hd Tryd.f9 0) { env:=[(5,.bool true),(6,.sl uB b),(7,.int .i64 (a:Int)),(8,.int .i64 (y:Int)),(13,.sl u4 od),(15,.sl u4 nw),(17,.int .i64 (i64.wrap ((i:Int)+1)))],blk:=[] }))) (bc (!decide ([opV (gtW od (i:Int).toNat),rg (gtW od (i:Int).toNat) (regs (opV (gtW od (i:Int).toNat))) (0:Int),rg (gtW od (i:Int).toNat) (regs (opV (gtW od (i:Int).toNat))) (1:Int),rg (gtW od (i:Int).toNat) (regs (opV (gtW od (i:Int).toNat))) (2:Int),i64.wrap (numN (gtW od (i:Int).toNat) (i64.wrap ((4:Int)*(i:Int))) (kd (opV (gtW od (i:Int).toNat))).2.2.1 (kd (opV (gtW od (i:Int).toNat))).2.2.2.1 (kd (opV (gtW od (i:Int).toNat))).2.2.2.2+i64.wrap ((4:Int)*i64.wrap ((i:Int)-(i:Int))))]=[opV (gtW nw (i:Int).toNat),rg (gtW nw (i:Int).toNat) (regs (opV (gtW nw (i:Int).toNat))) (0:Int),rg (gtW nw (i:Int).toNat) (regs (opV (gtW nw (i:Int).toNat))) (1:Int),rg (gtW nw (i:Int).toNat) (regs (opV (gtW nw (i:Int).toNat))) (2:Int),numN (gtW nw (i:Int).toNat) (i64.wrap ((4:Int)*(i:Int))) (kd (opV (gtW nw (i:Int).toNat))).2.2.1 (kd (opV (gtW nw (i:Int).toNat))).2.2.2.1 (kd (opV (gtW nw (i:Int).toNat))).2.2.2.2])) (Q [.bool false] (qm5 od nw i)) (R (hd Tryd.f9 0) { env:=[(5,.bool true),(6,.sl uB b),(7,.int .i64 (a:Int)),(8,.int .i64 (y:Int)),(13,.sl u4 od),(15,.sl u4 nw),(17,.int .i64 (i64.wrap ((i:Int)+1)))],blk:=[] }))) (false=false /\
 bc (!decide ([opV (gtW od (i:Int).toNat),rg (gtW od (i:Int).toNat) (regs (opV (gtW od (i:Int).toNat))) (0:Int),rg (gtW od (i:Int).toNat) (regs (opV (gtW od (i:Int).toNat))) (1:Int),rg (gtW od (i:Int).toNat) (regs (opV (gtW od (i:Int).toNat))) (2:Int),i64.wrap (numN (gtW od (i:Int).toNat) (i64.wrap ((4:Int)*(i:Int))) (kd (opV (gtW od (i:Int).toNat))).2.2.1 (kd (opV (gtW od (i:Int).toNat))).2.2.2.1 (kd (opV (gtW od (i:Int).toNat))).2.2.2.2+i64.wrap ((4:Int)*i64.wrap ((i:Int)-(i:Int))))]=[opV (gtW nw (i:Int).toNat),rg (gtW nw (i:Int).toNat) (regs (opV (gtW nw (i:Int).toNat))) (0:Int),rg (gtW nw (i:Int).toNat) (regs (opV (gtW nw (i:Int).toNat))) (1:Int),rg (gtW nw (i:Int).toNat) (regs (opV (gtW nw (i:Int).toNat))) (2:Int),numN (gtW nw (i:Int).toNat) (i64.wrap ((4:Int)*(i:Int))) (kd (opV (gtW nw (i:Int).toNat))).2.2.1 (kd (opV (gtW nw (i:Int).toNat))).2.2.2.1 (kd (opV (gtW nw (i:Int).toNat))).2.2.2.2])) (Q [.bool false] (qm5 od nw i)) (R (hd Tryd.f9 0) { env:=[(5,.bool true),(6,.sl uB b),(7,.int .i64 (a:Int)),(8,.int .i64 (y:Int)),(13,.sl u4 od),(15,.sl u4 nw),(17,.int .i64 (i64.wrap ((i:Int)+1)))],blk:=[] }))) (bc (!decide ([opV (gtW od (i:Int).toNat),rg (gtW od (i:Int).toNat) (regs (opV (gtW od (i:Int).toNat))) (0:Int),rg (gtW od (i:Int).toNat) (regs (opV (gtW od (i:Int).toNat))) (1:Int),rg (gtW od (i:Int).toNat) (regs (opV (gtW od (i:Int).toNat))) (2:Int),numN (gtW od (i:Int).toNat) (i64.wrap ((4:Int)*(i:Int))) (kd (opV (gtW od (i:Int).toNat))).2.2.1 (kd (opV (gtW od (i:Int).toNat))).2.2.2.1 (kd (opV (gtW od (i:Int).toNat))).2.2.2.2]=[opV (gtW nw (i:Int).toNat),rg (gtW nw (i:Int).toNat) (regs (opV (gtW nw (i:Int).toNat))) (0:Int),rg (gtW nw (i:Int).toNat) (regs (opV (gtW nw (i:Int).toNat))) (1:Int),rg (gtW nw (i:Int).toNat) (regs (opV (gtW nw (i:Int).toNat))) (2:Int),numN (gtW nw (i:Int).toNat) (i64.wrap ((4:Int)*(i:Int))) (kd (opV (gtW nw (i:Int).toNat))).2.2.1 (kd (opV (gtW nw (i:Int).toNat))).2.2.2.1 (kd (opV (gtW nw (i:Int).toNat))).2.2.2.2])) (Q [.bool false] (qjk od nw i)) (R (hd Tryd.f9 0) { env:=[(5,.bool true),(6,.sl uB b),(7,.int .i64 (a:Int)),(8,.int .i64 (y:Int)),(13,.sl u4 od),(15,.sl u4 nw),(17,.int .i64 (i64.wrap ((i:Int)+1)))],blk:=[] }))) (false=false /\
 bc (!decide ([opV (gtW od (i:Int).toNat),rg (gtW od (i:Int).toNat) (regs (opV (gtW od (i:Int).toNat))) (0:Int),rg (gtW od (i:Int).toNat) (regs (opV (gtW od (i:Int).toNat))) (1:Int),rg (gtW od (i:Int).toNat) (regs (opV (gtW od (i:Int).toNat))) (2:Int),numN (gtW od (i:Int).toNat) (i64.wrap ((4:Int)*(i:Int))) (kd (opV (gtW od (i:Int).toNat))).2.2.1 (kd (opV (gtW od (i:Int).toNat))).2.2.2.1 (kd (opV (gtW od (i:Int).toNat))).2.2.2.2]=[opV (gtW nw (i:Int).toNat),rg (gtW nw (i:Int).toNat) (regs (opV (gtW nw (i:Int).toNat))) (0:Int),rg (gtW nw (i:Int).toNat) (regs (opV (gtW nw (i:Int).toNat))) (1:Int),rg (gtW nw (i:Int).toNat) (regs (opV (gtW nw (i:Int).toNat))) (2:Int),numN (gtW nw (i:Int).toNat) (i64.wrap ((4:Int)*(i:Int))) (kd (opV (gtW nw (i:Int).toNat))).2.2.1 (kd (opV (gtW nw (i:Int).toNat))).2.2.2.1 (kd (opV (gtW nw (i:Int).toNat))).2.2.2.2])) (Q [.bool false] (qjk od nw i)) (R (hd Tryd.f9 0) { env:=[(5,.bool true),(6,.sl uB b),(7,.int .i64 (a:Int)),(8,.int .i64 (y:Int)),(13,.sl u4 od),(15,.sl u4 nw),(17,.int .i64 (i64.wrap ((i:Int)+1)))],blk:=[] })))) (R (hd Tryd.f9 1) { env:=[(5,.bool true),(6,.sl uB b),(7,.int .i64 (a:Int)),(8,.int .i64 (y:Int)),(13,.sl u4 od),(15,.sl u4 nw),(17,.int .i64 (i:Int)),(21,.int .i64 (a:Int))],blk:=[] })):=by kernel_rfl
noncomputable def qjj (l:List (List Int)) (w:List Int):List (Nat × LB):=[(3,.var [.arr (2:Nat) uB w]),(1098304,.row 5 uB (bytL (codW l (12:Int)))),(1167936,.row 5 uB (qas (winL uB 0 (bytL (codW l (12:Int))).length (bytL (codW l (12:Int)))) ((i64.wrap (gtB w (0))).tmod (i64.wrap (i64.wrap ((↑(bytL (codW l (12:Int))).length:Int).tdiv (4:Int))+(1:Int)))) ((i64.wrap (gtB w (1))).tmod (10:Int))).1),(1192512,.row 5 uB (qas (winL uB 0 (bytL (codW l (12:Int))).length (bytL (codW l (12:Int)))) ((i64.wrap (gtB w (0))).tmod (i64.wrap (i64.wrap ((↑(bytL (codW l (12:Int))).length:Int).tdiv (4:Int))+(1:Int)))) (0:Int)).1),(1258048,.row 53 u4 (qae (winL uB 0 (bytL (codW l (12:Int))).length (bytL (codW l (12:Int))))).1),(1278528,.row 53 u4 (qae (winL uB 0 (qas (winL uB 0 (bytL (codW l (12:Int))).length (bytL (codW l (12:Int)))) ((i64.wrap (gtB w (0))).tmod (i64.wrap (i64.wrap ((↑(bytL (codW l (12:Int))).length:Int).tdiv (4:Int))+(1:Int)))) ((i64.wrap (gtB w (1))).tmod (10:Int))).1.length (qas (winL uB 0 (bytL (codW l (12:Int))).length (bytL (codW l (12:Int)))) ((i64.wrap (gtB w (0))).tmod (i64.wrap (i64.wrap ((↑(bytL (codW l (12:Int))).length:Int).tdiv (4:Int))+(1:Int)))) ((i64.wrap (gtB w (1))).tmod (10:Int))).1)).1)]
noncomputable def qji (l:List (List Int)) (w:List Int):List (Nat × LB):=[(3,.var [.arr (2:Nat) uB w]),(1098304,.row 5 uB (bytL (codW l (12:Int)))),(1167936,.row 5 uB (qas (winL uB 0 (bytL (codW l (12:Int))).length (bytL (codW l (12:Int)))) ((i64.wrap (gtB w (0))).tmod (i64.wrap (i64.wrap ((↑(bytL (codW l (12:Int))).length:Int).tdiv (4:Int))+(1:Int)))) ((i64.wrap (gtB w (1))).tmod (10:Int))).1),(1192512,.row 5 uB (qas (winL uB 0 (bytL (codW l (12:Int))).length (bytL (codW l (12:Int)))) ((i64.wrap (gtB w (0))).tmod (i64.wrap (i64.wrap ((↑(bytL (codW l (12:Int))).length:Int).tdiv (4:Int))+(1:Int)))) (0:Int)).1)]
theorem q62 (l:List (List Int)) (w:List Int) (Q:QT) (R:RT):sy tt G0 CT9 Tryd.f9.ntmps Tryd.f9.results.toList Q (fun it S=>R it (qbe [5,6,7,8,13,15,17] [1098304,1258048,1278528] S)) 1000 [.code (qah Tryd.f9)] (entry [.sl a4S,a2S] (l,w,())) =
  (ctSanL.pre () /\
 ctCod.pre (l,(12:Int),()) /\
 (0:Int)<=0 /\
 (0:Int)<(↑(2:Nat):Int) /\
 0<2 /\
 (4:Int)≠0 /\
 i64.wrap (i64.wrap ((↑(bytL (codW l (12:Int))).length:Int).tdiv (4:Int))+1)≠0 /\
 (0:Int)<=1 /\
 (1:Int)<(↑(2:Nat):Int) /\
 1<2 /\
 (10:Int)≠0 /\
 (0:Nat)+(bytL (codW l (12:Int))).length<=(bytL (codW l (12:Int))).length /\
 ctMoved.pre (winL uB 0 (bytL (codW l (12:Int))).length (bytL (codW l (12:Int))),(i64.wrap (gtB w (0))).tmod (i64.wrap (i64.wrap ((↑(bytL (codW l (12:Int))).length:Int).tdiv (4:Int))+1)),(i64.wrap (gtB w (1))).tmod (10:Int),()) /\
 (0:Nat)+(bytL (codW l (12:Int))).length<=(bytL (codW l (12:Int))).length /\
 ctMoved.pre (winL uB 0 (bytL (codW l (12:Int))).length (bytL (codW l (12:Int))),(i64.wrap (gtB w (0))).tmod (i64.wrap (i64.wrap ((↑(bytL (codW l (12:Int))).length:Int).tdiv (4:Int))+1)),(0:Int),()) /\
 bc (decide ((qas (winL uB 0 (bytL (codW l (12:Int))).length (bytL (codW l (12:Int)))) ((i64.wrap (gtB w (0))).tmod (i64.wrap (i64.wrap ((↑(bytL (codW l (12:Int))).length:Int).tdiv (4:Int))+1))) (0:Int)).2≠0)) (true=true /\
 Q [.bool false] (qji l w)) ((0:Nat)+(qas (winL uB 0 (bytL (codW l (12:Int))).length (bytL (codW l (12:Int)))) ((i64.wrap (gtB w (0))).tmod (i64.wrap (i64.wrap ((↑(bytL (codW l (12:Int))).length:Int).tdiv (4:Int))+1))) (0:Int)).1.length<=(qas (winL uB 0 (bytL (codW l (12:Int))).length (bytL (codW l (12:Int)))) ((i64.wrap (gtB w (0))).tmod (i64.wrap (i64.wrap ((↑(bytL (codW l (12:Int))).length:Int).tdiv (4:Int))+1))) (0:Int)).1.length /\
 (0:Nat)+(bytL (codW l (12:Int))).length<=(bytL (codW l (12:Int))).length /\
 ct_r2.pre (winL uB 0 (qas (winL uB 0 (bytL (codW l (12:Int))).length (bytL (codW l (12:Int)))) ((i64.wrap (gtB w (0))).tmod (i64.wrap (i64.wrap ((↑(bytL (codW l (12:Int))).length:Int).tdiv (4:Int))+1))) (0:Int)).1.length (qas (winL uB 0 (bytL (codW l (12:Int))).length (bytL (codW l (12:Int)))) ((i64.wrap (gtB w (0))).tmod (i64.wrap (i64.wrap ((↑(bytL (codW l (12:Int))).length:Int).tdiv (4:Int))+1))) (0:Int)).1,winL uB 0 (bytL (codW l (12:Int))).length (bytL (codW l (12:Int))),()) /\
 bc (bif false then true else !decide ((have this:=winL uB 0 (qas (winL uB 0 (bytL (codW l (12:Int))).length (bytL (codW l (12:Int)))) ((i64.wrap (gtB w (0))).tmod (i64.wrap (i64.wrap ((↑(bytL (codW l (12:Int))).length:Int).tdiv (4:Int))+1))) (0:Int)).1.length (qas (winL uB 0 (bytL (codW l (12:Int))).length (bytL (codW l (12:Int)))) ((i64.wrap (gtB w (0))).tmod (i64.wrap (i64.wrap ((↑(bytL (codW l (12:Int))).length:Int).tdiv (4:Int))+1))) (0:Int)).1;this)=winL uB 0 (bytL (codW l (12:Int))).length (bytL (codW l (12:Int))))) (Q [.bool false] (qji l w)) (bc (decide ((qas (winL uB 0 (bytL (codW l (12:Int))).length (bytL (codW l (12:Int)))) ((i64.wrap (gtB w (0))).tmod (i64.wrap (i64.wrap ((↑(bytL (codW l (12:Int))).length:Int).tdiv (4:Int))+1))) ((i64.wrap (gtB w (1))).tmod (10:Int))).2≠0)) (Q [.bool true] (qji l w)) ((0:Nat)+(bytL (codW l (12:Int))).length<=(bytL (codW l (12:Int))).length /\
 ctWo.pre (winL uB 0 (bytL (codW l (12:Int))).length (bytL (codW l (12:Int))),()) /\
 (0:Nat)+(qas (winL uB 0 (bytL (codW l (12:Int))).length (bytL (codW l (12:Int)))) ((i64.wrap (gtB w (0))).tmod (i64.wrap (i64.wrap ((↑(bytL (codW l (12:Int))).length:Int).tdiv (4:Int))+1))) ((i64.wrap (gtB w (1))).tmod (10:Int))).1.length<=(qas (winL uB 0 (bytL (codW l (12:Int))).length (bytL (codW l (12:Int)))) ((i64.wrap (gtB w (0))).tmod (i64.wrap (i64.wrap ((↑(bytL (codW l (12:Int))).length:Int).tdiv (4:Int))+1))) ((i64.wrap (gtB w (1))).tmod (10:Int))).1.length /\
 ctWo.pre (winL uB 0 (qas (winL uB 0 (bytL (codW l (12:Int))).length (bytL (codW l (12:Int)))) ((i64.wrap (gtB w (0))).tmod (i64.wrap (i64.wrap ((↑(bytL (codW l (12:Int))).length:Int).tdiv (4:Int))+1))) ((i64.wrap (gtB w (1))).tmod (10:Int))).1.length (qas (winL uB 0 (bytL (codW l (12:Int))).length (bytL (codW l (12:Int)))) ((i64.wrap (gtB w (0))).tmod (i64.wrap (i64.wrap ((↑(bytL (codW l (12:Int))).length:Int).tdiv (4:Int))+1))) ((i64.wrap (gtB w (1))).tmod (10:Int))).1,()) /\
 bc (decide ((qae (winL uB 0 (bytL (codW l (12:Int))).length (bytL (codW l (12:Int))))).2≠0)) (true=true /\
 true=true /\
 Q [.bool false] (qjj l w)) (bc (bif false then true else decide ((qae (winL uB 0 (qas (winL uB 0 (bytL (codW l (12:Int))).length (bytL (codW l (12:Int)))) ((i64.wrap (gtB w (0))).tmod (i64.wrap (i64.wrap ((↑(bytL (codW l (12:Int))).length:Int).tdiv (4:Int))+1))) ((i64.wrap (gtB w (1))).tmod (10:Int))).1.length (qas (winL uB 0 (bytL (codW l (12:Int))).length (bytL (codW l (12:Int)))) ((i64.wrap (gtB w (0))).tmod (i64.wrap (i64.wrap ((↑(bytL (codW l (12:Int))).length:Int).tdiv (4:Int))+1))) ((i64.wrap (gtB w (1))).tmod (10:Int))).1)).2≠0)) (true=true /\
 Q [.bool false] (qjj l w)) (bc (bif false then true else decide ((↑(qae (winL uB 0 (qas (winL uB 0 (bytL (codW l (12:Int))).length (bytL (codW l (12:Int)))) ((i64.wrap (gtB w (0))).tmod (i64.wrap (i64.wrap ((↑(bytL (codW l (12:Int))).length:Int).tdiv (4:Int))+1))) ((i64.wrap (gtB w (1))).tmod (10:Int))).1.length (qas (winL uB 0 (bytL (codW l (12:Int))).length (bytL (codW l (12:Int)))) ((i64.wrap (gtB w (0))).tmod (i64.wrap (i64.wrap ((↑(bytL (codW l (12:Int))).length:Int).tdiv (4:Int))+1))) ((i64.wrap (gtB w (1))).tmod (10:Int))).1)).1.length:Int)≠i64.wrap ((↑(qae (winL uB 0 (bytL (codW l (12:Int))).length (bytL (codW l (12:Int))))).1.length:Int)+(i64.wrap (gtB w (1))).tmod (10:Int)))) (Q [.bool false] (qjj l w)) (R (hd Tryd.f9 0) { env:=[(5,.bool true),(6,.win true uB 1098304 0 (bytL (codW l (12:Int))).length),(7,.int .i64 ((i64.wrap (gtB w (0))).tmod (i64.wrap (i64.wrap ((↑(bytL (codW l (12:Int))).length:Int).tdiv (4:Int))+1)))),(8,.int .i64 ((i64.wrap (gtB w (1))).tmod (10:Int))),(13,.win true u4 1258048 0 (qae (winL uB 0 (bytL (codW l (12:Int))).length (bytL (codW l (12:Int))))).1.length),(15,.win true u4 1278528 0 (qae (winL uB 0 (qas (winL uB 0 (bytL (codW l (12:Int))).length (bytL (codW l (12:Int)))) ((i64.wrap (gtB w (0))).tmod (i64.wrap (i64.wrap ((↑(bytL (codW l (12:Int))).length:Int).tdiv (4:Int))+1))) ((i64.wrap (gtB w (1))).tmod (10:Int))).1.length (qas (winL uB 0 (bytL (codW l (12:Int))).length (bytL (codW l (12:Int)))) ((i64.wrap (gtB w (0))).tmod (i64.wrap (i64.wrap ((↑(bytL (codW l (12:Int))).length:Int).tdiv (4:Int))+1))) ((i64.wrap (gtB w (1))).tmod (10:Int))).1)).1.length),(17,.int .i64 0)],blk:=[(1098304,.row 5 uB (bytL (codW l (12:Int)))),(1258048,.row 53 u4 (qae (winL uB 0 (bytL (codW l (12:Int))).length (bytL (codW l (12:Int))))).1),(1278528,.row 53 u4 (qae (winL uB 0 (qas (winL uB 0 (bytL (codW l (12:Int))).length (bytL (codW l (12:Int)))) ((i64.wrap (gtB w (0))).tmod (i64.wrap (i64.wrap ((↑(bytL (codW l (12:Int))).length:Int).tdiv (4:Int))+1))) ((i64.wrap (gtB w (1))).tmod (10:Int))).1.length (qas (winL uB 0 (bytL (codW l (12:Int))).length (bytL (codW l (12:Int)))) ((i64.wrap (gtB w (0))).tmod (i64.wrap (i64.wrap ((↑(bytL (codW l (12:Int))).length:Int).tdiv (4:Int))+1))) ((i64.wrap (gtB w (1))).tmod (10:Int))).1)).1)] }))))))):=by kernel_rfl
end Go.Proofs.YtplkpodikhfcdaaDoor
namespace Go.Proofs.YtplkpodikhfcdaaDoor
open Go.Px Go.Ax
set_option maxRecDepth 100000
theorem q8s {a b c d:Int} (ha:u8R a) (hb:u8R b) (hc:u8R c) (hd:u8R d):by4 (wd a b c d)=[a,b,c,d]:=by
 unfold u8R at ha hb hc hd
 show [IntKind.u8.wrap (Int.fdiv (wd a b c d) 16777216),IntKind.u8.wrap (Int.fdiv (wd a b c d) 65536),IntKind.u8.wrap (Int.fdiv (wd a b c d) 256),IntKind.u8.wrap (wd a b c d)]=_
 rw[u8w,u8w,u8w,u8w,Int.fdiv_eq_ediv_of_nonneg _ (by decide),Int.fdiv_eq_ediv_of_nonneg _ (by decide),Int.fdiv_eq_ediv_of_nonneg _ (by decide)];unfold wd
 congr 1
 ·omega
 ·congr 1
  ·omega
  ·congr 1
   ·omega
   ·congr 1
    omega
theorem qme:∀ (k:Nat) (b:List Int),b.length=4*k->(∀ x∈b,0<=x/\x<256)->qat (qbz k b)=b
 | 0,b,h,_=>by rw[List.eq_nil_of_length_eq_zero (by omega:b.length=0)];rfl
 | k+1,x0::x1::x2::x3::b,h,hu=>by
  have e:qbz (k+1) (x0::x1::x2::x3::b)=wd x0 x1 x2 x3::qbz k b:=rfl;have h4:∀ x∈[x0,x1,x2,x3],u8R x:=fun x hx=>hu x (List.mem_append_left b hx:x∈[x0,x1,x2,x3]++b)
  rw[e]
  show by4 _++qat (qbz k b)=_
  rw[q8s (h4 _ (by simp)) (h4 _ (by simp)) (h4 _ (by simp)) (h4 _ (by simp)),qme k b (by simp at h;omega) (fun x hx=>hu x (by simp[hx]))];rfl
 | k+1,[],h,_=>by simp at h
 | k+1,[_],h,_=>by simp at h;omega
 | k+1,[_,_],h,_=>by simp at h;omega
 | k+1,[_,_,_],h,_=>by simp at h;omega
theorem q2p {α:Type} (l:List α) (a:Nat) (z:α):putF l a 0 z=l:=by
 unfold putF;rw[List.replicate_zero,List.append_nil,List.take_append_drop]
theorem qwp {α:Type} {l:List α} {a b i:Nat} {z:α} (ha:a<=l.length):(putF l a b z)[if i<a then i else i+b]?=l[i]?:=by
 unfold putF;split
 ·rw[List.getElem?_append_left (by simp;omega),List.getElem?_append_left (by simp;omega),List.getElem?_take,if_pos (by omega)]
 ·rw[List.getElem?_append_right (by simp;omega),List.getElem?_drop]
  congr 1
  simp;omega
theorem qly (m:List Bool) (lab:List Int):∀ (f i:Nat) (o:List Int),i+f<=o.length->(loF m lab f i o).2=0->∀ j,j<i->gtW (loF m lab f i o).1 j=gtW o j
 | 0,_,_,_,_,_,_=>rfl
 | f+1,i,o,hi,h,j,hj=>by
  rw[loF] at h |-;split
  ·rename_i hm;rw[if_pos hm] at h;split
   ·rename_i h2;rw[if_pos h2] at h;exact absurd h h2
   ·rename_i h2;rw[if_neg h2] at h;rw[qly m lab f (i+1) _ (by rw[List.length_set];omega) h j (by omega),qj7 (by omega),if_neg (by omega)]
  ·rename_i hm;rw[if_neg hm] at h;exact qly m lab f (i+1) o (by omega) h j (by omega)
theorem qjn (m:List Bool) (lab:List Int):∀ (f i:Nat) (o:List Int),i+f<=o.length->(loF m lab f i o).2=0->∀ j,i<=j->j<i+f->gtM m j=true ->
  (lkV (gtW o j) (4*(j:Int)) lab).2=0/\gtW (loF m lab f i o).1 j=(lkV (gtW o j) (4*(j:Int)) lab).1
 | 0,_,_,_,_,_,h1,h2,_=>by omega
 | f+1,i,o,hi,h,j,hj,hj2,hm=>by
  rw[loF] at h |-;by_cases q:j=i
  ·subst q;rw[if_pos hm] at h |-;by_cases h2:(lkV (gtW o j) (4*(j:Int)) lab).2≠0
   ·rw[if_pos h2] at h;exact absurd h h2
   ·rw[if_neg h2] at h |-;refine ⟨Decidable.not_not.1 h2,?_⟩;rw[qly m lab f (j+1) _ (by rw[List.length_set];omega) h j (by omega),qj7 (by omega),if_pos rfl]
  ·split
   ·rename_i hm2;rw[if_pos hm2] at h;split
    ·rename_i h2;rw[if_pos h2] at h;exact absurd h h2
    ·rename_i h2;rw[if_neg h2] at h;have:=qjn m lab f (i+1) _ (by rw[List.length_set];omega) h j (by omega) (by omega) hm;rw[qj7 (by omega),if_neg q] at this;exact this
   ·rename_i hm2;rw[if_neg hm2] at h;exact qjn m lab f (i+1) o (by omega) h j (by omega) (by omega) hm
theorem q72 {b:List Int} {n:Nat} (hb:b.length=4*n) (h8:∀ x∈b,0<=x/\x<256) (hn:n<=12) {a:Nat} (ha:a<=n):qas b a 0=(b,0):=by
 obtain ⟨c1,c2,c3,c4⟩:=qsa hb h8 hn;have el:=qti (b:=b) (by omega) c1;obtain ⟨f1,f2,f3⟩:=qna (qae b).1;obtain ⟨g1,g2,g3,g4⟩:=qoi (qae b).1;have hk12:(lnk (qae b).1).length<=(qae b).1.length:=qkv _ _ _;have hx:movX b a 0=qmq (qae b).1:=by
  unfold movX;rw[el,Int.toNat_natCast,IntWalk.i64_in (4*(a:Int)) (by omega),IntWalk.i64_in (4*(0:Int)) (by omega)]
  show (putF (lfV (qae b).1).1 a 0 0,putF (lfV (qae b).1).2 a 0 false,(qbl (qae b).1).map _)=_
  rw[q2p,q2p];have:(qbl (qae b).1).map (mvF (4*(a:Int)) (4*0))=qbl (qae b).1:=by
   refine (List.map_congr_left fun x hx=>?_).trans (List.map_id _);have:=q24 (qae b).1 x hx;rw[q5e (n:=4*((qae b).1.length:Int)) this (by omega) (by omega)];rw[Int.mul_zero,Int.add_zero];split <;> rfl
  rw[this];rfl
 have hok:okM b a 0:=by
  refine ⟨by rw[el],by omega,?_,by omega,?_⟩ <;> rw[el] <;> show _<=_ <;> (try (show (_:Int)<=((lfV (qae b).1).1.length:Int))) <;> (try (show (_:Int)<=16384-((lfV (qae b).1).1.length:Int))) <;> omega
 unfold qas;rw[if_pos hok,hx];have lb:=q5m c3 (by omega) (by omega)
 show qa2 (lfV (qae b).1).1 (lfV (qae b).1).2 (qbl (qae b).1)=_
 unfold qa2;rw[lb,if_neg (by rintro (q | q);exact q rfl;exact q rfl)];have e:(qae b).1=qbz n b:=by
  unfold qae;rw[if_pos (by omega)]
  show qbz (b.length / 4) b=_
  rw[show b.length / 4=n by omega]
 show (qat (qae b).1,(0:Int))=_
 rw[e,qme n b hb h8]
end Go.Proofs.YtplkpodikhfcdaaDoor
namespace Go.Proofs.YtplkpodikhfcdaaDoor
open Go.Px Go.Ax
set_option maxRecDepth 100000
theorem q78 {n:Nat} {w:Int} {i:Nat} (h:5<=opV w/\opV w<=8/\0<=(decT w (4*(i:Int))).2.2.2.2/\(decT w (4*(i:Int))).2.2.2.2<4*n):isLk n w i=true:=by
 unfold isLk;rw[Bool.and_eq_true,Bool.and_eq_true,decide_eq_true_iff,decide_eq_true_iff,decide_eq_true_iff,qot];exact ⟨⟨h.1,h.2.1⟩,h.2.2.1,h.2.2.2⟩
abbrev nwK (ws:List Int) (a y:Nat):List Int × Int:=loV (putF (lfV ws).1 a y 0) (putF (lfV ws).2 a y false) (List.map (mvF (4*(a:Int)) (4*(y:Int))) (qbl ws))
theorem q54 {l:List Int} {a b i:Nat} (ha:a<=l.length):gtW (putF l a b 0) (if i<a then i else i+b)=gtW l i:=by
 show gt u4 _ _=gt u4 _ _
 unfold gt;rw[qwp ha]
theorem q55 {l:List Bool} {a b i:Nat} (ha:a<=l.length):gtM (putF l a b false) (if i<a then i else i+b)=gtM l i:=by
 show gt Sh.bool _ _=gt Sh.bool _ _
 unfold gt;rw[qwp ha]
theorem q57 {f:Int->Int} {l:List Int} {p:Nat} (h:p<l.length):gtI (l.map f) p=f (gtI l p):=by
 rw[qel (by rw[List.length_map];exact h),qel h,List.getElem_map]
theorem q70 (w t u:Int) (o:Int) (h0:0<=o) (h9:o<9):numN w u (kd o).2.2.1 (kd o).2.2.2.1 (kd o).2.2.2.2=if 5<=o/\o<=8 then numN w t (kd o).2.2.1 (kd o).2.2.2.1 (kd o).2.2.2.2+(u-t) else numN w t (kd o).2.2.1 (kd o).2.2.2.1 (kd o).2.2.2.2:=by
 rcases nine o h0 h9 with rfl | rfl | rfl | rfl | rfl | rfl | rfl | rfl | rfl
 ·rw[if_neg (by decide)];rfl
 ·rw[if_neg (by decide)];rfl
 ·rw[if_neg (by decide)];rfl
 ·rw[if_neg (by decide)];rfl
 ·rw[if_neg (by decide)];rfl
 ·rw[if_pos (by decide)]
  show u+4*numV true w 24=t+4*numV true w 24+(u-t)
  omega
 ·rw[if_pos (by decide)]
  show u+4*numV true w 24=t+4*numV true w 24+(u-t)
  omega
 ·rw[if_pos (by decide)]
  show u+4*numV true w 16=t+4*numV true w 16+(u-t)
  omega
 ·rw[if_pos (by decide)]
  show u+4*numV false w 16=t+4*numV false w 16+(u-t)
  omega
abbrev nK (w t:Int):Int:=numN w t (kd (opV w)).2.2.1 (kd (opV w)).2.2.2.1 (kd (opV w)).2.2.2.2
def newN (n a y:Nat) (i:Nat) (w:Int):Int:=
 if 5<=opV w/\opV w<=8 then (if 0<=nK w (4*(i:Int))/\nK w (4*(i:Int))<4*(n:Int) then (if 4*(a:Int)<=nK w (4*(i:Int)) then nK w (4*(i:Int))+4*(y:Int) else nK w (4*(i:Int))) else nK w (4*(i:Int))+4*(((if i<a then i else i+y:Nat):Int)-(i:Int))) else nK w (4*(i:Int))
theorem q5w {ws:List Int} (hr:∀ w∈ws,0<=w/\w<4294967296) (hn:ws.length<=12) {a y:Nat} (ha:a<=ws.length) (hy:y<=9) (h0:(nwK ws a y).2=0) {i:Nat} (hi:i<ws.length) :
  decN (gtW (nwK ws a y).1 (if i<a then i else i+y)) (4*((if i<a then i else i+y:Nat):Int))=[opV ws[i],rg ws[i] (regs (opV ws[i])) 0,rg ws[i] (regs (opV ws[i])) 1,rg ws[i] (regs (opV ws[i])) 2,newN ws.length a y i ws[i]]:=by
 obtain ⟨f1,f2,f3⟩:=qna ws;obtain ⟨g1,g2,g3,g4⟩:=qoi ws;have hk12:(lnk ws).length<=ws.length:=qkv _ _ _;obtain ⟨m1,m2,m3⟩:=f3 i hi;have hw:=hr _ (List.getElem_mem hi);have hput:∀ x∈putF (lfV ws).1 a y 0,0<=x/\x<4294967296:=fun x hx=>by
  rcases qn6 hx with h | h
  ·exact q5t hr x h
  ·rw[h];decide
 have l1:(putF (lfV ws).1 a y 0).length=ws.length+y:=by rw[qh4 _ _ _ _ (by omega)];omega
 have l2:(putF (lfV ws).2 a y false).length=ws.length+y:=by rw[qh4 _ _ _ _ (by omega)];omega
 have gw:gtW (putF (lfV ws).1 a y 0) (if i<a then i else i+y)=gtW (lfV ws).1 i:=q54 (by omega);have gm:gtM (putF (lfV ws).2 a y false) (if i<a then i else i+y)=gtM (lfV ws).2 i:=q55 (by omega);have hk':(if i<a then i else i+y)<ws.length+y:=by split <;> omega
 have ho:=qpk ws[i]
 cases hk:isLk ws.length ws[i] i with
 | false=>
  rw[hk] at m1;have e:=(qxj (m:=putF (lfV ws).2 a y false) (lab:=List.map (mvF (4*(a:Int)) (4*(y:Int))) (qbl ws)) hput).2 h0;have ew:gtW (nwK ws a y).1 (if i<a then i else i+y)=ws[i]:=by
   show gtW (loV _ _ _).1 _=_
   rw[e.2 _ (by rw[gm,m1]),gw,m2 hk]
  rw[ew]
  show [_,_,_,_,nK ws[i] _]=_
  have en:nK ws[i] (4*((if i<a then i else i+y:Nat):Int))=newN ws.length a y i ws[i]:=by
   show numN _ _ _ _ _=_
   rw[q70 ws[i] (4*(i:Int)) _ _ ho.1 ho.2];unfold newN;by_cases h5:5<=opV ws[i]/\opV ws[i]<=8
   ·have hnin:¬ (0<=nK ws[i] (4*(i:Int))/\nK ws[i] (4*(i:Int))<4*(ws.length:Int)):=fun q=>by
     rw[q78 ⟨h5.1,h5.2,q.1,q.2⟩] at hk;cases hk
    rw[if_pos h5,if_pos h5,if_neg hnin]
    show nK ws[i] (4*(i:Int))+_=nK ws[i] (4*(i:Int))+_
    omega
   ·rw[if_neg h5,if_neg h5]
  rw[en]
 | true=>
  rw[hk] at m1;obtain ⟨m4,p,hp,q1,q2⟩:=m3 hk;have hk2:=hk;unfold isLk at hk2;rw[Bool.and_eq_true,Bool.and_eq_true,decide_eq_true_iff,decide_eq_true_iff,decide_eq_true_iff,qot] at hk2;obtain ⟨h5,hN0,hN1⟩:=hk2;have hx:gtW (lfV ws).1 i=bitI .or .u32 (bitI .andNot .u32 ws[i] (dbV (opV ws[i]))) (IntKind.u32.wrap (p:Int)):=by
   rw[m4];unfold lfW;rw[qcl hi,q2];rfl
  obtain ⟨x1,x2,x3⟩:=qp1 hw h5 (by omega) hx;have h0':(loF (putF (lfV ws).2 a y false) (List.map (mvF (4*(a:Int)) (4*(y:Int))) (qbl ws)) (putF (lfV ws).2 a y false).length 0 (putF (lfV ws).1 a y 0)).2=0/\(nwK ws a y)=loF (putF (lfV ws).2 a y false) (List.map (mvF (4*(a:Int)) (4*(y:Int))) (qbl ws)) (putF (lfV ws).2 a y false).length 0 (putF (lfV ws).1 a y 0):=by
   have e:nwK ws a y=loF (putF (lfV ws).2 a y false) (List.map (mvF (4*(a:Int)) (4*(y:Int))) (qbl ws)) (putF (lfV ws).2 a y false).length 0 (putF (lfV ws).1 a y 0):=by
    show loV _ _ _=_
    unfold loV;rw[if_neg (by omega)]
   exact ⟨by rw[<- e];exact h0,e⟩
  obtain ⟨z1,z2⟩:=qjn _ _ _ 0 _ (by omega) h0'.1 (if i<a then i else i+y) (Nat.zero_le _) (by omega) (by rw[gm,m1]);rw[<- h0'.2,gw] at z2;rw[gw] at z1;rw[z2];have eL:gtI (List.map (mvF (4*(a:Int)) (4*(y:Int))) (qbl ws)) p=newN ws.length a y i ws[i]:=by
   rw[q57 hp,q1];have hN:0<=nK ws[i] (4*(i:Int))/\nK ws[i] (4*(i:Int))<4*(ws.length:Int):=⟨hN0,hN1⟩;unfold newN;rw[if_pos h5,if_pos hN];exact q5e hN (by omega) (by omega)
  unfold lkV at z1 |-;by_cases hc:lkC (gtW (lfV ws).1 i) (List.map (mvF (4*(a:Int)) (4*(y:Int))) (qbl ws))
  ·rw[if_pos hc] at z1;cases z1
  ·rw[if_neg hc] at z1 |-;unfold lkN at z1 |-;rw[x1,x2,x3 0 (by decide),x3 1 (by decide),x3 2 (by decide),Int.toNat_natCast,eL] at z1
   show decN (encW (opV (gtW (lfV ws).1 i)) _ _ _ _ _) _=_
   rw[x1,x2,x3 0 (by decide),x3 1 (by decide),x3 2 (by decide),Int.toNat_natCast,eL];by_cases hB:encB (opV ws[i]) (rg ws[i] (regs (opV ws[i])) 0) (rg ws[i] (regs (opV ws[i])) 1) (rg ws[i] (regs (opV ws[i])) 2) (newN ws.length a y i ws[i]) (4*((if i<a then i else i+y:Nat):Int))=true
   ·unfold encW;rw[if_pos hB];unfold encB at hB;rw[Bool.and_eq_true,Bool.and_eq_true] at hB;exact of_decide_eq_true hB.2.2
   ·have z1:encE (opV ws[i]) (rg ws[i] (regs (opV ws[i])) 0) (rg ws[i] (regs (opV ws[i])) 1) (rg ws[i] (regs (opV ws[i])) 2) (newN ws.length a y i ws[i]) (4*((if i<a then i else i+y:Nat):Int))=0:=z1;unfold encE at z1;rw[if_neg hB] at z1;exact absurd z1 (by decide)
theorem q8a {ws:List Int} (hr:∀ w∈ws,0<=w/\w<4294967296) {a y:Nat} (ha:a<=ws.length) (h0:(nwK ws a y).2=0) {k:Nat} (h1:a<=k) (h2:k<a+y):gtW (nwK ws a y).1 k=0:=by
 obtain ⟨f1,f2,f3⟩:=qna ws;have hput:∀ x∈putF (lfV ws).1 a y 0,0<=x/\x<4294967296:=fun x hx=>by
  rcases qn6 hx with h | h
  ·exact q5t hr x h
  ·rw[h];decide
 have e:=(qxj (m:=putF (lfV ws).2 a y false) (lab:=List.map (mvF (4*(a:Int)) (4*(y:Int))) (qbl ws)) hput).2 h0
 show gtW (loV _ _ _).1 _=_
 rw[e.2 k (by
  show gt Sh.bool _ _=_
  unfold gt
  rw[qkr (by omega) h1 h2];rfl)]
 show gt u4 _ _=_
 unfold gt;rw[qkr (by omega) h1 h2];rfl
end Go.Proofs.YtplkpodikhfcdaaDoor
namespace Go.Proofs.YtplkpodikhfcdaaDoor
open Go.Px Go.Ax
open Go.IntKind(i64 u32 u8)
set_option maxRecDepth 100000
set_option linter.unusedSimpArgs false
attribute [local irreducible] Go.Px.sy Go.Px.syE
def ctT9:Ctr:=⟨[.sl a4S,a2S],fun x=>u8L x.2.1,fun _=>[.bool true],fun _=>[]⟩
theorem qkm {α:Type} [DecidableEq α] {A B:α} {X Y:Prop} (h:A=B) (hy:Y):bc (!decide (A=B)) X Y:=by
 rw[decide_eq_true h];exact hy
theorem nK_r (w t:Int) (h:0<=t/\t<=65540) : -20000000000<=nK w t/\nK w t<=20000000000:=by
 unfold nK numN;have:=qm2 (kd (opV w)).2.2.2.1 w (kd (opV w)).2.2.1;split <;> omega
abbrev lkG (l:List (List Int)) (w:List Int) (it:List Item) (S:PS):Prop:=GD 9 Tryd.f9 (QC ctT9 (l,w,())) it S
theorem q0o (l:List (List Int)) (w nw:List Int) (a y:Nat) (ha:a<=12) (hy:y<=9) (hl:a+y<=nw.length) (hz:∀ k,a<=k->k<a+y->gtW nw k=0):∀ (k i:Nat),a+y-i=k->a<=i->i<=a+y ->
  lkG l w (hd Tryd.f9 1) ⟨[(5,.bool true),(7,.int .i64 (a:Nat)),(8,.int .i64 (y:Nat)),(15,.sl u4 nw),(21,.int .i64 (i:Nat))],[]⟩:=by
 intro k
 induction k with
 | zero=>
  intro i hk h1 h2;refine qap cxT9 (q2k nw a y i _ _) ?_;rw[IntWalk.i64_in ((a:Int)+(y:Int)) (by omega),decide_eq_false (by omega),bc_f];exact QC.flat rfl rfl rfl
 | succ k ih=>
  intro i hk h1 h2;refine qap cxT9 (q2k nw a y i _ _) ?_;have nx:=ih (i+1) (by omega) (by omega) (by omega);rw[IntWalk.i64_in ((a:Int)+(y:Int)) (by omega),decide_eq_true (by omega),bc_t,Int.toNat_natCast,hz i h1 (by omega),IntWalk.i64_in ((i:Int)+1) (by omega)];exact ⟨by omega,by omega,nx⟩
theorem q0p (l:List (List Int)) (w b ws:List Int) (hb:b.length=4*ws.length) (hr:∀ w∈ws,0<=w/\w<4294967296) (hn:ws.length<=12) (a y:Nat) (ha:a<=ws.length) (hy:y<=9) (h0:(nwK ws a y).2=0) (hl:(nwK ws a y).1.length=ws.length+y) (hr2:∀ w∈(nwK ws a y).1,0<=w/\w<4294967296):∀ (k i:Nat),ws.length-i=k->i<=ws.length ->
  lkG l w (hd Tryd.f9 0) ⟨[(5,.bool true),(6,.sl uB b),(7,.int .i64 (a:Nat)),(8,.int .i64 (y:Nat)),(13,.sl u4 ws),(15,.sl u4 (nwK ws a y).1),(17,.int .i64 (i:Nat))],[]⟩:=by
 intro k
 induction k with
 | zero=>
  intro i hk hi;refine qap cxT9 (q2l b ws (nwK ws a y).1 a y i _ _) ?_;rw[decide_eq_false (by omega),bc_f];exact (q0o l w (nwK ws a y).1 a y (by omega) hy (by omega) (fun k h1 h2=>q8a hr ha h0 h1 h2) _ a rfl (Nat.le_refl _) (by omega)).only ⟨rfl,rfl,rfl,rfl,rfl,trivial⟩ trivial
 | succ k ih=>
  intro i hk hi;have hlt:i<ws.length:=by omega
  refine qap cxT9 (q2l b ws (nwK ws a y).1 a y i _ _) ?_;have fin:lkG l w (hd Tryd.f9 0) ⟨[(5,.bool true),(6,.sl uB b),(7,.int .i64 (a:Nat)),(8,.int .i64 (y:Nat)),(13,.sl u4 ws),(15,.sl u4 (nwK ws a y).1),(17,.int .i64 ((i:Int)+1))],[]⟩:=ih (i+1) (by omega) (by omega);have hK:=q5w hr hn ha hy h0 hlt;have hw:=hr _ (List.getElem_mem hlt);have hNr:=nK_r ws[i] (4*(i:Int)) (by omega);have hlen:(b.length:Int)=4*(ws.length:Int):=by omega
  have wy:i64.wrap (4*(y:Int))=4*(y:Int):=IntWalk.i64_in _ (by omega);have wi:i64.wrap (4*(i:Int))=4*(i:Int):=IntWalk.i64_in _ (by omega);have wa:i64.wrap (4*(a:Int))=4*(a:Int):=IntWalk.i64_in _ (by omega);have wn:i64.wrap ((i:Int)+1)=(i:Int)+1:=IntWalk.i64_in _ (by omega);have wk:i64.wrap ((i:Int)+(y:Int))=((i+y:Nat):Int):=by rw[IntWalk.i64_in _ (by omega)];omega
  have wk4:i64.wrap (4*((i+y:Nat):Int))=4*((i+y:Nat):Int):=IntWalk.i64_in _ (by omega);have wd0:i64.wrap ((i:Int)-(i:Int))=0:=by rw[IntWalk.i64_in _ (by omega)];omega
  have wdy:i64.wrap (((i+y:Nat):Int)-(i:Int))=(y:Int):=by rw[IntWalk.i64_in _ (by omega)];omega
  have w00:i64.wrap (4*(0:Int))=0:=by rw[IntWalk.i64_in _ (by omega)];omega
  have s1:i64.wrap (nK ws[i] (4*(i:Int))+4*(y:Int))=nK ws[i] (4*(i:Int))+4*(y:Int):=IntWalk.i64_in _ (by omega);have s2:i64.wrap (nK ws[i] (4*(i:Int))+0)=nK ws[i] (4*(i:Int)):=by rw[Int.add_zero];exact IntWalk.i64_in _ (by omega)
  have et:numN ws[i] (4*(i:Int)) (kd (opV ws[i])).2.2.1 (kd (opV ws[i])).2.2.2.1 (kd (opV ws[i])).2.2.2.2=nK ws[i] (4*(i:Int)):=rfl;have hrn:∀ j,0<=gtW (nwK ws a y).1 j/\gtW (nwK ws a y).1 j<4294967296:=qvz hr2;rw[decide_eq_true (show (i:Int)<(ws.length:Int) by omega),bc_t];by_cases hia:a<=i
  ·rw[if_neg (show ¬ i<a by omega)] at hK;rw[decide_eq_true (show (a:Int)<=(i:Int) by omega),bc_t,wk,wk4,wi,wn,Int.toNat_natCast,Int.toNat_natCast,qcl hlt,et];have p1:ctDec.pre (ws[i],4*(i:Int),()):=⟨hw,by show 0<=4*(i:Int)/\4*(i:Int)<=65540;omega⟩;have p2:ctDec.pre (gtW (nwK ws a y).1 (i+y),4*((i+y:Nat):Int),()):=⟨hrn _,by show 0<=4*((i+y:Nat):Int)/\4*((i+y:Nat):Int)<=65540;omega⟩;refine ⟨by omega,by omega,p1,by omega,by omega,p2,?_⟩;have leaf:∀ N:Int,N=newN ws.length a y i ws[i]->[opV ws[i],rg ws[i] (regs (opV ws[i])) 0,rg ws[i] (regs (opV ws[i])) 1,rg ws[i] (regs (opV ws[i])) 2,N]=decN (gtW (nwK ws a y).1 (i+y)) (4*((i+y:Nat):Int)):=fun N e=>by rw[e];exact hK.symm
   unfold newN at leaf;rw[if_neg (show ¬ i<a by omega)] at leaf;by_cases h5:5<=opV ws[i]
   ·by_cases h8:opV ws[i]<=8
    ·rw[if_pos ⟨h5,h8⟩] at leaf;by_cases hn0:0<=nK ws[i] (4*(i:Int))
     ·by_cases hn4:nK ws[i] (4*(i:Int))<4*(ws.length:Int)
      ·rw[if_pos ⟨hn0,hn4⟩] at leaf;by_cases hA:4*(a:Int)<=nK ws[i] (4*(i:Int))
       ·rw[if_pos hA] at leaf;simp only[hlen,wa,wy,wdy,s1,s2,decide_eq_true h5,decide_eq_true h8,decide_eq_true hn0,decide_eq_true hn4,decide_eq_true hA,bc_t]
        repeat' first
         | exact trivial
         | exact qkm (leaf _ rfl) fin
         | refine And.intro ?_ ?_
         | rfl
       ·rw[if_neg hA] at leaf;simp only[hlen,wa,wy,wdy,s1,s2,decide_eq_true h5,decide_eq_true h8,decide_eq_true hn0,decide_eq_true hn4,decide_eq_false hA,bc_t,bc_f]
        repeat' first
         | exact trivial
         | exact qkm (leaf _ rfl) fin
         | refine And.intro ?_ ?_
         | rfl
      ·rw[if_neg (fun q=>hn4 q.2),show ((i+y:Nat):Int)-(i:Int)=(y:Int) by omega] at leaf;simp only[hlen,wa,wy,wdy,s1,s2,decide_eq_true h5,decide_eq_true h8,decide_eq_true hn0,decide_eq_false hn4,bc_t,bc_f]
       repeat' first
        | exact trivial
        | exact qkm (leaf _ rfl) fin
        | refine And.intro ?_ ?_
        | rfl
     ·rw[if_neg (fun q=>hn0 q.1),show ((i+y:Nat):Int)-(i:Int)=(y:Int) by omega] at leaf;simp only[hlen,wa,wy,wdy,s1,s2,decide_eq_true h5,decide_eq_true h8,decide_eq_false hn0,bc_t,bc_f]
      repeat' first
       | exact trivial
       | exact qkm (leaf _ rfl) fin
       | refine And.intro ?_ ?_
       | rfl
    ·rw[if_neg (fun q=>h8 q.2)] at leaf;simp only[decide_eq_true h5,decide_eq_false h8,bc_t,bc_f]
     repeat' first
      | exact trivial
      | exact qkm (leaf _ rfl) fin
      | refine And.intro ?_ ?_
      | rfl
   ·rw[if_neg (fun q=>h5 q.1)] at leaf;simp only[decide_eq_false h5,bc_t,bc_f]
    repeat' first
     | exact trivial
     | exact qkm (leaf _ rfl) fin
     | refine And.intro ?_ ?_
     | rfl
  ·rw[if_pos (show i<a by omega)] at hK;rw[decide_eq_false (show ¬ (a:Int)<=(i:Int) by omega),bc_f,wi,wn,Int.toNat_natCast,qcl hlt,et];have p1:ctDec.pre (ws[i],4*(i:Int),()):=⟨hw,by show 0<=4*(i:Int)/\4*(i:Int)<=65540;omega⟩;have p2:ctDec.pre (gtW (nwK ws a y).1 i,4*(i:Int),()):=⟨hrn _,by show 0<=4*(i:Int)/\4*(i:Int)<=65540;omega⟩;have leaf:∀ N:Int,N=newN ws.length a y i ws[i]->[opV ws[i],rg ws[i] (regs (opV ws[i])) 0,rg ws[i] (regs (opV ws[i])) 1,rg ws[i] (regs (opV ws[i])) 2,N]=decN (gtW (nwK ws a y).1 i) (4*(i:Int)):=fun N e=>by rw[e];exact hK.symm
   unfold newN at leaf;rw[if_pos (show i<a by omega)] at leaf;have fl:∀ X:Prop,[opV ws[i],rg ws[i] (regs (opV ws[i])) 0,rg ws[i] (regs (opV ws[i])) 1,rg ws[i] (regs (opV ws[i])) 2,nK ws[i] (4*(i:Int))]=decN (gtW (nwK ws a y).1 i) (4*(i:Int))->X->X:=fun X _ x=>x
   by_cases h5:5<=opV ws[i]
   ·by_cases h8:opV ws[i]<=8
    ·rw[if_pos ⟨h5,h8⟩] at leaf;by_cases hn0:0<=nK ws[i] (4*(i:Int))
     ·by_cases hn4:nK ws[i] (4*(i:Int))<4*(ws.length:Int)
      ·rw[if_pos ⟨hn0,hn4⟩] at leaf;by_cases hA:4*(a:Int)<=nK ws[i] (4*(i:Int))
       ·rw[if_pos hA] at leaf;simp only[hlen,wa,wy,wd0,w00,s1,s2,decide_eq_true h5,decide_eq_true h8,decide_eq_true hn0,decide_eq_true hn4,decide_eq_true hA,bc_t]
        repeat' first
         | exact p1
         | exact p2
         | exact trivial
         | exact qkm (leaf _ rfl) fin
         | refine And.intro ?_ ?_
         | omega
         | rfl
       ·rw[if_neg hA] at leaf;simp only[hlen,wa,wy,wd0,w00,s1,s2,decide_eq_true h5,decide_eq_true h8,decide_eq_true hn0,decide_eq_true hn4,decide_eq_false hA,bc_t,bc_f]
        repeat' first
         | exact p1
         | exact p2
         | exact trivial
         | exact qkm (leaf _ rfl) fin
         | refine And.intro ?_ ?_
         | omega
         | rfl
      ·rw[if_neg (fun q=>hn4 q.2),Int.sub_self,Int.mul_zero,Int.add_zero] at leaf;simp only[hlen,wa,wy,wd0,w00,s1,s2,decide_eq_true h5,decide_eq_true h8,decide_eq_true hn0,decide_eq_false hn4,bc_t,bc_f]
       repeat' first
        | exact p1
        | exact p2
        | exact trivial
        | exact qkm (leaf _ rfl) fin
        | refine And.intro ?_ ?_
        | omega
        | rfl
     ·rw[if_neg (fun q=>hn0 q.1),Int.sub_self,Int.mul_zero,Int.add_zero] at leaf;simp only[hlen,wa,wy,wd0,w00,s1,s2,decide_eq_true h5,decide_eq_true h8,decide_eq_false hn0,bc_t,bc_f]
      repeat' first
       | exact p1
       | exact p2
       | exact trivial
       | exact qkm (leaf _ rfl) fin
       | refine And.intro ?_ ?_
       | omega
       | rfl
    ·rw[if_neg (fun q=>h8 q.2)] at leaf;simp only[decide_eq_true h5,decide_eq_false h8,bc_t,bc_f]
     repeat' first
      | exact p1
      | exact p2
      | exact trivial
      | exact qkm (leaf _ rfl) fin
      | refine And.intro ?_ ?_
      | omega
      | rfl
   ·rw[if_neg (fun q=>h5 q.1)] at leaf;simp only[decide_eq_false h5,bc_t,bc_f]
    repeat' first
     | exact p1
     | exact p2
     | exact trivial
     | exact qkm (leaf _ rfl) fin
     | refine And.intro ?_ ?_
     | omega
     | rfl
end Go.Proofs.YtplkpodikhfcdaaDoor
namespace Go.Proofs.YtplkpodikhfcdaaDoor
open Go.Px Go.Ax
set_option maxRecDepth 100000
set_option linter.unusedSimpArgs false
attribute [local irreducible] Go.Px.sy Go.Px.syE
theorem q0q:Held Tryd.prog G0 9 ctT9:=by
 refine Held.of cxT9 (fn:=Tryd.f9) rfl rfl ⟨by decide,by decide⟩ ?_;rintro ⟨l,w,⟨⟩⟩ hp;have hw:u8L w:=hp;refine qap cxT9 (q62 l w _ _) ?_;have hcl:=q1p (l:=l) (n:=12) ⟨by decide,by decide⟩;have hb:=qov (codW l 12);have h8:=q3g (codW l 12);have hn:(codW l 12).length<=12:=by rw[hcl];exact Nat.min_le_right _ _
 rw[winA (e:=uB) (bytL (codW l 12))];refine ⟨trivial,⟨(by decide:(0:Int)<=12),(by decide:(12:Int)<=1000)⟩,?_⟩;generalize bytL (codW l 12)=b at *;generalize (codW l 12).length=n at *;have ed:((b.length:Int)).tdiv 4=(n:Int):=by rw[Int.tdiv_eq_ediv_of_nonneg (by omega)];omega
 rw[ed,IntWalk.i64_in (n:Int) (by omega),IntWalk.i64_in ((n:Int)+1) (by omega)];have w0:=hw 0;have w1:=hw 1;unfold u8R at w0 w1;obtain ⟨a,ea,ha⟩:∃ a:Nat,(IntKind.i64.wrap (gtB w 0)).tmod ((n:Int)+1)=(a:Int)/\a<=n:=by
  rw[IntWalk.i64_in _ (by omega),Int.tmod_eq_emod_of_nonneg (by omega)];have h1:=Int.emod_nonneg (gtB w 0) (show (n:Int)+1≠0 by omega);have h2:=Int.emod_lt_of_pos (gtB w 0) (show 0<(n:Int)+1 by omega);exact ⟨(gtB w 0 % ((n:Int)+1)).toNat,(Int.toNat_of_nonneg h1).symm,by omega⟩
 obtain ⟨y,ey,hy⟩:∃ y:Nat,(IntKind.i64.wrap (gtB w 1)).tmod 10=(y:Int)/\y<=9:=by
  rw[IntWalk.i64_in _ (by omega),Int.tmod_eq_emod_of_nonneg (by omega)];exact ⟨(gtB w 1 % 10).toNat,by omega,by omega⟩
 rw[ea,ey];obtain ⟨pm,cs⟩:=q2z hb h8 hn ha hy;have pm0:qh6 b a (0:Int):=(q2z hb h8 hn ha (k:=0) (by omega)).1;have m0:=q72 hb h8 hn ha;obtain ⟨c1,c2,c3,c4⟩:=qsa hb h8 hn;have pw:qwr b:=(c4 (by omega)).1;have same:ct_r2.pre (b,b,()):=(show b.length<1099511627776 by omega);rcases cs with h | ⟨ws,h,r1,r2,r3,r4,r5,r6⟩
 ·rw[h,m0,winA (e:=uB) b];have d1:decide ((0:Int)≠0)=false:=by decide
  have d2:decide ((30:Int)≠0)=true:=by decide
  simp only[d1,d2,bc_t,bc_f,cond_true,cond_false]
  repeat' first
   | exact pm
   | exact pm0
   | exact same
   | refine And.intro ?_ ?_
   | omega
   | exact trivial
   | exact QC.flat rfl rfl rfl
   | refine qav (fun q=>absurd rfl (of_decide_eq_false (Bool.not_eq_true' _ |>.mp q))) (fun _=>?_)
   | rfl
 ·have e2:=qoz r1;have lb:=qgq ws;have pw2:qwr (qat ws):=⟨qo5 (qty ws),by omega⟩;have e3:ws=(nwK (qae b).1 a y).1:=r5;rw[h,m0,winA (e:=uB) b,winA (e:=uB) (qat ws),e2];have d1:decide ((0:Int)≠0)=false:=by decide
  have d3:decide ((qae b).2≠0)=false:=decide_eq_false (fun q=>q c1);have wl:IntKind.i64.wrap (((qae b).1.length:Int)+(y:Int))=(ws.length:Int):=by rw[IntWalk.i64_in _ (by omega)];omega
  have d4:decide ((ws.length:Int)≠(ws.length:Int))=false:=decide_eq_false (fun q=>q rfl);have lp:=q0p l w b (qae b).1 (by omega) c3 (by omega) a y (by omega) hy r6 (by rw[<- e3];omega) (by rw[<- e3];exact r1) _ 0 rfl (Nat.zero_le _);rw[<- e3] at lp;simp only[d1,d3,wl,d4,bc_t,bc_f,cond_true,cond_false]
  repeat' first
   | exact pm
   | exact pm0
   | exact same
   | exact pw
   | exact pw2
   | refine And.intro ?_ ?_
   | omega
   | exact trivial
   | exact QC.flat rfl rfl rfl
   | refine qav (fun q=>absurd rfl (of_decide_eq_false (Bool.not_eq_true' _ |>.mp q))) (fun _=>?_)
   | (refine frzG (i:=1098304) (e:=uB) (et:=5) (xs:=b) rfl rfl ?_;refine frzG (i:=1258048) (e:=u4) (et:=53) (xs:=(qae b).1) rfl rfl ?_;refine frzG (i:=1278528) (e:=u4) (et:=53) (xs:=ws) rfl rfl ?_;refine lp.only ⟨rfl,congrArg (fun z=>some (SV.sl uB z)) (winA (e:=uB) b),rfl,rfl,congrArg (fun z=>some (SV.sl u4 z)) (winA (e:=u4) (qae b).1),congrArg (fun z=>some (SV.sl u4 z)) (winA (e:=u4) ws),rfl,trivial⟩ trivial)
   | rfl
end Go.Proofs.YtplkpodikhfcdaaDoor
namespace Go.Proofs.YtplkpodikhfcdaaDoor
open Go.Px Go.Ax
theorem u8_wf {n:Int} (h:wfD uB n):0<=n/\n<256:=by
 have h:(Lit.int IntKind.u8 n).wf=true:=h;simp[Lit.wf,IntKind.min,IntKind.max,IntKind.signed,IntKind.bits] at h;omega
theorem lw_of {w:List Int} (h:wfD a2S w):u8L w:=qo5 fun x hx=>u8_wf (h.2 x hx)
end Go.Proofs.YtplkpodikhfcdaaDoor
namespace Go.Proofs.YtplkpodikhfcdaaDoor
open Go.Px Go.Ax
set_option maxRecDepth 100000
theorem qvd {g:Nat} {x:ABlk} (h:rawG.get g=some x):g=0/\x=.cells qil 91 2:=by
 unfold rawG T.get at h;split at h
 ·rename_i e;cases h;exact ⟨e,rfl⟩
 ·split at h <;> (simp[T.get] at h)
theorem hG:Glob G0.raw:=⟨fun g x h=>by rw[(qvd h).1];decide,fun g x h=>by rw[(qvd h).2];decide⟩
abbrev H0:AHeap:=⟨qjf,G0.raw⟩
def Z0:Nat->Option ABlk:=fun g=>rawG.get g
theorem gz0:GZ Z0 G0:=by
 refine ⟨fun g x e=>?_,fun g x e=>e⟩;simp only[G0,lk] at e;split at e
 ·rename_i h;subst h;cases e;refine ⟨by decide,fun ν=>⟨0,0,qil,91,2,rfl,rfl,by decide,?_⟩⟩;exact qzv (.arr 9 kindSh) kindsL ⟨rfl,fun x _=>⟨trivial,trivial,trivial,trivial,trivial⟩⟩
 ·cases e
theorem fro0:Px.Fro G0 H0:=⟨fun i x h=>by rw[(qvd h).2];rfl,fun i x h=>by rw[(qvd h).2];trivial,fun i x h=>by rw[(qvd h).1];decide,gz0⟩
end Go.Proofs.YtplkpodikhfcdaaDoor
