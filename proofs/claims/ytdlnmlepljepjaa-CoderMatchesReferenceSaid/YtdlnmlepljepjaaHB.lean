/-
  A part of the proof: a run over an abstract memory, its soundness and its rules; each theorem says its conditions.
-/
import Derived.Test.YtdlnmlepljepjaaHA
import Derived.Test.YtdlnmlepljepjaaGB
set_option linter.unusedVariables false
set_option linter.unusedSimpArgs false
namespace Go.Px
open Ax
section
variable {P:Program} {tt:TT} {Z:Nat->Option ABlk} {ν:Nu} {S:PS} {E:T Value} {H:AHeap} {ρ:Operand->Option SV} {ρ':Operand->Option Value}
theorem qeu {t:TypeId} {ti:TI} (ht:TOK P t ti) {b off:Nat} {cs u:List Value} {et:TypeId} {k:Nat} (hb:H.t.get b=some (.cells cs et k)) (hl:off+ti.size<=cs.length) (hu:(cs.drop off).take ti.size=u) :
  ∃ y,qjk P H t (.pointer (some ⟨b,off,none⟩))=some y/\(if ti.agg then y=.agg u.toArray else u=[y]):=by
 unfold qjk;have hc:qby H ⟨b,off,none⟩ ti.size=some u:=by simp[qby,hb,hl,hu]
 simp only[ht.agg,ht.size]
 cases ha:ti.agg with
 | true=>simp only[hc,Option.map_some,if_true];exact ⟨_,rfl,rfl⟩
 | false=>
  have h1:=ht.one ha;rw[h1] at hc hu hl;have hlen:u.length=1:=by rw[<- hu,List.length_take,List.length_drop];omega
  match u,hlen with
  | [y],_=>exact ⟨y,by rw[hc],by simp⟩
theorem qpq {τ:(τ:Sh) × τ.D} {σ:Sh} {x:σ.D} {off n o:Nat} {cs:List Value} (h:RV Z σ x ((cs.drop o).take σ.size)) (hl:o+σ.size<=cs.length) (hs:qj6 σ x off n=some τ) :
  RV Z τ.1 τ.2 ((cs.drop (o+off)).take n)/\o+off+n<=cs.length:=by
 obtain ⟨q1,q2,q3⟩:=qj5 _ _ h hs;have hlen:((cs.drop o).take σ.size).length=σ.size:=RV.len _ _ _ h;rw[hlen] at q2;rw[List.drop_take,List.take_take,List.drop_drop,Nat.min_eq_left (by omega)] at q3;exact ⟨q3,by omega⟩
theorem qjm {e:Sh} {xs:List e.D} {cs tl:List Value} {i:Nat} (h:RVL (λ x u=>RV Z e x u) xs cs) (hi:i<xs.length):RV Z e (gt e xs i) (((cs++tl).drop (i*e.size)).take e.size)/\i*e.size+e.size<=(cs++tl).length:=by
 have hl:=h.len (λ x u k=>RV.len e x u k);have h1:i*e.size+e.size<=xs.length*e.size:=by rw[<- Nat.succ_mul];exact Nat.mul_le_mul_right _ hi
 have:=RVL.get (λ x u k=>RV.len e x u k) h (q2n hi);rw[qmd rfl hl h1];exact ⟨this,by rw[List.length_append];omega⟩
theorem qp9 {e:Sh} {i n:Nat} {l:List SV} {y:e.D} (h:qww e i l=some (n,y)):∃ (xs:List e.D) (r:List SV),l=.arr n e xs::r/\y=gt e xs i:=by
 unfold qww at h;split at h
 ·split at h
  next he=>subst he;cases h;exact ⟨_,_,rfl,rfl⟩
  ·cases h
 ·cases h
theorem qs3 {l:List SV} {n:Nat} {e:Sh} (h:q3f l=some (n,e)):∃ (k:IntKind) (xs:List e.D) (r:List SV),e=.int k/\l=.arr n e xs::r:=by
 unfold q3f at h;split at h
 ·cases h;exact ⟨_,_,_,rfl,rfl⟩
 ·cases h
theorem qkg {e:Sh} {l:List SV} {m:Nat} {s:List SV} (h:opnL e l=some (m,s)):∃ (t:Nat) (u:List Unit) (xs:List e.D),l=.arr t .unit u::.arr m e xs::s:=by
 unfold opnL at h;split at h
 ·split at h
  next hd=>have:=of_decide_eq_true hd;subst this;cases h;exact ⟨_,_,_,rfl⟩
  ·cases h
 ·cases h
theorem RVL.units {l:List Unit} {vs:List Value} (h:RVL (λ (_:Unit) (u:List Value)=>u=[]) l vs):vs=[]:=by
 have:=h.len (sz:=0) (λ x u k=>by subst k;rfl);rw[Nat.mul_zero] at this;exact List.eq_nil_of_length_eq_zero this
theorem qn8 {t m:Nat} {u:List Unit} {e:Sh} {xs:List e.D} {s:List SV} {cs:List Value} (h:CRL Z ν (.arr t .unit u::.arr m e xs::s) cs):∃ a w,cs=a++w/\xs.length=m/\a.length=m*e.size/\RVL (λ x u=>RV Z e x u) xs a/\CRL Z ν s w:=by
 simp only[CRL] at h;obtain ⟨u0,w0,rfl,h1,u1,w1,rfl,h2,h3⟩:=h;simp only[CR,RV] at h1 h2;have h4:=RVL.units h1.2;subst h4;have hl:=h2.2.len (λ x u k=>RV.len e x u k);exact ⟨u1,w1,rfl,h2.1,by rw[hl,h2.1],h2.2,h3⟩
theorem qsn {e:Sh} {l:List SV} {m:Nat} {s:List SV} {cs:List Value} (h:opnL e l=some (m,s)) (k:CRL Z ν l cs):∃ u w,cs=u++w/\u.length=m*e.size/\CRL Z ν s w:=by
 obtain ⟨t,u,xs,rfl⟩:=qkg h;obtain ⟨a,w,h1,_,h2,_,h3⟩:=qn8 k;exact ⟨a,w,h1,h2,h3⟩
theorem qf2 (ht:TTOK P tt) (hp:PR Z ν S E H) {t:TypeId} {po:Operand} {p s:SV} {v:Value} {cs:List Prop} {o:Oper} (ho:o.op=.load t po) (hx:ρ po=some p) (h:VS Z ν p v) (e:pR tt ρ S.blk o=some (cs,s)) (hc:∀ c∈cs,c) :
  ∃ y,qjk P H t v=some y/\VS Z ν s y:=by
 unfold pR at e;simp only[ho,hx] at e;split at e
 next ti id off hti he=>
  cases he;split at e
  next l hl=>
   split at e
   next r hr=>rw[Option.bind_eq_some_iff] at e;obtain ⟨s',hm,e⟩:=e;cases e;obtain ⟨ni,hn,rfl⟩:=h.ptr;obtain ⟨ni',cs',et,hn',_,hb,hcr⟩:=hp.blk _ _ hl;rw[hn] at hn';cases hn';obtain ⟨q1,q2⟩:=qfn hcr hr;obtain ⟨y,hy,hyv⟩:=qeu (ht _ _ hti) hb q2 rfl;exact ⟨y,hy,qcd hm q1 hyv⟩
   ·cases e
  ·cases e
 next ti e1 id base i off hti he=>
  cases he;split at e
  next l hl=>
   split at e
   next a n e' xs r hcut=>
    split at e
    next hee=>
     subst hee;split at e
     next τ y hsub=>
      rw[Option.bind_eq_some_iff] at e;obtain ⟨s',hm,e⟩:=e;cases e;have hi:i<n:=hc _ (by simp);obtain ⟨ni,hn,rfl⟩:=h.aep;obtain ⟨ni',cs',et,hn',_,hb,hcr⟩:=hp.blk _ _ hl;rw[hn] at hn';cases hn';obtain ⟨u,w,rfl,hu,_,hw⟩:=qbh _ _ hcr hcut;simp only[CRL] at hw;obtain ⟨u2,w2,rfl,h3,_⟩:=hw;simp only[CR,RV] at h3;obtain ⟨hln,h3⟩:=h3;obtain ⟨q1,q2⟩:=qjm (tl:=w2) h3 (show i<xs.length by omega);have hd:∀ k m,((u++(u2++w2)).drop (base+k)).take m=((u2++w2).drop k).take m:=λ k m=>by rw[<- List.drop_drop,<- hu,List.drop_left]
      have q1':RV Z e' (gt e' xs i) (((u++(u2++w2)).drop (base+i*e'.size)).take e'.size):=by rw[hd];exact q1
      obtain ⟨q3,q4⟩:=qpq q1' (by rw[List.length_append];omega) hsub;obtain ⟨y',hy,hyv⟩:=qeu (ht _ _ hti) hb q4 rfl;exact ⟨y',hy,qcd hm (qam _ _ q3) hyv⟩
     ·cases e
    ·cases e
   next a n q j m r hcut=>
    split at e
    next hcond=>
     obtain ⟨h1,rfl,h2,h3⟩:=hcond;rw[Option.bind_eq_some_iff] at e;obtain ⟨s',hm,e⟩:=e;cases e;have hi:i<n:=hc _ (by simp);have hj:i=j:=hc _ (by simp);subst hj;obtain ⟨ni,hn,rfl⟩:=h.aep;obtain ⟨ni',cs',et,hn',_,hb,hcr⟩:=hp.blk _ _ hl;rw[hn] at hn';cases hn';obtain ⟨u,w,rfl,hu,_,hw⟩:=qbh _ _ hcr hcut;simp only[CRL] at hw;obtain ⟨u2,w2,rfl,h4,_⟩:=hw;obtain ⟨v,q1,q2,q3⟩:=CR.ptaAt h4 hi;have hd:((u++(u2++w2)).drop (base+i)).take 1=[v]:=by
      rw[<- List.drop_drop,<- hu,List.drop_left];have hl2:i<u2.length:=by rw[q3];exact hi
      rw[List.drop_append_of_le_length (by omega),List.drop_eq_getElem_cons hl2,List.cons_append,List.take_succ_cons,List.take_zero,q2]
     rw[h1,Nat.mul_one,Nat.add_zero];obtain ⟨y',hy,hyv⟩:=qeu (ht _ _ hti) (off:=base+i) hb (by rw[h2,List.length_append,List.length_append,q3,hu];omega) (u:=[v]) (by rw[h2];exact hd);rw[h3] at hyv;exact ⟨y',hy,qcd hm q1 hyv⟩
    ·cases e
   ·cases e
  ·cases e
 next ti e1 id i off hti he=>
  cases he;split at e
  next et e' xs hl=>
   split at e
   next hee=>
    subst hee;split at e
    next τ y hsub=>
     rw[Option.bind_eq_some_iff] at e;obtain ⟨s',hm,e⟩:=e;cases e;have hi:i<xs.length:=hc _ (by simp);obtain ⟨ni,hn,rfl⟩:=h.elp;obtain ⟨hpos,hb⟩:=hp.blk _ _ hl;rcases hb with ⟨hn',rfl⟩ | ⟨ni',cs',tl,k,hn',hb,hrv,_⟩
     ·simp at hi
     ·rw[hn] at hn';cases hn';obtain ⟨q1,q2⟩:=qjm (tl:=tl) hrv hi;obtain ⟨q3,q4⟩:=qpq q1 q2 hsub;obtain ⟨y',hy,hyv⟩:=qeu (ht _ _ hti) hb q4 rfl;exact ⟨y',hy,qcd hm (qam _ _ q3) hyv⟩
    ·cases e
   ·cases e
  next l hl=>
   split at e
   next m s0 hop=>
    split at e
    next r hr=>
     rw[Option.bind_eq_some_iff] at e;obtain ⟨s',hm,e⟩:=e;cases e;have hi:i=m:=hc _ (by simp);subst hi;obtain ⟨ni,hn,rfl⟩:=h.elp;obtain ⟨ni',cs',et,hn',_,hb,hcr⟩:=hp.blk _ _ hl;rw[hn] at hn';cases hn';obtain ⟨u,w,rfl,hul,hcw⟩:=qsn hop hcr;obtain ⟨q1,q2⟩:=qfn hcw hr;have e9:((u++w).drop (i*e1.size+off)).take ti.size=(w.drop off).take ti.size:=by
      rw[<- List.drop_drop,<- hul,List.drop_left]
     obtain ⟨y,hy,hyv⟩:=qeu (ht _ _ hti) hb (by rw[List.length_append];omega) e9;exact ⟨y,hy,qcd hm q1 hyv⟩
    ·cases e
   ·split at e
    next n y hget=>
     split at e
     next hcond=>obtain ⟨h1,rfl,h2,h3⟩:=hcond;rw[Option.bind_eq_some_iff] at e;obtain ⟨s',hm,e⟩:=e;cases e;have hi:i<n:=hc _ (by simp);obtain ⟨ni,hn,rfl⟩:=h.elp;obtain ⟨ni',cs',et,hn',_,hb,hcr⟩:=hp.blk _ _ hl;rw[hn] at hn';cases hn';obtain ⟨xs,r,rfl,rfl⟩:=qp9 hget;simp only[CRL] at hcr;obtain ⟨u,w,rfl,h4,_⟩:=hcr;simp only[CR,RV] at h4;obtain ⟨hln,h4⟩:=h4;obtain ⟨q1,q2⟩:=qjm (tl:=w) h4 (show i<xs.length by omega);obtain ⟨y',hy,hyv⟩:=qeu (ht _ _ hti) (off:=i*e1.size+0) hb (by rw[h2,Nat.add_zero,<- h1];exact q2) rfl;rw[h3,h2,Nat.add_zero,<- h1] at hyv;exact ⟨y',hy,qcd hm (qam _ _ q1) hyv⟩
     ·cases e
    ·cases e
  ·cases e
 next ti σ x hti he=>
  cases he;split at e
  next τ y hsub=>rw[Option.bind_eq_some_iff] at e;obtain ⟨s',hm,e⟩:=e;cases e;obtain ⟨b,off,cs',et,k,rfl,hz,hl,hv⟩:=h.elv;obtain ⟨q3,q4⟩:=qpq hv hl hsub;rw[Nat.add_zero] at q3 q4;obtain ⟨y',hy,hyv⟩:=qeu (ht _ _ hti) (hp.zh _ _ hz).1 q4 rfl;exact ⟨y',hy,qcd hm (qam _ _ q3) hyv⟩
  ·cases e
 ·cases e
def BV:Option Value->Option Int->Prop
 | none,a=>a=none
 | some v,a=>∃ k n,v=.int k n/\a=some n
theorem qbo (hρ:∀ x s,ρ x=some s->∃ v,ρ' x=some v/\VS Z ν s v) {o:Option Operand} {a:Option Int} (h:bnd ρ o=some a):∃ v,aOpt ρ' o=some v/\BV v a:=by
 cases o with
 | none=>simp only[bnd,Option.some.injEq] at h;subst h;exact ⟨none,rfl,rfl⟩
 | some x=>
  simp only[bnd] at h;split at h
  next k n hx=>cases h;obtain ⟨v,hv,hvs⟩:=hρ _ _ hx;rw[hvs.int] at hv;exact ⟨some (.int k n),by simp[aOpt,hv,flat],k,n,rfl,rfl⟩
  ·cases h
theorem qdk {isS:Bool} {lo hi:Option Value} {a b:Option Int} {len cap:Nat} (ha:BV lo a) (hb:BV hi b) (hok:∀ c∈qay len a b,c) (hc:len<=cap) :
  qaa P (Instr.sliceBounds isS len cap lo hi none)=some (qa1 a,qa3 len b,cap)/\qa1 a<=qa3 len b/\qa3 len b<=len:=by
 cases lo with
 | none=>
  cases hi with
  | none=>
   simp only[BV] at ha hb;subst ha;subst hb;simp[Instr.sliceBounds,qac,qa1,qa3]
  | some v=>
   obtain ⟨k,n,rfl,rfl⟩:=hb;simp only[BV] at ha;subst ha;have h0:=hok (0<=n) (by simp[qay]);have h1:=hok (n<=(len:Int)) (by simp[qay]);refine ⟨?_,Nat.zero_le _,by simp only[qa3];omega⟩;have h2:n<=(cap:Int):=by omega
   simp[Instr.sliceBounds,Instr.sliceBound,asIntOf,qac,qa1,qa3,h0,h2]
 | some v=>
  obtain ⟨k,n,rfl,rfl⟩:=ha
  cases hi with
  | none=>
   simp only[BV] at hb;subst hb;have h0:=hok (0<=n) (by simp[qay]);have h1:=hok (n<=(len:Int)) (by simp[qay]);refine ⟨?_,by simp only[qa1,qa3];omega,Nat.le_refl _⟩;simp[Instr.sliceBounds,Instr.sliceBound,asIntOf,qac,qa1,qa3,h0,h1]
  | some v=>
   obtain ⟨k2,m,rfl,rfl⟩:=hb;have h0:=hok (0<=n) (by simp[qay]);have h1:=hok (n<=m) (by simp[qay]);have h3:=hok (m<=(len:Int)) (by simp[qay]);refine ⟨?_,by simp only[qa1,qa3];omega,by simp only[qa3];omega⟩;have h2:m<=(cap:Int):=by omega
   have h4:0<=m:=by omega
   have h5:n<=max m 0:=by omega
   simp[Instr.sliceBounds,Instr.sliceBound,asIntOf,qac,qa1,qa3,h0,h2,h4,h5]
theorem qil {t et:TypeId} {ti:TI} (hk:KOK P t (.slice et)) (ht:TOK P et ti) {lo hi:Option Value} {a b:Option Int} (ha:BV lo a) (hb:BV hi b) (hok:∀ c∈qay 0 a b,c) :
  qbv P H t (.slice none 0 0) lo hi none=some (.slice none 0 0)/\qbv P H t emptySlice lo hi none=some emptySlice:=by
 simp only[KOK] at hk;obtain ⟨h1,h2,h3⟩:=qdk (P:=P) (isS:=true) ha hb hok (Nat.le_refl 0);have e1:qa1 a=0:=by omega
 have e2:qa3 0 b=0:=by omega
 rw[e1,e2] at h1;constructor
 ·have:qaa P (Instr.sliceAt t (.slice none 0 0) lo hi none)=some (.slice none 0 0):=by
   simp only[Instr.sliceAt,Instr.slice,qad,hk,Option.bind_some,h1,ht.size,qac];rfl
  simp only[qbv,this];rfl
 ·simp[qbv,emptySlice,hk,h1,ht.size]
theorem qfr {t et:TypeId} {ti:TI} (hk:KOK P t (.slice et)) (ht:TOK P et ti) {lo hi:Option Value} {a b:Option Int} (ha:BV lo a) (hb:BV hi b) {x off len cap:Nat} (hok:∀ c∈qay len a b,c) (hc:len<=cap) (hcap:cap<2 ^ 63) :
  qbv P H t (.slice (some ⟨x,off,none⟩) len cap) lo hi none=some (.slice (some ⟨x,if cap=qa1 a then off else off+qa1 a*ti.size,none⟩) (qa3 len b-qa1 a) (cap-qa1 a)):=by
 simp only[KOK] at hk;obtain ⟨h1,h2,h3⟩:=qdk (P:=P) (isS:=true) ha hb hok hc;have n1:cap≠qae:=by unfold qae;omega
 have n2:¬ (cap-qa1 a=qae):=by unfold qae;omega
 simp only[qbv,hk];rw[if_neg (by simp),if_neg n1];simp only[ht.size,h1];rw[if_pos ⟨trivial,n2⟩];split <;> simp[qaz]
theorem qk5 {t et:TypeId} {ti:TI} (hk:KOK P t (.slice et)) (ht:TOK P et ti) {lo hi:Option Value} {a b:Option Int} (ha:BV lo a) (hb:BV hi b) {x off len:Nat} (hok:∀ c∈qay len a b,c)
  {cs:List Value} {e':TypeId} (hx:H.t.get x=some (.cells cs e' (10+ti.size))) (ho:off % ti.size=0) (hl:off+len*ti.size<=cs.length) :
  qbv P H t (.slice (some ⟨x,off,none⟩) len qae) lo hi none=some (if qa1 a=len then emptySlice else .slice (some ⟨x,off+qa1 a*ti.size,none⟩) (qa3 len b-qa1 a) qae):=by
 simp only[KOK] at hk;obtain ⟨h1,h2,h3⟩:=qdk (P:=P) (isS:=true) ha hb hok (Nat.le_refl len);simp only[qbv,hk];rw[if_neg (by simp),if_pos trivial];simp only[hx,ht.size,h1];rw[if_pos ⟨trivial,ho,hl,trivial⟩];split <;> simp[qaz]
theorem qke {α:Type} (l:List α) (a b:Option Int) (hok:∀ c∈qay l.length a b,c):part l a b=(l.drop (qa1 a)).take (qa3 l.length b-qa1 a):=by
 cases a with
 | none=>
  cases b with
  | none=>simp[part,qa1,qa3]
  | some b=>simp[part,qa1,qa3]
 | some a=>
  cases b with
  | none=>simp only[part,qa1,qa3];rw[List.take_of_length_le (by rw[List.length_drop];omega)]
  | some b=>simp only[part,qa1,qa3];rw[List.drop_take]
theorem qtz (n:Int) (h0:0<=n) (h1:n<256):ofB (toB n)=n:=by
 unfold ofB toB;simp;omega
theorem qk1 {f:Value->ByteArray->Sem (ForInStep ByteArray)} (hf:∀ (b:Int) (s:ByteArray),f (.int .u8 b) s=pure (.yield (s.push (toB b)))):∀ (l:List Int) (s:ByteArray),qaa P (forIn (m:=Sem) (l.map (Value.int .u8)) s f)=some ⟨(s.data.toList++l.map toB).toArray⟩
 | [],s=>by simp[qac]
 | b::l,s=>by
  simp only[List.map_cons,List.forIn_cons,qad,hf,qac,Option.bind_some];rw[qk1 hf l]
  congr 2
  simp
theorem qk2 (l:List Int):qaa P (bytesOf (l.map (Value.int .u8)).toArray)=some (bstr (l.map toB)):=by
 unfold bytesOf;simp only[List.forIn_toArray,qad];rw[qk1 (λ b s=>?_)]
 ·simp[qac,bstr]
 ·simp[toB]
theorem RVL.ints {k:IntKind}:∀ {l:List Int} {vs:List Value},RVL (λ (x:(Sh.int k).D) u=>RV Z (.int k) x u) l vs->vs=l.map (Value.int k)
 | [],vs,h=>h
 | x::l,vs,⟨u,w,e,h1,h2⟩=>by
  simp only[RV] at h1;subst e;subst h1;rw[RVL.ints h2];rfl
theorem qlz (k:IntKind):∀ l:List Int,qbd (l.map (Value.int k))=true
 | []=>rfl
 | _::l=>by simp only[List.map_cons,qbd,qlz k l];rfl
theorem qj1 {t u et:TypeId} (hk:KOK P t (.slice et)) (hu:KOK P u .str) (he:KOK P et (.int .u8)) {b off c k:Nat} {cs:List Value} {e':TypeId} {l:List Int} (hb:H.t.get b=some (.cells cs e' k)) (hl:off+l.length<=cs.length) (hv:(cs.drop off).take l.length=l.map (Value.int .u8)) :
  qb1 P H t u (.slice (some ⟨b,off,none⟩) l.length c)=some (bstr (l.map toB),H):=by
 simp only[KOK] at hk hu he;have hcs:(if l.length=0 then some [] else qby H ⟨b,off,none⟩ l.length)=some (l.map (Value.int .u8)):=by
  split
  next h0=>rw[List.eq_nil_of_length_eq_zero h0];rfl
  ·simp[qby,hb,hl,hv]
 simp only[qb1,hk,hu,he,if_true];rw[hcs];simp only[qlz,if_true,qk2];rfl
theorem qfu {t u et:TypeId} (hk:KOK P t (.slice et)) (hu:KOK P u .str) (he:KOK P et (.int .u8)):qb1 P H t u (.slice none 0 0)=some (bstr [],H)/\qb1 P H t u emptySlice=some (bstr [],H):=by
 simp only[KOK] at hk hu he;have hb0:qaa P (bytesOf (([]:List Value)).toArray)=some (bstr []):=qk2 [];constructor
 ·have:qaa P (convert t u (.slice none 0 0))=some (bstr []):=by
   simp[convert,qad,qac,hk,he,hu,Conv.bytesToString];rfl
  simp[qb1,this,flat,bstr]
 ·simp only[emptySlice,qb1,hk,hu,he,if_true,hb0,qbd];rfl
theorem qgo (ht:TTOK P tt) (hp:PR Z ν S E H) (hρ:∀ x s,ρ x=some s->∃ v,ρ' x=some v/\VS Z ν s v) {t:TypeId} {xo:Operand} {lo hi:Option Operand} {s:SV} {cs:List Prop} {o:Oper} (ho:o.op=.slice t xo lo hi none) (e:pR tt ρ S.blk o=some (cs,s)) (hc:∀ c∈cs,c) :
  ∃ v vl vh y,ρ' xo=some v/\aOpt ρ' lo=some vl/\aOpt ρ' hi=some vh/\qbv P H t v vl vh none=some y/\VS Z ν s y:=by
 unfold pR at e;simp only[ho] at e;split at e
 next r0 e1 id w n a b et hx ha hb hk=>
  split at e
  next et' e2 xs ti hl hti=>
   split at e
   next hcond=>
    obtain ⟨rfl,hsz⟩:=hcond;cases e;obtain ⟨v,hv,hvs⟩:=hρ _ _ hx;obtain ⟨vl,hvl,hbl⟩:=qbo hρ ha;obtain ⟨vh,hvh,hbh⟩:=qbo hρ hb;have hkk:=ht.kind hk;have htt:=ht _ _ hti;have hw:=hvs.win;have hwn:w+n<=xs.length:=hc _ (by simp);have hd:∀ c∈qay n a b,c:=λ c hcc=>hc c (List.mem_append_left _ hcc)
    obtain ⟨_,hle,hle2⟩:=qdk (P:=P) (isS:=true) hbl hbh hd (Nat.le_refl n);unfold WinR at hw;split at hw
    next hn=>
     obtain ⟨rfl,rfl,hvv⟩:=hw;obtain ⟨r1,r2⟩:=qil (H:=H) hkk htt hbl hbh hd;have hz:qa1 a=0:=by omega
     have hz2:qa3 0 b=0:=by omega
     rcases hvv with rfl | ⟨_,rfl⟩
     ·exact ⟨_,vl,vh,_,hv,hvl,hvh,r1,VS.mkWin (by unfold WinR;rw[hn];exact ⟨by omega,by omega,.inl rfl⟩)⟩
     ·exact ⟨_,vl,vh,_,hv,hvl,hvh,r2,VS.mkWin (by unfold WinR;rw[hn];exact ⟨by omega,by omega,.inr ⟨rfl,rfl⟩⟩)⟩
    next ni hn=>
     obtain ⟨hpos,hbr⟩:=hp.blk _ _ hl;rcases hbr with ⟨hn',_⟩ | ⟨ni',cs',tl,k,hn',hb',hrv,hkk'⟩
     ·rw[hn] at hn';cases hn'
     ·rw[hn] at hn';cases hn';rcases hw with ⟨_,rfl,rfl | ⟨o2,t2,rfl,ht2,ho2⟩⟩ | ⟨cap,rfl,hcap⟩
      ·obtain ⟨_,r2⟩:=qil (H:=H) hkk htt hbl hbh hd;refine ⟨_,vl,vh,_,hv,hvl,hvh,r2,VS.mkWin ?_⟩;unfold WinR;rw[hn];exact .inl ⟨rfl,by omega,.inl rfl⟩
      ·have r:=qfr (H:=H) (x:=ni.b) (off:=o2) hkk htt hbl hbh hd (Nat.le_refl 0) (by decide);refine ⟨_,vl,vh,_,hv,hvl,hvh,r,VS.mkWin ?_⟩;have hz:qa1 a=0:=by omega
       have hz2:qa3 0 b=0:=by omega
       unfold WinR;rw[hn];refine .inl ⟨rfl,by omega,.inr ⟨o2,t2,?_,ht2,ho2⟩⟩;rw[hz,hz2];simp
      ·cases htot:ni.tot with
       | none=>
        rw[htot] at hcap;simp only at hcap;subst hcap;rcases hkk' with ⟨_,rfl⟩ | ⟨q,_⟩
        ·have hlen:=hrv.len (λ x u k=>RV.len _ x u k);have hin:w*e2.size+n*ti.size<=(cs'++tl).length:=by
          rw[hsz,<- Nat.add_mul,List.length_append,hlen];have:(w+n)*e2.size<=xs.length*e2.size:=Nat.mul_le_mul_right _ hwn;omega
         have r:=qk5 (x:=ni.b) (off:=w*e2.size) hkk htt hbl hbh hd (by rw[hsz];exact hb') (by rw[hsz];exact Nat.mul_mod_left _ _) hin;refine ⟨_,vl,vh,_,hv,hvl,hvh,r,VS.mkWin ?_⟩;unfold WinR;rw[hn];by_cases hcl:qa1 a=n
         ·rw[if_pos hcl];exact .inl ⟨rfl,by omega,.inl rfl⟩
         ·rw[if_neg hcl,hsz];exact .inr ⟨qae,by rw[Nat.add_mul],by rw[htot]⟩
        ·rw[htot] at q;cases q
       | some tt'=>
        rw[htot] at hcap;simp only at hcap;obtain ⟨h1,h2,h3⟩:=hcap;have r:=qfr (H:=H) (x:=ni.b) (off:=w*e2.size) hkk htt hbl hbh hd h1 h2;refine ⟨_,vl,vh,_,hv,hvl,hvh,r,VS.mkWin ?_⟩;unfold WinR;rw[hn];by_cases hcl:cap=qa1 a
        ·refine .inl ⟨rfl,by omega,.inr ⟨w*e2.size,tt',?_,htot,?_⟩⟩
         ·rw[if_pos hcl,show qa3 n b-qa1 a=0 by omega,show cap-qa1 a=0 by omega]
         ·have:w*e2.size<=(w+cap)*e2.size:=Nat.mul_le_mul_right _ (by omega);omega
        ·refine .inr ⟨cap-qa1 a,?_,?_⟩
         ·rw[if_neg hcl,hsz,Nat.add_mul]
         ·rw[htot];simp only;refine ⟨by omega,by omega,?_⟩;rw[show w+qa1 a+(cap-qa1 a)=w+cap by omega];exact h3
   ·cases e
  ·cases e
 next e1 l a b et hx ha hb hk=>
  split at e
  next ti hti=>
   split at e
   next hsz=>
    cases e;obtain ⟨v,hv,hvs⟩:=hρ _ _ hx;obtain ⟨vl,hvl,hbl⟩:=qbo hρ ha;obtain ⟨vh,hvh,hbh⟩:=qbo hρ hb;have hkk:=ht.kind hk;have htt:=ht _ _ hti;obtain ⟨_,hle,hle2⟩:=qdk (P:=P) (isS:=true) hbl hbh hc (Nat.le_refl l.length);rcases hvs.sl with ⟨rfl,hvv⟩ | ⟨x,off,cap,cs',et',k,rfl,hz,hl,hrv,hcap⟩
    ·obtain ⟨r1,r2⟩:=qil (H:=H) hkk htt hbl hbh hc;have hnil:part ([]:List e1.D) a b=[]:=by cases a <;> cases b <;> simp[part]
     rcases hvv with rfl | rfl
     ·exact ⟨_,vl,vh,_,hv,hvl,hvh,r1,VS.mkSl (.inl ⟨hnil,.inl rfl⟩)⟩
     ·exact ⟨_,vl,vh,_,hv,hvl,hvh,r2,VS.mkSl (.inl ⟨hnil,.inr rfl⟩)⟩
    ·have hpl:(part l a b).length=qa3 l.length b-qa1 a:=by rw[qke _ _ _ hc,List.length_take,List.length_drop];omega
     have hcells:RVL (λ x u=>RV Z e1 x u) (part l a b) ((cs'.drop (off+qa1 a*e1.size)).take ((part l a b).length*e1.size)):=by
      have h1:=RVL.take (λ x u k=>RV.len e1 x u k) (qa3 l.length b-qa1 a) (RVL.drop (λ x u k=>RV.len e1 x u k) (qa1 a) hrv);rw[List.drop_take,List.take_take,List.drop_drop,<- qke _ _ _ hc] at h1;rw[hpl];rw[Nat.min_eq_left (by rw[<- Nat.sub_mul];exact Nat.mul_le_mul_right _ (by omega))] at h1;exact h1
     have hin:off+qa1 a*e1.size+(part l a b).length*e1.size<=cs'.length:=by
      rw[hpl,Nat.add_assoc,<- Nat.add_mul];have:(qa1 a+(qa3 l.length b-qa1 a))*e1.size<=l.length*e1.size:=Nat.mul_le_mul_right _ (by omega);omega
     rcases hcap with ⟨rfl,rfl,hmod⟩ | ⟨h1,h2⟩
     ·have r:=qk5 hkk htt hbl hbh hc (by rw[hsz];exact (hp.zh _ _ hz).1) (by rw[hsz];exact hmod) (by rw[hsz];exact hl);refine ⟨_,vl,vh,_,hv,hvl,hvh,r,VS.mkSl ?_⟩;by_cases hcl:qa1 a=l.length
      ·rw[if_pos hcl];refine .inl ⟨List.eq_nil_of_length_eq_zero (by omega),.inr rfl⟩
      ·rw[if_neg hcl,<- hpl,hsz];exact .inr ⟨_,_,_,_,_,_,rfl,hz,hin,hcells,.inl ⟨rfl,rfl,by rw[Nat.add_mul_mod_self_right];exact hmod⟩⟩
     ·have r:=qfr (H:=H) (x:=x) (off:=off) hkk htt hbl hbh hc h1 h2;refine ⟨_,vl,vh,_,hv,hvl,hvh,r,VS.mkSl ?_⟩;by_cases hcl:cap=qa1 a
      ·rw[if_pos hcl,<- hpl];have hnil:part l a b=[]:=List.eq_nil_of_length_eq_zero (by omega);refine .inr ⟨x,off,cap-qa1 a,cs',et',k,rfl,hz,?_,?_,.inr ⟨by rw[hnil];simp,by omega⟩⟩
       ·rw[hnil];simp;omega
       ·rw[hnil];simp[RVL]
      ·rw[if_neg hcl,<- hpl,hsz];exact .inr ⟨_,_,_,_,_,_,rfl,hz,hin,hcells,.inr ⟨by omega,by omega⟩⟩
   ·cases e
  ·cases e
 next l a b hx ha hb hk=>
  cases e;obtain ⟨v,hv,hvs⟩:=hρ _ _ hx;obtain ⟨vl,hvl,hbl⟩:=qbo hρ ha;obtain ⟨vh,hvh,hbh⟩:=qbo hρ hb;have hkk:=ht.kind hk;simp only[KOK] at hkk;rw[hvs.str] at hv;obtain ⟨h1,hle,hle2⟩:=qdk (P:=P) (isS:=false) hbl hbh hc (Nat.le_refl l.length);have hx':(⟨l.toArray⟩:ByteArray).extract (qa1 a) (qa3 l.length b)=⟨(part l a b).toArray⟩:=by
   rw[qke _ _ _ hc];apply ByteArray.ext;simp[List.extract_eq_take_drop]
  have:qaa P (Instr.sliceAt t (bstr l) vl vh none)=some (bstr (part l a b)):=by
   have h2:qaa P (Instr.sliceBounds false (⟨l.toArray⟩:ByteArray).size (⟨l.toArray⟩:ByteArray).size vl vh none)=some (qa1 a,qa3 l.length b,l.length):=h1;simp only[Instr.sliceAt,Instr.slice,qad,hkk,Option.bind_some,bstr,Option.isSome_none,Bool.false_eq_true,if_false,qac,h2,hx']
  refine ⟨_,vl,vh,_,hv,hvl,hvh,?_,VS.mkStr⟩;simp only[qbv,bstr];simp only[bstr] at this;rw[this];simp[flat]
 next id b n et hx ha hb hk=>
  split at e
  next l ti hl hti=>
   split at e
   next n' e2 hhd=>
    split at e
    next hcond=>
     obtain ⟨rfl,h1,h2,h3⟩:=hcond;cases e;obtain ⟨v,hv,hvs⟩:=hρ _ _ hx;obtain ⟨vl,hvl,hbl⟩:=qbo hρ ha;obtain ⟨vh,hvh,hbh⟩:=qbo hρ hb;have hkk:=ht.kind hk;simp only[KOK] at hkk;have htt:=ht _ _ hti;obtain ⟨ni,hn,rfl⟩:=hvs.ptr;obtain ⟨ni',cs',et',hn',hkt,hbk,hcr⟩:=hp.blk _ _ hl;rw[hn] at hn';cases hn';obtain ⟨k,xs,r,rfl,rfl⟩:=qs3 hhd;simp only[CRL] at hcr;obtain ⟨u,w,rfl,h4,_⟩:=hcr;simp only[CR,RV] at h4;have hu:=RVL.len (R:=λ x u=>RV Z (.int k) x u) (λ x u q=>RV.len (.int k) x u q) h4.2
     obtain ⟨g1,g2,g3⟩:=qdk (P:=P) (isS:=false) hbl hbh (len:=n') (cap:=n') (λ c hcc=>by
      simp only[qay,List.mem_cons,List.not_mem_nil,or_false] at hcc;rcases hcc with rfl | rfl
      ·exact hc _ (by simp)
      ·exact hc _ (by simp)) (Nat.le_refl _)
     have n2:¬ (n'=qae):=by unfold qae;omega
     have htot:ni.tot=some (u++w).length:=by
      rcases hkt with q | ⟨q,k2,q2⟩
      ·exact q
      ·cases r <;> simp[opK,opU] at q2
     refine ⟨_,vl,vh,.slice (some ⟨ni.b,0,none⟩) b.toNat n',hv,hvl,hvh,?_,VS.mkWin ?_⟩
     ·simp only[qbv,hkk,htt.size,g1];simp[qa1,qa3,qaz,n2]
     ·unfold WinR;rw[hn];refine .inr ⟨n',by rw[Nat.zero_mul],?_⟩;rw[htot];have g3:b.toNat<=n':=g3;refine ⟨g3,by omega,?_⟩;rw[h2,Nat.mul_one,Nat.zero_add,List.length_append,hu,h4.1,h2];omega
    ·cases e
   ·cases e
  ·cases e
 ·cases e
theorem ql5 {k1 k2 k3:IntKind} {a b c:Int} {len cap:Nat} (h0:0<=a) (h1:a<b) (h2:b<=c) (h3:c<=(cap:Int)) :
  qaa P (Instr.sliceBounds true len cap (some (.int k1 a)) (some (.int k2 b)) (some (.int k3 c)))=some (a.toNat,b.toNat,c.toNat):=by
 have h4:0<=c:=by omega
 have h5:0<=b:=by omega
 have h6:b<=max c 0:=by omega
 have h7:a<=max b 0:=by omega
 simp[Instr.sliceBounds,Instr.sliceBound,asIntOf,qac,h0,h3,h4,h5,h6,h7]
theorem qnz (ht:TTOK P tt) (hp:PR Z ν S E H) (hρ:∀ x s,ρ x=some s->∃ v,ρ' x=some v/\VS Z ν s v) {t:TypeId} {xo lo hi mx:Operand} {s:SV} {cs:List Prop} {o:Oper} (ho:o.op=.slice t xo (some lo) (some hi) (some mx)) (e:pR tt ρ S.blk o=some (cs,s)) (hc:∀ c∈cs,c) :
  ∃ v vl vh vm y,ρ' xo=some v/\aOpt ρ' (some lo)=some vl/\aOpt ρ' (some hi)=some vh/\aOpt ρ' (some mx)=some vm/\qbv P H t v vl vh vm=some y/\VS Z ν s y:=by
 unfold pR at e;simp only[ho] at e;split at e
 next e1 l k1 a k2 b k3 c et hx ha hb hm hk=>
  split at e
  next ti hti=>
   split at e
   next hsz=>
    cases e;obtain ⟨v,hv,hvs⟩:=hρ _ _ hx;have bl:bnd ρ (some lo)=some (some a):=by simp only[bnd,ha]
    have bh:bnd ρ (some hi)=some (some b):=by simp only[bnd,hb]
    have bm:bnd ρ (some mx)=some (some c):=by simp only[bnd,hm]
    obtain ⟨vl,hvl,hbl⟩:=qbo hρ bl;obtain ⟨vh,hvh,hbh⟩:=qbo hρ bh;obtain ⟨vm,hvm,hbm⟩:=qbo hρ bm;have hkk:=ht.kind hk;simp only[KOK] at hkk;have htt:=ht _ _ hti;have c0:0<=a:=hc _ (by simp);have c1:a<b:=hc _ (by simp);have c2:b<=c:=hc _ (by simp);have c3:c<=(l.length:Int):=hc _ (by simp);have c4:c<1099511627776:=hc _ (by simp)
    cases vl with
    | none=>simp only[BV] at hbl;cases hbl
    | some vl=>
    cases vh with
    | none=>simp only[BV] at hbh;cases hbh
    | some vh=>
    cases vm with
    | none=>simp only[BV] at hbm;cases hbm
    | some vm=>
    obtain ⟨j1,a',rfl,ea⟩:=hbl;obtain ⟨j2,b',rfl,eb⟩:=hbh;obtain ⟨j3,c',rfl,em⟩:=hbm
    cases ea;cases eb;cases em
    have hok:∀ q∈qay l.length (some a) (some b),q:=λ q hq=>by
     simp only[qay,List.mem_cons,List.not_mem_nil,or_false] at hq;rcases hq with rfl | rfl | rfl <;> omega
    rcases hvs.sl with ⟨rfl,_⟩ | ⟨x,off,cap,cs',et',k,rfl,hz,hl,hrv,hcap⟩
    ·exfalso;simp only[List.length_nil] at c3;omega
    ·have elo:qa1 (some a)=a.toNat:=rfl;have ehi:qa3 l.length (some b)=b.toNat:=rfl;have hle:a.toNat<b.toNat:=by omega
     have hle2:b.toNat<=l.length:=by omega
     have hpl:(part l (some a) (some b)).length=b.toNat-a.toNat:=by rw[qke _ _ _ hok,List.length_take,List.length_drop,elo,ehi];omega
     have hcells:RVL (λ x u=>RV Z e1 x u) (part l (some a) (some b)) ((cs'.drop (off+a.toNat * e1.size)).take ((part l (some a) (some b)).length*e1.size)):=by
      have h1:=RVL.take (λ x u k=>RV.len e1 x u k) (b.toNat-a.toNat) (RVL.drop (λ x u k=>RV.len e1 x u k) a.toNat hrv);have e2:=qke _ _ _ hok;rw[elo,ehi] at e2;rw[List.drop_take,List.take_take,List.drop_drop,<- e2] at h1;rw[hpl];rw[Nat.min_eq_left (by rw[<- Nat.sub_mul];exact Nat.mul_le_mul_right _ (by omega))] at h1;exact h1
     have hin:off+a.toNat * e1.size+(part l (some a) (some b)).length*e1.size<=cs'.length:=by
      rw[hpl,Nat.add_assoc,<- Nat.add_mul];have:(a.toNat+(b.toNat-a.toNat))*e1.size<=l.length*e1.size:=Nat.mul_le_mul_right _ (by omega);omega
     have nm:¬ (c.toNat=a.toNat):=by omega
     have no:¬ (c.toNat-a.toNat=qae):=by unfold qae;omega
     have res:VS Z ν (.sl e1 (part l (some a) (some b))) (.slice (some ((⟨x,off,none⟩:Addr).add (a.toNat * ti.size))) (b.toNat-a.toNat) (c.toNat-a.toNat)):=by
      rw[qaz,<- hpl,hsz];exact VS.mkSl (.inr ⟨_,_,_,_,_,_,rfl,hz,hin,hcells,.inr ⟨by omega,by omega⟩⟩)
     rcases hcap with ⟨rfl,rfl,hmod⟩ | ⟨h1,h2⟩
     ·have hb3:=ql5 (P:=P) (k1:=j1) (k2:=j2) (k3:=j3) (len:=l.length) c0 c1 c2 c3;refine ⟨_,_,_,_,_,hv,hvl,hvh,hvm,?_,res⟩;simp only[qbv,hkk];rw[if_neg (by simp),if_pos trivial];have hx0:=(hp.zh _ _ hz).1;simp only[hx0,htt.size,hb3];rw[if_pos ⟨by rw[hsz],by rw[hsz];exact hmod,by rw[hsz];exact hl,trivial,no⟩,if_neg nm]
     ·have n1:cap≠qae:=by unfold qae;omega
      have hb3:=ql5 (P:=P) (k1:=j1) (k2:=j2) (k3:=j3) (len:=l.length) (cap:=cap) c0 c1 c2 (by omega);refine ⟨_,_,_,_,_,hv,hvl,hvh,hvm,?_,res⟩;simp only[qbv,hkk];rw[if_neg (by simp),if_neg n1];simp only[htt.size,hb3];rw[if_pos ⟨trivial,no⟩,if_neg nm]
   ·cases e
  ·cases e
 ·cases e
end
mutual
def kill (i:Nat):SV->SV
 | .win r e id lo n=>if id=i then .dead else .win r e id lo n
 | .ptr id o=>if id=i then .dead else .ptr id o
 | .elp e id k o=>if id=i then .dead else .elp e id k o
 | .aep e id b k o=>if id=i then .dead else .aep e id b k o
 | .mp id=>if id=i then .dead else .mp id
 | .agg l=>.agg (killL i l)
 | .tup l=>.tup (killL i l)
 | .fn f a c=>if qaf i a || qaf i c then .dead else .fn f a c
 | .ifc t g l=>.ifc t g (killL i l)
 | .pta n l j m=>.pta n l j (killL i m)
 | s=>s
def killL (i:Nat):List SV->List SV
 | []=>[]
 | s::l=>kill i s::killL i l
end
def qld (i:Nat):LB->LB
 | .var l=>.var (killL i l)
 | b=>b
def mapS {α β:Type} (f:α->β):List (Nat × α)->List (Nat × β)
 | []=>[]
 | (k,x)::l=>(k,f x)::mapS f l
theorem qaq {α β:Type} (f:α->β) (j:Nat):∀ l:List (Nat × α),lk (mapS f l) j=(lk l j).map f
 | []=>rfl
 | (k,x)::l=>by
  simp only[mapS,lk];split
  ·rfl
  ·exact qaq f j l
def PS.kill (i:Nat) (S:PS):PS:=⟨mapS (Px.kill i) (rm S.env i),mapS (qld i) (rm S.blk i)⟩
section
variable {P:Program} {tt:TT} {Z:Nat->Option ABlk} {ν:Nu} {S:PS} {E:T Value} {H:AHeap} {ρ:Operand->Option SV} {ρ':Operand->Option Value}
theorem CR.dead {s:SV} {vs:List Value} (h:CR Z ν s vs) (hs:∀ l,s≠.agg l) (ha:∀ n e l,s≠.arr n e l) (hp:∀ n l j m,s≠.pta n l j m:=by intros;simp):CR Z ν .dead vs:=by
 have hl:=h.len;have h1:s.size=1:=by
  cases s with
  | agg l=>exact absurd rfl (hs l)
  | arr n e l=>exact absurd rfl (ha n e l)
  | pta n l j m=>exact absurd rfl (hp n l j m)
  | _=>rfl
 rw[h1] at hl
 match vs,hl with
 | [v],_=>
  have hc:=h.oneCells hs ha;simp only[CR];refine ⟨v,rfl,hc,?_⟩
  cases v with
  | agg cs=>
   simp only[Value.cells] at hc;have h2:=congrArg Array.toList hc;exfalso
   cases cs with
   | mk l=>
    have h3:SizeOf.sizeOf l=SizeOf.sizeOf [Value.agg ⟨l⟩]:=congrArg SizeOf.sizeOf h2;simp at h3;omega
  | tuple cs=>
   exfalso
   cases s with
   | agg l=>exact absurd rfl (hs l)
   | arr n e l=>exact absurd rfl (ha n e l)
   | tup l=>simp only[CR] at h
   | sl e l=>
    simp only[CR,RV] at h;obtain ⟨w,e1,h⟩:=h;cases e1;have:=h.one;simp[Value.oneCell'] at this
   | win r e id lo len=>
    simp only[CR,WinR] at h;obtain ⟨w,e1,h⟩:=h;cases e1;split at h
    ·obtain ⟨_,_,h | ⟨_,h⟩⟩:=h <;> simp[emptySlice] at h
    ·rcases h with ⟨_,_,h | ⟨_,_,h,_⟩⟩ | ⟨_,h,_⟩ <;> simp[emptySlice] at h
   | nils=>simp only[CR] at h;cases h
   | dead=>simp only[CR] at h;obtain ⟨w,e1,_,h⟩:=h;cases e1;simp[Value.oneCell'] at h
   | int k n=>simp only[CR] at h;cases h
   | bool b=>simp only[CR] at h;cases h
   | str l=>simp only[CR,bstr] at h;cases h
   | ptr id off=>simp only[CR] at h;obtain ⟨_,_,h⟩:=h;cases h
   | elp e id i off=>simp only[CR] at h;obtain ⟨_,_,h⟩:=h;cases h
   | aep e id b i off=>simp only[CR] at h;obtain ⟨_,_,h⟩:=h;cases h
   | elv σ x=>simp only[CR] at h;obtain ⟨_,_,_,_,_,h,_⟩:=h;cases h
   | fn f a c=>simp only[CR] at h;obtain ⟨_,_,h,_⟩:=h;cases h
   | yl l=>simp only[CR] at h;cases h
   | mp id=>simp only[CR] at h;obtain ⟨_,_,h⟩:=h;cases h
   | nilm=>simp only[CR] at h;cases h
   | nilp=>simp only[CR] at h;cases h
   | ifc t g l=>simp only[CR] at h;obtain ⟨_,_,_,h,_⟩:=h;cases h
   | pta n l j m=>exact absurd rfl (hp n l j m)
  | _=>rfl
mutual
theorem CR.kill {i:Nat} {x:Option NI}:∀ (s:SV) (vs:List Value),CR Z ν s vs->CR Z (Upd ν i x) (Px.kill i s) vs
 | .nils,_,h=>h
 | .dead,_,h=>h
 | .int _ _,_,h=>h
 | .bool _,_,h=>h
 | .str _,_,h=>h
 | .sl _ _,_,h=>h
 | .arr _ _ _,_,h=>h
 | .elv _ _,_,h=>h
 | .win r e id lo n,vs,h=>by
  simp only[Px.kill];split
  ·exact (h.dead (by intros;simp) (by intros;simp):CR Z ν .dead vs)
  next hn=>exact CR.upd _ _ (by simp[ment,hn]) h
 | .ptr id o,vs,h=>by
  simp only[Px.kill];split
  ·exact (h.dead (by intros;simp) (by intros;simp):CR Z ν .dead vs)
  next hn=>exact CR.upd _ _ (by simp[ment,hn]) h
 | .elp e id k o,vs,h=>by
  simp only[Px.kill];split
  ·exact (h.dead (by intros;simp) (by intros;simp):CR Z ν .dead vs)
  next hn=>exact CR.upd _ _ (by simp[ment,hn]) h
 | .aep e id b k o,vs,h=>by
  simp only[Px.kill];split
  ·exact (h.dead (by intros;simp) (by intros;simp):CR Z ν .dead vs)
  next hn=>exact CR.upd _ _ (by simp[ment,hn]) h
 | .agg l,vs,h=>by
  simp only[Px.kill,CR] at h |-;exact CRL.kill l vs h
 | .tup l,vs,h=>by simp only[CR] at h
 | .fn f a c,vs,h=>by
  simp only[Px.kill];split
  ·exact (h.dead (by intros;simp) (by intros;simp):CR Z ν .dead vs)
  next hn=>exact CR.upd _ _ (by simpa [ment] using hn) h
 | .yl _,_,h=>h
 | .nilm,_,h=>h
 | .nilp,_,h=>h
 | .ifc t g l,vs,h=>by
  simp only[Px.kill,CR] at h |-;obtain ⟨us,v,h1,h2,h3⟩:=h;exact ⟨us,v,CRL.kill l us h1,h2,h3⟩
 | .pta _ _ _ l,vs,h=>by
  simp only[Px.kill,CR] at h |-;obtain ⟨us,v,h1,h2⟩:=h;exact ⟨us,v,CRL.kill l us h1,h2⟩
 | .mp id,vs,h=>by
  simp only[Px.kill];split
  ·exact (h.dead (by intros;simp) (by intros;simp):CR Z ν .dead vs)
  next hn=>exact CR.upd _ _ (by simp[ment,hn]) h
theorem CRL.kill {i:Nat} {x:Option NI}:∀ (l:List SV) (vs:List Value),CRL Z ν l vs->CRL Z (Upd ν i x) (Px.killL i l) vs
 | [],_,h=>h
 | s::l,vs,h=>by
  simp only[Px.killL,CRL] at h |-;obtain ⟨u,w,e,h1,h2⟩:=h;exact ⟨u,w,e,CR.kill s u h1,CRL.kill l w h2⟩
end
theorem V1.kill {i:Nat} {x:Option NI} {s:SV} {v:Value} (h:V1 Z ν s v):V1 Z (Upd ν i x) (Px.kill i s) v:=by
 cases s with
 | agg l=>obtain ⟨vs,e,h⟩:=h;exact ⟨vs,e,CRL.kill l vs h⟩
 | arr n e l=>exact h
 | tup l=>have:CR Z ν (.tup l) [v]:=h;simp only[CR] at this
 | win r e id lo n=>
  have:=CR.kill (i:=i) (x:=x) _ _ (V1.one h (by intros;simp) (by intros;simp));simp only[Px.kill] at this |-;split at this <;> rename_i hn
  ·rw[if_pos hn];exact this
  ·rw[if_neg hn];exact this
 | ptr id o=>
  have:=CR.kill (i:=i) (x:=x) _ _ (V1.one h (by intros;simp) (by intros;simp));simp only[Px.kill] at this |-;split at this <;> rename_i hn
  ·rw[if_pos hn];exact this
  ·rw[if_neg hn];exact this
 | elp e id k o=>
  have:=CR.kill (i:=i) (x:=x) _ _ (V1.one h (by intros;simp) (by intros;simp));simp only[Px.kill] at this |-;split at this <;> rename_i hn
  ·rw[if_pos hn];exact this
  ·rw[if_neg hn];exact this
 | aep e id b k o=>
  have:=CR.kill (i:=i) (x:=x) _ _ (V1.one h (by intros;simp) (by intros;simp));simp only[Px.kill] at this |-;split at this <;> rename_i hn
  ·rw[if_pos hn];exact this
  ·rw[if_neg hn];exact this
 | fn f a c=>
  have:=CR.kill (i:=i) (x:=x) _ _ (V1.one h (by intros;simp) (by intros;simp));simp only[Px.kill] at this |-;split at this <;> rename_i hn
  ·rw[if_pos hn];exact this
  ·rw[if_neg hn];exact this
 | mp id=>
  have:=CR.kill (i:=i) (x:=x) _ _ (V1.one h (by intros;simp) (by intros;simp));simp only[Px.kill] at this |-;split at this <;> rename_i hn
  ·rw[if_pos hn];exact this
  ·rw[if_neg hn];exact this
 | ifc t g l=>exact CR.kill (i:=i) (x:=x) (.ifc t g l) [v] (V1.one h (by intros;simp) (by intros;simp))
 | pta n l j m=>exact CR.kill (i:=i) (x:=x) (.pta n l j m) [v] (V1.one h (by intros;simp) (by intros;simp))
 | _=>exact h
theorem V1L.kill {i:Nat} {x:Option NI}:∀ {l:List SV} {vs:List Value},V1L Z ν l vs->V1L Z (Upd ν i x) (Px.killL i l) vs
 | [],_,h=>h
 | _::_,_,⟨v,w,e,h1,h2⟩=>⟨v,w,e,h1.kill,V1L.kill h2⟩
theorem VS.kill {i:Nat} {x:Option NI} {s:SV} {v:Value} (h:VS Z ν s v):VS Z (Upd ν i x) (Px.kill i s) v:=by
 cases s with
 | tup l=>obtain ⟨vs,e,h⟩:=h;exact ⟨vs,e,h.kill⟩
 | _=>exact (V1.kill (VS.v1 h (by intros;simp))).vs
theorem qx3 (i:Nat):∀ s:SV,opU (Px.kill i s)=opU s:=by
 intro s
 cases s <;> simp only[Px.kill] <;> (try split) <;> rfl
theorem qx4 (i:Nat):∀ s:SV,opE (Px.kill i s)=opE s:=by
 intro s
 cases s <;> simp only[Px.kill] <;> (try split) <;> rfl
theorem qra (i:Nat):∀ l:List SV,opK (killL i l)=opK l
 | []=>rfl
 | [_]=>rfl
 | a::b::l=>qpr (qx3 i) (qx4 i) a b l _
theorem BR.kill {i id:Nat} {x:Option NI} {lb:LB} (hid:id≠i) (h:BR Z ν H id lb):BR Z (Upd ν i x) H id (qld i lb):=by
 cases lb with
 | var l=>
  obtain ⟨ni,cs,et,h1,h2,h3,h4⟩:=h;exact ⟨ni,cs,et,by simp only[Upd,if_neg hid];exact h1,h2.of (qra i l),by rw[qjg (qra i l)];exact h3,CRL.kill l cs h4⟩
 | row et e xs=>
  simp only[BR,qld,Upd,if_neg hid] at h |-;exact h
 | mp κ σ l=>
  simp only[BR,qld,Upd,if_neg hid] at h |-;exact h
 | iter l pos=>
  simp only[BR,qld,Upd,if_neg hid] at h |-;exact h
theorem PR.kill (hp:PR Z ν S E H) (i:Nat) (x:Option NI):PR Z (Upd ν i x) (S.kill i) E H where
 env t s h:=by
  simp only[PS.kill,qaq,qbu] at h;split at h
  ·cases h
  ·rw[Option.map_eq_some_iff] at h;obtain ⟨s0,h0,rfl⟩:=h;obtain ⟨v,hv,hs⟩:=hp.env t s0 h0;exact ⟨v,hv,hs.kill⟩
 blk id lb h:=by
  simp only[PS.kill,qaq,qbu] at h;split at h
  ·cases h
  next hne=>rw[Option.map_eq_some_iff] at h;obtain ⟨l0,h0,rfl⟩:=h;exact (hp.blk id l0 h0).kill hne
 zh:=hp.zh
 zo b h:=by
  obtain ⟨id,lb,ni,h1,h2,h3⟩:=h;simp only[PS.kill,qaq,qbu] at h1;split at h1
  ·cases h1
  next hne=>rw[Option.map_eq_some_iff] at h1;obtain ⟨l0,h0,rfl⟩:=h1;simp only[Upd,if_neg hne] at h2;exact hp.zo b ⟨id,l0,ni,h0,h2,h3⟩
 inj i1 j li lj ni nj h1 h2 h3 h4 h5:=by
  simp only[PS.kill,qaq,qbu] at h1 h2;split at h1
  ·cases h1
  next hi=>
   split at h2
   ·cases h2
   next hj=>rw[Option.map_eq_some_iff] at h1 h2;obtain ⟨a,ha,_⟩:=h1;obtain ⟨c,hc,_⟩:=h2;simp only[Upd,if_neg hi,if_neg hj] at h3 h4;exact hp.inj _ _ _ _ _ _ ha hc h3 h4 h5
theorem qf1 {i:Nat} {x:Option NI} {b:Nat} (h:Own (Upd ν i x) (S.kill i) b):Own ν S b/\∀ lb ni,lk S.blk i=some lb->ν i=some ni->True:=by
 obtain ⟨id,lb,ni,h1,h2,h3⟩:=h;simp only[PS.kill,qaq,qbu] at h1;split at h1
 ·cases h1
 next hne=>rw[Option.map_eq_some_iff] at h1;obtain ⟨l0,h0,rfl⟩:=h1;simp only[Upd,if_neg hne] at h2;exact ⟨⟨id,l0,ni,h0,h2,h3⟩,λ _ _ _ _=>trivial⟩
theorem BR.heap {H':AHeap} {id:Nat} {lb:LB} (h:BR Z ν H id lb) (hk:∀ ni,ν id=some ni->H'.t.get ni.b=H.t.get ni.b):BR Z ν H' id lb:=by
 cases lb with
 | var l=>
  obtain ⟨ni,cs,et,h1,h2,h3,h4⟩:=h;exact ⟨ni,cs,et,h1,h2,by rw[hk _ h1];exact h3,h4⟩
 | row et e xs=>
  obtain ⟨h0,h⟩:=h;refine ⟨h0,?_⟩;rcases h with h | ⟨ni,cs,tl,k,h1,h2,h3⟩
  ·exact .inl h
  ·exact .inr ⟨ni,cs,tl,k,h1,by rw[hk _ h1];exact h2,h3⟩
 | mp κ σ l=>
  obtain ⟨g1,g2,ni,es,h1,h2,h3⟩:=h;exact ⟨g1,g2,ni,es,h1,by rw[hk _ h1];exact h2,h3⟩
 | iter l pos=>
  obtain ⟨ni,h1,h2⟩:=h;exact ⟨ni,h1,by rw[hk _ h1];exact h2⟩
theorem BR.at {id:Nat} {lb:LB} (h:BR Z ν H id lb) {ni:NI} (hn:ν id=some ni):∃ y,H.t.get ni.b=some y:=by
 cases lb with
 | var l=>
  obtain ⟨ni',cs,et,h1,h2,h3,h4⟩:=h;rw[hn] at h1;cases h1;exact ⟨_,h3⟩
 | row et e xs=>
  obtain ⟨h0,h⟩:=h;rcases h with ⟨h,_⟩ | ⟨ni',cs,tl,k,h1,h2,h3⟩
  ·rw[hn] at h;cases h
  ·rw[hn] at h1;cases h1;exact ⟨_,h2⟩
 | mp κ σ l=>
  obtain ⟨g1,g2,ni',es,h1,h2,h3⟩:=h;rw[hn] at h1;cases h1;exact ⟨_,h2⟩
 | iter l pos=>
  obtain ⟨ni',h1,h2⟩:=h;rw[hn] at h1;cases h1;exact ⟨_,h2⟩
theorem PR.put (hp:PR Z ν S E H) {d:Nat} {s:SV} {v:Value} {E':T Value} {n:Nat} (hd:putE n (some d) v E=some E') (h:VS Z ν s v):PR Z ν ⟨st S.env d s,S.blk⟩ E' H where
 env t s' e:=by
  simp only[putE] at hd;split at hd
  next hc=>
   cases hd;simp only[qan] at e;split at e
   next ht=>cases e;subst ht;exact ⟨v,T.get_set_same 20 _ _ _ (Nat.lt_trans (Nat.succ_lt_succ hc.2) (by decide)),h⟩
   next ht=>obtain ⟨v',hv,hs⟩:=hp.env t s' e;exact ⟨v',by rw[T.get_set_other _ _ _ _ _ ht];exact hv,hs⟩
  ·cases hd
 blk:=hp.blk
 zh:=hp.zh
 zo:=hp.zo
 inj:=hp.inj
theorem PR.lose (hp:PR Z ν S E H) {d:Nat} {v:Value} {E':T Value} {n:Nat} (hd:putE n (some d) v E=some E'):PR Z ν ⟨rm S.env d,S.blk⟩ E' H where
 env t s' e:=by
  simp only[putE] at hd;split at hd
  ·cases hd;simp only[qbu] at e
   split at e
   ·cases e
   next ht=>obtain ⟨v',hv,hs⟩:=hp.env t s' e;exact ⟨v',by rw[T.get_set_other _ _ _ _ _ ht];exact hv,hs⟩
  ·cases hd
 blk:=hp.blk
 zh:=hp.zh
 zo:=hp.zo
 inj:=hp.inj
theorem PR.add (hp:PR Z ν S E H) (hdom:∀ i x,H.t.get i=some x->i<H.next) {d:Nat} {ni:NI} {x:ABlk} {lb:LB} (hb:ni.b=H.next) (hl:BR Z (Upd ν d (some ni)) (H.add x) d lb):PR Z (Upd ν d (some ni)) ⟨(S.kill d).env,st (S.kill d).blk d lb⟩ E (H.add x) where
 env:=(hp.kill d (some ni)).env
 blk id l h:=by
  simp only[qan] at h;split at h
  next hd=>cases h;subst hd;exact hl
  next hd=>
   have:=(hp.kill d (some ni)).blk id l h;refine this.heap λ ni' hn'=>?_
   obtain ⟨_,hg⟩:=this.at hn';exact AHeap.get_add_other (by have:=hdom _ _ hg;omega)
 zh b y h:=by
  obtain ⟨h1,h2⟩:=hp.zh b y h;exact ⟨by rw[AHeap.get_add_other (by have:=hdom _ _ h1;omega)];exact h1,h2⟩
 zo b h:=by
  obtain ⟨id,l,ni',h1,h2,h3⟩:=h;simp only[qan] at h1;split at h1
  next hd=>
   subst hd;simp only[Upd,if_true,Option.some.injEq] at h2;subst h2
   cases hz:Z b with
   | none=>rfl
   | some y=>have:=hdom _ _ (hp.zh b y hz).1;omega
  ·exact (hp.kill d (some ni)).zo b ⟨id,l,ni',h1,h2,h3⟩
 inj i j li lj n1 n2 h1 h2 h3 h4 h5:=by
  simp only[qan] at h1 h2;have hk:=hp.kill d (some ni);have old:∀ i li n1,lk (S.kill d).blk i=some li->Upd ν d (some ni) i=some n1->n1.b≠H.next:=by
   intro i li n1 g1 g2 e;obtain ⟨_,hg⟩:=(hk.blk i li g1).at g2;have:=hdom _ _ hg;omega
  by_cases hi:i=d <;> by_cases hj:j=d
  ·rw[hi,hj]
  ·rw[if_neg hj] at h2;subst hi;simp only[Upd,if_true,Option.some.injEq] at h3;subst h3;exact absurd (h5.symm.trans hb) (old j lj n2 h2 h4)
  ·rw[if_neg hi] at h1;subst hj;simp only[Upd,if_true,Option.some.injEq] at h4;subst h4;exact absurd (h5.trans hb) (old i li n1 h1 h3)
  ·rw[if_neg hi] at h1;rw[if_neg hj] at h2;exact hk.inj _ _ _ _ _ _ h1 h2 h3 h4 h5
theorem FC.add {d:Nat} {ni:NI} {x:ABlk} {lb:LB} (hdB:d<BIG) (hb:ni.b=H.next):FC Z ν S H Z (Upd ν d (some ni)) ⟨(S.kill d).env,st (S.kill d).blk d lb⟩ (H.add x) where
 z:=ZLe.refl _
 zn _ h:=.inl h
 le:=by simp[AHeap.add]
 old b y h hlt _:=by rw[AHeap.get_add_other (by omega)];exact h
 own b h:=by
  obtain ⟨id,l,ni',h1,h2,h3⟩:=h;simp only[qan] at h1;split at h1
  next hd=>subst hd;simp only[Upd,if_true,Option.some.injEq] at h2;subst h2;exact .inr (by omega)
  ·exact .inl (qf1 ⟨id,l,ni',h1,h2,h3⟩).1
 big id hB h:=by
  have hne:id≠d:=by omega
  simp only[qan,if_neg hne,PS.kill,qaq,qbu] at h;refine ⟨λ e=>h (by rw[e];rfl),by simp[Upd,hne]⟩
theorem PR.turn (hp:PR Z ν S E H) {d:Nat} {ni:NI} {x:ABlk} {l0 lb:LB} (hl0:lk S.blk d=some l0) (hn:ν d=some ni) (hl:BR Z ν (H.put ni.b x) d lb):PR Z ν ⟨S.env,st S.blk d lb⟩ E (H.put ni.b x) where
 env:=hp.env
 blk id l h:=by
  simp only[qan] at h;split at h
  next hd=>cases h;subst hd;exact hl
  next hd=>
   have:=hp.blk id l h;refine this.heap λ ni' hn'=>?_
   exact AHeap.get_put_other λ e=>hd (hp.inj _ _ _ _ _ _ h hl0 hn' hn e)
 zh b y h:=by
  obtain ⟨h1,h2⟩:=hp.zh b y h;refine ⟨?_,h2⟩;rw[AHeap.get_put_other]
  ·exact h1
  ·rintro rfl;rw[hp.zo ni.b ⟨d,l0,ni,hl0,hn,rfl⟩] at h;cases h
 zo b h:=by
  obtain ⟨id,l,ni',h1,h2,h3⟩:=h;simp only[qan] at h1;split at h1
  next hd=>subst hd;exact hp.zo b ⟨id,l0,ni',hl0,h2,h3⟩
  ·exact hp.zo b ⟨id,l,ni',h1,h2,h3⟩
 inj i j li lj n1 n2 h1 h2 h3 h4 h5:=by
  simp only[qan] at h1 h2;have g:∀ i li,(if i=d then some lb else lk S.blk i)=some li->∃ l',lk S.blk i=some l':=by
   intro i li h;split at h
   next e=>subst e;exact ⟨_,hl0⟩
   ·exact ⟨_,h⟩
  obtain ⟨a,ha⟩:=g _ _ h1;obtain ⟨c,hc⟩:=g _ _ h2;exact hp.inj _ _ _ _ _ _ ha hc h3 h4 h5
theorem FC.turn {d:Nat} {ni:NI} {x:ABlk} {l0 lb:LB} (hl0:lk S.blk d=some l0) (hn:ν d=some ni):FC Z ν S H Z ν ⟨S.env,st S.blk d lb⟩ (H.put ni.b x) where
 z:=ZLe.refl _
 zn _ h:=.inl h
 le:=by simp[AHeap.put]
 old b y h _ ho:=by
  rw[AHeap.get_put_other]
  ·exact h
  ·rintro rfl;exact ho ⟨d,l0,ni,hl0,hn,rfl⟩
 own b h:=by
  obtain ⟨id,l,ni',h1,h2,h3⟩:=h;simp only[qan] at h1;split at h1
  next hd=>subst hd;exact .inl ⟨id,l0,ni',hl0,h2,h3⟩
  ·exact .inl ⟨id,l,ni',h1,h2,h3⟩
 big id hB h:=by
  refine ⟨?_,rfl⟩;simp only[qan] at h;split at h
  next hd=>subst hd;rw[hl0];simp
  ·exact h
theorem FC.env {e:List (Nat × SV)} {Z':Nat->Option ABlk} {ν':Nu} {S':PS} {H':AHeap} (h:FC Z ν S H Z' ν' S' H'):FC Z ν S H Z' ν' ⟨e,S'.blk⟩ H':=⟨h.z,h.zn,h.le,h.old,λ b ⟨id,lb,ni,h1,h2,h3⟩=>h.own b ⟨id,lb,ni,h1,h2,h3⟩,h.big⟩
end
section
variable {P:Program} {tt:TT} {Z:Nat->Option ABlk} {ν:Nu} {S:PS} {E:T Value} {H:AHeap} {ρ:Operand->Option SV} {ρ':Operand->Option Value}
def qp5:TK->TypeDesc
 | .int k=>.int k
 | .str=>.string
 | _=>.bool
theorem qwo (a b:List UInt8):((⟨a.toArray⟩:ByteArray) == ⟨b.toArray⟩)=decide (a=b):=by
 show (a.toArray == b.toArray)=_
 by_cases h:a=b
 ·subst h;simp
 ·rw[decide_eq_false h];simp[h]
theorem qok (σ:Sh) (x:σ.D):qen (ofD σ x)=false:=by cases σ <;> rfl
theorem qm7 {κ:Sh} {kk:TK} {kt:TypeId} (hk:keyK κ kk=true) (h:KOK P kt kk):qaa P (underlying kt)=some (qp5 kk)/\∀ (e:Bool) (n:Nat) (v:Value),qaa P (Instr.checkKey e (n+1) kt v)=some ():=by
 have key:∀ {d:TypeDesc},qaa P (underlying kt)=some d->(d=.bool\/d=.string\/∃ k,d=.int k)->∀ (e:Bool) (n:Nat) (v:Value),qaa P (Instr.checkKey e (n+1) kt v)=some ():=by
  intro d hd hor e n v;unfold Instr.checkKey;rw[qad,hd];simp only[Option.bind_some];rcases hor with rfl | rfl | ⟨k,rfl⟩ <;> rfl
 cases κ <;> cases kk <;> simp only[keyK] at hk <;> first | (cases hk;done) | skip
 ·simp only[KOK] at h;exact ⟨h,key h (.inr (.inr ⟨_,rfl⟩))⟩
 ·simp only[KOK] at h;exact ⟨h,key h (.inl rfl)⟩
 ·simp only[KOK] at h;exact ⟨h,key h (.inr (.inl rfl))⟩
theorem qjs {κ:Sh} {kk:TK} (hk:keyK κ kk=true) {a b:κ.D} {va vb:Value} (ha:VD Z κ a va) (hb:VD Z κ b vb) :
  Instr.sameNow (qp5 kk) va vb=some (eqK κ a b)/\(eqK κ a b=true->va=vb/\Instr.sameBits 10000 vb va=true)/\Ax.flat va=true:=by
 obtain ⟨u,hu,hu2⟩:=ha;obtain ⟨w,hw,hw2⟩:=hb
 cases κ <;> cases kk <;> simp only[keyK] at hk <;> first | (cases hk;done) | skip
 ·have hk:=of_decide_eq_true hk;simp only[RV] at hu hw;subst hu;subst hw;simp[Sh.isAgg] at hu2 hw2;subst hu2;subst hw2;refine ⟨?_,λ e=>?_,rfl⟩
  ·simp only[qp5,Instr.sameNow,if_true,eqK]
   congr 1
  ·have e:=of_decide_eq_true e;subst e;exact ⟨rfl,by simp[Instr.sameBits]⟩
 ·simp only[RV] at hu hw;subst hu;subst hw;simp[Sh.isAgg] at hu2 hw2;subst hu2;subst hw2;refine ⟨?_,λ e=>?_,rfl⟩
  ·simp only[qp5,Instr.sameNow,eqK]
   congr 1
  ·have e:=of_decide_eq_true e;subst e;exact ⟨rfl,by simp[Instr.sameBits]⟩
 ·simp only[RV] at hu hw;subst hu;subst hw;simp[Sh.isAgg] at hu2 hw2;subst hu2;subst hw2;refine ⟨?_,λ e=>?_,rfl⟩
  ·simp only[bstr,qp5,Instr.sameNow,eqK,qwo]
  ·have e:=of_decide_eq_true e;subst e;exact ⟨rfl,by simp only[bstr,Instr.sameBits,qwo];simp⟩
theorem qk6 {κ σ:Sh} {kk:TK} (hk:keyK κ kk=true) {y:κ.D} {kv:Value} (hy:VD Z κ y kv):∀ {l:List (κ.D × σ.D)} {es:List (Value × Value)} (i:Nat),MpR Z l es ->
  (getM l y=none/\qjl (qp5 kk) kv es i=some none/\∀ z zv,VD Z σ z zv->MpR Z (updM l y z) (es++[(kv,zv)])) \/
  ∃ v j x,getM l y=some v/\qjl (qp5 kk) kv es i=some (some (j,x))/\VD Z σ v x/\i<=j/\(∃ e,es[j-i]?=some e/\Instr.sameBits 10000 e.1 kv=true)/\∀ z zv,VD Z σ z zv->MpR Z (updM l y z) (es.set (j-i) (kv,zv))
 | [],es,i,h=>by
  simp only[MpR] at h;subst h;exact .inl ⟨rfl,rfl,λ z zv hz=>⟨_,_,rfl,hy,hz,rfl⟩⟩
 | p::l,_,i,⟨e,r,h1,h2,h3,h4⟩=>by
  subst h1;obtain ⟨s1,s2,_⟩:=qjs hk hy h2;simp only[getM,qjl,s1]
  cases hq:eqK κ y p.1 with
  | true=>
   obtain ⟨_,s3⟩:=s2 hq;refine .inr ⟨p.2,i,e.2,rfl,rfl,h3,Nat.le_refl _,⟨e,by simp,s3⟩,λ z zv hz=>?_⟩;simp only[updM,hq,Nat.sub_self,List.set_cons_zero];exact ⟨_,_,rfl,hy,hz,h4⟩
  | false=>
   rcases qk6 hk hy (i+1) h4 with ⟨g1,g2,g3⟩ | ⟨v,j,x,g1,g2,g3,g4,⟨e',g5,g6⟩,g7⟩
   ·refine .inl ⟨g1,g2,λ z zv hz=>?_⟩;simp only[updM,hq];exact ⟨_,_,rfl,h2,h3,g3 z zv hz⟩
   ·have ej:j-i=(j-(i+1))+1:=by omega
    refine .inr ⟨v,j,x,g1,g2,g3,by omega,⟨e',by rw[ej,List.getElem?_cons_succ];exact g5,g6⟩,λ z zv hz=>?_⟩;simp only[updM,hq];rw[ej,List.set_cons_succ];exact ⟨_,_,rfl,h2,h3,g7 z zv hz⟩
theorem MpR.mono {Z':Nat->Option ABlk} (hz:ZLe Z Z') {κ σ:Sh}:∀ {l:List (κ.D × σ.D)} {es:List (Value × Value)},MpR Z l es->MpR Z' l es
 | [],_,h=>h
 | _::_,_,⟨e,r,h1,⟨u,hu,hu2⟩,⟨w,hw,hw2⟩,h4⟩=>⟨e,r,h1,⟨u,RV.mono hz _ _ _ hu,hu2⟩,⟨w,RV.mono hz _ _ _ hw,hw2⟩,h4.mono hz⟩
theorem VD.vs {σ:Sh} {x:σ.D} {v:Value} (h:VD Z σ x v):VS Z ν (ofD σ x) v:=by
 obtain ⟨u,h1,h2⟩:=h;exact qhn h1 h2
theorem qg3 {σ:Sh} {s:SV} {x:σ.D} {v:Value} (h:toF σ s=some x) (hv:VS Z ν s v):VD Z σ x v:=by
 unfold toF at h;split at h
 next hc=>
  have h1:=hv.v1 (λ l e=>by subst e;simp[qen] at hc);refine ⟨v.cells.toList,qg4 h h1.items,?_⟩
  cases ha:σ.isAgg with
  | true=>
   simp only[if_true];rw[ha] at hc;have hag:=hc.1
   cases s with
   | agg l=>obtain ⟨vs,rfl,_⟩:=h1;rfl
   | arr n e l=>obtain ⟨vs,rfl,_⟩:=h1;rfl
   | _=>simp[qg0] at hag
  | false=>
   simp only[Bool.false_eq_true,if_false];rw[ha] at hc;have hag:=hc.1;have h2:∀ l,s≠.agg l:=by rintro l rfl;simp[qg0] at hag
   have h3:∀ n e l,s≠.arr n e l:=by rintro n e l rfl;simp[qg0] at hag
   rw[(V1.one h1 h2 h3).oneCells h2 h3]
 ·cases h
theorem qs7 {t:TypeId} {i:TI} (h:TOK P t i) (ha:i.agg=i.sh.isAgg) (hs:i.sh.size=i.size):∃ z,qaa P (zeroValue t)=some z/\Ax.flat z=true/\VD Z i.sh i.sh.dflt z:=by
 obtain ⟨z,h1,h2,_,_,h5⟩:=h.zero;refine ⟨z,h1,h2,z.cells.toList,h5 hs Z,?_⟩;have:=h.zf z h1;rw[ha] at this
 cases hq:i.sh.isAgg with
 | true=>rw[hq] at this;simpa using this
 | false=>rw[hq] at this;simp only[Bool.false_eq_true,if_false] at this |-;rw[this]
theorem VS.mp {id:Nat} {v:Value} (h:VS Z ν (.mp id) v):∃ ni,ν id=some ni/\v=.map (some ni.b):=by
 have:CR Z ν (.mp id) [v]:=h;simp only[CR] at this;obtain ⟨ni,h1,h2⟩:=this;cases h2;exact ⟨ni,h1,rfl⟩
theorem VS.nilm {v:Value} (h:VS Z ν .nilm v):v=.map none:=by
 have:CR Z ν .nilm [v]:=h;simp only[CR] at this
 cases this;rfl
theorem qsr (ht:TTOK P tt) {t kt et:TypeId} {kk:TK} {ei:TI} {κ:Sh} {y:κ.D} {xv kv:Value} {com:Bool} (hk:kOf tt t=some (.map kt et)) (hkk:kOf tt kt=some kk) (hei:lk tt et=some ei)
  (hs:shK kk=some κ) (hag:ei.agg=ei.sh.isAgg) (hsz:ei.sh.size=ei.size) (hx:VS Z ν .nilm xv) (hy:VD Z κ y kv) :
  ∃ r,qft P H t xv kv com=some r/\VS Z ν (match com with
   | true=>.tup [ofD ei.sh ei.sh.dflt,.bool false]
   | false=>ofD ei.sh ei.sh.dflt) r:=by
 have hkey:keyK κ kk=true:=by cases kk <;> simp only[shK] at hs <;> cases hs <;> simp[keyK]
 have hkt:=ht.kind hk;simp only[KOK] at hkt;obtain ⟨hd,hck⟩:=qm7 (P:=P) hkey (ht.kind hkk);obtain rfl:=hx.nilm;obtain ⟨z,hz1,hz2,hz3⟩:=qs7 (Z:=Z) (ht _ _ hei) hag hsz;have hfk:=(qjs hkey hy hy).2.2;refine ⟨if com then .tuple #[z,.bool false] else z,?_,?_⟩
 ·unfold qft;rw[hkt];simp only[qh6,hfk,if_true,hck _ 9999 kv,hd,qjl,hz1,hz2]
 ·cases com with
  | false=>exact hz3.vs
  | true=>
   have h1:VS Z ν (ofD ei.sh ei.sh.dflt) z:=hz3.vs;have h2:V1 Z ν (ofD ei.sh ei.sh.dflt) z:=h1.v1 λ l e=>by
    have:=qok ei.sh ei.sh.dflt;rw[e] at this;simp[qen] at this
   exact ⟨[z,.bool false],rfl,z,_,rfl,h2,.bool false,[],rfl,by show CR Z ν _ _;simp only[CR],rfl⟩
theorem qvm (ht:TTOK P tt) (hp:PR Z ν S E H) {t kt et:TypeId} {kk:TK} {ei:TI} {κ σ:Sh} {l:List (κ.D × σ.D)} {id:Nat} {y:κ.D} {xv kv:Value} {com:Bool} (hk:kOf tt t=some (.map kt et)) (hkk:kOf tt kt=some kk) (hei:lk tt et=some ei)
  (hl:lk S.blk id=some (.mp κ σ l)) (hkey:keyK κ kk=true) (hsh:ei.sh=σ) (hag:ei.agg=σ.isAgg) (hsz:σ.size=ei.size) (hx:VS Z ν (.mp id) xv) (hy:VD Z κ y kv) :
  ∃ r,qft P H t xv kv com=some r/\VS Z ν (match com with
   | true=>.tup [ofD σ ((getM l y).getD σ.dflt),.bool (getM l y).isSome]
   | false=>ofD σ ((getM l y).getD σ.dflt)) r:=by
 subst hsh;have hkt:=ht.kind hk;simp only[KOK] at hkt;obtain ⟨hd,hck⟩:=qm7 (P:=P) hkey (ht.kind hkk);obtain ⟨ni,hn,rfl⟩:=hx.mp;obtain ⟨_,_,ni',es,hn',hb,hm⟩:=hp.blk _ _ hl;rw[hn] at hn';cases hn';obtain ⟨z,hz1,hz2,hz3⟩:=qs7 (Z:=Z) (ht _ _ hei) hag hsz;have hfk:=(qjs hkey hy hy).2.2;have hent:qh6 H (.map (some ni.b))=some es:=by simp[qh6,hb]
 have mk:∀ (v:ei.sh.D) (x:Value) (bo:Bool),VD Z ei.sh v x->VS Z ν (match com with
   | true=>.tup [ofD ei.sh v,.bool bo]
   | false=>ofD ei.sh v) (if com then .tuple #[x,.bool bo] else x):=by
  intro v x bo hv
  cases com with
  | false=>exact hv.vs
  | true=>
   have h1:VS Z ν (ofD ei.sh v) x:=hv.vs;have h2:V1 Z ν (ofD ei.sh v) x:=h1.v1 λ l e=>by
    have:=qok ei.sh v;rw[e] at this;simp[qen] at this
   exact ⟨[x,.bool bo],rfl,x,_,rfl,h2,.bool bo,[],rfl,by show CR Z ν _ _;simp only[CR],rfl⟩
 rcases qk6 (es:=es) hkey hy 0 hm with ⟨g1,g2,_⟩ | ⟨v,j,x,g1,g2,g3,_⟩
 ·refine ⟨if com then .tuple #[z,.bool false] else z,?_,?_⟩
  ·unfold qft;rw[hkt,hent];simp only[hfk,if_true,hck es.isEmpty 9999 kv,hd,g2,hz1,hz2]
  ·rw[g1];exact mk _ _ _ hz3
 ·refine ⟨if com then .tuple #[x,.bool true] else x,?_,?_⟩
  ·unfold qft;rw[hkt,hent];simp only[hfk,if_true,hck es.isEmpty 9999 kv,hd,g2]
  ·rw[g1];exact mk _ _ _ g3
end
section
variable {P:Program} {tt:TT} {Z:Nat->Option ABlk} {ν:Nu} {S:PS} {E:T Value} {H:AHeap} {ρ:Operand->Option SV} {ρ':Operand->Option Value} {F:FuncId->Bool}
theorem qep {z:Value} (h:Ax.flat z=true):qbd z.cells.toList=true:=by
 cases z with
 | agg cs=>
  cases cs;simpa only[Value.cells,Ax.flat,qm9] using h
 | _=>simp only[Value.cells,qbd,Bool.and_true];exact h
theorem qe3 {e:Sh} {xs:List e.D} {cs tl:List Value} {lo n:Nat} (h:RVL (λ x u=>RV Z e x u) xs cs) (hin:lo+n<=xs.length):RVL (λ x u=>RV Z e x u) (winL e lo n xs) (((cs++tl).drop (lo*e.size)).take (n*e.size))/\lo*e.size+n*e.size<=(cs++tl).length/\(winL e lo n xs).length=n:=by
 have hl:=h.len (λ x u k=>RV.len e x u k);have h1:lo*e.size+n*e.size<=xs.length*e.size:=by rw[<- Nat.add_mul];exact Nat.mul_le_mul_right _ hin
 rw[qmd rfl hl h1];exact ⟨RVL.take (λ x u k=>RV.len e x u k) n (RVL.drop (λ x u k=>RV.len e x u k) lo h),by rw[List.length_append];omega,by simp[winL];omega⟩
theorem qxz (ht:TTOK P tt) (hp:PR Z ν S E H) (hρ:∀ x s,ρ x=some s->∃ v,ρ' x=some v/\VS Z ν s v) {o:Oper} {cs:List Prop} {s:SV} (h:pR tt ρ S.blk o=some (cs,s)) (hc:∀ c∈cs,c) :
  ∃ v,aOp P F ρ' H o=some (.val v,H)/\VS Z ν s v:=by
 obtain ⟨dst,op,type,pos,after,guard⟩:=o
 cases op with
 | load t p=>
  have h':=h;simp only[pR] at h'
  cases hx:ρ p with
  | none=>rw[hx] at h';simp at h'
  | some a=>
   obtain ⟨v,hv,hvs⟩:=hρ _ _ hx;obtain ⟨y,hy,hys⟩:=qf2 ht hp (o:=⟨dst,.load t p,type,pos,after,guard⟩) rfl hx hvs h hc;exact ⟨y,by simp[aOp,hv,hy],hys⟩
 | slice t x lo hi mx=>
  cases mx with
  | some m=>
   cases lo with
   | none=>simp only[pR] at h;cases h
   | some lo=>
   cases hi with
   | none=>simp only[pR] at h;cases h
   | some hi=>
   obtain ⟨v,vl,vh,vm,y,h1,h2,h3,h4,h5,h6⟩:=qnz ht hp hρ (o:=⟨dst,.slice t x (some lo) (some hi) (some m),type,pos,after,guard⟩) rfl h hc;exact ⟨y,by simp[aOp,h1,h2,h3,h4,h5],h6⟩
  | none=>
   obtain ⟨v,vl,vh,y,h1,h2,h3,h4,h5⟩:=qgo ht hp hρ (o:=⟨dst,.slice t x lo hi none,type,pos,after,guard⟩) rfl h hc;have h6:aOpt ρ' none=some none:=rfl;exact ⟨y,by simp[aOp,h1,h2,h3,h6,h4],h5⟩
 | convert t d x=>
  simp only[pR] at h;split at h
  next et hk hd=>
   have hi:qgi P t=false:=by
    have:=ht.kind hk;simp only[KOK] at this;simp[qgi,this]
   split at h
   next r id lo n he hx=>
    split at h
    next et' xs hl=>
     cases h;have hin:lo+n<=xs.length:=hc _ (by simp);obtain ⟨v,hv,hvs⟩:=hρ _ _ hx;have hw:=hvs.win;obtain ⟨_,hbr⟩:=hp.blk _ _ hl;have tn:=qfu (H:=H) (ht.kind hk) (ht.kind hd) (ht.kind he);unfold WinR at hw;split at hw
     next hn=>
      obtain ⟨rfl,rfl,hvv⟩:=hw;have e0:winL (.int .u8) 0 0 xs=[]:=by simp[winL]
      rw[e0];rcases hvv with rfl | ⟨_,rfl⟩
      ·exact ⟨_,by simp[aOp,hv,hi,tn.1],VS.mkStr⟩
      ·exact ⟨_,by simp[aOp,hv,hi,tn.2],VS.mkStr⟩
     next ni hn=>
      rcases hbr with ⟨hn',_⟩ | ⟨ni',cs',tl,k,hn',hb,hrv,hkk⟩
      ·rw[hn] at hn';cases hn'
      ·rw[hn] at hn';cases hn';obtain ⟨q1,q2,q3⟩:=qe3 (tl:=tl) hrv hin;simp only[Sh.size,Nat.mul_one] at q1 q2;rcases hw with ⟨_,rfl,rfl | ⟨o2,t2,rfl,ht2,ho2⟩⟩ | ⟨cap,rfl,hcap⟩
       ·have e0:winL (.int .u8) lo 0 xs=[]:=by simp[winL]
        rw[e0];exact ⟨_,by simp[aOp,hv,hi,tn.2],VS.mkStr⟩
       ·have e0:winL (.int .u8) lo 0 xs=[]:=by simp[winL]
        rw[e0];rcases hkk with ⟨q,_⟩ | ⟨q,_⟩
        ·rw[ht2] at q;cases q
        ·rw[ht2] at q;cases q;have:=qj1 (c:=0) (l:=[]) (off:=o2) (ht.kind hk) (ht.kind hd) (ht.kind he) hb (by simpa using ho2) (by simp);simp only[List.length_nil] at this;exact ⟨_,by simp[aOp,hv,hi,this],VS.mkStr⟩
       ·have:=qj1 (c:=cap) (l:=winL (.int .u8) lo n xs) (off:=lo) (ht.kind hk) (ht.kind hd) (ht.kind he) hb (by rw[q3];exact q2) (by rw[q3];exact q1.ints);rw[q3] at this;refine ⟨bstr ((winL (.int .u8) lo n xs).map toB),?_,VS.mkStr⟩;simp only[Sh.size,Nat.mul_one] at hv;simp[aOp,hv,hi,this]
    ·cases h
   next l he hx=>
    cases h;obtain ⟨v,hv,hvs⟩:=hρ _ _ hx;rcases hvs.sl with ⟨rfl,rfl | rfl⟩ | ⟨b,off,cap,cs',et',k,rfl,hz,hln,hrv,_⟩
    ·exact ⟨_,by simp[aOp,hv,hi,(qfu (H:=H) (ht.kind hk) (ht.kind hd) (ht.kind he)).1],VS.mkStr⟩
    ·exact ⟨_,by simp[aOp,hv,hi,(qfu (H:=H) (ht.kind hk) (ht.kind hd) (ht.kind he)).2],VS.mkStr⟩
    ·simp only[Sh.size,Nat.mul_one] at hln hrv;have:=qj1 (c:=cap) (ht.kind hk) (ht.kind hd) (ht.kind he) (hp.zh _ _ hz).1 hln hrv.ints;exact ⟨_,by simp[aOp,hv,hi,this],VS.mkStr⟩
   next he hx=>cases h;obtain ⟨v,hv,hvs⟩:=hρ _ _ hx;rw[hvs.nils] at hv;exact ⟨_,by simp[aOp,hv,hi,(qfu (H:=H) (ht.kind hk) (ht.kind hd) (ht.kind he)).1],VS.mkStr⟩
   ·cases h
  next et0 et hk hd=>
   have hi:qgi P t=false:=by
    have:=ht.kind hk;simp only[KOK] at this;simp[qgi,this]
   split at h
   next id n he hx=>
    split at h
    next et' xs hl=>
     split at h
     next htd=>
      subst htd;cases h;have hn0:0<n:=hc _ (by simp);have hnl:n=xs.length:=hc _ (by simp);obtain ⟨v,hv,hvs⟩:=hρ _ _ hx;have hw:=hvs.win;obtain ⟨_,hbr⟩:=hp.blk _ _ hl;have hks:=ht.kind hk;have hkd:=ht.kind hd;have hke:=ht.kind he;simp only[KOK] at hks hkd hke;unfold WinR at hw;split at hw
      ·obtain ⟨_,h0,_⟩:=hw;omega
      next ni hn=>
       rcases hbr with ⟨hn',_⟩ | ⟨ni',cs',tl,k,hn',hb,hrv,hkk⟩
       ·rw[hn] at hn';cases hn'
       ·rw[hn] at hn';cases hn';have hk2:k≠2:=by
         rcases hkk with ⟨_,q⟩ | ⟨_,q⟩
         ·rw[q];simp only[Sh.size];decide
         ·rw[q];decide
        rcases hw with ⟨q,_⟩ | ⟨cap,rfl,hcap⟩
        ·cases q
        ·rw[Nat.zero_mul] at hv hvs;rw[hkd] at hks;cases hks;have hcv:qb1 P H t t (.slice (some ⟨ni.b,0,none⟩) n cap)=some (.slice (some ⟨ni.b,0,none⟩) n cap,H):=by
          simp only[qb1,hkd,hke,beq_self_eq_true,hb];rw[if_pos ⟨trivial,hk2,Nat.zero_le _⟩]
         exact ⟨_,by simp[aOp,hv,hi,hcv],hvs⟩
     ·cases h
    ·cases h
   ·cases h
  ·cases h
 | lookup t x k com=>
  simp only[pR] at h;split at h
  next kt et ks hk hks=>
   split at h
   next kk ei hkk hei=>
    split at h
    next id hx=>
     split at h
     next κ σ l hl=>
      split at h
      next hcond=>
       obtain ⟨h1,h2,h3,h4⟩:=hcond;split at h
       next y hy=>cases h;obtain ⟨xv,hxv,hxs⟩:=hρ _ _ hx;obtain ⟨kv,hkv,hkvs⟩:=hρ _ _ hks;obtain ⟨r,hr,hrs⟩:=qvm (com:=com) ht hp hk hkk hei hl h1 h2 h3 h4 hxs (qg3 hy hkvs);exact ⟨r,by simp[aOp,hxv,hkv,hr],hrs⟩
       ·cases h
      ·cases h
     ·cases h
    next hx=>
     split at h
     next hcond=>
      split at h
      next κ hs=>
       split at h
       next y hy=>cases h;obtain ⟨xv,hxv,hxs⟩:=hρ _ _ hx;obtain ⟨kv,hkv,hkvs⟩:=hρ _ _ hks;obtain ⟨r,hr,hrs⟩:=qsr (H:=H) (com:=com) ht hk hkk hei hs hcond.1 hcond.2 hxs (qg3 hy hkvs);exact ⟨r,by simp[aOp,hxv,hkv,hr],hrs⟩
       ·cases h
      ·cases h
     ·cases h
    ·cases h
   ·cases h
  ·cases h
 | _=>simp only[pR] at h;cases h
theorem RVL.rep {e:Sh} {x:e.D} {u:List Value} (h:RV Z e x u):∀ n:Nat,RVL (λ x u=>RV Z e x u) (List.replicate n x) (List.replicate n u).flatten
 | 0=>rfl
 | n+1=>⟨u,_,rfl,h,RVL.rep h n⟩
theorem qqd (z:Array Value):∀ n:Nat,(List.range (n*z.size)).map (λ i=>z[i % z.size]!)=(List.replicate n z.toList).flatten
 | 0=>by simp
 | n+1=>by
  rw[Nat.succ_mul,Nat.add_comm,List.range_add,List.map_append,List.replicate_succ,List.flatten_cons,List.map_map]
  congr 1
  ·apply List.ext_getElem
   ·simp
   ·intro i h1 h2;simp at h1;simp[Nat.mod_eq_of_lt h1,getElem!_pos z i h1]
  ·rw[<- qqd z n];apply List.map_congr_left;intro i _;simp
theorem RVL.zeros {t:TypeId} {ti:TI} (ht:TOK P t ti) (hs:ti.sh.size=ti.size) (n:Nat) {z:Value} (hz:qaa P (zeroValue t)=some z) :
  RVL (λ x u=>RV Z ti.sh x u) (List.replicate n ti.sh.dflt) ((Array.range (n*ti.size)).map (z.cells[· % z.cells.size]!)).toList:=by
 obtain ⟨z',h1,_,_,h2,h3⟩:=ht.zero;rw[hz] at h1;cases h1;have:=qqd z.cells n;rw[Array.toList_map,Array.toList_range,<- h2,this];exact RVL.rep (h3 hs Z) n
theorem VS.kill_items {d:Nat} {x:Option NI} {s:SV} {v:Value} (h:VS Z ν s v) (hs:∀ l,s≠.tup l):CRL Z (Upd ν d x) (killL d (items s)) v.cells.toList:=CRL.kill _ _ (h.v1 hs).items
theorem qal {d:Nat} {x:Option NI}:Upd ν d x d=x:=by simp[Upd]
theorem qym {cells:Array Value} {us:List Value} {m:Nat} (hc:cells.size=m) (hu:us.length=m):∃ cells':Array Value,cells'.toList=us/\Instr.fill (λ i=>some (i*m,m)) cells [(0,.agg us.toArray)]=some cells':=by
 obtain ⟨cells',h1,h2⟩:=qkt (place:=λ i=>some (i*m,m)) (cells:=cells) (i:=0) (off:=0*m) (size:=m) (v:=.agg us.toArray) (rest:=[]) rfl (by simpa [Value.cells] using hu) (by omega);refine ⟨cells',?_,by rw[h2];rfl⟩;rw[h1];simp only[Nat.zero_mul,List.take_zero,List.nil_append,Nat.zero_add,Value.cells];rw[List.drop_of_length_le (by rw[Array.length_toList];omega)];simp
theorem qoa {n:Nat} {ps:List (Nat × SV)} {l:List SV} (h:oneP n ps=some l):n=1/\ps=[(0,.agg l)]:=by
 unfold oneP at h;split at h
 ·split at h
  next hn=>cases h;exact ⟨Nat.eq_of_beq_eq_true hn,rfl⟩
  ·cases h
 ·cases h
theorem qq8 (ht:TTOK P tt) (hρ:∀ x s,ρ x=some s->∃ v,ρ' x=some v/\VS Z ν s v) {d:Nat} {o:Oper} {cs:List Prop} {s:SV} {lb:LB} (h:pF tt ρ d o=some (cs,(s,lb))) (hc:∀ c∈cs,c) :
  ∃ v x ni,aOp P F ρ' H o=some (.val v,H.add x)/\ni.b=H.next/\VS Z (Upd ν d (some ni)) s v/\BR Z (Upd ν d (some ni)) (H.add x) d (qld d lb):=by
 obtain ⟨dst,op,type,pos,after,guard⟩:=o
 cases op with
 | alloc t=>
  simp only[pF] at h;split at h
  next ti hti=>
   cases h;obtain ⟨z,hz,hf,hcr,hsz,_⟩:=(ht _ _ hti).zero;refine ⟨.pointer (some ⟨H.next,0,none⟩),.cells z.cells.toList t 0,⟨H.next,some z.cells.toList.length⟩,?_,rfl,VS.of_one ?_ rfl,?_⟩
   ·simp[aOp,qr7,hz,hf,aNew]
   ·simp only[CR];exact ⟨_,qal,rfl⟩
   ·exact ⟨_,z.cells.toList,t,qal,.inl rfl,AHeap.get_add (Nat.zero_le _),CRL.kill _ _ (hcr Z ν)⟩
  ·cases h
 | box t x=>
  simp only[pF] at h;split at h
  ·cases h
  next s0 hnt hx=>
   cases h;obtain ⟨v,hv,hvs⟩:=hρ _ _ hx;refine ⟨.pointer (some ⟨H.next,0,none⟩),.cells v.cells.toList t 0,⟨H.next,some v.cells.toList.length⟩,?_,rfl,VS.of_one ?_ rfl,?_⟩
   ·simp[aOp,hv,aNew]
   ·simp only[CR];exact ⟨_,qal,rfl⟩
   ·exact ⟨_,v.cells.toList,t,qal,.inl rfl,AHeap.get_add (Nat.zero_le _),hvs.kill_items λ l e=>hnt l e⟩
  ·cases h
 | buildSlice t n parts=>
  simp only[pF] at h;split at h
  next ps et hps hk=>
   split at h
   next ti hti=>
    split at h
    ·split at h
     next l hone=>
      split at h
      next hcond=>
       obtain ⟨hagg,hsl,hsz,hpos,hmax⟩:=hcond;cases h;obtain ⟨rfl,hps1⟩:=qoa hone;subst hps1;obtain ⟨vs,hvs,hpv⟩:=qfb hρ hps;simp only[PVL] at hpv;obtain ⟨v,w,rfl,hv,rfl⟩:=hpv;obtain ⟨us,rfl,hus⟩:=hv.agg;have hkk:=ht.kind hk;simp only[KOK] at hkk;obtain ⟨z,hz,hf,hcr,hzs,_⟩:=(ht _ _ hti).zero;have hzer:=RVL.zeros (Z:=Z) (ht _ _ hti) hsz 1 hz;have hfl:qbd z.cells.toList=true:=qep hf;have hul:=hus.len;rw[hsl] at hul;have hzl:=hzer.len (λ x u k=>RV.len ti.sh x u k);rw[hsz,List.length_replicate,Array.length_toList] at hzl;obtain ⟨cells',hcl,hf'⟩:=qym (hzl.trans (Nat.one_mul _)) hul;refine ⟨.slice (some ⟨H.next,0,none⟩) 1 1,.cells cells'.toList et 0,⟨H.next,some cells'.toList.length⟩,?_,rfl,VS.mkWin ?_,?_⟩
       ·have e1:(1*ti.size=0\/0<z.cells.size):=.inr (by omega);have e2:¬ 1=qae:=by unfold qae;omega
        simp only[aOp,hvs,Option.bind_some,qdm,hkk,(ht _ _ hti).size,hz];rw[if_pos ⟨by omega,hfl,e1⟩];simp only[hf',qdl];rw[if_pos ⟨Nat.zero_le _,e2⟩];rfl
       ·unfold WinR;rw[qal];refine .inr ⟨1,by simp,?_⟩;exact ⟨Nat.le_refl _,by omega,by rw[hcl,hul,hsz];simp⟩
       ·exact ⟨_,cells'.toList,et,qal,.inl rfl,AHeap.get_add (Nat.zero_le _),by rw[hcl];exact CRL.kill _ _ hus⟩
      ·cases h
     ·cases h
    split at h
    next hcond=>
     obtain ⟨hsz,hpos,hmax,hnt⟩:=hcond;split at h
     next xs hxs=>
      cases h;obtain ⟨vs,hvs,hpv⟩:=qfb hρ hps;have hkk:=ht.kind hk;simp only[KOK] at hkk;obtain ⟨z,hz,hf,hcr,hzs,_⟩:=(ht _ _ hti).zero;have hzer:=RVL.zeros (Z:=Z) (ht _ _ hti) hsz n hz;obtain ⟨out,ho,hout,hlen⟩:=qdv hxs (qm1 hnt) hpv hzer;rw[hsz] at ho;have hfl:qbd z.cells.toList=true:=qep hf;have hxl:xs.length=n:=by rw[hlen,List.length_replicate]
      have hol:=hout.len (λ x u k=>RV.len ti.sh x u k);have hn0:n<2 ^ 25:=by
       have:n*1<=n*ti.size:=Nat.mul_le_mul_left _ hpos;omega
      refine ⟨.slice (some ⟨H.next,0,none⟩) n n,.cells out.toList et 0,⟨H.next,some out.toList.length⟩,?_,rfl,VS.mkWin ?_,?_⟩
      ·have e1:(n*ti.size=0\/0<z.cells.size):=.inr (by omega);have e2:¬ n=qae:=by unfold qae;omega
       simp only[aOp,hvs,Option.bind_some,qdm,hkk,(ht _ _ hti).size,hz];rw[if_pos ⟨by omega,hfl,e1⟩];simp only[ho,qdl];rw[if_pos ⟨Nat.zero_le _,e2⟩];rfl
      ·unfold WinR;rw[qal];refine .inr ⟨n,by simp,?_⟩;exact ⟨Nat.le_refl _,by omega,by rw[hol,hxl];simp⟩
      ·refine ⟨by omega,.inr ⟨_,out.toList,[],0,qal,by rw[List.append_nil];exact AHeap.get_add (Nat.zero_le _),hout,.inr ⟨by simp,rfl⟩⟩⟩
     ·cases h
    ·cases h
   ·cases h
  ·cases h
 | makeSlice t l c=>
  simp only[pF] at h;split at h
  next kl n kc m et hl hm hk=>
   split at h
   next ti hti=>
    split at h
    next hcond=>
     obtain ⟨hsz,hpos⟩:=hcond;cases h;have c0:=hc (0<=n) (by simp);have c1:=hc (n<=m) (by simp);have c2:=hc (m<2 ^ 24) (by simp);have c3:=hc ((ti.bytes:Int)*m<=2 ^ 48) (by simp);obtain ⟨vl,hvl,hls⟩:=hρ _ _ hl;obtain ⟨vm,hvm,hms⟩:=hρ _ _ hm;rw[hls.int] at hvl;rw[hms.int] at hvm;have hkk:=ht.kind hk;simp only[KOK] at hkk;obtain ⟨z,hz,hf,hcr,hzs,_⟩:=(ht _ _ hti).zero;obtain ⟨inf,hi,hib,his⟩:=(ht _ _ hti).bytes;have hzer:=RVL.zeros (Z:=Z) (ht _ _ hti) hsz m.toNat hz;have hfl:qbd z.cells.toList=true:=qep hf;generalize hcells:((Array.range (m.toNat * ti.size)).map (z.cells[· % z.cells.size]!))=cells at hzer;have hzl:=hzer.len (λ x u k=>RV.len ti.sh x u k);rw[List.length_replicate] at hzl;have htk:=RVL.take (λ x u k=>RV.len ti.sh x u k) n.toNat hzer;rw[List.take_replicate,Nat.min_eq_left (by omega)] at htk;refine ⟨.slice (some ⟨H.next,0,none⟩) n.toNat m.toNat,.cells cells.toList et 0,⟨H.next,some cells.toList.length⟩,?_,rfl,VS.mkWin ?_,?_⟩
     ·have e2:¬ m.toNat=qae:=by unfold qae;omega
      simp only[aOp,hvl,hvm,Option.bind_some,qga,hkk,hi,(ht _ _ hti).size,hz];rw[if_pos ⟨c0,c1,c2,by rw[hib];exact c3,hfl,by omega⟩];simp only[hcells,qdl];rw[if_pos ⟨Nat.zero_le _,e2⟩];rfl
     ·unfold WinR;rw[qal];refine .inr ⟨m.toNat,by simp,?_⟩;refine ⟨by omega,by omega,?_⟩;rw[hzl,Nat.zero_add];exact Nat.le_refl _
     ·refine ⟨by omega,.inr ⟨_,cells.toList.take (n.toNat * ti.sh.size),cells.toList.drop (n.toNat * ti.sh.size),0,qal,by rw[List.take_append_drop];exact AHeap.get_add (Nat.zero_le _),htk,.inr ⟨by rw[List.take_append_drop],rfl⟩⟩⟩
    ·cases h
   ·cases h
  ·cases h
 | makeMap t r=>
  cases r with
  | some r=>simp only[pF] at h;cases h
  | none=>
   simp only[pF] at h;split at h
   ·split at h
    next ki ei hki hei=>
     split at h
     next hcond=>
      cases h;refine ⟨.map (some H.next),.map [],⟨H.next,none⟩,?_,rfl,VS.of_one ?_ rfl,hcond.1,hcond.2,_,[],qal,AHeap.get_add (Nat.zero_le _),rfl⟩
      ·simp[aOp,aOpt,qjw]
      ·simp only[CR];exact ⟨_,qal,rfl⟩
     ·cases h
    ·cases h
   ·cases h
 | range t x=>
  simp only[pF] at h;split at h
  next l hk hx=>
   cases h;obtain ⟨v,hv,hvs⟩:=hρ _ _ hx;rw[hvs.str] at hv;have h1:=ht.kind hk;simp only[KOK] at h1;refine ⟨.pointer (some ⟨H.next,0,none⟩),.iter ⟨l.toArray⟩ 0,⟨H.next,none⟩,?_,rfl,VS.of_one ?_ rfl,_,qal,AHeap.get_add (Nat.zero_le _)⟩
   ·simp[aOp,hv,bstr,qr3,h1]
   ·simp only[CR];exact ⟨_,qal,rfl⟩
  ·cases h
 | convert t u x=>
  simp only[pF] at h;split at h
  next et l hk hd hx=>
   split at h
   next he=>
    cases h;have c0:=hc _ (by simp:(l.length<2 ^ 40)∈_);obtain ⟨v,hv,hvs⟩:=hρ _ _ hx;rw[hvs.str] at hv;have h1:=ht.kind hk;have h2:=ht.kind hd;have h3:=ht.kind he;simp only[KOK] at h1 h2 h3;have hi:qgi P t=false:=by simp[qgi,h1]
    have hmap:(l.map λ b=>Value.int .u8 b.toNat)=(l.map ofB).map (Value.int .u8):=by simp[ofB]
    have hrv:∀ l:List Int,RVL (λ (x:(Sh.int .u8).D) u=>RV Z (.int .u8) x u) l (l.map (Value.int .u8)):=by
     intro l
     induction l with
     | nil=>rfl
     | cons a l ih=>exact ⟨[.int .u8 a],_,rfl,by simp only[RV],ih⟩
    refine ⟨.slice (some ⟨H.next,0,none⟩) l.length qae,.cells ((l.map ofB).map (Value.int .u8)) et 11,⟨H.next,none⟩,?_,rfl,VS.mkWin ?_,?_⟩
    ·simp only[aOp,hv,Option.bind_some,hi,bstr,qb1,h1,h2,h3];rw[if_neg (by simp),if_pos ⟨Nat.zero_le _,by rw[qc8];exact c0⟩];simp only[Option.map_some,qc8,hmap]
    ·unfold WinR;rw[qal];exact .inr ⟨qae,by simp,rfl⟩
    ·exact ⟨by simp[Sh.size],.inr ⟨_,(l.map ofB).map (Value.int .u8),[],11,qal,by rw[List.append_nil];exact AHeap.get_add (Nat.zero_le _),hrv _,.inl ⟨rfl,by simp[Sh.size]⟩⟩⟩
   ·cases h
  ·cases h
 | _=>simp only[pF] at h;cases h
end
section
variable {P:Program} {tt:TT} {Z:Nat->Option ABlk} {ν:Nu} {S:PS} {E:T Value} {H H':AHeap} {ρ:Operand->Option SV} {ρ':Operand->Option Value} {F:FuncId->Bool}
theorem PR.new (hp:PR Z ν S E H) {d:Nat} {x:Option NI} {lb:LB} (hH:∀ b,Own ν S b->H'.t.get b=H.t.get b) (hZ:∀ b y,Z b=some y->H'.t.get b=H.t.get b)
  (hx:∀ ni,x=some ni->¬ Own ν S ni.b/\Z ni.b=none) (hl:BR Z (Upd ν d x) H' d lb):PR Z (Upd ν d x) ⟨(S.kill d).env,st (S.kill d).blk d lb⟩ E H' where
 env:=(hp.kill d x).env
 blk id l h:=by
  simp only[qan] at h;split at h
  next hd=>cases h;subst hd;exact hl
  next hd=>
   have:=(hp.kill d x).blk id l h;refine this.heap λ ni' hn'=>?_
   exact hH _ (qf1 ⟨id,l,ni',h,hn',rfl⟩).1
 zh b y h:=by
  obtain ⟨h1,h2⟩:=hp.zh b y h;exact ⟨by rw[hZ b y h];exact h1,h2⟩
 zo b h:=by
  obtain ⟨id,l,ni',h1,h2,h3⟩:=h;simp only[qan] at h1;split at h1
  next hd=>subst hd;rw[qal] at h2;subst h3;exact (hx _ h2).2
  ·exact (hp.kill d x).zo b ⟨id,l,ni',h1,h2,h3⟩
 inj i j li lj n1 n2 h1 h2 h3 h4 h5:=by
  simp only[qan] at h1 h2;have hk:=hp.kill d x;by_cases hi:i=d <;> by_cases hj:j=d
  ·rw[hi,hj]
  ·rw[if_neg hj] at h2;subst hi;rw[qal] at h3;exact absurd (qf1 ⟨j,lj,n2,h2,h4,h5.symm⟩).1 (hx _ h3).1
  ·rw[if_neg hi] at h1;subst hj;rw[qal] at h4;exact absurd (qf1 ⟨i,li,n1,h1,h3,h5⟩).1 (hx _ h4).1
  ·rw[if_neg hi] at h1;rw[if_neg hj] at h2;exact hk.inj _ _ _ _ _ _ h1 h2 h3 h4 h5
theorem qmx {d:Nat} {x:Option NI} {lb:LB} {b:Nat} (h:Own (Upd ν d x) ⟨(S.kill d).env,st (S.kill d).blk d lb⟩ b):Own ν S b\/∃ ni,x=some ni/\ni.b=b:=by
 obtain ⟨id,l,ni',h1,h2,h3⟩:=h;simp only[qan] at h1;split at h1
 next hd=>subst hd;rw[qal] at h2;exact .inr ⟨ni',h2,h3⟩
 ·exact .inl (qf1 ⟨id,l,ni',h1,h2,h3⟩).1
theorem qx1 (hp:PR Z ν S E H) {id:Nat} {x:Option NI} {lb:LB} {ni:NI} (hl:lk S.blk id=some lb) (hn:ν id=some ni):¬ Own (Upd ν id x) (S.kill id) ni.b:=by
 rintro ⟨j,l,nj,h1,h2,h3⟩;simp only[PS.kill,qaq,qbu] at h1;split at h1
 ·cases h1
 next hne=>rw[Option.map_eq_some_iff] at h1;obtain ⟨l0,h0,rfl⟩:=h1;simp only[Upd,if_neg hne] at h2;exact hne (hp.inj _ _ _ _ _ _ h0 hl h2 hn h3)
mutual
theorem CR.allOne:∀ (s:SV) (vs:List Value),CR Z ν s vs->∀ v∈vs,v.oneCell'=true
 | .agg l,vs,h,v,hv=>by simp only[CR] at h;exact CRL.allOne l vs h v hv
 | .arr n e l,vs,h,v,hv=>RV.one (.arr n e) l vs h v hv
 | .tup l,vs,h,v,hv=>by simp only[CR] at h
 | .nils,vs,h,v,hv=>by
  have:=h.dead (by intros;simp) (by intros;simp);simp only[CR] at this;obtain ⟨w,rfl,_,h1⟩:=this;simp at hv;subst hv;exact h1
 | .dead,vs,h,v,hv=>by
  have:=h.dead (by intros;simp) (by intros;simp);simp only[CR] at this;obtain ⟨w,rfl,_,h1⟩:=this;simp at hv;subst hv;exact h1
 | .int _ _,vs,h,v,hv=>by
  have:=h.dead (by intros;simp) (by intros;simp);simp only[CR] at this;obtain ⟨w,rfl,_,h1⟩:=this;simp at hv;subst hv;exact h1
 | .bool _,vs,h,v,hv=>by
  have:=h.dead (by intros;simp) (by intros;simp);simp only[CR] at this;obtain ⟨w,rfl,_,h1⟩:=this;simp at hv;subst hv;exact h1
 | .str _,vs,h,v,hv=>by
  have:=h.dead (by intros;simp) (by intros;simp);simp only[CR] at this;obtain ⟨w,rfl,_,h1⟩:=this;simp at hv;subst hv;exact h1
 | .sl _ _,vs,h,v,hv=>by
  have:=h.dead (by intros;simp) (by intros;simp);simp only[CR] at this;obtain ⟨w,rfl,_,h1⟩:=this;simp at hv;subst hv;exact h1
 | .win _ _ _ _ _,vs,h,v,hv=>by
  have:=h.dead (by intros;simp) (by intros;simp);simp only[CR] at this;obtain ⟨w,rfl,_,h1⟩:=this;simp at hv;subst hv;exact h1
 | .ptr _ _,vs,h,v,hv=>by
  have:=h.dead (by intros;simp) (by intros;simp);simp only[CR] at this;obtain ⟨w,rfl,_,h1⟩:=this;simp at hv;subst hv;exact h1
 | .elp _ _ _ _,vs,h,v,hv=>by
  have:=h.dead (by intros;simp) (by intros;simp);simp only[CR] at this;obtain ⟨w,rfl,_,h1⟩:=this;simp at hv;subst hv;exact h1
 | .aep _ _ _ _ _,vs,h,v,hv=>by
  have:=h.dead (by intros;simp) (by intros;simp);simp only[CR] at this;obtain ⟨w,rfl,_,h1⟩:=this;simp at hv;subst hv;exact h1
 | .elv _ _,vs,h,v,hv=>by
  have:=h.dead (by intros;simp) (by intros;simp);simp only[CR] at this;obtain ⟨w,rfl,_,h1⟩:=this;simp at hv;subst hv;exact h1
 | .fn _ _ _,vs,h,v,hv=>by
  have:=h.dead (by intros;simp) (by intros;simp);simp only[CR] at this;obtain ⟨w,rfl,_,h1⟩:=this;simp at hv;subst hv;exact h1
 | .yl _,vs,h,v,hv=>by
  have:=h.dead (by intros;simp) (by intros;simp);simp only[CR] at this;obtain ⟨w,rfl,_,h1⟩:=this;simp at hv;subst hv;exact h1
 | .mp _,vs,h,v,hv=>by
  have:=h.dead (by intros;simp) (by intros;simp);simp only[CR] at this;obtain ⟨w,rfl,_,h1⟩:=this;simp at hv;subst hv;exact h1
 | .ifc _ _ _,vs,h,v,hv=>by
  have:=h.dead (by intros;simp) (by intros;simp);simp only[CR] at this;obtain ⟨w,rfl,_,h1⟩:=this;simp at hv;subst hv;exact h1
 | .pta _ _ _ _,vs,h,v,hv=>by obtain ⟨x,rfl⟩:=h.ptas v hv;rfl
 | .nilm,vs,h,v,hv=>by
  have:=h.dead (by intros;simp) (by intros;simp);simp only[CR] at this;obtain ⟨w,rfl,_,h1⟩:=this;simp at hv;subst hv;exact h1
 | .nilp,vs,h,v,hv=>by
  have:=h.dead (by intros;simp) (by intros;simp);simp only[CR] at this;obtain ⟨w,rfl,_,h1⟩:=this;simp at hv;subst hv;exact h1
theorem CRL.allOne:∀ (l:List SV) (vs:List Value),CRL Z ν l vs->∀ v∈vs,v.oneCell'=true
 | [],vs,h,v,hv=>by simp only[CRL] at h;subst h;cases hv
 | s::l,vs,h,v,hv=>by
  simp only[CRL] at h;obtain ⟨u,w,rfl,h1,h2⟩:=h;rcases List.mem_append.1 hv with hv | hv
  ·exact CR.allOne s u h1 v hv
  ·exact CRL.allOne l w h2 v hv
end
theorem qh5 {b off:Nat} {cs new:List Value} {et:TypeId} {k:Nat} (hb:H.t.get b=some (.cells cs et k)) (hk:k≠2) (hl:off+new.length<=cs.length) (ho:∀ v∈new,v.oneCell'=true) :
  qi7 H ⟨b,off,none⟩ new=some (H.put b (.cells (cs.take off++new++cs.drop (off+new.length)) et k)):=by
 simp only[qi7,hb];rw[if_pos ⟨hk,hl,by rw[List.all_eq_true];exact ho,Nat.zero_le _⟩]
theorem qcw {t:TypeId} {ti:TI} (ht:TOK P t ti) {b off:Nat} {cs:List Value} {et:TypeId} {k:Nat} {s:SV} {v:Value} (hb:H.t.get b=some (.cells cs et k)) (hk:k≠2) (hv:CRL Z ν (items s) v.cells.toList) (hsz:SV.size.sizeL (items s)=ti.size) (hl:off+ti.size<=cs.length) :
  qcj P H t (.pointer (some ⟨b,off,none⟩)) v=some (H.put b (.cells (cs.take off++v.cells.toList++cs.drop (off+ti.size)) et k)):=by
 have hlen:=hv.len;rw[hsz] at hlen;have hlen':v.cells.size=ti.size:=by simpa using hlen
 unfold qcj;simp only[ht.size];rw[if_pos hlen',qh5 hb hk (by rw[hlen];exact hl) (CRL.allOne _ _ hv),hlen]
theorem VS.notup {s:SV} (h:qen s=false):∀ l,s≠.tup l:=by
 intro l e;subst e;simp[qen] at h
theorem qny {vs A u C nv:List Value} {a off n:Nat} (e:vs=A++(u++C)) (ha:A.length=a) (h:off+n<=u.length):vs.take (a+off)++nv++vs.drop (a+off+n)=A++((u.take off++nv++u.drop (off+n))++C):=by
 rw[qqz e ha (Nat.le_add_right _ _),Nat.add_sub_cancel_left,qqx rfl rfl h]
theorem qqy {e:Sh} {xs:List e.D} {cs nv:List Value} {i off n:Nat} {s:SV} {y:e.D} (h:RVL (λ x u=>RV Z e x u) xs cs) (hi:i<xs.length) (hs:CRL Z ν (items s) nv) (hn:nv.length=n) (e1:setAt e (gt e xs i) off n s=some y) :
  ∃ cs',RVL (λ x u=>RV Z e x u) (xs.set i y) cs'/\cs'.length=cs.length/\i*e.size+off+n<=cs.length/\∀ tl pre:List Value,(pre++(cs++tl)).take (pre.length+i*e.size+off)++nv++(pre++(cs++tl)).drop (pre.length+i*e.size+off+n)=pre++(cs'++tl):=by
 have hl:=h.len (λ x u k=>RV.len e x u k);obtain ⟨q1,q2⟩:=qjm (tl:=[]) h hi;rw[List.append_nil] at q1 q2;obtain ⟨r1,r2⟩:=qpe _ _ q1 hs hn e1;have hu:((cs.drop (i*e.size)).take e.size).length=e.size:=RV.len _ _ _ q1;rw[hu] at r2;generalize hu0:(cs.drop (i*e.size)).take e.size=u at *;have hs':=RVL.set (λ x u k=>RV.len e x u k) h hi r1;have hl2:(u.take off++nv++u.drop (off+n)).length=e.size:=RV.len _ _ _ r1;rw[hl2] at hs';refine ⟨_,hs',?_,by omega,λ tl pre=>?_⟩
 ·simp only[List.length_append,List.length_take,List.length_drop] at hl2 |-;omega
 ·have hcs:cs=cs.take (i*e.size)++(u++cs.drop (i*e.size+e.size)):=by
   rw[<- hu0,<- List.drop_drop];simp only[List.take_append_drop]
  have e0:pre++(cs++tl)=(pre++cs.take (i*e.size))++(u++(cs.drop (i*e.size+e.size)++tl)):=by
   conv=>lhs;rw[hcs]
   simp only[List.append_assoc]
  rw[qny (a:=pre.length+i*e.size) e0 (by rw[List.length_append,List.length_take];omega) (by omega)];simp only[List.append_assoc]
theorem qxx {s:SV} {w:Value} (hw:VS Z ν s w) (h:isPS s=true):(items s=[s]/\w.cells.toList=[w])/\CRL Z ν [s] [w]/\ptV w:=by
 cases s <;> simp[isPS] at h
 next id off=>obtain ⟨ni,h1,rfl⟩:=hw.ptr;exact ⟨⟨rfl,rfl⟩,CRL.single (s:=.ptr id off) hw,⟨_,rfl⟩⟩
 ·have h2:CR Z ν .nilp [w]:=hw;have h3:=h2;simp only[CR] at h3;cases h3;exact ⟨⟨rfl,rfl⟩,CRL.single (s:=.nilp) h2,⟨_,rfl⟩⟩
theorem qc7 (ht:TTOK P tt) (hp:PR Z ν S E H) {t:TypeId} {po xo:Operand} {p s:SV} {v w:Value} {cs:List Prop} {o:Oper} {d:Option Nat} {r:Option SV} {a:Ac} (ho:o.op=.store t po xo) (hx:ρ po=some p) (hs:ρ xo=some s) (h:VS Z ν p v) (hw:VS Z ν s w)
  (e:pW tt ρ S.blk d o=some (cs,(r,a))) (hc:∀ c∈cs,c) :
  ∃ id l0 ni x lb,a=.turn id lb/\r=none/\lk S.blk id=some l0/\ν id=some ni/\qcj P H t v w=some (H.put ni.b x)/\BR Z ν (H.put ni.b x) id lb:=by
 unfold pW at e;simp only[ho,hx,hs] at e;split at e
 next ti id off s' hti he hs'=>
  cases he;cases hs'
  split at e
  ·cases e
  next l hl hnt=>
   split at e
   next hsz=>
    split at e
    next l' hsp=>
     cases e;obtain ⟨ni,hn,rfl⟩:=h.ptr;obtain ⟨ni',cells,et,hn',htot,hb,hcr⟩:=hp.blk _ _ hl;rw[hn] at hn';cases hn';have hit:=(hw.v1 (λ m e=>hnt m e)).items;obtain ⟨hsp,hopk⟩:=qb6 hsp;obtain ⟨q1,q2⟩:=qcr hcr hit hsp;have hst:=qcw (ht _ _ hti) hb qyd hit hsz q2;refine ⟨id,_,ni,_,_,rfl,rfl,hl,hn,hst,?_⟩;have hlen:=hit.len;rw[hsz] at hlen;refine ⟨ni,_,et,hn,?_,by rw[qjg hopk];exact AHeap.get_put (Nat.zero_le _),q1⟩;refine KT.of ?_ hopk;have e9:(cells.take off++w.cells.toList++cells.drop (off+ti.size)).length=cells.length:=by
      simp only[List.length_append,List.length_take,List.length_drop,hlen];omega
     rw[e9];exact htot
    ·cases e
   ·cases e
  ·cases e
 next ti e1 id base i off s' hti he hs'=>
  cases he;cases hs'
  split at e
  next l hl=>
   split at e
   next a0 n e' xs rr hcut=>
    split at e
    next hee=>
     subst hee;split at e
     ·cases e
     next hcond=>
      simp only[not_or,Bool.not_eq_true,Decidable.not_not] at hcond;split at e
      next y hset=>
       split at e
       next l' hsp=>
        cases e;have hi:i<n:=hc _ (by simp);obtain ⟨ni,hn,rfl⟩:=h.aep;obtain ⟨ni',cells,et,hn',htot,hb,hcr⟩:=hp.blk _ _ hl;rw[hn] at hn';cases hn';have hit:=(hw.v1 (VS.notup hcond.1)).items;have hlen:=hit.len;rw[hcond.2] at hlen;obtain ⟨u,w',rfl,hu,_,hw2⟩:=qbh _ _ hcr hcut;simp only[CRL] at hw2;obtain ⟨u2,w2,rfl,h3,_⟩:=hw2;simp only[CR,RV] at h3;obtain ⟨hln,h3⟩:=h3;obtain ⟨cs',c1,c2,c3,c4⟩:=qqy h3 (by omega) hit hlen hset;have c5:=c4 w2 u;rw[hu] at c5;have hu2:=h3.len (λ x u k=>RV.len e' x u k);have harr:CRL Z ν [SV.arr n e' (xs.set i y)] cs':=CRL.single (s:=.arr n e' (xs.set i y)) (by simp only[CR,RV];exact ⟨by rw[List.length_set];exact hln,c1⟩);obtain ⟨hsp,hopk⟩:=qb6 hsp;obtain ⟨q1,q2⟩:=qcr hcr harr hsp;have hst:=qcw (ht _ _ hti) (off:=base+i*e'.size+off) hb qyd hit hcond.2 (by simp only[List.length_append];omega);refine ⟨id,_,ni,_,_,rfl,rfl,hl,hn,hst,?_⟩;refine ⟨ni,_,et,hn,?_,by rw[qjg hopk];exact AHeap.get_put (Nat.zero_le _),?_⟩
        ·rw[c5];refine KT.of ?_ hopk;have e9:(u++(cs'++w2)).length=(u++(u2++w2)).length:=by simp only[List.length_append,c2]
         rw[e9];exact htot
        ·rw[c5];have e6:(u++(u2++w2)).take base++cs'++(u++(u2++w2)).drop (base+n*e'.size)=u++(cs'++w2):=by
          rw[<- hu,List.take_left,<- List.drop_drop,List.drop_left,<- hln,<- hu2,List.drop_left,List.append_assoc]
         rw[e6] at q1;exact q1
       ·cases e
      ·cases e
    ·cases e
   next a0 n q j m0 rr hcut=>
    split at e
    next hcond=>
     obtain ⟨g1,rfl,g2,g3⟩:=hcond;split at e
     next l' hsp=>
      cases e;have hi:i<n:=hc _ (by simp);have hj:i=j:=hc _ (by simp);subst hj;obtain ⟨ni,hn,rfl⟩:=h.aep;obtain ⟨ni',cells,et,hn',htot,hb,hcr⟩:=hp.blk _ _ hl;rw[hn] at hn';cases hn';obtain ⟨k2,k3,k4⟩:=qxx hw g3;obtain ⟨u,w',rfl,hu,_,hw2⟩:=qbh _ _ hcr hcut;simp only[CRL] at hw2;obtain ⟨u2,w2,rfl,h3,_⟩:=hw2;obtain ⟨_,_,_,q3⟩:=CR.ptaAt h3 hi;have h4:=CR.ptaSet h3 hi k3 k4;have harr:CRL Z ν [SV.pta n q i [s]] (u2.take i++[w]++u2.drop (i+1)):=CRL.single h4;obtain ⟨hsp,hopk⟩:=qb6 hsp;obtain ⟨q1,q2⟩:=qcr hcr harr hsp;have hit:CRL Z ν (items s) w.cells.toList:=by rw[k2.1,k2.2];exact k3
      have hst:=qcw (ht _ _ hti) (off:=base+i) hb qyd hit (by rw[g2,k2.1];cases s <;> simp[isPS] at g3 <;> rfl) (by rw[g2];simp only[List.length_append];omega)
      rw[k2.2,g2] at hst;have e6:(u++(u2++w2)).take (base+i)++[w]++(u++(u2++w2)).drop (base+i+1)=u++((u2.take i++[w]++u2.drop (i+1))++w2):=by
       rw[Nat.add_assoc,<- hu,List.take_length_add_append,List.drop_length_add_append,List.take_append_of_le_length (by omega),List.drop_append_of_le_length (by omega)];simp only[List.append_assoc]
      rw[e6] at hst;rw[g1,Nat.mul_one,Nat.add_zero];refine ⟨id,_,ni,_,_,rfl,rfl,hl,hn,hst,?_⟩;refine ⟨ni,_,et,hn,?_,by rw[qjg hopk];exact AHeap.get_put (Nat.zero_le _),?_⟩
      ·refine KT.of ?_ hopk;have e9:(u++((u2.take i++[w]++u2.drop (i+1))++w2)).length=(u++(u2++w2)).length:=by
        simp only[List.length_append,List.length_take,List.length_drop,List.length_singleton];omega
       rw[e9];exact htot
      ·have e7:(u++(u2++w2)).take base++(u2.take i++[w]++u2.drop (i+1))++(u++(u2++w2)).drop (base+n)=u++((u2.take i++[w]++u2.drop (i+1))++w2):=by
        rw[<- hu,List.take_left,List.drop_length_add_append,<- q3,List.drop_left,List.append_assoc]
       rw[e7] at q1;exact q1
     ·cases e
    ·cases e
   ·cases e
  ·cases e
 next ti e1 id i off s' hti he hs'=>
  cases he;cases hs'
  split at e
  next et e' xs hl=>
   split at e
   next hee=>
    subst hee;split at e
    ·cases e
    next hcond=>
     simp only[not_or,Bool.not_eq_true,Decidable.not_not] at hcond;split at e
     next y hset=>
      cases e;have hi:i<xs.length:=hc _ (by simp);obtain ⟨ni,hn,rfl⟩:=h.elp;obtain ⟨hpos,hb⟩:=hp.blk _ _ hl;have hit:=(hw.v1 (VS.notup hcond.1)).items;have hlen:=hit.len;rw[hcond.2] at hlen;rcases hb with ⟨hn',rfl⟩ | ⟨ni',cells,tl,k,hn',hb,hrv,hkk⟩
      ·simp at hi
      ·rw[hn] at hn';cases hn';obtain ⟨cs',c1,c2,c3,c4⟩:=qqy hrv hi hit hlen hset;have c5:=c4 tl [];simp only[List.nil_append,List.length_nil,Nat.zero_add] at c5;have hk2:k≠2:=by rcases hkk with ⟨_,rfl⟩ | ⟨_,rfl⟩ <;> omega
       have hst:=qcw (ht _ _ hti) (off:=i*e'.size+off) hb hk2 hit hcond.2 (by rw[List.length_append];omega);refine ⟨id,_,ni,_,_,rfl,rfl,hl,hn,hst,hpos,.inr ⟨ni,cs',tl,k,hn,?_,c1,?_⟩⟩
       ·rw[AHeap.get_put (Nat.zero_le _),c5]
       ·rcases hkk with h | ⟨h1,h2⟩
        ·exact .inl h
        ·exact .inr ⟨by rw[h1,List.length_append,List.length_append,c2],h2⟩
     ·cases e
   ·cases e
  ·cases e
 ·cases e
end
def PS.fresh (S:PS) (gone:Option Nat) (d:Nat) (lb:LB):PS:=
 match gone with
 | none=>⟨(S.kill d).env,st (S.kill d).blk d lb⟩
 | some id=>⟨((S.kill id).kill d).env,st ((S.kill id).kill d).blk d lb⟩
def qiu (ν:Nu):Option Nat->Nu
 | none=>ν
 | some id=>Upd ν id none
section
variable {P:Program} {tt:TT} {Z:Nat->Option ABlk} {ν:Nu} {S:PS} {E:T Value} {H H':AHeap} {ρ:Operand->Option SV} {ρ':Operand->Option Value} {F:FuncId->Bool}
theorem qcg (hp:PR Z ν S E H) (hdom:∀ i x,H.t.get i=some x->i<H.next) {gone:Option Nat} {d:Nat} {x:Option NI} {lb:LB} (hdB:d<BIG) (hg:∀ id,gone=some id->∃ l,lk S.blk id=some l)
  (hOld:∀ b y,H.t.get b=some y->¬ (∃ id ni,gone=some id/\ν id=some ni/\ni.b=b)->H'.t.get b=some y) (hle:H.next<=H'.next)
  (hx:∀ ni,x=some ni->ni.b=H.next\/∃ id nj,gone=some id/\ν id=some nj/\ni.b=nj.b) (hl:BR Z (Upd (qiu ν gone) d x) H' d lb) :
  PR Z (Upd (qiu ν gone) d x) (S.fresh gone d lb) E H'/\FC Z ν S H Z (Upd (qiu ν gone) d x) (S.fresh gone d lb) H':=by
 have hz:∀ b,Z b≠none->¬ (∃ id ni,gone=some id/\ν id=some ni/\ni.b=b):=by
  rintro b hb ⟨id,ni,h1,h2,rfl⟩;obtain ⟨l,hl⟩:=hg id h1;exact hb (hp.zo _ ⟨id,l,ni,hl,h2,rfl⟩)
 have hZ:∀ b y,Z b=some y->H'.t.get b=H.t.get b:=by
  intro b y hb;have h1:=(hp.zh b y hb).1;rw[h1];exact hOld b y h1 (hz b (by rw[hb];simp))
 have hzn:∀ ni,x=some ni->Z ni.b=none:=by
  intro ni hni;rcases hx ni hni with e | ⟨id,nj,h1,h2,e⟩
  ·cases hzz:Z ni.b with
   | none=>rfl
   | some y=>have:=hdom _ _ (hp.zh _ _ hzz).1;omega
  ·obtain ⟨l,hl⟩:=hg id h1;exact hp.zo _ ⟨id,l,nj,hl,h2,e.symm⟩
 cases gone with
 | none=>
  simp only[qiu] at hl |-;have hnew:∀ b,Own ν S b->b≠H.next:=by
   rintro b ⟨id,l,ni,h1,h2,rfl⟩ e;obtain ⟨_,hgt⟩:=(hp.blk id l h1).at h2;have:=hdom _ _ hgt;omega
  have hxx:∀ ni,x=some ni->ni.b=H.next:=by
   intro ni hni;rcases hx ni hni with e | ⟨id,nj,h1,_⟩
   ·exact e
   ·cases h1
  constructor
  ·refine hp.new (λ b hb=>?_) hZ (λ ni hni=>⟨λ ho=>hnew _ ho (hxx ni hni),hzn ni hni⟩) hl;obtain ⟨id,l,ni,h1,h2,rfl⟩:=hb;obtain ⟨_,hgt⟩:=(hp.blk id l h1).at h2;rw[hgt];exact hOld _ _ hgt (by rintro ⟨id,ni,h,_⟩;cases h)
  ·refine ⟨ZLe.refl _,λ _ h=>.inl h,hle,λ b y h hlt ho=>hOld b y h (by rintro ⟨id,ni,h,_⟩;cases h),λ b hb=>?_,λ id hB h=>?_⟩;rcases qmx hb with h | ⟨ni,h1,h2⟩
   ·exact .inl h
   ·have:=hxx ni h1;exact .inr (by omega)
   ·have hne:id≠d:=by omega
    simp only[PS.fresh,qan,if_neg hne,PS.kill,qaq,qbu] at h;exact ⟨λ e=>h (by rw[e];rfl),by simp[Upd,hne]⟩
 | some id=>
  simp only[qiu] at hl |-;obtain ⟨l0,hl0⟩:=hg id rfl;have hp1:=hp.kill id none;have hnotgone:∀ b,Own (Upd ν id none) (S.kill id) b->¬ (∃ id' ni,some id=some id'/\ν id'=some ni/\ni.b=b):=by
   rintro b hb ⟨id',ni,h1,h2,rfl⟩;cases h1;exact qx1 hp hl0 h2 hb
  constructor
  ·refine hp1.new (λ b hb=>?_) hZ (λ ni hni=>⟨λ ho=>?_,hzn ni hni⟩) hl
   ·have hng:=hnotgone b hb;obtain ⟨id',l,ni,h1,h2,rfl⟩:=hb;obtain ⟨_,hgt⟩:=(hp1.blk id' l h1).at h2;rw[hgt];exact hOld _ _ hgt hng
   ·rcases hx ni hni with e | ⟨id',nj,h1,h2,e⟩
    ·obtain ⟨id',l,ni',h1,h2,h3⟩:=ho;obtain ⟨_,hgt⟩:=(hp1.blk id' l h1).at h2;have:=hdom _ _ hgt;omega
    ·exact hnotgone _ ho ⟨id',nj,h1,h2,e.symm⟩
  ·refine ⟨ZLe.refl _,λ _ h=>.inl h,hle,λ b y h hlt ho=>hOld b y h ?_,λ b hb=>?_,λ i hB h=>?_⟩
   ·rintro ⟨id',ni,h1,h2,rfl⟩;cases h1;exact ho ⟨id,l0,ni,hl0,h2,rfl⟩
   ·rcases qmx hb with h | ⟨ni,h1,h2⟩
    ·exact .inl (qf1 h).1
    ·rcases hx ni h1 with e | ⟨id',nj,h3,h4,e⟩
     ·exact .inr (by omega)
     ·cases h3;exact .inl ⟨id,l0,nj,hl0,h4,by omega⟩
   ·have hne:i≠d:=by omega
    simp only[PS.fresh,qan,if_neg hne,PS.kill,qaq,qbu] at h;by_cases hi:i=id
    ·subst hi;exact absurd (by simp) h
    ·rw[if_neg hi] at h;exact ⟨λ e=>h (by rw[e];rfl),by simp[Upd,hne,hi]⟩
theorem qif (hp:PR Z ν S E H) {e:Sh} {x:SV} {v:Value} {cs:List Prop} {ys:List e.D} (h:newL S.blk e x=some (cs,ys)) (hc:∀ c∈cs,c) (hv:VS Z ν x v) :
  ∃ new,qez v=some ys.length/\(∀ n,n<=ys.length->qbq H e.size n v=some (new.take (n*e.size)))/\RVL (λ x u=>RV Z e x u) ys new:=by
 have row:∀ {b off cap:Nat} {cs:List Value} {et:TypeId} {k:Nat} {l:List e.D},H.t.get b=some (.cells cs et k)->off+l.length*e.size<=cs.length->∀ n,n<=l.length->qbq H e.size n (.slice (some ⟨b,off,none⟩) l.length cap)=some (((cs.drop off).take (l.length*e.size)).take (n*e.size)):=by
  intro b off cap cs et k l hb hl n hn;have hle:n*e.size<=l.length*e.size:=Nat.mul_le_mul_right _ hn;simp only[qbq];split
  next h0=>rw[h0];simp
  ·rw[if_neg (by simp)];simp only[qby,hb];rw[if_pos (by omega),List.take_take,Nat.min_eq_left hle]
 unfold newL at h;split at h
 ·cases h;rw[hv.nils];exact ⟨[],rfl,λ n hn=>by simp at hn;subst hn;simp[qbq],rfl⟩
 next e' l=>
  split at h
  next he=>
   subst he;cases h;rcases hv.sl with ⟨rfl,rfl | rfl⟩ | ⟨b,off,cap,cs',et',k,rfl,hz,hln,hrv,_⟩
   ·exact ⟨[],rfl,λ n hn=>by simp at hn;subst hn;simp[qbq],rfl⟩
   ·exact ⟨[],rfl,λ n hn=>by simp at hn;subst hn;simp[qbq,emptySlice],rfl⟩
   ·exact ⟨_,rfl,row (hp.zh _ _ hz).1 hln,hrv⟩
  ·cases h
 next l=>
  split at h
  ·cases h;rw[hv.str];refine ⟨l.map bv,by simp[qez,bstr,qc8],λ n hn=>?_,?_⟩
   ·simp only[Sh.size,Nat.mul_one,bstr,qbq];have hx':(⟨l.toArray⟩:ByteArray).extract 0 n=⟨(l.take n).toArray⟩:=by
     apply ByteArray.ext;simp
    rw[hx',<- List.map_take];simp only[List.map_toArray];rfl
   ·have:∀ l:List UInt8,RVL (λ (x:(Sh.int .u8).D) u=>RV Z (.int .u8) x u) (l.map ofB) (l.map bv):=by
     intro l
     induction l with
     | nil=>rfl
     | cons a l ih=>exact ⟨[bv a],_,rfl,by simp only[RV,bv,ofB],ih⟩
    exact this l
  ·cases h
 next r e' id lo n=>
  split at h
  next et e2 xs hl=>
   split at h
   next he=>
    subst he;split at h
    next he=>
     subst he;cases h;have hin:lo+n<=xs.length:=hc _ (by simp);have hw:=hv.win;obtain ⟨_,hbr⟩:=hp.blk _ _ hl;unfold WinR at hw;split at hw
     ·obtain ⟨rfl,rfl,hvv⟩:=hw;have e0:winL e' 0 0 xs=[]:=by simp[winL]
      rw[e0];rcases hvv with rfl | ⟨_,rfl⟩
      ·exact ⟨[],rfl,λ n hn=>by simp at hn;subst hn;simp[qbq],rfl⟩
      ·exact ⟨[],rfl,λ n hn=>by simp at hn;subst hn;simp[qbq,emptySlice],rfl⟩
     next ni hn=>
      rcases hbr with ⟨hn',_⟩ | ⟨ni',cs',tl,k,hn',hb,hrv,hkk⟩
      ·rw[hn] at hn';cases hn'
      ·rw[hn] at hn';cases hn';obtain ⟨q1,q2,q3⟩:=qe3 (tl:=tl) hrv hin;rcases hw with ⟨_,rfl,rfl | ⟨o2,t2,rfl,ht2,ho2⟩⟩ | ⟨cap,rfl,hcap⟩
       ·have e0:winL e' lo 0 xs=[]:=by simp[winL]
        rw[e0];exact ⟨[],rfl,λ n hn=>by simp at hn;subst hn;simp[qbq,emptySlice],rfl⟩
       ·have e0:winL e' lo 0 xs=[]:=by simp[winL]
        rw[e0];exact ⟨[],rfl,λ n hn=>by simp at hn;subst hn;simp[qbq],rfl⟩
       ·refine ⟨_,by rw[q3];rfl,λ m hm=>?_,q1⟩;have:=row (cap:=cap) (l:=winL e' lo n xs) hb (by rw[q3];exact q2) m hm;rw[q3] at this;exact this
    ·cases h
   ·cases h
  ·cases h
 ·cases h
theorem qr6 (ht:TTOK P tt) {ts:Array TypeId} {t0 t1 ti:TI} {et:TypeId} (h0:(ts[0]?).bind (lk tt)=some t0) (h1:(ts[1]?).bind (lk tt)=some t1) (k0:t0.kind=.slice et) (k1:t1.kind.seq=true) (hti:lk tt et=some ti) (hpos:0<ti.size) :
  ∃ T,qlh P ts=some T/\T.elem=et/\T.size=ti.size/\T.bytes=ti.bytes:=by
 rw[Option.bind_eq_some_iff] at h0 h1;obtain ⟨a,ha,h0⟩:=h0;obtain ⟨b,hb,h1⟩:=h1;have u0:=(ht _ _ h0).kind;rw[k0] at u0;simp only[KOK] at u0;have u1:=(ht _ _ h1).kind;obtain ⟨d1,u1,hd⟩:∃ d1,qaa P (underlying b)=some d1/\qol d1=false:=by
  cases hk:t1.kind with
  | slice e=>rw[hk] at u1;exact ⟨_,u1,rfl⟩
  | str=>rw[hk] at u1;exact ⟨_,u1,rfl⟩
  | _=>rw[hk] at k1;simp[TK.seq] at k1
 obtain ⟨z,hz,_,_,hzs,_⟩:=(ht _ _ hti).zero;obtain ⟨inf,hi,hib,his⟩:=(ht _ _ hti).bytes;refine ⟨⟨et,inf.size,inf.bytes,z.cells⟩,?_,rfl,his,hib⟩;simp only[qlh,ha,hb,u0,u1,hd,hi,hz];rw[if_pos ⟨by rw[hzs,his],by omega⟩]
theorem qki {n c b:Nat} (h:c<n) (hn:n<2 ^ 30) (hb:b<=2 ^ 10):Builtin.nextslicecap n c*b<=2 ^ 48:=by
 have h1:=qfe h;have h2:Builtin.nextslicecap n c*b<=2 ^ 31*2 ^ 10:=Nat.mul_le_mul (by omega) hb;omega
theorem qs4 {d:Nat} (hp:PR Z ν S E H) (hdom:∀ i x,H.t.get i=some x->i<H.next) (hdB:d<BIG) {o:Oper} {ts:Array TypeId} {vsrc vx:Value} (hop:∀ {r},qap P H ts vsrc vx=some r->aOp P F ρ' H o=some (.val r.1,r.2)) {id n:Nat} {et:TypeId} {ti:TI} {xs ys:List ti.sh.D} {rw0:Bool}
  (hlk:lk S.blk id=some (.row et ti.sh xs)) (hw:WinR rw0 ν ti.sh id 0 n vsrc) {T:AppT} (hT:qlh P ts=some T) (hTe:T.elem=et) (hTs:T.size=ti.size) (hTb:T.bytes=ti.bytes) (hsz:ti.sh.size=ti.size) (hpos:0<ti.size) {new:List Value}
  (n1:qez vx=some ys.length) (hn2:qbq H T.size ys.length vx=some new) (n3:RVL (λ x u=>RV Z ti.sh x u) ys new) (hnl:new.length=ys.length*ti.size) (c1:n+ys.length<2 ^ 30) (c2:ti.bytes<=2 ^ 10) (c3:n<=xs.length/\(rw0=false->0<n)/\(rw0=true->n=xs.length)) :
  ∃ gone lb s v H' ν',Ac.fresh (some id) (.row et ti.sh (if rw0 then xs++ys else xs.take n++ys))=.fresh gone lb/\some (SV.win true ti.sh d 0 (n+ys.length))=some s/\aOp P F ρ' H o=some (.val v,H')/\PR Z ν' (S.fresh gone d lb) E H'/\VS Z ν' s v/\FC Z ν S H Z ν' (S.fresh gone d lb) H':=by
 have hL:(if rw0 then xs++ys else xs.take n++ys)=xs.take n++ys:=by
  cases rw0 with
  | true=>simp only[if_true];rw[List.take_of_length_le (by have:=c3.2.2 rfl;omega)]
  | false=>simp
 have hone:new.all (·.oneCell')=true:=by rw[List.all_eq_true];exact RVL.all (λ x u k=>RV.one ti.sh x u k) n3
 have hTpos:0<T.size:=by omega
 have hnl':new.length=ys.length*T.size:=by rw[hnl,hTs]
 rw[hL];obtain ⟨_,hbr⟩:=hp.blk _ _ hlk;unfold WinR at hw;split at hw
 next hn=>
  obtain ⟨_,rfl,hvv⟩:=hw;have hvn:vsrc=.slice none 0 0:=by
   rcases hvv with h | ⟨h,_⟩
   ·exact h
   ·have:=c3.2.1 h;omega
  subst hvn;simp only[List.take_zero,List.nil_append,Nat.zero_add] at c1 |-;by_cases hy:ys.length=0
  ·have hyn:=List.eq_nil_of_length_eq_zero hy;subst hyn;have hap:qap P H ts (.slice none 0 0) vx=some (.slice none 0 0,H):=by
    simp only[qap,hT,n1,hn2];rw[if_neg (by rw[hnl'];simp),if_pos (by simp),if_pos (by simp)]
   obtain ⟨q1,q2⟩:=qcg (H':=H) (gone:=some id) (d:=d) (x:=none) (lb:=.row et ti.sh []) hp hdom hdB (by rintro i hi;cases hi;exact ⟨_,hlk⟩) (λ b y h _=>h) (Nat.le_refl _) (by simp) ⟨by omega,.inl ⟨qal,rfl⟩⟩;refine ⟨some id,_,_,_,H,_,rfl,rfl,hop hap,q1,VS.mkWin ?_,q2⟩;unfold WinR;rw[qal];exact ⟨rfl,rfl,.inl rfl⟩
  ·have hap:qap P H ts (.slice none 0 0) vx=some (.slice (some ⟨H.next,0,none⟩) (0+ys.length) qae,H.add (.cells new T.elem (10+T.size))):=by
    simp only[qap,hT,n1,hn2];rw[if_neg (by rw[hnl'];simp),if_neg (by unfold qae;omega),if_pos ⟨trivial,by omega,by rw[hTb];exact qki (by omega) (by omega) c2,Nat.zero_le _⟩]
   obtain ⟨q1,q2⟩:=qcg (H':=H.add (.cells new T.elem (10+T.size))) (gone:=some id) (d:=d) (x:=some ⟨H.next,none⟩) (lb:=.row et ti.sh ys) hp hdom hdB (by rintro i hi;cases hi;exact ⟨_,hlk⟩) (λ b y h _=>by rw[AHeap.get_add_other (by have:=hdom _ _ h;omega)];exact h) (by simp[AHeap.add]) (by rintro ni hni;cases hni;exact .inl rfl)
    ⟨by omega,.inr ⟨_,new,[],_,qal,by rw[List.append_nil,hTe];exact AHeap.get_add (Nat.zero_le _),n3,.inl ⟨rfl,by rw[hTs,hsz]⟩⟩⟩
   refine ⟨some id,_,_,_,_,_,rfl,rfl,hop hap,q1,VS.mkWin ?_,q2⟩;unfold WinR;rw[qal];exact .inr ⟨qae,by simp,rfl⟩
 next ni hn=>
  rcases hbr with ⟨hn',_⟩ | ⟨ni',cells,tl,k,hn',hb,hrv,hkk⟩
  ·rw[hn] at hn';cases hn'
  ·rw[hn] at hn';cases hn';obtain ⟨p1,p2,_⟩:=qe3 (tl:=tl) (lo:=0) hrv (by rw[Nat.zero_add];exact c3.1);generalize hvs0:cells++tl=vs0 at *;simp only[winL,List.drop_zero,Nat.zero_mul,Nat.zero_add] at p1 p2;rw[hsz] at p1 p2;have happ:RVL (λ x u=>RV Z ti.sh x u) (xs.take n++ys) (vs0.take (n*ti.size)++new):=p1.app n3;have hgone:∀ i,some id=some i->∃ l,lk S.blk i=some l:=by rintro i hi;cases hi;exact ⟨_,hlk⟩
   rcases hw with ⟨hr,h0,_⟩ | ⟨cap,rfl,hcap⟩
   ·have:=c3.2.1 hr;omega
   ·simp only[Nat.zero_mul] at hop ⊢;have same:ys.length=0→qap     P H ts (.slice (some ⟨ni.b,0,none⟩) n cap) vx=some (.slice (some ⟨ni.b,0,none⟩) n cap,H) →
      ∃ gone lb s v H' ν',Ac.fresh (some id) (.row et ti.sh (xs.take n++ys))=.fresh gone lb/\some (SV.win true ti.sh d 0 (n+ys.length))=some s/\aOp P F ρ' H o=some (.val v,H')/\PR Z ν' (S.fresh gone d lb) E H'/\VS Z ν' s v/\FC Z ν S H Z ν' (S.fresh gone d lb) H':=by
     intro hy hap;have hyn:=List.eq_nil_of_length_eq_zero hy;subst hyn;have hnew:new=[]:=List.eq_nil_of_length_eq_zero (by rw[hnl];simp);subst hnew;simp only[List.append_nil] at happ;obtain ⟨q1,q2⟩:=qcg (H':=H) (gone:=some id) (d:=d) (x:=some ni) (lb:=.row et ti.sh (xs.take n)) hp hdom hdB hgone (λ b y h _=>h) (Nat.le_refl _) (by rintro nj hnj;cases hnj;exact .inr ⟨id,ni,rfl,hn,rfl⟩)
      ⟨by omega,.inr ⟨ni,vs0.take (n*ti.size),vs0.drop (n*ti.size),k,qal,by rw[List.take_append_drop];exact hb,happ,by rw[List.take_append_drop];exact hkk⟩⟩
     simp only[List.append_nil,List.length_nil,Nat.add_zero];refine ⟨some id,_,_,_,_,_,rfl,rfl,hop hap,q1,VS.mkWin ?_,q2⟩;unfold WinR;rw[qal];exact .inr ⟨cap,by simp,hcap⟩
    rcases hkk with ⟨htot,rfl⟩ | ⟨htot,rfl⟩
    ·rw[htot] at hcap;simp only at hcap;subst hcap;by_cases hy:ys.length=0
     ·refine same hy ?_;simp only[qap,hT,n1,hn2];rw[if_neg (by rw[hnl'];simp),if_pos ⟨hy,by simp⟩,if_pos trivial];simp only[hb];rw[if_pos ⟨by rw[hTs,hsz],by simp,by rw[hTs];omega⟩]
     ·have hap:qap P H ts (.slice (some ⟨ni.b,0,none⟩) n qae) vx=some (.slice (some ⟨H.next,0,none⟩) (n+ys.length) qae,(H.put ni.b .dead).add (.cells (vs0.take (n*T.size)++new) T.elem (10+T.size))):=by
       simp only[qap,hT,n1,hn2];rw[if_neg (by rw[hnl'];simp),if_neg (by simp[hy]),if_neg (by simp),if_pos trivial];simp only[hb];have hbd:2*(n+ys.length)*T.bytes<=2 ^ 48:=by
        rw[hTb];have:2*(n+ys.length)*ti.bytes<=2 ^ 31*2 ^ 10:=Nat.mul_le_mul (by omega) c2;omega
       rw[if_pos ⟨by rw[hTs,hsz],trivial,by rw[hTs];omega,hTe.symm,by omega,hbd,Nat.zero_le _,hone⟩]
      have hnb:ni.b<H.next:=hdom _ _ hb;have hnx:(H.put ni.b .dead).next=H.next:=rfl;obtain ⟨q1,q2⟩:=qcg (H':=(H.put ni.b .dead).add (.cells (vs0.take (n*T.size)++new) T.elem (10+T.size))) (gone:=some id) (d:=d) (x:=some ⟨H.next,none⟩) (lb:=.row et ti.sh (xs.take n++ys)) hp hdom hdB hgone
       (λ b y h hng=>by
        rw[AHeap.get_add_other (by have:=hdom _ _ h;rw[hnx];omega),AHeap.get_put_other]
        ·exact h
        ·rintro rfl;exact hng ⟨id,ni,rfl,hn,rfl⟩) (by simp[AHeap.add,AHeap.put]) (by rintro nj hnj;cases hnj;exact .inl rfl)
       ⟨by omega,.inr ⟨_,vs0.take (n*T.size)++new,[],10+T.size,qal,by rw[List.append_nil,<- hTe];exact AHeap.get_add (H:=H.put ni.b .dead) (Nat.zero_le _),by rw[hTs];exact happ,.inl ⟨rfl,by rw[hTs,hsz]⟩⟩⟩
      refine ⟨some id,_,_,_,_,_,rfl,rfl,hop hap,q1,VS.mkWin ?_,q2⟩;unfold WinR;rw[qal];exact .inr ⟨qae,by simp,rfl⟩
    ·rw[htot] at hcap;simp only at hcap;obtain ⟨d1,d2,d3⟩:=hcap;rw[hsz,Nat.zero_add] at d3;have hno:cap≠qae:=by unfold qae;omega
     by_cases hy:ys.length=0
     ·refine same hy ?_;simp only[qap,hT,n1,hn2];rw[if_neg (by rw[hnl'];simp),if_pos ⟨hy,by simp⟩,if_neg hno,if_pos d1]
     ·by_cases hfit:n+ys.length<=cap
      ·have hin:n*ti.size+new.length<=vs0.length:=by
        rw[hnl,<- Nat.add_mul];have:(n+ys.length)*ti.size<=cap*ti.size:=Nat.mul_le_mul_right _ hfit;omega
       have hst:=qh5 (off:=n*ti.size) hb (by decide) hin (λ v hv=>by rw[List.all_eq_true] at hone;exact hone v hv);have hap:qap P H ts (.slice (some ⟨ni.b,0,none⟩) n cap) vx=some (.slice (some ⟨ni.b,0,none⟩) (n+ys.length) cap,H.put ni.b (.cells (vs0.take (n*ti.size)++new++vs0.drop (n*ti.size+new.length)) et 0)):=by
        simp only[qap,hT,n1,hn2];rw[if_neg (by rw[hnl'];simp),if_neg (by simp[hy]),if_neg (by simp),if_neg hno,if_pos hfit];rw[qaz,hTs,Nat.zero_add,hst]
       obtain ⟨q1,q2⟩:=qcg (H':=H.put ni.b (.cells (vs0.take (n*ti.size)++new++vs0.drop (n*ti.size+new.length)) et 0)) (gone:=some id) (d:=d) (x:=some ni) (lb:=.row et ti.sh (xs.take n++ys)) hp hdom hdB hgone
        (λ b y h hng=>by
         rw[AHeap.get_put_other]
         ·exact h
         ·rintro rfl;exact hng ⟨id,ni,rfl,hn,rfl⟩) (by simp[AHeap.put]) (by rintro nj hnj;cases hnj;exact .inr ⟨id,ni,rfl,hn,rfl⟩)
        ⟨by omega,.inr ⟨ni,vs0.take (n*ti.size)++new,vs0.drop (n*ti.size+new.length),0,qal,AHeap.get_put (Nat.zero_le _),happ,.inr ⟨by
         rw[htot];congr 1
         simp only[List.length_append,List.length_take,List.length_drop];omega,rfl⟩⟩⟩
       refine ⟨some id,_,_,_,_,_,rfl,rfl,hop hap,q1,VS.mkWin ?_,q2⟩;unfold WinR;rw[qal];refine .inr ⟨cap,by simp,?_⟩;rw[htot];exact ⟨hfit,d2,by rw[hsz,Nat.zero_add];exact d3⟩
      ·have hold:qby H ⟨ni.b,0,none⟩ (n*T.size)=some (vs0.take (n*ti.size)):=by
        simp only[qby,hb];rw[hTs,if_pos (by omega)];simp
       have hap:qap P H ts (.slice (some ⟨ni.b,0,none⟩) n cap) vx=some (.slice (some ⟨H.next,0,none⟩) (n+ys.length) qae,H.add (.cells (vs0.take (n*ti.size)++new) T.elem (10+T.size))):=by
        simp only[qap,hT,n1,hn2];rw[if_neg (by rw[hnl'];simp),if_neg (by simp[hy]),if_neg (by simp),if_neg hno,if_neg hfit];simp only[hold];rw[if_pos ⟨by omega,by rw[hTb];exact qki (by omega) c1 c2,Nat.zero_le _⟩]
       obtain ⟨q1,q2⟩:=qcg (H':=H.add (.cells (vs0.take (n*ti.size)++new) T.elem (10+T.size))) (gone:=some id) (d:=d) (x:=some ⟨H.next,none⟩) (lb:=.row et ti.sh (xs.take n++ys)) hp hdom hdB hgone
        (λ b y h _=>by rw[AHeap.get_add_other (by have:=hdom _ _ h;omega)];exact h) (by simp[AHeap.add]) (by rintro nj hnj;cases hnj;exact .inl rfl)
        ⟨by omega,.inr ⟨_,vs0.take (n*ti.size)++new,[],10+T.size,qal,by rw[List.append_nil,<- hTe];exact AHeap.get_add (Nat.zero_le _),happ,.inl ⟨rfl,by rw[hTs,hsz]⟩⟩⟩
       refine ⟨some id,_,_,_,_,_,rfl,rfl,hop hap,q1,VS.mkWin ?_,q2⟩;unfold WinR;rw[qal];exact .inr ⟨qae,by simp,rfl⟩
theorem qdu (ht:TTOK P tt) (hp:PR Z ν S E H) (hdom:∀ i x,H.t.get i=some x->i<H.next) (hρ:∀ x s,ρ x=some s->∃ v,ρ' x=some v/\VS Z ν s v) {o:Oper} {c:Call} {d:Nat} (hdB:d<BIG) (ho:o.op=.call c) (hcal:c.callee=.builtin .append) {cs:List Prop} {r:Option SV} {a:Ac}
  (h:pW tt ρ S.blk (some d) o=some (cs,(r,a))) (hc:∀ c∈cs,c):∃ gone lb s v H' ν',a=.fresh gone lb/\r=some s/\aOp P F ρ' H o=some (.val v,H')/\PR Z ν' (S.fresh gone d lb) E H'/\VS Z ν' s v/\FC Z ν S H Z ν' (S.fresh gone d lb) H':=by
 unfold pW at h;simp only[ho,hcal] at h;split at h
 next s x t0 t1 hargs h0 h1=>
  split at h
  next et k0=>
   split at h
   next hseq=>
    split at h
    next ti hti=>
     split at h
     next cs0 ys hys=>
      split at h
      next hcond=>
       obtain ⟨hsz,hpos⟩:=hcond;obtain ⟨vs,hvs,hl⟩:=qaw hρ hargs;obtain ⟨vsrc,vx,rfl,hs,hx⟩:=hl.one2;obtain ⟨T,hT,hTe,hTs,hTb⟩:=qr6 ht h0 h1 k0 hseq hti hpos;have hop:∀ {r},qap P H c.argTypes vsrc vx=some r->aOp P F ρ' H o=some (.val r.1,r.2):=by
        intro r hr;obtain ⟨dst,op,type,pos,after,guard⟩:=o;simp only at ho;subst ho;simp[aOp,qh7,hcal,hvs,qc5,hr]
       split at h
       ·cases h;obtain ⟨new,n1,n2,n3⟩:=qif hp hys (λ c hcc=>hc c (List.mem_append_left _ hcc)) hx;have hnl:=n3.len (λ x u k=>RV.len ti.sh x u k);have hn2:=n2 ys.length (Nat.le_refl _);rw[hsz,<- hTs] at hn2;rw[hsz] at hnl;rw[List.take_of_length_le (by rw[hnl,hTs];exact Nat.le_refl _)] at hn2;have c1:ys.length<2 ^ 30:=hc _ (List.mem_append_right _ (by simp));have c2:ti.bytes<=2 ^ 10:=hc _ (List.mem_append_right _ (by simp));rw[hs.nils] at hop;by_cases hy:ys.length=0
        ·have hyn:=List.eq_nil_of_length_eq_zero hy;subst hyn;have hap:qap P H c.argTypes (.slice none 0 0) vx=some (.slice none 0 0,H):=by
          simp only[qap,hT,n1,hn2];rw[if_neg (by rw[hnl,hTs];simp),if_pos (by simp),if_pos (by simp)]
         obtain ⟨q1,q2⟩:=qcg (H':=H) (gone:=none) (d:=d) (x:=none) (lb:=.row et ti.sh []) hp hdom hdB (by simp) (λ b y h _=>h) (Nat.le_refl _) (by simp) ⟨by omega,.inl ⟨qal,rfl⟩⟩;exact ⟨none,_,_,_,H,_,rfl,rfl,hop hap,q1,VS.mkWin (by unfold WinR;rw[qal];exact ⟨rfl,rfl,.inl rfl⟩),q2⟩
        ·have hap:qap P H c.argTypes (.slice none 0 0) vx=some (.slice (some ⟨H.next,0,none⟩) (0+ys.length) qae,H.add (.cells new T.elem (10+T.size))):=by
          simp only[qap,hT,n1,hn2];rw[if_neg (by rw[hnl,hTs];simp),if_neg (by unfold qae;omega),if_pos ⟨trivial,by omega,by rw[hTb];exact qki (by omega) (by omega) c2,Nat.zero_le _⟩]
         obtain ⟨q1,q2⟩:=qcg (H':=H.add (.cells new T.elem (10+T.size))) (gone:=none) (d:=d) (x:=some ⟨H.next,none⟩) (lb:=.row et ti.sh ys) hp hdom hdB (by simp) (λ b y h _=>by rw[AHeap.get_add_other (by have:=hdom _ _ h;omega)];exact h) (by simp[AHeap.add]) (by rintro ni hni;cases hni;exact .inl rfl)
          ⟨by omega,.inr ⟨_,new,[],_,qal,by rw[List.append_nil,hTe];exact AHeap.get_add (Nat.zero_le _),n3,.inl ⟨rfl,by rw[hTs,hsz]⟩⟩⟩
         refine ⟨none,_,_,_,_,_,rfl,rfl,hop hap,q1,VS.mkWin ?_,q2⟩;unfold WinR;rw[qal];exact .inr ⟨qae,by simp,rfl⟩
       next rw0 e id lo n=>
        split at h
        next et' e' xs hlk=>
         split at h
         next he=>
          subst he;split at h
          next he2=>
           obtain ⟨he3,rfl⟩:=he2;cases h;obtain ⟨new,n1,n2,n3⟩:=qif hp hys (λ c hcc=>hc c (List.mem_append_left _ (List.mem_append_left _ hcc))) hx;have hnl:=n3.len (λ x u k=>RV.len ti.sh x u k);have hn2:=n2 ys.length (Nat.le_refl _);rw[hsz,<- hTs] at hn2;rw[hsz] at hnl;rw[List.take_of_length_le (by rw[hnl,hTs];exact Nat.le_refl _)] at hn2;have c0:lo=0:=hc _ (List.mem_append_right _ (by simp));have c1:n+ys.length<2 ^ 30:=hc _ (List.mem_append_right _ (by simp));have c2:ti.bytes<=2 ^ 10:=hc _ (List.mem_append_right _ (by simp));have c3:n<=xs.length/\(rw0=false->0<n)/\(rw0=true->n=xs.length):=by
            cases rw0 with
            | true=>have:n=xs.length:=hc _ (List.mem_append_left _ (List.mem_append_right _ (by simp)));exact ⟨by omega,by simp,λ _=>this⟩
            | false=>
             have a1:0<n:=hc _ (List.mem_append_left _ (List.mem_append_right _ (by simp)));have a2:n<=xs.length:=hc _ (List.mem_append_left _ (List.mem_append_right _ (by simp)));exact ⟨a2,λ _=>a1,by simp⟩
           subst c0;subst he3;exact qs4 hp hdom hdB (λ hr=>hop hr) hlk hs.win hT hTe hTs hTb hsz hpos n1 hn2 n3 hnl c1 c2 c3
          ·cases h
         ·cases h
        ·cases h
       ·cases h
      ·cases h
     ·cases h
    ·cases h
   ·cases h
  ·cases h
 ·cases h
end
section
variable {P:Program} {tt:TT} {Z:Nat->Option ABlk} {ν:Nu} {S:PS} {E:T Value} {H H':AHeap} {ρ:Operand->Option SV} {ρ':Operand->Option Value} {F:FuncId->Bool}
theorem PR.ext {S':PS} (hp:PR Z ν S E H) (he:∀ t,lk S'.env t=lk S.env t) (hb:∀ t,lk S'.blk t=lk S.blk t):PR Z ν S' E H where
 env t s h:=hp.env t s (by rw[<- he];exact h)
 blk t s h:=hp.blk t s (by rw[<- hb];exact h)
 zh:=hp.zh
 zo b:=by
  rintro ⟨id,lb,ni,h1,h2,h3⟩;exact hp.zo b ⟨id,lb,ni,by rw[<- hb];exact h1,h2,h3⟩
 inj i j li lj ni nj h1 h2:=hp.inj i j li lj ni nj (by rw[<- hb];exact h1) (by rw[<- hb];exact h2)
theorem FC.same {S':PS} (hb:∀ t,lk S'.blk t=lk S.blk t):FC Z ν S H Z ν S' H:=⟨ZLe.refl _,λ _ h=>.inl h,Nat.le_refl _,λ _ _ h _ _=>h,λ b ⟨id,lb,ni,h1,h2,h3⟩=>.inl ⟨id,lb,ni,by rw[<- hb];exact h1,h2,h3⟩,λ id _ h=>⟨by rw[<- hb];exact h,rfl⟩⟩
theorem qeb (ht:TTOK P tt) (hp:PR Z ν S E H) (hρ:∀ x s,ρ x=some s->∃ v,ρ' x=some v/\VS Z ν s v) {o:Oper} {c:Call} {d:Option Nat} (ho:o.op=.call c) (hcal:c.callee=.builtin .copy) {cs:List Prop} {r:Option SV} {a:Ac}
  (h:pW tt ρ S.blk d o=some (cs,(r,a))) (hc:∀ c∈cs,c):∃ id lb s v H',a=.turn id lb/\r=some s/\aOp P F ρ' H o=some (.val v,H')/\PR Z ν ⟨S.env,st S.blk id lb⟩ E H'/\VS Z ν s v/\FC Z ν S H Z ν ⟨S.env,st S.blk id lb⟩ H':=by
 unfold pW at h;simp only[ho,hcal] at h
 ·split at h
  next w e id lo n x t0 hargs h0=>
   split at h
   next et k0=>
    split at h
    next ti hti=>
     split at h
     next cs0 ys et' e' xs hys hlk=>
      split at h
      next he=>
       subst he;split at h
       next hsz=>
        cases h;obtain ⟨vs,hvs,hl⟩:=qaw hρ hargs;obtain ⟨vd,vx,rfl,hs,hx⟩:=hl.one2;have hin:lo+n<=xs.length:=hc _ (List.mem_append_right _ (by simp));obtain ⟨new,n1,n2,n3⟩:=qif hp hys (λ c hcc=>hc c (List.mem_append_left _ hcc)) hx;have hmin:=n2 (Nat.min ys.length n) (Nat.min_le_left _ _);rw[Option.bind_eq_some_iff] at h0;obtain ⟨t,ha,h0⟩:=h0;have u0:=(ht _ _ h0).kind;rw[k0] at u0;simp only[KOK] at u0;have hwr:=hs.win;obtain ⟨hpos,hbr⟩:=hp.blk _ _ hlk;have hop:∀ {r},qo6 P H c.argTypes vd vx=some r->aOp P F ρ' H o=some (.val r.1,r.2):=by
         intro r hr;obtain ⟨dst,op,type,pos,after,guard⟩:=o;simp only at ho;subst ho;simp[aOp,qh7,hcal,hvs,qc5,hr]
        have hyt:ys.take n=ys.take (Nat.min ys.length n):=by
         by_cases hq:ys.length<=n
         ·have e:Nat.min ys.length n=ys.length:=Nat.min_eq_left hq;rw[e,List.take_of_length_le hq,List.take_of_length_le (Nat.le_refl _)]
         ·have e:Nat.min ys.length n=n:=Nat.min_eq_right (by omega);rw[e]
        have hsl:∃ bb cap,vd=.slice bb n cap/\(0<n->∃ ni,ν id=some ni/\bb=some ⟨ni.b,lo*e'.size,none⟩):=by
         unfold WinR at hwr;split at hwr
         ·obtain ⟨rfl,rfl,rfl | ⟨_,rfl⟩⟩:=hwr
          ·exact ⟨_,_,rfl,by omega⟩
          ·exact ⟨_,_,rfl,by omega⟩
         next ni hn=>
          rcases hwr with ⟨_,rfl,rfl | ⟨_,_,rfl,_⟩⟩ | ⟨cap,rfl,_⟩
          ·exact ⟨_,_,rfl,by omega⟩
          ·exact ⟨_,_,rfl,by omega⟩
          ·exact ⟨_,_,rfl,λ _=>⟨ni,hn,rfl⟩⟩
        obtain ⟨bb,cap,rfl,hbb⟩:=hsl;by_cases h0':Nat.min ys.length n=0
        ·have hcp:qo6 P H c.argTypes (.slice bb n cap) vx=some (goInt (Nat.min ys.length n),H):=by
          rw[h0',Nat.zero_mul,List.take_zero] at hmin;simp only[qo6,ha,u0,n1,(ht _ _ hti).size,hsz,h0',hmin,if_true]
         have e0:setRow xs lo (ys.take n)=xs:=by rw[hyt,h0'];simp[setRow]
         have hb:∀ t,lk (st S.blk id (.row et' e' xs)) t=lk S.blk t:=by
          intro t;rw[qan];split
          next h=>subst h;exact hlk.symm
          ·rfl
         rw[e0];exact ⟨id,_,_,_,H,rfl,rfl,hop hcp,hp.ext (λ _=>rfl) hb,VS.mkInt,FC.same hb⟩
        ·obtain ⟨ni,hn,rfl⟩:=hbb (by
          have:Nat.min ys.length n<=n:=Nat.min_le_right _ _
          omega)
         rcases hbr with ⟨hn',_⟩ | ⟨ni',cells,tl,k,hn',hb,hrv,hkk⟩
         ·rw[hn] at hn';cases hn'
         ·rw[hn] at hn';cases hn';have hnl:=n3.len (λ x u k=>RV.len e' x u k);have hnewt:=RVL.take (λ x u k=>RV.len e' x u k) (Nat.min ys.length n) n3;have hlen:=hnewt.len (λ x u k=>RV.len e' x u k);have hcl:=hrv.len (λ x u k=>RV.len e' x u k);generalize hm:Nat.min ys.length n=m at *;have hmn:m<=n:=by rw[<- hm];exact Nat.min_le_right _ _
          have hmy:m<=ys.length:=by rw[<- hm];exact Nat.min_le_left _ _
          have hyl:(ys.take m).length=m:=by rw[List.length_take];omega
          rw[hyl] at hlen;have hk2:k≠2:=by rcases hkk with ⟨_,rfl⟩ | ⟨_,rfl⟩ <;> omega
          have hb1:lo*e'.size+m*e'.size<=xs.length*e'.size:=by rw[<- Nat.add_mul];exact Nat.mul_le_mul_right _ (by omega)
          have hst:=qh5 (off:=lo*e'.size) hb hk2 (new:=new.take (m*e'.size)) (by rw[hlen,List.length_append];omega) (RVL.all (λ x u k=>RV.one e' x u k) hnewt);have hne:¬ new.take (m*e'.size)=[]:=by
           intro hnil;rw[hnil] at hlen;have h9:0<m*e'.size:=Nat.mul_pos (by omega) hpos;have h8:([]:List Value).length=0:=rfl;omega
          have hcp:qo6 P H c.argTypes (.slice (some ⟨ni.b,lo*e'.size,none⟩) n cap) vx=some (goInt m,H.put ni.b (.cells ((cells++tl).take (lo*e'.size)++new.take (m*e'.size)++(cells++tl).drop (lo*e'.size+(new.take (m*e'.size)).length)) et' k)):=by
           simp only[qo6,ha,u0,n1,(ht _ _ hti).size,hsz,hm,hmin];rw[if_neg hne,if_pos trivial,hst]
          have hcells:(cells++tl).take (lo*e'.size)++new.take (m*e'.size)++(cells++tl).drop (lo*e'.size+(new.take (m*e'.size)).length)=(cells.take (lo*e'.size)++new.take (m*e'.size)++cells.drop (lo*e'.size+(new.take (m*e'.size)).length))++tl:=by
           rw[List.take_append_of_le_length (by omega),List.drop_append_of_le_length (by rw[hlen];omega)];simp only[List.append_assoc]
          have hrow:RVL (λ x u=>RV Z e' x u) (setRow xs lo (ys.take n)) (cells.take (lo*e'.size)++new.take (m*e'.size)++cells.drop (lo*e'.size+(new.take (m*e'.size)).length)):=by
           rw[hyt];unfold setRow;rw[hyl,hlen,<- Nat.add_mul];exact ((RVL.take (λ x u k=>RV.len e' x u k) lo hrv).app hnewt).app (RVL.drop (λ x u k=>RV.len e' x u k) (lo+m) hrv)
          rw[hcells] at hcp;have hbr':BR Z ν (H.put ni.b (.cells ((cells.take (lo*e'.size)++new.take (m*e'.size)++cells.drop (lo*e'.size+(new.take (m*e'.size)).length))++tl) et' k)) id (.row et' e' (setRow xs lo (ys.take n))):=by
           refine ⟨hpos,.inr ⟨ni,_,tl,k,hn,AHeap.get_put (Nat.zero_le _),hrow,?_⟩⟩;rcases hkk with h | ⟨h1,h2⟩
           ·exact .inl h
           ·refine .inr ⟨?_,h2⟩;rw[h1];congr 1;simp only[List.length_append,List.length_take,List.length_drop];simp only[List.length_take] at hlen |-;omega
          have hmm:(min ys.length n:Nat)=m:=hm;refine ⟨id,_,_,_,_,rfl,rfl,hop hcp,hp.turn hlk hn hbr',?_,FC.turn hlk hn⟩;simp only[hmm];exact VS.mkInt
       ·cases h
      ·cases h
     ·cases h
    ·cases h
   ·cases h
  ·cases h
theorem qdj (ht:TTOK P tt) (hp:PR Z ν S E H) (hρ:∀ x s,ρ x=some s->∃ v,ρ' x=some v/\VS Z ν s v) {o:Oper} {c:Call} {d:Option Nat} (ho:o.op=.call c) (hcal:c.callee=.builtin .clear) {cs:List Prop} {r:Option SV} {a:Ac}
  (h:pW tt ρ S.blk d o=some (cs,(r,a))) (hc:∀ c∈cs,c):∃ id lb s v H',a=.turn id lb/\r=some s/\aOp P F ρ' H o=some (.val v,H')/\PR Z ν ⟨S.env,st S.blk id lb⟩ E H'/\VS Z ν s v/\FC Z ν S H Z ν ⟨S.env,st S.blk id lb⟩ H':=by
 unfold pW at h;simp only[ho,hcal] at h
 ·split at h
  next w e id lo n t0 hargs h0=>
   split at h
   next et k0=>
    split at h
    next ti hti=>
     split at h
     next et' e' xs hlk=>
      split at h
      next he=>
       subst he;split at h
       next hcond=>
        obtain ⟨hsh,hsz⟩:=hcond;subst hsh;cases h;obtain ⟨vs,hvs,hl⟩:=qaw hρ hargs;obtain ⟨vd,rfl,hs⟩:=hl.one1;have hin:lo+n<=xs.length:=hc _ (by simp);rw[Option.bind_eq_some_iff] at h0;obtain ⟨t,ha,h0⟩:=h0;have u0:=(ht _ _ h0).kind;rw[k0] at u0;simp only[KOK] at u0;have hwr:=hs.win;obtain ⟨hpos,hbr⟩:=hp.blk _ _ hlk;have hop:∀ {r},qjc P H c.argTypes vd=some r->aOp P F ρ' H o=some (.val r.1,r.2):=by
         intro r hr;obtain ⟨dst,op,type,pos,after,guard⟩:=o;simp only at ho;subst ho;simp[aOp,qh7,hcal,hvs,qc5,hr]
        have hsl:∃ bb cap,vd=.slice bb n cap/\(0<n->∃ ni,ν id=some ni/\bb=some ⟨ni.b,lo*ti.sh.size,none⟩):=by
         unfold WinR at hwr;split at hwr
         ·obtain ⟨rfl,rfl,rfl | ⟨_,rfl⟩⟩:=hwr
          ·exact ⟨_,_,rfl,by omega⟩
          ·exact ⟨_,_,rfl,by omega⟩
         next ni hn=>
          rcases hwr with ⟨_,rfl,rfl | ⟨_,_,rfl,_⟩⟩ | ⟨cap,rfl,_⟩
          ·exact ⟨_,_,rfl,by omega⟩
          ·exact ⟨_,_,rfl,by omega⟩
          ·exact ⟨_,_,rfl,λ _=>⟨ni,hn,rfl⟩⟩
        obtain ⟨bb,cap,rfl,hbb⟩:=hsl;have hvt:VS Z ν (.tup []) (.tuple #[]):=⟨[],rfl,(show V1L Z ν [] [] from rfl)⟩;by_cases h0':n=0
        ·subst h0';have hcp:qjc P H c.argTypes (.slice bb 0 cap)=some (.tuple #[],H):=by
          simp only[qjc,ha,u0,if_true]
         have e0:setRow xs lo (List.replicate 0 ti.sh.dflt)=xs:=by simp[setRow]
         have hb:∀ t,lk (st S.blk id (.row et' ti.sh xs)) t=lk S.blk t:=by
          intro t;rw[qan];split
          next h=>subst h;exact hlk.symm
          ·rfl
         show ∃ id_1 lb s v H',Ac.turn id (LB.row et' ti.sh (setRow xs lo (List.replicate 0 ti.sh.dflt)))=_/\_
         rw[e0];exact ⟨id,_,_,_,H,rfl,rfl,hop hcp,hp.ext (λ _=>rfl) hb,hvt,FC.same hb⟩
        ·obtain ⟨ni,hn,rfl⟩:=hbb (by omega);rcases hbr with ⟨hn',_⟩ | ⟨ni',cells,tl,k,hn',hb,hrv,hkk⟩
         ·rw[hn] at hn';cases hn'
         ·rw[hn] at hn';cases hn';obtain ⟨z,hz,hf,_,hzs,_⟩:=(ht _ _ hti).zero;have hzer:=RVL.zeros (Z:=Z) (ht _ _ hti) hsz n hz;have hfl:qbd z.cells.toList=true:=qep hf;have hez:(Builtin.zeroCells z.cells n)=((Array.range (n*ti.size)).map (z.cells[· % z.cells.size]!)):=by unfold Builtin.zeroCells;rw[hzs]
          rw[<- hez] at hzer;generalize hnew:(Builtin.zeroCells z.cells n).toList=new at hzer;have hlen:=hzer.len (λ x u k=>RV.len ti.sh x u k);have hcl:=hrv.len (λ x u k=>RV.len ti.sh x u k);rw[List.length_replicate] at hlen;have hk2:k≠2:=by rcases hkk with ⟨_,rfl⟩ | ⟨_,rfl⟩ <;> omega
          have hb1:lo*ti.sh.size+n*ti.sh.size<=xs.length*ti.sh.size:=by rw[<- Nat.add_mul];exact Nat.mul_le_mul_right _ (by omega)
          have hst:=qh5 (off:=lo*ti.sh.size) hb hk2 (new:=new) (by rw[hlen,List.length_append];omega) (RVL.all (λ x u k=>RV.one ti.sh x u k) hzer);have hcp:qjc P H c.argTypes (.slice (some ⟨ni.b,lo*ti.sh.size,none⟩) n cap)=some (.tuple #[],H.put ni.b (.cells ((cells++tl).take (lo*ti.sh.size)++new++(cells++tl).drop (lo*ti.sh.size+new.length)) et' k)):=by
           simp only[qjc,ha,u0,if_neg h0',hz];rw[if_pos ⟨hfl,by omega,trivial⟩,hnew,hst]
          have hcells:(cells++tl).take (lo*ti.sh.size)++new++(cells++tl).drop (lo*ti.sh.size+new.length)=(cells.take (lo*ti.sh.size)++new++cells.drop (lo*ti.sh.size+new.length))++tl:=by
           rw[List.take_append_of_le_length (by omega),List.drop_append_of_le_length (by rw[hlen];omega)];simp only[List.append_assoc]
          have hrow:RVL (λ x u=>RV Z ti.sh x u) (setRow xs lo (List.replicate n ti.sh.dflt)) (cells.take (lo*ti.sh.size)++new++cells.drop (lo*ti.sh.size+new.length)):=by
           unfold setRow;rw[List.length_replicate,hlen,<- Nat.add_mul];exact ((RVL.take (λ x u k=>RV.len ti.sh x u k) lo hrv).app hzer).app (RVL.drop (λ x u k=>RV.len ti.sh x u k) (lo+n) hrv)
          rw[hcells] at hcp;have hbr':BR Z ν (H.put ni.b (.cells ((cells.take (lo*ti.sh.size)++new++cells.drop (lo*ti.sh.size+new.length))++tl) et' k)) id (.row et' ti.sh (setRow xs lo (List.replicate n ti.sh.dflt))):=by
           refine ⟨hpos,.inr ⟨ni,_,tl,k,hn,AHeap.get_put (Nat.zero_le _),hrow,?_⟩⟩;rcases hkk with h | ⟨h1,h2⟩
           ·exact .inl h
           ·refine .inr ⟨?_,h2⟩;rw[h1];congr 1;simp only[List.length_append,List.length_take,List.length_drop];omega
          exact ⟨id,_,_,_,_,rfl,rfl,hop hcp,hp.turn hlk hn hbr',hvt,FC.turn hlk hn⟩
       ·cases h
      ·cases h
     ·cases h
    ·cases h
   ·cases h
  ·cases h
end
section
variable {P:Program} {tt:TT} {Z:Nat->Option ABlk} {ν:Nu} {S:PS} {E:T Value} {H:AHeap} {ρ:Operand->Option SV} {ρ':Operand->Option Value} {F:FuncId->Bool}
theorem qx8 (ht:TTOK P tt) (hp:PR Z ν S E H) {t kt et:TypeId} {kk:TK} {κ σ:Sh} {l:List (κ.D × σ.D)} {id:Nat} {y:κ.D} {z:σ.D} {mv kv xv:Value} (hk:kOf tt t=some (.map kt et)) (hkk:kOf tt kt=some kk)
  (hl:lk S.blk id=some (.mp κ σ l)) (hkey:keyK κ kk=true) (hm:VS Z ν (.mp id) mv) (hy:VD Z κ y kv) (hz:VD Z σ z xv) :
  ∃ ni x,ν id=some ni/\qcp P H t mv kv xv=some (H.put ni.b x)/\BR Z ν (H.put ni.b x) id (.mp κ σ (updM l y z)):=by
 have hkt:=ht.kind hk;simp only[KOK] at hkt;obtain ⟨hd,hck⟩:=qm7 (P:=P) hkey (ht.kind hkk);obtain ⟨ni,hn,rfl⟩:=hm.mp;obtain ⟨g1,g2,ni',es,hn',hb,hmr⟩:=hp.blk _ _ hl;rw[hn] at hn';cases hn';have hfk:=(qjs hkey hy hy).2.2;rcases qk6 (es:=es) hkey hy 0 hmr with ⟨q1,q2,q3⟩ | ⟨v,j,x,q1,q2,q3,q4,⟨e,q5,q6⟩,q7⟩
 ·refine ⟨ni,.map (es++[(kv,xv)]),hn,?_,g1,g2,ni,_,hn,AHeap.get_put (Nat.zero_le _),q3 z xv hz⟩;unfold qcp;rw[hkt];simp only[hb];rw[if_pos ⟨hfk,Nat.zero_le _⟩];simp only[hck false 9999 kv,hd,q2]
 ·refine ⟨ni,.map (es.set j (kv,xv)),hn,?_,g1,g2,ni,_,hn,AHeap.get_put (Nat.zero_le _),q7 z xv hz⟩;unfold qcp;rw[hkt];simp only[hb];rw[if_pos ⟨hfk,Nat.zero_le _⟩];simp only[Nat.sub_zero] at q5;simp only[hck false 9999 kv,hd,q2,q5,q6,if_true]
theorem qcn (ht:TTOK P tt) (hp:PR Z ν S E H) (hρ:∀ x s,ρ x=some s->∃ v,ρ' x=some v/\VS Z ν s v) {t:TypeId} {m k x:Operand} {cs:List Prop} {o:Oper} {d:Option Nat} {r:Option SV} {a:Ac} (ho:o.op=.mapUpdate t m k x\/o.op=.insert t m k x)
  (e:pW tt ρ S.blk d o=some (cs,(r,a))) :
  ∃ id l0 ni y lb,a=.turn id lb/\r=none/\lk S.blk id=some l0/\ν id=some ni/\aOp P F ρ' H o=some (.skip,H.put ni.b y)/\BR Z ν (H.put ni.b y) id lb:=by
 have key:∀ {q:Option (List Prop × Option SV × Ac)},(match ρ m,ρ k,ρ x,kOf tt t with
  | some (.mp id),some ks,some xs,some (.map kt _)=>match lk S.blk id,kOf tt kt with
   | some (.mp κ σ l),some kk=>if keyK κ kk=true then match toF κ ks,toF σ xs with
     | some y,some z=>ok (none,Ac.turn id (.mp κ σ (updM l y z)))
     | _,_=>none
    else none
   | _,_=>none
  | _,_,_,_=>none)=some (cs,(r,a))->∃ id l0 ni y lb mv kv xv,a=.turn id lb/\r=none/\lk S.blk id=some l0/\ν id=some ni/\ρ' m=some mv/\ρ' k=some kv/\ρ' x=some xv/\qcp P H t mv kv xv=some (H.put ni.b y)/\BR Z ν (H.put ni.b y) id lb:=by
  intro q h;split at h
  next id ks xs kt et hm hks hxs hk=>
   split at h
   next κ σ l kk hl hkk=>
    split at h
    next hkey=>
     split at h
     next y z hy hz=>cases h;obtain ⟨mv,hmv,hms⟩:=hρ _ _ hm;obtain ⟨kv,hkv,hkvs⟩:=hρ _ _ hks;obtain ⟨xv,hxv,hxvs⟩:=hρ _ _ hxs;obtain ⟨ni,w,h1,h2,h3⟩:=qx8 ht hp hk hkk hl hkey hms (qg3 hy hkvs) (qg3 hz hxvs);exact ⟨id,_,ni,w,_,mv,kv,xv,rfl,rfl,hl,h1,hmv,hkv,hxv,h2,h3⟩
     ·cases h
    ·cases h
   ·cases h
  ·cases h
 obtain ⟨dst,op,type,pos,after,guard⟩:=o;simp only at ho;rcases ho with rfl | rfl
 ·obtain ⟨id,l0,ni,y,lb,mv,kv,xv,h1,h2,h3,h4,h5,h6,h7,h8,h9⟩:=key (q:=none) e;exact ⟨id,l0,ni,y,lb,h1,h2,h3,h4,by simp[aOp,h5,h6,h7,h8],h9⟩
 ·obtain ⟨id,l0,ni,y,lb,mv,kv,xv,h1,h2,h3,h4,h5,h6,h7,h8,h9⟩:=key (q:=none) e;exact ⟨id,l0,ni,y,lb,h1,h2,h3,h4,by simp[aOp,h5,h6,h7,h8],h9⟩
theorem qkh (hp:PR Z ν S E H) (hρ:∀ x s,ρ x=some s->∃ v,ρ' x=some v/\VS Z ν s v) {it:Operand} {cs:List Prop} {o:Oper} {d:Option Nat} {r:Option SV} {a:Ac} (ho:o.op=.next it true)
  (e:pW tt ρ S.blk d o=some (cs,(r,a))) :
  ∃ id lb s v H',a=.turn id lb/\r=some s/\aOp P F ρ' H o=some (.val v,H')/\PR Z ν ⟨S.env,st S.blk id lb⟩ E H'/\VS Z ν s v/\FC Z ν S H Z ν ⟨S.env,st S.blk id lb⟩ H':=by
 obtain ⟨dst,op,type,pos,after,guard⟩:=o;simp only at ho;subst ho;simp only[pW] at e;split at e
 next id hit=>
  split at e
  next l pos hl=>
   cases e;obtain ⟨vp,hv,hvs⟩:=hρ _ _ hit;have hvs:CR Z ν (.ptr id 0) [vp]:=hvs;simp only[CR] at hvs;obtain ⟨ni,hn,hvp⟩:=hvs;cases hvp;obtain ⟨ni',hn',hb⟩:=hp.blk _ _ hl;rw[hn] at hn';cases hn';have hsz:(⟨l.toArray⟩:ByteArray).size=l.length:=by simp[ByteArray.size]
   by_cases hlt:pos<l.length
   ·rw[decide_eq_true hlt];refine ⟨id,_,_,_,H.put ni.b (.iter ⟨l.toArray⟩ (pos+(qub l pos).2)),rfl,rfl,?_,hp.turn hl hn ⟨ni,hn,AHeap.get_put (Nat.zero_le _)⟩,⟨[.bool true,goInt pos,.int .i32 (Utf8.decode ⟨l.toArray⟩ pos).1],rfl,_,_,rfl,?_,_,_,rfl,?_,_,[],rfl,?_,rfl⟩,FC.turn hl hn⟩
    ·simp only[aOp,hv,Option.bind_some,qwz,hb];rw[if_pos (Nat.zero_le _),if_pos (by rw[hsz];exact hlt)];rfl
    ·show CR Z ν _ _;simp only[CR]
    ·show CR Z ν _ _;simp only[CR,goInt]
    ·show CR Z ν _ _;simp only[CR];rfl
   ·rw[decide_eq_false hlt];have hb':∀ t,lk (st S.blk id (.iter l pos)) t=lk S.blk t:=by
     intro t;rw[qan];split
     next h=>subst h;exact hl.symm
     ·rfl
    refine ⟨id,_,_,.tuple #[.bool false],H,rfl,rfl,?_,hp.ext (λ _=>rfl) hb',⟨[.bool false],rfl,_,[],rfl,?_,rfl⟩,FC.same hb'⟩
    ·simp only[aOp,hv,Option.bind_some,qwz,hb];rw[if_pos (Nat.zero_le _),if_neg (by rw[hsz];exact hlt)];rfl
    ·show CR Z ν _ _;simp only[CR]
  ·cases e
 ·cases e
end
def PS.put (S:PS) (d:Option Nat) (s:Option SV):PS:=
 match d,s with
 | some d,some s=>⟨st S.env d s,S.blk⟩
 | some d,none=>⟨rm S.env d,S.blk⟩
 | none,_=>S
def PS.with (S:PS) (d:Nat) (s:SV):PS:=⟨st S.env d s,S.blk⟩
def exO (tt:TT) (G:GV) (S:PS) (o:Oper):PC PS:=
 match pA tt (pv G S.env) o with
 | some (cs,s)=>some (cs,S.put o.dst (some s))
 | none=>match pR tt (pv G S.env) S.blk o with
  | some (cs,s)=>some (cs,S.put o.dst (some s))
  | none=>match o.dst with
   | some d=>match pF tt (pv G S.env) d o with
    | some (cs,(s,lb))=>some (cs,(S.fresh none d (qld d lb)).with d s)
    | none=>match pW tt (pv G S.env) S.blk (some d) o with
     | some (cs,(r,.turn id lb))=>some (cs,PS.put ⟨S.env,st S.blk id lb⟩ (some d) r)
     | some (cs,(some s,.fresh gone lb))=>some (cs,(S.fresh gone d lb).with d s)
     | _=>none
   | none=>match pW tt (pv G S.env) S.blk none o with
    | some (cs,(r,.turn id lb))=>some (cs,PS.put ⟨S.env,st S.blk id lb⟩ none r)
    | _=>none
def GZ (Z:Nat->Option ABlk) (G:GV):Prop:=(∀ g x,lk G.l g=some x->g<qla/\∀ ν,CR Z ν (.elv x.1 x.2) [.pointer (some ⟨g,0,none⟩)])/\∀ g x,G.raw.get g=some x->Z g=some x
section
variable {P:Program} {tt:TT} {G:GV} {Z:Nat->Option ABlk} {ν:Nu} {S:PS} {E:T Value} {H H':AHeap} {F:FuncId->Bool}
theorem GZ.mono {Z':Nat->Option ABlk} (h:GZ Z G) (hz:ZLe Z Z'):GZ Z' G:=⟨λ g x e=>⟨(h.1 g x e).1,λ ν=>CR.mono hz _ _ ((h.1 g x e).2 ν)⟩,λ g x e=>hz _ _ (h.2 g x e)⟩
theorem qbr (hp:PR Z ν S E H) (hg:GZ Z G):∀ x s,pv G S.env x=some s->∃ v,qcx E x=some v/\VS Z ν s v:=by
 intro x s h
 cases x with
 | tmp t=>exact hp.env t s h
 | const v=>
  simp only[pv] at h;unfold cv at h;split at h <;> first | (cases h;done) | skip
  ·cases h;exact ⟨_,rfl,VS.mkInt⟩
  ·cases h;exact ⟨_,rfl,VS.mkBool⟩
  next b=>
   cases h
   exact ⟨_,rfl,by
    have:Value.string b=bstr b.data.toList:=by simp[bstr]
    rw[this];exact VS.mkStr⟩
  ·cases h;exact ⟨_,rfl,VS.of_one (by simp only[CR]) rfl⟩
  ·cases h;exact ⟨_,rfl,VS.of_one (by simp only[CR]) rfl⟩
  ·cases h;exact ⟨_,rfl,VS.of_one (by simp only[CR]) rfl⟩
  ·cases h;exact ⟨_,rfl,VS.of_one (by simp only[CR];exact ⟨_,rfl,rfl,rfl⟩) rfl⟩
  ·cases h;exact ⟨_,rfl,VS.of_one (by simp only[CR];exact ⟨_,rfl,rfl,rfl⟩) rfl⟩
 | global g=>
  simp only[pv] at h;rw[Option.map_eq_some_iff] at h;obtain ⟨x,hx,rfl⟩:=h;obtain ⟨h1,h2⟩:=hg.1 g x hx;exact ⟨.pointer (some ⟨g,0,none⟩),by simp[qcx,h1],VS.of_one (h2 ν) rfl⟩
 | func f=>
  simp only[pv,Option.some.injEq] at h;subst h;refine ⟨.func (.func f) #[] #[],rfl,VS.of_one ?_ rfl⟩;simp only[CR];exact ⟨[],[],rfl,by simp only[CRO],by simp only[CRO]⟩
theorem PR.put' (hp:PR Z ν S E H) {d:Option Nat} {s:Option SV} {v:Value} {E':T Value} {n:Nat} (hd:putE n d v E=some E') (h:∀ s',s=some s'->VS Z ν s' v):PR Z ν (S.put d s) E' H:=by
 cases d with
 | none=>simp only[putE,Option.some.injEq] at hd;subst hd;cases s <;> exact hp
 | some d=>
  cases s with
  | none=>exact hp.lose hd
  | some s=>exact hp.put hd (h s rfl)
theorem FC.put' {Z':Nat->Option ABlk} {ν':Nu} {S':PS} {H':AHeap} (h:FC Z ν S H Z' ν' S' H') (d:Option Nat) (s:Option SV):FC Z ν S H Z' ν' (S'.put d s) H':=by
 have e:(S'.put d s).blk=S'.blk:=by cases d <;> cases s <;> rfl
 exact ⟨h.z,h.zn,h.le,h.old,λ b ⟨id,lb,ni,h1,h2,h3⟩=>h.own b ⟨id,lb,ni,by rw[<- e];exact h1,h2,h3⟩,λ id hb h'=>h.big id hb (by rw[e] at h';exact h')⟩
theorem qvy (ht:TTOK P tt) (hp:PR Z ν S E H) (hg:GZ Z G) (hdom:∀ i x,H.t.get i=some x->i<H.next) {o:Oper} {cs:List Prop} {S':PS} (h:exO tt G S o=some (cs,S')) (hc:∀ c∈cs,c) {n:Nat} (hd:∀ d,o.dst=some d->d<n/\d<500000) :
  ∃ v H' E' ν',(aOp P F (qcx E) H o=some (.val v,H')\/(aOp P F (qcx E) H o=some (.skip,H')/\v=undef))/\putE n o.dst v E=some E'/\PR Z ν' S' E' H'/\FC Z ν S H Z ν' S' H':=by
 have hρ:=qbr hp hg;have hput:∀ v,∃ E',putE n o.dst v E=some E':=by
  intro v
  cases hdd:o.dst with
  | none=>exact ⟨E,rfl⟩
  | some d=>exact ⟨_,by simp only[putE];rw[if_pos (hd d hdd)]⟩
 unfold exO at h;split at h
 next cs' s e=>cases h;obtain ⟨v,hv,hvs⟩:=qx0 (F:=F) (H:=H) ht hρ e hc;obtain ⟨E',hE⟩:=hput v;exact ⟨v,H,E',ν,.inl hv,hE,hp.put' hE (by rintro s' hs;cases hs;exact hvs),(FC.refl _ _ _ _).put' _ _⟩
 ·split at h
  next cs' s e=>cases h;obtain ⟨v,hv,hvs⟩:=qxz (F:=F) ht hp hρ e hc;obtain ⟨E',hE⟩:=hput v;exact ⟨v,H,E',ν,.inl hv,hE,hp.put' hE (by rintro s' hs;cases hs;exact hvs),(FC.refl _ _ _ _).put' _ _⟩
  ·split at h
   next d hdd=>
    split at h
    next cs' s lb e=>cases h;obtain ⟨v,x,ni,hv,hnb,hvs,hbr⟩:=qq8 (H:=H) (F:=F) ht hρ e hc;obtain ⟨E',hE⟩:=hput v;have q1:=hp.add hdom hnb hbr;have q2:=FC.add (Z:=Z) (ν:=ν) (S:=S) (d:=d) (x:=x) (lb:=qld d lb) (Nat.lt_trans (hd d hdd).2 (by decide)) hnb;refine ⟨v,H.add x,E',_,.inl hv,hE,?_,FC.env q2⟩;rw[hdd] at hE;exact q1.put hE hvs
    ·split at h
     next cs' r id lb e=>
      cases h;have e':=e;unfold pW at e';split at e'
      next t p x hop=>
       have hx:∃ a b,pv G S.env p=some a/\pv G S.env x=some b:=by
        cases h1:pv G S.env p with
        | none=>rw[h1] at e';simp at e'
        | some a=>
         cases h2:pv G S.env x with
         | none=>rw[h1,h2] at e';simp at e'
         | some b=>exact ⟨a,b,rfl,rfl⟩
       obtain ⟨a,b,h1,h2⟩:=hx;obtain ⟨va,ha,has⟩:=hρ _ _ h1;obtain ⟨vb,hb,hbs⟩:=hρ _ _ h2;obtain ⟨id',l0,ni,xx,lb',e1,e2,e3,e4,e5,e6⟩:=qc7 ht hp hop h1 h2 has hbs e hc;cases e1;obtain ⟨E',hE⟩:=hput undef;have hao:aOp P F (qcx E) H o=some (.skip,H.put ni.b xx):=by
        obtain ⟨dst,op,type,pos,after,guard⟩:=o;simp only at hop;subst hop;simp[aOp,ha,hb,e5]
       rw[hdd] at hE |-;exact ⟨undef,_,E',ν,.inr ⟨hao,rfl⟩,hE,(hp.turn e3 e4 e6).put' hE (by rw[e2];simp),(FC.turn e3 e4).put' _ _⟩
      next c hop=>
       split at e'
       next d' hcal hdd'=>exfalso;obtain ⟨gone,lb',s,v,H',ν',e1,_⟩:=qdu (F:=F) ht hp hdom hρ (Nat.lt_trans (hd _ hdd).2 (by decide)) hop hcal e hc;cases e1
       next hcal=>obtain ⟨id',lb',s,v,H',e1,e2,e3,e4,e5,e6⟩:=qeb (F:=F) ht hp hρ hop hcal e hc;cases e1;obtain ⟨E',hE⟩:=hput v;rw[hdd] at hE |-;exact ⟨v,_,E',ν,.inl e3,hE,e4.put' hE (by rintro s' hs;rw[e2] at hs;cases hs;exact e5),e6.put' _ _⟩
       next hcal=>obtain ⟨id',lb',s,v,H',e1,e2,e3,e4,e5,e6⟩:=qdj (F:=F) ht hp hρ hop hcal e hc;cases e1;obtain ⟨E',hE⟩:=hput v;rw[hdd] at hE |-;exact ⟨v,_,E',ν,.inl e3,hE,e4.put' hE (by rintro s' hs;rw[e2] at hs;cases hs;exact e5),e6.put' _ _⟩
       ·cases e'
      next t m k x hop=>obtain ⟨id',l0,ni,xx,lb',e1,e2,e3,e4,e5,e6⟩:=qcn (F:=F) ht hp hρ (.inl hop) e;cases e1;obtain ⟨E',hE⟩:=hput undef;rw[hdd] at hE |-;exact ⟨undef,_,E',ν,.inr ⟨e5,rfl⟩,hE,(hp.turn e3 e4 e6).put' hE (by rw[e2];simp),(FC.turn e3 e4).put' _ _⟩
      next t m k x hop=>obtain ⟨id',l0,ni,xx,lb',e1,e2,e3,e4,e5,e6⟩:=qcn (F:=F) ht hp hρ (.inr hop) e;cases e1;obtain ⟨E',hE⟩:=hput undef;rw[hdd] at hE |-;exact ⟨undef,_,E',ν,.inr ⟨e5,rfl⟩,hE,(hp.turn e3 e4 e6).put' hE (by rw[e2];simp),(FC.turn e3 e4).put' _ _⟩
      next it hop=>obtain ⟨id',lb',s,v,H',e1,e2,e3,e4,e5,e6⟩:=qkh (P:=P) (F:=F) hp hρ hop e;cases e1;obtain ⟨E',hE⟩:=hput v;rw[hdd] at hE |-;exact ⟨v,_,E',ν,.inl e3,hE,e4.put' hE (by rintro s' hs;rw[e2] at hs;cases hs;exact e5),e6.put' _ _⟩
      ·cases e'
     next cs' s gone lb e=>
      cases h;have e':=e;unfold pW at e';split at e'
      next t p x hop=>
       exfalso;have hx:∃ a b,pv G S.env p=some a/\pv G S.env x=some b:=by
        cases h1:pv G S.env p with
        | none=>rw[h1] at e';simp at e'
        | some a=>
         cases h2:pv G S.env x with
         | none=>rw[h1,h2] at e';simp at e'
         | some b=>exact ⟨a,b,rfl,rfl⟩
       obtain ⟨a,b,h1,h2⟩:=hx;obtain ⟨va,ha,has⟩:=hρ _ _ h1;obtain ⟨vb,hb,hbs⟩:=hρ _ _ h2;obtain ⟨id',l0,ni,xx,lb',e1,_⟩:=qc7 ht hp hop h1 h2 has hbs e hc;cases e1
      next c hop=>
       split at e'
       next d' hcal hdd'=>obtain ⟨gone',lb',s',v,H',ν',e1,e2,e3,e4,e5,e6⟩:=qdu (F:=F) ht hp hdom hρ (Nat.lt_trans (hd _ hdd).2 (by decide)) hop hcal e hc;cases e1;cases e2;obtain ⟨E',hE⟩:=hput v;refine ⟨v,H',E',ν',.inl e3,hE,?_,FC.env e6⟩;rw[hdd] at hE;exact e4.put hE e5
       next hcal=>exfalso;obtain ⟨id',lb',s,v,H',e1,_⟩:=qeb (F:=F) ht hp hρ hop hcal e hc;cases e1
       next hcal=>exfalso;obtain ⟨id',lb',s,v,H',e1,_⟩:=qdj (F:=F) ht hp hρ hop hcal e hc;cases e1
       ·cases e'
      next t m k x hop=>exfalso;obtain ⟨id',l0,ni,xx,lb',e1,_⟩:=qcn (F:=F) ht hp hρ (.inl hop) e;cases e1
      next t m k x hop=>exfalso;obtain ⟨id',l0,ni,xx,lb',e1,_⟩:=qcn (F:=F) ht hp hρ (.inr hop) e;cases e1
      next it hop=>exfalso;obtain ⟨id',lb',s,v,H',e1,_⟩:=qkh (P:=P) (F:=F) hp hρ hop e;cases e1
      ·cases e'
     ·cases h
   next hdd=>
    split at h
    next cs' r id lb e=>
     cases h;have e':=e;unfold pW at e';split at e'
     next t p x hop=>
      have hx:∃ a b,pv G S.env p=some a/\pv G S.env x=some b:=by
       cases h1:pv G S.env p with
       | none=>rw[h1] at e';simp at e'
       | some a=>
        cases h2:pv G S.env x with
        | none=>rw[h1,h2] at e';simp at e'
        | some b=>exact ⟨a,b,rfl,rfl⟩
      obtain ⟨a,b,h1,h2⟩:=hx;obtain ⟨va,ha,has⟩:=hρ _ _ h1;obtain ⟨vb,hb,hbs⟩:=hρ _ _ h2;obtain ⟨id',l0,ni,xx,lb',e1,e2,e3,e4,e5,e6⟩:=qc7 ht hp hop h1 h2 has hbs e hc;cases e1;have hao:aOp P F (qcx E) H o=some (.skip,H.put ni.b xx):=by
       obtain ⟨dst,op,type,pos,after,guard⟩:=o;simp only at hop;subst hop;simp[aOp,ha,hb,e5]
      rw[hdd];exact ⟨undef,_,E,ν,.inr ⟨hao,rfl⟩,rfl,hp.turn e3 e4 e6,FC.turn e3 e4⟩
     next c hop=>
      split at e'
      next d' hcal hdd'=>cases hdd'
      next hcal=>obtain ⟨id',lb',s,v,H',e1,e2,e3,e4,e5,e6⟩:=qeb (F:=F) ht hp hρ hop hcal e hc;cases e1;rw[hdd];exact ⟨v,_,E,ν,.inl e3,rfl,e4,e6⟩
      next hcal=>obtain ⟨id',lb',s,v,H',e1,e2,e3,e4,e5,e6⟩:=qdj (F:=F) ht hp hρ hop hcal e hc;cases e1;rw[hdd];exact ⟨v,_,E,ν,.inl e3,rfl,e4,e6⟩
      ·cases e'
     next t m k x hop=>obtain ⟨id',l0,ni,xx,lb',e1,e2,e3,e4,e5,e6⟩:=qcn (F:=F) ht hp hρ (.inl hop) e;cases e1;rw[hdd];exact ⟨undef,_,E,ν,.inr ⟨e5,rfl⟩,rfl,hp.turn e3 e4 e6,FC.turn e3 e4⟩
     next t m k x hop=>obtain ⟨id',l0,ni,xx,lb',e1,e2,e3,e4,e5,e6⟩:=qcn (F:=F) ht hp hρ (.inr hop) e;cases e1;rw[hdd];exact ⟨undef,_,E,ν,.inr ⟨e5,rfl⟩,rfl,hp.turn e3 e4 e6,FC.turn e3 e4⟩
     next it hop=>obtain ⟨id',lb',s,v,H',e1,e2,e3,e4,e5,e6⟩:=qkh (P:=P) (F:=F) hp hρ hop e;cases e1;rw[hdd];exact ⟨v,_,E,ν,.inl e3,rfl,e4,e6⟩
     ·cases e'
    ·cases h
end
@[reducible] def DL:List Sh->Type
 | []=>Unit
 | σ::l=>σ.D × DL l
structure Ctr where
 args:List Sh
 pre:DL args->Prop
 out:DL args->List SV
 rows:DL args->List LB
def rdSl (blk:List (Nat × LB)) (e:Sh):List SV->PC (List e.D × List SV)
 | .win _ e' id lo n::m=>match lk blk id with
  | some (.row _ e2 xs)=>if h:e2=e then if e'=e then some ([lo+n<=xs.length],(winL e lo n (h ▸ xs),m)) else none else none
  | _=>none
 | l=>match toSl e l with
  | some r=>ok r
  | none=>none
def rdL (blk:List (Nat × LB)):(σ:Sh)->List SV->PC (σ.D × List SV)
 | .unit,l=>ok ((),l)
 | .pair a b,l=>match rdL blk a l with
  | some (c1,(x,l1))=>match rdL blk b l1 with
   | some (c2,(y,l2))=>some (c1++c2,((x,y),l2))
   | none=>none
  | none=>none
 | .sl e,l=>rdSl blk e l
 | .int k,l=>match toI k l with
  | some r=>ok r
  | none=>none
 | .bool,l=>match toBo l with
  | some r=>ok r
  | none=>none
 | .str,l=>match toSt l with
  | some r=>ok r
  | none=>none
 | .arr n e,l=>match toAr n e l with
  | some r=>ok r
  | none=>none
def rd (blk:List (Nat × LB)) (σ:Sh) (s:SV):PC σ.D:=
 if qg0 s=σ.isAgg/\qen s=false then match rdL blk σ (items s) with
  | some (cs,(x,[]))=>some (cs,x)
  | _=>none else none
def qdb (blk:List (Nat × LB)):(as:List Sh)->List SV->PC (DL as)
 | [],[]=>ok ()
 | σ::as,s::l=>match rd blk σ s,qdb blk as l with
  | some (c1,x),some (c2,y)=>some (c1++c2,(x,y))
  | _,_=>none
 | _,_=>none
def VArgs (Z:Nat->Option ABlk):(as:List Sh)->DL as->List Value->Prop
 | [],_,vs=>vs=[]
 | σ::as,x,vs=>∃ v w,vs=v::w/\(∀ ν,VS Z ν (ofD σ x.1) v)/\VArgs Z as x.2 w
def Held (P:Program) (G:GV) (f:FuncId) (ct:Ctr):Prop:=
 ∀ x,ct.pre x->∀ (base:Prot) (M:Map) (args args':Array Value) (w:World) (cs:List Frame) (Z:Nat->Option ABlk) (H:AHeap),VArgs Z ct.args x args.toList->(∀ b y,Z b=some y->H.t.get b=some y/\isCells y)->GZ Z G->VRA M args args'->Rel base M H w ->
  ∃ Z' ν' H' M' w' v' vs fr',ZLe Z Z'/\(∀ b,Z' b≠none->Z b≠none\/H.next<=b)/\(∀ b y,Z' b=some y->H'.t.get b=some y/\isCells y)/\H.next<=H'.next/\(∀ b y,H.t.get b=some y->H'.t.get b=some y) /\
   V1L Z' ν' (ct.out x) vs/\(∀ i lb,(ct.rows x)[i]?=some lb->BR Z' ν' H' i lb/\∀ ni,ν' i=some ni->H.next<=ni.b/\Z' ni.b=none) /\
   (∀ i j li lj ni nj,(ct.rows x)[i]?=some li->(ct.rows x)[j]?=some lj->ν' i=some ni->ν' j=some nj->ni.b=nj.b->i=j) /\
   Ext M M'/\VR M' (qgq vs) v'/\Rel base M' H' w'/\Below base w w'/\Steps P (lone (Frame.enter P f args' .normal) cs w) (lone fr' cs w')/\fr'.fn=f/\fr'.leaving P w' (.returned v')
inductive AK where
 | dat (σ:Sh)
 | row (et:TypeId) (e:Sh)
 | win (et:TypeId) (e:Sh)
 | ptr (l:List AK)
 | fn (f:Nat) (a c:List AK)
 | map (κ σ:Sh)
 | yl (l:Nat)
 | nl
 | agg (l:List AK)
 | pta (n:Nat) (a:AK)
 | np
mutual
@[reducible] def AK.D:AK->Type
 | .dat σ=>σ.D
 | .row _ e=>List e.D
 | .win _ e=>Nat × Nat × List e.D
 | .ptr l=>DI l
 | .fn _ a c=>DI a × DI c
 | .map κ σ=>List (κ.D × σ.D)
 | .yl _=>Unit
 | .nl=>Unit
 | .agg l=>DI l
 | .pta _ a=>(List Value × Nat) × a.D
 | .np=>Unit
@[reducible] def DI:List AK->Type
 | []=>Unit
 | a::as=>a.D × DI as
end
mutual
def cnt:AK->Nat
 | .dat _=>0
 | .row _ _=>1
 | .win _ _=>1
 | .ptr l=>cntL l+1
 | .fn _ a c=>cntL a+cntL c
 | .map _ _=>1
 | .yl _=>0
 | .nl=>0
 | .agg l=>cntL l
 | .pta _ a=>cnt a
 | .np=>0
def cntL:List AK->Nat
 | []=>0
 | a::as=>cnt a+cntL as
end
mutual
def svK (k:Nat):(a:AK)->a.D->SV
 | .dat σ,x=>ofD σ x
 | .row _ e,(xs:List e.D)=>.win true e (BIG+k) 0 xs.length
 | .win _ e,x=>.win false e (BIG+k) x.1 x.2.1
 | .ptr _,_=>.ptr (BIG+k) 0
 | .fn f a c,x=>.fn f (svKL k a x.1) (svKL (k+cntL a) c x.2)
 | .map _ _,_=>.mp (BIG+k)
 | .yl l,_=>.yl l
 | .nl,_=>.nils
 | .agg l,x=>.agg (clK k l x)
 | .pta n a,x=>.pta n x.1.1 x.1.2 [svK k a x.2]
 | .np,_=>.nilp
def svKL (k:Nat):(as:List AK)->DI as->List SV
 | [],_=>[]
 | a::as,x=>svK k a x.1::svKL (k+cnt a) as x.2
def clK (k:Nat):(as:List AK)->DI as->List SV
 | [],_=>[]
 | a::as,x=>items (svK k a x.1)++clK (k+cnt a) as x.2
end
mutual
def bkK (k:Nat):(a:AK)->a.D->List (Nat × LB)
 | .dat _,_=>[]
 | .row et e,(xs:List e.D)=>[(BIG+k,.row et e xs)]
 | .win et e,x=>[(BIG+k,.row et e x.2.2)]
 | .ptr l,x=>(BIG+k,.var (clK (k+1) l x))::bkKL (k+1) l x
 | .fn _ a c,x=>bkKL k a x.1++bkKL (k+cntL a) c x.2
 | .map κ σ,(x:List (κ.D × σ.D))=>[(BIG+k,.mp κ σ x)]
 | .yl _,_=>[]
 | .nl,_=>[]
 | .agg l,x=>bkKL k l x
 | .pta _ a,x=>bkK k a x.2
 | .np,_=>[]
def bkKL (k:Nat):(as:List AK)->DI as->List (Nat × LB)
 | [],_=>[]
 | a::as,x=>bkK k a x.1++bkKL (k+cnt a) as x.2
end
def envI:Nat->List SV->List (Nat × SV)
 | _,[]=>[]
 | i,s::l=>(i,s)::envI (i+1) l
def qav (as:List AK) (x:DI as):PS:=⟨envI 0 (svKL 0 as x),bkKL 0 as x⟩
structure CtrI where
 args:List AK
 pre:DI args->Prop
 out:DI args->List SV
 blk:DI args->List (Nat × LB)
def HeldI (P:Program) (G:GV) (f:FuncId) (ct:CtrI):Prop:=
 ∀ x,ct.pre x->∀ (base:Prot) (M:Map) (args args':Array Value) (w:World) (cs:List Frame) (Z:Nat->Option ABlk) (ν:Nu) (H:AHeap),VSL Z ν (svKL 0 ct.args x) args.toList->PR Z ν ⟨[],bkKL 0 ct.args x⟩ .nil H->GZ Z G->VRA M args args'->Rel base M H w ->
  ∃ Z' ν' H' M' w' v' vs fr',V1L Z' ν' (ct.out x) vs/\PR Z' ν' ⟨[],ct.blk x⟩ .nil H'/\FC Z ν ⟨[],bkKL 0 ct.args x⟩ H Z' ν' ⟨[],ct.blk x⟩ H' /\
   Ext M M'/\VR M' (qgq vs) v'/\Rel base M' H' w'/\Below base w w'/\Steps P (lone (Frame.enter P f args' .normal) cs w) (lone fr' cs w')/\fr'.fn=f/\fr'.leaving P w' (.returned v')
abbrev CV:=List (Nat × (Ctr ⊕ CtrI))
def nm (d i:Nat):Nat:=1000000+4096*d+i
mutual
def ren (d:Nat):SV->SV
 | .win r e id lo n=>.win r e (nm d id) lo n
 | .agg l=>.agg (renL d l)
 | .tup l=>.tup (renL d l)
 | .ifc t g l=>.ifc t g (renL d l)
 | .pta n l j m=>.pta n l j (renL d m)
 | s=>s
def renL (d:Nat):List SV->List SV
 | []=>[]
 | s::l=>ren d s::renL d l
end
mutual
def qcc (k:Nat):SV->Bool
 | .win _ _ id _ _=>decide (id<k)
 | .agg l=>qfd k l
 | .ifc _ _ l=>qfd k l
 | .int _ _ | .bool _ | .str _ | .nils=>true
 | .arr _ _ _=>true
 | .sl _ _=>true
 | _=>false
def qfd (k:Nat):List SV->Bool
 | []=>true
 | s::l=>qcc k s&&qfd k l
end
mutual
def qcy:SV->Bool
 | .sl _ _=>false
 | .arr _ e _=>e.plain
 | .agg l=>qa5 l
 | .ifc _ _ l=>qa5 l
 | .pta _ _ _ m=>qa5 m
 | _=>true
def qa5:List SV->Bool
 | []=>true
 | s::l=>qcy s&&qa5 l
end
def qfc:LB->Bool
 | .row _ e _=>e.plain
 | _=>false
def isRow:LB->Bool
 | .row _ _ _=>true
 | _=>false
mutual
def qx6:SV->Bool
 | .win _ _ _ _ _=>false
 | .agg l=>qcs l
 | .ifc _ _ l=>qcs l
 | .pta _ _ _ m=>qcs m
 | _=>true
def qcs:List SV->Bool
 | []=>true
 | s::l=>qx6 s&&qcs l
end
def addRows (S:PS):List (Nat × LB)->PS
 | []=>S
 | (id,lb)::l=>addRows ⟨(S.kill id).env,st (S.kill id).blk id lb⟩ l
def names (d:Nat):Nat->List LB->List (Nat × LB)
 | _,[]=>[]
 | i,lb::l=>(nm d i,lb)::names d (i+1) l
def one (l:List SV):SV:=
 match l with
 | [s]=>s
 | l=>.tup l
def exC (C:CV) (ρ:Operand->Option SV) (blk:List (Nat × LB)) (d:Nat) (o:Oper):PC (SV × List (Nat × LB)):=
 match o.op with
 | .call c=>match c.callee with
  | .value fo=>match ρ fo,qbb ρ c.args with
   | some (.fn f a k),some l=>match lk C f with
    | some (.inl ct)=>match qdb blk ct.args (a++l++k) with
     | some (cs,x)=>
      if a.all qbi&&k.all qbi&&qfd (ct.rows x).length (ct.out x)&&(ct.rows x).all isRow&&decide ((ct.rows x).length<1000)&&(qcs (a++l++k) || qa5 (ct.out x)&&(ct.rows x).all qfc) then
       some (cs++[ct.pre x],(one (renL d (ct.out x)),names d 0 (ct.rows x))) else none
     | none=>none
    | _=>none
   | _,_=>none
  | _=>none
 | _=>none
section
variable {P:Program} {tt:TT} {G:GV} {Z:Nat->Option ABlk} {ν:Nu} {S:PS} {E:T Value} {H H':AHeap} {F:FuncId->Bool}
open Classical in
noncomputable def Zc (Z:Nat->Option ABlk) (ν:Nu) (S:PS) (H:AHeap):Nat->Option ABlk:=λ b=>if Own ν S b/\∀ y,H.t.get b=some y->isCells y then H.t.get b else Z b
theorem Zc.le (hp:PR Z ν S E H):ZLe Z (Zc Z ν S H):=by
 intro b x h;unfold Zc;split
 next ho=>rw[hp.zo b ho.1] at h;cases h
 ·exact h
theorem Zc.own {b:Nat} {cs:List Value} {et:TypeId} {k:Nat} (h:Own ν S b) (hc:H.t.get b=some (.cells cs et k)):Zc Z ν S H b=H.t.get b:=by unfold Zc;rw[if_pos ⟨h,λ y hy=>by rw[hc] at hy;cases hy;trivial⟩]
theorem Zc.zh (hp:PR Z ν S E H):∀ b y,Zc Z ν S H b=some y->H.t.get b=some y/\isCells y:=by
 intro b y h;unfold Zc at h;split at h
 next ho=>exact ⟨h,ho.2 y h⟩
 ·exact hp.zh b y h
theorem qsf (hp:PR Z ν S E H) {e:Sh} {l r:List SV} {x:List e.D} {cs:List Prop} {vs:List Value} (h:rdSl S.blk e l=some (cs,(x,r))) (hc:∀ c∈cs,c) (hv:CRL Z ν l vs):∃ u w,vs=u++w/\RV (Zc Z ν S H) (.sl e) x u/\CRL Z ν r w:=by
 unfold rdSl at h;split at h
 next rw0 e' id lo n m=>
  split at h
  next et e2 xs hl=>
   split at h
   next he=>
    subst he;split at h
    next he=>
     subst he;cases h;have hin:lo+n<=xs.length:=hc _ (by simp);simp only[CRL,CR] at hv;obtain ⟨u,w,rfl,⟨v,rfl,hw⟩,h2⟩:=hv;refine ⟨[v],w,rfl,?_,h2⟩;simp only[RV];refine ⟨v,rfl,?_⟩;obtain ⟨hpos,hbr⟩:=hp.blk _ _ hl;unfold WinR at hw;split at hw
     ·obtain ⟨rfl,rfl,hvv⟩:=hw;refine .inl ⟨by simp[winL],?_⟩;rcases hvv with h | ⟨_,h⟩
      ·exact .inl h
      ·exact .inr h
     next ni hn=>
      rcases hbr with ⟨hn',_⟩ | ⟨ni',cs',tl,k,hn',hb,hrv,hkk⟩
      ·rw[hn] at hn';cases hn'
      ·rw[hn] at hn';cases hn';have hz:Zc Z ν S H ni.b=some (.cells (cs'++tl) et k):=by rw[Zc.own ⟨id,_,ni,hl,hn,rfl⟩ hb];exact hb
       obtain ⟨q1,q2,q3⟩:=qe3 (tl:=tl) hrv hin;have q1':RVL (λ x u=>RV (Zc Z ν S H) e' x u) (winL e' lo n xs) (((cs'++tl).drop (lo*e'.size)).take (n*e'.size)):=RVL.mono (λ x u k=>RV.mono (Zc.le hp) e' x u k) q1;rcases hw with ⟨_,rfl,rfl | ⟨o2,t2,rfl,ht2,ho2⟩⟩ | ⟨cap,rfl,hcap⟩
       ·exact .inl ⟨by simp[winL],.inr rfl⟩
       ·have e0:winL e' lo 0 xs=[]:=by simp[winL]
        rw[e0];rcases hkk with ⟨q,_⟩ | ⟨q,_⟩
        ·rw[ht2] at q;cases q
        ·rw[ht2] at q;cases q;exact .inr ⟨ni.b,o2,0,_,et,k,rfl,hz,by simpa using ho2,by simp[RVL],.inr ⟨by simp,by decide⟩⟩
       ·refine .inr ⟨ni.b,lo*e'.size,cap,_,et,k,by rw[q3],hz,by rw[q3];exact q2,by rw[q3];exact q1',?_⟩;rw[q3];rcases hkk with ⟨htot,rfl⟩ | ⟨htot,rfl⟩
        ·rw[htot] at hcap;exact .inl ⟨hcap,rfl,Nat.mul_mod_left _ _⟩
        ·rw[htot] at hcap;exact .inr ⟨hcap.1,hcap.2.1⟩
    ·cases h
   ·cases h
  ·cases h
 ·split at h
  next r0 hr=>cases h;have:toDL (.sl e) l=some (x,r):=hr;obtain ⟨u,w,h1,h2,h3⟩:=qbl (.sl e) this hv;exact ⟨u,w,h1,RV.mono (Zc.le hp) _ _ _ h2,h3⟩
  ·cases h
theorem qe7 (hp:PR Z ν S E H):∀ (σ:Sh) {l r:List SV} {x:σ.D} {cs:List Prop} {vs:List Value},rdL S.blk σ l=some (cs,(x,r))->(∀ c∈cs,c)->CRL Z ν l vs->∃ u w,vs=u++w/\RV (Zc Z ν S H) σ x u/\CRL Z ν r w
 | .unit,l,r,x,cs,vs,h,hc,hv=>by
  simp only[rdL] at h;cases h;exact ⟨[],vs,rfl,by simp only[RV],hv⟩
 | .pair a b,l,r,x,cs,vs,h,hc,hv=>by
  simp only[rdL] at h;split at h
  next c1 x1 l1 e1=>
   split at h
   next c2 y l2 e2=>cases h;obtain ⟨u,w,rfl,h1,h2⟩:=qe7 hp a e1 (λ c hcc=>hc c (List.mem_append_left _ hcc)) hv;obtain ⟨u2,w2,rfl,h3,h4⟩:=qe7 hp b e2 (λ c hcc=>hc c (List.mem_append_right _ hcc)) h2;exact ⟨u++u2,w2,by simp,by simp only[RV];exact ⟨u,u2,rfl,h1,h3⟩,h4⟩
   ·cases h
  ·cases h
 | .sl e,l,r,x,cs,vs,h,hc,hv=>by
  simp only[rdL] at h;exact qsf hp h hc hv
 | .int k,l,r,x,cs,vs,h,hc,hv=>by
  simp only[rdL] at h;split at h
  next r0 hr=>cases h;obtain ⟨u,w,h1,h2,h3⟩:=qbl (.int k) (show toDL (.int k) l=some (x,r) from hr) hv;exact ⟨u,w,h1,RV.mono (Zc.le hp) _ _ _ h2,h3⟩
  ·cases h
 | .bool,l,r,x,cs,vs,h,hc,hv=>by
  simp only[rdL] at h;split at h
  next r0 hr=>cases h;obtain ⟨u,w,h1,h2,h3⟩:=qbl .bool (show toDL .bool l=some (x,r) from hr) hv;exact ⟨u,w,h1,RV.mono (Zc.le hp) _ _ _ h2,h3⟩
  ·cases h
 | .str,l,r,x,cs,vs,h,hc,hv=>by
  simp only[rdL] at h;split at h
  next r0 hr=>cases h;obtain ⟨u,w,h1,h2,h3⟩:=qbl .str (show toDL .str l=some (x,r) from hr) hv;exact ⟨u,w,h1,RV.mono (Zc.le hp) _ _ _ h2,h3⟩
  ·cases h
 | .arr n e,l,r,x,cs,vs,h,hc,hv=>by
  simp only[rdL] at h;split at h
  next r0 hr=>cases h;obtain ⟨u,w,h1,h2,h3⟩:=qbl (.arr n e) (show toDL (.arr n e) l=some (x,r) from hr) hv;exact ⟨u,w,h1,RV.mono (Zc.le hp) _ _ _ h2,h3⟩
  ·cases h
theorem V1.form {s:SV} {v:Value} (h:V1 Z ν s v) (ha:qg0 s=true):v=.agg v.cells:=by
 cases s with
 | agg l=>obtain ⟨vs,rfl,_⟩:=h;rfl
 | arr n e l=>obtain ⟨vs,rfl,_⟩:=h;rfl
 | _=>simp[qg0] at ha
theorem V1.cell {s:SV} {v:Value} (h:V1 Z ν s v) (ha:qg0 s=false):v.cells=#[v]:=by
 have h1:∀ l,s≠.agg l:=by rintro l rfl;simp[qg0] at ha
 have h2:∀ n e l,s≠.arr n e l:=by rintro n e l rfl;simp[qg0] at ha
 exact (V1.one h h1 h2).oneCells h1 h2
theorem qq2 (hp:PR Z ν S E H) {σ:Sh} {s:SV} {x:σ.D} {cs:List Prop} {v:Value} (h:rd S.blk σ s=some (cs,x)) (hc:∀ c∈cs,c) (hv:VS Z ν s v):∀ ν',VS (Zc Z ν S H) ν' (ofD σ x) v:=by
 unfold rd at h;split at h
 next hcond=>
  split at h
  next cs' x' e=>
   cases h;have h1:=hv.v1 (VS.notup hcond.2);obtain ⟨u,w,hu,h2,h3⟩:=qe7 hp σ e hc h1.items;simp only[CRL] at h3;subst h3;rw[List.append_nil] at hu;intro ν';refine qhn h2 ?_
   cases ha:σ.isAgg with
   | true=>
    simp only[if_true];rw[h1.form (by rw[hcond.1,ha]),<- hu]
   | false=>
    simp only[Bool.false_eq_true,if_false];rw[<- hu,h1.cell (by rw[hcond.1,ha])]
  ·cases h
 ·cases h
theorem qiq (hp:PR Z ν S E H):∀ {as:List Sh} {l:List SV} {x:DL as} {cs:List Prop} {vs:List Value},qdb S.blk as l=some (cs,x)->(∀ c∈cs,c)->VSL Z ν l vs->VArgs (Zc Z ν S H) as x vs
 | [],l,x,cs,vs,h,hc,hv=>by
  cases l with
  | nil=>simp only[VSL] at hv;exact hv
  | cons s l=>simp[qdb] at h
 | σ::as,l,x,cs,vs,h,hc,hv=>by
  cases l with
  | nil=>simp[qdb] at h
  | cons s l=>
   simp only[qdb] at h;split at h
   next c1 x1 c2 y e1 e2=>cases h;simp only[VSL] at hv;obtain ⟨v,w,rfl,h1,h2⟩:=hv;exact ⟨v,w,rfl,qq2 hp e1 (λ c hcc=>hc c (List.mem_append_left _ hcc)) h1,qiq hp e2 (λ c hcc=>hc c (List.mem_append_right _ hcc)) h2⟩
   ·cases h
end
section
variable {P:Program} {tt:TT} {G:GV} {Z Z':Nat->Option ABlk} {ν ν':Nu} {S:PS} {E:T Value} {H H':AHeap} {F:FuncId->Bool}
theorem qsa:∀ (σ:Sh) {l r:List SV} {x:σ.D} {blk:List (Nat × LB)} {cs:List Prop},qcs l=true->rdL blk σ l=some (cs,(x,r))->toDL σ l=some (x,r)/\qcs r=true:=by
 have tl:∀ {s:SV} {l:List SV},qcs (s::l)=true->qcs l=true:=by
  intro s l h;simp only[qcs,Bool.and_eq_true] at h;exact h.2
 intro σ
 induction σ with
 | unit=>intro l r x blk cs hn h;simp only[rdL] at h;cases h;exact ⟨rfl,hn⟩
 | pair a b iha ihb=>
  intro l r x blk cs hn h;simp only[rdL] at h;split at h
  next c1 x1 l1 e1=>
   split at h
   next c2 y l2 e2=>cases h;obtain ⟨h1,h2⟩:=iha hn e1;obtain ⟨h3,h4⟩:=ihb h2 e2;exact ⟨by simp only[toDL,h1,h3],h4⟩
   ·cases h
  ·cases h
 | int k=>
  intro l r x blk cs hn h;simp only[rdL] at h;split at h
  next r0 hr=>
   cases h;refine ⟨hr,?_⟩;unfold toI at hr;split at hr
   ·split at hr
    ·cases hr;exact tl hn
    ·cases hr
   ·cases hr
  ·cases h
 | bool=>
  intro l r x blk cs hn h;simp only[rdL] at h;split at h
  next r0 hr=>
   cases h;refine ⟨hr,?_⟩;unfold toBo at hr;split at hr
   ·cases hr;exact tl hn
   ·cases hr
  ·cases h
 | str=>
  intro l r x blk cs hn h;simp only[rdL] at h;split at h
  next r0 hr=>
   cases h;refine ⟨hr,?_⟩;unfold toSt at hr;split at hr
   ·cases hr;exact tl hn
   ·cases hr
  ·cases h
 | arr n e=>
  intro l r x blk cs hn h;simp only[rdL] at h;split at h
  next r0 hr=>
   cases h;refine ⟨hr,?_⟩;unfold toAr at hr;split at hr
   ·split at hr
    ·split at hr
     ·cases hr;exact tl hn
     ·cases hr
    ·cases hr
   ·cases hr
  ·cases h
 | sl e=>
  intro l r x blk cs hn h;simp only[rdL] at h;unfold rdSl at h;split at h
  ·simp[qcs,qx6] at hn
  ·split at h
   next r0 hr=>
    cases h;refine ⟨hr,?_⟩;unfold toSl at hr;split at hr
    ·split at hr
     ·cases hr;exact tl hn
     ·cases hr
    ·cases hr;exact tl hn
    ·cases hr
   ·cases h
theorem qpt {s:SV} (h:qx6 s=true):qcs (items s)=true:=by
 cases s with
 | agg l=>simpa only[qx6,items] using h
 | _=>simp only[items,qcs,h,Bool.and_self]
theorem qeg:∀ {as:List Sh} {l:List SV} {x:DL as} {cs:List Prop} {vs:List Value},qdb S.blk as l=some (cs,x)->qcs l=true->VSL Z ν l vs->VArgs Z as x vs
 | [],l,x,cs,vs,h,_,hv=>by
  cases l with
  | nil=>simp only[VSL] at hv;exact hv
  | cons s l=>simp[qdb] at h
 | σ::as,l,x,cs,vs,h,hn,hv=>by
  cases l with
  | nil=>simp[qdb] at h
  | cons s l=>
   simp only[qdb] at h;split at h
   next c1 x1 c2 y e1 e2=>
    cases h;simp only[VSL] at hv;obtain ⟨v,w,rfl,h1,h2⟩:=hv;simp only[qcs,Bool.and_eq_true] at hn;refine ⟨v,w,rfl,?_,qeg e2 hn.2 h2⟩;unfold rd at e1;split at e1
    next hcond=>
     split at e1
     next cs' x' e=>
      cases e1;have h3:=h1.v1 (VS.notup hcond.2);obtain ⟨u,w,hu,h4,h5⟩:=qbl σ (qsa σ (qpt hn.1) e).1 h3.items;simp only[CRL] at h5;subst h5;rw[List.append_nil] at hu;intro ν';refine qhn h4 ?_
      cases ha:σ.isAgg with
      | true=>
       simp only[if_true];rw[h3.form (by rw[hcond.1,ha]),<- hu]
      | false=>
       simp only[Bool.false_eq_true,if_false];rw[<- hu,h3.cell (by rw[hcond.1,ha])]
     ·cases e1
    ·cases e1
   ·cases h
theorem PR.grow (hp:PR Z ν S E H) (hold:∀ b y,H.t.get b=some y->H'.t.get b=some y):PR Z ν S E H' where
 env:=hp.env
 blk id l h:=(hp.blk id l h).heap λ ni hn=>by
  obtain ⟨_,hg⟩:=(hp.blk id l h).at hn;rw[hg];exact hold _ _ hg
 zh b y h:=⟨hold _ _ (hp.zh b y h).1,(hp.zh b y h).2⟩
 zo:=hp.zo
 inj:=hp.inj
theorem BR.mono {id:Nat} {lb:LB} (hz:ZLe Z Z') (h:BR Z ν H id lb):BR Z' ν H id lb:=by
 cases lb with
 | var l=>obtain ⟨ni,cs,et,h1,h2,h3,h4⟩:=h;exact ⟨ni,cs,et,h1,h2,h3,CRL.mono hz _ _ h4⟩
 | mp κ σ l=>
  obtain ⟨g1,g2,ni,es,h1,h2,h3⟩:=h;exact ⟨g1,g2,ni,es,h1,h2,h3.mono hz⟩
 | iter l pos=>exact h
 | row et e xs=>
  obtain ⟨h0,h⟩:=h;refine ⟨h0,?_⟩;rcases h with h | ⟨ni,cs,tl,k,h1,h2,h3,h4⟩
  ·exact .inl h
  ·exact .inr ⟨ni,cs,tl,k,h1,h2,RVL.mono (λ x u k=>RV.mono hz e x u k) h3,h4⟩
theorem PR.zmono (hp:PR Z ν S E H) (hz:ZLe Z Z') (hzh:∀ b y,Z' b=some y->H.t.get b=some y/\isCells y) (hzo:∀ b,Own ν S b->Z' b=none):PR Z' ν S E H where
 env t s h:=by obtain ⟨v,h1,h2⟩:=hp.env t s h;exact ⟨v,h1,h2.mono hz⟩
 blk id l h:=(hp.blk id l h).mono hz
 zh:=hzh
 zo:=hzo
 inj:=hp.inj
theorem qz2 {d i j:Nat} (h:nm d i=nm d j):i=j:=by unfold nm at h;omega
theorem ql8 {Zr:Nat->Option ABlk} {d:Nat}:∀ (rows:List LB) (k:Nat) {ν:Nu} {S:PS},PR Z ν S E H->rows.all isRow=true->(Zr=Z\/rows.all qfc=true) ->
  (∀ i lb,rows[i]?=some lb->BR Zr ν' H (k+i) lb/\∀ ni,ν' (k+i)=some ni->¬ Own ν S ni.b/\Z ni.b=none) ->
  (∀ i j ni nj,i<rows.length->j<rows.length->ν' (k+i)=some ni->ν' (k+j)=some nj->ni.b=nj.b->i=j) ->
  ∃ ν2,PR Z ν2 (addRows S (names d k rows)) E H/\(∀ i,i<rows.length->ν2 (nm d (k+i))=ν' (k+i))/\(∀ b,Own ν2 (addRows S (names d k rows)) b->Own ν S b\/∃ i ni,i<rows.length/\ν' (k+i)=some ni/\ni.b=b) /\
   (∀ j,j<nm d k->ν2 j=ν j)/\(∀ j,nm d (k+rows.length)<=j->ν2 j=ν j/\(lk (addRows S (names d k rows)).blk j≠none->lk S.blk j≠none))
 | [],k,ν,S,hp,_,_,_,_=>⟨ν,hp,by simp,λ b h=>.inl h,λ _ _=>rfl,λ _ _=>⟨rfl,id⟩⟩
 | lb::rows,k,ν,S,hp,hr,hz,hb,hi=>by
  simp only[List.all_cons,Bool.and_eq_true] at hr;obtain ⟨hb0,hf0⟩:=hb 0 lb rfl;rw[Nat.add_zero] at hb0 hf0;have hbr:BR Z (Upd ν (nm d k) (ν' k)) H (nm d k) lb:=by
   cases lb with
   | var l=>simp[isRow] at hr
   | mp κ σ l=>simp[isRow] at hr
   | iter l pos=>simp[isRow] at hr
   | row et e xs=>
    obtain ⟨h0,h⟩:=hb0;refine ⟨h0,?_⟩;rw[qal];rcases h with h | ⟨ni,cs,tl,kk,h1,h2,h3,h4⟩
    ·exact .inl h
    ·refine .inr ⟨ni,cs,tl,kk,h1,h2,?_,h4⟩;rcases hz with rfl | hz
     ·exact h3
     ·simp only[List.all_cons,Bool.and_eq_true,qfc] at hz;exact RVL.mono (λ x u k=>RV.plain e hz.1 x u k) h3
  have hp1:=hp.new (H':=H) (d:=nm d k) (x:=ν' k) (lb:=lb) (λ _ _=>rfl) (λ _ _ _=>rfl) hf0 hbr;have hz':Zr=Z\/rows.all qfc=true:=by
   rcases hz with h | h
   ·exact .inl h
   ·simp only[List.all_cons,Bool.and_eq_true] at h;exact .inr h.2
  obtain ⟨ν2,q1,q2,q3,q4,q5⟩:=ql8 (Zr:=Zr) (d:=d) rows (k+1) hp1 hr.2 hz' (λ i l hl=>by
    have:=hb (i+1) l (by simpa using hl);rw[show k+(i+1)=k+1+i by omega] at this;refine ⟨this.1,λ ni hni=>⟨λ ho=>?_,(this.2 ni hni).2⟩⟩;rcases qmx ho with h | ⟨nj,h1,h2⟩
    ·exact (this.2 ni hni).1 h
    ·have hlt:i<rows.length:=(List.getElem?_eq_some_iff.1 hl).1;have:=hi 0 (i+1) nj ni (by simp) (by simp;omega) (by rw[Nat.add_zero];exact h1) (by rw[show k+(i+1)=k+1+i by omega];exact hni) h2
     omega)
   (λ i j ni nj h1 h2 h3 h4 h5=>by
    have:=hi (i+1) (j+1) ni nj (by simp;omega) (by simp;omega) (by rw[show k+(i+1)=k+1+i by omega];exact h3) (by rw[show k+(j+1)=k+1+j by omega];exact h4) h5
    omega)
  refine ⟨ν2,q1,λ i hlt=>?_,λ b ho=>?_,λ j hj=>?_,λ j hj=>?_⟩
  ·cases i with
   | zero=>
    rw[Nat.add_zero,q4 _ (by unfold nm;omega)];exact qal
   | succ i=>
    have:=q2 i (by simp at hlt;omega);rw[show k+(i+1)=k+1+i by omega];exact this
  ·rcases q3 b ho with h | ⟨i,ni,h1,h2,h3⟩
   ·rcases qmx h with h | ⟨ni,h1,h2⟩
    ·exact .inl h
    ·exact .inr ⟨0,ni,by simp,by rw[Nat.add_zero];exact h1,h2⟩
   ·exact .inr ⟨i+1,ni,by simp;omega,by rw[show k+(i+1)=k+1+i by omega];exact h2,h3⟩
  ·rw[q4 j (by unfold nm at hj |-;omega)];simp only[Upd];rw[if_neg (by omega)]
  ·simp only[List.length_cons] at hj;have hne:j≠nm d k:=by unfold nm at hj |-;omega
   obtain ⟨g1,g2⟩:=q5 j (by unfold nm at hj |-;omega);refine ⟨by rw[g1];simp[Upd,hne],λ h=>?_⟩;have:=g2 h;simp only[qan,if_neg hne,PS.kill,qaq,qbu] at this;exact λ e=>this (by rw[e];rfl)
mutual
theorem CR.ren {d k:Nat} (hn:∀ i,i<k->ν (nm d i)=ν' i):∀ (s:SV) (vs:List Value),qcc k s=true->(Z'=Z\/qcy s=true)->CR Z' ν' s vs->CR Z ν (Px.ren d s) vs
 | .win r e id lo n,vs,ho,_,h=>by
  simp only[qcc,decide_eq_true_eq] at ho;simp only[Px.ren,CR,WinR] at h |-;rw[hn id ho];exact h
 | .agg l,vs,ho,hz,h=>by
  simp only[qcc] at ho;simp only[qcy] at hz;simp only[Px.ren,CR] at h |-;exact CRL.ren hn l vs ho hz h
 | .ifc t g l,vs,ho,hz,h=>by
  simp only[qcc] at ho;simp only[qcy] at hz;simp only[Px.ren,CR] at h |-;obtain ⟨us,v,h1,h2,h3⟩:=h;exact ⟨us,v,CRL.ren hn l us ho hz h1,h2,h3⟩
 | .int k n,vs,_,_,h=>h
 | .bool b,vs,_,_,h=>h
 | .str l,vs,_,_,h=>h
 | .nils,vs,_,_,h=>h
 | .arr n e l,vs,_,hz,h=>by
  rcases hz with rfl | hz
  ·exact h
  ·simp only[qcy] at hz;simp only[Px.ren,CR] at h |-;exact RV.plain (.arr n e) hz l vs h
 | .sl e l,vs,_,hz,h=>by
  rcases hz with rfl | hz
  ·exact h
  ·simp[qcy] at hz
 | .dead,_,ho,_,_=>by simp[qcc] at ho
 | .ptr _ _,_,ho,_,_=>by simp[qcc] at ho
 | .elp _ _ _ _,_,ho,_,_=>by simp[qcc] at ho
 | .aep _ _ _ _ _,_,ho,_,_=>by simp[qcc] at ho
 | .elv _ _,_,ho,_,_=>by simp[qcc] at ho
 | .tup _,_,ho,_,_=>by simp[qcc] at ho
 | .fn _ _ _,_,ho,_,_=>by simp[qcc] at ho
theorem CRL.ren {d k:Nat} (hn:∀ i,i<k->ν (nm d i)=ν' i):∀ (l:List SV) (vs:List Value),qfd k l=true->(Z'=Z\/qa5 l=true)->CRL Z' ν' l vs->CRL Z ν (Px.renL d l) vs
 | [],_,_,_,h=>h
 | s::l,vs,ho,hz,h=>by
  simp only[qfd,Bool.and_eq_true] at ho;simp only[Px.renL,CRL] at h |-;obtain ⟨u,w,e,h1,h2⟩:=h;have z1:Z'=Z\/qcy s=true:=by
   rcases hz with h | h
   ·exact .inl h
   ·simp only[qa5,Bool.and_eq_true] at h;exact .inr h.1
  have z2:Z'=Z\/qa5 l=true:=by
   rcases hz with h | h
   ·exact .inl h
   ·simp only[qa5,Bool.and_eq_true] at h;exact .inr h.2
  exact ⟨u,w,e,CR.ren hn s u ho.1 z1 h1,CRL.ren hn l w ho.2 z2 h2⟩
end
theorem V1.ren {d k:Nat} (hn:∀ i,i<k->ν (nm d i)=ν' i) {s:SV} {v:Value} (ho:qcc k s=true) (hz:Z'=Z\/qcy s=true) (h:V1 Z' ν' s v):V1 Z ν (Px.ren d s) v:=by
 cases s with
 | agg l=>
  obtain ⟨vs,e,h⟩:=h;simp only[qcc] at ho;simp only[qcy] at hz;exact ⟨vs,e,CRL.ren hn l vs ho hz h⟩
 | arr n e l=>
  obtain ⟨vs,e1,h⟩:=h;rcases hz with rfl | hz
  ·exact ⟨vs,e1,h⟩
  ·simp only[qcy] at hz;exact ⟨vs,e1,RV.plain (.arr n e) hz l vs h⟩
 | win r e id lo n=>exact CR.ren hn _ _ ho hz (V1.one h (by intros;simp) (by intros;simp))
 | ifc t g l=>exact CR.ren hn (.ifc t g l) [v] ho hz (V1.one h (by intros;simp) (by intros;simp))
 | int k n=>exact h
 | bool b=>exact h
 | str l=>exact h
 | nils=>exact h
 | sl e l=>
  rcases hz with rfl | hz
  ·exact h
  ·simp[qcy] at hz
 | _=>simp[qcc] at ho
theorem V1L.ren {d k:Nat} (hn:∀ i,i<k->ν (nm d i)=ν' i):∀ {l:List SV} {vs:List Value},qfd k l=true->(Z'=Z\/qa5 l=true)->V1L Z' ν' l vs->V1L Z ν (Px.renL d l) vs
 | [],_,_,_,h=>h
 | s::l,_,ho,hz,⟨v,w,e,h1,h2⟩=>by
  simp only[qfd,Bool.and_eq_true] at ho;have z1:Z'=Z\/qcy s=true:=by
   rcases hz with h | h
   ·exact .inl h
   ·simp only[qa5,Bool.and_eq_true] at h;exact .inr h.1
  have z2:Z'=Z\/qa5 l=true:=by
   rcases hz with h | h
   ·exact .inl h
   ·simp only[qa5,Bool.and_eq_true] at h;exact .inr h.2
  exact ⟨v,w,e,h1.ren hn ho.1 z1,V1L.ren hn ho.2 z2 h2⟩
theorem V1L.length:∀ {l:List SV} {vs:List Value},V1L Z ν l vs->vs.length=l.length
 | [],_,h=>by simp only[V1L] at h;subst h;rfl
 | _::_,_,⟨v,w,e,_,h2⟩=>by subst e;simp[V1L.length h2]
theorem qn9 {l:List SV} {vs:List Value} (h:V1L Z ν l vs):VS Z ν (one l) (qgq vs):=by
 unfold one;split
 ·obtain ⟨v,w,rfl,h1,h2⟩:=h;simp only[V1L] at h2;subst h2;exact h1.vs
 next hn=>
  have hl:=h.length;have:qgq vs=.tuple vs.toArray:=by
   unfold qgq;split
   next v=>
    exfalso
    cases l with
    | nil=>simp at hl
    | cons s l=>
     cases l with
     | nil=>exact hn s rfl
     | cons _ _=>simp at hl
   ·rfl
  rw[this];exact ⟨vs,rfl,h⟩
theorem q28 (hp:PR Z ν S E H) (hdom:∀ i x,H.t.get i=some x->i<H.next) {d:Nat} {out:List SV} {rows:List LB} {vs:List Value} {Zq:Nat->Option ABlk} (hcase:(Zq=Z)\/(Zq=Zc Z ν S H/\qa5 out=true/\rows.all qfc=true))
  (h1:ZLe Zq Z') (h2:∀ b,Z' b≠none->Zq b≠none\/H.next<=b) (h3:∀ b y,Z' b=some y->H'.t.get b=some y/\isCells y) (h4:H.next<=H'.next) (h5:∀ b y,H.t.get b=some y->H'.t.get b=some y)
  (h6:V1L Z' ν' out vs) (h7:∀ i lb,rows[i]?=some lb->BR Z' ν' H' i lb/\∀ ni,ν' i=some ni->H.next<=ni.b/\Z' ni.b=none)
  (h8:∀ i j li lj ni nj,rows[i]?=some li->rows[j]?=some lj->ν' i=some ni->ν' j=some nj->ni.b=nj.b->i=j) (hok:qfd rows.length out=true) (hrow:rows.all isRow=true) (hlen:nm d rows.length<=BIG) :
  ∃ Z2 ν2,PR Z2 ν2 (addRows S (names d 0 rows)) E H'/\FC Z ν S H Z2 ν2 (addRows S (names d 0 rows)) H'/\VS Z2 ν2 (one (renL d out)) (qgq vs):=by
 have hownlt:∀ b,Own ν S b->b<H.next:=by
  rintro b ⟨id,l,ni,g1,g2,rfl⟩;obtain ⟨_,hg⟩:=(hp.blk id l g1).at g2;exact hdom _ _ hg
 have hZlt:∀ b,Z b≠none->b<H.next:=by
  intro b hb;obtain ⟨y,hy⟩:=Option.ne_none_iff_exists'.1 hb;exact hdom _ _ (hp.zh b y hy).1
 have hp1:=hp.grow h5;obtain ⟨Z2,hp2,hz2,hz2n,hor,horr,hfz⟩:∃ Z2,PR Z2 ν S E H'/\ZLe Z Z2/\(∀ b,Z2 b≠none->Z b≠none\/H.next<=b\/Own ν S b)/\(Z'=Z2\/qa5 out=true)/\(Z'=Z2\/rows.all qfc=true)/\∀ b,H.next<=b->Z' b=none->Z2 b=none:=by
  rcases hcase with rfl | ⟨rfl,p1,p2⟩
  ·refine ⟨Z',hp1.zmono h1 h3 λ b hb=>?_,h1,λ b hb=>?_,.inl rfl,.inl rfl,λ b _ hb=>hb⟩
   ·cases hz:Z' b with
    | none=>rfl
    | some y=>
     exfalso;rcases h2 b (by rw[hz];simp) with h | h
     ·rw[hp.zo b hb] at h;exact h rfl
     ·have:=hownlt b hb;omega
   ·rcases h2 b hb with h | h
    ·exact .inl h
    ·exact .inr (.inl h)
  ·refine ⟨Z,hp1,ZLe.refl _,λ b hb=>.inl hb,.inr p1,.inr p2,λ b hb _=>?_⟩
   cases hz:Z b with
   | none=>rfl
   | some y=>have:=hZlt b (by rw[hz];simp);omega
 obtain ⟨ν2,q1,q2,q3,q4,q5⟩:=ql8 (Zr:=Z') (ν':=ν') (d:=d) rows 0 hp2 hrow horr (λ i lb hl=>by
   rw[Nat.zero_add];obtain ⟨a,b⟩:=h7 i lb hl
   exact ⟨a,λ ni hni=>⟨λ ho=>by have:=hownlt _ ho;have:=(b ni hni).1;omega,hfz _ (b ni hni).1 (b ni hni).2⟩⟩)
  (λ i j ni nj g1 g2 g3 g4 g5=>by
   rw[Nat.zero_add] at g3 g4
   exact h8 i j _ _ ni nj (List.getElem?_eq_getElem g1) (List.getElem?_eq_getElem g2) g3 g4 g5)
 have hnu:∀ i,i<rows.length->ν2 (nm d i)=ν' i:=by
  intro i hi;have:=q2 i hi;rwa[Nat.zero_add] at this
 refine ⟨Z2,ν2,q1,⟨hz2,hz2n,h4,λ b y g _ _=>h5 b y g,λ b hb=>?_,λ id hb h=>⟨(q5 id (by rw[Nat.zero_add];omega)).2 h,(q5 id (by rw[Nat.zero_add];omega)).1⟩⟩,qn9 (h6.ren hnu hok hor)⟩;rcases q3 b hb with h | ⟨i,ni,g1,g2,g3⟩
 ·exact .inl h
 ·rw[Nat.zero_add] at g2;have:=((h7 i _ (List.getElem?_eq_getElem g1)).2 ni g2).1;exact .inr (by omega)
end
mutual
def renS (ρ:Nat->Nat):SV->SV
 | .win r e id lo n=>.win r e (ρ id) lo n
 | .ptr id o=>.ptr (ρ id) o
 | .mp id=>.mp (ρ id)
 | .elp e id i o=>.elp e (ρ id) i o
 | .aep e id b i o=>.aep e (ρ id) b i o
 | .agg l=>.agg (renSL ρ l)
 | .tup l=>.tup (renSL ρ l)
 | .fn f a c=>.fn f (renSL ρ a) (renSL ρ c)
 | .ifc t g l=>.ifc t g (renSL ρ l)
 | .pta n l j m=>.pta n l j (renSL ρ m)
 | s=>s
def renSL (ρ:Nat->Nat):List SV->List SV
 | []=>[]
 | s::l=>renS ρ s::renSL ρ l
end
def renB (ρ:Nat->Nat):LB->LB
 | .var l=>.var (renSL ρ l)
 | b=>b
def qgr (ρ:Nat->Nat):List (Nat × LB)->List (Nat × LB)
 | []=>[]
 | (i,b)::l=>(ρ i,renB ρ b)::qgr ρ l
def qey (id:Nat):LB->Bool
 | .var l=>qaf id l
 | _=>false
section
variable {Z:Nat->Option ABlk} {ν ν' ν2:Nu} {S:PS} {E:T Value} {H H':AHeap} {ρ:Nat->Nat}
mutual
theorem CR.renS:∀ (s:SV) (vs:List Value),(∀ i,ment i s=true->ν2 (ρ i)=ν' i)->CR Z ν' s vs->CR Z ν2 (Px.renS ρ s) vs
 | .win r e id lo n,vs,h,k=>by
  have h:=h id (by simp[ment]);simp only[Px.renS,CR,WinR] at k |-;rw[h];exact k
 | .ptr id o,vs,h,k=>by
  have h:=h id (by simp[ment]);simp only[Px.renS,CR] at k |-;rw[h];exact k
 | .mp id,vs,h,k=>by
  have h:=h id (by simp[ment]);simp only[Px.renS,CR] at k |-;rw[h];exact k
 | .yl _,_,_,k=>k
 | .nilm,_,_,k=>k
 | .nilp,_,_,k=>k
 | .ifc t g l,vs,h,k=>by
  simp only[Px.renS,CR] at k |-;obtain ⟨us,v,h1,h2,h3⟩:=k;exact ⟨us,v,CRL.renS l us (λ i hi=>h i (by simpa [ment] using hi)) h1,h2,h3⟩
 | .pta _ _ _ l,vs,h,k=>by
  simp only[Px.renS,CR] at k |-;obtain ⟨us,v,h1,h2⟩:=k;exact ⟨us,v,CRL.renS l us (λ i hi=>h i (by simpa [ment] using hi)) h1,h2⟩
 | .elp e id i o,vs,h,k=>by
  have h:=h id (by simp[ment]);simp only[Px.renS,CR] at k |-;rw[h];exact k
 | .aep e id b i o,vs,h,k=>by
  have h:=h id (by simp[ment]);simp only[Px.renS,CR] at k |-;rw[h];exact k
 | .agg l,vs,h,k=>by
  simp only[Px.renS,CR] at k |-;exact CRL.renS l vs (λ i hi=>h i (by simpa [ment] using hi)) k
 | .tup l,vs,h,k=>by simp only[CR] at k
 | .fn f a c,vs,h,k=>by
  simp only[Px.renS,CR] at k |-;obtain ⟨va,vc,h1,h2,h3⟩:=k;exact ⟨va,vc,h1,CRO.renS a va (λ i hi=>h i (by simp[ment,hi])) h2,CRO.renS c vc (λ i hi=>h i (by simp[ment,hi])) h3⟩
 | .nils,_,_,k=>k
 | .dead,_,_,k=>k
 | .int _ _,_,_,k=>k
 | .bool _,_,_,k=>k
 | .str _,_,_,k=>k
 | .sl _ _,_,_,k=>k
 | .arr _ _ _,_,_,k=>k
 | .elv _ _,_,_,k=>k
theorem CRL.renS:∀ (l:List SV) (vs:List Value),(∀ i,qaf i l=true->ν2 (ρ i)=ν' i)->CRL Z ν' l vs->CRL Z ν2 (Px.renSL ρ l) vs
 | [],_,_,k=>k
 | s::l,vs,h,k=>by
  simp only[Px.renSL,CRL] at k |-;obtain ⟨u,w,e,h1,h2⟩:=k;exact ⟨u,w,e,CR.renS s u (λ i hi=>h i (by simp[qaf,hi])) h1,CRL.renS l w (λ i hi=>h i (by simp[qaf,hi])) h2⟩
theorem CRO.renS:∀ (l:List SV) (vs:List Value),(∀ i,qaf i l=true->ν2 (ρ i)=ν' i)->CRO Z ν' l vs->CRO Z ν2 (Px.renSL ρ l) vs
 | [],_,_,k=>k
 | s::l,vs,h,k=>by
  simp only[Px.renSL,CRO] at k |-;obtain ⟨u,w,e,h1,h2⟩:=k;exact ⟨u,w,e,CR.renS s [u] (λ i hi=>h i (by simp[qaf,hi])) h1,CRO.renS l w (λ i hi=>h i (by simp[qaf,hi])) h2⟩
end
theorem V1.renS {s:SV} {v:Value} (h:∀ i,ment i s=true->ν2 (ρ i)=ν' i) (k:V1 Z ν' s v):V1 Z ν2 (Px.renS ρ s) v:=by
 cases s with
 | agg l=>
  obtain ⟨vs,e,k⟩:=k;exact ⟨vs,e,CRL.renS l vs (λ i hi=>h i (by simpa [ment] using hi)) k⟩
 | arr n e l=>exact k
 | tup l=>have:CR Z ν' (.tup l) [v]:=k;simp only[CR] at this
 | win r e id lo n=>exact CR.renS (Z:=Z) (.win r e id lo n) [v] h k
 | ptr id o=>exact CR.renS (Z:=Z) (.ptr id o) [v] h k
 | mp id=>exact CR.renS (Z:=Z) (.mp id) [v] h k
 | ifc t g l=>exact CR.renS (Z:=Z) (.ifc t g l) [v] h k
 | pta n l j m=>exact CR.renS (Z:=Z) (.pta n l j m) [v] h k
 | elp e id i o=>exact CR.renS (Z:=Z) (.elp e id i o) [v] h k
 | aep e id b i o=>exact CR.renS (Z:=Z) (.aep e id b i o) [v] h k
 | fn f a c=>exact CR.renS (Z:=Z) (.fn f a c) [v] h k
 | _=>exact k
theorem V1L.renS:∀ {l:List SV} {vs:List Value},(∀ i,qaf i l=true->ν2 (ρ i)=ν' i)->V1L Z ν' l vs->V1L Z ν2 (Px.renSL ρ l) vs
 | [],_,_,k=>k
 | s::l,_,h,⟨v,w,e,h1,h2⟩=>⟨v,w,e,h1.renS λ i hi=>h i (by simp[qaf,hi]),V1L.renS (λ i hi=>h i (by simp[qaf,hi])) h2⟩
theorem q1t (ρ:Nat->Nat):∀ s:SV,opU (Px.renS ρ s)=opU s:=by intro s;cases s <;> rfl
theorem q1w (ρ:Nat->Nat):∀ s:SV,opE (Px.renS ρ s)=opE s:=by intro s;cases s <;> rfl
theorem qmy (ρ:Nat->Nat):∀ l:List SV,opK (Px.renSL ρ l)=opK l
 | []=>rfl
 | [_]=>rfl
 | a::b::l=>qpr (q1t ρ) (q1w ρ) a b l _
theorem BR.renB {id:Nat} {lb:LB} (h0:ν2 (ρ id)=ν' id) (h:∀ i,qey i lb=true->ν2 (ρ i)=ν' i) (k:BR Z ν' H id lb):BR Z ν2 H (ρ id) (Px.renB ρ lb):=by
 cases lb with
 | var l=>
  obtain ⟨ni,cs,et,h1,h2,h3,h4⟩:=k;exact ⟨ni,cs,et,by rw[h0];exact h1,h2.of (qmy ρ l),by rw[qjg (qmy ρ l)];exact h3,CRL.renS l cs (λ i hi=>h i hi) h4⟩
 | row et e xs=>
  obtain ⟨g0,k⟩:=k;exact ⟨g0,by rw[h0];exact k⟩
 | mp κ σ l=>
  obtain ⟨g0,g1,k⟩:=k;exact ⟨g0,g1,by rw[h0];exact k⟩
 | iter l pos=>
  obtain ⟨ni,k⟩:=k;exact ⟨ni,by rw[h0];exact k⟩
def killA:List Nat->PS->PS
 | [],S=>S
 | i::l,S=>killA l (S.kill i)
theorem PR.killA:∀ (l:List Nat) {ν:Nu} {S:PS},PR Z ν S E H->(∀ i,i ∉ l->ν2 i=ν i)->PR Z ν2 (Px.killA l S) E H
 | [],ν,S,hp,h=>by
  have:ν2=ν:=funext λ i=>h i (by simp)
  subst this;exact hp
 | i::l,ν,S,hp,h=>by
  refine PR.killA l (hp.kill i (ν2 i)) λ j hj=>?_
  simp only[Upd];split
  next e=>rw[e]
  next e=>exact h j (by simp[e,hj])
theorem q2j {i j:Nat} (h:lk (S.kill i).blk j≠none):lk S.blk j≠none/\j≠i:=by
 simp only[PS.kill,qaq,qbu] at h;by_cases hj:j=i
 ·subst hj;simp at h
 ·rw[if_neg hj] at h;exact ⟨λ e=>h (by rw[e];rfl),hj⟩
theorem qm6:∀ (l:List Nat) {S:PS} {j:Nat},lk (Px.killA l S).blk j≠none->lk S.blk j≠none/\j ∉ l
 | [],_,_,h=>⟨h,by simp⟩
 | i::l,S,j,h=>by
  obtain ⟨h1,h2⟩:=qm6 l h;obtain ⟨h3,h4⟩:=q2j h1;exact ⟨h3,by simp[h4,h2]⟩
theorem qn7 {l:List Nat} {b:Nat} (h:∀ i,i ∉ l->ν2 i=ν i) (k:Own ν2 (Px.killA l S) b):Own ν S b:=by
 obtain ⟨id,lb,ni,h1,h2,h3⟩:=k;obtain ⟨h4,h5⟩:=qm6 l (j:=id) (S:=S) (by rw[h1];simp);obtain ⟨lb',hl⟩:=Option.ne_none_iff_exists'.1 h4;exact ⟨id,lb',ni,hl,by rw[<- h id h5];exact h2,h3⟩
def stL {α:Type}:List (Nat × α)->List (Nat × α)->List (Nat × α)
 | [],l=>l
 | (i,b)::m,l=>st (stL m l) i b
theorem qiz {α:Type}:∀ (m l:List (Nat × α)) (j:Nat),lk (stL m l) j=match lk m j with
  | some b=>some b
  | none=>lk l j
 | [],l,j=>rfl
 | (i,b)::m,l,j=>by
  simp only[stL,qan,lk];by_cases h:j=i
  ·subst h;simp
  ·rw[if_neg h,if_neg λ e=>h e.symm];exact qiz m l j
theorem PR.addB (hp:PR Z ν S E H) {new:List (Nat × LB)} (hb:∀ id lb,lk new id=some lb->BR Z ν H id lb)
  (hz:∀ id lb ni,lk new id=some lb->ν id=some ni->Z ni.b=none/\¬ Own ν S ni.b)
  (hi:∀ i j li lj ni nj,lk new i=some li->lk new j=some lj->ν i=some ni->ν j=some nj->ni.b=nj.b->i=j):PR Z ν ⟨S.env,stL new S.blk⟩ E H where
 env:=hp.env
 blk id lb h:=by
  simp only[qiz] at h;split at h
  next b hb'=>cases h;exact hb _ _ hb'
  ·exact hp.blk _ _ h
 zh:=hp.zh
 zo b h:=by
  obtain ⟨id,lb,ni,h1,h2,rfl⟩:=h;simp only[qiz] at h1;split at h1
  next b hb'=>exact (hz _ _ _ hb' h2).1
  ·exact hp.zo _ ⟨id,lb,ni,h1,h2,rfl⟩
 inj i j li lj ni nj h1 h2 h3 h4 h5:=by
  simp only[qiz] at h1 h2;split at h1
  next b hb'=>
   split at h2
   next c hc'=>exact hi _ _ _ _ _ _ hb' hc' h3 h4 h5
   ·exact absurd ⟨j,lj,nj,h2,h4,h5.symm⟩ (hz _ _ _ hb' h3).2
  ·split at h2
   next c hc'=>exact absurd ⟨i,li,ni,h1,h3,h5⟩ (hz _ _ _ hc' h4).2
   ·exact hp.inj _ _ _ _ _ _ h1 h2 h3 h4 h5
theorem PR.growI {B:Nat->Prop} (hp:PR Z ν S E H) (hold:∀ b y,H.t.get b=some y->¬ B b->H'.t.get b=some y) (hB:∀ b,Own ν S b->¬ B b) (hZ:∀ b,B b->Z b=none):PR Z ν S E H' where
 env:=hp.env
 blk id l h:=(hp.blk id l h).heap λ ni hn=>by
  obtain ⟨_,hg⟩:=(hp.blk id l h).at hn;rw[hg];exact hold _ _ hg (hB _ ⟨id,l,ni,h,hn,rfl⟩)
 zh b y h:=⟨hold _ _ (hp.zh b y h).1 λ hb=>(by rw[hZ b hb] at h;cases h),(hp.zh b y h).2⟩
 zo:=hp.zo
 inj:=hp.inj
theorem qf3 {new:List (Nat × LB)} {j:Nat} {lb:LB} (h:lk (qgr ρ new) j=some lb):∃ i lb0,(i,lb0)∈new/\ρ i=j/\lb=renB ρ lb0:=by
 induction new with
 | nil=>simp[qgr,lk] at h
 | cons p l ih=>
  obtain ⟨i,b⟩:=p;simp only[qgr,lk] at h;split at h
  next e=>cases h;exact ⟨i,b,by simp,e,rfl⟩
  ·obtain ⟨i',b',h1,h2⟩:=ih h;exact ⟨i',b',by simp[h1],h2⟩
theorem qvn {α:Type} {l:List (Nat × α)} (hn:(l.map (·.1)).Nodup) {i:Nat} {b:α} (h:(i,b)∈l):lk l i=some b:=by
 induction l with
 | nil=>cases h
 | cons p l ih=>
  obtain ⟨j,c⟩:=p;simp only[List.map_cons,List.nodup_cons] at hn;simp only[lk];rcases List.mem_cons.1 h with e | e
  ·cases e;simp
  ·rw[if_neg]
   ·exact ih hn.2 e
   ·rintro rfl;exact hn.1 (List.mem_map.2 ⟨_,e,rfl⟩)
end
def rmL {α:Type}:List (Nat × α)->List Nat->List (Nat × α)
 | l,[]=>l
 | l,i::is=>rmL (rm l i) is
theorem qkl {α:Type}:∀ (is:List Nat) (l:List (Nat × α)) (t:Nat),lk (rmL l is) t=if t∈is then none else lk l t
 | [],l,t=>by simp[rmL]
 | i::is,l,t=>by
  rw[rmL,qkl is,qbu];by_cases h1:t∈is
  ·simp[h1]
  ·by_cases h2:t=i
   ·subst h2;simp
   ·simp[h1,h2]
mutual
def ids:SV->List Nat
 | .win _ _ id _ _=>[id]
 | .ptr id _=>[id]
 | .mp id=>[id]
 | .elp _ id _ _=>[id]
 | .aep _ id _ _ _=>[id]
 | .agg l=>idsL l
 | .tup l=>idsL l
 | .fn _ a c=>idsL a++idsL c
 | .ifc _ _ l=>idsL l
 | .pta _ _ _ l=>idsL l
 | _=>[]
def idsL:List SV->List Nat
 | []=>[]
 | s::l=>ids s++idsL l
end
mutual
theorem qm3 {i:Nat}:∀ s:SV,ment i s=true->i∈ids s
 | .win _ _ id _ _,h=>by
  simp only[ment,beq_iff_eq] at h;simp[ids,h]
 | .ptr id _,h=>by
  simp only[ment,beq_iff_eq] at h;simp[ids,h]
 | .mp id,h=>by
  simp only[ment,beq_iff_eq] at h;simp[ids,h]
 | .yl _,h=>by simp[ment] at h
 | .nilm,h=>by simp[ment] at h
 | .nilp,h=>by simp[ment] at h
 | .ifc _ _ l,h=>by simp only[ment] at h;simp only[ids];exact qce l h
 | .pta _ _ _ l,h=>by simp only[ment] at h;simp only[ids];exact qce l h
 | .elp _ id _ _,h=>by
  simp only[ment,beq_iff_eq] at h;simp[ids,h]
 | .aep _ id _ _ _,h=>by
  simp only[ment,beq_iff_eq] at h;simp[ids,h]
 | .agg l,h=>by simp only[ment] at h;simp only[ids];exact qce l h
 | .tup l,h=>by simp only[ment] at h;simp only[ids];exact qce l h
 | .fn _ a c,h=>by
  simp only[ment,Bool.or_eq_true] at h;simp only[ids,List.mem_append];exact h.imp (qce a) (qce c)
 | .nils,h=>by simp[ment] at h
 | .dead,h=>by simp[ment] at h
 | .int _ _,h=>by simp[ment] at h
 | .bool _,h=>by simp[ment] at h
 | .str _,h=>by simp[ment] at h
 | .sl _ _,h=>by simp[ment] at h
 | .arr _ _ _,h=>by simp[ment] at h
 | .elv _ _,h=>by simp[ment] at h
theorem qce {i:Nat}:∀ l:List SV,qaf i l=true->i∈idsL l
 | [],h=>by simp[qaf] at h
 | s::l,h=>by
  simp only[qaf,Bool.or_eq_true] at h;simp only[idsL,List.mem_append];exact h.imp (qm3 s) (qce l)
end
def idsB:LB->List Nat
 | .var l=>idsL l
 | _=>[]
theorem qrd {i:Nat} {lb:LB} (h:qey i lb=true):i∈idsB lb:=by
 cases lb with
 | var l=>exact qce l h
 | row _ _ _=>simp[qey] at h
 | mp _ _ _=>simp[qey] at h
 | iter _ _=>simp[qey] at h
def qle (ns:List (Option Nat)) (id:Nat):Option Nat:=match ns[id-BIG]? with
 | some (some o)=>some o
 | _=>none
def rnI (d:Nat) (ns:List (Option Nat)) (id:Nat):Nat:=match decide (BIG<=id) with
 | true=>match qle ns id with
  | some o=>o
  | none=>nm d (1000+(id-BIG))
 | false=>nm d id
def qfj (ns:List (Option Nat)) (id:Nat):Bool:=match decide (BIG<=id) with
 | true=>(qle ns id).isNone
 | false=>true
def q1a (ns:List (Option Nat)) (blk:List (Nat × LB)):List Nat:=(blk.filter λ p => !qfj ns p.1).map λ p=>rnI 0 ns p.1
def newN (d:Nat) (ns:List (Option Nat)) (blk:List (Nat × LB)):List Nat:=(blk.filter λ p=>qfj ns p.1).map λ p=>rnI d ns p.1
def qea (d:Nat) (ns:List (Option Nat)) (blk:List (Nat × LB)):List Nat:=((ns.filterMap id).filter λ o => !(q1a ns blk).contains o)++newN d ns blk
def okI (d m:Nat) (ns:List (Option Nat)) (out:List SV) (blk:List (Nat × LB)):Bool:=
 decide (ns.filterMap id).Nodup&&decide (blk.map (·.1)).Nodup&&decide (m<=1000)&&blk.all (λ p=>decide (p.1<1000) || (decide (BIG<=p.1)&&decide (p.1<BIG+m))) &&
 (idsL out).all (λ i=>(blk.map (·.1)).contains i)&&blk.all (λ p=>(idsB p.2).all λ i=>(blk.map (·.1)).contains i)&&(q1a ns blk).all (λ o => !(newN d ns blk).contains o)
def qbx (S:PS) (d:Nat) (ns:List (Option Nat)) (blk:List (Nat × LB)):PS:=
 ⟨(killA (qea d ns blk) ⟨S.env,rmL S.blk (ns.filterMap id)⟩).env,stL (qgr (rnI d ns) blk) (killA (qea d ns blk) ⟨S.env,rmL S.blk (ns.filterMap id)⟩).blk⟩
def nuI (ν:Nu) (ns:List (Option Nat)):Nu:=λ i=>if BIG<=i then (qle ns i).bind ν else none
theorem qph {d:Nat} {ns:List (Option Nat)} {id:Nat} (h:qfj ns id=true):rnI d ns id=nm d (if BIG<=id then 1000+(id-BIG) else id):=by
 unfold qfj at h;unfold rnI;by_cases hb:BIG<=id
 ·rw[decide_eq_true hb] at h |-;simp only[Option.isNone_iff_eq_none] at h;simp only[h,if_pos hb]
 ·rw[decide_eq_false hb];simp only[if_neg hb]
theorem qib {d:Nat} {ns:List (Option Nat)} {id:Nat} (h:qfj ns id=false):BIG<=id/\qle ns id=some (rnI d ns id):=by
 unfold qfj at h;unfold rnI;by_cases hb:BIG<=id
 ·rw[decide_eq_true hb] at h |-;refine ⟨hb,?_⟩
  cases hj:qle ns id with
  | none=>rw[hj] at h;cases h
  | some o=>rfl
 ·rw[decide_eq_false hb] at h;cases h
theorem qig {ns:List (Option Nat)} {id o:Nat} (h:qle ns id=some o):ns[id-BIG]?=some (some o):=by
 unfold qle at h;split at h
 next o' h'=>cases h;exact h'
 ·cases h
theorem qvl {ns:List (Option Nat)} {i o:Nat} (h:ns[i]?=some (some o)):o∈ns.filterMap id:=by
 rw[List.mem_filterMap];exact ⟨some o,List.mem_of_getElem? h,rfl⟩
theorem qvd:∀ {ns:List (Option Nat)} {i j o:Nat},(ns.filterMap id).Nodup->ns[i]?=some (some o)->ns[j]?=some (some o)->i=j
 | [],i,j,o,_,h,_=>by simp at h
 | a::ns,i,j,o,hd,h1,h2=>by
  have hd':(ns.filterMap id).Nodup:=by
   cases a with
   | none=>simpa using hd
   | some a=>simp only[List.filterMap_cons,id,List.nodup_cons] at hd;exact hd.2
  cases i with
  | zero=>
   cases j with
   | zero=>rfl
   | succ j=>
    exfalso;simp only[List.getElem?_cons_zero,Option.some.injEq] at h1;subst h1;simp only[List.getElem?_cons_succ] at h2;simp only[List.filterMap_cons,id,List.nodup_cons] at hd;exact hd.1 (qvl h2)
  | succ i=>
   cases j with
   | zero=>
    exfalso;simp only[List.getElem?_cons_zero,Option.some.injEq] at h2;subst h2;simp only[List.getElem?_cons_succ] at h1;simp only[List.filterMap_cons,id,List.nodup_cons] at hd;exact hd.1 (qvl h1)
   | succ j=>
    simp only[List.getElem?_cons_succ] at h1 h2;rw[qvd hd' h1 h2]
section
variable {Z Z':Nat->Option ABlk} {ν ν':Nu} {S:PS} {E:T Value} {H H':AHeap}
structure FCD (Z:Nat->Option ABlk) (ν:Nu) (S:PS) (H:AHeap) (D:Nat->Prop) (Z':Nat->Option ABlk) (ν':Nu) (S':PS) (H':AHeap):Prop where
 z:ZLe Z Z'
 zn:∀ b,Z' b≠none->Z b≠none\/H.next<=b\/Own ν S b\/D b
 le:H.next<=H'.next
 old:∀ b x,H.t.get b=some x->b<H.next->¬ Own ν S b->¬ D b->H'.t.get b=some x
 own:∀ b,Own ν' S' b->Own ν S b\/H.next<=b
 big:∀ id,BIG<=id->lk S'.blk id≠none->lk S.blk id≠none/\ν' id=ν id
theorem qwk {D:Nat->Prop} (hDo:∀ b,D b->¬ Own ν S b) (hDz:∀ b,D b->Z b=none) (hp:PR Z ν S E H) (hdom:∀ i x,H.t.get i=some x->i<H.next) {d m:Nat} (hd:d<500000) {ns:List (Option Nat)} {out:List SV} {blk bk:List (Nat × LB)} {vs:List Value}
  (hns:∀ (k o:Nat),ns[k]?=some (some o)->∃ lb,lk S.blk o=some lb) (hown:∀ b,Own (nuI ν ns) ⟨[],bk⟩ b->∃ (k o:Nat) (lb:LB) (ni:NI),ns[k]?=some (some o)/\ν o=some ni/\lk S.blk o=some lb/\ni.b=b)
  (h1:PR Z' ν' ⟨[],blk⟩ .nil H') (h2:FCD Z (nuI ν ns) ⟨[],bk⟩ H D Z' ν' ⟨[],blk⟩ H') (h3:V1L Z' ν' out vs) (hok:okI d m ns out blk=true) :
  ∃ ν2,PR Z' ν2 (qbx S d ns blk) E H'/\FCD Z ν S H D Z' ν2 (qbx S d ns blk) H'/\(∀ b,Own ν2 (qbx S d ns blk) b->Own ν S b\/Own ν' ⟨[],blk⟩ b)/\VS Z' ν2 (one (renSL (rnI d ns) out)) (qgq vs):=by
 simp only[okI,Bool.and_eq_true,decide_eq_true_eq,List.all_eq_true,Bool.or_eq_true,List.contains_iff_mem,Bool.not_eq_true'] at hok;obtain ⟨⟨⟨⟨⟨⟨hnd,hkd⟩,hm⟩,hkey⟩,hout⟩,hbm⟩,hsn⟩:=hok;have hkey':∀ i lb,(i,lb)∈blk->i<1000\/(BIG<=i/\i<BIG+m):=λ i lb h=>hkey _ h
 have hlk:∀ i lb,(i,lb)∈blk->lk blk i=some lb:=λ i lb h=>qvn hkd h
 have hmemk:∀ i,i∈blk.map (·.1)->∃ lb,(i,lb)∈blk:=by
  intro i h;obtain ⟨p,hp,rfl⟩:=List.mem_map.1 h;exact ⟨p.2,hp⟩
 have hnewlt:∀ i lb,(i,lb)∈blk->qfj ns i=true->rnI d ns i<BIG:=by
  intro i lb h hn;rw[qph hn];have:=hkey' i lb h;unfold nm;unfold BIG at this |-;split <;> omega
 have hBo:∀ b,Own (nuI ν ns) ⟨[],bk⟩ b->Own ν S b:=λ b hb=>let ⟨_,o,lb,ni,_,k2,k3,k4⟩:=hown b hb;⟨o,lb,ni,k3,k2,k4⟩
 have hownlt:∀ b,Own ν S b->b<H.next:=by
  rintro b ⟨id,l,ni,g1,g2,rfl⟩;obtain ⟨_,hg⟩:=(hp.blk id l g1).at g2;exact hdom _ _ hg
 have hrm:∀ i,lk (rmL S.blk (ns.filterMap id)) i=if i∈ns.filterMap id then none else lk S.blk i:=qkl _ _;have hsub:∀ i lb,lk (rmL S.blk (ns.filterMap id)) i=some lb->lk S.blk i=some lb:=by
  intro i lb e;rw[hrm] at e;split at e
  ·cases e
  ·exact e
 have hsubo:∀ b,Own ν ⟨S.env,rmL S.blk (ns.filterMap id)⟩ b->Own ν S b:=λ b ⟨i,lb,ni,g1,g2,g3⟩=>⟨i,lb,ni,hsub _ _ g1,g2,g3⟩
 have hBn:∀ b,Own ν ⟨S.env,rmL S.blk (ns.filterMap id)⟩ b->¬ Own (nuI ν ns) ⟨[],bk⟩ b:=by
  rintro b ⟨i,lb,ni,g1,g2,rfl⟩ hb;obtain ⟨j,o,lb',nj,k1,k2,k3,k4⟩:=hown _ hb;have:=hp.inj i o lb lb' ni nj (hsub _ _ g1) k3 g2 k2 k4.symm;subst this;have e:lk (rmL S.blk (ns.filterMap id)) i=none:=by rw[hrm,if_pos (qvl k1)]
  have g1':lk (rmL S.blk (ns.filterMap id)) i=some lb:=g1;rw[e] at g1';cases g1'
 have hp0:PR Z ν ⟨S.env,rmL S.blk (ns.filterMap id)⟩ E H:=⟨hp.env,λ i lb e=>hp.blk i lb (hsub _ _ e),hp.zh,λ b hb=>hp.zo b (hsubo b hb),λ i j li lj ni nj g1 g2=>hp.inj i j li lj ni nj (hsub _ _ g1) (hsub _ _ g2)⟩;have hp1:PR Z ν ⟨S.env,rmL S.blk (ns.filterMap id)⟩ E H':=hp0.growI (B:=λ b=>Own (nuI ν ns) ⟨[],bk⟩ b\/D b) (λ b y hy hb=>h2.old b y hy (hdom _ _ hy) (λ h=>hb (.inl h)) λ h=>hb (.inr h)) (λ b ho hb=>hb.elim (hBn b ho) λ h=>hDo b h (hsubo b ho)) λ b hb=>hb.elim (λ h=>hp.zo b (hBo b h)) (hDz b)
 have hp2:PR Z' ν ⟨S.env,rmL S.blk (ns.filterMap id)⟩ E H':=hp1.zmono h2.z h1.zh λ b hb=>by
  cases hz:Z' b with
  | none=>rfl
  | some y=>
   exfalso;rcases h2.zn b (by rw[hz];simp) with h | h | h | h
   ·exact h (hp.zo b (hsubo b hb))
   ·have:=hownlt b (hsubo b hb);omega
   ·exact hBn b hb h
   ·exact hDo b h (hsubo b hb)
 have hinj:∀ i j,(∃ lb,(i,lb)∈blk)->(∃ lb,(j,lb)∈blk)->rnI d ns i=rnI d ns j->i=j:=by
  rintro i j ⟨li,hi⟩ ⟨lj,hj⟩ e;have ki:=hkey' i li hi;have kj:=hkey' j lj hj
  have ms:∀ i li,(i,li)∈blk->qfj ns i=false->rnI d ns i∈q1a ns blk:=λ i li hi hni=>List.mem_map.2 ⟨(i,li),List.mem_filter.2 ⟨hi,by simp[hni]⟩,by
   have a:=(qib (d:=d) hni).2;have b:=(qib (d:=0) hni).2
   exact (Option.some.inj (a.symm.trans b)).symm⟩
  have mn:∀ i li,(i,li)∈blk->qfj ns i=true->rnI d ns i∈newN d ns blk:=λ i li hi hni=>List.mem_map.2 ⟨(i,li),List.mem_filter.2 ⟨hi,hni⟩,rfl⟩
  cases hni:qfj ns i with
  | true=>
   cases hnj:qfj ns j with
   | true=>
    rw[qph hni,qph hnj] at e;have e:=qz2 e;split at e <;> split at e <;> omega
   | false=>
    have:=hsn _ (ms j lj hj hnj);rw[<- e] at this;have h3:=mn i li hi hni;simp[h3] at this
  | false=>
   have si:=qib (d:=d) hni
   cases hnj:qfj ns j with
   | true=>
    have:=hsn _ (ms i li hi hni);rw[e] at this;have h3:=mn j lj hj hnj;simp[h3] at this
   | false=>
    have sj:=qib (d:=d) hnj;have a:=qig si.2;have b:=qig sj.2;rw[e] at a;have:=qvd hnd a b;omega
 classical
 let ν2:Nu:=λ i=>if h:∃ id,(∃ lb,(id,lb)∈blk)/\rnI d ns id=i then ν' (Classical.choose h) else if i∈qea d ns blk then none else ν i
 have hν2:∀ id,(∃ lb,(id,lb)∈blk)->ν2 (rnI d ns id)=ν' id:=by
  intro id hid;have hex:∃ id',(∃ lb,(id',lb)∈blk)/\rnI d ns id'=rnI d ns id:=⟨id,hid,rfl⟩
  show (if h:_ then _ else _)=_
  rw[dif_pos hex];rw[hinj _ _ (Classical.choose_spec hex).1 hid (Classical.choose_spec hex).2]
 have hkν:∀ id lb,(id,lb)∈blk->qfj ns id=false->ν' id=ν (rnI d ns id):=by
  intro id lb hid hn;obtain ⟨hb,hj⟩:=qib (d:=d) hn;have:=(h2.big id hb (by rw[show lk blk id=some lb from hlk id lb hid];simp)).2;rw[this];unfold nuI;rw[if_pos hb,hj];rfl
 have hoff:∀ i,i ∉ qea d ns blk->ν2 i=ν i:=by
  intro i hi
  show (if h:_ then _ else _)=_
  split
  next hex=>
   obtain ⟨⟨lb,hc⟩,he⟩:=Classical.choose_spec hex
   cases hn:qfj ns (Classical.choose hex) with
   | true=>exact absurd (List.mem_append_right _ (List.mem_map.2 ⟨(_,lb),List.mem_filter.2 ⟨hc,hn⟩,he⟩)) hi
   | false=>rw[hkν _ lb hc hn,he]
  ·first
    | rfl
    | rw[if_neg hi]
 have hp3:PR Z' ν2 (killA (qea d ns blk) ⟨S.env,rmL S.blk (ns.filterMap id)⟩) E H':=PR.killA _ hp2 hoff;have hfown:∀ i lb ni,(i,lb)∈blk->ν' i=some ni->Own ν' ⟨[],blk⟩ ni.b:=λ i lb ni h hn=>⟨i,lb,ni,hlk i lb h,hn,rfl⟩
 have hp4:=hp3.addB (new:=qgr (rnI d ns) blk) (λ j lb h=>by
   obtain ⟨i,lb0,hm0,rfl,rfl⟩:=qf3 h
   exact (h1.blk i lb0 (hlk i lb0 hm0)).renB (hν2 i ⟨lb0,hm0⟩) λ k hk=>hν2 k (hmemk k (hbm _ hm0 k (qrd hk))))
  (λ j lb ni h hn=>by
   obtain ⟨i,lb0,hm0,rfl,rfl⟩:=qf3 h;rw[hν2 i ⟨lb0,hm0⟩] at hn;have ho:=hfown i lb0 ni hm0 hn;refine ⟨h1.zo _ ho,λ hk=>?_⟩;have hk:=qn7 hoff hk;rcases h2.own _ ho with h | h
   ·exact hBn _ hk h
   ·have:=hownlt _ (hsubo _ hk);omega)
  (λ i j li lj ni nj h1' h2' h3' h4' h5'=>by
   obtain ⟨i,l0,hm0,rfl,rfl⟩:=qf3 h1';obtain ⟨j,l1,hm1,rfl,rfl⟩:=qf3 h2';rw[hν2 i ⟨l0,hm0⟩] at h3';rw[hν2 j ⟨l1,hm1⟩] at h4'
   rw[h1.inj i j l0 l1 ni nj (hlk _ _ hm0) (hlk _ _ hm1) h3' h4' h5'])
 have hown2:∀ b,Own ν2 (qbx S d ns blk) b->Own ν S b\/Own ν' ⟨[],blk⟩ b:=by
  rintro b ⟨i,lb,ni,g1,g2,rfl⟩;simp only[qbx,qiz] at g1;split at g1
  next c hc=>obtain ⟨i,lb0,hm0,rfl,rfl⟩:=qf3 hc;rw[hν2 i ⟨lb0,hm0⟩] at g2;exact .inr (hfown i lb0 ni hm0 g2)
  ·exact .inl (hsubo _ (qn7 hoff ⟨i,lb,ni,g1,g2,rfl⟩))
 refine ⟨ν2,hp4,⟨h2.z,λ b hb=>?_,h2.le,λ b y hy hlt hno hD=>h2.old b y hy hlt (λ hB=>hno (hBo b hB)) hD,λ b hb=>?_,λ i hB hi=>?_⟩,hown2,qn9 (h3.renS λ i hi=>hν2 i (hmemk i (hout i (qce _ hi))))⟩
 ·rcases h2.zn b hb with h | h | h | h
  ·exact .inl h
  ·exact .inr (.inl h)
  ·exact .inr (.inr (.inl (hBo b h)))
  ·exact .inr (.inr (.inr h))
 ·rcases hown2 b hb with h | h
  ·exact .inl h
  ·exact (h2.own _ h).imp_left (hBo _)
 ·simp only[qbx,qiz] at hi;split at hi
  next c hc=>
   obtain ⟨k,lb0,hm0,rfl,rfl⟩:=qf3 hc
   cases hn:qfj ns k with
   | true=>have:=hnewlt k lb0 hm0 hn;omega
   | false=>
    obtain ⟨hb,hj⟩:=qib (d:=d) hn;obtain ⟨lb,hl⟩:=hns _ _ (qig hj);exact ⟨by rw[hl];simp,by rw[hν2 k ⟨lb0,hm0⟩,hkν k lb0 hm0 hn]⟩
  ·obtain ⟨g1,g2⟩:=qm6 _ hi;refine ⟨λ e=>g1 ?_,hoff i g2⟩;have:lk (rmL S.blk (ns.filterMap id)) i=none:=by rw[hrm];split <;> simp[e]
   exact this
theorem qrw (hp:PR Z ν S E H) (hdom:∀ i x,H.t.get i=some x->i<H.next) {d m:Nat} (hd:d<500000) {ns:List (Option Nat)} {out:List SV} {blk bk:List (Nat × LB)} {vs:List Value}
  (hns:∀ (k o:Nat),ns[k]?=some (some o)->∃ lb,lk S.blk o=some lb) (hown:∀ b,Own (nuI ν ns) ⟨[],bk⟩ b->∃ (k o:Nat) (lb:LB) (ni:NI),ns[k]?=some (some o)/\ν o=some ni/\lk S.blk o=some lb/\ni.b=b)
  (h1:PR Z' ν' ⟨[],blk⟩ .nil H') (h2:FC Z (nuI ν ns) ⟨[],bk⟩ H Z' ν' ⟨[],blk⟩ H') (h3:V1L Z' ν' out vs) (hok:okI d m ns out blk=true) :
  ∃ ν2,PR Z' ν2 (qbx S d ns blk) E H'/\FC Z ν S H Z' ν2 (qbx S d ns blk) H'/\VS Z' ν2 (one (renSL (rnI d ns) out)) (qgq vs):=by
 obtain ⟨ν2,g1,g2,_,g3⟩:=qwk (D:=λ _=>False) (λ _ h=>h.elim) (λ _ h=>h.elim) hp hdom hd hns hown h1 ⟨h2.z,λ b h=>(h2.zn b h).imp_right (Or.imp_right .inl),h2.le,λ b x k1 k2 k3 _=>h2.old b x k1 k2 k3,h2.own,h2.big⟩ h3 hok;exact ⟨ν2,g1,⟨g2.z,λ b h=>(g2.zn b h).imp_right (Or.imp_right λ h=>h.elim id λ h=>h.elim),g2.le,λ b x k1 k2 k3=>g2.old b x k1 k2 k3 λ h=>h.elim,g2.own,g2.big⟩,g3⟩
end
def qns:AK->List SV->PC (SV × List SV)
 | .dat σ,l=>match rdL [] σ l with
  | some (c,(x,r))=>some (c,(ofD σ x,r))
  | none=>none
 | .pta n _,l=>match l with
  | .pta n' a j m::r=>some ([n'=n],(.pta n' a j m,r))
  | _=>none
 | _,l=>match l with
  | s::r=>if qbi s then some ([],(s,r)) else none
  | []=>none
def castM {κ σ κ' σ':Sh} (h:κ'=κ) (g:σ'=σ) (l:List (κ'.D × σ'.D)):List (κ.D × σ.D):=h ▸ g ▸ l
mutual
def rdK (blk:List (Nat × LB)):(a:AK)->SV->PC (List (Option Nat) × a.D)
 | .dat σ,s=>match rd [] σ s with
  | some (cs,x)=>some (cs,([],x))
  | none=>none
 | .row et e,s=>match s with
  | .win true e' id 0 n=>match lk blk id with
   | some (.row et' e2 xs)=>if h:e2=e then if e'=e/\et'=et then some ([n=xs.length],([some id],h ▸ xs)) else none else none
   | _=>none
  | .nils=>if 0<e.size then some ([],([none],([]:List e.D))) else none
  | _=>none
 | .win et e,s=>match s with
  | .win _ e' id lo n=>match lk blk id with
   | some (.row et' e2 xs)=>if h:e2=e then if e'=e/\et'=et then some ([],([some id],(lo,n,h ▸ xs))) else none else none
   | _=>none
  | .nils=>if 0<e.size then some ([],([none],(0,0,([]:List e.D)))) else none
  | _=>none
 | .ptr l,s=>match s with
  | .ptr id 0=>match lk blk id with
   | some (.var cs)=>match (opK cs).isSome with
    | true=>none
    | false=>match rdC blk l cs with
     | some (c,(ns,x))=>some (c,(some id::ns,x))
     | none=>none
   | _=>none
  | _=>none
 | .fn f a c,s=>match s with
  | .fn g p q=>if f=g/\p.all qbi=true/\q.all qbi=true then match rdKL blk a p with
   | some (c1,(n1,x))=>match rdKL blk c q with
    | some (c2,(n2,y))=>some (c1++c2,(n1++n2,(x,y)))
    | none=>none
   | none=>none else none
  | _=>none
 | .map κ σ,s=>match s with
  | .mp id=>match lk blk id with
   | some (.mp κ' σ' l)=>if h:κ'=κ/\σ'=σ then some ([],([some id],castM h.1 h.2 l)) else none
   | _=>none
  | _=>none
 | .yl l,s=>match s with
  | .yl l'=>some ([l'=l],([],()))
  | _=>none
 | .nl,s=>match s with
  | .nils=>some ([],([],()))
  | _=>none
 | .agg l,s=>match s with
  | .agg cs=>rdC blk l cs
  | _=>none
 | .pta n a,s=>match s with
  | .pta n' l j [m]=>match qbi m with
   | true=>match rdK blk a m with
    | some (c,(ns,x))=>some ((n'=n)::c,(ns,((l,j),x)))
    | none=>none
   | false=>none
  | _=>none
 | .np,s=>match s with
  | .nilp=>some ([],([],()))
  | _=>none
def rdKL (blk:List (Nat × LB)):(as:List AK)->List SV->PC (List (Option Nat) × DI as)
 | [],l=>match l with
  | []=>some ([],([],()))
  | _=>none
 | a::as,l=>match l with
  | s::l=>match rdK blk a s with
   | some (c1,(n1,x))=>match rdKL blk as l with
    | some (c2,(n2,y))=>some (c1++c2,(n1++n2,(x,y)))
    | none=>none
   | none=>none
  | []=>none
def rdC (blk:List (Nat × LB)):(as:List AK)->List SV->PC (List (Option Nat) × DI as)
 | [],l=>match l with
  | []=>some ([],([],()))
  | _=>none
 | a::as,l=>match qns a l with
  | some (c0,(s,r))=>match rdK blk a s with
   | some (c1,(n1,x))=>match rdC blk as r with
    | some (c2,(n2,y))=>some (c0++(c1++c2),(n1++n2,(x,y)))
    | none=>none
   | none=>none
  | none=>none
end
section
variable {Z:Nat->Option ABlk} {ν νa:Nu} {S:PS} {E:T Value} {H:AHeap}
theorem qoj:∀ (σ:Sh) (x:σ.D),items (ofD σ x)=qdy σ x
 | .int _,_=>rfl
 | .bool,_=>rfl
 | .str,_=>rfl
 | .unit,_=>rfl
 | .pair _ _,_=>rfl
 | .arr _ _,_=>rfl
 | .sl _,_=>rfl
theorem qw3 (e:List (Nat × SV)):Zc Z ν ⟨e,[]⟩ H=Z:=by
 funext b;unfold Zc;rw[if_neg];rintro ⟨⟨id,lb,ni,h,_⟩,_⟩;simp[lk] at h
theorem qoh {α:Type}:∀ (l m:List (Nat × α)) (i:Nat),lk (l++m) i=match lk l i with
  | some b=>some b
  | none=>lk m i
 | [],m,i=>rfl
 | (j,b)::l,m,i=>by
  simp only[List.cons_append,lk];split
  ·rfl
  ·exact qoh l m i
inductive All2 {α β:Type} (R:α->β->Prop):List α->List β->Prop where
 | nil:All2 R [] []
 | cons {a:α} {b:β} {l:List α} {m:List β} (h:R a b) (t:All2 R l m):All2 R (a::l) (b::m)
def NuAt (νa ν:Nu) (k:Nat) (ns:List (Option Nat)):Prop:=∀ j,j<ns.length->νa (BIG+(k+j))=match ns[j]? with
 | some (some o)=>ν o
 | _=>none
theorem NuAt.app {k:Nat} {n1 n2:List (Option Nat)} (h:NuAt νa ν k (n1++n2)):NuAt νa ν k n1/\NuAt νa ν (k+n1.length) n2:=by
 constructor
 ·intro j hj;rw[h j (by rw[List.length_append];omega),List.getElem?_append_left hj]
 ·intro j hj;have:=h (n1.length+j) (by rw[List.length_append];omega);rw[Nat.add_assoc,this,List.getElem?_append_right (by omega),Nat.add_sub_cancel_left]
theorem NuAt.cons {k:Nat} {a:Option Nat} {n:List (Option Nat)} (h:NuAt νa ν k (a::n)):(νa (BIG+k)=match a with
  | some o=>ν o
  | none=>none)/\NuAt νa ν (k+1) n:=by
 constructor
 ·have:=h 0 (by simp);rw[Nat.add_zero] at this;rw[this]
  cases a <;> rfl
 ·intro j hj;have:=h (j+1) (by simp;omega);rw[show k+1+j=k+(j+1) by omega,this,List.getElem?_cons_succ]
structure BkOK (Z:Nat->Option ABlk) (ν νa:Nu) (S:PS) (H:AHeap) (k:Nat) (ns:List (Option Nat)) (n:Nat) (bk:List (Nat × LB)):Prop where
 len:ns.length=n
 nm:∀ (j o:Nat),ns[j]?=some (some o)->∃ lb,lk S.blk o=some lb
 br:∀ id lb,lk bk id=some lb->BIG+k<=id/\id<BIG+(k+n)/\BR Z νa H id lb/\∀ ni,νa id=some ni->∃ o,ns[id-BIG-k]?=some (some o)/\ν o=some ni
theorem BkOK.app {k n m:Nat} {n1 n2:List (Option Nat)} {b1 b2:List (Nat × LB)} (h1:BkOK Z ν νa S H k n1 n b1) (h2:BkOK Z ν νa S H (k+n) n2 m b2):BkOK Z ν νa S H k (n1++n2) (n+m) (b1++b2) where
 len:=by rw[List.length_append,h1.len,h2.len]
 nm j o h:=by
  by_cases hj:j<n1.length
  ·rw[List.getElem?_append_left hj] at h;exact h1.nm j o h
  ·rw[List.getElem?_append_right (by omega)] at h;exact h2.nm _ o h
 br id lb h:=by
  rw[qoh] at h;split at h
  next b hb=>cases h;obtain ⟨g1,g2,g3,g4⟩:=h1.br id _ hb;refine ⟨g1,by omega,g3,λ ni hn=>?_⟩;obtain ⟨o,k1,k2⟩:=g4 ni hn;exact ⟨o,by rw[List.getElem?_append_left (by rw[h1.len];omega)];exact k1,k2⟩
  ·obtain ⟨g1,g2,g3,g4⟩:=h2.br id lb h;refine ⟨by omega,by omega,g3,λ ni hn=>?_⟩;obtain ⟨o,k1,k2⟩:=g4 ni hn;refine ⟨o,?_,k2⟩;have e:id-BIG-(k+n)=id-BIG-k-n:=by omega
   rw[List.getElem?_append_right (by rw[h1.len];omega),h1.len,<- e];exact k1
theorem BkOK.none {k:Nat}:BkOK Z ν νa S H k [] 0 []:=⟨rfl,by simp,by simp[lk]⟩
theorem qli {r:Bool} {e:Sh} {id lo n:Nat} {v:Value}:VS Z ν (.win r e id lo n) v↔WinR r ν e id lo n v:=by
 constructor
 ·rintro ⟨v',e,h⟩
  cases e;exact h
 ·exact λ h=>⟨v,rfl,h⟩
theorem WinR.as {νa:Nu} {e:Sh} {r r':Bool} {id k lo n:Nat} {v:Value} (h:WinR r ν e id lo n v) (hr:r'=true->r=true) (hn:νa k=ν id):WinR r' νa e k lo n v:=by
 unfold WinR at h |-;rw[hn]
 cases r' with
 | true=>rw[hr rfl] at h;exact h
 | false=>
  cases r with
  | false=>exact h
  | true=>
   split at h
   ·obtain ⟨a,b,c | ⟨c,_⟩⟩:=h
    ·exact ⟨a,b,.inl c⟩
    ·cases c
   ·rcases h with ⟨c,_⟩ | h
    ·cases c
    ·exact .inr h
theorem WinR.nil {νa:Nu} {e:Sh} {r:Bool} {k:Nat} (hn:νa k=none):WinR r νa e k 0 0 (.slice none 0 0):=by
 unfold WinR;rw[hn];exact ⟨rfl,rfl,.inl rfl⟩
theorem BR.as {id k:Nat} {et:TypeId} {e:Sh} {xs:List e.D} (h:BR Z ν H id (.row et e xs)) (hn:νa k=ν id):BR Z νa H k (.row et e xs):=by
 obtain ⟨h0,h⟩:=h;exact ⟨h0,by rw[hn];exact h⟩
theorem qu9 {σ:Sh} (h:σ.isAgg=false) (x:σ.D):qbi (ofD σ x)=true:=by
 cases σ <;> simp[Sh.isAgg] at h <;> rfl
theorem VS.cells1 {s:SV} {v:Value} (ho:qbi s=true):VS Z ν s v↔CRL Z ν (items s) [v]:=by
 have hi:items s=[s]:=by cases s <;> simp[qbi] at ho <;> rfl
 rw[hi];constructor
 ·intro h;exact ⟨[v],[],rfl,h.one ho,rfl⟩
 ·rintro ⟨u,w,e,h1,h2⟩;simp only[CRL] at h2;subst h2;rw[List.append_nil] at e;subst e;exact VS.of_one h1 ho
theorem q22 {s:SV} {u:List Value} (ho:qbi s=true) (h:CRL Z ν (items s) u):∃ v,u=[v]:=by
 have hi:items s=[s]:=by cases s <;> simp[qbi] at ho <;> rfl
 rw[hi] at h;obtain ⟨a,w,e,h1,h2⟩:=h;simp only[CRL] at h2;subst h2;rw[List.append_nil] at e;subst e;have hl:=h1.len;have:s.size=1:=by cases s <;> simp[qbi] at ho <;> rfl
 rw[this] at hl
 match u,hl with
 | [v],_=>exact ⟨v,rfl⟩
theorem qo9 (hp0:PR Z ν ⟨S.env,[]⟩ E H) {a:AK} {l r:List SV} {s:SV} {cs:List Prop} {vs:List Value} (h:qns a l=some (cs,(s,r))) (hc:∀ c∈cs,c) (hv:CRL Z ν l vs):∃ u w,vs=u++w/\CRL Z ν (items s) u/\CRL Z ν r w:=by
 unfold qns at h;split at h
 next σ=>
  split at h
  next c x r' e=>cases h;obtain ⟨u,w,e1,h1,h2⟩:=qe7 hp0 σ e hc hv;rw[qw3] at h1;exact ⟨u,w,e1,by rw[qoj];exact qam σ x h1,h2⟩
  ·cases h
 ·split at h
  ·cases h;obtain ⟨u,w,e,h1,h2⟩:=hv;exact ⟨u,w,e,⟨u,[],by simp,h1,rfl⟩,h2⟩
  ·cases h
 ·split at h
  next s' r'=>
   split at h
   next ho=>
    cases h;have hi:items s=[s]:=by cases s <;> simp[qbi] at ho <;> rfl
    obtain ⟨u,w,e,h1,h2⟩:=hv;exact ⟨u,w,e,by rw[hi];exact ⟨u,[],by simp,h1,rfl⟩,h2⟩
   ·cases h
  ·cases h
def Goes (Z:Nat->Option ABlk) (ν νa:Nu) (s t:SV):Prop:=(qbi s=true->qbi t=true)/\(∀ v,VS Z ν s v->VS Z νa t v)/\∀ u,CRL Z ν (items s) u->CRL Z νa (items t) u
theorem Goes.of {s t:SV} (hs:qbi s=true) (ht:qbi t=true) (h:∀ v,VS Z ν s v->VS Z νa t v):Goes Z ν νa s t:=by
 refine ⟨λ _=>ht,h,λ u hu=>?_⟩;obtain ⟨v,rfl⟩:=q22 hs hu;exact (VS.cells1 ht).1 (h v ((VS.cells1 hs).2 hu))
theorem Goes.cro:∀ {l m:List SV} {vs:List Value},l.all qbi=true->All2 (Goes Z ν νa) l m->CRO Z ν l vs->CRO Z νa m vs
 | [],_,_,_,.nil,h=>h
 | s::l,_,_,ho,.cons h hl,k=>by
  simp only[List.all_cons,Bool.and_eq_true] at ho;simp only[CRO] at k |-;obtain ⟨v,w,e,h1,h2⟩:=k;exact ⟨v,w,e,(h.2.1 v (VS.of_one h1 ho.1)).one (h.1 ho.1),Goes.cro ho.2 hl h2⟩
theorem Goes.vsl:∀ {l m:List SV} {vs:List Value},All2 (Goes Z ν νa) l m->VSL Z ν l vs->VSL Z νa m vs
 | [],_,_,.nil,h=>h
 | _::_,_,_,.cons h hl,⟨v,w,e,h1,h2⟩=>⟨v,w,e,h.2.1 v h1,Goes.vsl hl h2⟩
mutual
theorem qkb (hp:PR Z ν S E H) (hp0:PR Z ν ⟨S.env,[]⟩ E H):∀ (a:AK) {s:SV} {cs:List Prop} {ns:List (Option Nat)} {x:a.D} (k:Nat),rdK S.blk a s=some (cs,(ns,x))->(∀ c∈cs,c)->NuAt νa ν k ns->Goes Z ν νa s (svK k a x)/\BkOK Z ν νa S H k ns (cnt a) (bkK k a x)
 | .dat σ,s,cs,ns,x,k,h,hc,hn=>by
  simp only[rdK] at h;split at h
  next cs' x' e=>
   cases h;simp only[svK,bkK,cnt];refine ⟨⟨λ ho=>?_,λ v hv=>?_,λ u hu=>?_⟩,.none⟩
   ·unfold rd at e;split at e
    next hh=>
     refine qu9 ?_ _;rw[<- hh.1]
     cases s <;> simp[qbi] at ho <;> rfl
    ·cases e
   ·have:=qq2 hp0 e hc hv νa;rw[qw3] at this;exact this
   ·unfold rd at e;split at e
    ·split at e
     next e2=>cases e;obtain ⟨u',w,e1,h1,h2⟩:=qe7 hp0 σ e2 hc hu;simp only[CRL] at h2;subst h2;rw[List.append_nil] at e1;subst e1;rw[qw3] at h1;rw[qoj];exact qam σ _ h1
     ·cases e
    ·cases e
  ·cases h
 | .row et e,s,cs,ns,x,k,h,hc,hn=>by
  simp only[rdK] at h;split at h
  next e' id n=>
   split at h
   next et' e2 xs hb=>
    split at h
    next he=>
     subst he;split at h
     next hee=>
      obtain ⟨rfl,rfl⟩:=hee;cases h;have hk:νa (BIG+k)=ν id:=hn.cons.1;have hl:n=xs.length:=hc _ (by simp);subst hl;simp only[svK,bkK,cnt];refine ⟨.of rfl rfl λ v hv=>qli.2 ((qli.1 hv).as (λ h=>h) hk),rfl,λ j o hj=>?_,λ i lb hi=>?_⟩
      ·cases j with
       | zero=>simp at hj;subst hj;exact ⟨_,hb⟩
       | succ j=>simp at hj
      ·simp only[lk] at hi;split at hi
       next hi0=>cases hi;subst hi0;exact ⟨Nat.le_refl _,by omega,(hp.blk _ _ hb).as hk,λ ni hni=>⟨id,by rw[show BIG+k-BIG-k=0 by omega];rfl,by rw[<- hk];exact hni⟩⟩
       ·cases hi
     ·cases h
    ·cases h
   ·cases h
  ·split at h
   next hs=>
    cases h;have hk:νa (BIG+k)=none:=hn.cons.1;simp only[svK,bkK,cnt];refine ⟨.of rfl rfl λ v hv=>qli.2 (by rw[hv.nils];exact .nil hk),rfl,λ j o hj=>?_,λ i lb hi=>?_⟩
    ·cases j with
     | zero=>simp at hj
     | succ j=>simp at hj
    ·simp only[lk] at hi;split at hi
     next hi0=>cases hi;subst hi0;exact ⟨Nat.le_refl _,by omega,⟨hs,.inl ⟨hk,rfl⟩⟩,λ ni hni=>by rw[hk] at hni;cases hni⟩
     ·cases hi
   ·cases h
  ·cases h
 | .win et e,s,cs,ns,x,k,h,hc,hn=>by
  simp only[rdK] at h;split at h
  next r e' id lo n=>
   split at h
   next et' e2 xs hb=>
    split at h
    next he=>
     subst he;split at h
     next hee=>
      obtain ⟨rfl,rfl⟩:=hee;cases h;have hk:νa (BIG+k)=ν id:=hn.cons.1;simp only[svK,bkK,cnt];refine ⟨.of rfl rfl λ v hv=>qli.2 ((qli.1 hv).as (λ h=>by cases h) hk),rfl,λ j o hj=>?_,λ i lb hi=>?_⟩
      ·cases j with
       | zero=>simp at hj;subst hj;exact ⟨_,hb⟩
       | succ j=>simp at hj
      ·simp only[lk] at hi;split at hi
       next hi0=>cases hi;subst hi0;exact ⟨Nat.le_refl _,by omega,(hp.blk _ _ hb).as hk,λ ni hni=>⟨id,by rw[show BIG+k-BIG-k=0 by omega];rfl,by rw[<- hk];exact hni⟩⟩
       ·cases hi
     ·cases h
    ·cases h
   ·cases h
  ·split at h
   next hs=>
    cases h;have hk:νa (BIG+k)=none:=hn.cons.1;simp only[svK,bkK,cnt];refine ⟨.of rfl rfl λ v hv=>qli.2 (by rw[hv.nils];exact .nil hk),rfl,λ j o hj=>?_,λ i lb hi=>?_⟩
    ·cases j with
     | zero=>simp at hj
     | succ j=>simp at hj
    ·simp only[lk] at hi;split at hi
     next hi0=>cases hi;subst hi0;exact ⟨Nat.le_refl _,by omega,⟨hs,.inl ⟨hk,rfl⟩⟩,λ ni hni=>by rw[hk] at hni;cases hni⟩
     ·cases hi
   ·cases h
  ·cases h
 | .ptr l,s,cs,ns,x,k,h,hc,hn=>by
  simp only[rdK] at h;split at h
  next id=>
   split at h
   next cells hb=>
    split at h
    ·cases h
    rename_i hopn;split at h
    next c ns' x' e=>
     cases h;have hk:νa (BIG+k)=ν id:=hn.cons.1;obtain ⟨g1,g2⟩:=qkc hp hp0 l (k+1) e hc hn.cons.2;obtain ⟨ni0,vs,et,b1,b2,b3,b4⟩:=hp.blk _ _ hb;have b2:ni0.tot=some vs.length:=by
      rcases b2 with b2 | ⟨_,k2,b2⟩
      ·exact b2
      ·rw[b2] at hopn;cases hopn
     have b30:∀ l:List SV,kT l ni0=0:=λ l=>by unfold kT;rw[b2]
     rw[b30] at b3;simp only[svK,bkK,cnt];refine ⟨.of rfl rfl λ v hv=>?_,by rw[List.length_cons,g2.len],λ j o hj=>?_,λ i lb hi=>?_⟩
     ·obtain ⟨ni,e1,e2⟩:=hv.ptr
      show CR Z νa _ _
      simp only[CR];exact ⟨ni,by rw[hk];exact e1,by rw[e2]⟩
     ·cases j with
      | zero=>simp at hj;subst hj;exact ⟨_,hb⟩
      | succ j=>rw[List.getElem?_cons_succ] at hj;exact g2.nm j o hj
     ·simp only[lk] at hi;split at hi
      next hi0=>cases hi;subst hi0;exact ⟨Nat.le_refl _,by omega,⟨ni0,vs,et,by rw[hk];exact b1,.inl b2,by rw[b30];exact b3,g1 vs b4⟩,λ ni hni=>⟨id,by rw[show BIG+k-BIG-k=0 by omega];rfl,by rw[<- hk];exact hni⟩⟩
      ·obtain ⟨k1,k2,k3,k4⟩:=g2.br i lb hi;refine ⟨by omega,by omega,k3,λ ni hni=>?_⟩;obtain ⟨o,m1,m2⟩:=k4 ni hni;exact ⟨o,by rw[show i-BIG-k=(i-BIG-(k+1))+1 by omega,List.getElem?_cons_succ];exact m1,m2⟩
    ·cases h
   ·cases h
  ·cases h
 | .fn f a c,s,cs,ns,x,k,h,hc,hn=>by
  simp only[rdK] at h;split at h
  next g p q=>
   split at h
   next hcond=>
    obtain ⟨rfl,ho1,ho2⟩:=hcond;split at h
    next c1 n1 x1 e1=>
     split at h
     next c2 n2 y e2=>
      cases h;obtain ⟨m1,m2⟩:=hn.app;obtain ⟨g1,g2⟩:=qfz hp hp0 a k e1 (λ c hcc=>hc c (List.mem_append_left _ hcc)) m1;rw[g2.len] at m2;obtain ⟨g3,g4⟩:=qfz hp hp0 c (k+cntL a) e2 (λ c hcc=>hc c (List.mem_append_right _ hcc)) m2;simp only[svK,bkK,cnt];refine ⟨.of rfl rfl λ v hv=>?_,g2.app g4⟩;obtain ⟨va,vc,rfl,h1,h2⟩:=hv.fn
      show CR Z νa _ _
      simp only[CR];exact ⟨va,vc,rfl,Goes.cro ho1 g1 h1,Goes.cro ho2 g3 h2⟩
     ·cases h
    ·cases h
   ·cases h
  ·cases h
 | .map κ σ,s,cs,ns,x,k,h,hc,hn=>by
  simp only[rdK] at h;split at h
  next id=>
   split at h
   next κ' σ' l hb=>
    split at h
    next he=>
     obtain ⟨rfl,rfl⟩:=he;cases h;have hk:νa (BIG+k)=ν id:=hn.cons.1;simp only[svK,bkK,cnt];refine ⟨.of rfl rfl λ v hv=>?_,rfl,λ j o hj=>?_,λ i lb hi=>?_⟩
     ·obtain ⟨ni,e1,e2⟩:=hv.mp
      show CR Z νa _ _
      simp only[CR];exact ⟨ni,by rw[hk];exact e1,by rw[e2]⟩
     ·cases j with
      | zero=>simp at hj;subst hj;exact ⟨_,hb⟩
      | succ j=>simp at hj
     ·simp only[lk] at hi;split at hi
      next hi0=>cases hi;subst hi0;obtain ⟨b0,b1,b2⟩:=hp.blk _ _ hb;exact ⟨Nat.le_refl _,by omega,⟨b0,b1,by rw[hk];exact b2⟩,λ ni hni=>⟨id,by rw[show BIG+k-BIG-k=0 by omega];rfl,by rw[<- hk];exact hni⟩⟩
      ·cases hi
    ·cases h
   ·cases h
  ·cases h
 | .yl l,s,cs,ns,x,k,h,hc,hn=>by
  simp only[rdK] at h;split at h
  next l'=>
   cases h;have he:l'=l:=hc _ (by simp);subst he;simp only[svK,bkK,cnt];refine ⟨.of rfl rfl λ v hv=>?_,.none⟩;have hv:CR Z ν (.yl l') [v]:=hv
   show CR Z νa _ _
   simp only[CR] at hv |-;exact hv
  ·cases h
 | .nl,s,cs,ns,x,k,h,hc,hn=>by
  simp only[rdK] at h;split at h
  ·cases h;simp only[svK,bkK,cnt];refine ⟨.of rfl rfl λ v hv=>?_,.none⟩;have hv:CR Z ν .nils [v]:=hv
   show CR Z νa _ _
   simp only[CR] at hv |-;exact hv
  ·cases h
 | .np,s,cs,ns,x,k,h,hc,hn=>by
  simp only[rdK] at h;split at h
  ·cases h;simp only[svK,bkK,cnt];refine ⟨.of rfl rfl λ v hv=>?_,.none⟩;have hv:CR Z ν .nilp [v]:=hv
   show CR Z νa _ _
   simp only[CR] at hv |-;exact hv
  ·cases h
 | .agg l,s,cs,ns,x,k,h,hc,hn=>by
  simp only[rdK] at h;split at h
  next cells=>obtain ⟨g1,g2⟩:=qkc hp hp0 l k h hc hn;simp only[svK,bkK,cnt];refine ⟨⟨λ ho=>by simp[qbi] at ho,λ v hv=>?_,λ u hu=>g1 u hu⟩,g2⟩;obtain ⟨vs,rfl,hv⟩:=hv;exact ⟨vs,rfl,g1 vs hv⟩
  ·cases h
 | .pta n a,s,cs,ns,x,k,h,hc,hn=>by
  simp only[rdK] at h;split at h
  next n' l j m=>
   split at h
   next ho=>
    split at h
    next c ns' x' e=>
     cases h;have hnn:n'=n:=hc _ (by simp);subst hnn;obtain ⟨g1,g2⟩:=qkb hp hp0 a k e (λ c hcc=>hc c (List.mem_cons_of_mem _ hcc)) hn;have ht:=g1.1 ho;have hi:items m=[m]:=by cases m <;> simp[qbi] at ho <;> rfl
     have hj:items (svK k a x')=[svK k a x']:=by
      generalize svK k a x'=t at ht
      cases t <;> simp[qbi] at ht <;> rfl
     have key:∀ u,CR Z ν (.pta n' l j [m]) u->CR Z νa (.pta n' l j [svK k a x']) u:=by
      intro u hu;simp only[CR] at hu |-;obtain ⟨us,v,h1,h2⟩:=hu;refine ⟨us,v,?_,h2⟩;have:=g1.2.2 us (by rw[hi];exact h1);rw[hj] at this;exact this
     simp only[svK,bkK,cnt];exact ⟨⟨λ ho=>by simp[qbi] at ho,λ v hv=>key [v] hv,λ u hu=>CRL.single (key u (CRL.single_inv hu))⟩,g2⟩
    ·cases h
   ·cases h
  ·cases h
theorem qfz (hp:PR Z ν S E H) (hp0:PR Z ν ⟨S.env,[]⟩ E H):∀ (as:List AK) {l:List SV} {cs:List Prop} {ns:List (Option Nat)} {x:DI as} (k:Nat),rdKL S.blk as l=some (cs,(ns,x))->(∀ c∈cs,c)->NuAt νa ν k ns->All2 (Goes Z ν νa) l (svKL k as x)/\BkOK Z ν νa S H k ns (cntL as) (bkKL k as x)
 | [],l,cs,ns,x,k,h,hc,hn=>by
  simp only[rdKL] at h;split at h
  ·cases h;exact ⟨.nil,.none⟩
  ·cases h
 | a::as,l,cs,ns,x,k,h,hc,hn=>by
  simp only[rdKL] at h;split at h
  next s l=>
   split at h
   next c1 n1 x1 e1=>
    split at h
    next c2 n2 y e2=>cases h;obtain ⟨m1,m2⟩:=hn.app;obtain ⟨g1,g2⟩:=qkb hp hp0 a k e1 (λ c hcc=>hc c (List.mem_append_left _ hcc)) m1;rw[g2.len] at m2;obtain ⟨g3,g4⟩:=qfz hp hp0 as (k+cnt a) e2 (λ c hcc=>hc c (List.mem_append_right _ hcc)) m2;simp only[svKL,bkKL,cntL];exact ⟨.cons g1 g3,g2.app g4⟩
    ·cases h
   ·cases h
  ·cases h
theorem qkc (hp:PR Z ν S E H) (hp0:PR Z ν ⟨S.env,[]⟩ E H):∀ (as:List AK) {l:List SV} {cs:List Prop} {ns:List (Option Nat)} {x:DI as} (k:Nat),rdC S.blk as l=some (cs,(ns,x))->(∀ c∈cs,c)->NuAt νa ν k ns->(∀ u,CRL Z ν l u->CRL Z νa (clK k as x) u)/\BkOK Z ν νa S H k ns (cntL as) (bkKL k as x)
 | [],l,cs,ns,x,k,h,hc,hn=>by
  simp only[rdC] at h;split at h
  ·cases h;exact ⟨λ u hu=>hu,.none⟩
  ·cases h
 | a::as,l,cs,ns,x,k,h,hc,hn=>by
  simp only[rdC] at h;split at h
  next c0 s r e0=>
   split at h
   next c1 n1 x1 e1=>
    split at h
    next c2 n2 y e2=>cases h;obtain ⟨m1,m2⟩:=hn.app;obtain ⟨g1,g2⟩:=qkb hp hp0 a k e1 (λ c hcc=>hc c (List.mem_append_right _ (List.mem_append_left _ hcc))) m1;rw[g2.len] at m2;obtain ⟨g3,g4⟩:=qkc hp hp0 as (k+cnt a) e2 (λ c hcc=>hc c (List.mem_append_right _ (List.mem_append_right _ hcc))) m2;simp only[clK,bkKL,cntL];refine ⟨λ u hu=>?_,g2.app g4⟩;obtain ⟨u1,w,rfl,h1,h2⟩:=qo9 hp0 e0 (λ c hcc=>hc c (List.mem_append_left _ hcc)) hu;exact (g1.2.2 u1 h1).app (g3 w h2)
    ·cases h
   ·cases h
  ·cases h
end
theorem qoz (hp:PR Z ν S E H) {as:List AK} {l:List SV} {ns:List (Option Nat)} {x:DI as} {cs:List Prop} {vs:List Value} (hr:rdKL S.blk as l=some (cs,(ns,x))) (hc:∀ c∈cs,c) (hv:VSL Z ν l vs) (hnd:(ns.filterMap id).Nodup) :
  VSL Z (nuI ν ns) (svKL 0 as x) vs/\PR Z (nuI ν ns) ⟨[],bkKL 0 as x⟩ .nil H/\(∀ b,Own (nuI ν ns) ⟨[],bkKL 0 as x⟩ b->∃ (k o:Nat) (lb:LB) (ni:NI),ns[k]?=some (some o)/\ν o=some ni/\lk S.blk o=some lb/\ni.b=b)/\∀ (k o:Nat),ns[k]?=some (some o)->∃ lb,lk S.blk o=some lb:=by
 have hp0:PR Z ν ⟨S.env,[]⟩ E H:=⟨hp.env,λ id lb e=>by simp[lk] at e,hp.zh,λ b ⟨id,lb,ni,h,_⟩=>by simp[lk] at h,λ i j li lj ni nj h=>by simp[lk] at h⟩;have hn:NuAt (nuI ν ns) ν 0 ns:=by
  intro j hj;rw[Nat.zero_add];unfold nuI qle;rw[if_pos (by omega),Nat.add_sub_cancel_left];rw[List.getElem?_eq_getElem hj]
  cases ns[j] <;> rfl
 obtain ⟨g1,g2⟩:=qfz hp hp0 as 0 hr hc hn;refine ⟨Goes.vsl g1 hv,⟨λ t s e=>by simp[lk] at e,λ id lb e=>(g2.br id lb e).2.2.1,hp.zh,λ b hb=>?_,λ i j li lj ni nj h1 h2 h3 h4 h5=>?_⟩,?_,g2.nm⟩
 ·obtain ⟨id,lb,ni,h1,h2,rfl⟩:=hb;obtain ⟨o,k1,k2⟩:=(g2.br id lb h1).2.2.2 ni h2;obtain ⟨lb',hl⟩:=g2.nm _ _ k1;exact hp.zo _ ⟨o,lb',ni,hl,k2,rfl⟩
 ·obtain ⟨q1,_,_,q2⟩:=g2.br i li h1;obtain ⟨q3,_,_,q4⟩:=g2.br j lj h2;obtain ⟨o1,k1,k2⟩:=q2 ni h3;obtain ⟨o2,k3,k4⟩:=q4 nj h4;obtain ⟨l1,m1⟩:=g2.nm _ _ k1;obtain ⟨l2,m2⟩:=g2.nm _ _ k3;have:=hp.inj o1 o2 l1 l2 ni nj m1 m2 k2 k4 h5;subst this;have:=qvd hnd k1 k3;omega
 ·rintro b ⟨id,lb,ni,h1,h2,rfl⟩;obtain ⟨o,k1,k2⟩:=(g2.br id lb h1).2.2.2 ni h2;obtain ⟨lb',hl⟩:=g2.nm _ _ k1;exact ⟨_,o,lb',ni,k1,k2,hl,rfl⟩
end
end Go.Px
