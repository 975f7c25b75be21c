/-
  A part of the proof: what pieces of the program give; conditions: those of each theorem.
-/
import Derived.Test.YtplkpodikhfcdaaDoorQ1
import Derived.Test.YtplkpodikhfcdaaDoorQ0
import Derived.Test.YtplkpodikhfcdaaDoorHD
import Derived.KernelRfl
set_option linter.unusedVariables false
set_option linter.unusedSimpArgs false
namespace Go.Proofs.YtplkpodikhfcdaaDoor
open Go.Px Go.Ax
set_option maxRecDepth 100000
attribute [local irreducible] Go.Px.sy Go.Px.syE
def lfW (l lab:List Int) (i:Nat) (r:InT):Int:=bitI .or .u32 (bitI .andNot .u32 (gtW l i) (dbV r.1)) (IntKind.u32.wrap (iofV lab r.2.2.2.2:Nat))
def lfF (l lab:List Int):List (Nat × InT)->List Int->List Bool->List Int × List Bool
 | [],w,m=>(w,m)
 | r::rs,w,m=>lfF l lab rs (w.set r.1 (lfW l lab r.1 r.2)) (m.set r.1 true)
def qbl (l:List Int):List Int:=winL iI 0 (tgV l).2.1 (tgV l).2.2
def lfV (l:List Int):List Int × List Bool:=lfF l (qbl l) (lnk l) l (List.replicate l.length false)
theorem qry (n:Nat):∀ (l:List Int) (i:Nat),i+l.length=n->∀ r∈lnkF n i l,r.1<n
 | [],_,_,r,hr=>by cases hr
 | w::l,i,h,r,hr=>by
  rw[List.length_cons] at h;rw[lnkF] at hr;split at hr
  ·rcases List.mem_cons.1 hr with rfl | hr
   ·show i<n
    omega
   ·exact qry n l (i+1) (by omega) r hr
  ·exact qry n l (i+1) (by omega) r hr
theorem qxl (l:List Int):∀ r∈lnk l,r.1<l.length:=qry l.length l 0 (Nat.zero_add _)
theorem hdLw:hd Tryd.f31 0=.code (.rangeFunc (.tmp 15) #[16,17] (rfA Tryd.f31 0) (rfB Tryd.f31 0))::rfK Tryd.f31 0:=by kernel_rfl
theorem rndLw:rnd Tryd.f31 0=[.code (rfA Tryd.f31 0),.beginRound,.code (rfB Tryd.f31 0)]:=by kernel_rfl
theorem vwin {a b c d k:Nat} (h1:a=b) (h2:c=d):some (LB.var [.win true u4 1099511627778 0 a,.win true .bool 1099511627779 0 c,.win false iI 1099511627780 0 k])=some (LB.var [.win true u4 1099511627778 0 b,.win true .bool 1099511627779 0 d,.win false iI 1099511627780 0 k]):=by rw[h1,h2]
theorem qpv {QL:AExit->Nat × Bool->DI KLw->Prop} {g:Nat × Bool} {l t:List Int} {k:Nat} (hk:k<=t.length) (hk2:k<1073741824):∀ (rs:List (Nat × InT)) (w:List Int) (m:List Bool),w.length=l.length->m.length=l.length->(∀ r∈rs,r.1<l.length) ->
  QL .normal g ((l,()),(((lfF l (winL iI 0 k t) rs w m).1,(lfF l (winL iI 0 k t) rs w m).2,(0,k,t),()),())) ->
  qvc Tryd.prog G0 31 Tryd.f31.ntmps Y0 [1,3] [16,17] KLw ySh (rfA Tryd.f31 0) (rfB Tryd.f31 0) QL (yL rs) g ((l,()),((w,m,(0,k,t),()),()))
 | [],w,m,_,_,_,h=>h
 | r::rs,w,m,hw,hm,hr,h=>by
  have h0:=hr r (List.mem_cons_self ..)
  show GoodE Tryd.prog G0 31 Tryd.f31.ntmps .ready Y0 _ [.code (rfA Tryd.f31 0),.beginRound,.code (rfB Tryd.f31 0)] g (qmb [1,3] [16,17] KLw ySh ((l,()),((w,m,(0,k,t),()),())) ((r.1:Int),(r.2,())))
  rw[<- rndLw];have hwl:(winL iI 0 k t).length<=k:=by unfold winL;rw[List.length_take];exact Nat.min_le_left _ _
  refine qo8 cxLw (q31 l w m k t r.1 r.2 g.1 g.2 _ _) ?_;rw[Int.toNat_natCast,Nat.zero_add,Nat.zero_add];refine ⟨by omega,by omega,trivial,hk,(show qs8 (winL iI 0 k t) from by unfold qs8;omega),by omega,by omega,by omega,by omega,by omega,by omega,?_⟩;have kx:=qpv hk hk2 rs (w.set r.1 (lfW l (winL iI 0 k t) r.1 r.2)) (m.set r.1 true) (by rw[List.length_set];exact hw) (by rw[List.length_set];exact hm) (fun x hx=>hr x (List.mem_cons_of_mem _ hx)) h;refine ⟨[],((l,()),((w.set r.1 (lfW l (winL iI 0 k t) r.1 r.2),m.set r.1 true,(0,k,t),()),())),⟨?_,rfl,rfl⟩,kx⟩;refine ⟨rfl,?_,rfl,rfl,rfl,trivial⟩;exact vwin List.length_set.symm List.length_set.symm
end Go.Proofs.YtplkpodikhfcdaaDoor
namespace Go.Proofs.YtplkpodikhfcdaaDoor
open Go.Px Go.Ax
set_option maxRecDepth 100000
attribute [local irreducible] Go.Px.sy Go.Px.syE
theorem qw9 {π:Nat->Option Nat} {a a':List SV} (h:MtL π a a'):Mt π (.agg a) (.agg a'):=by simp only[Mt];exact ⟨a',rfl,h⟩
theorem qjh {π:Nat->Option Nat} {e:Sh} {i j lo n:Nat} {b:Bool} {l r:List SV} (h:π i=some j) (hl:MtL π l r):MtL π (.win false e i lo n::l) (.win b e j lo n::r):=⟨_,_,rfl,.inl ⟨b,j,rfl,h,fun h=>by cases h⟩,hl⟩
def lfT (l:List Int):List SV:=[.agg [.win false u4 0 0 (lfV l).1.length,.win false .bool 1 0 (lfV l).2.length,.win false iI 2 0 (tgV l).2.1]]
def lfR (l:List Int):List LB:=[.row 53 u4 (lfV l).1,.row 4 .bool (lfV l).2,.row 3 iI (tgV l).2.2]
def ctLw:Ctr:=⟨[.sl u4],fun x=>qrh x.1,fun x=>lfT x.1,fun x=>lfR x.1⟩
theorem qwm {ct:Ctr} {x:DL ct.args} {rs:List SV} {blk:List (Nat × LB)} {a b c:Nat} {A B C:LB} (hab:a≠b) (hac:a≠c) (hbc:b≠c) (hA:isRow A=true) (hB:isRow B=true) (hC:isRow C=true) (hr:ct.rows x=[A,B,C])
  (hs:∀ π:Nat->Option Nat,π 0=some a->π 1=some b->π 2=some c->MtL π (ct.out x) rs) (ha:lk blk a=some A) (hb:lk blk b=some B) (hc:lk blk c=some C):QC ct x rs blk:=by
 refine ⟨fun i=>if i=0 then some a else if i=1 then some b else if i=2 then some c else none,hs _ rfl rfl rfl,?_,fun i j y h1 h2=>?_,by rw[hr];simp[hA,hB,hC]⟩
 ·rw[hr];exact ⟨.inl ⟨a,rfl,ha⟩,.inl ⟨b,rfl,hb⟩,.inl ⟨c,rfl,hc⟩,trivial⟩
 ·have key:∀ i y,(if i=0 then some a else if i=1 then some b else if i=2 then some c else none)=some y->(i=0/\y=a)\/(i=1/\y=b)\/(i=2/\y=c):=by
   intro i y h;by_cases h0:i=0
   ·rw[if_pos h0] at h;exact .inl ⟨h0,(Option.some.inj h).symm⟩
   ·rw[if_neg h0] at h;by_cases h1:i=1
    ·rw[if_pos h1] at h;exact .inr (.inl ⟨h1,(Option.some.inj h).symm⟩)
    ·rw[if_neg h1] at h;by_cases h2:i=2
     ·rw[if_pos h2] at h;exact .inr (.inr ⟨h2,(Option.some.inj h).symm⟩)
     ·rw[if_neg h2] at h;cases h
  rcases key i y h1 with ⟨p,q⟩ | ⟨p,q⟩ | ⟨p,q⟩ <;> rcases key j y h2 with ⟨r,s⟩ | ⟨r,s⟩ | ⟨r,s⟩ <;> first | omega | exact absurd (q.symm.trans s) ‹_› | exact absurd (s.symm.trans q) ‹_›
theorem q1f {tt:TT} {G:GV} {res:List ResultVar} {Q:List SV->List (Nat × LB)->Prop} {g:Nat × Bool} {S:PS} {rs:List SV} (h:rsOf tt G S res=some rs) (hq:Q rs S.blk):endK tt G res Q .ret g S:=by
 simp only[endK,h];exact hq
theorem q75 {l:List Int} {g:Nat × Bool} {w:List Int} {m:List Bool} (hw:w=(lfV l).1) (hm:m=(lfV l).2) :
  GoodE Tryd.prog G0 31 Tryd.f31.ntmps .fn Y0 (endK tt G0 Tryd.f31.results.toList (QC ctLw (l,()))) (rfK Tryd.f31 0) g ⟨[(2,.ptr 2 0),(3,.ptr 3 0)],[(2,.var [.nils,.nils,.nils]),(3,.var [.win true u4 1172032 0 w.length,.win true .bool 1172033 0 m.length,.win false iI 1172034 0 (tgV l).2.1]),(1172032,.row 53 u4 w),(1172033,.row 4 .bool m),(1172034,.row 3 iI (tgV l).2.2)]⟩:=by
 refine qo8 cxLw (q32 w m (tgV l).2.1 (tgV l).2.2 g.1 g.2 _ _) ?_;subst hw;subst hm;refine q1f (rs:=[.agg [.win true u4 1172032 0 (lfV l).1.length,.win true .bool 1172033 0 (lfV l).2.length,.win false iI 1172034 0 (tgV l).2.1]]) (by kernel_rfl) ?_;refine qwm (ct:=ctLw) (x:=(l,())) (a:=1172032) (b:=1172033) (c:=1172034) (by decide) (by decide) (by decide) (A:=.row 53 u4 (lfV l).1) (B:=.row 4 .bool (lfV l).2) (C:=.row 3 iI (tgV l).2.2) rfl rfl rfl rfl ?_ ?_ ?_ ?_
 ·intro π h0 h1 h2;exact qif (qw9 (qjh h0 (qjh h1 (qjh h2 qhi)))) qhi
 ·rfl
 ·rfl
 ·rfl
def bkFL (x:DI KLw):List (Nat × LB):=[(BIG,.var [.sl u4 x.1.1]),(BIG+1,.var [.win true u4 0 0 (List.length x.2.1.1),.win true .bool 1 0 (List.length x.2.1.2.1),.win false iI 2 x.2.1.2.2.1.1 x.2.1.2.2.1.2.1]),(0,.row 53 u4 x.2.1.1),(1,.row 4 .bool x.2.1.2.1),(2,.row 3 iI x.2.1.2.2.1.2.2)]
def x0L (l:List Int):DI KLw:=((l,()),((l,List.replicate l.length false,(0,(tgV l).2.1,(tgV l).2.2),()),()))
theorem q74 (l:List Int) (hp:qrh l) (hk:(tgV l).2.1<=(tgV l).2.2.length) (hk2:(tgV l).2.1<1073741824):sy tt G0 CLw Tryd.f31.ntmps Tryd.f31.results.toList (QC ctLw (l,())) (Px.Good Tryd.prog tt G0 31 Tryd.f31.ntmps Tryd.f31.results.toList (QC ctLw (l,()))) 1000 [.code (qah Tryd.f31)] (entry [.sl u4] (l,())):=by
 have hp0:=hp;obtain ⟨hp1,hp2⟩:=hp;have hlen:=hp1.2;rw[q63];refine ⟨(show qwy l by unfold qwy;omega),by omega,Int.le_refl _,by omega,by omega,hp0,trivial,?_⟩
 show GoodE Tryd.prog G0 31 Tryd.f31.ntmps .fn Y0 (endK tt G0 Tryd.f31.results.toList (QC ctLw (l,()))) (hd Tryd.f31 0) (0,false) _
 rw[hdLw];refine GoodE.rangeF (gf:=74) (ct:=ctIt) (Ko:=KLw) (xi:=((l,()),())) (x0:=x0L l) (ns1:=[some 1061440]) (ns2:=[some 1,some 3,some 1028672,some 10,some 1049152]) (tl:=[(1,.ptr 1 0),(3,.ptr 3 0)]) (bkF:=bkFL) (rF:=[(0,BIG+2),(1,BIG+3),(2,BIG+4)]) (d:=42) (m:=3)
  (by simp) ?_ qxz rfl rfl rfl ?_ hp1 ⟨rfl,rfl,trivial⟩ rfl ?_ (by decide) ⟨by decide,by decide,rfl⟩ rfl ?_ (by decide) ?_
 ·exact fun args w=>qc7 (fn:=Tryd.f74) rfl rfl rfl args w
 ·exact fun c hc=>by cases hc
 ·intro c hc;have hc:c∈[l.length=l.length,(l.length:Int).toNat=(List.replicate (l.length:Int).toNat Sh.bool.dflt).length]:=hc;rcases List.mem_cons.1 hc with rfl | hc
  ·rfl
  ·rcases List.mem_cons.1 hc with rfl | hc
   ·exact List.length_replicate.symm
   ·cases hc
 ·exact fun x hx=>⟨⟨rfl,rfl,rfl,rfl,rfl,trivial⟩,by simp[bkFL,rho,lk,BIG],fun p hp hb=>(by
   simp only[bkFL,List.mem_cons,List.not_mem_nil,or_false] at hp;rcases hp with rfl | rfl | rfl | rfl | rfl
   ·exact ⟨rfl,rfl⟩
   ·exact ⟨rfl,rfl⟩
   ·exact absurd hb (show ¬ BIG<=0 by decide)
   ·exact absurd hb (show ¬ BIG<=1 by decide)
   ·exact absurd hb (show ¬ BIG<=2 by decide)),by kernel_rfl⟩
 ·refine qpv hk hk2 _ l (List.replicate l.length false) rfl List.length_replicate (qxl l) ?_;exact (q75 (l:=l) rfl rfl).only ⟨by kernel_rfl,by kernel_rfl,trivial⟩ ⟨by kernel_rfl,by kernel_rfl,by kernel_rfl,by kernel_rfl,by kernel_rfl,trivial⟩
theorem qyl (lo:Nat):∀ (f m k:Nat) (l:List Int),(cpJ lo f m k l).1<=k+f/\(cpJ lo f m k l).2.length=l.length
 | 0,_,_,_=>⟨Nat.le_refl _,rfl⟩
 | f+1,m,k,l=>by
  rw[cpJ];split
  ·have:=qyl lo f (m+1) (k+1) (l.set k (gtI l (lo+m)));rw[List.length_set] at this;exact ⟨by omega,this.2⟩
  ·have:=qyl lo f (m+1) k l;exact ⟨by omega,this.2⟩
theorem q3e:∀ (f k:Nat) (l:List Int),k+f=l.length->(cpI f k l).2.1<=l.length/\(cpI f k l).2.2.length=l.length
 | 0,_,_,_=>⟨Nat.le_refl _,rfl⟩
 | f+1,k,l,h=>by
  rw[cpI];split
  ·have:=qyl k (l.length-k-1) 1 k l;refine ⟨?_,?_⟩
   ·show (cpJ k (l.length-k-1) 1 k l).1<=_
    omega
   ·show (setRow _ _ _).length=_
    unfold setRow;simp only[List.length_append,List.length_take,List.length_replicate,List.length_drop];omega
  ·exact q3e f (k+1) l (by omega)
theorem q6g (l:List Int):(cptV l).2.1<=l.length/\(cptV l).2.2.length=l.length:=by
 unfold cptV;by_cases h:l.length=0
 ·rw[h];exact ⟨by show l.length<=0;omega,h⟩
 ·exact q3e _ 1 l (by omega)
theorem qo7 (l:List Int):(tgV l).2.1<=(lnk l).length/\(tgV l).2.2.length=(lnk l).length:=by
 have h:=q6g (qec (tgO (lnk l)));rw[qhy,tgO,List.length_map] at h;exact h
theorem qxc:Held Tryd.prog G0 31 ctLw:=Held.run cxLw (fn:=Tryd.f31) rfl rfl ⟨by decide,by decide⟩ fun x hp=>q74 x.1 hp (by have:=qo7 x.1;omega) (by have:=qo7 x.1;have h2:(lnk x.1).length<=12:=hp.2;omega)
end Go.Proofs.YtplkpodikhfcdaaDoor
namespace Go.Proofs.YtplkpodikhfcdaaDoor
open Go.Px Go.Ax
open Go.IntKind(i64 u32 u8)
set_option maxRecDepth 100000
def CLo:CV:=[(55,.inl ct_clone),(61,.inl ct_lk)]
theorem cxLo:CxOK Tryd.prog tt G0 CLo:=(cx0.cons q5q (fn:=Tryd.f61) rfl rfl rfl).cons qnn (fn:=Tryd.f55) rfl rfl rfl
set_option maxRecDepth 100000
theorem qy9 (w:List Int) (m:List Bool) (l:List Int) (Q:QT) (R:RT):sy tt G0 CLo Tryd.f42.ntmps Tryd.f42.results.toList Q R 1000 [.code (qah Tryd.f42)] (entry [liS] ((w,m,l),())) =
  (bc (decide ((16384:Int)<(w.length:Int))) (true=true /\
 Q [.nils,.int .i64 30] [(1,.var [.sl u4 w,.sl Sh.bool m,.sl iI l])]) (bc (bif false then true else decide ((m.length:Int)≠(w.length:Int))) (Q [.nils,.int .i64 30] [(1,.var [.sl u4 w,.sl Sh.bool m,.sl iI l])]) (ct_clone.pre (w,()) /\
 R (hd Tryd.f42 0) { env:=[(0,.agg [.sl u4 w,.sl Sh.bool m,.sl iI l]),(1,.ptr 1 0),(2,.nils),(3,.int .i64 0),(4,.win true u4 1098304 0 w.length),(9,.ptr 1 0),(10,.sl u4 w),(11,.int .i64 (w.length:Int)),(12,.bool (decide ((16384:Int)<(w.length:Int)))),(13,.bool false),(14,.ptr 1 1),(15,.sl Sh.bool m),(16,.int .i64 (m.length:Int)),(17,.ptr 1 0),(18,.sl u4 w),(19,.int .i64 (w.length:Int)),(20,.bool (decide ((m.length:Int)≠(w.length:Int)))),(21,.bool (bif false then true else decide ((m.length:Int)≠(w.length:Int)))),(22,.ptr 1 0),(23,.sl u4 w),(24,.win true u4 1098304 0 w.length),(25,.ptr 1 1),(26,.sl Sh.bool m),(27,.int .i64 (m.length:Int)),(28,.int .i64 0)],blk:=[(1,.var [.sl u4 w,.sl Sh.bool m,.sl iI l]),(1098304,.row 53 u4 w)] }))):=by kernel_rfl
theorem qo2 (w o:List Int) (m:List Bool) (l:List Int) (i:Nat) (Q:QT) (R:RT):sy tt G0 CLo Tryd.f42.ntmps Tryd.f42.results.toList Q (fun it S=>R it (qbe [1,4,26,27,28] [1,1098304] S)) 1000 (hd Tryd.f42 0) ⟨[(1,.ptr 1 0),(4,.win true u4 1098304 0 o.length),(26,.sl .bool m),(27,.int .i64 m.length),(28,.int .i64 (i:Nat))],[(1,.var [.sl u4 w,.sl .bool m,.sl iI l]),(1098304,.row 53 u4 o)]⟩ =
  (bc (decide ((i:Int)<(m.length:Int))) ((0:Int)<=(i:Int) /\
 (i:Int)<(m.length:Int) /\
 bc (!gtM m (i:Int).toNat) (R (hd Tryd.f42 0) { env:=[(1,.ptr 1 0),(4,.win true u4 1098304 0 o.length),(26,.sl Sh.bool m),(27,.int .i64 (m.length:Int)),(28,.int .i64 (i64.wrap ((i:Int)+1)))],blk:=[(1,.var [.sl u4 w,.sl Sh.bool m,.sl iI l]),(1098304,.row 53 u4 o)] }) ((0:Int)<=(i:Int) /\
 (i:Int)<(o.length:Int) /\
 (0:Nat)+(i:Int).toNat<o.length /\
 ct_lk.pre (gtW o ((0:Nat)+(i:Int).toNat),i64.wrap ((4:Int)*(i:Int)),l,()) /\
 bc (decide ((lkV (gtW o ((0:Nat)+(i:Int).toNat)) (i64.wrap ((4:Int)*(i:Int))) l).2≠0)) (Q [.nils,.int .i64 (lkV (gtW o ((0:Nat)+(i:Int).toNat)) (i64.wrap ((4:Int)*(i:Int))) l).2] [(1,.var [.sl u4 w,.sl Sh.bool m,.sl iI l]),(1098304,.row 53 u4 o)]) ((0:Int)<=(i:Int) /\
 (i:Int)<(o.length:Int) /\
 (0:Nat)+(i:Int).toNat<o.length /\
 R (hd Tryd.f42 0) { env:=[(1,.ptr 1 0),(4,.win true u4 1098304 0 o.length),(26,.sl Sh.bool m),(27,.int .i64 (m.length:Int)),(28,.int .i64 (i64.wrap ((i:Int)+1)))],blk:=[(1,.var [.sl u4 w,.sl Sh.bool m,.sl iI l]),(1098304,.row 53 u4 (o.set ((0:Nat)+(i:Int).toNat) (lkV (gtW o ((0:Nat)+(i:Int).toNat)) (i64.wrap ((4:Int)*(i:Int))) l).1))] }))) (Q [.win true u4 1098304 0 o.length,.int .i64 0] [(1,.var [.sl u4 w,.sl Sh.bool m,.sl iI l]),(1098304,.row 53 u4 o)])):=by kernel_rfl
end Go.Proofs.YtplkpodikhfcdaaDoor
namespace Go.Proofs.YtplkpodikhfcdaaDoor
open Go.Px Go.Ax
set_option maxRecDepth 100000
attribute [local irreducible] Go.Px.sy Go.Px.syE
def loF (m:List Bool) (l:List Int):Nat->Nat->List Int->List Int × Int
 | 0,_,o=>(o,0)
 | f+1,i,o=>if gtM m i=true then (if (lkV (gtW o i) (4*i) l).2≠0 then ([],(lkV (gtW o i) (4*i) l).2) else loF m l f (i+1) (o.set i (lkV (gtW o i) (4*i) l).1)) else loF m l f (i+1) o
def loV (w:List Int) (m:List Bool) (l:List Int):List Int × Int:=if 16384<w.length\/m.length≠w.length then ([],30) else loF m l m.length 0 w
def qz5 (w l:List Int):Prop:=(∀ j,0<=gtW w j/\gtW w j<4294967296)/\q0u l
def ctLo:Ctr:=⟨[liS],fun x=>qz5 x.1.1 x.1.2.2,fun x=>[.win true u4 0 0 (List.length (loV x.1.1 x.1.2.1 x.1.2.2).1),.int .i64 (loV x.1.1 x.1.2.1 x.1.2.2).2],fun x=>[.row 53 u4 (loV x.1.1 x.1.2.1 x.1.2.2).1]⟩
theorem qxi {w:List Int} {m:List Bool} {l:List Int} {e:Int} {blk:List (Nat × LB)} (h:loV w m l=([],e)):QC ctLo ((w,m,l),()) [.nils,.int .i64 e] blk:=by
 refine QC.nil1 (e:=u4) (et:=53) ?_ ?_ (by decide)
 ·show [SV.win true u4 0 0 (List.length (loV w m l).1),SV.int .i64 (loV w m l).2]=_
  rw[h];rfl
 ·show [LB.row 53 u4 (loV w m l).1]=_
  rw[h]
abbrev loS (w o:List Int) (m:List Bool) (l:List Int) (i:Nat):PS:=⟨[(1,.ptr 1 0),(4,.win true u4 1098304 0 o.length),(26,.sl .bool m),(27,.int .i64 m.length),(28,.int .i64 (i:Nat))],[(1,.var [.sl u4 w,.sl .bool m,.sl iI l]),(1098304,.row 53 u4 o)]⟩
theorem q53 {o:List Int} {i j:Nat} {v:Int} (h:i<j):gtW (o.set i v) j=gtW o j:=by
 show ((o.set i v)[j]?).getD _=(o[j]?).getD _
 rw[List.getElem?_set_ne (by omega)]
theorem q5k {w:List Int} {m:List Bool} {l:List Int} (hp:qz5 w l) (hm:m.length<=16384):∀ (f i:Nat) (o:List Int),m.length-i=f->i<=m.length->o.length=m.length->(∀ j,i<=j->gtW o j=gtW w j)->loF m l f i o=loV w m l ->
  GD 42 Tryd.f42 (QC ctLo ((w,m,l),())) (hd Tryd.f42 0) (loS w o m l i):=by
 intro f
 induction f with
 | zero=>
  intro i o hf hi ho hj hv;refine qap cxLo (qo2 w o m l i _ _) ?_;rw[decide_eq_false (by omega),bc_f];have h1:(loV w m l).1=o:=by rw[<- hv];rfl
  have h2:(loV w m l).2=0:=by rw[<- hv];rfl
  refine qn5 (e:=u4) (et:=53) (a:=1098304) (xs:=o) (z:=0) ?_ ?_ rfl rfl rfl
  ·show [SV.win true u4 0 0 (List.length (loV w m l).1),SV.int .i64 (loV w m l).2]=_
   rw[h1,h2]
  ·show [LB.row 53 u4 (loV w m l).1]=_
   rw[h1]
 | succ f ih=>
  intro i o hf hi ho hj hv;refine qap cxLo (qo2 w o m l i _ _) ?_;have w1:IntKind.i64.wrap ((i:Int)+1)=((i+1:Nat):Int):=by rw[IntWalk.i64_in _ (by omega)];omega
  have w2:IntKind.i64.wrap (4*(i:Int))=4*i:=IntWalk.i64_in _ (by omega);rw[decide_eq_true (by omega),bc_t,w1,w2,Int.toNat_natCast,Nat.zero_add];rw[loF] at hv;refine ⟨by omega,by omega,qav (fun h=>?_) (fun h=>?_)⟩
  ·have h:¬ gtM m i=true:=by simpa using h
   rw[if_neg h] at hv;exact ih (i+1) o (by omega) (by omega) ho (fun j hj'=>hj j (by omega)) hv
  ·have h:gtM m i=true:=by simpa using h
   rw[if_pos h] at hv;have hw:=hp.1 i;rw[<- hj i (Nat.le_refl _)] at hw;refine ⟨by omega,by omega,by omega,(show q7w (gtW o i) (4*i) l from ⟨⟨hw,by omega,by omega⟩,hp.2⟩),qav (fun h2=>?_) (fun h2=>⟨by omega,by omega,by omega,?_⟩)⟩
   ·have h2:(lkV (gtW o i) (4*i) l).2≠0:=of_decide_eq_true h2;rw[if_pos h2] at hv;exact qxi hv.symm
   ·have h2:¬ (lkV (gtW o i) (4*i) l).2≠0:=of_decide_eq_false h2;rw[if_neg h2] at hv;have nx:=ih (i+1) (o.set i (lkV (gtW o i) (4*i) l).1) (by omega) (by omega) (by rw[List.length_set];exact ho) (fun j hj'=>by rw[q53 (by omega)];exact hj j (by omega)) hv;exact nx.only ⟨rfl,(show some (SV.win true u4 1098304 0 o.length)=some (SV.win true u4 1098304 0 (o.set i (lkV (gtW o i) (4*i) l).1).length) by rw[List.length_set]),rfl,rfl,rfl,trivial⟩ ⟨rfl,rfl,trivial⟩
theorem q77 (w:List Int) (m:List Bool) (l:List Int) (hp:qz5 w l):sy tt G0 CLo Tryd.f42.ntmps Tryd.f42.results.toList (QC ctLo ((w,m,l),())) (Px.Good Tryd.prog tt G0 42 Tryd.f42.ntmps Tryd.f42.results.toList (QC ctLo ((w,m,l),()))) 1000 [.code (qah Tryd.f42)] (entry [liS] ((w,m,l),())):=by
 rw[qy9];refine qav (fun h=>⟨rfl,?_⟩) (fun h=>qav (fun h2=>?_) (fun h2=>?_))
 ·have h:(16384:Int)<(w.length:Int):=of_decide_eq_true h;exact qxi (if_pos (.inl (by omega)))
 ·have h2:(m.length:Int)≠(w.length:Int):=by simpa using h2
  exact qxi (if_pos (.inr (by omega)))
 ·have h:¬ (16384:Int)<(w.length:Int):=of_decide_eq_false h;have h2:(m.length:Int)=(w.length:Int):=by simpa using h2
  refine ⟨(show qwy w by unfold qwy;omega),?_⟩;have e:loV w m l=loF m l m.length 0 w:=if_neg (by omega);exact (q5k hp (by omega) m.length 0 w (by omega) (Nat.zero_le _) (by omega) (fun _ _=>rfl) e.symm).only ⟨rfl,rfl,rfl,rfl,rfl,trivial⟩ ⟨rfl,rfl,trivial⟩
theorem q5l:Held Tryd.prog G0 42 ctLo:=Held.run cxLo (fn:=Tryd.f42) rfl rfl ⟨by decide,by decide⟩ fun x hp=>q77 x.1.1 x.1.2.1 x.1.2.2 hp
end Go.Proofs.YtplkpodikhfcdaaDoor
namespace Go.Proofs.YtplkpodikhfcdaaDoor
open Go.Px Go.Ax
set_option maxRecDepth 100000
def CLf:CV:=[(31,.inl ctLw),(24,.inl ctWo)]
theorem cxLf:CxOK Tryd.prog tt G0 CLf:=(cx0.cons qi7 (fn:=Tryd.f24) rfl rfl rfl).cons qxc (fn:=Tryd.f31) rfl rfl rfl
set_option maxRecDepth 100000
theorem q30 (b:List Int) (Q:QT) (R:RT):sy tt G0 CLf Tryd.f13.ntmps Tryd.f13.results.toList Q R 1000 [.code (qah Tryd.f13)] (entry [.sl uB] (b,())) =
  (bc (decide ((65536:Int)<(b.length:Int))) (Q [.agg [.nils,.nils,.nils],.int .i64 30] [(2,.var [.nils,.nils,.nils])]) (ctWo.pre (b,()) /\
 bc (decide ((qae b).2≠0)) (Q [.agg [.nils,.nils,.nils],.int .i64 30] [(2,.var [.nils,.nils,.nils]),(1049152,.row 53 u4 (qae b).1)]) ((0:Nat)+(qae b).1.length<=(qae b).1.length /\
 ctLw.pre (winL u4 0 (qae b).1.length (qae b).1,()) /\
 Q [.agg [.win false u4 1077824 0 (lfV (winL u4 0 (qae b).1.length (qae b).1)).1.length,.win false Sh.bool (1077825:Nat) (0:Nat) (lfV (winL u4 0 (qae b).1.length (qae b).1)).2.length,.win false iI 1077826 0 (tgV (winL u4 0 (qae b).1.length (qae b).1)).2.1],.int .i64 0] [(2,.var [.win false u4 1077824 0 (lfV (winL u4 0 (qae b).1.length (qae b).1)).1.length,.win false Sh.bool (1077825:Nat) (0:Nat) (lfV (winL u4 0 (qae b).1.length (qae b).1)).2.length,.win false iI 1077826 0 (tgV (winL u4 0 (qae b).1.length (qae b).1)).2.1]),(1049152,.row 53 u4 (qae b).1),(1077824,.row 53 u4 (lfV (winL u4 0 (qae b).1.length (qae b).1)).1),(1077825,.row 4 Sh.bool (lfV (winL u4 0 (qae b).1.length (qae b).1)).2),(1077826,.row 3 iI (tgV (winL u4 0 (qae b).1.length (qae b).1)).2.2)]))):=by kernel_rfl
end Go.Proofs.YtplkpodikhfcdaaDoor
namespace Go.Proofs.YtplkpodikhfcdaaDoor
open Go.Px Go.Ax
set_option maxRecDepth 100000
attribute [local irreducible] Go.Px.sy Go.Px.syE
theorem qes (l:List Int):winL u4 0 l.length l=l:=by show (l.drop 0).take l.length=l;rw[List.drop_zero,List.take_length]
structure LfT where
 w:List Int
 m:List Bool
 k:Nat
 t:List Int
 e:Int
def qai (b:List Int):LfT:=
 if 65536<b.length\/(qae b).2≠0 then ⟨[],[],0,[],30⟩ else ⟨(lfV (qae b).1).1,(lfV (qae b).1).2,(tgV (qae b).1).2.1,(tgV (qae b).1).2.2,0⟩
def qhc (b:List Int):Prop:=b.length<=65536->qwr b/\((qae b).2=0->qrh (qae b).1)
def q42 (x:LfT):List SV:=[.agg [.win false u4 0 0 x.w.length,.win false .bool 1 0 x.m.length,.win false iI 2 0 x.k],.int .i64 x.e]
def q4i (x:LfT):List LB:=[.row 53 u4 x.w,.row 4 .bool x.m,.row 3 iI x.t]
def ctLift:Ctr:=⟨[.sl uB],fun x=>qhc x.1,fun x=>q42 (qai x.1),fun x=>q4i (qai x.1)⟩
theorem qog {π:Nat->Option Nat} {e:Sh} {i:Nat} {b:Bool} {l r:List SV} (h:π i=none) (hl:MtL π l r):MtL π (.win b e i 0 0::l) (.nils::r):=⟨_,_,rfl,.inr ⟨rfl,h,rfl,rfl⟩,hl⟩
theorem qth {b:List Int} {blk:List (Nat × LB)} (h:qai b=⟨[],[],0,[],30⟩):QC ctLift (b,()) [.agg [.nils,.nils,.nils],.int .i64 30] blk:=by
 refine ⟨fun _=>none,?_,?_,fun i j b h1 h2=>(by cases h1),rfl⟩
 ·show MtL _ (q42 (qai b)) _
  rw[h];exact qif (qw9 (qog rfl (qog rfl (qog rfl qhi)))) (qe4 _ _ rfl)
 ·show MtR _ _ 0 (q4i (qai b))
  rw[h];exact ⟨.inr ⟨rfl,_,_,rfl,by decide⟩,.inr ⟨rfl,_,_,rfl,by decide⟩,.inr ⟨rfl,_,_,rfl,by decide⟩,trivial⟩
theorem q0r (b:List Int) (hp:qhc b) (R:List Item->PS->Prop):sy tt G0 CLf Tryd.f13.ntmps Tryd.f13.results.toList (QC ctLift (b,())) R 1000 [.code (qah Tryd.f13)] (entry [.sl uB] (b,())):=by
 refine (q30 b _ _).mpr ?_;rw[qes];refine qav (fun h=>qth (if_pos (.inl (by have h:(65536:Int)<(b.length:Int):=of_decide_eq_true h;omega)))) (fun h=>?_);have h:¬ (65536:Int)<(b.length:Int):=of_decide_eq_false h;obtain ⟨p1,p2⟩:=hp (by omega);refine ⟨p1,qav (fun h2=>qth (if_pos (.inr (of_decide_eq_true h2)))) (fun h2=>?_)⟩;have h2:¬ (qae b).2≠0:=of_decide_eq_false h2;have e:qai b=⟨(lfV (qae b).1).1,(lfV (qae b).1).2,(tgV (qae b).1).2.1,(tgV (qae b).1).2.2,0⟩:=if_neg (by rintro (q | q);omega;exact h2 q);refine ⟨by omega,p2 (Decidable.not_not.1 h2),?_⟩;refine qwm (ct:=ctLift) (x:=(b,())) (a:=1077824) (b:=1077825) (c:=1077826) (by decide) (by decide) (by decide) (A:=.row 53 u4 (lfV (qae b).1).1) (B:=.row 4 .bool (lfV (qae b).1).2) (C:=.row 3 iI (tgV (qae b).1).2.2) rfl rfl rfl ?_ ?_ ?_ ?_ ?_
 ·show q4i (qai b)=_
  rw[e];rfl
 ·intro π h0 h1 h2
  show MtL π (q42 (qai b)) _
  rw[e];exact qif (qw9 (qjh h0 (qjh h1 (qjh h2 qhi)))) (qe4 _ _ rfl)
 ·rfl
 ·rfl
 ·rfl
theorem qp2:Held Tryd.prog G0 13 ctLift:=Held.run cxLf (fn:=Tryd.f13) rfl rfl ⟨by decide,by decide⟩ fun x hp=>q0r x.1 hp _
end Go.Proofs.YtplkpodikhfcdaaDoor
namespace Go.Proofs.YtplkpodikhfcdaaDoor
open Go.Px Go.Ax
set_option maxRecDepth 100000
def CLr:CV:=[(42,.inl ctLo),(31,.inl ctLw),(43,.inl ct_same),(44,.inl ctBy)]
theorem cxLr:CxOK Tryd.prog tt G0 CLr:=(((cx0.cons qno (fn:=Tryd.f44) rfl rfl rfl).cons qwb (fn:=Tryd.f43) rfl rfl rfl).cons qxc (fn:=Tryd.f31) rfl rfl rfl).cons q5l (fn:=Tryd.f42) rfl rfl rfl
set_option maxRecDepth 100000
theorem qzg (w:List Int) (m:List Bool) (l:List Int) (Q:QT) (R:RT):sy tt G0 CLr Tryd.f17.ntmps Tryd.f17.results.toList Q R 1000 [.code (qah Tryd.f17)] (entry [liS] ((w,m,l),())) =
  (ctLo.pre ((w,m,l),()) /\
 bc (decide ((loV w m l).2≠0)) (true=true /\
 Q [.nils,.int .i64 30] [(1,.var [.sl u4 w,.sl Sh.bool m,.sl iI l]),(1032768,.row 53 u4 (loV w m l).1)]) ((0:Nat)+(loV w m l).1.length<=(loV w m l).1.length /\
 ctLw.pre (winL u4 0 (loV w m l).1.length (loV w m l).1,()) /\
 (0:Nat)+(lfV (winL u4 0 (loV w m l).1.length (loV w m l).1)).1.length<=(lfV (winL u4 0 (loV w m l).1.length (loV w m l).1)).1.length /\
 (0:Nat)+(lfV (winL u4 0 (loV w m l).1.length (loV w m l).1)).2.length<=(lfV (winL u4 0 (loV w m l).1.length (loV w m l).1)).2.length /\
 (0:Nat)+(tgV (winL u4 0 (loV w m l).1.length (loV w m l).1)).2.1<=(tgV (winL u4 0 (loV w m l).1.length (loV w m l).1)).2.2.length /\
 ct_same.pre ((winL u4 0 (lfV (winL u4 0 (loV w m l).1.length (loV w m l).1)).1.length (lfV (winL u4 0 (loV w m l).1.length (loV w m l).1)).1,winL Sh.bool (0:Nat) (lfV (winL u4 0 (loV w m l).1.length (loV w m l).1)).2.length (lfV (winL u4 0 (loV w m l).1.length (loV w m l).1)).2,winL iI 0 (tgV (winL u4 0 (loV w m l).1.length (loV w m l).1)).2.1 (tgV (winL u4 0 (loV w m l).1.length (loV w m l).1)).2.2),(w,m,l),()) /\
 bc (bif false then true else !decide ((have this:=(winL u4 0 (lfV (winL u4 0 (loV w m l).1.length (loV w m l).1)).1.length (lfV (winL u4 0 (loV w m l).1.length (loV w m l).1)).1,winL Sh.bool (0:Nat) (lfV (winL u4 0 (loV w m l).1.length (loV w m l).1)).2.length (lfV (winL u4 0 (loV w m l).1.length (loV w m l).1)).2,winL iI 0 (tgV (winL u4 0 (loV w m l).1.length (loV w m l).1)).2.1 (tgV (winL u4 0 (loV w m l).1.length (loV w m l).1)).2.2);this)=(w,m,l))) (Q [.nils,.int .i64 30] [(1,.var [.sl u4 w,.sl Sh.bool m,.sl iI l]),(1032768,.row 53 u4 (loV w m l).1),(1061440,.row 53 u4 (lfV (winL u4 0 (loV w m l).1.length (loV w m l).1)).1),(1061441,.row 4 Sh.bool (lfV (winL u4 0 (loV w m l).1.length (loV w m l).1)).2),(1061442,.row 3 iI (tgV (winL u4 0 (loV w m l).1.length (loV w m l).1)).2.2)]) ((0:Nat)+(loV w m l).1.length<=(loV w m l).1.length /\
 ctBy.pre (winL u4 0 (loV w m l).1.length (loV w m l).1,()) /\
 Q [.win true uB 1086016 0 (qat (winL u4 0 (loV w m l).1.length (loV w m l).1)).length,.int .i64 0] [(1,.var [.sl u4 w,.sl Sh.bool m,.sl iI l]),(1032768,.row 53 u4 (loV w m l).1),(1061440,.row 53 u4 (lfV (winL u4 0 (loV w m l).1.length (loV w m l).1)).1),(1061441,.row 4 Sh.bool (lfV (winL u4 0 (loV w m l).1.length (loV w m l).1)).2),(1061442,.row 3 iI (tgV (winL u4 0 (loV w m l).1.length (loV w m l).1)).2.2),(1086016,.row 5 uB (qat (winL u4 0 (loV w m l).1.length (loV w m l).1)))]))):=by kernel_rfl
end Go.Proofs.YtplkpodikhfcdaaDoor
namespace Go.Proofs.YtplkpodikhfcdaaDoor
open Go.Px Go.Ax
set_option maxRecDepth 100000
attribute [local irreducible] Go.Px.sy Go.Px.syE
theorem qhq (l:List Bool):winL Sh.bool 0 l.length l=l:=by show (l.drop 0).take l.length=l;rw[List.drop_zero,List.take_length]
def qmq (l:List Int):LiT:=((lfV l).1,(lfV l).2,qbl l)
theorem qxt (l lab:List Int):∀ (rs:List (Nat × InT)) (w:List Int) (m:List Bool),(lfF l lab rs w m).1.length=w.length/\(lfF l lab rs w m).2.length=m.length
 | [],_,_=>⟨rfl,rfl⟩
 | r::rs,w,m=>by
  have:=qxt l lab rs (w.set r.1 (lfW l lab r.1 r.2)) (m.set r.1 true);rw[List.length_set,List.length_set] at this;exact this
theorem qxq (l:List Int):(lfV l).1.length=l.length/\(lfV l).2.length=l.length:=by
 have:=qxt l (qbl l) (lnk l) l (List.replicate l.length false);rw[List.length_replicate] at this;exact this
theorem qxw (l:List Int):(qbl l).length<=(lnk l).length:=by
 show (((tgV l).2.2.drop 0).take (tgV l).2.1).length<=_
 rw[List.length_take];have:=qo7 l;omega
def qa2 (w:List Int) (m:List Bool) (l:List Int):List Int × Int:=
 if (loV w m l).2≠0\/qmq (loV w m l).1≠(w,m,l) then ([],30) else (qat (loV w m l).1,0)
def qe0 (w:List Int) (m:List Bool) (l:List Int):Prop:=qz5 w l/\((loV w m l).2=0->qrh (loV w m l).1)
def ctLower:Ctr:=⟨[liS],fun x=>qe0 x.1.1 x.1.2.1 x.1.2.2,fun x=>[.win true uB 0 0 (List.length (qa2 x.1.1 x.1.2.1 x.1.2.2).1),.int .i64 (qa2 x.1.1 x.1.2.1 x.1.2.2).2],fun x=>[.row 5 uB (qa2 x.1.1 x.1.2.1 x.1.2.2).1]⟩
theorem qpw {w:List Int} {m:List Bool} {l:List Int} {blk:List (Nat × LB)} (h:qa2 w m l=([],30)):QC ctLower ((w,m,l),()) [.nils,.int .i64 30] blk:=by
 refine QC.nil1 (e:=uB) (et:=5) ?_ ?_ (by decide)
 ·show [SV.win true uB 0 0 (List.length (qa2 w m l).1),SV.int .i64 (qa2 w m l).2]=_
  rw[h];rfl
 ·show [LB.row 5 uB (qa2 w m l).1]=_
  rw[h]
theorem qxe (w:List Int) (m:List Bool) (l:List Int) (hp:qe0 w m l) (R:List Item->PS->Prop):sy tt G0 CLr Tryd.f17.ntmps Tryd.f17.results.toList (QC ctLower ((w,m,l),())) R 1000 [.code (qah Tryd.f17)] (entry [liS] ((w,m,l),())):=by
 obtain ⟨p1,p2⟩:=hp;refine (qzg w m l _ _).mpr ?_;rw[qes,qes,qhq];refine ⟨p1,qav (fun h=>⟨rfl,qpw (if_pos (.inl (of_decide_eq_true h)))⟩) (fun h=>?_)⟩;have h:(loV w m l).2=0:=Decidable.not_not.1 (of_decide_eq_false h);have hq:=p2 h;have hn:=hq.1.2;have l1:=qxq (loV w m l).1;have l2:=qxw (loV w m l).1;have l3:=qo7 (loV w m l).1;have l4:=hq.2;have l5:(qbl (loV w m l).1).length<1099511627776:=by omega
 have l6:(lfV (loV w m l).1).1.length<1099511627776:=by omega
 have l7:(lfV (loV w m l).1).2.length<1099511627776:=by omega
 refine ⟨by omega,hq,by omega,by omega,by omega,(show qwt (qmq (loV w m l).1) from ⟨l6,l7,l5⟩),?_⟩
 show bc (bif false then true else !decide (qmq (loV w m l).1=(w,m,l))) _ _
 refine qav (fun h2=>?_) (fun h2=>?_)
 ·have h2:¬ qmq (loV w m l).1=(w,m,l):=by
   intro q;rw[decide_eq_true q] at h2;cases h2
  exact qpw (if_pos (.inr h2))
 ·have h2:qmq (loV w m l).1=(w,m,l):=by
   by_cases q:qmq (loV w m l).1=(w,m,l)
   ·exact q
   ·rw[decide_eq_false q] at h2;cases h2
  refine ⟨by omega,(show (loV w m l).1.length<4194304 by omega),?_⟩;have e:qa2 w m l=(qat (loV w m l).1,0):=if_neg (by rintro (q | q);exact q h;exact q h2);refine qn5 (e:=uB) (et:=5) (a:=1086016) (xs:=qat (loV w m l).1) (z:=0) ?_ ?_ rfl rfl rfl
  ·show [SV.win true uB 0 0 (List.length (qa2 w m l).1),SV.int .i64 (qa2 w m l).2]=_
   rw[e]
  ·show [LB.row 5 uB (qa2 w m l).1]=_
   rw[e]
theorem qjm:Held Tryd.prog G0 17 ctLower:=Held.run cxLr (fn:=Tryd.f17) rfl rfl ⟨by decide,by decide⟩ fun x hp=>qxe x.1.1 x.1.2.1 x.1.2.2 hp _
end Go.Proofs.YtplkpodikhfcdaaDoor
namespace Go.Proofs.YtplkpodikhfcdaaDoor
open Go.Px Go.Ax
set_option maxRecDepth 100000
attribute [local irreducible] Go.Px.sy Go.Px.syE
def ct_mvw:Ctr:=⟨[.sl iI,iI,iI],fun x=>q4t x.1,fun x=>[.win true iI 0 0 (List.map (mvF x.2.1 x.2.2.1) x.1).length],fun x=>[.row 3 iI (List.map (mvF x.2.1 x.2.2.1) x.1)]⟩
section
variable (l:List Int) (f b:Int)
theorem q0f (hl:l.length<16777216):∀ (k i:Nat),l.length-i=k->i<=l.length ->
  GD 41 Tryd.f41 (QC ct_mvw (l,f,b,())) (hd Tryd.f41 0) ⟨[(1,.int .i64 f),(2,.int .i64 b),(7,.win true iI 7 0 ((l.take i).map (mvF f b)).length),(10,.sl iI l),(11,.int .i64 l.length),(12,.int .i64 (i:Nat))],[(7,.row 3 iI ((l.take i).map (mvF f b)))]⟩:=by
 intro k
 induction k with
 | zero=>
  intro i hk hi;have hi:i=l.length:=by omega
  subst hi;rw[List.take_length];refine qap cx0 (qvn l (l.map (mvF f b)) f b l.length _ _) ?_;rw[decide_eq_false (by omega),bc_f];exact qgy (e:=iI) (et:=3) (a:=7) (xs:=l.map (mvF f b)) rfl rfl rfl rfl rfl
 | succ k ih=>
  intro i hk hi;have hil:i<l.length:=by omega
  have nx:=ih (i+1) (by omega) (by omega);rw[List.take_succ_eq_append_getElem hil,List.map_append] at nx;have hlen:((l.take i).map (mvF f b)).length=i:=by rw[List.length_map,List.length_take];omega
  refine qap cx0 (qvn l ((l.take i).map (mvF f b)) f b i _ _) ?_;rw[decide_eq_true (show (i:Int)<(l.length:Int) by omega),bc_t,Int.toNat_natCast,qel hil,IntWalk.i64_in ((i:Int)+1) (by omega)];have h30:((l.take i).map (mvF f b)).length+1<2 ^ 30:=by omega
  refine ⟨by omega,by omega,qav (fun h=>?_) (fun h=>?_)⟩
  ·have e:mvF f b l[i]=IntKind.i64.wrap (l[i]+b):=if_pos (of_decide_eq_true h);simp only[List.map_cons,List.map_nil,e] at nx;exact ⟨Nat.le_refl 1,rfl,rfl,h30,by decide,nx.onlyR [(7,25)] rfl ⟨rfl,rfl,by rw[List.length_append];rfl,rfl,rfl,rfl,trivial⟩ ⟨rfl,trivial⟩⟩
  ·have e:mvF f b l[i]=l[i]:=if_neg (of_decide_eq_false h);simp only[List.map_cons,List.map_nil,e] at nx;exact ⟨Nat.le_refl 1,rfl,rfl,h30,by decide,nx.onlyR [(7,25)] rfl ⟨rfl,rfl,by rw[List.length_append];rfl,rfl,rfl,rfl,trivial⟩ ⟨rfl,trivial⟩⟩
theorem q0g (hl:l.length<16777216):GD 41 Tryd.f41 (QC ct_mvw (l,f,b,())) (hd Tryd.f41 0) ⟨[(1,.int .i64 f),(2,.int .i64 b),(7,.nils),(10,.sl iI l),(11,.int .i64 l.length),(12,.int .i64 0)],[]⟩:=by
 refine qap cx0 (q3w l f b 0 _ _) ?_;refine qav (fun h=>?_) (fun h=>?_)
 ·have h:0<l.length:=by have:=of_decide_eq_true h;omega
  have nx:=q0f l f b hl _ 1 rfl (by omega);have e1:l.take 1=[l[0]]:=by
   rw[List.take_succ_eq_append_getElem h];rfl
  rw[e1] at nx;rw[Int.toNat_natCast,qel h,IntWalk.i64_in (((0:Nat):Int)+1) (by omega)];refine ⟨by omega,by omega,qav (fun h=>?_) (fun h=>?_)⟩
  ·have e:mvF f b l[0]=IntKind.i64.wrap (l[0]+b):=if_pos (of_decide_eq_true h);simp only[List.map_cons,List.map_nil,e] at nx;exact ⟨Nat.le_refl 1,(show 1<2 ^ 30 by decide),by decide,nx.onlyR [(7,25)] rfl ⟨rfl,rfl,rfl,rfl,rfl,rfl,trivial⟩ ⟨rfl,trivial⟩⟩
  ·have e:mvF f b l[0]=l[0]:=if_neg (of_decide_eq_false h);simp only[List.map_cons,List.map_nil,e] at nx;exact ⟨Nat.le_refl 1,(show 1<2 ^ 30 by decide),by decide,nx.onlyR [(7,25)] rfl ⟨rfl,rfl,rfl,rfl,rfl,rfl,trivial⟩ ⟨rfl,trivial⟩⟩
 ·have h:=of_decide_eq_false h;have e:l=[]:=List.eq_nil_of_length_eq_zero (by omega);subst e;exact q2o (e:=iI) (et:=3) rfl rfl rfl (by decide)
end
theorem q0h:Held Tryd.prog G0 41 ct_mvw:=
 Held.of cx0 (fn:=Tryd.f41) rfl rfl ⟨by decide,by decide⟩ fun ⟨l,f,b,_⟩ hp=>
  qap cx0 (q6y l f b _ _) ((q0g l f b hp).only ⟨rfl,rfl,rfl,rfl,rfl,rfl,trivial⟩ trivial)
end Go.Proofs.YtplkpodikhfcdaaDoor
namespace Go.Proofs.YtplkpodikhfcdaaDoor
open Go.Px Go.Ax
open Go.IntKind(i64 u32 u8)
set_option maxRecDepth 100000
def CMo:CV:=[(13,.inl ctLift),(39,.inl ct_putW),(40,.inl ct_putM),(41,.inl ct_mvw),(17,.inl ctLower)]
theorem cxMo:CxOK Tryd.prog tt G0 CMo:=((((cx0.cons qjm (fn:=Tryd.f17) rfl rfl rfl).cons q0h (fn:=Tryd.f41) rfl rfl rfl).cons qwo (fn:=Tryd.f40) rfl rfl rfl).cons qwn (fn:=Tryd.f39) rfl rfl rfl).cons qp2 (fn:=Tryd.f13) rfl rfl rfl
set_option maxRecDepth 100000
def qc9 (b:List Int):List (Nat × LB):=[(8,.var [.win false u4 1049152 0 (qai b).w.length,.win false Sh.bool (1049153:Nat) (0:Nat) (qai b).m.length,.win false iI 1049154 0 (qai b).k]),(1049152,.row 53 u4 (qai b).w),(1049153,.row 4 Sh.bool (qai b).m),(1049154,.row 3 iI (qai b).t)]
theorem qzf (b:List Int) (a n:Int) (Q:QT) (R:RT):sy tt G0 CMo Tryd.f15.ntmps Tryd.f15.results.toList Q R 1000 [.code (qah Tryd.f15)] (entry [.sl uB,iI,iI] (b,a,n,())) =
  (ctLift.pre (b,()) /\
 bc (decide ((qai b).e≠0)) (true=true /\
 true=true /\
 true=true /\
 true=true /\
 Q [.nils,.int .i64 30] (qc9 b)) (bc (bif false then true else decide (a<0)) (true=true /\
 true=true /\
 true=true /\
 Q [.nils,.int .i64 30] (qc9 b)) (bc (bif false then true else decide ((↑(qai b).w.length:Int)<a)) (true=true /\
 true=true /\
 Q [.nils,.int .i64 30] (qc9 b)) (bc (bif false then true else decide (n<0)) (true=true /\
 Q [.nils,.int .i64 30] (qc9 b)) (bc (bif false then true else decide (i64.wrap ((16384:Int)-(↑(qai b).w.length:Int))<n)) (Q [.nils,.int .i64 30] (qc9 b)) ((0:Nat)+(qai b).w.length<=(qai b).w.length /\
 ct_putW.pre (winL u4 0 (qai b).w.length (qai b).w,a,n,()) /\
 (0:Nat)+(qai b).m.length<=(qai b).m.length /\
 ct_putM.pre (winL Sh.bool (0:Nat) (qai b).m.length (qai b).m,a,n,()) /\
 (0:Nat)+(qai b).k<=(qai b).t.length /\
 ct_mvw.pre (winL iI 0 (qai b).k (qai b).t,i64.wrap ((4:Int)*a),i64.wrap ((4:Int)*n),()) /\
 (0:Nat)+(putF (have this:=winL u4 0 (qai b).w.length (qai b).w;this) a.toNat n.toNat (0:Int)).length<=(putF (have this:=winL u4 0 (qai b).w.length (qai b).w;this) a.toNat n.toNat (0:u4.D)).length /\
 (0:Nat)+(putF (have this:=winL Sh.bool (0:Nat) (qai b).m.length (qai b).m;this) a.toNat n.toNat false).length<=(putF (have this:=winL Sh.bool (0:Nat) (qai b).m.length (qai b).m;this) a.toNat n.toNat false).length /\
 (0:Nat)+(List.map (mvF (i64.wrap ((4:Int)*a)) (i64.wrap ((4:Int)*n))) (winL iI 0 (qai b).k (qai b).t)).length<=(List.map (mvF (i64.wrap ((4:Int)*a)) (i64.wrap ((4:Int)*n))) (winL iI 0 (qai b).k (qai b).t)).length /\
 ctLower.pre ((winL u4 0 (putF (have this:=winL u4 0 (qai b).w.length (qai b).w;this) a.toNat n.toNat (0:Int)).length (putF (have this:=winL u4 0 (qai b).w.length (qai b).w;this) a.toNat n.toNat (0:u4.D)),winL Sh.bool (0:Nat) (putF (have this:=winL Sh.bool (0:Nat) (qai b).m.length (qai b).m;this) a.toNat n.toNat false).length (putF (have this:=winL Sh.bool (0:Nat) (qai b).m.length (qai b).m;this) a.toNat n.toNat false),winL iI 0 (List.map (mvF (i64.wrap ((4:Int)*a)) (i64.wrap ((4:Int)*n))) (winL iI 0 (qai b).k (qai b).t)).length (List.map (mvF (i64.wrap ((4:Int)*a)) (i64.wrap ((4:Int)*n))) (winL iI 0 (qai b).k (qai b).t))),()) /\
 Q [.win true uB 1237568 0 (qa2 (winL u4 0 (putF (have this:=winL u4 0 (qai b).w.length (qai b).w;this) a.toNat n.toNat (0:Int)).length (putF (have this:=winL u4 0 (qai b).w.length (qai b).w;this) a.toNat n.toNat (0:u4.D))) (winL Sh.bool (0:Nat) (putF (have this:=winL Sh.bool (0:Nat) (qai b).m.length (qai b).m;this) a.toNat n.toNat false).length (putF (have this:=winL Sh.bool (0:Nat) (qai b).m.length (qai b).m;this) a.toNat n.toNat false)) (winL iI 0 (List.map (mvF (i64.wrap ((4:Int)*a)) (i64.wrap ((4:Int)*n))) (winL iI 0 (qai b).k (qai b).t)).length (List.map (mvF (i64.wrap ((4:Int)*a)) (i64.wrap ((4:Int)*n))) (winL iI 0 (qai b).k (qai b).t)))).1.length,.int .i64 (qa2 (winL u4 0 (putF (have this:=winL u4 0 (qai b).w.length (qai b).w;this) a.toNat n.toNat (0:Int)).length (putF (have this:=winL u4 0 (qai b).w.length (qai b).w;this) a.toNat n.toNat (0:u4.D))) (winL Sh.bool (0:Nat) (putF (have this:=winL Sh.bool (0:Nat) (qai b).m.length (qai b).m;this) a.toNat n.toNat false).length (putF (have this:=winL Sh.bool (0:Nat) (qai b).m.length (qai b).m;this) a.toNat n.toNat false)) (winL iI 0 (List.map (mvF (i64.wrap ((4:Int)*a)) (i64.wrap ((4:Int)*n))) (winL iI 0 (qai b).k (qai b).t)).length (List.map (mvF (i64.wrap ((4:Int)*a)) (i64.wrap ((4:Int)*n))) (winL iI 0 (qai b).k (qai b).t)))).2] [(8,.var [.win false u4 1049152 0 (qai b).w.length,.win false Sh.bool (1049153:Nat) (0:Nat) (qai b).m.length,.win false iI 1049154 0 (qai b).k]),(1049152,.row 53 u4 (qai b).w),(1049153,.row 4 Sh.bool (qai b).m),(1049154,.row 3 iI (qai b).t),(1180224,.row 53 u4 (putF (have this:=winL u4 0 (qai b).w.length (qai b).w;this) a.toNat n.toNat (0:u4.D))),(1200704,.row 4 Sh.bool (putF (have this:=winL Sh.bool (0:Nat) (qai b).m.length (qai b).m;this) a.toNat n.toNat false)),(1229376,.row 3 iI (List.map (mvF (i64.wrap ((4:Int)*a)) (i64.wrap ((4:Int)*n))) (winL iI 0 (qai b).k (qai b).t))),(1237568,.row 5 uB (qa2 (winL u4 0 (putF (have this:=winL u4 0 (qai b).w.length (qai b).w;this) a.toNat n.toNat (0:Int)).length (putF (have this:=winL u4 0 (qai b).w.length (qai b).w;this) a.toNat n.toNat (0:u4.D))) (winL Sh.bool (0:Nat) (putF (have this:=winL Sh.bool (0:Nat) (qai b).m.length (qai b).m;this) a.toNat n.toNat false).length (putF (have this:=winL Sh.bool (0:Nat) (qai b).m.length (qai b).m;this) a.toNat n.toNat false)) (winL iI 0 (List.map (mvF (i64.wrap ((4:Int)*a)) (i64.wrap ((4:Int)*n))) (winL iI 0 (qai b).k (qai b).t)).length (List.map (mvF (i64.wrap ((4:Int)*a)) (i64.wrap ((4:Int)*n))) (winL iI 0 (qai b).k (qai b).t)))).1)])))))):=by kernel_rfl
end Go.Proofs.YtplkpodikhfcdaaDoor
namespace Go.Proofs.YtplkpodikhfcdaaDoor
open Go.Px Go.Ax
set_option maxRecDepth 100000
attribute [local irreducible] Go.Px.sy Go.Px.syE
def okM (b:List Int) (a n:Int):Prop:=(qai b).e=0/\0<=a/\a<=(qai b).w.length/\0<=n/\n<=16384-((qai b).w.length:Int)
instance (b:List Int) (a n:Int):Decidable (okM b a n):=by unfold okM;infer_instance
def movX (b:List Int) (a n:Int):LiT:=(putF (qai b).w a.toNat n.toNat 0,putF (qai b).m a.toNat n.toNat false,List.map (mvF (IntKind.i64.wrap (4*a)) (IntKind.i64.wrap (4*n))) (winL iI 0 (qai b).k (qai b).t))
def qas (b:List Int) (a n:Int):List Int × Int:=if okM b a n then qa2 (movX b a n).1 (movX b a n).2.1 (movX b a n).2.2 else ([],30)
def qh6 (b:List Int) (a n:Int):Prop:=qhc b/\(okM b a n->qe0 (movX b a n).1 (movX b a n).2.1 (movX b a n).2.2)
def ctMoved:Ctr:=⟨[.sl uB,iI,iI],fun x=>qh6 x.1 x.2.1 x.2.2.1,fun x=>[.win true uB 0 0 (qas x.1 x.2.1 x.2.2.1).1.length,.int .i64 (qas x.1 x.2.1 x.2.2.1).2],fun x=>[.row 5 uB (qas x.1 x.2.1 x.2.2.1).1]⟩
theorem qlt {b:List Int} {a n:Int} {blk:List (Nat × LB)} (h:¬ okM b a n):QC ctMoved (b,a,n,()) [.nils,.int .i64 30] blk:=by
 have hv:qas b a n=([],30):=if_neg h;refine QC.nil1 (e:=uB) (et:=5) ?_ ?_ (by decide)
 ·show [SV.win true uB 0 0 (qas b a n).1.length,SV.int .i64 (qas b a n).2]=_
  rw[hv];rfl
 ·show [LB.row 5 uB (qas b a n).1]=_
  rw[hv]
theorem q0s {b:List Int} (hp:qhc b):(qai b).w.length<=16384/\(qai b).m.length=(qai b).w.length/\(qai b).k<=(qai b).t.length/\(qai b).k<=12:=by
 unfold qai;split
 ·exact ⟨by decide,rfl,by decide,by decide⟩
 ·rename_i h;have h1:b.length<=65536:=by omega
  have h2:(qae b).2=0:=by
   by_cases q:(qae b).2=0
   ·exact q
   ·exact absurd (.inr q) h
  obtain ⟨p1,p2⟩:=hp h1;have p3:=p2 h2;have l1:=qxq (qae b).1;have l3:=qo7 (qae b).1;have l4:=p3.1.2;have l5:=p3.2;refine ⟨?_,?_,?_,?_⟩
  ·show (lfV (qae b).1).1.length<=16384
   omega
  ·show (lfV (qae b).1).2.length=(lfV (qae b).1).1.length
   omega
  ·show (tgV (qae b).1).2.1<=(tgV (qae b).1).2.2.length
   omega
  ·show (tgV (qae b).1).2.1<=12
   omega
theorem q5i (b:List Int) (a n:Int) (hp:qh6 b a n) (R:List Item->PS->Prop):sy tt G0 CMo Tryd.f15.ntmps Tryd.f15.results.toList (QC ctMoved (b,a,n,())) R 1000 [.code (qah Tryd.f15)] (entry [.sl uB,iI,iI] (b,a,n,())):=by
 obtain ⟨p1,p2⟩:=hp;obtain ⟨q1,q2,q3,q4⟩:=q0s p1;have w16:IntKind.i64.wrap (16384-((qai b).w.length:Int))=16384-((qai b).w.length:Int):=IntWalk.i64_in _ (by omega);refine (qzf b a n _ _).mpr ?_;rw[w16,qes,qhq];refine ⟨p1,qav (fun h=>⟨rfl,rfl,rfl,rfl,qlt ?_⟩) (fun h=>qav (fun h2=>⟨rfl,rfl,rfl,qlt ?_⟩) (fun h2=>qav (fun h3=>⟨rfl,rfl,qlt ?_⟩) (fun h3=>qav (fun h4=>⟨rfl,qlt ?_⟩) (fun h4=>qav (fun h5=>qlt ?_) (fun h5=>?_)))))⟩
 ·have h:(qai b).e≠0:=of_decide_eq_true h;exact fun q=>h q.1
 ·have h2:a<0:=of_decide_eq_true h2;exact fun q=>by have:=q.2.1;omega
 ·have h3:((qai b).w.length:Int)<a:=of_decide_eq_true h3;exact fun q=>by have:=q.2.2.1;omega
 ·have h4:n<0:=of_decide_eq_true h4;exact fun q=>by have:=q.2.2.2.1;omega
 ·have h5:16384-((qai b).w.length:Int)<n:=of_decide_eq_true h5;exact fun q=>by have:=q.2.2.2.2;omega
 ·have h:¬ (qai b).e≠0:=of_decide_eq_false h;have h2:¬ a<0:=of_decide_eq_false h2;have h3:¬ ((qai b).w.length:Int)<a:=of_decide_eq_false h3;have h4:¬ n<0:=of_decide_eq_false h4;have h5:¬ 16384-((qai b).w.length:Int)<n:=of_decide_eq_false h5;have hok:okM b a n:=⟨Decidable.not_not.1 h,by omega,by omega,by omega,by omega⟩;have hlw:=p2 hok;have hv:qas b a n=qa2 (movX b a n).1 (movX b a n).2.1 (movX b a n).2.2:=if_pos hok;have hwl:(winL iI 0 (qai b).k (qai b).t).length<=12:=by
   show (((qai b).t.drop 0).take (qai b).k).length<=12
   rw[List.length_take];omega
  refine ⟨by omega,(show qul (qai b).w a n from ⟨⟨by omega,by omega⟩,by omega,by omega⟩),by omega,(show qul (qai b).m a n from ⟨⟨by omega,by rw[q2];omega⟩,by omega,by rw[q2];omega⟩),by omega,(show q4t (winL iI 0 (qai b).k (qai b).t) from by unfold q4t;omega),?_⟩;have x1:winL u4 0 (movX b a n).1.length (movX b a n).1=(movX b a n).1:=qes _;have x2:winL Sh.bool 0 (movX b a n).2.1.length (movX b a n).2.1=(movX b a n).2.1:=qhq _;have x3:winL iI 0 (movX b a n).2.2.length (movX b a n).2.2=(movX b a n).2.2:=winA (e:=iI) _
  show 0+(movX b a n).1.length<=(movX b a n).1.length/\0+(movX b a n).2.1.length<=(movX b a n).2.1.length/\0+(movX b a n).2.2.length<=(movX b a n).2.2.length /\
   ctLower.pre ((winL u4 0 (movX b a n).1.length (movX b a n).1,winL Sh.bool 0 (movX b a n).2.1.length (movX b a n).2.1,winL iI 0 (movX b a n).2.2.length (movX b a n).2.2),()) /\
   QC ctMoved (b,a,n,()) [SV.win true uB 1237568 0 (qa2 (winL u4 0 (movX b a n).1.length (movX b a n).1) (winL Sh.bool 0 (movX b a n).2.1.length (movX b a n).2.1) (winL iI 0 (movX b a n).2.2.length (movX b a n).2.2)).1.length,SV.int .i64 (qa2 (winL u4 0 (movX b a n).1.length (movX b a n).1) (winL Sh.bool 0 (movX b a n).2.1.length (movX b a n).2.1) (winL iI 0 (movX b a n).2.2.length (movX b a n).2.2)).2] _
  rw[x1,x2,x3];refine ⟨by omega,by omega,by omega,hlw,?_⟩;refine qn5 (e:=uB) (et:=5) (a:=1237568) (xs:=(qa2 (movX b a n).1 (movX b a n).2.1 (movX b a n).2.2).1) (z:=(qa2 (movX b a n).1 (movX b a n).2.1 (movX b a n).2.2).2) ?_ ?_ rfl rfl ?_
  ·show [SV.win true uB 0 0 (qas b a n).1.length,SV.int .i64 (qas b a n).2]=_
   rw[hv]
  ·show [LB.row 5 uB (qas b a n).1]=_
   rw[hv]
  ·rw[<- x1,<- x2,<- x3];rfl
theorem qte:Held Tryd.prog G0 15 ctMoved:=Held.run cxMo (fn:=Tryd.f15) rfl rfl ⟨by decide,by decide⟩ fun ⟨b,a,n,_⟩ hp=>q5i b a n hp _
end Go.Proofs.YtplkpodikhfcdaaDoor
namespace Go.Proofs.YtplkpodikhfcdaaDoor
open Go.Px Go.Ax
set_option maxRecDepth 100000
def CRd2:CV:=[(45,.inl ct_pa),(22,.inl ct_fo),(46,.inl ct_beq),(17,.inl ctLower)]
theorem cxRd2:CxOK Tryd.prog tt G0 CRd2:=(((cx0.cons qjm (fn:=Tryd.f17) rfl rfl rfl).cons q1t (fn:=Tryd.f46) rfl rfl rfl).cons qx7 (fn:=Tryd.f22) rfl rfl rfl).cons q4z (fn:=Tryd.f45) rfl rfl rfl
set_option maxRecDepth 100000
theorem q37 (b:List Int) (Q:QT) (R:RT):sy tt G0 CRd2 Tryd.f18.ntmps Tryd.f18.results.toList Q R 1000 [.code (qah Tryd.f18)] (entry [.sl uB] (b,())) =
  (ct_pa.pre (b,()) /\
 bc (!(parX b).2) (true=true /\
 Q [.agg [.nils,.nils,.nils],.int .i64 3] [(2,.var [.nils,.nils,.nils]),(4,.var [.win true u4 1040960 0 (parX b).1.1.length,.win true Sh.bool (1040961:Nat) (0:Nat) (parX b).1.2.1.length,.sl iI (parX b).1.2.2]),(1040960,.row 53 u4 (parX b).1.1),(1040961,.row 4 Sh.bool (parX b).1.2.1)]) ((0:Nat)+(parX b).1.1.length<=(parX b).1.1.length /\
 (0:Nat)+(parX b).1.2.1.length<=(parX b).1.2.1.length /\
 ct_fo.pre ((winL u4 0 (parX b).1.1.length (parX b).1.1,winL Sh.bool (0:Nat) (parX b).1.2.1.length (parX b).1.2.1,(parX b).1.2.2),()) /\
 (0:Nat)+(qa8 (winL u4 0 (parX b).1.1.length (parX b).1.1,winL Sh.bool (0:Nat) (parX b).1.2.1.length (parX b).1.2.1,(parX b).1.2.2)).length<=(qa8 (winL u4 0 (parX b).1.1.length (parX b).1.1,winL Sh.bool (0:Nat) (parX b).1.2.1.length (parX b).1.2.1,(parX b).1.2.2)).length /\
 ct_beq.pre (winL uB 0 (qa8 (winL u4 0 (parX b).1.1.length (parX b).1.1,winL Sh.bool (0:Nat) (parX b).1.2.1.length (parX b).1.2.1,(parX b).1.2.2)).length (qa8 (winL u4 0 (parX b).1.1.length (parX b).1.1,winL Sh.bool (0:Nat) (parX b).1.2.1.length (parX b).1.2.1,(parX b).1.2.2)),b,()) /\
 bc (bif false then true else !decide (List.map toB (winL uB 0 (qa8 (winL u4 0 (parX b).1.1.length (parX b).1.1,winL Sh.bool (0:Nat) (parX b).1.2.1.length (parX b).1.2.1,(parX b).1.2.2)).length (qa8 (winL u4 0 (parX b).1.1.length (parX b).1.1,winL Sh.bool (0:Nat) (parX b).1.2.1.length (parX b).1.2.1,(parX b).1.2.2)))=List.map toB b)) (Q [.agg [.nils,.nils,.nils],.int .i64 3] [(2,.var [.nils,.nils,.nils]),(4,.var [.win true u4 1040960 0 (parX b).1.1.length,.win true Sh.bool (1040961:Nat) (0:Nat) (parX b).1.2.1.length,.sl iI (parX b).1.2.2]),(1040960,.row 53 u4 (parX b).1.1),(1040961,.row 4 Sh.bool (parX b).1.2.1),(1069632,.row 5 uB (qa8 (winL u4 0 (parX b).1.1.length (parX b).1.1,winL Sh.bool (0:Nat) (parX b).1.2.1.length (parX b).1.2.1,(parX b).1.2.2)))]) ((0:Nat)+(parX b).1.1.length<=(parX b).1.1.length /\
 (0:Nat)+(parX b).1.2.1.length<=(parX b).1.2.1.length /\
 ctLower.pre ((winL u4 0 (parX b).1.1.length (parX b).1.1,winL Sh.bool (0:Nat) (parX b).1.2.1.length (parX b).1.2.1,(parX b).1.2.2),()) /\
 bc (decide ((qa2 (winL u4 0 (parX b).1.1.length (parX b).1.1) (winL Sh.bool (0:Nat) (parX b).1.2.1.length (parX b).1.2.1) (parX b).1.2.2).2≠0)) (Q [.agg [.nils,.nils,.nils],.int .i64 3] [(2,.var [.nils,.nils,.nils]),(4,.var [.win true u4 1040960 0 (parX b).1.1.length,.win true Sh.bool (1040961:Nat) (0:Nat) (parX b).1.2.1.length,.sl iI (parX b).1.2.2]),(1040960,.row 53 u4 (parX b).1.1),(1040961,.row 4 Sh.bool (parX b).1.2.1),(1069632,.row 5 uB (qa8 (winL u4 0 (parX b).1.1.length (parX b).1.1,winL Sh.bool (0:Nat) (parX b).1.2.1.length (parX b).1.2.1,(parX b).1.2.2))),(1102400,.row 5 uB (qa2 (winL u4 0 (parX b).1.1.length (parX b).1.1) (winL Sh.bool (0:Nat) (parX b).1.2.1.length (parX b).1.2.1) (parX b).1.2.2).1)]) (Q [.agg [.win true u4 1040960 0 (parX b).1.1.length,.win true Sh.bool (1040961:Nat) (0:Nat) (parX b).1.2.1.length,.sl iI (parX b).1.2.2],.int .i64 0] [(2,.var [.win true u4 1040960 0 (parX b).1.1.length,.win true Sh.bool (1040961:Nat) (0:Nat) (parX b).1.2.1.length,.sl iI (parX b).1.2.2]),(4,.var [.win true u4 1040960 0 (parX b).1.1.length,.win true Sh.bool (1040961:Nat) (0:Nat) (parX b).1.2.1.length,.sl iI (parX b).1.2.2]),(1040960,.row 53 u4 (parX b).1.1),(1040961,.row 4 Sh.bool (parX b).1.2.1),(1069632,.row 5 uB (qa8 (winL u4 0 (parX b).1.1.length (parX b).1.1,winL Sh.bool (0:Nat) (parX b).1.2.1.length (parX b).1.2.1,(parX b).1.2.2))),(1102400,.row 5 uB (qa2 (winL u4 0 (parX b).1.1.length (parX b).1.1) (winL Sh.bool (0:Nat) (parX b).1.2.1.length (parX b).1.2.1) (parX b).1.2.2).1)])))):=by kernel_rfl
end Go.Proofs.YtplkpodikhfcdaaDoor
namespace Go.Proofs.YtplkpodikhfcdaaDoor
open Go.Px Go.Ax
set_option maxRecDepth 100000
attribute [local irreducible] Go.Px.sy Go.Px.syE
abbrev rdCk (b:List Int):Bool:=decide (List.map toB (qa8 (parX b).1)=List.map toB b)
def qbu (b:List Int):LiT × Int:=if (parX b).2=true/\rdCk b=true/\(qa2 (parX b).1.1 (parX b).1.2.1 (parX b).1.2.2).2=0 then ((parX b).1,0) else (([],[],[]),3)
def qri (b:List Int):Prop:=q7u b/\((parX b).2=true->qz6 (parX b).1/\(rdCk b=true->qe0 (parX b).1.1 (parX b).1.2.1 (parX b).1.2.2))
def ctRead:Ctr:=⟨[.sl uB],fun x=>qri x.1,fun x=>[.agg [.win true u4 0 0 (qbu x.1).1.1.length,.win true .bool 1 0 (qbu x.1).1.2.1.length,.sl iI (qbu x.1).1.2.2],.int .i64 (qbu x.1).2],fun x=>[.row 53 u4 (qbu x.1).1.1,.row 4 .bool (qbu x.1).1.2.1]⟩
theorem qwg {b:List Int} (hv:qbu b=(([],[],[]),3)) {blk:List (Nat × LB)}:QC ctRead (b,()) [.agg [.nils,.nils,.nils],.int .i64 3] blk:=by
 have ho:ctRead.out (b,())=[.agg [.win true u4 0 0 0,.win true .bool 1 0 0,.sl iI []],.int .i64 3]:=by
  show [SV.agg [.win true u4 0 0 (qbu b).1.1.length,.win true .bool 1 0 (qbu b).1.2.1.length,.sl iI (qbu b).1.2.2],.int .i64 (qbu b).2]=_
  rw[hv];rfl
 have hr:ctRead.rows (b,())=[.row 53 u4 [],.row 4 .bool []]:=by
  show [LB.row 53 u4 (qbu b).1.1,LB.row 4 .bool (qbu b).1.2.1]=_
  rw[hv]
 refine ⟨fun _=>none,?_,?_,fun i j b h1 h2=>by simp at h1,by rw[hr];rfl⟩
 ·rw[ho];exact ⟨_,_,rfl,⟨_,rfl,_,_,rfl,.inr ⟨rfl,rfl,rfl,rfl⟩,_,_,rfl,.inr ⟨rfl,rfl,rfl,rfl⟩,_,_,rfl,.inr ⟨rfl,rfl⟩,rfl⟩,_,_,rfl,rfl,rfl⟩
 ·rw[hr];exact ⟨.inr ⟨rfl,_,_,rfl,by decide⟩,.inr ⟨rfl,_,_,rfl,by decide⟩,trivial⟩
theorem rd_ok {b:List Int} {y:LiT} (hv:qbu b=(y,0)) {blk:List (Nat × LB)} {i j k1 k2:Nat} (hij:i≠j) (h1:lk blk i=some (.row 53 u4 y.1)) (h2:lk blk j=some (.row 4 .bool y.2.1)) (hk1:k1=y.1.length) (hk2:k2=y.2.1.length) :
  QC ctRead (b,()) [.agg [.win true u4 i 0 k1,.win true .bool j 0 k2,.sl iI y.2.2],.int .i64 0] blk:=by
 subst hk1;subst hk2;have ho:ctRead.out (b,())=[.agg [.win true u4 0 0 y.1.length,.win true .bool 1 0 y.2.1.length,.sl iI y.2.2],.int .i64 0]:=by
  show [SV.agg [.win true u4 0 0 (qbu b).1.1.length,.win true .bool 1 0 (qbu b).1.2.1.length,.sl iI (qbu b).1.2.2],.int .i64 (qbu b).2]=_
  rw[hv]
 have hr:ctRead.rows (b,())=[.row 53 u4 y.1,.row 4 .bool y.2.1]:=by
  show [LB.row 53 u4 (qbu b).1.1,LB.row 4 .bool (qbu b).1.2.1]=_
  rw[hv]
 refine ⟨fun n=>if n=0 then some i else if n=1 then some j else none,?_,?_,fun a c x e1 e2=>?_,by rw[hr];rfl⟩
 ·rw[ho];exact ⟨_,_,rfl,⟨_,rfl,_,_,rfl,.inl ⟨true,i,rfl,rfl,fun h=>h⟩,_,_,rfl,.inl ⟨true,j,rfl,rfl,fun h=>h⟩,_,_,rfl,.inl rfl,rfl⟩,_,_,rfl,rfl,rfl⟩
 ·rw[hr];exact ⟨.inl ⟨i,rfl,h1⟩,.inl ⟨j,rfl,h2⟩,trivial⟩
 ·simp only at e1 e2;split at e1 <;> split at e2
  ·omega
  ·split at e2
   ·cases e1;cases e2;exact absurd rfl hij
   ·cases e2
  ·split at e1
   ·cases e1;cases e2;exact absurd rfl hij
   ·cases e1
  ·split at e1 <;> split at e2
   ·omega
   ·cases e2
   ·cases e1
   ·cases e1
theorem qzx (b:List Int) (hp:qri b) (R:List Item->PS->Prop):sy tt G0 CRd2 Tryd.f18.ntmps Tryd.f18.results.toList (QC ctRead (b,())) R 1000 [.code (qah Tryd.f18)] (entry [.sl uB] (b,())):=by
 obtain ⟨p1,p2⟩:=hp;refine (q37 b _ _).mpr ?_;rw[qes,qhq,winA];refine ⟨p1,qav (fun h=>⟨rfl,qwg ?_⟩) (fun h=>?_)⟩
 ·have h:¬ (parX b).2=true:=by simpa using h
  unfold qbu;rw[if_neg (fun q=>h q.1)]
 ·have h:(parX b).2=true:=by simpa using h
  obtain ⟨p3,p4⟩:=p2 h;refine ⟨by omega,by omega,p3,by omega,trivial,qav (fun h2=>qwg ?_) (fun h2=>?_)⟩
  ·have h2:(!rdCk b)=true:=h2;have h2:¬ rdCk b=true:=by simpa using h2
   unfold qbu;rw[if_neg (fun q=>h2 q.2.1)]
  ·have h2:(!rdCk b)=false:=h2;have h2:rdCk b=true:=by simpa using h2
   refine ⟨by omega,by omega,p4 h2,qav (fun h3=>qwg ?_) (fun h3=>?_)⟩
   ·have h3:(qa2 (parX b).1.1 (parX b).1.2.1 (parX b).1.2.2).2≠0:=of_decide_eq_true h3;unfold qbu;rw[if_neg (fun q=>h3 q.2.2)]
   ·have h3:¬ (qa2 (parX b).1.1 (parX b).1.2.1 (parX b).1.2.2).2≠0:=of_decide_eq_false h3;have hv:qbu b=((parX b).1,0):=by
     unfold qbu;rw[if_pos ⟨h,h2,Decidable.not_not.1 h3⟩]
    exact rd_ok hv (by decide) rfl rfl rfl rfl
theorem qwf:Held Tryd.prog G0 18 ctRead:=Held.run cxRd2 (fn:=Tryd.f18) rfl rfl ⟨by decide,by decide⟩ fun ⟨b,_⟩ hp=>qzx b hp _
end Go.Proofs.YtplkpodikhfcdaaDoor
namespace Go.Proofs.YtplkpodikhfcdaaDoor
open Go.Px Go.Ax
set_option maxRecDepth 100000
def CSl:CV:=[(13,.inl ctLift),(17,.inl ctLower),(22,.inl ct_fo),(18,.inl ctRead),(15,.inl ctMoved),(21,.inl ct_r2),(20,.inl ct_r3)]
theorem cxSl:CxOK Tryd.prog tt G0 CSl:=((((((cx0.cons q4l (fn:=Tryd.f20) rfl rfl rfl).cons qwl (fn:=Tryd.f21) rfl rfl rfl).cons qte (fn:=Tryd.f15) rfl rfl rfl).cons qwf (fn:=Tryd.f18) rfl rfl rfl).cons qx7 (fn:=Tryd.f22) rfl rfl rfl).cons qjm (fn:=Tryd.f17) rfl rfl rfl).cons qp2 (fn:=Tryd.f13) rfl rfl rfl
set_option maxRecDepth 100000
theorem q3x  (Q:QT) (R:RT):sy tt G0 CSl Tryd.f11.ntmps Tryd.f11.results.toList Q R 1000 [.code (qah Tryd.f11)] (entry [] ()) =
  ((0:Nat)+12<=(((((((((((((List.replicate (12:Nat) uB.dflt).set (0:Nat) (1:Int)).set (1:Nat) (1:Int)).set (2:Nat) (2:Int)).set (3:Nat) (3:Int)).set (4:Nat) (5:Int)).set (5:Nat) (255:Int)).set (6:Nat) (255:Int)).set (7:Nat) (255:Int)).set (8:Nat) (7:Int)).set (9:Nat) (5:Int)).set (10:Nat) (0:Int)).set (11:Nat) (0:Int)).length /\
 ctLift.pre (winL uB 0 12 (((((((((((((List.replicate (12:Nat) uB.dflt).set (0:Nat) (1:Int)).set (1:Nat) (1:Int)).set (2:Nat) (2:Int)).set (3:Nat) (3:Int)).set (4:Nat) (5:Int)).set (5:Nat) (255:Int)).set (6:Nat) (255:Int)).set (7:Nat) (255:Int)).set (8:Nat) (7:Int)).set (9:Nat) (5:Int)).set (10:Nat) (0:Int)).set (11:Nat) (0:Int)),()) /\
 (0:Nat)+3<=((((List.replicate (3:Nat) u4.dflt).set (0:Nat) (16843267:Int)).set (1:Nat) (83886080:Int)).set (2:Nat) (117768193:Int)).length /\
 (0:Nat)+3<=((((List.replicate (3:Nat) Sh.bool.dflt).set (0:Nat) false).set (1:Nat) true).set (2:Nat) true).length /\
 (0:Nat)+2<=(((List.replicate (2:Nat) iI.dflt).set (0:Nat) (0:Int)).set (1:Nat) (8:Int)).length /\
 ctLower.pre ((winL u4 0 3 ((((List.replicate (3:Nat) u4.dflt).set (0:Nat) (16843267:Int)).set (1:Nat) (83886080:Int)).set (2:Nat) (117768193:Int)),winL Sh.bool (0:Nat) (3:Nat) ((((List.replicate (3:Nat) Sh.bool.dflt).set (0:Nat) false).set (1:Nat) true).set (2:Nat) true),winL iI 0 2 (((List.replicate (2:Nat) iI.dflt).set (0:Nat) (0:Int)).set (1:Nat) (8:Int))),()) /\
 (0:Nat)+3<=((((List.replicate (3:Nat) u4.dflt).set (0:Nat) (16843267:Int)).set (1:Nat) (83886080:Int)).set (2:Nat) (117768193:Int)).length /\
 (0:Nat)+3<=((((List.replicate (3:Nat) Sh.bool.dflt).set (0:Nat) false).set (1:Nat) true).set (2:Nat) true).length /\
 (0:Nat)+2<=(((List.replicate (2:Nat) iI.dflt).set (0:Nat) (0:Int)).set (1:Nat) (8:Int)).length /\
 ct_fo.pre ((winL u4 0 3 ((((List.replicate (3:Nat) u4.dflt).set (0:Nat) (16843267:Int)).set (1:Nat) (83886080:Int)).set (2:Nat) (117768193:Int)),winL Sh.bool (0:Nat) (3:Nat) ((((List.replicate (3:Nat) Sh.bool.dflt).set (0:Nat) false).set (1:Nat) true).set (2:Nat) true),winL iI 0 2 (((List.replicate (2:Nat) iI.dflt).set (0:Nat) (0:Int)).set (1:Nat) (8:Int))),()) /\
 (0:Nat)+(qa8 (winL u4 0 3 ((((List.replicate (3:Nat) u4.dflt).set (0:Nat) (16843267:Int)).set (1:Nat) (83886080:Int)).set (2:Nat) (117768193:Int)),winL Sh.bool (0:Nat) (3:Nat) ((((List.replicate (3:Nat) Sh.bool.dflt).set (0:Nat) false).set (1:Nat) true).set (2:Nat) true),winL iI 0 2 (((List.replicate (2:Nat) iI.dflt).set (0:Nat) (0:Int)).set (1:Nat) (8:Int)))).length<=(qa8 (winL u4 0 3 ((((List.replicate (3:Nat) u4.dflt).set (0:Nat) (16843267:Int)).set (1:Nat) (83886080:Int)).set (2:Nat) (117768193:Int)),winL Sh.bool (0:Nat) (3:Nat) ((((List.replicate (3:Nat) Sh.bool.dflt).set (0:Nat) false).set (1:Nat) true).set (2:Nat) true),winL iI 0 2 (((List.replicate (2:Nat) iI.dflt).set (0:Nat) (0:Int)).set (1:Nat) (8:Int)))).length /\
 (0:Nat)+(qa8 (winL u4 0 3 ((((List.replicate (3:Nat) u4.dflt).set (0:Nat) (16843267:Int)).set (1:Nat) (83886080:Int)).set (2:Nat) (117768193:Int)),winL Sh.bool (0:Nat) (3:Nat) ((((List.replicate (3:Nat) Sh.bool.dflt).set (0:Nat) false).set (1:Nat) true).set (2:Nat) true),winL iI 0 2 (((List.replicate (2:Nat) iI.dflt).set (0:Nat) (0:Int)).set (1:Nat) (8:Int)))).length<=(qa8 (winL u4 0 3 ((((List.replicate (3:Nat) u4.dflt).set (0:Nat) (16843267:Int)).set (1:Nat) (83886080:Int)).set (2:Nat) (117768193:Int)),winL Sh.bool (0:Nat) (3:Nat) ((((List.replicate (3:Nat) Sh.bool.dflt).set (0:Nat) false).set (1:Nat) true).set (2:Nat) true),winL iI 0 2 (((List.replicate (2:Nat) iI.dflt).set (0:Nat) (0:Int)).set (1:Nat) (8:Int)))).length /\
 (0:Nat)+(qa8 (winL u4 0 3 ((((List.replicate (3:Nat) u4.dflt).set (0:Nat) (16843267:Int)).set (1:Nat) (83886080:Int)).set (2:Nat) (117768193:Int)),winL Sh.bool (0:Nat) (3:Nat) ((((List.replicate (3:Nat) Sh.bool.dflt).set (0:Nat) false).set (1:Nat) true).set (2:Nat) true),winL iI 0 2 (((List.replicate (2:Nat) iI.dflt).set (0:Nat) (0:Int)).set (1:Nat) (8:Int)))).length<=(qa8 (winL u4 0 3 ((((List.replicate (3:Nat) u4.dflt).set (0:Nat) (16843267:Int)).set (1:Nat) (83886080:Int)).set (2:Nat) (117768193:Int)),winL Sh.bool (0:Nat) (3:Nat) ((((List.replicate (3:Nat) Sh.bool.dflt).set (0:Nat) false).set (1:Nat) true).set (2:Nat) true),winL iI 0 2 (((List.replicate (2:Nat) iI.dflt).set (0:Nat) (0:Int)).set (1:Nat) (8:Int)))).length /\
 ctRead.pre (winL uB 0 (qa8 (winL u4 0 3 ((((List.replicate (3:Nat) u4.dflt).set (0:Nat) (16843267:Int)).set (1:Nat) (83886080:Int)).set (2:Nat) (117768193:Int)),winL Sh.bool (0:Nat) (3:Nat) ((((List.replicate (3:Nat) Sh.bool.dflt).set (0:Nat) false).set (1:Nat) true).set (2:Nat) true),winL iI 0 2 (((List.replicate (2:Nat) iI.dflt).set (0:Nat) (0:Int)).set (1:Nat) (8:Int)))).length (qa8 (winL u4 0 3 ((((List.replicate (3:Nat) u4.dflt).set (0:Nat) (16843267:Int)).set (1:Nat) (83886080:Int)).set (2:Nat) (117768193:Int)),winL Sh.bool (0:Nat) (3:Nat) ((((List.replicate (3:Nat) Sh.bool.dflt).set (0:Nat) false).set (1:Nat) true).set (2:Nat) true),winL iI 0 2 (((List.replicate (2:Nat) iI.dflt).set (0:Nat) (0:Int)).set (1:Nat) (8:Int)))),()) /\
 (0:Nat)+12<=(((((((((((((List.replicate (12:Nat) uB.dflt).set (0:Nat) (1:Int)).set (1:Nat) (1:Int)).set (2:Nat) (2:Int)).set (3:Nat) (3:Int)).set (4:Nat) (5:Int)).set (5:Nat) (255:Int)).set (6:Nat) (255:Int)).set (7:Nat) (255:Int)).set (8:Nat) (7:Int)).set (9:Nat) (5:Int)).set (10:Nat) (0:Int)).set (11:Nat) (0:Int)).length /\
 ctMoved.pre (winL uB 0 12 (((((((((((((List.replicate (12:Nat) uB.dflt).set (0:Nat) (1:Int)).set (1:Nat) (1:Int)).set (2:Nat) (2:Int)).set (3:Nat) (3:Int)).set (4:Nat) (5:Int)).set (5:Nat) (255:Int)).set (6:Nat) (255:Int)).set (7:Nat) (255:Int)).set (8:Nat) (7:Int)).set (9:Nat) (5:Int)).set (10:Nat) (0:Int)).set (11:Nat) (0:Int)),(1:Int),(1:Int),()) /\
 (0:Int)<=3 /\
 (3:Int)<=(↑(12:Nat):Int) /\
 (0:Nat)+12<=(((((((((((((List.replicate (12:Nat) uB.dflt).set (0:Nat) (1:Int)).set (1:Nat) (1:Int)).set (2:Nat) (2:Int)).set (3:Nat) (3:Int)).set (4:Nat) (5:Int)).set (5:Nat) (255:Int)).set (6:Nat) (255:Int)).set (7:Nat) (255:Int)).set (8:Nat) (7:Int)).set (9:Nat) (5:Int)).set (10:Nat) (0:Int)).set (11:Nat) (0:Int)).length /\
 (0:Nat)+0+(3-0)<=(((((((((((((List.replicate (12:Nat) uB.dflt).set (0:Nat) (1:Int)).set (1:Nat) (1:Int)).set (2:Nat) (2:Int)).set (3:Nat) (3:Int)).set (4:Nat) (5:Int)).set (5:Nat) (255:Int)).set (6:Nat) (255:Int)).set (7:Nat) (255:Int)).set (8:Nat) (7:Int)).set (9:Nat) (5:Int)).set (10:Nat) (0:Int)).set (11:Nat) (0:Int)).length /\
 ctLift.pre (winL uB ((0:Nat)+0) (3-0) (((((((((((((List.replicate (12:Nat) uB.dflt).set (0:Nat) (1:Int)).set (1:Nat) (1:Int)).set (2:Nat) (2:Int)).set (3:Nat) (3:Int)).set (4:Nat) (5:Int)).set (5:Nat) (255:Int)).set (6:Nat) (255:Int)).set (7:Nat) (255:Int)).set (8:Nat) (7:Int)).set (9:Nat) (5:Int)).set (10:Nat) (0:Int)).set (11:Nat) (0:Int)),()) /\
 (0:Nat)+1<=([(83886080:Int)]:List u4.D).length /\
 (0:Nat)+1<=([false]:List Sh.bool.D).length /\
 ctLower.pre ((([(83886080:Int)]:List u4.D),([false]:List Sh.bool.D),[]),()) /\
 ctRead.pre ([],()) /\
 (0:Nat)+12<=(((((((((((((List.replicate (12:Nat) uB.dflt).set (0:Nat) (1:Int)).set (1:Nat) (1:Int)).set (2:Nat) (2:Int)).set (3:Nat) (3:Int)).set (4:Nat) (5:Int)).set (5:Nat) (255:Int)).set (6:Nat) (255:Int)).set (7:Nat) (255:Int)).set (8:Nat) (7:Int)).set (9:Nat) (5:Int)).set (10:Nat) (0:Int)).set (11:Nat) (0:Int)).length /\
 ctMoved.pre (winL uB 0 12 (((((((((((((List.replicate (12:Nat) uB.dflt).set (0:Nat) (1:Int)).set (1:Nat) (1:Int)).set (2:Nat) (2:Int)).set (3:Nat) (3:Int)).set (4:Nat) (5:Int)).set (5:Nat) (255:Int)).set (6:Nat) (255:Int)).set (7:Nat) (255:Int)).set (8:Nat) (7:Int)).set (9:Nat) (5:Int)).set (10:Nat) (0:Int)).set (11:Nat) (0:Int)),(4:Int),(0:Int),()) /\
 (0:Nat)+21<=((((((((((((((((((((((List.replicate (21:Nat) uB.dflt).set (0:Nat) (0:Int)).set (1:Nat) (3:Int)).set (2:Nat) (0:Int)).set (3:Nat) (2:Int)).set (4:Nat) (0:Int)).set (5:Nat) (0:Int)).set (6:Nat) (0:Int)).set (7:Nat) (2:Int)).set (8:Nat) (6:Int)).set (9:Nat) (1:Int)).set (10:Nat) (1:Int)).set (11:Nat) (2:Int)).set (12:Nat) (3:Int)).set (13:Nat) (5:Int)).set (14:Nat) (0:Int)).set (15:Nat) (0:Int)).set (16:Nat) (0:Int)).set (17:Nat) (7:Int)).set (18:Nat) (5:Int)).set (19:Nat) (0:Int)).set (20:Nat) (1:Int)).length /\
 ct_r2.pre (winL uB 0 (qa8 (winL u4 0 3 ((((List.replicate (3:Nat) u4.dflt).set (0:Nat) (16843267:Int)).set (1:Nat) (83886080:Int)).set (2:Nat) (117768193:Int)),winL Sh.bool (0:Nat) (3:Nat) ((((List.replicate (3:Nat) Sh.bool.dflt).set (0:Nat) false).set (1:Nat) true).set (2:Nat) true),winL iI 0 2 (((List.replicate (2:Nat) iI.dflt).set (0:Nat) (0:Int)).set (1:Nat) (8:Int)))).length (qa8 (winL u4 0 3 ((((List.replicate (3:Nat) u4.dflt).set (0:Nat) (16843267:Int)).set (1:Nat) (83886080:Int)).set (2:Nat) (117768193:Int)),winL Sh.bool (0:Nat) (3:Nat) ((((List.replicate (3:Nat) Sh.bool.dflt).set (0:Nat) false).set (1:Nat) true).set (2:Nat) true),winL iI 0 2 (((List.replicate (2:Nat) iI.dflt).set (0:Nat) (0:Int)).set (1:Nat) (8:Int)))),winL uB 0 21 ((((((((((((((((((((((List.replicate (21:Nat) uB.dflt).set (0:Nat) (0:Int)).set (1:Nat) (3:Int)).set (2:Nat) (0:Int)).set (3:Nat) (2:Int)).set (4:Nat) (0:Int)).set (5:Nat) (0:Int)).set (6:Nat) (0:Int)).set (7:Nat) (2:Int)).set (8:Nat) (6:Int)).set (9:Nat) (1:Int)).set (10:Nat) (1:Int)).set (11:Nat) (2:Int)).set (12:Nat) (3:Int)).set (13:Nat) (5:Int)).set (14:Nat) (0:Int)).set (15:Nat) (0:Int)).set (16:Nat) (0:Int)).set (17:Nat) (7:Int)).set (18:Nat) (5:Int)).set (19:Nat) (0:Int)).set (20:Nat) (1:Int)),()) /\
 (0:Nat)+(qai (winL uB 0 12 (((((((((((((List.replicate (12:Nat) uB.dflt).set (0:Nat) (1:Int)).set (1:Nat) (1:Int)).set (2:Nat) (2:Int)).set (3:Nat) (3:Int)).set (4:Nat) (5:Int)).set (5:Nat) (255:Int)).set (6:Nat) (255:Int)).set (7:Nat) (255:Int)).set (8:Nat) (7:Int)).set (9:Nat) (5:Int)).set (10:Nat) (0:Int)).set (11:Nat) (0:Int)))).w.length<=(qai (winL uB 0 12 (((((((((((((List.replicate (12:Nat) uB.dflt).set (0:Nat) (1:Int)).set (1:Nat) (1:Int)).set (2:Nat) (2:Int)).set (3:Nat) (3:Int)).set (4:Nat) (5:Int)).set (5:Nat) (255:Int)).set (6:Nat) (255:Int)).set (7:Nat) (255:Int)).set (8:Nat) (7:Int)).set (9:Nat) (5:Int)).set (10:Nat) (0:Int)).set (11:Nat) (0:Int)))).w.length /\
 (0:Nat)+(qai (winL uB 0 12 (((((((((((((List.replicate (12:Nat) uB.dflt).set (0:Nat) (1:Int)).set (1:Nat) (1:Int)).set (2:Nat) (2:Int)).set (3:Nat) (3:Int)).set (4:Nat) (5:Int)).set (5:Nat) (255:Int)).set (6:Nat) (255:Int)).set (7:Nat) (255:Int)).set (8:Nat) (7:Int)).set (9:Nat) (5:Int)).set (10:Nat) (0:Int)).set (11:Nat) (0:Int)))).m.length<=(qai (winL uB 0 12 (((((((((((((List.replicate (12:Nat) uB.dflt).set (0:Nat) (1:Int)).set (1:Nat) (1:Int)).set (2:Nat) (2:Int)).set (3:Nat) (3:Int)).set (4:Nat) (5:Int)).set (5:Nat) (255:Int)).set (6:Nat) (255:Int)).set (7:Nat) (255:Int)).set (8:Nat) (7:Int)).set (9:Nat) (5:Int)).set (10:Nat) (0:Int)).set (11:Nat) (0:Int)))).m.length /\
 (0:Nat)+(qai (winL uB 0 12 (((((((((((((List.replicate (12:Nat) uB.dflt).set (0:Nat) (1:Int)).set (1:Nat) (1:Int)).set (2:Nat) (2:Int)).set (3:Nat) (3:Int)).set (4:Nat) (5:Int)).set (5:Nat) (255:Int)).set (6:Nat) (255:Int)).set (7:Nat) (255:Int)).set (8:Nat) (7:Int)).set (9:Nat) (5:Int)).set (10:Nat) (0:Int)).set (11:Nat) (0:Int)))).k<=(qai (winL uB 0 12 (((((((((((((List.replicate (12:Nat) uB.dflt).set (0:Nat) (1:Int)).set (1:Nat) (1:Int)).set (2:Nat) (2:Int)).set (3:Nat) (3:Int)).set (4:Nat) (5:Int)).set (5:Nat) (255:Int)).set (6:Nat) (255:Int)).set (7:Nat) (255:Int)).set (8:Nat) (7:Int)).set (9:Nat) (5:Int)).set (10:Nat) (0:Int)).set (11:Nat) (0:Int)))).t.length /\
 (0:Nat)+3<=((((List.replicate (3:Nat) u4.dflt).set (0:Nat) (16843267:Int)).set (1:Nat) (83886080:Int)).set (2:Nat) (117768193:Int)).length /\
 (0:Nat)+3<=((((List.replicate (3:Nat) Sh.bool.dflt).set (0:Nat) false).set (1:Nat) true).set (2:Nat) true).length /\
 (0:Nat)+2<=(((List.replicate (2:Nat) iI.dflt).set (0:Nat) (0:Int)).set (1:Nat) (8:Int)).length /\
 ct_r3.pre ((winL u4 0 (qai (winL uB 0 12 (((((((((((((List.replicate (12:Nat) uB.dflt).set (0:Nat) (1:Int)).set (1:Nat) (1:Int)).set (2:Nat) (2:Int)).set (3:Nat) (3:Int)).set (4:Nat) (5:Int)).set (5:Nat) (255:Int)).set (6:Nat) (255:Int)).set (7:Nat) (255:Int)).set (8:Nat) (7:Int)).set (9:Nat) (5:Int)).set (10:Nat) (0:Int)).set (11:Nat) (0:Int)))).w.length (qai (winL uB 0 12 (((((((((((((List.replicate (12:Nat) uB.dflt).set (0:Nat) (1:Int)).set (1:Nat) (1:Int)).set (2:Nat) (2:Int)).set (3:Nat) (3:Int)).set (4:Nat) (5:Int)).set (5:Nat) (255:Int)).set (6:Nat) (255:Int)).set (7:Nat) (255:Int)).set (8:Nat) (7:Int)).set (9:Nat) (5:Int)).set (10:Nat) (0:Int)).set (11:Nat) (0:Int)))).w,winL Sh.bool (0:Nat) (qai (winL uB 0 12 (((((((((((((List.replicate (12:Nat) uB.dflt).set (0:Nat) (1:Int)).set (1:Nat) (1:Int)).set (2:Nat) (2:Int)).set (3:Nat) (3:Int)).set (4:Nat) (5:Int)).set (5:Nat) (255:Int)).set (6:Nat) (255:Int)).set (7:Nat) (255:Int)).set (8:Nat) (7:Int)).set (9:Nat) (5:Int)).set (10:Nat) (0:Int)).set (11:Nat) (0:Int)))).m.length (qai (winL uB 0 12 (((((((((((((List.replicate (12:Nat) uB.dflt).set (0:Nat) (1:Int)).set (1:Nat) (1:Int)).set (2:Nat) (2:Int)).set (3:Nat) (3:Int)).set (4:Nat) (5:Int)).set (5:Nat) (255:Int)).set (6:Nat) (255:Int)).set (7:Nat) (255:Int)).set (8:Nat) (7:Int)).set (9:Nat) (5:Int)).set (10:Nat) (0:Int)).set (11:Nat) (0:Int)))).m,winL iI 0 (qai (winL uB 0 12 (((((((((((((List.replicate (12:Nat) uB.dflt).set (0:Nat) (1:Int)).set (1:Nat) (1:Int)).set (2:Nat) (2:Int)).set (3:Nat) (3:Int)).set (4:Nat) (5:Int)).set (5:Nat) (255:Int)).set (6:Nat) (255:Int)).set (7:Nat) (255:Int)).set (8:Nat) (7:Int)).set (9:Nat) (5:Int)).set (10:Nat) (0:Int)).set (11:Nat) (0:Int)))).k (qai (winL uB 0 12 (((((((((((((List.replicate (12:Nat) uB.dflt).set (0:Nat) (1:Int)).set (1:Nat) (1:Int)).set (2:Nat) (2:Int)).set (3:Nat) (3:Int)).set (4:Nat) (5:Int)).set (5:Nat) (255:Int)).set (6:Nat) (255:Int)).set (7:Nat) (255:Int)).set (8:Nat) (7:Int)).set (9:Nat) (5:Int)).set (10:Nat) (0:Int)).set (11:Nat) (0:Int)))).t),(winL u4 0 3 ((((List.replicate (3:Nat) u4.dflt).set (0:Nat) (16843267:Int)).set (1:Nat) (83886080:Int)).set (2:Nat) (117768193:Int)),winL Sh.bool (0:Nat) (3:Nat) ((((List.replicate (3:Nat) Sh.bool.dflt).set (0:Nat) false).set (1:Nat) true).set (2:Nat) true),winL iI 0 2 (((List.replicate (2:Nat) iI.dflt).set (0:Nat) (0:Int)).set (1:Nat) (8:Int))),()) /\
 (0:Nat)+(qa2 (winL u4 0 3 ((((List.replicate (3:Nat) u4.dflt).set (0:Nat) (16843267:Int)).set (1:Nat) (83886080:Int)).set (2:Nat) (117768193:Int))) (winL Sh.bool (0:Nat) (3:Nat) ((((List.replicate (3:Nat) Sh.bool.dflt).set (0:Nat) false).set (1:Nat) true).set (2:Nat) true)) (winL iI 0 2 (((List.replicate (2:Nat) iI.dflt).set (0:Nat) (0:Int)).set (1:Nat) (8:Int)))).1.length<=(qa2 (winL u4 0 3 ((((List.replicate (3:Nat) u4.dflt).set (0:Nat) (16843267:Int)).set (1:Nat) (83886080:Int)).set (2:Nat) (117768193:Int))) (winL Sh.bool (0:Nat) (3:Nat) ((((List.replicate (3:Nat) Sh.bool.dflt).set (0:Nat) false).set (1:Nat) true).set (2:Nat) true)) (winL iI 0 2 (((List.replicate (2:Nat) iI.dflt).set (0:Nat) (0:Int)).set (1:Nat) (8:Int)))).1.length /\
 (0:Nat)+12<=(((((((((((((List.replicate (12:Nat) uB.dflt).set (0:Nat) (1:Int)).set (1:Nat) (1:Int)).set (2:Nat) (2:Int)).set (3:Nat) (3:Int)).set (4:Nat) (5:Int)).set (5:Nat) (255:Int)).set (6:Nat) (255:Int)).set (7:Nat) (255:Int)).set (8:Nat) (7:Int)).set (9:Nat) (5:Int)).set (10:Nat) (0:Int)).set (11:Nat) (0:Int)).length /\
 ct_r2.pre (winL uB 0 (qa2 (winL u4 0 3 ((((List.replicate (3:Nat) u4.dflt).set (0:Nat) (16843267:Int)).set (1:Nat) (83886080:Int)).set (2:Nat) (117768193:Int))) (winL Sh.bool (0:Nat) (3:Nat) ((((List.replicate (3:Nat) Sh.bool.dflt).set (0:Nat) false).set (1:Nat) true).set (2:Nat) true)) (winL iI 0 2 (((List.replicate (2:Nat) iI.dflt).set (0:Nat) (0:Int)).set (1:Nat) (8:Int)))).1.length (qa2 (winL u4 0 3 ((((List.replicate (3:Nat) u4.dflt).set (0:Nat) (16843267:Int)).set (1:Nat) (83886080:Int)).set (2:Nat) (117768193:Int))) (winL Sh.bool (0:Nat) (3:Nat) ((((List.replicate (3:Nat) Sh.bool.dflt).set (0:Nat) false).set (1:Nat) true).set (2:Nat) true)) (winL iI 0 2 (((List.replicate (2:Nat) iI.dflt).set (0:Nat) (0:Int)).set (1:Nat) (8:Int)))).1,winL uB 0 12 (((((((((((((List.replicate (12:Nat) uB.dflt).set (0:Nat) (1:Int)).set (1:Nat) (1:Int)).set (2:Nat) (2:Int)).set (3:Nat) (3:Int)).set (4:Nat) (5:Int)).set (5:Nat) (255:Int)).set (6:Nat) (255:Int)).set (7:Nat) (255:Int)).set (8:Nat) (7:Int)).set (9:Nat) (5:Int)).set (10:Nat) (0:Int)).set (11:Nat) (0:Int)),()) /\
 (0:Nat)+(qbu (winL uB 0 (qa8 (winL u4 0 3 ((((List.replicate (3:Nat) u4.dflt).set (0:Nat) (16843267:Int)).set (1:Nat) (83886080:Int)).set (2:Nat) (117768193:Int)),winL Sh.bool (0:Nat) (3:Nat) ((((List.replicate (3:Nat) Sh.bool.dflt).set (0:Nat) false).set (1:Nat) true).set (2:Nat) true),winL iI 0 2 (((List.replicate (2:Nat) iI.dflt).set (0:Nat) (0:Int)).set (1:Nat) (8:Int)))).length (qa8 (winL u4 0 3 ((((List.replicate (3:Nat) u4.dflt).set (0:Nat) (16843267:Int)).set (1:Nat) (83886080:Int)).set (2:Nat) (117768193:Int)),winL Sh.bool (0:Nat) (3:Nat) ((((List.replicate (3:Nat) Sh.bool.dflt).set (0:Nat) false).set (1:Nat) true).set (2:Nat) true),winL iI 0 2 (((List.replicate (2:Nat) iI.dflt).set (0:Nat) (0:Int)).set (1:Nat) (8:Int)))))).1.1.length<=(qbu (winL uB 0 (qa8 (winL u4 0 3 ((((List.replicate (3:Nat) u4.dflt).set (0:Nat) (16843267:Int)).set (1:Nat) (83886080:Int)).set (2:Nat) (117768193:Int)),winL Sh.bool (0:Nat) (3:Nat) ((((List.replicate (3:Nat) Sh.bool.dflt).set (0:Nat) false).set (1:Nat) true).set (2:Nat) true),winL iI 0 2 (((List.replicate (2:Nat) iI.dflt).set (0:Nat) (0:Int)).set (1:Nat) (8:Int)))).length (qa8 (winL u4 0 3 ((((List.replicate (3:Nat) u4.dflt).set (0:Nat) (16843267:Int)).set (1:Nat) (83886080:Int)).set (2:Nat) (117768193:Int)),winL Sh.bool (0:Nat) (3:Nat) ((((List.replicate (3:Nat) Sh.bool.dflt).set (0:Nat) false).set (1:Nat) true).set (2:Nat) true),winL iI 0 2 (((List.replicate (2:Nat) iI.dflt).set (0:Nat) (0:Int)).set (1:Nat) (8:Int)))))).1.1.length /\
 (0:Nat)+(qbu (winL uB 0 (qa8 (winL u4 0 3 ((((List.replicate (3:Nat) u4.dflt).set (0:Nat) (16843267:Int)).set (1:Nat) (83886080:Int)).set (2:Nat) (117768193:Int)),winL Sh.bool (0:Nat) (3:Nat) ((((List.replicate (3:Nat) Sh.bool.dflt).set (0:Nat) false).set (1:Nat) true).set (2:Nat) true),winL iI 0 2 (((List.replicate (2:Nat) iI.dflt).set (0:Nat) (0:Int)).set (1:Nat) (8:Int)))).length (qa8 (winL u4 0 3 ((((List.replicate (3:Nat) u4.dflt).set (0:Nat) (16843267:Int)).set (1:Nat) (83886080:Int)).set (2:Nat) (117768193:Int)),winL Sh.bool (0:Nat) (3:Nat) ((((List.replicate (3:Nat) Sh.bool.dflt).set (0:Nat) false).set (1:Nat) true).set (2:Nat) true),winL iI 0 2 (((List.replicate (2:Nat) iI.dflt).set (0:Nat) (0:Int)).set (1:Nat) (8:Int)))))).1.2.1.length<=(qbu (winL uB 0 (qa8 (winL u4 0 3 ((((List.replicate (3:Nat) u4.dflt).set (0:Nat) (16843267:Int)).set (1:Nat) (83886080:Int)).set (2:Nat) (117768193:Int)),winL Sh.bool (0:Nat) (3:Nat) ((((List.replicate (3:Nat) Sh.bool.dflt).set (0:Nat) false).set (1:Nat) true).set (2:Nat) true),winL iI 0 2 (((List.replicate (2:Nat) iI.dflt).set (0:Nat) (0:Int)).set (1:Nat) (8:Int)))).length (qa8 (winL u4 0 3 ((((List.replicate (3:Nat) u4.dflt).set (0:Nat) (16843267:Int)).set (1:Nat) (83886080:Int)).set (2:Nat) (117768193:Int)),winL Sh.bool (0:Nat) (3:Nat) ((((List.replicate (3:Nat) Sh.bool.dflt).set (0:Nat) false).set (1:Nat) true).set (2:Nat) true),winL iI 0 2 (((List.replicate (2:Nat) iI.dflt).set (0:Nat) (0:Int)).set (1:Nat) (8:Int)))))).1.2.1.length /\
 (0:Nat)+3<=((((List.replicate (3:Nat) u4.dflt).set (0:Nat) (16843267:Int)).set (1:Nat) (83886080:Int)).set (2:Nat) (117768193:Int)).length /\
 (0:Nat)+3<=((((List.replicate (3:Nat) Sh.bool.dflt).set (0:Nat) false).set (1:Nat) true).set (2:Nat) true).length /\
 (0:Nat)+2<=(((List.replicate (2:Nat) iI.dflt).set (0:Nat) (0:Int)).set (1:Nat) (8:Int)).length /\
 ct_r3.pre ((winL u4 0 (qbu (winL uB 0 (qa8 (winL u4 0 3 ((((List.replicate (3:Nat) u4.dflt).set (0:Nat) (16843267:Int)).set (1:Nat) (83886080:Int)).set (2:Nat) (117768193:Int)),winL Sh.bool (0:Nat) (3:Nat) ((((List.replicate (3:Nat) Sh.bool.dflt).set (0:Nat) false).set (1:Nat) true).set (2:Nat) true),winL iI 0 2 (((List.replicate (2:Nat) iI.dflt).set (0:Nat) (0:Int)).set (1:Nat) (8:Int)))).length (qa8 (winL u4 0 3 ((((List.replicate (3:Nat) u4.dflt).set (0:Nat) (16843267:Int)).set (1:Nat) (83886080:Int)).set (2:Nat) (117768193:Int)),winL Sh.bool (0:Nat) (3:Nat) ((((List.replicate (3:Nat) Sh.bool.dflt).set (0:Nat) false).set (1:Nat) true).set (2:Nat) true),winL iI 0 2 (((List.replicate (2:Nat) iI.dflt).set (0:Nat) (0:Int)).set (1:Nat) (8:Int)))))).1.1.length (qbu (winL uB 0 (qa8 (winL u4 0 3 ((((List.replicate (3:Nat) u4.dflt).set (0:Nat) (16843267:Int)).set (1:Nat) (83886080:Int)).set (2:Nat) (117768193:Int)),winL Sh.bool (0:Nat) (3:Nat) ((((List.replicate (3:Nat) Sh.bool.dflt).set (0:Nat) false).set (1:Nat) true).set (2:Nat) true),winL iI 0 2 (((List.replicate (2:Nat) iI.dflt).set (0:Nat) (0:Int)).set (1:Nat) (8:Int)))).length (qa8 (winL u4 0 3 ((((List.replicate (3:Nat) u4.dflt).set (0:Nat) (16843267:Int)).set (1:Nat) (83886080:Int)).set (2:Nat) (117768193:Int)),winL Sh.bool (0:Nat) (3:Nat) ((((List.replicate (3:Nat) Sh.bool.dflt).set (0:Nat) false).set (1:Nat) true).set (2:Nat) true),winL iI 0 2 (((List.replicate (2:Nat) iI.dflt).set (0:Nat) (0:Int)).set (1:Nat) (8:Int)))))).1.1,winL Sh.bool (0:Nat) (qbu (winL uB 0 (qa8 (winL u4 0 3 ((((List.replicate (3:Nat) u4.dflt).set (0:Nat) (16843267:Int)).set (1:Nat) (83886080:Int)).set (2:Nat) (117768193:Int)),winL Sh.bool (0:Nat) (3:Nat) ((((List.replicate (3:Nat) Sh.bool.dflt).set (0:Nat) false).set (1:Nat) true).set (2:Nat) true),winL iI 0 2 (((List.replicate (2:Nat) iI.dflt).set (0:Nat) (0:Int)).set (1:Nat) (8:Int)))).length (qa8 (winL u4 0 3 ((((List.replicate (3:Nat) u4.dflt).set (0:Nat) (16843267:Int)).set (1:Nat) (83886080:Int)).set (2:Nat) (117768193:Int)),winL Sh.bool (0:Nat) (3:Nat) ((((List.replicate (3:Nat) Sh.bool.dflt).set (0:Nat) false).set (1:Nat) true).set (2:Nat) true),winL iI 0 2 (((List.replicate (2:Nat) iI.dflt).set (0:Nat) (0:Int)).set (1:Nat) (8:Int)))))).1.2.1.length (qbu (winL uB 0 (qa8 (winL u4 0 3 ((((List.replicate (3:Nat) u4.dflt).set (0:Nat) (16843267:Int)).set (1:Nat) (83886080:Int)).set (2:Nat) (117768193:Int)),winL Sh.bool (0:Nat) (3:Nat) ((((List.replicate (3:Nat) Sh.bool.dflt).set (0:Nat) false).set (1:Nat) true).set (2:Nat) true),winL iI 0 2 (((List.replicate (2:Nat) iI.dflt).set (0:Nat) (0:Int)).set (1:Nat) (8:Int)))).length (qa8 (winL u4 0 3 ((((List.replicate (3:Nat) u4.dflt).set (0:Nat) (16843267:Int)).set (1:Nat) (83886080:Int)).set (2:Nat) (117768193:Int)),winL Sh.bool (0:Nat) (3:Nat) ((((List.replicate (3:Nat) Sh.bool.dflt).set (0:Nat) false).set (1:Nat) true).set (2:Nat) true),winL iI 0 2 (((List.replicate (2:Nat) iI.dflt).set (0:Nat) (0:Int)).set (1:Nat) (8:Int)))))).1.2.1,(qbu (winL uB 0 (qa8 (winL u4 0 3 ((((List.replicate (3:Nat) u4.dflt).set (0:Nat) (16843267:Int)).set (1:Nat) (83886080:Int)).set (2:Nat) (117768193:Int)),winL Sh.bool (0:Nat) (3:Nat) ((((List.replicate (3:Nat) Sh.bool.dflt).set (0:Nat) false).set (1:Nat) true).set (2:Nat) true),winL iI 0 2 (((List.replicate (2:Nat) iI.dflt).set (0:Nat) (0:Int)).set (1:Nat) (8:Int)))).length (qa8 (winL u4 0 3 ((((List.replicate (3:Nat) u4.dflt).set (0:Nat) (16843267:Int)).set (1:Nat) (83886080:Int)).set (2:Nat) (117768193:Int)),winL Sh.bool (0:Nat) (3:Nat) ((((List.replicate (3:Nat) Sh.bool.dflt).set (0:Nat) false).set (1:Nat) true).set (2:Nat) true),winL iI 0 2 (((List.replicate (2:Nat) iI.dflt).set (0:Nat) (0:Int)).set (1:Nat) (8:Int)))))).1.2.2),(winL u4 0 3 ((((List.replicate (3:Nat) u4.dflt).set (0:Nat) (16843267:Int)).set (1:Nat) (83886080:Int)).set (2:Nat) (117768193:Int)),winL Sh.bool (0:Nat) (3:Nat) ((((List.replicate (3:Nat) Sh.bool.dflt).set (0:Nat) false).set (1:Nat) true).set (2:Nat) true),winL iI 0 2 (((List.replicate (2:Nat) iI.dflt).set (0:Nat) (0:Int)).set (1:Nat) (8:Int))),()) /\
 (0:Nat)+(qas (winL uB 0 12 (((((((((((((List.replicate (12:Nat) uB.dflt).set (0:Nat) (1:Int)).set (1:Nat) (1:Int)).set (2:Nat) (2:Int)).set (3:Nat) (3:Int)).set (4:Nat) (5:Int)).set (5:Nat) (255:Int)).set (6:Nat) (255:Int)).set (7:Nat) (255:Int)).set (8:Nat) (7:Int)).set (9:Nat) (5:Int)).set (10:Nat) (0:Int)).set (11:Nat) (0:Int))) (1:Int) (1:Int)).1.length<=(qas (winL uB 0 12 (((((((((((((List.replicate (12:Nat) uB.dflt).set (0:Nat) (1:Int)).set (1:Nat) (1:Int)).set (2:Nat) (2:Int)).set (3:Nat) (3:Int)).set (4:Nat) (5:Int)).set (5:Nat) (255:Int)).set (6:Nat) (255:Int)).set (7:Nat) (255:Int)).set (8:Nat) (7:Int)).set (9:Nat) (5:Int)).set (10:Nat) (0:Int)).set (11:Nat) (0:Int))) (1:Int) (1:Int)).1.length /\
 (0:Nat)+16<=(((((((((((((((((List.replicate (16:Nat) uB.dflt).set (0:Nat) (1:Int)).set (1:Nat) (1:Int)).set (2:Nat) (2:Int)).set (3:Nat) (3:Int)).set (4:Nat) (0:Int)).set (5:Nat) (0:Int)).set (6:Nat) (0:Int)).set (7:Nat) (0:Int)).set (8:Nat) (5:Int)).set (9:Nat) (255:Int)).set (10:Nat) (255:Int)).set (11:Nat) (254:Int)).set (12:Nat) (7:Int)).set (13:Nat) (5:Int)).set (14:Nat) (0:Int)).set (15:Nat) (0:Int)).length /\
 ct_r2.pre (winL uB 0 (qas (winL uB 0 12 (((((((((((((List.replicate (12:Nat) uB.dflt).set (0:Nat) (1:Int)).set (1:Nat) (1:Int)).set (2:Nat) (2:Int)).set (3:Nat) (3:Int)).set (4:Nat) (5:Int)).set (5:Nat) (255:Int)).set (6:Nat) (255:Int)).set (7:Nat) (255:Int)).set (8:Nat) (7:Int)).set (9:Nat) (5:Int)).set (10:Nat) (0:Int)).set (11:Nat) (0:Int))) (1:Int) (1:Int)).1.length (qas (winL uB 0 12 (((((((((((((List.replicate (12:Nat) uB.dflt).set (0:Nat) (1:Int)).set (1:Nat) (1:Int)).set (2:Nat) (2:Int)).set (3:Nat) (3:Int)).set (4:Nat) (5:Int)).set (5:Nat) (255:Int)).set (6:Nat) (255:Int)).set (7:Nat) (255:Int)).set (8:Nat) (7:Int)).set (9:Nat) (5:Int)).set (10:Nat) (0:Int)).set (11:Nat) (0:Int))) (1:Int) (1:Int)).1,winL uB 0 16 (((((((((((((((((List.replicate (16:Nat) uB.dflt).set (0:Nat) (1:Int)).set (1:Nat) (1:Int)).set (2:Nat) (2:Int)).set (3:Nat) (3:Int)).set (4:Nat) (0:Int)).set (5:Nat) (0:Int)).set (6:Nat) (0:Int)).set (7:Nat) (0:Int)).set (8:Nat) (5:Int)).set (9:Nat) (255:Int)).set (10:Nat) (255:Int)).set (11:Nat) (254:Int)).set (12:Nat) (7:Int)).set (13:Nat) (5:Int)).set (14:Nat) (0:Int)).set (15:Nat) (0:Int)),()) /\
 Q [.bool (bif true then decide ((have this:=winL uB 0 (qas (winL uB 0 12 (((((((((((((List.replicate (12:Nat) uB.dflt).set (0:Nat) (1:Int)).set (1:Nat) (1:Int)).set (2:Nat) (2:Int)).set (3:Nat) (3:Int)).set (4:Nat) (5:Int)).set (5:Nat) (255:Int)).set (6:Nat) (255:Int)).set (7:Nat) (255:Int)).set (8:Nat) (7:Int)).set (9:Nat) (5:Int)).set (10:Nat) (0:Int)).set (11:Nat) (0:Int))) (1:Int) (1:Int)).1.length (qas (winL uB 0 12 (((((((((((((List.replicate (12:Nat) uB.dflt).set (0:Nat) (1:Int)).set (1:Nat) (1:Int)).set (2:Nat) (2:Int)).set (3:Nat) (3:Int)).set (4:Nat) (5:Int)).set (5:Nat) (255:Int)).set (6:Nat) (255:Int)).set (7:Nat) (255:Int)).set (8:Nat) (7:Int)).set (9:Nat) (5:Int)).set (10:Nat) (0:Int)).set (11:Nat) (0:Int))) (1:Int) (1:Int)).1;this)=winL uB 0 16 (((((((((((((((((List.replicate (16:Nat) uB.dflt).set (0:Nat) (1:Int)).set (1:Nat) (1:Int)).set (2:Nat) (2:Int)).set (3:Nat) (3:Int)).set (4:Nat) (0:Int)).set (5:Nat) (0:Int)).set (6:Nat) (0:Int)).set (7:Nat) (0:Int)).set (8:Nat) (5:Int)).set (9:Nat) (255:Int)).set (10:Nat) (255:Int)).set (11:Nat) (254:Int)).set (12:Nat) (7:Int)).set (13:Nat) (5:Int)).set (14:Nat) (0:Int)).set (15:Nat) (0:Int))) else false)] [(2,.var [.win true u4 23 0 3,.win true Sh.bool (24:Nat) (0:Nat) 3,.win true iI 25 0 (2:Nat)]),(3,.var [.win false u4 1118784 0 3,.win false Sh.bool (1118785:Nat) (0:Nat) 3,.win false iI 1118786 0 (2:Nat)]),(8,.var [.win true u4 1167936 0 3,.win true Sh.bool (1167937:Nat) (0:Nat) 3,.sl iI (qbu (winL uB 0 (qa8 (winL u4 0 3 ((((List.replicate (3:Nat) u4.dflt).set (0:Nat) (16843267:Int)).set (1:Nat) (83886080:Int)).set (2:Nat) (117768193:Int)),winL Sh.bool (0:Nat) (3:Nat) ((((List.replicate (3:Nat) Sh.bool.dflt).set (0:Nat) false).set (1:Nat) true).set (2:Nat) true),winL iI 0 2 (((List.replicate (2:Nat) iI.dflt).set (0:Nat) (0:Int)).set (1:Nat) (8:Int)))).length (qa8 (winL u4 0 3 ((((List.replicate (3:Nat) u4.dflt).set (0:Nat) (16843267:Int)).set (1:Nat) (83886080:Int)).set (2:Nat) (117768193:Int)),winL Sh.bool (0:Nat) (3:Nat) ((((List.replicate (3:Nat) Sh.bool.dflt).set (0:Nat) false).set (1:Nat) true).set (2:Nat) true),winL iI 0 2 (((List.replicate (2:Nat) iI.dflt).set (0:Nat) (0:Int)).set (1:Nat) (8:Int)))))).1.2.2]),(12,.var [.win false u4 1212992 0 0,.win false Sh.bool (1212993:Nat) (0:Nat) 0,.win false iI 1212994 0 (0:Nat)]),(16,.var [.win true u4 1258048 0 0,.win true Sh.bool (1258049:Nat) (0:Nat) 0,.sl iI (qbu []).1.2.2]),(22,.row 5 uB (((((((((((((List.replicate (12:Nat) uB.dflt).set (0:Nat) (1:Int)).set (1:Nat) (1:Int)).set (2:Nat) (2:Int)).set (3:Nat) (3:Int)).set (4:Nat) (5:Int)).set (5:Nat) (255:Int)).set (6:Nat) (255:Int)).set (7:Nat) (255:Int)).set (8:Nat) (7:Int)).set (9:Nat) (5:Int)).set (10:Nat) (0:Int)).set (11:Nat) (0:Int))),(23,.row 53 u4 ((((List.replicate (3:Nat) u4.dflt).set (0:Nat) (16843267:Int)).set (1:Nat) (83886080:Int)).set (2:Nat) (117768193:Int))),(24,.row 4 Sh.bool ((((List.replicate (3:Nat) Sh.bool.dflt).set (0:Nat) false).set (1:Nat) true).set (2:Nat) true)),(25,.row 3 iI (((List.replicate (2:Nat) iI.dflt).set (0:Nat) (0:Int)).set (1:Nat) (8:Int))),(56,.row 53 u4 ([(83886080:Int)]:List u4.D)),(57,.row 4 Sh.bool ([false]:List Sh.bool.D)),(102,.row 5 uB ((((((((((((((((((((((List.replicate (21:Nat) uB.dflt).set (0:Nat) (0:Int)).set (1:Nat) (3:Int)).set (2:Nat) (0:Int)).set (3:Nat) (2:Int)).set (4:Nat) (0:Int)).set (5:Nat) (0:Int)).set (6:Nat) (0:Int)).set (7:Nat) (2:Int)).set (8:Nat) (6:Int)).set (9:Nat) (1:Int)).set (10:Nat) (1:Int)).set (11:Nat) (2:Int)).set (12:Nat) (3:Int)).set (13:Nat) (5:Int)).set (14:Nat) (0:Int)).set (15:Nat) (0:Int)).set (16:Nat) (0:Int)).set (17:Nat) (7:Int)).set (18:Nat) (5:Int)).set (19:Nat) (0:Int)).set (20:Nat) (1:Int))),(125,.row 5 uB (((((((((((((((((List.replicate (16:Nat) uB.dflt).set (0:Nat) (1:Int)).set (1:Nat) (1:Int)).set (2:Nat) (2:Int)).set (3:Nat) (3:Int)).set (4:Nat) (0:Int)).set (5:Nat) (0:Int)).set (6:Nat) (0:Int)).set (7:Nat) (0:Int)).set (8:Nat) (5:Int)).set (9:Nat) (255:Int)).set (10:Nat) (255:Int)).set (11:Nat) (254:Int)).set (12:Nat) (7:Int)).set (13:Nat) (5:Int)).set (14:Nat) (0:Int)).set (15:Nat) (0:Int))),(1118784,.row 53 u4 (qai (winL uB 0 12 (((((((((((((List.replicate (12:Nat) uB.dflt).set (0:Nat) (1:Int)).set (1:Nat) (1:Int)).set (2:Nat) (2:Int)).set (3:Nat) (3:Int)).set (4:Nat) (5:Int)).set (5:Nat) (255:Int)).set (6:Nat) (255:Int)).set (7:Nat) (255:Int)).set (8:Nat) (7:Int)).set (9:Nat) (5:Int)).set (10:Nat) (0:Int)).set (11:Nat) (0:Int)))).w),(1118785,.row 4 Sh.bool (qai (winL uB 0 12 (((((((((((((List.replicate (12:Nat) uB.dflt).set (0:Nat) (1:Int)).set (1:Nat) (1:Int)).set (2:Nat) (2:Int)).set (3:Nat) (3:Int)).set (4:Nat) (5:Int)).set (5:Nat) (255:Int)).set (6:Nat) (255:Int)).set (7:Nat) (255:Int)).set (8:Nat) (7:Int)).set (9:Nat) (5:Int)).set (10:Nat) (0:Int)).set (11:Nat) (0:Int)))).m),(1118786,.row 3 iI (qai (winL uB 0 12 (((((((((((((List.replicate (12:Nat) uB.dflt).set (0:Nat) (1:Int)).set (1:Nat) (1:Int)).set (2:Nat) (2:Int)).set (3:Nat) (3:Int)).set (4:Nat) (5:Int)).set (5:Nat) (255:Int)).set (6:Nat) (255:Int)).set (7:Nat) (255:Int)).set (8:Nat) (7:Int)).set (9:Nat) (5:Int)).set (10:Nat) (0:Int)).set (11:Nat) (0:Int)))).t),(1139264,.row 5 uB (qa2 (winL u4 0 3 ((((List.replicate (3:Nat) u4.dflt).set (0:Nat) (16843267:Int)).set (1:Nat) (83886080:Int)).set (2:Nat) (117768193:Int))) (winL Sh.bool (0:Nat) (3:Nat) ((((List.replicate (3:Nat) Sh.bool.dflt).set (0:Nat) false).set (1:Nat) true).set (2:Nat) true)) (winL iI 0 2 (((List.replicate (2:Nat) iI.dflt).set (0:Nat) (0:Int)).set (1:Nat) (8:Int)))).1),(1167936,.row 53 u4 (qbu (winL uB 0 (qa8 (winL u4 0 3 ((((List.replicate (3:Nat) u4.dflt).set (0:Nat) (16843267:Int)).set (1:Nat) (83886080:Int)).set (2:Nat) (117768193:Int)),winL Sh.bool (0:Nat) (3:Nat) ((((List.replicate (3:Nat) Sh.bool.dflt).set (0:Nat) false).set (1:Nat) true).set (2:Nat) true),winL iI 0 2 (((List.replicate (2:Nat) iI.dflt).set (0:Nat) (0:Int)).set (1:Nat) (8:Int)))).length (qa8 (winL u4 0 3 ((((List.replicate (3:Nat) u4.dflt).set (0:Nat) (16843267:Int)).set (1:Nat) (83886080:Int)).set (2:Nat) (117768193:Int)),winL Sh.bool (0:Nat) (3:Nat) ((((List.replicate (3:Nat) Sh.bool.dflt).set (0:Nat) false).set (1:Nat) true).set (2:Nat) true),winL iI 0 2 (((List.replicate (2:Nat) iI.dflt).set (0:Nat) (0:Int)).set (1:Nat) (8:Int)))))).1.1),(1167937,.row 4 Sh.bool (qbu (winL uB 0 (qa8 (winL u4 0 3 ((((List.replicate (3:Nat) u4.dflt).set (0:Nat) (16843267:Int)).set (1:Nat) (83886080:Int)).set (2:Nat) (117768193:Int)),winL Sh.bool (0:Nat) (3:Nat) ((((List.replicate (3:Nat) Sh.bool.dflt).set (0:Nat) false).set (1:Nat) true).set (2:Nat) true),winL iI 0 2 (((List.replicate (2:Nat) iI.dflt).set (0:Nat) (0:Int)).set (1:Nat) (8:Int)))).length (qa8 (winL u4 0 3 ((((List.replicate (3:Nat) u4.dflt).set (0:Nat) (16843267:Int)).set (1:Nat) (83886080:Int)).set (2:Nat) (117768193:Int)),winL Sh.bool (0:Nat) (3:Nat) ((((List.replicate (3:Nat) Sh.bool.dflt).set (0:Nat) false).set (1:Nat) true).set (2:Nat) true),winL iI 0 2 (((List.replicate (2:Nat) iI.dflt).set (0:Nat) (0:Int)).set (1:Nat) (8:Int)))))).1.2.1),(1188416,.row 5 uB (qas (winL uB 0 12 (((((((((((((List.replicate (12:Nat) uB.dflt).set (0:Nat) (1:Int)).set (1:Nat) (1:Int)).set (2:Nat) (2:Int)).set (3:Nat) (3:Int)).set (4:Nat) (5:Int)).set (5:Nat) (255:Int)).set (6:Nat) (255:Int)).set (7:Nat) (255:Int)).set (8:Nat) (7:Int)).set (9:Nat) (5:Int)).set (10:Nat) (0:Int)).set (11:Nat) (0:Int))) (1:Int) (1:Int)).1),(1212992,.row 53 u4 (qai (winL uB ((0:Nat)+0) (3-0) (((((((((((((List.replicate (12:Nat) uB.dflt).set (0:Nat) (1:Int)).set (1:Nat) (1:Int)).set (2:Nat) (2:Int)).set (3:Nat) (3:Int)).set (4:Nat) (5:Int)).set (5:Nat) (255:Int)).set (6:Nat) (255:Int)).set (7:Nat) (255:Int)).set (8:Nat) (7:Int)).set (9:Nat) (5:Int)).set (10:Nat) (0:Int)).set (11:Nat) (0:Int)))).w),(1212993,.row 4 Sh.bool (qai (winL uB ((0:Nat)+0) (3-0) (((((((((((((List.replicate (12:Nat) uB.dflt).set (0:Nat) (1:Int)).set (1:Nat) (1:Int)).set (2:Nat) (2:Int)).set (3:Nat) (3:Int)).set (4:Nat) (5:Int)).set (5:Nat) (255:Int)).set (6:Nat) (255:Int)).set (7:Nat) (255:Int)).set (8:Nat) (7:Int)).set (9:Nat) (5:Int)).set (10:Nat) (0:Int)).set (11:Nat) (0:Int)))).m),(1212994,.row 3 iI (qai (winL uB ((0:Nat)+0) (3-0) (((((((((((((List.replicate (12:Nat) uB.dflt).set (0:Nat) (1:Int)).set (1:Nat) (1:Int)).set (2:Nat) (2:Int)).set (3:Nat) (3:Int)).set (4:Nat) (5:Int)).set (5:Nat) (255:Int)).set (6:Nat) (255:Int)).set (7:Nat) (255:Int)).set (8:Nat) (7:Int)).set (9:Nat) (5:Int)).set (10:Nat) (0:Int)).set (11:Nat) (0:Int)))).t),(1241664,.row 5 uB (qa2 (([(83886080:Int)]:List u4.D)) (([false]:List Sh.bool.D)) []).1),(1258048,.row 53 u4 (qbu []).1.1),(1258049,.row 4 Sh.bool (qbu []).1.2.1),(1278528,.row 5 uB (qas (winL uB 0 12 (((((((((((((List.replicate (12:Nat) uB.dflt).set (0:Nat) (1:Int)).set (1:Nat) (1:Int)).set (2:Nat) (2:Int)).set (3:Nat) (3:Int)).set (4:Nat) (5:Int)).set (5:Nat) (255:Int)).set (6:Nat) (255:Int)).set (7:Nat) (255:Int)).set (8:Nat) (7:Int)).set (9:Nat) (5:Int)).set (10:Nat) (0:Int)).set (11:Nat) (0:Int))) (4:Int) (0:Int)).1)]):=by kernel_rfl
end Go.Proofs.YtplkpodikhfcdaaDoor
namespace Go.Proofs.YtplkpodikhfcdaaDoor
open Go.Px Go.Ax
set_option maxRecDepth 100000
attribute [local irreducible] Go.Px.sy Go.Px.syE
theorem qo5 {b:List Int} (h:∀ x∈b,0<=x/\x<256):u8L b:=fun j=>by
 by_cases hj:j<b.length
 ·rw[qp9 hj];exact h _ (List.getElem_mem hj)
 ·have:gtB b j=0:=by
   show gt uB _ _=_
   unfold gt;rw[List.getElem?_eq_none (by omega)];rfl
  rw[this];exact ⟨by decide,by decide⟩
theorem qvz {b:List Int} (h:∀ x∈b,0<=x/\x<4294967296) (j:Nat):0<=gtW b j/\gtW b j<4294967296:=by
 by_cases hj:j<b.length
 ·rw[qcl hj];exact h _ (List.getElem_mem hj)
 ·have:gtW b j=0:=by
   show gt u4 _ _=_
   unfold gt;rw[List.getElem?_eq_none (by omega)];rfl
  rw[this];decide
theorem q25 {l:List Int} (h:∀ x∈l,-1073741824<=x/\x<=1073741824):q0u l:=fun j=>by
 have r : -1073741824<=gtI l j/\gtI l j<=1073741824:=by
  by_cases hj:j<l.length
  ·rw[qel hj];exact h _ (List.getElem_mem hj)
  ·have:gtI l j=0:=by
    show gt iI _ _=_
    unfold gt;rw[List.getElem?_eq_none (by omega)];rfl
   rw[this];decide
 omega
theorem qn7 {l:List Int} (h1:∀ w∈l,0<=w/\w<4294967296) (h2:l.length<=16384) (h3:(lnk l).length<=12):qrh l:=⟨⟨h1,h2⟩,h3⟩
theorem qjd {b:List Int} (h1:∀ x∈b,0<=x/\x<256) (h2:b.length<33554432) (h3:∀ w∈(qae b).1,0<=w/\w<4294967296) (h4:(qae b).1.length<=16384) (h5:(lnk (qae b).1).length<=12):qhc b:=fun _=>⟨⟨qo5 h1,h2⟩,fun _=>qn7 h3 h4 h5⟩
theorem qhb {w:List Int} {m:List Bool} {l:List Int} (h1:∀ x∈w,0<=x/\x<4294967296) (h2:∀ x∈l,-1073741824<=x/\x<=1073741824) (h3:∀ x∈(loV w m l).1,0<=x/\x<4294967296) (h4:(loV w m l).1.length<=16384) (h5:(lnk (loV w m l).1).length<=12):qe0 w m l:=⟨⟨qvz h1,q25 h2⟩,fun _=>qn7 h3 h4 h5⟩
def ctSanL:Ctr:=⟨[],fun _=>True,fun _=>[.bool true],fun _=>[]⟩
theorem q0l (R:List Item->PS->Prop):sy tt G0 CSl Tryd.f11.ntmps Tryd.f11.results.toList (QC ctSanL ()) R 1000 [.code (qah Tryd.f11)] (entry [] ()):=by
 refine (q3x _ _).mpr ?_
 repeat' first
  | exact trivial
  | (show qhc _;refine qjd ?_ ?_ ?_ ?_ ?_ <;> decide +kernel)
  | (show qe0 _ _ _;refine qhb ?_ ?_ ?_ ?_ ?_ <;> decide +kernel)
  | (show qri _;refine ⟨⟨qo5 ?_,?_⟩,fun _=>⟨⟨?_,?_,?_⟩,fun _=>qhb ?_ ?_ ?_ ?_ ?_⟩⟩ <;> decide +kernel)
  | (show qh6 _ _ _;refine ⟨qjd ?_ ?_ ?_ ?_ ?_,fun _=>qhb ?_ ?_ ?_ ?_ ?_⟩ <;> decide +kernel)
  | (show qz6 _;refine ⟨?_,?_,?_⟩ <;> decide +kernel)
  | (show q4v _;refine ⟨?_,?_,?_⟩ <;> decide +kernel)
  | (show List.length _<1099511627776;decide +kernel)
  | decide +kernel
  | refine And.intro ?_ ?_
  | (refine QC.flat ?_ rfl rfl;refine congrArg (fun b=>[SV.bool b]) ?_;decide +kernel)
theorem qxd:Held Tryd.prog G0 11 ctSanL:=Held.run cxSl (fn:=Tryd.f11) rfl rfl ⟨by decide,by decide⟩ fun x _=>q0l _
end Go.Proofs.YtplkpodikhfcdaaDoor
namespace Go.Proofs.YtplkpodikhfcdaaDoor
open Go.Px Go.Ax
open Go.IntKind(i64 u32 u8)
set_option maxRecDepth 100000
set_option maxRecDepth 100000
theorem qnv (x:List Int) (Q:QT) (R:RT):sy tt G0 [] Tryd.f29.ntmps Tryd.f29.results.toList Q R 1000 [.code (qah Tryd.f29)] (entry [.arr 4 (.int .u8)] (x,())) =
  ((0:Int)<=0 /\
 (0:Int)<(↑(4:Nat):Int) /\
 0<4 /\
 (10:Int)≠0 /\
 (0:Int)<=1 /\
 (1:Int)<(↑(4:Nat):Int) /\
 1<4 /\
 (0:Int)<=0 /\
 (0:Int)<(↑(4:Nat):Int) /\
 0<4 /\
 bc (decide (gtB x (0)<200)) ((16:Int)≠0 /\
 (0:Int)<=2 /\
 (2:Int)<(↑(4:Nat):Int) /\
 2<4 /\
 (0:Int)<=3 /\
 (3:Int)<(↑(4:Nat):Int) /\
 3<4 /\
 bc (decide (u32.wrap (Int.tmod (gtB x (0)) (10:Int))=(1:Int))) (true=true /\
 true=true /\
 (17:Int)≠0 /\
 (17:Int)≠0 /\
 (0:Int)<=24 /\
 (0:Int)<=16 /\
 (0:Int)<=8 /\
 Q [.int .u32 (bitI BinOp.or u32 (bitI BinOp.or u32 (bitI BinOp.or u32 (u32.wrap (u32.wrap (Int.tmod (gtB x (0)) (10:Int))*(2:Int) ^ min (24) u32.bits)) (u32.wrap ((u32.wrap (gtB x (1))).tmod (16:Int)*(2:Int) ^ min (16) u32.bits))) (u32.wrap ((u32.wrap (gtB x (2))).tmod (17:Int)*(2:Int) ^ min (8) u32.bits))) ((u32.wrap (gtB x (3))).tmod (17:Int)))] [(1,.var [.arr (4:Nat) uB x])]) (bc (bif false then true else decide (u32.wrap (Int.tmod (gtB x (0)) (10:Int))=(3:Int))) (true=true /\
 (17:Int)≠0 /\
 (17:Int)≠0 /\
 (0:Int)<=24 /\
 (0:Int)<=16 /\
 (0:Int)<=8 /\
 Q [.int .u32 (bitI BinOp.or u32 (bitI BinOp.or u32 (bitI BinOp.or u32 (u32.wrap (u32.wrap (Int.tmod (gtB x (0)) (10:Int))*(2:Int) ^ min (24) u32.bits)) (u32.wrap ((u32.wrap (gtB x (1))).tmod (16:Int)*(2:Int) ^ min (16) u32.bits))) (u32.wrap ((u32.wrap (gtB x (2))).tmod (17:Int)*(2:Int) ^ min (8) u32.bits))) ((u32.wrap (gtB x (3))).tmod (17:Int)))] [(1,.var [.arr (4:Nat) uB x])]) (bc (bif false then true else decide (u32.wrap (Int.tmod (gtB x (0)) (10:Int))=(4:Int))) ((17:Int)≠0 /\
 (17:Int)≠0 /\
 (0:Int)<=24 /\
 (0:Int)<=16 /\
 (0:Int)<=8 /\
 Q [.int .u32 (bitI BinOp.or u32 (bitI BinOp.or u32 (bitI BinOp.or u32 (u32.wrap (u32.wrap (Int.tmod (gtB x (0)) (10:Int))*(2:Int) ^ min (24) u32.bits)) (u32.wrap ((u32.wrap (gtB x (1))).tmod (16:Int)*(2:Int) ^ min (16) u32.bits))) (u32.wrap ((u32.wrap (gtB x (2))).tmod (17:Int)*(2:Int) ^ min (8) u32.bits))) ((u32.wrap (gtB x (3))).tmod (17:Int)))] [(1,.var [.arr (4:Nat) uB x])]) ((0:Int)<=24 /\
 (0:Int)<=16 /\
 (0:Int)<=8 /\
 Q [.int .u32 (bitI BinOp.or u32 (bitI BinOp.or u32 (bitI BinOp.or u32 (u32.wrap (u32.wrap (Int.tmod (gtB x (0)) (10:Int))*(2:Int) ^ min (24) u32.bits)) (u32.wrap ((u32.wrap (gtB x (1))).tmod (16:Int)*(2:Int) ^ min (16) u32.bits))) (u32.wrap (u32.wrap (gtB x (2))*(2:Int) ^ min (8) u32.bits))) (u32.wrap (gtB x (3))))] [(1,.var [.arr (4:Nat) uB x])])))) ((0:Int)<=2 /\
 (2:Int)<(↑(4:Nat):Int) /\
 2<4 /\
 (0:Int)<=3 /\
 (3:Int)<(↑(4:Nat):Int) /\
 3<4 /\
 bc (decide (u32.wrap (Int.tmod (gtB x (0)) (10:Int))=(1:Int))) (true=true /\
 true=true /\
 (17:Int)≠0 /\
 (17:Int)≠0 /\
 (0:Int)<=24 /\
 (0:Int)<=16 /\
 (0:Int)<=8 /\
 Q [.int .u32 (bitI BinOp.or u32 (bitI BinOp.or u32 (bitI BinOp.or u32 (u32.wrap (u32.wrap (Int.tmod (gtB x (0)) (10:Int))*(2:Int) ^ min (24) u32.bits)) (u32.wrap (u32.wrap (gtB x (1))*(2:Int) ^ min (16) u32.bits))) (u32.wrap ((u32.wrap (gtB x (2))).tmod (17:Int)*(2:Int) ^ min (8) u32.bits))) ((u32.wrap (gtB x (3))).tmod (17:Int)))] [(1,.var [.arr (4:Nat) uB x])]) (bc (bif false then true else decide (u32.wrap (Int.tmod (gtB x (0)) (10:Int))=(3:Int))) (true=true /\
 (17:Int)≠0 /\
 (17:Int)≠0 /\
 (0:Int)<=24 /\
 (0:Int)<=16 /\
 (0:Int)<=8 /\
 Q [.int .u32 (bitI BinOp.or u32 (bitI BinOp.or u32 (bitI BinOp.or u32 (u32.wrap (u32.wrap (Int.tmod (gtB x (0)) (10:Int))*(2:Int) ^ min (24) u32.bits)) (u32.wrap (u32.wrap (gtB x (1))*(2:Int) ^ min (16) u32.bits))) (u32.wrap ((u32.wrap (gtB x (2))).tmod (17:Int)*(2:Int) ^ min (8) u32.bits))) ((u32.wrap (gtB x (3))).tmod (17:Int)))] [(1,.var [.arr (4:Nat) uB x])]) (bc (bif false then true else decide (u32.wrap (Int.tmod (gtB x (0)) (10:Int))=(4:Int))) ((17:Int)≠0 /\
 (17:Int)≠0 /\
 (0:Int)<=24 /\
 (0:Int)<=16 /\
 (0:Int)<=8 /\
 Q [.int .u32 (bitI BinOp.or u32 (bitI BinOp.or u32 (bitI BinOp.or u32 (u32.wrap (u32.wrap (Int.tmod (gtB x (0)) (10:Int))*(2:Int) ^ min (24) u32.bits)) (u32.wrap (u32.wrap (gtB x (1))*(2:Int) ^ min (16) u32.bits))) (u32.wrap ((u32.wrap (gtB x (2))).tmod (17:Int)*(2:Int) ^ min (8) u32.bits))) ((u32.wrap (gtB x (3))).tmod (17:Int)))] [(1,.var [.arr (4:Nat) uB x])]) ((0:Int)<=24 /\
 (0:Int)<=16 /\
 (0:Int)<=8 /\
 Q [.int .u32 (bitI BinOp.or u32 (bitI BinOp.or u32 (bitI BinOp.or u32 (u32.wrap (u32.wrap (Int.tmod (gtB x (0)) (10:Int))*(2:Int) ^ min (24) u32.bits)) (u32.wrap (u32.wrap (gtB x (1))*(2:Int) ^ min (16) u32.bits))) (u32.wrap (u32.wrap (gtB x (2))*(2:Int) ^ min (8) u32.bits))) (u32.wrap (gtB x (3))))] [(1,.var [.arr (4:Nat) uB x])]))))):=by kernel_rfl
theorem qy5 (o n:Int) (Q:QT) (R:RT):sy tt G0 [] Tryd.f71.ntmps Tryd.f71.results.toList Q R 1000 [.code (qah Tryd.f71)] (entry [iI,iI] (o,n,())) =
  ((0:Int)<=24 /\
 Q [.int .u32 (bitI BinOp.or u32 (u32.wrap (u32.wrap o*(2:Int) ^ min (24) u32.bits)) (u32.wrap (bitI BinOp.and i64 n (16777215:Int))))] []):=by kernel_rfl
theorem qvj (n:Int) (Q:QT) (R:RT):sy tt G0 [] Tryd.f60.ntmps Tryd.f60.results.toList Q R 1000 [.code (qah Tryd.f60)] (entry [iI,iI] (n,24,())) =
  ((0:Int)<=i64.wrap ((24:iI.D)-1) /\
 bc (decide (i64.wrap ((1:Int)*(2:Int) ^ min (i64.wrap ((24:iI.D)-1)).toNat i64.bits)<=n)) ((0:Int)<=(24:iI.D) /\
 Q [.int .i64 (i64.wrap (n-i64.wrap ((1:Int)*(2:Int) ^ min (Int.toNat (24:iI.D)) i64.bits)))] []) (Q [.int .i64 n] [])):=by kernel_rfl
theorem qvk (n:Int) (Q:QT) (R:RT):sy tt G0 [] Tryd.f60.ntmps Tryd.f60.results.toList Q R 1000 [.code (qah Tryd.f60)] (entry [iI,iI] (n,16,())) =
  ((0:Int)<=i64.wrap ((16:iI.D)-1) /\
 bc (decide (i64.wrap ((1:Int)*(2:Int) ^ min (i64.wrap ((16:iI.D)-1)).toNat i64.bits)<=n)) ((0:Int)<=(16:iI.D) /\
 Q [.int .i64 (i64.wrap (n-i64.wrap ((1:Int)*(2:Int) ^ min (Int.toNat (16:iI.D)) i64.bits)))] []) (Q [.int .i64 n] [])):=by kernel_rfl
theorem qy6 (l:List Int) (Q:QT) (R:RT):sy tt G0 [] Tryd.f23.ntmps Tryd.f23.results.toList Q (fun it S=>R it (qbe [0,3,4] [5] S)) 1000 [.code (qah Tryd.f23)] (entry [.sl u4] (l,())) =
  (R (hd Tryd.f23 0) { env:=[(0,.sl u4 l),(3,.win true uB 5 0 (0:Nat)),(4,.int .i64 0)],blk:=[(5,.row 5 uB (List.replicate (0:Nat) uB.dflt))] }):=by kernel_rfl
theorem qo1 (l o:List Int) (i:Nat) (Q:QT) (R:RT):sy tt G0 [] Tryd.f23.ntmps Tryd.f23.results.toList Q (fun it S=>R it (qbe [0,3,4] [5,37] S)) 1000 (hd Tryd.f23 0) ⟨[(0,.sl u4 l),(3,.win true uB 5 0 o.length),(4,.int .i64 (i:Nat))],[(5,.row 5 uB o)]⟩ =
  (bc (decide ((i:Int)<(l.length:Int))) ((0:Int)<=(i:Int) /\
 (i:Int)<(l.length:Int) /\
 (0:Int)<=24 /\
 (0:Int)<=(i:Int) /\
 (i:Int)<(l.length:Int) /\
 (0:Int)<=16 /\
 (0:Int)<=(i:Int) /\
 (i:Int)<(l.length:Int) /\
 (0:Int)<=8 /\
 (0:Int)<=(i:Int) /\
 (i:Int)<(l.length:Int) /\
 (0:Nat)+4<=(((((List.replicate (4:Nat) uB.dflt).set (0:Nat) (u8.wrap (Int.fdiv (gtW l (i:Int).toNat) ((2:Int) ^ min (24) u32.bits)))).set (1:Nat) (u8.wrap (Int.fdiv (gtW l (i:Int).toNat) ((2:Int) ^ min (16) u32.bits)))).set (2:Nat) (u8.wrap (Int.fdiv (gtW l (i:Int).toNat) ((2:Int) ^ min (8) u32.bits)))).set (3:Nat) (u8.wrap (gtW l (i:Int).toNat))).length /\
 o.length=o.length /\
 (0:Nat)=(0:Nat) /\
 o.length+(winL uB 0 4 (((((List.replicate (4:Nat) uB.dflt).set (0:Nat) (u8.wrap (Int.fdiv (gtW l (i:Int).toNat) ((2:Int) ^ min (24) u32.bits)))).set (1:Nat) (u8.wrap (Int.fdiv (gtW l (i:Int).toNat) ((2:Int) ^ min (16) u32.bits)))).set (2:Nat) (u8.wrap (Int.fdiv (gtW l (i:Int).toNat) ((2:Int) ^ min (8) u32.bits)))).set (3:Nat) (u8.wrap (gtW l (i:Int).toNat)))).length<2 ^ 30 /\
 (1:Nat)<=2 ^ 10 /\
 R (hd Tryd.f23 0) { env:=[(0,.sl u4 l),(3,.win true uB 37 0 (o.length+(winL uB 0 4 (((((List.replicate (4:Nat) uB.dflt).set (0:Nat) (u8.wrap (Int.fdiv (gtW l (i:Int).toNat) ((2:Int) ^ min (24) u32.bits)))).set (1:Nat) (u8.wrap (Int.fdiv (gtW l (i:Int).toNat) ((2:Int) ^ min (16) u32.bits)))).set (2:Nat) (u8.wrap (Int.fdiv (gtW l (i:Int).toNat) ((2:Int) ^ min (8) u32.bits)))).set (3:Nat) (u8.wrap (gtW l (i:Int).toNat)))).length)),(4,.int .i64 (i64.wrap ((i:Int)+1)))],blk:=[(37,.row 5 uB (o++winL uB 0 4 (((((List.replicate (4:Nat) uB.dflt).set (0:Nat) (u8.wrap (Int.fdiv (gtW l (i:Int).toNat) ((2:Int) ^ min (24) u32.bits)))).set (1:Nat) (u8.wrap (Int.fdiv (gtW l (i:Int).toNat) ((2:Int) ^ min (16) u32.bits)))).set (2:Nat) (u8.wrap (Int.fdiv (gtW l (i:Int).toNat) ((2:Int) ^ min (8) u32.bits)))).set (3:Nat) (u8.wrap (gtW l (i:Int).toNat)))))] }) (Q [.win true uB 5 0 o.length] [(5,.row 5 uB o)])):=by kernel_rfl
end Go.Proofs.YtplkpodikhfcdaaDoor
namespace Go.Proofs.YtplkpodikhfcdaaDoor
open Go.Px Go.Ax
open Go.IntKind(i64 u32 u8)
set_option maxRecDepth 100000
attribute [local irreducible] Go.Px.sy Go.Px.syE
theorem qyb {α:Type} {b:Bool} {A B:α->Prop} (ha:b=true->∃ r,A r) (hb:b=false->∃ r,B r):∃ r,bc b (A r) (B r):=by
 cases b with
 | true=>exact ha rfl
 | false=>exact hb rfl
theorem qdr {α:Type} {c:Prop} {A:α->Prop} (h:c) (ha:∃ r,A r):∃ r,c/\A r:=by
 obtain ⟨r,hr⟩:=ha;exact ⟨r,h,hr⟩
theorem qys (op:BinOp) (a b:Int):0<=bitI op .u32 a b/\bitI op .u32 a b<4294967296:=by
 have w:∀ n:Int,0<=u32.wrap n/\u32.wrap n<4294967296:=fun n=>by
  rw[show u32.wrap n=n % 4294967296 from rfl];omega
 unfold bitI;split <;> exact w _
abbrev R00:List Item->PS->Prop:=fun _ _=>False
theorem q21 (x:List Int):∃ m:Int,sy tt G0 [] Tryd.f29.ntmps Tryd.f29.results.toList (fun rs _=>rs=[SV.int .u32 m]/\(0<=m/\m<4294967296)) R00 1000 [.code (qah Tryd.f29)] (entry [.arr 4 (.int .u8)] (x,())):=by
 have e:=fun m:Int=>qnv x (fun rs _=>rs=[SV.int .u32 m]/\(0<=m/\m<4294967296)) R00
 simp only[e]
 repeat' first
  | exact ⟨_,rfl,qys _ _ _⟩
  | refine qdr (by decide) ?_
  | refine qyb (fun _=>?_) (fun _=>?_)
noncomputable def madV (x:List Int):Int:=Classical.choose (q21 x)
theorem q5j (x:List Int) (R:List Item->PS->Prop):sy tt G0 [] Tryd.f29.ntmps Tryd.f29.results.toList (fun rs _=>rs=[SV.int .u32 (madV x)]/\(0<=madV x/\madV x<4294967296)) R 1000 [.code (qah Tryd.f29)] (entry [.arr 4 (.int .u8)] (x,())):=
 (qnv x _ R).mpr ((qnv x _ R00).mp (Classical.choose_spec (q21 x)))
noncomputable def ctMad:Ctr:=⟨[.arr 4 (.int .u8)],fun _=>True,fun x=>[.int .u32 (madV x.1)],fun _=>[]⟩
theorem q0k:Held Tryd.prog G0 29 ctMad:=Held.of cx0 (fn:=Tryd.f29) rfl rfl ⟨by decide,by decide⟩ fun x _=>(qdx cx0 _ _ _ (q5j x.1 _)).post fun rs blk h=>by
 obtain ⟨rfl,_⟩:=h;exact QC.flat rfl rfl rfl
def wrdV (o n:Int):Int:=bitI .or .u32 (u32.wrap (u32.wrap o*(2:Int) ^ min 24 u32.bits)) (u32.wrap (bitI .and .i64 n 16777215))
def ctWrd:Ctr:=⟨[iI,iI],fun _=>True,fun x=>[.int .u32 (wrdV x.1 x.2.1)],fun _=>[]⟩
theorem qy3:Held Tryd.prog G0 71 ctWrd:=Held.run cx0 (fn:=Tryd.f71) rfl rfl ⟨by decide,by decide⟩ fun ⟨o,n,_⟩ _=>(qy5 o n _ _).mpr ⟨by decide,QC.flat rfl rfl rfl⟩
def sgV (n b:Int):Int:=if b=24 then (if 8388608<=n then i64.wrap (n-16777216) else n) else (if 32768<=n then i64.wrap (n-65536) else n)
def ctSg:Ctr:=⟨[iI,iI],fun x=>x.2.1=24\/x.2.1=16,fun x=>[.int .i64 (sgV x.1 x.2.1)],fun _=>[]⟩
theorem qzq (n:Int) (R:List Item->PS->Prop):sy tt G0 [] Tryd.f60.ntmps Tryd.f60.results.toList (QC ctSg (n,24,())) R 1000 [.code (qah Tryd.f60)] (entry [iI,iI] (n,24,())):=by
 refine (qvj n _ _).mpr ⟨by decide,qav (fun h=>⟨by decide,?_⟩) (fun h=>?_)⟩
 ·have h:(8388608:Int)<=n:=of_decide_eq_true h;exact QC.flat (by show [SV.int .i64 (sgV n 24)]=_;unfold sgV;rw[if_pos rfl,if_pos h];rfl) rfl rfl
 ·have h:¬ (8388608:Int)<=n:=of_decide_eq_false h;exact QC.flat (by show [SV.int .i64 (sgV n 24)]=_;unfold sgV;rw[if_pos rfl,if_neg h]) rfl rfl
theorem qzr (n:Int) (R:List Item->PS->Prop):sy tt G0 [] Tryd.f60.ntmps Tryd.f60.results.toList (QC ctSg (n,16,())) R 1000 [.code (qah Tryd.f60)] (entry [iI,iI] (n,16,())):=by
 refine (qvk n _ _).mpr ⟨by decide,qav (fun h=>⟨by decide,?_⟩) (fun h=>?_)⟩
 ·have h:(32768:Int)<=n:=of_decide_eq_true h;exact QC.flat (by show [SV.int .i64 (sgV n 16)]=_;unfold sgV;rw[if_neg (by decide),if_pos h];rfl) rfl rfl
 ·have h:¬ (32768:Int)<=n:=of_decide_eq_false h;exact QC.flat (by show [SV.int .i64 (sgV n 16)]=_;unfold sgV;rw[if_neg (by decide),if_neg h]) rfl rfl
theorem q4g:Held Tryd.prog G0 60 ctSg:=Held.run cx0 (fn:=Tryd.f60) rfl rfl ⟨by decide,by decide⟩ fun ⟨n,b,_⟩ hp=>by
 have hp:b=24\/b=16:=hp;rcases hp with rfl | rfl
 ·exact qzq n _
 ·exact qzr n _
def rby4 (w:Int):List Int:=[u8.wrap (Int.fdiv w ((2:Int) ^ min 24 u32.bits)),u8.wrap (Int.fdiv w ((2:Int) ^ min 16 u32.bits)),u8.wrap (Int.fdiv w ((2:Int) ^ min 8 u32.bits)),u8.wrap w]
def bytL (l:List Int):List Int:=l.flatMap rby4
theorem qov:∀ l,(bytL l).length=4*l.length
 | []=>rfl
 | w::l=>by
  show (rby4 w++bytL l).length=_
  rw[List.length_append,qov l,List.length_cons]
  show 4+_=_
  omega
theorem q3g:∀ l,∀ x∈bytL l,0<=x/\x<256
 | [],x,h=>by cases h
 | w::l,x,h=>by
  have h:x∈rby4 w++bytL l:=h;rcases List.mem_append.1 h with h | h
  ·have r:∀ n:Int,0<=u8.wrap n/\u8.wrap n<256:=fun n=>by
    rw[show u8.wrap n=n % 256 from rfl];omega
   unfold rby4 at h;simp only[List.mem_cons,List.not_mem_nil,or_false] at h;rcases h with rfl | rfl | rfl | rfl <;> exact r _
  ·exact q3g l x h
def ctByt:Ctr:=⟨[.sl u4],fun x=>List.length x.1<1000000,fun x=>[.win true uB 0 0 (bytL x.1).length],fun x=>[.row 5 uB (bytL x.1)]⟩
theorem q1r (l:List Int) (hl:l.length<1000000):∀ (k i:Nat),l.length-i=k->i<=l.length ->
  GD 23 Tryd.f23 (QC ctByt (l,())) (hd Tryd.f23 0) ⟨[(0,.sl u4 l),(3,.win true uB 5 0 (bytL (l.take i)).length),(4,.int .i64 (i:Nat))],[(5,.row 5 uB (bytL (l.take i)))]⟩:=by
 intro k
 induction k with
 | zero=>
  intro i hk hi;refine qap cx0 (qo1 l (bytL (l.take i)) i _ _) ?_;rw[decide_eq_false (by omega),bc_f,List.take_of_length_le (by omega)];exact qgy (e:=uB) (et:=5) (a:=5) (xs:=bytL l) rfl rfl rfl rfl rfl
 | succ k ih=>
  intro i hk hi;have hlt:i<l.length:=by omega
  have hb:=qov (l.take i);rw[List.length_take] at hb;have nx:=ih (i+1) (by omega) (by omega);have e:bytL (l.take (i+1))=bytL (l.take i)++rby4 (gtW l i):=by
   rw[List.take_succ_eq_append_getElem hlt,qcl hlt];unfold bytL;rw[List.flatMap_append];simp
  rw[e] at nx;refine qap cx0 (qo1 l (bytL (l.take i)) i _ _) ?_;rw[decide_eq_true (show (i:Int)<(l.length:Int) by omega),bc_t,Int.toNat_natCast,IntWalk.i64_in ((i:Int)+1) (by omega)];refine ⟨by omega,by omega,by decide,by omega,by omega,by decide,by omega,by omega,by decide,by omega,by omega,Nat.le_refl _,rfl,rfl,(show (bytL (l.take i)).length+4<2 ^ 30 by omega),by decide,?_⟩;exact nx.onlyR [(5,37)] rfl ⟨rfl,by rw[List.length_append];rfl,rfl,trivial⟩ ⟨rfl,trivial⟩
theorem q1s:Held Tryd.prog G0 23 ctByt:=Held.of cx0 (fn:=Tryd.f23) rfl rfl ⟨by decide,by decide⟩ fun ⟨l,_⟩ hp=>qap cx0 (qy6 l _ _) (q1r l hp _ 0 rfl (Nat.zero_le _))
end Go.Proofs.YtplkpodikhfcdaaDoor
