/-
  A part of the proof: a run over an abstract memory, its soundness and its rules; each theorem says its conditions.
-/
import Derived.Below
import Derived.Calls
import Derived.Laws.Cells
import Derived.IntWalk
set_option linter.unusedVariables false
set_option linter.unusedSimpArgs false
namespace Go.Ax
inductive T (α:Type) where
 | nil
 | node (l r:T α) (v:Option α)
namespace T
variable {α:Type}
def get:T α->Nat->Option α
 | .nil,_=>none
 | .node l r v,k=>if k=0 then v else if k % 2=1 then l.get (k / 2) else r.get (k / 2-1)
def L:T α->T α
 | .nil=>.nil
 | .node l _ _=>l
def R:T α->T α
 | .nil=>.nil
 | .node _ r _=>r
def V:T α->Option α
 | .nil=>none
 | .node _ _ v=>v
def set:Nat->T α->Nat->α->T α
 | 0,t,_,_=>t
 | f+1,t,k,x=>if k=0 then .node t.L t.R (some x) else if k % 2=1 then .node (set f t.L (k / 2) x) t.R t.V else .node t.L (set f t.R (k / 2-1) x) t.V
theorem qvs (t:T α) (k:Nat):t.get k=if k=0 then t.V else if k % 2=1 then t.L.get (k / 2) else t.R.get (k / 2-1):=by
 cases t <;> simp[get,L,R,V]
theorem get_set_same:∀ (f:Nat) (t:T α) (k:Nat) (x:α),k+1<2 ^ f->(set f t k x).get k=some x
 | 0,_,k,_,h=>by simp at h
 | f+1,t,k,x,h=>by
  unfold set;by_cases h0:k=0
  ·simp[h0,get]
  ·by_cases h1:k % 2=1
   ·simp only[h0,h1,if_true,if_false,get];exact get_set_same f _ _ x (by rw[Nat.pow_succ] at h;omega)
   ·simp only[h0,h1,if_false,get];exact get_set_same f _ _ x (by rw[Nat.pow_succ] at h;omega)
theorem get_set_other:∀ (f:Nat) (t:T α) (k j:Nat) (x:α),j≠k->(set f t k x).get j=t.get j
 | 0,_,_,_,_,_=>rfl
 | f+1,t,k,j,x,h=>by
  rw[qvs t j];unfold set;by_cases h0:k=0
  ·subst h0;simp[get,h]
  ·by_cases h1:k % 2=1
   ·simp only[h0,h1,if_true,if_false,get];split
    ·rfl
    ·split
     ·rw[get_set_other f _ _ _ x (by omega)]
     ·rfl
   ·simp only[h0,h1,if_false,get];split
    ·rfl
    ·split
     ·rfl
     ·rw[get_set_other f _ _ _ x (by omega)]
end T
structure BI where
 real:Nat
 sh:Nat:=0
 tot:Nat:=0
 sz:Nat:=1
@[reducible] def BI.ad (b:BI) (a:Addr):Addr:={ block:=b.real,off:=a.off+b.sh,spot:=a.spot }
def qae:Nat:=2 ^ 64
def qb3 (b:BI) (a:Addr) (c:Nat):Nat:=if c=qae then b.tot-a.off / b.sz else c
abbrev Map:=List BI
def FnR (M:Map):Fn->Fn->Prop
 | .yield l,f=>∃ b,M[l]?=some b/\f=.yield b.real
 | g,f=>f=g
mutual
def VR (M:Map):Value->Value->Prop
 | .pointer (some a),r=>∃ b,M[a.block]?=some b/\r=.pointer (some (b.ad a))
 | .slice (some a) l c,r=>if a.spot=some 7 then l=0/\c=0/\∃ a' c',r=.slice (some a') 0 c' else ∃ b,M[a.block]?=some b/\r=.slice (some (b.ad a)) l (qb3 b a c)
 | .map (some m),r=>∃ b,M[m]?=some b/\r=.map (some b.real)
 | .chan _,_=>False
 | .func fn x y,r=>∃ fn' x' y',FnR M fn fn'/\VRA M x x'/\VRA M y y'/\r=.func fn' x' y'
 | .iface t v,r=>∃ v',VR M v v'/\r=.iface t v'
 | .agg cs,r=>∃ cs',VRA M cs cs'/\r=.agg cs'
 | .tuple cs,r=>∃ cs',VRA M cs cs'/\r=.tuple cs'
 | v,r=>r=v
def VRA (M:Map):Array Value->Array Value->Prop
 | ⟨l⟩,r=>VRL M l r.toList
def VRL (M:Map):List Value->List Value->Prop
 | [],r=>r=[]
 | v::l,r=>∃ v' l',VR M v v'/\VRL M l l'/\r=v'::l'
end
end Go.Ax
namespace Go.Ax
def Ext (M M':Map):Prop:=∀ (i:Nat) (b:BI),M[i]?=some b->M'[i]?=some b
theorem Ext.refl (M:Map):Ext M M:=λ _ _ h=>h
theorem Ext.trans {A B C:Map} (h:Ext A B) (k:Ext B C):Ext A C:=λ i b e=>k i b (h i b e)
theorem Ext.snoc (M:Map) (b:BI):Ext M (M++[b]):=λ i x h=>by
 rw[List.getElem?_append_left (List.getElem?_eq_some_iff.1 h).1];exact h
theorem FnR.mono {M M':Map} (h:Ext M M') {f g:Fn} (k:FnR M f g):FnR M' f g:=by
 cases f with
 | yield l=>obtain ⟨b,hb,e⟩:=k;exact ⟨b,h _ _ hb,e⟩
 | _=>exact k
mutual
theorem VR.mono {M M':Map} (h:Ext M M'):∀ (v r:Value),VR M v r->VR M' v r
 | .pointer (some a),r,k=>by simp only[VR] at k |-;obtain ⟨b,hb,e⟩:=k;exact ⟨b,h _ _ hb,e⟩
 | .pointer none,r,k=>by simpa only[VR] using k
 | .slice (some a) l c,r,k=>by
  simp only[VR] at k |-;split at k <;> rename_i hs
  ·rw[if_pos hs];exact k
  ·rw[if_neg hs];obtain ⟨b,hb,e⟩:=k;exact ⟨b,h _ _ hb,e⟩
 | .slice none l c,r,k=>by simpa only[VR] using k
 | .map (some m),r,k=>by simp only[VR] at k |-;obtain ⟨b,hb,e⟩:=k;exact ⟨b,h _ _ hb,e⟩
 | .map none,r,k=>by simpa only[VR] using k
 | .chan _,r,k=>by simp only[VR] at k
 | .func fn x y,r,k=>by
  simp only[VR] at k |-;obtain ⟨fn',x',y',hf,hx,hy,e⟩:=k;exact ⟨fn',x',y',hf.mono h,VRA.mono h x x' hx,VRA.mono h y y' hy,e⟩
 | .iface t v,r,k=>by simp only[VR] at k |-;obtain ⟨v',hv,e⟩:=k;exact ⟨v',VR.mono h v v' hv,e⟩
 | .agg cs,r,k=>by simp only[VR] at k |-;obtain ⟨v',hv,e⟩:=k;exact ⟨v',VRA.mono h cs v' hv,e⟩
 | .tuple cs,r,k=>by simp only[VR] at k |-;obtain ⟨v',hv,e⟩:=k;exact ⟨v',VRA.mono h cs v' hv,e⟩
 | .bool _,r,k=>by simpa only[VR] using k
 | .int _ _,r,k=>by simpa only[VR] using k
 | .float _ _,r,k=>by simpa only[VR] using k
 | .complex _ _ _,r,k=>by simpa only[VR] using k
 | .string _,r,k=>by simpa only[VR] using k
 | .nilFunc,r,k=>by simpa only[VR] using k
 | .nilIface,r,k=>by simpa only[VR] using k
theorem VRA.mono {M M':Map} (h:Ext M M'):∀ (v r:Array Value),VRA M v r->VRA M' v r
 | ⟨l⟩,r,k=>by simp only[VRA] at k |-;exact VRL.mono h l _ k
theorem VRL.mono {M M':Map} (h:Ext M M'):∀ (v r:List Value),VRL M v r->VRL M' v r
 | [],r,k=>by simpa only[VRL] using k
 | v::l,r,k=>by
  simp only[VRL] at k |-;obtain ⟨v',l',hv,hl,e⟩:=k;exact ⟨v',l',VR.mono h v v' hv,VRL.mono h l l' hl,e⟩
end
theorem VRL.cons {M:Map} {v v':Value} {l l':List Value} (h:VR M v v') (k:VRL M l l'):VRL M (v::l) (v'::l'):=by
 simp only[VRL];exact ⟨v',l',h,k,rfl⟩
theorem VRL.nil {M:Map}:VRL M [] []:=by simp only[VRL]
theorem VRL.cases {M:Map} {v:Value} {l r:List Value} (h:VRL M (v::l) r):∃ v' l',VR M v v'/\VRL M l l'/\r=v'::l':=by simpa only[VRL] using h
theorem VRL.nil_cases {M:Map} {r:List Value} (h:VRL M [] r):r=[]:=by simpa only[VRL] using h
theorem VRL.length {M:Map}:∀ {l r:List Value},VRL M l r->r.length=l.length
 | [],_,h=>by rw[h.nil_cases]
 | v::l,_,h=>by obtain ⟨v',l',_,hl,rfl⟩:=h.cases;simp[VRL.length hl]
theorem VRL.get {M:Map}:∀ {l r:List Value},VRL M l r->∀ (i:Nat) (v:Value),l[i]?=some v->∃ v',r[i]?=some v'/\VR M v v'
 | [],_,_,i,v,e=>by simp at e
 | x::l,_,h,i,v,e=>by
  obtain ⟨x',l',hx,hl,rfl⟩:=h.cases
  cases i with
  | zero=>simp at e;subst e;exact ⟨x',rfl,hx⟩
  | succ i=>simp at e |-;exact VRL.get hl i v e
theorem VRL.append {M:Map}:∀ {l r l2 r2:List Value},VRL M l r->VRL M l2 r2->VRL M (l++l2) (r++r2)
 | [],_,_,_,h,k=>by rw[h.nil_cases];exact k
 | v::l,_,_,_,h,k=>by obtain ⟨v',l',hv,hl,rfl⟩:=h.cases;exact .cons hv (VRL.append hl k)
theorem VRL.take {M:Map}:∀ {l r:List Value} (n:Nat),VRL M l r->VRL M (l.take n) (r.take n)
 | _,_,0,_=>by simpa using VRL.nil
 | [],_,n+1,h=>by rw[h.nil_cases];simpa using VRL.nil
 | v::l,_,n+1,h=>by obtain ⟨v',l',hv,hl,rfl⟩:=h.cases;simpa using VRL.cons hv (VRL.take n hl)
theorem VRL.drop {M:Map}:∀ {l r:List Value} (n:Nat),VRL M l r->VRL M (l.drop n) (r.drop n)
 | _,_,0,h=>by simpa using h
 | [],_,n+1,h=>by rw[h.nil_cases];simpa using VRL.nil
 | v::l,_,n+1,h=>by obtain ⟨v',l',_,hl,rfl⟩:=h.cases;simpa using VRL.drop n hl
theorem VRL.set {M:Map}:∀ {l r:List Value} (n:Nat) {x x':Value},VRL M l r->VR M x x'->VRL M (l.set n x) (r.set n x')
 | [],_,n,_,_,h,_=>by rw[h.nil_cases];simpa using VRL.nil
 | v::l,_,0,_,_,h,k=>by obtain ⟨v',l',_,hl,rfl⟩:=h.cases;simpa using VRL.cons k hl
 | v::l,_,n+1,_,_,h,k=>by obtain ⟨v',l',hv,hl,rfl⟩:=h.cases;simpa using VRL.cons hv (VRL.set n hl k)
theorem VRA.iff {M:Map} {a b:Array Value}:VRA M a b↔VRL M a.toList b.toList:=by cases a;simp only[VRA]
def qvv:Fn->Bool
 | .yield _=>false
 | _=>true
mutual
def flat:Value->Bool
 | .pointer (some _)=>false
 | .slice (some _) _ _=>false
 | .map (some _)=>false
 | .chan _=>false
 | .func fn x y=>qvv fn&&qm9 x&&qm9 y
 | .iface _ v=>flat v
 | .agg cs=>qm9 cs
 | .tuple cs=>qm9 cs
 | _=>true
def qm9:Array Value->Bool
 | ⟨l⟩=>qbd l
def qbd:List Value->Bool
 | []=>true
 | v::l=>flat v&&qbd l
end
mutual
theorem VR.flat_iff {M:Map}:∀ (v:Value),flat v=true->∀ r,VR M v r↔r=v
 | .pointer (some a),k,r=>by simp[flat] at k
 | .pointer none,k,r=>by simp only[VR]
 | .slice (some a) l c,k,r=>by simp[flat] at k
 | .slice none l c,k,r=>by simp only[VR]
 | .map (some m),k,r=>by simp[flat] at k
 | .map none,k,r=>by simp only[VR]
 | .chan _,k,r=>by simp[flat] at k
 | .func fn x y,k,r=>by
  simp only[flat,Bool.and_eq_true] at k;simp only[VR,VRA.flat_iff x k.1.2,VRA.flat_iff y k.2];constructor
  ·rintro ⟨fn',x',y',hf,rfl,rfl,e⟩
   cases fn with
   | yield l=>simp[qvv] at k
   | _=>simp only[FnR] at hf;subst hf;exact e
  ·intro e;refine ⟨fn,x,y,?_,rfl,rfl,e⟩
   cases fn with
   | yield l=>simp[qvv] at k
   | _=>rfl
 | .iface t v,k,r=>by simp only[flat] at k;simp[VR,VR.flat_iff v k]
 | .agg cs,k,r=>by simp only[flat] at k;simp[VR,VRA.flat_iff cs k]
 | .tuple cs,k,r=>by simp only[flat] at k;simp[VR,VRA.flat_iff cs k]
 | .bool _,k,r=>by simp only[VR]
 | .int _ _,k,r=>by simp only[VR]
 | .float _ _,k,r=>by simp only[VR]
 | .complex _ _ _,k,r=>by simp only[VR]
 | .string _,k,r=>by simp only[VR]
 | .nilFunc,k,r=>by simp only[VR]
 | .nilIface,k,r=>by simp only[VR]
theorem VRA.flat_iff {M:Map}:∀ (v:Array Value),qm9 v=true->∀ r,VRA M v r↔r=v
 | ⟨l⟩,k,r=>by
  simp only[qm9] at k;simp only[VRA,VRL.flat_iff l k];constructor
  ·intro h;cases r;simp at h;subst h;rfl
  ·rintro rfl;rfl
theorem VRL.flat_iff {M:Map}:∀ (v:List Value),qbd v=true->∀ r,VRL M v r↔r=v
 | [],k,r=>by simp only[VRL]
 | v::l,k,r=>by
  simp only[qbd,Bool.and_eq_true] at k;simp only[VRL,VR.flat_iff v k.1,VRL.flat_iff l k.2];constructor
  ·rintro ⟨v',l',rfl,rfl,e⟩;exact e
  ·rintro rfl;exact ⟨v,l,rfl,rfl,rfl⟩
end
theorem qor:∀ {l:List Value},qbd l=true->∀ v∈l,flat v=true
 | [],_,v,h=>by simp at h
 | x::l,k,v,h=>by
  simp only[qbd,Bool.and_eq_true] at k;rcases List.mem_cons.1 h with rfl | h
  ·exact k.1
  ·exact qor k.2 v h
theorem VR.self {M:Map} {v:Value} (h:flat v=true):VR M v v:=(VR.flat_iff v h v).2 rfl
theorem VRL.self {M:Map} {l:List Value} (h:qbd l=true):VRL M l l:=(VRL.flat_iff l h l).2 rfl
theorem VR.cells {M:Map} {v r:Value} (h:VR M v r):VRL M v.cells.toList r.cells.toList:=by
 have one:∀ {v r:Value},v.cells=#[v]->r.cells=#[r]->VR M v r->VRL M v.cells.toList r.cells.toList:=by
  intro v r h1 h2 h;rw[h1,h2];exact .cons h .nil
 cases v with
 | agg cs=>simp only[VR] at h;obtain ⟨cs',hc,rfl⟩:=h;exact VRA.iff.1 hc
 | tuple cs=>obtain ⟨cs',hc,rfl⟩:=(by simpa only[VR] using h:∃ cs',VRA M cs cs'/\r=.tuple cs');exact one rfl rfl h
 | pointer a=>
  cases a with
  | none=>have h':=h;simp only[VR] at h';subst h';exact one rfl rfl h
  | some a=>have h':=h;simp only[VR] at h';obtain ⟨_,_,rfl⟩:=h';exact one rfl rfl h
 | slice a l c=>
  cases a with
  | none=>have h':=h;simp only[VR] at h';subst h';exact one rfl rfl h
  | some a=>
   have h':=h;simp only[VR] at h';split at h'
   ·obtain ⟨_,_,_,_,rfl⟩:=h';exact one rfl rfl h
   ·obtain ⟨_,_,rfl⟩:=h';exact one rfl rfl h
 | map a=>
  cases a with
  | none=>have h':=h;simp only[VR] at h';subst h';exact one rfl rfl h
  | some a=>have h':=h;simp only[VR] at h';obtain ⟨_,_,rfl⟩:=h';exact one rfl rfl h
 | chan a=>simp only[VR] at h
 | func fn x y=>have h':=h;simp only[VR] at h';obtain ⟨_,_,_,_,_,_,rfl⟩:=h';exact one rfl rfl h
 | iface t v=>have h':=h;simp only[VR] at h';obtain ⟨_,_,rfl⟩:=h';exact one rfl rfl h
 | _=>have h':=h;simp only[VR] at h';subst h';exact one rfl rfl h
theorem VR.oneCell {M:Map} {v r:Value} (h:VR M v r) (k:v.oneCell'=true):r.oneCell'=true:=by
 cases v with
 | agg cs=>simp[Value.oneCell'] at k
 | tuple cs=>simp[Value.oneCell'] at k
 | pointer a=>cases a <;> simp only[VR] at h <;> first | (subst h;rfl) | (obtain ⟨_,_,rfl⟩:=h;rfl)
 | slice a l c=>
  cases a with
  | none=>simp only[VR] at h;subst h;rfl
  | some a=>
   simp only[VR] at h;split at h
   ·obtain ⟨_,_,_,_,rfl⟩:=h;rfl
   ·obtain ⟨_,_,rfl⟩:=h;rfl
 | map a=>cases a <;> simp only[VR] at h <;> first | (subst h;rfl) | (obtain ⟨_,_,rfl⟩:=h;rfl)
 | chan a=>simp only[VR] at h
 | func fn x y=>simp only[VR] at h;obtain ⟨_,_,_,_,_,_,rfl⟩:=h;rfl
 | iface t v=>simp only[VR] at h;obtain ⟨_,_,rfl⟩:=h;rfl
 | _=>simp only[VR] at h;subst h;rfl
end Go.Ax
namespace Go.Ax
abbrev Prot:=Nat->Prop
structure Below (B:Prot) (w w':World):Prop where
 os:w'.os=w.os
 tape:w'.tape=w.tape
 output:w'.output=w.output
 size:w.heap.size<=w'.heap.size
 block:∀ k,B k->w'.heap[k]?=w.heap[k]?
theorem Below.refl (B:Prot) (w:World):Below B w w:=⟨rfl,rfl,rfl,Nat.le_refl _,λ _ _=>rfl⟩
theorem Below.trans {B:Prot} {a b c:World} (h:Below B a b) (k:Below B b c):Below B a c:=
 ⟨k.os.trans h.os,k.tape.trans h.tape,k.output.trans h.output,Nat.le_trans h.size k.size,λ i hi=>(k.block i hi).trans (h.block i hi)⟩
inductive ABlk where
 | cells (vs:List Value) (e:TypeId) (k:Nat)
 | iter (s:ByteArray) (pos:Nat)
 | loop (L:Loop) (E:T Value) (n:Nat)
 | deferred (live:Bool)
 | map (es:List (Value × Value))
 | dead
structure AHeap where
 next:Nat
 t:T ABlk
def ABlk.live:ABlk->Bool
 | .dead=>false
 | _=>true
def ABlk.ro:ABlk->Bool
 | .cells _ _ k=>k == 2
 | _=>false
def qla:Nat:=30
def ER (M:Map) (n:Nat) (E:T Value) (tm:Array Value):Prop:=tm.size=n/\∀ (t:Nat) (v:Value),E.get t=some v->∃ r,tm[t]?=some r/\VR M v r
theorem ER.mono {M M':Map} (h:Ext M M') {n:Nat} {E:T Value} {tm:Array Value} (k:ER M n E tm):ER M' n E tm:=
 ⟨k.1,λ t v e=>let ⟨r,hr,hv⟩:=k.2 t v e;⟨r,hr,VR.mono h v r hv⟩⟩
def LoopR (M:Map) (L:Loop) (E:T Value) (n:Nat) (L':Loop):Prop:=
 L'.state=L.state/\L'.pending=L.pending/\L'.fn=L.fn/\L'.params=L.params/\L'.assign=L.assign/\L'.body=L.body/\ER M n E L'.tmps/\∃ b,M[L.defers]?=some b/\L'.defers=b.real
def MapR (M:Map):List (Value × Value)->List MapEntry->Prop
 | [],l=>l=[]
 | (k,v)::es,l=>∃ e r,l=e::r/\e.key=k/\flat k=true/\VR M v e.val/\MapR M es r
theorem MapR.mono {M M':Map} (h:Ext M M'):∀ {es:List (Value × Value)} {l:List MapEntry},MapR M es l->MapR M' es l
 | [],_,k=>k
 | (_,_)::_,_,⟨e,r,h1,h2,h3,h4,h5⟩=>⟨e,r,h1,h2,h3,VR.mono h _ _ h4,MapR.mono h h5⟩
def BlkR (M:Map) (base:Prot) (b:BI) (w:World):ABlk->Prop
 | .cells vs e k=>∃ c lo hi e2,w.heap[b.real]?=some (.cells c e2 (lo,hi))/\VRL M vs ((c.toList.drop b.sh).take vs.length) /\
   (k=0->c.size=vs.length)/\(10<=k->c.size=b.tot*b.sz/\b.sz+10=k/\0<b.sz)/\(k≠2->b.sh=0/\¬ base b.real/\(lo=hi\/c.size<=lo)/\e2=e)
 | .iter s p=>¬ base b.real/\w.heap[b.real]?=some (.stringIter s p)/\b.sh=0
 | .loop L E n=>¬ base b.real/\∃ L',w.heap[b.real]?=some (.loop L')/\LoopR M L E n L'
 | .deferred live=>¬ base b.real/\w.heap[b.real]?=some (.deferred (if live then some [] else none))
 | .map es=>¬ base b.real/\∃ es' clock,w.heap[b.real]?=some (.map es' clock)/\MapR M es es'.toList
 | .dead=>True
structure Rel (base:Prot) (M:Map) (H:AHeap) (w:World):Prop where
 len:M.length=H.next
 base_le:∀ k,base k->k<w.heap.size
 dom:∀ i x,H.t.get i=some x->i<H.next
 lt:∀ (i:Nat) (b:BI) x,M[i]?=some b->H.t.get i=some x->b.real<w.heap.size
 blk:∀ (i:Nat) (b:BI) x,M[i]?=some b->H.t.get i=some x->BlkR M base b w x
 inj:∀ (i j:Nat) (bi bj:BI) (xi xj:ABlk),M[i]?=some bi->M[j]?=some bj->H.t.get i=some xi->H.t.get j=some xj->xi.live=true->xj.live=true->(xi.ro&&xj.ro)=false->bi.real=bj.real->i=j
 glob:∀ g,g<qla->M[g]?=some { real:=g }
theorem Rel.fresh {base:Prot} {M:Map} {H:AHeap} {w:World} (h:Rel base M H w):¬ base w.heap.size:=λ hk=>Nat.lt_irrefl _ (h.base_le _ hk)
theorem LoopR.mono {M M':Map} (h:Ext M M') {L L':Loop} {E:T Value} {n:Nat} (k:LoopR M L E n L'):LoopR M' L E n L':=by
 obtain ⟨a1,a2,a3,a4,a5,a6,a7,b,hb,e⟩:=k;exact ⟨a1,a2,a3,a4,a5,a6,a7.mono h,b,h _ _ hb,e⟩
theorem BlkR.keep {M M':Map} {base:Prot} {b:BI} {w w':World} {x:ABlk} (h:Ext M M') (k:BlkR M base b w x) (hw:w'.heap[b.real]?=w.heap[b.real]?):BlkR M' base b w' x:=by
 cases x with
 | cells vs e kk=>obtain ⟨c,lo,hi,e2,hc,hv,r⟩:=k;exact ⟨c,lo,hi,e2,hw.trans hc,VRL.mono h _ _ hv,r⟩
 | iter s p=>exact ⟨k.1,hw.trans k.2.1,k.2.2⟩
 | loop L E n=>obtain ⟨hb,L',hl,hr⟩:=k;exact ⟨hb,L',hw.trans hl,hr.mono h⟩
 | deferred l=>exact ⟨k.1,hw.trans k.2⟩
 | map es=>obtain ⟨hb,es',c,h1,h2⟩:=k;exact ⟨hb,es',c,hw.trans h1,h2.mono h⟩
 | dead=>trivial
theorem BlkR.dead_of {M:Map} {base:Prot} {b:BI} {w:World} {x:ABlk} (h:x.live=false):BlkR M base b w x:=by
 cases x <;> simp[ABlk.live] at h
 trivial
abbrev idOK (n:Nat):Prop:=0<=n
def AHeap.add (H:AHeap) (x:ABlk):AHeap:={ next:=H.next+1,t:=T.set (H.next+1) H.t H.next x }
def AHeap.put (H:AHeap) (i:Nat) (x:ABlk):AHeap:={ H with t:=T.set (i+1) H.t i x }
theorem AHeap.get_add {H:AHeap} {x:ABlk} (_h:idOK H.next):(H.add x).t.get H.next=some x:=T.get_set_same _ _ _ _ (by exact Nat.lt_two_pow_self)
theorem AHeap.get_add_other {H:AHeap} {x:ABlk} {i:Nat} (h:i≠H.next):(H.add x).t.get i=H.t.get i:=T.get_set_other _ _ _ _ _ h
theorem AHeap.get_put {H:AHeap} {i:Nat} {x:ABlk} (_h:idOK i):(H.put i x).t.get i=some x:=T.get_set_same _ _ _ _ (by exact Nat.lt_two_pow_self)
theorem AHeap.get_put_other {H:AHeap} {i j:Nat} {x:ABlk} (h:j≠i):(H.put i x).t.get j=H.t.get j:=T.get_set_other _ _ _ _ _ h
theorem qhv (w:World) (o:Obj) {k:Nat} (h:k<w.heap.size):({ w with heap:=w.heap.push o }:World).heap[k]?=w.heap[k]?:=by
 show (w.heap.push o)[k]?=_
 rw[Array.getElem?_push,if_neg (by omega)]
theorem qcf (w:World) (o:Obj):({ w with heap:=w.heap.push o }:World).heap[w.heap.size]?=some o:=by
 show (w.heap.push o)[w.heap.size]?=_
 simp
theorem qeo (M:Map) (b:BI):(M++[b])[M.length]?=some b:=by simp
theorem qas {M:Map} {b c:BI} {i:Nat} (h:(M++[b])[i]?=some c):(i<M.length/\M[i]?=some c)\/(i=M.length/\c=b):=by
 rcases Nat.lt_or_ge i M.length with hl | hl
 ·left;rw[List.getElem?_append_left hl] at h;exact ⟨hl,h⟩
 ·right;rw[List.getElem?_append_right hl] at h;have:i-M.length=0:=by
   rcases Nat.eq_zero_or_pos (i-M.length) with h0 | h0
   ·exact h0
   ·rw[List.getElem?_eq_none (by simp;omega)] at h;cases h
  rw[this] at h;simp at h;exact ⟨by omega,h.symm⟩
theorem Rel.add {base:Prot} {M:Map} {H:AHeap} {w:World} (h:Rel base M H w) {x:ABlk} {o:Obj} {b:BI} (hb:b.real=w.heap.size) (hid:idOK H.next)
  (hx:BlkR (M++[b]) base b { w with heap:=w.heap.push o } x):Rel base (M++[b]) (H.add x) { w with heap:=w.heap.push o } where
 len:=by simp[h.len,AHeap.add]
 base_le:=λ k hk=>by have:=h.base_le k hk;simp;omega
 dom:=λ i y hy=>by
  by_cases e:i=H.next
  ·subst e;simp[AHeap.add]
  ·rw[AHeap.get_add_other e] at hy;have:=h.dom i y hy;simp[AHeap.add];omega
 lt:=λ i c x hc hx=>by
  rcases qas hc with ⟨hl,hc⟩ | ⟨_,rfl⟩
  ·rw[AHeap.get_add_other (by rw[<- h.len];omega)] at hx;have:=h.lt i c x hc hx;simp;omega
  ·simp[hb]
 blk:=λ i c y hc hy=>by
  rcases qas hc with ⟨hl,hc⟩ | ⟨rfl,rfl⟩
  ·rw[AHeap.get_add_other (by rw[<- h.len];omega)] at hy;exact (h.blk i c y hc hy).keep (Ext.snoc M b) (qhv w o (h.lt i c y hc hy))
  ·rw[h.len,AHeap.get_add hid] at hy;cases hy;exact hx
 glob:=λ g hg=>Ext.snoc M b _ _ (h.glob g hg)
 inj:=λ i j bi bj xi xj hi hj hxi hxj li lj lr e=>by
  rcases qas hi with ⟨hli,hi'⟩ | ⟨rfl,rfl⟩ <;> rcases qas hj with ⟨hlj,hj'⟩ | ⟨rfl,rfl⟩
  ·rw[AHeap.get_add_other (by rw[<- h.len];omega)] at hxi hxj;exact h.inj i j bi bj xi xj hi' hj' hxi hxj li lj lr e
  ·rw[AHeap.get_add_other (by rw[<- h.len];omega)] at hxi;have:=h.lt i bi xi hi' hxi;omega
  ·rw[AHeap.get_add_other (by rw[<- h.len];omega)] at hxj;have:=h.lt j bj xj hj' hxj;omega
  ·rfl
theorem Rel.put {base:Prot} {M:Map} {H:AHeap} {w w':World} (h:Rel base M H w) {i:Nat} {b:BI} {x y:ABlk} (hb:M[i]?=some b) (hx:H.t.get i=some x) (hl:x.live=true) (hro:x.ro=false)
  (hid:idOK i) (hsz:w'.heap.size=w.heap.size) (hoth:∀ k,k≠b.real->w'.heap[k]?=w.heap[k]?) (hy:BlkR M base b w' y):Rel base M (H.put i y) w' where
 len:=h.len
 base_le:=λ k hk=>by have:=h.base_le k hk;omega
 dom:=λ j z hz=>by
  by_cases e:j=i
  ·subst e;exact h.dom _ _ hx
  ·rw[AHeap.get_put_other e] at hz;exact h.dom j z hz
 lt:=λ j c z hc hz=>by
  by_cases e:j=i
  ·subst e;have:=h.lt _ c x hc hx;omega
  ·rw[AHeap.get_put_other e] at hz;have:=h.lt j c z hc hz;omega
 blk:=λ j c z hc hz=>by
  by_cases e:j=i
  ·subst e;rw[AHeap.get_put hid] at hz;cases hz;rw[hb] at hc;cases hc;exact hy
  ·rw[AHeap.get_put_other e] at hz;by_cases lz:z.live=true
   ·refine (h.blk j c z hc hz).keep (Ext.refl M) (hoth _ λ er=>e (h.inj j i c b z x hc hb hz hx lz hl (by rw[hro,Bool.and_false]) er))
   ·exact BlkR.dead_of (by simpa using lz)
 glob:=h.glob
 inj:=λ j k bj bk xj xk hj hk hxj hxk lj lk lr e=>by
  have fix:∀ (j:Nat) (xj:ABlk),(H.put i y).t.get j=some xj->xj.live=true->∃ z,H.t.get j=some z/\z.live=true/\(z.ro=false\/z=xj):=by
   intro j xj hxj lj;by_cases e:j=i
   ·subst e;exact ⟨x,hx,hl,.inl hro⟩
   ·rw[AHeap.get_put_other e] at hxj;exact ⟨xj,hxj,lj,.inr rfl⟩
  obtain ⟨zj,hzj,lzj,rj⟩:=fix j xj hxj lj;obtain ⟨zk,hzk,lzk,rk⟩:=fix k xk hxk lk;refine h.inj j k bj bk zj zk hj hk hzj hzk lzj lzk ?_ e;rcases rj with rj | rfl
  ·rw[rj,Bool.false_and]
  ·rcases rk with rk | rfl
   ·rw[rk,Bool.and_false]
   ·exact lr
theorem Rel.kill {base:Prot} {M:Map} {H:AHeap} {w:World} (h:Rel base M H w) {i:Nat} {b:BI} {x:ABlk} (hb:M[i]?=some b) (hx:H.t.get i=some x) (hl:x.live=true) (hro:x.ro=false) (hid:idOK i) :
  Rel base M (H.put i .dead) w:=h.put hb hx hl hro hid rfl (λ _ _=>rfl) trivial
theorem Rel.again {base:Prot} {M:Map} {H:AHeap} {w w':World} (h:Rel base M H w) {i:Nat} {b b':BI} {x y:ABlk} (hb:M[i]?=some b) (hx:H.t.get i=some x) (hl:x.live=true) (hro:x.ro=false)
  (hid:idOK H.next) (hr:b'.real=b.real) (hsz:w'.heap.size=w.heap.size) (hoth:∀ k,k≠b.real->w'.heap[k]?=w.heap[k]?) (hy:BlkR (M++[b']) base b' w' y) :
  Rel base (M++[b']) ((H.put i .dead).add y) w':=by
 have hi:i<H.next:=h.dom _ _ hx;have h1:Rel base M (H.put i .dead) w':=h.put hb hx hl hro (by omega) hsz hoth trivial;have hnext:(H.put i .dead).next=H.next:=rfl;refine ⟨by simp[h.len,AHeap.add,AHeap.put],h1.base_le,λ j z hz=>?_,λ j c z hc hz=>?_,λ j c z hc hz=>?_,λ j k bj bk xj xk hj hk hxj hxk lj lk lr e=>?_,λ g hg=>Ext.snoc M _ _ _ (h.glob g hg)⟩
 ·by_cases e:j=H.next
  ·subst e;simp[AHeap.add,AHeap.put]
  ·rw[AHeap.get_add_other (by rw[hnext];exact e)] at hz;have:=h1.dom j z hz;simp[AHeap.add] at *;omega
 ·rcases qas hc with ⟨hlj,hc⟩ | ⟨_,rfl⟩
  ·rw[AHeap.get_add_other (by rw[hnext,<- h.len];omega)] at hz;exact h1.lt j c z hc hz
  ·rw[hr,hsz];exact h.lt i b x hb hx
 ·rcases qas hc with ⟨hlj,hc⟩ | ⟨rfl,rfl⟩
  ·rw[AHeap.get_add_other (by rw[hnext,<- h.len];omega)] at hz;exact (h1.blk j c z hc hz).keep (Ext.snoc M _) rfl
  ·have:=AHeap.get_add (H:=H.put i .dead) (x:=y) (by rw[hnext];exact hid);rw[hnext,<- h.len] at this;rw[this] at hz;cases hz;exact hy
 ·have old:∀ (j:Nat) (bj:BI) (xj:ABlk),j<M.length->M[j]?=some bj->((H.put i .dead).add y).t.get j=some xj->xj.live=true->bj.real≠b.real:=by
   intro j bj xj hlj hj hxj lj er;rw[AHeap.get_add_other (by rw[hnext,<- h.len];omega)] at hxj;by_cases ei:j=i
   ·subst ei;rw[AHeap.get_put (by omega)] at hxj;cases hxj;simp[ABlk.live] at lj
   ·rw[AHeap.get_put_other ei] at hxj;exact ei (h.inj j i bj b xj x hj hb hxj hx lj hl (by rw[hro,Bool.and_false]) er)
  rcases qas hj with ⟨hlj,hj'⟩ | ⟨rfl,rfl⟩ <;> rcases qas hk with ⟨hlk,hk'⟩ | ⟨rfl,rfl⟩
  ·rw[AHeap.get_add_other (by rw[hnext,<- h.len];omega)] at hxj hxk;exact h1.inj j k bj bk xj xk hj' hk' hxj hxk lj lk lr e
  ·exact absurd (e.trans hr) (old j bj xj hlj hj' hxj lj)
  ·exact absurd (e.symm.trans hr) (old k bk xk hlk hk' hxk lk)
  ·rfl
end Go.Ax
namespace Go.Ax
structure Turned (g:Nat) (w w':World):Prop where
 os:w'.os=w.os
 tape:w'.tape=w.tape
 output:w'.output=w.output
 size:w'.heap.size=w.heap.size
 other:∀ k,k≠g->w'.heap[k]?=w.heap[k]?
theorem Turned.refl (g:Nat) (w:World):Turned g w w:=⟨rfl,rfl,rfl,rfl,λ _ _=>rfl⟩
theorem Turned.trans {g:Nat} {a b c:World} (h:Turned g a b) (k:Turned g b c):Turned g a c:=
 ⟨k.os.trans h.os,k.tape.trans h.tape,k.output.trans h.output,k.size.trans h.size,λ i hi=>(k.other i hi).trans (h.other i hi)⟩
theorem Turned.below {g:Nat} {base:Prot} {w w':World} (h:Turned g w w') (hb:¬ base g):Below base w w':=
 ⟨h.os,h.tape,h.output,by rw[h.size];exact Nat.le_refl _,λ k hk=>h.other k (λ e=>hb (e ▸ hk))⟩
theorem qco {base:Prot} {w:World} (hb:∀ k,base k->k<w.heap.size) (o:Obj):Below base w { w with heap:=w.heap.push o }:=
 ⟨rfl,rfl,rfl,by simp,λ k hk=>qhv w o (hb k hk)⟩
theorem qaz (b o n:Nat):(⟨b,o,none⟩:Addr).add n=⟨b,o+n,none⟩:=by
 unfold Addr.add;split <;> simp_all
theorem qi5 {w:World} {g o:Nat} {c:Array Value} {e:TypeId} {f:Nat × Nat} (h:w.heap[g]?=some (.cells c e f)):w.cell? ⟨g,o,none⟩=c[o]?:=by
 simp[World.cell?,h]
theorem qlf {w:World} {g o:Nat} {c:Array Value} {e:TypeId} {lo hi:Nat} (h:w.heap[g]?=some (.cells c e (lo,hi))):w.frozen? ⟨g,o,none⟩=(decide (lo<=o)&&decide (o<hi)):=by
 simp[World.frozen?,h]
theorem qn0 {w:World} {g o:Nat} {c:Array Value} {e:TypeId} {f:Nat × Nat} (v:Value) (h:w.heap[g]?=some (.cells c e f)) :
  (w.setCell ⟨g,o,none⟩ v).heap[g]?=some (.cells (c.setIfInBounds o v) e f):=by
 obtain ⟨hl,he⟩:=Array.getElem?_eq_some_iff.1 h;simp only[World.setCell,Array.getElem?_modify,h,if_true];simp
theorem qk8 (w:World) (g o:Nat) (v:Value):Turned g w (w.setCell ⟨g,o,none⟩ v):=
 ⟨rfl,rfl,rfl,by simp[World.setCell],λ k hk=>RowKit.Below.heap_setCell w _ v k hk⟩
theorem qha (l:List Value) (o:Nat) (v:Value) (h:o<l.length):l.set o v=l.take o++[v]++l.drop (o+1):=by
 rw[List.set_eq_take_append_cons_drop,if_pos h];simp
theorem qdw {P:Program} {g o:Nat} {e:TypeId} {lo hi:Nat}:∀ (vs:List Value) (i:Nat) (c:Array Value) (w:World),w.heap[g]?=some (.cells c e (lo,hi))->o+i+vs.length<=c.size ->
  (lo=hi\/c.size<=lo)->(∀ v∈vs,v.oneCell'=true) ->
  ∃ w' c',(storeCells ⟨g,o,none⟩ vs i).run P w=.ok () w'/\w'.heap[g]?=some (.cells c' e (lo,hi))/\c'.toList=c.toList.take (o+i)++vs++c.toList.drop (o+i+vs.length)/\Turned g w w'
 | [],i,c,w,hg,hl,hf,h1=>⟨w,c,rfl,hg,by simp,Turned.refl _ _⟩
 | v::vs,i,c,w,hg,hl,hf,h1=>by
  simp only[List.length_cons] at hl;have hlt:o+i<c.size:=by omega
  have hcell:w.cell? ⟨g,o+i,none⟩=some c[o+i]:=by rw[qi5 hg];simp[hlt]
  have hfr:w.frozen? ⟨g,o+i,none⟩=false:=by
   rw[qlf hg];simp;omega
  have hs:=qn0 (o:=o+i) v hg;obtain ⟨w',c',hr,hg',hc',ht⟩:=qdw (P:=P) (o:=o) vs (i+1) _ _ hs (by simp;omega) (by simpa using hf) (λ x hx=>h1 x (List.mem_cons_of_mem _ hx));refine ⟨w',c',?_,hg',?_,(qk8 w g (o+i) v).trans ht⟩
  ·unfold storeCells;rw[Sem.run_bind,qaz,run_store P w _ v _ (h1 v (List.mem_cons_self ..)),hcell];simp only[hfr,Bool.false_eq_true,if_false,Result.andThen_ok];exact hr
  ·rw[hc'];simp only[Array.toList_setIfInBounds];have hlt':o+i<c.toList.length:=by simpa using hlt
   have h0:(c.toList.take (o+i)).length=o+i:=by rw[List.length_take,Array.length_toList];omega
   rw[qha _ _ _ hlt'];have t1:List.take (o+(i+1)) (List.take (o+i) c.toList++[v]++List.drop (o+i+1) c.toList)=List.take (o+i) c.toList++[v]:=by
    rw[List.take_append_of_le_length (by simp only[List.length_append,List.length_cons,List.length_nil,h0];omega),List.take_of_length_le (by simp only[List.length_append,List.length_cons,List.length_nil,h0];omega)]
   have t2:List.drop (o+(i+1)+vs.length) (List.take (o+i) c.toList++[v]++List.drop (o+i+1) c.toList)=List.drop (o+i+(v::vs).length) c.toList:=by
    rw[List.drop_append,List.drop_eq_nil_of_le (by simp only[List.length_append,List.length_cons,List.length_nil,h0];omega),List.nil_append,List.drop_drop]
    congr 1
    simp only[List.length_append,List.length_cons,List.length_nil,h0];omega
   rw[t1,t2];simp
def qby (H:AHeap) (a:Addr) (n:Nat):Option (List Value):=
 match a.spot,H.t.get a.block with
 | none,some (.cells vs _ _)=>if a.off+n<=vs.length then some ((vs.drop a.off).take n) else none
 | _,_=>none
theorem qb0 {P:Program} {base:Prot} {M:Map} {H:AHeap} {w:World} (h:Rel base M H w) {a:Addr} {n:Nat} {l:List Value} (hl:qby H a n=some l) {b:BI} (hb:M[a.block]?=some b) :
  ∃ l',(∀ w1:World,w1.heap=w.heap->(loadCells (b.ad a) n).run P w1=.ok l'.toArray w1)/\VRL M l l'/\l.length=n:=by
 unfold qby at hl;split at hl
 next vs e k hs hx=>
  split at hl
  next hle=>
   cases hl;obtain ⟨c,lo,hi,e2,hc,hv,_⟩:=h.blk _ _ _ hb hx;have hlen:=hv.length;simp only[List.length_take,List.length_drop,Array.length_toList] at hlen;refine ⟨(c.toList.drop (b.sh+a.off)).take n,λ w1 hw1=>?_,?_,by simp;omega⟩
   ·have:=run_loadCells_list (P:=P) (w:=w1) (b.ad a) ((c.toList.drop (b.sh+a.off)).take n) (λ j v hj=>?_)
    ·rw[show ((c.toList.drop (b.sh+a.off)).take n).length=n by simp;omega] at this;exact this
    ·obtain ⟨bk,off,spot⟩:=a;simp only at hs;subst hs;simp only[BI.ad];rw[qaz,qi5 (by rw[hw1];exact hc)];rw[List.getElem?_take] at hj;split at hj
     ·rw[show off+b.sh+j=b.sh+off+j from by omega];simpa using hj
     ·cases hj
   ·have h1:=(hv.drop a.off).take n;rw[List.drop_take,List.take_take,Nat.min_eq_left (by omega),List.drop_drop] at h1;exact h1
  ·cases hl
 ·cases hl
theorem qdg {P:Program} {base:Prot} {M:Map} {H:AHeap} {w:World} (h:Rel base M H w) {a:Addr} {n:Nat} {l:List Value} (hl:qby H a n=some l) {b:BI} (hb:M[a.block]?=some b) :
  ∃ l',(loadCells (b.ad a) n).run P w=.ok l'.toArray w/\VRL M l l'/\l.length=n:=
 let ⟨l',h1,h2⟩:=qb0 (P:=P) h hl hb
 ⟨l',h1 w rfl,h2⟩
def qi7 (H:AHeap) (a:Addr) (new:List Value):Option AHeap:=
 match a.spot,H.t.get a.block with
 | none,some (.cells vs e k)=>if k≠2/\a.off+new.length<=vs.length/\new.all (·.oneCell')=true/\idOK a.block then some (H.put a.block (.cells (vs.take a.off++new++vs.drop (a.off+new.length)) e k)) else none
 | _,_=>none
theorem VRL.one {M:Map}:∀ {l r:List Value},VRL M l r->l.all (·.oneCell')=true->∀ v∈r,v.oneCell'=true
 | [],_,h,_,v,hv=>by rw[h.nil_cases] at hv;simp at hv
 | x::l,_,h,k,v,hv=>by
  obtain ⟨v',l',hx,hl,rfl⟩:=h.cases;simp only[List.all_cons,Bool.and_eq_true] at k;rcases List.mem_cons.1 hv with rfl | hv
  ·exact hx.oneCell k.1
  ·exact VRL.one hl k.2 v hv
theorem qbz {P:Program} {base:Prot} {M:Map} {H H':AHeap} {w:World} (h:Rel base M H w) {a:Addr} {new new':List Value} (hs:qi7 H a new=some H') {b:BI} (hb:M[a.block]?=some b) (hn:VRL M new new') :
  ∃ w',(storeCells (b.ad a) new').run P w=.ok () w'/\Rel base M H' w'/\Below base w w':=by
 unfold qi7 at hs;split at hs
 next vs e k hsp hx=>
  split at hs
  next hc=>
   obtain ⟨hk,hle,hone,hid⟩:=hc;cases hs;obtain ⟨c,lo,hi,e2,hc,hv,h0,h1,h2⟩:=h.blk _ _ _ hb hx;obtain ⟨hsh,hbb,hfr,rfl⟩:=h2 hk;simp only[hsh,List.drop_zero,BI.ad,Nat.add_zero] at hv |-;have hlen:=hv.length;simp only[List.length_take,Array.length_toList] at hlen;have hnl:=hn.length;obtain ⟨bk,off,spot⟩:=a;simp only at hsp;subst hsp;simp only at hb hx hle hid hlen |-;obtain ⟨w',c',hr,hg',hc',ht⟩:=qdw (P:=P) (g:=b.real) (o:=off) new' 0 c w hc (by omega) hfr (hn.one hone);have hsz:c'.size=c.size:=by
    have:=congrArg List.length hc';simp at this;omega
   refine ⟨w',hr,h.put hb hx rfl (by simpa [ABlk.ro] using hk) hid ht.size ht.other ⟨c',lo,hi,_,hg',?_,λ hk=>?_,λ hk=>?_,λ _=>⟨hsh,hbb,by rw[hsz];exact hfr,rfl⟩⟩,ht.below hbb⟩
   ·simp only[hsh,List.drop_zero];have hl2:(vs.take off++new++vs.drop (off+new.length)).length=vs.length:=by simp;omega
    rw[hl2,hc'];have e1:List.take vs.length (c.toList.take (off+0)++new'++c.toList.drop (off+0+new'.length))=(c.toList.take vs.length).take off++new'++(c.toList.take vs.length).drop (off+new.length):=by
     have h0:(c.toList.take (off+0)).length=off:=by simp;omega
     rw[List.take_append,List.take_of_length_le (by simp only[List.length_append,h0];omega),List.take_take,Nat.min_eq_left (by omega),Nat.add_zero,List.drop_take]
     congr 1
     rw[hnl]
     congr 1
     simp only[List.length_append,List.length_take,Array.length_toList];omega
    rw[e1];exact ((hv.take off).append hn).append (hv.drop _)
   ·rw[hsz,h0 hk];simp;omega
   ·rw[hsz];exact h1 hk
  ·cases hs
 ·cases hs
theorem qiw {P:Program} {base:Prot} {M:Map} {H:AHeap} {w:World} (h:Rel base M H w) (hid:idOK H.next) {vs:List Value} {c:Array Value} (e:TypeId) (hv:VRL M vs c.toList) :
  ∃ w' b,(newRow e c).run P w=.ok (b.ad ⟨H.next,0,none⟩) w'/\Rel base (M++[b]) (H.add (.cells vs e 0)) w'/\Below base w w'/\(M++[b])[H.next]?=some b:=by
 refine ⟨{ w with heap:=w.heap.push (.cells c e) },{ real:=w.heap.size },by simp[newRow],?_,qco h.base_le _,?_⟩
 ·refine h.add rfl hid ⟨c,0,0,_,qcf w _,?_,λ _=>?_,λ hk=>absurd hk (by decide),λ _=>⟨rfl,h.fresh,.inl rfl,rfl⟩⟩
  ·simp only[List.drop_zero];rw[List.take_of_length_le (by rw[hv.length];exact Nat.le_refl _)];exact hv.mono (Ext.snoc M _)
  ·have:=hv.length;simpa using this
 ·rw[<- h.len];exact qeo M _
end Go.Ax
namespace Go.Ax
def qaa {α:Type} (P:Program):Sem α->Option α
 | .pure a=>some a
 | .program k=>qaa P (k P)
 | .mark _ k=>qaa P k
 | _=>none
theorem qab {α:Type} {P:Program} {s:Sem α} {a:α} (h:qaa P s=some a) (w:World):s.run P w=.ok a w:=by
 induction s with
 | pure b=>simp[qaa] at h;subst h;rfl
 | program k ih=>simp only[qaa] at h;exact ih _ h
 | mark m k ih=>simp only[qaa] at h;exact ih h
 | _=>simp[qaa] at h
def Snd (P:Program) (base:Prot) (M:Map) (w:World) (s:Sem Value) (v:Value) (H':AHeap):Prop:=
 ∃ M' w' r,s.run P w=.ok r w'/\Ext M M'/\VR M' v r/\Rel base M' H' w'/\Below base w w'
theorem Snd.still {P:Program} {base:Prot} {M:Map} {w:World} {s:Sem Value} {v r:Value} {H:AHeap} (h:Rel base M H w) (hr:s.run P w=.ok r w) (hv:VR M v r):Snd P base M w s v H:=
 ⟨M,w,r,hr,Ext.refl _,hv,h,Below.refl _ _⟩
section
variable {P:Program} {base:Prot} {M:Map} {H H':AHeap} {w:World}
def qjk (P:Program) (H:AHeap) (t:TypeId):Value->Option Value
 | .pointer (some a)=>
  match qaa P (isAgg t),qaa P (sizeOf t) with
  | some true,some n=>(qby H a n).map λ l=>.agg l.toArray
  | some false,_=>match qby H a 1 with | some [x]=>some x | _=>none
  | _,_=>none
 | _=>none
theorem qe6 {a:Addr} {x:Value} (h:(loadCells a 1).run P w=.ok #[x] w):(load a).run P w=.ok x w:=by
 unfold loadCells loadCellsFrom at h;have h0:a.add 0=a:=by simp[Addr.add]
 rw[h0] at h;simp only[Sem.run_bind] at h
 cases hr:(load a).run P w with
 | halt e w1=>rw[hr] at h;cases h
 | ok v w1=>rw[hr] at h;simp[loadCellsFrom] at h;obtain ⟨rfl,rfl⟩:=h;rfl
theorem qhs (h:Rel base M H w) {t:TypeId} {v:Value} {a:Addr} (hl:qjk P H t (.pointer (some a))=some v) {b:BI} (hb:M[a.block]?=some b) :
  ∃ r,(loadVar t (b.ad a)).run P w=.ok r w/\VR M v r:=by
 simp only[qjk] at hl;split at hl
 next n h1 h2=>
  rw[Option.map_eq_some_iff] at hl;obtain ⟨l,hl,rfl⟩:=hl;obtain ⟨l',hr,hv,_⟩:=qdg (P:=P) h hl hb;refine ⟨.agg l'.toArray,?_,?_⟩
  ·simp[loadVar,qab h1,qab h2,hr]
  ·simp only[VR];exact ⟨_,VRA.iff.2 (by simpa using hv),rfl⟩
 next _ h1=>
  split at hl
  next x hx=>cases hl;obtain ⟨l',hr,hv,_⟩:=qdg (P:=P) h hx hb;obtain ⟨x',l2,hxx,hl2,rfl⟩:=hv.cases;rw[hl2.nil_cases] at hr;refine ⟨x',?_,hxx⟩;have:=qe6 hr;simp only[loadVar,Sem.run_bind,qab h1,Result.andThen_ok,Bool.false_eq_true,if_false];exact this
  ·cases hl
 ·cases hl
theorem qf2 (h:Rel base M H w) {t:TypeId} {p p' v:Value} (hl:qjk P H t p=some v) (hp:VR M p p'):Snd P base M w (Instr.loadAt t p') v H:=by
 cases p with
 | pointer a=>
  cases a with
  | none=>simp[qjk] at hl
  | some a=>
   simp only[VR] at hp;obtain ⟨b,hb,rfl⟩:=hp;obtain ⟨r,hr,hv⟩:=qhs h hl hb;refine Snd.still h ?_ hv;simp[Instr.loadAt,Instr.sureAddr,hr]
 | _=>simp[qjk] at hl
def qcj (P:Program) (H:AHeap) (t:TypeId):Value->Value->Option AHeap
 | .pointer (some a),v=>match qaa P (sizeOf t) with
  | some n=>if v.cells.size=n then qi7 H a v.cells.toList else none
  | none=>none
 | _,_=>none
theorem qc7 (h:Rel base M H w) {t:TypeId} {p p' v v':Value} (hs:qcj P H t p v=some H') (hp:VR M p p') (hv:VR M v v') :
  ∃ w',(Instr.storeAt t p' v').run P w=.ok () w'/\Rel base M H' w'/\Below base w w':=by
 cases p with
 | pointer a=>
  cases a with
  | none=>simp[qcj] at hs
  | some a=>
   simp only[VR] at hp;obtain ⟨b,hb,rfl⟩:=hp;simp only[qcj] at hs;split at hs
   next n hn=>
    split at hs
    next hsz=>
     have hc:=hv.cells;obtain ⟨w',hr,hrel,hbel⟩:=qbz (P:=P) h hs hb hc;refine ⟨w',?_,hrel,hbel⟩;have:v'.cells.size=n:=by have:=hc.length;simp at this;omega
     simp[Instr.storeAt,Instr.sureAddr,storeVar,qab hn,this,hr]
    ·cases hs
   ·cases hs
 | _=>simp[qcj] at hs
def aNew (H:AHeap) (e:TypeId) (vs:List Value):Option (Value × AHeap):=
 if idOK H.next then some (.pointer (some ⟨H.next,0,none⟩),H.add (.cells vs e 0)) else none
theorem qiv (h:Rel base M H w) {e:TypeId} {v v' p:Value} (hn:aNew H e v.cells.toList=some (p,H')) (hv:VR M v v') :
  ∃ M' w' a,(newVar e v').run P w=.ok a w'/\Ext M M'/\VR M' p (.pointer (some a))/\Rel base M' H' w'/\Below base w w':=by
 simp only[aNew] at hn;split at hn
 next hid=>cases hn;obtain ⟨w',b,hr,hrel,hbel,hb⟩:=qiw (P:=P) h hid e hv.cells;exact ⟨_,w',_,hr,Ext.snoc M b,by simp only[VR];exact ⟨b,hb,rfl⟩,hrel,hbel⟩
 ·cases hn
def qr7 (P:Program) (H:AHeap) (e:TypeId):Option (Value × AHeap):=
 match qaa P (zeroValue e) with
 | some z=>if flat z then aNew H e z.cells.toList else none
 | none=>none
theorem qqb (h:Rel base M H w) {e:TypeId} {p:Value} (hn:qr7 P H e=some (p,H')):Snd P base M w (Instr.alloc e true (.tuple #[])) p H':=by
 unfold qr7 at hn;split at hn
 next z hz=>
  split at hn
  next hf=>obtain ⟨M',w',a,hr,he,hv,hrel,hb⟩:=qiv (P:=P) h hn (VR.self hf);exact ⟨M',w',_,by simp[Instr.alloc,qab hz,hr],he,hv,hrel,hb⟩
  ·cases hn
 ·cases hn
theorem qwp (h:Rel base M H w) {e:TypeId} {v v' p:Value} (hn:aNew H e v.cells.toList=some (p,H')) (hv:VR M v v'):Snd P base M w (Instr.box e v') p H':=by
 obtain ⟨M',w',a,hr,he,hv,hrel,hb⟩:=qiv (P:=P) h hn hv;exact ⟨M',w',_,by simp[Instr.box,hr],he,hv,hrel,hb⟩
def qh9 (M:Map):List (Nat × Value)->List (Nat × Value)->Prop
 | [],r=>r=[]
 | (i,v)::l,r=>∃ v' l',VR M v v'/\qh9 M l l'/\r=(i,v')::l'
theorem qko (off:Nat):∀ (xs xs':List Value) (k:Nat) (cs cs':Array Value),VRL M xs xs'->VRL M cs.toList cs'.toList ->
  VRL M ((xs.zipIdx k).foldl (λ cs (c,j)=>cs.setIfInBounds (off+j) c) cs).toList ((xs'.zipIdx k).foldl (λ cs (c,j)=>cs.setIfInBounds (off+j) c) cs').toList
 | [],_,_,_,_,h,hc=>by rw[h.nil_cases];simpa using hc
 | x::xs,_,k,cs,cs',h,hc=>by
  obtain ⟨x',l',hx,hl,rfl⟩:=h.cases;simp only[List.zipIdx_cons,List.foldl_cons];exact qko off xs l' (k+1) _ _ hl (by simpa using hc.set (off+k) hx)
theorem qf5 (place:Nat->Option (Nat × Nat)):∀ (parts parts':List (Nat × Value)) (cs cs' out:Array Value),qh9 M parts parts'->VRL M cs.toList cs'.toList->Instr.fill place cs parts=some out ->
  ∃ out',Instr.fill place cs' parts'=some out'/\VRL M out.toList out'.toList
 | [],_,cs,cs',out,hp,hc,ho=>by simp only[qh9] at hp;subst hp;simp only[Instr.fill,Option.some.injEq] at ho |-;subst ho;exact ⟨cs',rfl,hc⟩
 | (i,v)::l,_,cs,cs',out,hp,hc,ho=>by
  simp only[qh9] at hp;obtain ⟨v',l',hv,hl,rfl⟩:=hp;simp only[Instr.fill] at ho |-;have hcl:=hv.cells.length;have hsl:=hc.length;simp only[Array.length_toList] at hcl hsl
  cases hpl:place i with
  | none=>rw[hpl] at ho;cases ho
  | some os=>
   obtain ⟨off,size⟩:=os;rw[hpl] at ho;simp only at ho |-;rw[hcl,hsl];split at ho
   ·cases ho
   next hcond=>rw[if_neg hcond];have:=qko (M:=M) off _ _ 0 cs cs' hv.cells hc;refine qf5 place l l' _ _ out hl ?_ ho;rw[<- Array.foldl_toList,<- Array.foldl_toList,Array.toList_zipIdx,Array.toList_zipIdx];exact this
def qk7 (P:Program) (t:TypeId) (parts:Array (Nat × Value)):Option Value:=
 match qaa P (zeroValue t) with
 | some z=>
  if flat z then
   match qaa P (underlying t) with
   | some (.struct fields)=>
    match qaa P (fields.mapM λ f=>do pure (f.offset,<- sizeOf f.type)) with
    | some places=>(Instr.fill (places[·]?) z.cells parts.toList).map .agg
    | none=>none
   | some (.array _ elem)=>
    match qaa P (sizeOf elem) with
    | some size=>(Instr.fill (λ i=>some (i*size,size)) z.cells parts.toList).map .agg
    | none=>none
   | _=>none
  else none
 | none=>none
theorem qp8 (h:Rel base M H w) {t:TypeId} {parts parts':Array (Nat × Value)} {v:Value} (hb:qk7 P t parts=some v) (hp:qh9 M parts.toList parts'.toList):Snd P base M w (Instr.build t parts') v H:=by
 unfold qk7 at hb;split at hb
 next z hz=>
  split at hb
  next hf=>
   have hzz:=(VR.self (M:=M) hf).cells;split at hb
   next fields hu=>
    split at hb
    next places hpl=>rw[Option.map_eq_some_iff] at hb;obtain ⟨out,ho,rfl⟩:=hb;obtain ⟨out',ho',hv⟩:=qf5 _ _ _ _ _ _ hp hzz ho;refine Snd.still h (r:=.agg out') ?_ (by simp only[VR];exact ⟨_,VRA.iff.2 hv,rfl⟩);simp only[Instr.build,Sem.run_bind,qab hz,qab hu,Result.andThen_ok,qab hpl];rw[ho'];rfl
    ·cases hb
   next n elem hu=>
    split at hb
    next size hsz=>rw[Option.map_eq_some_iff] at hb;obtain ⟨out,ho,rfl⟩:=hb;obtain ⟨out',ho',hv⟩:=qf5 _ _ _ _ _ _ hp hzz ho;refine Snd.still h (r:=.agg out') ?_ (by simp only[VR];exact ⟨_,VRA.iff.2 hv,rfl⟩);simp only[Instr.build,Sem.run_bind,qab hz,qab hu,Result.andThen_ok,qab hsz];rw[ho'];rfl
    ·cases hb
   ·cases hb
  ·cases hb
 ·cases hb
end
end Go.Ax
namespace Go.Ax
section
variable {P:Program} {base:Prot} {M:Map} {H H':AHeap} {w:World}
def qdl (H:AHeap) (e:TypeId) (vs:List Value) (l c:Nat):Option (Value × AHeap):=
 if idOK H.next/\c≠qae then some (.slice (some ⟨H.next,0,none⟩) l c,H.add (.cells vs e 0)) else none
theorem qgh (h:Rel base M H w) {e:TypeId} {vs:List Value} {c':Array Value} {l c:Nat} {p:Value} (hn:qdl H e vs l c=some (p,H')) (hv:VRL M vs c'.toList) :
  ∃ M' w' a,(newRow e c').run P w=.ok a w'/\Ext M M'/\VR M' p (.slice (some a) l c)/\Rel base M' H' w'/\Below base w w':=by
 simp only[qdl] at hn;split at hn
 next hid=>cases hn;obtain ⟨w',b,hr,hrel,hbel,hb⟩:=qiw (P:=P) h hid.1 e hv;refine ⟨_,w',_,hr,Ext.snoc M b,?_,hrel,hbel⟩;simp only[VR];rw[if_neg (by simp)];exact ⟨b,hb,by simp[qb3,hid.2]⟩
 ·cases hn
theorem qdx {z:Array Value} (hz:qbd z.toList=true) (n:Nat) (h0:n=0\/0<z.size):qbd ((Array.range n).map (z[· % z.size]!)).toList=true:=by
 have key:∀ (l:List Nat),(∀ i∈l,0<z.size)->qbd (l.map (z[· % z.size]!))=true:=by
  intro l
  induction l with
  | nil=>intro _;rfl
  | cons i l ih=>
   intro hl;simp only[List.map_cons,qbd,Bool.and_eq_true];refine ⟨?_,ih λ j hj=>hl j (List.mem_cons_of_mem _ hj)⟩;have hlt:=Nat.mod_lt i (hl i (List.mem_cons_self ..));rw[getElem!_pos z _ hlt];exact qor hz _ (by simp)
 rw[Array.toList_map];refine key _ λ i hi=>?_
 rcases h0 with rfl | h0
 ·simp at hi
 ·exact h0
def qdm (P:Program) (H:AHeap) (t:TypeId) (len:Nat) (parts:Array (Nat × Value)):Option (Value × AHeap):=
 match qaa P (underlying t) with
 | some (.slice elem)=>
  match qaa P (sizeOf elem),qaa P (zeroValue elem) with
  | some size,some z=>
   if ¬ len*size > 2 ^ 24/\qbd z.cells.toList=true/\(len*size=0\/0<z.cells.size) then
    match Instr.fill (λ i=>some (i*size,size)) ((Array.range (len*size)).map (z.cells[· % z.cells.size]!)) parts.toList with
    | some cells=>qdl H elem cells.toList len len
    | none=>none
   else none
  | _,_=>none
 | _=>none
theorem qjj (h:Rel base M H w) {t:TypeId} {len:Nat} {parts parts':Array (Nat × Value)} {v:Value} (hb:qdm P H t len parts=some (v,H')) (hp:qh9 M parts.toList parts'.toList) :
  Snd P base M w (Instr.buildSlice t len parts') v H':=by
 unfold qdm at hb;split at hb
 next elem hu=>
  split at hb
  next size z hs hz=>
   split at hb
   next hf=>
    obtain ⟨hbig,hf,hf0⟩:=hf;split at hb
    next cells hfill=>
     obtain ⟨out',ho',hv⟩:=qf5 (M:=M) _ _ _ _ _ _ hp (VRL.self (qdx hf (len*size) hf0)) hfill;obtain ⟨M',w',a,hr,he,hvv,hrel,hbel⟩:=qgh (P:=P) h hb hv;refine ⟨M',w',_,?_,he,hvv,hrel,hbel⟩;simp only[Instr.buildSlice,Sem.run_bind,qab hu,qab hs,Result.andThen_ok,Sem.run_ite,if_neg hbig,Sem.run_pure];by_cases h0:len*size=0
     ·rw[if_pos h0];simp only[h0] at ho' |-;have e:(Array.range 0).map (z.cells[· % z.cells.size]!)=(Array.range 0).map ((#[]:Array Value)[· % (#[]:Array Value).size]!):=by simp
      rw[e] at ho';rw[ho'];simp[hr]
     ·rw[if_neg h0];simp only[qab hz,Result.andThen_ok];rw[ho'];simp[hr]
    ·cases hb
   ·cases hb
  ·cases hb
 ·cases hb
def qga (P:Program) (H:AHeap) (t:TypeId):Value->Value->Option (Value × AHeap)
 | .int _ l,.int _ c=>
  match qaa P (underlying t) with
  | some (.slice elem)=>
   match qaa P (typeInfo elem),qaa P (sizeOf elem),qaa P (zeroValue elem) with
   | some i,some size,some z=>
    if 0<=l/\l<=c/\c<2 ^ 24/\i.bytes*c<=2 ^ 48/\qbd z.cells.toList=true/\0<z.cells.size then
     qdl H elem ((Array.range (c.toNat * size)).map (z.cells[· % z.cells.size]!)).toList l.toNat c.toNat
    else none
   | _,_,_=>none
  | _=>none
 | _,_=>none
theorem qkk (h:Rel base M H w) {t:TypeId} {x y x' y':Value} {v:Value} (hm:qga P H t x y=some (v,H')) (hx:VR M x x') (hy:VR M y y') :
  Snd P base M w (Instr.makeSlice t x' y') v H':=by
 unfold qga at hm;split at hm
 next _ l _ c=>
  simp only[VR] at hx hy;subst hx hy;split at hm
  next elem hu=>
   split at hm
   next i size z hi hs hz=>
    split at hm
    next hc=>
     obtain ⟨h0,h1,h2,h3,hf,hzs⟩:=hc;have wl:IntKind.i64.wrap l=l:=by rw[IntKind.wrap_i64];omega
     have wc:IntKind.i64.wrap c=c:=by rw[IntKind.wrap_i64];omega
     obtain ⟨M',w',a,hr,he,hvv,hrel,hbel⟩:=qgh (P:=P) (l:=l.toNat) (c:=c.toNat) h hm (VRL.self (qdx hf _ (.inr hzs)));refine ⟨M',w',_,?_,he,hvv,hrel,hbel⟩;have e0:(((decide (c<0) || decide (↑i.bytes*c > 2 ^ 48)) || decide (l<0)) || decide (l > c))=false:=by
      simp;omega
     simp only[Instr.makeSlice,Sem.run_bind,qab hu,Result.andThen_ok,asInt,asIntOf,Sem.run_pure,qab hi,wl,wc,e0,Bool.false_eq_true,if_false,run_askRoom,qab hs,Sem.run_ite];by_cases hn:c.toNat * size=0
     ·rw[if_pos hn];rw[hn] at hr;have e:(Array.range 0).map (z.cells[· % z.cells.size]!)=(Array.range 0).map ((#[]:Array Value)[· % (#[]:Array Value).size]!):=by simp
      rw[e] at hr;rw[hn,hr];simp
     ·rw[if_neg hn];simp only[qab hz,Result.andThen_ok];rw[hr];simp
    ·cases hm
   ·cases hm
  ·cases hm
 ·cases hm
end
end Go.Ax
namespace Go.Ax
theorem qad {α β:Type} {P:Program} (x:Sem α) (f:α->Sem β):qaa P (x >>= f)=(qaa P x).bind λ a=>qaa P (f a):=by
 show qaa P (x.bind f)=_
 induction x with
 | pure a=>rfl
 | program k ih=>simp only[Sem.bind,qaa];exact ih _
 | mark m k ih=>simp only[Sem.bind,qaa];exact ih
 | _=>rfl
theorem qac {α:Type} {P:Program} (a:α):qaa P (pure a:Sem α)=some a:=rfl
theorem qkd {α:Type} {P:Program} (c:Prop) [Decidable c] (x y:Sem α):qaa P (if c then x else y)=if c then qaa P x else qaa P y:=by split <;> rfl
theorem qeh {α:Type} {P:Program} (s:String):qaa P (stuck s:Sem α)=none:=rfl
theorem qgs {α:Type} {P:Program} (s:Unsupported):qaa P (unsupported s:Sem α)=none:=rfl
theorem qba {P:Program}:qaa P program=some P:=rfl
theorem qk9 {P:Program} (q:Question):qaa P (choose q)=none:=rfl
theorem qgb {α:Type} {P:Program} (e:RuntimeError):qaa P (runtimePanic e:Sem α)=none:=by
 unfold runtimePanic;rw[qad,qba];simp only[Option.bind_some]
 cases e with
 | typeAssertion i c a m=>
  simp only;rw[qad];cases h:qaa P (elemOf P.rt.typeAssertionError) with
  | none=>rfl
  | some t=>
   simp only[Option.bind_some];rw[qad];rfl
 | panicNil=>
  simp only;rw[qad];cases h:qaa P (elemOf P.rt.panicNilError) with
  | none=>rfl
  | some t=>
   simp only[Option.bind_some];rw[qad];rfl
 | _=>rfl
theorem qdc {α β:Type} {P:Program} (x:Sem α) (f:α->β):qaa P (Functor.map f x)=(qaa P x).map f:=by
 rw[map_eq_pure_bind,qad]
 cases qaa P x <;> rfl
theorem qgt {α:Type} {P:Program} (k:IntKind) (x y:Int) (c:BoundsCode):qaa P (boundsPanic k x y c:Sem α)=none:=by
 unfold boundsPanic;simp only[qkd,qad,qdc,qk9,qac,qgb];split <;> rfl
theorem qau {P:Program} {x:Value} {y:Nat} {c:BoundsCode} {n:Nat} (h:qaa P (Instr.sliceBound x y c)=some n):∃ k i,x=.int k i/\0<=i/\i<=y/\n=i.toNat:=by
 unfold Instr.sliceBound at h;rw[qad] at h
 cases x with
 | int k i=>
  simp only[asIntOf,qac,Option.bind_some,qkd] at h;split at h
  next hc=>cases h;exact ⟨k,i,rfl,hc.1,hc.2,rfl⟩
  ·rw[qgt] at h;cases h
 | pointer a=>cases a <;> simp[asIntOf,qeh,qgs] at h
 | _=>simp[asIntOf,qeh] at h
theorem qax {P:Program} {w:World} {k:IntKind} {i:Int} {y:Nat} {c:BoundsCode} (h0:0<=i) (h1:i<=y):(Instr.sliceBound (.int k i) y c).run P w=.ok i.toNat w:=by
 simp[Instr.sliceBound,asIntOf,h0,h1]
theorem qex {P:Program} {w:World} {len cap l h m:Nat} {lo hi:Option Value} (hb:qaa P (Instr.sliceBounds true len len lo hi none)=some (l,h,m)) (hc:len<=cap) :
  (Instr.sliceBounds true len cap lo hi none).run P w=.ok (l,h,cap) w/\l<=h/\h<=len:=by
 cases hi <;> cases lo <;> simp only[Instr.sliceBounds,qad,qac,Option.bind_some,Option.bind_eq_some_iff,Option.some.injEq,Prod.mk.injEq] at hb
 ·obtain ⟨rfl,rfl,rfl⟩:=hb;exact ⟨by simp[Instr.sliceBounds],by omega,by omega⟩
 ·obtain ⟨n,hn,rfl,rfl,rfl⟩:=hb;obtain ⟨k,i,rfl,h0,h1,rfl⟩:=qau hn;exact ⟨by simp[Instr.sliceBounds,qax h0 h1],by omega,by omega⟩
 ·obtain ⟨q,hq,rfl,rfl,rfl⟩:=hb;obtain ⟨kx,ix,rfl,hx0,hx1,rfl⟩:=qau hq;have hx2:ix<=(cap:Int):=by omega
  exact ⟨by simp[Instr.sliceBounds,qax hx0 hx2],by omega,by omega⟩
 ·obtain ⟨q,hq,n,hn,rfl,rfl,rfl⟩:=hb;obtain ⟨kx,ix,rfl,hx0,hx1,rfl⟩:=qau hq;obtain ⟨k,i,rfl,h0,h1,rfl⟩:=qau hn;have hx2:ix<=(cap:Int):=by omega
  exact ⟨by simp[Instr.sliceBounds,qax hx0 hx2,qax h0 h1],by omega,by omega⟩
theorem qjd {P:Program} {w:World} {len cap l h m:Nat} {lo hi:Option Value} {x:Value} (hb:qaa P (Instr.sliceBounds true len len lo hi (some x))=some (l,h,m)) (hc:len<=cap) :
  (Instr.sliceBounds true len cap lo hi (some x)).run P w=.ok (l,h,m) w/\l<=h/\h<=m/\m<=len:=by
 cases hi with
 | none=>
  simp only[Instr.sliceBounds,qad,qeh,Option.bind_none,Option.bind_eq_some_iff] at hb;obtain ⟨_,_,hb⟩:=hb;cases hb
 | some y=>
  cases lo <;> simp only[Instr.sliceBounds,qad,qac,Option.bind_some,Option.bind_eq_some_iff,Option.some.injEq,Prod.mk.injEq] at hb
  ·obtain ⟨q,hq,n,hn,rfl,rfl,rfl⟩:=hb;obtain ⟨kx,ix,rfl,hx0,hx1,rfl⟩:=qau hq;obtain ⟨k,i,rfl,h0,h1,rfl⟩:=qau hn;have hx2:ix<=(cap:Int):=by omega
   exact ⟨by simp[Instr.sliceBounds,qax hx0 hx2,qax h0 h1],by omega,by omega,by omega⟩
  ·obtain ⟨q,hq,n,hn,r,hr,rfl,rfl,rfl⟩:=hb;obtain ⟨kx,ix,rfl,hx0,hx1,rfl⟩:=qau hq;obtain ⟨k,i,rfl,h0,h1,rfl⟩:=qau hn;obtain ⟨kr,ir,rfl,hr0,hr1,rfl⟩:=qau hr;have hx2:ix<=(cap:Int):=by omega
   exact ⟨by simp[Instr.sliceBounds,qax hx0 hx2,qax h0 h1,qax hr0 hr1],by omega,by omega,by omega⟩
def emptySlice:Value:=.slice (some ⟨0,0,some 7⟩) 0 0
theorem VR.emptySlice {M:Map} (a:Addr) (c:Nat):VR M Ax.emptySlice (.slice (some a) 0 c):=by
 simp only[Ax.emptySlice,VR];rw[if_pos trivial];exact ⟨trivial,trivial,a,c,rfl⟩
section
variable {P:Program} {base:Prot} {M:Map} {H H':AHeap} {w:World}
theorem qjp (h:Rel base M H w) {a:Addr} {b:BI} {vs:List Value} {e:TypeId} {k len:Nat} (hb:M[a.block]?=some b) (hx:H.t.get a.block=some (.cells vs e k)) (hk:10<=k) (hd:a.off % (k-10)=0)
  (hl:a.off+len*(k-10)<=vs.length):len<=qb3 b a qae/\b.sz=k-10/\a.off+qb3 b a qae*(k-10)=b.tot*b.sz/\(∀ n,qb3 b { a with off:=a.off+n*(k-10) } qae=qb3 b a qae-n):=by
 obtain ⟨c,lo,hi,e2,hc,hv,_,h1,hsh0⟩:=h.blk _ _ _ hb hx;obtain ⟨h2,h3,h4⟩:=h1 hk;have hlen:=hv.length;have hsh:b.sh=0:=(hsh0 (by omega)).1;simp only[hsh,List.drop_zero,List.length_take,Array.length_toList] at hlen;have hsz:b.sz=k-10:=by omega
 rw[<- hsz] at hd hl |-;have hcs:vs.length<=c.size:=by omega
 generalize hz:b.sz=z at *;obtain ⟨q,hq⟩:∃ q,a.off=q*z:=⟨a.off / z,by have:=Nat.div_add_mod a.off z;rw[hd,Nat.mul_comm] at this;omega⟩;have hdiv:a.off / z=q:=by rw[hq];exact Nat.mul_div_cancel _ h4
 have hql:q+len<=b.tot:=by
  have:(q+len)*z<=b.tot*z:=by rw[Nat.add_mul,<- hq,<- h2];omega
  exact Nat.le_of_mul_le_mul_right this h4
 simp only[qb3,if_true,hz,hdiv];refine ⟨by omega,trivial,?_,λ n=>?_⟩
 ·rw[hq,<- Nat.add_mul];congr 1;omega
 ·have:(a.off+n*z) / z=q+n:=by rw[hq,<- Nat.add_mul];exact Nat.mul_div_cancel _ h4
  rw[this];omega
def qbv (P:Program) (H:AHeap) (t:TypeId) (x:Value) (lo hi mx:Option Value):Option Value:=
 match x with
 | .slice (some a) len cap=>
  match qaa P (underlying t),mx with
  | some (.slice elem),none=>
   if a.spot=some 7 then
    match qaa P (Instr.sliceBounds true 0 0 lo hi none),qaa P (sizeOf elem) with
    | some _,some _=>some emptySlice
    | _,_=>none
   else if cap=qae then
    match H.t.get a.block,qaa P (sizeOf elem),qaa P (Instr.sliceBounds true len len lo hi none) with
    | some (.cells vs _ k),some size,some (l,h,_)=>
     if k=10+size/\a.off % size=0/\a.off+len*size<=vs.length/\a.spot=none then
      if l=len then some emptySlice else some (.slice (some (a.add (l*size))) (h-l) qae)
     else none
    | _,_,_=>none
   else
    match qaa P (sizeOf elem),qaa P (Instr.sliceBounds true len cap lo hi none) with
    | some size,some (l,h,m)=>if a.spot=none/\m-l≠qae then some (.slice (some (if m=l then a else a.add (l*size))) (h-l) (m-l)) else none
    | _,_=>none
  | some (.slice elem),some v=>
   if a.spot=some 7 then none
   else if cap=qae then
    match H.t.get a.block,qaa P (sizeOf elem),qaa P (Instr.sliceBounds true len len lo hi (some v)) with
    | some (.cells vs _ k),some size,some (l,h,m)=>
     if k=10+size/\a.off % size=0/\a.off+len*size<=vs.length/\a.spot=none/\m-l≠qae then some (.slice (some (if m=l then a else a.add (l*size))) (h-l) (m-l)) else none
    | _,_,_=>none
   else
    match qaa P (sizeOf elem),qaa P (Instr.sliceBounds true len cap lo hi (some v)) with
    | some size,some (l,h,m)=>if a.spot=none/\m-l≠qae then some (.slice (some (if m=l then a else a.add (l*size))) (h-l) (m-l)) else none
    | _,_=>none
  | _,_=>none
 | .pointer (some a)=>
  match qaa P (underlying t) with
  | some (.array n elem)=>
   match qaa P (sizeOf elem),qaa P (Instr.sliceBounds false n n lo hi mx) with
   | some size,some (l,h,m)=>if a.spot=none/\m-l≠qae then some (.slice (some (if m=l then a else a.add (l*size))) (h-l) (m-l)) else none
   | _,_=>none
  | _=>none
 | x=>match qaa P (Instr.sliceAt t x lo hi mx) with
  | some v=>if flat x/\flat v then some v else none
  | none=>none
theorem VR.slice_at {b:BI} {a:Addr} (hb:M[a.block]?=some b) (hs:a.spot=none) (l n c:Nat) (hc:c≠qae) (p:Prop) [Decidable p] :
  VR M (.slice (some (if p then a else a.add l)) n c) (.slice (some (if p then (b.ad a) else (b.ad a).add l)) n c):=by
 obtain ⟨bk,off,spot⟩:=a;simp only at hs hb;subst hs;simp only[VR,qaz];split
 ·rw[if_neg (by simp)];exact ⟨b,hb,by simp[qb3,hc]⟩
 ·rw[if_neg (by simp)];exact ⟨b,hb,by simp[qb3,hc,Addr.add,Nat.add_right_comm]⟩
end
end Go.Ax
namespace Go.Ax
section
variable {P:Program} {base:Prot} {M:Map} {H H':AHeap} {w:World}
theorem qgo (h:Rel base M H w) {t:TypeId} {x x' v:Value} {lo hi mx lo' hi' mx':Option Value} (hs:qbv P H t x lo hi mx=some v) (hx:VR M x x')
  (hlo:lo'=lo) (hhi:hi'=hi) (hmx:mx'=mx):Snd P base M w (Instr.sliceAt t x' lo' hi' mx') v H:=by
 subst hlo hhi hmx;have flatc:∀ {x},(match qaa P (Instr.sliceAt t x lo' hi' mx') with | some v=>if flat x/\flat v then some v else none | none=>none)=some v->VR M x x'->Snd P base M w (Instr.sliceAt t x' lo' hi' mx') v H:=by
  intro x hs hx;split at hs
  next v0 hv0=>
   split at hs
   next hf=>cases hs;rw[(VR.flat_iff _ hf.1 _).1 hx];exact Snd.still h (qab hv0 w) (VR.self hf.2)
   ·cases hs
  ·cases hs
 unfold qbv at hs;split at hs
 next a len cap=>
  simp only[VR] at hx;split at hs
  ·-- no max
   rename_i elem hu;have hu':=qab hu w;split at hs
   ·-- an empty slice
    rename_i h7;rw[if_pos h7] at hx;obtain ⟨rfl,rfl,a',c',rfl⟩:=hx;split at hs
    next lhm size hb hso=>
     obtain ⟨l,hh,m⟩:=lhm;cases hs;obtain ⟨hr,h1,h2⟩:=qex (w:=w) hb (Nat.zero_le c');have hl0:l=0:=by omega
     have hh0:hh=0:=by omega
     subst hl0 hh0;refine Snd.still h (r:=.slice (some (if c'=0 then a' else a'.add (0*size))) (0-0) (c'-0)) ?_ (by simpa using VR.emptySlice _ _);simp only[Instr.sliceAt,Instr.slice,Sem.run_bind,hu',Result.andThen_ok,hr,qab hso,Sem.run_pure]
     congr 2
     split <;> rfl
    ·cases hs
   next h7=>
    rw[if_neg h7] at hx;obtain ⟨b,hb0,rfl⟩:=hx;split at hs
    ·-- open
     rename_i hopen;subst hopen;split at hs
     next vs e k size l hh m hget hsize hb=>
      split at hs
      next hc=>
       obtain ⟨rfl,hd,hle,hsp⟩:=hc;obtain ⟨o1,o2,o3,o4⟩:=qjp      h hb0 hget (by omega) (by simpa using hd) (by simpa using hle);simp only[Nat.add_sub_cancel_left] at o2 o3 o4;obtain ⟨hr,h1,h2⟩:=qex              (w:=w) hb o1;have hrun:(Instr.sliceAt t (.slice (some (b.ad a)) len (qb3   b a qae    )) lo' hi' none).run P w =
         .ok (.slice (if qb3 b a qae=l then some (b.ad a) else some ((b.ad a).add (l*size))) (hh-l) (qb3 b a qae-l)) w:=by
        simp[Instr.sliceAt,Instr.slice,hu',hr,qab hsize]
       split at hs
       next hl=>
        cases hs;refine Snd.still h hrun ?_;have:hh-l=0:=by omega
        rw[this];split <;> exact VR.emptySlice _ _
       next hl=>cases hs;refine Snd.still h hrun ?_;rw[if_neg (by omega)];obtain ⟨bk,off,spot⟩:=a;simp only at hsp hb0;subst hsp;simp only[qaz,VR];rw[if_neg (by simp)];refine ⟨b,hb0,?_⟩;have:=o4 l;simp only at this;rw[show qb3 b ⟨bk,off+l*size,none⟩ qae=qb3 b ⟨bk,off,none⟩ qae-l from this];simp only[BI.ad,qaz,Nat.add_right_comm]
      ·cases hs
     ·cases hs
    ·-- closed
     rename_i hopen;split at hs
     next size l hh m hsize hb=>
      split at hs
      next hc=>
       cases hs;have hr:=qab hb w;refine Snd.still h (r:=.slice (some (if m=l then (b.ad a) else (b.ad a).add (l*size))) (hh-l) (m-l)) ?_ (VR.slice_at hb0 hc.1 _ _ _ hc.2 _);have hcap:qb3 b a cap=cap:=by simp[qb3,hopen]
       rw[hcap];simp only[Instr.sliceAt,Instr.slice,Sem.run_bind,hu',Result.andThen_ok,hr,qab hsize,Sem.run_pure];split <;> rfl
      ·cases hs
     ·cases hs
  ·-- with max
   rename_i mv elem hu;have hu':=qab hu w;split at hs
   ·cases hs
   next h7=>
    rw[if_neg h7] at hx;obtain ⟨b,hb0,rfl⟩:=hx;split at hs
    next hopen=>
     subst hopen;split at hs
     next vs e k size l hh m hget hsize hb=>
      split at hs
      next hc=>obtain ⟨rfl,hd,hle,hsp,hno⟩:=hc;obtain ⟨o1,o2,o3,o4⟩:=qjp h hb0 hget (by omega) (by simpa using hd) (by simpa using hle);obtain ⟨hr,h1,h2,h3⟩:=qjd (w:=w) hb o1;cases hs;refine Snd.still h (r:=.slice (some (if m=l then (b.ad a) else (b.ad a).add (l*size))) (hh-l) (m-l)) ?_ (VR.slice_at hb0 hsp _ _ _ hno _);simp only[Instr.sliceAt,Instr.slice,Sem.run_bind,hu',Result.andThen_ok,hr,qab hsize,Sem.run_pure];split <;> rfl
      ·cases hs
     ·cases hs
    next hopen=>
     split at hs
     next size l hh m hsize hb=>
      split at hs
      next hc=>
       cases hs;have hr:=qab hb w;refine Snd.still h (r:=.slice (some (if m=l then (b.ad a) else (b.ad a).add (l*size))) (hh-l) (m-l)) ?_ (VR.slice_at hb0 hc.1 _ _ _ hc.2 _);have hcap:qb3 b a cap=cap:=by simp[qb3,hopen]
       rw[hcap];simp only[Instr.sliceAt,Instr.slice,Sem.run_bind,hu',Result.andThen_ok,hr,qab hsize,Sem.run_pure];split <;> rfl
      ·cases hs
     ·cases hs
  ·cases hs
 next a=>
  simp only[VR] at hx;obtain ⟨b,hb0,rfl⟩:=hx;split at hs
  next n elem hu=>
   have hu':=qab hu w;split at hs
   next size l hh m hsize hb=>
    split at hs
    next hc=>cases hs;have hr:=qab hb w;refine Snd.still h (r:=.slice (some (if m=l then (b.ad a) else (b.ad a).add (l*size))) (hh-l) (m-l)) ?_ (VR.slice_at hb0 hc.1 _ _ _ hc.2 _);simp[Instr.sliceAt,Instr.sureAddr,hu',hr,qab hsize]
    ·cases hs
   ·cases hs
  ·cases hs
 ·exact flatc hs hx
end
end Go.Ax
namespace Go.Ax
section
variable {P:Program} {base:Prot} {M:Map} {H H':AHeap} {w:World}
def qb8 (P:Program) (t:TypeId):Value->Value->Option Value
 | .slice (some a) len _,.int _ i=>
  match qaa P (underlying t) with
  | some (.slice elem)=>
   match qaa P (sizeOf elem) with
   | some size=>if 0<=i/\i<len/\a.spot=none then some (.pointer (some (a.add (i.toNat * size)))) else none
   | none=>none
  | _=>none
 | .pointer (some a),.int _ i=>
  match qaa P (underlying t) with
  | some (.array len elem)=>
   match qaa P (sizeOf elem) with
   | some size=>if 0<=i/\i<len/\a.spot=none then some (.pointer (some (a.add (i.toNat * size)))) else none
   | none=>none
  | _=>none
 | _,_=>none
theorem VR.pointer_add {b:BI} {a:Addr} (hb:M[a.block]?=some b) (hs:a.spot=none) (n:Nat):VR M (.pointer (some (a.add n))) (.pointer (some ((b.ad a).add n))):=by
 obtain ⟨bk,off,spot⟩:=a;simp only at hs hb;subst hs;simp only[qaz,VR];exact ⟨b,hb,by simp[Addr.add,Nat.add_right_comm]⟩
theorem qdh (h:Rel base M H w) {t:TypeId} {x x' i i' v:Value} (hs:qb8 P t x i=some v) (hx:VR M x x') (hi:VR M i i'):Snd P base M w (Instr.indexAt t x' i') v H:=by
 unfold qb8 at hs;split at hs
 next a len cap k n=>
  simp only[VR] at hi;subst hi;split at hs
  next elem hu=>
   split at hs
   next size hsz=>
    split at hs
    next hc=>cases hs;simp only[VR] at hx;rw[if_neg (by rw[hc.2.2];simp)] at hx;obtain ⟨b,hb,rfl⟩:=hx;refine Snd.still h ?_ (VR.pointer_add hb hc.2.2 _);simp[Instr.indexAt,asIntOf,qab hu,qab hsz,hc.1,hc.2.1]
    ·cases hs
   ·cases hs
  ·cases hs
 next a k n=>
  simp only[VR] at hi hx;subst hi;obtain ⟨b,hb,rfl⟩:=hx;split at hs
  next len elem hu=>
   split at hs
   next size hsz=>
    split at hs
    next hc=>cases hs;refine Snd.still h ?_ (VR.pointer_add hb hc.2.2 _);simp[Instr.indexAt,Instr.sureAddr,asIntOf,qab hu,qab hsz,hc.1,hc.2.1]
    ·cases hs
   ·cases hs
  ·cases hs
 ·cases hs
def qec (P:Program) (s:TypeId) (f:Nat):Value->Option Value
 | .pointer (some a)=>
  match qaa P (underlying s) with
  | some (.struct fields)=>
   match fields[f]? with
   | some fd=>match qaa P (sizeOf fd.type) with
    | some n=>if n≠0/\a.spot=none then some (.pointer (some (a.add fd.offset))) else none
    | none=>none
   | none=>none
  | _=>none
 | _=>none
theorem qkv (h:Rel base M H w) {s:TypeId} {f:Nat} {x x' v:Value} (hs:qec P s f x=some v) (hx:VR M x x'):Snd P base M w (Instr.fieldAt s x' f) v H:=by
 unfold qec at hs;split at hs
 next a=>
  simp only[VR] at hx;obtain ⟨b,hb,rfl⟩:=hx;split at hs
  next fields hu=>
   split at hs
   next fd hf=>
    split at hs
    next n hn=>
     split at hs
     next hc=>cases hs;refine Snd.still h ?_ (VR.pointer_add hb hc.2 _);simp[Instr.fieldAt,Instr.sureAddr,qab hu,hf,fieldPlace,qab hn,hc.1]
     ·cases hs
    ·cases hs
   ·cases hs
  ·cases hs
 ·cases hs
def qs6 (P:Program) (t:TypeId) (cs:Array Value) (off:Nat):Option Value:=
 match qaa P (isAgg t) with
 | some true=>match qaa P (sizeOf t) with
  | some n=>some (.agg (cs.extract off (off+n)))
  | none=>none
 | some false=>cs[off]?
 | none=>none
theorem qlp {t:TypeId} {cs cs':Array Value} {off:Nat} {v:Value} (hs:qs6 P t cs off=some v) (hc:VRL M cs.toList cs'.toList):∃ r,(part t cs' off).run P w=.ok r w/\VR M v r:=by
 unfold qs6 at hs;split at hs
 next ha=>
  split at hs
  next n hn=>cases hs;refine ⟨.agg (cs'.extract off (off+n)),by simp[part,qab ha,qab hn],?_⟩;simp only[VR];refine ⟨_,VRA.iff.2 ?_,rfl⟩;simp only[Array.toList_extract,List.extract_eq_take_drop];exact (hc.drop _).take _
  ·cases hs
 next ha=>
  obtain ⟨v',hv,hr⟩:=hc.get off v (by simpa using hs);have hv:cs'[off]?=some v':=by simpa using hv
  exact ⟨v',by simp[part,qab ha,hv],hr⟩
 ·cases hs
def qo5 (P:Program) (t:TypeId) (f:Nat):Value->Option Value
 | .agg cs=>match qaa P (underlying t) with
  | some (.struct fields)=>match fields[f]? with
   | some fd=>qs6 P fd.type cs fd.offset
   | none=>none
  | _=>none
 | _=>none
theorem qp0 (h:Rel base M H w) {t:TypeId} {f:Nat} {x x' v:Value} (hs:qo5 P t f x=some v) (hx:VR M x x'):Snd P base M w (Instr.field t x' f) v H:=by
 unfold qo5 at hs;split at hs
 next cs=>
  simp only[VR] at hx;obtain ⟨cs',hc,rfl⟩:=hx;split at hs
  next fields hu=>
   split at hs
   next fd hf=>obtain ⟨r,hr,hv⟩:=qlp (w:=w) hs (VRA.iff.1 hc);exact Snd.still h (by simp[Instr.field,qab hu,hf,asAgg,hr]) hv
   ·cases hs
  ·cases hs
 ·cases hs
def qma (P:Program) (t:TypeId) (x i:Value):Option Value:=
 match x,i with
 | .agg cs,.int _ n=>
  match qaa P (underlying t) with
  | some (.array len elem)=>
   match qaa P (sizeOf elem) with
   | some size=>if 0<=n/\n<len then qs6 P elem cs (n.toNat * size) else none
   | none=>none
  | _=>none
 | .string s,.int k n=>match qaa P (Instr.index t (.string s) (.int k n)) with
  | some v=>if flat v then some v else none
  | none=>none
 | _,_=>none
theorem qgv (h:Rel base M H w) {t:TypeId} {x x' i i' v:Value} (hs:qma P t x i=some v) (hx:VR M x x') (hi:VR M i i'):Snd P base M w (Instr.index t x' i') v H:=by
 unfold qma at hs;split at hs
 next cs k n=>
  simp only[VR] at hx hi;subst hi;obtain ⟨cs',hc,rfl⟩:=hx;split at hs
  next len elem hu=>
   split at hs
   next size hsz=>
    split at hs
    next hb=>obtain ⟨r,hr,hv⟩:=qlp (w:=w) hs (VRA.iff.1 hc);exact Snd.still h (by simp[Instr.index,asIntOf,qab hu,qab hsz,hb,hr]) hv
    ·cases hs
   ·cases hs
  ·cases hs
 next s k n=>
  simp only[VR] at hx hi;subst hi hx;split at hs
  next v0 hv0=>
   split at hs
   next hf=>cases hs;exact Snd.still h (qab hv0 w) (VR.self hf)
   ·cases hs
  ·cases hs
 ·cases hs
def aLen (P:Program) (ts:Array TypeId) (t:TypeId) (args:Array Value):Option Value:=
 match args with
 | ⟨[.slice (some _) n _]⟩=>match ts[0]? with
  | some t0=>match qaa P (underlying t0) with
   | some (.slice _)=>some (goInt n)
   | _=>none
  | none=>none
 | ⟨[x]⟩=>if flat x then match qaa P (Builtin.len_ ts t ⟨[x]⟩) with
  | some v=>if flat v then some v else none
  | none=>none else none
 | _=>none
theorem qvo (h:Rel base M H w) {ts:Array TypeId} {t:TypeId} {args args':Array Value} {v:Value} (hs:aLen P ts t args=some v) (hx:VRL M args.toList args'.toList):Snd P base M w (Builtin.len_ ts t args') v H:=by
 unfold aLen at hs;split at hs
 next a n c=>
  obtain ⟨x',l',hx1,hx2,he⟩:=hx.cases;rw[hx2.nil_cases] at he;have hargs:args'=#[x']:=by cases args';simp at he;subst he;rfl
  subst hargs;split at hs
  next t0 ht0=>
   split at hs
   next e hu=>
    cases hs;simp only[VR] at hx1;have:∃ a' c',x'=.slice a' n c':=by
     split at hx1
     ·obtain ⟨rfl,_,a',c',rfl⟩:=hx1;exact ⟨_,_,rfl⟩
     ·obtain ⟨b,_,rfl⟩:=hx1;exact ⟨_,_,rfl⟩
    obtain ⟨a',c',rfl⟩:=this;exact Snd.still h (by simp[Builtin.len_,ht0,qab hu]) (VR.self rfl)
   ·cases hs
  ·cases hs
 next x _=>
  split at hs
  next hf=>
   obtain ⟨x',l',hx1,hx2,he⟩:=hx.cases;rw[hx2.nil_cases] at he;have hargs:args'=#[x']:=by cases args';simp at he;subst he;rfl
   subst hargs;split at hs
   next v0 hv0=>
    split at hs
    next hfv=>cases hs;rw[(VR.flat_iff _ hf _).1 hx1];exact Snd.still h (qab hv0 w) (VR.self hfv)
    ·cases hs
   ·cases hs
  ·cases hs
 ·cases hs
end
end Go.Ax
namespace Go.Ax
section
variable {P:Program} {base:Prot} {M:Map} {H H':AHeap} {w:World}
def qez:Value->Option Nat
 | .slice _ n _=>some n
 | .string s=>some s.size
 | _=>none
def qbq (H:AHeap) (size n:Nat):Value->Option (List Value)
 | .slice (some b) _ _=>if n*size=0 then some [] else if b.spot=some 7 then none else qby H b (n*size)
 | .slice none _ _=>some []
 | .string s=>some ((s.extract 0 n).data.map λ b=>Value.int .u8 b.toNat).toList
 | _=>none
theorem qi9 {x x':Value} {n:Nat} (h:qez x=some n) (hx:VR M x x'):(Builtin.lenOf x').run P w=.ok n w:=by
 cases x with
 | slice a l c=>
  simp only[qez,Option.some.injEq] at h;subst h
  cases a with
  | none=>simp only[VR] at hx;subst hx;rfl
  | some a=>
   simp only[VR] at hx;split at hx
   ·obtain ⟨rfl,_,a',c',rfl⟩:=hx;rfl
   ·obtain ⟨b,_,rfl⟩:=hx;rfl
 | string s=>simp only[qez,Option.some.injEq] at h;simp only[VR] at hx;subst hx h;rfl
 | _=>simp[qez] at h
theorem qkq (l:List UInt8):qbd (l.map λ b=>Value.int .u8 b.toNat)=true:=by
 induction l with
 | nil=>rfl
 | cons b l ih=>simp only[List.map_cons,qbd,ih,Bool.and_true];rfl
theorem qja (h:Rel base M H w) {size n:Nat} {x x':Value} {l:List Value} (hf:qbq H size n x=some l) (hx:VR M x x') :
  ∃ l',(∀ w1:World,w1.heap=w.heap->(Builtin.firstCells size n x').run P w1=.ok l'.toArray w1)/\VRL M l l':=by
 cases x with
 | slice a len c=>
  cases a with
  | none=>simp only[VR] at hx;subst hx;simp only[qbq,Option.some.injEq] at hf;subst hf;exact ⟨[],λ _ _=>rfl,.nil⟩
  | some a=>
   simp only[qbq] at hf;simp only[VR] at hx;split at hf
   next h0=>
    cases hf;refine ⟨[],λ w1 _=>?_,.nil⟩;split at hx
    ·obtain ⟨_,_,a',c',rfl⟩:=hx;simp[Builtin.firstCells,h0,loadCells,loadCellsFrom]
    ·obtain ⟨b,_,rfl⟩:=hx;simp[Builtin.firstCells,h0,loadCells,loadCellsFrom]
   ·split at hf
    ·cases hf
    next h7=>rw[if_neg h7] at hx;obtain ⟨b,hb,rfl⟩:=hx;obtain ⟨l',hr,hv,_⟩:=qb0 (P:=P) h hf hb;exact ⟨l',λ w1 hw1=>by simp[Builtin.firstCells,hr w1 hw1],hv⟩
 | string s=>
  simp only[VR] at hx;subst hx;simp only[qbq,Option.some.injEq] at hf;subst hf;refine ⟨_,λ _ _=>rfl,VRL.self ?_⟩;simp only[Array.toList_map];exact qkq _
 | _=>simp[qbq] at hf
structure AppT where
 elem:TypeId
 size:Nat
 bytes:Nat
 zero:Array Value
def qol:TypeDesc->Bool
 | .slice _=>false
 | .string=>false
 | _=>true
theorem qz1 {d:TypeDesc} (h:qol d=false):(∃ e,d=.slice e)\/d=.string:=by cases d <;> simp[qol] at h |-
def qlh (P:Program) (ts:Array TypeId):Option AppT:=
 match ts[0]?,ts[1]? with
 | some t0,some t1=>
  match qaa P (underlying t0),qaa P (underlying t1) with
  | some (.slice elem),some d1=>
   match qol d1,qaa P (typeInfo elem),qaa P (zeroValue elem) with
   | false,some i,some z=>if z.cells.size=i.size/\0<i.size then some ⟨elem,i.size,i.bytes,z.cells⟩ else none
   | _,_,_=>none
  | _,_=>none
 | _,_=>none
theorem qg1 {ts:Array TypeId} {T:AppT} (hT:qlh P ts=some T):∃ t0 t1 d1 i z,ts[0]?=some t0/\ts[1]?=some t1/\qaa P (underlying t0)=some (.slice T.elem)/\qaa P (underlying t1)=some d1/\qol d1=false /\
  qaa P (typeInfo T.elem)=some i/\i.size=T.size/\i.bytes=T.bytes/\qaa P (zeroValue T.elem)=some z/\z.cells=T.zero/\T.zero.size=T.size/\0<T.size:=by
 unfold qlh at hT;split at hT
 next t0 t1 h0 h1=>
  split at hT
  next elem d1 hu0 hu1=>
   split at hT
   next i z hd hi hz=>
    split at hT
    next hc=>cases hT;exact ⟨t0,t1,d1,i,z,h0,h1,hu0,hu1,hd,hi,rfl,rfl,hz,rfl,hc.1,hc.2⟩
    ·cases hT
   ·cases hT
  ·cases hT
 ·cases hT
theorem qcb {ts:Array TypeId} {t:TypeId} {T:AppT} (hT:qlh P ts=some T) {b:Option Addr} {sLen sCap n:Nat} {x:Value} {new:Array Value} {w':World}
  (hn:(Builtin.lenOf x).run P w=.ok n w) (hnew:(Builtin.firstCells T.size n x).run P w=.ok new w) (hroom:sLen+n<=sCap)
  (hst:match b with | some a=>(storeCells (a.add (sLen*T.size)) new.toList).run P w=.ok () w' | none=>w'=w) :
  (Builtin.append_ ts t #[.slice b sLen sCap,x]).run P w=.ok (.slice b (sLen+n) sCap) w':=by
 obtain ⟨t0,t1,d1,i,z,h0,h1,hu0,hu1,hd,hi,hsz,hby,hz,hzc,hzs,hpos⟩:=qg1 hT;have hs:(sizeOf T.elem).run P w=.ok T.size w:=by simp[sizeOf,qab hi,hsz]
 rcases qz1 hd with ⟨e,rfl⟩ | rfl
 all_goals
  simp only[Builtin.append_,h0,h1,List.getElem?_toArray,List.getElem?_cons_zero,List.getElem?_cons_succ,Sem.run_bind,qab hu0,qab hu1,hs,Result.andThen_ok,Sem.run_pure];simp only[Bool.false_eq_true,if_false,Sem.run_bind,hn,Result.andThen_ok,Bool.not_false,if_true,Sem.run_ite,if_pos hroom,hnew]
  cases b with
  | none=>simp only at hst;subst hst;simp
  | some a=>simp only at hst;simp[hst]
theorem run_append_grow {ts:Array TypeId} {t:TypeId} {T:AppT} (hT:qlh P ts=some T) {b:Option Addr} {sLen sCap n:Nat} {x:Value} {new old:Array Value}
  (hn:(Builtin.lenOf x).run P w=.ok n w) (hnew:∀ w1:World,w1.heap=w.heap->(Builtin.firstCells T.size n x).run P w1=.ok new w1) (hold:∀ w1:World,w1.heap=w.heap->(Builtin.firstCells T.size sLen (.slice b sLen sCap)).run P w1=.ok old w1)
  (hroom:¬ sLen+n<=sCap) (hmax:sLen+n<2 ^ 40) (hfit:Builtin.nextslicecap (sLen+n) sCap*T.bytes<=2 ^ 48) :
  ∃ newCap w1,sLen+n<=newCap/\w1.heap=w.heap/\w1.os=w.os/\w1.tape=w.tape/\w1.output=w.output /\
   (Builtin.append_ ts t #[.slice b sLen sCap,x]).run P w=((newRow T.elem (old++new++Builtin.zeroCells T.zero (newCap-(sLen+n)))).run P w1).andThen λ a w2=>.ok (.slice (some a) (sLen+n) newCap) w2:=by
 obtain ⟨t0,t1,d1,i,z,h0,h1,hu0,hu1,hd,hi,hsz,hby,hz,hzc,hzs,hpos⟩:=qg1 hT;have hs:∀ w1,(sizeOf T.elem).run P w1=.ok T.size w1:=λ w1=>by simp[sizeOf,qab hi,hsz]
 refine ⟨(Question.appendCap (sLen+n) sCap T.elem).cut (w.tape w.drawn (Question.appendCap (sLen+n) sCap T.elem)),{ w with drawn:=w.drawn+1 },?_,rfl,rfl,rfl,rfl,?_⟩
 ·simp[Question.cut]
 ·rw[<- hby] at hfit;have hnofit:¬ (Builtin.nextslicecap (sLen+n) sCap*i.bytes > 2 ^ 48):=by omega
  have hsmall:¬ (((sLen+n:Nat):Int) > IntKind.i64.max):=by
   have:IntKind.i64.max=9223372036854775807:=by decide
   rw[this];omega
  rcases qz1 hd with ⟨e,rfl⟩ | rfl
  all_goals
   simp only[Builtin.append_,h0,h1,List.getElem?_toArray,List.getElem?_cons_zero,List.getElem?_cons_succ,Sem.run_bind,qab hu0,qab hu1,hs,Result.andThen_ok,Sem.run_pure];simp only[Bool.false_eq_true,if_false,Sem.run_bind,hn,Result.andThen_ok,Bool.not_false,if_true,Sem.run_ite,if_neg hroom,qab hi,hsmall,false_and,if_false,hnofit,run_choose,Question.forced,run_askRoom,qab hz];rw[hold { w with drawn:=w.drawn+1 } rfl];simp only[Result.andThen_ok];rw[hnew { w with drawn:=w.drawn+1 } rfl];simp[Result.andThen_ok,hzc]
end
end Go.Ax
namespace Go.Ax
section
variable {P:Program} {base:Prot} {M:Map} {H H':AHeap} {w:World}
theorem Rel.of_heap {w':World} (h:Rel base M H w) (hw:w'.heap=w.heap):Rel base M H w' where
 len:=h.len
 base_le:=by rw[hw];exact h.base_le
 dom:=h.dom
 lt:=λ i b x hb hx=>by rw[hw];exact h.lt i b x hb hx
 blk:=λ i b x hb hx=>(h.blk i b x hb hx).keep (Ext.refl M) (by rw[hw])
 inj:=h.inj
 glob:=h.glob
theorem size_zeroCells (z:Array Value) (n:Nat):(Builtin.zeroCells z n).size=n*z.size:=by simp[Builtin.zeroCells]
theorem qgw (h:Rel base M H w) (hid:idOK H.next) {T:AppT} (hz:T.zero.size=T.size) (hpos:0<T.size) {l l':List Value} (hv:VRL M l l') {need newCap:Nat} (hl:l.length=need*T.size) (hn:need<=newCap) :
  ∃ w' b,(newRow T.elem (l'.toArray++Builtin.zeroCells T.zero (newCap-need))).run P w=.ok (b.ad ⟨H.next,0,none⟩) w'/\Rel base (M++[b]) (H.add (.cells l T.elem (10+T.size))) w'/\Below base w w' /\
   (M++[b])[H.next]?=some b/\qb3 b ⟨H.next,0,none⟩ qae=newCap:=by
 have hvl:=hv.length;have hsz:(l'.toArray++Builtin.zeroCells T.zero (newCap-need)).size=newCap*T.size:=by
  simp only[Array.size_append,List.size_toArray,size_zeroCells,hz,hvl,hl,<- Nat.add_mul]
  congr 1;omega
 refine ⟨{ w with heap:=w.heap.push (.cells (l'.toArray++Builtin.zeroCells T.zero (newCap-need)) T.elem) },{ real:=w.heap.size,tot:=newCap,sz:=T.size },by simp[newRow],?_,qco h.base_le _,?_,?_⟩
 ·refine h.add rfl hid ⟨_,0,0,_,qcf w _,?_,λ hk=>absurd hk (by omega),λ hk=>⟨hsz,by simp;omega,hpos⟩,λ _=>⟨rfl,h.fresh,.inl rfl,rfl⟩⟩;rw[List.drop_zero,Array.toList_append,List.take_append_of_le_length (by simp[hvl]),List.take_of_length_le (by simp[hvl])];exact hv.mono (Ext.snoc M _)
 ·rw[<- h.len];exact qeo M _
 ·simp[qb3]
def qap (P:Program) (H:AHeap) (ts:Array TypeId) (s x:Value):Option (Value × AHeap):=
 match qlh P ts,qez x with
 | some T,some n=>
  match qbq H T.size n x with
  | some new=>
   if ¬ new.length=n*T.size then none else
   match s with
   | .slice none len cap=>
    if len+n<=cap\/cap=qae then (if len+n<=cap/\n=0 then some (s,H) else none)
    else if len=0/\len+n<2 ^ 40/\Builtin.nextslicecap (len+n) cap*T.bytes<=2 ^ 48/\idOK H.next then
     some (.slice (some ⟨H.next,0,none⟩) (len+n) qae,H.add (.cells new T.elem (10+T.size)))
    else none
   | .slice (some a) len cap=>
    if n=0/\a.spot≠some 7 then (if cap=qae then
      match H.t.get a.block with
      | some (.cells vs _ k)=>if k=10+T.size/\a.off % T.size=0/\a.off+len*T.size<=vs.length then some (s,H) else none
      | _=>none
     else if len<=cap then some (s,H) else none)
    else if a.spot≠none then none
    else if cap=qae then
     match H.t.get a.block with
     | some (.cells vs e k)=>
      if k=10+T.size/\a.off=0/\len*T.size<=vs.length/\e=T.elem/\len+n<2 ^ 40/\2*(len+n)*T.bytes<=2 ^ 48/\idOK H.next/\new.all (·.oneCell')=true then
       some (.slice (some ⟨H.next,0,none⟩) (len+n) qae,(H.put a.block .dead).add (.cells (vs.take (len*T.size)++new) T.elem (10+T.size)))
      else none
     | _=>none
    else if len+n<=cap then
     match qi7 H (a.add (len*T.size)) new with
     | some H'=>some (.slice (some a) (len+n) cap,H')
     | none=>none
    else
     match qby H a (len*T.size) with
     | some old=>
      if len+n<2 ^ 40/\Builtin.nextslicecap (len+n) cap*T.bytes<=2 ^ 48/\idOK H.next then
       some (.slice (some ⟨H.next,0,none⟩) (len+n) qae,H.add (.cells (old++new) T.elem (10+T.size)))
      else none
     | none=>none
   | _=>none
  | none=>none
 | _,_=>none
theorem qoo (n:Nat):∀ (r c:Nat),256<=c->c<=2*n->Builtin.growBy n r c<=2*n
 | 0,c,_,h=>h
 | r+1,c,hc,h=>by
  unfold Builtin.growBy;split
  ·exact h
  ·exact qoo n r _ (by omega) (by omega)
theorem qfe {n c:Nat} (h:c<n):Builtin.nextslicecap n c<=2*n:=by
 unfold Builtin.nextslicecap;split
 ·omega
 ·split
  ·omega
  ·exact qoo n 4 c (by omega) (by omega)
theorem qrz {args':Array Value} {s x:Value} (h:VRL M [s,x] args'.toList):∃ s' x',args'=#[s',x']/\VR M s s'/\VR M x x':=by
 obtain ⟨s',l',hs,h2,he⟩:=h.cases;obtain ⟨x',l2,hx,h3,rfl⟩:=h2.cases;rw[h3.nil_cases] at he;exact ⟨s',x',by cases args';simp at he;subst he;rfl,hs,hx⟩
theorem qdu (h:Rel base M H w) {ts:Array TypeId} {t:TypeId} {s x v:Value} {args':Array Value} (ha:qap P H ts s x=some (v,H')) (hargs:VRL M [s,x] args'.toList) :
  Snd P base M w (Builtin.append_ ts t args') v H':=by
 obtain ⟨s',x',rfl,hs,hx⟩:=qrz hargs;unfold qap at ha;split at ha
 next T n hT hn=>
  have hnr:=λ w1=>qi9 (P:=P) (w:=w1) hn hx
  split at ha
  next new hnew=>
   obtain ⟨new',hnewr',hnewv⟩:=qja (P:=P) h hnew hx;have hnewr:=hnewr' w rfl;obtain ⟨_,_,_,_,_,_,_,_,_,_,_,_,_,_,_,hzs,hpos⟩:=qg1 hT;split at ha
   ·cases ha
   next hlen=>
    simp only[Decidable.not_not] at hlen;have hnl:=hnewv.length;split at ha
    next len cap=>
     simp only[VR] at hs;subst hs;split at ha
     ·split at ha
      next hc=>cases ha;obtain ⟨h1,rfl⟩:=hc;refine Snd.still h (qcb hT (hnr w) hnewr h1 rfl) (VR.self rfl)
      ·cases ha
     next hnc=>
      split at ha
      next hc=>
       cases ha;obtain ⟨rfl,hmax,hfit,hid⟩:=hc;obtain ⟨newCap,w1,hge,e1,e2,e3,e4,hr⟩:=run_append_grow (P:=P) (t:=t) (b:=none) (old:=#[]) hT (hnr w) hnewr' (λ w1 _=>rfl) (by omega) hmax hfit;obtain ⟨w',b,hrow,hrel,hbel,hb,hcap⟩:=qgw (P:=P) (h.of_heap e1) hid hzs hpos hnewv (need:=0+n) (newCap:=newCap) (by rw[hlen];simp) hge;refine ⟨M++[b],w',.slice (some (b.ad ⟨H.next,0,none⟩)) (0+n) newCap,?_,Ext.snoc M b,?_,hrel,Below.trans ⟨e2,e3,e4,by rw[e1];exact Nat.le_refl _,λ k _=>by rw[e1]⟩ hbel⟩
       ·rw[hr];simp only[Array.empty_append];rw[hrow];rfl
       ·simp only[VR];rw[if_neg (by simp)];exact ⟨b,hb,by rw[hcap]⟩
      ·cases ha
    next a len cap=>
     simp only[VR] at hs;have below1:∀ {w1:World},w1.heap=w.heap->w1.os=w.os->w1.tape=w.tape->w1.output=w.output->Below base w w1:=
      λ e1 e2 e3 e4=>⟨e2,e3,e4,by rw[e1];exact Nat.le_refl _,λ k _=>by rw[e1]⟩
     split at ha
     ·-- nothing is appended
      rename_i hc;obtain ⟨rfl,h7⟩:=hc;have hnil:new=[]:=List.eq_nil_of_length_eq_zero (by rw[hlen];simp);subst hnil;rw[hnewv.nil_cases] at hnewr;rw[if_neg h7] at hs;obtain ⟨b,hb,rfl⟩:=hs;have key:len<=qb3 b a cap->Snd P base M w (Builtin.append_ ts t #[.slice (some (b.ad a)) len (qb3 b a cap),x']) (.slice (some a) len cap) H:=λ hle=>by
       refine Snd.still h (qcb hT (hnr w) hnewr (by omega) ?_) ?_
       ·simp[storeCells]
       ·simp only[VR];rw[if_neg h7];exact ⟨b,hb,rfl⟩
      split at ha
      next ho=>
       subst ho;split at ha
       next vs e k hget=>
        split at ha
        next hc=>cases ha;obtain ⟨rfl,hd,hle⟩:=hc;obtain ⟨o1,_⟩:=qjp h hb hget (by omega) (by simpa using hd) (by simpa using hle);exact key o1
        ·cases ha
       ·cases ha
      next ho=>
       split at ha
       next hle=>cases ha;exact key (by simp[qb3,ho,hle])
       ·cases ha
     ·split at ha
      ·cases ha
      next hsp=>
       simp only[ne_eq,Decidable.not_not] at hsp;rw[if_neg (by rw[hsp];simp)] at hs;obtain ⟨b,hb,rfl⟩:=hs;obtain ⟨bk,off,spot⟩:=a;simp only at hsp hb;subst hsp;split at ha
       ·-- the capacity is not known
        rename_i ho;subst ho;split at ha
        next vs e k hget=>
         split at ha
         next hc=>
          cases ha;obtain ⟨rfl,hoff,hle,rfl,hmax,hfit,hid,hone⟩:=hc;simp only at hget hoff;subst hoff;obtain ⟨o1,o2,o3,o4⟩:=qjp (a:=⟨bk,0,none⟩) h hb hget (by omega) (by simp) (by simpa using hle);simp only[Nat.add_sub_cancel_left,Nat.zero_add] at o2 o3;obtain ⟨c,lo,hi,e2,hcell,hv,_,h1,h2⟩:=h.blk _ _ _ hb hget;obtain ⟨hcs,_,_⟩:=h1 (by omega);obtain ⟨hsh,hbb,hfr,rfl⟩:=h2 (by omega);have had:∀ o,b.ad ⟨bk,o,none⟩=⟨b.real,o,none⟩:=λ o=>by simp[BI.ad,hsh]
          simp only[hsh,List.drop_zero] at hv;simp only[had] at *;have hbk:bk<H.next:=h.dom _ _ hget;generalize hcap:qb3 b ⟨bk,0,none⟩ qae=cap' at *;by_cases hroom:len+n<=cap'
          ·-- in place
           have hst:=qdw (P:=P) (g:=b.real) (o:=len*T.size) new' 0 c w hcell (by rw[hnl,hlen,hcs,<- o3,Nat.add_zero,<- Nat.add_mul];exact Nat.mul_le_mul_right _ hroom) hfr (hnewv.one hone);obtain ⟨w',c',hr,hg',hc',ht⟩:=hst;have hsz:c'.size=c.size:=by
            have e0:=congrArg List.length hc';have:len*T.size+n*T.size<=c.size:=by rw[hcs,<- o3,<- Nat.add_mul];exact Nat.mul_le_mul_right _ hroom
            simp only[Nat.add_zero,List.length_append,List.length_take,List.length_drop,Array.length_toList] at e0;omega
           have hclen:len*T.size<=c.size:=by rw[hcs,<- o3];exact Nat.mul_le_mul_right _ o1
           refine ⟨M++[{ b with real:=b.real }],w',.slice (some ⟨b.real,0,none⟩) (len+n) cap',?_,Ext.snoc M _,?_,?_,ht.below hbb⟩
           ·refine qcb hT (hnr w) hnewr hroom ?_;simp only[qaz,Nat.zero_add];exact hr
           ·simp only[VR];rw[if_neg (by simp)];refine ⟨b,by rw[<- h.len];exact qeo M _,?_⟩;have:qb3 b ⟨H.next,0,none⟩ qae=cap':=by rw[<- hcap];rfl
            rw[this];simp[BI.ad,hsh]
           ·refine h.again hb hget rfl (by simp[ABlk.ro];omega) hid rfl ht.size ht.other ⟨c',lo,hi,_,hg',?_,λ hk=>absurd hk (by omega),λ hk=>⟨by rw[hsz];exact hcs,by omega,by omega⟩,λ _=>⟨hsh,hbb,by rw[hsz];exact hfr,rfl⟩⟩;have hl2:(vs.take (len*T.size)++new).length=len*T.size+n*T.size:=by rw[List.length_append,List.length_take,hlen];omega
            have hl3:(c.toList.take (len*T.size+0)++new').length=len*T.size+n*T.size:=by
             rw[List.length_append,List.length_take,hnl,hlen,Array.length_toList];omega
            have e1:List.take (len*T.size+n*T.size) (c.toList.take (len*T.size+0)++new'++c.toList.drop (len*T.size+0+new'.length))=c.toList.take (len*T.size+0)++new':=by
             rw[<- hl3];exact List.take_left
            rw[hsh,List.drop_zero,hl2,hc',e1];refine (VRL.append ?_ hnewv).mono (Ext.snoc M _);have:=hv.take (len*T.size);rw[List.take_take,Nat.min_eq_left hle] at this;simpa using this
          ·-- a new row
           have hlt:cap'<len+n:=by omega
           have hfit':Builtin.nextslicecap (len+n) cap'*T.bytes<=2 ^ 48:=
            Nat.le_trans (Nat.mul_le_mul_right _ (qfe hlt)) hfit
           have holdc:qby H ⟨bk,0,none⟩ (len*T.size)=some ((vs.drop 0).take (len*T.size)):=by
            simp only[qby,hget];rw[if_pos (by omega)]
           obtain ⟨old',hold',holdv,_⟩:=qb0 (P:=P) h holdc hb;have hk:=h.kill hb hget rfl (by simp[ABlk.ro];omega) (by omega);obtain ⟨newCap,w1,hge,e1,e2,e3,e4,hr⟩:=run_append_grow (P:=P) (t:=t) (b:=some ⟨b.real,0,none⟩) (sLen:=len) (sCap:=cap') (old:=old'.toArray) hT (hnr w) hnewr' (λ w1 hw1=>by simpa [Builtin.firstCells,BI.ad,hsh] using hold' w1 hw1) hroom hmax hfit';have hvv:VRL M (vs.take (len*T.size)++new) (old'++new'):=by simpa using holdv.append hnewv
           obtain ⟨w',b2,hrow,hrel,hbel,hb2,hcap2⟩:=qgw (P:=P) (hk.of_heap e1) (by simp[AHeap.put]) hzs hpos hvv (need:=len+n) (newCap:=newCap) (by rw[List.length_append,List.length_take,hlen,Nat.add_mul];omega) hge;refine ⟨M++[b2],w',.slice (some (b2.ad ⟨H.next,0,none⟩)) (len+n) newCap,?_,Ext.snoc M b2,?_,hrel,(below1 e1 e2 e3 e4).trans hbel⟩
           ·rw[hr];simp only[List.append_toArray] at hrow |-;rw[hrow];rfl
           ·simp only[VR];rw[if_neg (by simp)];exact ⟨b2,hb2,by rw[<- hcap2];rfl⟩
         ·cases ha
        ·cases ha
       next ho=>
        have hcap:qb3 b ⟨bk,off,none⟩ cap=cap:=by simp[qb3,ho]
        rw[hcap];split at ha
        ·-- in place, the capacity known
         rename_i hroom;split at ha
         next H2 hst=>
          cases ha;obtain ⟨w',hr,hrel,hbel⟩:=qbz (P:=P) h hst (b:=b) (by rw[qaz];exact hb) hnewv;refine ⟨M,w',.slice (some (b.ad ⟨bk,off,none⟩)) (len+n) cap,?_,Ext.refl M,?_,hrel,hbel⟩
          ·refine qcb hT (hnr w) hnewr hroom ?_;simp only[BI.ad,qaz,Nat.add_right_comm] at hr |-;exact hr
          ·simp only[VR];rw[if_neg (by simp)];exact ⟨b,hb,by simp[qb3,ho]⟩
         ·cases ha
        next hroom=>
         split at ha
         next old hold=>
          split at ha
          next hc=>
           cases ha;obtain ⟨hmax,hfit,hid⟩:=hc;obtain ⟨old',hold',holdv,holdl⟩:=qb0 (P:=P) h hold hb;obtain ⟨newCap,w1,hge,e1,e2,e3,e4,hr⟩:=run_append_grow (P:=P) (t:=t) (b:=some (b.ad ⟨bk,off,none⟩)) (sLen:=len) (sCap:=cap) (old:=old'.toArray) hT (hnr w) hnewr' (λ w1 hw1=>by simpa [Builtin.firstCells] using hold' w1 hw1) hroom hmax hfit;obtain ⟨w',b2,hrow,hrel,hbel,hb2,hcap2⟩:=qgw (P:=P) (h.of_heap e1) hid hzs hpos (holdv.append hnewv) (need:=len+n) (newCap:=newCap) (by rw[List.length_append,holdl,hlen,Nat.add_mul]) hge;refine ⟨M++[b2],w',.slice (some (b2.ad ⟨H.next,0,none⟩)) (len+n) newCap,?_,Ext.snoc M b2,?_,hrel,(below1 e1 e2 e3 e4).trans hbel⟩
           ·rw[hr];simp only[List.append_toArray] at hrow |-;rw[hrow];rfl
           ·simp only[VR];rw[if_neg (by simp)];exact ⟨b2,hb2,by rw[<- hcap2]⟩
          ·cases ha
         ·cases ha
    ·cases ha
  ·cases ha
 ·cases ha
end
end Go.Ax
namespace Go.Ax
section
variable {P:Program} {base:Prot} {M:Map} {H H':AHeap} {w:World}
def qo6 (P:Program) (H:AHeap) (ts:Array TypeId) (d x:Value):Option (Value × AHeap):=
 match ts[0]?,d with
 | some t0,.slice b dLen _=>
  match qaa P (underlying t0),qez x with
  | some (.slice elem),some m=>
   match qaa P (sizeOf elem) with
   | some size=>
    match qbq H size (Nat.min m dLen) x with
    | some cells=>
     if cells=[] then some (goInt (Nat.min m dLen),H)
     else match b with
      | some a=>if a.spot=none then match qi7 H a cells with
       | some H'=>some (goInt (Nat.min m dLen),H')
       | none=>none
       else none
      | none=>none
    | none=>none
   | none=>none
  | _,_=>none
 | _,_=>none
theorem qeb (h:Rel base M H w) {ts:Array TypeId} {t:TypeId} {d x v:Value} {args':Array Value} (ha:qo6 P H ts d x=some (v,H')) (hargs:VRL M [d,x] args'.toList) :
  Snd P base M w (Builtin.copy_ ts t args') v H':=by
 obtain ⟨d',x',rfl,hd,hx⟩:=qrz hargs;unfold qo6 at ha;split at ha
 next t0 b dLen c h0=>
  split at ha
  next elem m hu hm=>
   split at ha
   next size hs=>
    split at ha
    next cells hcells=>
     obtain ⟨new',hr,hv⟩:=qja (P:=P) h hcells hx;have hr:=hr w rfl;have hmr:=qi9 (P:=P) (w:=w) hm hx;split at ha
     next hnil=>
      cases ha;subst hnil;rw[hv.nil_cases] at hr;have:∃ b' c',d'=.slice b' dLen c':=by
       cases b with
       | none=>simp only[VR] at hd;subst hd;exact ⟨_,_,rfl⟩
       | some a=>
        simp only[VR] at hd;split at hd
        ·obtain ⟨rfl,_,a',c',rfl⟩:=hd;exact ⟨_,_,rfl⟩
        ·obtain ⟨b',_,rfl⟩:=hd;exact ⟨_,_,rfl⟩
      obtain ⟨b',c',rfl⟩:=this;refine Snd.still h (r:=goInt (Nat.min m dLen)) ?_ (VR.self rfl)
      cases b' <;> simp[Builtin.copy_,h0,qab hu,hmr,qab hs,hr,storeCells]
     ·split at ha
      next a=>
       split at ha
       next hsp=>
        simp only[VR] at hd;rw[if_neg (by rw[hsp];simp)] at hd;obtain ⟨b',hb,rfl⟩:=hd;split at ha
        next H2 hst=>cases ha;obtain ⟨w',hr2,hrel,hbel⟩:=qbz (P:=P) h hst hb hv;refine ⟨M,w',goInt (Nat.min m dLen),?_,Ext.refl M,VR.self rfl,hrel,hbel⟩;simp[Builtin.copy_,h0,qab hu,hmr,qab hs,hr,hr2]
        ·cases ha
       ·cases ha
      ·cases ha
    ·cases ha
   ·cases ha
  ·cases ha
 ·cases ha
def qjc (P:Program) (H:AHeap) (ts:Array TypeId) (d:Value):Option (Value × AHeap):=
 match ts[0]?,d with
 | some t0,.slice b n _=>
  match qaa P (underlying t0) with
  | some (.slice elem)=>
   if n=0 then some (.tuple #[],H)
   else match qaa P (zeroValue elem),b with
    | some z,some a=>if qbd z.cells.toList=true/\0<z.cells.size/\a.spot=none then match qi7 H a (Builtin.zeroCells z.cells n).toList with
      | some H'=>some (.tuple #[],H')
      | none=>none
     else none
    | _,_=>none
  | _=>none
 | _,_=>none
theorem qdj (h:Rel base M H w) {ts:Array TypeId} {t:TypeId} {d v:Value} {args':Array Value} (ha:qjc P H ts d=some (v,H')) (hargs:VRL M [d] args'.toList) :
  Snd P base M w (Builtin.clear_ ts t args') v H':=by
 obtain ⟨d',l',hd,h2,he⟩:=hargs.cases;rw[h2.nil_cases] at he;obtain rfl:args'=#[d']:=by cases args';simp at he;subst he;rfl
 unfold qjc at ha;split at ha
 next t0 b n c h0=>
  split at ha
  next elem hu=>
   split at ha
   next hn=>
    subst hn;cases ha;have:∃ b' c',d'=.slice b' 0 c':=by
     cases b with
     | none=>simp only[VR] at hd;subst hd;exact ⟨_,_,rfl⟩
     | some a=>
      simp only[VR] at hd;split at hd
      ·obtain ⟨h9,_,a',c',rfl⟩:=hd;exact ⟨_,_,rfl⟩
      ·obtain ⟨b',_,rfl⟩:=hd;exact ⟨_,_,rfl⟩
    obtain ⟨b',c',rfl⟩:=this;refine Snd.still h (r:=.tuple #[]) ?_ (VR.self rfl)
    cases b' <;> simp[Builtin.clear_,h0,qab hu]
   next hn=>
    split at ha
    next z a hz=>
     split at ha
     next hc=>
      obtain ⟨hf,hzs,hsp⟩:=hc;simp only[VR] at hd;rw[if_neg (by rw[hsp];simp)] at hd;obtain ⟨b',hb,rfl⟩:=hd;split at ha
      next H2 hst=>cases ha;obtain ⟨w',hr2,hrel,hbel⟩:=qbz (P:=P) h hst hb (VRL.self (qdx hf _ (.inr hzs)));refine ⟨M,w',.tuple #[],?_,Ext.refl M,VR.self rfl,hrel,hbel⟩;obtain ⟨m,rfl⟩:=Nat.exists_eq_succ_of_ne_zero hn;have hr3:(storeCells (b'.ad a) (Builtin.zeroCells z.cells (m+1)).toList).run P w=.ok () w':=hr2;simp[Builtin.clear_,h0,qab hu,qab hz,hr3]
      ·cases ha
     ·cases ha
    ·cases ha
  ·cases ha
 ·cases ha
def bytesOf (cells:Array Value):Sem Value:=do
 let mut s:=ByteArray.empty
 for c in cells do
  let .int .u8 n := c | stuck "bytesToString: byte expected"
  s:=s.push (UInt8.ofNat n.toNat)
 pure (.string s)
theorem qji (a:Addr) (len c:Nat):Conv.bytesToString (.slice (some a) len c)=loadCells a len >>= bytesOf:=rfl
def qpg (cells:Array Value):Sem Value:=do
 let mut s:=ByteArray.empty
 for c in cells do
  let .int .i32 n := c | stuck "runesToString: rune expected"
  s:=s++Utf8.encode n
 pure (.string s)
theorem qjf (a:Addr) (len c:Nat):Conv.runesToString (.slice (some a) len c)=loadCells a len >>= qpg:=rfl
def qb1 (P:Program) (H:AHeap) (src dst:TypeId) (x:Value):Option (Value × AHeap):=
 match x with
 | .slice (some a) len _c=>
  match qaa P (underlying src),qaa P (underlying dst) with
  | some (.slice e),some .string=>
   match qaa P (underlying e),(if len=0 then some [] else if a.spot=none then qby H a len else none) with
   | some (.int .u8),some l=>if qbd l then match qaa P (bytesOf l.toArray) with
    | some v=>if flat v then some (v,H) else none
    | none=>none else none
   | some (.int .i32),some l=>if qbd l then match qaa P (qpg l.toArray) with
    | some v=>if flat v then some (v,H) else none
    | none=>none else none
   | _,_=>none
  | some (.slice _),some (.slice e)=>
   match src == dst,qaa P (underlying e),H.t.get a.block with
   | true,some (.int .u8),some (.cells _vs _e' k)=>if a.spot=none/\k≠2/\idOK a.block then some (x,H) else none
   | _,_,_=>none
  | _,_=>none
 | .string s=>
  match qaa P (underlying src),qaa P (underlying dst) with
  | some _,some (.slice e)=>match qaa P (underlying e) with
   | some (.int .u8)=>if idOK H.next/\s.size<2 ^ 40 then
     some (.slice (some ⟨H.next,0,none⟩) s.size qae,H.add (.cells (s.data.toList.map λ b=>Value.int .u8 b.toNat) e 11)) else none
   | some (.int .i32)=>if idOK H.next/\(Conv.runesFrom s s.size 0 #[]).size<2 ^ 40/\qbd (Conv.runesFrom s s.size 0 #[]).toList=true then
     some (.slice (some ⟨H.next,0,none⟩) (Conv.runesFrom s s.size 0 #[]).size qae,H.add (.cells (Conv.runesFrom s s.size 0 #[]).toList e 11)) else none
   | _=>none
  | _,some _=>match qaa P (convert src dst (.string s)) with
   | some v=>if flat v then some (v,H) else none
   | none=>none
  | _,none=>none
 | x=>match qaa P (convert src dst x) with
  | some v=>if flat x/\flat v then some (v,H) else none
  | none=>none
theorem qm8 (w:World) (g o n:Nat):Turned g w (w.freeze ⟨g,o,none⟩ n):=by
 unfold World.freeze;split
 ·exact Turned.refl _ _
 ·exact ⟨rfl,rfl,rfl,by simp,λ k hk=>by simp only[Array.getElem?_modify];rw[if_neg (by omega)]⟩
theorem qpz {w:World} {g:Nat} {c:Array Value} {e:TypeId} {lo hi:Nat} (h:w.heap[g]?=some (.cells c e (lo,hi))) (hf:lo=hi\/c.size<=lo) :
  ∃ lo' hi',(w.freeze ⟨g,c.size,none⟩ 1).heap[g]?=some (.cells c e (lo',hi'))/\(lo'=hi'\/c.size<=lo'):=by
 unfold World.freeze;rw[if_neg (by omega)];simp only[Array.getElem?_modify,h,if_true,Option.map_some];by_cases e1:lo=hi
 ·subst e1;exact ⟨c.size,c.size+1,by simp,.inr (Nat.le_refl _)⟩
 ·rcases hf with h1 | h1
  ·exact absurd h1 e1
  ·have:(lo == hi)=false:=by simp[e1]
   refine ⟨min lo c.size,max hi (c.size+1),by simp[e1],.inr (by omega)⟩
theorem qd2 {w:World} {g o:Nat} {c:Array Value} {e:TypeId} {f:Nat × Nat} (h:w.heap[g]?=some (.cells c e f)):(markStringish ⟨g,o,none⟩).run P w=.ok () (w.freeze ⟨g,c.size,none⟩ 1):=by
 simp[markStringish,World.shape?,h]
theorem qhl (h:Rel base M H w) (hid:idOK H.next) {l:List Value} (hf:qbd l=true) (e:TypeId) (cap:Nat) (hc:l.length<=cap) (_hs:l.length<2 ^ 40) (z:Value) :
  ∃ b,b.real=w.heap.size/\b.sh=0/\Rel base (M++[b]) (H.add (.cells l e 11)) { w with heap:=w.heap.push (.cells (l.toArray++Array.replicate (cap-l.length) z) e) }/\(M++[b])[H.next]?=some b/\qb3 b ⟨H.next,0,none⟩ qae=cap:=by
 refine ⟨{ real:=w.heap.size,tot:=cap,sz:=1 },rfl,rfl,?_,by rw[<- h.len];exact qeo M _,by simp[qb3]⟩;refine h.add rfl hid ⟨_,0,0,_,qcf w _,?_,λ hk=>absurd hk (by omega),λ _=>⟨by simp;omega,rfl,Nat.one_pos⟩,λ _=>⟨rfl,h.fresh,.inl rfl,rfl⟩⟩;rw[List.drop_zero,Array.toList_append,List.take_append_of_le_length (by simp),List.take_of_length_le (by simp)];exact VRL.self hf
theorem Snd.congr {s1 s2:Sem Value} {v:Value} (e:s1.run P w=s2.run P w) (h:Snd P base M w s2 v H):Snd P base M w s1 v H:=
 let ⟨M',w',r,hr,rest⟩:=h
 ⟨M',w',r,e.trans hr,rest⟩
theorem qgd (h:Rel base M H w) {a:Addr} {len c:Nat} {x':Value} (hx:VR M (.slice (some a) len c) x') (mk:Value->Sem Value) (of:Array Value->Sem Value) {l:List Value} (hmk:∀ a len c,mk (.slice (some a) len c)=loadCells a len >>= of)
  (hl:(if len=0 then some [] else if a.spot=none then qby H a len else none)=some l) (hf:qbd l=true) {v:Value} (hv:qaa P (of l.toArray)=some v) (hfv:flat v=true):Snd P base M w (mk x') v H:=by
 simp only[VR] at hx;split at hl
 next h0=>
  cases hl;subst h0;have:∃ a' c',x'=.slice (some a') 0 c':=by
   split at hx
   ·obtain ⟨_,_,a',c',rfl⟩:=hx;exact ⟨_,_,rfl⟩
   ·obtain ⟨b,_,rfl⟩:=hx;exact ⟨_,_,rfl⟩
  obtain ⟨a',c',rfl⟩:=this;refine Snd.still h ?_ (VR.self hfv);rw[hmk];simp only[Sem.run_bind];have:(loadCells a' 0).run P w=.ok #[] w:=rfl;rw[this];exact qab hv w
 ·split at hl
  next hsp=>rw[if_neg (by rw[hsp];simp)] at hx;obtain ⟨b,hb,rfl⟩:=hx;obtain ⟨l',hr,hvv,_⟩:=qdg (P:=P) h hl hb;rw[(VRL.flat_iff l hf l').1 hvv] at hr;refine Snd.still h ?_ (VR.self hfv);rw[hmk];simp only[Sem.run_bind];rw[hr];exact qab hv w
  ·cases hl
theorem Rel.freeze (h:Rel base M H w) {i:Nat} {b:BI} {vs:List Value} {e:TypeId} {k:Nat} (hb:M[i]?=some b) (hget:H.t.get i=some (.cells vs e k)) (hk:k≠2) (hid:idOK i) :
  ∃ c:Array Value,∃ f,w.heap[b.real]?=some (.cells c e f)/\Rel base M H (w.freeze ⟨b.real,c.size,none⟩ 1)/\Below base w (w.freeze ⟨b.real,c.size,none⟩ 1):=by
 obtain ⟨cc,lo,hi,e2,hcell,hv,h0,h1,h2⟩:=h.blk _ _ _ hb hget;obtain ⟨hsh,hbb,hfr,rfl⟩:=h2 hk;obtain ⟨lo',hi',hcell',hfr'⟩:=qpz hcell hfr;have ht:=qm8 w b.real cc.size 1;have hrel:=h.put (y:=.cells vs e2 k) hb hget rfl (by simpa [ABlk.ro] using hk) hid ht.size ht.other ⟨cc,lo',hi',_,hcell',hv,h0,h1,λ _=>⟨hsh,hbb,hfr',rfl⟩⟩;refine ⟨cc,_,hcell,⟨hrel.len,hrel.base_le,h.dom,λ j c x hc hx=>?_,λ j c x hc hx=>?_,h.inj,h.glob⟩,ht.below hbb⟩
 ·have:=h.lt j c x hc hx;exact Nat.lt_of_lt_of_eq this ht.size.symm
 by_cases e1:j=i
 ·subst e1;rw[hget] at hx;cases hx;exact hrel.blk _ _ _ hc (AHeap.get_put hid)
 ·exact hrel.blk _ _ _ hc (by rw[AHeap.get_put_other e1];exact hx)
theorem qnf (h:Rel base M H w) {src dst:TypeId} {x x' v:Value} (ha:qb1 P H src dst x=some (v,H')) (hx:VR M x x'):Snd P base M w (convert src dst x') v H':=by
 unfold qb1 at ha;split at ha
 next a len c=>
  have hx0:=hx;simp only[VR] at hx;have hx':∃ a' c',x'=.slice (some a') len c':=by
   split at hx
   ·obtain ⟨rfl,_,a',c',rfl⟩:=hx;exact ⟨_,_,rfl⟩
   ·obtain ⟨b,_,rfl⟩:=hx;exact ⟨_,_,rfl⟩
  split at ha
  next e hs hd=>
   split at ha
   next l hu hl=>
    split at ha
    next hf=>
     split at ha
     next v0 hv0=>
      split at ha
      next hfv=>cases ha;refine Snd.congr ?_ (qgd (P:=P) h hx0 Conv.bytesToString bytesOf qji hl hf hv0 hfv);obtain ⟨a',c',rfl⟩:=hx';simp[convert,qab hs,qab hd,qab hu]
      ·cases ha
     ·cases ha
    ·cases ha
   next l hu hl=>
    split at ha
    next hf=>
     split at ha
     next v0 hv0=>
      split at ha
      next hfv=>cases ha;refine Snd.congr ?_ (qgd (P:=P) h hx0 Conv.runesToString qpg qjf hl hf hv0 hfv);obtain ⟨a',c',rfl⟩:=hx';simp[convert,qab hs,qab hd,qab hu]
      ·cases ha
     ·cases ha
    ·cases ha
   ·cases ha
  next e0 e hs hd=>
   split at ha
   next vs e' k heq hu hget=>
    split at ha
    next hc=>cases ha;obtain ⟨hsp,hk,hid⟩:=hc;rw[if_neg (by rw[hsp];simp)] at hx;obtain ⟨b,hb,rfl⟩:=hx;obtain ⟨bk,off,spot⟩:=a;simp only at hsp hb hget hid;subst hsp;obtain ⟨cc,f,hcell,hrel,hbel⟩:=h.freeze hb hget hk hid;exact ⟨M,_,_,by simp[convert,qab hs,qab hd,heq,qab hu,qd2 hcell],Ext.refl M,hx0,hrel,hbel⟩
    ·cases ha
   ·cases ha
  ·cases ha
 next s=>
  simp only[VR] at hx;subst hx;split at ha
  next d1 e hus hd=>
   have below1:∀ {w1:World},w1.heap=w.heap→w1.os=w.os→w1.tape=w.tape→w1.output=w.output→Below base w w1:=
      λ e1 e2 e3 e4=>⟨e2,e3,e4,by rw[e1];exact Nat.le_refl _,λ k _=>by rw[e1]⟩
   split at ha
   next hu=>
    split at ha
    next hc=>
     cases ha;have hsz:(s.data.toList.map λ b=>Value.int .u8 b.toNat).length=s.size:=by simp
     have hge:s.size<=(Question.appendCap s.size 0 e).cut (w.tape w.drawn (Question.appendCap s.size 0 e)):=by simp[Question.cut]
     obtain ⟨b,hbr,hsh,hrel,hbm,hcap⟩:=qhl (h.of_heap (w':={ w with drawn:=w.drawn+1 }) rfl) hc.1 (qkq s.data.toList) e _ (by rw[hsz];exact hge) (by rw[hsz];exact hc.2) (.int .u8 0);rw[hsz] at hrel;obtain ⟨cc,f,hcell,hrel2,hbel⟩:=hrel.freeze hbm (AHeap.get_add hc.1) (by decide) hc.1;have hbelow:=(below1 (w1:={ w with drawn:=w.drawn+1 }) rfl rfl rfl rfl).trans ((qco (w:={ w with drawn:=w.drawn+1 }) h.base_le _).trans hbel);refine ⟨_,_,.slice (some ⟨b.real,0,none⟩) s.size ((Question.appendCap s.size 0 e).cut (w.tape w.drawn (Question.appendCap s.size 0 e))),?_,Ext.snoc M b,?_,hrel2,hbelow⟩
     ·have e1:((s.data.map λ b=>Value.int .u8 (b.toNat:Int))++Array.replicate ((Question.appendCap s.size 0 e).cut (w.tape w.drawn (Question.appendCap s.size 0 e))-s.size) (.int .u8 0)) =
       ((s.data.toList.map λ b=>Value.int .u8 b.toNat).toArray++Array.replicate ((Question.appendCap s.size 0 e).cut (w.tape w.drawn (Question.appendCap s.size 0 e))-s.size) (.int .u8 0)):=by
        congr 1
        apply Array.ext';simp
      have hms:=qd2 (P:=P) (o:=0) hcell;simp only[hbr] at hms |-;simp only[convert,Sem.run_bind,qab hd,qab hus,Result.andThen_ok,qab hu,Conv.stringToBytes,run_choose,Question.forced,Bool.false_eq_true,if_false,newRow,run_newObj,Sem.run_pure];rw[e1];rw[hms];rfl
     ·simp only[VR];rw[if_neg (by simp)];exact ⟨b,hbm,by rw[hcap];simp[BI.ad,hsh]⟩
    ·cases ha
   next hu=>
    split at ha
    next hc=>
     cases ha;generalize hel:Conv.runesFrom s s.size 0 #[]=elems at *;have hge:elems.toList.length<=(Question.appendCap elems.size 0 e).cut (w.tape w.drawn (Question.appendCap elems.size 0 e)):=by simp[Question.cut]
     obtain ⟨b,hbr,hsh,hrel,hbm,hcap⟩:=qhl (h.of_heap (w':={ w with drawn:=w.drawn+1 }) rfl) hc.1 hc.2.2 e _ hge (by simpa using hc.2.1) (.int .i32 0);simp only[Array.length_toList] at hrel;have hbelow:=(below1 (w1:={ w with drawn:=w.drawn+1 }) rfl rfl rfl rfl).trans (qco (w:={ w with drawn:=w.drawn+1 }) h.base_le (.cells (elems.toList.toArray++Array.replicate ((Question.appendCap elems.size 0 e).cut (w.tape w.drawn (Question.appendCap elems.size 0 e))-elems.size) (.int .i32 0)) e));refine ⟨_,_,.slice (some ⟨b.real,0,none⟩) elems.size ((Question.appendCap elems.size 0 e).cut (w.tape w.drawn (Question.appendCap elems.size 0 e))),?_,Ext.snoc M b,?_,hrel,hbelow⟩
     ·simp only[hbr];simp only[convert,Sem.run_bind,qab hd,qab hus,Result.andThen_ok,qab hu,Conv.stringToRunes,hel,run_choose,Question.forced,Bool.false_eq_true,if_false,newRow,run_newObj,Sem.run_pure]
     ·simp only[VR];rw[if_neg (by simp)];exact ⟨b,hbm,by rw[hcap];simp[BI.ad,hsh]⟩
    ·cases ha
   ·cases ha
  ·split at ha
   next v0 hv0=>
    split at ha
    next hf=>cases ha;exact Snd.still h (qab hv0 w) (VR.self hf)
    ·cases ha
   ·cases ha
  ·cases ha
 ·split at ha
  next v0 hv0=>
   split at ha
   next hf=>cases ha;rw[(VR.flat_iff _ hf.1 _).1 hx];exact Snd.still h (qab hv0 w) (VR.self hf.2)
   ·cases ha
  ·cases ha
def qr3 (P:Program) (H:AHeap) (t:TypeId):Value->Option (Value × AHeap)
 | .string s=>match qaa P (underlying t) with
  | some .string=>if idOK H.next then some (.pointer (some ⟨H.next,0,none⟩),H.add (.iter s 0)) else none
  | _=>none
 | _=>none
theorem qpk (h:Rel base M H w) {t:TypeId} {x x' v:Value} (ha:qr3 P H t x=some (v,H')) (hx:VR M x x'):Snd P base M w (Instr.range t x') v H':=by
 unfold qr3 at ha;split at ha
 next s=>
  simp only[VR] at hx;subst hx;split at ha
  next hu=>
   split at ha
   next hid=>
    cases ha;have hrel:=h.add (x:=.iter s 0) (o:=.stringIter s 0) (b:={ real:=w.heap.size }) rfl hid ⟨h.fresh,qcf w _,rfl⟩;refine ⟨_,_,.pointer (some ⟨w.heap.size,0,none⟩),?_,Ext.snoc M _,?_,hrel,qco h.base_le _⟩
    ·simp[Instr.range,qab hu]
    ·simp only[VR];exact ⟨_,by rw[<- h.len];exact qeo M _,rfl⟩
   ·cases ha
  ·cases ha
 ·cases ha
def qwz (H:AHeap) (isString:Bool):Value->Option (Value × AHeap)
 | .pointer (some ⟨r,0,_⟩)=>
  match H.t.get r,isString with
  | some (.iter s pos),true=>
   if idOK r then
    if pos<s.size then
     some (.tuple #[.bool true,goInt pos,.int .i32 (Utf8.decode s pos).1],H.put r (.iter s (pos+(Utf8.decode s pos).2)))
    else some (.tuple #[.bool false],H)
   else none
  | _,_=>none
 | _=>none
theorem qc6 {r:Nat} {o:Obj} (h:w.heap[r]?=some o) (hc:∀ c e f,o≠.cells c e f):(getObj r).run P w=.ok o w:=by
 cases o with
 | cells c e f=>exact absurd rfl (hc c e f)
 | _=>simp[getObj,Sem.run,h]
theorem qd1 {r:Nat} {o o':Obj} (h:w.heap[r]?=some o) (hc:∀ c e f,o≠.cells c e f):(setObj r o').run P w=.ok () { w with heap:=w.heap.setIfInBounds r o' }:=by
 cases o with
 | cells c e f=>exact absurd rfl (hc c e f)
 | _=>simp[setObj,Sem.run,h]
theorem qca (w:World) (g:Nat) (o:Obj):Turned g w { w with heap:=w.heap.setIfInBounds g o }:=
 ⟨rfl,rfl,rfl,by simp,λ k hk=>by simp only;rw[Array.getElem?_setIfInBounds_ne (by omega)]⟩
theorem qc9 {w:World} {g:Nat} (o:Obj) (h:g<w.heap.size):({ w with heap:=w.heap.setIfInBounds g o }:World).heap[g]?=some o:=by
 simp[h]
theorem qso (h:Rel base M H w) {s:Bool} {t:TypeId} {x x' v:Value} (ha:qwz H s x=some (v,H')) (hx:VR M x x'):Snd P base M w (Instr.next x' s t) v H':=by
 unfold qwz at ha;split at ha
 next r sp=>
  simp only[VR] at hx;obtain ⟨b,hb,rfl⟩:=hx;split at ha
  next str pos hget=>
   split at ha
   next hid=>
    obtain ⟨hbb,hcell,hsh⟩:=h.blk _ _ _ hb hget;have had:b.ad ⟨r,0,sp⟩=⟨b.real,0,sp⟩:=by simp[BI.ad,hsh]
    rw[had];have hlt:=h.lt _ _ _ hb hget;split at ha
    next hp=>cases ha;have ht:=qca w b.real (.stringIter str (pos+(Utf8.decode str pos).2));refine ⟨M,_,_,?_,Ext.refl M,VR.self rfl,h.put hb hget rfl rfl hid ht.size ht.other ⟨hbb,qc9 _ hlt,hsh⟩,ht.below hbb⟩;simp[Instr.next,qc6 hcell (by simp),qd1 hcell (by simp),hp]
    next hp=>cases ha;refine Snd.still h ?_ (VR.self rfl);simp[Instr.next,qc6 hcell (by simp),hp]
   ·cases ha
  ·cases ha
 ·cases ha
end
end Go.Ax
namespace Go.Ax
section
variable {P:Program} {base:Prot} {M:Map} {H H':AHeap} {w:World}
def qjl (kd:TypeDesc) (k:Value):List (Value × Value)->Nat->Option (Option (Nat × Value))
 | [],_=>some none
 | e::es,i=>match Instr.sameNow kd k e.1 with
  | some true=>some (some (i,e.2))
  | some false=>qjl kd k es (i+1)
  | none=>none
theorem qin {kd:TypeDesc} {k:Value}:∀ {es:List (Value × Value)} {es':List MapEntry} {i:Nat},MapR M es es'->qjl kd k es i=some none->Instr.findNow kd k es' i=some none
 | [],_,_,h,_=>by simp only[MapR] at h;subst h;rfl
 | (a,b)::es,_,i,h,k=>by
  obtain ⟨e,r,rfl,h2,h3,h4,h5⟩:=h;simp only[qjl] at k;simp only[Instr.findNow,h2];split at k
  ·cases k
  next q=>rw[q];exact qin h5 k
  ·cases k
theorem qim {kd:TypeDesc} {k v:Value} {j:Nat}:∀ {es:List (Value × Value)} {es':List MapEntry} {i:Nat},MapR M es es'->qjl kd k es i=some (some (j,v)) ->
  ∃ v',Instr.findNow kd k es' i=some (some (j,v'))/\VR M v v'/\i<=j/\j-i<es.length
 | [],_,_,h,k=>by simp[qjl] at k
 | (a,b)::es,_,i,h,k=>by
  obtain ⟨e,r,rfl,h2,h3,h4,h5⟩:=h;simp only[qjl] at k;simp only[Instr.findNow,h2];split at k
  next q=>cases k;rw[q];exact ⟨_,rfl,h4,Nat.le_refl _,by simp⟩
  next q=>rw[q];obtain ⟨v',g1,g2,g3,g4⟩:=qim h5 k;exact ⟨v',g1,g2,by omega,by simp only[List.length_cons];omega⟩
  ·cases k
theorem MapR.length:∀ {es:List (Value × Value)} {l:List MapEntry},MapR M es l->l.length=es.length
 | [],_,h=>by simp only[MapR] at h;subst h;rfl
 | (_,_)::_,_,⟨e,r,h1,_,_,_,h5⟩=>by subst h1;simp[MapR.length h5]
theorem MapR.snoc {k v v':Value} {b:Nat} (hk:flat k=true) (hv:VR M v v'):∀ {es:List (Value × Value)} {l:List MapEntry},MapR M es l->MapR M (es++[(k,v)]) (l++[{ key:=k,val:=v',born:=b }])
 | [],_,h=>by simp only[MapR] at h;subst h;exact ⟨_,[],rfl,rfl,hk,hv,rfl⟩
 | (_,_)::_,_,⟨e,r,h1,h2,h3,h4,h5⟩=>by subst h1;exact ⟨e,_,rfl,h2,h3,h4,MapR.snoc hk hv h5⟩
theorem MapR.nth:∀ {es:List (Value × Value)} {l:List MapEntry} {i:Nat} {e:Value × Value},MapR M es l->es[i]?=some e->∃ e',l[i]?=some e'/\e'.key=e.1
 | [],_,i,e,_,h=>by simp at h
 | (a,b)::es,_,i,e,⟨e',r,h1,h2,h3,h4,h5⟩,h=>by
  subst h1
  cases i with
  | zero=>simp at h;subst h;exact ⟨e',rfl,h2⟩
  | succ i=>
   have h:es[i]?=some e:=by simpa using h
   simpa using MapR.nth h5 h
theorem MapR.mod {k v v':Value} (hk:flat k=true) (hv:VR M v v'):∀ {es:List (Value × Value)} {l:List MapEntry} {i:Nat},MapR M es l->MapR M (es.set i (k,v)) (l.modify i λ e=>{ e with key:=k,val:=v' })
 | [],_,i,h=>by simp only[MapR] at h;subst h;simp[MapR]
 | (a,b)::es,_,i,⟨e',r,h1,h2,h3,h4,h5⟩=>by
  subst h1
  cases i with
  | zero=>simp only[List.set_cons_zero,List.modify_zero_cons];exact ⟨_,r,rfl,rfl,hk,hv,h5⟩
  | succ i=>simp only[List.set_cons_succ,List.modify_succ_cons];exact ⟨e',_,rfl,h2,h3,h4,MapR.mod hk hv h5⟩
def qjw (P:Program) (H:AHeap) (t:TypeId):Option Value->Option (Value × AHeap)
 | none=>if idOK H.next then some (.map (some H.next),H.add (.map [])) else none
 | some (.int _ _)=>match qaa P (underlying t) with
  | some (.map _ _)=>if idOK H.next then some (.map (some H.next),H.add (.map [])) else none
  | _=>none
 | _=>none
theorem qpv (h:Rel base M H w):Rel base (M++[({ real:=w.heap.size }:BI)]) (H.add (.map [])) { w with heap:=w.heap.push (.map #[] 0) }/\VR (M++[({ real:=w.heap.size }:BI)]) (.map (some H.next)) (.map (some w.heap.size)):=by
 refine ⟨h.add (o:=.map #[] 0) rfl (Nat.zero_le _) ⟨h.fresh,#[],0,qcf w _,rfl⟩,?_⟩;simp only[VR];exact ⟨{ real:=w.heap.size },by rw[<- h.len];exact qeo M _,rfl⟩
theorem qm4 (h:Rel base M H w) {t:TypeId} {r:Option Value} {v:Value} (ha:qjw P H t r=some (v,H')):Snd P base M w (Instr.makeMap t r) v H':=by
 have hn:=qpv h;unfold qjw at ha;split at ha
 ·split at ha
  ·cases ha;exact ⟨_,_,_,by simp[Instr.makeMap,run_newObj],Ext.snoc M _,hn.2,hn.1,qco h.base_le _⟩
  ·cases ha
 ·split at ha
  next k n a b hu=>
   split at ha
   ·cases ha;exact ⟨_,_,_,by simp[Instr.makeMap,qab hu,asInt,run_newObj];rfl,Ext.snoc M _,hn.2,hn.1,qco h.base_le _⟩
   ·cases ha
  ·cases ha
 ·cases ha
def qh6 (H:AHeap):Value->Option (List (Value × Value))
 | .map none=>some []
 | .map (some r)=>match H.t.get r with
  | some (.map es)=>some es
  | _=>none
 | _=>none
def qft (P:Program) (H:AHeap) (t:TypeId) (x k:Value) (ok:Bool):Option Value:=
 match qaa P (underlying t),qh6 H x with
 | some (.map kt et),some es=>
  if flat k then match qaa P (Instr.checkKey es.isEmpty 10000 kt k),qaa P (underlying kt) with
   | some _,some kd=>match qjl kd k es 0 with
    | some (some (_,v))=>some (if ok then .tuple #[v,.bool true] else v)
    | some none=>match qaa P (zeroValue et) with
     | some z=>if flat z then some (if ok then .tuple #[z,.bool false] else z) else none
     | none=>none
    | none=>none
   | _,_=>none
  else none
 | _,_=>none
theorem qof (h:Rel base M H w) {t:TypeId} {x x' k k' v:Value} {ok:Bool} (ha:qft P H t x k ok=some v) (hx:VR M x x') (hk:VR M k k'):Snd P base M w (Instr.lookup t x' k' ok) v H:=by
 unfold qft at ha;split at ha
 next kt et es hu hes=>
  split at ha
  next hfk=>
   rw[(VR.flat_iff _ hfk _).1 hk];have hent:∃ es':Array MapEntry,MapR M es es'.toList/\((x'=.map none/\es'=#[])\/∃ r clock,x'=.map (some r)/\w.heap[r]?=some (.map es' clock)):=by
    unfold qh6 at hes;split at hes
    ·cases hes;simp only[VR] at hx
     exact ⟨#[],rfl,.inl ⟨hx,rfl⟩⟩
    next r=>
     simp only[VR] at hx;obtain ⟨b,hb,rfl⟩:=hx;split at hes
     next es0 hget=>cases hes;obtain ⟨hbb,es',clock,hcell,hm⟩:=h.blk _ _ _ hb hget;exact ⟨es',hm,.inr ⟨_,clock,rfl,hcell⟩⟩
     ·cases hes
    ·cases hes
   obtain ⟨es',hm,hrun⟩:=hent;have hemp:es'.isEmpty=es.isEmpty:=by
    have:=hm.length;rw[Array.length_toList] at this
    cases es with
    | nil=>simp at this;simp[this]
    | cons e es=>simp only[List.isEmpty_cons];simp only[Array.isEmpty,this,List.length_cons];simp
   split at ha
   next u kd hck hkd=>
    have hpre:(Instr.lookup t x' k ok).run P w=((do
      let (v,ok') <- match <- Instr.findKey kt k es'.toList with
       | some (_,v)=>pure (v,true)
       | none=>pure (<- zeroValue et,false)
      pure (if ok then .tuple #[v,.bool ok'] else v)):Sem Value).run P w:=by
     unfold Instr.lookup;rcases hrun with ⟨rfl,rfl⟩ | ⟨r,clock,rfl,hcell⟩
     ·simp only[Sem.run_bind,qab hu,Result.andThen_ok,Sem.run_pure,hemp];rw[qab hck];simp only[Result.andThen_ok];rfl
     ·simp only[Sem.run_bind,qab hu,Result.andThen_ok];rw[qc6 hcell (by simp)];simp only[Result.andThen_ok,Sem.run_bind,Sem.run_pure,hemp];rw[qab hck];simp only[Result.andThen_ok];rfl
    split at ha
    next j v0 hf=>
     obtain ⟨v',hf',hv,_⟩:=qim hm hf;cases ha;refine ⟨M,w,(if ok then .tuple #[v',.bool true] else v'),?_,Ext.refl M,?_,h,Below.refl _ _⟩
     ·rw[hpre];simp[Instr.findKey,qab hkd,hf']
     ·cases ok with
      | false=>simpa using hv
      | true=>
       simp only[if_true,VR];exact ⟨_,VRA.iff.2 (.cons hv (.cons (VR.self rfl) .nil)),rfl⟩
    next hf=>
     have hf':=qin hm hf;split at ha
     next z hz=>
      split at ha
      next hfz=>
       cases ha;refine ⟨M,w,(if ok then .tuple #[z,.bool false] else z),?_,Ext.refl M,?_,h,Below.refl _ _⟩
       ·rw[hpre];simp[Instr.findKey,qab hkd,hf',qab hz]
       ·cases ok with
        | false=>simpa using VR.self (M:=M) hfz
        | true=>
         simp only[if_true,VR];exact ⟨_,VRA.iff.2 (.cons (VR.self hfz) (.cons (VR.self rfl) .nil)),rfl⟩
      ·cases ha
     ·cases ha
    ·cases ha
   ·cases ha
  ·cases ha
 ·cases ha
def qcp (P:Program) (H:AHeap) (t:TypeId) (m k v:Value):Option AHeap:=
 match qaa P (underlying t),m with
 | some (.map kt _),.map (some r)=>match H.t.get r with
  | some (.map es)=>if flat k/\idOK r then match qaa P (Instr.checkKey false 10000 kt k),qaa P (underlying kt) with
   | some _,some kd=>match qjl kd k es 0 with
    | some (some (i,_))=>match es[i]? with
     | some e=>if Instr.sameBits 10000 e.1 k then some (H.put r (.map (es.set i (k,v)))) else none
     | none=>none
    | some none=>some (H.put r (.map (es++[(k,v)])))
    | none=>none
   | _,_=>none
   else none
  | _=>none
 | _,_=>none
theorem qfg (h:Rel base M H w) {t:TypeId} {m m' k k' v v':Value} (ha:qcp P H t m k v=some H') (hx:VR M m m') (hk:VR M k k') (hv:VR M v v') :
  ∃ w',(Instr.mapUpdate t m' k' v').run P w=.ok () w'/\Rel base M H' w'/\Below base w w':=by
 unfold qcp at ha;split at ha
 next kt et r hu=>
  simp only[VR] at hx;obtain ⟨b,hb,rfl⟩:=hx;split at ha
  next es hget=>
   obtain ⟨hbb,es',clock,hcell,hm⟩:=h.blk _ _ _ hb hget;have hlt:=h.lt _ _ _ hb hget;split at ha
   next hc=>
    rw[(VR.flat_iff _ hc.1 _).1 hk];split at ha
    next u kd hck hkd=>
     have hpre:(Instr.mapUpdate t (.map (some b.real)) k v').run P w=((do
       match <- Instr.findKey kt k es'.toList with
       | some (i,_)=>do
        let key <- Instr.keyThatStays (((es'[i]?).map (·.key)).getD k) k
        setObj b.real (.map (es'.modify i λ e=>{ e with key,val:=v' }) clock)
       | none=>setObj b.real (.map (es'.push { key:=k,val:=v',born:=clock }) (clock+1))):Sem Unit).run P w:=by
      unfold Instr.mapUpdate;simp only[Sem.run_bind,qab hu,Result.andThen_ok];rw[qc6 hcell (by simp)];simp only[Result.andThen_ok,Sem.run_bind];rw[qab hck];simp only[Result.andThen_ok];rfl
     split at ha
     next i v0 hf=>
      obtain ⟨v1,hf',_,_,hi⟩:=qim hm hf;split at ha
      next e he=>
       split at ha
       next hsb=>
        cases ha;obtain ⟨e',he',hk'⟩:=hm.nth he;have he2:es'[i]?=some e':=by simpa using he'
        have ht:=qca w b.real (.map (es'.modify i λ e=>{ e with key:=k,val:=v' }) clock);refine ⟨_,?_,h.put hb hget rfl rfl hc.2 ht.size ht.other ⟨hbb,_,clock,qc9 _ hlt,?_⟩,ht.below hbb⟩
        ·rw[hpre];simp[Instr.findKey,qab hkd,hf',he2,hk',Instr.keyThatStays,hsb,qd1 hcell (by simp)]
        ·rw[Array.toList_modify];exact hm.mod hc.1 hv
       ·cases ha
      ·cases ha
     next hf=>
      cases ha;have hf':=qin hm hf;have ht:=qca w b.real (.map (es'.push { key:=k,val:=v',born:=clock }) (clock+1));refine ⟨_,?_,h.put hb hget rfl rfl hc.2 ht.size ht.other ⟨hbb,_,clock+1,qc9 _ hlt,?_⟩,ht.below hbb⟩
      ·rw[hpre];simp[Instr.findKey,qab hkd,hf',qd1 hcell (by simp)]
      ·rw[Array.toList_push];exact hm.snoc hc.1 hv
     ·cases ha
    ·cases ha
   ·cases ha
  ·cases ha
 ·cases ha
end
end Go.Ax
namespace Go.Ax
inductive ANext where
 | val (v:Value)
 | skip
 | enter (f:FuncId) (args:Array Value)
 | yld (l:Nat) (args:Array Value)
section
variable {P:Program} {base:Prot} {M:Map} {H H':AHeap} {w:World}
def qbw {α:Type}:List (Option α)->Option (List α)
 | []=>some []
 | none::_=>none
 | some a::l=>(qbw l).map (a::·)
def qno (ρ:Operand->Option Value) (xs:Array Operand):Option (List Value):=qbw (xs.toList.map ρ)
theorem qdn {ρ:Operand->Option Value} {ρ':Operand->Value} (hρ:∀ x v,ρ x=some v->VR M v (ρ' x)) {xs:Array Operand} {l:List Value} (h:qno ρ xs=some l):VRL M l (xs.map ρ').toList:=by
 rw[Array.toList_map];unfold qno at h;generalize xs.toList=ys at h
 induction ys generalizing l with
 | nil=>simp only[List.map_nil,qbw,Option.some.injEq] at h;subst h;exact .nil
 | cons y ys ih=>
  simp only[List.map_cons] at h |-
  cases hy:ρ y with
  | none=>rw[hy] at h;cases h
  | some v=>
   rw[hy] at h;simp only[qbw,Option.map_eq_some_iff] at h;obtain ⟨l2,hl2,rfl⟩:=h;exact .cons (hρ y v hy) (ih hl2)
def ql9 (ρ:Operand->Option Value) (xs:Array (Nat × Operand)):Option (List (Nat × Value)):=qbw (xs.toList.map λ p=>(ρ p.2).map λ v=>(p.1,v))
theorem qi8 {ρ:Operand->Option Value} {ρ':Operand->Value} (hρ:∀ x v,ρ x=some v->VR M v (ρ' x)) {xs:Array (Nat × Operand)} {l:List (Nat × Value)} (h:ql9 ρ xs=some l) :
  qh9 M l (xs.map λ (i,x)=>(i,ρ' x)).toList:=by
 rw[Array.toList_map];unfold ql9 at h;generalize xs.toList=ys at h
 induction ys generalizing l with
 | nil=>simp only[List.map_nil,qbw,Option.some.injEq] at h;subst h;simp only[qh9,List.map_nil]
 | cons y ys ih=>
  obtain ⟨i,y⟩:=y;simp only[List.map_cons] at h |-
  cases hy:ρ y with
  | none=>rw[hy] at h;cases h
  | some v=>
   rw[hy] at h;simp only[Option.map_some,qbw,Option.map_eq_some_iff] at h;obtain ⟨l2,hl2,rfl⟩:=h;simp only[qh9];exact ⟨_,_,hρ y v hy,ih hl2,rfl⟩
def qc4:TypeDesc->Value->Value->Bool
 | .slice _,.slice (some _) _ _,.slice none _ _=>true
 | .slice _,.slice none _ _,.slice (some _) _ _=>true
 | .pointer _,.pointer (some _),.pointer none=>true
 | .pointer _,.pointer none,.pointer (some _)=>true
 | .map _ _,.map (some _),.map none=>true
 | .map _ _,.map none,.map (some _)=>true
 | .func _ _ _,.func _ _ _,.nilFunc=>true
 | .func _ _ _,.nilFunc,.func _ _ _=>true
 | .interface _,.iface _ _,.nilIface=>true
 | .interface _,.nilIface,.iface _ _=>true
 | _,_,_=>false
theorem VR.slice_form {a:Addr} {l c:Nat} {r:Value} (h:VR M (.slice (some a) l c) r):∃ b l' c',r=.slice (some b) l' c':=by
 simp only[VR] at h;split at h
 ·obtain ⟨_,_,a',c',rfl⟩:=h;exact ⟨_,_,_,rfl⟩
 ·obtain ⟨b,_,rfl⟩:=h;exact ⟨_,_,_,rfl⟩
theorem qo2 {t:TypeId} {d:TypeDesc} {xo yo:Operand} {x y:Value} (hu:P.underlying t=some d) (ha:qc4 d x y=true) (w:World) (n:Nat) :
  (eqGuard .eql t xo yo x y).run P w=.ok () w/\(eqGuard .neq t xo yo x y).run P w=.ok () w/\(Op.equalIn (n+1) t x y).run P w=.ok false w /\
  binOp .eql t x y=(do pure (.bool (<- Op.equal t x y)))/\binOp .neq t x y=(do pure (.bool (!(<- Op.equal t x y)))):=by
 have hu':(underlying t).run P w=.ok d w:=by simp[underlying,hu]
 unfold qc4 at ha;split at ha
 case h_11=>cases ha
 all_goals exact ⟨by simp[eqGuard],by simp[eqGuard],by simp only[Op.equalIn,Sem.run_bind,hu',Result.andThen_ok];rfl,by simp only[binOp],by simp only[binOp]⟩
theorem qnk {d:TypeDesc} {x y x' y':Value} (ha:qc4 d x y=true) (hx:VR M x x') (hy:VR M y y'):qc4 d x' y'=true:=by
 unfold qc4 at ha;split at ha
 ·obtain ⟨b,l',c',rfl⟩:=hx.slice_form;simp only[VR] at hy;subst hy;rfl
 ·obtain ⟨b,l',c',rfl⟩:=hy.slice_form;simp only[VR] at hx;subst hx;rfl
 ·simp only[VR] at hx hy;subst hy;obtain ⟨b,_,rfl⟩:=hx;rfl
 ·simp only[VR] at hx hy;subst hx;obtain ⟨b,_,rfl⟩:=hy;rfl
 ·simp only[VR] at hx hy;subst hy;obtain ⟨b,_,rfl⟩:=hx;rfl
 ·simp only[VR] at hx hy;subst hx;obtain ⟨b,_,rfl⟩:=hy;rfl
 ·simp only[VR] at hx hy;subst hy;obtain ⟨_,_,_,_,_,_,rfl⟩:=hx;rfl
 ·simp only[VR] at hx hy;subst hx;obtain ⟨_,_,_,_,_,_,rfl⟩:=hy;rfl
 ·simp only[VR] at hx hy;subst hy;obtain ⟨_,_,rfl⟩:=hx;rfl
 ·simp only[VR] at hx hy;subst hx;obtain ⟨_,_,rfl⟩:=hy;rfl
 ·cases ha
theorem qj0 {t:TypeId} {d:TypeDesc} (h:qaa P (underlying t)=some d):P.underlying t=some d:=by
 unfold underlying at h;rw[qad,qba] at h;simp only[Option.bind_some] at h
 cases hu:P.underlying t with
 | none=>rw[hu] at h;cases h
 | some d'=>rw[hu] at h;cases h;rfl
theorem qgl {t:TypeId} {d:TypeDesc} {xo yo:Operand} {x y x' y':Value} (hu:qaa P (underlying t)=some d) (ha:qc4 d x y=true) (hx:VR M x x') (hy:VR M y y') (w:World) :
  (eqGuard .eql t xo yo x' y').run P w=.ok () w/\(eqGuard .neq t xo yo x' y').run P w=.ok () w/\(Op.equal t x' y').run P w=.ok false w /\
  binOp .eql t x' y'=(do pure (.bool (<- Op.equal t x' y')))/\binOp .neq t x' y'=(do pure (.bool (!(<- Op.equal t x' y')))):=by
 have e:Op.equal t x' y'=Op.equalIn (9999+1) t x' y':=by unfold Op.equal Op.maxDepth;rfl
 have:=qo2 (xo:=xo) (yo:=yo) (qj0 hu) (qnk ha hx hy) w 9999;rw[e];rw[e] at this;exact this
def aBin (P:Program) (op:BinOp) (t:TypeId) (xo yo:Operand) (x y:Value):Option Value:=
 if flat x&&flat y then
  match qaa P (do eqGuard op t xo yo x y;binOp op t x y) with
  | some v=>if flat v then some v else none
  | none=>none
 else
  match op,qaa P (underlying t) with
  | .eql,some d=>if qc4 d x y then some (.bool false) else none
  | .neq,some d=>if qc4 d x y then some (.bool true) else none
  | _,_=>none
theorem qwq (h:Rel base M H w) {op:BinOp} {t:TypeId} {xo yo:Operand} {x y x' y' v:Value} (ha:aBin P op t xo yo x y=some v) (hx:VR M x x') (hy:VR M y y') :
  Snd P base M w (do eqGuard op t xo yo x' y';binOp op t x' y') v H:=by
 unfold aBin at ha;split at ha
 next hf=>
  simp only[Bool.and_eq_true] at hf;split at ha
  next v0 hv0=>
   split at ha
   next hfv=>cases ha;rw[(VR.flat_iff _ hf.1 _).1 hx,(VR.flat_iff _ hf.2 _).1 hy];exact Snd.still h (qab hv0 w) (VR.self hfv)
   ·cases ha
  ·cases ha
 ·split at ha
  next d hu=>
   split at ha
   next hr=>cases ha;obtain ⟨h1,h2,h3,h4,h5⟩:=qgl (xo:=xo) (yo:=yo) hu hr hx hy w;exact Snd.still h (by rw[h4];simp[h1,h3]) (VR.self rfl)
   ·cases ha
  next d hu=>
   split at ha
   next hr=>cases ha;obtain ⟨h1,h2,h3,h4,h5⟩:=qgl (xo:=xo) (yo:=yo) hu hr hx hy w;exact Snd.still h (by rw[h5];simp[h2,h3]) (VR.self rfl)
   ·cases ha
  ·cases ha
end
end Go.Ax
