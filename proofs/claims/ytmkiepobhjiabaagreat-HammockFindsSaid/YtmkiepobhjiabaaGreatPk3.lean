/-
  The machine, the program's functions and the laws' arithmetic: part 3 of 6.
-/
import Derived.Test.YtmkiepobhjiabaaGreatPk2
import Derived.BigCall
import Derived.Lib.RowBridge
import Derived.Shelf.Slices.Clone
import Derived.Shelf.Slices.CompactI
import Derived.Shelf.Slices.In.SortNone
import Derived.Shelf.Sort.Plain
import Derived.Sort.OwnSortedInts
import Derived.Test.YtmkiepobhjiabaaGreatProg
set_option linter.unusedVariables false
set_option linter.unusedSimpArgs false
namespace Go.Proofs.YtmkiepobhjiabaaGreat
noncomputable section
open Go Go.RowKit
def M1{α:Type}(sz:Nat)(e:α->List AV)(d:α)(L:List (List α))(t:Nat->Tag):Nat->List AV:=fun j=>[AV.list sz e d (L.getD j []) (t j)]
def H0(b i k j:Nat):Tag:=bif Nat.beq j i then .own k else .fam b j
def Mh{α:Type}(L:List (List α)):Nat->Option Nat:=fun j=>if j<L.length then some (L.getD j []).length else none
def X2{α:Type}(L:List (List α))(i:Nat):Nat->Option Nat:=fun j=>if j=i then none else Mh L j
mutual
def AV.free(p:Tag->Bool):AV->Bool
 | .slice _ _ _ t=>p t
 | .clo _ xs ys=>AV.freeAll p xs&&AV.freeAll p ys
 | .agg cs=>AV.freeAll p cs
 | .rpo cs=>AV.freeAll p cs
 | .tuple cs=>AV.freeAll p cs
 | .cond _ x=>x.free p
 | _=>true
def AV.freeAll(p:Tag->Bool):List AV->Bool
 | []=>true
 | x::l=>x.free p&&AV.freeAll p l
end
theorem Lp{p:Tag->Bool}{l:List AV}(h:AV.freeAll p l=true)(j:Nat):(l.getD j .any).free p=true:=by
 induction l generalizing j with
 | nil=>simp[AV.free]
 | cons x l ih=>
  simp only[AV.freeAll,A7]at h
  cases j with
  | zero=>simpa using h.1
  | succ j=>simpa using ih h.2 j
def AObj.Al(P:AV->Prop):AObj->Prop
 | .iter _ _=>True
 | .map _ _ _=>True
 | .pmap _ _ _=>True
 | .miter m _ _=>P m
 | .tab _ l=>∀ i,i<l.length->P (l.getD i (0,.any)).2
theorem AObj.Al.imp{P Q:AV->Prop}{x:AObj}(h:x.Al P)(k:∀ y,P y->Q y):x.Al Q:=by
 cases x with
 | iter=>trivial
 | map=>trivial
 | pmap=>trivial
 | miter=>exact k _ h
 | tab=>exact fun i hi=>k _ (h i hi)
theorem ObjR.al{P:AV->Prop}{I I':Nat->Nat->Prop}{own own':Nat->Option Own}{θ θ':Nat->Option (Nat×Nat)}{w w':World}{o:Obj}{x:AObj}(h:ObjR I own θ w o x)(hx:x.Al P)(hI:∀ b o,I b o->I' b o)(hw:∀ b o,I b o->w'.cell? ⟨b,o,none⟩=w.cell? ⟨b,o,none⟩)(hf:∀ v y,P y->Rep I own θ w v y->Rep I' own' θ' w' v y):ObjR I' own' θ' w' o x:=by
 cases h with
 | iter s p=>exact .iter s p
 | map es nn k l hs hr=>
  refine .map es nn k l hs fun i hi=>?_;obtain⟨v,h1,h2,h3⟩:=hr i hi;exact⟨v,h1,h2.mono hI hw,h3⟩
 | pmap es nn k l0 l hp hk hs hr=>
  refine .pmap es nn k l0 l hp hk hs fun i hi=>?_;obtain⟨v,h1,h2,h3⟩:=hr i hi;exact⟨v,h1,h2.mono hI hw,h3⟩
 | miter r m n c seen hc hr=>exact .miter r m n c seen hc (hf _ _ hx hr)
 | tab es k l hs hr=>exact .tab es k l hs fun i hi=>by obtain⟨v,h1,h2⟩:=hr i hi;exact⟨v,h1,hf _ _ (hx i hi) h2⟩
def noFam(b:Nat):Tag->Bool
 | .fam b' _=>!Nat.beq b' b
 | .own nm=>Nat.blt nm Bq
 | _=>true
def noOwn(k:Nat):Tag->Bool
 | .own k'=>!Nat.beq k' k
 | _=>true
def Fr(q:Nat)(x:AV):Prop:=∀(I:Nat->Nat->Prop) (own own':Nat->Option Own) (θ θ':Nat->Option (Nat×Nat)) (w:World) (v:Value),(∃ sz e m,own q=some (.tok sz e m))->
 (∀ nm o,nm≠q->own nm=some o->∃ o',own' nm=some o'/\OwnLe o (θ nm) o' (θ' nm))->Rep I own θ w v x->Rep I own' θ' w v x
theorem fr_of{q:Nat}{p:Tag->Bool}(hp:∀ nm,p (.own nm)=true->nm≠q)(hf:∀ b i,i<Bq->p (.fam b i)=true->Qd b i≠q){x:AV}(hx:x.free p=true):Fr q x:=by
 intro I own own' θ θ' w v hq ho h;obtain⟨s0,e0,m0,hq⟩:=hq;have hall:∀ nm o,nm≠q->own nm=some o->∃ o',own' nm=some o'/\OwnLe o (θ nm) o' (θ' nm):=ho
 have hne:∀{nm o},own nm=some o->(∀ sz e m,o≠.tok sz e m)->nm≠q:=fun hn hh=>by
  rintro rfl;rw[hq]at hn;exact hh _ _ _ (OI hn).symm
 induction h with
 | val v x h=>exact .val v x h
 | exact a n sz f h=>exact .exact a n sz f h
 | own nm sz e m a n cap f hn hm hv h=>
  obtain⟨o',ho',hle⟩:=ho nm _ (hp nm hx) hn
  cases o' with
  | tok sz' e' m'=>
   obtain⟨rfl,rfl,hmm,hθ⟩:=hle;refine .own nm _ _ m' a n cap f ho' (Rm hm hmm) (fun he=>?_) h;rw[hθ (by omega)];exact hv (by omega)
  | _=>exact hle.elim
 | fam b i sz e m a n cap f hi hn hm hv h=>
  obtain⟨o',ho',hle⟩:=ho (Qd b i) _ (hf b i hi hx) hn
  cases o' with
  | tok sz' e' m'=>
   obtain⟨rfl,rfl,hmm,hθ⟩:=hle;refine .fam b i _ _ m' a n cap f hi ho' (Rm hm hmm) (fun he=>?_) h;rw[hθ (by omega)];exact hv (by omega)
  | _=>exact hle.elim
 | ptr nm off e cells g c hn hg=>
  obtain⟨o',ho',hle⟩:=ho nm _ (hne hn (fun _ _ _ h=>by cases h)) hn
  cases o' with
  | row e' cells'=>
   have e:θ' nm=θ nm:=hle.2;exact .ptr nm off e' cells' g c ho' (e.trans hg)
  | _=>exact hle.elim
 | vsl nm sz e m f a n cap hn hm hcap hmax hnn hv=>
  obtain⟨o',ho',hle⟩:=ho nm _ (hne hn (fun _ _ _ h=>by cases h)) hn
  cases o' with
  | arr sz' e' m' f'=>
   obtain⟨rfl,rfl,hmm,hθ⟩:=hle;refine .vsl nm _ _ m' f' a n cap ho' (Rm hm hmm) hcap hmax hnn (fun he=>?_);rw[hθ (by omega)];exact hv (by omega)
  | _=>exact hle.elim
 | vpt nm sz e m f n i j ad hn hm hi hv=>
  obtain⟨o',ho',hle⟩:=ho nm _ (hne hn (fun _ _ _ h=>by cases h)) hn
  cases o' with
  | arr sz' e' m' f'=>
   obtain⟨rfl,rfl,hmm,hθ⟩:=hle;refine .vpt nm _ _ m' f' n i j ad ho' (Rm hm hmm) hi (fun he=>?_);rw[hθ (by omega)];exact hv (by omega)
  | _=>exact hle.elim
 | clo f fs cs xs ys hl hl' _ _ ih ih'=>
  simp only[AV.free,A7]at hx;exact .clo f fs cs xs ys hl hl' (fun j hj=>ih j hj (Lp hx.1 j)) (fun j hj=>ih' j hj (Lp hx.2 j))
 | optr nm mm x g c hn hg=>
  obtain⟨o',ho',hle⟩:=ho nm _ (hne hn (fun _ _ _ h=>by cases h)) hn
  cases o' with
  | obj x'=>exact .optr nm mm x' g c ho' (by rw[hle,hg])
  | _=>exact hle.elim
 | omap nm x hn=>
  obtain⟨o',ho',hle⟩:=ho nm _ (hne hn (fun _ _ _ h=>by cases h)) hn
  cases o' with
  | obj x'=>
   have hle:θ' nm=θ nm:=hle;rw[<- hle];exact .omap nm x' ho'
  | _=>exact hle.elim
 | vsub nm sz e m f n lo hi a cap hn hm hlo hhi hcap hmax hnn hv=>
  obtain⟨o',ho',hle⟩:=ho nm _ (hne hn (fun _ _ _ h=>by cases h)) hn
  cases o' with
  | arr sz' e' m' f'=>
   obtain⟨rfl,rfl,hmm,hθ⟩:=hle;refine .vsub nm _ _ m' f' n lo hi a cap ho' (Rm hm hmm) hlo hhi hcap hmax hnn (fun he=>?_);rw[hθ (by omega)];exact hv (by omega)
  | _=>exact hle.elim
 | cond v c x _ h' ih=>exact .cond v c x (fun hc=>ih hc hx) h'
 | agg vs cs hl h1 _ ih=>exact .agg vs cs hl h1 (fun j hj=>ih j hj (Lp hx j))
 | rpo a cells us hs hI' hc h1 _ ih=>exact .rpo a cells us hs hI' hc h1 (fun j hj=>ih j hj (Lp hx j))
 | tuple vs cs hl _ ih=>exact .tuple vs cs hl (fun j hj=>ih j hj (Lp hx j))
theorem fr_fam{b i:Nat}(hi:i<Bq){x:AV}(hx:x.free (noFam b)=true):Fr (Qd b i) x:=
 fr_of (p:=noFam b) (fun nm hp he=>by
  have hlt:nm<Bq:=by simpa [noFam,Iu] using hp
  rw[he]at hlt
  exact Nu b i hlt) (fun b' i' hi' hp he=>by
  have h1:=U2 (b:=b') hi';rw[he,U2 hi]at h1;subst h1
  simp[noFam]at hp) hx
theorem fr_own{k:Nat}(hk:k<Bq){x:AV}(hx:x.free (noOwn k)=true):Fr k x:=
 fr_of (p:=noOwn k) (fun nm hp he=>by subst he;simp[noOwn]at hp) (fun b i _ _ he=>by rw[<- he]at hk;exact Nu b i hk) hx
def OwnFr(q:Nat):Own->Prop
 | .row _ cells=>∀ j,j<cells.length->Fr q (cells.getD j .any)
 | .arr sz _ m f=>∀ i j,i<m->j<sz->Fr q ((f i).getD j .any)
 | .obj x=>x.Al (Fr q)
 | .tok ..=>True
theorem Xr{I:Nat->Nat->Prop}{own own':Nat->Option Own}{θ θ':Nat->Option (Nat×Nat)}{w:World}{nm sz m:Nat}{e:TypeId}{f f':Nat->List AV}
  (h:(θ nm=none->m=0)/\∀ g c,θ nm=some (g,c)->∃ cur,w.heap[g]?=some (.cells cur e (0,0))/\m<=c/\c<=maxLen/\cur.size=c*sz /\
   (∀ i,i<m->(f i).length=sz)/\(∀ i j,i<m->j<sz->(cur.getD (i*sz+j) undef).oneCell'=true/\Rep I own θ w (cur.getD (i*sz+j) undef) ((f i).getD j .any))/\∀ j,¬ I g j)
  (hθ:θ' nm=θ nm) (hf:∀ i,i<m->(f' i).length=(f i).length) (hr:∀ i j v,i<m->j<sz->Rep I own θ w v ((f i).getD j .any)->Rep I own' θ' w v ((f' i).getD j .any)) :
  (θ' nm=none->m=0)/\∀ g c,θ' nm=some (g,c)->∃ cur,w.heap[g]?=some (.cells cur e (0,0))/\m<=c/\c<=maxLen/\cur.size=c*sz /\
   (∀ i,i<m->(f' i).length=sz)/\(∀ i j,i<m->j<sz->(cur.getD (i*sz+j) undef).oneCell'=true/\Rep I own' θ' w (cur.getD (i*sz+j) undef) ((f' i).getD j .any))/\∀ j,¬ I g j:=by
 rw[hθ];refine⟨h.1,fun g c hg=>?_⟩;obtain⟨cur,q1,q2,q3,q4,q5,q6,q7⟩:=h.2 g c hg;exact⟨cur,q1,q2,q3,q4,fun i hi=>(hf i hi).trans (q5 i hi),fun i j hi hj=>⟨(q6 i j hi hj).1,hr i j _ hi hj (q6 i j hi hj).2⟩,q7⟩
section
variable {Γ:Iw} {σ:Sto} {I:Nat->Nat->Prop} {θ:Nat->Option (Nat×Nat)} {a:Act} {w:World}
theorem rel_rename(h:Rel Γ σ I θ a w){p q r sz m s1 n:Nat}{e e1:TypeId}{F F':Nat->List AV}(hp:σ.own p=some (.tok sz e m))(hq:σ.own q=none)(hr:σ.own r=some (.arr s1 e1 n F))(hp0:Γ.own0 p=none)
  (hfree:∀ t,Fr p (σ.tmp t)) (hrows:∀ nm o,nm≠r->σ.own nm=some o->OwnFr p o) {own':Nat->Option Own} {θ':Nat->Option (Nat×Nat)}
  (hown:own'=fun x=>if x=q then some (.tok sz e m) else if x=p then none else if x=r then some (.arr s1 e1 n F') else σ.own x)
  (hθ:θ'=fun x=>if x=q then θ p else if x=p then none else θ x)
  (hlen:∀ j,j<n->(F' j).length=(F j).length)
  (hF:∀ j c v,j<n->c<s1->Rep I σ.own θ w v ((F j).getD c .any)->Rep I own' θ' w v ((F' j).getD c .any)) :
  Rel Γ ⟨σ.tmp,own'⟩ I θ' a w:=by
 have hpq:p≠q:=by rintro rfl;rw[hp]at hq;cases hq
 have hpr:p≠r:=by rintro rfl;rw[hp]at hr;cases hr
 have hqr:q≠r:=by rintro rfl;rw[hq]at hr;cases hr
 have hkeep:∀ nm o,nm≠p->σ.own nm=some o->∃ o',own' nm=some o'/\OwnLe o (θ nm) o' (θ' nm):=fun nm o hnp ho=>by
  have hnq:nm≠q:=by rintro rfl;rw[hq]at ho;cases ho
  by_cases hnr:nm=r
  ·subst hnr;rw[hr]at ho;obtain rfl:=OI ho;exact⟨.arr s1 e1 n F',by simp[hown,hnq,hnp],by simp[hθ,hnq,hnp,OwnLe]⟩
  ·exact⟨o,by simp[hown,hnq,hnp,hnr,ho],by simp[hθ,hnq,hnp,OwnLe.refl]⟩
 have hT:∀ v x,Fr p x->Rep I σ.own θ w v x->Rep I own' θ' w v x:=fun v x hx hv=>hx I _ _ _ _ w v ⟨_,_,_,hp⟩ hkeep hv
 have hinv:∀ nm o,nm≠q->nm≠r->own' nm=some o->nm≠p/\σ.own nm=some o/\θ' nm=θ nm:=fun nm o h1 h2 ho=>by
  by_cases h3:nm=p
  ·simp[hown,h3,hpq]at ho
  ·simp[hown,h1,h2,h3]at ho;exact⟨h3,ho,by simp[hθ,h1,h3]⟩
 have hnone:∀ nm,own' nm≠none->∃ nm',σ.own nm'≠none/\θ' nm=θ nm'/\(nm=q->nm'=p)/\(nm≠q->nm'=nm/\nm≠p):=fun nm hn=>by
  by_cases h1:nm=q
  ·exact⟨p,by simp[hp],by simp[hθ,h1],fun _=>rfl,fun h=>(h h1).elim⟩
  ·by_cases h2:nm=r
   ·subst h2;exact⟨nm,by simp[hr],by simp[hθ,h1,Ne.symm hpr],fun h=>(h1 h).elim,fun _=>⟨rfl,Ne.symm hpr⟩⟩
   ·cases hx:own' nm with
    | none=>exact(hn hx).elim
    | some o=>
     obtain⟨h3,h4,h5⟩:=hinv nm o h1 h2 hx;exact⟨nm,by simp[h4],h5,fun h=>(h1 h).elim,fun _=>⟨rfl,h3⟩⟩
 have hq':own' q=some (.tok sz e m):=by simp[hown]
 have hr':own' r=some (.arr s1 e1 n F'):=by simp[hown,Ne.symm hqr,Ne.symm hpr]
 have hrel:=h.chg.rel
 have hθr:θ' r=θ r:=by simp[hθ,Ne.symm hqr,Ne.symm hpr]
 have hθq:θ' q=θ p:=by simp[hθ]
 refine⟨h.size,h.defers,fun t=>hT _ _ (hfree t) (h.slots t),{ h.chg with le:=fun nm o ho=>?_,rel:=⟨fun nm e0 cells ho=>?_,fun nm s' e' m' ho g c hg=>?_,fun nm nm' g c c' ho ho' hg hg'=>?_,fun nm s' e' m' f' ho=>?_,fun nm x ho=>?_,fun nm s' m' ho hnn=>?_⟩,new:=fun nm g c ho hg=>?_ }⟩
 ·obtain⟨o',ho',hl⟩:=h.chg.le nm o ho
  have hnp:nm≠p:=by rintro rfl;rw[hp0]at ho;cases ho
  obtain⟨o'',h1,h2⟩:=hkeep nm o' hnp ho';exact⟨o'',h1,hl.trans h2⟩
 ·replace ho:own' nm=some _:=ho
  have h1:nm≠q:=by rintro rfl;rw[hq']at ho;cases ho
  have h2:nm≠r:=by rintro rfl;rw[hr']at ho;cases ho
  obtain⟨h3,h4,h5⟩:=hinv nm _ h1 h2 ho;obtain⟨g,c,vs,r1,r2,r3,r4,r5,r6⟩:=hrel.row nm e0 cells h4;exact⟨g,c,vs,h5.trans r1,r2,r3,r4,fun j hj=>hT _ _ (hrows nm _ h2 h4 j hj) (r5 j hj),r6⟩
 ·replace ho:own' nm=some _:=ho
  by_cases h1:nm=q
  ·subst h1;rw[hq']at ho;simp only[Am,Own.tok.injEq]at ho;obtain⟨rfl,rfl,rfl⟩:=ho;exact hrel.tok p _ _ _ hp g c (hθq.symm.trans hg)
  ·have h2:nm≠r:=by rintro rfl;rw[hr']at ho;cases ho
   obtain⟨h3,h4,h5⟩:=hinv nm _ h1 h2 ho;exact hrel.tok nm _ _ _ h4 g c (h5.symm.trans hg)
 ·obtain⟨n1,a1,a2,a3,a4⟩:=hnone nm ho;obtain⟨n2,b1,b2,b3,b4⟩:=hnone nm' ho';have:=hrel.inj n1 n2 g c c' a1 b1 (a2.symm.trans hg) (b2.symm.trans hg')
  by_cases h1:nm=q
  ·by_cases h2:nm'=q
   ·rw[h1,h2]
   ·have:=a3 h1;have:=b4 h2;omega
  ·by_cases h2:nm'=q
   ·have:=a4 h1;have:=b3 h2;omega
   ·have:=a4 h1;have:=b4 h2;omega
 ·replace ho:own' nm=some _:=ho
  have h1:nm≠q:=by rintro rfl;rw[hq']at ho;cases ho
  by_cases h2:nm=r
  ·subst h2;rw[hr']at ho;simp only[Am,Own.arr.injEq]at ho;obtain⟨rfl,rfl,rfl,rfl⟩:=ho;exact Xr (hrel.arr nm _ _ _ _ hr) hθr hlen hF
  ·obtain⟨h3,h4,h5⟩:=hinv nm _ h1 h2 ho;exact Xr (hrel.arr nm _ _ _ _ h4) h5 (fun _ _=>rfl) (fun i j v hi hj hv=>hT _ _ (hrows nm _ h2 h4 i j hi hj) hv)
 ·replace ho:own' nm=some _:=ho
  have h1:nm≠q:=by rintro rfl;rw[hq']at ho;cases ho
  have h2:nm≠r:=by rintro rfl;rw[hr']at ho;cases ho
  obtain⟨h3,h4,h5⟩:=hinv nm _ h1 h2 ho;exact Lr (hrel.obj nm _ h4) h5 (fun _ _ _=>rfl) (fun _ _ _ _ h=>h) (fun _ hh=>hh.al (hrows nm _ h2 h4) (fun _ _ h=>h) (fun _ _ _=>rfl) fun v y hy hv=>hT v y hy hv) Tj
 ·replace ho:own' nm=some _:=ho
  by_cases h1:nm=q
  ·subst h1;rw[hq']at ho;simp only[Am,Own.tok.injEq]at ho;obtain⟨rfl,he,rfl⟩:=ho;exact hrel.tok8 p _ _ (by rw[hp,he]) (hθq.symm.trans hnn)
  ·have h2:nm≠r:=by rintro rfl;rw[hr']at ho;cases ho
   obtain⟨h3,h4,h5⟩:=hinv nm _ h1 h2 ho;exact hrel.tok8 nm _ _ h4 (h5.symm.trans hnn)
 ·obtain⟨n1,a1,a2,_,_⟩:=hnone nm ho;exact h.chg.new n1 g c a1 (a2.symm.trans hg)
theorem rel_births(h:Rel Γ σ I θ a w){r s1 n:Nat}{e1:TypeId}{F F':Nat->List AV}(hr:σ.own r=some (.arr s1 e1 n F)){S:Nat->Option (Nat×TypeId×Nat)}(hS:∀ x y,S x=some y->σ.own x=none)
  (h8:∀ x sz m,S x=some (sz,tokU8,m)->m=0) {own':Nat->Option Own} {θ':Nat->Option (Nat×Nat)}
  (hown:own'=fun x=>match S x with|some y=>some (.tok y.1 y.2.1 y.2.2)|none=>if x=r then some (.arr s1 e1 n F') else σ.own x)
  (hθ:θ'=fun x=>match S x with|some _=>none|none=>θ x) (hlen:∀ j,j<n->(F' j).length=(F j).length)
  (hF:∀ j c v,j<n->c<s1->Rep I σ.own θ w v ((F j).getD c .any)->Rep I own' θ' w v ((F' j).getD c .any)) :
  Rel Γ ⟨σ.tmp,own'⟩ I θ' a w:=by
 have hSn:∀ nm o,σ.own nm=some o->S nm=none:=fun nm o ho=>by
  cases hx:S nm with
  | none=>rfl
  | some y=>rw[hS nm y hx]at ho;cases ho
 have hkeep:∀ nm o,σ.own nm=some o->∃ o',own' nm=some o'/\OwnLe o (θ nm) o' (θ' nm):=fun nm o ho=>by
  have h1:=hSn nm o ho
  by_cases hnr:nm=r
  ·subst hnr;rw[hr]at ho;obtain rfl:=OI ho;exact⟨.arr s1 e1 n F',by simp[hown,h1],by simp[hθ,h1,OwnLe]⟩
  ·exact⟨o,by simp[hown,h1,hnr,ho],by simp[hθ,h1,OwnLe.refl]⟩
 have hT:∀ v x,Rep I σ.own θ w v x->Rep I own' θ' w v x:=fun v x hv=>hv.mono (fun _ _ h=>h) (fun _ _ _=>rfl) hkeep
 have hinv:∀ nm o,own' nm=some o->(∀ sz e m,o≠.tok sz e m)->nm≠r->σ.own nm=some o/\θ' nm=θ nm:=fun nm o ho hn h2=>by
  cases hx:S nm with
  | none=>simp[hown,hx,h2]at ho;exact⟨ho,by simp[hθ,hx]⟩
  | some y=>simp[hown,hx]at ho;exact(hn _ _ _ ho.symm).elim
 have hold:∀ nm g c,own' nm≠none->θ' nm=some (g,c)->σ.own nm≠none/\θ nm=some (g,c):=fun nm g c ho hg=>by
  cases hx:S nm with
  | some y=>simp[hθ,hx]at hg
  | none=>
   simp[hθ,hx]at hg;refine⟨?_,hg⟩
   by_cases h2:nm=r
   ·subst h2;simp[hr]
   ·simpa [hown,hx,h2] using ho
 have hSr:S r=none:=hSn r _ hr
 have hr':own' r=some (.arr s1 e1 n F'):=by simp[hown,hSr]
 have hθr:θ' r=θ r:=by simp[hθ,hSr]
 have hrel:=h.chg.rel;refine⟨h.size,h.defers,fun t=>hT _ _ (h.slots t),{ h.chg with le:=fun nm o ho=>?_,rel:=⟨fun nm e0 cells ho=>?_,fun nm s' e' m' ho g c hg=>?_,fun nm nm' g c c' ho ho' hg hg'=>?_,fun nm s' e' m' f' ho=>?_,fun nm x ho=>?_,fun nm s' m' ho hnn=>?_⟩,new:=fun nm g c ho hg=>?_ }⟩
 ·obtain⟨o',ho',hl⟩:=h.chg.le nm o ho;obtain⟨o'',h1,h2⟩:=hkeep nm o' ho';exact⟨o'',h1,hl.trans h2⟩
 ·replace ho:own' nm=some _:=ho
  have h2:nm≠r:=by rintro rfl;rw[hr']at ho;cases ho
  obtain⟨h4,h5⟩:=hinv nm _ ho (fun _ _ _ h=>by cases h) h2;obtain⟨g,c,vs,r1,r2,r3,r4,r5,r6⟩:=hrel.row nm e0 cells h4;exact⟨g,c,vs,h5.trans r1,r2,r3,r4,fun j hj=>hT _ _ (r5 j hj),r6⟩
 ·replace ho:own' nm=some _:=ho;obtain⟨h1,h2⟩:=hold nm g c (by rw[ho];simp) hg
  cases hx:S nm with
  | some y=>simp[hθ,hx]at hg
  | none=>
   have h3:nm≠r:=by rintro rfl;rw[hr']at ho;cases ho
   simp[hown,hx,h3]at ho;exact hrel.tok nm _ _ _ ho g c h2
 ·obtain⟨a1,a2⟩:=hold nm g c ho hg;obtain⟨b1,b2⟩:=hold nm' g c' ho' hg';exact hrel.inj nm nm' g c c' a1 b1 a2 b2
 ·replace ho:own' nm=some _:=ho
  by_cases h2:nm=r
  ·subst h2;rw[hr']at ho;simp only[Am,Own.arr.injEq]at ho;obtain⟨rfl,rfl,rfl,rfl⟩:=ho;exact Xr (hrel.arr nm _ _ _ _ hr) hθr hlen hF
  ·obtain⟨h4,h5⟩:=hinv nm _ ho (fun _ _ _ h=>by cases h) h2;exact Xr (hrel.arr nm _ _ _ _ h4) h5 (fun _ _=>rfl) (fun i j v _ _ hv=>hT _ _ hv)
 ·replace ho:own' nm=some _:=ho
  have h2:nm≠r:=by rintro rfl;rw[hr']at ho;cases ho
  obtain⟨h4,h5⟩:=hinv nm _ ho (fun _ _ _ h=>by cases h) h2;exact Lr (hrel.obj nm _ h4) h5 (fun _ _ _=>rfl) (fun _ _ _ _ h=>h) (fun _ hh=>hh.mono hT) Tj
 ·replace ho:own' nm=some _:=ho
  cases hx:S nm with
  | some y=>
   simp only[hown,hx,Am,Own.tok.injEq]at ho;obtain⟨h1,h2,h3⟩:=ho;rw[<- h3];exact h8 nm y.1 y.2.2 (by rw[hx,<- h2])
  | none=>
   have h3:nm≠r:=by rintro rfl;rw[hr']at ho;cases ho
   simp[hown,hx,h3]at ho;simp[hθ,hx]at hnn;exact hrel.tok8 nm _ _ ho hnn
 ·obtain⟨a1,a2⟩:=hold nm g c ho hg;exact h.chg.new nm g c a1 a2
inductive OwnsFr (p:Tag->Bool) (r:Nat):List (Nat×Own)->Prop
 | nil:OwnsFr p r []
 | row {nm:Nat} {e:TypeId} {cells:List AV} {l:List (Nat×Own)} (h:AV.freeAll p cells=true) (t:OwnsFr p r l):OwnsFr p r ((nm,.row e cells)::l)
 | here {o:Own} {l:List (Nat×Own)} (t:OwnsFr p r l):OwnsFr p r ((r,o)::l)
 | arr {nm sz m:Nat} {e:TypeId} {f:Nat->List AV} {l:List (Nat×Own)} (h:∀ j,AV.freeAll p (f j)=true) (t:OwnsFr p r l):OwnsFr p r ((nm,.arr sz e m f)::l)
 | tok {nm sz m:Nat} {e:TypeId} {l:List (Nat×Own)} (t:OwnsFr p r l):OwnsFr p r ((nm,.tok sz e m)::l)
 | obj {nm:Nat} {x:AObj} {l:List (Nat×Own)} (t:OwnsFr p r l) (h:x.Al (fun y=>y.free p=true):=by first|trivial|rfl):OwnsFr p r ((nm,.obj x)::l)
theorem OwnsFr.get{p:Tag->Bool}{r q:Nat}(hp:∀ x:AV,x.free p=true->Fr q x){l:List (Nat×Own)}(h:OwnsFr p r l){nm:Nat}{o:Own}(hn:nm≠r)(ho:Ak l nm=some o):OwnFr q o:=by
 induction h with
 | nil=>cases ho
 | @row k e cells l h _ ih=>
  simp only[Ak]at ho
  cases hb:Nat.beq k nm with
  | true=>rw[hb]at ho;simp only[Ag,Am]at ho;subst ho;exact fun j _=>hp _ (Lp h j)
  | false=>rw[hb]at ho;exact ih ho
 | @here o' l _ ih=>
  simp only[Ak]at ho
  cases hb:Nat.beq r nm with
  | true=>exact(hn (Cb hb).symm).elim
  | false=>rw[hb]at ho;exact ih ho
 | @arr k sz m e f l h _ ih=>
  simp only[Ak]at ho
  cases hb:Nat.beq k nm with
  | true=>rw[hb]at ho;simp only[Ag,Am]at ho;subst ho;exact fun i j _ _=>hp _ (Lp (h i) j)
  | false=>rw[hb]at ho;exact ih ho
 | @tok k sz m e l _ ih=>
  simp only[Ak]at ho
  cases hb:Nat.beq k nm with
  | true=>rw[hb]at ho;simp only[Ag,Am]at ho;subst ho;trivial
  | false=>rw[hb]at ho;exact ih ho
 | @obj k x l _ h ih=>
  simp only[Ak]at ho
  cases hb:Nat.beq k nm with
  | true=>rw[hb]at ho;simp only[Ag,Am]at ho;subst ho;exact h.imp fun y hy=>hp y hy
  | false=>rw[hb]at ho;exact ih ho
theorem OwnsFr.sto{p:Tag->Bool}{r q:Nat}(hp:∀ x:AV,x.free p=true->Fr q x){st:St}(h:OwnsFr p r st.own){nm:Nat}{o:Own}(hn:nm≠r)(ho:st.sto.own nm=some o):OwnFr q o:=by
 by_cases hlt:nm<Bq
 ·exact h.get hp hn ((Bd hlt).symm.trans ho)
 ·obtain⟨sz,e,m,rfl⟩:=U7 hlt ho
  trivial
theorem tmps_fr{p:Tag->Bool}{q:Nat}(hp:∀ x:AV,x.free p=true->Fr q x){st:St}(h:st.tmps.all (fun x=>x.2.free p)=true)(t:Nat):Fr q (st.sto.tmp t):=by
 show Fr q (match Ak st.tmps t with|some x=>x|none=>.any)
 cases hx:Ak st.tmps t with
 | none=>exact hp _ rfl
 | some x=>exact hp _ (zzL29.1 h _ (look_mem' hx))
def remA{α:Type}(l:List (Nat×α))(k:Nat):List (Nat×α):=l.filter fun p=>!Nat.beq p.1 k
theorem look_remA{α:Type}(l:List (Nat×α))(k n:Nat):Ak (remA l k) n=if k=n then none else Ak l n:=by
 induction l with
 | nil=>simp[remA,Ak]
 | cons p l ih=>
  obtain⟨m,x⟩:=p
  have ih':Ak (List.filter (fun p=>!Nat.beq p.1 k) l) n=if k=n then none else Ak l n:=ih
  simp only[remA,List.filter_cons,Ak]
  cases hb:Nat.beq m k with
  | true=>
   have:=Cb hb;subst this;simp only[Dd,zzL103,G4,ih']
   by_cases h:m=n
   ·simp[h]
   ·have:Nat.beq m n=false:=by cases hb:Nat.beq m n with|false=>rfl|true=>exact absurd (Cb hb) h
    simp[h,this]
  | false=>
   simp only[Lh,L8,Ak,ih']
   cases hb':Nat.beq m n with
   | true=>
    have:=Cb hb';subst this
    have:k≠m:=by rintro rfl;simp at hb
    simp[this]
   | false=>simp
theorem rep_out{I:Nat->Nat->Prop}{own own':Nat->Option Own}{θ θ':Nat->Option (Nat×Nat)}{w:World}{v:Value}{sz n b i p q m:Nat}{e:TypeId}{f:Nat->List AV}(hv:Rep I own θ w v (.slice sz n f (.fam b i)))(hb:Qd b i=p)(hp:own p=some (.tok sz e m))
  (hq:own' q=some (.tok sz e m)) (hθ:θ' q=θ p):Rep I own' θ' w v (.slice sz n f (.own q)):=by
 cases hv with
 | val v x h=>obtain⟨h,_⟩:=h.slice_inv;cases h
 | fam _ _ _ e' m a n' cap f hi' ho' hm hv' h'=>
  rw[hb]at ho' hv';rw[hp]at ho';simp only[Am,Own.tok.injEq]at ho';obtain⟨_,rfl,rfl⟩:=ho';exact .own q sz e _ _ _ _ _ hq hm (fun hh=>by rw[hθ];exact hv' hh) h'
theorem rep_stay{I:Nat->Nat->Prop}{own own':Nat->Option Own}{θ θ':Nat->Option (Nat×Nat)}{w:World}{v:Value}{sz n b i p:Nat}{f:Nat->List AV}(hv:Rep I own θ w v (.slice sz n f (.fam b i)))(hb:Qd b i=p)(ho:i<Bq->own' p=own p)(hθ:i<Bq->θ' p=θ p):Rep I own' θ' w v (.slice sz n f (.fam b i)):=by
 cases hv with
 | val v x h=>obtain⟨h,_⟩:=h.slice_inv;cases h
 | fam _ _ _ e' m a n' cap f hi' ho' hm hv' h'=>
  rw[hb]at ho' hv';exact .fam b i sz e' m _ _ _ _ hi' (by rw[hb,ho hi'];exact ho') hm (fun hh=>by rw[hb,hθ hi'];exact hv' hh) h'
theorem rep_back{I:Nat->Nat->Prop}{own own':Nat->Option Own}{θ θ':Nat->Option (Nat×Nat)}{w:World}{v:Value}{sz n b i p q m:Nat}{e:TypeId}{f:Nat->List AV}(hv:Rep I own θ w v (.slice sz n f (.own p)))(hb:Qd b i=q)(hi:i<Bq)(hp:own p=some (.tok sz e m))
  (hq:own' q=some (.tok sz e m)) (hθ:θ' q=θ p):Rep I own' θ' w v (.slice sz n f (.fam b i)):=by
 cases hv with
 | val v x h=>obtain⟨h,_⟩:=h.slice_inv;cases h
 | own _ _ e' m' a n' cap f ho' hm' hv' h'=>
  rw[hp]at ho';simp only[Am,Own.tok.injEq]at ho';obtain⟨_,rfl,rfl⟩:=ho';exact .fam b i sz e m _ _ _ _ hi (by rw[hb];exact hq) hm' (fun hh=>by rw[hb,hθ];exact hv' hh) h'
theorem rep_new{I:Nat->Nat->Prop}{own own':Nat->Option Own}{θ θ':Nat->Option (Nat×Nat)}{w:World}{v:Value}{sz n b i q:Nat}{e:TypeId}{f:Nat->List AV}(hv:Rep I own θ w v (.slice sz n f .exact))(hb:Qd b i=q)(hi:i<Bq)(hq:own' q=some (.tok sz e n))(hθ:θ' q=none) :
  Rep I own' θ' w v (.slice sz n f (.fam b i)):=by
 cases hv with
 | val v x h=>obtain⟨h,_⟩:=h.slice_inv;cases h
 | exact a n' s' f h'=>exact .fam b i sz e _ _ _ _ _ hi (by rw[hb];exact hq) (zzL9 _) (fun _=>by rw[hb,hθ]) h'
section
variable {α:Type} {st:St} {r b k n sz:Nat} {e1:TypeId}
theorem row_lt{I:Nat->Nat->Prop}{own:Nat->Option Own}{θ:Nat->Option (Nat×Nat)}{w:World}(h:Ky I own θ w){s1:Nat}{F:Nat->List AV}(hr:own r=some (.arr s1 e1 n F)){i:Nat}(hi:i<n):i<Bq:=by
 have hm:maxLen<Bq:=by decide
 obtain⟨h1,h2⟩:=h.arr r _ _ _ _ hr
 cases hx:θ r with
 | none=>have:=h1 hx;omega
 | some y=>obtain⟨_,_,h3,h4,_⟩:=h2 y.1 y.2 hx;omega
theorem le_take(enc:α->List AV)(d:α)(L:List (List α))(i:Nat)(e:TypeId)(hr:Ak st.own r=some (.arr 1 e1 n (M1 sz enc d L (Tag.fam b))))(hb:Ak st.fam b=some ⟨sz,e,Mh L⟩)(hk:Ak st.own k=none)(hn:n=L.length)(hi:i<L.length)
  (ht:st.tmps.all (fun x=>x.2.free (noFam b))=true) (ho:OwnsFr (noFam b) r st.own) (hlr:Nat.blt r Bq=true:=by rfl) (hlk:Nat.blt k Bq=true:=by rfl) :
  Le Γ st ⟨st.tmps,E1 (E1 st.own r (.arr 1 e1 n (M1 sz enc d L (H0 b i k)))) k (.tok sz e (L.getD i []).length),E1 st.fam b ⟨sz,e,X2 L i⟩⟩:=by
 intro I θ a w h
 have hlr:r<Bq:=by simpa [Iu] using hlr
 have hlk:k<Bq:=by simpa [Iu] using hlk
 have hr':st.sto.own r=some (.arr 1 e1 n (M1 sz enc d L (Tag.fam b))):=(Bd hlr).trans hr;have hk':st.sto.own k=none:=(Bd hlk).trans hk;have hib:i<Bq:=row_lt h.chg.rel hr' (by omega)
 have hp:st.sto.own (Qd b i)=some (.tok sz e (L.getD i []).length):=by
  show Dt _ _ _=_
  rw[famOwn_big hib,hb];simp[Mh,hi]
 have hkb:k≠Qd b i:=fun he=>by rw[he]at hlk;exact Nu b i hlk
 have hrb:r≠Qd b i:=fun he=>by rw[he]at hlr;exact Nu b i hlr
 have hown:(⟨st.tmps,E1 (E1 st.own r (.arr 1 e1 n (M1 sz enc d L (H0 b i k)))) k (.tok sz e (L.getD i []).length),E1 st.fam b ⟨sz,e,X2 L i⟩⟩:St).sto.own =
   fun x=>if x=k then some (.tok sz e (L.getD i []).length) else if x=Qd b i then none else if x=r then some (.arr 1 e1 n (M1 sz enc d L (H0 b i k))) else st.sto.own x:=by
  funext x
  show Dt (E1 (E1 st.own r _) k _) (E1 st.fam b _) x=if x=k then _ else if x=Qd b i then none else if x=r then _ else Dt st.own st.fam x
  by_cases hx:x<Bq
  ·have h1:x≠Qd b i:=fun he=>by rw[he]at hx;exact Nu b i hx
   rw[Bd hx,Bd hx,Jk,Jk];simp only[Qb (a:=k),Qb (a:=r),h1,G4]
  ·have h1:x≠k:=by rintro rfl;exact hx hlk
   have h2:x≠r:=by rintro rfl;exact hx hlr
   rw[Ec hx,Ec hx,Jk,if_neg h1,if_neg h2]
   by_cases hd:b=x / Bq-1
   ·have hxe:=big_of hx;rw[<- hd]at hxe
    by_cases hm:x % Bq=i
    ·rw[hm]at hxe;rw[if_pos hd,if_pos hxe,hm];simp[X2]
    ·have h3:x≠Qd b i:=fun he=>hm (by rw[he,S0 hib]);rw[if_pos hd,if_neg h3,<- hd,hb];simp[X2,hm]
   ·have h3:x≠Qd b i:=fun he=>hd (by rw[he,U2 hib]);rw[if_neg hd,if_neg h3]
 let θ':Nat->Option (Nat×Nat):=fun x=>if x=k then θ (Qd b i) else if x=Qd b i then none else θ x
 refine⟨I,θ',?_⟩;have hrr:=rel_rename (θ':=θ') h hp hk' hr' (by cases hx:Γ.own0 (Qd b i) with|none=>rfl|some o=>exact(Nu b i (Γ.lt0 _ (by rw[hx];simp))).elim)
  (fun t=>tmps_fr (fun x hx=>fr_fam hib hx) ht t) (fun nm o hne ho'=>ho.sto (fun x hx=>fr_fam hib hx) hne ho') hown rfl (fun j _=>rfl) (fun j c v hj hc hv=>?_)
 ·exact hrr
 ·obtain rfl:c=0:=by omega
  show Rep I _ θ' w v (.slice sz _ _ (H0 b i k j))
  replace hv:Rep I st.sto.own θ w v (.slice sz (L.getD j []).length (fun i_=>enc ((L.getD j []).getD i_ d)) (.fam b j)):=hv
  cases hji:Nat.beq j i with
  | true=>
   have:=Cb hji;subst this;rw[show H0 b j k j = .own k by simp[H0]];exact rep_out hv rfl hp ((congrFun hown k).trans (if_pos rfl)) (if_pos rfl)
  | false=>
   have hne:j≠i:=by rintro rfl;simp at hji
   rw[show H0 b i k j = .fam b j by simp[H0,hji]];have h3:j<Bq->Qd b j≠Qd b i:=fun hi' he=>hne (by rw[<- S0 (b:=b) hi',he,S0 hib])
   have h4:Qd b j≠k:=fun he=>by rw[<- he]at hlk;exact Nu b j hlk
   have h5:Qd b j≠r:=fun he=>by rw[<- he]at hlr;exact Nu b j hlr
   exact rep_stay hv rfl (fun hi'=>(congrFun hown _).trans ((if_neg h4).trans ((if_neg (h3 hi')).trans (if_neg h5)))) (fun hi'=>(if_neg h4).trans (if_neg (h3 hi')))
theorem le_put(enc:α->List AV)(d:α)(L:List (List α))(i:Nat)(x:List α)(e:TypeId){F:Nat->List AV}{m:Nat}(hr:Ak st.own r=some (.arr 1 e1 n F))(hF:∀ j,j<n->F j=M1 sz enc d (L.set i x) (H0 b i k) j)(hb:Ak st.fam b=some ⟨sz,e,X2 L i⟩)(hk:Ak st.own k=some (.tok sz e m))(hm:m=x.length)(hn:n=L.length)(hi:i<L.length)
  (ht:st.tmps.all (fun x=>x.2.free (noOwn k))=true) (ho:OwnsFr (noOwn k) r st.own) (h0:Γ.own0 k=none) (hlr:Nat.blt r Bq=true:=by rfl) (hlk:Nat.blt k Bq=true:=by rfl) :
  Le Γ st ⟨st.tmps,remA (E1 st.own r (.arr 1 e1 n (M1 sz enc d (L.set i x) (Tag.fam b)))) k,E1 st.fam b ⟨sz,e,Mh (L.set i x)⟩⟩:=by
 intro I θ a w h
 have hlr:r<Bq:=by simpa [Iu] using hlr
 have hlk:k<Bq:=by simpa [Iu] using hlk
 have hr':st.sto.own r=some (.arr 1 e1 n F):=(Bd hlr).trans hr;have hk':st.sto.own k=some (.tok sz e m):=(Bd hlk).trans hk;have hib:i<Bq:=row_lt h.chg.rel hr' (by omega)
 have hp:st.sto.own (Qd b i)=none:=by
  show Dt _ _ _=_
  rw[famOwn_big hib,hb];simp[X2]
 have hgi:(L.set i x).getD i []=x:=by simp[List.getD,hi]
 have hgj:∀ j,j≠i->(L.set i x).getD j []=L.getD j []:=fun j hj=>by simp[List.getD,Ne.symm hj]
 have hkr:k≠r:=by rintro rfl;rw[hk]at hr;cases hr
 have hkb:k≠Qd b i:=fun he=>by rw[he]at hlk;exact Nu b i hlk
 have hown:(⟨st.tmps,remA (E1 st.own r (.arr 1 e1 n (M1 sz enc d (L.set i x) (Tag.fam b)))) k,E1 st.fam b ⟨sz,e,Mh (L.set i x)⟩⟩:St).sto.own =
   fun y=>if y=Qd b i then some (.tok sz e m) else if y=k then none else if y=r then some (.arr 1 e1 n (M1 sz enc d (L.set i x) (Tag.fam b))) else st.sto.own y:=by
  funext y
  show Dt (remA (E1 st.own r _) k) (E1 st.fam b _) y=if y=Qd b i then _ else if y=k then none else if y=r then _ else Dt st.own st.fam y
  by_cases hx:y<Bq
  ·have h1:y≠Qd b i:=fun he=>by rw[he]at hx;exact Nu b i hx
   rw[Bd hx,Bd hx,look_remA,Jk];simp only[Qb (a:=k),Qb (a:=r),h1,G4]
  ·have h1:y≠k:=by rintro rfl;exact hx hlk
   have h2:y≠r:=by rintro rfl;exact hx hlr
   rw[Ec hx,Ec hx,Jk,if_neg h1,if_neg h2]
   by_cases hd:b=y / Bq-1
   ·have hxe:=big_of hx;rw[<- hd]at hxe
    by_cases hm':y % Bq=i
    ·rw[hm']at hxe;rw[if_pos hd,if_pos hxe,hm',An]
     show(Mh (L.set i x) i).map _=_
     simp only[Mh,Hb,hi,L8,hgi,hm,zzL97]
    ·have h3:y≠Qd b i:=fun he=>hm' (by rw[he,S0 hib]);rw[if_pos hd,if_neg h3,<- hd,hb];simp only[An,X2,hm',G4,Mh,Hb,hgj _ hm']
   ·have h3:y≠Qd b i:=fun he=>hd (by rw[he,U2 hib]);rw[if_neg hd,if_neg h3]
 let θ':Nat->Option (Nat×Nat):=fun y=>if y=Qd b i then θ k else if y=k then none else θ y
 refine⟨I,θ',?_⟩;have hrr:=rel_rename (θ':=θ') h hk' hp hr' h0 (fun t=>tmps_fr (fun x hx=>fr_own hlk hx) ht t) (fun nm o hne ho'=>ho.sto (fun x hx=>fr_own hlk hx) hne ho') hown rfl
  (fun j hj=>by rw[hF j hj];rfl) (fun j c v hj hc hv=>?_)
 ·exact hrr
 ·obtain rfl:c=0:=by omega
  rw[hF j hj]at hv
  show Rep I _ θ' w v (.slice sz _ _ (.fam b j))
  replace hv:Rep I st.sto.own θ w v (.slice sz ((L.set i x).getD j []).length (fun i_=>enc (((L.set i x).getD j []).getD i_ d)) (H0 b i k j)):=hv
  cases hji:Nat.beq j i with
  | true=>
   have:=Cb hji;subst this;rw[show H0 b j k j = .own k by simp[H0]]at hv;exact rep_back hv rfl hib hk' ((congrFun hown _).trans (if_pos rfl)) (if_pos rfl)
  | false=>
   have hne:j≠i:=by rintro rfl;simp at hji
   rw[show H0 b i k j = .fam b j by simp[H0,hji]]at hv;have h3:j<Bq->Qd b j≠Qd b i:=fun hi' he=>hne (by rw[<- S0 (b:=b) hi',he,S0 hib])
   have h4:Qd b j≠k:=fun he=>by rw[<- he]at hlk;exact Nu b j hlk
   have h5:Qd b j≠r:=fun he=>by rw[<- he]at hlr;exact Nu b j hlr
   exact rep_stay hv rfl (fun hi'=>(congrFun hown _).trans ((if_neg (h3 hi')).trans ((if_neg h4).trans (if_neg h5)))) (fun hi'=>(if_neg (h3 hi')).trans (if_neg h4))
theorem le_birth(enc:α->List AV)(d:α)(L:List (List α))(e:TypeId)(hr:Ak st.own r=some (.arr 1 e1 n (M1 sz enc d L (fun _=>.exact))))(hb:Ak st.fam b=none)(hn:n=L.length)(h8:e=tokU8->∀ j,(L.getD j []).length=0)(hlr:Nat.blt r Bq=true:=by rfl) :
  Le Γ st ⟨st.tmps,E1 st.own r (.arr 1 e1 n (M1 sz enc d L (Tag.fam b))),E1 st.fam b ⟨sz,e,Mh L⟩⟩:=by
 intro I θ a w h
 have hlr:r<Bq:=by simpa [Iu] using hlr
 have hr':st.sto.own r=some (.arr 1 e1 n (M1 sz enc d L (fun _=>.exact))):=(Bd hlr).trans hr
 let S:Nat->Option (Nat×TypeId×Nat):=fun x=>if x<Bq then none else if b=x / Bq-1 then(Mh L (x % Bq)).map fun m=>(sz,e,m) else none
 have hown:(⟨st.tmps,E1 st.own r (.arr 1 e1 n (M1 sz enc d L (Tag.fam b))),E1 st.fam b ⟨sz,e,Mh L⟩⟩:St).sto.own =
   fun x=>match S x with|some y=>some (.tok y.1 y.2.1 y.2.2)|none=>if x=r then some (.arr 1 e1 n (M1 sz enc d L (Tag.fam b))) else st.sto.own x:=by
  funext x
  show Dt (E1 st.own r _) (E1 st.fam b _) x=match S x with|some y=>_|none=>if x=r then _ else Dt st.own st.fam x
  by_cases hx:x<Bq
  ·have:S x=none:=by simp[S,hx]
   rw[Bd hx,Bd hx,Jk,this];simp only[Qb (a:=r)]
  ·have h2:x≠r:=by rintro rfl;exact hx hlr
   rw[Ec hx,Ec hx,Jk]
   by_cases hd:b=x / Bq-1
   ·have:S x=(Mh L (x % Bq)).map fun m=>(sz,e,m):=by simp only[S,hx,G4,if_pos hd]
    rw[if_pos hd,this,if_neg h2,<- hd,hb];simp only[An]
    cases Mh L (x % Bq)<;>rfl
   ·have:S x=none:=by simp only[S,hx,G4,if_neg hd]
    rw[if_neg hd,this,if_neg h2]
 have hS:∀ x y,S x=some y->st.sto.own x=none:=fun x y hx=>by
  by_cases h1:x<Bq
  ·simp[S,h1]at hx
  ·by_cases hd:b=x / Bq-1
   ·show Dt _ _ x=none
    rw[Ec h1,<- hd,hb];rfl
   ·simp only[S,h1,G4,if_neg hd]at hx;cases hx
 refine⟨I,_,rel_births h hr' hS (fun x s m hx=>?_) hown rfl (fun j _=>rfl) (fun j c v hj hc hv=>?_)⟩
 ·by_cases h1:x<Bq
  ·simp[S,h1]at hx
  ·by_cases hd:b=x / Bq-1
   ·simp only[S,h1,G4,if_pos hd]at hx;obtain⟨m',hm',he⟩:=zzL89.1 hx;simp only[It]at he;obtain⟨_,he,rfl⟩:=he;unfold Mh at hm'
    split at hm'
    ·simp only[Am]at hm';rw[<- hm'];exact h8 he _
    ·cases hm'
   ·simp only[S,h1,G4,if_neg hd]at hx;cases hx
 ·obtain rfl:c=0:=by omega
  have hjb:j<Bq:=row_lt h.chg.rel hr' hj;replace hv:Rep I st.sto.own θ w v (.slice sz (L.getD j []).length (fun i_=>enc ((L.getD j []).getD i_ d)) .exact):=hv
  show Rep I _ _ w v (.slice sz (L.getD j []).length (fun i_=>enc ((L.getD j []).getD i_ d)) (.fam b j))
  have hSj:S (Qd b j)=some (sz,e,(L.getD j []).length):=by
   simp only[S,Nu b j,G4,U2 hjb,L8,S0 hjb,Mh];rw[if_pos (by omega)];rfl
  exact rep_new hv rfl hjb ((congrFun hown _).trans (by rw[hSj])) (by rw[hSj])
end
end
theorem av_famtag{α:Type}{sz b i k:Nat}{e:α->List AV}{d:α}{l:List α}:AVle (AV.list sz e d l (H0 b i k i)) (AV.list sz e d l (.own k)):=by
 have:H0 b i k i = .own k:=by simp[H0]
 rw[this];exact AVle.refl _
theorem putF_fam{α:Type}{sz b i k k0:Nat}{e:α->List AV}{d:α}{L:List (List α)}{x:List α}{n:Nat}{keep:Nat->Bool}(hi:i<L.length)(hk:keep k=true)(hb:keep b=true) :
  ∀ j,j<n->AV.eraseAll keep (G5 (M1 sz e d L (H0 b i k0)) i 0 [AV.list sz e d x (.own k)] j)=M1 sz e d (L.set i x) (H0 b i k) j:=fun j _=>by
 unfold G5
 cases hji:Nat.beq j i with
 | true=>
  have:=Cb hji;subst this;simp[M1,AV.eraseAll,AV.erase,AV.list,H0,hk,List.getD,hi]
 | false=>
  have hne:i≠j:=by rintro rfl;simp at hji
  simp[M1,AV.eraseAll,AV.erase,AV.list,H0,hji,hb,List.getD,hne]
theorem fam_zero{α:Type}{sz n:Nat}{e:α->List AV}{d:α}{keep:Nat->Bool}:∀ k,k<n->AVleL (AV.eraseAll keep [.slice 0 0 (fun _=>[]) .exact]) (M1 sz e d (List.replicate n []) (fun _=>.exact) k):=fun k hk=>by
 have:(List.replicate n ([]:List α)).getD k []=[]:=by simp[List.getD,hk]
 unfold M1;rw[this];exact .cons Hg .nil
def subN{α:Type}(d:α)(l:List α)(lo k:Nat):List α:=(List.range k).map fun i=>l.getD (lo+i) d
mutual
def AV.freeN(r:Nat):AV->Bool
 | .vsl nm _=>!Nat.beq nm r
 | .vpt nm _ _ _=>!Nat.beq nm r
 | .vsub nm _ _ _=>!Nat.beq nm r
 | .clo _ xs ys=>AV.freeNAll r xs&&AV.freeNAll r ys
 | .agg cs=>AV.freeNAll r cs
 | .rpo cs=>AV.freeNAll r cs
 | .tuple cs=>AV.freeNAll r cs
 | .cond _ x=>x.freeN r
 | _=>true
def AV.freeNAll(r:Nat):List AV->Bool
 | []=>true
 | x::l=>x.freeN r&&AV.freeNAll r l
end
theorem Jh{r:Nat}{l:List AV}(h:AV.freeNAll r l=true)(j:Nat):(l.getD j .any).freeN r=true:=by
 induction l generalizing j with
 | nil=>simp[AV.freeN]
 | cons x l ih=>
  simp only[AV.freeNAll,A7]at h
  cases j with
  | zero=>simpa using h.1
  | succ j=>simpa using ih h.2 j
theorem rep_freeN{I:Nat->Nat->Prop}{own own':Nat->Option Own}{θ:Nat->Option (Nat×Nat)}{w:World}{v:Value}{x:AV}{r:Nat}(h:Rep I own θ w v x)(hx:x.freeN r=true)(hr:∃ sz e m f,own r=some (.arr sz e m f))
  (ho:∀ nm,nm≠r->own' nm=own nm):Rep I own' θ w v x:=by
 obtain⟨s0,e0,m0,f0,hr⟩:=hr
 have hne:∀{nm o},own nm=some o->(∀ sz e m f,o≠.arr sz e m f)->own' nm=some o:=fun{nm o} hn hh=>by
  rw[ho nm (by rintro rfl;rw[hr]at hn;exact hh _ _ _ _ (OI hn).symm)];exact hn
 have hbq:∀{nm:Nat},(!Nat.beq nm r)=true->nm≠r:=fun h e=>by subst e;simp at h
 induction h with
 | val v x h=>exact .val v x h
 | exact a n sz f h=>exact .exact a n sz f h
 | own nm sz e m a n cap f hn hm hv h=>exact .own nm sz e m a n cap f (hne hn (fun _ _ _ _ h=>by cases h)) hm hv h
 | fam b i sz e m a n cap f hi hn hm hv h=>exact .fam b i sz e m a n cap f hi (hne hn (fun _ _ _ _ h=>by cases h)) hm hv h
 | ptr nm off e cells g c hn hg=>exact .ptr nm off e cells g c (hne hn (fun _ _ _ _ h=>by cases h)) hg
 | vsl nm sz e m f a n cap hn hm hcap hmax hnn hv=>exact .vsl nm sz e m f a n cap ((ho nm (hbq hx)).trans hn) hm hcap hmax hnn hv
 | vpt nm sz e m f n i j ad hn hm hi hv=>exact .vpt nm sz e m f n i j ad ((ho nm (hbq hx)).trans hn) hm hi hv
 | clo f fs cs xs ys hl hl' _ _ ih ih'=>
  simp only[AV.freeN,A7]at hx;exact .clo f fs cs xs ys hl hl' (fun j hj=>ih j hj (Jh hx.1 j)) (fun j hj=>ih' j hj (Jh hx.2 j))
 | optr nm mm x g c hn hg=>exact .optr nm mm x g c (hne hn (fun _ _ _ _ h=>by cases h)) hg
 | omap nm x hn=>exact .omap nm x (hne hn (fun _ _ _ _ h=>by cases h))
 | vsub nm sz e m f n lo hi a cap hn hm hlo hhi hcap hmax hnn hv=>exact .vsub nm sz e m f n lo hi a cap ((ho nm (hbq hx)).trans hn) hm hlo hhi hcap hmax hnn hv
 | cond v c x _ h' ih=>exact .cond v c x (fun hc=>ih hc hx) h'
 | agg vs cs hl h1 _ ih=>exact .agg vs cs hl h1 (fun j hj=>ih j hj (Jh hx j))
 | rpo a cells us hs hI' hc h1 _ ih=>exact .rpo a cells us hs hI' hc h1 (fun j hj=>ih j hj (Jh hx j))
 | tuple vs cs hl _ ih=>exact .tuple vs cs hl (fun j hj=>ih j hj (Jh hx j))
inductive OwnsFrN (r:Nat):List (Nat×Own)->Prop
 | nil:OwnsFrN r []
 | row {nm:Nat} {e:TypeId} {cells:List AV} {l:List (Nat×Own)} (h:AV.freeNAll r cells=true) (t:OwnsFrN r l):OwnsFrN r ((nm,.row e cells)::l)
 | arr {nm sz m:Nat} {e:TypeId} {f:Nat->List AV} {l:List (Nat×Own)} (h:∀ j,AV.freeNAll r (f j)=true) (t:OwnsFrN r l):OwnsFrN r ((nm,.arr sz e m f)::l)
 | tok {nm sz m:Nat} {e:TypeId} {l:List (Nat×Own)} (t:OwnsFrN r l):OwnsFrN r ((nm,.tok sz e m)::l)
 | obj {nm:Nat} {x:AObj} {l:List (Nat×Own)} (t:OwnsFrN r l) (h:x.Al (fun y=>y.freeN r=true):=by first|trivial|rfl):OwnsFrN r ((nm,.obj x)::l)
def OwnN(r:Nat):Own->Prop
 | .row _ cells=>AV.freeNAll r cells=true
 | .arr _ _ _ f=>∀ j,AV.freeNAll r (f j)=true
 | .obj x=>x.Al (fun y=>y.freeN r=true)
 | .tok ..=>True
theorem OwnsFrN.get{r:Nat}{l:List (Nat×Own)}(h:OwnsFrN r l){nm:Nat}{o:Own}(ho:Ak l nm=some o):OwnN r o:=by
 induction h with
 | nil=>cases ho
 | @row k e cells l h _ ih=>
  simp only[Ak]at ho
  cases hb:Nat.beq k nm with
  | true=>rw[hb]at ho;simp only[Ag,Am]at ho;subst ho;exact h
  | false=>rw[hb]at ho;exact ih ho
 | @arr k sz m e f l h _ ih=>
  simp only[Ak]at ho
  cases hb:Nat.beq k nm with
  | true=>rw[hb]at ho;simp only[Ag,Am]at ho;subst ho;exact h
  | false=>rw[hb]at ho;exact ih ho
 | @tok k sz m e l _ ih=>
  simp only[Ak]at ho
  cases hb:Nat.beq k nm with
  | true=>rw[hb]at ho;simp only[Ag,Am]at ho;subst ho;trivial
  | false=>rw[hb]at ho;exact ih ho
 | @obj k x l _ h ih=>
  simp only[Ak]at ho
  cases hb:Nat.beq k nm with
  | true=>rw[hb]at ho;simp only[Ag,Am]at ho;subst ho;exact h
  | false=>rw[hb]at ho;exact ih ho
theorem le_trunc{Γ:Iw}{st:St}{t r s n k:Nat}{e:TypeId}{f:Nat->List AV}(hs:st.get t = .vsub r n 0 k)(hr:Ak st.own r=some (.arr s e n f))(hk:k<=n)
  (ht:(st.tmps.all fun x=>Nat.beq x.1 t || x.2.freeN r)=true) (ho:OwnsFrN r st.own) (h0:Γ.own0 r=none) (hlt:Nat.blt r Bq=true:=by rfl) (hB:arrB e=false:=by rfl) :
  Le Γ st ⟨E1 st.tmps t (.vsl r k),E1 st.own r (.arr s e k f),st.fam⟩:=by
 intro I θ a w h
 have hlt:r<Bq:=by simpa [Iu] using hlt
 have hr':st.sto.own r=some (.arr s e n f):=(Bd hlt).trans hr
 have hown:(⟨E1 st.tmps t (.vsl r k),E1 st.own r (.arr s e k f),st.fam⟩:St).sto.own=A0 st.sto.own r (.arr s e k f):=by
  funext x
  show Dt (E1 st.own r _) _ x=_
  rw[Ll hlt];simp only[A0]
  by_cases hx:r=x
  ·subst hx;simp
  ·simp[hx,Ne.symm hx];rfl
 have hsame:∀ nm,nm≠r->A0 st.sto.own r (.arr s e k f) nm=st.sto.own nm:=fun nm hn=>by simp[A0,hn]
 have hT:∀ v x,x.freeN r=true->Rep I st.sto.own θ w v x->Rep I (A0 st.sto.own r (.arr s e k f)) θ w v x:=fun v x hx hv=>rep_freeN hv hx ⟨_,_,_,_,hr'⟩ hsame;have hrel:=h.chg.rel
 have hrows:∀ nm o,st.sto.own nm=some o->OwnN r o:=fun nm o hn=>by
  by_cases hl:nm<Bq
  ·exact ho.get ((Bd hl).symm.trans hn)
  ·obtain⟨_,_,_,rfl⟩:=U7 hl hn;trivial
 have hget:∀ t',(⟨E1 st.tmps t (.vsl r k),E1 st.own r (.arr s e k f),st.fam⟩:St).sto.tmp t'=if t=t' then .vsl r k else st.get t':=fun t'=>by
  show(match Ak (E1 st.tmps t _) t' with|some x=>x|none=>.any)=_
  rw[Jk]
  by_cases hk:t=t'
  ·simp[hk]
  ·simp[hk];rfl
 refine⟨I,θ,h.size,h.defers,fun t'=>?_,?_⟩
 ·rw[hown,hget]
  split
  ·rename_i htt
   subst htt;have hv:=h.slots t
   have hv':Rep I st.sto.own θ w (a.tmps.getD t undef) (.vsub r n 0 k):=by rw[<- hs];exact hv
   obtain⟨sz,e',m,f',ad,cap,he,ho',hm,_,hhi,hcap,hmax,hn,hvv⟩:=hv'.vsub_inv;rw[hr']at ho';simp only[Am,Own.arr.injEq]at ho';obtain⟨rfl,rfl,rfl,rfl⟩:=ho';rw[he];refine .vsl r s e k f ad _ cap (by simp[A0]) (zzL9 _) hcap hmax hn (fun _=>?_);have hz:=(hvv rfl).2 rfl
   cases hθ:θ r with
   | none=>rw[hθ]at hz;have:=(hrel.arr r _ _ _ _ hr').1 hθ;simp only at hz ⊢;omega
   | some gc=>rw[hθ]at hz;exact⟨hz.1,hz.2.resolve_right (by rw[hB];decide)⟩
  ·rename_i htt
   have hx:(st.get t').freeN r=true:=by
    unfold St.get
    cases hl:Ak st.tmps t' with
    | none=>rfl
    | some x=>
     have:=zzL29.1 ht _ (look_mem' hl);simp only[Y7]at this;rcases this with h'|h'
     ·exact(htt (Cb h').symm).elim
     ·exact h'
   exact hT _ _ hx (h.slots t')
 ·rw[hown];refine{ h.chg with le:=fun nm o hno=>?_,rel:=⟨fun nm e0 cells hn=>?_,fun nm s' e' m' hn g c hg=>?_,fun nm nm' g c c' hn hn' hg hg'=>?_,fun nm s' e' m' f' hn=>?_,fun nm x hn=>?_,fun nm s' m' hn hnn=>?_⟩,new:=fun nm g c hn hg=>?_ }
  ·obtain⟨o',ho',hl⟩:=h.chg.le nm o hno;exact⟨o',(hsame nm (by rintro rfl;rw[h0]at hno;cases hno)).trans ho',hl⟩
  ·have hne:nm≠r:=by rintro rfl;simp[A0]at hn
   rw[hsame nm hne]at hn;obtain⟨g,c,vs,r1,r2,r3,r4,r5,r6⟩:=hrel.row nm e0 cells hn;exact⟨g,c,vs,r1,r2,r3,r4,fun j hj=>hT _ _ (Jh (hrows nm _ hn) j) (r5 j hj),r6⟩
  ·have hne:nm≠r:=by rintro rfl;simp[A0]at hn
   rw[hsame nm hne]at hn;exact hrel.tok nm _ _ _ hn g c hg
  ·have hx:∀ nm,A0 st.sto.own r (.arr s e k f) nm≠none->st.sto.own nm≠none:=fun nm hn=>by
    by_cases hne:nm=r
    ·subst hne;rw[hr'];simp
    ·rwa[hsame nm hne]at hn
   exact hrel.inj nm nm' g c c' (hx nm hn) (hx nm' hn') hg hg'
  ·by_cases hne:nm=r
   ·subst hne;simp only[A0,L8,Am,Own.arr.injEq]at hn;obtain⟨rfl,rfl,rfl,rfl⟩:=hn;obtain⟨q0,q1⟩:=hrel.arr nm _ _ _ _ hr';refine⟨fun hθ=>by have:=q0 hθ;omega,fun g c hg=>?_⟩;obtain⟨cur,p1,p2,p3,p4,p5,p6,p7⟩:=q1 g c hg;exact⟨cur,p1,by omega,p3,p4,fun i hi=>p5 i (by omega),fun i j hi hj=>⟨(p6 i j (by omega) hj).1,hT _ _ (Jh (hrows nm _ hr' i) j) (p6 i j (by omega) hj).2⟩,p7⟩
   ·rw[hsame nm hne]at hn;exact Xr (hrel.arr nm _ _ _ _ hn) rfl (fun _ _=>rfl) (fun i j v _ _ hv=>hT _ _ (Jh (hrows nm _ hn i) j) hv)
  ·have hne:nm≠r:=by rintro rfl;simp[A0]at hn
   rw[hsame nm hne]at hn;exact Lr (hrel.obj nm _ hn) rfl (fun _ _ _=>rfl) (fun _ _ _ _ h=>h) (fun _ hh=>hh.al (P:=fun y=>y.freeN r=true) (hrows nm _ hn) (fun _ _ h=>h) (fun _ _ _=>rfl) fun v y hy hv=>hT v y hy hv) Tj
  ·have hne:nm≠r:=by rintro rfl;simp[A0]at hn
   rw[hsame nm hne]at hn;exact hrel.tok8 nm _ _ hn hnn
  ·have hx:st.sto.own nm≠none:=by
    by_cases hne:nm=r
    ·subst hne;rw[hr'];simp
    ·rwa[hsame nm hne]at hn
   exact h.chg.new nm g c hx hg
theorem take_le{α:Type}{e:α->List AV}{d:α}{l:List α}{k:Nat}:∀ i,i<0+k->AVleL (e (l.getD i d)) (e ((l.take k).getD i d)):=fun i hi=>by
 have:(l.take k).getD i d=l.getD i d:=by simp[List.getD,show i<k by omega]
 rw[this];exact .refl _
theorem take_len{α:Type}{l:List α}{k:Nat}(h:0+k<=l.length):0+k=(l.take k).length:=by simp;omega
theorem pw_nil{f g:Nat->List AV}:∀ k,k<0->f k=g k:=fun _ h=>by omega
theorem pw_snoc{n:Nat}{f g:Nat->List AV}(h:∀ k,k<n->f k=g k)(h':f n=g n):∀ k,k<n+1->f k=g k:=fun k hk=>by
 by_cases hkn:k=n
 ·subst hkn;exact h'
 ·exact h k (by omega)
theorem arrE_zero{α:Type}{keep:Nat->Bool}{e:α->List AV}{d:α}{z:List AV}{N sz:Nat}(hz:z.length=sz)(h:z=e d)(hk:AV.eraseAll keep z=z):∀ k,k<N->AVleL (AV.eraseAll keep ((((List.replicate N z).flatten).drop (k*sz)).take sz)) (e ((List.replicate N d).getD k d)):=fun k hk'=>by
 have:(List.replicate N d).getD k d=d:=by simp[List.getD,hk']
 rw[flat_rep z sz hz N k hk',this,hk,h];exact .refl _
theorem lent_load{f:Nat->List AV}{i:Nat}{x:AV}:AVle ((G5 f i 0 [x] i).getD 0 .any) x:=by
 rw[R3]
 simpa using AVle.refl x
theorem L9{keep:Nat->Bool}{f:Nat->List AV}{i k R m:Nat}(hf:∀ j,AV.eraseAll keep (f j)=f j)(hk:keep R=true):∀ j,j<k->AVleL (AV.eraseAll keep (G5 f i 0 [.vsl R m] j)) (G5 f i 0 [.vsl R m] j):=fun j _=>by
 have h:AV.eraseAll keep (G5 f i 0 [.vsl R m] j)=G5 f i 0 [.vsl R m] j:=by
  by_cases hj:j=i
  ·subst hj;rw[R3,Wb,Wb,eraseAll_take,eraseAll_drop,hf];simp[AV.eraseAll,AV.erase,hk]
  ·rw[Ul f _ hj,hf]
 rw[h];exact .refl _
theorem lent_put{α:Type}{enc:α->List AV}{d x:α}{l:List α}{i nm sz n:Nat}{g:Nat->List AV}(hf:∀ a,AV.frwAll nm sz n g (enc a)=enc a)(h1:∀ a,(enc a).length=1)(hx:enc x=[.slice sz n g .none]) :
  ∀ j,j<l.length->AVleL (AV.frwAll nm sz n g (G5 (fun k=>enc (l.getD k d)) i 0 [.vsl nm n] j)) (enc ((l.set i x).getD j d)):=fun j hl=>by
 have h:AV.frwAll nm sz n g (G5 (fun k=>enc (l.getD k d)) i 0 [.vsl nm n] j)=enc ((l.set i x).getD j d):=by
  by_cases hj:j=i
  ·subst hj
   have e1:(l.set j x).getD j d=x:=by simp[List.getD,hl]
   have e2:(enc (l.getD j d)).drop (0+[AV.vsl nm n].length)=[]:=List.drop_eq_nil_of_le (by rw[h1];exact zzL9 _)
   have e3:Wx nm nm=false:=by simp[Wx]
   rw[R3,e1,e2,hx];simp[AV.frwAll,AV.frw,e3]
  ·have e1:(l.set i x).getD j d=l.getD j d:=by simp[List.getD,Ne.symm hj]
   rw[Ul _ _ hj,e1,hf]
 rw[h];exact .refl _
section
variable {α:Type} {g:Bool} {a b:List α}
theorem bif_len:(bif g then a.length else b.length)=(bif g then a else b).length:=by cases g<;>rfl
theorem bif_row{e:α->List AV}{d:α}{k:Nat}:(bif g then e (a.getD k d) else e (b.getD k d))=e ((bif g then a else b).getD k d):=by cases g<;>rfl
theorem bif_was(h:g=true->b.length=a.length):b.length=(bif g then a else b).length:=by
 cases g with
 | false=>rfl
 | true=>exact h rfl
end
abbrev Et{V:Type}(f:V->AV)(l:List (Int×V)):List (Int×AV):=l.map fun p=>(p.1,f p.2)
section
variable {V:Type} {f:V->AV} {l:List (Int×V)} {r:List (Int×AV)} {k:Int}
theorem mhas_mapE(k:Int):∀ l:List (Int×V),Gi (Et f l) k=Gi l k
 | []=>rfl
 | (a,b)::l=>by
  simp only[Et,C7,Gi];rw[<- mhas_mapE k l]
theorem mset_mapE(k:Int)(v:V):∀ l:List (Int×V),Mu (Et f l) k (f v)=Et f (Mu l k v)
 | []=>rfl
 | (a,b)::l=>by
  simp only[Et,C7,Mu]
  cases k==a with
  | true=>rfl
  | false=>
   simp only[Aq,C7];exact Cq _ (mset_mapE k v l)
theorem mget_le{z:V}{zz:AV}(hz:AVle zz (f z))(hr:r=Et f l):AVle (H4 zz r k) (f (H4 z l k)):=by
 subst hr
 induction l with
 | nil=>exact hz
 | cons p l ih=>
  obtain⟨a,b⟩:=p;simp only[Et,C7,H4]
  cases k==a with
  | true=>exact AVle.refl _
  | false=>exact ih
theorem mlook_le{z:V}{zz:AV}(hz:AVle zz (f z))(hr:r=Et f l):AVle (.tuple [H4 zz r k,.bool (Gi r k)]) (.tuple [f (H4 z l k),.bool (Gi l k)]):=by
 have h:=mget_le (k:=k) hz hr;subst hr;rw[mhas_mapE];exact AVle.tuple (.cons h (.cons (AVle.refl _) .nil))
theorem mset_eq{v:V}{x:AV}(hx:x=f v)(hr:r=Et f l):Mu r k x=Et f (Mu l k v):=by
 subst hr hx;exact mset_mapE k v l
theorem bif_mapE{g:Bool}{a b:List (Int×V)}{ra rb:List (Int×AV)}(ha:ra=Et f a)(hb:rb=Et f b):(bif g then ra else rb)=Et f (bif g then a else b):=by
 subst ha hb
 cases g<;>rfl
end
theorem le_obj{Γ:Iw}{st:St}{nm:Nat}{x:AObj}(y:AObj)(hn:Ak st.own nm=some (.obj x))(hxy:∀ I own θ w,ObjAt I own θ w nm x->ObjAt I own θ w nm y)(hlt:Nat.blt nm Bq=true:=by rfl) :
  Le Γ st ⟨st.tmps,E1 st.own nm (.obj y),st.fam⟩:=by
 intro I θ a w h
 have hlt:nm<Bq:=by simpa [Iu] using hlt
 have hn:st.sto.own nm=some (.obj x):=(Bd hlt).trans hn
 have hown:(⟨st.tmps,E1 st.own nm (.obj y),st.fam⟩:St).sto.own=A0 st.sto.own nm (.obj y):=by
  funext k
  show Dt (E1 st.own nm _) _ k=_
  rw[Ll hlt];simp only[A0]
  by_cases hk:nm=k
  ·subst hk;simp
  ·simp[hk,Ne.symm hk];rfl
 have hle:∀ k o,st.sto.own k=some o->∃ o',A0 st.sto.own nm (.obj y) k=some o'/\OwnLe o (θ k) o' (θ k):=fun k o ho=>by
  by_cases hk:k=nm
  ·subst hk;rw[hn]at ho;obtain rfl:=OI ho;exact⟨.obj y,by simp[A0],rfl⟩
  ·exact⟨o,by simp[A0,hk,ho],OwnLe.refl _ _⟩
 have hrel:=h.chg.rel;have hmono:∀ v z,Rep I st.sto.own θ w v z->Rep I (A0 st.sto.own nm (.obj y)) θ w v z:=fun v z hz=>hz.mono (fun _ _ h=>h) (fun _ _ _=>rfl) hle
 have k:Chg st.sto.own θ I w (A0 st.sto.own nm (.obj y)) θ I w:=by
  refine{ imm:=fun _ _ h=>h,cell:=fun _ _ _=>rfl,le:=hle,rel:=?_,valid:=h.chg.valid,os:=rfl,tape:=rfl,output:=rfl,drawn:=fun _=>zzL9 _,grow:=zzL9 _,frame:=fun _ _ _=>rfl,new:=fun k g c ho hg=>?_,immNew:=fun b o h=>.inl h }
  ·refine M0 hrel (·=nm) hmono (fun k hne=>⟨by simp[A0,hne],rfl⟩) (fun k g c hne ho hg=>⟨rfl,fun j h=>h⟩) ?_ ?_ ?_ (fun _ _ h h'=>h.trans h'.symm) (hobj:=?_)
   ·rintro k e' cells rfl ho;simp[A0]at ho
   ·rintro k sz e' m rfl ho;simp[A0]at ho
   ·rintro k k' g c c' rfl hne _ ho' hg hg';exact hne (hrel.inj k' k _ _ _ ho' (by simp[hn]) hg' hg)
   ·rintro k z rfl ho;simp only[A0,L8,Am,Own.obj.injEq]at ho;subst ho;exact Lr (hxy _ _ _ _ (hrel.obj k x hn)) rfl (fun _ _ _=>rfl) (fun _ _ _ _ h=>h) (fun _ hh=>hh.mono hmono) Tj
  ·by_cases hk:k=nm
   ·subst hk;exact .inr ⟨k,c,by simp[hn],hg⟩
   ·exact .inr ⟨k,c,by simpa [A0,hk] using ho,hg⟩
 exact⟨I,θ,h.size,h.defers,fun t'=>by rw[hown];exact(h.slots t').chg k,by rw[hown];exact h.chg.trans k⟩
theorem objAt_nn{I:Nat->Nat->Prop}{own:Nat->Option Own}{θ:Nat->Option (Nat×Nat)}{w:World}{nm:Nat}{nn:Bool}{k:IntKind}{l:List (Int×AV)}(h:ObjAt I own θ w nm (.map nn k l)):ObjAt I own θ w nm (.map false k l):=by
 rcases h with⟨g,c,o,h1,h2,h3,h4⟩|⟨h1,h2⟩
 ·refine .inl ⟨g,c,o,h1,h2,?_,h4⟩
  cases h3 with
  | map es nn k l hs hr=>exact .map es false k l hs hr
 ·cases nn<;>cases l<;>first|exact .inr ⟨h1,trivial⟩|cases h2
theorem Ve{Γ:Iw}{st:St}{r j nm:Nat}{e0:TypeId}{cells:List AV}(km:IntKind)(hr:Ak st.own r=some (.row e0 cells))(hs:cells.getD j .any = .nilm)(hj:j<cells.length)(hn:Ak st.own nm=none)(hlt:Nat.blt nm Bq=true:=by rfl)(hltr:Nat.blt r Bq=true:=by rfl) :
  Le Γ st ⟨st.tmps,E1 (E1 st.own r (.row e0 (cells.set j (.omap nm)))) nm (.obj (.map false km [])),st.fam⟩:=by
 intro I θ a w h
 have hlt:nm<Bq:=by simpa [Iu] using hlt
 have hltr:r<Bq:=by simpa [Iu] using hltr
 have hn:st.sto.own nm=none:=(Bd hlt).trans hn;have hr:st.sto.own r=some (.row e0 cells):=(Bd hltr).trans hr
 have hne:r≠nm:=by rintro rfl;rw[hr]at hn;cases hn
 let own':Nat->Option Own:=fun k=>if k=nm then some (.obj (.map false km [])) else if k=r then some (.row e0 (cells.set j (.omap nm))) else st.sto.own k
 have hown:(⟨st.tmps,E1 (E1 st.own r (.row e0 (cells.set j (.omap nm)))) nm (.obj (.map false km [])),st.fam⟩:St).sto.own=own':=by
  funext k
  show Dt (E1 (E1 st.own r _) nm _) _ k=_
  rw[Ll hlt,Ll hltr];simp only[own',Qb (a:=nm),Qb (a:=r)]
  rfl
 have hle:∀ nm' o,st.sto.own nm'=some o->∃ o',own' nm'=some o'/\OwnLe o (θ nm') o' (thUp θ nm none nm'):=fun nm' o ho=>by
  have h1:nm'≠nm:=by rintro rfl;have:st.sto.own nm'=some o:=ho;rw[hn]at this;cases this
  by_cases h2:nm'=r
  ·subst h2;have:st.sto.own nm'=some o:=ho;rw[hr]at this;obtain rfl:=OI this;exact⟨.row e0 (cells.set j (.omap nm)),by simp[own',h1],by simp[thUp,h1,OwnLe]⟩
  ·exact⟨o,by simp[own',h1,h2,ho],by simp[thUp,h1,OwnLe.refl]⟩
 have hmono:∀ v x,Rep I st.sto.own θ w v x->Rep I own' (thUp θ nm none) w v x:=fun v x h=>h.mono (fun _ _ h=>h) (fun _ _ _=>rfl) hle;have hrel:=h.chg.rel
 have k:Chg st.sto.own θ I w own' (thUp θ nm none) I w:=by
  refine{ imm:=fun _ _ h=>h,cell:=fun _ _ _=>rfl,le:=hle,rel:=?_,valid:=h.chg.valid,os:=rfl,tape:=rfl,output:=rfl,drawn:=fun _=>zzL9 _,grow:=zzL9 _,frame:=fun _ _ _=>rfl,new:=fun nm' g' c ho hg=>?_,immNew:=fun _ _ h=>.inl h }
  ·refine⟨fun nm' e2 cells' ho=>?_,fun nm' s' e' m ho g' c hg=>?_,fun n1 n2 g' c c' ho ho' hg hg'=>?_,fun nm' s' e' m f' ho=>?_,fun nm' x' ho=>?_,fun nm' s' m ho hnn=>?_⟩
   ·by_cases h1:nm'=nm
    ·simp[own',h1]at ho
    ·by_cases h2:nm'=r
     ·subst h2;simp only[own',h1,G4,L8,Am,Own.row.injEq]at ho;obtain⟨rfl,rfl⟩:=ho;obtain⟨g',c,vs,r1,r2,r3,r4,r5,r6⟩:=hrel.row nm' _ cells hr;refine⟨g',c,vs,by simpa [thUp,h1] using r1,r2,by simpa using r3,fun j' hj'=>r4 j' (by simpa using hj'),fun j' hj'=>?_,r6⟩
      have hj'':j'<cells.length:=by simpa using hj'
      by_cases hjj:j'=j
      ·subst hjj
       have e1:(cells.set j' (.omap nm)).getD j' .any = .omap nm:=by simp[List.getD,hj]
       rw[e1];have hr':=r5 j' hj'';rw[hs]at hr';rw[hr'.nilm_inv];have:=Rep.omap (I:=I) (own:=own') (θ:=thUp θ nm none) (w:=w) nm (.map false km []) (by simp[own'])
       simpa [thUp] using this
      ·have e1:(cells.set j (.omap nm)).getD j' .any=cells.getD j' .any:=by simp[List.getD,Ne.symm hjj]
       rw[e1];exact hmono _ _ (r5 j' hj'')
     ·simp only[own',h1,h2,G4]at ho;obtain⟨g',c,vs,r1,r2,r3,r4,r5,r6⟩:=hrel.row nm' _ cells' ho;exact⟨g',c,vs,by simpa [thUp,h1] using r1,r2,r3,r4,fun j' hj'=>hmono _ _ (r5 j' hj'),r6⟩
   ·by_cases h1:nm'=nm
    ·simp[thUp,h1]at hg
    ·have h2:nm'≠r:=by rintro rfl;simp[own',h1]at ho
     simp only[own',h1,h2,G4]at ho;simp only[thUp,h1,G4]at hg;exact hrel.tok nm' _ _ _ ho g' c hg
   ·have hx:∀ n1 g' c,own' n1≠none->thUp θ nm none n1=some (g',c)->st.sto.own n1≠none/\θ n1=some (g',c):=fun n1 g' c ho hg=>by
     by_cases h1:n1=nm
     ·simp[thUp,h1]at hg
     ·simp only[thUp,h1,G4]at hg;refine⟨?_,hg⟩
      by_cases h2:n1=r
      ·subst h2;have:st.sto.own n1=some (.row e0 cells):=hr;simp[this]
      ·simpa [own',h1,h2] using ho
    obtain⟨a1,a2⟩:=hx n1 g' c ho hg;obtain⟨b1,b2⟩:=hx n2 g' c' ho' hg';exact hrel.inj n1 n2 g' c c' a1 b1 a2 b2
   ·by_cases h1:nm'=nm
    ·simp[own',h1]at ho
    ·have h2:nm'≠r:=by rintro rfl;simp[own',h1]at ho
     simp only[own',h1,h2,G4]at ho;exact O4 (hrel.arr nm' _ _ _ _ ho) (by simp[thUp,h1]) (fun _ _ _=>rfl) (fun _ _ _ _ h=>h) (fun _ _=>rfl) (fun v i j _ _ hv=>hmono _ _ hv)
   ·by_cases h1:nm'=nm
    ·simp only[own',h1,L8,Am,Own.obj.injEq]at ho;subst ho;subst h1;exact .inr ⟨by simp[thUp],trivial⟩
    ·have h2:nm'≠r:=by rintro rfl;simp[own',h1]at ho
     simp only[own',h1,h2,G4]at ho;exact Lr (hrel.obj nm' _ ho) (by simp[thUp,h1]) (fun _ _ _=>rfl) (fun _ _ _ _ h=>h) (fun _ hh=>hh.mono hmono) Tj
   ·by_cases h1:nm'=nm
    ·simp[own',h1]at ho
    ·have h2:nm'≠r:=by rintro rfl;simp[own',h1]at ho
     simp only[own',h1,h2,G4]at ho;simp only[thUp,h1,G4]at hnn;exact hrel.tok8 nm' _ _ ho hnn
  ·by_cases h1:nm'=nm
   ·simp[thUp,h1]at hg
   ·simp only[thUp,h1,G4]at hg;refine .inr ⟨nm',c,?_,hg⟩
    by_cases h2:nm'=r
    ·subst h2;have:st.sto.own nm'=some (.row e0 cells):=hr;simp[this]
    ·simpa [own',h1,h2] using ho
 refine⟨I,thUp θ nm none,h.size,h.defers,fun t'=>?_,?_⟩
 ·rw[hown];exact(h.slots t').chg k
 ·rw[hown];exact h.chg.trans k
section
variable {P:Program} {Γ:Iw} {σ:Sto} {I:Nat->Nat->Prop} {θ:Nat->Option (Nat×Nat)} {a:Act} {w:World} {o:Oper}
end
open Classical in
open Classical in
section
variable {P:Program} {Γ:Iw}
end
section
variable {P:Program} {Γ:Iw}
def UnrollK(P:Program)(Γ:Iw)(body:Code)(K:Exit->St->Prop):Nat->St->Prop
 | 0,_=>False
 | n+1,st=>Zh P Γ body (fun e st'=>(e = .normal/\UnrollK P Γ body K n st')\/(e≠.normal/\K e st')) st
theorem awp_unroll{body:Code}{K:Exit->St->Prop}{st:St}(n:Nat)(h:UnrollK P Γ body K n st):Zh P Γ (.loop body) K st:=by
 intro I θ a w hrel;refine wp_loop_n (fun m a w=>∃ st I θ,UnrollK P Γ body K m st/\Rel Γ st.sto I θ a w) (fun m a w ⟨st,I,θ,hu,hrel⟩=>?_) (n:=n) ⟨st,I,θ,h,hrel⟩
 cases m with
 | zero=>exact hu.elim
 | succ m=>
  refine Ss (hu I θ a w hrel) fun e a' w' ⟨st',I',θ',h1,h2⟩=>?_;rcases h1 with⟨rfl,h1⟩|⟨hne,h1⟩
  ·exact⟨m,Nat.lt_succ_self m,st',I',θ',h1,h2⟩
  ·cases e with
   | normal=>exact(hne rfl).elim
   | _=>exact⟨st',I',θ',h1,h2⟩
end
inductive Frm where
 | nx (y:Code)
 | bl (id:Nat)
 | ag (c:Code) (n:Nat)
inductive Q0 where
 | run (c:Code) (fs:List Frm)
 | out (e:Exit) (fs:List Frm)
def kOf(P:Program)(Γ:Iw)(K:Exit->St->Prop):List Frm->Exit->St->Prop
 | []=>K
 | .nx y::fs=>thenK P Γ y (kOf P Γ K fs)
 | .bl id::fs=>blockK id (kOf P Γ K fs)
 | .ag c n::fs=>fun e st=>(e = .normal/\UnrollK P Γ c (kOf P Γ K fs) n st)\/(e≠.normal/\kOf P Γ K fs e st)
def GG(P:Program)(Γ:Iw)(K:Exit->St->Prop):Q0->St->Prop
 | .run c fs,st=>Zh P Γ c (kOf P Γ K fs) st
 | .out e fs,st=>kOf P Γ K fs e st
def Xu:Code->Nat->Nat
 | .exit i,k=>bif Nat.beq i k then 1 else 0
 | .seq a b,k=>Nat.min 2 (Xu a k+Xu b k)
 | .cond _ a b,k=>Nat.min 2 (Xu a k+Xu b k)
 | .loop c,k=>Nat.min 1 (Xu c k)
 | .scope c,k=>Nat.min 1 (Xu c k)
 | .block _ c,k=>Xu c k
 | _,_=>0
def Sc:Code->Nat
 | .region _ _ _=>1
 | .skip=>1
 | .label _=>1
 | .seq a b=>bif Nat.beq (Sc a) 0 then 0 else Sc b
 | .cond _ a b=>Nat.min 2 (Sc a+Sc b)
 | .block i c=>Nat.min 2 (Sc c+Xu c i)
 | .scope c=>Nat.min 2 (Sc c)
 | _=>0
def joinPt(a:Code):Bool:=match a with | .region _ _ _=>false|a=>Nat.ble 2 (Sc a)
def nav:Nat->Code ⊕ Exit->List Frm->Q0
 | 0,.inl c,fs=>.run c fs
 | 0,.inr e,fs=>.out e fs
 | n+1,.inl c,fs=>
  match c with
  | .skip=>nav n (.inr .normal) fs
  | .label _=>nav n (.inr .normal) fs
  | .seq a b=>bif joinPt a then .run (.seq a b) fs else nav n (.inl a) (.nx b::fs)
  | .block id a=>nav n (.inl a) (.bl id::fs)
  | .exit id=>nav n (.inr (.exit id)) fs
  | .goto l=>nav n (.inr (.goto l)) fs
  | .ret=>nav n (.inr .ret) fs
  | c=>.run c fs
 | n+1,.inr e,fs=>
  match fs with
  | []=>.out e []
  | .nx y::fs=>(match e with | .normal=>nav n (.inl y) fs|e=>nav n (.inr e) fs)
  | .bl id::fs=>(match e with | .exit i=>bif Nat.beq i id then nav n (.inr .normal) fs else nav n (.inr (.exit i)) fs|e=>nav n (.inr e) fs)
  | .ag c m::fs=>(match e with | .normal=>(match m with|0=>.out .normal (.ag c 0::fs)|m+1=>nav n (.inl c) (.ag c m::fs))|e=>nav n (.inr e) fs)
section
variable {P:Program} {Γ:Iw} {K:Exit->St->Prop}
theorem Co:∀(n:Nat) (x:Code ⊕ Exit) (fs:List Frm) (st:St),GG P Γ K (nav n x fs) st->(match x with | .inl c=>Zh P Γ c (kOf P Γ K fs) st | .inr e=>kOf P Γ K fs e st)
 | 0,.inl c,fs,st,h=>h
 | 0,.inr e,fs,st,h=>h
 | n+1,.inl c,fs,st,h=>by
  cases c with
  | skip=>exact awp_skip (Co n (.inr .normal) fs st h)
  | label l=>exact awp_label (Co n (.inr .normal) fs st h)
  | seq a b=>
   cases hj:joinPt a with
   | true=>simp only[nav,hj,Ag]at h;exact h
   | false=>simp only[nav,hj,Aq]at h;exact awp_seq (Co n (.inl a) (.nx b::fs) st h)
  | block id a=>exact awp_block (Co n (.inl a) (.bl id::fs) st h)
  | exit id=>exact awp_exit (Co n (.inr (.exit id)) fs st h)
  | goto l=>exact awp_goto (Co n (.inr (.goto l)) fs st h)
  | ret=>exact awp_ret (Co n (.inr .ret) fs st h)
  | _=>exact h
 | n+1,.inr e,[],st,h=>h
 | n+1,.inr e,.nx y::fs,st,h=>by
  cases e with
  | normal=>exact Co n (.inl y) fs st h
  | exit i=>exact Co n (.inr (.exit i)) fs st h
  | goto l=>exact Co n (.inr (.goto l)) fs st h
  | ret=>exact Co n (.inr .ret) fs st h
  | panic c=>exact Co n (.inr (.panic c)) fs st h
  | outgrown=>exact Co n (.inr .outgrown) fs st h
 | n+1,.inr e,.bl id::fs,st,h=>by
  cases e with
  | normal=>exact Co n (.inr .normal) fs st h
  | exit i=>
   show blockK id (kOf P Γ K fs) (.exit i) st
   cases hb:Nat.beq i id with
   | true=>
    obtain rfl:=Cb hb;simp only[nav,hb,Ag]at h;exact block_here (Co n (.inr .normal) fs st h)
   | false=>
    simp only[nav,hb,Aq]at h;exact block_exit hb (Co n (.inr (.exit i)) fs st h)
  | goto l=>exact Co n (.inr (.goto l)) fs st h
  | ret=>exact Co n (.inr .ret) fs st h
  | panic c=>exact Co n (.inr (.panic c)) fs st h
  | outgrown=>exact Co n (.inr .outgrown) fs st h
 | n+1,.inr e,.ag c m::fs,st,h=>by
  cases e with
  | normal=>
   cases m with
   | zero=>exact h
   | succ m=>exact .inl ⟨rfl,Co n (.inl c) (.ag c m::fs) st h⟩
  | exit i=>exact .inr ⟨(by intro hh;cases hh),Co n (.inr (.exit i)) fs st h⟩
  | goto l=>exact .inr ⟨(by intro hh;cases hh),Co n (.inr (.goto l)) fs st h⟩
  | ret=>exact .inr ⟨(by intro hh;cases hh),Co n (.inr .ret) fs st h⟩
  | panic ch=>exact .inr ⟨(by intro hh;cases hh),Co n (.inr (.panic ch)) fs st h⟩
  | outgrown=>exact .inr ⟨(by intro hh;cases hh),Co n (.inr .outgrown) fs st h⟩
theorem Mv{n:Nat}{c:Code}{fs:List Frm}{st:St}(h:GG P Γ K (nav n (.inl c) fs) st):Zh P Γ c (kOf P Γ K fs) st:=Co n (.inl c) fs st h
theorem X5{n:Nat}{e:Exit}{fs:List Frm}{st:St}(h:GG P Γ K (nav n (.inr e) fs) st):kOf P Γ K fs e st:=Co n (.inr e) fs st h
def inC(c:Code)(fs:List Frm):Q0:=nav 400 (.inl c) fs
def exC(e:Exit)(fs:List Frm):Q0:=nav 400 (.inr e) fs
def nxC:Q0->Q0
 | .run _ fs=>exC .normal fs
 | x=>x
def opsC:Q0->Option (List Oper×Bool)
 | .run (.region _ ops draw) _=>some (ops.toList,draw)
 | _=>none
def doR(P:Program)(S:SpecT)(n:Nat)(cs:List (Nat×AV))(live names:List Nat)(x:Q0)(st:St)(rs:List U0):Option (St×List Prop×Bool):=
 match opsC x with
 | some (ops,draw)=>aregion P S n cs live names ops draw st rs
 | none=>none
def nxS(P:Program)(S:SpecT)(n:Nat)(cs:List (Nat×AV))(live names:List Nat)(x:Q0)(st:St)(rs:List U0):St:=
 match doR P S n cs live names x st rs with
 | some r=>r.1
 | none=>st
def obR(r:Option (St×List Prop×Bool)):Option (Prop×Bool):=
 match r with
 | some r=>some (conjL r.2.1,r.2.2)
 | none=>none
theorem gR{x:Q0}{st:St}{n:Nat}{H:List (Nat×Own)}(q:RgQ P Γ n H)(live names:List Nat)(cs:List (Nat×AV))(rs:List U0){O:Prop}(hO:O)
  (k:GG P Γ K (nxC x) (nxS P (Spec P) n cs live names x st rs))
  (h:obR (doR P (Spec P) n cs live names x st rs)=some (O,true):=by kernel_rfl) (hh:(H.all fun x=>D5 x.1 names)=true:=by kernel_rfl):GG P Γ K x st:=by
 unfold doR at h;unfold nxS doR at k
 cases x with
 | out e fs=>simp[opsC,obR]at h
 | run c fs=>
  cases c with
  | region id ops draw=>
   simp only[opsC]at h k
   cases hr:aregion P (Spec P) n cs live names ops.toList draw st rs with
   | none=>rw[hr]at h;simp[obR]at h
   | some r=>
    obtain⟨st',obs,d⟩:=r;rw[hr]at h k;simp only[obR,Am,It]at h;obtain⟨rfl,rfl⟩:=h;have:=awp_region (id:=id) (K:=kOf P Γ K fs) q.hn q.mix (q.hand hh) hr hO (X5 k);exact(by simpa using this:Zh P Γ (.region id ops draw) (kOf P Γ K fs) st)
  | _=>simp[opsC,obR]at h
theorem Af{x:Q0}{st:St}{n:Nat}{H:List (Nat×Own)}(q:RgQ P Γ n H)(live names:List Nat)
  (k:GG P Γ K (nxC x) (nxS P (Spec P) n [] live names x st []))
  (h:obR (doR P (Spec P) n [] live names x st [])=some (True,true):=by kernel_rfl) (hh:(H.all fun x=>D5 x.1 names)=true:=by kernel_rfl):GG P Γ K x st:=gR q live names [] [] trivial k h hh
def isRun:Q0->Bool | .run _ _=>true|_=>false
theorem Or{x:Q0}{st st':St}(h:Le Γ st st')
  (k:GG P Γ K x st')
  (hx:isRun x=true:=by kernel_rfl):GG P Γ K x st:=by
 cases x with
 | run c fs=>exact awp_le h k
 | out e fs=>cases hx
theorem Ri{x:Q0}{st:St}(st':St)
  (k:GG P Γ K x st')
  (h:st=st':=by kernel_rfl):GG P Γ K x st:=h▸k
def condV(x:Q0)(st:St):AV:=match x with | .run (.cond c _ _) _=>evA st.get c|_=>.any
def brC(b:Bool):Q0->Q0
 | .run (.cond _ c d) fs=>inC (bif b then c else d) fs
 | x=>x
theorem gC{x:Q0}{st:St}{R:Type}{b:Bool}{m1 m2:Option R}{r:R}(h:(bif b then m1 else m2)=some r)
  (kt:m1=some r->GG P Γ K (brC true x) st) (kf:m2=some r->GG P Γ K (brC false x) st)
  (hv:condV x st = .bool b:=by kernel_rfl):GG P Γ K x st:=by
 cases x with
 | out e fs=>cases hv
 | run c fs=>
  cases c with
  | cond c y z=>
   refine awp_cond b hv (fun hb=>Mv (n:=400) (kt ?_)) (fun hb=>Mv (n:=400) (kf ?_))
   ·subst hb;exact h
   ·subst hb;exact h
  | _=>cases hv
theorem gCt{x:Q0}{st:St}(b:Bool)
  (k:GG P Γ K (brC b x) st)
  (hv:condV x st = .bool b:=by kernel_rfl):GG P Γ K x st:=by
 cases x with
 | out e fs=>cases hv
 | run c fs=>
  cases c with
  | cond c y z=>
   refine awp_cond b hv (fun hb=>Mv (n:=400) ?_) (fun hb=>Mv (n:=400) ?_)
   ·subst hb;exact k
   ·subst hb;exact k
  | _=>cases hv
theorem lt1{P:Nat->Prop}(h0:P 0)(i:Nat)(h:i<1):P i:=by
 obtain rfl:i=0:=by omega
 exact h0
theorem lt2{P:Nat->Prop}(h0:P 0)(h1:P 1)(i:Nat)(h:i<2):P i:=by
 have:i=0\/i=1:=by omega
 rcases this with rfl|rfl<;>assumption
theorem gK{x:Q0}{st:St}{e:Exit}(h:K e st)(hx:x = .out e []:=by kernel_rfl):GG P Γ K x st:=by subst hx;exact h
def aG(Γ:Iw)(e0:Exit)(og:St):Exit->St->Prop:=fun e st=>e=e0/\Le Γ st og
def aR(K:Exit->St->Prop):Exit->St->Prop:=fun e st=>e = .ret/\K e st
theorem Bk{e0:Exit}{og st:St}(h:Le Γ st og):aG Γ e0 og e0 st:=⟨rfl,h⟩
theorem L0{st:St}(h:K .ret st):aR K .ret st:=⟨rfl,h⟩
def isN:Exit->Bool | .normal=>true|_=>false
theorem gN{S X:Type}{x:Q0}{st:St}{H:S->St}{KX:X->Exit->St->Prop}{s':S}(h:Le Γ st (H s'))(hx:x = .out .normal []:=by kernel_rfl):GG P Γ (roundK Γ H KX (.next s')) x st:=by
 subst hx;exact⟨rfl,h⟩
theorem gO{S X:Type}{x:Q0}{st:St}{H:S->St}{KX:X->Exit->St->Prop}{y:X}{e:Exit}(h:KX y e st)(hx:x = .out e []:=by kernel_rfl)(hn:isN e=false:=by kernel_rfl):GG P Γ (roundK Γ H KX (.done y)) x st:=by
 subst hx;exact⟨(by rintro rfl;cases hn),h⟩
def fK(P:Program)(Γ:Iw)(rs:List ResultVar)(H:List (Nat×Own))(res:AV)(H':List (Nat×Own)):Exit->St->Prop:=clK Γ (retK P rs H res H')
theorem J7{rs:List ResultVar}{H H':List (Nat×Own)}{res:AV}{st st':St}{e:Exit}(ρ:List (Nat×Nat))(hl:Le Γ st st')(hr:retOf P rs ρ H st'=some (res,H'):=by kernel_rfl)
  (he:(match e with | .ret=>true | .normal=>true|_=>false)=true:=by kernel_rfl):fK P Γ rs H res H' e st:=by
 refine⟨st',hl,?_,ρ,hr⟩
 cases e with
 | ret=>exact .inl rfl
 | normal=>exact .inr rfl
 | _=>cases he
theorem Cf{rs:List ResultVar}{H H':List (Nat×Own)}{res:AV}{x:Q0}{st:St}(ρ:List (Nat×Nat))(hr:retOf P rs ρ H st=some (res,H'):=by kernel_rfl)
  (hx:x = .out .ret []:=by kernel_rfl):GG P Γ (fK P Γ rs H res H') x st:=gK (e:=.ret) (J7 ρ (Le.refl _ _) hr) hx
def bodyOf(fn:Func):Code:=match fn.body with|some c=>c|none=>.skip
theorem Ac {f : FuncId} {fn : Func} {args : List AV} {H H' : List (Nat × Own)} {res : AV} (hm : P.follows .mixedOrders = true) (hf : P.funcs[f]? = some fn)
    (k : ∀ Γ : Iw, RgQ P Γ fn.ntmps H → GG P Γ (fK P Γ fn.results.toList H res H') (inC (bodyOf fn) []) (initSt args H))
    (hb : fn.body.isSome = true := by kernel_rfl) (hname : (fn.name == "runtime.NumGoroutine") = false := by kernel_rfl) (hlen : Nat.ble args.length fn.ntmps = true := by kernel_rfl) (hpl : plainB H = true := by kernel_rfl) : Spec P f args H res H' := by
  obtain ⟨c, hc⟩ := zzL77.1 hb
  have e : bodyOf fn = c := by unfold bodyOf; rw [hc]
  refine spec_of_awp hf hc hname hlen (fun Γ hn hΓ => ?_) hpl; have := k Γ ⟨hn, hm, hΓ⟩; rw [e] at this; exact awp_cl (Mv this)
theorem leq_of{st st':St}(h:st=st'):Le Γ st st':=h▸Le.refl Γ st
def isLoop:Q0->Bool | .run (.loop _) _=>true|_=>false
def bodyC:Q0->Q0
 | .run (.loop c) _=>inC c []
 | x=>x
def outC(e:Exit):Q0->Q0
 | .run _ fs=>exC e fs
 | x=>x
def putS{α:Type}(k:Nat)(x:α):List (Nat×α)->List (Nat×α)
 | []=>[(k,x)]
 | (k',y)::l=>bif Nat.beq k k' then(k,x)::l else bif Nat.blt k k' then(k,x)::(k',y)::l else(k',y)::putS k x l
def putL{α:Type}:List (Nat×α)->List (Nat×α)->List (Nat×α)
 | [],l=>l
 | (k,x)::r,l=>putL r (putS k x l)
def Eu(st:St)(ts:List (Nat×AV))(os:List (Nat×Own))(fs:List (Nat×Fam):=[]):St:=⟨putL ts st.tmps,putL os st.own,putL fs st.fam⟩
def Oz(live names:List Nat)(st:St)(ts:List (Nat×AV))(os:List (Nat×Own))(fs:List (Nat×Fam):=[]):St:=Jw live names (Eu st ts os fs)
theorem gL{S X:Type}{x:Q0}{st:St}{n:Nat}{Hf:List (Nat×Own)}(q:RgQ P Γ n Hf){f:S->Option (LR S X)}{s0:S}{y:X}(hx:Ah f s0=some y)(live names:List Nat)(H:St->S->St)(KX:St->X->Exit->St->Prop)
  (kb:∀ s y,f s=some y->GG P Γ (roundK Γ (H (Jw live names st)) (KX (Jw live names st)) y) (bodyC x) (H (Jw live names st) s)) (ko:∀ e st',KX (Jw live names st) y e st'->GG P Γ K (outC e x) st')
  (h0:Jw live names st=H (Jw live names st) s0:=by kernel_rfl) (hl:isLoop x=true:=by kernel_rfl) (hh:(Hf.all fun x=>D5 x.1 names)=true:=by kernel_rfl):GG P Γ K x st:=by
 cases x with
 | out e fs=>cases hl
 | run c fs=>
  cases c with
  | loop c=>
   refine awp_le (st':=H (Jw live names st) s0) ?_ (awp_loop (H (Jw live names st)) f (KX (Jw live names st)) (fun s y hy=>Mv (kb s y hy)) hx fun e st' hk=>X5 (ko e st' hk));rw[<- h0];exact B2 live names q rfl hh
  | _=>cases hl
theorem gL0{S X:Type}{x:Q0}{st:St}{f:S->Option (LR S X)}{s0:S}{y:X}(hx:Ah f s0=some y)(H:St->S->St)(KX:St->X->Exit->St->Prop)
  (kb:∀ s y,f s=some y->GG P Γ (roundK Γ (H st) (KX st) y) (bodyC x) (H st s)) (ko:∀ e st',KX st y e st'->GG P Γ K (outC e x) st')
  (h0:st=H st s0:=by kernel_rfl) (hl:isLoop x=true:=by kernel_rfl):GG P Γ K x st:=by
 cases x with
 | out e fs=>cases hl
 | run c fs=>
  cases c with
  | loop c=>exact awp_le (leq_of h0) (awp_loop (H st) f (KX st) (fun s y hy=>Mv (kb s y hy)) hx fun e st' hk=>X5 (ko e st' hk))
  | _=>cases hl
theorem gA{x:Q0}{f:Exit->Q0->Q0}{e0:Exit}{og:St}
  (k:GG P Γ K (f e0 x) og)
  (hr:isRun (f e0 x)=true:=by kernel_rfl):∀ e st',aG Γ e0 og e st'->GG P Γ K (f e x) st':=by
 rintro e st' ⟨rfl,hl⟩;exact Or hl k hr
theorem gA'{x:Q0}{f:Exit->Q0->Q0}{e0:Exit}{og:St}(k:∀ st',Le Γ st' og->GG P Γ K (f e0 x) st'):∀ e st',aG Γ e0 og e st'->GG P Γ K (f e x) st':=by
 rintro e st' ⟨rfl,hl⟩;exact k st' hl
theorem N2{x:Q0}{f:Exit->Q0->Q0}{K':Exit->St->Prop}(k:∀ st',K' .ret st'->GG P Γ K (f .ret x) st'):∀ e st',aR K' e st'->GG P Γ K (f e x) st':=by
 rintro e st' ⟨rfl,hl⟩;exact k st' hl
theorem gU{x:Q0}{st:St}(n:Nat)
  (k:GG P Γ K (match x with | .run (.loop c) fs=>inC c (.ag c n::fs)|x=>x) st)
  (hl:isLoop x=true:=by kernel_rfl):GG P Γ K x st:=by
 cases x with
 | out e fs=>cases hl
 | run c fs=>
  cases c with
  | loop c=>exact awp_unroll (n+1) (Mv k)
  | _=>cases hl
def isSeq:Q0->Bool | .run (.seq _ _) _=>true|_=>false
def headC:Q0->Q0
 | .run (.seq a _) _=>inC a []
 | x=>x
def restC(e:Exit):Q0->Q0
 | .run (.seq _ b) fs=>exC e (.nx b::fs)
 | x=>x
theorem gJ{X:Type}{x:Q0}{st:St}{m:Option X}{y:X}(hx:m=some y)(KX:X->Exit->St->Prop)
  (kb:∀ y,m=some y->GG P Γ (KX y) (headC x) st) (ko:∀ e st',KX y e st'->GG P Γ K (restC e x) st')
  (hs:isSeq x=true:=by kernel_rfl):GG P Γ K x st:=by
 cases x with
 | out e fs=>cases hs
 | run c fs=>
  cases c with
  | seq a b=>exact awp_seq (awp_join KX hx (fun y hy=>Mv (kb y hy)) fun e st' hk=>X5 (ko e st' hk))
  | _=>cases hs
def isScope:Q0->Bool | .run (.scope _) _=>true|_=>false
def scB:Q0->Code | .run (.scope c) _=>c|_=>.skip
def labC(c:Code)(l:Nat):Q0:=inC ((findLabel c l).getD .skip) []
theorem gS{S X:Type}{x:Q0}{st:St}{f0:Option (LR S X)}{f:S->Option (LR S X)}{y:X}(hx:P9 f0 f=some y)(lab:S->Nat)(H:S->St)(KX:X->Exit->St->Prop)
  (k0:∀ y,f0=some y->GG P Γ (jumpK Γ (scB x) lab H KX y) (inC (scB x) []) st) (kb:∀ s y,f s=some y->GG P Γ (jumpK Γ (scB x) lab H KX y) (labC (scB x) (lab s)) (H s)) (ko:∀ e st',KX y e st'->GG P Γ K (outC e x) st')
  (hs:isScope x=true:=by kernel_rfl):GG P Γ K x st:=by
 cases x with
 | out e fs=>cases hs
 | run c fs=>
  cases c with
  | scope c=>
   refine awp_scope lab H f0 f KX (fun y hy=>Mv (k0 y hy)) (fun s y rest hf hy=>?_) hx fun e st' hk=>X5 (ko e st' hk);have:=kb s y hy;unfold labC scB at this;rw[hf]at this;exact Mv this
  | _=>cases hs
theorem gJn{S X:Type}{x:Q0}{st:St}{c:Code}{lab:S->Nat}{H:S->St}{KX:X->Exit->St->Prop}{s':S}(h:Le Γ st (H s'))(hx:x = .out (.goto (lab s')) []:=by kernel_rfl)(hf:(findLabel c (lab s')).isSome=true:=by kernel_rfl) :
  GG P Γ (jumpK Γ c lab H KX (.next s')) x st:=by
 subst hx;exact⟨rfl,hf,h⟩
theorem gJo{S X:Type}{x:Q0}{st:St}{c:Code}{lab:S->Nat}{H:S->St}{KX:X->Exit->St->Prop}{y:X}{e:Exit}(h:KX y e st)(hx:x = .out e []:=by kernel_rfl)
  (hf:(match e with | .goto l=>(findLabel c l).isNone|_=>true)=true:=by kernel_rfl):GG P Γ (jumpK Γ c lab H KX (.done y)) x st:=by
 subst hx;refine⟨?_,h⟩;rintro l rfl
 simpa using hf
theorem Ww{α:Type}{st:St}(U:α->St->St){a b:α}(h:a=b)(h1:st=U a st:=by kernel_rfl):Le Γ st (U b st):=by subst h;exact leq_of h1
theorem leB{st:St}(F F':Bool->St->St)(g:Bool)(h1:st=F g st:=by kernel_rfl)(ht:F true st=F' true st:=by kernel_rfl)(hf:F false st=F' false st:=by kernel_rfl):Le Γ st (F' g st):=by
 refine leq_of (h1.trans ?_)
 cases g<;>assumption
def Own.withF(g:Nat->List AV):Own->Own
 | .arr sz e n _=>.arr sz e n g
 | o=>o
def arrAt(st:St)(nm:Nat):Option (Nat×(Nat->List AV)):=match Ak st.own nm with|some (.arr _ _ n f)=>some (n,f)|_=>none
def setF(nm:Nat)(g:Nat->List AV)(st:St):St:=⟨st.tmps,(match Ak st.own nm with|some o=>E1 st.own nm (o.withF g)|none=>st.own),st.fam⟩
theorem ownsLe_arr{nm sz n:Nat}{e:TypeId}{f g:Nat->List AV}(hp:∀ k,k<n->AVleL (f k) (g k)):∀{l:List (Nat×Own)},Ak l nm=some (.arr sz e n f)->OwnsLe l (E1 l nm (.arr sz e n g))
 | [],h=>by cases h
 | (k,o)::l,h=>by
  simp only[Ak]at h;simp only[E1]
  cases hb:Nat.beq k nm with
  | true=>
   obtain rfl:=Cb hb;rw[hb]at h;simp only[Ag,Am]at h;subst h;exact .arr hp (.refl _)
  | false=>
   rw[hb]at h;exact .same (ownsLe_arr hp h)
theorem Wv{st:St}(nm:Nat){n:Nat}{f g:Nat->List AV}(hp:∀ k,k<n->AVleL (f k) (g k))(h:arrAt st nm=some (n,f):=by kernel_rfl):Le Γ st (setF nm g st):=by
 unfold arrAt at h;unfold setF
 cases ho:Ak st.own nm with
 | none=>rw[ho]at h;cases h
 | some o=>
  rw[ho]at h
  cases o with
  | arr sz e n' f'=>
   simp only[Am,It]at h;obtain⟨rfl,rfl⟩:=h;exact Jo (TmpsLe.refl _) (ownsLe_arr hp ho)
  | _=>cases h
def cellAt(st:St)(nm j:Nat):Option AV:=match Ak st.own nm with|some (.row _ cells)=>cells[j]? | _=>none
def Own.withC(j:Nat)(x:AV):Own->Own
 | .row e cells=>.row e (cells.set j x)
 | o=>o
def setC(nm j:Nat)(x:AV)(st:St):St:=⟨st.tmps,(match Ak st.own nm with|some o=>E1 st.own nm (o.withC j x)|none=>st.own),st.fam⟩
theorem leL_set{a b:AV}(h:AVle a b):∀{l:List AV} {j:Nat},l[j]?=some a->AVleL l (l.set j b)
 | [],j,h=>by simp at h
 | x::l,0,h'=>by
  simp only[List.getElem?_cons_zero,Am]at h';subst h';exact .cons h (.refl _)
 | x::l,j+1,h'=>by
  simp only[List.getElem?_cons_succ]at h';exact .cons (.refl _) (leL_set h h')
theorem ownsLe_row{nm:Nat}{e:TypeId}{x y:List AV}(hp:AVleL x y):∀{l:List (Nat×Own)},Ak l nm=some (.row e x)->OwnsLe l (E1 l nm (.row e y))
 | [],h=>by cases h
 | (k,o)::l,h=>by
  simp only[Ak]at h;simp only[E1]
  cases hb:Nat.beq k nm with
  | true=>
   obtain rfl:=Cb hb;rw[hb]at h;simp only[Ag,Am]at h;subst h;exact .row hp (.refl _)
  | false=>
   rw[hb]at h;exact .same (ownsLe_row hp h)
theorem leC{st:St}(nm j:Nat){a b:AV}(hp:AVle a b)(h:cellAt st nm j=some a:=by kernel_rfl):Le Γ st (setC nm j b st):=by
 unfold cellAt at h;unfold setC
 cases ho:Ak st.own nm with
 | none=>rw[ho]at h;cases h
 | some o=>
  rw[ho]at h
  cases o with
  | row e cells=>exact Jo (TmpsLe.refl _) (ownsLe_row (leL_set hp h) ho)
  | _=>cases h
theorem gI(g:Bool):g=true->g=true:=id
theorem M7(c:Bool):c=true->(c==true)=true:=gT
theorem J1(c:Bool):c=false->(c==false)=true:=gF
theorem Bx{α:Type}(sz:Nat)(e:α->List AV)(d:α)(l:List α):AVle (.slice sz l.length (fun i=>(l.map e).getD i []) .exact) (AV.list sz e d l .exact):=av_lit rfl fun i h=>map_get l i h
theorem Dh{α:Type}(sz:Nat)(e:α->List AV)(d:α):AVle (.slice 0 0 (fun _=>[]) .exact) (AV.list sz e d [] .exact):=Hg
theorem Ix{α:Type}(sz nm:Nat)(e:α->List AV)(d:α)(l m:List α):AVle (.slice sz (l.length+m.length) (Nz l.length (fun i=>e (l.getD i d)) (fun i=>e (m.getD i d))) (.own nm)) (AV.list sz e d (l++m) (.own nm)):=av_app
theorem Cr{st st':St}(h:st=st':=by kernel_rfl):Le Γ st st':=h▸Le.refl Γ st
theorem ci{p q:Prop}(a:p)(b:q):p/\q:=⟨a,b⟩
theorem c1{p:Prop}(a:p):p/\True:=⟨a,trivial⟩
end
open Go.Shelf
def lays189_ren:Go.Shelf.Ren:=⟨fun|189=>65|125=>95|257=>94|128=>127|129=>128|294=>118|295=>119|296=>120|297=>121|298=>122|299=>123|216=>124|300=>125|301=>126|328=>148|329=>149|330=>150|331=>151|332=>152|215=>153|343=>163|n=>n,fun|28=>22|3=>3|46=>126|0=>0|51=>158|53=>55|4=>4|183=>152|182=>151|131=>155|5=>5|9=>9|218=>174|222=>178|228=>181|229=>117|n=>n,fun|n=>n⟩
theorem lays189:Go.Proofs.Lays.n189 Tryz.prog lays189_ren:={
 mixed:=by kernel_rfl
 f125:=Tryz.func95.trans (Cq some (by kernel_rfl))
 f128:=Tryz.func127.trans (Cq some (by kernel_rfl))
 f129:=Tryz.func128.trans (Cq some (by kernel_rfl))
 f189:=Tryz.func65.trans (Cq some (by kernel_rfl))
 f215:=Tryz.func153.trans (Cq some (by kernel_rfl))
 f216:=Tryz.func124.trans (Cq some (by kernel_rfl))
 f257:=Tryz.func94.trans (Cq some (by kernel_rfl))
 f294:=Tryz.func118.trans (Cq some (by kernel_rfl))
 f295:=Tryz.func119.trans (Cq some (by kernel_rfl))
 f296:=Tryz.func120.trans (Cq some (by kernel_rfl))
 f297:=Tryz.func121.trans (Cq some (by kernel_rfl))
 f298:=Tryz.func122.trans (Cq some (by kernel_rfl))
 f299:=Tryz.func123.trans (Cq some (by kernel_rfl))
 f300:=Tryz.func125.trans (Cq some (by kernel_rfl))
 f301:=Tryz.func126.trans (Cq some (by kernel_rfl))
 f328:=Tryz.func148.trans (Cq some (by kernel_rfl))
 f329:=Tryz.func149.trans (Cq some (by kernel_rfl))
 f330:=Tryz.func150.trans (Cq some (by kernel_rfl))
 f331:=Tryz.func151.trans (Cq some (by kernel_rfl))
 f332:=Tryz.func152.trans (Cq some (by kernel_rfl))
 f343:=Tryz.func163.trans (Cq some (by kernel_rfl))
 t0:=Tryz.underlying0
 a0:=Tryz.isAgg0
 z0:=Tryz.sizeOf0
 v0:=Tryz.zeroValue0
 t3:=Tryz.underlying3
 a3:=Tryz.isAgg3
 z3:=Tryz.sizeOf3
 v3:=Tryz.zeroValue3
 t4:=Tryz.underlying4
 a4:=Tryz.isAgg4
 z4:=Tryz.sizeOf4
 v4:=Tryz.zeroValue4
 t5:=Tryz.underlying5
 a5:=Tryz.isAgg5
 z5:=Tryz.sizeOf5
 v5:=Tryz.zeroValue5
 t9:=Tryz.underlying9
 a9:=Tryz.isAgg9
 z9:=Tryz.sizeOf9
 v9:=Tryz.zeroValue9
 t28:=Tryz.underlying22
 a28:=Tryz.isAgg22
 z28:=Tryz.sizeOf22
 v28:=Tryz.zeroValue22
 t46:=Tryz.underlying126
 a46:=Tryz.isAgg126
 z46:=Tryz.sizeOf126
 v46:=Tryz.zeroValue126
 t51:=Tryz.underlying158
 a51:=Tryz.isAgg158
 z51:=Tryz.sizeOf158
 v51:=Tryz.zeroValue158
 t53:=Tryz.underlying55
 a53:=Tryz.isAgg55
 z53:=Tryz.sizeOf55
 v53:=Tryz.zeroValue55
 t131:=Tryz.underlying155
 a131:=Tryz.isAgg155
 z131:=Tryz.sizeOf155
 v131:=Tryz.zeroValue155
 t182:=Tryz.underlying151
 a182:=Tryz.isAgg151
 z182:=Tryz.sizeOf151
 v182:=Tryz.zeroValue151
 t183:=Tryz.underlying152
 a183:=Tryz.isAgg152
 z183:=Tryz.sizeOf152
 v183:=Tryz.zeroValue152
 t218:=Tryz.underlying174
 a218:=Tryz.isAgg174
 z218:=Tryz.sizeOf174
 v218:=Tryz.zeroValue174
 t222:=Tryz.underlying178
 a222:=Tryz.isAgg178
 z222:=Tryz.sizeOf178
 v222:=Tryz.zeroValue178
 t228:=Tryz.underlying181
 a228:=Tryz.isAgg181
 z228:=Tryz.sizeOf181
 v228:=Tryz.zeroValue181
 t229:=Tryz.underlying117
 a229:=Tryz.isAgg117
 z229:=Tryz.sizeOf117
 v229:=Tryz.zeroValue117 }
def laysNm215_ren:Go.Shelf.Ren:=⟨fun|15=>64|n=>n,fun|22=>22|3=>3|4=>4|n=>n,fun|n=>n⟩
theorem laysNm215:Go.Proofs.Lays2.n15 Tryz.prog laysNm215_ren:={
 mixed:=by kernel_rfl
 f15:=Tryz.func64.trans (Cq some (by kernel_rfl))
 t3:=Tryz.underlying3
 a3:=Tryz.isAgg3
 z3:=Tryz.sizeOf3
 v3:=Tryz.zeroValue3
 t4:=Tryz.underlying4
 a4:=Tryz.isAgg4
 z4:=Tryz.sizeOf4
 v4:=Tryz.zeroValue4
 t22:=Tryz.underlying22
 a22:=Tryz.isAgg22
 z22:=Tryz.sizeOf22
 v22:=Tryz.zeroValue22
 i3:=by kernel_rfl }
def laysNm220_ren:Go.Shelf.Ren:=⟨fun|20=>66|n=>n,fun|22=>22|3=>3|4=>4|0=>0|n=>n,fun|n=>n⟩
theorem laysNm220:Go.Proofs.Lays2.n20 Tryz.prog laysNm220_ren:={
 mixed:=by kernel_rfl
 f20:=Tryz.func66.trans (Cq some (by kernel_rfl))
 t0:=Tryz.underlying0
 a0:=Tryz.isAgg0
 z0:=Tryz.sizeOf0
 v0:=Tryz.zeroValue0
 t3:=Tryz.underlying3
 a3:=Tryz.isAgg3
 z3:=Tryz.sizeOf3
 v3:=Tryz.zeroValue3
 t4:=Tryz.underlying4
 a4:=Tryz.isAgg4
 z4:=Tryz.sizeOf4
 v4:=Tryz.zeroValue4
 t22:=Tryz.underlying22
 a22:=Tryz.isAgg22
 z22:=Tryz.sizeOf22
 v22:=Tryz.zeroValue22
 i3:=by kernel_rfl }
open Go.Sort
section
variable {I:Nat->Nat->Prop} {θ:Nat->Option (Nat×Nat)} {w w':World}
theorem ownRel_nil(I:Nat->Nat->Prop)(θ:Nat->Option (Nat×Nat))(w:World):Ky I (Ak []) θ w:=
 ⟨(fun _ _ _ h=>by cases h),(fun _ _ _ _ h=>by cases h),(fun _ _ _ _ _ h=>(h rfl).elim),(fun _ _ _ _ _ h=>by cases h),(fun _ _ h=>by cases h),(fun _ _ _ h=>by cases h)⟩
theorem repL_one{own:Nat->Option Own}{zs:Array Value}{x:AV}(h:RepL I own θ w zs.toList [x]):∃ v,zs = #[v]/\Rep I own θ w v x:=by
 obtain⟨l⟩:=zs
 cases h with
 | cons h1 h2=>cases h2;exact⟨_,rfl,h1⟩
theorem Aam(hb:Below w.heap.size w w')(hval:∀ b o,I b o->∃ u,w.cell? ⟨b,o,none⟩=some u){N:Nat->Nat->Prop}(hN:∀ b o,N b o->w.heap.size<=b/\∃ u,w'.cell? ⟨b,o,none⟩=some u) :
  Chg (Ak []) θ I w (Ak []) θ (fun b o=>I b o\/N b o) w':=
 have hcell:∀ b o,I b o->w'.cell? ⟨b,o,none⟩=w.cell? ⟨b,o,none⟩:=fun b o hi=>by
  obtain⟨u,hu⟩:=hval b o hi;exact zzL82 (a:=⟨b,o,none⟩) (hb.block b (Qe hu))
 {imm:=fun _ _ h=>.inl h,cell:=hcell,le:=fun _ _ h=>(by cases h),rel:=ownRel_nil _ _ _,
  valid:=fun b o hi=>by
   rcases hi with hi|hi
   ·obtain⟨u,hu⟩:=hval b o hi;exact⟨u,(hcell b o hi).trans hu⟩
   ·exact(hN b o hi).2,
  os:=hb.os,tape:=hb.tape,output:=hb.output,drawn:=fun h=>h.elim,grow:=hb.size,frame:=fun b hlt _=>hb.block b hlt,new:=fun _ _ _ h=>(h rfl).elim,
  immNew:=fun b o hi=>by
   rcases hi with hi|hi
   ·exact .inl hi
   ·exact .inr (.inl (hN b o hi).1) }
end
theorem below_sorted{w W:World}{g n:Nat}{os:Array Obj}{d:Array Int}(hb:Below w.heap.size w W)(hg:w.heap.size<=g):Below w.heap.size w (grow (putRow (Value.int .i64) (Sort.ahead W n) g 0 d) os):=by
 have k:=grownBy_sortedI (w:=W) (g:=g) (n:=n) (os:=os) d;refine hb.trans ⟨k.os,k.tape,k.output,k.size,fun b hlt=>k.block b (Nat.lt_of_lt_of_le hlt hb.size) (fun e=>?_)⟩;have:=OI e;omega
def Own3(w W:World)(g cap n:Nat)(zs:List Int):Prop:=
 Below w.heap.size w W/\w.heap.size<=g/\∃ cur,W.heap[g]?=some (.cells cur 3 (0,0))/\n<=cap/\cap<=maxLen/\cur.size=cap/\cur.toList.take zs.length=zs.map (Value.int .i64)/\zs.length=n
theorem own3_of{w W:World}{v:Value}{n:Nat}{zs:List Int}(h:W.ownsRow w.heap.size 3 1 v n (zs.map (Value.int .i64)))(hne:v≠.slice none 0 0)(hb:Below w.heap.size w W):∃ g cap,v = .slice (some ⟨g,0,none⟩) n cap/\Own3 w W g cap n zs:=by
 have hl:zs.length=n:=by have:=h.1;simpa using this
 rcases h.2 with⟨rfl,_⟩|⟨g,cap,cur,rfl,hg,hcur,hcap,hmax,hsz,ht⟩
 ·exact(hne rfl).elim
 ·rw[V4]at hsz ht;exact⟨g,cap,rfl,hb,hg,cur,hcur,hcap,hmax,hsz,by rw[hl];exact ht,hl⟩
theorem c_clone0(ad:Addr)(c:Nat)(w:World):Calls Tryz.prog 64 #[.slice (some ad) 0 c] w fun e W=>∃ g cap,e = .returned (.slice (some ⟨g,0,none⟩) 0 cap)/\Own3 w W g cap 0 []:=
 (Any.slices_Clone_int_zero laysNm215 ad c w).mono fun e W ⟨v,he,hown,hne,hb⟩=>by
  obtain⟨g,cap,rfl,h⟩:=own3_of (zs:=[]) hown hne hb;exact⟨g,cap,he,h⟩
theorem c_clone(b off n c:Nat)(zs:List Int)(w:World)(hz:zs.length=n)(hbig:n<=17592186044416)(hc:∀ j,j<n->w.cell? ⟨b,off+j,none⟩=some (.int .i64 (zs.getD j 0))) :
  Calls Tryz.prog 64 #[.slice (some ⟨b,off,none⟩) n c] w fun e W=>∃ g cap,e = .returned (.slice (some ⟨g,0,none⟩) n cap)/\Own3 w W g cap n zs:=
 (Any.slices_Clone_int laysNm215 b off n c zs w (by omega) (by omega) (fun j hj=>hc j (by omega))).mono fun e W ⟨v,he,hown,hne,hb⟩=>by
  rw[show zs.take n=zs by rw[<- hz];exact zzL91 ..]at hown;obtain⟨g,cap,rfl,h⟩:=own3_of hown hne hb;exact⟨g,cap,he,h⟩
theorem c_sort{w W:World}{g cap n:Nat}{zs:List Int}(h:Own3 w W g cap n zs)(hbig:n<=17592186044416):Calls Tryz.prog 65 #[.slice (some ⟨g,0,none⟩) n cap] W fun e W2=>e = .returned (.tuple #[])/\Own3 w W2 g cap n (zs.mergeSort fun x y=>decide (x<=y)):=by
 obtain⟨hb,hg,cur,hcur,hcap,hmax,hsz,ht,rfl⟩:=h;refine(Any.slices_Sort_int lays189 g 0 cap zs W (holds_of_blockI hcur ht) (Zq hcur) (by omega)).mono fun e W2 ⟨he,q,os,hW⟩=>⟨he,?_⟩;subst hW;have hl:(zs.mergeSort fun x y=>decide (x<=y)).length=zs.length:=List.length_mergeSort ..;have b2:=below_sorted (n:=q) (os:=os) (d:=(zs.mergeSort fun x y=>decide (x<=y)).toArray) hb hg;exact⟨b2,hg,_,heap_sortedI _ hcur,hcap,hmax,by simp[putCells,hsz],take_putCellsI cur _ (by omega),hl⟩
theorem c_compact{w W:World}{g cap n:Nat}{zs:List Int}(h:Own3 w W g cap n zs)(hbig:n<=17592186044416):Calls Tryz.prog 66 #[.slice (some ⟨g,0,none⟩) n cap] W fun e W2=>e = .returned (.slice (some ⟨g,0,none⟩) (Lib.compact zs).length cap)/\Own3 w W2 g cap (Lib.compact zs).length (Lib.compact zs):=by
 obtain⟨hb,hg,cur,hcur,hcap,hmax,hsz,ht,rfl⟩:=h;refine(Any.slices_Compact_int laysNm220 g 0 cap zs W (holds_of_blockI hcur ht) (by omega) hcap).mono fun e W2 ⟨he,q,hW⟩=>⟨he,?_⟩;subst hW;have hcl:=Lib.compact_length_le zs
 generalize Lib.compact zs=cs at hcl ⊢
 generalize hts:cs++List.replicate (zs.length-cs.length) (0:Int)=ts
 have htl:ts.length=zs.length:=by rw[<- hts,Fp,Rj];omega
 have b2:=below_sorted (n:=q) (os:=#[]) (d:=ts.toArray) hb hg;have h2:=heap_sortedI (n:=q) (os:=#[]) ts.toArray hcur;rw[grow_empty]at b2 h2;have h3:=take_putCellsI cur ts (by omega);refine⟨b2,hg,_,h2,by omega,hmax,by simp[putCells,hsz],?_,rfl⟩;have:=Cq (List.take cs.length) h3;rw[List.take_take,Nat.min_eq_left (by omega),<- List.map_take,<- hts,List.take_left' rfl]at this;rw[<- hts];exact this
def IntsOut(w w':World)(v:Value)(r:List Int):Prop:=
 (v = .slice none 0 0/\r=[])\/∃ g cap,v = .slice (some ⟨g,0,none⟩) r.length cap/\Own3 w w' g cap r.length r
set_option maxHeartbeats 4000000 in
set_option maxRecDepth 100000 in
theorem w_rising(a:Option Addr)(n c:Nat)(zs:List Int)(w:World)(hz:zs.length=n)(hn:a=none->n=0)(hbig:n<=17592186044416)
  (hc:0<n->∃ b off,a=some ⟨b,off,none⟩/\∀ j,j<n->w.cell? ⟨b,off+j,none⟩=some (.int .i64 (zs.getD j 0))) :
  Calls Tryz.prog 38 #[.slice a n c] w fun e w'=>∃ v,e = .returned v/\Below w.heap.size w w'/\IntsOut w w' v (Lib.compact (zs.mergeSort fun x y=>decide (x<=y))):=by
 cases a with
 | none=>
  obtain rfl:=hn rfl;obtain rfl:zs=[]:=zzL125.1 hz
  have hr:Lib.compact (([]:List Int).mergeSort fun x y=>decide (x<=y))=[]:=by simp[Lib.compact,Lib.compactUpTo]
  rw[hr];have h1:Calls Tryz.prog 64 #[.slice none 0 c] w fun e w'=>e = .returned (.slice none 0 0)/\w'=w:=Any.slices_Clone_int_nil laysNm215 0 c w;have h2:Calls Tryz.prog 65 #[.slice none 0 0] w fun e w'=>e = .returned (.tuple #[])/\w'=w:=Any.slices_Sort_int_none lays189 none 0 w;have h3:Calls Tryz.prog 66 #[.slice none 0 0] w fun e w'=>e = .returned (.slice none 0 0)/\w'=w:=Any.slices_Compact_int_empty laysNm220 none 0 w
  go_enter Tryz.func38,Tryz.ntmps38
  go_wp2_with (first
   | (go_at_call 64;refine h1.mono ?_;rintro e W ⟨rfl,rfl⟩)
   | (go_at_call 65;refine h2.mono ?_;rintro e W ⟨rfl,rfl⟩)
   | (go_at_call 66;refine h3.mono ?_;rintro e W ⟨rfl,rfl⟩))
  go_ret
  exact⟨_,rfl,Below.refl _ _,.inl ⟨rfl,rfl⟩⟩
 | some ad=>
  have h1:Calls Tryz.prog 64 #[.slice (some ad) n c] w fun e W=>∃ g cap,e = .returned (.slice (some ⟨g,0,none⟩) n cap)/\Own3 w W g cap n zs:=by
   by_cases h0:n=0
   ·subst h0;obtain rfl:zs=[]:=zzL125.1 hz;exact c_clone0 ad c w
   ·obtain⟨b,off,hab,hcell⟩:=hc (by omega);obtain rfl:=OI hab;exact c_clone b off n c zs w hz hbig hcell
  go_enter Tryz.func38,Tryz.ntmps38
  go_wp2_with (first
   | (go_at_call 64;refine h1.mono ?_;rintro e W ⟨g,cap,rfl,hO⟩)
   | (go_at_call 65;refine(c_sort hO hbig).mono ?_;rintro e W2 ⟨rfl,hO2⟩)
   | (go_at_call 66;refine(c_compact hO2 hbig).mono ?_;rintro e W3 ⟨rfl,hO3⟩))
  go_ret
  exact⟨_,rfl,hO3.1,.inr ⟨_,_,rfl,hO3⟩⟩
def insI(x:Int):List Int->List Int
 | []=>[x]
 | y::l=>if x<=y then x::y::l else y::insI x l
def isoI:List Int->List Int
 | []=>[]
 | x::l=>insI x (isoI l)
theorem insI_perm(x:Int):∀ l,(insI x l).Perm (x::l)
 | []=>.refl _
 | y::l=>by
  unfold insI
  split
  ·exact .refl _
  ·exact((insI_perm x l).cons y).trans (.swap x y l)
theorem insI_pw{x:Int}:∀{l:List Int},l.Pairwise (·<=·)->(insI x l).Pairwise (·<=·)
 | [],_=>by simp[insI]
 | y::l,h=>by
  have h':=zzL106.1 h;unfold insI
  split
  ·rename_i hxy
   exact zzL106.2 ⟨fun z hz=>by
    rcases zzL28.1 hz with rfl|hz
    ·exact hxy
    ·exact Int.le_trans hxy (h'.1 z hz),h⟩
  ·rename_i hxy
   refine zzL106.2 ⟨fun z hz=>?_,insI_pw h'.2⟩;rcases zzL28.1 ((insI_perm x l).mem_iff.1 hz) with rfl|hz
   ·omega
   ·exact h'.1 z hz
theorem isoI_perm:∀ l,(isoI l).Perm l
 | []=>.refl _
 | x::l=>(insI_perm x _).trans ((isoI_perm l).cons x)
theorem isoI_pw:∀ l,(isoI l).Pairwise (·<=·)
 | []=>.nil
 | x::l=>insI_pw (isoI_pw l)
theorem isoI_eq(l:List Int):isoI l=l.mergeSort fun x y=>decide (x<=y):=by
 refine List.Perm.eq_of_pairwise (le:=(·<=·)) (fun a b _ _ h1 h2=>Int.le_antisymm h1 h2) (isoI_pw l) ?_ ((isoI_perm l).trans (List.mergeSort_perm l _).symm);have:=List.pairwise_mergeSort (le:=fun(x y:Int)=>decide (x<=y)) (fun a b c h1 h2=>by simp at *;omega) (fun a b=>by simp;omega) l
 exact this.imp fun h=>by simpa using h
def x_rising(l:List Int):Option (List Int):=A6 (l.length<=17592186044416) (some (Lib.compact (isoI l)))
theorem xok_rising(l r:List Int)(h:x_rising l=some r):Spec Tryz.prog 38 [AV.list 1 (fun x=>[.int .i64 x]) (0:Int) l .none] [] (AV.list 1 (fun x=>[.int .i64 x]) (0:Int) r .none) []:=by
 obtain⟨hlen,h⟩:=Aa h;rw[isoI_eq]at h;obtain rfl:=OI h;refine⟨enters_of Tryz.func38 (by kernel_rfl) rfl,fun w I θ zs hargs _ hval _=>?_⟩;obtain⟨v,rfl,hv⟩:=repL_one hargs;obtain⟨_,a,cap,us,rfl,hcap,hmax,hz,hnn,h1,hl,hr⟩:=hv.slice_val.slice_inv
 have hint:∀ i,i<l.length->us i = .int .i64 (l.getD i 0):=fun i hi=>by
  have:=hr i 0 hi (by omega);rw[V4,P0]at this;have h2:RepV I w (us i) (.int .i64 (l.getD i 0)):=this;exact Rep.int_inv (own:=Ak []) (θ:=θ) (.val _ _ h2)
 refine(w_rising a l.length cap l w rfl (fun ha=>by have:=hnn ha;omega) hlen (fun hp=>?_)).mono fun e w' ⟨v,he,hb,hout⟩=>?_
 ·obtain⟨b,rfl,hs,_,hcell⟩:=hz hp;obtain⟨blk,off,spot⟩:=b;simp only at hs hcell;subst hs;exact⟨blk,off,rfl,fun j hj=>by rw[hcell j (by omega),hint j hj]⟩
 ·generalize Lib.compact (l.mergeSort fun x y=>decide (x<=y))=r at hout ⊢
  rcases hout with⟨rfl,rfl⟩|⟨g,cap',rfl,_,hg,cur,hcur,hc1,hc2,hc3,htake,_⟩
  ·exact⟨_,_,θ,he,Aam hb hval (N:=fun _ _=>False) (fun _ _ h=>h.elim),.val _ _ (.slice none 0 0 1 _ (fun _=>undef) (zzL9 _) (Rn _) (fun h=>by cases h) (fun _=>rfl) (fun j hj=>by simp at hj) (fun i hi=>by cases hi) (fun i c hi=>by cases hi))⟩
  ·have hcell:∀ j,j<r.length->w'.cell? ⟨g,j,none⟩=some (.int .i64 (r.getD j 0)):=fun j hj=>by
    rw[Ob _ _ _ cur 3 (0,0) hcur]
    have h2:(cur.toList.take r.length)[j]?=(r.map (Value.int .i64))[j]?:=by rw[htake]
    rw[List.getElem?_take_of_lt hj,Array.getElem?_toList]at h2;rw[h2];simp[List.getD,hj]
   refine⟨_,_,θ,he,Aam hb hval (N:=fun b o=>b=g/\o<r.length) (fun b o ⟨hbg,ho⟩=>⟨by omega,by subst hbg;exact⟨_,hcell o ho⟩⟩),.val _ _ (.slice (some ⟨g,0,none⟩) r.length cap' 1 _ (fun j=>.int .i64 (r.getD j 0)) hc1 hc2 (fun _=>⟨⟨g,0,none⟩,rfl,rfl,fun j hj=>.inr ⟨rfl,by simpa using hj⟩,fun j hj=>by rw[Hy];exact hcell j (by omega)⟩) (fun h=>by cases h) (fun _ _=>rfl) (fun _ _=>rfl) (fun i c hi hc=>?_))⟩
   obtain rfl:c=0:=by omega
   rw[V4,P0];exact .int _ _
def I9:=[30000,37006,9100005]
def Aaj:=[(30000,30000),(37006,37006),(9100005,9100005)]
def Je:=[30000,37006]
def Rh:=[3,30000,37006,9100005]
def O0:=[2,5,6,25,36007]
def Jz:=[1,5,5003]
def T7:=[6,30000,37006,9100005]
def F5:=[2,3]
def Ko:=[1,3,4]
def zzN9:=[(30000,30000),(37006,37006)]
def J6:=[2,13,21]
def Pp:=[8,30000,37006]
def Ln:=[1,3,4,5]
def Mf:=[1,7,8,9]
def Wq:=[30000,37006,13000005]
def zzN15:=[3,5,30000,37006,9100005]
def zzN16:=[0,4,6,21,22,30,31,32]
def Qz:=[1,3,4,5,6]
def zzN18:=[2,5,6,7,26,27,28]
def Tg:=[2,7,77,70077]
def Kw:=[37,75]
def Mg:=[1,5003]
def zzN22:=[1,3,5,21,22,23]
def zzN23:=[5,30000,37006,9100005]
def zzN24:=[0,2,3,8,9,16,17,18,54,55,56,62,63,64]
def zzN25:=[0,2,3,5,16,17,18,24,25,26,31,32,33]
def Ro:=[1,6,5003]
def Li:=[3,14]
def Jy:=[0,1]
def zzN29:=[2,5,6,7,8,9]
def Ow:=[0,1,5]
def Wr:=[1,2,7,5005]
def zzN32:=[1,2,4,5,6,7,8,10]
def Kn:=[1,3]
def zzN34:=[3,9,30000,37006,9100005]
def Zd:=[2,5,6,7,8]
def zzN36:=[0,2,3,16,17,18,24,25,26]
def zzN37:=[0,2,3,16,17,18,54,55,56]
def Sw:=[2,33,59]
def zzN39:=[(30000,30000),(37006,37006),(13000005,9200005)]
def zzN40:=[(30000,30000),(37006,37006),(9300005,9200005)]
def zzN41:=[1,3,5,6,7,21,22,23,50,51,52]
def Th:=[10,70010]
def zzN43:=[1,3,7,5005]
def zzN44:=[1,2,7,5005,5008]
def zzN45:=[1,3,5,6,7,21,22,23,50,51]
def M5:=[1,2]
def zzN47:=[1,5,7,11,12]
def zzN48:=[2,35,37,46,51]
def zzN49:=[1,3,5,6,7,10,11,21,22,23,50,51]
def zzN50:=[1,3,5,6,7,10,21,22,23,50,51,63]
def zzN51:=[1,7,8,9,10]
def zzN52:=[3,31,30000,37006]
def zzN53:=[2,6,17,18,19]
def zzN54:=[1,5,7,11,12,13]
def zzN55:=[1,2,5,6,7,8,9,10]
def zzN56:=[1,6,7,8,9]
def zzN57:=[3,4,11,12,13,18,19,20]
def zzN58:=[0,5,12,13,14,18,19,20]
def Uu:=[2,5,6]
def Uv:=[1,4,7]
def zzN61:=[6,7,30000,37006,9100005]
def zzN62:=[1,5,7,11,12,13,14,15]
def zzN63:=[1,3,5,6,7,9,21,22,23,50,51]
def zzN64:=[1,3,7,10,5005]
def zzN65:=[1,7,8,9,16]
def zzN66:=[0,21,22]
def zzN67:=[31,30000,37006]
def P1:=[1,4]
def zzN69:=[1,3,5,6]
def zzN70:=[1,3,5005]
def zzN71:=[1,2,5,6,7,8]
def zzN72:=[0,2,3,16,17,18]
def zzN73:=[1,2,4,6,7,8,9]
def zzN74:=[33,59,103]
def zzN75:=[0,4,6,21,22,30,31,32,33]
def zzN76:=[0,4,6,21,22,30,31,32,40]
def Ze:=[2,4,6]
def Rp:=[0,3]
def zzN79:=[0,5,8,9,10]
def zzN80:=[0,4,6,8,21,22,30,31,32]
def zzN81:=[1,5,72,5003]
def zzN82:=[2,4,6,9]
def zzN83:=[2,3,7,8,9,10]
def zzN84:=[1,2,6,8,9,10]
def zzN85:=[(30000,30000),(37006,37006),(8,9200005)]
def zzN86:=[1,3,4,5,9,10,11]
def zzN87:=[1,3,7,17]
def zzN88:=[1,2,5]
def zzN89:=[0,16,17,18]
def zzN90:=[0,2,4,7,8,9]
def zzN91:=[1,2,4,5,6]
def zzN92:=[1,5,7,5003]
def zzN93:=[2,5,6,7,8,9,10]
def zzN94:=[6,8,30000,37006,9100005]
def zzN95:=[3,30000,37006]
def zzN96:=[2,4,5,18,19,20]
def zzN97:=[0,6,8,9,10,11,12,13]
def zzN98:=[1,3,4,5,6,7,8]
def zzN99:=[2,3,5]
def Za:=[0,1,10]
def zzN101:=[3,11,12,13]
def zzN102:=[0,12,13,14]
def zzN103:=[(6004,20000)]
def zzN104:=[6,18,19,25]
def zzN105:=[0,2,4,7,8]
def zzN106:=[2,3,7,8,9]
def zzN107:=[1,3,5,6,7]
def zzN108:=[1,3,5,6,8]
def zzN109:=[1,3,4,5,9]
def zzN110:=[1,5,7,11,12,13,14]
def zzN111:=[1,2,4,6,7]
def zzN112:=[3,12,13,14]
def zzN113:=[2,5,6,7]
def Rg:=[3,4]
def zzN115:=[0,1,7,8]
def zzN116:=[18,19,20]
def Zb:=[2,5006]
def zzN118:=[1,2,4,5,6,7,8,9]
def T0:=[2,16]
def zzN120:=[2,5,6,7,9,10,26,27,28,44]
def zzN121:=[1,4,22]
def zzN122:=[1,3,17]
def zzN123:=[5,7,12,13]
def T3:=[3,73]
def zzN125:=[30000,37006,9300005]
def Sv:=[4,5]
def zzN127:=[0,1,5,6,8,9,10]
def zzN128:=[2,35,37]
def zzN129:=[0,1,3,9,10]
def zzN130:=[0,3,4]
def zzN131:=[0,1,5,14,15,16]
def zzN132:=[1,3,5]
def zzN133:=[2,3,6]
def zzN134:=[1,2,4,5,6,7,8]
def zzN135:=[1,2,6]
def zzN136:=[2,5,6,7,9,10,26,27,28]
def zzN137:=[3,10,11,12]
def T4:=[2,5]
def zzN139:=[0,15,16,17]
def zzN140:=[0,21,22,23]
def T5:=[6,7]
def T6:=[5,6]
def zzN143:=[0,6,8,9,11,49]
def zzN144:=[0,2,4,5]
def zzN145:=[1,2,5005]
def zzN146:=[2,3,7,8]
def zzN147:=[2,3,8005]
def zzN148:=[2,5,6,7,26,27,28,29]
def Zc:=[2,33]
def zzN150:=[5,18,19]
def zzN151:=[6,18,19]
def zzN152:=[1,2,15,16,17]
def zzN153:=[2,5,6,7,9,26,27,28]
def zzN154:=[0,1,32,33,34]
def zzN155:=[10,30000,37006,9100005]
def zzN156:=[1,3,7,9,5005]
def zzN157:=[1,3,5,6,7,8]
def zzN158:=[1,2,4,6,7,8]
def zzN159:=[2,5,6,25]
def zzN160:=[2,5,6,7,8,9,10,60]
def zzN161:=[4,30000,37006,9100005]
def zzN162:=[0,3,4,14,15]
def zzN163:=[0,4,6,21,22]
def zzN164:=[1,4,9,10,11]
def zzN165:=[0,2,7,8]
def zzN166:=[0,1,5,6]
def zzN167:=[(34001,34001)]
def zzN168:=[18,19]
def zzN169:=[1,3,4,6]
def zzN170:=[2,7,77,60077,70077]
def zzN171:=[15,18]
def zzN172:=[5,6,7]
def zzN173:=[1,23,24,25]
def zzN174:=[0,1,2]
def zzN175:=[1,2,5,6,7]
def zzN176:=[0,2,7]
def zzN177:=[3,38,39,40]
def zzN178:=[0,37,38,39]
def zzN179:=[0,2,4,5,6]
def zzN180:=[(5003,20000)]
def zzN181:=[2,35,37,46]
def zzN182:=[2,5,7]
def zzN183:=[0,1,12,13]
def zzN184:=[0,6,21,22]
set_option maxRecDepth 100000
set_option maxHeartbeats 2000000
def Au(x:Int):List AV:=[(.int .i64 x)]
def Kg(x:List Int):List AV:=[(AV.list 1 Au 0 x .none)]
structure H7 where
 Bits:Int
 Dst:Int
 From:List Int
 Args:List Int
 deriving Inhabited,DecidableEq
def Xt(x:H7):List AV:=[(.int .i64 x.Bits),(.int .i64 x.Dst),(AV.list 1 Au 0 x.From .none),(AV.list 1 Au 0 x.Args .none)]
def eLTPhi(x:List H7):List AV:=[(AV.list 4 Xt default x .none)]
def eU64(x:Int):List AV:=[(.int .u64 x)]
structure C1 where
 Kind:Int
 Bits:Int
 Lanes:Int
 Dst:Int
 Args:List Int
 Imm:Int
 deriving Inhabited,DecidableEq
def Nv(x:C1):List AV:=[(.int .i64 x.Kind),(.int .i64 x.Bits),(.int .i64 x.Lanes),(.int .i64 x.Dst),(AV.list 1 Au 0 x.Args .none),(.int .u64 x.Imm)]
def eLTOp(x:List C1):List AV:=[(AV.list 6 Nv default x .none)]
structure Lz where
 Kind:Int
 Arg:Int
 To:List Int
 deriving Inhabited,DecidableEq
def eTEnd(x:Lz):List AV:=[(.int .i64 x.Kind),(.int .i64 x.Arg),(AV.list 1 Au 0 x.To .none)]
structure Ad where
 Phis:List H7
 Ops:List C1
 End:Lz
 deriving Inhabited,DecidableEq
def Iy(x:Ad):List AV:=[(AV.list 4 Xt default x.Phis .none),(AV.list 6 Nv default x.Ops .none),(.int .i64 x.End.Kind),(.int .i64 x.End.Arg),(AV.list 1 Au 0 x.End.To .none)]
def eLTBlock(x:List Ad):List AV:=[(AV.list 5 Iy default x .none)]
structure TFunc where
 Params:List Int
 Ret:Int
 Blocks:List Ad
 deriving Inhabited,DecidableEq
def eTFunc(x:TFunc):List AV:=[(AV.list 1 Au 0 x.Params .none),(.int .i64 x.Ret),(AV.list 5 Iy default x.Blocks .none)]
structure THammock where
 At:Int
 Then:Int
 Else:Int
 Join:Int
 deriving Inhabited,DecidableEq
def eTHammock(x:THammock):List AV:=[(.int .i64 x.At),(.int .i64 x.Then),(.int .i64 x.Else),(.int .i64 x.Join)]
def Bp(x:(Int×Int)):List AV:=[(.int .i64 x.1),(.int .i64 x.2)]
structure Jf where
 block:Int
 at_:Int
 deriving Inhabited,DecidableEq
def eTplace(x:Jf):List AV:=[(.int .i64 x.block),(.int .i64 x.at_)]
structure Ar where
 v:Int
 shape:(Int×Int)
 place:Jf
 deriving Inhabited,DecidableEq
def Nn(x:Ar):List AV:=[(.int .i64 x.v),(.int .i64 x.shape.1),(.int .i64 x.shape.2),(.int .i64 x.place.block),(.int .i64 x.place.at_)]
structure TGraph where
 Succ:List (List Int)
 Pred:List (List Int)
 deriving Inhabited,DecidableEq
def eTGraph(x:TGraph):List AV:=[(AV.list 1 Kg [] x.Succ .none),(AV.list 1 Kg [] x.Pred .none)]
def eB(x:Bool):List AV:=[(.bool x)]
structure Aj where
 shape:(Int×Int)
 place:Jf
 deriving Inhabited,DecidableEq
def eTvalue(x:Aj):List AV:=[(.int .i64 x.shape.1),(.int .i64 x.shape.2),(.int .i64 x.place.block),(.int .i64 x.place.at_)]
structure Bz where
 V:Int
 Block:Int
 At:Int
 Shape:(Int×Int)
 deriving Inhabited,DecidableEq
def Oq(x:Bz):List AV:=[(.int .i64 x.V),(.int .i64 x.Block),(.int .i64 x.At),(.int .i64 x.Shape.1),(.int .i64 x.Shape.2)]
structure Cp where
 V:Int
 Block:Int
 At:Int
 Shape:(Int×Int)
 deriving Inhabited,DecidableEq
def N1(x:Cp):List AV:=[(.int .i64 x.V),(.int .i64 x.Block),(.int .i64 x.At),(.int .i64 x.Shape.1),(.int .i64 x.Shape.2)]
def eLB(x:List Bool):List AV:=[(AV.list 1 eB false x .none)]
theorem mix:Tryz.prog.follows .mixedOrders=true:=by kernel_rfl
def Hj:List Ad:=([(⟨([]:List H7),([]:List C1),(⟨(2:Int),(1:Int),([(1:Int),(2:Int)]:List Int)⟩:Lz)⟩:Ad),(⟨([]:List H7),([(⟨(7:Int),(1:Int),(1:Int),(2:Int),([(1:Int),(1:Int)]:List Int),(0:Int)⟩:C1)]:List C1),(⟨(1:Int),(0:Int),([(3:Int)]:List Int)⟩:Lz)⟩:Ad),(⟨([]:List H7),([]:List C1),(⟨(1:Int),(0:Int),([(3:Int)]:List Int)⟩:Lz)⟩:Ad),(⟨([]:List H7),([]:List C1),(⟨(0:Int),(1:Int),([]:List Int)⟩:Lz)⟩:Ad)]:List Ad)
def Z1:=fun za zb zc zd zf zg zm=>((30000,.row 103 [(AV.list 1 Au 0 za .none),(.int .i64 zb),(AV.list 5 Iy default zc .none),(.int .i64 zd),(AV.list 1 Au 0 zf .none),(.omap zg),(AV.list 5 Nn default zm (.own 37006))]):Nat×Own)
def Z2:=fun za=>(⟨[],[],(.bool za),[],[],[]⟩:U0)
def Z3:=fun za zb zc zd zf zg zm=>([(30000,.row 103 [(AV.list 1 Au 0 za .none),(.int .i64 zb),(AV.list 5 Iy default zc .none),(.int .i64 zd),(AV.list 1 Au 0 zf .none),.nilm,(AV.list 5 Nn default zg (.own 37006))]),(37006,.tok 5 149 zm)]:List (Nat×Own))
def Z4:=fun za (zb:List Int)=>((za,.arr 1 3 zb.length (fun i=>Au (zb.getD i 0))):Nat×Own)
def Z5:=fun za=>((AV.list 2 Bp ((0:Int),(0:Int)) za .none):AV)
def Z6:=fun za zb zc=>((.clo 60 [] [(.rpo [(AV.list 5 Iy default za .none)]),(.rpo [(AV.list 1 Kg [] zb .none)]),(.rpo [(.int .i64 zc)])]):AV)
def Z7:=fun za=>((.int .i64 za):AV)
def Z8:=fun za=>((AV.list 1 Au 0 za .none):AV)
def Z9:=fun za zb zc zd zf zg zm zn=>([(Z1 za zb zc zd zf 9100005 zg),(37006,.tok 5 149 zm),(9100005,.obj (.map false .i64 zn))]:List (Nat×Own))
def Z10:=fun za zb zc zd=>((za,.arr 1 22 zb (M1 1 Au (0:Int) zc (Tag.fam zd))):Nat×Own)
def Z11:=fun za (zb:List Bool)=>((za,.arr 1 4 zb.length (fun i=>eB (zb.getD i false))):Nat×Own)
def Pq:=((.int .i64 (0:Int)):AV)
def Z13:=fun za zb=>((AV.list 1 Au 0 za (.own zb)):AV)
def Z14:=fun za zb zc zd zf zg zm=>([(Z1 za zb zc zd zf 9100005 zg),(37006,.tok 5 149 zm)]:List (Nat×Own))
def Z15:=fun za (zb:List Int) (zc:List Int)=>((.slice 1 (bif za then zb.length else zc.length) (fun i=>bif za then Au (zb.getD i 0) else Au (zc.getD i 0)) .none):AV)
def Z16:=fun za=>((AV.list 5 Iy default za .none):AV)
def Ra:=((2,(.ptr 2 0)):Nat×AV)
def Z18:=fun za=>((3,(AV.list 5 N1 default za (.own 5003))):Nat×AV)
def Z19:=fun za=>(⟨[],[],(Z7 za),[],[],[]⟩:U0)
def Z20:=fun za=>((AV.list 1 Kg [] za .none):AV)
def Z21:=fun za zb=>((AV.list 1 eB false za (.own zb)):AV)
def U1:=fun za=>((.agg (eTvalue za)):AV)
def Z23:=fun za zb=>(⟨[],[],(.tuple [(.agg (eTHammock za)),(.bool zb)]),[],[],[]⟩:U0)
def Z24:=fun za zb zc zd zf zg=>((30000,.row 103 [(Z8 za),(Z7 zb),(Z16 zc),(Z7 zd),(Z8 zf),(.omap 8),(AV.list 5 Nn default zg (.own 37006))]):Nat×Own)
def Z25:=((AV.list 1 Au 0 ([]:List Int) .exact):AV)
def Z26:=fun za=>((AV.list 1 Au 0 ([za]:List Int) .exact):AV)
def Z27:=fun za zb zc zd zf zg zm zn=>(⟨[(30000,30000),(37006,37006),(9100005,9100005)],[],(.tuple []),(Z9 za zb zc zd zf zg zm zn),[],[]⟩:U0)
def Z28:=(⟨[(4,(AV.list 1 Au 0 ([]:List Int) (.own 6004)))],[(6004,.tok 1 3 (([]:List Int).length))],[]⟩:St)
def Z29:=fun za zb zc zd zf=>((37,.arr 1 47 za (fun i_=>AV.eraseAll zb ((G5 zc zd 0 [(.vsl 46 zf)]) i_))):Nat×Own)
def Xo:=((1,(.ptr 1 0)):Nat×AV)
def Z31:=fun za zb zc zd=>([(za,(AV.list 5 N1 default zb .exact)),(zc,(AV.list 5 N1 default (zd++zb) (.own 5003)))]:List (Nat×AV))
def Z32:=fun za (zb:List Ar) (zc:List Ar)=>((.slice 5 (bif za then zb.length else zc.length) (fun i=>bif za then Nn (zb.getD i default) else Nn (zc.getD i default)) (.own 37006)):AV)
def Z33:=fun za zb=>([(66,(AV.list 4 eTHammock default ([za]:List THammock) .exact)),(67,(AV.list 4 eTHammock default (zb++([za]:List THammock)) (.own 5005)))]:List (Nat×AV))
def Z34:=((AV.list 2 Bp ((0:Int),(0:Int)) ([]:List (Int×Int)) .exact):AV)
def Z35:=fun za=>((.agg (eTFunc za)):AV)
def Z36:=fun za zb=>(⟨[],[],(.tuple [(.agg (eTGraph za)),(Z7 zb)]),[],[],[]⟩:U0)
def Z37:=fun za=>((3,(AV.list 5 Oq default za (.own 5003))):Nat×AV)
def Qc:=fun za zb=>((za,.tok 1 4 zb):Nat×Own)
def Z39:=fun za zb=>((AV.list 2 Bp ((0:Int),(0:Int)) za (.own zb)):AV)
def Z40:=fun za zb=>((.agg (eTvalue (H4 (default:Aj) za zb))):AV)
def Z41:=fun za zb=>((AV.list 6 Nv default za (.own zb)):AV)
def Z42:=((AV.list 1 Kg [] ([]:List (List Int)) .exact):AV)
def Z43:=((.slice 0 0 (fun _=>[]) .exact):AV)
def Z44:=fun za=>(⟨[],[],(Z5 za),[],[],[]⟩:U0)
def Z45:=fun za zb=>((AV.list 4 eTHammock default za (.own zb)):AV)
def Z46:=fun za zb zc=>(⟨[],[],(.tuple [(Z7 za),(Z7 zb),(.bool zc)]),[],[],[]⟩:U0)
def Z47:=fun za zb zc=>(⟨[],[(20000,za)],(Z13 zb 20000),[(20000,.tok 1 3 zc)],[],[]⟩:U0)
def Z48:=fun za zb zc zd=>([(za,(AV.list 5 Oq default zb .exact)),(zc,(AV.list 5 Oq default (zd++zb) (.own 5003)))]:List (Nat×AV))
def Z49:=fun za=>((.agg (eTHammock za)):AV)
def Z50:=fun za zb=>((AV.list 1 Kg [] za (.own zb)):AV)
def Ti:=fun za zb=>((7,(.vsl za zb)):Nat×AV)
def Mj:=fun za zb zc=>((za,.tok 5 zb zc):Nat×Own)
def Z53:=fun za zb=>((7,.row 41 [za,(.vsl 77 zb)]):Nat×Own)
def Z54:=fun za=>((.int .i64 (za:Int)):AV)
def Z55:=((AV.list 6 Nv default ([]:List C1) .exact):AV)
def Z56:=fun za (zb:List Ad) (zc:List Ad)=>((.slice 5 (bif za then zb.length else zc.length) (fun i=>bif za then Iy (zb.getD i default) else Iy (zc.getD i default)) .none):AV)
def Z57:=fun za zb zc zd zf zg zm zn zp=>(⟨[(30000,30000),(37006,37006),(9100005,9100005)],[],(.agg (eTplace za)),(Z9 zb zc zd zf zg zm zn zp),[],[]⟩:U0)
def M6:=fun za zb=>((2,.row za zb):Nat×Own)
def Z59:=fun za zb zc zd zf zg=>((1,.row 57 [(Z7 za),(Z7 zb),(Z7 zc),(Z7 zd),(Z8 zf),(.int .u64 zg)]):Nat×Own)
def Z60:=((.ptr 30000 0):AV)
def Z61:=fun za=>((.agg (eTGraph za)):AV)
def Z62:=fun za (zb:List Int) (zc:List Int)=>((.slice 1 (bif (za==true) then zb.length else zc.length) (fun i=>bif (za==true) then Au (zb.getD i 0) else Au (zc.getD i 0)) .none):AV)
def Z63:=fun za zb zc zd zf zg zm zn=>(⟨[(30000,30000),(37006,37006)],[],(.bool za),(Z3 zb zc zd zf zg zm zn),[],[]⟩:U0)
def Z64:=(⟨[(2,(AV.list 2 Bp ((0:Int),(0:Int)) ([]:List (Int×Int)) (.own 6002)))],[(6002,.tok 2 88 (([]:List (Int×Int)).length))],[]⟩:St)
def Z65:=fun(za:List Int)=>((6,.arr 1 128 64 (fun i=>Au (za.getD i 0))):Nat×Own)
def Z66:=fun za=>((2,.row 41 [za,za]):Nat×Own)
def Z67:=fun(za:List (Int×Int))=>([(30,.arr 2 88 za.length (fun i=>Bp (za.getD i ((0:Int),(0:Int)))))]:List (Nat×Own))
def Z68:=fun za zb zc=>((.int .i64 (bif za then zb else zc)):AV)
def Z69:=fun za=>([(.agg (Nv za))]:List AV)
def Z70:=((AV.list 1 Kg [] ([]:List (List Int)) .none):AV)
def Z71:=fun za zb zc zd zf zg zm zn zp=>(⟨[(30000,30000),(37006,37006),(9100005,9100005)],[],(.bool za),(Z9 zb zc zd zf zg zm zn zp),[],[]⟩:U0)
def Z72:=fun za=>(⟨[],[],(.agg (Bp za)),[],[],[]⟩:U0)
def Z73:=((6,(.vpt 6 64 0 0)):Nat×AV)
def Z74:=fun za zb zc=>(⟨[(4,(Z13 za zb))],[(zb,.tok 1 3 zc)],[]⟩:St)
def Z75:=fun za zb=>([(.int .u64 za),(.int .u64 zb)]:List AV)
def Z76:=((.int .i64 (1:Int)):AV)
def Z77:=fun za zb=>(⟨[],[],(.tuple [(Z7 za),(Z7 zb)]),[],[],[]⟩:U0)
def Z78:=fun za zb zc zd=>((37,.arr 1 47 za (G5 zb zc 0 [(.vsl 46 zd)])):Nat×Own)
def Z79:=((5,(.ptr 5 0)):Nat×AV)
def Z80:=((5,(.vpt 5 64 0 0)):Nat×AV)
def Z81:=fun za zb=>(⟨[(30000,30000),(37006,37006)],[],(Z7 za),zb,[],[]⟩:U0)
def Z82:=fun za=>((6,.arr 1 128 64 za):Nat×Own)
def Z83:=fun za=>((5,.arr 1 82 64 za):Nat×Own)

def Q5:AV:=Z76
def Q9:AV:=Pq
def Q7:AV:=Z43
def Q8:AV:=Z25
def Q4:AV:=Z55
def Q3:AV:=(AV.list 4 Xt default ([]:List H7) .exact)
def Q2:AV:=(AV.list 1 Au 0 ([(3:Int)]:List Int) .exact)
def Q6:AV:=(AV.list 1 Au 0 ([(1:Int),(2:Int)]:List Int) .exact)
def Q10:AV:=(AV.list 5 Iy default Hj .exact)
def Q11:=(⟨[(0,(.ptr 0 0))],[(0,.row 25 [(AV.list 1 Au 0 ([(1:Int)]:List Int) .exact),Q5,Q10])],[]⟩:St)
def Q1:AV:=(AV.list 6 Nv default ([(⟨(7:Int),(1:Int),(1:Int),(2:Int),([(1:Int),(1:Int)]:List Int),(0:Int)⟩:C1)]:List C1) .exact)
def m_locksteplaw14_diamond :Option TFunc:=
 (some (⟨([(1:Int)]:List Int),(1:Int),Hj⟩:TFunc))
theorem Tw  (r:TFunc) (h:m_locksteplaw14_diamond=some r):Spec Tryz.prog 25 [] [] (Z35 r) []:=by
 refine Ac mix Tryz.func25 (fun Γ hq=>?_);unfold m_locksteplaw14_diamond at h;refine Af hq [0] [0] ?_;refine gR hq [0] [0] [(1,(AV.list 1 Au 0 ([(1:Int)]:List Int) .exact)),(2,Q6),(4,(.agg [Q3,Q4,(.int .i64 (2:Int)),Q5,Q6])),(5,(AV.list 1 Au 0 ([(1:Int),(1:Int)]:List Int) .exact)),(7,Q1),(8,Q2),(10,(.agg [Q3,Q1,Q5,Q9,Q2])),(11,Q2),(13,(.agg [Q3,Q4,Q5,Q9,Q2])),(14,(.agg [Q9,Q5,Q8])),(15,(.agg [Q3,Q4,Q9,Q5,Q8])),(16,Q10)] [] (ci (Bx 1 Au (0:Int) ([(1:Int)]:List Int)) (ci (Bx 1 Au (0:Int) ([(1:Int),(2:Int)]:List Int)) (ci (show(AVle (.agg [Q7,Q7,(.int .i64 (2:Int)),Q5,Q6]) (.agg [Q3,Q4,(.int .i64 (2:Int)),Q5,Q6])) from(AVle.agg (.cons Hg (.cons Hg (.cons (AVle.refl _) (.cons (AVle.refl _) (.cons (AVle.refl _) .nil))))))) (ci (Bx 1 Au (0:Int) ([(1:Int),(1:Int)]:List Int)) (ci (Bx 6 Nv (default:C1) ([(⟨(7:Int),(1:Int),(1:Int),(2:Int),([(1:Int),(1:Int)]:List Int),(0:Int)⟩:C1)]:List C1)) (ci (Bx 1 Au (0:Int) ([(3:Int)]:List Int)) (ci (show(AVle (.agg [Q7,Q1,Q5,Q9,Q2]) (.agg [Q3,Q1,Q5,Q9,Q2])) from(AVle.agg (.cons Hg (.cons (AVle.refl _) (.cons (AVle.refl _) (.cons (AVle.refl _) (.cons (AVle.refl _) .nil))))))) (ci (Bx 1 Au (0:Int) ([(3:Int)]:List Int)) (ci (show(AVle (.agg [Q7,Q7,Q5,Q9,Q2]) (.agg [Q3,Q4,Q5,Q9,Q2])) from(AVle.agg (.cons Hg (.cons Hg (.cons (AVle.refl _) (.cons (AVle.refl _) (.cons (AVle.refl _) .nil))))))) (ci (show(AVle (.agg [Q9,Q5,Q7]) (.agg [Q9,Q5,Q8])) from(AVle.agg (.cons (AVle.refl _) (.cons (AVle.refl _) (.cons Hg .nil))))) (ci (show(AVle (.agg [Q7,Q7,Q9,Q5,Q8]) (.agg [Q3,Q4,Q9,Q5,Q8])) from(AVle.agg (.cons Hg (.cons Hg (.cons (AVle.refl _) (.cons (AVle.refl _) (.cons (AVle.refl _) .nil))))))) (c1 (Bx 5 Iy (default:Ad) Hj))))))))))))) ?_;refine Ri Q11 ?_;cases h;exact gK (e:=.ret) (J7 [] (show Le Γ _ (⟨[(0,(.ptr 0 0))],[(0,.row 25 [(AV.list 1 Au 0 ([(1:Int)]:List Int) .none),Q5,(AV.list 5 Iy default Hj .none)])],[]⟩:St) from Le.trans (B2 (st':=Q11) [0] [0] hq) (Jo (.cons (AVle.refl _) .nil) (.row (.cons AVle.untag (.cons (AVle.refl _) (.cons AVle.untag .nil))) .nil))))
def Mo(a0:TFunc):(Int×Int)->Option (LR (Int×Int) Int):=
 fun((i1,i2):(Int×Int))=>(bif (decide (i2<(a0.Blocks.length:Int))) then(A6 (A2 i2 a0.Blocks.length) (some (.next ((w64 (i1+(w64 ((((a0.Blocks.getD i2.toNat default).Phis).length:Int)+(((a0.Blocks.getD i2.toNat default).Ops).length:Int))))),(w64 (i2+1)))))) else(some (.done i1)))
def Qo(a0:TFunc):Option Int:=
 ((Ah (Mo a0) ((a0.Blocks.length:Int),(0:Int))).bind (fun x5=>(some x5)))
theorem ok_code_Size(a0:TFunc)(r:Int)(h:Qo a0=some r):Spec Tryz.prog 135 [(Z35 a0)] [] (.int .i64 r) []:=by
 refine Ac mix Tryz.func135 (fun Γ hq=>?_);unfold Qo at h;refine Af hq [1] [1] ?_;refine Af hq Kn [1] ?_;refine Af hq zzN137 [] ?_;obtain⟨x5,hx5,h⟩:=bind_some h;refine gL hq hx5 zzN137 [] (fun u (i1,i2)=>(Eu u [(3,(Z7 i1)),(12,(Z7 i2))] [])) (fun u i3=>aG Γ (.exit 0) (⟨[(3,(Z7 i3))],[],[]⟩:St)) ?_ ?_
 ·rintro⟨i1,i2⟩ y h;unfold Mo at h;refine Af hq [3,10,11,12,13] [] ?_;refine gC h ?_ ?_<;>intro h
  ·obtain⟨hc4,h⟩:=Aa h;refine gR hq [3,5,10,11,12] [5] [] [] (c1 hc4) ?_;refine Af hq zzN137 [] ?_;refine Af hq zzN137 [] ?_;cases h;exact gN Cr
  ·cases h;exact gO (Bk (B2 [3] [] hq))
 ·clear hx5;refine gA ?_;refine Af hq [2] [] ?_;obtain rfl:=OI h;exact Cf []
def Ii(aB:List Int):Int->Option (LR Int (Unit ⊕ Bool)):=
 fun(i1:Int)=>(bif (decide (i1<(aB.length:Int))) then(A6 (A2 i1 aB.length) (bif (bif (decide (((aB.getD i1.toNat 0):Int)<0)) then true else(decide (((2147483647:Int):Int)<(aB.getD i1.toNat 0)))) then(some (.done (.inr false))) else(some (.next (w64 (i1+1)))))) else(some (.done (.inl ()))))
def K_code_numbersFit(Γ:Iw)(aB:List Int)(r:Bool):Exit->St->Prop:=fK Tryz.prog Γ Tryz.f136.results.toList [] (.bool r) []
def D6(aB:List Int):Option Bool:=
 ((Ah (Ii aB) (0:Int)).bind (fun x3=>(match x3 with|(.inl _)=>(some true)|(.inr r5)=>(some r5))))
theorem H5(aB:List Int)(r:Bool)(h:D6 aB=some r):Spec Tryz.prog 136 [(Z8 aB)] [] (.bool r) []:=by
 refine Ac mix Tryz.func136 (fun Γ hq=>?_);unfold D6 at h;refine Af hq [0] [] ?_;refine Af hq zzN172 [] ?_;obtain⟨x3,hx3,h⟩:=bind_some h;refine gL hq hx3 zzN172 [] (fun u i1=>(Eu u [(7,(Z7 i1))] [])) (fun u x_=>match x_ with|(.inl _)=>aG Γ (.exit 0) (⟨[],[],[]⟩:St)|(.inr r_)=>aR (K_code_numbersFit Γ aB r_)) ?_ ?_
 ·intro i1 y h;unfold Ii at h;refine Af hq [5,6,7,8] [] ?_;refine gC h ?_ ?_<;>intro h
  ·obtain⟨hc2,h⟩:=Aa h;refine gR hq [4,5,6,7] [] [] [] (c1 hc2) ?_;refine gR hq [5,6,7,16] [] [] [] (ci (gI ((decide (((aB.getD i1.toNat 0):Int)<0))==false)) (c1 (J1 (decide (((aB.getD i1.toNat 0):Int)<0))))) ?_;refine gC h ?_ ?_<;>intro h
   ·refine Af hq [2] [] ?_;cases h;exact gO (L0 (J7 [] (Le.refl _ _)))
   ·refine Af hq zzN172 [] ?_;cases h;exact gN Cr
  ·cases h;exact gO (Bk (B2 [] [] hq))
 ·clear hx3;rcases x3 with _|r5
  ·refine gA ?_;refine Af hq [2] [] ?_;obtain rfl:=OI h;exact Cf []
  ·refine N2 (fun st' hk=>?_);obtain rfl:=OI h;exact gK hk
def Hd(aB:List Int):Option Bool:=
 ((bif ((decide (((aB.length:Int):Int)<=64))==true) then D6 aB else some false).bind fun x1=>(some (bif (decide (((aB.length:Int):Int)<=64)) then x1 else false)))
theorem Ng(aB:List Int)(r:Bool)(h:Hd aB=some r):Spec Tryz.prog 164 [(Z8 aB)] [] (.bool r) []:=by
 refine Ac mix Tryz.func164 (fun Γ hq=>?_);unfold Hd at h;refine Af hq [0] [] ?_;obtain⟨x1,hx1,h⟩:=bind_some h;refine gR hq [2] [] [] [(Z2 x1)] (ci (gI ((decide (((aB.length:Int):Int)<=64))==true)) (ci (fun(hg:((decide (((aB.length:Int):Int)<=64))==true)=true)=>(H5 aB x1 (Bg hg hx1))) (c1 (M7 (decide (((aB.length:Int):Int)<=64)))))) ?_;cases h;exact Cf []
def Mq(aa2:H7):Option Bool:=
 ((D6 ([aa2.Bits,aa2.Dst]:List Int)).bind fun x1=>((bif (x1==true) then Hd aa2.From else some false).bind fun x2=>((bif ((bif x1 then x2 else false)==true) then Hd aa2.Args else some false).bind fun x3=>(some (bif (bif x1 then x2 else false) then x3 else false)))))
theorem ok_code_phiFits(aa2:H7)(r:Bool)(h:Mq aa2=some r):Spec Tryz.prog 155 [(.agg (Xt aa2))] [] (.bool r) []:=by
 refine Ac mix Tryz.func155 (fun Γ hq=>?_);unfold Mq at h;refine Af hq [1] [1] ?_;obtain⟨x1,hx1,h⟩:=bind_some h;obtain⟨x2,hx2,h⟩:=bind_some h;obtain⟨x3,hx3,h⟩:=bind_some h;refine gR hq [2] [] [(7,(AV.list 1 Au 0 ([aa2.Bits,aa2.Dst]:List Int) .exact))] [(Z2 x1),(Z2 x2),(Z2 x3)] (ci (Bx 1 Au (0:Int) ([aa2.Bits,aa2.Dst]:List Int)) (ci (H5 ([aa2.Bits,aa2.Dst]:List Int) x1 hx1) (ci (gI (x1==true)) (ci (gI (x1==true)) (ci (fun(hg:(x1==true)=true)=>(Ng aa2.From x2 (Bg hg hx2))) (ci (M7 x1) (ci (gI ((bif x1 then x2 else false)==true)) (ci (gI ((bif x1 then x2 else false)==true)) (ci (fun(hg:((bif x1 then x2 else false)==true)=true)=>(Ng aa2.Args x3 (Bg hg hx3))) (c1 (M7 (bif x1 then x2 else false)))))))))))) ?_;cases h;exact Cf []
def Ge(aB:List H7):Int->Option (LR Int (Unit ⊕ Bool)):=
 fun(i1:Int)=>(bif (decide (i1<(aB.length:Int))) then(A6 (A2 i1 aB.length) ((Mq (aB.getD i1.toNat default)).bind fun x3=>(bif (!x3) then(some (.done (.inr false))) else(some (.next (w64 (i1+1))))))) else(some (.done (.inl ()))))
def Wt(Γ:Iw)(aB:List H7)(r:Bool):Exit->St->Prop:=fK Tryz.prog Γ Tryz.f154.results.toList [] (.bool r) []
def Hp(aB:List H7):Option Bool:=
 ((Ah (Ge aB) (0:Int)).bind (fun x4=>(match x4 with|(.inl _)=>(some true)|(.inr r6)=>(some r6))))
theorem Vl(aB:List H7)(r:Bool)(h:Hp aB=some r):Spec Tryz.prog 154 [(AV.list 4 Xt default aB .none),(.clo 155 [] [])] [] (.bool r) []:=by
 refine Ac mix Tryz.func154 (fun Γ hq=>?_);unfold Hp at h;refine Af hq Jy [] ?_;refine Af hq Mf [] ?_;obtain⟨x4,hx4,h⟩:=bind_some h;refine gL hq hx4 Mf [] (fun u i1=>(Eu u [(9,(Z7 i1))] [])) (fun u x_=>match x_ with|(.inl _)=>aG Γ (.exit 0) (⟨[],[],[]⟩:St)|(.inr r_)=>aR (Wt Γ aB r_)) ?_ ?_
 ·intro i1 y h;unfold Ge at h;refine Af hq zzN51 [] ?_;refine gC h ?_ ?_<;>intro h
  ·obtain⟨hc2,h⟩:=Aa h;refine gR hq zzN56 [6] [] [] (c1 hc2) ?_;obtain⟨x3,hx3,h⟩:=bind_some h;refine gR hq zzN65 [] [] [(Z2 x3)] (c1 (ok_code_phiFits (aB.getD i1.toNat default) x3 hx3)) ?_;refine gC h ?_ ?_<;>intro h
   ·refine Af hq [4] [] ?_;cases h;exact gO (L0 (J7 [] (Le.refl _ _)))
   ·refine Af hq Mf [] ?_;cases h;exact gN Cr
  ·cases h;exact gO (Bk (B2 [] [] hq))
 ·clear hx4;rcases x4 with _|r6
  ·refine gA ?_;refine Af hq [4] [] ?_;obtain rfl:=OI h;exact Cf []
  ·refine N2 (fun st' hk=>?_);obtain rfl:=OI h;exact gK hk
def N4(a1:C1):Option Bool:=
 ((D6 ([a1.Kind,a1.Bits,a1.Lanes,a1.Dst]:List Int)).bind fun x1=>((bif (x1==true) then Hd a1.Args else some false).bind fun x2=>(some (bif x1 then x2 else false))))
theorem ok_code_opFits(a1:C1)(r:Bool)(h:N4 a1=some r):Spec Tryz.prog 157 (Z69 a1) [] (.bool r) []:=by
 refine Ac mix Tryz.func157 (fun Γ hq=>?_);unfold N4 at h;refine Af hq [1] [1] ?_;obtain⟨x1,hx1,h⟩:=bind_some h;obtain⟨x2,hx2,h⟩:=bind_some h;refine gR hq [2] [] [(11,(AV.list 1 Au 0 ([a1.Kind,a1.Bits,a1.Lanes,a1.Dst]:List Int) .exact))] [(Z2 x1),(Z2 x2)] (ci (Bx 1 Au (0:Int) ([a1.Kind,a1.Bits,a1.Lanes,a1.Dst]:List Int)) (ci (H5 ([a1.Kind,a1.Bits,a1.Lanes,a1.Dst]:List Int) x1 hx1) (ci (gI (x1==true)) (ci (gI (x1==true)) (ci (fun(hg:(x1==true)=true)=>(Ng a1.Args x2 (Bg hg hx2))) (c1 (M7 x1))))))) ?_;cases h;exact Cf []
def Gu(aB:List C1):Int->Option (LR Int (Unit ⊕ Bool)):=
 fun(i1:Int)=>(bif (decide (i1<(aB.length:Int))) then(A6 (A2 i1 aB.length) ((N4 (aB.getD i1.toNat default)).bind fun x3=>(bif (!x3) then(some (.done (.inr false))) else(some (.next (w64 (i1+1))))))) else(some (.done (.inl ()))))
def Xh(Γ:Iw)(aB:List C1)(r:Bool):Exit->St->Prop:=fK Tryz.prog Γ Tryz.f156.results.toList [] (.bool r) []
def Ih(aB:List C1):Option Bool:=
 ((Ah (Gu aB) (0:Int)).bind (fun x4=>(match x4 with|(.inl _)=>(some true)|(.inr r6)=>(some r6))))
theorem W1(aB:List C1)(r:Bool)(h:Ih aB=some r):Spec Tryz.prog 156 [(AV.list 6 Nv default aB .none),(.clo 157 [] [])] [] (.bool r) []:=by
 refine Ac mix Tryz.func156 (fun Γ hq=>?_);unfold Ih at h;refine Af hq Jy [] ?_;refine Af hq Mf [] ?_;obtain⟨x4,hx4,h⟩:=bind_some h;refine gL hq hx4 Mf [] (fun u i1=>(Eu u [(9,(Z7 i1))] [])) (fun u x_=>match x_ with|(.inl _)=>aG Γ (.exit 0) (⟨[],[],[]⟩:St)|(.inr r_)=>aR (Xh Γ aB r_)) ?_ ?_
 ·intro i1 y h;unfold Gu at h;refine Af hq zzN51 [] ?_;refine gC h ?_ ?_<;>intro h
  ·obtain⟨hc2,h⟩:=Aa h;refine gR hq zzN56 [6] [] [] (c1 hc2) ?_;obtain⟨x3,hx3,h⟩:=bind_some h;refine gR hq zzN65 [] [] [(Z2 x3)] (c1 (ok_code_opFits (aB.getD i1.toNat default) x3 hx3)) ?_;refine gC h ?_ ?_<;>intro h
   ·refine Af hq [4] [] ?_;cases h;exact gO (L0 (J7 [] (Le.refl _ _)))
   ·refine Af hq Mf [] ?_;cases h;exact gN Cr
  ·cases h;exact gO (Bk (B2 [] [] hq))
 ·clear hx4;rcases x4 with _|r6
  ·refine gA ?_;refine Af hq [4] [] ?_;obtain rfl:=OI h;exact Cf []
  ·refine N2 (fun st' hk=>?_);obtain rfl:=OI h;exact gK hk
def Mp(aJ:Lz):Option Bool:=
 ((D6 ([aJ.Kind,aJ.Arg]:List Int)).bind fun x1=>((bif (x1==true) then Hd aJ.To else some false).bind fun x2=>(some (bif x1 then x2 else false))))
theorem ok_code_endFits(aJ:Lz)(r:Bool)(h:Mp aJ=some r):Spec Tryz.prog 158 [(.agg (eTEnd aJ))] [] (.bool r) []:=by
 refine Ac mix Tryz.func158 (fun Γ hq=>?_);unfold Mp at h;refine Af hq [1] [1] ?_;obtain⟨x1,hx1,h⟩:=bind_some h;obtain⟨x2,hx2,h⟩:=bind_some h;refine gR hq [2] [] [(7,(AV.list 1 Au 0 ([aJ.Kind,aJ.Arg]:List Int) .exact))] [(Z2 x1),(Z2 x2)] (ci (Bx 1 Au (0:Int) ([aJ.Kind,aJ.Arg]:List Int)) (ci (H5 ([aJ.Kind,aJ.Arg]:List Int) x1 hx1) (ci (gI (x1==true)) (ci (gI (x1==true)) (ci (fun(hg:(x1==true)=true)=>(Ng aJ.To x2 (Bg hg hx2))) (c1 (M7 x1))))))) ?_;cases h;exact Cf []
def K4(aQ:Ad):Option Bool:=
 ((Hp aQ.Phis).bind fun x1=>((bif (x1==true) then Ih aQ.Ops else some false).bind fun x2=>((bif ((bif x1 then x2 else false)==true) then Mp (⟨aQ.End.Kind,aQ.End.Arg,aQ.End.To⟩:Lz) else some false).bind fun x3=>(some (bif (bif x1 then x2 else false) then x3 else false)))))
theorem ok_code_blockFits(aQ:Ad)(r:Bool)(h:K4 aQ=some r):Spec Tryz.prog 138 [(.agg (Iy aQ))] [] (.bool r) []:=by
 refine Ac mix Tryz.func138 (fun Γ hq=>?_);unfold K4 at h;refine Af hq [1] [1] ?_;obtain⟨x1,hx1,h⟩:=bind_some h;obtain⟨x2,hx2,h⟩:=bind_some h;obtain⟨x3,hx3,h⟩:=bind_some h;refine gR hq [2] [] [] [(Z2 x1),(Z2 x2),(Z2 x3)] (ci (Vl aQ.Phis x1 hx1) (ci (gI (x1==true)) (ci (gI (x1==true)) (ci (fun(hg:(x1==true)=true)=>(W1 aQ.Ops x2 (Bg hg hx2))) (ci (M7 x1) (ci (gI ((bif x1 then x2 else false)==true)) (ci (gI ((bif x1 then x2 else false)==true)) (ci (fun(hg:((bif x1 then x2 else false)==true)=true)=>(ok_code_endFits (⟨aQ.End.Kind,aQ.End.Arg,aQ.End.To⟩:Lz) x3 (Bg hg hx3))) (c1 (M7 (bif x1 then x2 else false))))))))))) ?_;cases h;exact Cf []
def Fh(aB:List Ad):Int->Option (LR Int (Unit ⊕ Bool)):=
 fun(i1:Int)=>(bif (decide (i1<(aB.length:Int))) then(A6 (A2 i1 aB.length) ((K4 (aB.getD i1.toNat default)).bind fun x3=>(bif (!x3) then(some (.done (.inr false))) else(some (.next (w64 (i1+1))))))) else(some (.done (.inl ()))))
def T9(Γ:Iw)(aB:List Ad)(r:Bool):Exit->St->Prop:=fK Tryz.prog Γ Tryz.f137.results.toList [] (.bool r) []
def Gt(aB:List Ad):Option Bool:=
 ((Ah (Fh aB) (0:Int)).bind (fun x4=>(match x4 with|(.inl _)=>(some true)|(.inr r6)=>(some r6))))
theorem Tv(aB:List Ad)(r:Bool)(h:Gt aB=some r):Spec Tryz.prog 137 [(Z16 aB),(.clo 138 [] [])] [] (.bool r) []:=by
 refine Ac mix Tryz.func137 (fun Γ hq=>?_);unfold Gt at h;refine Af hq Jy [] ?_;refine Af hq Mf [] ?_;obtain⟨x4,hx4,h⟩:=bind_some h;refine gL hq hx4 Mf [] (fun u i1=>(Eu u [(9,(Z7 i1))] [])) (fun u x_=>match x_ with|(.inl _)=>aG Γ (.exit 0) (⟨[],[],[]⟩:St)|(.inr r_)=>aR (T9 Γ aB r_)) ?_ ?_
 ·intro i1 y h;unfold Fh at h;refine Af hq zzN51 [] ?_;refine gC h ?_ ?_<;>intro h
  ·obtain⟨hc2,h⟩:=Aa h;refine gR hq zzN56 [6] [] [] (c1 hc2) ?_;obtain⟨x3,hx3,h⟩:=bind_some h;refine gR hq zzN65 [] [] [(Z2 x3)] (c1 (ok_code_blockFits (aB.getD i1.toNat default) x3 hx3)) ?_;refine gC h ?_ ?_<;>intro h
   ·refine Af hq [4] [] ?_;cases h;exact gO (L0 (J7 [] (Le.refl _ _)))
   ·refine Af hq Mf [] ?_;cases h;exact gN Cr
  ·cases h;exact gO (Bk (B2 [] [] hq))
 ·clear hx4;rcases x4 with _|r6
  ·refine gA ?_;refine Af hq [4] [] ?_;obtain rfl:=OI h;exact Cf []
  ·refine N2 (fun st' hk=>?_);obtain rfl:=OI h;exact gK hk
def Q13(a0:TFunc):=(decide (((a0.Blocks.length:Int):Int)<1))
def Q12(a0:TFunc):=(decide (((16:Int):Int)<(a0.Params.length:Int)))
def R7(a0:TFunc):Option Bool:=
 (bif (bif (decide (((a0.Blocks.length:Int):Int)<1)) then true else(decide (((64:Int):Int)<(a0.Blocks.length:Int)))) then(some false) else((bif ((decide (((16:Int):Int)<(a0.Params.length:Int)))==false) then Qo a0 else some (0:Int)).bind fun x1=>(bif (bif (decide (((16:Int):Int)<(a0.Params.length:Int))) then true else(decide (((512:Int):Int)<x1))) then(some false) else((D6 a0.Params).bind fun x2=>((bif (x2==true) then D6 ([a0.Ret]:List Int) else some false).bind fun x3=>((bif ((bif x2 then x3 else false)==true) then Gt a0.Blocks else some false).bind fun x4=>(some (bif (bif x2 then x3 else false) then x4 else false))))))))
theorem ok_code_May(a0:TFunc)(r:Bool)(h:R7 a0=some r):Spec Tryz.prog 105 [(Z35 a0)] [] (.bool r) []:=by
 refine Ac mix Tryz.func105 (fun Γ hq=>?_);unfold R7 at h;refine Af hq [1] [1] ?_;refine gR hq [1,12] [1] [] [] (ci (gI ((Q13 a0)==false)) (ci (gI ((Q13 a0)==false)) (ci (gI ((Q13 a0)==false)) (c1 (J1 (Q13 a0)))))) ?_;refine gC h ?_ ?_<;>intro h
 ·refine Af hq [2] [] ?_;obtain rfl:=OI h;exact Cf []
 ·obtain⟨x1,hx1,h⟩:=bind_some h;refine gR hq [1,21] [1] [] [(Z19 x1)] (ci (gI ((Q12 a0)==false)) (ci (fun(hg:((Q12 a0)==false)=true)=>(ok_code_Size a0 x1 (Bg hg hx1))) (ci (gI ((Q12 a0)==false)) (c1 (J1 (Q12 a0)))))) ?_;refine gC h ?_ ?_<;>intro h
  ·refine Af hq [2] [] ?_;obtain rfl:=OI h;exact Cf []
  ·obtain⟨x2,hx2,h⟩:=bind_some h;obtain⟨x3,hx3,h⟩:=bind_some h;obtain⟨x4,hx4,h⟩:=bind_some h;refine gR hq [2] [] [(28,(Z26 a0.Ret))] [(Z2 x2),(Z2 x3),(Z2 x4)] (ci (H5 a0.Params x2 hx2) (ci (gI (x2==true)) (ci (gI (x2==true)) (ci (show((x2==true)=true->(AVle (.slice 1 1 (fun i=>([[(Z7 a0.Ret)]]:List (List AV)).getD i []) .exact) (Z26 a0.Ret))) from(fun hg=>@(Bx 1 Au (0:Int) ([a0.Ret]:List Int)))) (ci (gI (x2==true)) (ci (fun(hg:(x2==true)=true)=>(H5 ([a0.Ret]:List Int) x3 (Bg hg hx3))) (ci (M7 x2) (ci (gI ((bif x2 then x3 else false)==true)) (ci (gI ((bif x2 then x3 else false)==true)) (ci (fun(hg:((bif x2 then x3 else false)==true)=true)=>(Tv a0.Blocks x4 (Bg hg hx4))) (c1 (M7 (bif x2 then x3 else false))))))))))))) ?_;cases h;exact Cf []
def K3(aaO:Bool)(aJ:Int):Option Int:=
 (bif aaO then(some (0:Int)) else(some aJ))
theorem Wd(aaO:Bool)(aJ:Int)(r:Int)(h:K3 aaO aJ=some r):Spec Tryz.prog 104 [(.bool aaO),(Z7 aJ)] [] (.int .i64 r) []:=by
 refine Ac mix Tryz.func104 (fun Γ hq=>?_);unfold K3 at h;refine Af hq Jy [] ?_;refine Af hq [1,5] [] ?_;refine gC h ?_ ?_<;>intro h
 ·refine Af hq [4] [] ?_;cases h;exact Cf []
 ·refine Af hq [4] [] ?_;obtain rfl:=OI h;exact Cf []
def Ie(a4:TFunc)(a9:Int)(aA:List Int)(a7:List Ar):Option (Int×TFunc×Int×List Int×List Ar):=
 ((R7 a4).bind fun x1=>((K3 x1 (4:Int)).bind fun x2=>(some (x2,a4,a9,aA,a7))))
theorem Wz(a4:TFunc)(a9:Int)(aA:List Int)(a7:List Ar)(r:(Int×TFunc×Int×List Int×List Ar))(h:Ie a4 a9 aA a7=some r):Spec Tryz.prog 89 [Z60] (Z3 a4.Params a4.Ret a4.Blocks a9 aA a7 a7.length) (Z7 r.1) (Z3 r.2.1.Params r.2.1.Ret r.2.1.Blocks r.2.2.1 r.2.2.2.1 r.2.2.2.2 r.2.2.2.2.length):=by
 refine Ac mix Tryz.func89 (fun Γ hq=>?_);unfold Ie at h;refine Af hq [0] Je ?_;obtain⟨x1,hx1,h⟩:=bind_some h;obtain⟨x2,hx2,h⟩:=bind_some h;refine gR hq [2] Je [] [(Z2 x1),(Z19 x2)] (ci (ok_code_May a4 x1 hx1) (c1 (Wd x1 (4:Int) x2 hx2))) ?_;cases h;exact Cf zzN9
def Kc(aW:Int):Option Bool:=
 (some (bif (decide (((1:Int):Int)<=aW)) then(decide (aW<=64)) else false))
theorem Ui(aW:Int)(r:Bool)(h:Kc aW=some r):Spec Tryz.prog 36 [(Z7 aW)] [] (.bool r) []:=by
 refine Ac mix Tryz.func36 (fun Γ hq=>?_);unfold Kc at h;refine Af hq [0] [] ?_;refine gR hq [2] [] [] [] (ci (gI ((decide (((1:Int):Int)<=aW))==true)) (c1 (M7 (decide (((1:Int):Int)<=aW))))) ?_;cases h;exact Cf []
def I8(aH:Int)(aW:Int):Option Bool:=
 (some (bif (decide (((0:Int):Int)<=aH)) then(decide (aH<aW)) else false))
theorem P6(aH:Int)(aW:Int)(r:Bool)(h:I8 aH aW=some r):Spec Tryz.prog 63 [(Z7 aH),(Z7 aW)] [] (.bool r) []:=by
 refine Ac mix Tryz.func63 (fun Γ hq=>?_);unfold I8 at h;refine Af hq Jy [] ?_;refine gR hq [4] [] [] [] (ci (gI ((decide (((0:Int):Int)<=aH))==true)) (ci (gI ((decide (((0:Int):Int)<=aH))==true)) (c1 (M7 (decide (((0:Int):Int)<=aH)))))) ?_;cases h;exact Cf []
def C2(aJ:Lz)(aW:Int):Int->Option (LR Int (Unit ⊕ Bool)):=
 fun(i7:Int)=>(bif (decide (i7<(aJ.To.length:Int))) then(A6 (A2 i7 aJ.To.length) ((bif ((((aJ.To.getD i7.toNat 0):Int)==0)==false) then I8 (aJ.To.getD i7.toNat 0) aW else some false).bind fun x9=>(bif (bif (((aJ.To.getD i7.toNat 0):Int)==0) then true else(!x9)) then(some (.done (.inr false))) else(some (.next (w64 (i7+1))))))) else(some (.done (.inl ()))))
def V6(Γ:Iw)(aJ:Lz)(aW:Int)(r:Bool):Exit->St->Prop:=fK Tryz.prog Γ Tryz.f37.results.toList [] (.bool r) []
def Q14(aJ:Lz)(i7:Int):=(((aJ.To.getD i7.toNat 0):Int)==0)
def L4(aJ:Lz)(aW:Int):Option Bool:=
 (Option.bind (α:=(Int ⊕ Bool)) (Option.bind (α:=Bool) (bif (aJ.Kind==0) then(some (aJ.Kind==0)) else(some (aJ.Kind==3))) (fun x3=>(bif x3 then(some (.inl (0:Int))) else(bif (aJ.Kind==1) then(some (.inl (1:Int))) else(bif (aJ.Kind==2) then(some (.inl (2:Int))) else(some (.inr false))))))) (fun x5=>(match x5 with|(.inl i1)=>(bif (((aJ.To.length:Int):Int)!=i1) then(some false) else((Ah (C2 aJ aW) (0:Int)).bind (fun x10=>(match x10 with|(.inl _)=>(some true)|(.inr r12)=>(some r12)))))|(.inr r13)=>(some r13))))
theorem ok_graph_endFits(aJ:Lz)(aW:Int)(r:Bool)(h:L4 aJ aW=some r):Spec Tryz.prog 37 [(.agg (eTEnd aJ)),(Z7 aW)] [] (.bool r) []:=by
 refine Ac mix Tryz.func37 (fun Γ hq=>?_);unfold L4 at h;refine Af hq M5 [2] ?_;refine Af hq zzN88 [2] ?_;obtain⟨x5,hx5,h⟩:=bind_some h;refine gJ hx5 (fun x_=>match x_ with|(.inl i1)=>aG Γ .normal (⟨[(1,(Z7 aW)),Ra,(5,(Z7 i1))],[(2,.row 51 [(Z7 aJ.Kind),(Z7 aJ.Arg),(Z8 aJ.To)])],[]⟩:St)|(.inr r_)=>aR (V6 Γ aJ aW r_)) ?_ ?_
 ·clear h hx5;intro y h;refine Af hq [1,2,5,9] [2] ?_;obtain⟨x3,hx3,h⟩:=bind_some h;refine gJ hx3 (fun b2=>aG Γ .normal (⟨[(1,(Z7 aW)),Ra,(5,Pq),(9,(Z7 aJ.Kind)),(10,(.bool b2))],[(2,.row 51 [(Z7 aJ.Kind),(Z7 aJ.Arg),(Z8 aJ.To)])],[]⟩:St)) ?_ ?_
  ·clear h hx3;intro y h;refine Af hq [1,2,5,9,10] [2] ?_;refine gC h ?_ ?_<;>intro h
   ·cases h;exact gK (Bk Cr)
   ·refine Af hq [1,2,5,9,10] [2] ?_;cases h;exact gK (Bk Cr)
  ·clear hx3;refine gA ?_;refine gC h ?_ ?_<;>intro h
   ·cases h;exact gK (Bk (B2 zzN88 [2] hq))
   ·refine Af hq [1,2,9,13] [2] ?_;refine gC h ?_ ?_<;>intro h
    ·refine Af hq zzN88 [2] ?_;cases h;exact gK (Bk Cr)
    ·refine Af hq [1,2,15] [2] ?_;refine gC h ?_ ?_<;>intro h
     ·refine Af hq zzN88 [2] ?_;cases h;exact gK (Bk Cr)
     ·refine Af hq [4] [] ?_;cases h;exact gK (L0 (J7 [] (Le.refl _ _)))
 ·clear hx5;rcases x5 with i1|r13
  ·refine gA ?_;refine Af hq [1,2,21] [2] ?_;refine gC h ?_ ?_<;>intro h
   ·refine Af hq [4] [] ?_;obtain rfl:=OI h;exact Cf []
   ·refine Af hq zzN173 [] ?_;obtain⟨x10,hx10,h⟩:=bind_some h;refine gL hq hx10 zzN173 [] (fun u i7=>(Eu u [(25,(Z7 i7))] [])) (fun u x_=>match x_ with|(.inl _)=>aG Γ (.exit 1) (⟨[],[],[]⟩:St)|(.inr r_)=>aR (V6 Γ aJ aW r_)) ?_ ?_
    ·intro i7 y h;unfold C2 at h;refine Af hq [1,23,24,25,26] [] ?_;refine gC h ?_ ?_<;>intro h
     ·obtain⟨hc8,h⟩:=Aa h;refine gR hq [1,7,23,24,25] [] [] [] (c1 hc8) ?_;obtain⟨x9,hx9,h⟩:=bind_some h;refine gR hq [1,23,24,25,36] [] [] [(Z2 x9)] (ci (gI ((Q14 aJ i7)==false)) (ci (gI ((Q14 aJ i7)==false)) (ci (fun(hg:((Q14 aJ i7)==false)=true)=>(P6 (aJ.To.getD i7.toNat 0) aW x9 (Bg hg hx9))) (ci (gI ((Q14 aJ i7)==false)) (c1 (J1 (Q14 aJ i7))))))) ?_;refine gC h ?_ ?_<;>intro h
      ·refine Af hq [4] [] ?_;cases h;exact gO (L0 (J7 [] (Le.refl _ _)))
      ·refine Af hq zzN173 [] ?_;cases h;exact gN Cr
     ·cases h;exact gO (Bk (B2 [] [] hq))
    ·clear hx10;rcases x10 with _|r12
     ·refine gA ?_;refine Af hq [4] [] ?_;obtain rfl:=OI h;exact Cf []
     ·refine N2 (fun st' hk=>?_);obtain rfl:=OI h;exact gK hk
  ·refine N2 (fun st' hk=>?_);obtain rfl:=OI h;exact gK hk
def F6(a5:List (List Int))(i2:Int):(Int×List (List Int))->Option (LR (Int×List (List Int)) (List (List Int))):=
 fun((i6,l7):(Int×List (List Int)))=>(bif (decide (i6<((a5.getD i2.toNat []).length:Int))) then(A6 (A2 i6 (a5.getD i2.toNat []).length) (A6 (A2 ((a5.getD i2.toNat []).getD i6.toNat 0) l7.length) (A6 (A2 ((a5.getD i2.toNat []).getD i6.toNat 0) l7.length) (A6 ((l7.getD ((a5.getD i2.toNat []).getD i6.toNat 0).toNat []).length+([i2]:List Int).length<=room) (A6 (A2 ((a5.getD i2.toNat []).getD i6.toNat 0) l7.length) (some (.next ((w64 (i6+1)),(l7.set ((a5.getD i2.toNat []).getD i6.toNat 0).toNat ((l7.getD ((a5.getD i2.toNat []).getD i6.toNat 0).toNat [])++([i2]:List Int))))))))))) else(some (.done l7)))
def F7(a5:List (List Int)):(Int×List (List Int))->Option (LR (Int×List (List Int)) (List (List Int))):=
 fun((i2,l3):(Int×List (List Int)))=>(bif (decide (i2<(a5.length:Int))) then(A6 (A2 i2 a5.length) ((Ah (F6 a5 i2) ((0:Int),l3)).bind (fun x14=>(some (.next ((w64 (i2+1)),x14)))))) else(some (.done l3)))
def Q19(i2:Int):=([i2]:List Int)
def Q15(a5:List (List Int))(i2:Int)(i6:Int):=((a5.getD i2.toNat []).getD i6.toNat 0)
def Q20(l7:List (List Int))(a5:List (List Int))(i2:Int)(i6:Int):=(l7.getD (Q15 a5 i2 i6).toNat [])
def Q16(a5:List (List Int)):=(List.replicate (a5.length:Int).toNat ([]:List Int))
def Q22(l7:List (List Int))(a5:List (List Int))(i2:Int)(i6:Int):=(l7.set (Q15 a5 i2 i6).toNat ((Q20 l7 a5 i2 i6)++(Q19 i2)))
def Q18(a5:List (List Int)):List (Nat×AV):=[(0,(Z20 a5)),(3,(.vsl 10 (a5.length:Int).toNat))]
def Q17(l7:List (List Int))(i2:Int)(a5:List (List Int))(i6:Int):List (Nat×AV):=[(3,(.vsl 10 l7.length)),(4,(Z7 i2)),(11,(Z20 a5)),(12,(Z54 a5.length)),(13,(Z7 i2)),(18,(AV.list 1 Au 0 (a5.getD i2.toNat []) .none)),(19,(.int .i64 ((a5.getD i2.toNat []).length:Int))),(20,(Z7 i6))]
def Q21(l7:List (List Int))(i2:Int)(a5:List (List Int))(i6:Int):List (Nat×AV):=[(3,(.vsl 10 l7.length)),(4,(Z7 i2)),(7,(Z7 (Q15 a5 i2 i6))),(11,(Z20 a5)),(12,(Z54 a5.length)),(13,(Z7 i2)),(18,(AV.list 1 Au 0 (a5.getD i2.toNat []) .none)),(19,(.int .i64 ((a5.getD i2.toNat []).length:Int))),(20,(Z7 i6))]
def Js(a5:List (List Int)):Option (List (List Int)):=
 (A6 (0<=(a5.length:Int)/\(a5.length:Int)<=(a5.length:Int)/\(a5.length:Int)<=(room:Int)) ((Ah (F7 a5) ((0:Int),(List.replicate (a5.length:Int).toNat ([]:List Int)))).bind (fun x16=>(some x16))))
theorem Wf(a5:List (List Int))(r:List (List Int))(h:Js a5=some r):Spec Tryz.prog 39 [(Z20 a5)] [] (Z50 r 20000) [(20000,.tok 1 22 r.length)]:=by
 refine Ac mix Tryz.func39 (fun Γ hq=>?_);have hΓ:=hq.own;unfold Js at h;refine gR hq [0] [] [(2,Z42)] [] (c1 (Dh 1 Kg [])) ?_;obtain⟨hc1,h⟩:=Aa h;refine gR hq Rp [10] [] [] (c1 hc1) ?_;refine Ri (⟨(Q18 a5),[(10,.arr 1 22 ((a5.length:Int).toNat) (fun i_=>AV.eraseAll (fun n_=>D5 n_ [10]) ((fun _=>[Z43]) i_)))],[]⟩:St) ?_;refine Or (Le.trans (Jo (st':=⟨(Q18 a5),[(10,.arr 1 22 ((a5.length:Int).toNat) (M1 1 Au (0:Int) (Q16 a5) (fun _=>.exact)))],[]⟩) (TmpsLe.refl _) (.arr fam_zero .nil)) (Le.trans (Le.trans (le_birth (r:=10) (b:=70010) Au (0:Int) (Q16 a5) 3 rfl rfl (Rj ..).symm (fun h_=>absurd h_ (by decide))) (J5 (st':=⟨(Q18 a5),[(10,.arr 1 22 ((a5.length:Int).toNat) (M1 1 Au (0:Int) (Q16 a5) (Tag.fam 70010)))],[(70010,⟨1,3,Mh (Q16 a5)⟩)]⟩) (by kernel_rfl))) (J5 (Cq (fun k_:Nat=>(⟨[(0,(Z20 a5)),(3,(.vsl 10 k_))],[(Z10 10 k_ (Q16 a5) 70010)],[(70010,⟨1,3,Mh (Q16 a5)⟩)]⟩:St)) (show(a5.length:Int).toNat=(Q16 a5).length from(Rj ..).symm))))) ?_;refine Af hq zzN101 Th ?_;obtain⟨x16,hx16,h⟩:=bind_some h;refine gL hq hx16 zzN101 Th (fun u (i2,l3)=>(Eu u [(3,(.vsl 10 l3.length)),(13,(Z7 i2))] [(Z10 10 l3.length l3 70010)] [(70010,⟨1,3,Mh l3⟩)])) (fun u l4=>aG Γ (.exit 0) (⟨[(3,(.vsl 10 l4.length))],[(Z10 10 l4.length l4 70010)],[(70010,⟨1,3,Mh l4⟩)]⟩:St)) ?_ ?_
 ·rintro⟨i2,l3⟩ y h;unfold F7 at h;refine Af hq [3,11,12,13,14] Th ?_;refine gC h ?_ ?_<;>intro h
  ·obtain⟨hc5,h⟩:=Aa h;refine gR hq [3,4,5,11,12,13] Th [] [] (c1 hc5) ?_;refine Af hq zzN57 Th ?_;obtain⟨x14,hx14,h⟩:=bind_some h;refine gL hq hx14 zzN57 Th (fun u (i6,l7)=>(Eu u [(3,(.vsl 10 l7.length)),(20,(Z7 i6))] [(Z10 10 l7.length l7 70010)] [(70010,⟨1,3,Mh l7⟩)])) (fun u l8=>aG Γ (.exit 2) (Oz zzN101 Th u [(3,(.vsl 10 l8.length))] [(Z10 10 l8.length l8 70010)] [(70010,⟨1,3,Mh l8⟩)])) ?_ ?_
   ·rintro⟨i6,l7⟩ y h;unfold F6 at h;refine Af hq [3,4,11,12,13,18,19,20,21] Th ?_;refine gC h ?_ ?_<;>intro h
    ·obtain⟨hc9,h⟩:=Aa h;refine gR hq [3,4,7,11,12,13,18,19,20] Th [] [] (c1 hc9) ?_;refine Ri (⟨(Q21 l7 i2 a5 i6),[(Z10 10 l7.length l7 70010)],[(70010,⟨1,3,Mh l7⟩)]⟩:St) ?_;obtain⟨hc10,h⟩:=Aa h;obtain⟨hc11,h⟩:=Aa h;obtain⟨hc12,h⟩:=Aa h;obtain⟨hc13,h⟩:=Aa h;refine Or (Le.trans (le_take (r:=10) (b:=70010) (k:=60010) Au (0:Int) l7 (Q15 a5 i2 i6).toNat 3 rfl rfl rfl rfl (O8 hc10) (by kernel_rfl) (.here .nil)) (J5 (st':=⟨(Q21 l7 i2 a5 i6),[(10,.arr 1 22 l7.length (M1 1 Au (0:Int) l7 (H0 70010 (Q15 a5 i2 i6).toNat 60010))),(60010,.tok 1 3 ((Q20 l7 a5 i2 i6).length))],[(70010,⟨1,3,X2 l7 (Q15 a5 i2 i6).toNat⟩)]⟩) (by kernel_rfl))) ?_;refine gR hq zzN57 [10,60010,70010] [(29,(Z13 (Q20 l7 a5 i2 i6) 60010)),(31,(AV.list 1 Au 0 (Q19 i2) .exact)),(32,(AV.list 1 Au 0 ((Q20 l7 a5 i2 i6)++(Q19 i2)) (.own 60010)))] [] (ci hc11 (ci (Eq.refl l7.length) (ci (show(AVle (((M1 1 Au (0:Int) l7 (H0 70010 (Q15 a5 i2 i6).toNat 60010)) (Q15 a5 i2 i6).toNat).getD 0 .any) (Z13 (Q20 l7 a5 i2 i6) 60010)) from av_famtag) (ci (Bx 1 Au (0:Int) (Q19 i2)) (ci (Eq.refl ((Q20 l7 a5 i2 i6).length)) (ci hc12 (ci (Ix 1 60010 Au (0:Int) (Q20 l7 a5 i2 i6) (Q19 i2)) (ci (Fe (Q20 l7 a5 i2 i6) (Q19 i2)) (ci hc13 (c1 (Eq.refl l7.length))))))))))) ?_;refine Ri (⟨(Q17 l7 i2 a5 i6),[(10,.arr 1 22 l7.length (fun i_=>AV.eraseAll (fun n_=>D5 n_ [10,60010,70010]) ((G5 (M1 1 Au (0:Int) l7 (H0 70010 (Q15 a5 i2 i6).toNat 60010)) (Q15 a5 i2 i6).toNat 0 [(AV.list 1 Au 0 ((Q20 l7 a5 i2 i6)++(Q19 i2)) (.own 60010))]) i_))),(60010,.tok 1 3 (((Q20 l7 a5 i2 i6)++(Q19 i2)).length))],[(70010,⟨1,3,X2 l7 (Q15 a5 i2 i6).toNat⟩)]⟩:St) ?_;refine Or (Le.trans (Le.trans (le_put (r:=10) (b:=70010) (k:=60010) Au (0:Int) l7 (Q15 a5 i2 i6).toNat ((Q20 l7 a5 i2 i6)++(Q19 i2)) 3 rfl (putF_fam (O8 hc10) rfl rfl) rfl rfl rfl rfl (O8 hc10) (by kernel_rfl) (.here (.tok .nil)) (by rw[hΓ];rfl)) (J5 (st':=⟨(Q17 l7 i2 a5 i6),[(Z10 10 l7.length (Q22 l7 a5 i2 i6) 70010)],[(70010,⟨1,3,Mh (Q22 l7 a5 i2 i6)⟩)]⟩) (by kernel_rfl))) (J5 (Cq (fun k_:Nat=>(⟨[(3,(.vsl 10 k_)),(4,(Z7 i2)),(11,(Z20 a5)),(12,(Z54 a5.length)),(13,(Z7 i2)),(18,(AV.list 1 Au 0 (a5.getD i2.toNat []) .none)),(19,(.int .i64 ((a5.getD i2.toNat []).length:Int))),(20,(Z7 i6))],[(Z10 10 k_ (Q22 l7 a5 i2 i6) 70010)],[(70010,⟨1,3,Mh (Q22 l7 a5 i2 i6)⟩)]⟩:St)) (show l7.length=(Q22 l7 a5 i2 i6).length from(Hb ..).symm)))) ?_;refine Af hq zzN57 Th ?_;cases h;exact gN Cr
    ·cases h;exact gO (Bk (B2 zzN101 Th hq))
   ·clear hx14;refine gA ?_;refine Af hq zzN101 Th ?_;cases h;exact gN Cr
  ·cases h;exact gO (Bk (B2 [3] Th hq))
 ·clear hx16;refine gA ?_;refine Af hq [2] Th ?_;refine Ri (⟨[(2,(.vsl 10 x16.length))],[(Z10 10 x16.length x16 70010)],[(70010,⟨1,3,Mh x16⟩)]⟩:St) ?_;obtain rfl:=OI h;exact gK (e:=.ret) (J7 [(10,20000)] (Le.trans (J9 (nm:=10) (sz:=1) (n:=x16.length) (e:=22) (f:=(M1 1 Au (0:Int) x16 (Tag.fam 70010))) (g:=(fun i=>Kg (x16.getD i []))) rfl ⟨rfl,trivial⟩ (fun _ _=>rfl) (by rw[hΓ];rfl)) (B2 (st':=⟨[(2,(Z50 x16 10))],[(10,.tok 1 22 x16.length)],[]⟩) [2] [10] hq)))
def G7(a0:TFunc):(Int×List (List Int))->Option (LR (Int×List (List Int)) (List (List Int) ⊕ (TGraph×Int))):=
 fun((i3,l4):(Int×List (List Int)))=>(bif (decide (i3<(a0.Blocks.length:Int))) then(A6 (A2 i3 a0.Blocks.length) ((L4 (⟨(a0.Blocks.getD i3.toNat default).End.Kind,(a0.Blocks.getD i3.toNat default).End.Arg,(a0.Blocks.getD i3.toNat default).End.To⟩:Lz) (a0.Blocks.length:Int)).bind fun x7=>(bif (!x7) then(some (.done (.inr ((⟨([]:List (List Int)),([]:List (List Int))⟩:TGraph),(5:Int))))) else((x_rising ((a0.Blocks.getD i3.toNat default).End.To)).bind fun x8=>(A6 (A2 i3 l4.length) (some (.next ((w64 (i3+1)),(l4.set i3.toNat x8))))))))) else(some (.done (.inl l4))))
def K_graph_Of(Γ:Iw)(a0:TFunc)(r:(TGraph×Int)):Exit->St->Prop:=fK Tryz.prog Γ Tryz.f19.results.toList [] (.tuple [(Z61 r.1),(Z7 r.2)]) []
def Q24:AV:=Z43
def Q25:List (Nat×AV):=[Ra,(3,(.int .i64 (5:Int)))]
def Q28(a0:TFunc)(i3:Int):=(a0.Blocks.getD i3.toNat default)
def Q26:AV:=Z70
def Q27(a0:TFunc):=(List.replicate (a0.Blocks.length:Int).toNat ([]:List Int))
def Q23:List AV:=[Z42,Z42]
def P4(a0:TFunc):Option (TGraph×Int):=
 ((Kc (a0.Blocks.length:Int)).bind fun x1=>(bif (!x1) then(some ((⟨([]:List (List Int)),([]:List (List Int))⟩:TGraph),(5:Int))) else(A6 (0<=(a0.Blocks.length:Int)/\(a0.Blocks.length:Int)<=(a0.Blocks.length:Int)/\(a0.Blocks.length:Int)<=(room:Int)) ((Ah (G7 a0) ((0:Int),(List.replicate (a0.Blocks.length:Int).toNat ([]:List Int)))).bind (fun x10=>(match x10 with|(.inl l5)=>((Js l5).bind fun x12=>(some ((⟨l5,x12⟩:TGraph),(0:Int))))|(.inr r13)=>(some r13)))))))
theorem ok_graph_Of(a0:TFunc)(r:(TGraph×Int))(h:P4 a0=some r):Spec Tryz.prog 19 [(Z35 a0)] [] (.tuple [(Z61 r.1),(Z7 r.2)]) []:=by
 refine Ac mix Tryz.func19 (fun Γ hq=>?_);have hΓ:=hq.own;unfold P4 at h;refine Af hq M5 M5 ?_;refine Af hq [1,2,4] M5 ?_;obtain⟨x1,hx1,h⟩:=bind_some h;refine gR hq [1,2,4,13] M5 [] [(Z2 x1)] (c1 (Ui (a0.Blocks.length:Int) x1 hx1)) ?_;refine gC h ?_ ?_<;>intro h
 ·refine gR hq F5 [2] [(14,(.agg Q23))] [] (c1 (show(AVle (.agg [Q24,Q24]) (.agg Q23)) from(AVle.agg (.cons Hg (.cons Hg .nil))))) ?_;refine Ri (⟨Q25,[(M6 41 Q23)],[]⟩:St) ?_;cases h;exact gK (e:=.ret) (J7 [] (show Le Γ _ (⟨Q25,[(Z66 Q26)],[]⟩:St) from Le.trans (B2 (st':=⟨Q25,[(M6 41 Q23)],[]⟩) F5 [2] hq) (Jo (.cons (AVle.refl _) (.cons (AVle.refl _) .nil)) (.row (.cons AVle.untag (.cons AVle.untag .nil)) .nil))))
 ·obtain⟨hc2,h⟩:=Aa h;refine gR hq [1,2,4,5] [1,2,16] [] [] (c1 hc2) ?_;refine Or (Le.trans (Wv 16 (show ∀ k_,k_<((a0.Blocks.length:Int).toNat)->AVleL ((fun i_=>AV.eraseAll (fun n_=>D5 n_ [1,2,16]) ((fun _=>[Q24]) i_)) k_) ((fun i=>Kg ((Q27 a0).getD i [])) k_) from(fun k hk=>Rr (e:=Kg) (d:=[]) (.cons (fun _ _ _ _ _ hh=>AVle.untag _ _ _ _ _ (Hg _ _ _ _ _ hh)) .nil) _ k (Ru hk)))) (Ww (fun(k_:Nat) u=>(Eu u [(5,(.vsl 16 k_))] [(16,.arr 1 22 k_ (fun i=>Kg ((Q27 a0).getD i [])))])) (show(a0.Blocks.length:Int).toNat=(Q27 a0).length from(Rj ..).symm))) ?_;refine Af hq zzN96 T0 ?_;obtain⟨x10,hx10,h⟩:=bind_some h;refine gL hq hx10 zzN96 T0 (fun u (i3,l4)=>(Eu u [(5,(.vsl 16 l4.length)),(20,(Z7 i3))] [(16,.arr 1 22 l4.length (fun i=>Kg (l4.getD i [])))])) (fun u x_=>match x_ with|(.inl l5)=>aG Γ (.exit 0) (Oz T4 T0 u [(5,(.vsl 16 l5.length))] [(16,.arr 1 22 l5.length (fun i=>Kg (l5.getD i [])))])|(.inr r_)=>aR (K_graph_Of Γ a0 r_)) ?_ ?_
  ·rintro⟨i3,l4⟩ y h;unfold G7 at h;refine Af hq [2,4,5,18,19,20,21] T0 ?_;refine gC h ?_ ?_<;>intro h
   ·obtain⟨hc6,h⟩:=Aa h;refine gR hq [2,4,5,6,7,18,19,20] [2,7,16] [] [] (c1 hc6) ?_;obtain⟨x7,hx7,h⟩:=bind_some h;refine gR hq [2,4,5,6,7,18,19,20,29] [2,7,16] [] [(Z2 x7)] (c1 (ok_graph_endFits (⟨(Q28 a0 i3).End.Kind,(Q28 a0 i3).End.Arg,(Q28 a0 i3).End.To⟩:Lz) (a0.Blocks.length:Int) x7 hx7)) ?_;refine gC h ?_ ?_<;>intro h
    ·refine gR hq F5 [2] [(30,(.agg Q23))] [] (c1 (show(AVle (.agg [Q24,Q24]) (.agg Q23)) from(AVle.agg (.cons Hg (.cons Hg .nil))))) ?_;refine Ri (⟨Q25,[(M6 41 Q23)],[]⟩:St) ?_;cases h;exact gO (L0 (J7 [] (show Le Γ _ (⟨Q25,[(Z66 Q26)],[]⟩:St) from Le.trans (B2 (st':=⟨Q25,[(M6 41 Q23)],[]⟩) F5 [2] hq) (Jo (.cons (AVle.refl _) (.cons (AVle.refl _) .nil)) (.row (.cons AVle.untag (.cons AVle.untag .nil)) .nil)))))
    ·obtain⟨x8,hx8,h⟩:=bind_some h;obtain⟨hc9,h⟩:=Aa h;refine gR hq zzN96 T0 [] [⟨[],[],(Z8 x8),[],[],[]⟩] (ci (xok_rising ((Q28 a0 i3).End.To) x8 hx8) (ci hc9 (c1 (Eq.refl l4.length)))) ?_;refine Or (Le.trans (Wv 16 (show ∀ k_,k_<l4.length->AVleL ((fun i_=>AV.eraseAll (fun n_=>D5 n_ T0) ((G5 (fun i=>Kg (l4.getD i [])) i3.toNat 0 [(Z8 x8)]) i_)) k_) ((fun i=>Kg ((l4.set i3.toNat x8).getD i [])) k_) from(Cn (Hb ..).symm (fun k_ hk_=>(Cq (AV.eraseAll (fun n_=>D5 n_ T0)) ((Kl (fun _ _=>rfl) (Md hc9) rfl) k_ hk_)).trans rfl)))) (Ww (fun(k_:Nat) u=>(Eu u [(5,(.vsl 16 k_))] [(16,.arr 1 22 k_ (fun i=>Kg ((l4.set i3.toNat x8).getD i [])))])) (show l4.length=(l4.set i3.toNat x8).length from(Hb ..).symm))) ?_;refine Af hq zzN96 T0 ?_;cases h;exact gN Cr
   ·cases h;exact gO (Bk (B2 T4 T0 hq))
  ·clear hx10;rcases x10 with l5|r13
   ·refine gA ?_;refine Ri (⟨[Ra,(5,(.vsl 16 l5.length))],[(Z66 Q24),(16,.arr 1 22 l5.length (fun i=>Kg (l5.getD i [])))],[]⟩:St) ?_;refine Or (Le.trans (J9 (nm:=16) (sz:=1) (n:=l5.length) (e:=22) (f:=(fun i=>Kg (l5.getD i []))) (g:=(fun i=>Kg (l5.getD i []))) rfl ⟨rfl,trivial⟩ (fun _ _=>rfl) (by rw[hΓ];rfl)) (J5 (st':=⟨[Ra,(5,(Z50 l5 16))],[(Z66 Q24),(16,.tok 1 22 l5.length)],[]⟩) (by kernel_rfl))) ?_;obtain⟨x12,hx12,h⟩:=bind_some h;refine gR hq F5 [2,16,41] [] [⟨[],[(20000,41)],(Z50 x12 20000),[(20000,.tok 1 22 x12.length)],[],[]⟩] (c1 (Wf l5 x12 hx12)) ?_;cases h;exact Cf []
   ·refine N2 (fun st' hk=>?_);obtain rfl:=OI h;exact gK hk
def Dl(a5:List (List Int))(i2:Int):(Int×Int)->Option (LR (Int×Int) (Unit ⊕ Bool)):=
 fun((i4,i5):(Int×Int))=>(bif (decide (i5<((a5.getD i2.toNat []).length:Int))) then(A6 (A2 i5 (a5.getD i2.toNat []).length) ((bif ((decide ((((a5.getD i2.toNat []).getD i5.toNat 0):Int)<=i4))==false) then I8 ((a5.getD i2.toNat []).getD i5.toNat 0) (a5.length:Int) else some false).bind fun x7=>(bif (bif (decide ((((a5.getD i2.toNat []).getD i5.toNat 0):Int)<=i4)) then true else(!x7)) then(some (.done (.inr false))) else(some (.next (((a5.getD i2.toNat []).getD i5.toNat 0),(w64 (i5+1)))))))) else(some (.done (.inl ()))))
def Dm(a5:List (List Int)):Int->Option (LR Int (Unit ⊕ Bool)):=
 fun(i2:Int)=>(bif (decide (i2<(a5.length:Int))) then(A6 (A2 i2 a5.length) ((Ah (Dl a5 i2) ((-1:Int),(0:Int))).bind (fun x8=>(match x8 with|(.inl _)=>(some (.next (w64 (i2+1))))|(.inr r10)=>(some (.done (.inr r10))))))) else(some (.done (.inl ()))))
def V7(Γ:Iw)(a5:List (List Int))(r:Bool):Exit->St->Prop:=fK Tryz.prog Γ Tryz.f74.results.toList [] (.bool r) []
def Q29(a5:List (List Int))(i2:Int)(i5:Int)(i4:Int):=(decide ((((a5.getD i2.toNat []).getD i5.toNat 0):Int)<=i4))
def Kd(a5:List (List Int)):Option Bool:=
 ((Kc (a5.length:Int)).bind fun x1=>(bif (!x1) then(some false) else((Ah (Dm a5) (0:Int)).bind (fun x11=>(match x11 with|(.inl _)=>(some true)|(.inr r13)=>(some r13))))))
theorem ok_graph_succMay(a5:List (List Int))(r:Bool)(h:Kd a5=some r):Spec Tryz.prog 74 [(Z20 a5)] [] (.bool r) []:=by
 refine Ac mix Tryz.func74 (fun Γ hq=>?_);unfold Kd at h;refine Af hq [0] [] ?_;obtain⟨x1,hx1,h⟩:=bind_some h;refine gR hq [0,11] [] [] [(Z2 x1)] (c1 (Ui (a5.length:Int) x1 hx1)) ?_;refine gC h ?_ ?_<;>intro h
 ·refine Af hq [2] [] ?_;obtain rfl:=OI h;exact Cf []
 ·refine Af hq zzN102 [] ?_;obtain⟨x11,hx11,h⟩:=bind_some h;refine gL hq hx11 zzN102 [] (fun u i2=>(Eu u [(14,(Z7 i2))] [])) (fun u x_=>match x_ with|(.inl _)=>aG Γ (.exit 0) (⟨[],[],[]⟩:St)|(.inr r_)=>aR (V7 Γ a5 r_)) ?_ ?_
  ·intro i2 y h;unfold Dm at h;refine Af hq [0,12,13,14,15] [] ?_;refine gC h ?_ ?_<;>intro h
   ·obtain⟨hc3,h⟩:=Aa h;refine gR hq [0,4,12,13,14] [] [] [] (c1 hc3) ?_;refine Af hq [0,4,5,12,13,14] [] ?_;refine Af hq zzN58 [] ?_;obtain⟨x8,hx8,h⟩:=bind_some h;refine gL hq hx8 zzN58 [] (fun u (i4,i5)=>(Eu u [(5,(Z7 i4)),(20,(Z7 i5))] [])) (fun u x_=>match x_ with|(.inl _)=>aG Γ (.exit 2) (Oz zzN102 [] u [] [])|(.inr r_)=>aR (V7 Γ a5 r_)) ?_ ?_
    ·rintro⟨i4,i5⟩ y h;unfold Dl at h;refine Af hq [0,5,12,13,14,18,19,20,21] [] ?_;refine gC h ?_ ?_<;>intro h
     ·obtain⟨hc6,h⟩:=Aa h;refine gR hq [0,5,7,12,13,14,18,19,20] [] [] [] (c1 hc6) ?_;obtain⟨x7,hx7,h⟩:=bind_some h;refine gR hq [0,7,12,13,14,18,19,20,33] [] [] [(Z2 x7)] (ci (gI ((Q29 a5 i2 i5 i4)==false)) (ci (gI ((Q29 a5 i2 i5 i4)==false)) (ci (gI ((Q29 a5 i2 i5 i4)==false)) (ci (fun(hg:((Q29 a5 i2 i5 i4)==false)=true)=>(P6 ((a5.getD i2.toNat []).getD i5.toNat 0) (a5.length:Int) x7 (Bg hg hx7))) (ci (gI ((Q29 a5 i2 i5 i4)==false)) (c1 (J1 (Q29 a5 i2 i5 i4)))))))) ?_;refine gC h ?_ ?_<;>intro h
      ·refine Af hq [2] [] ?_;cases h;exact gO (L0 (J7 [] (Le.refl _ _)))
      ·refine Af hq zzN58 [] ?_;refine Af hq zzN58 [] ?_;cases h;exact gN Cr
     ·cases h;exact gO (Bk (B2 zzN102 [] hq))
    ·clear hx8;rcases x8 with _|r10
     ·refine gA ?_;refine Af hq zzN102 [] ?_;cases h;exact gN Cr
     ·refine N2 (fun st' hk=>?_);cases h;exact gO (L0 hk)
   ·cases h;exact gO (Bk (B2 [] [] hq))
  ·clear hx11;rcases x11 with _|r13
   ·refine gA ?_;refine Af hq [2] [] ?_;obtain rfl:=OI h;exact Cf []
   ·refine N2 (fun st' hk=>?_);obtain rfl:=OI h;exact gK hk
def Bi(aZ:List Int)(aa0:List Int):Int->Option (LR Int (Unit ⊕ Bool)):=
 fun(i1:Int)=>(bif (decide (i1<(aZ.length:Int))) then(A6 (A2 i1 aZ.length) (A6 (A2 i1 aa0.length) (bif (((aZ.getD i1.toNat 0):Int)!=(aa0.getD i1.toNat 0)) then(some (.done (.inr false))) else(some (.next (w64 (i1+1))))))) else(some (.done (.inl ()))))
def Uy(Γ:Iw)(aZ:List Int)(aa0:List Int)(r:Bool):Exit->St->Prop:=fK Tryz.prog Γ Tryz.f61.results.toList [] (.bool r) []
def Eg(aZ:List Int)(aa0:List Int):Option Bool:=
 (bif (((aZ.length:Int):Int)!=(aa0.length:Int)) then(some false) else((Ah (Bi aZ aa0) (0:Int)).bind (fun x4=>(match x4 with|(.inl _)=>(some true)|(.inr r6)=>(some r6)))))
theorem La(aZ:List Int)(aa0:List Int)(r:Bool)(h:Eg aZ aa0=some r):Spec Tryz.prog 61 [(Z8 aZ),(Z8 aa0)] [] (.bool r) []:=by
 refine Ac mix Tryz.func61 (fun Γ hq=>?_);unfold Eg at h;refine Af hq Jy [] ?_;refine Af hq Za [] ?_;refine gC h ?_ ?_<;>intro h
 ·refine Af hq [4] [] ?_;obtain rfl:=OI h;exact Cf []
 ·refine Af hq zzN183 [] ?_;obtain⟨x4,hx4,h⟩:=bind_some h;refine gL hq hx4 zzN183 [] (fun u i1=>(Eu u [(13,(Z7 i1))] [])) (fun u x_=>match x_ with|(.inl _)=>aG Γ (.exit 0) (⟨[],[],[]⟩:St)|(.inr r_)=>aR (Uy Γ aZ aa0 r_)) ?_ ?_
  ·intro i1 y h;unfold Bi at h;refine Af hq [0,1,12,13,14] [] ?_;refine gC h ?_ ?_<;>intro h
   ·refine Af hq [0,1,5,12,13] [] ?_;obtain⟨hc2,h⟩:=Aa h;obtain⟨hc3,h⟩:=Aa h;refine gR hq [0,1,12,13,24] [] [] [] (ci hc2 (c1 hc3)) ?_;refine gC h ?_ ?_<;>intro h
    ·refine Af hq [4] [] ?_;cases h;exact gO (L0 (J7 [] (Le.refl _ _)))
    ·refine Af hq zzN183 [] ?_;cases h;exact gN Cr
   ·cases h;exact gO (Bk (B2 [] [] hq))
  ·clear hx4;rcases x4 with _|r6
   ·refine gA ?_;refine Af hq [4] [] ?_;obtain rfl:=OI h;exact Cf []
   ·refine N2 (fun st' hk=>?_);obtain rfl:=OI h;exact gK hk
def Az(aZ:List (List Int))(aa0:List (List Int)):Int->Option (LR Int (Unit ⊕ Bool)):=
 fun(i1:Int)=>(bif (decide (i1<(aZ.length:Int))) then(A6 (A2 i1 aZ.length) (A6 (A2 i1 aa0.length) ((Eg (aZ.getD i1.toNat []) (aa0.getD i1.toNat [])).bind fun x4=>(bif (!x4) then(some (.done (.inr false))) else(some (.next (w64 (i1+1)))))))) else(some (.done (.inl ()))))
def Oe(Γ:Iw)(aZ:List (List Int))(aa0:List (List Int))(r:Bool):Exit->St->Prop:=fK Tryz.prog Γ Tryz.f75.results.toList [] (.bool r) []
def C3(aZ:List (List Int))(aa0:List (List Int)):Option Bool:=
 (bif (((aZ.length:Int):Int)!=(aa0.length:Int)) then(some false) else((Ah (Az aZ aa0) (0:Int)).bind (fun x5=>(match x5 with|(.inl _)=>(some true)|(.inr r7)=>(some r7)))))
theorem N8(aZ:List (List Int))(aa0:List (List Int))(r:Bool)(h:C3 aZ aa0=some r):Spec Tryz.prog 75 [(Z20 aZ),(Z20 aa0),(.clo 61 [] [])] [] (.bool r) []:=by
 refine Ac mix Tryz.func75 (fun Γ hq=>?_);unfold C3 at h;refine Af hq zzN174 [] ?_;refine Af hq [0,1,2,14] [] ?_;refine gC h ?_ ?_<;>intro h
 ·refine Af hq [6] [] ?_;obtain rfl:=OI h;exact Cf []
 ·refine Af hq zzN152 [] ?_;obtain⟨x5,hx5,h⟩:=bind_some h;refine gL hq hx5 zzN152 [] (fun u i1=>(Eu u [(17,(Z7 i1))] [])) (fun u x_=>match x_ with|(.inl _)=>aG Γ (.exit 0) (⟨[],[],[]⟩:St)|(.inr r_)=>aR (Oe Γ aZ aa0 r_)) ?_ ?_
  ·intro i1 y h;unfold Az at h;refine Af hq [1,2,15,16,17,18] [] ?_;refine gC h ?_ ?_<;>intro h
   ·obtain⟨hc2,h⟩:=Aa h;refine gR hq [1,2,7,8,15,16,17] [] [] [] (c1 hc2) ?_;obtain⟨hc3,h⟩:=Aa h;refine gR hq [1,2,8,9,15,16,17] [] [] [] (c1 hc3) ?_;obtain⟨x4,hx4,h⟩:=bind_some h;refine gR hq [1,2,15,16,17,30] [] [] [(Z2 x4)] (c1 (La (aZ.getD i1.toNat []) (aa0.getD i1.toNat []) x4 hx4)) ?_;refine gC h ?_ ?_<;>intro h
    ·refine Af hq [6] [] ?_;cases h;exact gO (L0 (J7 [] (Le.refl _ _)))
    ·refine Af hq zzN152 [] ?_;cases h;exact gN Cr
   ·cases h;exact gO (Bk (B2 [] [] hq))
  ·clear hx5;rcases x5 with _|r7
   ·refine gA ?_;refine Af hq [6] [] ?_;obtain rfl:=OI h;exact Cf []
   ·refine N2 (fun st' hk=>?_);obtain rfl:=OI h;exact gK hk
def Lm(a3:TGraph):Option Bool:=
 ((Kd a3.Succ).bind fun x1=>((bif (x1==true) then Js a3.Succ else some []).bind fun x2=>((bif (x1==true) then C3 a3.Pred x2 else some false).bind fun x3=>(some (bif x1 then x3 else false)))))
theorem ok_graph_May(a3:TGraph)(r:Bool)(h:Lm a3=some r):Spec Tryz.prog 43 [(Z61 a3)] [] (.bool r) []:=by
 refine Ac mix Tryz.func43 (fun Γ hq=>?_);unfold Lm at h;refine Af hq [1] [1] ?_;obtain⟨x1,hx1,h⟩:=bind_some h;obtain⟨x2,hx2,h⟩:=bind_some h;obtain⟨x3,hx3,h⟩:=bind_some h;refine gR hq [2] [] [] [(Z2 x1),⟨[],[],(Z20 x2),[],[],[]⟩,(Z2 x3)] (ci (ok_graph_succMay a3.Succ x1 hx1) (ci (gI (x1==true)) (ci (gI (x1==true)) (ci (gI (x1==true)) (ci (show((x1==true)=true->(Spec Tryz.prog 39 [(Z20 a3.Succ)] [] (Z20 x2) [])) from(fun hg=>(Spec.drop (Wf a3.Succ x2 (Bg hg hx2))))) (ci (gI (x1==true)) (ci (gI (x1==true)) (ci (fun(hg:(x1==true)=true)=>(N8 a3.Pred x2 x3 (Bg hg hx3))) (c1 (M7 x1)))))))))) ?_;cases h;exact Cf []
def Be :(Int×Int×List Int)->Option (LR (Int×Int×List Int) (List Int)):=
 fun((i1,i2,l3):(Int×Int×List Int))=>(bif (decide (i1<i2)) then(A6 (A2 i2 l3.length) (A6 (A2 i1 l3.length) (A6 (A2 i1 l3.length) (A6 (A2 i2 l3.length) (some (.next ((w64 (i1+1)),(w64 (i2-1)),((l3.set i1.toNat (l3.getD i2.toNat 0)).set i2.toNat (l3.getD i1.toNat 0))))))))) else(some (.done l3)))
def Q30(l3:List Int)(i1:Int)(i2:Int):=((l3.set i1.toNat (l3.getD i2.toNat 0)).set i2.toNat (l3.getD i1.toNat 0))
def Es(aM:List Int):Option (List Int):=
 ((Ah (S:=(Int×Int×List Int)) (X:=List Int) Be ((0:Int),(w64 ((aM.length:Int)-1)),aM)).bind (fun x9=>(some x9)))
theorem Nq(aM:List Int)(r:List Int)(h:Es aM=some r):Spec Tryz.prog 96 [(.vsl 34000 aM.length)] [(Z4 34000 aM)] (.tuple []) [(Z4 34000 r)]:=by
 refine Ac mix Tryz.func96 (fun Γ hq=>?_);unfold Es at h;refine Af hq [0,2,3] [34000] ?_;obtain⟨x9,hx9,h⟩:=bind_some h;refine gL hq hx9 [0,2,3] [34000] (fun u (i1,i2,l3)=>(Eu u [(0,(.vsl 34000 l3.length)),(2,(Z7 i1)),(3,(Z7 i2))] [(Z4 34000 l3)])) (fun u l4=>aG Γ (.exit 0) (⟨[],[(Z4 34000 l4)],[]⟩:St)) ?_ ?_
 ·rintro⟨i1,i2,l3⟩ y h;unfold Be at h;refine Af hq [0,2,3,9] [34000] ?_;refine gC h ?_ ?_<;>intro h
  ·obtain⟨hc5,h⟩:=Aa h;obtain⟨hc6,h⟩:=Aa h;obtain⟨hc7,h⟩:=Aa h;obtain⟨hc8,h⟩:=Aa h;refine gR hq [0,2,3] [34000] [] [] (ci hc5 (ci (Eq.refl l3.length) (ci hc6 (ci (Eq.refl l3.length) (ci hc7 (ci (Eq.refl l3.length) (ci hc8 (c1 (Eq.refl l3.length))))))))) ?_;refine Or (Le.trans (Wv 34000 (show ∀ k_,k_<l3.length->AVleL ((fun i_=>AV.eraseAll (fun n_=>D5 n_ [34000]) ((G5 (G5 (fun i=>Au (l3.getD i 0)) i1.toNat 0 [(.int .i64 (l3.getD i2.toNat 0))]) i2.toNat 0 [(.int .i64 (l3.getD i1.toNat 0))]) i_)) k_) ((fun i=>Au ((Q30 l3 i1 i2).getD i 0)) k_) from(Cn (Eq.trans (Hb ..).symm (Hb ..).symm) (fun k_ hk_=>(Cq (AV.eraseAll (fun n_=>D5 n_ [34000])) ((Kl (Kl (fun _ _=>rfl) (Md hc7) rfl) (inB_lt1 hc8) rfl) k_ hk_)).trans rfl)))) (Ww (fun(k_:Nat) u=>(Eu u [(0,(.vsl 34000 k_))] [(34000,.arr 1 3 k_ (fun i=>Au ((Q30 l3 i1 i2).getD i 0)))])) (show l3.length=(Q30 l3 i1 i2).length from(Eq.trans (Hb ..).symm (Hb ..).symm)))) ?_;refine Af hq [0,2,3] [34000] ?_;cases h;exact gN Cr
  ·cases h;exact gO (Bk (B2 [] [34000] hq))
 ·clear hx9;refine gA' (fun st' hl10=>?_);obtain rfl:=OI h;exact gK (e:=.normal) (J7 [(34000,34000)] hl10)
def Uc(a3:TGraph)(a2:Int):List Int->Option (LR (List Int) (List Int ⊕ (List Bool×List Int×List Int))):=
 fun(l9:List Int)=>(A6 (A2 ([a2].getD (w64 (([a2].length:Int)-1)).toNat (0:Int)) 64) (A6 (A2 ([a2].getD (w64 (([a2].length:Int)-1)).toNat (0:Int)) a3.Succ.length) (bif (decide (((l9.getD ([a2].getD (w64 (([a2].length:Int)-1)).toNat (0:Int)).toNat (0:Int)):Int)<((a3.Succ.getD ([a2].getD (w64 (([a2].length:Int)-1)).toNat (0:Int)).toNat []).length:Int))) then(A6 (A2 ([a2].getD (w64 (([a2].length:Int)-1)).toNat (0:Int)) a3.Succ.length) (A6 (A2 ([a2].getD (w64 (([a2].length:Int)-1)).toNat (0:Int)) 64) (A6 (A2 (l9.getD ([a2].getD (w64 (([a2].length:Int)-1)).toNat (0:Int)).toNat (0:Int)) (a3.Succ.getD ([a2].getD (w64 (([a2].length:Int)-1)).toNat (0:Int)).toNat []).length) (A6 (A2 ([a2].getD (w64 (([a2].length:Int)-1)).toNat (0:Int)) 64) (A6 (A2 ([a2].getD (w64 (([a2].length:Int)-1)).toNat (0:Int)) 64) (A6 (A2 ((a3.Succ.getD ([a2].getD (w64 (([a2].length:Int)-1)).toNat (0:Int)).toNat []).getD (l9.getD ([a2].getD (w64 (([a2].length:Int)-1)).toNat (0:Int)).toNat (0:Int)).toNat (0:Int)) 64) (bif (!((Oa 64 false (List.replicate 64 false) a2.toNat true).getD ((a3.Succ.getD ([a2].getD (w64 (([a2].length:Int)-1)).toNat (0:Int)).toNat []).getD (l9.getD ([a2].getD (w64 (([a2].length:Int)-1)).toNat (0:Int)).toNat (0:Int)).toNat (0:Int)).toNat false)) then(A6 (A2 ((a3.Succ.getD ([a2].getD (w64 (([a2].length:Int)-1)).toNat (0:Int)).toNat []).getD (l9.getD ([a2].getD (w64 (([a2].length:Int)-1)).toNat (0:Int)).toNat (0:Int)).toNat (0:Int)) 64) (A6 ([a2].length+([((a3.Succ.getD ([a2].getD (w64 (([a2].length:Int)-1)).toNat (0:Int)).toNat []).getD (l9.getD ([a2].getD (w64 (([a2].length:Int)-1)).toNat (0:Int)).toNat (0:Int)).toNat (0:Int))]:List Int).length<=room) (some (.done (.inr ((Oa 64 false (Oa 64 false (List.replicate 64 false) a2.toNat true) ((a3.Succ.getD ([a2].getD (w64 (([a2].length:Int)-1)).toNat (0:Int)).toNat []).getD (l9.getD ([a2].getD (w64 (([a2].length:Int)-1)).toNat (0:Int)).toNat (0:Int)).toNat (0:Int)).toNat true),(Oa 64 (0:Int) l9 ([a2].getD (w64 (([a2].length:Int)-1)).toNat (0:Int)).toNat (w64 ((l9.getD ([a2].getD (w64 (([a2].length:Int)-1)).toNat (0:Int)).toNat (0:Int))+1))),([a2]++([((a3.Succ.getD ([a2].getD (w64 (([a2].length:Int)-1)).toNat (0:Int)).toNat []).getD (l9.getD ([a2].getD (w64 (([a2].length:Int)-1)).toNat (0:Int)).toNat (0:Int)).toNat (0:Int))]:List Int)))))))) else(some (.next (Oa 64 (0:Int) l9 ([a2].getD (w64 (([a2].length:Int)-1)).toNat (0:Int)).toNat (w64 ((l9.getD ([a2].getD (w64 (([a2].length:Int)-1)).toNat (0:Int)).toNat (0:Int))+1)))))))))))) else(some (.done (.inl l9))))))
def H1(a3:TGraph)(l1:List Bool)(l3:List Int):List Int->Option (LR (List Int) (List Int ⊕ (List Bool×List Int×List Int))):=
 fun(l32:List Int)=>(A6 (A2 (l3.getD (w64 ((l3.length:Int)-1)).toNat (0:Int)) 64) (A6 (A2 (l3.getD (w64 ((l3.length:Int)-1)).toNat (0:Int)) a3.Succ.length) (bif (decide (((l32.getD (l3.getD (w64 ((l3.length:Int)-1)).toNat (0:Int)).toNat (0:Int)):Int)<((a3.Succ.getD (l3.getD (w64 ((l3.length:Int)-1)).toNat (0:Int)).toNat []).length:Int))) then(A6 (A2 (l3.getD (w64 ((l3.length:Int)-1)).toNat (0:Int)) a3.Succ.length) (A6 (A2 (l3.getD (w64 ((l3.length:Int)-1)).toNat (0:Int)) 64) (A6 (A2 (l32.getD (l3.getD (w64 ((l3.length:Int)-1)).toNat (0:Int)).toNat (0:Int)) (a3.Succ.getD (l3.getD (w64 ((l3.length:Int)-1)).toNat (0:Int)).toNat []).length) (A6 (A2 (l3.getD (w64 ((l3.length:Int)-1)).toNat (0:Int)) 64) (A6 (A2 (l3.getD (w64 ((l3.length:Int)-1)).toNat (0:Int)) 64) (A6 (A2 ((a3.Succ.getD (l3.getD (w64 ((l3.length:Int)-1)).toNat (0:Int)).toNat []).getD (l32.getD (l3.getD (w64 ((l3.length:Int)-1)).toNat (0:Int)).toNat (0:Int)).toNat (0:Int)) 64) (bif (!(l1.getD ((a3.Succ.getD (l3.getD (w64 ((l3.length:Int)-1)).toNat (0:Int)).toNat []).getD (l32.getD (l3.getD (w64 ((l3.length:Int)-1)).toNat (0:Int)).toNat (0:Int)).toNat (0:Int)).toNat false)) then(A6 (A2 ((a3.Succ.getD (l3.getD (w64 ((l3.length:Int)-1)).toNat (0:Int)).toNat []).getD (l32.getD (l3.getD (w64 ((l3.length:Int)-1)).toNat (0:Int)).toNat (0:Int)).toNat (0:Int)) 64) (A6 (l3.length+([((a3.Succ.getD (l3.getD (w64 ((l3.length:Int)-1)).toNat (0:Int)).toNat []).getD (l32.getD (l3.getD (w64 ((l3.length:Int)-1)).toNat (0:Int)).toNat (0:Int)).toNat (0:Int))]:List Int).length<=room) (some (.done (.inr ((Oa 64 false l1 ((a3.Succ.getD (l3.getD (w64 ((l3.length:Int)-1)).toNat (0:Int)).toNat []).getD (l32.getD (l3.getD (w64 ((l3.length:Int)-1)).toNat (0:Int)).toNat (0:Int)).toNat (0:Int)).toNat true),(Oa 64 (0:Int) l32 (l3.getD (w64 ((l3.length:Int)-1)).toNat (0:Int)).toNat (w64 ((l32.getD (l3.getD (w64 ((l3.length:Int)-1)).toNat (0:Int)).toNat (0:Int))+1))),(l3++([((a3.Succ.getD (l3.getD (w64 ((l3.length:Int)-1)).toNat (0:Int)).toNat []).getD (l32.getD (l3.getD (w64 ((l3.length:Int)-1)).toNat (0:Int)).toNat (0:Int)).toNat (0:Int))]:List Int)))))))) else(some (.next (Oa 64 (0:Int) l32 (l3.getD (w64 ((l3.length:Int)-1)).toNat (0:Int)).toNat (w64 ((l32.getD (l3.getD (w64 ((l3.length:Int)-1)).toNat (0:Int)).toNat (0:Int))+1)))))))))))) else(some (.done (.inl l32))))))
def D4(a3:TGraph):(List Bool×List Int×List Int×List Int)->Option (LR (List Bool×List Int×List Int×List Int) (List Int)):=
 fun(s_:(List Bool×List Int×List Int×List Int))=>match s_ with|(l1,l2,l3,l4)=>(A6 (A2 (w64 ((l3.length:Int)-1)) l3.length) ((Ah (H1 a3 l1 l3) l2).bind (fun x47=>(match x47 with|(.inl l33)=>(A6 (l4.length+([(l3.getD (w64 ((l3.length:Int)-1)).toNat (0:Int))]:List Int).length<=room) (A6 (0<=(w64 ((l3.length:Int)-1))/\0+(w64 ((l3.length:Int)-1)).toNat<=l3.length) (bif (decide (((0:Int):Int)<((l3.take (w64 ((l3.length:Int)-1)).toNat).length:Int))) then(some (.next (l1,l33,(l3.take (w64 ((l3.length:Int)-1)).toNat),(l4++([(l3.getD (w64 ((l3.length:Int)-1)).toNat (0:Int))]:List Int))))) else((Es (l4++([(l3.getD (w64 ((l3.length:Int)-1)).toNat (0:Int))]:List Int))).bind fun x51=>(A6 ((l4++([(l3.getD (w64 ((l3.length:Int)-1)).toNat (0:Int))]:List Int)).length=x51.length) (some (.done x51)))))))|(.inr (l34,l35,l36))=>(some (.next (l34,l35,l36,l4)))))))
def K_graph_Order(Γ:Iw)(a3:TGraph)(a2:Int)(r:List Int):Exit->St->Prop:=fK Tryz.prog Γ Tryz.f70.results.toList [] (Z13 r 20000) [(20000,.tok 1 3 r.length)]
def Q49(l1:List Bool):=(fun i=>eB (l1.getD i false))
def Q32(l3:List Int):=(l3.getD (w64 ((l3.length:Int)-1)).toNat (0:Int))
def Q46(l4:List Int)(l3:List Int):=(l4++([(Q32 l3)]:List Int))
def Q42(l10:List Int):=(fun i=>Au (l10.getD i 0))
def Q48(l33:List Int):=(fun i=>Au (l33.getD i 0))
def Q35:=(fun n_=>D5 n_ [2,5,6,25,36007])
def Q38(a2:Int):=(fun i=>Au ([a2].getD i 0))
def Q31(a2:Int):=([a2].getD (w64 (([a2].length:Int)-1)).toNat (0:Int))
def Q45(a2:Int):=(([]:List Int)++([(Q31 a2)]:List Int))
def Q53(a2:Int):=(fun i=>Au ((Q45 a2).getD i 0))
def Q52(l4:List Int)(l3:List Int):=(fun i=>Au ((Q46 l4 l3).getD i 0))
def Q39:AV:=Z25
def Q41:=(fun i=>Au (([]:List Int).getD i 0))
def Q37(l3:List Int):=(0+(w64 ((l3.length:Int)-1)).toNat)
def Q36(a2:Int):=(0+(w64 (([a2].length:Int)-1)).toNat)
def Q51(a2:Int):=([a2].take (w64 (([a2].length:Int)-1)).toNat)
def Q40:=(fun i=>Au ((List.replicate 64 (0:Int)).getD i 0))
def Q33(a3:TGraph):List AV:=[(Z20 a3.Succ),(Z20 a3.Pred)]
def Q34(a2:Int):=(fun i=>eB ((Oa 64 false (List.replicate 64 false) a2.toNat true).getD i false))
def Q44(a3:TGraph)(l3:List Int)(l32:List Int):=((a3.Succ.getD (Q32 l3).toNat []).getD (l32.getD (Q32 l3).toNat (0:Int)).toNat (0:Int))
def Q43(a3:TGraph)(a2:Int)(l9:List Int):=((a3.Succ.getD (Q31 a2).toNat []).getD (l9.getD (Q31 a2).toNat (0:Int)).toNat (0:Int))
def Q50:=(Z28:St)
def Q54(a2:Int):List (Nat×AV):=[Ra,Z80,Z73,(7,(.vsl 36007 (Q45 a2).length)),(8,(.vsl 25 (Q36 a2)))]
def Q47(a2:Int)(a3:TGraph):=(⟨[Ra,Z80,Z73,(7,(.vsl 36007 ([]:List Int).length)),(8,(.vsl 25 [a2].length)),(9,(Z7 (Q31 a2)))],[(M6 41 (Q33 a3)),(Z83 (Q34 a2)),(Z82 Q40),(25,.arr 1 3 ([a2].length) (Q38 a2)),(36007,.arr 1 3 (([]:List Int).length) Q41)],[]⟩:St)
def Ib(a3:TGraph)(a2:Int):Option (List Int):=
 ((P9 (S:=(List Bool×List Int×List Int×List Int)) (X:=List Int) ((Lm a3).bind fun x5=>((bif ((!x5)==false) then I8 a2 (a3.Succ.length:Int) else some false).bind fun x6=>(bif (bif (!x5) then true else(!x6)) then(some (.done ([]:List Int))) else(A6 (A2 a2 64) (A6 (A2 (w64 (([a2].length:Int)-1)) [a2].length) ((Ah (Uc a3 a2) (List.replicate 64 (0:Int))).bind (fun x24=>(match x24 with|(.inl l10)=>(A6 (([]:List Int).length+([([a2].getD (w64 (([a2].length:Int)-1)).toNat (0:Int))]:List Int).length<=room) (A6 (0<=(w64 (([a2].length:Int)-1))/\0+(w64 (([a2].length:Int)-1)).toNat<=[a2].length) (bif (decide (((0:Int):Int)<(([a2].take (w64 (([a2].length:Int)-1)).toNat).length:Int))) then(some (.next ((Oa 64 false (List.replicate 64 false) a2.toNat true),l10,([a2].take (w64 (([a2].length:Int)-1)).toNat),(([]:List Int)++([([a2].getD (w64 (([a2].length:Int)-1)).toNat (0:Int))]:List Int))))) else((Es (([]:List Int)++([([a2].getD (w64 (([a2].length:Int)-1)).toNat (0:Int))]:List Int))).bind fun x28=>(A6 ((([]:List Int)++([([a2].getD (w64 (([a2].length:Int)-1)).toNat (0:Int))]:List Int)).length=x28.length) (some (.done x28)))))))|(.inr (l11,l12,l13))=>(some (.next (l11,l12,l13,([]:List Int)))))))))))) (D4 a3)).bind (fun x54=>(some x54)))
theorem Ya(a3:TGraph)(a2:Int)(r:List Int)(h:Ib a3 a2=some r):Spec Tryz.prog 70 [(Z61 a3),(Z7 a2)] [] (Z13 r 20000) [(20000,.tok 1 3 r.length)]:=by
 refine Ac mix Tryz.func70 (fun Γ hq=>?_);have hΓ:=hq.own;unfold Ib at h;refine gR hq M5 [2] [(4,Q39)] [] (c1 (Dh 1 Au (0:Int))) ?_;obtain⟨x54,hx54,h⟩:=bind_some h;refine gS hx54 (fun(s_:(List Bool×List Int×List Int×List Int))=>match s_ with|(l1,l2,l3,l4)=>0) (fun(s_:(List Bool×List Int×List Int×List Int))=>match s_ with|(l1,l2,l3,l4)=>(⟨[Ra,Z80,Z73,(Ti 36007 l4.length),(8,(.vsl 25 l3.length))],[(M6 41 (Q33 a3)),(Z83 (Q49 l1)),(Z65 l2),(Z4 25 l3),(Z4 36007 l4)],[]⟩:St)) (fun r_=>aR (K_graph_Order Γ a3 a2 r_)) ?_ ?_ ?_
 ·clear h hx54;intro y h;obtain⟨x5,hx5,h⟩:=bind_some h;obtain⟨x6,hx6,h⟩:=bind_some h;refine gR hq [1,2,21] [2] [] [(Z2 x5),(Z2 x6)] (ci (ok_graph_May a3 x5 hx5) (ci (gI ((!x5)==false)) (ci (gI ((!x5)==false)) (ci (gI ((!x5)==false)) (ci (gI ((!x5)==false)) (ci (fun(hg:((!x5)==false)=true)=>(P6 a2 (a3.Succ.length:Int) x6 (Bg hg hx6))) (ci (gI ((!x5)==false)) (c1 (J1 (!x5)))))))))) ?_;refine gC h ?_ ?_<;>intro h
  ·refine gR hq [4] [] [(4,Q39)] [] (c1 (Dh 1 Au (0:Int))) ?_;refine Ri (⟨[(4,Q39)],[],[]⟩:St) ?_;cases h;exact gJo (L0 (J7 zzN103 (show Le Γ _ Q50 from Le.trans (B2 (st':=⟨[(4,Q39)],[],[]⟩) [4] [] hq) (Le.trans (Nw (t:=4) (nm:=6004) (sz':=1) Q41 3 rfl rfl (.inl ⟨rfl,rfl⟩) (fun h_=>absurd h_ (by decide))) (B2 (st':=Q50) [4] [6004] hq)))))
  ·refine gR hq zzN88 T4 [Z80] [] trivial ?_;refine Or (Wv 5 (show ∀ k_,k_<64->AVleL ((fun i_=>AV.eraseAll (fun n_=>D5 n_ T4) ((fun i=>(((List.replicate 64 [(.bool false)]).flatten).drop (i*1)).take 1) i_)) k_) ((fun i=>eB ((List.replicate 64 false).getD i false)) k_) from(arrE_zero (e:=eB) (d:=false) (z:=[(.bool false)]) rfl rfl rfl))) ?_;refine gR hq [1,2,5,6] Uu [Z73] [] trivial ?_;refine Or (Wv 6 (show ∀ k_,k_<64->AVleL ((fun i_=>AV.eraseAll (fun n_=>D5 n_ Uu) ((fun i=>(((List.replicate 64 [Pq]).flatten).drop (i*1)).take 1) i_)) k_) (Q40 k_) from(arrE_zero (e:=Au) (d:=(0:Int)) (z:=[Pq]) rfl rfl rfl))) ?_;refine gR hq zzN175 Uu [(7,Q39)] [] (c1 (Dh 1 Au (0:Int))) ?_;obtain⟨hc7,h⟩:=Aa h;refine gR hq zzN175 Uu [] [] (ci hc7 (c1 (Eq.refl 64))) ?_;refine Or (Wv 5 (show ∀ k_,k_<64->AVleL ((fun i_=>AV.eraseAll (fun n_=>D5 n_ Uu) ((G5 (fun i=>eB ((List.replicate 64 false).getD i false)) a2.toNat 0 [(.bool true)]) i_)) k_) ((Q34 a2) k_) from(Cn rfl (fun k_ hk_=>(Cq (AV.eraseAll (fun n_=>D5 n_ Uu)) ((Um (fun _ _=>rfl) (O8 hc7) rfl) k_ hk_)).trans rfl)))) ?_;refine gR hq Zd zzN159 [(25,(.vsl 25 1))] [] trivial ?_;refine Or (Le.trans (Wv 25 (show ∀ k_,k_<1->AVleL ((fun i_=>AV.eraseAll (fun n_=>D5 n_ zzN159) ((fun i_=>([(Z7 a2)].drop (i_*1)).take 1) i_)) k_) ((Q38 a2) k_) from(Cn rfl (pw_snoc (n:=0) pw_nil rfl)))) (Ww (fun(k_:Nat) u=>(Eu u [(8,(.vsl 25 k_))] [(25,.arr 1 3 k_ (Q38 a2))])) (show 1=[a2].length from rfl))) ?_;obtain⟨hc8,h⟩:=Aa h;refine gR hq zzN29 zzN159 [] [] (ci hc8 (c1 (Eq.refl ([a2].length)))) ?_;refine Or (st':=(Q47 a2 a3)) (Le.trans (B2 (st':=⟨[Ra,Z80,Z73,(7,Q39),(8,(.vsl 25 [a2].length)),(9,(Z7 (Q31 a2)))],[(M6 41 (Q33 a3)),(Z83 (Q34 a2)),(Z82 Q40),(25,.arr 1 3 ([a2].length) (Q38 a2))],[]⟩) zzN29 zzN159 hq) (Le.trans (le_arr (t:=7) (nm:=36007) (sz':=1) Q41 3 rfl rfl) (B2 (st':=(Q47 a2 a3)) zzN29 O0 hq))) ?_;obtain⟨x24,hx24,h⟩:=bind_some h;refine gL hq hx24 zzN29 O0 (fun u l9=>(Eu u [] [(Z65 l9)])) (fun u x_=>match x_ with|(.inl l10)=>aG Γ (.exit 0) (Eu u [] [(Z82 (Q42 l10))])|(.inr (l11,l12,l13))=>aG Γ (.goto 0) (Oz Zd O0 u [(8,(.vsl 25 l13.length))] [(5,.arr 1 82 64 (fun i=>eB (l11.getD i false))),(Z65 l12),(Z4 25 l13)])) ?_ ?_
   ·intro l9 y h;unfold Uc at h;obtain⟨hc14,h⟩:=Aa h;obtain⟨hc15,h⟩:=Aa h;refine gR hq [2,5,6,7,8,9,41] O0 [] [] (ci hc14 (ci (Eq.refl 64) (c1 hc15))) ?_;refine gC h ?_ ?_<;>intro h
    ·obtain⟨hc16,h⟩:=Aa h;obtain⟨hc17,h⟩:=Aa h;obtain⟨hc18,h⟩:=Aa h;refine gR hq zzN93 O0 [] [] (ci hc16 (ci hc17 (ci (Eq.refl 64) (c1 hc18)))) ?_;obtain⟨hc19,h⟩:=Aa h;obtain⟨hc20,h⟩:=Aa h;refine gR hq zzN93 O0 [] [] (ci hc19 (ci (Eq.refl 64) (ci hc20 (c1 (Eq.refl 64))))) ?_;refine Or (Wv 6 (show ∀ k_,k_<64->AVleL ((fun i_=>AV.eraseAll Q35 ((G5 (fun i=>Au (l9.getD i 0)) (Q31 a2).toNat 0 [(.int .i64 (w64 ((l9.getD (Q31 a2).toNat (0:Int))+1)))]) i_)) k_) ((fun i=>Au ((Oa 64 (0:Int) l9 (Q31 a2).toNat (w64 ((l9.getD (Q31 a2).toNat (0:Int))+1))).getD i 0)) k_) from(Cn rfl (fun k_ hk_=>(Cq (AV.eraseAll Q35) ((Um (fun _ _=>rfl) (O8 hc20) rfl) k_ hk_)).trans rfl)))) ?_;obtain⟨hc21,h⟩:=Aa h;refine gR hq zzN160 O0 [] [] (ci hc21 (c1 (Eq.refl 64))) ?_;refine gC h ?_ ?_<;>intro h
     ·obtain⟨hc22,h⟩:=Aa h;refine gR hq [2,5,6,7,8,10] O0 [] [] (ci hc22 (c1 (Eq.refl 64))) ?_;refine Or (Wv 5 (show ∀ k_,k_<64->AVleL ((fun i_=>AV.eraseAll Q35 ((G5 (Q34 a2) (Q43 a3 a2 l9).toNat 0 [(.bool true)]) i_)) k_) ((fun i=>eB ((Oa 64 false (Oa 64 false (List.replicate 64 false) a2.toNat true) (Q43 a3 a2 l9).toNat true).getD i false)) k_) from(Cn rfl (fun k_ hk_=>(Cq (AV.eraseAll Q35) ((Um (fun _ _=>rfl) (O8 hc22) rfl) k_ hk_)).trans rfl)))) ?_;obtain⟨hc23,h⟩:=Aa h;refine gR hq Zd O0 [(65,(Z26 (Q43 a3 a2 l9)))] [] (ci (Bx 1 Au (0:Int) ([(Q43 a3 a2 l9)]:List Int)) (ci (Eq.refl ([a2].length)) (c1 hc23))) ?_;cases h;exact gO (Bk (Le.trans (Le.trans (Wv 25 (show ∀ k_,k_<([a2].length+([(Q43 a3 a2 l9)]:List Int).length)->AVleL ((fun i_=>AV.eraseAll Q35 ((Nz ([a2].length) (Q38 a2) (fun i=>Au (([(Q43 a3 a2 l9)]:List Int).getD i 0))) i_)) k_) ((fun i=>Au (([a2]++([(Q43 a3 a2 l9)]:List Int)).getD i 0)) k_) from(Cn (Fe _ _) (fun k_ hk_=>(Cq (AV.eraseAll Q35) ((appF_app (fun _ _=>rfl) (fun _ _=>rfl)) k_ hk_)).trans rfl)))) (Ww (fun(k_:Nat) u=>(Eu u [(8,(.vsl 25 k_))] [(25,.arr 1 3 k_ (fun i=>Au (([a2]++([(Q43 a3 a2 l9)]:List Int)).getD i 0)))])) (show([a2].length+([(Q43 a3 a2 l9)]:List Int).length)=([a2]++([(Q43 a3 a2 l9)]:List Int)).length from(Fe _ _)))) Cr))
     ·cases h;exact gN (B2 zzN29 O0 hq)
    ·cases h;exact gO (Bk (B2 zzN29 O0 hq))
   ·clear hx24;rcases x24 with l10|⟨l11,l12,l13⟩
    ·refine gA ?_;obtain⟨hc26,h⟩:=Aa h;refine gR hq Zd O0 [(69,(Z26 (Q31 a2)))] [] (ci (Bx 1 Au (0:Int) ([(Q31 a2)]:List Int)) (ci (Eq.refl (([]:List Int).length)) (c1 hc26))) ?_;refine Or (Le.trans (Wv 36007 (show ∀ k_,k_<(([]:List Int).length+([(Q31 a2)]:List Int).length)->AVleL ((fun i_=>AV.eraseAll Q35 ((Nz (([]:List Int).length) Q41 (fun i=>Au (([(Q31 a2)]:List Int).getD i 0))) i_)) k_) ((Q53 a2) k_) from(Cn (Fe _ _) (fun k_ hk_=>(Cq (AV.eraseAll Q35) ((appF_app (fun _ _=>rfl) (fun _ _=>rfl)) k_ hk_)).trans rfl)))) (Ww (fun(k_:Nat) u=>(Eu u [(Ti 36007 k_)] [(36007,.arr 1 3 k_ (Q53 a2))])) (show(([]:List Int).length+([(Q31 a2)]:List Int).length)=(Q45 a2).length from(Fe _ _)))) ?_;obtain⟨hc27,h⟩:=Aa h;refine gR hq Zd O0 [] [] (c1 hc27) ?_;refine Ri (⟨[Ra,Z80,Z73,(7,(.vsl 36007 (Q45 a2).length)),(8,(.vsub 25 [a2].length 0 (Q36 a2)))],[(M6 41 (Q33 a3)),(Z83 (Q34 a2)),(Z82 (Q42 l10)),(25,.arr 1 3 ([a2].length) (Q38 a2)),(36007,.arr 1 3 ((Q45 a2).length) (Q53 a2))],[]⟩:St) ?_;refine Or (Le.trans (Le.trans (le_trunc (t:=8) (r:=25) (k:=(Q36 a2)) rfl rfl hc27.2 (by kernel_rfl) (.row (by kernel_rfl) (.arr (fun _=>by kernel_rfl) (.arr (fun _=>by kernel_rfl) (.arr (fun _=>by kernel_rfl) (.arr (fun _=>by kernel_rfl) .nil))))) (by rw[hΓ];rfl)) (J5 (st':=⟨(Q54 a2),[(M6 41 (Q33 a3)),(Z83 (Q34 a2)),(Z82 (Q42 l10)),(25,.arr 1 3 (Q36 a2) (Q38 a2)),(36007,.arr 1 3 ((Q45 a2).length) (Q53 a2))],[]⟩) (by kernel_rfl))) (Le.trans (Jo (st':=⟨(Q54 a2),[(M6 41 (Q33 a3)),(Z83 (Q34 a2)),(Z82 (Q42 l10)),(25,.arr 1 3 (Q36 a2) (fun i=>Au ((Q51 a2).getD i 0))),(36007,.arr 1 3 ((Q45 a2).length) (Q53 a2))],[]⟩) (TmpsLe.refl _) (.same (.same (.same (.arr (take_le (e:=Au) (d:=(0:Int))) (.same .nil)))))) (J5 (Cq (fun k_:Nat=>(⟨[Ra,Z80,Z73,(7,(.vsl 36007 (Q45 a2).length)),(8,(.vsl 25 k_))],[(M6 41 (Q33 a3)),(Z83 (Q34 a2)),(Z82 (Q42 l10)),(25,.arr 1 3 k_ (fun i=>Au ((Q51 a2).getD i 0))),(36007,.arr 1 3 ((Q45 a2).length) (Q53 a2))],[]⟩:St)) (show(Q36 a2)=(Q51 a2).length from take_len hc27.2))))) ?_;refine Af hq [2,5,6,7,8,78] O0 ?_;refine gC h ?_ ?_<;>intro h
     ·cases h;exact gJn (B2 Zd O0 hq)
     ·obtain⟨x28,hx28,h⟩:=bind_some h;obtain⟨hc29,h⟩:=Aa h;refine gR hq [7] [36007] [] [⟨[(36007,34000)],[],(.tuple []),[(Z4 34000 x28)],[],[]⟩] (c1 (Nq (Q45 a2) x28 hx28)) ?_;refine Or (Ww (fun(k_:Nat) u=>(Eu u [(Ti 36007 k_)] [])) (show(Q45 a2).length=x28.length from hc29)) ?_;refine Af hq [4] [36007] ?_;refine Ri (⟨[(4,(.vsl 36007 x28.length))],[(Z4 36007 x28)],[]⟩:St) ?_;cases h;exact gJo (L0 (J7 [(36007,20000)] (Le.trans (J9 (nm:=36007) (sz:=1) (n:=x28.length) (e:=3) (f:=(fun i=>Au (x28.getD i 0))) (g:=(fun i=>Au (x28.getD i 0))) rfl ⟨rfl,trivial⟩ (fun _ _=>rfl) (by rw[hΓ];rfl)) (J5 (st':=(Z74 x28 36007 x28.length)) (by kernel_rfl)))))
    ·refine gA' (fun st' hl30=>?_);cases h;exact gJn (Le.trans hl30 Cr)
 ·clear h hx54;rintro⟨l1,l2,l3,l4⟩ y h;unfold D4 at h;obtain⟨hc31,h⟩:=Aa h;refine gR hq zzN29 O0 [] [] (ci hc31 (c1 (Eq.refl l3.length))) ?_;obtain⟨x47,hx47,h⟩:=bind_some h;refine gL hq hx47 zzN29 O0 (fun u l32=>(Eu u [] [(Z65 l32)])) (fun u x_=>match x_ with|(.inl l33)=>aG Γ (.exit 0) (Eu u [] [(Z82 (Q48 l33))])|(.inr (l34,l35,l36))=>aG Γ (.goto 0) (Oz Zd O0 u [(8,(.vsl 25 l36.length))] [(5,.arr 1 82 64 (fun i=>eB (l34.getD i false))),(Z65 l35),(Z4 25 l36)])) ?_ ?_
  ·intro l32 y h;unfold H1 at h;obtain⟨hc37,h⟩:=Aa h;obtain⟨hc38,h⟩:=Aa h;refine gR hq [2,5,6,7,8,9,41] O0 [] [] (ci hc37 (ci (Eq.refl 64) (c1 hc38))) ?_;refine gC h ?_ ?_<;>intro h
   ·obtain⟨hc39,h⟩:=Aa h;obtain⟨hc40,h⟩:=Aa h;obtain⟨hc41,h⟩:=Aa h;refine gR hq zzN93 O0 [] [] (ci hc39 (ci hc40 (ci (Eq.refl 64) (c1 hc41)))) ?_;obtain⟨hc42,h⟩:=Aa h;obtain⟨hc43,h⟩:=Aa h;refine gR hq zzN93 O0 [] [] (ci hc42 (ci (Eq.refl 64) (ci hc43 (c1 (Eq.refl 64))))) ?_;refine Or (Wv 6 (show ∀ k_,k_<64->AVleL ((fun i_=>AV.eraseAll Q35 ((G5 (fun i=>Au (l32.getD i 0)) (Q32 l3).toNat 0 [(.int .i64 (w64 ((l32.getD (Q32 l3).toNat (0:Int))+1)))]) i_)) k_) ((fun i=>Au ((Oa 64 (0:Int) l32 (Q32 l3).toNat (w64 ((l32.getD (Q32 l3).toNat (0:Int))+1))).getD i 0)) k_) from(Cn rfl (fun k_ hk_=>(Cq (AV.eraseAll Q35) ((Um (fun _ _=>rfl) (O8 hc43) rfl) k_ hk_)).trans rfl)))) ?_;obtain⟨hc44,h⟩:=Aa h;refine gR hq zzN160 O0 [] [] (ci hc44 (c1 (Eq.refl 64))) ?_;refine gC h ?_ ?_<;>intro h
    ·obtain⟨hc45,h⟩:=Aa h;refine gR hq [2,5,6,7,8,10] O0 [] [] (ci hc45 (c1 (Eq.refl 64))) ?_;refine Or (Wv 5 (show ∀ k_,k_<64->AVleL ((fun i_=>AV.eraseAll Q35 ((G5 (Q49 l1) (Q44 a3 l3 l32).toNat 0 [(.bool true)]) i_)) k_) ((fun i=>eB ((Oa 64 false l1 (Q44 a3 l3 l32).toNat true).getD i false)) k_) from(Cn rfl (fun k_ hk_=>(Cq (AV.eraseAll Q35) ((Um (fun _ _=>rfl) (O8 hc45) rfl) k_ hk_)).trans rfl)))) ?_;obtain⟨hc46,h⟩:=Aa h;refine gR hq Zd O0 [(65,(Z26 (Q44 a3 l3 l32)))] [] (ci (Bx 1 Au (0:Int) ([(Q44 a3 l3 l32)]:List Int)) (ci (Eq.refl l3.length) (c1 hc46))) ?_;cases h;exact gO (Bk (Le.trans (Le.trans (Wv 25 (show ∀ k_,k_<(l3.length+([(Q44 a3 l3 l32)]:List Int).length)->AVleL ((fun i_=>AV.eraseAll Q35 ((Nz l3.length (fun i=>Au (l3.getD i 0)) (fun i=>Au (([(Q44 a3 l3 l32)]:List Int).getD i 0))) i_)) k_) ((fun i=>Au ((l3++([(Q44 a3 l3 l32)]:List Int)).getD i 0)) k_) from(Cn (Fe _ _) (fun k_ hk_=>(Cq (AV.eraseAll Q35) ((appF_app (fun _ _=>rfl) (fun _ _=>rfl)) k_ hk_)).trans rfl)))) (Ww (fun(k_:Nat) u=>(Eu u [(8,(.vsl 25 k_))] [(25,.arr 1 3 k_ (fun i=>Au ((l3++([(Q44 a3 l3 l32)]:List Int)).getD i 0)))])) (show(l3.length+([(Q44 a3 l3 l32)]:List Int).length)=(l3++([(Q44 a3 l3 l32)]:List Int)).length from(Fe _ _)))) Cr))
    ·cases h;exact gN (B2 zzN29 O0 hq)
   ·cases h;exact gO (Bk (B2 zzN29 O0 hq))
  ·clear hx47;rcases x47 with l33|⟨l34,l35,l36⟩
   ·refine gA ?_;obtain⟨hc49,h⟩:=Aa h;refine gR hq Zd O0 [(69,(Z26 (Q32 l3)))] [] (ci (Bx 1 Au (0:Int) ([(Q32 l3)]:List Int)) (ci (Eq.refl l4.length) (c1 hc49))) ?_;refine Or (Le.trans (Wv 36007 (show ∀ k_,k_<(l4.length+([(Q32 l3)]:List Int).length)->AVleL ((fun i_=>AV.eraseAll Q35 ((Nz l4.length (fun i=>Au (l4.getD i 0)) (fun i=>Au (([(Q32 l3)]:List Int).getD i 0))) i_)) k_) ((Q52 l4 l3) k_) from(Cn (Fe _ _) (fun k_ hk_=>(Cq (AV.eraseAll Q35) ((appF_app (fun _ _=>rfl) (fun _ _=>rfl)) k_ hk_)).trans rfl)))) (Ww (fun(k_:Nat) u=>(Eu u [(Ti 36007 k_)] [(36007,.arr 1 3 k_ (Q52 l4 l3))])) (show(l4.length+([(Q32 l3)]:List Int).length)=(Q46 l4 l3).length from(Fe _ _)))) ?_;obtain⟨hc50,h⟩:=Aa h;refine gR hq Zd O0 [] [] (c1 hc50) ?_;refine Ri (⟨[Ra,Z80,Z73,(7,(.vsl 36007 (Q46 l4 l3).length)),(8,(.vsub 25 l3.length 0 (Q37 l3)))],[(M6 41 (Q33 a3)),(Z83 (Q49 l1)),(Z82 (Q48 l33)),(Z4 25 l3),(36007,.arr 1 3 ((Q46 l4 l3).length) (Q52 l4 l3))],[]⟩:St) ?_;refine Or (Le.trans (Le.trans (le_trunc (t:=8) (r:=25) (k:=(Q37 l3)) rfl rfl hc50.2 (by kernel_rfl) (.row (by kernel_rfl) (.arr (fun _=>by kernel_rfl) (.arr (fun _=>by kernel_rfl) (.arr (fun _=>by kernel_rfl) (.arr (fun _=>by kernel_rfl) .nil))))) (by rw[hΓ];rfl)) (J5 (st':=⟨[Ra,Z80,Z73,(7,(.vsl 36007 (Q46 l4 l3).length)),(8,(.vsl 25 (Q37 l3)))],[(M6 41 (Q33 a3)),(Z83 (Q49 l1)),(Z82 (Q48 l33)),(25,.arr 1 3 (Q37 l3) (fun i=>Au (l3.getD i 0))),(36007,.arr 1 3 ((Q46 l4 l3).length) (Q52 l4 l3))],[]⟩) (by kernel_rfl))) (Le.trans (Jo (st':=⟨[Ra,Z80,Z73,(7,(.vsl 36007 (Q46 l4 l3).length)),(8,(.vsl 25 (Q37 l3)))],[(M6 41 (Q33 a3)),(Z83 (Q49 l1)),(Z82 (Q48 l33)),(25,.arr 1 3 (Q37 l3) (fun i=>Au ((l3.take (w64 ((l3.length:Int)-1)).toNat).getD i 0))),(36007,.arr 1 3 ((Q46 l4 l3).length) (Q52 l4 l3))],[]⟩) (TmpsLe.refl _) (.same (.same (.same (.arr (take_le (e:=Au) (d:=(0:Int))) (.same .nil)))))) (J5 (Cq (fun k_:Nat=>(⟨[Ra,Z80,Z73,(7,(.vsl 36007 (Q46 l4 l3).length)),(8,(.vsl 25 k_))],[(M6 41 (Q33 a3)),(Z83 (Q49 l1)),(Z82 (Q48 l33)),(25,.arr 1 3 k_ (fun i=>Au ((l3.take (w64 ((l3.length:Int)-1)).toNat).getD i 0))),(36007,.arr 1 3 ((Q46 l4 l3).length) (Q52 l4 l3))],[]⟩:St)) (show(Q37 l3)=(l3.take (w64 ((l3.length:Int)-1)).toNat).length from take_len hc50.2))))) ?_;refine Af hq [2,5,6,7,8,78] O0 ?_;refine gC h ?_ ?_<;>intro h
    ·cases h;exact gJn (B2 Zd O0 hq)
    ·obtain⟨x51,hx51,h⟩:=bind_some h;obtain⟨hc52,h⟩:=Aa h;refine gR hq [7] [36007] [] [⟨[(36007,34000)],[],(.tuple []),[(Z4 34000 x51)],[],[]⟩] (c1 (Nq (Q46 l4 l3) x51 hx51)) ?_;refine Or (Ww (fun(k_:Nat) u=>(Eu u [(Ti 36007 k_)] [])) (show(Q46 l4 l3).length=x51.length from hc52)) ?_;refine Af hq [4] [36007] ?_;refine Ri (⟨[(4,(.vsl 36007 x51.length))],[(Z4 36007 x51)],[]⟩:St) ?_;cases h;exact gJo (L0 (J7 [(36007,20000)] (Le.trans (J9 (nm:=36007) (sz:=1) (n:=x51.length) (e:=3) (f:=(fun i=>Au (x51.getD i 0))) (g:=(fun i=>Au (x51.getD i 0))) rfl ⟨rfl,trivial⟩ (fun _ _=>rfl) (by rw[hΓ];rfl)) (J5 (st':=(Z74 x51 36007 x51.length)) (by kernel_rfl)))))
   ·refine gA' (fun st' hl53=>?_);cases h;exact gJn (Le.trans hl53 Cr)
 ·clear hx54;refine N2 (fun st' hk=>?_);obtain rfl:=OI h;exact gK hk
def Vf(aL:Int)(aa5:Int):Option (Int×Int):=
 (some ((Iv ((Iv ((Iv ((shrV .u64 aL (32:Int))*(shrV .u64 aa5 (32:Int))))+(shrV .u64 (Iv ((Iv ((shrV .u64 aL (32:Int))*(S1 .and .u64 aa5 (4294967295:Int))))+(shrV .u64 (Iv ((S1 .and .u64 aL (4294967295:Int))*(S1 .and .u64 aa5 (4294967295:Int)))) (32:Int)))) (32:Int))))+(shrV .u64 (Iv ((S1 .and .u64 (Iv ((Iv ((shrV .u64 aL (32:Int))*(S1 .and .u64 aa5 (4294967295:Int))))+(shrV .u64 (Iv ((S1 .and .u64 aL (4294967295:Int))*(S1 .and .u64 aa5 (4294967295:Int)))) (32:Int)))) (4294967295:Int))+(Iv ((S1 .and .u64 aL (4294967295:Int))*(shrV .u64 aa5 (32:Int)))))) (32:Int)))),(Iv (aL*aa5))))
theorem ok_bits_Mul64(aL:Int)(aa5:Int)(r:(Int×Int))(h:Vf aL aa5=some r):Spec Tryz.prog 130 (Z75 aL aa5) [] (.tuple (Z75 r.1 r.2)) []:=by
 refine Ac mix Tryz.func130 (fun Γ hq=>?_);unfold Vf at h;refine Af hq Jy [] ?_;refine Af hq [0,1,6] [] ?_;refine gR hq [0,1,6,7] [] [] [] (c1 (show(0<=(32:Int)) from(by decide))) ?_;refine Af hq [0,1,6,7,8] [] ?_;refine gR hq [0,1,6,7,8,9] [] [] [] (c1 (show(0<=(32:Int)) from(by decide))) ?_;refine Af hq [0,1,6,7,8,9,10] [] ?_;refine gR hq [0,1,6,7,9,11] [] [] [] (c1 (show(0<=(32:Int)) from(by decide))) ?_;refine Af hq [0,1,6,7,9,11,12] [] ?_;refine gR hq [0,1,6,7,9,12,13] [] [] [] (c1 (show(0<=(32:Int)) from(by decide))) ?_;refine Af hq [0,1,7,9,12,13] [] ?_;refine gR hq [0,1,4] [] [] [] (c1 (show(0<=(32:Int)) from(by decide))) ?_;refine Af hq Sv [] ?_;cases h;exact Cf []
def Oi(aL:Int)(aa5:Int):Option (Int×Int):=
 ((Vf aL aa5).bind fun x1=>(some (x1.1,x1.2)))
theorem ok_bits_Mul(aL:Int)(aa5:Int)(r:(Int×Int))(h:Oi aL aa5=some r):Spec Tryz.prog 97 (Z75 aL aa5) [] (.tuple (Z75 r.1 r.2)) []:=by
 refine Ac mix Tryz.func97 (fun Γ hq=>?_);unfold Oi at h;refine Af hq Jy [] ?_;refine gCt false ?_;obtain⟨x1,hx1,h⟩:=bind_some h;refine gR hq [8,9] [] [] [⟨[],[],(.tuple (Z75 x1.1 x1.2)),[],[],[]⟩] (c1 (ok_bits_Mul64 aL aa5 x1 hx1)) ?_;refine Af hq Sv [] ?_;cases h;exact Cf []
def C4 :(Int×List Int)->Option (LR (Int×List Int) (List Int)):=
 fun((i7,l8):(Int×List Int))=>(bif (decide (i7<(l8.length:Int))) then(A6 (0<=i7/\0+i7.toNat<=l8.length) (A6 (0<=i7/\0+i7.toNat<=l8.length) (some (.next ((w64 (i7+((Nat.min ((0+i7.toNat)-0) (l8.length-(0+i7.toNat))):Int))),(cpL l8 (0+i7.toNat) (Nat.min ((0+i7.toNat)-0) (l8.length-(0+i7.toNat))) (fun i=>l8.getD (0+i) 0))))))) else(some (.done l8)))
def Q55(x3:(Int×Int)):=(List.replicate (w64 x3.2).toNat (0:Int))
def Q57(x3:(Int×Int))(aL:List Int):=(cpL (Q55 x3) 0 (Nat.min aL.length ((Q55 x3).length-0)) (fun i=>aL.getD i 0))
def Q56(l8:List Int)(i7:Int):=(cpL l8 (0+i7.toNat) (Nat.min ((0+i7.toNat)-0) (l8.length-(0+i7.toNat))) (fun i=>l8.getD (0+i) 0))
def G3(aL:List Int)(aa6:Int):Option (List Int):=
 (Option.bind (α:=Unit) (bif (decide (aa6<0)) then none else(some ())) (fun x1=>(match x1 with|_=>((Oi (Iv (aL.length:Int)) (Iv aa6)).bind fun x3=>(Option.bind (α:=Unit) (bif (bif (decide (((0:Int):Int)<x3.1)) then true else(decide (((9223372036854775807:Int):Int)<x3.2))) then none else(some ())) (fun x4=>(match x4 with|_=>(A6 (0<=(w64 x3.2)/\(w64 x3.2)<=(w64 x3.2)/\(w64 x3.2)<=(room:Int)) ((Ah (S:=(Int×List Int)) (X:=List Int) C4 (((Nat.min aL.length ((List.replicate (w64 x3.2).toNat (0:Int)).length-0)):Int),(cpL (List.replicate (w64 x3.2).toNat (0:Int)) 0 (Nat.min aL.length ((List.replicate (w64 x3.2).toNat (0:Int)).length-0)) (fun i=>aL.getD i 0)))).bind (fun x12=>(some x12)))))))))))
theorem Tx(aL:List Int)(aa6:Int)(r:List Int)(h:G3 aL aa6=some r):Spec Tryz.prog 71 [(Z8 aL),(Z7 aa6)] [] (.vsl 20000 r.length) [(Z4 20000 r)]:=by
 refine Ac mix Tryz.func71 (fun Γ hq=>?_);unfold G3 at h;refine gR hq Jy [] [(4,Z25)] [] (c1 (Dh 1 Au (0:Int))) ?_;obtain⟨x1,hx1,h⟩:=bind_some h;refine gJ hx1 (fun _=>aG Γ .normal (⟨[(0,(Z8 aL)),(1,(Z7 aa6))],[],[]⟩:St)) ?_ ?_
 ·clear h hx1;intro y h;refine Af hq Za [] ?_;refine gC h ?_ ?_<;>intro h
  ·cases h
  ·cases h;exact gK (Bk (B2 Jy [] hq))
 ·clear hx1;refine gA ?_;obtain⟨x3,hx3,h⟩:=bind_some h;refine gR hq [0,5,6] [] [] [⟨[],[],(.tuple (Z75 x3.1 x3.2)),[],[],[]⟩] (c1 (ok_bits_Mul (Iv (aL.length:Int)) (Iv aa6) x3 hx3)) ?_;obtain⟨x4,hx4,h⟩:=bind_some h;refine gJ hx4 (fun _=>aG Γ .normal (⟨[(0,(Z8 aL)),(6,(.int .u64 x3.2))],[],[]⟩:St)) ?_ ?_
  ·clear h hx4;intro y h;refine gR hq [0,6,26] [] [] [] (ci (gI ((decide (((0:Int):Int)<x3.1))==false)) (c1 (J1 (decide (((0:Int):Int)<x3.1))))) ?_;refine gC h ?_ ?_<;>intro h
   ·cases h
   ·cases h;exact gK (Bk (B2 [0,6] [] hq))
  ·clear hx4;refine gA ?_;obtain⟨hc6,h⟩:=Aa h;refine gR hq [0,7] [30] [] [] (c1 hc6) ?_;refine Or (Le.trans (Wv 30 (show ∀ k_,k_<((w64 x3.2).toNat)->AVleL ((fun i_=>AV.eraseAll (fun n_=>D5 n_ [30]) ((fun _=>[Pq]) i_)) k_) ((fun i=>Au ((Q55 x3).getD i 0)) k_) from(fun k hk=>Rr (e:=Au) (d:=(0:Int)) (.cons (AVle.refl _) .nil) _ k (Ru hk)))) (Ww (fun(k_:Nat) u=>(Eu u [(Ti 30 k_)] [(30,.arr 1 3 k_ (fun i=>Au ((Q55 x3).getD i 0)))])) (show(w64 x3.2).toNat=(Q55 x3).length from(Rj ..).symm))) ?_;refine gR hq [7,8] [30] [] [] (c1 (Eq.refl ((Q55 x3).length))) ?_;refine Or (Le.trans (Wv 30 (show ∀ k_,k_<((Q55 x3).length)->AVleL ((fun i_=>AV.eraseAll (fun n_=>D5 n_ [30]) ((cpF (fun i=>Au ((Q55 x3).getD i 0)) 0 (Nat.min aL.length ((Q55 x3).length-0)) (fun i=>Au (aL.getD i 0))) i_)) k_) ((fun i=>Au ((Q57 x3 aL).getD i 0)) k_) from(Cn (Jm ..) (fun k_ hk_=>(Cq (AV.eraseAll (fun n_=>D5 n_ [30])) ((cpF_cpL (e:=Au) (d:=(0:Int)) (l:=(Q55 x3)) (s:=(fun i=>aL.getD i 0)) (fun _ _=>rfl) (fun _ _=>rfl)) k_ hk_)).trans rfl)))) (Ww (fun(k_:Nat) u=>(Eu u [(Ti 30 k_)] [(30,.arr 1 3 k_ (fun i=>Au ((Q57 x3 aL).getD i 0)))])) (show(Q55 x3).length=(Q57 x3 aL).length from(Jm ..)))) ?_;obtain⟨x12,hx12,h⟩:=bind_some h;refine gL hq hx12 [7,8] [30] (fun u (i7,l8)=>(Eu u [(Ti 30 l8.length),(8,(Z7 i7))] [(Z4 30 l8)])) (fun u l9=>aG Γ (.exit 0) (⟨[(Ti 30 l9.length)],[(Z4 30 l9)],[]⟩:St)) ?_ ?_
   ·rintro⟨i7,l8⟩ y h;unfold C4 at h;refine Af hq [7,8,37] [30] ?_;refine gC h ?_ ?_<;>intro h
    ·obtain⟨hc10,h⟩:=Aa h;obtain⟨hc11,h⟩:=Aa h;refine gR hq [7,8] [30] [] [] (ci hc10 (ci hc11 (ci (Eq.refl l8.length) (c1 (Eq.refl l8.length))))) ?_;cases h;exact gN (Le.trans (Le.trans (Wv 30 (show ∀ k_,k_<l8.length->AVleL ((fun i_=>AV.eraseAll (fun n_=>D5 n_ [30]) ((cpF (fun i=>Au (l8.getD i 0)) (0+i7.toNat) (Nat.min ((0+i7.toNat)-0) (l8.length-(0+i7.toNat))) (fun i=>(fun i=>Au (l8.getD i 0)) (0+i))) i_)) k_) ((fun i=>Au ((Q56 l8 i7).getD i 0)) k_) from(Cn (Jm ..) (fun k_ hk_=>(Cq (AV.eraseAll (fun n_=>D5 n_ [30])) ((cpF_cpL (e:=Au) (d:=(0:Int)) (l:=l8) (s:=(fun i=>l8.getD (0+i) 0)) (fun _ _=>rfl) (fun _ _=>rfl)) k_ hk_)).trans rfl)))) (Ww (fun(k_:Nat) u=>(Eu u [(Ti 30 k_)] [(30,.arr 1 3 k_ (fun i=>Au ((Q56 l8 i7).getD i 0)))])) (show l8.length=(Q56 l8 i7).length from(Jm ..)))) Cr)
    ·cases h;exact gO (Bk (B2 [7] [30] hq))
   ·clear hx12;refine gA ?_;refine Af hq [4] [30] ?_;obtain rfl:=OI h;exact Cf [(30,20000)]
def H9(a6:List Int):(Int×List Bool)->Option (LR (Int×List Bool) (List Bool)):=
 fun((i2,l3):(Int×List Bool))=>(bif (i2 !=-1) then(A6 (A2 i2 l3.length) (A6 (A2 i2 a6.length) (some (.next ((a6.getD i2.toNat 0),(l3.set i2.toNat true)))))) else(some (.done l3)))
def Ia(a6:List Int)(l4:List Bool):Int->Option (LR Int Int):=
 fun(i9:Int)=>(A6 (A2 i9 l4.length) (bif (!(l4.getD i9.toNat false)) then(A6 (A2 i9 a6.length) (some (.next (a6.getD i9.toNat 0)))) else(some (.done i9))))
def Ok(a6:List Int)(aI:Int)(aK:Int):Option Int:=
 (A6 (0<=(a6.length:Int)/\(a6.length:Int)<=(a6.length:Int)/\(a6.length:Int)<=(room:Int)) ((Ah (H9 a6) (aI,(List.replicate (a6.length:Int).toNat false))).bind (fun x7=>((Ah (Ia a6 x7) aK).bind (fun x13=>(some x13))))))
theorem ok_dom_meet(a6:List Int)(aI:Int)(aK:Int)(r:Int)(h:Ok a6 aI aK=some r):Spec Tryz.prog 77 [(Z8 a6),(Z7 aI),(Z7 aK)] [] (.int .i64 r) []:=by
 refine Ac mix Tryz.func77 (fun Γ hq=>?_);unfold Ok at h;refine Af hq zzN174 [] ?_;obtain⟨hc1,h⟩:=Aa h;refine gR hq [0,1,2,7] [11] [] [] (c1 hc1) ?_;refine Or (Le.trans (Wv 11 (show ∀ k_,k_<((a6.length:Int).toNat)->AVleL ((fun i_=>AV.eraseAll (fun n_=>D5 n_ [11]) ((fun _=>[(.bool false)]) i_)) k_) ((fun i=>eB ((List.replicate (a6.length:Int).toNat false).getD i false)) k_) from(fun k hk=>Rr (e:=eB) (d:=false) (.cons (AVle.refl _) .nil) _ k (Ru hk)))) (Ww (fun(k_:Nat) u=>(Eu u [(Ti 11 k_)] [(11,.arr 1 4 k_ (fun i=>eB ((List.replicate (a6.length:Int).toNat false).getD i false)))])) (show(a6.length:Int).toNat=(List.replicate (a6.length:Int).toNat false).length from(Rj ..).symm))) ?_;refine Af hq zzN165 [11] ?_;obtain⟨x7,hx7,h⟩:=bind_some h;refine gL hq hx7 zzN165 [11] (fun u (i2,l3)=>(Eu u [(Ti 11 l3.length),(8,(Z7 i2))] [(Z11 11 l3)])) (fun u l4=>aG Γ (.exit 0) (Oz zzN176 [11] u [(Ti 11 l4.length)] [(Z11 11 l4)])) ?_ ?_
 ·rintro⟨i2,l3⟩ y h;unfold H9 at h;refine Af hq [0,2,7,8,14] [11] ?_;refine gC h ?_ ?_<;>intro h
  ·obtain⟨hc5,h⟩:=Aa h;refine gR hq zzN165 [11] [] [] (ci hc5 (c1 (Eq.refl l3.length))) ?_;refine Or (Le.trans (Wv 11 (show ∀ k_,k_<l3.length->AVleL ((fun i_=>AV.eraseAll (fun n_=>D5 n_ [11]) ((G5 (fun i=>eB (l3.getD i false)) i2.toNat 0 [(.bool true)]) i_)) k_) ((fun i=>eB ((l3.set i2.toNat true).getD i false)) k_) from(Cn (Hb ..).symm (fun k_ hk_=>(Cq (AV.eraseAll (fun n_=>D5 n_ [11])) ((Kl (fun _ _=>rfl) (Md hc5) rfl) k_ hk_)).trans rfl)))) (Ww (fun(k_:Nat) u=>(Eu u [(Ti 11 k_)] [(11,.arr 1 4 k_ (fun i=>eB ((l3.set i2.toNat true).getD i false)))])) (show l3.length=(l3.set i2.toNat true).length from(Hb ..).symm))) ?_;obtain⟨hc6,h⟩:=Aa h;refine gR hq zzN165 [11] [] [] (c1 hc6) ?_;cases h;exact gN Cr
  ·cases h;exact gO (Bk (B2 zzN176 [11] hq))
 ·clear hx7;refine gA ?_;obtain⟨x13,hx13,h⟩:=bind_some h;refine gL hq hx13 zzN176 [11] (fun u i9=>(Eu u [(2,(Z7 i9))] [])) (fun u i10=>aG Γ (.exit 2) (⟨[(2,(Z7 i10))],[],[]⟩:St)) ?_ ?_
  ·intro i9 y h;unfold Ia at h;obtain⟨hc11,h⟩:=Aa h;refine gR hq [0,2,7,26] [11] [] [] (ci hc11 (c1 (Eq.refl x7.length))) ?_;refine gC h ?_ ?_<;>intro h
   ·obtain⟨hc12,h⟩:=Aa h;refine gR hq zzN176 [11] [] [] (c1 hc12) ?_;cases h;exact gN Cr
   ·cases h;exact gO (Bk (B2 [2] [] hq))
  ·clear hx13;refine gA ?_;refine Af hq [6] [] ?_;obtain rfl:=OI h;exact Cf []
def Fs(a6:List Int)(aB:List Int):(Int×Int)->Option (LR (Int×Int) Int):=
 fun((i1,i2):(Int×Int))=>(bif (decide (i2<(aB.length:Int))) then(Option.bind (α:=Int) (A6 (A2 i2 aB.length) (A6 (A2 (aB.getD i2.toNat 0) a6.length) (bif (((a6.getD (aB.getD i2.toNat 0).toNat (0:Int)):Int)==-2) then(some i1) else(bif (i1==-2) then(some (aB.getD i2.toNat 0)) else((Ok a6 i1 (aB.getD i2.toNat 0)).bind fun x7=>(some x7)))))) (fun x8=>(some (.next (x8,(w64 (i2+1))))))) else(some (.done i1)))
def Kq(a6:List Int)(aB:List Int):Option Int:=
 ((Ah (Fs a6 aB) ((-2:Int),(0:Int))).bind (fun x10=>(some x10)))
theorem X9(a6:List Int)(aB:List Int)(r:Int)(h:Kq a6 aB=some r):Spec Tryz.prog 72 [(Z8 a6),(Z8 aB)] [] (.int .i64 r) []:=by
 refine Ac mix Tryz.func72 (fun Γ hq=>?_);unfold Kq at h;refine Af hq Jy [] ?_;refine Af hq Ow [] ?_;refine Af hq zzN79 [] ?_;obtain⟨x10,hx10,h⟩:=bind_some h;refine gL hq hx10 zzN79 [] (fun u (i1,i2)=>(Eu u [(5,(Z7 i1)),(10,(Z7 i2))] [])) (fun u i3=>aG Γ (.exit 0) (⟨[(5,(Z7 i3))],[],[]⟩:St)) ?_ ?_
 ·rintro⟨i1,i2⟩ y h;unfold Fs at h;refine Af hq [0,5,8,9,10,11] [] ?_;refine gC h ?_ ?_<;>intro h
  ·obtain⟨x8,hx8,h⟩:=bind_some h;refine gJ hx8 (fun i4=>aG Γ .normal (⟨[(0,(Z8 a6)),(5,(Z7 i4)),(8,(Z8 aB)),(9,(Z54 aB.length)),(10,(Z7 i2))],[],[]⟩:St)) ?_ ?_
   ·clear h hx8;intro y h;obtain⟨hc5,h⟩:=Aa h;refine gR hq [0,5,7,8,9,10] [] [] [] (c1 hc5) ?_;obtain⟨hc6,h⟩:=Aa h;refine gR hq [0,5,7,8,9,10,18] [] [] [] (c1 hc6) ?_;refine gC h ?_ ?_<;>intro h
    ·obtain rfl:=OI h;exact gK (Bk (B2 zzN79 [] hq))
    ·refine Af hq [0,5,7,8,9,10,24] [] ?_;refine gC h ?_ ?_<;>intro h
     ·refine Af hq zzN79 [] ?_;cases h;exact gK (Bk Cr)
     ·obtain⟨x7,hx7,h⟩:=bind_some h;refine gR hq zzN79 [] [] [(Z19 x7)] (c1 (ok_dom_meet a6 i1 (aB.getD i2.toNat 0) x7 hx7)) ?_;obtain rfl:=OI h;exact gK (Bk Cr)
   ·clear hx8;refine gA ?_;refine Af hq zzN79 [] ?_;cases h;exact gN Cr
  ·cases h;exact gO (Bk (B2 [5] [] hq))
 ·clear hx10;refine gA ?_;refine Af hq [4] [] ?_;obtain rfl:=OI h;exact Cf []
def Fn(a3:TGraph)(x3:List Int):(Bool×Int×List Int)->Option (LR (Bool×Int×List Int) (Bool×List Int)):=
 fun((b7,i8,l9):(Bool×Int×List Int))=>(bif (decide (i8<((x3.drop (1:Int).toNat).length:Int))) then(Option.bind (α:=(Bool×List Int)) (A6 (A2 i8 (x3.drop (1:Int).toNat).length) (A6 (A2 ((x3.drop (1:Int).toNat).getD i8.toNat 0) a3.Pred.length) ((Kq l9 (a3.Pred.getD ((x3.drop (1:Int).toNat).getD i8.toNat 0).toNat [])).bind fun x16=>(A6 (A2 ((x3.drop (1:Int).toNat).getD i8.toNat 0) l9.length) (bif (x16 !=(l9.getD ((x3.drop (1:Int).toNat).getD i8.toNat 0).toNat (0:Int))) then(A6 (A2 ((x3.drop (1:Int).toNat).getD i8.toNat 0) l9.length) (some (true,(l9.set ((x3.drop (1:Int).toNat).getD i8.toNat 0).toNat x16)))) else(some (b7,l9))))))) (fun(b12,l13)=>(some (.next (b12,(w64 (i8+1)),l13))))) else(some (.done (b7,l9))))
def Qh(a3:TGraph)(l1:List Int):(Bool×Int×List Int)->Option (LR (Bool×Int×List Int) (Bool×List Int)):=
 fun((b24,i25,l26):(Bool×Int×List Int))=>(bif (decide (i25<((l1.drop (1:Int).toNat).length:Int))) then(Option.bind (α:=(Bool×List Int)) (A6 (A2 i25 (l1.drop (1:Int).toNat).length) (A6 (A2 ((l1.drop (1:Int).toNat).getD i25.toNat 0) a3.Pred.length) ((Kq l26 (a3.Pred.getD ((l1.drop (1:Int).toNat).getD i25.toNat 0).toNat [])).bind fun x33=>(A6 (A2 ((l1.drop (1:Int).toNat).getD i25.toNat 0) l26.length) (bif (x33 !=(l26.getD ((l1.drop (1:Int).toNat).getD i25.toNat 0).toNat (0:Int))) then(A6 (A2 ((l1.drop (1:Int).toNat).getD i25.toNat 0) l26.length) (some (true,(l26.set ((l1.drop (1:Int).toNat).getD i25.toNat 0).toNat x33)))) else(some (b24,l26))))))) (fun(b29,l30)=>(some (.next (b29,(w64 (i25+1)),l30))))) else(some (.done (b24,l26))))
def G6(a3:TGraph):(List Int×List Int)->Option (LR (List Int×List Int) (List Int)):=
 fun(s_:(List Int×List Int))=>match s_ with|(l1,l2)=>(A6 (0<=(1:Int)/\(1:Int)<=(l1.length:Int)) ((Ah (Qh a3 l1) (false,(0:Int),l2)).bind (fun x38=>(match x38 with|(b27,l28)=>(bif b27 then(some (.next (l1,l28))) else(some (.done l28)))))))
def K_dom_Tree(Γ:Iw)(a3:TGraph)(aa1:Int)(r:List Int):Exit->St->Prop:=fK Tryz.prog Γ Tryz.f41.results.toList [] (Z13 r 20000) [(20000,.tok 1 3 r.length)]
def Q62:=(fun n_=>D5 n_ [2,13,21])
def Q60:List (Nat×AV):=[(4,Z25)]
def Q59(x3:List Int)(i8:Int):=((x3.drop (1:Int).toNat).getD i8.toNat 0)
def Q58(l1:List Int)(i25:Int):=((l1.drop (1:Int).toNat).getD i25.toNat 0)
def Q61(a3:TGraph):List AV:=[(Z20 a3.Succ),(Z20 a3.Pred)]
def Q63:=(Z28:St)
def Oj(a3:TGraph)(aa1:Int):Option (List Int):=
 ((P9 (S:=(List Int×List Int)) (X:=List Int) ((Ib a3 aa1).bind fun x3=>(bif (((x3.length:Int):Int)==0) then(some (.done ([]:List Int))) else((G3 ([(-2:Int)]:List Int) (a3.Succ.length:Int)).bind fun x4=>(A6 (A2 aa1 x4.length) (A6 (0<=(1:Int)/\(1:Int)<=(x3.length:Int)) ((Ah (Fn a3 x3) (false,(0:Int),(x4.set aa1.toNat (-1:Int)))).bind (fun(b10,l11)=>(bif b10 then(some (.next (x3,l11))) else(some (.done l11)))))))))) (G6 a3)).bind (fun x40=>(some x40)))
theorem ok_dom_Tree(a3:TGraph)(aa1:Int)(r:List Int)(h:Oj a3 aa1=some r):Spec Tryz.prog 41 [(Z61 a3),(Z7 aa1)] [] (Z13 r 20000) [(20000,.tok 1 3 r.length)]:=by
 refine Ac mix Tryz.func41 (fun Γ hq=>?_);have hΓ:=hq.own;unfold Oj at h;refine gR hq M5 [2] Q60 [] (c1 (Dh 1 Au (0:Int))) ?_;obtain⟨x40,hx40,h⟩:=bind_some h;refine gS hx40 (fun(s_:(List Int×List Int))=>match s_ with|(l1,l2)=>0) (fun(s_:(List Int×List Int))=>match s_ with|(l1,l2)=>(⟨[Ra,(5,(Z13 l1 13)),(6,(.vsl 21 l2.length))],[(M6 41 (Q61 a3)),(13,.tok 1 3 l1.length),(Z4 21 l2)],[]⟩:St)) (fun r_=>aR (K_dom_Tree Γ a3 aa1 r_)) ?_ ?_ ?_
 ·clear h hx40;intro y h;obtain⟨x3,hx3,h⟩:=bind_some h;refine gR hq zzN88 [2,13] [] [(Z47 13 x3 x3.length)] (c1 (Ya a3 aa1 x3 hx3)) ?_;refine Af hq [1,2,5,16] [2,13] ?_;refine gC h ?_ ?_<;>intro h
  ·refine gR hq [4] [] Q60 [] (c1 (Dh 1 Au (0:Int))) ?_;refine Ri (⟨Q60,[],[]⟩:St) ?_;cases h;exact gJo (L0 (J7 zzN103 (show Le Γ _ Q63 from Le.trans (B2 (st':=⟨Q60,[],[]⟩) [4] [] hq) (Le.trans (Nw (t:=4) (nm:=6004) (sz':=1) (fun i=>Au (([]:List Int).getD i 0)) 3 rfl rfl (.inl ⟨rfl,rfl⟩) (fun h_=>absurd h_ (by decide))) (B2 (st':=Q63) [4] [6004] hq)))))
  ·obtain⟨x4,hx4,h⟩:=bind_some h;refine gR hq [1,2,5,6] J6 [(17,(AV.list 1 Au 0 ([(-2:Int)]:List Int) .exact))] [⟨[],[(20000,21)],(.vsl 20000 x4.length),[(Z4 20000 x4)],[],[]⟩] (ci (Bx 1 Au (0:Int) ([(-2:Int)]:List Int)) (c1 (Tx ([(-2:Int)]:List Int) (a3.Succ.length:Int) x4 hx4))) ?_;obtain⟨hc5,h⟩:=Aa h;refine gR hq Uu J6 [] [] (ci hc5 (c1 (Eq.refl x4.length))) ?_;refine Or (Le.trans (Wv 21 (show ∀ k_,k_<x4.length->AVleL ((fun i_=>AV.eraseAll Q62 ((G5 (fun i=>Au (x4.getD i 0)) aa1.toNat 0 [(.int .i64 (-1:Int))]) i_)) k_) ((fun i=>Au ((x4.set aa1.toNat (-1:Int)).getD i 0)) k_) from(Cn (Hb ..).symm (fun k_ hk_=>(Cq (AV.eraseAll Q62) ((Kl (fun _ _=>rfl) (Md hc5) rfl) k_ hk_)).trans rfl)))) (Ww (fun(k_:Nat) u=>(Eu u [(6,(.vsl 21 k_))] [(21,.arr 1 3 k_ (fun i=>Au ((x4.set aa1.toNat (-1:Int)).getD i 0)))])) (show x4.length=(x4.set aa1.toNat (-1:Int)).length from(Hb ..).symm))) ?_;refine Af hq zzN113 J6 ?_;obtain⟨hc6,h⟩:=Aa h;refine gR hq zzN18 J6 [(26,(AV.list 1 Au 0 (x3.drop (1:Int).toNat) .none))] [] (ci hc6 (c1 (show(AVle (.slice 1 (x3.length-(1:Int).toNat) (fun i=>Au (x3.getD ((1:Int).toNat+i) 0)) .none) (AV.list 1 Au 0 (x3.drop (1:Int).toNat) .none)) from av_drop))) ?_;obtain⟨x21,hx21,h⟩:=bind_some h;refine gL hq hx21 zzN18 J6 (fun u (b7,i8,l9)=>(Eu u [(6,(.vsl 21 l9.length)),(7,(.bool b7)),(28,(Z7 i8))] [(Z4 21 l9)])) (fun u (b10,l11)=>aG Γ (.exit 0) (Oz zzN113 J6 u [(6,(.vsl 21 l11.length)),(7,(.bool b10))] [(Z4 21 l11)])) ?_ ?_
   ·rintro⟨b7,i8,l9⟩ y h;unfold Fn at h;refine Af hq zzN148 J6 ?_;refine gC h ?_ ?_<;>intro h
    ·obtain⟨x19,hx19,h⟩:=bind_some h;refine gJ hx19 (fun(b12,l13)=>aG Γ .normal (⟨[Ra,(5,(Z13 x3 13)),(6,(.vsl 21 l13.length)),(7,(.bool b12)),(26,(AV.list 1 Au 0 (x3.drop (1:Int).toNat) .none)),(27,(.int .i64 ((x3.drop (1:Int).toNat).length:Int))),(28,(Z7 i8))],[(M6 41 (Q61 a3)),(13,.tok 1 3 x3.length),(Z4 21 l13)],[]⟩:St)) ?_ ?_
     ·clear h hx19;intro y h;obtain⟨hc14,h⟩:=Aa h;refine gR hq zzN153 J6 [] [] (c1 hc14) ?_;obtain⟨hc15,h⟩:=Aa h;obtain⟨x16,hx16,h⟩:=bind_some h;refine gR hq zzN136 J6 [] [⟨[],[],(Z7 x16),[],[21],[]⟩] (ci hc15 (ci (X9 l9 (a3.Pred.getD (Q59 x3 i8).toNat []) x16 hx16) (ci (show(flatH []) from trivial) (c1 (Eq.refl l9.length))))) ?_;obtain⟨hc17,h⟩:=Aa h;refine gR hq zzN120 J6 [] [] (ci hc17 (c1 (Eq.refl l9.length))) ?_;refine gC h ?_ ?_<;>intro h
      ·obtain⟨hc18,h⟩:=Aa h;refine gR hq zzN18 J6 [] [] (ci hc18 (c1 (Eq.refl l9.length))) ?_;cases h;exact gK (Bk (Le.trans (Le.trans (Wv 21 (show ∀ k_,k_<l9.length->AVleL ((fun i_=>AV.eraseAll Q62 ((G5 (fun i=>Au (l9.getD i 0)) (Q59 x3 i8).toNat 0 [(Z7 x16)]) i_)) k_) ((fun i=>Au ((l9.set (Q59 x3 i8).toNat x16).getD i 0)) k_) from(Cn (Hb ..).symm (fun k_ hk_=>(Cq (AV.eraseAll Q62) ((Kl (fun _ _=>rfl) (Md hc18) rfl) k_ hk_)).trans rfl)))) (Ww (fun(k_:Nat) u=>(Eu u [(6,(.vsl 21 k_))] [(21,.arr 1 3 k_ (fun i=>Au ((l9.set (Q59 x3 i8).toNat x16).getD i 0)))])) (show l9.length=(l9.set (Q59 x3 i8).toNat x16).length from(Hb ..).symm))) Cr))
      ·cases h;exact gK (Bk (B2 zzN18 J6 hq))
     ·clear hx19;rcases x19 with⟨b12,l13⟩;refine gA ?_;refine Af hq zzN18 J6 ?_;cases h;exact gN Cr
    ·cases h;exact gO (Bk (B2 zzN113 J6 hq))
   ·clear hx21;rcases x21 with⟨b10,l11⟩;refine gA ?_;refine Af hq [2,5,6,50] J6 ?_;refine gC h ?_ ?_<;>intro h
    ·cases h;exact gJn (B2 Uu J6 hq)
    ·refine Af hq [4] [21] ?_;refine Ri (⟨[(4,(.vsl 21 l11.length))],[(Z4 21 l11)],[]⟩:St) ?_;cases h;exact gJo (L0 (J7 [(21,20000)] (Le.trans (J9 (nm:=21) (sz:=1) (n:=l11.length) (e:=3) (f:=(fun i=>Au (l11.getD i 0))) (g:=(fun i=>Au (l11.getD i 0))) rfl ⟨rfl,trivial⟩ (fun _ _=>rfl) (by rw[hΓ];rfl)) (J5 (st':=(Z74 l11 21 l11.length)) (by kernel_rfl)))))
 ·clear h hx40;rintro⟨l1,l2⟩ y h;unfold G6 at h;refine Af hq zzN113 J6 ?_;obtain⟨hc23,h⟩:=Aa h;refine gR hq zzN18 J6 [(26,(AV.list 1 Au 0 (l1.drop (1:Int).toNat) .none))] [] (ci hc23 (c1 (show(AVle (.slice 1 (l1.length-(1:Int).toNat) (fun i=>Au (l1.getD ((1:Int).toNat+i) 0)) .none) (AV.list 1 Au 0 (l1.drop (1:Int).toNat) .none)) from av_drop))) ?_;obtain⟨x38,hx38,h⟩:=bind_some h;refine gL hq hx38 zzN18 J6 (fun u (b24,i25,l26)=>(Eu u [(6,(.vsl 21 l26.length)),(7,(.bool b24)),(28,(Z7 i25))] [(Z4 21 l26)])) (fun u (b27,l28)=>aG Γ (.exit 0) (Oz zzN113 J6 u [(6,(.vsl 21 l28.length)),(7,(.bool b27))] [(Z4 21 l28)])) ?_ ?_
  ·rintro⟨b24,i25,l26⟩ y h;unfold Qh at h;refine Af hq zzN148 J6 ?_;refine gC h ?_ ?_<;>intro h
   ·obtain⟨x36,hx36,h⟩:=bind_some h;refine gJ hx36 (fun(b29,l30)=>aG Γ .normal (⟨[Ra,(5,(Z13 l1 13)),(6,(.vsl 21 l30.length)),(7,(.bool b29)),(26,(AV.list 1 Au 0 (l1.drop (1:Int).toNat) .none)),(27,(.int .i64 ((l1.drop (1:Int).toNat).length:Int))),(28,(Z7 i25))],[(M6 41 (Q61 a3)),(13,.tok 1 3 l1.length),(Z4 21 l30)],[]⟩:St)) ?_ ?_
    ·clear h hx36;intro y h;obtain⟨hc31,h⟩:=Aa h;refine gR hq zzN153 J6 [] [] (c1 hc31) ?_;obtain⟨hc32,h⟩:=Aa h;obtain⟨x33,hx33,h⟩:=bind_some h;refine gR hq zzN136 J6 [] [⟨[],[],(Z7 x33),[],[21],[]⟩] (ci hc32 (ci (X9 l26 (a3.Pred.getD (Q58 l1 i25).toNat []) x33 hx33) (ci (show(flatH []) from trivial) (c1 (Eq.refl l26.length))))) ?_;obtain⟨hc34,h⟩:=Aa h;refine gR hq zzN120 J6 [] [] (ci hc34 (c1 (Eq.refl l26.length))) ?_;refine gC h ?_ ?_<;>intro h
     ·obtain⟨hc35,h⟩:=Aa h;refine gR hq zzN18 J6 [] [] (ci hc35 (c1 (Eq.refl l26.length))) ?_;cases h;exact gK (Bk (Le.trans (Le.trans (Wv 21 (show ∀ k_,k_<l26.length->AVleL ((fun i_=>AV.eraseAll Q62 ((G5 (fun i=>Au (l26.getD i 0)) (Q58 l1 i25).toNat 0 [(Z7 x33)]) i_)) k_) ((fun i=>Au ((l26.set (Q58 l1 i25).toNat x33).getD i 0)) k_) from(Cn (Hb ..).symm (fun k_ hk_=>(Cq (AV.eraseAll Q62) ((Kl (fun _ _=>rfl) (Md hc35) rfl) k_ hk_)).trans rfl)))) (Ww (fun(k_:Nat) u=>(Eu u [(6,(.vsl 21 k_))] [(21,.arr 1 3 k_ (fun i=>Au ((l26.set (Q58 l1 i25).toNat x33).getD i 0)))])) (show l26.length=(l26.set (Q58 l1 i25).toNat x33).length from(Hb ..).symm))) Cr))
     ·cases h;exact gK (Bk (B2 zzN18 J6 hq))
    ·clear hx36;rcases x36 with⟨b29,l30⟩;refine gA ?_;refine Af hq zzN18 J6 ?_;cases h;exact gN Cr
   ·cases h;exact gO (Bk (B2 zzN113 J6 hq))
  ·clear hx38;rcases x38 with⟨b27,l28⟩;refine gA ?_;refine Af hq [2,5,6,50] J6 ?_;refine gC h ?_ ?_<;>intro h
   ·cases h;exact gJn (B2 Uu J6 hq)
   ·refine Af hq [4] [21] ?_;refine Ri (⟨[(4,(.vsl 21 l28.length))],[(Z4 21 l28)],[]⟩:St) ?_;cases h;exact gJo (L0 (J7 [(21,20000)] (Le.trans (J9 (nm:=21) (sz:=1) (n:=l28.length) (e:=3) (f:=(fun i=>Au (l28.getD i 0))) (g:=(fun i=>Au (l28.getD i 0))) rfl ⟨rfl,trivial⟩ (fun _ _=>rfl) (by rw[hΓ];rfl)) (J5 (st':=(Z74 l28 21 l28.length)) (by kernel_rfl)))))
 ·clear hx40;refine N2 (fun st' hk=>?_);obtain rfl:=OI h;exact gK hk
def Jr(aa9:List H7)(aaH:List Int):Int->Option (LR Int (Unit ⊕ Bool)):=
 fun(i1:Int)=>(bif (decide (i1<(aa9.length:Int))) then(A6 (A2 i1 aa9.length) ((Eg ((aa9.getD i1.toNat default).From) aaH).bind fun x3=>(bif (bif (!x3) then true else(((((aa9.getD i1.toNat default).Args).length:Int):Int)!=(aaH.length:Int))) then(some (.done (.inr false))) else(some (.next (w64 (i1+1))))))) else(some (.done (.inl ()))))
def K_check_phisFit(Γ:Iw)(aa9:List H7)(aaH:List Int)(r:Bool):Exit->St->Prop:=fK Tryz.prog Γ Tryz.f106.results.toList [] (.bool r) []
def L3(aa9:List H7)(aaH:List Int):Option Bool:=
 ((Ah (Jr aa9 aaH) (0:Int)).bind (fun x4=>(match x4 with|(.inl _)=>(some true)|(.inr r6)=>(some r6))))
theorem ok_check_phisFit(aa9:List H7)(aaH:List Int)(r:Bool)(h:L3 aa9 aaH=some r):Spec Tryz.prog 106 [(AV.list 4 Xt default aa9 .none),(Z8 aaH)] [] (.bool r) []:=by
 refine Ac mix Tryz.func106 (fun Γ hq=>?_);unfold L3 at h;refine Af hq Jy [] ?_;refine Af hq Mf [] ?_;obtain⟨x4,hx4,h⟩:=bind_some h;refine gL hq hx4 Mf [] (fun u i1=>(Eu u [(9,(Z7 i1))] [])) (fun u x_=>match x_ with|(.inl _)=>aG Γ (.exit 0) (⟨[],[],[]⟩:St)|(.inr r_)=>aR (K_check_phisFit Γ aa9 aaH r_)) ?_ ?_
 ·intro i1 y h;unfold Jr at h;refine Af hq zzN51 [] ?_;refine gC h ?_ ?_<;>intro h
  ·obtain⟨hc2,h⟩:=Aa h;refine gR hq zzN56 [6] [] [] (c1 hc2) ?_;obtain⟨x3,hx3,h⟩:=bind_some h;refine gR hq [1,7,8,9,25] [] [] [(Z2 x3)] (ci (La ((aa9.getD i1.toNat default).From) aaH x3 hx3) (ci (gI ((!x3)==false)) (ci (gI ((!x3)==false)) (ci (gI ((!x3)==false)) (ci (gI ((!x3)==false)) (ci (gI ((!x3)==false)) (c1 (J1 (!x3))))))))) ?_;refine gC h ?_ ?_<;>intro h
   ·refine Af hq [4] [] ?_;cases h;exact gO (L0 (J7 [] (Le.refl _ _)))
   ·refine Af hq Mf [] ?_;cases h;exact gN Cr
  ·cases h;exact gO (Bk (B2 [] [] hq))
 ·clear hx4;rcases x4 with _|r6
  ·refine gA ?_;refine Af hq [4] [] ?_;obtain rfl:=OI h;exact Cf []
  ·refine N2 (fun st' hk=>?_);obtain rfl:=OI h;exact gK hk
def Q64(aJ:Lz):=(bif (aJ.Kind==0) then true else(aJ.Kind==2))
def Kb(aJ:Lz):Option Bool:=
 (some (bif (bif (aJ.Kind==0) then true else(aJ.Kind==2)) then true else(aJ.Arg==0)))
theorem ok_check_argFits(aJ:Lz)(r:Bool)(h:Kb aJ=some r):Spec Tryz.prog 107 [(.agg (eTEnd aJ))] [] (.bool r) []:=by
 refine Ac mix Tryz.func107 (fun Γ hq=>?_);unfold Kb at h;refine Af hq [1] [1] ?_;refine gR hq [2] [] [] [] (ci (gI ((aJ.Kind==0)==false)) (ci (gI ((aJ.Kind==0)==false)) (ci (J1 (aJ.Kind==0)) (ci (gI ((Q64 aJ)==false)) (ci (gI ((Q64 aJ)==false)) (c1 (J1 (Q64 aJ)))))))) ?_;cases h;exact Cf []
def De(a4:TFunc)(a9:Int)(a7:List Ar)(x1:(TGraph×Int))(x3:List Int):Int->Option (LR Int (Unit ⊕ (Int×TFunc×Int×List Int×List Ar))):=
 fun(i4:Int)=>(bif (decide (i4<(a4.Blocks.length:Int))) then(A6 (A2 i4 a4.Blocks.length) (A6 (A2 i4 x1.1.Pred.length) ((L3 ((a4.Blocks.getD i4.toNat default).Phis) (x1.1.Pred.getD i4.toNat [])).bind fun x7=>((bif ((!x7)==false) then Kb (⟨(a4.Blocks.getD i4.toNat default).End.Kind,(a4.Blocks.getD i4.toNat default).End.Arg,(a4.Blocks.getD i4.toNat default).End.To⟩:Lz) else some false).bind fun x8=>(bif (bif (!x7) then true else(!x8)) then(some (.done (.inr ((5:Int),a4,a9,x3,a7)))) else(some (.next (w64 (i4+1))))))))) else(some (.done (.inl ()))))
def Uw(Γ:Iw)(a4:TFunc)(a9:Int)(aA:List Int)(a7:List Ar)(r:(Int×TFunc×Int×List Int×List Ar)):Exit->St->Prop:=fK Tryz.prog Γ Tryz.f90.results.toList (Z3 a4.Params a4.Ret a4.Blocks a9 aA a7 a7.length) (Z7 r.1) (Z3 r.2.1.Params r.2.1.Ret r.2.1.Blocks r.2.2.1 r.2.2.2.1 r.2.2.2.2 r.2.2.2.2.length)
def Q67(x1:(TGraph×Int)):=((x1.2 !=0)==false)
def Q66(x3:List Int)(a4:TFunc)(a9:Int)(a7:List Ar):List (Nat×Own):=[(31,.tok 1 3 x3.length),(30000,.row 103 [(Z8 a4.Params),(Z7 a4.Ret),(Z16 a4.Blocks),(Z7 a9),(Z8 x3),.nilm,(AV.list 5 Nn default a7 (.own 37006))]),(Mj 37006 149 a7.length)]
def Q65(x3:List Int)(a4:TFunc)(a9:Int)(a7:List Ar):List (Nat×Own):=[(31,.tok 1 3 x3.length),(30000,.row 103 [(Z8 a4.Params),(Z7 a4.Ret),(Z16 a4.Blocks),(Z7 a9),(Z13 x3 31),.nilm,(AV.list 5 Nn default a7 (.own 37006))]),(Mj 37006 149 a7.length)]
def G9(a4:TFunc)(a9:Int)(aA:List Int)(a7:List Ar):Option (Int×TFunc×Int×List Int×List Ar):=
 ((P4 a4).bind fun x1=>((bif ((x1.2 !=0)==false) then Ib x1.1 (0:Int) else some []).bind fun x2=>(bif (bif (x1.2 !=0) then true else(decide (((x2.length:Int):Int)<(a4.Blocks.length:Int)))) then(some ((5:Int),a4,a9,aA,a7)) else((Oj x1.1 (0:Int)).bind fun x3=>((Ah (De a4 a9 a7 x1 x3) (0:Int)).bind (fun x9=>(match x9 with|(.inl _)=>(some ((0:Int),a4,a9,x3,a7))|(.inr r11)=>(some r11))))))))
theorem Uh(a4:TFunc)(a9:Int)(aA:List Int)(a7:List Ar)(r:(Int×TFunc×Int×List Int×List Ar))(h:G9 a4 a9 aA a7=some r):Spec Tryz.prog 90 [Z60] (Z3 a4.Params a4.Ret a4.Blocks a9 aA a7 a7.length) (Z7 r.1) (Z3 r.2.1.Params r.2.1.Ret r.2.1.Blocks r.2.2.1 r.2.2.2.1 r.2.2.2.2 r.2.2.2.2.length):=by
 refine Ac mix Tryz.func90 (fun Γ hq=>?_);unfold G9 at h;refine Af hq [0] Je ?_;obtain⟨x1,hx1,h⟩:=bind_some h;refine gR hq zzN130 zzN95 [] [(Z36 x1.1 x1.2)] (c1 (ok_graph_Of a4 x1 hx1)) ?_;obtain⟨x2,hx2,h⟩:=bind_some h;refine gR hq [0,3,28] zzN95 [] [⟨[],[],(Z8 x2),[],[],[]⟩] (ci (gI (Q67 x1)) (ci (show((Q67 x1)=true->(Spec Tryz.prog 70 [(Z61 x1.1),Pq] [] (Z8 x2) [])) from(fun hg=>(Spec.drop (Ya x1.1 (0:Int) x2 (Bg hg hx2))))) (ci (gI (Q67 x1)) (ci (gI (Q67 x1)) (ci (gI (Q67 x1)) (ci (gI (Q67 x1)) (ci (gI (Q67 x1)) (ci (gI (Q67 x1)) (ci (gI (Q67 x1)) (ci (gI (Q67 x1)) (c1 (J1 (x1.2 !=0))))))))))))) ?_;refine gC h ?_ ?_<;>intro h
 ·refine Af hq [2] Je ?_;cases h;exact Cf zzN9
 ·obtain⟨x3,hx3,h⟩:=bind_some h;refine gR hq Rp zzN52 [] [(Z47 31 x3 x3.length)] (c1 (ok_dom_Tree x1.1 (0:Int) x3 hx3)) ?_;refine Af hq zzN177 zzN52 ?_;obtain⟨x9,hx9,h⟩:=bind_some h;refine gL hq hx9 zzN177 zzN52 (fun u i4=>(Eu u [(40,(Z7 i4))] [])) (fun u x_=>match x_ with|(.inl _)=>aG Γ (.exit 0) (Oz [] zzN67 u [] [])|(.inr r_)=>aR (Uw Γ a4 a9 aA a7 r_)) ?_ ?_
  ·intro i4 y h;unfold De at h;refine Af hq [3,38,39,40,41] zzN52 ?_;refine gC h ?_ ?_<;>intro h
   ·obtain⟨hc5,h⟩:=Aa h;refine gR hq [3,5,6,38,39,40] [3,6,31,30000,37006] [] [] (c1 hc5) ?_;obtain⟨hc6,h⟩:=Aa h;obtain⟨x7,hx7,h⟩:=bind_some h;obtain⟨x8,hx8,h⟩:=bind_some h;refine gR hq [3,38,39,40,59] zzN52 [] [(Z2 x7),(Z2 x8)] (ci hc6 (ci (ok_check_phisFit ((a4.Blocks.getD i4.toNat default).Phis) (x1.1.Pred.getD i4.toNat []) x7 hx7) (ci (gI ((!x7)==false)) (ci (gI ((!x7)==false)) (ci (fun(hg:((!x7)==false)=true)=>(ok_check_argFits (⟨(a4.Blocks.getD i4.toNat default).End.Kind,(a4.Blocks.getD i4.toNat default).End.Arg,(a4.Blocks.getD i4.toNat default).End.To⟩:Lz) x8 (Bg hg hx8))) (ci (gI ((!x7)==false)) (c1 (J1 (!x7))))))))) ?_;refine gC h ?_ ?_<;>intro h
    ·refine Af hq [2] zzN67 ?_;refine Ri (⟨[(2,(.int .i64 (5:Int)))],(Q65 x3 a4 a9 a7),[]⟩:St) ?_;cases h;exact gO (L0 (J7 zzN9 (show Le Γ _ (⟨[(2,(.int .i64 (5:Int)))],(Q66 x3 a4 a9 a7),[]⟩:St) from Le.trans (B2 (st':=⟨[(2,(.int .i64 (5:Int)))],(Q65 x3 a4 a9 a7),[]⟩) [2] zzN67 hq) (Jo (.cons (AVle.refl _) .nil) (.same (.row (.cons (AVle.refl _) (.cons (AVle.refl _) (.cons (AVle.refl _) (.cons (AVle.refl _) (.cons AVle.untag (.cons (AVle.refl _) (.cons (AVle.refl _) .nil))))))) (.same .nil)))))))
    ·refine Af hq zzN177 zzN52 ?_;cases h;exact gN Cr
   ·cases h;exact gO (Bk (B2 [] zzN67 hq))
  ·clear hx9;rcases x9 with _|r11
   ·refine gA ?_;refine Af hq [2] zzN67 ?_;refine Ri (⟨[(2,Pq)],(Q65 x3 a4 a9 a7),[]⟩:St) ?_;cases h;exact gK (e:=.ret) (J7 zzN9 (show Le Γ _ (⟨[(2,Pq)],(Q66 x3 a4 a9 a7),[]⟩:St) from Le.trans (B2 (st':=⟨[(2,Pq)],(Q65 x3 a4 a9 a7),[]⟩) [2] zzN67 hq) (Jo (.cons (AVle.refl _) .nil) (.same (.row (.cons (AVle.refl _) (.cons (AVle.refl _) (.cons (AVle.refl _) (.cons (AVle.refl _) (.cons AVle.untag (.cons (AVle.refl _) (.cons (AVle.refl _) .nil))))))) (.same .nil))))))
   ·refine N2 (fun st' hk=>?_);obtain rfl:=OI h;exact gK hk
def Jv(aE:Int):Option Bool:=
 (Option.bind (α:=Bool) (bif (aE==1) then(some (aE==1)) else(bif (aE==8) then(some (aE==8)) else(bif (aE==16) then(some (aE==16)) else(bif (aE==32) then(some (aE==32)) else(some (aE==64)))))) (fun x2=>(bif x2 then(some true) else(some false))))
theorem Mz(aE:Int)(r:Bool)(h:Jv aE=some r):Spec Tryz.prog 109 [(Z7 aE)] [] (.bool r) []:=by
 refine Ac mix Tryz.func109 (fun Γ hq=>?_);unfold Jv at h;refine Af hq [0] [] ?_;refine Af hq [3] [] ?_;obtain⟨x2,hx2,h⟩:=bind_some h;refine gJ hx2 (fun b1=>aG Γ .normal (⟨[(4,(.bool b1))],[],[]⟩:St)) ?_ ?_
 ·clear h hx2;intro y h;refine Af hq Rg [] ?_;refine gC h ?_ ?_<;>intro h
  ·cases h;exact gK (Bk (B2 [4] [] hq))
  ·refine Af hq Rg [] ?_;refine gC h ?_ ?_<;>intro h
   ·cases h;exact gK (Bk (B2 [4] [] hq))
   ·refine Af hq Rg [] ?_;refine gC h ?_ ?_<;>intro h
    ·cases h;exact gK (Bk (B2 [4] [] hq))
    ·refine Af hq Rg [] ?_;refine gC h ?_ ?_<;>intro h
     ·cases h;exact gK (Bk (B2 [4] [] hq))
     ·refine Af hq [4] [] ?_;cases h;exact gK (Bk Cr)
 ·clear hx2;refine gA ?_;refine gC h ?_ ?_<;>intro h
  ·refine Af hq [2] [] ?_;obtain rfl:=OI h;exact Cf []
  ·refine Af hq [2] [] ?_;obtain rfl:=OI h;exact Cf []
def Jq(aB:List Int):Int->Option (LR Int (Unit ⊕ Bool)):=
 fun(i1:Int)=>(bif (decide (i1<(aB.length:Int))) then(A6 (A2 i1 aB.length) ((Jv (aB.getD i1.toNat 0)).bind fun x3=>(bif (!x3) then(some (.done (.inr false))) else(some (.next (w64 (i1+1))))))) else(some (.done (.inl ()))))
def K_check_all_int(Γ:Iw)(aB:List Int)(r:Bool):Exit->St->Prop:=fK Tryz.prog Γ Tryz.f108.results.toList [] (.bool r) []
def L2(aB:List Int):Option Bool:=
 ((Ah (Jq aB) (0:Int)).bind (fun x4=>(match x4 with|(.inl _)=>(some true)|(.inr r6)=>(some r6))))
theorem ok_check_all_int(aB:List Int)(r:Bool)(h:L2 aB=some r):Spec Tryz.prog 108 [(Z8 aB),(.clo 109 [] [])] [] (.bool r) []:=by
 refine Ac mix Tryz.func108 (fun Γ hq=>?_);unfold L2 at h;refine Af hq Jy [] ?_;refine Af hq Mf [] ?_;obtain⟨x4,hx4,h⟩:=bind_some h;refine gL hq hx4 Mf [] (fun u i1=>(Eu u [(9,(Z7 i1))] [])) (fun u x_=>match x_ with|(.inl _)=>aG Γ (.exit 0) (⟨[],[],[]⟩:St)|(.inr r_)=>aR (K_check_all_int Γ aB r_)) ?_ ?_
 ·intro i1 y h;unfold Jq at h;refine Af hq zzN51 [] ?_;refine gC h ?_ ?_<;>intro h
  ·obtain⟨hc2,h⟩:=Aa h;refine gR hq zzN56 [] [] [] (c1 hc2) ?_;obtain⟨x3,hx3,h⟩:=bind_some h;refine gR hq zzN65 [] [] [(Z2 x3)] (c1 (Mz (aB.getD i1.toNat 0) x3 hx3)) ?_;refine gC h ?_ ?_<;>intro h
   ·refine Af hq [4] [] ?_;cases h;exact gO (L0 (J7 [] (Le.refl _ _)))
   ·refine Af hq Mf [] ?_;cases h;exact gN Cr
  ·cases h;exact gO (Bk (B2 [] [] hq))
 ·clear hx4;rcases x4 with _|r6
  ·refine gA ?_;refine Af hq [4] [] ?_;obtain rfl:=OI h;exact Cf []
  ·refine N2 (fun st' hk=>?_);obtain rfl:=OI h;exact gK hk
def M9(aa2:H7):Option Bool:=
 ((Jv aa2.Bits).bind fun x1=>(some x1))
theorem ok_check_phiTyped(aa2:H7)(r:Bool)(h:M9 aa2=some r):Spec Tryz.prog 140 [(.agg (Xt aa2))] [] (.bool r) []:=by
 refine Ac mix Tryz.func140 (fun Γ hq=>?_);unfold M9 at h;refine Af hq [1] [1] ?_;obtain⟨x1,hx1,h⟩:=bind_some h;refine gR hq [2] [] [] [(Z2 x1)] (c1 (Mz aa2.Bits x1 hx1)) ?_;obtain rfl:=OI h;exact Cf []
def G8(aB:List H7):Int->Option (LR Int (Unit ⊕ Bool)):=
 fun(i1:Int)=>(bif (decide (i1<(aB.length:Int))) then(A6 (A2 i1 aB.length) ((M9 (aB.getD i1.toNat default)).bind fun x3=>(bif (!x3) then(some (.done (.inr false))) else(some (.next (w64 (i1+1))))))) else(some (.done (.inl ()))))
def Aab(Γ:Iw)(aB:List H7)(r:Bool):Exit->St->Prop:=fK Tryz.prog Γ Tryz.f139.results.toList [] (.bool r) []
def Jb(aB:List H7):Option Bool:=
 ((Ah (G8 aB) (0:Int)).bind (fun x4=>(match x4 with|(.inl _)=>(some true)|(.inr r6)=>(some r6))))
theorem X7(aB:List H7)(r:Bool)(h:Jb aB=some r):Spec Tryz.prog 139 [(AV.list 4 Xt default aB .none),(.clo 140 [] [])] [] (.bool r) []:=by
 refine Ac mix Tryz.func139 (fun Γ hq=>?_);unfold Jb at h;refine Af hq Jy [] ?_;refine Af hq Mf [] ?_;obtain⟨x4,hx4,h⟩:=bind_some h;refine gL hq hx4 Mf [] (fun u i1=>(Eu u [(9,(Z7 i1))] [])) (fun u x_=>match x_ with|(.inl _)=>aG Γ (.exit 0) (⟨[],[],[]⟩:St)|(.inr r_)=>aR (Aab Γ aB r_)) ?_ ?_
 ·intro i1 y h;unfold G8 at h;refine Af hq zzN51 [] ?_;refine gC h ?_ ?_<;>intro h
  ·obtain⟨hc2,h⟩:=Aa h;refine gR hq zzN56 [6] [] [] (c1 hc2) ?_;obtain⟨x3,hx3,h⟩:=bind_some h;refine gR hq zzN65 [] [] [(Z2 x3)] (c1 (ok_check_phiTyped (aB.getD i1.toNat default) x3 hx3)) ?_;refine gC h ?_ ?_<;>intro h
   ·refine Af hq [4] [] ?_;cases h;exact gO (L0 (J7 [] (Le.refl _ _)))
   ·refine Af hq Mf [] ?_;cases h;exact gN Cr
  ·cases h;exact gO (Bk (B2 [] [] hq))
 ·clear hx4;rcases x4 with _|r6
  ·refine gA ?_;refine Af hq [4] [] ?_;obtain rfl:=OI h;exact Cf []
  ·refine N2 (fun st' hk=>?_);obtain rfl:=OI h;exact gK hk
def N5(aaK:Int):Option Bool:=
 (some (bif (decide (((0:Int):Int)<=aaK)) then(decide (aaK<=22)) else false))
theorem ok_kind_isKind(aaK:Int)(r:Bool)(h:N5 aaK=some r):Spec Tryz.prog 165 [(Z7 aaK)] [] (.bool r) []:=by
 refine Ac mix Tryz.func165 (fun Γ hq=>?_);unfold N5 at h;refine Af hq [0] [] ?_;refine gR hq [2] [] [] [] (ci (gI ((decide (((0:Int):Int)<=aaK))==true)) (c1 (M7 (decide (((0:Int):Int)<=aaK))))) ?_;cases h;exact Cf []
def Q68(x5:Bool)(aE:Int):=(bif x5 then(decide (((8:Int):Int)<=aE)) else false)
def Pb(aE:Int)(aP:Int):Option Bool:=
 (bif (aP==1) then((Jv aE).bind fun x1=>(some x1)) else(Option.bind (α:=Bool) (bif (aP==2) then(some (aP==2)) else(bif (aP==4) then(some (aP==4)) else(bif (aP==8) then(some (aP==8)) else(some (aP==16))))) (fun x3=>(bif x3 then((Jv aE).bind fun x5=>(some (bif (bif x5 then(decide (((8:Int):Int)<=aE)) else false) then(decide (((w64 (aE*aP)):Int)<=128)) else false))) else(some false)))))
theorem ok_kind_Shape(aE:Int)(aP:Int)(r:Bool)(h:Pb aE aP=some r):Spec Tryz.prog 166 [(Z7 aE),(Z7 aP)] [] (.bool r) []:=by
 refine Ac mix Tryz.func166 (fun Γ hq=>?_);unfold Pb at h;refine Af hq Jy [] ?_;refine Af hq Ow [] ?_;refine Af hq zzN166 [] ?_;refine gC h ?_ ?_<;>intro h
 ·obtain⟨x1,hx1,h⟩:=bind_some h;refine gR hq [4] [] [] [(Z2 x1)] (c1 (Mz aE x1 hx1)) ?_;obtain rfl:=OI h;exact Cf []
 ·obtain⟨x3,hx3,h⟩:=bind_some h;refine gJ hx3 (fun b2=>aG Γ .normal (⟨[(0,(Z7 aE)),(1,(Z7 aP)),(10,(.bool b2))],[],[]⟩:St)) ?_ ?_
  ·clear h hx3;intro y h;refine Af hq [0,1,5,10] [] ?_;refine gC h ?_ ?_<;>intro h
   ·cases h;exact gK (Bk (B2 Za [] hq))
   ·refine Af hq [0,1,5,10] [] ?_;refine gC h ?_ ?_<;>intro h
    ·cases h;exact gK (Bk (B2 Za [] hq))
    ·refine Af hq [0,1,5,10] [] ?_;refine gC h ?_ ?_<;>intro h
     ·cases h;exact gK (Bk (B2 Za [] hq))
     ·refine Af hq Za [] ?_;cases h;exact gK (Bk Cr)
  ·clear hx3;refine gA ?_;refine gC h ?_ ?_<;>intro h
   ·obtain⟨x5,hx5,h⟩:=bind_some h;refine gR hq [4] [] [] [(Z2 x5)] (ci (Mz aE x5 hx5) (ci (gI (x5==true)) (ci (M7 x5) (ci (gI ((Q68 x5 aE)==true)) (ci (gI ((Q68 x5 aE)==true)) (ci (gI ((Q68 x5 aE)==true)) (c1 (M7 (Q68 x5 aE))))))))) ?_;cases h;exact Cf []
   ·refine Af hq [4] [] ?_;obtain rfl:=OI h;exact Cf []
def Q69(a1:C1):List (Nat×Own):=[(Z59 a1.Kind a1.Bits a1.Lanes a1.Dst a1.Args a1.Imm)]
def K9(a1:C1):Option Bool:=
 (Option.bind (α:=Bool) (bif (a1.Kind==16) then(some (a1.Kind==16)) else(some (a1.Kind==17))) (fun x2=>(bif x2 then(some (decide (((8:Int):Int)<=a1.Bits))) else(Option.bind (α:=Bool) (bif (a1.Kind==18) then(some (a1.Kind==18)) else(some (a1.Kind==19))) (fun x5=>(bif x5 then(some (bif (decide (((8:Int):Int)<=a1.Bits)) then(a1.Lanes==1) else false)) else(Option.bind (α:=Bool) (bif (a1.Kind==4) then(some (a1.Kind==4)) else(bif (a1.Kind==10) then(some (a1.Kind==10)) else(bif (a1.Kind==11) then(some (a1.Kind==11)) else(bif (a1.Kind==12) then(some (a1.Kind==12)) else(bif (a1.Kind==14) then(some (a1.Kind==14)) else(bif (a1.Kind==15) then(some (a1.Kind==15)) else(some (a1.Kind==20)))))))) (fun x8=>(bif x8 then(some (a1.Lanes==1)) else(Option.bind (α:=Bool) (bif (a1.Kind==21) then(some (a1.Kind==21)) else(some (a1.Kind==22))) (fun x11=>(bif x11 then(some (decide (((1:Int):Int)<a1.Lanes))) else(some true)))))))))))))
theorem ok_kind_shapeFits(a1:C1)(r:Bool)(h:K9 a1=some r):Spec Tryz.prog 167 (Z69 a1) [] (.bool r) []:=by
 refine Ac mix Tryz.func167 (fun Γ hq=>?_);unfold K9 at h;refine Af hq [1] [1] ?_;refine Af hq P1 [1] ?_;obtain⟨x2,hx2,h⟩:=bind_some h;refine gJ hx2 (fun b1=>aG Γ .normal (⟨[Xo,(4,(Z7 a1.Kind)),(5,(.bool b1))],(Q69 a1),[]⟩:St)) ?_ ?_
 ·clear h hx2;intro y h;refine Af hq [1,4,5] [1] ?_;refine gC h ?_ ?_<;>intro h
  ·cases h;exact gK (Bk Cr)
  ·refine Af hq [1,4,5] [1] ?_;cases h;exact gK (Bk Cr)
 ·clear hx2;refine gA ?_;refine gC h ?_ ?_<;>intro h
  ·refine Af hq [2] [] ?_;cases h;exact Cf []
  ·obtain⟨x5,hx5,h⟩:=bind_some h;refine gJ hx5 (fun b4=>aG Γ .normal (⟨[Xo,(4,(Z7 a1.Kind)),(11,(.bool b4))],(Q69 a1),[]⟩:St)) ?_ ?_
   ·clear h hx5;intro y h;refine Af hq [1,4,11] [1] ?_;refine gC h ?_ ?_<;>intro h
    ·cases h;exact gK (Bk Cr)
    ·refine Af hq [1,4,11] [1] ?_;cases h;exact gK (Bk Cr)
   ·clear hx5;refine gA ?_;refine gC h ?_ ?_<;>intro h
    ·refine gR hq [2] [] [] [] (ci (gI ((decide (((8:Int):Int)<=a1.Bits))==true)) (ci (gI ((decide (((8:Int):Int)<=a1.Bits))==true)) (c1 (M7 (decide (((8:Int):Int)<=a1.Bits)))))) ?_;cases h;exact Cf []
    ·obtain⟨x8,hx8,h⟩:=bind_some h;refine gJ hx8 (fun b7=>aG Γ .normal (⟨[Xo,(4,(Z7 a1.Kind)),(22,(.bool b7))],(Q69 a1),[]⟩:St)) ?_ ?_
     ·clear h hx8;intro y h;refine Af hq zzN121 [1] ?_;refine gC h ?_ ?_<;>intro h
      ·cases h;exact gK (Bk Cr)
      ·refine Af hq zzN121 [1] ?_;refine gC h ?_ ?_<;>intro h
       ·cases h;exact gK (Bk Cr)
       ·refine Af hq zzN121 [1] ?_;refine gC h ?_ ?_<;>intro h
        ·cases h;exact gK (Bk Cr)
        ·refine Af hq zzN121 [1] ?_;refine gC h ?_ ?_<;>intro h
         ·cases h;exact gK (Bk Cr)
         ·refine Af hq zzN121 [1] ?_;refine gC h ?_ ?_<;>intro h
          ·cases h;exact gK (Bk Cr)
          ·refine Af hq zzN121 [1] ?_;refine gC h ?_ ?_<;>intro h
           ·cases h;exact gK (Bk Cr)
           ·refine Af hq zzN121 [1] ?_;cases h;exact gK (Bk Cr)
     ·clear hx8;refine gA ?_;refine gC h ?_ ?_<;>intro h
      ·refine Af hq [2] [] ?_;cases h;exact Cf []
      ·obtain⟨x11,hx11,h⟩:=bind_some h;refine gJ hx11 (fun b10=>aG Γ .normal (⟨[Xo,(33,(.bool b10))],(Q69 a1),[]⟩:St)) ?_ ?_
       ·clear h hx11;intro y h;refine Af hq [1,4,33] [1] ?_;refine gC h ?_ ?_<;>intro h
        ·cases h;exact gK (Bk (B2 [1,33] [1] hq))
        ·refine Af hq [1,33] [1] ?_;cases h;exact gK (Bk Cr)
       ·clear hx11;refine gA ?_;refine gC h ?_ ?_<;>intro h
        ·refine Af hq [2] [] ?_;cases h;exact Cf []
        ·refine Af hq [2] [] ?_;obtain rfl:=OI h;exact Cf []
def Sa(aC:Int)(aE:Int):Option Int:=
 ((Jv aE).bind fun x1=>(bif (!x1) then(some (0:Int)) else(A6 (0<=(w64 ((64:Int)-aE))) (A6 (0<=(w64 ((64:Int)-aE))) (some (shrV .u64 (shlV .u64 aC (w64 ((64:Int)-aE))) (w64 ((64:Int)-aE))))))))
theorem ok_word_Cut(aC:Int)(aE:Int)(r:Int)(h:Sa aC aE=some r):Spec Tryz.prog 173 [(.int .u64 aC),(Z7 aE)] [] (.int .u64 r) []:=by
 refine Ac mix Tryz.func173 (fun Γ hq=>?_);unfold Sa at h;refine Af hq Jy [] ?_;obtain⟨x1,hx1,h⟩:=bind_some h;refine gR hq [0,1,7] [] [] [(Z2 x1)] (c1 (Mz aE x1 hx1)) ?_;refine gC h ?_ ?_<;>intro h
 ·refine Af hq [4] [] ?_;cases h;exact Cf []
 ·obtain⟨hc2,h⟩:=Aa h;obtain⟨hc3,h⟩:=Aa h;refine gR hq [4] [] [] [] (ci hc2 (c1 hc3)) ?_;cases h;exact Cf []
def K8(aaA:Int):Option Bool:=
 ((bif ((decide (aaA<=64))==true) then Jv (w64 aaA) else some false).bind fun x1=>(some (bif (decide (aaA<=64)) then x1 else false)))
theorem Wi(aaA:Int)(r:Bool)(h:K8 aaA=some r):Spec Tryz.prog 174 [(.int .u64 aaA)] [] (.bool r) []:=by
 refine Ac mix Tryz.func174 (fun Γ hq=>?_);unfold K8 at h;refine Af hq [0] [] ?_;obtain⟨x1,hx1,h⟩:=bind_some h;refine gR hq [2] [] [] [(Z2 x1)] (ci (gI ((decide (aaA<=64))==true)) (ci (gI ((decide (aaA<=64))==true)) (ci (fun(hg:((decide (aaA<=64))==true)=true)=>(Mz (w64 aaA) x1 (Bg hg hx1))) (c1 (M7 (decide (aaA<=64))))))) ?_;cases h;exact Cf []
def Mt(a1:C1):Option Bool:=
 (bif (a1.Kind==0) then((Sa a1.Imm a1.Bits).bind fun x1=>(some (x1==a1.Imm))) else(bif (a1.Kind==14) then((K8 a1.Imm).bind fun x2=>(some (bif x2 then(decide (a1.Imm<(Iv a1.Bits))) else false))) else(bif (a1.Kind==15) then((K8 a1.Imm).bind fun x3=>(some (bif x3 then(decide (((Iv a1.Bits):Int)<a1.Imm)) else false))) else(bif (a1.Kind==22) then(some (decide (a1.Imm<(Iv a1.Lanes)))) else(some (a1.Imm==0))))))
theorem ok_kind_immFits(a1:C1)(r:Bool)(h:Mt a1=some r):Spec Tryz.prog 168 (Z69 a1) [] (.bool r) []:=by
 refine Ac mix Tryz.func168 (fun Γ hq=>?_);unfold Mt at h;refine Af hq [1] [1] ?_;refine Af hq P1 [1] ?_;refine Af hq [1,4,5] [1] ?_;refine gC h ?_ ?_<;>intro h
 ·obtain⟨x1,hx1,h⟩:=bind_some h;refine gR hq [2] [] [] [⟨[],[],(.int .u64 x1),[],[],[]⟩] (c1 (ok_word_Cut a1.Imm a1.Bits x1 hx1)) ?_;cases h;exact Cf []
 ·refine Af hq [1,4,15] [1] ?_;refine gC h ?_ ?_<;>intro h
  ·obtain⟨x2,hx2,h⟩:=bind_some h;refine gR hq [2] [] [] [(Z2 x2)] (ci (Wi a1.Imm x2 hx2) (ci (gI (x2==true)) (ci (gI (x2==true)) (ci (gI (x2==true)) (ci (gI (x2==true)) (ci (gI (x2==true)) (c1 (M7 x2)))))))) ?_;cases h;exact Cf []
  ·refine Af hq [1,4,28] [1] ?_;refine gC h ?_ ?_<;>intro h
   ·obtain⟨x3,hx3,h⟩:=bind_some h;refine gR hq [2] [] [] [(Z2 x3)] (ci (Wi a1.Imm x3 hx3) (ci (gI (x3==true)) (ci (gI (x3==true)) (ci (gI (x3==true)) (ci (gI (x3==true)) (ci (gI (x3==true)) (c1 (M7 x3)))))))) ?_;cases h;exact Cf []
   ·refine Af hq [1,41] [1] ?_;refine gC h ?_ ?_<;>intro h
    ·refine Af hq [2] [] ?_;cases h;exact Cf []
    ·refine Af hq [2] [] ?_;cases h;exact Cf []
def H3(aaP:List ((Int×Int))):Option (List (Int×Int)):=
 (some aaP)
theorem Ji(aaP:List ((Int×Int)))(r:List ((Int×Int)))(h:H3 aaP=some r):Spec Tryz.prog 171 [(Z5 aaP)] [] (Z5 r) []:=by
 refine Ac mix Tryz.func171 (fun Γ hq=>?_);unfold H3 at h;refine gR hq [0] [] [(2,Z34)] [] (c1 (Dh 2 Bp ((0:Int),(0:Int)))) ?_;refine Af hq [2] [] ?_;obtain rfl:=OI h;exact Cf []
def Cx :(Int×List (Int×Int))->Option (LR (Int×List (Int×Int)) (List (Int×Int))):=
 fun((i7,l8):(Int×List (Int×Int)))=>(bif (decide (i7<(l8.length:Int))) then(A6 (0<=i7/\0+i7.toNat<=l8.length) (A6 (0<=i7/\0+i7.toNat<=l8.length) (some (.next ((w64 (i7+((Nat.min ((0+i7.toNat)-0) (l8.length-(0+i7.toNat))):Int))),(cpL l8 (0+i7.toNat) (Nat.min ((0+i7.toNat)-0) (l8.length-(0+i7.toNat))) (fun i=>l8.getD (0+i) ((0:Int),(0:Int))))))))) else(some (.done l8)))
def Q70(x3:(Int×Int)):=(List.replicate (w64 x3.2).toNat ((0:Int),(0:Int)))
def Q72(x3:(Int×Int))(aL:List ((Int×Int))):=(cpL (Q70 x3) 0 (Nat.min aL.length ((Q70 x3).length-0)) (fun i=>aL.getD i ((0:Int),(0:Int))))
def Q71(l8:List ((Int×Int)))(i7:Int):=(cpL l8 (0+i7.toNat) (Nat.min ((0+i7.toNat)-0) (l8.length-(0+i7.toNat))) (fun i=>l8.getD (0+i) ((0:Int),(0:Int))))
def B0(aL:List ((Int×Int)))(aa6:Int):Option (List (Int×Int)):=
 (Option.bind (α:=Unit) (bif (decide (aa6<0)) then none else(some ())) (fun x1=>(match x1 with|_=>((Oi (Iv (aL.length:Int)) (Iv aa6)).bind fun x3=>(Option.bind (α:=Unit) (bif (bif (decide (((0:Int):Int)<x3.1)) then true else(decide (((9223372036854775807:Int):Int)<x3.2))) then none else(some ())) (fun x4=>(match x4 with|_=>(A6 (0<=(w64 x3.2)/\(w64 x3.2)<=(w64 x3.2)/\(w64 x3.2)<=(room:Int)) ((Ah (S:=(Int×List (Int×Int))) (X:=List (Int×Int)) Cx (((Nat.min aL.length ((List.replicate (w64 x3.2).toNat ((0:Int),(0:Int))).length-0)):Int),(cpL (List.replicate (w64 x3.2).toNat ((0:Int),(0:Int))) 0 (Nat.min aL.length ((List.replicate (w64 x3.2).toNat ((0:Int),(0:Int))).length-0)) (fun i=>aL.getD i ((0:Int),(0:Int)))))).bind (fun x12=>(some x12)))))))))))
theorem Re(aL:List ((Int×Int)))(aa6:Int)(r:List ((Int×Int)))(h:B0 aL aa6=some r):Spec Tryz.prog 172 [(Z5 aL),(Z7 aa6)] [] (Z39 r 20000) [(20000,.tok 2 88 r.length)]:=by
 refine Ac mix Tryz.func172 (fun Γ hq=>?_);have hΓ:=hq.own;unfold B0 at h;refine gR hq Jy [] [(4,Z34)] [] (c1 (Dh 2 Bp ((0:Int),(0:Int)))) ?_;obtain⟨x1,hx1,h⟩:=bind_some h;refine gJ hx1 (fun _=>aG Γ .normal (⟨[(0,(Z5 aL)),(1,(Z7 aa6))],[],[]⟩:St)) ?_ ?_
 ·clear h hx1;intro y h;refine Af hq Za [] ?_;refine gC h ?_ ?_<;>intro h
  ·cases h
  ·cases h;exact gK (Bk (B2 Jy [] hq))
 ·clear hx1;refine gA ?_;obtain⟨x3,hx3,h⟩:=bind_some h;refine gR hq [0,5,6] [] [] [⟨[],[],(.tuple (Z75 x3.1 x3.2)),[],[],[]⟩] (c1 (ok_bits_Mul (Iv (aL.length:Int)) (Iv aa6) x3 hx3)) ?_;obtain⟨x4,hx4,h⟩:=bind_some h;refine gJ hx4 (fun _=>aG Γ .normal (⟨[(0,(Z5 aL)),(6,(.int .u64 x3.2))],[],[]⟩:St)) ?_ ?_
  ·clear h hx4;intro y h;refine gR hq [0,6,26] [] [] [] (ci (gI ((decide (((0:Int):Int)<x3.1))==false)) (c1 (J1 (decide (((0:Int):Int)<x3.1))))) ?_;refine gC h ?_ ?_<;>intro h
   ·cases h
   ·cases h;exact gK (Bk (B2 [0,6] [] hq))
  ·clear hx4;refine gA ?_;obtain⟨hc6,h⟩:=Aa h;refine gR hq [0,7] [30] [] [] (c1 hc6) ?_;refine Or (Le.trans (Wv 30 (show ∀ k_,k_<((w64 x3.2).toNat)->AVleL ((fun i_=>AV.eraseAll (fun n_=>D5 n_ [30]) ((fun _=>[Pq,Pq]) i_)) k_) ((fun i=>Bp ((Q70 x3).getD i ((0:Int),(0:Int)))) k_) from(fun k hk=>Rr (e:=Bp) (d:=((0:Int),(0:Int))) (.cons (AVle.refl _) (.cons (AVle.refl _) .nil)) _ k (Ru hk)))) (Ww (fun(k_:Nat) u=>(Eu u [(Ti 30 k_)] [(30,.arr 2 88 k_ (fun i=>Bp ((Q70 x3).getD i ((0:Int),(0:Int)))))])) (show(w64 x3.2).toNat=(Q70 x3).length from(Rj ..).symm))) ?_;refine gR hq [7,8] [30] [] [] (c1 (Eq.refl ((Q70 x3).length))) ?_;refine Or (Le.trans (Wv 30 (show ∀ k_,k_<((Q70 x3).length)->AVleL ((fun i_=>AV.eraseAll (fun n_=>D5 n_ [30]) ((cpF (fun i=>Bp ((Q70 x3).getD i ((0:Int),(0:Int)))) 0 (Nat.min aL.length ((Q70 x3).length-0)) (fun i=>Bp (aL.getD i ((0:Int),(0:Int))))) i_)) k_) ((fun i=>Bp ((Q72 x3 aL).getD i ((0:Int),(0:Int)))) k_) from(Cn (Jm ..) (fun k_ hk_=>(Cq (AV.eraseAll (fun n_=>D5 n_ [30])) ((cpF_cpL (e:=Bp) (d:=((0:Int),(0:Int))) (l:=(Q70 x3)) (s:=(fun i=>aL.getD i ((0:Int),(0:Int)))) (fun _ _=>rfl) (fun _ _=>rfl)) k_ hk_)).trans rfl)))) (Ww (fun(k_:Nat) u=>(Eu u [(Ti 30 k_)] [(30,.arr 2 88 k_ (fun i=>Bp ((Q72 x3 aL).getD i ((0:Int),(0:Int)))))])) (show(Q70 x3).length=(Q72 x3 aL).length from(Jm ..)))) ?_;obtain⟨x12,hx12,h⟩:=bind_some h;refine gL hq hx12 [7,8] [30] (fun u (i7,l8)=>(Eu u [(Ti 30 l8.length),(8,(Z7 i7))] (Z67 l8))) (fun u l9=>aG Γ (.exit 0) (⟨[(Ti 30 l9.length)],(Z67 l9),[]⟩:St)) ?_ ?_
   ·rintro⟨i7,l8⟩ y h;unfold Cx at h;refine Af hq [7,8,37] [30] ?_;refine gC h ?_ ?_<;>intro h
    ·obtain⟨hc10,h⟩:=Aa h;obtain⟨hc11,h⟩:=Aa h;refine gR hq [7,8] [30] [] [] (ci hc10 (ci hc11 (ci (Eq.refl l8.length) (c1 (Eq.refl l8.length))))) ?_;cases h;exact gN (Le.trans (Le.trans (Wv 30 (show ∀ k_,k_<l8.length->AVleL ((fun i_=>AV.eraseAll (fun n_=>D5 n_ [30]) ((cpF (fun i=>Bp (l8.getD i ((0:Int),(0:Int)))) (0+i7.toNat) (Nat.min ((0+i7.toNat)-0) (l8.length-(0+i7.toNat))) (fun i=>(fun i=>Bp (l8.getD i ((0:Int),(0:Int)))) (0+i))) i_)) k_) ((fun i=>Bp ((Q71 l8 i7).getD i ((0:Int),(0:Int)))) k_) from(Cn (Jm ..) (fun k_ hk_=>(Cq (AV.eraseAll (fun n_=>D5 n_ [30])) ((cpF_cpL (e:=Bp) (d:=((0:Int),(0:Int))) (l:=l8) (s:=(fun i=>l8.getD (0+i) ((0:Int),(0:Int)))) (fun _ _=>rfl) (fun _ _=>rfl)) k_ hk_)).trans rfl)))) (Ww (fun(k_:Nat) u=>(Eu u [(Ti 30 k_)] [(30,.arr 2 88 k_ (fun i=>Bp ((Q71 l8 i7).getD i ((0:Int),(0:Int)))))])) (show l8.length=(Q71 l8 i7).length from(Jm ..)))) Cr)
    ·cases h;exact gO (Bk (B2 [7] [30] hq))
   ·clear hx12;refine gA ?_;refine Af hq [4] [30] ?_;refine Ri (⟨[(4,(.vsl 30 x12.length))],(Z67 x12),[]⟩:St) ?_;obtain rfl:=OI h;exact gK (e:=.ret) (J7 [(30,20000)] (Le.trans (J9 (nm:=30) (sz:=2) (n:=x12.length) (e:=88) (f:=(fun i=>Bp (x12.getD i ((0:Int),(0:Int))))) (g:=(fun i=>Bp (x12.getD i ((0:Int),(0:Int))))) rfl ⟨rfl,trivial⟩ (fun _ _=>rfl) (by rw[hΓ];rfl)) (J5 (st':=⟨[(4,(Z39 x12 30))],[(30,.tok 2 88 x12.length)],[]⟩) (by kernel_rfl))))
def Q73(a1:C1):List (Nat×Own):=[(Z59 a1.Kind a1.Bits a1.Lanes a1.Dst a1.Args a1.Imm),(3,.row 88 [Z76,Z76]),(4,.row 88 [(Z54 64),Z76]),(5,.row 88 [(Z7 a1.Bits),(Z7 a1.Lanes)]),(6,.row 88 [(Z7 a1.Bits),Z76])]
def Nd(a1:C1):Option (List (Int×Int)):=
 (bif (a1.Kind==0) then((H3 ([]:List (Int×Int))).bind fun x1=>(some x1)) else(bif (a1.Kind==13) then((H3 ([((1:Int),(1:Int)),(a1.Bits,a1.Lanes),(a1.Bits,a1.Lanes)]:List (Int×Int))).bind fun x2=>(some x2)) else(Option.bind (α:=Bool) (bif (a1.Kind==14) then(some (a1.Kind==14)) else(some (a1.Kind==15))) (fun x4=>(bif x4 then((H3 ([((w64 a1.Imm),(1:Int))]:List (Int×Int))).bind fun x6=>(some x6)) else(bif (a1.Kind==16) then((H3 ([((64:Int),(1:Int))]:List (Int×Int))).bind fun x7=>(some x7)) else(bif (a1.Kind==17) then((H3 ([((64:Int),(1:Int)),(a1.Bits,a1.Lanes)]:List (Int×Int))).bind fun x8=>(some x8)) else(Option.bind (α:=Bool) (bif (a1.Kind==18) then(some (a1.Kind==18)) else(some (a1.Kind==19))) (fun x10=>(bif x10 then((H3 ([((1:Int),(1:Int)),((64:Int),(1:Int)),(a1.Bits,(1:Int))]:List (Int×Int))).bind fun x12=>(some x12)) else(bif (a1.Kind==20) then((H3 ([((1:Int),(1:Int)),(a1.Bits,(1:Int)),(a1.Bits,(1:Int)),(a1.Bits,(1:Int))]:List (Int×Int))).bind fun x13=>(some x13)) else(bif (a1.Kind==21) then((B0 ([(a1.Bits,(1:Int))]:List (Int×Int)) a1.Lanes).bind fun x14=>((H3 x14).bind fun x15=>(some x15))) else(bif (a1.Kind==22) then((H3 ([(a1.Bits,a1.Lanes)]:List (Int×Int))).bind fun x16=>(some x16)) else((H3 ([(a1.Bits,a1.Lanes),(a1.Bits,a1.Lanes)]:List (Int×Int))).bind fun x17=>(some x17)))))))))))))))
theorem ok_kind_takes(a1:C1)(r:List ((Int×Int)))(h:Nd a1=some r):Spec Tryz.prog 162 (Z69 a1) [] (Z5 r) []:=by
 refine Ac mix Tryz.func162 (fun Γ hq=>?_);unfold Nd at h;refine gR hq [1] [1] [(2,Z34)] [] (c1 (Dh 2 Bp ((0:Int),(0:Int)))) ?_;refine Af hq Ko Ko ?_;refine Af hq Qz Qz ?_;refine Af hq [1,3,4,5,6,18] Qz ?_;refine Af hq [1,3,4,5,6,18,19] Qz ?_;refine gC h ?_ ?_<;>intro h
 ·obtain⟨x1,hx1,h⟩:=bind_some h;refine gR hq [2] [] [] [(Z44 x1)] (c1 (show(Spec Tryz.prog 171 [(.slice 0 0 (fun _=>[]) .none)] [] (Z5 x1) []) from(Spec.args (.cons av_nil0 .nil) (Ji ([]:List (Int×Int)) x1 hx1)))) ?_;obtain rfl:=OI h;exact Cf []
 ·refine Af hq [1,3,4,5,6,18,22] Qz ?_;refine gC h ?_ ?_<;>intro h
  ·obtain⟨x2,hx2,h⟩:=bind_some h;refine gR hq [2] [] [(27,(AV.list 2 Bp ((0:Int),(0:Int)) ([((1:Int),(1:Int)),(a1.Bits,a1.Lanes),(a1.Bits,a1.Lanes)]:List (Int×Int)) .exact))] [(Z44 x2)] (ci (Bx 2 Bp ((0:Int),(0:Int)) ([((1:Int),(1:Int)),(a1.Bits,a1.Lanes),(a1.Bits,a1.Lanes)]:List (Int×Int))) (c1 (Ji ([((1:Int),(1:Int)),(a1.Bits,a1.Lanes),(a1.Bits,a1.Lanes)]:List (Int×Int)) x2 hx2))) ?_;obtain rfl:=OI h;exact Cf []
  ·obtain⟨x4,hx4,h⟩:=bind_some h;refine gJ hx4 (fun b3=>aG Γ .normal (⟨[Xo,(3,(.ptr 3 0)),(4,(.ptr 4 0)),Z79,(6,(.ptr 6 0)),(18,(Z7 a1.Kind)),(29,(.bool b3))],(Q73 a1),[]⟩:St)) ?_ ?_
   ·clear h hx4;intro y h;refine Af hq [1,3,4,5,6,18,29] Qz ?_;refine gC h ?_ ?_<;>intro h
    ·cases h;exact gK (Bk Cr)
    ·refine Af hq [1,3,4,5,6,18,29] Qz ?_;cases h;exact gK (Bk Cr)
   ·clear hx4;refine gA ?_;refine gC h ?_ ?_<;>intro h
    ·obtain⟨x6,hx6,h⟩:=bind_some h;refine gR hq [2] [] [(36,(AV.list 2 Bp ((0:Int),(0:Int)) ([((w64 a1.Imm),(1:Int))]:List (Int×Int)) .exact))] [(Z44 x6)] (ci (Bx 2 Bp ((0:Int),(0:Int)) ([((w64 a1.Imm),(1:Int))]:List (Int×Int))) (c1 (Ji ([((w64 a1.Imm),(1:Int))]:List (Int×Int)) x6 hx6))) ?_;obtain rfl:=OI h;exact Cf []
    ·refine Af hq [1,3,4,5,6,18,38] Qz ?_;refine gC h ?_ ?_<;>intro h
     ·obtain⟨x7,hx7,h⟩:=bind_some h;refine gR hq [2] [] [(41,(AV.list 2 Bp ((0:Int),(0:Int)) ([((64:Int),(1:Int))]:List (Int×Int)) .exact))] [(Z44 x7)] (ci (Bx 2 Bp ((0:Int),(0:Int)) ([((64:Int),(1:Int))]:List (Int×Int))) (c1 (Ji ([((64:Int),(1:Int))]:List (Int×Int)) x7 hx7))) ?_;obtain rfl:=OI h;exact Cf []
     ·refine Af hq [1,3,4,5,6,18,43] Qz ?_;refine gC h ?_ ?_<;>intro h
      ·obtain⟨x8,hx8,h⟩:=bind_some h;refine gR hq [2] [] [(47,(AV.list 2 Bp ((0:Int),(0:Int)) ([((64:Int),(1:Int)),(a1.Bits,a1.Lanes)]:List (Int×Int)) .exact))] [(Z44 x8)] (ci (Bx 2 Bp ((0:Int),(0:Int)) ([((64:Int),(1:Int)),(a1.Bits,a1.Lanes)]:List (Int×Int))) (c1 (Ji ([((64:Int),(1:Int)),(a1.Bits,a1.Lanes)]:List (Int×Int)) x8 hx8))) ?_;obtain rfl:=OI h;exact Cf []
      ·obtain⟨x10,hx10,h⟩:=bind_some h;refine gJ hx10 (fun b9=>aG Γ .normal (⟨[Xo,(3,(.ptr 3 0)),(4,(.ptr 4 0)),Z79,(6,(.ptr 6 0)),(18,(Z7 a1.Kind)),(49,(.bool b9))],(Q73 a1),[]⟩:St)) ?_ ?_
       ·clear h hx10;intro y h;refine Af hq [1,3,4,5,6,18,49] Qz ?_;refine gC h ?_ ?_<;>intro h
        ·cases h;exact gK (Bk Cr)
        ·refine Af hq [1,3,4,5,6,18,49] Qz ?_;cases h;exact gK (Bk Cr)
       ·clear hx10;refine gA ?_;refine gC h ?_ ?_<;>intro h
        ·obtain⟨x12,hx12,h⟩:=bind_some h;refine gR hq [2] [] [(55,(AV.list 2 Bp ((0:Int),(0:Int)) ([((1:Int),(1:Int)),((64:Int),(1:Int)),(a1.Bits,(1:Int))]:List (Int×Int)) .exact))] [(Z44 x12)] (ci (Bx 2 Bp ((0:Int),(0:Int)) ([((1:Int),(1:Int)),((64:Int),(1:Int)),(a1.Bits,(1:Int))]:List (Int×Int))) (c1 (Ji ([((1:Int),(1:Int)),((64:Int),(1:Int)),(a1.Bits,(1:Int))]:List (Int×Int)) x12 hx12))) ?_;obtain rfl:=OI h;exact Cf []
        ·refine Af hq [1,3,5,6,18,57] zzN69 ?_;refine gC h ?_ ?_<;>intro h
         ·obtain⟨x13,hx13,h⟩:=bind_some h;refine gR hq [2] [] [(63,(AV.list 2 Bp ((0:Int),(0:Int)) ([((1:Int),(1:Int)),(a1.Bits,(1:Int)),(a1.Bits,(1:Int)),(a1.Bits,(1:Int))]:List (Int×Int)) .exact))] [(Z44 x13)] (ci (Bx 2 Bp ((0:Int),(0:Int)) ([((1:Int),(1:Int)),(a1.Bits,(1:Int)),(a1.Bits,(1:Int)),(a1.Bits,(1:Int))]:List (Int×Int))) (c1 (Ji ([((1:Int),(1:Int)),(a1.Bits,(1:Int)),(a1.Bits,(1:Int)),(a1.Bits,(1:Int))]:List (Int×Int)) x13 hx13))) ?_;obtain rfl:=OI h;exact Cf []
         ·refine Af hq [1,5,6,18,65] [1,5,6] ?_;refine gC h ?_ ?_<;>intro h
          ·obtain⟨x14,hx14,h⟩:=bind_some h;obtain⟨x15,hx15,h⟩:=bind_some h;refine gR hq [2] [] [(68,(AV.list 2 Bp ((0:Int),(0:Int)) ([(a1.Bits,(1:Int))]:List (Int×Int)) .exact))] [⟨[],[(20000,71)],(Z39 x14 20000),[(20000,.tok 2 88 x14.length)],[],[]⟩,(Z44 x15)] (ci (Bx 2 Bp ((0:Int),(0:Int)) ([(a1.Bits,(1:Int))]:List (Int×Int))) (ci (Re ([(a1.Bits,(1:Int))]:List (Int×Int)) a1.Lanes x14 hx14) (c1 (Ji x14 x15 hx15)))) ?_;obtain rfl:=OI h;exact Cf []
          ·refine Af hq [5,73] [5] ?_;refine gC h ?_ ?_<;>intro h
           ·obtain⟨x16,hx16,h⟩:=bind_some h;refine gR hq [2] [] [(76,(AV.list 2 Bp ((0:Int),(0:Int)) ([(a1.Bits,a1.Lanes)]:List (Int×Int)) .exact))] [(Z44 x16)] (ci (Bx 2 Bp ((0:Int),(0:Int)) ([(a1.Bits,a1.Lanes)]:List (Int×Int))) (c1 (Ji ([(a1.Bits,a1.Lanes)]:List (Int×Int)) x16 hx16))) ?_;obtain rfl:=OI h;exact Cf []
           ·obtain⟨x17,hx17,h⟩:=bind_some h;refine gR hq [2] [] [(80,(AV.list 2 Bp ((0:Int),(0:Int)) ([(a1.Bits,a1.Lanes),(a1.Bits,a1.Lanes)]:List (Int×Int)) .exact))] [(Z44 x17)] (ci (Bx 2 Bp ((0:Int),(0:Int)) ([(a1.Bits,a1.Lanes),(a1.Bits,a1.Lanes)]:List (Int×Int))) (c1 (Ji ([(a1.Bits,a1.Lanes),(a1.Bits,a1.Lanes)]:List (Int×Int)) x17 hx17))) ?_;obtain rfl:=OI h;exact Cf []
def K7(aC:Int):Option Bool:=
 (some (bif (decide (((1:Int):Int)<=aC)) then(decide (aC<=1023)) else false))
theorem Wh(aC:Int)(r:Bool)(h:K7 aC=some r):Spec Tryz.prog 175 [(Z7 aC)] [] (.bool r) []:=by
 refine Ac mix Tryz.func175 (fun Γ hq=>?_);unfold K7 at h;refine Af hq [0] [] ?_;refine gR hq [2] [] [] [] (ci (gI ((decide (((1:Int):Int)<=aC))==true)) (c1 (M7 (decide (((1:Int):Int)<=aC))))) ?_;cases h;exact Cf []
def I7(a1:C1):Int->Option (LR Int (Unit ⊕ Bool)):=
 fun(i2:Int)=>(bif (decide (i2<(a1.Args.length:Int))) then(A6 (A2 i2 a1.Args.length) ((K7 (a1.Args.getD i2.toNat 0)).bind fun x4=>(bif (!x4) then(some (.done (.inr false))) else(some (.next (w64 (i2+1))))))) else(some (.done (.inl ()))))
def K_kind_argsFit(Γ:Iw)(a1:C1)(r:Bool):Exit->St->Prop:=fK Tryz.prog Γ Tryz.f169.results.toList [] (.bool r) []
def Mr(a1:C1):Option Bool:=
 ((Nd a1).bind fun x1=>(bif (((a1.Args.length:Int):Int)!=(x1.length:Int)) then(some false) else((Ah (I7 a1) (0:Int)).bind (fun x5=>(match x5 with|(.inl _)=>(some true)|(.inr r7)=>(some r7))))))
theorem ok_kind_argsFit(a1:C1)(r:Bool)(h:Mr a1=some r):Spec Tryz.prog 169 (Z69 a1) [] (.bool r) []:=by
 refine Ac mix Tryz.func169 (fun Γ hq=>?_);unfold Mr at h;refine Af hq [1] [1] ?_;obtain⟨x1,hx1,h⟩:=bind_some h;refine gR hq [1,11] [1] [] [(Z44 x1)] (c1 (ok_kind_takes a1 x1 hx1)) ?_;refine gC h ?_ ?_<;>intro h
 ·refine Af hq [2] [] ?_;obtain rfl:=OI h;exact Cf []
 ·refine Af hq [13,14,15] [] ?_;obtain⟨x5,hx5,h⟩:=bind_some h;refine gL hq hx5 [13,14,15] [] (fun u i2=>(Eu u [(15,(Z7 i2))] [])) (fun u x_=>match x_ with|(.inl _)=>aG Γ (.exit 0) (⟨[],[],[]⟩:St)|(.inr r_)=>aR (K_kind_argsFit Γ a1 r_)) ?_ ?_
  ·intro i2 y h;unfold I7 at h;refine Af hq [13,14,15,16] [] ?_;refine gC h ?_ ?_<;>intro h
   ·obtain⟨hc3,h⟩:=Aa h;refine gR hq [4,13,14,15] [] [] [] (c1 hc3) ?_;obtain⟨x4,hx4,h⟩:=bind_some h;refine gR hq [13,14,15,21] [] [] [(Z2 x4)] (c1 (Wh (a1.Args.getD i2.toNat 0) x4 hx4)) ?_;refine gC h ?_ ?_<;>intro h
    ·refine Af hq [2] [] ?_;cases h;exact gO (L0 (J7 [] (Le.refl _ _)))
    ·refine Af hq [13,14,15] [] ?_;cases h;exact gN Cr
   ·cases h;exact gO (Bk (B2 [] [] hq))
  ·clear hx5;rcases x5 with _|r7
   ·refine gA ?_;refine Af hq [2] [] ?_;obtain rfl:=OI h;exact Cf []
   ·refine N2 (fun st' hk=>?_);obtain rfl:=OI h;exact gK hk
def Q74(a1:C1):List (Nat×Own):=[(Z59 a1.Kind a1.Bits a1.Lanes a1.Dst a1.Args a1.Imm)]
def Nc(a1:C1):Option (Int×Int):=
 (Option.bind (α:=Bool) (bif (a1.Kind==17) then(some (a1.Kind==17)) else(some (a1.Kind==19))) (fun x2=>(bif x2 then(some ((0:Int),(0:Int))) else(Option.bind (α:=Bool) (bif (a1.Kind==10) then(some (a1.Kind==10)) else(bif (a1.Kind==11) then(some (a1.Kind==11)) else(some (a1.Kind==12)))) (fun x5=>(bif x5 then(some ((1:Int),(1:Int))) else(bif (a1.Kind==22) then(some (a1.Bits,(1:Int))) else(some (a1.Bits,a1.Lanes)))))))))
theorem ok_kind_gives(a1:C1)(r:(Int×Int))(h:Nc a1=some r):Spec Tryz.prog 161 (Z69 a1) [] (.tuple [(Z7 r.1),(Z7 r.2)]) []:=by
 refine Ac mix Tryz.func161 (fun Γ hq=>?_);unfold Nc at h;refine Af hq [1] [1] ?_;refine Af hq [1,5] [1] ?_;obtain⟨x2,hx2,h⟩:=bind_some h;refine gJ hx2 (fun b1=>aG Γ .normal (⟨[Xo,(5,(Z7 a1.Kind)),(6,(.bool b1))],(Q74 a1),[]⟩:St)) ?_ ?_
 ·clear h hx2;intro y h;refine Af hq [1,5,6] [1] ?_;refine gC h ?_ ?_<;>intro h
  ·cases h;exact gK (Bk Cr)
  ·refine Af hq [1,5,6] [1] ?_;cases h;exact gK (Bk Cr)
 ·clear hx2;refine gA ?_;refine gC h ?_ ?_<;>intro h
  ·refine Af hq F5 [] ?_;cases h;exact Cf []
  ·obtain⟨x5,hx5,h⟩:=bind_some h;refine gJ hx5 (fun b4=>aG Γ .normal (⟨[Xo,(5,(Z7 a1.Kind)),(9,(.bool b4))],(Q74 a1),[]⟩:St)) ?_ ?_
   ·clear h hx5;intro y h;refine Af hq [1,5,9] [1] ?_;refine gC h ?_ ?_<;>intro h
    ·cases h;exact gK (Bk Cr)
    ·refine Af hq [1,5,9] [1] ?_;refine gC h ?_ ?_<;>intro h
     ·cases h;exact gK (Bk Cr)
     ·refine Af hq [1,5,9] [1] ?_;cases h;exact gK (Bk Cr)
   ·clear hx5;refine gA ?_;refine gC h ?_ ?_<;>intro h
    ·refine Af hq F5 [] ?_;cases h;exact Cf []
    ·refine Af hq [1,13] [1] ?_;refine gC h ?_ ?_<;>intro h
     ·refine Af hq F5 [] ?_;cases h;exact Cf []
     ·refine Af hq F5 [] ?_;cases h;exact Cf []
def Ms(a1:C1):Option Bool:=
 ((Nc a1).bind fun x1=>(bif (x1.1==0) then(some (a1.Dst==0)) else((K7 a1.Dst).bind fun x2=>(some x2))))
theorem ok_kind_dstFits(a1:C1)(r:Bool)(h:Ms a1=some r):Spec Tryz.prog 170 (Z69 a1) [] (.bool r) []:=by
 refine Ac mix Tryz.func170 (fun Γ hq=>?_);unfold Ms at h;refine Af hq [1] [1] ?_;obtain⟨x1,hx1,h⟩:=bind_some h;refine gR hq Kn [1] [] [(Z77 x1.1 x1.2)] (c1 (ok_kind_gives a1 x1 hx1)) ?_;refine Af hq [1,11] [1] ?_;refine gC h ?_ ?_<;>intro h
 ·refine Af hq [2] [] ?_;cases h;exact Cf []
 ·obtain⟨x2,hx2,h⟩:=bind_some h;refine gR hq [2] [] [] [(Z2 x2)] (c1 (Wh a1.Dst x2 hx2)) ?_;obtain rfl:=OI h;exact Cf []
def Q75(x1:Bool)(x2:Bool):=(bif (!x1) then true else(!x2))
def Ol(a1:C1):Option Bool:=
 ((N5 a1.Kind).bind fun x1=>((bif ((!x1)==false) then Pb a1.Bits a1.Lanes else some false).bind fun x2=>((bif ((bif (!x1) then true else(!x2))==false) then K9 a1 else some false).bind fun x3=>((bif ((bif (bif (!x1) then true else(!x2)) then true else(!x3))==false) then Mt a1 else some false).bind fun x4=>(bif (bif (bif (bif (!x1) then true else(!x2)) then true else(!x3)) then true else(!x4)) then(some false) else((Mr a1).bind fun x5=>((bif (x5==true) then Ms a1 else some false).bind fun x6=>(some (bif x5 then x6 else false)))))))))
theorem Yc(a1:C1)(r:Bool)(h:Ol a1=some r):Spec Tryz.prog 159 (Z69 a1) [] (.bool r) []:=by
 refine Ac mix Tryz.func159 (fun Γ hq=>?_);unfold Ol at h;refine Af hq [1] [1] ?_;obtain⟨x1,hx1,h⟩:=bind_some h;obtain⟨x2,hx2,h⟩:=bind_some h;obtain⟨x3,hx3,h⟩:=bind_some h;obtain⟨x4,hx4,h⟩:=bind_some h;refine gR hq [1,24] [1] [] [(Z2 x1),(Z2 x2),(Z2 x3),(Z2 x4)] (ci (ok_kind_isKind a1.Kind x1 hx1) (ci (gI ((!x1)==false)) (ci (gI ((!x1)==false)) (ci (gI ((!x1)==false)) (ci (gI ((!x1)==false)) (ci (fun(hg:((!x1)==false)=true)=>(ok_kind_Shape a1.Bits a1.Lanes x2 (Bg hg hx2))) (ci (gI ((!x1)==false)) (ci (J1 (!x1)) (ci (gI ((Q75 x1 x2)==false)) (ci (fun(hg:((Q75 x1 x2)==false)=true)=>(ok_kind_shapeFits a1 x3 (Bg hg hx3))) (ci (gI ((Q75 x1 x2)==false)) (ci (J1 (Q75 x1 x2)) (ci (gI ((bif (Q75 x1 x2) then true else(!x3))==false)) (ci (fun(hg:((bif (Q75 x1 x2) then true else(!x3))==false)=true)=>(ok_kind_immFits a1 x4 (Bg hg hx4))) (ci (gI ((bif (Q75 x1 x2) then true else(!x3))==false)) (c1 (J1 (bif (Q75 x1 x2) then true else(!x3))))))))))))))))))) ?_;refine gC h ?_ ?_<;>intro h
 ·refine Af hq [2] [] ?_;obtain rfl:=OI h;exact Cf []
 ·obtain⟨x5,hx5,h⟩:=bind_some h;obtain⟨x6,hx6,h⟩:=bind_some h;refine gR hq [2] [] [] [(Z2 x5),(Z2 x6)] (ci (ok_kind_argsFit a1 x5 hx5) (ci (gI (x5==true)) (ci (fun(hg:(x5==true)=true)=>(ok_kind_dstFits a1 x6 (Bg hg hx6))) (c1 (M7 x5))))) ?_;cases h;exact Cf []
def O9(a1:C1)(aX:Int):Option Bool:=
 (bif (aX==0) then(some (bif (decide (a1.Kind<=17)) then(a1.Lanes==1) else false)) else(bif (aX==1) then(some (bif (decide (a1.Kind<=20)) then(a1.Lanes==1) else false)) else(some true)))
theorem ok_check_isOf(a1:C1)(aX:Int)(r:Bool)(h:O9 a1 aX=some r):Spec Tryz.prog 160 [(.agg (Nv a1)),(Z7 aX)] [] (.bool r) []:=by
 refine Ac mix Tryz.func160 (fun Γ hq=>?_);unfold O9 at h;refine Af hq M5 [2] ?_;refine Af hq T4 [2] ?_;refine Af hq Uu [2] ?_;refine gC h ?_ ?_<;>intro h
 ·refine gR hq [4] [] [] [] (ci (gI ((decide (a1.Kind<=17))==true)) (ci (gI ((decide (a1.Kind<=17))==true)) (c1 (M7 (decide (a1.Kind<=17)))))) ?_;cases h;exact Cf []
 ·refine Af hq T0 [2] ?_;refine gC h ?_ ?_<;>intro h
  ·refine gR hq [4] [] [] [] (ci (gI ((decide (a1.Kind<=20))==true)) (ci (gI ((decide (a1.Kind<=20))==true)) (c1 (M7 (decide (a1.Kind<=20)))))) ?_;cases h;exact Cf []
  ·refine Af hq [4] [] ?_;obtain rfl:=OI h;exact Cf []
def Gs(a1:C1)(a4:TFunc)(a9:Int)(aA:List Int)(a7:List Ar):Option (Bool×TFunc×Int×List Int×List Ar):=
 ((Ol a1).bind fun x1=>((bif (x1==true) then O9 a1 a9 else some false).bind fun x2=>(some ((bif x1 then x2 else false),a4,a9,aA,a7))))
theorem Tu(a1:C1)(a4:TFunc)(a9:Int)(aA:List Int)(a7:List Ar)(r:(Bool×TFunc×Int×List Int×List Ar))(h:Gs a1 a4 a9 aA a7=some r):Spec Tryz.prog 142 [Z60,(.agg (Nv a1))] (Z3 a4.Params a4.Ret a4.Blocks a9 aA a7 a7.length) (.bool r.1) (Z3 r.2.1.Params r.2.1.Ret r.2.1.Blocks r.2.2.1 r.2.2.2.1 r.2.2.2.2 r.2.2.2.2.length):=by
 refine Ac mix Tryz.func142 (fun Γ hq=>?_);unfold Gs at h;refine Af hq Rp zzN95 ?_;obtain⟨x1,hx1,h⟩:=bind_some h;obtain⟨x2,hx2,h⟩:=bind_some h;refine gR hq [4] Je [] [(Z2 x1),(Z2 x2)] (ci (Yc a1 x1 hx1) (ci (gI (x1==true)) (ci (gI (x1==true)) (ci (gI (x1==true)) (ci (gI (x1==true)) (ci (gI (x1==true)) (ci (fun(hg:(x1==true)=true)=>(ok_check_isOf a1 a9 x2 (Bg hg hx2))) (c1 (M7 x1))))))))) ?_;cases h;exact Cf zzN9
def Gb(aB:List C1):(Int×List Int×Int×List Ad×Int×List Int×List Ar)->Option (LR (Int×List Int×Int×List Ad×Int×List Int×List Ar) ((List Int×Int×List Ad×Int×List Int×List Ar) ⊕ (Bool×TFunc×Int×List Int×List Ar))):=
 fun((i1,l2,i3,l4,i5,l6,l7):(Int×List Int×Int×List Ad×Int×List Int×List Ar))=>(bif (decide (i1<(aB.length:Int))) then(A6 (A2 i1 aB.length) ((Gs (aB.getD i1.toNat default) (⟨l2,i3,l4⟩:TFunc) i5 l6 l7).bind fun x15=>(bif (!x15.1) then(some (.done (.inr (false,x15.2.1,x15.2.2.1,x15.2.2.2.1,x15.2.2.2.2)))) else(some (.next ((w64 (i1+1)),x15.2.1.Params,x15.2.1.Ret,x15.2.1.Blocks,x15.2.2.1,x15.2.2.2.1,x15.2.2.2.2)))))) else(some (.done (.inl (l2,i3,l4,i5,l6,l7)))))
def K_check_all_api_Op(Γ:Iw)(aB:List C1)(a4:TFunc)(a9:Int)(aA:List Int)(a7:List Ar)(r:(Bool×TFunc×Int×List Int×List Ar)):Exit->St->Prop:=fK Tryz.prog Γ Tryz.f141.results.toList (Z3 a4.Params a4.Ret a4.Blocks a9 aA a7 a7.length) (.bool r.1) (Z3 r.2.1.Params r.2.1.Ret r.2.1.Blocks r.2.2.1 r.2.2.2.1 r.2.2.2.2 r.2.2.2.2.length)
def Jp(aB:List C1)(a4:TFunc)(a9:Int)(aA:List Int)(a7:List Ar):Option (Bool×TFunc×Int×List Int×List Ar):=
 ((Ah (Gb aB) ((0:Int),a4.Params,a4.Ret,a4.Blocks,a9,aA,a7)).bind (fun x16=>(match x16 with|(.inl (l8,i9,l10,i11,l12,l13))=>(some (true,(⟨l8,i9,l10⟩:TFunc),i11,l12,l13))|(.inr r18)=>(some r18))))
theorem Aah(aB:List C1)(a4:TFunc)(a9:Int)(aA:List Int)(a7:List Ar)(r:(Bool×TFunc×Int×List Int×List Ar))(h:Jp aB a4 a9 aA a7=some r):Spec Tryz.prog 141 [(AV.list 6 Nv default aB .none),(.clo 142 [Z60] [])] (Z3 a4.Params a4.Ret a4.Blocks a9 aA a7 a7.length) (.bool r.1) (Z3 r.2.1.Params r.2.1.Ret r.2.1.Blocks r.2.2.1 r.2.2.2.1 r.2.2.2.2 r.2.2.2.2.length):=by
 refine Ac mix Tryz.func141 (fun Γ hq=>?_);unfold Jp at h;refine Af hq Jy Je ?_;refine Af hq Mf Je ?_;obtain⟨x16,hx16,h⟩:=bind_some h;refine gL hq hx16 Mf Je (fun u (i1,l2,i3,l4,i5,l6,l7)=>(Eu u [(9,(Z7 i1))] (Z3 l2 i3 l4 i5 l6 l7 l7.length))) (fun u x_=>match x_ with|(.inl (l8,i9,l10,i11,l12,l13))=>aG Γ (.exit 0) (⟨[],(Z3 l8 i9 l10 i11 l12 l13 l13.length),[]⟩:St)|(.inr r_)=>aR (K_check_all_api_Op Γ aB a4 a9 aA a7 r_)) ?_ ?_
 ·rintro⟨i1,l2,i3,l4,i5,l6,l7⟩ y h;unfold Gb at h;refine Af hq zzN51 Je ?_;refine gC h ?_ ?_<;>intro h
  ·obtain⟨hc14,h⟩:=Aa h;refine gR hq zzN56 [6,30000,37006] [] [] (c1 hc14) ?_;obtain⟨x15,hx15,h⟩:=bind_some h;refine gR hq zzN65 Je [] [(Z63 x15.1 x15.2.1.Params x15.2.1.Ret x15.2.1.Blocks x15.2.2.1 x15.2.2.2.1 x15.2.2.2.2 x15.2.2.2.2.length)] (c1 (Tu (aB.getD i1.toNat default) (⟨l2,i3,l4⟩:TFunc) i5 l6 l7 x15 hx15)) ?_;refine gC h ?_ ?_<;>intro h
   ·refine Af hq [4] Je ?_;cases h;exact gO (L0 (J7 zzN9 (Le.refl _ _)))
   ·refine Af hq Mf Je ?_;cases h;exact gN Cr
  ·cases h;exact gO (Bk (B2 [] Je hq))
 ·clear hx16;rcases x16 with⟨l8,i9,l10,i11,l12,l13⟩|r18
  ·refine gA ?_;refine Af hq [4] Je ?_;cases h;exact Cf zzN9
  ·refine N2 (fun st' hk=>?_);obtain rfl:=OI h;exact gK hk
def Q78(x1:Bool)(x2:(Bool×TFunc×Int×List Int×List Ar))(aA:List Int):AV:=(Z62 x1 x2.2.2.2.1 aA)
def Q77(x1:Bool)(x2:(Bool×TFunc×Int×List Int×List Ar))(a4:TFunc):AV:=(Z62 x1 x2.2.1.Params a4.Params)
def Q76(x1:Bool)(x2:(Bool×TFunc×Int×List Int×List Ar))(a4:TFunc):AV:=(.slice 5 (bif (x1==true) then x2.2.1.Blocks.length else a4.Blocks.length) (fun i=>bif (x1==true) then Iy (x2.2.1.Blocks.getD i default) else Iy (a4.Blocks.getD i default)) .none)
def Ff(aQ:Ad)(a4:TFunc)(a9:Int)(aA:List Int)(a7:List Ar):Option (Bool×TFunc×Int×List Int×List Ar):=
 ((Jb aQ.Phis).bind fun x1=>((bif (x1==true) then Jp aQ.Ops a4 a9 aA a7 else some (false,(default:TFunc),(0:Int),[],[])).bind fun x2=>(some ((bif x1 then x2.1 else false),(⟨(bif (x1==true) then x2.2.1.Params else a4.Params),(bif (x1==true) then x2.2.1.Ret else a4.Ret),(bif (x1==true) then x2.2.1.Blocks else a4.Blocks)⟩:TFunc),(bif (x1==true) then x2.2.2.1 else a9),(bif (x1==true) then x2.2.2.2.1 else aA),(bif (x1==true) then x2.2.2.2.2 else a7)))))
theorem Rs(aQ:Ad)(a4:TFunc)(a9:Int)(aA:List Int)(a7:List Ar)(r:(Bool×TFunc×Int×List Int×List Ar))(h:Ff aQ a4 a9 aA a7=some r):Spec Tryz.prog 111 [Z60,(.agg (Iy aQ))] (Z3 a4.Params a4.Ret a4.Blocks a9 aA a7 a7.length) (.bool r.1) (Z3 r.2.1.Params r.2.1.Ret r.2.1.Blocks r.2.2.1 r.2.2.2.1 r.2.2.2.2 r.2.2.2.2.length):=by
 refine Ac mix Tryz.func111 (fun Γ hq=>?_);unfold Ff at h;refine Af hq Rp zzN95 ?_;obtain⟨x1,hx1,h⟩:=bind_some h;obtain⟨x2,hx2,h⟩:=bind_some h;refine gR hq [4] Je [] [(Z2 x1),(Z63 x2.1 x2.2.1.Params x2.2.1.Ret x2.2.1.Blocks x2.2.2.1 x2.2.2.2.1 x2.2.2.2.2 x2.2.2.2.2.length)] (ci (X7 aQ.Phis x1 hx1) (ci (gI (x1==true)) (ci (gI (x1==true)) (ci (gI (x1==true)) (ci (gI (x1==true)) (ci (fun(hg:(x1==true)=true)=>(Aah aQ.Ops a4 a9 aA a7 x2 (Bg hg hx2))) (c1 (M7 x1)))))))) ?_;cases h;exact gK (e:=.ret) (J7 zzN9 (Le.trans (leB (fun g_ u=>(Eu u [] [(30000,.row 103 [(Q77 x1 x2 a4),(.int .i64 (bif (x1==true) then x2.2.1.Ret else a4.Ret)),(Q76 x1 x2 a4),(.int .i64 (bif (x1==true) then x2.2.2.1 else a9)),(Q78 x1 x2 aA),.nilm,(Z32 g_ x2.2.2.2.2 a7)]),(37006,.tok 5 149 (bif g_ then x2.2.2.2.2.length else a7.length))])) (fun g_ u=>(Eu u [] [(30000,.row 103 [(Q77 x1 x2 a4),(.int .i64 (bif (x1==true) then x2.2.1.Ret else a4.Ret)),(Q76 x1 x2 a4),(.int .i64 (bif (x1==true) then x2.2.2.1 else a9)),(Q78 x1 x2 aA),.nilm,(AV.list 5 Nn default (bif g_ then x2.2.2.2.2 else a7) (.own 37006))]),(37006,.tok 5 149 ((bif g_ then x2.2.2.2.2 else a7).length))])) (x1==true)) (Le.trans (leC 30000 0 (show AVle (Q77 x1 x2 a4) (AV.list 1 Au 0 (bif (x1==true) then x2.2.1.Params else a4.Params) .none) from Ke)) (Le.trans (leC 30000 2 (show AVle (Q76 x1 x2 a4) (AV.list 5 Iy default (bif (x1==true) then x2.2.1.Blocks else a4.Blocks) .none) from Ke)) (leC 30000 4 (show AVle (Q78 x1 x2 aA) (AV.list 1 Au 0 (bif (x1==true) then x2.2.2.2.1 else aA) .none) from Ke))))))
def El(aB:List Ad):(Int×List Int×Int×List Ad×Int×List Int×List Ar)->Option (LR (Int×List Int×Int×List Ad×Int×List Int×List Ar) ((List Int×Int×List Ad×Int×List Int×List Ar) ⊕ (Bool×TFunc×Int×List Int×List Ar))):=
 fun((i1,l2,i3,l4,i5,l6,l7):(Int×List Int×Int×List Ad×Int×List Int×List Ar))=>(bif (decide (i1<(aB.length:Int))) then(A6 (A2 i1 aB.length) ((Ff (aB.getD i1.toNat default) (⟨l2,i3,l4⟩:TFunc) i5 l6 l7).bind fun x15=>(bif (!x15.1) then(some (.done (.inr (false,x15.2.1,x15.2.2.1,x15.2.2.2.1,x15.2.2.2.2)))) else(some (.next ((w64 (i1+1)),x15.2.1.Params,x15.2.1.Ret,x15.2.1.Blocks,x15.2.2.1,x15.2.2.2.1,x15.2.2.2.2)))))) else(some (.done (.inl (l2,i3,l4,i5,l6,l7)))))
def Ws(Γ:Iw)(aB:List Ad)(a4:TFunc)(a9:Int)(aA:List Int)(a7:List Ar)(r:(Bool×TFunc×Int×List Int×List Ar)):Exit->St->Prop:=fK Tryz.prog Γ Tryz.f110.results.toList (Z3 a4.Params a4.Ret a4.Blocks a9 aA a7 a7.length) (.bool r.1) (Z3 r.2.1.Params r.2.1.Ret r.2.1.Blocks r.2.2.1 r.2.2.2.1 r.2.2.2.2 r.2.2.2.2.length)
def Hm(aB:List Ad)(a4:TFunc)(a9:Int)(aA:List Int)(a7:List Ar):Option (Bool×TFunc×Int×List Int×List Ar):=
 ((Ah (El aB) ((0:Int),a4.Params,a4.Ret,a4.Blocks,a9,aA,a7)).bind (fun x16=>(match x16 with|(.inl (l8,i9,l10,i11,l12,l13))=>(some (true,(⟨l8,i9,l10⟩:TFunc),i11,l12,l13))|(.inr r18)=>(some r18))))
theorem Vi(aB:List Ad)(a4:TFunc)(a9:Int)(aA:List Int)(a7:List Ar)(r:(Bool×TFunc×Int×List Int×List Ar))(h:Hm aB a4 a9 aA a7=some r):Spec Tryz.prog 110 [(Z16 aB),(.clo 111 [Z60] [])] (Z3 a4.Params a4.Ret a4.Blocks a9 aA a7 a7.length) (.bool r.1) (Z3 r.2.1.Params r.2.1.Ret r.2.1.Blocks r.2.2.1 r.2.2.2.1 r.2.2.2.2 r.2.2.2.2.length):=by
 refine Ac mix Tryz.func110 (fun Γ hq=>?_);unfold Hm at h;refine Af hq Jy Je ?_;refine Af hq Mf Je ?_;obtain⟨x16,hx16,h⟩:=bind_some h;refine gL hq hx16 Mf Je (fun u (i1,l2,i3,l4,i5,l6,l7)=>(Eu u [(9,(Z7 i1))] (Z3 l2 i3 l4 i5 l6 l7 l7.length))) (fun u x_=>match x_ with|(.inl (l8,i9,l10,i11,l12,l13))=>aG Γ (.exit 0) (⟨[],(Z3 l8 i9 l10 i11 l12 l13 l13.length),[]⟩:St)|(.inr r_)=>aR (Ws Γ aB a4 a9 aA a7 r_)) ?_ ?_
 ·rintro⟨i1,l2,i3,l4,i5,l6,l7⟩ y h;unfold El at h;refine Af hq zzN51 Je ?_;refine gC h ?_ ?_<;>intro h
  ·obtain⟨hc14,h⟩:=Aa h;refine gR hq zzN56 [6,30000,37006] [] [] (c1 hc14) ?_;obtain⟨x15,hx15,h⟩:=bind_some h;refine gR hq zzN65 Je [] [(Z63 x15.1 x15.2.1.Params x15.2.1.Ret x15.2.1.Blocks x15.2.2.1 x15.2.2.2.1 x15.2.2.2.2 x15.2.2.2.2.length)] (c1 (Rs (aB.getD i1.toNat default) (⟨l2,i3,l4⟩:TFunc) i5 l6 l7 x15 hx15)) ?_;refine gC h ?_ ?_<;>intro h
   ·refine Af hq [4] Je ?_;cases h;exact gO (L0 (J7 zzN9 (Le.refl _ _)))
   ·refine Af hq Mf Je ?_;cases h;exact gN Cr
  ·cases h;exact gO (Bk (B2 [] Je hq))
 ·clear hx16;rcases x16 with⟨l8,i9,l10,i11,l12,l13⟩|r18
  ·refine gA ?_;refine Af hq [4] Je ?_;cases h;exact Cf zzN9
  ·refine N2 (fun st' hk=>?_);obtain rfl:=OI h;exact gK hk
def Q79(x1:Bool)(x2:Bool):=((bif x1 then x2 else false)==true)
def Q82(x1:Bool)(x2:Bool)(x3:(Bool×TFunc×Int×List Int×List Ar))(aA:List Int):AV:=(Z15 (Q79 x1 x2) x3.2.2.2.1 aA)
def Q81(x1:Bool)(x2:Bool)(x3:(Bool×TFunc×Int×List Int×List Ar))(a4:TFunc):AV:=(Z15 (Q79 x1 x2) x3.2.1.Params a4.Params)
def Q80(x1:Bool)(x2:Bool)(x3:(Bool×TFunc×Int×List Int×List Ar))(a4:TFunc):AV:=(Z56 (Q79 x1 x2) x3.2.1.Blocks a4.Blocks)
def Hn(a4:TFunc)(a9:Int)(aA:List Int)(a7:List Ar):Option (Int×TFunc×Int×List Int×List Ar):=
 ((L2 a4.Params).bind fun x1=>((bif (x1==true) then Jv a4.Ret else some false).bind fun x2=>((bif ((bif x1 then x2 else false)==true) then Hm a4.Blocks a4 a9 aA a7 else some (false,(default:TFunc),(0:Int),[],[])).bind fun x3=>((K3 (bif (bif x1 then x2 else false) then x3.1 else false) (6:Int)).bind fun x4=>(some (x4,(⟨(bif ((bif x1 then x2 else false)==true) then x3.2.1.Params else a4.Params),(bif ((bif x1 then x2 else false)==true) then x3.2.1.Ret else a4.Ret),(bif ((bif x1 then x2 else false)==true) then x3.2.1.Blocks else a4.Blocks)⟩:TFunc),(bif ((bif x1 then x2 else false)==true) then x3.2.2.1 else a9),(bif ((bif x1 then x2 else false)==true) then x3.2.2.2.1 else aA),(bif ((bif x1 then x2 else false)==true) then x3.2.2.2.2 else a7)))))))
theorem Vj(a4:TFunc)(a9:Int)(aA:List Int)(a7:List Ar)(r:(Int×TFunc×Int×List Int×List Ar))(h:Hn a4 a9 aA a7=some r):Spec Tryz.prog 91 [Z60] (Z3 a4.Params a4.Ret a4.Blocks a9 aA a7 a7.length) (Z7 r.1) (Z3 r.2.1.Params r.2.1.Ret r.2.1.Blocks r.2.2.1 r.2.2.2.1 r.2.2.2.2 r.2.2.2.2.length):=by
 refine Ac mix Tryz.func91 (fun Γ hq=>?_);unfold Hn at h;refine Af hq [0] Je ?_;obtain⟨x1,hx1,h⟩:=bind_some h;obtain⟨x2,hx2,h⟩:=bind_some h;obtain⟨x3,hx3,h⟩:=bind_some h;refine gR hq [3] Je [] [(Z2 x1),(Z2 x2),(Z63 x3.1 x3.2.1.Params x3.2.1.Ret x3.2.1.Blocks x3.2.2.1 x3.2.2.2.1 x3.2.2.2.2 x3.2.2.2.2.length)] (ci (ok_check_all_int a4.Params x1 hx1) (ci (gI (x1==true)) (ci (gI (x1==true)) (ci (gI (x1==true)) (ci (gI (x1==true)) (ci (gI (x1==true)) (ci (fun(hg:(x1==true)=true)=>(Mz a4.Ret x2 (Bg hg hx2))) (ci (M7 x1) (ci (gI (Q79 x1 x2)) (ci (gI (Q79 x1 x2)) (ci (gI (Q79 x1 x2)) (ci (gI (Q79 x1 x2)) (ci (gI (Q79 x1 x2)) (ci (gI (Q79 x1 x2)) (ci (gI (Q79 x1 x2)) (ci (fun(hg:(Q79 x1 x2)=true)=>(Vi a4.Blocks a4 a9 aA a7 x3 (Bg hg hx3))) (c1 (M7 (bif x1 then x2 else false))))))))))))))))))) ?_;refine Or (Le.trans (leB (fun g_ u=>(Eu u [] [(30000,.row 103 [(Q81 x1 x2 x3 a4),(Z68 (Q79 x1 x2) x3.2.1.Ret a4.Ret),(Q80 x1 x2 x3 a4),(Z68 (Q79 x1 x2) x3.2.2.1 a9),(Q82 x1 x2 x3 aA),.nilm,(Z32 g_ x3.2.2.2.2 a7)]),(37006,.tok 5 149 (bif g_ then x3.2.2.2.2.length else a7.length))])) (fun g_ u=>(Eu u [] [(30000,.row 103 [(Q81 x1 x2 x3 a4),(Z68 (Q79 x1 x2) x3.2.1.Ret a4.Ret),(Q80 x1 x2 x3 a4),(Z68 (Q79 x1 x2) x3.2.2.1 a9),(Q82 x1 x2 x3 aA),.nilm,(AV.list 5 Nn default (bif g_ then x3.2.2.2.2 else a7) (.own 37006))]),(37006,.tok 5 149 ((bif g_ then x3.2.2.2.2 else a7).length))])) (Q79 x1 x2)) (Le.trans (leC 30000 0 (show AVle (Q81 x1 x2 x3 a4) (AV.list 1 Au 0 (bif (Q79 x1 x2) then x3.2.1.Params else a4.Params) .none) from Ke)) (Le.trans (leC 30000 2 (show AVle (Q80 x1 x2 x3 a4) (AV.list 5 Iy default (bif (Q79 x1 x2) then x3.2.1.Blocks else a4.Blocks) .none) from Ke)) (leC 30000 4 (show AVle (Q82 x1 x2 x3 aA) (AV.list 1 Au 0 (bif (Q79 x1 x2) then x3.2.2.2.1 else aA) .none) from Ke))))) ?_;obtain⟨x4,hx4,h⟩:=bind_some h;refine gR hq [2] Je [] [(Z19 x4)] (c1 (Wd (bif (bif x1 then x2 else false) then x3.1 else false) (6:Int) x4 hx4)) ?_;cases h;exact Cf zzN9
def Ej(aE:Int):Option (Int×Int):=
 (some (aE,(1:Int)))
theorem L5(aE:Int)(r:(Int×Int))(h:Ej aE=some r):Spec Tryz.prog 112 [(Z7 aE)] [] (.agg (Bp r)) []:=by
 refine Ac mix Tryz.func112 (fun Γ hq=>?_);unfold Ej at h;refine Af hq [0,2] [2] ?_;refine Af hq [2] [2] ?_;cases h;exact Cf []
def Q83:=(fun(v_:Aj)=>((U1 v_):AV))
def Fq(aC:Int)(aa4:(Int×Int))(aH:Jf)(a4:TFunc)(a9:Int)(aA:List Int)(a8:List (Int×Aj))(a7:List Ar):Option (Bool×TFunc×Int×List Int×List Ar×List (Int×Aj)):=
 (bif (bif (bif (Gi a8 aC) then true else(decide (aC<1))) then true else(decide (((1023:Int):Int)<aC))) then(some (false,a4,a9,aA,a7,a8)) else(some (true,a4,a9,aA,a7,(Mu a8 aC (⟨aa4,aH⟩:Aj)))))
theorem Ot(aC:Int)(aa4:(Int×Int))(aH:Jf)(a4:TFunc)(a9:Int)(aA:List Int)(a8:List (Int×Aj))(a7:List Ar)(r:(Bool×TFunc×Int×List Int×List Ar×List (Int×Aj)))(h:Fq aC aa4 aH a4 a9 aA a8 a7=some r):Spec Tryz.prog 143 [Z60,(Z7 aC),(.agg (Bp aa4)),(.agg (eTplace aH))] [(Z1 a4.Params a4.Ret a4.Blocks a9 aA 9100005 a7),(Mj 37006 149 a7.length),(9100005,.obj (.map true .i64 (Et (fun(v_:Aj)=>((U1 v_):AV)) a8)))] (.bool r.1) [(Z1 r.2.1.Params r.2.1.Ret r.2.1.Blocks r.2.2.1 r.2.2.2.1 9100005 r.2.2.2.2.1),(Mj 37006 149 r.2.2.2.2.1.length),(9100005,.obj (.map true .i64 (Et (fun(v_:Aj)=>((U1 v_):AV)) r.2.2.2.2.2)))]:=by
 refine Ac mix Tryz.func143 (fun Γ hq=>?_);unfold Fq at h;refine Af hq [0,1,6,7] zzN61 ?_;refine gR hq [0,1,6,7,10] zzN61 [(17,(.tuple [(Z40 a8 aC),(.bool (Gi a8 aC))]))] [] (c1 (show(AVle (.tuple [H4 (.agg [Pq,Pq,Pq,Pq]) (Et Q83 a8) aC,.bool (Gi (Et Q83 a8) aC)]) (.tuple [(Z40 a8 aC),(.bool (Gi a8 aC))])) from(mlook_le (f:=Q83) (l:=a8) (AVle.refl _) rfl))) ?_;refine gR hq [0,1,6,7,28] zzN61 [] [] (ci (gI ((Gi a8 aC)==false)) (ci (J1 (Gi a8 aC)) (ci (gI ((bif (Gi a8 aC) then true else(decide (aC<1)))==false)) (c1 (J1 (bif (Gi a8 aC) then true else(decide (aC<1)))))))) ?_;refine gC h ?_ ?_<;>intro h
 ·refine Af hq [8] I9 ?_;cases h;exact Cf Aaj
 ·refine Af hq [] I9 ?_;refine Or (Ww (fun(k_:List (Int×AV)) u=>Eu u [] [(9100005,.obj (.map true .i64 k_))]) (show(Mu (Et Q83 a8) aC (.agg [(Z7 aa4.1),(Z7 aa4.2),(Z7 aH.block),(Z7 aH.at_)]))=(Et Q83 (Mu a8 aC (⟨aa4,aH⟩:Aj))) from(mset_eq (f:=Q83) (l:=a8) (v:=(⟨aa4,aH⟩:Aj)) rfl rfl))) ?_;refine Af hq [8] I9 ?_;cases h;exact Cf Aaj
def Na(a1:C1):Option (Int×Int):=
 ((Ol a1).bind fun x1=>(bif (!x1) then(some ((0:Int),(0:Int))) else((Nc a1).bind fun x2=>(some (x2.1,x2.2)))))
theorem ok_kind_Gives(a1:C1)(r:(Int×Int))(h:Na a1=some r):Spec Tryz.prog 144 (Z69 a1) [] (.tuple [(Z7 r.1),(Z7 r.2)]) []:=by
 refine Ac mix Tryz.func144 (fun Γ hq=>?_);unfold Na at h;refine Af hq [1] [1] ?_;obtain⟨x1,hx1,h⟩:=bind_some h;refine gR hq [1,6] [1] [] [(Z2 x1)] (c1 (Yc a1 x1 hx1)) ?_;refine gC h ?_ ?_<;>intro h
 ·refine Af hq F5 [] ?_;cases h;exact Cf []
 ·obtain⟨x2,hx2,h⟩:=bind_some h;refine gR hq F5 [] [] [(Z77 x2.1 x2.2)] (c1 (ok_kind_gives a1 x2 hx2)) ?_;cases h;exact Cf []
end
end Go.Proofs.YtmkiepobhjiabaaGreat
