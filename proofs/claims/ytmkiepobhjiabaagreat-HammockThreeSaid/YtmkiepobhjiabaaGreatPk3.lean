/-
  The machine, the program's functions and the laws' arithmetic: part 3 of 4.
-/
import Derived.Test.YtmkiepobhjiabaaGreatPk2
import Derived.BigCall
import Derived.Lib.RowBridge
import Derived.Shelf.Slices.Clone
import Derived.Shelf.Slices.CompactI
import Derived.Shelf.Slices.In.SortNone
import Derived.Shelf.Sort.Plain
import Derived.Sort.OwnSortedInts
import Derived.Test.YtmkiepobhjiabaaGreatProg
set_option linter.unusedVariables false
set_option linter.unusedSimpArgs false
namespace Go.Proofs.YtmkiepobhjiabaaGreat
noncomputable section
open Go Go.RowKit
def H7{α:Type}(sz:Nat)(e:α->List AV)(d:α)(L:List (List α))(t:Nat->Tag):Nat->List AV:=fun j=>[AV.list sz e d (L.getD j []) (t j)]
def C2(b i k j:Nat):Tag:=bif Nat.beq j i then .own k else .fam b j
def Iq{α:Type}(L:List (List α)):Nat->Option Nat:=fun j=>if j<L.length then some (L.getD j []).length else none
def Ra{α:Type}(L:List (List α))(i:Nat):Nat->Option Nat:=fun j=>if j=i then none else Iq L j
mutual
def AV.free(p:Tag->Bool):AV->Bool
 | .slice _ _ _ t=>p t
 | .clo _ xs ys=>AV.freeAll p xs&&AV.freeAll p ys
 | .agg cs=>AV.freeAll p cs
 | .rpo cs=>AV.freeAll p cs
 | .tuple cs=>AV.freeAll p cs
 | .cond _ x=>x.free p
 | _=>true
def AV.freeAll(p:Tag->Bool):List AV->Bool
 | []=>true
 | x::l=>x.free p&&AV.freeAll p l
end
theorem Ei{p:Tag->Bool}{l:List AV}(h:AV.freeAll p l=true)(j:Nat):(l.getD j .any).free p=true:=by
 induction l generalizing j with
 | nil=>simp[AV.free]
 | cons x l ih=>
  simp only[AV.freeAll,B9]at h
  cases j with
  | zero=>simpa using h.1
  | succ j=>simpa using ih h.2 j
def AObj.Al(P:AV->Prop):AObj->Prop
 | .iter _ _=>True
 | .map _ _ _=>True
 | .pmap _ _ _=>True
 | .miter m _ _=>P m
 | .tab _ l=>∀ i,i<l.length->P (l.getD i (0,.any)).2
theorem AObj.Al.imp{P Q:AV->Prop}{x:AObj}(h:x.Al P)(k:∀ y,P y->Q y):x.Al Q:=by
 cases x with
 | iter=>trivial
 | map=>trivial
 | pmap=>trivial
 | miter=>exact k _ h
 | tab=>exact fun i hi=>k _ (h i hi)
theorem ObjR.al{P:AV->Prop}{I I':Nat->Nat->Prop}{own own':Nat->Option Own}{θ θ':Nat->Option (Nat×Nat)}{w w':World}{o:Obj}{x:AObj}(h:ObjR I own θ w o x)(hx:x.Al P)(hI:∀ b o,I b o->I' b o)(hw:∀ b o,I b o->w'.cell? ⟨b,o,none⟩=w.cell? ⟨b,o,none⟩)(hf:∀ v y,P y->Rep I own θ w v y->Rep I' own' θ' w' v y):ObjR I' own' θ' w' o x:=by
 cases h with
 | iter s p=>exact .iter s p
 | map es nn k l hs hr=>
  refine .map es nn k l hs fun i hi=>?_;obtain⟨v,h1,h2,h3⟩:=hr i hi;exact⟨v,h1,h2.mono hI hw,h3⟩
 | pmap es nn k l0 l hp hk hs hr=>
  refine .pmap es nn k l0 l hp hk hs fun i hi=>?_;obtain⟨v,h1,h2,h3⟩:=hr i hi;exact⟨v,h1,h2.mono hI hw,h3⟩
 | miter r m n c seen hc hr=>exact .miter r m n c seen hc (hf _ _ hx hr)
 | tab es k l hs hr=>exact .tab es k l hs fun i hi=>by obtain⟨v,h1,h2⟩:=hr i hi;exact⟨v,h1,hf _ _ (hx i hi) h2⟩
def Xt(b:Nat):Tag->Bool
 | .fam b' _=>!Nat.beq b' b
 | .own nm=>Nat.blt nm Az
 | _=>true
def Aa1(k:Nat):Tag->Bool
 | .own k'=>!Nat.beq k' k
 | _=>true
def Fr(q:Nat)(x:AV):Prop:=∀(I:Nat->Nat->Prop) (own own':Nat->Option Own) (θ θ':Nat->Option (Nat×Nat)) (w:World) (v:Value),(∃ sz e m,own q=some (.tok sz e m))->
 (∀ nm o,nm≠q->own nm=some o->∃ o',own' nm=some o'/\OwnLe o (θ nm) o' (θ' nm))->Rep I own θ w v x->Rep I own' θ' w v x
theorem fr_of{q:Nat}{p:Tag->Bool}(hp:∀ nm,p (.own nm)=true->nm≠q)(hf:∀ b i,i<Az->p (.fam b i)=true->Ib b i≠q){x:AV}(hx:x.free p=true):Fr q x:=by
 intro I own own' θ θ' w v hq ho h;obtain⟨s0,e0,m0,hq⟩:=hq;have hall:∀ nm o,nm≠q->own nm=some o->∃ o',own' nm=some o'/\OwnLe o (θ nm) o' (θ' nm):=ho
 have hne:∀{nm o},own nm=some o->(∀ sz e m,o≠.tok sz e m)->nm≠q:=fun hn hh=>by
  rintro rfl;rw[hq]at hn;exact hh _ _ _ (OI hn).symm
 induction h with
 | val v x h=>exact .val v x h
 | exact a n sz f h=>exact .exact a n sz f h
 | own nm sz e m a n cap f hn hm hv h=>
  obtain⟨o',ho',hle⟩:=ho nm _ (hp nm hx) hn
  cases o' with
  | tok sz' e' m'=>
   obtain⟨rfl,rfl,hmm,hθ⟩:=hle;refine .own nm _ _ m' a n cap f ho' (I5 hm hmm) (fun he=>?_) h;rw[hθ (by omega)];exact hv (by omega)
  | _=>exact hle.elim
 | fam b i sz e m a n cap f hi hn hm hv h=>
  obtain⟨o',ho',hle⟩:=ho (Ib b i) _ (hf b i hi hx) hn
  cases o' with
  | tok sz' e' m'=>
   obtain⟨rfl,rfl,hmm,hθ⟩:=hle;refine .fam b i _ _ m' a n cap f hi ho' (I5 hm hmm) (fun he=>?_) h;rw[hθ (by omega)];exact hv (by omega)
  | _=>exact hle.elim
 | ptr nm off e cells g c hn hg=>
  obtain⟨o',ho',hle⟩:=ho nm _ (hne hn (fun _ _ _ h=>by cases h)) hn
  cases o' with
  | row e' cells'=>
   have e:θ' nm=θ nm:=hle.2;exact .ptr nm off e' cells' g c ho' (e.trans hg)
  | _=>exact hle.elim
 | vsl nm sz e m f a n cap hn hm hcap hmax hnn hv=>
  obtain⟨o',ho',hle⟩:=ho nm _ (hne hn (fun _ _ _ h=>by cases h)) hn
  cases o' with
  | arr sz' e' m' f'=>
   obtain⟨rfl,rfl,hmm,hθ⟩:=hle;refine .vsl nm _ _ m' f' a n cap ho' (I5 hm hmm) hcap hmax hnn (fun he=>?_);rw[hθ (by omega)];exact hv (by omega)
  | _=>exact hle.elim
 | vpt nm sz e m f n i j ad hn hm hi hv=>
  obtain⟨o',ho',hle⟩:=ho nm _ (hne hn (fun _ _ _ h=>by cases h)) hn
  cases o' with
  | arr sz' e' m' f'=>
   obtain⟨rfl,rfl,hmm,hθ⟩:=hle;refine .vpt nm _ _ m' f' n i j ad ho' (I5 hm hmm) hi (fun he=>?_);rw[hθ (by omega)];exact hv (by omega)
  | _=>exact hle.elim
 | clo f fs cs xs ys hl hl' _ _ ih ih'=>
  simp only[AV.free,B9]at hx;exact .clo f fs cs xs ys hl hl' (fun j hj=>ih j hj (Ei hx.1 j)) (fun j hj=>ih' j hj (Ei hx.2 j))
 | optr nm mm x g c hn hg=>
  obtain⟨o',ho',hle⟩:=ho nm _ (hne hn (fun _ _ _ h=>by cases h)) hn
  cases o' with
  | obj x'=>exact .optr nm mm x' g c ho' (by rw[hle,hg])
  | _=>exact hle.elim
 | omap nm x hn=>
  obtain⟨o',ho',hle⟩:=ho nm _ (hne hn (fun _ _ _ h=>by cases h)) hn
  cases o' with
  | obj x'=>
   have hle:θ' nm=θ nm:=hle;rw[<- hle];exact .omap nm x' ho'
  | _=>exact hle.elim
 | vsub nm sz e m f n lo hi a cap hn hm hlo hhi hcap hmax hnn hv=>
  obtain⟨o',ho',hle⟩:=ho nm _ (hne hn (fun _ _ _ h=>by cases h)) hn
  cases o' with
  | arr sz' e' m' f'=>
   obtain⟨rfl,rfl,hmm,hθ⟩:=hle;refine .vsub nm _ _ m' f' n lo hi a cap ho' (I5 hm hmm) hlo hhi hcap hmax hnn (fun he=>?_);rw[hθ (by omega)];exact hv (by omega)
  | _=>exact hle.elim
 | cond v c x _ h' ih=>exact .cond v c x (fun hc=>ih hc hx) h'
 | agg vs cs hl h1 _ ih=>exact .agg vs cs hl h1 (fun j hj=>ih j hj (Ei hx j))
 | rpo a cells us hs hI' hc h1 _ ih=>exact .rpo a cells us hs hI' hc h1 (fun j hj=>ih j hj (Ei hx j))
 | tuple vs cs hl _ ih=>exact .tuple vs cs hl (fun j hj=>ih j hj (Ei hx j))
theorem fr_fam{b i:Nat}(hi:i<Az){x:AV}(hx:x.free (Xt b)=true):Fr (Ib b i) x:=
 fr_of (p:=Xt b) (fun nm hp he=>by
  have hlt:nm<Az:=by simpa [Xt,Ct] using hp
  rw[he]at hlt
  exact Gc b i hlt) (fun b' i' hi' hp he=>by
  have h1:=Lv (b:=b') hi';rw[he,Lv hi]at h1;subst h1
  simp[Xt]at hp) hx
theorem fr_own{k:Nat}(hk:k<Az){x:AV}(hx:x.free (Aa1 k)=true):Fr k x:=
 fr_of (p:=Aa1 k) (fun nm hp he=>by subst he;simp[Aa1]at hp) (fun b i _ _ he=>by rw[<- he]at hk;exact Gc b i hk) hx
def OwnFr(q:Nat):Own->Prop
 | .row _ cells=>∀ j,j<cells.length->Fr q (cells.getD j .any)
 | .arr sz _ m f=>∀ i j,i<m->j<sz->Fr q ((f i).getD j .any)
 | .obj x=>x.Al (Fr q)
 | .tok ..=>True
theorem Nr{I:Nat->Nat->Prop}{own own':Nat->Option Own}{θ θ':Nat->Option (Nat×Nat)}{w:World}{nm sz m:Nat}{e:TypeId}{f f':Nat->List AV}
  (h:(θ nm=none->m=0)/\∀ g c,θ nm=some (g,c)->∃ cur,w.heap[g]?=some (.cells cur e (0,0))/\m<=c/\c<=maxLen/\cur.size=c*sz /\
   (∀ i,i<m->(f i).length=sz)/\(∀ i j,i<m->j<sz->(cur.getD (i*sz+j) undef).oneCell'=true/\Rep I own θ w (cur.getD (i*sz+j) undef) ((f i).getD j .any))/\∀ j,¬ I g j)
  (hθ:θ' nm=θ nm) (hf:∀ i,i<m->(f' i).length=(f i).length) (hr:∀ i j v,i<m->j<sz->Rep I own θ w v ((f i).getD j .any)->Rep I own' θ' w v ((f' i).getD j .any)) :
  (θ' nm=none->m=0)/\∀ g c,θ' nm=some (g,c)->∃ cur,w.heap[g]?=some (.cells cur e (0,0))/\m<=c/\c<=maxLen/\cur.size=c*sz /\
   (∀ i,i<m->(f' i).length=sz)/\(∀ i j,i<m->j<sz->(cur.getD (i*sz+j) undef).oneCell'=true/\Rep I own' θ' w (cur.getD (i*sz+j) undef) ((f' i).getD j .any))/\∀ j,¬ I g j:=by
 rw[hθ];refine⟨h.1,fun g c hg=>?_⟩;obtain⟨cur,q1,q2,q3,q4,q5,q6,q7⟩:=h.2 g c hg;exact⟨cur,q1,q2,q3,q4,fun i hi=>(hf i hi).trans (q5 i hi),fun i j hi hj=>⟨(q6 i j hi hj).1,hr i j _ hi hj (q6 i j hi hj).2⟩,q7⟩
section
variable {Γ:Du} {σ:Sto} {I:Nat->Nat->Prop} {θ:Nat->Option (Nat×Nat)} {a:Act} {w:World}
theorem Vi(h:Rel Γ σ I θ a w){p q r sz m s1 n:Nat}{e e1:TypeId}{F F':Nat->List AV}(hp:σ.own p=some (.tok sz e m))(hq:σ.own q=none)(hr:σ.own r=some (.arr s1 e1 n F))(hp0:Γ.own0 p=none)
  (hfree:∀ t,Fr p (σ.tmp t)) (hrows:∀ nm o,nm≠r->σ.own nm=some o->OwnFr p o) {own':Nat->Option Own} {θ':Nat->Option (Nat×Nat)}
  (hown:own'=fun x=>if x=q then some (.tok sz e m) else if x=p then none else if x=r then some (.arr s1 e1 n F') else σ.own x)
  (hθ:θ'=fun x=>if x=q then θ p else if x=p then none else θ x)
  (hlen:∀ j,j<n->(F' j).length=(F j).length)
  (hF:∀ j c v,j<n->c<s1->Rep I σ.own θ w v ((F j).getD c .any)->Rep I own' θ' w v ((F' j).getD c .any)) :
  Rel Γ ⟨σ.tmp,own'⟩ I θ' a w:=by
 have hpq:p≠q:=by rintro rfl;rw[hp]at hq;cases hq
 have hpr:p≠r:=by rintro rfl;rw[hp]at hr;cases hr
 have hqr:q≠r:=by rintro rfl;rw[hq]at hr;cases hr
 have hkeep:∀ nm o,nm≠p->σ.own nm=some o->∃ o',own' nm=some o'/\OwnLe o (θ nm) o' (θ' nm):=fun nm o hnp ho=>by
  have hnq:nm≠q:=by rintro rfl;rw[hq]at ho;cases ho
  by_cases hnr:nm=r
  ·subst hnr;rw[hr]at ho;obtain rfl:=OI ho;exact⟨.arr s1 e1 n F',by simp[hown,hnq,hnp],by simp[hθ,hnq,hnp,OwnLe]⟩
  ·exact⟨o,by simp[hown,hnq,hnp,hnr,ho],by simp[hθ,hnq,hnp,OwnLe.refl]⟩
 have hT:∀ v x,Fr p x->Rep I σ.own θ w v x->Rep I own' θ' w v x:=fun v x hx hv=>hx I _ _ _ _ w v ⟨_,_,_,hp⟩ hkeep hv
 have hinv:∀ nm o,nm≠q->nm≠r->own' nm=some o->nm≠p/\σ.own nm=some o/\θ' nm=θ nm:=fun nm o h1 h2 ho=>by
  by_cases h3:nm=p
  ·simp[hown,h3,hpq]at ho
  ·simp[hown,h1,h2,h3]at ho;exact⟨h3,ho,by simp[hθ,h1,h3]⟩
 have hnone:∀ nm,own' nm≠none->∃ nm',σ.own nm'≠none/\θ' nm=θ nm'/\(nm=q->nm'=p)/\(nm≠q->nm'=nm/\nm≠p):=fun nm hn=>by
  by_cases h1:nm=q
  ·exact⟨p,by simp[hp],by simp[hθ,h1],fun _=>rfl,fun h=>(h h1).elim⟩
  ·by_cases h2:nm=r
   ·subst h2;exact⟨nm,by simp[hr],by simp[hθ,h1,Ga hpr],fun h=>(h1 h).elim,fun _=>⟨rfl,Ga hpr⟩⟩
   ·cases hx:own' nm with
    | none=>exact(hn hx).elim
    | some o=>
     obtain⟨h3,h4,h5⟩:=hinv nm o h1 h2 hx;exact⟨nm,by simp[h4],h5,fun h=>(h1 h).elim,fun _=>⟨rfl,h3⟩⟩
 have hq':own' q=some (.tok sz e m):=by simp[hown]
 have hr':own' r=some (.arr s1 e1 n F'):=by simp[hown,Ga hqr,Ga hpr]
 have hrel:=h.chg.rel
 have hθr:θ' r=θ r:=by simp[hθ,Ga hqr,Ga hpr]
 have hθq:θ' q=θ p:=by simp[hθ]
 refine⟨h.size,h.defers,fun t=>hT _ _ (hfree t) (h.slots t),{ h.chg with le:=fun nm o ho=>?_,rel:=⟨fun nm e0 cells ho=>?_,fun nm s' e' m' ho g c hg=>?_,fun nm nm' g c c' ho ho' hg hg'=>?_,fun nm s' e' m' f' ho=>?_,fun nm x ho=>?_,fun nm s' m' ho hnn=>?_⟩,new:=fun nm g c ho hg=>?_ }⟩
 ·obtain⟨o',ho',hl⟩:=h.chg.le nm o ho
  have hnp:nm≠p:=by rintro rfl;rw[hp0]at ho;cases ho
  obtain⟨o'',h1,h2⟩:=hkeep nm o' hnp ho';exact⟨o'',h1,hl.trans h2⟩
 ·replace ho:own' nm=some _:=ho
  have h1:nm≠q:=by rintro rfl;rw[hq']at ho;cases ho
  have h2:nm≠r:=by rintro rfl;rw[hr']at ho;cases ho
  obtain⟨h3,h4,h5⟩:=hinv nm _ h1 h2 ho;obtain⟨g,c,vs,r1,r2,r3,r4,r5,r6⟩:=hrel.row nm e0 cells h4;exact⟨g,c,vs,h5.trans r1,r2,r3,r4,fun j hj=>hT _ _ (hrows nm _ h2 h4 j hj) (r5 j hj),r6⟩
 ·replace ho:own' nm=some _:=ho
  by_cases h1:nm=q
  ·subst h1;rw[hq']at ho;simp only[Ah,Own.tok.injEq]at ho;obtain⟨rfl,rfl,rfl⟩:=ho;exact hrel.tok p _ _ _ hp g c (hθq.symm.trans hg)
  ·have h2:nm≠r:=by rintro rfl;rw[hr']at ho;cases ho
   obtain⟨h3,h4,h5⟩:=hinv nm _ h1 h2 ho;exact hrel.tok nm _ _ _ h4 g c (h5.symm.trans hg)
 ·obtain⟨n1,a1,a2,a3,a4⟩:=hnone nm ho;obtain⟨n2,b1,b2,b3,b4⟩:=hnone nm' ho';have:=hrel.inj n1 n2 g c c' a1 b1 (a2.symm.trans hg) (b2.symm.trans hg')
  by_cases h1:nm=q
  ·by_cases h2:nm'=q
   ·rw[h1,h2]
   ·have:=a3 h1;have:=b4 h2;omega
  ·by_cases h2:nm'=q
   ·have:=a4 h1;have:=b3 h2;omega
   ·have:=a4 h1;have:=b4 h2;omega
 ·replace ho:own' nm=some _:=ho
  have h1:nm≠q:=by rintro rfl;rw[hq']at ho;cases ho
  by_cases h2:nm=r
  ·subst h2;rw[hr']at ho;simp only[Ah,Own.arr.injEq]at ho;obtain⟨rfl,rfl,rfl,rfl⟩:=ho;exact Nr (hrel.arr nm _ _ _ _ hr) hθr hlen hF
  ·obtain⟨h3,h4,h5⟩:=hinv nm _ h1 h2 ho;exact Nr (hrel.arr nm _ _ _ _ h4) h5 (fun _ _=>rfl) (fun i j v hi hj hv=>hT _ _ (hrows nm _ h2 h4 i j hi hj) hv)
 ·replace ho:own' nm=some _:=ho
  have h1:nm≠q:=by rintro rfl;rw[hq']at ho;cases ho
  have h2:nm≠r:=by rintro rfl;rw[hr']at ho;cases ho
  obtain⟨h3,h4,h5⟩:=hinv nm _ h1 h2 ho;exact Em (hrel.obj nm _ h4) h5 (fun _ _ _=>rfl) (fun _ _ _ _ h=>h) (fun _ hh=>hh.al (hrows nm _ h2 h4) (fun _ _ h=>h) (fun _ _ _=>rfl) fun v y hy hv=>hT v y hy hv) Ks
 ·replace ho:own' nm=some _:=ho
  by_cases h1:nm=q
  ·subst h1;rw[hq']at ho;simp only[Ah,Own.tok.injEq]at ho;obtain⟨rfl,he,rfl⟩:=ho;exact hrel.tok8 p _ _ (by rw[hp,he]) (hθq.symm.trans hnn)
  ·have h2:nm≠r:=by rintro rfl;rw[hr']at ho;cases ho
   obtain⟨h3,h4,h5⟩:=hinv nm _ h1 h2 ho;exact hrel.tok8 nm _ _ h4 (h5.symm.trans hnn)
 ·obtain⟨n1,a1,a2,_,_⟩:=hnone nm ho;exact h.chg.new n1 g c a1 (a2.symm.trans hg)
theorem rel_births(h:Rel Γ σ I θ a w){r s1 n:Nat}{e1:TypeId}{F F':Nat->List AV}(hr:σ.own r=some (.arr s1 e1 n F)){S:Nat->Option (Nat×TypeId×Nat)}(hS:∀ x y,S x=some y->σ.own x=none)
  (h8:∀ x sz m,S x=some (sz,Pz,m)->m=0) {own':Nat->Option Own} {θ':Nat->Option (Nat×Nat)}
  (hown:own'=fun x=>match S x with|some y=>some (.tok y.1 y.2.1 y.2.2)|none=>if x=r then some (.arr s1 e1 n F') else σ.own x)
  (hθ:θ'=fun x=>match S x with|some _=>none|none=>θ x) (hlen:∀ j,j<n->(F' j).length=(F j).length)
  (hF:∀ j c v,j<n->c<s1->Rep I σ.own θ w v ((F j).getD c .any)->Rep I own' θ' w v ((F' j).getD c .any)) :
  Rel Γ ⟨σ.tmp,own'⟩ I θ' a w:=by
 have hSn:∀ nm o,σ.own nm=some o->S nm=none:=fun nm o ho=>by
  cases hx:S nm with
  | none=>rfl
  | some y=>rw[hS nm y hx]at ho;cases ho
 have hkeep:∀ nm o,σ.own nm=some o->∃ o',own' nm=some o'/\OwnLe o (θ nm) o' (θ' nm):=fun nm o ho=>by
  have h1:=hSn nm o ho
  by_cases hnr:nm=r
  ·subst hnr;rw[hr]at ho;obtain rfl:=OI ho;exact⟨.arr s1 e1 n F',by simp[hown,h1],by simp[hθ,h1,OwnLe]⟩
  ·exact⟨o,by simp[hown,h1,hnr,ho],by simp[hθ,h1,OwnLe.refl]⟩
 have hT:∀ v x,Rep I σ.own θ w v x->Rep I own' θ' w v x:=fun v x hv=>hv.mono (fun _ _ h=>h) (fun _ _ _=>rfl) hkeep
 have hinv:∀ nm o,own' nm=some o->(∀ sz e m,o≠.tok sz e m)->nm≠r->σ.own nm=some o/\θ' nm=θ nm:=fun nm o ho hn h2=>by
  cases hx:S nm with
  | none=>simp[hown,hx,h2]at ho;exact⟨ho,by simp[hθ,hx]⟩
  | some y=>simp[hown,hx]at ho;exact(hn _ _ _ ho.symm).elim
 have hold:∀ nm g c,own' nm≠none->θ' nm=some (g,c)->σ.own nm≠none/\θ nm=some (g,c):=fun nm g c ho hg=>by
  cases hx:S nm with
  | some y=>simp[hθ,hx]at hg
  | none=>
   simp[hθ,hx]at hg;refine⟨?_,hg⟩
   by_cases h2:nm=r
   ·subst h2;simp[hr]
   ·simpa [hown,hx,h2] using ho
 have hSr:S r=none:=hSn r _ hr
 have hr':own' r=some (.arr s1 e1 n F'):=by simp[hown,hSr]
 have hθr:θ' r=θ r:=by simp[hθ,hSr]
 have hrel:=h.chg.rel;refine⟨h.size,h.defers,fun t=>hT _ _ (h.slots t),{ h.chg with le:=fun nm o ho=>?_,rel:=⟨fun nm e0 cells ho=>?_,fun nm s' e' m' ho g c hg=>?_,fun nm nm' g c c' ho ho' hg hg'=>?_,fun nm s' e' m' f' ho=>?_,fun nm x ho=>?_,fun nm s' m' ho hnn=>?_⟩,new:=fun nm g c ho hg=>?_ }⟩
 ·obtain⟨o',ho',hl⟩:=h.chg.le nm o ho;obtain⟨o'',h1,h2⟩:=hkeep nm o' ho';exact⟨o'',h1,hl.trans h2⟩
 ·replace ho:own' nm=some _:=ho
  have h2:nm≠r:=by rintro rfl;rw[hr']at ho;cases ho
  obtain⟨h4,h5⟩:=hinv nm _ ho (fun _ _ _ h=>by cases h) h2;obtain⟨g,c,vs,r1,r2,r3,r4,r5,r6⟩:=hrel.row nm e0 cells h4;exact⟨g,c,vs,h5.trans r1,r2,r3,r4,fun j hj=>hT _ _ (r5 j hj),r6⟩
 ·replace ho:own' nm=some _:=ho;obtain⟨h1,h2⟩:=hold nm g c (by rw[ho];simp) hg
  cases hx:S nm with
  | some y=>simp[hθ,hx]at hg
  | none=>
   have h3:nm≠r:=by rintro rfl;rw[hr']at ho;cases ho
   simp[hown,hx,h3]at ho;exact hrel.tok nm _ _ _ ho g c h2
 ·obtain⟨a1,a2⟩:=hold nm g c ho hg;obtain⟨b1,b2⟩:=hold nm' g c' ho' hg';exact hrel.inj nm nm' g c c' a1 b1 a2 b2
 ·replace ho:own' nm=some _:=ho
  by_cases h2:nm=r
  ·subst h2;rw[hr']at ho;simp only[Ah,Own.arr.injEq]at ho;obtain⟨rfl,rfl,rfl,rfl⟩:=ho;exact Nr (hrel.arr nm _ _ _ _ hr) hθr hlen hF
  ·obtain⟨h4,h5⟩:=hinv nm _ ho (fun _ _ _ h=>by cases h) h2;exact Nr (hrel.arr nm _ _ _ _ h4) h5 (fun _ _=>rfl) (fun i j v _ _ hv=>hT _ _ hv)
 ·replace ho:own' nm=some _:=ho
  have h2:nm≠r:=by rintro rfl;rw[hr']at ho;cases ho
  obtain⟨h4,h5⟩:=hinv nm _ ho (fun _ _ _ h=>by cases h) h2;exact Em (hrel.obj nm _ h4) h5 (fun _ _ _=>rfl) (fun _ _ _ _ h=>h) (fun _ hh=>hh.mono hT) Ks
 ·replace ho:own' nm=some _:=ho
  cases hx:S nm with
  | some y=>
   simp only[hown,hx,Ah,Own.tok.injEq]at ho;obtain⟨h1,h2,h3⟩:=ho;rw[<- h3];exact h8 nm y.1 y.2.2 (by rw[hx,<- h2])
  | none=>
   have h3:nm≠r:=by rintro rfl;rw[hr']at ho;cases ho
   simp[hown,hx,h3]at ho;simp[hθ,hx]at hnn;exact hrel.tok8 nm _ _ ho hnn
 ·obtain⟨a1,a2⟩:=hold nm g c ho hg;exact h.chg.new nm g c a1 a2
inductive OwnsFr (p:Tag->Bool) (r:Nat):List (Nat×Own)->Prop
 | nil:OwnsFr p r []
 | row {nm:Nat} {e:TypeId} {cells:List AV} {l:List (Nat×Own)} (h:AV.freeAll p cells=true) (t:OwnsFr p r l):OwnsFr p r ((nm,.row e cells)::l)
 | here {o:Own} {l:List (Nat×Own)} (t:OwnsFr p r l):OwnsFr p r ((r,o)::l)
 | arr {nm sz m:Nat} {e:TypeId} {f:Nat->List AV} {l:List (Nat×Own)} (h:∀ j,AV.freeAll p (f j)=true) (t:OwnsFr p r l):OwnsFr p r ((nm,.arr sz e m f)::l)
 | tok {nm sz m:Nat} {e:TypeId} {l:List (Nat×Own)} (t:OwnsFr p r l):OwnsFr p r ((nm,.tok sz e m)::l)
 | obj {nm:Nat} {x:AObj} {l:List (Nat×Own)} (t:OwnsFr p r l) (h:x.Al (fun y=>y.free p=true):=by first|trivial|rfl):OwnsFr p r ((nm,.obj x)::l)
theorem OwnsFr.get{p:Tag->Bool}{r q:Nat}(hp:∀ x:AV,x.free p=true->Fr q x){l:List (Nat×Own)}(h:OwnsFr p r l){nm:Nat}{o:Own}(hn:nm≠r)(ho:Ag l nm=some o):OwnFr q o:=by
 induction h with
 | nil=>cases ho
 | @row k e cells l h _ ih=>
  simp only[Ag]at ho
  cases hb:Nat.beq k nm with
  | true=>rw[hb]at ho;simp only[Aw,Ah]at ho;subst ho;exact fun j _=>hp _ (Ei h j)
  | false=>rw[hb]at ho;exact ih ho
 | @here o' l _ ih=>
  simp only[Ag]at ho
  cases hb:Nat.beq r nm with
  | true=>exact(hn (A5 hb).symm).elim
  | false=>rw[hb]at ho;exact ih ho
 | @arr k sz m e f l h _ ih=>
  simp only[Ag]at ho
  cases hb:Nat.beq k nm with
  | true=>rw[hb]at ho;simp only[Aw,Ah]at ho;subst ho;exact fun i j _ _=>hp _ (Ei (h i) j)
  | false=>rw[hb]at ho;exact ih ho
 | @tok k sz m e l _ ih=>
  simp only[Ag]at ho
  cases hb:Nat.beq k nm with
  | true=>rw[hb]at ho;simp only[Aw,Ah]at ho;subst ho;trivial
  | false=>rw[hb]at ho;exact ih ho
 | @obj k x l _ h ih=>
  simp only[Ag]at ho
  cases hb:Nat.beq k nm with
  | true=>rw[hb]at ho;simp only[Aw,Ah]at ho;subst ho;exact h.imp fun y hy=>hp y hy
  | false=>rw[hb]at ho;exact ih ho
theorem OwnsFr.sto{p:Tag->Bool}{r q:Nat}(hp:∀ x:AV,x.free p=true->Fr q x){st:St}(h:OwnsFr p r st.own){nm:Nat}{o:Own}(hn:nm≠r)(ho:st.sto.own nm=some o):OwnFr q o:=by
 by_cases hlt:nm<Az
 ·exact h.get hp hn ((Au hlt).symm.trans ho)
 ·obtain⟨sz,e,m,rfl⟩:=L0 hlt ho
  trivial
theorem tmps_fr{p:Tag->Bool}{q:Nat}(hp:∀ x:AV,x.free p=true->Fr q x){st:St}(h:st.tmps.all (fun x=>x.2.free p)=true)(t:Nat):Fr q (st.sto.tmp t):=by
 show Fr q (match Ag st.tmps t with|some x=>x|none=>.any)
 cases hx:Ag st.tmps t with
 | none=>exact hp _ rfl
 | some x=>exact hp _ (zzL33.1 h _ (R7 hx))
def remA{α:Type}(l:List (Nat×α))(k:Nat):List (Nat×α):=l.filter fun p=>!Nat.beq p.1 k
theorem look_remA{α:Type}(l:List (Nat×α))(k n:Nat):Ag (remA l k) n=if k=n then none else Ag l n:=by
 induction l with
 | nil=>simp[remA,Ag]
 | cons p l ih=>
  obtain⟨m,x⟩:=p
  have ih':Ag (List.filter (fun p=>!Nat.beq p.1 k) l) n=if k=n then none else Ag l n:=ih
  simp only[remA,List.filter_cons,Ag]
  cases hb:Nat.beq m k with
  | true=>
   have:=A5 hb;subst this;simp only[Abx,Abt,Cg,ih']
   by_cases h:m=n
   ·simp[h]
   ·have:Nat.beq m n=false:=by cases hb:Nat.beq m n with|false=>rfl|true=>exact absurd (A5 hb) h
    simp[h,this]
  | false=>
   simp only[Bool.not_false,Ec,Ag,ih']
   cases hb':Nat.beq m n with
   | true=>
    have:=A5 hb';subst this
    have:k≠m:=by rintro rfl;simp at hb
    simp[this]
   | false=>simp
theorem rep_out{I:Nat->Nat->Prop}{own own':Nat->Option Own}{θ θ':Nat->Option (Nat×Nat)}{w:World}{v:Value}{sz n b i p q m:Nat}{e:TypeId}{f:Nat->List AV}(hv:Rep I own θ w v (.slice sz n f (.fam b i)))(hb:Ib b i=p)(hp:own p=some (.tok sz e m))
  (hq:own' q=some (.tok sz e m)) (hθ:θ' q=θ p):Rep I own' θ' w v (.slice sz n f (.own q)):=by
 cases hv with
 | val v x h=>obtain⟨h,_⟩:=h.slice_inv;cases h
 | fam _ _ _ e' m a n' cap f hi' ho' hm hv' h'=>
  rw[hb]at ho' hv';rw[hp]at ho';simp only[Ah,Own.tok.injEq]at ho';obtain⟨_,rfl,rfl⟩:=ho';exact .own q sz e _ _ _ _ _ hq hm (fun hh=>by rw[hθ];exact hv' hh) h'
theorem Abj{I:Nat->Nat->Prop}{own own':Nat->Option Own}{θ θ':Nat->Option (Nat×Nat)}{w:World}{v:Value}{sz n b i p:Nat}{f:Nat->List AV}(hv:Rep I own θ w v (.slice sz n f (.fam b i)))(hb:Ib b i=p)(ho:i<Az->own' p=own p)(hθ:i<Az->θ' p=θ p):Rep I own' θ' w v (.slice sz n f (.fam b i)):=by
 cases hv with
 | val v x h=>obtain⟨h,_⟩:=h.slice_inv;cases h
 | fam _ _ _ e' m a n' cap f hi' ho' hm hv' h'=>
  rw[hb]at ho' hv';exact .fam b i sz e' m _ _ _ _ hi' (by rw[hb,ho hi'];exact ho') hm (fun hh=>by rw[hb,hθ hi'];exact hv' hh) h'
theorem rep_back{I:Nat->Nat->Prop}{own own':Nat->Option Own}{θ θ':Nat->Option (Nat×Nat)}{w:World}{v:Value}{sz n b i p q m:Nat}{e:TypeId}{f:Nat->List AV}(hv:Rep I own θ w v (.slice sz n f (.own p)))(hb:Ib b i=q)(hi:i<Az)(hp:own p=some (.tok sz e m))
  (hq:own' q=some (.tok sz e m)) (hθ:θ' q=θ p):Rep I own' θ' w v (.slice sz n f (.fam b i)):=by
 cases hv with
 | val v x h=>obtain⟨h,_⟩:=h.slice_inv;cases h
 | own _ _ e' m' a n' cap f ho' hm' hv' h'=>
  rw[hp]at ho';simp only[Ah,Own.tok.injEq]at ho';obtain⟨_,rfl,rfl⟩:=ho';exact .fam b i sz e m _ _ _ _ hi (by rw[hb];exact hq) hm' (fun hh=>by rw[hb,hθ];exact hv' hh) h'
theorem rep_new{I:Nat->Nat->Prop}{own own':Nat->Option Own}{θ θ':Nat->Option (Nat×Nat)}{w:World}{v:Value}{sz n b i q:Nat}{e:TypeId}{f:Nat->List AV}(hv:Rep I own θ w v (.slice sz n f .exact))(hb:Ib b i=q)(hi:i<Az)(hq:own' q=some (.tok sz e n))(hθ:θ' q=none) :
  Rep I own' θ' w v (.slice sz n f (.fam b i)):=by
 cases hv with
 | val v x h=>obtain⟨h,_⟩:=h.slice_inv;cases h
 | exact a n' s' f h'=>exact .fam b i sz e _ _ _ _ _ hi (by rw[hb];exact hq) (Bw _) (fun _=>by rw[hb,hθ]) h'
section
variable {α:Type} {st:St} {r b k n sz:Nat} {e1:TypeId}
theorem row_lt{I:Nat->Nat->Prop}{own:Nat->Option Own}{θ:Nat->Option (Nat×Nat)}{w:World}(h:Dv I own θ w){s1:Nat}{F:Nat->List AV}(hr:own r=some (.arr s1 e1 n F)){i:Nat}(hi:i<n):i<Az:=by
 have hm:maxLen<Az:=by decide
 obtain⟨h1,h2⟩:=h.arr r _ _ _ _ hr
 cases hx:θ r with
 | none=>have:=h1 hx;omega
 | some y=>obtain⟨_,_,h3,h4,_⟩:=h2 y.1 y.2 hx;omega
theorem le_take(enc:α->List AV)(d:α)(L:List (List α))(i:Nat)(e:TypeId)(hr:Ag st.own r=some (.arr 1 e1 n (H7 sz enc d L (Tag.fam b))))(hb:Ag st.fam b=some ⟨sz,e,Iq L⟩)(hk:Ag st.own k=none)(hn:n=L.length)(hi:i<L.length)
  (ht:st.tmps.all (fun x=>x.2.free (Xt b))=true) (ho:OwnsFr (Xt b) r st.own) (hlr:Nat.blt r Az=true:=by rfl) (hlk:Nat.blt k Az=true:=by rfl) :
  Le Γ st ⟨st.tmps,B0 (B0 st.own r (.arr 1 e1 n (H7 sz enc d L (C2 b i k)))) k (.tok sz e (L.getD i []).length),B0 st.fam b ⟨sz,e,Ra L i⟩⟩:=by
 intro I θ a w h
 have hlr:r<Az:=by simpa [Ct] using hlr
 have hlk:k<Az:=by simpa [Ct] using hlk
 have hr':st.sto.own r=some (.arr 1 e1 n (H7 sz enc d L (Tag.fam b))):=(Au hlr).trans hr;have hk':st.sto.own k=none:=(Au hlk).trans hk;have hib:i<Az:=row_lt h.chg.rel hr' (by omega)
 have hp:st.sto.own (Ib b i)=some (.tok sz e (L.getD i []).length):=by
  show Bl _ _ _=_
  rw[Uo hib,hb];simp[Iq,hi]
 have hkb:k≠Ib b i:=fun he=>by rw[he]at hlk;exact Gc b i hlk
 have hrb:r≠Ib b i:=fun he=>by rw[he]at hlr;exact Gc b i hlr
 have hown:(⟨st.tmps,B0 (B0 st.own r (.arr 1 e1 n (H7 sz enc d L (C2 b i k)))) k (.tok sz e (L.getD i []).length),B0 st.fam b ⟨sz,e,Ra L i⟩⟩:St).sto.own =
   fun x=>if x=k then some (.tok sz e (L.getD i []).length) else if x=Ib b i then none else if x=r then some (.arr 1 e1 n (H7 sz enc d L (C2 b i k))) else st.sto.own x:=by
  funext x
  show Bl (B0 (B0 st.own r _) k _) (B0 st.fam b _) x=if x=k then _ else if x=Ib b i then none else if x=r then _ else Bl st.own st.fam x
  by_cases hx:x<Az
  ·have h1:x≠Ib b i:=fun he=>by rw[he]at hx;exact Gc b i hx
   rw[Au hx,Au hx,C9,C9];simp only[Rv (a:=k),Rv (a:=r),h1,Cg]
  ·have h1:x≠k:=by rintro rfl;exact hx hlk
   have h2:x≠r:=by rintro rfl;exact hx hlr
   rw[Bp hx,Bp hx,C9,if_neg h1,if_neg h2]
   by_cases hd:b=x / Az-1
   ·have hxe:=big_of hx;rw[<- hd]at hxe
    by_cases hm:x % Az=i
    ·rw[hm]at hxe;rw[if_pos hd,if_pos hxe,hm];simp[Ra]
    ·have h3:x≠Ib b i:=fun he=>hm (by rw[he,Ka hib]);rw[if_pos hd,if_neg h3,<- hd,hb];simp[Ra,hm]
   ·have h3:x≠Ib b i:=fun he=>hd (by rw[he,Lv hib]);rw[if_neg hd,if_neg h3]
 let θ':Nat->Option (Nat×Nat):=fun x=>if x=k then θ (Ib b i) else if x=Ib b i then none else θ x
 refine⟨I,θ',?_⟩;have hrr:=Vi (θ':=θ') h hp hk' hr' (by cases hx:Γ.own0 (Ib b i) with|none=>rfl|some o=>exact(Gc b i (Γ.lt0 _ (by rw[hx];simp))).elim)
  (fun t=>tmps_fr (fun x hx=>fr_fam hib hx) ht t) (fun nm o hne ho'=>ho.sto (fun x hx=>fr_fam hib hx) hne ho') hown rfl (fun j _=>rfl) (fun j c v hj hc hv=>?_)
 ·exact hrr
 ·obtain rfl:c=0:=by omega
  show Rep I _ θ' w v (.slice sz _ _ (C2 b i k j))
  replace hv:Rep I st.sto.own θ w v (.slice sz (L.getD j []).length (fun i_=>enc ((L.getD j []).getD i_ d)) (.fam b j)):=hv
  cases hji:Nat.beq j i with
  | true=>
   have:=A5 hji;subst this;rw[show C2 b j k j = .own k by simp[C2]];exact rep_out hv rfl hp ((congrFun hown k).trans (if_pos rfl)) (if_pos rfl)
  | false=>
   have hne:j≠i:=by rintro rfl;simp at hji
   rw[show C2 b i k j = .fam b j by simp[C2,hji]];have h3:j<Az->Ib b j≠Ib b i:=fun hi' he=>hne (by rw[<- Ka (b:=b) hi',he,Ka hib])
   have h4:Ib b j≠k:=fun he=>by rw[<- he]at hlk;exact Gc b j hlk
   have h5:Ib b j≠r:=fun he=>by rw[<- he]at hlr;exact Gc b j hlr
   exact Abj hv rfl (fun hi'=>(congrFun hown _).trans ((if_neg h4).trans ((if_neg (h3 hi')).trans (if_neg h5)))) (fun hi'=>(if_neg h4).trans (if_neg (h3 hi')))
theorem le_put(enc:α->List AV)(d:α)(L:List (List α))(i:Nat)(x:List α)(e:TypeId){F:Nat->List AV}{m:Nat}(hr:Ag st.own r=some (.arr 1 e1 n F))(hF:∀ j,j<n->F j=H7 sz enc d (L.set i x) (C2 b i k) j)(hb:Ag st.fam b=some ⟨sz,e,Ra L i⟩)(hk:Ag st.own k=some (.tok sz e m))(hm:m=x.length)(hn:n=L.length)(hi:i<L.length)
  (ht:st.tmps.all (fun x=>x.2.free (Aa1 k))=true) (ho:OwnsFr (Aa1 k) r st.own) (h0:Γ.own0 k=none) (hlr:Nat.blt r Az=true:=by rfl) (hlk:Nat.blt k Az=true:=by rfl) :
  Le Γ st ⟨st.tmps,remA (B0 st.own r (.arr 1 e1 n (H7 sz enc d (L.set i x) (Tag.fam b)))) k,B0 st.fam b ⟨sz,e,Iq (L.set i x)⟩⟩:=by
 intro I θ a w h
 have hlr:r<Az:=by simpa [Ct] using hlr
 have hlk:k<Az:=by simpa [Ct] using hlk
 have hr':st.sto.own r=some (.arr 1 e1 n F):=(Au hlr).trans hr;have hk':st.sto.own k=some (.tok sz e m):=(Au hlk).trans hk;have hib:i<Az:=row_lt h.chg.rel hr' (by omega)
 have hp:st.sto.own (Ib b i)=none:=by
  show Bl _ _ _=_
  rw[Uo hib,hb];simp[Ra]
 have hgi:(L.set i x).getD i []=x:=by simp[List.getD,hi]
 have hgj:∀ j,j≠i->(L.set i x).getD j []=L.getD j []:=fun j hj=>by simp[List.getD,Ga hj]
 have hkr:k≠r:=by rintro rfl;rw[hk]at hr;cases hr
 have hkb:k≠Ib b i:=fun he=>by rw[he]at hlk;exact Gc b i hlk
 have hown:(⟨st.tmps,remA (B0 st.own r (.arr 1 e1 n (H7 sz enc d (L.set i x) (Tag.fam b)))) k,B0 st.fam b ⟨sz,e,Iq (L.set i x)⟩⟩:St).sto.own =
   fun y=>if y=Ib b i then some (.tok sz e m) else if y=k then none else if y=r then some (.arr 1 e1 n (H7 sz enc d (L.set i x) (Tag.fam b))) else st.sto.own y:=by
  funext y
  show Bl (remA (B0 st.own r _) k) (B0 st.fam b _) y=if y=Ib b i then _ else if y=k then none else if y=r then _ else Bl st.own st.fam y
  by_cases hx:y<Az
  ·have h1:y≠Ib b i:=fun he=>by rw[he]at hx;exact Gc b i hx
   rw[Au hx,Au hx,look_remA,C9];simp only[Rv (a:=k),Rv (a:=r),h1,Cg]
  ·have h1:y≠k:=by rintro rfl;exact hx hlk
   have h2:y≠r:=by rintro rfl;exact hx hlr
   rw[Bp hx,Bp hx,C9,if_neg h1,if_neg h2]
   by_cases hd:b=y / Az-1
   ·have hxe:=big_of hx;rw[<- hd]at hxe
    by_cases hm':y % Az=i
    ·rw[hm']at hxe;rw[if_pos hd,if_pos hxe,hm',Om]
     show(Iq (L.set i x) i).map _=_
     simp only[Iq,Di,hi,Ec,hgi,hm,Rs]
    ·have h3:y≠Ib b i:=fun he=>hm' (by rw[he,Ka hib]);rw[if_pos hd,if_neg h3,<- hd,hb];simp only[Om,Ra,hm',Cg,Iq,Di,hgj _ hm']
   ·have h3:y≠Ib b i:=fun he=>hd (by rw[he,Lv hib]);rw[if_neg hd,if_neg h3]
 let θ':Nat->Option (Nat×Nat):=fun y=>if y=Ib b i then θ k else if y=k then none else θ y
 refine⟨I,θ',?_⟩;have hrr:=Vi (θ':=θ') h hk' hp hr' h0 (fun t=>tmps_fr (fun x hx=>fr_own hlk hx) ht t) (fun nm o hne ho'=>ho.sto (fun x hx=>fr_own hlk hx) hne ho') hown rfl
  (fun j hj=>by rw[hF j hj];rfl) (fun j c v hj hc hv=>?_)
 ·exact hrr
 ·obtain rfl:c=0:=by omega
  rw[hF j hj]at hv
  show Rep I _ θ' w v (.slice sz _ _ (.fam b j))
  replace hv:Rep I st.sto.own θ w v (.slice sz ((L.set i x).getD j []).length (fun i_=>enc (((L.set i x).getD j []).getD i_ d)) (C2 b i k j)):=hv
  cases hji:Nat.beq j i with
  | true=>
   have:=A5 hji;subst this;rw[show C2 b j k j = .own k by simp[C2]]at hv;exact rep_back hv rfl hib hk' ((congrFun hown _).trans (if_pos rfl)) (if_pos rfl)
  | false=>
   have hne:j≠i:=by rintro rfl;simp at hji
   rw[show C2 b i k j = .fam b j by simp[C2,hji]]at hv;have h3:j<Az->Ib b j≠Ib b i:=fun hi' he=>hne (by rw[<- Ka (b:=b) hi',he,Ka hib])
   have h4:Ib b j≠k:=fun he=>by rw[<- he]at hlk;exact Gc b j hlk
   have h5:Ib b j≠r:=fun he=>by rw[<- he]at hlr;exact Gc b j hlr
   exact Abj hv rfl (fun hi'=>(congrFun hown _).trans ((if_neg (h3 hi')).trans ((if_neg h4).trans (if_neg h5)))) (fun hi'=>(if_neg (h3 hi')).trans (if_neg h4))
theorem le_birth(enc:α->List AV)(d:α)(L:List (List α))(e:TypeId)(hr:Ag st.own r=some (.arr 1 e1 n (H7 sz enc d L (fun _=>.exact))))(hb:Ag st.fam b=none)(hn:n=L.length)(h8:e=Pz->∀ j,(L.getD j []).length=0)(hlr:Nat.blt r Az=true:=by rfl) :
  Le Γ st ⟨st.tmps,B0 st.own r (.arr 1 e1 n (H7 sz enc d L (Tag.fam b))),B0 st.fam b ⟨sz,e,Iq L⟩⟩:=by
 intro I θ a w h
 have hlr:r<Az:=by simpa [Ct] using hlr
 have hr':st.sto.own r=some (.arr 1 e1 n (H7 sz enc d L (fun _=>.exact))):=(Au hlr).trans hr
 let S:Nat->Option (Nat×TypeId×Nat):=fun x=>if x<Az then none else if b=x / Az-1 then(Iq L (x % Az)).map fun m=>(sz,e,m) else none
 have hown:(⟨st.tmps,B0 st.own r (.arr 1 e1 n (H7 sz enc d L (Tag.fam b))),B0 st.fam b ⟨sz,e,Iq L⟩⟩:St).sto.own =
   fun x=>match S x with|some y=>some (.tok y.1 y.2.1 y.2.2)|none=>if x=r then some (.arr 1 e1 n (H7 sz enc d L (Tag.fam b))) else st.sto.own x:=by
  funext x
  show Bl (B0 st.own r _) (B0 st.fam b _) x=match S x with|some y=>_|none=>if x=r then _ else Bl st.own st.fam x
  by_cases hx:x<Az
  ·have:S x=none:=by simp[S,hx]
   rw[Au hx,Au hx,C9,this];simp only[Rv (a:=r)]
  ·have h2:x≠r:=by rintro rfl;exact hx hlr
   rw[Bp hx,Bp hx,C9]
   by_cases hd:b=x / Az-1
   ·have:S x=(Iq L (x % Az)).map fun m=>(sz,e,m):=by simp only[S,hx,Cg,if_pos hd]
    rw[if_pos hd,this,if_neg h2,<- hd,hb];simp only[Om]
    cases Iq L (x % Az)<;>rfl
   ·have:S x=none:=by simp only[S,hx,Cg,if_neg hd]
    rw[if_neg hd,this,if_neg h2]
 have hS:∀ x y,S x=some y->st.sto.own x=none:=fun x y hx=>by
  by_cases h1:x<Az
  ·simp[S,h1]at hx
  ·by_cases hd:b=x / Az-1
   ·show Bl _ _ x=none
    rw[Bp h1,<- hd,hb];rfl
   ·simp only[S,h1,Cg,if_neg hd]at hx;cases hx
 refine⟨I,_,rel_births h hr' hS (fun x s m hx=>?_) hown rfl (fun j _=>rfl) (fun j c v hj hc hv=>?_)⟩
 ·by_cases h1:x<Az
  ·simp[S,h1]at hx
  ·by_cases hd:b=x / Az-1
   ·simp only[S,h1,Cg,if_pos hd]at hx;obtain⟨m',hm',he⟩:=zzL54.1 hx;simp only[Bv]at he;obtain⟨_,he,rfl⟩:=he;unfold Iq at hm'
    split at hm'
    ·simp only[Ah]at hm';rw[<- hm'];exact h8 he _
    ·cases hm'
   ·simp only[S,h1,Cg,if_neg hd]at hx;cases hx
 ·obtain rfl:c=0:=by omega
  have hjb:j<Az:=row_lt h.chg.rel hr' hj;replace hv:Rep I st.sto.own θ w v (.slice sz (L.getD j []).length (fun i_=>enc ((L.getD j []).getD i_ d)) .exact):=hv
  show Rep I _ _ w v (.slice sz (L.getD j []).length (fun i_=>enc ((L.getD j []).getD i_ d)) (.fam b j))
  have hSj:S (Ib b j)=some (sz,e,(L.getD j []).length):=by
   simp only[S,Gc b j,Cg,Lv hjb,Ec,Ka hjb,Iq];rw[if_pos (by omega)];rfl
  exact rep_new hv rfl hjb ((congrFun hown _).trans (by rw[hSj])) (by rw[hSj])
end
end
theorem av_famtag{α:Type}{sz b i k:Nat}{e:α->List AV}{d:α}{l:List α}:AVle (AV.list sz e d l (C2 b i k i)) (AV.list sz e d l (.own k)):=by
 have:C2 b i k i = .own k:=by simp[C2]
 rw[this];exact AVle.refl _
theorem putF_fam{α:Type}{sz b i k k0:Nat}{e:α->List AV}{d:α}{L:List (List α)}{x:List α}{n:Nat}{keep:Nat->Bool}(hi:i<L.length)(hk:keep k=true)(hb:keep b=true) :
  ∀ j,j<n->AV.eraseAll keep (G1 (H7 sz e d L (C2 b i k0)) i 0 [AV.list sz e d x (.own k)] j)=H7 sz e d (L.set i x) (C2 b i k) j:=fun j _=>by
 unfold G1
 cases hji:Nat.beq j i with
 | true=>
  have:=A5 hji;subst this;simp[H7,AV.eraseAll,AV.erase,AV.list,C2,hk,List.getD,hi]
 | false=>
  have hne:i≠j:=by rintro rfl;simp at hji
  simp[H7,AV.eraseAll,AV.erase,AV.list,C2,hji,hb,List.getD,hne]
theorem fam_zero{α:Type}{sz n:Nat}{e:α->List AV}{d:α}{keep:Nat->Bool}:∀ k,k<n->AVleL (AV.eraseAll keep [.slice 0 0 (fun _=>[]) .exact]) (H7 sz e d (List.replicate n []) (fun _=>.exact) k):=fun k hk=>by
 have:(List.replicate n ([]:List α)).getD k []=[]:=by simp[List.getD,hk]
 unfold H7;rw[this];exact .cons Cl .nil
def subN{α:Type}(d:α)(l:List α)(lo k:Nat):List α:=(List.range k).map fun i=>l.getD (lo+i) d
mutual
def AV.freeN(r:Nat):AV->Bool
 | .vsl nm _=>!Nat.beq nm r
 | .vpt nm _ _ _=>!Nat.beq nm r
 | .vsub nm _ _ _=>!Nat.beq nm r
 | .clo _ xs ys=>AV.freeNAll r xs&&AV.freeNAll r ys
 | .agg cs=>AV.freeNAll r cs
 | .rpo cs=>AV.freeNAll r cs
 | .tuple cs=>AV.freeNAll r cs
 | .cond _ x=>x.freeN r
 | _=>true
def AV.freeNAll(r:Nat):List AV->Bool
 | []=>true
 | x::l=>x.freeN r&&AV.freeNAll r l
end
theorem C5{r:Nat}{l:List AV}(h:AV.freeNAll r l=true)(j:Nat):(l.getD j .any).freeN r=true:=by
 induction l generalizing j with
 | nil=>simp[AV.freeN]
 | cons x l ih=>
  simp only[AV.freeNAll,B9]at h
  cases j with
  | zero=>simpa using h.1
  | succ j=>simpa using ih h.2 j
theorem rep_freeN{I:Nat->Nat->Prop}{own own':Nat->Option Own}{θ:Nat->Option (Nat×Nat)}{w:World}{v:Value}{x:AV}{r:Nat}(h:Rep I own θ w v x)(hx:x.freeN r=true)(hr:∃ sz e m f,own r=some (.arr sz e m f))
  (ho:∀ nm,nm≠r->own' nm=own nm):Rep I own' θ w v x:=by
 obtain⟨s0,e0,m0,f0,hr⟩:=hr
 have hne:∀{nm o},own nm=some o->(∀ sz e m f,o≠.arr sz e m f)->own' nm=some o:=fun{nm o} hn hh=>by
  rw[ho nm (by rintro rfl;rw[hr]at hn;exact hh _ _ _ _ (OI hn).symm)];exact hn
 have hbq:∀{nm:Nat},(!Nat.beq nm r)=true->nm≠r:=fun h e=>by subst e;simp at h
 induction h with
 | val v x h=>exact .val v x h
 | exact a n sz f h=>exact .exact a n sz f h
 | own nm sz e m a n cap f hn hm hv h=>exact .own nm sz e m a n cap f (hne hn (fun _ _ _ _ h=>by cases h)) hm hv h
 | fam b i sz e m a n cap f hi hn hm hv h=>exact .fam b i sz e m a n cap f hi (hne hn (fun _ _ _ _ h=>by cases h)) hm hv h
 | ptr nm off e cells g c hn hg=>exact .ptr nm off e cells g c (hne hn (fun _ _ _ _ h=>by cases h)) hg
 | vsl nm sz e m f a n cap hn hm hcap hmax hnn hv=>exact .vsl nm sz e m f a n cap ((ho nm (hbq hx)).trans hn) hm hcap hmax hnn hv
 | vpt nm sz e m f n i j ad hn hm hi hv=>exact .vpt nm sz e m f n i j ad ((ho nm (hbq hx)).trans hn) hm hi hv
 | clo f fs cs xs ys hl hl' _ _ ih ih'=>
  simp only[AV.freeN,B9]at hx;exact .clo f fs cs xs ys hl hl' (fun j hj=>ih j hj (C5 hx.1 j)) (fun j hj=>ih' j hj (C5 hx.2 j))
 | optr nm mm x g c hn hg=>exact .optr nm mm x g c (hne hn (fun _ _ _ _ h=>by cases h)) hg
 | omap nm x hn=>exact .omap nm x (hne hn (fun _ _ _ _ h=>by cases h))
 | vsub nm sz e m f n lo hi a cap hn hm hlo hhi hcap hmax hnn hv=>exact .vsub nm sz e m f n lo hi a cap ((ho nm (hbq hx)).trans hn) hm hlo hhi hcap hmax hnn hv
 | cond v c x _ h' ih=>exact .cond v c x (fun hc=>ih hc hx) h'
 | agg vs cs hl h1 _ ih=>exact .agg vs cs hl h1 (fun j hj=>ih j hj (C5 hx j))
 | rpo a cells us hs hI' hc h1 _ ih=>exact .rpo a cells us hs hI' hc h1 (fun j hj=>ih j hj (C5 hx j))
 | tuple vs cs hl _ ih=>exact .tuple vs cs hl (fun j hj=>ih j hj (C5 hx j))
inductive OwnsFrN (r:Nat):List (Nat×Own)->Prop
 | nil:OwnsFrN r []
 | row {nm:Nat} {e:TypeId} {cells:List AV} {l:List (Nat×Own)} (h:AV.freeNAll r cells=true) (t:OwnsFrN r l):OwnsFrN r ((nm,.row e cells)::l)
 | arr {nm sz m:Nat} {e:TypeId} {f:Nat->List AV} {l:List (Nat×Own)} (h:∀ j,AV.freeNAll r (f j)=true) (t:OwnsFrN r l):OwnsFrN r ((nm,.arr sz e m f)::l)
 | tok {nm sz m:Nat} {e:TypeId} {l:List (Nat×Own)} (t:OwnsFrN r l):OwnsFrN r ((nm,.tok sz e m)::l)
 | obj {nm:Nat} {x:AObj} {l:List (Nat×Own)} (t:OwnsFrN r l) (h:x.Al (fun y=>y.freeN r=true):=by first|trivial|rfl):OwnsFrN r ((nm,.obj x)::l)
def OwnN(r:Nat):Own->Prop
 | .row _ cells=>AV.freeNAll r cells=true
 | .arr _ _ _ f=>∀ j,AV.freeNAll r (f j)=true
 | .obj x=>x.Al (fun y=>y.freeN r=true)
 | .tok ..=>True
theorem OwnsFrN.get{r:Nat}{l:List (Nat×Own)}(h:OwnsFrN r l){nm:Nat}{o:Own}(ho:Ag l nm=some o):OwnN r o:=by
 induction h with
 | nil=>cases ho
 | @row k e cells l h _ ih=>
  simp only[Ag]at ho
  cases hb:Nat.beq k nm with
  | true=>rw[hb]at ho;simp only[Aw,Ah]at ho;subst ho;exact h
  | false=>rw[hb]at ho;exact ih ho
 | @arr k sz m e f l h _ ih=>
  simp only[Ag]at ho
  cases hb:Nat.beq k nm with
  | true=>rw[hb]at ho;simp only[Aw,Ah]at ho;subst ho;exact h
  | false=>rw[hb]at ho;exact ih ho
 | @tok k sz m e l _ ih=>
  simp only[Ag]at ho
  cases hb:Nat.beq k nm with
  | true=>rw[hb]at ho;simp only[Aw,Ah]at ho;subst ho;trivial
  | false=>rw[hb]at ho;exact ih ho
 | @obj k x l _ h ih=>
  simp only[Ag]at ho
  cases hb:Nat.beq k nm with
  | true=>rw[hb]at ho;simp only[Aw,Ah]at ho;subst ho;exact h
  | false=>rw[hb]at ho;exact ih ho
theorem Aap{Γ:Du}{st:St}{t r s n k:Nat}{e:TypeId}{f:Nat->List AV}(hs:st.get t = .vsub r n 0 k)(hr:Ag st.own r=some (.arr s e n f))(hk:k<=n)
  (ht:(st.tmps.all fun x=>Nat.beq x.1 t || x.2.freeN r)=true) (ho:OwnsFrN r st.own) (h0:Γ.own0 r=none) (hlt:Nat.blt r Az=true:=by rfl) (hB:arrB e=false:=by rfl) :
  Le Γ st ⟨B0 st.tmps t (.vsl r k),B0 st.own r (.arr s e k f),st.fam⟩:=by
 intro I θ a w h
 have hlt:r<Az:=by simpa [Ct] using hlt
 have hr':st.sto.own r=some (.arr s e n f):=(Au hlt).trans hr
 have hown:(⟨B0 st.tmps t (.vsl r k),B0 st.own r (.arr s e k f),st.fam⟩:St).sto.own=Ap st.sto.own r (.arr s e k f):=by
  funext x
  show Bl (B0 st.own r _) _ x=_
  rw[Eb hlt];simp only[Ap]
  by_cases hx:r=x
  ·subst hx;simp
  ·simp[hx,Ga hx];rfl
 have hsame:∀ nm,nm≠r->Ap st.sto.own r (.arr s e k f) nm=st.sto.own nm:=fun nm hn=>by simp[Ap,hn]
 have hT:∀ v x,x.freeN r=true->Rep I st.sto.own θ w v x->Rep I (Ap st.sto.own r (.arr s e k f)) θ w v x:=fun v x hx hv=>rep_freeN hv hx ⟨_,_,_,_,hr'⟩ hsame;have hrel:=h.chg.rel
 have hrows:∀ nm o,st.sto.own nm=some o->OwnN r o:=fun nm o hn=>by
  by_cases hl:nm<Az
  ·exact ho.get ((Au hl).symm.trans hn)
  ·obtain⟨_,_,_,rfl⟩:=L0 hl hn;trivial
 have hget:∀ t',(⟨B0 st.tmps t (.vsl r k),B0 st.own r (.arr s e k f),st.fam⟩:St).sto.tmp t'=if t=t' then .vsl r k else st.get t':=fun t'=>by
  show(match Ag (B0 st.tmps t _) t' with|some x=>x|none=>.any)=_
  rw[C9]
  by_cases hk:t=t'
  ·simp[hk]
  ·simp[hk];rfl
 refine⟨I,θ,h.size,h.defers,fun t'=>?_,?_⟩
 ·rw[hown,hget]
  split
  ·rename_i htt
   subst htt;have hv:=h.slots t
   have hv':Rep I st.sto.own θ w (a.tmps.getD t undef) (.vsub r n 0 k):=by rw[<- hs];exact hv
   obtain⟨sz,e',m,f',ad,cap,he,ho',hm,_,hhi,hcap,hmax,hn,hvv⟩:=hv'.vsub_inv;rw[hr']at ho';simp only[Ah,Own.arr.injEq]at ho';obtain⟨rfl,rfl,rfl,rfl⟩:=ho';rw[he];refine .vsl r s e k f ad _ cap (by simp[Ap]) (Bw _) hcap hmax hn (fun _=>?_);have hz:=(hvv rfl).2 rfl
   cases hθ:θ r with
   | none=>rw[hθ]at hz;have:=(hrel.arr r _ _ _ _ hr').1 hθ;simp only at hz ⊢;omega
   | some gc=>rw[hθ]at hz;exact⟨hz.1,hz.2.resolve_right (by rw[hB];decide)⟩
  ·rename_i htt
   have hx:(st.get t').freeN r=true:=by
    unfold St.get
    cases hl:Ag st.tmps t' with
    | none=>rfl
    | some x=>
     have:=zzL33.1 ht _ (R7 hl);simp only[Vx]at this;rcases this with h'|h'
     ·exact(htt (A5 h').symm).elim
     ·exact h'
   exact hT _ _ hx (h.slots t')
 ·rw[hown];refine{ h.chg with le:=fun nm o hno=>?_,rel:=⟨fun nm e0 cells hn=>?_,fun nm s' e' m' hn g c hg=>?_,fun nm nm' g c c' hn hn' hg hg'=>?_,fun nm s' e' m' f' hn=>?_,fun nm x hn=>?_,fun nm s' m' hn hnn=>?_⟩,new:=fun nm g c hn hg=>?_ }
  ·obtain⟨o',ho',hl⟩:=h.chg.le nm o hno;exact⟨o',(hsame nm (by rintro rfl;rw[h0]at hno;cases hno)).trans ho',hl⟩
  ·have hne:nm≠r:=by rintro rfl;simp[Ap]at hn
   rw[hsame nm hne]at hn;obtain⟨g,c,vs,r1,r2,r3,r4,r5,r6⟩:=hrel.row nm e0 cells hn;exact⟨g,c,vs,r1,r2,r3,r4,fun j hj=>hT _ _ (C5 (hrows nm _ hn) j) (r5 j hj),r6⟩
  ·have hne:nm≠r:=by rintro rfl;simp[Ap]at hn
   rw[hsame nm hne]at hn;exact hrel.tok nm _ _ _ hn g c hg
  ·have hx:∀ nm,Ap st.sto.own r (.arr s e k f) nm≠none->st.sto.own nm≠none:=fun nm hn=>by
    by_cases hne:nm=r
    ·subst hne;rw[hr'];simp
    ·rwa[hsame nm hne]at hn
   exact hrel.inj nm nm' g c c' (hx nm hn) (hx nm' hn') hg hg'
  ·by_cases hne:nm=r
   ·subst hne;simp only[Ap,Ec,Ah,Own.arr.injEq]at hn;obtain⟨rfl,rfl,rfl,rfl⟩:=hn;obtain⟨q0,q1⟩:=hrel.arr nm _ _ _ _ hr';refine⟨fun hθ=>by have:=q0 hθ;omega,fun g c hg=>?_⟩;obtain⟨cur,p1,p2,p3,p4,p5,p6,p7⟩:=q1 g c hg;exact⟨cur,p1,by omega,p3,p4,fun i hi=>p5 i (by omega),fun i j hi hj=>⟨(p6 i j (by omega) hj).1,hT _ _ (C5 (hrows nm _ hr' i) j) (p6 i j (by omega) hj).2⟩,p7⟩
   ·rw[hsame nm hne]at hn;exact Nr (hrel.arr nm _ _ _ _ hn) rfl (fun _ _=>rfl) (fun i j v _ _ hv=>hT _ _ (C5 (hrows nm _ hn i) j) hv)
  ·have hne:nm≠r:=by rintro rfl;simp[Ap]at hn
   rw[hsame nm hne]at hn;exact Em (hrel.obj nm _ hn) rfl (fun _ _ _=>rfl) (fun _ _ _ _ h=>h) (fun _ hh=>hh.al (P:=fun y=>y.freeN r=true) (hrows nm _ hn) (fun _ _ h=>h) (fun _ _ _=>rfl) fun v y hy hv=>hT v y hy hv) Ks
  ·have hne:nm≠r:=by rintro rfl;simp[Ap]at hn
   rw[hsame nm hne]at hn;exact hrel.tok8 nm _ _ hn hnn
  ·have hx:st.sto.own nm≠none:=by
    by_cases hne:nm=r
    ·subst hne;rw[hr'];simp
    ·rwa[hsame nm hne]at hn
   exact h.chg.new nm g c hx hg
theorem take_le{α:Type}{e:α->List AV}{d:α}{l:List α}{k:Nat}:∀ i,i<0+k->AVleL (e (l.getD i d)) (e ((l.take k).getD i d)):=fun i hi=>by
 have:(l.take k).getD i d=l.getD i d:=by simp[List.getD,show i<k by omega]
 rw[this];exact .refl _
theorem Abo{α:Type}{l:List α}{k:Nat}(h:0+k<=l.length):0+k=(l.take k).length:=by simp;omega
theorem pw_nil{f g:Nat->List AV}:∀ k,k<0->f k=g k:=fun _ h=>by omega
theorem pw_snoc{n:Nat}{f g:Nat->List AV}(h:∀ k,k<n->f k=g k)(h':f n=g n):∀ k,k<n+1->f k=g k:=fun k hk=>by
 by_cases hkn:k=n
 ·subst hkn;exact h'
 ·exact h k (by omega)
theorem pwl_nil{f g:Nat->List AV}:∀ k,k<0->AVleL (f k) (g k):=fun _ h=>by omega
theorem Vh{n:Nat}{f g:Nat->List AV}(h:∀ k,k<n->AVleL (f k) (g k))(h':AVleL (f n) (g n)):∀ k,k<n+1->AVleL (f k) (g k):=fun k hk=>by
 by_cases hkn:k=n
 ·subst hkn;exact h'
 ·exact h k (by omega)
theorem W8{α:Type}{keep:Nat->Bool}{e:α->List AV}{d:α}{z:List AV}{N sz:Nat}(hz:z.length=sz)(h:z=e d)(hk:AV.eraseAll keep z=z):∀ k,k<N->AVleL (AV.eraseAll keep ((((List.replicate N z).flatten).drop (k*sz)).take sz)) (e ((List.replicate N d).getD k d)):=fun k hk'=>by
 have:(List.replicate N d).getD k d=d:=by simp[List.getD,hk']
 rw[Aak z sz hz N k hk',this,hk,h];exact .refl _
section
variable {α:Type} {g:Bool} {a b:List α}
theorem bif_len:(bif g then a.length else b.length)=(bif g then a else b).length:=by cases g<;>rfl
theorem bif_row{e:α->List AV}{d:α}{k:Nat}:(bif g then e (a.getD k d) else e (b.getD k d))=e ((bif g then a else b).getD k d):=by cases g<;>rfl
theorem bif_was(h:g=true->b.length=a.length):b.length=(bif g then a else b).length:=by
 cases g with
 | false=>rfl
 | true=>exact h rfl
end
abbrev Bu{V:Type}(f:V->AV)(l:List (Int×V)):List (Int×AV):=l.map fun p=>(p.1,f p.2)
section
variable {V:Type} {f:V->AV} {l:List (Int×V)} {r:List (Int×AV)} {k:Int}
theorem Xr(k:Int):∀ l:List (Int×V),Cx (Bu f l) k=Cx l k
 | []=>rfl
 | (a,b)::l=>by
  simp only[Bu,Bh,Cx];rw[<- Xr k l]
theorem Xs(k:Int)(v:V):∀ l:List (Int×V),H5 (Bu f l) k (f v)=Bu f (H5 l k v)
 | []=>rfl
 | (a,b)::l=>by
  simp only[Bu,Bh,H5]
  cases k==a with
  | true=>rfl
  | false=>
   simp only[D8,Bh];exact Bm _ (Xs k v l)
theorem Y5{z:V}{zz:AV}(hz:AVle zz (f z))(hr:r=Bu f l):AVle (Ds zz r k) (f (Ds z l k)):=by
 subst hr
 induction l with
 | nil=>exact hz
 | cons p l ih=>
  obtain⟨a,b⟩:=p;simp only[Bu,Bh,Ds]
  cases k==a with
  | true=>exact AVle.refl _
  | false=>exact ih
theorem Aaz{z:V}{zz:AV}(hz:AVle zz (f z))(hr:r=Bu f l):AVle (.tuple [Ds zz r k,.bool (Cx r k)]) (.tuple [f (Ds z l k),.bool (Cx l k)]):=by
 have h:=Y5 (k:=k) hz hr;subst hr;rw[Xr];exact AVle.tuple (.cons h (.cons (AVle.refl _) .nil))
theorem mset_eq{v:V}{x:AV}(hx:x=f v)(hr:r=Bu f l):H5 r k x=Bu f (H5 l k v):=by
 subst hr hx;exact Xs k v l
theorem bif_mapE{g:Bool}{a b:List (Int×V)}{ra rb:List (Int×AV)}(ha:ra=Bu f a)(hb:rb=Bu f b):(bif g then ra else rb)=Bu f (bif g then a else b):=by
 subst ha hb
 cases g<;>rfl
end
theorem le_obj{Γ:Du}{st:St}{nm:Nat}{x:AObj}(y:AObj)(hn:Ag st.own nm=some (.obj x))(hxy:∀ I own θ w,So I own θ w nm x->So I own θ w nm y)(hlt:Nat.blt nm Az=true:=by rfl) :
  Le Γ st ⟨st.tmps,B0 st.own nm (.obj y),st.fam⟩:=by
 intro I θ a w h
 have hlt:nm<Az:=by simpa [Ct] using hlt
 have hn:st.sto.own nm=some (.obj x):=(Au hlt).trans hn
 have hown:(⟨st.tmps,B0 st.own nm (.obj y),st.fam⟩:St).sto.own=Ap st.sto.own nm (.obj y):=by
  funext k
  show Bl (B0 st.own nm _) _ k=_
  rw[Eb hlt];simp only[Ap]
  by_cases hk:nm=k
  ·subst hk;simp
  ·simp[hk,Ga hk];rfl
 have hle:∀ k o,st.sto.own k=some o->∃ o',Ap st.sto.own nm (.obj y) k=some o'/\OwnLe o (θ k) o' (θ k):=fun k o ho=>by
  by_cases hk:k=nm
  ·subst hk;rw[hn]at ho;obtain rfl:=OI ho;exact⟨.obj y,by simp[Ap],rfl⟩
  ·exact⟨o,by simp[Ap,hk,ho],OwnLe.refl _ _⟩
 have hrel:=h.chg.rel;have hmono:∀ v z,Rep I st.sto.own θ w v z->Rep I (Ap st.sto.own nm (.obj y)) θ w v z:=fun v z hz=>hz.mono (fun _ _ h=>h) (fun _ _ _=>rfl) hle
 have k:Chg st.sto.own θ I w (Ap st.sto.own nm (.obj y)) θ I w:=by
  refine{ imm:=fun _ _ h=>h,cell:=fun _ _ _=>rfl,le:=hle,rel:=?_,valid:=h.chg.valid,os:=rfl,tape:=rfl,output:=rfl,drawn:=fun _=>Bw _,grow:=Bw _,frame:=fun _ _ _=>rfl,new:=fun k g c ho hg=>?_,immNew:=fun b o h=>.inl h }
  ·refine Fv hrel (·=nm) hmono (fun k hne=>⟨by simp[Ap,hne],rfl⟩) (fun k g c hne ho hg=>⟨rfl,fun j h=>h⟩) ?_ ?_ ?_ (fun _ _ h h'=>h.trans h'.symm) (hobj:=?_)
   ·rintro k e' cells rfl ho;simp[Ap]at ho
   ·rintro k sz e' m rfl ho;simp[Ap]at ho
   ·rintro k k' g c c' rfl hne _ ho' hg hg';exact hne (hrel.inj k' k _ _ _ ho' (by simp[hn]) hg' hg)
   ·rintro k z rfl ho;simp only[Ap,Ec,Ah,Own.obj.injEq]at ho;subst ho;exact Em (hxy _ _ _ _ (hrel.obj k x hn)) rfl (fun _ _ _=>rfl) (fun _ _ _ _ h=>h) (fun _ hh=>hh.mono hmono) Ks
  ·by_cases hk:k=nm
   ·subst hk;exact .inr ⟨k,c,by simp[hn],hg⟩
   ·exact .inr ⟨k,c,by simpa [Ap,hk] using ho,hg⟩
 exact⟨I,θ,h.size,h.defers,fun t'=>by rw[hown];exact(h.slots t').chg k,by rw[hown];exact h.chg.trans k⟩
theorem Aa2{I:Nat->Nat->Prop}{own:Nat->Option Own}{θ:Nat->Option (Nat×Nat)}{w:World}{nm:Nat}{nn:Bool}{k:IntKind}{l:List (Int×AV)}(h:So I own θ w nm (.map nn k l)):So I own θ w nm (.map false k l):=by
 rcases h with⟨g,c,o,h1,h2,h3,h4⟩|⟨h1,h2⟩
 ·refine .inl ⟨g,c,o,h1,h2,?_,h4⟩
  cases h3 with
  | map es nn k l hs hr=>exact .map es false k l hs hr
 ·cases nn<;>cases l<;>first|exact .inr ⟨h1,trivial⟩|cases h2
theorem L5{Γ:Du}{st:St}{r j nm:Nat}{e0:TypeId}{cells:List AV}(km:IntKind)(hr:Ag st.own r=some (.row e0 cells))(hs:cells.getD j .any = .nilm)(hj:j<cells.length)(hn:Ag st.own nm=none)(hlt:Nat.blt nm Az=true:=by rfl)(hltr:Nat.blt r Az=true:=by rfl) :
  Le Γ st ⟨st.tmps,B0 (B0 st.own r (.row e0 (cells.set j (.omap nm)))) nm (.obj (.map false km [])),st.fam⟩:=by
 intro I θ a w h
 have hlt:nm<Az:=by simpa [Ct] using hlt
 have hltr:r<Az:=by simpa [Ct] using hltr
 have hn:st.sto.own nm=none:=(Au hlt).trans hn;have hr:st.sto.own r=some (.row e0 cells):=(Au hltr).trans hr
 have hne:r≠nm:=by rintro rfl;rw[hr]at hn;cases hn
 let own':Nat->Option Own:=fun k=>if k=nm then some (.obj (.map false km [])) else if k=r then some (.row e0 (cells.set j (.omap nm))) else st.sto.own k
 have hown:(⟨st.tmps,B0 (B0 st.own r (.row e0 (cells.set j (.omap nm)))) nm (.obj (.map false km [])),st.fam⟩:St).sto.own=own':=by
  funext k
  show Bl (B0 (B0 st.own r _) nm _) _ k=_
  rw[Eb hlt,Eb hltr];simp only[own',Rv (a:=nm),Rv (a:=r)]
  rfl
 have hle:∀ nm' o,st.sto.own nm'=some o->∃ o',own' nm'=some o'/\OwnLe o (θ nm') o' (thUp θ nm none nm'):=fun nm' o ho=>by
  have h1:nm'≠nm:=by rintro rfl;have:st.sto.own nm'=some o:=ho;rw[hn]at this;cases this
  by_cases h2:nm'=r
  ·subst h2;have:st.sto.own nm'=some o:=ho;rw[hr]at this;obtain rfl:=OI this;exact⟨.row e0 (cells.set j (.omap nm)),by simp[own',h1],by simp[thUp,h1,OwnLe]⟩
  ·exact⟨o,by simp[own',h1,h2,ho],by simp[thUp,h1,OwnLe.refl]⟩
 have hmono:∀ v x,Rep I st.sto.own θ w v x->Rep I own' (thUp θ nm none) w v x:=fun v x h=>h.mono (fun _ _ h=>h) (fun _ _ _=>rfl) hle;have hrel:=h.chg.rel
 have k:Chg st.sto.own θ I w own' (thUp θ nm none) I w:=by
  refine{ imm:=fun _ _ h=>h,cell:=fun _ _ _=>rfl,le:=hle,rel:=?_,valid:=h.chg.valid,os:=rfl,tape:=rfl,output:=rfl,drawn:=fun _=>Bw _,grow:=Bw _,frame:=fun _ _ _=>rfl,new:=fun nm' g' c ho hg=>?_,immNew:=fun _ _ h=>.inl h }
  ·refine⟨fun nm' e2 cells' ho=>?_,fun nm' s' e' m ho g' c hg=>?_,fun n1 n2 g' c c' ho ho' hg hg'=>?_,fun nm' s' e' m f' ho=>?_,fun nm' x' ho=>?_,fun nm' s' m ho hnn=>?_⟩
   ·by_cases h1:nm'=nm
    ·simp[own',h1]at ho
    ·by_cases h2:nm'=r
     ·subst h2;simp only[own',h1,Cg,Ec,Ah,Own.row.injEq]at ho;obtain⟨rfl,rfl⟩:=ho;obtain⟨g',c,vs,r1,r2,r3,r4,r5,r6⟩:=hrel.row nm' _ cells hr;refine⟨g',c,vs,by simpa [thUp,h1] using r1,r2,by simpa using r3,fun j' hj'=>r4 j' (by simpa using hj'),fun j' hj'=>?_,r6⟩
      have hj'':j'<cells.length:=by simpa using hj'
      by_cases hjj:j'=j
      ·subst hjj
       have e1:(cells.set j' (.omap nm)).getD j' .any = .omap nm:=by simp[List.getD,hj]
       rw[e1];have hr':=r5 j' hj'';rw[hs]at hr';rw[hr'.nilm_inv];have:=Rep.omap (I:=I) (own:=own') (θ:=thUp θ nm none) (w:=w) nm (.map false km []) (by simp[own'])
       simpa [thUp] using this
      ·have e1:(cells.set j (.omap nm)).getD j' .any=cells.getD j' .any:=by simp[List.getD,Ga hjj]
       rw[e1];exact hmono _ _ (r5 j' hj'')
     ·simp only[own',h1,h2,Cg]at ho;obtain⟨g',c,vs,r1,r2,r3,r4,r5,r6⟩:=hrel.row nm' _ cells' ho;exact⟨g',c,vs,by simpa [thUp,h1] using r1,r2,r3,r4,fun j' hj'=>hmono _ _ (r5 j' hj'),r6⟩
   ·by_cases h1:nm'=nm
    ·simp[thUp,h1]at hg
    ·have h2:nm'≠r:=by rintro rfl;simp[own',h1]at ho
     simp only[own',h1,h2,Cg]at ho;simp only[thUp,h1,Cg]at hg;exact hrel.tok nm' _ _ _ ho g' c hg
   ·have hx:∀ n1 g' c,own' n1≠none->thUp θ nm none n1=some (g',c)->st.sto.own n1≠none/\θ n1=some (g',c):=fun n1 g' c ho hg=>by
     by_cases h1:n1=nm
     ·simp[thUp,h1]at hg
     ·simp only[thUp,h1,Cg]at hg;refine⟨?_,hg⟩
      by_cases h2:n1=r
      ·subst h2;have:st.sto.own n1=some (.row e0 cells):=hr;simp[this]
      ·simpa [own',h1,h2] using ho
    obtain⟨a1,a2⟩:=hx n1 g' c ho hg;obtain⟨b1,b2⟩:=hx n2 g' c' ho' hg';exact hrel.inj n1 n2 g' c c' a1 b1 a2 b2
   ·by_cases h1:nm'=nm
    ·simp[own',h1]at ho
    ·have h2:nm'≠r:=by rintro rfl;simp[own',h1]at ho
     simp only[own',h1,h2,Cg]at ho;exact Hg (hrel.arr nm' _ _ _ _ ho) (by simp[thUp,h1]) (fun _ _ _=>rfl) (fun _ _ _ _ h=>h) (fun _ _=>rfl) (fun v i j _ _ hv=>hmono _ _ hv)
   ·by_cases h1:nm'=nm
    ·simp only[own',h1,Ec,Ah,Own.obj.injEq]at ho;subst ho;subst h1;exact .inr ⟨by simp[thUp],trivial⟩
    ·have h2:nm'≠r:=by rintro rfl;simp[own',h1]at ho
     simp only[own',h1,h2,Cg]at ho;exact Em (hrel.obj nm' _ ho) (by simp[thUp,h1]) (fun _ _ _=>rfl) (fun _ _ _ _ h=>h) (fun _ hh=>hh.mono hmono) Ks
   ·by_cases h1:nm'=nm
    ·simp[own',h1]at ho
    ·have h2:nm'≠r:=by rintro rfl;simp[own',h1]at ho
     simp only[own',h1,h2,Cg]at ho;simp only[thUp,h1,Cg]at hnn;exact hrel.tok8 nm' _ _ ho hnn
  ·by_cases h1:nm'=nm
   ·simp[thUp,h1]at hg
   ·simp only[thUp,h1,Cg]at hg;refine .inr ⟨nm',c,?_,hg⟩
    by_cases h2:nm'=r
    ·subst h2;have:st.sto.own nm'=some (.row e0 cells):=hr;simp[this]
    ·simpa [own',h1,h2] using ho
 refine⟨I,thUp θ nm none,h.size,h.defers,fun t'=>?_,?_⟩
 ·rw[hown];exact(h.slots t').chg k
 ·rw[hown];exact h.chg.trans k
section
variable {P:Program} {Γ:Du} {σ:Sto} {I:Nat->Nat->Prop} {θ:Nat->Option (Nat×Nat)} {a:Act} {w:World} {o:Oper}
end
open Classical in
open Classical in
section
variable {P:Program} {Γ:Du}
end
section
variable {P:Program} {Γ:Du}
def T4(P:Program)(Γ:Du)(body:Code)(K:Exit->St->Prop):Nat->St->Prop
 | 0,_=>False
 | n+1,st=>Ov P Γ body (fun e st'=>(e = .normal/\T4 P Γ body K n st')\/(e≠.normal/\K e st')) st
theorem awp_unroll{body:Code}{K:Exit->St->Prop}{st:St}(n:Nat)(h:T4 P Γ body K n st):Ov P Γ (.loop body) K st:=by
 intro I θ a w hrel;refine X3 (fun m a w=>∃ st I θ,T4 P Γ body K m st/\Rel Γ st.sto I θ a w) (fun m a w ⟨st,I,θ,hu,hrel⟩=>?_) (n:=n) ⟨st,I,θ,h,hrel⟩
 cases m with
 | zero=>exact hu.elim
 | succ m=>
  refine On (hu I θ a w hrel) fun e a' w' ⟨st',I',θ',h1,h2⟩=>?_;rcases h1 with⟨rfl,h1⟩|⟨hne,h1⟩
  ·exact⟨m,Nat.lt_succ_self m,st',I',θ',h1,h2⟩
  ·cases e with
   | normal=>exact(hne rfl).elim
   | _=>exact⟨st',I',θ',h1,h2⟩
end
inductive Frm where
 | nx (y:Code)
 | bl (id:Nat)
 | ag (c:Code) (n:Nat)
inductive Ip where
 | run (c:Code) (fs:List Frm)
 | out (e:Exit) (fs:List Frm)
def kOf(P:Program)(Γ:Du)(K:Exit->St->Prop):List Frm->Exit->St->Prop
 | []=>K
 | .nx y::fs=>thenK P Γ y (kOf P Γ K fs)
 | .bl id::fs=>Qb id (kOf P Γ K fs)
 | .ag c n::fs=>fun e st=>(e = .normal/\T4 P Γ c (kOf P Γ K fs) n st)\/(e≠.normal/\kOf P Γ K fs e st)
def GG(P:Program)(Γ:Du)(K:Exit->St->Prop):Ip->St->Prop
 | .run c fs,st=>Ov P Γ c (kOf P Γ K fs) st
 | .out e fs,st=>kOf P Γ K fs e st
def Ns:Code->Nat->Nat
 | .exit i,k=>bif Nat.beq i k then 1 else 0
 | .seq a b,k=>Nat.min 2 (Ns a k+Ns b k)
 | .cond _ a b,k=>Nat.min 2 (Ns a k+Ns b k)
 | .loop c,k=>Nat.min 1 (Ns c k)
 | .scope c,k=>Nat.min 1 (Ns c k)
 | .block _ c,k=>Ns c k
 | _,_=>0
def Jw:Code->Nat
 | .region _ _ _=>1
 | .skip=>1
 | .label _=>1
 | .seq a b=>bif Nat.beq (Jw a) 0 then 0 else Jw b
 | .cond _ a b=>Nat.min 2 (Jw a+Jw b)
 | .block i c=>Nat.min 2 (Jw c+Ns c i)
 | .scope c=>Nat.min 2 (Jw c)
 | _=>0
def joinPt(a:Code):Bool:=match a with | .region _ _ _=>false|a=>Nat.ble 2 (Jw a)
def U0:Nat->Code ⊕ Exit->List Frm->Ip
 | 0,.inl c,fs=>.run c fs
 | 0,.inr e,fs=>.out e fs
 | n+1,.inl c,fs=>
  match c with
  | .skip=>U0 n (.inr .normal) fs
  | .label _=>U0 n (.inr .normal) fs
  | .seq a b=>bif joinPt a then .run (.seq a b) fs else U0 n (.inl a) (.nx b::fs)
  | .block id a=>U0 n (.inl a) (.bl id::fs)
  | .exit id=>U0 n (.inr (.exit id)) fs
  | .goto l=>U0 n (.inr (.goto l)) fs
  | .ret=>U0 n (.inr .ret) fs
  | c=>.run c fs
 | n+1,.inr e,fs=>
  match fs with
  | []=>.out e []
  | .nx y::fs=>(match e with | .normal=>U0 n (.inl y) fs|e=>U0 n (.inr e) fs)
  | .bl id::fs=>(match e with | .exit i=>bif Nat.beq i id then U0 n (.inr .normal) fs else U0 n (.inr (.exit i)) fs|e=>U0 n (.inr e) fs)
  | .ag c m::fs=>(match e with | .normal=>(match m with|0=>.out .normal (.ag c 0::fs)|m+1=>U0 n (.inl c) (.ag c m::fs))|e=>U0 n (.inr e) fs)
section
variable {P:Program} {Γ:Du} {K:Exit->St->Prop}
theorem Bb:∀(n:Nat) (x:Code ⊕ Exit) (fs:List Frm) (st:St),GG P Γ K (U0 n x fs) st->(match x with | .inl c=>Ov P Γ c (kOf P Γ K fs) st | .inr e=>kOf P Γ K fs e st)
 | 0,.inl c,fs,st,h=>h
 | 0,.inr e,fs,st,h=>h
 | n+1,.inl c,fs,st,h=>by
  cases c with
  | skip=>exact awp_skip (Bb n (.inr .normal) fs st h)
  | label l=>exact awp_label (Bb n (.inr .normal) fs st h)
  | seq a b=>
   cases hj:joinPt a with
   | true=>simp only[U0,hj,Aw]at h;exact h
   | false=>simp only[U0,hj,D8]at h;exact awp_seq (Bb n (.inl a) (.nx b::fs) st h)
  | block id a=>exact awp_block (Bb n (.inl a) (.bl id::fs) st h)
  | exit id=>exact awp_exit (Bb n (.inr (.exit id)) fs st h)
  | goto l=>exact awp_goto (Bb n (.inr (.goto l)) fs st h)
  | ret=>exact awp_ret (Bb n (.inr .ret) fs st h)
  | _=>exact h
 | n+1,.inr e,[],st,h=>h
 | n+1,.inr e,.nx y::fs,st,h=>by
  cases e with
  | normal=>exact Bb n (.inl y) fs st h
  | exit i=>exact Bb n (.inr (.exit i)) fs st h
  | goto l=>exact Bb n (.inr (.goto l)) fs st h
  | ret=>exact Bb n (.inr .ret) fs st h
  | panic c=>exact Bb n (.inr (.panic c)) fs st h
  | outgrown=>exact Bb n (.inr .outgrown) fs st h
 | n+1,.inr e,.bl id::fs,st,h=>by
  cases e with
  | normal=>exact Bb n (.inr .normal) fs st h
  | exit i=>
   show Qb id (kOf P Γ K fs) (.exit i) st
   cases hb:Nat.beq i id with
   | true=>
    obtain rfl:=A5 hb;simp only[U0,hb,Aw]at h;exact block_here (Bb n (.inr .normal) fs st h)
   | false=>
    simp only[U0,hb,D8]at h;exact block_exit hb (Bb n (.inr (.exit i)) fs st h)
  | goto l=>exact Bb n (.inr (.goto l)) fs st h
  | ret=>exact Bb n (.inr .ret) fs st h
  | panic c=>exact Bb n (.inr (.panic c)) fs st h
  | outgrown=>exact Bb n (.inr .outgrown) fs st h
 | n+1,.inr e,.ag c m::fs,st,h=>by
  cases e with
  | normal=>
   cases m with
   | zero=>exact h
   | succ m=>exact .inl ⟨rfl,Bb n (.inl c) (.ag c m::fs) st h⟩
  | exit i=>exact .inr ⟨(by intro hh;cases hh),Bb n (.inr (.exit i)) fs st h⟩
  | goto l=>exact .inr ⟨(by intro hh;cases hh),Bb n (.inr (.goto l)) fs st h⟩
  | ret=>exact .inr ⟨(by intro hh;cases hh),Bb n (.inr .ret) fs st h⟩
  | panic ch=>exact .inr ⟨(by intro hh;cases hh),Bb n (.inr (.panic ch)) fs st h⟩
  | outgrown=>exact .inr ⟨(by intro hh;cases hh),Bb n (.inr .outgrown) fs st h⟩
theorem Gn{n:Nat}{c:Code}{fs:List Frm}{st:St}(h:GG P Γ K (U0 n (.inl c) fs) st):Ov P Γ c (kOf P Γ K fs) st:=Bb n (.inl c) fs st h
theorem Rh{n:Nat}{e:Exit}{fs:List Frm}{st:St}(h:GG P Γ K (U0 n (.inr e) fs) st):kOf P Γ K fs e st:=Bb n (.inr e) fs st h
def inC(c:Code)(fs:List Frm):Ip:=U0 400 (.inl c) fs
def exC(e:Exit)(fs:List Frm):Ip:=U0 400 (.inr e) fs
def nxC:Ip->Ip
 | .run _ fs=>exC .normal fs
 | x=>x
def opsC:Ip->Option (List Oper×Bool)
 | .run (.region _ ops draw) _=>some (ops.toList,draw)
 | _=>none
def doR(P:Program)(S:Qs)(n:Nat)(cs:List (Nat×AV))(live names:List Nat)(x:Ip)(st:St)(rs:List Nl):Option (St×List Prop×Bool):=
 match opsC x with
 | some (ops,draw)=>T5 P S n cs live names ops draw st rs
 | none=>none
def nxS(P:Program)(S:Qs)(n:Nat)(cs:List (Nat×AV))(live names:List Nat)(x:Ip)(st:St)(rs:List Nl):St:=
 match doR P S n cs live names x st rs with
 | some r=>r.1
 | none=>st
def obR(r:Option (St×List Prop×Bool)):Option (Prop×Bool):=
 match r with
 | some r=>some (Aaf r.2.1,r.2.2)
 | none=>none
theorem gR{x:Ip}{st:St}{n:Nat}{H:List (Nat×Own)}(q:RgQ P Γ n H)(live names:List Nat)(cs:List (Nat×AV))(rs:List Nl){O:Prop}(hO:O)
  (k:GG P Γ K (nxC x) (nxS P (Spec P) n cs live names x st rs))
  (h:obR (doR P (Spec P) n cs live names x st rs)=some (O,true):=by kernel_rfl) (hh:(H.all fun x=>Bx x.1 names)=true:=by kernel_rfl):GG P Γ K x st:=by
 unfold doR at h;unfold nxS doR at k
 cases x with
 | out e fs=>simp[opsC,obR]at h
 | run c fs=>
  cases c with
  | region id ops draw=>
   simp only[opsC]at h k
   cases hr:T5 P (Spec P) n cs live names ops.toList draw st rs with
   | none=>rw[hr]at h;simp[obR]at h
   | some r=>
    obtain⟨st',obs,d⟩:=r;rw[hr]at h k;simp only[obR,Ah,Bv]at h;obtain⟨rfl,rfl⟩:=h;have:=awp_region (id:=id) (K:=kOf P Γ K fs) q.hn q.mix (q.hand hh) hr hO (Rh k);exact(by simpa using this:Ov P Γ (.region id ops draw) (kOf P Γ K fs) st)
  | _=>simp[opsC,obR]at h
theorem Am{x:Ip}{st:St}{n:Nat}{H:List (Nat×Own)}(q:RgQ P Γ n H)(live names:List Nat)
  (k:GG P Γ K (nxC x) (nxS P (Spec P) n [] live names x st []))
  (h:obR (doR P (Spec P) n [] live names x st [])=some (True,true):=by kernel_rfl) (hh:(H.all fun x=>Bx x.1 names)=true:=by kernel_rfl):GG P Γ K x st:=gR q live names [] [] trivial k h hh
def isRun:Ip->Bool | .run _ _=>true|_=>false
theorem I6{x:Ip}{st st':St}(h:Le Γ st st')
  (k:GG P Γ K x st')
  (hx:isRun x=true:=by kernel_rfl):GG P Γ K x st:=by
 cases x with
 | run c fs=>exact awp_le h k
 | out e fs=>cases hx
theorem Q0{x:Ip}{st:St}(st':St)
  (k:GG P Γ K x st')
  (h:st=st':=by kernel_rfl):GG P Γ K x st:=h▸k
def condV(x:Ip)(st:St):AV:=match x with | .run (.cond c _ _) _=>evA st.get c|_=>.any
def brC(b:Bool):Ip->Ip
 | .run (.cond _ c d) fs=>inC (bif b then c else d) fs
 | x=>x
theorem gC{x:Ip}{st:St}{R:Type}{b:Bool}{m1 m2:Option R}{r:R}(h:(bif b then m1 else m2)=some r)
  (kt:m1=some r->GG P Γ K (brC true x) st) (kf:m2=some r->GG P Γ K (brC false x) st)
  (hv:condV x st = .bool b:=by kernel_rfl):GG P Γ K x st:=by
 cases x with
 | out e fs=>cases hv
 | run c fs=>
  cases c with
  | cond c y z=>
   refine Aad b hv (fun hb=>Gn (n:=400) (kt ?_)) (fun hb=>Gn (n:=400) (kf ?_))
   ·subst hb;exact h
   ·subst hb;exact h
  | _=>cases hv
theorem gCt{x:Ip}{st:St}(b:Bool)
  (k:GG P Γ K (brC b x) st)
  (hv:condV x st = .bool b:=by kernel_rfl):GG P Γ K x st:=by
 cases x with
 | out e fs=>cases hv
 | run c fs=>
  cases c with
  | cond c y z=>
   refine Aad b hv (fun hb=>Gn (n:=400) ?_) (fun hb=>Gn (n:=400) ?_)
   ·subst hb;exact k
   ·subst hb;exact k
  | _=>cases hv
theorem lt1{P:Nat->Prop}(h0:P 0)(i:Nat)(h:i<1):P i:=by
 obtain rfl:i=0:=by omega
 exact h0
theorem gK{x:Ip}{st:St}{e:Exit}(h:K e st)(hx:x = .out e []:=by kernel_rfl):GG P Γ K x st:=by subst hx;exact h
def aG(Γ:Du)(e0:Exit)(og:St):Exit->St->Prop:=fun e st=>e=e0/\Le Γ st og
def aR(K:Exit->St->Prop):Exit->St->Prop:=fun e st=>e = .ret/\K e st
theorem Ck{e0:Exit}{og st:St}(h:Le Γ st og):aG Γ e0 og e0 st:=⟨rfl,h⟩
theorem Ms{st:St}(h:K .ret st):aR K .ret st:=⟨rfl,h⟩
def isN:Exit->Bool | .normal=>true|_=>false
theorem gN{S X:Type}{x:Ip}{st:St}{H:S->St}{KX:X->Exit->St->Prop}{s':S}(h:Le Γ st (H s'))(hx:x = .out .normal []:=by kernel_rfl):GG P Γ (Zm Γ H KX (.next s')) x st:=by
 subst hx;exact⟨rfl,h⟩
theorem gO{S X:Type}{x:Ip}{st:St}{H:S->St}{KX:X->Exit->St->Prop}{y:X}{e:Exit}(h:KX y e st)(hx:x = .out e []:=by kernel_rfl)(hn:isN e=false:=by kernel_rfl):GG P Γ (Zm Γ H KX (.done y)) x st:=by
 subst hx;exact⟨(by rintro rfl;cases hn),h⟩
def fK(P:Program)(Γ:Du)(rs:List ResultVar)(H:List (Nat×Own))(res:AV)(H':List (Nat×Own)):Exit->St->Prop:=clK Γ (retK P rs H res H')
theorem Ig{rs:List ResultVar}{H H':List (Nat×Own)}{res:AV}{st st':St}{e:Exit}(ρ:List (Nat×Nat))(hl:Le Γ st st')(hr:retOf P rs ρ H st'=some (res,H'):=by kernel_rfl)
  (he:(match e with | .ret=>true | .normal=>true|_=>false)=true:=by kernel_rfl):fK P Γ rs H res H' e st:=by
 refine⟨st',hl,?_,ρ,hr⟩
 cases e with
 | ret=>exact .inl rfl
 | normal=>exact .inr rfl
 | _=>cases he
theorem B6{rs:List ResultVar}{H H':List (Nat×Own)}{res:AV}{x:Ip}{st:St}(ρ:List (Nat×Nat))(hr:retOf P rs ρ H st=some (res,H'):=by kernel_rfl)
  (hx:x = .out .ret []:=by kernel_rfl):GG P Γ (fK P Γ rs H res H') x st:=gK (e:=.ret) (Ig ρ (Le.refl _ _) hr) hx
def bodyOf(fn:Func):Code:=match fn.body with|some c=>c|none=>.skip
theorem Af {f : FuncId} {fn : Func} {args : List AV} {H H' : List (Nat × Own)} {res : AV} (hm : P.follows .mixedOrders = true) (hf : P.funcs[f]? = some fn)
    (k : ∀ Γ : Du, RgQ P Γ fn.ntmps H → GG P Γ (fK P Γ fn.results.toList H res H') (inC (bodyOf fn) []) (Ur args H))
    (hb : fn.body.isSome = true := by kernel_rfl) (hname : (fn.name == "runtime.NumGoroutine") = false := by kernel_rfl) (hlen : Nat.ble args.length fn.ntmps = true := by kernel_rfl) (hpl : Zi H = true := by kernel_rfl) : Spec P f args H res H' := by
  obtain ⟨c, hc⟩ := zzL50.1 hb
  have e : bodyOf fn = c := by unfold bodyOf; rw [hc]
  refine Abl hf hc hname hlen (fun Γ hn hΓ => ?_) hpl; have := k Γ ⟨hn, hm, hΓ⟩; rw [e] at this; exact awp_cl (Gn this)
theorem leq_of{st st':St}(h:st=st'):Le Γ st st':=h▸Le.refl Γ st
def isLoop:Ip->Bool | .run (.loop _) _=>true|_=>false
def bodyC:Ip->Ip
 | .run (.loop c) _=>inC c []
 | x=>x
def outC(e:Exit):Ip->Ip
 | .run _ fs=>exC e fs
 | x=>x
def putS{α:Type}(k:Nat)(x:α):List (Nat×α)->List (Nat×α)
 | []=>[(k,x)]
 | (k',y)::l=>bif Nat.beq k k' then(k,x)::l else bif Nat.blt k k' then(k,x)::(k',y)::l else(k',y)::putS k x l
def putL{α:Type}:List (Nat×α)->List (Nat×α)->List (Nat×α)
 | [],l=>l
 | (k,x)::r,l=>putL r (putS k x l)
def Df(st:St)(ts:List (Nat×AV))(os:List (Nat×Own))(fs:List (Nat×Fam):=[]):St:=⟨putL ts st.tmps,putL os st.own,putL fs st.fam⟩
def Ud(live names:List Nat)(st:St)(ts:List (Nat×AV))(os:List (Nat×Own))(fs:List (Nat×Fam):=[]):St:=Dd live names (Df st ts os fs)
theorem gL{S X:Type}{x:Ip}{st:St}{n:Nat}{Hf:List (Nat×Own)}(q:RgQ P Γ n Hf){f:S->Option (LR S X)}{s0:S}{y:X}(hx:Bd f s0=some y)(live names:List Nat)(H:St->S->St)(KX:St->X->Exit->St->Prop)
  (kb:∀ s y,f s=some y->GG P Γ (Zm Γ (H (Dd live names st)) (KX (Dd live names st)) y) (bodyC x) (H (Dd live names st) s)) (ko:∀ e st',KX (Dd live names st) y e st'->GG P Γ K (outC e x) st')
  (h0:Dd live names st=H (Dd live names st) s0:=by kernel_rfl) (hl:isLoop x=true:=by kernel_rfl) (hh:(Hf.all fun x=>Bx x.1 names)=true:=by kernel_rfl):GG P Γ K x st:=by
 cases x with
 | out e fs=>cases hl
 | run c fs=>
  cases c with
  | loop c=>
   refine awp_le (st':=H (Dd live names st) s0) ?_ (awp_loop (H (Dd live names st)) f (KX (Dd live names st)) (fun s y hy=>Gn (kb s y hy)) hx fun e st' hk=>Rh (ko e st' hk));rw[<- h0];exact Cn live names q rfl hh
  | _=>cases hl
theorem gA{x:Ip}{f:Exit->Ip->Ip}{e0:Exit}{og:St}
  (k:GG P Γ K (f e0 x) og)
  (hr:isRun (f e0 x)=true:=by kernel_rfl):∀ e st',aG Γ e0 og e st'->GG P Γ K (f e x) st':=by
 rintro e st' ⟨rfl,hl⟩;exact I6 hl k hr
theorem gA'{x:Ip}{f:Exit->Ip->Ip}{e0:Exit}{og:St}(k:∀ st',Le Γ st' og->GG P Γ K (f e0 x) st'):∀ e st',aG Γ e0 og e st'->GG P Γ K (f e x) st':=by
 rintro e st' ⟨rfl,hl⟩;exact k st' hl
theorem Qe{x:Ip}{f:Exit->Ip->Ip}{K':Exit->St->Prop}(k:∀ st',K' .ret st'->GG P Γ K (f .ret x) st'):∀ e st',aR K' e st'->GG P Γ K (f e x) st':=by
 rintro e st' ⟨rfl,hl⟩;exact k st' hl
theorem gU{x:Ip}{st:St}(n:Nat)
  (k:GG P Γ K (match x with | .run (.loop c) fs=>inC c (.ag c n::fs)|x=>x) st)
  (hl:isLoop x=true:=by kernel_rfl):GG P Γ K x st:=by
 cases x with
 | out e fs=>cases hl
 | run c fs=>
  cases c with
  | loop c=>exact awp_unroll (n+1) (Gn k)
  | _=>cases hl
def isSeq:Ip->Bool | .run (.seq _ _) _=>true|_=>false
def headC:Ip->Ip
 | .run (.seq a _) _=>inC a []
 | x=>x
def restC(e:Exit):Ip->Ip
 | .run (.seq _ b) fs=>exC e (.nx b::fs)
 | x=>x
theorem gJ{X:Type}{x:Ip}{st:St}{m:Option X}{y:X}(hx:m=some y)(KX:X->Exit->St->Prop)
  (kb:∀ y,m=some y->GG P Γ (KX y) (headC x) st) (ko:∀ e st',KX y e st'->GG P Γ K (restC e x) st')
  (hs:isSeq x=true:=by kernel_rfl):GG P Γ K x st:=by
 cases x with
 | out e fs=>cases hs
 | run c fs=>
  cases c with
  | seq a b=>exact awp_seq (awp_join KX hx (fun y hy=>Gn (kb y hy)) fun e st' hk=>Rh (ko e st' hk))
  | _=>cases hs
def isScope:Ip->Bool | .run (.scope _) _=>true|_=>false
def scB:Ip->Code | .run (.scope c) _=>c|_=>.skip
def labC(c:Code)(l:Nat):Ip:=inC ((findLabel c l).getD .skip) []
theorem gS{S X:Type}{x:Ip}{st:St}{f0:Option (LR S X)}{f:S->Option (LR S X)}{y:X}(hx:Ql f0 f=some y)(lab:S->Nat)(H:S->St)(KX:X->Exit->St->Prop)
  (k0:∀ y,f0=some y->GG P Γ (Ut Γ (scB x) lab H KX y) (inC (scB x) []) st) (kb:∀ s y,f s=some y->GG P Γ (Ut Γ (scB x) lab H KX y) (labC (scB x) (lab s)) (H s)) (ko:∀ e st',KX y e st'->GG P Γ K (outC e x) st')
  (hs:isScope x=true:=by kernel_rfl):GG P Γ K x st:=by
 cases x with
 | out e fs=>cases hs
 | run c fs=>
  cases c with
  | scope c=>
   refine awp_scope lab H f0 f KX (fun y hy=>Gn (k0 y hy)) (fun s y rest hf hy=>?_) hx fun e st' hk=>Rh (ko e st' hk);have:=kb s y hy;unfold labC scB at this;rw[hf]at this;exact Gn this
  | _=>cases hs
theorem gJn{S X:Type}{x:Ip}{st:St}{c:Code}{lab:S->Nat}{H:S->St}{KX:X->Exit->St->Prop}{s':S}(h:Le Γ st (H s'))(hx:x = .out (.goto (lab s')) []:=by kernel_rfl)(hf:(findLabel c (lab s')).isSome=true:=by kernel_rfl) :
  GG P Γ (Ut Γ c lab H KX (.next s')) x st:=by
 subst hx;exact⟨rfl,hf,h⟩
theorem gJo{S X:Type}{x:Ip}{st:St}{c:Code}{lab:S->Nat}{H:S->St}{KX:X->Exit->St->Prop}{y:X}{e:Exit}(h:KX y e st)(hx:x = .out e []:=by kernel_rfl)
  (hf:(match e with | .goto l=>(findLabel c l).isNone|_=>true)=true:=by kernel_rfl):GG P Γ (Ut Γ c lab H KX (.done y)) x st:=by
 subst hx;refine⟨?_,h⟩;rintro l rfl
 simpa using hf
theorem O3{α:Type}{st:St}(U:α->St->St){a b:α}(h:a=b)(h1:st=U a st:=by kernel_rfl):Le Γ st (U b st):=by subst h;exact leq_of h1
theorem leB{st:St}(F F':Bool->St->St)(g:Bool)(h1:st=F g st:=by kernel_rfl)(ht:F true st=F' true st:=by kernel_rfl)(hf:F false st=F' false st:=by kernel_rfl):Le Γ st (F' g st):=by
 refine leq_of (h1.trans ?_)
 cases g<;>assumption
def Own.withF(g:Nat->List AV):Own->Own
 | .arr sz e n _=>.arr sz e n g
 | o=>o
def arrAt(st:St)(nm:Nat):Option (Nat×(Nat->List AV)):=match Ag st.own nm with|some (.arr _ _ n f)=>some (n,f)|_=>none
def setF(nm:Nat)(g:Nat->List AV)(st:St):St:=⟨st.tmps,(match Ag st.own nm with|some o=>B0 st.own nm (o.withF g)|none=>st.own),st.fam⟩
theorem Vb{nm sz n:Nat}{e:TypeId}{f g:Nat->List AV}(hp:∀ k,k<n->AVleL (f k) (g k)):∀{l:List (Nat×Own)},Ag l nm=some (.arr sz e n f)->OwnsLe l (B0 l nm (.arr sz e n g))
 | [],h=>by cases h
 | (k,o)::l,h=>by
  simp only[Ag]at h;simp only[B0]
  cases hb:Nat.beq k nm with
  | true=>
   obtain rfl:=A5 hb;rw[hb]at h;simp only[Aw,Ah]at h;subst h;exact .arr hp (.refl _)
  | false=>
   rw[hb]at h;exact .same (Vb hp h)
theorem O2{st:St}(nm:Nat){n:Nat}{f g:Nat->List AV}(hp:∀ k,k<n->AVleL (f k) (g k))(h:arrAt st nm=some (n,f):=by kernel_rfl):Le Γ st (setF nm g st):=by
 unfold arrAt at h;unfold setF
 cases ho:Ag st.own nm with
 | none=>rw[ho]at h;cases h
 | some o=>
  rw[ho]at h
  cases o with
  | arr sz e n' f'=>
   simp only[Ah,Bv]at h;obtain⟨rfl,rfl⟩:=h;exact Mx (TmpsLe.refl _) (Vb hp ho)
  | _=>cases h
def cellAt(st:St)(nm j:Nat):Option AV:=match Ag st.own nm with|some (.row _ cells)=>cells[j]? | _=>none
def Own.withC(j:Nat)(x:AV):Own->Own
 | .row e cells=>.row e (cells.set j x)
 | o=>o
def setC(nm j:Nat)(x:AV)(st:St):St:=⟨st.tmps,(match Ag st.own nm with|some o=>B0 st.own nm (o.withC j x)|none=>st.own),st.fam⟩
theorem leL_set{a b:AV}(h:AVle a b):∀{l:List AV} {j:Nat},l[j]?=some a->AVleL l (l.set j b)
 | [],j,h=>by simp at h
 | x::l,0,h'=>by
  simp only[List.getElem?_cons_zero,Ah]at h';subst h';exact .cons h (.refl _)
 | x::l,j+1,h'=>by
  simp only[List.getElem?_cons_succ]at h';exact .cons (.refl _) (leL_set h h')
theorem Vc{nm:Nat}{e:TypeId}{x y:List AV}(hp:AVleL x y):∀{l:List (Nat×Own)},Ag l nm=some (.row e x)->OwnsLe l (B0 l nm (.row e y))
 | [],h=>by cases h
 | (k,o)::l,h=>by
  simp only[Ag]at h;simp only[B0]
  cases hb:Nat.beq k nm with
  | true=>
   obtain rfl:=A5 hb;rw[hb]at h;simp only[Aw,Ah]at h;subst h;exact .row hp (.refl _)
  | false=>
   rw[hb]at h;exact .same (Vc hp h)
theorem leC{st:St}(nm j:Nat){a b:AV}(hp:AVle a b)(h:cellAt st nm j=some a:=by kernel_rfl):Le Γ st (setC nm j b st):=by
 unfold cellAt at h;unfold setC
 cases ho:Ag st.own nm with
 | none=>rw[ho]at h;cases h
 | some o=>
  rw[ho]at h
  cases o with
  | row e cells=>exact Mx (TmpsLe.refl _) (Vc (leL_set hp h) ho)
  | _=>cases h
theorem gI(g:Bool):g=true->g=true:=id
theorem Kr(c:Bool):c=true->(c==true)=true:=gT
theorem Ox(c:Bool):c=false->(c==false)=true:=gF
theorem A6{α:Type}(sz:Nat)(e:α->List AV)(d:α)(l:List α):AVle (.slice sz l.length (fun i=>(l.map e).getD i []) .exact) (AV.list sz e d l .exact):=av_lit rfl fun i h=>map_get l i h
theorem C1{α:Type}(sz:Nat)(e:α->List AV)(d:α):AVle (.slice 0 0 (fun _=>[]) .exact) (AV.list sz e d [] .exact):=Cl
theorem Lu{α:Type}(sz nm:Nat)(e:α->List AV)(d:α)(l m:List α):AVle (.slice sz (l.length+m.length) (Gb l.length (fun i=>e (l.getD i d)) (fun i=>e (m.getD i d))) (.own nm)) (AV.list sz e d (l++m) (.own nm)):=av_app
theorem De{st st':St}(h:st=st':=by kernel_rfl):Le Γ st st':=h▸Le.refl Γ st
theorem ci{p q:Prop}(a:p)(b:q):p/\q:=⟨a,b⟩
theorem c1{p:Prop}(a:p):p/\True:=⟨a,trivial⟩
end
theorem W9{a b:List AV}(h:AVleL a b):∀{c d:List AV},AVleL c d->AVleL (a++c) (b++d):=by
 induction h with
 | nil=>exact fun k=>k
 | cons h _ ih=>exact fun k=>.cons h (ih k)
theorem putF_leE{α:Type}{e:α->List AV}{d:α}{keep:Nat->Bool}{f:Nat->List AV}{l:List α}{i j n:Nat}{cs cs':List AV}{x:α}(hn:n=(l.set i x).length)(hf:∀ k,k<l.length->f k=e (l.getD k d))(he:∀ a,AV.eraseAll keep (e a)=e a)(hi:i<l.length)
  (hc:AVleL (AV.eraseAll keep cs) cs') (hx:(e (l.getD i d)).take j++cs'++(e (l.getD i d)).drop (j+cs.length)=e x):∀ k,k<n->AVleL (AV.eraseAll keep (G1 f i j cs k)) (e ((l.set i x).getD k d)):=by
 intro k hk;rw[hn,Di]at hk
 by_cases h:k=i
 ·subst h;rw[O8,Mv,Mv,Wj,Wi,hf k hk,he,show(l.set k x).getD k d=x by simp[List.getD,hk],<- hx];exact W9 (W9 (.refl _) hc) (.refl _)
 ·rw[O7 f cs h,hf k hk,he,show(l.set i x).getD k d=l.getD k d by simp[List.getD,Ga h]];exact .refl _
open Go.Shelf
def Aam:Go.Shelf.Ren:=⟨fun|189=>65|125=>95|257=>94|128=>127|129=>128|294=>118|295=>119|296=>120|297=>121|298=>122|299=>123|216=>124|300=>125|301=>126|328=>148|329=>149|330=>150|331=>151|332=>152|215=>153|343=>163|n=>n,fun|28=>22|3=>3|46=>126|0=>0|51=>158|53=>55|4=>4|183=>152|182=>151|131=>155|5=>5|9=>9|218=>174|222=>178|228=>181|229=>117|n=>n,fun|n=>n⟩
theorem lays189:Go.Proofs.Lays.n189 Tryz.prog Aam:={
 mixed:=by kernel_rfl
 f125:=Tryz.func95.trans (Bm some (by kernel_rfl))
 f128:=Tryz.func127.trans (Bm some (by kernel_rfl))
 f129:=Tryz.func128.trans (Bm some (by kernel_rfl))
 f189:=Tryz.func65.trans (Bm some (by kernel_rfl))
 f215:=Tryz.func153.trans (Bm some (by kernel_rfl))
 f216:=Tryz.func124.trans (Bm some (by kernel_rfl))
 f257:=Tryz.func94.trans (Bm some (by kernel_rfl))
 f294:=Tryz.func118.trans (Bm some (by kernel_rfl))
 f295:=Tryz.func119.trans (Bm some (by kernel_rfl))
 f296:=Tryz.func120.trans (Bm some (by kernel_rfl))
 f297:=Tryz.func121.trans (Bm some (by kernel_rfl))
 f298:=Tryz.func122.trans (Bm some (by kernel_rfl))
 f299:=Tryz.func123.trans (Bm some (by kernel_rfl))
 f300:=Tryz.func125.trans (Bm some (by kernel_rfl))
 f301:=Tryz.func126.trans (Bm some (by kernel_rfl))
 f328:=Tryz.func148.trans (Bm some (by kernel_rfl))
 f329:=Tryz.func149.trans (Bm some (by kernel_rfl))
 f330:=Tryz.func150.trans (Bm some (by kernel_rfl))
 f331:=Tryz.func151.trans (Bm some (by kernel_rfl))
 f332:=Tryz.func152.trans (Bm some (by kernel_rfl))
 f343:=Tryz.func163.trans (Bm some (by kernel_rfl))
 t0:=Tryz.underlying0
 a0:=Tryz.isAgg0
 z0:=Tryz.sizeOf0
 v0:=Tryz.zeroValue0
 t3:=Tryz.underlying3
 a3:=Tryz.isAgg3
 z3:=Tryz.sizeOf3
 v3:=Tryz.zeroValue3
 t4:=Tryz.underlying4
 a4:=Tryz.isAgg4
 z4:=Tryz.sizeOf4
 v4:=Tryz.zeroValue4
 t5:=Tryz.underlying5
 a5:=Tryz.isAgg5
 z5:=Tryz.sizeOf5
 v5:=Tryz.zeroValue5
 t9:=Tryz.underlying9
 a9:=Tryz.isAgg9
 z9:=Tryz.sizeOf9
 v9:=Tryz.zeroValue9
 t28:=Tryz.underlying22
 a28:=Tryz.isAgg22
 z28:=Tryz.sizeOf22
 v28:=Tryz.zeroValue22
 t46:=Tryz.underlying126
 a46:=Tryz.isAgg126
 z46:=Tryz.sizeOf126
 v46:=Tryz.zeroValue126
 t51:=Tryz.underlying158
 a51:=Tryz.isAgg158
 z51:=Tryz.sizeOf158
 v51:=Tryz.zeroValue158
 t53:=Tryz.underlying55
 a53:=Tryz.isAgg55
 z53:=Tryz.sizeOf55
 v53:=Tryz.zeroValue55
 t131:=Tryz.underlying155
 a131:=Tryz.isAgg155
 z131:=Tryz.sizeOf155
 v131:=Tryz.zeroValue155
 t182:=Tryz.underlying151
 a182:=Tryz.isAgg151
 z182:=Tryz.sizeOf151
 v182:=Tryz.zeroValue151
 t183:=Tryz.underlying152
 a183:=Tryz.isAgg152
 z183:=Tryz.sizeOf152
 v183:=Tryz.zeroValue152
 t218:=Tryz.underlying174
 a218:=Tryz.isAgg174
 z218:=Tryz.sizeOf174
 v218:=Tryz.zeroValue174
 t222:=Tryz.underlying178
 a222:=Tryz.isAgg178
 z222:=Tryz.sizeOf178
 v222:=Tryz.zeroValue178
 t228:=Tryz.underlying181
 a228:=Tryz.isAgg181
 z228:=Tryz.sizeOf181
 v228:=Tryz.zeroValue181
 t229:=Tryz.underlying117
 a229:=Tryz.isAgg117
 z229:=Tryz.sizeOf117
 v229:=Tryz.zeroValue117 }
def Wl:Go.Shelf.Ren:=⟨fun|15=>64|n=>n,fun|22=>22|3=>3|4=>4|n=>n,fun|n=>n⟩
theorem R5:Go.Proofs.Lays2.n15 Tryz.prog Wl:={
 mixed:=by kernel_rfl
 f15:=Tryz.func64.trans (Bm some (by kernel_rfl))
 t3:=Tryz.underlying3
 a3:=Tryz.isAgg3
 z3:=Tryz.sizeOf3
 v3:=Tryz.zeroValue3
 t4:=Tryz.underlying4
 a4:=Tryz.isAgg4
 z4:=Tryz.sizeOf4
 v4:=Tryz.zeroValue4
 t22:=Tryz.underlying22
 a22:=Tryz.isAgg22
 z22:=Tryz.sizeOf22
 v22:=Tryz.zeroValue22
 i3:=by kernel_rfl }
def Wm:Go.Shelf.Ren:=⟨fun|20=>66|n=>n,fun|22=>22|3=>3|4=>4|0=>0|n=>n,fun|n=>n⟩
theorem Xj:Go.Proofs.Lays2.n20 Tryz.prog Wm:={
 mixed:=by kernel_rfl
 f20:=Tryz.func66.trans (Bm some (by kernel_rfl))
 t0:=Tryz.underlying0
 a0:=Tryz.isAgg0
 z0:=Tryz.sizeOf0
 v0:=Tryz.zeroValue0
 t3:=Tryz.underlying3
 a3:=Tryz.isAgg3
 z3:=Tryz.sizeOf3
 v3:=Tryz.zeroValue3
 t4:=Tryz.underlying4
 a4:=Tryz.isAgg4
 z4:=Tryz.sizeOf4
 v4:=Tryz.zeroValue4
 t22:=Tryz.underlying22
 a22:=Tryz.isAgg22
 z22:=Tryz.sizeOf22
 v22:=Tryz.zeroValue22
 i3:=by kernel_rfl }
open Go.Sort
section
variable {I:Nat->Nat->Prop} {θ:Nat->Option (Nat×Nat)} {w w':World}
theorem ownRel_nil(I:Nat->Nat->Prop)(θ:Nat->Option (Nat×Nat))(w:World):Dv I (Ag []) θ w:=
 ⟨(fun _ _ _ h=>by cases h),(fun _ _ _ _ h=>by cases h),(fun _ _ _ _ _ h=>(h rfl).elim),(fun _ _ _ _ _ h=>by cases h),(fun _ _ h=>by cases h),(fun _ _ _ h=>by cases h)⟩
theorem repL_one{own:Nat->Option Own}{zs:Array Value}{x:AV}(h:RepL I own θ w zs.toList [x]):∃ v,zs = #[v]/\Rep I own θ w v x:=by
 obtain⟨l⟩:=zs
 cases h with
 | cons h1 h2=>cases h2;exact⟨_,rfl,h1⟩
theorem Ph(hb:Below w.heap.size w w')(hval:∀ b o,I b o->∃ u,w.cell? ⟨b,o,none⟩=some u){N:Nat->Nat->Prop}(hN:∀ b o,N b o->w.heap.size<=b/\∃ u,w'.cell? ⟨b,o,none⟩=some u) :
  Chg (Ag []) θ I w (Ag []) θ (fun b o=>I b o\/N b o) w':=
 have hcell:∀ b o,I b o->w'.cell? ⟨b,o,none⟩=w.cell? ⟨b,o,none⟩:=fun b o hi=>by
  obtain⟨u,hu⟩:=hval b o hi;exact Td (a:=⟨b,o,none⟩) (hb.block b (Ic hu))
 {imm:=fun _ _ h=>.inl h,cell:=hcell,le:=fun _ _ h=>(by cases h),rel:=ownRel_nil _ _ _,
  valid:=fun b o hi=>by
   rcases hi with hi|hi
   ·obtain⟨u,hu⟩:=hval b o hi;exact⟨u,(hcell b o hi).trans hu⟩
   ·exact(hN b o hi).2,
  os:=hb.os,tape:=hb.tape,output:=hb.output,drawn:=fun h=>h.elim,grow:=hb.size,frame:=fun b hlt _=>hb.block b hlt,new:=fun _ _ _ h=>(h rfl).elim,
  immNew:=fun b o hi=>by
   rcases hi with hi|hi
   ·exact .inl hi
   ·exact .inr (.inl (hN b o hi).1) }
end
theorem Qu{w W:World}{g n:Nat}{os:Array Obj}{d:Array Int}(hb:Below w.heap.size w W)(hg:w.heap.size<=g):Below w.heap.size w (grow (putRow (Value.int .i64) (Sort.ahead W n) g 0 d) os):=by
 have k:=grownBy_sortedI (w:=W) (g:=g) (n:=n) (os:=os) d;refine hb.trans ⟨k.os,k.tape,k.output,k.size,fun b hlt=>k.block b (Nat.lt_of_lt_of_le hlt hb.size) (fun e=>?_)⟩;have:=OI e;omega
def Yr(w W:World)(g cap n:Nat)(zs:List Int):Prop:=
 Below w.heap.size w W/\w.heap.size<=g/\∃ cur,W.heap[g]?=some (.cells cur 3 (0,0))/\n<=cap/\cap<=maxLen/\cur.size=cap/\cur.toList.take zs.length=zs.map (Value.int .i64)/\zs.length=n
theorem own3_of{w W:World}{v:Value}{n:Nat}{zs:List Int}(h:W.ownsRow w.heap.size 3 1 v n (zs.map (Value.int .i64)))(hne:v≠.slice none 0 0)(hb:Below w.heap.size w W):∃ g cap,v = .slice (some ⟨g,0,none⟩) n cap/\Yr w W g cap n zs:=by
 have hl:zs.length=n:=by have:=h.1;simpa using this
 rcases h.2 with⟨rfl,_⟩|⟨g,cap,cur,rfl,hg,hcur,hcap,hmax,hsz,ht⟩
 ·exact(hne rfl).elim
 ·rw[Ru]at hsz ht;exact⟨g,cap,rfl,hb,hg,cur,hcur,hcap,hmax,hsz,by rw[hl];exact ht,hl⟩
theorem c_clone0(ad:Addr)(c:Nat)(w:World):Calls Tryz.prog 64 #[.slice (some ad) 0 c] w fun e W=>∃ g cap,e = .returned (.slice (some ⟨g,0,none⟩) 0 cap)/\Yr w W g cap 0 []:=
 (Any.slices_Clone_int_zero R5 ad c w).mono fun e W ⟨v,he,hown,hne,hb⟩=>by
  obtain⟨g,cap,rfl,h⟩:=own3_of (zs:=[]) hown hne hb;exact⟨g,cap,he,h⟩
theorem c_clone(b off n c:Nat)(zs:List Int)(w:World)(hz:zs.length=n)(hbig:n<=17592186044416)(hc:∀ j,j<n->w.cell? ⟨b,off+j,none⟩=some (.int .i64 (zs.getD j 0))) :
  Calls Tryz.prog 64 #[.slice (some ⟨b,off,none⟩) n c] w fun e W=>∃ g cap,e = .returned (.slice (some ⟨g,0,none⟩) n cap)/\Yr w W g cap n zs:=
 (Any.slices_Clone_int R5 b off n c zs w (by omega) (by omega) (fun j hj=>hc j (by omega))).mono fun e W ⟨v,he,hown,hne,hb⟩=>by
  rw[show zs.take n=zs by rw[<- hz];exact List.take_length ..]at hown;obtain⟨g,cap,rfl,h⟩:=own3_of hown hne hb;exact⟨g,cap,he,h⟩
theorem c_sort{w W:World}{g cap n:Nat}{zs:List Int}(h:Yr w W g cap n zs)(hbig:n<=17592186044416):Calls Tryz.prog 65 #[.slice (some ⟨g,0,none⟩) n cap] W fun e W2=>e = .returned (.tuple #[])/\Yr w W2 g cap n (zs.mergeSort fun x y=>decide (x<=y)):=by
 obtain⟨hb,hg,cur,hcur,hcap,hmax,hsz,ht,rfl⟩:=h;refine(Any.slices_Sort_int lays189 g 0 cap zs W (holds_of_blockI hcur ht) (O1 hcur) (by omega)).mono fun e W2 ⟨he,q,os,hW⟩=>⟨he,?_⟩;subst hW;have hl:(zs.mergeSort fun x y=>decide (x<=y)).length=zs.length:=List.length_mergeSort ..;have b2:=Qu (n:=q) (os:=os) (d:=(zs.mergeSort fun x y=>decide (x<=y)).toArray) hb hg;exact⟨b2,hg,_,heap_sortedI _ hcur,hcap,hmax,by simp[putCells,hsz],take_putCellsI cur _ (by omega),hl⟩
theorem c_compact{w W:World}{g cap n:Nat}{zs:List Int}(h:Yr w W g cap n zs)(hbig:n<=17592186044416):Calls Tryz.prog 66 #[.slice (some ⟨g,0,none⟩) n cap] W fun e W2=>e = .returned (.slice (some ⟨g,0,none⟩) (Lib.compact zs).length cap)/\Yr w W2 g cap (Lib.compact zs).length (Lib.compact zs):=by
 obtain⟨hb,hg,cur,hcur,hcap,hmax,hsz,ht,rfl⟩:=h;refine(Any.slices_Compact_int Xj g 0 cap zs W (holds_of_blockI hcur ht) (by omega) hcap).mono fun e W2 ⟨he,q,hW⟩=>⟨he,?_⟩;subst hW;have hcl:=Lib.compact_length_le zs
 generalize Lib.compact zs=cs at hcl ⊢
 generalize hts:cs++List.replicate (zs.length-cs.length) (0:Int)=ts
 have htl:ts.length=zs.length:=by rw[<- hts,I4,Rr];omega
 have b2:=Qu (n:=q) (os:=#[]) (d:=ts.toArray) hb hg;have h2:=heap_sortedI (n:=q) (os:=#[]) ts.toArray hcur;rw[grow_empty]at b2 h2;have h3:=take_putCellsI cur ts (by omega);refine⟨b2,hg,_,h2,by omega,hmax,by simp[putCells,hsz],?_,rfl⟩;have:=Bm (List.take cs.length) h3;rw[List.take_take,Nat.min_eq_left (by omega),<- List.map_take,<- hts,List.take_left' rfl]at this;rw[<- hts];exact this
def IntsOut(w w':World)(v:Value)(r:List Int):Prop:=
 (v = .slice none 0 0/\r=[])\/∃ g cap,v = .slice (some ⟨g,0,none⟩) r.length cap/\Yr w w' g cap r.length r
set_option maxHeartbeats 4000000 in
set_option maxRecDepth 100000 in
theorem w_rising(a:Option Addr)(n c:Nat)(zs:List Int)(w:World)(hz:zs.length=n)(hn:a=none->n=0)(hbig:n<=17592186044416)
  (hc:0<n->∃ b off,a=some ⟨b,off,none⟩/\∀ j,j<n->w.cell? ⟨b,off+j,none⟩=some (.int .i64 (zs.getD j 0))) :
  Calls Tryz.prog 38 #[.slice a n c] w fun e w'=>∃ v,e = .returned v/\Below w.heap.size w w'/\IntsOut w w' v (Lib.compact (zs.mergeSort fun x y=>decide (x<=y))):=by
 cases a with
 | none=>
  obtain rfl:=hn rfl;obtain rfl:zs=[]:=List.length_eq_zero_iff.1 hz
  have hr:Lib.compact (([]:List Int).mergeSort fun x y=>decide (x<=y))=[]:=by simp[Lib.compact,Lib.compactUpTo]
  rw[hr];have h1:Calls Tryz.prog 64 #[.slice none 0 c] w fun e w'=>e = .returned (.slice none 0 0)/\w'=w:=Any.slices_Clone_int_nil R5 0 c w;have h2:Calls Tryz.prog 65 #[.slice none 0 0] w fun e w'=>e = .returned (.tuple #[])/\w'=w:=Any.slices_Sort_int_none lays189 none 0 w;have h3:Calls Tryz.prog 66 #[.slice none 0 0] w fun e w'=>e = .returned (.slice none 0 0)/\w'=w:=Any.slices_Compact_int_empty Xj none 0 w
  go_enter Tryz.func38,Tryz.ntmps38
  go_wp2_with (first
   | (go_at_call 64;refine h1.mono ?_;rintro e W ⟨rfl,rfl⟩)
   | (go_at_call 65;refine h2.mono ?_;rintro e W ⟨rfl,rfl⟩)
   | (go_at_call 66;refine h3.mono ?_;rintro e W ⟨rfl,rfl⟩))
  go_ret
  exact⟨_,rfl,Below.refl _ _,.inl ⟨rfl,rfl⟩⟩
 | some ad=>
  have h1:Calls Tryz.prog 64 #[.slice (some ad) n c] w fun e W=>∃ g cap,e = .returned (.slice (some ⟨g,0,none⟩) n cap)/\Yr w W g cap n zs:=by
   by_cases h0:n=0
   ·subst h0;obtain rfl:zs=[]:=List.length_eq_zero_iff.1 hz;exact c_clone0 ad c w
   ·obtain⟨b,off,hab,hcell⟩:=hc (by omega);obtain rfl:=OI hab;exact c_clone b off n c zs w hz hbig hcell
  go_enter Tryz.func38,Tryz.ntmps38
  go_wp2_with (first
   | (go_at_call 64;refine h1.mono ?_;rintro e W ⟨g,cap,rfl,hO⟩)
   | (go_at_call 65;refine(c_sort hO hbig).mono ?_;rintro e W2 ⟨rfl,hO2⟩)
   | (go_at_call 66;refine(c_compact hO2 hbig).mono ?_;rintro e W3 ⟨rfl,hO3⟩))
  go_ret
  exact⟨_,rfl,hO3.1,.inr ⟨_,_,rfl,hO3⟩⟩
def insI(x:Int):List Int->List Int
 | []=>[x]
 | y::l=>if x<=y then x::y::l else y::insI x l
def isoI:List Int->List Int
 | []=>[]
 | x::l=>insI x (isoI l)
theorem insI_perm(x:Int):∀ l,(insI x l).Perm (x::l)
 | []=>.refl _
 | y::l=>by
  unfold insI
  split
  ·exact .refl _
  ·exact((insI_perm x l).cons y).trans (.swap x y l)
theorem insI_pw{x:Int}:∀{l:List Int},l.Pairwise (·<=·)->(insI x l).Pairwise (·<=·)
 | [],_=>by simp[insI]
 | y::l,h=>by
  have h':=zzL82.1 h;unfold insI
  split
  ·rename_i hxy
   exact zzL82.2 ⟨fun z hz=>by
    rcases zzL24.1 hz with rfl|hz
    ·exact hxy
    ·exact Int.le_trans hxy (h'.1 z hz),h⟩
  ·rename_i hxy
   refine zzL82.2 ⟨fun z hz=>?_,insI_pw h'.2⟩;rcases zzL24.1 ((insI_perm x l).mem_iff.1 hz) with rfl|hz
   ·omega
   ·exact h'.1 z hz
theorem Xi:∀ l,(isoI l).Perm l
 | []=>.refl _
 | x::l=>(insI_perm x _).trans ((Xi l).cons x)
theorem isoI_pw:∀ l,(isoI l).Pairwise (·<=·)
 | []=>.nil
 | x::l=>insI_pw (isoI_pw l)
theorem isoI_eq(l:List Int):isoI l=l.mergeSort fun x y=>decide (x<=y):=by
 refine List.Perm.eq_of_pairwise (le:=(·<=·)) (fun a b _ _ h1 h2=>Int.le_antisymm h1 h2) (isoI_pw l) ?_ ((Xi l).trans (List.mergeSort_perm l _).symm);have:=List.pairwise_mergeSort (le:=fun(x y:Int)=>decide (x<=y)) (fun a b c h1 h2=>by simp at *;omega) (fun a b=>by simp;omega) l
 exact this.imp fun h=>by simpa using h
def Abp(l:List Int):Option (List Int):=Bi (l.length<=17592186044416) (some (Lib.compact (isoI l)))
theorem xok_rising(l r:List Int)(h:Abp l=some r):Spec Tryz.prog 38 [AV.list 1 (fun x=>[.int .i64 x]) (0:Int) l .none] [] (AV.list 1 (fun x=>[.int .i64 x]) (0:Int) r .none) []:=by
 obtain⟨hlen,h⟩:=Ad h;rw[isoI_eq]at h;obtain rfl:=OI h;refine⟨enters_of Tryz.func38 (by kernel_rfl) rfl,fun w I θ zs hargs _ hval _=>?_⟩;obtain⟨v,rfl,hv⟩:=repL_one hargs;obtain⟨_,a,cap,us,rfl,hcap,hmax,hz,hnn,h1,hl,hr⟩:=hv.slice_val.slice_inv
 have hint:∀ i,i<l.length->us i = .int .i64 (l.getD i 0):=fun i hi=>by
  have:=hr i 0 hi (by omega);rw[Ru,Io]at this;have h2:RepV I w (us i) (.int .i64 (l.getD i 0)):=this;exact Rep.int_inv (own:=Ag []) (θ:=θ) (.val _ _ h2)
 refine(w_rising a l.length cap l w rfl (fun ha=>by have:=hnn ha;omega) hlen (fun hp=>?_)).mono fun e w' ⟨v,he,hb,hout⟩=>?_
 ·obtain⟨b,rfl,hs,_,hcell⟩:=hz hp;obtain⟨blk,off,spot⟩:=b;simp only at hs hcell;subst hs;exact⟨blk,off,rfl,fun j hj=>by rw[hcell j (by omega),hint j hj]⟩
 ·generalize Lib.compact (l.mergeSort fun x y=>decide (x<=y))=r at hout ⊢
  rcases hout with⟨rfl,rfl⟩|⟨g,cap',rfl,_,hg,cur,hcur,hc1,hc2,hc3,htake,_⟩
  ·exact⟨_,_,θ,he,Ph hb hval (N:=fun _ _=>False) (fun _ _ h=>h.elim),.val _ _ (.slice none 0 0 1 _ (fun _=>undef) (Bw _) (M8 _) (fun h=>by cases h) (fun _=>rfl) (fun j hj=>by simp at hj) (fun i hi=>by cases hi) (fun i c hi=>by cases hi))⟩
  ·have hcell:∀ j,j<r.length->w'.cell? ⟨g,j,none⟩=some (.int .i64 (r.getD j 0)):=fun j hj=>by
    rw[Gt _ _ _ cur 3 (0,0) hcur]
    have h2:(cur.toList.take r.length)[j]?=(r.map (Value.int .i64))[j]?:=by rw[htake]
    rw[List.getElem?_take_of_lt hj,Abr]at h2;rw[h2];simp[List.getD,hj]
   refine⟨_,_,θ,he,Ph hb hval (N:=fun b o=>b=g/\o<r.length) (fun b o ⟨hbg,ho⟩=>⟨by omega,by subst hbg;exact⟨_,hcell o ho⟩⟩),.val _ _ (.slice (some ⟨g,0,none⟩) r.length cap' 1 _ (fun j=>.int .i64 (r.getD j 0)) hc1 hc2 (fun _=>⟨⟨g,0,none⟩,rfl,rfl,fun j hj=>.inr ⟨rfl,by simpa using hj⟩,fun j hj=>by rw[E6];exact hcell j (by omega)⟩) (fun h=>by cases h) (fun _ _=>rfl) (fun _ _=>rfl) (fun i c hi hc=>?_))⟩
   obtain rfl:c=0:=by omega
   rw[Ru,Io];exact .int _ _
def Cy:=[30000,37006,9100005]
def Pf:=[(30000,30000),(37006,37006),(9100005,9100005)]
def C0:=[30000,37006]
def Iz:=[3,30000,37006,9100005]
def Hb:=[2,5,6,25,36007]
def K7:=[6,30000,37006,9100005]
def T2:=[(30000,30000),(37006,37006)]
def Hc:=[2,13,21]
def Mp:=[8,30000,37006]
def Jd:=[1,7,8,9]
def M9:=[30000,37006,13000005]
def Rw:=[3,5,30000,37006,9100005]
def Rx:=[0,4,6,21,22,30,31,32]
def P3:=[2,5,6,7,26,27,28]
def P4:=[1,3,5,21,22,23]
def Tk:=[5,30000,37006,9100005]
def zzN16:=[0,2,3,8,9,16,17,18,54,55,56,62,63,64]
def zzN17:=[0,2,3,5,16,17,18,24,25,26,31,32,33]
def P5:=[2,5,6,7,8,9]
def Yd:=[3,9,30000,37006,9100005]
def Oo:=[2,5,6,7,8]
def Oq:=[1,3,4,5,6]
def Aby:=[0,2,3,16,17,18,24,25,26]
def Abz:=[0,2,3,16,17,18,54,55,56]
def zzN24:=[(30000,30000),(37006,37006),(13000005,9200005)]
def Ed:=[0,1]
def zzN26:=[(30000,30000),(37006,37006),(9300005,9200005)]
def zzN27:=[1,3,5,6,7,21,22,23,50,51,52]
def Kq:=[10,70010]
def P6:=[1,3,7,5005]
def zzN30:=[1,3,5,6,7,21,22,23,50,51]
def zzN31:=[1,3,5,6,7,10,11,21,22,23,50,51]
def zzN32:=[1,3,5,6,7,10,21,22,23,50,51,63]
def Tl:=[1,7,8,9,10]
def Gu:=[2,3]
def Ye:=[3,31,30000,37006]
def V5:=[2,6,17,18,19]
def Tm:=[1,6,7,8,9]
def zzN38:=[3,4,11,12,13,18,19,20]
def zzN39:=[0,5,12,13,14,18,19,20]
def zzN40:=[6,7,30000,37006,9100005]
def zzN41:=[1,3,5,6,7,9,21,22,23,50,51]
def Yf:=[1,3,7,10,5005]
def V6:=[1,7,8,9,16]
def P7:=[0,21,22]
def Yg:=[31,30000,37006]
def Ry:=[1,3,5005]
def Ab0:=[0,2,3,16,17,18]
def zzN48:=[0,4,6,21,22,30,31,32,33]
def zzN49:=[0,4,6,21,22,30,31,32,40]
def Yh:=[0,5,8,9,10]
def zzN51:=[0,4,6,8,21,22,30,31,32]
def zzN52:=[(30000,30000),(37006,37006),(8,9200005)]
def P8:=[2,5,6]
def Yi:=[0,16,17,18]
def zzN55:=[2,5,6,7,8,9,10]
def zzN56:=[6,8,30000,37006,9100005]
def Ab1:=[3,30000,37006]
def zzN58:=[2,4,5,18,19,20]
def zzN59:=[0,6,8,9,10,11,12,13]
def Ab2:=[3,11,12,13]
def Ab3:=[0,12,13,14]
def Ab4:=[6,18,19,25]
def Na:=[0,3]
def Yj:=[2,5,6,7]
def Yk:=[0,1,7,8]
def Yl:=[18,19,20]
def Tn:=[2,5006]
def Ym:=[0,5,6,7]
def P9:=[2,16]
def V7:=[0,1,10]
def zzN71:=[2,5,6,7,9,10,26,27,28,44]
def V8:=[1,4,22]
def zzN73:=[30000,37006,9300005]
def Or:=[1,2]
def zzN75:=[0,1,5,6,8,9,10]
def zzN76:=[0,1,3,9,10]
def zzN77:=[0,1,5,14,15,16]
def zzN78:=[2,5,6,7,9,10,26,27,28]
def zzN79:=[3,10,11,12]
def zzN80:=[0,15,16,17]
def zzN81:=[0,21,22,23]
def zzN82:=[0,6,8,9,11,49]
def zzN83:=[2,5,6,7,26,27,28,29]
def Ab5:=[5,18,19]
def Ab6:=[6,18,19]
def Yn:=[1,2,5]
def zzN87:=[1,2,15,16,17]
def zzN88:=[2,5,6,7,9,26,27,28]
def zzN89:=[0,1,32,33,34]
def zzN90:=[10,30000,37006,9100005]
def zzN91:=[1,3,7,9,5005]
def zzN92:=[2,5,6,25]
def zzN93:=[2,5,6,7,8,9,10,60]
def zzN94:=[4,30000,37006,9100005]
def zzN95:=[0,3,4,14,15]
def zzN96:=[0,4,6,21,22]
def zzN97:=[1,4,9,10,11]
def zzN98:=[0,2,7,8]
def zzN99:=[0,1,5,6]
def zzN100:=[(34001,34001)]
def Sm:=[18,19]
def Zo:=[5,6,8,9]
def Sn:=[10,50]
def V1:=[5,6,7]
def zzN105:=[1,23,24,25]
def zzN106:=[(6004,20000)]
def V2:=[0,5,6]
def V3:=[0,1,5]
def zzN109:=[3,38,39,40]
def zzN110:=[0,37,38,39]
def V4:=[9,5006]
def zzN112:=[0,1,12,13]
def zzN113:=[0,6,21,22]
set_option maxRecDepth 100000
set_option maxHeartbeats 2000000
def Aq(x:Int):List AV:=[(.int .i64 x)]
def Ep(x:List Int):List AV:=[(AV.list 1 Aq 0 x .none)]
structure Ab where
 Bits:Int
 Dst:Int
 From:List Int
 Args:List Int
 deriving Inhabited,DecidableEq
def Pi(x:Ab):List AV:=[(.int .i64 x.Bits),(.int .i64 x.Dst),(AV.list 1 Aq 0 x.From .none),(AV.list 1 Aq 0 x.Args .none)]
structure Aj where
 Kind:Int
 Bits:Int
 Lanes:Int
 Dst:Int
 Args:List Int
 Imm:Int
 deriving Inhabited,DecidableEq
def Eh(x:Aj):List AV:=[(.int .i64 x.Kind),(.int .i64 x.Bits),(.int .i64 x.Lanes),(.int .i64 x.Dst),(AV.list 1 Aq 0 x.Args .none),(.int .u64 x.Imm)]
structure Ac where
 Kind:Int
 Arg:Int
 To:List Int
 deriving Inhabited,DecidableEq
def eTEnd(x:Ac):List AV:=[(.int .i64 x.Kind),(.int .i64 x.Arg),(AV.list 1 Aq 0 x.To .none)]
structure Aa where
 Phis:List Ab
 Ops:List Aj
 End:Ac
 deriving Inhabited,DecidableEq
def Bj(x:Aa):List AV:=[(AV.list 4 Pi default x.Phis .none),(AV.list 6 Eh default x.Ops .none),(.int .i64 x.End.Kind),(.int .i64 x.End.Arg),(AV.list 1 Aq 0 x.End.To .none)]
structure Ae where
 Params:List Int
 Ret:Int
 Blocks:List Aa
 deriving Inhabited,DecidableEq
def eTFunc(x:Ae):List AV:=[(AV.list 1 Aq 0 x.Params .none),(.int .i64 x.Ret),(AV.list 5 Bj default x.Blocks .none)]
structure Ai where
 At:Int
 Then:Int
 Else:Int
 Join:Int
 deriving Inhabited,DecidableEq
def Ba(x:Ai):List AV:=[(.int .i64 x.At),(.int .i64 x.Then),(.int .i64 x.Else),(.int .i64 x.Join)]
def Bc(x:(Int×Int)):List AV:=[(.int .i64 x.1),(.int .i64 x.2)]
structure Ee where
 block:Int
 at_:Int
 deriving Inhabited,DecidableEq
def T9(x:Ee):List AV:=[(.int .i64 x.block),(.int .i64 x.at_)]
structure Ao where
 v:Int
 shape:(Int×Int)
 place:Ee
 deriving Inhabited,DecidableEq
def F4(x:Ao):List AV:=[(.int .i64 x.v),(.int .i64 x.shape.1),(.int .i64 x.shape.2),(.int .i64 x.place.block),(.int .i64 x.place.at_)]
structure Ax where
 Succ:List (List Int)
 Pred:List (List Int)
 deriving Inhabited,DecidableEq
def Kc(x:Ax):List AV:=[(AV.list 1 Ep [] x.Succ .none),(AV.list 1 Ep [] x.Pred .none)]
def eB(x:Bool):List AV:=[(.bool x)]
structure Ak where
 shape:(Int×Int)
 place:Ee
 deriving Inhabited,DecidableEq
def eTvalue(x:Ak):List AV:=[(.int .i64 x.shape.1),(.int .i64 x.shape.2),(.int .i64 x.place.block),(.int .i64 x.place.at_)]
structure Tu where
 V:Int
 Block:Int
 At:Int
 Shape:(Int×Int)
 deriving Inhabited,DecidableEq
structure Wf where
 V:Int
 Block:Int
 At:Int
 Shape:(Int×Int)
 deriving Inhabited,DecidableEq
theorem mix:Tryz.prog.follows .mixedOrders=true:=by kernel_rfl
def Cm:List Aa:=([(⟨([]:List Ab),([]:List Aj),(⟨(2:Int),(1:Int),([(1:Int),(2:Int)]:List Int)⟩:Ac)⟩:Aa),(⟨([]:List Ab),([(⟨(7:Int),(1:Int),(1:Int),(2:Int),([(1:Int),(1:Int)]:List Int),(0:Int)⟩:Aj)]:List Aj),(⟨(1:Int),(0:Int),([(3:Int)]:List Int)⟩:Ac)⟩:Aa),(⟨([]:List Ab),([]:List Aj),(⟨(1:Int),(0:Int),([(3:Int)]:List Int)⟩:Ac)⟩:Aa),(⟨([]:List Ab),([]:List Aj),(⟨(0:Int),(1:Int),([]:List Int)⟩:Ac)⟩:Aa)]:List Aa)
def Z1:=fun za zb zc zd zf zg zm=>((30000,.row 103 [(AV.list 1 Aq 0 za .none),(.int .i64 zb),(AV.list 5 Bj default zc .none),(.int .i64 zd),(AV.list 1 Aq 0 zf .none),(.omap zg),(AV.list 5 F4 default zm (.own 37006))]):Nat×Own)
def Z2:=fun za=>(⟨[],[],(.bool za),[],[],[]⟩:Nl)
def Z3:=fun za zb zc zd zf zg zm=>([(30000,.row 103 [(AV.list 1 Aq 0 za .none),(.int .i64 zb),(AV.list 5 Bj default zc .none),(.int .i64 zd),(AV.list 1 Aq 0 zf .none),.nilm,(AV.list 5 F4 default zg (.own 37006))]),(37006,.tok 5 149 zm)]:List (Nat×Own))
def Z4:=fun za (zb:List Int)=>((za,.arr 1 3 zb.length (fun i=>Aq (zb.getD i 0))):Nat×Own)
def Z5:=fun za=>((AV.list 2 Bc ((0:Int),(0:Int)) za .none):AV)
def Z6:=fun za zb zc=>((.clo 60 [] [(.rpo [(AV.list 5 Bj default za .none)]),(.rpo [(AV.list 1 Ep [] zb .none)]),(.rpo [(.int .i64 zc)])]):AV)
def Z7:=fun za=>((.int .i64 za):AV)
def Z8:=fun za=>((AV.list 1 Aq 0 za .none):AV)
def Z9:=fun za zb zc zd zf zg zm zn=>([(Z1 za zb zc zd zf 9100005 zg),(37006,.tok 5 149 zm),(9100005,.obj (.map false .i64 zn))]:List (Nat×Own))
def Z10:=fun za zb=>([(10,.arr 1 22 za (H7 1 Aq (0:Int) zb (Tag.fam 70010)))]:List (Nat×Own))
def Z11:=fun za (zb:List Int) (zc:List Int)=>((.slice 1 (bif za then zb.length else zc.length) (fun i=>bif za then Aq (zb.getD i 0) else Aq (zc.getD i 0)) .none):AV)
def J6:=fun za=>((37006,.tok 5 149 za):Nat×Own)
def Tv:=fun za=>((AV.list 1 Ep [] za .none):AV)
def Z14:=((.agg [(.int .i64 (0:Int)),(.int .i64 (0:Int)),(.int .i64 (0:Int)),(.int .i64 (0:Int))]):AV)
def Z15:=fun za=>((AV.list 5 Bj default za .none):AV)
def Z16:=fun za zb zc zd zf zg zm zn=>(⟨[(30000,30000),(37006,37006),(9100005,9100005)],[],(.tuple []),(Z9 za zb zc zd zf zg zm zn),[],[]⟩:Nl)
def Z17:=fun za (zb:List Ao) (zc:List Ao)=>((.slice 5 (bif za then zb.length else zc.length) (fun i=>bif za then F4 (zb.getD i default) else F4 (zc.getD i default)) (.own 37006)):AV)
def Z18:=fun za zb=>([(66,(AV.list 4 Ba default ([za]:List Ai) .exact)),(67,(AV.list 4 Ba default (zb++([za]:List Ai)) (.own 5005)))]:List (Nat×AV))
def Z19:=fun za zb=>([(.agg (Ba za)),(.bool zb)]:List AV)
def Lt:=fun za=>((.agg (eTvalue za)):AV)
def Z21:=fun za zb zc zd zf zg=>((30000,.row 103 [(Z8 za),(Z7 zb),(Z15 zc),(Z7 zd),(Z8 zf),(.omap 8),(AV.list 5 F4 default zg (.own 37006))]):Nat×Own)
def Z22:=fun za zb=>((AV.list 1 Aq 0 za (.own zb)):AV)
def Yw:=fun za zb zc zd zf zg zm=>([(Z1 za zb zc zd zf 9100005 zg),(J6 zm)]:List (Nat×Own))
def Z24:=((AV.list 1 Aq 0 ([]:List Int) .exact):AV)
def Z25:=fun za=>((AV.list 1 Aq 0 ([za]:List Int) .exact):AV)
def Z26:=fun za zb zc=>(⟨[],[],(.tuple [(Z7 za),(Z7 zb),(.bool zc)]),[],[],[]⟩:Nl)
def Z27:=((AV.list 2 Bc ((0:Int),(0:Int)) ([]:List (Int×Int)) .exact):AV)
def W4:=((.int .i64 (0:Int)):AV)
def Z29:=fun za zb=>((.agg (eTvalue (Ds (default:Ak) za zb))):AV)
def Z30:=fun za=>(⟨[],[],(Z5 za),[],[],[]⟩:Nl)
def Z31:=fun za=>(⟨[],[],(Z7 za),[],[],[]⟩:Nl)
def Z32:=((.int .i64 (2:Int)):AV)
def Z33:=fun za (zb:List Aa) (zc:List Aa)=>((.slice 5 (bif za then zb.length else zc.length) (fun i=>bif za then Bj (zb.getD i default) else Bj (zc.getD i default)) .none):AV)
def Z34:=fun za zb=>((AV.list 6 Eh default za (.own zb)):AV)
def Z35:=fun za zb=>((AV.list 4 Ba default za (.own zb)):AV)
def Z36:=fun(za:List Int)=>((6,.arr 1 128 64 (fun i=>Aq (za.getD i 0))):Nat×Own)
def Z37:=fun za zb zc zd=>((.agg [za,(.int .i64 (8:Int)),zb,(.int .i64 (A8 ((2:Int)+zc))),zd,(.int .u64 (H9 zc))]):AV)
def Z38:=fun za zb zc zd zf zg zm zn zp=>(⟨[(30000,30000),(37006,37006),(9100005,9100005)],[],(.agg (T9 za)),(Z9 zb zc zd zf zg zm zn zp),[],[]⟩:Nl)
def Yx:=((.ptr 30000 0):AV)
def Z40:=fun za (zb:List Int) (zc:List Int)=>((.slice 1 (bif (za==true) then zb.length else zc.length) (fun i=>bif (za==true) then Aq (zb.getD i 0) else Aq (zc.getD i 0)) .none):AV)
def Z41:=fun za zb zc zd zf zg zm zn=>(⟨[(30000,30000),(37006,37006)],[],(.bool za),(Z3 zb zc zd zf zg zm zn),[],[]⟩:Nl)
def Wg:=((2,(.ptr 2 0)):Nat×AV)
def Z43:=fun(za:List (Int×Int))=>([(30,.arr 2 88 za.length (fun i=>Bc (za.getD i ((0:Int),(0:Int)))))]:List (Nat×Own))
def Z44:=((.slice 0 0 (fun _=>[]) .exact):AV)
def Z45:=fun za zb zc=>((.int .i64 (bif za then zb else zc)):AV)
def Z46:=fun za zb zc zd zf zg zm zn zp=>(⟨[(30000,30000),(37006,37006),(9100005,9100005)],[],(.bool za),(Z9 zb zc zd zf zg zm zn zp),[],[]⟩:Nl)
def Z47:=fun za=>((AV.list 4 Pi default za .none):AV)
def Z48:=fun za=>(⟨[],[],(.agg (Bc za)),[],[],[]⟩:Nl)
def Z49:=((6,(.vpt 6 64 0 0)):Nat×AV)
def Z50:=fun za=>((.int .i64 (za:Int)):AV)
def Z51:=fun za zb=>(⟨[],[],(.tuple (Z19 za zb)),[],[],[]⟩:Nl)
def Z52:=fun za zb=>([(.int .u64 za),(.int .u64 zb)]:List AV)
def Z53:=(⟨[(4,(AV.list 1 Aq 0 ([]:List Int) (.own 6004)))],[(6004,.tok 1 3 (([]:List Int).length))],[]⟩:St)
def Z54:=fun za zb=>(⟨[(30000,30000),(37006,37006)],[],(Z7 za),zb,[],[]⟩:Nl)
def Z55:=((5,(.vpt 5 64 0 0)):Nat×AV)
def Z56:=fun za=>((.agg (eTFunc za)):AV)
def Z57:=fun za=>((AV.list 6 Eh default za .none):AV)
def Z58:=fun za=>((AV.list 1 Aq 0 za .exact):AV)
def Z59:=fun za=>((6,.arr 1 128 64 za):Nat×Own)
def Z60:=fun za=>((5,.arr 1 82 64 za):Nat×Own)

def Q5:AV:=(.int .i64 (1:Int))
def Q9:AV:=W4
def Q7:AV:=Z44
def Q8:AV:=Z24
def Q4:AV:=(AV.list 6 Eh default ([]:List Aj) .exact)
def Q3:AV:=(AV.list 4 Pi default ([]:List Ab) .exact)
def Q2:AV:=(AV.list 1 Aq 0 ([(3:Int)]:List Int) .exact)
def Q6:AV:=(AV.list 1 Aq 0 ([(1:Int),(2:Int)]:List Int) .exact)
def Q10:AV:=(AV.list 5 Bj default Cm .exact)
def Q11:=(⟨[(0,(.ptr 0 0))],[(0,.row 25 [(AV.list 1 Aq 0 ([(1:Int)]:List Int) .exact),Q5,Q10])],[]⟩:St)
def Q1:AV:=(AV.list 6 Eh default ([(⟨(7:Int),(1:Int),(1:Int),(2:Int),([(1:Int),(1:Int)]:List Int),(0:Int)⟩:Aj)]:List Aj) .exact)
def m_locksteplaw14_diamond :Option Ae:=
 (some (⟨([(1:Int)]:List Int),(1:Int),Cm⟩:Ae))
theorem K4  (r:Ae) (h:m_locksteplaw14_diamond=some r):Spec Tryz.prog 25 [] [] (Z56 r) []:=by
 refine Af mix Tryz.func25 (fun Γ hq=>?_);unfold m_locksteplaw14_diamond at h;refine Am hq [0] [0] ?_;refine gR hq [0] [0] [(1,(AV.list 1 Aq 0 ([(1:Int)]:List Int) .exact)),(2,Q6),(4,(.agg [Q3,Q4,Z32,Q5,Q6])),(5,(AV.list 1 Aq 0 ([(1:Int),(1:Int)]:List Int) .exact)),(7,Q1),(8,Q2),(10,(.agg [Q3,Q1,Q5,Q9,Q2])),(11,Q2),(13,(.agg [Q3,Q4,Q5,Q9,Q2])),(14,(.agg [Q9,Q5,Q8])),(15,(.agg [Q3,Q4,Q9,Q5,Q8])),(16,Q10)] [] (ci (A6 1 Aq (0:Int) ([(1:Int)]:List Int)) (ci (A6 1 Aq (0:Int) ([(1:Int),(2:Int)]:List Int)) (ci (show(AVle (.agg [Q7,Q7,Z32,Q5,Q6]) (.agg [Q3,Q4,Z32,Q5,Q6])) from(AVle.agg (.cons Cl (.cons Cl (.cons (AVle.refl _) (.cons (AVle.refl _) (.cons (AVle.refl _) .nil))))))) (ci (A6 1 Aq (0:Int) ([(1:Int),(1:Int)]:List Int)) (ci (A6 6 Eh (default:Aj) ([(⟨(7:Int),(1:Int),(1:Int),(2:Int),([(1:Int),(1:Int)]:List Int),(0:Int)⟩:Aj)]:List Aj)) (ci (A6 1 Aq (0:Int) ([(3:Int)]:List Int)) (ci (show(AVle (.agg [Q7,Q1,Q5,Q9,Q2]) (.agg [Q3,Q1,Q5,Q9,Q2])) from(AVle.agg (.cons Cl (.cons (AVle.refl _) (.cons (AVle.refl _) (.cons (AVle.refl _) (.cons (AVle.refl _) .nil))))))) (ci (A6 1 Aq (0:Int) ([(3:Int)]:List Int)) (ci (show(AVle (.agg [Q7,Q7,Q5,Q9,Q2]) (.agg [Q3,Q4,Q5,Q9,Q2])) from(AVle.agg (.cons Cl (.cons Cl (.cons (AVle.refl _) (.cons (AVle.refl _) (.cons (AVle.refl _) .nil))))))) (ci (show(AVle (.agg [Q9,Q5,Q7]) (.agg [Q9,Q5,Q8])) from(AVle.agg (.cons (AVle.refl _) (.cons (AVle.refl _) (.cons Cl .nil))))) (ci (show(AVle (.agg [Q7,Q7,Q9,Q5,Q8]) (.agg [Q3,Q4,Q9,Q5,Q8])) from(AVle.agg (.cons Cl (.cons Cl (.cons (AVle.refl _) (.cons (AVle.refl _) (.cons (AVle.refl _) .nil))))))) (c1 (A6 5 Bj (default:Aa) Cm))))))))))))) ?_;refine Q0 Q11 ?_;cases h;exact gK (e:=.ret) (Ig [] (show Le Γ _ (⟨[(0,(.ptr 0 0))],[(0,.row 25 [(AV.list 1 Aq 0 ([(1:Int)]:List Int) .none),Q5,(AV.list 5 Bj default Cm .none)])],[]⟩:St) from Le.trans (Cn (st':=Q11) [0] [0] hq) (Mx (.cons (AVle.refl _) .nil) (.row (.cons AVle.untag (.cons (AVle.refl _) (.cons AVle.untag .nil))) .nil))))
def Nz(a3:Ae):(Int×Int)->Option (LR (Int×Int) Int):=
 fun((i1,i2):(Int×Int))=>(bif (decide (i2<(a3.Blocks.length:Int))) then(Bi (Bk i2 a3.Blocks.length) (some (.next ((A8 (i1+(A8 ((((a3.Blocks.getD i2.toNat default).Phis).length:Int)+(((a3.Blocks.getD i2.toNat default).Ops).length:Int))))),(A8 (i2+1)))))) else(some (.done i1)))
def Ny(a3:Ae):Option Int:=
 ((Bd (Nz a3) ((a3.Blocks.length:Int),(0:Int))).bind (fun x5=>(some x5)))
theorem Y7(a3:Ae)(r:Int)(h:Ny a3=some r):Spec Tryz.prog 135 [(Z56 a3)] [] (.int .i64 r) []:=by
 refine Af mix Tryz.func135 (fun Γ hq=>?_);unfold Ny at h;refine Am hq [1] [1] ?_;refine Am hq [1,3] [1] ?_;refine Am hq zzN79 [] ?_;obtain⟨x5,hx5,h⟩:=bind_some h;refine gL hq hx5 zzN79 [] (fun u (i1,i2)=>(Df u [(3,(Z7 i1)),(12,(Z7 i2))] [])) (fun u i3=>aG Γ (.exit 0) (⟨[(3,(Z7 i3))],[],[]⟩:St)) ?_ ?_
 ·rintro⟨i1,i2⟩ y h;unfold Nz at h;refine Am hq [3,10,11,12,13] [] ?_;refine gC h ?_ ?_<;>intro h
  ·obtain⟨hc4,h⟩:=Ad h;refine gR hq [3,5,10,11,12] [5] [] [] (c1 hc4) ?_;refine Am hq zzN79 [] ?_;refine Am hq zzN79 [] ?_;cases h;exact gN De
  ·cases h;exact gO (Ck (Cn [3] [] hq))
 ·clear hx5;refine gA ?_;refine Am hq [2] [] ?_;obtain rfl:=OI h;exact B6 []
def Ij(aB:List Int):Int->Option (LR Int (Unit ⊕ Bool)):=
 fun(i1:Int)=>(bif (decide (i1<(aB.length:Int))) then(Bi (Bk i1 aB.length) (bif (bif (decide (((aB.getD i1.toNat 0):Int)<0)) then true else(decide (((2147483647:Int):Int)<(aB.getD i1.toNat 0)))) then(some (.done (.inr false))) else(some (.next (A8 (i1+1)))))) else(some (.done (.inl ()))))
def Qo(Γ:Du)(aB:List Int)(r:Bool):Exit->St->Prop:=fK Tryz.prog Γ Tryz.f136.results.toList [] (.bool r) []
def B8(aB:List Int):Option Bool:=
 ((Bd (Ij aB) (0:Int)).bind (fun x3=>(match x3 with|(.inl _)=>(some true)|(.inr r5)=>(some r5))))
theorem Co(aB:List Int)(r:Bool)(h:B8 aB=some r):Spec Tryz.prog 136 [(Z8 aB)] [] (.bool r) []:=by
 refine Af mix Tryz.func136 (fun Γ hq=>?_);unfold B8 at h;refine Am hq [0] [] ?_;refine Am hq V1 [] ?_;obtain⟨x3,hx3,h⟩:=bind_some h;refine gL hq hx3 V1 [] (fun u i1=>(Df u [(7,(Z7 i1))] [])) (fun u x_=>match x_ with|(.inl _)=>aG Γ (.exit 0) (⟨[],[],[]⟩:St)|(.inr r_)=>aR (Qo Γ aB r_)) ?_ ?_
 ·intro i1 y h;unfold Ij at h;refine Am hq [5,6,7,8] [] ?_;refine gC h ?_ ?_<;>intro h
  ·obtain⟨hc2,h⟩:=Ad h;refine gR hq [4,5,6,7] [] [] [] (c1 hc2) ?_;refine gR hq [5,6,7,16] [] [] [] (ci (gI ((decide (((aB.getD i1.toNat 0):Int)<0))==false)) (c1 (Ox (decide (((aB.getD i1.toNat 0):Int)<0))))) ?_;refine gC h ?_ ?_<;>intro h
   ·refine Am hq [2] [] ?_;cases h;exact gO (Ms (Ig [] (Le.refl _ _)))
   ·refine Am hq V1 [] ?_;cases h;exact gN De
  ·cases h;exact gO (Ck (Cn [] [] hq))
 ·clear hx3;rcases x3 with _|r5
  ·refine gA ?_;refine Am hq [2] [] ?_;obtain rfl:=OI h;exact B6 []
  ·refine Qe (fun st' hk=>?_);obtain rfl:=OI h;exact gK hk
def Dm(aB:List Int):Option Bool:=
 ((bif ((decide (((aB.length:Int):Int)<=64))==true) then B8 aB else some false).bind fun x1=>(some (bif (decide (((aB.length:Int):Int)<=64)) then x1 else false)))
theorem F1(aB:List Int)(r:Bool)(h:Dm aB=some r):Spec Tryz.prog 164 [(Z8 aB)] [] (.bool r) []:=by
 refine Af mix Tryz.func164 (fun Γ hq=>?_);unfold Dm at h;refine Am hq [0] [] ?_;obtain⟨x1,hx1,h⟩:=bind_some h;refine gR hq [2] [] [] [(Z2 x1)] (ci (gI ((decide (((aB.length:Int):Int)<=64))==true)) (ci (fun(hg:((decide (((aB.length:Int):Int)<=64))==true)=true)=>(Co aB x1 (Bn hg hx1))) (c1 (Kr (decide (((aB.length:Int):Int)<=64)))))) ?_;cases h;exact B6 []
def Jl(aU:Ab):Option Bool:=
 ((B8 ([aU.Bits,aU.Dst]:List Int)).bind fun x1=>((bif (x1==true) then Dm aU.From else some false).bind fun x2=>((bif ((bif x1 then x2 else false)==true) then Dm aU.Args else some false).bind fun x3=>(some (bif (bif x1 then x2 else false) then x3 else false)))))
theorem Tx(aU:Ab)(r:Bool)(h:Jl aU=some r):Spec Tryz.prog 155 [(.agg (Pi aU))] [] (.bool r) []:=by
 refine Af mix Tryz.func155 (fun Γ hq=>?_);unfold Jl at h;refine Am hq [1] [1] ?_;obtain⟨x1,hx1,h⟩:=bind_some h;obtain⟨x2,hx2,h⟩:=bind_some h;obtain⟨x3,hx3,h⟩:=bind_some h;refine gR hq [2] [] [(7,(AV.list 1 Aq 0 ([aU.Bits,aU.Dst]:List Int) .exact))] [(Z2 x1),(Z2 x2),(Z2 x3)] (ci (A6 1 Aq (0:Int) ([aU.Bits,aU.Dst]:List Int)) (ci (Co ([aU.Bits,aU.Dst]:List Int) x1 hx1) (ci (gI (x1==true)) (ci (gI (x1==true)) (ci (fun(hg:(x1==true)=true)=>(F1 aU.From x2 (Bn hg hx2))) (ci (Kr x1) (ci (gI ((bif x1 then x2 else false)==true)) (ci (gI ((bif x1 then x2 else false)==true)) (ci (fun(hg:((bif x1 then x2 else false)==true)=true)=>(F1 aU.Args x3 (Bn hg hx3))) (c1 (Kr (bif x1 then x2 else false)))))))))))) ?_;cases h;exact B6 []
def Gj(aB:List Ab):Int->Option (LR Int (Unit ⊕ Bool)):=
 fun(i1:Int)=>(bif (decide (i1<(aB.length:Int))) then(Bi (Bk i1 aB.length) ((Jl (aB.getD i1.toNat default)).bind fun x3=>(bif (!x3) then(some (.done (.inr false))) else(some (.next (A8 (i1+1))))))) else(some (.done (.inl ()))))
def Nc(Γ:Du)(aB:List Ab)(r:Bool):Exit->St->Prop:=fK Tryz.prog Γ Tryz.f154.results.toList [] (.bool r) []
def E2(aB:List Ab):Option Bool:=
 ((Bd (Gj aB) (0:Int)).bind (fun x4=>(match x4 with|(.inl _)=>(some true)|(.inr r6)=>(some r6))))
theorem Ml(aB:List Ab)(r:Bool)(h:E2 aB=some r):Spec Tryz.prog 154 [(Z47 aB),(.clo 155 [] [])] [] (.bool r) []:=by
 refine Af mix Tryz.func154 (fun Γ hq=>?_);unfold E2 at h;refine Am hq Ed [] ?_;refine Am hq Jd [] ?_;obtain⟨x4,hx4,h⟩:=bind_some h;refine gL hq hx4 Jd [] (fun u i1=>(Df u [(9,(Z7 i1))] [])) (fun u x_=>match x_ with|(.inl _)=>aG Γ (.exit 0) (⟨[],[],[]⟩:St)|(.inr r_)=>aR (Nc Γ aB r_)) ?_ ?_
 ·intro i1 y h;unfold Gj at h;refine Am hq Tl [] ?_;refine gC h ?_ ?_<;>intro h
  ·obtain⟨hc2,h⟩:=Ad h;refine gR hq Tm [6] [] [] (c1 hc2) ?_;obtain⟨x3,hx3,h⟩:=bind_some h;refine gR hq V6 [] [] [(Z2 x3)] (c1 (Tx (aB.getD i1.toNat default) x3 hx3)) ?_;refine gC h ?_ ?_<;>intro h
   ·refine Am hq [4] [] ?_;cases h;exact gO (Ms (Ig [] (Le.refl _ _)))
   ·refine Am hq Jd [] ?_;cases h;exact gN De
  ·cases h;exact gO (Ck (Cn [] [] hq))
 ·clear hx4;rcases x4 with _|r6
  ·refine gA ?_;refine Am hq [4] [] ?_;obtain rfl:=OI h;exact B6 []
  ·refine Qe (fun st' hk=>?_);obtain rfl:=OI h;exact gK hk
def Ku(a0:Aj):Option Bool:=
 ((B8 ([a0.Kind,a0.Bits,a0.Lanes,a0.Dst]:List Int)).bind fun x1=>((bif (x1==true) then Dm a0.Args else some false).bind fun x2=>(some (bif x1 then x2 else false))))
theorem U3(a0:Aj)(r:Bool)(h:Ku a0=some r):Spec Tryz.prog 157 [(.agg (Eh a0))] [] (.bool r) []:=by
 refine Af mix Tryz.func157 (fun Γ hq=>?_);unfold Ku at h;refine Am hq [1] [1] ?_;obtain⟨x1,hx1,h⟩:=bind_some h;obtain⟨x2,hx2,h⟩:=bind_some h;refine gR hq [2] [] [(11,(AV.list 1 Aq 0 ([a0.Kind,a0.Bits,a0.Lanes,a0.Dst]:List Int) .exact))] [(Z2 x1),(Z2 x2)] (ci (A6 1 Aq (0:Int) ([a0.Kind,a0.Bits,a0.Lanes,a0.Dst]:List Int)) (ci (Co ([a0.Kind,a0.Bits,a0.Lanes,a0.Dst]:List Int) x1 hx1) (ci (gI (x1==true)) (ci (gI (x1==true)) (ci (fun(hg:(x1==true)=true)=>(F1 a0.Args x2 (Bn hg hx2))) (c1 (Kr x1))))))) ?_;cases h;exact B6 []
def G6(aB:List Aj):Int->Option (LR Int (Unit ⊕ Bool)):=
 fun(i1:Int)=>(bif (decide (i1<(aB.length:Int))) then(Bi (Bk i1 aB.length) ((Ku (aB.getD i1.toNat default)).bind fun x3=>(bif (!x3) then(some (.done (.inr false))) else(some (.next (A8 (i1+1))))))) else(some (.done (.inl ()))))
def Nn(Γ:Du)(aB:List Aj)(r:Bool):Exit->St->Prop:=fK Tryz.prog Γ Tryz.f156.results.toList [] (.bool r) []
def Fn(aB:List Aj):Option Bool:=
 ((Bd (G6 aB) (0:Int)).bind (fun x4=>(match x4 with|(.inl _)=>(some true)|(.inr r6)=>(some r6))))
theorem Nh(aB:List Aj)(r:Bool)(h:Fn aB=some r):Spec Tryz.prog 156 [(Z57 aB),(.clo 157 [] [])] [] (.bool r) []:=by
 refine Af mix Tryz.func156 (fun Γ hq=>?_);unfold Fn at h;refine Am hq Ed [] ?_;refine Am hq Jd [] ?_;obtain⟨x4,hx4,h⟩:=bind_some h;refine gL hq hx4 Jd [] (fun u i1=>(Df u [(9,(Z7 i1))] [])) (fun u x_=>match x_ with|(.inl _)=>aG Γ (.exit 0) (⟨[],[],[]⟩:St)|(.inr r_)=>aR (Nn Γ aB r_)) ?_ ?_
 ·intro i1 y h;unfold G6 at h;refine Am hq Tl [] ?_;refine gC h ?_ ?_<;>intro h
  ·obtain⟨hc2,h⟩:=Ad h;refine gR hq Tm [6] [] [] (c1 hc2) ?_;obtain⟨x3,hx3,h⟩:=bind_some h;refine gR hq V6 [] [] [(Z2 x3)] (c1 (U3 (aB.getD i1.toNat default) x3 hx3)) ?_;refine gC h ?_ ?_<;>intro h
   ·refine Am hq [4] [] ?_;cases h;exact gO (Ms (Ig [] (Le.refl _ _)))
   ·refine Am hq Jd [] ?_;cases h;exact gN De
  ·cases h;exact gO (Ck (Cn [] [] hq))
 ·clear hx4;rcases x4 with _|r6
  ·refine gA ?_;refine Am hq [4] [] ?_;obtain rfl:=OI h;exact B6 []
  ·refine Qe (fun st' hk=>?_);obtain rfl:=OI h;exact gK hk
def Jk(aE:Ac):Option Bool:=
 ((B8 ([aE.Kind,aE.Arg]:List Int)).bind fun x1=>((bif (x1==true) then Dm aE.To else some false).bind fun x2=>(some (bif x1 then x2 else false))))
theorem Tw(aE:Ac)(r:Bool)(h:Jk aE=some r):Spec Tryz.prog 158 [(.agg (eTEnd aE))] [] (.bool r) []:=by
 refine Af mix Tryz.func158 (fun Γ hq=>?_);unfold Jk at h;refine Am hq [1] [1] ?_;obtain⟨x1,hx1,h⟩:=bind_some h;obtain⟨x2,hx2,h⟩:=bind_some h;refine gR hq [2] [] [(7,(AV.list 1 Aq 0 ([aE.Kind,aE.Arg]:List Int) .exact))] [(Z2 x1),(Z2 x2)] (ci (A6 1 Aq (0:Int) ([aE.Kind,aE.Arg]:List Int)) (ci (Co ([aE.Kind,aE.Arg]:List Int) x1 hx1) (ci (gI (x1==true)) (ci (gI (x1==true)) (ci (fun(hg:(x1==true)=true)=>(F1 aE.To x2 (Bn hg hx2))) (c1 (Kr x1))))))) ?_;cases h;exact B6 []
def H3(aJ:Aa):Option Bool:=
 ((E2 aJ.Phis).bind fun x1=>((bif (x1==true) then Fn aJ.Ops else some false).bind fun x2=>((bif ((bif x1 then x2 else false)==true) then Jk (⟨aJ.End.Kind,aJ.End.Arg,aJ.End.To⟩:Ac) else some false).bind fun x3=>(some (bif (bif x1 then x2 else false) then x3 else false)))))
theorem Rl(aJ:Aa)(r:Bool)(h:H3 aJ=some r):Spec Tryz.prog 138 [(.agg (Bj aJ))] [] (.bool r) []:=by
 refine Af mix Tryz.func138 (fun Γ hq=>?_);unfold H3 at h;refine Am hq [1] [1] ?_;obtain⟨x1,hx1,h⟩:=bind_some h;obtain⟨x2,hx2,h⟩:=bind_some h;obtain⟨x3,hx3,h⟩:=bind_some h;refine gR hq [2] [] [] [(Z2 x1),(Z2 x2),(Z2 x3)] (ci (Ml aJ.Phis x1 hx1) (ci (gI (x1==true)) (ci (gI (x1==true)) (ci (fun(hg:(x1==true)=true)=>(Nh aJ.Ops x2 (Bn hg hx2))) (ci (Kr x1) (ci (gI ((bif x1 then x2 else false)==true)) (ci (gI ((bif x1 then x2 else false)==true)) (ci (fun(hg:((bif x1 then x2 else false)==true)=true)=>(Tw (⟨aJ.End.Kind,aJ.End.Arg,aJ.End.To⟩:Ac) x3 (Bn hg hx3))) (c1 (Kr (bif x1 then x2 else false))))))))))) ?_;cases h;exact B6 []
def Fm(aB:List Aa):Int->Option (LR Int (Unit ⊕ Bool)):=
 fun(i1:Int)=>(bif (decide (i1<(aB.length:Int))) then(Bi (Bk i1 aB.length) ((H3 (aB.getD i1.toNat default)).bind fun x3=>(bif (!x3) then(some (.done (.inr false))) else(some (.next (A8 (i1+1))))))) else(some (.done (.inl ()))))
def K9(Γ:Du)(aB:List Aa)(r:Bool):Exit->St->Prop:=fK Tryz.prog Γ Tryz.f137.results.toList [] (.bool r) []
def D1(aB:List Aa):Option Bool:=
 ((Bd (Fm aB) (0:Int)).bind (fun x4=>(match x4 with|(.inl _)=>(some true)|(.inr r6)=>(some r6))))
theorem K2(aB:List Aa)(r:Bool)(h:D1 aB=some r):Spec Tryz.prog 137 [(Z15 aB),(.clo 138 [] [])] [] (.bool r) []:=by
 refine Af mix Tryz.func137 (fun Γ hq=>?_);unfold D1 at h;refine Am hq Ed [] ?_;refine Am hq Jd [] ?_;obtain⟨x4,hx4,h⟩:=bind_some h;refine gL hq hx4 Jd [] (fun u i1=>(Df u [(9,(Z7 i1))] [])) (fun u x_=>match x_ with|(.inl _)=>aG Γ (.exit 0) (⟨[],[],[]⟩:St)|(.inr r_)=>aR (K9 Γ aB r_)) ?_ ?_
 ·intro i1 y h;unfold Fm at h;refine Am hq Tl [] ?_;refine gC h ?_ ?_<;>intro h
  ·obtain⟨hc2,h⟩:=Ad h;refine gR hq Tm [6] [] [] (c1 hc2) ?_;obtain⟨x3,hx3,h⟩:=bind_some h;refine gR hq V6 [] [] [(Z2 x3)] (c1 (Rl (aB.getD i1.toNat default) x3 hx3)) ?_;refine gC h ?_ ?_<;>intro h
   ·refine Am hq [4] [] ?_;cases h;exact gO (Ms (Ig [] (Le.refl _ _)))
   ·refine Am hq Jd [] ?_;cases h;exact gN De
  ·cases h;exact gO (Ck (Cn [] [] hq))
 ·clear hx4;rcases x4 with _|r6
  ·refine gA ?_;refine Am hq [4] [] ?_;obtain rfl:=OI h;exact B6 []
  ·refine Qe (fun st' hk=>?_);obtain rfl:=OI h;exact gK hk
def Q13(a3:Ae):=(decide (((a3.Blocks.length:Int):Int)<1))
def Q12(a3:Ae):=(decide (((16:Int):Int)<(a3.Params.length:Int)))
def Qh(a3:Ae):Option Bool:=
 (bif (bif (decide (((a3.Blocks.length:Int):Int)<1)) then true else(decide (((64:Int):Int)<(a3.Blocks.length:Int)))) then(some false) else((bif ((decide (((16:Int):Int)<(a3.Params.length:Int)))==false) then Ny a3 else some (0:Int)).bind fun x1=>(bif (bif (decide (((16:Int):Int)<(a3.Params.length:Int))) then true else(decide (((512:Int):Int)<x1))) then(some false) else((B8 a3.Params).bind fun x2=>((bif (x2==true) then B8 ([a3.Ret]:List Int) else some false).bind fun x3=>((bif ((bif x2 then x3 else false)==true) then D1 a3.Blocks else some false).bind fun x4=>(some (bif (bif x2 then x3 else false) then x4 else false))))))))
theorem Aa6(a3:Ae)(r:Bool)(h:Qh a3=some r):Spec Tryz.prog 105 [(Z56 a3)] [] (.bool r) []:=by
 refine Af mix Tryz.func105 (fun Γ hq=>?_);unfold Qh at h;refine Am hq [1] [1] ?_;refine gR hq [1,12] [1] [] [] (ci (gI ((Q13 a3)==false)) (ci (gI ((Q13 a3)==false)) (ci (gI ((Q13 a3)==false)) (c1 (Ox (Q13 a3)))))) ?_;refine gC h ?_ ?_<;>intro h
 ·refine Am hq [2] [] ?_;obtain rfl:=OI h;exact B6 []
 ·obtain⟨x1,hx1,h⟩:=bind_some h;refine gR hq [1,21] [1] [] [(Z31 x1)] (ci (gI ((Q12 a3)==false)) (ci (fun(hg:((Q12 a3)==false)=true)=>(Y7 a3 x1 (Bn hg hx1))) (ci (gI ((Q12 a3)==false)) (c1 (Ox (Q12 a3)))))) ?_;refine gC h ?_ ?_<;>intro h
  ·refine Am hq [2] [] ?_;obtain rfl:=OI h;exact B6 []
  ·obtain⟨x2,hx2,h⟩:=bind_some h;obtain⟨x3,hx3,h⟩:=bind_some h;obtain⟨x4,hx4,h⟩:=bind_some h;refine gR hq [2] [] [(28,(Z25 a3.Ret))] [(Z2 x2),(Z2 x3),(Z2 x4)] (ci (Co a3.Params x2 hx2) (ci (gI (x2==true)) (ci (gI (x2==true)) (ci (show((x2==true)=true->(AVle (.slice 1 1 (fun i=>([[(Z7 a3.Ret)]]:List (List AV)).getD i []) .exact) (Z25 a3.Ret))) from(fun hg=>@(A6 1 Aq (0:Int) ([a3.Ret]:List Int)))) (ci (gI (x2==true)) (ci (fun(hg:(x2==true)=true)=>(Co ([a3.Ret]:List Int) x3 (Bn hg hx3))) (ci (Kr x2) (ci (gI ((bif x2 then x3 else false)==true)) (ci (gI ((bif x2 then x3 else false)==true)) (ci (fun(hg:((bif x2 then x3 else false)==true)=true)=>(K2 a3.Blocks x4 (Bn hg hx4))) (c1 (Kr (bif x2 then x3 else false))))))))))))) ?_;cases h;exact B6 []
def Hl(aaK:Bool)(aE:Int):Option Int:=
 (bif aaK then(some (0:Int)) else(some aE))
theorem Mz(aaK:Bool)(aE:Int)(r:Int)(h:Hl aaK aE=some r):Spec Tryz.prog 104 [(.bool aaK),(Z7 aE)] [] (.int .i64 r) []:=by
 refine Af mix Tryz.func104 (fun Γ hq=>?_);unfold Hl at h;refine Am hq Ed [] ?_;refine Am hq [1,5] [] ?_;refine gC h ?_ ?_<;>intro h
 ·refine Am hq [4] [] ?_;cases h;exact B6 []
 ·refine Am hq [4] [] ?_;obtain rfl:=OI h;exact B6 []
def Fk(a1:Ae)(a7:Int)(a8:List Int)(a4:List Ao):Option (Int×Ae×Int×List Int×List Ao):=
 ((Qh a1).bind fun x1=>((Hl x1 (4:Int)).bind fun x2=>(some (x2,a1,a7,a8,a4))))
theorem Nf(a1:Ae)(a7:Int)(a8:List Int)(a4:List Ao)(r:(Int×Ae×Int×List Int×List Ao))(h:Fk a1 a7 a8 a4=some r):Spec Tryz.prog 89 [Yx] (Z3 a1.Params a1.Ret a1.Blocks a7 a8 a4 a4.length) (Z7 r.1) (Z3 r.2.1.Params r.2.1.Ret r.2.1.Blocks r.2.2.1 r.2.2.2.1 r.2.2.2.2 r.2.2.2.2.length):=by
 refine Af mix Tryz.func89 (fun Γ hq=>?_);unfold Fk at h;refine Am hq [0] C0 ?_;obtain⟨x1,hx1,h⟩:=bind_some h;obtain⟨x2,hx2,h⟩:=bind_some h;refine gR hq [2] C0 [] [(Z2 x1),(Z31 x2)] (ci (Aa6 a1 x1 hx1) (c1 (Mz x1 (4:Int) x2 hx2))) ?_;cases h;exact B6 T2
def Gv(aP:Int):Option Bool:=
 (some (bif (decide (((1:Int):Int)<=aP)) then(decide (aP<=64)) else false))
theorem Li(aP:Int)(r:Bool)(h:Gv aP=some r):Spec Tryz.prog 36 [(Z7 aP)] [] (.bool r) []:=by
 refine Af mix Tryz.func36 (fun Γ hq=>?_);unfold Gv at h;refine Am hq [0] [] ?_;refine gR hq [2] [] [] [] (ci (gI ((decide (((1:Int):Int)<=aP))==true)) (c1 (Kr (decide (((1:Int):Int)<=aP))))) ?_;cases h;exact B6 []
def Et(aC:Int)(aP:Int):Option Bool:=
 (some (bif (decide (((0:Int):Int)<=aC)) then(decide (aC<aP)) else false))
theorem H6(aC:Int)(aP:Int)(r:Bool)(h:Et aC aP=some r):Spec Tryz.prog 63 [(Z7 aC),(Z7 aP)] [] (.bool r) []:=by
 refine Af mix Tryz.func63 (fun Γ hq=>?_);unfold Et at h;refine Am hq Ed [] ?_;refine gR hq [4] [] [] [] (ci (gI ((decide (((0:Int):Int)<=aC))==true)) (ci (gI ((decide (((0:Int):Int)<=aC))==true)) (c1 (Kr (decide (((0:Int):Int)<=aC)))))) ?_;cases h;exact B6 []
def Jo(aE:Ac)(aP:Int):Int->Option (LR Int (Unit ⊕ Bool)):=
 fun(i7:Int)=>(bif (decide (i7<(aE.To.length:Int))) then(Bi (Bk i7 aE.To.length) ((bif ((((aE.To.getD i7.toNat 0):Int)==0)==false) then Et (aE.To.getD i7.toNat 0) aP else some false).bind fun x9=>(bif (bif (((aE.To.getD i7.toNat 0):Int)==0) then true else(!x9)) then(some (.done (.inr false))) else(some (.next (A8 (i7+1))))))) else(some (.done (.inl ()))))
def Mq(Γ:Du)(aE:Ac)(aP:Int)(r:Bool):Exit->St->Prop:=fK Tryz.prog Γ Tryz.f37.results.toList [] (.bool r) []
def Q14(aE:Ac)(i7:Int):=(((aE.To.getD i7.toNat 0):Int)==0)
def Iu(aE:Ac)(aP:Int):Option Bool:=
 (Option.bind (α:=(Int ⊕ Bool)) (Option.bind (α:=Bool) (bif (aE.Kind==0) then(some (aE.Kind==0)) else(some (aE.Kind==3))) (fun x3=>(bif x3 then(some (.inl (0:Int))) else(bif (aE.Kind==1) then(some (.inl (1:Int))) else(bif (aE.Kind==2) then(some (.inl (2:Int))) else(some (.inr false))))))) (fun x5=>(match x5 with|(.inl i1)=>(bif (((aE.To.length:Int):Int)!=i1) then(some false) else((Bd (Jo aE aP) (0:Int)).bind (fun x10=>(match x10 with|(.inl _)=>(some true)|(.inr r12)=>(some r12)))))|(.inr r13)=>(some r13))))
theorem Sg(aE:Ac)(aP:Int)(r:Bool)(h:Iu aE aP=some r):Spec Tryz.prog 37 [(.agg (eTEnd aE)),(Z7 aP)] [] (.bool r) []:=by
 refine Af mix Tryz.func37 (fun Γ hq=>?_);unfold Iu at h;refine Am hq Or [2] ?_;refine Am hq Yn [2] ?_;obtain⟨x5,hx5,h⟩:=bind_some h;refine gJ hx5 (fun x_=>match x_ with|(.inl i1)=>aG Γ .normal (⟨[(1,(Z7 aP)),Wg,(5,(Z7 i1))],[(2,.row 51 [(Z7 aE.Kind),(Z7 aE.Arg),(Z8 aE.To)])],[]⟩:St)|(.inr r_)=>aR (Mq Γ aE aP r_)) ?_ ?_
 ·clear h hx5;intro y h;refine Am hq [1,2,5,9] [2] ?_;obtain⟨x3,hx3,h⟩:=bind_some h;refine gJ hx3 (fun b2=>aG Γ .normal (⟨[(1,(Z7 aP)),Wg,(5,W4),(9,(Z7 aE.Kind)),(10,(.bool b2))],[(2,.row 51 [(Z7 aE.Kind),(Z7 aE.Arg),(Z8 aE.To)])],[]⟩:St)) ?_ ?_
  ·clear h hx3;intro y h;refine Am hq [1,2,5,9,10] [2] ?_;refine gC h ?_ ?_<;>intro h
   ·cases h;exact gK (Ck De)
   ·refine Am hq [1,2,5,9,10] [2] ?_;cases h;exact gK (Ck De)
  ·clear hx3;refine gA ?_;refine gC h ?_ ?_<;>intro h
   ·cases h;exact gK (Ck (Cn Yn [2] hq))
   ·refine Am hq [1,2,9,13] [2] ?_;refine gC h ?_ ?_<;>intro h
    ·refine Am hq Yn [2] ?_;cases h;exact gK (Ck De)
    ·refine Am hq [1,2,15] [2] ?_;refine gC h ?_ ?_<;>intro h
     ·refine Am hq Yn [2] ?_;cases h;exact gK (Ck De)
     ·refine Am hq [4] [] ?_;cases h;exact gK (Ms (Ig [] (Le.refl _ _)))
 ·clear hx5;rcases x5 with i1|r13
  ·refine gA ?_;refine Am hq [1,2,21] [2] ?_;refine gC h ?_ ?_<;>intro h
   ·refine Am hq [4] [] ?_;obtain rfl:=OI h;exact B6 []
   ·refine Am hq zzN105 [] ?_;obtain⟨x10,hx10,h⟩:=bind_some h;refine gL hq hx10 zzN105 [] (fun u i7=>(Df u [(25,(Z7 i7))] [])) (fun u x_=>match x_ with|(.inl _)=>aG Γ (.exit 1) (⟨[],[],[]⟩:St)|(.inr r_)=>aR (Mq Γ aE aP r_)) ?_ ?_
    ·intro i7 y h;unfold Jo at h;refine Am hq [1,23,24,25,26] [] ?_;refine gC h ?_ ?_<;>intro h
     ·obtain⟨hc8,h⟩:=Ad h;refine gR hq [1,7,23,24,25] [] [] [] (c1 hc8) ?_;obtain⟨x9,hx9,h⟩:=bind_some h;refine gR hq [1,23,24,25,36] [] [] [(Z2 x9)] (ci (gI ((Q14 aE i7)==false)) (ci (gI ((Q14 aE i7)==false)) (ci (fun(hg:((Q14 aE i7)==false)=true)=>(H6 (aE.To.getD i7.toNat 0) aP x9 (Bn hg hx9))) (ci (gI ((Q14 aE i7)==false)) (c1 (Ox (Q14 aE i7))))))) ?_;refine gC h ?_ ?_<;>intro h
      ·refine Am hq [4] [] ?_;cases h;exact gO (Ms (Ig [] (Le.refl _ _)))
      ·refine Am hq zzN105 [] ?_;cases h;exact gN De
     ·cases h;exact gO (Ck (Cn [] [] hq))
    ·clear hx10;rcases x10 with _|r12
     ·refine gA ?_;refine Am hq [4] [] ?_;obtain rfl:=OI h;exact B6 []
     ·refine Qe (fun st' hk=>?_);obtain rfl:=OI h;exact gK hk
  ·refine Qe (fun st' hk=>?_);obtain rfl:=OI h;exact gK hk
def Kf(a9:List (List Int))(i2:Int):(Int×List (List Int))->Option (LR (Int×List (List Int)) (List (List Int))):=
 fun((i6,l7):(Int×List (List Int)))=>(bif (decide (i6<((a9.getD i2.toNat []).length:Int))) then(Bi (Bk i6 (a9.getD i2.toNat []).length) (Bi (Bk ((a9.getD i2.toNat []).getD i6.toNat 0) l7.length) (Bi (Bk ((a9.getD i2.toNat []).getD i6.toNat 0) l7.length) (Bi ((l7.getD ((a9.getD i2.toNat []).getD i6.toNat 0).toNat []).length+([i2]:List Int).length<=room) (Bi (Bk ((a9.getD i2.toNat []).getD i6.toNat 0) l7.length) (some (.next ((A8 (i6+1)),(l7.set ((a9.getD i2.toNat []).getD i6.toNat 0).toNat ((l7.getD ((a9.getD i2.toNat []).getD i6.toNat 0).toNat [])++([i2]:List Int))))))))))) else(some (.done l7)))
def Kg(a9:List (List Int)):(Int×List (List Int))->Option (LR (Int×List (List Int)) (List (List Int))):=
 fun((i2,l3):(Int×List (List Int)))=>(bif (decide (i2<(a9.length:Int))) then(Bi (Bk i2 a9.length) ((Bd (Kf a9 i2) ((0:Int),l3)).bind (fun x14=>(some (.next ((A8 (i2+1)),x14)))))) else(some (.done l3)))
def Q19(i2:Int):=([i2]:List Int)
def Q15(a9:List (List Int))(i2:Int)(i6:Int):=((a9.getD i2.toNat []).getD i6.toNat 0)
def Q20(l7:List (List Int))(a9:List (List Int))(i2:Int)(i6:Int):=(l7.getD (Q15 a9 i2 i6).toNat [])
def Q16(a9:List (List Int)):=(List.replicate (a9.length:Int).toNat ([]:List Int))
def Q22(l7:List (List Int))(a9:List (List Int))(i2:Int)(i6:Int):=(l7.set (Q15 a9 i2 i6).toNat ((Q20 l7 a9 i2 i6)++(Q19 i2)))
def Q18(a9:List (List Int)):List (Nat×AV):=[(0,(Tv a9)),(3,(.vsl 10 (a9.length:Int).toNat))]
def Q17(l7:List (List Int))(i2:Int)(a9:List (List Int))(i6:Int):List (Nat×AV):=[(3,(.vsl 10 l7.length)),(4,(Z7 i2)),(11,(Tv a9)),(12,(Z50 a9.length)),(13,(Z7 i2)),(18,(AV.list 1 Aq 0 (a9.getD i2.toNat []) .none)),(19,(.int .i64 ((a9.getD i2.toNat []).length:Int))),(20,(Z7 i6))]
def Q21(l7:List (List Int))(i2:Int)(a9:List (List Int))(i6:Int):List (Nat×AV):=[(3,(.vsl 10 l7.length)),(4,(Z7 i2)),(7,(Z7 (Q15 a9 i2 i6))),(11,(Tv a9)),(12,(Z50 a9.length)),(13,(Z7 i2)),(18,(AV.list 1 Aq 0 (a9.getD i2.toNat []) .none)),(19,(.int .i64 ((a9.getD i2.toNat []).length:Int))),(20,(Z7 i6))]
def Fo(a9:List (List Int)):Option (List (List Int)):=
 (Bi (0<=(a9.length:Int)/\(a9.length:Int)<=(a9.length:Int)/\(a9.length:Int)<=(room:Int)) ((Bd (Kg a9) ((0:Int),(List.replicate (a9.length:Int).toNat ([]:List Int)))).bind (fun x16=>(some x16))))
theorem M1(a9:List (List Int))(r:List (List Int))(h:Fo a9=some r):Spec Tryz.prog 39 [(Tv a9)] [] (AV.list 1 Ep [] r (.own 20000)) [(20000,.tok 1 22 r.length)]:=by
 refine Af mix Tryz.func39 (fun Γ hq=>?_);have hΓ:=hq.own;unfold Fo at h;refine gR hq [0] [] [(2,(AV.list 1 Ep [] ([]:List (List Int)) .exact))] [] (c1 (C1 1 Ep [])) ?_;obtain⟨hc1,h⟩:=Ad h;refine gR hq Na [10] [] [] (c1 hc1) ?_;refine Q0 (⟨(Q18 a9),[(10,.arr 1 22 ((a9.length:Int).toNat) (fun i_=>AV.eraseAll (fun n_=>Bx n_ [10]) ((fun _=>[Z44]) i_)))],[]⟩:St) ?_;refine I6 (Le.trans (Mx (st':=⟨(Q18 a9),[(10,.arr 1 22 ((a9.length:Int).toNat) (H7 1 Aq (0:Int) (Q16 a9) (fun _=>.exact)))],[]⟩) (TmpsLe.refl _) (.arr fam_zero .nil)) (Le.trans (Le.trans (le_birth (r:=10) (b:=70010) Aq (0:Int) (Q16 a9) 3 rfl rfl (Rr ..).symm (fun h_=>absurd h_ (by decide))) (Jh (st':=⟨(Q18 a9),[(10,.arr 1 22 ((a9.length:Int).toNat) (H7 1 Aq (0:Int) (Q16 a9) (Tag.fam 70010)))],[(70010,⟨1,3,Iq (Q16 a9)⟩)]⟩) (by kernel_rfl))) (Jh (Bm (fun k_:Nat=>(⟨[(0,(Tv a9)),(3,(.vsl 10 k_))],(Z10 k_ (Q16 a9)),[(70010,⟨1,3,Iq (Q16 a9)⟩)]⟩:St)) (show(a9.length:Int).toNat=(Q16 a9).length from(Rr ..).symm))))) ?_;refine Am hq Ab2 Kq ?_;obtain⟨x16,hx16,h⟩:=bind_some h;refine gL hq hx16 Ab2 Kq (fun u (i2,l3)=>(Df u [(3,(.vsl 10 l3.length)),(13,(Z7 i2))] (Z10 l3.length l3) [(70010,⟨1,3,Iq l3⟩)])) (fun u l4=>aG Γ (.exit 0) (⟨[(3,(.vsl 10 l4.length))],(Z10 l4.length l4),[(70010,⟨1,3,Iq l4⟩)]⟩:St)) ?_ ?_
 ·rintro⟨i2,l3⟩ y h;unfold Kg at h;refine Am hq [3,11,12,13,14] Kq ?_;refine gC h ?_ ?_<;>intro h
  ·obtain⟨hc5,h⟩:=Ad h;refine gR hq [3,4,5,11,12,13] Kq [] [] (c1 hc5) ?_;refine Am hq zzN38 Kq ?_;obtain⟨x14,hx14,h⟩:=bind_some h;refine gL hq hx14 zzN38 Kq (fun u (i6,l7)=>(Df u [(3,(.vsl 10 l7.length)),(20,(Z7 i6))] (Z10 l7.length l7) [(70010,⟨1,3,Iq l7⟩)])) (fun u l8=>aG Γ (.exit 2) (Ud Ab2 Kq u [(3,(.vsl 10 l8.length))] (Z10 l8.length l8) [(70010,⟨1,3,Iq l8⟩)])) ?_ ?_
   ·rintro⟨i6,l7⟩ y h;unfold Kf at h;refine Am hq [3,4,11,12,13,18,19,20,21] Kq ?_;refine gC h ?_ ?_<;>intro h
    ·obtain⟨hc9,h⟩:=Ad h;refine gR hq [3,4,7,11,12,13,18,19,20] Kq [] [] (c1 hc9) ?_;refine Q0 (⟨(Q21 l7 i2 a9 i6),(Z10 l7.length l7),[(70010,⟨1,3,Iq l7⟩)]⟩:St) ?_;obtain⟨hc10,h⟩:=Ad h;obtain⟨hc11,h⟩:=Ad h;obtain⟨hc12,h⟩:=Ad h;obtain⟨hc13,h⟩:=Ad h;refine I6 (Le.trans (le_take (r:=10) (b:=70010) (k:=60010) Aq (0:Int) l7 (Q15 a9 i2 i6).toNat 3 rfl rfl rfl rfl (Kd hc10) (by kernel_rfl) (.here .nil)) (Jh (st':=⟨(Q21 l7 i2 a9 i6),[(10,.arr 1 22 l7.length (H7 1 Aq (0:Int) l7 (C2 70010 (Q15 a9 i2 i6).toNat 60010))),(60010,.tok 1 3 ((Q20 l7 a9 i2 i6).length))],[(70010,⟨1,3,Ra l7 (Q15 a9 i2 i6).toNat⟩)]⟩) (by kernel_rfl))) ?_;refine gR hq zzN38 [10,60010,70010] [(29,(Z22 (Q20 l7 a9 i2 i6) 60010)),(31,(Z58 (Q19 i2))),(32,(AV.list 1 Aq 0 ((Q20 l7 a9 i2 i6)++(Q19 i2)) (.own 60010)))] [] (ci hc11 (ci (Eq.refl l7.length) (ci (show(AVle (((H7 1 Aq (0:Int) l7 (C2 70010 (Q15 a9 i2 i6).toNat 60010)) (Q15 a9 i2 i6).toNat).getD 0 .any) (Z22 (Q20 l7 a9 i2 i6) 60010)) from av_famtag) (ci (A6 1 Aq (0:Int) (Q19 i2)) (ci (Eq.refl ((Q20 l7 a9 i2 i6).length)) (ci hc12 (ci (Lu 1 60010 Aq (0:Int) (Q20 l7 a9 i2 i6) (Q19 i2)) (ci (Dp (Q20 l7 a9 i2 i6) (Q19 i2)) (ci hc13 (c1 (Eq.refl l7.length))))))))))) ?_;refine Q0 (⟨(Q17 l7 i2 a9 i6),[(10,.arr 1 22 l7.length (fun i_=>AV.eraseAll (fun n_=>Bx n_ [10,60010,70010]) ((G1 (H7 1 Aq (0:Int) l7 (C2 70010 (Q15 a9 i2 i6).toNat 60010)) (Q15 a9 i2 i6).toNat 0 [(AV.list 1 Aq 0 ((Q20 l7 a9 i2 i6)++(Q19 i2)) (.own 60010))]) i_))),(60010,.tok 1 3 (((Q20 l7 a9 i2 i6)++(Q19 i2)).length))],[(70010,⟨1,3,Ra l7 (Q15 a9 i2 i6).toNat⟩)]⟩:St) ?_;refine I6 (Le.trans (Le.trans (le_put (r:=10) (b:=70010) (k:=60010) Aq (0:Int) l7 (Q15 a9 i2 i6).toNat ((Q20 l7 a9 i2 i6)++(Q19 i2)) 3 rfl (putF_fam (Kd hc10) rfl rfl) rfl rfl rfl rfl (Kd hc10) (by kernel_rfl) (.here (.tok .nil)) (by rw[hΓ];rfl)) (Jh (st':=⟨(Q17 l7 i2 a9 i6),(Z10 l7.length (Q22 l7 a9 i2 i6)),[(70010,⟨1,3,Iq (Q22 l7 a9 i2 i6)⟩)]⟩) (by kernel_rfl))) (Jh (Bm (fun k_:Nat=>(⟨[(3,(.vsl 10 k_)),(4,(Z7 i2)),(11,(Tv a9)),(12,(Z50 a9.length)),(13,(Z7 i2)),(18,(AV.list 1 Aq 0 (a9.getD i2.toNat []) .none)),(19,(.int .i64 ((a9.getD i2.toNat []).length:Int))),(20,(Z7 i6))],(Z10 k_ (Q22 l7 a9 i2 i6)),[(70010,⟨1,3,Iq (Q22 l7 a9 i2 i6)⟩)]⟩:St)) (show l7.length=(Q22 l7 a9 i2 i6).length from(Di ..).symm)))) ?_;refine Am hq zzN38 Kq ?_;cases h;exact gN De
    ·cases h;exact gO (Ck (Cn Ab2 Kq hq))
   ·clear hx14;refine gA ?_;refine Am hq Ab2 Kq ?_;cases h;exact gN De
  ·cases h;exact gO (Ck (Cn [3] Kq hq))
 ·clear hx16;refine gA ?_;refine Am hq [2] Kq ?_;refine Q0 (⟨[(2,(.vsl 10 x16.length))],(Z10 x16.length x16),[(70010,⟨1,3,Iq x16⟩)]⟩:St) ?_;obtain rfl:=OI h;exact gK (e:=.ret) (Ig [(10,20000)] (Le.trans (H0 (nm:=10) (sz:=1) (n:=x16.length) (e:=22) (f:=(H7 1 Aq (0:Int) x16 (Tag.fam 70010))) (g:=(fun i=>Ep (x16.getD i []))) rfl ⟨rfl,trivial⟩ (fun _ _=>rfl) (by rw[hΓ];rfl)) (Cn (st':=⟨[(2,(AV.list 1 Ep [] x16 (.own 10)))],[(10,.tok 1 22 x16.length)],[]⟩) [2] [10] hq)))
def Pr(a3:Ae):(Int×List (List Int))->Option (LR (Int×List (List Int)) (List (List Int) ⊕ (Ax×Int))):=
 fun((i3,l4):(Int×List (List Int)))=>(bif (decide (i3<(a3.Blocks.length:Int))) then(Bi (Bk i3 a3.Blocks.length) ((Iu (⟨(a3.Blocks.getD i3.toNat default).End.Kind,(a3.Blocks.getD i3.toNat default).End.Arg,(a3.Blocks.getD i3.toNat default).End.To⟩:Ac) (a3.Blocks.length:Int)).bind fun x7=>(bif (!x7) then(some (.done (.inr ((⟨([]:List (List Int)),([]:List (List Int))⟩:Ax),(5:Int))))) else((Abp ((a3.Blocks.getD i3.toNat default).End.To)).bind fun x8=>(Bi (Bk i3 l4.length) (some (.next ((A8 (i3+1)),(l4.set i3.toNat x8))))))))) else(some (.done (.inl l4))))
def K_graph_Of(Γ:Du)(a3:Ae)(r:(Ax×Int)):Exit->St->Prop:=fK Tryz.prog Γ Tryz.f19.results.toList [] (.tuple [(.agg (Kc r.1)),(Z7 r.2)]) []
def Q24:AV:=Z44
def Q25:List (Nat×AV):=[Wg,(3,(.int .i64 (5:Int)))]
def Q28(a3:Ae)(i3:Int):=(a3.Blocks.getD i3.toNat default)
def Q26:AV:=(AV.list 1 Ep [] ([]:List (List Int)) .none)
def Q27(a3:Ae):=(List.replicate (a3.Blocks.length:Int).toNat ([]:List Int))
def Q23:List AV:=[(AV.list 1 Ep [] ([]:List (List Int)) .exact),(AV.list 1 Ep [] ([]:List (List Int)) .exact)]
def Md(a3:Ae):Option (Ax×Int):=
 ((Gv (a3.Blocks.length:Int)).bind fun x1=>(bif (!x1) then(some ((⟨([]:List (List Int)),([]:List (List Int))⟩:Ax),(5:Int))) else(Bi (0<=(a3.Blocks.length:Int)/\(a3.Blocks.length:Int)<=(a3.Blocks.length:Int)/\(a3.Blocks.length:Int)<=(room:Int)) ((Bd (Pr a3) ((0:Int),(List.replicate (a3.Blocks.length:Int).toNat ([]:List Int)))).bind (fun x10=>(match x10 with|(.inl l5)=>((Fo l5).bind fun x12=>(some ((⟨l5,x12⟩:Ax),(0:Int))))|(.inr r13)=>(some r13)))))))
theorem S5(a3:Ae)(r:(Ax×Int))(h:Md a3=some r):Spec Tryz.prog 19 [(Z56 a3)] [] (.tuple [(.agg (Kc r.1)),(Z7 r.2)]) []:=by
 refine Af mix Tryz.func19 (fun Γ hq=>?_);have hΓ:=hq.own;unfold Md at h;refine Am hq Or Or ?_;refine Am hq [1,2,4] Or ?_;obtain⟨x1,hx1,h⟩:=bind_some h;refine gR hq [1,2,4,13] Or [] [(Z2 x1)] (c1 (Li (a3.Blocks.length:Int) x1 hx1)) ?_;refine gC h ?_ ?_<;>intro h
 ·refine gR hq Gu [2] [(14,(.agg Q23))] [] (c1 (show(AVle (.agg [Q24,Q24]) (.agg Q23)) from(AVle.agg (.cons Cl (.cons Cl .nil))))) ?_;refine Q0 (⟨Q25,[(2,.row 41 Q23)],[]⟩:St) ?_;cases h;exact gK (e:=.ret) (Ig [] (show Le Γ _ (⟨Q25,[(2,.row 41 [Q26,Q26])],[]⟩:St) from Le.trans (Cn (st':=⟨Q25,[(2,.row 41 Q23)],[]⟩) Gu [2] hq) (Mx (.cons (AVle.refl _) (.cons (AVle.refl _) .nil)) (.row (.cons AVle.untag (.cons AVle.untag .nil)) .nil))))
 ·obtain⟨hc2,h⟩:=Ad h;refine gR hq [1,2,4,5] [1,2,16] [] [] (c1 hc2) ?_;refine I6 (Le.trans (O2 16 (show ∀ k_,k_<((a3.Blocks.length:Int).toNat)->AVleL ((fun i_=>AV.eraseAll (fun n_=>Bx n_ [1,2,16]) ((fun _=>[Q24]) i_)) k_) ((fun i=>Ep ((Q27 a3).getD i [])) k_) from(fun k hk=>Re (e:=Ep) (d:=[]) (.cons (fun _ _ _ _ _ hh=>AVle.untag _ _ _ _ _ (Cl _ _ _ _ _ hh)) .nil) _ k (Rq hk)))) (O3 (fun(k_:Nat) u=>(Df u [(5,(.vsl 16 k_))] [(16,.arr 1 22 k_ (fun i=>Ep ((Q27 a3).getD i [])))])) (show(a3.Blocks.length:Int).toNat=(Q27 a3).length from(Rr ..).symm))) ?_;refine Am hq zzN58 P9 ?_;obtain⟨x10,hx10,h⟩:=bind_some h;refine gL hq hx10 zzN58 P9 (fun u (i3,l4)=>(Df u [(5,(.vsl 16 l4.length)),(20,(Z7 i3))] [(16,.arr 1 22 l4.length (fun i=>Ep (l4.getD i [])))])) (fun u x_=>match x_ with|(.inl l5)=>aG Γ (.exit 0) (Ud [2,5] P9 u [(5,(.vsl 16 l5.length))] [(16,.arr 1 22 l5.length (fun i=>Ep (l5.getD i [])))])|(.inr r_)=>aR (K_graph_Of Γ a3 r_)) ?_ ?_
  ·rintro⟨i3,l4⟩ y h;unfold Pr at h;refine Am hq [2,4,5,18,19,20,21] P9 ?_;refine gC h ?_ ?_<;>intro h
   ·obtain⟨hc6,h⟩:=Ad h;refine gR hq [2,4,5,6,7,18,19,20] [2,7,16] [] [] (c1 hc6) ?_;obtain⟨x7,hx7,h⟩:=bind_some h;refine gR hq [2,4,5,6,7,18,19,20,29] [2,7,16] [] [(Z2 x7)] (c1 (Sg (⟨(Q28 a3 i3).End.Kind,(Q28 a3 i3).End.Arg,(Q28 a3 i3).End.To⟩:Ac) (a3.Blocks.length:Int) x7 hx7)) ?_;refine gC h ?_ ?_<;>intro h
    ·refine gR hq Gu [2] [(30,(.agg Q23))] [] (c1 (show(AVle (.agg [Q24,Q24]) (.agg Q23)) from(AVle.agg (.cons Cl (.cons Cl .nil))))) ?_;refine Q0 (⟨Q25,[(2,.row 41 Q23)],[]⟩:St) ?_;cases h;exact gO (Ms (Ig [] (show Le Γ _ (⟨Q25,[(2,.row 41 [Q26,Q26])],[]⟩:St) from Le.trans (Cn (st':=⟨Q25,[(2,.row 41 Q23)],[]⟩) Gu [2] hq) (Mx (.cons (AVle.refl _) (.cons (AVle.refl _) .nil)) (.row (.cons AVle.untag (.cons AVle.untag .nil)) .nil)))))
    ·obtain⟨x8,hx8,h⟩:=bind_some h;obtain⟨hc9,h⟩:=Ad h;refine gR hq zzN58 P9 [] [⟨[],[],(Z8 x8),[],[],[]⟩] (ci (xok_rising ((Q28 a3 i3).End.To) x8 hx8) (ci hc9 (c1 (Eq.refl l4.length)))) ?_;refine I6 (Le.trans (O2 16 (show ∀ k_,k_<l4.length->AVleL ((fun i_=>AV.eraseAll (fun n_=>Bx n_ P9) ((G1 (fun i=>Ep (l4.getD i [])) i3.toNat 0 [(Z8 x8)]) i_)) k_) ((fun i=>Ep ((l4.set i3.toNat x8).getD i [])) k_) from(Be (Di ..).symm (fun k_ hk_=>(Bm (AV.eraseAll (fun n_=>Bx n_ P9)) ((Gq (fun _ _=>rfl) (Hj hc9) rfl) k_ hk_)).trans rfl)))) (O3 (fun(k_:Nat) u=>(Df u [(5,(.vsl 16 k_))] [(16,.arr 1 22 k_ (fun i=>Ep ((l4.set i3.toNat x8).getD i [])))])) (show l4.length=(l4.set i3.toNat x8).length from(Di ..).symm))) ?_;refine Am hq zzN58 P9 ?_;cases h;exact gN De
   ·cases h;exact gO (Ck (Cn [2,5] P9 hq))
  ·clear hx10;rcases x10 with l5|r13
   ·refine gA ?_;refine Q0 (⟨[Wg,(5,(.vsl 16 l5.length))],[(2,.row 41 [Q24,Q24]),(16,.arr 1 22 l5.length (fun i=>Ep (l5.getD i [])))],[]⟩:St) ?_;refine I6 (Le.trans (H0 (nm:=16) (sz:=1) (n:=l5.length) (e:=22) (f:=(fun i=>Ep (l5.getD i []))) (g:=(fun i=>Ep (l5.getD i []))) rfl ⟨rfl,trivial⟩ (fun _ _=>rfl) (by rw[hΓ];rfl)) (Jh (st':=⟨[Wg,(5,(AV.list 1 Ep [] l5 (.own 16)))],[(2,.row 41 [Q24,Q24]),(16,.tok 1 22 l5.length)],[]⟩) (by kernel_rfl))) ?_;obtain⟨x12,hx12,h⟩:=bind_some h;refine gR hq Gu [2,16,41] [] [⟨[],[(20000,41)],(AV.list 1 Ep [] x12 (.own 20000)),[(20000,.tok 1 22 x12.length)],[],[]⟩] (c1 (M1 l5 x12 hx12)) ?_;cases h;exact B6 []
   ·refine Qe (fun st' hk=>?_);obtain rfl:=OI h;exact gK hk
def Jp(a9:List (List Int))(i2:Int):(Int×Int)->Option (LR (Int×Int) (Unit ⊕ Bool)):=
 fun((i4,i5):(Int×Int))=>(bif (decide (i5<((a9.getD i2.toNat []).length:Int))) then(Bi (Bk i5 (a9.getD i2.toNat []).length) ((bif ((decide ((((a9.getD i2.toNat []).getD i5.toNat 0):Int)<=i4))==false) then Et ((a9.getD i2.toNat []).getD i5.toNat 0) (a9.length:Int) else some false).bind fun x7=>(bif (bif (decide ((((a9.getD i2.toNat []).getD i5.toNat 0):Int)<=i4)) then true else(!x7)) then(some (.done (.inr false))) else(some (.next (((a9.getD i2.toNat []).getD i5.toNat 0),(A8 (i5+1)))))))) else(some (.done (.inl ()))))
def Jq(a9:List (List Int)):Int->Option (LR Int (Unit ⊕ Bool)):=
 fun(i2:Int)=>(bif (decide (i2<(a9.length:Int))) then(Bi (Bk i2 a9.length) ((Bd (Jp a9 i2) ((-1:Int),(0:Int))).bind (fun x8=>(match x8 with|(.inl _)=>(some (.next (A8 (i2+1))))|(.inr r10)=>(some (.done (.inr r10))))))) else(some (.done (.inl ()))))
def Mr(Γ:Du)(a9:List (List Int))(r:Bool):Exit->St->Prop:=fK Tryz.prog Γ Tryz.f74.results.toList [] (.bool r) []
def Q29(a9:List (List Int))(i2:Int)(i5:Int)(i4:Int):=(decide ((((a9.getD i2.toNat []).getD i5.toNat 0):Int)<=i4))
def Gw(a9:List (List Int)):Option Bool:=
 ((Gv (a9.length:Int)).bind fun x1=>(bif (!x1) then(some false) else((Bd (Jq a9) (0:Int)).bind (fun x11=>(match x11 with|(.inl _)=>(some true)|(.inr r13)=>(some r13))))))
theorem Sh(a9:List (List Int))(r:Bool)(h:Gw a9=some r):Spec Tryz.prog 74 [(Tv a9)] [] (.bool r) []:=by
 refine Af mix Tryz.func74 (fun Γ hq=>?_);unfold Gw at h;refine Am hq [0] [] ?_;obtain⟨x1,hx1,h⟩:=bind_some h;refine gR hq [0,11] [] [] [(Z2 x1)] (c1 (Li (a9.length:Int) x1 hx1)) ?_;refine gC h ?_ ?_<;>intro h
 ·refine Am hq [2] [] ?_;obtain rfl:=OI h;exact B6 []
 ·refine Am hq Ab3 [] ?_;obtain⟨x11,hx11,h⟩:=bind_some h;refine gL hq hx11 Ab3 [] (fun u i2=>(Df u [(14,(Z7 i2))] [])) (fun u x_=>match x_ with|(.inl _)=>aG Γ (.exit 0) (⟨[],[],[]⟩:St)|(.inr r_)=>aR (Mr Γ a9 r_)) ?_ ?_
  ·intro i2 y h;unfold Jq at h;refine Am hq [0,12,13,14,15] [] ?_;refine gC h ?_ ?_<;>intro h
   ·obtain⟨hc3,h⟩:=Ad h;refine gR hq [0,4,12,13,14] [] [] [] (c1 hc3) ?_;refine Am hq [0,4,5,12,13,14] [] ?_;refine Am hq zzN39 [] ?_;obtain⟨x8,hx8,h⟩:=bind_some h;refine gL hq hx8 zzN39 [] (fun u (i4,i5)=>(Df u [(5,(Z7 i4)),(20,(Z7 i5))] [])) (fun u x_=>match x_ with|(.inl _)=>aG Γ (.exit 2) (Ud Ab3 [] u [] [])|(.inr r_)=>aR (Mr Γ a9 r_)) ?_ ?_
    ·rintro⟨i4,i5⟩ y h;unfold Jp at h;refine Am hq [0,5,12,13,14,18,19,20,21] [] ?_;refine gC h ?_ ?_<;>intro h
     ·obtain⟨hc6,h⟩:=Ad h;refine gR hq [0,5,7,12,13,14,18,19,20] [] [] [] (c1 hc6) ?_;obtain⟨x7,hx7,h⟩:=bind_some h;refine gR hq [0,7,12,13,14,18,19,20,33] [] [] [(Z2 x7)] (ci (gI ((Q29 a9 i2 i5 i4)==false)) (ci (gI ((Q29 a9 i2 i5 i4)==false)) (ci (gI ((Q29 a9 i2 i5 i4)==false)) (ci (fun(hg:((Q29 a9 i2 i5 i4)==false)=true)=>(H6 ((a9.getD i2.toNat []).getD i5.toNat 0) (a9.length:Int) x7 (Bn hg hx7))) (ci (gI ((Q29 a9 i2 i5 i4)==false)) (c1 (Ox (Q29 a9 i2 i5 i4)))))))) ?_;refine gC h ?_ ?_<;>intro h
      ·refine Am hq [2] [] ?_;cases h;exact gO (Ms (Ig [] (Le.refl _ _)))
      ·refine Am hq zzN39 [] ?_;refine Am hq zzN39 [] ?_;cases h;exact gN De
     ·cases h;exact gO (Ck (Cn Ab3 [] hq))
    ·clear hx8;rcases x8 with _|r10
     ·refine gA ?_;refine Am hq Ab3 [] ?_;cases h;exact gN De
     ·refine Qe (fun st' hk=>?_);cases h;exact gO (Ms hk)
   ·cases h;exact gO (Ck (Cn [] [] hq))
  ·clear hx11;rcases x11 with _|r13
   ·refine gA ?_;refine Am hq [2] [] ?_;obtain rfl:=OI h;exact B6 []
   ·refine Qe (fun st' hk=>?_);obtain rfl:=OI h;exact gK hk
def F6(aQ:List Int)(aS:List Int):Int->Option (LR Int (Unit ⊕ Bool)):=
 fun(i1:Int)=>(bif (decide (i1<(aQ.length:Int))) then(Bi (Bk i1 aQ.length) (Bi (Bk i1 aS.length) (bif (((aQ.getD i1.toNat 0):Int)!=(aS.getD i1.toNat 0)) then(some (.done (.inr false))) else(some (.next (A8 (i1+1))))))) else(some (.done (.inl ()))))
def Lr(Γ:Du)(aQ:List Int)(aS:List Int)(r:Bool):Exit->St->Prop:=fK Tryz.prog Γ Tryz.f61.results.toList [] (.bool r) []
def Ce(aQ:List Int)(aS:List Int):Option Bool:=
 (bif (((aQ.length:Int):Int)!=(aS.length:Int)) then(some false) else((Bd (F6 aQ aS) (0:Int)).bind (fun x4=>(match x4 with|(.inl _)=>(some true)|(.inr r6)=>(some r6)))))
theorem D4(aQ:List Int)(aS:List Int)(r:Bool)(h:Ce aQ aS=some r):Spec Tryz.prog 61 [(Z8 aQ),(Z8 aS)] [] (.bool r) []:=by
 refine Af mix Tryz.func61 (fun Γ hq=>?_);unfold Ce at h;refine Am hq Ed [] ?_;refine Am hq V7 [] ?_;refine gC h ?_ ?_<;>intro h
 ·refine Am hq [4] [] ?_;obtain rfl:=OI h;exact B6 []
 ·refine Am hq zzN112 [] ?_;obtain⟨x4,hx4,h⟩:=bind_some h;refine gL hq hx4 zzN112 [] (fun u i1=>(Df u [(13,(Z7 i1))] [])) (fun u x_=>match x_ with|(.inl _)=>aG Γ (.exit 0) (⟨[],[],[]⟩:St)|(.inr r_)=>aR (Lr Γ aQ aS r_)) ?_ ?_
  ·intro i1 y h;unfold F6 at h;refine Am hq [0,1,12,13,14] [] ?_;refine gC h ?_ ?_<;>intro h
   ·refine Am hq [0,1,5,12,13] [] ?_;obtain⟨hc2,h⟩:=Ad h;obtain⟨hc3,h⟩:=Ad h;refine gR hq [0,1,12,13,24] [] [] [] (ci hc2 (c1 hc3)) ?_;refine gC h ?_ ?_<;>intro h
    ·refine Am hq [4] [] ?_;cases h;exact gO (Ms (Ig [] (Le.refl _ _)))
    ·refine Am hq zzN112 [] ?_;cases h;exact gN De
   ·cases h;exact gO (Ck (Cn [] [] hq))
  ·clear hx4;rcases x4 with _|r6
   ·refine gA ?_;refine Am hq [4] [] ?_;obtain rfl:=OI h;exact B6 []
   ·refine Qe (fun st' hk=>?_);obtain rfl:=OI h;exact gK hk
def Cv(aQ:List (List Int))(aS:List (List Int)):Int->Option (LR Int (Unit ⊕ Bool)):=
 fun(i1:Int)=>(bif (decide (i1<(aQ.length:Int))) then(Bi (Bk i1 aQ.length) (Bi (Bk i1 aS.length) ((Ce (aQ.getD i1.toNat []) (aS.getD i1.toNat [])).bind fun x4=>(bif (!x4) then(some (.done (.inr false))) else(some (.next (A8 (i1+1)))))))) else(some (.done (.inl ()))))
def Gx(Γ:Du)(aQ:List (List Int))(aS:List (List Int))(r:Bool):Exit->St->Prop:=fK Tryz.prog Γ Tryz.f75.results.toList [] (.bool r) []
def Cd(aQ:List (List Int))(aS:List (List Int)):Option Bool:=
 (bif (((aQ.length:Int):Int)!=(aS.length:Int)) then(some false) else((Bd (Cv aQ aS) (0:Int)).bind (fun x5=>(match x5 with|(.inl _)=>(some true)|(.inr r7)=>(some r7)))))
theorem Gp(aQ:List (List Int))(aS:List (List Int))(r:Bool)(h:Cd aQ aS=some r):Spec Tryz.prog 75 [(Tv aQ),(Tv aS),(.clo 61 [] [])] [] (.bool r) []:=by
 refine Af mix Tryz.func75 (fun Γ hq=>?_);unfold Cd at h;refine Am hq [0,1,2] [] ?_;refine Am hq [0,1,2,14] [] ?_;refine gC h ?_ ?_<;>intro h
 ·refine Am hq [6] [] ?_;obtain rfl:=OI h;exact B6 []
 ·refine Am hq zzN87 [] ?_;obtain⟨x5,hx5,h⟩:=bind_some h;refine gL hq hx5 zzN87 [] (fun u i1=>(Df u [(17,(Z7 i1))] [])) (fun u x_=>match x_ with|(.inl _)=>aG Γ (.exit 0) (⟨[],[],[]⟩:St)|(.inr r_)=>aR (Gx Γ aQ aS r_)) ?_ ?_
  ·intro i1 y h;unfold Cv at h;refine Am hq [1,2,15,16,17,18] [] ?_;refine gC h ?_ ?_<;>intro h
   ·obtain⟨hc2,h⟩:=Ad h;refine gR hq [1,2,7,8,15,16,17] [] [] [] (c1 hc2) ?_;obtain⟨hc3,h⟩:=Ad h;refine gR hq [1,2,8,9,15,16,17] [] [] [] (c1 hc3) ?_;obtain⟨x4,hx4,h⟩:=bind_some h;refine gR hq [1,2,15,16,17,30] [] [] [(Z2 x4)] (c1 (D4 (aQ.getD i1.toNat []) (aS.getD i1.toNat []) x4 hx4)) ?_;refine gC h ?_ ?_<;>intro h
    ·refine Am hq [6] [] ?_;cases h;exact gO (Ms (Ig [] (Le.refl _ _)))
    ·refine Am hq zzN87 [] ?_;cases h;exact gN De
   ·cases h;exact gO (Ck (Cn [] [] hq))
  ·clear hx5;rcases x5 with _|r7
   ·refine gA ?_;refine Am hq [6] [] ?_;obtain rfl:=OI h;exact B6 []
   ·refine Qe (fun st' hk=>?_);obtain rfl:=OI h;exact gK hk
def G7(a5:Ax):Option Bool:=
 ((Gw a5.Succ).bind fun x1=>((bif (x1==true) then Fo a5.Succ else some []).bind fun x2=>((bif (x1==true) then Cd a5.Pred x2 else some false).bind fun x3=>(some (bif x1 then x3 else false)))))
theorem Zb(a5:Ax)(r:Bool)(h:G7 a5=some r):Spec Tryz.prog 43 [(.agg (Kc a5))] [] (.bool r) []:=by
 refine Af mix Tryz.func43 (fun Γ hq=>?_);unfold G7 at h;refine Am hq [1] [1] ?_;obtain⟨x1,hx1,h⟩:=bind_some h;obtain⟨x2,hx2,h⟩:=bind_some h;obtain⟨x3,hx3,h⟩:=bind_some h;refine gR hq [2] [] [] [(Z2 x1),⟨[],[],(Tv x2),[],[],[]⟩,(Z2 x3)] (ci (Sh a5.Succ x1 hx1) (ci (gI (x1==true)) (ci (gI (x1==true)) (ci (gI (x1==true)) (ci (show((x1==true)=true->(Spec Tryz.prog 39 [(Tv a5.Succ)] [] (Tv x2) [])) from(fun hg=>(Spec.drop (M1 a5.Succ x2 (Bn hg hx2))))) (ci (gI (x1==true)) (ci (gI (x1==true)) (ci (fun(hg:(x1==true)=true)=>(Gp a5.Pred x2 x3 (Bn hg hx3))) (c1 (Kr x1)))))))))) ?_;cases h;exact B6 []
def E5 :(Int×Int×List Int)->Option (LR (Int×Int×List Int) (List Int)):=
 fun((i1,i2,l3):(Int×Int×List Int))=>(bif (decide (i1<i2)) then(Bi (Bk i2 l3.length) (Bi (Bk i1 l3.length) (Bi (Bk i1 l3.length) (Bi (Bk i2 l3.length) (some (.next ((A8 (i1+1)),(A8 (i2-1)),((l3.set i1.toNat (l3.getD i2.toNat 0)).set i2.toNat (l3.getD i1.toNat 0))))))))) else(some (.done l3)))
def Q30(l3:List Int)(i1:Int)(i2:Int):=((l3.set i1.toNat (l3.getD i2.toNat 0)).set i2.toNat (l3.getD i1.toNat 0))
def Cq(aF:List Int):Option (List Int):=
 ((Bd (S:=(Int×Int×List Int)) (X:=List Int) E5 ((0:Int),(A8 ((aF.length:Int)-1)),aF)).bind (fun x9=>(some x9)))
theorem F8(aF:List Int)(r:List Int)(h:Cq aF=some r):Spec Tryz.prog 96 [(.vsl 34000 aF.length)] [(Z4 34000 aF)] (.tuple []) [(Z4 34000 r)]:=by
 refine Af mix Tryz.func96 (fun Γ hq=>?_);unfold Cq at h;refine Am hq [0,2,3] [34000] ?_;obtain⟨x9,hx9,h⟩:=bind_some h;refine gL hq hx9 [0,2,3] [34000] (fun u (i1,i2,l3)=>(Df u [(0,(.vsl 34000 l3.length)),(2,(Z7 i1)),(3,(Z7 i2))] [(Z4 34000 l3)])) (fun u l4=>aG Γ (.exit 0) (⟨[],[(Z4 34000 l4)],[]⟩:St)) ?_ ?_
 ·rintro⟨i1,i2,l3⟩ y h;unfold E5 at h;refine Am hq [0,2,3,9] [34000] ?_;refine gC h ?_ ?_<;>intro h
  ·obtain⟨hc5,h⟩:=Ad h;obtain⟨hc6,h⟩:=Ad h;obtain⟨hc7,h⟩:=Ad h;obtain⟨hc8,h⟩:=Ad h;refine gR hq [0,2,3] [34000] [] [] (ci hc5 (ci (Eq.refl l3.length) (ci hc6 (ci (Eq.refl l3.length) (ci hc7 (ci (Eq.refl l3.length) (ci hc8 (c1 (Eq.refl l3.length))))))))) ?_;refine I6 (Le.trans (O2 34000 (show ∀ k_,k_<l3.length->AVleL ((fun i_=>AV.eraseAll (fun n_=>Bx n_ [34000]) ((G1 (G1 (fun i=>Aq (l3.getD i 0)) i1.toNat 0 [(.int .i64 (l3.getD i2.toNat 0))]) i2.toNat 0 [(.int .i64 (l3.getD i1.toNat 0))]) i_)) k_) ((fun i=>Aq ((Q30 l3 i1 i2).getD i 0)) k_) from(Be (Eq.trans (Di ..).symm (Di ..).symm) (fun k_ hk_=>(Bm (AV.eraseAll (fun n_=>Bx n_ [34000])) ((Gq (Gq (fun _ _=>rfl) (Hj hc7) rfl) (inB_lt1 hc8) rfl) k_ hk_)).trans rfl)))) (O3 (fun(k_:Nat) u=>(Df u [(0,(.vsl 34000 k_))] [(34000,.arr 1 3 k_ (fun i=>Aq ((Q30 l3 i1 i2).getD i 0)))])) (show l3.length=(Q30 l3 i1 i2).length from(Eq.trans (Di ..).symm (Di ..).symm)))) ?_;refine Am hq [0,2,3] [34000] ?_;cases h;exact gN De
  ·cases h;exact gO (Ck (Cn [] [34000] hq))
 ·clear hx9;refine gA' (fun st' hl10=>?_);obtain rfl:=OI h;exact gK (e:=.normal) (Ig [(34000,34000)] hl10)
def Ld(a5:Ax)(a2:Int):List Int->Option (LR (List Int) (List Int ⊕ (List Bool×List Int×List Int))):=
 fun(l9:List Int)=>(Bi (Bk ([a2].getD (A8 (([a2].length:Int)-1)).toNat (0:Int)) 64) (Bi (Bk ([a2].getD (A8 (([a2].length:Int)-1)).toNat (0:Int)) a5.Succ.length) (bif (decide (((l9.getD ([a2].getD (A8 (([a2].length:Int)-1)).toNat (0:Int)).toNat (0:Int)):Int)<((a5.Succ.getD ([a2].getD (A8 (([a2].length:Int)-1)).toNat (0:Int)).toNat []).length:Int))) then(Bi (Bk ([a2].getD (A8 (([a2].length:Int)-1)).toNat (0:Int)) a5.Succ.length) (Bi (Bk ([a2].getD (A8 (([a2].length:Int)-1)).toNat (0:Int)) 64) (Bi (Bk (l9.getD ([a2].getD (A8 (([a2].length:Int)-1)).toNat (0:Int)).toNat (0:Int)) (a5.Succ.getD ([a2].getD (A8 (([a2].length:Int)-1)).toNat (0:Int)).toNat []).length) (Bi (Bk ([a2].getD (A8 (([a2].length:Int)-1)).toNat (0:Int)) 64) (Bi (Bk ([a2].getD (A8 (([a2].length:Int)-1)).toNat (0:Int)) 64) (Bi (Bk ((a5.Succ.getD ([a2].getD (A8 (([a2].length:Int)-1)).toNat (0:Int)).toNat []).getD (l9.getD ([a2].getD (A8 (([a2].length:Int)-1)).toNat (0:Int)).toNat (0:Int)).toNat (0:Int)) 64) (bif (!((K6 64 false (List.replicate 64 false) a2.toNat true).getD ((a5.Succ.getD ([a2].getD (A8 (([a2].length:Int)-1)).toNat (0:Int)).toNat []).getD (l9.getD ([a2].getD (A8 (([a2].length:Int)-1)).toNat (0:Int)).toNat (0:Int)).toNat (0:Int)).toNat false)) then(Bi (Bk ((a5.Succ.getD ([a2].getD (A8 (([a2].length:Int)-1)).toNat (0:Int)).toNat []).getD (l9.getD ([a2].getD (A8 (([a2].length:Int)-1)).toNat (0:Int)).toNat (0:Int)).toNat (0:Int)) 64) (Bi ([a2].length+([((a5.Succ.getD ([a2].getD (A8 (([a2].length:Int)-1)).toNat (0:Int)).toNat []).getD (l9.getD ([a2].getD (A8 (([a2].length:Int)-1)).toNat (0:Int)).toNat (0:Int)).toNat (0:Int))]:List Int).length<=room) (some (.done (.inr ((K6 64 false (K6 64 false (List.replicate 64 false) a2.toNat true) ((a5.Succ.getD ([a2].getD (A8 (([a2].length:Int)-1)).toNat (0:Int)).toNat []).getD (l9.getD ([a2].getD (A8 (([a2].length:Int)-1)).toNat (0:Int)).toNat (0:Int)).toNat (0:Int)).toNat true),(K6 64 (0:Int) l9 ([a2].getD (A8 (([a2].length:Int)-1)).toNat (0:Int)).toNat (A8 ((l9.getD ([a2].getD (A8 (([a2].length:Int)-1)).toNat (0:Int)).toNat (0:Int))+1))),([a2]++([((a5.Succ.getD ([a2].getD (A8 (([a2].length:Int)-1)).toNat (0:Int)).toNat []).getD (l9.getD ([a2].getD (A8 (([a2].length:Int)-1)).toNat (0:Int)).toNat (0:Int)).toNat (0:Int))]:List Int)))))))) else(some (.next (K6 64 (0:Int) l9 ([a2].getD (A8 (([a2].length:Int)-1)).toNat (0:Int)).toNat (A8 ((l9.getD ([a2].getD (A8 (([a2].length:Int)-1)).toNat (0:Int)).toNat (0:Int))+1)))))))))))) else(some (.done (.inl l9))))))
def Lf(a5:Ax)(l1:List Bool)(l3:List Int):List Int->Option (LR (List Int) (List Int ⊕ (List Bool×List Int×List Int))):=
 fun(l32:List Int)=>(Bi (Bk (l3.getD (A8 ((l3.length:Int)-1)).toNat (0:Int)) 64) (Bi (Bk (l3.getD (A8 ((l3.length:Int)-1)).toNat (0:Int)) a5.Succ.length) (bif (decide (((l32.getD (l3.getD (A8 ((l3.length:Int)-1)).toNat (0:Int)).toNat (0:Int)):Int)<((a5.Succ.getD (l3.getD (A8 ((l3.length:Int)-1)).toNat (0:Int)).toNat []).length:Int))) then(Bi (Bk (l3.getD (A8 ((l3.length:Int)-1)).toNat (0:Int)) a5.Succ.length) (Bi (Bk (l3.getD (A8 ((l3.length:Int)-1)).toNat (0:Int)) 64) (Bi (Bk (l32.getD (l3.getD (A8 ((l3.length:Int)-1)).toNat (0:Int)).toNat (0:Int)) (a5.Succ.getD (l3.getD (A8 ((l3.length:Int)-1)).toNat (0:Int)).toNat []).length) (Bi (Bk (l3.getD (A8 ((l3.length:Int)-1)).toNat (0:Int)) 64) (Bi (Bk (l3.getD (A8 ((l3.length:Int)-1)).toNat (0:Int)) 64) (Bi (Bk ((a5.Succ.getD (l3.getD (A8 ((l3.length:Int)-1)).toNat (0:Int)).toNat []).getD (l32.getD (l3.getD (A8 ((l3.length:Int)-1)).toNat (0:Int)).toNat (0:Int)).toNat (0:Int)) 64) (bif (!(l1.getD ((a5.Succ.getD (l3.getD (A8 ((l3.length:Int)-1)).toNat (0:Int)).toNat []).getD (l32.getD (l3.getD (A8 ((l3.length:Int)-1)).toNat (0:Int)).toNat (0:Int)).toNat (0:Int)).toNat false)) then(Bi (Bk ((a5.Succ.getD (l3.getD (A8 ((l3.length:Int)-1)).toNat (0:Int)).toNat []).getD (l32.getD (l3.getD (A8 ((l3.length:Int)-1)).toNat (0:Int)).toNat (0:Int)).toNat (0:Int)) 64) (Bi (l3.length+([((a5.Succ.getD (l3.getD (A8 ((l3.length:Int)-1)).toNat (0:Int)).toNat []).getD (l32.getD (l3.getD (A8 ((l3.length:Int)-1)).toNat (0:Int)).toNat (0:Int)).toNat (0:Int))]:List Int).length<=room) (some (.done (.inr ((K6 64 false l1 ((a5.Succ.getD (l3.getD (A8 ((l3.length:Int)-1)).toNat (0:Int)).toNat []).getD (l32.getD (l3.getD (A8 ((l3.length:Int)-1)).toNat (0:Int)).toNat (0:Int)).toNat (0:Int)).toNat true),(K6 64 (0:Int) l32 (l3.getD (A8 ((l3.length:Int)-1)).toNat (0:Int)).toNat (A8 ((l32.getD (l3.getD (A8 ((l3.length:Int)-1)).toNat (0:Int)).toNat (0:Int))+1))),(l3++([((a5.Succ.getD (l3.getD (A8 ((l3.length:Int)-1)).toNat (0:Int)).toNat []).getD (l32.getD (l3.getD (A8 ((l3.length:Int)-1)).toNat (0:Int)).toNat (0:Int)).toNat (0:Int))]:List Int)))))))) else(some (.next (K6 64 (0:Int) l32 (l3.getD (A8 ((l3.length:Int)-1)).toNat (0:Int)).toNat (A8 ((l32.getD (l3.getD (A8 ((l3.length:Int)-1)).toNat (0:Int)).toNat (0:Int))+1)))))))))))) else(some (.done (.inl l32))))))
def Lc(a5:Ax):(List Bool×List Int×List Int×List Int)->Option (LR (List Bool×List Int×List Int×List Int) (List Int)):=
 fun(s_:(List Bool×List Int×List Int×List Int))=>match s_ with|(l1,l2,l3,l4)=>(Bi (Bk (A8 ((l3.length:Int)-1)) l3.length) ((Bd (Lf a5 l1 l3) l2).bind (fun x47=>(match x47 with|(.inl l33)=>(Bi (l4.length+([(l3.getD (A8 ((l3.length:Int)-1)).toNat (0:Int))]:List Int).length<=room) (Bi (0<=(A8 ((l3.length:Int)-1))/\0+(A8 ((l3.length:Int)-1)).toNat<=l3.length) (bif (decide (((0:Int):Int)<((l3.take (A8 ((l3.length:Int)-1)).toNat).length:Int))) then(some (.next (l1,l33,(l3.take (A8 ((l3.length:Int)-1)).toNat),(l4++([(l3.getD (A8 ((l3.length:Int)-1)).toNat (0:Int))]:List Int))))) else((Cq (l4++([(l3.getD (A8 ((l3.length:Int)-1)).toNat (0:Int))]:List Int))).bind fun x51=>(Bi ((l4++([(l3.getD (A8 ((l3.length:Int)-1)).toNat (0:Int))]:List Int)).length=x51.length) (some (.done x51)))))))|(.inr (l34,l35,l36))=>(some (.next (l34,l35,l36,l4)))))))
def V9(Γ:Du)(a5:Ax)(a2:Int)(r:List Int):Exit->St->Prop:=fK Tryz.prog Γ Tryz.f70.results.toList [] (Z22 r 20000) [(20000,.tok 1 3 r.length)]
def Q49(l1:List Bool):=(fun i=>eB (l1.getD i false))
def Q32(l3:List Int):=(l3.getD (A8 ((l3.length:Int)-1)).toNat (0:Int))
def Q46(l4:List Int)(l3:List Int):=(l4++([(Q32 l3)]:List Int))
def Q42(l10:List Int):=(fun i=>Aq (l10.getD i 0))
def Q48(l33:List Int):=(fun i=>Aq (l33.getD i 0))
def Q35:=(fun n_=>Bx n_ [2,5,6,25,36007])
def Q38(a2:Int):=(fun i=>Aq ([a2].getD i 0))
def Q31(a2:Int):=([a2].getD (A8 (([a2].length:Int)-1)).toNat (0:Int))
def Q45(a2:Int):=(([]:List Int)++([(Q31 a2)]:List Int))
def Q53(a2:Int):=(fun i=>Aq ((Q45 a2).getD i 0))
def Q52(l4:List Int)(l3:List Int):=(fun i=>Aq ((Q46 l4 l3).getD i 0))
def Q39:AV:=Z24
def Q41:=(fun i=>Aq (([]:List Int).getD i 0))
def Q37(l3:List Int):=(0+(A8 ((l3.length:Int)-1)).toNat)
def Q36(a2:Int):=(0+(A8 (([a2].length:Int)-1)).toNat)
def Q51(a2:Int):=([a2].take (A8 (([a2].length:Int)-1)).toNat)
def Q40:=(fun i=>Aq ((List.replicate 64 (0:Int)).getD i 0))
def Q33(a5:Ax):List AV:=[(Tv a5.Succ),(Tv a5.Pred)]
def Q34(a2:Int):=(fun i=>eB ((K6 64 false (List.replicate 64 false) a2.toNat true).getD i false))
def Q44(a5:Ax)(l3:List Int)(l32:List Int):=((a5.Succ.getD (Q32 l3).toNat []).getD (l32.getD (Q32 l3).toNat (0:Int)).toNat (0:Int))
def Q43(a5:Ax)(a2:Int)(l9:List Int):=((a5.Succ.getD (Q31 a2).toNat []).getD (l9.getD (Q31 a2).toNat (0:Int)).toNat (0:Int))
def Q50:=(Z53:St)
def Q54(a2:Int):List (Nat×AV):=[Wg,Z55,Z49,(7,(.vsl 36007 (Q45 a2).length)),(8,(.vsl 25 (Q36 a2)))]
def Q47(a2:Int)(a5:Ax):=(⟨[Wg,Z55,Z49,(7,(.vsl 36007 ([]:List Int).length)),(8,(.vsl 25 [a2].length)),(9,(Z7 (Q31 a2)))],[(2,.row 41 (Q33 a5)),(Z60 (Q34 a2)),(Z59 Q40),(25,.arr 1 3 ([a2].length) (Q38 a2)),(36007,.arr 1 3 (([]:List Int).length) Q41)],[]⟩:St)
def Gk(a5:Ax)(a2:Int):Option (List Int):=
 ((Ql (S:=(List Bool×List Int×List Int×List Int)) (X:=List Int) ((G7 a5).bind fun x5=>((bif ((!x5)==false) then Et a2 (a5.Succ.length:Int) else some false).bind fun x6=>(bif (bif (!x5) then true else(!x6)) then(some (.done ([]:List Int))) else(Bi (Bk a2 64) (Bi (Bk (A8 (([a2].length:Int)-1)) [a2].length) ((Bd (Ld a5 a2) (List.replicate 64 (0:Int))).bind (fun x24=>(match x24 with|(.inl l10)=>(Bi (([]:List Int).length+([([a2].getD (A8 (([a2].length:Int)-1)).toNat (0:Int))]:List Int).length<=room) (Bi (0<=(A8 (([a2].length:Int)-1))/\0+(A8 (([a2].length:Int)-1)).toNat<=[a2].length) (bif (decide (((0:Int):Int)<(([a2].take (A8 (([a2].length:Int)-1)).toNat).length:Int))) then(some (.next ((K6 64 false (List.replicate 64 false) a2.toNat true),l10,([a2].take (A8 (([a2].length:Int)-1)).toNat),(([]:List Int)++([([a2].getD (A8 (([a2].length:Int)-1)).toNat (0:Int))]:List Int))))) else((Cq (([]:List Int)++([([a2].getD (A8 (([a2].length:Int)-1)).toNat (0:Int))]:List Int))).bind fun x28=>(Bi ((([]:List Int)++([([a2].getD (A8 (([a2].length:Int)-1)).toNat (0:Int))]:List Int)).length=x28.length) (some (.done x28)))))))|(.inr (l11,l12,l13))=>(some (.next (l11,l12,l13,([]:List Int)))))))))))) (Lc a5)).bind (fun x54=>(some x54)))
theorem N8(a5:Ax)(a2:Int)(r:List Int)(h:Gk a5 a2=some r):Spec Tryz.prog 70 [(.agg (Kc a5)),(Z7 a2)] [] (Z22 r 20000) [(20000,.tok 1 3 r.length)]:=by
 refine Af mix Tryz.func70 (fun Γ hq=>?_);have hΓ:=hq.own;unfold Gk at h;refine gR hq Or [2] [(4,Q39)] [] (c1 (C1 1 Aq (0:Int))) ?_;obtain⟨x54,hx54,h⟩:=bind_some h;refine gS hx54 (fun(s_:(List Bool×List Int×List Int×List Int))=>match s_ with|(l1,l2,l3,l4)=>0) (fun(s_:(List Bool×List Int×List Int×List Int))=>match s_ with|(l1,l2,l3,l4)=>(⟨[Wg,Z55,Z49,(7,(.vsl 36007 l4.length)),(8,(.vsl 25 l3.length))],[(2,.row 41 (Q33 a5)),(Z60 (Q49 l1)),(Z36 l2),(Z4 25 l3),(Z4 36007 l4)],[]⟩:St)) (fun r_=>aR (V9 Γ a5 a2 r_)) ?_ ?_ ?_
 ·clear h hx54;intro y h;obtain⟨x5,hx5,h⟩:=bind_some h;obtain⟨x6,hx6,h⟩:=bind_some h;refine gR hq [1,2,21] [2] [] [(Z2 x5),(Z2 x6)] (ci (Zb a5 x5 hx5) (ci (gI ((!x5)==false)) (ci (gI ((!x5)==false)) (ci (gI ((!x5)==false)) (ci (gI ((!x5)==false)) (ci (fun(hg:((!x5)==false)=true)=>(H6 a2 (a5.Succ.length:Int) x6 (Bn hg hx6))) (ci (gI ((!x5)==false)) (c1 (Ox (!x5)))))))))) ?_;refine gC h ?_ ?_<;>intro h
  ·refine gR hq [4] [] [(4,Q39)] [] (c1 (C1 1 Aq (0:Int))) ?_;refine Q0 (⟨[(4,Q39)],[],[]⟩:St) ?_;cases h;exact gJo (Ms (Ig zzN106 (show Le Γ _ Q50 from Le.trans (Cn (st':=⟨[(4,Q39)],[],[]⟩) [4] [] hq) (Le.trans (Qg (t:=4) (nm:=6004) (sz':=1) Q41 3 rfl rfl (.inl ⟨rfl,rfl⟩) (fun h_=>absurd h_ (by decide))) (Cn (st':=Q50) [4] [6004] hq)))))
  ·refine gR hq Yn [2,5] [Z55] [] trivial ?_;refine I6 (O2 5 (show ∀ k_,k_<64->AVleL ((fun i_=>AV.eraseAll (fun n_=>Bx n_ [2,5]) ((fun i=>(((List.replicate 64 [(.bool false)]).flatten).drop (i*1)).take 1) i_)) k_) ((fun i=>eB ((List.replicate 64 false).getD i false)) k_) from(W8 (e:=eB) (d:=false) (z:=[(.bool false)]) rfl rfl rfl))) ?_;refine gR hq [1,2,5,6] P8 [Z49] [] trivial ?_;refine I6 (O2 6 (show ∀ k_,k_<64->AVleL ((fun i_=>AV.eraseAll (fun n_=>Bx n_ P8) ((fun i=>(((List.replicate 64 [W4]).flatten).drop (i*1)).take 1) i_)) k_) (Q40 k_) from(W8 (e:=Aq) (d:=(0:Int)) (z:=[W4]) rfl rfl rfl))) ?_;refine gR hq [1,2,5,6,7] P8 [(7,Q39)] [] (c1 (C1 1 Aq (0:Int))) ?_;obtain⟨hc7,h⟩:=Ad h;refine gR hq [1,2,5,6,7] P8 [] [] (ci hc7 (c1 (Eq.refl 64))) ?_;refine I6 (O2 5 (show ∀ k_,k_<64->AVleL ((fun i_=>AV.eraseAll (fun n_=>Bx n_ P8) ((G1 (fun i=>eB ((List.replicate 64 false).getD i false)) a2.toNat 0 [(.bool true)]) i_)) k_) ((Q34 a2) k_) from(Be rfl (fun k_ hk_=>(Bm (AV.eraseAll (fun n_=>Bx n_ P8)) ((Lk (fun _ _=>rfl) (Kd hc7) rfl) k_ hk_)).trans rfl)))) ?_;refine gR hq Oo zzN92 [(25,(.vsl 25 1))] [] trivial ?_;refine I6 (Le.trans (O2 25 (show ∀ k_,k_<1->AVleL ((fun i_=>AV.eraseAll (fun n_=>Bx n_ zzN92) ((fun i_=>([(Z7 a2)].drop (i_*1)).take 1) i_)) k_) ((Q38 a2) k_) from(Be rfl (pw_snoc (n:=0) pw_nil rfl)))) (O3 (fun(k_:Nat) u=>(Df u [(8,(.vsl 25 k_))] [(25,.arr 1 3 k_ (Q38 a2))])) (show 1=[a2].length from rfl))) ?_;obtain⟨hc8,h⟩:=Ad h;refine gR hq P5 zzN92 [] [] (ci hc8 (c1 (Eq.refl ([a2].length)))) ?_;refine I6 (st':=(Q47 a2 a5)) (Le.trans (Cn (st':=⟨[Wg,Z55,Z49,(7,Q39),(8,(.vsl 25 [a2].length)),(9,(Z7 (Q31 a2)))],[(2,.row 41 (Q33 a5)),(Z60 (Q34 a2)),(Z59 Q40),(25,.arr 1 3 ([a2].length) (Q38 a2))],[]⟩) P5 zzN92 hq) (Le.trans (le_arr (t:=7) (nm:=36007) (sz':=1) Q41 3 rfl rfl) (Cn (st':=(Q47 a2 a5)) P5 Hb hq))) ?_;obtain⟨x24,hx24,h⟩:=bind_some h;refine gL hq hx24 P5 Hb (fun u l9=>(Df u [] [(Z36 l9)])) (fun u x_=>match x_ with|(.inl l10)=>aG Γ (.exit 0) (Df u [] [(Z59 (Q42 l10))])|(.inr (l11,l12,l13))=>aG Γ (.goto 0) (Ud Oo Hb u [(8,(.vsl 25 l13.length))] [(5,.arr 1 82 64 (fun i=>eB (l11.getD i false))),(Z36 l12),(Z4 25 l13)])) ?_ ?_
   ·intro l9 y h;unfold Ld at h;obtain⟨hc14,h⟩:=Ad h;obtain⟨hc15,h⟩:=Ad h;refine gR hq [2,5,6,7,8,9,41] Hb [] [] (ci hc14 (ci (Eq.refl 64) (c1 hc15))) ?_;refine gC h ?_ ?_<;>intro h
    ·obtain⟨hc16,h⟩:=Ad h;obtain⟨hc17,h⟩:=Ad h;obtain⟨hc18,h⟩:=Ad h;refine gR hq zzN55 Hb [] [] (ci hc16 (ci hc17 (ci (Eq.refl 64) (c1 hc18)))) ?_;obtain⟨hc19,h⟩:=Ad h;obtain⟨hc20,h⟩:=Ad h;refine gR hq zzN55 Hb [] [] (ci hc19 (ci (Eq.refl 64) (ci hc20 (c1 (Eq.refl 64))))) ?_;refine I6 (O2 6 (show ∀ k_,k_<64->AVleL ((fun i_=>AV.eraseAll Q35 ((G1 (fun i=>Aq (l9.getD i 0)) (Q31 a2).toNat 0 [(.int .i64 (A8 ((l9.getD (Q31 a2).toNat (0:Int))+1)))]) i_)) k_) ((fun i=>Aq ((K6 64 (0:Int) l9 (Q31 a2).toNat (A8 ((l9.getD (Q31 a2).toNat (0:Int))+1))).getD i 0)) k_) from(Be rfl (fun k_ hk_=>(Bm (AV.eraseAll Q35) ((Lk (fun _ _=>rfl) (Kd hc20) rfl) k_ hk_)).trans rfl)))) ?_;obtain⟨hc21,h⟩:=Ad h;refine gR hq zzN93 Hb [] [] (ci hc21 (c1 (Eq.refl 64))) ?_;refine gC h ?_ ?_<;>intro h
     ·obtain⟨hc22,h⟩:=Ad h;refine gR hq [2,5,6,7,8,10] Hb [] [] (ci hc22 (c1 (Eq.refl 64))) ?_;refine I6 (O2 5 (show ∀ k_,k_<64->AVleL ((fun i_=>AV.eraseAll Q35 ((G1 (Q34 a2) (Q43 a5 a2 l9).toNat 0 [(.bool true)]) i_)) k_) ((fun i=>eB ((K6 64 false (K6 64 false (List.replicate 64 false) a2.toNat true) (Q43 a5 a2 l9).toNat true).getD i false)) k_) from(Be rfl (fun k_ hk_=>(Bm (AV.eraseAll Q35) ((Lk (fun _ _=>rfl) (Kd hc22) rfl) k_ hk_)).trans rfl)))) ?_;obtain⟨hc23,h⟩:=Ad h;refine gR hq Oo Hb [(65,(Z25 (Q43 a5 a2 l9)))] [] (ci (A6 1 Aq (0:Int) ([(Q43 a5 a2 l9)]:List Int)) (ci (Eq.refl ([a2].length)) (c1 hc23))) ?_;cases h;exact gO (Ck (Le.trans (Le.trans (O2 25 (show ∀ k_,k_<([a2].length+([(Q43 a5 a2 l9)]:List Int).length)->AVleL ((fun i_=>AV.eraseAll Q35 ((Gb ([a2].length) (Q38 a2) (fun i=>Aq (([(Q43 a5 a2 l9)]:List Int).getD i 0))) i_)) k_) ((fun i=>Aq (([a2]++([(Q43 a5 a2 l9)]:List Int)).getD i 0)) k_) from(Be (Dp _ _) (fun k_ hk_=>(Bm (AV.eraseAll Q35) ((Nq (fun _ _=>rfl) (fun _ _=>rfl)) k_ hk_)).trans rfl)))) (O3 (fun(k_:Nat) u=>(Df u [(8,(.vsl 25 k_))] [(25,.arr 1 3 k_ (fun i=>Aq (([a2]++([(Q43 a5 a2 l9)]:List Int)).getD i 0)))])) (show([a2].length+([(Q43 a5 a2 l9)]:List Int).length)=([a2]++([(Q43 a5 a2 l9)]:List Int)).length from(Dp _ _)))) De))
     ·cases h;exact gN (Cn P5 Hb hq)
    ·cases h;exact gO (Ck (Cn P5 Hb hq))
   ·clear hx24;rcases x24 with l10|⟨l11,l12,l13⟩
    ·refine gA ?_;obtain⟨hc26,h⟩:=Ad h;refine gR hq Oo Hb [(69,(Z25 (Q31 a2)))] [] (ci (A6 1 Aq (0:Int) ([(Q31 a2)]:List Int)) (ci (Eq.refl (([]:List Int).length)) (c1 hc26))) ?_;refine I6 (Le.trans (O2 36007 (show ∀ k_,k_<(([]:List Int).length+([(Q31 a2)]:List Int).length)->AVleL ((fun i_=>AV.eraseAll Q35 ((Gb (([]:List Int).length) Q41 (fun i=>Aq (([(Q31 a2)]:List Int).getD i 0))) i_)) k_) ((Q53 a2) k_) from(Be (Dp _ _) (fun k_ hk_=>(Bm (AV.eraseAll Q35) ((Nq (fun _ _=>rfl) (fun _ _=>rfl)) k_ hk_)).trans rfl)))) (O3 (fun(k_:Nat) u=>(Df u [(7,(.vsl 36007 k_))] [(36007,.arr 1 3 k_ (Q53 a2))])) (show(([]:List Int).length+([(Q31 a2)]:List Int).length)=(Q45 a2).length from(Dp _ _)))) ?_;obtain⟨hc27,h⟩:=Ad h;refine gR hq Oo Hb [] [] (c1 hc27) ?_;refine Q0 (⟨[Wg,Z55,Z49,(7,(.vsl 36007 (Q45 a2).length)),(8,(.vsub 25 [a2].length 0 (Q36 a2)))],[(2,.row 41 (Q33 a5)),(Z60 (Q34 a2)),(Z59 (Q42 l10)),(25,.arr 1 3 ([a2].length) (Q38 a2)),(36007,.arr 1 3 ((Q45 a2).length) (Q53 a2))],[]⟩:St) ?_;refine I6 (Le.trans (Le.trans (Aap (t:=8) (r:=25) (k:=(Q36 a2)) rfl rfl hc27.2 (by kernel_rfl) (.row (by kernel_rfl) (.arr (fun _=>by kernel_rfl) (.arr (fun _=>by kernel_rfl) (.arr (fun _=>by kernel_rfl) (.arr (fun _=>by kernel_rfl) .nil))))) (by rw[hΓ];rfl)) (Jh (st':=⟨(Q54 a2),[(2,.row 41 (Q33 a5)),(Z60 (Q34 a2)),(Z59 (Q42 l10)),(25,.arr 1 3 (Q36 a2) (Q38 a2)),(36007,.arr 1 3 ((Q45 a2).length) (Q53 a2))],[]⟩) (by kernel_rfl))) (Le.trans (Mx (st':=⟨(Q54 a2),[(2,.row 41 (Q33 a5)),(Z60 (Q34 a2)),(Z59 (Q42 l10)),(25,.arr 1 3 (Q36 a2) (fun i=>Aq ((Q51 a2).getD i 0))),(36007,.arr 1 3 ((Q45 a2).length) (Q53 a2))],[]⟩) (TmpsLe.refl _) (.same (.same (.same (.arr (take_le (e:=Aq) (d:=(0:Int))) (.same .nil)))))) (Jh (Bm (fun k_:Nat=>(⟨[Wg,Z55,Z49,(7,(.vsl 36007 (Q45 a2).length)),(8,(.vsl 25 k_))],[(2,.row 41 (Q33 a5)),(Z60 (Q34 a2)),(Z59 (Q42 l10)),(25,.arr 1 3 k_ (fun i=>Aq ((Q51 a2).getD i 0))),(36007,.arr 1 3 ((Q45 a2).length) (Q53 a2))],[]⟩:St)) (show(Q36 a2)=(Q51 a2).length from Abo hc27.2))))) ?_;refine Am hq [2,5,6,7,8,78] Hb ?_;refine gC h ?_ ?_<;>intro h
     ·cases h;exact gJn (Cn Oo Hb hq)
     ·obtain⟨x28,hx28,h⟩:=bind_some h;obtain⟨hc29,h⟩:=Ad h;refine gR hq [7] [36007] [] [⟨[(36007,34000)],[],(.tuple []),[(Z4 34000 x28)],[],[]⟩] (c1 (F8 (Q45 a2) x28 hx28)) ?_;refine I6 (O3 (fun(k_:Nat) u=>(Df u [(7,(.vsl 36007 k_))] [])) (show(Q45 a2).length=x28.length from hc29)) ?_;refine Am hq [4] [36007] ?_;refine Q0 (⟨[(4,(.vsl 36007 x28.length))],[(Z4 36007 x28)],[]⟩:St) ?_;cases h;exact gJo (Ms (Ig [(36007,20000)] (Le.trans (H0 (nm:=36007) (sz:=1) (n:=x28.length) (e:=3) (f:=(fun i=>Aq (x28.getD i 0))) (g:=(fun i=>Aq (x28.getD i 0))) rfl ⟨rfl,trivial⟩ (fun _ _=>rfl) (by rw[hΓ];rfl)) (Jh (st':=⟨[(4,(Z22 x28 36007))],[(36007,.tok 1 3 x28.length)],[]⟩) (by kernel_rfl)))))
    ·refine gA' (fun st' hl30=>?_);cases h;exact gJn (Le.trans hl30 De)
 ·clear h hx54;rintro⟨l1,l2,l3,l4⟩ y h;unfold Lc at h;obtain⟨hc31,h⟩:=Ad h;refine gR hq P5 Hb [] [] (ci hc31 (c1 (Eq.refl l3.length))) ?_;obtain⟨x47,hx47,h⟩:=bind_some h;refine gL hq hx47 P5 Hb (fun u l32=>(Df u [] [(Z36 l32)])) (fun u x_=>match x_ with|(.inl l33)=>aG Γ (.exit 0) (Df u [] [(Z59 (Q48 l33))])|(.inr (l34,l35,l36))=>aG Γ (.goto 0) (Ud Oo Hb u [(8,(.vsl 25 l36.length))] [(5,.arr 1 82 64 (fun i=>eB (l34.getD i false))),(Z36 l35),(Z4 25 l36)])) ?_ ?_
  ·intro l32 y h;unfold Lf at h;obtain⟨hc37,h⟩:=Ad h;obtain⟨hc38,h⟩:=Ad h;refine gR hq [2,5,6,7,8,9,41] Hb [] [] (ci hc37 (ci (Eq.refl 64) (c1 hc38))) ?_;refine gC h ?_ ?_<;>intro h
   ·obtain⟨hc39,h⟩:=Ad h;obtain⟨hc40,h⟩:=Ad h;obtain⟨hc41,h⟩:=Ad h;refine gR hq zzN55 Hb [] [] (ci hc39 (ci hc40 (ci (Eq.refl 64) (c1 hc41)))) ?_;obtain⟨hc42,h⟩:=Ad h;obtain⟨hc43,h⟩:=Ad h;refine gR hq zzN55 Hb [] [] (ci hc42 (ci (Eq.refl 64) (ci hc43 (c1 (Eq.refl 64))))) ?_;refine I6 (O2 6 (show ∀ k_,k_<64->AVleL ((fun i_=>AV.eraseAll Q35 ((G1 (fun i=>Aq (l32.getD i 0)) (Q32 l3).toNat 0 [(.int .i64 (A8 ((l32.getD (Q32 l3).toNat (0:Int))+1)))]) i_)) k_) ((fun i=>Aq ((K6 64 (0:Int) l32 (Q32 l3).toNat (A8 ((l32.getD (Q32 l3).toNat (0:Int))+1))).getD i 0)) k_) from(Be rfl (fun k_ hk_=>(Bm (AV.eraseAll Q35) ((Lk (fun _ _=>rfl) (Kd hc43) rfl) k_ hk_)).trans rfl)))) ?_;obtain⟨hc44,h⟩:=Ad h;refine gR hq zzN93 Hb [] [] (ci hc44 (c1 (Eq.refl 64))) ?_;refine gC h ?_ ?_<;>intro h
    ·obtain⟨hc45,h⟩:=Ad h;refine gR hq [2,5,6,7,8,10] Hb [] [] (ci hc45 (c1 (Eq.refl 64))) ?_;refine I6 (O2 5 (show ∀ k_,k_<64->AVleL ((fun i_=>AV.eraseAll Q35 ((G1 (Q49 l1) (Q44 a5 l3 l32).toNat 0 [(.bool true)]) i_)) k_) ((fun i=>eB ((K6 64 false l1 (Q44 a5 l3 l32).toNat true).getD i false)) k_) from(Be rfl (fun k_ hk_=>(Bm (AV.eraseAll Q35) ((Lk (fun _ _=>rfl) (Kd hc45) rfl) k_ hk_)).trans rfl)))) ?_;obtain⟨hc46,h⟩:=Ad h;refine gR hq Oo Hb [(65,(Z25 (Q44 a5 l3 l32)))] [] (ci (A6 1 Aq (0:Int) ([(Q44 a5 l3 l32)]:List Int)) (ci (Eq.refl l3.length) (c1 hc46))) ?_;cases h;exact gO (Ck (Le.trans (Le.trans (O2 25 (show ∀ k_,k_<(l3.length+([(Q44 a5 l3 l32)]:List Int).length)->AVleL ((fun i_=>AV.eraseAll Q35 ((Gb l3.length (fun i=>Aq (l3.getD i 0)) (fun i=>Aq (([(Q44 a5 l3 l32)]:List Int).getD i 0))) i_)) k_) ((fun i=>Aq ((l3++([(Q44 a5 l3 l32)]:List Int)).getD i 0)) k_) from(Be (Dp _ _) (fun k_ hk_=>(Bm (AV.eraseAll Q35) ((Nq (fun _ _=>rfl) (fun _ _=>rfl)) k_ hk_)).trans rfl)))) (O3 (fun(k_:Nat) u=>(Df u [(8,(.vsl 25 k_))] [(25,.arr 1 3 k_ (fun i=>Aq ((l3++([(Q44 a5 l3 l32)]:List Int)).getD i 0)))])) (show(l3.length+([(Q44 a5 l3 l32)]:List Int).length)=(l3++([(Q44 a5 l3 l32)]:List Int)).length from(Dp _ _)))) De))
    ·cases h;exact gN (Cn P5 Hb hq)
   ·cases h;exact gO (Ck (Cn P5 Hb hq))
  ·clear hx47;rcases x47 with l33|⟨l34,l35,l36⟩
   ·refine gA ?_;obtain⟨hc49,h⟩:=Ad h;refine gR hq Oo Hb [(69,(Z25 (Q32 l3)))] [] (ci (A6 1 Aq (0:Int) ([(Q32 l3)]:List Int)) (ci (Eq.refl l4.length) (c1 hc49))) ?_;refine I6 (Le.trans (O2 36007 (show ∀ k_,k_<(l4.length+([(Q32 l3)]:List Int).length)->AVleL ((fun i_=>AV.eraseAll Q35 ((Gb l4.length (fun i=>Aq (l4.getD i 0)) (fun i=>Aq (([(Q32 l3)]:List Int).getD i 0))) i_)) k_) ((Q52 l4 l3) k_) from(Be (Dp _ _) (fun k_ hk_=>(Bm (AV.eraseAll Q35) ((Nq (fun _ _=>rfl) (fun _ _=>rfl)) k_ hk_)).trans rfl)))) (O3 (fun(k_:Nat) u=>(Df u [(7,(.vsl 36007 k_))] [(36007,.arr 1 3 k_ (Q52 l4 l3))])) (show(l4.length+([(Q32 l3)]:List Int).length)=(Q46 l4 l3).length from(Dp _ _)))) ?_;obtain⟨hc50,h⟩:=Ad h;refine gR hq Oo Hb [] [] (c1 hc50) ?_;refine Q0 (⟨[Wg,Z55,Z49,(7,(.vsl 36007 (Q46 l4 l3).length)),(8,(.vsub 25 l3.length 0 (Q37 l3)))],[(2,.row 41 (Q33 a5)),(Z60 (Q49 l1)),(Z59 (Q48 l33)),(Z4 25 l3),(36007,.arr 1 3 ((Q46 l4 l3).length) (Q52 l4 l3))],[]⟩:St) ?_;refine I6 (Le.trans (Le.trans (Aap (t:=8) (r:=25) (k:=(Q37 l3)) rfl rfl hc50.2 (by kernel_rfl) (.row (by kernel_rfl) (.arr (fun _=>by kernel_rfl) (.arr (fun _=>by kernel_rfl) (.arr (fun _=>by kernel_rfl) (.arr (fun _=>by kernel_rfl) .nil))))) (by rw[hΓ];rfl)) (Jh (st':=⟨[Wg,Z55,Z49,(7,(.vsl 36007 (Q46 l4 l3).length)),(8,(.vsl 25 (Q37 l3)))],[(2,.row 41 (Q33 a5)),(Z60 (Q49 l1)),(Z59 (Q48 l33)),(25,.arr 1 3 (Q37 l3) (fun i=>Aq (l3.getD i 0))),(36007,.arr 1 3 ((Q46 l4 l3).length) (Q52 l4 l3))],[]⟩) (by kernel_rfl))) (Le.trans (Mx (st':=⟨[Wg,Z55,Z49,(7,(.vsl 36007 (Q46 l4 l3).length)),(8,(.vsl 25 (Q37 l3)))],[(2,.row 41 (Q33 a5)),(Z60 (Q49 l1)),(Z59 (Q48 l33)),(25,.arr 1 3 (Q37 l3) (fun i=>Aq ((l3.take (A8 ((l3.length:Int)-1)).toNat).getD i 0))),(36007,.arr 1 3 ((Q46 l4 l3).length) (Q52 l4 l3))],[]⟩) (TmpsLe.refl _) (.same (.same (.same (.arr (take_le (e:=Aq) (d:=(0:Int))) (.same .nil)))))) (Jh (Bm (fun k_:Nat=>(⟨[Wg,Z55,Z49,(7,(.vsl 36007 (Q46 l4 l3).length)),(8,(.vsl 25 k_))],[(2,.row 41 (Q33 a5)),(Z60 (Q49 l1)),(Z59 (Q48 l33)),(25,.arr 1 3 k_ (fun i=>Aq ((l3.take (A8 ((l3.length:Int)-1)).toNat).getD i 0))),(36007,.arr 1 3 ((Q46 l4 l3).length) (Q52 l4 l3))],[]⟩:St)) (show(Q37 l3)=(l3.take (A8 ((l3.length:Int)-1)).toNat).length from Abo hc50.2))))) ?_;refine Am hq [2,5,6,7,8,78] Hb ?_;refine gC h ?_ ?_<;>intro h
    ·cases h;exact gJn (Cn Oo Hb hq)
    ·obtain⟨x51,hx51,h⟩:=bind_some h;obtain⟨hc52,h⟩:=Ad h;refine gR hq [7] [36007] [] [⟨[(36007,34000)],[],(.tuple []),[(Z4 34000 x51)],[],[]⟩] (c1 (F8 (Q46 l4 l3) x51 hx51)) ?_;refine I6 (O3 (fun(k_:Nat) u=>(Df u [(7,(.vsl 36007 k_))] [])) (show(Q46 l4 l3).length=x51.length from hc52)) ?_;refine Am hq [4] [36007] ?_;refine Q0 (⟨[(4,(.vsl 36007 x51.length))],[(Z4 36007 x51)],[]⟩:St) ?_;cases h;exact gJo (Ms (Ig [(36007,20000)] (Le.trans (H0 (nm:=36007) (sz:=1) (n:=x51.length) (e:=3) (f:=(fun i=>Aq (x51.getD i 0))) (g:=(fun i=>Aq (x51.getD i 0))) rfl ⟨rfl,trivial⟩ (fun _ _=>rfl) (by rw[hΓ];rfl)) (Jh (st':=⟨[(4,(Z22 x51 36007))],[(36007,.tok 1 3 x51.length)],[]⟩) (by kernel_rfl)))))
   ·refine gA' (fun st' hl53=>?_);cases h;exact gJn (Le.trans hl53 De)
 ·clear hx54;refine Qe (fun st' hk=>?_);obtain rfl:=OI h;exact gK hk
def L7(aH:Int)(aZ:Int):Option (Int×Int):=
 (some ((H9 ((H9 ((H9 ((T1 .u64 aH (32:Int))*(T1 .u64 aZ (32:Int))))+(T1 .u64 (H9 ((H9 ((T1 .u64 aH (32:Int))*(Jf .and .u64 aZ (4294967295:Int))))+(T1 .u64 (H9 ((Jf .and .u64 aH (4294967295:Int))*(Jf .and .u64 aZ (4294967295:Int)))) (32:Int)))) (32:Int))))+(T1 .u64 (H9 ((Jf .and .u64 (H9 ((H9 ((T1 .u64 aH (32:Int))*(Jf .and .u64 aZ (4294967295:Int))))+(T1 .u64 (H9 ((Jf .and .u64 aH (4294967295:Int))*(Jf .and .u64 aZ (4294967295:Int)))) (32:Int)))) (4294967295:Int))+(H9 ((Jf .and .u64 aH (4294967295:Int))*(T1 .u64 aZ (32:Int)))))) (32:Int)))),(H9 (aH*aZ))))
theorem Wo(aH:Int)(aZ:Int)(r:(Int×Int))(h:L7 aH aZ=some r):Spec Tryz.prog 130 (Z52 aH aZ) [] (.tuple (Z52 r.1 r.2)) []:=by
 refine Af mix Tryz.func130 (fun Γ hq=>?_);unfold L7 at h;refine Am hq Ed [] ?_;refine Am hq [0,1,6] [] ?_;refine gR hq [0,1,6,7] [] [] [] (c1 (show(0<=(32:Int)) from(by decide))) ?_;refine Am hq [0,1,6,7,8] [] ?_;refine gR hq [0,1,6,7,8,9] [] [] [] (c1 (show(0<=(32:Int)) from(by decide))) ?_;refine Am hq [0,1,6,7,8,9,10] [] ?_;refine gR hq [0,1,6,7,9,11] [] [] [] (c1 (show(0<=(32:Int)) from(by decide))) ?_;refine Am hq [0,1,6,7,9,11,12] [] ?_;refine gR hq [0,1,6,7,9,12,13] [] [] [] (c1 (show(0<=(32:Int)) from(by decide))) ?_;refine Am hq [0,1,7,9,12,13] [] ?_;refine gR hq [0,1,4] [] [] [] (c1 (show(0<=(32:Int)) from(by decide))) ?_;refine Am hq [4,5] [] ?_;cases h;exact B6 []
def L6(aH:Int)(aZ:Int):Option (Int×Int):=
 ((L7 aH aZ).bind fun x1=>(some (x1.1,x1.2)))
theorem S3(aH:Int)(aZ:Int)(r:(Int×Int))(h:L6 aH aZ=some r):Spec Tryz.prog 97 (Z52 aH aZ) [] (.tuple (Z52 r.1 r.2)) []:=by
 refine Af mix Tryz.func97 (fun Γ hq=>?_);unfold L6 at h;refine Am hq Ed [] ?_;refine gCt false ?_;obtain⟨x1,hx1,h⟩:=bind_some h;refine gR hq [8,9] [] [] [⟨[],[],(.tuple (Z52 x1.1 x1.2)),[],[],[]⟩] (c1 (Wo aH aZ x1 hx1)) ?_;refine Am hq [4,5] [] ?_;cases h;exact B6 []
def Fs :(Int×List Int)->Option (LR (Int×List Int) (List Int)):=
 fun((i7,l8):(Int×List Int))=>(bif (decide (i7<(l8.length:Int))) then(Bi (0<=i7/\0+i7.toNat<=l8.length) (Bi (0<=i7/\0+i7.toNat<=l8.length) (some (.next ((A8 (i7+((Nat.min ((0+i7.toNat)-0) (l8.length-(0+i7.toNat))):Int))),(cpL l8 (0+i7.toNat) (Nat.min ((0+i7.toNat)-0) (l8.length-(0+i7.toNat))) (fun i=>l8.getD (0+i) 0))))))) else(some (.done l8)))
def Q55(x3:(Int×Int)):=(List.replicate (A8 x3.2).toNat (0:Int))
def Q57(x3:(Int×Int))(aH:List Int):=(cpL (Q55 x3) 0 (Nat.min aH.length ((Q55 x3).length-0)) (fun i=>aH.getD i 0))
def Q56(l8:List Int)(i7:Int):=(cpL l8 (0+i7.toNat) (Nat.min ((0+i7.toNat)-0) (l8.length-(0+i7.toNat))) (fun i=>l8.getD (0+i) 0))
def D3(aH:List Int)(aa0:Int):Option (List Int):=
 (Option.bind (α:=Unit) (bif (decide (aa0<0)) then none else(some ())) (fun x1=>(match x1 with|_=>((L6 (H9 (aH.length:Int)) (H9 aa0)).bind fun x3=>(Option.bind (α:=Unit) (bif (bif (decide (((0:Int):Int)<x3.1)) then true else(decide (((9223372036854775807:Int):Int)<x3.2))) then none else(some ())) (fun x4=>(match x4 with|_=>(Bi (0<=(A8 x3.2)/\(A8 x3.2)<=(A8 x3.2)/\(A8 x3.2)<=(room:Int)) ((Bd (S:=(Int×List Int)) (X:=List Int) Fs (((Nat.min aH.length ((List.replicate (A8 x3.2).toNat (0:Int)).length-0)):Int),(cpL (List.replicate (A8 x3.2).toNat (0:Int)) 0 (Nat.min aH.length ((List.replicate (A8 x3.2).toNat (0:Int)).length-0)) (fun i=>aH.getD i 0)))).bind (fun x12=>(some x12)))))))))))
theorem K5(aH:List Int)(aa0:Int)(r:List Int)(h:D3 aH aa0=some r):Spec Tryz.prog 71 [(Z8 aH),(Z7 aa0)] [] (.vsl 20000 r.length) [(Z4 20000 r)]:=by
 refine Af mix Tryz.func71 (fun Γ hq=>?_);unfold D3 at h;refine gR hq Ed [] [(4,Z24)] [] (c1 (C1 1 Aq (0:Int))) ?_;obtain⟨x1,hx1,h⟩:=bind_some h;refine gJ hx1 (fun _=>aG Γ .normal (⟨[(0,(Z8 aH)),(1,(Z7 aa0))],[],[]⟩:St)) ?_ ?_
 ·clear h hx1;intro y h;refine Am hq V7 [] ?_;refine gC h ?_ ?_<;>intro h
  ·cases h
  ·cases h;exact gK (Ck (Cn Ed [] hq))
 ·clear hx1;refine gA ?_;obtain⟨x3,hx3,h⟩:=bind_some h;refine gR hq V2 [] [] [⟨[],[],(.tuple (Z52 x3.1 x3.2)),[],[],[]⟩] (c1 (S3 (H9 (aH.length:Int)) (H9 aa0) x3 hx3)) ?_;obtain⟨x4,hx4,h⟩:=bind_some h;refine gJ hx4 (fun _=>aG Γ .normal (⟨[(0,(Z8 aH)),(6,(.int .u64 x3.2))],[],[]⟩:St)) ?_ ?_
  ·clear h hx4;intro y h;refine gR hq [0,6,26] [] [] [] (ci (gI ((decide (((0:Int):Int)<x3.1))==false)) (c1 (Ox (decide (((0:Int):Int)<x3.1))))) ?_;refine gC h ?_ ?_<;>intro h
   ·cases h
   ·cases h;exact gK (Ck (Cn [0,6] [] hq))
  ·clear hx4;refine gA ?_;obtain⟨hc6,h⟩:=Ad h;refine gR hq [0,7] [30] [] [] (c1 hc6) ?_;refine I6 (Le.trans (O2 30 (show ∀ k_,k_<((A8 x3.2).toNat)->AVleL ((fun i_=>AV.eraseAll (fun n_=>Bx n_ [30]) ((fun _=>[W4]) i_)) k_) ((fun i=>Aq ((Q55 x3).getD i 0)) k_) from(fun k hk=>Re (e:=Aq) (d:=(0:Int)) (.cons (AVle.refl _) .nil) _ k (Rq hk)))) (O3 (fun(k_:Nat) u=>(Df u [(7,(.vsl 30 k_))] [(30,.arr 1 3 k_ (fun i=>Aq ((Q55 x3).getD i 0)))])) (show(A8 x3.2).toNat=(Q55 x3).length from(Rr ..).symm))) ?_;refine gR hq [7,8] [30] [] [] (c1 (Eq.refl ((Q55 x3).length))) ?_;refine I6 (Le.trans (O2 30 (show ∀ k_,k_<((Q55 x3).length)->AVleL ((fun i_=>AV.eraseAll (fun n_=>Bx n_ [30]) ((cpF (fun i=>Aq ((Q55 x3).getD i 0)) 0 (Nat.min aH.length ((Q55 x3).length-0)) (fun i=>Aq (aH.getD i 0))) i_)) k_) ((fun i=>Aq ((Q57 x3 aH).getD i 0)) k_) from(Be (Eg ..) (fun k_ hk_=>(Bm (AV.eraseAll (fun n_=>Bx n_ [30])) ((T7 (e:=Aq) (d:=(0:Int)) (l:=(Q55 x3)) (s:=(fun i=>aH.getD i 0)) (fun _ _=>rfl) (fun _ _=>rfl)) k_ hk_)).trans rfl)))) (O3 (fun(k_:Nat) u=>(Df u [(7,(.vsl 30 k_))] [(30,.arr 1 3 k_ (fun i=>Aq ((Q57 x3 aH).getD i 0)))])) (show(Q55 x3).length=(Q57 x3 aH).length from(Eg ..)))) ?_;obtain⟨x12,hx12,h⟩:=bind_some h;refine gL hq hx12 [7,8] [30] (fun u (i7,l8)=>(Df u [(7,(.vsl 30 l8.length)),(8,(Z7 i7))] [(Z4 30 l8)])) (fun u l9=>aG Γ (.exit 0) (⟨[(7,(.vsl 30 l9.length))],[(Z4 30 l9)],[]⟩:St)) ?_ ?_
   ·rintro⟨i7,l8⟩ y h;unfold Fs at h;refine Am hq [7,8,37] [30] ?_;refine gC h ?_ ?_<;>intro h
    ·obtain⟨hc10,h⟩:=Ad h;obtain⟨hc11,h⟩:=Ad h;refine gR hq [7,8] [30] [] [] (ci hc10 (ci hc11 (ci (Eq.refl l8.length) (c1 (Eq.refl l8.length))))) ?_;cases h;exact gN (Le.trans (Le.trans (O2 30 (show ∀ k_,k_<l8.length->AVleL ((fun i_=>AV.eraseAll (fun n_=>Bx n_ [30]) ((cpF (fun i=>Aq (l8.getD i 0)) (0+i7.toNat) (Nat.min ((0+i7.toNat)-0) (l8.length-(0+i7.toNat))) (fun i=>(fun i=>Aq (l8.getD i 0)) (0+i))) i_)) k_) ((fun i=>Aq ((Q56 l8 i7).getD i 0)) k_) from(Be (Eg ..) (fun k_ hk_=>(Bm (AV.eraseAll (fun n_=>Bx n_ [30])) ((T7 (e:=Aq) (d:=(0:Int)) (l:=l8) (s:=(fun i=>l8.getD (0+i) 0)) (fun _ _=>rfl) (fun _ _=>rfl)) k_ hk_)).trans rfl)))) (O3 (fun(k_:Nat) u=>(Df u [(7,(.vsl 30 k_))] [(30,.arr 1 3 k_ (fun i=>Aq ((Q56 l8 i7).getD i 0)))])) (show l8.length=(Q56 l8 i7).length from(Eg ..)))) De)
    ·cases h;exact gO (Ck (Cn [7] [30] hq))
   ·clear hx12;refine gA ?_;refine Am hq [4] [30] ?_;obtain rfl:=OI h;exact B6 [(30,20000)]
def Pp(aA:List Int):(Int×List Bool)->Option (LR (Int×List Bool) (List Bool)):=
 fun((i2,l3):(Int×List Bool))=>(bif (i2 !=-1) then(Bi (Bk i2 l3.length) (Bi (Bk i2 aA.length) (some (.next ((aA.getD i2.toNat 0),(l3.set i2.toNat true)))))) else(some (.done l3)))
def Pq(aA:List Int)(l4:List Bool):Int->Option (LR Int Int):=
 fun(i9:Int)=>(Bi (Bk i9 l4.length) (bif (!(l4.getD i9.toNat false)) then(Bi (Bk i9 aA.length) (some (.next (aA.getD i9.toNat 0)))) else(some (.done i9))))
def Mc(aA:List Int)(aV:Int)(aX:Int):Option Int:=
 (Bi (0<=(aA.length:Int)/\(aA.length:Int)<=(aA.length:Int)/\(aA.length:Int)<=(room:Int)) ((Bd (Pp aA) (aV,(List.replicate (aA.length:Int).toNat false))).bind (fun x7=>((Bd (Pq aA x7) aX).bind (fun x13=>(some x13))))))
theorem S4(aA:List Int)(aV:Int)(aX:Int)(r:Int)(h:Mc aA aV aX=some r):Spec Tryz.prog 77 [(Z8 aA),(Z7 aV),(Z7 aX)] [] (.int .i64 r) []:=by
 refine Af mix Tryz.func77 (fun Γ hq=>?_);unfold Mc at h;refine Am hq [0,1,2] [] ?_;obtain⟨hc1,h⟩:=Ad h;refine gR hq [0,1,2,7] [11] [] [] (c1 hc1) ?_;refine I6 (Le.trans (O2 11 (show ∀ k_,k_<((aA.length:Int).toNat)->AVleL ((fun i_=>AV.eraseAll (fun n_=>Bx n_ [11]) ((fun _=>[(.bool false)]) i_)) k_) ((fun i=>eB ((List.replicate (aA.length:Int).toNat false).getD i false)) k_) from(fun k hk=>Re (e:=eB) (d:=false) (.cons (AVle.refl _) .nil) _ k (Rq hk)))) (O3 (fun(k_:Nat) u=>(Df u [(7,(.vsl 11 k_))] [(11,.arr 1 4 k_ (fun i=>eB ((List.replicate (aA.length:Int).toNat false).getD i false)))])) (show(aA.length:Int).toNat=(List.replicate (aA.length:Int).toNat false).length from(Rr ..).symm))) ?_;refine Am hq zzN98 [11] ?_;obtain⟨x7,hx7,h⟩:=bind_some h;refine gL hq hx7 zzN98 [11] (fun u (i2,l3)=>(Df u [(7,(.vsl 11 l3.length)),(8,(Z7 i2))] [(11,.arr 1 4 l3.length (fun i=>eB (l3.getD i false)))])) (fun u l4=>aG Γ (.exit 0) (Ud [0,2,7] [11] u [(7,(.vsl 11 l4.length))] [(11,.arr 1 4 l4.length (fun i=>eB (l4.getD i false)))])) ?_ ?_
 ·rintro⟨i2,l3⟩ y h;unfold Pp at h;refine Am hq [0,2,7,8,14] [11] ?_;refine gC h ?_ ?_<;>intro h
  ·obtain⟨hc5,h⟩:=Ad h;refine gR hq zzN98 [11] [] [] (ci hc5 (c1 (Eq.refl l3.length))) ?_;refine I6 (Le.trans (O2 11 (show ∀ k_,k_<l3.length->AVleL ((fun i_=>AV.eraseAll (fun n_=>Bx n_ [11]) ((G1 (fun i=>eB (l3.getD i false)) i2.toNat 0 [(.bool true)]) i_)) k_) ((fun i=>eB ((l3.set i2.toNat true).getD i false)) k_) from(Be (Di ..).symm (fun k_ hk_=>(Bm (AV.eraseAll (fun n_=>Bx n_ [11])) ((Gq (fun _ _=>rfl) (Hj hc5) rfl) k_ hk_)).trans rfl)))) (O3 (fun(k_:Nat) u=>(Df u [(7,(.vsl 11 k_))] [(11,.arr 1 4 k_ (fun i=>eB ((l3.set i2.toNat true).getD i false)))])) (show l3.length=(l3.set i2.toNat true).length from(Di ..).symm))) ?_;obtain⟨hc6,h⟩:=Ad h;refine gR hq zzN98 [11] [] [] (c1 hc6) ?_;cases h;exact gN De
  ·cases h;exact gO (Ck (Cn [0,2,7] [11] hq))
 ·clear hx7;refine gA ?_;obtain⟨x13,hx13,h⟩:=bind_some h;refine gL hq hx13 [0,2,7] [11] (fun u i9=>(Df u [(2,(Z7 i9))] [])) (fun u i10=>aG Γ (.exit 2) (⟨[(2,(Z7 i10))],[],[]⟩:St)) ?_ ?_
  ·intro i9 y h;unfold Pq at h;obtain⟨hc11,h⟩:=Ad h;refine gR hq [0,2,7,26] [11] [] [] (ci hc11 (c1 (Eq.refl x7.length))) ?_;refine gC h ?_ ?_<;>intro h
   ·obtain⟨hc12,h⟩:=Ad h;refine gR hq [0,2,7] [11] [] [] (c1 hc12) ?_;cases h;exact gN De
   ·cases h;exact gO (Ck (Cn [2] [] hq))
  ·clear hx13;refine gA ?_;refine Am hq [6] [] ?_;obtain rfl:=OI h;exact B6 []
def Lb(aA:List Int)(aB:List Int):(Int×Int)->Option (LR (Int×Int) Int):=
 fun((i1,i2):(Int×Int))=>(bif (decide (i2<(aB.length:Int))) then(Option.bind (α:=Int) (Bi (Bk i2 aB.length) (Bi (Bk (aB.getD i2.toNat 0) aA.length) (bif (((aA.getD (aB.getD i2.toNat 0).toNat (0:Int)):Int)==-2) then(some i1) else(bif (i1==-2) then(some (aB.getD i2.toNat 0)) else((Mc aA i1 (aB.getD i2.toNat 0)).bind fun x7=>(some x7)))))) (fun x8=>(some (.next (x8,(A8 (i2+1))))))) else(some (.done i1)))
def Ie(aA:List Int)(aB:List Int):Option Int:=
 ((Bd (Lb aA aB) ((-2:Int),(0:Int))).bind (fun x10=>(some x10)))
theorem N7(aA:List Int)(aB:List Int)(r:Int)(h:Ie aA aB=some r):Spec Tryz.prog 72 [(Z8 aA),(Z8 aB)] [] (.int .i64 r) []:=by
 refine Af mix Tryz.func72 (fun Γ hq=>?_);unfold Ie at h;refine Am hq Ed [] ?_;refine Am hq V3 [] ?_;refine Am hq Yh [] ?_;obtain⟨x10,hx10,h⟩:=bind_some h;refine gL hq hx10 Yh [] (fun u (i1,i2)=>(Df u [(5,(Z7 i1)),(10,(Z7 i2))] [])) (fun u i3=>aG Γ (.exit 0) (⟨[(5,(Z7 i3))],[],[]⟩:St)) ?_ ?_
 ·rintro⟨i1,i2⟩ y h;unfold Lb at h;refine Am hq [0,5,8,9,10,11] [] ?_;refine gC h ?_ ?_<;>intro h
  ·obtain⟨x8,hx8,h⟩:=bind_some h;refine gJ hx8 (fun i4=>aG Γ .normal (⟨[(0,(Z8 aA)),(5,(Z7 i4)),(8,(Z8 aB)),(9,(Z50 aB.length)),(10,(Z7 i2))],[],[]⟩:St)) ?_ ?_
   ·clear h hx8;intro y h;obtain⟨hc5,h⟩:=Ad h;refine gR hq [0,5,7,8,9,10] [] [] [] (c1 hc5) ?_;obtain⟨hc6,h⟩:=Ad h;refine gR hq [0,5,7,8,9,10,18] [] [] [] (c1 hc6) ?_;refine gC h ?_ ?_<;>intro h
    ·obtain rfl:=OI h;exact gK (Ck (Cn Yh [] hq))
    ·refine Am hq [0,5,7,8,9,10,24] [] ?_;refine gC h ?_ ?_<;>intro h
     ·refine Am hq Yh [] ?_;cases h;exact gK (Ck De)
     ·obtain⟨x7,hx7,h⟩:=bind_some h;refine gR hq Yh [] [] [(Z31 x7)] (c1 (S4 aA i1 (aB.getD i2.toNat 0) x7 hx7)) ?_;obtain rfl:=OI h;exact gK (Ck De)
   ·clear hx8;refine gA ?_;refine Am hq Yh [] ?_;cases h;exact gN De
  ·cases h;exact gO (Ck (Cn [5] [] hq))
 ·clear hx10;refine gA ?_;refine Am hq [4] [] ?_;obtain rfl:=OI h;exact B6 []
def Pn(a5:Ax)(x3:List Int):(Bool×Int×List Int)->Option (LR (Bool×Int×List Int) (Bool×List Int)):=
 fun((b7,i8,l9):(Bool×Int×List Int))=>(bif (decide (i8<((x3.drop (1:Int).toNat).length:Int))) then(Option.bind (α:=(Bool×List Int)) (Bi (Bk i8 (x3.drop (1:Int).toNat).length) (Bi (Bk ((x3.drop (1:Int).toNat).getD i8.toNat 0) a5.Pred.length) ((Ie l9 (a5.Pred.getD ((x3.drop (1:Int).toNat).getD i8.toNat 0).toNat [])).bind fun x16=>(Bi (Bk ((x3.drop (1:Int).toNat).getD i8.toNat 0) l9.length) (bif (x16 !=(l9.getD ((x3.drop (1:Int).toNat).getD i8.toNat 0).toNat (0:Int))) then(Bi (Bk ((x3.drop (1:Int).toNat).getD i8.toNat 0) l9.length) (some (true,(l9.set ((x3.drop (1:Int).toNat).getD i8.toNat 0).toNat x16)))) else(some (b7,l9))))))) (fun(b12,l13)=>(some (.next (b12,(A8 (i8+1)),l13))))) else(some (.done (b7,l9))))
def Po(a5:Ax)(l1:List Int):(Bool×Int×List Int)->Option (LR (Bool×Int×List Int) (Bool×List Int)):=
 fun((b24,i25,l26):(Bool×Int×List Int))=>(bif (decide (i25<((l1.drop (1:Int).toNat).length:Int))) then(Option.bind (α:=(Bool×List Int)) (Bi (Bk i25 (l1.drop (1:Int).toNat).length) (Bi (Bk ((l1.drop (1:Int).toNat).getD i25.toNat 0) a5.Pred.length) ((Ie l26 (a5.Pred.getD ((l1.drop (1:Int).toNat).getD i25.toNat 0).toNat [])).bind fun x33=>(Bi (Bk ((l1.drop (1:Int).toNat).getD i25.toNat 0) l26.length) (bif (x33 !=(l26.getD ((l1.drop (1:Int).toNat).getD i25.toNat 0).toNat (0:Int))) then(Bi (Bk ((l1.drop (1:Int).toNat).getD i25.toNat 0) l26.length) (some (true,(l26.set ((l1.drop (1:Int).toNat).getD i25.toNat 0).toNat x33)))) else(some (b24,l26))))))) (fun(b29,l30)=>(some (.next (b29,(A8 (i25+1)),l30))))) else(some (.done (b24,l26))))
def Pm(a5:Ax):(List Int×List Int)->Option (LR (List Int×List Int) (List Int)):=
 fun(s_:(List Int×List Int))=>match s_ with|(l1,l2)=>(Bi (0<=(1:Int)/\(1:Int)<=(l1.length:Int)) ((Bd (Po a5 l1) (false,(0:Int),l2)).bind (fun x38=>(match x38 with|(b27,l28)=>(bif b27 then(some (.next (l1,l28))) else(some (.done l28)))))))
def K_dom_Tree(Γ:Du)(a5:Ax)(aT:Int)(r:List Int):Exit->St->Prop:=fK Tryz.prog Γ Tryz.f41.results.toList [] (Z22 r 20000) [(20000,.tok 1 3 r.length)]
def Q62:=(fun n_=>Bx n_ [2,13,21])
def Q60:List (Nat×AV):=[(4,Z24)]
def Q59(x3:List Int)(i8:Int):=((x3.drop (1:Int).toNat).getD i8.toNat 0)
def Q58(l1:List Int)(i25:Int):=((l1.drop (1:Int).toNat).getD i25.toNat 0)
def Q61(a5:Ax):List AV:=[(Tv a5.Succ),(Tv a5.Pred)]
def Q63:=(Z53:St)
def Ma(a5:Ax)(aT:Int):Option (List Int):=
 ((Ql (S:=(List Int×List Int)) (X:=List Int) ((Gk a5 aT).bind fun x3=>(bif (((x3.length:Int):Int)==0) then(some (.done ([]:List Int))) else((D3 ([(-2:Int)]:List Int) (a5.Succ.length:Int)).bind fun x4=>(Bi (Bk aT x4.length) (Bi (0<=(1:Int)/\(1:Int)<=(x3.length:Int)) ((Bd (Pn a5 x3) (false,(0:Int),(x4.set aT.toNat (-1:Int)))).bind (fun(b10,l11)=>(bif b10 then(some (.next (x3,l11))) else(some (.done l11)))))))))) (Pm a5)).bind (fun x40=>(some x40)))
theorem Aa8(a5:Ax)(aT:Int)(r:List Int)(h:Ma a5 aT=some r):Spec Tryz.prog 41 [(.agg (Kc a5)),(Z7 aT)] [] (Z22 r 20000) [(20000,.tok 1 3 r.length)]:=by
 refine Af mix Tryz.func41 (fun Γ hq=>?_);have hΓ:=hq.own;unfold Ma at h;refine gR hq Or [2] Q60 [] (c1 (C1 1 Aq (0:Int))) ?_;obtain⟨x40,hx40,h⟩:=bind_some h;refine gS hx40 (fun(s_:(List Int×List Int))=>match s_ with|(l1,l2)=>0) (fun(s_:(List Int×List Int))=>match s_ with|(l1,l2)=>(⟨[Wg,(5,(Z22 l1 13)),(6,(.vsl 21 l2.length))],[(2,.row 41 (Q61 a5)),(13,.tok 1 3 l1.length),(Z4 21 l2)],[]⟩:St)) (fun r_=>aR (K_dom_Tree Γ a5 aT r_)) ?_ ?_ ?_
 ·clear h hx40;intro y h;obtain⟨x3,hx3,h⟩:=bind_some h;refine gR hq Yn [2,13] [] [⟨[],[(20000,13)],(Z22 x3 20000),[(20000,.tok 1 3 x3.length)],[],[]⟩] (c1 (N8 a5 aT x3 hx3)) ?_;refine Am hq [1,2,5,16] [2,13] ?_;refine gC h ?_ ?_<;>intro h
  ·refine gR hq [4] [] Q60 [] (c1 (C1 1 Aq (0:Int))) ?_;refine Q0 (⟨Q60,[],[]⟩:St) ?_;cases h;exact gJo (Ms (Ig zzN106 (show Le Γ _ Q63 from Le.trans (Cn (st':=⟨Q60,[],[]⟩) [4] [] hq) (Le.trans (Qg (t:=4) (nm:=6004) (sz':=1) (fun i=>Aq (([]:List Int).getD i 0)) 3 rfl rfl (.inl ⟨rfl,rfl⟩) (fun h_=>absurd h_ (by decide))) (Cn (st':=Q63) [4] [6004] hq)))))
  ·obtain⟨x4,hx4,h⟩:=bind_some h;refine gR hq [1,2,5,6] Hc [(17,(AV.list 1 Aq 0 ([(-2:Int)]:List Int) .exact))] [⟨[],[(20000,21)],(.vsl 20000 x4.length),[(Z4 20000 x4)],[],[]⟩] (ci (A6 1 Aq (0:Int) ([(-2:Int)]:List Int)) (c1 (K5 ([(-2:Int)]:List Int) (a5.Succ.length:Int) x4 hx4))) ?_;obtain⟨hc5,h⟩:=Ad h;refine gR hq P8 Hc [] [] (ci hc5 (c1 (Eq.refl x4.length))) ?_;refine I6 (Le.trans (O2 21 (show ∀ k_,k_<x4.length->AVleL ((fun i_=>AV.eraseAll Q62 ((G1 (fun i=>Aq (x4.getD i 0)) aT.toNat 0 [(.int .i64 (-1:Int))]) i_)) k_) ((fun i=>Aq ((x4.set aT.toNat (-1:Int)).getD i 0)) k_) from(Be (Di ..).symm (fun k_ hk_=>(Bm (AV.eraseAll Q62) ((Gq (fun _ _=>rfl) (Hj hc5) rfl) k_ hk_)).trans rfl)))) (O3 (fun(k_:Nat) u=>(Df u [(6,(.vsl 21 k_))] [(21,.arr 1 3 k_ (fun i=>Aq ((x4.set aT.toNat (-1:Int)).getD i 0)))])) (show x4.length=(x4.set aT.toNat (-1:Int)).length from(Di ..).symm))) ?_;refine Am hq Yj Hc ?_;obtain⟨hc6,h⟩:=Ad h;refine gR hq P3 Hc [(26,(AV.list 1 Aq 0 (x3.drop (1:Int).toNat) .none))] [] (ci hc6 (c1 (show(AVle (.slice 1 (x3.length-(1:Int).toNat) (fun i=>Aq (x3.getD ((1:Int).toNat+i) 0)) .none) (AV.list 1 Aq 0 (x3.drop (1:Int).toNat) .none)) from av_drop))) ?_;obtain⟨x21,hx21,h⟩:=bind_some h;refine gL hq hx21 P3 Hc (fun u (b7,i8,l9)=>(Df u [(6,(.vsl 21 l9.length)),(7,(.bool b7)),(28,(Z7 i8))] [(Z4 21 l9)])) (fun u (b10,l11)=>aG Γ (.exit 0) (Ud Yj Hc u [(6,(.vsl 21 l11.length)),(7,(.bool b10))] [(Z4 21 l11)])) ?_ ?_
   ·rintro⟨b7,i8,l9⟩ y h;unfold Pn at h;refine Am hq zzN83 Hc ?_;refine gC h ?_ ?_<;>intro h
    ·obtain⟨x19,hx19,h⟩:=bind_some h;refine gJ hx19 (fun(b12,l13)=>aG Γ .normal (⟨[Wg,(5,(Z22 x3 13)),(6,(.vsl 21 l13.length)),(7,(.bool b12)),(26,(AV.list 1 Aq 0 (x3.drop (1:Int).toNat) .none)),(27,(.int .i64 ((x3.drop (1:Int).toNat).length:Int))),(28,(Z7 i8))],[(2,.row 41 (Q61 a5)),(13,.tok 1 3 x3.length),(Z4 21 l13)],[]⟩:St)) ?_ ?_
     ·clear h hx19;intro y h;obtain⟨hc14,h⟩:=Ad h;refine gR hq zzN88 Hc [] [] (c1 hc14) ?_;obtain⟨hc15,h⟩:=Ad h;obtain⟨x16,hx16,h⟩:=bind_some h;refine gR hq zzN78 Hc [] [⟨[],[],(Z7 x16),[],[21],[]⟩] (ci hc15 (ci (N7 l9 (a5.Pred.getD (Q59 x3 i8).toNat []) x16 hx16) (ci (show(Mw []) from trivial) (c1 (Eq.refl l9.length))))) ?_;obtain⟨hc17,h⟩:=Ad h;refine gR hq zzN71 Hc [] [] (ci hc17 (c1 (Eq.refl l9.length))) ?_;refine gC h ?_ ?_<;>intro h
      ·obtain⟨hc18,h⟩:=Ad h;refine gR hq P3 Hc [] [] (ci hc18 (c1 (Eq.refl l9.length))) ?_;cases h;exact gK (Ck (Le.trans (Le.trans (O2 21 (show ∀ k_,k_<l9.length->AVleL ((fun i_=>AV.eraseAll Q62 ((G1 (fun i=>Aq (l9.getD i 0)) (Q59 x3 i8).toNat 0 [(Z7 x16)]) i_)) k_) ((fun i=>Aq ((l9.set (Q59 x3 i8).toNat x16).getD i 0)) k_) from(Be (Di ..).symm (fun k_ hk_=>(Bm (AV.eraseAll Q62) ((Gq (fun _ _=>rfl) (Hj hc18) rfl) k_ hk_)).trans rfl)))) (O3 (fun(k_:Nat) u=>(Df u [(6,(.vsl 21 k_))] [(21,.arr 1 3 k_ (fun i=>Aq ((l9.set (Q59 x3 i8).toNat x16).getD i 0)))])) (show l9.length=(l9.set (Q59 x3 i8).toNat x16).length from(Di ..).symm))) De))
      ·cases h;exact gK (Ck (Cn P3 Hc hq))
     ·clear hx19;rcases x19 with⟨b12,l13⟩;refine gA ?_;refine Am hq P3 Hc ?_;cases h;exact gN De
    ·cases h;exact gO (Ck (Cn Yj Hc hq))
   ·clear hx21;rcases x21 with⟨b10,l11⟩;refine gA ?_;refine Am hq [2,5,6,50] Hc ?_;refine gC h ?_ ?_<;>intro h
    ·cases h;exact gJn (Cn P8 Hc hq)
    ·refine Am hq [4] [21] ?_;refine Q0 (⟨[(4,(.vsl 21 l11.length))],[(Z4 21 l11)],[]⟩:St) ?_;cases h;exact gJo (Ms (Ig [(21,20000)] (Le.trans (H0 (nm:=21) (sz:=1) (n:=l11.length) (e:=3) (f:=(fun i=>Aq (l11.getD i 0))) (g:=(fun i=>Aq (l11.getD i 0))) rfl ⟨rfl,trivial⟩ (fun _ _=>rfl) (by rw[hΓ];rfl)) (Jh (st':=⟨[(4,(Z22 l11 21))],[(21,.tok 1 3 l11.length)],[]⟩) (by kernel_rfl)))))
 ·clear h hx40;rintro⟨l1,l2⟩ y h;unfold Pm at h;refine Am hq Yj Hc ?_;obtain⟨hc23,h⟩:=Ad h;refine gR hq P3 Hc [(26,(AV.list 1 Aq 0 (l1.drop (1:Int).toNat) .none))] [] (ci hc23 (c1 (show(AVle (.slice 1 (l1.length-(1:Int).toNat) (fun i=>Aq (l1.getD ((1:Int).toNat+i) 0)) .none) (AV.list 1 Aq 0 (l1.drop (1:Int).toNat) .none)) from av_drop))) ?_;obtain⟨x38,hx38,h⟩:=bind_some h;refine gL hq hx38 P3 Hc (fun u (b24,i25,l26)=>(Df u [(6,(.vsl 21 l26.length)),(7,(.bool b24)),(28,(Z7 i25))] [(Z4 21 l26)])) (fun u (b27,l28)=>aG Γ (.exit 0) (Ud Yj Hc u [(6,(.vsl 21 l28.length)),(7,(.bool b27))] [(Z4 21 l28)])) ?_ ?_
  ·rintro⟨b24,i25,l26⟩ y h;unfold Po at h;refine Am hq zzN83 Hc ?_;refine gC h ?_ ?_<;>intro h
   ·obtain⟨x36,hx36,h⟩:=bind_some h;refine gJ hx36 (fun(b29,l30)=>aG Γ .normal (⟨[Wg,(5,(Z22 l1 13)),(6,(.vsl 21 l30.length)),(7,(.bool b29)),(26,(AV.list 1 Aq 0 (l1.drop (1:Int).toNat) .none)),(27,(.int .i64 ((l1.drop (1:Int).toNat).length:Int))),(28,(Z7 i25))],[(2,.row 41 (Q61 a5)),(13,.tok 1 3 l1.length),(Z4 21 l30)],[]⟩:St)) ?_ ?_
    ·clear h hx36;intro y h;obtain⟨hc31,h⟩:=Ad h;refine gR hq zzN88 Hc [] [] (c1 hc31) ?_;obtain⟨hc32,h⟩:=Ad h;obtain⟨x33,hx33,h⟩:=bind_some h;refine gR hq zzN78 Hc [] [⟨[],[],(Z7 x33),[],[21],[]⟩] (ci hc32 (ci (N7 l26 (a5.Pred.getD (Q58 l1 i25).toNat []) x33 hx33) (ci (show(Mw []) from trivial) (c1 (Eq.refl l26.length))))) ?_;obtain⟨hc34,h⟩:=Ad h;refine gR hq zzN71 Hc [] [] (ci hc34 (c1 (Eq.refl l26.length))) ?_;refine gC h ?_ ?_<;>intro h
     ·obtain⟨hc35,h⟩:=Ad h;refine gR hq P3 Hc [] [] (ci hc35 (c1 (Eq.refl l26.length))) ?_;cases h;exact gK (Ck (Le.trans (Le.trans (O2 21 (show ∀ k_,k_<l26.length->AVleL ((fun i_=>AV.eraseAll Q62 ((G1 (fun i=>Aq (l26.getD i 0)) (Q58 l1 i25).toNat 0 [(Z7 x33)]) i_)) k_) ((fun i=>Aq ((l26.set (Q58 l1 i25).toNat x33).getD i 0)) k_) from(Be (Di ..).symm (fun k_ hk_=>(Bm (AV.eraseAll Q62) ((Gq (fun _ _=>rfl) (Hj hc35) rfl) k_ hk_)).trans rfl)))) (O3 (fun(k_:Nat) u=>(Df u [(6,(.vsl 21 k_))] [(21,.arr 1 3 k_ (fun i=>Aq ((l26.set (Q58 l1 i25).toNat x33).getD i 0)))])) (show l26.length=(l26.set (Q58 l1 i25).toNat x33).length from(Di ..).symm))) De))
     ·cases h;exact gK (Ck (Cn P3 Hc hq))
    ·clear hx36;rcases x36 with⟨b29,l30⟩;refine gA ?_;refine Am hq P3 Hc ?_;cases h;exact gN De
   ·cases h;exact gO (Ck (Cn Yj Hc hq))
  ·clear hx38;rcases x38 with⟨b27,l28⟩;refine gA ?_;refine Am hq [2,5,6,50] Hc ?_;refine gC h ?_ ?_<;>intro h
   ·cases h;exact gJn (Cn P8 Hc hq)
   ·refine Am hq [4] [21] ?_;refine Q0 (⟨[(4,(.vsl 21 l28.length))],[(Z4 21 l28)],[]⟩:St) ?_;cases h;exact gJo (Ms (Ig [(21,20000)] (Le.trans (H0 (nm:=21) (sz:=1) (n:=l28.length) (e:=3) (f:=(fun i=>Aq (l28.getD i 0))) (g:=(fun i=>Aq (l28.getD i 0))) rfl ⟨rfl,trivial⟩ (fun _ _=>rfl) (by rw[hΓ];rfl)) (Jh (st':=⟨[(4,(Z22 l28 21))],[(21,.tok 1 3 l28.length)],[]⟩) (by kernel_rfl)))))
 ·clear hx40;refine Qe (fun st' hk=>?_);obtain rfl:=OI h;exact gK hk
def Jj(aa3:List Ab)(aaB:List Int):Int->Option (LR Int (Unit ⊕ Bool)):=
 fun(i1:Int)=>(bif (decide (i1<(aa3.length:Int))) then(Bi (Bk i1 aa3.length) ((Ce ((aa3.getD i1.toNat default).From) aaB).bind fun x3=>(bif (bif (!x3) then true else(((((aa3.getD i1.toNat default).Args).length:Int):Int)!=(aaB.length:Int))) then(some (.done (.inr false))) else(some (.next (A8 (i1+1))))))) else(some (.done (.inl ()))))
def Ts(Γ:Du)(aa3:List Ab)(aaB:List Int)(r:Bool):Exit->St->Prop:=fK Tryz.prog Γ Tryz.f106.results.toList [] (.bool r) []
def It(aa3:List Ab)(aaB:List Int):Option Bool:=
 ((Bd (Jj aa3 aaB) (0:Int)).bind (fun x4=>(match x4 with|(.inl _)=>(some true)|(.inr r6)=>(some r6))))
theorem Sd(aa3:List Ab)(aaB:List Int)(r:Bool)(h:It aa3 aaB=some r):Spec Tryz.prog 106 [(Z47 aa3),(Z8 aaB)] [] (.bool r) []:=by
 refine Af mix Tryz.func106 (fun Γ hq=>?_);unfold It at h;refine Am hq Ed [] ?_;refine Am hq Jd [] ?_;obtain⟨x4,hx4,h⟩:=bind_some h;refine gL hq hx4 Jd [] (fun u i1=>(Df u [(9,(Z7 i1))] [])) (fun u x_=>match x_ with|(.inl _)=>aG Γ (.exit 0) (⟨[],[],[]⟩:St)|(.inr r_)=>aR (Ts Γ aa3 aaB r_)) ?_ ?_
 ·intro i1 y h;unfold Jj at h;refine Am hq Tl [] ?_;refine gC h ?_ ?_<;>intro h
  ·obtain⟨hc2,h⟩:=Ad h;refine gR hq Tm [6] [] [] (c1 hc2) ?_;obtain⟨x3,hx3,h⟩:=bind_some h;refine gR hq [1,7,8,9,25] [] [] [(Z2 x3)] (ci (D4 ((aa3.getD i1.toNat default).From) aaB x3 hx3) (ci (gI ((!x3)==false)) (ci (gI ((!x3)==false)) (ci (gI ((!x3)==false)) (ci (gI ((!x3)==false)) (ci (gI ((!x3)==false)) (c1 (Ox (!x3))))))))) ?_;refine gC h ?_ ?_<;>intro h
   ·refine Am hq [4] [] ?_;cases h;exact gO (Ms (Ig [] (Le.refl _ _)))
   ·refine Am hq Jd [] ?_;cases h;exact gN De
  ·cases h;exact gO (Ck (Cn [] [] hq))
 ·clear hx4;rcases x4 with _|r6
  ·refine gA ?_;refine Am hq [4] [] ?_;obtain rfl:=OI h;exact B6 []
  ·refine Qe (fun st' hk=>?_);obtain rfl:=OI h;exact gK hk
def Q64(aE:Ac):=(bif (aE.Kind==0) then true else(aE.Kind==2))
def Is(aE:Ac):Option Bool:=
 (some (bif (bif (aE.Kind==0) then true else(aE.Kind==2)) then true else(aE.Arg==0)))
theorem Sc(aE:Ac)(r:Bool)(h:Is aE=some r):Spec Tryz.prog 107 [(.agg (eTEnd aE))] [] (.bool r) []:=by
 refine Af mix Tryz.func107 (fun Γ hq=>?_);unfold Is at h;refine Am hq [1] [1] ?_;refine gR hq [2] [] [] [] (ci (gI ((aE.Kind==0)==false)) (ci (gI ((aE.Kind==0)==false)) (ci (Ox (aE.Kind==0)) (ci (gI ((Q64 aE)==false)) (ci (gI ((Q64 aE)==false)) (c1 (Ox (Q64 aE)))))))) ?_;cases h;exact B6 []
def F5(a1:Ae)(a7:Int)(a4:List Ao)(x1:(Ax×Int))(x3:List Int):Int->Option (LR Int (Unit ⊕ (Int×Ae×Int×List Int×List Ao))):=
 fun(i4:Int)=>(bif (decide (i4<(a1.Blocks.length:Int))) then(Bi (Bk i4 a1.Blocks.length) (Bi (Bk i4 x1.1.Pred.length) ((It ((a1.Blocks.getD i4.toNat default).Phis) (x1.1.Pred.getD i4.toNat [])).bind fun x7=>((bif ((!x7)==false) then Is (⟨(a1.Blocks.getD i4.toNat default).End.Kind,(a1.Blocks.getD i4.toNat default).End.Arg,(a1.Blocks.getD i4.toNat default).End.To⟩:Ac) else some false).bind fun x8=>(bif (bif (!x7) then true else(!x8)) then(some (.done (.inr ((5:Int),a1,a7,x3,a4)))) else(some (.next (A8 (i4+1))))))))) else(some (.done (.inl ()))))
def Lq(Γ:Du)(a1:Ae)(a7:Int)(a8:List Int)(a4:List Ao)(r:(Int×Ae×Int×List Int×List Ao)):Exit->St->Prop:=fK Tryz.prog Γ Tryz.f90.results.toList (Z3 a1.Params a1.Ret a1.Blocks a7 a8 a4 a4.length) (Z7 r.1) (Z3 r.2.1.Params r.2.1.Ret r.2.1.Blocks r.2.2.1 r.2.2.2.1 r.2.2.2.2 r.2.2.2.2.length)
def Q67(x1:(Ax×Int)):=((x1.2 !=0)==false)
def Q66(x3:List Int)(a1:Ae)(a7:Int)(a4:List Ao):List (Nat×Own):=[(31,.tok 1 3 x3.length),(30000,.row 103 [(Z8 a1.Params),(Z7 a1.Ret),(Z15 a1.Blocks),(Z7 a7),(Z8 x3),.nilm,(AV.list 5 F4 default a4 (.own 37006))]),(J6 a4.length)]
def Q65(x3:List Int)(a1:Ae)(a7:Int)(a4:List Ao):List (Nat×Own):=[(31,.tok 1 3 x3.length),(30000,.row 103 [(Z8 a1.Params),(Z7 a1.Ret),(Z15 a1.Blocks),(Z7 a7),(Z22 x3 31),.nilm,(AV.list 5 F4 default a4 (.own 37006))]),(J6 a4.length)]
def Ej(a1:Ae)(a7:Int)(a8:List Int)(a4:List Ao):Option (Int×Ae×Int×List Int×List Ao):=
 ((Md a1).bind fun x1=>((bif ((x1.2 !=0)==false) then Gk x1.1 (0:Int) else some []).bind fun x2=>(bif (bif (x1.2 !=0) then true else(decide (((x2.length:Int):Int)<(a1.Blocks.length:Int)))) then(some ((5:Int),a1,a7,a8,a4)) else((Ma x1.1 (0:Int)).bind fun x3=>((Bd (F5 a1 a7 a4 x1 x3) (0:Int)).bind (fun x9=>(match x9 with|(.inl _)=>(some ((0:Int),a1,a7,x3,a4))|(.inr r11)=>(some r11))))))))
theorem Lh(a1:Ae)(a7:Int)(a8:List Int)(a4:List Ao)(r:(Int×Ae×Int×List Int×List Ao))(h:Ej a1 a7 a8 a4=some r):Spec Tryz.prog 90 [Yx] (Z3 a1.Params a1.Ret a1.Blocks a7 a8 a4 a4.length) (Z7 r.1) (Z3 r.2.1.Params r.2.1.Ret r.2.1.Blocks r.2.2.1 r.2.2.2.1 r.2.2.2.2 r.2.2.2.2.length):=by
 refine Af mix Tryz.func90 (fun Γ hq=>?_);unfold Ej at h;refine Am hq [0] C0 ?_;obtain⟨x1,hx1,h⟩:=bind_some h;refine gR hq [0,3,4] Ab1 [] [⟨[],[],(.tuple [(.agg (Kc x1.1)),(Z7 x1.2)]),[],[],[]⟩] (c1 (S5 a1 x1 hx1)) ?_;obtain⟨x2,hx2,h⟩:=bind_some h;refine gR hq [0,3,28] Ab1 [] [⟨[],[],(Z8 x2),[],[],[]⟩] (ci (gI (Q67 x1)) (ci (show((Q67 x1)=true->(Spec Tryz.prog 70 [(.agg (Kc x1.1)),W4] [] (Z8 x2) [])) from(fun hg=>(Spec.drop (N8 x1.1 (0:Int) x2 (Bn hg hx2))))) (ci (gI (Q67 x1)) (ci (gI (Q67 x1)) (ci (gI (Q67 x1)) (ci (gI (Q67 x1)) (ci (gI (Q67 x1)) (ci (gI (Q67 x1)) (ci (gI (Q67 x1)) (ci (gI (Q67 x1)) (c1 (Ox (x1.2 !=0))))))))))))) ?_;refine gC h ?_ ?_<;>intro h
 ·refine Am hq [2] C0 ?_;cases h;exact B6 T2
 ·obtain⟨x3,hx3,h⟩:=bind_some h;refine gR hq Na Ye [] [⟨[],[(20000,31)],(Z22 x3 20000),[(20000,.tok 1 3 x3.length)],[],[]⟩] (c1 (Aa8 x1.1 (0:Int) x3 hx3)) ?_;refine Am hq zzN109 Ye ?_;obtain⟨x9,hx9,h⟩:=bind_some h;refine gL hq hx9 zzN109 Ye (fun u i4=>(Df u [(40,(Z7 i4))] [])) (fun u x_=>match x_ with|(.inl _)=>aG Γ (.exit 0) (Ud [] Yg u [] [])|(.inr r_)=>aR (Lq Γ a1 a7 a8 a4 r_)) ?_ ?_
  ·intro i4 y h;unfold F5 at h;refine Am hq [3,38,39,40,41] Ye ?_;refine gC h ?_ ?_<;>intro h
   ·obtain⟨hc5,h⟩:=Ad h;refine gR hq [3,5,6,38,39,40] [3,6,31,30000,37006] [] [] (c1 hc5) ?_;obtain⟨hc6,h⟩:=Ad h;obtain⟨x7,hx7,h⟩:=bind_some h;obtain⟨x8,hx8,h⟩:=bind_some h;refine gR hq [3,38,39,40,59] Ye [] [(Z2 x7),(Z2 x8)] (ci hc6 (ci (Sd ((a1.Blocks.getD i4.toNat default).Phis) (x1.1.Pred.getD i4.toNat []) x7 hx7) (ci (gI ((!x7)==false)) (ci (gI ((!x7)==false)) (ci (fun(hg:((!x7)==false)=true)=>(Sc (⟨(a1.Blocks.getD i4.toNat default).End.Kind,(a1.Blocks.getD i4.toNat default).End.Arg,(a1.Blocks.getD i4.toNat default).End.To⟩:Ac) x8 (Bn hg hx8))) (ci (gI ((!x7)==false)) (c1 (Ox (!x7))))))))) ?_;refine gC h ?_ ?_<;>intro h
    ·refine Am hq [2] Yg ?_;refine Q0 (⟨[(2,(.int .i64 (5:Int)))],(Q65 x3 a1 a7 a4),[]⟩:St) ?_;cases h;exact gO (Ms (Ig T2 (show Le Γ _ (⟨[(2,(.int .i64 (5:Int)))],(Q66 x3 a1 a7 a4),[]⟩:St) from Le.trans (Cn (st':=⟨[(2,(.int .i64 (5:Int)))],(Q65 x3 a1 a7 a4),[]⟩) [2] Yg hq) (Mx (.cons (AVle.refl _) .nil) (.same (.row (.cons (AVle.refl _) (.cons (AVle.refl _) (.cons (AVle.refl _) (.cons (AVle.refl _) (.cons AVle.untag (.cons (AVle.refl _) (.cons (AVle.refl _) .nil))))))) (.same .nil)))))))
    ·refine Am hq zzN109 Ye ?_;cases h;exact gN De
   ·cases h;exact gO (Ck (Cn [] Yg hq))
  ·clear hx9;rcases x9 with _|r11
   ·refine gA ?_;refine Am hq [2] Yg ?_;refine Q0 (⟨[(2,W4)],(Q65 x3 a1 a7 a4),[]⟩:St) ?_;cases h;exact gK (e:=.ret) (Ig T2 (show Le Γ _ (⟨[(2,W4)],(Q66 x3 a1 a7 a4),[]⟩:St) from Le.trans (Cn (st':=⟨[(2,W4)],(Q65 x3 a1 a7 a4),[]⟩) [2] Yg hq) (Mx (.cons (AVle.refl _) .nil) (.same (.row (.cons (AVle.refl _) (.cons (AVle.refl _) (.cons (AVle.refl _) (.cons (AVle.refl _) (.cons AVle.untag (.cons (AVle.refl _) (.cons (AVle.refl _) .nil))))))) (.same .nil))))))
   ·refine Qe (fun st' hk=>?_);obtain rfl:=OI h;exact gK hk
def El(aK:Int):Option Bool:=
 (Option.bind (α:=Bool) (bif (aK==1) then(some (aK==1)) else(bif (aK==8) then(some (aK==8)) else(bif (aK==16) then(some (aK==16)) else(bif (aK==32) then(some (aK==32)) else(some (aK==64)))))) (fun x2=>(bif x2 then(some true) else(some false))))
theorem Fu(aK:Int)(r:Bool)(h:El aK=some r):Spec Tryz.prog 109 [(Z7 aK)] [] (.bool r) []:=by
 refine Af mix Tryz.func109 (fun Γ hq=>?_);unfold El at h;refine Am hq [0] [] ?_;refine Am hq [3] [] ?_;obtain⟨x2,hx2,h⟩:=bind_some h;refine gJ hx2 (fun b1=>aG Γ .normal (⟨[(4,(.bool b1))],[],[]⟩:St)) ?_ ?_
 ·clear h hx2;intro y h;refine Am hq [3,4] [] ?_;refine gC h ?_ ?_<;>intro h
  ·cases h;exact gK (Ck (Cn [4] [] hq))
  ·refine Am hq [3,4] [] ?_;refine gC h ?_ ?_<;>intro h
   ·cases h;exact gK (Ck (Cn [4] [] hq))
   ·refine Am hq [3,4] [] ?_;refine gC h ?_ ?_<;>intro h
    ·cases h;exact gK (Ck (Cn [4] [] hq))
    ·refine Am hq [3,4] [] ?_;refine gC h ?_ ?_<;>intro h
     ·cases h;exact gK (Ck (Cn [4] [] hq))
     ·refine Am hq [4] [] ?_;cases h;exact gK (Ck De)
 ·clear hx2;refine gA ?_;refine gC h ?_ ?_<;>intro h
  ·refine Am hq [2] [] ?_;obtain rfl:=OI h;exact B6 []
  ·refine Am hq [2] [] ?_;obtain rfl:=OI h;exact B6 []
def Ji(aB:List Int):Int->Option (LR Int (Unit ⊕ Bool)):=
 fun(i1:Int)=>(bif (decide (i1<(aB.length:Int))) then(Bi (Bk i1 aB.length) ((El (aB.getD i1.toNat 0)).bind fun x3=>(bif (!x3) then(some (.done (.inr false))) else(some (.next (A8 (i1+1))))))) else(some (.done (.inl ()))))
def Tq(Γ:Du)(aB:List Int)(r:Bool):Exit->St->Prop:=fK Tryz.prog Γ Tryz.f108.results.toList [] (.bool r) []
def Ir(aB:List Int):Option Bool:=
 ((Bd (Ji aB) (0:Int)).bind (fun x4=>(match x4 with|(.inl _)=>(some true)|(.inr r6)=>(some r6))))
theorem Sb(aB:List Int)(r:Bool)(h:Ir aB=some r):Spec Tryz.prog 108 [(Z8 aB),(.clo 109 [] [])] [] (.bool r) []:=by
 refine Af mix Tryz.func108 (fun Γ hq=>?_);unfold Ir at h;refine Am hq Ed [] ?_;refine Am hq Jd [] ?_;obtain⟨x4,hx4,h⟩:=bind_some h;refine gL hq hx4 Jd [] (fun u i1=>(Df u [(9,(Z7 i1))] [])) (fun u x_=>match x_ with|(.inl _)=>aG Γ (.exit 0) (⟨[],[],[]⟩:St)|(.inr r_)=>aR (Tq Γ aB r_)) ?_ ?_
 ·intro i1 y h;unfold Ji at h;refine Am hq Tl [] ?_;refine gC h ?_ ?_<;>intro h
  ·obtain⟨hc2,h⟩:=Ad h;refine gR hq Tm [] [] [] (c1 hc2) ?_;obtain⟨x3,hx3,h⟩:=bind_some h;refine gR hq V6 [] [] [(Z2 x3)] (c1 (Fu (aB.getD i1.toNat 0) x3 hx3)) ?_;refine gC h ?_ ?_<;>intro h
   ·refine Am hq [4] [] ?_;cases h;exact gO (Ms (Ig [] (Le.refl _ _)))
   ·refine Am hq Jd [] ?_;cases h;exact gN De
  ·cases h;exact gO (Ck (Cn [] [] hq))
 ·clear hx4;rcases x4 with _|r6
  ·refine gA ?_;refine Am hq [4] [] ?_;obtain rfl:=OI h;exact B6 []
  ·refine Qe (fun st' hk=>?_);obtain rfl:=OI h;exact gK hk
def H2(aU:Ab):Option Bool:=
 ((El aU.Bits).bind fun x1=>(some x1))
theorem Rk(aU:Ab)(r:Bool)(h:H2 aU=some r):Spec Tryz.prog 140 [(.agg (Pi aU))] [] (.bool r) []:=by
 refine Af mix Tryz.func140 (fun Γ hq=>?_);unfold H2 at h;refine Am hq [1] [1] ?_;obtain⟨x1,hx1,h⟩:=bind_some h;refine gR hq [2] [] [] [(Z2 x1)] (c1 (Fu aU.Bits x1 hx1)) ?_;obtain rfl:=OI h;exact B6 []
def Hk(aB:List Ab):Int->Option (LR Int (Unit ⊕ Bool)):=
 fun(i1:Int)=>(bif (decide (i1<(aB.length:Int))) then(Bi (Bk i1 aB.length) ((H2 (aB.getD i1.toNat default)).bind fun x3=>(bif (!x3) then(some (.done (.inr false))) else(some (.next (A8 (i1+1))))))) else(some (.done (.inl ()))))
def Pb(Γ:Du)(aB:List Ab)(r:Bool):Exit->St->Prop:=fK Tryz.prog Γ Tryz.f139.results.toList [] (.bool r) []
def Gd(aB:List Ab):Option Bool:=
 ((Bd (Hk aB) (0:Int)).bind (fun x4=>(match x4 with|(.inl _)=>(some true)|(.inr r6)=>(some r6))))
theorem N5(aB:List Ab)(r:Bool)(h:Gd aB=some r):Spec Tryz.prog 139 [(Z47 aB),(.clo 140 [] [])] [] (.bool r) []:=by
 refine Af mix Tryz.func139 (fun Γ hq=>?_);unfold Gd at h;refine Am hq Ed [] ?_;refine Am hq Jd [] ?_;obtain⟨x4,hx4,h⟩:=bind_some h;refine gL hq hx4 Jd [] (fun u i1=>(Df u [(9,(Z7 i1))] [])) (fun u x_=>match x_ with|(.inl _)=>aG Γ (.exit 0) (⟨[],[],[]⟩:St)|(.inr r_)=>aR (Pb Γ aB r_)) ?_ ?_
 ·intro i1 y h;unfold Hk at h;refine Am hq Tl [] ?_;refine gC h ?_ ?_<;>intro h
  ·obtain⟨hc2,h⟩:=Ad h;refine gR hq Tm [6] [] [] (c1 hc2) ?_;obtain⟨x3,hx3,h⟩:=bind_some h;refine gR hq V6 [] [] [(Z2 x3)] (c1 (Rk (aB.getD i1.toNat default) x3 hx3)) ?_;refine gC h ?_ ?_<;>intro h
   ·refine Am hq [4] [] ?_;cases h;exact gO (Ms (Ig [] (Le.refl _ _)))
   ·refine Am hq Jd [] ?_;cases h;exact gN De
  ·cases h;exact gO (Ck (Cn [] [] hq))
 ·clear hx4;rcases x4 with _|r6
  ·refine gA ?_;refine Am hq [4] [] ?_;obtain rfl:=OI h;exact B6 []
  ·refine Qe (fun st' hk=>?_);obtain rfl:=OI h;exact gK hk
def Kv(aaG:Int):Option Bool:=
 (some (bif (decide (((0:Int):Int)<=aaG)) then(decide (aaG<=22)) else false))
theorem U8(aaG:Int)(r:Bool)(h:Kv aaG=some r):Spec Tryz.prog 165 [(Z7 aaG)] [] (.bool r) []:=by
 refine Af mix Tryz.func165 (fun Γ hq=>?_);unfold Kv at h;refine Am hq [0] [] ?_;refine gR hq [2] [] [] [] (ci (gI ((decide (((0:Int):Int)<=aaG))==true)) (c1 (Kr (decide (((0:Int):Int)<=aaG))))) ?_;cases h;exact B6 []
def Q68(x5:Bool)(aK:Int):=(bif x5 then(decide (((8:Int):Int)<=aK)) else false)
def Mf(aK:Int)(aa2:Int):Option Bool:=
 (bif (aa2==1) then((El aK).bind fun x1=>(some x1)) else(Option.bind (α:=Bool) (bif (aa2==2) then(some (aa2==2)) else(bif (aa2==4) then(some (aa2==4)) else(bif (aa2==8) then(some (aa2==8)) else(some (aa2==16))))) (fun x3=>(bif x3 then((El aK).bind fun x5=>(some (bif (bif x5 then(decide (((8:Int):Int)<=aK)) else false) then(decide (((A8 (aK*aa2)):Int)<=128)) else false))) else(some false)))))
theorem Wv(aK:Int)(aa2:Int)(r:Bool)(h:Mf aK aa2=some r):Spec Tryz.prog 166 [(Z7 aK),(Z7 aa2)] [] (.bool r) []:=by
 refine Af mix Tryz.func166 (fun Γ hq=>?_);unfold Mf at h;refine Am hq Ed [] ?_;refine Am hq V3 [] ?_;refine Am hq zzN99 [] ?_;refine gC h ?_ ?_<;>intro h
 ·obtain⟨x1,hx1,h⟩:=bind_some h;refine gR hq [4] [] [] [(Z2 x1)] (c1 (Fu aK x1 hx1)) ?_;obtain rfl:=OI h;exact B6 []
 ·obtain⟨x3,hx3,h⟩:=bind_some h;refine gJ hx3 (fun b2=>aG Γ .normal (⟨[(0,(Z7 aK)),(1,(Z7 aa2)),(10,(.bool b2))],[],[]⟩:St)) ?_ ?_
  ·clear h hx3;intro y h;refine Am hq [0,1,5,10] [] ?_;refine gC h ?_ ?_<;>intro h
   ·cases h;exact gK (Ck (Cn V7 [] hq))
   ·refine Am hq [0,1,5,10] [] ?_;refine gC h ?_ ?_<;>intro h
    ·cases h;exact gK (Ck (Cn V7 [] hq))
    ·refine Am hq [0,1,5,10] [] ?_;refine gC h ?_ ?_<;>intro h
     ·cases h;exact gK (Ck (Cn V7 [] hq))
     ·refine Am hq V7 [] ?_;cases h;exact gK (Ck De)
  ·clear hx3;refine gA ?_;refine gC h ?_ ?_<;>intro h
   ·obtain⟨x5,hx5,h⟩:=bind_some h;refine gR hq [4] [] [] [(Z2 x5)] (ci (Fu aK x5 hx5) (ci (gI (x5==true)) (ci (Kr x5) (ci (gI ((Q68 x5 aK)==true)) (ci (gI ((Q68 x5 aK)==true)) (ci (gI ((Q68 x5 aK)==true)) (c1 (Kr (Q68 x5 aK))))))))) ?_;cases h;exact B6 []
   ·refine Am hq [4] [] ?_;obtain rfl:=OI h;exact B6 []
def Q69(a0:Aj):List (Nat×Own):=[(1,.row 57 [(Z7 a0.Kind),(Z7 a0.Bits),(Z7 a0.Lanes),(Z7 a0.Dst),(Z8 a0.Args),(.int .u64 a0.Imm)])]
def H4(a0:Aj):Option Bool:=
 (Option.bind (α:=Bool) (bif (a0.Kind==16) then(some (a0.Kind==16)) else(some (a0.Kind==17))) (fun x2=>(bif x2 then(some (decide (((8:Int):Int)<=a0.Bits))) else(Option.bind (α:=Bool) (bif (a0.Kind==18) then(some (a0.Kind==18)) else(some (a0.Kind==19))) (fun x5=>(bif x5 then(some (bif (decide (((8:Int):Int)<=a0.Bits)) then(a0.Lanes==1) else false)) else(Option.bind (α:=Bool) (bif (a0.Kind==4) then(some (a0.Kind==4)) else(bif (a0.Kind==10) then(some (a0.Kind==10)) else(bif (a0.Kind==11) then(some (a0.Kind==11)) else(bif (a0.Kind==12) then(some (a0.Kind==12)) else(bif (a0.Kind==14) then(some (a0.Kind==14)) else(bif (a0.Kind==15) then(some (a0.Kind==15)) else(some (a0.Kind==20)))))))) (fun x8=>(bif x8 then(some (a0.Lanes==1)) else(Option.bind (α:=Bool) (bif (a0.Kind==21) then(some (a0.Kind==21)) else(some (a0.Kind==22))) (fun x11=>(bif x11 then(some (decide (((1:Int):Int)<a0.Lanes))) else(some true)))))))))))))
theorem Rm(a0:Aj)(r:Bool)(h:H4 a0=some r):Spec Tryz.prog 167 [(.agg (Eh a0))] [] (.bool r) []:=by
 refine Af mix Tryz.func167 (fun Γ hq=>?_);unfold H4 at h;refine Am hq [1] [1] ?_;refine Am hq [1,4] [1] ?_;obtain⟨x2,hx2,h⟩:=bind_some h;refine gJ hx2 (fun b1=>aG Γ .normal (⟨[(1,(.ptr 1 0)),(4,(Z7 a0.Kind)),(5,(.bool b1))],(Q69 a0),[]⟩:St)) ?_ ?_
 ·clear h hx2;intro y h;refine Am hq [1,4,5] [1] ?_;refine gC h ?_ ?_<;>intro h
  ·cases h;exact gK (Ck De)
  ·refine Am hq [1,4,5] [1] ?_;cases h;exact gK (Ck De)
 ·clear hx2;refine gA ?_;refine gC h ?_ ?_<;>intro h
  ·refine Am hq [2] [] ?_;cases h;exact B6 []
  ·obtain⟨x5,hx5,h⟩:=bind_some h;refine gJ hx5 (fun b4=>aG Γ .normal (⟨[(1,(.ptr 1 0)),(4,(Z7 a0.Kind)),(11,(.bool b4))],(Q69 a0),[]⟩:St)) ?_ ?_
   ·clear h hx5;intro y h;refine Am hq [1,4,11] [1] ?_;refine gC h ?_ ?_<;>intro h
    ·cases h;exact gK (Ck De)
    ·refine Am hq [1,4,11] [1] ?_;cases h;exact gK (Ck De)
   ·clear hx5;refine gA ?_;refine gC h ?_ ?_<;>intro h
    ·refine gR hq [2] [] [] [] (ci (gI ((decide (((8:Int):Int)<=a0.Bits))==true)) (ci (gI ((decide (((8:Int):Int)<=a0.Bits))==true)) (c1 (Kr (decide (((8:Int):Int)<=a0.Bits)))))) ?_;cases h;exact B6 []
    ·obtain⟨x8,hx8,h⟩:=bind_some h;refine gJ hx8 (fun b7=>aG Γ .normal (⟨[(1,(.ptr 1 0)),(4,(Z7 a0.Kind)),(22,(.bool b7))],(Q69 a0),[]⟩:St)) ?_ ?_
     ·clear h hx8;intro y h;refine Am hq V8 [1] ?_;refine gC h ?_ ?_<;>intro h
      ·cases h;exact gK (Ck De)
      ·refine Am hq V8 [1] ?_;refine gC h ?_ ?_<;>intro h
       ·cases h;exact gK (Ck De)
       ·refine Am hq V8 [1] ?_;refine gC h ?_ ?_<;>intro h
        ·cases h;exact gK (Ck De)
        ·refine Am hq V8 [1] ?_;refine gC h ?_ ?_<;>intro h
         ·cases h;exact gK (Ck De)
         ·refine Am hq V8 [1] ?_;refine gC h ?_ ?_<;>intro h
          ·cases h;exact gK (Ck De)
          ·refine Am hq V8 [1] ?_;refine gC h ?_ ?_<;>intro h
           ·cases h;exact gK (Ck De)
           ·refine Am hq V8 [1] ?_;cases h;exact gK (Ck De)
     ·clear hx8;refine gA ?_;refine gC h ?_ ?_<;>intro h
      ·refine Am hq [2] [] ?_;cases h;exact B6 []
      ·obtain⟨x11,hx11,h⟩:=bind_some h;refine gJ hx11 (fun b10=>aG Γ .normal (⟨[(1,(.ptr 1 0)),(33,(.bool b10))],(Q69 a0),[]⟩:St)) ?_ ?_
       ·clear h hx11;intro y h;refine Am hq [1,4,33] [1] ?_;refine gC h ?_ ?_<;>intro h
        ·cases h;exact gK (Ck (Cn [1,33] [1] hq))
        ·refine Am hq [1,33] [1] ?_;cases h;exact gK (Ck De)
       ·clear hx11;refine gA ?_;refine gC h ?_ ?_<;>intro h
        ·refine Am hq [2] [] ?_;cases h;exact B6 []
        ·refine Am hq [2] [] ?_;obtain rfl:=OI h;exact B6 []
def Qi(aD:Int)(aK:Int):Option Int:=
 ((El aK).bind fun x1=>(bif (!x1) then(some (0:Int)) else(Bi (0<=(A8 ((64:Int)-aK))) (Bi (0<=(A8 ((64:Int)-aK))) (some (T1 .u64 (shlV .u64 aD (A8 ((64:Int)-aK))) (A8 ((64:Int)-aK))))))))
theorem Aba(aD:Int)(aK:Int)(r:Int)(h:Qi aD aK=some r):Spec Tryz.prog 173 [(.int .u64 aD),(Z7 aK)] [] (.int .u64 r) []:=by
 refine Af mix Tryz.func173 (fun Γ hq=>?_);unfold Qi at h;refine Am hq Ed [] ?_;obtain⟨x1,hx1,h⟩:=bind_some h;refine gR hq [0,1,7] [] [] [(Z2 x1)] (c1 (Fu aK x1 hx1)) ?_;refine gC h ?_ ?_<;>intro h
 ·refine Am hq [4] [] ?_;cases h;exact B6 []
 ·obtain⟨hc2,h⟩:=Ad h;obtain⟨hc3,h⟩:=Ad h;refine gR hq [4] [] [] [] (ci hc2 (c1 hc3)) ?_;cases h;exact B6 []
def Hr(aa4:Int):Option Bool:=
 ((bif ((decide (aa4<=64))==true) then El (A8 aa4) else some false).bind fun x1=>(some (bif (decide (aa4<=64)) then x1 else false)))
theorem M4(aa4:Int)(r:Bool)(h:Hr aa4=some r):Spec Tryz.prog 174 [(.int .u64 aa4)] [] (.bool r) []:=by
 refine Af mix Tryz.func174 (fun Γ hq=>?_);unfold Hr at h;refine Am hq [0] [] ?_;obtain⟨x1,hx1,h⟩:=bind_some h;refine gR hq [2] [] [] [(Z2 x1)] (ci (gI ((decide (aa4<=64))==true)) (ci (gI ((decide (aa4<=64))==true)) (ci (fun(hg:((decide (aa4<=64))==true)=true)=>(Fu (A8 aa4) x1 (Bn hg hx1))) (c1 (Kr (decide (aa4<=64))))))) ?_;cases h;exact B6 []
def Ju(a0:Aj):Option Bool:=
 (bif (a0.Kind==0) then((Qi a0.Imm a0.Bits).bind fun x1=>(some (x1==a0.Imm))) else(bif (a0.Kind==14) then((Hr a0.Imm).bind fun x2=>(some (bif x2 then(decide (a0.Imm<(H9 a0.Bits))) else false))) else(bif (a0.Kind==15) then((Hr a0.Imm).bind fun x3=>(some (bif x3 then(decide (((H9 a0.Bits):Int)<a0.Imm)) else false))) else(bif (a0.Kind==22) then(some (decide (a0.Imm<(H9 a0.Lanes)))) else(some (a0.Imm==0))))))
theorem T0(a0:Aj)(r:Bool)(h:Ju a0=some r):Spec Tryz.prog 168 [(.agg (Eh a0))] [] (.bool r) []:=by
 refine Af mix Tryz.func168 (fun Γ hq=>?_);unfold Ju at h;refine Am hq [1] [1] ?_;refine Am hq [1,4] [1] ?_;refine Am hq [1,4,5] [1] ?_;refine gC h ?_ ?_<;>intro h
 ·obtain⟨x1,hx1,h⟩:=bind_some h;refine gR hq [2] [] [] [⟨[],[],(.int .u64 x1),[],[],[]⟩] (c1 (Aba a0.Imm a0.Bits x1 hx1)) ?_;cases h;exact B6 []
 ·refine Am hq [1,4,15] [1] ?_;refine gC h ?_ ?_<;>intro h
  ·obtain⟨x2,hx2,h⟩:=bind_some h;refine gR hq [2] [] [] [(Z2 x2)] (ci (M4 a0.Imm x2 hx2) (ci (gI (x2==true)) (ci (gI (x2==true)) (ci (gI (x2==true)) (ci (gI (x2==true)) (ci (gI (x2==true)) (c1 (Kr x2)))))))) ?_;cases h;exact B6 []
  ·refine Am hq [1,4,28] [1] ?_;refine gC h ?_ ?_<;>intro h
   ·obtain⟨x3,hx3,h⟩:=bind_some h;refine gR hq [2] [] [] [(Z2 x3)] (ci (M4 a0.Imm x3 hx3) (ci (gI (x3==true)) (ci (gI (x3==true)) (ci (gI (x3==true)) (ci (gI (x3==true)) (ci (gI (x3==true)) (c1 (Kr x3)))))))) ?_;cases h;exact B6 []
   ·refine Am hq [1,41] [1] ?_;refine gC h ?_ ?_<;>intro h
    ·refine Am hq [2] [] ?_;cases h;exact B6 []
    ·refine Am hq [2] [] ?_;cases h;exact B6 []
def Cw(aaL:List ((Int×Int))):Option (List (Int×Int)):=
 (some aaL)
theorem C7(aaL:List ((Int×Int)))(r:List ((Int×Int)))(h:Cw aaL=some r):Spec Tryz.prog 171 [(Z5 aaL)] [] (Z5 r) []:=by
 refine Af mix Tryz.func171 (fun Γ hq=>?_);unfold Cw at h;refine gR hq [0] [] [(2,Z27)] [] (c1 (C1 2 Bc ((0:Int),(0:Int)))) ?_;refine Am hq [2] [] ?_;obtain rfl:=OI h;exact B6 []
def D2 :(Int×List (Int×Int))->Option (LR (Int×List (Int×Int)) (List (Int×Int))):=
 fun((i7,l8):(Int×List (Int×Int)))=>(bif (decide (i7<(l8.length:Int))) then(Bi (0<=i7/\0+i7.toNat<=l8.length) (Bi (0<=i7/\0+i7.toNat<=l8.length) (some (.next ((A8 (i7+((Nat.min ((0+i7.toNat)-0) (l8.length-(0+i7.toNat))):Int))),(cpL l8 (0+i7.toNat) (Nat.min ((0+i7.toNat)-0) (l8.length-(0+i7.toNat))) (fun i=>l8.getD (0+i) ((0:Int),(0:Int))))))))) else(some (.done l8)))
def Q70(x3:(Int×Int)):=(List.replicate (A8 x3.2).toNat ((0:Int),(0:Int)))
def Q72(x3:(Int×Int))(aH:List ((Int×Int))):=(cpL (Q70 x3) 0 (Nat.min aH.length ((Q70 x3).length-0)) (fun i=>aH.getD i ((0:Int),(0:Int))))
def Q71(l8:List ((Int×Int)))(i7:Int):=(cpL l8 (0+i7.toNat) (Nat.min ((0+i7.toNat)-0) (l8.length-(0+i7.toNat))) (fun i=>l8.getD (0+i) ((0:Int),(0:Int))))
def C4(aH:List ((Int×Int)))(aa0:Int):Option (List (Int×Int)):=
 (Option.bind (α:=Unit) (bif (decide (aa0<0)) then none else(some ())) (fun x1=>(match x1 with|_=>((L6 (H9 (aH.length:Int)) (H9 aa0)).bind fun x3=>(Option.bind (α:=Unit) (bif (bif (decide (((0:Int):Int)<x3.1)) then true else(decide (((9223372036854775807:Int):Int)<x3.2))) then none else(some ())) (fun x4=>(match x4 with|_=>(Bi (0<=(A8 x3.2)/\(A8 x3.2)<=(A8 x3.2)/\(A8 x3.2)<=(room:Int)) ((Bd (S:=(Int×List (Int×Int))) (X:=List (Int×Int)) D2 (((Nat.min aH.length ((List.replicate (A8 x3.2).toNat ((0:Int),(0:Int))).length-0)):Int),(cpL (List.replicate (A8 x3.2).toNat ((0:Int),(0:Int))) 0 (Nat.min aH.length ((List.replicate (A8 x3.2).toNat ((0:Int),(0:Int))).length-0)) (fun i=>aH.getD i ((0:Int),(0:Int)))))).bind (fun x12=>(some x12)))))))))))
theorem Iw(aH:List ((Int×Int)))(aa0:Int)(r:List ((Int×Int)))(h:C4 aH aa0=some r):Spec Tryz.prog 172 [(Z5 aH),(Z7 aa0)] [] (AV.list 2 Bc ((0:Int),(0:Int)) r (.own 20000)) [(20000,.tok 2 88 r.length)]:=by
 refine Af mix Tryz.func172 (fun Γ hq=>?_);have hΓ:=hq.own;unfold C4 at h;refine gR hq Ed [] [(4,Z27)] [] (c1 (C1 2 Bc ((0:Int),(0:Int)))) ?_;obtain⟨x1,hx1,h⟩:=bind_some h;refine gJ hx1 (fun _=>aG Γ .normal (⟨[(0,(Z5 aH)),(1,(Z7 aa0))],[],[]⟩:St)) ?_ ?_
 ·clear h hx1;intro y h;refine Am hq V7 [] ?_;refine gC h ?_ ?_<;>intro h
  ·cases h
  ·cases h;exact gK (Ck (Cn Ed [] hq))
 ·clear hx1;refine gA ?_;obtain⟨x3,hx3,h⟩:=bind_some h;refine gR hq V2 [] [] [⟨[],[],(.tuple (Z52 x3.1 x3.2)),[],[],[]⟩] (c1 (S3 (H9 (aH.length:Int)) (H9 aa0) x3 hx3)) ?_;obtain⟨x4,hx4,h⟩:=bind_some h;refine gJ hx4 (fun _=>aG Γ .normal (⟨[(0,(Z5 aH)),(6,(.int .u64 x3.2))],[],[]⟩:St)) ?_ ?_
  ·clear h hx4;intro y h;refine gR hq [0,6,26] [] [] [] (ci (gI ((decide (((0:Int):Int)<x3.1))==false)) (c1 (Ox (decide (((0:Int):Int)<x3.1))))) ?_;refine gC h ?_ ?_<;>intro h
   ·cases h
   ·cases h;exact gK (Ck (Cn [0,6] [] hq))
  ·clear hx4;refine gA ?_;obtain⟨hc6,h⟩:=Ad h;refine gR hq [0,7] [30] [] [] (c1 hc6) ?_;refine I6 (Le.trans (O2 30 (show ∀ k_,k_<((A8 x3.2).toNat)->AVleL ((fun i_=>AV.eraseAll (fun n_=>Bx n_ [30]) ((fun _=>[W4,W4]) i_)) k_) ((fun i=>Bc ((Q70 x3).getD i ((0:Int),(0:Int)))) k_) from(fun k hk=>Re (e:=Bc) (d:=((0:Int),(0:Int))) (.cons (AVle.refl _) (.cons (AVle.refl _) .nil)) _ k (Rq hk)))) (O3 (fun(k_:Nat) u=>(Df u [(7,(.vsl 30 k_))] [(30,.arr 2 88 k_ (fun i=>Bc ((Q70 x3).getD i ((0:Int),(0:Int)))))])) (show(A8 x3.2).toNat=(Q70 x3).length from(Rr ..).symm))) ?_;refine gR hq [7,8] [30] [] [] (c1 (Eq.refl ((Q70 x3).length))) ?_;refine I6 (Le.trans (O2 30 (show ∀ k_,k_<((Q70 x3).length)->AVleL ((fun i_=>AV.eraseAll (fun n_=>Bx n_ [30]) ((cpF (fun i=>Bc ((Q70 x3).getD i ((0:Int),(0:Int)))) 0 (Nat.min aH.length ((Q70 x3).length-0)) (fun i=>Bc (aH.getD i ((0:Int),(0:Int))))) i_)) k_) ((fun i=>Bc ((Q72 x3 aH).getD i ((0:Int),(0:Int)))) k_) from(Be (Eg ..) (fun k_ hk_=>(Bm (AV.eraseAll (fun n_=>Bx n_ [30])) ((T7 (e:=Bc) (d:=((0:Int),(0:Int))) (l:=(Q70 x3)) (s:=(fun i=>aH.getD i ((0:Int),(0:Int)))) (fun _ _=>rfl) (fun _ _=>rfl)) k_ hk_)).trans rfl)))) (O3 (fun(k_:Nat) u=>(Df u [(7,(.vsl 30 k_))] [(30,.arr 2 88 k_ (fun i=>Bc ((Q72 x3 aH).getD i ((0:Int),(0:Int)))))])) (show(Q70 x3).length=(Q72 x3 aH).length from(Eg ..)))) ?_;obtain⟨x12,hx12,h⟩:=bind_some h;refine gL hq hx12 [7,8] [30] (fun u (i7,l8)=>(Df u [(7,(.vsl 30 l8.length)),(8,(Z7 i7))] (Z43 l8))) (fun u l9=>aG Γ (.exit 0) (⟨[(7,(.vsl 30 l9.length))],(Z43 l9),[]⟩:St)) ?_ ?_
   ·rintro⟨i7,l8⟩ y h;unfold D2 at h;refine Am hq [7,8,37] [30] ?_;refine gC h ?_ ?_<;>intro h
    ·obtain⟨hc10,h⟩:=Ad h;obtain⟨hc11,h⟩:=Ad h;refine gR hq [7,8] [30] [] [] (ci hc10 (ci hc11 (ci (Eq.refl l8.length) (c1 (Eq.refl l8.length))))) ?_;cases h;exact gN (Le.trans (Le.trans (O2 30 (show ∀ k_,k_<l8.length->AVleL ((fun i_=>AV.eraseAll (fun n_=>Bx n_ [30]) ((cpF (fun i=>Bc (l8.getD i ((0:Int),(0:Int)))) (0+i7.toNat) (Nat.min ((0+i7.toNat)-0) (l8.length-(0+i7.toNat))) (fun i=>(fun i=>Bc (l8.getD i ((0:Int),(0:Int)))) (0+i))) i_)) k_) ((fun i=>Bc ((Q71 l8 i7).getD i ((0:Int),(0:Int)))) k_) from(Be (Eg ..) (fun k_ hk_=>(Bm (AV.eraseAll (fun n_=>Bx n_ [30])) ((T7 (e:=Bc) (d:=((0:Int),(0:Int))) (l:=l8) (s:=(fun i=>l8.getD (0+i) ((0:Int),(0:Int)))) (fun _ _=>rfl) (fun _ _=>rfl)) k_ hk_)).trans rfl)))) (O3 (fun(k_:Nat) u=>(Df u [(7,(.vsl 30 k_))] [(30,.arr 2 88 k_ (fun i=>Bc ((Q71 l8 i7).getD i ((0:Int),(0:Int)))))])) (show l8.length=(Q71 l8 i7).length from(Eg ..)))) De)
    ·cases h;exact gO (Ck (Cn [7] [30] hq))
   ·clear hx12;refine gA ?_;refine Am hq [4] [30] ?_;refine Q0 (⟨[(4,(.vsl 30 x12.length))],(Z43 x12),[]⟩:St) ?_;obtain rfl:=OI h;exact gK (e:=.ret) (Ig [(30,20000)] (Le.trans (H0 (nm:=30) (sz:=2) (n:=x12.length) (e:=88) (f:=(fun i=>Bc (x12.getD i ((0:Int),(0:Int))))) (g:=(fun i=>Bc (x12.getD i ((0:Int),(0:Int))))) rfl ⟨rfl,trivial⟩ (fun _ _=>rfl) (by rw[hΓ];rfl)) (Jh (st':=⟨[(4,(AV.list 2 Bc ((0:Int),(0:Int)) x12 (.own 30)))],[(30,.tok 2 88 x12.length)],[]⟩) (by kernel_rfl))))
def Q73(a0:Aj):List (Nat×Own):=[(1,.row 57 [(Z7 a0.Kind),(Z7 a0.Bits),(Z7 a0.Lanes),(Z7 a0.Dst),(Z8 a0.Args),(.int .u64 a0.Imm)]),(3,.row 88 [(.int .i64 (1:Int)),(.int .i64 (1:Int))]),(4,.row 88 [(Z50 64),(.int .i64 (1:Int))]),(5,.row 88 [(Z7 a0.Bits),(Z7 a0.Lanes)]),(6,.row 88 [(Z7 a0.Bits),(.int .i64 (1:Int))])]
def I8(a0:Aj):Option (List (Int×Int)):=
 (bif (a0.Kind==0) then((Cw ([]:List (Int×Int))).bind fun x1=>(some x1)) else(bif (a0.Kind==13) then((Cw ([((1:Int),(1:Int)),(a0.Bits,a0.Lanes),(a0.Bits,a0.Lanes)]:List (Int×Int))).bind fun x2=>(some x2)) else(Option.bind (α:=Bool) (bif (a0.Kind==14) then(some (a0.Kind==14)) else(some (a0.Kind==15))) (fun x4=>(bif x4 then((Cw ([((A8 a0.Imm),(1:Int))]:List (Int×Int))).bind fun x6=>(some x6)) else(bif (a0.Kind==16) then((Cw ([((64:Int),(1:Int))]:List (Int×Int))).bind fun x7=>(some x7)) else(bif (a0.Kind==17) then((Cw ([((64:Int),(1:Int)),(a0.Bits,a0.Lanes)]:List (Int×Int))).bind fun x8=>(some x8)) else(Option.bind (α:=Bool) (bif (a0.Kind==18) then(some (a0.Kind==18)) else(some (a0.Kind==19))) (fun x10=>(bif x10 then((Cw ([((1:Int),(1:Int)),((64:Int),(1:Int)),(a0.Bits,(1:Int))]:List (Int×Int))).bind fun x12=>(some x12)) else(bif (a0.Kind==20) then((Cw ([((1:Int),(1:Int)),(a0.Bits,(1:Int)),(a0.Bits,(1:Int)),(a0.Bits,(1:Int))]:List (Int×Int))).bind fun x13=>(some x13)) else(bif (a0.Kind==21) then((C4 ([(a0.Bits,(1:Int))]:List (Int×Int)) a0.Lanes).bind fun x14=>((Cw x14).bind fun x15=>(some x15))) else(bif (a0.Kind==22) then((Cw ([(a0.Bits,a0.Lanes)]:List (Int×Int))).bind fun x16=>(some x16)) else((Cw ([(a0.Bits,a0.Lanes),(a0.Bits,a0.Lanes)]:List (Int×Int))).bind fun x17=>(some x17)))))))))))))))
theorem Pv(a0:Aj)(r:List ((Int×Int)))(h:I8 a0=some r):Spec Tryz.prog 162 [(.agg (Eh a0))] [] (Z5 r) []:=by
 refine Af mix Tryz.func162 (fun Γ hq=>?_);unfold I8 at h;refine gR hq [1] [1] [(2,Z27)] [] (c1 (C1 2 Bc ((0:Int),(0:Int)))) ?_;refine Am hq [1,3,4] [1,3,4] ?_;refine Am hq Oq Oq ?_;refine Am hq [1,3,4,5,6,18] Oq ?_;refine Am hq [1,3,4,5,6,18,19] Oq ?_;refine gC h ?_ ?_<;>intro h
 ·obtain⟨x1,hx1,h⟩:=bind_some h;refine gR hq [2] [] [] [(Z30 x1)] (c1 (show(Spec Tryz.prog 171 [(.slice 0 0 (fun _=>[]) .none)] [] (Z5 x1) []) from(Spec.args (.cons av_nil0 .nil) (C7 ([]:List (Int×Int)) x1 hx1)))) ?_;obtain rfl:=OI h;exact B6 []
 ·refine Am hq [1,3,4,5,6,18,22] Oq ?_;refine gC h ?_ ?_<;>intro h
  ·obtain⟨x2,hx2,h⟩:=bind_some h;refine gR hq [2] [] [(27,(AV.list 2 Bc ((0:Int),(0:Int)) ([((1:Int),(1:Int)),(a0.Bits,a0.Lanes),(a0.Bits,a0.Lanes)]:List (Int×Int)) .exact))] [(Z30 x2)] (ci (A6 2 Bc ((0:Int),(0:Int)) ([((1:Int),(1:Int)),(a0.Bits,a0.Lanes),(a0.Bits,a0.Lanes)]:List (Int×Int))) (c1 (C7 ([((1:Int),(1:Int)),(a0.Bits,a0.Lanes),(a0.Bits,a0.Lanes)]:List (Int×Int)) x2 hx2))) ?_;obtain rfl:=OI h;exact B6 []
  ·obtain⟨x4,hx4,h⟩:=bind_some h;refine gJ hx4 (fun b3=>aG Γ .normal (⟨[(1,(.ptr 1 0)),(3,(.ptr 3 0)),(4,(.ptr 4 0)),(5,(.ptr 5 0)),(6,(.ptr 6 0)),(18,(Z7 a0.Kind)),(29,(.bool b3))],(Q73 a0),[]⟩:St)) ?_ ?_
   ·clear h hx4;intro y h;refine Am hq [1,3,4,5,6,18,29] Oq ?_;refine gC h ?_ ?_<;>intro h
    ·cases h;exact gK (Ck De)
    ·refine Am hq [1,3,4,5,6,18,29] Oq ?_;cases h;exact gK (Ck De)
   ·clear hx4;refine gA ?_;refine gC h ?_ ?_<;>intro h
    ·obtain⟨x6,hx6,h⟩:=bind_some h;refine gR hq [2] [] [(36,(AV.list 2 Bc ((0:Int),(0:Int)) ([((A8 a0.Imm),(1:Int))]:List (Int×Int)) .exact))] [(Z30 x6)] (ci (A6 2 Bc ((0:Int),(0:Int)) ([((A8 a0.Imm),(1:Int))]:List (Int×Int))) (c1 (C7 ([((A8 a0.Imm),(1:Int))]:List (Int×Int)) x6 hx6))) ?_;obtain rfl:=OI h;exact B6 []
    ·refine Am hq [1,3,4,5,6,18,38] Oq ?_;refine gC h ?_ ?_<;>intro h
     ·obtain⟨x7,hx7,h⟩:=bind_some h;refine gR hq [2] [] [(41,(AV.list 2 Bc ((0:Int),(0:Int)) ([((64:Int),(1:Int))]:List (Int×Int)) .exact))] [(Z30 x7)] (ci (A6 2 Bc ((0:Int),(0:Int)) ([((64:Int),(1:Int))]:List (Int×Int))) (c1 (C7 ([((64:Int),(1:Int))]:List (Int×Int)) x7 hx7))) ?_;obtain rfl:=OI h;exact B6 []
     ·refine Am hq [1,3,4,5,6,18,43] Oq ?_;refine gC h ?_ ?_<;>intro h
      ·obtain⟨x8,hx8,h⟩:=bind_some h;refine gR hq [2] [] [(47,(AV.list 2 Bc ((0:Int),(0:Int)) ([((64:Int),(1:Int)),(a0.Bits,a0.Lanes)]:List (Int×Int)) .exact))] [(Z30 x8)] (ci (A6 2 Bc ((0:Int),(0:Int)) ([((64:Int),(1:Int)),(a0.Bits,a0.Lanes)]:List (Int×Int))) (c1 (C7 ([((64:Int),(1:Int)),(a0.Bits,a0.Lanes)]:List (Int×Int)) x8 hx8))) ?_;obtain rfl:=OI h;exact B6 []
      ·obtain⟨x10,hx10,h⟩:=bind_some h;refine gJ hx10 (fun b9=>aG Γ .normal (⟨[(1,(.ptr 1 0)),(3,(.ptr 3 0)),(4,(.ptr 4 0)),(5,(.ptr 5 0)),(6,(.ptr 6 0)),(18,(Z7 a0.Kind)),(49,(.bool b9))],(Q73 a0),[]⟩:St)) ?_ ?_
       ·clear h hx10;intro y h;refine Am hq [1,3,4,5,6,18,49] Oq ?_;refine gC h ?_ ?_<;>intro h
        ·cases h;exact gK (Ck De)
        ·refine Am hq [1,3,4,5,6,18,49] Oq ?_;cases h;exact gK (Ck De)
       ·clear hx10;refine gA ?_;refine gC h ?_ ?_<;>intro h
        ·obtain⟨x12,hx12,h⟩:=bind_some h;refine gR hq [2] [] [(55,(AV.list 2 Bc ((0:Int),(0:Int)) ([((1:Int),(1:Int)),((64:Int),(1:Int)),(a0.Bits,(1:Int))]:List (Int×Int)) .exact))] [(Z30 x12)] (ci (A6 2 Bc ((0:Int),(0:Int)) ([((1:Int),(1:Int)),((64:Int),(1:Int)),(a0.Bits,(1:Int))]:List (Int×Int))) (c1 (C7 ([((1:Int),(1:Int)),((64:Int),(1:Int)),(a0.Bits,(1:Int))]:List (Int×Int)) x12 hx12))) ?_;obtain rfl:=OI h;exact B6 []
        ·refine Am hq [1,3,5,6,18,57] [1,3,5,6] ?_;refine gC h ?_ ?_<;>intro h
         ·obtain⟨x13,hx13,h⟩:=bind_some h;refine gR hq [2] [] [(63,(AV.list 2 Bc ((0:Int),(0:Int)) ([((1:Int),(1:Int)),(a0.Bits,(1:Int)),(a0.Bits,(1:Int)),(a0.Bits,(1:Int))]:List (Int×Int)) .exact))] [(Z30 x13)] (ci (A6 2 Bc ((0:Int),(0:Int)) ([((1:Int),(1:Int)),(a0.Bits,(1:Int)),(a0.Bits,(1:Int)),(a0.Bits,(1:Int))]:List (Int×Int))) (c1 (C7 ([((1:Int),(1:Int)),(a0.Bits,(1:Int)),(a0.Bits,(1:Int)),(a0.Bits,(1:Int))]:List (Int×Int)) x13 hx13))) ?_;obtain rfl:=OI h;exact B6 []
         ·refine Am hq [1,5,6,18,65] [1,5,6] ?_;refine gC h ?_ ?_<;>intro h
          ·obtain⟨x14,hx14,h⟩:=bind_some h;obtain⟨x15,hx15,h⟩:=bind_some h;refine gR hq [2] [] [(68,(AV.list 2 Bc ((0:Int),(0:Int)) ([(a0.Bits,(1:Int))]:List (Int×Int)) .exact))] [⟨[],[(20000,71)],(AV.list 2 Bc ((0:Int),(0:Int)) x14 (.own 20000)),[(20000,.tok 2 88 x14.length)],[],[]⟩,(Z30 x15)] (ci (A6 2 Bc ((0:Int),(0:Int)) ([(a0.Bits,(1:Int))]:List (Int×Int))) (ci (Iw ([(a0.Bits,(1:Int))]:List (Int×Int)) a0.Lanes x14 hx14) (c1 (C7 x14 x15 hx15)))) ?_;obtain rfl:=OI h;exact B6 []
          ·refine Am hq [5,73] [5] ?_;refine gC h ?_ ?_<;>intro h
           ·obtain⟨x16,hx16,h⟩:=bind_some h;refine gR hq [2] [] [(76,(AV.list 2 Bc ((0:Int),(0:Int)) ([(a0.Bits,a0.Lanes)]:List (Int×Int)) .exact))] [(Z30 x16)] (ci (A6 2 Bc ((0:Int),(0:Int)) ([(a0.Bits,a0.Lanes)]:List (Int×Int))) (c1 (C7 ([(a0.Bits,a0.Lanes)]:List (Int×Int)) x16 hx16))) ?_;obtain rfl:=OI h;exact B6 []
           ·obtain⟨x17,hx17,h⟩:=bind_some h;refine gR hq [2] [] [(80,(AV.list 2 Bc ((0:Int),(0:Int)) ([(a0.Bits,a0.Lanes),(a0.Bits,a0.Lanes)]:List (Int×Int)) .exact))] [(Z30 x17)] (ci (A6 2 Bc ((0:Int),(0:Int)) ([(a0.Bits,a0.Lanes),(a0.Bits,a0.Lanes)]:List (Int×Int))) (c1 (C7 ([(a0.Bits,a0.Lanes),(a0.Bits,a0.Lanes)]:List (Int×Int)) x17 hx17))) ?_;obtain rfl:=OI h;exact B6 []
def Hq(aD:Int):Option Bool:=
 (some (bif (decide (((1:Int):Int)<=aD)) then(decide (aD<=1023)) else false))
theorem M3(aD:Int)(r:Bool)(h:Hq aD=some r):Spec Tryz.prog 175 [(Z7 aD)] [] (.bool r) []:=by
 refine Af mix Tryz.func175 (fun Γ hq=>?_);unfold Hq at h;refine Am hq [0] [] ?_;refine gR hq [2] [] [] [] (ci (gI ((decide (((1:Int):Int)<=aD))==true)) (c1 (Kr (decide (((1:Int):Int)<=aD))))) ?_;cases h;exact B6 []
def Ki(a0:Aj):Int->Option (LR Int (Unit ⊕ Bool)):=
 fun(i2:Int)=>(bif (decide (i2<(a0.Args.length:Int))) then(Bi (Bk i2 a0.Args.length) ((Hq (a0.Args.getD i2.toNat 0)).bind fun x4=>(bif (!x4) then(some (.done (.inr false))) else(some (.next (A8 (i2+1))))))) else(some (.done (.inl ()))))
def Uf(Γ:Du)(a0:Aj)(r:Bool):Exit->St->Prop:=fK Tryz.prog Γ Tryz.f169.results.toList [] (.bool r) []
def Js(a0:Aj):Option Bool:=
 ((I8 a0).bind fun x1=>(bif (((a0.Args.length:Int):Int)!=(x1.length:Int)) then(some false) else((Bd (Ki a0) (0:Int)).bind (fun x5=>(match x5 with|(.inl _)=>(some true)|(.inr r7)=>(some r7))))))
theorem Ty(a0:Aj)(r:Bool)(h:Js a0=some r):Spec Tryz.prog 169 [(.agg (Eh a0))] [] (.bool r) []:=by
 refine Af mix Tryz.func169 (fun Γ hq=>?_);unfold Js at h;refine Am hq [1] [1] ?_;obtain⟨x1,hx1,h⟩:=bind_some h;refine gR hq [1,11] [1] [] [(Z30 x1)] (c1 (Pv a0 x1 hx1)) ?_;refine gC h ?_ ?_<;>intro h
 ·refine Am hq [2] [] ?_;obtain rfl:=OI h;exact B6 []
 ·refine Am hq [13,14,15] [] ?_;obtain⟨x5,hx5,h⟩:=bind_some h;refine gL hq hx5 [13,14,15] [] (fun u i2=>(Df u [(15,(Z7 i2))] [])) (fun u x_=>match x_ with|(.inl _)=>aG Γ (.exit 0) (⟨[],[],[]⟩:St)|(.inr r_)=>aR (Uf Γ a0 r_)) ?_ ?_
  ·intro i2 y h;unfold Ki at h;refine Am hq [13,14,15,16] [] ?_;refine gC h ?_ ?_<;>intro h
   ·obtain⟨hc3,h⟩:=Ad h;refine gR hq [4,13,14,15] [] [] [] (c1 hc3) ?_;obtain⟨x4,hx4,h⟩:=bind_some h;refine gR hq [13,14,15,21] [] [] [(Z2 x4)] (c1 (M3 (a0.Args.getD i2.toNat 0) x4 hx4)) ?_;refine gC h ?_ ?_<;>intro h
    ·refine Am hq [2] [] ?_;cases h;exact gO (Ms (Ig [] (Le.refl _ _)))
    ·refine Am hq [13,14,15] [] ?_;cases h;exact gN De
   ·cases h;exact gO (Ck (Cn [] [] hq))
  ·clear hx5;rcases x5 with _|r7
   ·refine gA ?_;refine Am hq [2] [] ?_;obtain rfl:=OI h;exact B6 []
   ·refine Qe (fun st' hk=>?_);obtain rfl:=OI h;exact gK hk
def Q74(a0:Aj):List (Nat×Own):=[(1,.row 57 [(Z7 a0.Kind),(Z7 a0.Bits),(Z7 a0.Lanes),(Z7 a0.Dst),(Z8 a0.Args),(.int .u64 a0.Imm)])]
def I7(a0:Aj):Option (Int×Int):=
 (Option.bind (α:=Bool) (bif (a0.Kind==17) then(some (a0.Kind==17)) else(some (a0.Kind==19))) (fun x2=>(bif x2 then(some ((0:Int),(0:Int))) else(Option.bind (α:=Bool) (bif (a0.Kind==10) then(some (a0.Kind==10)) else(bif (a0.Kind==11) then(some (a0.Kind==11)) else(some (a0.Kind==12)))) (fun x5=>(bif x5 then(some ((1:Int),(1:Int))) else(bif (a0.Kind==22) then(some (a0.Bits,(1:Int))) else(some (a0.Bits,a0.Lanes)))))))))
theorem Pu(a0:Aj)(r:(Int×Int))(h:I7 a0=some r):Spec Tryz.prog 161 [(.agg (Eh a0))] [] (.tuple [(Z7 r.1),(Z7 r.2)]) []:=by
 refine Af mix Tryz.func161 (fun Γ hq=>?_);unfold I7 at h;refine Am hq [1] [1] ?_;refine Am hq [1,5] [1] ?_;obtain⟨x2,hx2,h⟩:=bind_some h;refine gJ hx2 (fun b1=>aG Γ .normal (⟨[(1,(.ptr 1 0)),(5,(Z7 a0.Kind)),(6,(.bool b1))],(Q74 a0),[]⟩:St)) ?_ ?_
 ·clear h hx2;intro y h;refine Am hq [1,5,6] [1] ?_;refine gC h ?_ ?_<;>intro h
  ·cases h;exact gK (Ck De)
  ·refine Am hq [1,5,6] [1] ?_;cases h;exact gK (Ck De)
 ·clear hx2;refine gA ?_;refine gC h ?_ ?_<;>intro h
  ·refine Am hq Gu [] ?_;cases h;exact B6 []
  ·obtain⟨x5,hx5,h⟩:=bind_some h;refine gJ hx5 (fun b4=>aG Γ .normal (⟨[(1,(.ptr 1 0)),(5,(Z7 a0.Kind)),(9,(.bool b4))],(Q74 a0),[]⟩:St)) ?_ ?_
   ·clear h hx5;intro y h;refine Am hq [1,5,9] [1] ?_;refine gC h ?_ ?_<;>intro h
    ·cases h;exact gK (Ck De)
    ·refine Am hq [1,5,9] [1] ?_;refine gC h ?_ ?_<;>intro h
     ·cases h;exact gK (Ck De)
     ·refine Am hq [1,5,9] [1] ?_;cases h;exact gK (Ck De)
   ·clear hx5;refine gA ?_;refine gC h ?_ ?_<;>intro h
    ·refine Am hq Gu [] ?_;cases h;exact B6 []
    ·refine Am hq [1,13] [1] ?_;refine gC h ?_ ?_<;>intro h
     ·refine Am hq Gu [] ?_;cases h;exact B6 []
     ·refine Am hq Gu [] ?_;cases h;exact B6 []
def Jt(a0:Aj):Option Bool:=
 ((I7 a0).bind fun x1=>(bif (x1.1==0) then(some (a0.Dst==0)) else((Hq a0.Dst).bind fun x2=>(some x2))))
theorem Tz(a0:Aj)(r:Bool)(h:Jt a0=some r):Spec Tryz.prog 170 [(.agg (Eh a0))] [] (.bool r) []:=by
 refine Af mix Tryz.func170 (fun Γ hq=>?_);unfold Jt at h;refine Am hq [1] [1] ?_;obtain⟨x1,hx1,h⟩:=bind_some h;refine gR hq [1,3] [1] [] [⟨[],[],(.tuple [(Z7 x1.1),(Z7 x1.2)]),[],[],[]⟩] (c1 (Pu a0 x1 hx1)) ?_;refine Am hq [1,11] [1] ?_;refine gC h ?_ ?_<;>intro h
 ·refine Am hq [2] [] ?_;cases h;exact B6 []
 ·obtain⟨x2,hx2,h⟩:=bind_some h;refine gR hq [2] [] [] [(Z2 x2)] (c1 (M3 a0.Dst x2 hx2)) ?_;obtain rfl:=OI h;exact B6 []
def Q75(x1:Bool)(x2:Bool):=(bif (!x1) then true else(!x2))
def Jr(a0:Aj):Option Bool:=
 ((Kv a0.Kind).bind fun x1=>((bif ((!x1)==false) then Mf a0.Bits a0.Lanes else some false).bind fun x2=>((bif ((bif (!x1) then true else(!x2))==false) then H4 a0 else some false).bind fun x3=>((bif ((bif (bif (!x1) then true else(!x2)) then true else(!x3))==false) then Ju a0 else some false).bind fun x4=>(bif (bif (bif (bif (!x1) then true else(!x2)) then true else(!x3)) then true else(!x4)) then(some false) else((Js a0).bind fun x5=>((bif (x5==true) then Jt a0 else some false).bind fun x6=>(some (bif x5 then x6 else false)))))))))
theorem Oa(a0:Aj)(r:Bool)(h:Jr a0=some r):Spec Tryz.prog 159 [(.agg (Eh a0))] [] (.bool r) []:=by
 refine Af mix Tryz.func159 (fun Γ hq=>?_);unfold Jr at h;refine Am hq [1] [1] ?_;obtain⟨x1,hx1,h⟩:=bind_some h;obtain⟨x2,hx2,h⟩:=bind_some h;obtain⟨x3,hx3,h⟩:=bind_some h;obtain⟨x4,hx4,h⟩:=bind_some h;refine gR hq [1,24] [1] [] [(Z2 x1),(Z2 x2),(Z2 x3),(Z2 x4)] (ci (U8 a0.Kind x1 hx1) (ci (gI ((!x1)==false)) (ci (gI ((!x1)==false)) (ci (gI ((!x1)==false)) (ci (gI ((!x1)==false)) (ci (fun(hg:((!x1)==false)=true)=>(Wv a0.Bits a0.Lanes x2 (Bn hg hx2))) (ci (gI ((!x1)==false)) (ci (Ox (!x1)) (ci (gI ((Q75 x1 x2)==false)) (ci (fun(hg:((Q75 x1 x2)==false)=true)=>(Rm a0 x3 (Bn hg hx3))) (ci (gI ((Q75 x1 x2)==false)) (ci (Ox (Q75 x1 x2)) (ci (gI ((bif (Q75 x1 x2) then true else(!x3))==false)) (ci (fun(hg:((bif (Q75 x1 x2) then true else(!x3))==false)=true)=>(T0 a0 x4 (Bn hg hx4))) (ci (gI ((bif (Q75 x1 x2) then true else(!x3))==false)) (c1 (Ox (bif (Q75 x1 x2) then true else(!x3))))))))))))))))))) ?_;refine gC h ?_ ?_<;>intro h
 ·refine Am hq [2] [] ?_;obtain rfl:=OI h;exact B6 []
 ·obtain⟨x5,hx5,h⟩:=bind_some h;obtain⟨x6,hx6,h⟩:=bind_some h;refine gR hq [2] [] [] [(Z2 x5),(Z2 x6)] (ci (Ty a0 x5 hx5) (ci (gI (x5==true)) (ci (fun(hg:(x5==true)=true)=>(Tz a0 x6 (Bn hg hx6))) (c1 (Kr x5))))) ?_;cases h;exact B6 []
def L8(a0:Aj)(aN:Int):Option Bool:=
 (bif (aN==0) then(some (bif (decide (a0.Kind<=17)) then(a0.Lanes==1) else false)) else(bif (aN==1) then(some (bif (decide (a0.Kind<=20)) then(a0.Lanes==1) else false)) else(some true)))
theorem Wq(a0:Aj)(aN:Int)(r:Bool)(h:L8 a0 aN=some r):Spec Tryz.prog 160 [(.agg (Eh a0)),(Z7 aN)] [] (.bool r) []:=by
 refine Af mix Tryz.func160 (fun Γ hq=>?_);unfold L8 at h;refine Am hq Or [2] ?_;refine Am hq [2,5] [2] ?_;refine Am hq P8 [2] ?_;refine gC h ?_ ?_<;>intro h
 ·refine gR hq [4] [] [] [] (ci (gI ((decide (a0.Kind<=17))==true)) (ci (gI ((decide (a0.Kind<=17))==true)) (c1 (Kr (decide (a0.Kind<=17)))))) ?_;cases h;exact B6 []
 ·refine Am hq P9 [2] ?_;refine gC h ?_ ?_<;>intro h
  ·refine gR hq [4] [] [] [] (ci (gI ((decide (a0.Kind<=20))==true)) (ci (gI ((decide (a0.Kind<=20))==true)) (c1 (Kr (decide (a0.Kind<=20)))))) ?_;cases h;exact B6 []
  ·refine Am hq [4] [] ?_;obtain rfl:=OI h;exact B6 []
def D0(a0:Aj)(a1:Ae)(a7:Int)(a8:List Int)(a4:List Ao):Option (Bool×Ae×Int×List Int×List Ao):=
 ((Jr a0).bind fun x1=>((bif (x1==true) then L8 a0 a7 else some false).bind fun x2=>(some ((bif x1 then x2 else false),a1,a7,a8,a4))))
theorem K1(a0:Aj)(a1:Ae)(a7:Int)(a8:List Int)(a4:List Ao)(r:(Bool×Ae×Int×List Int×List Ao))(h:D0 a0 a1 a7 a8 a4=some r):Spec Tryz.prog 142 [Yx,(.agg (Eh a0))] (Z3 a1.Params a1.Ret a1.Blocks a7 a8 a4 a4.length) (.bool r.1) (Z3 r.2.1.Params r.2.1.Ret r.2.1.Blocks r.2.2.1 r.2.2.2.1 r.2.2.2.2 r.2.2.2.2.length):=by
 refine Af mix Tryz.func142 (fun Γ hq=>?_);unfold D0 at h;refine Am hq Na Ab1 ?_;obtain⟨x1,hx1,h⟩:=bind_some h;obtain⟨x2,hx2,h⟩:=bind_some h;refine gR hq [4] C0 [] [(Z2 x1),(Z2 x2)] (ci (Oa a0 x1 hx1) (ci (gI (x1==true)) (ci (gI (x1==true)) (ci (gI (x1==true)) (ci (gI (x1==true)) (ci (gI (x1==true)) (ci (fun(hg:(x1==true)=true)=>(Wq a0 a7 x2 (Bn hg hx2))) (c1 (Kr x1))))))))) ?_;cases h;exact B6 T2
def Hz(aB:List Aj):(Int×List Int×Int×List Aa×Int×List Int×List Ao)->Option (LR (Int×List Int×Int×List Aa×Int×List Int×List Ao) ((List Int×Int×List Aa×Int×List Int×List Ao) ⊕ (Bool×Ae×Int×List Int×List Ao))):=
 fun((i1,l2,i3,l4,i5,l6,l7):(Int×List Int×Int×List Aa×Int×List Int×List Ao))=>(bif (decide (i1<(aB.length:Int))) then(Bi (Bk i1 aB.length) ((D0 (aB.getD i1.toNat default) (⟨l2,i3,l4⟩:Ae) i5 l6 l7).bind fun x15=>(bif (!x15.1) then(some (.done (.inr (false,x15.2.1,x15.2.2.1,x15.2.2.2.1,x15.2.2.2.2)))) else(some (.next ((A8 (i1+1)),x15.2.1.Params,x15.2.1.Ret,x15.2.1.Blocks,x15.2.2.1,x15.2.2.2.1,x15.2.2.2.2)))))) else(some (.done (.inl (l2,i3,l4,i5,l6,l7)))))
def Qa(Γ:Du)(aB:List Aj)(a1:Ae)(a7:Int)(a8:List Int)(a4:List Ao)(r:(Bool×Ae×Int×List Int×List Ao)):Exit->St->Prop:=fK Tryz.prog Γ Tryz.f141.results.toList (Z3 a1.Params a1.Ret a1.Blocks a7 a8 a4 a4.length) (.bool r.1) (Z3 r.2.1.Params r.2.1.Ret r.2.1.Blocks r.2.2.1 r.2.2.2.1 r.2.2.2.2 r.2.2.2.2.length)
def Gz(aB:List Aj)(a1:Ae)(a7:Int)(a8:List Int)(a4:List Ao):Option (Bool×Ae×Int×List Int×List Ao):=
 ((Bd (Hz aB) ((0:Int),a1.Params,a1.Ret,a1.Blocks,a7,a8,a4)).bind (fun x16=>(match x16 with|(.inl (l8,i9,l10,i11,l12,l13))=>(some (true,(⟨l8,i9,l10⟩:Ae),i11,l12,l13))|(.inr r18)=>(some r18))))
theorem Pd(aB:List Aj)(a1:Ae)(a7:Int)(a8:List Int)(a4:List Ao)(r:(Bool×Ae×Int×List Int×List Ao))(h:Gz aB a1 a7 a8 a4=some r):Spec Tryz.prog 141 [(Z57 aB),(.clo 142 [Yx] [])] (Z3 a1.Params a1.Ret a1.Blocks a7 a8 a4 a4.length) (.bool r.1) (Z3 r.2.1.Params r.2.1.Ret r.2.1.Blocks r.2.2.1 r.2.2.2.1 r.2.2.2.2 r.2.2.2.2.length):=by
 refine Af mix Tryz.func141 (fun Γ hq=>?_);unfold Gz at h;refine Am hq Ed C0 ?_;refine Am hq Jd C0 ?_;obtain⟨x16,hx16,h⟩:=bind_some h;refine gL hq hx16 Jd C0 (fun u (i1,l2,i3,l4,i5,l6,l7)=>(Df u [(9,(Z7 i1))] (Z3 l2 i3 l4 i5 l6 l7 l7.length))) (fun u x_=>match x_ with|(.inl (l8,i9,l10,i11,l12,l13))=>aG Γ (.exit 0) (⟨[],(Z3 l8 i9 l10 i11 l12 l13 l13.length),[]⟩:St)|(.inr r_)=>aR (Qa Γ aB a1 a7 a8 a4 r_)) ?_ ?_
 ·rintro⟨i1,l2,i3,l4,i5,l6,l7⟩ y h;unfold Hz at h;refine Am hq Tl C0 ?_;refine gC h ?_ ?_<;>intro h
  ·obtain⟨hc14,h⟩:=Ad h;refine gR hq Tm [6,30000,37006] [] [] (c1 hc14) ?_;obtain⟨x15,hx15,h⟩:=bind_some h;refine gR hq V6 C0 [] [(Z41 x15.1 x15.2.1.Params x15.2.1.Ret x15.2.1.Blocks x15.2.2.1 x15.2.2.2.1 x15.2.2.2.2 x15.2.2.2.2.length)] (c1 (K1 (aB.getD i1.toNat default) (⟨l2,i3,l4⟩:Ae) i5 l6 l7 x15 hx15)) ?_;refine gC h ?_ ?_<;>intro h
   ·refine Am hq [4] C0 ?_;cases h;exact gO (Ms (Ig T2 (Le.refl _ _)))
   ·refine Am hq Jd C0 ?_;cases h;exact gN De
  ·cases h;exact gO (Ck (Cn [] C0 hq))
 ·clear hx16;rcases x16 with⟨l8,i9,l10,i11,l12,l13⟩|r18
  ·refine gA ?_;refine Am hq [4] C0 ?_;cases h;exact B6 T2
  ·refine Qe (fun st' hk=>?_);obtain rfl:=OI h;exact gK hk
def Q78(x1:Bool)(x2:(Bool×Ae×Int×List Int×List Ao))(a8:List Int):AV:=(Z40 x1 x2.2.2.2.1 a8)
def Q77(x1:Bool)(x2:(Bool×Ae×Int×List Int×List Ao))(a1:Ae):AV:=(Z40 x1 x2.2.1.Params a1.Params)
def Q76(x1:Bool)(x2:(Bool×Ae×Int×List Int×List Ao))(a1:Ae):AV:=(.slice 5 (bif (x1==true) then x2.2.1.Blocks.length else a1.Blocks.length) (fun i=>bif (x1==true) then Bj (x2.2.1.Blocks.getD i default) else Bj (a1.Blocks.getD i default)) .none)
def Da(aJ:Aa)(a1:Ae)(a7:Int)(a8:List Int)(a4:List Ao):Option (Bool×Ae×Int×List Int×List Ao):=
 ((Gd aJ.Phis).bind fun x1=>((bif (x1==true) then Gz aJ.Ops a1 a7 a8 a4 else some (false,(default:Ae),(0:Int),[],[])).bind fun x2=>(some ((bif x1 then x2.1 else false),(⟨(bif (x1==true) then x2.2.1.Params else a1.Params),(bif (x1==true) then x2.2.1.Ret else a1.Ret),(bif (x1==true) then x2.2.1.Blocks else a1.Blocks)⟩:Ae),(bif (x1==true) then x2.2.2.1 else a7),(bif (x1==true) then x2.2.2.2.1 else a8),(bif (x1==true) then x2.2.2.2.2 else a4)))))
theorem Ja(aJ:Aa)(a1:Ae)(a7:Int)(a8:List Int)(a4:List Ao)(r:(Bool×Ae×Int×List Int×List Ao))(h:Da aJ a1 a7 a8 a4=some r):Spec Tryz.prog 111 [Yx,(.agg (Bj aJ))] (Z3 a1.Params a1.Ret a1.Blocks a7 a8 a4 a4.length) (.bool r.1) (Z3 r.2.1.Params r.2.1.Ret r.2.1.Blocks r.2.2.1 r.2.2.2.1 r.2.2.2.2 r.2.2.2.2.length):=by
 refine Af mix Tryz.func111 (fun Γ hq=>?_);unfold Da at h;refine Am hq Na Ab1 ?_;obtain⟨x1,hx1,h⟩:=bind_some h;obtain⟨x2,hx2,h⟩:=bind_some h;refine gR hq [4] C0 [] [(Z2 x1),(Z41 x2.1 x2.2.1.Params x2.2.1.Ret x2.2.1.Blocks x2.2.2.1 x2.2.2.2.1 x2.2.2.2.2 x2.2.2.2.2.length)] (ci (N5 aJ.Phis x1 hx1) (ci (gI (x1==true)) (ci (gI (x1==true)) (ci (gI (x1==true)) (ci (gI (x1==true)) (ci (fun(hg:(x1==true)=true)=>(Pd aJ.Ops a1 a7 a8 a4 x2 (Bn hg hx2))) (c1 (Kr x1)))))))) ?_;cases h;exact gK (e:=.ret) (Ig T2 (Le.trans (leB (fun g_ u=>(Df u [] [(30000,.row 103 [(Q77 x1 x2 a1),(.int .i64 (bif (x1==true) then x2.2.1.Ret else a1.Ret)),(Q76 x1 x2 a1),(.int .i64 (bif (x1==true) then x2.2.2.1 else a7)),(Q78 x1 x2 a8),.nilm,(Z17 g_ x2.2.2.2.2 a4)]),(37006,.tok 5 149 (bif g_ then x2.2.2.2.2.length else a4.length))])) (fun g_ u=>(Df u [] [(30000,.row 103 [(Q77 x1 x2 a1),(.int .i64 (bif (x1==true) then x2.2.1.Ret else a1.Ret)),(Q76 x1 x2 a1),(.int .i64 (bif (x1==true) then x2.2.2.1 else a7)),(Q78 x1 x2 a8),.nilm,(AV.list 5 F4 default (bif g_ then x2.2.2.2.2 else a4) (.own 37006))]),(37006,.tok 5 149 ((bif g_ then x2.2.2.2.2 else a4).length))])) (x1==true)) (Le.trans (leC 30000 0 (show AVle (Q77 x1 x2 a1) (AV.list 1 Aq 0 (bif (x1==true) then x2.2.1.Params else a1.Params) .none) from Dn)) (Le.trans (leC 30000 2 (show AVle (Q76 x1 x2 a1) (AV.list 5 Bj default (bif (x1==true) then x2.2.1.Blocks else a1.Blocks) .none) from Dn)) (leC 30000 4 (show AVle (Q78 x1 x2 a8) (AV.list 1 Aq 0 (bif (x1==true) then x2.2.2.2.1 else a8) .none) from Dn))))))
def Gi(aB:List Aa):(Int×List Int×Int×List Aa×Int×List Int×List Ao)->Option (LR (Int×List Int×Int×List Aa×Int×List Int×List Ao) ((List Int×Int×List Aa×Int×List Int×List Ao) ⊕ (Bool×Ae×Int×List Int×List Ao))):=
 fun((i1,l2,i3,l4,i5,l6,l7):(Int×List Int×Int×List Aa×Int×List Int×List Ao))=>(bif (decide (i1<(aB.length:Int))) then(Bi (Bk i1 aB.length) ((Da (aB.getD i1.toNat default) (⟨l2,i3,l4⟩:Ae) i5 l6 l7).bind fun x15=>(bif (!x15.1) then(some (.done (.inr (false,x15.2.1,x15.2.2.1,x15.2.2.2.1,x15.2.2.2.2)))) else(some (.next ((A8 (i1+1)),x15.2.1.Params,x15.2.1.Ret,x15.2.1.Blocks,x15.2.2.1,x15.2.2.2.1,x15.2.2.2.2)))))) else(some (.done (.inl (l2,i3,l4,i5,l6,l7)))))
def Nb(Γ:Du)(aB:List Aa)(a1:Ae)(a7:Int)(a8:List Int)(a4:List Ao)(r:(Bool×Ae×Int×List Int×List Ao)):Exit->St->Prop:=fK Tryz.prog Γ Tryz.f110.results.toList (Z3 a1.Params a1.Ret a1.Blocks a7 a8 a4 a4.length) (.bool r.1) (Z3 r.2.1.Params r.2.1.Ret r.2.1.Blocks r.2.2.1 r.2.2.2.1 r.2.2.2.2 r.2.2.2.2.length)
def Ez(aB:List Aa)(a1:Ae)(a7:Int)(a8:List Int)(a4:List Ao):Option (Bool×Ae×Int×List Int×List Ao):=
 ((Bd (Gi aB) ((0:Int),a1.Params,a1.Ret,a1.Blocks,a7,a8,a4)).bind (fun x16=>(match x16 with|(.inl (l8,i9,l10,i11,l12,l13))=>(some (true,(⟨l8,i9,l10⟩:Ae),i11,l12,l13))|(.inr r18)=>(some r18))))
theorem Mi(aB:List Aa)(a1:Ae)(a7:Int)(a8:List Int)(a4:List Ao)(r:(Bool×Ae×Int×List Int×List Ao))(h:Ez aB a1 a7 a8 a4=some r):Spec Tryz.prog 110 [(Z15 aB),(.clo 111 [Yx] [])] (Z3 a1.Params a1.Ret a1.Blocks a7 a8 a4 a4.length) (.bool r.1) (Z3 r.2.1.Params r.2.1.Ret r.2.1.Blocks r.2.2.1 r.2.2.2.1 r.2.2.2.2 r.2.2.2.2.length):=by
 refine Af mix Tryz.func110 (fun Γ hq=>?_);unfold Ez at h;refine Am hq Ed C0 ?_;refine Am hq Jd C0 ?_;obtain⟨x16,hx16,h⟩:=bind_some h;refine gL hq hx16 Jd C0 (fun u (i1,l2,i3,l4,i5,l6,l7)=>(Df u [(9,(Z7 i1))] (Z3 l2 i3 l4 i5 l6 l7 l7.length))) (fun u x_=>match x_ with|(.inl (l8,i9,l10,i11,l12,l13))=>aG Γ (.exit 0) (⟨[],(Z3 l8 i9 l10 i11 l12 l13 l13.length),[]⟩:St)|(.inr r_)=>aR (Nb Γ aB a1 a7 a8 a4 r_)) ?_ ?_
 ·rintro⟨i1,l2,i3,l4,i5,l6,l7⟩ y h;unfold Gi at h;refine Am hq Tl C0 ?_;refine gC h ?_ ?_<;>intro h
  ·obtain⟨hc14,h⟩:=Ad h;refine gR hq Tm [6,30000,37006] [] [] (c1 hc14) ?_;obtain⟨x15,hx15,h⟩:=bind_some h;refine gR hq V6 C0 [] [(Z41 x15.1 x15.2.1.Params x15.2.1.Ret x15.2.1.Blocks x15.2.2.1 x15.2.2.2.1 x15.2.2.2.2 x15.2.2.2.2.length)] (c1 (Ja (aB.getD i1.toNat default) (⟨l2,i3,l4⟩:Ae) i5 l6 l7 x15 hx15)) ?_;refine gC h ?_ ?_<;>intro h
   ·refine Am hq [4] C0 ?_;cases h;exact gO (Ms (Ig T2 (Le.refl _ _)))
   ·refine Am hq Jd C0 ?_;cases h;exact gN De
  ·cases h;exact gO (Ck (Cn [] C0 hq))
 ·clear hx16;rcases x16 with⟨l8,i9,l10,i11,l12,l13⟩|r18
  ·refine gA ?_;refine Am hq [4] C0 ?_;cases h;exact B6 T2
  ·refine Qe (fun st' hk=>?_);obtain rfl:=OI h;exact gK hk
def Yv(x1:Bool)(x2:Bool):=((bif x1 then x2 else false)==true)
def Q82(x1:Bool)(x2:Bool)(x3:(Bool×Ae×Int×List Int×List Ao))(a8:List Int):AV:=(Z11 (Yv x1 x2) x3.2.2.2.1 a8)
def Q81(x1:Bool)(x2:Bool)(x3:(Bool×Ae×Int×List Int×List Ao))(a1:Ae):AV:=(Z11 (Yv x1 x2) x3.2.1.Params a1.Params)
def Q80(x1:Bool)(x2:Bool)(x3:(Bool×Ae×Int×List Int×List Ao))(a1:Ae):AV:=(Z33 (Yv x1 x2) x3.2.1.Blocks a1.Blocks)
def E0(a1:Ae)(a7:Int)(a8:List Int)(a4:List Ao):Option (Int×Ae×Int×List Int×List Ao):=
 ((Ir a1.Params).bind fun x1=>((bif (x1==true) then El a1.Ret else some false).bind fun x2=>((bif ((bif x1 then x2 else false)==true) then Ez a1.Blocks a1 a7 a8 a4 else some (false,(default:Ae),(0:Int),[],[])).bind fun x3=>((Hl (bif (bif x1 then x2 else false) then x3.1 else false) (6:Int)).bind fun x4=>(some (x4,(⟨(bif ((bif x1 then x2 else false)==true) then x3.2.1.Params else a1.Params),(bif ((bif x1 then x2 else false)==true) then x3.2.1.Ret else a1.Ret),(bif ((bif x1 then x2 else false)==true) then x3.2.1.Blocks else a1.Blocks)⟩:Ae),(bif ((bif x1 then x2 else false)==true) then x3.2.2.1 else a7),(bif ((bif x1 then x2 else false)==true) then x3.2.2.2.1 else a8),(bif ((bif x1 then x2 else false)==true) then x3.2.2.2.2 else a4)))))))
theorem Mj(a1:Ae)(a7:Int)(a8:List Int)(a4:List Ao)(r:(Int×Ae×Int×List Int×List Ao))(h:E0 a1 a7 a8 a4=some r):Spec Tryz.prog 91 [Yx] (Z3 a1.Params a1.Ret a1.Blocks a7 a8 a4 a4.length) (Z7 r.1) (Z3 r.2.1.Params r.2.1.Ret r.2.1.Blocks r.2.2.1 r.2.2.2.1 r.2.2.2.2 r.2.2.2.2.length):=by
 refine Af mix Tryz.func91 (fun Γ hq=>?_);unfold E0 at h;refine Am hq [0] C0 ?_;obtain⟨x1,hx1,h⟩:=bind_some h;obtain⟨x2,hx2,h⟩:=bind_some h;obtain⟨x3,hx3,h⟩:=bind_some h;refine gR hq [3] C0 [] [(Z2 x1),(Z2 x2),(Z41 x3.1 x3.2.1.Params x3.2.1.Ret x3.2.1.Blocks x3.2.2.1 x3.2.2.2.1 x3.2.2.2.2 x3.2.2.2.2.length)] (ci (Sb a1.Params x1 hx1) (ci (gI (x1==true)) (ci (gI (x1==true)) (ci (gI (x1==true)) (ci (gI (x1==true)) (ci (gI (x1==true)) (ci (fun(hg:(x1==true)=true)=>(Fu a1.Ret x2 (Bn hg hx2))) (ci (Kr x1) (ci (gI (Yv x1 x2)) (ci (gI (Yv x1 x2)) (ci (gI (Yv x1 x2)) (ci (gI (Yv x1 x2)) (ci (gI (Yv x1 x2)) (ci (gI (Yv x1 x2)) (ci (gI (Yv x1 x2)) (ci (fun(hg:(Yv x1 x2)=true)=>(Mi a1.Blocks a1 a7 a8 a4 x3 (Bn hg hx3))) (c1 (Kr (bif x1 then x2 else false))))))))))))))))))) ?_;refine I6 (Le.trans (leB (fun g_ u=>(Df u [] [(30000,.row 103 [(Q81 x1 x2 x3 a1),(Z45 (Yv x1 x2) x3.2.1.Ret a1.Ret),(Q80 x1 x2 x3 a1),(Z45 (Yv x1 x2) x3.2.2.1 a7),(Q82 x1 x2 x3 a8),.nilm,(Z17 g_ x3.2.2.2.2 a4)]),(37006,.tok 5 149 (bif g_ then x3.2.2.2.2.length else a4.length))])) (fun g_ u=>(Df u [] [(30000,.row 103 [(Q81 x1 x2 x3 a1),(Z45 (Yv x1 x2) x3.2.1.Ret a1.Ret),(Q80 x1 x2 x3 a1),(Z45 (Yv x1 x2) x3.2.2.1 a7),(Q82 x1 x2 x3 a8),.nilm,(AV.list 5 F4 default (bif g_ then x3.2.2.2.2 else a4) (.own 37006))]),(37006,.tok 5 149 ((bif g_ then x3.2.2.2.2 else a4).length))])) (Yv x1 x2)) (Le.trans (leC 30000 0 (show AVle (Q81 x1 x2 x3 a1) (AV.list 1 Aq 0 (bif (Yv x1 x2) then x3.2.1.Params else a1.Params) .none) from Dn)) (Le.trans (leC 30000 2 (show AVle (Q80 x1 x2 x3 a1) (AV.list 5 Bj default (bif (Yv x1 x2) then x3.2.1.Blocks else a1.Blocks) .none) from Dn)) (leC 30000 4 (show AVle (Q82 x1 x2 x3 a8) (AV.list 1 Aq 0 (bif (Yv x1 x2) then x3.2.2.2.1 else a8) .none) from Dn))))) ?_;obtain⟨x4,hx4,h⟩:=bind_some h;refine gR hq [2] C0 [] [(Z31 x4)] (c1 (Mz (bif (bif x1 then x2 else false) then x3.1 else false) (6:Int) x4 hx4)) ?_;cases h;exact B6 T2
def Db(aK:Int):Option (Int×Int):=
 (some (aK,(1:Int)))
theorem Eu(aK:Int)(r:(Int×Int))(h:Db aK=some r):Spec Tryz.prog 112 [(Z7 aK)] [] (.agg (Bc r)) []:=by
 refine Af mix Tryz.func112 (fun Γ hq=>?_);unfold Db at h;refine Am hq [0,2] [2] ?_;refine Am hq [2] [2] ?_;cases h;exact B6 []
def Q83:=(fun(v_:Ak)=>((Lt v_):AV))
def C3(aD:Int)(aY:(Int×Int))(aC:Ee)(a1:Ae)(a7:Int)(a8:List Int)(a6:List (Int×Ak))(a4:List Ao):Option (Bool×Ae×Int×List Int×List Ao×List (Int×Ak)):=
 (bif (bif (bif (Cx a6 aD) then true else(decide (aD<1))) then true else(decide (((1023:Int):Int)<aD))) then(some (false,a1,a7,a8,a4,a6)) else(some (true,a1,a7,a8,a4,(H5 a6 aD (⟨aY,aC⟩:Ak)))))
theorem G8(aD:Int)(aY:(Int×Int))(aC:Ee)(a1:Ae)(a7:Int)(a8:List Int)(a6:List (Int×Ak))(a4:List Ao)(r:(Bool×Ae×Int×List Int×List Ao×List (Int×Ak)))(h:C3 aD aY aC a1 a7 a8 a6 a4=some r):Spec Tryz.prog 143 [Yx,(Z7 aD),(.agg (Bc aY)),(.agg (T9 aC))] [(Z1 a1.Params a1.Ret a1.Blocks a7 a8 9100005 a4),(J6 a4.length),(9100005,.obj (.map true .i64 (Bu (fun(v_:Ak)=>((Lt v_):AV)) a6)))] (.bool r.1) [(Z1 r.2.1.Params r.2.1.Ret r.2.1.Blocks r.2.2.1 r.2.2.2.1 9100005 r.2.2.2.2.1),(J6 r.2.2.2.2.1.length),(9100005,.obj (.map true .i64 (Bu (fun(v_:Ak)=>((Lt v_):AV)) r.2.2.2.2.2)))]:=by
 refine Af mix Tryz.func143 (fun Γ hq=>?_);unfold C3 at h;refine Am hq [0,1,6,7] zzN40 ?_;refine gR hq [0,1,6,7,10] zzN40 [(17,(.tuple [(Z29 a6 aD),(.bool (Cx a6 aD))]))] [] (c1 (show(AVle (.tuple [Ds Z14 (Bu Q83 a6) aD,.bool (Cx (Bu Q83 a6) aD)]) (.tuple [(Z29 a6 aD),(.bool (Cx a6 aD))])) from(Aaz (f:=Q83) (l:=a6) (AVle.refl _) rfl))) ?_;refine gR hq [0,1,6,7,28] zzN40 [] [] (ci (gI ((Cx a6 aD)==false)) (ci (Ox (Cx a6 aD)) (ci (gI ((bif (Cx a6 aD) then true else(decide (aD<1)))==false)) (c1 (Ox (bif (Cx a6 aD) then true else(decide (aD<1)))))))) ?_;refine gC h ?_ ?_<;>intro h
 ·refine Am hq [8] Cy ?_;cases h;exact B6 Pf
 ·refine Am hq [] Cy ?_;refine I6 (O3 (fun(k_:List (Int×AV)) u=>Df u [] [(9100005,.obj (.map true .i64 k_))]) (show(H5 (Bu Q83 a6) aD (.agg [(Z7 aY.1),(Z7 aY.2),(Z7 aC.block),(Z7 aC.at_)]))=(Bu Q83 (H5 a6 aD (⟨aY,aC⟩:Ak))) from(mset_eq (f:=Q83) (l:=a6) (v:=(⟨aY,aC⟩:Ak)) rfl rfl))) ?_;refine Am hq [8] Cy ?_;cases h;exact B6 Pf
def Me(a0:Aj):Option (Int×Int):=
 ((Jr a0).bind fun x1=>(bif (!x1) then(some ((0:Int),(0:Int))) else((I7 a0).bind fun x2=>(some (x2.1,x2.2)))))
theorem Wu(a0:Aj)(r:(Int×Int))(h:Me a0=some r):Spec Tryz.prog 144 [(.agg (Eh a0))] [] (.tuple [(Z7 r.1),(Z7 r.2)]) []:=by
 refine Af mix Tryz.func144 (fun Γ hq=>?_);unfold Me at h;refine Am hq [1] [1] ?_;obtain⟨x1,hx1,h⟩:=bind_some h;refine gR hq [1,6] [1] [] [(Z2 x1)] (c1 (Oa a0 x1 hx1)) ?_;refine gC h ?_ ?_<;>intro h
 ·refine Am hq Gu [] ?_;cases h;exact B6 []
 ·obtain⟨x2,hx2,h⟩:=bind_some h;refine gR hq Gu [] [] [⟨[],[],(.tuple [(Z7 x2.1),(Z7 x2.2)]),[],[],[]⟩] (c1 (Pu a0 x2 hx2)) ?_;cases h;exact B6 []
end
end Go.Proofs.YtmkiepobhjiabaaGreat
