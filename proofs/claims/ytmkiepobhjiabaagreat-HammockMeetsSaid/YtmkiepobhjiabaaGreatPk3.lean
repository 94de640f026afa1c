/-
  The machine, the program's functions and the laws' arithmetic: part 3 of 5.
-/
import Derived.Test.YtmkiepobhjiabaaGreatPk2
import Derived.BigCall
import Derived.Lib.RowBridge
import Derived.Shelf.Slices.Clone
import Derived.Shelf.Slices.CompactI
import Derived.Shelf.Slices.In.SortNone
import Derived.Shelf.Sort.Plain
import Derived.Sort.OwnSortedInts
import Derived.Test.YtmkiepobhjiabaaGreatProg
set_option linter.unusedVariables false
set_option linter.unusedSimpArgs false
namespace Go.Proofs.YtmkiepobhjiabaaGreat
noncomputable section
open Go Go.RowKit
def Gf{α:Type}(sz:Nat)(e:α->List AV)(d:α)(L:List (List α))(t:Nat->Tag):Nat->List AV:=fun j=>[AV.list sz e d (L.getD j []) (t j)]
def D4(b i k j:Nat):Tag:=bif Nat.beq j i then .own k else .fam b j
def Gq{α:Type}(L:List (List α)):Nat->Option Nat:=fun j=>if j<L.length then some (L.getD j []).length else none
def L3{α:Type}(L:List (List α))(i:Nat):Nat->Option Nat:=fun j=>if j=i then none else Gq L j
mutual
def AV.free(p:Tag->Bool):AV->Bool
 | .slice _ _ _ t=>p t
 | .clo _ xs ys=>AV.freeAll p xs&&AV.freeAll p ys
 | .agg cs=>AV.freeAll p cs
 | .rpo cs=>AV.freeAll p cs
 | .tuple cs=>AV.freeAll p cs
 | .cond _ x=>x.free p
 | _=>true
def AV.freeAll(p:Tag->Bool):List AV->Bool
 | []=>true
 | x::l=>x.free p&&AV.freeAll p l
end
theorem Is{p:Tag->Bool}{l:List AV}(h:AV.freeAll p l=true)(j:Nat):(l.getD j .any).free p=true:=by
 induction l generalizing j with
 | nil=>simp[AV.free]
 | cons x l ih=>
  simp only[AV.freeAll,A7]at h
  cases j with
  | zero=>simpa using h.1
  | succ j=>simpa using ih h.2 j
def AObj.Al(P:AV->Prop):AObj->Prop
 | .iter _ _=>True
 | .map _ _ _=>True
 | .pmap _ _ _=>True
 | .miter m _ _=>P m
 | .tab _ l=>∀ i,i<l.length->P (l.getD i (0,.any)).2
theorem AObj.Al.imp{P Q:AV->Prop}{x:AObj}(h:x.Al P)(k:∀ y,P y->Q y):x.Al Q:=by
 cases x with
 | iter=>trivial
 | map=>trivial
 | pmap=>trivial
 | miter=>exact k _ h
 | tab=>exact fun i hi=>k _ (h i hi)
theorem ObjR.al{P:AV->Prop}{I I':Nat->Nat->Prop}{own own':Nat->Option Own}{θ θ':Nat->Option (Nat×Nat)}{w w':World}{o:Obj}{x:AObj}(h:ObjR I own θ w o x)(hx:x.Al P)(hI:∀ b o,I b o->I' b o)(hw:∀ b o,I b o->w'.cell? ⟨b,o,none⟩=w.cell? ⟨b,o,none⟩)(hf:∀ v y,P y->Rep I own θ w v y->Rep I' own' θ' w' v y):ObjR I' own' θ' w' o x:=by
 cases h with
 | iter s p=>exact .iter s p
 | map es nn k l hs hr=>
  refine .map es nn k l hs fun i hi=>?_;obtain⟨v,h1,h2,h3⟩:=hr i hi;exact⟨v,h1,h2.mono hI hw,h3⟩
 | pmap es nn k l0 l hp hk hs hr=>
  refine .pmap es nn k l0 l hp hk hs fun i hi=>?_;obtain⟨v,h1,h2,h3⟩:=hr i hi;exact⟨v,h1,h2.mono hI hw,h3⟩
 | miter r m n c seen hc hr=>exact .miter r m n c seen hc (hf _ _ hx hr)
 | tab es k l hs hr=>exact .tab es k l hs fun i hi=>by obtain⟨v,h1,h2⟩:=hr i hi;exact⟨v,h1,hf _ _ (hx i hi) h2⟩
def noFam(b:Nat):Tag->Bool
 | .fam b' _=>!Nat.beq b' b
 | .own nm=>Nat.blt nm A9
 | _=>true
def noOwn(k:Nat):Tag->Bool
 | .own k'=>!Nat.beq k' k
 | _=>true
def Fr(q:Nat)(x:AV):Prop:=∀(I:Nat->Nat->Prop) (own own':Nat->Option Own) (θ θ':Nat->Option (Nat×Nat)) (w:World) (v:Value),(∃ sz e m,own q=some (.tok sz e m))->
 (∀ nm o,nm≠q->own nm=some o->∃ o',own' nm=some o'/\OwnLe o (θ nm) o' (θ' nm))->Rep I own θ w v x->Rep I own' θ' w v x
theorem fr_of{q:Nat}{p:Tag->Bool}(hp:∀ nm,p (.own nm)=true->nm≠q)(hf:∀ b i,i<A9->p (.fam b i)=true->Mm b i≠q){x:AV}(hx:x.free p=true):Fr q x:=by
 intro I own own' θ θ' w v hq ho h;obtain⟨s0,e0,m0,hq⟩:=hq;have hall:∀ nm o,nm≠q->own nm=some o->∃ o',own' nm=some o'/\OwnLe o (θ nm) o' (θ' nm):=ho
 have hne:∀{nm o},own nm=some o->(∀ sz e m,o≠.tok sz e m)->nm≠q:=fun hn hh=>by
  rintro rfl;rw[hq]at hn;exact hh _ _ _ (OI hn).symm
 induction h with
 | val v x h=>exact .val v x h
 | exact a n sz f h=>exact .exact a n sz f h
 | own nm sz e m a n cap f hn hm hv h=>
  obtain⟨o',ho',hle⟩:=ho nm _ (hp nm hx) hn
  cases o' with
  | tok sz' e' m'=>
   obtain⟨rfl,rfl,hmm,hθ⟩:=hle;refine .own nm _ _ m' a n cap f ho' (Np hm hmm) (fun he=>?_) h;rw[hθ (by omega)];exact hv (by omega)
  | _=>exact hle.elim
 | fam b i sz e m a n cap f hi hn hm hv h=>
  obtain⟨o',ho',hle⟩:=ho (Mm b i) _ (hf b i hi hx) hn
  cases o' with
  | tok sz' e' m'=>
   obtain⟨rfl,rfl,hmm,hθ⟩:=hle;refine .fam b i _ _ m' a n cap f hi ho' (Np hm hmm) (fun he=>?_) h;rw[hθ (by omega)];exact hv (by omega)
  | _=>exact hle.elim
 | ptr nm off e cells g c hn hg=>
  obtain⟨o',ho',hle⟩:=ho nm _ (hne hn (fun _ _ _ h=>by cases h)) hn
  cases o' with
  | row e' cells'=>
   have e:θ' nm=θ nm:=hle.2;exact .ptr nm off e' cells' g c ho' (e.trans hg)
  | _=>exact hle.elim
 | vsl nm sz e m f a n cap hn hm hcap hmax hnn hv=>
  obtain⟨o',ho',hle⟩:=ho nm _ (hne hn (fun _ _ _ h=>by cases h)) hn
  cases o' with
  | arr sz' e' m' f'=>
   obtain⟨rfl,rfl,hmm,hθ⟩:=hle;refine .vsl nm _ _ m' f' a n cap ho' (Np hm hmm) hcap hmax hnn (fun he=>?_);rw[hθ (by omega)];exact hv (by omega)
  | _=>exact hle.elim
 | vpt nm sz e m f n i j ad hn hm hi hv=>
  obtain⟨o',ho',hle⟩:=ho nm _ (hne hn (fun _ _ _ h=>by cases h)) hn
  cases o' with
  | arr sz' e' m' f'=>
   obtain⟨rfl,rfl,hmm,hθ⟩:=hle;refine .vpt nm _ _ m' f' n i j ad ho' (Np hm hmm) hi (fun he=>?_);rw[hθ (by omega)];exact hv (by omega)
  | _=>exact hle.elim
 | clo f fs cs xs ys hl hl' _ _ ih ih'=>
  simp only[AV.free,A7]at hx;exact .clo f fs cs xs ys hl hl' (fun j hj=>ih j hj (Is hx.1 j)) (fun j hj=>ih' j hj (Is hx.2 j))
 | optr nm mm x g c hn hg=>
  obtain⟨o',ho',hle⟩:=ho nm _ (hne hn (fun _ _ _ h=>by cases h)) hn
  cases o' with
  | obj x'=>exact .optr nm mm x' g c ho' (by rw[hle,hg])
  | _=>exact hle.elim
 | omap nm x hn=>
  obtain⟨o',ho',hle⟩:=ho nm _ (hne hn (fun _ _ _ h=>by cases h)) hn
  cases o' with
  | obj x'=>
   have hle:θ' nm=θ nm:=hle;rw[<- hle];exact .omap nm x' ho'
  | _=>exact hle.elim
 | vsub nm sz e m f n lo hi a cap hn hm hlo hhi hcap hmax hnn hv=>
  obtain⟨o',ho',hle⟩:=ho nm _ (hne hn (fun _ _ _ h=>by cases h)) hn
  cases o' with
  | arr sz' e' m' f'=>
   obtain⟨rfl,rfl,hmm,hθ⟩:=hle;refine .vsub nm _ _ m' f' n lo hi a cap ho' (Np hm hmm) hlo hhi hcap hmax hnn (fun he=>?_);rw[hθ (by omega)];exact hv (by omega)
  | _=>exact hle.elim
 | cond v c x _ h' ih=>exact .cond v c x (fun hc=>ih hc hx) h'
 | agg vs cs hl h1 _ ih=>exact .agg vs cs hl h1 (fun j hj=>ih j hj (Is hx j))
 | rpo a cells us hs hI' hc h1 _ ih=>exact .rpo a cells us hs hI' hc h1 (fun j hj=>ih j hj (Is hx j))
 | tuple vs cs hl _ ih=>exact .tuple vs cs hl (fun j hj=>ih j hj (Is hx j))
theorem fr_fam{b i:Nat}(hi:i<A9){x:AV}(hx:x.free (noFam b)=true):Fr (Mm b i) x:=
 fr_of (p:=noFam b) (fun nm hp he=>by
  have hlt:nm<A9:=by simpa [noFam,Fv] using hp
  rw[he]at hlt
  exact Je b i hlt) (fun b' i' hi' hp he=>by
  have h1:=Po (b:=b') hi';rw[he,Po hi]at h1;subst h1
  simp[noFam]at hp) hx
theorem fr_own{k:Nat}(hk:k<A9){x:AV}(hx:x.free (noOwn k)=true):Fr k x:=
 fr_of (p:=noOwn k) (fun nm hp he=>by subst he;simp[noOwn]at hp) (fun b i _ _ he=>by rw[<- he]at hk;exact Je b i hk) hx
def OwnFr(q:Nat):Own->Prop
 | .row _ cells=>∀ j,j<cells.length->Fr q (cells.getD j .any)
 | .arr sz _ m f=>∀ i j,i<m->j<sz->Fr q ((f i).getD j .any)
 | .obj x=>x.Al (Fr q)
 | .tok ..=>True
theorem Tv{I:Nat->Nat->Prop}{own own':Nat->Option Own}{θ θ':Nat->Option (Nat×Nat)}{w:World}{nm sz m:Nat}{e:TypeId}{f f':Nat->List AV}
  (h:(θ nm=none->m=0)/\∀ g c,θ nm=some (g,c)->∃ cur,w.heap[g]?=some (.cells cur e (0,0))/\m<=c/\c<=maxLen/\cur.size=c*sz /\
   (∀ i,i<m->(f i).length=sz)/\(∀ i j,i<m->j<sz->(cur.getD (i*sz+j) undef).oneCell'=true/\Rep I own θ w (cur.getD (i*sz+j) undef) ((f i).getD j .any))/\∀ j,¬ I g j)
  (hθ:θ' nm=θ nm) (hf:∀ i,i<m->(f' i).length=(f i).length) (hr:∀ i j v,i<m->j<sz->Rep I own θ w v ((f i).getD j .any)->Rep I own' θ' w v ((f' i).getD j .any)) :
  (θ' nm=none->m=0)/\∀ g c,θ' nm=some (g,c)->∃ cur,w.heap[g]?=some (.cells cur e (0,0))/\m<=c/\c<=maxLen/\cur.size=c*sz /\
   (∀ i,i<m->(f' i).length=sz)/\(∀ i j,i<m->j<sz->(cur.getD (i*sz+j) undef).oneCell'=true/\Rep I own' θ' w (cur.getD (i*sz+j) undef) ((f' i).getD j .any))/\∀ j,¬ I g j:=by
 rw[hθ];refine⟨h.1,fun g c hg=>?_⟩;obtain⟨cur,q1,q2,q3,q4,q5,q6,q7⟩:=h.2 g c hg;exact⟨cur,q1,q2,q3,q4,fun i hi=>(hf i hi).trans (q5 i hi),fun i j hi hj=>⟨(q6 i j hi hj).1,hr i j _ hi hj (q6 i j hi hj).2⟩,q7⟩
section
variable {Γ:Hy} {σ:Sto} {I:Nat->Nat->Prop} {θ:Nat->Option (Nat×Nat)} {a:Act} {w:World}
theorem rel_rename(h:Rel Γ σ I θ a w){p q r sz m s1 n:Nat}{e e1:TypeId}{F F':Nat->List AV}(hp:σ.own p=some (.tok sz e m))(hq:σ.own q=none)(hr:σ.own r=some (.arr s1 e1 n F))(hp0:Γ.own0 p=none)
  (hfree:∀ t,Fr p (σ.tmp t)) (hrows:∀ nm o,nm≠r->σ.own nm=some o->OwnFr p o) {own':Nat->Option Own} {θ':Nat->Option (Nat×Nat)}
  (hown:own'=fun x=>if x=q then some (.tok sz e m) else if x=p then none else if x=r then some (.arr s1 e1 n F') else σ.own x)
  (hθ:θ'=fun x=>if x=q then θ p else if x=p then none else θ x)
  (hlen:∀ j,j<n->(F' j).length=(F j).length)
  (hF:∀ j c v,j<n->c<s1->Rep I σ.own θ w v ((F j).getD c .any)->Rep I own' θ' w v ((F' j).getD c .any)) :
  Rel Γ ⟨σ.tmp,own'⟩ I θ' a w:=by
 have hpq:p≠q:=by rintro rfl;rw[hp]at hq;cases hq
 have hpr:p≠r:=by rintro rfl;rw[hp]at hr;cases hr
 have hqr:q≠r:=by rintro rfl;rw[hq]at hr;cases hr
 have hkeep:∀ nm o,nm≠p->σ.own nm=some o->∃ o',own' nm=some o'/\OwnLe o (θ nm) o' (θ' nm):=fun nm o hnp ho=>by
  have hnq:nm≠q:=by rintro rfl;rw[hq]at ho;cases ho
  by_cases hnr:nm=r
  ·subst hnr;rw[hr]at ho;obtain rfl:=OI ho;exact⟨.arr s1 e1 n F',by simp[hown,hnq,hnp],by simp[hθ,hnq,hnp,OwnLe]⟩
  ·exact⟨o,by simp[hown,hnq,hnp,hnr,ho],by simp[hθ,hnq,hnp,OwnLe.refl]⟩
 have hT:∀ v x,Fr p x->Rep I σ.own θ w v x->Rep I own' θ' w v x:=fun v x hx hv=>hx I _ _ _ _ w v ⟨_,_,_,hp⟩ hkeep hv
 have hinv:∀ nm o,nm≠q->nm≠r->own' nm=some o->nm≠p/\σ.own nm=some o/\θ' nm=θ nm:=fun nm o h1 h2 ho=>by
  by_cases h3:nm=p
  ·simp[hown,h3,hpq]at ho
  ·simp[hown,h1,h2,h3]at ho;exact⟨h3,ho,by simp[hθ,h1,h3]⟩
 have hnone:∀ nm,own' nm≠none->∃ nm',σ.own nm'≠none/\θ' nm=θ nm'/\(nm=q->nm'=p)/\(nm≠q->nm'=nm/\nm≠p):=fun nm hn=>by
  by_cases h1:nm=q
  ·exact⟨p,by simp[hp],by simp[hθ,h1],fun _=>rfl,fun h=>(h h1).elim⟩
  ·by_cases h2:nm=r
   ·subst h2;exact⟨nm,by simp[hr],by simp[hθ,h1,Hj hpr],fun h=>(h1 h).elim,fun _=>⟨rfl,Hj hpr⟩⟩
   ·cases hx:own' nm with
    | none=>exact(hn hx).elim
    | some o=>
     obtain⟨h3,h4,h5⟩:=hinv nm o h1 h2 hx;exact⟨nm,by simp[h4],h5,fun h=>(h1 h).elim,fun _=>⟨rfl,h3⟩⟩
 have hq':own' q=some (.tok sz e m):=by simp[hown]
 have hr':own' r=some (.arr s1 e1 n F'):=by simp[hown,Hj hqr,Hj hpr]
 have hrel:=h.chg.rel
 have hθr:θ' r=θ r:=by simp[hθ,Hj hqr,Hj hpr]
 have hθq:θ' q=θ p:=by simp[hθ]
 refine⟨h.size,h.defers,fun t=>hT _ _ (hfree t) (h.slots t),{ h.chg with le:=fun nm o ho=>?_,rel:=⟨fun nm e0 cells ho=>?_,fun nm s' e' m' ho g c hg=>?_,fun nm nm' g c c' ho ho' hg hg'=>?_,fun nm s' e' m' f' ho=>?_,fun nm x ho=>?_,fun nm s' m' ho hnn=>?_⟩,new:=fun nm g c ho hg=>?_ }⟩
 ·obtain⟨o',ho',hl⟩:=h.chg.le nm o ho
  have hnp:nm≠p:=by rintro rfl;rw[hp0]at ho;cases ho
  obtain⟨o'',h1,h2⟩:=hkeep nm o' hnp ho';exact⟨o'',h1,hl.trans h2⟩
 ·replace ho:own' nm=some _:=ho
  have h1:nm≠q:=by rintro rfl;rw[hq']at ho;cases ho
  have h2:nm≠r:=by rintro rfl;rw[hr']at ho;cases ho
  obtain⟨h3,h4,h5⟩:=hinv nm _ h1 h2 ho;obtain⟨g,c,vs,r1,r2,r3,r4,r5,r6⟩:=hrel.row nm e0 cells h4;exact⟨g,c,vs,h5.trans r1,r2,r3,r4,fun j hj=>hT _ _ (hrows nm _ h2 h4 j hj) (r5 j hj),r6⟩
 ·replace ho:own' nm=some _:=ho
  by_cases h1:nm=q
  ·subst h1;rw[hq']at ho;simp only[Ai,Own.tok.injEq]at ho;obtain⟨rfl,rfl,rfl⟩:=ho;exact hrel.tok p _ _ _ hp g c (hθq.symm.trans hg)
  ·have h2:nm≠r:=by rintro rfl;rw[hr']at ho;cases ho
   obtain⟨h3,h4,h5⟩:=hinv nm _ h1 h2 ho;exact hrel.tok nm _ _ _ h4 g c (h5.symm.trans hg)
 ·obtain⟨n1,a1,a2,a3,a4⟩:=hnone nm ho;obtain⟨n2,b1,b2,b3,b4⟩:=hnone nm' ho';have:=hrel.inj n1 n2 g c c' a1 b1 (a2.symm.trans hg) (b2.symm.trans hg')
  by_cases h1:nm=q
  ·by_cases h2:nm'=q
   ·rw[h1,h2]
   ·have:=a3 h1;have:=b4 h2;omega
  ·by_cases h2:nm'=q
   ·have:=a4 h1;have:=b3 h2;omega
   ·have:=a4 h1;have:=b4 h2;omega
 ·replace ho:own' nm=some _:=ho
  have h1:nm≠q:=by rintro rfl;rw[hq']at ho;cases ho
  by_cases h2:nm=r
  ·subst h2;rw[hr']at ho;simp only[Ai,Own.arr.injEq]at ho;obtain⟨rfl,rfl,rfl,rfl⟩:=ho;exact Tv (hrel.arr nm _ _ _ _ hr) hθr hlen hF
  ·obtain⟨h3,h4,h5⟩:=hinv nm _ h1 h2 ho;exact Tv (hrel.arr nm _ _ _ _ h4) h5 (fun _ _=>rfl) (fun i j v hi hj hv=>hT _ _ (hrows nm _ h2 h4 i j hi hj) hv)
 ·replace ho:own' nm=some _:=ho
  have h1:nm≠q:=by rintro rfl;rw[hq']at ho;cases ho
  have h2:nm≠r:=by rintro rfl;rw[hr']at ho;cases ho
  obtain⟨h3,h4,h5⟩:=hinv nm _ h1 h2 ho;exact Iu (hrel.obj nm _ h4) h5 (fun _ _ _=>rfl) (fun _ _ _ _ h=>h) (fun _ hh=>hh.al (hrows nm _ h2 h4) (fun _ _ h=>h) (fun _ _ _=>rfl) fun v y hy hv=>hT v y hy hv) P6
 ·replace ho:own' nm=some _:=ho
  by_cases h1:nm=q
  ·subst h1;rw[hq']at ho;simp only[Ai,Own.tok.injEq]at ho;obtain⟨rfl,he,rfl⟩:=ho;exact hrel.tok8 p _ _ (by rw[hp,he]) (hθq.symm.trans hnn)
  ·have h2:nm≠r:=by rintro rfl;rw[hr']at ho;cases ho
   obtain⟨h3,h4,h5⟩:=hinv nm _ h1 h2 ho;exact hrel.tok8 nm _ _ h4 (h5.symm.trans hnn)
 ·obtain⟨n1,a1,a2,_,_⟩:=hnone nm ho;exact h.chg.new n1 g c a1 (a2.symm.trans hg)
theorem rel_births(h:Rel Γ σ I θ a w){r s1 n:Nat}{e1:TypeId}{F F':Nat->List AV}(hr:σ.own r=some (.arr s1 e1 n F)){S:Nat->Option (Nat×TypeId×Nat)}(hS:∀ x y,S x=some y->σ.own x=none)
  (h8:∀ x sz m,S x=some (sz,S4,m)->m=0) {own':Nat->Option Own} {θ':Nat->Option (Nat×Nat)}
  (hown:own'=fun x=>match S x with|some y=>some (.tok y.1 y.2.1 y.2.2)|none=>if x=r then some (.arr s1 e1 n F') else σ.own x)
  (hθ:θ'=fun x=>match S x with|some _=>none|none=>θ x) (hlen:∀ j,j<n->(F' j).length=(F j).length)
  (hF:∀ j c v,j<n->c<s1->Rep I σ.own θ w v ((F j).getD c .any)->Rep I own' θ' w v ((F' j).getD c .any)) :
  Rel Γ ⟨σ.tmp,own'⟩ I θ' a w:=by
 have hSn:∀ nm o,σ.own nm=some o->S nm=none:=fun nm o ho=>by
  cases hx:S nm with
  | none=>rfl
  | some y=>rw[hS nm y hx]at ho;cases ho
 have hkeep:∀ nm o,σ.own nm=some o->∃ o',own' nm=some o'/\OwnLe o (θ nm) o' (θ' nm):=fun nm o ho=>by
  have h1:=hSn nm o ho
  by_cases hnr:nm=r
  ·subst hnr;rw[hr]at ho;obtain rfl:=OI ho;exact⟨.arr s1 e1 n F',by simp[hown,h1],by simp[hθ,h1,OwnLe]⟩
  ·exact⟨o,by simp[hown,h1,hnr,ho],by simp[hθ,h1,OwnLe.refl]⟩
 have hT:∀ v x,Rep I σ.own θ w v x->Rep I own' θ' w v x:=fun v x hv=>hv.mono (fun _ _ h=>h) (fun _ _ _=>rfl) hkeep
 have hinv:∀ nm o,own' nm=some o->(∀ sz e m,o≠.tok sz e m)->nm≠r->σ.own nm=some o/\θ' nm=θ nm:=fun nm o ho hn h2=>by
  cases hx:S nm with
  | none=>simp[hown,hx,h2]at ho;exact⟨ho,by simp[hθ,hx]⟩
  | some y=>simp[hown,hx]at ho;exact(hn _ _ _ ho.symm).elim
 have hold:∀ nm g c,own' nm≠none->θ' nm=some (g,c)->σ.own nm≠none/\θ nm=some (g,c):=fun nm g c ho hg=>by
  cases hx:S nm with
  | some y=>simp[hθ,hx]at hg
  | none=>
   simp[hθ,hx]at hg;refine⟨?_,hg⟩
   by_cases h2:nm=r
   ·subst h2;simp[hr]
   ·simpa [hown,hx,h2] using ho
 have hSr:S r=none:=hSn r _ hr
 have hr':own' r=some (.arr s1 e1 n F'):=by simp[hown,hSr]
 have hθr:θ' r=θ r:=by simp[hθ,hSr]
 have hrel:=h.chg.rel;refine⟨h.size,h.defers,fun t=>hT _ _ (h.slots t),{ h.chg with le:=fun nm o ho=>?_,rel:=⟨fun nm e0 cells ho=>?_,fun nm s' e' m' ho g c hg=>?_,fun nm nm' g c c' ho ho' hg hg'=>?_,fun nm s' e' m' f' ho=>?_,fun nm x ho=>?_,fun nm s' m' ho hnn=>?_⟩,new:=fun nm g c ho hg=>?_ }⟩
 ·obtain⟨o',ho',hl⟩:=h.chg.le nm o ho;obtain⟨o'',h1,h2⟩:=hkeep nm o' ho';exact⟨o'',h1,hl.trans h2⟩
 ·replace ho:own' nm=some _:=ho
  have h2:nm≠r:=by rintro rfl;rw[hr']at ho;cases ho
  obtain⟨h4,h5⟩:=hinv nm _ ho (fun _ _ _ h=>by cases h) h2;obtain⟨g,c,vs,r1,r2,r3,r4,r5,r6⟩:=hrel.row nm e0 cells h4;exact⟨g,c,vs,h5.trans r1,r2,r3,r4,fun j hj=>hT _ _ (r5 j hj),r6⟩
 ·replace ho:own' nm=some _:=ho;obtain⟨h1,h2⟩:=hold nm g c (by rw[ho];simp) hg
  cases hx:S nm with
  | some y=>simp[hθ,hx]at hg
  | none=>
   have h3:nm≠r:=by rintro rfl;rw[hr']at ho;cases ho
   simp[hown,hx,h3]at ho;exact hrel.tok nm _ _ _ ho g c h2
 ·obtain⟨a1,a2⟩:=hold nm g c ho hg;obtain⟨b1,b2⟩:=hold nm' g c' ho' hg';exact hrel.inj nm nm' g c c' a1 b1 a2 b2
 ·replace ho:own' nm=some _:=ho
  by_cases h2:nm=r
  ·subst h2;rw[hr']at ho;simp only[Ai,Own.arr.injEq]at ho;obtain⟨rfl,rfl,rfl,rfl⟩:=ho;exact Tv (hrel.arr nm _ _ _ _ hr) hθr hlen hF
  ·obtain⟨h4,h5⟩:=hinv nm _ ho (fun _ _ _ h=>by cases h) h2;exact Tv (hrel.arr nm _ _ _ _ h4) h5 (fun _ _=>rfl) (fun i j v _ _ hv=>hT _ _ hv)
 ·replace ho:own' nm=some _:=ho
  have h2:nm≠r:=by rintro rfl;rw[hr']at ho;cases ho
  obtain⟨h4,h5⟩:=hinv nm _ ho (fun _ _ _ h=>by cases h) h2;exact Iu (hrel.obj nm _ h4) h5 (fun _ _ _=>rfl) (fun _ _ _ _ h=>h) (fun _ hh=>hh.mono hT) P6
 ·replace ho:own' nm=some _:=ho
  cases hx:S nm with
  | some y=>
   simp only[hown,hx,Ai,Own.tok.injEq]at ho;obtain⟨h1,h2,h3⟩:=ho;rw[<- h3];exact h8 nm y.1 y.2.2 (by rw[hx,<- h2])
  | none=>
   have h3:nm≠r:=by rintro rfl;rw[hr']at ho;cases ho
   simp[hown,hx,h3]at ho;simp[hθ,hx]at hnn;exact hrel.tok8 nm _ _ ho hnn
 ·obtain⟨a1,a2⟩:=hold nm g c ho hg;exact h.chg.new nm g c a1 a2
inductive OwnsFr (p:Tag->Bool) (r:Nat):List (Nat×Own)->Prop
 | nil:OwnsFr p r []
 | row {nm:Nat} {e:TypeId} {cells:List AV} {l:List (Nat×Own)} (h:AV.freeAll p cells=true) (t:OwnsFr p r l):OwnsFr p r ((nm,.row e cells)::l)
 | here {o:Own} {l:List (Nat×Own)} (t:OwnsFr p r l):OwnsFr p r ((r,o)::l)
 | arr {nm sz m:Nat} {e:TypeId} {f:Nat->List AV} {l:List (Nat×Own)} (h:∀ j,AV.freeAll p (f j)=true) (t:OwnsFr p r l):OwnsFr p r ((nm,.arr sz e m f)::l)
 | tok {nm sz m:Nat} {e:TypeId} {l:List (Nat×Own)} (t:OwnsFr p r l):OwnsFr p r ((nm,.tok sz e m)::l)
 | obj {nm:Nat} {x:AObj} {l:List (Nat×Own)} (t:OwnsFr p r l) (h:x.Al (fun y=>y.free p=true):=by first|trivial|rfl):OwnsFr p r ((nm,.obj x)::l)
theorem OwnsFr.get{p:Tag->Bool}{r q:Nat}(hp:∀ x:AV,x.free p=true->Fr q x){l:List (Nat×Own)}(h:OwnsFr p r l){nm:Nat}{o:Own}(hn:nm≠r)(ho:Ah l nm=some o):OwnFr q o:=by
 induction h with
 | nil=>cases ho
 | @row k e cells l h _ ih=>
  simp only[Ah]at ho
  cases hb:Nat.beq k nm with
  | true=>rw[hb]at ho;simp only[Aj,Ai]at ho;subst ho;exact fun j _=>hp _ (Is h j)
  | false=>rw[hb]at ho;exact ih ho
 | @here o' l _ ih=>
  simp only[Ah]at ho
  cases hb:Nat.beq r nm with
  | true=>exact(hn (Bo hb).symm).elim
  | false=>rw[hb]at ho;exact ih ho
 | @arr k sz m e f l h _ ih=>
  simp only[Ah]at ho
  cases hb:Nat.beq k nm with
  | true=>rw[hb]at ho;simp only[Aj,Ai]at ho;subst ho;exact fun i j _ _=>hp _ (Is (h i) j)
  | false=>rw[hb]at ho;exact ih ho
 | @tok k sz m e l _ ih=>
  simp only[Ah]at ho
  cases hb:Nat.beq k nm with
  | true=>rw[hb]at ho;simp only[Aj,Ai]at ho;subst ho;trivial
  | false=>rw[hb]at ho;exact ih ho
 | @obj k x l _ h ih=>
  simp only[Ah]at ho
  cases hb:Nat.beq k nm with
  | true=>rw[hb]at ho;simp only[Aj,Ai]at ho;subst ho;exact h.imp fun y hy=>hp y hy
  | false=>rw[hb]at ho;exact ih ho
theorem OwnsFr.sto{p:Tag->Bool}{r q:Nat}(hp:∀ x:AV,x.free p=true->Fr q x){st:St}(h:OwnsFr p r st.own){nm:Nat}{o:Own}(hn:nm≠r)(ho:st.sto.own nm=some o):OwnFr q o:=by
 by_cases hlt:nm<A9
 ·exact h.get hp hn ((A2 hlt).symm.trans ho)
 ·obtain⟨sz,e,m,rfl⟩:=Rr hlt ho
  trivial
theorem tmps_fr{p:Tag->Bool}{q:Nat}(hp:∀ x:AV,x.free p=true->Fr q x){st:St}(h:st.tmps.all (fun x=>x.2.free p)=true)(t:Nat):Fr q (st.sto.tmp t):=by
 show Fr q (match Ah st.tmps t with|some x=>x|none=>.any)
 cases hx:Ah st.tmps t with
 | none=>exact hp _ rfl
 | some x=>exact hp _ (zzL33.1 h _ (Zg hx))
def remA{α:Type}(l:List (Nat×α))(k:Nat):List (Nat×α):=l.filter fun p=>!Nat.beq p.1 k
theorem look_remA{α:Type}(l:List (Nat×α))(k n:Nat):Ah (remA l k) n=if k=n then none else Ah l n:=by
 induction l with
 | nil=>simp[remA,Ah]
 | cons p l ih=>
  obtain⟨m,x⟩:=p
  have ih':Ah (List.filter (fun p=>!Nat.beq p.1 k) l) n=if k=n then none else Ah l n:=ih
  simp only[remA,List.filter_cons,Ah]
  cases hb:Nat.beq m k with
  | true=>
   have:=Bo hb;subst this;simp only[E6,Xf,Em,ih']
   by_cases h:m=n
   ·simp[h]
   ·have:Nat.beq m n=false:=by cases hb:Nat.beq m n with|false=>rfl|true=>exact absurd (Bo hb) h
    simp[h,this]
  | false=>
   simp only[Mp,Hx,Ah,ih']
   cases hb':Nat.beq m n with
   | true=>
    have:=Bo hb';subst this
    have:k≠m:=by rintro rfl;simp at hb
    simp[this]
   | false=>simp
theorem rep_out{I:Nat->Nat->Prop}{own own':Nat->Option Own}{θ θ':Nat->Option (Nat×Nat)}{w:World}{v:Value}{sz n b i p q m:Nat}{e:TypeId}{f:Nat->List AV}(hv:Rep I own θ w v (.slice sz n f (.fam b i)))(hb:Mm b i=p)(hp:own p=some (.tok sz e m))
  (hq:own' q=some (.tok sz e m)) (hθ:θ' q=θ p):Rep I own' θ' w v (.slice sz n f (.own q)):=by
 cases hv with
 | val v x h=>obtain⟨h,_⟩:=h.slice_inv;cases h
 | fam _ _ _ e' m a n' cap f hi' ho' hm hv' h'=>
  rw[hb]at ho' hv';rw[hp]at ho';simp only[Ai,Own.tok.injEq]at ho';obtain⟨_,rfl,rfl⟩:=ho';exact .own q sz e _ _ _ _ _ hq hm (fun hh=>by rw[hθ];exact hv' hh) h'
theorem rep_stay{I:Nat->Nat->Prop}{own own':Nat->Option Own}{θ θ':Nat->Option (Nat×Nat)}{w:World}{v:Value}{sz n b i p:Nat}{f:Nat->List AV}(hv:Rep I own θ w v (.slice sz n f (.fam b i)))(hb:Mm b i=p)(ho:i<A9->own' p=own p)(hθ:i<A9->θ' p=θ p):Rep I own' θ' w v (.slice sz n f (.fam b i)):=by
 cases hv with
 | val v x h=>obtain⟨h,_⟩:=h.slice_inv;cases h
 | fam _ _ _ e' m a n' cap f hi' ho' hm hv' h'=>
  rw[hb]at ho' hv';exact .fam b i sz e' m _ _ _ _ hi' (by rw[hb,ho hi'];exact ho') hm (fun hh=>by rw[hb,hθ hi'];exact hv' hh) h'
theorem rep_back{I:Nat->Nat->Prop}{own own':Nat->Option Own}{θ θ':Nat->Option (Nat×Nat)}{w:World}{v:Value}{sz n b i p q m:Nat}{e:TypeId}{f:Nat->List AV}(hv:Rep I own θ w v (.slice sz n f (.own p)))(hb:Mm b i=q)(hi:i<A9)(hp:own p=some (.tok sz e m))
  (hq:own' q=some (.tok sz e m)) (hθ:θ' q=θ p):Rep I own' θ' w v (.slice sz n f (.fam b i)):=by
 cases hv with
 | val v x h=>obtain⟨h,_⟩:=h.slice_inv;cases h
 | own _ _ e' m' a n' cap f ho' hm' hv' h'=>
  rw[hp]at ho';simp only[Ai,Own.tok.injEq]at ho';obtain⟨_,rfl,rfl⟩:=ho';exact .fam b i sz e m _ _ _ _ hi (by rw[hb];exact hq) hm' (fun hh=>by rw[hb,hθ];exact hv' hh) h'
theorem rep_new{I:Nat->Nat->Prop}{own own':Nat->Option Own}{θ θ':Nat->Option (Nat×Nat)}{w:World}{v:Value}{sz n b i q:Nat}{e:TypeId}{f:Nat->List AV}(hv:Rep I own θ w v (.slice sz n f .exact))(hb:Mm b i=q)(hi:i<A9)(hq:own' q=some (.tok sz e n))(hθ:θ' q=none) :
  Rep I own' θ' w v (.slice sz n f (.fam b i)):=by
 cases hv with
 | val v x h=>obtain⟨h,_⟩:=h.slice_inv;cases h
 | exact a n' s' f h'=>exact .fam b i sz e _ _ _ _ _ hi (by rw[hb];exact hq) (zzL8 _) (fun _=>by rw[hb,hθ]) h'
section
variable {α:Type} {st:St} {r b k n sz:Nat} {e1:TypeId}
theorem row_lt{I:Nat->Nat->Prop}{own:Nat->Option Own}{θ:Nat->Option (Nat×Nat)}{w:World}(h:H4 I own θ w){s1:Nat}{F:Nat->List AV}(hr:own r=some (.arr s1 e1 n F)){i:Nat}(hi:i<n):i<A9:=by
 have hm:maxLen<A9:=by decide
 obtain⟨h1,h2⟩:=h.arr r _ _ _ _ hr
 cases hx:θ r with
 | none=>have:=h1 hx;omega
 | some y=>obtain⟨_,_,h3,h4,_⟩:=h2 y.1 y.2 hx;omega
theorem X0(enc:α->List AV)(d:α)(L:List (List α))(i:Nat)(e:TypeId)(hr:Ah st.own r=some (.arr 1 e1 n (Gf sz enc d L (Tag.fam b))))(hb:Ah st.fam b=some ⟨sz,e,Gq L⟩)(hk:Ah st.own k=none)(hn:n=L.length)(hi:i<L.length)
  (ht:st.tmps.all (fun x=>x.2.free (noFam b))=true) (ho:OwnsFr (noFam b) r st.own) (hlr:Nat.blt r A9=true:=by rfl) (hlk:Nat.blt k A9=true:=by rfl) :
  Le Γ st ⟨st.tmps,C7 (C7 st.own r (.arr 1 e1 n (Gf sz enc d L (D4 b i k)))) k (.tok sz e (L.getD i []).length),C7 st.fam b ⟨sz,e,L3 L i⟩⟩:=by
 intro I θ a w h
 have hlr:r<A9:=by simpa [Fv] using hlr
 have hlk:k<A9:=by simpa [Fv] using hlk
 have hr':st.sto.own r=some (.arr 1 e1 n (Gf sz enc d L (Tag.fam b))):=(A2 hlr).trans hr;have hk':st.sto.own k=none:=(A2 hlk).trans hk;have hib:i<A9:=row_lt h.chg.rel hr' (by omega)
 have hp:st.sto.own (Mm b i)=some (.tok sz e (L.getD i []).length):=by
  show Cf _ _ _=_
  rw[Wv hib,hb];simp[Gq,hi]
 have hkb:k≠Mm b i:=fun he=>by rw[he]at hlk;exact Je b i hlk
 have hrb:r≠Mm b i:=fun he=>by rw[he]at hlr;exact Je b i hlr
 have hown:(⟨st.tmps,C7 (C7 st.own r (.arr 1 e1 n (Gf sz enc d L (D4 b i k)))) k (.tok sz e (L.getD i []).length),C7 st.fam b ⟨sz,e,L3 L i⟩⟩:St).sto.own =
   fun x=>if x=k then some (.tok sz e (L.getD i []).length) else if x=Mm b i then none else if x=r then some (.arr 1 e1 n (Gf sz enc d L (D4 b i k))) else st.sto.own x:=by
  funext x
  show Cf (C7 (C7 st.own r _) k _) (C7 st.fam b _) x=if x=k then _ else if x=Mm b i then none else if x=r then _ else Cf st.own st.fam x
  by_cases hx:x<A9
  ·have h1:x≠Mm b i:=fun he=>by rw[he]at hx;exact Je b i hx
   rw[A2 hx,A2 hx,Fm,Fm];simp only[M1 (a:=k),M1 (a:=r),h1,Em]
  ·have h1:x≠k:=by rintro rfl;exact hx hlk
   have h2:x≠r:=by rintro rfl;exact hx hlr
   rw[Cl hx,Cl hx,Fm,if_neg h1,if_neg h2]
   by_cases hd:b=x / A9-1
   ·have hxe:=big_of hx;rw[<- hd]at hxe
    by_cases hm:x % A9=i
    ·rw[hm]at hxe;rw[if_pos hd,if_pos hxe,hm];simp[L3]
    ·have h3:x≠Mm b i:=fun he=>hm (by rw[he,M3 hib]);rw[if_pos hd,if_neg h3,<- hd,hb];simp[L3,hm]
   ·have h3:x≠Mm b i:=fun he=>hd (by rw[he,Po hib]);rw[if_neg hd,if_neg h3]
 let θ':Nat->Option (Nat×Nat):=fun x=>if x=k then θ (Mm b i) else if x=Mm b i then none else θ x
 refine⟨I,θ',?_⟩;have hrr:=rel_rename (θ':=θ') h hp hk' hr' (by cases hx:Γ.own0 (Mm b i) with|none=>rfl|some o=>exact(Je b i (Γ.lt0 _ (by rw[hx];simp))).elim)
  (fun t=>tmps_fr (fun x hx=>fr_fam hib hx) ht t) (fun nm o hne ho'=>ho.sto (fun x hx=>fr_fam hib hx) hne ho') hown rfl (fun j _=>rfl) (fun j c v hj hc hv=>?_)
 ·exact hrr
 ·obtain rfl:c=0:=by omega
  show Rep I _ θ' w v (.slice sz _ _ (D4 b i k j))
  replace hv:Rep I st.sto.own θ w v (.slice sz (L.getD j []).length (fun i_=>enc ((L.getD j []).getD i_ d)) (.fam b j)):=hv
  cases hji:Nat.beq j i with
  | true=>
   have:=Bo hji;subst this;rw[show D4 b j k j = .own k by simp[D4]];exact rep_out hv rfl hp ((congrFun hown k).trans (if_pos rfl)) (if_pos rfl)
  | false=>
   have hne:j≠i:=by rintro rfl;simp at hji
   rw[show D4 b i k j = .fam b j by simp[D4,hji]];have h3:j<A9->Mm b j≠Mm b i:=fun hi' he=>hne (by rw[<- M3 (b:=b) hi',he,M3 hib])
   have h4:Mm b j≠k:=fun he=>by rw[<- he]at hlk;exact Je b j hlk
   have h5:Mm b j≠r:=fun he=>by rw[<- he]at hlr;exact Je b j hlr
   exact rep_stay hv rfl (fun hi'=>(congrFun hown _).trans ((if_neg h4).trans ((if_neg (h3 hi')).trans (if_neg h5)))) (fun hi'=>(if_neg h4).trans (if_neg (h3 hi')))
theorem le_put(enc:α->List AV)(d:α)(L:List (List α))(i:Nat)(x:List α)(e:TypeId){F:Nat->List AV}{m:Nat}(hr:Ah st.own r=some (.arr 1 e1 n F))(hF:∀ j,j<n->F j=Gf sz enc d (L.set i x) (D4 b i k) j)(hb:Ah st.fam b=some ⟨sz,e,L3 L i⟩)(hk:Ah st.own k=some (.tok sz e m))(hm:m=x.length)(hn:n=L.length)(hi:i<L.length)
  (ht:st.tmps.all (fun x=>x.2.free (noOwn k))=true) (ho:OwnsFr (noOwn k) r st.own) (h0:Γ.own0 k=none) (hlr:Nat.blt r A9=true:=by rfl) (hlk:Nat.blt k A9=true:=by rfl) :
  Le Γ st ⟨st.tmps,remA (C7 st.own r (.arr 1 e1 n (Gf sz enc d (L.set i x) (Tag.fam b)))) k,C7 st.fam b ⟨sz,e,Gq (L.set i x)⟩⟩:=by
 intro I θ a w h
 have hlr:r<A9:=by simpa [Fv] using hlr
 have hlk:k<A9:=by simpa [Fv] using hlk
 have hr':st.sto.own r=some (.arr 1 e1 n F):=(A2 hlr).trans hr;have hk':st.sto.own k=some (.tok sz e m):=(A2 hlk).trans hk;have hib:i<A9:=row_lt h.chg.rel hr' (by omega)
 have hp:st.sto.own (Mm b i)=none:=by
  show Cf _ _ _=_
  rw[Wv hib,hb];simp[L3]
 have hgi:(L.set i x).getD i []=x:=by simp[List.getD,hi]
 have hgj:∀ j,j≠i->(L.set i x).getD j []=L.getD j []:=fun j hj=>by simp[List.getD,Hj hj]
 have hkr:k≠r:=by rintro rfl;rw[hk]at hr;cases hr
 have hkb:k≠Mm b i:=fun he=>by rw[he]at hlk;exact Je b i hlk
 have hown:(⟨st.tmps,remA (C7 st.own r (.arr 1 e1 n (Gf sz enc d (L.set i x) (Tag.fam b)))) k,C7 st.fam b ⟨sz,e,Gq (L.set i x)⟩⟩:St).sto.own =
   fun y=>if y=Mm b i then some (.tok sz e m) else if y=k then none else if y=r then some (.arr 1 e1 n (Gf sz enc d (L.set i x) (Tag.fam b))) else st.sto.own y:=by
  funext y
  show Cf (remA (C7 st.own r _) k) (C7 st.fam b _) y=if y=Mm b i then _ else if y=k then none else if y=r then _ else Cf st.own st.fam y
  by_cases hx:y<A9
  ·have h1:y≠Mm b i:=fun he=>by rw[he]at hx;exact Je b i hx
   rw[A2 hx,A2 hx,look_remA,Fm];simp only[M1 (a:=k),M1 (a:=r),h1,Em]
  ·have h1:y≠k:=by rintro rfl;exact hx hlk
   have h2:y≠r:=by rintro rfl;exact hx hlr
   rw[Cl hx,Cl hx,Fm,if_neg h1,if_neg h2]
   by_cases hd:b=y / A9-1
   ·have hxe:=big_of hx;rw[<- hd]at hxe
    by_cases hm':y % A9=i
    ·rw[hm']at hxe;rw[if_pos hd,if_pos hxe,hm',Ax]
     show(Gq (L.set i x) i).map _=_
     simp only[Gq,E5,hi,Hx,hgi,hm,U3]
    ·have h3:y≠Mm b i:=fun he=>hm' (by rw[he,M3 hib]);rw[if_pos hd,if_neg h3,<- hd,hb];simp only[Ax,L3,hm',Em,Gq,E5,hgj _ hm']
   ·have h3:y≠Mm b i:=fun he=>hd (by rw[he,Po hib]);rw[if_neg hd,if_neg h3]
 let θ':Nat->Option (Nat×Nat):=fun y=>if y=Mm b i then θ k else if y=k then none else θ y
 refine⟨I,θ',?_⟩;have hrr:=rel_rename (θ':=θ') h hk' hp hr' h0 (fun t=>tmps_fr (fun x hx=>fr_own hlk hx) ht t) (fun nm o hne ho'=>ho.sto (fun x hx=>fr_own hlk hx) hne ho') hown rfl
  (fun j hj=>by rw[hF j hj];rfl) (fun j c v hj hc hv=>?_)
 ·exact hrr
 ·obtain rfl:c=0:=by omega
  rw[hF j hj]at hv
  show Rep I _ θ' w v (.slice sz _ _ (.fam b j))
  replace hv:Rep I st.sto.own θ w v (.slice sz ((L.set i x).getD j []).length (fun i_=>enc (((L.set i x).getD j []).getD i_ d)) (D4 b i k j)):=hv
  cases hji:Nat.beq j i with
  | true=>
   have:=Bo hji;subst this;rw[show D4 b j k j = .own k by simp[D4]]at hv;exact rep_back hv rfl hib hk' ((congrFun hown _).trans (if_pos rfl)) (if_pos rfl)
  | false=>
   have hne:j≠i:=by rintro rfl;simp at hji
   rw[show D4 b i k j = .fam b j by simp[D4,hji]]at hv;have h3:j<A9->Mm b j≠Mm b i:=fun hi' he=>hne (by rw[<- M3 (b:=b) hi',he,M3 hib])
   have h4:Mm b j≠k:=fun he=>by rw[<- he]at hlk;exact Je b j hlk
   have h5:Mm b j≠r:=fun he=>by rw[<- he]at hlr;exact Je b j hlr
   exact rep_stay hv rfl (fun hi'=>(congrFun hown _).trans ((if_neg (h3 hi')).trans ((if_neg h4).trans (if_neg h5)))) (fun hi'=>(if_neg (h3 hi')).trans (if_neg h4))
def N8(b i j:Nat):Tag:=bif Nat.beq j i then .exact else .fam b j
theorem le_putx(enc:α->List AV)(d:α)(L:List (List α))(i:Nat)(x:List α)(e:TypeId){F:Nat->List AV}(hr:Ah st.own r=some (.arr 1 e1 n F))(hF:∀ j,j<n->F j=Gf sz enc d (L.set i x) (N8 b i) j)(hb:Ah st.fam b=some ⟨sz,e,L3 L i⟩)(hn:n=L.length)(hi:i<L.length)
  (h8:e=S4->x.length=0) (hlr:Nat.blt r A9=true:=by rfl) :
  Le Γ st ⟨st.tmps,C7 st.own r (.arr 1 e1 n (Gf sz enc d (L.set i x) (Tag.fam b))),C7 st.fam b ⟨sz,e,Gq (L.set i x)⟩⟩:=by
 intro I θ a w h
 have hlr:r<A9:=by simpa [Fv] using hlr
 have hr':st.sto.own r=some (.arr 1 e1 n F):=(A2 hlr).trans hr;have hib:i<A9:=row_lt h.chg.rel hr' (by omega);obtain⟨q,hq⟩:∃ q,Mm b i=q:=⟨_,rfl⟩
 have hqg:¬ q<A9:=by rw[<- hq];exact Je b i
 have hqd:q / A9-1=b:=by rw[<- hq];exact Po hib
 have hqm:q % A9=i:=by rw[<- hq];exact M3 hib
 have hgi:(L.set i x).getD i []=x:=by simp[List.getD,hi]
 have hgj:∀ j,j≠i->(L.set i x).getD j []=L.getD j []:=fun j hj=>by simp[List.getD,Hj hj]
 let S:Nat->Option (Nat×TypeId×Nat):=fun y=>if y=q then some (sz,e,x.length) else none
 have hown:(⟨st.tmps,C7 st.own r (.arr 1 e1 n (Gf sz enc d (L.set i x) (Tag.fam b))),C7 st.fam b ⟨sz,e,Gq (L.set i x)⟩⟩:St).sto.own =
   fun y=>match S y with|some y=>some (.tok y.1 y.2.1 y.2.2)|none=>if y=r then some (.arr 1 e1 n (Gf sz enc d (L.set i x) (Tag.fam b))) else st.sto.own y:=by
  funext y
  show Cf (C7 st.own r _) (C7 st.fam b _) y=match S y with|some y=>_|none=>if y=r then _ else Cf st.own st.fam y
  by_cases hx:y<A9
  ·have h1:y≠q:=fun he=>hqg (he▸hx);have:S y=none:=if_neg h1;rw[A2 hx,A2 hx,Fm,this];simp only[M1 (a:=r)]
  ·have h2:y≠r:=by rintro rfl;exact hx hlr
   rw[Cl hx,Cl hx,Fm]
   by_cases hd:b=y / A9-1
   ·have hxe:=big_of hx;rw[<- hd]at hxe
    by_cases hm':y % A9=i
    ·rw[hm',hq]at hxe;have:S y=some (sz,e,x.length):=if_pos hxe;rw[if_pos hd,this,hm',Ax]
     show(Gq (L.set i x) i).map _=_
     simp only[Gq,E5,hi,Hx,hgi,U3]
    ·have h3:y≠q:=fun he=>hm' (by rw[he,hqm]);have:S y=none:=if_neg h3;rw[if_pos hd,this,if_neg h2,<- hd,hb];simp only[Ax,L3,hm',Em,Gq,E5,hgj _ hm']
   ·have h3:y≠q:=fun he=>hd (by rw[he,hqd]);have:S y=none:=if_neg h3;rw[if_neg hd,this,if_neg h2]
 have hp:st.sto.own q=none:=by
  rw[<- hq]
  show Cf _ _ _=_
  rw[Wv hib,hb];simp[L3]
 refine⟨I,_,rel_births h hr' (S:=S) (fun y z hy=>?_) (fun y s m hy=>?_) hown rfl (fun j hj=>by rw[hF j hj];rfl) (fun j c v hj hc hv=>?_)⟩
 ·by_cases h1:y=q
  ·rw[h1];exact hp
  ·have h2:S y=none:=if_neg h1;rw[h2]at hy;cases hy
 ·by_cases h1:y=q
  ·have h2:S y=some (sz,e,x.length):=if_pos h1;rw[h2]at hy;simp only[Ai,Dc]at hy;obtain⟨_,he,rfl⟩:=hy;exact h8 he
  ·have h2:S y=none:=if_neg h1;rw[h2]at hy;cases hy
 ·obtain rfl:c=0:=by omega
  rw[hF j hj]at hv
  show Rep I _ _ w v (.slice sz _ _ (.fam b j))
  replace hv:Rep I st.sto.own θ w v (.slice sz ((L.set i x).getD j []).length (fun i_=>enc (((L.set i x).getD j []).getD i_ d)) (N8 b i j)):=hv
  cases hji:Nat.beq j i with
  | true=>
   have:=Bo hji;subst this;rw[show N8 b j j = .exact by simp[N8]]at hv;have hSj:S q=some (sz,e,x.length):=if_pos rfl;exact rep_new (q:=q) (e:=e) hv hq hib ((congrFun hown _).trans (by rw[hSj,hgi])) (by rw[hSj])
  | false=>
   have hne:j≠i:=by rintro rfl;simp at hji
   rw[show N8 b i j = .fam b j by simp[N8,hji]]at hv;obtain⟨q',hq'⟩:∃ q',Mm b j=q':=⟨_,rfl⟩;have h3:j<A9->q'≠q:=fun hi' he=>hne (by rw[<- M3 (b:=b) hi',hq',he,hqm])
   have h5:q'≠r:=fun he=>by rw[<- he,<- hq']at hlr;exact Je b j hlr
   have hS':j<A9->S q'=none:=fun hi'=>if_neg (h3 hi');exact rep_stay hv hq' (fun hi'=>(congrFun hown _).trans (by rw[hS' hi'];exact if_neg h5)) (fun hi'=>by rw[hS' hi'])
theorem le_birth(enc:α->List AV)(d:α)(L:List (List α))(e:TypeId)(hr:Ah st.own r=some (.arr 1 e1 n (Gf sz enc d L (fun _=>.exact))))(hb:Ah st.fam b=none)(hn:n=L.length)(h8:e=S4->∀ j,(L.getD j []).length=0)(hlr:Nat.blt r A9=true:=by rfl) :
  Le Γ st ⟨st.tmps,C7 st.own r (.arr 1 e1 n (Gf sz enc d L (Tag.fam b))),C7 st.fam b ⟨sz,e,Gq L⟩⟩:=by
 intro I θ a w h
 have hlr:r<A9:=by simpa [Fv] using hlr
 have hr':st.sto.own r=some (.arr 1 e1 n (Gf sz enc d L (fun _=>.exact))):=(A2 hlr).trans hr
 let S:Nat->Option (Nat×TypeId×Nat):=fun x=>if x<A9 then none else if b=x / A9-1 then(Gq L (x % A9)).map fun m=>(sz,e,m) else none
 have hown:(⟨st.tmps,C7 st.own r (.arr 1 e1 n (Gf sz enc d L (Tag.fam b))),C7 st.fam b ⟨sz,e,Gq L⟩⟩:St).sto.own =
   fun x=>match S x with|some y=>some (.tok y.1 y.2.1 y.2.2)|none=>if x=r then some (.arr 1 e1 n (Gf sz enc d L (Tag.fam b))) else st.sto.own x:=by
  funext x
  show Cf (C7 st.own r _) (C7 st.fam b _) x=match S x with|some y=>_|none=>if x=r then _ else Cf st.own st.fam x
  by_cases hx:x<A9
  ·have:S x=none:=by simp[S,hx]
   rw[A2 hx,A2 hx,Fm,this];simp only[M1 (a:=r)]
  ·have h2:x≠r:=by rintro rfl;exact hx hlr
   rw[Cl hx,Cl hx,Fm]
   by_cases hd:b=x / A9-1
   ·have:S x=(Gq L (x % A9)).map fun m=>(sz,e,m):=by simp only[S,hx,Em,if_pos hd]
    rw[if_pos hd,this,if_neg h2,<- hd,hb];simp only[Ax]
    cases Gq L (x % A9)<;>rfl
   ·have:S x=none:=by simp only[S,hx,Em,if_neg hd]
    rw[if_neg hd,this,if_neg h2]
 have hS:∀ x y,S x=some y->st.sto.own x=none:=fun x y hx=>by
  by_cases h1:x<A9
  ·simp[S,h1]at hx
  ·by_cases hd:b=x / A9-1
   ·show Cf _ _ x=none
    rw[Cl h1,<- hd,hb];rfl
   ·simp only[S,h1,Em,if_neg hd]at hx;cases hx
 refine⟨I,_,rel_births h hr' hS (fun x s m hx=>?_) hown rfl (fun j _=>rfl) (fun j c v hj hc hv=>?_)⟩
 ·by_cases h1:x<A9
  ·simp[S,h1]at hx
  ·by_cases hd:b=x / A9-1
   ·simp only[S,h1,Em,if_pos hd]at hx;obtain⟨m',hm',he⟩:=zzL86.1 hx;simp only[Dc]at he;obtain⟨_,he,rfl⟩:=he;unfold Gq at hm'
    split at hm'
    ·simp only[Ai]at hm';rw[<- hm'];exact h8 he _
    ·cases hm'
   ·simp only[S,h1,Em,if_neg hd]at hx;cases hx
 ·obtain rfl:c=0:=by omega
  have hjb:j<A9:=row_lt h.chg.rel hr' hj;replace hv:Rep I st.sto.own θ w v (.slice sz (L.getD j []).length (fun i_=>enc ((L.getD j []).getD i_ d)) .exact):=hv
  show Rep I _ _ w v (.slice sz (L.getD j []).length (fun i_=>enc ((L.getD j []).getD i_ d)) (.fam b j))
  have hSj:S (Mm b j)=some (sz,e,(L.getD j []).length):=by
   simp only[S,Je b j,Em,Po hjb,Hx,M3 hjb,Gq];rw[if_pos (by omega)];rfl
  exact rep_new hv rfl hjb ((congrFun hown _).trans (by rw[hSj])) (by rw[hSj])
end
end
theorem Y7{α:Type}{sz b i k:Nat}{e:α->List AV}{d:α}{l:List α}:AVle (AV.list sz e d l (D4 b i k i)) (AV.list sz e d l (.own k)):=by
 have:D4 b i k i = .own k:=by simp[D4]
 rw[this];exact AVle.refl _
theorem Ye{α:Type}{sz b i k k0:Nat}{e:α->List AV}{d:α}{L:List (List α)}{x:List α}{n:Nat}{keep:Nat->Bool}(hi:i<L.length)(hk:keep k=true)(hb:keep b=true) :
  ∀ j,j<n->AV.eraseAll keep (Jf (Gf sz e d L (D4 b i k0)) i 0 [AV.list sz e d x (.own k)] j)=Gf sz e d (L.set i x) (D4 b i k) j:=fun j _=>by
 unfold Jf
 cases hji:Nat.beq j i with
 | true=>
  have:=Bo hji;subst this;simp[Gf,AV.eraseAll,AV.erase,AV.list,D4,hk,List.getD,hi]
 | false=>
  have hne:i≠j:=by rintro rfl;simp at hji
  simp[Gf,AV.eraseAll,AV.erase,AV.list,D4,hji,hb,List.getD,hne]
theorem putF_famx{α:Type}{sz b i k0:Nat}{e:α->List AV}{d:α}{L:List (List α)}{x:List α}{n:Nat}{keep:Nat->Bool}(hi:i<L.length)(hb:keep b=true) :
  ∀ j,j<n->AV.eraseAll keep (Jf (Gf sz e d L (D4 b i k0)) i 0 [AV.list sz e d x .exact] j)=Gf sz e d (L.set i x) (N8 b i) j:=fun j _=>by
 unfold Jf
 cases hji:Nat.beq j i with
 | true=>
  have:=Bo hji;subst this;simp[Gf,AV.eraseAll,AV.erase,AV.list,N8,List.getD,hi]
 | false=>
  have hne:i≠j:=by rintro rfl;simp at hji
  simp[Gf,AV.eraseAll,AV.erase,AV.list,D4,N8,hji,hb,List.getD,hne]
theorem fam_zero{α:Type}{sz n:Nat}{e:α->List AV}{d:α}{keep:Nat->Bool}:∀ k,k<n->AVleL (AV.eraseAll keep [.slice 0 0 (fun _=>[]) .exact]) (Gf sz e d (List.replicate n []) (fun _=>.exact) k):=fun k hk=>by
 have:(List.replicate n ([]:List α)).getD k []=[]:=by simp[List.getD,hk]
 unfold Gf;rw[this];exact .cons Gv .nil
theorem Ww{n sz:Nat}{f:Nat->List AV}(hf:∀ i,i<n->(f i).length=sz):∀ k,k<n->((Ty n f).drop (k*sz)).take sz=f k:=fun k hk=>by
 have hl:=Vc hf;have h1:(k+1)*sz<=n*sz:=Eb _ hk;rw[Dh]at h1
 apply Xh
 ·rw[Ph,N4,hl,hf k hk];omega
 ·intro j h2 h3
  have hj:j<sz:=by rw[hf k hk]at h3;exact h3
  have:=Zb hf k j hk hj;rw[List.getElem_take,List.getElem_drop];rw[Kp,Nn (by omega),Kp,Nn h3]at this
  simpa using this
def subN{α:Type}(d:α)(l:List α)(lo k:Nat):List α:=(List.range k).map fun i=>l.getD (lo+i) d
theorem subN_len{α:Type}{d:α}{l:List α}{lo k:Nat}:(subN d l lo k).length=k:=by simp[subN]
theorem subN_get{α:Type}{d:α}{l:List α}{lo k i:Nat}(h:i<k):(subN d l lo k).getD i d=l.getD (lo+i) d:=by
 simp[subN,List.getD,h]
theorem sub_le{α:Type}{sz k lo:Nat}{e:α->List AV}{d:α}{l:List α}(hs:∀ a,AV.stripAll (e a)=e a):AVle (.slice sz k (fun i=>AV.stripAll (e (l.getD (lo+i) d))) .none) (AV.list sz e d (subN d l lo k) .none):=by
 intro I own θ w v hv;obtain⟨_,a,cap,us,rfl,hcap,hmax,hz,hn,h1,hl,hr⟩:=hv.slice_val.slice_inv;unfold AV.list;rw[subN_len];refine .val _ _ (.slice _ _ _ sz _ us hcap hmax hz hn h1 (fun i hi=>?_) (fun i c hi hc=>?_))
 ·rw[subN_get hi,<- hs];exact hl i hi
 ·rw[subN_get hi,<- hs];exact hr i c hi hc
mutual
def AV.freeN(r:Nat):AV->Bool
 | .vsl nm _=>!Nat.beq nm r
 | .vpt nm _ _ _=>!Nat.beq nm r
 | .vsub nm _ _ _=>!Nat.beq nm r
 | .clo _ xs ys=>AV.freeNAll r xs&&AV.freeNAll r ys
 | .agg cs=>AV.freeNAll r cs
 | .rpo cs=>AV.freeNAll r cs
 | .tuple cs=>AV.freeNAll r cs
 | .cond _ x=>x.freeN r
 | _=>true
def AV.freeNAll(r:Nat):List AV->Bool
 | []=>true
 | x::l=>x.freeN r&&AV.freeNAll r l
end
theorem Gx{r:Nat}{l:List AV}(h:AV.freeNAll r l=true)(j:Nat):(l.getD j .any).freeN r=true:=by
 induction l generalizing j with
 | nil=>simp[AV.freeN]
 | cons x l ih=>
  simp only[AV.freeNAll,A7]at h
  cases j with
  | zero=>simpa using h.1
  | succ j=>simpa using ih h.2 j
theorem rep_freeN{I:Nat->Nat->Prop}{own own':Nat->Option Own}{θ:Nat->Option (Nat×Nat)}{w:World}{v:Value}{x:AV}{r:Nat}(h:Rep I own θ w v x)(hx:x.freeN r=true)(hr:∃ sz e m f,own r=some (.arr sz e m f))
  (ho:∀ nm,nm≠r->own' nm=own nm):Rep I own' θ w v x:=by
 obtain⟨s0,e0,m0,f0,hr⟩:=hr
 have hne:∀{nm o},own nm=some o->(∀ sz e m f,o≠.arr sz e m f)->own' nm=some o:=fun{nm o} hn hh=>by
  rw[ho nm (by rintro rfl;rw[hr]at hn;exact hh _ _ _ _ (OI hn).symm)];exact hn
 have hbq:∀{nm:Nat},(!Nat.beq nm r)=true->nm≠r:=fun h e=>by subst e;simp at h
 induction h with
 | val v x h=>exact .val v x h
 | exact a n sz f h=>exact .exact a n sz f h
 | own nm sz e m a n cap f hn hm hv h=>exact .own nm sz e m a n cap f (hne hn (fun _ _ _ _ h=>by cases h)) hm hv h
 | fam b i sz e m a n cap f hi hn hm hv h=>exact .fam b i sz e m a n cap f hi (hne hn (fun _ _ _ _ h=>by cases h)) hm hv h
 | ptr nm off e cells g c hn hg=>exact .ptr nm off e cells g c (hne hn (fun _ _ _ _ h=>by cases h)) hg
 | vsl nm sz e m f a n cap hn hm hcap hmax hnn hv=>exact .vsl nm sz e m f a n cap ((ho nm (hbq hx)).trans hn) hm hcap hmax hnn hv
 | vpt nm sz e m f n i j ad hn hm hi hv=>exact .vpt nm sz e m f n i j ad ((ho nm (hbq hx)).trans hn) hm hi hv
 | clo f fs cs xs ys hl hl' _ _ ih ih'=>
  simp only[AV.freeN,A7]at hx;exact .clo f fs cs xs ys hl hl' (fun j hj=>ih j hj (Gx hx.1 j)) (fun j hj=>ih' j hj (Gx hx.2 j))
 | optr nm mm x g c hn hg=>exact .optr nm mm x g c (hne hn (fun _ _ _ _ h=>by cases h)) hg
 | omap nm x hn=>exact .omap nm x (hne hn (fun _ _ _ _ h=>by cases h))
 | vsub nm sz e m f n lo hi a cap hn hm hlo hhi hcap hmax hnn hv=>exact .vsub nm sz e m f n lo hi a cap ((ho nm (hbq hx)).trans hn) hm hlo hhi hcap hmax hnn hv
 | cond v c x _ h' ih=>exact .cond v c x (fun hc=>ih hc hx) h'
 | agg vs cs hl h1 _ ih=>exact .agg vs cs hl h1 (fun j hj=>ih j hj (Gx hx j))
 | rpo a cells us hs hI' hc h1 _ ih=>exact .rpo a cells us hs hI' hc h1 (fun j hj=>ih j hj (Gx hx j))
 | tuple vs cs hl _ ih=>exact .tuple vs cs hl (fun j hj=>ih j hj (Gx hx j))
inductive OwnsFrN (r:Nat):List (Nat×Own)->Prop
 | nil:OwnsFrN r []
 | row {nm:Nat} {e:TypeId} {cells:List AV} {l:List (Nat×Own)} (h:AV.freeNAll r cells=true) (t:OwnsFrN r l):OwnsFrN r ((nm,.row e cells)::l)
 | arr {nm sz m:Nat} {e:TypeId} {f:Nat->List AV} {l:List (Nat×Own)} (h:∀ j,AV.freeNAll r (f j)=true) (t:OwnsFrN r l):OwnsFrN r ((nm,.arr sz e m f)::l)
 | tok {nm sz m:Nat} {e:TypeId} {l:List (Nat×Own)} (t:OwnsFrN r l):OwnsFrN r ((nm,.tok sz e m)::l)
 | obj {nm:Nat} {x:AObj} {l:List (Nat×Own)} (t:OwnsFrN r l) (h:x.Al (fun y=>y.freeN r=true):=by first|trivial|rfl):OwnsFrN r ((nm,.obj x)::l)
def OwnN(r:Nat):Own->Prop
 | .row _ cells=>AV.freeNAll r cells=true
 | .arr _ _ _ f=>∀ j,AV.freeNAll r (f j)=true
 | .obj x=>x.Al (fun y=>y.freeN r=true)
 | .tok ..=>True
theorem OwnsFrN.get{r:Nat}{l:List (Nat×Own)}(h:OwnsFrN r l){nm:Nat}{o:Own}(ho:Ah l nm=some o):OwnN r o:=by
 induction h with
 | nil=>cases ho
 | @row k e cells l h _ ih=>
  simp only[Ah]at ho
  cases hb:Nat.beq k nm with
  | true=>rw[hb]at ho;simp only[Aj,Ai]at ho;subst ho;exact h
  | false=>rw[hb]at ho;exact ih ho
 | @arr k sz m e f l h _ ih=>
  simp only[Ah]at ho
  cases hb:Nat.beq k nm with
  | true=>rw[hb]at ho;simp only[Aj,Ai]at ho;subst ho;exact h
  | false=>rw[hb]at ho;exact ih ho
 | @tok k sz m e l _ ih=>
  simp only[Ah]at ho
  cases hb:Nat.beq k nm with
  | true=>rw[hb]at ho;simp only[Aj,Ai]at ho;subst ho;trivial
  | false=>rw[hb]at ho;exact ih ho
 | @obj k x l _ h ih=>
  simp only[Ah]at ho
  cases hb:Nat.beq k nm with
  | true=>rw[hb]at ho;simp only[Aj,Ai]at ho;subst ho;exact h
  | false=>rw[hb]at ho;exact ih ho
theorem le_trunc{Γ:Hy}{st:St}{t r s n k:Nat}{e:TypeId}{f:Nat->List AV}(hs:st.get t = .vsub r n 0 k)(hr:Ah st.own r=some (.arr s e n f))(hk:k<=n)
  (ht:(st.tmps.all fun x=>Nat.beq x.1 t || x.2.freeN r)=true) (ho:OwnsFrN r st.own) (h0:Γ.own0 r=none) (hlt:Nat.blt r A9=true:=by rfl) (hB:arrB e=false:=by rfl) :
  Le Γ st ⟨C7 st.tmps t (.vsl r k),C7 st.own r (.arr s e k f),st.fam⟩:=by
 intro I θ a w h
 have hlt:r<A9:=by simpa [Fv] using hlt
 have hr':st.sto.own r=some (.arr s e n f):=(A2 hlt).trans hr
 have hown:(⟨C7 st.tmps t (.vsl r k),C7 st.own r (.arr s e k f),st.fam⟩:St).sto.own=Az st.sto.own r (.arr s e k f):=by
  funext x
  show Cf (C7 st.own r _) _ x=_
  rw[Il hlt];simp only[Az]
  by_cases hx:r=x
  ·subst hx;simp
  ·simp[hx,Hj hx];rfl
 have hsame:∀ nm,nm≠r->Az st.sto.own r (.arr s e k f) nm=st.sto.own nm:=fun nm hn=>by simp[Az,hn]
 have hT:∀ v x,x.freeN r=true->Rep I st.sto.own θ w v x->Rep I (Az st.sto.own r (.arr s e k f)) θ w v x:=fun v x hx hv=>rep_freeN hv hx ⟨_,_,_,_,hr'⟩ hsame;have hrel:=h.chg.rel
 have hrows:∀ nm o,st.sto.own nm=some o->OwnN r o:=fun nm o hn=>by
  by_cases hl:nm<A9
  ·exact ho.get ((A2 hl).symm.trans hn)
  ·obtain⟨_,_,_,rfl⟩:=Rr hl hn;trivial
 have hget:∀ t',(⟨C7 st.tmps t (.vsl r k),C7 st.own r (.arr s e k f),st.fam⟩:St).sto.tmp t'=if t=t' then .vsl r k else st.get t':=fun t'=>by
  show(match Ah (C7 st.tmps t _) t' with|some x=>x|none=>.any)=_
  rw[Fm]
  by_cases hk:t=t'
  ·simp[hk]
  ·simp[hk];rfl
 refine⟨I,θ,h.size,h.defers,fun t'=>?_,?_⟩
 ·rw[hown,hget]
  split
  ·rename_i htt
   subst htt;have hv:=h.slots t
   have hv':Rep I st.sto.own θ w (a.tmps.getD t undef) (.vsub r n 0 k):=by rw[<- hs];exact hv
   obtain⟨sz,e',m,f',ad,cap,he,ho',hm,_,hhi,hcap,hmax,hn,hvv⟩:=hv'.vsub_inv;rw[hr']at ho';simp only[Ai,Own.arr.injEq]at ho';obtain⟨rfl,rfl,rfl,rfl⟩:=ho';rw[he];refine .vsl r s e k f ad _ cap (by simp[Az]) (zzL8 _) hcap hmax hn (fun _=>?_);have hz:=(hvv rfl).2 rfl
   cases hθ:θ r with
   | none=>rw[hθ]at hz;have:=(hrel.arr r _ _ _ _ hr').1 hθ;simp only at hz ⊢;omega
   | some gc=>rw[hθ]at hz;exact⟨hz.1,hz.2.resolve_right (by rw[hB];decide)⟩
  ·rename_i htt
   have hx:(st.get t').freeN r=true:=by
    unfold St.get
    cases hl:Ah st.tmps t' with
    | none=>rfl
    | some x=>
     have:=zzL33.1 ht _ (Zg hl);simp only[U2]at this;rcases this with h'|h'
     ·exact(htt (Bo h').symm).elim
     ·exact h'
   exact hT _ _ hx (h.slots t')
 ·rw[hown];refine{ h.chg with le:=fun nm o hno=>?_,rel:=⟨fun nm e0 cells hn=>?_,fun nm s' e' m' hn g c hg=>?_,fun nm nm' g c c' hn hn' hg hg'=>?_,fun nm s' e' m' f' hn=>?_,fun nm x hn=>?_,fun nm s' m' hn hnn=>?_⟩,new:=fun nm g c hn hg=>?_ }
  ·obtain⟨o',ho',hl⟩:=h.chg.le nm o hno;exact⟨o',(hsame nm (by rintro rfl;rw[h0]at hno;cases hno)).trans ho',hl⟩
  ·have hne:nm≠r:=by rintro rfl;simp[Az]at hn
   rw[hsame nm hne]at hn;obtain⟨g,c,vs,r1,r2,r3,r4,r5,r6⟩:=hrel.row nm e0 cells hn;exact⟨g,c,vs,r1,r2,r3,r4,fun j hj=>hT _ _ (Gx (hrows nm _ hn) j) (r5 j hj),r6⟩
  ·have hne:nm≠r:=by rintro rfl;simp[Az]at hn
   rw[hsame nm hne]at hn;exact hrel.tok nm _ _ _ hn g c hg
  ·have hx:∀ nm,Az st.sto.own r (.arr s e k f) nm≠none->st.sto.own nm≠none:=fun nm hn=>by
    by_cases hne:nm=r
    ·subst hne;rw[hr'];simp
    ·rwa[hsame nm hne]at hn
   exact hrel.inj nm nm' g c c' (hx nm hn) (hx nm' hn') hg hg'
  ·by_cases hne:nm=r
   ·subst hne;simp only[Az,Hx,Ai,Own.arr.injEq]at hn;obtain⟨rfl,rfl,rfl,rfl⟩:=hn;obtain⟨q0,q1⟩:=hrel.arr nm _ _ _ _ hr';refine⟨fun hθ=>by have:=q0 hθ;omega,fun g c hg=>?_⟩;obtain⟨cur,p1,p2,p3,p4,p5,p6,p7⟩:=q1 g c hg;exact⟨cur,p1,by omega,p3,p4,fun i hi=>p5 i (by omega),fun i j hi hj=>⟨(p6 i j (by omega) hj).1,hT _ _ (Gx (hrows nm _ hr' i) j) (p6 i j (by omega) hj).2⟩,p7⟩
   ·rw[hsame nm hne]at hn;exact Tv (hrel.arr nm _ _ _ _ hn) rfl (fun _ _=>rfl) (fun i j v _ _ hv=>hT _ _ (Gx (hrows nm _ hn i) j) hv)
  ·have hne:nm≠r:=by rintro rfl;simp[Az]at hn
   rw[hsame nm hne]at hn;exact Iu (hrel.obj nm _ hn) rfl (fun _ _ _=>rfl) (fun _ _ _ _ h=>h) (fun _ hh=>hh.al (P:=fun y=>y.freeN r=true) (hrows nm _ hn) (fun _ _ h=>h) (fun _ _ _=>rfl) fun v y hy hv=>hT v y hy hv) P6
  ·have hne:nm≠r:=by rintro rfl;simp[Az]at hn
   rw[hsame nm hne]at hn;exact hrel.tok8 nm _ _ hn hnn
  ·have hx:st.sto.own nm≠none:=by
    by_cases hne:nm=r
    ·subst hne;rw[hr'];simp
    ·rwa[hsame nm hne]at hn
   exact h.chg.new nm g c hx hg
theorem take_le{α:Type}{e:α->List AV}{d:α}{l:List α}{k:Nat}:∀ i,i<0+k->AVleL (e (l.getD i d)) (e ((l.take k).getD i d)):=fun i hi=>by
 have:(l.take k).getD i d=l.getD i d:=by simp[List.getD,show i<k by omega]
 rw[this];exact .refl _
theorem take_len{α:Type}{l:List α}{k:Nat}(h:0+k<=l.length):0+k=(l.take k).length:=by simp;omega
theorem pw_nil{f g:Nat->List AV}:∀ k,k<0->f k=g k:=fun _ h=>by omega
theorem pw_snoc{n:Nat}{f g:Nat->List AV}(h:∀ k,k<n->f k=g k)(h':f n=g n):∀ k,k<n+1->f k=g k:=fun k hk=>by
 by_cases hkn:k=n
 ·subst hkn;exact h'
 ·exact h k (by omega)
theorem U9{α:Type}{keep:Nat->Bool}{e:α->List AV}{d:α}{z:List AV}{N sz:Nat}(hz:z.length=sz)(h:z=e d)(hk:AV.eraseAll keep z=z):∀ k,k<N->AVleL (AV.eraseAll keep ((((List.replicate N z).flatten).drop (k*sz)).take sz)) (e ((List.replicate N d).getD k d)):=fun k hk'=>by
 have:(List.replicate N d).getD k d=d:=by simp[List.getD,hk']
 rw[flat_rep z sz hz N k hk',this,hk,h];exact .refl _
section
variable {α:Type} {g:Bool} {a b:List α}
theorem bif_len:(bif g then a.length else b.length)=(bif g then a else b).length:=by cases g<;>rfl
theorem bif_row{e:α->List AV}{d:α}{k:Nat}:(bif g then e (a.getD k d) else e (b.getD k d))=e ((bif g then a else b).getD k d):=by cases g<;>rfl
theorem bif_was(h:g=true->b.length=a.length):b.length=(bif g then a else b).length:=by
 cases g with
 | false=>rfl
 | true=>exact h rfl
end
abbrev Df{V:Type}(f:V->AV)(l:List (Int×V)):List (Int×AV):=l.map fun p=>(p.1,f p.2)
section
variable {V:Type} {f:V->AV} {l:List (Int×V)} {r:List (Int×AV)} {k:Int}
theorem mhas_mapE(k:Int):∀ l:List (Int×V),Ei (Df f l) k=Ei l k
 | []=>rfl
 | (a,b)::l=>by
  simp only[Df,B0,Ei];rw[<- mhas_mapE k l]
theorem mset_mapE(k:Int)(v:V):∀ l:List (Int×V),Jy (Df f l) k (f v)=Df f (Jy l k v)
 | []=>rfl
 | (a,b)::l=>by
  simp only[Df,B0,Jy]
  cases k==a with
  | true=>rfl
  | false=>
   simp only[A0,B0];exact Bq _ (mset_mapE k v l)
theorem mget_le{z:V}{zz:AV}(hz:AVle zz (f z))(hr:r=Df f l):AVle (Fq zz r k) (f (Fq z l k)):=by
 subst hr
 induction l with
 | nil=>exact hz
 | cons p l ih=>
  obtain⟨a,b⟩:=p;simp only[Df,B0,Fq]
  cases k==a with
  | true=>exact AVle.refl _
  | false=>exact ih
theorem mlook_le{z:V}{zz:AV}(hz:AVle zz (f z))(hr:r=Df f l):AVle (.tuple [Fq zz r k,.bool (Ei r k)]) (.tuple [f (Fq z l k),.bool (Ei l k)]):=by
 have h:=mget_le (k:=k) hz hr;subst hr;rw[mhas_mapE];exact AVle.tuple (.cons h (.cons (AVle.refl _) .nil))
theorem mset_eq{v:V}{x:AV}(hx:x=f v)(hr:r=Df f l):Jy r k x=Df f (Jy l k v):=by
 subst hr hx;exact mset_mapE k v l
theorem bif_mapE{g:Bool}{a b:List (Int×V)}{ra rb:List (Int×AV)}(ha:ra=Df f a)(hb:rb=Df f b):(bif g then ra else rb)=Df f (bif g then a else b):=by
 subst ha hb
 cases g<;>rfl
end
theorem le_obj{Γ:Hy}{st:St}{nm:Nat}{x:AObj}(y:AObj)(hn:Ah st.own nm=some (.obj x))(hxy:∀ I own θ w,Aaj I own θ w nm x->Aaj I own θ w nm y)(hlt:Nat.blt nm A9=true:=by rfl) :
  Le Γ st ⟨st.tmps,C7 st.own nm (.obj y),st.fam⟩:=by
 intro I θ a w h
 have hlt:nm<A9:=by simpa [Fv] using hlt
 have hn:st.sto.own nm=some (.obj x):=(A2 hlt).trans hn
 have hown:(⟨st.tmps,C7 st.own nm (.obj y),st.fam⟩:St).sto.own=Az st.sto.own nm (.obj y):=by
  funext k
  show Cf (C7 st.own nm _) _ k=_
  rw[Il hlt];simp only[Az]
  by_cases hk:nm=k
  ·subst hk;simp
  ·simp[hk,Hj hk];rfl
 have hle:∀ k o,st.sto.own k=some o->∃ o',Az st.sto.own nm (.obj y) k=some o'/\OwnLe o (θ k) o' (θ k):=fun k o ho=>by
  by_cases hk:k=nm
  ·subst hk;rw[hn]at ho;obtain rfl:=OI ho;exact⟨.obj y,by simp[Az],rfl⟩
  ·exact⟨o,by simp[Az,hk,ho],OwnLe.refl _ _⟩
 have hrel:=h.chg.rel;have hmono:∀ v z,Rep I st.sto.own θ w v z->Rep I (Az st.sto.own nm (.obj y)) θ w v z:=fun v z hz=>hz.mono (fun _ _ h=>h) (fun _ _ _=>rfl) hle
 have k:Chg st.sto.own θ I w (Az st.sto.own nm (.obj y)) θ I w:=by
  refine{ imm:=fun _ _ h=>h,cell:=fun _ _ _=>rfl,le:=hle,rel:=?_,valid:=h.chg.valid,os:=rfl,tape:=rfl,output:=rfl,drawn:=fun _=>zzL8 _,grow:=zzL8 _,frame:=fun _ _ _=>rfl,new:=fun k g c ho hg=>?_,immNew:=fun b o h=>.inl h }
  ·refine J1 hrel (·=nm) hmono (fun k hne=>⟨by simp[Az,hne],rfl⟩) (fun k g c hne ho hg=>⟨rfl,fun j h=>h⟩) ?_ ?_ ?_ (fun _ _ h h'=>h.trans h'.symm) (hobj:=?_)
   ·rintro k e' cells rfl ho;simp[Az]at ho
   ·rintro k sz e' m rfl ho;simp[Az]at ho
   ·rintro k k' g c c' rfl hne _ ho' hg hg';exact hne (hrel.inj k' k _ _ _ ho' (by simp[hn]) hg' hg)
   ·rintro k z rfl ho;simp only[Az,Hx,Ai,Own.obj.injEq]at ho;subst ho;exact Iu (hxy _ _ _ _ (hrel.obj k x hn)) rfl (fun _ _ _=>rfl) (fun _ _ _ _ h=>h) (fun _ hh=>hh.mono hmono) P6
  ·by_cases hk:k=nm
   ·subst hk;exact .inr ⟨k,c,by simp[hn],hg⟩
   ·exact .inr ⟨k,c,by simpa [Az,hk] using ho,hg⟩
 exact⟨I,θ,h.size,h.defers,fun t'=>by rw[hown];exact(h.slots t').chg k,by rw[hown];exact h.chg.trans k⟩
theorem objAt_nn{I:Nat->Nat->Prop}{own:Nat->Option Own}{θ:Nat->Option (Nat×Nat)}{w:World}{nm:Nat}{nn:Bool}{k:IntKind}{l:List (Int×AV)}(h:Aaj I own θ w nm (.map nn k l)):Aaj I own θ w nm (.map false k l):=by
 rcases h with⟨g,c,o,h1,h2,h3,h4⟩|⟨h1,h2⟩
 ·refine .inl ⟨g,c,o,h1,h2,?_,h4⟩
  cases h3 with
  | map es nn k l hs hr=>exact .map es false k l hs hr
 ·cases nn<;>cases l<;>first|exact .inr ⟨h1,trivial⟩|cases h2
theorem R0{Γ:Hy}{st:St}{r j nm:Nat}{e0:TypeId}{cells:List AV}(km:IntKind)(hr:Ah st.own r=some (.row e0 cells))(hs:cells.getD j .any = .nilm)(hj:j<cells.length)(hn:Ah st.own nm=none)(hlt:Nat.blt nm A9=true:=by rfl)(hltr:Nat.blt r A9=true:=by rfl) :
  Le Γ st ⟨st.tmps,C7 (C7 st.own r (.row e0 (cells.set j (.omap nm)))) nm (.obj (.map false km [])),st.fam⟩:=by
 intro I θ a w h
 have hlt:nm<A9:=by simpa [Fv] using hlt
 have hltr:r<A9:=by simpa [Fv] using hltr
 have hn:st.sto.own nm=none:=(A2 hlt).trans hn;have hr:st.sto.own r=some (.row e0 cells):=(A2 hltr).trans hr
 have hne:r≠nm:=by rintro rfl;rw[hr]at hn;cases hn
 let own':Nat->Option Own:=fun k=>if k=nm then some (.obj (.map false km [])) else if k=r then some (.row e0 (cells.set j (.omap nm))) else st.sto.own k
 have hown:(⟨st.tmps,C7 (C7 st.own r (.row e0 (cells.set j (.omap nm)))) nm (.obj (.map false km [])),st.fam⟩:St).sto.own=own':=by
  funext k
  show Cf (C7 (C7 st.own r _) nm _) _ k=_
  rw[Il hlt,Il hltr];simp only[own',M1 (a:=nm),M1 (a:=r)]
  rfl
 have hle:∀ nm' o,st.sto.own nm'=some o->∃ o',own' nm'=some o'/\OwnLe o (θ nm') o' (thUp θ nm none nm'):=fun nm' o ho=>by
  have h1:nm'≠nm:=by rintro rfl;have:st.sto.own nm'=some o:=ho;rw[hn]at this;cases this
  by_cases h2:nm'=r
  ·subst h2;have:st.sto.own nm'=some o:=ho;rw[hr]at this;obtain rfl:=OI this;exact⟨.row e0 (cells.set j (.omap nm)),by simp[own',h1],by simp[thUp,h1,OwnLe]⟩
  ·exact⟨o,by simp[own',h1,h2,ho],by simp[thUp,h1,OwnLe.refl]⟩
 have hmono:∀ v x,Rep I st.sto.own θ w v x->Rep I own' (thUp θ nm none) w v x:=fun v x h=>h.mono (fun _ _ h=>h) (fun _ _ _=>rfl) hle;have hrel:=h.chg.rel
 have k:Chg st.sto.own θ I w own' (thUp θ nm none) I w:=by
  refine{ imm:=fun _ _ h=>h,cell:=fun _ _ _=>rfl,le:=hle,rel:=?_,valid:=h.chg.valid,os:=rfl,tape:=rfl,output:=rfl,drawn:=fun _=>zzL8 _,grow:=zzL8 _,frame:=fun _ _ _=>rfl,new:=fun nm' g' c ho hg=>?_,immNew:=fun _ _ h=>.inl h }
  ·refine⟨fun nm' e2 cells' ho=>?_,fun nm' s' e' m ho g' c hg=>?_,fun n1 n2 g' c c' ho ho' hg hg'=>?_,fun nm' s' e' m f' ho=>?_,fun nm' x' ho=>?_,fun nm' s' m ho hnn=>?_⟩
   ·by_cases h1:nm'=nm
    ·simp[own',h1]at ho
    ·by_cases h2:nm'=r
     ·subst h2;simp only[own',h1,Em,Hx,Ai,Own.row.injEq]at ho;obtain⟨rfl,rfl⟩:=ho;obtain⟨g',c,vs,r1,r2,r3,r4,r5,r6⟩:=hrel.row nm' _ cells hr;refine⟨g',c,vs,by simpa [thUp,h1] using r1,r2,by simpa using r3,fun j' hj'=>r4 j' (by simpa using hj'),fun j' hj'=>?_,r6⟩
      have hj'':j'<cells.length:=by simpa using hj'
      by_cases hjj:j'=j
      ·subst hjj
       have e1:(cells.set j' (.omap nm)).getD j' .any = .omap nm:=by simp[List.getD,hj]
       rw[e1];have hr':=r5 j' hj'';rw[hs]at hr';rw[hr'.nilm_inv];have:=Rep.omap (I:=I) (own:=own') (θ:=thUp θ nm none) (w:=w) nm (.map false km []) (by simp[own'])
       simpa [thUp] using this
      ·have e1:(cells.set j (.omap nm)).getD j' .any=cells.getD j' .any:=by simp[List.getD,Hj hjj]
       rw[e1];exact hmono _ _ (r5 j' hj'')
     ·simp only[own',h1,h2,Em]at ho;obtain⟨g',c,vs,r1,r2,r3,r4,r5,r6⟩:=hrel.row nm' _ cells' ho;exact⟨g',c,vs,by simpa [thUp,h1] using r1,r2,r3,r4,fun j' hj'=>hmono _ _ (r5 j' hj'),r6⟩
   ·by_cases h1:nm'=nm
    ·simp[thUp,h1]at hg
    ·have h2:nm'≠r:=by rintro rfl;simp[own',h1]at ho
     simp only[own',h1,h2,Em]at ho;simp only[thUp,h1,Em]at hg;exact hrel.tok nm' _ _ _ ho g' c hg
   ·have hx:∀ n1 g' c,own' n1≠none->thUp θ nm none n1=some (g',c)->st.sto.own n1≠none/\θ n1=some (g',c):=fun n1 g' c ho hg=>by
     by_cases h1:n1=nm
     ·simp[thUp,h1]at hg
     ·simp only[thUp,h1,Em]at hg;refine⟨?_,hg⟩
      by_cases h2:n1=r
      ·subst h2;have:st.sto.own n1=some (.row e0 cells):=hr;simp[this]
      ·simpa [own',h1,h2] using ho
    obtain⟨a1,a2⟩:=hx n1 g' c ho hg;obtain⟨b1,b2⟩:=hx n2 g' c' ho' hg';exact hrel.inj n1 n2 g' c c' a1 b1 a2 b2
   ·by_cases h1:nm'=nm
    ·simp[own',h1]at ho
    ·have h2:nm'≠r:=by rintro rfl;simp[own',h1]at ho
     simp only[own',h1,h2,Em]at ho;exact Lz (hrel.arr nm' _ _ _ _ ho) (by simp[thUp,h1]) (fun _ _ _=>rfl) (fun _ _ _ _ h=>h) (fun _ _=>rfl) (fun v i j _ _ hv=>hmono _ _ hv)
   ·by_cases h1:nm'=nm
    ·simp only[own',h1,Hx,Ai,Own.obj.injEq]at ho;subst ho;subst h1;exact .inr ⟨by simp[thUp],trivial⟩
    ·have h2:nm'≠r:=by rintro rfl;simp[own',h1]at ho
     simp only[own',h1,h2,Em]at ho;exact Iu (hrel.obj nm' _ ho) (by simp[thUp,h1]) (fun _ _ _=>rfl) (fun _ _ _ _ h=>h) (fun _ hh=>hh.mono hmono) P6
   ·by_cases h1:nm'=nm
    ·simp[own',h1]at ho
    ·have h2:nm'≠r:=by rintro rfl;simp[own',h1]at ho
     simp only[own',h1,h2,Em]at ho;simp only[thUp,h1,Em]at hnn;exact hrel.tok8 nm' _ _ ho hnn
  ·by_cases h1:nm'=nm
   ·simp[thUp,h1]at hg
   ·simp only[thUp,h1,Em]at hg;refine .inr ⟨nm',c,?_,hg⟩
    by_cases h2:nm'=r
    ·subst h2;have:st.sto.own nm'=some (.row e0 cells):=hr;simp[this]
    ·simpa [own',h1,h2] using ho
 refine⟨I,thUp θ nm none,h.size,h.defers,fun t'=>?_,?_⟩
 ·rw[hown];exact(h.slots t').chg k
 ·rw[hown];exact h.chg.trans k
section
variable {P:Program} {Γ:Hy} {σ:Sto} {I:Nat->Nat->Prop} {θ:Nat->Option (Nat×Nat)} {a:Act} {w:World} {o:Oper}
end
open Classical in
open Classical in
section
variable {P:Program} {Γ:Hy}
end
section
variable {P:Program} {Γ:Hy}
def UnrollK(P:Program)(Γ:Hy)(body:Code)(K:Exit->St->Prop):Nat->St->Prop
 | 0,_=>False
 | n+1,st=>Te P Γ body (fun e st'=>(e = .normal/\UnrollK P Γ body K n st')\/(e≠.normal/\K e st')) st
theorem awp_unroll{body:Code}{K:Exit->St->Prop}{st:St}(n:Nat)(h:UnrollK P Γ body K n st):Te P Γ (.loop body) K st:=by
 intro I θ a w hrel;refine wp_loop_n (fun m a w=>∃ st I θ,UnrollK P Γ body K m st/\Rel Γ st.sto I θ a w) (fun m a w ⟨st,I,θ,hu,hrel⟩=>?_) (n:=n) ⟨st,I,θ,h,hrel⟩
 cases m with
 | zero=>exact hu.elim
 | succ m=>
  refine Pe (hu I θ a w hrel) fun e a' w' ⟨st',I',θ',h1,h2⟩=>?_;rcases h1 with⟨rfl,h1⟩|⟨hne,h1⟩
  ·exact⟨m,Nat.lt_succ_self m,st',I',θ',h1,h2⟩
  ·cases e with
   | normal=>exact(hne rfl).elim
   | _=>exact⟨st',I',θ',h1,h2⟩
end
inductive Frm where
 | nx (y:Code)
 | bl (id:Nat)
 | ag (c:Code) (n:Nat)
inductive Nr where
 | run (c:Code) (fs:List Frm)
 | out (e:Exit) (fs:List Frm)
def kOf(P:Program)(Γ:Hy)(K:Exit->St->Prop):List Frm->Exit->St->Prop
 | []=>K
 | .nx y::fs=>thenK P Γ y (kOf P Γ K fs)
 | .bl id::fs=>Ws id (kOf P Γ K fs)
 | .ag c n::fs=>fun e st=>(e = .normal/\UnrollK P Γ c (kOf P Γ K fs) n st)\/(e≠.normal/\kOf P Γ K fs e st)
def GG(P:Program)(Γ:Hy)(K:Exit->St->Prop):Nr->St->Prop
 | .run c fs,st=>Te P Γ c (kOf P Γ K fs) st
 | .out e fs,st=>kOf P Γ K fs e st
def Tw:Code->Nat->Nat
 | .exit i,k=>bif Nat.beq i k then 1 else 0
 | .seq a b,k=>Nat.min 2 (Tw a k+Tw b k)
 | .cond _ a b,k=>Nat.min 2 (Tw a k+Tw b k)
 | .loop c,k=>Nat.min 1 (Tw c k)
 | .scope c,k=>Nat.min 1 (Tw c k)
 | .block _ c,k=>Tw c k
 | _,_=>0
def Oz:Code->Nat
 | .region _ _ _=>1
 | .skip=>1
 | .label _=>1
 | .seq a b=>bif Nat.beq (Oz a) 0 then 0 else Oz b
 | .cond _ a b=>Nat.min 2 (Oz a+Oz b)
 | .block i c=>Nat.min 2 (Oz c+Tw c i)
 | .scope c=>Nat.min 2 (Oz c)
 | _=>0
def joinPt(a:Code):Bool:=match a with | .region _ _ _=>false|a=>Nat.ble 2 (Oz a)
def nav:Nat->Code ⊕ Exit->List Frm->Nr
 | 0,.inl c,fs=>.run c fs
 | 0,.inr e,fs=>.out e fs
 | n+1,.inl c,fs=>
  match c with
  | .skip=>nav n (.inr .normal) fs
  | .label _=>nav n (.inr .normal) fs
  | .seq a b=>bif joinPt a then .run (.seq a b) fs else nav n (.inl a) (.nx b::fs)
  | .block id a=>nav n (.inl a) (.bl id::fs)
  | .exit id=>nav n (.inr (.exit id)) fs
  | .goto l=>nav n (.inr (.goto l)) fs
  | .ret=>nav n (.inr .ret) fs
  | c=>.run c fs
 | n+1,.inr e,fs=>
  match fs with
  | []=>.out e []
  | .nx y::fs=>(match e with | .normal=>nav n (.inl y) fs|e=>nav n (.inr e) fs)
  | .bl id::fs=>(match e with | .exit i=>bif Nat.beq i id then nav n (.inr .normal) fs else nav n (.inr (.exit i)) fs|e=>nav n (.inr e) fs)
  | .ag c m::fs=>(match e with | .normal=>(match m with|0=>.out .normal (.ag c 0::fs)|m+1=>nav n (.inl c) (.ag c m::fs))|e=>nav n (.inr e) fs)
section
variable {P:Program} {Γ:Hy} {K:Exit->St->Prop}
theorem Bx:∀(n:Nat) (x:Code ⊕ Exit) (fs:List Frm) (st:St),GG P Γ K (nav n x fs) st->(match x with | .inl c=>Te P Γ c (kOf P Γ K fs) st | .inr e=>kOf P Γ K fs e st)
 | 0,.inl c,fs,st,h=>h
 | 0,.inr e,fs,st,h=>h
 | n+1,.inl c,fs,st,h=>by
  cases c with
  | skip=>exact awp_skip (Bx n (.inr .normal) fs st h)
  | label l=>exact awp_label (Bx n (.inr .normal) fs st h)
  | seq a b=>
   cases hj:joinPt a with
   | true=>simp only[nav,hj,Aj]at h;exact h
   | false=>simp only[nav,hj,A0]at h;exact awp_seq (Bx n (.inl a) (.nx b::fs) st h)
  | block id a=>exact awp_block (Bx n (.inl a) (.bl id::fs) st h)
  | exit id=>exact awp_exit (Bx n (.inr (.exit id)) fs st h)
  | goto l=>exact awp_goto (Bx n (.inr (.goto l)) fs st h)
  | ret=>exact awp_ret (Bx n (.inr .ret) fs st h)
  | _=>exact h
 | n+1,.inr e,[],st,h=>h
 | n+1,.inr e,.nx y::fs,st,h=>by
  cases e with
  | normal=>exact Bx n (.inl y) fs st h
  | exit i=>exact Bx n (.inr (.exit i)) fs st h
  | goto l=>exact Bx n (.inr (.goto l)) fs st h
  | ret=>exact Bx n (.inr .ret) fs st h
  | panic c=>exact Bx n (.inr (.panic c)) fs st h
  | outgrown=>exact Bx n (.inr .outgrown) fs st h
 | n+1,.inr e,.bl id::fs,st,h=>by
  cases e with
  | normal=>exact Bx n (.inr .normal) fs st h
  | exit i=>
   show Ws id (kOf P Γ K fs) (.exit i) st
   cases hb:Nat.beq i id with
   | true=>
    obtain rfl:=Bo hb;simp only[nav,hb,Aj]at h;exact block_here (Bx n (.inr .normal) fs st h)
   | false=>
    simp only[nav,hb,A0]at h;exact block_exit hb (Bx n (.inr (.exit i)) fs st h)
  | goto l=>exact Bx n (.inr (.goto l)) fs st h
  | ret=>exact Bx n (.inr .ret) fs st h
  | panic c=>exact Bx n (.inr (.panic c)) fs st h
  | outgrown=>exact Bx n (.inr .outgrown) fs st h
 | n+1,.inr e,.ag c m::fs,st,h=>by
  cases e with
  | normal=>
   cases m with
   | zero=>exact h
   | succ m=>exact .inl ⟨rfl,Bx n (.inl c) (.ag c m::fs) st h⟩
  | exit i=>exact .inr ⟨(by intro hh;cases hh),Bx n (.inr (.exit i)) fs st h⟩
  | goto l=>exact .inr ⟨(by intro hh;cases hh),Bx n (.inr (.goto l)) fs st h⟩
  | ret=>exact .inr ⟨(by intro hh;cases hh),Bx n (.inr .ret) fs st h⟩
  | panic ch=>exact .inr ⟨(by intro hh;cases hh),Bx n (.inr (.panic ch)) fs st h⟩
  | outgrown=>exact .inr ⟨(by intro hh;cases hh),Bx n (.inr .outgrown) fs st h⟩
theorem Ja{n:Nat}{c:Code}{fs:List Frm}{st:St}(h:GG P Γ K (nav n (.inl c) fs) st):Te P Γ c (kOf P Γ K fs) st:=Bx n (.inl c) fs st h
theorem X5{n:Nat}{e:Exit}{fs:List Frm}{st:St}(h:GG P Γ K (nav n (.inr e) fs) st):kOf P Γ K fs e st:=Bx n (.inr e) fs st h
def inC(c:Code)(fs:List Frm):Nr:=nav 400 (.inl c) fs
def exC(e:Exit)(fs:List Frm):Nr:=nav 400 (.inr e) fs
def nxC:Nr->Nr
 | .run _ fs=>exC .normal fs
 | x=>x
def opsC:Nr->Option (List Oper×Bool)
 | .run (.region _ ops draw) _=>some (ops.toList,draw)
 | _=>none
def doR(P:Program)(S:Xm)(n:Nat)(cs:List (Nat×AV))(live names:List Nat)(x:Nr)(st:St)(rs:List Rj):Option (St×List Prop×Bool):=
 match opsC x with
 | some (ops,draw)=>aregion P S n cs live names ops draw st rs
 | none=>none
def nxS(P:Program)(S:Xm)(n:Nat)(cs:List (Nat×AV))(live names:List Nat)(x:Nr)(st:St)(rs:List Rj):St:=
 match doR P S n cs live names x st rs with
 | some r=>r.1
 | none=>st
def obR(r:Option (St×List Prop×Bool)):Option (Prop×Bool):=
 match r with
 | some r=>some (conjL r.2.1,r.2.2)
 | none=>none
theorem gR{x:Nr}{st:St}{n:Nat}{H:List (Nat×Own)}(q:RgQ P Γ n H)(live names:List Nat)(cs:List (Nat×AV))(rs:List Rj){O:Prop}(hO:O)
  (k:GG P Γ K (nxC x) (nxS P (Spec P) n cs live names x st rs))
  (h:obR (doR P (Spec P) n cs live names x st rs)=some (O,true):=by kernel_rfl) (hh:(H.all fun x=>Cc x.1 names)=true:=by kernel_rfl):GG P Γ K x st:=by
 unfold doR at h;unfold nxS doR at k
 cases x with
 | out e fs=>simp[opsC,obR]at h
 | run c fs=>
  cases c with
  | region id ops draw=>
   simp only[opsC]at h k
   cases hr:aregion P (Spec P) n cs live names ops.toList draw st rs with
   | none=>rw[hr]at h;simp[obR]at h
   | some r=>
    obtain⟨st',obs,d⟩:=r;rw[hr]at h k;simp only[obR,Ai,Dc]at h;obtain⟨rfl,rfl⟩:=h;have:=awp_region (id:=id) (K:=kOf P Γ K fs) q.hn q.mix (q.hand hh) hr hO (X5 k);exact(by simpa using this:Te P Γ (.region id ops draw) (kOf P Γ K fs) st)
  | _=>simp[opsC,obR]at h
theorem Ak{x:Nr}{st:St}{n:Nat}{H:List (Nat×Own)}(q:RgQ P Γ n H)(live names:List Nat)
  (k:GG P Γ K (nxC x) (nxS P (Spec P) n [] live names x st []))
  (h:obR (doR P (Spec P) n [] live names x st [])=some (True,true):=by kernel_rfl) (hh:(H.all fun x=>Cc x.1 names)=true:=by kernel_rfl):GG P Γ K x st:=gR q live names [] [] trivial k h hh
def isRun:Nr->Bool | .run _ _=>true|_=>false
theorem Ll{x:Nr}{st st':St}(h:Le Γ st st')
  (k:GG P Γ K x st')
  (hx:isRun x=true:=by kernel_rfl):GG P Γ K x st:=by
 cases x with
 | run c fs=>exact awp_le h k
 | out e fs=>cases hx
theorem N9{x:Nr}{st:St}(st':St)
  (k:GG P Γ K x st')
  (h:st=st':=by kernel_rfl):GG P Γ K x st:=h▸k
def condV(x:Nr)(st:St):AV:=match x with | .run (.cond c _ _) _=>evA st.get c|_=>.any
def brC(b:Bool):Nr->Nr
 | .run (.cond _ c d) fs=>inC (bif b then c else d) fs
 | x=>x
theorem gC{x:Nr}{st:St}{R:Type}{b:Bool}{m1 m2:Option R}{r:R}(h:(bif b then m1 else m2)=some r)
  (kt:m1=some r->GG P Γ K (brC true x) st) (kf:m2=some r->GG P Γ K (brC false x) st)
  (hv:condV x st = .bool b:=by kernel_rfl):GG P Γ K x st:=by
 cases x with
 | out e fs=>cases hv
 | run c fs=>
  cases c with
  | cond c y z=>
   refine awp_cond b hv (fun hb=>Ja (n:=400) (kt ?_)) (fun hb=>Ja (n:=400) (kf ?_))
   ·subst hb;exact h
   ·subst hb;exact h
  | _=>cases hv
theorem gCt{x:Nr}{st:St}(b:Bool)
  (k:GG P Γ K (brC b x) st)
  (hv:condV x st = .bool b:=by kernel_rfl):GG P Γ K x st:=by
 cases x with
 | out e fs=>cases hv
 | run c fs=>
  cases c with
  | cond c y z=>
   refine awp_cond b hv (fun hb=>Ja (n:=400) ?_) (fun hb=>Ja (n:=400) ?_)
   ·subst hb;exact k
   ·subst hb;exact k
  | _=>cases hv
theorem gNil{x:Nr}{st:St}(pos:Bool)(n:Nat)
  (kt:(pos=true->n=0)->GG P Γ K (brC true x) st) (kf:(pos=false->n=0)->GG P Γ K (brC false x) st)
  (hv:condV x st = .nilq pos n:=by kernel_rfl):GG P Γ K x st:=by
 cases x with
 | out e fs=>cases hv
 | run c fs=>
  cases c with
  | cond c y z=>exact awp_nilq pos n hv (fun hb=>Ja (n:=400) (kt hb)) (fun hb=>Ja (n:=400) (kf hb))
  | _=>cases hv
theorem gK{x:Nr}{st:St}{e:Exit}(h:K e st)(hx:x = .out e []:=by kernel_rfl):GG P Γ K x st:=by subst hx;exact h
def aG(Γ:Hy)(e0:Exit)(og:St):Exit->St->Prop:=fun e st=>e=e0/\Le Γ st og
def aR(K:Exit->St->Prop):Exit->St->Prop:=fun e st=>e = .ret/\K e st
theorem D3{e0:Exit}{og st:St}(h:Le Γ st og):aG Γ e0 og e0 st:=⟨rfl,h⟩
theorem Pj{st:St}(h:K .ret st):aR K .ret st:=⟨rfl,h⟩
def isN:Exit->Bool | .normal=>true|_=>false
theorem gN{S X:Type}{x:Nr}{st:St}{H:S->St}{KX:X->Exit->St->Prop}{s':S}(h:Le Γ st (H s'))(hx:x = .out .normal []:=by kernel_rfl):GG P Γ (roundK Γ H KX (.next s')) x st:=by
 subst hx;exact⟨rfl,h⟩
theorem gO{S X:Type}{x:Nr}{st:St}{H:S->St}{KX:X->Exit->St->Prop}{y:X}{e:Exit}(h:KX y e st)(hx:x = .out e []:=by kernel_rfl)(hn:isN e=false:=by kernel_rfl):GG P Γ (roundK Γ H KX (.done y)) x st:=by
 subst hx;exact⟨(by rintro rfl;cases hn),h⟩
def fK(P:Program)(Γ:Hy)(rs:List ResultVar)(H:List (Nat×Own))(res:AV)(H':List (Nat×Own)):Exit->St->Prop:=clK Γ (retK P rs H res H')
theorem J9{rs:List ResultVar}{H H':List (Nat×Own)}{res:AV}{st st':St}{e:Exit}(ρ:List (Nat×Nat))(hl:Le Γ st st')(hr:retOf P rs ρ H st'=some (res,H'):=by kernel_rfl)
  (he:(match e with | .ret=>true | .normal=>true|_=>false)=true:=by kernel_rfl):fK P Γ rs H res H' e st:=by
 refine⟨st',hl,?_,ρ,hr⟩
 cases e with
 | ret=>exact .inl rfl
 | normal=>exact .inr rfl
 | _=>cases he
theorem Dl{rs:List ResultVar}{H H':List (Nat×Own)}{res:AV}{x:Nr}{st:St}(ρ:List (Nat×Nat))(hr:retOf P rs ρ H st=some (res,H'):=by kernel_rfl)
  (hx:x = .out .ret []:=by kernel_rfl):GG P Γ (fK P Γ rs H res H') x st:=gK (e:=.ret) (J9 ρ (Le.refl _ _) hr) hx
def bodyOf(fn:Func):Code:=match fn.body with|some c=>c|none=>.skip
theorem Ab {f : FuncId} {fn : Func} {args : List AV} {H H' : List (Nat × Own)} {res : AV} (hm : P.follows .mixedOrders = true) (hf : P.funcs[f]? = some fn)
    (k : ∀ Γ : Hy, RgQ P Γ fn.ntmps H → GG P Γ (fK P Γ fn.results.toList H res H') (inC (bodyOf fn) []) (initSt args H))
    (hb : fn.body.isSome = true := by kernel_rfl) (hname : (fn.name == "runtime.NumGoroutine") = false := by kernel_rfl) (hlen : Nat.ble args.length fn.ntmps = true := by kernel_rfl) (hpl : plainB H = true := by kernel_rfl) : Spec P f args H res H' := by
  obtain ⟨c, hc⟩ := zzL77.1 hb
  have e : bodyOf fn = c := by unfold bodyOf; rw [hc]
  refine spec_of_awp hf hc hname hlen (fun Γ hn hΓ => ?_) hpl; have := k Γ ⟨hn, hm, hΓ⟩; rw [e] at this; exact awp_cl (Ja this)
theorem leq_of{st st':St}(h:st=st'):Le Γ st st':=h▸Le.refl Γ st
def isLoop:Nr->Bool | .run (.loop _) _=>true|_=>false
def bodyC:Nr->Nr
 | .run (.loop c) _=>inC c []
 | x=>x
def outC(e:Exit):Nr->Nr
 | .run _ fs=>exC e fs
 | x=>x
def putS{α:Type}(k:Nat)(x:α):List (Nat×α)->List (Nat×α)
 | []=>[(k,x)]
 | (k',y)::l=>bif Nat.beq k k' then(k,x)::l else bif Nat.blt k k' then(k,x)::(k',y)::l else(k',y)::putS k x l
def putL{α:Type}:List (Nat×α)->List (Nat×α)->List (Nat×α)
 | [],l=>l
 | (k,x)::r,l=>putL r (putS k x l)
def F4(st:St)(ts:List (Nat×AV))(os:List (Nat×Own))(fs:List (Nat×Fam):=[]):St:=⟨putL ts st.tmps,putL os st.own,putL fs st.fam⟩
def W8(live names:List Nat)(st:St)(ts:List (Nat×AV))(os:List (Nat×Own))(fs:List (Nat×Fam):=[]):St:=Hc live names (F4 st ts os fs)
theorem gL{S X:Type}{x:Nr}{st:St}{n:Nat}{Hf:List (Nat×Own)}(q:RgQ P Γ n Hf){f:S->Option (LR S X)}{s0:S}{y:X}(hx:An f s0=some y)(live names:List Nat)(H:St->S->St)(KX:St->X->Exit->St->Prop)
  (kb:∀ s y,f s=some y->GG P Γ (roundK Γ (H (Hc live names st)) (KX (Hc live names st)) y) (bodyC x) (H (Hc live names st) s)) (ko:∀ e st',KX (Hc live names st) y e st'->GG P Γ K (outC e x) st')
  (h0:Hc live names st=H (Hc live names st) s0:=by kernel_rfl) (hl:isLoop x=true:=by kernel_rfl) (hh:(Hf.all fun x=>Cc x.1 names)=true:=by kernel_rfl):GG P Γ K x st:=by
 cases x with
 | out e fs=>cases hl
 | run c fs=>
  cases c with
  | loop c=>
   refine awp_le (st':=H (Hc live names st) s0) ?_ (awp_loop (H (Hc live names st)) f (KX (Hc live names st)) (fun s y hy=>Ja (kb s y hy)) hx fun e st' hk=>X5 (ko e st' hk));rw[<- h0];exact Du live names q rfl hh
  | _=>cases hl
theorem gA{x:Nr}{f:Exit->Nr->Nr}{e0:Exit}{og:St}
  (k:GG P Γ K (f e0 x) og)
  (hr:isRun (f e0 x)=true:=by kernel_rfl):∀ e st',aG Γ e0 og e st'->GG P Γ K (f e x) st':=by
 rintro e st' ⟨rfl,hl⟩;exact Ll hl k hr
theorem gA'{x:Nr}{f:Exit->Nr->Nr}{e0:Exit}{og:St}(k:∀ st',Le Γ st' og->GG P Γ K (f e0 x) st'):∀ e st',aG Γ e0 og e st'->GG P Γ K (f e x) st':=by
 rintro e st' ⟨rfl,hl⟩;exact k st' hl
theorem T0{x:Nr}{f:Exit->Nr->Nr}{K':Exit->St->Prop}(k:∀ st',K' .ret st'->GG P Γ K (f .ret x) st'):∀ e st',aR K' e st'->GG P Γ K (f e x) st':=by
 rintro e st' ⟨rfl,hl⟩;exact k st' hl
theorem gU{x:Nr}{st:St}(n:Nat)
  (k:GG P Γ K (match x with | .run (.loop c) fs=>inC c (.ag c n::fs)|x=>x) st)
  (hl:isLoop x=true:=by kernel_rfl):GG P Γ K x st:=by
 cases x with
 | out e fs=>cases hl
 | run c fs=>
  cases c with
  | loop c=>exact awp_unroll (n+1) (Ja k)
  | _=>cases hl
def isSeq:Nr->Bool | .run (.seq _ _) _=>true|_=>false
def headC:Nr->Nr
 | .run (.seq a _) _=>inC a []
 | x=>x
def restC(e:Exit):Nr->Nr
 | .run (.seq _ b) fs=>exC e (.nx b::fs)
 | x=>x
theorem gJ{X:Type}{x:Nr}{st:St}{m:Option X}{y:X}(hx:m=some y)(KX:X->Exit->St->Prop)
  (kb:∀ y,m=some y->GG P Γ (KX y) (headC x) st) (ko:∀ e st',KX y e st'->GG P Γ K (restC e x) st')
  (hs:isSeq x=true:=by kernel_rfl):GG P Γ K x st:=by
 cases x with
 | out e fs=>cases hs
 | run c fs=>
  cases c with
  | seq a b=>exact awp_seq (awp_join KX hx (fun y hy=>Ja (kb y hy)) fun e st' hk=>X5 (ko e st' hk))
  | _=>cases hs
def isScope:Nr->Bool | .run (.scope _) _=>true|_=>false
def scB:Nr->Code | .run (.scope c) _=>c|_=>.skip
def labC(c:Code)(l:Nat):Nr:=inC ((findLabel c l).getD .skip) []
theorem gS{S X:Type}{x:Nr}{st:St}{f0:Option (LR S X)}{f:S->Option (LR S X)}{y:X}(hx:My f0 f=some y)(lab:S->Nat)(H:S->St)(KX:X->Exit->St->Prop)
  (k0:∀ y,f0=some y->GG P Γ (jumpK Γ (scB x) lab H KX y) (inC (scB x) []) st) (kb:∀ s y,f s=some y->GG P Γ (jumpK Γ (scB x) lab H KX y) (labC (scB x) (lab s)) (H s)) (ko:∀ e st',KX y e st'->GG P Γ K (outC e x) st')
  (hs:isScope x=true:=by kernel_rfl):GG P Γ K x st:=by
 cases x with
 | out e fs=>cases hs
 | run c fs=>
  cases c with
  | scope c=>
   refine awp_scope lab H f0 f KX (fun y hy=>Ja (k0 y hy)) (fun s y rest hf hy=>?_) hx fun e st' hk=>X5 (ko e st' hk);have:=kb s y hy;unfold labC scB at this;rw[hf]at this;exact Ja this
  | _=>cases hs
theorem gJn{S X:Type}{x:Nr}{st:St}{c:Code}{lab:S->Nat}{H:S->St}{KX:X->Exit->St->Prop}{s':S}(h:Le Γ st (H s'))(hx:x = .out (.goto (lab s')) []:=by kernel_rfl)(hf:(findLabel c (lab s')).isSome=true:=by kernel_rfl) :
  GG P Γ (jumpK Γ c lab H KX (.next s')) x st:=by
 subst hx;exact⟨rfl,hf,h⟩
theorem gJo{S X:Type}{x:Nr}{st:St}{c:Code}{lab:S->Nat}{H:S->St}{KX:X->Exit->St->Prop}{y:X}{e:Exit}(h:KX y e st)(hx:x = .out e []:=by kernel_rfl)
  (hf:(match e with | .goto l=>(findLabel c l).isNone|_=>true)=true:=by kernel_rfl):GG P Γ (jumpK Γ c lab H KX (.done y)) x st:=by
 subst hx;refine⟨?_,h⟩;rintro l rfl
 simpa using hf
theorem Vh{α:Type}{st:St}(U:α->St->St){a b:α}(h:a=b)(h1:st=U a st:=by kernel_rfl):Le Γ st (U b st):=by subst h;exact leq_of h1
theorem leB{st:St}(F F':Bool->St->St)(g:Bool)(h1:st=F g st:=by kernel_rfl)(ht:F true st=F' true st:=by kernel_rfl)(hf:F false st=F' false st:=by kernel_rfl):Le Γ st (F' g st):=by
 refine leq_of (h1.trans ?_)
 cases g<;>assumption
def Own.withF(g:Nat->List AV):Own->Own
 | .arr sz e n _=>.arr sz e n g
 | o=>o
def arrAt(st:St)(nm:Nat):Option (Nat×(Nat->List AV)):=match Ah st.own nm with|some (.arr _ _ n f)=>some (n,f)|_=>none
def setF(nm:Nat)(g:Nat->List AV)(st:St):St:=⟨st.tmps,(match Ah st.own nm with|some o=>C7 st.own nm (o.withF g)|none=>st.own),st.fam⟩
theorem ownsLe_arr{nm sz n:Nat}{e:TypeId}{f g:Nat->List AV}(hp:∀ k,k<n->AVleL (f k) (g k)):∀{l:List (Nat×Own)},Ah l nm=some (.arr sz e n f)->OwnsLe l (C7 l nm (.arr sz e n g))
 | [],h=>by cases h
 | (k,o)::l,h=>by
  simp only[Ah]at h;simp only[C7]
  cases hb:Nat.beq k nm with
  | true=>
   obtain rfl:=Bo hb;rw[hb]at h;simp only[Aj,Ai]at h;subst h;exact .arr hp (.refl _)
  | false=>
   rw[hb]at h;exact .same (ownsLe_arr hp h)
theorem Rz{st:St}(nm:Nat){n:Nat}{f g:Nat->List AV}(hp:∀ k,k<n->AVleL (f k) (g k))(h:arrAt st nm=some (n,f):=by kernel_rfl):Le Γ st (setF nm g st):=by
 unfold arrAt at h;unfold setF
 cases ho:Ah st.own nm with
 | none=>rw[ho]at h;cases h
 | some o=>
  rw[ho]at h
  cases o with
  | arr sz e n' f'=>
   simp only[Ai,Dc]at h;obtain⟨rfl,rfl⟩:=h;exact Na (TmpsLe.refl _) (ownsLe_arr hp ho)
  | _=>cases h
def cellAt(st:St)(nm j:Nat):Option AV:=match Ah st.own nm with|some (.row _ cells)=>cells[j]? | _=>none
def Own.withC(j:Nat)(x:AV):Own->Own
 | .row e cells=>.row e (cells.set j x)
 | o=>o
def setC(nm j:Nat)(x:AV)(st:St):St:=⟨st.tmps,(match Ah st.own nm with|some o=>C7 st.own nm (o.withC j x)|none=>st.own),st.fam⟩
theorem leL_set{a b:AV}(h:AVle a b):∀{l:List AV} {j:Nat},l[j]?=some a->AVleL l (l.set j b)
 | [],j,h=>by simp at h
 | x::l,0,h'=>by
  simp only[List.getElem?_cons_zero,Ai]at h';subst h';exact .cons h (.refl _)
 | x::l,j+1,h'=>by
  simp only[List.getElem?_cons_succ]at h';exact .cons (.refl _) (leL_set h h')
theorem ownsLe_row{nm:Nat}{e:TypeId}{x y:List AV}(hp:AVleL x y):∀{l:List (Nat×Own)},Ah l nm=some (.row e x)->OwnsLe l (C7 l nm (.row e y))
 | [],h=>by cases h
 | (k,o)::l,h=>by
  simp only[Ah]at h;simp only[C7]
  cases hb:Nat.beq k nm with
  | true=>
   obtain rfl:=Bo hb;rw[hb]at h;simp only[Aj,Ai]at h;subst h;exact .row hp (.refl _)
  | false=>
   rw[hb]at h;exact .same (ownsLe_row hp h)
theorem leC{st:St}(nm j:Nat){a b:AV}(hp:AVle a b)(h:cellAt st nm j=some a:=by kernel_rfl):Le Γ st (setC nm j b st):=by
 unfold cellAt at h;unfold setC
 cases ho:Ah st.own nm with
 | none=>rw[ho]at h;cases h
 | some o=>
  rw[ho]at h
  cases o with
  | row e cells=>exact Na (TmpsLe.refl _) (ownsLe_row (leL_set hp h) ho)
  | _=>cases h
theorem gI(g:Bool):g=true->g=true:=id
theorem Oa(c:Bool):c=true->(c==true)=true:=gT
theorem Vw(c:Bool):c=false->(c==false)=true:=gF
theorem Ca{α:Type}(sz:Nat)(e:α->List AV)(d:α)(l:List α):AVle (.slice sz l.length (fun i=>(l.map e).getD i []) .exact) (AV.list sz e d l .exact):=av_lit rfl fun i h=>map_get l i h
theorem Dx{α:Type}(sz:Nat)(e:α->List AV)(d:α):AVle (.slice 0 0 (fun _=>[]) .exact) (AV.list sz e d [] .exact):=Gv
theorem M2{α:Type}(sz nm:Nat)(e:α->List AV)(d:α)(l m:List α):AVle (.slice sz (l.length+m.length) (Ku l.length (fun i=>e (l.getD i d)) (fun i=>e (m.getD i d))) (.own nm)) (AV.list sz e d (l++m) (.own nm)):=av_app
theorem Fe{st st':St}(h:st=st':=by kernel_rfl):Le Γ st st':=h▸Le.refl Γ st
theorem ci{p q:Prop}(a:p)(b:q):p/\q:=⟨a,b⟩
theorem c1{p:Prop}(a:p):p/\True:=⟨a,trivial⟩
end
open Go.Shelf
def lays189_ren:Go.Shelf.Ren:=⟨fun|189=>65|125=>95|257=>94|128=>127|129=>128|294=>118|295=>119|296=>120|297=>121|298=>122|299=>123|216=>124|300=>125|301=>126|328=>148|329=>149|330=>150|331=>151|332=>152|215=>153|343=>163|n=>n,fun|28=>22|3=>3|46=>126|0=>0|51=>158|53=>55|4=>4|183=>152|182=>151|131=>155|5=>5|9=>9|218=>174|222=>178|228=>181|229=>117|n=>n,fun|n=>n⟩
theorem lays189:Go.Proofs.Lays.n189 Tryz.prog lays189_ren:={
 mixed:=by kernel_rfl
 f125:=Tryz.func95.trans (Bq some (by kernel_rfl))
 f128:=Tryz.func127.trans (Bq some (by kernel_rfl))
 f129:=Tryz.func128.trans (Bq some (by kernel_rfl))
 f189:=Tryz.func65.trans (Bq some (by kernel_rfl))
 f215:=Tryz.func153.trans (Bq some (by kernel_rfl))
 f216:=Tryz.func124.trans (Bq some (by kernel_rfl))
 f257:=Tryz.func94.trans (Bq some (by kernel_rfl))
 f294:=Tryz.func118.trans (Bq some (by kernel_rfl))
 f295:=Tryz.func119.trans (Bq some (by kernel_rfl))
 f296:=Tryz.func120.trans (Bq some (by kernel_rfl))
 f297:=Tryz.func121.trans (Bq some (by kernel_rfl))
 f298:=Tryz.func122.trans (Bq some (by kernel_rfl))
 f299:=Tryz.func123.trans (Bq some (by kernel_rfl))
 f300:=Tryz.func125.trans (Bq some (by kernel_rfl))
 f301:=Tryz.func126.trans (Bq some (by kernel_rfl))
 f328:=Tryz.func148.trans (Bq some (by kernel_rfl))
 f329:=Tryz.func149.trans (Bq some (by kernel_rfl))
 f330:=Tryz.func150.trans (Bq some (by kernel_rfl))
 f331:=Tryz.func151.trans (Bq some (by kernel_rfl))
 f332:=Tryz.func152.trans (Bq some (by kernel_rfl))
 f343:=Tryz.func163.trans (Bq some (by kernel_rfl))
 t0:=Tryz.underlying0
 a0:=Tryz.isAgg0
 z0:=Tryz.sizeOf0
 v0:=Tryz.zeroValue0
 t3:=Tryz.underlying3
 a3:=Tryz.isAgg3
 z3:=Tryz.sizeOf3
 v3:=Tryz.zeroValue3
 t4:=Tryz.underlying4
 a4:=Tryz.isAgg4
 z4:=Tryz.sizeOf4
 v4:=Tryz.zeroValue4
 t5:=Tryz.underlying5
 a5:=Tryz.isAgg5
 z5:=Tryz.sizeOf5
 v5:=Tryz.zeroValue5
 t9:=Tryz.underlying9
 a9:=Tryz.isAgg9
 z9:=Tryz.sizeOf9
 v9:=Tryz.zeroValue9
 t28:=Tryz.underlying22
 a28:=Tryz.isAgg22
 z28:=Tryz.sizeOf22
 v28:=Tryz.zeroValue22
 t46:=Tryz.underlying126
 a46:=Tryz.isAgg126
 z46:=Tryz.sizeOf126
 v46:=Tryz.zeroValue126
 t51:=Tryz.underlying158
 a51:=Tryz.isAgg158
 z51:=Tryz.sizeOf158
 v51:=Tryz.zeroValue158
 t53:=Tryz.underlying55
 a53:=Tryz.isAgg55
 z53:=Tryz.sizeOf55
 v53:=Tryz.zeroValue55
 t131:=Tryz.underlying155
 a131:=Tryz.isAgg155
 z131:=Tryz.sizeOf155
 v131:=Tryz.zeroValue155
 t182:=Tryz.underlying151
 a182:=Tryz.isAgg151
 z182:=Tryz.sizeOf151
 v182:=Tryz.zeroValue151
 t183:=Tryz.underlying152
 a183:=Tryz.isAgg152
 z183:=Tryz.sizeOf152
 v183:=Tryz.zeroValue152
 t218:=Tryz.underlying174
 a218:=Tryz.isAgg174
 z218:=Tryz.sizeOf174
 v218:=Tryz.zeroValue174
 t222:=Tryz.underlying178
 a222:=Tryz.isAgg178
 z222:=Tryz.sizeOf178
 v222:=Tryz.zeroValue178
 t228:=Tryz.underlying181
 a228:=Tryz.isAgg181
 z228:=Tryz.sizeOf181
 v228:=Tryz.zeroValue181
 t229:=Tryz.underlying117
 a229:=Tryz.isAgg117
 z229:=Tryz.sizeOf117
 v229:=Tryz.zeroValue117 }
def laysNm215_ren:Go.Shelf.Ren:=⟨fun|15=>64|n=>n,fun|22=>22|3=>3|4=>4|n=>n,fun|n=>n⟩
theorem Ze:Go.Proofs.Lays2.n15 Tryz.prog laysNm215_ren:={
 mixed:=by kernel_rfl
 f15:=Tryz.func64.trans (Bq some (by kernel_rfl))
 t3:=Tryz.underlying3
 a3:=Tryz.isAgg3
 z3:=Tryz.sizeOf3
 v3:=Tryz.zeroValue3
 t4:=Tryz.underlying4
 a4:=Tryz.isAgg4
 z4:=Tryz.sizeOf4
 v4:=Tryz.zeroValue4
 t22:=Tryz.underlying22
 a22:=Tryz.isAgg22
 z22:=Tryz.sizeOf22
 v22:=Tryz.zeroValue22
 i3:=by kernel_rfl }
def laysNm220_ren:Go.Shelf.Ren:=⟨fun|20=>66|n=>n,fun|22=>22|3=>3|4=>4|0=>0|n=>n,fun|n=>n⟩
theorem laysNm220:Go.Proofs.Lays2.n20 Tryz.prog laysNm220_ren:={
 mixed:=by kernel_rfl
 f20:=Tryz.func66.trans (Bq some (by kernel_rfl))
 t0:=Tryz.underlying0
 a0:=Tryz.isAgg0
 z0:=Tryz.sizeOf0
 v0:=Tryz.zeroValue0
 t3:=Tryz.underlying3
 a3:=Tryz.isAgg3
 z3:=Tryz.sizeOf3
 v3:=Tryz.zeroValue3
 t4:=Tryz.underlying4
 a4:=Tryz.isAgg4
 z4:=Tryz.sizeOf4
 v4:=Tryz.zeroValue4
 t22:=Tryz.underlying22
 a22:=Tryz.isAgg22
 z22:=Tryz.sizeOf22
 v22:=Tryz.zeroValue22
 i3:=by kernel_rfl }
open Go.Sort
section
variable {I:Nat->Nat->Prop} {θ:Nat->Option (Nat×Nat)} {w w':World}
theorem ownRel_nil(I:Nat->Nat->Prop)(θ:Nat->Option (Nat×Nat))(w:World):H4 I (Ah []) θ w:=
 ⟨(fun _ _ _ h=>by cases h),(fun _ _ _ _ h=>by cases h),(fun _ _ _ _ _ h=>(h rfl).elim),(fun _ _ _ _ _ h=>by cases h),(fun _ _ h=>by cases h),(fun _ _ _ h=>by cases h)⟩
theorem repL_one{own:Nat->Option Own}{zs:Array Value}{x:AV}(h:RepL I own θ w zs.toList [x]):∃ v,zs = #[v]/\Rep I own θ w v x:=by
 obtain⟨l⟩:=zs
 cases h with
 | cons h1 h2=>cases h2;exact⟨_,rfl,h1⟩
theorem V3(hb:Below w.heap.size w w')(hval:∀ b o,I b o->∃ u,w.cell? ⟨b,o,none⟩=some u){N:Nat->Nat->Prop}(hN:∀ b o,N b o->w.heap.size<=b/\∃ u,w'.cell? ⟨b,o,none⟩=some u) :
  Chg (Ah []) θ I w (Ah []) θ (fun b o=>I b o\/N b o) w':=
 have hcell:∀ b o,I b o->w'.cell? ⟨b,o,none⟩=w.cell? ⟨b,o,none⟩:=fun b o hi=>by
  obtain⟨u,hu⟩:=hval b o hi;exact Abe (a:=⟨b,o,none⟩) (hb.block b (M4 hu))
 {imm:=fun _ _ h=>.inl h,cell:=hcell,le:=fun _ _ h=>(by cases h),rel:=ownRel_nil _ _ _,
  valid:=fun b o hi=>by
   rcases hi with hi|hi
   ·obtain⟨u,hu⟩:=hval b o hi;exact⟨u,(hcell b o hi).trans hu⟩
   ·exact(hN b o hi).2,
  os:=hb.os,tape:=hb.tape,output:=hb.output,drawn:=fun h=>h.elim,grow:=hb.size,frame:=fun b hlt _=>hb.block b hlt,new:=fun _ _ _ h=>(h rfl).elim,
  immNew:=fun b o hi=>by
   rcases hi with hi|hi
   ·exact .inl hi
   ·exact .inr (.inl (hN b o hi).1) }
end
theorem Xq{w W:World}{g n:Nat}{os:Array Obj}{d:Array Int}(hb:Below w.heap.size w W)(hg:w.heap.size<=g):Below w.heap.size w (grow (putRow (Value.int .i64) (Sort.ahead W n) g 0 d) os):=by
 have k:=grownBy_sortedI (w:=W) (g:=g) (n:=n) (os:=os) d;refine hb.trans ⟨k.os,k.tape,k.output,k.size,fun b hlt=>k.block b (Nat.lt_of_lt_of_le hlt hb.size) (fun e=>?_)⟩;have:=OI e;omega
def Own3(w W:World)(g cap n:Nat)(zs:List Int):Prop:=
 Below w.heap.size w W/\w.heap.size<=g/\∃ cur,W.heap[g]?=some (.cells cur 3 (0,0))/\n<=cap/\cap<=maxLen/\cur.size=cap/\cur.toList.take zs.length=zs.map (Value.int .i64)/\zs.length=n
theorem own3_of{w W:World}{v:Value}{n:Nat}{zs:List Int}(h:W.ownsRow w.heap.size 3 1 v n (zs.map (Value.int .i64)))(hne:v≠.slice none 0 0)(hb:Below w.heap.size w W):∃ g cap,v = .slice (some ⟨g,0,none⟩) n cap/\Own3 w W g cap n zs:=by
 have hl:zs.length=n:=by have:=h.1;simpa using this
 rcases h.2 with⟨rfl,_⟩|⟨g,cap,cur,rfl,hg,hcur,hcap,hmax,hsz,ht⟩
 ·exact(hne rfl).elim
 ·rw[So]at hsz ht;exact⟨g,cap,rfl,hb,hg,cur,hcur,hcap,hmax,hsz,by rw[hl];exact ht,hl⟩
theorem c_clone0(ad:Addr)(c:Nat)(w:World):Calls Tryz.prog 64 #[.slice (some ad) 0 c] w fun e W=>∃ g cap,e = .returned (.slice (some ⟨g,0,none⟩) 0 cap)/\Own3 w W g cap 0 []:=
 (Any.slices_Clone_int_zero Ze ad c w).mono fun e W ⟨v,he,hown,hne,hb⟩=>by
  obtain⟨g,cap,rfl,h⟩:=own3_of (zs:=[]) hown hne hb;exact⟨g,cap,he,h⟩
theorem c_clone(b off n c:Nat)(zs:List Int)(w:World)(hz:zs.length=n)(hbig:n<=17592186044416)(hc:∀ j,j<n->w.cell? ⟨b,off+j,none⟩=some (.int .i64 (zs.getD j 0))) :
  Calls Tryz.prog 64 #[.slice (some ⟨b,off,none⟩) n c] w fun e W=>∃ g cap,e = .returned (.slice (some ⟨g,0,none⟩) n cap)/\Own3 w W g cap n zs:=
 (Any.slices_Clone_int Ze b off n c zs w (by omega) (by omega) (fun j hj=>hc j (by omega))).mono fun e W ⟨v,he,hown,hne,hb⟩=>by
  rw[show zs.take n=zs by rw[<- hz];exact Uv ..]at hown;obtain⟨g,cap,rfl,h⟩:=own3_of hown hne hb;exact⟨g,cap,he,h⟩
theorem c_sort{w W:World}{g cap n:Nat}{zs:List Int}(h:Own3 w W g cap n zs)(hbig:n<=17592186044416):Calls Tryz.prog 65 #[.slice (some ⟨g,0,none⟩) n cap] W fun e W2=>e = .returned (.tuple #[])/\Own3 w W2 g cap n (zs.mergeSort fun x y=>decide (x<=y)):=by
 obtain⟨hb,hg,cur,hcur,hcap,hmax,hsz,ht,rfl⟩:=h;refine(Any.slices_Sort_int lays189 g 0 cap zs W (holds_of_blockI hcur ht) (Vg hcur) (by omega)).mono fun e W2 ⟨he,q,os,hW⟩=>⟨he,?_⟩;subst hW;have hl:(zs.mergeSort fun x y=>decide (x<=y)).length=zs.length:=List.length_mergeSort ..;have b2:=Xq (n:=q) (os:=os) (d:=(zs.mergeSort fun x y=>decide (x<=y)).toArray) hb hg;exact⟨b2,hg,_,heap_sortedI _ hcur,hcap,hmax,by simp[putCells,hsz],take_putCellsI cur _ (by omega),hl⟩
theorem c_compact{w W:World}{g cap n:Nat}{zs:List Int}(h:Own3 w W g cap n zs)(hbig:n<=17592186044416):Calls Tryz.prog 66 #[.slice (some ⟨g,0,none⟩) n cap] W fun e W2=>e = .returned (.slice (some ⟨g,0,none⟩) (Lib.compact zs).length cap)/\Own3 w W2 g cap (Lib.compact zs).length (Lib.compact zs):=by
 obtain⟨hb,hg,cur,hcur,hcap,hmax,hsz,ht,rfl⟩:=h;refine(Any.slices_Compact_int laysNm220 g 0 cap zs W (holds_of_blockI hcur ht) (by omega) hcap).mono fun e W2 ⟨he,q,hW⟩=>⟨he,?_⟩;subst hW;have hcl:=Lib.compact_length_le zs
 generalize Lib.compact zs=cs at hcl ⊢
 generalize hts:cs++List.replicate (zs.length-cs.length) (0:Int)=ts
 have htl:ts.length=zs.length:=by rw[<- hts,Fb,Pf];omega
 have b2:=Xq (n:=q) (os:=#[]) (d:=ts.toArray) hb hg;have h2:=heap_sortedI (n:=q) (os:=#[]) ts.toArray hcur;rw[grow_empty]at b2 h2;have h3:=take_putCellsI cur ts (by omega);refine⟨b2,hg,_,h2,by omega,hmax,by simp[putCells,hsz],?_,rfl⟩;have:=Bq (List.take cs.length) h3;rw[List.take_take,Nat.min_eq_left (by omega),<- List.map_take,<- hts,List.take_left' rfl]at this;rw[<- hts];exact this
def IntsOut(w w':World)(v:Value)(r:List Int):Prop:=
 (v = .slice none 0 0/\r=[])\/∃ g cap,v = .slice (some ⟨g,0,none⟩) r.length cap/\Own3 w w' g cap r.length r
set_option maxHeartbeats 4000000 in
set_option maxRecDepth 100000 in
theorem w_rising(a:Option Addr)(n c:Nat)(zs:List Int)(w:World)(hz:zs.length=n)(hn:a=none->n=0)(hbig:n<=17592186044416)
  (hc:0<n->∃ b off,a=some ⟨b,off,none⟩/\∀ j,j<n->w.cell? ⟨b,off+j,none⟩=some (.int .i64 (zs.getD j 0))) :
  Calls Tryz.prog 38 #[.slice a n c] w fun e w'=>∃ v,e = .returned v/\Below w.heap.size w w'/\IntsOut w w' v (Lib.compact (zs.mergeSort fun x y=>decide (x<=y))):=by
 cases a with
 | none=>
  obtain rfl:=hn rfl;obtain rfl:zs=[]:=zzL92.1 hz
  have hr:Lib.compact (([]:List Int).mergeSort fun x y=>decide (x<=y))=[]:=by simp[Lib.compact,Lib.compactUpTo]
  rw[hr];have h1:Calls Tryz.prog 64 #[.slice none 0 c] w fun e w'=>e = .returned (.slice none 0 0)/\w'=w:=Any.slices_Clone_int_nil Ze 0 c w;have h2:Calls Tryz.prog 65 #[.slice none 0 0] w fun e w'=>e = .returned (.tuple #[])/\w'=w:=Any.slices_Sort_int_none lays189 none 0 w;have h3:Calls Tryz.prog 66 #[.slice none 0 0] w fun e w'=>e = .returned (.slice none 0 0)/\w'=w:=Any.slices_Compact_int_empty laysNm220 none 0 w
  go_enter Tryz.func38,Tryz.ntmps38
  go_wp2_with (first
   | (go_at_call 64;refine h1.mono ?_;rintro e W ⟨rfl,rfl⟩)
   | (go_at_call 65;refine h2.mono ?_;rintro e W ⟨rfl,rfl⟩)
   | (go_at_call 66;refine h3.mono ?_;rintro e W ⟨rfl,rfl⟩))
  go_ret
  exact⟨_,rfl,Below.refl _ _,.inl ⟨rfl,rfl⟩⟩
 | some ad=>
  have h1:Calls Tryz.prog 64 #[.slice (some ad) n c] w fun e W=>∃ g cap,e = .returned (.slice (some ⟨g,0,none⟩) n cap)/\Own3 w W g cap n zs:=by
   by_cases h0:n=0
   ·subst h0;obtain rfl:zs=[]:=zzL92.1 hz;exact c_clone0 ad c w
   ·obtain⟨b,off,hab,hcell⟩:=hc (by omega);obtain rfl:=OI hab;exact c_clone b off n c zs w hz hbig hcell
  go_enter Tryz.func38,Tryz.ntmps38
  go_wp2_with (first
   | (go_at_call 64;refine h1.mono ?_;rintro e W ⟨g,cap,rfl,hO⟩)
   | (go_at_call 65;refine(c_sort hO hbig).mono ?_;rintro e W2 ⟨rfl,hO2⟩)
   | (go_at_call 66;refine(c_compact hO2 hbig).mono ?_;rintro e W3 ⟨rfl,hO3⟩))
  go_ret
  exact⟨_,rfl,hO3.1,.inr ⟨_,_,rfl,hO3⟩⟩
def insI(x:Int):List Int->List Int
 | []=>[x]
 | y::l=>if x<=y then x::y::l else y::insI x l
def isoI:List Int->List Int
 | []=>[]
 | x::l=>insI x (isoI l)
theorem insI_perm(x:Int):∀ l,(insI x l).Perm (x::l)
 | []=>.refl _
 | y::l=>by
  unfold insI
  split
  ·exact .refl _
  ·exact((insI_perm x l).cons y).trans (.swap x y l)
theorem insI_pw{x:Int}:∀{l:List Int},l.Pairwise (·<=·)->(insI x l).Pairwise (·<=·)
 | [],_=>by simp[insI]
 | y::l,h=>by
  have h':=zzL107.1 h;unfold insI
  split
  ·rename_i hxy
   exact zzL107.2 ⟨fun z hz=>by
    rcases zzL28.1 hz with rfl|hz
    ·exact hxy
    ·exact Int.le_trans hxy (h'.1 z hz),h⟩
  ·rename_i hxy
   refine zzL107.2 ⟨fun z hz=>?_,insI_pw h'.2⟩;rcases zzL28.1 ((insI_perm x l).mem_iff.1 hz) with rfl|hz
   ·omega
   ·exact h'.1 z hz
theorem isoI_perm:∀ l,(isoI l).Perm l
 | []=>.refl _
 | x::l=>(insI_perm x _).trans ((isoI_perm l).cons x)
theorem isoI_pw:∀ l,(isoI l).Pairwise (·<=·)
 | []=>.nil
 | x::l=>insI_pw (isoI_pw l)
theorem isoI_eq(l:List Int):isoI l=l.mergeSort fun x y=>decide (x<=y):=by
 refine List.Perm.eq_of_pairwise (le:=(·<=·)) (fun a b _ _ h1 h2=>Int.le_antisymm h1 h2) (isoI_pw l) ?_ ((isoI_perm l).trans (List.mergeSort_perm l _).symm);have:=List.pairwise_mergeSort (le:=fun(x y:Int)=>decide (x<=y)) (fun a b c h1 h2=>by simp at *;omega) (fun a b=>by simp;omega) l
 exact this.imp fun h=>by simpa using h
def Yo(l:List Int):Option (List Int):=Bw (l.length<=17592186044416) (some (Lib.compact (isoI l)))
theorem xok_rising(l r:List Int)(h:Yo l=some r):Spec Tryz.prog 38 [AV.list 1 (fun x=>[.int .i64 x]) (0:Int) l .none] [] (AV.list 1 (fun x=>[.int .i64 x]) (0:Int) r .none) []:=by
 obtain⟨hlen,h⟩:=Aa h;rw[isoI_eq]at h;obtain rfl:=OI h;refine⟨enters_of Tryz.func38 (by kernel_rfl) rfl,fun w I θ zs hargs _ hval _=>?_⟩;obtain⟨v,rfl,hv⟩:=repL_one hargs;obtain⟨_,a,cap,us,rfl,hcap,hmax,hz,hnn,h1,hl,hr⟩:=hv.slice_val.slice_inv
 have hint:∀ i,i<l.length->us i = .int .i64 (l.getD i 0):=fun i hi=>by
  have:=hr i 0 hi (by omega);rw[So,Mq]at this;have h2:RepV I w (us i) (.int .i64 (l.getD i 0)):=this;exact Rep.int_inv (own:=Ah []) (θ:=θ) (.val _ _ h2)
 refine(w_rising a l.length cap l w rfl (fun ha=>by have:=hnn ha;omega) hlen (fun hp=>?_)).mono fun e w' ⟨v,he,hb,hout⟩=>?_
 ·obtain⟨b,rfl,hs,_,hcell⟩:=hz hp;obtain⟨blk,off,spot⟩:=b;simp only at hs hcell;subst hs;exact⟨blk,off,rfl,fun j hj=>by rw[hcell j (by omega),hint j hj]⟩
 ·generalize Lib.compact (l.mergeSort fun x y=>decide (x<=y))=r at hout ⊢
  rcases hout with⟨rfl,rfl⟩|⟨g,cap',rfl,_,hg,cur,hcur,hc1,hc2,hc3,htake,_⟩
  ·exact⟨_,_,θ,he,V3 hb hval (N:=fun _ _=>False) (fun _ _ h=>h.elim),.val _ _ (.slice none 0 0 1 _ (fun _=>undef) (zzL8 _) (N7 _) (fun h=>by cases h) (fun _=>rfl) (fun j hj=>by simp at hj) (fun i hi=>by cases hi) (fun i c hi=>by cases hi))⟩
  ·have hcell:∀ j,j<r.length->w'.cell? ⟨g,j,none⟩=some (.int .i64 (r.getD j 0)):=fun j hj=>by
    rw[K3 _ _ _ cur 3 (0,0) hcur]
    have h2:(cur.toList.take r.length)[j]?=(r.map (Value.int .i64))[j]?:=by rw[htake]
    rw[List.getElem?_take_of_lt hj,zzL120]at h2;rw[h2];simp[List.getD,hj]
   refine⟨_,_,θ,he,V3 hb hval (N:=fun b o=>b=g/\o<r.length) (fun b o ⟨hbg,ho⟩=>⟨by omega,by subst hbg;exact⟨_,hcell o ho⟩⟩),.val _ _ (.slice (some ⟨g,0,none⟩) r.length cap' 1 _ (fun j=>.int .i64 (r.getD j 0)) hc1 hc2 (fun _=>⟨⟨g,0,none⟩,rfl,rfl,fun j hj=>.inr ⟨rfl,by simpa using hj⟩,fun j hj=>by rw[Fl];exact hcell j (by omega)⟩) (fun h=>by cases h) (fun _ _=>rfl) (fun _ _=>rfl) (fun i c hi hc=>?_))⟩
   obtain rfl:c=0:=by omega
   rw[So,Mq];exact .int _ _
def Gn:=[30000,37006,9100005]
def V0:=[(30000,30000),(37006,37006),(9100005,9100005)]
def Gt:=[30000,37006]
def Ny:=[3,30000,37006,9100005]
def Lu:=[2,5,6,25,36007]
def Qm:=[6,30000,37006,9100005]
def zzN6:=[(30000,30000),(37006,37006)]
def Lv:=[2,13,21]
def Sq:=[8,30000,37006]
def Oi:=[1,7,8,9]
def Ta:=[30000,37006,13000005]
def Yt:=[3,5,30000,37006,9100005]
def Yu:=[0,4,6,21,22,30,31,32]
def Wi:=[2,5,6,7,26,27,28]
def Wj:=[1,3,5,21,22,23]
def Abj:=[5,30000,37006,9100005]
def zzN16:=[0,2,3,8,9,16,17,18,54,55,56,62,63,64]
def G3:=[2,3]
def zzN18:=[0,2,3,5,16,17,18,24,25,26,31,32,33]
def Ij:=[3,14]
def U4:=[1,2,24,70024]
def Wk:=[2,5,6,7,8,9]
def Yv:=[2,8,9,24,70024]
def zzN23:=[3,9,30000,37006,9100005]
def U5:=[2,5,6,7,8]
def U6:=[1,3,4,5,6]
def zzN26:=[0,2,3,16,17,18,24,25,26]
def zzN27:=[0,2,3,16,17,18,54,55,56]
def zzN28:=[(30000,30000),(37006,37006),(13000005,9200005)]
def Ip:=[0,1]
def zzN30:=[(30000,30000),(37006,37006),(9300005,9200005)]
def zzN31:=[1,3,5,6,7,21,22,23,50,51,52]
def P3:=[10,70010]
def Nq:=[1,3,4]
def Wl:=[1,3,7,5005]
def zzN35:=[1,3,5,6,7,21,22,23,50,51]
def zzN36:=[1,3,5,6,7,10,11,21,22,23,50,51]
def zzN37:=[1,3,5,6,7,10,21,22,23,50,51,63]
def Abk:=[1,7,8,9,10]
def K4:=[1,2]
def zzN40:=[3,31,30000,37006]
def zzN41:=[2,6,17,18,19]
def Yw:=[3,8,22,29]
def Abl:=[1,6,7,8,9]
def zzN44:=[3,4,11,12,13,18,19,20]
def zzN45:=[0,5,12,13,14,18,19,20]
def zzN46:=[1,2,4,5,26,27,28]
def zzN47:=[6,7,30000,37006,9100005]
def Ml:=[1,3]
def zzN49:=[1,3,5,6,7,9,21,22,23,50,51]
def zzN50:=[1,3,7,10,5005]
def zzN51:=[1,7,8,9,16]
def Wm:=[0,21,22]
def zzN53:=[31,30000,37006]
def Yx:=[0,1,7,8]
def Yy:=[1,3,5005]
def zzN56:=[0,2,3,16,17,18]
def zzN57:=[2,3,4,10,11,12]
def zzN58:=[0,4,6,21,22,30,31,32,33]
def zzN59:=[0,4,6,21,22,30,31,32,40]
def zzN60:=[3,4,13,14]
def zzN61:=[0,5,8,9,10]
def zzN62:=[0,4,6,8,21,22,30,31,32]
def zzN63:=[2,3,7,8,9,10]
def zzN64:=[(30000,30000),(37006,37006),(8,9200005)]
def zzN65:=[2,4,5,8,9,10,55]
def Wn:=[2,5,6]
def zzN67:=[0,16,17,18]
def zzN68:=[2,5,6,7,8,9,10]
def Abm:=[10,34000]
def zzN70:=[6,8,30000,37006,9100005]
def zzN71:=[3,30000,37006]
def zzN72:=[2,4,5,18,19,20]
def zzN73:=[0,6,8,9,10,11,12,13]
def Yz:=[2,3,4]
def Re:=[0,3]
def zzN76:=[2,4,5,8,9,10]
def zzN77:=[3,11,12,13]
def zzN78:=[0,12,13,14]
def zzN79:=[6,18,19,25]
def zzN80:=[2,3,7,8,9]
def zzN81:=[2,5,6,7]
def zzN82:=[18,19,20]
def Abn:=[2,5006]
def Abo:=[3,5004]
def Wo:=[2,16]
def zzN86:=[0,1,10]
def zzN87:=[2,5,6,7,9,10,26,27,28,44]
def zzN88:=[1,4,22]
def zzN89:=[30000,37006,9300005]
def zzN90:=[0,1,5,6,8,9,10]
def zzN91:=[3,22,29]
def zzN92:=[3,5,6,7,8,9,10]
def zzN93:=[0,1,3,9,10]
def zzN94:=[1,2,5]
def zzN95:=[0,1,5,14,15,16]
def zzN96:=[2,5,6,7,9,10,26,27,28]
def zzN97:=[3,10,11,12]
def zzN98:=[0,15,16,17]
def zzN99:=[0,21,22,23]
def zzN100:=[0,6,8,9,11,49]
def zzN101:=[(6002,20000)]
def zzN102:=[2,3,7,8]
def zzN103:=[0,10,11,12]
def zzN104:=[1,2,4,5,6,7,26,27,28]
def zzN105:=[0,1,5,7,8,16]
def zzN106:=[2,5,6,7,26,27,28,29]
def zzN107:=[3,9,10,11]
def zzN108:=[5,18,19]
def zzN109:=[6,18,19]
def zzN110:=[1,2,15,16,17]
def zzN111:=[2,5,6,7,9,26,27,28]
def zzN112:=[0,1,32,33,34]
def zzN113:=[10,30000,37006,9100005]
def zzN114:=[1,3,7,9,5005]
def zzN115:=[2,8,9,24,60024,70024]
def zzN116:=[2,5,6,25]
def zzN117:=[2,5,6,7,8,9,10,60]
def zzN118:=[4,30000,37006,9100005]
def zzN119:=[0,3,4,14,15]
def zzN120:=[0,4,6,21,22]
def zzN121:=[1,4,9,10,11]
def zzN122:=[1,2,4,5]
def zzN123:=[0,2,7,8]
def zzN124:=[0,1,5,6]
def zzN125:=[(34001,34001)]
def Aai:=[18,19]
def zzN127:=[1,3,4,5]
def zzN128:=[1,3,4,6]
def zzN129:=[5,6,7]
def zzN130:=[1,23,24,25]
def zzN131:=[0,1,2]
def zzN132:=[(6004,20000)]
def zzN133:=[0,1,5]
def zzN134:=[3,38,39,40]
def zzN135:=[0,37,38,39]
def zzN136:=[0,1,7,8,9]
def zzN137:=[0,1,5,7,8]
def zzN138:=[1,2,3]
def zzN139:=[2,4,5,8,9]
def zzN140:=[3,5,6,7,8]
def zzN141:=[0,1,12,13]
def zzN142:=[0,6,21,22]
def zzN143:=[(20000,9)]
set_option maxRecDepth 100000
set_option maxHeartbeats 2000000
def Ar(x:Int):List AV:=[(.int .i64 x)]
def Gp(x:List Int):List AV:=[(AV.list 1 Ar 0 x .none)]
structure Hg where
 Bits:Int
 Dst:Int
 From:List Int
 Args:List Int
 deriving Inhabited,DecidableEq
def Xu(x:Hg):List AV:=[(.int .i64 x.Bits),(.int .i64 x.Dst),(AV.list 1 Ar 0 x.From .none),(AV.list 1 Ar 0 x.Args .none)]
def eLTPhi(x:List Hg):List AV:=[(AV.list 4 Xu default x .none)]
def eU64(x:Int):List AV:=[(.int .u64 x)]
structure E7 where
 Kind:Int
 Bits:Int
 Lanes:Int
 Dst:Int
 Args:List Int
 Imm:Int
 deriving Inhabited,DecidableEq
def J8(x:E7):List AV:=[(.int .i64 x.Kind),(.int .i64 x.Bits),(.int .i64 x.Lanes),(.int .i64 x.Dst),(AV.list 1 Ar 0 x.Args .none),(.int .u64 x.Imm)]
def eLTOp(x:List E7):List AV:=[(AV.list 6 J8 default x .none)]
structure I4 where
 Kind:Int
 Arg:Int
 To:List Int
 deriving Inhabited,DecidableEq
def eTEnd(x:I4):List AV:=[(.int .i64 x.Kind),(.int .i64 x.Arg),(AV.list 1 Ar 0 x.To .none)]
structure Ad where
 Phis:List Hg
 Ops:List E7
 End:I4
 deriving Inhabited,DecidableEq
def Gg(x:Ad):List AV:=[(AV.list 4 Xu default x.Phis .none),(AV.list 6 J8 default x.Ops .none),(.int .i64 x.End.Kind),(.int .i64 x.End.Arg),(AV.list 1 Ar 0 x.End.To .none)]
def eLTBlock(x:List Ad):List AV:=[(AV.list 5 Gg default x .none)]
structure TFunc where
 Params:List Int
 Ret:Int
 Blocks:List Ad
 deriving Inhabited,DecidableEq
def eTFunc(x:TFunc):List AV:=[(AV.list 1 Ar 0 x.Params .none),(.int .i64 x.Ret),(AV.list 5 Gg default x.Blocks .none)]
structure Ac where
 At:Int
 Then:Int
 Else:Int
 Join:Int
 deriving Inhabited,DecidableEq
def Co(x:Ac):List AV:=[(.int .i64 x.At),(.int .i64 x.Then),(.int .i64 x.Else),(.int .i64 x.Join)]
def Bz(x:(Int×Int)):List AV:=[(.int .i64 x.1),(.int .i64 x.2)]
structure Gu where
 block:Int
 at_:Int
 deriving Inhabited,DecidableEq
def eTplace(x:Gu):List AV:=[(.int .i64 x.block),(.int .i64 x.at_)]
structure Ao where
 v:Int
 shape:(Int×Int)
 place:Gu
 deriving Inhabited,DecidableEq
def Kk(x:Ao):List AV:=[(.int .i64 x.v),(.int .i64 x.shape.1),(.int .i64 x.shape.2),(.int .i64 x.place.block),(.int .i64 x.place.at_)]
structure Ap where
 Succ:List (List Int)
 Pred:List (List Int)
 deriving Inhabited,DecidableEq
def eTGraph(x:Ap):List AV:=[(AV.list 1 Gp [] x.Succ .none),(AV.list 1 Gp [] x.Pred .none)]
def eB(x:Bool):List AV:=[(.bool x)]
structure Af where
 shape:(Int×Int)
 place:Gu
 deriving Inhabited,DecidableEq
def eTvalue(x:Af):List AV:=[(.int .i64 x.shape.1),(.int .i64 x.shape.2),(.int .i64 x.place.block),(.int .i64 x.place.at_)]
structure J6 where
 V:Int
 Block:Int
 At:Int
 Shape:(Int×Int)
 deriving Inhabited,DecidableEq
structure Qp where
 V:Int
 Block:Int
 At:Int
 Shape:(Int×Int)
 deriving Inhabited,DecidableEq
def eA64B(x:List Bool):List AV:=Ty 64 (fun i=>eB (x.getD i false))
theorem mix:Tryz.prog.follows .mixedOrders=true:=by kernel_rfl
def Fd:List Ad:=([(⟨([]:List Hg),([]:List E7),(⟨(2:Int),(1:Int),([(1:Int),(2:Int)]:List Int)⟩:I4)⟩:Ad),(⟨([]:List Hg),([(⟨(7:Int),(1:Int),(1:Int),(2:Int),([(1:Int),(1:Int)]:List Int),(0:Int)⟩:E7)]:List E7),(⟨(1:Int),(0:Int),([(3:Int)]:List Int)⟩:I4)⟩:Ad),(⟨([]:List Hg),([]:List E7),(⟨(1:Int),(0:Int),([(3:Int)]:List Int)⟩:I4)⟩:Ad),(⟨([]:List Hg),([]:List E7),(⟨(0:Int),(1:Int),([]:List Int)⟩:I4)⟩:Ad)]:List Ad)
def Z1:=fun za zb zc zd zf zg zm=>((30000,.row 103 [(AV.list 1 Ar 0 za .none),(.int .i64 zb),(AV.list 5 Gg default zc .none),(.int .i64 zd),(AV.list 1 Ar 0 zf .none),(.omap zg),(AV.list 5 Kk default zm (.own 37006))]):Nat×Own)
def Z2:=fun za=>(⟨[],[],(.bool za),[],[],[]⟩:Rj)
def Z3:=fun za zb zc zd zf zg zm=>([(30000,.row 103 [(AV.list 1 Ar 0 za .none),(.int .i64 zb),(AV.list 5 Gg default zc .none),(.int .i64 zd),(AV.list 1 Ar 0 zf .none),.nilm,(AV.list 5 Kk default zg (.own 37006))]),(37006,.tok 5 149 zm)]:List (Nat×Own))
def Z4:=fun za (zb:List Int)=>((za,.arr 1 3 zb.length (fun i=>Ar (zb.getD i 0))):Nat×Own)
def Z5:=fun za=>((AV.list 1 Gp [] za .none):AV)
def Z6:=fun za=>((AV.list 2 Bz ((0:Int),(0:Int)) za .none):AV)
def Z7:=fun za=>((.int .i64 za):AV)
def Z8:=fun za=>((AV.list 1 Ar 0 za .none):AV)
def Z9:=fun za zb zc zd=>((za,.arr 1 22 zb (Gf 1 Ar (0:Int) zc (Tag.fam zd))):Nat×Own)
def Z10:=fun za zb zc zd zf zg zm zn=>([(Z1 za zb zc zd zf 9100005 zg),(37006,.tok 5 149 zm),(9100005,.obj (.map false .i64 zn))]:List (Nat×Own))
def Pi:=fun za=>((37006,.tok 5 149 za):Nat×Own)
def Z12:=fun za zb zc=>((.clo 60 [] [(.rpo [(AV.list 5 Gg default za .none)]),(.rpo [(Z5 zb)]),(.rpo [(Z7 zc)])]):AV)
def Z13:=fun za zb zc=>(⟨[],[(20000,za)],(AV.list 1 Ar 0 zb (.own 20000)),[(20000,.tok 1 3 zc)],[],[]⟩:Rj)
def Z14:=fun za zb zc zd zf zg zm zn zp zq=>(⟨[(2,(.ptr 2 0)),(4,za),(5,(.vsl 24 zb)),(8,(.vpt 8 64 0 0)),(9,(.ptr 9 0)),(10,(Z7 zc))],[(2,.row 41 zd),(8,.arr 1 83 64 zf),(9,.row 41 zg),(24,.arr 1 22 zb (fun i_=>AV.eraseAll (fun n_=>Cc n_ [2,8,9,24,60024,70024]) ((Jf (Gf 1 Ar (0:Int) zm (D4 70024 zn 60024)) zn 0 [(AV.list 1 Ar 0 (zp++zq) (.own 60024))]) i_))),(60024,.tok 1 3 ((zp++zq).length))],[(70024,⟨1,3,L3 zm zn⟩)]⟩:St)
def Z15:=fun za (zb:List Int) (zc:List Int)=>((.slice 1 (bif za then zb.length else zc.length) (fun i=>bif za then Ar (zb.getD i 0) else Ar (zc.getD i 0)) .none):AV)
def Td:=((.int .i64 (0:Int)):AV)
def Z17:=fun za (zb:List Bool)=>((za,.arr 1 4 zb.length (fun i=>eB (zb.getD i false))):Nat×Own)
def Z18:=((.slice 0 0 (fun _=>[]) .exact):AV)
def Z19:=((AV.list 1 Ar 0 ([]:List Int) .exact):AV)
def Z20:=fun za zb zc zd zf zg zm zn=>(⟨[(30000,30000),(37006,37006),(9100005,9100005)],[],(.tuple []),(Z10 za zb zc zd zf zg zm zn),[],[]⟩:Rj)
def Z21:=fun za=>((AV.list 5 Gg default za .none):AV)
def Oj:=((2,(.ptr 2 0)):Nat×AV)
def Z23:=fun za (zb:List Ao) (zc:List Ao)=>((.slice 5 (bif za then zb.length else zc.length) (fun i=>bif za then Kk (zb.getD i default) else Kk (zc.getD i default)) (.own 37006)):AV)
def Z24:=fun za zb=>([(66,(AV.list 4 Co default ([za]:List Ac) .exact)),(67,(AV.list 4 Co default (zb++([za]:List Ac)) (.own 5005)))]:List (Nat×AV))
def Z25:=((AV.list 1 Gp [] ([]:List (List Int)) .exact):AV)
def Z26:=fun za zb=>((AV.list 1 Ar 0 za (.own zb)):AV)
def Rk:=fun za=>((.agg (eTvalue za)):AV)
def Z28:=fun za zb zc zd zf zg=>((30000,.row 103 [(Z8 za),(Z7 zb),(Z21 zc),(Z7 zd),(Z8 zf),(.omap 8),(AV.list 5 Kk default zg (.own 37006))]):Nat×Own)
def Z29:=fun za=>((AV.list 1 Ar 0 ([za]:List Int) .exact):AV)
def Z30:=((AV.list 1 Gp [] ([]:List (List Int)) .none):AV)
def Z31:=fun za zb zc zd zf zg zm=>([(Z1 za zb zc zd zf 9100005 zg),(Pi zm)]:List (Nat×Own))
def Z32:=fun(za:List Bool)=>([(34000,.arr 1 83 64 (fun i=>eB (za.getD i false)))]:List (Nat×Own))
def Z33:=fun za zb=>((.agg (eTvalue (Fq (default:Af) za zb))):AV)
def Z34:=fun za zb=>(⟨[],[],(.tuple [(.agg (eTGraph za)),(Z7 zb)]),[],[],[]⟩:Rj)
def Z35:=fun za=>(⟨[],[],(Z6 za),[],[],[]⟩:Rj)
def Z36:=fun za zb zc=>(⟨[],[],(.tuple [(Z7 za),(Z7 zb),(.bool zc)]),[],[],[]⟩:Rj)
def Z37:=fun za zb=>(⟨[],[],(.tuple [(.agg (Co za)),(.bool zb)]),[],[],[]⟩:Rj)
def Z38:=fun za zb zc zd zf zg=>([(za,(Z26 zb zc)),(zd,(AV.list 1 Ar 0 zf .exact)),(zg,(AV.list 1 Ar 0 (zb++zf) (.own zc)))]:List (Nat×AV))
def Z39:=fun za zb=>((AV.list 4 Co default za (.own zb)):AV)
def Z40:=fun za zb=>((AV.list 1 Gp [] za (.own zb)):AV)
def Z41:=(⟨[(2,(AV.list 1 Ar 0 ([]:List Int) (.own 6002)))],[(6002,.tok 1 3 (([]:List Int).length))],[]⟩:St)
def Z42:=((AV.list 2 Bz ((0:Int),(0:Int)) ([]:List (Int×Int)) .exact):AV)
def Z43:=fun za=>((.agg (eTGraph za)):AV)
def Z44:=fun za=>(⟨[],[],(Z7 za),[],[],[]⟩:Rj)
def Z45:=fun za=>(⟨[Oj,(3,(.int .i64 (5:Int)))],[(2,.row 41 [za,za])],[]⟩:St)
def Z46:=fun(za:List Bool)=>((3,.arr 1 83 64 (fun i=>eB (za.getD i false))):Nat×Own)
def Z47:=((8,(.vpt 8 64 0 0)):Nat×AV)
def Z48:=((1,(.ptr 1 0)):Nat×AV)
def Z49:=fun za (zb:List Ad) (zc:List Ad)=>((.slice 5 (bif za then zb.length else zc.length) (fun i=>bif za then Gg (zb.getD i default) else Gg (zc.getD i default)) .none):AV)
def Z50:=fun(za:List Int)=>((6,.arr 1 128 64 (fun i=>Ar (za.getD i 0))):Nat×Own)
def Z51:=fun za zb zc zd zf zg zm zn zp=>(⟨[(30000,30000),(37006,37006),(9100005,9100005)],[],(.agg (eTplace za)),(Z10 zb zc zd zf zg zm zn zp),[],[]⟩:Rj)
def Z52:=((.ptr 30000 0):AV)
def Z53:=fun za (zb:List Int) (zc:List Int)=>((.slice 1 (bif (za==true) then zb.length else zc.length) (fun i=>bif (za==true) then Ar (zb.getD i 0) else Ar (zc.getD i 0)) .none):AV)
def Z54:=fun za=>((.int .i64 (za:Int)):AV)
def Z55:=fun za zb zc zd zf=>([(2,.row 41 za),(8,.arr 1 83 64 zb),(9,.row 41 zc),(Z9 24 zd zf 70024)]:List (Nat×Own))
def Z56:=fun za zb zc zd zf zg zm zn=>(⟨[(30000,30000),(37006,37006)],[],(.bool za),(Z3 zb zc zd zf zg zm zn),[],[]⟩:Rj)
def Z57:=((6,(.vpt 6 64 0 0)):Nat×AV)
def Z58:=fun(za:List (Int×Int))=>([(30,.arr 2 88 za.length (fun i=>Bz (za.getD i ((0:Int),(0:Int)))))]:List (Nat×Own))
def Z59:=((5,(.vpt 5 64 0 0)):Nat×AV)
def Z60:=fun za zb zc=>((.int .i64 (bif za then zb else zc)):AV)
def Z61:=fun za zb zc zd=>([(1,.row 41 za),(2,.row 41 zb),(Z9 24 zc zd 70024)]:List (Nat×Own))
def Z62:=fun za=>((.agg (eTFunc za)):AV)
def Z63:=fun za zb zc zd zf zg zm zn zp=>(⟨[(30000,30000),(37006,37006),(9100005,9100005)],[],(.bool za),(Z10 zb zc zd zf zg zm zn zp),[],[]⟩:Rj)
def Z64:=fun za=>(⟨[],[],(.agg (Bz za)),[],[],[]⟩:Rj)
def Z65:=fun za zb=>([(7,(.vsl za zb))]:List (Nat×AV))
def Z66:=fun za zb=>((AV.list 6 J8 default za (.own zb)):AV)
def Z67:=fun za zb=>([(.int .u64 za),(.int .u64 zb)]:List AV)
def Z68:=((9,(.ptr 9 0)):Nat×AV)
def Z69:=fun za=>((6,.arr 1 128 64 za):Nat×Own)
def Z70:=fun za=>((.agg (Co za)):AV)
def Z71:=fun za zb zc=>(⟨[(4,(Z26 za zb))],[(zb,.tok 1 3 zc)],[]⟩:St)
def Z72:=fun za zb=>((5,(.vsl za zb)):Nat×AV)
def Z73:=(⟨[(4,(AV.list 1 Ar 0 ([]:List Int) (.own 6004)))],[(6004,.tok 1 3 (([]:List Int).length))],[]⟩:St)
def Z74:=fun za zb=>(⟨[(30000,30000),(37006,37006)],[],(Z7 za),zb,[],[]⟩:Rj)
def Z75:=fun(za:List (List (Int)))=>([(8,.arr 1 22 za.length (fun i=>Gp (za.getD i [])))]:List (Nat×Own))
def Rf:=fun za zb=>((2,.row za zb):Nat×Own)
def Z77:=fun za zb zc=>(⟨[],[(20000,za)],(Z40 zb 20000),[(20000,.tok 1 22 zc)],[],[]⟩:Rj)
def Z78:=fun za=>((5,.arr 1 82 64 za):Nat×Own)
def Z79:=fun za zb zc=>((24,.arr 1 22 za (Gf 1 Ar (0:Int) zb (D4 70024 zc 60024))):Nat×Own)
def Z80:=fun za=>((AV.list 1 Ar 0 za .exact):AV)

def Q5:AV:=(.int .i64 (1:Int))
def Q9:AV:=Td
def Q7:AV:=Z18
def Q8:AV:=Z19
def Q4:AV:=(AV.list 6 J8 default ([]:List E7) .exact)
def Q3:AV:=(AV.list 4 Xu default ([]:List Hg) .exact)
def Q2:AV:=(AV.list 1 Ar 0 ([(3:Int)]:List Int) .exact)
def Q6:AV:=(AV.list 1 Ar 0 ([(1:Int),(2:Int)]:List Int) .exact)
def Q10:AV:=(AV.list 5 Gg default Fd .exact)
def Q11:=(⟨[(0,(.ptr 0 0))],[(0,.row 25 [(AV.list 1 Ar 0 ([(1:Int)]:List Int) .exact),Q5,Q10])],[]⟩:St)
def Q1:AV:=(AV.list 6 J8 default ([(⟨(7:Int),(1:Int),(1:Int),(2:Int),([(1:Int),(1:Int)]:List Int),(0:Int)⟩:E7)]:List E7) .exact)
def m_locksteplaw14_diamond :Option TFunc:=
 (some (⟨([(1:Int)]:List Int),(1:Int),Fd⟩:TFunc))
theorem Qi  (r:TFunc) (h:m_locksteplaw14_diamond=some r):Spec Tryz.prog 25 [] [] (Z62 r) []:=by
 refine Ab mix Tryz.func25 (fun Γ hq=>?_);unfold m_locksteplaw14_diamond at h;refine Ak hq [0] [0] ?_;refine gR hq [0] [0] [(1,(AV.list 1 Ar 0 ([(1:Int)]:List Int) .exact)),(2,Q6),(4,(.agg [Q3,Q4,(.int .i64 (2:Int)),Q5,Q6])),(5,(AV.list 1 Ar 0 ([(1:Int),(1:Int)]:List Int) .exact)),(7,Q1),(8,Q2),(10,(.agg [Q3,Q1,Q5,Q9,Q2])),(11,Q2),(13,(.agg [Q3,Q4,Q5,Q9,Q2])),(14,(.agg [Q9,Q5,Q8])),(15,(.agg [Q3,Q4,Q9,Q5,Q8])),(16,Q10)] [] (ci (Ca 1 Ar (0:Int) ([(1:Int)]:List Int)) (ci (Ca 1 Ar (0:Int) ([(1:Int),(2:Int)]:List Int)) (ci (show(AVle (.agg [Q7,Q7,(.int .i64 (2:Int)),Q5,Q6]) (.agg [Q3,Q4,(.int .i64 (2:Int)),Q5,Q6])) from(AVle.agg (.cons Gv (.cons Gv (.cons (AVle.refl _) (.cons (AVle.refl _) (.cons (AVle.refl _) .nil))))))) (ci (Ca 1 Ar (0:Int) ([(1:Int),(1:Int)]:List Int)) (ci (Ca 6 J8 (default:E7) ([(⟨(7:Int),(1:Int),(1:Int),(2:Int),([(1:Int),(1:Int)]:List Int),(0:Int)⟩:E7)]:List E7)) (ci (Ca 1 Ar (0:Int) ([(3:Int)]:List Int)) (ci (show(AVle (.agg [Q7,Q1,Q5,Q9,Q2]) (.agg [Q3,Q1,Q5,Q9,Q2])) from(AVle.agg (.cons Gv (.cons (AVle.refl _) (.cons (AVle.refl _) (.cons (AVle.refl _) (.cons (AVle.refl _) .nil))))))) (ci (Ca 1 Ar (0:Int) ([(3:Int)]:List Int)) (ci (show(AVle (.agg [Q7,Q7,Q5,Q9,Q2]) (.agg [Q3,Q4,Q5,Q9,Q2])) from(AVle.agg (.cons Gv (.cons Gv (.cons (AVle.refl _) (.cons (AVle.refl _) (.cons (AVle.refl _) .nil))))))) (ci (show(AVle (.agg [Q9,Q5,Q7]) (.agg [Q9,Q5,Q8])) from(AVle.agg (.cons (AVle.refl _) (.cons (AVle.refl _) (.cons Gv .nil))))) (ci (show(AVle (.agg [Q7,Q7,Q9,Q5,Q8]) (.agg [Q3,Q4,Q9,Q5,Q8])) from(AVle.agg (.cons Gv (.cons Gv (.cons (AVle.refl _) (.cons (AVle.refl _) (.cons (AVle.refl _) .nil))))))) (c1 (Ca 5 Gg (default:Ad) Fd))))))))))))) ?_;refine N9 Q11 ?_;cases h;exact gK (e:=.ret) (J9 [] (show Le Γ _ (⟨[(0,(.ptr 0 0))],[(0,.row 25 [(AV.list 1 Ar 0 ([(1:Int)]:List Int) .none),Q5,(AV.list 5 Gg default Fd .none)])],[]⟩:St) from Le.trans (Du (st':=Q11) [0] [0] hq) (Na (.cons (AVle.refl _) .nil) (.row (.cons AVle.untag (.cons (AVle.refl _) (.cons AVle.untag .nil))) .nil))))
def Jq(a1:TFunc):(Int×Int)->Option (LR (Int×Int) Int):=
 fun((i1,i2):(Int×Int))=>(bif (decide (i2<(a1.Blocks.length:Int))) then(Bw (Bd i2 a1.Blocks.length) (some (.next ((Bb (i1+(Bb ((((a1.Blocks.getD i2.toNat default).Phis).length:Int)+(((a1.Blocks.getD i2.toNat default).Ops).length:Int))))),(Bb (i2+1)))))) else(some (.done i1)))
def Nc(a1:TFunc):Option Int:=
 ((An (Jq a1) ((a1.Blocks.length:Int),(0:Int))).bind (fun x5=>(some x5)))
theorem ok_code_Size(a1:TFunc)(r:Int)(h:Nc a1=some r):Spec Tryz.prog 135 [(Z62 a1)] [] (.int .i64 r) []:=by
 refine Ab mix Tryz.func135 (fun Γ hq=>?_);unfold Nc at h;refine Ak hq [1] [1] ?_;refine Ak hq Ml [1] ?_;refine Ak hq zzN97 [] ?_;obtain⟨x5,hx5,h⟩:=bind_some h;refine gL hq hx5 zzN97 [] (fun u (i1,i2)=>(F4 u [(3,(Z7 i1)),(12,(Z7 i2))] [])) (fun u i3=>aG Γ (.exit 0) (⟨[(3,(Z7 i3))],[],[]⟩:St)) ?_ ?_
 ·rintro⟨i1,i2⟩ y h;unfold Jq at h;refine Ak hq [3,10,11,12,13] [] ?_;refine gC h ?_ ?_<;>intro h
  ·obtain⟨hc4,h⟩:=Aa h;refine gR hq [3,5,10,11,12] [5] [] [] (c1 hc4) ?_;refine Ak hq zzN97 [] ?_;refine Ak hq zzN97 [] ?_;cases h;exact gN Fe
  ·cases h;exact gO (D3 (Du [3] [] hq))
 ·clear hx5;refine gA ?_;refine Ak hq [2] [] ?_;obtain rfl:=OI h;exact Dl []
def F9(aB:List Int):Int->Option (LR Int (Unit ⊕ Bool)):=
 fun(i1:Int)=>(bif (decide (i1<(aB.length:Int))) then(Bw (Bd i1 aB.length) (bif (bif (decide (((aB.getD i1.toNat 0):Int)<0)) then true else(decide (((2147483647:Int):Int)<(aB.getD i1.toNat 0)))) then(some (.done (.inr false))) else(some (.next (Bb (i1+1)))))) else(some (.done (.inl ()))))
def Xl(Γ:Hy)(aB:List Int)(r:Bool):Exit->St->Prop:=fK Tryz.prog Γ Tryz.f136.results.toList [] (.bool r) []
def C0(aB:List Int):Option Bool:=
 ((An (F9 aB) (0:Int)).bind (fun x3=>(match x3 with|(.inl _)=>(some true)|(.inr r5)=>(some r5))))
theorem Fs(aB:List Int)(r:Bool)(h:C0 aB=some r):Spec Tryz.prog 136 [(Z8 aB)] [] (.bool r) []:=by
 refine Ab mix Tryz.func136 (fun Γ hq=>?_);unfold C0 at h;refine Ak hq [0] [] ?_;refine Ak hq zzN129 [] ?_;obtain⟨x3,hx3,h⟩:=bind_some h;refine gL hq hx3 zzN129 [] (fun u i1=>(F4 u [(7,(Z7 i1))] [])) (fun u x_=>match x_ with|(.inl _)=>aG Γ (.exit 0) (⟨[],[],[]⟩:St)|(.inr r_)=>aR (Xl Γ aB r_)) ?_ ?_
 ·intro i1 y h;unfold F9 at h;refine Ak hq [5,6,7,8] [] ?_;refine gC h ?_ ?_<;>intro h
  ·obtain⟨hc2,h⟩:=Aa h;refine gR hq [4,5,6,7] [] [] [] (c1 hc2) ?_;refine gR hq [5,6,7,16] [] [] [] (ci (gI ((decide (((aB.getD i1.toNat 0):Int)<0))==false)) (c1 (Vw (decide (((aB.getD i1.toNat 0):Int)<0))))) ?_;refine gC h ?_ ?_<;>intro h
   ·refine Ak hq [2] [] ?_;cases h;exact gO (Pj (J9 [] (Le.refl _ _)))
   ·refine Ak hq zzN129 [] ?_;cases h;exact gN Fe
  ·cases h;exact gO (D3 (Du [] [] hq))
 ·clear hx3;rcases x3 with _|r5
  ·refine gA ?_;refine Ak hq [2] [] ?_;obtain rfl:=OI h;exact Dl []
  ·refine T0 (fun st' hk=>?_);obtain rfl:=OI h;exact gK hk
def E9(aB:List Int):Option Bool:=
 ((bif ((decide (((aB.length:Int):Int)<=64))==true) then C0 aB else some false).bind fun x1=>(some (bif (decide (((aB.length:Int):Int)<=64)) then x1 else false)))
theorem Kh(aB:List Int)(r:Bool)(h:E9 aB=some r):Spec Tryz.prog 164 [(Z8 aB)] [] (.bool r) []:=by
 refine Ab mix Tryz.func164 (fun Γ hq=>?_);unfold E9 at h;refine Ak hq [0] [] ?_;obtain⟨x1,hx1,h⟩:=bind_some h;refine gR hq [2] [] [] [(Z2 x1)] (ci (gI ((decide (((aB.length:Int):Int)<=64))==true)) (ci (fun(hg:((decide (((aB.length:Int):Int)<=64))==true)=true)=>(Fs aB x1 (C2 hg hx1))) (c1 (Oa (decide (((aB.length:Int):Int)<=64)))))) ?_;cases h;exact Dl []
def Js(aY:Hg):Option Bool:=
 ((C0 ([aY.Bits,aY.Dst]:List Int)).bind fun x1=>((bif (x1==true) then E9 aY.From else some false).bind fun x2=>((bif ((bif x1 then x2 else false)==true) then E9 aY.Args else some false).bind fun x3=>(some (bif (bif x1 then x2 else false) then x3 else false)))))
theorem Abt(aY:Hg)(r:Bool)(h:Js aY=some r):Spec Tryz.prog 155 [(.agg (Xu aY))] [] (.bool r) []:=by
 refine Ab mix Tryz.func155 (fun Γ hq=>?_);unfold Js at h;refine Ak hq [1] [1] ?_;obtain⟨x1,hx1,h⟩:=bind_some h;obtain⟨x2,hx2,h⟩:=bind_some h;obtain⟨x3,hx3,h⟩:=bind_some h;refine gR hq [2] [] [(7,(AV.list 1 Ar 0 ([aY.Bits,aY.Dst]:List Int) .exact))] [(Z2 x1),(Z2 x2),(Z2 x3)] (ci (Ca 1 Ar (0:Int) ([aY.Bits,aY.Dst]:List Int)) (ci (Fs ([aY.Bits,aY.Dst]:List Int) x1 hx1) (ci (gI (x1==true)) (ci (gI (x1==true)) (ci (fun(hg:(x1==true)=true)=>(Kh aY.From x2 (C2 hg hx2))) (ci (Oa x1) (ci (gI ((bif x1 then x2 else false)==true)) (ci (gI ((bif x1 then x2 else false)==true)) (ci (fun(hg:((bif x1 then x2 else false)==true)=true)=>(Kh aY.Args x3 (C2 hg hx3))) (c1 (Oa (bif x1 then x2 else false)))))))))))) ?_;cases h;exact Dl []
def Ed(aB:List Hg):Int->Option (LR Int (Unit ⊕ Bool)):=
 fun(i1:Int)=>(bif (decide (i1<(aB.length:Int))) then(Bw (Bd i1 aB.length) ((Js (aB.getD i1.toNat default)).bind fun x3=>(bif (!x3) then(some (.done (.inr false))) else(some (.next (Bb (i1+1))))))) else(some (.done (.inl ()))))
def Tc(Γ:Hy)(aB:List Hg)(r:Bool):Exit->St->Prop:=fK Tryz.prog Γ Tryz.f154.results.toList [] (.bool r) []
def Fi(aB:List Hg):Option Bool:=
 ((An (Ed aB) (0:Int)).bind (fun x4=>(match x4 with|(.inl _)=>(some true)|(.inr r6)=>(some r6))))
theorem Sb(aB:List Hg)(r:Bool)(h:Fi aB=some r):Spec Tryz.prog 154 [(AV.list 4 Xu default aB .none),(.clo 155 [] [])] [] (.bool r) []:=by
 refine Ab mix Tryz.func154 (fun Γ hq=>?_);unfold Fi at h;refine Ak hq Ip [] ?_;refine Ak hq Oi [] ?_;obtain⟨x4,hx4,h⟩:=bind_some h;refine gL hq hx4 Oi [] (fun u i1=>(F4 u [(9,(Z7 i1))] [])) (fun u x_=>match x_ with|(.inl _)=>aG Γ (.exit 0) (⟨[],[],[]⟩:St)|(.inr r_)=>aR (Tc Γ aB r_)) ?_ ?_
 ·intro i1 y h;unfold Ed at h;refine Ak hq Abk [] ?_;refine gC h ?_ ?_<;>intro h
  ·obtain⟨hc2,h⟩:=Aa h;refine gR hq Abl [6] [] [] (c1 hc2) ?_;obtain⟨x3,hx3,h⟩:=bind_some h;refine gR hq zzN51 [] [] [(Z2 x3)] (c1 (Abt (aB.getD i1.toNat default) x3 hx3)) ?_;refine gC h ?_ ?_<;>intro h
   ·refine Ak hq [4] [] ?_;cases h;exact gO (Pj (J9 [] (Le.refl _ _)))
   ·refine Ak hq Oi [] ?_;cases h;exact gN Fe
  ·cases h;exact gO (D3 (Du [] [] hq))
 ·clear hx4;rcases x4 with _|r6
  ·refine gA ?_;refine Ak hq [4] [] ?_;obtain rfl:=OI h;exact Dl []
  ·refine T0 (fun st' hk=>?_);obtain rfl:=OI h;exact gK hk
def Kx(a2:E7):Option Bool:=
 ((C0 ([a2.Kind,a2.Bits,a2.Lanes,a2.Dst]:List Int)).bind fun x1=>((bif (x1==true) then E9 a2.Args else some false).bind fun x2=>(some (bif x1 then x2 else false))))
theorem ok_code_opFits(a2:E7)(r:Bool)(h:Kx a2=some r):Spec Tryz.prog 157 [(.agg (J8 a2))] [] (.bool r) []:=by
 refine Ab mix Tryz.func157 (fun Γ hq=>?_);unfold Kx at h;refine Ak hq [1] [1] ?_;obtain⟨x1,hx1,h⟩:=bind_some h;obtain⟨x2,hx2,h⟩:=bind_some h;refine gR hq [2] [] [(11,(AV.list 1 Ar 0 ([a2.Kind,a2.Bits,a2.Lanes,a2.Dst]:List Int) .exact))] [(Z2 x1),(Z2 x2)] (ci (Ca 1 Ar (0:Int) ([a2.Kind,a2.Bits,a2.Lanes,a2.Dst]:List Int)) (ci (Fs ([a2.Kind,a2.Bits,a2.Lanes,a2.Dst]:List Int) x1 hx1) (ci (gI (x1==true)) (ci (gI (x1==true)) (ci (fun(hg:(x1==true)=true)=>(Kh a2.Args x2 (C2 hg hx2))) (c1 (Oa x1))))))) ?_;cases h;exact Dl []
def Eu(aB:List E7):Int->Option (LR Int (Unit ⊕ Bool)):=
 fun(i1:Int)=>(bif (decide (i1<(aB.length:Int))) then(Bw (Bd i1 aB.length) ((Kx (aB.getD i1.toNat default)).bind fun x3=>(bif (!x3) then(some (.done (.inr false))) else(some (.next (Bb (i1+1))))))) else(some (.done (.inl ()))))
def Ts(Γ:Hy)(aB:List E7)(r:Bool):Exit->St->Prop:=fK Tryz.prog Γ Tryz.f156.results.toList [] (.bool r) []
def F8(aB:List E7):Option Bool:=
 ((An (Eu aB) (0:Int)).bind (fun x4=>(match x4 with|(.inl _)=>(some true)|(.inr r6)=>(some r6))))
theorem Tj(aB:List E7)(r:Bool)(h:F8 aB=some r):Spec Tryz.prog 156 [(AV.list 6 J8 default aB .none),(.clo 157 [] [])] [] (.bool r) []:=by
 refine Ab mix Tryz.func156 (fun Γ hq=>?_);unfold F8 at h;refine Ak hq Ip [] ?_;refine Ak hq Oi [] ?_;obtain⟨x4,hx4,h⟩:=bind_some h;refine gL hq hx4 Oi [] (fun u i1=>(F4 u [(9,(Z7 i1))] [])) (fun u x_=>match x_ with|(.inl _)=>aG Γ (.exit 0) (⟨[],[],[]⟩:St)|(.inr r_)=>aR (Ts Γ aB r_)) ?_ ?_
 ·intro i1 y h;unfold Eu at h;refine Ak hq Abk [] ?_;refine gC h ?_ ?_<;>intro h
  ·obtain⟨hc2,h⟩:=Aa h;refine gR hq Abl [6] [] [] (c1 hc2) ?_;obtain⟨x3,hx3,h⟩:=bind_some h;refine gR hq zzN51 [] [] [(Z2 x3)] (c1 (ok_code_opFits (aB.getD i1.toNat default) x3 hx3)) ?_;refine gC h ?_ ?_<;>intro h
   ·refine Ak hq [4] [] ?_;cases h;exact gO (Pj (J9 [] (Le.refl _ _)))
   ·refine Ak hq Oi [] ?_;cases h;exact gN Fe
  ·cases h;exact gO (D3 (Du [] [] hq))
 ·clear hx4;rcases x4 with _|r6
  ·refine gA ?_;refine Ak hq [4] [] ?_;obtain rfl:=OI h;exact Dl []
  ·refine T0 (fun st' hk=>?_);obtain rfl:=OI h;exact gK hk
def Jr(aH:I4):Option Bool:=
 ((C0 ([aH.Kind,aH.Arg]:List Int)).bind fun x1=>((bif (x1==true) then E9 aH.To else some false).bind fun x2=>(some (bif x1 then x2 else false))))
theorem Abs(aH:I4)(r:Bool)(h:Jr aH=some r):Spec Tryz.prog 158 [(.agg (eTEnd aH))] [] (.bool r) []:=by
 refine Ab mix Tryz.func158 (fun Γ hq=>?_);unfold Jr at h;refine Ak hq [1] [1] ?_;obtain⟨x1,hx1,h⟩:=bind_some h;obtain⟨x2,hx2,h⟩:=bind_some h;refine gR hq [2] [] [(7,(AV.list 1 Ar 0 ([aH.Kind,aH.Arg]:List Int) .exact))] [(Z2 x1),(Z2 x2)] (ci (Ca 1 Ar (0:Int) ([aH.Kind,aH.Arg]:List Int)) (ci (Fs ([aH.Kind,aH.Arg]:List Int) x1 hx1) (ci (gI (x1==true)) (ci (gI (x1==true)) (ci (fun(hg:(x1==true)=true)=>(Kh aH.To x2 (C2 hg hx2))) (c1 (Oa x1))))))) ?_;cases h;exact Dl []
def H7(aK:Ad):Option Bool:=
 ((Fi aK.Phis).bind fun x1=>((bif (x1==true) then F8 aK.Ops else some false).bind fun x2=>((bif ((bif x1 then x2 else false)==true) then Jr (⟨aK.End.Kind,aK.End.Arg,aK.End.To⟩:I4) else some false).bind fun x3=>(some (bif (bif x1 then x2 else false) then x3 else false)))))
theorem Ya(aK:Ad)(r:Bool)(h:H7 aK=some r):Spec Tryz.prog 138 [(.agg (Gg aK))] [] (.bool r) []:=by
 refine Ab mix Tryz.func138 (fun Γ hq=>?_);unfold H7 at h;refine Ak hq [1] [1] ?_;obtain⟨x1,hx1,h⟩:=bind_some h;obtain⟨x2,hx2,h⟩:=bind_some h;obtain⟨x3,hx3,h⟩:=bind_some h;refine gR hq [2] [] [] [(Z2 x1),(Z2 x2),(Z2 x3)] (ci (Sb aK.Phis x1 hx1) (ci (gI (x1==true)) (ci (gI (x1==true)) (ci (fun(hg:(x1==true)=true)=>(Tj aK.Ops x2 (C2 hg hx2))) (ci (Oa x1) (ci (gI ((bif x1 then x2 else false)==true)) (ci (gI ((bif x1 then x2 else false)==true)) (ci (fun(hg:((bif x1 then x2 else false)==true)=true)=>(Abs (⟨aK.End.Kind,aK.End.Arg,aK.End.To⟩:I4) x3 (C2 hg hx3))) (c1 (Oa (bif x1 then x2 else false))))))))))) ?_;cases h;exact Dl []
def Dq(aB:List Ad):Int->Option (LR Int (Unit ⊕ Bool)):=
 fun(i1:Int)=>(bif (decide (i1<(aB.length:Int))) then(Bw (Bd i1 aB.length) ((H7 (aB.getD i1.toNat default)).bind fun x3=>(bif (!x3) then(some (.done (.inr false))) else(some (.next (Bb (i1+1))))))) else(some (.done (.inl ()))))
def Qo(Γ:Hy)(aB:List Ad)(r:Bool):Exit->St->Prop:=fK Tryz.prog Γ Tryz.f137.results.toList [] (.bool r) []
def Et(aB:List Ad):Option Bool:=
 ((An (Dq aB) (0:Int)).bind (fun x4=>(match x4 with|(.inl _)=>(some true)|(.inr r6)=>(some r6))))
theorem Qg(aB:List Ad)(r:Bool)(h:Et aB=some r):Spec Tryz.prog 137 [(Z21 aB),(.clo 138 [] [])] [] (.bool r) []:=by
 refine Ab mix Tryz.func137 (fun Γ hq=>?_);unfold Et at h;refine Ak hq Ip [] ?_;refine Ak hq Oi [] ?_;obtain⟨x4,hx4,h⟩:=bind_some h;refine gL hq hx4 Oi [] (fun u i1=>(F4 u [(9,(Z7 i1))] [])) (fun u x_=>match x_ with|(.inl _)=>aG Γ (.exit 0) (⟨[],[],[]⟩:St)|(.inr r_)=>aR (Qo Γ aB r_)) ?_ ?_
 ·intro i1 y h;unfold Dq at h;refine Ak hq Abk [] ?_;refine gC h ?_ ?_<;>intro h
  ·obtain⟨hc2,h⟩:=Aa h;refine gR hq Abl [6] [] [] (c1 hc2) ?_;obtain⟨x3,hx3,h⟩:=bind_some h;refine gR hq zzN51 [] [] [(Z2 x3)] (c1 (Ya (aB.getD i1.toNat default) x3 hx3)) ?_;refine gC h ?_ ?_<;>intro h
   ·refine Ak hq [4] [] ?_;cases h;exact gO (Pj (J9 [] (Le.refl _ _)))
   ·refine Ak hq Oi [] ?_;cases h;exact gN Fe
  ·cases h;exact gO (D3 (Du [] [] hq))
 ·clear hx4;rcases x4 with _|r6
  ·refine gA ?_;refine Ak hq [4] [] ?_;obtain rfl:=OI h;exact Dl []
  ·refine T0 (fun st' hk=>?_);obtain rfl:=OI h;exact gK hk
def Q13(a1:TFunc):=(decide (((a1.Blocks.length:Int):Int)<1))
def Q12(a1:TFunc):=(decide (((16:Int):Int)<(a1.Params.length:Int)))
def Ou(a1:TFunc):Option Bool:=
 (bif (bif (decide (((a1.Blocks.length:Int):Int)<1)) then true else(decide (((64:Int):Int)<(a1.Blocks.length:Int)))) then(some false) else((bif ((decide (((16:Int):Int)<(a1.Params.length:Int)))==false) then Nc a1 else some (0:Int)).bind fun x1=>(bif (bif (decide (((16:Int):Int)<(a1.Params.length:Int))) then true else(decide (((512:Int):Int)<x1))) then(some false) else((C0 a1.Params).bind fun x2=>((bif (x2==true) then C0 ([a1.Ret]:List Int) else some false).bind fun x3=>((bif ((bif x2 then x3 else false)==true) then Et a1.Blocks else some false).bind fun x4=>(some (bif (bif x2 then x3 else false) then x4 else false))))))))
theorem ok_code_May(a1:TFunc)(r:Bool)(h:Ou a1=some r):Spec Tryz.prog 105 [(Z62 a1)] [] (.bool r) []:=by
 refine Ab mix Tryz.func105 (fun Γ hq=>?_);unfold Ou at h;refine Ak hq [1] [1] ?_;refine gR hq [1,12] [1] [] [] (ci (gI ((Q13 a1)==false)) (ci (gI ((Q13 a1)==false)) (ci (gI ((Q13 a1)==false)) (c1 (Vw (Q13 a1)))))) ?_;refine gC h ?_ ?_<;>intro h
 ·refine Ak hq [2] [] ?_;obtain rfl:=OI h;exact Dl []
 ·obtain⟨x1,hx1,h⟩:=bind_some h;refine gR hq [1,21] [1] [] [(Z44 x1)] (ci (gI ((Q12 a1)==false)) (ci (fun(hg:((Q12 a1)==false)=true)=>(ok_code_Size a1 x1 (C2 hg hx1))) (ci (gI ((Q12 a1)==false)) (c1 (Vw (Q12 a1)))))) ?_;refine gC h ?_ ?_<;>intro h
  ·refine Ak hq [2] [] ?_;obtain rfl:=OI h;exact Dl []
  ·obtain⟨x2,hx2,h⟩:=bind_some h;obtain⟨x3,hx3,h⟩:=bind_some h;obtain⟨x4,hx4,h⟩:=bind_some h;refine gR hq [2] [] [(28,(Z29 a1.Ret))] [(Z2 x2),(Z2 x3),(Z2 x4)] (ci (Fs a1.Params x2 hx2) (ci (gI (x2==true)) (ci (gI (x2==true)) (ci (show((x2==true)=true->(AVle (.slice 1 1 (fun i=>([[(Z7 a1.Ret)]]:List (List AV)).getD i []) .exact) (Z29 a1.Ret))) from(fun hg=>@(Ca 1 Ar (0:Int) ([a1.Ret]:List Int)))) (ci (gI (x2==true)) (ci (fun(hg:(x2==true)=true)=>(Fs ([a1.Ret]:List Int) x3 (C2 hg hx3))) (ci (Oa x2) (ci (gI ((bif x2 then x3 else false)==true)) (ci (gI ((bif x2 then x3 else false)==true)) (ci (fun(hg:((bif x2 then x3 else false)==true)=true)=>(Qg a1.Blocks x4 (C2 hg hx4))) (c1 (Oa (bif x2 then x3 else false))))))))))))) ?_;cases h;exact Dl []
def H6(aaM:Bool)(aH:Int):Option Int:=
 (bif aaM then(some (0:Int)) else(some aH))
theorem Sy(aaM:Bool)(aH:Int)(r:Int)(h:H6 aaM aH=some r):Spec Tryz.prog 104 [(.bool aaM),(Z7 aH)] [] (.int .i64 r) []:=by
 refine Ab mix Tryz.func104 (fun Γ hq=>?_);unfold H6 at h;refine Ak hq Ip [] ?_;refine Ak hq [1,5] [] ?_;refine gC h ?_ ?_<;>intro h
 ·refine Ak hq [4] [] ?_;cases h;exact Dl []
 ·refine Ak hq [4] [] ?_;obtain rfl:=OI h;exact Dl []
def F6(a3:TFunc)(a7:Int)(a9:List Int)(a5:List Ao):Option (Int×TFunc×Int×List Int×List Ao):=
 ((Ou a3).bind fun x1=>((H6 x1 (4:Int)).bind fun x2=>(some (x2,a3,a7,a9,a5))))
theorem Th(a3:TFunc)(a7:Int)(a9:List Int)(a5:List Ao)(r:(Int×TFunc×Int×List Int×List Ao))(h:F6 a3 a7 a9 a5=some r):Spec Tryz.prog 89 [Z52] (Z3 a3.Params a3.Ret a3.Blocks a7 a9 a5 a5.length) (Z7 r.1) (Z3 r.2.1.Params r.2.1.Ret r.2.1.Blocks r.2.2.1 r.2.2.2.1 r.2.2.2.2 r.2.2.2.2.length):=by
 refine Ab mix Tryz.func89 (fun Γ hq=>?_);unfold F6 at h;refine Ak hq [0] Gt ?_;obtain⟨x1,hx1,h⟩:=bind_some h;obtain⟨x2,hx2,h⟩:=bind_some h;refine gR hq [2] Gt [] [(Z2 x1),(Z44 x2)] (ci (ok_code_May a3 x1 hx1) (c1 (Sy x1 (4:Int) x2 hx2))) ?_;cases h;exact Dl zzN6
def Ho(aQ:Int):Option Bool:=
 (some (bif (decide (((1:Int):Int)<=aQ)) then(decide (aQ<=64)) else false))
theorem Qu(aQ:Int)(r:Bool)(h:Ho aQ=some r):Spec Tryz.prog 36 [(Z7 aQ)] [] (.bool r) []:=by
 refine Ab mix Tryz.func36 (fun Γ hq=>?_);unfold Ho at h;refine Ak hq [0] [] ?_;refine gR hq [2] [] [] [] (ci (gI ((decide (((1:Int):Int)<=aQ))==true)) (c1 (Oa (decide (((1:Int):Int)<=aQ))))) ?_;cases h;exact Dl []
def Gm(aC:Int)(aQ:Int):Option Bool:=
 (some (bif (decide (((0:Int):Int)<=aC)) then(decide (aC<aQ)) else false))
theorem Mv(aC:Int)(aQ:Int)(r:Bool)(h:Gm aC aQ=some r):Spec Tryz.prog 63 [(Z7 aC),(Z7 aQ)] [] (.bool r) []:=by
 refine Ab mix Tryz.func63 (fun Γ hq=>?_);unfold Gm at h;refine Ak hq Ip [] ?_;refine gR hq [4] [] [] [] (ci (gI ((decide (((0:Int):Int)<=aC))==true)) (ci (gI ((decide (((0:Int):Int)<=aC))==true)) (c1 (Oa (decide (((0:Int):Int)<=aC)))))) ?_;cases h;exact Dl []
def B7(aH:I4)(aQ:Int):Int->Option (LR Int (Unit ⊕ Bool)):=
 fun(i7:Int)=>(bif (decide (i7<(aH.To.length:Int))) then(Bw (Bd i7 aH.To.length) ((bif ((((aH.To.getD i7.toNat 0):Int)==0)==false) then Gm (aH.To.getD i7.toNat 0) aQ else some false).bind fun x9=>(bif (bif (((aH.To.getD i7.toNat 0):Int)==0) then true else(!x9)) then(some (.done (.inr false))) else(some (.next (Bb (i7+1))))))) else(some (.done (.inl ()))))
def Sr(Γ:Hy)(aH:I4)(aQ:Int)(r:Bool):Exit->St->Prop:=fK Tryz.prog Γ Tryz.f37.results.toList [] (.bool r) []
def Q14(aH:I4)(i7:Int):=(((aH.To.getD i7.toNat 0):Int)==0)
def I9(aH:I4)(aQ:Int):Option Bool:=
 (Option.bind (α:=(Int ⊕ Bool)) (Option.bind (α:=Bool) (bif (aH.Kind==0) then(some (aH.Kind==0)) else(some (aH.Kind==3))) (fun x3=>(bif x3 then(some (.inl (0:Int))) else(bif (aH.Kind==1) then(some (.inl (1:Int))) else(bif (aH.Kind==2) then(some (.inl (2:Int))) else(some (.inr false))))))) (fun x5=>(match x5 with|(.inl i1)=>(bif (((aH.To.length:Int):Int)!=i1) then(some false) else((An (B7 aH aQ) (0:Int)).bind (fun x10=>(match x10 with|(.inl _)=>(some true)|(.inr r12)=>(some r12)))))|(.inr r13)=>(some r13))))
theorem Zu(aH:I4)(aQ:Int)(r:Bool)(h:I9 aH aQ=some r):Spec Tryz.prog 37 [(.agg (eTEnd aH)),(Z7 aQ)] [] (.bool r) []:=by
 refine Ab mix Tryz.func37 (fun Γ hq=>?_);unfold I9 at h;refine Ak hq K4 [2] ?_;refine Ak hq zzN94 [2] ?_;obtain⟨x5,hx5,h⟩:=bind_some h;refine gJ hx5 (fun x_=>match x_ with|(.inl i1)=>aG Γ .normal (⟨[(1,(Z7 aQ)),Oj,(5,(Z7 i1))],[(2,.row 51 [(Z7 aH.Kind),(Z7 aH.Arg),(Z8 aH.To)])],[]⟩:St)|(.inr r_)=>aR (Sr Γ aH aQ r_)) ?_ ?_
 ·clear h hx5;intro y h;refine Ak hq [1,2,5,9] [2] ?_;obtain⟨x3,hx3,h⟩:=bind_some h;refine gJ hx3 (fun b2=>aG Γ .normal (⟨[(1,(Z7 aQ)),Oj,(5,Td),(9,(Z7 aH.Kind)),(10,(.bool b2))],[(2,.row 51 [(Z7 aH.Kind),(Z7 aH.Arg),(Z8 aH.To)])],[]⟩:St)) ?_ ?_
  ·clear h hx3;intro y h;refine Ak hq [1,2,5,9,10] [2] ?_;refine gC h ?_ ?_<;>intro h
   ·cases h;exact gK (D3 Fe)
   ·refine Ak hq [1,2,5,9,10] [2] ?_;cases h;exact gK (D3 Fe)
  ·clear hx3;refine gA ?_;refine gC h ?_ ?_<;>intro h
   ·cases h;exact gK (D3 (Du zzN94 [2] hq))
   ·refine Ak hq [1,2,9,13] [2] ?_;refine gC h ?_ ?_<;>intro h
    ·refine Ak hq zzN94 [2] ?_;cases h;exact gK (D3 Fe)
    ·refine Ak hq [1,2,15] [2] ?_;refine gC h ?_ ?_<;>intro h
     ·refine Ak hq zzN94 [2] ?_;cases h;exact gK (D3 Fe)
     ·refine Ak hq [4] [] ?_;cases h;exact gK (Pj (J9 [] (Le.refl _ _)))
 ·clear hx5;rcases x5 with i1|r13
  ·refine gA ?_;refine Ak hq [1,2,21] [2] ?_;refine gC h ?_ ?_<;>intro h
   ·refine Ak hq [4] [] ?_;obtain rfl:=OI h;exact Dl []
   ·refine Ak hq zzN130 [] ?_;obtain⟨x10,hx10,h⟩:=bind_some h;refine gL hq hx10 zzN130 [] (fun u i7=>(F4 u [(25,(Z7 i7))] [])) (fun u x_=>match x_ with|(.inl _)=>aG Γ (.exit 1) (⟨[],[],[]⟩:St)|(.inr r_)=>aR (Sr Γ aH aQ r_)) ?_ ?_
    ·intro i7 y h;unfold B7 at h;refine Ak hq [1,23,24,25,26] [] ?_;refine gC h ?_ ?_<;>intro h
     ·obtain⟨hc8,h⟩:=Aa h;refine gR hq [1,7,23,24,25] [] [] [] (c1 hc8) ?_;obtain⟨x9,hx9,h⟩:=bind_some h;refine gR hq [1,23,24,25,36] [] [] [(Z2 x9)] (ci (gI ((Q14 aH i7)==false)) (ci (gI ((Q14 aH i7)==false)) (ci (fun(hg:((Q14 aH i7)==false)=true)=>(Mv (aH.To.getD i7.toNat 0) aQ x9 (C2 hg hx9))) (ci (gI ((Q14 aH i7)==false)) (c1 (Vw (Q14 aH i7))))))) ?_;refine gC h ?_ ?_<;>intro h
      ·refine Ak hq [4] [] ?_;cases h;exact gO (Pj (J9 [] (Le.refl _ _)))
      ·refine Ak hq zzN130 [] ?_;cases h;exact gN Fe
     ·cases h;exact gO (D3 (Du [] [] hq))
    ·clear hx10;rcases x10 with _|r12
     ·refine gA ?_;refine Ak hq [4] [] ?_;obtain rfl:=OI h;exact Dl []
     ·refine T0 (fun st' hk=>?_);obtain rfl:=OI h;exact gK hk
  ·refine T0 (fun st' hk=>?_);obtain rfl:=OI h;exact gK hk
def D7(a8:List (List Int))(i2:Int):(Int×List (List Int))->Option (LR (Int×List (List Int)) (List (List Int))):=
 fun((i6,l7):(Int×List (List Int)))=>(bif (decide (i6<((a8.getD i2.toNat []).length:Int))) then(Bw (Bd i6 (a8.getD i2.toNat []).length) (Bw (Bd ((a8.getD i2.toNat []).getD i6.toNat 0) l7.length) (Bw (Bd ((a8.getD i2.toNat []).getD i6.toNat 0) l7.length) (Bw ((l7.getD ((a8.getD i2.toNat []).getD i6.toNat 0).toNat []).length+([i2]:List Int).length<=room) (Bw (Bd ((a8.getD i2.toNat []).getD i6.toNat 0) l7.length) (some (.next ((Bb (i6+1)),(l7.set ((a8.getD i2.toNat []).getD i6.toNat 0).toNat ((l7.getD ((a8.getD i2.toNat []).getD i6.toNat 0).toNat [])++([i2]:List Int))))))))))) else(some (.done l7)))
def D8(a8:List (List Int)):(Int×List (List Int))->Option (LR (Int×List (List Int)) (List (List Int))):=
 fun((i2,l3):(Int×List (List Int)))=>(bif (decide (i2<(a8.length:Int))) then(Bw (Bd i2 a8.length) ((An (D7 a8 i2) ((0:Int),l3)).bind (fun x14=>(some (.next ((Bb (i2+1)),x14)))))) else(some (.done l3)))
def Q19(i2:Int):=([i2]:List Int)
def Q15(a8:List (List Int))(i2:Int)(i6:Int):=((a8.getD i2.toNat []).getD i6.toNat 0)
def Q20(l7:List (List Int))(a8:List (List Int))(i2:Int)(i6:Int):=(l7.getD (Q15 a8 i2 i6).toNat [])
def Q16(a8:List (List Int)):=(List.replicate (a8.length:Int).toNat ([]:List Int))
def Q22(l7:List (List Int))(a8:List (List Int))(i2:Int)(i6:Int):=(l7.set (Q15 a8 i2 i6).toNat ((Q20 l7 a8 i2 i6)++(Q19 i2)))
def Q18(a8:List (List Int)):List (Nat×AV):=[(0,(Z5 a8)),(3,(.vsl 10 (a8.length:Int).toNat))]
def Q17(l7:List (List Int))(i2:Int)(a8:List (List Int))(i6:Int):List (Nat×AV):=[(3,(.vsl 10 l7.length)),(4,(Z7 i2)),(11,(Z5 a8)),(12,(Z54 a8.length)),(13,(Z7 i2)),(18,(AV.list 1 Ar 0 (a8.getD i2.toNat []) .none)),(19,(.int .i64 ((a8.getD i2.toNat []).length:Int))),(20,(Z7 i6))]
def Q21(l7:List (List Int))(i2:Int)(a8:List (List Int))(i6:Int):List (Nat×AV):=[(3,(.vsl 10 l7.length)),(4,(Z7 i2)),(7,(Z7 (Q15 a8 i2 i6))),(11,(Z5 a8)),(12,(Z54 a8.length)),(13,(Z7 i2)),(18,(AV.list 1 Ar 0 (a8.getD i2.toNat []) .none)),(19,(.int .i64 ((a8.getD i2.toNat []).length:Int))),(20,(Z7 i6))]
def G9(a8:List (List Int)):Option (List (List Int)):=
 (Bw (0<=(a8.length:Int)/\(a8.length:Int)<=(a8.length:Int)/\(a8.length:Int)<=(room:Int)) ((An (D8 a8) ((0:Int),(List.replicate (a8.length:Int).toNat ([]:List Int)))).bind (fun x16=>(some x16))))
theorem Nu(a8:List (List Int))(r:List (List Int))(h:G9 a8=some r):Spec Tryz.prog 39 [(Z5 a8)] [] (Z40 r 20000) [(20000,.tok 1 22 r.length)]:=by
 refine Ab mix Tryz.func39 (fun Γ hq=>?_);have hΓ:=hq.own;unfold G9 at h;refine gR hq [0] [] [(2,Z25)] [] (c1 (Dx 1 Gp [])) ?_;obtain⟨hc1,h⟩:=Aa h;refine gR hq Re [10] [] [] (c1 hc1) ?_;refine N9 (⟨(Q18 a8),[(10,.arr 1 22 ((a8.length:Int).toNat) (fun i_=>AV.eraseAll (fun n_=>Cc n_ [10]) ((fun _=>[Z18]) i_)))],[]⟩:St) ?_;refine Ll (Le.trans (Na (st':=⟨(Q18 a8),[(10,.arr 1 22 ((a8.length:Int).toNat) (Gf 1 Ar (0:Int) (Q16 a8) (fun _=>.exact)))],[]⟩) (TmpsLe.refl _) (.arr fam_zero .nil)) (Le.trans (Le.trans (le_birth (r:=10) (b:=70010) Ar (0:Int) (Q16 a8) 3 rfl rfl (Pf ..).symm (fun h_=>absurd h_ (by decide))) (Gy (st':=⟨(Q18 a8),[(10,.arr 1 22 ((a8.length:Int).toNat) (Gf 1 Ar (0:Int) (Q16 a8) (Tag.fam 70010)))],[(70010,⟨1,3,Gq (Q16 a8)⟩)]⟩) (by kernel_rfl))) (Gy (Bq (fun k_:Nat=>(⟨[(0,(Z5 a8)),(3,(.vsl 10 k_))],[(Z9 10 k_ (Q16 a8) 70010)],[(70010,⟨1,3,Gq (Q16 a8)⟩)]⟩:St)) (show(a8.length:Int).toNat=(Q16 a8).length from(Pf ..).symm))))) ?_;refine Ak hq zzN77 P3 ?_;obtain⟨x16,hx16,h⟩:=bind_some h;refine gL hq hx16 zzN77 P3 (fun u (i2,l3)=>(F4 u [(3,(.vsl 10 l3.length)),(13,(Z7 i2))] [(Z9 10 l3.length l3 70010)] [(70010,⟨1,3,Gq l3⟩)])) (fun u l4=>aG Γ (.exit 0) (⟨[(3,(.vsl 10 l4.length))],[(Z9 10 l4.length l4 70010)],[(70010,⟨1,3,Gq l4⟩)]⟩:St)) ?_ ?_
 ·rintro⟨i2,l3⟩ y h;unfold D8 at h;refine Ak hq [3,11,12,13,14] P3 ?_;refine gC h ?_ ?_<;>intro h
  ·obtain⟨hc5,h⟩:=Aa h;refine gR hq [3,4,5,11,12,13] P3 [] [] (c1 hc5) ?_;refine Ak hq zzN44 P3 ?_;obtain⟨x14,hx14,h⟩:=bind_some h;refine gL hq hx14 zzN44 P3 (fun u (i6,l7)=>(F4 u [(3,(.vsl 10 l7.length)),(20,(Z7 i6))] [(Z9 10 l7.length l7 70010)] [(70010,⟨1,3,Gq l7⟩)])) (fun u l8=>aG Γ (.exit 2) (W8 zzN77 P3 u [(3,(.vsl 10 l8.length))] [(Z9 10 l8.length l8 70010)] [(70010,⟨1,3,Gq l8⟩)])) ?_ ?_
   ·rintro⟨i6,l7⟩ y h;unfold D7 at h;refine Ak hq [3,4,11,12,13,18,19,20,21] P3 ?_;refine gC h ?_ ?_<;>intro h
    ·obtain⟨hc9,h⟩:=Aa h;refine gR hq [3,4,7,11,12,13,18,19,20] P3 [] [] (c1 hc9) ?_;refine N9 (⟨(Q21 l7 i2 a8 i6),[(Z9 10 l7.length l7 70010)],[(70010,⟨1,3,Gq l7⟩)]⟩:St) ?_;obtain⟨hc10,h⟩:=Aa h;obtain⟨hc11,h⟩:=Aa h;obtain⟨hc12,h⟩:=Aa h;obtain⟨hc13,h⟩:=Aa h;refine Ll (Le.trans (X0 (r:=10) (b:=70010) (k:=60010) Ar (0:Int) l7 (Q15 a8 i2 i6).toNat 3 rfl rfl rfl rfl (Fy hc10) (by kernel_rfl) (.here .nil)) (Gy (st':=⟨(Q21 l7 i2 a8 i6),[(10,.arr 1 22 l7.length (Gf 1 Ar (0:Int) l7 (D4 70010 (Q15 a8 i2 i6).toNat 60010))),(60010,.tok 1 3 ((Q20 l7 a8 i2 i6).length))],[(70010,⟨1,3,L3 l7 (Q15 a8 i2 i6).toNat⟩)]⟩) (by kernel_rfl))) ?_;refine gR hq zzN44 [10,60010,70010] (Z38 29 (Q20 l7 a8 i2 i6) 60010 31 (Q19 i2) 32) [] (ci hc11 (ci (Eq.refl l7.length) (ci (show(AVle (((Gf 1 Ar (0:Int) l7 (D4 70010 (Q15 a8 i2 i6).toNat 60010)) (Q15 a8 i2 i6).toNat).getD 0 .any) (Z26 (Q20 l7 a8 i2 i6) 60010)) from Y7) (ci (Ca 1 Ar (0:Int) (Q19 i2)) (ci (Eq.refl ((Q20 l7 a8 i2 i6).length)) (ci hc12 (ci (M2 1 60010 Ar (0:Int) (Q20 l7 a8 i2 i6) (Q19 i2)) (ci (He (Q20 l7 a8 i2 i6) (Q19 i2)) (ci hc13 (c1 (Eq.refl l7.length))))))))))) ?_;refine N9 (⟨(Q17 l7 i2 a8 i6),[(10,.arr 1 22 l7.length (fun i_=>AV.eraseAll (fun n_=>Cc n_ [10,60010,70010]) ((Jf (Gf 1 Ar (0:Int) l7 (D4 70010 (Q15 a8 i2 i6).toNat 60010)) (Q15 a8 i2 i6).toNat 0 [(AV.list 1 Ar 0 ((Q20 l7 a8 i2 i6)++(Q19 i2)) (.own 60010))]) i_))),(60010,.tok 1 3 (((Q20 l7 a8 i2 i6)++(Q19 i2)).length))],[(70010,⟨1,3,L3 l7 (Q15 a8 i2 i6).toNat⟩)]⟩:St) ?_;refine Ll (Le.trans (Le.trans (le_put (r:=10) (b:=70010) (k:=60010) Ar (0:Int) l7 (Q15 a8 i2 i6).toNat ((Q20 l7 a8 i2 i6)++(Q19 i2)) 3 rfl (Ye (Fy hc10) rfl rfl) rfl rfl rfl rfl (Fy hc10) (by kernel_rfl) (.here (.tok .nil)) (by rw[hΓ];rfl)) (Gy (st':=⟨(Q17 l7 i2 a8 i6),[(Z9 10 l7.length (Q22 l7 a8 i2 i6) 70010)],[(70010,⟨1,3,Gq (Q22 l7 a8 i2 i6)⟩)]⟩) (by kernel_rfl))) (Gy (Bq (fun k_:Nat=>(⟨[(3,(.vsl 10 k_)),(4,(Z7 i2)),(11,(Z5 a8)),(12,(Z54 a8.length)),(13,(Z7 i2)),(18,(AV.list 1 Ar 0 (a8.getD i2.toNat []) .none)),(19,(.int .i64 ((a8.getD i2.toNat []).length:Int))),(20,(Z7 i6))],[(Z9 10 k_ (Q22 l7 a8 i2 i6) 70010)],[(70010,⟨1,3,Gq (Q22 l7 a8 i2 i6)⟩)]⟩:St)) (show l7.length=(Q22 l7 a8 i2 i6).length from(E5 ..).symm)))) ?_;refine Ak hq zzN44 P3 ?_;cases h;exact gN Fe
    ·cases h;exact gO (D3 (Du zzN77 P3 hq))
   ·clear hx14;refine gA ?_;refine Ak hq zzN77 P3 ?_;cases h;exact gN Fe
  ·cases h;exact gO (D3 (Du [3] P3 hq))
 ·clear hx16;refine gA ?_;refine Ak hq [2] P3 ?_;refine N9 (⟨[(2,(.vsl 10 x16.length))],[(Z9 10 x16.length x16 70010)],[(70010,⟨1,3,Gq x16⟩)]⟩:St) ?_;obtain rfl:=OI h;exact gK (e:=.ret) (J9 [(10,20000)] (Le.trans (Hl (nm:=10) (sz:=1) (n:=x16.length) (e:=22) (f:=(Gf 1 Ar (0:Int) x16 (Tag.fam 70010))) (g:=(fun i=>Gp (x16.getD i []))) rfl ⟨rfl,trivial⟩ (fun _ _=>rfl) (by rw[hΓ];rfl)) (Du (st':=⟨[(2,(Z40 x16 10))],[(10,.tok 1 22 x16.length)],[]⟩) [2] [10] hq)))
def Ez(a1:TFunc):(Int×List (List Int))->Option (LR (Int×List (List Int)) (List (List Int) ⊕ (Ap×Int))):=
 fun((i3,l4):(Int×List (List Int)))=>(bif (decide (i3<(a1.Blocks.length:Int))) then(Bw (Bd i3 a1.Blocks.length) ((I9 (⟨(a1.Blocks.getD i3.toNat default).End.Kind,(a1.Blocks.getD i3.toNat default).End.Arg,(a1.Blocks.getD i3.toNat default).End.To⟩:I4) (a1.Blocks.length:Int)).bind fun x7=>(bif (!x7) then(some (.done (.inr ((⟨([]:List (List Int)),([]:List (List Int))⟩:Ap),(5:Int))))) else((Yo ((a1.Blocks.getD i3.toNat default).End.To)).bind fun x8=>(Bw (Bd i3 l4.length) (some (.next ((Bb (i3+1)),(l4.set i3.toNat x8))))))))) else(some (.done (.inl l4))))
def K_graph_Of(Γ:Hy)(a1:TFunc)(r:(Ap×Int)):Exit->St->Prop:=fK Tryz.prog Γ Tryz.f19.results.toList [] (.tuple [(Z43 r.1),(Z7 r.2)]) []
def Q24:AV:=Z18
def Q25:List (Nat×AV):=[Oj,(3,(.int .i64 (5:Int)))]
def Q28(a1:TFunc)(i3:Int):=(a1.Blocks.getD i3.toNat default)
def Q26:AV:=Z30
def Q27(a1:TFunc):=(List.replicate (a1.Blocks.length:Int).toNat ([]:List Int))
def Q23:List AV:=[Z25,Z25]
def Lh(a1:TFunc):Option (Ap×Int):=
 ((Ho (a1.Blocks.length:Int)).bind fun x1=>(bif (!x1) then(some ((⟨([]:List (List Int)),([]:List (List Int))⟩:Ap),(5:Int))) else(Bw (0<=(a1.Blocks.length:Int)/\(a1.Blocks.length:Int)<=(a1.Blocks.length:Int)/\(a1.Blocks.length:Int)<=(room:Int)) ((An (Ez a1) ((0:Int),(List.replicate (a1.Blocks.length:Int).toNat ([]:List Int)))).bind (fun x10=>(match x10 with|(.inl l5)=>((G9 l5).bind fun x12=>(some ((⟨l5,x12⟩:Ap),(0:Int))))|(.inr r13)=>(some r13)))))))
theorem Uc(a1:TFunc)(r:(Ap×Int))(h:Lh a1=some r):Spec Tryz.prog 19 [(Z62 a1)] [] (.tuple [(Z43 r.1),(Z7 r.2)]) []:=by
 refine Ab mix Tryz.func19 (fun Γ hq=>?_);have hΓ:=hq.own;unfold Lh at h;refine Ak hq K4 K4 ?_;refine Ak hq [1,2,4] K4 ?_;obtain⟨x1,hx1,h⟩:=bind_some h;refine gR hq [1,2,4,13] K4 [] [(Z2 x1)] (c1 (Qu (a1.Blocks.length:Int) x1 hx1)) ?_;refine gC h ?_ ?_<;>intro h
 ·refine gR hq G3 [2] [(14,(.agg Q23))] [] (c1 (show(AVle (.agg [Q24,Q24]) (.agg Q23)) from(AVle.agg (.cons Gv (.cons Gv .nil))))) ?_;refine N9 (⟨Q25,[(Rf 41 Q23)],[]⟩:St) ?_;cases h;exact gK (e:=.ret) (J9 [] (show Le Γ _ (⟨Q25,[(2,.row 41 [Q26,Q26])],[]⟩:St) from Le.trans (Du (st':=⟨Q25,[(Rf 41 Q23)],[]⟩) G3 [2] hq) (Na (.cons (AVle.refl _) (.cons (AVle.refl _) .nil)) (.row (.cons AVle.untag (.cons AVle.untag .nil)) .nil))))
 ·obtain⟨hc2,h⟩:=Aa h;refine gR hq zzN122 [1,2,16] [] [] (c1 hc2) ?_;refine Ll (Le.trans (Rz 16 (show ∀ k_,k_<((a1.Blocks.length:Int).toNat)->AVleL ((fun i_=>AV.eraseAll (fun n_=>Cc n_ [1,2,16]) ((fun _=>[Q24]) i_)) k_) ((fun i=>Gp ((Q27 a1).getD i [])) k_) from(fun k hk=>R4 (e:=Gp) (d:=[]) (.cons (fun _ _ _ _ _ hh=>AVle.untag _ _ _ _ _ (Gv _ _ _ _ _ hh)) .nil) _ k (Si hk)))) (Vh (fun(k_:Nat) u=>(F4 u [(Z72 16 k_)] [(16,.arr 1 22 k_ (fun i=>Gp ((Q27 a1).getD i [])))])) (show(a1.Blocks.length:Int).toNat=(Q27 a1).length from(Pf ..).symm))) ?_;refine Ak hq zzN72 Wo ?_;obtain⟨x10,hx10,h⟩:=bind_some h;refine gL hq hx10 zzN72 Wo (fun u (i3,l4)=>(F4 u [(Z72 16 l4.length),(20,(Z7 i3))] [(16,.arr 1 22 l4.length (fun i=>Gp (l4.getD i [])))])) (fun u x_=>match x_ with|(.inl l5)=>aG Γ (.exit 0) (W8 [2,5] Wo u [(Z72 16 l5.length)] [(16,.arr 1 22 l5.length (fun i=>Gp (l5.getD i [])))])|(.inr r_)=>aR (K_graph_Of Γ a1 r_)) ?_ ?_
  ·rintro⟨i3,l4⟩ y h;unfold Ez at h;refine Ak hq [2,4,5,18,19,20,21] Wo ?_;refine gC h ?_ ?_<;>intro h
   ·obtain⟨hc6,h⟩:=Aa h;refine gR hq [2,4,5,6,7,18,19,20] [2,7,16] [] [] (c1 hc6) ?_;obtain⟨x7,hx7,h⟩:=bind_some h;refine gR hq [2,4,5,6,7,18,19,20,29] [2,7,16] [] [(Z2 x7)] (c1 (Zu (⟨(Q28 a1 i3).End.Kind,(Q28 a1 i3).End.Arg,(Q28 a1 i3).End.To⟩:I4) (a1.Blocks.length:Int) x7 hx7)) ?_;refine gC h ?_ ?_<;>intro h
    ·refine gR hq G3 [2] [(30,(.agg Q23))] [] (c1 (show(AVle (.agg [Q24,Q24]) (.agg Q23)) from(AVle.agg (.cons Gv (.cons Gv .nil))))) ?_;refine N9 (⟨Q25,[(Rf 41 Q23)],[]⟩:St) ?_;cases h;exact gO (Pj (J9 [] (show Le Γ _ (⟨Q25,[(2,.row 41 [Q26,Q26])],[]⟩:St) from Le.trans (Du (st':=⟨Q25,[(Rf 41 Q23)],[]⟩) G3 [2] hq) (Na (.cons (AVle.refl _) (.cons (AVle.refl _) .nil)) (.row (.cons AVle.untag (.cons AVle.untag .nil)) .nil)))))
    ·obtain⟨x8,hx8,h⟩:=bind_some h;obtain⟨hc9,h⟩:=Aa h;refine gR hq zzN72 Wo [] [⟨[],[],(Z8 x8),[],[],[]⟩] (ci (xok_rising ((Q28 a1 i3).End.To) x8 hx8) (ci hc9 (c1 (Eq.refl l4.length)))) ?_;refine Ll (Le.trans (Rz 16 (show ∀ k_,k_<l4.length->AVleL ((fun i_=>AV.eraseAll (fun n_=>Cc n_ Wo) ((Jf (fun i=>Gp (l4.getD i [])) i3.toNat 0 [(Z8 x8)]) i_)) k_) ((fun i=>Gp ((l4.set i3.toNat x8).getD i [])) k_) from(Br (E5 ..).symm (fun k_ hk_=>(Bq (AV.eraseAll (fun n_=>Cc n_ Wo)) ((K1 (fun _ _=>rfl) (L4 hc9) rfl) k_ hk_)).trans rfl)))) (Vh (fun(k_:Nat) u=>(F4 u [(Z72 16 k_)] [(16,.arr 1 22 k_ (fun i=>Gp ((l4.set i3.toNat x8).getD i [])))])) (show l4.length=(l4.set i3.toNat x8).length from(E5 ..).symm))) ?_;refine Ak hq zzN72 Wo ?_;cases h;exact gN Fe
   ·cases h;exact gO (D3 (Du [2,5] Wo hq))
  ·clear hx10;rcases x10 with l5|r13
   ·refine gA ?_;refine N9 (⟨[Oj,(Z72 16 l5.length)],[(2,.row 41 [Q24,Q24]),(16,.arr 1 22 l5.length (fun i=>Gp (l5.getD i [])))],[]⟩:St) ?_;refine Ll (Le.trans (Hl (nm:=16) (sz:=1) (n:=l5.length) (e:=22) (f:=(fun i=>Gp (l5.getD i []))) (g:=(fun i=>Gp (l5.getD i []))) rfl ⟨rfl,trivial⟩ (fun _ _=>rfl) (by rw[hΓ];rfl)) (Gy (st':=⟨[Oj,(5,(Z40 l5 16))],[(2,.row 41 [Q24,Q24]),(16,.tok 1 22 l5.length)],[]⟩) (by kernel_rfl))) ?_;obtain⟨x12,hx12,h⟩:=bind_some h;refine gR hq G3 [2,16,41] [] [(Z77 41 x12 x12.length)] (c1 (Nu l5 x12 hx12)) ?_;cases h;exact Dl []
   ·refine T0 (fun st' hk=>?_);obtain rfl:=OI h;exact gK hk
def Ci(a8:List (List Int))(i2:Int):(Int×Int)->Option (LR (Int×Int) (Unit ⊕ Bool)):=
 fun((i4,i5):(Int×Int))=>(bif (decide (i5<((a8.getD i2.toNat []).length:Int))) then(Bw (Bd i5 (a8.getD i2.toNat []).length) ((bif ((decide ((((a8.getD i2.toNat []).getD i5.toNat 0):Int)<=i4))==false) then Gm ((a8.getD i2.toNat []).getD i5.toNat 0) (a8.length:Int) else some false).bind fun x7=>(bif (bif (decide ((((a8.getD i2.toNat []).getD i5.toNat 0):Int)<=i4)) then true else(!x7)) then(some (.done (.inr false))) else(some (.next (((a8.getD i2.toNat []).getD i5.toNat 0),(Bb (i5+1)))))))) else(some (.done (.inl ()))))
def Cj(a8:List (List Int)):Int->Option (LR Int (Unit ⊕ Bool)):=
 fun(i2:Int)=>(bif (decide (i2<(a8.length:Int))) then(Bw (Bd i2 a8.length) ((An (Ci a8 i2) ((-1:Int),(0:Int))).bind (fun x8=>(match x8 with|(.inl _)=>(some (.next (Bb (i2+1))))|(.inr r10)=>(some (.done (.inr r10))))))) else(some (.done (.inl ()))))
def Ss(Γ:Hy)(a8:List (List Int))(r:Bool):Exit->St->Prop:=fK Tryz.prog Γ Tryz.f74.results.toList [] (.bool r) []
def Q29(a8:List (List Int))(i2:Int)(i5:Int)(i4:Int):=(decide ((((a8.getD i2.toNat []).getD i5.toNat 0):Int)<=i4))
def Hp(a8:List (List Int)):Option Bool:=
 ((Ho (a8.length:Int)).bind fun x1=>(bif (!x1) then(some false) else((An (Cj a8) (0:Int)).bind (fun x11=>(match x11 with|(.inl _)=>(some true)|(.inr r13)=>(some r13))))))
theorem Qv(a8:List (List Int))(r:Bool)(h:Hp a8=some r):Spec Tryz.prog 74 [(Z5 a8)] [] (.bool r) []:=by
 refine Ab mix Tryz.func74 (fun Γ hq=>?_);unfold Hp at h;refine Ak hq [0] [] ?_;obtain⟨x1,hx1,h⟩:=bind_some h;refine gR hq [0,11] [] [] [(Z2 x1)] (c1 (Qu (a8.length:Int) x1 hx1)) ?_;refine gC h ?_ ?_<;>intro h
 ·refine Ak hq [2] [] ?_;obtain rfl:=OI h;exact Dl []
 ·refine Ak hq zzN78 [] ?_;obtain⟨x11,hx11,h⟩:=bind_some h;refine gL hq hx11 zzN78 [] (fun u i2=>(F4 u [(14,(Z7 i2))] [])) (fun u x_=>match x_ with|(.inl _)=>aG Γ (.exit 0) (⟨[],[],[]⟩:St)|(.inr r_)=>aR (Ss Γ a8 r_)) ?_ ?_
  ·intro i2 y h;unfold Cj at h;refine Ak hq [0,12,13,14,15] [] ?_;refine gC h ?_ ?_<;>intro h
   ·obtain⟨hc3,h⟩:=Aa h;refine gR hq [0,4,12,13,14] [] [] [] (c1 hc3) ?_;refine Ak hq [0,4,5,12,13,14] [] ?_;refine Ak hq zzN45 [] ?_;obtain⟨x8,hx8,h⟩:=bind_some h;refine gL hq hx8 zzN45 [] (fun u (i4,i5)=>(F4 u [(5,(Z7 i4)),(20,(Z7 i5))] [])) (fun u x_=>match x_ with|(.inl _)=>aG Γ (.exit 2) (W8 zzN78 [] u [] [])|(.inr r_)=>aR (Ss Γ a8 r_)) ?_ ?_
    ·rintro⟨i4,i5⟩ y h;unfold Ci at h;refine Ak hq [0,5,12,13,14,18,19,20,21] [] ?_;refine gC h ?_ ?_<;>intro h
     ·obtain⟨hc6,h⟩:=Aa h;refine gR hq [0,5,7,12,13,14,18,19,20] [] [] [] (c1 hc6) ?_;obtain⟨x7,hx7,h⟩:=bind_some h;refine gR hq [0,7,12,13,14,18,19,20,33] [] [] [(Z2 x7)] (ci (gI ((Q29 a8 i2 i5 i4)==false)) (ci (gI ((Q29 a8 i2 i5 i4)==false)) (ci (gI ((Q29 a8 i2 i5 i4)==false)) (ci (fun(hg:((Q29 a8 i2 i5 i4)==false)=true)=>(Mv ((a8.getD i2.toNat []).getD i5.toNat 0) (a8.length:Int) x7 (C2 hg hx7))) (ci (gI ((Q29 a8 i2 i5 i4)==false)) (c1 (Vw (Q29 a8 i2 i5 i4)))))))) ?_;refine gC h ?_ ?_<;>intro h
      ·refine Ak hq [2] [] ?_;cases h;exact gO (Pj (J9 [] (Le.refl _ _)))
      ·refine Ak hq zzN45 [] ?_;refine Ak hq zzN45 [] ?_;cases h;exact gN Fe
     ·cases h;exact gO (D3 (Du zzN78 [] hq))
    ·clear hx8;rcases x8 with _|r10
     ·refine gA ?_;refine Ak hq zzN78 [] ?_;cases h;exact gN Fe
     ·refine T0 (fun st' hk=>?_);cases h;exact gO (Pj hk)
   ·cases h;exact gO (D3 (Du [] [] hq))
  ·clear hx11;rcases x11 with _|r13
   ·refine gA ?_;refine Ak hq [2] [] ?_;obtain rfl:=OI h;exact Dl []
   ·refine T0 (fun st' hk=>?_);obtain rfl:=OI h;exact gK hk
def Ba(aU:List Int)(aW:List Int):Int->Option (LR Int (Unit ⊕ Bool)):=
 fun(i1:Int)=>(bif (decide (i1<(aU.length:Int))) then(Bw (Bd i1 aU.length) (Bw (Bd i1 aW.length) (bif (((aU.getD i1.toNat 0):Int)!=(aW.getD i1.toNat 0)) then(some (.done (.inr false))) else(some (.next (Bb (i1+1))))))) else(some (.done (.inl ()))))
def Rh(Γ:Hy)(aU:List Int)(aW:List Int)(r:Bool):Exit->St->Prop:=fK Tryz.prog Γ Tryz.f61.results.toList [] (.bool r) []
def C6(aU:List Int)(aW:List Int):Option Bool:=
 (bif (((aU.length:Int):Int)!=(aW.length:Int)) then(some false) else((An (Ba aU aW) (0:Int)).bind (fun x4=>(match x4 with|(.inl _)=>(some true)|(.inr r6)=>(some r6)))))
theorem Ic(aU:List Int)(aW:List Int)(r:Bool)(h:C6 aU aW=some r):Spec Tryz.prog 61 [(Z8 aU),(Z8 aW)] [] (.bool r) []:=by
 refine Ab mix Tryz.func61 (fun Γ hq=>?_);unfold C6 at h;refine Ak hq Ip [] ?_;refine Ak hq zzN86 [] ?_;refine gC h ?_ ?_<;>intro h
 ·refine Ak hq [4] [] ?_;obtain rfl:=OI h;exact Dl []
 ·refine Ak hq zzN141 [] ?_;obtain⟨x4,hx4,h⟩:=bind_some h;refine gL hq hx4 zzN141 [] (fun u i1=>(F4 u [(13,(Z7 i1))] [])) (fun u x_=>match x_ with|(.inl _)=>aG Γ (.exit 0) (⟨[],[],[]⟩:St)|(.inr r_)=>aR (Rh Γ aU aW r_)) ?_ ?_
  ·intro i1 y h;unfold Ba at h;refine Ak hq [0,1,12,13,14] [] ?_;refine gC h ?_ ?_<;>intro h
   ·refine Ak hq [0,1,5,12,13] [] ?_;obtain⟨hc2,h⟩:=Aa h;obtain⟨hc3,h⟩:=Aa h;refine gR hq [0,1,12,13,24] [] [] [] (ci hc2 (c1 hc3)) ?_;refine gC h ?_ ?_<;>intro h
    ·refine Ak hq [4] [] ?_;cases h;exact gO (Pj (J9 [] (Le.refl _ _)))
    ·refine Ak hq zzN141 [] ?_;cases h;exact gN Fe
   ·cases h;exact gO (D3 (Du [] [] hq))
  ·clear hx4;rcases x4 with _|r6
   ·refine gA ?_;refine Ak hq [4] [] ?_;obtain rfl:=OI h;exact Dl []
   ·refine T0 (fun st' hk=>?_);obtain rfl:=OI h;exact gK hk
def Ay(aU:List (List Int))(aW:List (List Int)):Int->Option (LR Int (Unit ⊕ Bool)):=
 fun(i1:Int)=>(bif (decide (i1<(aU.length:Int))) then(Bw (Bd i1 aU.length) (Bw (Bd i1 aW.length) ((C6 (aU.getD i1.toNat []) (aW.getD i1.toNat [])).bind fun x4=>(bif (!x4) then(some (.done (.inr false))) else(some (.next (Bb (i1+1)))))))) else(some (.done (.inl ()))))
def K6(Γ:Hy)(aU:List (List Int))(aW:List (List Int))(r:Bool):Exit->St->Prop:=fK Tryz.prog Γ Tryz.f75.results.toList [] (.bool r) []
def B8(aU:List (List Int))(aW:List (List Int)):Option Bool:=
 (bif (((aU.length:Int):Int)!=(aW.length:Int)) then(some false) else((An (Ay aU aW) (0:Int)).bind (fun x5=>(match x5 with|(.inl _)=>(some true)|(.inr r7)=>(some r7)))))
theorem K0(aU:List (List Int))(aW:List (List Int))(r:Bool)(h:B8 aU aW=some r):Spec Tryz.prog 75 [(Z5 aU),(Z5 aW),(.clo 61 [] [])] [] (.bool r) []:=by
 refine Ab mix Tryz.func75 (fun Γ hq=>?_);unfold B8 at h;refine Ak hq zzN131 [] ?_;refine Ak hq [0,1,2,14] [] ?_;refine gC h ?_ ?_<;>intro h
 ·refine Ak hq [6] [] ?_;obtain rfl:=OI h;exact Dl []
 ·refine Ak hq zzN110 [] ?_;obtain⟨x5,hx5,h⟩:=bind_some h;refine gL hq hx5 zzN110 [] (fun u i1=>(F4 u [(17,(Z7 i1))] [])) (fun u x_=>match x_ with|(.inl _)=>aG Γ (.exit 0) (⟨[],[],[]⟩:St)|(.inr r_)=>aR (K6 Γ aU aW r_)) ?_ ?_
  ·intro i1 y h;unfold Ay at h;refine Ak hq [1,2,15,16,17,18] [] ?_;refine gC h ?_ ?_<;>intro h
   ·obtain⟨hc2,h⟩:=Aa h;refine gR hq [1,2,7,8,15,16,17] [] [] [] (c1 hc2) ?_;obtain⟨hc3,h⟩:=Aa h;refine gR hq [1,2,8,9,15,16,17] [] [] [] (c1 hc3) ?_;obtain⟨x4,hx4,h⟩:=bind_some h;refine gR hq [1,2,15,16,17,30] [] [] [(Z2 x4)] (c1 (Ic (aU.getD i1.toNat []) (aW.getD i1.toNat []) x4 hx4)) ?_;refine gC h ?_ ?_<;>intro h
    ·refine Ak hq [6] [] ?_;cases h;exact gO (Pj (J9 [] (Le.refl _ _)))
    ·refine Ak hq zzN110 [] ?_;cases h;exact gN Fe
   ·cases h;exact gO (D3 (Du [] [] hq))
  ·clear hx5;rcases x5 with _|r7
   ·refine gA ?_;refine Ak hq [6] [] ?_;obtain rfl:=OI h;exact Dl []
   ·refine T0 (fun st' hk=>?_);obtain rfl:=OI h;exact gK hk
def Im(a0:Ap):Option Bool:=
 ((Hp a0.Succ).bind fun x1=>((bif (x1==true) then G9 a0.Succ else some []).bind fun x2=>((bif (x1==true) then B8 a0.Pred x2 else some false).bind fun x3=>(some (bif x1 then x3 else false)))))
theorem Oe(a0:Ap)(r:Bool)(h:Im a0=some r):Spec Tryz.prog 43 [(Z43 a0)] [] (.bool r) []:=by
 refine Ab mix Tryz.func43 (fun Γ hq=>?_);unfold Im at h;refine Ak hq [1] [1] ?_;obtain⟨x1,hx1,h⟩:=bind_some h;obtain⟨x2,hx2,h⟩:=bind_some h;obtain⟨x3,hx3,h⟩:=bind_some h;refine gR hq [2] [] [] [(Z2 x1),⟨[],[],(Z5 x2),[],[],[]⟩,(Z2 x3)] (ci (Qv a0.Succ x1 hx1) (ci (gI (x1==true)) (ci (gI (x1==true)) (ci (gI (x1==true)) (ci (show((x1==true)=true->(Spec Tryz.prog 39 [(Z5 a0.Succ)] [] (Z5 x2) [])) from(fun hg=>(Spec.drop (Nu a0.Succ x2 (C2 hg hx2))))) (ci (gI (x1==true)) (ci (gI (x1==true)) (ci (fun(hg:(x1==true)=true)=>(K0 a0.Pred x2 x3 (C2 hg hx3))) (c1 (Oa x1)))))))))) ?_;cases h;exact Dl []
def A6 :(Int×Int×List Int)->Option (LR (Int×Int×List Int) (List Int)):=
 fun((i1,i2,l3):(Int×Int×List Int))=>(bif (decide (i1<i2)) then(Bw (Bd i2 l3.length) (Bw (Bd i1 l3.length) (Bw (Bd i1 l3.length) (Bw (Bd i2 l3.length) (some (.next ((Bb (i1+1)),(Bb (i2-1)),((l3.set i1.toNat (l3.getD i2.toNat 0)).set i2.toNat (l3.getD i1.toNat 0))))))))) else(some (.done l3)))
def Q30(l3:List Int)(i1:Int)(i2:Int):=((l3.set i1.toNat (l3.getD i2.toNat 0)).set i2.toNat (l3.getD i1.toNat 0))
def De(aE:List Int):Option (List Int):=
 ((An (S:=(Int×Int×List Int)) (X:=List Int) A6 ((0:Int),(Bb ((aE.length:Int)-1)),aE)).bind (fun x9=>(some x9)))
theorem Km(aE:List Int)(r:List Int)(h:De aE=some r):Spec Tryz.prog 96 [(.vsl 34000 aE.length)] [(Z4 34000 aE)] (.tuple []) [(Z4 34000 r)]:=by
 refine Ab mix Tryz.func96 (fun Γ hq=>?_);unfold De at h;refine Ak hq [0,2,3] [34000] ?_;obtain⟨x9,hx9,h⟩:=bind_some h;refine gL hq hx9 [0,2,3] [34000] (fun u (i1,i2,l3)=>(F4 u [(0,(.vsl 34000 l3.length)),(2,(Z7 i1)),(3,(Z7 i2))] [(Z4 34000 l3)])) (fun u l4=>aG Γ (.exit 0) (⟨[],[(Z4 34000 l4)],[]⟩:St)) ?_ ?_
 ·rintro⟨i1,i2,l3⟩ y h;unfold A6 at h;refine Ak hq [0,2,3,9] [34000] ?_;refine gC h ?_ ?_<;>intro h
  ·obtain⟨hc5,h⟩:=Aa h;obtain⟨hc6,h⟩:=Aa h;obtain⟨hc7,h⟩:=Aa h;obtain⟨hc8,h⟩:=Aa h;refine gR hq [0,2,3] [34000] [] [] (ci hc5 (ci (Eq.refl l3.length) (ci hc6 (ci (Eq.refl l3.length) (ci hc7 (ci (Eq.refl l3.length) (ci hc8 (c1 (Eq.refl l3.length))))))))) ?_;refine Ll (Le.trans (Rz 34000 (show ∀ k_,k_<l3.length->AVleL ((fun i_=>AV.eraseAll (fun n_=>Cc n_ [34000]) ((Jf (Jf (fun i=>Ar (l3.getD i 0)) i1.toNat 0 [(.int .i64 (l3.getD i2.toNat 0))]) i2.toNat 0 [(.int .i64 (l3.getD i1.toNat 0))]) i_)) k_) ((fun i=>Ar ((Q30 l3 i1 i2).getD i 0)) k_) from(Br (Eq.trans (E5 ..).symm (E5 ..).symm) (fun k_ hk_=>(Bq (AV.eraseAll (fun n_=>Cc n_ [34000])) ((K1 (K1 (fun _ _=>rfl) (L4 hc7) rfl) (inB_lt1 hc8) rfl) k_ hk_)).trans rfl)))) (Vh (fun(k_:Nat) u=>(F4 u [(0,(.vsl 34000 k_))] [(34000,.arr 1 3 k_ (fun i=>Ar ((Q30 l3 i1 i2).getD i 0)))])) (show l3.length=(Q30 l3 i1 i2).length from(Eq.trans (E5 ..).symm (E5 ..).symm)))) ?_;refine Ak hq [0,2,3] [34000] ?_;cases h;exact gN Fe
  ·cases h;exact gO (D3 (Du [] [34000] hq))
 ·clear hx9;refine gA' (fun st' hl10=>?_);obtain rfl:=OI h;exact gK (e:=.normal) (J9 [(34000,34000)] hl10)
def Qr(a0:Ap)(a4:Int):List Int->Option (LR (List Int) (List Int ⊕ (List Bool×List Int×List Int))):=
 fun(l9:List Int)=>(Bw (Bd ([a4].getD (Bb (([a4].length:Int)-1)).toNat (0:Int)) 64) (Bw (Bd ([a4].getD (Bb (([a4].length:Int)-1)).toNat (0:Int)) a0.Succ.length) (bif (decide (((l9.getD ([a4].getD (Bb (([a4].length:Int)-1)).toNat (0:Int)).toNat (0:Int)):Int)<((a0.Succ.getD ([a4].getD (Bb (([a4].length:Int)-1)).toNat (0:Int)).toNat []).length:Int))) then(Bw (Bd ([a4].getD (Bb (([a4].length:Int)-1)).toNat (0:Int)) a0.Succ.length) (Bw (Bd ([a4].getD (Bb (([a4].length:Int)-1)).toNat (0:Int)) 64) (Bw (Bd (l9.getD ([a4].getD (Bb (([a4].length:Int)-1)).toNat (0:Int)).toNat (0:Int)) (a0.Succ.getD ([a4].getD (Bb (([a4].length:Int)-1)).toNat (0:Int)).toNat []).length) (Bw (Bd ([a4].getD (Bb (([a4].length:Int)-1)).toNat (0:Int)) 64) (Bw (Bd ([a4].getD (Bb (([a4].length:Int)-1)).toNat (0:Int)) 64) (Bw (Bd ((a0.Succ.getD ([a4].getD (Bb (([a4].length:Int)-1)).toNat (0:Int)).toNat []).getD (l9.getD ([a4].getD (Bb (([a4].length:Int)-1)).toNat (0:Int)).toNat (0:Int)).toNat (0:Int)) 64) (bif (!((J5 64 false (List.replicate 64 false) a4.toNat true).getD ((a0.Succ.getD ([a4].getD (Bb (([a4].length:Int)-1)).toNat (0:Int)).toNat []).getD (l9.getD ([a4].getD (Bb (([a4].length:Int)-1)).toNat (0:Int)).toNat (0:Int)).toNat (0:Int)).toNat false)) then(Bw (Bd ((a0.Succ.getD ([a4].getD (Bb (([a4].length:Int)-1)).toNat (0:Int)).toNat []).getD (l9.getD ([a4].getD (Bb (([a4].length:Int)-1)).toNat (0:Int)).toNat (0:Int)).toNat (0:Int)) 64) (Bw ([a4].length+([((a0.Succ.getD ([a4].getD (Bb (([a4].length:Int)-1)).toNat (0:Int)).toNat []).getD (l9.getD ([a4].getD (Bb (([a4].length:Int)-1)).toNat (0:Int)).toNat (0:Int)).toNat (0:Int))]:List Int).length<=room) (some (.done (.inr ((J5 64 false (J5 64 false (List.replicate 64 false) a4.toNat true) ((a0.Succ.getD ([a4].getD (Bb (([a4].length:Int)-1)).toNat (0:Int)).toNat []).getD (l9.getD ([a4].getD (Bb (([a4].length:Int)-1)).toNat (0:Int)).toNat (0:Int)).toNat (0:Int)).toNat true),(J5 64 (0:Int) l9 ([a4].getD (Bb (([a4].length:Int)-1)).toNat (0:Int)).toNat (Bb ((l9.getD ([a4].getD (Bb (([a4].length:Int)-1)).toNat (0:Int)).toNat (0:Int))+1))),([a4]++([((a0.Succ.getD ([a4].getD (Bb (([a4].length:Int)-1)).toNat (0:Int)).toNat []).getD (l9.getD ([a4].getD (Bb (([a4].length:Int)-1)).toNat (0:Int)).toNat (0:Int)).toNat (0:Int))]:List Int)))))))) else(some (.next (J5 64 (0:Int) l9 ([a4].getD (Bb (([a4].length:Int)-1)).toNat (0:Int)).toNat (Bb ((l9.getD ([a4].getD (Bb (([a4].length:Int)-1)).toNat (0:Int)).toNat (0:Int))+1)))))))))))) else(some (.done (.inl l9))))))
def Fn(a0:Ap)(l1:List Bool)(l3:List Int):List Int->Option (LR (List Int) (List Int ⊕ (List Bool×List Int×List Int))):=
 fun(l32:List Int)=>(Bw (Bd (l3.getD (Bb ((l3.length:Int)-1)).toNat (0:Int)) 64) (Bw (Bd (l3.getD (Bb ((l3.length:Int)-1)).toNat (0:Int)) a0.Succ.length) (bif (decide (((l32.getD (l3.getD (Bb ((l3.length:Int)-1)).toNat (0:Int)).toNat (0:Int)):Int)<((a0.Succ.getD (l3.getD (Bb ((l3.length:Int)-1)).toNat (0:Int)).toNat []).length:Int))) then(Bw (Bd (l3.getD (Bb ((l3.length:Int)-1)).toNat (0:Int)) a0.Succ.length) (Bw (Bd (l3.getD (Bb ((l3.length:Int)-1)).toNat (0:Int)) 64) (Bw (Bd (l32.getD (l3.getD (Bb ((l3.length:Int)-1)).toNat (0:Int)).toNat (0:Int)) (a0.Succ.getD (l3.getD (Bb ((l3.length:Int)-1)).toNat (0:Int)).toNat []).length) (Bw (Bd (l3.getD (Bb ((l3.length:Int)-1)).toNat (0:Int)) 64) (Bw (Bd (l3.getD (Bb ((l3.length:Int)-1)).toNat (0:Int)) 64) (Bw (Bd ((a0.Succ.getD (l3.getD (Bb ((l3.length:Int)-1)).toNat (0:Int)).toNat []).getD (l32.getD (l3.getD (Bb ((l3.length:Int)-1)).toNat (0:Int)).toNat (0:Int)).toNat (0:Int)) 64) (bif (!(l1.getD ((a0.Succ.getD (l3.getD (Bb ((l3.length:Int)-1)).toNat (0:Int)).toNat []).getD (l32.getD (l3.getD (Bb ((l3.length:Int)-1)).toNat (0:Int)).toNat (0:Int)).toNat (0:Int)).toNat false)) then(Bw (Bd ((a0.Succ.getD (l3.getD (Bb ((l3.length:Int)-1)).toNat (0:Int)).toNat []).getD (l32.getD (l3.getD (Bb ((l3.length:Int)-1)).toNat (0:Int)).toNat (0:Int)).toNat (0:Int)) 64) (Bw (l3.length+([((a0.Succ.getD (l3.getD (Bb ((l3.length:Int)-1)).toNat (0:Int)).toNat []).getD (l32.getD (l3.getD (Bb ((l3.length:Int)-1)).toNat (0:Int)).toNat (0:Int)).toNat (0:Int))]:List Int).length<=room) (some (.done (.inr ((J5 64 false l1 ((a0.Succ.getD (l3.getD (Bb ((l3.length:Int)-1)).toNat (0:Int)).toNat []).getD (l32.getD (l3.getD (Bb ((l3.length:Int)-1)).toNat (0:Int)).toNat (0:Int)).toNat (0:Int)).toNat true),(J5 64 (0:Int) l32 (l3.getD (Bb ((l3.length:Int)-1)).toNat (0:Int)).toNat (Bb ((l32.getD (l3.getD (Bb ((l3.length:Int)-1)).toNat (0:Int)).toNat (0:Int))+1))),(l3++([((a0.Succ.getD (l3.getD (Bb ((l3.length:Int)-1)).toNat (0:Int)).toNat []).getD (l32.getD (l3.getD (Bb ((l3.length:Int)-1)).toNat (0:Int)).toNat (0:Int)).toNat (0:Int))]:List Int)))))))) else(some (.next (J5 64 (0:Int) l32 (l3.getD (Bb ((l3.length:Int)-1)).toNat (0:Int)).toNat (Bb ((l32.getD (l3.getD (Bb ((l3.length:Int)-1)).toNat (0:Int)).toNat (0:Int))+1)))))))))))) else(some (.done (.inl l32))))))
def Cz(a0:Ap):(List Bool×List Int×List Int×List Int)->Option (LR (List Bool×List Int×List Int×List Int) (List Int)):=
 fun(s_:(List Bool×List Int×List Int×List Int))=>match s_ with|(l1,l2,l3,l4)=>(Bw (Bd (Bb ((l3.length:Int)-1)) l3.length) ((An (Fn a0 l1 l3) l2).bind (fun x47=>(match x47 with|(.inl l33)=>(Bw (l4.length+([(l3.getD (Bb ((l3.length:Int)-1)).toNat (0:Int))]:List Int).length<=room) (Bw (0<=(Bb ((l3.length:Int)-1))/\0+(Bb ((l3.length:Int)-1)).toNat<=l3.length) (bif (decide (((0:Int):Int)<((l3.take (Bb ((l3.length:Int)-1)).toNat).length:Int))) then(some (.next (l1,l33,(l3.take (Bb ((l3.length:Int)-1)).toNat),(l4++([(l3.getD (Bb ((l3.length:Int)-1)).toNat (0:Int))]:List Int))))) else((De (l4++([(l3.getD (Bb ((l3.length:Int)-1)).toNat (0:Int))]:List Int))).bind fun x51=>(Bw ((l4++([(l3.getD (Bb ((l3.length:Int)-1)).toNat (0:Int))]:List Int)).length=x51.length) (some (.done x51)))))))|(.inr (l34,l35,l36))=>(some (.next (l34,l35,l36,l4)))))))
def K_graph_Order(Γ:Hy)(a0:Ap)(a4:Int)(r:List Int):Exit->St->Prop:=fK Tryz.prog Γ Tryz.f70.results.toList [] (Z26 r 20000) [(20000,.tok 1 3 r.length)]
def Q49(l1:List Bool):=(fun i=>eB (l1.getD i false))
def Q32(l3:List Int):=(l3.getD (Bb ((l3.length:Int)-1)).toNat (0:Int))
def Q46(l4:List Int)(l3:List Int):=(l4++([(Q32 l3)]:List Int))
def Q42(l10:List Int):=(fun i=>Ar (l10.getD i 0))
def Q48(l33:List Int):=(fun i=>Ar (l33.getD i 0))
def Q35:=(fun n_=>Cc n_ [2,5,6,25,36007])
def Q38(a4:Int):=(fun i=>Ar ([a4].getD i 0))
def Q31(a4:Int):=([a4].getD (Bb (([a4].length:Int)-1)).toNat (0:Int))
def Q45(a4:Int):=(([]:List Int)++([(Q31 a4)]:List Int))
def Q53(a4:Int):=(fun i=>Ar ((Q45 a4).getD i 0))
def Q52(l4:List Int)(l3:List Int):=(fun i=>Ar ((Q46 l4 l3).getD i 0))
def Q39:AV:=Z19
def Q41:=(fun i=>Ar (([]:List Int).getD i 0))
def Q37(l3:List Int):=(0+(Bb ((l3.length:Int)-1)).toNat)
def Q36(a4:Int):=(0+(Bb (([a4].length:Int)-1)).toNat)
def Q51(a4:Int):=([a4].take (Bb (([a4].length:Int)-1)).toNat)
def Q40:=(fun i=>Ar ((List.replicate 64 (0:Int)).getD i 0))
def Q33(a0:Ap):List AV:=[(Z5 a0.Succ),(Z5 a0.Pred)]
def Q34(a4:Int):=(fun i=>eB ((J5 64 false (List.replicate 64 false) a4.toNat true).getD i false))
def Q44(a0:Ap)(l3:List Int)(l32:List Int):=((a0.Succ.getD (Q32 l3).toNat []).getD (l32.getD (Q32 l3).toNat (0:Int)).toNat (0:Int))
def Q43(a0:Ap)(a4:Int)(l9:List Int):=((a0.Succ.getD (Q31 a4).toNat []).getD (l9.getD (Q31 a4).toNat (0:Int)).toNat (0:Int))
def Q50:=(Z73:St)
def Q54(a4:Int):List (Nat×AV):=[Oj,Z59,Z57,(7,(.vsl 36007 (Q45 a4).length)),(8,(.vsl 25 (Q36 a4)))]
def Q47(a4:Int)(a0:Ap):=(⟨[Oj,Z59,Z57,(7,(.vsl 36007 ([]:List Int).length)),(8,(.vsl 25 [a4].length)),(9,(Z7 (Q31 a4)))],[(Rf 41 (Q33 a0)),(Z78 (Q34 a4)),(Z69 Q40),(25,.arr 1 3 ([a4].length) (Q38 a4)),(36007,.arr 1 3 (([]:List Int).length) Q41)],[]⟩:St)
def F1(a0:Ap)(a4:Int):Option (List Int):=
 ((My (S:=(List Bool×List Int×List Int×List Int)) (X:=List Int) ((Im a0).bind fun x5=>((bif ((!x5)==false) then Gm a4 (a0.Succ.length:Int) else some false).bind fun x6=>(bif (bif (!x5) then true else(!x6)) then(some (.done ([]:List Int))) else(Bw (Bd a4 64) (Bw (Bd (Bb (([a4].length:Int)-1)) [a4].length) ((An (Qr a0 a4) (List.replicate 64 (0:Int))).bind (fun x24=>(match x24 with|(.inl l10)=>(Bw (([]:List Int).length+([([a4].getD (Bb (([a4].length:Int)-1)).toNat (0:Int))]:List Int).length<=room) (Bw (0<=(Bb (([a4].length:Int)-1))/\0+(Bb (([a4].length:Int)-1)).toNat<=[a4].length) (bif (decide (((0:Int):Int)<(([a4].take (Bb (([a4].length:Int)-1)).toNat).length:Int))) then(some (.next ((J5 64 false (List.replicate 64 false) a4.toNat true),l10,([a4].take (Bb (([a4].length:Int)-1)).toNat),(([]:List Int)++([([a4].getD (Bb (([a4].length:Int)-1)).toNat (0:Int))]:List Int))))) else((De (([]:List Int)++([([a4].getD (Bb (([a4].length:Int)-1)).toNat (0:Int))]:List Int))).bind fun x28=>(Bw ((([]:List Int)++([([a4].getD (Bb (([a4].length:Int)-1)).toNat (0:Int))]:List Int)).length=x28.length) (some (.done x28)))))))|(.inr (l11,l12,l13))=>(some (.next (l11,l12,l13,([]:List Int)))))))))))) (Cz a0)).bind (fun x54=>(some x54)))
theorem O2(a0:Ap)(a4:Int)(r:List Int)(h:F1 a0 a4=some r):Spec Tryz.prog 70 [(Z43 a0),(Z7 a4)] [] (Z26 r 20000) [(20000,.tok 1 3 r.length)]:=by
 refine Ab mix Tryz.func70 (fun Γ hq=>?_);have hΓ:=hq.own;unfold F1 at h;refine gR hq K4 [2] [(4,Q39)] [] (c1 (Dx 1 Ar (0:Int))) ?_;obtain⟨x54,hx54,h⟩:=bind_some h;refine gS hx54 (fun(s_:(List Bool×List Int×List Int×List Int))=>match s_ with|(l1,l2,l3,l4)=>0) (fun(s_:(List Bool×List Int×List Int×List Int))=>match s_ with|(l1,l2,l3,l4)=>(⟨[Oj,Z59,Z57,(7,(.vsl 36007 l4.length)),(8,(.vsl 25 l3.length))],[(Rf 41 (Q33 a0)),(Z78 (Q49 l1)),(Z50 l2),(Z4 25 l3),(Z4 36007 l4)],[]⟩:St)) (fun r_=>aR (K_graph_Order Γ a0 a4 r_)) ?_ ?_ ?_
 ·clear h hx54;intro y h;obtain⟨x5,hx5,h⟩:=bind_some h;obtain⟨x6,hx6,h⟩:=bind_some h;refine gR hq [1,2,21] [2] [] [(Z2 x5),(Z2 x6)] (ci (Oe a0 x5 hx5) (ci (gI ((!x5)==false)) (ci (gI ((!x5)==false)) (ci (gI ((!x5)==false)) (ci (gI ((!x5)==false)) (ci (fun(hg:((!x5)==false)=true)=>(Mv a4 (a0.Succ.length:Int) x6 (C2 hg hx6))) (ci (gI ((!x5)==false)) (c1 (Vw (!x5)))))))))) ?_;refine gC h ?_ ?_<;>intro h
  ·refine gR hq [4] [] [(4,Q39)] [] (c1 (Dx 1 Ar (0:Int))) ?_;refine N9 (⟨[(4,Q39)],[],[]⟩:St) ?_;cases h;exact gJo (Pj (J9 zzN132 (show Le Γ _ Q50 from Le.trans (Du (st':=⟨[(4,Q39)],[],[]⟩) [4] [] hq) (Le.trans (P8 (t:=4) (nm:=6004) (sz':=1) Q41 3 rfl rfl (.inl ⟨rfl,rfl⟩) (fun h_=>absurd h_ (by decide))) (Du (st':=Q50) [4] [6004] hq)))))
  ·refine gR hq zzN94 [2,5] [Z59] [] trivial ?_;refine Ll (Rz 5 (show ∀ k_,k_<64->AVleL ((fun i_=>AV.eraseAll (fun n_=>Cc n_ [2,5]) ((fun i=>(((List.replicate 64 [(.bool false)]).flatten).drop (i*1)).take 1) i_)) k_) ((fun i=>eB ((List.replicate 64 false).getD i false)) k_) from(U9 (e:=eB) (d:=false) (z:=[(.bool false)]) rfl rfl rfl))) ?_;refine gR hq [1,2,5,6] Wn [Z57] [] trivial ?_;refine Ll (Rz 6 (show ∀ k_,k_<64->AVleL ((fun i_=>AV.eraseAll (fun n_=>Cc n_ Wn) ((fun i=>(((List.replicate 64 [Td]).flatten).drop (i*1)).take 1) i_)) k_) (Q40 k_) from(U9 (e:=Ar) (d:=(0:Int)) (z:=[Td]) rfl rfl rfl))) ?_;refine gR hq [1,2,5,6,7] Wn [(7,Q39)] [] (c1 (Dx 1 Ar (0:Int))) ?_;obtain⟨hc7,h⟩:=Aa h;refine gR hq [1,2,5,6,7] Wn [] [] (ci hc7 (c1 (Eq.refl 64))) ?_;refine Ll (Rz 5 (show ∀ k_,k_<64->AVleL ((fun i_=>AV.eraseAll (fun n_=>Cc n_ Wn) ((Jf (fun i=>eB ((List.replicate 64 false).getD i false)) a4.toNat 0 [(.bool true)]) i_)) k_) ((Q34 a4) k_) from(Br rfl (fun k_ hk_=>(Bq (AV.eraseAll (fun n_=>Cc n_ Wn)) ((On (fun _ _=>rfl) (Fy hc7) rfl) k_ hk_)).trans rfl)))) ?_;refine gR hq U5 zzN116 [(25,(.vsl 25 1))] [] trivial ?_;refine Ll (Le.trans (Rz 25 (show ∀ k_,k_<1->AVleL ((fun i_=>AV.eraseAll (fun n_=>Cc n_ zzN116) ((fun i_=>([(Z7 a4)].drop (i_*1)).take 1) i_)) k_) ((Q38 a4) k_) from(Br rfl (pw_snoc (n:=0) pw_nil rfl)))) (Vh (fun(k_:Nat) u=>(F4 u [(8,(.vsl 25 k_))] [(25,.arr 1 3 k_ (Q38 a4))])) (show 1=[a4].length from rfl))) ?_;obtain⟨hc8,h⟩:=Aa h;refine gR hq Wk zzN116 [] [] (ci hc8 (c1 (Eq.refl ([a4].length)))) ?_;refine Ll (st':=(Q47 a4 a0)) (Le.trans (Du (st':=⟨[Oj,Z59,Z57,(7,Q39),(8,(.vsl 25 [a4].length)),(9,(Z7 (Q31 a4)))],[(Rf 41 (Q33 a0)),(Z78 (Q34 a4)),(Z69 Q40),(25,.arr 1 3 ([a4].length) (Q38 a4))],[]⟩) Wk zzN116 hq) (Le.trans (le_arr (t:=7) (nm:=36007) (sz':=1) Q41 3 rfl rfl) (Du (st':=(Q47 a4 a0)) Wk Lu hq))) ?_;obtain⟨x24,hx24,h⟩:=bind_some h;refine gL hq hx24 Wk Lu (fun u l9=>(F4 u [] [(Z50 l9)])) (fun u x_=>match x_ with|(.inl l10)=>aG Γ (.exit 0) (F4 u [] [(Z69 (Q42 l10))])|(.inr (l11,l12,l13))=>aG Γ (.goto 0) (W8 U5 Lu u [(8,(.vsl 25 l13.length))] [(5,.arr 1 82 64 (fun i=>eB (l11.getD i false))),(Z50 l12),(Z4 25 l13)])) ?_ ?_
   ·intro l9 y h;unfold Qr at h;obtain⟨hc14,h⟩:=Aa h;obtain⟨hc15,h⟩:=Aa h;refine gR hq [2,5,6,7,8,9,41] Lu [] [] (ci hc14 (ci (Eq.refl 64) (c1 hc15))) ?_;refine gC h ?_ ?_<;>intro h
    ·obtain⟨hc16,h⟩:=Aa h;obtain⟨hc17,h⟩:=Aa h;obtain⟨hc18,h⟩:=Aa h;refine gR hq zzN68 Lu [] [] (ci hc16 (ci hc17 (ci (Eq.refl 64) (c1 hc18)))) ?_;obtain⟨hc19,h⟩:=Aa h;obtain⟨hc20,h⟩:=Aa h;refine gR hq zzN68 Lu [] [] (ci hc19 (ci (Eq.refl 64) (ci hc20 (c1 (Eq.refl 64))))) ?_;refine Ll (Rz 6 (show ∀ k_,k_<64->AVleL ((fun i_=>AV.eraseAll Q35 ((Jf (fun i=>Ar (l9.getD i 0)) (Q31 a4).toNat 0 [(.int .i64 (Bb ((l9.getD (Q31 a4).toNat (0:Int))+1)))]) i_)) k_) ((fun i=>Ar ((J5 64 (0:Int) l9 (Q31 a4).toNat (Bb ((l9.getD (Q31 a4).toNat (0:Int))+1))).getD i 0)) k_) from(Br rfl (fun k_ hk_=>(Bq (AV.eraseAll Q35) ((On (fun _ _=>rfl) (Fy hc20) rfl) k_ hk_)).trans rfl)))) ?_;obtain⟨hc21,h⟩:=Aa h;refine gR hq zzN117 Lu [] [] (ci hc21 (c1 (Eq.refl 64))) ?_;refine gC h ?_ ?_<;>intro h
     ·obtain⟨hc22,h⟩:=Aa h;refine gR hq [2,5,6,7,8,10] Lu [] [] (ci hc22 (c1 (Eq.refl 64))) ?_;refine Ll (Rz 5 (show ∀ k_,k_<64->AVleL ((fun i_=>AV.eraseAll Q35 ((Jf (Q34 a4) (Q43 a0 a4 l9).toNat 0 [(.bool true)]) i_)) k_) ((fun i=>eB ((J5 64 false (J5 64 false (List.replicate 64 false) a4.toNat true) (Q43 a0 a4 l9).toNat true).getD i false)) k_) from(Br rfl (fun k_ hk_=>(Bq (AV.eraseAll Q35) ((On (fun _ _=>rfl) (Fy hc22) rfl) k_ hk_)).trans rfl)))) ?_;obtain⟨hc23,h⟩:=Aa h;refine gR hq U5 Lu [(65,(Z29 (Q43 a0 a4 l9)))] [] (ci (Ca 1 Ar (0:Int) ([(Q43 a0 a4 l9)]:List Int)) (ci (Eq.refl ([a4].length)) (c1 hc23))) ?_;cases h;exact gO (D3 (Le.trans (Le.trans (Rz 25 (show ∀ k_,k_<([a4].length+([(Q43 a0 a4 l9)]:List Int).length)->AVleL ((fun i_=>AV.eraseAll Q35 ((Ku ([a4].length) (Q38 a4) (fun i=>Ar (([(Q43 a0 a4 l9)]:List Int).getD i 0))) i_)) k_) ((fun i=>Ar (([a4]++([(Q43 a0 a4 l9)]:List Int)).getD i 0)) k_) from(Br (He _ _) (fun k_ hk_=>(Bq (AV.eraseAll Q35) ((Xp (fun _ _=>rfl) (fun _ _=>rfl)) k_ hk_)).trans rfl)))) (Vh (fun(k_:Nat) u=>(F4 u [(8,(.vsl 25 k_))] [(25,.arr 1 3 k_ (fun i=>Ar (([a4]++([(Q43 a0 a4 l9)]:List Int)).getD i 0)))])) (show([a4].length+([(Q43 a0 a4 l9)]:List Int).length)=([a4]++([(Q43 a0 a4 l9)]:List Int)).length from(He _ _)))) Fe))
     ·cases h;exact gN (Du Wk Lu hq)
    ·cases h;exact gO (D3 (Du Wk Lu hq))
   ·clear hx24;rcases x24 with l10|⟨l11,l12,l13⟩
    ·refine gA ?_;obtain⟨hc26,h⟩:=Aa h;refine gR hq U5 Lu [(69,(Z29 (Q31 a4)))] [] (ci (Ca 1 Ar (0:Int) ([(Q31 a4)]:List Int)) (ci (Eq.refl (([]:List Int).length)) (c1 hc26))) ?_;refine Ll (Le.trans (Rz 36007 (show ∀ k_,k_<(([]:List Int).length+([(Q31 a4)]:List Int).length)->AVleL ((fun i_=>AV.eraseAll Q35 ((Ku (([]:List Int).length) Q41 (fun i=>Ar (([(Q31 a4)]:List Int).getD i 0))) i_)) k_) ((Q53 a4) k_) from(Br (He _ _) (fun k_ hk_=>(Bq (AV.eraseAll Q35) ((Xp (fun _ _=>rfl) (fun _ _=>rfl)) k_ hk_)).trans rfl)))) (Vh (fun(k_:Nat) u=>(F4 u (Z65 36007 k_) [(36007,.arr 1 3 k_ (Q53 a4))])) (show(([]:List Int).length+([(Q31 a4)]:List Int).length)=(Q45 a4).length from(He _ _)))) ?_;obtain⟨hc27,h⟩:=Aa h;refine gR hq U5 Lu [] [] (c1 hc27) ?_;refine N9 (⟨[Oj,Z59,Z57,(7,(.vsl 36007 (Q45 a4).length)),(8,(.vsub 25 [a4].length 0 (Q36 a4)))],[(Rf 41 (Q33 a0)),(Z78 (Q34 a4)),(Z69 (Q42 l10)),(25,.arr 1 3 ([a4].length) (Q38 a4)),(36007,.arr 1 3 ((Q45 a4).length) (Q53 a4))],[]⟩:St) ?_;refine Ll (Le.trans (Le.trans (le_trunc (t:=8) (r:=25) (k:=(Q36 a4)) rfl rfl hc27.2 (by kernel_rfl) (.row (by kernel_rfl) (.arr (fun _=>by kernel_rfl) (.arr (fun _=>by kernel_rfl) (.arr (fun _=>by kernel_rfl) (.arr (fun _=>by kernel_rfl) .nil))))) (by rw[hΓ];rfl)) (Gy (st':=⟨(Q54 a4),[(Rf 41 (Q33 a0)),(Z78 (Q34 a4)),(Z69 (Q42 l10)),(25,.arr 1 3 (Q36 a4) (Q38 a4)),(36007,.arr 1 3 ((Q45 a4).length) (Q53 a4))],[]⟩) (by kernel_rfl))) (Le.trans (Na (st':=⟨(Q54 a4),[(Rf 41 (Q33 a0)),(Z78 (Q34 a4)),(Z69 (Q42 l10)),(25,.arr 1 3 (Q36 a4) (fun i=>Ar ((Q51 a4).getD i 0))),(36007,.arr 1 3 ((Q45 a4).length) (Q53 a4))],[]⟩) (TmpsLe.refl _) (.same (.same (.same (.arr (take_le (e:=Ar) (d:=(0:Int))) (.same .nil)))))) (Gy (Bq (fun k_:Nat=>(⟨[Oj,Z59,Z57,(7,(.vsl 36007 (Q45 a4).length)),(8,(.vsl 25 k_))],[(Rf 41 (Q33 a0)),(Z78 (Q34 a4)),(Z69 (Q42 l10)),(25,.arr 1 3 k_ (fun i=>Ar ((Q51 a4).getD i 0))),(36007,.arr 1 3 ((Q45 a4).length) (Q53 a4))],[]⟩:St)) (show(Q36 a4)=(Q51 a4).length from take_len hc27.2))))) ?_;refine Ak hq [2,5,6,7,8,78] Lu ?_;refine gC h ?_ ?_<;>intro h
     ·cases h;exact gJn (Du U5 Lu hq)
     ·obtain⟨x28,hx28,h⟩:=bind_some h;obtain⟨hc29,h⟩:=Aa h;refine gR hq [7] [36007] [] [⟨[(36007,34000)],[],(.tuple []),[(Z4 34000 x28)],[],[]⟩] (c1 (Km (Q45 a4) x28 hx28)) ?_;refine Ll (Vh (fun(k_:Nat) u=>(F4 u (Z65 36007 k_) [])) (show(Q45 a4).length=x28.length from hc29)) ?_;refine Ak hq [4] [36007] ?_;refine N9 (⟨[(4,(.vsl 36007 x28.length))],[(Z4 36007 x28)],[]⟩:St) ?_;cases h;exact gJo (Pj (J9 [(36007,20000)] (Le.trans (Hl (nm:=36007) (sz:=1) (n:=x28.length) (e:=3) (f:=(fun i=>Ar (x28.getD i 0))) (g:=(fun i=>Ar (x28.getD i 0))) rfl ⟨rfl,trivial⟩ (fun _ _=>rfl) (by rw[hΓ];rfl)) (Gy (st':=(Z71 x28 36007 x28.length)) (by kernel_rfl)))))
    ·refine gA' (fun st' hl30=>?_);cases h;exact gJn (Le.trans hl30 Fe)
 ·clear h hx54;rintro⟨l1,l2,l3,l4⟩ y h;unfold Cz at h;obtain⟨hc31,h⟩:=Aa h;refine gR hq Wk Lu [] [] (ci hc31 (c1 (Eq.refl l3.length))) ?_;obtain⟨x47,hx47,h⟩:=bind_some h;refine gL hq hx47 Wk Lu (fun u l32=>(F4 u [] [(Z50 l32)])) (fun u x_=>match x_ with|(.inl l33)=>aG Γ (.exit 0) (F4 u [] [(Z69 (Q48 l33))])|(.inr (l34,l35,l36))=>aG Γ (.goto 0) (W8 U5 Lu u [(8,(.vsl 25 l36.length))] [(5,.arr 1 82 64 (fun i=>eB (l34.getD i false))),(Z50 l35),(Z4 25 l36)])) ?_ ?_
  ·intro l32 y h;unfold Fn at h;obtain⟨hc37,h⟩:=Aa h;obtain⟨hc38,h⟩:=Aa h;refine gR hq [2,5,6,7,8,9,41] Lu [] [] (ci hc37 (ci (Eq.refl 64) (c1 hc38))) ?_;refine gC h ?_ ?_<;>intro h
   ·obtain⟨hc39,h⟩:=Aa h;obtain⟨hc40,h⟩:=Aa h;obtain⟨hc41,h⟩:=Aa h;refine gR hq zzN68 Lu [] [] (ci hc39 (ci hc40 (ci (Eq.refl 64) (c1 hc41)))) ?_;obtain⟨hc42,h⟩:=Aa h;obtain⟨hc43,h⟩:=Aa h;refine gR hq zzN68 Lu [] [] (ci hc42 (ci (Eq.refl 64) (ci hc43 (c1 (Eq.refl 64))))) ?_;refine Ll (Rz 6 (show ∀ k_,k_<64->AVleL ((fun i_=>AV.eraseAll Q35 ((Jf (fun i=>Ar (l32.getD i 0)) (Q32 l3).toNat 0 [(.int .i64 (Bb ((l32.getD (Q32 l3).toNat (0:Int))+1)))]) i_)) k_) ((fun i=>Ar ((J5 64 (0:Int) l32 (Q32 l3).toNat (Bb ((l32.getD (Q32 l3).toNat (0:Int))+1))).getD i 0)) k_) from(Br rfl (fun k_ hk_=>(Bq (AV.eraseAll Q35) ((On (fun _ _=>rfl) (Fy hc43) rfl) k_ hk_)).trans rfl)))) ?_;obtain⟨hc44,h⟩:=Aa h;refine gR hq zzN117 Lu [] [] (ci hc44 (c1 (Eq.refl 64))) ?_;refine gC h ?_ ?_<;>intro h
    ·obtain⟨hc45,h⟩:=Aa h;refine gR hq [2,5,6,7,8,10] Lu [] [] (ci hc45 (c1 (Eq.refl 64))) ?_;refine Ll (Rz 5 (show ∀ k_,k_<64->AVleL ((fun i_=>AV.eraseAll Q35 ((Jf (Q49 l1) (Q44 a0 l3 l32).toNat 0 [(.bool true)]) i_)) k_) ((fun i=>eB ((J5 64 false l1 (Q44 a0 l3 l32).toNat true).getD i false)) k_) from(Br rfl (fun k_ hk_=>(Bq (AV.eraseAll Q35) ((On (fun _ _=>rfl) (Fy hc45) rfl) k_ hk_)).trans rfl)))) ?_;obtain⟨hc46,h⟩:=Aa h;refine gR hq U5 Lu [(65,(Z29 (Q44 a0 l3 l32)))] [] (ci (Ca 1 Ar (0:Int) ([(Q44 a0 l3 l32)]:List Int)) (ci (Eq.refl l3.length) (c1 hc46))) ?_;cases h;exact gO (D3 (Le.trans (Le.trans (Rz 25 (show ∀ k_,k_<(l3.length+([(Q44 a0 l3 l32)]:List Int).length)->AVleL ((fun i_=>AV.eraseAll Q35 ((Ku l3.length (fun i=>Ar (l3.getD i 0)) (fun i=>Ar (([(Q44 a0 l3 l32)]:List Int).getD i 0))) i_)) k_) ((fun i=>Ar ((l3++([(Q44 a0 l3 l32)]:List Int)).getD i 0)) k_) from(Br (He _ _) (fun k_ hk_=>(Bq (AV.eraseAll Q35) ((Xp (fun _ _=>rfl) (fun _ _=>rfl)) k_ hk_)).trans rfl)))) (Vh (fun(k_:Nat) u=>(F4 u [(8,(.vsl 25 k_))] [(25,.arr 1 3 k_ (fun i=>Ar ((l3++([(Q44 a0 l3 l32)]:List Int)).getD i 0)))])) (show(l3.length+([(Q44 a0 l3 l32)]:List Int).length)=(l3++([(Q44 a0 l3 l32)]:List Int)).length from(He _ _)))) Fe))
    ·cases h;exact gN (Du Wk Lu hq)
   ·cases h;exact gO (D3 (Du Wk Lu hq))
  ·clear hx47;rcases x47 with l33|⟨l34,l35,l36⟩
   ·refine gA ?_;obtain⟨hc49,h⟩:=Aa h;refine gR hq U5 Lu [(69,(Z29 (Q32 l3)))] [] (ci (Ca 1 Ar (0:Int) ([(Q32 l3)]:List Int)) (ci (Eq.refl l4.length) (c1 hc49))) ?_;refine Ll (Le.trans (Rz 36007 (show ∀ k_,k_<(l4.length+([(Q32 l3)]:List Int).length)->AVleL ((fun i_=>AV.eraseAll Q35 ((Ku l4.length (fun i=>Ar (l4.getD i 0)) (fun i=>Ar (([(Q32 l3)]:List Int).getD i 0))) i_)) k_) ((Q52 l4 l3) k_) from(Br (He _ _) (fun k_ hk_=>(Bq (AV.eraseAll Q35) ((Xp (fun _ _=>rfl) (fun _ _=>rfl)) k_ hk_)).trans rfl)))) (Vh (fun(k_:Nat) u=>(F4 u (Z65 36007 k_) [(36007,.arr 1 3 k_ (Q52 l4 l3))])) (show(l4.length+([(Q32 l3)]:List Int).length)=(Q46 l4 l3).length from(He _ _)))) ?_;obtain⟨hc50,h⟩:=Aa h;refine gR hq U5 Lu [] [] (c1 hc50) ?_;refine N9 (⟨[Oj,Z59,Z57,(7,(.vsl 36007 (Q46 l4 l3).length)),(8,(.vsub 25 l3.length 0 (Q37 l3)))],[(Rf 41 (Q33 a0)),(Z78 (Q49 l1)),(Z69 (Q48 l33)),(Z4 25 l3),(36007,.arr 1 3 ((Q46 l4 l3).length) (Q52 l4 l3))],[]⟩:St) ?_;refine Ll (Le.trans (Le.trans (le_trunc (t:=8) (r:=25) (k:=(Q37 l3)) rfl rfl hc50.2 (by kernel_rfl) (.row (by kernel_rfl) (.arr (fun _=>by kernel_rfl) (.arr (fun _=>by kernel_rfl) (.arr (fun _=>by kernel_rfl) (.arr (fun _=>by kernel_rfl) .nil))))) (by rw[hΓ];rfl)) (Gy (st':=⟨[Oj,Z59,Z57,(7,(.vsl 36007 (Q46 l4 l3).length)),(8,(.vsl 25 (Q37 l3)))],[(Rf 41 (Q33 a0)),(Z78 (Q49 l1)),(Z69 (Q48 l33)),(25,.arr 1 3 (Q37 l3) (fun i=>Ar (l3.getD i 0))),(36007,.arr 1 3 ((Q46 l4 l3).length) (Q52 l4 l3))],[]⟩) (by kernel_rfl))) (Le.trans (Na (st':=⟨[Oj,Z59,Z57,(7,(.vsl 36007 (Q46 l4 l3).length)),(8,(.vsl 25 (Q37 l3)))],[(Rf 41 (Q33 a0)),(Z78 (Q49 l1)),(Z69 (Q48 l33)),(25,.arr 1 3 (Q37 l3) (fun i=>Ar ((l3.take (Bb ((l3.length:Int)-1)).toNat).getD i 0))),(36007,.arr 1 3 ((Q46 l4 l3).length) (Q52 l4 l3))],[]⟩) (TmpsLe.refl _) (.same (.same (.same (.arr (take_le (e:=Ar) (d:=(0:Int))) (.same .nil)))))) (Gy (Bq (fun k_:Nat=>(⟨[Oj,Z59,Z57,(7,(.vsl 36007 (Q46 l4 l3).length)),(8,(.vsl 25 k_))],[(Rf 41 (Q33 a0)),(Z78 (Q49 l1)),(Z69 (Q48 l33)),(25,.arr 1 3 k_ (fun i=>Ar ((l3.take (Bb ((l3.length:Int)-1)).toNat).getD i 0))),(36007,.arr 1 3 ((Q46 l4 l3).length) (Q52 l4 l3))],[]⟩:St)) (show(Q37 l3)=(l3.take (Bb ((l3.length:Int)-1)).toNat).length from take_len hc50.2))))) ?_;refine Ak hq [2,5,6,7,8,78] Lu ?_;refine gC h ?_ ?_<;>intro h
    ·cases h;exact gJn (Du U5 Lu hq)
    ·obtain⟨x51,hx51,h⟩:=bind_some h;obtain⟨hc52,h⟩:=Aa h;refine gR hq [7] [36007] [] [⟨[(36007,34000)],[],(.tuple []),[(Z4 34000 x51)],[],[]⟩] (c1 (Km (Q46 l4 l3) x51 hx51)) ?_;refine Ll (Vh (fun(k_:Nat) u=>(F4 u (Z65 36007 k_) [])) (show(Q46 l4 l3).length=x51.length from hc52)) ?_;refine Ak hq [4] [36007] ?_;refine N9 (⟨[(4,(.vsl 36007 x51.length))],[(Z4 36007 x51)],[]⟩:St) ?_;cases h;exact gJo (Pj (J9 [(36007,20000)] (Le.trans (Hl (nm:=36007) (sz:=1) (n:=x51.length) (e:=3) (f:=(fun i=>Ar (x51.getD i 0))) (g:=(fun i=>Ar (x51.getD i 0))) rfl ⟨rfl,trivial⟩ (fun _ _=>rfl) (by rw[hΓ];rfl)) (Gy (st':=(Z71 x51 36007 x51.length)) (by kernel_rfl)))))
   ·refine gA' (fun st' hl53=>?_);cases h;exact gJn (Le.trans hl53 Fe)
 ·clear hx54;refine T0 (fun st' hk=>?_);obtain rfl:=OI h;exact gK hk
def R3(aI:Int)(aa3:Int):Option (Int×Int):=
 (some ((Ks ((Ks ((Ks ((Yk .u64 aI (32:Int))*(Yk .u64 aa3 (32:Int))))+(Yk .u64 (Ks ((Ks ((Yk .u64 aI (32:Int))*(Oo .and .u64 aa3 (4294967295:Int))))+(Yk .u64 (Ks ((Oo .and .u64 aI (4294967295:Int))*(Oo .and .u64 aa3 (4294967295:Int)))) (32:Int)))) (32:Int))))+(Yk .u64 (Ks ((Oo .and .u64 (Ks ((Ks ((Yk .u64 aI (32:Int))*(Oo .and .u64 aa3 (4294967295:Int))))+(Yk .u64 (Ks ((Oo .and .u64 aI (4294967295:Int))*(Oo .and .u64 aa3 (4294967295:Int)))) (32:Int)))) (4294967295:Int))+(Ks ((Oo .and .u64 aI (4294967295:Int))*(Yk .u64 aa3 (32:Int)))))) (32:Int)))),(Ks (aI*aa3))))
theorem ok_bits_Mul64(aI:Int)(aa3:Int)(r:(Int×Int))(h:R3 aI aa3=some r):Spec Tryz.prog 130 (Z67 aI aa3) [] (.tuple (Z67 r.1 r.2)) []:=by
 refine Ab mix Tryz.func130 (fun Γ hq=>?_);unfold R3 at h;refine Ak hq Ip [] ?_;refine Ak hq [0,1,6] [] ?_;refine gR hq [0,1,6,7] [] [] [] (c1 (show(0<=(32:Int)) from(by decide))) ?_;refine Ak hq [0,1,6,7,8] [] ?_;refine gR hq [0,1,6,7,8,9] [] [] [] (c1 (show(0<=(32:Int)) from(by decide))) ?_;refine Ak hq [0,1,6,7,8,9,10] [] ?_;refine gR hq [0,1,6,7,9,11] [] [] [] (c1 (show(0<=(32:Int)) from(by decide))) ?_;refine Ak hq [0,1,6,7,9,11,12] [] ?_;refine gR hq [0,1,6,7,9,12,13] [] [] [] (c1 (show(0<=(32:Int)) from(by decide))) ?_;refine Ak hq [0,1,7,9,12,13] [] ?_;refine gR hq [0,1,4] [] [] [] (c1 (show(0<=(32:Int)) from(by decide))) ?_;refine Ak hq [4,5] [] ?_;cases h;exact Dl []
def Lc(aI:Int)(aa3:Int):Option (Int×Int):=
 ((R3 aI aa3).bind fun x1=>(some (x1.1,x1.2)))
theorem Aaz(aI:Int)(aa3:Int)(r:(Int×Int))(h:Lc aI aa3=some r):Spec Tryz.prog 97 (Z67 aI aa3) [] (.tuple (Z67 r.1 r.2)) []:=by
 refine Ab mix Tryz.func97 (fun Γ hq=>?_);unfold Lc at h;refine Ak hq Ip [] ?_;refine gCt false ?_;obtain⟨x1,hx1,h⟩:=bind_some h;refine gR hq [8,9] [] [] [⟨[],[],(.tuple (Z67 x1.1 x1.2)),[],[],[]⟩] (c1 (ok_bits_Mul64 aI aa3 x1 hx1)) ?_;refine Ak hq [4,5] [] ?_;cases h;exact Dl []
def B9 :(Int×List Int)->Option (LR (Int×List Int) (List Int)):=
 fun((i7,l8):(Int×List Int))=>(bif (decide (i7<(l8.length:Int))) then(Bw (0<=i7/\0+i7.toNat<=l8.length) (Bw (0<=i7/\0+i7.toNat<=l8.length) (some (.next ((Bb (i7+((Nat.min ((0+i7.toNat)-0) (l8.length-(0+i7.toNat))):Int))),(cpL l8 (0+i7.toNat) (Nat.min ((0+i7.toNat)-0) (l8.length-(0+i7.toNat))) (fun i=>l8.getD (0+i) 0))))))) else(some (.done l8)))
def Q55(x3:(Int×Int)):=(List.replicate (Bb x3.2).toNat (0:Int))
def Q57(x3:(Int×Int))(aI:List Int):=(cpL (Q55 x3) 0 (Nat.min aI.length ((Q55 x3).length-0)) (fun i=>aI.getD i 0))
def Q56(l8:List Int)(i7:Int):=(cpL l8 (0+i7.toNat) (Nat.min ((0+i7.toNat)-0) (l8.length-(0+i7.toNat))) (fun i=>l8.getD (0+i) 0))
def Ex(aI:List Int)(aa4:Int):Option (List Int):=
 (Option.bind (α:=Unit) (bif (decide (aa4<0)) then none else(some ())) (fun x1=>(match x1 with|_=>((Lc (Ks (aI.length:Int)) (Ks aa4)).bind fun x3=>(Option.bind (α:=Unit) (bif (bif (decide (((0:Int):Int)<x3.1)) then true else(decide (((9223372036854775807:Int):Int)<x3.2))) then none else(some ())) (fun x4=>(match x4 with|_=>(Bw (0<=(Bb x3.2)/\(Bb x3.2)<=(Bb x3.2)/\(Bb x3.2)<=(room:Int)) ((An (S:=(Int×List Int)) (X:=List Int) B9 (((Nat.min aI.length ((List.replicate (Bb x3.2).toNat (0:Int)).length-0)):Int),(cpL (List.replicate (Bb x3.2).toNat (0:Int)) 0 (Nat.min aI.length ((List.replicate (Bb x3.2).toNat (0:Int)).length-0)) (fun i=>aI.getD i 0)))).bind (fun x12=>(some x12)))))))))))
theorem Qj(aI:List Int)(aa4:Int)(r:List Int)(h:Ex aI aa4=some r):Spec Tryz.prog 71 [(Z8 aI),(Z7 aa4)] [] (.vsl 20000 r.length) [(Z4 20000 r)]:=by
 refine Ab mix Tryz.func71 (fun Γ hq=>?_);unfold Ex at h;refine gR hq Ip [] [(4,Z19)] [] (c1 (Dx 1 Ar (0:Int))) ?_;obtain⟨x1,hx1,h⟩:=bind_some h;refine gJ hx1 (fun _=>aG Γ .normal (⟨[(0,(Z8 aI)),(1,(Z7 aa4))],[],[]⟩:St)) ?_ ?_
 ·clear h hx1;intro y h;refine Ak hq zzN86 [] ?_;refine gC h ?_ ?_<;>intro h
  ·cases h
  ·cases h;exact gK (D3 (Du Ip [] hq))
 ·clear hx1;refine gA ?_;obtain⟨x3,hx3,h⟩:=bind_some h;refine gR hq [0,5,6] [] [] [⟨[],[],(.tuple (Z67 x3.1 x3.2)),[],[],[]⟩] (c1 (Aaz (Ks (aI.length:Int)) (Ks aa4) x3 hx3)) ?_;obtain⟨x4,hx4,h⟩:=bind_some h;refine gJ hx4 (fun _=>aG Γ .normal (⟨[(0,(Z8 aI)),(6,(.int .u64 x3.2))],[],[]⟩:St)) ?_ ?_
  ·clear h hx4;intro y h;refine gR hq [0,6,26] [] [] [] (ci (gI ((decide (((0:Int):Int)<x3.1))==false)) (c1 (Vw (decide (((0:Int):Int)<x3.1))))) ?_;refine gC h ?_ ?_<;>intro h
   ·cases h
   ·cases h;exact gK (D3 (Du [0,6] [] hq))
  ·clear hx4;refine gA ?_;obtain⟨hc6,h⟩:=Aa h;refine gR hq [0,7] [30] [] [] (c1 hc6) ?_;refine Ll (Le.trans (Rz 30 (show ∀ k_,k_<((Bb x3.2).toNat)->AVleL ((fun i_=>AV.eraseAll (fun n_=>Cc n_ [30]) ((fun _=>[Td]) i_)) k_) ((fun i=>Ar ((Q55 x3).getD i 0)) k_) from(fun k hk=>R4 (e:=Ar) (d:=(0:Int)) (.cons (AVle.refl _) .nil) _ k (Si hk)))) (Vh (fun(k_:Nat) u=>(F4 u (Z65 30 k_) [(30,.arr 1 3 k_ (fun i=>Ar ((Q55 x3).getD i 0)))])) (show(Bb x3.2).toNat=(Q55 x3).length from(Pf ..).symm))) ?_;refine gR hq [7,8] [30] [] [] (c1 (Eq.refl ((Q55 x3).length))) ?_;refine Ll (Le.trans (Rz 30 (show ∀ k_,k_<((Q55 x3).length)->AVleL ((fun i_=>AV.eraseAll (fun n_=>Cc n_ [30]) ((cpF (fun i=>Ar ((Q55 x3).getD i 0)) 0 (Nat.min aI.length ((Q55 x3).length-0)) (fun i=>Ar (aI.getD i 0))) i_)) k_) ((fun i=>Ar ((Q57 x3 aI).getD i 0)) k_) from(Br (G5 ..) (fun k_ hk_=>(Bq (AV.eraseAll (fun n_=>Cc n_ [30])) ((cpF_cpL (e:=Ar) (d:=(0:Int)) (l:=(Q55 x3)) (s:=(fun i=>aI.getD i 0)) (fun _ _=>rfl) (fun _ _=>rfl)) k_ hk_)).trans rfl)))) (Vh (fun(k_:Nat) u=>(F4 u (Z65 30 k_) [(30,.arr 1 3 k_ (fun i=>Ar ((Q57 x3 aI).getD i 0)))])) (show(Q55 x3).length=(Q57 x3 aI).length from(G5 ..)))) ?_;obtain⟨x12,hx12,h⟩:=bind_some h;refine gL hq hx12 [7,8] [30] (fun u (i7,l8)=>(F4 u [(7,(.vsl 30 l8.length)),(8,(Z7 i7))] [(Z4 30 l8)])) (fun u l9=>aG Γ (.exit 0) (⟨(Z65 30 l9.length),[(Z4 30 l9)],[]⟩:St)) ?_ ?_
   ·rintro⟨i7,l8⟩ y h;unfold B9 at h;refine Ak hq [7,8,37] [30] ?_;refine gC h ?_ ?_<;>intro h
    ·obtain⟨hc10,h⟩:=Aa h;obtain⟨hc11,h⟩:=Aa h;refine gR hq [7,8] [30] [] [] (ci hc10 (ci hc11 (ci (Eq.refl l8.length) (c1 (Eq.refl l8.length))))) ?_;cases h;exact gN (Le.trans (Le.trans (Rz 30 (show ∀ k_,k_<l8.length->AVleL ((fun i_=>AV.eraseAll (fun n_=>Cc n_ [30]) ((cpF (fun i=>Ar (l8.getD i 0)) (0+i7.toNat) (Nat.min ((0+i7.toNat)-0) (l8.length-(0+i7.toNat))) (fun i=>(fun i=>Ar (l8.getD i 0)) (0+i))) i_)) k_) ((fun i=>Ar ((Q56 l8 i7).getD i 0)) k_) from(Br (G5 ..) (fun k_ hk_=>(Bq (AV.eraseAll (fun n_=>Cc n_ [30])) ((cpF_cpL (e:=Ar) (d:=(0:Int)) (l:=l8) (s:=(fun i=>l8.getD (0+i) 0)) (fun _ _=>rfl) (fun _ _=>rfl)) k_ hk_)).trans rfl)))) (Vh (fun(k_:Nat) u=>(F4 u (Z65 30 k_) [(30,.arr 1 3 k_ (fun i=>Ar ((Q56 l8 i7).getD i 0)))])) (show l8.length=(Q56 l8 i7).length from(G5 ..)))) Fe)
    ·cases h;exact gO (D3 (Du [7] [30] hq))
   ·clear hx12;refine gA ?_;refine Ak hq [4] [30] ?_;obtain rfl:=OI h;exact Dl [(30,20000)]
def Fz(aA:List Int):(Int×List Bool)->Option (LR (Int×List Bool) (List Bool)):=
 fun((i2,l3):(Int×List Bool))=>(bif (i2 !=-1) then(Bw (Bd i2 l3.length) (Bw (Bd i2 aA.length) (some (.next ((aA.getD i2.toNat 0),(l3.set i2.toNat true)))))) else(some (.done l3)))
def F0(aA:List Int)(l4:List Bool):Int->Option (LR Int Int):=
 fun(i9:Int)=>(Bw (Bd i9 l4.length) (bif (!(l4.getD i9.toNat false)) then(Bw (Bd i9 aA.length) (some (.next (aA.getD i9.toNat 0)))) else(some (.done i9))))
def Lg(aA:List Int)(aS:Int)(aV:Int):Option Int:=
 (Bw (0<=(aA.length:Int)/\(aA.length:Int)<=(aA.length:Int)/\(aA.length:Int)<=(room:Int)) ((An (Fz aA) (aS,(List.replicate (aA.length:Int).toNat false))).bind (fun x7=>((An (F0 aA x7) aV).bind (fun x13=>(some x13))))))
theorem Aa2(aA:List Int)(aS:Int)(aV:Int)(r:Int)(h:Lg aA aS aV=some r):Spec Tryz.prog 77 [(Z8 aA),(Z7 aS),(Z7 aV)] [] (.int .i64 r) []:=by
 refine Ab mix Tryz.func77 (fun Γ hq=>?_);unfold Lg at h;refine Ak hq zzN131 [] ?_;obtain⟨hc1,h⟩:=Aa h;refine gR hq [0,1,2,7] [11] [] [] (c1 hc1) ?_;refine Ll (Le.trans (Rz 11 (show ∀ k_,k_<((aA.length:Int).toNat)->AVleL ((fun i_=>AV.eraseAll (fun n_=>Cc n_ [11]) ((fun _=>[(.bool false)]) i_)) k_) ((fun i=>eB ((List.replicate (aA.length:Int).toNat false).getD i false)) k_) from(fun k hk=>R4 (e:=eB) (d:=false) (.cons (AVle.refl _) .nil) _ k (Si hk)))) (Vh (fun(k_:Nat) u=>(F4 u (Z65 11 k_) [(11,.arr 1 4 k_ (fun i=>eB ((List.replicate (aA.length:Int).toNat false).getD i false)))])) (show(aA.length:Int).toNat=(List.replicate (aA.length:Int).toNat false).length from(Pf ..).symm))) ?_;refine Ak hq zzN123 [11] ?_;obtain⟨x7,hx7,h⟩:=bind_some h;refine gL hq hx7 zzN123 [11] (fun u (i2,l3)=>(F4 u [(7,(.vsl 11 l3.length)),(8,(Z7 i2))] [(Z17 11 l3)])) (fun u l4=>aG Γ (.exit 0) (W8 [0,2,7] [11] u (Z65 11 l4.length) [(Z17 11 l4)])) ?_ ?_
 ·rintro⟨i2,l3⟩ y h;unfold Fz at h;refine Ak hq [0,2,7,8,14] [11] ?_;refine gC h ?_ ?_<;>intro h
  ·obtain⟨hc5,h⟩:=Aa h;refine gR hq zzN123 [11] [] [] (ci hc5 (c1 (Eq.refl l3.length))) ?_;refine Ll (Le.trans (Rz 11 (show ∀ k_,k_<l3.length->AVleL ((fun i_=>AV.eraseAll (fun n_=>Cc n_ [11]) ((Jf (fun i=>eB (l3.getD i false)) i2.toNat 0 [(.bool true)]) i_)) k_) ((fun i=>eB ((l3.set i2.toNat true).getD i false)) k_) from(Br (E5 ..).symm (fun k_ hk_=>(Bq (AV.eraseAll (fun n_=>Cc n_ [11])) ((K1 (fun _ _=>rfl) (L4 hc5) rfl) k_ hk_)).trans rfl)))) (Vh (fun(k_:Nat) u=>(F4 u (Z65 11 k_) [(11,.arr 1 4 k_ (fun i=>eB ((l3.set i2.toNat true).getD i false)))])) (show l3.length=(l3.set i2.toNat true).length from(E5 ..).symm))) ?_;obtain⟨hc6,h⟩:=Aa h;refine gR hq zzN123 [11] [] [] (c1 hc6) ?_;cases h;exact gN Fe
  ·cases h;exact gO (D3 (Du [0,2,7] [11] hq))
 ·clear hx7;refine gA ?_;obtain⟨x13,hx13,h⟩:=bind_some h;refine gL hq hx13 [0,2,7] [11] (fun u i9=>(F4 u [(2,(Z7 i9))] [])) (fun u i10=>aG Γ (.exit 2) (⟨[(2,(Z7 i10))],[],[]⟩:St)) ?_ ?_
  ·intro i9 y h;unfold F0 at h;obtain⟨hc11,h⟩:=Aa h;refine gR hq [0,2,7,26] [11] [] [] (ci hc11 (c1 (Eq.refl x7.length))) ?_;refine gC h ?_ ?_<;>intro h
   ·obtain⟨hc12,h⟩:=Aa h;refine gR hq [0,2,7] [11] [] [] (c1 hc12) ?_;cases h;exact gN Fe
   ·cases h;exact gO (D3 (Du [2] [] hq))
  ·clear hx13;refine gA ?_;refine Ak hq [6] [] ?_;obtain rfl:=OI h;exact Dl []
def Dz(aA:List Int)(aB:List Int):(Int×Int)->Option (LR (Int×Int) Int):=
 fun((i1,i2):(Int×Int))=>(bif (decide (i2<(aB.length:Int))) then(Option.bind (α:=Int) (Bw (Bd i2 aB.length) (Bw (Bd (aB.getD i2.toNat 0) aA.length) (bif (((aA.getD (aB.getD i2.toNat 0).toNat (0:Int)):Int)==-2) then(some i1) else(bif (i1==-2) then(some (aB.getD i2.toNat 0)) else((Lg aA i1 (aB.getD i2.toNat 0)).bind fun x7=>(some x7)))))) (fun x8=>(some (.next (x8,(Bb (i2+1))))))) else(some (.done i1)))
def H1(aA:List Int)(aB:List Int):Option Int:=
 ((An (Dz aA aB) ((-2:Int),(0:Int))).bind (fun x10=>(some x10)))
theorem Ub(aA:List Int)(aB:List Int)(r:Int)(h:H1 aA aB=some r):Spec Tryz.prog 72 [(Z8 aA),(Z8 aB)] [] (.int .i64 r) []:=by
 refine Ab mix Tryz.func72 (fun Γ hq=>?_);unfold H1 at h;refine Ak hq Ip [] ?_;refine Ak hq zzN133 [] ?_;refine Ak hq zzN61 [] ?_;obtain⟨x10,hx10,h⟩:=bind_some h;refine gL hq hx10 zzN61 [] (fun u (i1,i2)=>(F4 u [(5,(Z7 i1)),(10,(Z7 i2))] [])) (fun u i3=>aG Γ (.exit 0) (⟨[(5,(Z7 i3))],[],[]⟩:St)) ?_ ?_
 ·rintro⟨i1,i2⟩ y h;unfold Dz at h;refine Ak hq [0,5,8,9,10,11] [] ?_;refine gC h ?_ ?_<;>intro h
  ·obtain⟨x8,hx8,h⟩:=bind_some h;refine gJ hx8 (fun i4=>aG Γ .normal (⟨[(0,(Z8 aA)),(5,(Z7 i4)),(8,(Z8 aB)),(9,(Z54 aB.length)),(10,(Z7 i2))],[],[]⟩:St)) ?_ ?_
   ·clear h hx8;intro y h;obtain⟨hc5,h⟩:=Aa h;refine gR hq [0,5,7,8,9,10] [] [] [] (c1 hc5) ?_;obtain⟨hc6,h⟩:=Aa h;refine gR hq [0,5,7,8,9,10,18] [] [] [] (c1 hc6) ?_;refine gC h ?_ ?_<;>intro h
    ·obtain rfl:=OI h;exact gK (D3 (Du zzN61 [] hq))
    ·refine Ak hq [0,5,7,8,9,10,24] [] ?_;refine gC h ?_ ?_<;>intro h
     ·refine Ak hq zzN61 [] ?_;cases h;exact gK (D3 Fe)
     ·obtain⟨x7,hx7,h⟩:=bind_some h;refine gR hq zzN61 [] [] [(Z44 x7)] (c1 (Aa2 aA i1 (aB.getD i2.toNat 0) x7 hx7)) ?_;obtain rfl:=OI h;exact gK (D3 Fe)
   ·clear hx8;refine gA ?_;refine Ak hq zzN61 [] ?_;cases h;exact gN Fe
  ·cases h;exact gO (D3 (Du [5] [] hq))
 ·clear hx10;refine gA ?_;refine Ak hq [4] [] ?_;obtain rfl:=OI h;exact Dl []
def Dt(a0:Ap)(x3:List Int):(Bool×Int×List Int)->Option (LR (Bool×Int×List Int) (Bool×List Int)):=
 fun((b7,i8,l9):(Bool×Int×List Int))=>(bif (decide (i8<((x3.drop (1:Int).toNat).length:Int))) then(Option.bind (α:=(Bool×List Int)) (Bw (Bd i8 (x3.drop (1:Int).toNat).length) (Bw (Bd ((x3.drop (1:Int).toNat).getD i8.toNat 0) a0.Pred.length) ((H1 l9 (a0.Pred.getD ((x3.drop (1:Int).toNat).getD i8.toNat 0).toNat [])).bind fun x16=>(Bw (Bd ((x3.drop (1:Int).toNat).getD i8.toNat 0) l9.length) (bif (x16 !=(l9.getD ((x3.drop (1:Int).toNat).getD i8.toNat 0).toNat (0:Int))) then(Bw (Bd ((x3.drop (1:Int).toNat).getD i8.toNat 0) l9.length) (some (true,(l9.set ((x3.drop (1:Int).toNat).getD i8.toNat 0).toNat x16)))) else(some (b7,l9))))))) (fun(b12,l13)=>(some (.next (b12,(Bb (i8+1)),l13))))) else(some (.done (b7,l9))))
def M5(a0:Ap)(l1:List Int):(Bool×Int×List Int)->Option (LR (Bool×Int×List Int) (Bool×List Int)):=
 fun((b24,i25,l26):(Bool×Int×List Int))=>(bif (decide (i25<((l1.drop (1:Int).toNat).length:Int))) then(Option.bind (α:=(Bool×List Int)) (Bw (Bd i25 (l1.drop (1:Int).toNat).length) (Bw (Bd ((l1.drop (1:Int).toNat).getD i25.toNat 0) a0.Pred.length) ((H1 l26 (a0.Pred.getD ((l1.drop (1:Int).toNat).getD i25.toNat 0).toNat [])).bind fun x33=>(Bw (Bd ((l1.drop (1:Int).toNat).getD i25.toNat 0) l26.length) (bif (x33 !=(l26.getD ((l1.drop (1:Int).toNat).getD i25.toNat 0).toNat (0:Int))) then(Bw (Bd ((l1.drop (1:Int).toNat).getD i25.toNat 0) l26.length) (some (true,(l26.set ((l1.drop (1:Int).toNat).getD i25.toNat 0).toNat x33)))) else(some (b24,l26))))))) (fun(b29,l30)=>(some (.next (b29,(Bb (i25+1)),l30))))) else(some (.done (b24,l26))))
def Ey(a0:Ap):(List Int×List Int)->Option (LR (List Int×List Int) (List Int)):=
 fun(s_:(List Int×List Int))=>match s_ with|(l1,l2)=>(Bw (0<=(1:Int)/\(1:Int)<=(l1.length:Int)) ((An (M5 a0 l1) (false,(0:Int),l2)).bind (fun x38=>(match x38 with|(b27,l28)=>(bif b27 then(some (.next (l1,l28))) else(some (.done l28)))))))
def K_dom_Tree(Γ:Hy)(a0:Ap)(aX:Int)(r:List Int):Exit->St->Prop:=fK Tryz.prog Γ Tryz.f41.results.toList [] (Z26 r 20000) [(20000,.tok 1 3 r.length)]
def Q62:=(fun n_=>Cc n_ [2,13,21])
def Q60:List (Nat×AV):=[(4,Z19)]
def Q59(x3:List Int)(i8:Int):=((x3.drop (1:Int).toNat).getD i8.toNat 0)
def Q58(l1:List Int)(i25:Int):=((l1.drop (1:Int).toNat).getD i25.toNat 0)
def Q61(a0:Ap):List AV:=[(Z5 a0.Succ),(Z5 a0.Pred)]
def Q63:=(Z73:St)
def Ld(a0:Ap)(aX:Int):Option (List Int):=
 ((My (S:=(List Int×List Int)) (X:=List Int) ((F1 a0 aX).bind fun x3=>(bif (((x3.length:Int):Int)==0) then(some (.done ([]:List Int))) else((Ex ([(-2:Int)]:List Int) (a0.Succ.length:Int)).bind fun x4=>(Bw (Bd aX x4.length) (Bw (0<=(1:Int)/\(1:Int)<=(x3.length:Int)) ((An (Dt a0 x3) (false,(0:Int),(x4.set aX.toNat (-1:Int)))).bind (fun(b10,l11)=>(bif b10 then(some (.next (x3,l11))) else(some (.done l11)))))))))) (Ey a0)).bind (fun x40=>(some x40)))
theorem Aa1(a0:Ap)(aX:Int)(r:List Int)(h:Ld a0 aX=some r):Spec Tryz.prog 41 [(Z43 a0),(Z7 aX)] [] (Z26 r 20000) [(20000,.tok 1 3 r.length)]:=by
 refine Ab mix Tryz.func41 (fun Γ hq=>?_);have hΓ:=hq.own;unfold Ld at h;refine gR hq K4 [2] Q60 [] (c1 (Dx 1 Ar (0:Int))) ?_;obtain⟨x40,hx40,h⟩:=bind_some h;refine gS hx40 (fun(s_:(List Int×List Int))=>match s_ with|(l1,l2)=>0) (fun(s_:(List Int×List Int))=>match s_ with|(l1,l2)=>(⟨[Oj,(5,(Z26 l1 13)),(6,(.vsl 21 l2.length))],[(Rf 41 (Q61 a0)),(13,.tok 1 3 l1.length),(Z4 21 l2)],[]⟩:St)) (fun r_=>aR (K_dom_Tree Γ a0 aX r_)) ?_ ?_ ?_
 ·clear h hx40;intro y h;obtain⟨x3,hx3,h⟩:=bind_some h;refine gR hq zzN94 [2,13] [] [(Z13 13 x3 x3.length)] (c1 (O2 a0 aX x3 hx3)) ?_;refine Ak hq [1,2,5,16] [2,13] ?_;refine gC h ?_ ?_<;>intro h
  ·refine gR hq [4] [] Q60 [] (c1 (Dx 1 Ar (0:Int))) ?_;refine N9 (⟨Q60,[],[]⟩:St) ?_;cases h;exact gJo (Pj (J9 zzN132 (show Le Γ _ Q63 from Le.trans (Du (st':=⟨Q60,[],[]⟩) [4] [] hq) (Le.trans (P8 (t:=4) (nm:=6004) (sz':=1) (fun i=>Ar (([]:List Int).getD i 0)) 3 rfl rfl (.inl ⟨rfl,rfl⟩) (fun h_=>absurd h_ (by decide))) (Du (st':=Q63) [4] [6004] hq)))))
  ·obtain⟨x4,hx4,h⟩:=bind_some h;refine gR hq [1,2,5,6] Lv [(17,(AV.list 1 Ar 0 ([(-2:Int)]:List Int) .exact))] [⟨[],[(20000,21)],(.vsl 20000 x4.length),[(Z4 20000 x4)],[],[]⟩] (ci (Ca 1 Ar (0:Int) ([(-2:Int)]:List Int)) (c1 (Qj ([(-2:Int)]:List Int) (a0.Succ.length:Int) x4 hx4))) ?_;obtain⟨hc5,h⟩:=Aa h;refine gR hq Wn Lv [] [] (ci hc5 (c1 (Eq.refl x4.length))) ?_;refine Ll (Le.trans (Rz 21 (show ∀ k_,k_<x4.length->AVleL ((fun i_=>AV.eraseAll Q62 ((Jf (fun i=>Ar (x4.getD i 0)) aX.toNat 0 [(.int .i64 (-1:Int))]) i_)) k_) ((fun i=>Ar ((x4.set aX.toNat (-1:Int)).getD i 0)) k_) from(Br (E5 ..).symm (fun k_ hk_=>(Bq (AV.eraseAll Q62) ((K1 (fun _ _=>rfl) (L4 hc5) rfl) k_ hk_)).trans rfl)))) (Vh (fun(k_:Nat) u=>(F4 u [(6,(.vsl 21 k_))] [(21,.arr 1 3 k_ (fun i=>Ar ((x4.set aX.toNat (-1:Int)).getD i 0)))])) (show x4.length=(x4.set aX.toNat (-1:Int)).length from(E5 ..).symm))) ?_;refine Ak hq zzN81 Lv ?_;obtain⟨hc6,h⟩:=Aa h;refine gR hq Wi Lv [(26,(AV.list 1 Ar 0 (x3.drop (1:Int).toNat) .none))] [] (ci hc6 (c1 (show(AVle (.slice 1 (x3.length-(1:Int).toNat) (fun i=>Ar (x3.getD ((1:Int).toNat+i) 0)) .none) (AV.list 1 Ar 0 (x3.drop (1:Int).toNat) .none)) from av_drop))) ?_;obtain⟨x21,hx21,h⟩:=bind_some h;refine gL hq hx21 Wi Lv (fun u (b7,i8,l9)=>(F4 u [(6,(.vsl 21 l9.length)),(7,(.bool b7)),(28,(Z7 i8))] [(Z4 21 l9)])) (fun u (b10,l11)=>aG Γ (.exit 0) (W8 zzN81 Lv u [(6,(.vsl 21 l11.length)),(7,(.bool b10))] [(Z4 21 l11)])) ?_ ?_
   ·rintro⟨b7,i8,l9⟩ y h;unfold Dt at h;refine Ak hq zzN106 Lv ?_;refine gC h ?_ ?_<;>intro h
    ·obtain⟨x19,hx19,h⟩:=bind_some h;refine gJ hx19 (fun(b12,l13)=>aG Γ .normal (⟨[Oj,(5,(Z26 x3 13)),(6,(.vsl 21 l13.length)),(7,(.bool b12)),(26,(AV.list 1 Ar 0 (x3.drop (1:Int).toNat) .none)),(27,(.int .i64 ((x3.drop (1:Int).toNat).length:Int))),(28,(Z7 i8))],[(Rf 41 (Q61 a0)),(13,.tok 1 3 x3.length),(Z4 21 l13)],[]⟩:St)) ?_ ?_
     ·clear h hx19;intro y h;obtain⟨hc14,h⟩:=Aa h;refine gR hq zzN111 Lv [] [] (c1 hc14) ?_;obtain⟨hc15,h⟩:=Aa h;obtain⟨x16,hx16,h⟩:=bind_some h;refine gR hq zzN96 Lv [] [⟨[],[],(Z7 x16),[],[21],[]⟩] (ci hc15 (ci (Ub l9 (a0.Pred.getD (Q59 x3 i8).toNat []) x16 hx16) (ci (show(Xy []) from trivial) (c1 (Eq.refl l9.length))))) ?_;obtain⟨hc17,h⟩:=Aa h;refine gR hq zzN87 Lv [] [] (ci hc17 (c1 (Eq.refl l9.length))) ?_;refine gC h ?_ ?_<;>intro h
      ·obtain⟨hc18,h⟩:=Aa h;refine gR hq Wi Lv [] [] (ci hc18 (c1 (Eq.refl l9.length))) ?_;cases h;exact gK (D3 (Le.trans (Le.trans (Rz 21 (show ∀ k_,k_<l9.length->AVleL ((fun i_=>AV.eraseAll Q62 ((Jf (fun i=>Ar (l9.getD i 0)) (Q59 x3 i8).toNat 0 [(Z7 x16)]) i_)) k_) ((fun i=>Ar ((l9.set (Q59 x3 i8).toNat x16).getD i 0)) k_) from(Br (E5 ..).symm (fun k_ hk_=>(Bq (AV.eraseAll Q62) ((K1 (fun _ _=>rfl) (L4 hc18) rfl) k_ hk_)).trans rfl)))) (Vh (fun(k_:Nat) u=>(F4 u [(6,(.vsl 21 k_))] [(21,.arr 1 3 k_ (fun i=>Ar ((l9.set (Q59 x3 i8).toNat x16).getD i 0)))])) (show l9.length=(l9.set (Q59 x3 i8).toNat x16).length from(E5 ..).symm))) Fe))
      ·cases h;exact gK (D3 (Du Wi Lv hq))
     ·clear hx19;rcases x19 with⟨b12,l13⟩;refine gA ?_;refine Ak hq Wi Lv ?_;cases h;exact gN Fe
    ·cases h;exact gO (D3 (Du zzN81 Lv hq))
   ·clear hx21;rcases x21 with⟨b10,l11⟩;refine gA ?_;refine Ak hq [2,5,6,50] Lv ?_;refine gC h ?_ ?_<;>intro h
    ·cases h;exact gJn (Du Wn Lv hq)
    ·refine Ak hq [4] [21] ?_;refine N9 (⟨[(4,(.vsl 21 l11.length))],[(Z4 21 l11)],[]⟩:St) ?_;cases h;exact gJo (Pj (J9 [(21,20000)] (Le.trans (Hl (nm:=21) (sz:=1) (n:=l11.length) (e:=3) (f:=(fun i=>Ar (l11.getD i 0))) (g:=(fun i=>Ar (l11.getD i 0))) rfl ⟨rfl,trivial⟩ (fun _ _=>rfl) (by rw[hΓ];rfl)) (Gy (st':=(Z71 l11 21 l11.length)) (by kernel_rfl)))))
 ·clear h hx40;rintro⟨l1,l2⟩ y h;unfold Ey at h;refine Ak hq zzN81 Lv ?_;obtain⟨hc23,h⟩:=Aa h;refine gR hq Wi Lv [(26,(AV.list 1 Ar 0 (l1.drop (1:Int).toNat) .none))] [] (ci hc23 (c1 (show(AVle (.slice 1 (l1.length-(1:Int).toNat) (fun i=>Ar (l1.getD ((1:Int).toNat+i) 0)) .none) (AV.list 1 Ar 0 (l1.drop (1:Int).toNat) .none)) from av_drop))) ?_;obtain⟨x38,hx38,h⟩:=bind_some h;refine gL hq hx38 Wi Lv (fun u (b24,i25,l26)=>(F4 u [(6,(.vsl 21 l26.length)),(7,(.bool b24)),(28,(Z7 i25))] [(Z4 21 l26)])) (fun u (b27,l28)=>aG Γ (.exit 0) (W8 zzN81 Lv u [(6,(.vsl 21 l28.length)),(7,(.bool b27))] [(Z4 21 l28)])) ?_ ?_
  ·rintro⟨b24,i25,l26⟩ y h;unfold M5 at h;refine Ak hq zzN106 Lv ?_;refine gC h ?_ ?_<;>intro h
   ·obtain⟨x36,hx36,h⟩:=bind_some h;refine gJ hx36 (fun(b29,l30)=>aG Γ .normal (⟨[Oj,(5,(Z26 l1 13)),(6,(.vsl 21 l30.length)),(7,(.bool b29)),(26,(AV.list 1 Ar 0 (l1.drop (1:Int).toNat) .none)),(27,(.int .i64 ((l1.drop (1:Int).toNat).length:Int))),(28,(Z7 i25))],[(Rf 41 (Q61 a0)),(13,.tok 1 3 l1.length),(Z4 21 l30)],[]⟩:St)) ?_ ?_
    ·clear h hx36;intro y h;obtain⟨hc31,h⟩:=Aa h;refine gR hq zzN111 Lv [] [] (c1 hc31) ?_;obtain⟨hc32,h⟩:=Aa h;obtain⟨x33,hx33,h⟩:=bind_some h;refine gR hq zzN96 Lv [] [⟨[],[],(Z7 x33),[],[21],[]⟩] (ci hc32 (ci (Ub l26 (a0.Pred.getD (Q58 l1 i25).toNat []) x33 hx33) (ci (show(Xy []) from trivial) (c1 (Eq.refl l26.length))))) ?_;obtain⟨hc34,h⟩:=Aa h;refine gR hq zzN87 Lv [] [] (ci hc34 (c1 (Eq.refl l26.length))) ?_;refine gC h ?_ ?_<;>intro h
     ·obtain⟨hc35,h⟩:=Aa h;refine gR hq Wi Lv [] [] (ci hc35 (c1 (Eq.refl l26.length))) ?_;cases h;exact gK (D3 (Le.trans (Le.trans (Rz 21 (show ∀ k_,k_<l26.length->AVleL ((fun i_=>AV.eraseAll Q62 ((Jf (fun i=>Ar (l26.getD i 0)) (Q58 l1 i25).toNat 0 [(Z7 x33)]) i_)) k_) ((fun i=>Ar ((l26.set (Q58 l1 i25).toNat x33).getD i 0)) k_) from(Br (E5 ..).symm (fun k_ hk_=>(Bq (AV.eraseAll Q62) ((K1 (fun _ _=>rfl) (L4 hc35) rfl) k_ hk_)).trans rfl)))) (Vh (fun(k_:Nat) u=>(F4 u [(6,(.vsl 21 k_))] [(21,.arr 1 3 k_ (fun i=>Ar ((l26.set (Q58 l1 i25).toNat x33).getD i 0)))])) (show l26.length=(l26.set (Q58 l1 i25).toNat x33).length from(E5 ..).symm))) Fe))
     ·cases h;exact gK (D3 (Du Wi Lv hq))
    ·clear hx36;rcases x36 with⟨b29,l30⟩;refine gA ?_;refine Ak hq Wi Lv ?_;cases h;exact gN Fe
   ·cases h;exact gO (D3 (Du zzN81 Lv hq))
  ·clear hx38;rcases x38 with⟨b27,l28⟩;refine gA ?_;refine Ak hq [2,5,6,50] Lv ?_;refine gC h ?_ ?_<;>intro h
   ·cases h;exact gJn (Du Wn Lv hq)
   ·refine Ak hq [4] [21] ?_;refine N9 (⟨[(4,(.vsl 21 l28.length))],[(Z4 21 l28)],[]⟩:St) ?_;cases h;exact gJo (Pj (J9 [(21,20000)] (Le.trans (Hl (nm:=21) (sz:=1) (n:=l28.length) (e:=3) (f:=(fun i=>Ar (l28.getD i 0))) (g:=(fun i=>Ar (l28.getD i 0))) rfl ⟨rfl,trivial⟩ (fun _ _=>rfl) (by rw[hΓ];rfl)) (Gy (st':=(Z71 l28 21 l28.length)) (by kernel_rfl)))))
 ·clear hx40;refine T0 (fun st' hk=>?_);obtain rfl:=OI h;exact gK hk
def G8(aa7:List Hg)(aaF:List Int):Int->Option (LR Int (Unit ⊕ Bool)):=
 fun(i1:Int)=>(bif (decide (i1<(aa7.length:Int))) then(Bw (Bd i1 aa7.length) ((C6 ((aa7.getD i1.toNat default).From) aaF).bind fun x3=>(bif (bif (!x3) then true else(((((aa7.getD i1.toNat default).Args).length:Int):Int)!=(aaF.length:Int))) then(some (.done (.inr false))) else(some (.next (Bb (i1+1))))))) else(some (.done (.inl ()))))
def Abq(Γ:Hy)(aa7:List Hg)(aaF:List Int)(r:Bool):Exit->St->Prop:=fK Tryz.prog Γ Tryz.f106.results.toList [] (.bool r) []
def I8(aa7:List Hg)(aaF:List Int):Option Bool:=
 ((An (G8 aa7 aaF) (0:Int)).bind (fun x4=>(match x4 with|(.inl _)=>(some true)|(.inr r6)=>(some r6))))
theorem Zr(aa7:List Hg)(aaF:List Int)(r:Bool)(h:I8 aa7 aaF=some r):Spec Tryz.prog 106 [(AV.list 4 Xu default aa7 .none),(Z8 aaF)] [] (.bool r) []:=by
 refine Ab mix Tryz.func106 (fun Γ hq=>?_);unfold I8 at h;refine Ak hq Ip [] ?_;refine Ak hq Oi [] ?_;obtain⟨x4,hx4,h⟩:=bind_some h;refine gL hq hx4 Oi [] (fun u i1=>(F4 u [(9,(Z7 i1))] [])) (fun u x_=>match x_ with|(.inl _)=>aG Γ (.exit 0) (⟨[],[],[]⟩:St)|(.inr r_)=>aR (Abq Γ aa7 aaF r_)) ?_ ?_
 ·intro i1 y h;unfold G8 at h;refine Ak hq Abk [] ?_;refine gC h ?_ ?_<;>intro h
  ·obtain⟨hc2,h⟩:=Aa h;refine gR hq Abl [6] [] [] (c1 hc2) ?_;obtain⟨x3,hx3,h⟩:=bind_some h;refine gR hq [1,7,8,9,25] [] [] [(Z2 x3)] (ci (Ic ((aa7.getD i1.toNat default).From) aaF x3 hx3) (ci (gI ((!x3)==false)) (ci (gI ((!x3)==false)) (ci (gI ((!x3)==false)) (ci (gI ((!x3)==false)) (ci (gI ((!x3)==false)) (c1 (Vw (!x3))))))))) ?_;refine gC h ?_ ?_<;>intro h
   ·refine Ak hq [4] [] ?_;cases h;exact gO (Pj (J9 [] (Le.refl _ _)))
   ·refine Ak hq Oi [] ?_;cases h;exact gN Fe
  ·cases h;exact gO (D3 (Du [] [] hq))
 ·clear hx4;rcases x4 with _|r6
  ·refine gA ?_;refine Ak hq [4] [] ?_;obtain rfl:=OI h;exact Dl []
  ·refine T0 (fun st' hk=>?_);obtain rfl:=OI h;exact gK hk
def Q64(aH:I4):=(bif (aH.Kind==0) then true else(aH.Kind==2))
def Hn(aH:I4):Option Bool:=
 (some (bif (bif (aH.Kind==0) then true else(aH.Kind==2)) then true else(aH.Arg==0)))
theorem Zq(aH:I4)(r:Bool)(h:Hn aH=some r):Spec Tryz.prog 107 [(.agg (eTEnd aH))] [] (.bool r) []:=by
 refine Ab mix Tryz.func107 (fun Γ hq=>?_);unfold Hn at h;refine Ak hq [1] [1] ?_;refine gR hq [2] [] [] [] (ci (gI ((aH.Kind==0)==false)) (ci (gI ((aH.Kind==0)==false)) (ci (Vw (aH.Kind==0)) (ci (gI ((Q64 aH)==false)) (ci (gI ((Q64 aH)==false)) (c1 (Vw (Q64 aH)))))))) ?_;cases h;exact Dl []
def Cd(a3:TFunc)(a7:Int)(a5:List Ao)(x1:(Ap×Int))(x3:List Int):Int->Option (LR Int (Unit ⊕ (Int×TFunc×Int×List Int×List Ao))):=
 fun(i4:Int)=>(bif (decide (i4<(a3.Blocks.length:Int))) then(Bw (Bd i4 a3.Blocks.length) (Bw (Bd i4 x1.1.Pred.length) ((I8 ((a3.Blocks.getD i4.toNat default).Phis) (x1.1.Pred.getD i4.toNat [])).bind fun x7=>((bif ((!x7)==false) then Hn (⟨(a3.Blocks.getD i4.toNat default).End.Kind,(a3.Blocks.getD i4.toNat default).End.Arg,(a3.Blocks.getD i4.toNat default).End.To⟩:I4) else some false).bind fun x8=>(bif (bif (!x7) then true else(!x8)) then(some (.done (.inr ((5:Int),a3,a7,x3,a5)))) else(some (.next (Bb (i4+1))))))))) else(some (.done (.inl ()))))
def Rg(Γ:Hy)(a3:TFunc)(a7:Int)(a9:List Int)(a5:List Ao)(r:(Int×TFunc×Int×List Int×List Ao)):Exit->St->Prop:=fK Tryz.prog Γ Tryz.f90.results.toList (Z3 a3.Params a3.Ret a3.Blocks a7 a9 a5 a5.length) (Z7 r.1) (Z3 r.2.1.Params r.2.1.Ret r.2.1.Blocks r.2.2.1 r.2.2.2.1 r.2.2.2.2 r.2.2.2.2.length)
def Q67(x1:(Ap×Int)):=((x1.2 !=0)==false)
def Q66(x3:List Int)(a3:TFunc)(a7:Int)(a5:List Ao):List (Nat×Own):=[(31,.tok 1 3 x3.length),(30000,.row 103 [(Z8 a3.Params),(Z7 a3.Ret),(Z21 a3.Blocks),(Z7 a7),(Z8 x3),.nilm,(AV.list 5 Kk default a5 (.own 37006))]),(Pi a5.length)]
def Q65(x3:List Int)(a3:TFunc)(a7:Int)(a5:List Ao):List (Nat×Own):=[(31,.tok 1 3 x3.length),(30000,.row 103 [(Z8 a3.Params),(Z7 a3.Ret),(Z21 a3.Blocks),(Z7 a7),(Z26 x3 31),.nilm,(AV.list 5 Kk default a5 (.own 37006))]),(Pi a5.length)]
def E1(a3:TFunc)(a7:Int)(a9:List Int)(a5:List Ao):Option (Int×TFunc×Int×List Int×List Ao):=
 ((Lh a3).bind fun x1=>((bif ((x1.2 !=0)==false) then F1 x1.1 (0:Int) else some []).bind fun x2=>(bif (bif (x1.2 !=0) then true else(decide (((x2.length:Int):Int)<(a3.Blocks.length:Int)))) then(some ((5:Int),a3,a7,a9,a5)) else((Ld x1.1 (0:Int)).bind fun x3=>((An (Cd a3 a7 a5 x1 x3) (0:Int)).bind (fun x9=>(match x9 with|(.inl _)=>(some ((0:Int),a3,a7,x3,a5))|(.inr r11)=>(some r11))))))))
theorem Qt(a3:TFunc)(a7:Int)(a9:List Int)(a5:List Ao)(r:(Int×TFunc×Int×List Int×List Ao))(h:E1 a3 a7 a9 a5=some r):Spec Tryz.prog 90 [Z52] (Z3 a3.Params a3.Ret a3.Blocks a7 a9 a5 a5.length) (Z7 r.1) (Z3 r.2.1.Params r.2.1.Ret r.2.1.Blocks r.2.2.1 r.2.2.2.1 r.2.2.2.2 r.2.2.2.2.length):=by
 refine Ab mix Tryz.func90 (fun Γ hq=>?_);unfold E1 at h;refine Ak hq [0] Gt ?_;obtain⟨x1,hx1,h⟩:=bind_some h;refine gR hq [0,3,4] zzN71 [] [(Z34 x1.1 x1.2)] (c1 (Uc a3 x1 hx1)) ?_;obtain⟨x2,hx2,h⟩:=bind_some h;refine gR hq [0,3,28] zzN71 [] [⟨[],[],(Z8 x2),[],[],[]⟩] (ci (gI (Q67 x1)) (ci (show((Q67 x1)=true->(Spec Tryz.prog 70 [(Z43 x1.1),Td] [] (Z8 x2) [])) from(fun hg=>(Spec.drop (O2 x1.1 (0:Int) x2 (C2 hg hx2))))) (ci (gI (Q67 x1)) (ci (gI (Q67 x1)) (ci (gI (Q67 x1)) (ci (gI (Q67 x1)) (ci (gI (Q67 x1)) (ci (gI (Q67 x1)) (ci (gI (Q67 x1)) (ci (gI (Q67 x1)) (c1 (Vw (x1.2 !=0))))))))))))) ?_;refine gC h ?_ ?_<;>intro h
 ·refine Ak hq [2] Gt ?_;cases h;exact Dl zzN6
 ·obtain⟨x3,hx3,h⟩:=bind_some h;refine gR hq Re zzN40 [] [(Z13 31 x3 x3.length)] (c1 (Aa1 x1.1 (0:Int) x3 hx3)) ?_;refine Ak hq zzN134 zzN40 ?_;obtain⟨x9,hx9,h⟩:=bind_some h;refine gL hq hx9 zzN134 zzN40 (fun u i4=>(F4 u [(40,(Z7 i4))] [])) (fun u x_=>match x_ with|(.inl _)=>aG Γ (.exit 0) (W8 [] zzN53 u [] [])|(.inr r_)=>aR (Rg Γ a3 a7 a9 a5 r_)) ?_ ?_
  ·intro i4 y h;unfold Cd at h;refine Ak hq [3,38,39,40,41] zzN40 ?_;refine gC h ?_ ?_<;>intro h
   ·obtain⟨hc5,h⟩:=Aa h;refine gR hq [3,5,6,38,39,40] [3,6,31,30000,37006] [] [] (c1 hc5) ?_;obtain⟨hc6,h⟩:=Aa h;obtain⟨x7,hx7,h⟩:=bind_some h;obtain⟨x8,hx8,h⟩:=bind_some h;refine gR hq [3,38,39,40,59] zzN40 [] [(Z2 x7),(Z2 x8)] (ci hc6 (ci (Zr ((a3.Blocks.getD i4.toNat default).Phis) (x1.1.Pred.getD i4.toNat []) x7 hx7) (ci (gI ((!x7)==false)) (ci (gI ((!x7)==false)) (ci (fun(hg:((!x7)==false)=true)=>(Zq (⟨(a3.Blocks.getD i4.toNat default).End.Kind,(a3.Blocks.getD i4.toNat default).End.Arg,(a3.Blocks.getD i4.toNat default).End.To⟩:I4) x8 (C2 hg hx8))) (ci (gI ((!x7)==false)) (c1 (Vw (!x7))))))))) ?_;refine gC h ?_ ?_<;>intro h
    ·refine Ak hq [2] zzN53 ?_;refine N9 (⟨[(2,(.int .i64 (5:Int)))],(Q65 x3 a3 a7 a5),[]⟩:St) ?_;cases h;exact gO (Pj (J9 zzN6 (show Le Γ _ (⟨[(2,(.int .i64 (5:Int)))],(Q66 x3 a3 a7 a5),[]⟩:St) from Le.trans (Du (st':=⟨[(2,(.int .i64 (5:Int)))],(Q65 x3 a3 a7 a5),[]⟩) [2] zzN53 hq) (Na (.cons (AVle.refl _) .nil) (.same (.row (.cons (AVle.refl _) (.cons (AVle.refl _) (.cons (AVle.refl _) (.cons (AVle.refl _) (.cons AVle.untag (.cons (AVle.refl _) (.cons (AVle.refl _) .nil))))))) (.same .nil)))))))
    ·refine Ak hq zzN134 zzN40 ?_;cases h;exact gN Fe
   ·cases h;exact gO (D3 (Du [] zzN53 hq))
  ·clear hx9;rcases x9 with _|r11
   ·refine gA ?_;refine Ak hq [2] zzN53 ?_;refine N9 (⟨[(2,Td)],(Q65 x3 a3 a7 a5),[]⟩:St) ?_;cases h;exact gK (e:=.ret) (J9 zzN6 (show Le Γ _ (⟨[(2,Td)],(Q66 x3 a3 a7 a5),[]⟩:St) from Le.trans (Du (st':=⟨[(2,Td)],(Q65 x3 a3 a7 a5),[]⟩) [2] zzN53 hq) (Na (.cons (AVle.refl _) .nil) (.same (.row (.cons (AVle.refl _) (.cons (AVle.refl _) (.cons (AVle.refl _) (.cons (AVle.refl _) (.cons AVle.untag (.cons (AVle.refl _) (.cons (AVle.refl _) .nil))))))) (.same .nil))))))
   ·refine T0 (fun st' hk=>?_);obtain rfl:=OI h;exact gK hk
def Hb(aL:Int):Option Bool:=
 (Option.bind (α:=Bool) (bif (aL==1) then(some (aL==1)) else(bif (aL==8) then(some (aL==8)) else(bif (aL==16) then(some (aL==16)) else(bif (aL==32) then(some (aL==32)) else(some (aL==64)))))) (fun x2=>(bif x2 then(some true) else(some false))))
theorem J0(aL:Int)(r:Bool)(h:Hb aL=some r):Spec Tryz.prog 109 [(Z7 aL)] [] (.bool r) []:=by
 refine Ab mix Tryz.func109 (fun Γ hq=>?_);unfold Hb at h;refine Ak hq [0] [] ?_;refine Ak hq [3] [] ?_;obtain⟨x2,hx2,h⟩:=bind_some h;refine gJ hx2 (fun b1=>aG Γ .normal (⟨[(4,(.bool b1))],[],[]⟩:St)) ?_ ?_
 ·clear h hx2;intro y h;refine Ak hq [3,4] [] ?_;refine gC h ?_ ?_<;>intro h
  ·cases h;exact gK (D3 (Du [4] [] hq))
  ·refine Ak hq [3,4] [] ?_;refine gC h ?_ ?_<;>intro h
   ·cases h;exact gK (D3 (Du [4] [] hq))
   ·refine Ak hq [3,4] [] ?_;refine gC h ?_ ?_<;>intro h
    ·cases h;exact gK (D3 (Du [4] [] hq))
    ·refine Ak hq [3,4] [] ?_;refine gC h ?_ ?_<;>intro h
     ·cases h;exact gK (D3 (Du [4] [] hq))
     ·refine Ak hq [4] [] ?_;cases h;exact gK (D3 Fe)
 ·clear hx2;refine gA ?_;refine gC h ?_ ?_<;>intro h
  ·refine Ak hq [2] [] ?_;obtain rfl:=OI h;exact Dl []
  ·refine Ak hq [2] [] ?_;obtain rfl:=OI h;exact Dl []
def G7(aB:List Int):Int->Option (LR Int (Unit ⊕ Bool)):=
 fun(i1:Int)=>(bif (decide (i1<(aB.length:Int))) then(Bw (Bd i1 aB.length) ((Hb (aB.getD i1.toNat 0)).bind fun x3=>(bif (!x3) then(some (.done (.inr false))) else(some (.next (Bb (i1+1))))))) else(some (.done (.inl ()))))
def Abp(Γ:Hy)(aB:List Int)(r:Bool):Exit->St->Prop:=fK Tryz.prog Γ Tryz.f108.results.toList [] (.bool r) []
def I7(aB:List Int):Option Bool:=
 ((An (G7 aB) (0:Int)).bind (fun x4=>(match x4 with|(.inl _)=>(some true)|(.inr r6)=>(some r6))))
theorem Zp(aB:List Int)(r:Bool)(h:I7 aB=some r):Spec Tryz.prog 108 [(Z8 aB),(.clo 109 [] [])] [] (.bool r) []:=by
 refine Ab mix Tryz.func108 (fun Γ hq=>?_);unfold I7 at h;refine Ak hq Ip [] ?_;refine Ak hq Oi [] ?_;obtain⟨x4,hx4,h⟩:=bind_some h;refine gL hq hx4 Oi [] (fun u i1=>(F4 u [(9,(Z7 i1))] [])) (fun u x_=>match x_ with|(.inl _)=>aG Γ (.exit 0) (⟨[],[],[]⟩:St)|(.inr r_)=>aR (Abp Γ aB r_)) ?_ ?_
 ·intro i1 y h;unfold G7 at h;refine Ak hq Abk [] ?_;refine gC h ?_ ?_<;>intro h
  ·obtain⟨hc2,h⟩:=Aa h;refine gR hq Abl [] [] [] (c1 hc2) ?_;obtain⟨x3,hx3,h⟩:=bind_some h;refine gR hq zzN51 [] [] [(Z2 x3)] (c1 (J0 (aB.getD i1.toNat 0) x3 hx3)) ?_;refine gC h ?_ ?_<;>intro h
   ·refine Ak hq [4] [] ?_;cases h;exact gO (Pj (J9 [] (Le.refl _ _)))
   ·refine Ak hq Oi [] ?_;cases h;exact gN Fe
  ·cases h;exact gO (D3 (Du [] [] hq))
 ·clear hx4;rcases x4 with _|r6
  ·refine gA ?_;refine Ak hq [4] [] ?_;obtain rfl:=OI h;exact Dl []
  ·refine T0 (fun st' hk=>?_);obtain rfl:=OI h;exact gK hk
def Ka(aY:Hg):Option Bool:=
 ((Hb aY.Bits).bind fun x1=>(some x1))
theorem X9(aY:Hg)(r:Bool)(h:Ka aY=some r):Spec Tryz.prog 140 [(.agg (Xu aY))] [] (.bool r) []:=by
 refine Ab mix Tryz.func140 (fun Γ hq=>?_);unfold Ka at h;refine Ak hq [1] [1] ?_;obtain⟨x1,hx1,h⟩:=bind_some h;refine gR hq [2] [] [] [(Z2 x1)] (c1 (J0 aY.Bits x1 hx1)) ?_;obtain rfl:=OI h;exact Dl []
def E0(aB:List Hg):Int->Option (LR Int (Unit ⊕ Bool)):=
 fun(i1:Int)=>(bif (decide (i1<(aB.length:Int))) then(Bw (Bd i1 aB.length) ((Ka (aB.getD i1.toNat default)).bind fun x3=>(bif (!x3) then(some (.done (.inr false))) else(some (.next (Bb (i1+1))))))) else(some (.done (.inl ()))))
def Vv(Γ:Hy)(aB:List Hg)(r:Bool):Exit->St->Prop:=fK Tryz.prog Γ Tryz.f139.results.toList [] (.bool r) []
def Gr(aB:List Hg):Option Bool:=
 ((An (E0 aB) (0:Int)).bind (fun x4=>(match x4 with|(.inl _)=>(some true)|(.inr r6)=>(some r6))))
theorem T9(aB:List Hg)(r:Bool)(h:Gr aB=some r):Spec Tryz.prog 139 [(AV.list 4 Xu default aB .none),(.clo 140 [] [])] [] (.bool r) []:=by
 refine Ab mix Tryz.func139 (fun Γ hq=>?_);unfold Gr at h;refine Ak hq Ip [] ?_;refine Ak hq Oi [] ?_;obtain⟨x4,hx4,h⟩:=bind_some h;refine gL hq hx4 Oi [] (fun u i1=>(F4 u [(9,(Z7 i1))] [])) (fun u x_=>match x_ with|(.inl _)=>aG Γ (.exit 0) (⟨[],[],[]⟩:St)|(.inr r_)=>aR (Vv Γ aB r_)) ?_ ?_
 ·intro i1 y h;unfold E0 at h;refine Ak hq Abk [] ?_;refine gC h ?_ ?_<;>intro h
  ·obtain⟨hc2,h⟩:=Aa h;refine gR hq Abl [6] [] [] (c1 hc2) ?_;obtain⟨x3,hx3,h⟩:=bind_some h;refine gR hq zzN51 [] [] [(Z2 x3)] (c1 (X9 (aB.getD i1.toNat default) x3 hx3)) ?_;refine gC h ?_ ?_<;>intro h
   ·refine Ak hq [4] [] ?_;cases h;exact gO (Pj (J9 [] (Le.refl _ _)))
   ·refine Ak hq Oi [] ?_;cases h;exact gN Fe
  ·cases h;exact gO (D3 (Du [] [] hq))
 ·clear hx4;rcases x4 with _|r6
  ·refine gA ?_;refine Ak hq [4] [] ?_;obtain rfl:=OI h;exact Dl []
  ·refine T0 (fun st' hk=>?_);obtain rfl:=OI h;exact gK hk
def Ky(aaI:Int):Option Bool:=
 (some (bif (decide (((0:Int):Int)<=aaI)) then(decide (aaI<=22)) else false))
theorem ok_kind_isKind(aaI:Int)(r:Bool)(h:Ky aaI=some r):Spec Tryz.prog 165 [(Z7 aaI)] [] (.bool r) []:=by
 refine Ab mix Tryz.func165 (fun Γ hq=>?_);unfold Ky at h;refine Ak hq [0] [] ?_;refine gR hq [2] [] [] [] (ci (gI ((decide (((0:Int):Int)<=aaI))==true)) (c1 (Oa (decide (((0:Int):Int)<=aaI))))) ?_;cases h;exact Dl []
def Q68(x5:Bool)(aL:Int):=(bif x5 then(decide (((8:Int):Int)<=aL)) else false)
def L9(aL:Int)(aa6:Int):Option Bool:=
 (bif (aa6==1) then((Hb aL).bind fun x1=>(some x1)) else(Option.bind (α:=Bool) (bif (aa6==2) then(some (aa6==2)) else(bif (aa6==4) then(some (aa6==4)) else(bif (aa6==8) then(some (aa6==8)) else(some (aa6==16))))) (fun x3=>(bif x3 then((Hb aL).bind fun x5=>(some (bif (bif x5 then(decide (((8:Int):Int)<=aL)) else false) then(decide (((Bb (aL*aa6)):Int)<=128)) else false))) else(some false)))))
theorem ok_kind_Shape(aL:Int)(aa6:Int)(r:Bool)(h:L9 aL aa6=some r):Spec Tryz.prog 166 [(Z7 aL),(Z7 aa6)] [] (.bool r) []:=by
 refine Ab mix Tryz.func166 (fun Γ hq=>?_);unfold L9 at h;refine Ak hq Ip [] ?_;refine Ak hq zzN133 [] ?_;refine Ak hq zzN124 [] ?_;refine gC h ?_ ?_<;>intro h
 ·obtain⟨x1,hx1,h⟩:=bind_some h;refine gR hq [4] [] [] [(Z2 x1)] (c1 (J0 aL x1 hx1)) ?_;obtain rfl:=OI h;exact Dl []
 ·obtain⟨x3,hx3,h⟩:=bind_some h;refine gJ hx3 (fun b2=>aG Γ .normal (⟨[(0,(Z7 aL)),(1,(Z7 aa6)),(10,(.bool b2))],[],[]⟩:St)) ?_ ?_
  ·clear h hx3;intro y h;refine Ak hq [0,1,5,10] [] ?_;refine gC h ?_ ?_<;>intro h
   ·cases h;exact gK (D3 (Du zzN86 [] hq))
   ·refine Ak hq [0,1,5,10] [] ?_;refine gC h ?_ ?_<;>intro h
    ·cases h;exact gK (D3 (Du zzN86 [] hq))
    ·refine Ak hq [0,1,5,10] [] ?_;refine gC h ?_ ?_<;>intro h
     ·cases h;exact gK (D3 (Du zzN86 [] hq))
     ·refine Ak hq zzN86 [] ?_;cases h;exact gK (D3 Fe)
  ·clear hx3;refine gA ?_;refine gC h ?_ ?_<;>intro h
   ·obtain⟨x5,hx5,h⟩:=bind_some h;refine gR hq [4] [] [] [(Z2 x5)] (ci (J0 aL x5 hx5) (ci (gI (x5==true)) (ci (Oa x5) (ci (gI ((Q68 x5 aL)==true)) (ci (gI ((Q68 x5 aL)==true)) (ci (gI ((Q68 x5 aL)==true)) (c1 (Oa (Q68 x5 aL))))))))) ?_;cases h;exact Dl []
   ·refine Ak hq [4] [] ?_;obtain rfl:=OI h;exact Dl []
def Q69(a2:E7):List (Nat×Own):=[(1,.row 57 [(Z7 a2.Kind),(Z7 a2.Bits),(Z7 a2.Lanes),(Z7 a2.Dst),(Z8 a2.Args),(.int .u64 a2.Imm)])]
def Ib(a2:E7):Option Bool:=
 (Option.bind (α:=Bool) (bif (a2.Kind==16) then(some (a2.Kind==16)) else(some (a2.Kind==17))) (fun x2=>(bif x2 then(some (decide (((8:Int):Int)<=a2.Bits))) else(Option.bind (α:=Bool) (bif (a2.Kind==18) then(some (a2.Kind==18)) else(some (a2.Kind==19))) (fun x5=>(bif x5 then(some (bif (decide (((8:Int):Int)<=a2.Bits)) then(a2.Lanes==1) else false)) else(Option.bind (α:=Bool) (bif (a2.Kind==4) then(some (a2.Kind==4)) else(bif (a2.Kind==10) then(some (a2.Kind==10)) else(bif (a2.Kind==11) then(some (a2.Kind==11)) else(bif (a2.Kind==12) then(some (a2.Kind==12)) else(bif (a2.Kind==14) then(some (a2.Kind==14)) else(bif (a2.Kind==15) then(some (a2.Kind==15)) else(some (a2.Kind==20)))))))) (fun x8=>(bif x8 then(some (a2.Lanes==1)) else(Option.bind (α:=Bool) (bif (a2.Kind==21) then(some (a2.Kind==21)) else(some (a2.Kind==22))) (fun x11=>(bif x11 then(some (decide (((1:Int):Int)<a2.Lanes))) else(some true)))))))))))))
theorem Yc(a2:E7)(r:Bool)(h:Ib a2=some r):Spec Tryz.prog 167 [(.agg (J8 a2))] [] (.bool r) []:=by
 refine Ab mix Tryz.func167 (fun Γ hq=>?_);unfold Ib at h;refine Ak hq [1] [1] ?_;refine Ak hq [1,4] [1] ?_;obtain⟨x2,hx2,h⟩:=bind_some h;refine gJ hx2 (fun b1=>aG Γ .normal (⟨[Z48,(4,(Z7 a2.Kind)),(5,(.bool b1))],(Q69 a2),[]⟩:St)) ?_ ?_
 ·clear h hx2;intro y h;refine Ak hq [1,4,5] [1] ?_;refine gC h ?_ ?_<;>intro h
  ·cases h;exact gK (D3 Fe)
  ·refine Ak hq [1,4,5] [1] ?_;cases h;exact gK (D3 Fe)
 ·clear hx2;refine gA ?_;refine gC h ?_ ?_<;>intro h
  ·refine Ak hq [2] [] ?_;cases h;exact Dl []
  ·obtain⟨x5,hx5,h⟩:=bind_some h;refine gJ hx5 (fun b4=>aG Γ .normal (⟨[Z48,(4,(Z7 a2.Kind)),(11,(.bool b4))],(Q69 a2),[]⟩:St)) ?_ ?_
   ·clear h hx5;intro y h;refine Ak hq [1,4,11] [1] ?_;refine gC h ?_ ?_<;>intro h
    ·cases h;exact gK (D3 Fe)
    ·refine Ak hq [1,4,11] [1] ?_;cases h;exact gK (D3 Fe)
   ·clear hx5;refine gA ?_;refine gC h ?_ ?_<;>intro h
    ·refine gR hq [2] [] [] [] (ci (gI ((decide (((8:Int):Int)<=a2.Bits))==true)) (ci (gI ((decide (((8:Int):Int)<=a2.Bits))==true)) (c1 (Oa (decide (((8:Int):Int)<=a2.Bits)))))) ?_;cases h;exact Dl []
    ·obtain⟨x8,hx8,h⟩:=bind_some h;refine gJ hx8 (fun b7=>aG Γ .normal (⟨[Z48,(4,(Z7 a2.Kind)),(22,(.bool b7))],(Q69 a2),[]⟩:St)) ?_ ?_
     ·clear h hx8;intro y h;refine Ak hq zzN88 [1] ?_;refine gC h ?_ ?_<;>intro h
      ·cases h;exact gK (D3 Fe)
      ·refine Ak hq zzN88 [1] ?_;refine gC h ?_ ?_<;>intro h
       ·cases h;exact gK (D3 Fe)
       ·refine Ak hq zzN88 [1] ?_;refine gC h ?_ ?_<;>intro h
        ·cases h;exact gK (D3 Fe)
        ·refine Ak hq zzN88 [1] ?_;refine gC h ?_ ?_<;>intro h
         ·cases h;exact gK (D3 Fe)
         ·refine Ak hq zzN88 [1] ?_;refine gC h ?_ ?_<;>intro h
          ·cases h;exact gK (D3 Fe)
          ·refine Ak hq zzN88 [1] ?_;refine gC h ?_ ?_<;>intro h
           ·cases h;exact gK (D3 Fe)
           ·refine Ak hq zzN88 [1] ?_;cases h;exact gK (D3 Fe)
     ·clear hx8;refine gA ?_;refine gC h ?_ ?_<;>intro h
      ·refine Ak hq [2] [] ?_;cases h;exact Dl []
      ·obtain⟨x11,hx11,h⟩:=bind_some h;refine gJ hx11 (fun b10=>aG Γ .normal (⟨[Z48,(33,(.bool b10))],(Q69 a2),[]⟩:St)) ?_ ?_
       ·clear h hx11;intro y h;refine Ak hq [1,4,33] [1] ?_;refine gC h ?_ ?_<;>intro h
        ·cases h;exact gK (D3 (Du [1,33] [1] hq))
        ·refine Ak hq [1,33] [1] ?_;cases h;exact gK (D3 Fe)
       ·clear hx11;refine gA ?_;refine gC h ?_ ?_<;>intro h
        ·refine Ak hq [2] [] ?_;cases h;exact Dl []
        ·refine Ak hq [2] [] ?_;obtain rfl:=OI h;exact Dl []
def Ow(aD:Int)(aL:Int):Option Int:=
 ((Hb aL).bind fun x1=>(bif (!x1) then(some (0:Int)) else(Bw (0<=(Bb ((64:Int)-aL))) (Bw (0<=(Bb ((64:Int)-aL))) (some (Yk .u64 (shlV .u64 aD (Bb ((64:Int)-aL))) (Bb ((64:Int)-aL))))))))
theorem ok_word_Cut(aD:Int)(aL:Int)(r:Int)(h:Ow aD aL=some r):Spec Tryz.prog 173 [(.int .u64 aD),(Z7 aL)] [] (.int .u64 r) []:=by
 refine Ab mix Tryz.func173 (fun Γ hq=>?_);unfold Ow at h;refine Ak hq Ip [] ?_;obtain⟨x1,hx1,h⟩:=bind_some h;refine gR hq [0,1,7] [] [] [(Z2 x1)] (c1 (J0 aL x1 hx1)) ?_;refine gC h ?_ ?_<;>intro h
 ·refine Ak hq [4] [] ?_;cases h;exact Dl []
 ·obtain⟨hc2,h⟩:=Aa h;obtain⟨hc3,h⟩:=Aa h;refine gR hq [4] [] [] [] (ci hc2 (c1 hc3)) ?_;cases h;exact Dl []
def Ia(aa8:Int):Option Bool:=
 ((bif ((decide (aa8<=64))==true) then Hb (Bb aa8) else some false).bind fun x1=>(some (bif (decide (aa8<=64)) then x1 else false)))
theorem S2(aa8:Int)(r:Bool)(h:Ia aa8=some r):Spec Tryz.prog 174 [(.int .u64 aa8)] [] (.bool r) []:=by
 refine Ab mix Tryz.func174 (fun Γ hq=>?_);unfold Ia at h;refine Ak hq [0] [] ?_;obtain⟨x1,hx1,h⟩:=bind_some h;refine gR hq [2] [] [] [(Z2 x1)] (ci (gI ((decide (aa8<=64))==true)) (ci (gI ((decide (aa8<=64))==true)) (ci (fun(hg:((decide (aa8<=64))==true)=true)=>(J0 (Bb aa8) x1 (C2 hg hx1))) (c1 (Oa (decide (aa8<=64))))))) ?_;cases h;exact Dl []
def Jv(a2:E7):Option Bool:=
 (bif (a2.Kind==0) then((Ow a2.Imm a2.Bits).bind fun x1=>(some (x1==a2.Imm))) else(bif (a2.Kind==14) then((Ia a2.Imm).bind fun x2=>(some (bif x2 then(decide (a2.Imm<(Ks a2.Bits))) else false))) else(bif (a2.Kind==15) then((Ia a2.Imm).bind fun x3=>(some (bif x3 then(decide (((Ks a2.Bits):Int)<a2.Imm)) else false))) else(bif (a2.Kind==22) then(some (decide (a2.Imm<(Ks a2.Lanes)))) else(some (a2.Imm==0))))))
theorem Abx(a2:E7)(r:Bool)(h:Jv a2=some r):Spec Tryz.prog 168 [(.agg (J8 a2))] [] (.bool r) []:=by
 refine Ab mix Tryz.func168 (fun Γ hq=>?_);unfold Jv at h;refine Ak hq [1] [1] ?_;refine Ak hq [1,4] [1] ?_;refine Ak hq [1,4,5] [1] ?_;refine gC h ?_ ?_<;>intro h
 ·obtain⟨x1,hx1,h⟩:=bind_some h;refine gR hq [2] [] [] [⟨[],[],(.int .u64 x1),[],[],[]⟩] (c1 (ok_word_Cut a2.Imm a2.Bits x1 hx1)) ?_;cases h;exact Dl []
 ·refine Ak hq [1,4,15] [1] ?_;refine gC h ?_ ?_<;>intro h
  ·obtain⟨x2,hx2,h⟩:=bind_some h;refine gR hq [2] [] [] [(Z2 x2)] (ci (S2 a2.Imm x2 hx2) (ci (gI (x2==true)) (ci (gI (x2==true)) (ci (gI (x2==true)) (ci (gI (x2==true)) (ci (gI (x2==true)) (c1 (Oa x2)))))))) ?_;cases h;exact Dl []
  ·refine Ak hq [1,4,28] [1] ?_;refine gC h ?_ ?_<;>intro h
   ·obtain⟨x3,hx3,h⟩:=bind_some h;refine gR hq [2] [] [] [(Z2 x3)] (ci (S2 a2.Imm x3 hx3) (ci (gI (x3==true)) (ci (gI (x3==true)) (ci (gI (x3==true)) (ci (gI (x3==true)) (ci (gI (x3==true)) (c1 (Oa x3)))))))) ?_;cases h;exact Dl []
   ·refine Ak hq [1,41] [1] ?_;refine gC h ?_ ?_<;>intro h
    ·refine Ak hq [2] [] ?_;cases h;exact Dl []
    ·refine Ak hq [2] [] ?_;cases h;exact Dl []
def Fp(aaN:List ((Int×Int))):Option (List (Int×Int)):=
 (some aaN)
theorem G0(aaN:List ((Int×Int)))(r:List ((Int×Int)))(h:Fp aaN=some r):Spec Tryz.prog 171 [(Z6 aaN)] [] (Z6 r) []:=by
 refine Ab mix Tryz.func171 (fun Γ hq=>?_);unfold Fp at h;refine gR hq [0] [] [(2,Z42)] [] (c1 (Dx 2 Bz ((0:Int),(0:Int)))) ?_;refine Ak hq [2] [] ?_;obtain rfl:=OI h;exact Dl []
def B5 :(Int×List (Int×Int))->Option (LR (Int×List (Int×Int)) (List (Int×Int))):=
 fun((i7,l8):(Int×List (Int×Int)))=>(bif (decide (i7<(l8.length:Int))) then(Bw (0<=i7/\0+i7.toNat<=l8.length) (Bw (0<=i7/\0+i7.toNat<=l8.length) (some (.next ((Bb (i7+((Nat.min ((0+i7.toNat)-0) (l8.length-(0+i7.toNat))):Int))),(cpL l8 (0+i7.toNat) (Nat.min ((0+i7.toNat)-0) (l8.length-(0+i7.toNat))) (fun i=>l8.getD (0+i) ((0:Int),(0:Int))))))))) else(some (.done l8)))
def Q70(x3:(Int×Int)):=(List.replicate (Bb x3.2).toNat ((0:Int),(0:Int)))
def Q72(x3:(Int×Int))(aI:List ((Int×Int))):=(cpL (Q70 x3) 0 (Nat.min aI.length ((Q70 x3).length-0)) (fun i=>aI.getD i ((0:Int),(0:Int))))
def Q71(l8:List ((Int×Int)))(i7:Int):=(cpL l8 (0+i7.toNat) (Nat.min ((0+i7.toNat)-0) (l8.length-(0+i7.toNat))) (fun i=>l8.getD (0+i) ((0:Int),(0:Int))))
def Bj(aI:List ((Int×Int)))(aa4:Int):Option (List (Int×Int)):=
 (Option.bind (α:=Unit) (bif (decide (aa4<0)) then none else(some ())) (fun x1=>(match x1 with|_=>((Lc (Ks (aI.length:Int)) (Ks aa4)).bind fun x3=>(Option.bind (α:=Unit) (bif (bif (decide (((0:Int):Int)<x3.1)) then true else(decide (((9223372036854775807:Int):Int)<x3.2))) then none else(some ())) (fun x4=>(match x4 with|_=>(Bw (0<=(Bb x3.2)/\(Bb x3.2)<=(Bb x3.2)/\(Bb x3.2)<=(room:Int)) ((An (S:=(Int×List (Int×Int))) (X:=List (Int×Int)) B5 (((Nat.min aI.length ((List.replicate (Bb x3.2).toNat ((0:Int),(0:Int))).length-0)):Int),(cpL (List.replicate (Bb x3.2).toNat ((0:Int),(0:Int))) 0 (Nat.min aI.length ((List.replicate (Bb x3.2).toNat ((0:Int),(0:Int))).length-0)) (fun i=>aI.getD i ((0:Int),(0:Int)))))).bind (fun x12=>(some x12)))))))))))
theorem Nw(aI:List ((Int×Int)))(aa4:Int)(r:List ((Int×Int)))(h:Bj aI aa4=some r):Spec Tryz.prog 172 [(Z6 aI),(Z7 aa4)] [] (AV.list 2 Bz ((0:Int),(0:Int)) r (.own 20000)) [(20000,.tok 2 88 r.length)]:=by
 refine Ab mix Tryz.func172 (fun Γ hq=>?_);have hΓ:=hq.own;unfold Bj at h;refine gR hq Ip [] [(4,Z42)] [] (c1 (Dx 2 Bz ((0:Int),(0:Int)))) ?_;obtain⟨x1,hx1,h⟩:=bind_some h;refine gJ hx1 (fun _=>aG Γ .normal (⟨[(0,(Z6 aI)),(1,(Z7 aa4))],[],[]⟩:St)) ?_ ?_
 ·clear h hx1;intro y h;refine Ak hq zzN86 [] ?_;refine gC h ?_ ?_<;>intro h
  ·cases h
  ·cases h;exact gK (D3 (Du Ip [] hq))
 ·clear hx1;refine gA ?_;obtain⟨x3,hx3,h⟩:=bind_some h;refine gR hq [0,5,6] [] [] [⟨[],[],(.tuple (Z67 x3.1 x3.2)),[],[],[]⟩] (c1 (Aaz (Ks (aI.length:Int)) (Ks aa4) x3 hx3)) ?_;obtain⟨x4,hx4,h⟩:=bind_some h;refine gJ hx4 (fun _=>aG Γ .normal (⟨[(0,(Z6 aI)),(6,(.int .u64 x3.2))],[],[]⟩:St)) ?_ ?_
  ·clear h hx4;intro y h;refine gR hq [0,6,26] [] [] [] (ci (gI ((decide (((0:Int):Int)<x3.1))==false)) (c1 (Vw (decide (((0:Int):Int)<x3.1))))) ?_;refine gC h ?_ ?_<;>intro h
   ·cases h
   ·cases h;exact gK (D3 (Du [0,6] [] hq))
  ·clear hx4;refine gA ?_;obtain⟨hc6,h⟩:=Aa h;refine gR hq [0,7] [30] [] [] (c1 hc6) ?_;refine Ll (Le.trans (Rz 30 (show ∀ k_,k_<((Bb x3.2).toNat)->AVleL ((fun i_=>AV.eraseAll (fun n_=>Cc n_ [30]) ((fun _=>[Td,Td]) i_)) k_) ((fun i=>Bz ((Q70 x3).getD i ((0:Int),(0:Int)))) k_) from(fun k hk=>R4 (e:=Bz) (d:=((0:Int),(0:Int))) (.cons (AVle.refl _) (.cons (AVle.refl _) .nil)) _ k (Si hk)))) (Vh (fun(k_:Nat) u=>(F4 u (Z65 30 k_) [(30,.arr 2 88 k_ (fun i=>Bz ((Q70 x3).getD i ((0:Int),(0:Int)))))])) (show(Bb x3.2).toNat=(Q70 x3).length from(Pf ..).symm))) ?_;refine gR hq [7,8] [30] [] [] (c1 (Eq.refl ((Q70 x3).length))) ?_;refine Ll (Le.trans (Rz 30 (show ∀ k_,k_<((Q70 x3).length)->AVleL ((fun i_=>AV.eraseAll (fun n_=>Cc n_ [30]) ((cpF (fun i=>Bz ((Q70 x3).getD i ((0:Int),(0:Int)))) 0 (Nat.min aI.length ((Q70 x3).length-0)) (fun i=>Bz (aI.getD i ((0:Int),(0:Int))))) i_)) k_) ((fun i=>Bz ((Q72 x3 aI).getD i ((0:Int),(0:Int)))) k_) from(Br (G5 ..) (fun k_ hk_=>(Bq (AV.eraseAll (fun n_=>Cc n_ [30])) ((cpF_cpL (e:=Bz) (d:=((0:Int),(0:Int))) (l:=(Q70 x3)) (s:=(fun i=>aI.getD i ((0:Int),(0:Int)))) (fun _ _=>rfl) (fun _ _=>rfl)) k_ hk_)).trans rfl)))) (Vh (fun(k_:Nat) u=>(F4 u (Z65 30 k_) [(30,.arr 2 88 k_ (fun i=>Bz ((Q72 x3 aI).getD i ((0:Int),(0:Int)))))])) (show(Q70 x3).length=(Q72 x3 aI).length from(G5 ..)))) ?_;obtain⟨x12,hx12,h⟩:=bind_some h;refine gL hq hx12 [7,8] [30] (fun u (i7,l8)=>(F4 u [(7,(.vsl 30 l8.length)),(8,(Z7 i7))] (Z58 l8))) (fun u l9=>aG Γ (.exit 0) (⟨(Z65 30 l9.length),(Z58 l9),[]⟩:St)) ?_ ?_
   ·rintro⟨i7,l8⟩ y h;unfold B5 at h;refine Ak hq [7,8,37] [30] ?_;refine gC h ?_ ?_<;>intro h
    ·obtain⟨hc10,h⟩:=Aa h;obtain⟨hc11,h⟩:=Aa h;refine gR hq [7,8] [30] [] [] (ci hc10 (ci hc11 (ci (Eq.refl l8.length) (c1 (Eq.refl l8.length))))) ?_;cases h;exact gN (Le.trans (Le.trans (Rz 30 (show ∀ k_,k_<l8.length->AVleL ((fun i_=>AV.eraseAll (fun n_=>Cc n_ [30]) ((cpF (fun i=>Bz (l8.getD i ((0:Int),(0:Int)))) (0+i7.toNat) (Nat.min ((0+i7.toNat)-0) (l8.length-(0+i7.toNat))) (fun i=>(fun i=>Bz (l8.getD i ((0:Int),(0:Int)))) (0+i))) i_)) k_) ((fun i=>Bz ((Q71 l8 i7).getD i ((0:Int),(0:Int)))) k_) from(Br (G5 ..) (fun k_ hk_=>(Bq (AV.eraseAll (fun n_=>Cc n_ [30])) ((cpF_cpL (e:=Bz) (d:=((0:Int),(0:Int))) (l:=l8) (s:=(fun i=>l8.getD (0+i) ((0:Int),(0:Int)))) (fun _ _=>rfl) (fun _ _=>rfl)) k_ hk_)).trans rfl)))) (Vh (fun(k_:Nat) u=>(F4 u (Z65 30 k_) [(30,.arr 2 88 k_ (fun i=>Bz ((Q71 l8 i7).getD i ((0:Int),(0:Int)))))])) (show l8.length=(Q71 l8 i7).length from(G5 ..)))) Fe)
    ·cases h;exact gO (D3 (Du [7] [30] hq))
   ·clear hx12;refine gA ?_;refine Ak hq [4] [30] ?_;refine N9 (⟨[(4,(.vsl 30 x12.length))],(Z58 x12),[]⟩:St) ?_;obtain rfl:=OI h;exact gK (e:=.ret) (J9 [(30,20000)] (Le.trans (Hl (nm:=30) (sz:=2) (n:=x12.length) (e:=88) (f:=(fun i=>Bz (x12.getD i ((0:Int),(0:Int))))) (g:=(fun i=>Bz (x12.getD i ((0:Int),(0:Int))))) rfl ⟨rfl,trivial⟩ (fun _ _=>rfl) (by rw[hΓ];rfl)) (Gy (st':=⟨[(4,(AV.list 2 Bz ((0:Int),(0:Int)) x12 (.own 30)))],[(30,.tok 2 88 x12.length)],[]⟩) (by kernel_rfl))))
def Q73(a2:E7):List (Nat×Own):=[(1,.row 57 [(Z7 a2.Kind),(Z7 a2.Bits),(Z7 a2.Lanes),(Z7 a2.Dst),(Z8 a2.Args),(.int .u64 a2.Imm)]),(3,.row 88 [(.int .i64 (1:Int)),(.int .i64 (1:Int))]),(4,.row 88 [(Z54 64),(.int .i64 (1:Int))]),(5,.row 88 [(Z7 a2.Bits),(Z7 a2.Lanes)]),(6,.row 88 [(Z7 a2.Bits),(.int .i64 (1:Int))])]
def Kf(a2:E7):Option (List (Int×Int)):=
 (bif (a2.Kind==0) then((Fp ([]:List (Int×Int))).bind fun x1=>(some x1)) else(bif (a2.Kind==13) then((Fp ([((1:Int),(1:Int)),(a2.Bits,a2.Lanes),(a2.Bits,a2.Lanes)]:List (Int×Int))).bind fun x2=>(some x2)) else(Option.bind (α:=Bool) (bif (a2.Kind==14) then(some (a2.Kind==14)) else(some (a2.Kind==15))) (fun x4=>(bif x4 then((Fp ([((Bb a2.Imm),(1:Int))]:List (Int×Int))).bind fun x6=>(some x6)) else(bif (a2.Kind==16) then((Fp ([((64:Int),(1:Int))]:List (Int×Int))).bind fun x7=>(some x7)) else(bif (a2.Kind==17) then((Fp ([((64:Int),(1:Int)),(a2.Bits,a2.Lanes)]:List (Int×Int))).bind fun x8=>(some x8)) else(Option.bind (α:=Bool) (bif (a2.Kind==18) then(some (a2.Kind==18)) else(some (a2.Kind==19))) (fun x10=>(bif x10 then((Fp ([((1:Int),(1:Int)),((64:Int),(1:Int)),(a2.Bits,(1:Int))]:List (Int×Int))).bind fun x12=>(some x12)) else(bif (a2.Kind==20) then((Fp ([((1:Int),(1:Int)),(a2.Bits,(1:Int)),(a2.Bits,(1:Int)),(a2.Bits,(1:Int))]:List (Int×Int))).bind fun x13=>(some x13)) else(bif (a2.Kind==21) then((Bj ([(a2.Bits,(1:Int))]:List (Int×Int)) a2.Lanes).bind fun x14=>((Fp x14).bind fun x15=>(some x15))) else(bif (a2.Kind==22) then((Fp ([(a2.Bits,a2.Lanes)]:List (Int×Int))).bind fun x16=>(some x16)) else((Fp ([(a2.Bits,a2.Lanes),(a2.Bits,a2.Lanes)]:List (Int×Int))).bind fun x17=>(some x17)))))))))))))))
theorem Wb(a2:E7)(r:List ((Int×Int)))(h:Kf a2=some r):Spec Tryz.prog 162 [(.agg (J8 a2))] [] (Z6 r) []:=by
 refine Ab mix Tryz.func162 (fun Γ hq=>?_);unfold Kf at h;refine gR hq [1] [1] [(2,Z42)] [] (c1 (Dx 2 Bz ((0:Int),(0:Int)))) ?_;refine Ak hq Nq Nq ?_;refine Ak hq U6 U6 ?_;refine Ak hq [1,3,4,5,6,18] U6 ?_;refine Ak hq [1,3,4,5,6,18,19] U6 ?_;refine gC h ?_ ?_<;>intro h
 ·obtain⟨x1,hx1,h⟩:=bind_some h;refine gR hq [2] [] [] [(Z35 x1)] (c1 (show(Spec Tryz.prog 171 [(.slice 0 0 (fun _=>[]) .none)] [] (Z6 x1) []) from(Spec.args (.cons av_nil0 .nil) (G0 ([]:List (Int×Int)) x1 hx1)))) ?_;obtain rfl:=OI h;exact Dl []
 ·refine Ak hq [1,3,4,5,6,18,22] U6 ?_;refine gC h ?_ ?_<;>intro h
  ·obtain⟨x2,hx2,h⟩:=bind_some h;refine gR hq [2] [] [(27,(AV.list 2 Bz ((0:Int),(0:Int)) ([((1:Int),(1:Int)),(a2.Bits,a2.Lanes),(a2.Bits,a2.Lanes)]:List (Int×Int)) .exact))] [(Z35 x2)] (ci (Ca 2 Bz ((0:Int),(0:Int)) ([((1:Int),(1:Int)),(a2.Bits,a2.Lanes),(a2.Bits,a2.Lanes)]:List (Int×Int))) (c1 (G0 ([((1:Int),(1:Int)),(a2.Bits,a2.Lanes),(a2.Bits,a2.Lanes)]:List (Int×Int)) x2 hx2))) ?_;obtain rfl:=OI h;exact Dl []
  ·obtain⟨x4,hx4,h⟩:=bind_some h;refine gJ hx4 (fun b3=>aG Γ .normal (⟨[Z48,(3,(.ptr 3 0)),(4,(.ptr 4 0)),(5,(.ptr 5 0)),(6,(.ptr 6 0)),(18,(Z7 a2.Kind)),(29,(.bool b3))],(Q73 a2),[]⟩:St)) ?_ ?_
   ·clear h hx4;intro y h;refine Ak hq [1,3,4,5,6,18,29] U6 ?_;refine gC h ?_ ?_<;>intro h
    ·cases h;exact gK (D3 Fe)
    ·refine Ak hq [1,3,4,5,6,18,29] U6 ?_;cases h;exact gK (D3 Fe)
   ·clear hx4;refine gA ?_;refine gC h ?_ ?_<;>intro h
    ·obtain⟨x6,hx6,h⟩:=bind_some h;refine gR hq [2] [] [(36,(AV.list 2 Bz ((0:Int),(0:Int)) ([((Bb a2.Imm),(1:Int))]:List (Int×Int)) .exact))] [(Z35 x6)] (ci (Ca 2 Bz ((0:Int),(0:Int)) ([((Bb a2.Imm),(1:Int))]:List (Int×Int))) (c1 (G0 ([((Bb a2.Imm),(1:Int))]:List (Int×Int)) x6 hx6))) ?_;obtain rfl:=OI h;exact Dl []
    ·refine Ak hq [1,3,4,5,6,18,38] U6 ?_;refine gC h ?_ ?_<;>intro h
     ·obtain⟨x7,hx7,h⟩:=bind_some h;refine gR hq [2] [] [(41,(AV.list 2 Bz ((0:Int),(0:Int)) ([((64:Int),(1:Int))]:List (Int×Int)) .exact))] [(Z35 x7)] (ci (Ca 2 Bz ((0:Int),(0:Int)) ([((64:Int),(1:Int))]:List (Int×Int))) (c1 (G0 ([((64:Int),(1:Int))]:List (Int×Int)) x7 hx7))) ?_;obtain rfl:=OI h;exact Dl []
     ·refine Ak hq [1,3,4,5,6,18,43] U6 ?_;refine gC h ?_ ?_<;>intro h
      ·obtain⟨x8,hx8,h⟩:=bind_some h;refine gR hq [2] [] [(47,(AV.list 2 Bz ((0:Int),(0:Int)) ([((64:Int),(1:Int)),(a2.Bits,a2.Lanes)]:List (Int×Int)) .exact))] [(Z35 x8)] (ci (Ca 2 Bz ((0:Int),(0:Int)) ([((64:Int),(1:Int)),(a2.Bits,a2.Lanes)]:List (Int×Int))) (c1 (G0 ([((64:Int),(1:Int)),(a2.Bits,a2.Lanes)]:List (Int×Int)) x8 hx8))) ?_;obtain rfl:=OI h;exact Dl []
      ·obtain⟨x10,hx10,h⟩:=bind_some h;refine gJ hx10 (fun b9=>aG Γ .normal (⟨[Z48,(3,(.ptr 3 0)),(4,(.ptr 4 0)),(5,(.ptr 5 0)),(6,(.ptr 6 0)),(18,(Z7 a2.Kind)),(49,(.bool b9))],(Q73 a2),[]⟩:St)) ?_ ?_
       ·clear h hx10;intro y h;refine Ak hq [1,3,4,5,6,18,49] U6 ?_;refine gC h ?_ ?_<;>intro h
        ·cases h;exact gK (D3 Fe)
        ·refine Ak hq [1,3,4,5,6,18,49] U6 ?_;cases h;exact gK (D3 Fe)
       ·clear hx10;refine gA ?_;refine gC h ?_ ?_<;>intro h
        ·obtain⟨x12,hx12,h⟩:=bind_some h;refine gR hq [2] [] [(55,(AV.list 2 Bz ((0:Int),(0:Int)) ([((1:Int),(1:Int)),((64:Int),(1:Int)),(a2.Bits,(1:Int))]:List (Int×Int)) .exact))] [(Z35 x12)] (ci (Ca 2 Bz ((0:Int),(0:Int)) ([((1:Int),(1:Int)),((64:Int),(1:Int)),(a2.Bits,(1:Int))]:List (Int×Int))) (c1 (G0 ([((1:Int),(1:Int)),((64:Int),(1:Int)),(a2.Bits,(1:Int))]:List (Int×Int)) x12 hx12))) ?_;obtain rfl:=OI h;exact Dl []
        ·refine Ak hq [1,3,5,6,18,57] [1,3,5,6] ?_;refine gC h ?_ ?_<;>intro h
         ·obtain⟨x13,hx13,h⟩:=bind_some h;refine gR hq [2] [] [(63,(AV.list 2 Bz ((0:Int),(0:Int)) ([((1:Int),(1:Int)),(a2.Bits,(1:Int)),(a2.Bits,(1:Int)),(a2.Bits,(1:Int))]:List (Int×Int)) .exact))] [(Z35 x13)] (ci (Ca 2 Bz ((0:Int),(0:Int)) ([((1:Int),(1:Int)),(a2.Bits,(1:Int)),(a2.Bits,(1:Int)),(a2.Bits,(1:Int))]:List (Int×Int))) (c1 (G0 ([((1:Int),(1:Int)),(a2.Bits,(1:Int)),(a2.Bits,(1:Int)),(a2.Bits,(1:Int))]:List (Int×Int)) x13 hx13))) ?_;obtain rfl:=OI h;exact Dl []
         ·refine Ak hq [1,5,6,18,65] [1,5,6] ?_;refine gC h ?_ ?_<;>intro h
          ·obtain⟨x14,hx14,h⟩:=bind_some h;obtain⟨x15,hx15,h⟩:=bind_some h;refine gR hq [2] [] [(68,(AV.list 2 Bz ((0:Int),(0:Int)) ([(a2.Bits,(1:Int))]:List (Int×Int)) .exact))] [⟨[],[(20000,71)],(AV.list 2 Bz ((0:Int),(0:Int)) x14 (.own 20000)),[(20000,.tok 2 88 x14.length)],[],[]⟩,(Z35 x15)] (ci (Ca 2 Bz ((0:Int),(0:Int)) ([(a2.Bits,(1:Int))]:List (Int×Int))) (ci (Nw ([(a2.Bits,(1:Int))]:List (Int×Int)) a2.Lanes x14 hx14) (c1 (G0 x14 x15 hx15)))) ?_;obtain rfl:=OI h;exact Dl []
          ·refine Ak hq [5,73] [5] ?_;refine gC h ?_ ?_<;>intro h
           ·obtain⟨x16,hx16,h⟩:=bind_some h;refine gR hq [2] [] [(76,(AV.list 2 Bz ((0:Int),(0:Int)) ([(a2.Bits,a2.Lanes)]:List (Int×Int)) .exact))] [(Z35 x16)] (ci (Ca 2 Bz ((0:Int),(0:Int)) ([(a2.Bits,a2.Lanes)]:List (Int×Int))) (c1 (G0 ([(a2.Bits,a2.Lanes)]:List (Int×Int)) x16 hx16))) ?_;obtain rfl:=OI h;exact Dl []
           ·obtain⟨x17,hx17,h⟩:=bind_some h;refine gR hq [2] [] [(80,(AV.list 2 Bz ((0:Int),(0:Int)) ([(a2.Bits,a2.Lanes),(a2.Bits,a2.Lanes)]:List (Int×Int)) .exact))] [(Z35 x17)] (ci (Ca 2 Bz ((0:Int),(0:Int)) ([(a2.Bits,a2.Lanes),(a2.Bits,a2.Lanes)]:List (Int×Int))) (c1 (G0 ([(a2.Bits,a2.Lanes),(a2.Bits,a2.Lanes)]:List (Int×Int)) x17 hx17))) ?_;obtain rfl:=OI h;exact Dl []
def H9(aD:Int):Option Bool:=
 (some (bif (decide (((1:Int):Int)<=aD)) then(decide (aD<=1023)) else false))
theorem S1(aD:Int)(r:Bool)(h:H9 aD=some r):Spec Tryz.prog 175 [(Z7 aD)] [] (.bool r) []:=by
 refine Ab mix Tryz.func175 (fun Γ hq=>?_);unfold H9 at h;refine Ak hq [0] [] ?_;refine gR hq [2] [] [] [] (ci (gI ((decide (((1:Int):Int)<=aD))==true)) (c1 (Oa (decide (((1:Int):Int)<=aD))))) ?_;cases h;exact Dl []
def Gj(a2:E7):Int->Option (LR Int (Unit ⊕ Bool)):=
 fun(i2:Int)=>(bif (decide (i2<(a2.Args.length:Int))) then(Bw (Bd i2 a2.Args.length) ((H9 (a2.Args.getD i2.toNat 0)).bind fun x4=>(bif (!x4) then(some (.done (.inr false))) else(some (.next (Bb (i2+1))))))) else(some (.done (.inl ()))))
def K_kind_argsFit(Γ:Hy)(a2:E7)(r:Bool):Exit->St->Prop:=fK Tryz.prog Γ Tryz.f169.results.toList [] (.bool r) []
def Jt(a2:E7):Option Bool:=
 ((Kf a2).bind fun x1=>(bif (((a2.Args.length:Int):Int)!=(x1.length:Int)) then(some false) else((An (Gj a2) (0:Int)).bind (fun x5=>(match x5 with|(.inl _)=>(some true)|(.inr r7)=>(some r7))))))
theorem Abv(a2:E7)(r:Bool)(h:Jt a2=some r):Spec Tryz.prog 169 [(.agg (J8 a2))] [] (.bool r) []:=by
 refine Ab mix Tryz.func169 (fun Γ hq=>?_);unfold Jt at h;refine Ak hq [1] [1] ?_;obtain⟨x1,hx1,h⟩:=bind_some h;refine gR hq [1,11] [1] [] [(Z35 x1)] (c1 (Wb a2 x1 hx1)) ?_;refine gC h ?_ ?_<;>intro h
 ·refine Ak hq [2] [] ?_;obtain rfl:=OI h;exact Dl []
 ·refine Ak hq [13,14,15] [] ?_;obtain⟨x5,hx5,h⟩:=bind_some h;refine gL hq hx5 [13,14,15] [] (fun u i2=>(F4 u [(15,(Z7 i2))] [])) (fun u x_=>match x_ with|(.inl _)=>aG Γ (.exit 0) (⟨[],[],[]⟩:St)|(.inr r_)=>aR (K_kind_argsFit Γ a2 r_)) ?_ ?_
  ·intro i2 y h;unfold Gj at h;refine Ak hq [13,14,15,16] [] ?_;refine gC h ?_ ?_<;>intro h
   ·obtain⟨hc3,h⟩:=Aa h;refine gR hq [4,13,14,15] [] [] [] (c1 hc3) ?_;obtain⟨x4,hx4,h⟩:=bind_some h;refine gR hq [13,14,15,21] [] [] [(Z2 x4)] (c1 (S1 (a2.Args.getD i2.toNat 0) x4 hx4)) ?_;refine gC h ?_ ?_<;>intro h
    ·refine Ak hq [2] [] ?_;cases h;exact gO (Pj (J9 [] (Le.refl _ _)))
    ·refine Ak hq [13,14,15] [] ?_;cases h;exact gN Fe
   ·cases h;exact gO (D3 (Du [] [] hq))
  ·clear hx5;rcases x5 with _|r7
   ·refine gA ?_;refine Ak hq [2] [] ?_;obtain rfl:=OI h;exact Dl []
   ·refine T0 (fun st' hk=>?_);obtain rfl:=OI h;exact gK hk
def Q74(a2:E7):List (Nat×Own):=[(1,.row 57 [(Z7 a2.Kind),(Z7 a2.Bits),(Z7 a2.Lanes),(Z7 a2.Dst),(Z8 a2.Args),(.int .u64 a2.Imm)])]
def Ke(a2:E7):Option (Int×Int):=
 (Option.bind (α:=Bool) (bif (a2.Kind==17) then(some (a2.Kind==17)) else(some (a2.Kind==19))) (fun x2=>(bif x2 then(some ((0:Int),(0:Int))) else(Option.bind (α:=Bool) (bif (a2.Kind==10) then(some (a2.Kind==10)) else(bif (a2.Kind==11) then(some (a2.Kind==11)) else(some (a2.Kind==12)))) (fun x5=>(bif x5 then(some ((1:Int),(1:Int))) else(bif (a2.Kind==22) then(some (a2.Bits,(1:Int))) else(some (a2.Bits,a2.Lanes)))))))))
theorem Wa(a2:E7)(r:(Int×Int))(h:Ke a2=some r):Spec Tryz.prog 161 [(.agg (J8 a2))] [] (.tuple [(Z7 r.1),(Z7 r.2)]) []:=by
 refine Ab mix Tryz.func161 (fun Γ hq=>?_);unfold Ke at h;refine Ak hq [1] [1] ?_;refine Ak hq [1,5] [1] ?_;obtain⟨x2,hx2,h⟩:=bind_some h;refine gJ hx2 (fun b1=>aG Γ .normal (⟨[Z48,(5,(Z7 a2.Kind)),(6,(.bool b1))],(Q74 a2),[]⟩:St)) ?_ ?_
 ·clear h hx2;intro y h;refine Ak hq [1,5,6] [1] ?_;refine gC h ?_ ?_<;>intro h
  ·cases h;exact gK (D3 Fe)
  ·refine Ak hq [1,5,6] [1] ?_;cases h;exact gK (D3 Fe)
 ·clear hx2;refine gA ?_;refine gC h ?_ ?_<;>intro h
  ·refine Ak hq G3 [] ?_;cases h;exact Dl []
  ·obtain⟨x5,hx5,h⟩:=bind_some h;refine gJ hx5 (fun b4=>aG Γ .normal (⟨[Z48,(5,(Z7 a2.Kind)),(9,(.bool b4))],(Q74 a2),[]⟩:St)) ?_ ?_
   ·clear h hx5;intro y h;refine Ak hq [1,5,9] [1] ?_;refine gC h ?_ ?_<;>intro h
    ·cases h;exact gK (D3 Fe)
    ·refine Ak hq [1,5,9] [1] ?_;refine gC h ?_ ?_<;>intro h
     ·cases h;exact gK (D3 Fe)
     ·refine Ak hq [1,5,9] [1] ?_;cases h;exact gK (D3 Fe)
   ·clear hx5;refine gA ?_;refine gC h ?_ ?_<;>intro h
    ·refine Ak hq G3 [] ?_;cases h;exact Dl []
    ·refine Ak hq [1,13] [1] ?_;refine gC h ?_ ?_<;>intro h
     ·refine Ak hq G3 [] ?_;cases h;exact Dl []
     ·refine Ak hq G3 [] ?_;cases h;exact Dl []
def Ju(a2:E7):Option Bool:=
 ((Ke a2).bind fun x1=>(bif (x1.1==0) then(some (a2.Dst==0)) else((H9 a2.Dst).bind fun x2=>(some x2))))
theorem Abw(a2:E7)(r:Bool)(h:Ju a2=some r):Spec Tryz.prog 170 [(.agg (J8 a2))] [] (.bool r) []:=by
 refine Ab mix Tryz.func170 (fun Γ hq=>?_);unfold Ju at h;refine Ak hq [1] [1] ?_;obtain⟨x1,hx1,h⟩:=bind_some h;refine gR hq Ml [1] [] [⟨[],[],(.tuple [(Z7 x1.1),(Z7 x1.2)]),[],[],[]⟩] (c1 (Wa a2 x1 hx1)) ?_;refine Ak hq [1,11] [1] ?_;refine gC h ?_ ?_<;>intro h
 ·refine Ak hq [2] [] ?_;cases h;exact Dl []
 ·obtain⟨x2,hx2,h⟩:=bind_some h;refine gR hq [2] [] [] [(Z2 x2)] (c1 (S1 a2.Dst x2 hx2)) ?_;obtain rfl:=OI h;exact Dl []
def Q75(x1:Bool)(x2:Bool):=(bif (!x1) then true else(!x2))
def Lj(a2:E7):Option Bool:=
 ((Ky a2.Kind).bind fun x1=>((bif ((!x1)==false) then L9 a2.Bits a2.Lanes else some false).bind fun x2=>((bif ((bif (!x1) then true else(!x2))==false) then Ib a2 else some false).bind fun x3=>((bif ((bif (bif (!x1) then true else(!x2)) then true else(!x3))==false) then Jv a2 else some false).bind fun x4=>(bif (bif (bif (bif (!x1) then true else(!x2)) then true else(!x3)) then true else(!x4)) then(some false) else((Jt a2).bind fun x5=>((bif (x5==true) then Ju a2 else some false).bind fun x6=>(some (bif x5 then x6 else false)))))))))
theorem Ue(a2:E7)(r:Bool)(h:Lj a2=some r):Spec Tryz.prog 159 [(.agg (J8 a2))] [] (.bool r) []:=by
 refine Ab mix Tryz.func159 (fun Γ hq=>?_);unfold Lj at h;refine Ak hq [1] [1] ?_;obtain⟨x1,hx1,h⟩:=bind_some h;obtain⟨x2,hx2,h⟩:=bind_some h;obtain⟨x3,hx3,h⟩:=bind_some h;obtain⟨x4,hx4,h⟩:=bind_some h;refine gR hq [1,24] [1] [] [(Z2 x1),(Z2 x2),(Z2 x3),(Z2 x4)] (ci (ok_kind_isKind a2.Kind x1 hx1) (ci (gI ((!x1)==false)) (ci (gI ((!x1)==false)) (ci (gI ((!x1)==false)) (ci (gI ((!x1)==false)) (ci (fun(hg:((!x1)==false)=true)=>(ok_kind_Shape a2.Bits a2.Lanes x2 (C2 hg hx2))) (ci (gI ((!x1)==false)) (ci (Vw (!x1)) (ci (gI ((Q75 x1 x2)==false)) (ci (fun(hg:((Q75 x1 x2)==false)=true)=>(Yc a2 x3 (C2 hg hx3))) (ci (gI ((Q75 x1 x2)==false)) (ci (Vw (Q75 x1 x2)) (ci (gI ((bif (Q75 x1 x2) then true else(!x3))==false)) (ci (fun(hg:((bif (Q75 x1 x2) then true else(!x3))==false)=true)=>(Abx a2 x4 (C2 hg hx4))) (ci (gI ((bif (Q75 x1 x2) then true else(!x3))==false)) (c1 (Vw (bif (Q75 x1 x2) then true else(!x3))))))))))))))))))) ?_;refine gC h ?_ ?_<;>intro h
 ·refine Ak hq [2] [] ?_;obtain rfl:=OI h;exact Dl []
 ·obtain⟨x5,hx5,h⟩:=bind_some h;obtain⟨x6,hx6,h⟩:=bind_some h;refine gR hq [2] [] [] [(Z2 x5),(Z2 x6)] (ci (Abv a2 x5 hx5) (ci (gI (x5==true)) (ci (fun(hg:(x5==true)=true)=>(Abw a2 x6 (C2 hg hx6))) (c1 (Oa x5))))) ?_;cases h;exact Dl []
def L5(a2:E7)(aO:Int):Option Bool:=
 (bif (aO==0) then(some (bif (decide (a2.Kind<=17)) then(a2.Lanes==1) else false)) else(bif (aO==1) then(some (bif (decide (a2.Kind<=20)) then(a2.Lanes==1) else false)) else(some true)))
theorem ok_check_isOf(a2:E7)(aO:Int)(r:Bool)(h:L5 a2 aO=some r):Spec Tryz.prog 160 [(.agg (J8 a2)),(Z7 aO)] [] (.bool r) []:=by
 refine Ab mix Tryz.func160 (fun Γ hq=>?_);unfold L5 at h;refine Ak hq K4 [2] ?_;refine Ak hq [2,5] [2] ?_;refine Ak hq Wn [2] ?_;refine gC h ?_ ?_<;>intro h
 ·refine gR hq [4] [] [] [] (ci (gI ((decide (a2.Kind<=17))==true)) (ci (gI ((decide (a2.Kind<=17))==true)) (c1 (Oa (decide (a2.Kind<=17)))))) ?_;cases h;exact Dl []
 ·refine Ak hq Wo [2] ?_;refine gC h ?_ ?_<;>intro h
  ·refine gR hq [4] [] [] [] (ci (gI ((decide (a2.Kind<=20))==true)) (ci (gI ((decide (a2.Kind<=20))==true)) (c1 (Oa (decide (a2.Kind<=20)))))) ?_;cases h;exact Dl []
  ·refine Ak hq [4] [] ?_;obtain rfl:=OI h;exact Dl []
def Es(a2:E7)(a3:TFunc)(a7:Int)(a9:List Int)(a5:List Ao):Option (Bool×TFunc×Int×List Int×List Ao):=
 ((Lj a2).bind fun x1=>((bif (x1==true) then L5 a2 a7 else some false).bind fun x2=>(some ((bif x1 then x2 else false),a3,a7,a9,a5))))
theorem Qf(a2:E7)(a3:TFunc)(a7:Int)(a9:List Int)(a5:List Ao)(r:(Bool×TFunc×Int×List Int×List Ao))(h:Es a2 a3 a7 a9 a5=some r):Spec Tryz.prog 142 [Z52,(.agg (J8 a2))] (Z3 a3.Params a3.Ret a3.Blocks a7 a9 a5 a5.length) (.bool r.1) (Z3 r.2.1.Params r.2.1.Ret r.2.1.Blocks r.2.2.1 r.2.2.2.1 r.2.2.2.2 r.2.2.2.2.length):=by
 refine Ab mix Tryz.func142 (fun Γ hq=>?_);unfold Es at h;refine Ak hq Re zzN71 ?_;obtain⟨x1,hx1,h⟩:=bind_some h;obtain⟨x2,hx2,h⟩:=bind_some h;refine gR hq [4] Gt [] [(Z2 x1),(Z2 x2)] (ci (Ue a2 x1 hx1) (ci (gI (x1==true)) (ci (gI (x1==true)) (ci (gI (x1==true)) (ci (gI (x1==true)) (ci (gI (x1==true)) (ci (fun(hg:(x1==true)=true)=>(ok_check_isOf a2 a7 x2 (C2 hg hx2))) (c1 (Oa x1))))))))) ?_;cases h;exact Dl zzN6
def Ec(aB:List E7):(Int×List Int×Int×List Ad×Int×List Int×List Ao)->Option (LR (Int×List Int×Int×List Ad×Int×List Int×List Ao) ((List Int×Int×List Ad×Int×List Int×List Ao) ⊕ (Bool×TFunc×Int×List Int×List Ao))):=
 fun((i1,l2,i3,l4,i5,l6,l7):(Int×List Int×Int×List Ad×Int×List Int×List Ao))=>(bif (decide (i1<(aB.length:Int))) then(Bw (Bd i1 aB.length) ((Es (aB.getD i1.toNat default) (⟨l2,i3,l4⟩:TFunc) i5 l6 l7).bind fun x15=>(bif (!x15.1) then(some (.done (.inr (false,x15.2.1,x15.2.2.1,x15.2.2.2.1,x15.2.2.2.2)))) else(some (.next ((Bb (i1+1)),x15.2.1.Params,x15.2.1.Ret,x15.2.1.Blocks,x15.2.2.1,x15.2.2.2.1,x15.2.2.2.2)))))) else(some (.done (.inl (l2,i3,l4,i5,l6,l7)))))
def Wp(Γ:Hy)(aB:List E7)(a3:TFunc)(a7:Int)(a9:List Int)(a5:List Ao)(r:(Bool×TFunc×Int×List Int×List Ao)):Exit->St->Prop:=fK Tryz.prog Γ Tryz.f141.results.toList (Z3 a3.Params a3.Ret a3.Blocks a7 a9 a5 a5.length) (.bool r.1) (Z3 r.2.1.Params r.2.1.Ret r.2.1.Blocks r.2.2.1 r.2.2.2.1 r.2.2.2.2 r.2.2.2.2.length)
def G6(aB:List E7)(a3:TFunc)(a7:Int)(a9:List Int)(a5:List Ao):Option (Bool×TFunc×Int×List Int×List Ao):=
 ((An (Ec aB) ((0:Int),a3.Params,a3.Ret,a3.Blocks,a7,a9,a5)).bind (fun x16=>(match x16 with|(.inl (l8,i9,l10,i11,l12,l13))=>(some (true,(⟨l8,i9,l10⟩:TFunc),i11,l12,l13))|(.inr r18)=>(some r18))))
theorem Vy(aB:List E7)(a3:TFunc)(a7:Int)(a9:List Int)(a5:List Ao)(r:(Bool×TFunc×Int×List Int×List Ao))(h:G6 aB a3 a7 a9 a5=some r):Spec Tryz.prog 141 [(AV.list 6 J8 default aB .none),(.clo 142 [Z52] [])] (Z3 a3.Params a3.Ret a3.Blocks a7 a9 a5 a5.length) (.bool r.1) (Z3 r.2.1.Params r.2.1.Ret r.2.1.Blocks r.2.2.1 r.2.2.2.1 r.2.2.2.2 r.2.2.2.2.length):=by
 refine Ab mix Tryz.func141 (fun Γ hq=>?_);unfold G6 at h;refine Ak hq Ip Gt ?_;refine Ak hq Oi Gt ?_;obtain⟨x16,hx16,h⟩:=bind_some h;refine gL hq hx16 Oi Gt (fun u (i1,l2,i3,l4,i5,l6,l7)=>(F4 u [(9,(Z7 i1))] (Z3 l2 i3 l4 i5 l6 l7 l7.length))) (fun u x_=>match x_ with|(.inl (l8,i9,l10,i11,l12,l13))=>aG Γ (.exit 0) (⟨[],(Z3 l8 i9 l10 i11 l12 l13 l13.length),[]⟩:St)|(.inr r_)=>aR (Wp Γ aB a3 a7 a9 a5 r_)) ?_ ?_
 ·rintro⟨i1,l2,i3,l4,i5,l6,l7⟩ y h;unfold Ec at h;refine Ak hq Abk Gt ?_;refine gC h ?_ ?_<;>intro h
  ·obtain⟨hc14,h⟩:=Aa h;refine gR hq Abl [6,30000,37006] [] [] (c1 hc14) ?_;obtain⟨x15,hx15,h⟩:=bind_some h;refine gR hq zzN51 Gt [] [(Z56 x15.1 x15.2.1.Params x15.2.1.Ret x15.2.1.Blocks x15.2.2.1 x15.2.2.2.1 x15.2.2.2.2 x15.2.2.2.2.length)] (c1 (Qf (aB.getD i1.toNat default) (⟨l2,i3,l4⟩:TFunc) i5 l6 l7 x15 hx15)) ?_;refine gC h ?_ ?_<;>intro h
   ·refine Ak hq [4] Gt ?_;cases h;exact gO (Pj (J9 zzN6 (Le.refl _ _)))
   ·refine Ak hq Oi Gt ?_;cases h;exact gN Fe
  ·cases h;exact gO (D3 (Du [] Gt hq))
 ·clear hx16;rcases x16 with⟨l8,i9,l10,i11,l12,l13⟩|r18
  ·refine gA ?_;refine Ak hq [4] Gt ?_;cases h;exact Dl zzN6
  ·refine T0 (fun st' hk=>?_);obtain rfl:=OI h;exact gK hk
def Q78(x1:Bool)(x2:(Bool×TFunc×Int×List Int×List Ao))(a9:List Int):AV:=(Z53 x1 x2.2.2.2.1 a9)
def Q77(x1:Bool)(x2:(Bool×TFunc×Int×List Int×List Ao))(a3:TFunc):AV:=(Z53 x1 x2.2.1.Params a3.Params)
def Q76(x1:Bool)(x2:(Bool×TFunc×Int×List Int×List Ao))(a3:TFunc):AV:=(.slice 5 (bif (x1==true) then x2.2.1.Blocks.length else a3.Blocks.length) (fun i=>bif (x1==true) then Gg (x2.2.1.Blocks.getD i default) else Gg (a3.Blocks.getD i default)) .none)
def Do(aK:Ad)(a3:TFunc)(a7:Int)(a9:List Int)(a5:List Ao):Option (Bool×TFunc×Int×List Int×List Ao):=
 ((Gr aK.Phis).bind fun x1=>((bif (x1==true) then G6 aK.Ops a3 a7 a9 a5 else some (false,(default:TFunc),(0:Int),[],[])).bind fun x2=>(some ((bif x1 then x2.1 else false),(⟨(bif (x1==true) then x2.2.1.Params else a3.Params),(bif (x1==true) then x2.2.1.Ret else a3.Ret),(bif (x1==true) then x2.2.1.Blocks else a3.Blocks)⟩:TFunc),(bif (x1==true) then x2.2.2.1 else a7),(bif (x1==true) then x2.2.2.2.1 else a9),(bif (x1==true) then x2.2.2.2.2 else a5)))))
theorem Od(aK:Ad)(a3:TFunc)(a7:Int)(a9:List Int)(a5:List Ao)(r:(Bool×TFunc×Int×List Int×List Ao))(h:Do aK a3 a7 a9 a5=some r):Spec Tryz.prog 111 [Z52,(.agg (Gg aK))] (Z3 a3.Params a3.Ret a3.Blocks a7 a9 a5 a5.length) (.bool r.1) (Z3 r.2.1.Params r.2.1.Ret r.2.1.Blocks r.2.2.1 r.2.2.2.1 r.2.2.2.2 r.2.2.2.2.length):=by
 refine Ab mix Tryz.func111 (fun Γ hq=>?_);unfold Do at h;refine Ak hq Re zzN71 ?_;obtain⟨x1,hx1,h⟩:=bind_some h;obtain⟨x2,hx2,h⟩:=bind_some h;refine gR hq [4] Gt [] [(Z2 x1),(Z56 x2.1 x2.2.1.Params x2.2.1.Ret x2.2.1.Blocks x2.2.2.1 x2.2.2.2.1 x2.2.2.2.2 x2.2.2.2.2.length)] (ci (T9 aK.Phis x1 hx1) (ci (gI (x1==true)) (ci (gI (x1==true)) (ci (gI (x1==true)) (ci (gI (x1==true)) (ci (fun(hg:(x1==true)=true)=>(Vy aK.Ops a3 a7 a9 a5 x2 (C2 hg hx2))) (c1 (Oa x1)))))))) ?_;cases h;exact gK (e:=.ret) (J9 zzN6 (Le.trans (leB (fun g_ u=>(F4 u [] [(30000,.row 103 [(Q77 x1 x2 a3),(.int .i64 (bif (x1==true) then x2.2.1.Ret else a3.Ret)),(Q76 x1 x2 a3),(.int .i64 (bif (x1==true) then x2.2.2.1 else a7)),(Q78 x1 x2 a9),.nilm,(Z23 g_ x2.2.2.2.2 a5)]),(37006,.tok 5 149 (bif g_ then x2.2.2.2.2.length else a5.length))])) (fun g_ u=>(F4 u [] [(30000,.row 103 [(Q77 x1 x2 a3),(.int .i64 (bif (x1==true) then x2.2.1.Ret else a3.Ret)),(Q76 x1 x2 a3),(.int .i64 (bif (x1==true) then x2.2.2.1 else a7)),(Q78 x1 x2 a9),.nilm,(AV.list 5 Kk default (bif g_ then x2.2.2.2.2 else a5) (.own 37006))]),(37006,.tok 5 149 ((bif g_ then x2.2.2.2.2 else a5).length))])) (x1==true)) (Le.trans (leC 30000 0 (show AVle (Q77 x1 x2 a3) (AV.list 1 Ar 0 (bif (x1==true) then x2.2.1.Params else a3.Params) .none) from Hq)) (Le.trans (leC 30000 2 (show AVle (Q76 x1 x2 a3) (AV.list 5 Gg default (bif (x1==true) then x2.2.1.Blocks else a3.Blocks) .none) from Hq)) (leC 30000 4 (show AVle (Q78 x1 x2 a9) (AV.list 1 Ar 0 (bif (x1==true) then x2.2.2.2.1 else a9) .none) from Hq))))))
def Dd(aB:List Ad):(Int×List Int×Int×List Ad×Int×List Int×List Ao)->Option (LR (Int×List Int×Int×List Ad×Int×List Int×List Ao) ((List Int×Int×List Ad×Int×List Int×List Ao) ⊕ (Bool×TFunc×Int×List Int×List Ao))):=
 fun((i1,l2,i3,l4,i5,l6,l7):(Int×List Int×Int×List Ad×Int×List Int×List Ao))=>(bif (decide (i1<(aB.length:Int))) then(Bw (Bd i1 aB.length) ((Do (aB.getD i1.toNat default) (⟨l2,i3,l4⟩:TFunc) i5 l6 l7).bind fun x15=>(bif (!x15.1) then(some (.done (.inr (false,x15.2.1,x15.2.2.1,x15.2.2.2.1,x15.2.2.2.2)))) else(some (.next ((Bb (i1+1)),x15.2.1.Params,x15.2.1.Ret,x15.2.1.Blocks,x15.2.2.1,x15.2.2.2.1,x15.2.2.2.2)))))) else(some (.done (.inl (l2,i3,l4,i5,l6,l7)))))
def Tb(Γ:Hy)(aB:List Ad)(a3:TFunc)(a7:Int)(a9:List Int)(a5:List Ao)(r:(Bool×TFunc×Int×List Int×List Ao)):Exit->St->Prop:=fK Tryz.prog Γ Tryz.f110.results.toList (Z3 a3.Params a3.Ret a3.Blocks a7 a9 a5 a5.length) (.bool r.1) (Z3 r.2.1.Params r.2.1.Ret r.2.1.Blocks r.2.2.1 r.2.2.2.1 r.2.2.2.2 r.2.2.2.2.length)
def Ff(aB:List Ad)(a3:TFunc)(a7:Int)(a9:List Int)(a5:List Ao):Option (Bool×TFunc×Int×List Int×List Ao):=
 ((An (Dd aB) ((0:Int),a3.Params,a3.Ret,a3.Blocks,a7,a9,a5)).bind (fun x16=>(match x16 with|(.inl (l8,i9,l10,i11,l12,l13))=>(some (true,(⟨l8,i9,l10⟩:TFunc),i11,l12,l13))|(.inr r18)=>(some r18))))
theorem R8(aB:List Ad)(a3:TFunc)(a7:Int)(a9:List Int)(a5:List Ao)(r:(Bool×TFunc×Int×List Int×List Ao))(h:Ff aB a3 a7 a9 a5=some r):Spec Tryz.prog 110 [(Z21 aB),(.clo 111 [Z52] [])] (Z3 a3.Params a3.Ret a3.Blocks a7 a9 a5 a5.length) (.bool r.1) (Z3 r.2.1.Params r.2.1.Ret r.2.1.Blocks r.2.2.1 r.2.2.2.1 r.2.2.2.2 r.2.2.2.2.length):=by
 refine Ab mix Tryz.func110 (fun Γ hq=>?_);unfold Ff at h;refine Ak hq Ip Gt ?_;refine Ak hq Oi Gt ?_;obtain⟨x16,hx16,h⟩:=bind_some h;refine gL hq hx16 Oi Gt (fun u (i1,l2,i3,l4,i5,l6,l7)=>(F4 u [(9,(Z7 i1))] (Z3 l2 i3 l4 i5 l6 l7 l7.length))) (fun u x_=>match x_ with|(.inl (l8,i9,l10,i11,l12,l13))=>aG Γ (.exit 0) (⟨[],(Z3 l8 i9 l10 i11 l12 l13 l13.length),[]⟩:St)|(.inr r_)=>aR (Tb Γ aB a3 a7 a9 a5 r_)) ?_ ?_
 ·rintro⟨i1,l2,i3,l4,i5,l6,l7⟩ y h;unfold Dd at h;refine Ak hq Abk Gt ?_;refine gC h ?_ ?_<;>intro h
  ·obtain⟨hc14,h⟩:=Aa h;refine gR hq Abl [6,30000,37006] [] [] (c1 hc14) ?_;obtain⟨x15,hx15,h⟩:=bind_some h;refine gR hq zzN51 Gt [] [(Z56 x15.1 x15.2.1.Params x15.2.1.Ret x15.2.1.Blocks x15.2.2.1 x15.2.2.2.1 x15.2.2.2.2 x15.2.2.2.2.length)] (c1 (Od (aB.getD i1.toNat default) (⟨l2,i3,l4⟩:TFunc) i5 l6 l7 x15 hx15)) ?_;refine gC h ?_ ?_<;>intro h
   ·refine Ak hq [4] Gt ?_;cases h;exact gO (Pj (J9 zzN6 (Le.refl _ _)))
   ·refine Ak hq Oi Gt ?_;cases h;exact gN Fe
  ·cases h;exact gO (D3 (Du [] Gt hq))
 ·clear hx16;rcases x16 with⟨l8,i9,l10,i11,l12,l13⟩|r18
  ·refine gA ?_;refine Ak hq [4] Gt ?_;cases h;exact Dl zzN6
  ·refine T0 (fun st' hk=>?_);obtain rfl:=OI h;exact gK hk
def Q79(x1:Bool)(x2:Bool):=((bif x1 then x2 else false)==true)
def Q82(x1:Bool)(x2:Bool)(x3:(Bool×TFunc×Int×List Int×List Ao))(a9:List Int):AV:=(Z15 (Q79 x1 x2) x3.2.2.2.1 a9)
def Q81(x1:Bool)(x2:Bool)(x3:(Bool×TFunc×Int×List Int×List Ao))(a3:TFunc):AV:=(Z15 (Q79 x1 x2) x3.2.1.Params a3.Params)
def Q80(x1:Bool)(x2:Bool)(x3:(Bool×TFunc×Int×List Int×List Ao))(a3:TFunc):AV:=(Z49 (Q79 x1 x2) x3.2.1.Blocks a3.Blocks)
def Fg(a3:TFunc)(a7:Int)(a9:List Int)(a5:List Ao):Option (Int×TFunc×Int×List Int×List Ao):=
 ((I7 a3.Params).bind fun x1=>((bif (x1==true) then Hb a3.Ret else some false).bind fun x2=>((bif ((bif x1 then x2 else false)==true) then Ff a3.Blocks a3 a7 a9 a5 else some (false,(default:TFunc),(0:Int),[],[])).bind fun x3=>((H6 (bif (bif x1 then x2 else false) then x3.1 else false) (6:Int)).bind fun x4=>(some (x4,(⟨(bif ((bif x1 then x2 else false)==true) then x3.2.1.Params else a3.Params),(bif ((bif x1 then x2 else false)==true) then x3.2.1.Ret else a3.Ret),(bif ((bif x1 then x2 else false)==true) then x3.2.1.Blocks else a3.Blocks)⟩:TFunc),(bif ((bif x1 then x2 else false)==true) then x3.2.2.1 else a7),(bif ((bif x1 then x2 else false)==true) then x3.2.2.2.1 else a9),(bif ((bif x1 then x2 else false)==true) then x3.2.2.2.2 else a5)))))))
theorem R9(a3:TFunc)(a7:Int)(a9:List Int)(a5:List Ao)(r:(Int×TFunc×Int×List Int×List Ao))(h:Fg a3 a7 a9 a5=some r):Spec Tryz.prog 91 [Z52] (Z3 a3.Params a3.Ret a3.Blocks a7 a9 a5 a5.length) (Z7 r.1) (Z3 r.2.1.Params r.2.1.Ret r.2.1.Blocks r.2.2.1 r.2.2.2.1 r.2.2.2.2 r.2.2.2.2.length):=by
 refine Ab mix Tryz.func91 (fun Γ hq=>?_);unfold Fg at h;refine Ak hq [0] Gt ?_;obtain⟨x1,hx1,h⟩:=bind_some h;obtain⟨x2,hx2,h⟩:=bind_some h;obtain⟨x3,hx3,h⟩:=bind_some h;refine gR hq [3] Gt [] [(Z2 x1),(Z2 x2),(Z56 x3.1 x3.2.1.Params x3.2.1.Ret x3.2.1.Blocks x3.2.2.1 x3.2.2.2.1 x3.2.2.2.2 x3.2.2.2.2.length)] (ci (Zp a3.Params x1 hx1) (ci (gI (x1==true)) (ci (gI (x1==true)) (ci (gI (x1==true)) (ci (gI (x1==true)) (ci (gI (x1==true)) (ci (fun(hg:(x1==true)=true)=>(J0 a3.Ret x2 (C2 hg hx2))) (ci (Oa x1) (ci (gI (Q79 x1 x2)) (ci (gI (Q79 x1 x2)) (ci (gI (Q79 x1 x2)) (ci (gI (Q79 x1 x2)) (ci (gI (Q79 x1 x2)) (ci (gI (Q79 x1 x2)) (ci (gI (Q79 x1 x2)) (ci (fun(hg:(Q79 x1 x2)=true)=>(R8 a3.Blocks a3 a7 a9 a5 x3 (C2 hg hx3))) (c1 (Oa (bif x1 then x2 else false))))))))))))))))))) ?_;refine Ll (Le.trans (leB (fun g_ u=>(F4 u [] [(30000,.row 103 [(Q81 x1 x2 x3 a3),(Z60 (Q79 x1 x2) x3.2.1.Ret a3.Ret),(Q80 x1 x2 x3 a3),(Z60 (Q79 x1 x2) x3.2.2.1 a7),(Q82 x1 x2 x3 a9),.nilm,(Z23 g_ x3.2.2.2.2 a5)]),(37006,.tok 5 149 (bif g_ then x3.2.2.2.2.length else a5.length))])) (fun g_ u=>(F4 u [] [(30000,.row 103 [(Q81 x1 x2 x3 a3),(Z60 (Q79 x1 x2) x3.2.1.Ret a3.Ret),(Q80 x1 x2 x3 a3),(Z60 (Q79 x1 x2) x3.2.2.1 a7),(Q82 x1 x2 x3 a9),.nilm,(AV.list 5 Kk default (bif g_ then x3.2.2.2.2 else a5) (.own 37006))]),(37006,.tok 5 149 ((bif g_ then x3.2.2.2.2 else a5).length))])) (Q79 x1 x2)) (Le.trans (leC 30000 0 (show AVle (Q81 x1 x2 x3 a3) (AV.list 1 Ar 0 (bif (Q79 x1 x2) then x3.2.1.Params else a3.Params) .none) from Hq)) (Le.trans (leC 30000 2 (show AVle (Q80 x1 x2 x3 a3) (AV.list 5 Gg default (bif (Q79 x1 x2) then x3.2.1.Blocks else a3.Blocks) .none) from Hq)) (leC 30000 4 (show AVle (Q82 x1 x2 x3 a9) (AV.list 1 Ar 0 (bif (Q79 x1 x2) then x3.2.2.2.1 else a9) .none) from Hq))))) ?_;obtain⟨x4,hx4,h⟩:=bind_some h;refine gR hq [2] Gt [] [(Z44 x4)] (c1 (Sy (bif (bif x1 then x2 else false) then x3.1 else false) (6:Int) x4 hx4)) ?_;cases h;exact Dl zzN6
def C9(aL:Int):Option (Int×Int):=
 (some (aL,(1:Int)))
theorem Jb(aL:Int)(r:(Int×Int))(h:C9 aL=some r):Spec Tryz.prog 112 [(Z7 aL)] [] (.agg (Bz r)) []:=by
 refine Ab mix Tryz.func112 (fun Γ hq=>?_);unfold C9 at h;refine Ak hq [0,2] [2] ?_;refine Ak hq [2] [2] ?_;cases h;exact Dl []
def Q83:=(fun(v_:Af)=>((Rk v_):AV))
def Dy(aD:Int)(aa0:(Int×Int))(aC:Gu)(a3:TFunc)(a7:Int)(a9:List Int)(a6:List (Int×Af))(a5:List Ao):Option (Bool×TFunc×Int×List Int×List Ao×List (Int×Af)):=
 (bif (bif (bif (Ei a6 aD) then true else(decide (aD<1))) then true else(decide (((1023:Int):Int)<aD))) then(some (false,a3,a7,a9,a5,a6)) else(some (true,a3,a7,a9,a5,(Jy a6 aD (⟨aa0,aC⟩:Af)))))
theorem Lo(aD:Int)(aa0:(Int×Int))(aC:Gu)(a3:TFunc)(a7:Int)(a9:List Int)(a6:List (Int×Af))(a5:List Ao)(r:(Bool×TFunc×Int×List Int×List Ao×List (Int×Af)))(h:Dy aD aa0 aC a3 a7 a9 a6 a5=some r):Spec Tryz.prog 143 [Z52,(Z7 aD),(.agg (Bz aa0)),(.agg (eTplace aC))] [(Z1 a3.Params a3.Ret a3.Blocks a7 a9 9100005 a5),(Pi a5.length),(9100005,.obj (.map true .i64 (Df (fun(v_:Af)=>((Rk v_):AV)) a6)))] (.bool r.1) [(Z1 r.2.1.Params r.2.1.Ret r.2.1.Blocks r.2.2.1 r.2.2.2.1 9100005 r.2.2.2.2.1),(Pi r.2.2.2.2.1.length),(9100005,.obj (.map true .i64 (Df (fun(v_:Af)=>((Rk v_):AV)) r.2.2.2.2.2)))]:=by
 refine Ab mix Tryz.func143 (fun Γ hq=>?_);unfold Dy at h;refine Ak hq [0,1,6,7] zzN47 ?_;refine gR hq [0,1,6,7,10] zzN47 [(17,(.tuple [(Z33 a6 aD),(.bool (Ei a6 aD))]))] [] (c1 (show(AVle (.tuple [Fq (.agg [Td,Td,Td,Td]) (Df Q83 a6) aD,.bool (Ei (Df Q83 a6) aD)]) (.tuple [(Z33 a6 aD),(.bool (Ei a6 aD))])) from(mlook_le (f:=Q83) (l:=a6) (AVle.refl _) rfl))) ?_;refine gR hq [0,1,6,7,28] zzN47 [] [] (ci (gI ((Ei a6 aD)==false)) (ci (Vw (Ei a6 aD)) (ci (gI ((bif (Ei a6 aD) then true else(decide (aD<1)))==false)) (c1 (Vw (bif (Ei a6 aD) then true else(decide (aD<1)))))))) ?_;refine gC h ?_ ?_<;>intro h
 ·refine Ak hq [8] Gn ?_;cases h;exact Dl V0
 ·refine Ak hq [] Gn ?_;refine Ll (Vh (fun(k_:List (Int×AV)) u=>F4 u [] [(9100005,.obj (.map true .i64 k_))]) (show(Jy (Df Q83 a6) aD (.agg [(Z7 aa0.1),(Z7 aa0.2),(Z7 aC.block),(Z7 aC.at_)]))=(Df Q83 (Jy a6 aD (⟨aa0,aC⟩:Af))) from(mset_eq (f:=Q83) (l:=a6) (v:=(⟨aa0,aC⟩:Af)) rfl rfl))) ?_;refine Ak hq [8] Gn ?_;cases h;exact Dl V0
def Kc(a2:E7):Option (Int×Int):=
 ((Lj a2).bind fun x1=>(bif (!x1) then(some ((0:Int),(0:Int))) else((Ke a2).bind fun x2=>(some (x2.1,x2.2)))))
theorem ok_kind_Gives(a2:E7)(r:(Int×Int))(h:Kc a2=some r):Spec Tryz.prog 144 [(.agg (J8 a2))] [] (.tuple [(Z7 r.1),(Z7 r.2)]) []:=by
 refine Ab mix Tryz.func144 (fun Γ hq=>?_);unfold Kc at h;refine Ak hq [1] [1] ?_;obtain⟨x1,hx1,h⟩:=bind_some h;refine gR hq [1,6] [1] [] [(Z2 x1)] (c1 (Ue a2 x1 hx1)) ?_;refine gC h ?_ ?_<;>intro h
 ·refine Ak hq G3 [] ?_;cases h;exact Dl []
 ·obtain⟨x2,hx2,h⟩:=bind_some h;refine gR hq G3 [] [] [⟨[],[],(.tuple [(Z7 x2.1),(Z7 x2.2)]),[],[],[]⟩] (c1 (Wa a2 x2 hx2)) ?_;cases h;exact Dl []
end
end Go.Proofs.YtmkiepobhjiabaaGreat
