/-
  The machine, the program's functions and the laws' arithmetic: part 3 of 6.
-/
import Derived.Test.YtjpnobeadcdnoaaGreatPk2
import Derived.BigCall
import Derived.Lib.RowBridge
import Derived.Shelf.Slices.Clone
import Derived.Shelf.Slices.CompactI
import Derived.Shelf.Slices.In.SortNone
import Derived.Shelf.Sort.Plain
import Derived.Sort.OwnSortedInts
import Derived.Test.YtjpnobeadcdnoaaGreatProg
set_option linter.unusedSectionVars false
set_option linter.defProp false
set_option linter.unusedVariables false
set_option linter.unusedSimpArgs false
namespace Go.Proofs.YtjpnobeadcdnoaaGreat
noncomputable section
open Go Go.RowKit
def Oq{α:Type}(sz:Nat)(e:α->List AV)(d:α)(L:List (List α))(t:Nat->Tag):Nat->List AV:=λj=>[AV.list sz e d (L.getD j []) (t j)]
def Hu(b i k j:Nat):Tag:=bif Nat.beq j i then .own k else .fam b j
def Nn{α:Type}(L:List (List α)):Nat->Option Nat:=λj=>if j<L.length then some (L.getD j []).length else none
def BD{α:Type}(L:List (List α))(i:Nat):Nat->Option Nat:=λj=>if j=i then none else Nn L j
mutual
def AV.free(p:Tag->Bool):AV->Bool
 | .slice _ _ _ t=>p t
 | .clo _ xs ys=>AV.freeAll p xs&&AV.freeAll p ys
 | .agg cs=>AV.freeAll p cs
 | .rpo cs=>AV.freeAll p cs
 | .tuple cs=>AV.freeAll p cs
 | .cond _ x=>x.free p
 | _=>true
def AV.freeAll(p:Tag->Bool):List AV->Bool
 | []=>true
 | x::l=>x.free p&&AV.freeAll p l
end
theorem L5{p:Tag->Bool}{l:List AV}(h:AV.freeAll p l=true)(j:Nat):(l.getD j .any).free p=true:=by
 induction l generalizing j with
 | nil=>simp[AV.free]
 | cons x l ih=>
  simp only[AV.freeAll,Be]at h
  cases j with
  | zero=>simpa using h.1
  | succ j=>simpa using ih h.2 j
def AObj.Al(P:AV->Prop):AObj->Prop
 | .iter _ _=>True
 | .map _ _ _=>True
 | .pmap _ _ _=>True
 | .miter m _ _=>P m
 | .tab _ l=>∀ i,i<l.length->P (l.getD i (0,.any)).2
theorem AObj.Al.imp{P Q:AV->Prop}{x:AObj}(h:x.Al P)(k:∀ y,P y->Q y):x.Al Q:=by
 cases x with
 | iter=>trivial
 | map=>trivial
 | pmap=>trivial
 | miter=>exact k _ h
 | tab=>exact λi hi=>k _ (h i hi)
theorem ObjR.al{P:AV->Prop}{I I':Nat->Nat->Prop}{own own':Nat->Option Own}{θ θ':Nat->Option (Nat×Nat)}{w w':World}{o:Obj}{x:AObj}(h:ObjR I own θ w o x)(hx:x.Al P)(hI:∀ b o,I b o->I' b o)(hw:∀ b o,I b o->w'.cell? ⟨b,o,none⟩=w.cell? ⟨b,o,none⟩)(hf:∀ v y,P y->Rep I own θ w v y->Rep I' own' θ' w' v y):ObjR I' own' θ' w' o x:=by
 cases h with
 | iter s p=>exact .iter s p
 | map es nn k l hs hr=>
  refine .map es nn k l hs λi hi=>?_;obtain⟨v,h1,h2,h3⟩:=hr i hi;exact⟨v,h1,h2.mono hI hw,h3⟩
 | pmap es nn k l0 l hp hk hs hr=>
  refine .pmap es nn k l0 l hp hk hs λi hi=>?_;obtain⟨v,h1,h2,h3⟩:=hr i hi;exact⟨v,h1,h2.mono hI hw,h3⟩
 | miter r m n c seen hc hr=>exact .miter r m n c _ hc (hf _ _ hx hr)
 | tab es k l hs hr=>exact .tab es k l hs λi hi=>by obtain⟨v,h1,h2⟩:=hr i hi;exact⟨v,h1,hf _ _ (hx i hi) h2⟩
def da(b:Nat):Tag->Bool
 | .fam b' _=>!Nat.beq b' b
 | .own nm=>Nat.blt nm Bp
 | _=>true
def jf(k:Nat):Tag->Bool
 | .own k'=>!Nat.beq k' k
 | _=>true
def Fr(q:Nat)(x:AV):Prop:=∀(I:Nat->Nat->Prop) (own own':Nat->Option Own) (θ θ':Nat->Option (Nat×Nat)) (w:World) (v:Value),(∃ sz e m,own q=some (.tok sz e m))->
 (∀ nm o,nm≠q->own nm=some o->∃ o',own' nm=some o'/\OwnLe o (θ nm) o' (θ' nm))->Rep I own θ w v x->Rep I own' θ' w v x
theorem ur{q:Nat}{p:Tag->Bool}(hp:∀ nm,p (.own nm)=true->nm≠q)(hf:∀ b i,i<Bp->p (.fam b i)=true->Sx b i≠q){x:AV}(hx:x.free p=true):Fr q x:=by
 intro I own own' θ θ' w v hq ho h;obtain⟨s0,e0,m0,hq⟩:=hq
 have hne:∀{nm o},own nm=some o->(∀ sz e m,o≠.tok sz e m)->nm≠q:=λhn hh=>by
  grind
 induction h with
 | val v x h=>exact .val v x h
 | exact a n sz f h=>exact .exact a n sz f h
 | own nm sz e m a n cap f hn hm hv h=>
  obtain⟨o',ho',hle⟩:=ho nm _ (hp nm hx) hn
  cases o' with
  | tok sz' e' m'=>
   obtain⟨rfl,rfl,hmm,hθ⟩:=hle;refine .own nm _ _ m' a n cap f ho' (Tg hm hmm) (λhe=>?_) h;rw[hθ (by omega)];exact hv (by omega)
  | _=>exact hle.elim
 | fam b i sz e m a n cap f hi hn hm hv h=>
  obtain⟨o',ho',hle⟩:=ho (Sx b i) _ (hf b i hi hx) hn
  cases o' with
  | tok sz' e' m'=>
   obtain⟨rfl,rfl,hmm,hθ⟩:=hle;refine .fam b i _ _ m' a n cap f hi ho' (Tg hm hmm) (λhe=>?_) h;rw[hθ (by omega)];exact hv (by omega)
  | _=>exact hle.elim
 | ptr nm off e cells g c hn hg=>
  obtain⟨o',ho',hle⟩:=ho nm _ (hne hn (λ_ _ _ h=>by cases h)) hn
  cases o' with
  | row e' cells'=>
   have e:θ' nm=θ nm:=hle.2;exact .ptr nm off e' cells' g c ho' (e.trans hg)
  | _=>exact hle.elim
 | vsl nm sz e m f a n cap hn hm hcap hmax hnn hv=>
  obtain⟨o',ho',hle⟩:=ho nm _ (hne hn (λ_ _ _ h=>by cases h)) hn
  cases o' with
  | arr sz' e' m' f'=>
   obtain⟨rfl,rfl,hmm,hθ⟩:=hle;refine .vsl nm _ _ m' f' a n cap ho' (Tg hm hmm) hcap hmax hnn (λhe=>?_);rw[hθ (by omega)];exact hv (by omega)
  | _=>exact hle.elim
 | vpt nm sz e m f n i j ad hn hm hi hv=>
  obtain⟨o',ho',hle⟩:=ho nm _ (hne hn (λ_ _ _ h=>by cases h)) hn
  cases o' with
  | arr sz' e' m' f'=>
   obtain⟨rfl,rfl,hmm,hθ⟩:=hle;refine .vpt nm _ _ m' f' n i j ad ho' (Tg hm hmm) hi (λhe=>?_);rw[hθ (by omega)];exact hv (by omega)
  | _=>exact hle.elim
 | clo f fs cs xs ys hl hl' _ _ ih ih'=>
  simp only[AV.free,Be]at hx;exact .clo f fs cs xs ys hl hl' (λj hj=>ih j hj (L5 hx.1 j)) (λj hj=>ih' j hj (L5 hx.2 j))
 | optr nm mm x g c hn hg=>
  obtain⟨o',ho',hle⟩:=ho nm _ (hne hn (λ_ _ _ h=>by cases h)) hn
  cases o' with
  | obj x'=>exact .optr nm mm x' g c ho' (by rw[hle,hg])
  | _=>exact hle.elim
 | omap nm x hn=>
  obtain⟨o',ho',hle⟩:=ho nm _ (hne hn (λ_ _ _ h=>by cases h)) hn
  cases o' with
  | obj x'=>
   have hle:θ' nm=θ nm:=hle;rw[<- hle];exact .omap nm x' ho'
  | _=>exact hle.elim
 | vsub nm sz e m f n lo hi a cap hn hm hlo hhi hcap hmax hnn hv=>
  obtain⟨o',ho',hle⟩:=ho nm _ (hne hn (λ_ _ _ h=>by cases h)) hn
  cases o' with
  | arr sz' e' m' f'=>
   obtain⟨rfl,rfl,hmm,hθ⟩:=hle;refine .vsub nm _ _ m' f' n lo hi a cap ho' (Tg hm hmm) hlo hhi hcap hmax hnn (λhe=>?_);rw[hθ (by omega)];exact hv (by omega)
  | _=>exact hle.elim
 | cond v c x _ h' ih=>exact .cond v c x (λhc=>ih hc hx) h'
 | agg vs cs hl h1 _ ih=>exact .agg vs cs hl h1 (λj hj=>ih j hj (L5 hx j))
 | rpo a cells us hs hI' hc h1 _ ih=>exact .rpo a cells us hs hI' hc h1 (λj hj=>ih j hj (L5 hx j))
 | tuple vs cs hl _ ih=>exact .tuple vs cs hl (λj hj=>ih j hj (L5 hx j))
theorem oh{b i:Nat}(hi:i<Bp){x:AV}(hx:x.free (da b)=true):Fr (Sx b i) x:=
 ur  (λnm hp he=>by
  have hlt :=by simpa [da,K2] using hp
  rw[he]at hlt
  exact Rl b i hlt) (λb' i' hi' hp he=>by
  have h1:=Xg (b:=b') hi';rw[he,Xg hi]at h1;subst h1
  simp[da]at hp) hx
theorem oi{k:Nat}(hk:k<Bp){x:AV}(hx:x.free (jf k)=true):Fr k x:=
 ur  (λnm hp he=>by subst he;simp[jf]at hp) (λb i _ _ he=>by rw[<- he]at hk;exact Rl b i hk) hx
def mp(q:Nat):Own->Prop
 | .row _ cells=>∀ j,j<cells.length->Fr q (cells.getD j .any)
 | .arr sz _ m f=>∀ i j,i<m->j<sz->Fr q ((f i).getD j .any)
 | .obj x=>x.Al (Fr q)
 | .tok ..=>True
theorem AR{I:Nat->Nat->Prop}{own own':Nat->Option Own}{θ θ':Nat->Option (Nat×Nat)}{w:World}{nm sz m:Nat}{e:TypeId}{f f':Nat->List AV}
  (h:(θ nm=none->m=0)/\∀ g c,θ nm=some (g,c)->∃ cur,w.heap[g]?=some (.cells cur e (0,0))/\m<=c/\c<=maxLen/\cur.size=c*sz /\
   (∀ i,i<m->(f i).length=sz)/\(∀ i j,i<m->j<sz->(cur.getD (i*sz+j) undef).oneCell'=true/\Rep I own θ w (cur.getD (i*sz+j) undef) ((f i).getD j .any))/\∀ j,¬ I g j)
  (hθ:θ' nm=θ nm) (hf:∀ i,i<m->(f' i).length=(f i).length) (hr:∀ i j v,i<m->j<sz->Rep I own θ w v ((f i).getD j .any)->Rep I own' θ' w v ((f' i).getD j .any)) :
  (θ' nm=none->m=0)/\∀ g c,θ' nm=some (g,c)->∃ cur,w.heap[g]?=some (.cells cur e (0,0))/\m<=c/\c<=maxLen/\cur.size=c*sz /\
   (∀ i,i<m->(f' i).length=sz)/\(∀ i j,i<m->j<sz->(cur.getD (i*sz+j) undef).oneCell'=true/\Rep I own' θ' w (cur.getD (i*sz+j) undef) ((f' i).getD j .any))/\∀ j,¬ I g j:=by
 rw[hθ];refine⟨h.1,λg c hg=>?_⟩;obtain⟨cur,q1,q2,q3,q4,q5,q6,q7⟩:=h.2 g c hg;exact⟨cur,q1,q2,q3,q4,λi hi=>(hf i hi).trans (q5 i hi),λi j hi hj=>⟨(q6 i j hi hj).1,hr i j _ hi hj (q6 i j hi hj).2⟩,q7⟩
section
variable {Γ:Ix} {σ:Sto} {I:Nat->Nat->Prop} {θ:Nat->Option (Nat×Nat)} {a:Act} {w:World}
theorem SE(h:Rel Γ σ I θ a w){p q r sz m s1 n:Nat}{e e1:TypeId}{F F':Nat->List AV}(hp:σ.own p=some (.tok sz e m))(hq:σ.own q=none)(hr:σ.own r=some (.arr s1 e1 n F))(hp0:Γ.own0 p=none)
  (hfree:∀ t,Fr p (σ.tmp t)) (hrows:∀ nm o,nm≠r->σ.own nm=some o->mp p o) {own':Nat->Option Own} {θ':Nat->Option (Nat×Nat)}
  (hown:own'=λx=>if x=q then some (.tok sz e m) else if x=p then none else if x=r then some (.arr s1 e1 n F') else σ.own x)
  (hθ:θ'=λx=>if x=q then θ p else if x=p then none else θ x)
  (hlen:∀ j,j<n->(F' j).length=(F j).length)
  (hF:∀ j c v,j<n->c<s1->Rep I σ.own θ w v ((F j).getD c .any)->Rep I own' θ' w v ((F' j).getD c .any)) :
  Rel Γ ⟨σ.tmp,own'⟩ I θ' a w:=by
 have hpq:p≠q:=by rintro rfl;rw[hp]at hq;cases hq
 have hpr:p≠r:=by rintro rfl;rw[hp]at hr;cases hr
 have hqr:q≠r:=by rintro rfl;rw[hq]at hr;cases hr
 have hkeep:∀ nm o,nm≠p->σ.own nm=some o->∃ o',own' nm=some o'/\OwnLe o (θ nm) o' (θ' nm):=λnm o hnp ho=>by
  have hnq:nm≠q:=by rintro rfl;rw[hq]at ho;cases ho
  by_cases hnr:nm=r
  ·subst hnr;rw[hr]at ho;obtain rfl:=OI ho;exact⟨.arr s1 e1 n F',by simp[hown,hnq,hnp],by simp[hθ,hnq,hnp,OwnLe]⟩
  ·exact⟨o,by simp[hown,hnq,hnp,hnr,ho],by simp[hθ,hnq,hnp,OwnLe.refl]⟩
 have hT:∀ v x,Fr p x->Rep I σ.own θ w v x->Rep I own' θ' w v x:=λv x hx hv=>hx I _ _ _ _ w v ⟨_,_,_,hp⟩ hkeep hv
 have hinv:∀ nm o,nm≠q->nm≠r->own' nm=some o->nm≠p/\σ.own nm=some o/\θ' nm=θ nm:=λnm o h1 h2 ho=>by
  by_cases h3:nm=p
  ·simp[hown,h3,hpq]at ho
  ·simp[hown,h1,h2,h3]at ho;exact⟨h3,ho,by simp[hθ,h1,h3]⟩
 have hnone:∀ nm,own' nm≠none->∃ nm',σ.own nm'≠none/\θ' nm=θ nm'/\(nm=q->nm'=p)/\(nm≠q->nm'=nm/\nm≠p):=λnm hn=>by
  grind
 have hq':own' q=some (.tok sz e m):=by simp[hown]
 have hr':own' r=some (.arr s1 e1 n F'):=by simp[hown,Ol hqr,Ol hpr]
 have hrel:=h.chg.rel
 have hθr:θ' r=θ r:=by simp[hθ,Ol hqr,Ol hpr]
 have hθq:θ' q=θ p:=by simp[hθ]
 refine⟨h.size,h.defers,λt=>hT _ _ (hfree t) (h.slots t),{ h.chg with le:=λnm o ho=>?_,rel:=⟨λnm e0 cells ho=>?_,λnm s' e' m' ho g c hg=>?_,λnm nm' g c c' ho ho' hg hg'=>?_,λnm s' e' m' f' ho=>?_,λnm x ho=>?_,λnm s' m' ho hnn=>?_⟩,new:=λnm g c ho hg=>?_ }⟩
 ·obtain⟨o',ho',hl⟩:=h.chg.le nm o ho
  have hnp:nm≠p:=by rintro rfl;rw[hp0]at ho;cases ho
  obtain⟨o'',h1,h2⟩:=hkeep nm o' hnp ho';exact⟨o'',h1,hl.trans h2⟩
 ·replace ho:own' nm=some _:=ho
  have h1:nm≠q:=by rintro rfl;rw[hq']at ho;cases ho
  have h2:nm≠r:=by rintro rfl;rw[hr']at ho;cases ho
  obtain⟨h3,h4,h5⟩:=hinv nm _ h1 h2 ho;obtain⟨g,c,vs,r1,r2,r3,r4,r5,r6⟩:=hrel.row nm e0 cells h4;exact⟨g,c,vs,h5.trans r1,r2,r3,r4,λj hj=>hT _ _ (hrows nm _ h2 h4 j hj) (r5 j hj),r6⟩
 ·replace ho:own' nm=some _:=ho
  by_cases h1:nm=q
  ·subst h1;rw[hq']at ho;simp only[Aj,Own.tok.injEq]at ho;obtain⟨rfl,rfl,rfl⟩:=ho;exact hrel.tok p _ _ _ hp g c (hθq.symm.trans hg)
  ·have h2:nm≠r:=by rintro rfl;rw[hr']at ho;cases ho
   obtain⟨h3,h4,h5⟩:=hinv nm _ h1 h2 ho;exact hrel.tok nm _ _ _ h4 g c (h5.symm.trans hg)
 ·obtain⟨n1,a1,a2,a3,a4⟩:=hnone nm ho;obtain⟨n2,b1,b2,b3,b4⟩:=hnone nm' ho';have:=hrel.inj n1 n2 g c c' a1 b1 (a2.symm.trans hg) (b2.symm.trans hg')
  by_cases h1:nm=q
  ·by_cases h2:nm'=q
   ·rw[h1,h2]
   ·have:=a3 h1;have:=b4 h2;omega
  ·by_cases h2:nm'=q
   ·have:=a4 h1;have:=b3 h2;omega
   ·have:=a4 h1;have:=b4 h2;omega
 ·replace ho:own' nm=some _:=ho
  have h1:nm≠q:=by rintro rfl;rw[hq']at ho;cases ho
  by_cases h2:nm=r
  ·subst h2;rw[hr']at ho;simp only[Aj,Own.arr.injEq]at ho;obtain⟨rfl,rfl,rfl,rfl⟩:=ho;exact AR (hrel.arr nm _ _ _ _ hr) hθr hlen hF
  ·obtain⟨h3,h4,h5⟩:=hinv nm _ h1 h2 ho;exact AR (hrel.arr nm _ _ _ _ h4) h5 (λ_ _=>rfl) (λi j v hi hj hv=>hT _ _ (hrows nm _ h2 h4 i j hi hj) hv)
 ·replace ho:own' nm=some _:=ho
  have h1:nm≠q:=by rintro rfl;rw[hq']at ho;cases ho
  have h2:nm≠r:=by rintro rfl;rw[hr']at ho;cases ho
  obtain⟨h3,h4,h5⟩:=hinv nm _ h1 h2 ho;exact L9 (hrel.obj nm _ h4) h5 (λ_ _ _=>rfl) (λ_ _ _ _ h=>h) (λ_ hh=>hh.al (hrows nm _ h2 h4) (λ_ _ h=>h) (λ_ _ _=>rfl) λv y hy hv=>hT v y hy hv) Vw
 ·replace ho:own' nm=some _:=ho
  by_cases h1:nm=q
  ·subst h1;rw[hq']at ho;simp only[Aj,Own.tok.injEq]at ho;obtain⟨rfl,he,rfl⟩:=ho;exact hrel.tok8 p _ _ (by rw[hp,he]) (hθq.symm.trans hnn)
  ·have h2:nm≠r:=by rintro rfl;rw[hr']at ho;cases ho
   obtain⟨h3,h4,h5⟩:=hinv nm _ h1 h2 ho;exact hrel.tok8 nm _ _ h4 (h5.symm.trans hnn)
 ·obtain⟨n1,a1,a2,_,_⟩:=hnone nm ho;exact h.chg.new n1 g c a1 (a2.symm.trans hg)
theorem gu(h:Rel Γ σ I θ a w){r s1 n:Nat}{e1:TypeId}{F F':Nat->List AV}(hr:σ.own r=some (.arr s1 e1 n F)){S:Nat->Option (Nat×TypeId×Nat)}(hS:∀ x y,S x=some y->σ.own x=none)
  (h8:∀ x sz m,S x=some (sz,ES,m)->m=0) {own':Nat->Option Own} {θ':Nat->Option (Nat×Nat)}
  (hown:own'=λx=>match S x with|some y=>some (.tok y.1 y.2.1 y.2.2)|none=>if x=r then some (.arr s1 e1 n F') else σ.own x)
  (hθ:θ'=λx=>match S x with|some _=>none|none=>θ x) (hlen:∀ j,j<n->(F' j).length=(F j).length)
  (hF:∀ j c v,j<n->c<s1->Rep I σ.own θ w v ((F j).getD c .any)->Rep I own' θ' w v ((F' j).getD c .any)) :
  Rel Γ ⟨σ.tmp,own'⟩ I θ' a w:=by
 have hSn:∀ nm o,σ.own nm=some o->S nm=none:=λnm o ho=>by
  cases hx:S nm with
  | none=>rfl
  | some y=>rw[hS nm y hx]at ho;cases ho
 have hkeep:∀ nm o,σ.own nm=some o->∃ o',own' nm=some o'/\OwnLe o (θ nm) o' (θ' nm):=λnm o ho=>by
  have h1:=hSn nm o ho
  by_cases hnr:nm=r
  ·subst hnr;rw[hr]at ho;obtain rfl:=OI ho;exact⟨.arr s1 e1 n F',by simp[hown,h1],by simp[hθ,h1,OwnLe]⟩
  ·exact⟨o,by simp[hown,h1,hnr,ho],by simp[hθ,h1,OwnLe.refl]⟩
 have hT:∀ v x,Rep I σ.own θ w v x->Rep I own' θ' w v x:=λv x hv=>hv.mono (λ_ _ h=>h) (λ_ _ _=>rfl) hkeep
 have hinv:∀ nm o,own' nm=some o->(∀ sz e m,o≠.tok sz e m)->nm≠r->σ.own nm=some o/\θ' nm=θ nm:=λnm o ho hn h2=>by
  cases hx:S nm with
  | none=>simp[hown,hx,h2]at ho;exact⟨ho,by simp[hθ,hx]⟩
  | some y=>simp[hown,hx]at ho;exact(hn _ _ _ ho.symm).elim
 have hold:∀ nm g c,own' nm≠none->θ' nm=some (g,c)->σ.own nm≠none/\θ nm=some (g,c):=λnm g c ho hg=>by
  cases hx:S nm with
  | some y=>simp[hθ,hx]at hg
  | none=>
   simp[hθ,hx]at hg;refine⟨?_,hg⟩
   by_cases h2:nm=r
   ·subst h2;simp[hr]
   ·simpa [hown,hx,h2] using ho
 have hSr:S r=none:=hSn r _ hr
 have hr':own' r=some (.arr s1 e1 n F'):=by simp[hown,hSr]
 have hθr:θ' r=θ r:=by simp[hθ,hSr]
 have hrel:=h.chg.rel;refine⟨h.size,h.defers,λt=>hT _ _ (h.slots t),{ h.chg with le:=λnm o ho=>?_,rel:=⟨λnm e0 cells ho=>?_,λnm s' e' m' ho g c hg=>?_,λnm nm' g c c' ho ho' hg hg'=>?_,λnm s' e' m' f' ho=>?_,λnm x ho=>?_,λnm s' m' ho hnn=>?_⟩,new:=λnm g c ho hg=>?_ }⟩
 ·obtain⟨o',ho',hl⟩:=h.chg.le nm o ho;obtain⟨o'',h1,h2⟩:=hkeep nm o' ho';exact⟨o'',h1,hl.trans h2⟩
 ·replace ho:own' nm=some _:=ho
  have h2:nm≠r:=by rintro rfl;rw[hr']at ho;cases ho
  obtain⟨h4,h5⟩:=hinv nm _ ho (λ_ _ _ h=>by cases h) h2;obtain⟨g,c,vs,r1,r2,r3,r4,r5,r6⟩:=hrel.row nm e0 cells h4;exact⟨g,c,vs,h5.trans r1,r2,r3,r4,λj hj=>hT _ _ (r5 j hj),r6⟩
 ·replace ho:own' nm=some _:=ho;obtain⟨h1,h2⟩:=hold nm g c (by rw[ho];simp) hg
  cases hx:S nm with
  | some y=>simp[hθ,hx]at hg
  | none=>
   have h3:nm≠r:=by rintro rfl;rw[hr']at ho;cases ho
   simp[hown,hx,h3]at ho;exact hrel.tok nm _ _ _ ho g c h2
 ·obtain⟨a1,a2⟩:=hold nm g c ho hg;obtain⟨b1,b2⟩:=hold nm' g c' ho' hg';exact hrel.inj nm nm' g c c' a1 b1 a2 b2
 ·replace ho:own' nm=some _:=ho
  by_cases h2:nm=r
  ·subst h2;rw[hr']at ho;simp only[Aj,Own.arr.injEq]at ho;obtain⟨rfl,rfl,rfl,rfl⟩:=ho;exact AR (hrel.arr nm _ _ _ _ hr) hθr hlen hF
  ·obtain⟨h4,h5⟩:=hinv nm _ ho (λ_ _ _ h=>by cases h) h2;exact AR (hrel.arr nm _ _ _ _ h4) h5 (λ_ _=>rfl) (λi j v _ _ hv=>hT _ _ hv)
 ·replace ho:own' nm=some _:=ho
  have h2:nm≠r:=by rintro rfl;rw[hr']at ho;cases ho
  obtain⟨h4,h5⟩:=hinv nm _ ho (λ_ _ _ h=>by cases h) h2;exact L9 (hrel.obj nm _ h4) h5 (λ_ _ _=>rfl) (λ_ _ _ _ h=>h) (λ_ hh=>hh.mono hT) Vw
 ·replace ho:own' nm=some _:=ho
  cases hx:S nm with
  | some y=>
   simp only[hown,hx,Aj,Own.tok.injEq]at ho;obtain⟨h1,h2,h3⟩:=ho;rw[<- h3];exact h8 nm y.1 y.2.2 (by rw[hx,<- h2])
  | none=>
   have h3:nm≠r:=by rintro rfl;rw[hr']at ho;cases ho
   simp[hown,hx,h3]at ho;simp[hθ,hx]at hnn;exact hrel.tok8 nm _ _ ho hnn
 ·obtain⟨a1,a2⟩:=hold nm g c ho hg;exact h.chg.new nm g c a1 a2
inductive OwnsFr (p:Tag->Bool) (r:Nat):List (Nat×Own)->Prop
 | nil:OwnsFr p r []
 | row {nm:Nat} {e:TypeId} {cells:List AV} {l:List (Nat×Own)} (h:AV.freeAll p cells=true) (t:OwnsFr p r l):OwnsFr p r ((nm,.row e cells)::l)
 | here {o:Own} {l:List (Nat×Own)} (t:OwnsFr p r l):OwnsFr p r ((r,o)::l)
 | arr {nm sz m:Nat} {e:TypeId} {f:Nat->List AV} {l:List (Nat×Own)} (h:∀ j,AV.freeAll p (f j)=true) (t:OwnsFr p r l):OwnsFr p r ((nm,.arr sz e m f)::l)
 | tok {nm sz m:Nat} {e:TypeId} {l:List (Nat×Own)} (t:OwnsFr p r l):OwnsFr p r ((nm,.tok sz e m)::l)
 | obj {nm:Nat} {x:AObj} {l:List (Nat×Own)} (t:OwnsFr p r l) (h:x.Al (λy=>y.free p=true):=by first|trivial|rfl):OwnsFr p r ((nm,.obj x)::l)
theorem OwnsFr.get{p:Tag->Bool}{r q:Nat}(hp:∀ x:AV,x.free p=true->Fr q x){l:List (Nat×Own)}(h:OwnsFr p r l){nm:Nat}{o:Own}(hn:nm≠r)(ho:Ag l nm=some o):mp q o:=by
 induction h with
 | nil=>cases ho
 | @row k e cells l h _ ih=>
  simp only[Ag]at ho
  cases hb:Nat.beq k nm with
  | true=>rw[hb]at ho;simp only[Ae,Aj]at ho;subst ho;exact λj _=>hp _ (L5 h j)
  | false=>grind
 | @here o' l _ ih=>
  simp only[Ag]at ho
  cases hb:Nat.beq r nm with
  | true=>simp_all
  | false=>grind
 | @arr k sz m e f l h _ ih=>
  simp only[Ag]at ho
  cases hb:Nat.beq k nm with
  | true=>rw[hb]at ho;simp only[Ae,Aj]at ho;subst ho;exact λi j _ _=>hp _ (L5 (h i) j)
  | false=>grind
 | @tok k sz m e l _ ih=>
  simp only[Ag]at ho
  cases hb:Nat.beq k nm with
  | true=>rw[hb]at ho;simp only[Ae,Aj]at ho;subst ho;trivial
  | false=>grind
 | @obj k x l _ h ih=>
  simp only[Ag]at ho
  cases hb:Nat.beq k nm with
  | true=>rw[hb]at ho;simp only[Ae,Aj]at ho;subst ho;exact h.imp λy hy=>hp y hy
  | false=>grind
theorem OwnsFr.sto{p:Tag->Bool}{r q:Nat}(hp:∀ x:AV,x.free p=true->Fr q x){st:St}(h:OwnsFr p r st.own){nm:Nat}{o:Own}(hn:nm≠r)(ho:st.sto.own nm=some o):mp q o:=by
 by_cases hlt:nm<Bp
 ·exact h.get hp hn ((A8 hlt).symm.trans ho)
 ·obtain⟨sz,e,m,rfl⟩:=Xm hlt ho
  trivial
theorem j5{p:Tag->Bool}{q:Nat}(hp:∀ x:AV,x.free p=true->Fr q x){st:St}(h:st.tmps.all (λx=>x.2.free p)=true)(t:Nat):Fr q (st.sto.tmp t):=by
 show Fr q (match Ag _ t with|some x=>x|none=>.any)
 cases hx:Ag _ t with
 | none=>exact hp _ rfl
 | some x=>exact hp _ (zzL30.1 h _ (JX hx))
def mB{α:Type}(l:List (Nat×α))(k:Nat):List (Nat×α):=l.filter λp=>!Nat.beq p.1 k
theorem lU{α:Type}(l:List (Nat×α))(k n:Nat):Ag (mB l k) n=if k=n then none else Ag l n:=by
 induction l with
 | nil=>simp[mB,Ag]
 | cons p l ih=>
  obtain⟨m,x⟩:=p
  have ih':Ag (List.filter _ l) n=if k=n then none else Ag l n:=ih
  simp only[mB,List.filter_cons,Ag]
  cases hb:Nat.beq m k with
  | true=>
   have:=Cq hb;subst this;simp only[E7,IY,Hz,ih']
   by_cases h:m=n
   ·simp[h]
   ·have:Nat.beq m n=false:=by cases hb:Nat.beq m n with|false=>rfl|true=>simp_all
    simp[ this]
  | false=>
   simp only[Mr,Lz,Ag,ih']
   cases hb':Nat.beq m n with
   | true=>
    grind
   | false=>simp
theorem t7{I:Nat->Nat->Prop}{own own':Nat->Option Own}{θ θ':Nat->Option (Nat×Nat)}{w:World}{v:Value}{sz n b i p q m:Nat}{e:TypeId}{f:Nat->List AV}(hv:Rep I own θ w v (.slice sz n f (.fam b i)))(hb:Sx b i=p)(hp:own p=some (.tok sz e m))
  (hq:own' q=some (.tok sz e m)) (hθ:θ' q=θ p):Rep I own' θ' w v (.slice sz n f (.own q)):=by
 cases hv with
 | val v x h =>  cases h
 | fam _ _ _ e' m a n' cap f hi' ho' hm hv' h'=>
  rw[hb]at ho' hv';rw[hp]at ho';obtain⟨_,rfl,rfl⟩:=ho';exact .own q sz e _ _ _ _ _ hq hm (λhh=>by rw[hθ];exact hv' hh) h'
theorem eE{I:Nat->Nat->Prop}{own own':Nat->Option Own}{θ θ':Nat->Option (Nat×Nat)}{w:World}{v:Value}{sz n b i p:Nat}{f:Nat->List AV}(hv:Rep I own θ w v (.slice sz n f (.fam b i)))(hb:Sx b i=p)(ho:i<Bp->own' p=own p)(hθ:i<Bp->θ' p=θ p):Rep I own' θ' w v (.slice sz n f (.fam b i)):=by
 cases hv with
 | val v x h =>  cases h
 | fam _ _ _ e' m a n' cap f hi' ho' hm hv' h'=>
  rw[hb]at ho' hv';exact .fam b i sz e' m _ _ _ _ hi' (by grind) hm (λhh=>by grind) h'
theorem pp{I:Nat->Nat->Prop}{own own':Nat->Option Own}{θ θ':Nat->Option (Nat×Nat)}{w:World}{v:Value}{sz n b i p q m:Nat}{e:TypeId}{f:Nat->List AV}(hv:Rep I own θ w v (.slice sz n f (.own p)))(hb:Sx b i=q)(hi:i<Bp)(hp:own p=some (.tok sz e m))
  (hq:own' q=some (.tok sz e m)) (hθ:θ' q=θ p):Rep I own' θ' w v (.slice sz n f (.fam b i)):=by
 cases hv with
 | val v x h =>  cases h
 | own _ _ e' m' a n' cap f ho' hm' hv' h'=>
  rw[hp]at ho';obtain⟨_,rfl,rfl⟩:=ho';exact .fam b i sz e m _ _ _ _ hi (by rw[hb];exact hq) hm' (λhh=>by grind) h'
theorem t6{I:Nat->Nat->Prop}{own own':Nat->Option Own}{θ θ':Nat->Option (Nat×Nat)}{w:World}{v:Value}{sz n b i q:Nat}{e:TypeId}{f:Nat->List AV}(hv:Rep I own θ w v (.slice sz n f .exact))(hb:Sx b i=q)(hi:i<Bp)(hq:own' q=some (.tok sz e n))(hθ:θ' q=none) :
  Rep I own' θ' w v (.slice sz n f (.fam b i)):=by
 cases hv with
 | val v x h =>  cases h
 | exact a n' s' f h'=>exact .fam b i sz e _ _ _ _ _ hi (by rw[hb];exact hq) (zzL7 _) (λ_=>by rw[hb,hθ]) h'
section
variable {α:Type} {st:St} {r b k n sz:Nat} {e1:TypeId}
theorem g8{I:Nat->Nat->Prop}{own:Nat->Option Own}{θ:Nat->Option (Nat×Nat)}{w:World}(h:K3 I own θ w){s1:Nat}{F:Nat->List AV}(hr:own r=some (.arr s1 e1 n F)){i:Nat}(hi:i<n):i<Bp:=by
 have hm:maxLen<Bp:=by decide
 obtain⟨h1,h2⟩:=h.arr r _ _ _ _ hr
 cases hx:θ r with
 | none=>have:=h1 hx;omega
 | some y=>grind
theorem jb(enc:α->List AV)(d:α)(L:List (List α))(i:Nat)(e:TypeId)(hr:Ag st.own r=some (.arr 1 e1 n (Oq sz enc d L (Tag.fam b))))(hb:Ag st.fam b=some ⟨sz,e,Nn L⟩)(hk:Ag st.own k=none)(hn:n=L.length)(hi:i<L.length)
  (ht:st.tmps.all (λx=>x.2.free (da b))=true) (ho:OwnsFr (da b) r st.own) (hlr:Nat.blt r Bp=true:=by rfl) (hlk:Nat.blt k Bp=true:=by rfl) :
  Le Γ st ⟨st.tmps,Dz (Dz st.own r (.arr 1 e1 n (Oq sz enc d L (Hu b i k)))) k (.tok sz e (L.getD i []).length),Dz st.fam b ⟨sz,e,BD L i⟩⟩:=by
 intro I θ a w h
 have hlr:r<Bp:=by simpa [K2] using hlr
 have hlk:k<Bp:=by simpa [K2] using hlk
 have hr':st.sto.own r=some _:=(A8 hlr).trans hr;have hk':st.sto.own k=none:=(A8 hlk).trans hk;have hib:i<Bp:=g8 h.chg.rel hr' (by omega)
 have hp:st.sto.own (Sx b i)=some (.tok sz e (L.getD i []).length):=by
  show Db _ _ _=_
  rw[QF hib,hb];simp[Nn,hi]
 have hown:(⟨st.tmps,Dz (Dz st.own r (.arr 1 e1 n (Oq sz enc d L (Hu b i k)))) k (.tok sz e (L.getD i []).length),Dz st.fam b ⟨sz,e,BD L i⟩⟩:St).sto.own =
   λx=>if x=k then some (.tok sz e (L.getD i []).length) else if x=Sx b i then none else if x=r then some (.arr 1 e1 n (Oq sz enc d L (Hu b i k))) else st.sto.own x:=by
  funext x
  show Db (Dz (Dz st.own r _) k _) (Dz st.fam b _) x=if x=k then _ else if x=Sx b i then none else if x=r then _ else Db st.own st.fam x
  by_cases hx:x<Bp
  ·have h1:x≠Sx b i:=λhe=>by rw[he]at hx;exact Rl b i hx
   rw[A8 hx,A8 hx,G2,G2];simp only[Wb (a:=k),Wb (a:=r),h1,Hz]
  ·have h1:x≠k:=by rintro rfl;exact hx hlk
   have h2:x≠r:=by rintro rfl;exact hx hlr
   rw[Dt hx,Dt hx,G2,if_neg h1,if_neg h2]
   by_cases hd:b=x / Bp-1
   ·have hxe:=oD hx;rw[<- hd]at hxe
    by_cases hm:x % Bp=i
    ·rw[hm]at hxe;rw[if_pos hd,if_pos hxe,hm];simp[BD]
    ·have h3:x≠Sx b i:=λhe=>hm (by rw[he,U2 hib]);rw[if_pos hd,if_neg h3,<- hd,hb];simp[BD,hm]
   ·have h3:x≠Sx b i:=λhe=>hd (by rw[he,Xg hib]);rw[if_neg hd,if_neg h3]
 let θ' :=λx=>if x=k then θ (Sx b i) else if x=Sx b i then none else θ x
 refine⟨I,θ',?_⟩;have hrr:=SE (θ':=θ') h hp hk' hr' (by cases hx:Γ.own0 (Sx b i) with|none=>rfl|some o=>exact(Rl b i (Γ.lt0 _ (by rw[hx];simp))).elim)
  (λt=>j5 (λx hx=>oh hib hx) ht t) (λnm o hne ho'=>ho.sto (λx hx=>oh hib hx) hne ho') hown rfl (λj _=>rfl) (λj c v hj hc hv=>?_)
 ·exact hrr
 ·obtain rfl:c=0:=by omega
  show Rep I _ θ' w v (.slice sz _ _ (Hu b i k j))
  cases hji:Nat.beq j i with
  | true=>
   have:=Cq hji;subst this;rw[show Hu b j k j = .own k by simp[Hu]];exact t7 hv rfl hp ((congrFun hown k).trans (if_pos rfl)) (if_pos rfl)
  | false=>
   have hne:j≠i:=by rintro rfl;simp at hji
   rw[show Hu b i k j = .fam b j by simp[Hu,hji]];have h3:j<Bp->Sx b j≠Sx b i:=λhi' he=>hne (by rw[<- U2 (b:=b) hi',he,U2 hib])
   have h4:Sx b j≠k:=λhe=>by rw[<- he]at hlk;exact Rl b j hlk
   have h5:Sx b j≠r:=λhe=>by rw[<- he]at hlr;exact Rl b j hlr
   exact eE hv rfl (λhi'=>(congrFun hown _).trans ((if_neg h4).trans ((if_neg (h3 hi')).trans (if_neg h5)))) (λhi'=>(if_neg h4).trans (if_neg (h3 hi')))
theorem o9(enc:α->List AV)(d:α)(L:List (List α))(i:Nat)(x:List α)(e:TypeId){F:Nat->List AV}{m:Nat}(hr:Ag st.own r=some (.arr 1 e1 n F))(hF:∀ j,j<n->F j=Oq sz enc d (L.set i x) (Hu b i k) j)(hb:Ag st.fam b=some ⟨sz,e,BD L i⟩)(hk:Ag st.own k=some (.tok sz e m))(hm:m=x.length)(hn:n=L.length)(hi:i<L.length)
  (ht:st.tmps.all (λx=>x.2.free (jf k))=true) (ho:OwnsFr (jf k) r st.own) (h0:Γ.own0 k=none) (hlr:Nat.blt r Bp=true:=by rfl) (hlk:Nat.blt k Bp=true:=by rfl) :
  Le Γ st ⟨st.tmps,mB (Dz st.own r (.arr 1 e1 n (Oq sz enc d (L.set i x) (Tag.fam b)))) k,Dz st.fam b ⟨sz,e,Nn (L.set i x)⟩⟩:=by
 intro I θ a w h
 have hlr:r<Bp:=by simpa [K2] using hlr
 have hlk:k<Bp:=by simpa [K2] using hlk
 have hr':st.sto.own r=some (.arr 1 e1 n F):=(A8 hlr).trans hr;have hk':st.sto.own k=some (.tok sz e m):=(A8 hlk).trans hk;have hib:i<Bp:=g8 h.chg.rel hr' (by omega)
 have hp:st.sto.own (Sx b i)=none:=by
  show Db _ _ _=_
  rw[QF hib,hb];simp[BD]
 have hgi:(L.set i x).getD i []=x:=by simp[List.getD,hi]
 have hgj:∀ j,j≠i->(L.set i x).getD j []=L.getD j []:=λj hj=>by simp[List.getD,Ol hj]
 have hown:(⟨st.tmps,mB (Dz st.own r (.arr 1 e1 n (Oq sz enc d (L.set i x) (Tag.fam b)))) k,Dz st.fam b ⟨sz,e,Nn (L.set i x)⟩⟩:St).sto.own =
   λy=>if y=Sx b i then some (.tok sz e m) else if y=k then none else if y=r then some (.arr 1 e1 n (Oq sz enc d (L.set i x) (Tag.fam b))) else st.sto.own y:=by
  funext y
  show Db (mB (Dz st.own r _) k) (Dz st.fam b _) y=if y=Sx b i then _ else if y=k then none else if y=r then _ else Db st.own st.fam y
  by_cases hx:y<Bp
  ·have h1:y≠Sx b i:=λhe=>by rw[he]at hx;exact Rl b i hx
   rw[A8 hx,A8 hx,lU,G2];simp only[Wb (a:=k),Wb (a:=r),h1,Hz]
  ·have h1:y≠k:=by rintro rfl;exact hx hlk
   have h2:y≠r:=by rintro rfl;exact hx hlr
   rw[Dt hx,Dt hx,G2,if_neg h1,if_neg h2]
   by_cases hd:b=y / Bp-1
   ·have hxe:=oD hx;rw[<- hd]at hxe
    by_cases hm':y % Bp=i
    ·rw[hm']at hxe;rw[if_pos hd,if_pos hxe,hm',Ai];simp only[Nn,G9,hi,Lz,hgi,hm,LL]
    ·have h3:y≠Sx b i:=λhe=>hm' (by rw[he,U2 hib]);rw[if_pos hd,if_neg h3,<- hd,hb];simp only[Ai,BD,hm',Hz,Nn,G9,hgj _ hm']
   ·have h3:y≠Sx b i:=λhe=>hd (by rw[he,Xg hib]);rw[if_neg hd,if_neg h3]
 let θ':Nat->Option (Nat×Nat):=λy=>if y=Sx b i then θ k else if y=k then none else θ y
 refine⟨I,θ',?_⟩;have hrr:=SE (θ':=θ') h hk' hp hr' h0 (λt=>j5 (λx hx=>oi hlk hx) ht t) (λnm o hne ho'=>ho.sto (λx hx=>oi hlk hx) hne ho') hown rfl
  (λj hj=>by rw[hF j hj];rfl) (λj c v hj hc hv=>?_)
 ·exact hrr
 ·obtain rfl:c=0:=by omega
  rw[hF j hj]at hv;replace hv:Rep I st.sto.own θ w v (.slice sz ((L.set i x).getD j []).length _ (Hu b i k j)):=hv
  cases hji:Nat.beq j i with
  | true=>
   have:=Cq hji;subst this;rw[show Hu b j k j = .own k by simp[Hu]]at hv;exact pp hv rfl hib hk' ((congrFun hown _).trans (if_pos rfl)) (if_pos rfl)
  | false=>
   have hne:j≠i:=by rintro rfl;simp at hji
   rw[show Hu b i k j = .fam b j by simp[Hu,hji]]at hv;have h3:j<Bp->Sx b j≠Sx b i:=λhi' he=>hne (by rw[<- U2 (b:=b) hi',he,U2 hib])
   have h4:Sx b j≠k:=λhe=>by rw[<- he]at hlk;exact Rl b j hlk
   have h5:Sx b j≠r:=λhe=>by rw[<- he]at hlr;exact Rl b j hlr
   exact eE hv rfl (λhi'=>(congrFun hown _).trans ((if_neg (h3 hi')).trans ((if_neg h4).trans (if_neg h5)))) (λhi'=>(if_neg (h3 hi')).trans (if_neg h4))
theorem dI(enc:α->List AV)(d:α)(L:List (List α))(e:TypeId)(hr:Ag st.own r=some (.arr 1 e1 n (Oq sz enc d L (λ_=>.exact))))(hb:Ag st.fam b=none)(hn:n=L.length)(h8:e=ES->∀ j,(L.getD j []).length=0)(hlr:Nat.blt r Bp=true:=by rfl) :
  Le Γ st ⟨st.tmps,Dz st.own r (.arr 1 e1 n (Oq sz enc d L (Tag.fam b))),Dz st.fam b ⟨sz,e,Nn L⟩⟩:=by
 intro I θ a w h
 have hlr:r<Bp:=by simpa [K2] using hlr
 have hr':st.sto.own r=some _:=(A8 hlr).trans hr
 let S :=λx=>if x<Bp then none else if b=x / Bp-1 then(Nn L (x % Bp)).map λm=>(sz,e,m) else none
 have hown:(⟨st.tmps,Dz st.own r (.arr 1 e1 n (Oq sz enc d L (Tag.fam b))),Dz st.fam b ⟨sz,e,Nn L⟩⟩:St).sto.own =
   λx=>match S x with|some y=>some (.tok y.1 y.2.1 y.2.2)|none=>if x=r then some (.arr 1 e1 n (Oq sz enc d L (Tag.fam b))) else st.sto.own x:=by
  funext x
  show Db (Dz st.own r _) (Dz st.fam b _) x=match S x with|some y=>_|none=>if x=r then _ else Db st.own st.fam x
  by_cases hx:x<Bp
  ·have:S x=none:=by simp[S,hx]
   rw[A8 hx,A8 hx,G2,this];simp only[Wb (a:=r)]
  ·have h2:x≠r:=by rintro rfl;exact hx hlr
   rw[Dt hx,Dt hx,G2]
   by_cases hd:b=x / Bp-1
   ·have:S x=(Nn L (x % Bp)).map λm=>(sz,e,m):=by simp only[S,hx,Hz,if_pos hd]
    rw[if_pos hd,this,if_neg h2,<- hd,hb];simp only[Ai]
    cases Nn L (x % Bp)<;>rfl
   ·grind
 have hS:∀ x y,S x=some y->st.sto.own x=none:=λx y hx=>by
  by_cases h1:x<Bp
  ·simp[S,h1]at hx
  ·by_cases hd:b=x / Bp-1
   ·show Db _ _ x=none
    rw[Dt h1,<- hd,hb];rfl
   ·grind
 refine⟨I,_,gu h hr' hS (λx s m hx=>?_) hown rfl (λj _=>rfl) (λj c v hj hc hv=>?_)⟩
 ·by_cases h1:x<Bp
  ·simp[S,h1]at hx
  ·by_cases hd:b=x / Bp-1
   ·simp only[S,h1,Hz,if_pos hd]at hx;obtain⟨m',hm',he⟩:=zzL89.1 hx;unfold Nn at hm'
    split at hm'
    ·grind
    ·cases hm'
   ·grind
 ·obtain rfl:c=0:=by omega
  have hjb:j<Bp:=g8 h.chg.rel hr' hj
  have hSj:S (Sx b j)=some (sz,e,(L.getD j []).length):=by
   simp only[S,Rl b j,Hz,Xg hjb,Lz,U2 hjb,Nn];rw[if_pos (by omega)];rfl
  exact t6 hv rfl hjb ((congrFun hown _).trans (by rw[hSj])) (by rw[hSj])
end
end
theorem WL{α:Type}{sz b i k:Nat}{e:α->List AV}{d:α}{l:List α}:AVle (AV.list sz e d l (Hu b i k i)) (AV.list sz e d l (.own k)):=by
 have:Hu b i k i = .own k:=by simp[Hu]
 rw[this];exact AVle.refl _
theorem dz{α:Type}{sz b i k k0:Nat}{e:α->List AV}{d:α}{L:List (List α)}{x:List α}{n:Nat}{keep:Nat->Bool}(hi:i<L.length)(hk:keep k=true)(hb:keep b=true) :
  ∀ j,j<n->AV.eraseAll keep (Eb (Oq sz e d L (Hu b i k0)) i 0 [AV.list sz e d x (.own k)] j)=Oq sz e d (L.set i x) (Hu b i k) j:=λj _=>by
 unfold Eb
 cases hji:Nat.beq j i with
 | true=>
  have:=Cq hji;subst this;simp[Oq,AV.eraseAll,AV.erase,AV.list,Hu,hk, hi]
 | false=>
  have hne:i≠j:=by rintro rfl;simp at hji
  simp[Oq,AV.eraseAll,AV.erase,AV.list,Hu,hji,hb, hne]
theorem cy{α:Type}{sz n:Nat}{e:α->List AV}{d:α}{keep:Nat->Bool}:∀ k,k<n->AVleL (AV.eraseAll keep [.slice 0 0 (λ_=>[]) .exact]) (Oq sz e d (List.replicate n []) (λ_=>.exact) k):=λk hk=>by
 have:(List.replicate n ([]:List α)).getD k []=[]:=by simp[ hk]
 unfold Oq;rw[this];exact .cons Cs .nil
theorem f4{n sz:Nat}{f:Nat->List AV}(hf:∀ i,i<n->(f i).length=sz):∀ k,k<n->((Hi n f).drop (k*sz)).take sz=f k:=λk hk=>by
 have hl:=Ig hf;have h1:(k+1)*sz<=n*sz:=Em _ hk;rw[E8]at h1
 apply EZ
 ·grind
 ·intro j h2 h3
  have hj:j<sz:=by grind
  have:=JT hf k j hk hj;rw[EU,Tf _,EU,Tf h3]at this
  simpa using this
mutual
def AV.freeN(r:Nat):AV->Bool
 | .vsl nm _=>!Nat.beq nm r
 | .vpt nm _ _ _=>!Nat.beq nm r
 | .vsub nm _ _ _=>!Nat.beq nm r
 | .clo _ xs ys=>AV.freeNAll r xs&&AV.freeNAll r ys
 | .agg cs=>AV.freeNAll r cs
 | .rpo cs=>AV.freeNAll r cs
 | .tuple cs=>AV.freeNAll r cs
 | .cond _ x=>x.freeN r
 | _=>true
def AV.freeNAll(r:Nat):List AV->Bool
 | []=>true
 | x::l=>x.freeN r&&AV.freeNAll r l
end
theorem Jd{r:Nat}{l:List AV}(h:AV.freeNAll r l=true)(j:Nat):(l.getD j .any).freeN r=true:=by
 induction l generalizing j with
 | nil=>simp[AV.freeN]
 | cons x l ih=>
  simp only[AV.freeNAll,Be]at h
  cases j with
  | zero=>simpa using h.1
  | succ j=>simpa using ih h.2 j
theorem mD{I:Nat->Nat->Prop}{own own':Nat->Option Own}{θ:Nat->Option (Nat×Nat)}{w:World}{v:Value}{x:AV}{r:Nat}(h:Rep I own θ w v x)(hx:x.freeN r=true)(hr:∃ sz e m f,own r=some (.arr sz e m f))
  (ho:∀ nm,nm≠r->own' nm=own nm):Rep I own' θ w v x:=by
 have hne:∀{nm o},own nm=some o->(∀ sz e m f,o≠.arr sz e m f)->own' nm=some o:=λ{nm o} hn hh=>by
  grind
 have hbq:∀{nm:Nat},(!Nat.beq nm r)=true->nm≠r:=λh e=>by subst e;simp at h
 induction h with
 | val v x h=>exact .val v x h
 | exact a n sz f h=>exact .exact a n sz f h
 | own nm sz e m a n cap f hn hm hv h=>exact .own nm sz e m a n cap f (hne hn (λ_ _ _ _ h=>by cases h)) hm hv h
 | fam b i sz e m a n cap f hi hn hm hv h=>exact .fam b i sz e m a n cap f hi (hne hn (λ_ _ _ _ h=>by cases h)) hm hv h
 | ptr nm off e cells g c hn hg=>exact .ptr nm off e _ g c (hne hn (λ_ _ _ _ h=>by cases h)) hg
 | vsl nm sz e m f a n cap hn hm hcap hmax hnn hv=>exact .vsl nm sz e m f a n cap ((ho nm (hbq hx)).trans hn) hm hcap hmax hnn hv
 | vpt nm sz e m f n i j ad hn hm hi hv=>exact .vpt nm sz e m f n i j ad ((ho nm (hbq hx)).trans hn) hm hi hv
 | clo f fs cs xs ys hl hl' _ _ ih ih'=>
  simp only[AV.freeN,Be]at hx;exact .clo f fs cs xs ys hl hl' (λj hj=>ih j hj (Jd hx.1 j)) (λj hj=>ih' j hj (Jd hx.2 j))
 | optr nm mm x g c hn hg=>exact .optr nm mm x g c (hne hn (λ_ _ _ _ h=>by cases h)) hg
 | omap nm x hn=>exact .omap nm x (hne hn (λ_ _ _ _ h=>by cases h))
 | vsub nm sz e m f n lo hi a cap hn hm hlo hhi hcap hmax hnn hv=>exact .vsub nm sz e m f n lo hi a cap ((ho nm (hbq hx)).trans hn) hm hlo hhi hcap hmax hnn hv
 | cond v c x _ h' ih=>exact .cond v c x (λhc=>ih hc hx) h'
 | agg vs cs hl h1 _ ih=>exact .agg vs cs hl h1 (λj hj=>ih j hj (Jd hx j))
 | rpo a cells us hs hI' hc h1 _ ih=>exact .rpo a _ us hs hI' hc h1 (λj hj=>ih j hj (Jd hx j))
 | tuple vs cs hl _ ih=>exact .tuple vs cs hl (λj hj=>ih j hj (Jd hx j))
inductive OwnsFrN (r:Nat):List (Nat×Own)->Prop
 | nil:OwnsFrN r []
 | row {nm:Nat} {e:TypeId} {cells:List AV} {l:List (Nat×Own)} (h:AV.freeNAll r cells=true) (t:OwnsFrN r l):OwnsFrN r ((nm,.row e cells)::l)
 | arr {nm sz m:Nat} {e:TypeId} {f:Nat->List AV} {l:List (Nat×Own)} (h:∀ j,AV.freeNAll r (f j)=true) (t:OwnsFrN r l):OwnsFrN r ((nm,.arr sz e m f)::l)
 | tok {nm sz m:Nat} {e:TypeId} {l:List (Nat×Own)} (t:OwnsFrN r l):OwnsFrN r ((nm,.tok sz e m)::l)
 | obj {nm:Nat} {x:AObj} {l:List (Nat×Own)} (t:OwnsFrN r l) (h:x.Al (λy=>y.freeN r=true):=by first|trivial|rfl):OwnsFrN r ((nm,.obj x)::l)
def xY(r:Nat):Own->Prop
 | .row _ cells=>AV.freeNAll r cells=true
 | .arr _ _ _ f=>∀ j,AV.freeNAll r (f j)=true
 | .obj x=>x.Al (λy=>y.freeN r=true)
 | .tok ..=>True
theorem OwnsFrN.get{r:Nat}{l:List (Nat×Own)}(h:OwnsFrN r l){nm:Nat}{o:Own}(ho:Ag l nm=some o):xY r o:=by
 induction h with
 | nil=>cases ho
 | @row k e cells l h _ ih=>
  simp only[Ag]at ho
  cases hb:Nat.beq k nm with
  | true=>rw[hb]at ho;simp only[Ae,Aj]at ho;subst ho;exact h
  | false=>grind
 | @arr k sz m e f l h _ ih=>
  simp only[Ag]at ho
  cases hb:Nat.beq k nm with
  | true=>rw[hb]at ho;simp only[Ae,Aj]at ho;subst ho;exact h
  | false=>grind
 | @tok k sz m e l _ ih=>
  simp only[Ag]at ho
  cases hb:Nat.beq k nm with
  | true=>rw[hb]at ho;simp only[Ae,Aj]at ho;subst ho;trivial
  | false=>grind
 | @obj k x l _ h ih=>
  simp only[Ag]at ho
  cases hb:Nat.beq k nm with
  | true=>rw[hb]at ho;simp only[Ae,Aj]at ho;subst ho;exact h
  | false=>grind
theorem dK{Γ:Ix}{st:St}{t r s n k:Nat}{e:TypeId}{f:Nat->List AV}(hs:st.get t = .vsub r n 0 k)(hr:Ag st.own r=some (.arr s e n f))(hk:k<=n)
  (ht:(st.tmps.all λx=>Nat.beq x.1 t || x.2.freeN r)=true) (ho:OwnsFrN r st.own) (h0:Γ.own0 r=none) (hlt:Nat.blt r Bp=true:=by rfl) (hB:nr e=false:=by rfl) :
  Le Γ st ⟨Dz st.tmps t (.vsl r k),Dz st.own r (.arr s e k f),st.fam⟩:=by
 intro I θ a w h
 have hlt:r<Bp:=by simpa [K2] using hlt
 have hr':st.sto.own r=some (.arr s e n f):=(A8 hlt).trans hr
 have hown:(⟨Dz st.tmps t (.vsl r k),Dz st.own r (.arr s e k f),st.fam⟩:St).sto.own=A0 st.sto.own r (.arr s e k f):=by
  funext x
  show Db (Dz st.own r _) _ x=_
  rw[Kg hlt];simp only[A0]
  by_cases hx:r=x
  ·subst hx;simp
  ·simp[hx,Ol hx];rfl
 have hsame:∀ nm,nm≠r->A0 st.sto.own r (.arr s e k f) nm=st.sto.own nm:=λnm hn=>by simp[A0,hn]
 have hT:∀ v x,x.freeN r=true->Rep I st.sto.own θ w v x->Rep I (A0 st.sto.own r (.arr s e k f)) θ w v x:=λv x hx hv=>mD hv hx ⟨_,_,_,_,hr'⟩ hsame;have hrel:=h.chg.rel
 have hrows:∀ nm o,st.sto.own nm=some o->xY r o:=λnm o hn=>by
  by_cases hl:nm<Bp
  ·exact ho.get ((A8 hl).symm.trans hn)
  ·obtain⟨_,_,_,rfl⟩:=Xm hl hn;trivial
 have hget:∀ t',(⟨Dz st.tmps t (.vsl r k),Dz st.own r (.arr s e k f),st.fam⟩:St).sto.tmp t'=if t=t' then .vsl r k else st.get t':=λt'=>by
  show(match Ag (Dz st.tmps t _) t' with|some x=>x|none=>.any)=_
  rw[G2]
  by_cases hk:t=t'
  ·simp[hk]
  ·simp[hk];rfl
 refine⟨I,θ,h.size,h.defers,λt'=>?_,?_⟩
 ·rw[hown,hget]
  split
  ·rename_i htt
   subst htt;have hv:=h.slots t
   have hv':Rep I st.sto.own θ w (a.tmps.getD t undef) (.vsub r n 0 k):=by rw[<- hs];exact hv
   obtain⟨sz,e',m,f',ad,cap,he,ho',hm,_,hhi,hcap,hmax,hn,hvv⟩:=hv'.vsub_inv;rw[hr']at ho';simp only[Aj,Own.arr.injEq]at ho';obtain⟨rfl,rfl,rfl,rfl⟩:=ho';rw[he];refine .vsl r s e k f ad _ cap (by simp[A0]) (zzL7 _) hcap hmax hn (λ_=>?_);have hz:=(hvv rfl).2 rfl
   cases hθ:θ r with
   | none=>rw[hθ]at hz;have:=(hrel.arr r _ _ _ _ hr').1 hθ;simp only at hz ⊢;omega
   | some gc=>rw[hθ]at hz;exact⟨hz.1,hz.2.resolve_right (by rw[hB];decide)⟩
  ·rename_i htt
   have hx:(st.get t').freeN r=true:=by
    unfold St.get
    cases hl:Ag st.tmps t' with
    | none=>rfl
    | some x=>
     have:=zzL30.1 ht _ (JX hl);simp only[Vr]at this;rcases this with h'|h'
     ·exact(htt (Cq h').symm).elim
     ·exact h'
   exact hT _ _ hx (h.slots t')
 ·rw[hown];refine{ h.chg with le:=λnm o hno=>?_,rel:=⟨λnm e0 cells hn=>?_,λnm s' e' m' hn g c hg=>?_,λnm nm' g c c' hn hn' hg hg'=>?_,λnm s' e' m' f' hn=>?_,λnm x hn=>?_,λnm s' m' hn hnn=>?_⟩,new:=λnm g c hn hg=>?_ }
  ·obtain⟨o',ho',hl⟩:=h.chg.le nm o hno;exact⟨o',(hsame nm (by rintro rfl;rw[h0]at hno;cases hno)).trans ho',hl⟩
  ·have hne:nm≠r:=by rintro rfl;simp[A0]at hn
   rw[hsame nm hne]at hn;obtain⟨g,c,vs,r1,r2,r3,r4,r5,r6⟩:=hrel.row nm e0 cells hn;exact⟨g,c,vs,r1,r2,r3,r4,λj hj=>hT _ _ (Jd (hrows nm _ hn) j) (r5 j hj),r6⟩
  ·have hne:nm≠r:=by rintro rfl;simp[A0]at hn
   rw[hsame nm hne]at hn;exact hrel.tok nm _ _ _ hn g c hg
  ·have hx:∀ nm,A0 st.sto.own r (.arr s e k f) nm≠none->st.sto.own nm≠none:=λnm hn=>by
    by_cases hne:nm=r
    ·subst hne;rw[hr'];simp
    ·rwa[hsame nm hne]at hn
   exact hrel.inj nm nm' g c c' (hx nm hn) (hx nm' hn') hg hg'
  ·by_cases hne:nm=r
   ·subst hne;simp only[A0,Lz,Aj,Own.arr.injEq]at hn;obtain⟨rfl,rfl,rfl,rfl⟩:=hn;obtain⟨q0,q1⟩:=hrel.arr nm _ _ _ _ hr';refine⟨λhθ=>by have:=q0 hθ;omega,λg c hg=>?_⟩;obtain⟨cur,p1,p2,p3,p4,p5,p6,p7⟩:=q1 g c hg;exact⟨cur,p1,by omega,p3,p4,λi hi=>p5 i (by omega),λi j hi hj=>⟨(p6 i j (by omega) hj).1,hT _ _ (Jd (hrows nm _ hr' i) j) (p6 i j (by omega) hj).2⟩,p7⟩
   ·rw[hsame nm hne]at hn;exact AR (hrel.arr nm _ _ _ _ hn) rfl (λ_ _=>rfl) (λi j v _ _ hv=>hT _ _ (Jd (hrows nm _ hn i) j) hv)
  ·have hne:nm≠r:=by rintro rfl;simp[A0]at hn
   rw[hsame nm hne]at hn;exact L9 (hrel.obj nm _ hn) rfl (λ_ _ _=>rfl) (λ_ _ _ _ h=>h) (λ_ hh=>hh.al (P:=λy=>y.freeN r=true) (hrows nm _ hn) (λ_ _ h=>h) (λ_ _ _=>rfl) λv y hy hv=>hT v y hy hv) Vw
  ·have hne:nm≠r:=by rintro rfl;simp[A0]at hn
   rw[hsame nm hne]at hn;exact hrel.tok8 nm _ _ hn hnn
  ·have hx:st.sto.own nm≠none:=by
    by_cases hne:nm=r
    ·subst hne;rw[hr'];simp
    ·rwa[hsame nm hne]at hn
   exact h.chg.new nm g c hx hg
theorem j4{α:Type}{e:α->List AV}{d:α}{l:List α}{k:Nat}:∀ i,i<0+k->AVleL (e (l.getD i d)) (e ((l.take k).getD i d)):=λi hi=>by
 have:(l.take k).getD i d=l.getD i d:=by grind
 rw[this];exact .refl _
theorem eQ{α:Type}{l:List α}{k:Nat}(h:0+k<=l.length):0+k=(l.take k).length:=by simp;omega
theorem wl{f g:Nat->List AV}:∀ k,k<0->f k=g k:=λ_ h=>by omega
theorem tt{n:Nat}{f g:Nat->List AV}(h:∀ k,k<n->f k=g k)(h':f n=g n):∀ k,k<n+1->f k=g k:=λk hk=>by
 grind
theorem WK{α:Type}{keep:Nat->Bool}{e:α->List AV}{d:α}{z:List AV}{N sz:Nat}(hz:z.length=sz)(h:z=e d)(hk:AV.eraseAll keep z=z):∀ k,k<N->AVleL (AV.eraseAll keep ((((List.replicate N z).flatten).drop (k*sz)).take sz)) (e ((List.replicate N d).getD k d)):=λk hk'=>by
 have:(List.replicate N d).getD k d=d:=by simp[ hk']
 rw[dA z sz hz N k hk',this,hk,h];exact .refl _
theorem lS{f:Nat->List AV}{i:Nat}{x:AV}:AVle ((Eb f i 0 [x] i).getD 0 .any) x:=by
 rw[T4]
 simpa using AVle.refl x
theorem Mu{keep:Nat->Bool}{f:Nat->List AV}{i k R m:Nat}(hf:∀ j,AV.eraseAll keep (f j)=f j)(hk:keep R=true):∀ j,j<k->AVleL (AV.eraseAll keep (Eb f i 0 [.vsl R m] j)) (Eb f i 0 [.vsl R m] j):=λj _=>by
 have h:AV.eraseAll keep (Eb f i 0 [.vsl R m] j)=Eb f i 0 [.vsl R m] j:=by
  by_cases hj:j=i
  ·subst hj;rw[T4,Mg,Mg, EG,hf];simp[AV.eraseAll,AV.erase,hk]
  ·rw[Wy f _ hj,hf]
 rw[h];exact .refl _
theorem pB{α:Type}{enc:α->List AV}{d x:α}{l:List α}{i nm sz n:Nat}{g:Nat->List AV}(hf:∀ a,AV.frwAll nm sz n g (enc a)=enc a)(h1:∀ a,(enc a).length=1)(hx:enc x=[.slice sz n g .none]) :
  ∀ j,j<l.length->AVleL (AV.frwAll nm sz n g (Eb (λk=>enc (l.getD k d)) i 0 [.vsl nm n] j)) (enc ((l.set i x).getD j d)):=λj hl=>by
 have h:AV.frwAll nm sz n g (Eb (λk=>enc (l.getD k d)) i 0 [.vsl nm n] j)=enc ((l.set i x).getD j d):=by
  by_cases hj:j=i
  ·subst hj
   have e1:(l.set j x).getD j d=x:=by simp[ hl]
   have e2:(enc (l.getD j d)).drop (0+[AV.vsl nm n].length)=[]:=List.drop_eq_nil_of_le (by grind)
   have e3:Zn nm nm=false:=by simp[Zn]
   rw[T4,e1,e2,hx];simp[AV.frwAll,AV.frw,e3]
  ·have e1:(l.set i x).getD j d=l.getD j d:=by grind
   rw[Wy _ _ hj,e1,hf]
 rw[h];exact .refl _
section
variable {α:Type} {g:Bool} {a b:List α}
theorem jG:(bif g then a.length else b.length)=(bif g then a else b).length:=by cases g<;>rfl
theorem sW{e:α->List AV}{d:α}{k:Nat}:(bif g then e (a.getD k d) else e (b.getD k d))=e ((bif g then a else b).getD k d):=by cases g<;>rfl
theorem sX(h:g=true->b.length=a.length):b.length=(bif g then a else b).length:=by
 grind
end
abbrev mapE{V:Type}(f:V->AV)(l:List (Int×V)):List (Int×AV):=l.map λp=>(p.1,f p.2)
section
variable {V:Type} {f:V->AV} {l:List (Int×V)} {r:List (Int×AV)} {k:Int}
theorem XJ(k:Int):∀ l:List (Int×V),C2 (mapE f l) k=C2 l k
 | []=>rfl
 | (a,b)::l=>by
  simp only[ Cy,C2];rw[<- XJ k l]
theorem XL(k:Int)(v:V):∀ l:List (Int×V),Hr (mapE f l) k (f v)=mapE f (Hr l k v)
 | []=>rfl
 | (a,b)::l=>by
  simp only[ Cy,Hr]
  cases k==a with
  | true=>rfl
  | false=>
   simp only[An];exact Ci _ (XL k v l)
theorem OZ{z:V}{zz:AV}(hz:AVle zz (f z))(hr:r=mapE f l):AVle (mget zz r k) (f (mget z l k)):=by
 subst hr
 induction l with
 | nil=>exact hz
 | cons p l ih=>
  obtain⟨a,b⟩:=p;simp only[ Cy,mget]
  cases k==a with
  | true=>exact AVle.refl _
  | false=>exact ih
theorem HS{z:V}{zz:AV}(hz:AVle zz (f z))(hr:r=mapE f l):AVle (.tuple [mget zz r k,.bool (C2 r k)]) (.tuple [f (mget z l k),.bool (C2 l k)]):=by
 have h:=OZ (k:=k) hz hr;subst hr;rw[XJ];exact AVle.tuple (.cons h (.cons (AVle.refl _) .nil))
theorem tX(hr:r=mapE f l):AVle (.int .i64 (r.length:Int)) (.int .i64 (l.length:Int)):=by
 subst hr;rw[ Ze];exact AVle.refl _
theorem HT{v:V}{x:AV}(hx:x=f v)(hr:r=mapE f l):Hr r k x=mapE f (Hr l k v):=by
 subst hr hx;exact XL k v l
theorem oB{g:Bool}{a b:List (Int×V)}{ra rb:List (Int×AV)}(ha:ra=mapE f a)(hb:rb=mapE f b):(bif g then ra else rb)=mapE f (bif g then a else b):=by
 grind
end
theorem aw{Γ:Ix}{st:St}{nm:Nat}{x:AObj}(y:AObj)(hn:Ag st.own nm=some (.obj x))(hxy:∀ I own θ w,Yx I own θ w nm x->Yx I own θ w nm y)(hlt:Nat.blt nm Bp=true:=by rfl) :
  Le Γ st ⟨st.tmps,Dz st.own nm (.obj y),st.fam⟩:=by
 intro I θ a w h
 have hlt:nm<Bp:=by simp_all
 have hn:st.sto.own nm=some _:=(A8 hlt).trans hn
 have hown:(⟨st.tmps,Dz st.own nm (.obj y),st.fam⟩:St).sto.own=A0 st.sto.own nm (.obj y):=by
  funext k
  show Db _ _ k=_
  rw[Kg hlt];simp only[A0]
  by_cases hk:nm=k
  ·subst hk;simp
  ·simp[hk,Ol hk];rfl
 have hle:∀ k o,st.sto.own k=some o->∃ o',A0 st.sto.own nm (.obj y) k=some o'/\OwnLe o (θ k) o' (θ k):=λk o ho=>by
  by_cases hk:k=nm
  ·subst hk;rw[hn]at ho;obtain rfl:=OI ho;exact⟨.obj y,by simp[A0],rfl⟩
  ·exact⟨o,by simp[A0,hk,ho],OwnLe.refl _ _⟩
 have hrel:=h.chg.rel;have hmono:∀ v z,Rep I _ θ w v z->Rep I _ θ w v z:=λv z hz=>hz.mono (λ_ _ h=>h) (λ_ _ _=>rfl) hle
 have k:Chg st.sto.own θ I w (A0 st.sto.own nm (.obj y)) θ I w:=by
  refine{ imm:=λ_ _ h=>h,cell:=λ_ _ _=>rfl,le:=hle,rel:=?_,valid:=h.chg.valid,os:=rfl,tape:=rfl,output:=rfl,drawn:=λ_=>zzL7 _,grow:=zzL7 _,frame:=λ_ _ _=>rfl,new:=λk g c ho hg=>?_,immNew:=λb o h=>.inl h }
  ·refine Md hrel (·=nm) hmono (λk hne=>⟨by simp[A0,hne],rfl⟩) (λk g c hne ho hg=>⟨rfl,λj h=>h⟩) ?_ ?_ ?_ (λ_ _ h h'=>h.trans h'.symm) (hobj:=?_)
   ·rintro k e' cells rfl ho;simp[A0]at ho
   ·rintro k sz e' m rfl ho;simp[A0]at ho
   ·rintro k k' g c c' rfl hne _ ho' hg hg';exact hne (hrel.inj k' k _ _ _ ho' (by simp[hn]) hg' hg)
   ·rintro k z rfl ho;simp only[A0,Lz,Aj,Own.obj.injEq]at ho;subst ho;exact L9 (hxy _ _ _ _ (hrel.obj k x hn)) rfl (λ_ _ _=>rfl) (λ_ _ _ _ h=>h) (λ_ hh=>hh.mono hmono) Vw
  ·by_cases hk:k=nm
   ·grind
   ·exact .inr ⟨k,c,by simpa [A0,hk] using ho,hg⟩
 exact⟨I,θ,h.size,h.defers,λt'=>by rw[hown];exact(h.slots t').chg k,by rw[hown];exact h.chg.trans k⟩
theorem db{I:Nat->Nat->Prop}{own:Nat->Option Own}{θ:Nat->Option (Nat×Nat)}{w:World}{nm:Nat}{nn:Bool}{k:IntKind}{l:List (Int×AV)}(h:Yx I own θ w nm (.map nn k l)):Yx I own θ w nm (.map false k l):=by
 rcases h with⟨g,c,o,h1,h2,h3,h4⟩|⟨h1,h2⟩
 ·refine .inl ⟨g,c,o,h1,h2,?_,h4⟩
  cases h3 with
  | map es nn k l hs hr=>exact .map es _ k l hs hr
 ·cases nn<;>cases l<;>first|exact .inr ⟨h1,trivial⟩|cases h2
def XU{V:Type}(a b:List (Int×V)):Prop:=a.Perm b/\(b.map (·.1)).Nodup
theorem gY{V:Type}{I:Nat->Nat->Prop}{own:Nat->Option Own}{θ:Nat->Option (Nat×Nat)}{w:World}{nm:Nat}{nn:Bool}{k:IntKind}{f:V->AV}{a b:List (Int×V)}(hp:XU a b)(h:Yx I own θ w nm (.map nn k (mapE f a))):Yx I own θ w nm (.pmap nn k (mapE f b)):=by
 have hp1:(mapE f a).Perm (mapE f b):=hp.1.map _
 have hp2:((mapE f b).map (·.1)).Nodup:=by
  have:(mapE f b).map (·.1)=b.map (·.1):=by simp[mapE]
  rw[this];exact hp.2
 rcases h with⟨g,c,o,h1,h2,h3,h4⟩|⟨h1,h2⟩
 ·refine .inl ⟨g,c,o,h1,h2,?_,h4⟩
  cases h3 with
  | map es nn k l hs hr=>exact .pmap es nn k _ _ hp1 hp2 hs hr
 ·generalize mapE f a=la at *
  generalize mapE f b=lb at *
  cases nn with
  | true=>cases h2
  | false=>
   cases la with
   | nil=>obtain rfl:=hp1.nil_eq;exact .inr ⟨h1,trivial⟩
   | cons=>cases h2
theorem lk{I:Nat->Nat->Prop}{own:Nat->Option Own}{θ:Nat->Option (Nat×Nat)}{w:World}{nm:Nat}{nn:Bool}{k:IntKind}{l:List (Int×AV)}(h:Yx I own θ w nm (.pmap nn k l)):Yx I own θ w nm (.pmap false k l):=by
 rcases h with⟨g,c,o,h1,h2,h3,h4⟩|⟨h1,h2⟩
 ·refine .inl ⟨g,c,o,h1,h2,?_,h4⟩
  cases h3 with
  | pmap es nn k l0 l hp hk hs hr=>exact .pmap es _ k l0 l hp hk hs hr
 ·cases nn<;>cases l<;>first|exact .inr ⟨h1,trivial⟩|cases h2
theorem s7{Γ:Ix}{st:St}{t nm:Nat}(k:IntKind)(hs:st.get t = .nilm)(hn:Ag st.own nm=none)(hlt:Nat.blt nm Bp=true:=by rfl) :
  Le Γ st ⟨Dz st.tmps t (.omap nm),Dz st.own nm (.obj (.map false k [])),st.fam⟩:=by
 intro I θ a w h
 have hlt:nm<Bp:=by simp_all
 have hn:st.sto.own nm=none:=(A8 hlt).trans hn
 have hown:(⟨Dz st.tmps t (.omap nm),Dz st.own nm (.obj (.map false k [])),st.fam⟩:St).sto.own=A0 st.sto.own nm (.obj (.map false k [])):=by
  funext k
  show Db _ _ k=_
  rw[Kg hlt];simp only[A0]
  by_cases hk:nm=k
  ·subst hk;simp
  ·simp[hk,Ol hk];rfl
 have hle:∀ j o,st.sto.own j=some o->∃ o',A0 st.sto.own nm (.obj (.map false k [])) j=some o'/\OwnLe o (θ j) o' (thUp θ nm none j):=λj o ho=>by
  have hne:j≠nm:=by grind
  exact⟨o,by simp[A0,hne,ho],by simp[thUp,hne,OwnLe.refl]⟩
 have hrel:=h.chg.rel;have hmono:∀ v z,Rep I st.sto.own θ w v z->Rep I _ _ w v z:=λv z hz=>hz.mono (λ_ _ h=>h) (λ_ _ _=>rfl) hle
 have kk:Chg st.sto.own θ I w (A0 st.sto.own nm (.obj (.map false k []))) (thUp θ nm none) I w:=by
  refine{ imm:=λ_ _ h=>h,cell:=λ_ _ _=>rfl,le:=hle,rel:=?_,valid:=h.chg.valid,os:=rfl,tape:=rfl,output:=rfl,drawn:=λ_=>zzL7 _,grow:=zzL7 _,frame:=λ_ _ _=>rfl,new:=λj g c ho hg=>?_,immNew:=λb o h=>.inl h }
  ·refine Md hrel (·=nm) hmono (λj hne=>⟨by simp[A0,hne],by simp[thUp,hne]⟩) (λj g c hne ho hg=>⟨rfl,λj h=>h⟩) ?_ ?_ ?_ (λ_ _ h h'=>h.trans h'.symm) (hobj:=?_)
   ·rintro j e' cells rfl ho;simp[A0]at ho
   ·rintro j sz e' m rfl ho;simp[A0]at ho
   ·rintro j k' g c c' rfl hne _ ho' hg hg';simp[thUp]at hg
   ·rintro j z rfl ho;simp only[A0,Lz,Aj,Own.obj.injEq]at ho;subst ho;exact .inr ⟨by simp[thUp],trivial⟩
  ·by_cases hk:j=nm
   ·subst hk;simp[thUp]at hg
   ·exact .inr ⟨j,c,by simpa [A0,hk] using ho,by simpa [thUp,hk] using hg⟩
 refine⟨I,thUp θ nm none,h.size,h.defers,λt'=>?_,?_⟩
 ·rw[hown]
  have hget:(⟨Dz st.tmps t (.omap nm),Dz st.own nm (.obj (.map false k [])),st.fam⟩:St).sto.tmp t'=if t=t' then .omap nm else st.get t':=by
   show(match Ag (Dz st.tmps t _) t' with|some x=>x|none=>.any)=_
   rw[G2]
   by_cases hk:t=t'
   ·simp[hk]
   ·simp[hk];rfl
  rw[hget]
  split
  ·rename_i htt
   subst htt;have hr:=h.slots t
   have hr':Rep I st.sto.own θ w (a.tmps.getD t undef) .nilm:=by rw[<- hs];exact hr
   rw[hr'.nilm_inv];have:=Rep.omap (I:=I) (own:=A0 st.sto.own nm (.obj (.map false k []))) (θ:=thUp θ nm none) (w:=w) nm (.map false k []) (by simp[A0])
   simpa [thUp] using this
  ·exact(h.slots t').chg kk
 ·rw[hown];exact h.chg.trans kk
theorem Xs{Γ:Ix}{st:St}{r j nm:Nat}{e0:TypeId}{cells:List AV}(km:IntKind)(hr:Ag st.own r=some (.row e0 cells))(hs:cells.getD j .any = .nilm)(hj:j<cells.length)(hn:Ag st.own nm=none)(hlt:Nat.blt nm Bp=true:=by rfl)(hltr:Nat.blt r Bp=true:=by rfl) :
  Le Γ st ⟨st.tmps,Dz (Dz st.own r (.row e0 (cells.set j (.omap nm)))) nm (.obj (.map false km [])),st.fam⟩:=by
 intro I θ a w h
 have hlt:nm<Bp:=by simpa [K2] using hlt
 have hltr:r<Bp:=by simpa [K2] using hltr
 have hn:st.sto.own nm=none:=(A8 hlt).trans hn;have hr:st.sto.own r=some (.row e0 cells):=(A8 hltr).trans hr
 have hne:r≠nm:=by rintro rfl;rw[hr]at hn;cases hn
 let own':Nat->Option Own:=λk=>if k=nm then some (.obj (.map false km [])) else if k=r then some (.row e0 (cells.set j (.omap nm))) else st.sto.own k
 have hown:(⟨st.tmps,Dz (Dz st.own r (.row e0 (cells.set j (.omap nm)))) nm (.obj (.map false km [])),st.fam⟩:St).sto.own=own':=by
  funext k
  show Db (Dz (Dz st.own r _) nm _) _ k=_
  rw[Kg hlt,Kg hltr];simp only[own',Wb (a:=nm),Wb (a:=r)]
  rfl
 have hle:∀ nm' o,st.sto.own nm'=some o->∃ o',own' nm'=some o'/\OwnLe o (θ nm') o' (thUp θ nm none nm'):=λnm' o ho=>by
  have h1:nm'≠nm:=by rintro rfl;have:st.sto.own nm'=some o:=ho;rw[hn]at this;cases this
  by_cases h2:nm'=r
  ·subst h2;have:st.sto.own nm'=some o:=ho;rw[hr]at this;obtain rfl:=OI this;exact⟨.row e0 (cells.set j (.omap nm)),by simp[own',h1],by simp[thUp,h1,OwnLe]⟩
  ·exact⟨o,by simp[own',h1,h2,ho],by simp[thUp,h1,OwnLe.refl]⟩
 have hmono:∀ v x,Rep I st.sto.own θ w v x->Rep I own' (thUp θ nm none) w v x:=λv x h=>h.mono (λ_ _ h=>h) (λ_ _ _=>rfl) hle;have hrel:=h.chg.rel
 have k:Chg st.sto.own θ I w own' (thUp θ nm none) I w:=by
  refine{ imm:=λ_ _ h=>h,cell:=λ_ _ _=>rfl,le:=hle,rel:=?_,valid:=h.chg.valid,os:=rfl,tape:=rfl,output:=rfl,drawn:=λ_=>zzL7 _,grow:=zzL7 _,frame:=λ_ _ _=>rfl,new:=λnm' g' c ho hg=>?_,immNew:=λ_ _ h=>.inl h }
  ·refine⟨λnm' e2 cells' ho=>?_,λnm' s' e' m ho g' c hg=>?_,λn1 n2 g' c c' ho ho' hg hg'=>?_,λnm' s' e' m f' ho=>?_,λnm' x' ho=>?_,λnm' s' m ho hnn=>?_⟩
   ·by_cases h1:nm'=nm
    ·simp[own',h1]at ho
    ·by_cases h2:nm'=r
     ·subst h2;simp only[own',h1,Hz,Lz,Aj,Own.row.injEq]at ho;obtain⟨rfl,rfl⟩:=ho;obtain⟨g',c,vs,r1,r2,r3,r4,r5,r6⟩:=hrel.row nm' _ cells hr;refine⟨g',c,vs,by simpa [thUp,h1] using r1,r2,by simpa using r3,λj' hj'=>r4 j' (by simpa using hj'),λj' hj'=>?_,r6⟩
      have hj'':j'<cells.length:=by simpa using hj'
      by_cases hjj:j'=j
      ·subst hjj
       have e1:(cells.set j' (.omap nm)).getD j' .any = .omap nm:=by simp[List.getD,hj]
       rw[e1];have hr':=r5 j' hj'';rw[hs]at hr';rw[hr'.nilm_inv];have:=Rep.omap (I:=I) (own:=own') (θ:=thUp θ nm none) (w:=w) nm (.map false km []) (by simp[own'])
       simpa [thUp] using this
      ·have e1:(cells.set j (.omap nm)).getD j' .any=cells.getD j' .any:=by simp[List.getD,Ol hjj]
       rw[e1];exact hmono _ _ (r5 j' hj'')
     ·simp only[own',h1,h2,Hz]at ho;obtain⟨g',c,vs,r1,r2,r3,r4,r5,r6⟩:=hrel.row nm' _ cells' ho;exact⟨g',c,vs,by simpa [thUp,h1] using r1,r2,r3,r4,λj' hj'=>hmono _ _ (r5 j' hj'),r6⟩
   ·by_cases h1:nm'=nm
    ·simp[thUp,h1]at hg
    ·have h2:nm'≠r:=by rintro rfl;simp[own',h1]at ho
     simp only[own',h1,h2,Hz]at ho;simp only[thUp,h1,Hz]at hg;exact hrel.tok nm' _ _ _ ho g' c hg
   ·have hx:∀ n1 g' c,own' n1≠none->thUp θ nm none n1=some (g',c)->st.sto.own n1≠none/\θ n1=some (g',c):=λn1 g' c ho hg=>by
     by_cases h1:n1=nm
     ·simp[thUp,h1]at hg
     ·simp only[thUp,h1,Hz]at hg;refine⟨?_,hg⟩
      by_cases h2:n1=r
      ·subst h2;have:st.sto.own n1=some (.row e0 cells):=hr;simp[this]
      ·simpa [own',h1,h2] using ho
    obtain⟨a1,a2⟩:=hx n1 g' c ho hg;obtain⟨b1,b2⟩:=hx n2 g' c' ho' hg';exact hrel.inj n1 n2 g' c c' a1 b1 a2 b2
   ·by_cases h1:nm'=nm
    ·simp[own',h1]at ho
    ·have h2:nm'≠r:=by rintro rfl;simp[own',h1]at ho
     simp only[own',h1,h2,Hz]at ho;exact P8 (hrel.arr nm' _ _ _ _ ho) (by simp[thUp,h1]) (λ_ _ _=>rfl) (λ_ _ _ _ h=>h) (λ_ _=>rfl) (λv i j _ _ hv=>hmono _ _ hv)
   ·by_cases h1:nm'=nm
    ·simp only[own',h1,Lz,Aj,Own.obj.injEq]at ho;subst ho;subst h1;exact .inr ⟨by simp[thUp],trivial⟩
    ·have h2:nm'≠r:=by rintro rfl;simp[own',h1]at ho
     simp only[own',h1,h2,Hz]at ho;exact L9 (hrel.obj nm' _ ho) (by simp[thUp,h1]) (λ_ _ _=>rfl) (λ_ _ _ _ h=>h) (λ_ hh=>hh.mono hmono) Vw
   ·by_cases h1:nm'=nm
    ·simp[own',h1]at ho
    ·have h2:nm'≠r:=by rintro rfl;simp[own',h1]at ho
     simp only[own',h1,h2,Hz]at ho;simp only[thUp,h1,Hz]at hnn;exact hrel.tok8 nm' _ _ ho hnn
  ·by_cases h1:nm'=nm
   ·simp[thUp,h1]at hg
   ·simp only[thUp,h1,Hz]at hg;refine .inr ⟨nm',c,?_,hg⟩
    by_cases h2:nm'=r
    ·subst h2;have:st.sto.own nm'=some (.row e0 cells):=hr;simp[this]
    ·simpa [own',h1,h2] using ho
 refine⟨I,thUp θ nm none,h.size,h.defers,λt'=>?_,?_⟩
 ·rw[hown];exact(h.slots t').chg k
 ·rw[hown];exact h.chg.trans k
section
variable {P:Program} {Γ:Ix} {σ:Sto} {I:Nat->Nat->Prop} {θ:Nat->Option (Nat×Nat)} {a:Act} {w:World} {o:Oper}
theorem eI{g bm since:Nat}{seen:Array Nat}{es:Array MapEntry}(hg:w.heap[g]?=some (.mapIter (some bm) since seen since))(hb:w.heap[bm]?=some (.map es since))(hold:∀ x∈es.toList,x.born<since)(ty:TypeId) :
  ((∀ e∈es.toList,e.born∈seen.toList)/\(Instr.next (.pointer (some ⟨g,0,none⟩)) false ty).run P w = .ok (.tuple #[.bool false]) w) \/
  ∃ e∈es.toList,e.born∉seen.toList/\((Instr.next (.pointer (some ⟨g,0,none⟩)) false ty).run P w = .ok (.tuple #[.bool true,e.key,e.val]) (Uw w g (.mapIter (some bm) since (seen.push e.born) since)) \/
   (Instr.next (.pointer (some ⟨g,0,none⟩)) false ty).run P w = .ok (.tuple #[.bool true,e.key,e.val]) (Uw w.drew g (.mapIter (some bm) since (seen.push e.born) since))):=by
 simp only[Instr.next,getObj,Ed,Sem.run,hg,hb,Result.andThen,next_test_false seen es since since hold (zzL7 _),IY,Hz]
 have hmem:∀ x∈(Array.filter (λe=>!seen.contains e.born) es).toList,x∈es.toList/\x.born∉seen.toList:=λx hx=>by
  simp only[Array.toList_filter,zzL90,Su,Array.contains_eq_mem,TG]at hx;exact⟨hx.1,by simpa using hx.2⟩
 have hall:(Array.filter (λe=>!seen.contains e.born) es).size=0->∀ e∈es.toList,e.born∈seen.toList:=λh0 e he=>by
  by_cases hc:e.born∈seen.toList
  ·exact hc
  ·have:e∈(Array.filter (λe=>!seen.contains e.born) es).toList:=by
    simp only[Array.toList_filter,zzL90,Su,Array.contains_eq_mem,TG];exact⟨he,by simpa using hc⟩
   have h1:0<(Array.filter (λe=>!seen.contains e.born) es).toList.length:=List.length_pos_of_mem this;rw[LG]at h1;omega
 generalize Array.filter (λe=>!seen.contains e.born) es=L at hmem hall ⊢
 have e1:L.filter (λx=>decide (x.born<since))=L:=Array.filter_eq_self.2 (λx hx=>by simpa using hold x (hmem x (by simpa using hx)).1)
 have e2:L.filter (λx=>decide (x.born>=since)) = #[]:=by
  rw[Array.filter_eq_empty_iff];intro x hx;have:=hold x (hmem x (by simpa using hx)).1
  simp
  omega
 simp only[e1,e2,Array.append_empty]
 by_cases h0:L.size=0
 ·left
  have:L = #[]:=Array.eq_empty_of_size_eq_zero h0;subst this;refine⟨hall rfl,?_⟩;simp[choose,Sem.run,Question.forced]
 ·right
  have hne:L.isEmpty=false:=by simp[Array.isEmpty,h0]
  simp only[hne,IY,Hz,Array.empty_append,Array.size_map];have hgl:g<w.heap.size:=(Array.getElem?_eq_some_iff.1 hg).1
  have hch:∃(j:Nat) (w1:World),j<L.size/\(w1=w\/w1=w.drew)/\(choose (Question.mapNext L.size)).run P w = .ok j w1:=by
   by_cases hf:L.size<=1
   ·exact⟨0,w,by omega,.inl rfl,by simp[choose,Sem.run,Question.forced,hf]⟩
   ·exact⟨_,w.drew,Nat.mod_lt _ (by omega),.inr rfl,by
     simp only[choose,Sem.run,Question.forced,En,hf,Hz,Question.cut]
     rfl⟩
  obtain⟨j,w1,hj,hw,hrun⟩:=hch
  have hLj:L[j]∈L.toList:=by simp
  refine⟨L[j],(hmem _ hLj).1,(hmem _ hLj).2,?_⟩
  have hset:∀ o',(setObj g o').run P w1 = .ok () (Uw w1 g o'):=λo'=>by
   have hh:w1.heap[g]?=some (.mapIter (some bm) since seen since):=by rcases hw with rfl|rfl<;>exact hg
   simp[setObj,Sem.run,hh,Uw]
  simp only[hrun,Array.getElem?_map,Array.getElem?_eq_getElem hj,LL,Ed,hset,Result.andThen];rcases hw with rfl|rfl
  ·exact .inl rfl
  ·exact .inr rfl
theorem pX(h:Rel Γ σ I θ a w)(hd:∀ d,o.dst=some d->d<Γ.n){x:Operand}(ho:o.op = .next x false){nm mm n:Nat}{s:List Nat}{nn:Bool}{k:IntKind}{l:List (Int×AV)}(hx:Rep I σ.own θ w (a.eval x) (.optr nm mm))
  (hit:σ.own nm=some (.obj (.miter (.omap mm) n s))) (hown:σ.own mm=some (.obj (.map nn k l))) (hn:n=l.length) (K:Act->World->Prop) (Q:Exit->Act->World->Prop)
  (hdone:(∀ i,i<n->i∈s)->∀ I' θ' a' w',Rel Γ (σ.upd o.dst (.tuple [.bool false]) []) I' θ' a' w'->K a' w')
  (hmore:∀ i,i<n->i∉s->∀ I' θ' a' w',Rel Γ (σ.upd o.dst (.tuple [.bool true,.int k (l.getD i (0,.any)).1,(l.getD i (0,.any)).2]) [(nm,.obj (.miter (.omap mm) n (i::s)))]) I' θ' a' w'->K a' w'):o.wp P a w K Q:=by
 obtain⟨_,g,c,ho',hg,hv⟩:=hx.optr_inv
 obtain⟨ob,h2,h3⟩:∃ ob,w.heap[g]?=some ob/\ObjR I σ.own θ w ob (.miter (.omap mm) n s):=by
  rcases h.chg.rel.obj nm _ hit with⟨g',c',ob,h1,h2,h3,h4⟩|⟨h1,_⟩
  ·rw[hg]at h1;simp only[Aj,Ms]at h1;obtain⟨rfl,rfl⟩:=h1;exact⟨ob,h2,h3⟩
  ·rw[hg]at h1;cases h1
 obtain⟨r,cc,seen,rfl,hseen,rfl,hr⟩:=XK h3;obtain⟨_,_,hxm⟩:=hr.omap_inv;simp only[Value.map.injEq]at hxm
 have hfalse:∀(hrun:(execOp a.eval o).run P w = .ok (.value (.tuple #[.bool false])) w),(∀ i,i<cc->i∈s)->o.wp P a w K Q:=λhrun hall=>
  Ax (x:=.tuple [.bool false]) h hd hrun (.tuple _ _ rfl (λj hj=>by
   obtain rfl:j=0:=by simp at hj;omega
   exact .val _ _ (.bool _))) K Q (hdone hall)
 rcases map_at h hown with⟨gm,c',es',h4,h5,h6⟩|⟨h4,_,h7⟩
 ·rw[h4]at hxm;obtain rfl:r=some gm:=hxm;obtain⟨hlen,hent⟩:=DH l es'.toList 0 h6
  have hmem:∀ e∈es'.toList,∃ i,i<l.length/\es'.toList[i]?=some e/\e.born=i/\e.key = .int k (l.getD i (0,.any)).1/\ZM I w e.val (l.getD i (0,.any)).2:=λe he=>by
   obtain⟨i,hi,rfl⟩:=List.mem_iff_getElem.1 he;obtain⟨v,e1,e2⟩:=hent i (by omega);rw[Tf hi]at e1;have e3:=OI e1;exact⟨i,by omega,Tf hi,by rw[e3];simp,by rw[e3],by rw[e3];exact e2⟩
  rw[<- hn]at h5;have hnx:=eI (P:=P) h2 h5 (λe he=>by obtain⟨i,hi,_,hb,_⟩:=hmem e he;omega) (ty:=0);have hty:∀ ty,Instr.next (.pointer (some ⟨g,0,none⟩)) false ty=Instr.next (.pointer (some ⟨g,0,none⟩)) false 0:=λ_=>rfl;rcases hnx with⟨hall,hrun⟩|⟨e,he,hns,hrun⟩
  ·refine hfalse ?_ (λi hi=>?_)
   ·simp only[execOp,ho,hv,hty];simp[hrun]
   ·obtain⟨v,e1,e2⟩:=hent i (by omega);have:=hall _ (List.mem_of_getElem? e1);rw[<- hseen,zzL125]
    simpa using this
  ·obtain⟨i,hi,_,hb,hkey,hval⟩:=hmem e he
   have his:i∉s:=by rw[<- hseen,zzL125,<- hb];exact hns
   have hrev:(seen.push e.born).toList.reverse=i::s:=by rw[Array.toList_push,List.reverse_append,hseen,hb];rfl
   have step:∀ w1:World,Rel Γ σ I θ a w1->w1.heap=w.heap->(execOp a.eval o).run P w = .ok (.value (.tuple #[.bool true,e.key,e.val])) (Uw w1 g (.mapIter (some gm) cc (seen.push e.born) cc))->o.wp P a w K Q:=λw1 hr1 hh hrun=>by
    have hcell:∀ b j,I b j->w1.cell? ⟨b,j,none⟩=w.cell? ⟨b,j,none⟩:=λb j _=>by simp only[World.cell?,hh]
    have hr':Rep I σ.own θ w1 (.map (some gm)) (.omap mm):=hr.mono (λ_ _ h=>h) hcell (λ_ o ho=>⟨o,ho,.refl _ _⟩)
    have hc:ObjR I σ.own θ w1 (.mapIter (some gm) cc (seen.push e.born) cc) (.miter (.omap mm) cc (i::s)):=by
     have:=ObjR.miter (I:=I) (own:=σ.own) (θ:=θ) (w:=w1) (some gm) (.omap mm) cc cc (seen.push e.born) rfl hr';rwa[hrev]at this
    have kc:=T9 hr1.chg.rel hr1.chg.valid hit hg hc;have hval':RepV I (Uw w1 g (.mapIter (some gm) cc (seen.push e.born) cc)) e.val (l.getD i (0,.any)).2:=hval.1.mono (λ_ _ h=>h) (λb j hj=>by rw[kc.cell b j hj,hcell b j hj])
    have k2:Chg σ.own θ I w1 (σ.upd o.dst (.tuple [.bool true,.int k (l.getD i (0,.any)).1,(l.getD i (0,.any)).2]) [(nm,.obj (.miter (.omap mm) cc (i::s)))]).own θ I (Uw w1 g (.mapIter (some gm) cc (seen.push e.born) cc)):=by rw[Cd];exact kc
    have hput:=DN (v:=.tuple #[.bool true,e.key,e.val]) (x:=.tuple [.bool true,.int k (l.getD i (0,.any)).1,(l.getD i (0,.any)).2]) hr1 k2 (.tuple _ _ rfl (λj hj=>by
     have hj:j=0\/j=1\/j=2:=by simp at hj;omega
     rcases hj with rfl|rfl|rfl
     ·exact .val _ _ (.bool _)
     ·rw[show(#[Value.bool true,e.key,e.val].getD 1 Go.undef)=e.key from rfl,hkey];exact .val _ _ (.int _ _)
     ·exact .val _ _ hval')) hd
    unfold Oper.wp;rw[hrun];exact hmore i (by omega) his _ _ _ _ hput
   rcases hrun with hrun|hrun
   ·refine step w h rfl ?_;simp only[execOp,ho,hv,hty];simp[hrun]
   ·refine step w.drew (d8 h) rfl ?_;simp only[execOp,ho,hv,hty];simp[hrun]
 ·rw[h4]at hxm;obtain rfl:r=none:=hxm;subst h7;refine hfalse ?_ (λi hi=>by simp at hn;omega);simp only[execOp,ho,hv];simp[Instr.next,getObj,Sem.run,h2]
theorem k6{id:Nat}{o1 o2:Oper}{K:Exit->St->Prop}{st:St}{n:Nat}{H:List (Nat×Own)}{x t b nm mm len:Nat}{s:List Nat}{nn:Bool}{k:IntKind}{l:List (Int×AV)}(q:RgQ P Γ n H)(live names:List Nat)
  (h1:o1.op = .next (.tmp x) false) (d1:o1.dst=some t) (g1:o1.guard=none) (h2:o2.op = .extract (.tmp t) 0) (d2:o2.dst=some b) (g2:o2.guard=none) (hb:(Nat.blt t n&&(Nat.blt b n&&(Nat.blt nm Bp&&Nat.blt mm Bp)))=true)
  (hx:st.get x = .optr nm mm) (hit:Ag st.own nm=some (.obj (.miter (.omap mm) len s))) (hm:Ag st.own mm=some (.obj (.map nn k l))) (hlen:len=l.length) (hh:(H.all λx=>Bj x.1 names)=true)
  (hdone:(∀ i,i<len->i∈s)->K .normal (Bd live names ((st.upd (some t) (.tuple [.bool false]) []).upd (some b) (.bool false) [])))
  (hmore:∀ i,i<len->i∉s->K .normal (Bd live names ((st.upd (some t) (.tuple [.bool true,.int k (l.getD i (0,.any)).1,(l.getD i (0,.any)).2]) [(nm,.obj (.miter (.omap mm) len (i::s)))]).upd (some b) (.bool true) []))):Zl P Γ (.region id #[o1,o2] false) K st:=by
 simp only[Be,K2]at hb;obtain⟨b1,b2,b3,b4⟩:=hb;intro I θ a w hrel;refine wp_region ?_;have hget:∀ t,Rep I st.sto.own θ w (a.tmps.getD t undef) (st.get t):=hrel.slots
 have w1:∀ tm,Region.wanted o1 tm=true:=λtm=>by simp[Region.wanted,g1]
 have w2:∀ tm,Region.wanted o2 tm=true:=λtm=>by simp[Region.wanted,g2]
 have hl:(List.range (#[o1,o2]:Array Oper).size)=[0,1]:=rfl;have hsec:∀(st2:St) (vb:Bool) (r:List AV) (I':Nat->Nat->Prop) (θ':Nat->Option (Nat×Nat)) (a':Act) (w':World),st2.get t = .tuple (.bool vb::r)->Rel Γ st2.sto I' θ' a' w'->K .normal (Bd live names (st2.upd (some b) (.bool vb) []))->
   wpOps P #[o1,o2] (λe a' w'=>∃ st' I' θ',K e st'/\Rel Γ st'.sto I' θ' a' w') [1] a' w':=λst2 vb r I' θ' a' w' hgt hr hK=>by
  rw[wpOps_cons]
  show wpOp P #[o1,o2] _ 1 _ a' w'
  unfold wpOp;simp only[show(#[o1,o2]:Array Oper)[1]?=some o2 from rfl,w2,Lz];refine .inl ?_;have ht:=hr.slots t;rw[show st2.sto.tmp t=st2.get t from rfl,hgt]at ht;obtain⟨vs,hv,hsz,hvr⟩:=ht.tuple_inv;have h0:=hvr 0 (by simp);have h0':vs.getD 0 Go.undef = .bool vb:=Rep.bool_inv h0
  have hpos:0<vs.size:=by rw[hsz];simp
  refine Ax hr (λd hd=>?_) (v:=.bool vb) (x:=.bool vb) ?_ (.val _ _ (.bool _)) _ _ (λI2 θ2 a2 w2 h2=>?_)
  ·rw[d2]at hd;obtain rfl:=OI hd;rw[q.hn];exact b2
  ·simp only[execOp,h2,Act.eval];rw[hv]
   have:vs[0]?=some (.bool vb):=by
    rw[Ss,Array.getElem?_eq_getElem hpos,GJ]at h0';rw[Array.getElem?_eq_getElem hpos,h0']
   simp[Instr.extract,this]
  ·refine⟨_,I2,θ2,hK,Yk ?_ (q.hand hh)⟩;rw[PF (ns:=[]) st2 (some b) (.bool vb) [] rfl];rw[d2]at h2;exact h2
 rw[hl,wpOps_cons];unfold wpOp;simp only[show(#[o1,o2]:Array Oper)[0]?=some o1 from rfl,w1,Lz];refine .inl ?_;have hxr:=hget x;rw[hx]at hxr;refine pX hrel (λd hd=>?_) h1 (nm:=nm) (mm:=mm) (n:=len) (s:=s) (nn:=nn) (k:=k) (l:=l) hxr ((A8 b3).trans hit) ((A8 b4).trans hm) hlen _ _ (λhall I' θ' a' w' hr=>?_) (λi hi hni I' θ' a' w' hr=>?_)
 ·rw[d1]at hd;obtain rfl:=OI hd;rw[q.hn];exact b1
 ·rw[d1,<- PF (ns:=[]) st (some t) (.tuple [.bool false]) [] rfl]at hr;refine hsec _ false [] I' θ' a' w' ?_ hr (hdone hall);simp[St.get,St.upd,G2]
 ·rw[d1,<- PF (ns:=[nm]) st (some t) _ [(nm,.obj (.miter (.omap mm) len (i::s)))] (by simp[Xz,b3])]at hr;refine hsec _ true [.int k (l.getD i (0,.any)).1,(l.getD i (0,.any)).2] I' θ' a' w' ?_ hr (hmore i hi hni);simp[St.get,St.upd,G2]
end
def BV{S X:Type}(f:Nat->S->Option (LR S X))(g:S->Option (LR S X)):List Nat->S->Option X
 | [],s=>match g s with|some (.done x)=>some x|_=>none
 | i::l,s=>match f i s with|some (.next s')=>BV f g l s'|some (.done x)=>some x|none=>none
open Classical in
open Classical in
def FY{S X:Type}(eqv:X->X->Prop)(n:Nat)(f:Nat->S->Option (LR S X))(g:S->Option (LR S X))(s:S):Option X:=
 if h:∃ x,∀ τ:List Nat,τ.Perm (List.range n)->∃ x',BV f g τ s=some x'/\eqv x' x then some (Classical.choose h) else none
theorem MZ{S X:Type}{eqv:X->X->Prop}{n:Nat}{f:Nat->S->Option (LR S X)}{g:S->Option (LR S X)}{s:S}{x:X}(h:FY eqv n f g s=some x):∀ τ:List Nat,τ.Perm (List.range n)->∃ x',BV f g τ s=some x'/\eqv x' x:=by
 unfold FY at h
 split at h
 ·rename_i h0
  obtain rfl:=OI h;exact Classical.choose_spec h0
 ·cases h
theorem lv{S X:Type}{eqv:X->X->Prop}{n:Nat}{f:Nat->S->Option (LR S X)}{g:S->Option (LR S X)}{s:S}(h:∃ x,∀ τ:List Nat,τ.Perm (List.range n)->∃ x',BV f g τ s=some x'/\eqv x' x):∃ x,FY eqv n f g s=some x:=by
 unfold FY;rw[dif_pos h];exact⟨_,rfl⟩
theorem RY{α:Type}[DecidableEq α]{a b:List α}(ha:a.Nodup)(hb:b.Nodup)(h:∀ x,x∈a↔x∈b):a.Perm b:=by
 refine List.perm_iff_count.2 λx=>?_;rw[ha.count,hb.count];simp only[h x]
section
variable {P:Program} {Γ:Ix}
theorem cd{S X:Type}{body:Code}(Q:X->Prop)(n:Nat)(H:List Nat->S->St)(f:Nat->S->Option (LR S X))(g:S->Option (LR S X))(KX:X->Exit->St->Prop){K:Exit->St->Prop}
  (hb:∀(z:List Nat) (s:S),((∀ i,i<n->i∈z)->∃ y,g s=some y)->(∀ i,i<n->i∉z->∃ y,f i s=some y)->
   Zl P Γ body (λe st=>(∃ y,g s=some y/\Rw Γ (H z) KX y e st/\∀ i,i<n->i∈z)\/∃ i y,f i s=some y/\Rw Γ (H (i::z)) KX y e st/\i<n/\i∉z) (H z s))
  {s:S} (hr:∀ τ:List Nat,τ.Perm (List.range n)->∃ x,BV f g τ s=some x/\Q x) (hK:∀ x,Q x->∀ e st',KX x e st'->K e st'):Zl P Γ (.loop body) K (H [] s):=by
 intro I θ a w hrel;refine LA (λm a w=>∃ z s I θ,m=n-z.length/\z.Nodup/\(∀ i∈z,i<n)/\(∀ τ:List Nat,(z++τ).Perm (List.range n)->∃ x,BV f g τ s=some x/\Q x)/\Rel Γ (H z s).sto I θ a w) (λm a w ⟨z,s,I,θ,hm,hz,hzn,hruns,hrel⟩=>?_) (n:=n-0) ⟨[],s,I,θ,rfl,List.nodup_nil,(λi hi=>by cases hi),(λτ hτ=>hr τ hτ),hrel⟩
 have hall:(∀ i,i<n->i∈z)->(z++[]).Perm (List.range n):=λh=>by
  rw[List.append_nil]
  exact RY hz List.nodup_range λi=>by rw[zzL44];exact⟨hzn i,h i⟩
 have hone:∀ i,i<n->i∉z->∃ τ,(z++i::τ).Perm (List.range n):=λi hi hni=>by
  refine⟨(List.range n).filter λj=>decide (j∉i::z),RY ?_ List.nodup_range λj=>?_⟩
  ·refine List.nodup_append.2 ⟨hz,zzL81.2 ⟨by simp,List.nodup_range.filter _⟩,λp hp q hq hpq=>?_⟩;subst hpq;rcases zzL28.1 hq with rfl|hq
   ·exact hni hp
   ·have:=(zzL90.1 hq).2;simp at this;exact this.2 hp
  ·rw[zzL18,zzL28,zzL90,zzL44]
   constructor
   ·rintro(h|rfl|h)
    ·exact hzn j h
    ·exact hi
    ·exact h.1
   ·intro h
    by_cases h1:j∈z
    ·exact .inl h1
    ·by_cases h2:j=i
     ·exact .inr (.inl h2)
     ·exact .inr (.inr ⟨h,by simp[h1,h2]⟩)
 have hg:(∀ i,i<n->i∈z)->∃ y,g s=some y:=λh=>by
  obtain⟨x,this,_⟩:=hruns [] (hall h);unfold BV at this
  cases hgs:g s with
  | none=>rw[hgs]at this;cases this
  | some y=>exact⟨y,rfl⟩
 have hf:∀ i,i<n->i∉z->∃ y,f i s=some y:=λi hi hni=>by
  obtain⟨τ,hτ⟩:=hone i hi hni;obtain⟨x,this,_⟩:=hruns _ hτ;unfold BV at this
  cases hfs:f i s with
  | none=>rw[hfs]at this;cases this
  | some y=>exact⟨y,rfl⟩
 refine S8 (hb z s hg hf I θ a w hrel) λe a' w' ⟨st',I',θ',h1,h2⟩=>?_;rcases h1 with⟨y,hgs,hk,hal⟩|⟨i,y,hfs,hk,hi,hni⟩
 ·obtain⟨x,hx,hQ⟩:=hruns [] (hall hal);unfold BV at hx;rw[hgs]at hx
  cases y with
  | next s'=>cases hx
  | done x'=>
   obtain rfl:=OI hx;obtain⟨hne,hkx⟩:=hk
   cases e with
   | normal=>exact(hne rfl).elim
   | _=>exact⟨st',I',θ',hK _ hQ _ _ hkx,h2⟩
 ·obtain⟨τ,hτ⟩:=hone i hi hni
  have hlen:z.length<n:=by
   have:=hτ.length_eq;rw[Gk,Vq,Zd]at this;omega
  cases y with
  | next s'=>
   obtain⟨rfl,hle⟩:=hk;obtain⟨I'',θ'',h3⟩:=hle I' θ' a' w' h2;refine⟨n-(i::z).length,by simp only[Vq];omega,i::z,s',I'',θ'',rfl,zzL81.2 ⟨hni,hz⟩,?_,λρ hρ=>?_,h3⟩
   ·intro j hj;rcases zzL28.1 hj with rfl|hj
    ·exact hi
    ·exact hzn j hj
   ·obtain⟨x,this,hQ⟩:=hruns (i::ρ) (List.Perm.trans List.perm_middle hρ);unfold BV at this;rw[hfs]at this;exact⟨x,this,hQ⟩
  | done x'=>
   obtain⟨x,hx,hQ⟩:=hruns _ hτ;unfold BV at hx;rw[hfs]at hx;obtain rfl:=OI hx;obtain⟨hne,hkx⟩:=hk
   cases e with
   | normal=>exact(hne rfl).elim
   | _=>exact⟨st',I',θ',hK _ hQ _ _ hkx,h2⟩
end
theorem tM{V:Type}{f:V->AV}{l:List (Int×V)}{d:Int×V}{i:Nat}{k:IntKind}(h:i<(mapE f l).length):AVle (.tuple [.int k ((mapE f l).getD i (0,.any)).1,((mapE f l).getD i (0,.any)).2]) (.tuple [.int k (l.getD i d).1,f (l.getD i d).2]):=by
 have hl:i<l.length:=by simpa [mapE] using h
 have e:(mapE f l).getD i (0,.any)=((l.getD i d).1,f (l.getD i d).2):=by simp[mapE,List.getD,hl]
 rw[e];exact AVle.refl _
section
variable {P:Program} {Γ:Ix}
def OL(P:Program)(Γ:Ix)(body:Code)(K:Exit->St->Prop):Nat->St->Prop
 | 0,_=>False
 | n+1,st=>Zl P Γ body (λe st'=>(e = .normal/\OL P Γ body K n st')\/(e≠.normal/\K e st')) st
theorem fh{body:Code}{K:Exit->St->Prop}{st:St}(n:Nat)(h:OL P Γ body K n st):Zl P Γ (.loop body) K st:=by
 intro I θ a w hrel;refine LA (λm a w=>∃ st I θ,OL P Γ body K m st/\Rel Γ st.sto I θ a w) (λm a w ⟨st,I,θ,hu,hrel⟩=>?_) (n:=n) ⟨st,I,θ,h,hrel⟩
 cases m with
 | zero=>exact hu.elim
 | succ m=>
  refine S8 (hu I θ a w hrel) λe a' w' ⟨st',I',θ',h1,h2⟩=>?_;rcases h1 with⟨rfl,h1⟩|⟨hne,h1⟩
  ·exact⟨m,Nat.lt_succ_self m,st',I',θ',h1,h2⟩
  ·cases e with
   | normal=>exact(hne rfl).elim
   | _=>exact⟨st',I',θ',h1,h2⟩
end
inductive rD where
 | nx (y:Code)
 | bl (id:Nat)
 | ag (c:Code) (n:Nat)
inductive Pa where
 | run (c:Code) (fs:List rD)
 | out (e:Exit) (fs:List rD)
def q8(P:Program)(Γ:Ix)(K:Exit->St->Prop):List rD->Exit->St->Prop
 | []=>K
 | .nx y::fs=>vA P Γ y (q8 P Γ K fs)
 | .bl id::fs=>JM id (q8 P Γ K fs)
 | .ag c n::fs=>λe st=>(e = .normal/\OL P Γ c (q8 P Γ K fs) n st)\/(e≠.normal/\q8 P Γ K fs e st)
def GG(P:Program)(Γ:Ix)(K:Exit->St->Prop):Pa->St->Prop
 | .run c fs,st=>Zl P Γ c (q8 P Γ K fs) st
 | .out e fs,st=>q8 P Γ K fs e st
def AW:Code->Nat->Nat
 | .exit i,k=>bif Nat.beq i k then 1 else 0
 | .seq a b,k=>Nat.min 2 (AW a k+AW b k)
 | .cond _ a b,k=>Nat.min 2 (AW a k+AW b k)
 | .loop c,k=>Nat.min 1 (AW c k)
 | .scope c,k=>Nat.min 1 (AW c k)
 | .block _ c,k=>AW c k
 | _,_=>0
def Uf:Code->Nat
 | .region _ _ _=>1
 | .skip=>1
 | .label _=>1
 | .seq a b=>bif Nat.beq (Uf a) 0 then 0 else Uf b
 | .cond _ a b=>Nat.min 2 (Uf a+Uf b)
 | .block i c=>Nat.min 2 (Uf c+AW c i)
 | .scope c=>Nat.min 2 (Uf c)
 | _=>0
def oz(a:Code):Bool:=match a with | .region _ _ _=>false|a=>Nat.ble 2 (Uf a)
def RF:Nat->Code ⊕ Exit->List rD->Pa
 | 0,.inl c,fs=>.run c fs
 | 0,.inr e,fs=>.out e fs
 | n+1,.inl c,fs=>
  match c with
  | .skip=>RF n (.inr .normal) fs
  | .label _=>RF n (.inr .normal) fs
  | .seq a b=>bif oz a then .run (.seq a b) fs else RF n (.inl a) (.nx b::fs)
  | .block id a=>RF n (.inl a) (.bl id::fs)
  | .exit id=>RF n (.inr (.exit id)) fs
  | .goto l=>RF n (.inr (.goto l)) fs
  | .ret=>RF n (.inr .ret) fs
  | c=>.run c fs
 | n+1,.inr e,fs=>
  match fs with
  | []=>.out e []
  | .nx y::fs=>(match e with | .normal=>RF n (.inl y) fs|e=>RF n (.inr e) fs)
  | .bl id::fs=>(match e with | .exit i=>bif Nat.beq i id then RF n (.inr .normal) fs else RF n (.inr (.exit i)) fs|e=>RF n (.inr e) fs)
  | .ag c m::fs=>(match e with | .normal=>(match m with|0=>.out .normal (.ag c 0::fs)|m+1=>RF n (.inl c) (.ag c m::fs))|e=>RF n (.inr e) fs)
section
variable {P:Program} {Γ:Ix} {K:Exit->St->Prop}
theorem Cn:∀(n:Nat) (x:Code ⊕ Exit) (fs:List rD) (st:St),GG P Γ K (RF n x fs) st->(match x with | .inl c=>Zl P Γ c (q8 P Γ K fs) st | .inr e=>q8 P Γ K fs e st)
 | 0,.inl c,fs,st,h=>h
 | 0,.inr e,fs,st,h=>h
 | n+1,.inl c,fs,st,h=>by
  cases c with
  | skip=>exact n8 (Cn n _ fs st h)
  | label l=>exact k5 (Cn n _ fs st h)
  | seq a b=>
   cases hj:oz a with
   | true=>simp only[RF,hj]at h;exact h
   | false=>simp only[RF,hj]at h;exact ZV (Cn n (.inl a) _ st h)
  | block id a=>exact k4 (Cn n (.inl a) _ st h)
  | exit id=>exact n5 (Cn n _ fs st h)
  | goto l=>exact n6 (Cn n _ fs st h)
  | ret=>exact sV (Cn n (.inr .ret) fs st h)
  | _=>exact h
 | n+1,.inr e,[],st,h=>h
 | n+1,.inr e,.nx y::fs,st,h=>by
  cases e with
  | normal=>exact Cn n (.inl y) fs st h
  | exit i=>exact Cn n _ fs st h
  | goto l=>exact Cn n _ fs st h
  | ret=>exact Cn n (.inr .ret) fs st h
  | panic c=>exact Cn n _ fs st h
  | outgrown=>exact Cn n _ fs st h
 | n+1,.inr e,.bl id::fs,st,h=>by
  cases e with
  | normal=>exact Cn n _ fs st h
  | exit i=>
   cases hb:Nat.beq i id with
   | true=>
    obtain rfl:=Cq hb;simp only[RF,hb]at h;exact fj (Cn n _ fs st h)
   | false=>
    simp only[RF,hb]at h;exact fi hb (Cn n _ fs st h)
  | goto l=>exact Cn n _ fs st h
  | ret=>exact Cn n (.inr .ret) fs st h
  | panic c=>exact Cn n _ fs st h
  | outgrown=>exact Cn n _ fs st h
 | n+1,.inr e,.ag c m::fs,st,h=>by
  cases e with
  | normal=>
   cases m with
   | zero=>exact h
   | succ m=>exact .inl ⟨rfl,Cn n (.inl c) _ st h⟩
  | exit i=>exact .inr ⟨(by intro hh;cases hh),Cn n _ fs st h⟩
  | goto l=>exact .inr ⟨(by intro hh;cases hh),Cn n _ fs st h⟩
  | ret=>exact .inr ⟨(by intro hh;cases hh),Cn n (.inr .ret) fs st h⟩
  | panic ch=>exact .inr ⟨(by intro hh;cases hh),Cn n _ fs st h⟩
  | outgrown=>exact .inr ⟨(by intro hh;cases hh),Cn n _ fs st h⟩
theorem Lr{n:Nat}{c:Code}{fs:List rD}{st:St}(h:GG P Γ K (RF n (.inl c) fs) st):Zl P Γ c (q8 P Γ K fs) st:=Cn n _ fs st h
theorem Wp{n:Nat}{e:Exit}{fs:List rD}{st:St}(h:GG P Γ K (RF n (.inr e) fs) st):q8 P Γ K fs e st:=Cn n _ fs st h
def sy(c:Code)(fs:List rD):Pa:=RF 400 (.inl c) fs
def exC(e:Exit)(fs:List rD):Pa:=RF 400 (.inr e) fs
def tZ:Pa->Pa
 | .run _ fs=>exC .normal fs
 | x=>x
def th:Pa->Option (List Oper×Bool)
 | .run (.region _ ops draw) _=>some (ops.toList,draw)
 | _=>none
def qy(P:Program)(S:GX)(n:Nat)(cs:List (Nat×AV))(live names:List Nat)(x:Pa)(st:St)(rs:List Wf):Option (St×List Prop×Bool):=
 match th x with
 | some (ops,draw)=>OP P S n cs live names ops draw st rs
 | none=>none
def ta(P:Program)(S:GX)(n:Nat)(cs:List (Nat×AV))(live names:List Nat)(x:Pa)(st:St)(rs:List Wf):St:=
 match qy P S n cs live names x st rs with
 | some r=>r.1
 | none=>st
def q9(r:Option (St×List Prop×Bool)):Option (Prop×Bool):=
 match r with
 | some r=>some (cp r.2.1,r.2.2)
 | none=>none
theorem gR{x:Pa}{st:St}{n:Nat}{H:List (Nat×Own)}(q:RgQ P Γ n H)(live names:List Nat)(cs:List (Nat×AV))(rs:List Wf){O:Prop}(hO:O)
  (k:GG P Γ K (tZ x) (ta P (Spec P) n cs live names x st rs))
  (h:q9 (qy P (Spec P) n cs live names x st rs)=some (O,true):=by kernel_rfl) (hh:(H.all λx=>Bj x.1 names)=true:=by kernel_rfl):GG P Γ K x st:=by
 unfold qy at h;unfold ta qy at k
 cases x with
 | out e fs=>simp[th,q9]at h
 | run c fs=>
  cases c with
  | region id ops draw=>
   simp only[th]at h k
   cases hr:OP P _ n cs _ _ _ _ st rs with
   | none=>rw[hr]at h;simp[q9]at h
   | some r=>
    obtain⟨st',obs,d⟩:=r;rw[hr]at h k;obtain⟨rfl,rfl⟩:=h;have:=fg (id:=id)  q.hn q.mix (q.hand hh) hr hO (Wp k);exact(by simpa using this:Zl P Γ _ _ st)
  | _=>simp[th,q9]at h
theorem Ac{x:Pa}{st:St}{n:Nat}{H:List (Nat×Own)}(q:RgQ P Γ n H)(live names:List Nat)
  (k:GG P Γ K (tZ x) (ta P (Spec P) n [] live names x st []))
  (h:q9 (qy P (Spec P) n [] live names x st [])=some (True,true):=by kernel_rfl) (hh:(H.all λx=>Bj x.1 names)=true:=by kernel_rfl):GG P Γ K x st:=gR q _ _ [] [] trivial k h hh
def uy:Pa->Bool | .run _ _=>true|_=>false
theorem Gl{x:Pa}{st st':St}(h:Le Γ st st')
  (k:GG P Γ K x st')
  (hx:uy x=true:=by kernel_rfl):GG P Γ K x st:=by
 cases x with
 | run c fs=>exact ZU h k
 | out e fs=>cases hx
theorem P5{x:Pa}{st:St}(st':St)
  (k:GG P Γ K x st')
  (h:st=st':=by kernel_rfl):GG P Γ K x st:=h▸k
def uo(x:Pa)(st:St):AV:=match x with | .run (.cond c _ _) _=>fx st.get c|_=>.any
def brC(b:Bool):Pa->Pa
 | .run (.cond _ c d) fs=>sy (bif b then c else d) fs
 | x=>x
theorem gC{x:Pa}{st:St}{R:Type}{b:Bool}{m1 m2:Option R}{r:R}(h:(bif b then m1 else m2)=some r)
  (kt:m1=some r->GG P Γ K (brC true x) st) (kf:m2=some r->GG P Γ K (brC false x) st)
  (hv:uo x st = .bool b:=by kernel_rfl):GG P Γ K x st:=by
 cases x with
 | out e fs=>cases hv
 | run c fs=>
  cases c with
  | cond c y z=>
   refine cZ b hv (λhb=>Lr  (kt ?_)) (λhb=>Lr  (kf ?_))
   ·subst hb;exact h
   ·subst hb;exact h
  | _=>cases hv
theorem lR{x:Pa}{st:St}(b:Bool)
  (k:GG P Γ K (brC b x) st)
  (hv:uo x st = .bool b:=by kernel_rfl):GG P Γ K x st:=by
 cases x with
 | out e fs=>cases hv
 | run c fs=>
  cases c with
  | cond c y z=>
   refine cZ b hv (λhb=>Lr (n:=400) ?_) (λhb=>Lr (n:=400) ?_)
   ·subst hb;exact k
   ·subst hb;exact k
  | _=>cases hv
theorem lt1{P:Nat->Prop}(h0:P 0)(i:Nat)(h:i<1):P i:=by
 grind
theorem rk(o:Own):some o=some o:=rfl
theorem gK{x:Pa}{st:St}{e:Exit}(h:K e st)(hx:x = .out e []:=by kernel_rfl):GG P Γ K x st:=by subst hx;exact h
def aG(Γ:Ix)(e0:Exit)(og:St):Exit->St->Prop:=λe st=>e=e0/\Le Γ st og
def aR(K:Exit->St->Prop):Exit->St->Prop:=λe st=>e = .ret/\K e st
theorem Bk{e0:Exit}{og st:St}(h:Le Γ st og):aG Γ e0 og e0 st:=⟨rfl,h⟩
theorem M1{st:St}(h:K .ret st):aR K .ret st:=⟨rfl,h⟩
def isN:Exit->Bool | .normal=>true|_=>false
theorem gN{S X:Type}{x:Pa}{st:St}{H:S->St}{KX:X->Exit->St->Prop}{s':S}(h:Le Γ st (H s'))(hx:x = .out .normal []:=by kernel_rfl):GG P Γ (Rw Γ H KX (.next s')) x st:=by
 subst hx;exact⟨rfl,h⟩
theorem gO{S X:Type}{x:Pa}{st:St}{H:S->St}{KX:X->Exit->St->Prop}{y:X}{e:Exit}(h:KX y e st)(hx:x = .out e []:=by kernel_rfl)(hn:isN e=false:=by kernel_rfl):GG P Γ (Rw Γ H KX (.done y)) x st:=by
 subst hx;exact⟨(by rintro rfl;cases hn),h⟩
def fK(P:Program)(Γ:Ix)(rs:List ResultVar)(H:List (Nat×Own))(res:AV)(H':List (Nat×Own)):Exit->St->Prop:=clK Γ (zB P rs H res H')
theorem H6{rs:List ResultVar}{H H':List (Nat×Own)}{res:AV}{st st':St}{e:Exit}(ρ:List (Nat×Nat))(hl:Le Γ st st')(hr:jv P rs ρ H st'=some (res,H'):=by kernel_rfl)
  (he:(match e with | .ret=>true | .normal=>true|_=>false)=true:=by kernel_rfl):fK P Γ rs H res H' e st:=by
 refine⟨st',hl,?_,ρ,hr⟩
 cases e with
 | ret=>exact .inl rfl
 | normal=>exact .inr rfl
 | _=>cases he
theorem B2{rs:List ResultVar}{H H':List (Nat×Own)}{res:AV}{x:Pa}{st:St}(ρ:List (Nat×Nat))(hr:jv P rs ρ H st=some (res,H'):=by kernel_rfl)
  (hx:x = .out .ret []:=by kernel_rfl):GG P Γ (fK P Γ rs H res H') x st:=gK  (H6 ρ (Le.refl _ _) hr) hx
def ZW(fn:Func):Code:=match fn.body with|some c=>c|none=>.skip
theorem W5 {f : FuncId} {fn : Func} {args : List AV} {H H' : List (Nat × Own)} {res : AV} (hm : P.follows .mixedOrders = true) (hf : P.funcs[f]? = some fn)
    (k : ∀ Γ : Ix, RgQ P Γ fn.ntmps H → GG P Γ (fK P Γ fn.results.toList H res H') (sy (ZW fn) []) (JV args H))
    (hb : fn.body.isSome = true := by kernel_rfl) (hname : (fn.name == "runtime.NumGoroutine") = false := by kernel_rfl) (hlen : Nat.ble args.length fn.ntmps = true := by kernel_rfl) (hpl : RZ H = true := by kernel_rfl) : Spec P f args H res H' := by
  obtain ⟨c, hc⟩ := zzL79.1 hb
  have e : ZW fn = c := by unfold ZW; rw [hc]
  refine eM hf hc hname hlen (fun Γ hn hΓ => ?_) hpl; have := k Γ ⟨hn, hm, hΓ⟩; rw [e] at this; exact wB (Lr this)
theorem gD{st st':St}(h:st=st'):Le Γ st st':=h▸Le.refl Γ st
def ao:Pa->Bool | .run (.loop _) _=>true|_=>false
def oE:Pa->Pa
 | .run (.loop c) _=>sy c []
 | x=>x
def lp(e:Exit):Pa->Pa
 | .run _ fs=>exC e fs
 | x=>x
def yw{α:Type}(k:Nat)(x:α):List (Nat×α)->List (Nat×α)
 | []=>[(k,x)]
 | (k',y)::l=>bif Nat.beq k k' then(k,x)::l else bif Nat.blt k k' then(k,x)::(k',y)::l else(k',y)::yw k x l
def tq{α:Type}:List (Nat×α)->List (Nat×α)->List (Nat×α)
 | [],l=>l
 | (k,x)::r,l=>tq r (yw k x l)
def Do(st:St)(ts:List (Nat×AV))(os:List (Nat×Own))(fs:List (Nat×mW):=[]):St:=⟨tq ts st.tmps,tq os st.own,tq fs st.fam⟩
def N4(live names:List Nat)(st:St)(ts:List (Nat×AV))(os:List (Nat×Own))(fs:List (Nat×mW):=[]):St:=Bd live names (Do st ts os fs)
theorem gL{S X:Type}{x:Pa}{st:St}{n:Nat}{Hf:List (Nat×Own)}(q:RgQ P Γ n Hf){f:S->Option (LR S X)}{s0:S}{y:X}(hx:Ab f s0=some y)(live names:List Nat)(H:St->S->St)(KX:St->X->Exit->St->Prop)
  (kb:∀ s y,f s=some y->GG P Γ (Rw Γ (H (Bd live names st)) (KX (Bd live names st)) y) (oE x) (H (Bd live names st) s)) (ko:∀ e st',KX (Bd live names st) y e st'->GG P Γ K (lp e x) st')
  (h0:Bd live names st=H (Bd live names st) s0:=by kernel_rfl) (hl:ao x=true:=by kernel_rfl) (hh:(Hf.all λx=>Bj x.1 names)=true:=by kernel_rfl):GG P Γ K x st:=by
 cases x with
 | out e fs=>cases hl
 | run c fs=>
  cases c with
  | loop c=>
   refine ZU  ?_ (ca _ f _ (λs y hy=>Lr (kb s y hy)) hx λe st' hk=>Wp (ko e st' hk));rw[<- h0];exact Bn _ _ q rfl hh
  | _=>cases hl
theorem gL0{S X:Type}{x:Pa}{st:St}{f:S->Option (LR S X)}{s0:S}{y:X}(hx:Ab f s0=some y)(H:St->S->St)(KX:St->X->Exit->St->Prop)
  (kb:∀ s y,f s=some y->GG P Γ (Rw Γ (H st) (KX st) y) (oE x) (H st s)) (ko:∀ e st',KX st y e st'->GG P Γ K (lp e x) st')
  (h0:st=H st s0:=by kernel_rfl) (hl:ao x=true:=by kernel_rfl):GG P Γ K x st:=by
 cases x with
 | out e fs=>cases hl
 | run c fs=>
  cases c with
  | loop c=>exact ZU (gD h0) (ca _ f _ (λs y hy=>Lr (kb s y hy)) hx λe st' hk=>Wp (ko e st' hk))
  | _=>cases hl
theorem gA{x:Pa}{f:Exit->Pa->Pa}{e0:Exit}{og:St}
  (k:GG P Γ K (f e0 x) og)
  (hr:uy (f e0 x)=true:=by kernel_rfl):∀ e st',aG Γ e0 og e st'->GG P Γ K (f e x) st':=by
 rintro e st' ⟨rfl,hl⟩;exact Gl hl k hr
theorem uu{x:Pa}{f:Exit->Pa->Pa}{e0:Exit}{og:St}(k:∀ st',Le Γ st' og->GG P Γ K (f e0 x) st'):∀ e st',aG Γ e0 og e st'->GG P Γ K (f e x) st':=by
 rintro e st' ⟨rfl,hl⟩;exact k st' hl
theorem P4{x:Pa}{f:Exit->Pa->Pa}{K':Exit->St->Prop}(k:∀ st',K' .ret st'->GG P Γ K (f .ret x) st'):∀ e st',aR K' e st'->GG P Γ K (f e x) st':=by
 rintro e st' ⟨rfl,hl⟩;exact k st' hl
theorem gU{x:Pa}{st:St}(n:Nat)
  (k:GG P Γ K (match x with | .run (.loop c) fs=>sy c (.ag c n::fs)|x=>x) st)
  (hl:ao x=true:=by kernel_rfl):GG P Γ K x st:=by
 cases x with
 | out e fs=>cases hl
 | run c fs=>
  cases c with
  | loop c=>exact fh (n+1) (Lr k)
  | _=>cases hl
def yi:Pa->Bool | .run (.seq _ _) _=>true|_=>false
def yg:Pa->Pa
 | .run (.seq a _) _=>sy a []
 | x=>x
def zA(e:Exit):Pa->Pa
 | .run (.seq _ b) fs=>exC e (.nx b::fs)
 | x=>x
theorem gJ{X:Type}{x:Pa}{st:St}{m:Option X}{y:X}(hx:m=some y)(KX:X->Exit->St->Prop)
  (kb:∀ y,m=some y->GG P Γ (KX y) (yg x) st) (ko:∀ e st',KX y e st'->GG P Γ K (zA e x) st')
  (hs:yi x=true:=by kernel_rfl):GG P Γ K x st:=by
 cases x with
 | out e fs=>cases hs
 | run c fs=>
  cases c with
  | seq a b=>exact ZV (n7 KX hx (λy hy=>Lr (kb y hy)) λe st' hk=>Wp (ko e st' hk))
  | _=>cases hs
def s4:Pa->Bool | .run (.scope _) _=>true|_=>false
def zC:Pa->Code | .run (.scope c) _=>c|_=>.skip
def yj(c:Code)(l:Nat):Pa:=sy ((findLabel c l).getD .skip) []
theorem gS{S X:Type}{x:Pa}{st:St}{f0:Option (LR S X)}{f:S->Option (LR S X)}{y:X}(hx:Ym f0 f=some y)(lab:S->Nat)(H:S->St)(KX:X->Exit->St->Prop)
  (k0:∀ y,f0=some y->GG P Γ (QR Γ (zC x) lab H KX y) (sy (zC x) []) st) (kb:∀ s y,f s=some y->GG P Γ (QR Γ (zC x) lab H KX y) (yj (zC x) (lab s)) (H s)) (ko:∀ e st',KX y e st'->GG P Γ K (lp e x) st')
  (hs:s4 x=true:=by kernel_rfl):GG P Γ K x st:=by
 cases x with
 | out e fs=>cases hs
 | run c fs=>
  cases c with
  | scope c=>
   refine k7 lab H f0 f KX (λy hy=>Lr (k0 y hy)) (λs y rest hf hy=>?_) hx λe st' hk=>Wp (ko e st' hk);have:=kb s y hy;unfold yj zC at this;rw[hf]at this;exact Lr this
  | _=>cases hs
theorem ss{S X:Type}{x:Pa}{st:St}{c:Code}{lab:S->Nat}{H:S->St}{KX:X->Exit->St->Prop}{s':S}(h:Le Γ st (H s'))(hx:x = .out (.goto (lab s')) []:=by kernel_rfl)(hf:(findLabel c (lab s')).isSome=true:=by kernel_rfl) :
  GG P Γ (QR Γ c lab H KX (.next s')) x st:=by
 subst hx;exact⟨rfl,hf,h⟩
theorem uv{S X:Type}{x:Pa}{st:St}{c:Code}{lab:S->Nat}{H:S->St}{KX:X->Exit->St->Prop}{y:X}{e:Exit}(h:KX y e st)(hx:x = .out e []:=by kernel_rfl)
  (hf:(match e with | .goto l=>(findLabel c l).isNone|_=>true)=true:=by kernel_rfl):GG P Γ (QR Γ c lab H KX (.done y)) x st:=by
 subst hx;refine⟨?_,h⟩;rintro l rfl
 simpa using hf
theorem Vz{α:Type}{st:St}(U:α->St->St){a b:α}(h:a=b)(h1:st=U a st:=by kernel_rfl):Le Γ st (U b st):=by subst h;exact gD h1
theorem leB{st:St}(F F':Bool->St->St)(g:Bool)(h1:st=F g st:=by kernel_rfl)(ht:F true st=F' true st:=by kernel_rfl)(hf:F false st=F' false st:=by kernel_rfl):Le Γ st (F' g st):=by
 refine gD (h1.trans ?_)
 cases g<;>assumption
def Own.withF(g:Nat->List AV):Own->Own
 | .arr sz e n _=>.arr sz e n g
 | o=>o
def um(st:St)(nm:Nat):Option (Nat×(Nat->List AV)):=match Ag st.own nm with|some (.arr _ _ n f)=>some (n,f)|_=>none
def zE(nm:Nat)(g:Nat->List AV)(st:St):St:=⟨st.tmps,(match Ag st.own nm with|some o=>Dz st.own nm (o.withF g)|none=>st.own),st.fam⟩
theorem RV{nm sz n:Nat}{e:TypeId}{f g:Nat->List AV}(hp:∀ k,k<n->AVleL (f k) (g k)):∀{l:List (Nat×Own)},Ag l nm=some (.arr sz e n f)->OwnsLe l (Dz l nm (.arr sz e n g))
 | [],h=>by cases h
 | (k,o)::l,h=>by
  simp only[Ag]at h;simp only[Dz]
  cases hb:Nat.beq k nm with
  | true=>
   obtain rfl:=Cq hb;rw[hb]at h;simp only[Ae,Aj]at h;subst h;exact .arr hp (.refl _)
  | false=>
   rw[hb]at h;exact .same (RV hp h)
theorem Hy{st:St}(nm:Nat){n:Nat}{f g:Nat->List AV}(hp:∀ k,k<n->AVleL (f k) (g k))(h:um st nm=some (n,f):=by kernel_rfl):Le Γ st (zE nm g st):=by
 unfold um at h;unfold zE
 cases ho:Ag _ nm with
 | none=>rw[ho]at h;cases h
 | some o=>
  rw[ho]at h
  cases o with
  | arr sz e n' f'=>
   obtain⟨rfl,rfl⟩:=h;exact Fg (TmpsLe.refl _) (RV hp ho)
  | _=>cases h
def oR(st:St)(nm j:Nat):Option AV:=match Ag st.own nm with|some (.row _ cells)=>cells[j]? | _=>none
def Own.withC(j:Nat)(x:AV):Own->Own
 | .row e cells=>.row e (cells.set j x)
 | o=>o
def zD(nm j:Nat)(x:AV)(st:St):St:=⟨st.tmps,(match Ag st.own nm with|some o=>Dz st.own nm (o.withC j x)|none=>st.own),st.fam⟩
theorem ja{a b:AV}(h:AVle a b):∀{l:List AV} {j:Nat},l[j]?=some a->AVleL l (l.set j b)
 | [],j,h=>by simp at h
 | x::l,0,h'=>by
  simp only[List.getElem?_cons_zero,Aj]at h';subst h';exact .cons h (.refl _)
 | x::l,j+1,h'=>by
  exact .cons (.refl _) (ja h h')
theorem RW{nm:Nat}{e:TypeId}{x y:List AV}(hp:AVleL x y):∀{l:List (Nat×Own)},Ag l nm=some (.row e x)->OwnsLe l (Dz l nm (.row e y))
 | [],h=>by cases h
 | (k,o)::l,h=>by
  simp only[Ag]at h;simp only[Dz]
  cases hb:Nat.beq k nm with
  | true=>
   obtain rfl:=Cq hb;rw[hb]at h;simp only[Ae,Aj]at h;subst h;exact .row hp (.refl _)
  | false=>
   rw[hb]at h;exact .same (RW hp h)
theorem s6{st:St}(nm j:Nat){a b:AV}(hp:AVle a b)(h:oR st nm j=some a:=by kernel_rfl):Le Γ st (zD nm j b st):=by
 unfold oR at h;unfold zD
 cases ho:Ag _ nm with
 | none=>rw[ho]at h;cases h
 | some o=>
  rw[ho]at h
  cases o with
  | row e cells=>exact Fg (TmpsLe.refl _) (RW (ja hp h) ho)
  | _=>cases h
theorem ls{V:Type}:XU ([]:List (Int×V)) []:=⟨.nil,List.nodup_nil⟩
def u7(nm:Nat)(x:AObj)(st:St):St:=⟨st.tmps,Dz st.own nm (.obj x),st.fam⟩
theorem leP{V:Type}{st:St}(nm:Nat)(nn:Bool)(k:IntKind){f:V->AV}{a b:List (Int×V)}(hp:XU a b)(h:Ag st.own nm=some (.obj (.map nn k (mapE f a))):=by kernel_rfl)(hlt:Nat.blt nm Bp=true:=by kernel_rfl):Le Γ st (u7 nm (.pmap nn k (mapE f b)) st):=
 aw _ h (λ_ _ _ _ h=>gY hp h) hlt
theorem leQ{st:St}(nm:Nat)(k:IntKind)(l:List (Int×AV))(h:Ag st.own nm=some (.obj (.pmap true k l)):=by kernel_rfl)(hlt:Nat.blt nm Bp=true:=by kernel_rfl):Le Γ st (u7 nm (.pmap false k l) st):=
 aw _ h (λ_ _ _ _ h=>lk h) hlt
theorem gI(g:Bool):g=true->g=true:=id
theorem M3(c:Bool):c=true->(c==true)=true:=gT
theorem Ja(c:Bool):c=false->(c==false)=true:=gF
theorem Bu{α:Type}(sz:Nat)(e:α->List AV)(d:α)(l:List α):AVle (.slice sz l.length (λi=>(l.map e).getD i []) .exact) (AV.list sz e d l .exact):=wA rfl λi h=>tH l i h
theorem Dp{α:Type}(sz:Nat)(e:α->List AV)(d:α):AVle (.slice 0 0 (λ_=>[]) .exact) (AV.list sz e d [] .exact):=Cs
theorem Ie{α:Type}(sz nm:Nat)(e:α->List AV)(d:α)(l m:List α):AVle (.slice sz (l.length+m.length) (Ov l.length (λi=>e (l.getD i d)) (λi=>e (m.getD i d))) (.own nm)) (AV.list sz e d (l++m) (.own nm)):=vv
def pG(x:Pa)(ix tx bx:Nat):Bool:=
 match x with
 | .run (.loop (.seq (.region _ ops false) _)) _=>
  match ops.toList with
  | [o1,o2]=>
   (match o1.op,o2.op with | .next (.tmp a) false,.extract (.tmp b) 0=>Nat.beq a ix&&Nat.beq b tx|_,_=>false) &&
   (match o1.dst,o2.dst,o1.guard,o2.guard with|some a,some b,none,none=>Nat.beq a tx&&Nat.beq b bx|_,_,_,_=>false)
  | _=>false
 | _=>false
def OY:Pa->Pa
 | .run (.loop (.seq _ c)) _=>sy c []
 | x=>x
theorem gMQ{S X:Type}{x:Pa}{st:St}{n:Nat}{Hf:List (Nat×Own)}(q:RgQ P Γ n Hf){len:Nat}{f:Nat->S->Option (LR S X)}{g:S->Option (LR S X)}{s0:S}(Q:X->Prop)(hx:∀ τ:List Nat,τ.Perm (List.range len)->∃ x,BV f g τ s0=some x/\Q x)(live names:List Nat)(H:St->List Nat->S->St)(KX:St->X->Exit->St->Prop)
  (ix tx bx nm mm:Nat) (nn:Bool) (km:IntKind) (l:List (Int×AV)) (lv2 nm2:List Nat)
  (h0:Bd live names st=H (Bd live names st) [] s0:=by kernel_rfl) (hc:pG x ix tx bx=true:=by kernel_rfl) (hb:(Nat.blt tx n&&(Nat.blt bx n&&(Nat.blt nm Bp&&Nat.blt mm Bp)))=true:=by kernel_rfl)
  (hit:(λz s=>(H (Bd live names st) z s).get ix)=(λ_ _=>AV.optr nm mm):=by kernel_rfl) (hmi:(λz s=>Ag (H (Bd live names st) z s).own nm)=(λz _=>some (.obj (.miter (.omap mm) len z))):=by kernel_rfl)
  (hma:(λz s=>Ag (H (Bd live names st) z s).own mm)=(λ_ _=>some (.obj (.map nn km l))):=by kernel_rfl) (hlen:len=l.length:=by kernel_rfl) (hh:(Hf.all λx=>Bj x.1 names)=true:=by kernel_rfl) (hh2:(Hf.all λx=>Bj x.1 nm2)=true:=by kernel_rfl)
  (kd:∀ z s y,g s=some y->(∀ i,i<len->i∈z)->GG P Γ (Rw Γ (H (Bd live names st) z) (KX (Bd live names st)) y) (OY x) (Bd lv2 nm2 (((H (Bd live names st) z s).upd (some tx) (.tuple [.bool false]) []).upd (some bx) (.bool false) [])))
  (kn:∀ z s i y,f i s=some y->i<len->i∉z->GG P Γ (Rw Γ (H (Bd live names st) (i::z)) (KX (Bd live names st)) y) (OY x)
   (Bd lv2 nm2 (((H (Bd live names st) z s).upd (some tx) (.tuple [.bool true,.int km (l.getD i (0,.any)).1,(l.getD i (0,.any)).2]) [(nm,.obj (.miter (.omap mm) len (i::z)))]).upd (some bx) (.bool true) [])))
  (ko:∀ y,Q y->∀ e st',KX (Bd live names st) y e st'->GG P Γ K (lp e x) st'):GG P Γ K x st:=by
 unfold pG at hc
 split at hc
 ·rename_i id ops rest fs
  split at hc
  ·rename_i o1 o2 hops
   obtain rfl:ops = #[o1,o2]:=by grind
   simp only[Be]at hc;obtain⟨c1,c2⟩:=hc
   split at c1
   ·rename_i a b e1 e2
    split at c2
    ·rename_i a' b' e3 e4 e5 e6
     simp only[Be]at c1 c2;obtain rfl:=Cq c1.1;obtain rfl:=Cq c1.2;obtain rfl:=Cq c2.1;obtain rfl:=Cq c2.2;refine ZU  ?_ (cd Q len (H (Bd live names st)) f g _ (λz s hg hf=>?_) hx λy hy e st' hk=>Wp (ko y hy e st' hk))
     ·rw[<- h0];exact Bn _ _ q rfl hh
     refine ZV (k6 q lv2 nm2 e1 e3 e5 e2 e4 e6 hb (congrFun (congrFun hit z) s) (congrFun (congrFun hmi z) s) (congrFun (congrFun hma z) s) hlen hh2 (λhall=>?_) (λi hi hn=>?_))
     ·obtain⟨y,h⟩:=hg hall;exact PW (Lr (kd z s y h hall)) (λe st' hk=>.inl ⟨y,h,hk,hall⟩)
     ·obtain⟨y,h⟩:=hf i hi hn;exact PW (Lr (kn z s i y h hi hn)) (λe st' hk=>.inr ⟨i,y,h,hk,hi,hn⟩)
    ·cases c2
   ·cases c1
  ·cases hc
 ·cases hc
theorem gMP{S X:Type}{x:Pa}{st:St}{n:Nat}{Hf:List (Nat×Own)}(q:RgQ P Γ n Hf){len:Nat}{f:Nat->S->Option (LR S X)}{g:S->Option (LR S X)}{s0:S}{eqv:X->X->Prop}{y:X}(hx:FY eqv len f g s0=some y)(live names:List Nat)(H:St->List Nat->S->St)(KX:St->X->Exit->St->Prop)
  (ix tx bx nm mm:Nat) (nn:Bool) (km:IntKind) (l:List (Int×AV)) (lv2 nm2:List Nat)
  (h0:Bd live names st=H (Bd live names st) [] s0:=by kernel_rfl) (hc:pG x ix tx bx=true:=by kernel_rfl) (hb:(Nat.blt tx n&&(Nat.blt bx n&&(Nat.blt nm Bp&&Nat.blt mm Bp)))=true:=by kernel_rfl)
  (hit:(λz s=>(H (Bd live names st) z s).get ix)=(λ_ _=>AV.optr nm mm):=by kernel_rfl) (hmi:(λz s=>Ag (H (Bd live names st) z s).own nm)=(λz _=>some (.obj (.miter (.omap mm) len z))):=by kernel_rfl)
  (hma:(λz s=>Ag (H (Bd live names st) z s).own mm)=(λ_ _=>some (.obj (.map nn km l))):=by kernel_rfl) (hlen:len=l.length:=by kernel_rfl) (hh:(Hf.all λx=>Bj x.1 names)=true:=by kernel_rfl) (hh2:(Hf.all λx=>Bj x.1 nm2)=true:=by kernel_rfl)
  (kd:∀ z s y,g s=some y->(∀ i,i<len->i∈z)->GG P Γ (Rw Γ (H (Bd live names st) z) (KX (Bd live names st)) y) (OY x) (Bd lv2 nm2 (((H (Bd live names st) z s).upd (some tx) (.tuple [.bool false]) []).upd (some bx) (.bool false) [])))
  (kn:∀ z s i y,f i s=some y->i<len->i∉z->GG P Γ (Rw Γ (H (Bd live names st) (i::z)) (KX (Bd live names st)) y) (OY x)
   (Bd lv2 nm2 (((H (Bd live names st) z s).upd (some tx) (.tuple [.bool true,.int km (l.getD i (0,.any)).1,(l.getD i (0,.any)).2]) [(nm,.obj (.miter (.omap mm) len (i::z)))]).upd (some bx) (.bool true) [])))
  (ko:∀ y',eqv y' y->∀ e st',KX (Bd live names st) y' e st'->GG P Γ K (lp e x) st'):GG P Γ K x st:=
 gMQ q _ (MZ hx) _ _ H KX ix tx bx nm mm nn km l lv2 nm2 h0 hc hb hit hmi hma hlen hh hh2 kd kn ko
theorem H7{st st':St}(h:st=st':=by kernel_rfl):Le Γ st st':=h▸Le.refl Γ st
theorem ci{p q:Prop}(a:p)(b:q):p/\q:=⟨a,b⟩
theorem c1{p:Prop}(a:p):p/\True:=⟨a,trivial⟩
end
section
variable {P:Program} {Γ:Ix} {K:Exit->St->Prop}
theorem tB{α β:Type}{m:Option α}{f:α->Option β}{r:β}{G:Prop}(h:m.bind f=some r)(k:∀ x,m=some x->f x=some r->G):G:=have⟨x,hx,h⟩:=bind_some h;k x hx h
theorem tC{β:Type}{c:Prop}[Decidable c]{m:Option β}{r:β}{G:Prop}(h:A7 c m=some r)(k:c->m=some r->G):G:=k (Jl h).1 (Jl h).2
@[elab_as_elim] theorem tS{α:Type}{a:α}{M:α->Prop}{b:α}(h:some a=some b)(k:M a):M b:=OI h▸k
theorem tV{x:Pa}{st:St}{n:Nat}{H:List (Nat×Own)}(q:RgQ P Γ n H)(live names:List Nat){β:Type}{c:Prop}[Decidable c]{m:Option β}{r:β}(h:A7 c m=some r)
  (k:m=some r->GG P Γ K (tZ x) (ta P (Spec P) n [] live names x st []))
  (h1:q9 (qy P (Spec P) n [] live names x st [])=some (c/\True,true):=by kernel_rfl) (hh:(H.all λx=>Bj x.1 names)=true:=by kernel_rfl):GG P Γ K x st:=gR q live names [] [] (c1 (Jl h).1) (k (Jl h).2) h1 hh
theorem tN{S X:Type}{x:Pa}{st:St}{H:S->St}{KX:X->Exit->St->Prop}{s':S}{y:LR S X}(h:some (.next s')=some y)(h1:st=H s':=by kernel_rfl)(hx:x = .out .normal []:=by kernel_rfl):GG P Γ (Rw Γ H KX y) x st:=OI h▸gN (H7 h1) hx
theorem tL{S X α:Type}{x:Pa}{st:St}{n:Nat}{Hf:List (Nat×Own)}(q:RgQ P Γ n Hf){f:S->Option (LR S X)}{s0:S}{g:X->Option α}{r:α}(h:(Ab f s0).bind g=some r)(live names:List Nat)(H:St->S->St)(KX:St->X->Exit->St->Prop)
  (kb:∀ s y,f s=some y->GG P Γ (Rw Γ (H (Bd live names st)) (KX (Bd live names st)) y) (oE x) (H (Bd live names st) s)) (ko:∀ y,g y=some r->∀ e st',KX (Bd live names st) y e st'->GG P Γ K (lp e x) st')
  (h0:Bd live names st=H (Bd live names st) s0:=by kernel_rfl) (hl:ao x=true:=by kernel_rfl) (hh:(Hf.all λx=>Bj x.1 names)=true:=by kernel_rfl):GG P Γ K x st:=tB h λy hy h=>gL q hy live names H KX kb (ko y h) h0 hl hh
theorem tU{x:Pa}{st:St}{n:Nat}{H:List (Nat×Own)}(q:RgQ P Γ n H)(live names:List Nat){O:Prop}(hO:O)
  (k:GG P Γ K (tZ x) (ta P (Spec P) n [] live names x st []))
  (h:q9 (qy P (Spec P) n [] live names x st [])=some (O,true):=by kernel_rfl) (hh:(H.all λx=>Bj x.1 names)=true:=by kernel_rfl):GG P Γ K x st:=gR q live names [] [] hO k h hh
theorem tT{x:Pa}{st:St}{n:Nat}{H:List (Nat×Own)}(q:RgQ P Γ n H)(live names:List Nat)(rs:List Wf){O:Prop}(hO:O)
  (k:GG P Γ K (tZ x) (ta P (Spec P) n [] live names x st rs))
  (h:q9 (qy P (Spec P) n [] live names x st rs)=some (O,true):=by kernel_rfl) (hh:(H.all λx=>Bj x.1 names)=true:=by kernel_rfl):GG P Γ K x st:=gR q live names [] rs hO k h hh
theorem tW{x:Pa}{st:St}{n:Nat}{H:List (Nat×Own)}(q:RgQ P Γ n H)(live names live2 names2:List Nat)
  (k:GG P Γ K (tZ (tZ x)) (ta P (Spec P) n [] live2 names2 (tZ x) (ta P (Spec P) n [] live names x st []) []))
  (h:q9 (qy P (Spec P) n [] live names x st [])=some (True,true):=by kernel_rfl) (hh:(H.all λx=>Bj x.1 names)=true:=by kernel_rfl)
  (h2:q9 (qy P (Spec P) n [] live2 names2 (tZ x) (ta P (Spec P) n [] live names x st []) [])=some (True,true):=by kernel_rfl) (hh2:(H.all λx=>Bj x.1 names2)=true:=by kernel_rfl):GG P Γ K x st:=Ac q live names (Ac q live2 names2 k h2 hh2) h hh
end
theorem M2{R:Prop}(g:Bool)(r:R):(g=true->g=true)/\((g=true->g=true)/\(R)):=⟨id,⟨id,r⟩⟩
theorem Y1{R:Prop}(g:Bool)(r:R):(g=true->g=true)/\((g=true->g=true)/\((g=true->g=true)/\(R))):=⟨id,⟨id,⟨id,r⟩⟩⟩
theorem dC{R:Prop}(g:Bool)(r:R):(g=true->g=true)/\((g=true->g=true)/\((g=true->g=true)/\((g=true->g=true)/\(R)))):=⟨id,⟨id,⟨id,⟨id,r⟩⟩⟩⟩
theorem qz{R:Prop}(g:Bool)(r:R):(g=true->g=true)/\((g=true->g=true)/\((g=true->g=true)/\((g=true->g=true)/\((g=true->g=true)/\(R))))):=⟨id,⟨id,⟨id,⟨id,⟨id,r⟩⟩⟩⟩⟩
theorem gI6{R:Prop}(g:Bool)(r:R):(g=true->g=true)/\((g=true->g=true)/\((g=true->g=true)/\((g=true->g=true)/\((g=true->g=true)/\((g=true->g=true)/\(R)))))):=⟨id,⟨id,⟨id,⟨id,⟨id,⟨id,r⟩⟩⟩⟩⟩⟩
theorem gI7{R:Prop}(g:Bool)(r:R):(g=true->g=true)/\((g=true->g=true)/\((g=true->g=true)/\((g=true->g=true)/\((g=true->g=true)/\((g=true->g=true)/\((g=true->g=true)/\(R))))))):=⟨id,⟨id,⟨id,⟨id,⟨id,⟨id,⟨id,r⟩⟩⟩⟩⟩⟩⟩
theorem gI8{R:Prop}(g:Bool)(r:R):(g=true->g=true)/\((g=true->g=true)/\((g=true->g=true)/\((g=true->g=true)/\((g=true->g=true)/\((g=true->g=true)/\((g=true->g=true)/\((g=true->g=true)/\(R)))))))):=⟨id,⟨id,⟨id,⟨id,⟨id,⟨id,⟨id,⟨id,r⟩⟩⟩⟩⟩⟩⟩⟩
theorem gI9{R:Prop}(g:Bool)(r:R):(g=true->g=true)/\((g=true->g=true)/\((g=true->g=true)/\((g=true->g=true)/\((g=true->g=true)/\((g=true->g=true)/\((g=true->g=true)/\((g=true->g=true)/\((g=true->g=true)/\(R))))))))):=⟨id,⟨id,⟨id,⟨id,⟨id,⟨id,⟨id,⟨id,⟨id,r⟩⟩⟩⟩⟩⟩⟩⟩⟩
theorem e7{p0 p1 R:Prop}(a0:p0)(a1:p1)(r:R):p0/\p1/\R:=⟨a0,a1,r⟩
theorem c2{p0 p1:Prop}(a0:p0)(a1:p1):p0/\p1/\True:=⟨a0,a1,trivial⟩
theorem ah{p0 p1 p2 R:Prop}(a0:p0)(a1:p1)(a2:p2)(r:R):p0/\p1/\p2/\R:=⟨a0,a1,a2,r⟩
theorem c3{p0 p1 p2:Prop}(a0:p0)(a1:p1)(a2:p2):p0/\p1/\p2/\True:=⟨a0,a1,a2,trivial⟩
theorem d4_{p0 p1 p2 p3 R:Prop}(a0:p0)(a1:p1)(a2:p2)(a3:p3)(r:R):p0/\p1/\p2/\p3/\R:=⟨a0,a1,a2,a3,r⟩
theorem c4{p0 p1 p2 p3:Prop}(a0:p0)(a1:p1)(a2:p2)(a3:p3):p0/\p1/\p2/\p3/\True:=⟨a0,a1,a2,a3,trivial⟩
theorem c5{p0 p1 p2 p3 p4:Prop}(a0:p0)(a1:p1)(a2:p2)(a3:p3)(a4:p4):p0/\p1/\p2/\p3/\p4/\True:=⟨a0,a1,a2,a3,a4,trivial⟩
theorem d6_{p0 p1 p2 p3 p4 p5 R:Prop}(a0:p0)(a1:p1)(a2:p2)(a3:p3)(a4:p4)(a5:p5)(r:R):p0/\p1/\p2/\p3/\p4/\p5/\R:=⟨a0,a1,a2,a3,a4,a5,r⟩
theorem c6{p0 p1 p2 p3 p4 p5:Prop}(a0:p0)(a1:p1)(a2:p2)(a3:p3)(a4:p4)(a5:p5):p0/\p1/\p2/\p3/\p4/\p5/\True:=⟨a0,a1,a2,a3,a4,a5,trivial⟩
theorem c7{p0 p1 p2 p3 p4 p5 p6:Prop}(a0:p0)(a1:p1)(a2:p2)(a3:p3)(a4:p4)(a5:p5)(a6:p6):p0/\p1/\p2/\p3/\p4/\p5/\p6/\True:=⟨a0,a1,a2,a3,a4,a5,a6,trivial⟩
theorem d8_{p0 p1 p2 p3 p4 p5 p6 p7 R:Prop}(a0:p0)(a1:p1)(a2:p2)(a3:p3)(a4:p4)(a5:p5)(a6:p6)(a7:p7)(r:R):p0/\p1/\p2/\p3/\p4/\p5/\p6/\p7/\R:=⟨a0,a1,a2,a3,a4,a5,a6,a7,r⟩
theorem c8{p0 p1 p2 p3 p4 p5 p6 p7:Prop}(a0:p0)(a1:p1)(a2:p2)(a3:p3)(a4:p4)(a5:p5)(a6:p6)(a7:p7):p0/\p1/\p2/\p3/\p4/\p5/\p6/\p7/\True:=⟨a0,a1,a2,a3,a4,a5,a6,a7,trivial⟩
theorem xT{p0 p1 p2 p3 p4 p5 p6 p7 p8 R:Prop}(a0:p0)(a1:p1)(a2:p2)(a3:p3)(a4:p4)(a5:p5)(a6:p6)(a7:p7)(a8:p8)(r:R):p0/\p1/\p2/\p3/\p4/\p5/\p6/\p7/\p8/\R:=⟨a0,a1,a2,a3,a4,a5,a6,a7,a8,r⟩
theorem c9{p0 p1 p2 p3 p4 p5 p6 p7 p8:Prop}(a0:p0)(a1:p1)(a2:p2)(a3:p3)(a4:p4)(a5:p5)(a6:p6)(a7:p7)(a8:p8):p0/\p1/\p2/\p3/\p4/\p5/\p6/\p7/\p8/\True:=⟨a0,a1,a2,a3,a4,a5,a6,a7,a8,trivial⟩
structure GW(c:List AV)(o N sz:Nat)(f:Nat->List AV):Prop where
 get:∀ i,i<N->(c.drop (o+i*sz)).take sz=f i
theorem IJ{N sz:Nat}{f:Nat->List AV}{rest:List AV}(hl:∀ i,i<N->(f i).length=sz):GW (Hi N f++rest) 0 N sz f:=⟨λi hi=>by
 have h:=f4 hl i hi;have hl':=Ig hl;have h1:(i+1)*sz<=N*sz:=Em _ hi;rw[E8]at h1
 rw[Ha,List.drop_append_of_le_length (by omega),List.take_append_of_le_length (by rw[NM];omega),h]⟩
theorem SQ{c0 c:List AV}{o k N sz:Nat}{f:Nat->List AV}(hk:c0.length=k)(h:GW c o N sz f):GW (c0++c) (k+o) N sz f:=⟨λi hi=>by
 rw[<- h.get i hi,<- hk,Ut,<- List.drop_drop,List.drop_left]⟩
theorem jz{c:List AV}{o N sz:Nat}{f:Nat->List AV}{i:Int}(h:GW c o N sz f)(hi:A5 i N):AVle (.agg ((c.drop (o+i.toNat*sz)).take sz)) (.agg (f i.toNat)):=by
 rw[h.get _ (Hd hi)];exact .refl _
theorem IL{c:List AV}{o N:Nat}{f:Nat->List AV}{i:Int}{x:AV}(h:GW c o N 1 f)(hi:A5 i N)(hx:f i.toNat=[x]):AVle (c.getD (o+i.toNat*1) .any) x:=by
 have:=h.get _ (Hd hi);rw[hx]at this
 have e:c.getD (o+i.toNat*1) .any=((c.drop (o+i.toNat*1)).take 1).getD 0 .any:=by
  simp[EU]
 rw[e,this];exact .refl _
theorem Yn{o s N L:Nat}{i:Int}(hi:A5 i N)(h:Nat.ble (o+N*s) L=true):o+i.toNat*s+s<=L:=by
 have h1:(i.toNat+1)*s<=N*s:=Em _ (Hd hi);rw[E8]at h1;have:=K1 h;omega
theorem IK{o N L:Nat}{i:Int}(hi:A5 i N)(h:Nat.ble (o+N*1) L=true):o+i.toNat*1<L:=Yn hi h
theorem QK{l:List Nat}{f g:Nat->List AV}(h:∀ k,k∈l->f k=g k):l.flatMap f=l.flatMap g:=by
 induction l with
 | nil=>rfl
 | cons k l ih=>rw[Ur,Ur,h k (zzL51 ..),ih λj hj=>h j (Nf _ hj)]
theorem ID{N sz i:Nat}{f f':Nat->List AV}{cs rest:List AV}(hl:∀ i,i<N->(f i).length=sz)(hi:i<N)(hc:cs.length=sz)(e1:f' i=cs)(e2:∀ k,k<N->k≠i->f' k=f k) :
  (Hi N f++rest).take (0+i*sz)++cs++(Hi N f++rest).drop (0+i*sz+cs.length)=Hi N f'++rest:=by
 have hF:=Ig hl;have h1:(i+1)*sz<=N*sz:=Em _ hi;rw[E8]at h1
 have hsplit:∀ g:Nat->List AV,Hi N g=Hi i g++(g i++(List.range' (i+1) (N-(i+1))).flatMap g):=λg=>by
  unfold Hi
  have:List.range N=List.range i++(i::List.range' (i+1) (N-(i+1))):=by
   rw[Qv,Qv,show i::List.range' (i+1) (N-(i+1))=List.range' i (N-(i+1)+1) from rfl,show List.range' i (N-(i+1)+1)=List.range' (0+1*i) (N-(i+1)+1) by simp,List.range'_append]
   congr 1
   omega
  rw[this,List.flatMap_append,Ur]
 have ha:Hi i f'=Hi i f:=by
  unfold Hi;exact QK λk hk=>e2 k (by have:=zzL44.1 hk;omega) (by have:=zzL44.1 hk;omega)
 have hb:(List.range' (i+1) (N-(i+1))).flatMap f'=(List.range' (i+1) (N-(i+1))).flatMap f:=
  QK λk hk=>e2 k (by have:=List.mem_range'.1 hk;omega) (by have:=List.mem_range'.1 hk;omega)
 have hil:=Ig (n:=i) (f:=f) (sz:=sz) λk hk=>hl k (by omega);rw[hsplit f,hsplit f',e1,ha,hb,Ha];rw[Px,Px,<- hil,List.take_left',Px,Px,Px]
 ·congr 1
  congr 1
  rw[hc,<- hl i hi,<- List.drop_drop,List.drop_left,List.drop_left]
 ·rfl
theorem IE{c0 X X' cs:List AV}{k o j n:Nat}(hk:c0.length=k)(h:X.take (o+j)++cs++X.drop (o+j+n)=X'):(c0++X).take (k+o+j)++cs++(c0++X).drop (k+o+j+n)=c0++X':=by
 subst hk;rw[<- h,Ut,List.take_append,List.drop_append];simp only[Px];rw[List.take_of_length_le (by omega),show c0.length+(o+j)-c0.length=o+j by omega,List.drop_of_length_le (by omega),show c0.length+(o+j)+n-c0.length=o+j+n by omega]
 rfl
theorem U6{a b c d:List AV}(h:AVleL a b)(k:AVleL c d):AVleL (a++c) (b++d):=by
 induction h with
 | nil=>exact k
 | cons h _ ih=>exact .cons h ih
theorem o8{a b:List AV}(h:AVleL a b):∀ n,AVleL (a.take n) (b.take n):=by
 induction h with
 | nil=>intro n;simp;exact .nil
 | cons h _ ih=>intro n;cases n with|zero=>exact .nil|succ n=>exact .cons h (ih n)
theorem o7{a b:List AV}(h:AVleL a b):∀ n,AVleL (a.drop n) (b.drop n):=by
 induction h with
 | nil=>intro n;simp;exact .nil
 | cons h t ih=>intro n;cases n with|zero=>exact .cons h t|succ n=>exact ih n
theorem HK{f g:Nat->List AV}{N:Nat}(h:∀ i,AVleL (f i) (g i)):AVleL (Hi N f) (Hi N g):=by
 unfold Hi
 induction List.range N with
 | nil=>exact .nil
 | cons k l ih=>rw[Ur,Ur];exact U6 (h k) ih
def Zm:List (Nat->Bool)->List AV->List AV
 | [],l=>l
 | k::ks,l=>AV.eraseAll k (Zm ks l)
theorem cr(ks:List (Nat->Bool))(a b:List AV):Zm ks (a++b)=Zm ks a++Zm ks b:=by
 induction ks with
 | nil=>rfl
 | cons k ks ih=>unfold Zm;rw[ih,Mg]
theorem lJ(ks:List (Nat->Bool))(a:List AV)(n:Nat):Zm ks (a.take n)=(Zm ks a).take n:=by
 induction ks with
 | nil=>rfl
 | cons k ks ih=>unfold Zm;rw[ih,VE]
theorem lH(ks:List (Nat->Bool))(a:List AV)(n:Nat):Zm ks (a.drop n)=(Zm ks a).drop n:=by
 induction ks with
 | nil=>rfl
 | cons k ks ih=>unfold Zm;rw[ih,EG]
theorem lI(k:Nat->Bool)(ks:List (Nat->Bool))(a:List AV):Zm ks (AV.eraseAll k a)=Zm (ks++[k]) a:=by
 induction ks with
 | nil=>rfl
 | cons j ks ih=>exact Ci (AV.eraseAll j) ih
theorem JR{a:List AV}(h:∀ k,AV.eraseAll k a=a)(ks:List (Nat->Bool)):Zm ks a=a:=by
 induction ks with
 | nil=>rfl
 | cons k ks ih=>unfold Zm;rw[ih,h]
theorem Vv{a b:List AV}(h:∀ k,AV.eraseAll k a=a)(h':∀ k,AV.eraseAll k b=b)(k:Nat->Bool):AV.eraseAll k (a++b)=a++b:=by rw[Mg,h,h']
theorem U5{N:Nat}{f:Nat->List AV}(h:∀ i k,AV.eraseAll k (f i)=f i)(k:Nat->Bool):AV.eraseAll k (Hi N f)=Hi N f:=by
 unfold Hi
 induction List.range N with
 | nil=>rfl
 | cons i l ih=>rw[Ur,Mg,h,ih]
def vl(F G:Nat->List AV):Prop:=∀ ks k,k<1->AVleL (Zm ks (F k)) (G k)
theorem B9{F G:Nat->List AV}(h:vl F G):∀ k,k<1->AVleL (F k) (G k):=h []
theorem Aw{F G:Nat->List AV}{keep:Nat->Bool}(h:vl F G):vl (λi=>AV.eraseAll keep (F i)) G:=λks k hk=>by rw[lI];exact h _ k hk
theorem A2{c:List AV}(h:∀ k,AV.eraseAll k c=c):vl (λ_=>c) (λ_=>c):=λks k _=>by rw[JR h];exact .refl _
theorem GE{F G:Nat->List AV}{j:Nat}{cs cs' R:List AV}(h:vl F G)(hcs:∀ k,AV.eraseAll k cs=cs)(hc:AVleL cs cs')(e:(G 0).take j++cs'++(G 0).drop (j+cs'.length)=R):vl (Eb F 0 j cs) (λ_=>R):=λks k hk=>by
 obtain rfl:k=0:=by omega
 rw[<- e]
 show AVleL (Zm ks ((F 0).take j++cs++(F 0).drop (j+cs.length))) _
 rw[hc.length,cr,cr,lJ,lH,JR hcs];exact U6 (U6 (o8 (h ks 0 hk) _) hc) (o7 (h ks 0 hk) _)
theorem j0{Z R:List AV}{S:Nat}(hz:∀ k,AV.eraseAll k Z=Z)(h:AVleL Z R)(hs:Z.length=S):vl (λi=>(Z.drop (i*S)).take S) (λ_=>R):=λks k hk=>by
 obtain rfl:k=0:=by omega
 show AVleL (Zm ks ((Z.drop (0*S)).take S)) R
 rw[Nat.zero_mul,Js,<- hs,CI,JR hz];exact h
theorem bV{α:Type}{e:α->List AV}{N i:Nat}{d v:α}{l:List α}(hi:i<N):e ((Fx N d l i v).getD i d)=e v:=by
 rw[Lw hi,Nat.beq_refl];rfl
theorem PE{α:Type}{e:α->List AV}{N i:Nat}{d v:α}{l:List α}:∀ k,k<N->k≠i->e ((Fx N d l i v).getD k d)=e (l.getD k d):=λk hk hn=>by
 rw[Lw hk]
 cases h:Nat.beq k i with
 | true=>exact absurd (Cq h) hn
 | false=>rfl
open Go.Shelf
def dH:Go.Shelf.Ren:=⟨fun|189=>134|125=>147|257=>146|128=>169|129=>170|294=>160|295=>161|296=>162|297=>163|298=>164|299=>165|216=>166|300=>167|301=>168|328=>177|329=>178|330=>179|331=>180|332=>181|215=>182|343=>183|n=>n,fun|28=>22|3=>3|46=>177|0=>0|51=>185|53=>32|4=>4|183=>194|182=>193|131=>197|5=>5|9=>9|218=>204|222=>208|228=>210|229=>117|n=>n,fun|n=>n⟩
theorem jZ:Go.Proofs.Lays.n189 Tryz.prog dH:={
 mixed:=by kernel_rfl
 f125:=Tryz.func147.trans (Ci some (by kernel_rfl))
 f128:=Tryz.func169.trans (Ci some (by kernel_rfl))
 f129:=Tryz.func170.trans (Ci some (by kernel_rfl))
 f189:=Tryz.func134.trans (Ci some (by kernel_rfl))
 f215:=Tryz.func182.trans (Ci some (by kernel_rfl))
 f216:=Tryz.func166.trans (Ci some (by kernel_rfl))
 f257:=Tryz.func146.trans (Ci some (by kernel_rfl))
 f294:=Tryz.func160.trans (Ci some (by kernel_rfl))
 f295:=Tryz.func161.trans (Ci some (by kernel_rfl))
 f296:=Tryz.func162.trans (Ci some (by kernel_rfl))
 f297:=Tryz.func163.trans (Ci some (by kernel_rfl))
 f298:=Tryz.func164.trans (Ci some (by kernel_rfl))
 f299:=Tryz.func165.trans (Ci some (by kernel_rfl))
 f300:=Tryz.func167.trans (Ci some (by kernel_rfl))
 f301:=Tryz.func168.trans (Ci some (by kernel_rfl))
 f328:=Tryz.func177.trans (Ci some (by kernel_rfl))
 f329:=Tryz.func178.trans (Ci some (by kernel_rfl))
 f330:=Tryz.func179.trans (Ci some (by kernel_rfl))
 f331:=Tryz.func180.trans (Ci some (by kernel_rfl))
 f332:=Tryz.func181.trans (Ci some (by kernel_rfl))
 f343:=Tryz.func183.trans (Ci some (by kernel_rfl))
 t0:=Tryz.underlying0
 a0:=Tryz.isAgg0
 z0:=Tryz.sizeOf0
 v0:=Tryz.zeroValue0
 t3:=Tryz.underlying3
 a3:=Tryz.isAgg3
 z3:=Tryz.sizeOf3
 v3:=Tryz.zeroValue3
 t4:=Tryz.underlying4
 a4:=Tryz.isAgg4
 z4:=Tryz.sizeOf4
 v4:=Tryz.zeroValue4
 t5:=Tryz.underlying5
 a5:=Tryz.isAgg5
 z5:=Tryz.sizeOf5
 v5:=Tryz.zeroValue5
 t9:=Tryz.underlying9
 a9:=Tryz.isAgg9
 z9:=Tryz.sizeOf9
 v9:=Tryz.zeroValue9
 t28:=Tryz.underlying22
 a28:=Tryz.isAgg22
 z28:=Tryz.sizeOf22
 v28:=Tryz.zeroValue22
 t46:=Tryz.underlying177
 a46:=Tryz.isAgg177
 z46:=Tryz.sizeOf177
 v46:=Tryz.zeroValue177
 t51:=Tryz.underlying185
 a51:=Tryz.isAgg185
 z51:=Tryz.sizeOf185
 v51:=Tryz.zeroValue185
 t53:=Tryz.underlying32
 a53:=Tryz.isAgg32
 z53:=Tryz.sizeOf32
 v53:=Tryz.zeroValue32
 t131:=Tryz.underlying197
 a131:=Tryz.isAgg197
 z131:=Tryz.sizeOf197
 v131:=Tryz.zeroValue197
 t182:=Tryz.underlying193
 a182:=Tryz.isAgg193
 z182:=Tryz.sizeOf193
 v182:=Tryz.zeroValue193
 t183:=Tryz.underlying194
 a183:=Tryz.isAgg194
 z183:=Tryz.sizeOf194
 v183:=Tryz.zeroValue194
 t218:=Tryz.underlying204
 a218:=Tryz.isAgg204
 z218:=Tryz.sizeOf204
 v218:=Tryz.zeroValue204
 t222:=Tryz.underlying208
 a222:=Tryz.isAgg208
 z222:=Tryz.sizeOf208
 v222:=Tryz.zeroValue208
 t228:=Tryz.underlying210
 a228:=Tryz.isAgg210
 z228:=Tryz.sizeOf210
 v228:=Tryz.zeroValue210
 t229:=Tryz.underlying117
 a229:=Tryz.isAgg117
 z229:=Tryz.sizeOf117
 v229:=Tryz.zeroValue117 }
def VG:Go.Shelf.Ren:=⟨fun|15=>133|n=>n,fun|22=>22|3=>3|4=>4|n=>n,fun|n=>n⟩
theorem JW:Go.Proofs.Lays2.n15 Tryz.prog VG:={
 mixed:=by kernel_rfl
 f15:=Tryz.func133.trans (Ci some (by kernel_rfl))
 t3:=Tryz.underlying3
 a3:=Tryz.isAgg3
 z3:=Tryz.sizeOf3
 v3:=Tryz.zeroValue3
 t4:=Tryz.underlying4
 a4:=Tryz.isAgg4
 z4:=Tryz.sizeOf4
 v4:=Tryz.zeroValue4
 t22:=Tryz.underlying22
 a22:=Tryz.isAgg22
 z22:=Tryz.sizeOf22
 v22:=Tryz.zeroValue22
 i3:=by kernel_rfl }
def VH:Go.Shelf.Ren:=⟨fun|20=>135|n=>n,fun|22=>22|3=>3|4=>4|0=>0|n=>n,fun|n=>n⟩
theorem XB:Go.Proofs.Lays2.n20 Tryz.prog VH:={
 mixed:=by kernel_rfl
 f20:=Tryz.func135.trans (Ci some (by kernel_rfl))
 t0:=Tryz.underlying0
 a0:=Tryz.isAgg0
 z0:=Tryz.sizeOf0
 v0:=Tryz.zeroValue0
 t3:=Tryz.underlying3
 a3:=Tryz.isAgg3
 z3:=Tryz.sizeOf3
 v3:=Tryz.zeroValue3
 t4:=Tryz.underlying4
 a4:=Tryz.isAgg4
 z4:=Tryz.sizeOf4
 v4:=Tryz.zeroValue4
 t22:=Tryz.underlying22
 a22:=Tryz.isAgg22
 z22:=Tryz.sizeOf22
 v22:=Tryz.zeroValue22
 i3:=by kernel_rfl }
open Go.Sort
section
variable {I:Nat->Nat->Prop} {θ:Nat->Option (Nat×Nat)} {w w':World}
theorem gq(I:Nat->Nat->Prop)(θ:Nat->Option (Nat×Nat))(w:World):K3 I (Ag []) θ w:=
 ⟨(λ_ _ _ h=>by cases h),(λ_ _ _ _ h=>by cases h),(λ_ _ _ _ _ h=>(h rfl).elim),(λ_ _ _ _ _ h=>by cases h),(λ_ _ h=>by cases h),(λ_ _ _ h=>by cases h)⟩
theorem po{own:Nat->Option Own}{zs:Array Value}{x:AV}(h:RepL I own θ w zs.toList [x]):∃ v,zs = #[v]/\Rep I own θ w v x:=by
 obtain⟨l⟩:=zs
 cases h with
 | cons h1 h2=>cases h2;exact⟨_,rfl,h1⟩
theorem EF(hb:Below w.heap.size w w')(hval:∀ b o,I b o->∃ u,w.cell? ⟨b,o,none⟩=some u){N:Nat->Nat->Prop}(hN:∀ b o,N b o->w.heap.size<=b/\∃ u,w'.cell? ⟨b,o,none⟩=some u) :
  Chg (Ag []) θ I w (Ag []) θ (λb o=>I b o\/N b o) w':=
 have hcell:∀ b o,I b o->w'.cell? ⟨b,o,none⟩=w.cell? ⟨b,o,none⟩:=λb o hi=>by
  obtain⟨u,hu⟩:=hval b o hi;exact NL (a:=⟨b,o,none⟩) (hb.block b (R6 hu))
 {imm:=λ_ _ h=>.inl h,cell:=hcell,le:=λ_ _ h=>(by cases h),rel:=gq _ _ _,
  valid:=λb o hi=>by
   rcases hi with hi|hi
   ·obtain⟨u,hu⟩:=hval b o hi;exact⟨u,(hcell b o hi).trans hu⟩
   ·exact(hN b o hi).2,
  os:=hb.os,tape:=hb.tape,output:=hb.output,drawn:=λh=>h.elim,grow:=hb.size,frame:=λb hlt _=>hb.block b hlt,new:=λ_ _ _ h=>(h rfl).elim,
  immNew:=λb o hi=>by
   rcases hi with hi|hi
   ·exact .inl hi
   ·exact .inr (.inl (hN b o hi).1) }
end
theorem HA{w W:World}{g n:Nat}{os:Array Obj}{d:Array Int}(hb:Below w.heap.size w W)(hg:w.heap.size<=g):Below w.heap.size w (grow (putRow (Value.int .i64) (Sort.ahead W n) g 0 d) os):=by
 have k:=grownBy_sortedI (w:=W) (g:=g) (n:=n) (os:=os) d;refine hb.trans ⟨k.os,k.tape,k.output,k.size,λb hlt=>k.block b (Nat.lt_of_lt_of_le hlt hb.size) (λe=>?_)⟩;have:=OI e;omega
def ZF(w W:World)(g cap n:Nat)(zs:List Int):Prop:=
 Below w.heap.size w W/\w.heap.size<=g/\∃ cur,W.heap[g]?=some (.cells cur 3 (0,0))/\n<=cap/\cap<=maxLen/\cur.size=cap/\cur.toList.take zs.length=zs.map (Value.int .i64)/\zs.length=n
theorem jp{w W:World}{v:Value}{n:Nat}{zs:List Int}(h:W.ownsRow w.heap.size 3 1 v n (zs.map (Value.int .i64)))(hne:v≠.slice none 0 0)(hb:Below w.heap.size w W):∃ g cap,v = .slice (some ⟨g,0,none⟩) n cap/\ZF w W g cap n zs:=by
 have hl:zs.length=n:=by have:=h.1;simpa using this
 rcases h.2 with⟨rfl,_⟩|⟨g,cap,cur,rfl,hg,hcur,hcap,hmax,hsz,ht⟩
 ·exact(hne rfl).elim
 ·rw[Ys]at hsz ht;exact⟨g,cap,rfl,hb,hg,cur,hcur,hcap,hmax,hsz,by rw[hl];exact ht,hl⟩
theorem oK(ad:Addr)(c:Nat)(w:World):Calls Tryz.prog 133 #[.slice (some ad) 0 c] w λe W=>∃ g cap,e = .returned (.slice (some ⟨g,0,none⟩) 0 cap)/\ZF w W g cap 0 []:=
 (Any.slices_Clone_int_zero JW ad c w).mono λe W ⟨v,he,hown,hne,hb⟩=>by
  obtain⟨g,cap,rfl,h⟩:=jp (zs:=[]) hown hne hb;exact⟨g,cap,he,h⟩
theorem sb(b off n c:Nat)(zs:List Int)(w:World)(hz:zs.length=n)(hbig:n<=17592186044416)(hc:∀ j,j<n->w.cell? ⟨b,off+j,none⟩=some (.int .i64 (zs.getD j 0))) :
  Calls Tryz.prog 133 #[.slice (some ⟨b,off,none⟩) n c] w λe W=>∃ g cap,e = .returned (.slice (some ⟨g,0,none⟩) n cap)/\ZF w W g cap n zs:=
 (Any.slices_Clone_int JW b off n c zs w (by omega) (by omega) (λj hj=>hc j (by omega))).mono λe W ⟨v,he,hown,hne,hb⟩=>by
  rw[show zs.take n=zs by rw[<- hz];exact CI ..]at hown;obtain⟨g,cap,rfl,h⟩:=jp hown hne hb;exact⟨g,cap,he,h⟩
theorem wI{w W:World}{g cap n:Nat}{zs:List Int}(h:ZF w W g cap n zs)(hbig:n<=17592186044416):Calls Tryz.prog 134 #[.slice (some ⟨g,0,none⟩) n cap] W λe W2=>e = .returned (.tuple #[])/\ZF w W2 g cap n (zs.mergeSort λx y=>decide (x<=y)):=by
 obtain⟨hb,hg,cur,hcur,hcap,hmax,hsz,ht,rfl⟩:=h;refine(Any.slices_Sort_int jZ g 0 cap zs W (holds_of_blockI hcur ht) (HI hcur) (by omega)).mono λe W2 ⟨he,q,os,hW⟩=>⟨he,?_⟩;subst hW;have hl:(zs.mergeSort λx y=>decide (x<=y)).length=zs.length:=List.length_mergeSort ..;have b2:=HA (n:=q) (os:=os) (d:=(zs.mergeSort λx y=>decide (x<=y)).toArray) hb hg;exact⟨b2,hg,_,heap_sortedI _ hcur,hcap,hmax,by simp[putCells,hsz],take_putCellsI cur _ (by omega),hl⟩
theorem lC{w W:World}{g cap n:Nat}{zs:List Int}(h:ZF w W g cap n zs)(hbig:n<=17592186044416):Calls Tryz.prog 135 #[.slice (some ⟨g,0,none⟩) n cap] W λe W2=>e = .returned (.slice (some ⟨g,0,none⟩) (Lib.compact zs).length cap)/\ZF w W2 g cap (Lib.compact zs).length (Lib.compact zs):=by
 obtain⟨hb,hg,cur,hcur,hcap,hmax,hsz,ht,rfl⟩:=h;refine(Any.slices_Compact_int XB g 0 cap zs W (holds_of_blockI hcur ht) (by omega) hcap).mono λe W2 ⟨he,q,hW⟩=>⟨he,?_⟩;subst hW;have hcl:=Lib.compact_length_le zs
 generalize Lib.compact zs=cs at hcl ⊢
 generalize hts:cs++List.replicate (zs.length-cs.length) (0:Int)=ts
 have htl:ts.length=zs.length:=by rw[<- hts,Gk,Uq];omega
 have b2:=HA (n:=q) (os:=#[]) (d:=ts.toArray) hb hg;have h2:=heap_sortedI (n:=q) (os:=#[]) ts.toArray hcur;rw[grow_empty]at b2 h2;have h3:=take_putCellsI cur ts (by omega);refine⟨b2,hg,_,h2,by omega,hmax,by simp[putCells,hsz],?_,rfl⟩;have:=Ci (List.take cs.length) h3;rw[List.take_take,Nat.min_eq_left (by omega),<- List.map_take,<- hts,List.take_left' rfl]at this;rw[<- hts];exact this
def rE(w w':World)(v:Value)(r:List Int):Prop:=
 (v = .slice none 0 0/\r=[])\/∃ g cap,v = .slice (some ⟨g,0,none⟩) r.length cap/\ZF w w' g cap r.length r
set_option maxHeartbeats 4000000 in
set_option maxRecDepth 100000 in
theorem qM(a:Option Addr)(n c:Nat)(zs:List Int)(w:World)(hz:zs.length=n)(hn:a=none->n=0)(hbig:n<=17592186044416)
  (hc:0<n->∃ b off,a=some ⟨b,off,none⟩/\∀ j,j<n->w.cell? ⟨b,off+j,none⟩=some (.int .i64 (zs.getD j 0))) :
  Calls Tryz.prog 108 #[.slice a n c] w λe w'=>∃ v,e = .returned v/\Below w.heap.size w w'/\rE w w' v (Lib.compact (zs.mergeSort λx y=>decide (x<=y))):=by
 cases a with
 | none=>
  obtain rfl:=hn rfl;obtain rfl:zs=[]:=zzL109.1 hz
  have hr:Lib.compact (([]:List Int).mergeSort λx y=>decide (x<=y))=[]:=by simp[Lib.compact,Lib.compactUpTo]
  rw[hr];have h1:Calls Tryz.prog 133 #[.slice none 0 c] w λe w'=>e = .returned (.slice none 0 0)/\w'=w:=Any.slices_Clone_int_nil JW 0 c w;have h2:Calls Tryz.prog 134 #[.slice none 0 0] w λe w'=>e = .returned (.tuple #[])/\w'=w:=Any.slices_Sort_int_none jZ none 0 w;have h3:Calls Tryz.prog 135 #[.slice none 0 0] w λe w'=>e = .returned (.slice none 0 0)/\w'=w:=Any.slices_Compact_int_empty XB none 0 w
  go_enter Tryz.func108,Tryz.ntmps108
  go_wp2_with (first
   | (go_at_call 133;refine h1.mono ?_;rintro e W ⟨rfl,rfl⟩)
   | (go_at_call 134;refine h2.mono ?_;rintro e W ⟨rfl,rfl⟩)
   | (go_at_call 135;refine h3.mono ?_;rintro e W ⟨rfl,rfl⟩))
  go_ret
  exact⟨_,rfl,Below.refl _ _,.inl ⟨rfl,rfl⟩⟩
 | some ad=>
  have h1:Calls Tryz.prog 133 #[.slice (some ad) n c] w λe W=>∃ g cap,e = .returned (.slice (some ⟨g,0,none⟩) n cap)/\ZF w W g cap n zs:=by
   by_cases h0:n=0
   ·subst h0;obtain rfl:zs=[]:=zzL109.1 hz;exact oK ad c w
   ·obtain⟨b,off,hab,hcell⟩:=hc (by omega);obtain rfl:=OI hab;exact sb b off n c zs w hz hbig hcell
  go_enter Tryz.func108,Tryz.ntmps108
  go_wp2_with (first
   | (go_at_call 133;refine h1.mono ?_;rintro e W ⟨g,cap,rfl,hO⟩)
   | (go_at_call 134;refine(wI hO hbig).mono ?_;rintro e W2 ⟨rfl,hO2⟩)
   | (go_at_call 135;refine(lC hO2 hbig).mono ?_;rintro e W3 ⟨rfl,hO3⟩))
  go_ret
  exact⟨_,rfl,hO3.1,.inr ⟨_,_,rfl,hO3⟩⟩
def f6(x:Int):List Int->List Int
 | []=>[x]
 | y::l=>if x<=y then x::y::l else y::f6 x l
def ow:List Int->List Int
 | []=>[]
 | x::l=>f6 x (ow l)
theorem insI_perm(x:Int):∀ l,(f6 x l).Perm (x::l)
 | []=>.refl _
 | y::l=>by
  unfold f6
  split
  ·exact .refl _
  ·exact((insI_perm x l).cons y).trans (.swap x y l)
theorem jV{x:Int}:∀{l:List Int},l.Pairwise (·<=·)->(f6 x l).Pairwise (·<=·)
 | [],_=>by simp[f6]
 | y::l,h=>by
  have h':=zzL104.1 h;unfold f6
  split
  ·rename_i hxy
   exact zzL104.2 ⟨λz hz=>by
    rcases zzL28.1 hz with rfl|hz
    ·exact hxy
    ·exact Int.le_trans hxy (h'.1 z hz),h⟩
  ·rename_i hxy
   refine zzL104.2 ⟨λz hz=>?_,jV h'.2⟩;rcases zzL28.1 ((insI_perm x l).mem_iff.1 hz) with rfl|hz
   ·omega
   ·exact h'.1 z hz
theorem XA:∀ l,(ow l).Perm l
 | []=>.refl _
 | x::l=>(insI_perm x _).trans ((XA l).cons x)
theorem jY:∀ l,(ow l).Pairwise (·<=·)
 | []=>.nil
 | x::l=>jV (jY l)
theorem jX(l:List Int):ow l=l.mergeSort λx y=>decide (x<=y):=by
 refine List.Perm.eq_of_pairwise (le:=(·<=·)) (λa b _ _ h1 h2=>Int.le_antisymm h1 h2) (jY l) ?_ ((XA l).trans (List.mergeSort_perm l _).symm);have:=List.pairwise_mergeSort (le:=λ(x y:Int)=>decide (x<=y)) (λa b c h1 h2=>by simp at *;omega) (λa b=>by simp;omega) l
 exact this.imp λh=>by simpa using h
def IW(l:List Int):Option (List Int):=A7 (l.length<=17592186044416) (some (Lib.compact (ow l)))
theorem iC(l r:List Int)(h:IW l=some r):Spec Tryz.prog 108 [AV.list 1 (λx=>[.int .i64 x]) (0:Int) l .none] [] (AV.list 1 (λx=>[.int .i64 x]) (0:Int) r .none) []:=by
 obtain⟨hlen,h⟩:=Jl h;rw[jX]at h;obtain rfl:=OI h;refine⟨enters_of Tryz.func108 (by kernel_rfl) rfl,λw I θ zs hargs _ hval _=>?_⟩;obtain⟨v,rfl,hv⟩:=po hargs;obtain⟨_,a,cap,us,rfl,hcap,hmax,hz,hnn,h1,hl,hr⟩:=hv.slice_val.slice_inv
 have hint:∀ i,i<l.length->us i = .int .i64 (l.getD i 0):=λi hi=>by
  have:=hr i 0 hi (by omega);rw[Ys,Sv]at this;have h2:RepV I w (us i) (.int .i64 (l.getD i 0)):=this;exact Rep.int_inv (own:=Ag []) (θ:=θ) (.val _ _ h2)
 refine(qM a l.length cap l w rfl (λha=>by have:=hnn ha;omega) hlen (λhp=>?_)).mono λe w' ⟨v,he,hb,hout⟩=>?_
 ·obtain⟨b,rfl,hs,_,hcell⟩:=hz hp;obtain⟨blk,off,spot⟩:=b;simp only at hs hcell;subst hs;exact⟨blk,off,rfl,λj hj=>by rw[hcell j (by omega),hint j hj]⟩
 ·generalize Lib.compact (l.mergeSort λx y=>decide (x<=y))=r at hout ⊢
  rcases hout with⟨rfl,rfl⟩|⟨g,cap',rfl,_,hg,cur,hcur,hc1,hc2,hc3,htake,_⟩
  ·exact⟨_,_,θ,he,EF hb hval (N:=λ_ _=>False) (λ_ _ h=>h.elim),.val _ _ (.slice none 0 0 1 _ (λ_=>undef) (zzL7 _) (Rh _) (λh=>by cases h) (λ_=>rfl) (λj hj=>by simp at hj) (λi hi=>by cases hi) (λi c hi=>by cases hi))⟩
  ·have hcell:∀ j,j<r.length->w'.cell? ⟨g,j,none⟩=some (.int .i64 (r.getD j 0)):=λj hj=>by
    rw[Py _ _ _ cur 3 (0,0) hcur]
    have h2:(cur.toList.take r.length)[j]?=(r.map (Value.int .i64))[j]?:=by rw[htake]
    rw[List.getElem?_take_of_lt hj,Array.getElem?_toList]at h2;rw[h2];simp[List.getD,hj]
   refine⟨_,_,θ,he,EF hb hval (N:=λb o=>b=g/\o<r.length) (λb o ⟨hbg,ho⟩=>⟨by omega,by subst hbg;exact⟨_,hcell o ho⟩⟩),.val _ _ (.slice (some ⟨g,0,none⟩) r.length cap' 1 _ (λj=>.int .i64 (r.getD j 0)) hc1 hc2 (λ_=>⟨⟨g,0,none⟩,rfl,rfl,λj hj=>.inr ⟨rfl,by simpa using hj⟩,λj hj=>by rw[Ha];exact hcell j (by omega)⟩) (λh=>by cases h) (λ_ _=>rfl) (λ_ _=>rfl) (λi c hi hc=>?_))⟩
   obtain rfl:c=0:=by omega
   rw[Ys,Sv];exact .int _ _
abbrev Az:=List Int
abbrev Ld:=List (List Int)
def I5:=[30000,37006,9100005]
def EB:=[(30000,30000),(37006,37006),(9100005,9100005)]
def I7:=[30000,37006]
def Tb:=[3,30000,37006,9100005]
def P3:=[2,5,6,25,36007]
def Jt:=[1,5,5003]
def We:=[6,30000,37006,9100005]
def Ib:=[1,3,4]
def eh:=[(30000,30000),(9100000,9100000),(9100001,9100001)]
def Ux:=[3,4,6,7,5700]
def Zf:=[(30000,30000),(37006,37006)]
def J8:=[1,3,4,5]
def C3:=[2,3]
def J9:=[2,13,21]
def Qy:=[8,30000,37006]
def Ng:=[1,7,8,9]
def Zg:=[30000,37006,13000005]
def CR:=[3,4,6,7,5700,30000]
def Ri:=[2,3,4,6,7]
def JB:=[3,5,30000,37006,9100005]
def JC:=[0,4,6,21,22,30,31,32]
def Sw:=[1,3,4,5,6]
def JD:=[4,30000,9100000,9100001]
def Uu:=[(34000,34000)]
def FD:=[2,5,6,7,26,27,28]
def Vs:=[2,7,77,70077]
def Lc:=[37,75]
def Nh:=[1,5003]
def NN:=[5,30000,37006,9100005]
def kA:=[0,2,3,8,9,16,17,18,54,55,56,62,63,64]
def I8:=[0,1]
def Ji:=[1,3]
def kB:=[0,2,3,5,16,17,18,24,25,26,31,32,33]
def Ti:=[1,6,5003]
def L0:=[3,14]
def YP:=[4,7,30000,9100000,9100001]
def FE:=[2,5,6,7,8,9]
def Pz:=[0,1,5]
def Zh:=[1,2,7,5005]
def UI:=[1,2,4,5,6,7,8,10]
def YQ:=[3,9,30000,37006,9100005]
def JE:=[2,3,5300,34000]
def ea:=[3,7,10,11,12,17,18,19,25]
def CS:=[2,5,6,7,8]
def eb:=[0,2,3,16,17,18,24,25,26]
def ed:=[0,2,3,16,17,18,54,55,56]
def Uv:=[2,33,59]
def qk:=[(30000,30000),(37006,37006),(13000005,9200005)]
def ql:=[(30000,30000),(37006,37006),(9300005,9200005)]
def Vt:=[10,70010]
def kC:=[3,7,10,11,12,17,18,19,24,25]
def NO:=[5,6,7,8,34000]
def UJ:=[1,2,7,5005,5008]
def Xa:=[8,13,15]
def NP:=[1,5,7,11,12]
def JF:=[3,10,11,12]
def ee:=[3,10,11,12,17,18,19]
def UK:=[2,35,37,46,51]
def UL:=[4,5,6,7,34000]
def Om:=[1,2]
def FF:=[4,5,34000]
def NQ:=[1,7,8,9,10]
def YR:=[3,31,30000,37006]
def YS:=[1,5,7,11,12,13]
def eg:=[1,2,5,6,7,8,9,10]
def NR:=[1,6,7,8,9]
def kD:=[3,4,11,12,13,18,19,20]
def kE:=[0,5,12,13,14,18,19,20]
def FG:=[2,3,5015]
def Xb:=[2,5,6]
def Xc:=[1,4,7]
def kF:=[6,7,30000,37006,9100005]
def kG:=[1,5,7,11,12,13,14,15]
def UM:=[1,7,8,9,16]
def FH:=[0,21,22]
def Rj:=[7,8]
def YT:=[31,30000,37006]
def Rk:=[1,4]
def JG:=[1,3,5,6]
def YU:=[2,3,4,6,7,8]
def YV:=[1,2,5,6,7,8]
def ei:=[0,2,3,16,17,18]
def UN:=[5,27,28,29]
def NS:=[33,59,103]
def CT:=[1,2,5]
def qm:=[0,4,6,21,22,30,31,32,33]
def qn:=[0,4,6,21,22,30,31,32,40]
def UO:=[2,3,15,16]
def YW:=[0,5,8,9,10]
def qo:=[0,4,6,8,21,22,30,31,32]
def YX:=[1,5,72,5003]
def YY:=[4,5,6,34000]
def ek:=[2,3,7,8,9,10]
def en:=[1,2,6,8,9,10]
def qp:=[4,6,30000,9100000,9100001]
def vD:=[(30000,30000),(37006,37006),(8,9200005)]
def kH:=[1,3,4,5,9,10,11]
def UP:=[1,3,7,17]
def YZ:=[0,16,17,18]
def ep:=[0,2,4,7,8,9]
def LQ:=[1,2,4,5,6]
def LS:=[1,5,7,5003]
def Yt:=[4,34000]
def bf:=[2,5,6,7,8,9,10]
def iG:=[6,8,30000,37006,9100005]
def TJ:=[3,30000,37006]
def Qx:=[0,3]
def bg:=[2,4,5,18,19,20]
def bh:=[1,3,4,5,6,7,8]
def GL:=[0,2,3,4]
def CP:=[0,1,10]
def TK:=[(30000,30000)]
def bi:=[1,3,8,9,10,11]
def TL:=[4,5,7,34000]
def R3:=[4,5]
def R4:=[6,7]
def iH:=[2,3,4,6,7,8,11,66]
def TM:=[3,11,12,13]
def TN:=[0,12,13,14]
def TO:=[(6004,20000)]
def TP:=[6,18,19,25]
def iI:=[2,3,4,6,7,8,9,10]
def TQ:=[0,2,4,7,8]
def TR:=[2,3,7,8,9]
def TS:=[1,3,5,6,7]
def TT:=[1,3,5,6,8]
def TU:=[1,3,4,5,9]
def iJ:=[1,5,7,11,12,13,14]
def TV:=[9,12,15,17]
def LT:=[2,5,6,7]
def LU:=[18,19,20]
def bj:=[14,17,10000305]
def S9:=[1,8]
def LV:=[1,2,3,4]
def iK:=[1,2,4,5,6,7,8,9]
def Ta:=[1,7]
def Wc:=[2,16]
def qa:=[2,5,6,7,9,10,26,27,28,44]
def GM:=[1,4,22]
def GN:=[1,3,17]
def TW:=[5,7,12,13]
def iL:=[30000,37006,9300005]
def iM:=[2,3,4,6,7,8,11]
def LW:=[2,35,37]
def TX:=[2,3,34000]
def bn:=[0,1,3,9,10]
def GO:=[0,3,4]
def iN:=[0,1,5,14,15,16]
def iO:=[2,3,4,6,7,8,9]
def iP:=[1,2,4,5,6,7,8]
def GP:=[1,2,6]
def qc:=[2,5,6,7,9,10,26,27,28]
def qd:=[4,5,30000,9100000,9100001]
def Wd:=[2,5]
def bo:=[0,15,16,17]
def bp:=[0,21,22,23]
def TY:=[0,2,4,5]
def TZ:=[1,2,5005]
def UA:=[2,3,7,8]
def UB:=[0,1,4,5]
def LX:=[6,34000]
def iQ:=[2,3,4,6,7,37]
def iR:=[9,12,15,17,18]
def qe:=[2,5,6,7,26,27,28,29]
def CQ:=[2,33]
def UC:=[5,18,19]
def UD:=[6,18,19]
def LY:=[0,1,2]
def iS:=[1,2,15,16,17]
def LZ:=[0,1,4]
def Yu:=[8,9]
def qf:=[2,5,6,7,9,26,27,28]
def iT:=[0,1,32,33,34]
def qg:=[10,30000,37006,9100005]
def MA:=[2,3,4]
def MB:=[4,5,6]
def MC:=[1,3,5]
def iU:=[1,3,5,6,7,8]
def iV:=[0,1,4,5,6,7]
def bq:=[2,5,6,25]
def qh:=[2,5,6,7,8,9,10,60]
def qi:=[4,30000,37006,9100005]
def iW:=[0,3,4,14,15]
def iX:=[0,4,6,21,22]
def br:=[0,2,7,8]
def iY:=[(34001,34001)]
def MD:=[18,19]
def bs:=[3,7,8,9]
def iZ:=[2,3,4,6,19]
def bt:=[3,4,6,7]
def bu:=[6,7,5700]
def bv:=[1,3,4,6]
def qj:=[2,7,77,60077,70077]
def ME:=[15,18]
def ia:=[1,3,8,9,10]
def ib:=[1,23,24,25]
def UE:=[0,2,3]
def ic:=[1,2,5,6,7]
def UF:=[0,2,7]
def ie:=[3,38,39,40]
def ig:=[0,37,38,39]
def UG:=[6,7,8]
def ii:=[0,2,4,5,6]
def ij:=[(5003,20000)]
def ik:=[2,35,37,46]
def UH:=[2,5,7]
def il:=[0,1,12,13]
def io:=[0,6,21,22]
def ip:=[(14,20000)]
def iq:=[5,6,34000]
set_option maxRecDepth 100000
set_option maxHeartbeats 2000000
def As(x:Int):List AV:=[(.int .i64 x)]
def La(x:Az):List AV:=[(AV.list 1 As 0 x .none)]
structure Ic where
 Bits:Int
 Dst:Int
 From:Az
 Args:Az
 deriving Inhabited,DecidableEq
def Y0(x:Ic):List AV:=[(.int .i64 x.Bits),(.int .i64 x.Dst),(AV.list 1 As 0 x.From .none),(AV.list 1 As 0 x.Args .none)]
def wP(x:List Ic):List AV:=[(AV.list 4 Y0 default x .none)]
def JS(x:Int):List AV:=[(.int .u64 x)]
structure Ce where
 Kind:Int
 Bits:Int
 Lanes:Int
 Dst:Int
 Args:Az
 Imm:Int
 deriving Inhabited,DecidableEq
def Qz(x:Ce):List AV:=[(.int .i64 x.Kind),(.int .i64 x.Bits),(.int .i64 x.Lanes),(.int .i64 x.Dst),(AV.list 1 As 0 x.Args .none),(.int .u64 x.Imm)]
def yf(x:List Ce):List AV:=[(AV.list 6 Qz default x .none)]
structure M0 where
 Kind:Int
 Arg:Int
 To:Az
 deriving Inhabited,DecidableEq
def jQ(x:M0):List AV:=[(.int .i64 x.Kind),(.int .i64 x.Arg),(AV.list 1 As 0 x.To .none)]
structure Am where
 Phis:List Ic
 Ops:List Ce
 End:M0
 deriving Inhabited,DecidableEq
def Jv(x:Am):List AV:=[(AV.list 4 Y0 default x.Phis .none),(AV.list 6 Qz default x.Ops .none),(.int .i64 x.End.Kind),(.int .i64 x.End.Arg),(AV.list 1 As 0 x.End.To .none)]
def oX(x:List Am):List AV:=[(AV.list 5 Jv default x .none)]
structure TFunc where
 Params:Az
 Ret:Int
 Blocks:List Am
 deriving Inhabited,DecidableEq
def eTFunc(x:TFunc):List AV:=[(AV.list 1 As 0 x.Params .none),(.int .i64 x.Ret),(AV.list 5 Jv default x.Blocks .none)]
structure TThree where
 Block:Int
 A:Int
 B:Int
 deriving Inhabited,DecidableEq
def eTThree(x:TThree):List AV:=[(.int .i64 x.Block),(.int .i64 x.A),(.int .i64 x.B)]
abbrev G8:=(Int×Int)
def B1(x:G8):List AV:=[(.int .i64 x.1),(.int .i64 x.2)]
structure L3 where
 block:Int
 at_:Int
 deriving Inhabited,DecidableEq
def OU(x:L3):List AV:=[(.int .i64 x.block),(.int .i64 x.at_)]
structure Bm where
 v:Int
 shape:G8
 place:L3
 deriving Inhabited,DecidableEq
def Ox(x:Bm):List AV:=[(.int .i64 x.v),(.int .i64 x.shape.1),(.int .i64 x.shape.2),(.int .i64 x.place.block),(.int .i64 x.place.at_)]
structure TGraph where
 Succ:Ld
 Pred:Ld
 deriving Inhabited,DecidableEq
def Xj(x:TGraph):List AV:=[(AV.list 1 La [] x.Succ .none),(AV.list 1 La [] x.Pred .none)]
def eB(x:Bool):List AV:=[(.bool x)]
structure Ay where
 shape:G8
 place:L3
 deriving Inhabited,DecidableEq
def Xk(x:Ay):List AV:=[(.int .i64 x.shape.1),(.int .i64 x.shape.2),(.int .i64 x.place.block),(.int .i64 x.place.at_)]
structure Ar where
 V:Int
 Scale:Int
 deriving Inhabited,DecidableEq
def D0(x:Ar):List AV:=[(.int .i64 x.V),(.int .u64 x.Scale)]
structure Au where
 Terms:List Ar
 Off:Int
 deriving Inhabited,DecidableEq
def Ua(x:Au):List AV:=[(AV.list 2 D0 default x.Terms .none),(.int .u64 x.Off)]
structure TDef where
 V:Int
 Block:Int
 At:Int
 Shape:G8
 deriving Inhabited,DecidableEq
def Po(x:TDef):List AV:=[(.int .i64 x.V),(.int .i64 x.Block),(.int .i64 x.At),(.int .i64 x.Shape.1),(.int .i64 x.Shape.2)]
structure C9 where
 V:Int
 Block:Int
 At:Int
 Shape:G8
 deriving Inhabited,DecidableEq
def Ow(x:C9):List AV:=[(.int .i64 x.V),(.int .i64 x.Block),(.int .i64 x.At),(.int .i64 x.Shape.1),(.int .i64 x.Shape.2)]
def so(x:List Bool):List AV:=[(AV.list 1 eB false x .none)]
structure A4 where
 Op:List Ce
 Found:List Bool
 Form:List Au
 deriving Inhabited,DecidableEq
def Ak(x:A4):List AV:=Hi 1024 (λi=>Qz (x.Op.getD i default))++(Hi 1024 (λi=>eB (x.Found.getD i false))++(Hi 1024 (λi=>Ua (x.Form.getD i default))++([]:List AV)))
theorem Bl(x:A4):∀ k,AV.eraseAll k (Ak x)=Ak x:=Vv (U5 λ_ _=>rfl) (Vv (U5 λ_ _=>rfl) (Vv (U5 λ_ _=>rfl) (λ_=>rfl)))
theorem WA(x:A4):GW (Ak x) 0 1024 6 (λi=>Qz (x.Op.getD i default)):=IJ (λ_ _=>rfl)
theorem ER(x:A4)(i:Int)(hi:A5 i 1024)(v:Ce):(Ak x).take (0+i.toNat*6)++Qz v++(Ak x).drop (0+i.toNat*6+(Qz v).length)=Ak ⟨Fx 1024 (default:Ce) x.Op i.toNat v,x.Found,x.Form⟩:=ID (λ_ _=>rfl) (Hd hi) rfl (bV (Hd hi)) PE
theorem KT(x:A4):GW (Ak x) 6144 1024 1 (λi=>eB (x.Found.getD i false)):=SQ (k:=6144) (o:=0) (Ig (n:=1024) (sz:=6) (λ_ _=>rfl)) (IJ (λ_ _=>rfl))
theorem KU(x:A4)(i:Int)(hi:A5 i 1024)(v:Bool):(Ak x).take (6144+i.toNat*1)++eB v++(Ak x).drop (6144+i.toNat*1+(eB v).length)=Ak ⟨x.Op,Fx 1024 false x.Found i.toNat v,x.Form⟩:=IE (k:=6144) (o:=0) (Ig (n:=1024) (sz:=6) (λ_ _=>rfl)) (ID (λ_ _=>rfl) (Hd hi) rfl (bV (Hd hi)) PE)
theorem OH(x:A4):GW (Ak x) 7168 1024 2 (λi=>Ua (x.Form.getD i default)):=SQ (k:=6144) (o:=1024) (Ig (n:=1024) (sz:=6) (λ_ _=>rfl)) (SQ (k:=1024) (o:=0) (Ig (n:=1024) (sz:=1) (λ_ _=>rfl)) (IJ (λ_ _=>rfl)))
theorem OJ(x:A4)(i:Int)(hi:A5 i 1024)(v:Au):(Ak x).take (7168+i.toNat*2)++Ua v++(Ak x).drop (7168+i.toNat*2+(Ua v).length)=Ak ⟨x.Op,x.Found,Fx 1024 (default:Au) x.Form i.toNat v⟩:=IE (k:=6144) (o:=1024) (Ig (n:=1024) (sz:=6) (λ_ _=>rfl)) (IE (k:=1024) (o:=0) (Ig (n:=1024) (sz:=1) (λ_ _=>rfl)) (ID (λ_ _=>rfl) (Hd hi) rfl (bV (Hd hi)) PE))
structure E6 where
 Scale:Az
 Off:Int
 deriving Inhabited,DecidableEq
def Er(x:E6):List AV:=Hi 1024 (λi=>JS (x.Scale.getD i 0))++(([(.int .u64 x.Off)]:List AV)++([]:List AV))
theorem D1(x:E6):∀ k,AV.eraseAll k (Er x)=Er x:=Vv (U5 λ_ _=>rfl) (Vv (λ_=>rfl) (λ_=>rfl))
theorem Qs(x:E6):GW (Er x) 0 1024 1 (λi=>JS (x.Scale.getD i 0)):=IJ (λ_ _=>rfl)
theorem CD(x:E6)(i:Int)(hi:A5 i 1024)(v:Int):(Er x).take (0+i.toNat*1)++JS v++(Er x).drop (0+i.toNat*1+(JS v).length)=Er ⟨Fx 1024 (0:Int) x.Scale i.toNat v,x.Off⟩:=ID (λ_ _=>rfl) (Hd hi) rfl (bV (Hd hi)) PE
theorem bW(x:E6)(v:Int):(Er x).take 1024++JS v++(Er x).drop (1024+(JS v).length)=Er ⟨x.Scale,v⟩:=(IE (k:=1024) (o:=0) (j:=0) (Ig (n:=1024) (sz:=1) (λ_ _=>rfl)) rfl)
theorem mix:Tryz.prog.follows .mixedOrders=true:=by kernel_rfl
abbrev sP:=Spec Tryz.prog
abbrev bZ:=(Nat×Own)
theorem sG {f : FuncId} {fn : Func} {args : List AV} {H H' : List bZ} {res : AV} (hf : Tryz.prog.funcs[f]? = some fn) (k : ∀ Γ : Ix, RgQ Tryz.prog Γ fn.ntmps H → GG Tryz.prog Γ (fK Tryz.prog Γ fn.results.toList H res H') (sy (ZW fn) []) (JV args H)) (hb : fn.body.isSome = true := by kernel_rfl) (hname : (fn.name == "runtime.NumGoroutine") = false := by kernel_rfl) (hlen : Nat.ble args.length fn.ntmps = true := by kernel_rfl) (hpl : RZ H = true := by kernel_rfl) : sP f args H res H' := W5 mix hf k hb hname hlen hpl
def Z1:=λza zb zc zd zf zg zm=>((30000,.row 110 [(AV.list 1 As 0 za .none),(.int .i64 zb),(AV.list 5 Jv default zc .none),(.int .i64 zd),(AV.list 1 As 0 zf .none),(.omap zg),(AV.list 5 Ox default zm (.own 37006))]):Nat×Own)
def Z2:=λza=>(⟨[],[],(.bool za),[],[],[]⟩:Wf)
def Z3:=λza zb zc zd zf zg zm=>([(30000,.row 110 [(AV.list 1 As 0 za .none),(.int .i64 zb),(AV.list 5 Jv default zc .none),(.int .i64 zd),(AV.list 1 As 0 zf .none),.nilm,(AV.list 5 Ox default zg (.own 37006))]),(37006,.tok 5 158 zm)]:List bZ)
def Z4:=λza (zb:Az)=>((za,.arr 1 3 zb.length (λi=>As (zb.getD i 0))):Nat×Own)
def Z5:=([(.slice 0 0 (λ_=>[]) .exact),(.int .u64 (0:Int))]:List AV)
def Z6:=λza=>((.int .i64 za):AV)
def Z7:=λza=>((AV.list 1 As 0 za .none):AV)
def Z8:=λza zb=>([(AV.list 2 D0 default za .none),(.int .u64 zb)]:List AV)
def Z9:=λza=>((AV.list 2 B1 ((0:Int),(0:Int)) za .none):AV)
def Mt:=((.int .i64 (0:Int)):AV)
def xK:=λza zb zc zd zf zg zm zn zp=>([(Z1 za zb zc zd zf zg zm),(37006,.tok 5 158 zn),(zg,.obj (.map false .i64 zp))]:List bZ)
def OM:=λza=>((AV.list 5 Jv default za .none):AV)
def ez:=((30000,.row 93 [(.omap 9100000),(.omap 9100001)]):Nat×Own)
def cN:=λza zb zc zd=>((za,.arr 1 22 zb (Oq 1 As (0:Int) zc (Tag.fam zd))):Nat×Own)
def EE:=λza=>(⟨[],[],(Z6 za),[],[],[]⟩:Wf)
def kq:=λza (zb:List Bool)=>((za,.arr 1 4 zb.length (λi=>eB (zb.getD i false))):Nat×Own)
def DW:=λza zb=>((AV.list 1 As 0 za (.own zb)):AV)
def Pd:=λza=>((.agg (Ua za)):AV)
def ZO:=λza zb zc zd zf zg zm=>([(Z1 za zb zc zd zf 9100005 zg),(37006,.tok 5 158 zm)]:List bZ)
def Wg:=λza=>((.agg (Xk za)):AV)
def ZP:=((AV.list 1 As 0 ([]:Az) .exact):AV)
def PP:=((.slice 0 0 (λ_=>[]) .exact):AV)
def Z23:=(⟨[(4,(AV.list 1 As 0 ([]:Az) (.own 6004)))],[(6004,.tok 1 3 (([]:Az).length))],[]⟩:St)
def mZ:=λza=>((3,(AV.list 5 Ow default za (.own 5003))):Nat×AV)
def zr:=λza (zb:Az) (zc:Az)=>((.slice 1 (bif za then zb.length else zc.length) (λi=>bif za then As (zb.getD i 0) else As (zc.getD i 0)) .none):AV)
def Me:=λza=>((.int .u64 za):AV)
def UQ:=λza=>((AV.list 1 La [] za .none):AV)
def yV:=λza zb zc zd zf zg=>((30000,.row 110 [(Z7 za),(Z6 zb),(OM zc),(Z6 zd),(Z7 zf),(.omap 8),(AV.list 5 Ox default zg (.own 37006))]):Nat×Own)
def yW:=λza zb zc zd zf zg zm zn=>(⟨[(30000,30000),(37006,37006),(9100005,9100005)],[],(.tuple []),(xK za zb zc zd zf 9100005 zg zm zn),[],[]⟩:Wf)
def vn:=λza zb zc zd zf=>((37,.arr 1 114 za (λi_=>AV.eraseAll zb ((Eb zc zd 0 [(.vsl 46 zf)]) i_))):Nat×Own)
def kr:=((AV.list 2 D0 default ([]:List Ar) .exact):AV)
def Ty:=((2,(.ptr 2 0)):Nat×AV)
def xL:=([(AV.list 2 D0 default ([]:List Ar) .none),(.int .u64 (0:Int))]:List AV)
def FL:=((.int .u64 (0:Int)):AV)
def VA:=λza zb=>((AV.list 1 eB false za (.own zb)):AV)
def uh:=λza=>((AV.list 1 As 0 ([za]:Az) .exact):AV)
abbrev PI:=(Nat×AV)
def zt:=λza zb zc zd=>([(za,(AV.list 5 Ow default zb .exact)),(zc,(AV.list 5 Ow default (zd++zb) (.own 5003)))]:List PI)
def sM:=λza=>((3,(AV.list 5 Po default za (.own 5003))):Nat×AV)
def xM:=λza zb=>(⟨[],[],(.tuple [(Me za),(AV.list 2 D0 default zb .none)]),[],[],[]⟩:Wf)
def ui:=λza zb zc=>(⟨[],[],(.tuple [(Z6 za),(Z6 zb),(.bool zc)]),[],[],[]⟩:Wf)
def AO:=((1,(.ptr 1 0)):Nat×AV)
def Uz:=λza=>((.agg (Qz za)):AV)
def Z43:=λza (zb:List Bm) (zc:List Bm)=>((.slice 5 (bif za then zb.length else zc.length) (λi=>bif za then Ox (zb.getD i default) else Ox (zc.getD i default)) (.own 37006)):AV)
def R5:=λza zb=>((za,.tok 1 4 zb):Nat×Own)
def NY:=λza=>((.int .i64 (za:Int)):AV)
def sO:=λza zb zc=>([(AV.list 2 D0 default za (.own zb)),(Me zc)]:List AV)
def iz:=λza=>(⟨[],[],(Pd za),[],[],[]⟩:Wf)
def FM:=λza=>((.agg (eTFunc za)):AV)
def yX:=((AV.list 2 B1 ((0:Int),(0:Int)) ([]:List G8) .exact):AV)
def xN:=λza zb zc=>(⟨[],[(20000,za)],(DW zb 20000),[(20000,.tok 1 3 zc)],[],[]⟩:Wf)
def Z51:=λza zb zc zd zf zg=>(⟨[(2,(.clo za [] [])),(3,(.ptr 3 0)),(4,(.ptr 4 0)),(6,(.ptr 6 0)),(7,(.ptr 7 0))],[(3,.row 57 (Z8 zb zc)),(4,.row 57 (Z8 zd zf)),(6,.row 57 Z5),(7,.row 57 [(AV.list 2 D0 default ([]:List Ar) (.own 5700)),(Me zg)]),(5700,.tok 2 134 (([]:List Ar).length))],[]⟩:St)
def uj:=λza zb=>((.agg (Xk (mget (default:Ay) za zb))):AV)
def vo:=λza zb=>((AV.list 2 B1 ((0:Int),(0:Int)) za (.own zb)):AV)
def i0:=λza=>((30000,.row 32 [(Me za)]):Nat×Own)
def qu:=λza zb=>([(.agg (Xj za)),(Z6 zb)]:List AV)
def xO:=((AV.list 1 La [] ([]:Ld) .exact):AV)
def xP:=λza zb=>(⟨[],[],(.tuple [(Me za),(.bool zb)]),[],[],[]⟩:Wf)
def zu:=λza=>((AV.list 2 D0 default ([(⟨za,(1:Int)⟩:Ar)]:List Ar) .exact):AV)
def ku:=λza=>(⟨[],[],(Z9 za),[],[],[]⟩:Wf)
def Z60:=λza zb=>([(72,(AV.list 2 D0 default za .exact)),(73,(AV.list 2 D0 default (zb++za) (.own 5700)))]:List PI)
def Vu:=λza zb=>((7,(.vsl za zb)):Nat×AV)
def Ni:=λza zb zc=>((za,.tok 5 zb zc):Nat×Own)
def xQ:=λza zb zc zd zf zg=>((1,.row 46 [(Z6 za),(Z6 zb),(Z6 zc),(Z6 zd),(Z7 zf),(Me zg)]):Nat×Own)
def qv:=λza zb=>((AV.list 1 La [] za (.own zb)):AV)
def JH:=((.ptr 30000 0):AV)
def Oh:=λza zb=>((2,.row za zb):Nat×Own)
def Z67:=λza zb zc zd=>([(za,(AV.list 5 Po default zb .exact)),(zc,(AV.list 5 Po default (zd++zb) (.own 5003)))]:List PI)
def ma:=λza zb=>((za,.obj (.map true .i64 zb)):Nat×Own)
def kv:=((.int .i64 (5:Int)):AV)
def Z70:=λza (zb:List Am) (zc:List Am)=>((.slice 5 (bif za then zb.length else zc.length) (λi=>bif za then Jv (zb.getD i default) else Jv (zc.getD i default)) .none):AV)
def PQ:=((6,(.ptr 6 0)):Nat×AV)
def PR:=λza=>((.agg (B1 za)):AV)
def nV:=λza zb=>((7,.row 82 [za,(.vsl 77 zb)]):Nat×Own)
def zw:=λza zb zc zd zf=>([(za,(uh zb)),(zc,(AV.list 1 As 0 (zd++([zb]:Az)) (.own zf)))]:List PI)
def yY:=λ(za:Az)=>((6,.arr 1 166 64 (λi=>As (za.getD i 0))):Nat×Own)
def Z76:=λza zb zc zd zf zg zm zn zp=>(⟨[(30000,30000),(37006,37006),(9100005,9100005)],[],(.bool za),(xK zb zc zd zf zg 9100005 zm zn zp),[],[]⟩:Wf)
def Z77:=λza (zb:Az) (zc:Az)=>((.slice 1 (bif (za==true) then zb.length else zc.length) (λi=>bif (za==true) then As (zb.getD i 0) else As (zc.getD i 0)) .none):AV)
def Z78:=λza zb zc zd zf zg zm zn zp=>(⟨[(30000,30000),(37006,37006),(9100005,9100005)],[],(.agg (OU za)),(xK zb zc zd zf zg 9100005 zm zn zp),[],[]⟩:Wf)
def ZQ:=((4,(.ptr 4 0)):Nat×AV)
def mb:=λza=>((2,.row 82 [za,za]):Nat×Own)
def zx:=λza zb zc zd zf zg zm zn=>(⟨[(30000,30000),(37006,37006)],[],(.bool za),(Z3 zb zc zd zf zg zm zn),[],[]⟩:Wf)
def Z82:=(⟨[(2,(AV.list 2 B1 ((0:Int),(0:Int)) ([]:List G8) (.own 6002)))],[(6002,.tok 2 73 (([]:List G8).length))],[]⟩:St)
def nW:=((6,(.vpt 6 64 0 0)):Nat×AV)
def Z84:=λ(za:List G8)=>([(30,.arr 2 73 za.length (λi=>B1 (za.getD i ((0:Int),(0:Int)))))]:List bZ)
def cO:=((7,(.ptr 7 0)):Nat×AV)
def nX:=((5,(.vpt 5 64 0 0)):Nat×AV)
def uk:=λza zb zc=>((.int .i64 (bif za then zb else zc)):AV)
def zy:=((AV.list 5 Ox default ([]:List Bm) .exact):AV)
def z7:=((AV.list 1 La [] ([]:Ld) .none):AV)
def cP:=((5,(.ptr 5 0)):Nat×AV)
def qw:=((.int .i64 (2:Int)):AV)
def mc:=λza=>((6,.arr 1 166 64 za):Nat×Own)
def yZ:=λza zb zc zd=>((37,.arr 1 114 za (Eb zb zc 0 [(.vsl 46 zd)])):Nat×Own)
def qx:=((.int .i64 (1:Int)):AV)
def fT:=((3,(.ptr 3 0)):Nat×AV)
def nY:=λza=>((5,.arr 1 165 64 za):Nat×Own)
def z8:=λza zb=>(⟨[],[],(.tuple [(Z6 za),(Z6 zb)]),[],[],[]⟩:Wf)
def VB:=λza zb=>([(za,.tok 1 3 zb)]:List bZ)
def Z99:=λza=>((AV.list 5 Ox default ([]:List Bm) (.own za)):AV)
def kp:=λza=>(⟨[],[],(Me za),[],[],[]⟩:Wf)
def sK:=λza=>((AV.list 1 As 0 ([]:Az) (.own za)):AV)
def vm:=λza zb=>(⟨[(30000,30000),(37006,37006)],[],(Z6 za),zb,[],[]⟩:Wf)
def nU:=λza zb=>(⟨[],[],(.tuple (qu za zb)),[],[],[]⟩:Wf)
def sL:=λza=>((za,.tok 5 158 (([]:List Bm).length)):Nat×Own)

def Q4(aC:Int):=((decide (aC<0))==false)
def Q1:List AV:=[Mt,Mt,Mt,Mt,ZP,FL]
def Q5:=(⟨[PQ],[(6,.row 46 Q1)],[]⟩:St)
def Q3:AV:=(.agg [Mt,Mt,Mt,Mt,PP,FL])
def Q2:=(⟨[PQ],[(6,.row 46 [Mt,Mt,Mt,Mt,(AV.list 1 As 0 ([]:Az) .none),FL])],[]⟩:St)
def Eg(a0:TFunc)(aC:Int)(aN:Int):Option Ce:=
 (bif (bif (decide (aC<0)) then true else(decide ((a0.Blocks.length:Int)<=aC))) then(some (⟨(0:Int),(0:Int),(0:Int),(0:Int),([]:Az),(0:Int)⟩:Ce)) else(A7 (A5 aC a0.Blocks.length) (bif (bif (decide (aN<0)) then true else(decide ((((a0.Blocks.getD aC.toNat default).Ops).length:Int)<=aN))) then(some (⟨(0:Int),(0:Int),(0:Int),(0:Int),([]:Az),(0:Int)⟩:Ce)) else(A7 (A5 aN ((a0.Blocks.getD aC.toNat default).Ops).length) (some (((a0.Blocks.getD aC.toNat default).Ops).getD aN.toNat default))))))
variable{v0:TFunc}{v1:Int}{v2:Int}{v3:Ce}
theorem Pn(h:Eg v0 v1 v2=some v3):sP 19 [(FM v0),(Z6 v1),(Z6 v2)] [] (Uz v3) []:=
 sG Tryz.func19 λΓ q=>Ac q [1,2,3,6] [3,6] (tU q [1,2,3,6,16] [3,6] (dC (Q4 v1) (c1 (Ja (decide (v1<0))))) (gC h (λh=>gR q [6] [6] [(17,(.agg Q1))] [] (c1 (show(AVle Q3 (.agg Q1)) from(AVle.agg (.cons (AVle.refl _) (.cons (AVle.refl _) (.cons (AVle.refl _) (.cons (AVle.refl _) (.cons Cs (.cons (AVle.refl _) .nil))))))))) (P5 Q5 (tS h (gK (e:=.ret) (H6 [] (show Le Γ _ Q2 from Le.trans (Bn (st':=Q5) [6] [6] q) (Fg (.cons (AVle.refl _) .nil) (.row (.cons (AVle.refl _) (.cons (AVle.refl _) (.cons (AVle.refl _) (.cons (AVle.refl _) (.cons AVle.untag (.cons (AVle.refl _) .nil)))))) .nil)))))))) λh=>tV q [2,6,7] [6] h λh=>tU q [2,6,7,31] [6] (Y1 ((decide (v2<0))==false) (c1 (Ja (decide (v2<0))))) (gC h (λh=>gR q [6] [6] [(32,(.agg Q1))] [] (c1 (show(AVle Q3 (.agg Q1)) from(AVle.agg (.cons (AVle.refl _) (.cons (AVle.refl _) (.cons (AVle.refl _) (.cons (AVle.refl _) (.cons Cs (.cons (AVle.refl _) .nil))))))))) (P5 Q5 (tS h (gK (e:=.ret) (H6 [] (show Le Γ _ Q2 from Le.trans (Bn (st':=Q5) [6] [6] q) (Fg (.cons (AVle.refl _) .nil) (.row (.cons (AVle.refl _) (.cons (AVle.refl _) (.cons (AVle.refl _) (.cons (AVle.refl _) (.cons AVle.untag (.cons (AVle.refl _) .nil)))))) .nil)))))))) λh=>tV q [6] [6] h λh=>tS h (B2 []))))
def Q6(a1:Ce):List bZ:=[(xQ a1.Kind a1.Bits a1.Lanes a1.Dst a1.Args a1.Imm)]
def Fv(a1:Ce):Option Int:=
 (Option.bind (α:=Int) (Option.bind (α:=Bool) (bif (a1.Kind==16) then(some (a1.Kind==16)) else(some (a1.Kind==17))) (λx3=>(bif x3 then(some (0:Int)) else(Option.bind (α:=Bool) (bif (a1.Kind==18) then(some (a1.Kind==18)) else(some (a1.Kind==19))) (λx6=>(bif x6 then(some (1:Int)) else(some (a1.Args.length:Int)))))))) (λx8=>(bif (decide ((a1.Args.length:Int)<=x8)) then(some (0:Int)) else(A7 (A5 x8 a1.Args.length) (some (a1.Args.getD x8.toNat 0))))))
theorem Oc(h:Fv v3=some v1):sP 20 [(Uz v3)] [] (.int .i64 v1) []:=
 sG Tryz.func20 λΓ q=>tW q [1] [1] Ji [1] (tB h λx8 y8 h=>gJ y8 (λi1=>aG Γ .normal (⟨[AO,(3,(Z6 i1))],(Q6 v3),[]⟩:St)) (λy h=>Ac q [1,3,8] [1] (tB h λx3 y3 h=>gJ y3 (λb2=>aG Γ .normal (⟨[AO,(3,(NY v3.Args.length)),(8,(Z6 v3.Kind)),(9,(.bool b2))],(Q6 v3),[]⟩:St)) (λy h=>Ac q [1,3,8,9] [1] (gC h (λh=>tS h (gK (Bk H7))) λh=>Ac q [1,3,8,9] [1] (tS h (gK (Bk H7))))) (gA (gC h (λh=>Ac q Ji [1] (tS h (gK (Bk H7)))) λh=>tB h λx6 y6 h=>gJ y6 (λb5=>aG Γ .normal (⟨[AO,(3,(NY v3.Args.length)),(12,(.bool b5))],(Q6 v3),[]⟩:St)) (λy h=>Ac q [1,3,8,12] [1] (gC h (λh=>tS h (gK (Bk (Bn [1,3,12] [1] q)))) λh=>Ac q [1,3,12] [1] (tS h (gK (Bk H7))))) (gA (gC h (λh=>Ac q Ji [1] (tS h (gK (Bk H7)))) λh=>tS h (gK (Bk (Bn Ji [1] q))))))))) (gA (Ac q [1,3,19] [1] (gC h (λh=>Ac q [2] [] (tS h (B2 []))) λh=>tV q [2] [] h λh=>tS h (B2 [])))))
abbrev w5:=(LR (Int×Int) Int)
def Qd(a0:TFunc):G8->Option w5:=
 λ((i1,i2):G8)=>(bif (decide (i2<(a0.Blocks.length:Int))) then(A7 (A5 i2 a0.Blocks.length) (some (.next ((w64 (i1+(w64 ((((a0.Blocks.getD i2.toNat default).Phis).length:Int)+(((a0.Blocks.getD i2.toNat default).Ops).length:Int))))),(w64 (i2+1)))))) else(some (.done i1)))
def Va(a0:TFunc):Option Int:=
 ((Ab (Qd a0) ((a0.Blocks.length:Int),(0:Int))).bind (λx5=>(some x5)))
theorem bF(h:Va v0=some v1):sP 102 [(FM v0)] [] (.int .i64 v1) []:=
 sG Tryz.func102 λΓ q=>tW q [1] [1] Ji [1] (Ac q JF [] (tL q h JF [] (λu (i1,i2)=>(Do u [(3,(Z6 i1)),(12,(Z6 i2))] [])) (λu i3=>aG Γ (.exit 0) (⟨[(3,(Z6 i3))],[],[]⟩:St)) (λ⟨i1,i2⟩ y h=>Ac q [3,10,11,12,13] [] (gC h (λh=>tV q [3,5,10,11,12] [5] h λh=>tW q JF [] JF [] (tN h)) λh=>tS h (gO (Bk (Bn [3] [] q))))) λx5 h=>gA (Ac q [2] [] (tS h (B2 [])))))
def Ko(aI:Az):Int->Option (LR Int (Unit ⊕ Bool)):=
 λ(i1:Int)=>(bif (decide (i1<(aI.length:Int))) then(A7 (A5 i1 aI.length) (bif (bif (decide ((aI.getD i1.toNat 0)<0)) then true else(decide ((2147483647:Int)<(aI.getD i1.toNat 0)))) then(some (.done (.inr false))) else(some (.next (w64 (i1+1)))))) else(some (.done (.inl ()))))
def GS(Γ:Ix)(aI:Az)(r:Bool):Exit->St->Prop:=fK Tryz.prog Γ Tryz.f103.results.toList [] (.bool r) []
def Eh(aI:Az):Option Bool:=
 ((Ab (Ko aI) (0:Int)).bind (λx3=>(match x3 with|(.inl _)=>(some true)|(.inr r5)=>(some r5))))
variable{v4:Az}{v5:Bool}
theorem Hx(h:Eh v4=some v5):sP 103 [(Z7 v4)] [] (.bool v5) []:=
 sG Tryz.func103 λΓ q=>tW q [0] [] [5,6,7] [] (tL q h [5,6,7] [] (λu i1=>(Do u [(7,(Z6 i1))] [])) (λu x_=>match x_ with|(.inl _)=>aG Γ (.exit 0) (⟨[],[],[]⟩:St)|(.inr r_)=>aR (GS Γ v4 r_)) (λi1 y h=>Ac q [5,6,7,8] [] (gC h (λh=>tV q [4,5,6,7] [] h λh=>tU q [5,6,7,16] [] (c2 (gI ((decide ((v4.getD i1.toNat 0)<0))==false)) (Ja (decide ((v4.getD i1.toNat 0)<0)))) (gC h (λh=>Ac q [2] [] (tS h (gO (M1 (H6 [] (Le.refl _ _)))))) λh=>Ac q [5,6,7] [] (tN h))) λh=>tS h (gO (Bk (Bn [] [] q))))) λx3 h=>(match x3,h with | .inl _,h=>gA (Ac q [2] [] (tS h (B2 []))) | .inr r5,h=>P4 (λst' hk=>tS h (gK hk))))
def Iy(aI:Az):Option Bool:=
 ((bif ((decide ((aI.length:Int)<=64))==true) then Eh aI else some false).bind λx1=>(some (bif (decide ((aI.length:Int)<=64)) then x1 else false)))
theorem Od(h:Iy v4=some v5):sP 145 [(Z7 v4)] [] (.bool v5) []:=
 sG Tryz.func145 λΓ q=>Ac q [0] [] (tB h λx1 y1 h=>tT q [2] [] [(Z2 x1)] (c3 (gI ((decide ((v4.length:Int)<=64))==true)) (λ(hg:((decide ((v4.length:Int)<=64))==true)=true)=>(Hx (Bh hg y1))) (M3 (decide ((v4.length:Int)<=64)))) (tS h (B2 [])))
def Qf(aa2:Ic):Option Bool:=
 ((Eh ([aa2.Bits,aa2.Dst]:Az)).bind λx1=>((bif (x1==true) then Iy aa2.From else some false).bind λx2=>((bif ((bif x1 then x2 else false)==true) then Iy aa2.Args else some false).bind λx3=>(some (bif (bif x1 then x2 else false) then x3 else false)))))
variable{v6:Ic}
theorem OC(h:Qf v6=some v5):sP 129 [(.agg (Y0 v6))] [] (.bool v5) []:=
 sG Tryz.func129 λΓ q=>Ac q [1] [1] (tB h λx1 y1 h=>tB h λx2 y2 h=>tB h λx3 y3 h=>gR q [2] [] [(7,(AV.list 1 As 0 ([v6.Bits,v6.Dst]:Az) .exact))] [(Z2 x1),(Z2 x2),(Z2 x3)] (e7 (Bu 1 As (0:Int) ([v6.Bits,v6.Dst]:Az)) (Hx y1) (M2 (x1==true) (e7 (λ(hg:(x1==true)=true)=>(Od (Bh hg y2))) (M3 x1) (M2 ((bif x1 then x2 else false)==true) (c2 (λ(hg:((bif x1 then x2 else false)==true)=true)=>(Od (Bh hg y3))) (M3 (bif x1 then x2 else false))))))) (tS h (B2 [])))
def H1(aI:List Ic):Int->Option (LR Int (Unit ⊕ Bool)):=
 λ(i1:Int)=>(bif (decide (i1<(aI.length:Int))) then(A7 (A5 i1 aI.length) ((Qf (aI.getD i1.toNat default)).bind λx3=>(bif (!x3) then(some (.done (.inr false))) else(some (.next (w64 (i1+1))))))) else(some (.done (.inl ()))))
def Zj(Γ:Ix)(aI:List Ic)(r:Bool):Exit->St->Prop:=fK Tryz.prog Γ Tryz.f128.results.toList [] (.bool r) []
def Jy(aI:List Ic):Option Bool:=
 ((Ab (H1 aI) (0:Int)).bind (λx4=>(match x4 with|(.inl _)=>(some true)|(.inr r6)=>(some r6))))
variable{v7:List Ic}
theorem X4(h:Jy v7=some v5):sP 128 [(AV.list 4 Y0 default v7 .none),(.clo 129 [] [])] [] (.bool v5) []:=
 sG Tryz.func128 λΓ q=>tW q I8 [] Ng [] (tL q h Ng [] (λu i1=>(Do u [(9,(Z6 i1))] [])) (λu x_=>match x_ with|(.inl _)=>aG Γ (.exit 0) (⟨[],[],[]⟩:St)|(.inr r_)=>aR (Zj Γ v7 r_)) (λi1 y h=>Ac q NQ [] (gC h (λh=>tV q NR [6] h λh=>tB h λx3 y3 h=>tT q UM [] [(Z2 x3)] (c1 (OC y3)) (gC h (λh=>Ac q [4] [] (tS h (gO (M1 (H6 [] (Le.refl _ _)))))) λh=>Ac q Ng [] (tN h))) λh=>tS h (gO (Bk (Bn [] [] q))))) λx4 h=>(match x4,h with | .inl _,h=>gA (Ac q [4] [] (tS h (B2 []))) | .inr r6,h=>P4 (λst' hk=>tS h (gK hk))))
def Sb(a1:Ce):Option Bool:=
 ((Eh ([a1.Kind,a1.Bits,a1.Lanes,a1.Dst]:Az)).bind λx1=>((bif (x1==true) then Iy a1.Args else some false).bind λx2=>(some (bif x1 then x2 else false))))
theorem RM(h:Sb v3=some v5):sP 131 [(Uz v3)] [] (.bool v5) []:=
 sG Tryz.func131 λΓ q=>Ac q [1] [1] (tB h λx1 y1 h=>tB h λx2 y2 h=>gR q [2] [] [(11,(AV.list 1 As 0 ([v3.Kind,v3.Bits,v3.Lanes,v3.Dst]:Az) .exact))] [(Z2 x1),(Z2 x2)] (e7 (Bu 1 As (0:Int) ([v3.Kind,v3.Bits,v3.Lanes,v3.Dst]:Az)) (Hx y1) (M2 (x1==true) (c2 (λ(hg:(x1==true)=true)=>(Od (Bh hg y2))) (M3 x1)))) (tS h (B2 [])))
def Im(aI:List Ce):Int->Option (LR Int (Unit ⊕ Bool)):=
 λ(i1:Int)=>(bif (decide (i1<(aI.length:Int))) then(A7 (A5 i1 aI.length) ((Sb (aI.getD i1.toNat default)).bind λx3=>(bif (!x3) then(some (.done (.inr false))) else(some (.next (w64 (i1+1))))))) else(some (.done (.inl ()))))
def AF(Γ:Ix)(aI:List Ce)(r:Bool):Exit->St->Prop:=fK Tryz.prog Γ Tryz.f130.results.toList [] (.bool r) []
def Kn(aI:List Ce):Option Bool:=
 ((Ab (Im aI) (0:Int)).bind (λx4=>(match x4 with|(.inl _)=>(some true)|(.inr r6)=>(some r6))))
variable{v8:List Ce}
theorem Zs(h:Kn v8=some v5):sP 130 [(AV.list 6 Qz default v8 .none),(.clo 131 [] [])] [] (.bool v5) []:=
 sG Tryz.func130 λΓ q=>tW q I8 [] Ng [] (tL q h Ng [] (λu i1=>(Do u [(9,(Z6 i1))] [])) (λu x_=>match x_ with|(.inl _)=>aG Γ (.exit 0) (⟨[],[],[]⟩:St)|(.inr r_)=>aR (AF Γ v8 r_)) (λi1 y h=>Ac q NQ [] (gC h (λh=>tV q NR [6] h λh=>tB h λx3 y3 h=>tT q UM [] [(Z2 x3)] (c1 (RM y3)) (gC h (λh=>Ac q [4] [] (tS h (gO (M1 (H6 [] (Le.refl _ _)))))) λh=>Ac q Ng [] (tN h))) λh=>tS h (gO (Bk (Bn [] [] q))))) λx4 h=>(match x4,h with | .inl _,h=>gA (Ac q [4] [] (tS h (B2 []))) | .inr r6,h=>P4 (λst' hk=>tS h (gK hk))))
def Qe(aM:M0):Option Bool:=
 ((Eh ([aM.Kind,aM.Arg]:Az)).bind λx1=>((bif (x1==true) then Iy aM.To else some false).bind λx2=>(some (bif x1 then x2 else false))))
variable{v9:M0}
theorem OB(h:Qe v9=some v5):sP 132 [(.agg (jQ v9))] [] (.bool v5) []:=
 sG Tryz.func132 λΓ q=>Ac q [1] [1] (tB h λx1 y1 h=>tB h λx2 y2 h=>gR q [2] [] [(7,(AV.list 1 As 0 ([v9.Kind,v9.Arg]:Az) .exact))] [(Z2 x1),(Z2 x2)] (e7 (Bu 1 As (0:Int) ([v9.Kind,v9.Arg]:Az)) (Hx y1) (M2 (x1==true) (c2 (λ(hg:(x1==true)=true)=>(Od (Bh hg y2))) (M3 x1)))) (tS h (B2 [])))
def N8(aO:Am):Option Bool:=
 ((Jy aO.Phis).bind λx1=>((bif (x1==true) then Kn aO.Ops else some false).bind λx2=>((bif ((bif x1 then x2 else false)==true) then Qe (⟨aO.End.Kind,aO.End.Arg,aO.End.To⟩:M0) else some false).bind λx3=>(some (bif (bif x1 then x2 else false) then x3 else false)))))
variable{v10:Am}
theorem HX(h:N8 v10=some v5):sP 105 [(.agg (Jv v10))] [] (.bool v5) []:=
 sG Tryz.func105 λΓ q=>Ac q [1] [1] (tB h λx1 y1 h=>tB h λx2 y2 h=>tB h λx3 y3 h=>tT q [2] [] [(Z2 x1),(Z2 x2),(Z2 x3)] (ci (X4 y1) (M2 (x1==true) (e7 (λ(hg:(x1==true)=true)=>(Zs (Bh hg y2))) (M3 x1) (M2 ((bif x1 then x2 else false)==true) (c2 (λ(hg:((bif x1 then x2 else false)==true)=true)=>(OB (Bh hg y3))) (M3 (bif x1 then x2 else false))))))) (tS h (B2 [])))
def Gq(aI:List Am):Int->Option (LR Int (Unit ⊕ Bool)):=
 λ(i1:Int)=>(bif (decide (i1<(aI.length:Int))) then(A7 (A5 i1 aI.length) ((N8 (aI.getD i1.toNat default)).bind λx3=>(bif (!x3) then(some (.done (.inr false))) else(some (.next (w64 (i1+1))))))) else(some (.done (.inl ()))))
def Wj(Γ:Ix)(aI:List Am)(r:Bool):Exit->St->Prop:=fK Tryz.prog Γ Tryz.f104.results.toList [] (.bool r) []
def Il(aI:List Am):Option Bool:=
 ((Ab (Gq aI) (0:Int)).bind (λx4=>(match x4 with|(.inl _)=>(some true)|(.inr r6)=>(some r6))))
variable{v11:List Am}
theorem V8(h:Il v11=some v5):sP 104 [(OM v11),(.clo 105 [] [])] [] (.bool v5) []:=
 sG Tryz.func104 λΓ q=>tW q I8 [] Ng [] (tL q h Ng [] (λu i1=>(Do u [(9,(Z6 i1))] [])) (λu x_=>match x_ with|(.inl _)=>aG Γ (.exit 0) (⟨[],[],[]⟩:St)|(.inr r_)=>aR (Wj Γ v11 r_)) (λi1 y h=>Ac q NQ [] (gC h (λh=>tV q NR [6] h λh=>tB h λx3 y3 h=>tT q UM [] [(Z2 x3)] (c1 (HX y3)) (gC h (λh=>Ac q [4] [] (tS h (gO (M1 (H6 [] (Le.refl _ _)))))) λh=>Ac q Ng [] (tN h))) λh=>tS h (gO (Bk (Bn [] [] q))))) λx4 h=>(match x4,h with | .inl _,h=>gA (Ac q [4] [] (tS h (B2 []))) | .inr r6,h=>P4 (λst' hk=>tS h (gK hk))))
def Q8(a0:TFunc):=(decide ((a0.Blocks.length:Int)<1))
def Q7(a0:TFunc):=(decide ((16:Int)<(a0.Params.length:Int)))
def Xu(a0:TFunc):Option Bool:=
 (bif (bif (decide ((a0.Blocks.length:Int)<1)) then true else(decide ((64:Int)<(a0.Blocks.length:Int)))) then(some false) else((bif ((decide ((16:Int)<(a0.Params.length:Int)))==false) then Va a0 else some (0:Int)).bind λx1=>(bif (bif (decide ((16:Int)<(a0.Params.length:Int))) then true else(decide ((512:Int)<x1))) then(some false) else((Eh a0.Params).bind λx2=>((bif (x2==true) then Eh ([a0.Ret]:Az) else some false).bind λx3=>((bif ((bif x2 then x3 else false)==true) then Il a0.Blocks else some false).bind λx4=>(some (bif (bif x2 then x3 else false) then x4 else false))))))))
theorem dh(h:Xu v0=some v5):sP 82 [(FM v0)] [] (.bool v5) []:=
 sG Tryz.func82 λΓ q=>Ac q [1] [1] (tU q [1,12] [1] (Y1 ((Q8 v0)==false) (c1 (Ja (Q8 v0)))) (gC h (λh=>Ac q [2] [] (tS h (B2 []))) λh=>tB h λx1 y1 h=>tT q [1,21] [1] [(EE x1)] (c4 (gI ((Q7 v0)==false)) (λ(hg:((Q7 v0)==false)=true)=>(bF (Bh hg y1))) (gI ((Q7 v0)==false)) (Ja (Q7 v0))) (gC h (λh=>Ac q [2] [] (tS h (B2 []))) λh=>tB h λx2 y2 h=>tB h λx3 y3 h=>tB h λx4 y4 h=>gR q [2] [] [(28,(uh v0.Ret))] [(Z2 x2),(Z2 x3),(Z2 x4)] (ci (Hx y2) (M2 (x2==true) (d4_ (show((x2==true)=true->(AVle (.slice 1 1 (λi=>([[(Z6 v0.Ret)]]:List (List AV)).getD i []) .exact) (uh v0.Ret))) from(λhg=>@(Bu 1 As (0:Int) ([v0.Ret]:Az)))) (gI (x2==true)) (λ(hg:(x2==true)=true)=>(Hx (Bh hg y3))) (M3 x2) (M2 ((bif x2 then x3 else false)==true) (c2 (λ(hg:((bif x2 then x3 else false)==true)=true)=>(V8 (Bh hg y4))) (M3 (bif x2 then x3 else false))))))) (tS h (B2 [])))))
def Ns(aaG:Bool)(aM:Int):Option Int:=
 (bif aaG then(some (0:Int)) else(some aM))
theorem Y5(h:Ns v5 v1=some v2):sP 81 [(.bool v5),(Z6 v1)] [] (.int .i64 v2) []:=
 sG Tryz.func81 λΓ q=>tW q I8 [] [1,5] [] (gC h (λh=>Ac q [4] [] (tS h (B2 []))) λh=>Ac q [4] [] (tS h (B2 [])))
abbrev mR:=(Int×TFunc×Int×Az×List Bm)
def Kl(a3:TFunc)(a7:Int)(aH:Az)(a9:List Bm):Option mR:=
 ((Xu a3).bind λx1=>((Ns x1 (4:Int)).bind λx2=>(some (x2,a3,a7,aH,a9))))
variable{v12:List Bm}{v13:mR}
theorem Zq(h:Kl v0 v1 v4 v12=some v13):sP 71 [JH] (Z3 v0.Params v0.Ret v0.Blocks v1 v4 v12 v12.length) (Z6 v13.1) (Z3 v13.2.1.Params v13.2.1.Ret v13.2.1.Blocks v13.2.2.1 v13.2.2.2.1 v13.2.2.2.2 v13.2.2.2.2.length):=
 sG Tryz.func71 λΓ q=>Ac q [0] I7 (tB h λx1 y1 h=>tB h λx2 y2 h=>tT q [2] I7 [(Z2 x1),(EE x2)] (c2 (dh y1) (Y5 y2)) (tS h (B2 Zf)))
def Ml(aL:Int):Option Bool:=
 (some (bif (decide ((1:Int)<=aL)) then(decide (aL<=64)) else false))
theorem Wv(h:Ml v1=some v5):sP 106 [(Z6 v1)] [] (.bool v5) []:=
 sG Tryz.func106 λΓ q=>Ac q [0] [] (tU q [2] [] (c2 (gI ((decide ((1:Int)<=v1))==true)) (M3 (decide ((1:Int)<=v1)))) (tS h (B2 [])))
def Kd(aN:Int)(aL:Int):Option Bool:=
 (some (bif (decide ((0:Int)<=aN)) then(decide (aN<aL)) else false))
theorem Rs(h:Kd v1 v2=some v5):sP 111 [(Z6 v1),(Z6 v2)] [] (.bool v5) []:=
 sG Tryz.func111 λΓ q=>Ac q I8 [] (tU q [4] [] (M2 ((decide ((0:Int)<=v1))==true) (c1 (M3 (decide ((0:Int)<=v1))))) (tS h (B2 [])))
def Fz(aM:M0)(aL:Int):Int->Option (LR Int (Unit ⊕ Bool)):=
 λ(i7:Int)=>(bif (decide (i7<(aM.To.length:Int))) then(A7 (A5 i7 aM.To.length) ((bif (((aM.To.getD i7.toNat 0)==0)==false) then Kd (aM.To.getD i7.toNat 0) aL else some false).bind λx9=>(bif (bif ((aM.To.getD i7.toNat 0)==0) then true else(!x9)) then(some (.done (.inr false))) else(some (.next (w64 (i7+1))))))) else(some (.done (.inl ()))))
def Yv(Γ:Ix)(aM:M0)(aL:Int)(r:Bool):Exit->St->Prop:=fK Tryz.prog Γ Tryz.f107.results.toList [] (.bool r) []
def Q9(aM:M0)(i7:Int):=((aM.To.getD i7.toNat 0)==0)
def O8(aM:M0)(aL:Int):Option Bool:=
 (Option.bind (α:=(Int ⊕ Bool)) (Option.bind (α:=Bool) (bif (aM.Kind==0) then(some (aM.Kind==0)) else(some (aM.Kind==3))) (λx3=>(bif x3 then(some (.inl (0:Int))) else(bif (aM.Kind==1) then(some (.inl (1:Int))) else(bif (aM.Kind==2) then(some (.inl (2:Int))) else(some (.inr false))))))) (λx5=>(match x5 with|(.inl i1)=>(bif ((aM.To.length:Int)!=i1) then(some false) else((Ab (Fz aM aL) (0:Int)).bind (λx10=>(match x10 with|(.inl _)=>(some true)|(.inr r12)=>(some r12)))))|(.inr r13)=>(some r13))))
theorem KO(h:O8 v9 v1=some v5):sP 107 [(.agg (jQ v9)),(Z6 v1)] [] (.bool v5) []:=
 sG Tryz.func107 λΓ q=>tW q Om [2] CT [2] (tB h λx5 y5 h=>gJ y5 (λx_=>match x_ with|(.inl i1)=>aG Γ .normal (⟨[(1,(Z6 v1)),Ty,(5,(Z6 i1))],[(2,.row 39 [(Z6 v9.Kind),(Z6 v9.Arg),(Z7 v9.To)])],[]⟩:St)|(.inr r_)=>aR (Yv Γ v9 v1 r_)) (λy h=>Ac q [1,2,5,9] [2] (tB h λx3 y3 h=>gJ y3 (λb2=>aG Γ .normal (⟨[(1,(Z6 v1)),Ty,(5,Mt),(9,(Z6 v9.Kind)),(10,(.bool b2))],[(2,.row 39 [(Z6 v9.Kind),(Z6 v9.Arg),(Z7 v9.To)])],[]⟩:St)) (λy h=>Ac q [1,2,5,9,10] [2] (gC h (λh=>tS h (gK (Bk H7))) λh=>Ac q [1,2,5,9,10] [2] (tS h (gK (Bk H7))))) (gA (gC h (λh=>tS h (gK (Bk (Bn CT [2] q)))) λh=>Ac q [1,2,9,13] [2] (gC h (λh=>Ac q CT [2] (tS h (gK (Bk H7)))) λh=>Ac q [1,2,15] [2] (gC h (λh=>Ac q CT [2] (tS h (gK (Bk H7)))) λh=>Ac q [4] [] (tS h (gK (M1 (H6 [] (Le.refl _ _))))))))))) (match x5,h with | .inl i1,h=>gA (Ac q [1,2,21] [2] (gC h (λh=>Ac q [4] [] (tS h (B2 []))) λh=>Ac q ib [] (tL q h ib [] (λu i7=>(Do u [(25,(Z6 i7))] [])) (λu x_=>match x_ with|(.inl _)=>aG Γ (.exit 1) (⟨[],[],[]⟩:St)|(.inr r_)=>aR (Yv Γ v9 v1 r_)) (λi7 y h=>Ac q [1,23,24,25,26] [] (gC h (λh=>tV q [1,7,23,24,25] [] h λh=>tB h λx9 y9 h=>tT q [1,23,24,25,36] [] [(Z2 x9)] (M2 ((Q9 v9 i7)==false) (c3 (λ(hg:((Q9 v9 i7)==false)=true)=>(Rs (Bh hg y9))) (gI ((Q9 v9 i7)==false)) (Ja (Q9 v9 i7)))) (gC h (λh=>Ac q [4] [] (tS h (gO (M1 (H6 [] (Le.refl _ _)))))) λh=>Ac q ib [] (tN h))) λh=>tS h (gO (Bk (Bn [] [] q))))) λx10 h=>(match x10,h with | .inl _,h=>gA (Ac q [4] [] (tS h (B2 []))) | .inr r12,h=>P4 (λst' hk=>tS h (gK hk)))))) | .inr r13,h=>P4 (λst' hk=>tS h (gK hk))))
abbrev rB:=(Int×Ld)
abbrev yT6:=(LR (Int×Ld) Ld)
def Na(a6:Ld)(i2:Int):rB->Option yT6:=
 λ((i6,l7):rB)=>(bif (decide (i6<((a6.getD i2.toNat []).length:Int))) then(A7 (A5 i6 (a6.getD i2.toNat []).length) (A7 (A5 ((a6.getD i2.toNat []).getD i6.toNat 0) l7.length) (A7 (A5 ((a6.getD i2.toNat []).getD i6.toNat 0) l7.length) (A7 ((l7.getD ((a6.getD i2.toNat []).getD i6.toNat 0).toNat []).length+([i2]:Az).length<=room) (A7 (A5 ((a6.getD i2.toNat []).getD i6.toNat 0) l7.length) (some (.next ((w64 (i6+1)),(l7.set ((a6.getD i2.toNat []).getD i6.toNat 0).toNat ((l7.getD ((a6.getD i2.toNat []).getD i6.toNat 0).toNat [])++([i2]:Az))))))))))) else(some (.done l7)))
def Kp(a6:Ld):rB->Option yT6:=
 λ((i2,l3):rB)=>(bif (decide (i2<(a6.length:Int))) then(A7 (A5 i2 a6.length) ((Ab (Na a6 i2) ((0:Int),l3)).bind (λx14=>(some (.next ((w64 (i2+1)),x14)))))) else(some (.done l3)))
def rM(i2:Int):=([i2]:Az)
def mX(a6:Ld)(i2:Int)(i6:Int):=((a6.getD i2.toNat []).getD i6.toNat 0)
def mq(l7:Ld)(a6:Ld)(i2:Int)(i6:Int):=(l7.getD (mX a6 i2 i6).toNat [])
def vH(a6:Ld):=(List.replicate (a6.length:Int).toNat ([]:Az))
def xq(l7:Ld)(a6:Ld)(i2:Int)(i6:Int):=(l7.set (mX a6 i2 i6).toNat ((mq l7 a6 i2 i6)++(rM i2)))
def Q13(a6:Ld):List PI:=[(0,(UQ a6)),(3,(.vsl 10 (a6.length:Int).toNat))]
def Q12(l7:Ld)(i2:Int)(a6:Ld)(i6:Int):List PI:=[(3,(.vsl 10 l7.length)),(4,(Z6 i2)),(11,(UQ a6)),(12,(NY a6.length)),(13,(Z6 i2)),(18,(AV.list 1 As 0 (a6.getD i2.toNat []) .none)),(19,(.int .i64 ((a6.getD i2.toNat []).length:Int))),(20,(Z6 i6))]
def Q16(l7:Ld)(i2:Int)(a6:Ld)(i6:Int):List PI:=[(3,(.vsl 10 l7.length)),(4,(Z6 i2)),(7,(Z6 (mX a6 i2 i6))),(11,(UQ a6)),(12,(NY a6.length)),(13,(Z6 i2)),(18,(AV.list 1 As 0 (a6.getD i2.toNat []) .none)),(19,(.int .i64 ((a6.getD i2.toNat []).length:Int))),(20,(Z6 i6))]
def Nu(a6:Ld):Option Ld:=
 (A7 (0<=(a6.length:Int)/\(a6.length:Int)<=(a6.length:Int)/\(a6.length:Int)<=(room:Int)) ((Ab (Kp a6) ((0:Int),(List.replicate (a6.length:Int).toNat ([]:Az)))).bind (λx16=>(some x16))))
variable{v14:Ld}{v15:Ld}
theorem Y7(h:Nu v14=some v15):sP 109 [(UQ v14)] [] (qv v15 20000) [(20000,.tok 1 22 v15.length)]:=
 sG Tryz.func109 λΓ q=>have hΓ:=q.own;gR q [0] [] [(2,xO)] [] (c1 (Dp 1 La [])) (tV q Qx [10] h λh=>P5 (⟨(Q13 v14),[(10,.arr 1 22 ((v14.length:Int).toNat) (λi_=>AV.eraseAll (λn_=>Bj n_ [10]) ((λ_=>[PP]) i_)))],[]⟩:St) (Gl (Le.trans (Fg (st':=⟨(Q13 v14),[(10,.arr 1 22 ((v14.length:Int).toNat) (Oq 1 As (0:Int) (vH v14) (λ_=>.exact)))],[]⟩) (TmpsLe.refl _) (.arr cy .nil)) (Le.trans (Le.trans (dI (r:=10) (b:=70010) As (0:Int) (vH v14) 3 rfl rfl (Uq ..).symm (λh_=>absurd h_ (by decide))) (J7 (st':=⟨(Q13 v14),[(10,.arr 1 22 ((v14.length:Int).toNat) (Oq 1 As (0:Int) (vH v14) (Tag.fam 70010)))],[(70010,⟨1,3,Nn (vH v14)⟩)]⟩) (by kernel_rfl))) (J7 (Ci (λk_:Nat=>(⟨[(0,(UQ v14)),(3,(.vsl 10 k_))],[(cN 10 k_ (vH v14) 70010)],[(70010,⟨1,3,Nn (vH v14)⟩)]⟩:St)) (show(v14.length:Int).toNat=(vH v14).length from(Uq ..).symm))))) (Ac q TM Vt (tL q h TM Vt (λu (i2,l3)=>(Do u [(3,(.vsl 10 l3.length)),(13,(Z6 i2))] [(cN 10 l3.length l3 70010)] [(70010,⟨1,3,Nn l3⟩)])) (λu l4=>aG Γ (.exit 0) (⟨[(3,(.vsl 10 l4.length))],[(cN 10 l4.length l4 70010)],[(70010,⟨1,3,Nn l4⟩)]⟩:St)) (λ⟨i2,l3⟩ y h=>Ac q [3,11,12,13,14] Vt (gC h (λh=>tV q [3,4,5,11,12,13] Vt h λh=>Ac q kD Vt (tL q h kD Vt (λu (i6,l7)=>(Do u [(3,(.vsl 10 l7.length)),(20,(Z6 i6))] [(cN 10 l7.length l7 70010)] [(70010,⟨1,3,Nn l7⟩)])) (λu l8=>aG Γ (.exit 2) (N4 TM Vt u [(3,(.vsl 10 l8.length))] [(cN 10 l8.length l8 70010)] [(70010,⟨1,3,Nn l8⟩)])) (λ⟨i6,l7⟩ y h=>Ac q [3,4,11,12,13,18,19,20,21] Vt (gC h (λh=>tV q [3,4,7,11,12,13,18,19,20] Vt h λh=>P5 (⟨(Q16 l7 i2 v14 i6),[(cN 10 l7.length l7 70010)],[(70010,⟨1,3,Nn l7⟩)]⟩:St) (tC h λc10_ h=>tC h λc11_ h=>tC h λc12_ h=>tC h λc13_ h=>Gl (Le.trans (jb (r:=10) (b:=70010) (k:=60010) As (0:Int) l7 (mX v14 i2 i6).toNat 3 rfl rfl rfl rfl (Hd c10_) (by kernel_rfl) (.here .nil)) (J7 (st':=⟨(Q16 l7 i2 v14 i6),[(10,.arr 1 22 l7.length (Oq 1 As (0:Int) l7 (Hu 70010 (mX v14 i2 i6).toNat 60010))),(60010,.tok 1 3 ((mq l7 v14 i2 i6).length))],[(70010,⟨1,3,BD l7 (mX v14 i2 i6).toNat⟩)]⟩) (by kernel_rfl))) (gR q kD [10,60010,70010] [(29,(DW (mq l7 v14 i2 i6) 60010)),(31,(AV.list 1 As 0 (rM i2) .exact)),(32,(AV.list 1 As 0 ((mq l7 v14 i2 i6)++(rM i2)) (.own 60010)))] [] (xT c11_ (Eq.refl l7.length) (show(AVle (((Oq 1 As (0:Int) l7 (Hu 70010 (mX v14 i2 i6).toNat 60010)) (mX v14 i2 i6).toNat).getD 0 .any) (DW (mq l7 v14 i2 i6) 60010)) from WL) (Bu 1 As (0:Int) (rM i2)) (Eq.refl ((mq l7 v14 i2 i6).length)) c12_ (Ie 1 60010 As (0:Int) (mq l7 v14 i2 i6) (rM i2)) (Ep (mq l7 v14 i2 i6) (rM i2)) c13_ (c1 (Eq.refl l7.length))) (P5 (⟨(Q12 l7 i2 v14 i6),[(10,.arr 1 22 l7.length (λi_=>AV.eraseAll (λn_=>Bj n_ [10,60010,70010]) ((Eb (Oq 1 As (0:Int) l7 (Hu 70010 (mX v14 i2 i6).toNat 60010)) (mX v14 i2 i6).toNat 0 [(AV.list 1 As 0 ((mq l7 v14 i2 i6)++(rM i2)) (.own 60010))]) i_))),(60010,.tok 1 3 (((mq l7 v14 i2 i6)++(rM i2)).length))],[(70010,⟨1,3,BD l7 (mX v14 i2 i6).toNat⟩)]⟩:St) (Gl (Le.trans (Le.trans (o9 (r:=10) (b:=70010) (k:=60010) As (0:Int) l7 (mX v14 i2 i6).toNat ((mq l7 v14 i2 i6)++(rM i2)) 3 rfl (dz (Hd c10_) rfl rfl) rfl rfl rfl rfl (Hd c10_) (by kernel_rfl) (.here (.tok .nil)) (by rw[hΓ];rfl)) (J7 (st':=⟨(Q12 l7 i2 v14 i6),[(cN 10 l7.length (xq l7 v14 i2 i6) 70010)],[(70010,⟨1,3,Nn (xq l7 v14 i2 i6)⟩)]⟩) (by kernel_rfl))) (J7 (Ci (λk_:Nat=>(⟨[(3,(.vsl 10 k_)),(4,(Z6 i2)),(11,(UQ v14)),(12,(NY v14.length)),(13,(Z6 i2)),(18,(AV.list 1 As 0 (v14.getD i2.toNat []) .none)),(19,(.int .i64 ((v14.getD i2.toNat []).length:Int))),(20,(Z6 i6))],[(cN 10 k_ (xq l7 v14 i2 i6) 70010)],[(70010,⟨1,3,Nn (xq l7 v14 i2 i6)⟩)]⟩:St)) (show l7.length=(xq l7 v14 i2 i6).length from(G9 ..).symm)))) (Ac q kD Vt (tN h))))))) λh=>tS h (gO (Bk (Bn TM Vt q))))) λx14 h=>gA (Ac q TM Vt (tN h)))) λh=>tS h (gO (Bk (Bn [3] Vt q))))) λx16 h=>gA (Ac q [2] Vt (P5 (⟨[(2,(.vsl 10 x16.length))],[(cN 10 x16.length x16 70010)],[(70010,⟨1,3,Nn x16⟩)]⟩:St) (tS h (gK (e:=.ret) (H6 [(10,20000)] (Le.trans (Ka (nm:=10) (sz:=1) (n:=x16.length) (e:=22) (f:=(Oq 1 As (0:Int) x16 (Tag.fam 70010))) (g:=(λi=>La (x16.getD i []))) rfl ⟨rfl,trivial⟩ (λ_ _=>rfl) (by rw[hΓ];rfl)) (Bn (st':=⟨[(2,(qv x16 10))],[(10,.tok 1 22 x16.length)],[]⟩) [2] [10] q)))))))))))
def H3(a0:TFunc):rB->Option (LR (Int×Ld) (Ld ⊕ (TGraph×Int))):=
 λ((i3,l4):rB)=>(bif (decide (i3<(a0.Blocks.length:Int))) then(A7 (A5 i3 a0.Blocks.length) ((O8 (⟨(a0.Blocks.getD i3.toNat default).End.Kind,(a0.Blocks.getD i3.toNat default).End.Arg,(a0.Blocks.getD i3.toNat default).End.To⟩:M0) (a0.Blocks.length:Int)).bind λx7=>(bif (!x7) then(some (.done (.inr ((⟨([]:Ld),([]:Ld)⟩:TGraph),(5:Int))))) else((IW ((a0.Blocks.getD i3.toNat default).End.To)).bind λx8=>(A7 (A5 i3 l4.length) (some (.next ((w64 (i3+1)),(l4.set i3.toNat x8))))))))) else(some (.done (.inl l4))))
abbrev mh:=(TGraph×Int)
def fC(Γ:Ix)(a0:TFunc)(r:mh):Exit->St->Prop:=fK Tryz.prog Γ Tryz.f83.results.toList [] (.tuple (qu r.1 r.2)) []
def vO:AV:=PP
def xC:List PI:=[Ty,(3,kv)]
def Q23(a0:TFunc)(i3:Int):=(a0.Blocks.getD i3.toNat default)
def Q21:AV:=z7
def Q22(a0:TFunc):=(List.replicate (a0.Blocks.length:Int).toNat ([]:Az))
def uc:List AV:=[xO,xO]
def Xw(a0:TFunc):Option mh:=
 ((Ml (a0.Blocks.length:Int)).bind λx1=>(bif (!x1) then(some ((⟨([]:Ld),([]:Ld)⟩:TGraph),(5:Int))) else(A7 (0<=(a0.Blocks.length:Int)/\(a0.Blocks.length:Int)<=(a0.Blocks.length:Int)/\(a0.Blocks.length:Int)<=(room:Int)) ((Ab (H3 a0) ((0:Int),(List.replicate (a0.Blocks.length:Int).toNat ([]:Az)))).bind (λx10=>(match x10 with|(.inl l5)=>((Nu l5).bind λx12=>(some ((⟨l5,x12⟩:TGraph),(0:Int))))|(.inr r13)=>(some r13)))))))
variable{v16:mh}
theorem dk(h:Xw v0=some v16):sP 83 [(FM v0)] [] (.tuple (qu v16.1 v16.2)) []:=
 sG Tryz.func83 λΓ q=>have hΓ:=q.own;tW q Om Om [1,2,4] Om (tB h λx1 y1 h=>tT q [1,2,4,13] Om [(Z2 x1)] (c1 (Wv y1)) (gC h (λh=>gR q C3 [2] [(14,(.agg uc))] [] (c1 (show(AVle (.agg [vO,vO]) (.agg uc)) from(AVle.agg (.cons Cs (.cons Cs .nil))))) (P5 (⟨xC,[(Oh 82 uc)],[]⟩:St) (tS h (gK (e:=.ret) (H6 [] (show Le Γ _ (⟨xC,[(mb Q21)],[]⟩:St) from Le.trans (Bn (st':=⟨xC,[(Oh 82 uc)],[]⟩) C3 [2] q) (Fg (.cons (AVle.refl _) (.cons (AVle.refl _) .nil)) (.row (.cons AVle.untag (.cons AVle.untag .nil)) .nil)))))))) λh=>tV q [1,2,4,5] [1,2,16] h λh=>by exact Gl (Le.trans (Hy 16 (show ∀ k_,k_<((v0.Blocks.length:Int).toNat)->AVleL ((λi_=>AV.eraseAll (λn_=>Bj n_ [1,2,16]) ((λ_=>[vO]) i_)) k_) ((λi=>La ((Q22 v0).getD i [])) k_) from(λk hk=>Tn (e:=La) (d:=[]) (.cons (λ_ _ _ _ _ hh=>AVle.untag _ _ _ _ _ (Cs _ _ _ _ _ hh)) .nil) _ k (Tt hk)))) (Vz (λ(k_:Nat) u=>(Do u [(5,(.vsl 16 k_))] [(16,.arr 1 22 k_ (λi=>La ((Q22 v0).getD i [])))])) (show(v0.Blocks.length:Int).toNat=(Q22 v0).length from(Uq ..).symm))) (Ac q bg Wc (tL q h bg Wc (λu (i3,l4)=>(Do u [(5,(.vsl 16 l4.length)),(20,(Z6 i3))] [(16,.arr 1 22 l4.length (λi=>La (l4.getD i [])))])) (λu x_=>match x_ with|(.inl l5)=>aG Γ (.exit 0) (N4 Wd Wc u [(5,(.vsl 16 l5.length))] [(16,.arr 1 22 l5.length (λi=>La (l5.getD i [])))])|(.inr r_)=>aR (fC Γ v0 r_)) (λ⟨i3,l4⟩ y h=>Ac q [2,4,5,18,19,20,21] Wc (gC h (λh=>tV q [2,4,5,6,7,18,19,20] [2,7,16] h λh=>tB h λx7 y7 h=>tT q [2,4,5,6,7,18,19,20,29] [2,7,16] [(Z2 x7)] (c1 (KO y7)) (gC h (λh=>gR q C3 [2] [(30,(.agg uc))] [] (c1 (show(AVle (.agg [vO,vO]) (.agg uc)) from(AVle.agg (.cons Cs (.cons Cs .nil))))) (P5 (⟨xC,[(Oh 82 uc)],[]⟩:St) (tS h (gO (M1 (H6 [] (show Le Γ _ (⟨xC,[(mb Q21)],[]⟩:St) from Le.trans (Bn (st':=⟨xC,[(Oh 82 uc)],[]⟩) C3 [2] q) (Fg (.cons (AVle.refl _) (.cons (AVle.refl _) .nil)) (.row (.cons AVle.untag (.cons AVle.untag .nil)) .nil))))))))) λh=>tB h λx8 y8 h=>tC h λc9_ h=>tT q bg Wc [⟨[],[],(Z7 x8),[],[],[]⟩] (c3 (iC ((Q23 v0 i3).End.To) x8 y8) c9_ (Eq.refl l4.length)) (Gl (Le.trans (Hy 16 (show ∀ k_,k_<l4.length->AVleL ((λi_=>AV.eraseAll (λn_=>Bj n_ Wc) ((Eb (λi=>La (l4.getD i [])) i3.toNat 0 [(Z7 x8)]) i_)) k_) ((λi=>La ((l4.set i3.toNat x8).getD i [])) k_) from(Cm (G9 ..).symm (λk_ hk_=>(Ci (AV.eraseAll (λn_=>Bj n_ Wc)) ((Kz (λ_ _=>rfl) (M8 c9_) rfl) k_ hk_)).trans rfl)))) (Vz (λ(k_:Nat) u=>(Do u [(5,(.vsl 16 k_))] [(16,.arr 1 22 k_ (λi=>La ((l4.set i3.toNat x8).getD i [])))])) (show l4.length=(l4.set i3.toNat x8).length from(G9 ..).symm))) (Ac q bg Wc (tN h))))) λh=>tS h (gO (Bk (Bn Wd Wc q))))) λx10 h=>(match x10,h with | .inl l5,h=>gA (P5 (⟨[Ty,(5,(.vsl 16 l5.length))],[(mb vO),(16,.arr 1 22 l5.length (λi=>La (l5.getD i [])))],[]⟩:St) (Gl (Le.trans (Ka (nm:=16) (sz:=1) (n:=l5.length) (e:=22) (f:=(λi=>La (l5.getD i []))) (g:=(λi=>La (l5.getD i []))) rfl ⟨rfl,trivial⟩ (λ_ _=>rfl) (by rw[hΓ];rfl)) (J7 (st':=⟨[Ty,(5,(qv l5 16))],[(mb vO),(16,.tok 1 22 l5.length)],[]⟩) (by kernel_rfl))) (tB h λx12 y12 h=>tT q C3 [2,16,41] [⟨[],[(20000,41)],(qv x12 20000),[(20000,.tok 1 22 x12.length)],[],[]⟩] (c1 (Y7 y12)) (tS h (B2 []))))) | .inr r13,h=>P4 (λst' hk=>tS h (gK hk)))))))
abbrev yT8:=(LR (Int×Int) (Unit ⊕ Bool))
def Hw(a6:Ld)(i2:Int):G8->Option yT8:=
 λ((i4,i5):G8)=>(bif (decide (i5<((a6.getD i2.toNat []).length:Int))) then(A7 (A5 i5 (a6.getD i2.toNat []).length) ((bif ((decide (((a6.getD i2.toNat []).getD i5.toNat 0)<=i4))==false) then Kd ((a6.getD i2.toNat []).getD i5.toNat 0) (a6.length:Int) else some false).bind λx7=>(bif (bif (decide (((a6.getD i2.toNat []).getD i5.toNat 0)<=i4)) then true else(!x7)) then(some (.done (.inr false))) else(some (.next (((a6.getD i2.toNat []).getD i5.toNat 0),(w64 (i5+1)))))))) else(some (.done (.inl ()))))
def Dw(a6:Ld):Int->Option (LR Int (Unit ⊕ Bool)):=
 λ(i2:Int)=>(bif (decide (i2<(a6.length:Int))) then(A7 (A5 i2 a6.length) ((Ab (Hw a6 i2) ((-1:Int),(0:Int))).bind (λx8=>(match x8 with|(.inl _)=>(some (.next (w64 (i2+1))))|(.inr r10)=>(some (.done (.inr r10))))))) else(some (.done (.inl ()))))
def Yw(Γ:Ix)(a6:Ld)(r:Bool):Exit->St->Prop:=fK Tryz.prog Γ Tryz.f136.results.toList [] (.bool r) []
def ze(a6:Ld)(i2:Int)(i5:Int)(i4:Int):=(decide (((a6.getD i2.toNat []).getD i5.toNat 0)<=i4))
def O9(a6:Ld):Option Bool:=
 ((Ml (a6.length:Int)).bind λx1=>(bif (!x1) then(some false) else((Ab (Dw a6) (0:Int)).bind (λx11=>(match x11 with|(.inl _)=>(some true)|(.inr r13)=>(some r13))))))
theorem KP(h:O9 v14=some v5):sP 136 [(UQ v14)] [] (.bool v5) []:=
 sG Tryz.func136 λΓ q=>Ac q [0] [] (tB h λx1 y1 h=>tT q [0,11] [] [(Z2 x1)] (c1 (Wv y1)) (gC h (λh=>Ac q [2] [] (tS h (B2 []))) λh=>Ac q TN [] (tL q h TN [] (λu i2=>(Do u [(14,(Z6 i2))] [])) (λu x_=>match x_ with|(.inl _)=>aG Γ (.exit 0) (⟨[],[],[]⟩:St)|(.inr r_)=>aR (Yw Γ v14 r_)) (λi2 y h=>Ac q [0,12,13,14,15] [] (gC h (λh=>tV q [0,4,12,13,14] [] h λh=>tW q [0,4,5,12,13,14] [] kE [] (tL q h kE [] (λu (i4,i5)=>(Do u [(5,(Z6 i4)),(20,(Z6 i5))] [])) (λu x_=>match x_ with|(.inl _)=>aG Γ (.exit 2) (N4 TN [] u [] [])|(.inr r_)=>aR (Yw Γ v14 r_)) (λ⟨i4,i5⟩ y h=>Ac q [0,5,12,13,14,18,19,20,21] [] (gC h (λh=>tV q [0,5,7,12,13,14,18,19,20] [] h λh=>tB h λx7 y7 h=>tT q [0,7,12,13,14,18,19,20,33] [] [(Z2 x7)] (Y1 ((ze v14 i2 i5 i4)==false) (c3 (λ(hg:((ze v14 i2 i5 i4)==false)=true)=>(Rs (Bh hg y7))) (gI ((ze v14 i2 i5 i4)==false)) (Ja (ze v14 i2 i5 i4)))) (gC h (λh=>Ac q [2] [] (tS h (gO (M1 (H6 [] (Le.refl _ _)))))) λh=>tW q kE [] kE [] (tN h))) λh=>tS h (gO (Bk (Bn TN [] q))))) λx8 h=>(match x8,h with | .inl _,h=>gA (Ac q TN [] (tN h)) | .inr r10,h=>P4 (λst' hk=>tS h (gO (M1 hk)))))) λh=>tS h (gO (Bk (Bn [] [] q))))) λx11 h=>(match x11,h with | .inl _,h=>gA (Ac q [2] [] (tS h (B2 []))) | .inr r13,h=>P4 (λst' hk=>tS h (gK hk))))))
def Fc(aZ:Az)(aa0:Az):Int->Option (LR Int (Unit ⊕ Bool)):=
 λ(i1:Int)=>(bif (decide (i1<(aZ.length:Int))) then(A7 (A5 i1 aZ.length) (A7 (A5 i1 aa0.length) (bif ((aZ.getD i1.toNat 0)!=(aa0.getD i1.toNat 0)) then(some (.done (.inr false))) else(some (.next (w64 (i1+1))))))) else(some (.done (.inl ()))))
def Xe(Γ:Ix)(aZ:Az)(aa0:Az)(r:Bool):Exit->St->Prop:=fK Tryz.prog Γ Tryz.f115.results.toList [] (.bool r) []
def G0(aZ:Az)(aa0:Az):Option Bool:=
 (bif ((aZ.length:Int)!=(aa0.length:Int)) then(some false) else((Ab (Fc aZ aa0) (0:Int)).bind (λx4=>(match x4 with|(.inl _)=>(some true)|(.inr r6)=>(some r6)))))
variable{v17:Az}
theorem Ps(h:G0 v4 v17=some v5):sP 115 [(Z7 v4),(Z7 v17)] [] (.bool v5) []:=
 sG Tryz.func115 λΓ q=>tW q I8 [] CP [] (gC h (λh=>Ac q [4] [] (tS h (B2 []))) λh=>Ac q il [] (tL q h il [] (λu i1=>(Do u [(13,(Z6 i1))] [])) (λu x_=>match x_ with|(.inl _)=>aG Γ (.exit 0) (⟨[],[],[]⟩:St)|(.inr r_)=>aR (Xe Γ v4 v17 r_)) (λi1 y h=>Ac q [0,1,12,13,14] [] (gC h (λh=>Ac q [0,1,5,12,13] [] (tC h λc2_ h=>tC h λc3_ h=>tU q [0,1,12,13,24] [] (c2 c2_ c3_) (gC h (λh=>Ac q [4] [] (tS h (gO (M1 (H6 [] (Le.refl _ _)))))) λh=>Ac q il [] (tN h)))) λh=>tS h (gO (Bk (Bn [] [] q))))) λx4 h=>(match x4,h with | .inl _,h=>gA (Ac q [4] [] (tS h (B2 []))) | .inr r6,h=>P4 (λst' hk=>tS h (gK hk)))))
def Ch(aZ:Ld)(aa0:Ld):Int->Option (LR Int (Unit ⊕ Bool)):=
 λ(i1:Int)=>(bif (decide (i1<(aZ.length:Int))) then(A7 (A5 i1 aZ.length) (A7 (A5 i1 aa0.length) ((G0 (aZ.getD i1.toNat []) (aa0.getD i1.toNat [])).bind λx4=>(bif (!x4) then(some (.done (.inr false))) else(some (.next (w64 (i1+1)))))))) else(some (.done (.inl ()))))
def Pb(Γ:Ix)(aZ:Ld)(aa0:Ld)(r:Bool):Exit->St->Prop:=fK Tryz.prog Γ Tryz.f137.results.toList [] (.bool r) []
def Dx(aZ:Ld)(aa0:Ld):Option Bool:=
 (bif ((aZ.length:Int)!=(aa0.length:Int)) then(some false) else((Ab (Ch aZ aa0) (0:Int)).bind (λx5=>(match x5 with|(.inl _)=>(some true)|(.inr r7)=>(some r7)))))
theorem O0(h:Dx v14 v15=some v5):sP 137 [(UQ v14),(UQ v15),(.clo 115 [] [])] [] (.bool v5) []:=
 sG Tryz.func137 λΓ q=>tW q LY [] [0,1,2,14] [] (gC h (λh=>Ac q [6] [] (tS h (B2 []))) λh=>Ac q iS [] (tL q h iS [] (λu i1=>(Do u [(17,(Z6 i1))] [])) (λu x_=>match x_ with|(.inl _)=>aG Γ (.exit 0) (⟨[],[],[]⟩:St)|(.inr r_)=>aR (Pb Γ v14 v15 r_)) (λi1 y h=>Ac q [1,2,15,16,17,18] [] (gC h (λh=>tV q [1,2,7,8,15,16,17] [] h λh=>tV q [1,2,8,9,15,16,17] [] h λh=>tB h λx4 y4 h=>tT q [1,2,15,16,17,30] [] [(Z2 x4)] (c1 (Ps y4)) (gC h (λh=>Ac q [6] [] (tS h (gO (M1 (H6 [] (Le.refl _ _)))))) λh=>Ac q iS [] (tN h))) λh=>tS h (gO (Bk (Bn [] [] q))))) λx5 h=>(match x5,h with | .inl _,h=>gA (Ac q [6] [] (tS h (B2 []))) | .inr r7,h=>P4 (λst' hk=>tS h (gK hk)))))
def Vd(a5:TGraph):Option Bool:=
 ((O9 a5.Succ).bind λx1=>((bif (x1==true) then Nu a5.Succ else some []).bind λx2=>((bif (x1==true) then Dx a5.Pred x2 else some false).bind λx3=>(some (bif x1 then x3 else false)))))
variable{v18:TGraph}
theorem bJ(h:Vd v18=some v5):sP 110 [(.agg (Xj v18))] [] (.bool v5) []:=
 sG Tryz.func110 λΓ q=>Ac q [1] [1] (tB h λx1 y1 h=>tB h λx2 y2 h=>tB h λx3 y3 h=>tT q [2] [] [(Z2 x1),⟨[],[],(UQ x2),[],[],[]⟩,(Z2 x3)] (ci (KP y1) (Y1 (x1==true) (ci (show((x1==true)=true->(sP 109 [(UQ v18.Succ)] [] (UQ x2) [])) from(λhg=>(Spec.drop (Y7 (Bh hg y2))))) (M2 (x1==true) (c2 (λ(hg:(x1==true)=true)=>(O0 (Bh hg y3))) (M3 x1)))))) (tS h (B2 [])))
abbrev yT9:=(Int×Int×Az)
def Bs :yT9->Option (LR (Int×Int×Az) Az):=
 λ((i1,i2,l3):yT9)=>(bif (decide (i1<i2)) then(A7 (A5 i2 l3.length) (A7 (A5 i1 l3.length) (A7 (A5 i1 l3.length) (A7 (A5 i2 l3.length) (some (.next ((w64 (i1+1)),(w64 (i2-1)),((l3.set i1.toNat (l3.getD i2.toNat 0)).set i2.toNat (l3.getD i1.toNat 0))))))))) else(some (.done l3)))
def Q25(l3:Az)(i1:Int)(i2:Int):=((l3.set i1.toNat (l3.getD i2.toNat 0)).set i2.toNat (l3.getD i1.toNat 0))
def Fu(aa5:Az):Option Az:=
 ((Ab (S:=yT9) (X:=Az) Bs ((0:Int),(w64 ((aa5.length:Int)-1)),aa5)).bind (λx9=>(some x9)))
theorem Oj(h:Fu v4=some v17):sP 112 [(.vsl 34000 v4.length)] [(Z4 34000 v4)] (.tuple []) [(Z4 34000 v17)]:=
 sG Tryz.func112 λΓ q=>Ac q UE [34000] (tL q h UE [34000] (λu (i1,i2,l3)=>(Do u [(0,(.vsl 34000 l3.length)),(2,(Z6 i1)),(3,(Z6 i2))] [(Z4 34000 l3)])) (λu l4=>aG Γ (.exit 0) (⟨[],[(Z4 34000 l4)],[]⟩:St)) (λ⟨i1,i2,l3⟩ y h=>Ac q [0,2,3,9] [34000] (gC h (λh=>tC h λc5_ h=>tC h λc6_ h=>tC h λc7_ h=>tC h λc8_ h=>tU q UE [34000] (c8 c5_ (Eq.refl l3.length) c6_ (Eq.refl l3.length) c7_ (Eq.refl l3.length) c8_ (Eq.refl l3.length)) (Gl (Le.trans (Hy 34000 (show ∀ k_,k_<l3.length->AVleL ((λi_=>AV.eraseAll (λn_=>Bj n_ [34000]) ((Eb (Eb (λi=>As (l3.getD i 0)) i1.toNat 0 [(.int .i64 (l3.getD i2.toNat 0))]) i2.toNat 0 [(.int .i64 (l3.getD i1.toNat 0))]) i_)) k_) ((λi=>As ((Q25 l3 i1 i2).getD i 0)) k_) from(Cm (Eq.trans (G9 ..).symm (G9 ..).symm) (λk_ hk_=>(Ci (AV.eraseAll (λn_=>Bj n_ [34000])) ((Kz (Kz (λ_ _=>rfl) (M8 c7_) rfl) (sx c8_) rfl) k_ hk_)).trans rfl)))) (Vz (λ(k_:Nat) u=>(Do u [(0,(.vsl 34000 k_))] [(34000,.arr 1 3 k_ (λi=>As ((Q25 l3 i1 i2).getD i 0)))])) (show l3.length=(Q25 l3 i1 i2).length from(Eq.trans (G9 ..).symm (G9 ..).symm)))) (Ac q UE [34000] (tN h)))) λh=>tS h (gO (Bk (Bn [] [34000] q))))) λx9 h=>uu (λst' hl10=>tS h (gK (e:=.normal) (H6 Uu hl10))))
abbrev zK:=(LR Az (Az ⊕ (List Bool×Az×Az)))
def KA(a5:TGraph)(a2:Int):Az->Option zK:=
 λ(l9:Az)=>(A7 (A5 ([a2].getD (w64 (([a2].length:Int)-1)).toNat (0:Int)) 64) (A7 (A5 ([a2].getD (w64 (([a2].length:Int)-1)).toNat (0:Int)) a5.Succ.length) (bif (decide ((l9.getD ([a2].getD (w64 (([a2].length:Int)-1)).toNat (0:Int)).toNat (0:Int))<((a5.Succ.getD ([a2].getD (w64 (([a2].length:Int)-1)).toNat (0:Int)).toNat []).length:Int))) then(A7 (A5 ([a2].getD (w64 (([a2].length:Int)-1)).toNat (0:Int)) a5.Succ.length) (A7 (A5 ([a2].getD (w64 (([a2].length:Int)-1)).toNat (0:Int)) 64) (A7 (A5 (l9.getD ([a2].getD (w64 (([a2].length:Int)-1)).toNat (0:Int)).toNat (0:Int)) (a5.Succ.getD ([a2].getD (w64 (([a2].length:Int)-1)).toNat (0:Int)).toNat []).length) (A7 (A5 ([a2].getD (w64 (([a2].length:Int)-1)).toNat (0:Int)) 64) (A7 (A5 ([a2].getD (w64 (([a2].length:Int)-1)).toNat (0:Int)) 64) (A7 (A5 ((a5.Succ.getD ([a2].getD (w64 (([a2].length:Int)-1)).toNat (0:Int)).toNat []).getD (l9.getD ([a2].getD (w64 (([a2].length:Int)-1)).toNat (0:Int)).toNat (0:Int)).toNat (0:Int)) 64) (bif (!((Fx 64 false (List.replicate 64 false) a2.toNat true).getD ((a5.Succ.getD ([a2].getD (w64 (([a2].length:Int)-1)).toNat (0:Int)).toNat []).getD (l9.getD ([a2].getD (w64 (([a2].length:Int)-1)).toNat (0:Int)).toNat (0:Int)).toNat (0:Int)).toNat false)) then(A7 (A5 ((a5.Succ.getD ([a2].getD (w64 (([a2].length:Int)-1)).toNat (0:Int)).toNat []).getD (l9.getD ([a2].getD (w64 (([a2].length:Int)-1)).toNat (0:Int)).toNat (0:Int)).toNat (0:Int)) 64) (A7 ([a2].length+([((a5.Succ.getD ([a2].getD (w64 (([a2].length:Int)-1)).toNat (0:Int)).toNat []).getD (l9.getD ([a2].getD (w64 (([a2].length:Int)-1)).toNat (0:Int)).toNat (0:Int)).toNat (0:Int))]:Az).length<=room) (some (.done (.inr ((Fx 64 false (Fx 64 false (List.replicate 64 false) a2.toNat true) ((a5.Succ.getD ([a2].getD (w64 (([a2].length:Int)-1)).toNat (0:Int)).toNat []).getD (l9.getD ([a2].getD (w64 (([a2].length:Int)-1)).toNat (0:Int)).toNat (0:Int)).toNat (0:Int)).toNat true),(Fx 64 (0:Int) l9 ([a2].getD (w64 (([a2].length:Int)-1)).toNat (0:Int)).toNat (w64 ((l9.getD ([a2].getD (w64 (([a2].length:Int)-1)).toNat (0:Int)).toNat (0:Int))+1))),([a2]++([((a5.Succ.getD ([a2].getD (w64 (([a2].length:Int)-1)).toNat (0:Int)).toNat []).getD (l9.getD ([a2].getD (w64 (([a2].length:Int)-1)).toNat (0:Int)).toNat (0:Int)).toNat (0:Int))]:Az)))))))) else(some (.next (Fx 64 (0:Int) l9 ([a2].getD (w64 (([a2].length:Int)-1)).toNat (0:Int)).toNat (w64 ((l9.getD ([a2].getD (w64 (([a2].length:Int)-1)).toNat (0:Int)).toNat (0:Int))+1)))))))))))) else(some (.done (.inl l9))))))
def Jj(a5:TGraph)(l1:List Bool)(l3:Az):Az->Option zK:=
 λ(l32:Az)=>(A7 (A5 (l3.getD (w64 ((l3.length:Int)-1)).toNat (0:Int)) 64) (A7 (A5 (l3.getD (w64 ((l3.length:Int)-1)).toNat (0:Int)) a5.Succ.length) (bif (decide ((l32.getD (l3.getD (w64 ((l3.length:Int)-1)).toNat (0:Int)).toNat (0:Int))<((a5.Succ.getD (l3.getD (w64 ((l3.length:Int)-1)).toNat (0:Int)).toNat []).length:Int))) then(A7 (A5 (l3.getD (w64 ((l3.length:Int)-1)).toNat (0:Int)) a5.Succ.length) (A7 (A5 (l3.getD (w64 ((l3.length:Int)-1)).toNat (0:Int)) 64) (A7 (A5 (l32.getD (l3.getD (w64 ((l3.length:Int)-1)).toNat (0:Int)).toNat (0:Int)) (a5.Succ.getD (l3.getD (w64 ((l3.length:Int)-1)).toNat (0:Int)).toNat []).length) (A7 (A5 (l3.getD (w64 ((l3.length:Int)-1)).toNat (0:Int)) 64) (A7 (A5 (l3.getD (w64 ((l3.length:Int)-1)).toNat (0:Int)) 64) (A7 (A5 ((a5.Succ.getD (l3.getD (w64 ((l3.length:Int)-1)).toNat (0:Int)).toNat []).getD (l32.getD (l3.getD (w64 ((l3.length:Int)-1)).toNat (0:Int)).toNat (0:Int)).toNat (0:Int)) 64) (bif (!(l1.getD ((a5.Succ.getD (l3.getD (w64 ((l3.length:Int)-1)).toNat (0:Int)).toNat []).getD (l32.getD (l3.getD (w64 ((l3.length:Int)-1)).toNat (0:Int)).toNat (0:Int)).toNat (0:Int)).toNat false)) then(A7 (A5 ((a5.Succ.getD (l3.getD (w64 ((l3.length:Int)-1)).toNat (0:Int)).toNat []).getD (l32.getD (l3.getD (w64 ((l3.length:Int)-1)).toNat (0:Int)).toNat (0:Int)).toNat (0:Int)) 64) (A7 (l3.length+([((a5.Succ.getD (l3.getD (w64 ((l3.length:Int)-1)).toNat (0:Int)).toNat []).getD (l32.getD (l3.getD (w64 ((l3.length:Int)-1)).toNat (0:Int)).toNat (0:Int)).toNat (0:Int))]:Az).length<=room) (some (.done (.inr ((Fx 64 false l1 ((a5.Succ.getD (l3.getD (w64 ((l3.length:Int)-1)).toNat (0:Int)).toNat []).getD (l32.getD (l3.getD (w64 ((l3.length:Int)-1)).toNat (0:Int)).toNat (0:Int)).toNat (0:Int)).toNat true),(Fx 64 (0:Int) l32 (l3.getD (w64 ((l3.length:Int)-1)).toNat (0:Int)).toNat (w64 ((l32.getD (l3.getD (w64 ((l3.length:Int)-1)).toNat (0:Int)).toNat (0:Int))+1))),(l3++([((a5.Succ.getD (l3.getD (w64 ((l3.length:Int)-1)).toNat (0:Int)).toNat []).getD (l32.getD (l3.getD (w64 ((l3.length:Int)-1)).toNat (0:Int)).toNat (0:Int)).toNat (0:Int))]:Az)))))))) else(some (.next (Fx 64 (0:Int) l32 (l3.getD (w64 ((l3.length:Int)-1)).toNat (0:Int)).toNat (w64 ((l32.getD (l3.getD (w64 ((l3.length:Int)-1)).toNat (0:Int)).toNat (0:Int))+1)))))))))))) else(some (.done (.inl l32))))))
abbrev qS:=(List Bool×Az×Az×Az)
def E9(a5:TGraph):qS->Option (LR (List Bool×Az×Az×Az) Az):=
 λ(s_:qS)=>match s_ with|(l1,l2,l3,l4)=>(A7 (A5 (w64 ((l3.length:Int)-1)) l3.length) ((Ab (Jj a5 l1 l3) l2).bind (λx47=>(match x47 with|(.inl l33)=>(A7 (l4.length+([(l3.getD (w64 ((l3.length:Int)-1)).toNat (0:Int))]:Az).length<=room) (A7 (0<=(w64 ((l3.length:Int)-1))/\0+(w64 ((l3.length:Int)-1)).toNat<=l3.length) (bif (decide ((0:Int)<((l3.take (w64 ((l3.length:Int)-1)).toNat).length:Int))) then(some (.next (l1,l33,(l3.take (w64 ((l3.length:Int)-1)).toNat),(l4++([(l3.getD (w64 ((l3.length:Int)-1)).toNat (0:Int))]:Az))))) else((Fu (l4++([(l3.getD (w64 ((l3.length:Int)-1)).toNat (0:Int))]:Az))).bind λx51=>(A7 ((l4++([(l3.getD (w64 ((l3.length:Int)-1)).toNat (0:Int))]:Az)).length=x51.length) (some (.done x51)))))))|(.inr (l34,l35,l36))=>(some (.next (l34,l35,l36,l4)))))))
def US(Γ:Ix)(a5:TGraph)(a2:Int)(r:Az):Exit->St->Prop:=fK Tryz.prog Γ Tryz.f84.results.toList [] (DW r 20000) (VB 20000 r.length)
def xF(l1:List Bool):=(λi=>eB (l1.getD i false))
def mY(l3:Az):=(l3.getD (w64 ((l3.length:Int)-1)).toNat (0:Int))
def nO(l4:Az)(l3:Az):=(l4++([(mY l3)]:Az))
def yQ(l10:Az):=(λi=>As (l10.getD i 0))
def yR(l33:Az):=(λi=>As (l33.getD i 0))
def er:=(λn_=>Bj n_ [2,5,6,25,36007])
def vi(a2:Int):=(λi=>As ([a2].getD i 0))
def iw(a2:Int):=([a2].getD (w64 (([a2].length:Int)-1)).toNat (0:Int))
def qs(a2:Int):=(([]:Az)++([(iw a2)]:Az))
def xH(a2:Int):=(λi=>As ((qs a2).getD i 0))
def xG(l4:Az)(l3:Az):=(λi=>As ((nO l4 l3).getD i 0))
def xE:AV:=ZP
def zh:=(λi=>As (([]:Az).getD i 0))
def vg(l3:Az):=(0+(w64 ((l3.length:Int)-1)).toNat)
def xD(a2:Int):=(0+(w64 (([a2].length:Int)-1)).toNat)
def Q46(a2:Int):=([a2].take (w64 (([a2].length:Int)-1)).toNat)
def Q35:=(λi=>As ((List.replicate 64 (0:Int)).getD i 0))
def nF(a5:TGraph):List AV:=[(UQ a5.Succ),(UQ a5.Pred)]
def ud(a2:Int):=(λi=>eB ((Fx 64 false (List.replicate 64 false) a2.toNat true).getD i false))
def qr(a5:TGraph)(l3:Az)(l32:Az):=((a5.Succ.getD (mY l3).toNat []).getD (l32.getD (mY l3).toNat (0:Int)).toNat (0:Int))
def qq(a5:TGraph)(a2:Int)(l9:Az):=((a5.Succ.getD (iw a2).toNat []).getD (l9.getD (iw a2).toNat (0:Int)).toNat (0:Int))
def Q45:=(Z23:St)
def Q49(a2:Int):List PI:=[Ty,nX,nW,(7,(.vsl 36007 (qs a2).length)),(8,(.vsl 25 (xD a2)))]
def Q42(a2:Int)(a5:TGraph):=(⟨[Ty,nX,nW,(7,(.vsl 36007 ([]:Az).length)),(8,(.vsl 25 [a2].length)),(9,(Z6 (iw a2)))],[(Oh 82 (nF a5)),(nY (ud a2)),(mc Q35),(25,.arr 1 3 ([a2].length) (vi a2)),(36007,.arr 1 3 (([]:Az).length) zh)],[]⟩:St)
def K6(a5:TGraph)(a2:Int):Option Az:=
 ((Ym (S:=qS) (X:=Az) ((Vd a5).bind λx5=>((bif ((!x5)==false) then Kd a2 (a5.Succ.length:Int) else some false).bind λx6=>(bif (bif (!x5) then true else(!x6)) then(some (.done ([]:Az))) else(A7 (A5 a2 64) (A7 (A5 (w64 (([a2].length:Int)-1)) [a2].length) ((Ab (KA a5 a2) (List.replicate 64 (0:Int))).bind (λx24=>(match x24 with|(.inl l10)=>(A7 (([]:Az).length+([([a2].getD (w64 (([a2].length:Int)-1)).toNat (0:Int))]:Az).length<=room) (A7 (0<=(w64 (([a2].length:Int)-1))/\0+(w64 (([a2].length:Int)-1)).toNat<=[a2].length) (bif (decide ((0:Int)<(([a2].take (w64 (([a2].length:Int)-1)).toNat).length:Int))) then(some (.next ((Fx 64 false (List.replicate 64 false) a2.toNat true),l10,([a2].take (w64 (([a2].length:Int)-1)).toNat),(([]:Az)++([([a2].getD (w64 (([a2].length:Int)-1)).toNat (0:Int))]:Az))))) else((Fu (([]:Az)++([([a2].getD (w64 (([a2].length:Int)-1)).toNat (0:Int))]:Az))).bind λx28=>(A7 ((([]:Az)++([([a2].getD (w64 (([a2].length:Int)-1)).toNat (0:Int))]:Az)).length=x28.length) (some (.done x28)))))))|(.inr (l11,l12,l13))=>(some (.next (l11,l12,l13,([]:Az)))))))))))) (E9 a5)).bind (λx54=>(some x54)))
theorem BK(h:K6 v18 v1=some v4):sP 84 (qu v18 v1) [] (DW v4 20000) (VB 20000 v4.length):=
 sG Tryz.func84 λΓ q=>have hΓ:=q.own;gR q Om [2] [(4,xE)] [] (c1 (Dp 1 As (0:Int))) (tB h λx54 y54 h=>gS y54 (λ(s_:qS)=>match s_ with|(l1,l2,l3,l4)=>0) (λ(s_:qS)=>match s_ with|(l1,l2,l3,l4)=>(⟨[Ty,nX,nW,(Vu 36007 l4.length),(8,(.vsl 25 l3.length))],[(Oh 82 (nF v18)),(nY (xF l1)),(yY l2),(Z4 25 l3),(Z4 36007 l4)],[]⟩:St)) (λr_=>aR (US Γ v18 v1 r_)) (λy h=>tB h λx5 y5 h=>tB h λx6 y6 h=>tT q [1,2,21] [2] [(Z2 x5),(Z2 x6)] (ci (bJ y5) (dC ((!x5)==false) (c3 (λ(hg:((!x5)==false)=true)=>(Rs (Bh hg y6))) (gI ((!x5)==false)) (Ja (!x5))))) (gC h (λh=>gR q [4] [] [(4,xE)] [] (c1 (Dp 1 As (0:Int))) (P5 (⟨[(4,xE)],[],[]⟩:St) (tS h (uv (M1 (H6 TO (show Le Γ _ Q45 from Le.trans (Bn (st':=⟨[(4,xE)],[],[]⟩) [4] [] q) (Le.trans (Qb (t:=4) (nm:=6004) (sz':=1) zh 3 rfl rfl (.inl ⟨rfl,rfl⟩) (λh_=>absurd h_ (by decide))) (Bn (st':=Q45) [4] [6004] q))))))))) λh=>gR q CT Wd [nX] [] trivial (Gl (Hy 5 (show ∀ k_,k_<64->AVleL ((λi_=>AV.eraseAll (λn_=>Bj n_ Wd) ((λi=>(((List.replicate 64 [(.bool false)]).flatten).drop (i*1)).take 1) i_)) k_) ((λi=>eB ((List.replicate 64 false).getD i false)) k_) from(WK (e:=eB) (d:=false) (z:=[(.bool false)]) rfl rfl rfl))) (gR q [1,2,5,6] Xb [nW] [] trivial (Gl (Hy 6 (show ∀ k_,k_<64->AVleL ((λi_=>AV.eraseAll (λn_=>Bj n_ Xb) ((λi=>(((List.replicate 64 [Mt]).flatten).drop (i*1)).take 1) i_)) k_) (Q35 k_) from(WK (e:=As) (d:=(0:Int)) (z:=[Mt]) rfl rfl rfl))) (gR q ic Xb [(7,xE)] [] (c1 (Dp 1 As (0:Int))) (tC h λc7_ h=>tU q ic Xb (c2 c7_ (Eq.refl 64)) (Gl (Hy 5 (show ∀ k_,k_<64->AVleL ((λi_=>AV.eraseAll (λn_=>Bj n_ Xb) ((Eb (λi=>eB ((List.replicate 64 false).getD i false)) v1.toNat 0 [(.bool true)]) i_)) k_) ((ud v1) k_) from(Cm rfl (λk_ hk_=>(Ci (AV.eraseAll (λn_=>Bj n_ Xb)) ((Wz (λ_ _=>rfl) (Hd c7_) rfl) k_ hk_)).trans rfl)))) (gR q CS bq [(25,(.vsl 25 1))] [] trivial (Gl (Le.trans (Hy 25 (show ∀ k_,k_<1->AVleL ((λi_=>AV.eraseAll (λn_=>Bj n_ bq) ((λi_=>([(Z6 v1)].drop (i_*1)).take 1) i_)) k_) ((vi v1) k_) from(Cm rfl (tt (n:=0) wl rfl)))) (Vz (λ(k_:Nat) u=>(Do u [(8,(.vsl 25 k_))] [(25,.arr 1 3 k_ (vi v1))])) (show 1=[v1].length from rfl))) (tC h λc8_ h=>tU q FE bq (c2 c8_ (Eq.refl ([v1].length))) (Gl (st':=(Q42 v1 v18)) (Le.trans (Bn (st':=⟨[Ty,nX,nW,(7,xE),(8,(.vsl 25 [v1].length)),(9,(Z6 (iw v1)))],[(Oh 82 (nF v18)),(nY (ud v1)),(mc Q35),(25,.arr 1 3 ([v1].length) (vi v1))],[]⟩) FE bq q) (Le.trans (wT (t:=7) (nm:=36007) (sz':=1) zh 3 rfl rfl) (Bn (st':=(Q42 v1 v18)) FE P3 q))) (tL q h FE P3 (λu l9=>(Do u [] [(yY l9)])) (λu x_=>match x_ with|(.inl l10)=>aG Γ (.exit 0) (Do u [] [(mc (yQ l10))])|(.inr (l11,l12,l13))=>aG Γ (.goto 0) (N4 CS P3 u [(8,(.vsl 25 l13.length))] [(5,.arr 1 165 64 (λi=>eB (l11.getD i false))),(yY l12),(Z4 25 l13)])) (λl9 y h=>tC h λc14_ h=>tC h λc15_ h=>tU q [2,5,6,7,8,9,41] P3 (c3 c14_ (Eq.refl 64) c15_) (gC h (λh=>tC h λc16_ h=>tC h λc17_ h=>tC h λc18_ h=>tU q bf P3 (c4 c16_ c17_ (Eq.refl 64) c18_) (tC h λc19_ h=>tC h λc20_ h=>tU q bf P3 (c4 c19_ (Eq.refl 64) c20_ (Eq.refl 64)) (Gl (Hy 6 (show ∀ k_,k_<64->AVleL ((λi_=>AV.eraseAll er ((Eb (λi=>As (l9.getD i 0)) (iw v1).toNat 0 [(.int .i64 (w64 ((l9.getD (iw v1).toNat (0:Int))+1)))]) i_)) k_) ((λi=>As ((Fx 64 (0:Int) l9 (iw v1).toNat (w64 ((l9.getD (iw v1).toNat (0:Int))+1))).getD i 0)) k_) from(Cm rfl (λk_ hk_=>(Ci (AV.eraseAll er) ((Wz (λ_ _=>rfl) (Hd c20_) rfl) k_ hk_)).trans rfl)))) (tC h λc21_ h=>tU q qh P3 (c2 c21_ (Eq.refl 64)) (gC h (λh=>tC h λc22_ h=>tU q [2,5,6,7,8,10] P3 (c2 c22_ (Eq.refl 64)) (Gl (Hy 5 (show ∀ k_,k_<64->AVleL ((λi_=>AV.eraseAll er ((Eb (ud v1) (qq v18 v1 l9).toNat 0 [(.bool true)]) i_)) k_) ((λi=>eB ((Fx 64 false (Fx 64 false (List.replicate 64 false) v1.toNat true) (qq v18 v1 l9).toNat true).getD i false)) k_) from(Cm rfl (λk_ hk_=>(Ci (AV.eraseAll er) ((Wz (λ_ _=>rfl) (Hd c22_) rfl) k_ hk_)).trans rfl)))) (tC h λc23_ h=>gR q CS P3 [(65,(uh (qq v18 v1 l9)))] [] (c3 (Bu 1 As (0:Int) ([(qq v18 v1 l9)]:Az)) (Eq.refl ([v1].length)) c23_) (tS h (gO (Bk (Le.trans (Le.trans (Hy 25 (show ∀ k_,k_<([v1].length+([(qq v18 v1 l9)]:Az).length)->AVleL ((λi_=>AV.eraseAll er ((Ov ([v1].length) (vi v1) (λi=>As (([(qq v18 v1 l9)]:Az).getD i 0))) i_)) k_) ((λi=>As (([v1]++([(qq v18 v1 l9)]:Az)).getD i 0)) k_) from(Cm (Ep _ _) (λk_ hk_=>(Ci (AV.eraseAll er) ((GZ (λ_ _=>rfl) (λ_ _=>rfl)) k_ hk_)).trans rfl)))) (Vz (λ(k_:Nat) u=>(Do u [(8,(.vsl 25 k_))] [(25,.arr 1 3 k_ (λi=>As (([v1]++([(qq v18 v1 l9)]:Az)).getD i 0)))])) (show([v1].length+([(qq v18 v1 l9)]:Az).length)=([v1]++([(qq v18 v1 l9)]:Az)).length from(Ep _ _)))) H7))))))) λh=>tS h (gN (Bn FE P3 q))))))) λh=>tS h (gO (Bk (Bn FE P3 q))))) λx24 h=>(match x24,h with | .inl l10,h=>gA (tC h λc26_ h=>gR q CS P3 [(69,(uh (iw v1)))] [] (c3 (Bu 1 As (0:Int) ([(iw v1)]:Az)) (Eq.refl (([]:Az).length)) c26_) (Gl (Le.trans (Hy 36007 (show ∀ k_,k_<(([]:Az).length+([(iw v1)]:Az).length)->AVleL ((λi_=>AV.eraseAll er ((Ov (([]:Az).length) zh (λi=>As (([(iw v1)]:Az).getD i 0))) i_)) k_) ((xH v1) k_) from(Cm (Ep _ _) (λk_ hk_=>(Ci (AV.eraseAll er) ((GZ (λ_ _=>rfl) (λ_ _=>rfl)) k_ hk_)).trans rfl)))) (Vz (λ(k_:Nat) u=>(Do u [(Vu 36007 k_)] [(36007,.arr 1 3 k_ (xH v1))])) (show(([]:Az).length+([(iw v1)]:Az).length)=(qs v1).length from(Ep _ _)))) (tC h λc27_ h=>tU q CS P3 (c1 c27_) (P5 (⟨[Ty,nX,nW,(7,(.vsl 36007 (qs v1).length)),(8,(.vsub 25 [v1].length 0 (xD v1)))],[(Oh 82 (nF v18)),(nY (ud v1)),(mc (yQ l10)),(25,.arr 1 3 ([v1].length) (vi v1)),(36007,.arr 1 3 ((qs v1).length) (xH v1))],[]⟩:St) (Gl (Le.trans (Le.trans (dK (t:=8) (r:=25) (k:=(xD v1)) rfl rfl c27_.2 (by kernel_rfl) (.row (by kernel_rfl) (.arr (λ_=>by kernel_rfl) (.arr (λ_=>by kernel_rfl) (.arr (λ_=>by kernel_rfl) (.arr (λ_=>by kernel_rfl) .nil))))) (by rw[hΓ];rfl)) (J7 (st':=⟨(Q49 v1),[(Oh 82 (nF v18)),(nY (ud v1)),(mc (yQ l10)),(25,.arr 1 3 (xD v1) (vi v1)),(36007,.arr 1 3 ((qs v1).length) (xH v1))],[]⟩) (by kernel_rfl))) (Le.trans (Fg (st':=⟨(Q49 v1),[(Oh 82 (nF v18)),(nY (ud v1)),(mc (yQ l10)),(25,.arr 1 3 (xD v1) (λi=>As ((Q46 v1).getD i 0))),(36007,.arr 1 3 ((qs v1).length) (xH v1))],[]⟩) (TmpsLe.refl _) (.same (.same (.same (.arr (j4 (e:=As) (d:=(0:Int))) (.same .nil)))))) (J7 (Ci (λk_:Nat=>(⟨[Ty,nX,nW,(7,(.vsl 36007 (qs v1).length)),(8,(.vsl 25 k_))],[(Oh 82 (nF v18)),(nY (ud v1)),(mc (yQ l10)),(25,.arr 1 3 k_ (λi=>As ((Q46 v1).getD i 0))),(36007,.arr 1 3 ((qs v1).length) (xH v1))],[]⟩:St)) (show(xD v1)=(Q46 v1).length from eQ c27_.2))))) (Ac q [2,5,6,7,8,78] P3 (gC h (λh=>tS h (ss (Bn CS P3 q))) λh=>tB h λx28 y28 h=>tC h λc29_ h=>tT q [7] [36007] [⟨[(36007,34000)],[],(.tuple []),[(Z4 34000 x28)],[],[]⟩] (c1 (Oj y28)) (Gl (Vz (λ(k_:Nat) u=>(Do u [(Vu 36007 k_)] [])) (show(qs v1).length=x28.length from c29_)) (Ac q [4] [36007] (P5 (⟨[(4,(.vsl 36007 x28.length))],[(Z4 36007 x28)],[]⟩:St) (tS h (uv (M1 (H6 [(36007,20000)] (Le.trans (Ka (nm:=36007) (sz:=1) (n:=x28.length) (e:=3) (f:=(λi=>As (x28.getD i 0))) (g:=(λi=>As (x28.getD i 0))) rfl ⟨rfl,trivial⟩ (λ_ _=>rfl) (by rw[hΓ];rfl)) (J7 (st':=⟨[(4,(DW x28 36007))],(VB 36007 x28.length),[]⟩) (by kernel_rfl))))))))))))))))) | .inr ⟨l11,l12,l13⟩,h=>uu (λst' hl30=>tS h (ss (Le.trans hl30 H7))))))))))))))))) (λ⟨l1,l2,l3,l4⟩ y h=>tC h λc31_ h=>tU q FE P3 (c2 c31_ (Eq.refl l3.length)) (tL q h FE P3 (λu l32=>(Do u [] [(yY l32)])) (λu x_=>match x_ with|(.inl l33)=>aG Γ (.exit 0) (Do u [] [(mc (yR l33))])|(.inr (l34,l35,l36))=>aG Γ (.goto 0) (N4 CS P3 u [(8,(.vsl 25 l36.length))] [(5,.arr 1 165 64 (λi=>eB (l34.getD i false))),(yY l35),(Z4 25 l36)])) (λl32 y h=>tC h λc37_ h=>tC h λc38_ h=>tU q [2,5,6,7,8,9,41] P3 (c3 c37_ (Eq.refl 64) c38_) (gC h (λh=>tC h λc39_ h=>tC h λc40_ h=>tC h λc41_ h=>tU q bf P3 (c4 c39_ c40_ (Eq.refl 64) c41_) (tC h λc42_ h=>tC h λc43_ h=>tU q bf P3 (c4 c42_ (Eq.refl 64) c43_ (Eq.refl 64)) (Gl (Hy 6 (show ∀ k_,k_<64->AVleL ((λi_=>AV.eraseAll er ((Eb (λi=>As (l32.getD i 0)) (mY l3).toNat 0 [(.int .i64 (w64 ((l32.getD (mY l3).toNat (0:Int))+1)))]) i_)) k_) ((λi=>As ((Fx 64 (0:Int) l32 (mY l3).toNat (w64 ((l32.getD (mY l3).toNat (0:Int))+1))).getD i 0)) k_) from(Cm rfl (λk_ hk_=>(Ci (AV.eraseAll er) ((Wz (λ_ _=>rfl) (Hd c43_) rfl) k_ hk_)).trans rfl)))) (tC h λc44_ h=>tU q qh P3 (c2 c44_ (Eq.refl 64)) (gC h (λh=>tC h λc45_ h=>tU q [2,5,6,7,8,10] P3 (c2 c45_ (Eq.refl 64)) (Gl (Hy 5 (show ∀ k_,k_<64->AVleL ((λi_=>AV.eraseAll er ((Eb (xF l1) (qr v18 l3 l32).toNat 0 [(.bool true)]) i_)) k_) ((λi=>eB ((Fx 64 false l1 (qr v18 l3 l32).toNat true).getD i false)) k_) from(Cm rfl (λk_ hk_=>(Ci (AV.eraseAll er) ((Wz (λ_ _=>rfl) (Hd c45_) rfl) k_ hk_)).trans rfl)))) (tC h λc46_ h=>gR q CS P3 [(65,(uh (qr v18 l3 l32)))] [] (c3 (Bu 1 As (0:Int) ([(qr v18 l3 l32)]:Az)) (Eq.refl l3.length) c46_) (tS h (gO (Bk (Le.trans (Le.trans (Hy 25 (show ∀ k_,k_<(l3.length+([(qr v18 l3 l32)]:Az).length)->AVleL ((λi_=>AV.eraseAll er ((Ov l3.length (λi=>As (l3.getD i 0)) (λi=>As (([(qr v18 l3 l32)]:Az).getD i 0))) i_)) k_) ((λi=>As ((l3++([(qr v18 l3 l32)]:Az)).getD i 0)) k_) from(Cm (Ep _ _) (λk_ hk_=>(Ci (AV.eraseAll er) ((GZ (λ_ _=>rfl) (λ_ _=>rfl)) k_ hk_)).trans rfl)))) (Vz (λ(k_:Nat) u=>(Do u [(8,(.vsl 25 k_))] [(25,.arr 1 3 k_ (λi=>As ((l3++([(qr v18 l3 l32)]:Az)).getD i 0)))])) (show(l3.length+([(qr v18 l3 l32)]:Az).length)=(l3++([(qr v18 l3 l32)]:Az)).length from(Ep _ _)))) H7))))))) λh=>tS h (gN (Bn FE P3 q))))))) λh=>tS h (gO (Bk (Bn FE P3 q))))) λx47 h=>(match x47,h with | .inl l33,h=>gA (tC h λc49_ h=>gR q CS P3 [(69,(uh (mY l3)))] [] (c3 (Bu 1 As (0:Int) ([(mY l3)]:Az)) (Eq.refl l4.length) c49_) (Gl (Le.trans (Hy 36007 (show ∀ k_,k_<(l4.length+([(mY l3)]:Az).length)->AVleL ((λi_=>AV.eraseAll er ((Ov l4.length (λi=>As (l4.getD i 0)) (λi=>As (([(mY l3)]:Az).getD i 0))) i_)) k_) ((xG l4 l3) k_) from(Cm (Ep _ _) (λk_ hk_=>(Ci (AV.eraseAll er) ((GZ (λ_ _=>rfl) (λ_ _=>rfl)) k_ hk_)).trans rfl)))) (Vz (λ(k_:Nat) u=>(Do u [(Vu 36007 k_)] [(36007,.arr 1 3 k_ (xG l4 l3))])) (show(l4.length+([(mY l3)]:Az).length)=(nO l4 l3).length from(Ep _ _)))) (tC h λc50_ h=>tU q CS P3 (c1 c50_) (P5 (⟨[Ty,nX,nW,(7,(.vsl 36007 (nO l4 l3).length)),(8,(.vsub 25 l3.length 0 (vg l3)))],[(Oh 82 (nF v18)),(nY (xF l1)),(mc (yR l33)),(Z4 25 l3),(36007,.arr 1 3 ((nO l4 l3).length) (xG l4 l3))],[]⟩:St) (Gl (Le.trans (Le.trans (dK (t:=8) (r:=25) (k:=(vg l3)) rfl rfl c50_.2 (by kernel_rfl) (.row (by kernel_rfl) (.arr (λ_=>by kernel_rfl) (.arr (λ_=>by kernel_rfl) (.arr (λ_=>by kernel_rfl) (.arr (λ_=>by kernel_rfl) .nil))))) (by rw[hΓ];rfl)) (J7 (st':=⟨[Ty,nX,nW,(7,(.vsl 36007 (nO l4 l3).length)),(8,(.vsl 25 (vg l3)))],[(Oh 82 (nF v18)),(nY (xF l1)),(mc (yR l33)),(25,.arr 1 3 (vg l3) (λi=>As (l3.getD i 0))),(36007,.arr 1 3 ((nO l4 l3).length) (xG l4 l3))],[]⟩) (by kernel_rfl))) (Le.trans (Fg (st':=⟨[Ty,nX,nW,(7,(.vsl 36007 (nO l4 l3).length)),(8,(.vsl 25 (vg l3)))],[(Oh 82 (nF v18)),(nY (xF l1)),(mc (yR l33)),(25,.arr 1 3 (vg l3) (λi=>As ((l3.take (w64 ((l3.length:Int)-1)).toNat).getD i 0))),(36007,.arr 1 3 ((nO l4 l3).length) (xG l4 l3))],[]⟩) (TmpsLe.refl _) (.same (.same (.same (.arr (j4 (e:=As) (d:=(0:Int))) (.same .nil)))))) (J7 (Ci (λk_:Nat=>(⟨[Ty,nX,nW,(7,(.vsl 36007 (nO l4 l3).length)),(8,(.vsl 25 k_))],[(Oh 82 (nF v18)),(nY (xF l1)),(mc (yR l33)),(25,.arr 1 3 k_ (λi=>As ((l3.take (w64 ((l3.length:Int)-1)).toNat).getD i 0))),(36007,.arr 1 3 ((nO l4 l3).length) (xG l4 l3))],[]⟩:St)) (show(vg l3)=(l3.take (w64 ((l3.length:Int)-1)).toNat).length from eQ c50_.2))))) (Ac q [2,5,6,7,8,78] P3 (gC h (λh=>tS h (ss (Bn CS P3 q))) λh=>tB h λx51 y51 h=>tC h λc52_ h=>tT q [7] [36007] [⟨[(36007,34000)],[],(.tuple []),[(Z4 34000 x51)],[],[]⟩] (c1 (Oj y51)) (Gl (Vz (λ(k_:Nat) u=>(Do u [(Vu 36007 k_)] [])) (show(nO l4 l3).length=x51.length from c52_)) (Ac q [4] [36007] (P5 (⟨[(4,(.vsl 36007 x51.length))],[(Z4 36007 x51)],[]⟩:St) (tS h (uv (M1 (H6 [(36007,20000)] (Le.trans (Ka (nm:=36007) (sz:=1) (n:=x51.length) (e:=3) (f:=(λi=>As (x51.getD i 0))) (g:=(λi=>As (x51.getD i 0))) rfl ⟨rfl,trivial⟩ (λ_ _=>rfl) (by rw[hΓ];rfl)) (J7 (st':=⟨[(4,(DW x51 36007))],(VB 36007 x51.length),[]⟩) (by kernel_rfl))))))))))))))))) | .inr ⟨l34,l35,l36⟩,h=>uu (λst' hl53=>tS h (ss (Le.trans hl53 H7)))))) (P4 (λst' hk=>tS h (gK hk))))
def HN(a4:Int)(aW:Int):Option G8:=
 (some ((Bo ((Bo ((Bo ((IM .u64 a4 (32:Int))*(IM .u64 aW (32:Int))))+(IM .u64 (Bo ((Bo ((IM .u64 a4 (32:Int))*(U3 .and .u64 aW (4294967295:Int))))+(IM .u64 (Bo ((U3 .and .u64 a4 (4294967295:Int))*(U3 .and .u64 aW (4294967295:Int)))) (32:Int)))) (32:Int))))+(IM .u64 (Bo ((U3 .and .u64 (Bo ((Bo ((IM .u64 a4 (32:Int))*(U3 .and .u64 aW (4294967295:Int))))+(IM .u64 (Bo ((U3 .and .u64 a4 (4294967295:Int))*(U3 .and .u64 aW (4294967295:Int)))) (32:Int)))) (4294967295:Int))+(Bo ((U3 .and .u64 a4 (4294967295:Int))*(IM .u64 aW (32:Int)))))) (32:Int)))),(Bo (a4*aW))))
variable{v19:G8}
theorem VM(h:HN v1 v2=some v19):sP 149 [(Me v1),(Me v2)] [] (.tuple [(Me v19.1),(Me v19.2)]) []:=
 sG Tryz.func149 λΓ q=>tW q I8 [] [0,1,6] [] (tU q [0,1,6,7] [] (c1 (show(0<=(32:Int)) from(by decide))) (Ac q [0,1,6,7,8] [] (tU q [0,1,6,7,8,9] [] (c1 (show(0<=(32:Int)) from(by decide))) (Ac q [0,1,6,7,8,9,10] [] (tU q [0,1,6,7,9,11] [] (c1 (show(0<=(32:Int)) from(by decide))) (Ac q [0,1,6,7,9,11,12] [] (tU q [0,1,6,7,9,12,13] [] (c1 (show(0<=(32:Int)) from(by decide))) (Ac q [0,1,7,9,12,13] [] (tU q LZ [] (c1 (show(0<=(32:Int)) from(by decide))) (Ac q R3 [] (tS h (B2 []))))))))))))
def Rn(a4:Int)(aW:Int):Option G8:=
 ((HN a4 aW).bind λx1=>(some (x1.1,x1.2)))
theorem MV(h:Rn v1 v2=some v19):sP 138 [(Me v1),(Me v2)] [] (.tuple [(Me v19.1),(Me v19.2)]) []:=
 sG Tryz.func138 λΓ q=>Ac q I8 [] (lR false (tB h λx1 y1 h=>tT q Yu [] [⟨[],[],(.tuple [(Me x1.1),(Me x1.2)]),[],[],[]⟩] (c1 (VM y1)) (Ac q R3 [] (tS h (B2 [])))))
abbrev LC:=(Int×Az)
abbrev wz:=(LR (Int×Az) Az)
def Dk :LC->Option wz:=
 λ((i7,l8):LC)=>(bif (decide (i7<(l8.length:Int))) then(A7 (0<=i7/\0+i7.toNat<=l8.length) (A7 (0<=i7/\0+i7.toNat<=l8.length) (some (.next ((w64 (i7+((Nat.min ((0+i7.toNat)-0) (l8.length-(0+i7.toNat))):Int))),(fq l8 (0+i7.toNat) (Nat.min ((0+i7.toNat)-0) (l8.length-(0+i7.toNat))) (λi=>l8.getD (0+i) 0))))))) else(some (.done l8)))
def nP(x3:G8):=(List.replicate (w64 x3.2).toNat (0:Int))
def Q52(x3:G8)(a4:Az):=(fq (nP x3) 0 (Nat.min a4.length ((nP x3).length-0)) (λi=>a4.getD i 0))
def Q51(l8:Az)(i7:Int):=(fq l8 (0+i7.toNat) (Nat.min ((0+i7.toNat)-0) (l8.length-(0+i7.toNat))) (λi=>l8.getD (0+i) 0))
def Iw(a4:Az)(aa6:Int):Option Az:=
 (Option.bind (α:=Unit) (bif (decide (aa6<0)) then none else(some ())) (λx1=>(match x1 with|_=>((Rn (Bo (a4.length:Int)) (Bo aa6)).bind λx3=>(Option.bind (α:=Unit) (bif (bif (decide ((0:Int)<x3.1)) then true else(decide ((9223372036854775807:Int)<x3.2))) then none else(some ())) (λx4=>(match x4 with|_=>(A7 (0<=(w64 x3.2)/\(w64 x3.2)<=(w64 x3.2)/\(w64 x3.2)<=(room:Int)) ((Ab (S:=LC) (X:=Az) Dk (((Nat.min a4.length ((List.replicate (w64 x3.2).toNat (0:Int)).length-0)):Int),(fq (List.replicate (w64 x3.2).toNat (0:Int)) 0 (Nat.min a4.length ((List.replicate (w64 x3.2).toNat (0:Int)).length-0)) (λi=>a4.getD i 0)))).bind (λx12=>(some x12)))))))))))
theorem V9(h:Iw v4 v1=some v17):sP 113 [(Z7 v4),(Z6 v1)] [] (.vsl 20000 v17.length) [(Z4 20000 v17)]:=
 sG Tryz.func113 λΓ q=>gR q I8 [] [(4,ZP)] [] (c1 (Dp 1 As (0:Int))) (tB h λx1 y1 h=>gJ y1 (λ_=>aG Γ .normal (⟨[(0,(Z7 v4)),(1,(Z6 v1))],[],[]⟩:St)) (λy h=>Ac q CP [] (gC h (λh=>nomatch h) λh=>tS h (gK (Bk (Bn I8 [] q))))) (gA (tB h λx3 y3 h=>tT q [0,5,6] [] [⟨[],[],(.tuple [(Me x3.1),(Me x3.2)]),[],[],[]⟩] (c1 (MV y3)) (tB h λx4 y4 h=>gJ y4 (λ_=>aG Γ .normal (⟨[(0,(Z7 v4)),(6,(Me x3.2))],[],[]⟩:St)) (λy h=>tU q [0,6,26] [] (c2 (gI ((decide ((0:Int)<x3.1))==false)) (Ja (decide ((0:Int)<x3.1)))) (gC h (λh=>nomatch h) λh=>tS h (gK (Bk (Bn [0,6] [] q))))) (gA (tV q [0,7] [30] h λh=>by exact Gl (Le.trans (Hy 30 (show ∀ k_,k_<((w64 x3.2).toNat)->AVleL ((λi_=>AV.eraseAll (λn_=>Bj n_ [30]) ((λ_=>[Mt]) i_)) k_) ((λi=>As ((nP x3).getD i 0)) k_) from(λk hk=>Tn (e:=As) (d:=(0:Int)) (.cons (AVle.refl _) .nil) _ k (Tt hk)))) (Vz (λ(k_:Nat) u=>(Do u [(Vu 30 k_)] [(30,.arr 1 3 k_ (λi=>As ((nP x3).getD i 0)))])) (show(w64 x3.2).toNat=(nP x3).length from(Uq ..).symm))) (tU q Rj [30] (c1 (Eq.refl ((nP x3).length))) (Gl (Le.trans (Hy 30 (show ∀ k_,k_<((nP x3).length)->AVleL ((λi_=>AV.eraseAll (λn_=>Bj n_ [30]) ((cq (λi=>As ((nP x3).getD i 0)) 0 (Nat.min v4.length ((nP x3).length-0)) (λi=>As (v4.getD i 0))) i_)) k_) ((λi=>As ((Q52 x3 v4).getD i 0)) k_) from(Cm (Jm ..) (λk_ hk_=>(Ci (AV.eraseAll (λn_=>Bj n_ [30])) ((OR (e:=As) (d:=(0:Int)) (l:=(nP x3)) (s:=(λi=>v4.getD i 0)) (λ_ _=>rfl) (λ_ _=>rfl)) k_ hk_)).trans rfl)))) (Vz (λ(k_:Nat) u=>(Do u [(Vu 30 k_)] [(30,.arr 1 3 k_ (λi=>As ((Q52 x3 v4).getD i 0)))])) (show(nP x3).length=(Q52 x3 v4).length from(Jm ..)))) (tL q h Rj [30] (λu (i7,l8)=>(Do u [(Vu 30 l8.length),(8,(Z6 i7))] [(Z4 30 l8)])) (λu l9=>aG Γ (.exit 0) (⟨[(Vu 30 l9.length)],[(Z4 30 l9)],[]⟩:St)) (λ⟨i7,l8⟩ y h=>Ac q [7,8,37] [30] (gC h (λh=>tC h λc10_ h=>tC h λc11_ h=>tU q Rj [30] (c4 c10_ c11_ (Eq.refl l8.length) (Eq.refl l8.length)) (tS h (gN (Le.trans (Le.trans (Hy 30 (show ∀ k_,k_<l8.length->AVleL ((λi_=>AV.eraseAll (λn_=>Bj n_ [30]) ((cq (λi=>As (l8.getD i 0)) (0+i7.toNat) (Nat.min ((0+i7.toNat)-0) (l8.length-(0+i7.toNat))) (λi=>(λi=>As (l8.getD i 0)) (0+i))) i_)) k_) ((λi=>As ((Q51 l8 i7).getD i 0)) k_) from(Cm (Jm ..) (λk_ hk_=>(Ci (AV.eraseAll (λn_=>Bj n_ [30])) ((OR (e:=As) (d:=(0:Int)) (l:=l8) (s:=(λi=>l8.getD (0+i) 0)) (λ_ _=>rfl) (λ_ _=>rfl)) k_ hk_)).trans rfl)))) (Vz (λ(k_:Nat) u=>(Do u [(Vu 30 k_)] [(30,.arr 1 3 k_ (λi=>As ((Q51 l8 i7).getD i 0)))])) (show l8.length=(Q51 l8 i7).length from(Jm ..)))) H7)))) λh=>tS h (gO (Bk (Bn [7] [30] q))))) λx12 h=>gA (Ac q [4] [30] (tS h (B2 [(30,20000)]))))))))))))
set_option maxRecDepth 100000
set_option maxHeartbeats 2000000
abbrev WC:=(Int×List Bool)
abbrev qT:=(LR (Int×List Bool) (List Bool))
def K5(a8:Az):WC->Option qT:=
 λ((i2,l3):WC)=>(bif (i2 !=-1) then(A7 (A5 i2 l3.length) (A7 (A5 i2 a8.length) (some (.next ((a8.getD i2.toNat 0),(l3.set i2.toNat true)))))) else(some (.done l3)))
def Je(a8:Az)(l4:List Bool):Int->Option (LR Int Int):=
 λ(i9:Int)=>(A7 (A5 i9 l4.length) (bif (!(l4.getD i9.toNat false)) then(A7 (A5 i9 a8.length) (some (.next (a8.getD i9.toNat 0)))) else(some (.done i9))))
def Rp(a8:Az)(aB:Int)(aE:Int):Option Int:=
 (A7 (0<=(a8.length:Int)/\(a8.length:Int)<=(a8.length:Int)/\(a8.length:Int)<=(room:Int)) ((Ab (K5 a8) (aB,(List.replicate (a8.length:Int).toNat false))).bind (λx7=>((Ab (Je a8 x7) aE).bind (λx13=>(some x13))))))
variable{v20:Int}
theorem MW(h:Rp v4 v1 v2=some v20):sP 139 [(Z7 v4),(Z6 v1),(Z6 v2)] [] (.int .i64 v20) []:=
 sG Tryz.func139 λΓ q=>Ac q LY [] (tV q [0,1,2,7] [11] h λh=>by exact Gl (Le.trans (Hy 11 (show ∀ k_,k_<((v4.length:Int).toNat)->AVleL ((λi_=>AV.eraseAll (λn_=>Bj n_ [11]) ((λ_=>[(.bool false)]) i_)) k_) ((λi=>eB ((List.replicate (v4.length:Int).toNat false).getD i false)) k_) from(λk hk=>Tn (e:=eB) (d:=false) (.cons (AVle.refl _) .nil) _ k (Tt hk)))) (Vz (λ(k_:Nat) u=>(Do u [(Vu 11 k_)] [(11,.arr 1 4 k_ (λi=>eB ((List.replicate (v4.length:Int).toNat false).getD i false)))])) (show(v4.length:Int).toNat=(List.replicate (v4.length:Int).toNat false).length from(Uq ..).symm))) (Ac q br [11] (tL q h br [11] (λu (i2,l3)=>(Do u [(Vu 11 l3.length),(8,(Z6 i2))] [(kq 11 l3)])) (λu l4=>aG Γ (.exit 0) (N4 UF [11] u [(Vu 11 l4.length)] [(kq 11 l4)])) (λ⟨i2,l3⟩ y h=>Ac q [0,2,7,8,14] [11] (gC h (λh=>tC h λc5_ h=>tU q br [11] (c2 c5_ (Eq.refl l3.length)) (Gl (Le.trans (Hy 11 (show ∀ k_,k_<l3.length->AVleL ((λi_=>AV.eraseAll (λn_=>Bj n_ [11]) ((Eb (λi=>eB (l3.getD i false)) i2.toNat 0 [(.bool true)]) i_)) k_) ((λi=>eB ((l3.set i2.toNat true).getD i false)) k_) from(Cm (G9 ..).symm (λk_ hk_=>(Ci (AV.eraseAll (λn_=>Bj n_ [11])) ((Kz (λ_ _=>rfl) (M8 c5_) rfl) k_ hk_)).trans rfl)))) (Vz (λ(k_:Nat) u=>(Do u [(Vu 11 k_)] [(11,.arr 1 4 k_ (λi=>eB ((l3.set i2.toNat true).getD i false)))])) (show l3.length=(l3.set i2.toNat true).length from(G9 ..).symm))) (tV q br [11] h λh=>tN h))) λh=>tS h (gO (Bk (Bn UF [11] q))))) λx7 h=>gA (tL q h UF [11] (λu i9=>(Do u [(2,(Z6 i9))] [])) (λu i10=>aG Γ (.exit 2) (⟨[(2,(Z6 i10))],[],[]⟩:St)) (λi9 y h=>tC h λc11_ h=>tU q [0,2,7,26] [11] (c2 c11_ (Eq.refl x7.length)) (gC h (λh=>tV q UF [11] h λh=>tN h) λh=>tS h (gO (Bk (Bn [2] [] q))))) λx13 h=>gA (Ac q [6] [] (tS h (B2 [])))))))
def F5(a8:Az)(aI:Az):G8->Option w5:=
 λ((i1,i2):G8)=>(bif (decide (i2<(aI.length:Int))) then(Option.bind (α:=Int) (A7 (A5 i2 aI.length) (A7 (A5 (aI.getD i2.toNat 0) a8.length) (bif ((a8.getD (aI.getD i2.toNat 0).toNat (0:Int))==-2) then(some i1) else(bif (i1==-2) then(some (aI.getD i2.toNat 0)) else((Rp a8 i1 (aI.getD i2.toNat 0)).bind λx7=>(some x7)))))) (λx8=>(some (.next (x8,(w64 (i2+1))))))) else(some (.done i1)))
def My(a8:Az)(aI:Az):Option Int:=
 ((Ab (F5 a8 aI) ((-2:Int),(0:Int))).bind (λx10=>(some x10)))
theorem BJ(h:My v4 v17=some v1):sP 114 [(Z7 v4),(Z7 v17)] [] (.int .i64 v1) []:=
 sG Tryz.func114 λΓ q=>tW q I8 [] Pz [] (Ac q YW [] (tL q h YW [] (λu (i1,i2)=>(Do u [(5,(Z6 i1)),(10,(Z6 i2))] [])) (λu i3=>aG Γ (.exit 0) (⟨[(5,(Z6 i3))],[],[]⟩:St)) (λ⟨i1,i2⟩ y h=>Ac q [0,5,8,9,10,11] [] (gC h (λh=>tB h λx8 y8 h=>gJ y8 (λi4=>aG Γ .normal (⟨[(0,(Z7 v4)),(5,(Z6 i4)),(8,(Z7 v17)),(9,(NY v17.length)),(10,(Z6 i2))],[],[]⟩:St)) (λy h=>tV q [0,5,7,8,9,10] [] h λh=>tV q [0,5,7,8,9,10,18] [] h λh=>gC h (λh=>tS h (gK (Bk (Bn YW [] q)))) λh=>Ac q [0,5,7,8,9,10,24] [] (gC h (λh=>Ac q YW [] (tS h (gK (Bk H7)))) λh=>tB h λx7 y7 h=>tT q YW [] [(EE x7)] (c1 (MW y7)) (tS h (gK (Bk H7))))) (gA (Ac q YW [] (tN h)))) λh=>tS h (gO (Bk (Bn [5] [] q))))) λx10 h=>gA (Ac q [4] [] (tS h (B2 [])))))
abbrev uT:=(Bool×Int×Az)
abbrev zL:=(LR (Bool×Int×Az) (Bool×Az))
abbrev qU:=(Bool×Az)
def Fm(a5:TGraph)(x3:Az):uT->Option zL:=
 λ((b7,i8,l9):uT)=>(bif (decide (i8<((x3.drop (1:Int).toNat).length:Int))) then(Option.bind (α:=qU) (A7 (A5 i8 (x3.drop (1:Int).toNat).length) (A7 (A5 ((x3.drop (1:Int).toNat).getD i8.toNat 0) a5.Pred.length) ((My l9 (a5.Pred.getD ((x3.drop (1:Int).toNat).getD i8.toNat 0).toNat [])).bind λx16=>(A7 (A5 ((x3.drop (1:Int).toNat).getD i8.toNat 0) l9.length) (bif (x16 !=(l9.getD ((x3.drop (1:Int).toNat).getD i8.toNat 0).toNat (0:Int))) then(A7 (A5 ((x3.drop (1:Int).toNat).getD i8.toNat 0) l9.length) (some (true,(l9.set ((x3.drop (1:Int).toNat).getD i8.toNat 0).toNat x16)))) else(some (b7,l9))))))) (λ(b12,l13)=>(some (.next (b12,(w64 (i8+1)),l13))))) else(some (.done (b7,l9))))
def V0(a5:TGraph)(l1:Az):uT->Option zL:=
 λ((b24,i25,l26):uT)=>(bif (decide (i25<((l1.drop (1:Int).toNat).length:Int))) then(Option.bind (α:=qU) (A7 (A5 i25 (l1.drop (1:Int).toNat).length) (A7 (A5 ((l1.drop (1:Int).toNat).getD i25.toNat 0) a5.Pred.length) ((My l26 (a5.Pred.getD ((l1.drop (1:Int).toNat).getD i25.toNat 0).toNat [])).bind λx33=>(A7 (A5 ((l1.drop (1:Int).toNat).getD i25.toNat 0) l26.length) (bif (x33 !=(l26.getD ((l1.drop (1:Int).toNat).getD i25.toNat 0).toNat (0:Int))) then(A7 (A5 ((l1.drop (1:Int).toNat).getD i25.toNat 0) l26.length) (some (true,(l26.set ((l1.drop (1:Int).toNat).getD i25.toNat 0).toNat x33)))) else(some (b24,l26))))))) (λ(b29,l30)=>(some (.next (b29,(w64 (i25+1)),l30))))) else(some (.done (b24,l26))))
abbrev qV:=(Az×Az)
def H2(a5:TGraph):qV->Option (LR (Az×Az) Az):=
 λ(s_:qV)=>match s_ with|(l1,l2)=>(A7 (0<=(1:Int)/\(1:Int)<=(l1.length:Int)) ((Ab (V0 a5 l1) (false,(0:Int),l2)).bind (λx38=>(match x38 with|(b27,l28)=>(bif b27 then(some (.next (l1,l28))) else(some (.done l28)))))))
def fB(Γ:Ix)(a5:TGraph)(aa1:Int)(r:Az):Exit->St->Prop:=fK Tryz.prog Γ Tryz.f85.results.toList [] (DW r 20000) (VB 20000 r.length)
def xI:=(λn_=>Bj n_ [2,13,21])
def zk:List PI:=[(4,ZP)]
def zj(x3:Az)(i8:Int):=((x3.drop (1:Int).toNat).getD i8.toNat 0)
def zi(l1:Az)(i25:Int):=((l1.drop (1:Int).toNat).getD i25.toNat 0)
def Q56(a5:TGraph):List AV:=[(UQ a5.Succ),(UQ a5.Pred)]
def Q58:=(Z23:St)
def Ud(a5:TGraph)(aa1:Int):Option Az:=
 ((Ym (S:=qV) (X:=Az) ((K6 a5 aa1).bind λx3=>(bif ((x3.length:Int)==0) then(some (.done ([]:Az))) else((Iw ([(-2:Int)]:Az) (a5.Succ.length:Int)).bind λx4=>(A7 (A5 aa1 x4.length) (A7 (0<=(1:Int)/\(1:Int)<=(x3.length:Int)) ((Ab (Fm a5 x3) (false,(0:Int),(x4.set aa1.toNat (-1:Int)))).bind (λ(b10,l11)=>(bif b10 then(some (.next (x3,l11))) else(some (.done l11)))))))))) (H2 a5)).bind (λx40=>(some x40)))
theorem dj(h:Ud v18 v1=some v4):sP 85 (qu v18 v1) [] (DW v4 20000) (VB 20000 v4.length):=
 sG Tryz.func85 λΓ q=>have hΓ:=q.own;gR q Om [2] zk [] (c1 (Dp 1 As (0:Int))) (tB h λx40 y40 h=>gS y40 (λ(s_:qV)=>match s_ with|(l1,l2)=>0) (λ(s_:qV)=>match s_ with|(l1,l2)=>(⟨[Ty,(5,(DW l1 13)),(6,(.vsl 21 l2.length))],[(Oh 82 (Q56 v18)),(13,.tok 1 3 l1.length),(Z4 21 l2)],[]⟩:St)) (λr_=>aR (fB Γ v18 v1 r_)) (λy h=>tB h λx3 y3 h=>tT q CT [2,13] [(xN 13 x3 x3.length)] (c1 (BK y3)) (Ac q [1,2,5,16] [2,13] (gC h (λh=>gR q [4] [] zk [] (c1 (Dp 1 As (0:Int))) (P5 (⟨zk,[],[]⟩:St) (tS h (uv (M1 (H6 TO (show Le Γ _ Q58 from Le.trans (Bn (st':=⟨zk,[],[]⟩) [4] [] q) (Le.trans (Qb (t:=4) (nm:=6004) (sz':=1) (λi=>As (([]:Az).getD i 0)) 3 rfl rfl (.inl ⟨rfl,rfl⟩) (λh_=>absurd h_ (by decide))) (Bn (st':=Q58) [4] [6004] q))))))))) λh=>tB h λx4 y4 h=>gR q [1,2,5,6] J9 [(17,(AV.list 1 As 0 ([(-2:Int)]:Az) .exact))] [⟨[],[(20000,21)],(.vsl 20000 x4.length),[(Z4 20000 x4)],[],[]⟩] (c2 (Bu 1 As (0:Int) ([(-2:Int)]:Az)) (V9 y4)) (tC h λc5_ h=>tU q Xb J9 (c2 c5_ (Eq.refl x4.length)) (Gl (Le.trans (Hy 21 (show ∀ k_,k_<x4.length->AVleL ((λi_=>AV.eraseAll xI ((Eb (λi=>As (x4.getD i 0)) v1.toNat 0 [(.int .i64 (-1:Int))]) i_)) k_) ((λi=>As ((x4.set v1.toNat (-1:Int)).getD i 0)) k_) from(Cm (G9 ..).symm (λk_ hk_=>(Ci (AV.eraseAll xI) ((Kz (λ_ _=>rfl) (M8 c5_) rfl) k_ hk_)).trans rfl)))) (Vz (λ(k_:Nat) u=>(Do u [(6,(.vsl 21 k_))] [(21,.arr 1 3 k_ (λi=>As ((x4.set v1.toNat (-1:Int)).getD i 0)))])) (show x4.length=(x4.set v1.toNat (-1:Int)).length from(G9 ..).symm))) (Ac q LT J9 (tC h λc6_ h=>gR q FD J9 [(26,(AV.list 1 As 0 (x3.drop (1:Int).toNat) .none))] [] (c2 c6_ (show(AVle (.slice 1 (x3.length-(1:Int).toNat) (λi=>As (x3.getD ((1:Int).toNat+i) 0)) .none) (AV.list 1 As 0 (x3.drop (1:Int).toNat) .none)) from ZT)) (tL q h FD J9 (λu (b7,i8,l9)=>(Do u [(6,(.vsl 21 l9.length)),(7,(.bool b7)),(28,(Z6 i8))] [(Z4 21 l9)])) (λu (b10,l11)=>aG Γ (.exit 0) (N4 LT J9 u [(6,(.vsl 21 l11.length)),(7,(.bool b10))] [(Z4 21 l11)])) (λ⟨b7,i8,l9⟩ y h=>Ac q qe J9 (gC h (λh=>tB h λx19 y19 h=>gJ y19 (λ(b12,l13)=>aG Γ .normal (⟨[Ty,(5,(DW x3 13)),(6,(.vsl 21 l13.length)),(7,(.bool b12)),(26,(AV.list 1 As 0 (x3.drop (1:Int).toNat) .none)),(27,(.int .i64 ((x3.drop (1:Int).toNat).length:Int))),(28,(Z6 i8))],[(Oh 82 (Q56 v18)),(13,.tok 1 3 x3.length),(Z4 21 l13)],[]⟩:St)) (λy h=>tV q qf J9 h λh=>tC h λc15_ h=>tB h λx16 y16 h=>tT q qc J9 [⟨[],[],(Z6 x16),[],[21],[]⟩] (c4 c15_ (BJ y16) (show(QJ []) from trivial) (Eq.refl l9.length)) (tC h λc17_ h=>tU q qa J9 (c2 c17_ (Eq.refl l9.length)) (gC h (λh=>tC h λc18_ h=>tU q FD J9 (c2 c18_ (Eq.refl l9.length)) (tS h (gK (Bk (Le.trans (Le.trans (Hy 21 (show ∀ k_,k_<l9.length->AVleL ((λi_=>AV.eraseAll xI ((Eb (λi=>As (l9.getD i 0)) (zj x3 i8).toNat 0 [(Z6 x16)]) i_)) k_) ((λi=>As ((l9.set (zj x3 i8).toNat x16).getD i 0)) k_) from(Cm (G9 ..).symm (λk_ hk_=>(Ci (AV.eraseAll xI) ((Kz (λ_ _=>rfl) (M8 c18_) rfl) k_ hk_)).trans rfl)))) (Vz (λ(k_:Nat) u=>(Do u [(6,(.vsl 21 k_))] [(21,.arr 1 3 k_ (λi=>As ((l9.set (zj x3 i8).toNat x16).getD i 0)))])) (show l9.length=(l9.set (zj x3 i8).toNat x16).length from(G9 ..).symm))) H7))))) λh=>tS h (gK (Bk (Bn FD J9 q)))))) (match x19,h with|⟨b12,l13⟩,h=>gA (Ac q FD J9 (tN h)))) λh=>tS h (gO (Bk (Bn LT J9 q))))) λx21 h=>(match x21,h with|⟨b10,l11⟩,h=>gA (Ac q [2,5,6,50] J9 (gC h (λh=>tS h (ss (Bn Xb J9 q))) λh=>Ac q [4] [21] (P5 (⟨[(4,(.vsl 21 l11.length))],[(Z4 21 l11)],[]⟩:St) (tS h (uv (M1 (H6 [(21,20000)] (Le.trans (Ka (nm:=21) (sz:=1) (n:=l11.length) (e:=3) (f:=(λi=>As (l11.getD i 0))) (g:=(λi=>As (l11.getD i 0))) rfl ⟨rfl,trivial⟩ (λ_ _=>rfl) (by rw[hΓ];rfl)) (J7 (st':=⟨[(4,(DW l11 21))],(VB 21 l11.length),[]⟩) (by kernel_rfl))))))))))))))))))) (λ⟨l1,l2⟩ y h=>Ac q LT J9 (tC h λc23_ h=>gR q FD J9 [(26,(AV.list 1 As 0 (l1.drop (1:Int).toNat) .none))] [] (c2 c23_ (show(AVle (.slice 1 (l1.length-(1:Int).toNat) (λi=>As (l1.getD ((1:Int).toNat+i) 0)) .none) (AV.list 1 As 0 (l1.drop (1:Int).toNat) .none)) from ZT)) (tL q h FD J9 (λu (b24,i25,l26)=>(Do u [(6,(.vsl 21 l26.length)),(7,(.bool b24)),(28,(Z6 i25))] [(Z4 21 l26)])) (λu (b27,l28)=>aG Γ (.exit 0) (N4 LT J9 u [(6,(.vsl 21 l28.length)),(7,(.bool b27))] [(Z4 21 l28)])) (λ⟨b24,i25,l26⟩ y h=>Ac q qe J9 (gC h (λh=>tB h λx36 y36 h=>gJ y36 (λ(b29,l30)=>aG Γ .normal (⟨[Ty,(5,(DW l1 13)),(6,(.vsl 21 l30.length)),(7,(.bool b29)),(26,(AV.list 1 As 0 (l1.drop (1:Int).toNat) .none)),(27,(.int .i64 ((l1.drop (1:Int).toNat).length:Int))),(28,(Z6 i25))],[(Oh 82 (Q56 v18)),(13,.tok 1 3 l1.length),(Z4 21 l30)],[]⟩:St)) (λy h=>tV q qf J9 h λh=>tC h λc32_ h=>tB h λx33 y33 h=>tT q qc J9 [⟨[],[],(Z6 x33),[],[21],[]⟩] (c4 c32_ (BJ y33) (show(QJ []) from trivial) (Eq.refl l26.length)) (tC h λc34_ h=>tU q qa J9 (c2 c34_ (Eq.refl l26.length)) (gC h (λh=>tC h λc35_ h=>tU q FD J9 (c2 c35_ (Eq.refl l26.length)) (tS h (gK (Bk (Le.trans (Le.trans (Hy 21 (show ∀ k_,k_<l26.length->AVleL ((λi_=>AV.eraseAll xI ((Eb (λi=>As (l26.getD i 0)) (zi l1 i25).toNat 0 [(Z6 x33)]) i_)) k_) ((λi=>As ((l26.set (zi l1 i25).toNat x33).getD i 0)) k_) from(Cm (G9 ..).symm (λk_ hk_=>(Ci (AV.eraseAll xI) ((Kz (λ_ _=>rfl) (M8 c35_) rfl) k_ hk_)).trans rfl)))) (Vz (λ(k_:Nat) u=>(Do u [(6,(.vsl 21 k_))] [(21,.arr 1 3 k_ (λi=>As ((l26.set (zi l1 i25).toNat x33).getD i 0)))])) (show l26.length=(l26.set (zi l1 i25).toNat x33).length from(G9 ..).symm))) H7))))) λh=>tS h (gK (Bk (Bn FD J9 q)))))) (match x36,h with|⟨b29,l30⟩,h=>gA (Ac q FD J9 (tN h)))) λh=>tS h (gO (Bk (Bn LT J9 q))))) λx38 h=>(match x38,h with|⟨b27,l28⟩,h=>gA (Ac q [2,5,6,50] J9 (gC h (λh=>tS h (ss (Bn Xb J9 q))) λh=>Ac q [4] [21] (P5 (⟨[(4,(.vsl 21 l28.length))],[(Z4 21 l28)],[]⟩:St) (tS h (uv (M1 (H6 [(21,20000)] (Le.trans (Ka (nm:=21) (sz:=1) (n:=l28.length) (e:=3) (f:=(λi=>As (l28.getD i 0))) (g:=(λi=>As (l28.getD i 0))) rfl ⟨rfl,trivial⟩ (λ_ _=>rfl) (by rw[hΓ];rfl)) (J7 (st':=⟨[(4,(DW l28 21))],(VB 21 l28.length),[]⟩) (by kernel_rfl)))))))))))))) (P4 (λst' hk=>tS h (gK hk))))
def Pl(aa9:List Ic)(aaC:Az):Int->Option (LR Int (Unit ⊕ Bool)):=
 λ(i1:Int)=>(bif (decide (i1<(aa9.length:Int))) then(A7 (A5 i1 aa9.length) ((G0 ((aa9.getD i1.toNat default).From) aaC).bind λx3=>(bif (bif (!x3) then true else((((aa9.getD i1.toNat default).Args).length:Int)!=(aaC.length:Int))) then(some (.done (.inr false))) else(some (.next (w64 (i1+1))))))) else(some (.done (.inl ()))))
def NU(Γ:Ix)(aa9:List Ic)(aaC:Az)(r:Bool):Exit->St->Prop:=fK Tryz.prog Γ Tryz.f86.results.toList [] (.bool r) []
def O7(aa9:List Ic)(aaC:Az):Option Bool:=
 ((Ab (Pl aa9 aaC) (0:Int)).bind (λx4=>(match x4 with|(.inl _)=>(some true)|(.inr r6)=>(some r6))))
theorem KL(h:O7 v7 v4=some v5):sP 86 [(AV.list 4 Y0 default v7 .none),(Z7 v4)] [] (.bool v5) []:=
 sG Tryz.func86 λΓ q=>tW q I8 [] Ng [] (tL q h Ng [] (λu i1=>(Do u [(9,(Z6 i1))] [])) (λu x_=>match x_ with|(.inl _)=>aG Γ (.exit 0) (⟨[],[],[]⟩:St)|(.inr r_)=>aR (NU Γ v7 v4 r_)) (λi1 y h=>Ac q NQ [] (gC h (λh=>tV q NR [6] h λh=>tB h λx3 y3 h=>tT q [1,7,8,9,25] [] [(Z2 x3)] (ci (Ps y3) (qz ((!x3)==false) (c1 (Ja (!x3))))) (gC h (λh=>Ac q [4] [] (tS h (gO (M1 (H6 [] (Le.refl _ _)))))) λh=>Ac q Ng [] (tN h))) λh=>tS h (gO (Bk (Bn [] [] q))))) λx4 h=>(match x4,h with | .inl _,h=>gA (Ac q [4] [] (tS h (B2 []))) | .inr r6,h=>P4 (λst' hk=>tS h (gK hk))))
def Q59(aM:M0):=(bif (aM.Kind==0) then true else(aM.Kind==2))
def O6(aM:M0):Option Bool:=
 (some (bif (bif (aM.Kind==0) then true else(aM.Kind==2)) then true else(aM.Arg==0)))
theorem KK(h:O6 v9=some v5):sP 87 [(.agg (jQ v9))] [] (.bool v5) []:=
 sG Tryz.func87 λΓ q=>Ac q [1] [1] (tU q [2] [] (M2 ((v9.Kind==0)==false) (ci (Ja (v9.Kind==0)) (M2 ((Q59 v9)==false) (c1 (Ja (Q59 v9)))))) (tS h (B2 [])))
def Du(a3:TFunc)(a7:Int)(a9:List Bm)(x1:mh)(x3:Az):Int->Option (LR Int (Unit ⊕ (Int×TFunc×Int×Az×List Bm))):=
 λ(i4:Int)=>(bif (decide (i4<(a3.Blocks.length:Int))) then(A7 (A5 i4 a3.Blocks.length) (A7 (A5 i4 x1.1.Pred.length) ((O7 ((a3.Blocks.getD i4.toNat default).Phis) (x1.1.Pred.getD i4.toNat [])).bind λx7=>((bif ((!x7)==false) then O6 (⟨(a3.Blocks.getD i4.toNat default).End.Kind,(a3.Blocks.getD i4.toNat default).End.Arg,(a3.Blocks.getD i4.toNat default).End.To⟩:M0) else some false).bind λx8=>(bif (bif (!x7) then true else(!x8)) then(some (.done (.inr ((5:Int),a3,a7,x3,a9)))) else(some (.next (w64 (i4+1))))))))) else(some (.done (.inl ()))))
def Xd(Γ:Ix)(a3:TFunc)(a7:Int)(aH:Az)(a9:List Bm)(r:mR):Exit->St->Prop:=fK Tryz.prog Γ Tryz.f72.results.toList (Z3 a3.Params a3.Ret a3.Blocks a7 aH a9 a9.length) (Z6 r.1) (Z3 r.2.1.Params r.2.1.Ret r.2.1.Blocks r.2.2.1 r.2.2.2.1 r.2.2.2.2 r.2.2.2.2.length)
def Q62(x1:mh):=((x1.2 !=0)==false)
def Q61(x3:Az)(a3:TFunc)(a7:Int)(a9:List Bm):List bZ:=[(31,.tok 1 3 x3.length),(30000,.row 110 [(Z7 a3.Params),(Z6 a3.Ret),(OM a3.Blocks),(Z6 a7),(Z7 x3),.nilm,(AV.list 5 Ox default a9 (.own 37006))]),(Ni 37006 158 a9.length)]
def zl(x3:Az)(a3:TFunc)(a7:Int)(a9:List Bm):List bZ:=[(31,.tok 1 3 x3.length),(30000,.row 110 [(Z7 a3.Params),(Z6 a3.Ret),(OM a3.Blocks),(Z6 a7),(DW x3 31),.nilm,(AV.list 5 Ox default a9 (.own 37006))]),(Ni 37006 158 a9.length)]
def Jc(a3:TFunc)(a7:Int)(aH:Az)(a9:List Bm):Option mR:=
 ((Xw a3).bind λx1=>((bif ((x1.2 !=0)==false) then K6 x1.1 (0:Int) else some []).bind λx2=>(bif (bif (x1.2 !=0) then true else(decide ((x2.length:Int)<(a3.Blocks.length:Int)))) then(some ((5:Int),a3,a7,aH,a9)) else((Ud x1.1 (0:Int)).bind λx3=>((Ab (Du a3 a7 a9 x1 x3) (0:Int)).bind (λx9=>(match x9 with|(.inl _)=>(some ((0:Int),a3,a7,x3,a9))|(.inr r11)=>(some r11))))))))
theorem Wu(h:Jc v0 v1 v4 v12=some v13):sP 72 [JH] (Z3 v0.Params v0.Ret v0.Blocks v1 v4 v12 v12.length) (Z6 v13.1) (Z3 v13.2.1.Params v13.2.1.Ret v13.2.1.Blocks v13.2.2.1 v13.2.2.2.1 v13.2.2.2.2 v13.2.2.2.2.length):=
 sG Tryz.func72 λΓ q=>Ac q [0] I7 (tB h λx1 y1 h=>tT q GO TJ [(nU x1.1 x1.2)] (c1 (dk y1)) (tB h λx2 y2 h=>tT q [0,3,28] TJ [⟨[],[],(Z7 x2),[],[],[]⟩] (e7 (gI (Q62 x1)) (show((Q62 x1)=true->(sP 84 [(.agg (Xj x1.1)),Mt] [] (Z7 x2) [])) from(λhg=>(Spec.drop (BK (Bh hg y2))))) (gI8 (Q62 x1) (c1 (Ja (x1.2 !=0))))) (gC h (λh=>Ac q [2] I7 (tS h (B2 Zf))) λh=>tB h λx3 y3 h=>tT q Qx YR [(xN 31 x3 x3.length)] (c1 (dj y3)) (Ac q ie YR (tL q h ie YR (λu i4=>(Do u [(40,(Z6 i4))] [])) (λu x_=>match x_ with|(.inl _)=>aG Γ (.exit 0) (N4 [] YT u [] [])|(.inr r_)=>aR (Xd Γ v0 v1 v4 v12 r_)) (λi4 y h=>Ac q [3,38,39,40,41] YR (gC h (λh=>tV q [3,5,6,38,39,40] [3,6,31,30000,37006] h λh=>tC h λc6_ h=>tB h λx7 y7 h=>tB h λx8 y8 h=>tT q [3,38,39,40,59] YR [(Z2 x7),(Z2 x8)] (e7 c6_ (KL y7) (M2 ((!x7)==false) (c3 (λ(hg:((!x7)==false)=true)=>(KK (Bh hg y8))) (gI ((!x7)==false)) (Ja (!x7))))) (gC h (λh=>Ac q [2] YT (P5 (⟨[(2,kv)],(zl x3 v0 v1 v12),[]⟩:St) (tS h (gO (M1 (H6 Zf (show Le Γ _ (⟨[(2,kv)],(Q61 x3 v0 v1 v12),[]⟩:St) from Le.trans (Bn (st':=⟨[(2,kv)],(zl x3 v0 v1 v12),[]⟩) [2] YT q) (Fg (.cons (AVle.refl _) .nil) (.same (.row (.cons (AVle.refl _) (.cons (AVle.refl _) (.cons (AVle.refl _) (.cons (AVle.refl _) (.cons AVle.untag (.cons (AVle.refl _) (.cons (AVle.refl _) .nil))))))) (.same .nil))))))))))) λh=>Ac q ie YR (tN h))) λh=>tS h (gO (Bk (Bn [] YT q))))) λx9 h=>(match x9,h with | .inl _,h=>gA (Ac q [2] YT (P5 (⟨[(2,Mt)],(zl x3 v0 v1 v12),[]⟩:St) (tS h (gK (e:=.ret) (H6 Zf (show Le Γ _ (⟨[(2,Mt)],(Q61 x3 v0 v1 v12),[]⟩:St) from Le.trans (Bn (st':=⟨[(2,Mt)],(zl x3 v0 v1 v12),[]⟩) [2] YT q) (Fg (.cons (AVle.refl _) .nil) (.same (.row (.cons (AVle.refl _) (.cons (AVle.refl _) (.cons (AVle.refl _) (.cons (AVle.refl _) (.cons AVle.untag (.cons (AVle.refl _) (.cons (AVle.refl _) .nil))))))) (.same .nil)))))))))) | .inr r11,h=>P4 (λst' hk=>tS h (gK hk))))))))
def K7(aJ:Int):Option Bool:=
 (Option.bind (α:=Bool) (bif (aJ==1) then(some (aJ==1)) else(bif (aJ==8) then(some (aJ==8)) else(bif (aJ==16) then(some (aJ==16)) else(bif (aJ==32) then(some (aJ==32)) else(some (aJ==64)))))) (λx2=>(bif x2 then(some true) else(some false))))
theorem N0(h:K7 v1=some v5):sP 89 [(Z6 v1)] [] (.bool v5) []:=
 sG Tryz.func89 λΓ q=>tW q [0] [] [3] [] (tB h λx2 y2 h=>gJ y2 (λb1=>aG Γ .normal (⟨[(4,(.bool b1))],[],[]⟩:St)) (λy h=>Ac q [3,4] [] (gC h (λh=>tS h (gK (Bk (Bn [4] [] q)))) λh=>Ac q [3,4] [] (gC h (λh=>tS h (gK (Bk (Bn [4] [] q)))) λh=>Ac q [3,4] [] (gC h (λh=>tS h (gK (Bk (Bn [4] [] q)))) λh=>Ac q [3,4] [] (gC h (λh=>tS h (gK (Bk (Bn [4] [] q)))) λh=>Ac q [4] [] (tS h (gK (Bk H7)))))))) (gA (gC h (λh=>Ac q [2] [] (tS h (B2 []))) λh=>Ac q [2] [] (tS h (B2 [])))))
def Pk(aI:Az):Int->Option (LR Int (Unit ⊕ Bool)):=
 λ(i1:Int)=>(bif (decide (i1<(aI.length:Int))) then(A7 (A5 i1 aI.length) ((K7 (aI.getD i1.toNat 0)).bind λx3=>(bif (!x3) then(some (.done (.inr false))) else(some (.next (w64 (i1+1))))))) else(some (.done (.inl ()))))
def NT(Γ:Ix)(aI:Az)(r:Bool):Exit->St->Prop:=fK Tryz.prog Γ Tryz.f88.results.toList [] (.bool r) []
def O5(aI:Az):Option Bool:=
 ((Ab (Pk aI) (0:Int)).bind (λx4=>(match x4 with|(.inl _)=>(some true)|(.inr r6)=>(some r6))))
theorem KJ(h:O5 v4=some v5):sP 88 [(Z7 v4),(.clo 89 [] [])] [] (.bool v5) []:=
 sG Tryz.func88 λΓ q=>tW q I8 [] Ng [] (tL q h Ng [] (λu i1=>(Do u [(9,(Z6 i1))] [])) (λu x_=>match x_ with|(.inl _)=>aG Γ (.exit 0) (⟨[],[],[]⟩:St)|(.inr r_)=>aR (NT Γ v4 r_)) (λi1 y h=>Ac q NQ [] (gC h (λh=>tV q NR [] h λh=>tB h λx3 y3 h=>tT q UM [] [(Z2 x3)] (c1 (N0 y3)) (gC h (λh=>Ac q [4] [] (tS h (gO (M1 (H6 [] (Le.refl _ _)))))) λh=>Ac q Ng [] (tN h))) λh=>tS h (gO (Bk (Bn [] [] q))))) λx4 h=>(match x4,h with | .inl _,h=>gA (Ac q [4] [] (tS h (B2 []))) | .inr r6,h=>P4 (λst' hk=>tS h (gK hk))))
def Ro(aa2:Ic):Option Bool:=
 ((K7 aa2.Bits).bind λx1=>(some x1))
theorem HW(h:Ro v6=some v5):sP 117 [(.agg (Y0 v6))] [] (.bool v5) []:=
 sG Tryz.func117 λΓ q=>Ac q [1] [1] (tB h λx1 y1 h=>tT q [2] [] [(Z2 x1)] (c1 (N0 y1)) (tS h (B2 [])))
def L8(aI:List Ic):Int->Option (LR Int (Unit ⊕ Bool)):=
 λ(i1:Int)=>(bif (decide (i1<(aI.length:Int))) then(A7 (A5 i1 aI.length) ((Ro (aI.getD i1.toNat default)).bind λx3=>(bif (!x3) then(some (.done (.inr false))) else(some (.next (w64 (i1+1))))))) else(some (.done (.inl ()))))
def DT(Γ:Ix)(aI:List Ic)(r:Bool):Exit->St->Prop:=fK Tryz.prog Γ Tryz.f116.results.toList [] (.bool r) []
def Lg(aI:List Ic):Option Bool:=
 ((Ab (L8 aI) (0:Int)).bind (λx4=>(match x4 with|(.inl _)=>(some true)|(.inr r6)=>(some r6))))
theorem BH(h:Lg v7=some v5):sP 116 [(AV.list 4 Y0 default v7 .none),(.clo 117 [] [])] [] (.bool v5) []:=
 sG Tryz.func116 λΓ q=>tW q I8 [] Ng [] (tL q h Ng [] (λu i1=>(Do u [(9,(Z6 i1))] [])) (λu x_=>match x_ with|(.inl _)=>aG Γ (.exit 0) (⟨[],[],[]⟩:St)|(.inr r_)=>aR (DT Γ v7 r_)) (λi1 y h=>Ac q NQ [] (gC h (λh=>tV q NR [6] h λh=>tB h λx3 y3 h=>tT q UM [] [(Z2 x3)] (c1 (HW y3)) (gC h (λh=>Ac q [4] [] (tS h (gO (M1 (H6 [] (Le.refl _ _)))))) λh=>Ac q Ng [] (tN h))) λh=>tS h (gO (Bk (Bn [] [] q))))) λx4 h=>(match x4,h with | .inl _,h=>gA (Ac q [4] [] (tS h (B2 []))) | .inr r6,h=>P4 (λst' hk=>tS h (gK hk))))
def Sc(aS:Int):Option Bool:=
 (some (bif (decide ((0:Int)<=aS)) then(decide (aS<=22)) else false))
theorem RR(h:Sc v1=some v5):sP 150 [(Z6 v1)] [] (.bool v5) []:=
 sG Tryz.func150 λΓ q=>Ac q [0] [] (tU q [2] [] (c2 (gI ((decide ((0:Int)<=v1))==true)) (M3 (decide ((0:Int)<=v1)))) (tS h (B2 [])))
def Q63(x5:Bool)(aJ:Int):=(bif x5 then(decide ((8:Int)<=aJ)) else false)
def Tm(aJ:Int)(aP:Int):Option Bool:=
 (bif (aP==1) then((K7 aJ).bind λx1=>(some x1)) else(Option.bind (α:=Bool) (bif (aP==2) then(some (aP==2)) else(bif (aP==4) then(some (aP==4)) else(bif (aP==8) then(some (aP==8)) else(some (aP==16))))) (λx3=>(bif x3 then((K7 aJ).bind λx5=>(some (bif (bif x5 then(decide ((8:Int)<=aJ)) else false) then(decide (((w64 (aJ*aP)):Int)<=128)) else false))) else(some false)))))
theorem VT(h:Tm v1 v2=some v5):sP 151 [(Z6 v1),(Z6 v2)] [] (.bool v5) []:=
 sG Tryz.func151 λΓ q=>tW q I8 [] Pz [] (Ac q [0,1,5,6] [] (gC h (λh=>tB h λx1 y1 h=>tT q [4] [] [(Z2 x1)] (c1 (N0 y1)) (tS h (B2 []))) λh=>tB h λx3 y3 h=>gJ y3 (λb2=>aG Γ .normal (⟨[(0,(Z6 v1)),(1,(Z6 v2)),(10,(.bool b2))],[],[]⟩:St)) (λy h=>Ac q [0,1,5,10] [] (gC h (λh=>tS h (gK (Bk (Bn CP [] q)))) λh=>Ac q [0,1,5,10] [] (gC h (λh=>tS h (gK (Bk (Bn CP [] q)))) λh=>Ac q [0,1,5,10] [] (gC h (λh=>tS h (gK (Bk (Bn CP [] q)))) λh=>Ac q CP [] (tS h (gK (Bk H7))))))) (gA (gC h (λh=>tB h λx5 y5 h=>tT q [4] [] [(Z2 x5)] (ah (N0 y5) (gI (x5==true)) (M3 x5) (Y1 ((Q63 x5 v1)==true) (c1 (M3 (Q63 x5 v1))))) (tS h (B2 []))) λh=>Ac q [4] [] (tS h (B2 []))))))
def zo(a1:Ce):List bZ:=[(xQ a1.Kind a1.Bits a1.Lanes a1.Dst a1.Args a1.Imm)]
def N9(a1:Ce):Option Bool:=
 (Option.bind (α:=Bool) (bif (a1.Kind==16) then(some (a1.Kind==16)) else(some (a1.Kind==17))) (λx2=>(bif x2 then(some (decide ((8:Int)<=a1.Bits))) else(Option.bind (α:=Bool) (bif (a1.Kind==18) then(some (a1.Kind==18)) else(some (a1.Kind==19))) (λx5=>(bif x5 then(some (bif (decide ((8:Int)<=a1.Bits)) then(a1.Lanes==1) else false)) else(Option.bind (α:=Bool) (bif (a1.Kind==4) then(some (a1.Kind==4)) else(bif (a1.Kind==10) then(some (a1.Kind==10)) else(bif (a1.Kind==11) then(some (a1.Kind==11)) else(bif (a1.Kind==12) then(some (a1.Kind==12)) else(bif (a1.Kind==14) then(some (a1.Kind==14)) else(bif (a1.Kind==15) then(some (a1.Kind==15)) else(some (a1.Kind==20)))))))) (λx8=>(bif x8 then(some (a1.Lanes==1)) else(Option.bind (α:=Bool) (bif (a1.Kind==21) then(some (a1.Kind==21)) else(some (a1.Kind==22))) (λx11=>(bif x11 then(some (decide ((1:Int)<a1.Lanes))) else(some true)))))))))))))
theorem HZ(h:N9 v3=some v5):sP 152 [(Uz v3)] [] (.bool v5) []:=
 sG Tryz.func152 λΓ q=>tW q [1] [1] Rk [1] (tB h λx2 y2 h=>gJ y2 (λb1=>aG Γ .normal (⟨[AO,(4,(Z6 v3.Kind)),(5,(.bool b1))],(zo v3),[]⟩:St)) (λy h=>Ac q [1,4,5] [1] (gC h (λh=>tS h (gK (Bk H7))) λh=>Ac q [1,4,5] [1] (tS h (gK (Bk H7))))) (gA (gC h (λh=>Ac q [2] [] (tS h (B2 []))) λh=>tB h λx5 y5 h=>gJ y5 (λb4=>aG Γ .normal (⟨[AO,(4,(Z6 v3.Kind)),(11,(.bool b4))],(zo v3),[]⟩:St)) (λy h=>Ac q [1,4,11] [1] (gC h (λh=>tS h (gK (Bk H7))) λh=>Ac q [1,4,11] [1] (tS h (gK (Bk H7))))) (gA (gC h (λh=>tU q [2] [] (M2 ((decide ((8:Int)<=v3.Bits))==true) (c1 (M3 (decide ((8:Int)<=v3.Bits))))) (tS h (B2 []))) λh=>tB h λx8 y8 h=>gJ y8 (λb7=>aG Γ .normal (⟨[AO,(4,(Z6 v3.Kind)),(22,(.bool b7))],(zo v3),[]⟩:St)) (λy h=>Ac q GM [1] (gC h (λh=>tS h (gK (Bk H7))) λh=>Ac q GM [1] (gC h (λh=>tS h (gK (Bk H7))) λh=>Ac q GM [1] (gC h (λh=>tS h (gK (Bk H7))) λh=>Ac q GM [1] (gC h (λh=>tS h (gK (Bk H7))) λh=>Ac q GM [1] (gC h (λh=>tS h (gK (Bk H7))) λh=>Ac q GM [1] (gC h (λh=>tS h (gK (Bk H7))) λh=>Ac q GM [1] (tS h (gK (Bk H7)))))))))) (gA (gC h (λh=>Ac q [2] [] (tS h (B2 []))) λh=>tB h λx11 y11 h=>gJ y11 (λb10=>aG Γ .normal (⟨[AO,(33,(.bool b10))],(zo v3),[]⟩:St)) (λy h=>Ac q [1,4,33] [1] (gC h (λh=>tS h (gK (Bk (Bn [1,33] [1] q)))) λh=>Ac q [1,33] [1] (tS h (gK (Bk H7))))) (gA (gC h (λh=>Ac q [2] [] (tS h (B2 []))) λh=>Ac q [2] [] (tS h (B2 [])))))))))))
def Xx(aA:Int)(aJ:Int):Option Int:=
 ((K7 aJ).bind λx1=>(bif (!x1) then(some (0:Int)) else(A7 (0<=(w64 ((64:Int)-aJ))) (A7 (0<=(w64 ((64:Int)-aJ))) (some (IM .u64 (GC .u64 aA (w64 ((64:Int)-aJ))) (w64 ((64:Int)-aJ))))))))
theorem dm(h:Xx v1 v2=some v20):sP 171 [(Me v1),(Z6 v2)] [] (.int .u64 v20) []:=
 sG Tryz.func171 λΓ q=>Ac q I8 [] (tB h λx1 y1 h=>tT q [0,1,7] [] [(Z2 x1)] (c1 (N0 y1)) (gC h (λh=>Ac q [4] [] (tS h (B2 []))) λh=>tC h λc2_ h=>tC h λc3_ h=>tU q [4] [] (c2 c2_ c3_) (tS h (B2 []))))
def Nw(aaD:Int):Option Bool:=
 ((bif ((decide (aaD<=64))==true) then K7 (w64 aaD) else some false).bind λx1=>(some (bif (decide (aaD<=64)) then x1 else false)))
theorem Y9(h:Nw v1=some v5):sP 172 [(Me v1)] [] (.bool v5) []:=
 sG Tryz.func172 λΓ q=>Ac q [0] [] (tB h λx1 y1 h=>tT q [2] [] [(Z2 x1)] (M2 ((decide (v1<=64))==true) (c2 (λ(hg:((decide (v1<=64))==true)=true)=>(N0 (Bh hg y1))) (M3 (decide (v1<=64))))) (tS h (B2 [])))
def Ql(a1:Ce):Option Bool:=
 (bif (a1.Kind==0) then((Xx a1.Imm a1.Bits).bind λx1=>(some (x1==a1.Imm))) else(bif (a1.Kind==14) then((Nw a1.Imm).bind λx2=>(some (bif x2 then(decide (a1.Imm<(Bo a1.Bits))) else false))) else(bif (a1.Kind==15) then((Nw a1.Imm).bind λx3=>(some (bif x3 then(decide (((Bo a1.Bits):Int)<a1.Imm)) else false))) else(bif (a1.Kind==22) then(some (decide (a1.Imm<(Bo a1.Lanes)))) else(some (a1.Imm==0))))))
theorem OG(h:Ql v3=some v5):sP 153 [(Uz v3)] [] (.bool v5) []:=
 sG Tryz.func153 λΓ q=>tW q [1] [1] Rk [1] (Ac q [1,4,5] [1] (gC h (λh=>tB h λx1 y1 h=>tT q [2] [] [(kp x1)] (c1 (dm y1)) (tS h (B2 []))) λh=>Ac q [1,4,15] [1] (gC h (λh=>tB h λx2 y2 h=>tT q [2] [] [(Z2 x2)] (ci (Y9 y2) (qz (x2==true) (c1 (M3 x2)))) (tS h (B2 []))) λh=>Ac q [1,4,28] [1] (gC h (λh=>tB h λx3 y3 h=>tT q [2] [] [(Z2 x3)] (ci (Y9 y3) (qz (x3==true) (c1 (M3 x3)))) (tS h (B2 []))) λh=>Ac q [1,41] [1] (gC h (λh=>Ac q [2] [] (tS h (B2 []))) λh=>Ac q [2] [] (tS h (B2 [])))))))
abbrev LD:=((Int×Int))
abbrev qW:=(List (Int×Int))
def Iz(aaH:List LD):Option qW:=
 (some aaH)
variable{v21:List LD}{v22:List LD}
theorem Jf(h:Iz v21=some v22):sP 156 [(Z9 v21)] [] (Z9 v22) []:=
 sG Tryz.func156 λΓ q=>gR q [0] [] [(2,yX)] [] (c1 (Dp 2 B1 ((0:Int),(0:Int)))) (Ac q [2] [] (tS h (B2 [])))
abbrev w4:=(Int×List (Int×Int))
def Dj :w4->Option (LR (Int×List (Int×Int)) (List (Int×Int))):=
 λ((i7,l8):w4)=>(bif (decide (i7<(l8.length:Int))) then(A7 (0<=i7/\0+i7.toNat<=l8.length) (A7 (0<=i7/\0+i7.toNat<=l8.length) (some (.next ((w64 (i7+((Nat.min ((0+i7.toNat)-0) (l8.length-(0+i7.toNat))):Int))),(fq l8 (0+i7.toNat) (Nat.min ((0+i7.toNat)-0) (l8.length-(0+i7.toNat))) (λi=>l8.getD (0+i) ((0:Int),(0:Int))))))))) else(some (.done l8)))
def nQ(x3:G8):=(List.replicate (w64 x3.2).toNat ((0:Int),(0:Int)))
def Q67(x3:G8)(a4:List LD):=(fq (nQ x3) 0 (Nat.min a4.length ((nQ x3).length-0)) (λi=>a4.getD i ((0:Int),(0:Int))))
def Q66(l8:List LD)(i7:Int):=(fq l8 (0+i7.toNat) (Nat.min ((0+i7.toNat)-0) (l8.length-(0+i7.toNat))) (λi=>l8.getD (0+i) ((0:Int),(0:Int))))
def Co(a4:List LD)(aa6:Int):Option qW:=
 (Option.bind (α:=Unit) (bif (decide (aa6<0)) then none else(some ())) (λx1=>(match x1 with|_=>((Rn (Bo (a4.length:Int)) (Bo aa6)).bind λx3=>(Option.bind (α:=Unit) (bif (bif (decide ((0:Int)<x3.1)) then true else(decide ((9223372036854775807:Int)<x3.2))) then none else(some ())) (λx4=>(match x4 with|_=>(A7 (0<=(w64 x3.2)/\(w64 x3.2)<=(w64 x3.2)/\(w64 x3.2)<=(room:Int)) ((Ab (S:=w4) (X:=List G8) Dj (((Nat.min a4.length ((List.replicate (w64 x3.2).toNat ((0:Int),(0:Int))).length-0)):Int),(fq (List.replicate (w64 x3.2).toNat ((0:Int),(0:Int))) 0 (Nat.min a4.length ((List.replicate (w64 x3.2).toNat ((0:Int),(0:Int))).length-0)) (λi=>a4.getD i ((0:Int),(0:Int)))))).bind (λx12=>(some x12)))))))))))
theorem S3(h:Co v21 v1=some v22):sP 157 [(Z9 v21),(Z6 v1)] [] (vo v22 20000) [(20000,.tok 2 73 v22.length)]:=
 sG Tryz.func157 λΓ q=>have hΓ:=q.own;gR q I8 [] [(4,yX)] [] (c1 (Dp 2 B1 ((0:Int),(0:Int)))) (tB h λx1 y1 h=>gJ y1 (λ_=>aG Γ .normal (⟨[(0,(Z9 v21)),(1,(Z6 v1))],[],[]⟩:St)) (λy h=>Ac q CP [] (gC h (λh=>nomatch h) λh=>tS h (gK (Bk (Bn I8 [] q))))) (gA (tB h λx3 y3 h=>tT q [0,5,6] [] [⟨[],[],(.tuple [(Me x3.1),(Me x3.2)]),[],[],[]⟩] (c1 (MV y3)) (tB h λx4 y4 h=>gJ y4 (λ_=>aG Γ .normal (⟨[(0,(Z9 v21)),(6,(Me x3.2))],[],[]⟩:St)) (λy h=>tU q [0,6,26] [] (c2 (gI ((decide ((0:Int)<x3.1))==false)) (Ja (decide ((0:Int)<x3.1)))) (gC h (λh=>nomatch h) λh=>tS h (gK (Bk (Bn [0,6] [] q))))) (gA (tV q [0,7] [30] h λh=>by exact Gl (Le.trans (Hy 30 (show ∀ k_,k_<((w64 x3.2).toNat)->AVleL ((λi_=>AV.eraseAll (λn_=>Bj n_ [30]) ((λ_=>[Mt,Mt]) i_)) k_) ((λi=>B1 ((nQ x3).getD i ((0:Int),(0:Int)))) k_) from(λk hk=>Tn (e:=B1) (d:=((0:Int),(0:Int))) (.cons (AVle.refl _) (.cons (AVle.refl _) .nil)) _ k (Tt hk)))) (Vz (λ(k_:Nat) u=>(Do u [(Vu 30 k_)] [(30,.arr 2 73 k_ (λi=>B1 ((nQ x3).getD i ((0:Int),(0:Int)))))])) (show(w64 x3.2).toNat=(nQ x3).length from(Uq ..).symm))) (tU q Rj [30] (c1 (Eq.refl ((nQ x3).length))) (Gl (Le.trans (Hy 30 (show ∀ k_,k_<((nQ x3).length)->AVleL ((λi_=>AV.eraseAll (λn_=>Bj n_ [30]) ((cq (λi=>B1 ((nQ x3).getD i ((0:Int),(0:Int)))) 0 (Nat.min v21.length ((nQ x3).length-0)) (λi=>B1 (v21.getD i ((0:Int),(0:Int))))) i_)) k_) ((λi=>B1 ((Q67 x3 v21).getD i ((0:Int),(0:Int)))) k_) from(Cm (Jm ..) (λk_ hk_=>(Ci (AV.eraseAll (λn_=>Bj n_ [30])) ((OR (e:=B1) (d:=((0:Int),(0:Int))) (l:=(nQ x3)) (s:=(λi=>v21.getD i ((0:Int),(0:Int)))) (λ_ _=>rfl) (λ_ _=>rfl)) k_ hk_)).trans rfl)))) (Vz (λ(k_:Nat) u=>(Do u [(Vu 30 k_)] [(30,.arr 2 73 k_ (λi=>B1 ((Q67 x3 v21).getD i ((0:Int),(0:Int)))))])) (show(nQ x3).length=(Q67 x3 v21).length from(Jm ..)))) (tL q h Rj [30] (λu (i7,l8)=>(Do u [(Vu 30 l8.length),(8,(Z6 i7))] (Z84 l8))) (λu l9=>aG Γ (.exit 0) (⟨[(Vu 30 l9.length)],(Z84 l9),[]⟩:St)) (λ⟨i7,l8⟩ y h=>Ac q [7,8,37] [30] (gC h (λh=>tC h λc10_ h=>tC h λc11_ h=>tU q Rj [30] (c4 c10_ c11_ (Eq.refl l8.length) (Eq.refl l8.length)) (tS h (gN (Le.trans (Le.trans (Hy 30 (show ∀ k_,k_<l8.length->AVleL ((λi_=>AV.eraseAll (λn_=>Bj n_ [30]) ((cq (λi=>B1 (l8.getD i ((0:Int),(0:Int)))) (0+i7.toNat) (Nat.min ((0+i7.toNat)-0) (l8.length-(0+i7.toNat))) (λi=>(λi=>B1 (l8.getD i ((0:Int),(0:Int)))) (0+i))) i_)) k_) ((λi=>B1 ((Q66 l8 i7).getD i ((0:Int),(0:Int)))) k_) from(Cm (Jm ..) (λk_ hk_=>(Ci (AV.eraseAll (λn_=>Bj n_ [30])) ((OR (e:=B1) (d:=((0:Int),(0:Int))) (l:=l8) (s:=(λi=>l8.getD (0+i) ((0:Int),(0:Int)))) (λ_ _=>rfl) (λ_ _=>rfl)) k_ hk_)).trans rfl)))) (Vz (λ(k_:Nat) u=>(Do u [(Vu 30 k_)] [(30,.arr 2 73 k_ (λi=>B1 ((Q66 l8 i7).getD i ((0:Int),(0:Int)))))])) (show l8.length=(Q66 l8 i7).length from(Jm ..)))) H7)))) λh=>tS h (gO (Bk (Bn [7] [30] q))))) λx12 h=>gA (Ac q [4] [30] (P5 (⟨[(4,(.vsl 30 x12.length))],(Z84 x12),[]⟩:St) (tS h (gK (e:=.ret) (H6 [(30,20000)] (Le.trans (Ka (nm:=30) (sz:=2) (n:=x12.length) (e:=73) (f:=(λi=>B1 (x12.getD i ((0:Int),(0:Int))))) (g:=(λi=>B1 (x12.getD i ((0:Int),(0:Int))))) rfl ⟨rfl,trivial⟩ (λ_ _=>rfl) (by rw[hΓ];rfl)) (J7 (st':=⟨[(4,(vo x12 30))],[(30,.tok 2 73 x12.length)],[]⟩) (by kernel_rfl)))))))))))))))))
def Q68(a1:Ce):List bZ:=[(xQ a1.Kind a1.Bits a1.Lanes a1.Dst a1.Args a1.Imm),(3,.row 73 [qx,qx]),(4,.row 73 [(NY 64),qx]),(5,.row 73 [(Z6 a1.Bits),(Z6 a1.Lanes)]),(6,.row 73 [(Z6 a1.Bits),qx])]
def Qm(a1:Ce):Option qW:=
 (bif (a1.Kind==0) then((Iz ([]:List G8)).bind λx1=>(some x1)) else(bif (a1.Kind==13) then((Iz ([((1:Int),(1:Int)),(a1.Bits,a1.Lanes),(a1.Bits,a1.Lanes)]:List G8)).bind λx2=>(some x2)) else(Option.bind (α:=Bool) (bif (a1.Kind==14) then(some (a1.Kind==14)) else(some (a1.Kind==15))) (λx4=>(bif x4 then((Iz ([((w64 a1.Imm),(1:Int))]:List G8)).bind λx6=>(some x6)) else(bif (a1.Kind==16) then((Iz ([((64:Int),(1:Int))]:List G8)).bind λx7=>(some x7)) else(bif (a1.Kind==17) then((Iz ([((64:Int),(1:Int)),(a1.Bits,a1.Lanes)]:List G8)).bind λx8=>(some x8)) else(Option.bind (α:=Bool) (bif (a1.Kind==18) then(some (a1.Kind==18)) else(some (a1.Kind==19))) (λx10=>(bif x10 then((Iz ([((1:Int),(1:Int)),((64:Int),(1:Int)),(a1.Bits,(1:Int))]:List G8)).bind λx12=>(some x12)) else(bif (a1.Kind==20) then((Iz ([((1:Int),(1:Int)),(a1.Bits,(1:Int)),(a1.Bits,(1:Int)),(a1.Bits,(1:Int))]:List G8)).bind λx13=>(some x13)) else(bif (a1.Kind==21) then((Co ([(a1.Bits,(1:Int))]:List G8) a1.Lanes).bind λx14=>((Iz x14).bind λx15=>(some x15))) else(bif (a1.Kind==22) then((Iz ([(a1.Bits,a1.Lanes)]:List G8)).bind λx16=>(some x16)) else((Iz ([(a1.Bits,a1.Lanes),(a1.Bits,a1.Lanes)]:List G8)).bind λx17=>(some x17)))))))))))))))
theorem EN(h:Qm v3=some v21):sP 143 [(Uz v3)] [] (Z9 v21) []:=
 sG Tryz.func143 λΓ q=>gR q [1] [1] [(2,yX)] [] (c1 (Dp 2 B1 ((0:Int),(0:Int)))) (tW q Ib Ib Sw Sw (tW q [1,3,4,5,6,18] Sw [1,3,4,5,6,18,19] Sw (gC h (λh=>tB h λx1 y1 h=>tT q [2] [] [(ku x1)] (c1 (show(sP 156 [PP] [] (Z9 x1) []) from(Spec.args (.cons sT .nil) (Jf y1)))) (tS h (B2 []))) λh=>Ac q [1,3,4,5,6,18,22] Sw (gC h (λh=>tB h λx2 y2 h=>gR q [2] [] [(27,(AV.list 2 B1 ((0:Int),(0:Int)) ([((1:Int),(1:Int)),(v3.Bits,v3.Lanes),(v3.Bits,v3.Lanes)]:List G8) .exact))] [(ku x2)] (c2 (Bu 2 B1 ((0:Int),(0:Int)) ([((1:Int),(1:Int)),(v3.Bits,v3.Lanes),(v3.Bits,v3.Lanes)]:List G8)) (Jf y2)) (tS h (B2 []))) λh=>tB h λx4 y4 h=>gJ y4 (λb3=>aG Γ .normal (⟨[AO,fT,ZQ,cP,PQ,(18,(Z6 v3.Kind)),(29,(.bool b3))],(Q68 v3),[]⟩:St)) (λy h=>Ac q [1,3,4,5,6,18,29] Sw (gC h (λh=>tS h (gK (Bk H7))) λh=>Ac q [1,3,4,5,6,18,29] Sw (tS h (gK (Bk H7))))) (gA (gC h (λh=>tB h λx6 y6 h=>gR q [2] [] [(36,(AV.list 2 B1 ((0:Int),(0:Int)) ([((w64 v3.Imm),(1:Int))]:List G8) .exact))] [(ku x6)] (c2 (Bu 2 B1 ((0:Int),(0:Int)) ([((w64 v3.Imm),(1:Int))]:List G8)) (Jf y6)) (tS h (B2 []))) λh=>Ac q [1,3,4,5,6,18,38] Sw (gC h (λh=>tB h λx7 y7 h=>gR q [2] [] [(41,(AV.list 2 B1 ((0:Int),(0:Int)) ([((64:Int),(1:Int))]:List G8) .exact))] [(ku x7)] (c2 (Bu 2 B1 ((0:Int),(0:Int)) ([((64:Int),(1:Int))]:List G8)) (Jf y7)) (tS h (B2 []))) λh=>Ac q [1,3,4,5,6,18,43] Sw (gC h (λh=>tB h λx8 y8 h=>gR q [2] [] [(47,(AV.list 2 B1 ((0:Int),(0:Int)) ([((64:Int),(1:Int)),(v3.Bits,v3.Lanes)]:List G8) .exact))] [(ku x8)] (c2 (Bu 2 B1 ((0:Int),(0:Int)) ([((64:Int),(1:Int)),(v3.Bits,v3.Lanes)]:List G8)) (Jf y8)) (tS h (B2 []))) λh=>tB h λx10 y10 h=>gJ y10 (λb9=>aG Γ .normal (⟨[AO,fT,ZQ,cP,PQ,(18,(Z6 v3.Kind)),(49,(.bool b9))],(Q68 v3),[]⟩:St)) (λy h=>Ac q [1,3,4,5,6,18,49] Sw (gC h (λh=>tS h (gK (Bk H7))) λh=>Ac q [1,3,4,5,6,18,49] Sw (tS h (gK (Bk H7))))) (gA (gC h (λh=>tB h λx12 y12 h=>gR q [2] [] [(55,(AV.list 2 B1 ((0:Int),(0:Int)) ([((1:Int),(1:Int)),((64:Int),(1:Int)),(v3.Bits,(1:Int))]:List G8) .exact))] [(ku x12)] (c2 (Bu 2 B1 ((0:Int),(0:Int)) ([((1:Int),(1:Int)),((64:Int),(1:Int)),(v3.Bits,(1:Int))]:List G8)) (Jf y12)) (tS h (B2 []))) λh=>Ac q [1,3,5,6,18,57] JG (gC h (λh=>tB h λx13 y13 h=>gR q [2] [] [(63,(AV.list 2 B1 ((0:Int),(0:Int)) ([((1:Int),(1:Int)),(v3.Bits,(1:Int)),(v3.Bits,(1:Int)),(v3.Bits,(1:Int))]:List G8) .exact))] [(ku x13)] (c2 (Bu 2 B1 ((0:Int),(0:Int)) ([((1:Int),(1:Int)),(v3.Bits,(1:Int)),(v3.Bits,(1:Int)),(v3.Bits,(1:Int))]:List G8)) (Jf y13)) (tS h (B2 []))) λh=>Ac q [1,5,6,18,65] [1,5,6] (gC h (λh=>tB h λx14 y14 h=>tB h λx15 y15 h=>gR q [2] [] [(68,(AV.list 2 B1 ((0:Int),(0:Int)) ([(v3.Bits,(1:Int))]:List G8) .exact))] [⟨[],[(20000,71)],(vo x14 20000),[(20000,.tok 2 73 x14.length)],[],[]⟩,(ku x15)] (c3 (Bu 2 B1 ((0:Int),(0:Int)) ([(v3.Bits,(1:Int))]:List G8)) (S3 y14) (Jf y15)) (tS h (B2 []))) λh=>Ac q [5,73] [5] (gC h (λh=>tB h λx16 y16 h=>gR q [2] [] [(76,(AV.list 2 B1 ((0:Int),(0:Int)) ([(v3.Bits,v3.Lanes)]:List G8) .exact))] [(ku x16)] (c2 (Bu 2 B1 ((0:Int),(0:Int)) ([(v3.Bits,v3.Lanes)]:List G8)) (Jf y16)) (tS h (B2 []))) λh=>tB h λx17 y17 h=>gR q [2] [] [(80,(AV.list 2 B1 ((0:Int),(0:Int)) ([(v3.Bits,v3.Lanes),(v3.Bits,v3.Lanes)]:List G8) .exact))] [(ku x17)] (c2 (Bu 2 B1 ((0:Int),(0:Int)) ([(v3.Bits,v3.Lanes),(v3.Bits,v3.Lanes)]:List G8)) (Jf y17)) (tS h (B2 [])))))))))))))))
def Nv(aA:Int):Option Bool:=
 (some (bif (decide ((1:Int)<=aA)) then(decide (aA<=1023)) else false))
theorem Y8(h:Nv v1=some v5):sP 173 [(Z6 v1)] [] (.bool v5) []:=
 sG Tryz.func173 λΓ q=>Ac q [0] [] (tU q [2] [] (c2 (gI ((decide ((1:Int)<=v1))==true)) (M3 (decide ((1:Int)<=v1)))) (tS h (B2 [])))
def Kq(a1:Ce):Int->Option (LR Int (Unit ⊕ Bool)):=
 λ(i2:Int)=>(bif (decide (i2<(a1.Args.length:Int))) then(A7 (A5 i2 a1.Args.length) ((Nv (a1.Args.getD i2.toNat 0)).bind λx4=>(bif (!x4) then(some (.done (.inr false))) else(some (.next (w64 (i2+1))))))) else(some (.done (.inl ()))))
def PJ(Γ:Ix)(a1:Ce)(r:Bool):Exit->St->Prop:=fK Tryz.prog Γ Tryz.f154.results.toList [] (.bool r) []
def Qi(a1:Ce):Option Bool:=
 ((Qm a1).bind λx1=>(bif ((a1.Args.length:Int)!=(x1.length:Int)) then(some false) else((Ab (Kq a1) (0:Int)).bind (λx5=>(match x5 with|(.inl _)=>(some true)|(.inr r7)=>(some r7))))))
theorem OD(h:Qi v3=some v5):sP 154 [(Uz v3)] [] (.bool v5) []:=
 sG Tryz.func154 λΓ q=>Ac q [1] [1] (tB h λx1 y1 h=>tT q [1,11] [1] [(ku x1)] (c1 (EN y1)) (gC h (λh=>Ac q [2] [] (tS h (B2 []))) λh=>Ac q [13,14,15] [] (tL q h [13,14,15] [] (λu i2=>(Do u [(15,(Z6 i2))] [])) (λu x_=>match x_ with|(.inl _)=>aG Γ (.exit 0) (⟨[],[],[]⟩:St)|(.inr r_)=>aR (PJ Γ v3 r_)) (λi2 y h=>Ac q [13,14,15,16] [] (gC h (λh=>tV q [4,13,14,15] [] h λh=>tB h λx4 y4 h=>tT q [13,14,15,21] [] [(Z2 x4)] (c1 (Y8 y4)) (gC h (λh=>Ac q [2] [] (tS h (gO (M1 (H6 [] (Le.refl _ _)))))) λh=>Ac q [13,14,15] [] (tN h))) λh=>tS h (gO (Bk (Bn [] [] q))))) λx5 h=>(match x5,h with | .inl _,h=>gA (Ac q [2] [] (tS h (B2 []))) | .inr r7,h=>P4 (λst' hk=>tS h (gK hk))))))
def Q69(a1:Ce):List bZ:=[(xQ a1.Kind a1.Bits a1.Lanes a1.Dst a1.Args a1.Imm)]
def Qk(a1:Ce):Option G8:=
 (Option.bind (α:=Bool) (bif (a1.Kind==17) then(some (a1.Kind==17)) else(some (a1.Kind==19))) (λx2=>(bif x2 then(some ((0:Int),(0:Int))) else(Option.bind (α:=Bool) (bif (a1.Kind==10) then(some (a1.Kind==10)) else(bif (a1.Kind==11) then(some (a1.Kind==11)) else(some (a1.Kind==12)))) (λx5=>(bif x5 then(some ((1:Int),(1:Int))) else(bif (a1.Kind==22) then(some (a1.Bits,(1:Int))) else(some (a1.Bits,a1.Lanes)))))))))
theorem EM(h:Qk v3=some v19):sP 142 [(Uz v3)] [] (.tuple [(Z6 v19.1),(Z6 v19.2)]) []:=
 sG Tryz.func142 λΓ q=>tW q [1] [1] [1,5] [1] (tB h λx2 y2 h=>gJ y2 (λb1=>aG Γ .normal (⟨[AO,(5,(Z6 v3.Kind)),(6,(.bool b1))],(Q69 v3),[]⟩:St)) (λy h=>Ac q [1,5,6] [1] (gC h (λh=>tS h (gK (Bk H7))) λh=>Ac q [1,5,6] [1] (tS h (gK (Bk H7))))) (gA (gC h (λh=>Ac q C3 [] (tS h (B2 []))) λh=>tB h λx5 y5 h=>gJ y5 (λb4=>aG Γ .normal (⟨[AO,(5,(Z6 v3.Kind)),(9,(.bool b4))],(Q69 v3),[]⟩:St)) (λy h=>Ac q [1,5,9] [1] (gC h (λh=>tS h (gK (Bk H7))) λh=>Ac q [1,5,9] [1] (gC h (λh=>tS h (gK (Bk H7))) λh=>Ac q [1,5,9] [1] (tS h (gK (Bk H7)))))) (gA (gC h (λh=>Ac q C3 [] (tS h (B2 []))) λh=>Ac q [1,13] [1] (gC h (λh=>Ac q C3 [] (tS h (B2 []))) λh=>Ac q C3 [] (tS h (B2 []))))))))
def Qj(a1:Ce):Option Bool:=
 ((Qk a1).bind λx1=>(bif (x1.1==0) then(some (a1.Dst==0)) else((Nv a1.Dst).bind λx2=>(some x2))))
theorem OE(h:Qj v3=some v5):sP 155 [(Uz v3)] [] (.bool v5) []:=
 sG Tryz.func155 λΓ q=>Ac q [1] [1] (tB h λx1 y1 h=>tT q Ji [1] [(z8 x1.1 x1.2)] (c1 (EM y1)) (Ac q [1,11] [1] (gC h (λh=>Ac q [2] [] (tS h (B2 []))) λh=>tB h λx2 y2 h=>tT q [2] [] [(Z2 x2)] (c1 (Y8 y2)) (tS h (B2 [])))))
def ue(x1:Bool)(x2:Bool):=(bif (!x1) then true else(!x2))
def Rq(a1:Ce):Option Bool:=
 ((Sc a1.Kind).bind λx1=>((bif ((!x1)==false) then Tm a1.Bits a1.Lanes else some false).bind λx2=>((bif ((bif (!x1) then true else(!x2))==false) then N9 a1 else some false).bind λx3=>((bif ((bif (bif (!x1) then true else(!x2)) then true else(!x3))==false) then Ql a1 else some false).bind λx4=>(bif (bif (bif (bif (!x1) then true else(!x2)) then true else(!x3)) then true else(!x4)) then(some false) else((Qi a1).bind λx5=>((bif (x5==true) then Qj a1 else some false).bind λx6=>(some (bif x5 then x6 else false)))))))))
theorem BM(h:Rq v3=some v5):sP 140 [(Uz v3)] [] (.bool v5) []:=
 sG Tryz.func140 λΓ q=>Ac q [1] [1] (tB h λx1 y1 h=>tB h λx2 y2 h=>tB h λx3 y3 h=>tB h λx4 y4 h=>tT q [1,24] [1] [(Z2 x1),(Z2 x2),(Z2 x3),(Z2 x4)] (ci (RR y1) (dC ((!x1)==false) (xT (λ(hg:((!x1)==false)=true)=>(VT (Bh hg y2))) (gI ((!x1)==false)) (Ja (!x1)) (gI ((ue x1 x2)==false)) (λ(hg:((ue x1 x2)==false)=true)=>(HZ (Bh hg y3))) (gI ((ue x1 x2)==false)) (Ja (ue x1 x2)) (gI ((bif (ue x1 x2) then true else(!x3))==false)) (λ(hg:((bif (ue x1 x2) then true else(!x3))==false)=true)=>(OG (Bh hg y4))) (c2 (gI ((bif (ue x1 x2) then true else(!x3))==false)) (Ja (bif (ue x1 x2) then true else(!x3))))))) (gC h (λh=>Ac q [2] [] (tS h (B2 []))) λh=>tB h λx5 y5 h=>tB h λx6 y6 h=>tT q [2] [] [(Z2 x5),(Z2 x6)] (c4 (OD y5) (gI (x5==true)) (λ(hg:(x5==true)=true)=>(OE (Bh hg y6))) (M3 x5)) (tS h (B2 []))))
def Tk(a1:Ce)(aY:Int):Option Bool:=
 (bif (aY==0) then(some (bif (decide (a1.Kind<=17)) then(a1.Lanes==1) else false)) else(bif (aY==1) then(some (bif (decide (a1.Kind<=20)) then(a1.Lanes==1) else false)) else(some true)))
theorem VO(h:Tk v3 v1=some v5):sP 141 [(Uz v3),(Z6 v1)] [] (.bool v5) []:=
 sG Tryz.func141 λΓ q=>tW q Om [2] Wd [2] (Ac q Xb [2] (gC h (λh=>tU q [4] [] (M2 ((decide (v3.Kind<=17))==true) (c1 (M3 (decide (v3.Kind<=17))))) (tS h (B2 []))) λh=>Ac q Wc [2] (gC h (λh=>tU q [4] [] (M2 ((decide (v3.Kind<=20))==true) (c1 (M3 (decide (v3.Kind<=20))))) (tS h (B2 []))) λh=>Ac q [4] [] (tS h (B2 [])))))
abbrev CH:=(Bool×TFunc×Int×Az×List Bm)
def Ik(a1:Ce)(a3:TFunc)(a7:Int)(aH:Az)(a9:List Bm):Option CH:=
 ((Rq a1).bind λx1=>((bif (x1==true) then Tk a1 a7 else some false).bind λx2=>(some ((bif x1 then x2 else false),a3,a7,aH,a9))))
variable{v23:CH}
theorem V7(h:Ik v3 v0 v1 v4 v12=some v23):sP 119 [JH,(Uz v3)] (Z3 v0.Params v0.Ret v0.Blocks v1 v4 v12 v12.length) (.bool v23.1) (Z3 v23.2.1.Params v23.2.1.Ret v23.2.1.Blocks v23.2.2.1 v23.2.2.2.1 v23.2.2.2.2 v23.2.2.2.2.length):=
 sG Tryz.func119 λΓ q=>Ac q Qx TJ (tB h λx1 y1 h=>tB h λx2 y2 h=>tT q [4] I7 [(Z2 x1),(Z2 x2)] (ci (BM y1) (qz (x1==true) (c2 (λ(hg:(x1==true)=true)=>(VO (Bh hg y2))) (M3 x1)))) (tS h (B2 Zf)))
abbrev S7:=(Int×Az×Int×List Am×Int×Az×List Bm)
abbrev zM:=(LR (Int×Az×Int×List Am×Int×Az×List Bm) ((Az×Int×List Am×Int×Az×List Bm) ⊕ (Bool×TFunc×Int×Az×List Bm)))
def Hk(aI:List Ce):S7->Option zM:=
 λ((i1,l2,i3,l4,i5,l6,l7):S7)=>(bif (decide (i1<(aI.length:Int))) then(A7 (A5 i1 aI.length) ((Ik (aI.getD i1.toNat default) (⟨l2,i3,l4⟩:TFunc) i5 l6 l7).bind λx15=>(bif (!x15.1) then(some (.done (.inr (false,x15.2.1,x15.2.2.1,x15.2.2.2.1,x15.2.2.2.2)))) else(some (.next ((w64 (i1+1)),x15.2.1.Params,x15.2.1.Ret,x15.2.1.Blocks,x15.2.2.1,x15.2.2.2.1,x15.2.2.2.2)))))) else(some (.done (.inl (l2,i3,l4,i5,l6,l7)))))
def FI(Γ:Ix)(aI:List Ce)(a3:TFunc)(a7:Int)(aH:Az)(a9:List Bm)(r:CH):Exit->St->Prop:=fK Tryz.prog Γ Tryz.f118.results.toList (Z3 a3.Params a3.Ret a3.Blocks a7 aH a9 a9.length) (.bool r.1) (Z3 r.2.1.Params r.2.1.Ret r.2.1.Blocks r.2.2.1 r.2.2.2.1 r.2.2.2.2 r.2.2.2.2.length)
def L7(aI:List Ce)(a3:TFunc)(a7:Int)(aH:Az)(a9:List Bm):Option CH:=
 ((Ab (Hk aI) ((0:Int),a3.Params,a3.Ret,a3.Blocks,a7,aH,a9)).bind (λx16=>(match x16 with|(.inl (l8,i9,l10,i11,l12,l13))=>(some (true,(⟨l8,i9,l10⟩:TFunc),i11,l12,l13))|(.inr r18)=>(some r18))))
theorem EA(h:L7 v8 v0 v1 v4 v12=some v23):sP 118 [(AV.list 6 Qz default v8 .none),(.clo 119 [JH] [])] (Z3 v0.Params v0.Ret v0.Blocks v1 v4 v12 v12.length) (.bool v23.1) (Z3 v23.2.1.Params v23.2.1.Ret v23.2.1.Blocks v23.2.2.1 v23.2.2.2.1 v23.2.2.2.2 v23.2.2.2.2.length):=
 sG Tryz.func118 λΓ q=>tW q I8 I7 Ng I7 (tL q h Ng I7 (λu (i1,l2,i3,l4,i5,l6,l7)=>(Do u [(9,(Z6 i1))] (Z3 l2 i3 l4 i5 l6 l7 l7.length))) (λu x_=>match x_ with|(.inl (l8,i9,l10,i11,l12,l13))=>aG Γ (.exit 0) (⟨[],(Z3 l8 i9 l10 i11 l12 l13 l13.length),[]⟩:St)|(.inr r_)=>aR (FI Γ v8 v0 v1 v4 v12 r_)) (λ⟨i1,l2,i3,l4,i5,l6,l7⟩ y h=>Ac q NQ I7 (gC h (λh=>tV q NR [6,30000,37006] h λh=>tB h λx15 y15 h=>tT q UM I7 [(zx x15.1 x15.2.1.Params x15.2.1.Ret x15.2.1.Blocks x15.2.2.1 x15.2.2.2.1 x15.2.2.2.2 x15.2.2.2.2.length)] (c1 (V7 y15)) (gC h (λh=>Ac q [4] I7 (tS h (gO (M1 (H6 Zf (Le.refl _ _)))))) λh=>Ac q Ng I7 (tN h))) λh=>tS h (gO (Bk (Bn [] I7 q))))) λx16 h=>(match x16,h with | .inl ⟨l8,i9,l10,i11,l12,l13⟩,h=>gA (Ac q [4] I7 (tS h (B2 Zf))) | .inr r18,h=>P4 (λst' hk=>tS h (gK hk))))
def Q73(x1:Bool)(x2:CH)(aH:Az):AV:=(Z77 x1 x2.2.2.2.1 aH)
def Q72(x1:Bool)(x2:CH)(a3:TFunc):AV:=(Z77 x1 x2.2.1.Params a3.Params)
def Q71(x1:Bool)(x2:CH)(a3:TFunc):AV:=(.slice 5 (bif (x1==true) then x2.2.1.Blocks.length else a3.Blocks.length) (λi=>bif (x1==true) then Jv (x2.2.1.Blocks.getD i default) else Jv (a3.Blocks.getD i default)) .none)
def Gm(aO:Am)(a3:TFunc)(a7:Int)(aH:Az)(a9:List Bm):Option CH:=
 ((Lg aO.Phis).bind λx1=>((bif (x1==true) then L7 aO.Ops a3 a7 aH a9 else some (false,(default:TFunc),(0:Int),[],[])).bind λx2=>(some ((bif x1 then x2.1 else false),(⟨(bif (x1==true) then x2.2.1.Params else a3.Params),(bif (x1==true) then x2.2.1.Ret else a3.Ret),(bif (x1==true) then x2.2.1.Blocks else a3.Blocks)⟩:TFunc),(bif (x1==true) then x2.2.2.1 else a7),(bif (x1==true) then x2.2.2.2.1 else aH),(bif (x1==true) then x2.2.2.2.2 else a9)))))
theorem Tq(h:Gm v10 v0 v1 v4 v12=some v23):sP 91 [JH,(.agg (Jv v10))] (Z3 v0.Params v0.Ret v0.Blocks v1 v4 v12 v12.length) (.bool v23.1) (Z3 v23.2.1.Params v23.2.1.Ret v23.2.1.Blocks v23.2.2.1 v23.2.2.2.1 v23.2.2.2.2 v23.2.2.2.2.length):=
 sG Tryz.func91 λΓ q=>Ac q Qx TJ (tB h λx1 y1 h=>tB h λx2 y2 h=>tT q [4] I7 [(Z2 x1),(zx x2.1 x2.2.1.Params x2.2.1.Ret x2.2.1.Blocks x2.2.2.1 x2.2.2.2.1 x2.2.2.2.2 x2.2.2.2.2.length)] (ci (BH y1) (dC (x1==true) (c2 (λ(hg:(x1==true)=true)=>(EA (Bh hg y2))) (M3 x1)))) (tS h (gK (e:=.ret) (H6 Zf (Le.trans (leB (λg_ u=>(Do u [] [(30000,.row 110 [(Q72 x1 x2 v0),(.int .i64 (bif (x1==true) then x2.2.1.Ret else v0.Ret)),(Q71 x1 x2 v0),(.int .i64 (bif (x1==true) then x2.2.2.1 else v1)),(Q73 x1 x2 v4),.nilm,(Z43 g_ x2.2.2.2.2 v12)]),(37006,.tok 5 158 (bif g_ then x2.2.2.2.2.length else v12.length))])) (λg_ u=>(Do u [] [(30000,.row 110 [(Q72 x1 x2 v0),(.int .i64 (bif (x1==true) then x2.2.1.Ret else v0.Ret)),(Q71 x1 x2 v0),(.int .i64 (bif (x1==true) then x2.2.2.1 else v1)),(Q73 x1 x2 v4),.nilm,(AV.list 5 Ox default (bif g_ then x2.2.2.2.2 else v12) (.own 37006))]),(37006,.tok 5 158 ((bif g_ then x2.2.2.2.2 else v12).length))])) (x1==true)) (Le.trans (s6 30000 0 (show AVle (Q72 x1 x2 v0) (AV.list 1 As 0 (bif (x1==true) then x2.2.1.Params else v0.Params) .none) from Kf)) (Le.trans (s6 30000 2 (show AVle (Q71 x1 x2 v0) (AV.list 5 Jv default (bif (x1==true) then x2.2.1.Blocks else v0.Blocks) .none) from Kf)) (s6 30000 4 (show AVle (Q73 x1 x2 v4) (AV.list 1 As 0 (bif (x1==true) then x2.2.2.2.1 else v4) .none) from Kf)))))))))
def Fl(aI:List Am):S7->Option zM:=
 λ((i1,l2,i3,l4,i5,l6,l7):S7)=>(bif (decide (i1<(aI.length:Int))) then(A7 (A5 i1 aI.length) ((Gm (aI.getD i1.toNat default) (⟨l2,i3,l4⟩:TFunc) i5 l6 l7).bind λx15=>(bif (!x15.1) then(some (.done (.inr (false,x15.2.1,x15.2.2.1,x15.2.2.2.1,x15.2.2.2.2)))) else(some (.next ((w64 (i1+1)),x15.2.1.Params,x15.2.1.Ret,x15.2.1.Blocks,x15.2.2.1,x15.2.2.2.1,x15.2.2.2.2)))))) else(some (.done (.inl (l2,i3,l4,i5,l6,l7)))))
def Zi(Γ:Ix)(aI:List Am)(a3:TFunc)(a7:Int)(aH:Az)(a9:List Bm)(r:CH):Exit->St->Prop:=fK Tryz.prog Γ Tryz.f90.results.toList (Z3 a3.Params a3.Ret a3.Blocks a7 aH a9 a9.length) (.bool r.1) (Z3 r.2.1.Params r.2.1.Ret r.2.1.Blocks r.2.2.1 r.2.2.2.1 r.2.2.2.2 r.2.2.2.2.length)
def Jw(aI:List Am)(a3:TFunc)(a7:Int)(aH:Az)(a9:List Bm):Option CH:=
 ((Ab (Fl aI) ((0:Int),a3.Params,a3.Ret,a3.Blocks,a7,aH,a9)).bind (λx16=>(match x16 with|(.inl (l8,i9,l10,i11,l12,l13))=>(some (true,(⟨l8,i9,l10⟩:TFunc),i11,l12,l13))|(.inr r18)=>(some r18))))
theorem X2(h:Jw v11 v0 v1 v4 v12=some v23):sP 90 [(OM v11),(.clo 91 [JH] [])] (Z3 v0.Params v0.Ret v0.Blocks v1 v4 v12 v12.length) (.bool v23.1) (Z3 v23.2.1.Params v23.2.1.Ret v23.2.1.Blocks v23.2.2.1 v23.2.2.2.1 v23.2.2.2.2 v23.2.2.2.2.length):=
 sG Tryz.func90 λΓ q=>tW q I8 I7 Ng I7 (tL q h Ng I7 (λu (i1,l2,i3,l4,i5,l6,l7)=>(Do u [(9,(Z6 i1))] (Z3 l2 i3 l4 i5 l6 l7 l7.length))) (λu x_=>match x_ with|(.inl (l8,i9,l10,i11,l12,l13))=>aG Γ (.exit 0) (⟨[],(Z3 l8 i9 l10 i11 l12 l13 l13.length),[]⟩:St)|(.inr r_)=>aR (Zi Γ v11 v0 v1 v4 v12 r_)) (λ⟨i1,l2,i3,l4,i5,l6,l7⟩ y h=>Ac q NQ I7 (gC h (λh=>tV q NR [6,30000,37006] h λh=>tB h λx15 y15 h=>tT q UM I7 [(zx x15.1 x15.2.1.Params x15.2.1.Ret x15.2.1.Blocks x15.2.2.1 x15.2.2.2.1 x15.2.2.2.2 x15.2.2.2.2.length)] (c1 (Tq y15)) (gC h (λh=>Ac q [4] I7 (tS h (gO (M1 (H6 Zf (Le.refl _ _)))))) λh=>Ac q Ng I7 (tN h))) λh=>tS h (gO (Bk (Bn [] I7 q))))) λx16 h=>(match x16,h with | .inl ⟨l8,i9,l10,i11,l12,l13⟩,h=>gA (Ac q [4] I7 (tS h (B2 Zf))) | .inr r18,h=>P4 (λst' hk=>tS h (gK hk))))
def kl(x1:Bool)(x2:Bool):=((bif x1 then x2 else false)==true)
def Q77(x1:Bool)(x2:Bool)(x3:CH)(aH:Az):AV:=(zr (kl x1 x2) x3.2.2.2.1 aH)
def Q76(x1:Bool)(x2:Bool)(x3:CH)(a3:TFunc):AV:=(zr (kl x1 x2) x3.2.1.Params a3.Params)
def Q75(x1:Bool)(x2:Bool)(x3:CH)(a3:TFunc):AV:=(Z70 (kl x1 x2) x3.2.1.Blocks a3.Blocks)
def Jx(a3:TFunc)(a7:Int)(aH:Az)(a9:List Bm):Option mR:=
 ((O5 a3.Params).bind λx1=>((bif (x1==true) then K7 a3.Ret else some false).bind λx2=>((bif ((bif x1 then x2 else false)==true) then Jw a3.Blocks a3 a7 aH a9 else some (false,(default:TFunc),(0:Int),[],[])).bind λx3=>((Ns (bif (bif x1 then x2 else false) then x3.1 else false) (6:Int)).bind λx4=>(some (x4,(⟨(bif ((bif x1 then x2 else false)==true) then x3.2.1.Params else a3.Params),(bif ((bif x1 then x2 else false)==true) then x3.2.1.Ret else a3.Ret),(bif ((bif x1 then x2 else false)==true) then x3.2.1.Blocks else a3.Blocks)⟩:TFunc),(bif ((bif x1 then x2 else false)==true) then x3.2.2.1 else a7),(bif ((bif x1 then x2 else false)==true) then x3.2.2.2.1 else aH),(bif ((bif x1 then x2 else false)==true) then x3.2.2.2.2 else a9)))))))
theorem X3(h:Jx v0 v1 v4 v12=some v13):sP 73 [JH] (Z3 v0.Params v0.Ret v0.Blocks v1 v4 v12 v12.length) (Z6 v13.1) (Z3 v13.2.1.Params v13.2.1.Ret v13.2.1.Blocks v13.2.2.1 v13.2.2.2.1 v13.2.2.2.2 v13.2.2.2.2.length):=
 sG Tryz.func73 λΓ q=>Ac q [0] I7 (tB h λx1 y1 h=>tB h λx2 y2 h=>tB h λx3 y3 h=>tT q [3] I7 [(Z2 x1),(Z2 x2),(zx x3.1 x3.2.1.Params x3.2.1.Ret x3.2.1.Blocks x3.2.2.1 x3.2.2.2.1 x3.2.2.2.2 x3.2.2.2.2.length)] (ci (KJ y1) (qz (x1==true) (e7 (λ(hg:(x1==true)=true)=>(N0 (Bh hg y2))) (M3 x1) (gI7 (kl x1 x2) (c2 (λ(hg:(kl x1 x2)=true)=>(X2 (Bh hg y3))) (M3 (bif x1 then x2 else false))))))) (Gl (Le.trans (leB (λg_ u=>(Do u [] [(30000,.row 110 [(Q76 x1 x2 x3 v0),(uk (kl x1 x2) x3.2.1.Ret v0.Ret),(Q75 x1 x2 x3 v0),(uk (kl x1 x2) x3.2.2.1 v1),(Q77 x1 x2 x3 v4),.nilm,(Z43 g_ x3.2.2.2.2 v12)]),(37006,.tok 5 158 (bif g_ then x3.2.2.2.2.length else v12.length))])) (λg_ u=>(Do u [] [(30000,.row 110 [(Q76 x1 x2 x3 v0),(uk (kl x1 x2) x3.2.1.Ret v0.Ret),(Q75 x1 x2 x3 v0),(uk (kl x1 x2) x3.2.2.1 v1),(Q77 x1 x2 x3 v4),.nilm,(AV.list 5 Ox default (bif g_ then x3.2.2.2.2 else v12) (.own 37006))]),(37006,.tok 5 158 ((bif g_ then x3.2.2.2.2 else v12).length))])) (kl x1 x2)) (Le.trans (s6 30000 0 (show AVle (Q76 x1 x2 x3 v0) (AV.list 1 As 0 (bif (kl x1 x2) then x3.2.1.Params else v0.Params) .none) from Kf)) (Le.trans (s6 30000 2 (show AVle (Q75 x1 x2 x3 v0) (AV.list 5 Jv default (bif (kl x1 x2) then x3.2.1.Blocks else v0.Blocks) .none) from Kf)) (s6 30000 4 (show AVle (Q77 x1 x2 x3 v4) (AV.list 1 As 0 (bif (kl x1 x2) then x3.2.2.2.1 else v4) .none) from Kf))))) (tB h λx4 y4 h=>tT q [2] I7 [(EE x4)] (c1 (Y5 y4)) (tS h (B2 Zf)))))
def E0(aJ:Int):Option G8:=
 (some (aJ,(1:Int)))
theorem Mn(h:E0 v1=some v19):sP 92 [(Z6 v1)] [] (PR v19) []:=
 sG Tryz.func92 λΓ q=>tW q [0,2] [2] [2] [2] (tS h (B2 []))
def xJ:=(λ(v_:Ay)=>((Wg v_):AV))
abbrev O2:=(Int×Ay)
abbrev eY:=(Bool×TFunc×Int×Az×List Bm×List (Int×Ay))
def Gn(aA:Int)(aa4:G8)(aN:L3)(a3:TFunc)(a7:Int)(aH:Az)(aD:List O2)(a9:List Bm):Option eY:=
 (bif (bif (bif (C2 aD aA) then true else(decide (aA<1))) then true else(decide ((1023:Int)<aA))) then(some (false,a3,a7,aH,a9,aD)) else(some (true,a3,a7,aH,a9,(Hr aD aA (⟨aa4,aN⟩:Ay)))))
variable{v24:L3}{v25:List O2}{v26:eY}
abbrev WD:=(Int×AV)
theorem Pr(h:Gn v1 v19 v24 v0 v2 v4 v25 v12=some v26):sP 120 [JH,(Z6 v1),(PR v19),(.agg (OU v24))] [(Z1 v0.Params v0.Ret v0.Blocks v2 v4 9100005 v12),(Ni 37006 158 v12.length),(9100005,.obj (.map true .i64 (mapE (λ(v_:Ay)=>((Wg v_):AV)) v25)))] (.bool v26.1) [(Z1 v26.2.1.Params v26.2.1.Ret v26.2.1.Blocks v26.2.2.1 v26.2.2.2.1 9100005 v26.2.2.2.2.1),(Ni 37006 158 v26.2.2.2.2.1.length),(9100005,.obj (.map true .i64 (mapE (λ(v_:Ay)=>((Wg v_):AV)) v26.2.2.2.2.2)))]:=
 sG Tryz.func120 λΓ q=>Ac q [0,1,6,7] kF (gR q [0,1,6,7,10] kF [(17,(.tuple [(uj v25 v1),(.bool (C2 v25 v1))]))] [] (c1 (show(AVle (.tuple [mget (.agg [Mt,Mt,Mt,Mt]) (mapE xJ v25) v1,.bool (C2 (mapE xJ v25) v1)]) (.tuple [(uj v25 v1),(.bool (C2 v25 v1))])) from(HS (f:=xJ) (l:=v25) (AVle.refl _) rfl))) (tU q [0,1,6,7,28] kF (c4 (gI ((C2 v25 v1)==false)) (Ja (C2 v25 v1)) (gI ((bif (C2 v25 v1) then true else(decide (v1<1)))==false)) (Ja (bif (C2 v25 v1) then true else(decide (v1<1))))) (gC h (λh=>Ac q [8] I5 (tS h (B2 EB))) λh=>Ac q [] I5 (Gl (Vz (λ(k_:List WD) u=>Do u [] [(ma 9100005 k_)]) (show(Hr (mapE xJ v25) v1 (.agg [(Z6 v19.1),(Z6 v19.2),(Z6 v24.block),(Z6 v24.at_)]))=(mapE xJ (Hr v25 v1 (⟨v19,v24⟩:Ay))) from(HT (f:=xJ) (l:=v25) (v:=(⟨v19,v24⟩:Ay)) rfl rfl))) (Ac q [8] I5 (tS h (B2 EB)))))))
def Qg(a1:Ce):Option G8:=
 ((Rq a1).bind λx1=>(bif (!x1) then(some ((0:Int),(0:Int))) else((Qk a1).bind λx2=>(some (x2.1,x2.2)))))
theorem VS(h:Qg v3=some v19):sP 121 [(Uz v3)] [] (.tuple [(Z6 v19.1),(Z6 v19.2)]) []:=
 sG Tryz.func121 λΓ q=>Ac q [1] [1] (tB h λx1 y1 h=>tT q [1,6] [1] [(Z2 x1)] (c1 (BM y1)) (gC h (λh=>Ac q C3 [] (tS h (B2 []))) λh=>tB h λx2 y2 h=>tT q C3 [] [(z8 x2.1 x2.2)] (c1 (EM y2)) (tS h (B2 []))))
end
end Go.Proofs.YtjpnobeadcdnoaaGreat
