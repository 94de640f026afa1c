/-
  The machine, the program's functions and the laws' arithmetic: part 3 of 6.
-/
import Derived.Test.YtiendmljhgbjoaaGreatPk2
import Derived.BigCall
import Derived.Lib.RowBridge
import Derived.Shelf.Slices.Clone
import Derived.Shelf.Slices.CompactI
import Derived.Shelf.Slices.In.SortNone
import Derived.Shelf.Sort.Plain
import Derived.Sort.OwnSortedInts
import Derived.Test.YtiendmljhgbjoaaGreatProg
set_option linter.unusedSectionVars false
set_option linter.unusedVariables false
set_option linter.unusedSimpArgs false
namespace Go.Proofs.YtiendmljhgbjoaaGreat
noncomputable section
open Go Go.RowKit
def N7{α:Type}(sz:Nat)(e:α->List AV)(d:α)(L:List (List α))(t:Nat->Tag):Nat->List AV:=λj=>[AV.list sz e d (L.getD j []) (t j)]
def Ht(b i k j:Nat):Tag:=bif Nat.beq j i then .own k else .fam b j
def M1{α:Type}(L:List (List α)):Nat->Option Nat:=λj=>if j<L.length then some (L.getD j []).length else none
def Zw{α:Type}(L:List (List α))(i:Nat):Nat->Option Nat:=λj=>if j=i then none else M1 L j
mutual
def AV.free(p:Tag->Bool):AV->Bool
 | .slice _ _ _ t=>p t
 | .clo _ xs ys=>AV.freeAll p xs&&AV.freeAll p ys
 | .agg cs=>AV.freeAll p cs
 | .rpo cs=>AV.freeAll p cs
 | .tuple cs=>AV.freeAll p cs
 | .cond _ x=>x.free p
 | _=>true
def AV.freeAll(p:Tag->Bool):List AV->Bool
 | []=>true
 | x::l=>x.free p&&AV.freeAll p l
end
theorem Lx{p:Tag->Bool}{l:List AV}(h:AV.freeAll p l=true)(j:Nat):(l.getD j .any).free p=true:=by
 induction l generalizing j with
 | nil=>simp[AV.free]
 | cons x l ih=>
  simp only[AV.freeAll,Bc]at h
  cases j with
  | zero=>simpa using h.1
  | succ j=>simpa using ih h.2 j
def AObj.Al(P:AV->Prop):AObj->Prop
 | .iter _ _=>True
 | .map _ _ _=>True
 | .pmap _ _ _=>True
 | .miter m _ _=>P m
 | .tab _ l=>∀ i,i<l.length->P (l.getD i (0,.any)).2
theorem AObj.Al.imp{P Q:AV->Prop}{x:AObj}(h:x.Al P)(k:∀ y,P y->Q y):x.Al Q:=by
 cases x with
 | iter=>trivial
 | map=>trivial
 | pmap=>trivial
 | miter=>exact k _ h
 | tab=>exact λi hi=>k _ (h i hi)
theorem ObjR.al{P:AV->Prop}{I I':Nat->Nat->Prop}{own own':Nat->Option Own}{θ θ':Nat->Option (Nat×Nat)}{w w':World}{o:Obj}{x:AObj}(h:ObjR I own θ w o x)(hx:x.Al P)(hI:∀ b o,I b o->I' b o)(hw:∀ b o,I b o->w'.cell? ⟨b,o,none⟩=w.cell? ⟨b,o,none⟩)(hf:∀ v y,P y->Rep I own θ w v y->Rep I' own' θ' w' v y):ObjR I' own' θ' w' o x:=by
 cases h with
 | iter s p=>exact .iter s p
 | map es nn k l hs hr=>
  refine .map es nn k l hs λi hi=>?_;obtain⟨v,h1,h2,h3⟩:=hr i hi;exact⟨v,h1,h2.mono hI hw,h3⟩
 | pmap es nn k l0 l hp hk hs hr=>
  refine .pmap es nn k l0 l hp hk hs λi hi=>?_;obtain⟨v,h1,h2,h3⟩:=hr i hi;exact⟨v,h1,h2.mono hI hw,h3⟩
 | miter r m n c seen hc hr=>exact .miter r m n c _ hc (hf _ _ hx hr)
 | tab es k l hs hr=>exact .tab es k l hs λi hi=>by obtain⟨v,h1,h2⟩:=hr i hi;exact⟨v,h1,hf _ _ (hx i hi) h2⟩
def cB(b:Nat):Tag->Bool
 | .fam b' _=>!Nat.beq b' b
 | .own nm=>Nat.blt nm Bo
 | _=>true
def iG(k:Nat):Tag->Bool
 | .own k'=>!Nat.beq k' k
 | _=>true
def Fr(q:Nat)(x:AV):Prop:=∀(I:Nat->Nat->Prop) (own own':Nat->Option Own) (θ θ':Nat->Option (Nat×Nat)) (w:World) (v:Value),(∃ sz e m,own q=some (.tok sz e m))->
 (∀ nm o,nm≠q->own nm=some o->∃ o',own' nm=some o'/\OwnLe o (θ nm) o' (θ' nm))->Rep I own θ w v x->Rep I own' θ' w v x
theorem sc{q:Nat}{p:Tag->Bool}(hp:∀ nm,p (.own nm)=true->nm≠q)(hf:∀ b i,i<Bo->p (.fam b i)=true->Sa b i≠q){x:AV}(hx:x.free p=true):Fr q x:=by
 intro I own own' θ θ' w v hq ho h;obtain⟨s0,e0,m0,hq⟩:=hq
 have hne:∀{nm o},own nm=some o->(∀ sz e m,o≠.tok sz e m)->nm≠q:=λhn hh=>by
  grind
 induction h with
 | val v x h=>exact .val v x h
 | exact a n sz f h=>exact .exact a n sz f h
 | own nm sz e m a n cap f hn hm hv h=>
  obtain⟨o',ho',hle⟩:=ho nm _ (hp nm hx) hn
  cases o' with
  | tok sz' e' m'=>
   obtain⟨rfl,rfl,hmm,hθ⟩:=hle;refine .own nm _ _ m' a n cap f ho' (R8 hm hmm) (λhe=>?_) h;rw[hθ (by omega)];exact hv (by omega)
  | _=>exact hle.elim
 | fam b i sz e m a n cap f hi hn hm hv h=>
  obtain⟨o',ho',hle⟩:=ho (Sa b i) _ (hf b i hi hx) hn
  cases o' with
  | tok sz' e' m'=>
   obtain⟨rfl,rfl,hmm,hθ⟩:=hle;refine .fam b i _ _ m' a n cap f hi ho' (R8 hm hmm) (λhe=>?_) h;rw[hθ (by omega)];exact hv (by omega)
  | _=>exact hle.elim
 | ptr nm off e cells g c hn hg=>
  obtain⟨o',ho',hle⟩:=ho nm _ (hne hn (λ_ _ _ h=>by cases h)) hn
  cases o' with
  | row e' cells'=>
   have e:θ' nm=θ nm:=hle.2;exact .ptr nm off e' cells' g c ho' (e.trans hg)
  | _=>exact hle.elim
 | vsl nm sz e m f a n cap hn hm hcap hmax hnn hv=>
  obtain⟨o',ho',hle⟩:=ho nm _ (hne hn (λ_ _ _ h=>by cases h)) hn
  cases o' with
  | arr sz' e' m' f'=>
   obtain⟨rfl,rfl,hmm,hθ⟩:=hle;refine .vsl nm _ _ m' f' a n cap ho' (R8 hm hmm) hcap hmax hnn (λhe=>?_);rw[hθ (by omega)];exact hv (by omega)
  | _=>exact hle.elim
 | vpt nm sz e m f n i j ad hn hm hi hv=>
  obtain⟨o',ho',hle⟩:=ho nm _ (hne hn (λ_ _ _ h=>by cases h)) hn
  cases o' with
  | arr sz' e' m' f'=>
   obtain⟨rfl,rfl,hmm,hθ⟩:=hle;refine .vpt nm _ _ m' f' n i j ad ho' (R8 hm hmm) hi (λhe=>?_);rw[hθ (by omega)];exact hv (by omega)
  | _=>exact hle.elim
 | clo f fs cs xs ys hl hl' _ _ ih ih'=>
  simp only[AV.free,Bc]at hx;exact .clo f fs cs xs ys hl hl' (λj hj=>ih j hj (Lx hx.1 j)) (λj hj=>ih' j hj (Lx hx.2 j))
 | optr nm mm x g c hn hg=>
  obtain⟨o',ho',hle⟩:=ho nm _ (hne hn (λ_ _ _ h=>by cases h)) hn
  cases o' with
  | obj x'=>exact .optr nm mm x' g c ho' (by rw[hle,hg])
  | _=>exact hle.elim
 | omap nm x hn=>
  obtain⟨o',ho',hle⟩:=ho nm _ (hne hn (λ_ _ _ h=>by cases h)) hn
  cases o' with
  | obj x'=>
   have hle:θ' nm=θ nm:=hle;rw[<- hle];exact .omap nm x' ho'
  | _=>exact hle.elim
 | vsub nm sz e m f n lo hi a cap hn hm hlo hhi hcap hmax hnn hv=>
  obtain⟨o',ho',hle⟩:=ho nm _ (hne hn (λ_ _ _ h=>by cases h)) hn
  cases o' with
  | arr sz' e' m' f'=>
   obtain⟨rfl,rfl,hmm,hθ⟩:=hle;refine .vsub nm _ _ m' f' n lo hi a cap ho' (R8 hm hmm) hlo hhi hcap hmax hnn (λhe=>?_);rw[hθ (by omega)];exact hv (by omega)
  | _=>exact hle.elim
 | cond v c x _ h' ih=>exact .cond v c x (λhc=>ih hc hx) h'
 | agg vs cs hl h1 _ ih=>exact .agg vs cs hl h1 (λj hj=>ih j hj (Lx hx j))
 | rpo a cells us hs hI' hc h1 _ ih=>exact .rpo a cells us hs hI' hc h1 (λj hj=>ih j hj (Lx hx j))
 | tuple vs cs hl _ ih=>exact .tuple vs cs hl (λj hj=>ih j hj (Lx hx j))
theorem ml{b i:Nat}(hi:i<Bo){x:AV}(hx:x.free (cB b)=true):Fr (Sa b i) x:=
 sc  (λnm hp he=>by
  have hlt :=by simpa [cB,K1] using hp
  rw[he]at hlt
  exact Qt b i hlt) (λb' i' hi' hp he=>by
  have h1:=Wp (b:=b') hi';rw[he,Wp hi]at h1;subst h1
  simp[cB]at hp) hx
theorem mn{k:Nat}(hk:k<Bo){x:AV}(hx:x.free (iG k)=true):Fr k x:=
 sc  (λnm hp he=>by subst he;simp[iG]at hp) (λb i _ _ he=>by rw[<- he]at hk;exact Qt b i hk) hx
def lE(q:Nat):Own->Prop
 | .row _ cells=>∀ j,j<cells.length->Fr q (cells.getD j .any)
 | .arr sz _ m f=>∀ i j,i<m->j<sz->Fr q ((f i).getD j .any)
 | .obj x=>x.Al (Fr q)
 | .tok ..=>True
theorem Zn{I:Nat->Nat->Prop}{own own':Nat->Option Own}{θ θ':Nat->Option (Nat×Nat)}{w:World}{nm sz m:Nat}{e:TypeId}{f f':Nat->List AV}
  (h:(θ nm=none->m=0)/\∀ g c,θ nm=some (g,c)->∃ cur,w.heap[g]?=some (.cells cur e (0,0))/\m<=c/\c<=maxLen/\cur.size=c*sz /\
   (∀ i,i<m->(f i).length=sz)/\(∀ i j,i<m->j<sz->(cur.getD (i*sz+j) undef).oneCell'=true/\Rep I own θ w (cur.getD (i*sz+j) undef) ((f i).getD j .any))/\∀ j,¬ I g j)
  (hθ:θ' nm=θ nm) (hf:∀ i,i<m->(f' i).length=(f i).length) (hr:∀ i j v,i<m->j<sz->Rep I own θ w v ((f i).getD j .any)->Rep I own' θ' w v ((f' i).getD j .any)) :
  (θ' nm=none->m=0)/\∀ g c,θ' nm=some (g,c)->∃ cur,w.heap[g]?=some (.cells cur e (0,0))/\m<=c/\c<=maxLen/\cur.size=c*sz /\
   (∀ i,i<m->(f' i).length=sz)/\(∀ i j,i<m->j<sz->(cur.getD (i*sz+j) undef).oneCell'=true/\Rep I own' θ' w (cur.getD (i*sz+j) undef) ((f' i).getD j .any))/\∀ j,¬ I g j:=by
 rw[hθ];refine⟨h.1,λg c hg=>?_⟩;obtain⟨cur,q1,q2,q3,q4,q5,q6,q7⟩:=h.2 g c hg;exact⟨cur,q1,q2,q3,q4,λi hi=>(hf i hi).trans (q5 i hi),λi j hi hj=>⟨(q6 i j hi hj).1,hr i j _ hi hj (q6 i j hi hj).2⟩,q7⟩
section
variable {Γ:Ih} {σ:Sto} {I:Nat->Nat->Prop} {θ:Nat->Option (Nat×Nat)} {a:Act} {w:World}
theorem PY(h:Rel Γ σ I θ a w){p q r sz m s1 n:Nat}{e e1:TypeId}{F F':Nat->List AV}(hp:σ.own p=some (.tok sz e m))(hq:σ.own q=none)(hr:σ.own r=some (.arr s1 e1 n F))(hp0:Γ.own0 p=none)
  (hfree:∀ t,Fr p (σ.tmp t)) (hrows:∀ nm o,nm≠r->σ.own nm=some o->lE p o) {own':Nat->Option Own} {θ':Nat->Option (Nat×Nat)}
  (hown:own'=λx=>if x=q then some (.tok sz e m) else if x=p then none else if x=r then some (.arr s1 e1 n F') else σ.own x)
  (hθ:θ'=λx=>if x=q then θ p else if x=p then none else θ x)
  (hlen:∀ j,j<n->(F' j).length=(F j).length)
  (hF:∀ j c v,j<n->c<s1->Rep I σ.own θ w v ((F j).getD c .any)->Rep I own' θ' w v ((F' j).getD c .any)) :
  Rel Γ ⟨σ.tmp,own'⟩ I θ' a w:=by
 have hpq:p≠q:=by rintro rfl;rw[hp]at hq;cases hq
 have hpr:p≠r:=by rintro rfl;rw[hp]at hr;cases hr
 have hqr:q≠r:=by rintro rfl;rw[hq]at hr;cases hr
 have hkeep:∀ nm o,nm≠p->σ.own nm=some o->∃ o',own' nm=some o'/\OwnLe o (θ nm) o' (θ' nm):=λnm o hnp ho=>by
  have hnq:nm≠q:=by rintro rfl;rw[hq]at ho;cases ho
  by_cases hnr:nm=r
  ·subst hnr;rw[hr]at ho;obtain rfl:=OI ho;exact⟨.arr s1 e1 n F',by simp[hown,hnq,hnp],by simp[hθ,hnq,hnp,OwnLe]⟩
  ·exact⟨o,by simp[hown,hnq,hnp,hnr,ho],by simp[hθ,hnq,hnp,OwnLe.refl]⟩
 have hT:∀ v x,Fr p x->Rep I σ.own θ w v x->Rep I own' θ' w v x:=λv x hx hv=>hx I _ _ _ _ w v ⟨_,_,_,hp⟩ hkeep hv
 have hinv:∀ nm o,nm≠q->nm≠r->own' nm=some o->nm≠p/\σ.own nm=some o/\θ' nm=θ nm:=λnm o h1 h2 ho=>by
  by_cases h3:nm=p
  ·simp[hown,h3,hpq]at ho
  ·simp[hown,h1,h2,h3]at ho;exact⟨h3,ho,by simp[hθ,h1,h3]⟩
 have hnone:∀ nm,own' nm≠none->∃ nm',σ.own nm'≠none/\θ' nm=θ nm'/\(nm=q->nm'=p)/\(nm≠q->nm'=nm/\nm≠p):=λnm hn=>by
  grind
 have hq':own' q=some (.tok sz e m):=by simp[hown]
 have hr':own' r=some (.arr s1 e1 n F'):=by simp[hown,Ne.symm hqr,Ne.symm hpr]
 have hrel:=h.chg.rel
 have hθr:θ' r=θ r:=by simp[hθ,Ne.symm hqr,Ne.symm hpr]
 have hθq:θ' q=θ p:=by simp[hθ]
 refine⟨h.size,h.defers,λt=>hT _ _ (hfree t) (h.slots t),{ h.chg with le:=λnm o ho=>?_,rel:=⟨λnm e0 cells ho=>?_,λnm s' e' m' ho g c hg=>?_,λnm nm' g c c' ho ho' hg hg'=>?_,λnm s' e' m' f' ho=>?_,λnm x ho=>?_,λnm s' m' ho hnn=>?_⟩,new:=λnm g c ho hg=>?_ }⟩
 ·obtain⟨o',ho',hl⟩:=h.chg.le nm o ho
  have hnp:nm≠p:=by rintro rfl;rw[hp0]at ho;cases ho
  obtain⟨o'',h1,h2⟩:=hkeep nm o' hnp ho';exact⟨o'',h1,hl.trans h2⟩
 ·replace ho:own' nm=some _:=ho
  have h1:nm≠q:=by rintro rfl;rw[hq']at ho;cases ho
  have h2:nm≠r:=by rintro rfl;rw[hr']at ho;cases ho
  obtain⟨h3,h4,h5⟩:=hinv nm _ h1 h2 ho;obtain⟨g,c,vs,r1,r2,r3,r4,r5,r6⟩:=hrel.row nm e0 cells h4;exact⟨g,c,vs,h5.trans r1,r2,r3,r4,λj hj=>hT _ _ (hrows nm _ h2 h4 j hj) (r5 j hj),r6⟩
 ·replace ho:own' nm=some _:=ho
  by_cases h1:nm=q
  ·subst h1;rw[hq']at ho;simp only[Am,Own.tok.injEq]at ho;obtain⟨rfl,rfl,rfl⟩:=ho;exact hrel.tok p _ _ _ hp g c (hθq.symm.trans hg)
  ·have h2:nm≠r:=by rintro rfl;rw[hr']at ho;cases ho
   obtain⟨h3,h4,h5⟩:=hinv nm _ h1 h2 ho;exact hrel.tok nm _ _ _ h4 g c (h5.symm.trans hg)
 ·obtain⟨n1,a1,a2,a3,a4⟩:=hnone nm ho;obtain⟨n2,b1,b2,b3,b4⟩:=hnone nm' ho';have:=hrel.inj n1 n2 g c c' a1 b1 (a2.symm.trans hg) (b2.symm.trans hg')
  by_cases h1:nm=q
  ·by_cases h2:nm'=q
   ·rw[h1,h2]
   ·have:=a3 h1;have:=b4 h2;omega
  ·by_cases h2:nm'=q
   ·have:=a4 h1;have:=b3 h2;omega
   ·have:=a4 h1;have:=b4 h2;omega
 ·replace ho:own' nm=some _:=ho
  have h1:nm≠q:=by rintro rfl;rw[hq']at ho;cases ho
  by_cases h2:nm=r
  ·subst h2;rw[hr']at ho;simp only[Am,Own.arr.injEq]at ho;obtain⟨rfl,rfl,rfl,rfl⟩:=ho;exact Zn (hrel.arr nm _ _ _ _ hr) hθr hlen hF
  ·obtain⟨h3,h4,h5⟩:=hinv nm _ h1 h2 ho;exact Zn (hrel.arr nm _ _ _ _ h4) h5 (λ_ _=>rfl) (λi j v hi hj hv=>hT _ _ (hrows nm _ h2 h4 i j hi hj) hv)
 ·replace ho:own' nm=some _:=ho
  have h1:nm≠q:=by rintro rfl;rw[hq']at ho;cases ho
  have h2:nm≠r:=by rintro rfl;rw[hr']at ho;cases ho
  obtain⟨h3,h4,h5⟩:=hinv nm _ h1 h2 ho;exact L1 (hrel.obj nm _ h4) h5 (λ_ _ _=>rfl) (λ_ _ _ _ h=>h) (λ_ hh=>hh.al (hrows nm _ h2 h4) (λ_ _ h=>h) (λ_ _ _=>rfl) λv y hy hv=>hT v y hy hv) Va
 ·replace ho:own' nm=some _:=ho
  by_cases h1:nm=q
  ·subst h1;rw[hq']at ho;simp only[Am,Own.tok.injEq]at ho;obtain⟨rfl,he,rfl⟩:=ho;exact hrel.tok8 p _ _ (by rw[hp,he]) (hθq.symm.trans hnn)
  ·have h2:nm≠r:=by rintro rfl;rw[hr']at ho;cases ho
   obtain⟨h3,h4,h5⟩:=hinv nm _ h1 h2 ho;exact hrel.tok8 nm _ _ h4 (h5.symm.trans hnn)
 ·obtain⟨n1,a1,a2,_,_⟩:=hnone nm ho;exact h.chg.new n1 g c a1 (a2.symm.trans hg)
theorem fH(h:Rel Γ σ I θ a w){r s1 n:Nat}{e1:TypeId}{F F':Nat->List AV}(hr:σ.own r=some (.arr s1 e1 n F)){S:Nat->Option (Nat×TypeId×Nat)}(hS:∀ x y,S x=some y->σ.own x=none)
  (h8:∀ x sz m,S x=some (sz,DP,m)->m=0) {own':Nat->Option Own} {θ':Nat->Option (Nat×Nat)}
  (hown:own'=λx=>match S x with|some y=>some (.tok y.1 y.2.1 y.2.2)|none=>if x=r then some (.arr s1 e1 n F') else σ.own x)
  (hθ:θ'=λx=>match S x with|some _=>none|none=>θ x) (hlen:∀ j,j<n->(F' j).length=(F j).length)
  (hF:∀ j c v,j<n->c<s1->Rep I σ.own θ w v ((F j).getD c .any)->Rep I own' θ' w v ((F' j).getD c .any)) :
  Rel Γ ⟨σ.tmp,own'⟩ I θ' a w:=by
 have hSn:∀ nm o,σ.own nm=some o->S nm=none:=λnm o ho=>by
  cases hx:S nm with
  | none=>rfl
  | some y=>rw[hS nm y hx]at ho;cases ho
 have hkeep:∀ nm o,σ.own nm=some o->∃ o',own' nm=some o'/\OwnLe o (θ nm) o' (θ' nm):=λnm o ho=>by
  have h1:=hSn nm o ho
  by_cases hnr:nm=r
  ·subst hnr;rw[hr]at ho;obtain rfl:=OI ho;exact⟨.arr s1 e1 n F',by simp[hown,h1],by simp[hθ,h1,OwnLe]⟩
  ·exact⟨o,by simp[hown,h1,hnr,ho],by simp[hθ,h1,OwnLe.refl]⟩
 have hT:∀ v x,Rep I σ.own θ w v x->Rep I own' θ' w v x:=λv x hv=>hv.mono (λ_ _ h=>h) (λ_ _ _=>rfl) hkeep
 have hinv:∀ nm o,own' nm=some o->(∀ sz e m,o≠.tok sz e m)->nm≠r->σ.own nm=some o/\θ' nm=θ nm:=λnm o ho hn h2=>by
  cases hx:S nm with
  | none=>simp[hown,hx,h2]at ho;exact⟨ho,by simp[hθ,hx]⟩
  | some y=>simp[hown,hx]at ho;exact(hn _ _ _ ho.symm).elim
 have hold:∀ nm g c,own' nm≠none->θ' nm=some (g,c)->σ.own nm≠none/\θ nm=some (g,c):=λnm g c ho hg=>by
  cases hx:S nm with
  | some y=>simp[hθ,hx]at hg
  | none=>
   simp[hθ,hx]at hg;refine⟨?_,hg⟩
   by_cases h2:nm=r
   ·subst h2;simp[hr]
   ·simpa [hown,hx,h2] using ho
 have hSr:S r=none:=hSn r _ hr
 have hr':own' r=some (.arr s1 e1 n F'):=by simp[hown,hSr]
 have hθr:θ' r=θ r:=by simp[hθ,hSr]
 have hrel:=h.chg.rel;refine⟨h.size,h.defers,λt=>hT _ _ (h.slots t),{ h.chg with le:=λnm o ho=>?_,rel:=⟨λnm e0 cells ho=>?_,λnm s' e' m' ho g c hg=>?_,λnm nm' g c c' ho ho' hg hg'=>?_,λnm s' e' m' f' ho=>?_,λnm x ho=>?_,λnm s' m' ho hnn=>?_⟩,new:=λnm g c ho hg=>?_ }⟩
 ·obtain⟨o',ho',hl⟩:=h.chg.le nm o ho;obtain⟨o'',h1,h2⟩:=hkeep nm o' ho';exact⟨o'',h1,hl.trans h2⟩
 ·replace ho:own' nm=some _:=ho
  have h2:nm≠r:=by rintro rfl;rw[hr']at ho;cases ho
  obtain⟨h4,h5⟩:=hinv nm _ ho (λ_ _ _ h=>by cases h) h2;obtain⟨g,c,vs,r1,r2,r3,r4,r5,r6⟩:=hrel.row nm e0 cells h4;exact⟨g,c,vs,h5.trans r1,r2,r3,r4,λj hj=>hT _ _ (r5 j hj),r6⟩
 ·replace ho:own' nm=some _:=ho;obtain⟨h1,h2⟩:=hold nm g c (by rw[ho];simp) hg
  cases hx:S nm with
  | some y=>simp[hθ,hx]at hg
  | none=>
   have h3:nm≠r:=by rintro rfl;rw[hr']at ho;cases ho
   simp[hown,hx,h3]at ho;exact hrel.tok nm _ _ _ ho g c h2
 ·obtain⟨a1,a2⟩:=hold nm g c ho hg;obtain⟨b1,b2⟩:=hold nm' g c' ho' hg';exact hrel.inj nm nm' g c c' a1 b1 a2 b2
 ·replace ho:own' nm=some _:=ho
  by_cases h2:nm=r
  ·subst h2;rw[hr']at ho;simp only[Am,Own.arr.injEq]at ho;obtain⟨rfl,rfl,rfl,rfl⟩:=ho;exact Zn (hrel.arr nm _ _ _ _ hr) hθr hlen hF
  ·obtain⟨h4,h5⟩:=hinv nm _ ho (λ_ _ _ h=>by cases h) h2;exact Zn (hrel.arr nm _ _ _ _ h4) h5 (λ_ _=>rfl) (λi j v _ _ hv=>hT _ _ hv)
 ·replace ho:own' nm=some _:=ho
  have h2:nm≠r:=by rintro rfl;rw[hr']at ho;cases ho
  obtain⟨h4,h5⟩:=hinv nm _ ho (λ_ _ _ h=>by cases h) h2;exact L1 (hrel.obj nm _ h4) h5 (λ_ _ _=>rfl) (λ_ _ _ _ h=>h) (λ_ hh=>hh.mono hT) Va
 ·replace ho:own' nm=some _:=ho
  cases hx:S nm with
  | some y=>
   simp only[hown,hx,Am,Own.tok.injEq]at ho;obtain⟨h1,h2,h3⟩:=ho;rw[<- h3];exact h8 nm y.1 y.2.2 (by rw[hx,<- h2])
  | none=>
   have h3:nm≠r:=by rintro rfl;rw[hr']at ho;cases ho
   simp[hown,hx,h3]at ho;simp[hθ,hx]at hnn;exact hrel.tok8 nm _ _ ho hnn
 ·obtain⟨a1,a2⟩:=hold nm g c ho hg;exact h.chg.new nm g c a1 a2
inductive OwnsFr (p:Tag->Bool) (r:Nat):List (Nat×Own)->Prop
 | nil:OwnsFr p r []
 | row {nm:Nat} {e:TypeId} {cells:List AV} {l:List (Nat×Own)} (h:AV.freeAll p cells=true) (t:OwnsFr p r l):OwnsFr p r ((nm,.row e cells)::l)
 | here {o:Own} {l:List (Nat×Own)} (t:OwnsFr p r l):OwnsFr p r ((r,o)::l)
 | arr {nm sz m:Nat} {e:TypeId} {f:Nat->List AV} {l:List (Nat×Own)} (h:∀ j,AV.freeAll p (f j)=true) (t:OwnsFr p r l):OwnsFr p r ((nm,.arr sz e m f)::l)
 | tok {nm sz m:Nat} {e:TypeId} {l:List (Nat×Own)} (t:OwnsFr p r l):OwnsFr p r ((nm,.tok sz e m)::l)
 | obj {nm:Nat} {x:AObj} {l:List (Nat×Own)} (t:OwnsFr p r l) (h:x.Al (λy=>y.free p=true):=by first|trivial|rfl):OwnsFr p r ((nm,.obj x)::l)
theorem OwnsFr.get{p:Tag->Bool}{r q:Nat}(hp:∀ x:AV,x.free p=true->Fr q x){l:List (Nat×Own)}(h:OwnsFr p r l){nm:Nat}{o:Own}(hn:nm≠r)(ho:Ag l nm=some o):lE q o:=by
 induction h with
 | nil=>cases ho
 | @row k e cells l h _ ih=>
  simp only[Ag]at ho
  cases hb:Nat.beq k nm with
  | true=>rw[hb]at ho;simp only[Ac,Am]at ho;subst ho;exact λj _=>hp _ (Lx h j)
  | false=>grind
 | @here o' l _ ih=>
  simp only[Ag]at ho
  cases hb:Nat.beq r nm with
  | true=>simp_all
  | false=>grind
 | @arr k sz m e f l h _ ih=>
  simp only[Ag]at ho
  cases hb:Nat.beq k nm with
  | true=>rw[hb]at ho;simp only[Ac,Am]at ho;subst ho;exact λi j _ _=>hp _ (Lx (h i) j)
  | false=>grind
 | @tok k sz m e l _ ih=>
  simp only[Ag]at ho
  cases hb:Nat.beq k nm with
  | true=>rw[hb]at ho;simp only[Ac,Am]at ho;subst ho;trivial
  | false=>grind
 | @obj k x l _ h ih=>
  simp only[Ag]at ho
  cases hb:Nat.beq k nm with
  | true=>rw[hb]at ho;simp only[Ac,Am]at ho;subst ho;exact h.imp λy hy=>hp y hy
  | false=>grind
theorem OwnsFr.sto{p:Tag->Bool}{r q:Nat}(hp:∀ x:AV,x.free p=true->Fr q x){st:St}(h:OwnsFr p r st.own){nm:Nat}{o:Own}(hn:nm≠r)(ho:st.sto.own nm=some o):lE q o:=by
 by_cases hlt:nm<Bo
 ·exact h.get hp hn ((A8 hlt).symm.trans ho)
 ·obtain⟨sz,e,m,rfl⟩:=Ww hlt ho
  trivial
theorem ia{p:Tag->Bool}{q:Nat}(hp:∀ x:AV,x.free p=true->Fr q x){st:St}(h:st.tmps.all (λx=>x.2.free p)=true)(t:Nat):Fr q (st.sto.tmp t):=by
 show Fr q (match Ag _ t with|some x=>x|none=>.any)
 cases hx:Ag _ t with
 | none=>exact hp _ rfl
 | some x=>exact hp _ (zzL32.1 h _ (IJ hx))
def kR{α:Type}(l:List (Nat×α))(k:Nat):List (Nat×α):=l.filter λp=>!Nat.beq p.1 k
theorem jt{α:Type}(l:List (Nat×α))(k n:Nat):Ag (kR l k) n=if k=n then none else Ag l n:=by
 induction l with
 | nil=>simp[kR,Ag]
 | cons p l ih=>
  obtain⟨m,x⟩:=p
  have ih':Ag (List.filter _ l) n=if k=n then none else Ag l n:=ih
  simp only[kR,List.filter_cons,Ag]
  cases hb:Nat.beq m k with
  | true=>
   have:=Cq hb;subst this;simp only[Ds,HM,Hy,ih']
   by_cases h:m=n
   ·simp[h]
   ·have:Nat.beq m n=false:=by cases hb:Nat.beq m n with|false=>rfl|true=>simp_all
    simp[ this]
  | false=>
   simp only[Mt,Lt,Ag,ih']
   cases hb':Nat.beq m n with
   | true=>
    grind
   | false=>simp
theorem rX{I:Nat->Nat->Prop}{own own':Nat->Option Own}{θ θ':Nat->Option (Nat×Nat)}{w:World}{v:Value}{sz n b i p q m:Nat}{e:TypeId}{f:Nat->List AV}(hv:Rep I own θ w v (.slice sz n f (.fam b i)))(hb:Sa b i=p)(hp:own p=some (.tok sz e m))
  (hq:own' q=some (.tok sz e m)) (hθ:θ' q=θ p):Rep I own' θ' w v (.slice sz n f (.own q)):=by
 cases hv with
 | val v x h =>  cases h
 | fam _ _ _ e' m a n' cap f hi' ho' hm hv' h'=>
  rw[hb]at ho' hv';rw[hp]at ho';obtain⟨_,rfl,rfl⟩:=ho';exact .own q sz e _ _ _ _ _ hq hm (λhh=>by rw[hθ];exact hv' hh) h'
theorem cg{I:Nat->Nat->Prop}{own own':Nat->Option Own}{θ θ':Nat->Option (Nat×Nat)}{w:World}{v:Value}{sz n b i p:Nat}{f:Nat->List AV}(hv:Rep I own θ w v (.slice sz n f (.fam b i)))(hb:Sa b i=p)(ho:i<Bo->own' p=own p)(hθ:i<Bo->θ' p=θ p):Rep I own' θ' w v (.slice sz n f (.fam b i)):=by
 cases hv with
 | val v x h =>  cases h
 | fam _ _ _ e' m a n' cap f hi' ho' hm hv' h'=>
  rw[hb]at ho' hv';exact .fam b i sz e' m _ _ _ _ hi' (by grind) hm (λhh=>by grind) h'
theorem ny{I:Nat->Nat->Prop}{own own':Nat->Option Own}{θ θ':Nat->Option (Nat×Nat)}{w:World}{v:Value}{sz n b i p q m:Nat}{e:TypeId}{f:Nat->List AV}(hv:Rep I own θ w v (.slice sz n f (.own p)))(hb:Sa b i=q)(hi:i<Bo)(hp:own p=some (.tok sz e m))
  (hq:own' q=some (.tok sz e m)) (hθ:θ' q=θ p):Rep I own' θ' w v (.slice sz n f (.fam b i)):=by
 cases hv with
 | val v x h =>  cases h
 | own _ _ e' m' a n' cap f ho' hm' hv' h'=>
  rw[hp]at ho';obtain⟨_,rfl,rfl⟩:=ho';exact .fam b i sz e m _ _ _ _ hi (by rw[hb];exact hq) hm' (λhh=>by grind) h'
theorem rW{I:Nat->Nat->Prop}{own own':Nat->Option Own}{θ θ':Nat->Option (Nat×Nat)}{w:World}{v:Value}{sz n b i q:Nat}{e:TypeId}{f:Nat->List AV}(hv:Rep I own θ w v (.slice sz n f .exact))(hb:Sa b i=q)(hi:i<Bo)(hq:own' q=some (.tok sz e n))(hθ:θ' q=none) :
  Rep I own' θ' w v (.slice sz n f (.fam b i)):=by
 cases hv with
 | val v x h =>  cases h
 | exact a n' s' f h'=>exact .fam b i sz e _ _ _ _ _ hi (by rw[hb];exact hq) (zzL7 _) (λ_=>by rw[hb,hθ]) h'
section
variable {α:Type} {st:St} {r b k n sz:Nat} {e1:TypeId}
theorem fQ{I:Nat->Nat->Prop}{own:Nat->Option Own}{θ:Nat->Option (Nat×Nat)}{w:World}(h:K2 I own θ w){s1:Nat}{F:Nat->List AV}(hr:own r=some (.arr s1 e1 n F)){i:Nat}(hi:i<n):i<Bo:=by
 have hm:maxLen<Bo:=by decide
 obtain⟨h1,h2⟩:=h.arr r _ _ _ _ hr
 cases hx:θ r with
 | none=>have:=h1 hx;omega
 | some y=>grind
theorem iC(enc:α->List AV)(d:α)(L:List (List α))(i:Nat)(e:TypeId)(hr:Ag st.own r=some (.arr 1 e1 n (N7 sz enc d L (Tag.fam b))))(hb:Ag st.fam b=some ⟨sz,e,M1 L⟩)(hk:Ag st.own k=none)(hn:n=L.length)(hi:i<L.length)
  (ht:st.tmps.all (λx=>x.2.free (cB b))=true) (ho:OwnsFr (cB b) r st.own) (hlr:Nat.blt r Bo=true:=by rfl) (hlk:Nat.blt k Bo=true:=by rfl) :
  Le Γ st ⟨st.tmps,D6 (D6 st.own r (.arr 1 e1 n (N7 sz enc d L (Ht b i k)))) k (.tok sz e (L.getD i []).length),D6 st.fam b ⟨sz,e,Zw L i⟩⟩:=by
 intro I θ a w h
 have hlr:r<Bo:=by simpa [K1] using hlr
 have hlk:k<Bo:=by simpa [K1] using hlk
 have hr':st.sto.own r=some _:=(A8 hlr).trans hr;have hk':st.sto.own k=none:=(A8 hlk).trans hk;have hib:i<Bo:=fQ h.chg.rel hr' (by omega)
 have hp:st.sto.own (Sa b i)=some (.tok sz e (L.getD i []).length):=by
  show Dh _ _ _=_
  rw[OB hib,hb];simp[M1,hi]
 have hown:(⟨st.tmps,D6 (D6 st.own r (.arr 1 e1 n (N7 sz enc d L (Ht b i k)))) k (.tok sz e (L.getD i []).length),D6 st.fam b ⟨sz,e,Zw L i⟩⟩:St).sto.own =
   λx=>if x=k then some (.tok sz e (L.getD i []).length) else if x=Sa b i then none else if x=r then some (.arr 1 e1 n (N7 sz enc d L (Ht b i k))) else st.sto.own x:=by
  funext x
  show Dh (D6 (D6 st.own r _) k _) (D6 st.fam b _) x=if x=k then _ else if x=Sa b i then none else if x=r then _ else Dh st.own st.fam x
  by_cases hx:x<Bo
  ·have h1:x≠Sa b i:=λhe=>by rw[he]at hx;exact Qt b i hx
   rw[A8 hx,A8 hx,G2,G2];simp only[Si (a:=k),Si (a:=r),h1,Hy]
  ·have h1:x≠k:=by rintro rfl;exact hx hlk
   have h2:x≠r:=by rintro rfl;exact hx hlr
   rw[D0 hx,D0 hx,G2,if_neg h1,if_neg h2]
   by_cases hd:b=x / Bo-1
   ·have hxe:=mQ hx;rw[<- hd]at hxe
    by_cases hm:x % Bo=i
    ·rw[hm]at hxe;rw[if_pos hd,if_pos hxe,hm];simp[Zw]
    ·have h3:x≠Sa b i:=λhe=>hm (by rw[he,Uh hib]);rw[if_pos hd,if_neg h3,<- hd,hb];simp[Zw,hm]
   ·have h3:x≠Sa b i:=λhe=>hd (by rw[he,Wp hib]);rw[if_neg hd,if_neg h3]
 let θ' :=λx=>if x=k then θ (Sa b i) else if x=Sa b i then none else θ x
 refine⟨I,θ',?_⟩;have hrr:=PY (θ':=θ') h hp hk' hr' (by cases hx:Γ.own0 (Sa b i) with|none=>rfl|some o=>exact(Qt b i (Γ.lt0 _ (by rw[hx];simp))).elim)
  (λt=>ia (λx hx=>ml hib hx) ht t) (λnm o hne ho'=>ho.sto (λx hx=>ml hib hx) hne ho') hown rfl (λj _=>rfl) (λj c v hj hc hv=>?_)
 ·exact hrr
 ·obtain rfl:c=0:=by omega
  show Rep I _ θ' w v (.slice sz _ _ (Ht b i k j))
  cases hji:Nat.beq j i with
  | true=>
   have:=Cq hji;subst this;rw[show Ht b j k j = .own k by simp[Ht]];exact rX hv rfl hp ((congrFun hown k).trans (if_pos rfl)) (if_pos rfl)
  | false=>
   have hne:j≠i:=by rintro rfl;simp at hji
   rw[show Ht b i k j = .fam b j by simp[Ht,hji]];have h3:j<Bo->Sa b j≠Sa b i:=λhi' he=>hne (by rw[<- Uh (b:=b) hi',he,Uh hib])
   have h4:Sa b j≠k:=λhe=>by rw[<- he]at hlk;exact Qt b j hlk
   have h5:Sa b j≠r:=λhe=>by rw[<- he]at hlr;exact Qt b j hlr
   exact cg hv rfl (λhi'=>(congrFun hown _).trans ((if_neg h4).trans ((if_neg (h3 hi')).trans (if_neg h5)))) (λhi'=>(if_neg h4).trans (if_neg (h3 hi')))
theorem nC(enc:α->List AV)(d:α)(L:List (List α))(i:Nat)(x:List α)(e:TypeId){F:Nat->List AV}{m:Nat}(hr:Ag st.own r=some (.arr 1 e1 n F))(hF:∀ j,j<n->F j=N7 sz enc d (L.set i x) (Ht b i k) j)(hb:Ag st.fam b=some ⟨sz,e,Zw L i⟩)(hk:Ag st.own k=some (.tok sz e m))(hm:m=x.length)(hn:n=L.length)(hi:i<L.length)
  (ht:st.tmps.all (λx=>x.2.free (iG k))=true) (ho:OwnsFr (iG k) r st.own) (h0:Γ.own0 k=none) (hlr:Nat.blt r Bo=true:=by rfl) (hlk:Nat.blt k Bo=true:=by rfl) :
  Le Γ st ⟨st.tmps,kR (D6 st.own r (.arr 1 e1 n (N7 sz enc d (L.set i x) (Tag.fam b)))) k,D6 st.fam b ⟨sz,e,M1 (L.set i x)⟩⟩:=by
 intro I θ a w h
 have hlr:r<Bo:=by simpa [K1] using hlr
 have hlk:k<Bo:=by simpa [K1] using hlk
 have hr':st.sto.own r=some (.arr 1 e1 n F):=(A8 hlr).trans hr;have hk':st.sto.own k=some (.tok sz e m):=(A8 hlk).trans hk;have hib:i<Bo:=fQ h.chg.rel hr' (by omega)
 have hp:st.sto.own (Sa b i)=none:=by
  show Dh _ _ _=_
  rw[OB hib,hb];simp[Zw]
 have hgi:(L.set i x).getD i []=x:=by simp[List.getD,hi]
 have hgj:∀ j,j≠i->(L.set i x).getD j []=L.getD j []:=λj hj=>by simp[List.getD,Ne.symm hj]
 have hown:(⟨st.tmps,kR (D6 st.own r (.arr 1 e1 n (N7 sz enc d (L.set i x) (Tag.fam b)))) k,D6 st.fam b ⟨sz,e,M1 (L.set i x)⟩⟩:St).sto.own =
   λy=>if y=Sa b i then some (.tok sz e m) else if y=k then none else if y=r then some (.arr 1 e1 n (N7 sz enc d (L.set i x) (Tag.fam b))) else st.sto.own y:=by
  funext y
  show Dh (kR (D6 st.own r _) k) (D6 st.fam b _) y=if y=Sa b i then _ else if y=k then none else if y=r then _ else Dh st.own st.fam y
  by_cases hx:y<Bo
  ·have h1:y≠Sa b i:=λhe=>by rw[he]at hx;exact Qt b i hx
   rw[A8 hx,A8 hx,jt,G2];simp only[Si (a:=k),Si (a:=r),h1,Hy]
  ·have h1:y≠k:=by rintro rfl;exact hx hlk
   have h2:y≠r:=by rintro rfl;exact hx hlr
   rw[D0 hx,D0 hx,G2,if_neg h1,if_neg h2]
   by_cases hd:b=y / Bo-1
   ·have hxe:=mQ hx;rw[<- hd]at hxe
    by_cases hm':y % Bo=i
    ·rw[hm']at hxe;rw[if_pos hd,if_pos hxe,hm',Ai];simp only[M1,G1,hi,Lt,hgi,hm,FA]
    ·have h3:y≠Sa b i:=λhe=>hm' (by rw[he,Uh hib]);rw[if_pos hd,if_neg h3,<- hd,hb];simp only[Ai,Zw,hm',Hy,M1,G1,hgj _ hm']
   ·have h3:y≠Sa b i:=λhe=>hd (by rw[he,Wp hib]);rw[if_neg hd,if_neg h3]
 let θ':Nat->Option (Nat×Nat):=λy=>if y=Sa b i then θ k else if y=k then none else θ y
 refine⟨I,θ',?_⟩;have hrr:=PY (θ':=θ') h hk' hp hr' h0 (λt=>ia (λx hx=>mn hlk hx) ht t) (λnm o hne ho'=>ho.sto (λx hx=>mn hlk hx) hne ho') hown rfl
  (λj hj=>by rw[hF j hj];rfl) (λj c v hj hc hv=>?_)
 ·exact hrr
 ·obtain rfl:c=0:=by omega
  rw[hF j hj]at hv;replace hv:Rep I st.sto.own θ w v (.slice sz ((L.set i x).getD j []).length _ (Ht b i k j)):=hv
  cases hji:Nat.beq j i with
  | true=>
   have:=Cq hji;subst this;rw[show Ht b j k j = .own k by simp[Ht]]at hv;exact ny hv rfl hib hk' ((congrFun hown _).trans (if_pos rfl)) (if_pos rfl)
  | false=>
   have hne:j≠i:=by rintro rfl;simp at hji
   rw[show Ht b i k j = .fam b j by simp[Ht,hji]]at hv;have h3:j<Bo->Sa b j≠Sa b i:=λhi' he=>hne (by rw[<- Uh (b:=b) hi',he,Uh hib])
   have h4:Sa b j≠k:=λhe=>by rw[<- he]at hlk;exact Qt b j hlk
   have h5:Sa b j≠r:=λhe=>by rw[<- he]at hlr;exact Qt b j hlr
   exact cg hv rfl (λhi'=>(congrFun hown _).trans ((if_neg (h3 hi')).trans ((if_neg h4).trans (if_neg h5)))) (λhi'=>(if_neg (h3 hi')).trans (if_neg h4))
theorem bh(enc:α->List AV)(d:α)(L:List (List α))(e:TypeId)(hr:Ag st.own r=some (.arr 1 e1 n (N7 sz enc d L (λ_=>.exact))))(hb:Ag st.fam b=none)(hn:n=L.length)(h8:e=DP->∀ j,(L.getD j []).length=0)(hlr:Nat.blt r Bo=true:=by rfl) :
  Le Γ st ⟨st.tmps,D6 st.own r (.arr 1 e1 n (N7 sz enc d L (Tag.fam b))),D6 st.fam b ⟨sz,e,M1 L⟩⟩:=by
 intro I θ a w h
 have hlr:r<Bo:=by simpa [K1] using hlr
 have hr':st.sto.own r=some _:=(A8 hlr).trans hr
 let S :=λx=>if x<Bo then none else if b=x / Bo-1 then(M1 L (x % Bo)).map λm=>(sz,e,m) else none
 have hown:(⟨st.tmps,D6 st.own r (.arr 1 e1 n (N7 sz enc d L (Tag.fam b))),D6 st.fam b ⟨sz,e,M1 L⟩⟩:St).sto.own =
   λx=>match S x with|some y=>some (.tok y.1 y.2.1 y.2.2)|none=>if x=r then some (.arr 1 e1 n (N7 sz enc d L (Tag.fam b))) else st.sto.own x:=by
  funext x
  show Dh (D6 st.own r _) (D6 st.fam b _) x=match S x with|some y=>_|none=>if x=r then _ else Dh st.own st.fam x
  by_cases hx:x<Bo
  ·have:S x=none:=by simp[S,hx]
   rw[A8 hx,A8 hx,G2,this];simp only[Si (a:=r)]
  ·have h2:x≠r:=by rintro rfl;exact hx hlr
   rw[D0 hx,D0 hx,G2]
   by_cases hd:b=x / Bo-1
   ·have:S x=(M1 L (x % Bo)).map λm=>(sz,e,m):=by simp only[S,hx,Hy,if_pos hd]
    rw[if_pos hd,this,if_neg h2,<- hd,hb];simp only[Ai]
    cases M1 L (x % Bo)<;>rfl
   ·grind
 have hS:∀ x y,S x=some y->st.sto.own x=none:=λx y hx=>by
  by_cases h1:x<Bo
  ·simp[S,h1]at hx
  ·by_cases hd:b=x / Bo-1
   ·show Dh _ _ x=none
    rw[D0 h1,<- hd,hb];rfl
   ·grind
 refine⟨I,_,fH h hr' hS (λx s m hx=>?_) hown rfl (λj _=>rfl) (λj c v hj hc hv=>?_)⟩
 ·by_cases h1:x<Bo
  ·simp[S,h1]at hx
  ·by_cases hd:b=x / Bo-1
   ·simp only[S,h1,Hy,if_pos hd]at hx;obtain⟨m',hm',he⟩:=zzL92.1 hx;unfold M1 at hm'
    split at hm'
    ·grind
    ·cases hm'
   ·grind
 ·obtain rfl:c=0:=by omega
  have hjb:j<Bo:=fQ h.chg.rel hr' hj
  have hSj:S (Sa b j)=some (sz,e,(L.getD j []).length):=by
   simp only[S,Qt b j,Hy,Wp hjb,Lt,Uh hjb,M1];rw[if_pos (by omega)];rfl
  exact rW hv rfl hjb ((congrFun hown _).trans (by rw[hSj])) (by rw[hSj])
end
end
theorem UC{α:Type}{sz b i k:Nat}{e:α->List AV}{d:α}{l:List α}:AVle (AV.list sz e d l (Ht b i k i)) (AV.list sz e d l (.own k)):=by
 have:Ht b i k i = .own k:=by simp[Ht]
 rw[this];exact AVle.refl _
theorem cW{α:Type}{sz b i k k0:Nat}{e:α->List AV}{d:α}{L:List (List α)}{x:List α}{n:Nat}{keep:Nat->Bool}(hi:i<L.length)(hk:keep k=true)(hb:keep b=true) :
  ∀ j,j<n->AV.eraseAll keep (Ei (N7 sz e d L (Ht b i k0)) i 0 [AV.list sz e d x (.own k)] j)=N7 sz e d (L.set i x) (Ht b i k) j:=λj _=>by
 unfold Ei
 cases hji:Nat.beq j i with
 | true=>
  have:=Cq hji;subst this;simp[N7,AV.eraseAll,AV.erase,AV.list,Ht,hk, hi]
 | false=>
  have hne:i≠j:=by rintro rfl;simp at hji
  simp[N7,AV.eraseAll,AV.erase,AV.list,Ht,hji,hb, hne]
theorem bY{α:Type}{sz n:Nat}{e:α->List AV}{d:α}{keep:Nat->Bool}:∀ k,k<n->AVleL (AV.eraseAll keep [.slice 0 0 (λ_=>[]) .exact]) (N7 sz e d (List.replicate n []) (λ_=>.exact) k):=λk hk=>by
 have:(List.replicate n ([]:List α)).getD k []=[]:=by simp[ hk]
 unfold N7;rw[this];exact .cons C2 .nil
theorem eO{n sz:Nat}{f:Nat->List AV}(hf:∀ i,i<n->(f i).length=sz):∀ k,k<n->((Hg n f).drop (k*sz)).take sz=f k:=λk hk=>by
 have hl:=Ii hf;have h1:(k+1)*sz<=n*sz:=Dz _ hk;rw[Fg]at h1
 apply DX
 ·grind
 ·intro j h2 h3
  have hj:j<sz:=by grind
  have:=IG hf k j hk hj;rw[Sq,Sr _,Sq,Sr h3]at this
  simpa using this
mutual
def AV.freeN(r:Nat):AV->Bool
 | .vsl nm _=>!Nat.beq nm r
 | .vpt nm _ _ _=>!Nat.beq nm r
 | .vsub nm _ _ _=>!Nat.beq nm r
 | .clo _ xs ys=>AV.freeNAll r xs&&AV.freeNAll r ys
 | .agg cs=>AV.freeNAll r cs
 | .rpo cs=>AV.freeNAll r cs
 | .tuple cs=>AV.freeNAll r cs
 | .cond _ x=>x.freeN r
 | _=>true
def AV.freeNAll(r:Nat):List AV->Bool
 | []=>true
 | x::l=>x.freeN r&&AV.freeNAll r l
end
theorem Je{r:Nat}{l:List AV}(h:AV.freeNAll r l=true)(j:Nat):(l.getD j .any).freeN r=true:=by
 induction l generalizing j with
 | nil=>simp[AV.freeN]
 | cons x l ih=>
  simp only[AV.freeNAll,Bc]at h
  cases j with
  | zero=>simpa using h.1
  | succ j=>simpa using ih h.2 j
theorem kT{I:Nat->Nat->Prop}{own own':Nat->Option Own}{θ:Nat->Option (Nat×Nat)}{w:World}{v:Value}{x:AV}{r:Nat}(h:Rep I own θ w v x)(hx:x.freeN r=true)(hr:∃ sz e m f,own r=some (.arr sz e m f))
  (ho:∀ nm,nm≠r->own' nm=own nm):Rep I own' θ w v x:=by
 have hne:∀{nm o},own nm=some o->(∀ sz e m f,o≠.arr sz e m f)->own' nm=some o:=λ{nm o} hn hh=>by
  grind
 have hbq:∀{nm:Nat},(!Nat.beq nm r)=true->nm≠r:=λh e=>by subst e;simp at h
 induction h with
 | val v x h=>exact .val v x h
 | exact a n sz f h=>exact .exact a n sz f h
 | own nm sz e m a n cap f hn hm hv h=>exact .own nm sz e m a n cap f (hne hn (λ_ _ _ _ h=>by cases h)) hm hv h
 | fam b i sz e m a n cap f hi hn hm hv h=>exact .fam b i sz e m a n cap f hi (hne hn (λ_ _ _ _ h=>by cases h)) hm hv h
 | ptr nm off e cells g c hn hg=>exact .ptr nm off e _ g c (hne hn (λ_ _ _ _ h=>by cases h)) hg
 | vsl nm sz e m f a n cap hn hm hcap hmax hnn hv=>exact .vsl nm sz e m f a n cap ((ho nm (hbq hx)).trans hn) hm hcap hmax hnn hv
 | vpt nm sz e m f n i j ad hn hm hi hv=>exact .vpt nm sz e m f n i j ad ((ho nm (hbq hx)).trans hn) hm hi hv
 | clo f fs cs xs ys hl hl' _ _ ih ih'=>
  simp only[AV.freeN,Bc]at hx;exact .clo f fs cs xs ys hl hl' (λj hj=>ih j hj (Je hx.1 j)) (λj hj=>ih' j hj (Je hx.2 j))
 | optr nm mm x g c hn hg=>exact .optr nm mm x g c (hne hn (λ_ _ _ _ h=>by cases h)) hg
 | omap nm x hn=>exact .omap nm x (hne hn (λ_ _ _ _ h=>by cases h))
 | vsub nm sz e m f n lo hi a cap hn hm hlo hhi hcap hmax hnn hv=>exact .vsub nm sz e m f n lo hi a cap ((ho nm (hbq hx)).trans hn) hm hlo hhi hcap hmax hnn hv
 | cond v c x _ h' ih=>exact .cond v c x (λhc=>ih hc hx) h'
 | agg vs cs hl h1 _ ih=>exact .agg vs cs hl h1 (λj hj=>ih j hj (Je hx j))
 | rpo a cells us hs hI' hc h1 _ ih=>exact .rpo a _ us hs hI' hc h1 (λj hj=>ih j hj (Je hx j))
 | tuple vs cs hl _ ih=>exact .tuple vs cs hl (λj hj=>ih j hj (Je hx j))
inductive OwnsFrN (r:Nat):List (Nat×Own)->Prop
 | nil:OwnsFrN r []
 | row {nm:Nat} {e:TypeId} {cells:List AV} {l:List (Nat×Own)} (h:AV.freeNAll r cells=true) (t:OwnsFrN r l):OwnsFrN r ((nm,.row e cells)::l)
 | arr {nm sz m:Nat} {e:TypeId} {f:Nat->List AV} {l:List (Nat×Own)} (h:∀ j,AV.freeNAll r (f j)=true) (t:OwnsFrN r l):OwnsFrN r ((nm,.arr sz e m f)::l)
 | tok {nm sz m:Nat} {e:TypeId} {l:List (Nat×Own)} (t:OwnsFrN r l):OwnsFrN r ((nm,.tok sz e m)::l)
 | obj {nm:Nat} {x:AObj} {l:List (Nat×Own)} (t:OwnsFrN r l) (h:x.Al (λy=>y.freeN r=true):=by first|trivial|rfl):OwnsFrN r ((nm,.obj x)::l)
def vA(r:Nat):Own->Prop
 | .row _ cells=>AV.freeNAll r cells=true
 | .arr _ _ _ f=>∀ j,AV.freeNAll r (f j)=true
 | .obj x=>x.Al (λy=>y.freeN r=true)
 | .tok ..=>True
theorem OwnsFrN.get{r:Nat}{l:List (Nat×Own)}(h:OwnsFrN r l){nm:Nat}{o:Own}(ho:Ag l nm=some o):vA r o:=by
 induction h with
 | nil=>cases ho
 | @row k e cells l h _ ih=>
  simp only[Ag]at ho
  cases hb:Nat.beq k nm with
  | true=>rw[hb]at ho;simp only[Ac,Am]at ho;subst ho;exact h
  | false=>grind
 | @arr k sz m e f l h _ ih=>
  simp only[Ag]at ho
  cases hb:Nat.beq k nm with
  | true=>rw[hb]at ho;simp only[Ac,Am]at ho;subst ho;exact h
  | false=>grind
 | @tok k sz m e l _ ih=>
  simp only[Ag]at ho
  cases hb:Nat.beq k nm with
  | true=>rw[hb]at ho;simp only[Ac,Am]at ho;subst ho;trivial
  | false=>grind
 | @obj k x l _ h ih=>
  simp only[Ag]at ho
  cases hb:Nat.beq k nm with
  | true=>rw[hb]at ho;simp only[Ac,Am]at ho;subst ho;exact h
  | false=>grind
theorem bj{Γ:Ih}{st:St}{t r s n k:Nat}{e:TypeId}{f:Nat->List AV}(hs:st.get t = .vsub r n 0 k)(hr:Ag st.own r=some (.arr s e n f))(hk:k<=n)
  (ht:(st.tmps.all λx=>Nat.beq x.1 t || x.2.freeN r)=true) (ho:OwnsFrN r st.own) (h0:Γ.own0 r=none) (hlt:Nat.blt r Bo=true:=by rfl) (hB:mB e=false:=by rfl) :
  Le Γ st ⟨D6 st.tmps t (.vsl r k),D6 st.own r (.arr s e k f),st.fam⟩:=by
 intro I θ a w h
 have hlt:r<Bo:=by simpa [K1] using hlt
 have hr':st.sto.own r=some (.arr s e n f):=(A8 hlt).trans hr
 have hown:(⟨D6 st.tmps t (.vsl r k),D6 st.own r (.arr s e k f),st.fam⟩:St).sto.own=Az st.sto.own r (.arr s e k f):=by
  funext x
  show Dh (D6 st.own r _) _ x=_
  rw[Kf hlt];simp only[Az]
  by_cases hx:r=x
  ·subst hx;simp
  ·simp[hx,Ne.symm hx];rfl
 have hsame:∀ nm,nm≠r->Az st.sto.own r (.arr s e k f) nm=st.sto.own nm:=λnm hn=>by simp[Az,hn]
 have hT:∀ v x,x.freeN r=true->Rep I st.sto.own θ w v x->Rep I (Az st.sto.own r (.arr s e k f)) θ w v x:=λv x hx hv=>kT hv hx ⟨_,_,_,_,hr'⟩ hsame;have hrel:=h.chg.rel
 have hrows:∀ nm o,st.sto.own nm=some o->vA r o:=λnm o hn=>by
  by_cases hl:nm<Bo
  ·exact ho.get ((A8 hl).symm.trans hn)
  ·obtain⟨_,_,_,rfl⟩:=Ww hl hn;trivial
 have hget:∀ t',(⟨D6 st.tmps t (.vsl r k),D6 st.own r (.arr s e k f),st.fam⟩:St).sto.tmp t'=if t=t' then .vsl r k else st.get t':=λt'=>by
  show(match Ag (D6 st.tmps t _) t' with|some x=>x|none=>.any)=_
  rw[G2]
  by_cases hk:t=t'
  ·simp[hk]
  ·simp[hk];rfl
 refine⟨I,θ,h.size,h.defers,λt'=>?_,?_⟩
 ·rw[hown,hget]
  split
  ·rename_i htt
   subst htt;have hv:=h.slots t
   have hv':Rep I st.sto.own θ w (a.tmps.getD t undef) (.vsub r n 0 k):=by rw[<- hs];exact hv
   obtain⟨sz,e',m,f',ad,cap,he,ho',hm,_,hhi,hcap,hmax,hn,hvv⟩:=hv'.vsub_inv;rw[hr']at ho';simp only[Am,Own.arr.injEq]at ho';obtain⟨rfl,rfl,rfl,rfl⟩:=ho';rw[he];refine .vsl r s e k f ad _ cap (by simp[Az]) (zzL7 _) hcap hmax hn (λ_=>?_);have hz:=(hvv rfl).2 rfl
   cases hθ:θ r with
   | none=>rw[hθ]at hz;have:=(hrel.arr r _ _ _ _ hr').1 hθ;simp only at hz ⊢;omega
   | some gc=>rw[hθ]at hz;exact⟨hz.1,hz.2.resolve_right (by rw[hB];decide)⟩
  ·rename_i htt
   have hx:(st.get t').freeN r=true:=by
    unfold St.get
    cases hl:Ag st.tmps t' with
    | none=>rfl
    | some x=>
     have:=zzL32.1 ht _ (IJ hl);simp only[Wh]at this;rcases this with h'|h'
     ·exact(htt (Cq h').symm).elim
     ·exact h'
   exact hT _ _ hx (h.slots t')
 ·rw[hown];refine{ h.chg with le:=λnm o hno=>?_,rel:=⟨λnm e0 cells hn=>?_,λnm s' e' m' hn g c hg=>?_,λnm nm' g c c' hn hn' hg hg'=>?_,λnm s' e' m' f' hn=>?_,λnm x hn=>?_,λnm s' m' hn hnn=>?_⟩,new:=λnm g c hn hg=>?_ }
  ·obtain⟨o',ho',hl⟩:=h.chg.le nm o hno;exact⟨o',(hsame nm (by rintro rfl;rw[h0]at hno;cases hno)).trans ho',hl⟩
  ·have hne:nm≠r:=by rintro rfl;simp[Az]at hn
   rw[hsame nm hne]at hn;obtain⟨g,c,vs,r1,r2,r3,r4,r5,r6⟩:=hrel.row nm e0 cells hn;exact⟨g,c,vs,r1,r2,r3,r4,λj hj=>hT _ _ (Je (hrows nm _ hn) j) (r5 j hj),r6⟩
  ·have hne:nm≠r:=by rintro rfl;simp[Az]at hn
   rw[hsame nm hne]at hn;exact hrel.tok nm _ _ _ hn g c hg
  ·have hx:∀ nm,Az st.sto.own r (.arr s e k f) nm≠none->st.sto.own nm≠none:=λnm hn=>by
    by_cases hne:nm=r
    ·subst hne;rw[hr'];simp
    ·rwa[hsame nm hne]at hn
   exact hrel.inj nm nm' g c c' (hx nm hn) (hx nm' hn') hg hg'
  ·by_cases hne:nm=r
   ·subst hne;simp only[Az,Lt,Am,Own.arr.injEq]at hn;obtain⟨rfl,rfl,rfl,rfl⟩:=hn;obtain⟨q0,q1⟩:=hrel.arr nm _ _ _ _ hr';refine⟨λhθ=>by have:=q0 hθ;omega,λg c hg=>?_⟩;obtain⟨cur,p1,p2,p3,p4,p5,p6,p7⟩:=q1 g c hg;exact⟨cur,p1,by omega,p3,p4,λi hi=>p5 i (by omega),λi j hi hj=>⟨(p6 i j (by omega) hj).1,hT _ _ (Je (hrows nm _ hr' i) j) (p6 i j (by omega) hj).2⟩,p7⟩
   ·rw[hsame nm hne]at hn;exact Zn (hrel.arr nm _ _ _ _ hn) rfl (λ_ _=>rfl) (λi j v _ _ hv=>hT _ _ (Je (hrows nm _ hn i) j) hv)
  ·have hne:nm≠r:=by rintro rfl;simp[Az]at hn
   rw[hsame nm hne]at hn;exact L1 (hrel.obj nm _ hn) rfl (λ_ _ _=>rfl) (λ_ _ _ _ h=>h) (λ_ hh=>hh.al (P:=λy=>y.freeN r=true) (hrows nm _ hn) (λ_ _ h=>h) (λ_ _ _=>rfl) λv y hy hv=>hT v y hy hv) Va
  ·have hne:nm≠r:=by rintro rfl;simp[Az]at hn
   rw[hsame nm hne]at hn;exact hrel.tok8 nm _ _ hn hnn
  ·have hx:st.sto.own nm≠none:=by
    by_cases hne:nm=r
    ·subst hne;rw[hr'];simp
    ·rwa[hsame nm hne]at hn
   exact h.chg.new nm g c hx hg
theorem iZ{α:Type}{e:α->List AV}{d:α}{l:List α}{k:Nat}:∀ i,i<0+k->AVleL (e (l.getD i d)) (e ((l.take k).getD i d)):=λi hi=>by
 have:(l.take k).getD i d=l.getD i d:=by grind
 rw[this];exact .refl _
theorem cx{α:Type}{l:List α}{k:Nat}(h:0+k<=l.length):0+k=(l.take k).length:=by simp;omega
theorem uX{f g:Nat->List AV}:∀ k,k<0->f k=g k:=λ_ h=>by omega
theorem rR{n:Nat}{f g:Nat->List AV}(h:∀ k,k<n->f k=g k)(h':f n=g n):∀ k,k<n+1->f k=g k:=λk hk=>by
 grind
theorem UB{α:Type}{keep:Nat->Bool}{e:α->List AV}{d:α}{z:List AV}{N sz:Nat}(hz:z.length=sz)(h:z=e d)(hk:AV.eraseAll keep z=z):∀ k,k<N->AVleL (AV.eraseAll keep ((((List.replicate N z).flatten).drop (k*sz)).take sz)) (e ((List.replicate N d).getD k d)):=λk hk'=>by
 have:(List.replicate N d).getD k d=d:=by simp[ hk']
 rw[ba z sz hz N k hk',this,hk,h];exact .refl _
theorem jr{f:Nat->List AV}{i:Nat}{x:AV}:AVle ((Ei f i 0 [x] i).getD 0 .any) x:=by
 rw[S9]
 simpa using AVle.refl x
theorem Mi{keep:Nat->Bool}{f:Nat->List AV}{i k R m:Nat}(hf:∀ j,AV.eraseAll keep (f j)=f j)(hk:keep R=true):∀ j,j<k->AVleL (AV.eraseAll keep (Ei f i 0 [.vsl R m] j)) (Ei f i 0 [.vsl R m] j):=λj _=>by
 have h:AV.eraseAll keep (Ei f i 0 [.vsl R m] j)=Ei f i 0 [.vsl R m] j:=by
  by_cases hj:j=i
  ·subst hj;rw[S9,L7,L7, DD,hf];simp[AV.eraseAll,AV.erase,hk]
  ·rw[V8 f _ hj,hf]
 rw[h];exact .refl _
theorem nE{α:Type}{enc:α->List AV}{d x:α}{l:List α}{i nm sz n:Nat}{g:Nat->List AV}(hf:∀ a,AV.frwAll nm sz n g (enc a)=enc a)(h1:∀ a,(enc a).length=1)(hx:enc x=[.slice sz n g .none]) :
  ∀ j,j<l.length->AVleL (AV.frwAll nm sz n g (Ei (λk=>enc (l.getD k d)) i 0 [.vsl nm n] j)) (enc ((l.set i x).getD j d)):=λj hl=>by
 have h:AV.frwAll nm sz n g (Ei (λk=>enc (l.getD k d)) i 0 [.vsl nm n] j)=enc ((l.set i x).getD j d):=by
  by_cases hj:j=i
  ·subst hj
   have e1:(l.set j x).getD j d=x:=by simp[ hl]
   have e2:(enc (l.getD j d)).drop (0+[AV.vsl nm n].length)=[]:=List.drop_eq_nil_of_le (by grind)
   have e3:Yv nm nm=false:=by simp[Yv]
   rw[S9,e1,e2,hx];simp[AV.frwAll,AV.frw,e3]
  ·have e1:(l.set i x).getD j d=l.getD j d:=by grind
   rw[V8 _ _ hj,e1,hf]
 rw[h];exact .refl _
section
variable {α:Type} {g:Bool} {a b:List α}
theorem gn:(bif g then a.length else b.length)=(bif g then a else b).length:=by cases g<;>rfl
theorem qL{e:α->List AV}{d:α}{k:Nat}:(bif g then e (a.getD k d) else e (b.getD k d))=e ((bif g then a else b).getD k d):=by cases g<;>rfl
theorem qM(h:g=true->b.length=a.length):b.length=(bif g then a else b).length:=by
 grind
end
abbrev mapE{V:Type}(f:V->AV)(l:List (Int×V)):List (Int×AV):=l.map λp=>(p.1,f p.2)
section
variable {V:Type} {f:V->AV} {l:List (Int×V)} {r:List (Int×AV)} {k:Int}
theorem UZ(k:Int):∀ l:List (Int×V),C7 (mapE f l) k=C7 l k
 | []=>rfl
 | (a,b)::l=>by
  simp only[ Cu,C7];rw[<- UZ k l]
theorem VB(k:Int)(v:V):∀ l:List (Int×V),Hn (mapE f l) k (f v)=mapE f (Hn l k v)
 | []=>rfl
 | (a,b)::l=>by
  simp only[ Cu,Hn]
  cases k==a with
  | true=>rfl
  | false=>
   simp only[Ao];exact Ce _ (VB k v l)
theorem MW{z:V}{zz:AV}(hz:AVle zz (f z))(hr:r=mapE f l):AVle (mget zz r k) (f (mget z l k)):=by
 subst hr
 induction l with
 | nil=>exact hz
 | cons p l ih=>
  obtain⟨a,b⟩:=p;simp only[ Cu,mget]
  cases k==a with
  | true=>exact AVle.refl _
  | false=>exact ih
theorem GM{z:V}{zz:AV}(hz:AVle zz (f z))(hr:r=mapE f l):AVle (.tuple [mget zz r k,.bool (C7 r k)]) (.tuple [f (mget z l k),.bool (C7 l k)]):=by
 have h:=MW (k:=k) hz hr;subst hr;rw[UZ];exact AVle.tuple (.cons h (.cons (AVle.refl _) .nil))
theorem rE(hr:r=mapE f l):AVle (.int .i64 (r.length:Int)) (.int .i64 (l.length:Int)):=by
 subst hr;rw[ T7];exact AVle.refl _
theorem GN{v:V}{x:AV}(hx:x=f v)(hr:r=mapE f l):Hn r k x=mapE f (Hn l k v):=by
 subst hr hx;exact VB k v l
theorem mO{g:Bool}{a b:List (Int×V)}{ra rb:List (Int×AV)}(ha:ra=mapE f a)(hb:rb=mapE f b):(bif g then ra else rb)=mapE f (bif g then a else b):=by
 grind
end
theorem YC{Γ:Ih}{st:St}{nm:Nat}{x:AObj}(y:AObj)(hn:Ag st.own nm=some (.obj x))(hxy:∀ I own θ w,X6 I own θ w nm x->X6 I own θ w nm y)(hlt:Nat.blt nm Bo=true:=by rfl) :
  Le Γ st ⟨st.tmps,D6 st.own nm (.obj y),st.fam⟩:=by
 intro I θ a w h
 have hlt:nm<Bo:=by simp_all
 have hn:st.sto.own nm=some _:=(A8 hlt).trans hn
 have hown:(⟨st.tmps,D6 st.own nm (.obj y),st.fam⟩:St).sto.own=Az st.sto.own nm (.obj y):=by
  funext k
  show Dh _ _ k=_
  rw[Kf hlt];simp only[Az]
  by_cases hk:nm=k
  ·subst hk;simp
  ·simp[hk,Ne.symm hk];rfl
 have hle:∀ k o,st.sto.own k=some o->∃ o',Az st.sto.own nm (.obj y) k=some o'/\OwnLe o (θ k) o' (θ k):=λk o ho=>by
  by_cases hk:k=nm
  ·subst hk;rw[hn]at ho;obtain rfl:=OI ho;exact⟨.obj y,by simp[Az],rfl⟩
  ·exact⟨o,by simp[Az,hk,ho],OwnLe.refl _ _⟩
 have hrel:=h.chg.rel;have hmono:∀ v z,Rep I _ θ w v z->Rep I _ θ w v z:=λv z hz=>hz.mono (λ_ _ h=>h) (λ_ _ _=>rfl) hle
 have k:Chg st.sto.own θ I w (Az st.sto.own nm (.obj y)) θ I w:=by
  refine{ imm:=λ_ _ h=>h,cell:=λ_ _ _=>rfl,le:=hle,rel:=?_,valid:=h.chg.valid,os:=rfl,tape:=rfl,output:=rfl,drawn:=λ_=>zzL7 _,grow:=zzL7 _,frame:=λ_ _ _=>rfl,new:=λk g c ho hg=>?_,immNew:=λb o h=>.inl h }
  ·refine L4 hrel (·=nm) hmono (λk hne=>⟨by simp[Az,hne],rfl⟩) (λk g c hne ho hg=>⟨rfl,λj h=>h⟩) ?_ ?_ ?_ (λ_ _ h h'=>h.trans h'.symm) (hobj:=?_)
   ·rintro k e' cells rfl ho;simp[Az]at ho
   ·rintro k sz e' m rfl ho;simp[Az]at ho
   ·rintro k k' g c c' rfl hne _ ho' hg hg';exact hne (hrel.inj k' k _ _ _ ho' (by simp[hn]) hg' hg)
   ·rintro k z rfl ho;simp only[Az,Lt,Am,Own.obj.injEq]at ho;subst ho;exact L1 (hxy _ _ _ _ (hrel.obj k x hn)) rfl (λ_ _ _=>rfl) (λ_ _ _ _ h=>h) (λ_ hh=>hh.mono hmono) Va
  ·by_cases hk:k=nm
   ·grind
   ·exact .inr ⟨k,c,by simpa [Az,hk] using ho,hg⟩
 exact⟨I,θ,h.size,h.defers,λt'=>by rw[hown];exact(h.slots t').chg k,by rw[hown];exact h.chg.trans k⟩
theorem cC{I:Nat->Nat->Prop}{own:Nat->Option Own}{θ:Nat->Option (Nat×Nat)}{w:World}{nm:Nat}{nn:Bool}{k:IntKind}{l:List (Int×AV)}(h:X6 I own θ w nm (.map nn k l)):X6 I own θ w nm (.map false k l):=by
 rcases h with⟨g,c,o,h1,h2,h3,h4⟩|⟨h1,h2⟩
 ·refine .inl ⟨g,c,o,h1,h2,?_,h4⟩
  cases h3 with
  | map es nn k l hs hr=>exact .map es _ k l hs hr
 ·cases nn<;>cases l<;>first|exact .inr ⟨h1,trivial⟩|cases h2
def VK{V:Type}(a b:List (Int×V)):Prop:=a.Perm b/\(b.map (·.1)).Nodup
theorem ek{V:Type}{I:Nat->Nat->Prop}{own:Nat->Option Own}{θ:Nat->Option (Nat×Nat)}{w:World}{nm:Nat}{nn:Bool}{k:IntKind}{f:V->AV}{a b:List (Int×V)}(hp:VK a b)(h:X6 I own θ w nm (.map nn k (mapE f a))):X6 I own θ w nm (.pmap nn k (mapE f b)):=by
 have hp1:(mapE f a).Perm (mapE f b):=hp.1.map _
 have hp2:((mapE f b).map (·.1)).Nodup:=by
  have:(mapE f b).map (·.1)=b.map (·.1):=by simp[mapE]
  rw[this];exact hp.2
 rcases h with⟨g,c,o,h1,h2,h3,h4⟩|⟨h1,h2⟩
 ·refine .inl ⟨g,c,o,h1,h2,?_,h4⟩
  cases h3 with
  | map es nn k l hs hr=>exact .pmap es nn k _ _ hp1 hp2 hs hr
 ·generalize mapE f a=la at *
  generalize mapE f b=lb at *
  cases nn with
  | true=>cases h2
  | false=>
   cases la with
   | nil=>obtain rfl:=hp1.nil_eq;exact .inr ⟨h1,trivial⟩
   | cons=>cases h2
theorem kA{I:Nat->Nat->Prop}{own:Nat->Option Own}{θ:Nat->Option (Nat×Nat)}{w:World}{nm:Nat}{nn:Bool}{k:IntKind}{l:List (Int×AV)}(h:X6 I own θ w nm (.pmap nn k l)):X6 I own θ w nm (.pmap false k l):=by
 rcases h with⟨g,c,o,h1,h2,h3,h4⟩|⟨h1,h2⟩
 ·refine .inl ⟨g,c,o,h1,h2,?_,h4⟩
  cases h3 with
  | pmap es nn k l0 l hp hk hs hr=>exact .pmap es _ k l0 l hp hk hs hr
 ·cases nn<;>cases l<;>first|exact .inr ⟨h1,trivial⟩|cases h2
theorem qp{Γ:Ih}{st:St}{t nm:Nat}(k:IntKind)(hs:st.get t = .nilm)(hn:Ag st.own nm=none)(hlt:Nat.blt nm Bo=true:=by rfl) :
  Le Γ st ⟨D6 st.tmps t (.omap nm),D6 st.own nm (.obj (.map false k [])),st.fam⟩:=by
 intro I θ a w h
 have hlt:nm<Bo:=by simp_all
 have hn:st.sto.own nm=none:=(A8 hlt).trans hn
 have hown:(⟨D6 st.tmps t (.omap nm),D6 st.own nm (.obj (.map false k [])),st.fam⟩:St).sto.own=Az st.sto.own nm (.obj (.map false k [])):=by
  funext k
  show Dh _ _ k=_
  rw[Kf hlt];simp only[Az]
  by_cases hk:nm=k
  ·subst hk;simp
  ·simp[hk,Ne.symm hk];rfl
 have hle:∀ j o,st.sto.own j=some o->∃ o',Az st.sto.own nm (.obj (.map false k [])) j=some o'/\OwnLe o (θ j) o' (thUp θ nm none j):=λj o ho=>by
  have hne:j≠nm:=by grind
  exact⟨o,by simp[Az,hne,ho],by simp[thUp,hne,OwnLe.refl]⟩
 have hrel:=h.chg.rel;have hmono:∀ v z,Rep I st.sto.own θ w v z->Rep I _ _ w v z:=λv z hz=>hz.mono (λ_ _ h=>h) (λ_ _ _=>rfl) hle
 have kk:Chg st.sto.own θ I w (Az st.sto.own nm (.obj (.map false k []))) (thUp θ nm none) I w:=by
  refine{ imm:=λ_ _ h=>h,cell:=λ_ _ _=>rfl,le:=hle,rel:=?_,valid:=h.chg.valid,os:=rfl,tape:=rfl,output:=rfl,drawn:=λ_=>zzL7 _,grow:=zzL7 _,frame:=λ_ _ _=>rfl,new:=λj g c ho hg=>?_,immNew:=λb o h=>.inl h }
  ·refine L4 hrel (·=nm) hmono (λj hne=>⟨by simp[Az,hne],by simp[thUp,hne]⟩) (λj g c hne ho hg=>⟨rfl,λj h=>h⟩) ?_ ?_ ?_ (λ_ _ h h'=>h.trans h'.symm) (hobj:=?_)
   ·rintro j e' cells rfl ho;simp[Az]at ho
   ·rintro j sz e' m rfl ho;simp[Az]at ho
   ·rintro j k' g c c' rfl hne _ ho' hg hg';simp[thUp]at hg
   ·rintro j z rfl ho;simp only[Az,Lt,Am,Own.obj.injEq]at ho;subst ho;exact .inr ⟨by simp[thUp],trivial⟩
  ·by_cases hk:j=nm
   ·subst hk;simp[thUp]at hg
   ·exact .inr ⟨j,c,by simpa [Az,hk] using ho,by simpa [thUp,hk] using hg⟩
 refine⟨I,thUp θ nm none,h.size,h.defers,λt'=>?_,?_⟩
 ·rw[hown]
  have hget:(⟨D6 st.tmps t (.omap nm),D6 st.own nm (.obj (.map false k [])),st.fam⟩:St).sto.tmp t'=if t=t' then .omap nm else st.get t':=by
   show(match Ag (D6 st.tmps t _) t' with|some x=>x|none=>.any)=_
   rw[G2]
   by_cases hk:t=t'
   ·simp[hk]
   ·simp[hk];rfl
  rw[hget]
  split
  ·rename_i htt
   subst htt;have hr:=h.slots t
   have hr':Rep I st.sto.own θ w (a.tmps.getD t undef) .nilm:=by rw[<- hs];exact hr
   rw[hr'.nilm_inv];have:=Rep.omap (I:=I) (own:=Az st.sto.own nm (.obj (.map false k []))) (θ:=thUp θ nm none) (w:=w) nm (.map false k []) (by simp[Az])
   simpa [thUp] using this
  ·exact(h.slots t').chg kk
 ·rw[hown];exact h.chg.trans kk
theorem W6{Γ:Ih}{st:St}{r j nm:Nat}{e0:TypeId}{cells:List AV}(km:IntKind)(hr:Ag st.own r=some (.row e0 cells))(hs:cells.getD j .any = .nilm)(hj:j<cells.length)(hn:Ag st.own nm=none)(hlt:Nat.blt nm Bo=true:=by rfl)(hltr:Nat.blt r Bo=true:=by rfl) :
  Le Γ st ⟨st.tmps,D6 (D6 st.own r (.row e0 (cells.set j (.omap nm)))) nm (.obj (.map false km [])),st.fam⟩:=by
 intro I θ a w h
 have hlt:nm<Bo:=by simpa [K1] using hlt
 have hltr:r<Bo:=by simpa [K1] using hltr
 have hn:st.sto.own nm=none:=(A8 hlt).trans hn;have hr:st.sto.own r=some (.row e0 cells):=(A8 hltr).trans hr
 have hne:r≠nm:=by rintro rfl;rw[hr]at hn;cases hn
 let own':Nat->Option Own:=λk=>if k=nm then some (.obj (.map false km [])) else if k=r then some (.row e0 (cells.set j (.omap nm))) else st.sto.own k
 have hown:(⟨st.tmps,D6 (D6 st.own r (.row e0 (cells.set j (.omap nm)))) nm (.obj (.map false km [])),st.fam⟩:St).sto.own=own':=by
  funext k
  show Dh (D6 (D6 st.own r _) nm _) _ k=_
  rw[Kf hlt,Kf hltr];simp only[own',Si (a:=nm),Si (a:=r)]
  rfl
 have hle:∀ nm' o,st.sto.own nm'=some o->∃ o',own' nm'=some o'/\OwnLe o (θ nm') o' (thUp θ nm none nm'):=λnm' o ho=>by
  have h1:nm'≠nm:=by rintro rfl;have:st.sto.own nm'=some o:=ho;rw[hn]at this;cases this
  by_cases h2:nm'=r
  ·subst h2;have:st.sto.own nm'=some o:=ho;rw[hr]at this;obtain rfl:=OI this;exact⟨.row e0 (cells.set j (.omap nm)),by simp[own',h1],by simp[thUp,h1,OwnLe]⟩
  ·exact⟨o,by simp[own',h1,h2,ho],by simp[thUp,h1,OwnLe.refl]⟩
 have hmono:∀ v x,Rep I st.sto.own θ w v x->Rep I own' (thUp θ nm none) w v x:=λv x h=>h.mono (λ_ _ h=>h) (λ_ _ _=>rfl) hle;have hrel:=h.chg.rel
 have k:Chg st.sto.own θ I w own' (thUp θ nm none) I w:=by
  refine{ imm:=λ_ _ h=>h,cell:=λ_ _ _=>rfl,le:=hle,rel:=?_,valid:=h.chg.valid,os:=rfl,tape:=rfl,output:=rfl,drawn:=λ_=>zzL7 _,grow:=zzL7 _,frame:=λ_ _ _=>rfl,new:=λnm' g' c ho hg=>?_,immNew:=λ_ _ h=>.inl h }
  ·refine⟨λnm' e2 cells' ho=>?_,λnm' s' e' m ho g' c hg=>?_,λn1 n2 g' c c' ho ho' hg hg'=>?_,λnm' s' e' m f' ho=>?_,λnm' x' ho=>?_,λnm' s' m ho hnn=>?_⟩
   ·by_cases h1:nm'=nm
    ·simp[own',h1]at ho
    ·by_cases h2:nm'=r
     ·subst h2;simp only[own',h1,Hy,Lt,Am,Own.row.injEq]at ho;obtain⟨rfl,rfl⟩:=ho;obtain⟨g',c,vs,r1,r2,r3,r4,r5,r6⟩:=hrel.row nm' _ cells hr;refine⟨g',c,vs,by simpa [thUp,h1] using r1,r2,by simpa using r3,λj' hj'=>r4 j' (by simpa using hj'),λj' hj'=>?_,r6⟩
      have hj'':j'<cells.length:=by simpa using hj'
      by_cases hjj:j'=j
      ·subst hjj
       have e1:(cells.set j' (.omap nm)).getD j' .any = .omap nm:=by simp[List.getD,hj]
       rw[e1];have hr':=r5 j' hj'';rw[hs]at hr';rw[hr'.nilm_inv];have:=Rep.omap (I:=I) (own:=own') (θ:=thUp θ nm none) (w:=w) nm (.map false km []) (by simp[own'])
       simpa [thUp] using this
      ·have e1:(cells.set j (.omap nm)).getD j' .any=cells.getD j' .any:=by simp[List.getD,Ne.symm hjj]
       rw[e1];exact hmono _ _ (r5 j' hj'')
     ·simp only[own',h1,h2,Hy]at ho;obtain⟨g',c,vs,r1,r2,r3,r4,r5,r6⟩:=hrel.row nm' _ cells' ho;exact⟨g',c,vs,by simpa [thUp,h1] using r1,r2,r3,r4,λj' hj'=>hmono _ _ (r5 j' hj'),r6⟩
   ·by_cases h1:nm'=nm
    ·simp[thUp,h1]at hg
    ·have h2:nm'≠r:=by rintro rfl;simp[own',h1]at ho
     simp only[own',h1,h2,Hy]at ho;simp only[thUp,h1,Hy]at hg;exact hrel.tok nm' _ _ _ ho g' c hg
   ·have hx:∀ n1 g' c,own' n1≠none->thUp θ nm none n1=some (g',c)->st.sto.own n1≠none/\θ n1=some (g',c):=λn1 g' c ho hg=>by
     by_cases h1:n1=nm
     ·simp[thUp,h1]at hg
     ·simp only[thUp,h1,Hy]at hg;refine⟨?_,hg⟩
      by_cases h2:n1=r
      ·subst h2;have:st.sto.own n1=some (.row e0 cells):=hr;simp[this]
      ·simpa [own',h1,h2] using ho
    obtain⟨a1,a2⟩:=hx n1 g' c ho hg;obtain⟨b1,b2⟩:=hx n2 g' c' ho' hg';exact hrel.inj n1 n2 g' c c' a1 b1 a2 b2
   ·by_cases h1:nm'=nm
    ·simp[own',h1]at ho
    ·have h2:nm'≠r:=by rintro rfl;simp[own',h1]at ho
     simp only[own',h1,h2,Hy]at ho;exact Pm (hrel.arr nm' _ _ _ _ ho) (by simp[thUp,h1]) (λ_ _ _=>rfl) (λ_ _ _ _ h=>h) (λ_ _=>rfl) (λv i j _ _ hv=>hmono _ _ hv)
   ·by_cases h1:nm'=nm
    ·simp only[own',h1,Lt,Am,Own.obj.injEq]at ho;subst ho;subst h1;exact .inr ⟨by simp[thUp],trivial⟩
    ·have h2:nm'≠r:=by rintro rfl;simp[own',h1]at ho
     simp only[own',h1,h2,Hy]at ho;exact L1 (hrel.obj nm' _ ho) (by simp[thUp,h1]) (λ_ _ _=>rfl) (λ_ _ _ _ h=>h) (λ_ hh=>hh.mono hmono) Va
   ·by_cases h1:nm'=nm
    ·simp[own',h1]at ho
    ·have h2:nm'≠r:=by rintro rfl;simp[own',h1]at ho
     simp only[own',h1,h2,Hy]at ho;simp only[thUp,h1,Hy]at hnn;exact hrel.tok8 nm' _ _ ho hnn
  ·by_cases h1:nm'=nm
   ·simp[thUp,h1]at hg
   ·simp only[thUp,h1,Hy]at hg;refine .inr ⟨nm',c,?_,hg⟩
    by_cases h2:nm'=r
    ·subst h2;have:st.sto.own nm'=some (.row e0 cells):=hr;simp[this]
    ·simpa [own',h1,h2] using ho
 refine⟨I,thUp θ nm none,h.size,h.defers,λt'=>?_,?_⟩
 ·rw[hown];exact(h.slots t').chg k
 ·rw[hown];exact h.chg.trans k
section
variable {P:Program} {Γ:Ih} {σ:Sto} {I:Nat->Nat->Prop} {θ:Nat->Option (Nat×Nat)} {a:Act} {w:World} {o:Oper}
theorem cl{g bm since:Nat}{seen:Array Nat}{es:Array MapEntry}(hg:w.heap[g]?=some (.mapIter (some bm) since seen since))(hb:w.heap[bm]?=some (.map es since))(hold:∀ x∈es.toList,x.born<since)(ty:TypeId) :
  ((∀ e∈es.toList,e.born∈seen.toList)/\(Instr.next (.pointer (some ⟨g,0,none⟩)) false ty).run P w = .ok (.tuple #[.bool false]) w) \/
  ∃ e∈es.toList,e.born∉seen.toList/\((Instr.next (.pointer (some ⟨g,0,none⟩)) false ty).run P w = .ok (.tuple #[.bool true,e.key,e.val]) (Uc w g (.mapIter (some bm) since (seen.push e.born) since)) \/
   (Instr.next (.pointer (some ⟨g,0,none⟩)) false ty).run P w = .ok (.tuple #[.bool true,e.key,e.val]) (Uc w.drew g (.mapIter (some bm) since (seen.push e.born) since))):=by
 simp only[Instr.next,getObj,Ek,Sem.run,hg,hb,Result.andThen,next_test_false seen es since since hold (zzL7 _),HM,Hy]
 have hmem:∀ x∈(Array.filter (λe=>!seen.contains e.born) es).toList,x∈es.toList/\x.born∉seen.toList:=λx hx=>by
  simp only[Array.toList_filter,zzL64,R6,Array.contains_eq_mem,LN]at hx;exact⟨hx.1,by simpa using hx.2⟩
 have hall:(Array.filter (λe=>!seen.contains e.born) es).size=0->∀ e∈es.toList,e.born∈seen.toList:=λh0 e he=>by
  by_cases hc:e.born∈seen.toList
  ·exact hc
  ·have:e∈(Array.filter (λe=>!seen.contains e.born) es).toList:=by
    simp only[Array.toList_filter,zzL64,R6,Array.contains_eq_mem,LN];exact⟨he,by simpa using hc⟩
   have h1:0<(Array.filter (λe=>!seen.contains e.born) es).toList.length:=List.length_pos_of_mem this;rw[JR]at h1;omega
 generalize Array.filter (λe=>!seen.contains e.born) es=L at hmem hall ⊢
 have e1:L.filter (λx=>decide (x.born<since))=L:=Array.filter_eq_self.2 (λx hx=>by simpa using hold x (hmem x (by simpa using hx)).1)
 have e2:L.filter (λx=>decide (x.born>=since)) = #[]:=by
  rw[Array.filter_eq_empty_iff];intro x hx;have:=hold x (hmem x (by simpa using hx)).1
  simp
  omega
 simp only[e1,e2,Array.append_empty]
 by_cases h0:L.size=0
 ·left
  have:L = #[]:=Array.eq_empty_of_size_eq_zero h0;subst this;refine⟨hall rfl,?_⟩;simp[choose,Sem.run,Question.forced]
 ·right
  have hne:L.isEmpty=false:=by simp[Array.isEmpty,h0]
  simp only[hne,HM,Hy,Array.empty_append,Array.size_map];have hgl:g<w.heap.size:=(Array.getElem?_eq_some_iff.1 hg).1
  have hch:∃(j:Nat) (w1:World),j<L.size/\(w1=w\/w1=w.drew)/\(choose (Question.mapNext L.size)).run P w = .ok j w1:=by
   by_cases hf:L.size<=1
   ·exact⟨0,w,by omega,.inl rfl,by simp[choose,Sem.run,Question.forced,hf]⟩
   ·exact⟨_,w.drew,Nat.mod_lt _ (by omega),.inr rfl,by
     simp only[choose,Sem.run,Question.forced,Ff,hf,Hy,Question.cut]
     rfl⟩
  obtain⟨j,w1,hj,hw,hrun⟩:=hch
  have hLj:L[j]∈L.toList:=by simp
  refine⟨L[j],(hmem _ hLj).1,(hmem _ hLj).2,?_⟩
  have hset:∀ o',(setObj g o').run P w1 = .ok () (Uc w1 g o'):=λo'=>by
   have hh:w1.heap[g]?=some (.mapIter (some bm) since seen since):=by rcases hw with rfl|rfl<;>exact hg
   simp[setObj,Sem.run,hh,Uc]
  simp only[hrun,Array.getElem?_map,Array.getElem?_eq_getElem hj,FA,Ek,hset,Result.andThen];rcases hw with rfl|rfl
  ·exact .inl rfl
  ·exact .inr rfl
theorem nZ(h:Rel Γ σ I θ a w)(hd:∀ d,o.dst=some d->d<Γ.n){x:Operand}(ho:o.op = .next x false){nm mm n:Nat}{s:List Nat}{nn:Bool}{k:IntKind}{l:List (Int×AV)}(hx:Rep I σ.own θ w (a.eval x) (.optr nm mm))
  (hit:σ.own nm=some (.obj (.miter (.omap mm) n s))) (hown:σ.own mm=some (.obj (.map nn k l))) (hn:n=l.length) (K:Act->World->Prop) (Q:Exit->Act->World->Prop)
  (hdone:(∀ i,i<n->i∈s)->∀ I' θ' a' w',Rel Γ (σ.upd o.dst (.tuple [.bool false]) []) I' θ' a' w'->K a' w')
  (hmore:∀ i,i<n->i∉s->∀ I' θ' a' w',Rel Γ (σ.upd o.dst (.tuple [.bool true,.int k (l.getD i (0,.any)).1,(l.getD i (0,.any)).2]) [(nm,.obj (.miter (.omap mm) n (i::s)))]) I' θ' a' w'->K a' w'):o.wp P a w K Q:=by
 obtain⟨_,g,c,ho',hg,hv⟩:=hx.optr_inv
 obtain⟨ob,h2,h3⟩:∃ ob,w.heap[g]?=some ob/\ObjR I σ.own θ w ob (.miter (.omap mm) n s):=by
  rcases h.chg.rel.obj nm _ hit with⟨g',c',ob,h1,h2,h3,h4⟩|⟨h1,_⟩
  ·rw[hg]at h1;simp only[Am,Mg]at h1;obtain⟨rfl,rfl⟩:=h1;exact⟨ob,h2,h3⟩
  ·rw[hg]at h1;cases h1
 obtain⟨r,cc,seen,rfl,hseen,rfl,hr⟩:=VA h3;obtain⟨_,_,hxm⟩:=hr.omap_inv;simp only[Value.map.injEq]at hxm
 have hfalse:∀(hrun:(execOp a.eval o).run P w = .ok (.value (.tuple #[.bool false])) w),(∀ i,i<cc->i∈s)->o.wp P a w K Q:=λhrun hall=>
  Au (x:=.tuple [.bool false]) h hd hrun (.tuple _ _ rfl (λj hj=>by
   obtain rfl:j=0:=by simp at hj;omega
   exact .val _ _ (.bool _))) K Q (hdone hall)
 rcases map_at h hown with⟨gm,c',es',h4,h5,h6⟩|⟨h4,_,h7⟩
 ·rw[h4]at hxm;obtain rfl:r=some gm:=hxm;obtain⟨hlen,hent⟩:=CD l es'.toList 0 h6
  have hmem:∀ e∈es'.toList,∃ i,i<l.length/\es'.toList[i]?=some e/\e.born=i/\e.key = .int k (l.getD i (0,.any)).1/\XC I w e.val (l.getD i (0,.any)).2:=λe he=>by
   obtain⟨i,hi,rfl⟩:=List.mem_iff_getElem.1 he;obtain⟨v,e1,e2⟩:=hent i (by omega);rw[Sr hi]at e1;have e3:=OI e1;exact⟨i,by omega,Sr hi,by rw[e3];simp,by rw[e3],by rw[e3];exact e2⟩
  rw[<- hn]at h5;have hnx:=cl (P:=P) h2 h5 (λe he=>by obtain⟨i,hi,_,hb,_⟩:=hmem e he;omega) (ty:=0);have hty:∀ ty,Instr.next (.pointer (some ⟨g,0,none⟩)) false ty=Instr.next (.pointer (some ⟨g,0,none⟩)) false 0:=λ_=>rfl;rcases hnx with⟨hall,hrun⟩|⟨e,he,hns,hrun⟩
  ·refine hfalse ?_ (λi hi=>?_)
   ·simp only[execOp,ho,hv,hty];simp[hrun]
   ·obtain⟨v,e1,e2⟩:=hent i (by omega);have:=hall _ (List.mem_of_getElem? e1);rw[<- hseen,zzL102]
    simpa using this
  ·obtain⟨i,hi,_,hb,hkey,hval⟩:=hmem e he
   have his:i∉s:=by rw[<- hseen,zzL102,<- hb];exact hns
   have hrev:(seen.push e.born).toList.reverse=i::s:=by rw[Array.toList_push,List.reverse_append,hseen,hb];rfl
   have step:∀ w1:World,Rel Γ σ I θ a w1->w1.heap=w.heap->(execOp a.eval o).run P w = .ok (.value (.tuple #[.bool true,e.key,e.val])) (Uc w1 g (.mapIter (some gm) cc (seen.push e.born) cc))->o.wp P a w K Q:=λw1 hr1 hh hrun=>by
    have hcell:∀ b j,I b j->w1.cell? ⟨b,j,none⟩=w.cell? ⟨b,j,none⟩:=λb j _=>by simp only[World.cell?,hh]
    have hr':Rep I σ.own θ w1 (.map (some gm)) (.omap mm):=hr.mono (λ_ _ h=>h) hcell (λ_ o ho=>⟨o,ho,.refl _ _⟩)
    have hc:ObjR I σ.own θ w1 (.mapIter (some gm) cc (seen.push e.born) cc) (.miter (.omap mm) cc (i::s)):=by
     have:=ObjR.miter (I:=I) (own:=σ.own) (θ:=θ) (w:=w1) (some gm) (.omap mm) cc cc (seen.push e.born) rfl hr';rwa[hrev]at this
    have kc:=Te hr1.chg.rel hr1.chg.valid hit hg hc;have hval':RepV I (Uc w1 g (.mapIter (some gm) cc (seen.push e.born) cc)) e.val (l.getD i (0,.any)).2:=hval.1.mono (λ_ _ h=>h) (λb j hj=>by rw[kc.cell b j hj,hcell b j hj])
    have k2:Chg σ.own θ I w1 (σ.upd o.dst (.tuple [.bool true,.int k (l.getD i (0,.any)).1,(l.getD i (0,.any)).2]) [(nm,.obj (.miter (.omap mm) cc (i::s)))]).own θ I (Uc w1 g (.mapIter (some gm) cc (seen.push e.born) cc)):=by rw[B8];exact kc
    have hput:=CJ (v:=.tuple #[.bool true,e.key,e.val]) (x:=.tuple [.bool true,.int k (l.getD i (0,.any)).1,(l.getD i (0,.any)).2]) hr1 k2 (.tuple _ _ rfl (λj hj=>by
     have hj:j=0\/j=1\/j=2:=by simp at hj;omega
     rcases hj with rfl|rfl|rfl
     ·exact .val _ _ (.bool _)
     ·rw[show(#[Value.bool true,e.key,e.val].getD 1 Go.undef)=e.key from rfl,hkey];exact .val _ _ (.int _ _)
     ·exact .val _ _ hval')) hd
    unfold Oper.wp;rw[hrun];exact hmore i (by omega) his _ _ _ _ hput
   rcases hrun with hrun|hrun
   ·refine step w h rfl ?_;simp only[execOp,ho,hv,hty];simp[hrun]
   ·refine step w.drew (cZ h) rfl ?_;simp only[execOp,ho,hv,hty];simp[hrun]
 ·rw[h4]at hxm;obtain rfl:r=none:=hxm;subst h7;refine hfalse ?_ (λi hi=>by simp at hn;omega);simp only[execOp,ho,hv];simp[Instr.next,getObj,Sem.run,h2]
theorem jW{id:Nat}{o1 o2:Oper}{K:Exit->St->Prop}{st:St}{n:Nat}{H:List (Nat×Own)}{x t b nm mm len:Nat}{s:List Nat}{nn:Bool}{k:IntKind}{l:List (Int×AV)}(q:RgQ P Γ n H)(live names:List Nat)
  (h1:o1.op = .next (.tmp x) false) (d1:o1.dst=some t) (g1:o1.guard=none) (h2:o2.op = .extract (.tmp t) 0) (d2:o2.dst=some b) (g2:o2.guard=none) (hb:(Nat.blt t n&&(Nat.blt b n&&(Nat.blt nm Bo&&Nat.blt mm Bo)))=true)
  (hx:st.get x = .optr nm mm) (hit:Ag st.own nm=some (.obj (.miter (.omap mm) len s))) (hm:Ag st.own mm=some (.obj (.map nn k l))) (hlen:len=l.length) (hh:(H.all λx=>Bl x.1 names)=true)
  (hdone:(∀ i,i<len->i∈s)->K .normal (Bb live names ((st.upd (some t) (.tuple [.bool false]) []).upd (some b) (.bool false) [])))
  (hmore:∀ i,i<len->i∉s->K .normal (Bb live names ((st.upd (some t) (.tuple [.bool true,.int k (l.getD i (0,.any)).1,(l.getD i (0,.any)).2]) [(nm,.obj (.miter (.omap mm) len (i::s)))]).upd (some b) (.bool true) []))):Ys P Γ (.region id #[o1,o2] false) K st:=by
 simp only[Bc,K1]at hb;obtain⟨b1,b2,b3,b4⟩:=hb;intro I θ a w hrel;refine wp_region ?_;have hget:∀ t,Rep I st.sto.own θ w (a.tmps.getD t undef) (st.get t):=hrel.slots
 have w1:∀ tm,Region.wanted o1 tm=true:=λtm=>by simp[Region.wanted,g1]
 have w2:∀ tm,Region.wanted o2 tm=true:=λtm=>by simp[Region.wanted,g2]
 have hl:(List.range (#[o1,o2]:Array Oper).size)=[0,1]:=rfl;have hsec:∀(st2:St) (vb:Bool) (r:List AV) (I':Nat->Nat->Prop) (θ':Nat->Option (Nat×Nat)) (a':Act) (w':World),st2.get t = .tuple (.bool vb::r)->Rel Γ st2.sto I' θ' a' w'->K .normal (Bb live names (st2.upd (some b) (.bool vb) []))->
   wpOps P #[o1,o2] (λe a' w'=>∃ st' I' θ',K e st'/\Rel Γ st'.sto I' θ' a' w') [1] a' w':=λst2 vb r I' θ' a' w' hgt hr hK=>by
  rw[wpOps_cons]
  show wpOp P #[o1,o2] _ 1 _ a' w'
  unfold wpOp;simp only[show(#[o1,o2]:Array Oper)[1]?=some o2 from rfl,w2,Lt];refine .inl ?_;have ht:=hr.slots t;rw[show st2.sto.tmp t=st2.get t from rfl,hgt]at ht;obtain⟨vs,hv,hsz,hvr⟩:=ht.tuple_inv;have h0:=hvr 0 (by simp);have h0':vs.getD 0 Go.undef = .bool vb:=Rep.bool_inv h0
  have hpos:0<vs.size:=by rw[hsz];simp
  refine Au hr (λd hd=>?_) (v:=.bool vb) (x:=.bool vb) ?_ (.val _ _ (.bool _)) _ _ (λI2 θ2 a2 w2 h2=>?_)
  ·rw[d2]at hd;obtain rfl:=OI hd;rw[q.hn];exact b2
  ·simp only[execOp,h2,Act.eval];rw[hv]
   have:vs[0]?=some (.bool vb):=by
    rw[R5,Array.getElem?_eq_getElem hpos,EZ]at h0';rw[Array.getElem?_eq_getElem hpos,h0']
   simp[Instr.extract,this]
  ·refine⟨_,I2,θ2,hK,Xw ?_ (q.hand hh)⟩;rw[NC (ns:=[]) st2 (some b) (.bool vb) [] rfl];rw[d2]at h2;exact h2
 rw[hl,wpOps_cons];unfold wpOp;simp only[show(#[o1,o2]:Array Oper)[0]?=some o1 from rfl,w1,Lt];refine .inl ?_;have hxr:=hget x;rw[hx]at hxr;refine nZ hrel (λd hd=>?_) h1 (nm:=nm) (mm:=mm) (n:=len) (s:=s) (nn:=nn) (k:=k) (l:=l) hxr ((A8 b3).trans hit) ((A8 b4).trans hm) hlen _ _ (λhall I' θ' a' w' hr=>?_) (λi hi hni I' θ' a' w' hr=>?_)
 ·rw[d1]at hd;obtain rfl:=OI hd;rw[q.hn];exact b1
 ·rw[d1,<- NC (ns:=[]) st (some t) (.tuple [.bool false]) [] rfl]at hr;refine hsec _ false [] I' θ' a' w' ?_ hr (hdone hall);simp[St.get,St.upd,G2]
 ·rw[d1,<- NC (ns:=[nm]) st (some t) _ [(nm,.obj (.miter (.omap mm) len (i::s)))] (by simp[Xb,b3])]at hr;refine hsec _ true [.int k (l.getD i (0,.any)).1,(l.getD i (0,.any)).2] I' θ' a' w' ?_ hr (hmore i hi hni);simp[St.get,St.upd,G2]
end
def AQ{S X:Type}(f:Nat->S->Option (LR S X))(g:S->Option (LR S X)):List Nat->S->Option X
 | [],s=>match g s with|some (.done x)=>some x|_=>none
 | i::l,s=>match f i s with|some (.next s')=>AQ f g l s'|some (.done x)=>some x|none=>none
open Classical in
open Classical in
def EQ{S X:Type}(eqv:X->X->Prop)(n:Nat)(f:Nat->S->Option (LR S X))(g:S->Option (LR S X))(s:S):Option X:=
 if h:∃ x,∀ τ:List Nat,τ.Perm (List.range n)->∃ x',AQ f g τ s=some x'/\eqv x' x then some (Classical.choose h) else none
theorem LC{S X:Type}{eqv:X->X->Prop}{n:Nat}{f:Nat->S->Option (LR S X)}{g:S->Option (LR S X)}{s:S}{x:X}(h:EQ eqv n f g s=some x):∀ τ:List Nat,τ.Perm (List.range n)->∃ x',AQ f g τ s=some x'/\eqv x' x:=by
 unfold EQ at h
 split at h
 ·rename_i h0
  obtain rfl:=OI h;exact Classical.choose_spec h0
 ·cases h
theorem kK{S X:Type}{eqv:X->X->Prop}{n:Nat}{f:Nat->S->Option (LR S X)}{g:S->Option (LR S X)}{s:S}(h:∃ x,∀ τ:List Nat,τ.Perm (List.range n)->∃ x',AQ f g τ s=some x'/\eqv x' x):∃ x,EQ eqv n f g s=some x:=by
 unfold EQ;rw[dif_pos h];exact⟨_,rfl⟩
theorem PS{α:Type}[DecidableEq α]{a b:List α}(ha:a.Nodup)(hb:b.Nodup)(h:∀ x,x∈a↔x∈b):a.Perm b:=by
 refine List.perm_iff_count.2 λx=>?_;rw[ha.count,hb.count];simp only[h x]
section
variable {P:Program} {Γ:Ih}
theorem bJ{S X:Type}{body:Code}(Q:X->Prop)(n:Nat)(H:List Nat->S->St)(f:Nat->S->Option (LR S X))(g:S->Option (LR S X))(KX:X->Exit->St->Prop){K:Exit->St->Prop}
  (hb:∀(z:List Nat) (s:S),((∀ i,i<n->i∈z)->∃ y,g s=some y)->(∀ i,i<n->i∉z->∃ y,f i s=some y)->
   Ys P Γ body (λe st=>(∃ y,g s=some y/\Rd Γ (H z) KX y e st/\∀ i,i<n->i∈z)\/∃ i y,f i s=some y/\Rd Γ (H (i::z)) KX y e st/\i<n/\i∉z) (H z s))
  {s:S} (hr:∀ τ:List Nat,τ.Perm (List.range n)->∃ x,AQ f g τ s=some x/\Q x) (hK:∀ x,Q x->∀ e st',KX x e st'->K e st'):Ys P Γ (.loop body) K (H [] s):=by
 intro I θ a w hrel;refine JL (λm a w=>∃ z s I θ,m=n-z.length/\z.Nodup/\(∀ i∈z,i<n)/\(∀ τ:List Nat,(z++τ).Perm (List.range n)->∃ x,AQ f g τ s=some x/\Q x)/\Rel Γ (H z s).sto I θ a w) (λm a w ⟨z,s,I,θ,hm,hz,hzn,hruns,hrel⟩=>?_) (n:=n-0) ⟨[],s,I,θ,rfl,List.nodup_nil,(λi hi=>by cases hi),(λτ hτ=>hr τ hτ),hrel⟩
 have hall:(∀ i,i<n->i∈z)->(z++[]).Perm (List.range n):=λh=>by
  rw[List.append_nil]
  exact PS hz List.nodup_range λi=>by rw[zzL44];exact⟨hzn i,h i⟩
 have hone:∀ i,i<n->i∉z->∃ τ,(z++i::τ).Perm (List.range n):=λi hi hni=>by
  refine⟨(List.range n).filter λj=>decide (j∉i::z),PS ?_ List.nodup_range λj=>?_⟩
  ·refine List.nodup_append.2 ⟨hz,zzL82.2 ⟨by simp,List.nodup_range.filter _⟩,λp hp q hq hpq=>?_⟩;subst hpq;rcases zzL26.1 hq with rfl|hq
   ·exact hni hp
   ·have:=(zzL64.1 hq).2;simp at this;exact this.2 hp
  ·rw[zzL14,zzL26,zzL64,zzL44]
   constructor
   ·rintro(h|rfl|h)
    ·exact hzn j h
    ·exact hi
    ·exact h.1
   ·intro h
    by_cases h1:j∈z
    ·exact .inl h1
    ·by_cases h2:j=i
     ·exact .inr (.inl h2)
     ·exact .inr (.inr ⟨h,by simp[h1,h2]⟩)
 have hg:(∀ i,i<n->i∈z)->∃ y,g s=some y:=λh=>by
  obtain⟨x,this,_⟩:=hruns [] (hall h);unfold AQ at this
  cases hgs:g s with
  | none=>rw[hgs]at this;cases this
  | some y=>exact⟨y,rfl⟩
 have hf:∀ i,i<n->i∉z->∃ y,f i s=some y:=λi hi hni=>by
  obtain⟨τ,hτ⟩:=hone i hi hni;obtain⟨x,this,_⟩:=hruns _ hτ;unfold AQ at this
  cases hfs:f i s with
  | none=>rw[hfs]at this;cases this
  | some y=>exact⟨y,rfl⟩
 refine Sj (hb z s hg hf I θ a w hrel) λe a' w' ⟨st',I',θ',h1,h2⟩=>?_;rcases h1 with⟨y,hgs,hk,hal⟩|⟨i,y,hfs,hk,hi,hni⟩
 ·obtain⟨x,hx,hQ⟩:=hruns [] (hall hal);unfold AQ at hx;rw[hgs]at hx
  cases y with
  | next s'=>cases hx
  | done x'=>
   obtain rfl:=OI hx;obtain⟨hne,hkx⟩:=hk
   cases e with
   | normal=>exact(hne rfl).elim
   | _=>exact⟨st',I',θ',hK _ hQ _ _ hkx,h2⟩
 ·obtain⟨τ,hτ⟩:=hone i hi hni
  have hlen:z.length<n:=by
   have:=hτ.length_eq;rw[F1,U4,DT]at this;omega
  cases y with
  | next s'=>
   obtain⟨rfl,hle⟩:=hk;obtain⟨I'',θ'',h3⟩:=hle I' θ' a' w' h2;refine⟨n-(i::z).length,by simp only[U4];omega,i::z,s',I'',θ'',rfl,zzL82.2 ⟨hni,hz⟩,?_,λρ hρ=>?_,h3⟩
   ·intro j hj;rcases zzL26.1 hj with rfl|hj
    ·exact hi
    ·exact hzn j hj
   ·obtain⟨x,this,hQ⟩:=hruns (i::ρ) (List.Perm.trans List.perm_middle hρ);unfold AQ at this;rw[hfs]at this;exact⟨x,this,hQ⟩
  | done x'=>
   obtain⟨x,hx,hQ⟩:=hruns _ hτ;unfold AQ at hx;rw[hfs]at hx;obtain rfl:=OI hx;obtain⟨hne,hkx⟩:=hk
   cases e with
   | normal=>exact(hne rfl).elim
   | _=>exact⟨st',I',θ',hK _ hQ _ _ hkx,h2⟩
end
theorem q9{V:Type}{f:V->AV}{l:List (Int×V)}{d:Int×V}{i:Nat}{k:IntKind}(h:i<(mapE f l).length):AVle (.tuple [.int k ((mapE f l).getD i (0,.any)).1,((mapE f l).getD i (0,.any)).2]) (.tuple [.int k (l.getD i d).1,f (l.getD i d).2]):=by
 have hl:i<l.length:=by simpa [mapE] using h
 have e:(mapE f l).getD i (0,.any)=((l.getD i d).1,f (l.getD i d).2):=by simp[mapE,List.getD,hl]
 rw[e];exact AVle.refl _
section
variable {P:Program} {Γ:Ih}
def MK(P:Program)(Γ:Ih)(body:Code)(K:Exit->St->Prop):Nat->St->Prop
 | 0,_=>False
 | n+1,st=>Ys P Γ body (λe st'=>(e = .normal/\MK P Γ body K n st')\/(e≠.normal/\K e st')) st
theorem eA{body:Code}{K:Exit->St->Prop}{st:St}(n:Nat)(h:MK P Γ body K n st):Ys P Γ (.loop body) K st:=by
 intro I θ a w hrel;refine JL (λm a w=>∃ st I θ,MK P Γ body K m st/\Rel Γ st.sto I θ a w) (λm a w ⟨st,I,θ,hu,hrel⟩=>?_) (n:=n) ⟨st,I,θ,h,hrel⟩
 cases m with
 | zero=>exact hu.elim
 | succ m=>
  refine Sj (hu I θ a w hrel) λe a' w' ⟨st',I',θ',h1,h2⟩=>?_;rcases h1 with⟨rfl,h1⟩|⟨hne,h1⟩
  ·exact⟨m,Nat.lt_succ_self m,st',I',θ',h1,h2⟩
  ·cases e with
   | normal=>exact(hne rfl).elim
   | _=>exact⟨st',I',θ',h1,h2⟩
end
inductive pH where
 | nx (y:Code)
 | bl (id:Nat)
 | ag (c:Code) (n:Nat)
inductive Oy where
 | run (c:Code) (fs:List pH)
 | out (e:Exit) (fs:List pH)
def pD(P:Program)(Γ:Ih)(K:Exit->St->Prop):List pH->Exit->St->Prop
 | []=>K
 | .nx y::fs=>sx P Γ y (pD P Γ K fs)
 | .bl id::fs=>IB id (pD P Γ K fs)
 | .ag c n::fs=>λe st=>(e = .normal/\MK P Γ c (pD P Γ K fs) n st)\/(e≠.normal/\pD P Γ K fs e st)
def GG(P:Program)(Γ:Ih)(K:Exit->St->Prop):Oy->St->Prop
 | .run c fs,st=>Ys P Γ c (pD P Γ K fs) st
 | .out e fs,st=>pD P Γ K fs e st
def Zp:Code->Nat->Nat
 | .exit i,k=>bif Nat.beq i k then 1 else 0
 | .seq a b,k=>Nat.min 2 (Zp a k+Zp b k)
 | .cond _ a b,k=>Nat.min 2 (Zp a k+Zp b k)
 | .loop c,k=>Nat.min 1 (Zp c k)
 | .scope c,k=>Nat.min 1 (Zp c k)
 | .block _ c,k=>Zp c k
 | _,_=>0
def Tm:Code->Nat
 | .region _ _ _=>1
 | .skip=>1
 | .label _=>1
 | .seq a b=>bif Nat.beq (Tm a) 0 then 0 else Tm b
 | .cond _ a b=>Nat.min 2 (Tm a+Tm b)
 | .block i c=>Nat.min 2 (Tm c+Zp c i)
 | .scope c=>Nat.min 2 (Tm c)
 | _=>0
def mz(a:Code):Bool:=match a with | .region _ _ _=>false|a=>Nat.ble 2 (Tm a)
def PB:Nat->Code ⊕ Exit->List pH->Oy
 | 0,.inl c,fs=>.run c fs
 | 0,.inr e,fs=>.out e fs
 | n+1,.inl c,fs=>
  match c with
  | .skip=>PB n (.inr .normal) fs
  | .label _=>PB n (.inr .normal) fs
  | .seq a b=>bif mz a then .run (.seq a b) fs else PB n (.inl a) (.nx b::fs)
  | .block id a=>PB n (.inl a) (.bl id::fs)
  | .exit id=>PB n (.inr (.exit id)) fs
  | .goto l=>PB n (.inr (.goto l)) fs
  | .ret=>PB n (.inr .ret) fs
  | c=>.run c fs
 | n+1,.inr e,fs=>
  match fs with
  | []=>.out e []
  | .nx y::fs=>(match e with | .normal=>PB n (.inl y) fs|e=>PB n (.inr e) fs)
  | .bl id::fs=>(match e with | .exit i=>bif Nat.beq i id then PB n (.inr .normal) fs else PB n (.inr (.exit i)) fs|e=>PB n (.inr e) fs)
  | .ag c m::fs=>(match e with | .normal=>(match m with|0=>.out .normal (.ag c 0::fs)|m+1=>PB n (.inl c) (.ag c m::fs))|e=>PB n (.inr e) fs)
section
variable {P:Program} {Γ:Ih} {K:Exit->St->Prop}
theorem Ck:∀(n:Nat) (x:Code ⊕ Exit) (fs:List pH) (st:St),GG P Γ K (PB n x fs) st->(match x with | .inl c=>Ys P Γ c (pD P Γ K fs) st | .inr e=>pD P Γ K fs e st)
 | 0,.inl c,fs,st,h=>h
 | 0,.inr e,fs,st,h=>h
 | n+1,.inl c,fs,st,h=>by
  cases c with
  | skip=>exact mM (Ck n _ fs st h)
  | label l=>exact jV (Ck n _ fs st h)
  | seq a b=>
   cases hj:mz a with
   | true=>simp only[PB,hj]at h;exact h
   | false=>simp only[PB,hj]at h;exact XM (Ck n (.inl a) _ st h)
  | block id a=>exact jU (Ck n (.inl a) _ st h)
  | exit id=>exact mJ (Ck n _ fs st h)
  | goto l=>exact mK (Ck n _ fs st h)
  | ret=>exact qK (Ck n (.inr .ret) fs st h)
  | _=>exact h
 | n+1,.inr e,[],st,h=>h
 | n+1,.inr e,.nx y::fs,st,h=>by
  cases e with
  | normal=>exact Ck n (.inl y) fs st h
  | exit i=>exact Ck n _ fs st h
  | goto l=>exact Ck n _ fs st h
  | ret=>exact Ck n (.inr .ret) fs st h
  | panic c=>exact Ck n _ fs st h
  | outgrown=>exact Ck n _ fs st h
 | n+1,.inr e,.bl id::fs,st,h=>by
  cases e with
  | normal=>exact Ck n _ fs st h
  | exit i=>
   cases hb:Nat.beq i id with
   | true=>
    obtain rfl:=Cq hb;simp only[PB,hb]at h;exact eD (Ck n _ fs st h)
   | false=>
    simp only[PB,hb]at h;exact eC hb (Ck n _ fs st h)
  | goto l=>exact Ck n _ fs st h
  | ret=>exact Ck n (.inr .ret) fs st h
  | panic c=>exact Ck n _ fs st h
  | outgrown=>exact Ck n _ fs st h
 | n+1,.inr e,.ag c m::fs,st,h=>by
  cases e with
  | normal=>
   cases m with
   | zero=>exact h
   | succ m=>exact .inl ⟨rfl,Ck n (.inl c) _ st h⟩
  | exit i=>exact .inr ⟨(by intro hh;cases hh),Ck n _ fs st h⟩
  | goto l=>exact .inr ⟨(by intro hh;cases hh),Ck n _ fs st h⟩
  | ret=>exact .inr ⟨(by intro hh;cases hh),Ck n (.inr .ret) fs st h⟩
  | panic ch=>exact .inr ⟨(by intro hh;cases hh),Ck n _ fs st h⟩
  | outgrown=>exact .inr ⟨(by intro hh;cases hh),Ck n _ fs st h⟩
theorem Ln{n:Nat}{c:Code}{fs:List pH}{st:St}(h:GG P Γ K (PB n (.inl c) fs) st):Ys P Γ c (pD P Γ K fs) st:=Ck n _ fs st h
theorem V3{n:Nat}{e:Exit}{fs:List pH}{st:St}(h:GG P Γ K (PB n (.inr e) fs) st):pD P Γ K fs e st:=Ck n _ fs st h
def ql(c:Code)(fs:List pH):Oy:=PB 400 (.inl c) fs
def yQ(e:Exit)(fs:List pH):Oy:=PB 400 (.inr e) fs
def rG:Oy->Oy
 | .run _ fs=>yQ .normal fs
 | x=>x
def rN:Oy->Option (List Oper×Bool)
 | .run (.region _ ops draw) _=>some (ops.toList,draw)
 | _=>none
def pC(P:Program)(S:FQ)(n:Nat)(cs:List (Nat×AV))(live names:List Nat)(x:Oy)(st:St)(rs:List Vx):Option (St×List Prop×Bool):=
 match rN x with
 | some (ops,draw)=>MN P S n cs live names ops draw st rs
 | none=>none
def rH(P:Program)(S:FQ)(n:Nat)(cs:List (Nat×AV))(live names:List Nat)(x:Oy)(st:St)(rs:List Vx):St:=
 match pC P S n cs live names x st rs with
 | some r=>r.1
 | none=>st
def pE(r:Option (St×List Prop×Bool)):Option (Prop×Bool):=
 match r with
 | some r=>some (bS r.2.1,r.2.2)
 | none=>none
theorem gR{x:Oy}{st:St}{n:Nat}{H:List (Nat×Own)}(q:RgQ P Γ n H)(live names:List Nat)(cs:List (Nat×AV))(rs:List Vx){O:Prop}(hO:O)
  (k:GG P Γ K (rG x) (rH P (Spec P) n cs live names x st rs))
  (h:pE (pC P (Spec P) n cs live names x st rs)=some (O,true):=by kernel_rfl) (hh:(H.all λx=>Bl x.1 names)=true:=by kernel_rfl):GG P Γ K x st:=by
 unfold pC at h;unfold rH pC at k
 cases x with
 | out e fs=>simp[rN,pE]at h
 | run c fs=>
  cases c with
  | region id ops draw=>
   simp only[rN]at h k
   cases hr:MN P _ n cs _ _ _ _ st rs with
   | none=>rw[hr]at h;simp[pE]at h
   | some r=>
    obtain⟨st',obs,d⟩:=r;rw[hr]at h k;obtain⟨rfl,rfl⟩:=h;have:=d9 (id:=id)  q.hn q.mix (q.hand hh) hr hO (V3 k);exact(by simpa using this:Ys P Γ _ _ st)
  | _=>simp[rN,pE]at h
theorem Af{x:Oy}{st:St}{n:Nat}{H:List (Nat×Own)}(q:RgQ P Γ n H)(live names:List Nat)
  (k:GG P Γ K (rG x) (rH P (Spec P) n [] live names x st []))
  (h:pE (pC P (Spec P) n [] live names x st [])=some (True,true):=by kernel_rfl) (hh:(H.all λx=>Bl x.1 names)=true:=by kernel_rfl):GG P Γ K x st:=gR q _ _ [] [] trivial k h hh
def sj:Oy->Bool | .run _ _=>true|_=>false
theorem Hr{x:Oy}{st st':St}(h:Le Γ st st')
  (k:GG P Γ K x st')
  (hx:sj x=true:=by kernel_rfl):GG P Γ K x st:=by
 cases x with
 | run c fs=>exact XL h k
 | out e fs=>cases hx
theorem Qe{x:Oy}{st:St}(st':St)
  (k:GG P Γ K x st')
  (h:st=st':=by kernel_rfl):GG P Γ K x st:=h▸k
def sa(x:Oy)(st:St):AV:=match x with | .run (.cond c _ _) _=>eL st.get c|_=>.any
def yO(b:Bool):Oy->Oy
 | .run (.cond _ c d) fs=>ql (bif b then c else d) fs
 | x=>x
theorem gC{x:Oy}{st:St}{R:Type}{b:Bool}{m1 m2:Option R}{r:R}(h:(bif b then m1 else m2)=some r)
  (kt:m1=some r->GG P Γ K (yO true x) st) (kf:m2=some r->GG P Γ K (yO false x) st)
  (hv:sa x st = .bool b:=by kernel_rfl):GG P Γ K x st:=by
 cases x with
 | out e fs=>cases hv
 | run c fs=>
  cases c with
  | cond c y z=>
   refine bH b hv (λhb=>Ln  (kt ?_)) (λhb=>Ln  (kf ?_))
   ·subst hb;exact h
   ·subst hb;exact h
  | _=>cases hv
theorem jq{x:Oy}{st:St}(b:Bool)
  (k:GG P Γ K (yO b x) st)
  (hv:sa x st = .bool b:=by kernel_rfl):GG P Γ K x st:=by
 cases x with
 | out e fs=>cases hv
 | run c fs=>
  cases c with
  | cond c y z=>
   refine bH b hv (λhb=>Ln (n:=400) ?_) (λhb=>Ln (n:=400) ?_)
   ·subst hb;exact k
   ·subst hb;exact k
  | _=>cases hv
theorem lt1{P:Nat->Prop}(h0:P 0)(i:Nat)(h:i<1):P i:=by
 grind
theorem rk(o:Own):some o=some o:=rfl
theorem gK{x:Oy}{st:St}{e:Exit}(h:K e st)(hx:x = .out e []:=by kernel_rfl):GG P Γ K x st:=by subst hx;exact h
def aG(Γ:Ih)(e0:Exit)(og:St):Exit->St->Prop:=λe st=>e=e0/\Le Γ st og
def aR(K:Exit->St->Prop):Exit->St->Prop:=λe st=>e = .ret/\K e st
theorem Bn{e0:Exit}{og st:St}(h:Le Γ st og):aG Γ e0 og e0 st:=⟨rfl,h⟩
theorem Mm{st:St}(h:K .ret st):aR K .ret st:=⟨rfl,h⟩
def zN:Exit->Bool | .normal=>true|_=>false
theorem gN{S X:Type}{x:Oy}{st:St}{H:S->St}{KX:X->Exit->St->Prop}{s':S}(h:Le Γ st (H s'))(hx:x = .out .normal []:=by kernel_rfl):GG P Γ (Rd Γ H KX (.next s')) x st:=by
 subst hx;exact⟨rfl,h⟩
theorem gO{S X:Type}{x:Oy}{st:St}{H:S->St}{KX:X->Exit->St->Prop}{y:X}{e:Exit}(h:KX y e st)(hx:x = .out e []:=by kernel_rfl)(hn:zN e=false:=by kernel_rfl):GG P Γ (Rd Γ H KX (.done y)) x st:=by
 subst hx;exact⟨(by rintro rfl;cases hn),h⟩
def fK(P:Program)(Γ:Ih)(rs:List ResultVar)(H:List (Nat×Own))(res:AV)(H':List (Nat×Own)):Exit->St->Prop:=yx Γ (wi P rs H res H')
theorem Ic{rs:List ResultVar}{H H':List (Nat×Own)}{res:AV}{st st':St}{e:Exit}(ρ:List (Nat×Nat))(hl:Le Γ st st')(hr:iU P rs ρ H st'=some (res,H'):=by kernel_rfl)
  (he:(match e with | .ret=>true | .normal=>true|_=>false)=true:=by kernel_rfl):fK P Γ rs H res H' e st:=by
 refine⟨st',hl,?_,ρ,hr⟩
 cases e with
 | ret=>exact .inl rfl
 | normal=>exact .inr rfl
 | _=>cases he
theorem Cf{rs:List ResultVar}{H H':List (Nat×Own)}{res:AV}{x:Oy}{st:St}(ρ:List (Nat×Nat))(hr:iU P rs ρ H st=some (res,H'):=by kernel_rfl)
  (hx:x = .out .ret []:=by kernel_rfl):GG P Γ (fK P Γ rs H res H') x st:=gK  (Ic ρ (Le.refl _ _) hr) hx
def XN(fn:Func):Code:=match fn.body with|some c=>c|none=>.skip
theorem Wd {f : FuncId} {fn : Func} {args : List AV} {H H' : List (Nat × Own)} {res : AV} (hm : P.follows .mixedOrders = true) (hf : P.funcs[f]? = some fn)
    (k : ∀ Γ : Ih, RgQ P Γ fn.ntmps H → GG P Γ (fK P Γ fn.results.toList H res H') (ql (XN fn) []) (IH args H))
    (hb : fn.body.isSome = true := by kernel_rfl) (hname : (fn.name == "runtime.NumGoroutine") = false := by kernel_rfl) (hlen : Nat.ble args.length fn.ntmps = true := by kernel_rfl) (hpl : PT H = true := by kernel_rfl) : Spec P f args H res H' := by
  obtain ⟨c, hc⟩ := zzL81.1 hb
  have e : XN fn = c := by unfold XN; rw [hc]
  refine cr hf hc hname hlen (fun Γ hn hΓ => ?_) hpl; have := k Γ ⟨hn, hm, hΓ⟩; rw [e] at this; exact tt (Ln this)
theorem eW{st st':St}(h:st=st'):Le Γ st st':=h▸Le.refl Γ st
def XX:Oy->Bool | .run (.loop _) _=>true|_=>false
def mR:Oy->Oy
 | .run (.loop c) _=>ql c []
 | x=>x
def kE(e:Exit):Oy->Oy
 | .run _ fs=>yQ e fs
 | x=>x
def wb{α:Type}(k:Nat)(x:α):List (Nat×α)->List (Nat×α)
 | []=>[(k,x)]
 | (k',y)::l=>bif Nat.beq k k' then(k,x)::l else bif Nat.blt k k' then(k,x)::(k',y)::l else(k',y)::wb k x l
def rQ{α:Type}:List (Nat×α)->List (Nat×α)->List (Nat×α)
 | [],l=>l
 | (k,x)::r,l=>rQ r (wb k x l)
def Du(st:St)(ts:List (Nat×AV))(os:List (Nat×Own))(fs:List (Nat×kr):=[]):St:=⟨rQ ts st.tmps,rQ os st.own,rQ fs st.fam⟩
def N2(live names:List Nat)(st:St)(ts:List (Nat×AV))(os:List (Nat×Own))(fs:List (Nat×kr):=[]):St:=Bb live names (Du st ts os fs)
theorem gL{S X:Type}{x:Oy}{st:St}{n:Nat}{Hf:List (Nat×Own)}(q:RgQ P Γ n Hf){f:S->Option (LR S X)}{s0:S}{y:X}(hx:Ad f s0=some y)(live names:List Nat)(H:St->S->St)(KX:St->X->Exit->St->Prop)
  (kb:∀ s y,f s=some y->GG P Γ (Rd Γ (H (Bb live names st)) (KX (Bb live names st)) y) (mR x) (H (Bb live names st) s)) (ko:∀ e st',KX (Bb live names st) y e st'->GG P Γ K (kE e x) st')
  (h0:Bb live names st=H (Bb live names st) s0:=by kernel_rfl) (hl:XX x=true:=by kernel_rfl) (hh:(Hf.all λx=>Bl x.1 names)=true:=by kernel_rfl):GG P Γ K x st:=by
 cases x with
 | out e fs=>cases hl
 | run c fs=>
  cases c with
  | loop c=>
   refine XL  ?_ (bI _ f _ (λs y hy=>Ln (kb s y hy)) hx λe st' hk=>V3 (ko e st' hk));rw[<- h0];exact Bs _ _ q rfl hh
  | _=>cases hl
theorem zK{S X:Type}{x:Oy}{st:St}{f:S->Option (LR S X)}{s0:S}{y:X}(hx:Ad f s0=some y)(H:St->S->St)(KX:St->X->Exit->St->Prop)
  (kb:∀ s y,f s=some y->GG P Γ (Rd Γ (H st) (KX st) y) (mR x) (H st s)) (ko:∀ e st',KX st y e st'->GG P Γ K (kE e x) st')
  (h0:st=H st s0:=by kernel_rfl) (hl:XX x=true:=by kernel_rfl):GG P Γ K x st:=by
 cases x with
 | out e fs=>cases hl
 | run c fs=>
  cases c with
  | loop c=>exact XL (eW h0) (bI _ f _ (λs y hy=>Ln (kb s y hy)) hx λe st' hk=>V3 (ko e st' hk))
  | _=>cases hl
theorem gA{x:Oy}{f:Exit->Oy->Oy}{e0:Exit}{og:St}
  (k:GG P Γ K (f e0 x) og)
  (hr:sj (f e0 x)=true:=by kernel_rfl):∀ e st',aG Γ e0 og e st'->GG P Γ K (f e x) st':=by
 rintro e st' ⟨rfl,hl⟩;exact Hr hl k hr
theorem se{x:Oy}{f:Exit->Oy->Oy}{e0:Exit}{og:St}(k:∀ st',Le Γ st' og->GG P Γ K (f e0 x) st'):∀ e st',aG Γ e0 og e st'->GG P Γ K (f e x) st':=by
 rintro e st' ⟨rfl,hl⟩;exact k st' hl
theorem Pi{x:Oy}{f:Exit->Oy->Oy}{K':Exit->St->Prop}(k:∀ st',K' .ret st'->GG P Γ K (f .ret x) st'):∀ e st',aR K' e st'->GG P Γ K (f e x) st':=by
 rintro e st' ⟨rfl,hl⟩;exact k st' hl
theorem gU{x:Oy}{st:St}(n:Nat)
  (k:GG P Γ K (match x with | .run (.loop c) fs=>ql c (.ag c n::fs)|x=>x) st)
  (hl:XX x=true:=by kernel_rfl):GG P Γ K x st:=by
 cases x with
 | out e fs=>cases hl
 | run c fs=>
  cases c with
  | loop c=>exact eA (n+1) (Ln k)
  | _=>cases hl
def wO:Oy->Bool | .run (.seq _ _) _=>true|_=>false
def wM:Oy->Oy
 | .run (.seq a _) _=>ql a []
 | x=>x
def wh(e:Exit):Oy->Oy
 | .run (.seq _ b) fs=>yQ e (.nx b::fs)
 | x=>x
theorem gJ{X:Type}{x:Oy}{st:St}{m:Option X}{y:X}(hx:m=some y)(KX:X->Exit->St->Prop)
  (kb:∀ y,m=some y->GG P Γ (KX y) (wM x) st) (ko:∀ e st',KX y e st'->GG P Γ K (wh e x) st')
  (hs:wO x=true:=by kernel_rfl):GG P Γ K x st:=by
 cases x with
 | out e fs=>cases hs
 | run c fs=>
  cases c with
  | seq a b=>exact XM (mL KX hx (λy hy=>Ln (kb y hy)) λe st' hk=>V3 (ko e st' hk))
  | _=>cases hs
def qm:Oy->Bool | .run (.scope _) _=>true|_=>false
def wj:Oy->Code | .run (.scope c) _=>c|_=>.skip
def wP(c:Code)(l:Nat):Oy:=ql ((findLabel c l).getD .skip) []
theorem gS{S X:Type}{x:Oy}{st:St}{f0:Option (LR S X)}{f:S->Option (LR S X)}{y:X}(hx:Vq f0 f=some y)(lab:S->Nat)(H:S->St)(KX:X->Exit->St->Prop)
  (k0:∀ y,f0=some y->GG P Γ (ON Γ (wj x) lab H KX y) (ql (wj x) []) st) (kb:∀ s y,f s=some y->GG P Γ (ON Γ (wj x) lab H KX y) (wP (wj x) (lab s)) (H s)) (ko:∀ e st',KX y e st'->GG P Γ K (kE e x) st')
  (hs:qm x=true:=by kernel_rfl):GG P Γ K x st:=by
 cases x with
 | out e fs=>cases hs
 | run c fs=>
  cases c with
  | scope c=>
   refine jX lab H f0 f KX (λy hy=>Ln (k0 y hy)) (λs y rest hf hy=>?_) hx λe st' hk=>V3 (ko e st' hk);have:=kb s y hy;unfold wP wj at this;rw[hf]at this;exact Ln this
  | _=>cases hs
theorem qh{S X:Type}{x:Oy}{st:St}{c:Code}{lab:S->Nat}{H:S->St}{KX:X->Exit->St->Prop}{s':S}(h:Le Γ st (H s'))(hx:x = .out (.goto (lab s')) []:=by kernel_rfl)(hf:(findLabel c (lab s')).isSome=true:=by kernel_rfl) :
  GG P Γ (ON Γ c lab H KX (.next s')) x st:=by
 subst hx;exact⟨rfl,hf,h⟩
theorem sf{S X:Type}{x:Oy}{st:St}{c:Code}{lab:S->Nat}{H:S->St}{KX:X->Exit->St->Prop}{y:X}{e:Exit}(h:KX y e st)(hx:x = .out e []:=by kernel_rfl)
  (hf:(match e with | .goto l=>(findLabel c l).isNone|_=>true)=true:=by kernel_rfl):GG P Γ (ON Γ c lab H KX (.done y)) x st:=by
 subst hx;refine⟨?_,h⟩;rintro l rfl
 simpa using hf
theorem Vc{α:Type}{st:St}(U:α->St->St){a b:α}(h:a=b)(h1:st=U a st:=by kernel_rfl):Le Γ st (U b st):=by subst h;exact eW h1
theorem yT{st:St}(F F':Bool->St->St)(g:Bool)(h1:st=F g st:=by kernel_rfl)(ht:F true st=F' true st:=by kernel_rfl)(hf:F false st=F' false st:=by kernel_rfl):Le Γ st (F' g st):=by
 refine eW (h1.trans ?_)
 cases g<;>assumption
def Own.withF(g:Nat->List AV):Own->Own
 | .arr sz e n _=>.arr sz e n g
 | o=>o
def sZ(st:St)(nm:Nat):Option (Nat×(Nat->List AV)):=match Ag st.own nm with|some (.arr _ _ n f)=>some (n,f)|_=>none
def wl(nm:Nat)(g:Nat->List AV)(st:St):St:=⟨st.tmps,(match Ag st.own nm with|some o=>D6 st.own nm (o.withF g)|none=>st.own),st.fam⟩
theorem PP{nm sz n:Nat}{e:TypeId}{f g:Nat->List AV}(hp:∀ k,k<n->AVleL (f k) (g k)):∀{l:List (Nat×Own)},Ag l nm=some (.arr sz e n f)->OwnsLe l (D6 l nm (.arr sz e n g))
 | [],h=>by cases h
 | (k,o)::l,h=>by
  simp only[Ag]at h;simp only[D6]
  cases hb:Nat.beq k nm with
  | true=>
   obtain rfl:=Cq hb;rw[hb]at h;simp only[Ac,Am]at h;subst h;exact .arr hp (.refl _)
  | false=>
   rw[hb]at h;exact .same (PP hp h)
theorem Ie{st:St}(nm:Nat){n:Nat}{f g:Nat->List AV}(hp:∀ k,k<n->AVleL (f k) (g k))(h:sZ st nm=some (n,f):=by kernel_rfl):Le Γ st (wl nm g st):=by
 unfold sZ at h;unfold wl
 cases ho:Ag _ nm with
 | none=>rw[ho]at h;cases h
 | some o=>
  rw[ho]at h
  cases o with
  | arr sz e n' f'=>
   obtain⟨rfl,rfl⟩:=h;exact Fo (TmpsLe.refl _) (PP hp ho)
  | _=>cases h
def ma(st:St)(nm j:Nat):Option AV:=match Ag st.own nm with|some (.row _ cells)=>cells[j]? | _=>none
def Own.withC(j:Nat)(x:AV):Own->Own
 | .row e cells=>.row e (cells.set j x)
 | o=>o
def wk(nm j:Nat)(x:AV)(st:St):St:=⟨st.tmps,(match Ag st.own nm with|some o=>D6 st.own nm (o.withC j x)|none=>st.own),st.fam⟩
theorem iB{a b:AV}(h:AVle a b):∀{l:List AV} {j:Nat},l[j]?=some a->AVleL l (l.set j b)
 | [],j,h=>by simp at h
 | x::l,0,h'=>by
  simp only[List.getElem?_cons_zero,Am]at h';subst h';exact .cons h (.refl _)
 | x::l,j+1,h'=>by
  exact .cons (.refl _) (iB h h')
theorem PQ{nm:Nat}{e:TypeId}{x y:List AV}(hp:AVleL x y):∀{l:List (Nat×Own)},Ag l nm=some (.row e x)->OwnsLe l (D6 l nm (.row e y))
 | [],h=>by cases h
 | (k,o)::l,h=>by
  simp only[Ag]at h;simp only[D6]
  cases hb:Nat.beq k nm with
  | true=>
   obtain rfl:=Cq hb;rw[hb]at h;simp only[Ac,Am]at h;subst h;exact .row hp (.refl _)
  | false=>
   rw[hb]at h;exact .same (PQ hp h)
theorem qo{st:St}(nm j:Nat){a b:AV}(hp:AVle a b)(h:ma st nm j=some a:=by kernel_rfl):Le Γ st (wk nm j b st):=by
 unfold ma at h;unfold wk
 cases ho:Ag _ nm with
 | none=>rw[ho]at h;cases h
 | some o=>
  rw[ho]at h
  cases o with
  | row e cells=>exact Fo (TmpsLe.refl _) (PQ (iB hp h) ho)
  | _=>cases h
theorem kH{V:Type}:VK ([]:List (Int×V)) []:=⟨.nil,List.nodup_nil⟩
def su(nm:Nat)(x:AObj)(st:St):St:=⟨st.tmps,D6 st.own nm (.obj x),st.fam⟩
theorem yz{V:Type}{st:St}(nm:Nat)(nn:Bool)(k:IntKind){f:V->AV}{a b:List (Int×V)}(hp:VK a b)(h:Ag st.own nm=some (.obj (.map nn k (mapE f a))):=by kernel_rfl)(hlt:Nat.blt nm Bo=true:=by kernel_rfl):Le Γ st (su nm (.pmap nn k (mapE f b)) st):=
 YC _ h (λ_ _ _ _ h=>ek hp h) hlt
theorem zO{st:St}(nm:Nat)(k:IntKind)(l:List (Int×AV))(h:Ag st.own nm=some (.obj (.pmap true k l)):=by kernel_rfl)(hlt:Nat.blt nm Bo=true:=by kernel_rfl):Le Γ st (su nm (.pmap false k l) st):=
 YC _ h (λ_ _ _ _ h=>kA h) hlt
theorem gI(g:Bool):g=true->g=true:=id
theorem M2(c:Bool):c=true->(c==true)=true:=gT
theorem Lb(c:Bool):c=false->(c==false)=true:=gF
theorem B1{α:Type}(sz:Nat)(e:α->List AV)(d:α)(l:List α):AVle (.slice sz l.length (λi=>(l.map e).getD i []) .exact) (AV.list sz e d l .exact):=tq rfl λi h=>qx l i h
theorem Ex{α:Type}(sz:Nat)(e:α->List AV)(d:α):AVle (.slice 0 0 (λ_=>[]) .exact) (AV.list sz e d [] .exact):=C2
theorem Ju{α:Type}(sz nm:Nat)(e:α->List AV)(d:α)(l m:List α):AVle (.slice sz (l.length+m.length) (Ob l.length (λi=>e (l.getD i d)) (λi=>e (m.getD i d))) (.own nm)) (AV.list sz e d (l++m) (.own nm)):=tn
def nJ(x:Oy)(ix tx bx:Nat):Bool:=
 match x with
 | .run (.loop (.seq (.region _ ops false) _)) _=>
  match ops.toList with
  | [o1,o2]=>
   (match o1.op,o2.op with | .next (.tmp a) false,.extract (.tmp b) 0=>Nat.beq a ix&&Nat.beq b tx|_,_=>false) &&
   (match o1.dst,o2.dst,o1.guard,o2.guard with|some a,some b,none,none=>Nat.beq a tx&&Nat.beq b bx|_,_,_,_=>false)
  | _=>false
 | _=>false
def MV:Oy->Oy
 | .run (.loop (.seq _ c)) _=>ql c []
 | x=>x
theorem zM{S X:Type}{x:Oy}{st:St}{n:Nat}{Hf:List (Nat×Own)}(q:RgQ P Γ n Hf){len:Nat}{f:Nat->S->Option (LR S X)}{g:S->Option (LR S X)}{s0:S}(Q:X->Prop)(hx:∀ τ:List Nat,τ.Perm (List.range len)->∃ x,AQ f g τ s0=some x/\Q x)(live names:List Nat)(H:St->List Nat->S->St)(KX:St->X->Exit->St->Prop)
  (ix tx bx nm mm:Nat) (nn:Bool) (km:IntKind) (l:List (Int×AV)) (lv2 nm2:List Nat)
  (h0:Bb live names st=H (Bb live names st) [] s0:=by kernel_rfl) (hc:nJ x ix tx bx=true:=by kernel_rfl) (hb:(Nat.blt tx n&&(Nat.blt bx n&&(Nat.blt nm Bo&&Nat.blt mm Bo)))=true:=by kernel_rfl)
  (hit:(λz s=>(H (Bb live names st) z s).get ix)=(λ_ _=>AV.optr nm mm):=by kernel_rfl) (hmi:(λz s=>Ag (H (Bb live names st) z s).own nm)=(λz _=>some (.obj (.miter (.omap mm) len z))):=by kernel_rfl)
  (hma:(λz s=>Ag (H (Bb live names st) z s).own mm)=(λ_ _=>some (.obj (.map nn km l))):=by kernel_rfl) (hlen:len=l.length:=by kernel_rfl) (hh:(Hf.all λx=>Bl x.1 names)=true:=by kernel_rfl) (hh2:(Hf.all λx=>Bl x.1 nm2)=true:=by kernel_rfl)
  (kd:∀ z s y,g s=some y->(∀ i,i<len->i∈z)->GG P Γ (Rd Γ (H (Bb live names st) z) (KX (Bb live names st)) y) (MV x) (Bb lv2 nm2 (((H (Bb live names st) z s).upd (some tx) (.tuple [.bool false]) []).upd (some bx) (.bool false) [])))
  (kn:∀ z s i y,f i s=some y->i<len->i∉z->GG P Γ (Rd Γ (H (Bb live names st) (i::z)) (KX (Bb live names st)) y) (MV x)
   (Bb lv2 nm2 (((H (Bb live names st) z s).upd (some tx) (.tuple [.bool true,.int km (l.getD i (0,.any)).1,(l.getD i (0,.any)).2]) [(nm,.obj (.miter (.omap mm) len (i::z)))]).upd (some bx) (.bool true) [])))
  (ko:∀ y,Q y->∀ e st',KX (Bb live names st) y e st'->GG P Γ K (kE e x) st'):GG P Γ K x st:=by
 unfold nJ at hc
 split at hc
 ·rename_i id ops rest fs
  split at hc
  ·rename_i o1 o2 hops
   obtain rfl:ops = #[o1,o2]:=by grind
   simp only[Bc]at hc;obtain⟨c1,c2⟩:=hc
   split at c1
   ·rename_i a b e1 e2
    split at c2
    ·rename_i a' b' e3 e4 e5 e6
     simp only[Bc]at c1 c2;obtain rfl:=Cq c1.1;obtain rfl:=Cq c1.2;obtain rfl:=Cq c2.1;obtain rfl:=Cq c2.2;refine XL  ?_ (bJ Q len (H (Bb live names st)) f g _ (λz s hg hf=>?_) hx λy hy e st' hk=>V3 (ko y hy e st' hk))
     ·rw[<- h0];exact Bs _ _ q rfl hh
     refine XM (jW q lv2 nm2 e1 e3 e5 e2 e4 e6 hb (congrFun (congrFun hit z) s) (congrFun (congrFun hmi z) s) (congrFun (congrFun hma z) s) hlen hh2 (λhall=>?_) (λi hi hn=>?_))
     ·obtain⟨y,h⟩:=hg hall;exact NR (Ln (kd z s y h hall)) (λe st' hk=>.inl ⟨y,h,hk,hall⟩)
     ·obtain⟨y,h⟩:=hf i hi hn;exact NR (Ln (kn z s i y h hi hn)) (λe st' hk=>.inr ⟨i,y,h,hk,hi,hn⟩)
    ·cases c2
   ·cases c1
  ·cases hc
 ·cases hc
theorem zL{S X:Type}{x:Oy}{st:St}{n:Nat}{Hf:List (Nat×Own)}(q:RgQ P Γ n Hf){len:Nat}{f:Nat->S->Option (LR S X)}{g:S->Option (LR S X)}{s0:S}{eqv:X->X->Prop}{y:X}(hx:EQ eqv len f g s0=some y)(live names:List Nat)(H:St->List Nat->S->St)(KX:St->X->Exit->St->Prop)
  (ix tx bx nm mm:Nat) (nn:Bool) (km:IntKind) (l:List (Int×AV)) (lv2 nm2:List Nat)
  (h0:Bb live names st=H (Bb live names st) [] s0:=by kernel_rfl) (hc:nJ x ix tx bx=true:=by kernel_rfl) (hb:(Nat.blt tx n&&(Nat.blt bx n&&(Nat.blt nm Bo&&Nat.blt mm Bo)))=true:=by kernel_rfl)
  (hit:(λz s=>(H (Bb live names st) z s).get ix)=(λ_ _=>AV.optr nm mm):=by kernel_rfl) (hmi:(λz s=>Ag (H (Bb live names st) z s).own nm)=(λz _=>some (.obj (.miter (.omap mm) len z))):=by kernel_rfl)
  (hma:(λz s=>Ag (H (Bb live names st) z s).own mm)=(λ_ _=>some (.obj (.map nn km l))):=by kernel_rfl) (hlen:len=l.length:=by kernel_rfl) (hh:(Hf.all λx=>Bl x.1 names)=true:=by kernel_rfl) (hh2:(Hf.all λx=>Bl x.1 nm2)=true:=by kernel_rfl)
  (kd:∀ z s y,g s=some y->(∀ i,i<len->i∈z)->GG P Γ (Rd Γ (H (Bb live names st) z) (KX (Bb live names st)) y) (MV x) (Bb lv2 nm2 (((H (Bb live names st) z s).upd (some tx) (.tuple [.bool false]) []).upd (some bx) (.bool false) [])))
  (kn:∀ z s i y,f i s=some y->i<len->i∉z->GG P Γ (Rd Γ (H (Bb live names st) (i::z)) (KX (Bb live names st)) y) (MV x)
   (Bb lv2 nm2 (((H (Bb live names st) z s).upd (some tx) (.tuple [.bool true,.int km (l.getD i (0,.any)).1,(l.getD i (0,.any)).2]) [(nm,.obj (.miter (.omap mm) len (i::z)))]).upd (some bx) (.bool true) [])))
  (ko:∀ y',eqv y' y->∀ e st',KX (Bb live names st) y' e st'->GG P Γ K (kE e x) st'):GG P Γ K x st:=
 zM q _ (LC hx) _ _ H KX ix tx bx nm mm nn km l lv2 nm2 h0 hc hb hit hmi hma hlen hh hh2 kd kn ko
theorem I9{st st':St}(h:st=st':=by kernel_rfl):Le Γ st st':=h▸Le.refl Γ st
theorem ci{p q:Prop}(a:p)(b:q):p/\q:=⟨a,b⟩
theorem c1{p:Prop}(a:p):p/\True:=⟨a,trivial⟩
end
section
variable {P:Program} {Γ:Ih} {K:Exit->St->Prop}
theorem tB{α β:Type}{m:Option α}{f:α->Option β}{r:β}{G:Prop}(h:m.bind f=some r)(k:∀ x,m=some x->f x=some r->G):G:=have⟨x,hx,h⟩:=bind_some h;k x hx h
theorem tC{β:Type}{c:Prop}[Decidable c]{m:Option β}{r:β}{G:Prop}(h:Bf c m=some r)(k:c->m=some r->G):G:=k (Jm h).1 (Jm h).2
@[elab_as_elim] theorem tS{α:Type}{a:α}{M:α->Prop}{b:α}(h:some a=some b)(k:M a):M b:=OI h▸k
theorem tV{x:Oy}{st:St}{n:Nat}{H:List (Nat×Own)}(q:RgQ P Γ n H)(live names:List Nat){β:Type}{c:Prop}[Decidable c]{m:Option β}{r:β}(h:Bf c m=some r)
  (k:m=some r->GG P Γ K (rG x) (rH P (Spec P) n [] live names x st []))
  (h1:pE (pC P (Spec P) n [] live names x st [])=some (c/\True,true):=by kernel_rfl) (hh:(H.all λx=>Bl x.1 names)=true:=by kernel_rfl):GG P Γ K x st:=gR q live names [] [] (c1 (Jm h).1) (k (Jm h).2) h1 hh
theorem tN{S X:Type}{x:Oy}{st:St}{H:S->St}{KX:X->Exit->St->Prop}{s':S}{y:LR S X}(h:some (.next s')=some y)(h1:st=H s':=by kernel_rfl)(hx:x = .out .normal []:=by kernel_rfl):GG P Γ (Rd Γ H KX y) x st:=OI h▸gN (I9 h1) hx
theorem tL{S X α:Type}{x:Oy}{st:St}{n:Nat}{Hf:List (Nat×Own)}(q:RgQ P Γ n Hf){f:S->Option (LR S X)}{s0:S}{g:X->Option α}{r:α}(h:(Ad f s0).bind g=some r)(live names:List Nat)(H:St->S->St)(KX:St->X->Exit->St->Prop)
  (kb:∀ s y,f s=some y->GG P Γ (Rd Γ (H (Bb live names st)) (KX (Bb live names st)) y) (mR x) (H (Bb live names st) s)) (ko:∀ y,g y=some r->∀ e st',KX (Bb live names st) y e st'->GG P Γ K (kE e x) st')
  (h0:Bb live names st=H (Bb live names st) s0:=by kernel_rfl) (hl:XX x=true:=by kernel_rfl) (hh:(Hf.all λx=>Bl x.1 names)=true:=by kernel_rfl):GG P Γ K x st:=tB h λy hy h=>gL q hy live names H KX kb (ko y h) h0 hl hh
theorem tU{x:Oy}{st:St}{n:Nat}{H:List (Nat×Own)}(q:RgQ P Γ n H)(live names:List Nat){O:Prop}(hO:O)
  (k:GG P Γ K (rG x) (rH P (Spec P) n [] live names x st []))
  (h:pE (pC P (Spec P) n [] live names x st [])=some (O,true):=by kernel_rfl) (hh:(H.all λx=>Bl x.1 names)=true:=by kernel_rfl):GG P Γ K x st:=gR q live names [] [] hO k h hh
theorem tT{x:Oy}{st:St}{n:Nat}{H:List (Nat×Own)}(q:RgQ P Γ n H)(live names:List Nat)(rs:List Vx){O:Prop}(hO:O)
  (k:GG P Γ K (rG x) (rH P (Spec P) n [] live names x st rs))
  (h:pE (pC P (Spec P) n [] live names x st rs)=some (O,true):=by kernel_rfl) (hh:(H.all λx=>Bl x.1 names)=true:=by kernel_rfl):GG P Γ K x st:=gR q live names [] rs hO k h hh
theorem tW{x:Oy}{st:St}{n:Nat}{H:List (Nat×Own)}(q:RgQ P Γ n H)(live names live2 names2:List Nat)
  (k:GG P Γ K (rG (rG x)) (rH P (Spec P) n [] live2 names2 (rG x) (rH P (Spec P) n [] live names x st []) []))
  (h:pE (pC P (Spec P) n [] live names x st [])=some (True,true):=by kernel_rfl) (hh:(H.all λx=>Bl x.1 names)=true:=by kernel_rfl)
  (h2:pE (pC P (Spec P) n [] live2 names2 (rG x) (rH P (Spec P) n [] live names x st []) [])=some (True,true):=by kernel_rfl) (hh2:(H.all λx=>Bl x.1 names2)=true:=by kernel_rfl):GG P Γ K x st:=Af q live names (Af q live2 names2 k h2 hh2) h hh
end
theorem Mh{R:Prop}(g:Bool)(r:R):(g=true->g=true)/\((g=true->g=true)/\(R)):=⟨id,⟨id,r⟩⟩
theorem Yu{R:Prop}(g:Bool)(r:R):(g=true->g=true)/\((g=true->g=true)/\((g=true->g=true)/\(R))):=⟨id,⟨id,⟨id,r⟩⟩⟩
theorem eP{R:Prop}(g:Bool)(r:R):(g=true->g=true)/\((g=true->g=true)/\((g=true->g=true)/\((g=true->g=true)/\(R)))):=⟨id,⟨id,⟨id,⟨id,r⟩⟩⟩⟩
theorem uG{R:Prop}(g:Bool)(r:R):(g=true->g=true)/\((g=true->g=true)/\((g=true->g=true)/\((g=true->g=true)/\((g=true->g=true)/\(R))))):=⟨id,⟨id,⟨id,⟨id,⟨id,r⟩⟩⟩⟩⟩
theorem yR{R:Prop}(g:Bool)(r:R):(g=true->g=true)/\((g=true->g=true)/\((g=true->g=true)/\((g=true->g=true)/\((g=true->g=true)/\((g=true->g=true)/\(R)))))):=⟨id,⟨id,⟨id,⟨id,⟨id,⟨id,r⟩⟩⟩⟩⟩⟩
theorem zH{R:Prop}(g:Bool)(r:R):(g=true->g=true)/\((g=true->g=true)/\((g=true->g=true)/\((g=true->g=true)/\((g=true->g=true)/\((g=true->g=true)/\((g=true->g=true)/\(R))))))):=⟨id,⟨id,⟨id,⟨id,⟨id,⟨id,⟨id,r⟩⟩⟩⟩⟩⟩⟩
theorem zI{R:Prop}(g:Bool)(r:R):(g=true->g=true)/\((g=true->g=true)/\((g=true->g=true)/\((g=true->g=true)/\((g=true->g=true)/\((g=true->g=true)/\((g=true->g=true)/\((g=true->g=true)/\(R)))))))):=⟨id,⟨id,⟨id,⟨id,⟨id,⟨id,⟨id,⟨id,r⟩⟩⟩⟩⟩⟩⟩⟩
theorem zJ{R:Prop}(g:Bool)(r:R):(g=true->g=true)/\((g=true->g=true)/\((g=true->g=true)/\((g=true->g=true)/\((g=true->g=true)/\((g=true->g=true)/\((g=true->g=true)/\((g=true->g=true)/\((g=true->g=true)/\(R))))))))):=⟨id,⟨id,⟨id,⟨id,⟨id,⟨id,⟨id,⟨id,⟨id,r⟩⟩⟩⟩⟩⟩⟩⟩⟩
theorem dW{p0 p1 R:Prop}(a0:p0)(a1:p1)(r:R):p0/\p1/\R:=⟨a0,a1,r⟩
theorem c2{p0 p1:Prop}(a0:p0)(a1:p1):p0/\p1/\True:=⟨a0,a1,trivial⟩
theorem UF{p0 p1 p2 R:Prop}(a0:p0)(a1:p1)(a2:p2)(r:R):p0/\p1/\p2/\R:=⟨a0,a1,a2,r⟩
theorem c3{p0 p1 p2:Prop}(a0:p0)(a1:p1)(a2:p2):p0/\p1/\p2/\True:=⟨a0,a1,a2,trivial⟩
theorem yP{p0 p1 p2 p3 R:Prop}(a0:p0)(a1:p1)(a2:p2)(a3:p3)(r:R):p0/\p1/\p2/\p3/\R:=⟨a0,a1,a2,a3,r⟩
theorem c4{p0 p1 p2 p3:Prop}(a0:p0)(a1:p1)(a2:p2)(a3:p3):p0/\p1/\p2/\p3/\True:=⟨a0,a1,a2,a3,trivial⟩
theorem c5{p0 p1 p2 p3 p4:Prop}(a0:p0)(a1:p1)(a2:p2)(a3:p3)(a4:p4):p0/\p1/\p2/\p3/\p4/\True:=⟨a0,a1,a2,a3,a4,trivial⟩
theorem c6{p0 p1 p2 p3 p4 p5:Prop}(a0:p0)(a1:p1)(a2:p2)(a3:p3)(a4:p4)(a5:p5):p0/\p1/\p2/\p3/\p4/\p5/\True:=⟨a0,a1,a2,a3,a4,a5,trivial⟩
theorem zG{p0 p1 p2 p3 p4 p5 p6 R:Prop}(a0:p0)(a1:p1)(a2:p2)(a3:p3)(a4:p4)(a5:p5)(a6:p6)(r:R):p0/\p1/\p2/\p3/\p4/\p5/\p6/\R:=⟨a0,a1,a2,a3,a4,a5,a6,r⟩
theorem c7{p0 p1 p2 p3 p4 p5 p6:Prop}(a0:p0)(a1:p1)(a2:p2)(a3:p3)(a4:p4)(a5:p5)(a6:p6):p0/\p1/\p2/\p3/\p4/\p5/\p6/\True:=⟨a0,a1,a2,a3,a4,a5,a6,trivial⟩
theorem yy{p0 p1 p2 p3 p4 p5 p6 p7 R:Prop}(a0:p0)(a1:p1)(a2:p2)(a3:p3)(a4:p4)(a5:p5)(a6:p6)(a7:p7)(r:R):p0/\p1/\p2/\p3/\p4/\p5/\p6/\p7/\R:=⟨a0,a1,a2,a3,a4,a5,a6,a7,r⟩
theorem c8{p0 p1 p2 p3 p4 p5 p6 p7:Prop}(a0:p0)(a1:p1)(a2:p2)(a3:p3)(a4:p4)(a5:p5)(a6:p6)(a7:p7):p0/\p1/\p2/\p3/\p4/\p5/\p6/\p7/\True:=⟨a0,a1,a2,a3,a4,a5,a6,a7,trivial⟩
theorem xV{p0 p1 p2 p3 p4 p5 p6 p7 p8 R:Prop}(a0:p0)(a1:p1)(a2:p2)(a3:p3)(a4:p4)(a5:p5)(a6:p6)(a7:p7)(a8:p8)(r:R):p0/\p1/\p2/\p3/\p4/\p5/\p6/\p7/\p8/\R:=⟨a0,a1,a2,a3,a4,a5,a6,a7,a8,r⟩
theorem c9{p0 p1 p2 p3 p4 p5 p6 p7 p8:Prop}(a0:p0)(a1:p1)(a2:p2)(a3:p3)(a4:p4)(a5:p5)(a6:p6)(a7:p7)(a8:p8):p0/\p1/\p2/\p3/\p4/\p5/\p6/\p7/\p8/\True:=⟨a0,a1,a2,a3,a4,a5,a6,a7,a8,trivial⟩
structure FP(c:List AV)(o N sz:Nat)(f:Nat->List AV):Prop where
 get:∀ i,i<N->(c.drop (o+i*sz)).take sz=f i
theorem HD{N sz:Nat}{f:Nat->List AV}{rest:List AV}(hl:∀ i,i<N->(f i).length=sz):FP (Hg N f++rest) 0 N sz f:=⟨λi hi=>by
 have h:=eO hl i hi;have hl':=Ii hl;have h1:(i+1)*sz<=N*sz:=Dz _ hi;rw[Fg]at h1
 rw[G8,List.drop_append_of_le_length (by omega),List.take_append_of_le_length (by rw[BF];omega),h]⟩
theorem QL{c0 c:List AV}{o k N sz:Nat}{f:Nat->List AV}(hk:c0.length=k)(h:FP c o N sz f):FP (c0++c) (k+o) N sz f:=⟨λi hi=>by
 rw[<- h.get i hi,<- hk,T8,<- List.drop_drop,List.drop_left]⟩
theorem iX{c:List AV}{o N sz:Nat}{f:Nat->List AV}{i:Int}(h:FP c o N sz f)(hi:Bd i N):AVle (.agg ((c.drop (o+i.toNat*sz)).take sz)) (.agg (f i.toNat)):=by
 rw[h.get _ (Ha hi)];exact .refl _
theorem HF{c:List AV}{o N:Nat}{f:Nat->List AV}{i:Int}{x:AV}(h:FP c o N 1 f)(hi:Bd i N)(hx:f i.toNat=[x]):AVle (c.getD (o+i.toNat*1) .any) x:=by
 have:=h.get _ (Ha hi);rw[hx]at this
 have e:c.getD (o+i.toNat*1) .any=((c.drop (o+i.toNat*1)).take 1).getD 0 .any:=by
  simp[Sq]
 rw[e,this];exact .refl _
theorem Xy{o s N L:Nat}{i:Int}(hi:Bd i N)(h:Nat.ble (o+N*s) L=true):o+i.toNat*s+s<=L:=by
 have h1:(i.toNat+1)*s<=N*s:=Dz _ (Ha hi);rw[Fg]at h1;have:=K0 h;omega
theorem HE{o N L:Nat}{i:Int}(hi:Bd i N)(h:Nat.ble (o+N*1) L=true):o+i.toNat*1<L:=Xy hi h
theorem OG{l:List Nat}{f g:Nat->List AV}(h:∀ k,k∈l->f k=g k):l.flatMap f=l.flatMap g:=by
 induction l with
 | nil=>rfl
 | cons k l ih=>rw[R7,R7,h k (zzL38 ..),ih λj hj=>h j (zzL21 _ hj)]
theorem GW{N sz i:Nat}{f f':Nat->List AV}{cs rest:List AV}(hl:∀ i,i<N->(f i).length=sz)(hi:i<N)(hc:cs.length=sz)(e1:f' i=cs)(e2:∀ k,k<N->k≠i->f' k=f k) :
  (Hg N f++rest).take (0+i*sz)++cs++(Hg N f++rest).drop (0+i*sz+cs.length)=Hg N f'++rest:=by
 have hF:=Ii hl;have h1:(i+1)*sz<=N*sz:=Dz _ hi;rw[Fg]at h1
 have hsplit:∀ g:Nat->List AV,Hg N g=Hg i g++(g i++(List.range' (i+1) (N-(i+1))).flatMap g):=λg=>by
  unfold Hg
  have:List.range N=List.range i++(i::List.range' (i+1) (N-(i+1))):=by
   rw[P8,P8,show i::List.range' (i+1) (N-(i+1))=List.range' i (N-(i+1)+1) from rfl,show List.range' i (N-(i+1)+1)=List.range' (0+1*i) (N-(i+1)+1) by simp,List.range'_append]
   congr 1
   omega
  rw[this,List.flatMap_append,R7]
 have ha:Hg i f'=Hg i f:=by
  unfold Hg;exact OG λk hk=>e2 k (by have:=zzL44.1 hk;omega) (by have:=zzL44.1 hk;omega)
 have hb:(List.range' (i+1) (N-(i+1))).flatMap f'=(List.range' (i+1) (N-(i+1))).flatMap f:=
  OG λk hk=>e2 k (by have:=List.mem_range'.1 hk;omega) (by have:=List.mem_range'.1 hk;omega)
 have hil:=Ii (n:=i) (f:=f) (sz:=sz) λk hk=>hl k (by omega);rw[hsplit f,hsplit f',e1,ha,hb,G8];rw[Qa,Qa,<- hil,List.take_left',Qa,Qa,Qa]
 ·congr 1
  congr 1
  rw[hc,<- hl i hi,<- List.drop_drop,List.drop_left,List.drop_left]
 ·rfl
theorem GX{c0 X X' cs:List AV}{k o j n:Nat}(hk:c0.length=k)(h:X.take (o+j)++cs++X.drop (o+j+n)=X'):(c0++X).take (k+o+j)++cs++(c0++X).drop (k+o+j+n)=c0++X':=by
 subst hk;rw[<- h,T8,List.take_append,List.drop_append];simp only[Qa];rw[List.take_of_length_le (by omega),show c0.length+(o+j)-c0.length=o+j by omega,List.drop_of_length_le (by omega),show c0.length+(o+j)+n-c0.length=o+j+n by omega]
 rfl
theorem Ul{a b c d:List AV}(h:AVleL a b)(k:AVleL c d):AVleL (a++c) (b++d):=by
 induction h with
 | nil=>exact k
 | cons h _ ih=>exact .cons h ih
theorem nB{a b:List AV}(h:AVleL a b):∀ n,AVleL (a.take n) (b.take n):=by
 induction h with
 | nil=>intro n;simp;exact .nil
 | cons h _ ih=>intro n;cases n with|zero=>exact .nil|succ n=>exact .cons h (ih n)
theorem nA{a b:List AV}(h:AVleL a b):∀ n,AVleL (a.drop n) (b.drop n):=by
 induction h with
 | nil=>intro n;simp;exact .nil
 | cons h t ih=>intro n;cases n with|zero=>exact .cons h t|succ n=>exact ih n
theorem GE{f g:Nat->List AV}{N:Nat}(h:∀ i,AVleL (f i) (g i)):AVleL (Hg N f) (Hg N g):=by
 unfold Hg
 induction List.range N with
 | nil=>exact .nil
 | cons k l ih=>rw[R7,R7];exact Ul (h k) ih
def Yt:List (Nat->Bool)->List AV->List AV
 | [],l=>l
 | k::ks,l=>AV.eraseAll k (Yt ks l)
theorem bU(ks:List (Nat->Bool))(a b:List AV):Yt ks (a++b)=Yt ks a++Yt ks b:=by
 induction ks with
 | nil=>rfl
 | cons k ks ih=>unfold Yt;rw[ih,L7]
theorem ji(ks:List (Nat->Bool))(a:List AV)(n:Nat):Yt ks (a.take n)=(Yt ks a).take n:=by
 induction ks with
 | nil=>rfl
 | cons k ks ih=>unfold Yt;rw[ih,SV]
theorem jg(ks:List (Nat->Bool))(a:List AV)(n:Nat):Yt ks (a.drop n)=(Yt ks a).drop n:=by
 induction ks with
 | nil=>rfl
 | cons k ks ih=>unfold Yt;rw[ih,DD]
theorem jh(k:Nat->Bool)(ks:List (Nat->Bool))(a:List AV):Yt ks (AV.eraseAll k a)=Yt (ks++[k]) a:=by
 induction ks with
 | nil=>rfl
 | cons j ks ih=>exact Ce (AV.eraseAll j) ih
theorem IE{a:List AV}(h:∀ k,AV.eraseAll k a=a)(ks:List (Nat->Bool)):Yt ks a=a:=by
 induction ks with
 | nil=>rfl
 | cons k ks ih=>unfold Yt;rw[ih,h]
theorem U9{a b:List AV}(h:∀ k,AV.eraseAll k a=a)(h':∀ k,AV.eraseAll k b=b)(k:Nat->Bool):AV.eraseAll k (a++b)=a++b:=by rw[L7,h,h']
theorem Uk{N:Nat}{f:Nat->List AV}(h:∀ i k,AV.eraseAll k (f i)=f i)(k:Nat->Bool):AV.eraseAll k (Hg N f)=Hg N f:=by
 unfold Hg
 induction List.range N with
 | nil=>rfl
 | cons i l ih=>rw[R7,L7,h,ih]
def tc(F G:Nat->List AV):Prop:=∀ ks k,k<1->AVleL (Yt ks (F k)) (G k)
theorem Cd{F G:Nat->List AV}(h:tc F G):∀ k,k<1->AVleL (F k) (G k):=h []
theorem Ay{F G:Nat->List AV}{keep:Nat->Bool}(h:tc F G):tc (λi=>AV.eraseAll keep (F i)) G:=λks k hk=>by rw[jh];exact h _ k hk
theorem A5{c:List AV}(h:∀ k,AV.eraseAll k c=c):tc (λ_=>c) (λ_=>c):=λks k _=>by rw[IE h];exact .refl _
theorem EV{F G:Nat->List AV}{j:Nat}{cs cs' R:List AV}(h:tc F G)(hcs:∀ k,AV.eraseAll k cs=cs)(hc:AVleL cs cs')(e:(G 0).take j++cs'++(G 0).drop (j+cs'.length)=R):tc (Ei F 0 j cs) (λ_=>R):=λks k hk=>by
 obtain rfl:k=0:=by omega
 rw[<- e]
 show AVleL (Yt ks ((F 0).take j++cs++(F 0).drop (j+cs.length))) _
 rw[hc.length,bU,bU,ji,jg,IE hcs];exact Ul (Ul (nB (h ks 0 hk) _) hc) (nA (h ks 0 hk) _)
theorem iY{Z R:List AV}{S:Nat}(hz:∀ k,AV.eraseAll k Z=Z)(h:AVleL Z R)(hs:Z.length=S):tc (λi=>(Z.drop (i*S)).take S) (λ_=>R):=λks k hk=>by
 obtain rfl:k=0:=by omega
 show AVleL (Yt ks ((Z.drop (0*S)).take S)) R
 rw[Nat.zero_mul,Hw,<- hs,DW,IE hz];exact h
theorem YZ{α:Type}{e:α->List AV}{N i:Nat}{d v:α}{l:List α}(hi:i<N):e ((Fz N d l i v).getD i d)=e v:=by
 rw[Lr hi,Nat.beq_refl];rfl
theorem NB{α:Type}{e:α->List AV}{N i:Nat}{d v:α}{l:List α}:∀ k,k<N->k≠i->e ((Fz N d l i v).getD k d)=e (l.getD k d):=λk hk hn=>by
 rw[Lr hk]
 cases h:Nat.beq k i with
 | true=>exact absurd (Cq h) hn
 | false=>rfl
open Go.Shelf
def bg:Go.Shelf.Ren:=⟨fun|189=>157|125=>181|257=>180|128=>205|129=>206|294=>197|295=>198|296=>199|297=>200|298=>201|299=>202|216=>193|300=>203|301=>204|328=>220|329=>221|330=>222|331=>223|332=>224|215=>218|343=>230|n=>n,fun|28=>33|3=>3|46=>53|0=>0|51=>236|53=>23|4=>4|183=>231|182=>230|131=>217|5=>5|9=>9|218=>244|222=>248|228=>252|229=>133|n=>n,fun|n=>n⟩
theorem iA:Go.Proofs.Lays.n189 Tryz.prog bg:={
 mixed:=by kernel_rfl
 f125:=Tryz.func181.trans (Ce some (by kernel_rfl))
 f128:=Tryz.func205.trans (Ce some (by kernel_rfl))
 f129:=Tryz.func206.trans (Ce some (by kernel_rfl))
 f189:=Tryz.func157.trans (Ce some (by kernel_rfl))
 f215:=Tryz.func218.trans (Ce some (by kernel_rfl))
 f216:=Tryz.func193.trans (Ce some (by kernel_rfl))
 f257:=Tryz.func180.trans (Ce some (by kernel_rfl))
 f294:=Tryz.func197.trans (Ce some (by kernel_rfl))
 f295:=Tryz.func198.trans (Ce some (by kernel_rfl))
 f296:=Tryz.func199.trans (Ce some (by kernel_rfl))
 f297:=Tryz.func200.trans (Ce some (by kernel_rfl))
 f298:=Tryz.func201.trans (Ce some (by kernel_rfl))
 f299:=Tryz.func202.trans (Ce some (by kernel_rfl))
 f300:=Tryz.func203.trans (Ce some (by kernel_rfl))
 f301:=Tryz.func204.trans (Ce some (by kernel_rfl))
 f328:=Tryz.func220.trans (Ce some (by kernel_rfl))
 f329:=Tryz.func221.trans (Ce some (by kernel_rfl))
 f330:=Tryz.func222.trans (Ce some (by kernel_rfl))
 f331:=Tryz.func223.trans (Ce some (by kernel_rfl))
 f332:=Tryz.func224.trans (Ce some (by kernel_rfl))
 f343:=Tryz.func230.trans (Ce some (by kernel_rfl))
 t0:=Tryz.underlying0
 a0:=Tryz.isAgg0
 z0:=Tryz.sizeOf0
 v0:=Tryz.zeroValue0
 t3:=Tryz.underlying3
 a3:=Tryz.isAgg3
 z3:=Tryz.sizeOf3
 v3:=Tryz.zeroValue3
 t4:=Tryz.underlying4
 a4:=Tryz.isAgg4
 z4:=Tryz.sizeOf4
 v4:=Tryz.zeroValue4
 t5:=Tryz.underlying5
 a5:=Tryz.isAgg5
 z5:=Tryz.sizeOf5
 v5:=Tryz.zeroValue5
 t9:=Tryz.underlying9
 a9:=Tryz.isAgg9
 z9:=Tryz.sizeOf9
 v9:=Tryz.zeroValue9
 t28:=Tryz.underlying33
 a28:=Tryz.isAgg33
 z28:=Tryz.sizeOf33
 v28:=Tryz.zeroValue33
 t46:=Tryz.underlying53
 a46:=Tryz.isAgg53
 z46:=Tryz.sizeOf53
 v46:=Tryz.zeroValue53
 t51:=Tryz.underlying236
 a51:=Tryz.isAgg236
 z51:=Tryz.sizeOf236
 v51:=Tryz.zeroValue236
 t53:=Tryz.underlying23
 a53:=Tryz.isAgg23
 z53:=Tryz.sizeOf23
 v53:=Tryz.zeroValue23
 t131:=Tryz.underlying217
 a131:=Tryz.isAgg217
 z131:=Tryz.sizeOf217
 v131:=Tryz.zeroValue217
 t182:=Tryz.underlying230
 a182:=Tryz.isAgg230
 z182:=Tryz.sizeOf230
 v182:=Tryz.zeroValue230
 t183:=Tryz.underlying231
 a183:=Tryz.isAgg231
 z183:=Tryz.sizeOf231
 v183:=Tryz.zeroValue231
 t218:=Tryz.underlying244
 a218:=Tryz.isAgg244
 z218:=Tryz.sizeOf244
 v218:=Tryz.zeroValue244
 t222:=Tryz.underlying248
 a222:=Tryz.isAgg248
 z222:=Tryz.sizeOf248
 v222:=Tryz.zeroValue248
 t228:=Tryz.underlying252
 a228:=Tryz.isAgg252
 z228:=Tryz.sizeOf252
 v228:=Tryz.zeroValue252
 t229:=Tryz.underlying133
 a229:=Tryz.isAgg133
 z229:=Tryz.sizeOf133
 v229:=Tryz.zeroValue133 }
def SX:Go.Shelf.Ren:=⟨fun|15=>156|n=>n,fun|22=>33|3=>3|4=>4|n=>n,fun|n=>n⟩
theorem II:Go.Proofs.Lays2.n15 Tryz.prog SX:={
 mixed:=by kernel_rfl
 f15:=Tryz.func156.trans (Ce some (by kernel_rfl))
 t3:=Tryz.underlying3
 a3:=Tryz.isAgg3
 z3:=Tryz.sizeOf3
 v3:=Tryz.zeroValue3
 t4:=Tryz.underlying4
 a4:=Tryz.isAgg4
 z4:=Tryz.sizeOf4
 v4:=Tryz.zeroValue4
 t22:=Tryz.underlying33
 a22:=Tryz.isAgg33
 z22:=Tryz.sizeOf33
 v22:=Tryz.zeroValue33
 i3:=by kernel_rfl }
def SY:Go.Shelf.Ren:=⟨fun|20=>158|n=>n,fun|22=>33|3=>3|4=>4|0=>0|n=>n,fun|n=>n⟩
theorem UR:Go.Proofs.Lays2.n20 Tryz.prog SY:={
 mixed:=by kernel_rfl
 f20:=Tryz.func158.trans (Ce some (by kernel_rfl))
 t0:=Tryz.underlying0
 a0:=Tryz.isAgg0
 z0:=Tryz.sizeOf0
 v0:=Tryz.zeroValue0
 t3:=Tryz.underlying3
 a3:=Tryz.isAgg3
 z3:=Tryz.sizeOf3
 v3:=Tryz.zeroValue3
 t4:=Tryz.underlying4
 a4:=Tryz.isAgg4
 z4:=Tryz.sizeOf4
 v4:=Tryz.zeroValue4
 t22:=Tryz.underlying33
 a22:=Tryz.isAgg33
 z22:=Tryz.sizeOf33
 v22:=Tryz.zeroValue33
 i3:=by kernel_rfl }
open Go.Sort
section
variable {I:Nat->Nat->Prop} {θ:Nat->Option (Nat×Nat)} {w w':World}
theorem fD(I:Nat->Nat->Prop)(θ:Nat->Option (Nat×Nat))(w:World):K2 I (Ag []) θ w:=
 ⟨(λ_ _ _ h=>by cases h),(λ_ _ _ _ h=>by cases h),(λ_ _ _ _ _ h=>(h rfl).elim),(λ_ _ _ _ _ h=>by cases h),(λ_ _ h=>by cases h),(λ_ _ _ h=>by cases h)⟩
theorem nw{own:Nat->Option Own}{zs:Array Value}{x:AV}(h:RepL I own θ w zs.toList [x]):∃ v,zs = #[v]/\Rep I own θ w v x:=by
 obtain⟨l⟩:=zs
 cases h with
 | cons h1 h2=>cases h2;exact⟨_,rfl,h1⟩
theorem DB(hb:Below w.heap.size w w')(hval:∀ b o,I b o->∃ u,w.cell? ⟨b,o,none⟩=some u){N:Nat->Nat->Prop}(hN:∀ b o,N b o->w.heap.size<=b/\∃ u,w'.cell? ⟨b,o,none⟩=some u) :
  Chg (Ag []) θ I w (Ag []) θ (λb o=>I b o\/N b o) w':=
 have hcell:∀ b o,I b o->w'.cell? ⟨b,o,none⟩=w.cell? ⟨b,o,none⟩:=λb o hi=>by
  obtain⟨u,hu⟩:=hval b o hi;exact LO (a:=⟨b,o,none⟩) (hb.block b (Ri hu))
 {imm:=λ_ _ h=>.inl h,cell:=hcell,le:=λ_ _ h=>(by cases h),rel:=fD _ _ _,
  valid:=λb o hi=>by
   rcases hi with hi|hi
   ·obtain⟨u,hu⟩:=hval b o hi;exact⟨u,(hcell b o hi).trans hu⟩
   ·exact(hN b o hi).2,
  os:=hb.os,tape:=hb.tape,output:=hb.output,drawn:=λh=>h.elim,grow:=hb.size,frame:=λb hlt _=>hb.block b hlt,new:=λ_ _ _ h=>(h rfl).elim,
  immNew:=λb o hi=>by
   rcases hi with hi|hi
   ·exact .inl hi
   ·exact .inr (.inl (hN b o hi).1) }
end
theorem FT{w W:World}{g n:Nat}{os:Array Obj}{d:Array Int}(hb:Below w.heap.size w W)(hg:w.heap.size<=g):Below w.heap.size w (grow (putRow (Value.int .i64) (Sort.ahead W n) g 0 d) os):=by
 have k:=grownBy_sortedI (w:=W) (g:=g) (n:=n) (os:=os) d;refine hb.trans ⟨k.os,k.tape,k.output,k.size,λb hlt=>k.block b (Nat.lt_of_lt_of_le hlt hb.size) (λe=>?_)⟩;have:=OI e;omega
def WV(w W:World)(g cap n:Nat)(zs:List Int):Prop:=
 Below w.heap.size w W/\w.heap.size<=g/\∃ cur,W.heap[g]?=some (.cells cur 3 (0,0))/\n<=cap/\cap<=maxLen/\cur.size=cap/\cur.toList.take zs.length=zs.map (Value.int .i64)/\zs.length=n
theorem iQ{w W:World}{v:Value}{n:Nat}{zs:List Int}(h:W.ownsRow w.heap.size 3 1 v n (zs.map (Value.int .i64)))(hne:v≠.slice none 0 0)(hb:Below w.heap.size w W):∃ g cap,v = .slice (some ⟨g,0,none⟩) n cap/\WV w W g cap n zs:=by
 have hl:zs.length=n:=by have:=h.1;simpa using this
 rcases h.2 with⟨rfl,_⟩|⟨g,cap,cur,rfl,hg,hcur,hcap,hmax,hsz,ht⟩
 ·exact(hne rfl).elim
 ·rw[X3]at hsz ht;exact⟨g,cap,rfl,hb,hg,cur,hcur,hcap,hmax,hsz,by rw[hl];exact ht,hl⟩
theorem mV(ad:Addr)(c:Nat)(w:World):Calls Tryz.prog 156 #[.slice (some ad) 0 c] w λe W=>∃ g cap,e = .returned (.slice (some ⟨g,0,none⟩) 0 cap)/\WV w W g cap 0 []:=
 (Any.slices_Clone_int_zero II ad c w).mono λe W ⟨v,he,hown,hne,hb⟩=>by
  obtain⟨g,cap,rfl,h⟩:=iQ (zs:=[]) hown hne hb;exact⟨g,cap,he,h⟩
theorem qP(b off n c:Nat)(zs:List Int)(w:World)(hz:zs.length=n)(hbig:n<=17592186044416)(hc:∀ j,j<n->w.cell? ⟨b,off+j,none⟩=some (.int .i64 (zs.getD j 0))) :
  Calls Tryz.prog 156 #[.slice (some ⟨b,off,none⟩) n c] w λe W=>∃ g cap,e = .returned (.slice (some ⟨g,0,none⟩) n cap)/\WV w W g cap n zs:=
 (Any.slices_Clone_int II b off n c zs w (by omega) (by omega) (λj hj=>hc j (by omega))).mono λe W ⟨v,he,hown,hne,hb⟩=>by
  rw[show zs.take n=zs by rw[<- hz];exact DW ..]at hown;obtain⟨g,cap,rfl,h⟩:=iQ hown hne hb;exact⟨g,cap,he,h⟩
theorem t8{w W:World}{g cap n:Nat}{zs:List Int}(h:WV w W g cap n zs)(hbig:n<=17592186044416):Calls Tryz.prog 157 #[.slice (some ⟨g,0,none⟩) n cap] W λe W2=>e = .returned (.tuple #[])/\WV w W2 g cap n (zs.mergeSort λx y=>decide (x<=y)):=by
 obtain⟨hb,hg,cur,hcur,hcap,hmax,hsz,ht,rfl⟩:=h;refine(Any.slices_Sort_int iA g 0 cap zs W (holds_of_blockI hcur ht) (GB hcur) (by omega)).mono λe W2 ⟨he,q,os,hW⟩=>⟨he,?_⟩;subst hW;have hl:(zs.mergeSort λx y=>decide (x<=y)).length=zs.length:=List.length_mergeSort ..;have b2:=FT (n:=q) (os:=os) (d:=(zs.mergeSort λx y=>decide (x<=y)).toArray) hb hg;exact⟨b2,hg,_,heap_sortedI _ hcur,hcap,hmax,by simp[putCells,hsz],take_putCellsI cur _ (by omega),hl⟩
theorem jb{w W:World}{g cap n:Nat}{zs:List Int}(h:WV w W g cap n zs)(hbig:n<=17592186044416):Calls Tryz.prog 158 #[.slice (some ⟨g,0,none⟩) n cap] W λe W2=>e = .returned (.slice (some ⟨g,0,none⟩) (Lib.compact zs).length cap)/\WV w W2 g cap (Lib.compact zs).length (Lib.compact zs):=by
 obtain⟨hb,hg,cur,hcur,hcap,hmax,hsz,ht,rfl⟩:=h;refine(Any.slices_Compact_int UR g 0 cap zs W (holds_of_blockI hcur ht) (by omega) hcap).mono λe W2 ⟨he,q,hW⟩=>⟨he,?_⟩;subst hW;have hcl:=Lib.compact_length_le zs
 generalize Lib.compact zs=cs at hcl ⊢
 generalize hts:cs++List.replicate (zs.length-cs.length) (0:Int)=ts
 have htl:ts.length=zs.length:=by rw[<- hts,F1,T5];omega
 have b2:=FT (n:=q) (os:=#[]) (d:=ts.toArray) hb hg;have h2:=heap_sortedI (n:=q) (os:=#[]) ts.toArray hcur;rw[grow_empty]at b2 h2;have h3:=take_putCellsI cur ts (by omega);refine⟨b2,hg,_,h2,by omega,hmax,by simp[putCells,hsz],?_,rfl⟩;have:=Ce (List.take cs.length) h3;rw[List.take_take,Nat.min_eq_left (by omega),<- List.map_take,<- hts,List.take_left' rfl]at this;rw[<- hts];exact this
def pI(w w':World)(v:Value)(r:List Int):Prop:=
 (v = .slice none 0 0/\r=[])\/∃ g cap,v = .slice (some ⟨g,0,none⟩) r.length cap/\WV w w' g cap r.length r
set_option maxHeartbeats 4000000 in
set_option maxRecDepth 100000 in
theorem oM(a:Option Addr)(n c:Nat)(zs:List Int)(w:World)(hz:zs.length=n)(hn:a=none->n=0)(hbig:n<=17592186044416)
  (hc:0<n->∃ b off,a=some ⟨b,off,none⟩/\∀ j,j<n->w.cell? ⟨b,off+j,none⟩=some (.int .i64 (zs.getD j 0))) :
  Calls Tryz.prog 116 #[.slice a n c] w λe w'=>∃ v,e = .returned v/\Below w.heap.size w w'/\pI w w' v (Lib.compact (zs.mergeSort λx y=>decide (x<=y))):=by
 cases a with
 | none=>
  obtain rfl:=hn rfl;obtain rfl:zs=[]:=zzL112.1 hz
  have hr:Lib.compact (([]:List Int).mergeSort λx y=>decide (x<=y))=[]:=by simp[Lib.compact,Lib.compactUpTo]
  rw[hr];have h1:Calls Tryz.prog 156 #[.slice none 0 c] w λe w'=>e = .returned (.slice none 0 0)/\w'=w:=Any.slices_Clone_int_nil II 0 c w;have h2:Calls Tryz.prog 157 #[.slice none 0 0] w λe w'=>e = .returned (.tuple #[])/\w'=w:=Any.slices_Sort_int_none iA none 0 w;have h3:Calls Tryz.prog 158 #[.slice none 0 0] w λe w'=>e = .returned (.slice none 0 0)/\w'=w:=Any.slices_Compact_int_empty UR none 0 w
  go_enter Tryz.func116,Tryz.ntmps116
  go_wp2_with (first
   | (go_at_call 156;refine h1.mono ?_;rintro e W ⟨rfl,rfl⟩)
   | (go_at_call 157;refine h2.mono ?_;rintro e W ⟨rfl,rfl⟩)
   | (go_at_call 158;refine h3.mono ?_;rintro e W ⟨rfl,rfl⟩))
  go_ret
  exact⟨_,rfl,Below.refl _ _,.inl ⟨rfl,rfl⟩⟩
 | some ad=>
  have h1:Calls Tryz.prog 156 #[.slice (some ad) n c] w λe W=>∃ g cap,e = .returned (.slice (some ⟨g,0,none⟩) n cap)/\WV w W g cap n zs:=by
   by_cases h0:n=0
   ·subst h0;obtain rfl:zs=[]:=zzL112.1 hz;exact mV ad c w
   ·obtain⟨b,off,hab,hcell⟩:=hc (by omega);obtain rfl:=OI hab;exact qP b off n c zs w hz hbig hcell
  go_enter Tryz.func116,Tryz.ntmps116
  go_wp2_with (first
   | (go_at_call 156;refine h1.mono ?_;rintro e W ⟨g,cap,rfl,hO⟩)
   | (go_at_call 157;refine(t8 hO hbig).mono ?_;rintro e W2 ⟨rfl,hO2⟩)
   | (go_at_call 158;refine(jb hO2 hbig).mono ?_;rintro e W3 ⟨rfl,hO3⟩))
  go_ret
  exact⟨_,rfl,hO3.1,.inr ⟨_,_,rfl,hO3⟩⟩
def eR(x:Int):List Int->List Int
 | []=>[x]
 | y::l=>if x<=y then x::y::l else y::eR x l
def my:List Int->List Int
 | []=>[]
 | x::l=>eR x (my l)
theorem insI_perm(x:Int):∀ l,(eR x l).Perm (x::l)
 | []=>.refl _
 | y::l=>by
  unfold eR
  split
  ·exact .refl _
  ·exact((insI_perm x l).cons y).trans (.swap x y l)
theorem g9{x:Int}:∀{l:List Int},l.Pairwise (·<=·)->(eR x l).Pairwise (·<=·)
 | [],_=>by simp[eR]
 | y::l,h=>by
  have h':=zzL104.1 h;unfold eR
  split
  ·rename_i hxy
   exact zzL104.2 ⟨λz hz=>by
    rcases zzL26.1 hz with rfl|hz
    ·exact hxy
    ·exact Int.le_trans hxy (h'.1 z hz),h⟩
  ·rename_i hxy
   refine zzL104.2 ⟨λz hz=>?_,g9 h'.2⟩;rcases zzL26.1 ((insI_perm x l).mem_iff.1 hz) with rfl|hz
   ·omega
   ·exact h'.1 z hz
theorem UQ:∀ l,(my l).Perm l
 | []=>.refl _
 | x::l=>(insI_perm x _).trans ((UQ l).cons x)
theorem h9:∀ l,(my l).Pairwise (·<=·)
 | []=>.nil
 | x::l=>g9 (h9 l)
theorem hZ(l:List Int):my l=l.mergeSort λx y=>decide (x<=y):=by
 refine List.Perm.eq_of_pairwise (le:=(·<=·)) (λa b _ _ h1 h2=>Int.le_antisymm h1 h2) (h9 l) ?_ ((UQ l).trans (List.mergeSort_perm l _).symm);have:=List.pairwise_mergeSort (le:=λ(x y:Int)=>decide (x<=y)) (λa b c h1 h2=>by simp at *;omega) (λa b=>by simp;omega) l
 exact this.imp λh=>by simpa using h
def HK(l:List Int):Option (List Int):=Bf (l.length<=17592186044416) (some (Lib.compact (my l)))
theorem fY(l r:List Int)(h:HK l=some r):Spec Tryz.prog 116 [AV.list 1 (λx=>[.int .i64 x]) (0:Int) l .none] [] (AV.list 1 (λx=>[.int .i64 x]) (0:Int) r .none) []:=by
 obtain⟨hlen,h⟩:=Jm h;rw[hZ]at h;obtain rfl:=OI h;refine⟨enters_of Tryz.func116 (by kernel_rfl) rfl,λw I θ zs hargs _ hval _=>?_⟩;obtain⟨v,rfl,hv⟩:=nw hargs;obtain⟨_,a,cap,us,rfl,hcap,hmax,hz,hnn,h1,hl,hr⟩:=hv.slice_val.slice_inv
 have hint:∀ i,i<l.length->us i = .int .i64 (l.getD i 0):=λi hi=>by
  have:=hr i 0 hi (by omega);rw[X3,Qn]at this;have h2:RepV I w (us i) (.int .i64 (l.getD i 0)):=this;exact Rep.int_inv (own:=Ag []) (θ:=θ) (.val _ _ h2)
 refine(oM a l.length cap l w rfl (λha=>by have:=hnn ha;omega) hlen (λhp=>?_)).mono λe w' ⟨v,he,hb,hout⟩=>?_
 ·obtain⟨b,rfl,hs,_,hcell⟩:=hz hp;obtain⟨blk,off,spot⟩:=b;simp only at hs hcell;subst hs;exact⟨blk,off,rfl,λj hj=>by rw[hcell j (by omega),hint j hj]⟩
 ·generalize Lib.compact (l.mergeSort λx y=>decide (x<=y))=r at hout ⊢
  rcases hout with⟨rfl,rfl⟩|⟨g,cap',rfl,_,hg,cur,hcur,hc1,hc2,hc3,htake,_⟩
  ·exact⟨_,_,θ,he,DB hb hval (N:=λ_ _=>False) (λ_ _ h=>h.elim),.val _ _ (.slice none 0 0 1 _ (λ_=>undef) (zzL7 _) (Qo _) (λh=>by cases h) (λ_=>rfl) (λj hj=>by simp at hj) (λi hi=>by cases hi) (λi c hi=>by cases hi))⟩
  ·have hcell:∀ j,j<r.length->w'.cell? ⟨g,j,none⟩=some (.int .i64 (r.getD j 0)):=λj hj=>by
    rw[Pc _ _ _ cur 3 (0,0) hcur]
    have h2:(cur.toList.take r.length)[j]?=(r.map (Value.int .i64))[j]?:=by rw[htake]
    rw[List.getElem?_take_of_lt hj,Array.getElem?_toList]at h2;rw[h2];simp[List.getD,hj]
   refine⟨_,_,θ,he,DB hb hval (N:=λb o=>b=g/\o<r.length) (λb o ⟨hbg,ho⟩=>⟨by omega,by subst hbg;exact⟨_,hcell o ho⟩⟩),.val _ _ (.slice (some ⟨g,0,none⟩) r.length cap' 1 _ (λj=>.int .i64 (r.getD j 0)) hc1 hc2 (λ_=>⟨⟨g,0,none⟩,rfl,rfl,λj hj=>.inr ⟨rfl,by simpa using hj⟩,λj hj=>by rw[G8];exact hcell j (by omega)⟩) (λh=>by cases h) (λ_ _=>rfl) (λ_ _=>rfl) (λi c hi hc=>?_))⟩
   obtain rfl:c=0:=by omega
   rw[X3,Qn];exact .int _ _
abbrev A0:=List Int
abbrev La:=List (List Int)
def I5:=[30000,37006,9100005]
def CX:=[(30000,30000),(37006,37006),(9100005,9100005)]
def I7:=[30000,37006]
def Sn:=[3,30000,37006,9100005]
def Ph:=[2,5,6,25,36007]
def Js:=[1,5,5003]
def Vu:=[6,30000,37006,9100005]
def Ib:=[1,3,4]
def dL:=[(30000,30000),(9100000,9100000),(9100001,9100001)]
def Ud:=[3,4,6,7,5700]
def Ym:=[(30000,30000),(37006,37006)]
def J8:=[1,3,4,5]
def Dg:=[2,3]
def J9:=[2,13,21]
def Qd:=[8,30000,37006]
def Mu:=[1,7,8,9]
def Yn:=[30000,37006,13000005]
def BN:=[3,4,6,7,5700,30000]
def Qp:=[2,3,4,6,7]
def HP:=[3,5,30000,37006,9100005]
def HQ:=[0,4,6,21,22,30,31,32]
def R9:=[1,3,4,5,6]
def HR:=[4,30000,9100000,9100001]
def EA:=[2,5,6,7,26,27,28]
def U6:=[2,7,77,70077]
def K8:=[37,75]
def Mv:=[1,5003]
def Wi:=[(34000,34000)]
def LP:=[5,30000,37006,9100005]
def ig:=[0,2,3,8,9,16,17,18,54,55,56,62,63,64]
def I8:=[0,1]
def ii:=[0,2,3,5,16,17,18,24,25,26,31,32,33]
def Sv:=[1,6,5003]
def Lu:=[3,14]
def WE:=[4,7,30000,9100000,9100001]
def EB:=[2,5,6,7,8,9]
def Pd:=[0,1,5]
def Yo:=[1,2,7,5005]
def SC:=[1,2,4,5,6,7,8,10]
def WF:=[3,9,30000,37006,9100005]
def HS:=[2,3,5300,34000]
def dG:=[3,7,10,11,12,17,18,19,25]
def K9:=[1,3]
def BO:=[2,5,6,7,8]
def dH:=[0,2,3,16,17,18,24,25,26]
def dI:=[0,2,3,16,17,18,54,55,56]
def Ua:=[2,33,59]
def ot:=[(30000,30000),(37006,37006),(13000005,9200005)]
def ou:=[(30000,30000),(37006,37006),(9300005,9200005)]
def U7:=[10,70010]
def ij:=[3,7,10,11,12,17,18,19,24,25]
def LQ:=[5,6,7,8,34000]
def SD:=[1,2,7,5005,5008]
def Wj:=[8,13,15]
def LS:=[1,5,7,11,12]
def HT:=[3,10,11,12]
def dJ:=[3,10,11,12,17,18,19]
def SE:=[2,35,37,46,51]
def SF:=[4,5,6,7,34000]
def N4:=[1,2]
def EC:=[4,5,34000]
def LT:=[1,7,8,9,10]
def WG:=[3,31,30000,37006]
def WH:=[1,5,7,11,12,13]
def dK:=[1,2,5,6,7,8,9,10]
def LU:=[1,6,7,8,9]
def ik:=[3,4,11,12,13,18,19,20]
def il:=[0,5,12,13,14,18,19,20]
def Wk:=[2,5,6]
def Wl:=[1,4,7]
def io:=[6,7,30000,37006,9100005]
def ip:=[1,5,7,11,12,13,14,15]
def SG:=[1,7,8,9,16]
def ED:=[0,21,22]
def Qq:=[4,5]
def Qr:=[7,8]
def WI:=[31,30000,37006]
def Qs:=[1,4]
def HU:=[1,3,5,6]
def WJ:=[2,3,4,6,7,8]
def WK:=[1,2,5,6,7,8]
def dM:=[0,2,3,16,17,18]
def LV:=[33,59,103]
def ov:=[0,4,6,21,22,30,31,32,33]
def ow:=[0,4,6,21,22,30,31,32,40]
def WL:=[0,5,8,9,10]
def oz:=[0,4,6,8,21,22,30,31,32]
def WM:=[1,5,72,5003]
def WN:=[4,5,6,34000]
def dN:=[2,3,7,8,9,10]
def dO:=[1,2,6,8,9,10]
def o5:=[4,6,30000,9100000,9100001]
def s4:=[(30000,30000),(37006,37006),(8,9200005)]
def iq:=[1,3,4,5,9,10,11]
def SH:=[1,3,7,17]
def EE:=[1,2,5]
def HV:=[0,1,10]
def WO:=[0,16,17,18]
def dP:=[0,2,4,7,8,9]
def WP:=[1,2,4,5,6]
def JY:=[1,5,7,5003]
def ZF:=[2,5,6,7,8,9,10]
def fc:=[6,8,30000,37006,9100005]
def RD:=[3,30000,37006]
def Qc:=[0,3]
def ZG:=[2,4,5,18,19,20]
def JZ:=[0,1,12,13]
def FD:=[0,2,3,4]
def ZH:=[1,3,4,5,6,7,8]
def RE:=[(30000,30000)]
def ZI:=[1,3,8,9,10,11]
def RF:=[4,5,7,34000]
def Rg:=[6,7]
def fe:=[2,3,4,6,7,8,11,66]
def RG:=[3,11,12,13]
def RH:=[0,12,13,14]
def RI:=[6,18,19,25]
def ff:=[2,3,4,6,7,8,9,10]
def RJ:=[0,2,4,7,8]
def RK:=[2,3,7,8,9]
def RL:=[1,3,5,6,7]
def RM:=[1,3,5,6,8]
def RN:=[1,3,4,5,9]
def fg:=[1,5,7,11,12,13,14]
def KA:=[2,5,6,7]
def KB:=[18,19,20]
def ZJ:=[14,17,10000305]
def Sk:=[1,8]
def fh:=[1,2,4,5,6,7,8,9]
def Sl:=[1,7]
def Vt:=[2,16]
def oa:=[2,5,6,7,9,10,26,27,28,44]
def FE:=[1,4,22]
def FF:=[1,3,17]
def RO:=[5,7,12,13]
def fi:=[30000,37006,9300005]
def T9:=[2,5]
def fj:=[2,3,4,6,7,8,11]
def KC:=[2,35,37]
def RP:=[2,3,34000]
def ZK:=[0,1,3,9,10]
def FG:=[0,3,4]
def fk:=[0,1,5,14,15,16]
def fm:=[2,3,4,6,7,8,9]
def FH:=[2,3,5]
def fo:=[1,2,4,5,6,7,8]
def FI:=[1,2,6]
def oc:=[2,5,6,7,9,10,26,27,28]
def od:=[4,5,30000,9100000,9100001]
def ZL:=[(6004,20000)]
def ZM:=[0,15,16,17]
def ZN:=[0,21,22,23]
def RQ:=[0,2,4,5]
def RR:=[1,2,5005]
def RS:=[2,3,7,8]
def RT:=[0,1,4,5]
def KD:=[6,34000]
def fp:=[2,3,4,6,7,37]
def oe:=[2,5,6,7,26,27,28,29]
def BM:=[2,33]
def RU:=[5,18,19]
def RV:=[6,18,19]
def fq:=[1,2,15,16,17]
def oh:=[2,5,6,7,9,26,27,28]
def ft:=[0,1,32,33,34]
def oi:=[10,30000,37006,9100005]
def KE:=[2,3,4]
def KF:=[4,5,6]
def KG:=[1,3,5]
def fu:=[1,3,5,6,7,8]
def fw:=[0,1,4,5,6,7]
def ZO:=[2,5,6,25]
def ol:=[2,5,6,7,8,9,10,60]
def om:=[4,30000,37006,9100005]
def fx:=[0,3,4,14,15]
def fy:=[0,4,6,21,22]
def RW:=[4,34000]
def ZP:=[1,2,5,6]
def ZQ:=[0,2,7,8]
def f5:=[(34001,34001)]
def KH:=[18,19]
def ZR:=[3,7,8,9]
def f6:=[2,3,4,6,19]
def ZS:=[3,4,6,7]
def ZT:=[6,7,5700]
def f7:=[1,3,8,9,10]
def ZU:=[1,3,4,6]
def oq:=[2,7,77,60077,70077]
def KI:=[15,18]
def f8:=[1,23,24,25]
def RX:=[0,1,2]
def RY:=[0,2,3]
def f9:=[1,2,5,6,7]
def RZ:=[0,1,4]
def SA:=[0,2,7]
def gB:=[3,38,39,40]
def gD:=[0,37,38,39]
def gE:=[0,2,4,5,6]
def gG:=[(5003,20000)]
def gH:=[2,35,37,46]
def SB:=[2,5,7]
def gM:=[0,6,21,22]
def gP:=[(14,20000)]
def gQ:=[5,6,34000]
set_option maxRecDepth 100000
set_option maxHeartbeats 2000000
def Aw(x:Int):List AV:=[(.int .i64 x)]
def IF(x:Int):List AV:=[(.int .u64 x)]
structure Aj where
 V:Int
 Scale:Int
 deriving Inhabited,DecidableEq
def El(x:Aj):List AV:=[(.int .i64 x.V),(.int .u64 x.Scale)]
structure Ak where
 Terms:List Aj
 Off:Int
 deriving Inhabited,DecidableEq
def Tg(x:Ak):List AV:=[(AV.list 2 El default x.Terms .none),(.int .u64 x.Off)]
def K6(x:A0):List AV:=[(AV.list 1 Aw 0 x .none)]
structure Cn where
 Kind:Int
 Bits:Int
 Lanes:Int
 Dst:Int
 Args:A0
 Imm:Int
 deriving Inhabited,DecidableEq
def Sb(x:Cn):List AV:=[(.int .i64 x.Kind),(.int .i64 x.Bits),(.int .i64 x.Lanes),(.int .i64 x.Dst),(AV.list 1 Aw 0 x.Args .none),(.int .u64 x.Imm)]
structure Ig where
 Bits:Int
 Dst:Int
 From:A0
 Args:A0
 deriving Inhabited,DecidableEq
def Zo(x:Ig):List AV:=[(.int .i64 x.Bits),(.int .i64 x.Dst),(AV.list 1 Aw 0 x.From .none),(AV.list 1 Aw 0 x.Args .none)]
def uE(x:List Ig):List AV:=[(AV.list 4 Zo default x .none)]
def wL(x:List Cn):List AV:=[(AV.list 6 Sb default x .none)]
structure N6 where
 Kind:Int
 Arg:Int
 To:A0
 deriving Inhabited,DecidableEq
def gz(x:N6):List AV:=[(.int .i64 x.Kind),(.int .i64 x.Arg),(AV.list 1 Aw 0 x.To .none)]
structure An where
 Phis:List Ig
 Ops:List Cn
 End:N6
 deriving Inhabited,DecidableEq
def Jv(x:An):List AV:=[(AV.list 4 Zo default x.Phis .none),(AV.list 6 Sb default x.Ops .none),(.int .i64 x.End.Kind),(.int .i64 x.End.Arg),(AV.list 1 Aw 0 x.End.To .none)]
def me(x:List An):List AV:=[(AV.list 5 Jv default x .none)]
structure TFunc where
 Params:A0
 Ret:Int
 Blocks:List An
 deriving Inhabited,DecidableEq
def eTFunc(x:TFunc):List AV:=[(AV.list 1 Aw 0 x.Params .none),(.int .i64 x.Ret),(AV.list 5 Jv default x.Blocks .none)]
abbrev G7:=(Int×Int)
def B0(x:G7):List AV:=[(.int .i64 x.1),(.int .i64 x.2)]
structure Li where
 block:Int
 at_:Int
 deriving Inhabited,DecidableEq
def MR(x:Li):List AV:=[(.int .i64 x.block),(.int .i64 x.at_)]
structure Bm where
 v:Int
 shape:G7
 place:Li
 deriving Inhabited,DecidableEq
def Nz(x:Bm):List AV:=[(.int .i64 x.v),(.int .i64 x.shape.1),(.int .i64 x.shape.2),(.int .i64 x.place.block),(.int .i64 x.place.at_)]
structure TGraph where
 Succ:La
 Pred:La
 deriving Inhabited,DecidableEq
def Wt(x:TGraph):List AV:=[(AV.list 1 K6 [] x.Succ .none),(AV.list 1 K6 [] x.Pred .none)]
def eB(x:Bool):List AV:=[(.bool x)]
structure As where
 shape:G7
 place:Li
 deriving Inhabited,DecidableEq
def Wu(x:As):List AV:=[(.int .i64 x.shape.1),(.int .i64 x.shape.2),(.int .i64 x.place.block),(.int .i64 x.place.at_)]
structure Fb where
 Scale:A0
 Off:Int
 deriving Inhabited,DecidableEq
def Ey(x:Fb):List AV:=Hg 1024 (λi=>IF (x.Scale.getD i 0))++(([(.int .u64 x.Off)]:List AV)++([]:List AV))
theorem D7(x:Fb):∀ k,AV.eraseAll k (Ey x)=Ey x:=U9 (Uk λ_ _=>rfl) (U9 (λ_=>rfl) (λ_=>rfl))
theorem P5(x:Fb):FP (Ey x) 0 1024 1 (λi=>IF (x.Scale.getD i 0)):=HD (λ_ _=>rfl)
theorem AZ(x:Fb)(i:Int)(hi:Bd i 1024)(v:Int):(Ey x).take (0+i.toNat*1)++IF v++(Ey x).drop (0+i.toNat*1+(IF v).length)=Ey ⟨Fz 1024 (0:Int) x.Scale i.toNat v,x.Off⟩:=GW (λ_ _=>rfl) (Ha hi) rfl (YZ (Ha hi)) NB
theorem ZA(x:Fb)(v:Int):(Ey x).take 1024++IF v++(Ey x).drop (1024+(IF v).length)=Ey ⟨x.Scale,v⟩:=(GX (k:=1024) (o:=0) (j:=0) (Ii (n:=1024) (sz:=1) (λ_ _=>rfl)) rfl)
structure TDef where
 V:Int
 Block:Int
 At:Int
 Shape:G7
 deriving Inhabited,DecidableEq
def Rq(x:TDef):List AV:=[(.int .i64 x.V),(.int .i64 x.Block),(.int .i64 x.At),(.int .i64 x.Shape.1),(.int .i64 x.Shape.2)]
structure Da where
 V:Int
 Block:Int
 At:Int
 Shape:G7
 deriving Inhabited,DecidableEq
def Od(x:Da):List AV:=[(.int .i64 x.V),(.int .i64 x.Block),(.int .i64 x.At),(.int .i64 x.Shape.1),(.int .i64 x.Shape.2)]
def qd(x:List Bool):List AV:=[(AV.list 1 eB false x .none)]
structure A6 where
 Op:List Cn
 Found:List Bool
 Form:List Ak
 deriving Inhabited,DecidableEq
def Ax(x:A6):List AV:=Hg 1024 (λi=>Sb (x.Op.getD i default))++(Hg 1024 (λi=>eB (x.Found.getD i false))++(Hg 1024 (λi=>Tg (x.Form.getD i default))++([]:List AV)))
theorem A3(x:A6):∀ k,AV.eraseAll k (Ax x)=Ax x:=U9 (Uk λ_ _=>rfl) (U9 (Uk λ_ _=>rfl) (U9 (Uk λ_ _=>rfl) (λ_=>rfl)))
theorem TP(x:A6):FP (Ax x) 0 1024 6 (λi=>Sb (x.Op.getD i default)):=HD (λ_ _=>rfl)
theorem DO(x:A6)(i:Int)(hi:Bd i 1024)(v:Cn):(Ax x).take (0+i.toNat*6)++Sb v++(Ax x).drop (0+i.toNat*6+(Sb v).length)=Ax ⟨Fz 1024 (default:Cn) x.Op i.toNat v,x.Found,x.Form⟩:=GW (λ_ _=>rfl) (Ha hi) rfl (YZ (Ha hi)) NB
theorem JF(x:A6):FP (Ax x) 6144 1024 1 (λi=>eB (x.Found.getD i false)):=QL (k:=6144) (o:=0) (Ii (n:=1024) (sz:=6) (λ_ _=>rfl)) (HD (λ_ _=>rfl))
theorem JG(x:A6)(i:Int)(hi:Bd i 1024)(v:Bool):(Ax x).take (6144+i.toNat*1)++eB v++(Ax x).drop (6144+i.toNat*1+(eB v).length)=Ax ⟨x.Op,Fz 1024 false x.Found i.toNat v,x.Form⟩:=GX (k:=6144) (o:=0) (Ii (n:=1024) (sz:=6) (λ_ _=>rfl)) (GW (λ_ _=>rfl) (Ha hi) rfl (YZ (Ha hi)) NB)
theorem MH(x:A6):FP (Ax x) 7168 1024 2 (λi=>Tg (x.Form.getD i default)):=QL (k:=6144) (o:=1024) (Ii (n:=1024) (sz:=6) (λ_ _=>rfl)) (QL (k:=1024) (o:=0) (Ii (n:=1024) (sz:=1) (λ_ _=>rfl)) (HD (λ_ _=>rfl)))
theorem MI(x:A6)(i:Int)(hi:Bd i 1024)(v:Ak):(Ax x).take (7168+i.toNat*2)++Tg v++(Ax x).drop (7168+i.toNat*2+(Tg v).length)=Ax ⟨x.Op,x.Found,Fz 1024 (default:Ak) x.Form i.toNat v⟩:=GX (k:=6144) (o:=1024) (Ii (n:=1024) (sz:=6) (λ_ _=>rfl)) (GX (k:=1024) (o:=0) (Ii (n:=1024) (sz:=1) (λ_ _=>rfl)) (GW (λ_ _=>rfl) (Ha hi) rfl (YZ (Ha hi)) NB))
theorem mix:Tryz.prog.follows .mixedOrders=true:=by kernel_rfl
abbrev sP:=Spec Tryz.prog
abbrev dC:=(Nat×Own)
theorem sG {f : FuncId} {fn : Func} {args : List AV} {H H' : List dC} {res : AV} (hf : Tryz.prog.funcs[f]? = some fn) (k : ∀ Γ : Ih, RgQ Tryz.prog Γ fn.ntmps H → GG Tryz.prog Γ (fK Tryz.prog Γ fn.results.toList H res H') (ql (XN fn) []) (IH args H)) (hb : fn.body.isSome = true := by kernel_rfl) (hname : (fn.name == "runtime.NumGoroutine") = false := by kernel_rfl) (hlen : Nat.ble args.length fn.ntmps = true := by kernel_rfl) (hpl : PT H = true := by kernel_rfl) : sP f args H res H' := Wd mix hf k hb hname hlen hpl
def Z1:=λza zb zc zd zf zg zm=>((30000,.row 110 [(AV.list 1 Aw 0 za .none),(.int .i64 zb),(AV.list 5 Jv default zc .none),(.int .i64 zd),(AV.list 1 Aw 0 zf .none),(.omap zg),(AV.list 5 Nz default zm (.own 37006))]):Nat×Own)
def Z2:=λza=>(⟨[],[],(.bool za),[],[],[]⟩:Vx)
def Z3:=λza zb zc zd zf zg zm=>([(30000,.row 110 [(AV.list 1 Aw 0 za .none),(.int .i64 zb),(AV.list 5 Jv default zc .none),(.int .i64 zd),(AV.list 1 Aw 0 zf .none),.nilm,(AV.list 5 Nz default zg (.own 37006))]),(37006,.tok 5 195 zm)]:List dC)
def Z4:=λza (zb:A0)=>((za,.arr 1 3 zb.length (λi=>Aw (zb.getD i 0))):Nat×Own)
def Z5:=([(.slice 0 0 (λ_=>[]) .exact),(.int .u64 (0:Int))]:List AV)
def Z6:=λza=>((.int .i64 za):AV)
def Z7:=λza=>((AV.list 1 Aw 0 za .none):AV)
def Z8:=λza zb=>([(AV.list 2 El default za .none),(.int .u64 zb)]:List AV)
def Z9:=λza=>((AV.list 2 B0 ((0:Int),(0:Int)) za .none):AV)
def dS:=((AV.list 2 El default ([]:List Aj) .exact):AV)
def N9:=((.int .i64 (0:Int)):AV)
def u0:=λza zb zc zd zf zg zm zn zp=>([(Z1 za zb zc zd zf zg zm),(37006,.tok 5 195 zn),(zg,.obj (.map false .i64 zp))]:List dC)
def Oo:=λza=>((.agg (Tg za)):AV)
def ar:=λza zb zc zd=>((za,.arr 1 33 zb (N7 1 Aw (0:Int) zc (Tag.fam zd))):Nat×Own)
def au:=λza=>((AV.list 5 Jv default za .none):AV)
def jP:=λza (zb:List Bool)=>((za,.arr 1 4 zb.length (λi=>eB (zb.getD i false))):Nat×Own)
def dT:=((30000,.row 80 [(.omap 9100000),(.omap 9100001)]):Nat×Own)
def SI:=λza zb=>((AV.list 1 Aw 0 za (.own zb)):AV)
def Nx:=λza=>((.int .u64 za):AV)
def XE:=λza zb zc zd zf zg zm=>([(Z1 za zb zc zd zf 9100005 zg),(37006,.tok 5 195 zm)]:List dC)
def X8:=((.int .u64 (0:Int)):AV)
def SJ:=λza=>((AV.list 1 K6 [] za .none):AV)
def Ub:=((2,(.ptr 2 0)):Nat×AV)
def Vz:=λza=>((.agg (Wu za)):AV)
def kw:=λza=>((3,(AV.list 5 Od default za (.own 5003))):Nat×AV)
def xO:=λza (zb:A0) (zc:A0)=>((.slice 1 (bif za then zb.length else zc.length) (λi=>bif za then Aw (zb.getD i 0) else Aw (zc.getD i 0)) .none):AV)
def TW:=((.slice 0 0 (λ_=>[]) .exact):AV)
def kx:=((AV.list 1 Aw 0 ([]:A0) .exact):AV)
def vu:=λza zb zc zd zf zg=>((30000,.row 110 [(Z7 za),(Z6 zb),(au zc),(Z6 zd),(Z7 zf),(.omap 8),(AV.list 5 Nz default zg (.own 37006))]):Nat×Own)
def vv:=λza zb zc zd zf zg zm zn=>(⟨[(30000,30000),(37006,37006),(9100005,9100005)],[],(.tuple []),(u0 za zb zc zd zf 9100005 zg zm zn),[],[]⟩:Vx)
def jQ:=λza zb=>((AV.list 5 Rq default za (.own zb)):AV)
def SK:=λza=>(⟨[],[],(Z6 za),[],[],[]⟩:Vx)
def SS:=λza zb=>((AV.list 1 eB false za (.own zb)):AV)
def dU:=λza=>(⟨[],[],(Oo za),[],[],[]⟩:Vx)
def Z35:=(⟨[(4,(AV.list 1 Aw 0 ([]:A0) (.own 6004)))],[(6004,.tok 1 3 (([]:A0).length))],[]⟩:St)
abbrev NG:=(Nat×AV)
def xP:=λza zb zc zd=>([(za,(AV.list 5 Od default zb .exact)),(zc,(AV.list 5 Od default (zd++zb) (.own 5003)))]:List NG)
def td:=λza zb zc zd zf=>((37,.arr 1 145 za (λi_=>AV.eraseAll zb ((Ei zc zd 0 [(.vsl 46 zf)]) i_))):Nat×Own)
def u3:=λza zb=>(⟨[],[],(.tuple [(Nx za),(AV.list 2 El default zb .none)]),[],[],[]⟩:Vx)
def DA:=((1,(.ptr 1 0)):Nat×AV)
def yG:=λza (zb:List Bm) (zc:List Bm)=>((.slice 5 (bif za then zb.length else zc.length) (λi=>bif za then Nz (zb.getD i default) else Nz (zc.getD i default)) (.own 37006)):AV)
def sU:=((AV.list 2 El default ([]:List Aj) .none):AV)
def qB:=λza=>((AV.list 1 Aw 0 ([za]:A0) .exact):AV)
def wA:=((AV.list 2 B0 ((0:Int),(0:Int)) ([]:List G7) .exact):AV)
def Rh:=λza zb=>((za,.tok 1 4 zb):Nat×Own)
def sV:=λza zb=>((.agg (Wu (mget (default:As) za zb))):AV)
def qC:=λza zb zc=>([(AV.list 2 El default za (.own zb)),(Nx zc)]:List AV)
def SL:=λza=>((.int .i64 (za:Int)):AV)
def te:=λza zb=>((AV.list 2 B0 ((0:Int),(0:Int)) za (.own zb)):AV)
def yr:=λza zb zc zd zf zg=>(⟨[(2,(.clo za [] [])),(3,(.ptr 3 0)),(4,(.ptr 4 0)),(6,(.ptr 6 0)),(7,(.ptr 7 0))],[(3,.row 25 (Z8 zb zc)),(4,.row 25 (Z8 zd zf)),(6,.row 25 Z5),(7,.row 25 [(AV.list 2 El default ([]:List Aj) (.own 5700)),(Nx zg)]),(5700,.tok 2 51 (([]:List Aj).length))],[]⟩:St)
def X9:=λza=>((.agg (Sb za)):AV)
def jR:=λza=>(⟨[],[],(Z9 za),[],[],[]⟩:Vx)
def ga:=λza=>((30000,.row 23 [(Nx za)]):Nat×Own)
def pA:=λza zb=>([(.agg (Wt za)),(Z6 zb)]:List AV)
def u4:=((AV.list 1 K6 [] ([]:La) .exact):AV)
def U8:=λza zb=>((7,(.vsl za zb)):Nat×AV)
def HW:=((.ptr 30000 0):AV)
def wB:=λza zb zc=>(⟨[],[(20000,za)],(SI zb 20000),[(20000,.tok 1 3 zc)],[],[]⟩:Vx)
def yH:=λza zb zc zd=>([(za,(AV.list 5 Rq default zb .exact)),(zc,(AV.list 5 Rq default (zd++zb) (.own 5003)))]:List NG)
def ky:=λza zb=>((za,.obj (.map true .i64 zb)):Nat×Own)
def pB:=λza zb=>((AV.list 1 K6 [] za (.own zb)):AV)
def yI:=λza zb=>([(72,(AV.list 2 El default za .exact)),(73,(AV.list 2 El default (zb++za) (.own 5700)))]:List NG)
def Mw:=λza zb zc=>((za,.tok 5 zb zc):Nat×Own)
def xQ:=λza=>((AV.list 2 El default ([(⟨za,(1:Int)⟩:Aj)]:List Aj) .exact):AV)
def Oa:=λza zb=>((2,.row za zb):Nat×Own)
def yJ:=λza zb zc zd zf zg zm zn zp=>(⟨[(30000,30000),(37006,37006),(9100005,9100005)],[],(.agg (MR za)),(u0 zb zc zd zf zg 9100005 zm zn zp),[],[]⟩:Vx)
def yu:=λza (zb:List An) (zc:List An)=>((.slice 5 (bif za then zb.length else zc.length) (λi=>bif za then Jv (zb.getD i default) else Jv (zc.getD i default)) .none):AV)
def NM:=λza=>((.agg (B0 za)):AV)
def ll:=λza zb=>((7,.row 99 [za,(.vsl 77 zb)]):Nat×Own)
def TX:=((6,(.ptr 6 0)):Nat×AV)
def wC:=λ(za:A0)=>((6,.arr 1 208 64 (λi=>Aw (za.getD i 0))):Nat×Own)
def wD:=λza zb zc zd zf zg=>((1,.row 43 [(Z6 za),(Z6 zb),(Z6 zc),(Z6 zd),(Z7 zf),(Nx zg)]):Nat×Own)
def yK:=λza zb zc zd zf zg zm zn zp=>(⟨[(30000,30000),(37006,37006),(9100005,9100005)],[],(.bool za),(u0 zb zc zd zf zg 9100005 zm zn zp),[],[]⟩:Vx)
def yv:=λza (zb:A0) (zc:A0)=>((.slice 1 (bif (za==true) then zb.length else zc.length) (λi=>bif (za==true) then Aw (zb.getD i 0) else Aw (zc.getD i 0)) .none):AV)
def xR:=λza zb zc zd zf zg zm zn=>(⟨[(30000,30000),(37006,37006)],[],(.bool za),(Z3 zb zc zd zf zg zm zn),[],[]⟩:Vx)
def XF:=((4,(.ptr 4 0)):Nat×AV)
def XG:=λza=>((.agg (eTFunc za)):AV)
def kz:=λza=>((2,.row 99 [za,za]):Nat×Own)
def Z78:=(⟨[(2,(AV.list 2 B0 ((0:Int),(0:Int)) ([]:List G7) (.own 6002)))],[(6002,.tok 2 73 (([]:List G7).length))],[]⟩:St)
def lm:=((6,(.vpt 6 64 0 0)):Nat×AV)
def yL:=λ(za:List G7)=>([(30,.arr 2 73 za.length (λi=>B0 (za.getD i ((0:Int),(0:Int)))))]:List dC)
def sW:=λza zb zc=>((.int .i64 (bif za then zb else zc)):AV)
def xS:=((AV.list 1 K6 [] ([]:La) .none):AV)
def dV:=((7,(.ptr 7 0)):Nat×AV)
def ln:=((5,(.vpt 5 64 0 0)):Nat×AV)
def xT:=λza zb=>(⟨[],[],(.tuple [(Oo za),(Z6 zb)]),[],[],[]⟩:Vx)
def wE:=λza zb zc zd=>((37,.arr 1 145 za (Ei zb zc 0 [(.vsl 46 zd)])):Nat×Own)
def k4:=λza=>((6,.arr 1 208 64 za):Nat×Own)
def qD:=((.int .i64 (1:Int)):AV)
def gb:=((5,(.ptr 5 0)):Nat×AV)
def xU:=λza zb=>(⟨[],[],(.tuple [(Z6 za),(Z6 zb)]),[],[],[]⟩:Vx)
def u5:=λza=>(⟨[],[],(Nx za),[],[],[]⟩:Vx)
def wF:=λza=>((AV.list 2 El default za .none):AV)
def lp:=λza=>((5,.arr 1 207 64 za):Nat×Own)
def wG:=λza zb=>(⟨[],[],(.tuple (pA za zb)),[],[],[]⟩:Vx)
def yw:=λza zb zc zd zf zg zm=>(⟨[(2,(.clo za [] [])),(3,(.ptr 3 0)),XF,TX,dV],[(3,.row 25 (Z8 zb zc)),(4,.row 25 (Z8 zd zf)),(6,.row 25 Z5),(7,.row 25 [zg,(Nx zm)])],[]⟩:St)
def yM:=λza zb=>(⟨[(30000,30000),(37006,37006)],[],(Z6 za),zb,[],[]⟩:Vx)
def wH:=λza zb zc=>(⟨[(4,(SI za zb))],[(zb,.tok 1 3 zc)],[]⟩:St)
def sX:=((.int .i64 (2:Int)):AV)

abbrev uk:=(LR (Int×Int) Int)
def Pr(a0:TFunc):G7->Option uk:=
 λ((i1,i2):G7)=>(bif (decide (i2<(a0.Blocks.length:Int))) then(Bf (Bd i2 a0.Blocks.length) (some (.next ((w64 (i1+(w64 ((((a0.Blocks.getD i2.toNat default).Phis).length:Int)+(((a0.Blocks.getD i2.toNat default).Ops).length:Int))))),(w64 (i2+1)))))) else(some (.done i1)))
def Uo(a0:TFunc):Option Int:=
 ((Ad (Pr a0) ((a0.Blocks.length:Int),(0:Int))).bind (λx5=>(some x5)))
variable{v0:TFunc}{v1:Int}
theorem YJ(h:Uo v0=some v1):sP 106 [(XG v0)] [] (.int .i64 v1) []:=
 sG Tryz.func106 λΓ q=>tW q [1] [1] K9 [1] (Af q HT [] (tL q h HT [] (λu (i1,i2)=>(Du u [(3,(Z6 i1)),(12,(Z6 i2))] [])) (λu i3=>aG Γ (.exit 0) (⟨[(3,(Z6 i3))],[],[]⟩:St)) (λ⟨i1,i2⟩ y h=>Af q [3,10,11,12,13] [] (gC h (λh=>tV q [3,5,10,11,12] [5] h λh=>tW q HT [] HT [] (tN h)) λh=>tS h (gO (Bn (Bs [3] [] q))))) λx5 h=>gA (Af q [2] [] (tS h (Cf [])))))
def Kn(aD:A0):Int->Option (LR Int (Unit ⊕ Bool)):=
 λ(i1:Int)=>(bif (decide (i1<(aD.length:Int))) then(Bf (Bd i1 aD.length) (bif (bif (decide ((aD.getD i1.toNat 0)<0)) then true else(decide ((2147483647:Int)<(aD.getD i1.toNat 0)))) then(some (.done (.inr false))) else(some (.next (w64 (i1+1)))))) else(some (.done (.inl ()))))
def FL(Γ:Ih)(aD:A0)(r:Bool):Exit->St->Prop:=fK Tryz.prog Γ Tryz.f107.results.toList [] (.bool r) []
def Ep(aD:A0):Option Bool:=
 ((Ad (Kn aD) (0:Int)).bind (λx3=>(match x3 with|(.inl _)=>(some true)|(.inr r5)=>(some r5))))
variable{v2:A0}{v3:Bool}
theorem Hu(h:Ep v2=some v3):sP 107 [(Z7 v2)] [] (.bool v3) []:=
 sG Tryz.func107 λΓ q=>tW q [0] [] [5,6,7] [] (tL q h [5,6,7] [] (λu i1=>(Du u [(7,(Z6 i1))] [])) (λu x_=>match x_ with|(.inl _)=>aG Γ (.exit 0) (⟨[],[],[]⟩:St)|(.inr r_)=>aR (FL Γ v2 r_)) (λi1 y h=>Af q [5,6,7,8] [] (gC h (λh=>tV q [4,5,6,7] [] h λh=>tU q [5,6,7,16] [] (c2 (gI ((decide ((v2.getD i1.toNat 0)<0))==false)) (Lb (decide ((v2.getD i1.toNat 0)<0)))) (gC h (λh=>Af q [2] [] (tS h (gO (Mm (Ic [] (Le.refl _ _)))))) λh=>Af q [5,6,7] [] (tN h))) λh=>tS h (gO (Bn (Bs [] [] q))))) λx3 h=>(match x3,h with | .inl _,h=>gA (Af q [2] [] (tS h (Cf []))) | .inr r5,h=>Pi (λst' hk=>tS h (gK hk))))
def Iy(aD:A0):Option Bool:=
 ((bif ((decide ((aD.length:Int)<=64))==true) then Ep aD else some false).bind λx1=>(some (bif (decide ((aD.length:Int)<=64)) then x1 else false)))
theorem Ns(h:Iy v2=some v3):sP 179 [(Z7 v2)] [] (.bool v3) []:=
 sG Tryz.func179 λΓ q=>Af q [0] [] (tB h λx1 y1 h=>tT q [2] [] [(Z2 x1)] (c3 (gI ((decide ((v2.length:Int)<=64))==true)) (λ(hg:((decide ((v2.length:Int)<=64))==true)=true)=>(Hu (Bk hg y1))) (M2 (decide ((v2.length:Int)<=64)))) (tS h (Cf [])))
def Pt(aa0:Ig):Option Bool:=
 ((Ep ([aa0.Bits,aa0.Dst]:A0)).bind λx1=>((bif (x1==true) then Iy aa0.From else some false).bind λx2=>((bif ((bif x1 then x2 else false)==true) then Iy aa0.Args else some false).bind λx3=>(some (bif (bif x1 then x2 else false) then x3 else false)))))
variable{v4:Ig}
theorem MD(h:Pt v4=some v3):sP 150 [(.agg (Zo v4))] [] (.bool v3) []:=
 sG Tryz.func150 λΓ q=>Af q [1] [1] (tB h λx1 y1 h=>tB h λx2 y2 h=>tB h λx3 y3 h=>gR q [2] [] [(7,(AV.list 1 Aw 0 ([v4.Bits,v4.Dst]:A0) .exact))] [(Z2 x1),(Z2 x2),(Z2 x3)] (dW (B1 1 Aw (0:Int) ([v4.Bits,v4.Dst]:A0)) (Hu y1) (Mh (x1==true) (dW (λ(hg:(x1==true)=true)=>(Ns (Bk hg y2))) (M2 x1) (Mh ((bif x1 then x2 else false)==true) (c2 (λ(hg:((bif x1 then x2 else false)==true)=true)=>(Ns (Bk hg y3))) (M2 (bif x1 then x2 else false))))))) (tS h (Cf [])))
def H0(aD:List Ig):Int->Option (LR Int (Unit ⊕ Bool)):=
 λ(i1:Int)=>(bif (decide (i1<(aD.length:Int))) then(Bf (Bd i1 aD.length) ((Pt (aD.getD i1.toNat default)).bind λx3=>(bif (!x3) then(some (.done (.inr false))) else(some (.next (w64 (i1+1))))))) else(some (.done (.inl ()))))
def Yq(Γ:Ih)(aD:List Ig)(r:Bool):Exit->St->Prop:=fK Tryz.prog Γ Tryz.f149.results.toList [] (.bool r) []
def J0(aD:List Ig):Option Bool:=
 ((Ad (H0 aD) (0:Int)).bind (λx4=>(match x4 with|(.inl _)=>(some true)|(.inr r6)=>(some r6))))
variable{v5:List Ig}
theorem Xi(h:J0 v5=some v3):sP 149 [(AV.list 4 Zo default v5 .none),(.clo 150 [] [])] [] (.bool v3) []:=
 sG Tryz.func149 λΓ q=>tW q I8 [] Mu [] (tL q h Mu [] (λu i1=>(Du u [(9,(Z6 i1))] [])) (λu x_=>match x_ with|(.inl _)=>aG Γ (.exit 0) (⟨[],[],[]⟩:St)|(.inr r_)=>aR (Yq Γ v5 r_)) (λi1 y h=>Af q LT [] (gC h (λh=>tV q LU [6] h λh=>tB h λx3 y3 h=>tT q SG [] [(Z2 x3)] (c1 (MD y3)) (gC h (λh=>Af q [4] [] (tS h (gO (Mm (Ic [] (Le.refl _ _)))))) λh=>Af q Mu [] (tN h))) λh=>tS h (gO (Bn (Bs [] [] q))))) λx4 h=>(match x4,h with | .inl _,h=>gA (Af q [4] [] (tS h (Cf []))) | .inr r6,h=>Pi (λst' hk=>tS h (gK hk))))
def Rl(a1:Cn):Option Bool:=
 ((Ep ([a1.Kind,a1.Bits,a1.Lanes,a1.Dst]:A0)).bind λx1=>((bif (x1==true) then Iy a1.Args else some false).bind λx2=>(some (bif x1 then x2 else false))))
variable{v6:Cn}
theorem PG(h:Rl v6=some v3):sP 152 [(X9 v6)] [] (.bool v3) []:=
 sG Tryz.func152 λΓ q=>Af q [1] [1] (tB h λx1 y1 h=>tB h λx2 y2 h=>gR q [2] [] [(11,(AV.list 1 Aw 0 ([v6.Kind,v6.Bits,v6.Lanes,v6.Dst]:A0) .exact))] [(Z2 x1),(Z2 x2)] (dW (B1 1 Aw (0:Int) ([v6.Kind,v6.Bits,v6.Lanes,v6.Dst]:A0)) (Hu y1) (Mh (x1==true) (c2 (λ(hg:(x1==true)=true)=>(Ns (Bk hg y2))) (M2 x1)))) (tS h (Cf [])))
def Ip(aD:List Cn):Int->Option (LR Int (Unit ⊕ Bool)):=
 λ(i1:Int)=>(bif (decide (i1<(aD.length:Int))) then(Bf (Bd i1 aD.length) ((Rl (aD.getD i1.toNat default)).bind λx3=>(bif (!x3) then(some (.done (.inr false))) else(some (.next (w64 (i1+1))))))) else(some (.done (.inl ()))))
def Zd(Γ:Ih)(aD:List Cn)(r:Bool):Exit->St->Prop:=fK Tryz.prog Γ Tryz.f151.results.toList [] (.bool r) []
def Km(aD:List Cn):Option Bool:=
 ((Ad (Ip aD) (0:Int)).bind (λx4=>(match x4 with|(.inl _)=>(some true)|(.inr r6)=>(some r6))))
variable{v7:List Cn}
theorem Y0(h:Km v7=some v3):sP 151 [(AV.list 6 Sb default v7 .none),(.clo 152 [] [])] [] (.bool v3) []:=
 sG Tryz.func151 λΓ q=>tW q I8 [] Mu [] (tL q h Mu [] (λu i1=>(Du u [(9,(Z6 i1))] [])) (λu x_=>match x_ with|(.inl _)=>aG Γ (.exit 0) (⟨[],[],[]⟩:St)|(.inr r_)=>aR (Zd Γ v7 r_)) (λi1 y h=>Af q LT [] (gC h (λh=>tV q LU [6] h λh=>tB h λx3 y3 h=>tT q SG [] [(Z2 x3)] (c1 (PG y3)) (gC h (λh=>Af q [4] [] (tS h (gO (Mm (Ic [] (Le.refl _ _)))))) λh=>Af q Mu [] (tN h))) λh=>tS h (gO (Bn (Bs [] [] q))))) λx4 h=>(match x4,h with | .inl _,h=>gA (Af q [4] [] (tS h (Cf []))) | .inr r6,h=>Pi (λst' hk=>tS h (gK hk))))
def Ps(aL:N6):Option Bool:=
 ((Ep ([aL.Kind,aL.Arg]:A0)).bind λx1=>((bif (x1==true) then Iy aL.To else some false).bind λx2=>(some (bif x1 then x2 else false))))
variable{v8:N6}
theorem MC(h:Ps v8=some v3):sP 153 [(.agg (gz v8))] [] (.bool v3) []:=
 sG Tryz.func153 λΓ q=>Af q [1] [1] (tB h λx1 y1 h=>tB h λx2 y2 h=>gR q [2] [] [(7,(AV.list 1 Aw 0 ([v8.Kind,v8.Arg]:A0) .exact))] [(Z2 x1),(Z2 x2)] (dW (B1 1 Aw (0:Int) ([v8.Kind,v8.Arg]:A0)) (Hu y1) (Mh (x1==true) (c2 (λ(hg:(x1==true)=true)=>(Ns (Bk hg y2))) (M2 x1)))) (tS h (Cf [])))
def Nn(aN:An):Option Bool:=
 ((J0 aN.Phis).bind λx1=>((bif (x1==true) then Km aN.Ops else some false).bind λx2=>((bif ((bif x1 then x2 else false)==true) then Ps (⟨aN.End.Kind,aN.End.Arg,aN.End.To⟩:N6) else some false).bind λx3=>(some (bif (bif x1 then x2 else false) then x3 else false)))))
variable{v9:An}
theorem GQ(h:Nn v9=some v3):sP 109 [(.agg (Jv v9))] [] (.bool v3) []:=
 sG Tryz.func109 λΓ q=>Af q [1] [1] (tB h λx1 y1 h=>tB h λx2 y2 h=>tB h λx3 y3 h=>tT q [2] [] [(Z2 x1),(Z2 x2),(Z2 x3)] (ci (Xi y1) (Mh (x1==true) (dW (λ(hg:(x1==true)=true)=>(Y0 (Bk hg y2))) (M2 x1) (Mh ((bif x1 then x2 else false)==true) (c2 (λ(hg:((bif x1 then x2 else false)==true)=true)=>(MC (Bk hg y3))) (M2 (bif x1 then x2 else false))))))) (tS h (Cf [])))
def Gp(aD:List An):Int->Option (LR Int (Unit ⊕ Bool)):=
 λ(i1:Int)=>(bif (decide (i1<(aD.length:Int))) then(Bf (Bd i1 aD.length) ((Nn (aD.getD i1.toNat default)).bind λx3=>(bif (!x3) then(some (.done (.inr false))) else(some (.next (w64 (i1+1))))))) else(some (.done (.inl ()))))
def Vw(Γ:Ih)(aD:List An)(r:Bool):Exit->St->Prop:=fK Tryz.prog Γ Tryz.f108.results.toList [] (.bool r) []
def Io(aD:List An):Option Bool:=
 ((Ad (Gp aD) (0:Int)).bind (λx4=>(match x4 with|(.inl _)=>(some true)|(.inr r6)=>(some r6))))
variable{v10:List An}
theorem Vo(h:Io v10=some v3):sP 108 [(au v10),(.clo 109 [] [])] [] (.bool v3) []:=
 sG Tryz.func108 λΓ q=>tW q I8 [] Mu [] (tL q h Mu [] (λu i1=>(Du u [(9,(Z6 i1))] [])) (λu x_=>match x_ with|(.inl _)=>aG Γ (.exit 0) (⟨[],[],[]⟩:St)|(.inr r_)=>aR (Vw Γ v10 r_)) (λi1 y h=>Af q LT [] (gC h (λh=>tV q LU [6] h λh=>tB h λx3 y3 h=>tT q SG [] [(Z2 x3)] (c1 (GQ y3)) (gC h (λh=>Af q [4] [] (tS h (gO (Mm (Ic [] (Le.refl _ _)))))) λh=>Af q Mu [] (tN h))) λh=>tS h (gO (Bn (Bs [] [] q))))) λx4 h=>(match x4,h with | .inl _,h=>gA (Af q [4] [] (tS h (Cf []))) | .inr r6,h=>Pi (λst' hk=>tS h (gK hk))))
def Q2(a0:TFunc):=(decide ((a0.Blocks.length:Int)<1))
def Q1(a0:TFunc):=(decide ((16:Int)<(a0.Params.length:Int)))
def W7(a0:TFunc):Option Bool:=
 (bif (bif (decide ((a0.Blocks.length:Int)<1)) then true else(decide ((64:Int)<(a0.Blocks.length:Int)))) then(some false) else((bif ((decide ((16:Int)<(a0.Params.length:Int)))==false) then Uo a0 else some (0:Int)).bind λx1=>(bif (bif (decide ((16:Int)<(a0.Params.length:Int))) then true else(decide ((512:Int)<x1))) then(some false) else((Ep a0.Params).bind λx2=>((bif (x2==true) then Ep ([a0.Ret]:A0) else some false).bind λx3=>((bif ((bif x2 then x3 else false)==true) then Io a0.Blocks else some false).bind λx4=>(some (bif (bif x2 then x3 else false) then x4 else false))))))))
theorem cI(h:W7 v0=some v3):sP 75 [(XG v0)] [] (.bool v3) []:=
 sG Tryz.func75 λΓ q=>Af q [1] [1] (tU q [1,12] [1] (Yu ((Q2 v0)==false) (c1 (Lb (Q2 v0)))) (gC h (λh=>Af q [2] [] (tS h (Cf []))) λh=>tB h λx1 y1 h=>tT q [1,21] [1] [(SK x1)] (c4 (gI ((Q1 v0)==false)) (λ(hg:((Q1 v0)==false)=true)=>(YJ (Bk hg y1))) (gI ((Q1 v0)==false)) (Lb (Q1 v0))) (gC h (λh=>Af q [2] [] (tS h (Cf []))) λh=>tB h λx2 y2 h=>tB h λx3 y3 h=>tB h λx4 y4 h=>gR q [2] [] [(28,(qB v0.Ret))] [(Z2 x2),(Z2 x3),(Z2 x4)] (ci (Hu y2) (Mh (x2==true) (yP (show((x2==true)=true->(AVle (.slice 1 1 (λi=>([[(Z6 v0.Ret)]]:List (List AV)).getD i []) .exact) (qB v0.Ret))) from(λhg=>@(B1 1 Aw (0:Int) ([v0.Ret]:A0)))) (gI (x2==true)) (λ(hg:(x2==true)=true)=>(Hu (Bk hg y3))) (M2 x2) (Mh ((bif x2 then x3 else false)==true) (c2 (λ(hg:((bif x2 then x3 else false)==true)=true)=>(Vo (Bk hg y4))) (M2 (bif x2 then x3 else false))))))) (tS h (Cf [])))))
def M6(aaD:Bool)(aL:Int):Option Int:=
 (bif aaD then(some (0:Int)) else(some aL))
variable{v11:Int}
theorem Yd(h:M6 v3 v1=some v11):sP 122 [(.bool v3),(Z6 v1)] [] (.int .i64 v11) []:=
 sG Tryz.func122 λΓ q=>tW q I8 [] [1,5] [] (gC h (λh=>Af q [4] [] (tS h (Cf []))) λh=>Af q [4] [] (tS h (Cf [])))
abbrev kj:=(Int×TFunc×Int×A0×List Bm)
def Kk(a4:TFunc)(a7:Int)(aC:A0)(aA:List Bm):Option kj:=
 ((W7 a4).bind λx1=>((M6 x1 (4:Int)).bind λx2=>(some (x2,a4,a7,aC,aA))))
variable{v12:List Bm}{v13:kj}
theorem Yy(h:Kk v0 v1 v2 v12=some v13):sP 91 [HW] (Z3 v0.Params v0.Ret v0.Blocks v1 v2 v12 v12.length) (Z6 v13.1) (Z3 v13.2.1.Params v13.2.1.Ret v13.2.1.Blocks v13.2.2.1 v13.2.2.2.1 v13.2.2.2.2 v13.2.2.2.2.length):=
 sG Tryz.func91 λΓ q=>Af q [0] I7 (tB h λx1 y1 h=>tB h λx2 y2 h=>tT q [2] I7 [(Z2 x1),(SK x2)] (c2 (cI y1) (Yd y2)) (tS h (Cf Ym)))
def Ma(aK:Int):Option Bool:=
 (some (bif (decide ((1:Int)<=aK)) then(decide (aK<=64)) else false))
theorem V6(h:Ma v1=some v3):sP 114 [(Z6 v1)] [] (.bool v3) []:=
 sG Tryz.func114 λΓ q=>Af q [0] [] (tU q [2] [] (c2 (gI ((decide ((1:Int)<=v1))==true)) (M2 (decide ((1:Int)<=v1)))) (tS h (Cf [])))
def Kc(aP:Int)(aK:Int):Option Bool:=
 (some (bif (decide ((0:Int)<=aP)) then(decide (aP<aK)) else false))
theorem Ra(h:Kc v1 v11=some v3):sP 155 [(Z6 v1),(Z6 v11)] [] (.bool v3) []:=
 sG Tryz.func155 λΓ q=>Af q I8 [] (tU q [4] [] (Mh ((decide ((0:Int)<=v1))==true) (c1 (M2 (decide ((0:Int)<=v1))))) (tS h (Cf [])))
def Dc(aL:N6)(aK:Int):Int->Option (LR Int (Unit ⊕ Bool)):=
 λ(i7:Int)=>(bif (decide (i7<(aL.To.length:Int))) then(Bf (Bd i7 aL.To.length) ((bif (((aL.To.getD i7.toNat 0)==0)==false) then Kc (aL.To.getD i7.toNat 0) aK else some false).bind λx9=>(bif (bif ((aL.To.getD i7.toNat 0)==0) then true else(!x9)) then(some (.done (.inr false))) else(some (.next (w64 (i7+1))))))) else(some (.done (.inl ()))))
def X4(Γ:Ih)(aL:N6)(aK:Int)(r:Bool):Exit->St->Prop:=fK Tryz.prog Γ Tryz.f115.results.toList [] (.bool r) []
def Q3(aL:N6)(i7:Int):=((aL.To.getD i7.toNat 0)==0)
def Ov(aL:N6)(aK:Int):Option Bool:=
 (Option.bind (α:=(Int ⊕ Bool)) (Option.bind (α:=Bool) (bif (aL.Kind==0) then(some (aL.Kind==0)) else(some (aL.Kind==3))) (λx3=>(bif x3 then(some (.inl (0:Int))) else(bif (aL.Kind==1) then(some (.inl (1:Int))) else(bif (aL.Kind==2) then(some (.inl (2:Int))) else(some (.inr false))))))) (λx5=>(match x5 with|(.inl i1)=>(bif ((aL.To.length:Int)!=i1) then(some false) else((Ad (Dc aL aK) (0:Int)).bind (λx10=>(match x10 with|(.inl _)=>(some true)|(.inr r12)=>(some r12)))))|(.inr r13)=>(some r13))))
theorem JD(h:Ov v8 v1=some v3):sP 115 [(.agg (gz v8)),(Z6 v1)] [] (.bool v3) []:=
 sG Tryz.func115 λΓ q=>tW q N4 [2] EE [2] (tB h λx5 y5 h=>gJ y5 (λx_=>match x_ with|(.inl i1)=>aG Γ .normal (⟨[(1,(Z6 v1)),Ub,(5,(Z6 i1))],[(2,.row 46 [(Z6 v8.Kind),(Z6 v8.Arg),(Z7 v8.To)])],[]⟩:St)|(.inr r_)=>aR (X4 Γ v8 v1 r_)) (λy h=>Af q [1,2,5,9] [2] (tB h λx3 y3 h=>gJ y3 (λb2=>aG Γ .normal (⟨[(1,(Z6 v1)),Ub,(5,N9),(9,(Z6 v8.Kind)),(10,(.bool b2))],[(2,.row 46 [(Z6 v8.Kind),(Z6 v8.Arg),(Z7 v8.To)])],[]⟩:St)) (λy h=>Af q [1,2,5,9,10] [2] (gC h (λh=>tS h (gK (Bn I9))) λh=>Af q [1,2,5,9,10] [2] (tS h (gK (Bn I9))))) (gA (gC h (λh=>tS h (gK (Bn (Bs EE [2] q)))) λh=>Af q [1,2,9,13] [2] (gC h (λh=>Af q EE [2] (tS h (gK (Bn I9)))) λh=>Af q [1,2,15] [2] (gC h (λh=>Af q EE [2] (tS h (gK (Bn I9)))) λh=>Af q [4] [] (tS h (gK (Mm (Ic [] (Le.refl _ _))))))))))) (match x5,h with | .inl i1,h=>gA (Af q [1,2,21] [2] (gC h (λh=>Af q [4] [] (tS h (Cf []))) λh=>Af q f8 [] (tL q h f8 [] (λu i7=>(Du u [(25,(Z6 i7))] [])) (λu x_=>match x_ with|(.inl _)=>aG Γ (.exit 1) (⟨[],[],[]⟩:St)|(.inr r_)=>aR (X4 Γ v8 v1 r_)) (λi7 y h=>Af q [1,23,24,25,26] [] (gC h (λh=>tV q [1,7,23,24,25] [] h λh=>tB h λx9 y9 h=>tT q [1,23,24,25,36] [] [(Z2 x9)] (Mh ((Q3 v8 i7)==false) (c3 (λ(hg:((Q3 v8 i7)==false)=true)=>(Ra (Bk hg y9))) (gI ((Q3 v8 i7)==false)) (Lb (Q3 v8 i7)))) (gC h (λh=>Af q [4] [] (tS h (gO (Mm (Ic [] (Le.refl _ _)))))) λh=>Af q f8 [] (tN h))) λh=>tS h (gO (Bn (Bs [] [] q))))) λx10 h=>(match x10,h with | .inl _,h=>gA (Af q [4] [] (tS h (Cf []))) | .inr r12,h=>Pi (λst' hk=>tS h (gK hk)))))) | .inr r13,h=>Pi (λst' hk=>tS h (gK hk))))
abbrev pF:=(Int×La)
abbrev xW:=(LR (Int×La) La)
def Gq(a6:La)(i2:Int):pF->Option xW:=
 λ((i6,l7):pF)=>(bif (decide (i6<((a6.getD i2.toNat []).length:Int))) then(Bf (Bd i6 (a6.getD i2.toNat []).length) (Bf (Bd ((a6.getD i2.toNat []).getD i6.toNat 0) l7.length) (Bf (Bd ((a6.getD i2.toNat []).getD i6.toNat 0) l7.length) (Bf ((l7.getD ((a6.getD i2.toNat []).getD i6.toNat 0).toNat []).length+([i2]:A0).length<=room) (Bf (Bd ((a6.getD i2.toNat []).getD i6.toNat 0) l7.length) (some (.next ((w64 (i6+1)),(l7.set ((a6.getD i2.toNat []).getD i6.toNat 0).toNat ((l7.getD ((a6.getD i2.toNat []).getD i6.toNat 0).toNat [])++([i2]:A0))))))))))) else(some (.done l7)))
def Gr(a6:La):pF->Option xW:=
 λ((i2,l3):pF)=>(bif (decide (i2<(a6.length:Int))) then(Bf (Bd i2 a6.length) ((Ad (Gq a6 i2) ((0:Int),l3)).bind (λx14=>(some (.next ((w64 (i2+1)),x14)))))) else(some (.done l3)))
def Q8(i2:Int):=([i2]:A0)
def Q4(a6:La)(i2:Int)(i6:Int):=((a6.getD i2.toNat []).getD i6.toNat 0)
def Q9(l7:La)(a6:La)(i2:Int)(i6:Int):=(l7.getD (Q4 a6 i2 i6).toNat [])
def Q5(a6:La):=(List.replicate (a6.length:Int).toNat ([]:A0))
def vF(l7:La)(a6:La)(i2:Int)(i6:Int):=(l7.set (Q4 a6 i2 i6).toNat ((Q9 l7 a6 i2 i6)++(Q8 i2)))
def Q7(a6:La):List NG:=[(0,(SJ a6)),(3,(.vsl 10 (a6.length:Int).toNat))]
def Q6(l7:La)(i2:Int)(a6:La)(i6:Int):List NG:=[(3,(.vsl 10 l7.length)),(4,(Z6 i2)),(11,(SJ a6)),(12,(SL a6.length)),(13,(Z6 i2)),(18,(AV.list 1 Aw 0 (a6.getD i2.toNat []) .none)),(19,(.int .i64 ((a6.getD i2.toNat []).length:Int))),(20,(Z6 i6))]
def ya(l7:La)(i2:Int)(a6:La)(i6:Int):List NG:=[(3,(.vsl 10 l7.length)),(4,(Z6 i2)),(7,(Z6 (Q4 a6 i2 i6))),(11,(SJ a6)),(12,(SL a6.length)),(13,(Z6 i2)),(18,(AV.list 1 Aw 0 (a6.getD i2.toNat []) .none)),(19,(.int .i64 ((a6.getD i2.toNat []).length:Int))),(20,(Z6 i6))]
def M8(a6:La):Option La:=
 (Bf (0<=(a6.length:Int)/\(a6.length:Int)<=(a6.length:Int)/\(a6.length:Int)<=(room:Int)) ((Ad (Gr a6) ((0:Int),(List.replicate (a6.length:Int).toNat ([]:A0)))).bind (λx16=>(some x16))))
variable{v14:La}{v15:La}
theorem Yf(h:M8 v14=some v15):sP 117 [(SJ v14)] [] (pB v15 20000) [(20000,.tok 1 33 v15.length)]:=
 sG Tryz.func117 λΓ q=>have hΓ:=q.own;gR q [0] [] [(2,u4)] [] (c1 (Ex 1 K6 [])) (tV q Qc [10] h λh=>Qe (⟨(Q7 v14),[(10,.arr 1 33 ((v14.length:Int).toNat) (λi_=>AV.eraseAll (λn_=>Bl n_ [10]) ((λ_=>[TW]) i_)))],[]⟩:St) (Hr (Le.trans (Fo (st':=⟨(Q7 v14),[(10,.arr 1 33 ((v14.length:Int).toNat) (N7 1 Aw (0:Int) (Q5 v14) (λ_=>.exact)))],[]⟩) (TmpsLe.refl _) (.arr bY .nil)) (Le.trans (Le.trans (bh (r:=10) (b:=70010) Aw (0:Int) (Q5 v14) 3 rfl rfl (T5 ..).symm (λh_=>absurd h_ (by decide))) (J7 (st':=⟨(Q7 v14),[(10,.arr 1 33 ((v14.length:Int).toNat) (N7 1 Aw (0:Int) (Q5 v14) (Tag.fam 70010)))],[(70010,⟨1,3,M1 (Q5 v14)⟩)]⟩) (by kernel_rfl))) (J7 (Ce (λk_:Nat=>(⟨[(0,(SJ v14)),(3,(.vsl 10 k_))],[(ar 10 k_ (Q5 v14) 70010)],[(70010,⟨1,3,M1 (Q5 v14)⟩)]⟩:St)) (show(v14.length:Int).toNat=(Q5 v14).length from(T5 ..).symm))))) (Af q RG U7 (tL q h RG U7 (λu (i2,l3)=>(Du u [(3,(.vsl 10 l3.length)),(13,(Z6 i2))] [(ar 10 l3.length l3 70010)] [(70010,⟨1,3,M1 l3⟩)])) (λu l4=>aG Γ (.exit 0) (⟨[(3,(.vsl 10 l4.length))],[(ar 10 l4.length l4 70010)],[(70010,⟨1,3,M1 l4⟩)]⟩:St)) (λ⟨i2,l3⟩ y h=>Af q [3,11,12,13,14] U7 (gC h (λh=>tV q [3,4,5,11,12,13] U7 h λh=>Af q ik U7 (tL q h ik U7 (λu (i6,l7)=>(Du u [(3,(.vsl 10 l7.length)),(20,(Z6 i6))] [(ar 10 l7.length l7 70010)] [(70010,⟨1,3,M1 l7⟩)])) (λu l8=>aG Γ (.exit 2) (N2 RG U7 u [(3,(.vsl 10 l8.length))] [(ar 10 l8.length l8 70010)] [(70010,⟨1,3,M1 l8⟩)])) (λ⟨i6,l7⟩ y h=>Af q [3,4,11,12,13,18,19,20,21] U7 (gC h (λh=>tV q [3,4,7,11,12,13,18,19,20] U7 h λh=>Qe (⟨(ya l7 i2 v14 i6),[(ar 10 l7.length l7 70010)],[(70010,⟨1,3,M1 l7⟩)]⟩:St) (tC h λc10_ h=>tC h λc11_ h=>tC h λc12_ h=>tC h λc13_ h=>Hr (Le.trans (iC (r:=10) (b:=70010) (k:=60010) Aw (0:Int) l7 (Q4 v14 i2 i6).toNat 3 rfl rfl rfl rfl (Ha c10_) (by kernel_rfl) (.here .nil)) (J7 (st':=⟨(ya l7 i2 v14 i6),[(10,.arr 1 33 l7.length (N7 1 Aw (0:Int) l7 (Ht 70010 (Q4 v14 i2 i6).toNat 60010))),(60010,.tok 1 3 ((Q9 l7 v14 i2 i6).length))],[(70010,⟨1,3,Zw l7 (Q4 v14 i2 i6).toNat⟩)]⟩) (by kernel_rfl))) (gR q ik [10,60010,70010] [(29,(SI (Q9 l7 v14 i2 i6) 60010)),(31,(AV.list 1 Aw 0 (Q8 i2) .exact)),(32,(AV.list 1 Aw 0 ((Q9 l7 v14 i2 i6)++(Q8 i2)) (.own 60010)))] [] (xV c11_ (Eq.refl l7.length) (show(AVle (((N7 1 Aw (0:Int) l7 (Ht 70010 (Q4 v14 i2 i6).toNat 60010)) (Q4 v14 i2 i6).toNat).getD 0 .any) (SI (Q9 l7 v14 i2 i6) 60010)) from UC) (B1 1 Aw (0:Int) (Q8 i2)) (Eq.refl ((Q9 l7 v14 i2 i6).length)) c12_ (Ju 1 60010 Aw (0:Int) (Q9 l7 v14 i2 i6) (Q8 i2)) (Fj (Q9 l7 v14 i2 i6) (Q8 i2)) c13_ (c1 (Eq.refl l7.length))) (Qe (⟨(Q6 l7 i2 v14 i6),[(10,.arr 1 33 l7.length (λi_=>AV.eraseAll (λn_=>Bl n_ [10,60010,70010]) ((Ei (N7 1 Aw (0:Int) l7 (Ht 70010 (Q4 v14 i2 i6).toNat 60010)) (Q4 v14 i2 i6).toNat 0 [(AV.list 1 Aw 0 ((Q9 l7 v14 i2 i6)++(Q8 i2)) (.own 60010))]) i_))),(60010,.tok 1 3 (((Q9 l7 v14 i2 i6)++(Q8 i2)).length))],[(70010,⟨1,3,Zw l7 (Q4 v14 i2 i6).toNat⟩)]⟩:St) (Hr (Le.trans (Le.trans (nC (r:=10) (b:=70010) (k:=60010) Aw (0:Int) l7 (Q4 v14 i2 i6).toNat ((Q9 l7 v14 i2 i6)++(Q8 i2)) 3 rfl (cW (Ha c10_) rfl rfl) rfl rfl rfl rfl (Ha c10_) (by kernel_rfl) (.here (.tok .nil)) (by rw[hΓ];rfl)) (J7 (st':=⟨(Q6 l7 i2 v14 i6),[(ar 10 l7.length (vF l7 v14 i2 i6) 70010)],[(70010,⟨1,3,M1 (vF l7 v14 i2 i6)⟩)]⟩) (by kernel_rfl))) (J7 (Ce (λk_:Nat=>(⟨[(3,(.vsl 10 k_)),(4,(Z6 i2)),(11,(SJ v14)),(12,(SL v14.length)),(13,(Z6 i2)),(18,(AV.list 1 Aw 0 (v14.getD i2.toNat []) .none)),(19,(.int .i64 ((v14.getD i2.toNat []).length:Int))),(20,(Z6 i6))],[(ar 10 k_ (vF l7 v14 i2 i6) 70010)],[(70010,⟨1,3,M1 (vF l7 v14 i2 i6)⟩)]⟩:St)) (show l7.length=(vF l7 v14 i2 i6).length from(G1 ..).symm)))) (Af q ik U7 (tN h))))))) λh=>tS h (gO (Bn (Bs RG U7 q))))) λx14 h=>gA (Af q RG U7 (tN h)))) λh=>tS h (gO (Bn (Bs [3] U7 q))))) λx16 h=>gA (Af q [2] U7 (Qe (⟨[(2,(.vsl 10 x16.length))],[(ar 10 x16.length x16 70010)],[(70010,⟨1,3,M1 x16⟩)]⟩:St) (tS h (gK (e:=.ret) (Ic [(10,20000)] (Le.trans (Ka (nm:=10) (sz:=1) (n:=x16.length) (e:=33) (f:=(N7 1 Aw (0:Int) x16 (Tag.fam 70010))) (g:=(λi=>K6 (x16.getD i []))) rfl ⟨rfl,trivial⟩ (λ_ _=>rfl) (by rw[hΓ];rfl)) (Bs (st':=⟨[(2,(pB x16 10))],[(10,.tok 1 33 x16.length)],[]⟩) [2] [10] q)))))))))))
def H2(a0:TFunc):pF->Option (LR (Int×La) (La ⊕ (TGraph×Int))):=
 λ((i3,l4):pF)=>(bif (decide (i3<(a0.Blocks.length:Int))) then(Bf (Bd i3 a0.Blocks.length) ((Ov (⟨(a0.Blocks.getD i3.toNat default).End.Kind,(a0.Blocks.getD i3.toNat default).End.Arg,(a0.Blocks.getD i3.toNat default).End.To⟩:N6) (a0.Blocks.length:Int)).bind λx7=>(bif (!x7) then(some (.done (.inr ((⟨([]:La),([]:La)⟩:TGraph),(5:Int))))) else((HK ((a0.Blocks.getD i3.toNat default).End.To)).bind λx8=>(Bf (Bd i3 l4.length) (some (.next ((w64 (i3+1)),(l4.set i3.toNat x8))))))))) else(some (.done (.inl l4))))
abbrev k7:=(TGraph×Int)
def db(Γ:Ih)(a0:TFunc)(r:k7):Exit->St->Prop:=fK Tryz.prog Γ Tryz.f87.results.toList [] (.tuple (pA r.1 r.2)) []
def s5:AV:=TW
def uq:List NG:=[Ub,(3,(.int .i64 (5:Int)))]
def zD(a0:TFunc)(i3:Int):=(a0.Blocks.getD i3.toNat default)
def yb:AV:=xS
def xZ(a0:TFunc):=(List.replicate (a0.Blocks.length:Int).toNat ([]:A0))
def sM:List AV:=[u4,u4]
def W9(a0:TFunc):Option k7:=
 ((Ma (a0.Blocks.length:Int)).bind λx1=>(bif (!x1) then(some ((⟨([]:La),([]:La)⟩:TGraph),(5:Int))) else(Bf (0<=(a0.Blocks.length:Int)/\(a0.Blocks.length:Int)<=(a0.Blocks.length:Int)/\(a0.Blocks.length:Int)<=(room:Int)) ((Ad (H2 a0) ((0:Int),(List.replicate (a0.Blocks.length:Int).toNat ([]:A0)))).bind (λx10=>(match x10 with|(.inl l5)=>((M8 l5).bind λx12=>(some ((⟨l5,x12⟩:TGraph),(0:Int))))|(.inr r13)=>(some r13)))))))
variable{v16:k7}
theorem cL(h:W9 v0=some v16):sP 87 [(XG v0)] [] (.tuple (pA v16.1 v16.2)) []:=
 sG Tryz.func87 λΓ q=>have hΓ:=q.own;tW q N4 N4 [1,2,4] N4 (tB h λx1 y1 h=>tT q [1,2,4,13] N4 [(Z2 x1)] (c1 (V6 y1)) (gC h (λh=>gR q Dg [2] [(14,(.agg sM))] [] (c1 (show(AVle (.agg [s5,s5]) (.agg sM)) from(AVle.agg (.cons C2 (.cons C2 .nil))))) (Qe (⟨uq,[(Oa 99 sM)],[]⟩:St) (tS h (gK (e:=.ret) (Ic [] (show Le Γ _ (⟨uq,[(kz yb)],[]⟩:St) from Le.trans (Bs (st':=⟨uq,[(Oa 99 sM)],[]⟩) Dg [2] q) (Fo (.cons (AVle.refl _) (.cons (AVle.refl _) .nil)) (.row (.cons AVle.untag (.cons AVle.untag .nil)) .nil)))))))) λh=>tV q [1,2,4,5] [1,2,16] h λh=>by exact Hr (Le.trans (Ie 16 (show ∀ k_,k_<((v0.Blocks.length:Int).toNat)->AVleL ((λi_=>AV.eraseAll (λn_=>Bl n_ [1,2,16]) ((λ_=>[s5]) i_)) k_) ((λi=>K6 ((xZ v0).getD i [])) k_) from(λk hk=>Sz (e:=K6) (d:=[]) (.cons (λ_ _ _ _ _ hh=>AVle.untag _ _ _ _ _ (C2 _ _ _ _ _ hh)) .nil) _ k (S2 hk)))) (Vc (λ(k_:Nat) u=>(Du u [(5,(.vsl 16 k_))] [(16,.arr 1 33 k_ (λi=>K6 ((xZ v0).getD i [])))])) (show(v0.Blocks.length:Int).toNat=(xZ v0).length from(T5 ..).symm))) (Af q ZG Vt (tL q h ZG Vt (λu (i3,l4)=>(Du u [(5,(.vsl 16 l4.length)),(20,(Z6 i3))] [(16,.arr 1 33 l4.length (λi=>K6 (l4.getD i [])))])) (λu x_=>match x_ with|(.inl l5)=>aG Γ (.exit 0) (N2 T9 Vt u [(5,(.vsl 16 l5.length))] [(16,.arr 1 33 l5.length (λi=>K6 (l5.getD i [])))])|(.inr r_)=>aR (db Γ v0 r_)) (λ⟨i3,l4⟩ y h=>Af q [2,4,5,18,19,20,21] Vt (gC h (λh=>tV q [2,4,5,6,7,18,19,20] [2,7,16] h λh=>tB h λx7 y7 h=>tT q [2,4,5,6,7,18,19,20,29] [2,7,16] [(Z2 x7)] (c1 (JD y7)) (gC h (λh=>gR q Dg [2] [(30,(.agg sM))] [] (c1 (show(AVle (.agg [s5,s5]) (.agg sM)) from(AVle.agg (.cons C2 (.cons C2 .nil))))) (Qe (⟨uq,[(Oa 99 sM)],[]⟩:St) (tS h (gO (Mm (Ic [] (show Le Γ _ (⟨uq,[(kz yb)],[]⟩:St) from Le.trans (Bs (st':=⟨uq,[(Oa 99 sM)],[]⟩) Dg [2] q) (Fo (.cons (AVle.refl _) (.cons (AVle.refl _) .nil)) (.row (.cons AVle.untag (.cons AVle.untag .nil)) .nil))))))))) λh=>tB h λx8 y8 h=>tC h λc9_ h=>tT q ZG Vt [⟨[],[],(Z7 x8),[],[],[]⟩] (c3 (fY ((zD v0 i3).End.To) x8 y8) c9_ (Eq.refl l4.length)) (Hr (Le.trans (Ie 16 (show ∀ k_,k_<l4.length->AVleL ((λi_=>AV.eraseAll (λn_=>Bl n_ Vt) ((Ei (λi=>K6 (l4.getD i [])) i3.toNat 0 [(Z7 x8)]) i_)) k_) ((λi=>K6 ((l4.set i3.toNat x8).getD i [])) k_) from(Cj (G1 ..).symm (λk_ hk_=>(Ce (AV.eraseAll (λn_=>Bl n_ Vt)) ((Ky (λ_ _=>rfl) (Mq c9_) rfl) k_ hk_)).trans rfl)))) (Vc (λ(k_:Nat) u=>(Du u [(5,(.vsl 16 k_))] [(16,.arr 1 33 k_ (λi=>K6 ((l4.set i3.toNat x8).getD i [])))])) (show l4.length=(l4.set i3.toNat x8).length from(G1 ..).symm))) (Af q ZG Vt (tN h))))) λh=>tS h (gO (Bn (Bs T9 Vt q))))) λx10 h=>(match x10,h with | .inl l5,h=>gA (Qe (⟨[Ub,(5,(.vsl 16 l5.length))],[(kz s5),(16,.arr 1 33 l5.length (λi=>K6 (l5.getD i [])))],[]⟩:St) (Hr (Le.trans (Ka (nm:=16) (sz:=1) (n:=l5.length) (e:=33) (f:=(λi=>K6 (l5.getD i []))) (g:=(λi=>K6 (l5.getD i []))) rfl ⟨rfl,trivial⟩ (λ_ _=>rfl) (by rw[hΓ];rfl)) (J7 (st':=⟨[Ub,(5,(pB l5 16))],[(kz s5),(16,.tok 1 33 l5.length)],[]⟩) (by kernel_rfl))) (tB h λx12 y12 h=>tT q Dg [2,16,41] [⟨[],[(20000,41)],(pB x12 20000),[(20000,.tok 1 33 x12.length)],[],[]⟩] (c1 (Yf y12)) (tS h (Cf []))))) | .inr r13,h=>Pi (λst' hk=>tS h (gK hk)))))))
abbrev zA:=(LR (Int×Int) (Unit ⊕ Bool))
def D3(a6:La)(i2:Int):G7->Option zA:=
 λ((i4,i5):G7)=>(bif (decide (i5<((a6.getD i2.toNat []).length:Int))) then(Bf (Bd i5 (a6.getD i2.toNat []).length) ((bif ((decide (((a6.getD i2.toNat []).getD i5.toNat 0)<=i4))==false) then Kc ((a6.getD i2.toNat []).getD i5.toNat 0) (a6.length:Int) else some false).bind λx7=>(bif (bif (decide (((a6.getD i2.toNat []).getD i5.toNat 0)<=i4)) then true else(!x7)) then(some (.done (.inr false))) else(some (.next (((a6.getD i2.toNat []).getD i5.toNat 0),(w64 (i5+1)))))))) else(some (.done (.inl ()))))
def D4(a6:La):Int->Option (LR Int (Unit ⊕ Bool)):=
 λ(i2:Int)=>(bif (decide (i2<(a6.length:Int))) then(Bf (Bd i2 a6.length) ((Ad (D3 a6 i2) ((-1:Int),(0:Int))).bind (λx8=>(match x8 with|(.inl _)=>(some (.next (w64 (i2+1))))|(.inr r10)=>(some (.done (.inr r10))))))) else(some (.done (.inl ()))))
def X5(Γ:Ih)(a6:La)(r:Bool):Exit->St->Prop:=fK Tryz.prog Γ Tryz.f183.results.toList [] (.bool r) []
def xG(a6:La)(i2:Int)(i5:Int)(i4:Int):=(decide (((a6.getD i2.toNat []).getD i5.toNat 0)<=i4))
def Ow(a6:La):Option Bool:=
 ((Ma (a6.length:Int)).bind λx1=>(bif (!x1) then(some false) else((Ad (D4 a6) (0:Int)).bind (λx11=>(match x11 with|(.inl _)=>(some true)|(.inr r13)=>(some r13))))))
theorem JE(h:Ow v14=some v3):sP 183 [(SJ v14)] [] (.bool v3) []:=
 sG Tryz.func183 λΓ q=>Af q [0] [] (tB h λx1 y1 h=>tT q [0,11] [] [(Z2 x1)] (c1 (V6 y1)) (gC h (λh=>Af q [2] [] (tS h (Cf []))) λh=>Af q RH [] (tL q h RH [] (λu i2=>(Du u [(14,(Z6 i2))] [])) (λu x_=>match x_ with|(.inl _)=>aG Γ (.exit 0) (⟨[],[],[]⟩:St)|(.inr r_)=>aR (X5 Γ v14 r_)) (λi2 y h=>Af q [0,12,13,14,15] [] (gC h (λh=>tV q [0,4,12,13,14] [] h λh=>tW q [0,4,5,12,13,14] [] il [] (tL q h il [] (λu (i4,i5)=>(Du u [(5,(Z6 i4)),(20,(Z6 i5))] [])) (λu x_=>match x_ with|(.inl _)=>aG Γ (.exit 2) (N2 RH [] u [] [])|(.inr r_)=>aR (X5 Γ v14 r_)) (λ⟨i4,i5⟩ y h=>Af q [0,5,12,13,14,18,19,20,21] [] (gC h (λh=>tV q [0,5,7,12,13,14,18,19,20] [] h λh=>tB h λx7 y7 h=>tT q [0,7,12,13,14,18,19,20,33] [] [(Z2 x7)] (Yu ((xG v14 i2 i5 i4)==false) (c3 (λ(hg:((xG v14 i2 i5 i4)==false)=true)=>(Ra (Bk hg y7))) (gI ((xG v14 i2 i5 i4)==false)) (Lb (xG v14 i2 i5 i4)))) (gC h (λh=>Af q [2] [] (tS h (gO (Mm (Ic [] (Le.refl _ _)))))) λh=>tW q il [] il [] (tN h))) λh=>tS h (gO (Bn (Bs RH [] q))))) λx8 h=>(match x8,h with | .inl _,h=>gA (Af q RH [] (tN h)) | .inr r10,h=>Pi (λst' hk=>tS h (gO (Mm hk)))))) λh=>tS h (gO (Bn (Bs [] [] q))))) λx11 h=>(match x11,h with | .inl _,h=>gA (Af q [2] [] (tS h (Cf []))) | .inr r13,h=>Pi (λst' hk=>tS h (gK hk))))))
def B2(aQ:A0)(aV:A0):Int->Option (LR Int (Unit ⊕ Bool)):=
 λ(i1:Int)=>(bif (decide (i1<(aQ.length:Int))) then(Bf (Bd i1 aQ.length) (Bf (Bd i1 aV.length) (bif ((aQ.getD i1.toNat 0)!=(aV.getD i1.toNat 0)) then(some (.done (.inr false))) else(some (.next (w64 (i1+1))))))) else(some (.done (.inl ()))))
def Wn(Γ:Ih)(aQ:A0)(aV:A0)(r:Bool):Exit->St->Prop:=fK Tryz.prog Γ Tryz.f119.results.toList [] (.bool r) []
def Gz(aQ:A0)(aV:A0):Option Bool:=
 (bif ((aQ.length:Int)!=(aV.length:Int)) then(some false) else((Ad (B2 aQ aV) (0:Int)).bind (λx4=>(match x4 with|(.inl _)=>(some true)|(.inr r6)=>(some r6)))))
variable{v17:A0}
theorem O9(h:Gz v2 v17=some v3):sP 119 [(Z7 v2),(Z7 v17)] [] (.bool v3) []:=
 sG Tryz.func119 λΓ q=>tW q I8 [] HV [] (gC h (λh=>Af q [4] [] (tS h (Cf []))) λh=>Af q JZ [] (tL q h JZ [] (λu i1=>(Du u [(13,(Z6 i1))] [])) (λu x_=>match x_ with|(.inl _)=>aG Γ (.exit 0) (⟨[],[],[]⟩:St)|(.inr r_)=>aR (Wn Γ v2 v17 r_)) (λi1 y h=>Af q [0,1,12,13,14] [] (gC h (λh=>Af q [0,1,5,12,13] [] (tC h λc2_ h=>tC h λc3_ h=>tU q [0,1,12,13,24] [] (c2 c2_ c3_) (gC h (λh=>Af q [4] [] (tS h (gO (Mm (Ic [] (Le.refl _ _)))))) λh=>Af q JZ [] (tN h)))) λh=>tS h (gO (Bn (Bs [] [] q))))) λx4 h=>(match x4,h with | .inl _,h=>gA (Af q [4] [] (tS h (Cf []))) | .inr r6,h=>Pi (λst' hk=>tS h (gK hk)))))
def A2(aQ:La)(aV:La):Int->Option (LR Int (Unit ⊕ Bool)):=
 λ(i1:Int)=>(bif (decide (i1<(aQ.length:Int))) then(Bf (Bd i1 aQ.length) (Bf (Bd i1 aV.length) ((Gz (aQ.getD i1.toNat []) (aV.getD i1.toNat [])).bind λx4=>(bif (!x4) then(some (.done (.inr false))) else(some (.next (w64 (i1+1)))))))) else(some (.done (.inl ()))))
def Oz(Γ:Ih)(aQ:La)(aV:La)(r:Bool):Exit->St->Prop:=fK Tryz.prog Γ Tryz.f184.results.toList [] (.bool r) []
def D5(aQ:La)(aV:La):Option Bool:=
 (bif ((aQ.length:Int)!=(aV.length:Int)) then(some false) else((Ad (A2 aQ aV) (0:Int)).bind (λx5=>(match x5 with|(.inl _)=>(some true)|(.inr r7)=>(some r7)))))
theorem Oi(h:D5 v14 v15=some v3):sP 184 [(SJ v14),(SJ v15),(.clo 119 [] [])] [] (.bool v3) []:=
 sG Tryz.func184 λΓ q=>tW q RX [] [0,1,2,14] [] (gC h (λh=>Af q [6] [] (tS h (Cf []))) λh=>Af q fq [] (tL q h fq [] (λu i1=>(Du u [(17,(Z6 i1))] [])) (λu x_=>match x_ with|(.inl _)=>aG Γ (.exit 0) (⟨[],[],[]⟩:St)|(.inr r_)=>aR (Oz Γ v14 v15 r_)) (λi1 y h=>Af q [1,2,15,16,17,18] [] (gC h (λh=>tV q [1,2,7,8,15,16,17] [] h λh=>tV q [1,2,8,9,15,16,17] [] h λh=>tB h λx4 y4 h=>tT q [1,2,15,16,17,30] [] [(Z2 x4)] (c1 (O9 y4)) (gC h (λh=>Af q [6] [] (tS h (gO (Mm (Ic [] (Le.refl _ _)))))) λh=>Af q fq [] (tN h))) λh=>tS h (gO (Bn (Bs [] [] q))))) λx5 h=>(match x5,h with | .inl _,h=>gA (Af q [6] [] (tS h (Cf []))) | .inr r7,h=>Pi (λst' hk=>tS h (gK hk)))))
def Ur(a5:TGraph):Option Bool:=
 ((Ow a5.Succ).bind λx1=>((bif (x1==true) then M8 a5.Succ else some []).bind λx2=>((bif (x1==true) then D5 a5.Pred x2 else some false).bind λx3=>(some (bif x1 then x3 else false)))))
variable{v18:TGraph}
theorem YN(h:Ur v18=some v3):sP 160 [(.agg (Wt v18))] [] (.bool v3) []:=
 sG Tryz.func160 λΓ q=>Af q [1] [1] (tB h λx1 y1 h=>tB h λx2 y2 h=>tB h λx3 y3 h=>tT q [2] [] [(Z2 x1),⟨[],[],(SJ x2),[],[],[]⟩,(Z2 x3)] (ci (JE y1) (Yu (x1==true) (ci (show((x1==true)=true->(sP 117 [(SJ v18.Succ)] [] (SJ x2) [])) from(λhg=>(Spec.drop (Yf (Bk hg y2))))) (Mh (x1==true) (c2 (λ(hg:(x1==true)=true)=>(Oi (Bk hg y3))) (M2 x1)))))) (tS h (Cf [])))
abbrev yZ:=(Int×Int×A0)
def Bq :yZ->Option (LR (Int×Int×A0) A0):=
 λ((i1,i2,l3):yZ)=>(bif (decide (i1<i2)) then(Bf (Bd i2 l3.length) (Bf (Bd i1 l3.length) (Bf (Bd i1 l3.length) (Bf (Bd i2 l3.length) (some (.next ((w64 (i1+1)),(w64 (i2-1)),((l3.set i1.toNat (l3.getD i2.toNat 0)).set i2.toNat (l3.getD i1.toNat 0))))))))) else(some (.done l3)))
def xf(l3:A0)(i1:Int)(i2:Int):=((l3.set i1.toNat (l3.getD i2.toNat 0)).set i2.toNat (l3.getD i1.toNat 0))
def Fy(aa4:A0):Option A0:=
 ((Ad (S:=yZ) (X:=A0) Bq ((0:Int),(w64 ((aa4.length:Int)-1)),aa4)).bind (λx9=>(some x9)))
theorem N1(h:Fy v2=some v17):sP 161 [(.vsl 34000 v2.length)] [(Z4 34000 v2)] (.tuple []) [(Z4 34000 v17)]:=
 sG Tryz.func161 λΓ q=>Af q RY [34000] (tL q h RY [34000] (λu (i1,i2,l3)=>(Du u [(0,(.vsl 34000 l3.length)),(2,(Z6 i1)),(3,(Z6 i2))] [(Z4 34000 l3)])) (λu l4=>aG Γ (.exit 0) (⟨[],[(Z4 34000 l4)],[]⟩:St)) (λ⟨i1,i2,l3⟩ y h=>Af q [0,2,3,9] [34000] (gC h (λh=>tC h λc5_ h=>tC h λc6_ h=>tC h λc7_ h=>tC h λc8_ h=>tU q RY [34000] (c8 c5_ (Eq.refl l3.length) c6_ (Eq.refl l3.length) c7_ (Eq.refl l3.length) c8_ (Eq.refl l3.length)) (Hr (Le.trans (Ie 34000 (show ∀ k_,k_<l3.length->AVleL ((λi_=>AV.eraseAll (λn_=>Bl n_ [34000]) ((Ei (Ei (λi=>Aw (l3.getD i 0)) i1.toNat 0 [(.int .i64 (l3.getD i2.toNat 0))]) i2.toNat 0 [(.int .i64 (l3.getD i1.toNat 0))]) i_)) k_) ((λi=>Aw ((xf l3 i1 i2).getD i 0)) k_) from(Cj (Eq.trans (G1 ..).symm (G1 ..).symm) (λk_ hk_=>(Ce (AV.eraseAll (λn_=>Bl n_ [34000])) ((Ky (Ky (λ_ _=>rfl) (Mq c7_) rfl) (qk c8_) rfl) k_ hk_)).trans rfl)))) (Vc (λ(k_:Nat) u=>(Du u [(0,(.vsl 34000 k_))] [(34000,.arr 1 3 k_ (λi=>Aw ((xf l3 i1 i2).getD i 0)))])) (show l3.length=(xf l3 i1 i2).length from(Eq.trans (G1 ..).symm (G1 ..).symm)))) (Af q RY [34000] (tN h)))) λh=>tS h (gO (Bn (Bs [] [34000] q))))) λx9 h=>se (λst' hl10=>tS h (gK (e:=.normal) (Ic Wi hl10))))
abbrev ww:=(LR A0 (A0 ⊕ (List Bool×A0×A0)))
def IP(a5:TGraph)(a2:Int):A0->Option ww:=
 λ(l9:A0)=>(Bf (Bd ([a2].getD (w64 (([a2].length:Int)-1)).toNat (0:Int)) 64) (Bf (Bd ([a2].getD (w64 (([a2].length:Int)-1)).toNat (0:Int)) a5.Succ.length) (bif (decide ((l9.getD ([a2].getD (w64 (([a2].length:Int)-1)).toNat (0:Int)).toNat (0:Int))<((a5.Succ.getD ([a2].getD (w64 (([a2].length:Int)-1)).toNat (0:Int)).toNat []).length:Int))) then(Bf (Bd ([a2].getD (w64 (([a2].length:Int)-1)).toNat (0:Int)) a5.Succ.length) (Bf (Bd ([a2].getD (w64 (([a2].length:Int)-1)).toNat (0:Int)) 64) (Bf (Bd (l9.getD ([a2].getD (w64 (([a2].length:Int)-1)).toNat (0:Int)).toNat (0:Int)) (a5.Succ.getD ([a2].getD (w64 (([a2].length:Int)-1)).toNat (0:Int)).toNat []).length) (Bf (Bd ([a2].getD (w64 (([a2].length:Int)-1)).toNat (0:Int)) 64) (Bf (Bd ([a2].getD (w64 (([a2].length:Int)-1)).toNat (0:Int)) 64) (Bf (Bd ((a5.Succ.getD ([a2].getD (w64 (([a2].length:Int)-1)).toNat (0:Int)).toNat []).getD (l9.getD ([a2].getD (w64 (([a2].length:Int)-1)).toNat (0:Int)).toNat (0:Int)).toNat (0:Int)) 64) (bif (!((Fz 64 false (List.replicate 64 false) a2.toNat true).getD ((a5.Succ.getD ([a2].getD (w64 (([a2].length:Int)-1)).toNat (0:Int)).toNat []).getD (l9.getD ([a2].getD (w64 (([a2].length:Int)-1)).toNat (0:Int)).toNat (0:Int)).toNat (0:Int)).toNat false)) then(Bf (Bd ((a5.Succ.getD ([a2].getD (w64 (([a2].length:Int)-1)).toNat (0:Int)).toNat []).getD (l9.getD ([a2].getD (w64 (([a2].length:Int)-1)).toNat (0:Int)).toNat (0:Int)).toNat (0:Int)) 64) (Bf ([a2].length+([((a5.Succ.getD ([a2].getD (w64 (([a2].length:Int)-1)).toNat (0:Int)).toNat []).getD (l9.getD ([a2].getD (w64 (([a2].length:Int)-1)).toNat (0:Int)).toNat (0:Int)).toNat (0:Int))]:A0).length<=room) (some (.done (.inr ((Fz 64 false (Fz 64 false (List.replicate 64 false) a2.toNat true) ((a5.Succ.getD ([a2].getD (w64 (([a2].length:Int)-1)).toNat (0:Int)).toNat []).getD (l9.getD ([a2].getD (w64 (([a2].length:Int)-1)).toNat (0:Int)).toNat (0:Int)).toNat (0:Int)).toNat true),(Fz 64 (0:Int) l9 ([a2].getD (w64 (([a2].length:Int)-1)).toNat (0:Int)).toNat (w64 ((l9.getD ([a2].getD (w64 (([a2].length:Int)-1)).toNat (0:Int)).toNat (0:Int))+1))),([a2]++([((a5.Succ.getD ([a2].getD (w64 (([a2].length:Int)-1)).toNat (0:Int)).toNat []).getD (l9.getD ([a2].getD (w64 (([a2].length:Int)-1)).toNat (0:Int)).toNat (0:Int)).toNat (0:Int))]:A0)))))))) else(some (.next (Fz 64 (0:Int) l9 ([a2].getD (w64 (([a2].length:Int)-1)).toNat (0:Int)).toNat (w64 ((l9.getD ([a2].getD (w64 (([a2].length:Int)-1)).toNat (0:Int)).toNat (0:Int))+1)))))))))))) else(some (.done (.inl l9))))))
def Jl(a5:TGraph)(l1:List Bool)(l3:A0):A0->Option ww:=
 λ(l32:A0)=>(Bf (Bd (l3.getD (w64 ((l3.length:Int)-1)).toNat (0:Int)) 64) (Bf (Bd (l3.getD (w64 ((l3.length:Int)-1)).toNat (0:Int)) a5.Succ.length) (bif (decide ((l32.getD (l3.getD (w64 ((l3.length:Int)-1)).toNat (0:Int)).toNat (0:Int))<((a5.Succ.getD (l3.getD (w64 ((l3.length:Int)-1)).toNat (0:Int)).toNat []).length:Int))) then(Bf (Bd (l3.getD (w64 ((l3.length:Int)-1)).toNat (0:Int)) a5.Succ.length) (Bf (Bd (l3.getD (w64 ((l3.length:Int)-1)).toNat (0:Int)) 64) (Bf (Bd (l32.getD (l3.getD (w64 ((l3.length:Int)-1)).toNat (0:Int)).toNat (0:Int)) (a5.Succ.getD (l3.getD (w64 ((l3.length:Int)-1)).toNat (0:Int)).toNat []).length) (Bf (Bd (l3.getD (w64 ((l3.length:Int)-1)).toNat (0:Int)) 64) (Bf (Bd (l3.getD (w64 ((l3.length:Int)-1)).toNat (0:Int)) 64) (Bf (Bd ((a5.Succ.getD (l3.getD (w64 ((l3.length:Int)-1)).toNat (0:Int)).toNat []).getD (l32.getD (l3.getD (w64 ((l3.length:Int)-1)).toNat (0:Int)).toNat (0:Int)).toNat (0:Int)) 64) (bif (!(l1.getD ((a5.Succ.getD (l3.getD (w64 ((l3.length:Int)-1)).toNat (0:Int)).toNat []).getD (l32.getD (l3.getD (w64 ((l3.length:Int)-1)).toNat (0:Int)).toNat (0:Int)).toNat (0:Int)).toNat false)) then(Bf (Bd ((a5.Succ.getD (l3.getD (w64 ((l3.length:Int)-1)).toNat (0:Int)).toNat []).getD (l32.getD (l3.getD (w64 ((l3.length:Int)-1)).toNat (0:Int)).toNat (0:Int)).toNat (0:Int)) 64) (Bf (l3.length+([((a5.Succ.getD (l3.getD (w64 ((l3.length:Int)-1)).toNat (0:Int)).toNat []).getD (l32.getD (l3.getD (w64 ((l3.length:Int)-1)).toNat (0:Int)).toNat (0:Int)).toNat (0:Int))]:A0).length<=room) (some (.done (.inr ((Fz 64 false l1 ((a5.Succ.getD (l3.getD (w64 ((l3.length:Int)-1)).toNat (0:Int)).toNat []).getD (l32.getD (l3.getD (w64 ((l3.length:Int)-1)).toNat (0:Int)).toNat (0:Int)).toNat (0:Int)).toNat true),(Fz 64 (0:Int) l32 (l3.getD (w64 ((l3.length:Int)-1)).toNat (0:Int)).toNat (w64 ((l32.getD (l3.getD (w64 ((l3.length:Int)-1)).toNat (0:Int)).toNat (0:Int))+1))),(l3++([((a5.Succ.getD (l3.getD (w64 ((l3.length:Int)-1)).toNat (0:Int)).toNat []).getD (l32.getD (l3.getD (w64 ((l3.length:Int)-1)).toNat (0:Int)).toNat (0:Int)).toNat (0:Int))]:A0)))))))) else(some (.next (Fz 64 (0:Int) l32 (l3.getD (w64 ((l3.length:Int)-1)).toNat (0:Int)).toNat (w64 ((l32.getD (l3.getD (w64 ((l3.length:Int)-1)).toNat (0:Int)).toNat (0:Int))+1)))))))))))) else(some (.done (.inl l32))))))
abbrev oS:=(List Bool×A0×A0×A0)
def Ec(a5:TGraph):oS->Option (LR (List Bool×A0×A0×A0) A0):=
 λ(s_:oS)=>match s_ with|(l1,l2,l3,l4)=>(Bf (Bd (w64 ((l3.length:Int)-1)) l3.length) ((Ad (Jl a5 l1 l3) l2).bind (λx47=>(match x47 with|(.inl l33)=>(Bf (l4.length+([(l3.getD (w64 ((l3.length:Int)-1)).toNat (0:Int))]:A0).length<=room) (Bf (0<=(w64 ((l3.length:Int)-1))/\0+(w64 ((l3.length:Int)-1)).toNat<=l3.length) (bif (decide ((0:Int)<((l3.take (w64 ((l3.length:Int)-1)).toNat).length:Int))) then(some (.next (l1,l33,(l3.take (w64 ((l3.length:Int)-1)).toNat),(l4++([(l3.getD (w64 ((l3.length:Int)-1)).toNat (0:Int))]:A0))))) else((Fy (l4++([(l3.getD (w64 ((l3.length:Int)-1)).toNat (0:Int))]:A0))).bind λx51=>(Bf ((l4++([(l3.getD (w64 ((l3.length:Int)-1)).toNat (0:Int))]:A0)).length=x51.length) (some (.done x51)))))))|(.inr (l34,l35,l36))=>(some (.next (l34,l35,l36,l4)))))))
def SM(Γ:Ih)(a5:TGraph)(a2:Int)(r:A0):Exit->St->Prop:=fK Tryz.prog Γ Tryz.f123.results.toList [] (SI r 20000) [(20000,.tok 1 3 r.length)]
def uu(l1:List Bool):=(λi=>eB (l1.getD i false))
def ku(l3:A0):=(l3.getD (w64 ((l3.length:Int)-1)).toNat (0:Int))
def ld(l4:A0)(l3:A0):=(l4++([(ku l3)]:A0))
def vm(l10:A0):=(λi=>Aw (l10.getD i 0))
def vp(l33:A0):=(λi=>Aw (l33.getD i 0))
def dQ:=(λn_=>Bl n_ [2,5,6,25,36007])
def tR(a2:Int):=(λi=>Aw ([a2].getD i 0))
def gY(a2:Int):=([a2].getD (w64 (([a2].length:Int)-1)).toNat (0:Int))
def o8(a2:Int):=(([]:A0)++([(gY a2)]:A0))
def uw(a2:Int):=(λi=>Aw ((o8 a2).getD i 0))
def uv(l4:A0)(l3:A0):=(λi=>Aw ((ld l4 l3).getD i 0))
def ut:AV:=kx
def xH:=(λi=>Aw (([]:A0).getD i 0))
def tQ(l3:A0):=(0+(w64 ((l3.length:Int)-1)).toNat)
def ur(a2:Int):=(0+(w64 (([a2].length:Int)-1)).toNat)
def xm(a2:Int):=([a2].take (w64 (([a2].length:Int)-1)).toNat)
def xj:=(λi=>Aw ((List.replicate 64 (0:Int)).getD i 0))
def lQ(a5:TGraph):List AV:=[(SJ a5.Succ),(SJ a5.Pred)]
def sO(a2:Int):=(λi=>eB ((Fz 64 false (List.replicate 64 false) a2.toNat true).getD i false))
def o7(a5:TGraph)(l3:A0)(l32:A0):=((a5.Succ.getD (ku l3).toNat []).getD (l32.getD (ku l3).toNat (0:Int)).toNat (0:Int))
def o6(a5:TGraph)(a2:Int)(l9:A0):=((a5.Succ.getD (gY a2).toNat []).getD (l9.getD (gY a2).toNat (0:Int)).toNat (0:Int))
def yd:=(Z35:St)
def ye(a2:Int):List NG:=[Ub,ln,lm,(7,(.vsl 36007 (o8 a2).length)),(8,(.vsl 25 (ur a2)))]
def yc(a2:Int)(a5:TGraph):=(⟨[Ub,ln,lm,(7,(.vsl 36007 ([]:A0).length)),(8,(.vsl 25 [a2].length)),(9,(Z6 (gY a2)))],[(Oa 99 (lQ a5)),(lp (sO a2)),(k4 xj),(25,.arr 1 3 ([a2].length) (tR a2)),(36007,.arr 1 3 (([]:A0).length) xH)],[]⟩:St)
def K3(a5:TGraph)(a2:Int):Option A0:=
 ((Vq (S:=oS) (X:=A0) ((Ur a5).bind λx5=>((bif ((!x5)==false) then Kc a2 (a5.Succ.length:Int) else some false).bind λx6=>(bif (bif (!x5) then true else(!x6)) then(some (.done ([]:A0))) else(Bf (Bd a2 64) (Bf (Bd (w64 (([a2].length:Int)-1)) [a2].length) ((Ad (IP a5 a2) (List.replicate 64 (0:Int))).bind (λx24=>(match x24 with|(.inl l10)=>(Bf (([]:A0).length+([([a2].getD (w64 (([a2].length:Int)-1)).toNat (0:Int))]:A0).length<=room) (Bf (0<=(w64 (([a2].length:Int)-1))/\0+(w64 (([a2].length:Int)-1)).toNat<=[a2].length) (bif (decide ((0:Int)<(([a2].take (w64 (([a2].length:Int)-1)).toNat).length:Int))) then(some (.next ((Fz 64 false (List.replicate 64 false) a2.toNat true),l10,([a2].take (w64 (([a2].length:Int)-1)).toNat),(([]:A0)++([([a2].getD (w64 (([a2].length:Int)-1)).toNat (0:Int))]:A0))))) else((Fy (([]:A0)++([([a2].getD (w64 (([a2].length:Int)-1)).toNat (0:Int))]:A0))).bind λx28=>(Bf ((([]:A0)++([([a2].getD (w64 (([a2].length:Int)-1)).toNat (0:Int))]:A0)).length=x28.length) (some (.done x28)))))))|(.inr (l11,l12,l13))=>(some (.next (l11,l12,l13,([]:A0)))))))))))) (Ec a5)).bind (λx54=>(some x54)))
theorem AE(h:K3 v18 v1=some v2):sP 123 (pA v18 v1) [] (SI v2 20000) [(20000,.tok 1 3 v2.length)]:=
 sG Tryz.func123 λΓ q=>have hΓ:=q.own;gR q N4 [2] [(4,ut)] [] (c1 (Ex 1 Aw (0:Int))) (tB h λx54 y54 h=>gS y54 (λ(s_:oS)=>match s_ with|(l1,l2,l3,l4)=>0) (λ(s_:oS)=>match s_ with|(l1,l2,l3,l4)=>(⟨[Ub,ln,lm,(U8 36007 l4.length),(8,(.vsl 25 l3.length))],[(Oa 99 (lQ v18)),(lp (uu l1)),(wC l2),(Z4 25 l3),(Z4 36007 l4)],[]⟩:St)) (λr_=>aR (SM Γ v18 v1 r_)) (λy h=>tB h λx5 y5 h=>tB h λx6 y6 h=>tT q [1,2,21] [2] [(Z2 x5),(Z2 x6)] (ci (YN y5) (eP ((!x5)==false) (c3 (λ(hg:((!x5)==false)=true)=>(Ra (Bk hg y6))) (gI ((!x5)==false)) (Lb (!x5))))) (gC h (λh=>gR q [4] [] [(4,ut)] [] (c1 (Ex 1 Aw (0:Int))) (Qe (⟨[(4,ut)],[],[]⟩:St) (tS h (sf (Mm (Ic ZL (show Le Γ _ yd from Le.trans (Bs (st':=⟨[(4,ut)],[],[]⟩) [4] [] q) (Le.trans (Th (t:=4) (nm:=6004) (sz':=1) xH 3 rfl rfl (.inl ⟨rfl,rfl⟩) (λh_=>absurd h_ (by decide))) (Bs (st':=yd) [4] [6004] q))))))))) λh=>gR q EE T9 [ln] [] trivial (Hr (Ie 5 (show ∀ k_,k_<64->AVleL ((λi_=>AV.eraseAll (λn_=>Bl n_ T9) ((λi=>(((List.replicate 64 [(.bool false)]).flatten).drop (i*1)).take 1) i_)) k_) ((λi=>eB ((List.replicate 64 false).getD i false)) k_) from(UB (e:=eB) (d:=false) (z:=[(.bool false)]) rfl rfl rfl))) (gR q ZP Wk [lm] [] trivial (Hr (Ie 6 (show ∀ k_,k_<64->AVleL ((λi_=>AV.eraseAll (λn_=>Bl n_ Wk) ((λi=>(((List.replicate 64 [N9]).flatten).drop (i*1)).take 1) i_)) k_) (xj k_) from(UB (e:=Aw) (d:=(0:Int)) (z:=[N9]) rfl rfl rfl))) (gR q f9 Wk [(7,ut)] [] (c1 (Ex 1 Aw (0:Int))) (tC h λc7_ h=>tU q f9 Wk (c2 c7_ (Eq.refl 64)) (Hr (Ie 5 (show ∀ k_,k_<64->AVleL ((λi_=>AV.eraseAll (λn_=>Bl n_ Wk) ((Ei (λi=>eB ((List.replicate 64 false).getD i false)) v1.toNat 0 [(.bool true)]) i_)) k_) ((sO v1) k_) from(Cj rfl (λk_ hk_=>(Ce (AV.eraseAll (λn_=>Bl n_ Wk)) ((V9 (λ_ _=>rfl) (Ha c7_) rfl) k_ hk_)).trans rfl)))) (gR q BO ZO [(25,(.vsl 25 1))] [] trivial (Hr (Le.trans (Ie 25 (show ∀ k_,k_<1->AVleL ((λi_=>AV.eraseAll (λn_=>Bl n_ ZO) ((λi_=>([(Z6 v1)].drop (i_*1)).take 1) i_)) k_) ((tR v1) k_) from(Cj rfl (rR (n:=0) uX rfl)))) (Vc (λ(k_:Nat) u=>(Du u [(8,(.vsl 25 k_))] [(25,.arr 1 3 k_ (tR v1))])) (show 1=[v1].length from rfl))) (tC h λc8_ h=>tU q EB ZO (c2 c8_ (Eq.refl ([v1].length))) (Hr (st':=(yc v1 v18)) (Le.trans (Bs (st':=⟨[Ub,ln,lm,(7,ut),(8,(.vsl 25 [v1].length)),(9,(Z6 (gY v1)))],[(Oa 99 (lQ v18)),(lp (sO v1)),(k4 xj),(25,.arr 1 3 ([v1].length) (tR v1))],[]⟩) EB ZO q) (Le.trans (uI (t:=7) (nm:=36007) (sz':=1) xH 3 rfl rfl) (Bs (st':=(yc v1 v18)) EB Ph q))) (tL q h EB Ph (λu l9=>(Du u [] [(wC l9)])) (λu x_=>match x_ with|(.inl l10)=>aG Γ (.exit 0) (Du u [] [(k4 (vm l10))])|(.inr (l11,l12,l13))=>aG Γ (.goto 0) (N2 BO Ph u [(8,(.vsl 25 l13.length))] [(5,.arr 1 207 64 (λi=>eB (l11.getD i false))),(wC l12),(Z4 25 l13)])) (λl9 y h=>tC h λc14_ h=>tC h λc15_ h=>tU q [2,5,6,7,8,9,41] Ph (c3 c14_ (Eq.refl 64) c15_) (gC h (λh=>tC h λc16_ h=>tC h λc17_ h=>tC h λc18_ h=>tU q ZF Ph (c4 c16_ c17_ (Eq.refl 64) c18_) (tC h λc19_ h=>tC h λc20_ h=>tU q ZF Ph (c4 c19_ (Eq.refl 64) c20_ (Eq.refl 64)) (Hr (Ie 6 (show ∀ k_,k_<64->AVleL ((λi_=>AV.eraseAll dQ ((Ei (λi=>Aw (l9.getD i 0)) (gY v1).toNat 0 [(.int .i64 (w64 ((l9.getD (gY v1).toNat (0:Int))+1)))]) i_)) k_) ((λi=>Aw ((Fz 64 (0:Int) l9 (gY v1).toNat (w64 ((l9.getD (gY v1).toNat (0:Int))+1))).getD i 0)) k_) from(Cj rfl (λk_ hk_=>(Ce (AV.eraseAll dQ) ((V9 (λ_ _=>rfl) (Ha c20_) rfl) k_ hk_)).trans rfl)))) (tC h λc21_ h=>tU q ol Ph (c2 c21_ (Eq.refl 64)) (gC h (λh=>tC h λc22_ h=>tU q [2,5,6,7,8,10] Ph (c2 c22_ (Eq.refl 64)) (Hr (Ie 5 (show ∀ k_,k_<64->AVleL ((λi_=>AV.eraseAll dQ ((Ei (sO v1) (o6 v18 v1 l9).toNat 0 [(.bool true)]) i_)) k_) ((λi=>eB ((Fz 64 false (Fz 64 false (List.replicate 64 false) v1.toNat true) (o6 v18 v1 l9).toNat true).getD i false)) k_) from(Cj rfl (λk_ hk_=>(Ce (AV.eraseAll dQ) ((V9 (λ_ _=>rfl) (Ha c22_) rfl) k_ hk_)).trans rfl)))) (tC h λc23_ h=>gR q BO Ph [(65,(qB (o6 v18 v1 l9)))] [] (c3 (B1 1 Aw (0:Int) ([(o6 v18 v1 l9)]:A0)) (Eq.refl ([v1].length)) c23_) (tS h (gO (Bn (Le.trans (Le.trans (Ie 25 (show ∀ k_,k_<([v1].length+([(o6 v18 v1 l9)]:A0).length)->AVleL ((λi_=>AV.eraseAll dQ ((Ob ([v1].length) (tR v1) (λi=>Aw (([(o6 v18 v1 l9)]:A0).getD i 0))) i_)) k_) ((λi=>Aw (([v1]++([(o6 v18 v1 l9)]:A0)).getD i 0)) k_) from(Cj (Fj _ _) (λk_ hk_=>(Ce (AV.eraseAll dQ) ((FS (λ_ _=>rfl) (λ_ _=>rfl)) k_ hk_)).trans rfl)))) (Vc (λ(k_:Nat) u=>(Du u [(8,(.vsl 25 k_))] [(25,.arr 1 3 k_ (λi=>Aw (([v1]++([(o6 v18 v1 l9)]:A0)).getD i 0)))])) (show([v1].length+([(o6 v18 v1 l9)]:A0).length)=([v1]++([(o6 v18 v1 l9)]:A0)).length from(Fj _ _)))) I9))))))) λh=>tS h (gN (Bs EB Ph q))))))) λh=>tS h (gO (Bn (Bs EB Ph q))))) λx24 h=>(match x24,h with | .inl l10,h=>gA (tC h λc26_ h=>gR q BO Ph [(69,(qB (gY v1)))] [] (c3 (B1 1 Aw (0:Int) ([(gY v1)]:A0)) (Eq.refl (([]:A0).length)) c26_) (Hr (Le.trans (Ie 36007 (show ∀ k_,k_<(([]:A0).length+([(gY v1)]:A0).length)->AVleL ((λi_=>AV.eraseAll dQ ((Ob (([]:A0).length) xH (λi=>Aw (([(gY v1)]:A0).getD i 0))) i_)) k_) ((uw v1) k_) from(Cj (Fj _ _) (λk_ hk_=>(Ce (AV.eraseAll dQ) ((FS (λ_ _=>rfl) (λ_ _=>rfl)) k_ hk_)).trans rfl)))) (Vc (λ(k_:Nat) u=>(Du u [(U8 36007 k_)] [(36007,.arr 1 3 k_ (uw v1))])) (show(([]:A0).length+([(gY v1)]:A0).length)=(o8 v1).length from(Fj _ _)))) (tC h λc27_ h=>tU q BO Ph (c1 c27_) (Qe (⟨[Ub,ln,lm,(7,(.vsl 36007 (o8 v1).length)),(8,(.vsub 25 [v1].length 0 (ur v1)))],[(Oa 99 (lQ v18)),(lp (sO v1)),(k4 (vm l10)),(25,.arr 1 3 ([v1].length) (tR v1)),(36007,.arr 1 3 ((o8 v1).length) (uw v1))],[]⟩:St) (Hr (Le.trans (Le.trans (bj (t:=8) (r:=25) (k:=(ur v1)) rfl rfl c27_.2 (by kernel_rfl) (.row (by kernel_rfl) (.arr (λ_=>by kernel_rfl) (.arr (λ_=>by kernel_rfl) (.arr (λ_=>by kernel_rfl) (.arr (λ_=>by kernel_rfl) .nil))))) (by rw[hΓ];rfl)) (J7 (st':=⟨(ye v1),[(Oa 99 (lQ v18)),(lp (sO v1)),(k4 (vm l10)),(25,.arr 1 3 (ur v1) (tR v1)),(36007,.arr 1 3 ((o8 v1).length) (uw v1))],[]⟩) (by kernel_rfl))) (Le.trans (Fo (st':=⟨(ye v1),[(Oa 99 (lQ v18)),(lp (sO v1)),(k4 (vm l10)),(25,.arr 1 3 (ur v1) (λi=>Aw ((xm v1).getD i 0))),(36007,.arr 1 3 ((o8 v1).length) (uw v1))],[]⟩) (TmpsLe.refl _) (.same (.same (.same (.arr (iZ (e:=Aw) (d:=(0:Int))) (.same .nil)))))) (J7 (Ce (λk_:Nat=>(⟨[Ub,ln,lm,(7,(.vsl 36007 (o8 v1).length)),(8,(.vsl 25 k_))],[(Oa 99 (lQ v18)),(lp (sO v1)),(k4 (vm l10)),(25,.arr 1 3 k_ (λi=>Aw ((xm v1).getD i 0))),(36007,.arr 1 3 ((o8 v1).length) (uw v1))],[]⟩:St)) (show(ur v1)=(xm v1).length from cx c27_.2))))) (Af q [2,5,6,7,8,78] Ph (gC h (λh=>tS h (qh (Bs BO Ph q))) λh=>tB h λx28 y28 h=>tC h λc29_ h=>tT q [7] [36007] [⟨[(36007,34000)],[],(.tuple []),[(Z4 34000 x28)],[],[]⟩] (c1 (N1 y28)) (Hr (Vc (λ(k_:Nat) u=>(Du u [(U8 36007 k_)] [])) (show(o8 v1).length=x28.length from c29_)) (Af q [4] [36007] (Qe (⟨[(4,(.vsl 36007 x28.length))],[(Z4 36007 x28)],[]⟩:St) (tS h (sf (Mm (Ic [(36007,20000)] (Le.trans (Ka (nm:=36007) (sz:=1) (n:=x28.length) (e:=3) (f:=(λi=>Aw (x28.getD i 0))) (g:=(λi=>Aw (x28.getD i 0))) rfl ⟨rfl,trivial⟩ (λ_ _=>rfl) (by rw[hΓ];rfl)) (J7 (st':=(wH x28 36007 x28.length)) (by kernel_rfl))))))))))))))))) | .inr ⟨l11,l12,l13⟩,h=>se (λst' hl30=>tS h (qh (Le.trans hl30 I9))))))))))))))))) (λ⟨l1,l2,l3,l4⟩ y h=>tC h λc31_ h=>tU q EB Ph (c2 c31_ (Eq.refl l3.length)) (tL q h EB Ph (λu l32=>(Du u [] [(wC l32)])) (λu x_=>match x_ with|(.inl l33)=>aG Γ (.exit 0) (Du u [] [(k4 (vp l33))])|(.inr (l34,l35,l36))=>aG Γ (.goto 0) (N2 BO Ph u [(8,(.vsl 25 l36.length))] [(5,.arr 1 207 64 (λi=>eB (l34.getD i false))),(wC l35),(Z4 25 l36)])) (λl32 y h=>tC h λc37_ h=>tC h λc38_ h=>tU q [2,5,6,7,8,9,41] Ph (c3 c37_ (Eq.refl 64) c38_) (gC h (λh=>tC h λc39_ h=>tC h λc40_ h=>tC h λc41_ h=>tU q ZF Ph (c4 c39_ c40_ (Eq.refl 64) c41_) (tC h λc42_ h=>tC h λc43_ h=>tU q ZF Ph (c4 c42_ (Eq.refl 64) c43_ (Eq.refl 64)) (Hr (Ie 6 (show ∀ k_,k_<64->AVleL ((λi_=>AV.eraseAll dQ ((Ei (λi=>Aw (l32.getD i 0)) (ku l3).toNat 0 [(.int .i64 (w64 ((l32.getD (ku l3).toNat (0:Int))+1)))]) i_)) k_) ((λi=>Aw ((Fz 64 (0:Int) l32 (ku l3).toNat (w64 ((l32.getD (ku l3).toNat (0:Int))+1))).getD i 0)) k_) from(Cj rfl (λk_ hk_=>(Ce (AV.eraseAll dQ) ((V9 (λ_ _=>rfl) (Ha c43_) rfl) k_ hk_)).trans rfl)))) (tC h λc44_ h=>tU q ol Ph (c2 c44_ (Eq.refl 64)) (gC h (λh=>tC h λc45_ h=>tU q [2,5,6,7,8,10] Ph (c2 c45_ (Eq.refl 64)) (Hr (Ie 5 (show ∀ k_,k_<64->AVleL ((λi_=>AV.eraseAll dQ ((Ei (uu l1) (o7 v18 l3 l32).toNat 0 [(.bool true)]) i_)) k_) ((λi=>eB ((Fz 64 false l1 (o7 v18 l3 l32).toNat true).getD i false)) k_) from(Cj rfl (λk_ hk_=>(Ce (AV.eraseAll dQ) ((V9 (λ_ _=>rfl) (Ha c45_) rfl) k_ hk_)).trans rfl)))) (tC h λc46_ h=>gR q BO Ph [(65,(qB (o7 v18 l3 l32)))] [] (c3 (B1 1 Aw (0:Int) ([(o7 v18 l3 l32)]:A0)) (Eq.refl l3.length) c46_) (tS h (gO (Bn (Le.trans (Le.trans (Ie 25 (show ∀ k_,k_<(l3.length+([(o7 v18 l3 l32)]:A0).length)->AVleL ((λi_=>AV.eraseAll dQ ((Ob l3.length (λi=>Aw (l3.getD i 0)) (λi=>Aw (([(o7 v18 l3 l32)]:A0).getD i 0))) i_)) k_) ((λi=>Aw ((l3++([(o7 v18 l3 l32)]:A0)).getD i 0)) k_) from(Cj (Fj _ _) (λk_ hk_=>(Ce (AV.eraseAll dQ) ((FS (λ_ _=>rfl) (λ_ _=>rfl)) k_ hk_)).trans rfl)))) (Vc (λ(k_:Nat) u=>(Du u [(8,(.vsl 25 k_))] [(25,.arr 1 3 k_ (λi=>Aw ((l3++([(o7 v18 l3 l32)]:A0)).getD i 0)))])) (show(l3.length+([(o7 v18 l3 l32)]:A0).length)=(l3++([(o7 v18 l3 l32)]:A0)).length from(Fj _ _)))) I9))))))) λh=>tS h (gN (Bs EB Ph q))))))) λh=>tS h (gO (Bn (Bs EB Ph q))))) λx47 h=>(match x47,h with | .inl l33,h=>gA (tC h λc49_ h=>gR q BO Ph [(69,(qB (ku l3)))] [] (c3 (B1 1 Aw (0:Int) ([(ku l3)]:A0)) (Eq.refl l4.length) c49_) (Hr (Le.trans (Ie 36007 (show ∀ k_,k_<(l4.length+([(ku l3)]:A0).length)->AVleL ((λi_=>AV.eraseAll dQ ((Ob l4.length (λi=>Aw (l4.getD i 0)) (λi=>Aw (([(ku l3)]:A0).getD i 0))) i_)) k_) ((uv l4 l3) k_) from(Cj (Fj _ _) (λk_ hk_=>(Ce (AV.eraseAll dQ) ((FS (λ_ _=>rfl) (λ_ _=>rfl)) k_ hk_)).trans rfl)))) (Vc (λ(k_:Nat) u=>(Du u [(U8 36007 k_)] [(36007,.arr 1 3 k_ (uv l4 l3))])) (show(l4.length+([(ku l3)]:A0).length)=(ld l4 l3).length from(Fj _ _)))) (tC h λc50_ h=>tU q BO Ph (c1 c50_) (Qe (⟨[Ub,ln,lm,(7,(.vsl 36007 (ld l4 l3).length)),(8,(.vsub 25 l3.length 0 (tQ l3)))],[(Oa 99 (lQ v18)),(lp (uu l1)),(k4 (vp l33)),(Z4 25 l3),(36007,.arr 1 3 ((ld l4 l3).length) (uv l4 l3))],[]⟩:St) (Hr (Le.trans (Le.trans (bj (t:=8) (r:=25) (k:=(tQ l3)) rfl rfl c50_.2 (by kernel_rfl) (.row (by kernel_rfl) (.arr (λ_=>by kernel_rfl) (.arr (λ_=>by kernel_rfl) (.arr (λ_=>by kernel_rfl) (.arr (λ_=>by kernel_rfl) .nil))))) (by rw[hΓ];rfl)) (J7 (st':=⟨[Ub,ln,lm,(7,(.vsl 36007 (ld l4 l3).length)),(8,(.vsl 25 (tQ l3)))],[(Oa 99 (lQ v18)),(lp (uu l1)),(k4 (vp l33)),(25,.arr 1 3 (tQ l3) (λi=>Aw (l3.getD i 0))),(36007,.arr 1 3 ((ld l4 l3).length) (uv l4 l3))],[]⟩) (by kernel_rfl))) (Le.trans (Fo (st':=⟨[Ub,ln,lm,(7,(.vsl 36007 (ld l4 l3).length)),(8,(.vsl 25 (tQ l3)))],[(Oa 99 (lQ v18)),(lp (uu l1)),(k4 (vp l33)),(25,.arr 1 3 (tQ l3) (λi=>Aw ((l3.take (w64 ((l3.length:Int)-1)).toNat).getD i 0))),(36007,.arr 1 3 ((ld l4 l3).length) (uv l4 l3))],[]⟩) (TmpsLe.refl _) (.same (.same (.same (.arr (iZ (e:=Aw) (d:=(0:Int))) (.same .nil)))))) (J7 (Ce (λk_:Nat=>(⟨[Ub,ln,lm,(7,(.vsl 36007 (ld l4 l3).length)),(8,(.vsl 25 k_))],[(Oa 99 (lQ v18)),(lp (uu l1)),(k4 (vp l33)),(25,.arr 1 3 k_ (λi=>Aw ((l3.take (w64 ((l3.length:Int)-1)).toNat).getD i 0))),(36007,.arr 1 3 ((ld l4 l3).length) (uv l4 l3))],[]⟩:St)) (show(tQ l3)=(l3.take (w64 ((l3.length:Int)-1)).toNat).length from cx c50_.2))))) (Af q [2,5,6,7,8,78] Ph (gC h (λh=>tS h (qh (Bs BO Ph q))) λh=>tB h λx51 y51 h=>tC h λc52_ h=>tT q [7] [36007] [⟨[(36007,34000)],[],(.tuple []),[(Z4 34000 x51)],[],[]⟩] (c1 (N1 y51)) (Hr (Vc (λ(k_:Nat) u=>(Du u [(U8 36007 k_)] [])) (show(ld l4 l3).length=x51.length from c52_)) (Af q [4] [36007] (Qe (⟨[(4,(.vsl 36007 x51.length))],[(Z4 36007 x51)],[]⟩:St) (tS h (sf (Mm (Ic [(36007,20000)] (Le.trans (Ka (nm:=36007) (sz:=1) (n:=x51.length) (e:=3) (f:=(λi=>Aw (x51.getD i 0))) (g:=(λi=>Aw (x51.getD i 0))) rfl ⟨rfl,trivial⟩ (λ_ _=>rfl) (by rw[hΓ];rfl)) (J7 (st':=(wH x51 36007 x51.length)) (by kernel_rfl))))))))))))))))) | .inr ⟨l34,l35,l36⟩,h=>se (λst' hl53=>tS h (qh (Le.trans hl53 I9)))))) (Pi (λst' hk=>tS h (gK hk))))
def GI(a3:Int)(aM:Int):Option G7:=
 (some ((Cl ((Cl ((Cl ((HG .u64 a3 (32:Int))*(HG .u64 aM (32:Int))))+(HG .u64 (Cl ((Cl ((HG .u64 a3 (32:Int))*(Ui .and .u64 aM (4294967295:Int))))+(HG .u64 (Cl ((Ui .and .u64 a3 (4294967295:Int))*(Ui .and .u64 aM (4294967295:Int)))) (32:Int)))) (32:Int))))+(HG .u64 (Cl ((Ui .and .u64 (Cl ((Cl ((HG .u64 a3 (32:Int))*(Ui .and .u64 aM (4294967295:Int))))+(HG .u64 (Cl ((Ui .and .u64 a3 (4294967295:Int))*(Ui .and .u64 aM (4294967295:Int)))) (32:Int)))) (4294967295:Int))+(Cl ((Ui .and .u64 a3 (4294967295:Int))*(HG .u64 aM (32:Int)))))) (32:Int)))),(Cl (a3*aM))))
variable{v19:G7}
theorem TB(h:GI v1 v11=some v19):sP 208 [(Nx v1),(Nx v11)] [] (.tuple [(Nx v19.1),(Nx v19.2)]) []:=
 sG Tryz.func208 λΓ q=>tW q I8 [] [0,1,6] [] (tU q [0,1,6,7] [] (c1 (show(0<=(32:Int)) from(by decide))) (Af q [0,1,6,7,8] [] (tU q [0,1,6,7,8,9] [] (c1 (show(0<=(32:Int)) from(by decide))) (Af q [0,1,6,7,8,9,10] [] (tU q [0,1,6,7,9,11] [] (c1 (show(0<=(32:Int)) from(by decide))) (Af q [0,1,6,7,9,11,12] [] (tU q [0,1,6,7,9,12,13] [] (c1 (show(0<=(32:Int)) from(by decide))) (Af q [0,1,7,9,12,13] [] (tU q RZ [] (c1 (show(0<=(32:Int)) from(by decide))) (Af q Qq [] (tS h (Cf []))))))))))))
def Qw(a3:Int)(aM:Int):Option G7:=
 ((GI a3 aM).bind λx1=>(some (x1.1,x1.2)))
theorem KY(h:Qw v1 v11=some v19):sP 185 [(Nx v1),(Nx v11)] [] (.tuple [(Nx v19.1),(Nx v19.2)]) []:=
 sG Tryz.func185 λΓ q=>Af q I8 [] (jq false (tB h λx1 y1 h=>tT q [8,9] [] [⟨[],[],(.tuple [(Nx x1.1),(Nx x1.2)]),[],[],[]⟩] (c1 (TB y1)) (Af q Qq [] (tS h (Cf [])))))
abbrev JN:=(Int×A0)
abbrev ui:=(LR (Int×A0) A0)
def Dr :JN->Option ui:=
 λ((i7,l8):JN)=>(bif (decide (i7<(l8.length:Int))) then(Bf (0<=i7/\0+i7.toNat<=l8.length) (Bf (0<=i7/\0+i7.toNat<=l8.length) (some (.next ((w64 (i7+((Nat.min ((0+i7.toNat)-0) (l8.length-(0+i7.toNat))):Int))),(eI l8 (0+i7.toNat) (Nat.min ((0+i7.toNat)-0) (l8.length-(0+i7.toNat))) (λi=>l8.getD (0+i) 0))))))) else(some (.done l8)))
def lf(x3:G7):=(List.replicate (w64 x3.2).toNat (0:Int))
def xo(x3:G7)(a3:A0):=(eI (lf x3) 0 (Nat.min a3.length ((lf x3).length-0)) (λi=>a3.getD i 0))
def xn(l8:A0)(i7:Int):=(eI l8 (0+i7.toNat) (Nat.min ((0+i7.toNat)-0) (l8.length-(0+i7.toNat))) (λi=>l8.getD (0+i) 0))
def Ix(a3:A0)(aa5:Int):Option A0:=
 (Option.bind (α:=Unit) (bif (decide (aa5<0)) then none else(some ())) (λx1=>(match x1 with|_=>((Qw (Cl (a3.length:Int)) (Cl aa5)).bind λx3=>(Option.bind (α:=Unit) (bif (bif (decide ((0:Int)<x3.1)) then true else(decide ((9223372036854775807:Int)<x3.2))) then none else(some ())) (λx4=>(match x4 with|_=>(Bf (0<=(w64 x3.2)/\(w64 x3.2)<=(w64 x3.2)/\(w64 x3.2)<=(room:Int)) ((Ad (S:=JN) (X:=A0) Dr (((Nat.min a3.length ((List.replicate (w64 x3.2).toNat (0:Int)).length-0)):Int),(eI (List.replicate (w64 x3.2).toNat (0:Int)) 0 (Nat.min a3.length ((List.replicate (w64 x3.2).toNat (0:Int)).length-0)) (λi=>a3.getD i 0)))).bind (λx12=>(some x12)))))))))))
theorem Vp(h:Ix v2 v1=some v17):sP 162 [(Z7 v2),(Z6 v1)] [] (.vsl 20000 v17.length) [(Z4 20000 v17)]:=
 sG Tryz.func162 λΓ q=>gR q I8 [] [(4,kx)] [] (c1 (Ex 1 Aw (0:Int))) (tB h λx1 y1 h=>gJ y1 (λ_=>aG Γ .normal (⟨[(0,(Z7 v2)),(1,(Z6 v1))],[],[]⟩:St)) (λy h=>Af q HV [] (gC h (λh=>nomatch h) λh=>tS h (gK (Bn (Bs I8 [] q))))) (gA (tB h λx3 y3 h=>tT q [0,5,6] [] [⟨[],[],(.tuple [(Nx x3.1),(Nx x3.2)]),[],[],[]⟩] (c1 (KY y3)) (tB h λx4 y4 h=>gJ y4 (λ_=>aG Γ .normal (⟨[(0,(Z7 v2)),(6,(Nx x3.2))],[],[]⟩:St)) (λy h=>tU q [0,6,26] [] (c2 (gI ((decide ((0:Int)<x3.1))==false)) (Lb (decide ((0:Int)<x3.1)))) (gC h (λh=>nomatch h) λh=>tS h (gK (Bn (Bs [0,6] [] q))))) (gA (tV q [0,7] [30] h λh=>by exact Hr (Le.trans (Ie 30 (show ∀ k_,k_<((w64 x3.2).toNat)->AVleL ((λi_=>AV.eraseAll (λn_=>Bl n_ [30]) ((λ_=>[N9]) i_)) k_) ((λi=>Aw ((lf x3).getD i 0)) k_) from(λk hk=>Sz (e:=Aw) (d:=(0:Int)) (.cons (AVle.refl _) .nil) _ k (S2 hk)))) (Vc (λ(k_:Nat) u=>(Du u [(U8 30 k_)] [(30,.arr 1 3 k_ (λi=>Aw ((lf x3).getD i 0)))])) (show(w64 x3.2).toNat=(lf x3).length from(T5 ..).symm))) (tU q Qr [30] (c1 (Eq.refl ((lf x3).length))) (Hr (Le.trans (Ie 30 (show ∀ k_,k_<((lf x3).length)->AVleL ((λi_=>AV.eraseAll (λn_=>Bl n_ [30]) ((bT (λi=>Aw ((lf x3).getD i 0)) 0 (Nat.min v2.length ((lf x3).length-0)) (λi=>Aw (v2.getD i 0))) i_)) k_) ((λi=>Aw ((xo x3 v2).getD i 0)) k_) from(Cj (Jn ..) (λk_ hk_=>(Ce (AV.eraseAll (λn_=>Bl n_ [30])) ((MP (e:=Aw) (d:=(0:Int)) (l:=(lf x3)) (s:=(λi=>v2.getD i 0)) (λ_ _=>rfl) (λ_ _=>rfl)) k_ hk_)).trans rfl)))) (Vc (λ(k_:Nat) u=>(Du u [(U8 30 k_)] [(30,.arr 1 3 k_ (λi=>Aw ((xo x3 v2).getD i 0)))])) (show(lf x3).length=(xo x3 v2).length from(Jn ..)))) (tL q h Qr [30] (λu (i7,l8)=>(Du u [(U8 30 l8.length),(8,(Z6 i7))] [(Z4 30 l8)])) (λu l9=>aG Γ (.exit 0) (⟨[(U8 30 l9.length)],[(Z4 30 l9)],[]⟩:St)) (λ⟨i7,l8⟩ y h=>Af q [7,8,37] [30] (gC h (λh=>tC h λc10_ h=>tC h λc11_ h=>tU q Qr [30] (c4 c10_ c11_ (Eq.refl l8.length) (Eq.refl l8.length)) (tS h (gN (Le.trans (Le.trans (Ie 30 (show ∀ k_,k_<l8.length->AVleL ((λi_=>AV.eraseAll (λn_=>Bl n_ [30]) ((bT (λi=>Aw (l8.getD i 0)) (0+i7.toNat) (Nat.min ((0+i7.toNat)-0) (l8.length-(0+i7.toNat))) (λi=>(λi=>Aw (l8.getD i 0)) (0+i))) i_)) k_) ((λi=>Aw ((xn l8 i7).getD i 0)) k_) from(Cj (Jn ..) (λk_ hk_=>(Ce (AV.eraseAll (λn_=>Bl n_ [30])) ((MP (e:=Aw) (d:=(0:Int)) (l:=l8) (s:=(λi=>l8.getD (0+i) 0)) (λ_ _=>rfl) (λ_ _=>rfl)) k_ hk_)).trans rfl)))) (Vc (λ(k_:Nat) u=>(Du u [(U8 30 k_)] [(30,.arr 1 3 k_ (λi=>Aw ((xn l8 i7).getD i 0)))])) (show l8.length=(xn l8 i7).length from(Jn ..)))) I9)))) λh=>tS h (gO (Bn (Bs [7] [30] q))))) λx12 h=>gA (Af q [4] [30] (tS h (Cf [(30,20000)]))))))))))))
abbrev TR:=(Int×List Bool)
abbrev oT:=(LR (Int×List Bool) (List Bool))
def Jg(a8:A0):TR->Option oT:=
 λ((i2,l3):TR)=>(bif (i2 !=-1) then(Bf (Bd i2 l3.length) (Bf (Bd i2 a8.length) (some (.next ((a8.getD i2.toNat 0),(l3.set i2.toNat true)))))) else(some (.done l3)))
def Jh(a8:A0)(l4:List Bool):Int->Option (LR Int Int):=
 λ(i9:Int)=>(Bf (Bd i9 l4.length) (bif (!(l4.getD i9.toNat false)) then(Bf (Bd i9 a8.length) (some (.next (a8.getD i9.toNat 0)))) else(some (.done i9))))
def Qy(a8:A0)(aE:Int)(aH:Int):Option Int:=
 (Bf (0<=(a8.length:Int)/\(a8.length:Int)<=(a8.length:Int)/\(a8.length:Int)<=(room:Int)) ((Ad (Jg a8) (aE,(List.replicate (a8.length:Int).toNat false))).bind (λx7=>((Ad (Jh a8 x7) aH).bind (λx13=>(some x13))))))
variable{v20:Int}
theorem KZ(h:Qy v2 v1 v11=some v20):sP 186 [(Z7 v2),(Z6 v1),(Z6 v11)] [] (.int .i64 v20) []:=
 sG Tryz.func186 λΓ q=>Af q RX [] (tV q [0,1,2,7] [11] h λh=>by exact Hr (Le.trans (Ie 11 (show ∀ k_,k_<((v2.length:Int).toNat)->AVleL ((λi_=>AV.eraseAll (λn_=>Bl n_ [11]) ((λ_=>[(.bool false)]) i_)) k_) ((λi=>eB ((List.replicate (v2.length:Int).toNat false).getD i false)) k_) from(λk hk=>Sz (e:=eB) (d:=false) (.cons (AVle.refl _) .nil) _ k (S2 hk)))) (Vc (λ(k_:Nat) u=>(Du u [(U8 11 k_)] [(11,.arr 1 4 k_ (λi=>eB ((List.replicate (v2.length:Int).toNat false).getD i false)))])) (show(v2.length:Int).toNat=(List.replicate (v2.length:Int).toNat false).length from(T5 ..).symm))) (Af q ZQ [11] (tL q h ZQ [11] (λu (i2,l3)=>(Du u [(U8 11 l3.length),(8,(Z6 i2))] [(jP 11 l3)])) (λu l4=>aG Γ (.exit 0) (N2 SA [11] u [(U8 11 l4.length)] [(jP 11 l4)])) (λ⟨i2,l3⟩ y h=>Af q [0,2,7,8,14] [11] (gC h (λh=>tC h λc5_ h=>tU q ZQ [11] (c2 c5_ (Eq.refl l3.length)) (Hr (Le.trans (Ie 11 (show ∀ k_,k_<l3.length->AVleL ((λi_=>AV.eraseAll (λn_=>Bl n_ [11]) ((Ei (λi=>eB (l3.getD i false)) i2.toNat 0 [(.bool true)]) i_)) k_) ((λi=>eB ((l3.set i2.toNat true).getD i false)) k_) from(Cj (G1 ..).symm (λk_ hk_=>(Ce (AV.eraseAll (λn_=>Bl n_ [11])) ((Ky (λ_ _=>rfl) (Mq c5_) rfl) k_ hk_)).trans rfl)))) (Vc (λ(k_:Nat) u=>(Du u [(U8 11 k_)] [(11,.arr 1 4 k_ (λi=>eB ((l3.set i2.toNat true).getD i false)))])) (show l3.length=(l3.set i2.toNat true).length from(G1 ..).symm))) (tV q ZQ [11] h λh=>tN h))) λh=>tS h (gO (Bn (Bs SA [11] q))))) λx7 h=>gA (tL q h SA [11] (λu i9=>(Du u [(2,(Z6 i9))] [])) (λu i10=>aG Γ (.exit 2) (⟨[(2,(Z6 i10))],[],[]⟩:St)) (λi9 y h=>tC h λc11_ h=>tU q [0,2,7,26] [11] (c2 c11_ (Eq.refl x7.length)) (gC h (λh=>tV q SA [11] h λh=>tN h) λh=>tS h (gO (Bn (Bs [2] [] q))))) λx13 h=>gA (Af q [6] [] (tS h (Cf [])))))))
def F4(a8:A0)(aD:A0):G7->Option uk:=
 λ((i1,i2):G7)=>(bif (decide (i2<(aD.length:Int))) then(Option.bind (α:=Int) (Bf (Bd i2 aD.length) (Bf (Bd (aD.getD i2.toNat 0) a8.length) (bif ((a8.getD (aD.getD i2.toNat 0).toNat (0:Int))==-2) then(some i1) else(bif (i1==-2) then(some (aD.getD i2.toNat 0)) else((Qy a8 i1 (aD.getD i2.toNat 0)).bind λx7=>(some x7)))))) (λx8=>(some (.next (x8,(w64 (i2+1))))))) else(some (.done i1)))
def Ml(a8:A0)(aD:A0):Option Int:=
 ((Ad (F4 a8 aD) ((-2:Int),(0:Int))).bind (λx10=>(some x10)))
theorem AD(h:Ml v2 v17=some v1):sP 163 [(Z7 v2),(Z7 v17)] [] (.int .i64 v1) []:=
 sG Tryz.func163 λΓ q=>tW q I8 [] Pd [] (Af q WL [] (tL q h WL [] (λu (i1,i2)=>(Du u [(5,(Z6 i1)),(10,(Z6 i2))] [])) (λu i3=>aG Γ (.exit 0) (⟨[(5,(Z6 i3))],[],[]⟩:St)) (λ⟨i1,i2⟩ y h=>Af q [0,5,8,9,10,11] [] (gC h (λh=>tB h λx8 y8 h=>gJ y8 (λi4=>aG Γ .normal (⟨[(0,(Z7 v2)),(5,(Z6 i4)),(8,(Z7 v17)),(9,(SL v17.length)),(10,(Z6 i2))],[],[]⟩:St)) (λy h=>tV q [0,5,7,8,9,10] [] h λh=>tV q [0,5,7,8,9,10,18] [] h λh=>gC h (λh=>tS h (gK (Bn (Bs WL [] q)))) λh=>Af q [0,5,7,8,9,10,24] [] (gC h (λh=>Af q WL [] (tS h (gK (Bn I9)))) λh=>tB h λx7 y7 h=>tT q WL [] [(SK x7)] (c1 (KZ y7)) (tS h (gK (Bn I9))))) (gA (Af q WL [] (tN h)))) λh=>tS h (gO (Bn (Bs [5] [] q))))) λx10 h=>gA (Af q [4] [] (tS h (Cf [])))))
set_option maxRecDepth 100000
set_option maxHeartbeats 2000000
abbrev sC:=(Bool×Int×A0)
abbrev wx:=(LR (Bool×Int×A0) (Bool×A0))
abbrev oU:=(Bool×A0)
def Fq(a5:TGraph)(x3:A0):sC->Option wx:=
 λ((b7,i8,l9):sC)=>(bif (decide (i8<((x3.drop (1:Int).toNat).length:Int))) then(Option.bind (α:=oU) (Bf (Bd i8 (x3.drop (1:Int).toNat).length) (Bf (Bd ((x3.drop (1:Int).toNat).getD i8.toNat 0) a5.Pred.length) ((Ml l9 (a5.Pred.getD ((x3.drop (1:Int).toNat).getD i8.toNat 0).toNat [])).bind λx16=>(Bf (Bd ((x3.drop (1:Int).toNat).getD i8.toNat 0) l9.length) (bif (x16 !=(l9.getD ((x3.drop (1:Int).toNat).getD i8.toNat 0).toNat (0:Int))) then(Bf (Bd ((x3.drop (1:Int).toNat).getD i8.toNat 0) l9.length) (some (true,(l9.set ((x3.drop (1:Int).toNat).getD i8.toNat 0).toNat x16)))) else(some (b7,l9))))))) (λ(b12,l13)=>(some (.next (b12,(w64 (i8+1)),l13))))) else(some (.done (b7,l9))))
def Ve(a5:TGraph)(l1:A0):sC->Option wx:=
 λ((b24,i25,l26):sC)=>(bif (decide (i25<((l1.drop (1:Int).toNat).length:Int))) then(Option.bind (α:=oU) (Bf (Bd i25 (l1.drop (1:Int).toNat).length) (Bf (Bd ((l1.drop (1:Int).toNat).getD i25.toNat 0) a5.Pred.length) ((Ml l26 (a5.Pred.getD ((l1.drop (1:Int).toNat).getD i25.toNat 0).toNat [])).bind λx33=>(Bf (Bd ((l1.drop (1:Int).toNat).getD i25.toNat 0) l26.length) (bif (x33 !=(l26.getD ((l1.drop (1:Int).toNat).getD i25.toNat 0).toNat (0:Int))) then(Bf (Bd ((l1.drop (1:Int).toNat).getD i25.toNat 0) l26.length) (some (true,(l26.set ((l1.drop (1:Int).toNat).getD i25.toNat 0).toNat x33)))) else(some (b24,l26))))))) (λ(b29,l30)=>(some (.next (b29,(w64 (i25+1)),l30))))) else(some (.done (b24,l26))))
abbrev oV:=(A0×A0)
def H1(a5:TGraph):oV->Option (LR (A0×A0) A0):=
 λ(s_:oV)=>match s_ with|(l1,l2)=>(Bf (0<=(1:Int)/\(1:Int)<=(l1.length:Int)) ((Ad (Ve a5 l1) (false,(0:Int),l2)).bind (λx38=>(match x38 with|(b27,l28)=>(bif b27 then(some (.next (l1,l28))) else(some (.done l28)))))))
def da(Γ:Ih)(a5:TGraph)(aZ:Int)(r:A0):Exit->St->Prop:=fK Tryz.prog Γ Tryz.f124.results.toList [] (SI r 20000) [(20000,.tok 1 3 r.length)]
def ux:=(λn_=>Bl n_ [2,13,21])
def xK:List NG:=[(4,kx)]
def xJ(x3:A0)(i8:Int):=((x3.drop (1:Int).toNat).getD i8.toNat 0)
def xI(l1:A0)(i25:Int):=((l1.drop (1:Int).toNat).getD i25.toNat 0)
def xp(a5:TGraph):List AV:=[(SJ a5.Succ),(SJ a5.Pred)]
def yf:=(Z35:St)
def Tk(a5:TGraph)(aZ:Int):Option A0:=
 ((Vq (S:=oV) (X:=A0) ((K3 a5 aZ).bind λx3=>(bif ((x3.length:Int)==0) then(some (.done ([]:A0))) else((Ix ([(-2:Int)]:A0) (a5.Succ.length:Int)).bind λx4=>(Bf (Bd aZ x4.length) (Bf (0<=(1:Int)/\(1:Int)<=(x3.length:Int)) ((Ad (Fq a5 x3) (false,(0:Int),(x4.set aZ.toNat (-1:Int)))).bind (λ(b10,l11)=>(bif b10 then(some (.next (x3,l11))) else(some (.done l11)))))))))) (H1 a5)).bind (λx40=>(some x40)))
theorem cK(h:Tk v18 v1=some v2):sP 124 (pA v18 v1) [] (SI v2 20000) [(20000,.tok 1 3 v2.length)]:=
 sG Tryz.func124 λΓ q=>have hΓ:=q.own;gR q N4 [2] xK [] (c1 (Ex 1 Aw (0:Int))) (tB h λx40 y40 h=>gS y40 (λ(s_:oV)=>match s_ with|(l1,l2)=>0) (λ(s_:oV)=>match s_ with|(l1,l2)=>(⟨[Ub,(5,(SI l1 13)),(6,(.vsl 21 l2.length))],[(Oa 99 (xp v18)),(13,.tok 1 3 l1.length),(Z4 21 l2)],[]⟩:St)) (λr_=>aR (da Γ v18 v1 r_)) (λy h=>tB h λx3 y3 h=>tT q EE [2,13] [(wB 13 x3 x3.length)] (c1 (AE y3)) (Af q [1,2,5,16] [2,13] (gC h (λh=>gR q [4] [] xK [] (c1 (Ex 1 Aw (0:Int))) (Qe (⟨xK,[],[]⟩:St) (tS h (sf (Mm (Ic ZL (show Le Γ _ yf from Le.trans (Bs (st':=⟨xK,[],[]⟩) [4] [] q) (Le.trans (Th (t:=4) (nm:=6004) (sz':=1) (λi=>Aw (([]:A0).getD i 0)) 3 rfl rfl (.inl ⟨rfl,rfl⟩) (λh_=>absurd h_ (by decide))) (Bs (st':=yf) [4] [6004] q))))))))) λh=>tB h λx4 y4 h=>gR q ZP J9 [(17,(AV.list 1 Aw 0 ([(-2:Int)]:A0) .exact))] [⟨[],[(20000,21)],(.vsl 20000 x4.length),[(Z4 20000 x4)],[],[]⟩] (c2 (B1 1 Aw (0:Int) ([(-2:Int)]:A0)) (Vp y4)) (tC h λc5_ h=>tU q Wk J9 (c2 c5_ (Eq.refl x4.length)) (Hr (Le.trans (Ie 21 (show ∀ k_,k_<x4.length->AVleL ((λi_=>AV.eraseAll ux ((Ei (λi=>Aw (x4.getD i 0)) v1.toNat 0 [(.int .i64 (-1:Int))]) i_)) k_) ((λi=>Aw ((x4.set v1.toNat (-1:Int)).getD i 0)) k_) from(Cj (G1 ..).symm (λk_ hk_=>(Ce (AV.eraseAll ux) ((Ky (λ_ _=>rfl) (Mq c5_) rfl) k_ hk_)).trans rfl)))) (Vc (λ(k_:Nat) u=>(Du u [(6,(.vsl 21 k_))] [(21,.arr 1 3 k_ (λi=>Aw ((x4.set v1.toNat (-1:Int)).getD i 0)))])) (show x4.length=(x4.set v1.toNat (-1:Int)).length from(G1 ..).symm))) (Af q KA J9 (tC h λc6_ h=>gR q EA J9 [(26,(AV.list 1 Aw 0 (x3.drop (1:Int).toNat) .none))] [] (c2 c6_ (show(AVle (.slice 1 (x3.length-(1:Int).toNat) (λi=>Aw (x3.getD ((1:Int).toNat+i) 0)) .none) (AV.list 1 Aw 0 (x3.drop (1:Int).toNat) .none)) from XK)) (tL q h EA J9 (λu (b7,i8,l9)=>(Du u [(6,(.vsl 21 l9.length)),(7,(.bool b7)),(28,(Z6 i8))] [(Z4 21 l9)])) (λu (b10,l11)=>aG Γ (.exit 0) (N2 KA J9 u [(6,(.vsl 21 l11.length)),(7,(.bool b10))] [(Z4 21 l11)])) (λ⟨b7,i8,l9⟩ y h=>Af q oe J9 (gC h (λh=>tB h λx19 y19 h=>gJ y19 (λ(b12,l13)=>aG Γ .normal (⟨[Ub,(5,(SI x3 13)),(6,(.vsl 21 l13.length)),(7,(.bool b12)),(26,(AV.list 1 Aw 0 (x3.drop (1:Int).toNat) .none)),(27,(.int .i64 ((x3.drop (1:Int).toNat).length:Int))),(28,(Z6 i8))],[(Oa 99 (xp v18)),(13,.tok 1 3 x3.length),(Z4 21 l13)],[]⟩:St)) (λy h=>tV q oh J9 h λh=>tC h λc15_ h=>tB h λx16 y16 h=>tT q oc J9 [⟨[],[],(Z6 x16),[],[21],[]⟩] (c4 c15_ (AD y16) (show(OE []) from trivial) (Eq.refl l9.length)) (tC h λc17_ h=>tU q oa J9 (c2 c17_ (Eq.refl l9.length)) (gC h (λh=>tC h λc18_ h=>tU q EA J9 (c2 c18_ (Eq.refl l9.length)) (tS h (gK (Bn (Le.trans (Le.trans (Ie 21 (show ∀ k_,k_<l9.length->AVleL ((λi_=>AV.eraseAll ux ((Ei (λi=>Aw (l9.getD i 0)) (xJ x3 i8).toNat 0 [(Z6 x16)]) i_)) k_) ((λi=>Aw ((l9.set (xJ x3 i8).toNat x16).getD i 0)) k_) from(Cj (G1 ..).symm (λk_ hk_=>(Ce (AV.eraseAll ux) ((Ky (λ_ _=>rfl) (Mq c18_) rfl) k_ hk_)).trans rfl)))) (Vc (λ(k_:Nat) u=>(Du u [(6,(.vsl 21 k_))] [(21,.arr 1 3 k_ (λi=>Aw ((l9.set (xJ x3 i8).toNat x16).getD i 0)))])) (show l9.length=(l9.set (xJ x3 i8).toNat x16).length from(G1 ..).symm))) I9))))) λh=>tS h (gK (Bn (Bs EA J9 q)))))) (match x19,h with|⟨b12,l13⟩,h=>gA (Af q EA J9 (tN h)))) λh=>tS h (gO (Bn (Bs KA J9 q))))) λx21 h=>(match x21,h with|⟨b10,l11⟩,h=>gA (Af q [2,5,6,50] J9 (gC h (λh=>tS h (qh (Bs Wk J9 q))) λh=>Af q [4] [21] (Qe (⟨[(4,(.vsl 21 l11.length))],[(Z4 21 l11)],[]⟩:St) (tS h (sf (Mm (Ic [(21,20000)] (Le.trans (Ka (nm:=21) (sz:=1) (n:=l11.length) (e:=3) (f:=(λi=>Aw (l11.getD i 0))) (g:=(λi=>Aw (l11.getD i 0))) rfl ⟨rfl,trivial⟩ (λ_ _=>rfl) (by rw[hΓ];rfl)) (J7 (st':=(wH l11 21 l11.length)) (by kernel_rfl))))))))))))))))))) (λ⟨l1,l2⟩ y h=>Af q KA J9 (tC h λc23_ h=>gR q EA J9 [(26,(AV.list 1 Aw 0 (l1.drop (1:Int).toNat) .none))] [] (c2 c23_ (show(AVle (.slice 1 (l1.length-(1:Int).toNat) (λi=>Aw (l1.getD ((1:Int).toNat+i) 0)) .none) (AV.list 1 Aw 0 (l1.drop (1:Int).toNat) .none)) from XK)) (tL q h EA J9 (λu (b24,i25,l26)=>(Du u [(6,(.vsl 21 l26.length)),(7,(.bool b24)),(28,(Z6 i25))] [(Z4 21 l26)])) (λu (b27,l28)=>aG Γ (.exit 0) (N2 KA J9 u [(6,(.vsl 21 l28.length)),(7,(.bool b27))] [(Z4 21 l28)])) (λ⟨b24,i25,l26⟩ y h=>Af q oe J9 (gC h (λh=>tB h λx36 y36 h=>gJ y36 (λ(b29,l30)=>aG Γ .normal (⟨[Ub,(5,(SI l1 13)),(6,(.vsl 21 l30.length)),(7,(.bool b29)),(26,(AV.list 1 Aw 0 (l1.drop (1:Int).toNat) .none)),(27,(.int .i64 ((l1.drop (1:Int).toNat).length:Int))),(28,(Z6 i25))],[(Oa 99 (xp v18)),(13,.tok 1 3 l1.length),(Z4 21 l30)],[]⟩:St)) (λy h=>tV q oh J9 h λh=>tC h λc32_ h=>tB h λx33 y33 h=>tT q oc J9 [⟨[],[],(Z6 x33),[],[21],[]⟩] (c4 c32_ (AD y33) (show(OE []) from trivial) (Eq.refl l26.length)) (tC h λc34_ h=>tU q oa J9 (c2 c34_ (Eq.refl l26.length)) (gC h (λh=>tC h λc35_ h=>tU q EA J9 (c2 c35_ (Eq.refl l26.length)) (tS h (gK (Bn (Le.trans (Le.trans (Ie 21 (show ∀ k_,k_<l26.length->AVleL ((λi_=>AV.eraseAll ux ((Ei (λi=>Aw (l26.getD i 0)) (xI l1 i25).toNat 0 [(Z6 x33)]) i_)) k_) ((λi=>Aw ((l26.set (xI l1 i25).toNat x33).getD i 0)) k_) from(Cj (G1 ..).symm (λk_ hk_=>(Ce (AV.eraseAll ux) ((Ky (λ_ _=>rfl) (Mq c35_) rfl) k_ hk_)).trans rfl)))) (Vc (λ(k_:Nat) u=>(Du u [(6,(.vsl 21 k_))] [(21,.arr 1 3 k_ (λi=>Aw ((l26.set (xI l1 i25).toNat x33).getD i 0)))])) (show l26.length=(l26.set (xI l1 i25).toNat x33).length from(G1 ..).symm))) I9))))) λh=>tS h (gK (Bn (Bs EA J9 q)))))) (match x36,h with|⟨b29,l30⟩,h=>gA (Af q EA J9 (tN h)))) λh=>tS h (gO (Bn (Bs KA J9 q))))) λx38 h=>(match x38,h with|⟨b27,l28⟩,h=>gA (Af q [2,5,6,50] J9 (gC h (λh=>tS h (qh (Bs Wk J9 q))) λh=>Af q [4] [21] (Qe (⟨[(4,(.vsl 21 l28.length))],[(Z4 21 l28)],[]⟩:St) (tS h (sf (Mm (Ic [(21,20000)] (Le.trans (Ka (nm:=21) (sz:=1) (n:=l28.length) (e:=3) (f:=(λi=>Aw (l28.getD i 0))) (g:=(λi=>Aw (l28.getD i 0))) rfl ⟨rfl,trivial⟩ (λ_ _=>rfl) (by rw[hΓ];rfl)) (J7 (st':=(wH l28 21 l28.length)) (by kernel_rfl)))))))))))))) (Pi (λst' hk=>tS h (gK hk))))
def L0(aa8:List Ig)(aa9:A0):Int->Option (LR Int (Unit ⊕ Bool)):=
 λ(i1:Int)=>(bif (decide (i1<(aa8.length:Int))) then(Bf (Bd i1 aa8.length) ((Gz ((aa8.getD i1.toNat default).From) aa9).bind λx3=>(bif (bif (!x3) then true else((((aa8.getD i1.toNat default).Args).length:Int)!=(aa9.length:Int))) then(some (.done (.inr false))) else(some (.next (w64 (i1+1))))))) else(some (.done (.inl ()))))
def LX(Γ:Ih)(aa8:List Ig)(aa9:A0)(r:Bool):Exit->St->Prop:=fK Tryz.prog Γ Tryz.f125.results.toList [] (.bool r) []
def Ou(aa8:List Ig)(aa9:A0):Option Bool:=
 ((Ad (L0 aa8 aa9) (0:Int)).bind (λx4=>(match x4 with|(.inl _)=>(some true)|(.inr r6)=>(some r6))))
theorem JA(h:Ou v5 v2=some v3):sP 125 [(AV.list 4 Zo default v5 .none),(Z7 v2)] [] (.bool v3) []:=
 sG Tryz.func125 λΓ q=>tW q I8 [] Mu [] (tL q h Mu [] (λu i1=>(Du u [(9,(Z6 i1))] [])) (λu x_=>match x_ with|(.inl _)=>aG Γ (.exit 0) (⟨[],[],[]⟩:St)|(.inr r_)=>aR (LX Γ v5 v2 r_)) (λi1 y h=>Af q LT [] (gC h (λh=>tV q LU [6] h λh=>tB h λx3 y3 h=>tT q [1,7,8,9,25] [] [(Z2 x3)] (ci (O9 y3) (uG ((!x3)==false) (c1 (Lb (!x3))))) (gC h (λh=>Af q [4] [] (tS h (gO (Mm (Ic [] (Le.refl _ _)))))) λh=>Af q Mu [] (tN h))) λh=>tS h (gO (Bn (Bs [] [] q))))) λx4 h=>(match x4,h with | .inl _,h=>gA (Af q [4] [] (tS h (Cf []))) | .inr r6,h=>Pi (λst' hk=>tS h (gK hk))))
def yg(aL:N6):=(bif (aL.Kind==0) then true else(aL.Kind==2))
def L9(aL:N6):Option Bool:=
 (some (bif (bif (aL.Kind==0) then true else(aL.Kind==2)) then true else(aL.Arg==0)))
theorem IZ(h:L9 v8=some v3):sP 126 [(.agg (gz v8))] [] (.bool v3) []:=
 sG Tryz.func126 λΓ q=>Af q [1] [1] (tU q [2] [] (Mh ((v8.Kind==0)==false) (ci (Lb (v8.Kind==0)) (Mh ((yg v8)==false) (c1 (Lb (yg v8)))))) (tS h (Cf [])))
def D1(a4:TFunc)(a7:Int)(aA:List Bm)(x1:k7)(x3:A0):Int->Option (LR Int (Unit ⊕ (Int×TFunc×Int×A0×List Bm))):=
 λ(i4:Int)=>(bif (decide (i4<(a4.Blocks.length:Int))) then(Bf (Bd i4 a4.Blocks.length) (Bf (Bd i4 x1.1.Pred.length) ((Ou ((a4.Blocks.getD i4.toNat default).Phis) (x1.1.Pred.getD i4.toNat [])).bind λx7=>((bif ((!x7)==false) then L9 (⟨(a4.Blocks.getD i4.toNat default).End.Kind,(a4.Blocks.getD i4.toNat default).End.Arg,(a4.Blocks.getD i4.toNat default).End.To⟩:N6) else some false).bind λx8=>(bif (bif (!x7) then true else(!x8)) then(some (.done (.inr ((5:Int),a4,a7,x3,aA)))) else(some (.next (w64 (i4+1))))))))) else(some (.done (.inl ()))))
def Wm(Γ:Ih)(a4:TFunc)(a7:Int)(aC:A0)(aA:List Bm)(r:kj):Exit->St->Prop:=fK Tryz.prog Γ Tryz.f92.results.toList (Z3 a4.Params a4.Ret a4.Blocks a7 aC aA aA.length) (Z6 r.1) (Z3 r.2.1.Params r.2.1.Ret r.2.1.Blocks r.2.2.1 r.2.2.2.1 r.2.2.2.2 r.2.2.2.2.length)
def xq(x1:k7):=((x1.2 !=0)==false)
def yh(x3:A0)(a4:TFunc)(a7:Int)(aA:List Bm):List dC:=[(31,.tok 1 3 x3.length),(30000,.row 110 [(Z7 a4.Params),(Z6 a4.Ret),(au a4.Blocks),(Z6 a7),(Z7 x3),.nilm,(AV.list 5 Nz default aA (.own 37006))]),(Mw 37006 195 aA.length)]
def xL(x3:A0)(a4:TFunc)(a7:Int)(aA:List Bm):List dC:=[(31,.tok 1 3 x3.length),(30000,.row 110 [(Z7 a4.Params),(Z6 a4.Ret),(au a4.Blocks),(Z6 a7),(SI x3 31),.nilm,(AV.list 5 Nz default aA (.own 37006))]),(Mw 37006 195 aA.length)]
def Jc(a4:TFunc)(a7:Int)(aC:A0)(aA:List Bm):Option kj:=
 ((W9 a4).bind λx1=>((bif ((x1.2 !=0)==false) then K3 x1.1 (0:Int) else some []).bind λx2=>(bif (bif (x1.2 !=0) then true else(decide ((x2.length:Int)<(a4.Blocks.length:Int)))) then(some ((5:Int),a4,a7,aC,aA)) else((Tk x1.1 (0:Int)).bind λx3=>((Ad (D1 a4 a7 aA x1 x3) (0:Int)).bind (λx9=>(match x9 with|(.inl _)=>(some ((0:Int),a4,a7,x3,aA))|(.inr r11)=>(some r11))))))))
theorem V5(h:Jc v0 v1 v2 v12=some v13):sP 92 [HW] (Z3 v0.Params v0.Ret v0.Blocks v1 v2 v12 v12.length) (Z6 v13.1) (Z3 v13.2.1.Params v13.2.1.Ret v13.2.1.Blocks v13.2.2.1 v13.2.2.2.1 v13.2.2.2.2 v13.2.2.2.2.length):=
 sG Tryz.func92 λΓ q=>Af q [0] I7 (tB h λx1 y1 h=>tT q FG RD [(wG x1.1 x1.2)] (c1 (cL y1)) (tB h λx2 y2 h=>tT q [0,3,28] RD [⟨[],[],(Z7 x2),[],[],[]⟩] (dW (gI (xq x1)) (show((xq x1)=true->(sP 123 [(.agg (Wt x1.1)),N9] [] (Z7 x2) [])) from(λhg=>(Spec.drop (AE (Bk hg y2))))) (zI (xq x1) (c1 (Lb (x1.2 !=0))))) (gC h (λh=>Af q [2] I7 (tS h (Cf Ym))) λh=>tB h λx3 y3 h=>tT q Qc WG [(wB 31 x3 x3.length)] (c1 (cK y3)) (Af q gB WG (tL q h gB WG (λu i4=>(Du u [(40,(Z6 i4))] [])) (λu x_=>match x_ with|(.inl _)=>aG Γ (.exit 0) (N2 [] WI u [] [])|(.inr r_)=>aR (Wm Γ v0 v1 v2 v12 r_)) (λi4 y h=>Af q [3,38,39,40,41] WG (gC h (λh=>tV q [3,5,6,38,39,40] [3,6,31,30000,37006] h λh=>tC h λc6_ h=>tB h λx7 y7 h=>tB h λx8 y8 h=>tT q [3,38,39,40,59] WG [(Z2 x7),(Z2 x8)] (dW c6_ (JA y7) (Mh ((!x7)==false) (c3 (λ(hg:((!x7)==false)=true)=>(IZ (Bk hg y8))) (gI ((!x7)==false)) (Lb (!x7))))) (gC h (λh=>Af q [2] WI (Qe (⟨[(2,(.int .i64 (5:Int)))],(xL x3 v0 v1 v12),[]⟩:St) (tS h (gO (Mm (Ic Ym (show Le Γ _ (⟨[(2,(.int .i64 (5:Int)))],(yh x3 v0 v1 v12),[]⟩:St) from Le.trans (Bs (st':=⟨[(2,(.int .i64 (5:Int)))],(xL x3 v0 v1 v12),[]⟩) [2] WI q) (Fo (.cons (AVle.refl _) .nil) (.same (.row (.cons (AVle.refl _) (.cons (AVle.refl _) (.cons (AVle.refl _) (.cons (AVle.refl _) (.cons AVle.untag (.cons (AVle.refl _) (.cons (AVle.refl _) .nil))))))) (.same .nil))))))))))) λh=>Af q gB WG (tN h))) λh=>tS h (gO (Bn (Bs [] WI q))))) λx9 h=>(match x9,h with | .inl _,h=>gA (Af q [2] WI (Qe (⟨[(2,N9)],(xL x3 v0 v1 v12),[]⟩:St) (tS h (gK (e:=.ret) (Ic Ym (show Le Γ _ (⟨[(2,N9)],(yh x3 v0 v1 v12),[]⟩:St) from Le.trans (Bs (st':=⟨[(2,N9)],(xL x3 v0 v1 v12),[]⟩) [2] WI q) (Fo (.cons (AVle.refl _) .nil) (.same (.row (.cons (AVle.refl _) (.cons (AVle.refl _) (.cons (AVle.refl _) (.cons (AVle.refl _) (.cons AVle.untag (.cons (AVle.refl _) (.cons (AVle.refl _) .nil))))))) (.same .nil)))))))))) | .inr r11,h=>Pi (λst' hk=>tS h (gK hk))))))))
def K4(aI:Int):Option Bool:=
 (Option.bind (α:=Bool) (bif (aI==1) then(some (aI==1)) else(bif (aI==8) then(some (aI==8)) else(bif (aI==16) then(some (aI==16)) else(bif (aI==32) then(some (aI==32)) else(some (aI==64)))))) (λx2=>(bif x2 then(some true) else(some false))))
theorem Ng(h:K4 v1=some v3):sP 128 [(Z6 v1)] [] (.bool v3) []:=
 sG Tryz.func128 λΓ q=>tW q [0] [] [3] [] (tB h λx2 y2 h=>gJ y2 (λb1=>aG Γ .normal (⟨[(4,(.bool b1))],[],[]⟩:St)) (λy h=>Af q [3,4] [] (gC h (λh=>tS h (gK (Bn (Bs [4] [] q)))) λh=>Af q [3,4] [] (gC h (λh=>tS h (gK (Bn (Bs [4] [] q)))) λh=>Af q [3,4] [] (gC h (λh=>tS h (gK (Bn (Bs [4] [] q)))) λh=>Af q [3,4] [] (gC h (λh=>tS h (gK (Bn (Bs [4] [] q)))) λh=>Af q [4] [] (tS h (gK (Bn I9)))))))) (gA (gC h (λh=>Af q [2] [] (tS h (Cf []))) λh=>Af q [2] [] (tS h (Cf [])))))
def Lz(aD:A0):Int->Option (LR Int (Unit ⊕ Bool)):=
 λ(i1:Int)=>(bif (decide (i1<(aD.length:Int))) then(Bf (Bd i1 aD.length) ((K4 (aD.getD i1.toNat 0)).bind λx3=>(bif (!x3) then(some (.done (.inr false))) else(some (.next (w64 (i1+1))))))) else(some (.done (.inl ()))))
def LW(Γ:Ih)(aD:A0)(r:Bool):Exit->St->Prop:=fK Tryz.prog Γ Tryz.f127.results.toList [] (.bool r) []
def Ot(aD:A0):Option Bool:=
 ((Ad (Lz aD) (0:Int)).bind (λx4=>(match x4 with|(.inl _)=>(some true)|(.inr r6)=>(some r6))))
theorem IY(h:Ot v2=some v3):sP 127 [(Z7 v2),(.clo 128 [] [])] [] (.bool v3) []:=
 sG Tryz.func127 λΓ q=>tW q I8 [] Mu [] (tL q h Mu [] (λu i1=>(Du u [(9,(Z6 i1))] [])) (λu x_=>match x_ with|(.inl _)=>aG Γ (.exit 0) (⟨[],[],[]⟩:St)|(.inr r_)=>aR (LW Γ v2 r_)) (λi1 y h=>Af q LT [] (gC h (λh=>tV q LU [] h λh=>tB h λx3 y3 h=>tT q SG [] [(Z2 x3)] (c1 (Ng y3)) (gC h (λh=>Af q [4] [] (tS h (gO (Mm (Ic [] (Le.refl _ _)))))) λh=>Af q Mu [] (tN h))) λh=>tS h (gO (Bn (Bs [] [] q))))) λx4 h=>(match x4,h with | .inl _,h=>gA (Af q [4] [] (tS h (Cf []))) | .inr r6,h=>Pi (λst' hk=>tS h (gK hk))))
def Qx(aa0:Ig):Option Bool:=
 ((K4 aa0.Bits).bind λx1=>(some x1))
theorem GP(h:Qx v4=some v3):sP 165 [(.agg (Zo v4))] [] (.bool v3) []:=
 sG Tryz.func165 λΓ q=>Af q [1] [1] (tB h λx1 y1 h=>tT q [2] [] [(Z2 x1)] (c1 (Ng y1)) (tS h (Cf [])))
def Jb(aD:List Ig):Int->Option (LR Int (Unit ⊕ Bool)):=
 λ(i1:Int)=>(bif (decide (i1<(aD.length:Int))) then(Bf (Bd i1 aD.length) ((Qx (aD.getD i1.toNat default)).bind λx3=>(bif (!x3) then(some (.done (.inr false))) else(some (.next (w64 (i1+1))))))) else(some (.done (.inl ()))))
def CP(Γ:Ih)(aD:List Ig)(r:Bool):Exit->St->Prop:=fK Tryz.prog Γ Tryz.f164.results.toList [] (.bool r) []
def Lc(aD:List Ig):Option Bool:=
 ((Ad (Jb aD) (0:Int)).bind (λx4=>(match x4 with|(.inl _)=>(some true)|(.inr r6)=>(some r6))))
theorem AB(h:Lc v5=some v3):sP 164 [(AV.list 4 Zo default v5 .none),(.clo 165 [] [])] [] (.bool v3) []:=
 sG Tryz.func164 λΓ q=>tW q I8 [] Mu [] (tL q h Mu [] (λu i1=>(Du u [(9,(Z6 i1))] [])) (λu x_=>match x_ with|(.inl _)=>aG Γ (.exit 0) (⟨[],[],[]⟩:St)|(.inr r_)=>aR (CP Γ v5 r_)) (λi1 y h=>Af q LT [] (gC h (λh=>tV q LU [6] h λh=>tB h λx3 y3 h=>tT q SG [] [(Z2 x3)] (c1 (GP y3)) (gC h (λh=>Af q [4] [] (tS h (gO (Mm (Ic [] (Le.refl _ _)))))) λh=>Af q Mu [] (tN h))) λh=>tS h (gO (Bn (Bs [] [] q))))) λx4 h=>(match x4,h with | .inl _,h=>gA (Af q [4] [] (tS h (Cf []))) | .inr r6,h=>Pi (λst' hk=>tS h (gK hk))))
def Rm(aX:Int):Option Bool:=
 (some (bif (decide ((0:Int)<=aX)) then(decide (aX<=22)) else false))
theorem PL(h:Rm v1=some v3):sP 192 [(Z6 v1)] [] (.bool v3) []:=
 sG Tryz.func192 λΓ q=>Af q [0] [] (tU q [2] [] (c2 (gI ((decide ((0:Int)<=v1))==true)) (M2 (decide ((0:Int)<=v1)))) (tS h (Cf [])))
def yi(x5:Bool)(aI:Int):=(bif x5 then(decide ((8:Int)<=aI)) else false)
def Sy(aI:Int)(aO:Int):Option Bool:=
 (bif (aO==1) then((K4 aI).bind λx1=>(some x1)) else(Option.bind (α:=Bool) (bif (aO==2) then(some (aO==2)) else(bif (aO==4) then(some (aO==4)) else(bif (aO==8) then(some (aO==8)) else(some (aO==16))))) (λx3=>(bif x3 then((K4 aI).bind λx5=>(some (bif (bif x5 then(decide ((8:Int)<=aI)) else false) then(decide (((w64 (aI*aO)):Int)<=128)) else false))) else(some false)))))
theorem TI(h:Sy v1 v11=some v3):sP 209 [(Z6 v1),(Z6 v11)] [] (.bool v3) []:=
 sG Tryz.func209 λΓ q=>tW q I8 [] Pd [] (Af q [0,1,5,6] [] (gC h (λh=>tB h λx1 y1 h=>tT q [4] [] [(Z2 x1)] (c1 (Ng y1)) (tS h (Cf []))) λh=>tB h λx3 y3 h=>gJ y3 (λb2=>aG Γ .normal (⟨[(0,(Z6 v1)),(1,(Z6 v11)),(10,(.bool b2))],[],[]⟩:St)) (λy h=>Af q [0,1,5,10] [] (gC h (λh=>tS h (gK (Bn (Bs HV [] q)))) λh=>Af q [0,1,5,10] [] (gC h (λh=>tS h (gK (Bn (Bs HV [] q)))) λh=>Af q [0,1,5,10] [] (gC h (λh=>tS h (gK (Bn (Bs HV [] q)))) λh=>Af q HV [] (tS h (gK (Bn I9))))))) (gA (gC h (λh=>tB h λx5 y5 h=>tT q [4] [] [(Z2 x5)] (UF (Ng y5) (gI (x5==true)) (M2 x5) (Yu ((yi x5 v1)==true) (c1 (M2 (yi x5 v1))))) (tS h (Cf []))) λh=>Af q [4] [] (tS h (Cf []))))))
def xM(a1:Cn):List dC:=[(wD a1.Kind a1.Bits a1.Lanes a1.Dst a1.Args a1.Imm)]
def Np(a1:Cn):Option Bool:=
 (Option.bind (α:=Bool) (bif (a1.Kind==16) then(some (a1.Kind==16)) else(some (a1.Kind==17))) (λx2=>(bif x2 then(some (decide ((8:Int)<=a1.Bits))) else(Option.bind (α:=Bool) (bif (a1.Kind==18) then(some (a1.Kind==18)) else(some (a1.Kind==19))) (λx5=>(bif x5 then(some (bif (decide ((8:Int)<=a1.Bits)) then(a1.Lanes==1) else false)) else(Option.bind (α:=Bool) (bif (a1.Kind==4) then(some (a1.Kind==4)) else(bif (a1.Kind==10) then(some (a1.Kind==10)) else(bif (a1.Kind==11) then(some (a1.Kind==11)) else(bif (a1.Kind==12) then(some (a1.Kind==12)) else(bif (a1.Kind==14) then(some (a1.Kind==14)) else(bif (a1.Kind==15) then(some (a1.Kind==15)) else(some (a1.Kind==20)))))))) (λx8=>(bif x8 then(some (a1.Lanes==1)) else(Option.bind (α:=Bool) (bif (a1.Kind==21) then(some (a1.Kind==21)) else(some (a1.Kind==22))) (λx11=>(bif x11 then(some (decide ((1:Int)<a1.Lanes))) else(some true)))))))))))))
theorem GS(h:Np v6=some v3):sP 210 [(X9 v6)] [] (.bool v3) []:=
 sG Tryz.func210 λΓ q=>tW q [1] [1] Qs [1] (tB h λx2 y2 h=>gJ y2 (λb1=>aG Γ .normal (⟨[DA,(4,(Z6 v6.Kind)),(5,(.bool b1))],(xM v6),[]⟩:St)) (λy h=>Af q [1,4,5] [1] (gC h (λh=>tS h (gK (Bn I9))) λh=>Af q [1,4,5] [1] (tS h (gK (Bn I9))))) (gA (gC h (λh=>Af q [2] [] (tS h (Cf []))) λh=>tB h λx5 y5 h=>gJ y5 (λb4=>aG Γ .normal (⟨[DA,(4,(Z6 v6.Kind)),(11,(.bool b4))],(xM v6),[]⟩:St)) (λy h=>Af q [1,4,11] [1] (gC h (λh=>tS h (gK (Bn I9))) λh=>Af q [1,4,11] [1] (tS h (gK (Bn I9))))) (gA (gC h (λh=>tU q [2] [] (Mh ((decide ((8:Int)<=v6.Bits))==true) (c1 (M2 (decide ((8:Int)<=v6.Bits))))) (tS h (Cf []))) λh=>tB h λx8 y8 h=>gJ y8 (λb7=>aG Γ .normal (⟨[DA,(4,(Z6 v6.Kind)),(22,(.bool b7))],(xM v6),[]⟩:St)) (λy h=>Af q FE [1] (gC h (λh=>tS h (gK (Bn I9))) λh=>Af q FE [1] (gC h (λh=>tS h (gK (Bn I9))) λh=>Af q FE [1] (gC h (λh=>tS h (gK (Bn I9))) λh=>Af q FE [1] (gC h (λh=>tS h (gK (Bn I9))) λh=>Af q FE [1] (gC h (λh=>tS h (gK (Bn I9))) λh=>Af q FE [1] (gC h (λh=>tS h (gK (Bn I9))) λh=>Af q FE [1] (tS h (gK (Bn I9)))))))))) (gA (gC h (λh=>Af q [2] [] (tS h (Cf []))) λh=>tB h λx11 y11 h=>gJ y11 (λb10=>aG Γ .normal (⟨[DA,(33,(.bool b10))],(xM v6),[]⟩:St)) (λy h=>Af q [1,4,33] [1] (gC h (λh=>tS h (gK (Bn (Bs [1,33] [1] q)))) λh=>Af q [1,33] [1] (tS h (gK (Bn I9))))) (gA (gC h (λh=>Af q [2] [] (tS h (Cf []))) λh=>Af q [2] [] (tS h (Cf [])))))))))))
def Xa(a9:Int)(aI:Int):Option Int:=
 ((K4 aI).bind λx1=>(bif (!x1) then(some (0:Int)) else(Bf (0<=(w64 ((64:Int)-aI))) (Bf (0<=(w64 ((64:Int)-aI))) (some (HG .u64 (EU .u64 a9 (w64 ((64:Int)-aI))) (w64 ((64:Int)-aI))))))))
theorem cN(h:Xa v1 v11=some v20):sP 225 [(Nx v1),(Z6 v11)] [] (.int .u64 v20) []:=
 sG Tryz.func225 λΓ q=>Af q I8 [] (tB h λx1 y1 h=>tT q [0,1,7] [] [(Z2 x1)] (c1 (Ng y1)) (gC h (λh=>Af q [4] [] (tS h (Cf []))) λh=>tC h λc2_ h=>tC h λc3_ h=>tU q [4] [] (c2 c2_ c3_) (tS h (Cf []))))
def Na(aaA:Int):Option Bool:=
 ((bif ((decide (aaA<=64))==true) then K4 (w64 aaA) else some false).bind λx1=>(some (bif (decide (aaA<=64)) then x1 else false)))
theorem Yh(h:Na v1=some v3):sP 226 [(Nx v1)] [] (.bool v3) []:=
 sG Tryz.func226 λΓ q=>Af q [0] [] (tB h λx1 y1 h=>tT q [2] [] [(Z2 x1)] (Mh ((decide (v1<=64))==true) (c2 (λ(hg:((decide (v1<=64))==true)=true)=>(Ng (Bk hg y1))) (M2 (decide (v1<=64))))) (tS h (Cf [])))
def Pz(a1:Cn):Option Bool:=
 (bif (a1.Kind==0) then((Xa a1.Imm a1.Bits).bind λx1=>(some (x1==a1.Imm))) else(bif (a1.Kind==14) then((Na a1.Imm).bind λx2=>(some (bif x2 then(decide (a1.Imm<(Cl a1.Bits))) else false))) else(bif (a1.Kind==15) then((Na a1.Imm).bind λx3=>(some (bif x3 then(decide (((Cl a1.Bits):Int)<a1.Imm)) else false))) else(bif (a1.Kind==22) then(some (decide (a1.Imm<(Cl a1.Lanes)))) else(some (a1.Imm==0))))))
theorem MG(h:Pz v6=some v3):sP 211 [(X9 v6)] [] (.bool v3) []:=
 sG Tryz.func211 λΓ q=>tW q [1] [1] Qs [1] (Af q [1,4,5] [1] (gC h (λh=>tB h λx1 y1 h=>tT q [2] [] [(u5 x1)] (c1 (cN y1)) (tS h (Cf []))) λh=>Af q [1,4,15] [1] (gC h (λh=>tB h λx2 y2 h=>tT q [2] [] [(Z2 x2)] (ci (Yh y2) (uG (x2==true) (c1 (M2 x2)))) (tS h (Cf []))) λh=>Af q [1,4,28] [1] (gC h (λh=>tB h λx3 y3 h=>tT q [2] [] [(Z2 x3)] (ci (Yh y3) (uG (x3==true) (c1 (M2 x3)))) (tS h (Cf []))) λh=>Af q [1,41] [1] (gC h (λh=>Af q [2] [] (tS h (Cf []))) λh=>Af q [2] [] (tS h (Cf [])))))))
abbrev JO:=((Int×Int))
abbrev oW:=(List (Int×Int))
def Iz(aaE:List JO):Option oW:=
 (some aaE)
variable{v21:List JO}{v22:List JO}
theorem Jj(h:Iz v21=some v22):sP 214 [(Z9 v21)] [] (Z9 v22) []:=
 sG Tryz.func214 λΓ q=>gR q [0] [] [(2,wA)] [] (c1 (Ex 2 B0 ((0:Int),(0:Int)))) (Af q [2] [] (tS h (Cf [])))
abbrev uj:=(Int×List (Int×Int))
def Dq :uj->Option (LR (Int×List (Int×Int)) (List (Int×Int))):=
 λ((i7,l8):uj)=>(bif (decide (i7<(l8.length:Int))) then(Bf (0<=i7/\0+i7.toNat<=l8.length) (Bf (0<=i7/\0+i7.toNat<=l8.length) (some (.next ((w64 (i7+((Nat.min ((0+i7.toNat)-0) (l8.length-(0+i7.toNat))):Int))),(eI l8 (0+i7.toNat) (Nat.min ((0+i7.toNat)-0) (l8.length-(0+i7.toNat))) (λi=>l8.getD (0+i) ((0:Int),(0:Int))))))))) else(some (.done l8)))
def lg(x3:G7):=(List.replicate (w64 x3.2).toNat ((0:Int),(0:Int)))
def xu(x3:G7)(a3:List JO):=(eI (lg x3) 0 (Nat.min a3.length ((lg x3).length-0)) (λi=>a3.getD i ((0:Int),(0:Int))))
def xr(l8:List JO)(i7:Int):=(eI l8 (0+i7.toNat) (Nat.min ((0+i7.toNat)-0) (l8.length-(0+i7.toNat))) (λi=>l8.getD (0+i) ((0:Int),(0:Int))))
def Cp(a3:List JO)(aa5:Int):Option oW:=
 (Option.bind (α:=Unit) (bif (decide (aa5<0)) then none else(some ())) (λx1=>(match x1 with|_=>((Qw (Cl (a3.length:Int)) (Cl aa5)).bind λx3=>(Option.bind (α:=Unit) (bif (bif (decide ((0:Int)<x3.1)) then true else(decide ((9223372036854775807:Int)<x3.2))) then none else(some ())) (λx4=>(match x4 with|_=>(Bf (0<=(w64 x3.2)/\(w64 x3.2)<=(w64 x3.2)/\(w64 x3.2)<=(room:Int)) ((Ad (S:=uj) (X:=List G7) Dq (((Nat.min a3.length ((List.replicate (w64 x3.2).toNat ((0:Int),(0:Int))).length-0)):Int),(eI (List.replicate (w64 x3.2).toNat ((0:Int),(0:Int))) 0 (Nat.min a3.length ((List.replicate (w64 x3.2).toNat ((0:Int),(0:Int))).length-0)) (λi=>a3.getD i ((0:Int),(0:Int)))))).bind (λx12=>(some x12)))))))))))
theorem Se(h:Cp v21 v1=some v22):sP 215 [(Z9 v21),(Z6 v1)] [] (te v22 20000) [(20000,.tok 2 73 v22.length)]:=
 sG Tryz.func215 λΓ q=>have hΓ:=q.own;gR q I8 [] [(4,wA)] [] (c1 (Ex 2 B0 ((0:Int),(0:Int)))) (tB h λx1 y1 h=>gJ y1 (λ_=>aG Γ .normal (⟨[(0,(Z9 v21)),(1,(Z6 v1))],[],[]⟩:St)) (λy h=>Af q HV [] (gC h (λh=>nomatch h) λh=>tS h (gK (Bn (Bs I8 [] q))))) (gA (tB h λx3 y3 h=>tT q [0,5,6] [] [⟨[],[],(.tuple [(Nx x3.1),(Nx x3.2)]),[],[],[]⟩] (c1 (KY y3)) (tB h λx4 y4 h=>gJ y4 (λ_=>aG Γ .normal (⟨[(0,(Z9 v21)),(6,(Nx x3.2))],[],[]⟩:St)) (λy h=>tU q [0,6,26] [] (c2 (gI ((decide ((0:Int)<x3.1))==false)) (Lb (decide ((0:Int)<x3.1)))) (gC h (λh=>nomatch h) λh=>tS h (gK (Bn (Bs [0,6] [] q))))) (gA (tV q [0,7] [30] h λh=>by exact Hr (Le.trans (Ie 30 (show ∀ k_,k_<((w64 x3.2).toNat)->AVleL ((λi_=>AV.eraseAll (λn_=>Bl n_ [30]) ((λ_=>[N9,N9]) i_)) k_) ((λi=>B0 ((lg x3).getD i ((0:Int),(0:Int)))) k_) from(λk hk=>Sz (e:=B0) (d:=((0:Int),(0:Int))) (.cons (AVle.refl _) (.cons (AVle.refl _) .nil)) _ k (S2 hk)))) (Vc (λ(k_:Nat) u=>(Du u [(U8 30 k_)] [(30,.arr 2 73 k_ (λi=>B0 ((lg x3).getD i ((0:Int),(0:Int)))))])) (show(w64 x3.2).toNat=(lg x3).length from(T5 ..).symm))) (tU q Qr [30] (c1 (Eq.refl ((lg x3).length))) (Hr (Le.trans (Ie 30 (show ∀ k_,k_<((lg x3).length)->AVleL ((λi_=>AV.eraseAll (λn_=>Bl n_ [30]) ((bT (λi=>B0 ((lg x3).getD i ((0:Int),(0:Int)))) 0 (Nat.min v21.length ((lg x3).length-0)) (λi=>B0 (v21.getD i ((0:Int),(0:Int))))) i_)) k_) ((λi=>B0 ((xu x3 v21).getD i ((0:Int),(0:Int)))) k_) from(Cj (Jn ..) (λk_ hk_=>(Ce (AV.eraseAll (λn_=>Bl n_ [30])) ((MP (e:=B0) (d:=((0:Int),(0:Int))) (l:=(lg x3)) (s:=(λi=>v21.getD i ((0:Int),(0:Int)))) (λ_ _=>rfl) (λ_ _=>rfl)) k_ hk_)).trans rfl)))) (Vc (λ(k_:Nat) u=>(Du u [(U8 30 k_)] [(30,.arr 2 73 k_ (λi=>B0 ((xu x3 v21).getD i ((0:Int),(0:Int)))))])) (show(lg x3).length=(xu x3 v21).length from(Jn ..)))) (tL q h Qr [30] (λu (i7,l8)=>(Du u [(U8 30 l8.length),(8,(Z6 i7))] (yL l8))) (λu l9=>aG Γ (.exit 0) (⟨[(U8 30 l9.length)],(yL l9),[]⟩:St)) (λ⟨i7,l8⟩ y h=>Af q [7,8,37] [30] (gC h (λh=>tC h λc10_ h=>tC h λc11_ h=>tU q Qr [30] (c4 c10_ c11_ (Eq.refl l8.length) (Eq.refl l8.length)) (tS h (gN (Le.trans (Le.trans (Ie 30 (show ∀ k_,k_<l8.length->AVleL ((λi_=>AV.eraseAll (λn_=>Bl n_ [30]) ((bT (λi=>B0 (l8.getD i ((0:Int),(0:Int)))) (0+i7.toNat) (Nat.min ((0+i7.toNat)-0) (l8.length-(0+i7.toNat))) (λi=>(λi=>B0 (l8.getD i ((0:Int),(0:Int)))) (0+i))) i_)) k_) ((λi=>B0 ((xr l8 i7).getD i ((0:Int),(0:Int)))) k_) from(Cj (Jn ..) (λk_ hk_=>(Ce (AV.eraseAll (λn_=>Bl n_ [30])) ((MP (e:=B0) (d:=((0:Int),(0:Int))) (l:=l8) (s:=(λi=>l8.getD (0+i) ((0:Int),(0:Int)))) (λ_ _=>rfl) (λ_ _=>rfl)) k_ hk_)).trans rfl)))) (Vc (λ(k_:Nat) u=>(Du u [(U8 30 k_)] [(30,.arr 2 73 k_ (λi=>B0 ((xr l8 i7).getD i ((0:Int),(0:Int)))))])) (show l8.length=(xr l8 i7).length from(Jn ..)))) I9)))) λh=>tS h (gO (Bn (Bs [7] [30] q))))) λx12 h=>gA (Af q [4] [30] (Qe (⟨[(4,(.vsl 30 x12.length))],(yL x12),[]⟩:St) (tS h (gK (e:=.ret) (Ic [(30,20000)] (Le.trans (Ka (nm:=30) (sz:=2) (n:=x12.length) (e:=73) (f:=(λi=>B0 (x12.getD i ((0:Int),(0:Int))))) (g:=(λi=>B0 (x12.getD i ((0:Int),(0:Int))))) rfl ⟨rfl,trivial⟩ (λ_ _=>rfl) (by rw[hΓ];rfl)) (J7 (st':=⟨[(4,(te x12 30))],[(30,.tok 2 73 x12.length)],[]⟩) (by kernel_rfl)))))))))))))))))
def yj(a1:Cn):List dC:=[(wD a1.Kind a1.Bits a1.Lanes a1.Dst a1.Args a1.Imm),(3,.row 73 [qD,qD]),(4,.row 73 [(SL 64),qD]),(5,.row 73 [(Z6 a1.Bits),(Z6 a1.Lanes)]),(6,.row 73 [(Z6 a1.Bits),qD])]
def P0(a1:Cn):Option oW:=
 (bif (a1.Kind==0) then((Iz ([]:List G7)).bind λx1=>(some x1)) else(bif (a1.Kind==13) then((Iz ([((1:Int),(1:Int)),(a1.Bits,a1.Lanes),(a1.Bits,a1.Lanes)]:List G7)).bind λx2=>(some x2)) else(Option.bind (α:=Bool) (bif (a1.Kind==14) then(some (a1.Kind==14)) else(some (a1.Kind==15))) (λx4=>(bif x4 then((Iz ([((w64 a1.Imm),(1:Int))]:List G7)).bind λx6=>(some x6)) else(bif (a1.Kind==16) then((Iz ([((64:Int),(1:Int))]:List G7)).bind λx7=>(some x7)) else(bif (a1.Kind==17) then((Iz ([((64:Int),(1:Int)),(a1.Bits,a1.Lanes)]:List G7)).bind λx8=>(some x8)) else(Option.bind (α:=Bool) (bif (a1.Kind==18) then(some (a1.Kind==18)) else(some (a1.Kind==19))) (λx10=>(bif x10 then((Iz ([((1:Int),(1:Int)),((64:Int),(1:Int)),(a1.Bits,(1:Int))]:List G7)).bind λx12=>(some x12)) else(bif (a1.Kind==20) then((Iz ([((1:Int),(1:Int)),(a1.Bits,(1:Int)),(a1.Bits,(1:Int)),(a1.Bits,(1:Int))]:List G7)).bind λx13=>(some x13)) else(bif (a1.Kind==21) then((Cp ([(a1.Bits,(1:Int))]:List G7) a1.Lanes).bind λx14=>((Iz x14).bind λx15=>(some x15))) else(bif (a1.Kind==22) then((Iz ([(a1.Bits,a1.Lanes)]:List G7)).bind λx16=>(some x16)) else((Iz ([(a1.Bits,a1.Lanes),(a1.Bits,a1.Lanes)]:List G7)).bind λx17=>(some x17)))))))))))))))
theorem DK(h:P0 v6=some v21):sP 190 [(X9 v6)] [] (Z9 v21) []:=
 sG Tryz.func190 λΓ q=>gR q [1] [1] [(2,wA)] [] (c1 (Ex 2 B0 ((0:Int),(0:Int)))) (tW q Ib Ib R9 R9 (tW q [1,3,4,5,6,18] R9 [1,3,4,5,6,18,19] R9 (gC h (λh=>tB h λx1 y1 h=>tT q [2] [] [(jR x1)] (c1 (show(sP 214 [TW] [] (Z9 x1) []) from(Spec.args (.cons qI .nil) (Jj y1)))) (tS h (Cf []))) λh=>Af q [1,3,4,5,6,18,22] R9 (gC h (λh=>tB h λx2 y2 h=>gR q [2] [] [(27,(AV.list 2 B0 ((0:Int),(0:Int)) ([((1:Int),(1:Int)),(v6.Bits,v6.Lanes),(v6.Bits,v6.Lanes)]:List G7) .exact))] [(jR x2)] (c2 (B1 2 B0 ((0:Int),(0:Int)) ([((1:Int),(1:Int)),(v6.Bits,v6.Lanes),(v6.Bits,v6.Lanes)]:List G7)) (Jj y2)) (tS h (Cf []))) λh=>tB h λx4 y4 h=>gJ y4 (λb3=>aG Γ .normal (⟨[DA,(3,(.ptr 3 0)),XF,gb,TX,(18,(Z6 v6.Kind)),(29,(.bool b3))],(yj v6),[]⟩:St)) (λy h=>Af q [1,3,4,5,6,18,29] R9 (gC h (λh=>tS h (gK (Bn I9))) λh=>Af q [1,3,4,5,6,18,29] R9 (tS h (gK (Bn I9))))) (gA (gC h (λh=>tB h λx6 y6 h=>gR q [2] [] [(36,(AV.list 2 B0 ((0:Int),(0:Int)) ([((w64 v6.Imm),(1:Int))]:List G7) .exact))] [(jR x6)] (c2 (B1 2 B0 ((0:Int),(0:Int)) ([((w64 v6.Imm),(1:Int))]:List G7)) (Jj y6)) (tS h (Cf []))) λh=>Af q [1,3,4,5,6,18,38] R9 (gC h (λh=>tB h λx7 y7 h=>gR q [2] [] [(41,(AV.list 2 B0 ((0:Int),(0:Int)) ([((64:Int),(1:Int))]:List G7) .exact))] [(jR x7)] (c2 (B1 2 B0 ((0:Int),(0:Int)) ([((64:Int),(1:Int))]:List G7)) (Jj y7)) (tS h (Cf []))) λh=>Af q [1,3,4,5,6,18,43] R9 (gC h (λh=>tB h λx8 y8 h=>gR q [2] [] [(47,(AV.list 2 B0 ((0:Int),(0:Int)) ([((64:Int),(1:Int)),(v6.Bits,v6.Lanes)]:List G7) .exact))] [(jR x8)] (c2 (B1 2 B0 ((0:Int),(0:Int)) ([((64:Int),(1:Int)),(v6.Bits,v6.Lanes)]:List G7)) (Jj y8)) (tS h (Cf []))) λh=>tB h λx10 y10 h=>gJ y10 (λb9=>aG Γ .normal (⟨[DA,(3,(.ptr 3 0)),XF,gb,TX,(18,(Z6 v6.Kind)),(49,(.bool b9))],(yj v6),[]⟩:St)) (λy h=>Af q [1,3,4,5,6,18,49] R9 (gC h (λh=>tS h (gK (Bn I9))) λh=>Af q [1,3,4,5,6,18,49] R9 (tS h (gK (Bn I9))))) (gA (gC h (λh=>tB h λx12 y12 h=>gR q [2] [] [(55,(AV.list 2 B0 ((0:Int),(0:Int)) ([((1:Int),(1:Int)),((64:Int),(1:Int)),(v6.Bits,(1:Int))]:List G7) .exact))] [(jR x12)] (c2 (B1 2 B0 ((0:Int),(0:Int)) ([((1:Int),(1:Int)),((64:Int),(1:Int)),(v6.Bits,(1:Int))]:List G7)) (Jj y12)) (tS h (Cf []))) λh=>Af q [1,3,5,6,18,57] HU (gC h (λh=>tB h λx13 y13 h=>gR q [2] [] [(63,(AV.list 2 B0 ((0:Int),(0:Int)) ([((1:Int),(1:Int)),(v6.Bits,(1:Int)),(v6.Bits,(1:Int)),(v6.Bits,(1:Int))]:List G7) .exact))] [(jR x13)] (c2 (B1 2 B0 ((0:Int),(0:Int)) ([((1:Int),(1:Int)),(v6.Bits,(1:Int)),(v6.Bits,(1:Int)),(v6.Bits,(1:Int))]:List G7)) (Jj y13)) (tS h (Cf []))) λh=>Af q [1,5,6,18,65] [1,5,6] (gC h (λh=>tB h λx14 y14 h=>tB h λx15 y15 h=>gR q [2] [] [(68,(AV.list 2 B0 ((0:Int),(0:Int)) ([(v6.Bits,(1:Int))]:List G7) .exact))] [⟨[],[(20000,71)],(te x14 20000),[(20000,.tok 2 73 x14.length)],[],[]⟩,(jR x15)] (c3 (B1 2 B0 ((0:Int),(0:Int)) ([(v6.Bits,(1:Int))]:List G7)) (Se y14) (Jj y15)) (tS h (Cf []))) λh=>Af q [5,73] [5] (gC h (λh=>tB h λx16 y16 h=>gR q [2] [] [(76,(AV.list 2 B0 ((0:Int),(0:Int)) ([(v6.Bits,v6.Lanes)]:List G7) .exact))] [(jR x16)] (c2 (B1 2 B0 ((0:Int),(0:Int)) ([(v6.Bits,v6.Lanes)]:List G7)) (Jj y16)) (tS h (Cf []))) λh=>tB h λx17 y17 h=>gR q [2] [] [(80,(AV.list 2 B0 ((0:Int),(0:Int)) ([(v6.Bits,v6.Lanes),(v6.Bits,v6.Lanes)]:List G7) .exact))] [(jR x17)] (c2 (B1 2 B0 ((0:Int),(0:Int)) ([(v6.Bits,v6.Lanes),(v6.Bits,v6.Lanes)]:List G7)) (Jj y17)) (tS h (Cf [])))))))))))))))
def M9(a9:Int):Option Bool:=
 (some (bif (decide ((1:Int)<=a9)) then(decide (a9<=1023)) else false))
theorem Yg(h:M9 v1=some v3):sP 227 [(Z6 v1)] [] (.bool v3) []:=
 sG Tryz.func227 λΓ q=>Af q [0] [] (tU q [2] [] (c2 (gI ((decide ((1:Int)<=v1))==true)) (M2 (decide ((1:Int)<=v1)))) (tS h (Cf [])))
def Ko(a1:Cn):Int->Option (LR Int (Unit ⊕ Bool)):=
 λ(i2:Int)=>(bif (decide (i2<(a1.Args.length:Int))) then(Bf (Bd i2 a1.Args.length) ((M9 (a1.Args.getD i2.toNat 0)).bind λx4=>(bif (!x4) then(some (.done (.inr false))) else(some (.next (w64 (i2+1))))))) else(some (.done (.inl ()))))
def NH(Γ:Ih)(a1:Cn)(r:Bool):Exit->St->Prop:=fK Tryz.prog Γ Tryz.f212.results.toList [] (.bool r) []
def Pw(a1:Cn):Option Bool:=
 ((P0 a1).bind λx1=>(bif ((a1.Args.length:Int)!=(x1.length:Int)) then(some false) else((Ad (Ko a1) (0:Int)).bind (λx5=>(match x5 with|(.inl _)=>(some true)|(.inr r7)=>(some r7))))))
theorem ME(h:Pw v6=some v3):sP 212 [(X9 v6)] [] (.bool v3) []:=
 sG Tryz.func212 λΓ q=>Af q [1] [1] (tB h λx1 y1 h=>tT q [1,11] [1] [(jR x1)] (c1 (DK y1)) (gC h (λh=>Af q [2] [] (tS h (Cf []))) λh=>Af q [13,14,15] [] (tL q h [13,14,15] [] (λu i2=>(Du u [(15,(Z6 i2))] [])) (λu x_=>match x_ with|(.inl _)=>aG Γ (.exit 0) (⟨[],[],[]⟩:St)|(.inr r_)=>aR (NH Γ v6 r_)) (λi2 y h=>Af q [13,14,15,16] [] (gC h (λh=>tV q [4,13,14,15] [] h λh=>tB h λx4 y4 h=>tT q [13,14,15,21] [] [(Z2 x4)] (c1 (Yg y4)) (gC h (λh=>Af q [2] [] (tS h (gO (Mm (Ic [] (Le.refl _ _)))))) λh=>Af q [13,14,15] [] (tN h))) λh=>tS h (gO (Bn (Bs [] [] q))))) λx5 h=>(match x5,h with | .inl _,h=>gA (Af q [2] [] (tS h (Cf []))) | .inr r7,h=>Pi (λst' hk=>tS h (gK hk))))))
def yk(a1:Cn):List dC:=[(wD a1.Kind a1.Bits a1.Lanes a1.Dst a1.Args a1.Imm)]
def Py(a1:Cn):Option G7:=
 (Option.bind (α:=Bool) (bif (a1.Kind==17) then(some (a1.Kind==17)) else(some (a1.Kind==19))) (λx2=>(bif x2 then(some ((0:Int),(0:Int))) else(Option.bind (α:=Bool) (bif (a1.Kind==10) then(some (a1.Kind==10)) else(bif (a1.Kind==11) then(some (a1.Kind==11)) else(some (a1.Kind==12)))) (λx5=>(bif x5 then(some ((1:Int),(1:Int))) else(bif (a1.Kind==22) then(some (a1.Bits,(1:Int))) else(some (a1.Bits,a1.Lanes)))))))))
theorem DJ(h:Py v6=some v19):sP 189 [(X9 v6)] [] (.tuple [(Z6 v19.1),(Z6 v19.2)]) []:=
 sG Tryz.func189 λΓ q=>tW q [1] [1] [1,5] [1] (tB h λx2 y2 h=>gJ y2 (λb1=>aG Γ .normal (⟨[DA,(5,(Z6 v6.Kind)),(6,(.bool b1))],(yk v6),[]⟩:St)) (λy h=>Af q [1,5,6] [1] (gC h (λh=>tS h (gK (Bn I9))) λh=>Af q [1,5,6] [1] (tS h (gK (Bn I9))))) (gA (gC h (λh=>Af q Dg [] (tS h (Cf []))) λh=>tB h λx5 y5 h=>gJ y5 (λb4=>aG Γ .normal (⟨[DA,(5,(Z6 v6.Kind)),(9,(.bool b4))],(yk v6),[]⟩:St)) (λy h=>Af q [1,5,9] [1] (gC h (λh=>tS h (gK (Bn I9))) λh=>Af q [1,5,9] [1] (gC h (λh=>tS h (gK (Bn I9))) λh=>Af q [1,5,9] [1] (tS h (gK (Bn I9)))))) (gA (gC h (λh=>Af q Dg [] (tS h (Cf []))) λh=>Af q [1,13] [1] (gC h (λh=>Af q Dg [] (tS h (Cf []))) λh=>Af q Dg [] (tS h (Cf []))))))))
def Px(a1:Cn):Option Bool:=
 ((Py a1).bind λx1=>(bif (x1.1==0) then(some (a1.Dst==0)) else((M9 a1.Dst).bind λx2=>(some x2))))
theorem MF(h:Px v6=some v3):sP 213 [(X9 v6)] [] (.bool v3) []:=
 sG Tryz.func213 λΓ q=>Af q [1] [1] (tB h λx1 y1 h=>tT q K9 [1] [(xU x1.1 x1.2)] (c1 (DJ y1)) (Af q [1,11] [1] (gC h (λh=>Af q [2] [] (tS h (Cf []))) λh=>tB h λx2 y2 h=>tT q [2] [] [(Z2 x2)] (c1 (Yg y2)) (tS h (Cf [])))))
def sQ(x1:Bool)(x2:Bool):=(bif (!x1) then true else(!x2))
def Qz(a1:Cn):Option Bool:=
 ((Rm a1.Kind).bind λx1=>((bif ((!x1)==false) then Sy a1.Bits a1.Lanes else some false).bind λx2=>((bif ((bif (!x1) then true else(!x2))==false) then Np a1 else some false).bind λx3=>((bif ((bif (bif (!x1) then true else(!x2)) then true else(!x3))==false) then Pz a1 else some false).bind λx4=>(bif (bif (bif (bif (!x1) then true else(!x2)) then true else(!x3)) then true else(!x4)) then(some false) else((Pw a1).bind λx5=>((bif (x5==true) then Px a1 else some false).bind λx6=>(some (bif x5 then x6 else false)))))))))
theorem AG(h:Qz v6=some v3):sP 187 [(X9 v6)] [] (.bool v3) []:=
 sG Tryz.func187 λΓ q=>Af q [1] [1] (tB h λx1 y1 h=>tB h λx2 y2 h=>tB h λx3 y3 h=>tB h λx4 y4 h=>tT q [1,24] [1] [(Z2 x1),(Z2 x2),(Z2 x3),(Z2 x4)] (ci (PL y1) (eP ((!x1)==false) (xV (λ(hg:((!x1)==false)=true)=>(TI (Bk hg y2))) (gI ((!x1)==false)) (Lb (!x1)) (gI ((sQ x1 x2)==false)) (λ(hg:((sQ x1 x2)==false)=true)=>(GS (Bk hg y3))) (gI ((sQ x1 x2)==false)) (Lb (sQ x1 x2)) (gI ((bif (sQ x1 x2) then true else(!x3))==false)) (λ(hg:((bif (sQ x1 x2) then true else(!x3))==false)=true)=>(MG (Bk hg y4))) (c2 (gI ((bif (sQ x1 x2) then true else(!x3))==false)) (Lb (bif (sQ x1 x2) then true else(!x3))))))) (gC h (λh=>Af q [2] [] (tS h (Cf []))) λh=>tB h λx5 y5 h=>tB h λx6 y6 h=>tT q [2] [] [(Z2 x5),(Z2 x6)] (c4 (ME y5) (gI (x5==true)) (λ(hg:(x5==true)=true)=>(MF (Bk hg y6))) (M2 x5)) (tS h (Cf []))))
def Sw(a1:Cn)(aaC:Int):Option Bool:=
 (bif (aaC==0) then(some (bif (decide (a1.Kind<=17)) then(a1.Lanes==1) else false)) else(bif (aaC==1) then(some (bif (decide (a1.Kind<=20)) then(a1.Lanes==1) else false)) else(some true)))
theorem TD(h:Sw v6 v1=some v3):sP 188 [(X9 v6),(Z6 v1)] [] (.bool v3) []:=
 sG Tryz.func188 λΓ q=>tW q N4 [2] T9 [2] (Af q Wk [2] (gC h (λh=>tU q [4] [] (Mh ((decide (v6.Kind<=17))==true) (c1 (M2 (decide (v6.Kind<=17))))) (tS h (Cf []))) λh=>Af q Vt [2] (gC h (λh=>tU q [4] [] (Mh ((decide (v6.Kind<=20))==true) (c1 (M2 (decide (v6.Kind<=20))))) (tS h (Cf []))) λh=>Af q [4] [] (tS h (Cf [])))))
abbrev BE:=(Bool×TFunc×Int×A0×List Bm)
def In(a1:Cn)(a4:TFunc)(a7:Int)(aC:A0)(aA:List Bm):Option BE:=
 ((Qz a1).bind λx1=>((bif (x1==true) then Sw a1 a7 else some false).bind λx2=>(some ((bif x1 then x2 else false),a4,a7,aC,aA))))
variable{v23:BE}
theorem Vn(h:In v6 v0 v1 v2 v12=some v23):sP 167 [HW,(X9 v6)] (Z3 v0.Params v0.Ret v0.Blocks v1 v2 v12 v12.length) (.bool v23.1) (Z3 v23.2.1.Params v23.2.1.Ret v23.2.1.Blocks v23.2.2.1 v23.2.2.2.1 v23.2.2.2.2 v23.2.2.2.2.length):=
 sG Tryz.func167 λΓ q=>Af q Qc RD (tB h λx1 y1 h=>tB h λx2 y2 h=>tT q [4] I7 [(Z2 x1),(Z2 x2)] (ci (AG y1) (uG (x1==true) (c2 (λ(hg:(x1==true)=true)=>(TD (Bk hg y2))) (M2 x1)))) (tS h (Cf Ym)))
abbrev Sh:=(Int×A0×Int×List An×Int×A0×List Bm)
abbrev wy:=(LR (Int×A0×Int×List An×Int×A0×List Bm) ((A0×Int×List An×Int×A0×List Bm) ⊕ (Bool×TFunc×Int×A0×List Bm)))
def Hi(aD:List Cn):Sh->Option wy:=
 λ((i1,l2,i3,l4,i5,l6,l7):Sh)=>(bif (decide (i1<(aD.length:Int))) then(Bf (Bd i1 aD.length) ((In (aD.getD i1.toNat default) (⟨l2,i3,l4⟩:TFunc) i5 l6 l7).bind λx15=>(bif (!x15.1) then(some (.done (.inr (false,x15.2.1,x15.2.2.1,x15.2.2.2.1,x15.2.2.2.2)))) else(some (.next ((w64 (i1+1)),x15.2.1.Params,x15.2.1.Ret,x15.2.1.Blocks,x15.2.2.1,x15.2.2.2.1,x15.2.2.2.2)))))) else(some (.done (.inl (l2,i3,l4,i5,l6,l7)))))
def EF(Γ:Ih)(aD:List Cn)(a4:TFunc)(a7:Int)(aC:A0)(aA:List Bm)(r:BE):Exit->St->Prop:=fK Tryz.prog Γ Tryz.f166.results.toList (Z3 a4.Params a4.Ret a4.Blocks a7 aC aA aA.length) (.bool r.1) (Z3 r.2.1.Params r.2.1.Ret r.2.1.Blocks r.2.2.1 r.2.2.2.1 r.2.2.2.2 r.2.2.2.2.length)
def Ly(aD:List Cn)(a4:TFunc)(a7:Int)(aC:A0)(aA:List Bm):Option BE:=
 ((Ad (Hi aD) ((0:Int),a4.Params,a4.Ret,a4.Blocks,a7,aC,aA)).bind (λx16=>(match x16 with|(.inl (l8,i9,l10,i11,l12,l13))=>(some (true,(⟨l8,i9,l10⟩:TFunc),i11,l12,l13))|(.inr r18)=>(some r18))))
theorem CV(h:Ly v7 v0 v1 v2 v12=some v23):sP 166 [(AV.list 6 Sb default v7 .none),(.clo 167 [HW] [])] (Z3 v0.Params v0.Ret v0.Blocks v1 v2 v12 v12.length) (.bool v23.1) (Z3 v23.2.1.Params v23.2.1.Ret v23.2.1.Blocks v23.2.2.1 v23.2.2.2.1 v23.2.2.2.2 v23.2.2.2.2.length):=
 sG Tryz.func166 λΓ q=>tW q I8 I7 Mu I7 (tL q h Mu I7 (λu (i1,l2,i3,l4,i5,l6,l7)=>(Du u [(9,(Z6 i1))] (Z3 l2 i3 l4 i5 l6 l7 l7.length))) (λu x_=>match x_ with|(.inl (l8,i9,l10,i11,l12,l13))=>aG Γ (.exit 0) (⟨[],(Z3 l8 i9 l10 i11 l12 l13 l13.length),[]⟩:St)|(.inr r_)=>aR (EF Γ v7 v0 v1 v2 v12 r_)) (λ⟨i1,l2,i3,l4,i5,l6,l7⟩ y h=>Af q LT I7 (gC h (λh=>tV q LU [6,30000,37006] h λh=>tB h λx15 y15 h=>tT q SG I7 [(xR x15.1 x15.2.1.Params x15.2.1.Ret x15.2.1.Blocks x15.2.2.1 x15.2.2.2.1 x15.2.2.2.2 x15.2.2.2.2.length)] (c1 (Vn y15)) (gC h (λh=>Af q [4] I7 (tS h (gO (Mm (Ic Ym (Le.refl _ _)))))) λh=>Af q Mu I7 (tN h))) λh=>tS h (gO (Bn (Bs [] I7 q))))) λx16 h=>(match x16,h with | .inl ⟨l8,i9,l10,i11,l12,l13⟩,h=>gA (Af q [4] I7 (tS h (Cf Ym))) | .inr r18,h=>Pi (λst' hk=>tS h (gK hk))))
def xy(x1:Bool)(x2:BE)(aC:A0):AV:=(yv x1 x2.2.2.2.1 aC)
def xx(x1:Bool)(x2:BE)(a4:TFunc):AV:=(yv x1 x2.2.1.Params a4.Params)
def xw(x1:Bool)(x2:BE)(a4:TFunc):AV:=(.slice 5 (bif (x1==true) then x2.2.1.Blocks.length else a4.Blocks.length) (λi=>bif (x1==true) then Jv (x2.2.1.Blocks.getD i default) else Jv (a4.Blocks.getD i default)) .none)
def Gl(aN:An)(a4:TFunc)(a7:Int)(aC:A0)(aA:List Bm):Option BE:=
 ((Lc aN.Phis).bind λx1=>((bif (x1==true) then Ly aN.Ops a4 a7 aC aA else some (false,(default:TFunc),(0:Int),[],[])).bind λx2=>(some ((bif x1 then x2.1 else false),(⟨(bif (x1==true) then x2.2.1.Params else a4.Params),(bif (x1==true) then x2.2.1.Ret else a4.Ret),(bif (x1==true) then x2.2.1.Blocks else a4.Blocks)⟩:TFunc),(bif (x1==true) then x2.2.2.1 else a7),(bif (x1==true) then x2.2.2.2.1 else aC),(bif (x1==true) then x2.2.2.2.2 else aA)))))
theorem S0(h:Gl v9 v0 v1 v2 v12=some v23):sP 130 [HW,(.agg (Jv v9))] (Z3 v0.Params v0.Ret v0.Blocks v1 v2 v12 v12.length) (.bool v23.1) (Z3 v23.2.1.Params v23.2.1.Ret v23.2.1.Blocks v23.2.2.1 v23.2.2.2.1 v23.2.2.2.2 v23.2.2.2.2.length):=
 sG Tryz.func130 λΓ q=>Af q Qc RD (tB h λx1 y1 h=>tB h λx2 y2 h=>tT q [4] I7 [(Z2 x1),(xR x2.1 x2.2.1.Params x2.2.1.Ret x2.2.1.Blocks x2.2.2.1 x2.2.2.2.1 x2.2.2.2.2 x2.2.2.2.2.length)] (ci (AB y1) (eP (x1==true) (c2 (λ(hg:(x1==true)=true)=>(CV (Bk hg y2))) (M2 x1)))) (tS h (gK (e:=.ret) (Ic Ym (Le.trans (yT (λg_ u=>(Du u [] [(30000,.row 110 [(xx x1 x2 v0),(.int .i64 (bif (x1==true) then x2.2.1.Ret else v0.Ret)),(xw x1 x2 v0),(.int .i64 (bif (x1==true) then x2.2.2.1 else v1)),(xy x1 x2 v2),.nilm,(yG g_ x2.2.2.2.2 v12)]),(37006,.tok 5 195 (bif g_ then x2.2.2.2.2.length else v12.length))])) (λg_ u=>(Du u [] [(30000,.row 110 [(xx x1 x2 v0),(.int .i64 (bif (x1==true) then x2.2.1.Ret else v0.Ret)),(xw x1 x2 v0),(.int .i64 (bif (x1==true) then x2.2.2.1 else v1)),(xy x1 x2 v2),.nilm,(AV.list 5 Nz default (bif g_ then x2.2.2.2.2 else v12) (.own 37006))]),(37006,.tok 5 195 ((bif g_ then x2.2.2.2.2 else v12).length))])) (x1==true)) (Le.trans (qo 30000 0 (show AVle (xx x1 x2 v0) (AV.list 1 Aw 0 (bif (x1==true) then x2.2.1.Params else v0.Params) .none) from Ke)) (Le.trans (qo 30000 2 (show AVle (xw x1 x2 v0) (AV.list 5 Jv default (bif (x1==true) then x2.2.1.Blocks else v0.Blocks) .none) from Ke)) (qo 30000 4 (show AVle (xy x1 x2 v2) (AV.list 1 Aw 0 (bif (x1==true) then x2.2.2.2.1 else v2) .none) from Ke)))))))))
def Fp(aD:List An):Sh->Option wy:=
 λ((i1,l2,i3,l4,i5,l6,l7):Sh)=>(bif (decide (i1<(aD.length:Int))) then(Bf (Bd i1 aD.length) ((Gl (aD.getD i1.toNat default) (⟨l2,i3,l4⟩:TFunc) i5 l6 l7).bind λx15=>(bif (!x15.1) then(some (.done (.inr (false,x15.2.1,x15.2.2.1,x15.2.2.2.1,x15.2.2.2.2)))) else(some (.next ((w64 (i1+1)),x15.2.1.Params,x15.2.1.Ret,x15.2.1.Blocks,x15.2.2.1,x15.2.2.2.1,x15.2.2.2.2)))))) else(some (.done (.inl (l2,i3,l4,i5,l6,l7)))))
def Yp(Γ:Ih)(aD:List An)(a4:TFunc)(a7:Int)(aC:A0)(aA:List Bm)(r:BE):Exit->St->Prop:=fK Tryz.prog Γ Tryz.f129.results.toList (Z3 a4.Params a4.Ret a4.Blocks a7 aC aA aA.length) (.bool r.1) (Z3 r.2.1.Params r.2.1.Ret r.2.1.Blocks r.2.2.1 r.2.2.2.1 r.2.2.2.2 r.2.2.2.2.length)
def Jx(aD:List An)(a4:TFunc)(a7:Int)(aC:A0)(aA:List Bm):Option BE:=
 ((Ad (Fp aD) ((0:Int),a4.Params,a4.Ret,a4.Blocks,a7,aC,aA)).bind (λx16=>(match x16 with|(.inl (l8,i9,l10,i11,l12,l13))=>(some (true,(⟨l8,i9,l10⟩:TFunc),i11,l12,l13))|(.inr r18)=>(some r18))))
theorem Xf(h:Jx v10 v0 v1 v2 v12=some v23):sP 129 [(au v10),(.clo 130 [HW] [])] (Z3 v0.Params v0.Ret v0.Blocks v1 v2 v12 v12.length) (.bool v23.1) (Z3 v23.2.1.Params v23.2.1.Ret v23.2.1.Blocks v23.2.2.1 v23.2.2.2.1 v23.2.2.2.2 v23.2.2.2.2.length):=
 sG Tryz.func129 λΓ q=>tW q I8 I7 Mu I7 (tL q h Mu I7 (λu (i1,l2,i3,l4,i5,l6,l7)=>(Du u [(9,(Z6 i1))] (Z3 l2 i3 l4 i5 l6 l7 l7.length))) (λu x_=>match x_ with|(.inl (l8,i9,l10,i11,l12,l13))=>aG Γ (.exit 0) (⟨[],(Z3 l8 i9 l10 i11 l12 l13 l13.length),[]⟩:St)|(.inr r_)=>aR (Yp Γ v10 v0 v1 v2 v12 r_)) (λ⟨i1,l2,i3,l4,i5,l6,l7⟩ y h=>Af q LT I7 (gC h (λh=>tV q LU [6,30000,37006] h λh=>tB h λx15 y15 h=>tT q SG I7 [(xR x15.1 x15.2.1.Params x15.2.1.Ret x15.2.1.Blocks x15.2.2.1 x15.2.2.2.1 x15.2.2.2.2 x15.2.2.2.2.length)] (c1 (S0 y15)) (gC h (λh=>Af q [4] I7 (tS h (gO (Mm (Ic Ym (Le.refl _ _)))))) λh=>Af q Mu I7 (tN h))) λh=>tS h (gO (Bn (Bs [] I7 q))))) λx16 h=>(match x16,h with | .inl ⟨l8,i9,l10,i11,l12,l13⟩,h=>gA (Af q [4] I7 (tS h (Cf Ym))) | .inr r18,h=>Pi (λst' hk=>tS h (gK hk))))
def jO(x1:Bool)(x2:Bool):=((bif x1 then x2 else false)==true)
def yB(x1:Bool)(x2:Bool)(x3:BE)(aC:A0):AV:=(xO (jO x1 x2) x3.2.2.2.1 aC)
def yA(x1:Bool)(x2:Bool)(x3:BE)(a4:TFunc):AV:=(xO (jO x1 x2) x3.2.1.Params a4.Params)
def xz(x1:Bool)(x2:Bool)(x3:BE)(a4:TFunc):AV:=(yu (jO x1 x2) x3.2.1.Blocks a4.Blocks)
def Jy(a4:TFunc)(a7:Int)(aC:A0)(aA:List Bm):Option kj:=
 ((Ot a4.Params).bind λx1=>((bif (x1==true) then K4 a4.Ret else some false).bind λx2=>((bif ((bif x1 then x2 else false)==true) then Jx a4.Blocks a4 a7 aC aA else some (false,(default:TFunc),(0:Int),[],[])).bind λx3=>((M6 (bif (bif x1 then x2 else false) then x3.1 else false) (6:Int)).bind λx4=>(some (x4,(⟨(bif ((bif x1 then x2 else false)==true) then x3.2.1.Params else a4.Params),(bif ((bif x1 then x2 else false)==true) then x3.2.1.Ret else a4.Ret),(bif ((bif x1 then x2 else false)==true) then x3.2.1.Blocks else a4.Blocks)⟩:TFunc),(bif ((bif x1 then x2 else false)==true) then x3.2.2.1 else a7),(bif ((bif x1 then x2 else false)==true) then x3.2.2.2.1 else aC),(bif ((bif x1 then x2 else false)==true) then x3.2.2.2.2 else aA)))))))
theorem Xg(h:Jy v0 v1 v2 v12=some v13):sP 93 [HW] (Z3 v0.Params v0.Ret v0.Blocks v1 v2 v12 v12.length) (Z6 v13.1) (Z3 v13.2.1.Params v13.2.1.Ret v13.2.1.Blocks v13.2.2.1 v13.2.2.2.1 v13.2.2.2.2 v13.2.2.2.2.length):=
 sG Tryz.func93 λΓ q=>Af q [0] I7 (tB h λx1 y1 h=>tB h λx2 y2 h=>tB h λx3 y3 h=>tT q [3] I7 [(Z2 x1),(Z2 x2),(xR x3.1 x3.2.1.Params x3.2.1.Ret x3.2.1.Blocks x3.2.2.1 x3.2.2.2.1 x3.2.2.2.2 x3.2.2.2.2.length)] (ci (IY y1) (uG (x1==true) (dW (λ(hg:(x1==true)=true)=>(Ng (Bk hg y2))) (M2 x1) (zH (jO x1 x2) (c2 (λ(hg:(jO x1 x2)=true)=>(Xf (Bk hg y3))) (M2 (bif x1 then x2 else false))))))) (Hr (Le.trans (yT (λg_ u=>(Du u [] [(30000,.row 110 [(yA x1 x2 x3 v0),(sW (jO x1 x2) x3.2.1.Ret v0.Ret),(xz x1 x2 x3 v0),(sW (jO x1 x2) x3.2.2.1 v1),(yB x1 x2 x3 v2),.nilm,(yG g_ x3.2.2.2.2 v12)]),(37006,.tok 5 195 (bif g_ then x3.2.2.2.2.length else v12.length))])) (λg_ u=>(Du u [] [(30000,.row 110 [(yA x1 x2 x3 v0),(sW (jO x1 x2) x3.2.1.Ret v0.Ret),(xz x1 x2 x3 v0),(sW (jO x1 x2) x3.2.2.1 v1),(yB x1 x2 x3 v2),.nilm,(AV.list 5 Nz default (bif g_ then x3.2.2.2.2 else v12) (.own 37006))]),(37006,.tok 5 195 ((bif g_ then x3.2.2.2.2 else v12).length))])) (jO x1 x2)) (Le.trans (qo 30000 0 (show AVle (yA x1 x2 x3 v0) (AV.list 1 Aw 0 (bif (jO x1 x2) then x3.2.1.Params else v0.Params) .none) from Ke)) (Le.trans (qo 30000 2 (show AVle (xz x1 x2 x3 v0) (AV.list 5 Jv default (bif (jO x1 x2) then x3.2.1.Blocks else v0.Blocks) .none) from Ke)) (qo 30000 4 (show AVle (yB x1 x2 x3 v2) (AV.list 1 Aw 0 (bif (jO x1 x2) then x3.2.2.2.1 else v2) .none) from Ke))))) (tB h λx4 y4 h=>tT q [2] I7 [(SK x4)] (c1 (Yd y4)) (tS h (Cf Ym)))))
def E6(aI:Int):Option G7:=
 (some (aI,(1:Int)))
theorem Mc(h:E6 v1=some v19):sP 131 [(Z6 v1)] [] (NM v19) []:=
 sG Tryz.func131 λΓ q=>tW q [0,2] [2] [2] [2] (tS h (Cf []))
def uy:=(λ(v_:As)=>((Vz v_):AV))
abbrev Om:=(Int×As)
abbrev dD:=(Bool×TFunc×Int×A0×List Bm×List (Int×As))
def Gm(a9:Int)(aa3:G7)(aP:Li)(a4:TFunc)(a7:Int)(aC:A0)(aB:List Om)(aA:List Bm):Option dD:=
 (bif (bif (bif (C7 aB a9) then true else(decide (a9<1))) then true else(decide ((1023:Int)<a9))) then(some (false,a4,a7,aC,aA,aB)) else(some (true,a4,a7,aC,aA,(Hn aB a9 (⟨aa3,aP⟩:As)))))
variable{v24:Li}{v25:List Om}{v26:dD}
abbrev TS:=(Int×AV)
theorem O8(h:Gm v1 v19 v24 v0 v11 v2 v25 v12=some v26):sP 168 [HW,(Z6 v1),(NM v19),(.agg (MR v24))] [(Z1 v0.Params v0.Ret v0.Blocks v11 v2 9100005 v12),(Mw 37006 195 v12.length),(9100005,.obj (.map true .i64 (mapE (λ(v_:As)=>((Vz v_):AV)) v25)))] (.bool v26.1) [(Z1 v26.2.1.Params v26.2.1.Ret v26.2.1.Blocks v26.2.2.1 v26.2.2.2.1 9100005 v26.2.2.2.2.1),(Mw 37006 195 v26.2.2.2.2.1.length),(9100005,.obj (.map true .i64 (mapE (λ(v_:As)=>((Vz v_):AV)) v26.2.2.2.2.2)))]:=
 sG Tryz.func168 λΓ q=>Af q [0,1,6,7] io (gR q [0,1,6,7,10] io [(17,(.tuple [(sV v25 v1),(.bool (C7 v25 v1))]))] [] (c1 (show(AVle (.tuple [mget (.agg [N9,N9,N9,N9]) (mapE uy v25) v1,.bool (C7 (mapE uy v25) v1)]) (.tuple [(sV v25 v1),(.bool (C7 v25 v1))])) from(GM (f:=uy) (l:=v25) (AVle.refl _) rfl))) (tU q [0,1,6,7,28] io (c4 (gI ((C7 v25 v1)==false)) (Lb (C7 v25 v1)) (gI ((bif (C7 v25 v1) then true else(decide (v1<1)))==false)) (Lb (bif (C7 v25 v1) then true else(decide (v1<1))))) (gC h (λh=>Af q [8] I5 (tS h (Cf CX))) λh=>Af q [] I5 (Hr (Vc (λ(k_:List TS) u=>Du u [] [(ky 9100005 k_)]) (show(Hn (mapE uy v25) v1 (.agg [(Z6 v19.1),(Z6 v19.2),(Z6 v24.block),(Z6 v24.at_)]))=(mapE uy (Hn v25 v1 (⟨v19,v24⟩:As))) from(GN (f:=uy) (l:=v25) (v:=(⟨v19,v24⟩:As)) rfl rfl))) (Af q [8] I5 (tS h (Cf CX)))))))
def Pu(a1:Cn):Option G7:=
 ((Qz a1).bind λx1=>(bif (!x1) then(some ((0:Int),(0:Int))) else((Py a1).bind λx2=>(some (x2.1,x2.2)))))
theorem TH(h:Pu v6=some v19):sP 169 [(X9 v6)] [] (.tuple [(Z6 v19.1),(Z6 v19.2)]) []:=
 sG Tryz.func169 λΓ q=>Af q [1] [1] (tB h λx1 y1 h=>tT q [1,6] [1] [(Z2 x1)] (c1 (AG y1)) (gC h (λh=>Af q Dg [] (tS h (Cf []))) λh=>tB h λx2 y2 h=>tT q Dg [] [(xU x2.1 x2.2)] (c1 (DJ y2)) (tS h (Cf []))))
end
end Go.Proofs.YtiendmljhgbjoaaGreat
