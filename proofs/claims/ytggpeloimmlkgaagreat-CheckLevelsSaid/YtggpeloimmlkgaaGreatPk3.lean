/-
  The machine, the program's functions and the laws' arithmetic: part 3 of 5.
-/
import Derived.Test.YtggpeloimmlkgaaGreatPk2
import Derived.BigCall
import Derived.Lib.RowBridge
import Derived.Shelf.Slices.Clone
import Derived.Shelf.Slices.CompactI
import Derived.Shelf.Slices.In.SortNone
import Derived.Shelf.Sort.Plain
import Derived.Sort.OwnSortedInts
import Derived.Test.YtggpeloimmlkgaaGreatProg
set_option linter.unusedVariables false
set_option linter.unusedSimpArgs false
namespace Go.Proofs.YtggpeloimmlkgaaGreat
noncomputable section
open Go Go.RowKit
def I8{α:Type}(sz:Nat)(e:α→List AV)(d:α)(L:List (List α))(t:Nat→Tag):Nat→List AV:=fun j=>[AV.list sz e d (L.getD j []) (t j)]
def E0(b i k j:Nat):Tag:=bif Nat.beq j i then .own k else .fam b j
def Jt{α:Type}(L:List (List α)):Nat→Option Nat:=fun j=>if j<L.length then some (L.getD j []).length else none
def Qu{α:Type}(L:List (List α))(i:Nat):Nat→Option Nat:=fun j=>if j=i then none else Jt L j
mutual
def AV.free(p:Tag→Bool):AV→Bool
 | .slice _ _ _ t=>p t
 | .clo _ xs ys=>AV.freeAll p xs&&AV.freeAll p ys
 | .agg cs=>AV.freeAll p cs
 | .tuple cs=>AV.freeAll p cs
 | .cond _ x=>x.free p
 | _=>true
def AV.freeAll(p:Tag→Bool):List AV→Bool
 | []=>true
 | x::l=>x.free p&&AV.freeAll p l
end
theorem He{p:Tag→Bool}{l:List AV}(h:AV.freeAll p l=true)(j:Nat):(l.getD j .any).free p=true:=by
 induction l generalizing j with
 | nil=>simp[AV.free]
 | cons x l ih=>
  simp only[AV.freeAll,Bool.and_eq_true]at h
  cases j with
  | zero=>simpa using h.1
  | succ j=>simpa using ih h.2 j
def AObj.Al(P:AV→Prop):AObj→Prop
 | .iter _ _=>True
 | .map _ _ _=>True
 | .pmap _ _ _=>True
 | .miter m _ _=>P m
theorem AObj.Al.imp{P Q:AV→Prop}{x:AObj}(h:x.Al P)(k:∀ y,P y→Q y):x.Al Q:=by
 cases x with
 | iter=>trivial
 | map=>trivial
 | pmap=>trivial
 | miter=>exact k _ h
theorem ObjR.al{P:AV→Prop}{I I':Nat→Nat→Prop}{own own':Nat→Option Own}{θ θ':Nat→Option (Nat×Nat)}{w w':World}{o:Obj}{x:AObj}(h:ObjR I own θ w o x)(hx:x.Al P)(hI:∀ b o,I b o→I' b o)(hw:∀ b o,I b o→w'.cell? ⟨b,o,none⟩=w.cell? ⟨b,o,none⟩)(hf:∀ v y,P y→Rep I own θ w v y→Rep I' own' θ' w' v y):ObjR I' own' θ' w' o x:=by
 cases h with
 | iter s p=>exact .iter s p
 | map es nn k l hs hr=>
  refine .map es nn k l hs fun i hi=>?_;obtain⟨v,h1,h2,h3⟩:=hr i hi;exact⟨v,h1,h2.mono hI hw,h3⟩
 | pmap es nn k l0 l hp hk hs hr=>
  refine .pmap es nn k l0 l hp hk hs fun i hi=>?_;obtain⟨v,h1,h2,h3⟩:=hr i hi;exact⟨v,h1,h2.mono hI hw,h3⟩
 | miter r m n c seen hc hr=>exact .miter r m n c seen hc (hf _ _ hx hr)
def X7(b:Nat):Tag→Bool
 | .fam b' _=>!Nat.beq b' b
 | .own nm=>Nat.blt nm A1
 | _=>true
def noOwn(k:Nat):Tag→Bool
 | .own k'=>!Nat.beq k' k
 | _=>true
def Fr(q:Nat)(x:AV):Prop:=∀(I:Nat→Nat→Prop) (own own':Nat→Option Own) (θ θ':Nat→Option (Nat×Nat)) (w:World) (v:Value),(∃ sz e m,own q=some (.tok sz e m))→
 (∀ nm o,nm≠q→own nm=some o→∃ o',own' nm=some o'∧OwnLe o (θ nm) o' (θ' nm))→Rep I own θ w v x→Rep I own' θ' w v x
theorem fr_of{q:Nat}{p:Tag→Bool}(hp:∀ nm,p (.own nm)=true→nm≠q)(hf:∀ b i,i<A1→p (.fam b i)=true→Jb b i≠q){x:AV}(hx:x.free p=true):Fr q x:=by
 intro I own own' θ θ' w v hq ho h;obtain⟨s0,e0,m0,hq⟩:=hq;have hall:∀ nm o,nm≠q→own nm=some o→∃ o',own' nm=some o'∧OwnLe o (θ nm) o' (θ' nm):=ho
 have hne:∀{nm o},own nm=some o→(∀ sz e m,o≠.tok sz e m)→nm≠q:=fun hn hh=>by
  rintro rfl;rw[hq]at hn;exact hh _ _ _ (OI hn).symm
 induction h with
 | val v x h=>exact .val v x h
 | exact a n sz f h=>exact .exact a n sz f h
 | own nm sz e m a n cap f hn hm hv h=>
  obtain⟨o',ho',hle⟩:=ho nm _ (hp nm hx) hn
  cases o' with
  | tok sz' e' m'=>
   obtain⟨rfl,rfl,hmm,hθ⟩:=hle;refine .own nm _ _ m' a n cap f ho' (Nat.le_trans hm hmm) (fun he=>?_) h;rw[hθ (by omega)];exact hv (by omega)
  | _=>exact hle.elim
 | fam b i sz e m a n cap f hi hn hm hv h=>
  obtain⟨o',ho',hle⟩:=ho (Jb b i) _ (hf b i hi hx) hn
  cases o' with
  | tok sz' e' m'=>
   obtain⟨rfl,rfl,hmm,hθ⟩:=hle;refine .fam b i _ _ m' a n cap f hi ho' (Nat.le_trans hm hmm) (fun he=>?_) h;rw[hθ (by omega)];exact hv (by omega)
  | _=>exact hle.elim
 | ptr nm off e cells g c hn hg=>
  obtain⟨o',ho',hle⟩:=ho nm _ (hne hn (fun _ _ _ h=>by cases h)) hn
  cases o' with
  | row e' cells'=>
   have e:θ' nm=θ nm:=hle.2;exact .ptr nm off e' cells' g c ho' (e.trans hg)
  | _=>exact hle.elim
 | vsl nm sz e m f a n cap hn hm hcap hmax hnn hv=>
  obtain⟨o',ho',hle⟩:=ho nm _ (hne hn (fun _ _ _ h=>by cases h)) hn
  cases o' with
  | arr sz' e' m' f'=>
   obtain⟨rfl,rfl,hmm,hθ⟩:=hle;refine .vsl nm _ _ m' f' a n cap ho' (Nat.le_trans hm hmm) hcap hmax hnn (fun he=>?_);rw[hθ (by omega)];exact hv (by omega)
  | _=>exact hle.elim
 | vpt nm sz e m f n i j ad hn hm hi hv=>
  obtain⟨o',ho',hle⟩:=ho nm _ (hne hn (fun _ _ _ h=>by cases h)) hn
  cases o' with
  | arr sz' e' m' f'=>
   obtain⟨rfl,rfl,hmm,hθ⟩:=hle;refine .vpt nm _ _ m' f' n i j ad ho' (Nat.le_trans hm hmm) hi (fun he=>?_);rw[hθ (by omega)];exact hv (by omega)
  | _=>exact hle.elim
 | clo f fs cs xs ys hl hl' _ _ ih ih'=>
  simp only[AV.free,Bool.and_eq_true]at hx;exact .clo f fs cs xs ys hl hl' (fun j hj=>ih j hj (He hx.1 j)) (fun j hj=>ih' j hj (He hx.2 j))
 | optr nm mm x g c hn hg=>
  obtain⟨o',ho',hle⟩:=ho nm _ (hne hn (fun _ _ _ h=>by cases h)) hn
  cases o' with
  | obj x'=>exact .optr nm mm x' g c ho' (by rw[hle,hg])
  | _=>exact hle.elim
 | omap nm x hn=>
  obtain⟨o',ho',hle⟩:=ho nm _ (hne hn (fun _ _ _ h=>by cases h)) hn
  cases o' with
  | obj x'=>
   have hle:θ' nm=θ nm:=hle;rw[← hle];exact .omap nm x' ho'
  | _=>exact hle.elim
 | vsub nm sz e m f n lo hi a cap hn hm hlo hhi hcap hmax hnn hv=>
  obtain⟨o',ho',hle⟩:=ho nm _ (hne hn (fun _ _ _ h=>by cases h)) hn
  cases o' with
  | arr sz' e' m' f'=>
   obtain⟨rfl,rfl,hmm,hθ⟩:=hle;refine .vsub nm _ _ m' f' n lo hi a cap ho' (Nat.le_trans hm hmm) hlo hhi hcap hmax hnn (fun he=>?_);rw[hθ (by omega)];exact hv (by omega)
  | _=>exact hle.elim
 | cond v c x _ h' ih=>exact .cond v c x (fun hc=>ih hc hx) h'
 | agg vs cs hl h1 _ ih=>exact .agg vs cs hl h1 (fun j hj=>ih j hj (He hx j))
 | tuple vs cs hl _ ih=>exact .tuple vs cs hl (fun j hj=>ih j hj (He hx j))
theorem fr_fam{b i:Nat}(hi:i<A1){x:AV}(hx:x.free (X7 b)=true):Fr (Jb b i) x:=
 fr_of (p:=X7 b) (fun nm hp he=>by
  have hlt:nm<A1:=by simpa [X7,Nat.blt_eq] using hp
  rw[he]at hlt
  exact Hq b i hlt) (fun b' i' hi' hp he=>by
  have h1:=Mc (b:=b') hi';rw[he,Mc hi]at h1;subst h1
  simp[X7]at hp) hx
theorem fr_own{k:Nat}(hk:k<A1){x:AV}(hx:x.free (noOwn k)=true):Fr k x:=
 fr_of (p:=noOwn k) (fun nm hp he=>by subst he;simp[noOwn]at hp) (fun b i _ _ he=>by rw[← he]at hk;exact Hq b i hk) hx
def OwnFr(q:Nat):Own→Prop
 | .row _ cells=>∀ j,j<cells.length→Fr q (cells.getD j .any)
 | .arr sz _ m f=>∀ i j,i<m→j<sz→Fr q ((f i).getD j .any)
 | .obj x=>x.Al (Fr q)
 | .tok ..=>True
theorem Nw{I:Nat→Nat→Prop}{own own':Nat→Option Own}{θ θ':Nat→Option (Nat×Nat)}{w:World}{nm sz m:Nat}{e:TypeId}{f f':Nat→List AV}
  (h:(θ nm=none→m=0)∧∀ g c,θ nm=some (g,c)→∃ cur,w.heap[g]?=some (.cells cur e (0,0))∧m≤c∧c≤maxLen∧cur.size=c*sz ∧
   (∀ i,i<m→(f i).length=sz)∧(∀ i j,i<m→j<sz→(cur.getD (i*sz+j) undef).oneCell'=true∧Rep I own θ w (cur.getD (i*sz+j) undef) ((f i).getD j .any))∧∀ j,¬ I g j)
  (hθ:θ' nm=θ nm) (hf:∀ i,i<m→(f' i).length=(f i).length) (hr:∀ i j v,i<m→j<sz→Rep I own θ w v ((f i).getD j .any)→Rep I own' θ' w v ((f' i).getD j .any)) :
  (θ' nm=none→m=0)∧∀ g c,θ' nm=some (g,c)→∃ cur,w.heap[g]?=some (.cells cur e (0,0))∧m≤c∧c≤maxLen∧cur.size=c*sz ∧
   (∀ i,i<m→(f' i).length=sz)∧(∀ i j,i<m→j<sz→(cur.getD (i*sz+j) undef).oneCell'=true∧Rep I own' θ' w (cur.getD (i*sz+j) undef) ((f' i).getD j .any))∧∀ j,¬ I g j:=by
 rw[hθ];refine⟨h.1,fun g c hg=>?_⟩;obtain⟨cur,q1,q2,q3,q4,q5,q6,q7⟩:=h.2 g c hg;exact⟨cur,q1,q2,q3,q4,fun i hi=>(hf i hi).trans (q5 i hi),fun i j hi hj=>⟨(q6 i j hi hj).1,hr i j _ hi hj (q6 i j hi hj).2⟩,q7⟩
section
variable {Γ:Ga} {σ:Sto} {I:Nat→Nat→Prop} {θ:Nat→Option (Nat×Nat)} {a:Act} {w:World}
theorem Vz(h:Rel Γ σ I θ a w){p q r sz m s1 n:Nat}{e e1:TypeId}{F F':Nat→List AV}(hp:σ.own p=some (.tok sz e m))(hq:σ.own q=none)(hr:σ.own r=some (.arr s1 e1 n F))(hp0:Γ.own0 p=none)
  (hfree:∀ t,Fr p (σ.tmp t)) (hrows:∀ nm o,nm≠r→σ.own nm=some o→OwnFr p o) {own':Nat→Option Own} {θ':Nat→Option (Nat×Nat)}
  (hown:own'=fun x=>if x=q then some (.tok sz e m) else if x=p then none else if x=r then some (.arr s1 e1 n F') else σ.own x)
  (hθ:θ'=fun x=>if x=q then θ p else if x=p then none else θ x)
  (hlen:∀ j,j<n→(F' j).length=(F j).length)
  (hF:∀ j c v,j<n→c<s1→Rep I σ.own θ w v ((F j).getD c .any)→Rep I own' θ' w v ((F' j).getD c .any)) :
  Rel Γ ⟨σ.tmp,own'⟩ I θ' a w:=by
 have hpq:p≠q:=by rintro rfl;rw[hp]at hq;cases hq
 have hpr:p≠r:=by rintro rfl;rw[hp]at hr;cases hr
 have hqr:q≠r:=by rintro rfl;rw[hq]at hr;cases hr
 have hkeep:∀ nm o,nm≠p→σ.own nm=some o→∃ o',own' nm=some o'∧OwnLe o (θ nm) o' (θ' nm):=fun nm o hnp ho=>by
  have hnq:nm≠q:=by rintro rfl;rw[hq]at ho;cases ho
  by_cases hnr:nm=r
  ·subst hnr;rw[hr]at ho;obtain rfl:=OI ho;exact⟨.arr s1 e1 n F',by simp[hown,hnq,hnp],by simp[hθ,hnq,hnp,OwnLe]⟩
  ·exact⟨o,by simp[hown,hnq,hnp,hnr,ho],by simp[hθ,hnq,hnp,OwnLe.refl]⟩
 have hT:∀ v x,Fr p x→Rep I σ.own θ w v x→Rep I own' θ' w v x:=fun v x hx hv=>hx I _ _ _ _ w v ⟨_,_,_,hp⟩ hkeep hv
 have hinv:∀ nm o,nm≠q→nm≠r→own' nm=some o→nm≠p∧σ.own nm=some o∧θ' nm=θ nm:=fun nm o h1 h2 ho=>by
  by_cases h3:nm=p
  ·simp[hown,h3,hpq]at ho
  ·simp[hown,h1,h2,h3]at ho;exact⟨h3,ho,by simp[hθ,h1,h3]⟩
 have hnone:∀ nm,own' nm≠none→∃ nm',σ.own nm'≠none∧θ' nm=θ nm'∧(nm=q→nm'=p)∧(nm≠q→nm'=nm∧nm≠p):=fun nm hn=>by
  by_cases h1:nm=q
  ·exact⟨p,by simp[hp],by simp[hθ,h1],fun _=>rfl,fun h=>(h h1).elim⟩
  ·by_cases h2:nm=r
   ·subst h2;exact⟨nm,by simp[hr],by simp[hθ,h1,Ne.symm hpr],fun h=>(h1 h).elim,fun _=>⟨rfl,Ne.symm hpr⟩⟩
   ·cases hx:own' nm with
    | none=>exact(hn hx).elim
    | some o=>
     obtain⟨h3,h4,h5⟩:=hinv nm o h1 h2 hx;exact⟨nm,by simp[h4],h5,fun h=>(h1 h).elim,fun _=>⟨rfl,h3⟩⟩
 have hq':own' q=some (.tok sz e m):=by simp[hown]
 have hr':own' r=some (.arr s1 e1 n F'):=by simp[hown,Ne.symm hqr,Ne.symm hpr]
 have hrel:=h.chg.rel
 have hθr:θ' r=θ r:=by simp[hθ,Ne.symm hqr,Ne.symm hpr]
 have hθq:θ' q=θ p:=by simp[hθ]
 refine⟨h.size,h.defers,fun t=>hT _ _ (hfree t) (h.slots t),{ h.chg with le:=fun nm o ho=>?_,rel:=⟨fun nm e0 cells ho=>?_,fun nm s' e' m' ho g c hg=>?_,fun nm nm' g c c' ho ho' hg hg'=>?_,fun nm s' e' m' f' ho=>?_,fun nm x ho=>?_,fun nm s' m' ho hnn=>?_⟩,new:=fun nm g c ho hg=>?_ }⟩
 ·obtain⟨o',ho',hl⟩:=h.chg.le nm o ho
  have hnp:nm≠p:=by rintro rfl;rw[hp0]at ho;cases ho
  obtain⟨o'',h1,h2⟩:=hkeep nm o' hnp ho';exact⟨o'',h1,hl.trans h2⟩
 ·replace ho:own' nm=some _:=ho
  have h1:nm≠q:=by rintro rfl;rw[hq']at ho;cases ho
  have h2:nm≠r:=by rintro rfl;rw[hr']at ho;cases ho
  obtain⟨h3,h4,h5⟩:=hinv nm _ h1 h2 ho;obtain⟨g,c,vs,r1,r2,r3,r4,r5,r6⟩:=hrel.row nm e0 cells h4;exact⟨g,c,vs,h5.trans r1,r2,r3,r4,fun j hj=>hT _ _ (hrows nm _ h2 h4 j hj) (r5 j hj),r6⟩
 ·replace ho:own' nm=some _:=ho
  by_cases h1:nm=q
  ·subst h1;rw[hq']at ho;simp only[Option.some.injEq,Own.tok.injEq]at ho;obtain⟨rfl,rfl,rfl⟩:=ho;exact hrel.tok p _ _ _ hp g c (hθq.symm.trans hg)
  ·have h2:nm≠r:=by rintro rfl;rw[hr']at ho;cases ho
   obtain⟨h3,h4,h5⟩:=hinv nm _ h1 h2 ho;exact hrel.tok nm _ _ _ h4 g c (h5.symm.trans hg)
 ·obtain⟨n1,a1,a2,a3,a4⟩:=hnone nm ho;obtain⟨n2,b1,b2,b3,b4⟩:=hnone nm' ho';have:=hrel.inj n1 n2 g c c' a1 b1 (a2.symm.trans hg) (b2.symm.trans hg')
  by_cases h1:nm=q
  ·by_cases h2:nm'=q
   ·rw[h1,h2]
   ·have:=a3 h1;have:=b4 h2;omega
  ·by_cases h2:nm'=q
   ·have:=a4 h1;have:=b3 h2;omega
   ·have:=a4 h1;have:=b4 h2;omega
 ·replace ho:own' nm=some _:=ho
  have h1:nm≠q:=by rintro rfl;rw[hq']at ho;cases ho
  by_cases h2:nm=r
  ·subst h2;rw[hr']at ho;simp only[Option.some.injEq,Own.arr.injEq]at ho;obtain⟨rfl,rfl,rfl,rfl⟩:=ho;exact Nw (hrel.arr nm _ _ _ _ hr) hθr hlen hF
  ·obtain⟨h3,h4,h5⟩:=hinv nm _ h1 h2 ho;exact Nw (hrel.arr nm _ _ _ _ h4) h5 (fun _ _=>rfl) (fun i j v hi hj hv=>hT _ _ (hrows nm _ h2 h4 i j hi hj) hv)
 ·replace ho:own' nm=some _:=ho
  have h1:nm≠q:=by rintro rfl;rw[hq']at ho;cases ho
  have h2:nm≠r:=by rintro rfl;rw[hr']at ho;cases ho
  obtain⟨h3,h4,h5⟩:=hinv nm _ h1 h2 ho;exact Ge (hrel.obj nm _ h4) h5 (fun _ _ _=>rfl) (fun _ _ _ _ h=>h) (fun _ hh=>hh.al (hrows nm _ h2 h4) (fun _ _ h=>h) (fun _ _ _=>rfl) fun v y hy hv=>hT v y hy hv) Ld
 ·replace ho:own' nm=some _:=ho
  by_cases h1:nm=q
  ·subst h1;rw[hq']at ho;simp only[Option.some.injEq,Own.tok.injEq]at ho;obtain⟨rfl,he,rfl⟩:=ho;exact hrel.tok8 p _ _ (by rw[hp,he]) (hθq.symm.trans hnn)
  ·have h2:nm≠r:=by rintro rfl;rw[hr']at ho;cases ho
   obtain⟨h3,h4,h5⟩:=hinv nm _ h1 h2 ho;exact hrel.tok8 nm _ _ h4 (h5.symm.trans hnn)
 ·obtain⟨n1,a1,a2,_,_⟩:=hnone nm ho;exact h.chg.new n1 g c a1 (a2.symm.trans hg)
theorem rel_births(h:Rel Γ σ I θ a w){r s1 n:Nat}{e1:TypeId}{F F':Nat→List AV}(hr:σ.own r=some (.arr s1 e1 n F)){S:Nat→Option (Nat×TypeId×Nat)}(hS:∀ x y,S x=some y→σ.own x=none)
  (h8:∀ x sz m,S x=some (sz,P0,m)→m=0) {own':Nat→Option Own} {θ':Nat→Option (Nat×Nat)}
  (hown:own'=fun x=>match S x with|some y=>some (.tok y.1 y.2.1 y.2.2)|none=>if x=r then some (.arr s1 e1 n F') else σ.own x)
  (hθ:θ'=fun x=>match S x with|some _=>none|none=>θ x) (hlen:∀ j,j<n→(F' j).length=(F j).length)
  (hF:∀ j c v,j<n→c<s1→Rep I σ.own θ w v ((F j).getD c .any)→Rep I own' θ' w v ((F' j).getD c .any)) :
  Rel Γ ⟨σ.tmp,own'⟩ I θ' a w:=by
 have hSn:∀ nm o,σ.own nm=some o→S nm=none:=fun nm o ho=>by
  cases hx:S nm with
  | none=>rfl
  | some y=>rw[hS nm y hx]at ho;cases ho
 have hkeep:∀ nm o,σ.own nm=some o→∃ o',own' nm=some o'∧OwnLe o (θ nm) o' (θ' nm):=fun nm o ho=>by
  have h1:=hSn nm o ho
  by_cases hnr:nm=r
  ·subst hnr;rw[hr]at ho;obtain rfl:=OI ho;exact⟨.arr s1 e1 n F',by simp[hown,h1],by simp[hθ,h1,OwnLe]⟩
  ·exact⟨o,by simp[hown,h1,hnr,ho],by simp[hθ,h1,OwnLe.refl]⟩
 have hT:∀ v x,Rep I σ.own θ w v x→Rep I own' θ' w v x:=fun v x hv=>hv.mono (fun _ _ h=>h) (fun _ _ _=>rfl) hkeep
 have hinv:∀ nm o,own' nm=some o→(∀ sz e m,o≠.tok sz e m)→nm≠r→σ.own nm=some o∧θ' nm=θ nm:=fun nm o ho hn h2=>by
  cases hx:S nm with
  | none=>simp[hown,hx,h2]at ho;exact⟨ho,by simp[hθ,hx]⟩
  | some y=>simp[hown,hx]at ho;exact(hn _ _ _ ho.symm).elim
 have hold:∀ nm g c,own' nm≠none→θ' nm=some (g,c)→σ.own nm≠none∧θ nm=some (g,c):=fun nm g c ho hg=>by
  cases hx:S nm with
  | some y=>simp[hθ,hx]at hg
  | none=>
   simp[hθ,hx]at hg;refine⟨?_,hg⟩
   by_cases h2:nm=r
   ·subst h2;simp[hr]
   ·simpa [hown,hx,h2] using ho
 have hSr:S r=none:=hSn r _ hr
 have hr':own' r=some (.arr s1 e1 n F'):=by simp[hown,hSr]
 have hθr:θ' r=θ r:=by simp[hθ,hSr]
 have hrel:=h.chg.rel;refine⟨h.size,h.defers,fun t=>hT _ _ (h.slots t),{ h.chg with le:=fun nm o ho=>?_,rel:=⟨fun nm e0 cells ho=>?_,fun nm s' e' m' ho g c hg=>?_,fun nm nm' g c c' ho ho' hg hg'=>?_,fun nm s' e' m' f' ho=>?_,fun nm x ho=>?_,fun nm s' m' ho hnn=>?_⟩,new:=fun nm g c ho hg=>?_ }⟩
 ·obtain⟨o',ho',hl⟩:=h.chg.le nm o ho;obtain⟨o'',h1,h2⟩:=hkeep nm o' ho';exact⟨o'',h1,hl.trans h2⟩
 ·replace ho:own' nm=some _:=ho
  have h2:nm≠r:=by rintro rfl;rw[hr']at ho;cases ho
  obtain⟨h4,h5⟩:=hinv nm _ ho (fun _ _ _ h=>by cases h) h2;obtain⟨g,c,vs,r1,r2,r3,r4,r5,r6⟩:=hrel.row nm e0 cells h4;exact⟨g,c,vs,h5.trans r1,r2,r3,r4,fun j hj=>hT _ _ (r5 j hj),r6⟩
 ·replace ho:own' nm=some _:=ho;obtain⟨h1,h2⟩:=hold nm g c (by rw[ho];simp) hg
  cases hx:S nm with
  | some y=>simp[hθ,hx]at hg
  | none=>
   have h3:nm≠r:=by rintro rfl;rw[hr']at ho;cases ho
   simp[hown,hx,h3]at ho;exact hrel.tok nm _ _ _ ho g c h2
 ·obtain⟨a1,a2⟩:=hold nm g c ho hg;obtain⟨b1,b2⟩:=hold nm' g c' ho' hg';exact hrel.inj nm nm' g c c' a1 b1 a2 b2
 ·replace ho:own' nm=some _:=ho
  by_cases h2:nm=r
  ·subst h2;rw[hr']at ho;simp only[Option.some.injEq,Own.arr.injEq]at ho;obtain⟨rfl,rfl,rfl,rfl⟩:=ho;exact Nw (hrel.arr nm _ _ _ _ hr) hθr hlen hF
  ·obtain⟨h4,h5⟩:=hinv nm _ ho (fun _ _ _ h=>by cases h) h2;exact Nw (hrel.arr nm _ _ _ _ h4) h5 (fun _ _=>rfl) (fun i j v _ _ hv=>hT _ _ hv)
 ·replace ho:own' nm=some _:=ho
  have h2:nm≠r:=by rintro rfl;rw[hr']at ho;cases ho
  obtain⟨h4,h5⟩:=hinv nm _ ho (fun _ _ _ h=>by cases h) h2;exact Ge (hrel.obj nm _ h4) h5 (fun _ _ _=>rfl) (fun _ _ _ _ h=>h) (fun _ hh=>hh.mono hT) Ld
 ·replace ho:own' nm=some _:=ho
  cases hx:S nm with
  | some y=>
   simp only[hown,hx,Option.some.injEq,Own.tok.injEq]at ho;obtain⟨h1,h2,h3⟩:=ho;rw[← h3];exact h8 nm y.1 y.2.2 (by rw[hx,← h2])
  | none=>
   have h3:nm≠r:=by rintro rfl;rw[hr']at ho;cases ho
   simp[hown,hx,h3]at ho;simp[hθ,hx]at hnn;exact hrel.tok8 nm _ _ ho hnn
 ·obtain⟨a1,a2⟩:=hold nm g c ho hg;exact h.chg.new nm g c a1 a2
inductive OwnsFr (p:Tag→Bool) (r:Nat):List (Nat×Own)→Prop
 | nil:OwnsFr p r []
 | row {nm:Nat} {e:TypeId} {cells:List AV} {l:List (Nat×Own)} (h:AV.freeAll p cells=true) (t:OwnsFr p r l):OwnsFr p r ((nm,.row e cells)::l)
 | here {o:Own} {l:List (Nat×Own)} (t:OwnsFr p r l):OwnsFr p r ((r,o)::l)
 | arr {nm sz m:Nat} {e:TypeId} {f:Nat→List AV} {l:List (Nat×Own)} (h:∀ j,AV.freeAll p (f j)=true) (t:OwnsFr p r l):OwnsFr p r ((nm,.arr sz e m f)::l)
 | tok {nm sz m:Nat} {e:TypeId} {l:List (Nat×Own)} (t:OwnsFr p r l):OwnsFr p r ((nm,.tok sz e m)::l)
 | obj {nm:Nat} {x:AObj} {l:List (Nat×Own)} (t:OwnsFr p r l) (h:x.Al (fun y=>y.free p=true):=by first|trivial|rfl):OwnsFr p r ((nm,.obj x)::l)
theorem OwnsFr.get{p:Tag→Bool}{r q:Nat}(hp:∀ x:AV,x.free p=true→Fr q x){l:List (Nat×Own)}(h:OwnsFr p r l){nm:Nat}{o:Own}(hn:nm≠r)(ho:Ae l nm=some o):OwnFr q o:=by
 induction h with
 | nil=>cases ho
 | @row k e cells l h _ ih=>
  simp only[Ae]at ho
  cases hb:Nat.beq k nm with
  | true=>rw[hb]at ho;simp only[cond_true,Option.some.injEq]at ho;subst ho;exact fun j _=>hp _ (He h j)
  | false=>rw[hb]at ho;exact ih ho
 | @here o' l _ ih=>
  simp only[Ae]at ho
  cases hb:Nat.beq r nm with
  | true=>exact(hn (Nat.eq_of_beq_eq_true hb).symm).elim
  | false=>rw[hb]at ho;exact ih ho
 | @arr k sz m e f l h _ ih=>
  simp only[Ae]at ho
  cases hb:Nat.beq k nm with
  | true=>rw[hb]at ho;simp only[cond_true,Option.some.injEq]at ho;subst ho;exact fun i j _ _=>hp _ (He (h i) j)
  | false=>rw[hb]at ho;exact ih ho
 | @tok k sz m e l _ ih=>
  simp only[Ae]at ho
  cases hb:Nat.beq k nm with
  | true=>rw[hb]at ho;simp only[cond_true,Option.some.injEq]at ho;subst ho;trivial
  | false=>rw[hb]at ho;exact ih ho
 | @obj k x l _ h ih=>
  simp only[Ae]at ho
  cases hb:Nat.beq k nm with
  | true=>rw[hb]at ho;simp only[cond_true,Option.some.injEq]at ho;subst ho;exact h.imp fun y hy=>hp y hy
  | false=>rw[hb]at ho;exact ih ho
theorem OwnsFr.sto{p:Tag→Bool}{r q:Nat}(hp:∀ x:AV,x.free p=true→Fr q x){st:St}(h:OwnsFr p r st.own){nm:Nat}{o:Own}(hn:nm≠r)(ho:st.sto.own nm=some o):OwnFr q o:=by
 by_cases hlt:nm<A1
 ·exact h.get hp hn ((As hlt).symm.trans ho)
 ·obtain⟨sz,e,m,rfl⟩:=Mj hlt ho
  trivial
theorem tmps_fr{p:Tag→Bool}{q:Nat}(hp:∀ x:AV,x.free p=true→Fr q x){st:St}(h:st.tmps.all (fun x=>x.2.free p)=true)(t:Nat):Fr q (st.sto.tmp t):=by
 show Fr q (match Ae st.tmps t with|some x=>x|none=>.any)
 cases hx:Ae st.tmps t with
 | none=>exact hp _ rfl
 | some x=>exact hp _ (List.all_eq_true.1 h _ (R6 hx))
def remA{α:Type}(l:List (Nat×α))(k:Nat):List (Nat×α):=l.filter fun p=>!Nat.beq p.1 k
theorem look_remA{α:Type}(l:List (Nat×α))(k n:Nat):Ae (remA l k) n=if k=n then none else Ae l n:=by
 induction l with
 | nil=>simp[remA,Ae]
 | cons p l ih=>
  obtain⟨m,x⟩:=p
  have ih':Ae (List.filter (fun p=>!Nat.beq p.1 k) l) n=if k=n then none else Ae l n:=ih
  simp only[remA,List.filter_cons,Ae]
  cases hb:Nat.beq m k with
  | true=>
   have:=Nat.eq_of_beq_eq_true hb;subst this;simp only[Bool.not_true,Bool.false_eq_true,if_false,ih']
   by_cases h:m=n
   ·simp[h]
   ·have:Nat.beq m n=false:=by cases hb:Nat.beq m n with|false=>rfl|true=>exact absurd (Nat.eq_of_beq_eq_true hb) h
    simp[h,this]
  | false=>
   simp only[Bool.not_false,if_true,Ae,ih']
   cases hb':Nat.beq m n with
   | true=>
    have:=Nat.eq_of_beq_eq_true hb';subst this
    have:k≠m:=by rintro rfl;simp at hb
    simp[this]
   | false=>simp
theorem rep_out{I:Nat→Nat→Prop}{own own':Nat→Option Own}{θ θ':Nat→Option (Nat×Nat)}{w:World}{v:Value}{sz n b i p q m:Nat}{e:TypeId}{f:Nat→List AV}(hv:Rep I own θ w v (.slice sz n f (.fam b i)))(hb:Jb b i=p)(hp:own p=some (.tok sz e m))
  (hq:own' q=some (.tok sz e m)) (hθ:θ' q=θ p):Rep I own' θ' w v (.slice sz n f (.own q)):=by
 cases hv with
 | val v x h=>obtain⟨h,_⟩:=h.slice_inv;cases h
 | fam _ _ _ e' m a n' cap f hi' ho' hm hv' h'=>
  rw[hb]at ho' hv';rw[hp]at ho';simp only[Option.some.injEq,Own.tok.injEq]at ho';obtain⟨_,rfl,rfl⟩:=ho';exact .own q sz e _ _ _ _ _ hq hm (fun hh=>by rw[hθ];exact hv' hh) h'
theorem rep_stay{I:Nat→Nat→Prop}{own own':Nat→Option Own}{θ θ':Nat→Option (Nat×Nat)}{w:World}{v:Value}{sz n b i p:Nat}{f:Nat→List AV}(hv:Rep I own θ w v (.slice sz n f (.fam b i)))(hb:Jb b i=p)(ho:i<A1→own' p=own p)(hθ:i<A1→θ' p=θ p):Rep I own' θ' w v (.slice sz n f (.fam b i)):=by
 cases hv with
 | val v x h=>obtain⟨h,_⟩:=h.slice_inv;cases h
 | fam _ _ _ e' m a n' cap f hi' ho' hm hv' h'=>
  rw[hb]at ho' hv';exact .fam b i sz e' m _ _ _ _ hi' (by rw[hb,ho hi'];exact ho') hm (fun hh=>by rw[hb,hθ hi'];exact hv' hh) h'
theorem rep_back{I:Nat→Nat→Prop}{own own':Nat→Option Own}{θ θ':Nat→Option (Nat×Nat)}{w:World}{v:Value}{sz n b i p q m:Nat}{e:TypeId}{f:Nat→List AV}(hv:Rep I own θ w v (.slice sz n f (.own p)))(hb:Jb b i=q)(hi:i<A1)(hp:own p=some (.tok sz e m))
  (hq:own' q=some (.tok sz e m)) (hθ:θ' q=θ p):Rep I own' θ' w v (.slice sz n f (.fam b i)):=by
 cases hv with
 | val v x h=>obtain⟨h,_⟩:=h.slice_inv;cases h
 | own _ _ e' m' a n' cap f ho' hm' hv' h'=>
  rw[hp]at ho';simp only[Option.some.injEq,Own.tok.injEq]at ho';obtain⟨_,rfl,rfl⟩:=ho';exact .fam b i sz e m _ _ _ _ hi (by rw[hb];exact hq) hm' (fun hh=>by rw[hb,hθ];exact hv' hh) h'
theorem rep_new{I:Nat→Nat→Prop}{own own':Nat→Option Own}{θ θ':Nat→Option (Nat×Nat)}{w:World}{v:Value}{sz n b i q:Nat}{e:TypeId}{f:Nat→List AV}(hv:Rep I own θ w v (.slice sz n f .exact))(hb:Jb b i=q)(hi:i<A1)(hq:own' q=some (.tok sz e n))(hθ:θ' q=none) :
  Rep I own' θ' w v (.slice sz n f (.fam b i)):=by
 cases hv with
 | val v x h=>obtain⟨h,_⟩:=h.slice_inv;cases h
 | exact a n' s' f h'=>exact .fam b i sz e _ _ _ _ _ hi (by rw[hb];exact hq) (Nat.le_refl _) (fun _=>by rw[hb,hθ]) h'
section
variable {α:Type} {st:St} {r b k n sz:Nat} {e1:TypeId}
theorem row_lt{I:Nat→Nat→Prop}{own:Nat→Option Own}{θ:Nat→Option (Nat×Nat)}{w:World}(h:Fy I own θ w){s1:Nat}{F:Nat→List AV}(hr:own r=some (.arr s1 e1 n F)){i:Nat}(hi:i<n):i<A1:=by
 have hm:maxLen<A1:=by decide
 obtain⟨h1,h2⟩:=h.arr r _ _ _ _ hr
 cases hx:θ r with
 | none=>have:=h1 hx;omega
 | some y=>obtain⟨_,_,h3,h4,_⟩:=h2 y.1 y.2 hx;omega
theorem le_take(enc:α→List AV)(d:α)(L:List (List α))(i:Nat)(e:TypeId)(hr:Ae st.own r=some (.arr 1 e1 n (I8 sz enc d L (Tag.fam b))))(hb:Ae st.fam b=some ⟨sz,e,Jt L⟩)(hk:Ae st.own k=none)(hn:n=L.length)(hi:i<L.length)
  (ht:st.tmps.all (fun x=>x.2.free (X7 b))=true) (ho:OwnsFr (X7 b) r st.own) (hlr:Nat.blt r A1=true:=by rfl) (hlk:Nat.blt k A1=true:=by rfl) :
  Le Γ st ⟨st.tmps,Ch (Ch st.own r (.arr 1 e1 n (I8 sz enc d L (E0 b i k)))) k (.tok sz e (L.getD i []).length),Ch st.fam b ⟨sz,e,Qu L i⟩⟩:=by
 intro I θ a w h
 have hlr:r<A1:=by simpa [Nat.blt_eq] using hlr
 have hlk:k<A1:=by simpa [Nat.blt_eq] using hlk
 have hr':st.sto.own r=some (.arr 1 e1 n (I8 sz enc d L (Tag.fam b))):=(As hlr).trans hr;have hk':st.sto.own k=none:=(As hlk).trans hk;have hib:i<A1:=row_lt h.chg.rel hr' (by omega)
 have hp:st.sto.own (Jb b i)=some (.tok sz e (L.getD i []).length):=by
  show B0 _ _ _=_
  rw[Ux hib,hb];simp[Jt,hi]
 have hkb:k≠Jb b i:=fun he=>by rw[he]at hlk;exact Hq b i hlk
 have hrb:r≠Jb b i:=fun he=>by rw[he]at hlr;exact Hq b i hlr
 have hown:(⟨st.tmps,Ch (Ch st.own r (.arr 1 e1 n (I8 sz enc d L (E0 b i k)))) k (.tok sz e (L.getD i []).length),Ch st.fam b ⟨sz,e,Qu L i⟩⟩:St).sto.own =
   fun x=>if x=k then some (.tok sz e (L.getD i []).length) else if x=Jb b i then none else if x=r then some (.arr 1 e1 n (I8 sz enc d L (E0 b i k))) else st.sto.own x:=by
  funext x
  show B0 (Ch (Ch st.own r _) k _) (Ch st.fam b _) x=if x=k then _ else if x=Jb b i then none else if x=r then _ else B0 st.own st.fam x
  by_cases hx:x<A1
  ·have h1:x≠Jb b i:=fun he=>by rw[he]at hx;exact Hq b i hx
   rw[As hx,As hx,D3,D3];simp only[eq_comm (a:=k),eq_comm (a:=r),h1,if_false]
  ·have h1:x≠k:=by rintro rfl;exact hx hlk
   have h2:x≠r:=by rintro rfl;exact hx hlr
   rw[Ck hx,Ck hx,D3,if_neg h1,if_neg h2]
   by_cases hd:b=x / A1-1
   ·have hxe:=big_of hx;rw[← hd]at hxe
    by_cases hm:x % A1=i
    ·rw[hm]at hxe;rw[if_pos hd,if_pos hxe,hm];simp[Qu]
    ·have h3:x≠Jb b i:=fun he=>hm (by rw[he,K2 hib]);rw[if_pos hd,if_neg h3,← hd,hb];simp[Qu,hm]
   ·have h3:x≠Jb b i:=fun he=>hd (by rw[he,Mc hib]);rw[if_neg hd,if_neg h3]
 let θ':Nat→Option (Nat×Nat):=fun x=>if x=k then θ (Jb b i) else if x=Jb b i then none else θ x
 refine⟨I,θ',?_⟩;have hrr:=Vz (θ':=θ') h hp hk' hr' (by cases hx:Γ.own0 (Jb b i) with|none=>rfl|some o=>exact(Hq b i (Γ.lt0 _ (by rw[hx];simp))).elim)
  (fun t=>tmps_fr (fun x hx=>fr_fam hib hx) ht t) (fun nm o hne ho'=>ho.sto (fun x hx=>fr_fam hib hx) hne ho') hown rfl (fun j _=>rfl) (fun j c v hj hc hv=>?_)
 ·exact hrr
 ·obtain rfl:c=0:=by omega
  show Rep I _ θ' w v (.slice sz _ _ (E0 b i k j))
  replace hv:Rep I st.sto.own θ w v (.slice sz (L.getD j []).length (fun i_=>enc ((L.getD j []).getD i_ d)) (.fam b j)):=hv
  cases hji:Nat.beq j i with
  | true=>
   have:=Nat.eq_of_beq_eq_true hji;subst this;rw[show E0 b j k j = .own k by simp[E0]];exact rep_out hv rfl hp ((congrFun hown k).trans (if_pos rfl)) (if_pos rfl)
  | false=>
   have hne:j≠i:=by rintro rfl;simp at hji
   rw[show E0 b i k j = .fam b j by simp[E0,hji]];have h3:j<A1→Jb b j≠Jb b i:=fun hi' he=>hne (by rw[← K2 (b:=b) hi',he,K2 hib])
   have h4:Jb b j≠k:=fun he=>by rw[← he]at hlk;exact Hq b j hlk
   have h5:Jb b j≠r:=fun he=>by rw[← he]at hlr;exact Hq b j hlr
   exact rep_stay hv rfl (fun hi'=>(congrFun hown _).trans ((if_neg h4).trans ((if_neg (h3 hi')).trans (if_neg h5)))) (fun hi'=>(if_neg h4).trans (if_neg (h3 hi')))
theorem le_put(enc:α→List AV)(d:α)(L:List (List α))(i:Nat)(x:List α)(e:TypeId){F:Nat→List AV}{m:Nat}(hr:Ae st.own r=some (.arr 1 e1 n F))(hF:∀ j,j<n→F j=I8 sz enc d (L.set i x) (E0 b i k) j)(hb:Ae st.fam b=some ⟨sz,e,Qu L i⟩)(hk:Ae st.own k=some (.tok sz e m))(hm:m=x.length)(hn:n=L.length)(hi:i<L.length)
  (ht:st.tmps.all (fun x=>x.2.free (noOwn k))=true) (ho:OwnsFr (noOwn k) r st.own) (h0:Γ.own0 k=none) (hlr:Nat.blt r A1=true:=by rfl) (hlk:Nat.blt k A1=true:=by rfl) :
  Le Γ st ⟨st.tmps,remA (Ch st.own r (.arr 1 e1 n (I8 sz enc d (L.set i x) (Tag.fam b)))) k,Ch st.fam b ⟨sz,e,Jt (L.set i x)⟩⟩:=by
 intro I θ a w h
 have hlr:r<A1:=by simpa [Nat.blt_eq] using hlr
 have hlk:k<A1:=by simpa [Nat.blt_eq] using hlk
 have hr':st.sto.own r=some (.arr 1 e1 n F):=(As hlr).trans hr;have hk':st.sto.own k=some (.tok sz e m):=(As hlk).trans hk;have hib:i<A1:=row_lt h.chg.rel hr' (by omega)
 have hp:st.sto.own (Jb b i)=none:=by
  show B0 _ _ _=_
  rw[Ux hib,hb];simp[Qu]
 have hgi:(L.set i x).getD i []=x:=by simp[List.getD,hi]
 have hgj:∀ j,j≠i→(L.set i x).getD j []=L.getD j []:=fun j hj=>by simp[List.getD,Ne.symm hj]
 have hkr:k≠r:=by rintro rfl;rw[hk]at hr;cases hr
 have hkb:k≠Jb b i:=fun he=>by rw[he]at hlk;exact Hq b i hlk
 have hown:(⟨st.tmps,remA (Ch st.own r (.arr 1 e1 n (I8 sz enc d (L.set i x) (Tag.fam b)))) k,Ch st.fam b ⟨sz,e,Jt (L.set i x)⟩⟩:St).sto.own =
   fun y=>if y=Jb b i then some (.tok sz e m) else if y=k then none else if y=r then some (.arr 1 e1 n (I8 sz enc d (L.set i x) (Tag.fam b))) else st.sto.own y:=by
  funext y
  show B0 (remA (Ch st.own r _) k) (Ch st.fam b _) y=if y=Jb b i then _ else if y=k then none else if y=r then _ else B0 st.own st.fam y
  by_cases hx:y<A1
  ·have h1:y≠Jb b i:=fun he=>by rw[he]at hx;exact Hq b i hx
   rw[As hx,As hx,look_remA,D3];simp only[eq_comm (a:=k),eq_comm (a:=r),h1,if_false]
  ·have h1:y≠k:=by rintro rfl;exact hx hlk
   have h2:y≠r:=by rintro rfl;exact hx hlr
   rw[Ck hx,Ck hx,D3,if_neg h1,if_neg h2]
   by_cases hd:b=y / A1-1
   ·have hxe:=big_of hx;rw[← hd]at hxe
    by_cases hm':y % A1=i
    ·rw[hm']at hxe;rw[if_pos hd,if_pos hxe,hm',Option.bind_some]
     show(Jt (L.set i x) i).map _=_
     simp only[Jt,List.length_set,hi,if_true,hgi,hm,Option.map_some]
    ·have h3:y≠Jb b i:=fun he=>hm' (by rw[he,K2 hib]);rw[if_pos hd,if_neg h3,← hd,hb];simp only[Option.bind_some,Qu,hm',if_false,Jt,List.length_set,hgj _ hm']
   ·have h3:y≠Jb b i:=fun he=>hd (by rw[he,Mc hib]);rw[if_neg hd,if_neg h3]
 let θ':Nat→Option (Nat×Nat):=fun y=>if y=Jb b i then θ k else if y=k then none else θ y
 refine⟨I,θ',?_⟩;have hrr:=Vz (θ':=θ') h hk' hp hr' h0 (fun t=>tmps_fr (fun x hx=>fr_own hlk hx) ht t) (fun nm o hne ho'=>ho.sto (fun x hx=>fr_own hlk hx) hne ho') hown rfl
  (fun j hj=>by rw[hF j hj];rfl) (fun j c v hj hc hv=>?_)
 ·exact hrr
 ·obtain rfl:c=0:=by omega
  rw[hF j hj]at hv
  show Rep I _ θ' w v (.slice sz _ _ (.fam b j))
  replace hv:Rep I st.sto.own θ w v (.slice sz ((L.set i x).getD j []).length (fun i_=>enc (((L.set i x).getD j []).getD i_ d)) (E0 b i k j)):=hv
  cases hji:Nat.beq j i with
  | true=>
   have:=Nat.eq_of_beq_eq_true hji;subst this;rw[show E0 b j k j = .own k by simp[E0]]at hv;exact rep_back hv rfl hib hk' ((congrFun hown _).trans (if_pos rfl)) (if_pos rfl)
  | false=>
   have hne:j≠i:=by rintro rfl;simp at hji
   rw[show E0 b i k j = .fam b j by simp[E0,hji]]at hv;have h3:j<A1→Jb b j≠Jb b i:=fun hi' he=>hne (by rw[← K2 (b:=b) hi',he,K2 hib])
   have h4:Jb b j≠k:=fun he=>by rw[← he]at hlk;exact Hq b j hlk
   have h5:Jb b j≠r:=fun he=>by rw[← he]at hlr;exact Hq b j hlr
   exact rep_stay hv rfl (fun hi'=>(congrFun hown _).trans ((if_neg (h3 hi')).trans ((if_neg h4).trans (if_neg h5)))) (fun hi'=>(if_neg (h3 hi')).trans (if_neg h4))
theorem le_birth(enc:α→List AV)(d:α)(L:List (List α))(e:TypeId)(hr:Ae st.own r=some (.arr 1 e1 n (I8 sz enc d L (fun _=>.exact))))(hb:Ae st.fam b=none)(hn:n=L.length)(h8:e=P0→∀ j,(L.getD j []).length=0)(hlr:Nat.blt r A1=true:=by rfl) :
  Le Γ st ⟨st.tmps,Ch st.own r (.arr 1 e1 n (I8 sz enc d L (Tag.fam b))),Ch st.fam b ⟨sz,e,Jt L⟩⟩:=by
 intro I θ a w h
 have hlr:r<A1:=by simpa [Nat.blt_eq] using hlr
 have hr':st.sto.own r=some (.arr 1 e1 n (I8 sz enc d L (fun _=>.exact))):=(As hlr).trans hr
 let S:Nat→Option (Nat×TypeId×Nat):=fun x=>if x<A1 then none else if b=x / A1-1 then(Jt L (x % A1)).map fun m=>(sz,e,m) else none
 have hown:(⟨st.tmps,Ch st.own r (.arr 1 e1 n (I8 sz enc d L (Tag.fam b))),Ch st.fam b ⟨sz,e,Jt L⟩⟩:St).sto.own =
   fun x=>match S x with|some y=>some (.tok y.1 y.2.1 y.2.2)|none=>if x=r then some (.arr 1 e1 n (I8 sz enc d L (Tag.fam b))) else st.sto.own x:=by
  funext x
  show B0 (Ch st.own r _) (Ch st.fam b _) x=match S x with|some y=>_|none=>if x=r then _ else B0 st.own st.fam x
  by_cases hx:x<A1
  ·have:S x=none:=by simp[S,hx]
   rw[As hx,As hx,D3,this];simp only[eq_comm (a:=r)]
  ·have h2:x≠r:=by rintro rfl;exact hx hlr
   rw[Ck hx,Ck hx,D3]
   by_cases hd:b=x / A1-1
   ·have:S x=(Jt L (x % A1)).map fun m=>(sz,e,m):=by simp only[S,hx,if_false,if_pos hd]
    rw[if_pos hd,this,if_neg h2,← hd,hb];simp only[Option.bind_some]
    cases Jt L (x % A1)<;>rfl
   ·have:S x=none:=by simp only[S,hx,if_false,if_neg hd]
    rw[if_neg hd,this,if_neg h2]
 have hS:∀ x y,S x=some y→st.sto.own x=none:=fun x y hx=>by
  by_cases h1:x<A1
  ·simp[S,h1]at hx
  ·by_cases hd:b=x / A1-1
   ·show B0 _ _ x=none
    rw[Ck h1,← hd,hb];rfl
   ·simp only[S,h1,if_false,if_neg hd]at hx;cases hx
 refine⟨I,_,rel_births h hr' hS (fun x s m hx=>?_) hown rfl (fun j _=>rfl) (fun j c v hj hc hv=>?_)⟩
 ·by_cases h1:x<A1
  ·simp[S,h1]at hx
  ·by_cases hd:b=x / A1-1
   ·simp only[S,h1,if_false,if_pos hd]at hx;obtain⟨m',hm',he⟩:=Option.map_eq_some_iff.1 hx;simp only[Prod.mk.injEq]at he;obtain⟨_,he,rfl⟩:=he;unfold Jt at hm'
    split at hm'
    ·simp only[Option.some.injEq]at hm';rw[← hm'];exact h8 he _
    ·cases hm'
   ·simp only[S,h1,if_false,if_neg hd]at hx;cases hx
 ·obtain rfl:c=0:=by omega
  have hjb:j<A1:=row_lt h.chg.rel hr' hj;replace hv:Rep I st.sto.own θ w v (.slice sz (L.getD j []).length (fun i_=>enc ((L.getD j []).getD i_ d)) .exact):=hv
  show Rep I _ _ w v (.slice sz (L.getD j []).length (fun i_=>enc ((L.getD j []).getD i_ d)) (.fam b j))
  have hSj:S (Jb b j)=some (sz,e,(L.getD j []).length):=by
   simp only[S,Hq b j,if_false,Mc hjb,if_true,K2 hjb,Jt];rw[if_pos (by omega)];rfl
  exact rep_new hv rfl hjb ((congrFun hown _).trans (by rw[hSj])) (by rw[hSj])
end
end
theorem av_famtag{α:Type}{sz b i k:Nat}{e:α→List AV}{d:α}{l:List α}:AVle (AV.list sz e d l (E0 b i k i)) (AV.list sz e d l (.own k)):=by
 have:E0 b i k i = .own k:=by simp[E0]
 rw[this];exact AVle.refl _
theorem putF_fam{α:Type}{sz b i k k0:Nat}{e:α→List AV}{d:α}{L:List (List α)}{x:List α}{n:Nat}{keep:Nat→Bool}(hi:i<L.length)(hk:keep k=true)(hb:keep b=true) :
  ∀ j,j<n→AV.eraseAll keep (Ip (I8 sz e d L (E0 b i k0)) i 0 [AV.list sz e d x (.own k)] j)=I8 sz e d (L.set i x) (E0 b i k) j:=fun j _=>by
 unfold Ip
 cases hji:Nat.beq j i with
 | true=>
  have:=Nat.eq_of_beq_eq_true hji;subst this;simp[I8,AV.eraseAll,AV.erase,AV.list,E0,hk,List.getD,hi]
 | false=>
  have hne:i≠j:=by rintro rfl;simp at hji
  simp[I8,AV.eraseAll,AV.erase,AV.list,E0,hji,hb,List.getD,hne]
theorem fam_zero{α:Type}{sz n:Nat}{e:α→List AV}{d:α}{keep:Nat→Bool}:∀ k,k<n→AVleL (AV.eraseAll keep [.slice 0 0 (fun _=>[]) .exact]) (I8 sz e d (List.replicate n []) (fun _=>.exact) k):=fun k hk=>by
 have:(List.replicate n ([]:List α)).getD k []=[]:=by simp[List.getD,hk]
 unfold I8;rw[this];exact .cons Iv .nil
mutual
def AV.freeN(r:Nat):AV→Bool
 | .vsl nm _=>!Nat.beq nm r
 | .vpt nm _ _ _=>!Nat.beq nm r
 | .vsub nm _ _ _=>!Nat.beq nm r
 | .clo _ xs ys=>AV.freeNAll r xs&&AV.freeNAll r ys
 | .agg cs=>AV.freeNAll r cs
 | .tuple cs=>AV.freeNAll r cs
 | .cond _ x=>x.freeN r
 | _=>true
def AV.freeNAll(r:Nat):List AV→Bool
 | []=>true
 | x::l=>x.freeN r&&AV.freeNAll r l
end
theorem Ft{r:Nat}{l:List AV}(h:AV.freeNAll r l=true)(j:Nat):(l.getD j .any).freeN r=true:=by
 induction l generalizing j with
 | nil=>simp[AV.freeN]
 | cons x l ih=>
  simp only[AV.freeNAll,Bool.and_eq_true]at h
  cases j with
  | zero=>simpa using h.1
  | succ j=>simpa using ih h.2 j
theorem rep_freeN{I:Nat→Nat→Prop}{own own':Nat→Option Own}{θ:Nat→Option (Nat×Nat)}{w:World}{v:Value}{x:AV}{r:Nat}(h:Rep I own θ w v x)(hx:x.freeN r=true)(hr:∃ sz e m f,own r=some (.arr sz e m f))
  (ho:∀ nm,nm≠r→own' nm=own nm):Rep I own' θ w v x:=by
 obtain⟨s0,e0,m0,f0,hr⟩:=hr
 have hne:∀{nm o},own nm=some o→(∀ sz e m f,o≠.arr sz e m f)→own' nm=some o:=fun{nm o} hn hh=>by
  rw[ho nm (by rintro rfl;rw[hr]at hn;exact hh _ _ _ _ (OI hn).symm)];exact hn
 have hbq:∀{nm:Nat},(!Nat.beq nm r)=true→nm≠r:=fun h e=>by subst e;simp at h
 induction h with
 | val v x h=>exact .val v x h
 | exact a n sz f h=>exact .exact a n sz f h
 | own nm sz e m a n cap f hn hm hv h=>exact .own nm sz e m a n cap f (hne hn (fun _ _ _ _ h=>by cases h)) hm hv h
 | fam b i sz e m a n cap f hi hn hm hv h=>exact .fam b i sz e m a n cap f hi (hne hn (fun _ _ _ _ h=>by cases h)) hm hv h
 | ptr nm off e cells g c hn hg=>exact .ptr nm off e cells g c (hne hn (fun _ _ _ _ h=>by cases h)) hg
 | vsl nm sz e m f a n cap hn hm hcap hmax hnn hv=>exact .vsl nm sz e m f a n cap ((ho nm (hbq hx)).trans hn) hm hcap hmax hnn hv
 | vpt nm sz e m f n i j ad hn hm hi hv=>exact .vpt nm sz e m f n i j ad ((ho nm (hbq hx)).trans hn) hm hi hv
 | clo f fs cs xs ys hl hl' _ _ ih ih'=>
  simp only[AV.freeN,Bool.and_eq_true]at hx;exact .clo f fs cs xs ys hl hl' (fun j hj=>ih j hj (Ft hx.1 j)) (fun j hj=>ih' j hj (Ft hx.2 j))
 | optr nm mm x g c hn hg=>exact .optr nm mm x g c (hne hn (fun _ _ _ _ h=>by cases h)) hg
 | omap nm x hn=>exact .omap nm x (hne hn (fun _ _ _ _ h=>by cases h))
 | vsub nm sz e m f n lo hi a cap hn hm hlo hhi hcap hmax hnn hv=>exact .vsub nm sz e m f n lo hi a cap ((ho nm (hbq hx)).trans hn) hm hlo hhi hcap hmax hnn hv
 | cond v c x _ h' ih=>exact .cond v c x (fun hc=>ih hc hx) h'
 | agg vs cs hl h1 _ ih=>exact .agg vs cs hl h1 (fun j hj=>ih j hj (Ft hx j))
 | tuple vs cs hl _ ih=>exact .tuple vs cs hl (fun j hj=>ih j hj (Ft hx j))
inductive OwnsFrN (r:Nat):List (Nat×Own)→Prop
 | nil:OwnsFrN r []
 | row {nm:Nat} {e:TypeId} {cells:List AV} {l:List (Nat×Own)} (h:AV.freeNAll r cells=true) (t:OwnsFrN r l):OwnsFrN r ((nm,.row e cells)::l)
 | arr {nm sz m:Nat} {e:TypeId} {f:Nat→List AV} {l:List (Nat×Own)} (h:∀ j,AV.freeNAll r (f j)=true) (t:OwnsFrN r l):OwnsFrN r ((nm,.arr sz e m f)::l)
 | tok {nm sz m:Nat} {e:TypeId} {l:List (Nat×Own)} (t:OwnsFrN r l):OwnsFrN r ((nm,.tok sz e m)::l)
 | obj {nm:Nat} {x:AObj} {l:List (Nat×Own)} (t:OwnsFrN r l) (h:x.Al (fun y=>y.freeN r=true):=by first|trivial|rfl):OwnsFrN r ((nm,.obj x)::l)
def OwnN(r:Nat):Own→Prop
 | .row _ cells=>AV.freeNAll r cells=true
 | .arr _ _ _ f=>∀ j,AV.freeNAll r (f j)=true
 | .obj x=>x.Al (fun y=>y.freeN r=true)
 | .tok ..=>True
theorem OwnsFrN.get{r:Nat}{l:List (Nat×Own)}(h:OwnsFrN r l){nm:Nat}{o:Own}(ho:Ae l nm=some o):OwnN r o:=by
 induction h with
 | nil=>cases ho
 | @row k e cells l h _ ih=>
  simp only[Ae]at ho
  cases hb:Nat.beq k nm with
  | true=>rw[hb]at ho;simp only[cond_true,Option.some.injEq]at ho;subst ho;exact h
  | false=>rw[hb]at ho;exact ih ho
 | @arr k sz m e f l h _ ih=>
  simp only[Ae]at ho
  cases hb:Nat.beq k nm with
  | true=>rw[hb]at ho;simp only[cond_true,Option.some.injEq]at ho;subst ho;exact h
  | false=>rw[hb]at ho;exact ih ho
 | @tok k sz m e l _ ih=>
  simp only[Ae]at ho
  cases hb:Nat.beq k nm with
  | true=>rw[hb]at ho;simp only[cond_true,Option.some.injEq]at ho;subst ho;trivial
  | false=>rw[hb]at ho;exact ih ho
 | @obj k x l _ h ih=>
  simp only[Ae]at ho
  cases hb:Nat.beq k nm with
  | true=>rw[hb]at ho;simp only[cond_true,Option.some.injEq]at ho;subst ho;exact h
  | false=>rw[hb]at ho;exact ih ho
theorem le_trunc{Γ:Ga}{st:St}{t r s n k:Nat}{e:TypeId}{f:Nat→List AV}(hs:st.get t = .vsub r n 0 k)(hr:Ae st.own r=some (.arr s e n f))(hk:k≤n)
  (ht:(st.tmps.all fun x=>Nat.beq x.1 t || x.2.freeN r)=true) (ho:OwnsFrN r st.own) (h0:Γ.own0 r=none) (hlt:Nat.blt r A1=true:=by rfl) (hB:arrB e=false:=by rfl) :
  Le Γ st ⟨Ch st.tmps t (.vsl r k),Ch st.own r (.arr s e k f),st.fam⟩:=by
 intro I θ a w h
 have hlt:r<A1:=by simpa [Nat.blt_eq] using hlt
 have hr':st.sto.own r=some (.arr s e n f):=(As hlt).trans hr
 have hown:(⟨Ch st.tmps t (.vsl r k),Ch st.own r (.arr s e k f),st.fam⟩:St).sto.own=An st.sto.own r (.arr s e k f):=by
  funext x
  show B0 (Ch st.own r _) _ x=_
  rw[Fn hlt];simp only[An]
  by_cases hx:r=x
  ·subst hx;simp
  ·simp[hx,Ne.symm hx];rfl
 have hsame:∀ nm,nm≠r→An st.sto.own r (.arr s e k f) nm=st.sto.own nm:=fun nm hn=>by simp[An,hn]
 have hT:∀ v x,x.freeN r=true→Rep I st.sto.own θ w v x→Rep I (An st.sto.own r (.arr s e k f)) θ w v x:=fun v x hx hv=>rep_freeN hv hx ⟨_,_,_,_,hr'⟩ hsame;have hrel:=h.chg.rel
 have hrows:∀ nm o,st.sto.own nm=some o→OwnN r o:=fun nm o hn=>by
  by_cases hl:nm<A1
  ·exact ho.get ((As hl).symm.trans hn)
  ·obtain⟨_,_,_,rfl⟩:=Mj hl hn;trivial
 have hget:∀ t',(⟨Ch st.tmps t (.vsl r k),Ch st.own r (.arr s e k f),st.fam⟩:St).sto.tmp t'=if t=t' then .vsl r k else st.get t':=fun t'=>by
  show(match Ae (Ch st.tmps t _) t' with|some x=>x|none=>.any)=_
  rw[D3]
  by_cases hk:t=t'
  ·simp[hk]
  ·simp[hk];rfl
 refine⟨I,θ,h.size,h.defers,fun t'=>?_,?_⟩
 ·rw[hown,hget]
  split
  ·rename_i htt
   subst htt;have hv:=h.slots t
   have hv':Rep I st.sto.own θ w (a.tmps.getD t undef) (.vsub r n 0 k):=by rw[← hs];exact hv
   obtain⟨sz,e',m,f',ad,cap,he,ho',hm,_,hhi,hcap,hmax,hn,hvv⟩:=hv'.vsub_inv;rw[hr']at ho';simp only[Option.some.injEq,Own.arr.injEq]at ho';obtain⟨rfl,rfl,rfl,rfl⟩:=ho';rw[he];refine .vsl r s e k f ad _ cap (by simp[An]) (Nat.le_refl _) hcap hmax hn (fun _=>?_);have hz:=(hvv rfl).2 rfl
   cases hθ:θ r with
   | none=>rw[hθ]at hz;have:=(hrel.arr r _ _ _ _ hr').1 hθ;simp only at hz ⊢;omega
   | some gc=>rw[hθ]at hz;exact⟨hz.1,hz.2.resolve_right (by rw[hB];decide)⟩
  ·rename_i htt
   have hx:(st.get t').freeN r=true:=by
    unfold St.get
    cases hl:Ae st.tmps t' with
    | none=>rfl
    | some x=>
     have:=List.all_eq_true.1 ht _ (R6 hl);simp only[Bool.or_eq_true]at this;rcases this with h'|h'
     ·exact(htt (Nat.eq_of_beq_eq_true h').symm).elim
     ·exact h'
   exact hT _ _ hx (h.slots t')
 ·rw[hown];refine{ h.chg with le:=fun nm o hno=>?_,rel:=⟨fun nm e0 cells hn=>?_,fun nm s' e' m' hn g c hg=>?_,fun nm nm' g c c' hn hn' hg hg'=>?_,fun nm s' e' m' f' hn=>?_,fun nm x hn=>?_,fun nm s' m' hn hnn=>?_⟩,new:=fun nm g c hn hg=>?_ }
  ·obtain⟨o',ho',hl⟩:=h.chg.le nm o hno;exact⟨o',(hsame nm (by rintro rfl;rw[h0]at hno;cases hno)).trans ho',hl⟩
  ·have hne:nm≠r:=by rintro rfl;simp[An]at hn
   rw[hsame nm hne]at hn;obtain⟨g,c,vs,r1,r2,r3,r4,r5,r6⟩:=hrel.row nm e0 cells hn;exact⟨g,c,vs,r1,r2,r3,r4,fun j hj=>hT _ _ (Ft (hrows nm _ hn) j) (r5 j hj),r6⟩
  ·have hne:nm≠r:=by rintro rfl;simp[An]at hn
   rw[hsame nm hne]at hn;exact hrel.tok nm _ _ _ hn g c hg
  ·have hx:∀ nm,An st.sto.own r (.arr s e k f) nm≠none→st.sto.own nm≠none:=fun nm hn=>by
    by_cases hne:nm=r
    ·subst hne;rw[hr'];simp
    ·rwa[hsame nm hne]at hn
   exact hrel.inj nm nm' g c c' (hx nm hn) (hx nm' hn') hg hg'
  ·by_cases hne:nm=r
   ·subst hne;simp only[An,if_true,Option.some.injEq,Own.arr.injEq]at hn;obtain⟨rfl,rfl,rfl,rfl⟩:=hn;obtain⟨q0,q1⟩:=hrel.arr nm _ _ _ _ hr';refine⟨fun hθ=>by have:=q0 hθ;omega,fun g c hg=>?_⟩;obtain⟨cur,p1,p2,p3,p4,p5,p6,p7⟩:=q1 g c hg;exact⟨cur,p1,by omega,p3,p4,fun i hi=>p5 i (by omega),fun i j hi hj=>⟨(p6 i j (by omega) hj).1,hT _ _ (Ft (hrows nm _ hr' i) j) (p6 i j (by omega) hj).2⟩,p7⟩
   ·rw[hsame nm hne]at hn;exact Nw (hrel.arr nm _ _ _ _ hn) rfl (fun _ _=>rfl) (fun i j v _ _ hv=>hT _ _ (Ft (hrows nm _ hn i) j) hv)
  ·have hne:nm≠r:=by rintro rfl;simp[An]at hn
   rw[hsame nm hne]at hn;exact Ge (hrel.obj nm _ hn) rfl (fun _ _ _=>rfl) (fun _ _ _ _ h=>h) (fun _ hh=>hh.al (P:=fun y=>y.freeN r=true) (hrows nm _ hn) (fun _ _ h=>h) (fun _ _ _=>rfl) fun v y hy hv=>hT v y hy hv) Ld
  ·have hne:nm≠r:=by rintro rfl;simp[An]at hn
   rw[hsame nm hne]at hn;exact hrel.tok8 nm _ _ hn hnn
  ·have hx:st.sto.own nm≠none:=by
    by_cases hne:nm=r
    ·subst hne;rw[hr'];simp
    ·rwa[hsame nm hne]at hn
   exact h.chg.new nm g c hx hg
theorem take_le{α:Type}{e:α→List AV}{d:α}{l:List α}{k:Nat}:∀ i,i<0+k→AVleL (e (l.getD i d)) (e ((l.take k).getD i d)):=fun i hi=>by
 have:(l.take k).getD i d=l.getD i d:=by simp[List.getD,show i<k by omega]
 rw[this];exact .refl _
theorem take_len{α:Type}{l:List α}{k:Nat}(h:0+k≤l.length):0+k=(l.take k).length:=by simp;omega
theorem pw_nil{f g:Nat→List AV}:∀ k,k<0→f k=g k:=fun _ h=>by omega
theorem pw_snoc{n:Nat}{f g:Nat→List AV}(h:∀ k,k<n→f k=g k)(h':f n=g n):∀ k,k<n+1→f k=g k:=fun k hk=>by
 by_cases hkn:k=n
 ·subst hkn;exact h'
 ·exact h k (by omega)
theorem pwl_nil{f g:Nat→List AV}:∀ k,k<0→AVleL (f k) (g k):=fun _ h=>by omega
theorem pwl_snoc{n:Nat}{f g:Nat→List AV}(h:∀ k,k<n→AVleL (f k) (g k))(h':AVleL (f n) (g n)):∀ k,k<n+1→AVleL (f k) (g k):=fun k hk=>by
 by_cases hkn:k=n
 ·subst hkn;exact h'
 ·exact h k (by omega)
theorem Xm{α:Type}{keep:Nat→Bool}{e:α→List AV}{d:α}{z:List AV}{N sz:Nat}(hz:z.length=sz)(h:z=e d)(hk:AV.eraseAll keep z=z):∀ k,k<N→AVleL (AV.eraseAll keep ((((List.replicate N z).flatten).drop (k*sz)).take sz)) (e ((List.replicate N d).getD k d)):=fun k hk'=>by
 have:(List.replicate N d).getD k d=d:=by simp[List.getD,hk']
 rw[flat_rep z sz hz N k hk',this,hk,h];exact .refl _
section
variable {α:Type} {g:Bool} {a b:List α}
theorem bif_len:(bif g then a.length else b.length)=(bif g then a else b).length:=by cases g<;>rfl
theorem bif_row{e:α→List AV}{d:α}{k:Nat}:(bif g then e (a.getD k d) else e (b.getD k d))=e ((bif g then a else b).getD k d):=by cases g<;>rfl
theorem bif_was(h:g=true→b.length=a.length):b.length=(bif g then a else b).length:=by
 cases g with
 | false=>rfl
 | true=>exact h rfl
end
abbrev mapE{V:Type}(f:V→AV)(l:List (Int×V)):List (Int×AV):=l.map fun p=>(p.1,f p.2)
section
variable {V:Type} {f:V→AV} {l:List (Int×V)} {r:List (Int×AV)} {k:Int}
theorem X4(k:Int):∀ l:List (Int×V),D6 (mapE f l) k=D6 l k
 | []=>rfl
 | (a,b)::l=>by
  simp only[mapE,List.map_cons,D6];rw[← X4 k l]
theorem X6(k:Int)(v:V):∀ l:List (Int×V),Gw (mapE f l) k (f v)=mapE f (Gw l k v)
 | []=>rfl
 | (a,b)::l=>by
  simp only[mapE,List.map_cons,Gw]
  cases k==a with
  | true=>rfl
  | false=>
   simp only[cond_false,List.map_cons];exact congrArg _ (X6 k v l)
theorem Uc{z:V}{zz:AV}(hz:AVle zz (f z))(hr:r=mapE f l):AVle (Dh zz r k) (f (Dh z l k)):=by
 subst hr
 induction l with
 | nil=>exact hz
 | cons p l ih=>
  obtain⟨a,b⟩:=p;simp only[mapE,List.map_cons,Dh]
  cases k==a with
  | true=>exact AVle.refl _
  | false=>exact ih
theorem mlook_le{z:V}{zz:AV}(hz:AVle zz (f z))(hr:r=mapE f l):AVle (.tuple [Dh zz r k,.bool (D6 r k)]) (.tuple [f (Dh z l k),.bool (D6 l k)]):=by
 have h:=Uc (k:=k) hz hr;subst hr;rw[X4];exact AVle.tuple (.cons h (.cons (AVle.refl _) .nil))
theorem mlen_le(hr:r=mapE f l):AVle (.int .i64 (r.length:Int)) (.int .i64 (l.length:Int)):=by
 subst hr;rw[mapE,List.length_map];exact AVle.refl _
theorem Zh{v:V}{x:AV}(hx:x=f v)(hr:r=mapE f l):Gw r k x=mapE f (Gw l k v):=by
 subst hr hx;exact X6 k v l
theorem bif_mapE{g:Bool}{a b:List (Int×V)}{ra rb:List (Int×AV)}(ha:ra=mapE f a)(hb:rb=mapE f b):(bif g then ra else rb)=mapE f (bif g then a else b):=by
 subst ha hb
 cases g<;>rfl
end
theorem mapE_flat{V:Type}{f:V→AV}{l:List (Int×V)}(h:∀ v,(f v).flat=true):∀ q∈mapE f l,q.2.flat=true:=fun q hq=>by
 obtain⟨p,_,rfl⟩:=List.mem_map.1 hq;exact h p.2
theorem Zc{Γ:Ga}{st:St}{nm:Nat}{x:AObj}(y:AObj)(hn:Ae st.own nm=some (.obj x))(hxy:∀ I own θ w,M4 I own θ w nm x→M4 I own θ w nm y)(hlt:Nat.blt nm A1=true:=by rfl) :
  Le Γ st ⟨st.tmps,Ch st.own nm (.obj y),st.fam⟩:=by
 intro I θ a w h
 have hlt:nm<A1:=by simpa [Nat.blt_eq] using hlt
 have hn:st.sto.own nm=some (.obj x):=(As hlt).trans hn
 have hown:(⟨st.tmps,Ch st.own nm (.obj y),st.fam⟩:St).sto.own=An st.sto.own nm (.obj y):=by
  funext k
  show B0 (Ch st.own nm _) _ k=_
  rw[Fn hlt];simp only[An]
  by_cases hk:nm=k
  ·subst hk;simp
  ·simp[hk,Ne.symm hk];rfl
 have hle:∀ k o,st.sto.own k=some o→∃ o',An st.sto.own nm (.obj y) k=some o'∧OwnLe o (θ k) o' (θ k):=fun k o ho=>by
  by_cases hk:k=nm
  ·subst hk;rw[hn]at ho;obtain rfl:=OI ho;exact⟨.obj y,by simp[An],rfl⟩
  ·exact⟨o,by simp[An,hk,ho],OwnLe.refl _ _⟩
 have hrel:=h.chg.rel;have hmono:∀ v z,Rep I st.sto.own θ w v z→Rep I (An st.sto.own nm (.obj y)) θ w v z:=fun v z hz=>hz.mono (fun _ _ h=>h) (fun _ _ _=>rfl) hle
 have k:Chg st.sto.own θ I w (An st.sto.own nm (.obj y)) θ I w:=by
  refine{ imm:=fun _ _ h=>h,cell:=fun _ _ _=>rfl,le:=hle,rel:=?_,valid:=h.chg.valid,os:=rfl,tape:=rfl,output:=rfl,drawn:=fun _=>Nat.le_refl _,grow:=Nat.le_refl _,frame:=fun _ _ _=>rfl,new:=fun k g c ho hg=>?_,immNew:=fun b o h=>.inl h }
  ·refine Gg hrel (·=nm) hmono (fun k hne=>⟨by simp[An,hne],rfl⟩) (fun k g c hne ho hg=>⟨rfl,fun j h=>h⟩) ?_ ?_ ?_ (fun _ _ h h'=>h.trans h'.symm) (hobj:=?_)
   ·rintro k e' cells rfl ho;simp[An]at ho
   ·rintro k sz e' m rfl ho;simp[An]at ho
   ·rintro k k' g c c' rfl hne _ ho' hg hg';exact hne (hrel.inj k' k _ _ _ ho' (by simp[hn]) hg' hg)
   ·rintro k z rfl ho;simp only[An,if_true,Option.some.injEq,Own.obj.injEq]at ho;subst ho;exact Ge (hxy _ _ _ _ (hrel.obj k x hn)) rfl (fun _ _ _=>rfl) (fun _ _ _ _ h=>h) (fun _ hh=>hh.mono hmono) Ld
  ·by_cases hk:k=nm
   ·subst hk;exact .inr ⟨k,c,by simp[hn],hg⟩
   ·exact .inr ⟨k,c,by simpa [An,hk] using ho,hg⟩
 exact⟨I,θ,h.size,h.defers,fun t'=>by rw[hown];exact(h.slots t').chg k,by rw[hown];exact h.chg.trans k⟩
theorem objAt_nn{I:Nat→Nat→Prop}{own:Nat→Option Own}{θ:Nat→Option (Nat×Nat)}{w:World}{nm:Nat}{nn:Bool}{k:IntKind}{l:List (Int×AV)}(h:M4 I own θ w nm (.map nn k l)):M4 I own θ w nm (.map false k l):=by
 rcases h with⟨g,c,o,h1,h2,h3,h4⟩|⟨h1,h2⟩
 ·refine .inl ⟨g,c,o,h1,h2,?_,h4⟩
  cases h3 with
  | map es nn k l hs hr=>exact .map es false k l hs hr
 ·cases nn<;>cases l<;>first|exact .inr ⟨h1,trivial⟩|cases h2
def Yd{V:Type}(a b:List (Int×V)):Prop:=a.Perm b∧(b.map (·.1)).Nodup
theorem objAt_perm{V:Type}{I:Nat→Nat→Prop}{own:Nat→Option Own}{θ:Nat→Option (Nat×Nat)}{w:World}{nm:Nat}{nn:Bool}{k:IntKind}{f:V→AV}{a b:List (Int×V)}(hp:Yd a b)(h:M4 I own θ w nm (.map nn k (mapE f a))):M4 I own θ w nm (.pmap nn k (mapE f b)):=by
 have hp1:(mapE f a).Perm (mapE f b):=hp.1.map _
 have hp2:((mapE f b).map (·.1)).Nodup:=by
  have:(mapE f b).map (·.1)=b.map (·.1):=by simp[mapE]
  rw[this];exact hp.2
 rcases h with⟨g,c,o,h1,h2,h3,h4⟩|⟨h1,h2⟩
 ·refine .inl ⟨g,c,o,h1,h2,?_,h4⟩
  cases h3 with
  | map es nn k l hs hr=>exact .pmap es nn k _ _ hp1 hp2 hs hr
 ·generalize mapE f a=la at *
  generalize mapE f b=lb at *
  cases nn with
  | true=>cases h2
  | false=>
   cases la with
   | nil=>obtain rfl:=hp1.nil_eq;exact .inr ⟨h1,trivial⟩
   | cons=>cases h2
theorem objAt_pnn{I:Nat→Nat→Prop}{own:Nat→Option Own}{θ:Nat→Option (Nat×Nat)}{w:World}{nm:Nat}{nn:Bool}{k:IntKind}{l:List (Int×AV)}(h:M4 I own θ w nm (.pmap nn k l)):M4 I own θ w nm (.pmap false k l):=by
 rcases h with⟨g,c,o,h1,h2,h3,h4⟩|⟨h1,h2⟩
 ·refine .inl ⟨g,c,o,h1,h2,?_,h4⟩
  cases h3 with
  | pmap es nn k l0 l hp hk hs hr=>exact .pmap es false k l0 l hp hk hs hr
 ·cases nn<;>cases l<;>first|exact .inr ⟨h1,trivial⟩|cases h2
theorem le_nilm{Γ:Ga}{st:St}{t nm:Nat}(k:IntKind)(hs:st.get t = .nilm)(hn:Ae st.own nm=none)(hlt:Nat.blt nm A1=true:=by rfl) :
  Le Γ st ⟨Ch st.tmps t (.omap nm),Ch st.own nm (.obj (.map false k [])),st.fam⟩:=by
 intro I θ a w h
 have hlt:nm<A1:=by simpa [Nat.blt_eq] using hlt
 have hn:st.sto.own nm=none:=(As hlt).trans hn
 have hown:(⟨Ch st.tmps t (.omap nm),Ch st.own nm (.obj (.map false k [])),st.fam⟩:St).sto.own=An st.sto.own nm (.obj (.map false k [])):=by
  funext k
  show B0 (Ch st.own nm _) _ k=_
  rw[Fn hlt];simp only[An]
  by_cases hk:nm=k
  ·subst hk;simp
  ·simp[hk,Ne.symm hk];rfl
 have hle:∀ j o,st.sto.own j=some o→∃ o',An st.sto.own nm (.obj (.map false k [])) j=some o'∧OwnLe o (θ j) o' (thUp θ nm none j):=fun j o ho=>by
  have hne:j≠nm:=by rintro rfl;rw[hn]at ho;cases ho
  exact⟨o,by simp[An,hne,ho],by simp[thUp,hne,OwnLe.refl]⟩
 have hrel:=h.chg.rel;have hmono:∀ v z,Rep I st.sto.own θ w v z→Rep I (An st.sto.own nm (.obj (.map false k []))) (thUp θ nm none) w v z:=fun v z hz=>hz.mono (fun _ _ h=>h) (fun _ _ _=>rfl) hle
 have kk:Chg st.sto.own θ I w (An st.sto.own nm (.obj (.map false k []))) (thUp θ nm none) I w:=by
  refine{ imm:=fun _ _ h=>h,cell:=fun _ _ _=>rfl,le:=hle,rel:=?_,valid:=h.chg.valid,os:=rfl,tape:=rfl,output:=rfl,drawn:=fun _=>Nat.le_refl _,grow:=Nat.le_refl _,frame:=fun _ _ _=>rfl,new:=fun j g c ho hg=>?_,immNew:=fun b o h=>.inl h }
  ·refine Gg hrel (·=nm) hmono (fun j hne=>⟨by simp[An,hne],by simp[thUp,hne]⟩) (fun j g c hne ho hg=>⟨rfl,fun j h=>h⟩) ?_ ?_ ?_ (fun _ _ h h'=>h.trans h'.symm) (hobj:=?_)
   ·rintro j e' cells rfl ho;simp[An]at ho
   ·rintro j sz e' m rfl ho;simp[An]at ho
   ·rintro j k' g c c' rfl hne _ ho' hg hg';simp[thUp]at hg
   ·rintro j z rfl ho;simp only[An,if_true,Option.some.injEq,Own.obj.injEq]at ho;subst ho;exact .inr ⟨by simp[thUp],trivial⟩
  ·by_cases hk:j=nm
   ·subst hk;simp[thUp]at hg
   ·exact .inr ⟨j,c,by simpa [An,hk] using ho,by simpa [thUp,hk] using hg⟩
 refine⟨I,thUp θ nm none,h.size,h.defers,fun t'=>?_,?_⟩
 ·rw[hown]
  have hget:(⟨Ch st.tmps t (.omap nm),Ch st.own nm (.obj (.map false k [])),st.fam⟩:St).sto.tmp t'=if t=t' then .omap nm else st.get t':=by
   show(match Ae (Ch st.tmps t _) t' with|some x=>x|none=>.any)=_
   rw[D3]
   by_cases hk:t=t'
   ·simp[hk]
   ·simp[hk];rfl
  rw[hget]
  split
  ·rename_i htt
   subst htt;have hr:=h.slots t
   have hr':Rep I st.sto.own θ w (a.tmps.getD t undef) .nilm:=by rw[← hs];exact hr
   rw[hr'.nilm_inv];have:=Rep.omap (I:=I) (own:=An st.sto.own nm (.obj (.map false k []))) (θ:=thUp θ nm none) (w:=w) nm (.map false k []) (by simp[An])
   simpa [thUp] using this
  ·exact(h.slots t').chg kk
 ·rw[hown];exact h.chg.trans kk
theorem Mo{Γ:Ga}{st:St}{r j nm:Nat}{e0:TypeId}{cells:List AV}(km:IntKind)(hr:Ae st.own r=some (.row e0 cells))(hs:cells.getD j .any = .nilm)(hj:j<cells.length)(hn:Ae st.own nm=none)(hlt:Nat.blt nm A1=true:=by rfl)(hltr:Nat.blt r A1=true:=by rfl) :
  Le Γ st ⟨st.tmps,Ch (Ch st.own r (.row e0 (cells.set j (.omap nm)))) nm (.obj (.map false km [])),st.fam⟩:=by
 intro I θ a w h
 have hlt:nm<A1:=by simpa [Nat.blt_eq] using hlt
 have hltr:r<A1:=by simpa [Nat.blt_eq] using hltr
 have hn:st.sto.own nm=none:=(As hlt).trans hn;have hr:st.sto.own r=some (.row e0 cells):=(As hltr).trans hr
 have hne:r≠nm:=by rintro rfl;rw[hr]at hn;cases hn
 let own':Nat→Option Own:=fun k=>if k=nm then some (.obj (.map false km [])) else if k=r then some (.row e0 (cells.set j (.omap nm))) else st.sto.own k
 have hown:(⟨st.tmps,Ch (Ch st.own r (.row e0 (cells.set j (.omap nm)))) nm (.obj (.map false km [])),st.fam⟩:St).sto.own=own':=by
  funext k
  show B0 (Ch (Ch st.own r _) nm _) _ k=_
  rw[Fn hlt,Fn hltr];simp only[own',eq_comm (a:=nm),eq_comm (a:=r)]
  rfl
 have hle:∀ nm' o,st.sto.own nm'=some o→∃ o',own' nm'=some o'∧OwnLe o (θ nm') o' (thUp θ nm none nm'):=fun nm' o ho=>by
  have h1:nm'≠nm:=by rintro rfl;have:st.sto.own nm'=some o:=ho;rw[hn]at this;cases this
  by_cases h2:nm'=r
  ·subst h2;have:st.sto.own nm'=some o:=ho;rw[hr]at this;obtain rfl:=OI this;exact⟨.row e0 (cells.set j (.omap nm)),by simp[own',h1],by simp[thUp,h1,OwnLe]⟩
  ·exact⟨o,by simp[own',h1,h2,ho],by simp[thUp,h1,OwnLe.refl]⟩
 have hmono:∀ v x,Rep I st.sto.own θ w v x→Rep I own' (thUp θ nm none) w v x:=fun v x h=>h.mono (fun _ _ h=>h) (fun _ _ _=>rfl) hle;have hrel:=h.chg.rel
 have k:Chg st.sto.own θ I w own' (thUp θ nm none) I w:=by
  refine{ imm:=fun _ _ h=>h,cell:=fun _ _ _=>rfl,le:=hle,rel:=?_,valid:=h.chg.valid,os:=rfl,tape:=rfl,output:=rfl,drawn:=fun _=>Nat.le_refl _,grow:=Nat.le_refl _,frame:=fun _ _ _=>rfl,new:=fun nm' g' c ho hg=>?_,immNew:=fun _ _ h=>.inl h }
  ·refine⟨fun nm' e2 cells' ho=>?_,fun nm' s' e' m ho g' c hg=>?_,fun n1 n2 g' c c' ho ho' hg hg'=>?_,fun nm' s' e' m f' ho=>?_,fun nm' x' ho=>?_,fun nm' s' m ho hnn=>?_⟩
   ·by_cases h1:nm'=nm
    ·simp[own',h1]at ho
    ·by_cases h2:nm'=r
     ·subst h2;simp only[own',h1,if_false,if_true,Option.some.injEq,Own.row.injEq]at ho;obtain⟨rfl,rfl⟩:=ho;obtain⟨g',c,vs,r1,r2,r3,r4,r5,r6⟩:=hrel.row nm' _ cells hr;refine⟨g',c,vs,by simpa [thUp,h1] using r1,r2,by simpa using r3,fun j' hj'=>r4 j' (by simpa using hj'),fun j' hj'=>?_,r6⟩
      have hj'':j'<cells.length:=by simpa using hj'
      by_cases hjj:j'=j
      ·subst hjj
       have e1:(cells.set j' (.omap nm)).getD j' .any = .omap nm:=by simp[List.getD,hj]
       rw[e1];have hr':=r5 j' hj'';rw[hs]at hr';rw[hr'.nilm_inv];have:=Rep.omap (I:=I) (own:=own') (θ:=thUp θ nm none) (w:=w) nm (.map false km []) (by simp[own'])
       simpa [thUp] using this
      ·have e1:(cells.set j (.omap nm)).getD j' .any=cells.getD j' .any:=by simp[List.getD,Ne.symm hjj]
       rw[e1];exact hmono _ _ (r5 j' hj'')
     ·simp only[own',h1,h2,if_false]at ho;obtain⟨g',c,vs,r1,r2,r3,r4,r5,r6⟩:=hrel.row nm' _ cells' ho;exact⟨g',c,vs,by simpa [thUp,h1] using r1,r2,r3,r4,fun j' hj'=>hmono _ _ (r5 j' hj'),r6⟩
   ·by_cases h1:nm'=nm
    ·simp[thUp,h1]at hg
    ·have h2:nm'≠r:=by rintro rfl;simp[own',h1]at ho
     simp only[own',h1,h2,if_false]at ho;simp only[thUp,h1,if_false]at hg;exact hrel.tok nm' _ _ _ ho g' c hg
   ·have hx:∀ n1 g' c,own' n1≠none→thUp θ nm none n1=some (g',c)→st.sto.own n1≠none∧θ n1=some (g',c):=fun n1 g' c ho hg=>by
     by_cases h1:n1=nm
     ·simp[thUp,h1]at hg
     ·simp only[thUp,h1,if_false]at hg;refine⟨?_,hg⟩
      by_cases h2:n1=r
      ·subst h2;have:st.sto.own n1=some (.row e0 cells):=hr;simp[this]
      ·simpa [own',h1,h2] using ho
    obtain⟨a1,a2⟩:=hx n1 g' c ho hg;obtain⟨b1,b2⟩:=hx n2 g' c' ho' hg';exact hrel.inj n1 n2 g' c c' a1 b1 a2 b2
   ·by_cases h1:nm'=nm
    ·simp[own',h1]at ho
    ·have h2:nm'≠r:=by rintro rfl;simp[own',h1]at ho
     simp only[own',h1,h2,if_false]at ho;exact Ig (hrel.arr nm' _ _ _ _ ho) (by simp[thUp,h1]) (fun _ _ _=>rfl) (fun _ _ _ _ h=>h) (fun _ _=>rfl) (fun v i j _ _ hv=>hmono _ _ hv)
   ·by_cases h1:nm'=nm
    ·simp only[own',h1,if_true,Option.some.injEq,Own.obj.injEq]at ho;subst ho;subst h1;exact .inr ⟨by simp[thUp],trivial⟩
    ·have h2:nm'≠r:=by rintro rfl;simp[own',h1]at ho
     simp only[own',h1,h2,if_false]at ho;exact Ge (hrel.obj nm' _ ho) (by simp[thUp,h1]) (fun _ _ _=>rfl) (fun _ _ _ _ h=>h) (fun _ hh=>hh.mono hmono) Ld
   ·by_cases h1:nm'=nm
    ·simp[own',h1]at ho
    ·have h2:nm'≠r:=by rintro rfl;simp[own',h1]at ho
     simp only[own',h1,h2,if_false]at ho;simp only[thUp,h1,if_false]at hnn;exact hrel.tok8 nm' _ _ ho hnn
  ·by_cases h1:nm'=nm
   ·simp[thUp,h1]at hg
   ·simp only[thUp,h1,if_false]at hg;refine .inr ⟨nm',c,?_,hg⟩
    by_cases h2:nm'=r
    ·subst h2;have:st.sto.own nm'=some (.row e0 cells):=hr;simp[this]
    ·simpa [own',h1,h2] using ho
 refine⟨I,thUp θ nm none,h.size,h.defers,fun t'=>?_,?_⟩
 ·rw[hown];exact(h.slots t').chg k
 ·rw[hown];exact h.chg.trans k
section
variable {P:Program} {Γ:Ga} {σ:Sto} {I:Nat→Nat→Prop} {θ:Nat→Option (Nat×Nat)} {a:Act} {w:World} {o:Oper}
theorem run_next_at{g bm since:Nat}{seen:Array Nat}{es:Array MapEntry}(hg:w.heap[g]?=some (.mapIter (some bm) since seen since))(hb:w.heap[bm]?=some (.map es since))(hold:∀ x∈es.toList,x.born<since)(ty:TypeId) :
  ((∀ e∈es.toList,e.born∈seen.toList)∧(Instr.next (.pointer (some ⟨g,0,none⟩)) false ty).run P w = .ok (.tuple #[.bool false]) w) ∨
  ∃ e∈es.toList,e.born∉seen.toList∧((Instr.next (.pointer (some ⟨g,0,none⟩)) false ty).run P w = .ok (.tuple #[.bool true,e.key,e.val]) (Kt w g (.mapIter (some bm) since (seen.push e.born) since)) ∨
   (Instr.next (.pointer (some ⟨g,0,none⟩)) false ty).run P w = .ok (.tuple #[.bool true,e.key,e.val]) (Kt w.drew g (.mapIter (some bm) since (seen.push e.born) since))):=by
 simp only[Instr.next,getObj,Sem.run_bind,Sem.run,hg,hb,Result.andThen,next_test_false seen es since since hold (Nat.le_refl _),Bool.false_eq_true,if_false]
 have hmem:∀ x∈(Array.filter (fun e=>!seen.contains e.born) es).toList,x∈es.toList∧x.born∉seen.toList:=fun x hx=>by
  simp only[Array.toList_filter,List.mem_filter,Bool.not_eq_true',Array.contains_eq_mem,decide_eq_false_iff_not]at hx;exact⟨hx.1,by simpa using hx.2⟩
 have hall:(Array.filter (fun e=>!seen.contains e.born) es).size=0→∀ e∈es.toList,e.born∈seen.toList:=fun h0 e he=>by
  by_cases hc:e.born∈seen.toList
  ·exact hc
  ·have:e∈(Array.filter (fun e=>!seen.contains e.born) es).toList:=by
    simp only[Array.toList_filter,List.mem_filter,Bool.not_eq_true',Array.contains_eq_mem,decide_eq_false_iff_not];exact⟨he,by simpa using hc⟩
   have h1:0<(Array.filter (fun e=>!seen.contains e.born) es).toList.length:=List.length_pos_of_mem this;rw[Array.length_toList]at h1;omega
 generalize Array.filter (fun e=>!seen.contains e.born) es=L at hmem hall ⊢
 have e1:L.filter (fun x=>decide (x.born<since))=L:=Array.filter_eq_self.2 (fun x hx=>by simpa using hold x (hmem x (by simpa using hx)).1)
 have e2:L.filter (fun x=>decide (x.born≥since)) = #[]:=by
  rw[Array.filter_eq_empty_iff];intro x hx;have:=hold x (hmem x (by simpa using hx)).1
  simp
  omega
 simp only[e1,e2,Array.append_empty]
 by_cases h0:L.size=0
 ·left
  have:L = #[]:=Array.eq_empty_of_size_eq_zero h0;subst this;refine⟨hall rfl,?_⟩;simp[choose,Sem.run,Question.forced]
 ·right
  have hne:L.isEmpty=false:=by simp[Array.isEmpty,h0]
  simp only[hne,Bool.false_eq_true,if_false,Array.empty_append,Array.size_map];have hgl:g<w.heap.size:=(Array.getElem?_eq_some_iff.1 hg).1
  have hch:∃(j:Nat) (w1:World),j<L.size∧(w1=w∨w1=w.drew)∧(choose (Question.mapNext L.size)).run P w = .ok j w1:=by
   by_cases hf:L.size≤1
   ·exact⟨0,w,by omega,.inl rfl,by simp[choose,Sem.run,Question.forced,hf]⟩
   ·exact⟨_,w.drew,Nat.mod_lt _ (by omega),.inr rfl,by
     simp only[choose,Sem.run,Question.forced,decide_eq_true_eq,hf,if_false,Question.cut]
     rfl⟩
  obtain⟨j,w1,hj,hw,hrun⟩:=hch
  have hLj:L[j]∈L.toList:=by simp
  refine⟨L[j],(hmem _ hLj).1,(hmem _ hLj).2,?_⟩
  have hset:∀ o',(setObj g o').run P w1 = .ok () (Kt w1 g o'):=fun o'=>by
   have hh:w1.heap[g]?=some (.mapIter (some bm) since seen since):=by rcases hw with rfl|rfl<;>exact hg
   simp[setObj,Sem.run,hh,Kt]
  simp only[hrun,Array.getElem?_map,Array.getElem?_eq_getElem hj,Option.map_some,Sem.run_bind,hset,Result.andThen];rcases hw with rfl|rfl
  ·exact .inl rfl
  ·exact .inr rfl
theorem ok_nextm(h:Rel Γ σ I θ a w)(hd:∀ d,o.dst=some d→d<Γ.n){x:Operand}(ho:o.op = .next x false){nm mm n:Nat}{s:List Nat}{nn:Bool}{k:IntKind}{l:List (Int×AV)}(hx:Rep I σ.own θ w (a.eval x) (.optr nm mm))
  (hit:σ.own nm=some (.obj (.miter (.omap mm) n s))) (hown:σ.own mm=some (.obj (.map nn k l))) (hn:n=l.length) (K:Act→World→Prop) (Q:Exit→Act→World→Prop)
  (hdone:(∀ i,i<n→i∈s)→∀ I' θ' a' w',Rel Γ (σ.upd o.dst (.tuple [.bool false]) []) I' θ' a' w'→K a' w')
  (hmore:∀ i,i<n→i∉s→∀ I' θ' a' w',Rel Γ (σ.upd o.dst (.tuple [.bool true,.int k (l.getD i (0,.any)).1,(l.getD i (0,.any)).2]) [(nm,.obj (.miter (.omap mm) n (i::s)))]) I' θ' a' w'→K a' w'):o.wp P a w K Q:=by
 obtain⟨_,g,c,ho',hg,hv⟩:=hx.optr_inv
 obtain⟨ob,h2,h3⟩:∃ ob,w.heap[g]?=some ob∧ObjR I σ.own θ w ob (.miter (.omap mm) n s):=by
  rcases h.chg.rel.obj nm _ hit with⟨g',c',ob,h1,h2,h3,h4⟩|⟨h1,_⟩
  ·rw[hg]at h1;simp only[Option.some.injEq,Prod.mk.injEq]at h1;obtain⟨rfl,rfl⟩:=h1;exact⟨ob,h2,h3⟩
  ·rw[hg]at h1;cases h1
 obtain⟨r,cc,seen,rfl,hseen,rfl,hr⟩:=X5 h3;obtain⟨_,_,hxm⟩:=hr.omap_inv;simp only[Value.map.injEq]at hxm
 have hfalse:∀(hrun:(execOp a.eval o).run P w = .ok (.value (.tuple #[.bool false])) w),(∀ i,i<cc→i∈s)→o.wp P a w K Q:=fun hrun hall=>
  Ap (x:=.tuple [.bool false]) h hd hrun (.tuple _ _ rfl (fun j hj=>by
   obtain rfl:j=0:=by simp at hj;omega
   exact .val _ _ (.bool _))) K Q (hdone hall)
 rcases map_at h hown with⟨gm,c',es',h4,h5,h6⟩|⟨h4,_,h7⟩
 ·rw[h4]at hxm;obtain rfl:r=some gm:=hxm;obtain⟨hlen,hent⟩:=Rd l es'.toList 0 h6
  have hmem:∀ e∈es'.toList,∃ i,i<l.length∧es'.toList[i]?=some e∧e.born=i∧e.key = .int k (l.getD i (0,.any)).1∧Ul I w e.val (l.getD i (0,.any)).2:=fun e he=>by
   obtain⟨i,hi,rfl⟩:=List.mem_iff_getElem.1 he;obtain⟨v,e1,e2⟩:=hent i (by omega);rw[List.getElem?_eq_getElem hi]at e1;have e3:=OI e1;exact⟨i,by omega,List.getElem?_eq_getElem hi,by rw[e3];simp,by rw[e3],by rw[e3];exact e2⟩
  rw[← hn]at h5;have hnx:=run_next_at (P:=P) h2 h5 (fun e he=>by obtain⟨i,hi,_,hb,_⟩:=hmem e he;omega) (ty:=0);have hty:∀ ty,Instr.next (.pointer (some ⟨g,0,none⟩)) false ty=Instr.next (.pointer (some ⟨g,0,none⟩)) false 0:=fun _=>rfl;rcases hnx with⟨hall,hrun⟩|⟨e,he,hns,hrun⟩
  ·refine hfalse ?_ (fun i hi=>?_)
   ·simp only[execOp,ho,hv,hty];simp[hrun]
   ·obtain⟨v,e1,e2⟩:=hent i (by omega);have:=hall _ (List.mem_of_getElem? e1);rw[← hseen,List.mem_reverse]
    simpa using this
  ·obtain⟨i,hi,_,hb,hkey,hval⟩:=hmem e he
   have his:i∉s:=by rw[← hseen,List.mem_reverse,← hb];exact hns
   have hrev:(seen.push e.born).toList.reverse=i::s:=by rw[Array.toList_push,List.reverse_append,hseen,hb];rfl
   have step:∀ w1:World,Rel Γ σ I θ a w1→w1.heap=w.heap→(execOp a.eval o).run P w = .ok (.value (.tuple #[.bool true,e.key,e.val])) (Kt w1 g (.mapIter (some gm) cc (seen.push e.born) cc))→o.wp P a w K Q:=fun w1 hr1 hh hrun=>by
    have hcell:∀ b j,I b j→w1.cell? ⟨b,j,none⟩=w.cell? ⟨b,j,none⟩:=fun b j _=>by simp only[World.cell?,hh]
    have hr':Rep I σ.own θ w1 (.map (some gm)) (.omap mm):=hr.mono (fun _ _ h=>h) hcell (fun _ o ho=>⟨o,ho,.refl _ _⟩)
    have hc:ObjR I σ.own θ w1 (.mapIter (some gm) cc (seen.push e.born) cc) (.miter (.omap mm) cc (i::s)):=by
     have:=ObjR.miter (I:=I) (own:=σ.own) (θ:=θ) (w:=w1) (some gm) (.omap mm) cc cc (seen.push e.born) rfl hr';rwa[hrev]at this
    have kc:=Mh hr1.chg.rel hr1.chg.valid hit hg hc;have hval':RepV I (Kt w1 g (.mapIter (some gm) cc (seen.push e.born) cc)) e.val (l.getD i (0,.any)).2:=hval.1.mono (fun _ _ h=>h) (fun b j hj=>by rw[kc.cell b j hj,hcell b j hj])
    have k2:Chg σ.own θ I w1 (σ.upd o.dst (.tuple [.bool true,.int k (l.getD i (0,.any)).1,(l.getD i (0,.any)).2]) [(nm,.obj (.miter (.omap mm) cc (i::s)))]).own θ I (Kt w1 g (.mapIter (some gm) cc (seen.push e.born) cc)):=by rw[Bi];exact kc
    have hput:=O7 (v:=.tuple #[.bool true,e.key,e.val]) (x:=.tuple [.bool true,.int k (l.getD i (0,.any)).1,(l.getD i (0,.any)).2]) hr1 k2 (.tuple _ _ rfl (fun j hj=>by
     have hj:j=0∨j=1∨j=2:=by simp at hj;omega
     rcases hj with rfl|rfl|rfl
     ·exact .val _ _ (.bool _)
     ·rw[show(#[Value.bool true,e.key,e.val].getD 1 Go.undef)=e.key from rfl,hkey];exact .val _ _ (.int _ _)
     ·exact .val _ _ hval')) hd
    unfold Oper.wp;rw[hrun];exact hmore i (by omega) his _ _ _ _ hput
   rcases hrun with hrun|hrun
   ·refine step w h rfl ?_;simp only[execOp,ho,hv,hty];simp[hrun]
   ·refine step w.drew (rel_drew h) rfl ?_;simp only[execOp,ho,hv,hty];simp[hrun]
 ·rw[h4]at hxm;obtain rfl:r=none:=hxm;subst h7;refine hfalse ?_ (fun i hi=>by simp at hn;omega);simp only[execOp,ho,hv];simp[Instr.next,getObj,Sem.run,h2]
theorem awp_nextm{id:Nat}{o1 o2:Oper}{K:Exit→St→Prop}{st:St}{n:Nat}{H:List (Nat×Own)}{x t b nm mm len:Nat}{s:List Nat}{nn:Bool}{k:IntKind}{l:List (Int×AV)}(q:RgQ P Γ n H)(live names:List Nat)
  (h1:o1.op = .next (.tmp x) false) (d1:o1.dst=some t) (g1:o1.guard=none) (h2:o2.op = .extract (.tmp t) 0) (d2:o2.dst=some b) (g2:o2.guard=none) (hb:(Nat.blt t n&&(Nat.blt b n&&(Nat.blt nm A1&&Nat.blt mm A1)))=true)
  (hx:st.get x = .optr nm mm) (hit:Ae st.own nm=some (.obj (.miter (.omap mm) len s))) (hm:Ae st.own mm=some (.obj (.map nn k l))) (hlen:len=l.length) (hh:(H.all fun x=>Cu x.1 names)=true)
  (hdone:(∀ i,i<len→i∈s)→K .normal (Ax live names ((st.upd (some t) (.tuple [.bool false]) []).upd (some b) (.bool false) [])))
  (hmore:∀ i,i<len→i∉s→K .normal (Ax live names ((st.upd (some t) (.tuple [.bool true,.int k (l.getD i (0,.any)).1,(l.getD i (0,.any)).2]) [(nm,.obj (.miter (.omap mm) len (i::s)))]).upd (some b) (.bool true) []))):Nk P Γ (.region id #[o1,o2] false) K st:=by
 simp only[Bool.and_eq_true,Nat.blt_eq]at hb;obtain⟨b1,b2,b3,b4⟩:=hb;intro I θ a w hrel;refine wp_region ?_;have hget:∀ t,Rep I st.sto.own θ w (a.tmps.getD t undef) (st.get t):=hrel.slots
 have w1:∀ tm,Region.wanted o1 tm=true:=fun tm=>by simp[Region.wanted,g1]
 have w2:∀ tm,Region.wanted o2 tm=true:=fun tm=>by simp[Region.wanted,g2]
 have hl:(List.range (#[o1,o2]:Array Oper).size)=[0,1]:=rfl;have hsec:∀(st2:St) (vb:Bool) (r:List AV) (I':Nat→Nat→Prop) (θ':Nat→Option (Nat×Nat)) (a':Act) (w':World),st2.get t = .tuple (.bool vb::r)→Rel Γ st2.sto I' θ' a' w'→K .normal (Ax live names (st2.upd (some b) (.bool vb) []))→
   wpOps P #[o1,o2] (fun e a' w'=>∃ st' I' θ',K e st'∧Rel Γ st'.sto I' θ' a' w') [1] a' w':=fun st2 vb r I' θ' a' w' hgt hr hK=>by
  rw[wpOps_cons]
  show wpOp P #[o1,o2] _ 1 _ a' w'
  unfold wpOp;simp only[show(#[o1,o2]:Array Oper)[1]?=some o2 from rfl,w2,if_true];refine .inl ?_;have ht:=hr.slots t;rw[show st2.sto.tmp t=st2.get t from rfl,hgt]at ht;obtain⟨vs,hv,hsz,hvr⟩:=ht.tuple_inv;have h0:=hvr 0 (by simp);have h0':vs.getD 0 Go.undef = .bool vb:=Rep.bool_inv h0
  have hpos:0<vs.size:=by rw[hsz];simp
  refine Ap hr (fun d hd=>?_) (v:=.bool vb) (x:=.bool vb) ?_ (.val _ _ (.bool _)) _ _ (fun I2 θ2 a2 w2 h2=>?_)
  ·rw[d2]at hd;obtain rfl:=OI hd;rw[q.hn];exact b2
  ·simp only[execOp,h2,Act.eval];rw[hv]
   have:vs[0]?=some (.bool vb):=by
    rw[Array.getD_eq_getD_getElem?,Array.getElem?_eq_getElem hpos,Option.getD_some]at h0';rw[Array.getElem?_eq_getElem hpos,h0']
   simp[Instr.extract,this]
  ·refine⟨_,I2,θ2,hK,M0 ?_ (q.hand hh)⟩;rw[Uh (ns:=[]) st2 (some b) (.bool vb) [] rfl];rw[d2]at h2;exact h2
 rw[hl,wpOps_cons];unfold wpOp;simp only[show(#[o1,o2]:Array Oper)[0]?=some o1 from rfl,w1,if_true];refine .inl ?_;have hxr:=hget x;rw[hx]at hxr;refine ok_nextm hrel (fun d hd=>?_) h1 (nm:=nm) (mm:=mm) (n:=len) (s:=s) (nn:=nn) (k:=k) (l:=l) hxr ((As b3).trans hit) ((As b4).trans hm) hlen _ _ (fun hall I' θ' a' w' hr=>?_) (fun i hi hni I' θ' a' w' hr=>?_)
 ·rw[d1]at hd;obtain rfl:=OI hd;rw[q.hn];exact b1
 ·rw[d1,← Uh (ns:=[]) st (some t) (.tuple [.bool false]) [] rfl]at hr;refine hsec _ false [] I' θ' a' w' ?_ hr (hdone hall);simp[St.get,St.upd,D3]
 ·rw[d1,← Uh (ns:=[nm]) st (some t) _ [(nm,.obj (.miter (.omap mm) len (i::s)))] (by simp[Mq,b3])]at hr;refine hsec _ true [.int k (l.getD i (0,.any)).1,(l.getD i (0,.any)).2] I' θ' a' w' ?_ hr (hmore i hi hni);simp[St.get,St.upd,D3]
end
def Oj{S X:Type}(f:Nat→S→Option (LR S X))(g:S→Option (LR S X)):List Nat→S→Option X
 | [],s=>match g s with|some (.done x)=>some x|_=>none
 | i::l,s=>match f i s with|some (.next s')=>Oj f g l s'|some (.done x)=>some x|none=>none
open Classical in
open Classical in
def Qc{S X:Type}(eqv:X→X→Prop)(n:Nat)(f:Nat→S→Option (LR S X))(g:S→Option (LR S X))(s:S):Option X:=
 if h:∃ x,∀ τ:List Nat,τ.Perm (List.range n)→∃ x',Oj f g τ s=some x'∧eqv x' x then some (Classical.choose h) else none
theorem Tc{S X:Type}{eqv:X→X→Prop}{n:Nat}{f:Nat→S→Option (LR S X)}{g:S→Option (LR S X)}{s:S}{x:X}(h:Qc eqv n f g s=some x):∀ τ:List Nat,τ.Perm (List.range n)→∃ x',Oj f g τ s=some x'∧eqv x' x:=by
 unfold Qc at h
 split at h
 ·rename_i h0
  obtain rfl:=OI h;exact Classical.choose_spec h0
 ·cases h
theorem rangeP_ex{S X:Type}{eqv:X→X→Prop}{n:Nat}{f:Nat→S→Option (LR S X)}{g:S→Option (LR S X)}{s:S}(h:∃ x,∀ τ:List Nat,τ.Perm (List.range n)→∃ x',Oj f g τ s=some x'∧eqv x' x):∃ x,Qc eqv n f g s=some x:=by
 unfold Qc;rw[dif_pos h];exact⟨_,rfl⟩
theorem Vv{α:Type}[DecidableEq α]{a b:List α}(ha:a.Nodup)(hb:b.Nodup)(h:∀ x,x∈a↔x∈b):a.Perm b:=by
 refine List.perm_iff_count.2 fun x=>?_;rw[ha.count,hb.count];simp only[h x]
section
variable {P:Program} {Γ:Ga}
theorem awp_rangemQ{S X:Type}{body:Code}(Q:X→Prop)(n:Nat)(H:List Nat→S→St)(f:Nat→S→Option (LR S X))(g:S→Option (LR S X))(KX:X→Exit→St→Prop){K:Exit→St→Prop}
  (hb:∀(z:List Nat) (s:S),((∀ i,i<n→i∈z)→∃ y,g s=some y)→(∀ i,i<n→i∉z→∃ y,f i s=some y)→
   Nk P Γ body (fun e st=>(∃ y,g s=some y∧Ls Γ (H z) KX y e st∧∀ i,i<n→i∈z)∨∃ i y,f i s=some y∧Ls Γ (H (i::z)) KX y e st∧i<n∧i∉z) (H z s))
  {s:S} (hr:∀ τ:List Nat,τ.Perm (List.range n)→∃ x,Oj f g τ s=some x∧Q x) (hK:∀ x,Q x→∀ e st',KX x e st'→K e st'):Nk P Γ (.loop body) K (H [] s):=by
 intro I θ a w hrel;refine Su (fun m a w=>∃ z s I θ,m=n-z.length∧z.Nodup∧(∀ i∈z,i<n)∧(∀ τ:List Nat,(z++τ).Perm (List.range n)→∃ x,Oj f g τ s=some x∧Q x)∧Rel Γ (H z s).sto I θ a w) (fun m a w ⟨z,s,I,θ,hm,hz,hzn,hruns,hrel⟩=>?_) (n:=n-0) ⟨[],s,I,θ,rfl,List.nodup_nil,(fun i hi=>by cases hi),(fun τ hτ=>hr τ hτ),hrel⟩
 have hall:(∀ i,i<n→i∈z)→(z++[]).Perm (List.range n):=fun h=>by
  rw[List.append_nil]
  exact Vv hz List.nodup_range fun i=>by rw[List.mem_range];exact⟨hzn i,h i⟩
 have hone:∀ i,i<n→i∉z→∃ τ,(z++i::τ).Perm (List.range n):=fun i hi hni=>by
  refine⟨(List.range n).filter fun j=>decide (j∉i::z),Vv ?_ List.nodup_range fun j=>?_⟩
  ·refine List.nodup_append.2 ⟨hz,List.nodup_cons.2 ⟨by simp,List.nodup_range.filter _⟩,fun p hp q hq hpq=>?_⟩;subst hpq;rcases List.mem_cons.1 hq with rfl|hq
   ·exact hni hp
   ·have:=(List.mem_filter.1 hq).2;simp at this;exact this.2 hp
  ·rw[List.mem_append,List.mem_cons,List.mem_filter,List.mem_range]
   constructor
   ·rintro(h|rfl|h)
    ·exact hzn j h
    ·exact hi
    ·exact h.1
   ·intro h
    by_cases h1:j∈z
    ·exact .inl h1
    ·by_cases h2:j=i
     ·exact .inr (.inl h2)
     ·exact .inr (.inr ⟨h,by simp[h1,h2]⟩)
 have hg:(∀ i,i<n→i∈z)→∃ y,g s=some y:=fun h=>by
  obtain⟨x,this,_⟩:=hruns [] (hall h);unfold Oj at this
  cases hgs:g s with
  | none=>rw[hgs]at this;cases this
  | some y=>exact⟨y,rfl⟩
 have hf:∀ i,i<n→i∉z→∃ y,f i s=some y:=fun i hi hni=>by
  obtain⟨τ,hτ⟩:=hone i hi hni;obtain⟨x,this,_⟩:=hruns _ hτ;unfold Oj at this
  cases hfs:f i s with
  | none=>rw[hfs]at this;cases this
  | some y=>exact⟨y,rfl⟩
 refine wp_mono (hb z s hg hf I θ a w hrel) fun e a' w' ⟨st',I',θ',h1,h2⟩=>?_;rcases h1 with⟨y,hgs,hk,hal⟩|⟨i,y,hfs,hk,hi,hni⟩
 ·obtain⟨x,hx,hQ⟩:=hruns [] (hall hal);unfold Oj at hx;rw[hgs]at hx
  cases y with
  | next s'=>cases hx
  | done x'=>
   obtain rfl:=OI hx;obtain⟨hne,hkx⟩:=hk
   cases e with
   | normal=>exact(hne rfl).elim
   | _=>exact⟨st',I',θ',hK _ hQ _ _ hkx,h2⟩
 ·obtain⟨τ,hτ⟩:=hone i hi hni
  have hlen:z.length<n:=by
   have:=hτ.length_eq;rw[List.length_append,List.length_cons,List.length_range]at this;omega
  cases y with
  | next s'=>
   obtain⟨rfl,hle⟩:=hk;obtain⟨I'',θ'',h3⟩:=hle I' θ' a' w' h2;refine⟨n-(i::z).length,by simp only[List.length_cons];omega,i::z,s',I'',θ'',rfl,List.nodup_cons.2 ⟨hni,hz⟩,?_,fun ρ hρ=>?_,h3⟩
   ·intro j hj;rcases List.mem_cons.1 hj with rfl|hj
    ·exact hi
    ·exact hzn j hj
   ·obtain⟨x,this,hQ⟩:=hruns (i::ρ) (List.Perm.trans List.perm_middle hρ);unfold Oj at this;rw[hfs]at this;exact⟨x,this,hQ⟩
  | done x'=>
   obtain⟨x,hx,hQ⟩:=hruns _ hτ;unfold Oj at hx;rw[hfs]at hx;obtain rfl:=OI hx;obtain⟨hne,hkx⟩:=hk
   cases e with
   | normal=>exact(hne rfl).elim
   | _=>exact⟨st',I',θ',hK _ hQ _ _ hkx,h2⟩
end
theorem ment_le{V:Type}{f:V→AV}{l:List (Int×V)}{d:Int×V}{i:Nat}{k:IntKind}(h:i<(mapE f l).length):AVle (.tuple [.int k ((mapE f l).getD i (0,.any)).1,((mapE f l).getD i (0,.any)).2]) (.tuple [.int k (l.getD i d).1,f (l.getD i d).2]):=by
 have hl:i<l.length:=by simpa [mapE] using h
 have e:(mapE f l).getD i (0,.any)=((l.getD i d).1,f (l.getD i d).2):=by simp[mapE,List.getD,hl]
 rw[e];exact AVle.refl _
section
variable {P:Program} {Γ:Ga}
def T0(P:Program)(Γ:Ga)(body:Code)(K:Exit→St→Prop):Nat→St→Prop
 | 0,_=>False
 | n+1,st=>Nk P Γ body (fun e st'=>(e = .normal∧T0 P Γ body K n st')∨(e≠.normal∧K e st')) st
theorem awp_unroll{body:Code}{K:Exit→St→Prop}{st:St}(n:Nat)(h:T0 P Γ body K n st):Nk P Γ (.loop body) K st:=by
 intro I θ a w hrel;refine Su (fun m a w=>∃ st I θ,T0 P Γ body K m st∧Rel Γ st.sto I θ a w) (fun m a w ⟨st,I,θ,hu,hrel⟩=>?_) (n:=n) ⟨st,I,θ,h,hrel⟩
 cases m with
 | zero=>exact hu.elim
 | succ m=>
  refine wp_mono (hu I θ a w hrel) fun e a' w' ⟨st',I',θ',h1,h2⟩=>?_;rcases h1 with⟨rfl,h1⟩|⟨hne,h1⟩
  ·exact⟨m,Nat.lt_succ_self m,st',I',θ',h1,h2⟩
  ·cases e with
   | normal=>exact(hne rfl).elim
   | _=>exact⟨st',I',θ',h1,h2⟩
end
inductive Frm where
 | nx (y:Code)
 | bl (id:Nat)
 | ag (c:Code) (n:Nat)
inductive It where
 | run (c:Code) (fs:List Frm)
 | out (e:Exit) (fs:List Frm)
def kOf(P:Program)(Γ:Ga)(K:Exit→St→Prop):List Frm→Exit→St→Prop
 | []=>K
 | .nx y::fs=>thenK P Γ y (kOf P Γ K fs)
 | .bl id::fs=>P3 id (kOf P Γ K fs)
 | .ag c n::fs=>fun e st=>(e = .normal∧T0 P Γ c (kOf P Γ K fs) n st)∨(e≠.normal∧kOf P Γ K fs e st)
def GG(P:Program)(Γ:Ga)(K:Exit→St→Prop):It→St→Prop
 | .run c fs,st=>Nk P Γ c (kOf P Γ K fs) st
 | .out e fs,st=>kOf P Γ K fs e st
def Nz:Code→Nat→Nat
 | .exit i,k=>bif Nat.beq i k then 1 else 0
 | .seq a b,k=>Nat.min 2 (Nz a k+Nz b k)
 | .cond _ a b,k=>Nat.min 2 (Nz a k+Nz b k)
 | .loop c,k=>Nat.min 1 (Nz c k)
 | .scope c,k=>Nat.min 1 (Nz c k)
 | .block _ c,k=>Nz c k
 | _,_=>0
def Km:Code→Nat
 | .region _ _ _=>1
 | .skip=>1
 | .label _=>1
 | .seq a b=>bif Nat.beq (Km a) 0 then 0 else Km b
 | .cond _ a b=>Nat.min 2 (Km a+Km b)
 | .block i c=>Nat.min 2 (Km c+Nz c i)
 | .scope c=>Nat.min 2 (Km c)
 | _=>0
def joinPt(a:Code):Bool:=match a with | .region _ _ _=>false|a=>Nat.ble 2 (Km a)
def Vg:Nat→Code ⊕ Exit→List Frm→It
 | 0,.inl c,fs=>.run c fs
 | 0,.inr e,fs=>.out e fs
 | n+1,.inl c,fs=>
  match c with
  | .skip=>Vg n (.inr .normal) fs
  | .label _=>Vg n (.inr .normal) fs
  | .seq a b=>bif joinPt a then .run (.seq a b) fs else Vg n (.inl a) (.nx b::fs)
  | .block id a=>Vg n (.inl a) (.bl id::fs)
  | .exit id=>Vg n (.inr (.exit id)) fs
  | .goto l=>Vg n (.inr (.goto l)) fs
  | .ret=>Vg n (.inr .ret) fs
  | c=>.run c fs
 | n+1,.inr e,fs=>
  match fs with
  | []=>.out e []
  | .nx y::fs=>(match e with | .normal=>Vg n (.inl y) fs|e=>Vg n (.inr e) fs)
  | .bl id::fs=>(match e with | .exit i=>bif Nat.beq i id then Vg n (.inr .normal) fs else Vg n (.inr (.exit i)) fs|e=>Vg n (.inr e) fs)
  | .ag c m::fs=>(match e with | .normal=>(match m with|0=>.out .normal (.ag c 0::fs)|m+1=>Vg n (.inl c) (.ag c m::fs))|e=>Vg n (.inr e) fs)
section
variable {P:Program} {Γ:Ga} {K:Exit→St→Prop}
theorem Bh:∀(n:Nat) (x:Code ⊕ Exit) (fs:List Frm) (st:St),GG P Γ K (Vg n x fs) st→(match x with | .inl c=>Nk P Γ c (kOf P Γ K fs) st | .inr e=>kOf P Γ K fs e st)
 | 0,.inl c,fs,st,h=>h
 | 0,.inr e,fs,st,h=>h
 | n+1,.inl c,fs,st,h=>by
  cases c with
  | skip=>exact awp_skip (Bh n (.inr .normal) fs st h)
  | label l=>exact awp_label (Bh n (.inr .normal) fs st h)
  | seq a b=>
   cases hj:joinPt a with
   | true=>simp only[Vg,hj,cond_true]at h;exact h
   | false=>simp only[Vg,hj,cond_false]at h;exact Y1 (Bh n (.inl a) (.nx b::fs) st h)
  | block id a=>exact awp_block (Bh n (.inl a) (.bl id::fs) st h)
  | exit id=>exact awp_exit (Bh n (.inr (.exit id)) fs st h)
  | goto l=>exact awp_goto (Bh n (.inr (.goto l)) fs st h)
  | ret=>exact awp_ret (Bh n (.inr .ret) fs st h)
  | _=>exact h
 | n+1,.inr e,[],st,h=>h
 | n+1,.inr e,.nx y::fs,st,h=>by
  cases e with
  | normal=>exact Bh n (.inl y) fs st h
  | exit i=>exact Bh n (.inr (.exit i)) fs st h
  | goto l=>exact Bh n (.inr (.goto l)) fs st h
  | ret=>exact Bh n (.inr .ret) fs st h
  | panic c=>exact Bh n (.inr (.panic c)) fs st h
  | outgrown=>exact Bh n (.inr .outgrown) fs st h
 | n+1,.inr e,.bl id::fs,st,h=>by
  cases e with
  | normal=>exact Bh n (.inr .normal) fs st h
  | exit i=>
   show P3 id (kOf P Γ K fs) (.exit i) st
   cases hb:Nat.beq i id with
   | true=>
    obtain rfl:=Nat.eq_of_beq_eq_true hb;simp only[Vg,hb,cond_true]at h;exact block_here (Bh n (.inr .normal) fs st h)
   | false=>
    simp only[Vg,hb,cond_false]at h;exact block_exit hb (Bh n (.inr (.exit i)) fs st h)
  | goto l=>exact Bh n (.inr (.goto l)) fs st h
  | ret=>exact Bh n (.inr .ret) fs st h
  | panic c=>exact Bh n (.inr (.panic c)) fs st h
  | outgrown=>exact Bh n (.inr .outgrown) fs st h
 | n+1,.inr e,.ag c m::fs,st,h=>by
  cases e with
  | normal=>
   cases m with
   | zero=>exact h
   | succ m=>exact .inl ⟨rfl,Bh n (.inl c) (.ag c m::fs) st h⟩
  | exit i=>exact .inr ⟨(by intro hh;cases hh),Bh n (.inr (.exit i)) fs st h⟩
  | goto l=>exact .inr ⟨(by intro hh;cases hh),Bh n (.inr (.goto l)) fs st h⟩
  | ret=>exact .inr ⟨(by intro hh;cases hh),Bh n (.inr .ret) fs st h⟩
  | panic ch=>exact .inr ⟨(by intro hh;cases hh),Bh n (.inr (.panic ch)) fs st h⟩
  | outgrown=>exact .inr ⟨(by intro hh;cases hh),Bh n (.inr .outgrown) fs st h⟩
theorem Gr{n:Nat}{c:Code}{fs:List Frm}{st:St}(h:GG P Γ K (Vg n (.inl c) fs) st):Nk P Γ c (kOf P Γ K fs) st:=Bh n (.inl c) fs st h
theorem N8{n:Nat}{e:Exit}{fs:List Frm}{st:St}(h:GG P Γ K (Vg n (.inr e) fs) st):kOf P Γ K fs e st:=Bh n (.inr e) fs st h
def inC(c:Code)(fs:List Frm):It:=Vg 400 (.inl c) fs
def exC(e:Exit)(fs:List Frm):It:=Vg 400 (.inr e) fs
def nxC:It→It
 | .run _ fs=>exC .normal fs
 | x=>x
def opsC:It→Option (List Oper×Bool)
 | .run (.region _ ops draw) _=>some (ops.toList,draw)
 | _=>none
def doR(P:Program)(S:Qi)(n:Nat)(cs:List (Nat×AV))(live names:List Nat)(x:It)(st:St)(rs:List Pf):Option (St×List Prop×Bool):=
 match opsC x with
 | some (ops,draw)=>T4 P S n cs live names ops draw st rs
 | none=>none
def nxS(P:Program)(S:Qi)(n:Nat)(cs:List (Nat×AV))(live names:List Nat)(x:It)(st:St)(rs:List Pf):St:=
 match doR P S n cs live names x st rs with
 | some r=>r.1
 | none=>st
def obR(r:Option (St×List Prop×Bool)):Option (Prop×Bool):=
 match r with
 | some r=>some (conjL r.2.1,r.2.2)
 | none=>none
theorem gR{x:It}{st:St}{n:Nat}{H:List (Nat×Own)}(q:RgQ P Γ n H)(live names:List Nat)(cs:List (Nat×AV))(rs:List Pf){O:Prop}(hO:O)
  (k:GG P Γ K (nxC x) (nxS P (Spec P) n cs live names x st rs))
  (h:obR (doR P (Spec P) n cs live names x st rs)=some (O,true):=by kernel_rfl) (hh:(H.all fun x=>Cu x.1 names)=true:=by kernel_rfl):GG P Γ K x st:=by
 unfold doR at h;unfold nxS doR at k
 cases x with
 | out e fs=>simp[opsC,obR]at h
 | run c fs=>
  cases c with
  | region id ops draw=>
   simp only[opsC]at h k
   cases hr:T4 P (Spec P) n cs live names ops.toList draw st rs with
   | none=>rw[hr]at h;simp[obR]at h
   | some r=>
    obtain⟨st',obs,d⟩:=r;rw[hr]at h k;simp only[obR,Option.some.injEq,Prod.mk.injEq]at h;obtain⟨rfl,rfl⟩:=h;have:=awp_region (id:=id) (K:=kOf P Γ K fs) q.hn q.mix (q.hand hh) hr hO (N8 k);exact(by simpa using this:Nk P Γ (.region id ops draw) (kOf P Γ K fs) st)
  | _=>simp[opsC,obR]at h
theorem Aj{x:It}{st:St}{n:Nat}{H:List (Nat×Own)}(q:RgQ P Γ n H)(live names:List Nat)
  (k:GG P Γ K (nxC x) (nxS P (Spec P) n [] live names x st []))
  (h:obR (doR P (Spec P) n [] live names x st [])=some (True,true):=by kernel_rfl) (hh:(H.all fun x=>Cu x.1 names)=true:=by kernel_rfl):GG P Γ K x st:=gR q live names [] [] trivial k h hh
def isRun:It→Bool | .run _ _=>true|_=>false
theorem Jy{x:It}{st st':St}(h:Le Γ st st')
  (k:GG P Γ K x st')
  (hx:isRun x=true:=by kernel_rfl):GG P Γ K x st:=by
 cases x with
 | run c fs=>exact awp_le h k
 | out e fs=>cases hx
theorem Rt{x:It}{st:St}(st':St)
  (k:GG P Γ K x st')
  (h:st=st':=by kernel_rfl):GG P Γ K x st:=h▸k
def condV(x:It)(st:St):AV:=match x with | .run (.cond c _ _) _=>evA st.get c|_=>.any
def brC(b:Bool):It→It
 | .run (.cond _ c d) fs=>inC (bif b then c else d) fs
 | x=>x
theorem gC{x:It}{st:St}{R:Type}{b:Bool}{m1 m2:Option R}{r:R}(h:(bif b then m1 else m2)=some r)
  (kt:m1=some r→GG P Γ K (brC true x) st) (kf:m2=some r→GG P Γ K (brC false x) st)
  (hv:condV x st = .bool b:=by kernel_rfl):GG P Γ K x st:=by
 cases x with
 | out e fs=>cases hv
 | run c fs=>
  cases c with
  | cond c y z=>
   refine awp_cond b hv (fun hb=>Gr (n:=400) (kt ?_)) (fun hb=>Gr (n:=400) (kf ?_))
   ·subst hb;exact h
   ·subst hb;exact h
  | _=>cases hv
theorem gCt{x:It}{st:St}(b:Bool)
  (k:GG P Γ K (brC b x) st)
  (hv:condV x st = .bool b:=by kernel_rfl):GG P Γ K x st:=by
 cases x with
 | out e fs=>cases hv
 | run c fs=>
  cases c with
  | cond c y z=>
   refine awp_cond b hv (fun hb=>Gr (n:=400) ?_) (fun hb=>Gr (n:=400) ?_)
   ·subst hb;exact k
   ·subst hb;exact k
  | _=>cases hv
theorem gK{x:It}{st:St}{e:Exit}(h:K e st)(hx:x = .out e []:=by kernel_rfl):GG P Γ K x st:=by subst hx;exact h
def aG(Γ:Ga)(e0:Exit)(og:St):Exit→St→Prop:=fun e st=>e=e0∧Le Γ st og
def aR(K:Exit→St→Prop):Exit→St→Prop:=fun e st=>e = .ret∧K e st
theorem Eb{e0:Exit}{og st:St}(h:Le Γ st og):aG Γ e0 og e0 st:=⟨rfl,h⟩
theorem Pg{st:St}(h:K .ret st):aR K .ret st:=⟨rfl,h⟩
def isN:Exit→Bool | .normal=>true|_=>false
theorem gN{S X:Type}{x:It}{st:St}{H:S→St}{KX:X→Exit→St→Prop}{s':S}(h:Le Γ st (H s'))(hx:x = .out .normal []:=by kernel_rfl):GG P Γ (Ls Γ H KX (.next s')) x st:=by
 subst hx;exact⟨rfl,h⟩
theorem gO{S X:Type}{x:It}{st:St}{H:S→St}{KX:X→Exit→St→Prop}{y:X}{e:Exit}(h:KX y e st)(hx:x = .out e []:=by kernel_rfl)(hn:isN e=false:=by kernel_rfl):GG P Γ (Ls Γ H KX (.done y)) x st:=by
 subst hx;exact⟨(by rintro rfl;cases hn),h⟩
def fK(P:Program)(Γ:Ga)(rs:List ResultVar)(H:List (Nat×Own))(res:AV)(H':List (Nat×Own)):Exit→St→Prop:=clK Γ (retK P rs H res H')
theorem J6{rs:List ResultVar}{H H':List (Nat×Own)}{res:AV}{st st':St}{e:Exit}(ρ:List (Nat×Nat))(hl:Le Γ st st')(hr:retOf P rs ρ H st'=some (res,H'):=by kernel_rfl)
  (he:(match e with | .ret=>true | .normal=>true|_=>false)=true:=by kernel_rfl):fK P Γ rs H res H' e st:=by
 refine⟨st',hl,?_,ρ,hr⟩
 cases e with
 | ret=>exact .inl rfl
 | normal=>exact .inr rfl
 | _=>cases he
theorem Du{rs:List ResultVar}{H H':List (Nat×Own)}{res:AV}{x:It}{st:St}(ρ:List (Nat×Nat))(hr:retOf P rs ρ H st=some (res,H'):=by kernel_rfl)
  (hx:x = .out .ret []:=by kernel_rfl):GG P Γ (fK P Γ rs H res H') x st:=gK (e:=.ret) (J6 ρ (Le.refl _ _) hr) hx
def bodyOf(fn:Func):Code:=match fn.body with|some c=>c|none=>.skip
theorem Af {f : FuncId} {fn : Func} {args : List AV} {H H' : List (Nat × Own)} {res : AV} (hm : P.follows .mixedOrders = true) (hf : P.funcs[f]? = some fn)
    (k : ∀ Γ : Ga, RgQ P Γ fn.ntmps H → GG P Γ (fK P Γ fn.results.toList H res H') (inC (bodyOf fn) []) (U4 args H))
    (hb : fn.body.isSome = true := by kernel_rfl) (hname : (fn.name == "runtime.NumGoroutine") = false := by kernel_rfl) (hlen : Nat.ble args.length fn.ntmps = true := by kernel_rfl) (hpl : Zu H = true := by kernel_rfl) : Spec P f args H res H' := by
  obtain ⟨c, hc⟩ := Option.isSome_iff_exists.1 hb
  have e : bodyOf fn = c := by unfold bodyOf; rw [hc]
  refine spec_of_awp hf hc hname hlen (fun Γ hn hΓ => ?_) hpl; have := k Γ ⟨hn, hm, hΓ⟩; rw [e] at this; exact awp_cl (Gr this)
theorem leq_of{st st':St}(h:st=st'):Le Γ st st':=h▸Le.refl Γ st
def isLoop:It→Bool | .run (.loop _) _=>true|_=>false
def bodyC:It→It
 | .run (.loop c) _=>inC c []
 | x=>x
def outC(e:Exit):It→It
 | .run _ fs=>exC e fs
 | x=>x
def putS{α:Type}(k:Nat)(x:α):List (Nat×α)→List (Nat×α)
 | []=>[(k,x)]
 | (k',y)::l=>bif Nat.beq k k' then(k,x)::l else bif Nat.blt k k' then(k,x)::(k',y)::l else(k',y)::putS k x l
def putL{α:Type}:List (Nat×α)→List (Nat×α)→List (Nat×α)
 | [],l=>l
 | (k,x)::r,l=>putL r (putS k x l)
def Et(st:St)(ts:List (Nat×AV))(os:List (Nat×Own))(fs:List (Nat×Fam):=[]):St:=⟨putL ts st.tmps,putL os st.own,putL fs st.fam⟩
def Px(live names:List Nat)(st:St)(ts:List (Nat×AV))(os:List (Nat×Own))(fs:List (Nat×Fam):=[]):St:=Ax live names (Et st ts os fs)
theorem gL{S X:Type}{x:It}{st:St}{n:Nat}{Hf:List (Nat×Own)}(q:RgQ P Γ n Hf){f:S→Option (LR S X)}{s0:S}{y:X}(hx:Ak f s0=some y)(live names:List Nat)(H:St→S→St)(KX:St→X→Exit→St→Prop)
  (kb:∀ s y,f s=some y→GG P Γ (Ls Γ (H (Ax live names st)) (KX (Ax live names st)) y) (bodyC x) (H (Ax live names st) s)) (ko:∀ e st',KX (Ax live names st) y e st'→GG P Γ K (outC e x) st')
  (h0:Ax live names st=H (Ax live names st) s0:=by kernel_rfl) (hl:isLoop x=true:=by kernel_rfl) (hh:(Hf.all fun x=>Cu x.1 names)=true:=by kernel_rfl):GG P Γ K x st:=by
 cases x with
 | out e fs=>cases hl
 | run c fs=>
  cases c with
  | loop c=>
   refine awp_le (st':=H (Ax live names st) s0) ?_ (awp_loop (H (Ax live names st)) f (KX (Ax live names st)) (fun s y hy=>Gr (kb s y hy)) hx fun e st' hk=>N8 (ko e st' hk));rw[← h0];exact Ej live names q rfl hh
  | _=>cases hl
theorem gA{x:It}{f:Exit→It→It}{e0:Exit}{og:St}
  (k:GG P Γ K (f e0 x) og)
  (hr:isRun (f e0 x)=true:=by kernel_rfl):∀ e st',aG Γ e0 og e st'→GG P Γ K (f e x) st':=by
 rintro e st' ⟨rfl,hl⟩;exact Jy hl k hr
theorem gA'{x:It}{f:Exit→It→It}{e0:Exit}{og:St}(k:∀ st',Le Γ st' og→GG P Γ K (f e0 x) st'):∀ e st',aG Γ e0 og e st'→GG P Γ K (f e x) st':=by
 rintro e st' ⟨rfl,hl⟩;exact k st' hl
theorem R0{x:It}{f:Exit→It→It}{K':Exit→St→Prop}(k:∀ st',K' .ret st'→GG P Γ K (f .ret x) st'):∀ e st',aR K' e st'→GG P Γ K (f e x) st':=by
 rintro e st' ⟨rfl,hl⟩;exact k st' hl
theorem gU{x:It}{st:St}(n:Nat)
  (k:GG P Γ K (match x with | .run (.loop c) fs=>inC c (.ag c n::fs)|x=>x) st)
  (hl:isLoop x=true:=by kernel_rfl):GG P Γ K x st:=by
 cases x with
 | out e fs=>cases hl
 | run c fs=>
  cases c with
  | loop c=>exact awp_unroll (n+1) (Gr k)
  | _=>cases hl
def isSeq:It→Bool | .run (.seq _ _) _=>true|_=>false
def headC:It→It
 | .run (.seq a _) _=>inC a []
 | x=>x
def restC(e:Exit):It→It
 | .run (.seq _ b) fs=>exC e (.nx b::fs)
 | x=>x
theorem gJ{X:Type}{x:It}{st:St}{m:Option X}{y:X}(hx:m=some y)(KX:X→Exit→St→Prop)
  (kb:∀ y,m=some y→GG P Γ (KX y) (headC x) st) (ko:∀ e st',KX y e st'→GG P Γ K (restC e x) st')
  (hs:isSeq x=true:=by kernel_rfl):GG P Γ K x st:=by
 cases x with
 | out e fs=>cases hs
 | run c fs=>
  cases c with
  | seq a b=>exact Y1 (awp_join KX hx (fun y hy=>Gr (kb y hy)) fun e st' hk=>N8 (ko e st' hk))
  | _=>cases hs
def isScope:It→Bool | .run (.scope _) _=>true|_=>false
def scB:It→Code | .run (.scope c) _=>c|_=>.skip
def labC(c:Code)(l:Nat):It:=inC ((findLabel c l).getD .skip) []
theorem gS{S X:Type}{x:It}{st:St}{f0:Option (LR S X)}{f:S→Option (LR S X)}{y:X}(hx:Lt f0 f=some y)(lab:S→Nat)(H:S→St)(KX:X→Exit→St→Prop)
  (k0:∀ y,f0=some y→GG P Γ (U6 Γ (scB x) lab H KX y) (inC (scB x) []) st) (kb:∀ s y,f s=some y→GG P Γ (U6 Γ (scB x) lab H KX y) (labC (scB x) (lab s)) (H s)) (ko:∀ e st',KX y e st'→GG P Γ K (outC e x) st')
  (hs:isScope x=true:=by kernel_rfl):GG P Γ K x st:=by
 cases x with
 | out e fs=>cases hs
 | run c fs=>
  cases c with
  | scope c=>
   refine awp_scope lab H f0 f KX (fun y hy=>Gr (k0 y hy)) (fun s y rest hf hy=>?_) hx fun e st' hk=>N8 (ko e st' hk);have:=kb s y hy;unfold labC scB at this;rw[hf]at this;exact Gr this
  | _=>cases hs
theorem gJn{S X:Type}{x:It}{st:St}{c:Code}{lab:S→Nat}{H:S→St}{KX:X→Exit→St→Prop}{s':S}(h:Le Γ st (H s'))(hx:x = .out (.goto (lab s')) []:=by kernel_rfl)(hf:(findLabel c (lab s')).isSome=true:=by kernel_rfl) :
  GG P Γ (U6 Γ c lab H KX (.next s')) x st:=by
 subst hx;exact⟨rfl,hf,h⟩
theorem gJo{S X:Type}{x:It}{st:St}{c:Code}{lab:S→Nat}{H:S→St}{KX:X→Exit→St→Prop}{y:X}{e:Exit}(h:KX y e st)(hx:x = .out e []:=by kernel_rfl)
  (hf:(match e with | .goto l=>(findLabel c l).isNone|_=>true)=true:=by kernel_rfl):GG P Γ (U6 Γ c lab H KX (.done y)) x st:=by
 subst hx;refine⟨?_,h⟩;rintro l rfl
 simpa using hf
theorem M8{α:Type}{st:St}(U:α→St→St){a b:α}(h:a=b)(h1:st=U a st:=by kernel_rfl):Le Γ st (U b st):=by subst h;exact leq_of h1
theorem leB{st:St}(F F':Bool→St→St)(g:Bool)(h1:st=F g st:=by kernel_rfl)(ht:F true st=F' true st:=by kernel_rfl)(hf:F false st=F' false st:=by kernel_rfl):Le Γ st (F' g st):=by
 refine leq_of (h1.trans ?_)
 cases g<;>assumption
def Own.withF(g:Nat→List AV):Own→Own
 | .arr sz e n _=>.arr sz e n g
 | o=>o
def arrAt(st:St)(nm:Nat):Option (Nat×(Nat→List AV)):=match Ae st.own nm with|some (.arr _ _ n f)=>some (n,f)|_=>none
def setF(nm:Nat)(g:Nat→List AV)(st:St):St:=⟨st.tmps,(match Ae st.own nm with|some o=>Ch st.own nm (o.withF g)|none=>st.own),st.fam⟩
theorem Vs{nm sz n:Nat}{e:TypeId}{f g:Nat→List AV}(hp:∀ k,k<n→AVleL (f k) (g k)):∀{l:List (Nat×Own)},Ae l nm=some (.arr sz e n f)→OwnsLe l (Ch l nm (.arr sz e n g))
 | [],h=>by cases h
 | (k,o)::l,h=>by
  simp only[Ae]at h;simp only[Ch]
  cases hb:Nat.beq k nm with
  | true=>
   obtain rfl:=Nat.eq_of_beq_eq_true hb;rw[hb]at h;simp only[cond_true,Option.some.injEq]at h;subst h;exact .arr hp (.refl _)
  | false=>
   rw[hb]at h;exact .same (Vs hp h)
theorem Ph{st:St}(nm:Nat){n:Nat}{f g:Nat→List AV}(hp:∀ k,k<n→AVleL (f k) (g k))(h:arrAt st nm=some (n,f):=by kernel_rfl):Le Γ st (setF nm g st):=by
 unfold arrAt at h;unfold setF
 cases ho:Ae st.own nm with
 | none=>rw[ho]at h;cases h
 | some o=>
  rw[ho]at h
  cases o with
  | arr sz e n' f'=>
   simp only[Option.some.injEq,Prod.mk.injEq]at h;obtain⟨rfl,rfl⟩:=h;exact M9 (TmpsLe.refl _) (Vs hp ho)
  | _=>cases h
def cellAt(st:St)(nm j:Nat):Option AV:=match Ae st.own nm with|some (.row _ cells)=>cells[j]? | _=>none
def Own.withC(j:Nat)(x:AV):Own→Own
 | .row e cells=>.row e (cells.set j x)
 | o=>o
def setC(nm j:Nat)(x:AV)(st:St):St:=⟨st.tmps,(match Ae st.own nm with|some o=>Ch st.own nm (o.withC j x)|none=>st.own),st.fam⟩
theorem leL_set{a b:AV}(h:AVle a b):∀{l:List AV} {j:Nat},l[j]?=some a→AVleL l (l.set j b)
 | [],j,h=>by simp at h
 | x::l,0,h'=>by
  simp only[List.getElem?_cons_zero,Option.some.injEq]at h';subst h';exact .cons h (.refl _)
 | x::l,j+1,h'=>by
  simp only[List.getElem?_cons_succ]at h';exact .cons (.refl _) (leL_set h h')
theorem Vt{nm:Nat}{e:TypeId}{x y:List AV}(hp:AVleL x y):∀{l:List (Nat×Own)},Ae l nm=some (.row e x)→OwnsLe l (Ch l nm (.row e y))
 | [],h=>by cases h
 | (k,o)::l,h=>by
  simp only[Ae]at h;simp only[Ch]
  cases hb:Nat.beq k nm with
  | true=>
   obtain rfl:=Nat.eq_of_beq_eq_true hb;rw[hb]at h;simp only[cond_true,Option.some.injEq]at h;subst h;exact .row hp (.refl _)
  | false=>
   rw[hb]at h;exact .same (Vt hp h)
theorem leC{st:St}(nm j:Nat){a b:AV}(hp:AVle a b)(h:cellAt st nm j=some a:=by kernel_rfl):Le Γ st (setC nm j b st):=by
 unfold cellAt at h;unfold setC
 cases ho:Ae st.own nm with
 | none=>rw[ho]at h;cases h
 | some o=>
  rw[ho]at h
  cases o with
  | row e cells=>exact M9 (TmpsLe.refl _) (Vt (leL_set hp h) ho)
  | _=>cases h
theorem permN_nil{V:Type}:Yd ([]:List (Int×V)) []:=⟨.nil,List.nodup_nil⟩
def setOb(nm:Nat)(x:AObj)(st:St):St:=⟨st.tmps,Ch st.own nm (.obj x),st.fam⟩
theorem leP{V:Type}{st:St}(nm:Nat)(nn:Bool)(k:IntKind){f:V→AV}{a b:List (Int×V)}(hp:Yd a b)(h:Ae st.own nm=some (.obj (.map nn k (mapE f a))):=by kernel_rfl)(hlt:Nat.blt nm A1=true:=by kernel_rfl):Le Γ st (setOb nm (.pmap nn k (mapE f b)) st):=
 Zc _ h (fun _ _ _ _ h=>objAt_perm hp h) hlt
theorem leQ{st:St}(nm:Nat)(k:IntKind)(l:List (Int×AV))(h:Ae st.own nm=some (.obj (.pmap true k l)):=by kernel_rfl)(hlt:Nat.blt nm A1=true:=by kernel_rfl):Le Γ st (setOb nm (.pmap false k l) st):=
 Zc _ h (fun _ _ _ _ h=>objAt_pnn h) hlt
theorem gI(g:Bool):g=true→g=true:=id
theorem Kx(c:Bool):c=true→(c==true)=true:=gT
theorem Wu(c:Bool):c=false→(c==false)=true:=gF
theorem Dy{α:Type}(sz:Nat)(e:α→List AV)(d:α)(l:List α):AVle (.slice sz l.length (fun i=>(l.map e).getD i []) .exact) (AV.list sz e d l .exact):=av_lit rfl fun i h=>map_get l i h
theorem H0{α:Type}(sz:Nat)(e:α→List AV)(d:α):AVle (.slice 0 0 (fun _=>[]) .exact) (AV.list sz e d [] .exact):=Iv
theorem av_appX{α:Type}(sz nm:Nat)(e:α→List AV)(d:α)(l m:List α):AVle (.slice sz (l.length+m.length) (Ht l.length (fun i=>e (l.getD i d)) (fun i=>e (m.getD i d))) (.own nm)) (AV.list sz e d (l++m) (.own nm)):=av_app
def mapOk(x:It)(ix tx bx:Nat):Bool:=
 match x with
 | .run (.loop (.seq (.region _ ops false) _)) _=>
  match ops.toList with
  | [o1,o2]=>
   (match o1.op,o2.op with | .next (.tmp a) false,.extract (.tmp b) 0=>Nat.beq a ix&&Nat.beq b tx|_,_=>false) &&
   (match o1.dst,o2.dst,o1.guard,o2.guard with|some a,some b,none,none=>Nat.beq a tx&&Nat.beq b bx|_,_,_,_=>false)
  | _=>false
 | _=>false
def Ub:It→It
 | .run (.loop (.seq _ c)) _=>inC c []
 | x=>x
theorem gMQ{S X:Type}{x:It}{st:St}{n:Nat}{Hf:List (Nat×Own)}(q:RgQ P Γ n Hf){len:Nat}{f:Nat→S→Option (LR S X)}{g:S→Option (LR S X)}{s0:S}(Q:X→Prop)(hx:∀ τ:List Nat,τ.Perm (List.range len)→∃ x,Oj f g τ s0=some x∧Q x)(live names:List Nat)(H:St→List Nat→S→St)(KX:St→X→Exit→St→Prop)
  (ix tx bx nm mm:Nat) (nn:Bool) (km:IntKind) (l:List (Int×AV)) (lv2 nm2:List Nat)
  (h0:Ax live names st=H (Ax live names st) [] s0:=by kernel_rfl) (hc:mapOk x ix tx bx=true:=by kernel_rfl) (hb:(Nat.blt tx n&&(Nat.blt bx n&&(Nat.blt nm A1&&Nat.blt mm A1)))=true:=by kernel_rfl)
  (hit:(fun z s=>(H (Ax live names st) z s).get ix)=(fun _ _=>AV.optr nm mm):=by kernel_rfl) (hmi:(fun z s=>Ae (H (Ax live names st) z s).own nm)=(fun z _=>some (.obj (.miter (.omap mm) len z))):=by kernel_rfl)
  (hma:(fun z s=>Ae (H (Ax live names st) z s).own mm)=(fun _ _=>some (.obj (.map nn km l))):=by kernel_rfl) (hlen:len=l.length:=by kernel_rfl) (hh:(Hf.all fun x=>Cu x.1 names)=true:=by kernel_rfl) (hh2:(Hf.all fun x=>Cu x.1 nm2)=true:=by kernel_rfl)
  (kd:∀ z s y,g s=some y→(∀ i,i<len→i∈z)→GG P Γ (Ls Γ (H (Ax live names st) z) (KX (Ax live names st)) y) (Ub x) (Ax lv2 nm2 (((H (Ax live names st) z s).upd (some tx) (.tuple [.bool false]) []).upd (some bx) (.bool false) [])))
  (kn:∀ z s i y,f i s=some y→i<len→i∉z→GG P Γ (Ls Γ (H (Ax live names st) (i::z)) (KX (Ax live names st)) y) (Ub x)
   (Ax lv2 nm2 (((H (Ax live names st) z s).upd (some tx) (.tuple [.bool true,.int km (l.getD i (0,.any)).1,(l.getD i (0,.any)).2]) [(nm,.obj (.miter (.omap mm) len (i::z)))]).upd (some bx) (.bool true) [])))
  (ko:∀ y,Q y→∀ e st',KX (Ax live names st) y e st'→GG P Γ K (outC e x) st'):GG P Γ K x st:=by
 unfold mapOk at hc
 split at hc
 ·rename_i id ops rest fs
  split at hc
  ·rename_i o1 o2 hops
   obtain rfl:ops = #[o1,o2]:=by apply Array.ext';simpa using hops
   simp only[Bool.and_eq_true]at hc;obtain⟨c1,c2⟩:=hc
   split at c1
   ·rename_i a b e1 e2
    split at c2
    ·rename_i a' b' e3 e4 e5 e6
     simp only[Bool.and_eq_true]at c1 c2;obtain rfl:=Nat.eq_of_beq_eq_true c1.1;obtain rfl:=Nat.eq_of_beq_eq_true c1.2;obtain rfl:=Nat.eq_of_beq_eq_true c2.1;obtain rfl:=Nat.eq_of_beq_eq_true c2.2;refine awp_le (st':=H (Ax live names st) [] s0) ?_ (awp_rangemQ Q len (H (Ax live names st)) f g (KX (Ax live names st)) (fun z s hg hf=>?_) hx fun y hy e st' hk=>N8 (ko y hy e st' hk))
     ·rw[← h0];exact Ej live names q rfl hh
     refine Y1 (awp_nextm q lv2 nm2 e1 e3 e5 e2 e4 e6 hb (congrFun (congrFun hit z) s) (congrFun (congrFun hmi z) s) (congrFun (congrFun hma z) s) hlen hh2 (fun hall=>?_) (fun i hi hn=>?_))
     ·obtain⟨y,h⟩:=hg hall;exact Up (Gr (kd z s y h hall)) (fun e st' hk=>.inl ⟨y,h,hk,hall⟩)
     ·obtain⟨y,h⟩:=hf i hi hn;exact Up (Gr (kn z s i y h hi hn)) (fun e st' hk=>.inr ⟨i,y,h,hk,hi,hn⟩)
    ·cases c2
   ·cases c1
  ·cases hc
 ·cases hc
theorem gMP{S X:Type}{x:It}{st:St}{n:Nat}{Hf:List (Nat×Own)}(q:RgQ P Γ n Hf){len:Nat}{f:Nat→S→Option (LR S X)}{g:S→Option (LR S X)}{s0:S}{eqv:X→X→Prop}{y:X}(hx:Qc eqv len f g s0=some y)(live names:List Nat)(H:St→List Nat→S→St)(KX:St→X→Exit→St→Prop)
  (ix tx bx nm mm:Nat) (nn:Bool) (km:IntKind) (l:List (Int×AV)) (lv2 nm2:List Nat)
  (h0:Ax live names st=H (Ax live names st) [] s0:=by kernel_rfl) (hc:mapOk x ix tx bx=true:=by kernel_rfl) (hb:(Nat.blt tx n&&(Nat.blt bx n&&(Nat.blt nm A1&&Nat.blt mm A1)))=true:=by kernel_rfl)
  (hit:(fun z s=>(H (Ax live names st) z s).get ix)=(fun _ _=>AV.optr nm mm):=by kernel_rfl) (hmi:(fun z s=>Ae (H (Ax live names st) z s).own nm)=(fun z _=>some (.obj (.miter (.omap mm) len z))):=by kernel_rfl)
  (hma:(fun z s=>Ae (H (Ax live names st) z s).own mm)=(fun _ _=>some (.obj (.map nn km l))):=by kernel_rfl) (hlen:len=l.length:=by kernel_rfl) (hh:(Hf.all fun x=>Cu x.1 names)=true:=by kernel_rfl) (hh2:(Hf.all fun x=>Cu x.1 nm2)=true:=by kernel_rfl)
  (kd:∀ z s y,g s=some y→(∀ i,i<len→i∈z)→GG P Γ (Ls Γ (H (Ax live names st) z) (KX (Ax live names st)) y) (Ub x) (Ax lv2 nm2 (((H (Ax live names st) z s).upd (some tx) (.tuple [.bool false]) []).upd (some bx) (.bool false) [])))
  (kn:∀ z s i y,f i s=some y→i<len→i∉z→GG P Γ (Ls Γ (H (Ax live names st) (i::z)) (KX (Ax live names st)) y) (Ub x)
   (Ax lv2 nm2 (((H (Ax live names st) z s).upd (some tx) (.tuple [.bool true,.int km (l.getD i (0,.any)).1,(l.getD i (0,.any)).2]) [(nm,.obj (.miter (.omap mm) len (i::z)))]).upd (some bx) (.bool true) [])))
  (ko:∀ y',eqv y' y→∀ e st',KX (Ax live names st) y' e st'→GG P Γ K (outC e x) st'):GG P Γ K x st:=
 gMQ q (fun y'=>eqv y' y) (Tc hx) live names H KX ix tx bx nm mm nn km l lv2 nm2 h0 hc hb hit hmi hma hlen hh hh2 kd kn ko
theorem E9{st st':St}(h:st=st':=by kernel_rfl):Le Γ st st':=h▸Le.refl Γ st
theorem ci{p q:Prop}(a:p)(b:q):p∧q:=⟨a,b⟩
theorem c1{p:Prop}(a:p):p∧True:=⟨a,trivial⟩
end
open Go.Shelf
def lays189_ren:Go.Shelf.Ren:=⟨fun|189=>99|125=>112|257=>111|128=>134|129=>135|294=>125|295=>126|296=>127|297=>128|298=>129|299=>130|216=>131|300=>132|301=>133|328=>142|329=>143|330=>144|331=>145|332=>146|215=>147|343=>148|n=>n,fun|28=>22|3=>3|46=>126|0=>0|51=>132|53=>45|4=>4|183=>141|182=>140|131=>144|5=>5|9=>9|218=>151|222=>155|228=>157|229=>76|n=>n,fun|n=>n⟩
theorem lays189:Go.Proofs.Lays.n189 Tryz.prog lays189_ren:={
 mixed:=by kernel_rfl
 f125:=Tryz.func112.trans (congrArg some (by kernel_rfl))
 f128:=Tryz.func134.trans (congrArg some (by kernel_rfl))
 f129:=Tryz.func135.trans (congrArg some (by kernel_rfl))
 f189:=Tryz.func99.trans (congrArg some (by kernel_rfl))
 f215:=Tryz.func147.trans (congrArg some (by kernel_rfl))
 f216:=Tryz.func131.trans (congrArg some (by kernel_rfl))
 f257:=Tryz.func111.trans (congrArg some (by kernel_rfl))
 f294:=Tryz.func125.trans (congrArg some (by kernel_rfl))
 f295:=Tryz.func126.trans (congrArg some (by kernel_rfl))
 f296:=Tryz.func127.trans (congrArg some (by kernel_rfl))
 f297:=Tryz.func128.trans (congrArg some (by kernel_rfl))
 f298:=Tryz.func129.trans (congrArg some (by kernel_rfl))
 f299:=Tryz.func130.trans (congrArg some (by kernel_rfl))
 f300:=Tryz.func132.trans (congrArg some (by kernel_rfl))
 f301:=Tryz.func133.trans (congrArg some (by kernel_rfl))
 f328:=Tryz.func142.trans (congrArg some (by kernel_rfl))
 f329:=Tryz.func143.trans (congrArg some (by kernel_rfl))
 f330:=Tryz.func144.trans (congrArg some (by kernel_rfl))
 f331:=Tryz.func145.trans (congrArg some (by kernel_rfl))
 f332:=Tryz.func146.trans (congrArg some (by kernel_rfl))
 f343:=Tryz.func148.trans (congrArg some (by kernel_rfl))
 t0:=Tryz.underlying0
 a0:=Tryz.isAgg0
 z0:=Tryz.sizeOf0
 v0:=Tryz.zeroValue0
 t3:=Tryz.underlying3
 a3:=Tryz.isAgg3
 z3:=Tryz.sizeOf3
 v3:=Tryz.zeroValue3
 t4:=Tryz.underlying4
 a4:=Tryz.isAgg4
 z4:=Tryz.sizeOf4
 v4:=Tryz.zeroValue4
 t5:=Tryz.underlying5
 a5:=Tryz.isAgg5
 z5:=Tryz.sizeOf5
 v5:=Tryz.zeroValue5
 t9:=Tryz.underlying9
 a9:=Tryz.isAgg9
 z9:=Tryz.sizeOf9
 v9:=Tryz.zeroValue9
 t28:=Tryz.underlying22
 a28:=Tryz.isAgg22
 z28:=Tryz.sizeOf22
 v28:=Tryz.zeroValue22
 t46:=Tryz.underlying126
 a46:=Tryz.isAgg126
 z46:=Tryz.sizeOf126
 v46:=Tryz.zeroValue126
 t51:=Tryz.underlying132
 a51:=Tryz.isAgg132
 z51:=Tryz.sizeOf132
 v51:=Tryz.zeroValue132
 t53:=Tryz.underlying45
 a53:=Tryz.isAgg45
 z53:=Tryz.sizeOf45
 v53:=Tryz.zeroValue45
 t131:=Tryz.underlying144
 a131:=Tryz.isAgg144
 z131:=Tryz.sizeOf144
 v131:=Tryz.zeroValue144
 t182:=Tryz.underlying140
 a182:=Tryz.isAgg140
 z182:=Tryz.sizeOf140
 v182:=Tryz.zeroValue140
 t183:=Tryz.underlying141
 a183:=Tryz.isAgg141
 z183:=Tryz.sizeOf141
 v183:=Tryz.zeroValue141
 t218:=Tryz.underlying151
 a218:=Tryz.isAgg151
 z218:=Tryz.sizeOf151
 v218:=Tryz.zeroValue151
 t222:=Tryz.underlying155
 a222:=Tryz.isAgg155
 z222:=Tryz.sizeOf155
 v222:=Tryz.zeroValue155
 t228:=Tryz.underlying157
 a228:=Tryz.isAgg157
 z228:=Tryz.sizeOf157
 v228:=Tryz.zeroValue157
 t229:=Tryz.underlying76
 a229:=Tryz.isAgg76
 z229:=Tryz.sizeOf76
 v229:=Tryz.zeroValue76 }
def Wv:Go.Shelf.Ren:=⟨fun|15=>98|n=>n,fun|22=>22|3=>3|4=>4|n=>n,fun|n=>n⟩
theorem R4:Go.Proofs.Lays2.n15 Tryz.prog Wv:={
 mixed:=by kernel_rfl
 f15:=Tryz.func98.trans (congrArg some (by kernel_rfl))
 t3:=Tryz.underlying3
 a3:=Tryz.isAgg3
 z3:=Tryz.sizeOf3
 v3:=Tryz.zeroValue3
 t4:=Tryz.underlying4
 a4:=Tryz.isAgg4
 z4:=Tryz.sizeOf4
 v4:=Tryz.zeroValue4
 t22:=Tryz.underlying22
 a22:=Tryz.isAgg22
 z22:=Tryz.sizeOf22
 v22:=Tryz.zeroValue22
 i3:=by kernel_rfl }
def Ww:Go.Shelf.Ren:=⟨fun|20=>100|n=>n,fun|22=>22|3=>3|4=>4|0=>0|n=>n,fun|n=>n⟩
theorem Xw:Go.Proofs.Lays2.n20 Tryz.prog Ww:={
 mixed:=by kernel_rfl
 f20:=Tryz.func100.trans (congrArg some (by kernel_rfl))
 t0:=Tryz.underlying0
 a0:=Tryz.isAgg0
 z0:=Tryz.sizeOf0
 v0:=Tryz.zeroValue0
 t3:=Tryz.underlying3
 a3:=Tryz.isAgg3
 z3:=Tryz.sizeOf3
 v3:=Tryz.zeroValue3
 t4:=Tryz.underlying4
 a4:=Tryz.isAgg4
 z4:=Tryz.sizeOf4
 v4:=Tryz.zeroValue4
 t22:=Tryz.underlying22
 a22:=Tryz.isAgg22
 z22:=Tryz.sizeOf22
 v22:=Tryz.zeroValue22
 i3:=by kernel_rfl }
open Go.Sort
section
variable {I:Nat→Nat→Prop} {θ:Nat→Option (Nat×Nat)} {w w':World}
theorem ownRel_nil(I:Nat→Nat→Prop)(θ:Nat→Option (Nat×Nat))(w:World):Fy I (Ae []) θ w:=
 ⟨(fun _ _ _ h=>by cases h),(fun _ _ _ _ h=>by cases h),(fun _ _ _ _ _ h=>(h rfl).elim),(fun _ _ _ _ _ h=>by cases h),(fun _ _ h=>by cases h),(fun _ _ _ h=>by cases h)⟩
theorem repL_one{own:Nat→Option Own}{zs:Array Value}{x:AV}(h:RepL I own θ w zs.toList [x]):∃ v,zs = #[v]∧Rep I own θ w v x:=by
 obtain⟨l⟩:=zs
 cases h with
 | cons h1 h2=>cases h2;exact⟨_,rfl,h1⟩
theorem Pm(hb:Below w.heap.size w w')(hval:∀ b o,I b o→∃ u,w.cell? ⟨b,o,none⟩=some u){N:Nat→Nat→Prop}(hN:∀ b o,N b o→w.heap.size≤b∧∃ u,w'.cell? ⟨b,o,none⟩=some u) :
  Chg (Ae []) θ I w (Ae []) θ (fun b o=>I b o∨N b o) w':=
 have hcell:∀ b o,I b o→w'.cell? ⟨b,o,none⟩=w.cell? ⟨b,o,none⟩:=fun b o hi=>by
  obtain⟨u,hu⟩:=hval b o hi;exact World.cell?_of_block (a:=⟨b,o,none⟩) (hb.block b (Jc hu))
 {imm:=fun _ _ h=>.inl h,cell:=hcell,le:=fun _ _ h=>(by cases h),rel:=ownRel_nil _ _ _,
  valid:=fun b o hi=>by
   rcases hi with hi|hi
   ·obtain⟨u,hu⟩:=hval b o hi;exact⟨u,(hcell b o hi).trans hu⟩
   ·exact(hN b o hi).2,
  os:=hb.os,tape:=hb.tape,output:=hb.output,drawn:=fun h=>h.elim,grow:=hb.size,frame:=fun b hlt _=>hb.block b hlt,new:=fun _ _ _ h=>(h rfl).elim,
  immNew:=fun b o hi=>by
   rcases hi with hi|hi
   ·exact .inl hi
   ·exact .inr (.inl (hN b o hi).1) }
end
theorem Qm{w W:World}{g n:Nat}{os:Array Obj}{d:Array Int}(hb:Below w.heap.size w W)(hg:w.heap.size≤g):Below w.heap.size w (grow (putRow (Value.int .i64) (Sort.ahead W n) g 0 d) os):=by
 have k:=grownBy_sortedI (w:=W) (g:=g) (n:=n) (os:=os) d;refine hb.trans ⟨k.os,k.tape,k.output,k.size,fun b hlt=>k.block b (Nat.lt_of_lt_of_le hlt hb.size) (fun e=>?_)⟩;have:=OI e;omega
def Yv(w W:World)(g cap n:Nat)(zs:List Int):Prop:=
 Below w.heap.size w W∧w.heap.size≤g∧∃ cur,W.heap[g]?=some (.cells cur 3 (0,0))∧n≤cap∧cap≤maxLen∧cur.size=cap∧cur.toList.take zs.length=zs.map (Value.int .i64)∧zs.length=n
theorem own3_of{w W:World}{v:Value}{n:Nat}{zs:List Int}(h:W.ownsRow w.heap.size 3 1 v n (zs.map (Value.int .i64)))(hne:v≠.slice none 0 0)(hb:Below w.heap.size w W):∃ g cap,v = .slice (some ⟨g,0,none⟩) n cap∧Yv w W g cap n zs:=by
 have hl:zs.length=n:=by have:=h.1;simpa using this
 rcases h.2 with⟨rfl,_⟩|⟨g,cap,cur,rfl,hg,hcur,hcap,hmax,hsz,ht⟩
 ·exact(hne rfl).elim
 ·rw[Nat.mul_one]at hsz ht;exact⟨g,cap,rfl,hb,hg,cur,hcur,hcap,hmax,hsz,by rw[hl];exact ht,hl⟩
theorem c_clone0(ad:Addr)(c:Nat)(w:World):Calls Tryz.prog 98 #[.slice (some ad) 0 c] w fun e W=>∃ g cap,e = .returned (.slice (some ⟨g,0,none⟩) 0 cap)∧Yv w W g cap 0 []:=
 (Any.slices_Clone_int_zero R4 ad c w).mono fun e W ⟨v,he,hown,hne,hb⟩=>by
  obtain⟨g,cap,rfl,h⟩:=own3_of (zs:=[]) hown hne hb;exact⟨g,cap,he,h⟩
theorem c_clone(b off n c:Nat)(zs:List Int)(w:World)(hz:zs.length=n)(hbig:n≤17592186044416)(hc:∀ j,j<n→w.cell? ⟨b,off+j,none⟩=some (.int .i64 (zs.getD j 0))) :
  Calls Tryz.prog 98 #[.slice (some ⟨b,off,none⟩) n c] w fun e W=>∃ g cap,e = .returned (.slice (some ⟨g,0,none⟩) n cap)∧Yv w W g cap n zs:=
 (Any.slices_Clone_int R4 b off n c zs w (by omega) (by omega) (fun j hj=>hc j (by omega))).mono fun e W ⟨v,he,hown,hne,hb⟩=>by
  rw[show zs.take n=zs by rw[← hz];exact List.take_length ..]at hown;obtain⟨g,cap,rfl,h⟩:=own3_of hown hne hb;exact⟨g,cap,he,h⟩
theorem c_sort{w W:World}{g cap n:Nat}{zs:List Int}(h:Yv w W g cap n zs)(hbig:n≤17592186044416):Calls Tryz.prog 99 #[.slice (some ⟨g,0,none⟩) n cap] W fun e W2=>e = .returned (.tuple #[])∧Yv w W2 g cap n (zs.mergeSort fun x y=>decide (x≤y)):=by
 obtain⟨hb,hg,cur,hcur,hcap,hmax,hsz,ht,rfl⟩:=h;refine(Any.slices_Sort_int lays189 g 0 cap zs W (holds_of_blockI hcur ht) (O2 hcur) (by omega)).mono fun e W2 ⟨he,q,os,hW⟩=>⟨he,?_⟩;subst hW;have hl:(zs.mergeSort fun x y=>decide (x≤y)).length=zs.length:=List.length_mergeSort ..;have b2:=Qm (n:=q) (os:=os) (d:=(zs.mergeSort fun x y=>decide (x≤y)).toArray) hb hg;exact⟨b2,hg,_,heap_sortedI _ hcur,hcap,hmax,by simp[putCells,hsz],take_putCellsI cur _ (by omega),hl⟩
theorem c_compact{w W:World}{g cap n:Nat}{zs:List Int}(h:Yv w W g cap n zs)(hbig:n≤17592186044416):Calls Tryz.prog 100 #[.slice (some ⟨g,0,none⟩) n cap] W fun e W2=>e = .returned (.slice (some ⟨g,0,none⟩) (Lib.compact zs).length cap)∧Yv w W2 g cap (Lib.compact zs).length (Lib.compact zs):=by
 obtain⟨hb,hg,cur,hcur,hcap,hmax,hsz,ht,rfl⟩:=h;refine(Any.slices_Compact_int Xw g 0 cap zs W (holds_of_blockI hcur ht) (by omega) hcap).mono fun e W2 ⟨he,q,hW⟩=>⟨he,?_⟩;subst hW;have hcl:=Lib.compact_length_le zs
 generalize Lib.compact zs=cs at hcl ⊢
 generalize hts:cs++List.replicate (zs.length-cs.length) (0:Int)=ts
 have htl:ts.length=zs.length:=by rw[← hts,List.length_append,List.length_replicate];omega
 have b2:=Qm (n:=q) (os:=#[]) (d:=ts.toArray) hb hg;have h2:=heap_sortedI (n:=q) (os:=#[]) ts.toArray hcur;rw[grow_empty]at b2 h2;have h3:=take_putCellsI cur ts (by omega);refine⟨b2,hg,_,h2,by omega,hmax,by simp[putCells,hsz],?_,rfl⟩;have:=congrArg (List.take cs.length) h3;rw[List.take_take,Nat.min_eq_left (by omega),← List.map_take,← hts,List.take_left' rfl]at this;rw[← hts];exact this
def IntsOut(w w':World)(v:Value)(r:List Int):Prop:=
 (v = .slice none 0 0∧r=[])∨∃ g cap,v = .slice (some ⟨g,0,none⟩) r.length cap∧Yv w w' g cap r.length r
set_option maxHeartbeats 4000000 in
set_option maxRecDepth 100000 in
theorem w_rising(a:Option Addr)(n c:Nat)(zs:List Int)(w:World)(hz:zs.length=n)(hn:a=none→n=0)(hbig:n≤17592186044416)
  (hc:0<n→∃ b off,a=some ⟨b,off,none⟩∧∀ j,j<n→w.cell? ⟨b,off+j,none⟩=some (.int .i64 (zs.getD j 0))) :
  Calls Tryz.prog 74 #[.slice a n c] w fun e w'=>∃ v,e = .returned v∧Below w.heap.size w w'∧IntsOut w w' v (Lib.compact (zs.mergeSort fun x y=>decide (x≤y))):=by
 cases a with
 | none=>
  obtain rfl:=hn rfl;obtain rfl:zs=[]:=List.length_eq_zero_iff.1 hz
  have hr:Lib.compact (([]:List Int).mergeSort fun x y=>decide (x≤y))=[]:=by simp[Lib.compact,Lib.compactUpTo]
  rw[hr];have h1:Calls Tryz.prog 98 #[.slice none 0 c] w fun e w'=>e = .returned (.slice none 0 0)∧w'=w:=Any.slices_Clone_int_nil R4 0 c w;have h2:Calls Tryz.prog 99 #[.slice none 0 0] w fun e w'=>e = .returned (.tuple #[])∧w'=w:=Any.slices_Sort_int_none lays189 none 0 w;have h3:Calls Tryz.prog 100 #[.slice none 0 0] w fun e w'=>e = .returned (.slice none 0 0)∧w'=w:=Any.slices_Compact_int_empty Xw none 0 w
  go_enter Tryz.func74,Tryz.ntmps74
  go_wp2_with (first
   | (go_at_call 98;refine h1.mono ?_;rintro e W ⟨rfl,rfl⟩)
   | (go_at_call 99;refine h2.mono ?_;rintro e W ⟨rfl,rfl⟩)
   | (go_at_call 100;refine h3.mono ?_;rintro e W ⟨rfl,rfl⟩))
  go_ret
  exact⟨_,rfl,Below.refl _ _,.inl ⟨rfl,rfl⟩⟩
 | some ad=>
  have h1:Calls Tryz.prog 98 #[.slice (some ad) n c] w fun e W=>∃ g cap,e = .returned (.slice (some ⟨g,0,none⟩) n cap)∧Yv w W g cap n zs:=by
   by_cases h0:n=0
   ·subst h0;obtain rfl:zs=[]:=List.length_eq_zero_iff.1 hz;exact c_clone0 ad c w
   ·obtain⟨b,off,hab,hcell⟩:=hc (by omega);obtain rfl:=OI hab;exact c_clone b off n c zs w hz hbig hcell
  go_enter Tryz.func74,Tryz.ntmps74
  go_wp2_with (first
   | (go_at_call 98;refine h1.mono ?_;rintro e W ⟨g,cap,rfl,hO⟩)
   | (go_at_call 99;refine(c_sort hO hbig).mono ?_;rintro e W2 ⟨rfl,hO2⟩)
   | (go_at_call 100;refine(c_compact hO2 hbig).mono ?_;rintro e W3 ⟨rfl,hO3⟩))
  go_ret
  exact⟨_,rfl,hO3.1,.inr ⟨_,_,rfl,hO3⟩⟩
def Rs(l:List Int):Option (List Int):=Cs (l.length≤17592186044416) (some (Lib.compact (l.mergeSort fun x y=>decide (x≤y))))
theorem xok_rising(l r:List Int)(h:Rs l=some r):Spec Tryz.prog 74 [AV.list 1 (fun x=>[.int .i64 x]) (0:Int) l .none] [] (AV.list 1 (fun x=>[.int .i64 x]) (0:Int) r .none) []:=by
 obtain⟨hlen,h⟩:=Aa h;obtain rfl:=OI h;refine⟨enters_of Tryz.func74 (by kernel_rfl) rfl,fun w I θ zs hargs _ hval _=>?_⟩;obtain⟨v,rfl,hv⟩:=repL_one hargs;obtain⟨_,a,cap,us,rfl,hcap,hmax,hz,hnn,h1,hl,hr⟩:=hv.slice_val.slice_inv
 have hint:∀ i,i<l.length→us i = .int .i64 (l.getD i 0):=fun i hi=>by
  have:=hr i 0 hi (by omega);rw[Nat.mul_one,Nat.add_zero]at this;have h2:RepV I w (us i) (.int .i64 (l.getD i 0)):=this;exact Rep.int_inv (own:=Ae []) (θ:=θ) (.val _ _ h2)
 refine(w_rising a l.length cap l w rfl (fun ha=>by have:=hnn ha;omega) hlen (fun hp=>?_)).mono fun e w' ⟨v,he,hb,hout⟩=>?_
 ·obtain⟨b,rfl,hs,_,hcell⟩:=hz hp;obtain⟨blk,off,spot⟩:=b;simp only at hs hcell;subst hs;exact⟨blk,off,rfl,fun j hj=>by rw[hcell j (by omega),hint j hj]⟩
 ·generalize Lib.compact (l.mergeSort fun x y=>decide (x≤y))=r at hout ⊢
  rcases hout with⟨rfl,rfl⟩|⟨g,cap',rfl,_,hg,cur,hcur,hc1,hc2,hc3,htake,_⟩
  ·exact⟨_,_,θ,he,Pm hb hval (N:=fun _ _=>False) (fun _ _ h=>h.elim),.val _ _ (.slice none 0 0 1 _ (fun _=>undef) (Nat.le_refl _) (Nat.zero_le _) (fun h=>by cases h) (fun _=>rfl) (fun j hj=>by simp at hj) (fun i hi=>by cases hi) (fun i c hi=>by cases hi))⟩
  ·have hcell:∀ j,j<r.length→w'.cell? ⟨g,j,none⟩=some (.int .i64 (r.getD j 0)):=fun j hj=>by
    rw[cell_of_row _ _ _ cur 3 (0,0) hcur]
    have h2:(cur.toList.take r.length)[j]?=(r.map (Value.int .i64))[j]?:=by rw[htake]
    rw[List.getElem?_take_of_lt hj,Array.getElem?_toList]at h2;rw[h2];simp[List.getD,hj]
   refine⟨_,_,θ,he,Pm hb hval (N:=fun b o=>b=g∧o<r.length) (fun b o ⟨hbg,ho⟩=>⟨by omega,by subst hbg;exact⟨_,hcell o ho⟩⟩),.val _ _ (.slice (some ⟨g,0,none⟩) r.length cap' 1 _ (fun j=>.int .i64 (r.getD j 0)) hc1 hc2 (fun _=>⟨⟨g,0,none⟩,rfl,rfl,fun j hj=>.inr ⟨rfl,by simpa using hj⟩,fun j hj=>by rw[Nat.zero_add];exact hcell j (by omega)⟩) (fun h=>by cases h) (fun _ _=>rfl) (fun _ _=>rfl) (fun i c hi hc=>?_))⟩
   obtain rfl:c=0:=by omega
   rw[Nat.mul_one,Nat.add_zero];exact .int _ _
set_option maxRecDepth 100000
set_option maxHeartbeats 2000000
def Ag(x:Int):List AV:=[(.int .i64 x)]
def Fm(x:List Int):List AV:=[(AV.list 1 Ag 0 x .none)]
structure Dx where
 Bits:Int
 Dst:Int
 From:List Int
 Args:List Int
 deriving Inhabited,DecidableEq
def Pn(x:Dx):List AV:=[(.int .i64 x.Bits),(.int .i64 x.Dst),(AV.list 1 Ag 0 x.From .none),(AV.list 1 Ag 0 x.Args .none)]
def eLTPhi(x:List Dx):List AV:=[(AV.list 4 Pn default x .none)]
def eU64(x:Int):List AV:=[(.int .u64 x)]
structure D4 where
 Kind:Int
 Bits:Int
 Lanes:Int
 Dst:Int
 Args:List Int
 Imm:Int
 deriving Inhabited,DecidableEq
def Ky(x:D4):List AV:=[(.int .i64 x.Kind),(.int .i64 x.Bits),(.int .i64 x.Lanes),(.int .i64 x.Dst),(AV.list 1 Ag 0 x.Args .none),(.int .u64 x.Imm)]
def eLTOp(x:List D4):List AV:=[(AV.list 6 Ky default x .none)]
structure Eo where
 Kind:Int
 Arg:Int
 To:List Int
 deriving Inhabited,DecidableEq
def eTEnd(x:Eo):List AV:=[(.int .i64 x.Kind),(.int .i64 x.Arg),(AV.list 1 Ag 0 x.To .none)]
structure Ab where
 Phis:List Dx
 Ops:List D4
 End:Eo
 deriving Inhabited,DecidableEq
def Au(x:Ab):List AV:=[(AV.list 4 Pn default x.Phis .none),(AV.list 6 Ky default x.Ops .none),(.int .i64 x.End.Kind),(.int .i64 x.End.Arg),(AV.list 1 Ag 0 x.End.To .none)]
def eLTBlock(x:List Ab):List AV:=[(AV.list 5 Au default x .none)]
structure TFunc where
 Params:List Int
 Ret:Int
 Blocks:List Ab
 deriving Inhabited,DecidableEq
def eTFunc(x:TFunc):List AV:=[(AV.list 1 Ag 0 x.Params .none),(.int .i64 x.Ret),(AV.list 5 Au default x.Blocks .none)]
def A4(x:(Int×Int)):List AV:=[(.int .i64 x.1),(.int .i64 x.2)]
structure Ez where
 block:Int
 at_:Int
 deriving Inhabited,DecidableEq
def T8(x:Ez):List AV:=[(.int .i64 x.block),(.int .i64 x.at_)]
structure Ah where
 v:Int
 shape:(Int×Int)
 place:Ez
 deriving Inhabited,DecidableEq
def Bz(x:Ah):List AV:=[(.int .i64 x.v),(.int .i64 x.shape.1),(.int .i64 x.shape.2),(.int .i64 x.place.block),(.int .i64 x.place.at_)]
structure B2 where
 Succ:List (List Int)
 Pred:List (List Int)
 deriving Inhabited,DecidableEq
def Mi(x:B2):List AV:=[(AV.list 1 Fm [] x.Succ .none),(AV.list 1 Fm [] x.Pred .none)]
def eB(x:Bool):List AV:=[(.bool x)]
structure Ac where
 shape:(Int×Int)
 place:Ez
 deriving Inhabited,DecidableEq
def C3(x:Ac):List AV:=[(.int .i64 x.shape.1),(.int .i64 x.shape.2),(.int .i64 x.place.block),(.int .i64 x.place.at_)]
structure Gy where
 V:Int
 Block:Int
 At:Int
 Shape:(Int×Int)
 deriving Inhabited,DecidableEq
structure Lw where
 V:Int
 Block:Int
 At:Int
 Shape:(Int×Int)
 deriving Inhabited,DecidableEq
theorem mix:Tryz.prog.follows .mixedOrders=true:=by kernel_rfl
def Z1:=fun za zb zc zd zf zg zm=>((30000,.row 59 [(AV.list 1 Ag 0 za .none),(.int .i64 zb),(AV.list 5 Au default zc .none),(.int .i64 zd),(AV.list 1 Ag 0 zf .none),(.omap zg),(AV.list 5 Bz default zm (.own 37006))]):Nat×Own)
def Z2:=fun za (zb:List Int)=>((za,.arr 1 3 zb.length (fun i=>Ag (zb.getD i 0))):Nat×Own)
def Z3:=fun za zb zc zd zf zg zm=>([(30000,.row 59 [(AV.list 1 Ag 0 za .none),(.int .i64 zb),(AV.list 5 Au default zc .none),(.int .i64 zd),(AV.list 1 Ag 0 zf .none),.nilm,(AV.list 5 Bz default zg (.own 37006))]),(37006,.tok 5 104 zm)]:List (Nat×Own))
def Z4:=fun za=>(⟨[],[],(AV.list 2 A4 ((0:Int),(0:Int)) za .none),[],[]⟩:Pf)
def Z5:=fun za zb zc zd zf zg zm zn zp=>([(Z1 za zb zc zd zf zg zm),(37006,.tok 5 104 zn),(zg,.obj (.map false .i64 zp))]:List (Nat×Own))
def Z6:=fun za=>(⟨[],[],(.bool za),[],[]⟩:Pf)
def Z7:=fun za zb zc zd zf zg=>((30000,.row 59 [(AV.list 1 Ag 0 za .none),(.int .i64 zb),(AV.list 5 Au default zc .none),(.int .i64 zd),(AV.list 1 Ag 0 zf .none),(.omap 8),(AV.list 5 Bz default zg (.own 37006))]):Nat×Own)
def Z8:=fun za zb zc zd zf zg zm=>([(Z1 za zb zc zd zf 9100005 zg),(37006,.tok 5 104 zm)]:List (Nat×Own))
def Z9:=((AV.list 1 Ag 0 ([]:List Int) .exact):AV)
def Z10:=fun za zb=>([(10,.arr 1 22 za (I8 1 Ag (0:Int) zb (Tag.fam 70010)))]:List (Nat×Own))
def Z11:=fun za (zb:List Int) (zc:List Int)=>((.slice 1 (bif za then zb.length else zc.length) (fun i=>bif za then Ag (zb.getD i 0) else Ag (zc.getD i 0)) .none):AV)
def Br:=fun za=>((.int .i64 za):AV)
def Z13:=((.agg [(.int .i64 (0:Int)),(.int .i64 (0:Int)),(.int .i64 (0:Int)),(.int .i64 (0:Int))]):AV)
def Tn:=fun za=>((AV.list 1 Ag 0 za .none):AV)
def Z15:=fun za zb zc zd zf zg zm zn=>(⟨[(30000,30000),(37006,37006),(9100005,9100005)],[],(.tuple []),(Z5 za zb zc zd zf 9100005 zg zm zn),[]⟩:Pf)
def Z16:=fun za (zb:List Ah) (zc:List Ah)=>((.slice 5 (bif za then zb.length else zc.length) (fun i=>bif za then Bz (zb.getD i default) else Bz (zc.getD i default)) (.own 37006)):AV)
def Z17:=fun za zb=>((.agg (C3 (Dh (default:Ac) za zb))):AV)
def Z18:=fun za=>((AV.list 1 Fm [] za .none):AV)
def Z19:=((AV.list 2 A4 ((0:Int),(0:Int)) ([]:List (Int×Int)) .exact):AV)
def Z20:=fun za=>((AV.list 5 Au default za .none):AV)
def Wn:=((.int .i64 (0:Int)):AV)
def Z22:=fun za=>((AV.list 1 Ag 0 ([za]:List Int) .exact):AV)
def Z23:=fun za (zb:List Ab) (zc:List Ab)=>((.slice 5 (bif za then zb.length else zc.length) (fun i=>bif za then Au (zb.getD i default) else Au (zc.getD i default)) .none):AV)
def Z24:=fun za zb zc zd zf zg zm zn zp=>(⟨[(30000,30000),(37006,37006),(9100005,9100005)],[],(.agg (T8 za)),(Z5 zb zc zd zf zg 9100005 zm zn zp),[]⟩:Pf)
def Tq:=fun za=>((37006,.tok 5 104 za):Nat×Own)
def Z0:=((2,(.ptr 2 0)):Nat×AV)
def Z27:=((.int .i64 (2:Int)):AV)
def Z28:=fun za (zb:List Int) (zc:List Int)=>((.slice 1 (bif (za==true) then zb.length else zc.length) (fun i=>bif (za==true) then Ag (zb.getD i 0) else Ag (zc.getD i 0)) .none):AV)
def Z29:=fun za zb zc=>(⟨[(4,(AV.list 1 Ag 0 za (.own zb)))],[(zb,.tok 1 3 zc)],[]⟩:St)
def Z30:=fun(za:List Bool)=>([(11,.arr 1 4 za.length (fun i=>eB (za.getD i false)))]:List (Nat×Own))
def Z31:=fun za zb zc zd zf zg zm zn zp=>(⟨[(30000,30000),(37006,37006),(9100005,9100005)],[],(.bool za),(Z5 zb zc zd zf zg 9100005 zm zn zp),[]⟩:Pf)
def Wo:=fun za=>((.agg (C3 za)):AV)
def Z33:=fun za zb=>((AV.list 1 Ag 0 za (.own zb)):AV)
def Z34:=fun(za:List Int)=>((6,.arr 1 112 64 (fun i=>Ag (za.getD i 0))):Nat×Own)
def Z35:=fun(za:List (Int×Int))=>([(30,.arr 2 35 za.length (fun i=>A4 (za.getD i ((0:Int),(0:Int)))))]:List (Nat×Own))
def Z36:=fun za zb zc=>((.int .i64 (bif za then zb else zc)):AV)
def Z37:=((AV.list 5 Bz default ([]:List Ah) .exact):AV)
def Z38:=((.slice 0 0 (fun _=>[]) .exact):AV)
def Z39:=((6,(.vpt 6 64 0 0)):Nat×AV)
def Z40:=fun za zb zc zd zf zg zm zn=>(⟨[(30000,30000),(37006,37006)],[],(.bool za),(Z3 zb zc zd zf zg zm zn),[]⟩:Pf)
def Z41:=fun za=>(⟨[],[],(.agg (A4 za)),[],[]⟩:Pf)
def Z42:=fun za=>((.agg (A4 za)):AV)
def Z43:=((5,(.vpt 5 64 0 0)):Nat×AV)
def Z44:=fun za=>((AV.list 5 Bz default ([]:List Ah) (.own za)):AV)
def Z45:=fun za=>(⟨[],[],(Br za),[],[]⟩:Pf)
def Z46:=(⟨[(4,(AV.list 1 Ag 0 ([]:List Int) (.own 6004)))],[(6004,.tok 1 3 (([]:List Int).length))],[]⟩:St)
def Z47:=fun za=>((6,.arr 1 112 64 za):Nat×Own)
def Z48:=fun za=>((.int .i64 (za:Int)):AV)
def Z49:=fun za=>((za,.tok 5 104 (([]:List Ah).length)):Nat×Own)
def Z50:=fun za zb zc=>([(1,(.ptr 1 0)),(3,(.ptr 3 0)),(4,(.ptr 4 0)),(5,(.ptr 5 0)),(6,(.ptr 6 0)),(18,(Br za)),(zb,(.bool zc))]:List (Nat×AV))
def Z51:=fun za=>((5,.arr 1 111 64 za):Nat×Own)
def Z52:=fun za zb=>([(7,(.vsl za zb))]:List (Nat×AV))
def Z53:=fun za=>((2,.row 67 za):Nat×Own)

def G2(a2:TFunc):(Int×Int)→Option (LR (Int×Int) Int):=
 fun((i1,i2):(Int×Int))=>(bif (decide (i2<(a2.Blocks.length:Int))) then(Cs (Cg i2 a2.Blocks.length) (some (.next ((A8 (i1+(A8 ((((a2.Blocks.getD i2.toNat default).Phis).length:Int)+(((a2.Blocks.getD i2.toNat default).Ops).length:Int))))),(A8 (i2+1)))))) else(some (.done i1)))
def Ji(a2:TFunc):Option Int:=
 ((Ak (G2 a2) ((a2.Blocks.length:Int),(0:Int))).bind (fun x5=>(some x5)))
theorem Zj(a2:TFunc)(r:Int)(h:Ji a2=some r):Spec Tryz.prog 68 [(.agg (eTFunc a2))] [] (.int .i64 r) []:=by
 refine Af mix Tryz.func68 (fun Γ hq=>?_);unfold Ji at h;refine Aj hq [1] [1] ?_;refine Aj hq [1,3] [1] ?_;refine Aj hq [3,10,11,12] [] ?_;obtain⟨x5,hx5,h⟩:=bind_some h;refine gL hq hx5 [3,10,11,12] [] (fun u (i1,i2)=>(Et u [(3,(Br i1)),(12,(Br i2))] [])) (fun u i3=>aG Γ (.exit 0) (⟨[(3,(Br i3))],[],[]⟩:St)) ?_ ?_
 ·rintro⟨i1,i2⟩ y h;unfold G2 at h;refine Aj hq [3,10,11,12,13] [] ?_;refine gC h (fun h=>?_) (fun h=>?_)
  ·obtain⟨hc4,h⟩:=Aa h;refine gR hq [3,5,10,11,12] [5] [] [] (c1 hc4) ?_;refine Aj hq [3,10,11,12] [] ?_;refine Aj hq [3,10,11,12] [] ?_;cases h;exact gN E9
  ·cases h;exact gO (Eb (Ej [3] [] hq))
 ·clear hx5;refine gA ?_;refine Aj hq [2] [] ?_;obtain rfl:=OI h;exact Du []
def En(aA:List Int):Int→Option (LR Int (Unit ⊕ Bool)):=
 fun(i1:Int)=>(bif (decide (i1<(aA.length:Int))) then(Cs (Cg i1 aA.length) (bif (bif (decide (((aA.getD i1.toNat 0):Int)<0)) then true else(decide (((2147483647:Int):Int)<(aA.getD i1.toNat 0)))) then(some (.done (.inr false))) else(some (.next (A8 (i1+1)))))) else(some (.done (.inl ()))))
def Qh(Γ:Ga)(aA:List Int)(r:Bool):Exit→St→Prop:=fK Tryz.prog Γ Tryz.f69.results.toList [] (.bool r) []
def Cj(aA:List Int):Option Bool:=
 ((Ak (En aA) (0:Int)).bind (fun x3=>(match x3 with|(.inl _)=>(some true)|(.inr r5)=>(some r5))))
theorem Eg(aA:List Int)(r:Bool)(h:Cj aA=some r):Spec Tryz.prog 69 [(AV.list 1 Ag 0 aA .none)] [] (.bool r) []:=by
 refine Af mix Tryz.func69 (fun Γ hq=>?_);unfold Cj at h;refine Aj hq [0] [] ?_;refine Aj hq [5,6,7] [] ?_;obtain⟨x3,hx3,h⟩:=bind_some h;refine gL hq hx3 [5,6,7] [] (fun u i1=>(Et u [(7,(Br i1))] [])) (fun u x_=>match x_ with|(.inl _)=>aG Γ (.exit 0) (⟨[],[],[]⟩:St)|(.inr r_)=>aR (Qh Γ aA r_)) ?_ ?_
 ·intro i1 y h;unfold En at h;refine Aj hq [5,6,7,8] [] ?_;refine gC h (fun h=>?_) (fun h=>?_)
  ·obtain⟨hc2,h⟩:=Aa h;refine gR hq [4,5,6,7] [] [] [] (c1 hc2) ?_;refine gR hq [5,6,7,16] [] [] [] (ci (gI ((decide (((aA.getD i1.toNat 0):Int)<0))==false)) (c1 (Wu (decide (((aA.getD i1.toNat 0):Int)<0))))) ?_;refine gC h (fun h=>?_) (fun h=>?_)
   ·refine Aj hq [2] [] ?_;cases h;exact gO (Pg (J6 [] (Le.refl _ _)))
   ·refine Aj hq [5,6,7] [] ?_;cases h;exact gN E9
  ·cases h;exact gO (Eb (Ej [] [] hq))
 ·clear hx3;rcases x3 with _|r5
  ·refine gA ?_;refine Aj hq [2] [] ?_;obtain rfl:=OI h;exact Du []
  ·refine R0 (fun st' hk=>?_);obtain rfl:=OI h;exact gK hk
def D5(aA:List Int):Option Bool:=
 ((bif ((decide (((aA.length:Int):Int)≤64))==true) then Cj aA else some false).bind fun x1=>(some (bif (decide (((aA.length:Int):Int)≤64)) then x1 else false)))
theorem Hm(aA:List Int)(r:Bool)(h:D5 aA=some r):Spec Tryz.prog 110 [(AV.list 1 Ag 0 aA .none)] [] (.bool r) []:=by
 refine Af mix Tryz.func110 (fun Γ hq=>?_);unfold D5 at h;refine Aj hq [0] [] ?_;obtain⟨x1,hx1,h⟩:=bind_some h;refine gR hq [2] [] [] [(Z6 x1)] (ci (gI ((decide (((aA.length:Int):Int)≤64))==true)) (ci (fun(hg:((decide (((aA.length:Int):Int)≤64))==true)=true)=>(Eg aA x1 (Dd hg hx1))) (c1 (Kx (decide (((aA.length:Int):Int)≤64)))))) ?_;cases h;exact Du []
def G4(aU:Dx):Option Bool:=
 ((Cj ([aU.Bits,aU.Dst]:List Int)).bind fun x1=>((bif (x1==true) then D5 aU.From else some false).bind fun x2=>((bif ((bif x1 then x2 else false)==true) then D5 aU.Args else some false).bind fun x3=>(some (bif (bif x1 then x2 else false) then x3 else false)))))
theorem Tu(aU:Dx)(r:Bool)(h:G4 aU=some r):Spec Tryz.prog 94 [(.agg (Pn aU))] [] (.bool r) []:=by
 refine Af mix Tryz.func94 (fun Γ hq=>?_);unfold G4 at h;refine Aj hq [1] [1] ?_;obtain⟨x1,hx1,h⟩:=bind_some h;obtain⟨x2,hx2,h⟩:=bind_some h;obtain⟨x3,hx3,h⟩:=bind_some h;refine gR hq [2] [] [(7,(AV.list 1 Ag 0 ([aU.Bits,aU.Dst]:List Int) .exact))] [(Z6 x1),(Z6 x2),(Z6 x3)] (ci (Dy 1 Ag (0:Int) ([aU.Bits,aU.Dst]:List Int)) (ci (Eg ([aU.Bits,aU.Dst]:List Int) x1 hx1) (ci (gI (x1==true)) (ci (gI (x1==true)) (ci (fun(hg:(x1==true)=true)=>(Hm aU.From x2 (Dd hg hx2))) (ci (Kx x1) (ci (gI ((bif x1 then x2 else false)==true)) (ci (gI ((bif x1 then x2 else false)==true)) (ci (fun(hg:((bif x1 then x2 else false)==true)=true)=>(Hm aU.Args x3 (Dd hg hx3))) (c1 (Kx (bif x1 then x2 else false)))))))))))) ?_;cases h;exact Du []
def De(aA:List Dx):Int→Option (LR Int (Unit ⊕ Bool)):=
 fun(i1:Int)=>(bif (decide (i1<(aA.length:Int))) then(Cs (Cg i1 aA.length) ((G4 (aA.getD i1.toNat default)).bind fun x3=>(bif (!x3) then(some (.done (.inr false))) else(some (.next (A8 (i1+1))))))) else(some (.done (.inl ()))))
def Ni(Γ:Ga)(aA:List Dx)(r:Bool):Exit→St→Prop:=fK Tryz.prog Γ Tryz.f93.results.toList [] (.bool r) []
def D9(aA:List Dx):Option Bool:=
 ((Ak (De aA) (0:Int)).bind (fun x4=>(match x4 with|(.inl _)=>(some true)|(.inr r6)=>(some r6))))
theorem Mu(aA:List Dx)(r:Bool)(h:D9 aA=some r):Spec Tryz.prog 93 [(AV.list 4 Pn default aA .none),(.clo 94 [] [])] [] (.bool r) []:=by
 refine Af mix Tryz.func93 (fun Γ hq=>?_);unfold D9 at h;refine Aj hq [0,1] [] ?_;refine Aj hq [1,7,8,9] [] ?_;obtain⟨x4,hx4,h⟩:=bind_some h;refine gL hq hx4 [1,7,8,9] [] (fun u i1=>(Et u [(9,(Br i1))] [])) (fun u x_=>match x_ with|(.inl _)=>aG Γ (.exit 0) (⟨[],[],[]⟩:St)|(.inr r_)=>aR (Ni Γ aA r_)) ?_ ?_
 ·intro i1 y h;unfold De at h;refine Aj hq [1,7,8,9,10] [] ?_;refine gC h (fun h=>?_) (fun h=>?_)
  ·obtain⟨hc2,h⟩:=Aa h;refine gR hq [1,6,7,8,9] [6] [] [] (c1 hc2) ?_;obtain⟨x3,hx3,h⟩:=bind_some h;refine gR hq [1,7,8,9,16] [] [] [(Z6 x3)] (c1 (Tu (aA.getD i1.toNat default) x3 hx3)) ?_;refine gC h (fun h=>?_) (fun h=>?_)
   ·refine Aj hq [4] [] ?_;cases h;exact gO (Pg (J6 [] (Le.refl _ _)))
   ·refine Aj hq [1,7,8,9] [] ?_;cases h;exact gN E9
  ·cases h;exact gO (Eb (Ej [] [] hq))
 ·clear hx4;rcases x4 with _|r6
  ·refine gA ?_;refine Aj hq [4] [] ?_;obtain rfl:=OI h;exact Du []
  ·refine R0 (fun st' hk=>?_);obtain rfl:=OI h;exact gK hk
def Hv(a0:D4):Option Bool:=
 ((Cj ([a0.Kind,a0.Bits,a0.Lanes,a0.Dst]:List Int)).bind fun x1=>((bif (x1==true) then D5 a0.Args else some false).bind fun x2=>(some (bif x1 then x2 else false))))
theorem Vj(a0:D4)(r:Bool)(h:Hv a0=some r):Spec Tryz.prog 96 [(.agg (Ky a0))] [] (.bool r) []:=by
 refine Af mix Tryz.func96 (fun Γ hq=>?_);unfold Hv at h;refine Aj hq [1] [1] ?_;obtain⟨x1,hx1,h⟩:=bind_some h;obtain⟨x2,hx2,h⟩:=bind_some h;refine gR hq [2] [] [(11,(AV.list 1 Ag 0 ([a0.Kind,a0.Bits,a0.Lanes,a0.Dst]:List Int) .exact))] [(Z6 x1),(Z6 x2)] (ci (Dy 1 Ag (0:Int) ([a0.Kind,a0.Bits,a0.Lanes,a0.Dst]:List Int)) (ci (Eg ([a0.Kind,a0.Bits,a0.Lanes,a0.Dst]:List Int) x1 hx1) (ci (gI (x1==true)) (ci (gI (x1==true)) (ci (fun(hg:(x1==true)=true)=>(Hm a0.Args x2 (Dd hg hx2))) (c1 (Kx x1))))))) ?_;cases h;exact Du []
def Dr(aA:List D4):Int→Option (LR Int (Unit ⊕ Bool)):=
 fun(i1:Int)=>(bif (decide (i1<(aA.length:Int))) then(Cs (Cg i1 aA.length) ((Hv (aA.getD i1.toNat default)).bind fun x3=>(bif (!x3) then(some (.done (.inr false))) else(some (.next (A8 (i1+1))))))) else(some (.done (.inl ()))))
def Nt(Γ:Ga)(aA:List D4)(r:Bool):Exit→St→Prop:=fK Tryz.prog Γ Tryz.f95.results.toList [] (.bool r) []
def Em(aA:List D4):Option Bool:=
 ((Ak (Dr aA) (0:Int)).bind (fun x4=>(match x4 with|(.inl _)=>(some true)|(.inr r6)=>(some r6))))
theorem Np(aA:List D4)(r:Bool)(h:Em aA=some r):Spec Tryz.prog 95 [(AV.list 6 Ky default aA .none),(.clo 96 [] [])] [] (.bool r) []:=by
 refine Af mix Tryz.func95 (fun Γ hq=>?_);unfold Em at h;refine Aj hq [0,1] [] ?_;refine Aj hq [1,7,8,9] [] ?_;obtain⟨x4,hx4,h⟩:=bind_some h;refine gL hq hx4 [1,7,8,9] [] (fun u i1=>(Et u [(9,(Br i1))] [])) (fun u x_=>match x_ with|(.inl _)=>aG Γ (.exit 0) (⟨[],[],[]⟩:St)|(.inr r_)=>aR (Nt Γ aA r_)) ?_ ?_
 ·intro i1 y h;unfold Dr at h;refine Aj hq [1,7,8,9,10] [] ?_;refine gC h (fun h=>?_) (fun h=>?_)
  ·obtain⟨hc2,h⟩:=Aa h;refine gR hq [1,6,7,8,9] [6] [] [] (c1 hc2) ?_;obtain⟨x3,hx3,h⟩:=bind_some h;refine gR hq [1,7,8,9,16] [] [] [(Z6 x3)] (c1 (Vj (aA.getD i1.toNat default) x3 hx3)) ?_;refine gC h (fun h=>?_) (fun h=>?_)
   ·refine Aj hq [4] [] ?_;cases h;exact gO (Pg (J6 [] (Le.refl _ _)))
   ·refine Aj hq [1,7,8,9] [] ?_;cases h;exact gN E9
  ·cases h;exact gO (Eb (Ej [] [] hq))
 ·clear hx4;rcases x4 with _|r6
  ·refine gA ?_;refine Aj hq [4] [] ?_;obtain rfl:=OI h;exact Du []
  ·refine R0 (fun st' hk=>?_);obtain rfl:=OI h;exact gK hk
def G3(aC:Eo):Option Bool:=
 ((Cj ([aC.Kind,aC.Arg]:List Int)).bind fun x1=>((bif (x1==true) then D5 aC.To else some false).bind fun x2=>(some (bif x1 then x2 else false))))
theorem Tt(aC:Eo)(r:Bool)(h:G3 aC=some r):Spec Tryz.prog 97 [(.agg (eTEnd aC))] [] (.bool r) []:=by
 refine Af mix Tryz.func97 (fun Γ hq=>?_);unfold G3 at h;refine Aj hq [1] [1] ?_;obtain⟨x1,hx1,h⟩:=bind_some h;obtain⟨x2,hx2,h⟩:=bind_some h;refine gR hq [2] [] [(7,(AV.list 1 Ag 0 ([aC.Kind,aC.Arg]:List Int) .exact))] [(Z6 x1),(Z6 x2)] (ci (Dy 1 Ag (0:Int) ([aC.Kind,aC.Arg]:List Int)) (ci (Eg ([aC.Kind,aC.Arg]:List Int) x1 hx1) (ci (gI (x1==true)) (ci (gI (x1==true)) (ci (fun(hg:(x1==true)=true)=>(Hm aC.To x2 (Dd hg hx2))) (c1 (Kx x1))))))) ?_;cases h;exact Du []
def F1(aI:Ab):Option Bool:=
 ((D9 aI.Phis).bind fun x1=>((bif (x1==true) then Em aI.Ops else some false).bind fun x2=>((bif ((bif x1 then x2 else false)==true) then G3 (⟨aI.End.Kind,aI.End.Arg,aI.End.To⟩:Eo) else some false).bind fun x3=>(some (bif (bif x1 then x2 else false) then x3 else false)))))
theorem Rf(aI:Ab)(r:Bool)(h:F1 aI=some r):Spec Tryz.prog 71 [(.agg (Au aI))] [] (.bool r) []:=by
 refine Af mix Tryz.func71 (fun Γ hq=>?_);unfold F1 at h;refine Aj hq [1] [1] ?_;obtain⟨x1,hx1,h⟩:=bind_some h;obtain⟨x2,hx2,h⟩:=bind_some h;obtain⟨x3,hx3,h⟩:=bind_some h;refine gR hq [2] [] [] [(Z6 x1),(Z6 x2),(Z6 x3)] (ci (Mu aI.Phis x1 hx1) (ci (gI (x1==true)) (ci (gI (x1==true)) (ci (fun(hg:(x1==true)=true)=>(Np aI.Ops x2 (Dd hg hx2))) (ci (Kx x1) (ci (gI ((bif x1 then x2 else false)==true)) (ci (gI ((bif x1 then x2 else false)==true)) (ci (fun(hg:((bif x1 then x2 else false)==true)=true)=>(Tt (⟨aI.End.Kind,aI.End.Arg,aI.End.To⟩:Eo) x3 (Dd hg hx3))) (c1 (Kx (bif x1 then x2 else false))))))))))) ?_;cases h;exact Du []
def Cy(aA:List Ab):Int→Option (LR Int (Unit ⊕ Bool)):=
 fun(i1:Int)=>(bif (decide (i1<(aA.length:Int))) then(Cs (Cg i1 aA.length) ((F1 (aA.getD i1.toNat default)).bind fun x3=>(bif (!x3) then(some (.done (.inr false))) else(some (.next (A8 (i1+1))))))) else(some (.done (.inl ()))))
def Lv(Γ:Ga)(aA:List Ab)(r:Bool):Exit→St→Prop:=fK Tryz.prog Γ Tryz.f70.results.toList [] (.bool r) []
def Dq(aA:List Ab):Option Bool:=
 ((Ak (Cy aA) (0:Int)).bind (fun x4=>(match x4 with|(.inl _)=>(some true)|(.inr r6)=>(some r6))))
theorem Lp(aA:List Ab)(r:Bool)(h:Dq aA=some r):Spec Tryz.prog 70 [(AV.list 5 Au default aA .none),(.clo 71 [] [])] [] (.bool r) []:=by
 refine Af mix Tryz.func70 (fun Γ hq=>?_);unfold Dq at h;refine Aj hq [0,1] [] ?_;refine Aj hq [1,7,8,9] [] ?_;obtain⟨x4,hx4,h⟩:=bind_some h;refine gL hq hx4 [1,7,8,9] [] (fun u i1=>(Et u [(9,(Br i1))] [])) (fun u x_=>match x_ with|(.inl _)=>aG Γ (.exit 0) (⟨[],[],[]⟩:St)|(.inr r_)=>aR (Lv Γ aA r_)) ?_ ?_
 ·intro i1 y h;unfold Cy at h;refine Aj hq [1,7,8,9,10] [] ?_;refine gC h (fun h=>?_) (fun h=>?_)
  ·obtain⟨hc2,h⟩:=Aa h;refine gR hq [1,6,7,8,9] [6] [] [] (c1 hc2) ?_;obtain⟨x3,hx3,h⟩:=bind_some h;refine gR hq [1,7,8,9,16] [] [] [(Z6 x3)] (c1 (Rf (aA.getD i1.toNat default) x3 hx3)) ?_;refine gC h (fun h=>?_) (fun h=>?_)
   ·refine Aj hq [4] [] ?_;cases h;exact gO (Pg (J6 [] (Le.refl _ _)))
   ·refine Aj hq [1,7,8,9] [] ?_;cases h;exact gN E9
  ·cases h;exact gO (Eb (Ej [] [] hq))
 ·clear hx4;rcases x4 with _|r6
  ·refine gA ?_;refine Aj hq [4] [] ?_;obtain rfl:=OI h;exact Du []
  ·refine R0 (fun st' hk=>?_);obtain rfl:=OI h;exact gK hk
def Q2(a2:TFunc):=(decide (((a2.Blocks.length:Int):Int)<1))
def Q1(a2:TFunc):=(decide (((16:Int):Int)<(a2.Params.length:Int)))
def Kh(a2:TFunc):Option Bool:=
 (bif (bif (decide (((a2.Blocks.length:Int):Int)<1)) then true else(decide (((64:Int):Int)<(a2.Blocks.length:Int)))) then(some false) else((bif ((decide (((16:Int):Int)<(a2.Params.length:Int)))==false) then Ji a2 else some (0:Int)).bind fun x1=>(bif (bif (decide (((16:Int):Int)<(a2.Params.length:Int))) then true else(decide (((512:Int):Int)<x1))) then(some false) else((Cj a2.Params).bind fun x2=>((bif (x2==true) then Cj ([a2.Ret]:List Int) else some false).bind fun x3=>((bif ((bif x2 then x3 else false)==true) then Dq a2.Blocks else some false).bind fun x4=>(some (bif (bif x2 then x3 else false) then x4 else false))))))))
theorem ok_code_May(a2:TFunc)(r:Bool)(h:Kh a2=some r):Spec Tryz.prog 48 [(.agg (eTFunc a2))] [] (.bool r) []:=by
 refine Af mix Tryz.func48 (fun Γ hq=>?_);unfold Kh at h;refine Aj hq [1] [1] ?_;refine gR hq [1,12] [1] [] [] (ci (gI ((Q2 a2)==false)) (ci (gI ((Q2 a2)==false)) (ci (gI ((Q2 a2)==false)) (c1 (Wu (Q2 a2)))))) ?_;refine gC h (fun h=>?_) (fun h=>?_)
 ·refine Aj hq [2] [] ?_;obtain rfl:=OI h;exact Du []
 ·obtain⟨x1,hx1,h⟩:=bind_some h;refine gR hq [1,21] [1] [] [(Z45 x1)] (ci (gI ((Q1 a2)==false)) (ci (fun(hg:((Q1 a2)==false)=true)=>(Zj a2 x1 (Dd hg hx1))) (ci (gI ((Q1 a2)==false)) (c1 (Wu (Q1 a2)))))) ?_;refine gC h (fun h=>?_) (fun h=>?_)
  ·refine Aj hq [2] [] ?_;obtain rfl:=OI h;exact Du []
  ·obtain⟨x2,hx2,h⟩:=bind_some h;obtain⟨x3,hx3,h⟩:=bind_some h;obtain⟨x4,hx4,h⟩:=bind_some h;refine gR hq [2] [] [(28,(Z22 a2.Ret))] [(Z6 x2),(Z6 x3),(Z6 x4)] (ci (Eg a2.Params x2 hx2) (ci (gI (x2==true)) (ci (gI (x2==true)) (ci (show((x2==true)=true→(AVle (.slice 1 1 (fun i=>([[(Br a2.Ret)]]:List (List AV)).getD i []) .exact) (Z22 a2.Ret))) from(fun hg=>@(Dy 1 Ag (0:Int) ([a2.Ret]:List Int)))) (ci (gI (x2==true)) (ci (fun(hg:(x2==true)=true)=>(Eg ([a2.Ret]:List Int) x3 (Dd hg hx3))) (ci (Kx x2) (ci (gI ((bif x2 then x3 else false)==true)) (ci (gI ((bif x2 then x3 else false)==true)) (ci (fun(hg:((bif x2 then x3 else false)==true)=true)=>(Lp a2.Blocks x4 (Dd hg hx4))) (c1 (Kx (bif x2 then x3 else false))))))))))))) ?_;cases h;exact Du []
def F0(aa7:Bool)(aC:Int):Option Int:=
 (bif aa7 then(some (0:Int)) else(some aC))
theorem Na(aa7:Bool)(aC:Int)(r:Int)(h:F0 aa7 aC=some r):Spec Tryz.prog 47 [(.bool aa7),(.int .i64 aC)] [] (.int .i64 r) []:=by
 refine Af mix Tryz.func47 (fun Γ hq=>?_);unfold F0 at h;refine Aj hq [0,1] [] ?_;refine Aj hq [1,5] [] ?_;refine gC h (fun h=>?_) (fun h=>?_)
 ·refine Aj hq [4] [] ?_;cases h;exact Du []
 ·refine Aj hq [4] [] ?_;obtain rfl:=OI h;exact Du []
def Ek(a1:TFunc)(a7:Int)(a8:List Int)(a4:List Ah):Option (Int×TFunc×Int×List Int×List Ah):=
 ((Kh a1).bind fun x1=>((F0 x1 (4:Int)).bind fun x2=>(some (x2,a1,a7,a8,a4))))
theorem Nm(a1:TFunc)(a7:Int)(a8:List Int)(a4:List Ah)(r:(Int×TFunc×Int×List Int×List Ah))(h:Ek a1 a7 a8 a4=some r):Spec Tryz.prog 30 [(.ptr 30000 0)] [(30000,.row 59 [(AV.list 1 Ag 0 a1.Params .none),(.int .i64 a1.Ret),(AV.list 5 Au default a1.Blocks .none),(.int .i64 a7),(AV.list 1 Ag 0 a8 .none),.nilm,(AV.list 5 Bz default a4 (.own 37006))]),(37006,.tok 5 104 a4.length)] (.int .i64 r.1) [(30000,.row 59 [(AV.list 1 Ag 0 r.2.1.Params .none),(.int .i64 r.2.1.Ret),(AV.list 5 Au default r.2.1.Blocks .none),(.int .i64 r.2.2.1),(AV.list 1 Ag 0 r.2.2.2.1 .none),.nilm,(AV.list 5 Bz default r.2.2.2.2 (.own 37006))]),(37006,.tok 5 104 r.2.2.2.2.length)]:=by
 refine Af mix Tryz.func30 (fun Γ hq=>?_);unfold Ek at h;refine Aj hq [0] [30000,37006] ?_;obtain⟨x1,hx1,h⟩:=bind_some h;obtain⟨x2,hx2,h⟩:=bind_some h;refine gR hq [2] [30000,37006] [] [(Z6 x1),(Z45 x2)] (ci (ok_code_May a1 x1 hx1) (c1 (Na x1 (4:Int) x2 hx2))) ?_;cases h;exact Du [(30000,30000),(37006,37006)]
def Fj(aM:Int):Option Bool:=
 (some (bif (decide (((1:Int):Int)≤aM)) then(decide (aM≤64)) else false))
theorem L2(aM:Int)(r:Bool)(h:Fj aM=some r):Spec Tryz.prog 72 [(.int .i64 aM)] [] (.bool r) []:=by
 refine Af mix Tryz.func72 (fun Γ hq=>?_);unfold Fj at h;refine Aj hq [0] [] ?_;refine gR hq [2] [] [] [] (ci (gI ((decide (((1:Int):Int)≤aM))==true)) (c1 (Kx (decide (((1:Int):Int)≤aM))))) ?_;cases h;exact Du []
def Ew(aH:Int)(aM:Int):Option Bool:=
 (some (bif (decide (((0:Int):Int)≤aH)) then(decide (aH<aM)) else false))
theorem I7(aH:Int)(aM:Int)(r:Bool)(h:Ew aH aM=some r):Spec Tryz.prog 77 [(.int .i64 aH),(.int .i64 aM)] [] (.bool r) []:=by
 refine Af mix Tryz.func77 (fun Γ hq=>?_);unfold Ew at h;refine Aj hq [0,1] [] ?_;refine gR hq [4] [] [] [] (ci (gI ((decide (((0:Int):Int)≤aH))==true)) (ci (gI ((decide (((0:Int):Int)≤aH))==true)) (c1 (Kx (decide (((0:Int):Int)≤aH)))))) ?_;cases h;exact Du []
def Bn(aC:Eo)(aM:Int):Int→Option (LR Int (Unit ⊕ Bool)):=
 fun(i7:Int)=>(bif (decide (i7<(aC.To.length:Int))) then(Cs (Cg i7 aC.To.length) ((bif ((((aC.To.getD i7.toNat 0):Int)==0)==false) then Ew (aC.To.getD i7.toNat 0) aM else some false).bind fun x9=>(bif (bif (((aC.To.getD i7.toNat 0):Int)==0) then true else(!x9)) then(some (.done (.inr false))) else(some (.next (A8 (i7+1))))))) else(some (.done (.inl ()))))
def M2(Γ:Ga)(aC:Eo)(aM:Int)(r:Bool):Exit→St→Prop:=fK Tryz.prog Γ Tryz.f73.results.toList [] (.bool r) []
def Q3(aC:Eo)(i7:Int):=(((aC.To.getD i7.toNat 0):Int)==0)
def Gp(aC:Eo)(aM:Int):Option Bool:=
 (Option.bind (α:=(Int ⊕ Bool)) (Option.bind (α:=Bool) (bif (aC.Kind==0) then(some (aC.Kind==0)) else(some (aC.Kind==3))) (fun x3=>(bif x3 then(some (.inl (0:Int))) else(bif (aC.Kind==1) then(some (.inl (1:Int))) else(bif (aC.Kind==2) then(some (.inl (2:Int))) else(some (.inr false))))))) (fun x5=>(match x5 with|(.inl i1)=>(bif (((aC.To.length:Int):Int)!=i1) then(some false) else((Ak (Bn aC aM) (0:Int)).bind (fun x10=>(match x10 with|(.inl _)=>(some true)|(.inr r12)=>(some r12)))))|(.inr r13)=>(some r13))))
theorem Sl(aC:Eo)(aM:Int)(r:Bool)(h:Gp aC aM=some r):Spec Tryz.prog 73 [(.agg (eTEnd aC)),(.int .i64 aM)] [] (.bool r) []:=by
 refine Af mix Tryz.func73 (fun Γ hq=>?_);unfold Gp at h;refine Aj hq [1,2] [2] ?_;refine Aj hq [1,2,5] [2] ?_;obtain⟨x5,hx5,h⟩:=bind_some h;refine gJ hx5 (fun x_=>match x_ with|(.inl i1)=>aG Γ .normal (⟨[(1,(Br aM)),Z0,(5,(Br i1))],[(2,.row 42 [(Br aC.Kind),(Br aC.Arg),(Tn aC.To)])],[]⟩:St)|(.inr r_)=>aR (M2 Γ aC aM r_)) ?_ ?_
 ·clear h hx5;intro y h;refine Aj hq [1,2,5,9] [2] ?_;obtain⟨x3,hx3,h⟩:=bind_some h;refine gJ hx3 (fun b2=>aG Γ .normal (⟨[(1,(Br aM)),Z0,(5,Wn),(9,(Br aC.Kind)),(10,(.bool b2))],[(2,.row 42 [(Br aC.Kind),(Br aC.Arg),(Tn aC.To)])],[]⟩:St)) ?_ ?_
  ·clear h hx3;intro y h;refine Aj hq [1,2,5,9,10] [2] ?_;refine gC h (fun h=>?_) (fun h=>?_)
   ·cases h;exact gK (Eb E9)
   ·refine Aj hq [1,2,5,9,10] [2] ?_;cases h;exact gK (Eb E9)
  ·clear hx3;refine gA ?_;refine gC h (fun h=>?_) (fun h=>?_)
   ·cases h;exact gK (Eb (Ej [1,2,5] [2] hq))
   ·refine Aj hq [1,2,9,13] [2] ?_;refine gC h (fun h=>?_) (fun h=>?_)
    ·refine Aj hq [1,2,5] [2] ?_;cases h;exact gK (Eb E9)
    ·refine Aj hq [1,2,15] [2] ?_;refine gC h (fun h=>?_) (fun h=>?_)
     ·refine Aj hq [1,2,5] [2] ?_;cases h;exact gK (Eb E9)
     ·refine Aj hq [4] [] ?_;cases h;exact gK (Pg (J6 [] (Le.refl _ _)))
 ·clear hx5;rcases x5 with i1|r13
  ·refine gA ?_;refine Aj hq [1,2,21] [2] ?_;refine gC h (fun h=>?_) (fun h=>?_)
   ·refine Aj hq [4] [] ?_;obtain rfl:=OI h;exact Du []
   ·refine Aj hq [1,23,24,25] [] ?_;obtain⟨x10,hx10,h⟩:=bind_some h;refine gL hq hx10 [1,23,24,25] [] (fun u i7=>(Et u [(25,(Br i7))] [])) (fun u x_=>match x_ with|(.inl _)=>aG Γ (.exit 1) (⟨[],[],[]⟩:St)|(.inr r_)=>aR (M2 Γ aC aM r_)) ?_ ?_
    ·intro i7 y h;unfold Bn at h;refine Aj hq [1,23,24,25,26] [] ?_;refine gC h (fun h=>?_) (fun h=>?_)
     ·obtain⟨hc8,h⟩:=Aa h;refine gR hq [1,7,23,24,25] [] [] [] (c1 hc8) ?_;obtain⟨x9,hx9,h⟩:=bind_some h;refine gR hq [1,23,24,25,36] [] [] [(Z6 x9)] (ci (gI ((Q3 aC i7)==false)) (ci (gI ((Q3 aC i7)==false)) (ci (fun(hg:((Q3 aC i7)==false)=true)=>(I7 (aC.To.getD i7.toNat 0) aM x9 (Dd hg hx9))) (ci (gI ((Q3 aC i7)==false)) (c1 (Wu (Q3 aC i7))))))) ?_;refine gC h (fun h=>?_) (fun h=>?_)
      ·refine Aj hq [4] [] ?_;cases h;exact gO (Pg (J6 [] (Le.refl _ _)))
      ·refine Aj hq [1,23,24,25] [] ?_;cases h;exact gN E9
     ·cases h;exact gO (Eb (Ej [] [] hq))
    ·clear hx10;rcases x10 with _|r12
     ·refine gA ?_;refine Aj hq [4] [] ?_;obtain rfl:=OI h;exact Du []
     ·refine R0 (fun st' hk=>?_);obtain rfl:=OI h;exact gK hk
  ·refine R0 (fun st' hk=>?_);obtain rfl:=OI h;exact gK hk
def C9(a9:List (List Int))(i2:Int):(Int×List (List Int))→Option (LR (Int×List (List Int)) (List (List Int))):=
 fun((i6,l7):(Int×List (List Int)))=>(bif (decide (i6<((a9.getD i2.toNat []).length:Int))) then(Cs (Cg i6 (a9.getD i2.toNat []).length) (Cs (Cg ((a9.getD i2.toNat []).getD i6.toNat 0) l7.length) (Cs (Cg ((a9.getD i2.toNat []).getD i6.toNat 0) l7.length) (Cs ((l7.getD ((a9.getD i2.toNat []).getD i6.toNat 0).toNat []).length+([i2]:List Int).length≤room) (Cs (Cg ((a9.getD i2.toNat []).getD i6.toNat 0) l7.length) (some (.next ((A8 (i6+1)),(l7.set ((a9.getD i2.toNat []).getD i6.toNat 0).toNat ((l7.getD ((a9.getD i2.toNat []).getD i6.toNat 0).toNat [])++([i2]:List Int))))))))))) else(some (.done l7)))
def Da(a9:List (List Int)):(Int×List (List Int))→Option (LR (Int×List (List Int)) (List (List Int))):=
 fun((i2,l3):(Int×List (List Int)))=>(bif (decide (i2<(a9.length:Int))) then(Cs (Cg i2 a9.length) ((Ak (C9 a9 i2) ((0:Int),l3)).bind (fun x14=>(some (.next ((A8 (i2+1)),x14)))))) else(some (.done l3)))
def Q8(i2:Int):=([i2]:List Int)
def Q4(a9:List (List Int))(i2:Int)(i6:Int):=((a9.getD i2.toNat []).getD i6.toNat 0)
def Q9(l7:List (List Int))(a9:List (List Int))(i2:Int)(i6:Int):=(l7.getD (Q4 a9 i2 i6).toNat [])
def Q5(a9:List (List Int)):=(List.replicate (a9.length:Int).toNat ([]:List Int))
def Q11(l7:List (List Int))(a9:List (List Int))(i2:Int)(i6:Int):=(l7.set (Q4 a9 i2 i6).toNat ((Q9 l7 a9 i2 i6)++(Q8 i2)))
def Q7(a9:List (List Int)):List (Nat×AV):=[(0,(Z18 a9)),(3,(.vsl 10 (a9.length:Int).toNat))]
def Q6(l7:List (List Int))(i2:Int)(a9:List (List Int))(i6:Int):List (Nat×AV):=[(3,(.vsl 10 l7.length)),(4,(Br i2)),(11,(Z18 a9)),(12,(Z48 a9.length)),(13,(Br i2)),(18,(AV.list 1 Ag 0 (a9.getD i2.toNat []) .none)),(19,(.int .i64 ((a9.getD i2.toNat []).length:Int))),(20,(Br i6))]
def Q10(l7:List (List Int))(i2:Int)(a9:List (List Int))(i6:Int):List (Nat×AV):=[(3,(.vsl 10 l7.length)),(4,(Br i2)),(7,(Br (Q4 a9 i2 i6))),(11,(Z18 a9)),(12,(Z48 a9.length)),(13,(Br i2)),(18,(AV.list 1 Ag 0 (a9.getD i2.toNat []) .none)),(19,(.int .i64 ((a9.getD i2.toNat []).length:Int))),(20,(Br i6))]
def F3(a9:List (List Int)):Option (List (List Int)):=
 (Cs (0≤(a9.length:Int)∧(a9.length:Int)≤(a9.length:Int)∧(a9.length:Int)≤(room:Int)) ((Ak (Da a9) ((0:Int),(List.replicate (a9.length:Int).toNat ([]:List Int)))).bind (fun x16=>(some x16))))
theorem Nc(a9:List (List Int))(r:List (List Int))(h:F3 a9=some r):Spec Tryz.prog 75 [(AV.list 1 Fm [] a9 .none)] [] (AV.list 1 Fm [] r (.own 20000)) [(20000,.tok 1 22 r.length)]:=by
 refine Af mix Tryz.func75 (fun Γ hq=>?_);have hΓ:=hq.own;unfold F3 at h;refine gR hq [0] [] [(2,(AV.list 1 Fm [] ([]:List (List Int)) .exact))] [] (c1 (H0 1 Fm [])) ?_;obtain⟨hc1,h⟩:=Aa h;refine gR hq [0,3] [10] [] [] (c1 hc1) ?_;refine Rt (⟨(Q7 a9),[(10,.arr 1 22 ((a9.length:Int).toNat) (fun i_=>AV.eraseAll (fun n_=>Cu n_ [10]) ((fun _=>[Z38]) i_)))],[]⟩:St) ?_;refine Jy (Le.trans (M9 (st':=⟨(Q7 a9),[(10,.arr 1 22 ((a9.length:Int).toNat) (I8 1 Ag (0:Int) (Q5 a9) (fun _=>.exact)))],[]⟩) (TmpsLe.refl _) (.arr fam_zero .nil)) (Le.trans (Le.trans (le_birth (r:=10) (b:=70010) Ag (0:Int) (Q5 a9) 3 rfl rfl (List.length_replicate ..).symm (fun h_=>absurd h_ (by decide))) (Ke (st':=⟨(Q7 a9),[(10,.arr 1 22 ((a9.length:Int).toNat) (I8 1 Ag (0:Int) (Q5 a9) (Tag.fam 70010)))],[(70010,⟨1,3,Jt (Q5 a9)⟩)]⟩) (by kernel_rfl))) (Ke (congrArg (fun k_:Nat=>(⟨[(0,(Z18 a9)),(3,(.vsl 10 k_))],(Z10 k_ (Q5 a9)),[(70010,⟨1,3,Jt (Q5 a9)⟩)]⟩:St)) (show(a9.length:Int).toNat=(Q5 a9).length from(List.length_replicate ..).symm))))) ?_;refine Aj hq [3,11,12,13] [10,70010] ?_;obtain⟨x16,hx16,h⟩:=bind_some h;refine gL hq hx16 [3,11,12,13] [10,70010] (fun u (i2,l3)=>(Et u [(3,(.vsl 10 l3.length)),(13,(Br i2))] (Z10 l3.length l3) [(70010,⟨1,3,Jt l3⟩)])) (fun u l4=>aG Γ (.exit 0) (⟨[(3,(.vsl 10 l4.length))],(Z10 l4.length l4),[(70010,⟨1,3,Jt l4⟩)]⟩:St)) ?_ ?_
 ·rintro⟨i2,l3⟩ y h;unfold Da at h;refine Aj hq [3,11,12,13,14] [10,70010] ?_;refine gC h (fun h=>?_) (fun h=>?_)
  ·obtain⟨hc5,h⟩:=Aa h;refine gR hq [3,4,5,11,12,13] [10,70010] [] [] (c1 hc5) ?_;refine Aj hq [3,4,11,12,13,18,19,20] [10,70010] ?_;obtain⟨x14,hx14,h⟩:=bind_some h;refine gL hq hx14 [3,4,11,12,13,18,19,20] [10,70010] (fun u (i6,l7)=>(Et u [(3,(.vsl 10 l7.length)),(20,(Br i6))] (Z10 l7.length l7) [(70010,⟨1,3,Jt l7⟩)])) (fun u l8=>aG Γ (.exit 2) (Px [3,11,12,13] [10,70010] u [(3,(.vsl 10 l8.length))] (Z10 l8.length l8) [(70010,⟨1,3,Jt l8⟩)])) ?_ ?_
   ·rintro⟨i6,l7⟩ y h;unfold C9 at h;refine Aj hq [3,4,11,12,13,18,19,20,21] [10,70010] ?_;refine gC h (fun h=>?_) (fun h=>?_)
    ·obtain⟨hc9,h⟩:=Aa h;refine gR hq [3,4,7,11,12,13,18,19,20] [10,70010] [] [] (c1 hc9) ?_;refine Rt (⟨(Q10 l7 i2 a9 i6),(Z10 l7.length l7),[(70010,⟨1,3,Jt l7⟩)]⟩:St) ?_;obtain⟨hc10,h⟩:=Aa h;obtain⟨hc11,h⟩:=Aa h;obtain⟨hc12,h⟩:=Aa h;obtain⟨hc13,h⟩:=Aa h;refine Jy (Le.trans (le_take (r:=10) (b:=70010) (k:=60010) Ag (0:Int) l7 (Q4 a9 i2 i6).toNat 3 rfl rfl rfl rfl (K6 hc10) (by kernel_rfl) (.here .nil)) (Ke (st':=⟨(Q10 l7 i2 a9 i6),[(10,.arr 1 22 l7.length (I8 1 Ag (0:Int) l7 (E0 70010 (Q4 a9 i2 i6).toNat 60010))),(60010,.tok 1 3 ((Q9 l7 a9 i2 i6).length))],[(70010,⟨1,3,Qu l7 (Q4 a9 i2 i6).toNat⟩)]⟩) (by kernel_rfl))) ?_;refine gR hq [3,4,11,12,13,18,19,20] [10,60010,70010] [(29,(Z33 (Q9 l7 a9 i2 i6) 60010)),(31,(AV.list 1 Ag 0 (Q8 i2) .exact)),(32,(AV.list 1 Ag 0 ((Q9 l7 a9 i2 i6)++(Q8 i2)) (.own 60010)))] [] (ci hc11 (ci (Eq.refl l7.length) (ci (show(AVle (((I8 1 Ag (0:Int) l7 (E0 70010 (Q4 a9 i2 i6).toNat 60010)) (Q4 a9 i2 i6).toNat).getD 0 .any) (Z33 (Q9 l7 a9 i2 i6) 60010)) from av_famtag) (ci (Dy 1 Ag (0:Int) (Q8 i2)) (ci (Eq.refl ((Q9 l7 a9 i2 i6).length)) (ci hc12 (ci (av_appX 1 60010 Ag (0:Int) (Q9 l7 a9 i2 i6) (Q8 i2)) (ci (Je (Q9 l7 a9 i2 i6) (Q8 i2)) (ci hc13 (c1 (Eq.refl l7.length))))))))))) ?_;refine Rt (⟨(Q6 l7 i2 a9 i6),[(10,.arr 1 22 l7.length (fun i_=>AV.eraseAll (fun n_=>Cu n_ [10,60010,70010]) ((Ip (I8 1 Ag (0:Int) l7 (E0 70010 (Q4 a9 i2 i6).toNat 60010)) (Q4 a9 i2 i6).toNat 0 [(AV.list 1 Ag 0 ((Q9 l7 a9 i2 i6)++(Q8 i2)) (.own 60010))]) i_))),(60010,.tok 1 3 (((Q9 l7 a9 i2 i6)++(Q8 i2)).length))],[(70010,⟨1,3,Qu l7 (Q4 a9 i2 i6).toNat⟩)]⟩:St) ?_;refine Jy (Le.trans (Le.trans (le_put (r:=10) (b:=70010) (k:=60010) Ag (0:Int) l7 (Q4 a9 i2 i6).toNat ((Q9 l7 a9 i2 i6)++(Q8 i2)) 3 rfl (putF_fam (K6 hc10) rfl rfl) rfl rfl rfl rfl (K6 hc10) (by kernel_rfl) (.here (.tok .nil)) (by rw[hΓ];rfl)) (Ke (st':=⟨(Q6 l7 i2 a9 i6),(Z10 l7.length (Q11 l7 a9 i2 i6)),[(70010,⟨1,3,Jt (Q11 l7 a9 i2 i6)⟩)]⟩) (by kernel_rfl))) (Ke (congrArg (fun k_:Nat=>(⟨[(3,(.vsl 10 k_)),(4,(Br i2)),(11,(Z18 a9)),(12,(Z48 a9.length)),(13,(Br i2)),(18,(AV.list 1 Ag 0 (a9.getD i2.toNat []) .none)),(19,(.int .i64 ((a9.getD i2.toNat []).length:Int))),(20,(Br i6))],(Z10 k_ (Q11 l7 a9 i2 i6)),[(70010,⟨1,3,Jt (Q11 l7 a9 i2 i6)⟩)]⟩:St)) (show l7.length=(Q11 l7 a9 i2 i6).length from(List.length_set ..).symm)))) ?_;refine Aj hq [3,4,11,12,13,18,19,20] [10,70010] ?_;cases h;exact gN E9
    ·cases h;exact gO (Eb (Ej [3,11,12,13] [10,70010] hq))
   ·clear hx14;refine gA ?_;refine Aj hq [3,11,12,13] [10,70010] ?_;cases h;exact gN E9
  ·cases h;exact gO (Eb (Ej [3] [10,70010] hq))
 ·clear hx16;refine gA ?_;refine Aj hq [2] [10,70010] ?_;refine Rt (⟨[(2,(.vsl 10 x16.length))],(Z10 x16.length x16),[(70010,⟨1,3,Jt x16⟩)]⟩:St) ?_;obtain rfl:=OI h;exact gK (e:=.ret) (J6 [(10,20000)] (Le.trans (Ix (nm:=10) (sz:=1) (n:=x16.length) (e:=22) (f:=(I8 1 Ag (0:Int) x16 (Tag.fam 70010))) (g:=(fun i=>Fm (x16.getD i []))) rfl ⟨rfl,trivial⟩ (fun _ _=>rfl) (by rw[hΓ];rfl)) (Ej (st':=⟨[(2,(AV.list 1 Fm [] x16 (.own 10)))],[(10,.tok 1 22 x16.length)],[]⟩) [2] [10] hq)))
def Dw(a2:TFunc):(Int×List (List Int))→Option (LR (Int×List (List Int)) (List (List Int) ⊕ (B2×Int))):=
 fun((i3,l4):(Int×List (List Int)))=>(bif (decide (i3<(a2.Blocks.length:Int))) then(Cs (Cg i3 a2.Blocks.length) ((Gp (⟨(a2.Blocks.getD i3.toNat default).End.Kind,(a2.Blocks.getD i3.toNat default).End.Arg,(a2.Blocks.getD i3.toNat default).End.To⟩:Eo) (a2.Blocks.length:Int)).bind fun x7=>(bif (!x7) then(some (.done (.inr ((⟨([]:List (List Int)),([]:List (List Int))⟩:B2),(5:Int))))) else((Rs ((a2.Blocks.getD i3.toNat default).End.To)).bind fun x8=>(Cs (Cg i3 l4.length) (some (.next ((A8 (i3+1)),(l4.set i3.toNat x8))))))))) else(some (.done (.inl l4))))
def K_graph_Of(Γ:Ga)(a2:TFunc)(r:(B2×Int)):Exit→St→Prop:=fK Tryz.prog Γ Tryz.f49.results.toList [] (.tuple [(.agg (Mi r.1)),(Br r.2)]) []
def Q13:AV:=Z38
def Q14:List (Nat×AV):=[Z0,(3,(.int .i64 (5:Int)))]
def Q17(a2:TFunc)(i3:Int):=(a2.Blocks.getD i3.toNat default)
def Q15:AV:=(AV.list 1 Fm [] ([]:List (List Int)) .none)
def Q16(a2:TFunc):=(List.replicate (a2.Blocks.length:Int).toNat ([]:List Int))
def Q12:List AV:=[(AV.list 1 Fm [] ([]:List (List Int)) .exact),(AV.list 1 Fm [] ([]:List (List Int)) .exact)]
def Kj(a2:TFunc):Option (B2×Int):=
 ((Fj (a2.Blocks.length:Int)).bind fun x1=>(bif (!x1) then(some ((⟨([]:List (List Int)),([]:List (List Int))⟩:B2),(5:Int))) else(Cs (0≤(a2.Blocks.length:Int)∧(a2.Blocks.length:Int)≤(a2.Blocks.length:Int)∧(a2.Blocks.length:Int)≤(room:Int)) ((Ak (Dw a2) ((0:Int),(List.replicate (a2.Blocks.length:Int).toNat ([]:List Int)))).bind (fun x10=>(match x10 with|(.inl l5)=>((F3 l5).bind fun x12=>(some ((⟨l5,x12⟩:B2),(0:Int))))|(.inr r13)=>(some r13)))))))
theorem ok_graph_Of(a2:TFunc)(r:(B2×Int))(h:Kj a2=some r):Spec Tryz.prog 49 [(.agg (eTFunc a2))] [] (.tuple [(.agg (Mi r.1)),(.int .i64 r.2)]) []:=by
 refine Af mix Tryz.func49 (fun Γ hq=>?_);have hΓ:=hq.own;unfold Kj at h;refine Aj hq [1,2] [1,2] ?_;refine Aj hq [1,2,4] [1,2] ?_;obtain⟨x1,hx1,h⟩:=bind_some h;refine gR hq [1,2,4,13] [1,2] [] [(Z6 x1)] (c1 (L2 (a2.Blocks.length:Int) x1 hx1)) ?_;refine gC h (fun h=>?_) (fun h=>?_)
 ·refine gR hq [2,3] [2] [(14,(.agg Q12))] [] (c1 (show(AVle (.agg [Q13,Q13]) (.agg Q12)) from(AVle.agg (.cons Iv (.cons Iv .nil))))) ?_;refine Rt (⟨Q14,[(Z53 Q12)],[]⟩:St) ?_;cases h;exact gK (e:=.ret) (J6 [] (show Le Γ _ (⟨Q14,[(2,.row 67 [Q15,Q15])],[]⟩:St) from Le.trans (Ej (st':=⟨Q14,[(Z53 Q12)],[]⟩) [2,3] [2] hq) (M9 (.cons (AVle.refl _) (.cons (AVle.refl _) .nil)) (.row (.cons AVle.untag (.cons AVle.untag .nil)) .nil))))
 ·obtain⟨hc2,h⟩:=Aa h;refine gR hq [1,2,4,5] [1,2,16] [] [] (c1 hc2) ?_;refine Jy (Le.trans (Ph 16 (show ∀ k_,k_<((a2.Blocks.length:Int).toNat)→AVleL ((fun i_=>AV.eraseAll (fun n_=>Cu n_ [1,2,16]) ((fun _=>[Q13]) i_)) k_) ((fun i=>Fm ((Q16 a2).getD i [])) k_) from(fun k hk=>O4 (e:=Fm) (d:=[]) (.cons (fun _ _ _ _ _ hh=>AVle.untag _ _ _ _ _ (Iv _ _ _ _ _ hh)) .nil) _ k (O8 hk)))) (M8 (fun(k_:Nat) u=>(Et u [(5,(.vsl 16 k_))] [(16,.arr 1 22 k_ (fun i=>Fm ((Q16 a2).getD i [])))])) (show(a2.Blocks.length:Int).toNat=(Q16 a2).length from(List.length_replicate ..).symm))) ?_;refine Aj hq [2,4,5,18,19,20] [2,16] ?_;obtain⟨x10,hx10,h⟩:=bind_some h;refine gL hq hx10 [2,4,5,18,19,20] [2,16] (fun u (i3,l4)=>(Et u [(5,(.vsl 16 l4.length)),(20,(Br i3))] [(16,.arr 1 22 l4.length (fun i=>Fm (l4.getD i [])))])) (fun u x_=>match x_ with|(.inl l5)=>aG Γ (.exit 0) (Px [2,5] [2,16] u [(5,(.vsl 16 l5.length))] [(16,.arr 1 22 l5.length (fun i=>Fm (l5.getD i [])))])|(.inr r_)=>aR (K_graph_Of Γ a2 r_)) ?_ ?_
  ·rintro⟨i3,l4⟩ y h;unfold Dw at h;refine Aj hq [2,4,5,18,19,20,21] [2,16] ?_;refine gC h (fun h=>?_) (fun h=>?_)
   ·obtain⟨hc6,h⟩:=Aa h;refine gR hq [2,4,5,6,7,18,19,20] [2,7,16] [] [] (c1 hc6) ?_;obtain⟨x7,hx7,h⟩:=bind_some h;refine gR hq [2,4,5,6,7,18,19,20,29] [2,7,16] [] [(Z6 x7)] (c1 (Sl (⟨(Q17 a2 i3).End.Kind,(Q17 a2 i3).End.Arg,(Q17 a2 i3).End.To⟩:Eo) (a2.Blocks.length:Int) x7 hx7)) ?_;refine gC h (fun h=>?_) (fun h=>?_)
    ·refine gR hq [2,3] [2] [(30,(.agg Q12))] [] (c1 (show(AVle (.agg [Q13,Q13]) (.agg Q12)) from(AVle.agg (.cons Iv (.cons Iv .nil))))) ?_;refine Rt (⟨Q14,[(Z53 Q12)],[]⟩:St) ?_;cases h;exact gO (Pg (J6 [] (show Le Γ _ (⟨Q14,[(2,.row 67 [Q15,Q15])],[]⟩:St) from Le.trans (Ej (st':=⟨Q14,[(Z53 Q12)],[]⟩) [2,3] [2] hq) (M9 (.cons (AVle.refl _) (.cons (AVle.refl _) .nil)) (.row (.cons AVle.untag (.cons AVle.untag .nil)) .nil)))))
    ·obtain⟨x8,hx8,h⟩:=bind_some h;obtain⟨hc9,h⟩:=Aa h;refine gR hq [2,4,5,18,19,20] [2,16] [] [⟨[],[],(Tn x8),[],[]⟩] (ci (xok_rising ((Q17 a2 i3).End.To) x8 hx8) (ci hc9 (c1 (Eq.refl l4.length)))) ?_;refine Jy (Le.trans (Ph 16 (show ∀ k_,k_<l4.length→AVleL ((fun i_=>AV.eraseAll (fun n_=>Cu n_ [2,16]) ((Ip (fun i=>Fm (l4.getD i [])) i3.toNat 0 [(Tn x8)]) i_)) k_) ((fun i=>Fm ((l4.set i3.toNat x8).getD i [])) k_) from(Bx (List.length_set ..).symm (fun k_ hk_=>(congrArg (AV.eraseAll (fun n_=>Cu n_ [2,16])) ((Hz (fun _ _=>rfl) (Jd hc9) rfl) k_ hk_)).trans rfl)))) (M8 (fun(k_:Nat) u=>(Et u [(5,(.vsl 16 k_))] [(16,.arr 1 22 k_ (fun i=>Fm ((l4.set i3.toNat x8).getD i [])))])) (show l4.length=(l4.set i3.toNat x8).length from(List.length_set ..).symm))) ?_;refine Aj hq [2,4,5,18,19,20] [2,16] ?_;cases h;exact gN E9
   ·cases h;exact gO (Eb (Ej [2,5] [2,16] hq))
  ·clear hx10;rcases x10 with l5|r13
   ·refine gA ?_;refine Rt (⟨[Z0,(5,(.vsl 16 l5.length))],[(2,.row 67 [Q13,Q13]),(16,.arr 1 22 l5.length (fun i=>Fm (l5.getD i [])))],[]⟩:St) ?_;refine Jy (Le.trans (Ix (nm:=16) (sz:=1) (n:=l5.length) (e:=22) (f:=(fun i=>Fm (l5.getD i []))) (g:=(fun i=>Fm (l5.getD i []))) rfl ⟨rfl,trivial⟩ (fun _ _=>rfl) (by rw[hΓ];rfl)) (Ke (st':=⟨[Z0,(5,(AV.list 1 Fm [] l5 (.own 16)))],[(2,.row 67 [Q13,Q13]),(16,.tok 1 22 l5.length)],[]⟩) (by kernel_rfl))) ?_;obtain⟨x12,hx12,h⟩:=bind_some h;refine gR hq [2,3] [2,16,41] [] [⟨[],[(20000,41)],(AV.list 1 Fm [] x12 (.own 20000)),[(20000,.tok 1 22 x12.length)],[]⟩] (c1 (Nc l5 x12 hx12)) ?_;cases h;exact Du []
   ·refine R0 (fun st' hk=>?_);obtain rfl:=OI h;exact gK hk
def Bv(a9:List (List Int))(i2:Int):(Int×Int)→Option (LR (Int×Int) (Unit ⊕ Bool)):=
 fun((i4,i5):(Int×Int))=>(bif (decide (i5<((a9.getD i2.toNat []).length:Int))) then(Cs (Cg i5 (a9.getD i2.toNat []).length) ((bif ((decide ((((a9.getD i2.toNat []).getD i5.toNat 0):Int)≤i4))==false) then Ew ((a9.getD i2.toNat []).getD i5.toNat 0) (a9.length:Int) else some false).bind fun x7=>(bif (bif (decide ((((a9.getD i2.toNat []).getD i5.toNat 0):Int)≤i4)) then true else(!x7)) then(some (.done (.inr false))) else(some (.next (((a9.getD i2.toNat []).getD i5.toNat 0),(A8 (i5+1)))))))) else(some (.done (.inl ()))))
def Bw(a9:List (List Int)):Int→Option (LR Int (Unit ⊕ Bool)):=
 fun(i2:Int)=>(bif (decide (i2<(a9.length:Int))) then(Cs (Cg i2 a9.length) ((Ak (Bv a9 i2) ((-1:Int),(0:Int))).bind (fun x8=>(match x8 with|(.inl _)=>(some (.next (A8 (i2+1))))|(.inr r10)=>(some (.done (.inr r10))))))) else(some (.done (.inl ()))))
def M3(Γ:Ga)(a9:List (List Int))(r:Bool):Exit→St→Prop:=fK Tryz.prog Γ Tryz.f101.results.toList [] (.bool r) []
def Q18(a9:List (List Int))(i2:Int)(i5:Int)(i4:Int):=(decide ((((a9.getD i2.toNat []).getD i5.toNat 0):Int)≤i4))
def Gq(a9:List (List Int)):Option Bool:=
 ((Fj (a9.length:Int)).bind fun x1=>(bif (!x1) then(some false) else((Ak (Bw a9) (0:Int)).bind (fun x11=>(match x11 with|(.inl _)=>(some true)|(.inr r13)=>(some r13))))))
theorem Sn(a9:List (List Int))(r:Bool)(h:Gq a9=some r):Spec Tryz.prog 101 [(AV.list 1 Fm [] a9 .none)] [] (.bool r) []:=by
 refine Af mix Tryz.func101 (fun Γ hq=>?_);unfold Gq at h;refine Aj hq [0] [] ?_;obtain⟨x1,hx1,h⟩:=bind_some h;refine gR hq [0,11] [] [] [(Z6 x1)] (c1 (L2 (a9.length:Int) x1 hx1)) ?_;refine gC h (fun h=>?_) (fun h=>?_)
 ·refine Aj hq [2] [] ?_;obtain rfl:=OI h;exact Du []
 ·refine Aj hq [0,12,13,14] [] ?_;obtain⟨x11,hx11,h⟩:=bind_some h;refine gL hq hx11 [0,12,13,14] [] (fun u i2=>(Et u [(14,(Br i2))] [])) (fun u x_=>match x_ with|(.inl _)=>aG Γ (.exit 0) (⟨[],[],[]⟩:St)|(.inr r_)=>aR (M3 Γ a9 r_)) ?_ ?_
  ·intro i2 y h;unfold Bw at h;refine Aj hq [0,12,13,14,15] [] ?_;refine gC h (fun h=>?_) (fun h=>?_)
   ·obtain⟨hc3,h⟩:=Aa h;refine gR hq [0,4,12,13,14] [] [] [] (c1 hc3) ?_;refine Aj hq [0,4,5,12,13,14] [] ?_;refine Aj hq [0,5,12,13,14,18,19,20] [] ?_;obtain⟨x8,hx8,h⟩:=bind_some h;refine gL hq hx8 [0,5,12,13,14,18,19,20] [] (fun u (i4,i5)=>(Et u [(5,(Br i4)),(20,(Br i5))] [])) (fun u x_=>match x_ with|(.inl _)=>aG Γ (.exit 2) (Px [0,12,13,14] [] u [] [])|(.inr r_)=>aR (M3 Γ a9 r_)) ?_ ?_
    ·rintro⟨i4,i5⟩ y h;unfold Bv at h;refine Aj hq [0,5,12,13,14,18,19,20,21] [] ?_;refine gC h (fun h=>?_) (fun h=>?_)
     ·obtain⟨hc6,h⟩:=Aa h;refine gR hq [0,5,7,12,13,14,18,19,20] [] [] [] (c1 hc6) ?_;obtain⟨x7,hx7,h⟩:=bind_some h;refine gR hq [0,7,12,13,14,18,19,20,33] [] [] [(Z6 x7)] (ci (gI ((Q18 a9 i2 i5 i4)==false)) (ci (gI ((Q18 a9 i2 i5 i4)==false)) (ci (gI ((Q18 a9 i2 i5 i4)==false)) (ci (fun(hg:((Q18 a9 i2 i5 i4)==false)=true)=>(I7 ((a9.getD i2.toNat []).getD i5.toNat 0) (a9.length:Int) x7 (Dd hg hx7))) (ci (gI ((Q18 a9 i2 i5 i4)==false)) (c1 (Wu (Q18 a9 i2 i5 i4)))))))) ?_;refine gC h (fun h=>?_) (fun h=>?_)
      ·refine Aj hq [2] [] ?_;cases h;exact gO (Pg (J6 [] (Le.refl _ _)))
      ·refine Aj hq [0,5,12,13,14,18,19,20] [] ?_;refine Aj hq [0,5,12,13,14,18,19,20] [] ?_;cases h;exact gN E9
     ·cases h;exact gO (Eb (Ej [0,12,13,14] [] hq))
    ·clear hx8;rcases x8 with _|r10
     ·refine gA ?_;refine Aj hq [0,12,13,14] [] ?_;cases h;exact gN E9
     ·refine R0 (fun st' hk=>?_);cases h;exact gO (Pg hk)
   ·cases h;exact gO (Eb (Ej [] [] hq))
  ·clear hx11;rcases x11 with _|r13
   ·refine gA ?_;refine Aj hq [2] [] ?_;obtain rfl:=OI h;exact Du []
   ·refine R0 (fun st' hk=>?_);obtain rfl:=OI h;exact gK hk
def A2(aN:List Int)(aQ:List Int):Int→Option (LR Int (Unit ⊕ Bool)):=
 fun(i1:Int)=>(bif (decide (i1<(aN.length:Int))) then(Cs (Cg i1 aN.length) (Cs (Cg i1 aQ.length) (bif (((aN.getD i1.toNat 0):Int)!=(aQ.getD i1.toNat 0)) then(some (.done (.inr false))) else(some (.next (A8 (i1+1))))))) else(some (.done (.inl ()))))
def Ma(Γ:Ga)(aN:List Int)(aQ:List Int)(r:Bool):Exit→St→Prop:=fK Tryz.prog Γ Tryz.f81.results.toList [] (.bool r) []
def C5(aN:List Int)(aQ:List Int):Option Bool:=
 (bif (((aN.length:Int):Int)!=(aQ.length:Int)) then(some false) else((Ak (A2 aN aQ) (0:Int)).bind (fun x4=>(match x4 with|(.inl _)=>(some true)|(.inr r6)=>(some r6)))))
theorem Ib(aN:List Int)(aQ:List Int)(r:Bool)(h:C5 aN aQ=some r):Spec Tryz.prog 81 [(AV.list 1 Ag 0 aN .none),(AV.list 1 Ag 0 aQ .none)] [] (.bool r) []:=by
 refine Af mix Tryz.func81 (fun Γ hq=>?_);unfold C5 at h;refine Aj hq [0,1] [] ?_;refine Aj hq [0,1,10] [] ?_;refine gC h (fun h=>?_) (fun h=>?_)
 ·refine Aj hq [4] [] ?_;obtain rfl:=OI h;exact Du []
 ·refine Aj hq [0,1,12,13] [] ?_;obtain⟨x4,hx4,h⟩:=bind_some h;refine gL hq hx4 [0,1,12,13] [] (fun u i1=>(Et u [(13,(Br i1))] [])) (fun u x_=>match x_ with|(.inl _)=>aG Γ (.exit 0) (⟨[],[],[]⟩:St)|(.inr r_)=>aR (Ma Γ aN aQ r_)) ?_ ?_
  ·intro i1 y h;unfold A2 at h;refine Aj hq [0,1,12,13,14] [] ?_;refine gC h (fun h=>?_) (fun h=>?_)
   ·refine Aj hq [0,1,5,12,13] [] ?_;obtain⟨hc2,h⟩:=Aa h;obtain⟨hc3,h⟩:=Aa h;refine gR hq [0,1,12,13,24] [] [] [] (ci hc2 (c1 hc3)) ?_;refine gC h (fun h=>?_) (fun h=>?_)
    ·refine Aj hq [4] [] ?_;cases h;exact gO (Pg (J6 [] (Le.refl _ _)))
    ·refine Aj hq [0,1,12,13] [] ?_;cases h;exact gN E9
   ·cases h;exact gO (Eb (Ej [] [] hq))
  ·clear hx4;rcases x4 with _|r6
   ·refine gA ?_;refine Aj hq [4] [] ?_;obtain rfl:=OI h;exact Du []
   ·refine R0 (fun st' hk=>?_);obtain rfl:=OI h;exact gK hk
def Aq(aN:List (List Int))(aQ:List (List Int)):Int→Option (LR Int (Unit ⊕ Bool)):=
 fun(i1:Int)=>(bif (decide (i1<(aN.length:Int))) then(Cs (Cg i1 aN.length) (Cs (Cg i1 aQ.length) ((C5 (aN.getD i1.toNat []) (aQ.getD i1.toNat [])).bind fun x4=>(bif (!x4) then(some (.done (.inr false))) else(some (.next (A8 (i1+1)))))))) else(some (.done (.inl ()))))
def H2(Γ:Ga)(aN:List (List Int))(aQ:List (List Int))(r:Bool):Exit→St→Prop:=fK Tryz.prog Γ Tryz.f102.results.toList [] (.bool r) []
def Bo(aN:List (List Int))(aQ:List (List Int)):Option Bool:=
 (bif (((aN.length:Int):Int)!=(aQ.length:Int)) then(some false) else((Ak (Aq aN aQ) (0:Int)).bind (fun x5=>(match x5 with|(.inl _)=>(some true)|(.inr r7)=>(some r7)))))
theorem Hy(aN:List (List Int))(aQ:List (List Int))(r:Bool)(h:Bo aN aQ=some r):Spec Tryz.prog 102 [(AV.list 1 Fm [] aN .none),(AV.list 1 Fm [] aQ .none),(.clo 81 [] [])] [] (.bool r) []:=by
 refine Af mix Tryz.func102 (fun Γ hq=>?_);unfold Bo at h;refine Aj hq [0,1,2] [] ?_;refine Aj hq [0,1,2,14] [] ?_;refine gC h (fun h=>?_) (fun h=>?_)
 ·refine Aj hq [6] [] ?_;obtain rfl:=OI h;exact Du []
 ·refine Aj hq [1,2,15,16,17] [] ?_;obtain⟨x5,hx5,h⟩:=bind_some h;refine gL hq hx5 [1,2,15,16,17] [] (fun u i1=>(Et u [(17,(Br i1))] [])) (fun u x_=>match x_ with|(.inl _)=>aG Γ (.exit 0) (⟨[],[],[]⟩:St)|(.inr r_)=>aR (H2 Γ aN aQ r_)) ?_ ?_
  ·intro i1 y h;unfold Aq at h;refine Aj hq [1,2,15,16,17,18] [] ?_;refine gC h (fun h=>?_) (fun h=>?_)
   ·obtain⟨hc2,h⟩:=Aa h;refine gR hq [1,2,7,8,15,16,17] [] [] [] (c1 hc2) ?_;obtain⟨hc3,h⟩:=Aa h;refine gR hq [1,2,8,9,15,16,17] [] [] [] (c1 hc3) ?_;obtain⟨x4,hx4,h⟩:=bind_some h;refine gR hq [1,2,15,16,17,30] [] [] [(Z6 x4)] (c1 (Ib (aN.getD i1.toNat []) (aQ.getD i1.toNat []) x4 hx4)) ?_;refine gC h (fun h=>?_) (fun h=>?_)
    ·refine Aj hq [6] [] ?_;cases h;exact gO (Pg (J6 [] (Le.refl _ _)))
    ·refine Aj hq [1,2,15,16,17] [] ?_;cases h;exact gN E9
   ·cases h;exact gO (Eb (Ej [] [] hq))
  ·clear hx5;rcases x5 with _|r7
   ·refine gA ?_;refine Aj hq [6] [] ?_;obtain rfl:=OI h;exact Du []
   ·refine R0 (fun st' hk=>?_);obtain rfl:=OI h;exact gK hk
def Jl(aB:B2):Option Bool:=
 ((Gq aB.Succ).bind fun x1=>((bif (x1==true) then F3 aB.Succ else some []).bind fun x2=>((bif (x1==true) then Bo aB.Pred x2 else some false).bind fun x3=>(some (bif x1 then x3 else false)))))
theorem Zn(aB:B2)(r:Bool)(h:Jl aB=some r):Spec Tryz.prog 76 [(.agg (Mi aB))] [] (.bool r) []:=by
 refine Af mix Tryz.func76 (fun Γ hq=>?_);unfold Jl at h;refine Aj hq [1] [1] ?_;obtain⟨x1,hx1,h⟩:=bind_some h;obtain⟨x2,hx2,h⟩:=bind_some h;obtain⟨x3,hx3,h⟩:=bind_some h;refine gR hq [2] [] [] [(Z6 x1),⟨[],[],(Z18 x2),[],[]⟩,(Z6 x3)] (ci (Sn aB.Succ x1 hx1) (ci (gI (x1==true)) (ci (gI (x1==true)) (ci (gI (x1==true)) (ci (show((x1==true)=true→(Spec Tryz.prog 75 [(Z18 aB.Succ)] [] (Z18 x2) [])) from(fun hg=>(Spec.drop (Nc aB.Succ x2 (Dd hg hx2))))) (ci (gI (x1==true)) (ci (gI (x1==true)) (ci (fun(hg:(x1==true)=true)=>(Hy aB.Pred x2 x3 (Dd hg hx3))) (c1 (Kx x1)))))))))) ?_;cases h;exact Du []
def Az :(Int×Int×List Int)→Option (LR (Int×Int×List Int) (List Int)):=
 fun((i1,i2,l3):(Int×Int×List Int))=>(bif (decide (i1<i2)) then(Cs (Cg i2 l3.length) (Cs (Cg i1 l3.length) (Cs (Cg i1 l3.length) (Cs (Cg i2 l3.length) (some (.next ((A8 (i1+1)),(A8 (i2-1)),((l3.set i1.toNat (l3.getD i2.toNat 0)).set i2.toNat (l3.getD i1.toNat 0))))))))) else(some (.done l3)))
def Q19(l3:List Int)(i1:Int)(i2:Int):=((l3.set i1.toNat (l3.getD i2.toNat 0)).set i2.toNat (l3.getD i1.toNat 0))
def Cq(aX:List Int):Option (List Int):=
 ((Ak (S:=(Int×Int×List Int)) (X:=List Int) Az ((0:Int),(A8 ((aX.length:Int)-1)),aX)).bind (fun x9=>(some x9)))
theorem Hp(aX:List Int)(r:List Int)(h:Cq aX=some r):Spec Tryz.prog 78 [(.vsl 34000 aX.length)] [(34000,.arr 1 3 aX.length (fun i=>Ag (aX.getD i 0)))] (.tuple []) [(34000,.arr 1 3 r.length (fun i=>Ag (r.getD i 0)))]:=by
 refine Af mix Tryz.func78 (fun Γ hq=>?_);unfold Cq at h;refine Aj hq [0,2,3] [34000] ?_;obtain⟨x9,hx9,h⟩:=bind_some h;refine gL hq hx9 [0,2,3] [34000] (fun u (i1,i2,l3)=>(Et u [(0,(.vsl 34000 l3.length)),(2,(Br i1)),(3,(Br i2))] [(Z2 34000 l3)])) (fun u l4=>aG Γ (.exit 0) (⟨[],[(Z2 34000 l4)],[]⟩:St)) ?_ ?_
 ·rintro⟨i1,i2,l3⟩ y h;unfold Az at h;refine Aj hq [0,2,3,9] [34000] ?_;refine gC h (fun h=>?_) (fun h=>?_)
  ·obtain⟨hc5,h⟩:=Aa h;obtain⟨hc6,h⟩:=Aa h;obtain⟨hc7,h⟩:=Aa h;obtain⟨hc8,h⟩:=Aa h;refine gR hq [0,2,3] [34000] [] [] (ci hc5 (ci (Eq.refl l3.length) (ci hc6 (ci (Eq.refl l3.length) (ci hc7 (ci (Eq.refl l3.length) (ci hc8 (c1 (Eq.refl l3.length))))))))) ?_;refine Jy (Le.trans (Ph 34000 (show ∀ k_,k_<l3.length→AVleL ((fun i_=>AV.eraseAll (fun n_=>Cu n_ [34000]) ((Ip (Ip (fun i=>Ag (l3.getD i 0)) i1.toNat 0 [(.int .i64 (l3.getD i2.toNat 0))]) i2.toNat 0 [(.int .i64 (l3.getD i1.toNat 0))]) i_)) k_) ((fun i=>Ag ((Q19 l3 i1 i2).getD i 0)) k_) from(Bx (Eq.trans (List.length_set ..).symm (List.length_set ..).symm) (fun k_ hk_=>(congrArg (AV.eraseAll (fun n_=>Cu n_ [34000])) ((Hz (Hz (fun _ _=>rfl) (Jd hc7) rfl) (inB_lt1 hc8) rfl) k_ hk_)).trans rfl)))) (M8 (fun(k_:Nat) u=>(Et u [(0,(.vsl 34000 k_))] [(34000,.arr 1 3 k_ (fun i=>Ag ((Q19 l3 i1 i2).getD i 0)))])) (show l3.length=(Q19 l3 i1 i2).length from(Eq.trans (List.length_set ..).symm (List.length_set ..).symm)))) ?_;refine Aj hq [0,2,3] [34000] ?_;cases h;exact gN E9
  ·cases h;exact gO (Eb (Ej [] [34000] hq))
 ·clear hx9;refine gA' (fun st' hl10=>?_);obtain rfl:=OI h;exact gK (e:=.normal) (J6 [(34000,34000)] hl10)
def Ly(aB:B2)(a3:Int):List Int→Option (LR (List Int) (List Int ⊕ (List Bool×List Int×List Int))):=
 fun(l9:List Int)=>(Cs (Cg ([a3].getD (A8 (([a3].length:Int)-1)).toNat (0:Int)) 64) (Cs (Cg ([a3].getD (A8 (([a3].length:Int)-1)).toNat (0:Int)) aB.Succ.length) (bif (decide (((l9.getD ([a3].getD (A8 (([a3].length:Int)-1)).toNat (0:Int)).toNat (0:Int)):Int)<((aB.Succ.getD ([a3].getD (A8 (([a3].length:Int)-1)).toNat (0:Int)).toNat []).length:Int))) then(Cs (Cg ([a3].getD (A8 (([a3].length:Int)-1)).toNat (0:Int)) aB.Succ.length) (Cs (Cg ([a3].getD (A8 (([a3].length:Int)-1)).toNat (0:Int)) 64) (Cs (Cg (l9.getD ([a3].getD (A8 (([a3].length:Int)-1)).toNat (0:Int)).toNat (0:Int)) (aB.Succ.getD ([a3].getD (A8 (([a3].length:Int)-1)).toNat (0:Int)).toNat []).length) (Cs (Cg ([a3].getD (A8 (([a3].length:Int)-1)).toNat (0:Int)) 64) (Cs (Cg ([a3].getD (A8 (([a3].length:Int)-1)).toNat (0:Int)) 64) (Cs (Cg ((aB.Succ.getD ([a3].getD (A8 (([a3].length:Int)-1)).toNat (0:Int)).toNat []).getD (l9.getD ([a3].getD (A8 (([a3].length:Int)-1)).toNat (0:Int)).toNat (0:Int)).toNat (0:Int)) 64) (bif (!((H7 64 false (List.replicate 64 false) a3.toNat true).getD ((aB.Succ.getD ([a3].getD (A8 (([a3].length:Int)-1)).toNat (0:Int)).toNat []).getD (l9.getD ([a3].getD (A8 (([a3].length:Int)-1)).toNat (0:Int)).toNat (0:Int)).toNat (0:Int)).toNat false)) then(Cs (Cg ((aB.Succ.getD ([a3].getD (A8 (([a3].length:Int)-1)).toNat (0:Int)).toNat []).getD (l9.getD ([a3].getD (A8 (([a3].length:Int)-1)).toNat (0:Int)).toNat (0:Int)).toNat (0:Int)) 64) (Cs ([a3].length+([((aB.Succ.getD ([a3].getD (A8 (([a3].length:Int)-1)).toNat (0:Int)).toNat []).getD (l9.getD ([a3].getD (A8 (([a3].length:Int)-1)).toNat (0:Int)).toNat (0:Int)).toNat (0:Int))]:List Int).length≤room) (some (.done (.inr ((H7 64 false (H7 64 false (List.replicate 64 false) a3.toNat true) ((aB.Succ.getD ([a3].getD (A8 (([a3].length:Int)-1)).toNat (0:Int)).toNat []).getD (l9.getD ([a3].getD (A8 (([a3].length:Int)-1)).toNat (0:Int)).toNat (0:Int)).toNat (0:Int)).toNat true),(H7 64 (0:Int) l9 ([a3].getD (A8 (([a3].length:Int)-1)).toNat (0:Int)).toNat (A8 ((l9.getD ([a3].getD (A8 (([a3].length:Int)-1)).toNat (0:Int)).toNat (0:Int))+1))),([a3]++([((aB.Succ.getD ([a3].getD (A8 (([a3].length:Int)-1)).toNat (0:Int)).toNat []).getD (l9.getD ([a3].getD (A8 (([a3].length:Int)-1)).toNat (0:Int)).toNat (0:Int)).toNat (0:Int))]:List Int)))))))) else(some (.next (H7 64 (0:Int) l9 ([a3].getD (A8 (([a3].length:Int)-1)).toNat (0:Int)).toNat (A8 ((l9.getD ([a3].getD (A8 (([a3].length:Int)-1)).toNat (0:Int)).toNat (0:Int))+1)))))))))))) else(some (.done (.inl l9))))))
def Ee(aB:B2)(l1:List Bool)(l3:List Int):List Int→Option (LR (List Int) (List Int ⊕ (List Bool×List Int×List Int))):=
 fun(l32:List Int)=>(Cs (Cg (l3.getD (A8 ((l3.length:Int)-1)).toNat (0:Int)) 64) (Cs (Cg (l3.getD (A8 ((l3.length:Int)-1)).toNat (0:Int)) aB.Succ.length) (bif (decide (((l32.getD (l3.getD (A8 ((l3.length:Int)-1)).toNat (0:Int)).toNat (0:Int)):Int)<((aB.Succ.getD (l3.getD (A8 ((l3.length:Int)-1)).toNat (0:Int)).toNat []).length:Int))) then(Cs (Cg (l3.getD (A8 ((l3.length:Int)-1)).toNat (0:Int)) aB.Succ.length) (Cs (Cg (l3.getD (A8 ((l3.length:Int)-1)).toNat (0:Int)) 64) (Cs (Cg (l32.getD (l3.getD (A8 ((l3.length:Int)-1)).toNat (0:Int)).toNat (0:Int)) (aB.Succ.getD (l3.getD (A8 ((l3.length:Int)-1)).toNat (0:Int)).toNat []).length) (Cs (Cg (l3.getD (A8 ((l3.length:Int)-1)).toNat (0:Int)) 64) (Cs (Cg (l3.getD (A8 ((l3.length:Int)-1)).toNat (0:Int)) 64) (Cs (Cg ((aB.Succ.getD (l3.getD (A8 ((l3.length:Int)-1)).toNat (0:Int)).toNat []).getD (l32.getD (l3.getD (A8 ((l3.length:Int)-1)).toNat (0:Int)).toNat (0:Int)).toNat (0:Int)) 64) (bif (!(l1.getD ((aB.Succ.getD (l3.getD (A8 ((l3.length:Int)-1)).toNat (0:Int)).toNat []).getD (l32.getD (l3.getD (A8 ((l3.length:Int)-1)).toNat (0:Int)).toNat (0:Int)).toNat (0:Int)).toNat false)) then(Cs (Cg ((aB.Succ.getD (l3.getD (A8 ((l3.length:Int)-1)).toNat (0:Int)).toNat []).getD (l32.getD (l3.getD (A8 ((l3.length:Int)-1)).toNat (0:Int)).toNat (0:Int)).toNat (0:Int)) 64) (Cs (l3.length+([((aB.Succ.getD (l3.getD (A8 ((l3.length:Int)-1)).toNat (0:Int)).toNat []).getD (l32.getD (l3.getD (A8 ((l3.length:Int)-1)).toNat (0:Int)).toNat (0:Int)).toNat (0:Int))]:List Int).length≤room) (some (.done (.inr ((H7 64 false l1 ((aB.Succ.getD (l3.getD (A8 ((l3.length:Int)-1)).toNat (0:Int)).toNat []).getD (l32.getD (l3.getD (A8 ((l3.length:Int)-1)).toNat (0:Int)).toNat (0:Int)).toNat (0:Int)).toNat true),(H7 64 (0:Int) l32 (l3.getD (A8 ((l3.length:Int)-1)).toNat (0:Int)).toNat (A8 ((l32.getD (l3.getD (A8 ((l3.length:Int)-1)).toNat (0:Int)).toNat (0:Int))+1))),(l3++([((aB.Succ.getD (l3.getD (A8 ((l3.length:Int)-1)).toNat (0:Int)).toNat []).getD (l32.getD (l3.getD (A8 ((l3.length:Int)-1)).toNat (0:Int)).toNat (0:Int)).toNat (0:Int))]:List Int)))))))) else(some (.next (H7 64 (0:Int) l32 (l3.getD (A8 ((l3.length:Int)-1)).toNat (0:Int)).toNat (A8 ((l32.getD (l3.getD (A8 ((l3.length:Int)-1)).toNat (0:Int)).toNat (0:Int))+1)))))))))))) else(some (.done (.inl l32))))))
def Cd(aB:B2):(List Bool×List Int×List Int×List Int)→Option (LR (List Bool×List Int×List Int×List Int) (List Int)):=
 fun(s_:(List Bool×List Int×List Int×List Int))=>match s_ with|(l1,l2,l3,l4)=>(Cs (Cg (A8 ((l3.length:Int)-1)) l3.length) ((Ak (Ee aB l1 l3) l2).bind (fun x47=>(match x47 with|(.inl l33)=>(Cs (l4.length+([(l3.getD (A8 ((l3.length:Int)-1)).toNat (0:Int))]:List Int).length≤room) (Cs (0≤(A8 ((l3.length:Int)-1))∧0+(A8 ((l3.length:Int)-1)).toNat≤l3.length) (bif (decide (((0:Int):Int)<((l3.take (A8 ((l3.length:Int)-1)).toNat).length:Int))) then(some (.next (l1,l33,(l3.take (A8 ((l3.length:Int)-1)).toNat),(l4++([(l3.getD (A8 ((l3.length:Int)-1)).toNat (0:Int))]:List Int))))) else((Cq (l4++([(l3.getD (A8 ((l3.length:Int)-1)).toNat (0:Int))]:List Int))).bind fun x51=>(Cs ((l4++([(l3.getD (A8 ((l3.length:Int)-1)).toNat (0:Int))]:List Int)).length=x51.length) (some (.done x51)))))))|(.inr (l34,l35,l36))=>(some (.next (l34,l35,l36,l4)))))))
def Wq(Γ:Ga)(aB:B2)(a3:Int)(r:List Int):Exit→St→Prop:=fK Tryz.prog Γ Tryz.f50.results.toList [] (Z33 r 20000) [(20000,.tok 1 3 r.length)]
def Q38(l1:List Bool):=(fun i=>eB (l1.getD i false))
def Q21(l3:List Int):=(l3.getD (A8 ((l3.length:Int)-1)).toNat (0:Int))
def Q35(l4:List Int)(l3:List Int):=(l4++([(Q21 l3)]:List Int))
def Q31(l10:List Int):=(fun i=>Ag (l10.getD i 0))
def Q37(l33:List Int):=(fun i=>Ag (l33.getD i 0))
def Q24:=(fun n_=>Cu n_ [2,5,6,25,36007])
def Q27(a3:Int):=(fun i=>Ag ([a3].getD i 0))
def Q20(a3:Int):=([a3].getD (A8 (([a3].length:Int)-1)).toNat (0:Int))
def Q34(a3:Int):=(([]:List Int)++([(Q20 a3)]:List Int))
def Q42(a3:Int):=(fun i=>Ag ((Q34 a3).getD i 0))
def Q41(l4:List Int)(l3:List Int):=(fun i=>Ag ((Q35 l4 l3).getD i 0))
def Q28:AV:=Z9
def Q30:=(fun i=>Ag (([]:List Int).getD i 0))
def Q26(l3:List Int):=(0+(A8 ((l3.length:Int)-1)).toNat)
def Q25(a3:Int):=(0+(A8 (([a3].length:Int)-1)).toNat)
def Q40(a3:Int):=([a3].take (A8 (([a3].length:Int)-1)).toNat)
def Q29:=(fun i=>Ag ((List.replicate 64 (0:Int)).getD i 0))
def Q22(aB:B2):List AV:=[(Z18 aB.Succ),(Z18 aB.Pred)]
def Q23(a3:Int):=(fun i=>eB ((H7 64 false (List.replicate 64 false) a3.toNat true).getD i false))
def Q33(aB:B2)(l3:List Int)(l32:List Int):=((aB.Succ.getD (Q21 l3).toNat []).getD (l32.getD (Q21 l3).toNat (0:Int)).toNat (0:Int))
def Q32(aB:B2)(a3:Int)(l9:List Int):=((aB.Succ.getD (Q20 a3).toNat []).getD (l9.getD (Q20 a3).toNat (0:Int)).toNat (0:Int))
def Q39:=(Z46:St)
def Q43(a3:Int):List (Nat×AV):=[Z0,Z43,Z39,(7,(.vsl 36007 (Q34 a3).length)),(8,(.vsl 25 (Q25 a3)))]
def Q36(a3:Int)(aB:B2):=(⟨[Z0,Z43,Z39,(7,(.vsl 36007 ([]:List Int).length)),(8,(.vsl 25 [a3].length)),(9,(Br (Q20 a3)))],[(Z53 (Q22 aB)),(Z51 (Q23 a3)),(Z47 Q29),(25,.arr 1 3 ([a3].length) (Q27 a3)),(36007,.arr 1 3 (([]:List Int).length) Q30)],[]⟩:St)
def E3(aB:B2)(a3:Int):Option (List Int):=
 ((Lt (S:=(List Bool×List Int×List Int×List Int)) (X:=List Int) ((Jl aB).bind fun x5=>((bif ((!x5)==false) then Ew a3 (aB.Succ.length:Int) else some false).bind fun x6=>(bif (bif (!x5) then true else(!x6)) then(some (.done ([]:List Int))) else(Cs (Cg a3 64) (Cs (Cg (A8 (([a3].length:Int)-1)) [a3].length) ((Ak (Ly aB a3) (List.replicate 64 (0:Int))).bind (fun x24=>(match x24 with|(.inl l10)=>(Cs (([]:List Int).length+([([a3].getD (A8 (([a3].length:Int)-1)).toNat (0:Int))]:List Int).length≤room) (Cs (0≤(A8 (([a3].length:Int)-1))∧0+(A8 (([a3].length:Int)-1)).toNat≤[a3].length) (bif (decide (((0:Int):Int)<(([a3].take (A8 (([a3].length:Int)-1)).toNat).length:Int))) then(some (.next ((H7 64 false (List.replicate 64 false) a3.toNat true),l10,([a3].take (A8 (([a3].length:Int)-1)).toNat),(([]:List Int)++([([a3].getD (A8 (([a3].length:Int)-1)).toNat (0:Int))]:List Int))))) else((Cq (([]:List Int)++([([a3].getD (A8 (([a3].length:Int)-1)).toNat (0:Int))]:List Int))).bind fun x28=>(Cs ((([]:List Int)++([([a3].getD (A8 (([a3].length:Int)-1)).toNat (0:Int))]:List Int)).length=x28.length) (some (.done x28)))))))|(.inr (l11,l12,l13))=>(some (.next (l11,l12,l13,([]:List Int)))))))))))) (Cd aB)).bind (fun x54=>(some x54)))
theorem Oc(aB:B2)(a3:Int)(r:List Int)(h:E3 aB a3=some r):Spec Tryz.prog 50 [(.agg (Mi aB)),(.int .i64 a3)] [] (AV.list 1 Ag 0 r (.own 20000)) [(20000,.tok 1 3 r.length)]:=by
 refine Af mix Tryz.func50 (fun Γ hq=>?_);have hΓ:=hq.own;unfold E3 at h;refine gR hq [1,2] [2] [(4,Q28)] [] (c1 (H0 1 Ag (0:Int))) ?_;obtain⟨x54,hx54,h⟩:=bind_some h;refine gS hx54 (fun(s_:(List Bool×List Int×List Int×List Int))=>match s_ with|(l1,l2,l3,l4)=>0) (fun(s_:(List Bool×List Int×List Int×List Int))=>match s_ with|(l1,l2,l3,l4)=>(⟨[Z0,Z43,Z39,(7,(.vsl 36007 l4.length)),(8,(.vsl 25 l3.length))],[(Z53 (Q22 aB)),(Z51 (Q38 l1)),(Z34 l2),(Z2 25 l3),(Z2 36007 l4)],[]⟩:St)) (fun r_=>aR (Wq Γ aB a3 r_)) ?_ ?_ ?_
 ·clear h hx54;intro y h;obtain⟨x5,hx5,h⟩:=bind_some h;obtain⟨x6,hx6,h⟩:=bind_some h;refine gR hq [1,2,21] [2] [] [(Z6 x5),(Z6 x6)] (ci (Zn aB x5 hx5) (ci (gI ((!x5)==false)) (ci (gI ((!x5)==false)) (ci (gI ((!x5)==false)) (ci (gI ((!x5)==false)) (ci (fun(hg:((!x5)==false)=true)=>(I7 a3 (aB.Succ.length:Int) x6 (Dd hg hx6))) (ci (gI ((!x5)==false)) (c1 (Wu (!x5)))))))))) ?_;refine gC h (fun h=>?_) (fun h=>?_)
  ·refine gR hq [4] [] [(4,Q28)] [] (c1 (H0 1 Ag (0:Int))) ?_;refine Rt (⟨[(4,Q28)],[],[]⟩:St) ?_;cases h;exact gJo (Pg (J6 [(6004,20000)] (show Le Γ _ Q39 from Le.trans (Ej (st':=⟨[(4,Q28)],[],[]⟩) [4] [] hq) (Le.trans (le_tag (t:=4) (nm:=6004) (sz':=1) Q30 3 rfl rfl (.inl ⟨rfl,rfl⟩) (fun h_=>absurd h_ (by decide))) (Ej (st':=Q39) [4] [6004] hq)))))
  ·refine gR hq [1,2,5] [2,5] [Z43] [] trivial ?_;refine Jy (Ph 5 (show ∀ k_,k_<64→AVleL ((fun i_=>AV.eraseAll (fun n_=>Cu n_ [2,5]) ((fun i=>(((List.replicate 64 [(.bool false)]).flatten).drop (i*1)).take 1) i_)) k_) ((fun i=>eB ((List.replicate 64 false).getD i false)) k_) from(Xm (e:=eB) (d:=false) (z:=[(.bool false)]) rfl rfl rfl))) ?_;refine gR hq [1,2,5,6] [2,5,6] [Z39] [] trivial ?_;refine Jy (Ph 6 (show ∀ k_,k_<64→AVleL ((fun i_=>AV.eraseAll (fun n_=>Cu n_ [2,5,6]) ((fun i=>(((List.replicate 64 [Wn]).flatten).drop (i*1)).take 1) i_)) k_) (Q29 k_) from(Xm (e:=Ag) (d:=(0:Int)) (z:=[Wn]) rfl rfl rfl))) ?_;refine gR hq [1,2,5,6,7] [2,5,6] [(7,Q28)] [] (c1 (H0 1 Ag (0:Int))) ?_;obtain⟨hc7,h⟩:=Aa h;refine gR hq [1,2,5,6,7] [2,5,6] [] [] (ci hc7 (c1 (Eq.refl 64))) ?_;refine Jy (Ph 5 (show ∀ k_,k_<64→AVleL ((fun i_=>AV.eraseAll (fun n_=>Cu n_ [2,5,6]) ((Ip (fun i=>eB ((List.replicate 64 false).getD i false)) a3.toNat 0 [(.bool true)]) i_)) k_) ((Q23 a3) k_) from(Bx rfl (fun k_ hk_=>(congrArg (AV.eraseAll (fun n_=>Cu n_ [2,5,6])) ((L4 (fun _ _=>rfl) (K6 hc7) rfl) k_ hk_)).trans rfl)))) ?_;refine gR hq [2,5,6,7,8] [2,5,6,25] [(25,(.vsl 25 1))] [] trivial ?_;refine Jy (Le.trans (Ph 25 (show ∀ k_,k_<1→AVleL ((fun i_=>AV.eraseAll (fun n_=>Cu n_ [2,5,6,25]) ((fun i_=>([(Br a3)].drop (i_*1)).take 1) i_)) k_) ((Q27 a3) k_) from(Bx rfl (pw_snoc (n:=0) pw_nil rfl)))) (M8 (fun(k_:Nat) u=>(Et u [(8,(.vsl 25 k_))] [(25,.arr 1 3 k_ (Q27 a3))])) (show 1=[a3].length from rfl))) ?_;obtain⟨hc8,h⟩:=Aa h;refine gR hq [2,5,6,7,8,9] [2,5,6,25] [] [] (ci hc8 (c1 (Eq.refl ([a3].length)))) ?_;refine Jy (st':=(Q36 a3 aB)) (Le.trans (Ej (st':=⟨[Z0,Z43,Z39,(7,Q28),(8,(.vsl 25 [a3].length)),(9,(Br (Q20 a3)))],[(Z53 (Q22 aB)),(Z51 (Q23 a3)),(Z47 Q29),(25,.arr 1 3 ([a3].length) (Q27 a3))],[]⟩) [2,5,6,7,8,9] [2,5,6,25] hq) (Le.trans (le_arr (t:=7) (nm:=36007) (sz':=1) Q30 3 rfl rfl) (Ej (st':=(Q36 a3 aB)) [2,5,6,7,8,9] [2,5,6,25,36007] hq))) ?_;obtain⟨x24,hx24,h⟩:=bind_some h;refine gL hq hx24 [2,5,6,7,8,9] [2,5,6,25,36007] (fun u l9=>(Et u [] [(Z34 l9)])) (fun u x_=>match x_ with|(.inl l10)=>aG Γ (.exit 0) (Et u [] [(Z47 (Q31 l10))])|(.inr (l11,l12,l13))=>aG Γ (.goto 0) (Px [2,5,6,7,8] [2,5,6,25,36007] u [(8,(.vsl 25 l13.length))] [(5,.arr 1 111 64 (fun i=>eB (l11.getD i false))),(Z34 l12),(Z2 25 l13)])) ?_ ?_
   ·intro l9 y h;unfold Ly at h;obtain⟨hc14,h⟩:=Aa h;obtain⟨hc15,h⟩:=Aa h;refine gR hq [2,5,6,7,8,9,41] [2,5,6,25,36007] [] [] (ci hc14 (ci (Eq.refl 64) (c1 hc15))) ?_;refine gC h (fun h=>?_) (fun h=>?_)
    ·obtain⟨hc16,h⟩:=Aa h;obtain⟨hc17,h⟩:=Aa h;obtain⟨hc18,h⟩:=Aa h;refine gR hq [2,5,6,7,8,9,10] [2,5,6,25,36007] [] [] (ci hc16 (ci hc17 (ci (Eq.refl 64) (c1 hc18)))) ?_;obtain⟨hc19,h⟩:=Aa h;obtain⟨hc20,h⟩:=Aa h;refine gR hq [2,5,6,7,8,9,10] [2,5,6,25,36007] [] [] (ci hc19 (ci (Eq.refl 64) (ci hc20 (c1 (Eq.refl 64))))) ?_;refine Jy (Ph 6 (show ∀ k_,k_<64→AVleL ((fun i_=>AV.eraseAll Q24 ((Ip (fun i=>Ag (l9.getD i 0)) (Q20 a3).toNat 0 [(.int .i64 (A8 ((l9.getD (Q20 a3).toNat (0:Int))+1)))]) i_)) k_) ((fun i=>Ag ((H7 64 (0:Int) l9 (Q20 a3).toNat (A8 ((l9.getD (Q20 a3).toNat (0:Int))+1))).getD i 0)) k_) from(Bx rfl (fun k_ hk_=>(congrArg (AV.eraseAll Q24) ((L4 (fun _ _=>rfl) (K6 hc20) rfl) k_ hk_)).trans rfl)))) ?_;obtain⟨hc21,h⟩:=Aa h;refine gR hq [2,5,6,7,8,9,10,60] [2,5,6,25,36007] [] [] (ci hc21 (c1 (Eq.refl 64))) ?_;refine gC h (fun h=>?_) (fun h=>?_)
     ·obtain⟨hc22,h⟩:=Aa h;refine gR hq [2,5,6,7,8,10] [2,5,6,25,36007] [] [] (ci hc22 (c1 (Eq.refl 64))) ?_;refine Jy (Ph 5 (show ∀ k_,k_<64→AVleL ((fun i_=>AV.eraseAll Q24 ((Ip (Q23 a3) (Q32 aB a3 l9).toNat 0 [(.bool true)]) i_)) k_) ((fun i=>eB ((H7 64 false (H7 64 false (List.replicate 64 false) a3.toNat true) (Q32 aB a3 l9).toNat true).getD i false)) k_) from(Bx rfl (fun k_ hk_=>(congrArg (AV.eraseAll Q24) ((L4 (fun _ _=>rfl) (K6 hc22) rfl) k_ hk_)).trans rfl)))) ?_;obtain⟨hc23,h⟩:=Aa h;refine gR hq [2,5,6,7,8] [2,5,6,25,36007] [(65,(Z22 (Q32 aB a3 l9)))] [] (ci (Dy 1 Ag (0:Int) ([(Q32 aB a3 l9)]:List Int)) (ci (Eq.refl ([a3].length)) (c1 hc23))) ?_;cases h;exact gO (Eb (Le.trans (Le.trans (Ph 25 (show ∀ k_,k_<([a3].length+([(Q32 aB a3 l9)]:List Int).length)→AVleL ((fun i_=>AV.eraseAll Q24 ((Ht ([a3].length) (Q27 a3) (fun i=>Ag (([(Q32 aB a3 l9)]:List Int).getD i 0))) i_)) k_) ((fun i=>Ag (([a3]++([(Q32 aB a3 l9)]:List Int)).getD i 0)) k_) from(Bx (Je _ _) (fun k_ hk_=>(congrArg (AV.eraseAll Q24) ((Ql (fun _ _=>rfl) (fun _ _=>rfl)) k_ hk_)).trans rfl)))) (M8 (fun(k_:Nat) u=>(Et u [(8,(.vsl 25 k_))] [(25,.arr 1 3 k_ (fun i=>Ag (([a3]++([(Q32 aB a3 l9)]:List Int)).getD i 0)))])) (show([a3].length+([(Q32 aB a3 l9)]:List Int).length)=([a3]++([(Q32 aB a3 l9)]:List Int)).length from(Je _ _)))) E9))
     ·cases h;exact gN (Ej [2,5,6,7,8,9] [2,5,6,25,36007] hq)
    ·cases h;exact gO (Eb (Ej [2,5,6,7,8,9] [2,5,6,25,36007] hq))
   ·clear hx24;rcases x24 with l10|⟨l11,l12,l13⟩
    ·refine gA ?_;obtain⟨hc26,h⟩:=Aa h;refine gR hq [2,5,6,7,8] [2,5,6,25,36007] [(69,(Z22 (Q20 a3)))] [] (ci (Dy 1 Ag (0:Int) ([(Q20 a3)]:List Int)) (ci (Eq.refl (([]:List Int).length)) (c1 hc26))) ?_;refine Jy (Le.trans (Ph 36007 (show ∀ k_,k_<(([]:List Int).length+([(Q20 a3)]:List Int).length)→AVleL ((fun i_=>AV.eraseAll Q24 ((Ht (([]:List Int).length) Q30 (fun i=>Ag (([(Q20 a3)]:List Int).getD i 0))) i_)) k_) ((Q42 a3) k_) from(Bx (Je _ _) (fun k_ hk_=>(congrArg (AV.eraseAll Q24) ((Ql (fun _ _=>rfl) (fun _ _=>rfl)) k_ hk_)).trans rfl)))) (M8 (fun(k_:Nat) u=>(Et u (Z52 36007 k_) [(36007,.arr 1 3 k_ (Q42 a3))])) (show(([]:List Int).length+([(Q20 a3)]:List Int).length)=(Q34 a3).length from(Je _ _)))) ?_;obtain⟨hc27,h⟩:=Aa h;refine gR hq [2,5,6,7,8] [2,5,6,25,36007] [] [] (c1 hc27) ?_;refine Rt (⟨[Z0,Z43,Z39,(7,(.vsl 36007 (Q34 a3).length)),(8,(.vsub 25 [a3].length 0 (Q25 a3)))],[(Z53 (Q22 aB)),(Z51 (Q23 a3)),(Z47 (Q31 l10)),(25,.arr 1 3 ([a3].length) (Q27 a3)),(36007,.arr 1 3 ((Q34 a3).length) (Q42 a3))],[]⟩:St) ?_;refine Jy (Le.trans (Le.trans (le_trunc (t:=8) (r:=25) (k:=(Q25 a3)) rfl rfl hc27.2 (by kernel_rfl) (.row (by kernel_rfl) (.arr (fun _=>by kernel_rfl) (.arr (fun _=>by kernel_rfl) (.arr (fun _=>by kernel_rfl) (.arr (fun _=>by kernel_rfl) .nil))))) (by rw[hΓ];rfl)) (Ke (st':=⟨(Q43 a3),[(Z53 (Q22 aB)),(Z51 (Q23 a3)),(Z47 (Q31 l10)),(25,.arr 1 3 (Q25 a3) (Q27 a3)),(36007,.arr 1 3 ((Q34 a3).length) (Q42 a3))],[]⟩) (by kernel_rfl))) (Le.trans (M9 (st':=⟨(Q43 a3),[(Z53 (Q22 aB)),(Z51 (Q23 a3)),(Z47 (Q31 l10)),(25,.arr 1 3 (Q25 a3) (fun i=>Ag ((Q40 a3).getD i 0))),(36007,.arr 1 3 ((Q34 a3).length) (Q42 a3))],[]⟩) (TmpsLe.refl _) (.same (.same (.same (.arr (take_le (e:=Ag) (d:=(0:Int))) (.same .nil)))))) (Ke (congrArg (fun k_:Nat=>(⟨[Z0,Z43,Z39,(7,(.vsl 36007 (Q34 a3).length)),(8,(.vsl 25 k_))],[(Z53 (Q22 aB)),(Z51 (Q23 a3)),(Z47 (Q31 l10)),(25,.arr 1 3 k_ (fun i=>Ag ((Q40 a3).getD i 0))),(36007,.arr 1 3 ((Q34 a3).length) (Q42 a3))],[]⟩:St)) (show(Q25 a3)=(Q40 a3).length from take_len hc27.2))))) ?_;refine Aj hq [2,5,6,7,8,78] [2,5,6,25,36007] ?_;refine gC h (fun h=>?_) (fun h=>?_)
     ·cases h;exact gJn (Ej [2,5,6,7,8] [2,5,6,25,36007] hq)
     ·obtain⟨x28,hx28,h⟩:=bind_some h;obtain⟨hc29,h⟩:=Aa h;refine gR hq [7] [36007] [] [⟨[(36007,34000)],[],(.tuple []),[(Z2 34000 x28)],[]⟩] (c1 (Hp (Q34 a3) x28 hx28)) ?_;refine Jy (M8 (fun(k_:Nat) u=>(Et u (Z52 36007 k_) [])) (show(Q34 a3).length=x28.length from hc29)) ?_;refine Aj hq [4] [36007] ?_;refine Rt (⟨[(4,(.vsl 36007 x28.length))],[(Z2 36007 x28)],[]⟩:St) ?_;cases h;exact gJo (Pg (J6 [(36007,20000)] (Le.trans (Ix (nm:=36007) (sz:=1) (n:=x28.length) (e:=3) (f:=(fun i=>Ag (x28.getD i 0))) (g:=(fun i=>Ag (x28.getD i 0))) rfl ⟨rfl,trivial⟩ (fun _ _=>rfl) (by rw[hΓ];rfl)) (Ke (st':=(Z29 x28 36007 x28.length)) (by kernel_rfl)))))
    ·refine gA' (fun st' hl30=>?_);cases h;exact gJn (Le.trans hl30 E9)
 ·clear h hx54;rintro⟨l1,l2,l3,l4⟩ y h;unfold Cd at h;obtain⟨hc31,h⟩:=Aa h;refine gR hq [2,5,6,7,8,9] [2,5,6,25,36007] [] [] (ci hc31 (c1 (Eq.refl l3.length))) ?_;obtain⟨x47,hx47,h⟩:=bind_some h;refine gL hq hx47 [2,5,6,7,8,9] [2,5,6,25,36007] (fun u l32=>(Et u [] [(Z34 l32)])) (fun u x_=>match x_ with|(.inl l33)=>aG Γ (.exit 0) (Et u [] [(Z47 (Q37 l33))])|(.inr (l34,l35,l36))=>aG Γ (.goto 0) (Px [2,5,6,7,8] [2,5,6,25,36007] u [(8,(.vsl 25 l36.length))] [(5,.arr 1 111 64 (fun i=>eB (l34.getD i false))),(Z34 l35),(Z2 25 l36)])) ?_ ?_
  ·intro l32 y h;unfold Ee at h;obtain⟨hc37,h⟩:=Aa h;obtain⟨hc38,h⟩:=Aa h;refine gR hq [2,5,6,7,8,9,41] [2,5,6,25,36007] [] [] (ci hc37 (ci (Eq.refl 64) (c1 hc38))) ?_;refine gC h (fun h=>?_) (fun h=>?_)
   ·obtain⟨hc39,h⟩:=Aa h;obtain⟨hc40,h⟩:=Aa h;obtain⟨hc41,h⟩:=Aa h;refine gR hq [2,5,6,7,8,9,10] [2,5,6,25,36007] [] [] (ci hc39 (ci hc40 (ci (Eq.refl 64) (c1 hc41)))) ?_;obtain⟨hc42,h⟩:=Aa h;obtain⟨hc43,h⟩:=Aa h;refine gR hq [2,5,6,7,8,9,10] [2,5,6,25,36007] [] [] (ci hc42 (ci (Eq.refl 64) (ci hc43 (c1 (Eq.refl 64))))) ?_;refine Jy (Ph 6 (show ∀ k_,k_<64→AVleL ((fun i_=>AV.eraseAll Q24 ((Ip (fun i=>Ag (l32.getD i 0)) (Q21 l3).toNat 0 [(.int .i64 (A8 ((l32.getD (Q21 l3).toNat (0:Int))+1)))]) i_)) k_) ((fun i=>Ag ((H7 64 (0:Int) l32 (Q21 l3).toNat (A8 ((l32.getD (Q21 l3).toNat (0:Int))+1))).getD i 0)) k_) from(Bx rfl (fun k_ hk_=>(congrArg (AV.eraseAll Q24) ((L4 (fun _ _=>rfl) (K6 hc43) rfl) k_ hk_)).trans rfl)))) ?_;obtain⟨hc44,h⟩:=Aa h;refine gR hq [2,5,6,7,8,9,10,60] [2,5,6,25,36007] [] [] (ci hc44 (c1 (Eq.refl 64))) ?_;refine gC h (fun h=>?_) (fun h=>?_)
    ·obtain⟨hc45,h⟩:=Aa h;refine gR hq [2,5,6,7,8,10] [2,5,6,25,36007] [] [] (ci hc45 (c1 (Eq.refl 64))) ?_;refine Jy (Ph 5 (show ∀ k_,k_<64→AVleL ((fun i_=>AV.eraseAll Q24 ((Ip (Q38 l1) (Q33 aB l3 l32).toNat 0 [(.bool true)]) i_)) k_) ((fun i=>eB ((H7 64 false l1 (Q33 aB l3 l32).toNat true).getD i false)) k_) from(Bx rfl (fun k_ hk_=>(congrArg (AV.eraseAll Q24) ((L4 (fun _ _=>rfl) (K6 hc45) rfl) k_ hk_)).trans rfl)))) ?_;obtain⟨hc46,h⟩:=Aa h;refine gR hq [2,5,6,7,8] [2,5,6,25,36007] [(65,(Z22 (Q33 aB l3 l32)))] [] (ci (Dy 1 Ag (0:Int) ([(Q33 aB l3 l32)]:List Int)) (ci (Eq.refl l3.length) (c1 hc46))) ?_;cases h;exact gO (Eb (Le.trans (Le.trans (Ph 25 (show ∀ k_,k_<(l3.length+([(Q33 aB l3 l32)]:List Int).length)→AVleL ((fun i_=>AV.eraseAll Q24 ((Ht l3.length (fun i=>Ag (l3.getD i 0)) (fun i=>Ag (([(Q33 aB l3 l32)]:List Int).getD i 0))) i_)) k_) ((fun i=>Ag ((l3++([(Q33 aB l3 l32)]:List Int)).getD i 0)) k_) from(Bx (Je _ _) (fun k_ hk_=>(congrArg (AV.eraseAll Q24) ((Ql (fun _ _=>rfl) (fun _ _=>rfl)) k_ hk_)).trans rfl)))) (M8 (fun(k_:Nat) u=>(Et u [(8,(.vsl 25 k_))] [(25,.arr 1 3 k_ (fun i=>Ag ((l3++([(Q33 aB l3 l32)]:List Int)).getD i 0)))])) (show(l3.length+([(Q33 aB l3 l32)]:List Int).length)=(l3++([(Q33 aB l3 l32)]:List Int)).length from(Je _ _)))) E9))
    ·cases h;exact gN (Ej [2,5,6,7,8,9] [2,5,6,25,36007] hq)
   ·cases h;exact gO (Eb (Ej [2,5,6,7,8,9] [2,5,6,25,36007] hq))
  ·clear hx47;rcases x47 with l33|⟨l34,l35,l36⟩
   ·refine gA ?_;obtain⟨hc49,h⟩:=Aa h;refine gR hq [2,5,6,7,8] [2,5,6,25,36007] [(69,(Z22 (Q21 l3)))] [] (ci (Dy 1 Ag (0:Int) ([(Q21 l3)]:List Int)) (ci (Eq.refl l4.length) (c1 hc49))) ?_;refine Jy (Le.trans (Ph 36007 (show ∀ k_,k_<(l4.length+([(Q21 l3)]:List Int).length)→AVleL ((fun i_=>AV.eraseAll Q24 ((Ht l4.length (fun i=>Ag (l4.getD i 0)) (fun i=>Ag (([(Q21 l3)]:List Int).getD i 0))) i_)) k_) ((Q41 l4 l3) k_) from(Bx (Je _ _) (fun k_ hk_=>(congrArg (AV.eraseAll Q24) ((Ql (fun _ _=>rfl) (fun _ _=>rfl)) k_ hk_)).trans rfl)))) (M8 (fun(k_:Nat) u=>(Et u (Z52 36007 k_) [(36007,.arr 1 3 k_ (Q41 l4 l3))])) (show(l4.length+([(Q21 l3)]:List Int).length)=(Q35 l4 l3).length from(Je _ _)))) ?_;obtain⟨hc50,h⟩:=Aa h;refine gR hq [2,5,6,7,8] [2,5,6,25,36007] [] [] (c1 hc50) ?_;refine Rt (⟨[Z0,Z43,Z39,(7,(.vsl 36007 (Q35 l4 l3).length)),(8,(.vsub 25 l3.length 0 (Q26 l3)))],[(Z53 (Q22 aB)),(Z51 (Q38 l1)),(Z47 (Q37 l33)),(Z2 25 l3),(36007,.arr 1 3 ((Q35 l4 l3).length) (Q41 l4 l3))],[]⟩:St) ?_;refine Jy (Le.trans (Le.trans (le_trunc (t:=8) (r:=25) (k:=(Q26 l3)) rfl rfl hc50.2 (by kernel_rfl) (.row (by kernel_rfl) (.arr (fun _=>by kernel_rfl) (.arr (fun _=>by kernel_rfl) (.arr (fun _=>by kernel_rfl) (.arr (fun _=>by kernel_rfl) .nil))))) (by rw[hΓ];rfl)) (Ke (st':=⟨[Z0,Z43,Z39,(7,(.vsl 36007 (Q35 l4 l3).length)),(8,(.vsl 25 (Q26 l3)))],[(Z53 (Q22 aB)),(Z51 (Q38 l1)),(Z47 (Q37 l33)),(25,.arr 1 3 (Q26 l3) (fun i=>Ag (l3.getD i 0))),(36007,.arr 1 3 ((Q35 l4 l3).length) (Q41 l4 l3))],[]⟩) (by kernel_rfl))) (Le.trans (M9 (st':=⟨[Z0,Z43,Z39,(7,(.vsl 36007 (Q35 l4 l3).length)),(8,(.vsl 25 (Q26 l3)))],[(Z53 (Q22 aB)),(Z51 (Q38 l1)),(Z47 (Q37 l33)),(25,.arr 1 3 (Q26 l3) (fun i=>Ag ((l3.take (A8 ((l3.length:Int)-1)).toNat).getD i 0))),(36007,.arr 1 3 ((Q35 l4 l3).length) (Q41 l4 l3))],[]⟩) (TmpsLe.refl _) (.same (.same (.same (.arr (take_le (e:=Ag) (d:=(0:Int))) (.same .nil)))))) (Ke (congrArg (fun k_:Nat=>(⟨[Z0,Z43,Z39,(7,(.vsl 36007 (Q35 l4 l3).length)),(8,(.vsl 25 k_))],[(Z53 (Q22 aB)),(Z51 (Q38 l1)),(Z47 (Q37 l33)),(25,.arr 1 3 k_ (fun i=>Ag ((l3.take (A8 ((l3.length:Int)-1)).toNat).getD i 0))),(36007,.arr 1 3 ((Q35 l4 l3).length) (Q41 l4 l3))],[]⟩:St)) (show(Q26 l3)=(l3.take (A8 ((l3.length:Int)-1)).toNat).length from take_len hc50.2))))) ?_;refine Aj hq [2,5,6,7,8,78] [2,5,6,25,36007] ?_;refine gC h (fun h=>?_) (fun h=>?_)
    ·cases h;exact gJn (Ej [2,5,6,7,8] [2,5,6,25,36007] hq)
    ·obtain⟨x51,hx51,h⟩:=bind_some h;obtain⟨hc52,h⟩:=Aa h;refine gR hq [7] [36007] [] [⟨[(36007,34000)],[],(.tuple []),[(Z2 34000 x51)],[]⟩] (c1 (Hp (Q35 l4 l3) x51 hx51)) ?_;refine Jy (M8 (fun(k_:Nat) u=>(Et u (Z52 36007 k_) [])) (show(Q35 l4 l3).length=x51.length from hc52)) ?_;refine Aj hq [4] [36007] ?_;refine Rt (⟨[(4,(.vsl 36007 x51.length))],[(Z2 36007 x51)],[]⟩:St) ?_;cases h;exact gJo (Pg (J6 [(36007,20000)] (Le.trans (Ix (nm:=36007) (sz:=1) (n:=x51.length) (e:=3) (f:=(fun i=>Ag (x51.getD i 0))) (g:=(fun i=>Ag (x51.getD i 0))) rfl ⟨rfl,trivial⟩ (fun _ _=>rfl) (by rw[hΓ];rfl)) (Ke (st':=(Z29 x51 36007 x51.length)) (by kernel_rfl)))))
   ·refine gA' (fun st' hl53=>?_);cases h;exact gJn (Le.trans hl53 E9)
 ·clear hx54;refine R0 (fun st' hk=>?_);obtain rfl:=OI h;exact gK hk
def Mp(aD:Int)(aY:Int):Option (Int×Int):=
 (some ((Hs ((Hs ((Hs ((Ro .u64 aD (32:Int))*(Ro .u64 aY (32:Int))))+(Ro .u64 (Hs ((Hs ((Ro .u64 aD (32:Int))*(J9 .and .u64 aY (4294967295:Int))))+(Ro .u64 (Hs ((J9 .and .u64 aD (4294967295:Int))*(J9 .and .u64 aY (4294967295:Int)))) (32:Int)))) (32:Int))))+(Ro .u64 (Hs ((J9 .and .u64 (Hs ((Hs ((Ro .u64 aD (32:Int))*(J9 .and .u64 aY (4294967295:Int))))+(Ro .u64 (Hs ((J9 .and .u64 aD (4294967295:Int))*(J9 .and .u64 aY (4294967295:Int)))) (32:Int)))) (4294967295:Int))+(Hs ((J9 .and .u64 aD (4294967295:Int))*(Ro .u64 aY (32:Int)))))) (32:Int)))),(Hs (aD*aY))))
theorem Wz(aD:Int)(aY:Int)(r:(Int×Int))(h:Mp aD aY=some r):Spec Tryz.prog 114 [(.int .u64 aD),(.int .u64 aY)] [] (.tuple [(.int .u64 r.1),(.int .u64 r.2)]) []:=by
 refine Af mix Tryz.func114 (fun Γ hq=>?_);unfold Mp at h;refine Aj hq [0,1] [] ?_;refine Aj hq [0,1,6] [] ?_;refine gR hq [0,1,6,7] [] [] [] (c1 (show(0≤(32:Int)) from(by decide))) ?_;refine Aj hq [0,1,6,7,8] [] ?_;refine gR hq [0,1,6,7,8,9] [] [] [] (c1 (show(0≤(32:Int)) from(by decide))) ?_;refine Aj hq [0,1,6,7,8,9,10] [] ?_;refine gR hq [0,1,6,7,9,11] [] [] [] (c1 (show(0≤(32:Int)) from(by decide))) ?_;refine Aj hq [0,1,6,7,9,11,12] [] ?_;refine gR hq [0,1,6,7,9,12,13] [] [] [] (c1 (show(0≤(32:Int)) from(by decide))) ?_;refine Aj hq [0,1,7,9,12,13] [] ?_;refine gR hq [0,1,4] [] [] [] (c1 (show(0≤(32:Int)) from(by decide))) ?_;refine Aj hq [4,5] [] ?_;cases h;exact Du []
def H4(aD:Int)(aY:Int):Option (Int×Int):=
 ((Mp aD aY).bind fun x1=>(some (x1.1,x1.2)))
theorem S8(aD:Int)(aY:Int)(r:(Int×Int))(h:H4 aD aY=some r):Spec Tryz.prog 103 [(.int .u64 aD),(.int .u64 aY)] [] (.tuple [(.int .u64 r.1),(.int .u64 r.2)]) []:=by
 refine Af mix Tryz.func103 (fun Γ hq=>?_);unfold H4 at h;refine Aj hq [0,1] [] ?_;refine gCt false ?_;obtain⟨x1,hx1,h⟩:=bind_some h;refine gR hq [8,9] [] [] [⟨[],[],(.tuple [(.int .u64 x1.1),(.int .u64 x1.2)]),[],[]⟩] (c1 (Wz aD aY x1 hx1)) ?_;refine Aj hq [4,5] [] ?_;cases h;exact Du []
def Bp :(Int×List Int)→Option (LR (Int×List Int) (List Int)):=
 fun((i7,l8):(Int×List Int))=>(bif (decide (i7<(l8.length:Int))) then(Cs (0≤i7∧0+i7.toNat≤l8.length) (Cs (0≤i7∧0+i7.toNat≤l8.length) (some (.next ((A8 (i7+((Nat.min ((0+i7.toNat)-0) (l8.length-(0+i7.toNat))):Int))),(cpL l8 (0+i7.toNat) (Nat.min ((0+i7.toNat)-0) (l8.length-(0+i7.toNat))) (fun i=>l8.getD (0+i) 0))))))) else(some (.done l8)))
def Q44(x3:(Int×Int)):=(List.replicate (A8 x3.2).toNat (0:Int))
def Q46(x3:(Int×Int))(aD:List Int):=(cpL (Q44 x3) 0 (Nat.min aD.length ((Q44 x3).length-0)) (fun i=>aD.getD i 0))
def Q45(l8:List Int)(i7:Int):=(cpL l8 (0+i7.toNat) (Nat.min ((0+i7.toNat)-0) (l8.length-(0+i7.toNat))) (fun i=>l8.getD (0+i) 0))
def Ds(aD:List Int)(aZ:Int):Option (List Int):=
 (Option.bind (α:=Unit) (bif (decide (aZ<0)) then none else(some ())) (fun x1=>(match x1 with|_=>((H4 (Hs (aD.length:Int)) (Hs aZ)).bind fun x3=>(Option.bind (α:=Unit) (bif (bif (decide (((0:Int):Int)<x3.1)) then true else(decide (((9223372036854775807:Int):Int)<x3.2))) then none else(some ())) (fun x4=>(match x4 with|_=>(Cs (0≤(A8 x3.2)∧(A8 x3.2)≤(A8 x3.2)∧(A8 x3.2)≤(room:Int)) ((Ak (S:=(Int×List Int)) (X:=List Int) Bp (((Nat.min aD.length ((List.replicate (A8 x3.2).toNat (0:Int)).length-0)):Int),(cpL (List.replicate (A8 x3.2).toNat (0:Int)) 0 (Nat.min aD.length ((List.replicate (A8 x3.2).toNat (0:Int)).length-0)) (fun i=>aD.getD i 0)))).bind (fun x12=>(some x12)))))))))))
theorem Lq(aD:List Int)(aZ:Int)(r:List Int)(h:Ds aD aZ=some r):Spec Tryz.prog 79 [(AV.list 1 Ag 0 aD .none),(.int .i64 aZ)] [] (.vsl 20000 r.length) [(20000,.arr 1 3 r.length (fun i=>Ag (r.getD i 0)))]:=by
 refine Af mix Tryz.func79 (fun Γ hq=>?_);unfold Ds at h;refine gR hq [0,1] [] [(4,Z9)] [] (c1 (H0 1 Ag (0:Int))) ?_;obtain⟨x1,hx1,h⟩:=bind_some h;refine gJ hx1 (fun _=>aG Γ .normal (⟨[(0,(Tn aD)),(1,(Br aZ))],[],[]⟩:St)) ?_ ?_
 ·clear h hx1;intro y h;refine Aj hq [0,1,10] [] ?_;refine gC h (fun h=>?_) (fun h=>?_)
  ·cases h
  ·cases h;exact gK (Eb (Ej [0,1] [] hq))
 ·clear hx1;refine gA ?_;obtain⟨x3,hx3,h⟩:=bind_some h;refine gR hq [0,5,6] [] [] [⟨[],[],(.tuple [(.int .u64 x3.1),(.int .u64 x3.2)]),[],[]⟩] (c1 (S8 (Hs (aD.length:Int)) (Hs aZ) x3 hx3)) ?_;obtain⟨x4,hx4,h⟩:=bind_some h;refine gJ hx4 (fun _=>aG Γ .normal (⟨[(0,(Tn aD)),(6,(.int .u64 x3.2))],[],[]⟩:St)) ?_ ?_
  ·clear h hx4;intro y h;refine gR hq [0,6,26] [] [] [] (ci (gI ((decide (((0:Int):Int)<x3.1))==false)) (c1 (Wu (decide (((0:Int):Int)<x3.1))))) ?_;refine gC h (fun h=>?_) (fun h=>?_)
   ·cases h
   ·cases h;exact gK (Eb (Ej [0,6] [] hq))
  ·clear hx4;refine gA ?_;obtain⟨hc6,h⟩:=Aa h;refine gR hq [0,7] [30] [] [] (c1 hc6) ?_;refine Jy (Le.trans (Ph 30 (show ∀ k_,k_<((A8 x3.2).toNat)→AVleL ((fun i_=>AV.eraseAll (fun n_=>Cu n_ [30]) ((fun _=>[Wn]) i_)) k_) ((fun i=>Ag ((Q44 x3).getD i 0)) k_) from(fun k hk=>O4 (e:=Ag) (d:=(0:Int)) (.cons (AVle.refl _) .nil) _ k (O8 hk)))) (M8 (fun(k_:Nat) u=>(Et u (Z52 30 k_) [(30,.arr 1 3 k_ (fun i=>Ag ((Q44 x3).getD i 0)))])) (show(A8 x3.2).toNat=(Q44 x3).length from(List.length_replicate ..).symm))) ?_;refine gR hq [7,8] [30] [] [] (c1 (Eq.refl ((Q44 x3).length))) ?_;refine Jy (Le.trans (Ph 30 (show ∀ k_,k_<((Q44 x3).length)→AVleL ((fun i_=>AV.eraseAll (fun n_=>Cu n_ [30]) ((cpF (fun i=>Ag ((Q44 x3).getD i 0)) 0 (Nat.min aD.length ((Q44 x3).length-0)) (fun i=>Ag (aD.getD i 0))) i_)) k_) ((fun i=>Ag ((Q46 x3 aD).getD i 0)) k_) from(Bx (E7 ..) (fun k_ hk_=>(congrArg (AV.eraseAll (fun n_=>Cu n_ [30])) ((T6 (e:=Ag) (d:=(0:Int)) (l:=(Q44 x3)) (s:=(fun i=>aD.getD i 0)) (fun _ _=>rfl) (fun _ _=>rfl)) k_ hk_)).trans rfl)))) (M8 (fun(k_:Nat) u=>(Et u (Z52 30 k_) [(30,.arr 1 3 k_ (fun i=>Ag ((Q46 x3 aD).getD i 0)))])) (show(Q44 x3).length=(Q46 x3 aD).length from(E7 ..)))) ?_;obtain⟨x12,hx12,h⟩:=bind_some h;refine gL hq hx12 [7,8] [30] (fun u (i7,l8)=>(Et u [(7,(.vsl 30 l8.length)),(8,(Br i7))] [(Z2 30 l8)])) (fun u l9=>aG Γ (.exit 0) (⟨(Z52 30 l9.length),[(Z2 30 l9)],[]⟩:St)) ?_ ?_
   ·rintro⟨i7,l8⟩ y h;unfold Bp at h;refine Aj hq [7,8,37] [30] ?_;refine gC h (fun h=>?_) (fun h=>?_)
    ·obtain⟨hc10,h⟩:=Aa h;obtain⟨hc11,h⟩:=Aa h;refine gR hq [7,8] [30] [] [] (ci hc10 (ci hc11 (ci (Eq.refl l8.length) (c1 (Eq.refl l8.length))))) ?_;cases h;exact gN (Le.trans (Le.trans (Ph 30 (show ∀ k_,k_<l8.length→AVleL ((fun i_=>AV.eraseAll (fun n_=>Cu n_ [30]) ((cpF (fun i=>Ag (l8.getD i 0)) (0+i7.toNat) (Nat.min ((0+i7.toNat)-0) (l8.length-(0+i7.toNat))) (fun i=>(fun i=>Ag (l8.getD i 0)) (0+i))) i_)) k_) ((fun i=>Ag ((Q45 l8 i7).getD i 0)) k_) from(Bx (E7 ..) (fun k_ hk_=>(congrArg (AV.eraseAll (fun n_=>Cu n_ [30])) ((T6 (e:=Ag) (d:=(0:Int)) (l:=l8) (s:=(fun i=>l8.getD (0+i) 0)) (fun _ _=>rfl) (fun _ _=>rfl)) k_ hk_)).trans rfl)))) (M8 (fun(k_:Nat) u=>(Et u (Z52 30 k_) [(30,.arr 1 3 k_ (fun i=>Ag ((Q45 l8 i7).getD i 0)))])) (show l8.length=(Q45 l8 i7).length from(E7 ..)))) E9)
    ·cases h;exact gO (Eb (Ej [7] [30] hq))
   ·clear hx12;refine gA ?_;refine Aj hq [4] [30] ?_;obtain rfl:=OI h;exact Du [(30,20000)]
def I4(a5:List Int):(Int×List Bool)→Option (LR (Int×List Bool) (List Bool)):=
 fun((i2,l3):(Int×List Bool))=>(bif (i2 !=-1) then(Cs (Cg i2 l3.length) (Cs (Cg i2 a5.length) (some (.next ((a5.getD i2.toNat 0),(l3.set i2.toNat true)))))) else(some (.done l3)))
def I5(a5:List Int)(l4:List Bool):Int→Option (LR Int Int):=
 fun(i9:Int)=>(Cs (Cg i9 l4.length) (bif (!(l4.getD i9.toNat false)) then(Cs (Cg i9 a5.length) (some (.next (a5.getD i9.toNat 0)))) else(some (.done i9))))
def Hw(a5:List Int)(aO:Int)(aP:Int):Option (Int×List Int):=
 (Cs (0≤(a5.length:Int)∧(a5.length:Int)≤(a5.length:Int)∧(a5.length:Int)≤(room:Int)) ((Ak (I4 a5) (aO,(List.replicate (a5.length:Int).toNat false))).bind (fun x7=>((Ak (I5 a5 x7) aP).bind (fun x13=>(some (x13,a5)))))))
theorem Vm(a5:List Int)(aO:Int)(aP:Int)(r:(Int×List Int))(h:Hw a5 aO aP=some r):Spec Tryz.prog 104 [(.vsl 34000 a5.length),(.int .i64 aO),(.int .i64 aP)] [(34000,.arr 1 3 a5.length (fun i=>Ag (a5.getD i 0)))] (.int .i64 r.1) [(34000,.arr 1 3 r.2.length (fun i=>Ag (r.2.getD i 0)))]:=by
 refine Af mix Tryz.func104 (fun Γ hq=>?_);unfold Hw at h;refine Aj hq [0,1,2] [34000] ?_;obtain⟨hc1,h⟩:=Aa h;refine gR hq [0,1,2,7] [11,34000] [] [] (c1 hc1) ?_;refine Jy (Le.trans (Ph 11 (show ∀ k_,k_<((a5.length:Int).toNat)→AVleL ((fun i_=>AV.eraseAll (fun n_=>Cu n_ [11,34000]) ((fun _=>[(.bool false)]) i_)) k_) ((fun i=>eB ((List.replicate (a5.length:Int).toNat false).getD i false)) k_) from(fun k hk=>O4 (e:=eB) (d:=false) (.cons (AVle.refl _) .nil) _ k (O8 hk)))) (M8 (fun(k_:Nat) u=>(Et u (Z52 11 k_) [(11,.arr 1 4 k_ (fun i=>eB ((List.replicate (a5.length:Int).toNat false).getD i false)))])) (show(a5.length:Int).toNat=(List.replicate (a5.length:Int).toNat false).length from(List.length_replicate ..).symm))) ?_;refine Aj hq [0,2,7,8] [11,34000] ?_;obtain⟨x7,hx7,h⟩:=bind_some h;refine gL hq hx7 [0,2,7,8] [11,34000] (fun u (i2,l3)=>(Et u [(7,(.vsl 11 l3.length)),(8,(Br i2))] (Z30 l3))) (fun u l4=>aG Γ (.exit 0) (Px [0,2,7] [11,34000] u (Z52 11 l4.length) (Z30 l4))) ?_ ?_
 ·rintro⟨i2,l3⟩ y h;unfold I4 at h;refine Aj hq [0,2,7,8,14] [11,34000] ?_;refine gC h (fun h=>?_) (fun h=>?_)
  ·obtain⟨hc5,h⟩:=Aa h;refine gR hq [0,2,7,8] [11,34000] [] [] (ci hc5 (c1 (Eq.refl l3.length))) ?_;refine Jy (Le.trans (Ph 11 (show ∀ k_,k_<l3.length→AVleL ((fun i_=>AV.eraseAll (fun n_=>Cu n_ [11,34000]) ((Ip (fun i=>eB (l3.getD i false)) i2.toNat 0 [(.bool true)]) i_)) k_) ((fun i=>eB ((l3.set i2.toNat true).getD i false)) k_) from(Bx (List.length_set ..).symm (fun k_ hk_=>(congrArg (AV.eraseAll (fun n_=>Cu n_ [11,34000])) ((Hz (fun _ _=>rfl) (Jd hc5) rfl) k_ hk_)).trans rfl)))) (M8 (fun(k_:Nat) u=>(Et u (Z52 11 k_) [(11,.arr 1 4 k_ (fun i=>eB ((l3.set i2.toNat true).getD i false)))])) (show l3.length=(l3.set i2.toNat true).length from(List.length_set ..).symm))) ?_;obtain⟨hc6,h⟩:=Aa h;refine gR hq [0,2,7,8] [11,34000] [] [] (ci hc6 (c1 (Eq.refl a5.length))) ?_;cases h;exact gN E9
  ·cases h;exact gO (Eb (Ej [0,2,7] [11,34000] hq))
 ·clear hx7;refine gA ?_;obtain⟨x13,hx13,h⟩:=bind_some h;refine gL hq hx13 [0,2,7] [11,34000] (fun u i9=>(Et u [(2,(Br i9))] [])) (fun u i10=>aG Γ (.exit 2) (Px [2] [34000] u [(2,(Br i10))] [])) ?_ ?_
  ·intro i9 y h;unfold I5 at h;obtain⟨hc11,h⟩:=Aa h;refine gR hq [0,2,7,26] [11,34000] [] [] (ci hc11 (c1 (Eq.refl x7.length))) ?_;refine gC h (fun h=>?_) (fun h=>?_)
   ·obtain⟨hc12,h⟩:=Aa h;refine gR hq [0,2,7] [11,34000] [] [] (ci hc12 (c1 (Eq.refl a5.length))) ?_;cases h;exact gN E9
   ·cases h;exact gO (Eb (Ej [2] [34000] hq))
  ·clear hx13;refine gA ?_;refine Aj hq [6] [34000] ?_;cases h;exact Du [(34000,34000)]
def B1(aA:List Int):(Int×Int×List Int)→Option (LR (Int×Int×List Int) (Int×List Int)):=
 fun((i1,i2,l3):(Int×Int×List Int))=>(bif (decide (i2<(aA.length:Int))) then(Option.bind (α:=(Int×List Int)) (Cs (Cg i2 aA.length) (Cs (Cg (aA.getD i2.toNat 0) l3.length) (bif (((l3.getD (aA.getD i2.toNat 0).toNat (0:Int)):Int)==-2) then(some (i1,l3)) else(bif (i1==-2) then(some ((aA.getD i2.toNat 0),l3)) else((Hw l3 i1 (aA.getD i2.toNat 0)).bind fun x10=>(Cs (l3.length=x10.2.length) (some (x10.1,x10.2)))))))) (fun(i6,l7)=>(some (.next (i6,(A8 (i2+1)),l7))))) else(some (.done (i1,l3))))
def Ed(a5:List Int)(aA:List Int):Option (Int×List Int):=
 ((Ak (B1 aA) ((-2:Int),(0:Int),a5)).bind (fun(i4,l5)=>(some (i4,l5))))
theorem K9(a5:List Int)(aA:List Int)(r:(Int×List Int))(h:Ed a5 aA=some r):Spec Tryz.prog 80 [(.vsl 34000 a5.length),(AV.list 1 Ag 0 aA .none)] [(34000,.arr 1 3 a5.length (fun i=>Ag (a5.getD i 0)))] (.int .i64 r.1) [(34000,.arr 1 3 r.2.length (fun i=>Ag (r.2.getD i 0)))]:=by
 refine Af mix Tryz.func80 (fun Γ hq=>?_);unfold Ed at h;refine Aj hq [0,1] [34000] ?_;refine Aj hq [0,1,5] [34000] ?_;refine Aj hq [0,5,8,9,10] [34000] ?_;obtain⟨x14,hx14,h⟩:=bind_some h;refine gL hq hx14 [0,5,8,9,10] [34000] (fun u (i1,i2,l3)=>(Et u [(0,(.vsl 34000 l3.length)),(5,(Br i1)),(10,(Br i2))] [(Z2 34000 l3)])) (fun u (i4,l5)=>aG Γ (.exit 0) (⟨[(5,(Br i4))],[(Z2 34000 l5)],[]⟩:St)) ?_ ?_
 ·rintro⟨i1,i2,l3⟩ y h;unfold B1 at h;refine Aj hq [0,5,8,9,10,11] [34000] ?_;refine gC h (fun h=>?_) (fun h=>?_)
  ·obtain⟨x12,hx12,h⟩:=bind_some h;refine gJ hx12 (fun(i6,l7)=>aG Γ .normal (⟨[(0,(.vsl 34000 l7.length)),(5,(Br i6)),(8,(Tn aA)),(9,(Z48 aA.length)),(10,(Br i2))],[(Z2 34000 l7)],[]⟩:St)) ?_ ?_
   ·clear h hx12;intro y h;obtain⟨hc8,h⟩:=Aa h;refine gR hq [0,5,7,8,9,10] [34000] [] [] (c1 hc8) ?_;obtain⟨hc9,h⟩:=Aa h;refine gR hq [0,5,7,8,9,10,18] [34000] [] [] (ci hc9 (c1 (Eq.refl l3.length))) ?_;refine gC h (fun h=>?_) (fun h=>?_)
    ·cases h;exact gK (Eb (Ej [0,5,8,9,10] [34000] hq))
    ·refine Aj hq [0,5,7,8,9,10,24] [34000] ?_;refine gC h (fun h=>?_) (fun h=>?_)
     ·refine Aj hq [0,5,8,9,10] [34000] ?_;cases h;exact gK (Eb E9)
     ·obtain⟨x10,hx10,h⟩:=bind_some h;obtain⟨hc11,h⟩:=Aa h;refine gR hq [0,5,8,9,10] [34000] [] [⟨[(34000,34000)],[],(Br x10.1),[(Z2 34000 x10.2)],[]⟩] (c1 (Vm l3 i1 (aA.getD i2.toNat 0) x10 hx10)) ?_;cases h;exact gK (Eb (Le.trans (M8 (fun(k_:Nat) u=>(Et u [(0,(.vsl 34000 k_))] [])) (show l3.length=x10.2.length from hc11)) E9))
   ·clear hx12;rcases x12 with⟨i6,l7⟩;refine gA ?_;refine Aj hq [0,5,8,9,10] [34000] ?_;cases h;exact gN E9
  ·cases h;exact gO (Eb (Ej [5] [34000] hq))
 ·clear hx14;rcases x14 with⟨i4,l5⟩;refine gA ?_;refine Aj hq [4] [34000] ?_;cases h;exact Du [(34000,34000)]
def C1(aB:B2)(x3:List Int):(Bool×Int×List Int)→Option (LR (Bool×Int×List Int) (Bool×List Int)):=
 fun((b7,i8,l9):(Bool×Int×List Int))=>(bif (decide (i8<((x3.drop (1:Int).toNat).length:Int))) then(Option.bind (α:=(Bool×List Int)) (Cs (Cg i8 (x3.drop (1:Int).toNat).length) (Cs (Cg ((x3.drop (1:Int).toNat).getD i8.toNat 0) aB.Pred.length) ((Ed l9 (aB.Pred.getD ((x3.drop (1:Int).toNat).getD i8.toNat 0).toNat [])).bind fun x16=>(Cs (l9.length=x16.2.length) (Cs (Cg ((x3.drop (1:Int).toNat).getD i8.toNat 0) x16.2.length) (bif (x16.1 !=(x16.2.getD ((x3.drop (1:Int).toNat).getD i8.toNat 0).toNat (0:Int))) then(Cs (Cg ((x3.drop (1:Int).toNat).getD i8.toNat 0) x16.2.length) (some (true,(x16.2.set ((x3.drop (1:Int).toNat).getD i8.toNat 0).toNat x16.1)))) else(some (b7,x16.2)))))))) (fun(b12,l13)=>(some (.next (b12,(A8 (i8+1)),l13))))) else(some (.done (b7,l9))))
def Jf(aB:B2)(l1:List Int):(Bool×Int×List Int)→Option (LR (Bool×Int×List Int) (Bool×List Int)):=
 fun((b25,i26,l27):(Bool×Int×List Int))=>(bif (decide (i26<((l1.drop (1:Int).toNat).length:Int))) then(Option.bind (α:=(Bool×List Int)) (Cs (Cg i26 (l1.drop (1:Int).toNat).length) (Cs (Cg ((l1.drop (1:Int).toNat).getD i26.toNat 0) aB.Pred.length) ((Ed l27 (aB.Pred.getD ((l1.drop (1:Int).toNat).getD i26.toNat 0).toNat [])).bind fun x34=>(Cs (l27.length=x34.2.length) (Cs (Cg ((l1.drop (1:Int).toNat).getD i26.toNat 0) x34.2.length) (bif (x34.1 !=(x34.2.getD ((l1.drop (1:Int).toNat).getD i26.toNat 0).toNat (0:Int))) then(Cs (Cg ((l1.drop (1:Int).toNat).getD i26.toNat 0) x34.2.length) (some (true,(x34.2.set ((l1.drop (1:Int).toNat).getD i26.toNat 0).toNat x34.1)))) else(some (b25,x34.2)))))))) (fun(b30,l31)=>(some (.next (b30,(A8 (i26+1)),l31))))) else(some (.done (b25,l27))))
def Dv(aB:B2):(List Int×List Int)→Option (LR (List Int×List Int) (List Int)):=
 fun(s_:(List Int×List Int))=>match s_ with|(l1,l2)=>(Cs (0≤(1:Int)∧(1:Int)≤(l1.length:Int)) ((Ak (Jf aB l1) (false,(0:Int),l2)).bind (fun x40=>(match x40 with|(b28,l29)=>(bif b28 then(some (.next (l1,l29))) else(some (.done l29)))))))
def K_dom_Tree(Γ:Ga)(aB:B2)(aS:Int)(r:List Int):Exit→St→Prop:=fK Tryz.prog Γ Tryz.f51.results.toList [] (Z33 r 20000) [(20000,.tok 1 3 r.length)]
def Q51:=(fun n_=>Cu n_ [2,13,21])
def Q49:List (Nat×AV):=[(4,Z9)]
def Q48(x3:List Int)(i8:Int):=((x3.drop (1:Int).toNat).getD i8.toNat 0)
def Q47(l1:List Int)(i26:Int):=((l1.drop (1:Int).toNat).getD i26.toNat 0)
def Q50(aB:B2):List AV:=[(Z18 aB.Succ),(Z18 aB.Pred)]
def Q52:=(Z46:St)
def Iz(aB:B2)(aS:Int):Option (List Int):=
 ((Lt (S:=(List Int×List Int)) (X:=List Int) ((E3 aB aS).bind fun x3=>(bif (((x3.length:Int):Int)==0) then(some (.done ([]:List Int))) else((Ds ([(-2:Int)]:List Int) (aB.Succ.length:Int)).bind fun x4=>(Cs (Cg aS x4.length) (Cs (0≤(1:Int)∧(1:Int)≤(x3.length:Int)) ((Ak (C1 aB x3) (false,(0:Int),(x4.set aS.toNat (-1:Int)))).bind (fun(b10,l11)=>(bif b10 then(some (.next (x3,l11))) else(some (.done l11)))))))))) (Dv aB)).bind (fun x42=>(some x42)))
theorem ok_dom_Tree(aB:B2)(aS:Int)(r:List Int)(h:Iz aB aS=some r):Spec Tryz.prog 51 [(.agg (Mi aB)),(.int .i64 aS)] [] (AV.list 1 Ag 0 r (.own 20000)) [(20000,.tok 1 3 r.length)]:=by
 refine Af mix Tryz.func51 (fun Γ hq=>?_);have hΓ:=hq.own;unfold Iz at h;refine gR hq [1,2] [2] Q49 [] (c1 (H0 1 Ag (0:Int))) ?_;obtain⟨x42,hx42,h⟩:=bind_some h;refine gS hx42 (fun(s_:(List Int×List Int))=>match s_ with|(l1,l2)=>0) (fun(s_:(List Int×List Int))=>match s_ with|(l1,l2)=>(⟨[Z0,(5,(Z33 l1 13)),(6,(.vsl 21 l2.length))],[(Z53 (Q50 aB)),(13,.tok 1 3 l1.length),(Z2 21 l2)],[]⟩:St)) (fun r_=>aR (K_dom_Tree Γ aB aS r_)) ?_ ?_ ?_
 ·clear h hx42;intro y h;obtain⟨x3,hx3,h⟩:=bind_some h;refine gR hq [1,2,5] [2,13] [] [⟨[],[(20000,13)],(Z33 x3 20000),[(20000,.tok 1 3 x3.length)],[]⟩] (c1 (Oc aB aS x3 hx3)) ?_;refine Aj hq [1,2,5,16] [2,13] ?_;refine gC h (fun h=>?_) (fun h=>?_)
  ·refine gR hq [4] [] Q49 [] (c1 (H0 1 Ag (0:Int))) ?_;refine Rt (⟨Q49,[],[]⟩:St) ?_;cases h;exact gJo (Pg (J6 [(6004,20000)] (show Le Γ _ Q52 from Le.trans (Ej (st':=⟨Q49,[],[]⟩) [4] [] hq) (Le.trans (le_tag (t:=4) (nm:=6004) (sz':=1) (fun i=>Ag (([]:List Int).getD i 0)) 3 rfl rfl (.inl ⟨rfl,rfl⟩) (fun h_=>absurd h_ (by decide))) (Ej (st':=Q52) [4] [6004] hq)))))
  ·obtain⟨x4,hx4,h⟩:=bind_some h;refine gR hq [1,2,5,6] [2,13,21] [(17,(AV.list 1 Ag 0 ([(-2:Int)]:List Int) .exact))] [⟨[],[(20000,21)],(.vsl 20000 x4.length),[(Z2 20000 x4)],[]⟩] (ci (Dy 1 Ag (0:Int) ([(-2:Int)]:List Int)) (c1 (Lq ([(-2:Int)]:List Int) (aB.Succ.length:Int) x4 hx4))) ?_;obtain⟨hc5,h⟩:=Aa h;refine gR hq [2,5,6] [2,13,21] [] [] (ci hc5 (c1 (Eq.refl x4.length))) ?_;refine Jy (Le.trans (Ph 21 (show ∀ k_,k_<x4.length→AVleL ((fun i_=>AV.eraseAll Q51 ((Ip (fun i=>Ag (x4.getD i 0)) aS.toNat 0 [(.int .i64 (-1:Int))]) i_)) k_) ((fun i=>Ag ((x4.set aS.toNat (-1:Int)).getD i 0)) k_) from(Bx (List.length_set ..).symm (fun k_ hk_=>(congrArg (AV.eraseAll Q51) ((Hz (fun _ _=>rfl) (Jd hc5) rfl) k_ hk_)).trans rfl)))) (M8 (fun(k_:Nat) u=>(Et u [(6,(.vsl 21 k_))] [(21,.arr 1 3 k_ (fun i=>Ag ((x4.set aS.toNat (-1:Int)).getD i 0)))])) (show x4.length=(x4.set aS.toNat (-1:Int)).length from(List.length_set ..).symm))) ?_;refine Aj hq [2,5,6,7] [2,13,21] ?_;obtain⟨hc6,h⟩:=Aa h;refine gR hq [2,5,6,7,26,27,28] [2,13,21] [(26,(AV.list 1 Ag 0 (x3.drop (1:Int).toNat) .none))] [] (ci hc6 (c1 (show(AVle (.slice 1 (x3.length-(1:Int).toNat) (fun i=>Ag (x3.getD ((1:Int).toNat+i) 0)) .none) (AV.list 1 Ag 0 (x3.drop (1:Int).toNat) .none)) from av_drop))) ?_;obtain⟨x22,hx22,h⟩:=bind_some h;refine gL hq hx22 [2,5,6,7,26,27,28] [2,13,21] (fun u (b7,i8,l9)=>(Et u [(6,(.vsl 21 l9.length)),(7,(.bool b7)),(28,(Br i8))] [(Z2 21 l9)])) (fun u (b10,l11)=>aG Γ (.exit 0) (Px [2,5,6,7] [2,13,21] u [(6,(.vsl 21 l11.length)),(7,(.bool b10))] [(Z2 21 l11)])) ?_ ?_
   ·rintro⟨b7,i8,l9⟩ y h;unfold C1 at h;refine Aj hq [2,5,6,7,26,27,28,29] [2,13,21] ?_;refine gC h (fun h=>?_) (fun h=>?_)
    ·obtain⟨x20,hx20,h⟩:=bind_some h;refine gJ hx20 (fun(b12,l13)=>aG Γ .normal (⟨[Z0,(5,(Z33 x3 13)),(6,(.vsl 21 l13.length)),(7,(.bool b12)),(26,(AV.list 1 Ag 0 (x3.drop (1:Int).toNat) .none)),(27,(.int .i64 ((x3.drop (1:Int).toNat).length:Int))),(28,(Br i8))],[(Z53 (Q50 aB)),(13,.tok 1 3 x3.length),(Z2 21 l13)],[]⟩:St)) ?_ ?_
     ·clear h hx20;intro y h;obtain⟨hc14,h⟩:=Aa h;refine gR hq [2,5,6,7,9,26,27,28] [2,13,21] [] [] (c1 hc14) ?_;obtain⟨hc15,h⟩:=Aa h;obtain⟨x16,hx16,h⟩:=bind_some h;obtain⟨hc17,h⟩:=Aa h;refine gR hq [2,5,6,7,9,10,26,27,28] [2,13,21] [] [⟨[(21,34000)],[],(Br x16.1),[(Z2 34000 x16.2)],[]⟩] (ci hc15 (c1 (K9 l9 (aB.Pred.getD (Q48 x3 i8).toNat []) x16 hx16))) ?_;refine Jy (M8 (fun(k_:Nat) u=>(Et u [(6,(.vsl 21 k_))] [])) (show l9.length=x16.2.length from hc17)) ?_;obtain⟨hc18,h⟩:=Aa h;refine gR hq [2,5,6,7,9,10,26,27,28,44] [2,13,21] [] [] (ci hc18 (c1 (Eq.refl x16.2.length))) ?_;refine gC h (fun h=>?_) (fun h=>?_)
      ·obtain⟨hc19,h⟩:=Aa h;refine gR hq [2,5,6,7,26,27,28] [2,13,21] [] [] (ci hc19 (c1 (Eq.refl x16.2.length))) ?_;cases h;exact gK (Eb (Le.trans (Le.trans (Ph 21 (show ∀ k_,k_<x16.2.length→AVleL ((fun i_=>AV.eraseAll Q51 ((Ip (fun i=>Ag (x16.2.getD i 0)) (Q48 x3 i8).toNat 0 [(Br x16.1)]) i_)) k_) ((fun i=>Ag ((x16.2.set (Q48 x3 i8).toNat x16.1).getD i 0)) k_) from(Bx (List.length_set ..).symm (fun k_ hk_=>(congrArg (AV.eraseAll Q51) ((Hz (fun _ _=>rfl) (Jd hc19) rfl) k_ hk_)).trans rfl)))) (M8 (fun(k_:Nat) u=>(Et u [(6,(.vsl 21 k_))] [(21,.arr 1 3 k_ (fun i=>Ag ((x16.2.set (Q48 x3 i8).toNat x16.1).getD i 0)))])) (show x16.2.length=(x16.2.set (Q48 x3 i8).toNat x16.1).length from(List.length_set ..).symm))) E9))
      ·cases h;exact gK (Eb (Ej [2,5,6,7,26,27,28] [2,13,21] hq))
     ·clear hx20;rcases x20 with⟨b12,l13⟩;refine gA ?_;refine Aj hq [2,5,6,7,26,27,28] [2,13,21] ?_;cases h;exact gN E9
    ·cases h;exact gO (Eb (Ej [2,5,6,7] [2,13,21] hq))
   ·clear hx22;rcases x22 with⟨b10,l11⟩;refine gA ?_;refine Aj hq [2,5,6,50] [2,13,21] ?_;refine gC h (fun h=>?_) (fun h=>?_)
    ·cases h;exact gJn (Ej [2,5,6] [2,13,21] hq)
    ·refine Aj hq [4] [21] ?_;refine Rt (⟨[(4,(.vsl 21 l11.length))],[(Z2 21 l11)],[]⟩:St) ?_;cases h;exact gJo (Pg (J6 [(21,20000)] (Le.trans (Ix (nm:=21) (sz:=1) (n:=l11.length) (e:=3) (f:=(fun i=>Ag (l11.getD i 0))) (g:=(fun i=>Ag (l11.getD i 0))) rfl ⟨rfl,trivial⟩ (fun _ _=>rfl) (by rw[hΓ];rfl)) (Ke (st':=(Z29 l11 21 l11.length)) (by kernel_rfl)))))
 ·clear h hx42;rintro⟨l1,l2⟩ y h;unfold Dv at h;refine Aj hq [2,5,6,7] [2,13,21] ?_;obtain⟨hc24,h⟩:=Aa h;refine gR hq [2,5,6,7,26,27,28] [2,13,21] [(26,(AV.list 1 Ag 0 (l1.drop (1:Int).toNat) .none))] [] (ci hc24 (c1 (show(AVle (.slice 1 (l1.length-(1:Int).toNat) (fun i=>Ag (l1.getD ((1:Int).toNat+i) 0)) .none) (AV.list 1 Ag 0 (l1.drop (1:Int).toNat) .none)) from av_drop))) ?_;obtain⟨x40,hx40,h⟩:=bind_some h;refine gL hq hx40 [2,5,6,7,26,27,28] [2,13,21] (fun u (b25,i26,l27)=>(Et u [(6,(.vsl 21 l27.length)),(7,(.bool b25)),(28,(Br i26))] [(Z2 21 l27)])) (fun u (b28,l29)=>aG Γ (.exit 0) (Px [2,5,6,7] [2,13,21] u [(6,(.vsl 21 l29.length)),(7,(.bool b28))] [(Z2 21 l29)])) ?_ ?_
  ·rintro⟨b25,i26,l27⟩ y h;unfold Jf at h;refine Aj hq [2,5,6,7,26,27,28,29] [2,13,21] ?_;refine gC h (fun h=>?_) (fun h=>?_)
   ·obtain⟨x38,hx38,h⟩:=bind_some h;refine gJ hx38 (fun(b30,l31)=>aG Γ .normal (⟨[Z0,(5,(Z33 l1 13)),(6,(.vsl 21 l31.length)),(7,(.bool b30)),(26,(AV.list 1 Ag 0 (l1.drop (1:Int).toNat) .none)),(27,(.int .i64 ((l1.drop (1:Int).toNat).length:Int))),(28,(Br i26))],[(Z53 (Q50 aB)),(13,.tok 1 3 l1.length),(Z2 21 l31)],[]⟩:St)) ?_ ?_
    ·clear h hx38;intro y h;obtain⟨hc32,h⟩:=Aa h;refine gR hq [2,5,6,7,9,26,27,28] [2,13,21] [] [] (c1 hc32) ?_;obtain⟨hc33,h⟩:=Aa h;obtain⟨x34,hx34,h⟩:=bind_some h;obtain⟨hc35,h⟩:=Aa h;refine gR hq [2,5,6,7,9,10,26,27,28] [2,13,21] [] [⟨[(21,34000)],[],(Br x34.1),[(Z2 34000 x34.2)],[]⟩] (ci hc33 (c1 (K9 l27 (aB.Pred.getD (Q47 l1 i26).toNat []) x34 hx34))) ?_;refine Jy (M8 (fun(k_:Nat) u=>(Et u [(6,(.vsl 21 k_))] [])) (show l27.length=x34.2.length from hc35)) ?_;obtain⟨hc36,h⟩:=Aa h;refine gR hq [2,5,6,7,9,10,26,27,28,44] [2,13,21] [] [] (ci hc36 (c1 (Eq.refl x34.2.length))) ?_;refine gC h (fun h=>?_) (fun h=>?_)
     ·obtain⟨hc37,h⟩:=Aa h;refine gR hq [2,5,6,7,26,27,28] [2,13,21] [] [] (ci hc37 (c1 (Eq.refl x34.2.length))) ?_;cases h;exact gK (Eb (Le.trans (Le.trans (Ph 21 (show ∀ k_,k_<x34.2.length→AVleL ((fun i_=>AV.eraseAll Q51 ((Ip (fun i=>Ag (x34.2.getD i 0)) (Q47 l1 i26).toNat 0 [(Br x34.1)]) i_)) k_) ((fun i=>Ag ((x34.2.set (Q47 l1 i26).toNat x34.1).getD i 0)) k_) from(Bx (List.length_set ..).symm (fun k_ hk_=>(congrArg (AV.eraseAll Q51) ((Hz (fun _ _=>rfl) (Jd hc37) rfl) k_ hk_)).trans rfl)))) (M8 (fun(k_:Nat) u=>(Et u [(6,(.vsl 21 k_))] [(21,.arr 1 3 k_ (fun i=>Ag ((x34.2.set (Q47 l1 i26).toNat x34.1).getD i 0)))])) (show x34.2.length=(x34.2.set (Q47 l1 i26).toNat x34.1).length from(List.length_set ..).symm))) E9))
     ·cases h;exact gK (Eb (Ej [2,5,6,7,26,27,28] [2,13,21] hq))
    ·clear hx38;rcases x38 with⟨b30,l31⟩;refine gA ?_;refine Aj hq [2,5,6,7,26,27,28] [2,13,21] ?_;cases h;exact gN E9
   ·cases h;exact gO (Eb (Ej [2,5,6,7] [2,13,21] hq))
  ·clear hx40;rcases x40 with⟨b28,l29⟩;refine gA ?_;refine Aj hq [2,5,6,50] [2,13,21] ?_;refine gC h (fun h=>?_) (fun h=>?_)
   ·cases h;exact gJn (Ej [2,5,6] [2,13,21] hq)
   ·refine Aj hq [4] [21] ?_;refine Rt (⟨[(4,(.vsl 21 l29.length))],[(Z2 21 l29)],[]⟩:St) ?_;cases h;exact gJo (Pg (J6 [(21,20000)] (Le.trans (Ix (nm:=21) (sz:=1) (n:=l29.length) (e:=3) (f:=(fun i=>Ag (l29.getD i 0))) (g:=(fun i=>Ag (l29.getD i 0))) rfl ⟨rfl,trivial⟩ (fun _ _=>rfl) (by rw[hΓ];rfl)) (Ke (st':=(Z29 l29 21 l29.length)) (by kernel_rfl)))))
 ·clear hx42;refine R0 (fun st' hk=>?_);obtain rfl:=OI h;exact gK hk
def Fd(aa2:List Dx)(aa4:List Int):Int→Option (LR Int (Unit ⊕ Bool)):=
 fun(i1:Int)=>(bif (decide (i1<(aa2.length:Int))) then(Cs (Cg i1 aa2.length) ((C5 ((aa2.getD i1.toNat default).From) aa4).bind fun x3=>(bif (bif (!x3) then true else(((((aa2.getD i1.toNat default).Args).length:Int):Int)!=(aa4.length:Int))) then(some (.done (.inr false))) else(some (.next (A8 (i1+1))))))) else(some (.done (.inl ()))))
def Tm(Γ:Ga)(aa2:List Dx)(aa4:List Int)(r:Bool):Exit→St→Prop:=fK Tryz.prog Γ Tryz.f52.results.toList [] (.bool r) []
def Gn(aa2:List Dx)(aa4:List Int):Option Bool:=
 ((Ak (Fd aa2 aa4) (0:Int)).bind (fun x4=>(match x4 with|(.inl _)=>(some true)|(.inr r6)=>(some r6))))
theorem Si(aa2:List Dx)(aa4:List Int)(r:Bool)(h:Gn aa2 aa4=some r):Spec Tryz.prog 52 [(AV.list 4 Pn default aa2 .none),(AV.list 1 Ag 0 aa4 .none)] [] (.bool r) []:=by
 refine Af mix Tryz.func52 (fun Γ hq=>?_);unfold Gn at h;refine Aj hq [0,1] [] ?_;refine Aj hq [1,7,8,9] [] ?_;obtain⟨x4,hx4,h⟩:=bind_some h;refine gL hq hx4 [1,7,8,9] [] (fun u i1=>(Et u [(9,(Br i1))] [])) (fun u x_=>match x_ with|(.inl _)=>aG Γ (.exit 0) (⟨[],[],[]⟩:St)|(.inr r_)=>aR (Tm Γ aa2 aa4 r_)) ?_ ?_
 ·intro i1 y h;unfold Fd at h;refine Aj hq [1,7,8,9,10] [] ?_;refine gC h (fun h=>?_) (fun h=>?_)
  ·obtain⟨hc2,h⟩:=Aa h;refine gR hq [1,6,7,8,9] [6] [] [] (c1 hc2) ?_;obtain⟨x3,hx3,h⟩:=bind_some h;refine gR hq [1,7,8,9,25] [] [] [(Z6 x3)] (ci (Ib ((aa2.getD i1.toNat default).From) aa4 x3 hx3) (ci (gI ((!x3)==false)) (ci (gI ((!x3)==false)) (ci (gI ((!x3)==false)) (ci (gI ((!x3)==false)) (ci (gI ((!x3)==false)) (c1 (Wu (!x3))))))))) ?_;refine gC h (fun h=>?_) (fun h=>?_)
   ·refine Aj hq [4] [] ?_;cases h;exact gO (Pg (J6 [] (Le.refl _ _)))
   ·refine Aj hq [1,7,8,9] [] ?_;cases h;exact gN E9
  ·cases h;exact gO (Eb (Ej [] [] hq))
 ·clear hx4;rcases x4 with _|r6
  ·refine gA ?_;refine Aj hq [4] [] ?_;obtain rfl:=OI h;exact Du []
  ·refine R0 (fun st' hk=>?_);obtain rfl:=OI h;exact gK hk
def Q53(aC:Eo):=(bif (aC.Kind==0) then true else(aC.Kind==2))
def Fi(aC:Eo):Option Bool:=
 (some (bif (bif (aC.Kind==0) then true else(aC.Kind==2)) then true else(aC.Arg==0)))
theorem Sh(aC:Eo)(r:Bool)(h:Fi aC=some r):Spec Tryz.prog 53 [(.agg (eTEnd aC))] [] (.bool r) []:=by
 refine Af mix Tryz.func53 (fun Γ hq=>?_);unfold Fi at h;refine Aj hq [1] [1] ?_;refine gR hq [2] [] [] [] (ci (gI ((aC.Kind==0)==false)) (ci (gI ((aC.Kind==0)==false)) (ci (Wu (aC.Kind==0)) (ci (gI ((Q53 aC)==false)) (ci (gI ((Q53 aC)==false)) (c1 (Wu (Q53 aC)))))))) ?_;cases h;exact Du []
def Bs(a1:TFunc)(a7:Int)(a4:List Ah)(x1:(B2×Int))(x3:List Int):Int→Option (LR Int (Unit ⊕ (Int×TFunc×Int×List Int×List Ah))):=
 fun(i4:Int)=>(bif (decide (i4<(a1.Blocks.length:Int))) then(Cs (Cg i4 a1.Blocks.length) (Cs (Cg i4 x1.1.Pred.length) ((Gn ((a1.Blocks.getD i4.toNat default).Phis) (x1.1.Pred.getD i4.toNat [])).bind fun x7=>((bif ((!x7)==false) then Fi (⟨(a1.Blocks.getD i4.toNat default).End.Kind,(a1.Blocks.getD i4.toNat default).End.Arg,(a1.Blocks.getD i4.toNat default).End.To⟩:Eo) else some false).bind fun x8=>(bif (bif (!x7) then true else(!x8)) then(some (.done (.inr ((5:Int),a1,a7,x3,a4)))) else(some (.next (A8 (i4+1))))))))) else(some (.done (.inl ()))))
def L9(Γ:Ga)(a1:TFunc)(a7:Int)(a8:List Int)(a4:List Ah)(r:(Int×TFunc×Int×List Int×List Ah)):Exit→St→Prop:=fK Tryz.prog Γ Tryz.f31.results.toList (Z3 a1.Params a1.Ret a1.Blocks a7 a8 a4 a4.length) (Br r.1) (Z3 r.2.1.Params r.2.1.Ret r.2.1.Blocks r.2.2.1 r.2.2.2.1 r.2.2.2.2 r.2.2.2.2.length)
def Q56(x1:(B2×Int)):=((x1.2 !=0)==false)
def Q55(x3:List Int)(a1:TFunc)(a7:Int)(a4:List Ah):List (Nat×Own):=[(31,.tok 1 3 x3.length),(30000,.row 59 [(Tn a1.Params),(Br a1.Ret),(Z20 a1.Blocks),(Br a7),(Tn x3),.nilm,(AV.list 5 Bz default a4 (.own 37006))]),(Tq a4.length)]
def Q54(x3:List Int)(a1:TFunc)(a7:Int)(a4:List Ah):List (Nat×Own):=[(31,.tok 1 3 x3.length),(30000,.row 59 [(Tn a1.Params),(Br a1.Ret),(Z20 a1.Blocks),(Br a7),(Z33 x3 31),.nilm,(AV.list 5 Bz default a4 (.own 37006))]),(Tq a4.length)]
def D0(a1:TFunc)(a7:Int)(a8:List Int)(a4:List Ah):Option (Int×TFunc×Int×List Int×List Ah):=
 ((Kj a1).bind fun x1=>((bif ((x1.2 !=0)==false) then E3 x1.1 (0:Int) else some []).bind fun x2=>(bif (bif (x1.2 !=0) then true else(decide (((x2.length:Int):Int)<(a1.Blocks.length:Int)))) then(some ((5:Int),a1,a7,a8,a4)) else((Iz x1.1 (0:Int)).bind fun x3=>((Ak (Bs a1 a7 a4 x1 x3) (0:Int)).bind (fun x9=>(match x9 with|(.inl _)=>(some ((0:Int),a1,a7,x3,a4))|(.inr r11)=>(some r11))))))))
theorem L1(a1:TFunc)(a7:Int)(a8:List Int)(a4:List Ah)(r:(Int×TFunc×Int×List Int×List Ah))(h:D0 a1 a7 a8 a4=some r):Spec Tryz.prog 31 [(.ptr 30000 0)] [(30000,.row 59 [(AV.list 1 Ag 0 a1.Params .none),(.int .i64 a1.Ret),(AV.list 5 Au default a1.Blocks .none),(.int .i64 a7),(AV.list 1 Ag 0 a8 .none),.nilm,(AV.list 5 Bz default a4 (.own 37006))]),(37006,.tok 5 104 a4.length)] (.int .i64 r.1) [(30000,.row 59 [(AV.list 1 Ag 0 r.2.1.Params .none),(.int .i64 r.2.1.Ret),(AV.list 5 Au default r.2.1.Blocks .none),(.int .i64 r.2.2.1),(AV.list 1 Ag 0 r.2.2.2.1 .none),.nilm,(AV.list 5 Bz default r.2.2.2.2 (.own 37006))]),(37006,.tok 5 104 r.2.2.2.2.length)]:=by
 refine Af mix Tryz.func31 (fun Γ hq=>?_);unfold D0 at h;refine Aj hq [0] [30000,37006] ?_;obtain⟨x1,hx1,h⟩:=bind_some h;refine gR hq [0,3,4] [3,30000,37006] [] [⟨[],[],(.tuple [(.agg (Mi x1.1)),(Br x1.2)]),[],[]⟩] (c1 (ok_graph_Of a1 x1 hx1)) ?_;obtain⟨x2,hx2,h⟩:=bind_some h;refine gR hq [0,3,28] [3,30000,37006] [] [⟨[],[],(Tn x2),[],[]⟩] (ci (gI (Q56 x1)) (ci (show((Q56 x1)=true→(Spec Tryz.prog 50 [(.agg (Mi x1.1)),Wn] [] (Tn x2) [])) from(fun hg=>(Spec.drop (Oc x1.1 (0:Int) x2 (Dd hg hx2))))) (ci (gI (Q56 x1)) (ci (gI (Q56 x1)) (ci (gI (Q56 x1)) (ci (gI (Q56 x1)) (ci (gI (Q56 x1)) (ci (gI (Q56 x1)) (ci (gI (Q56 x1)) (ci (gI (Q56 x1)) (c1 (Wu (x1.2 !=0))))))))))))) ?_;refine gC h (fun h=>?_) (fun h=>?_)
 ·refine Aj hq [2] [30000,37006] ?_;cases h;exact Du [(30000,30000),(37006,37006)]
 ·obtain⟨x3,hx3,h⟩:=bind_some h;refine gR hq [0,3] [3,31,30000,37006] [] [⟨[],[(20000,31)],(Z33 x3 20000),[(20000,.tok 1 3 x3.length)],[]⟩] (c1 (ok_dom_Tree x1.1 (0:Int) x3 hx3)) ?_;refine Aj hq [3,38,39,40] [3,31,30000,37006] ?_;obtain⟨x9,hx9,h⟩:=bind_some h;refine gL hq hx9 [3,38,39,40] [3,31,30000,37006] (fun u i4=>(Et u [(40,(Br i4))] [])) (fun u x_=>match x_ with|(.inl _)=>aG Γ (.exit 0) (Px [] [31,30000,37006] u [] [])|(.inr r_)=>aR (L9 Γ a1 a7 a8 a4 r_)) ?_ ?_
  ·intro i4 y h;unfold Bs at h;refine Aj hq [3,38,39,40,41] [3,31,30000,37006] ?_;refine gC h (fun h=>?_) (fun h=>?_)
   ·obtain⟨hc5,h⟩:=Aa h;refine gR hq [3,5,6,38,39,40] [3,6,31,30000,37006] [] [] (c1 hc5) ?_;obtain⟨hc6,h⟩:=Aa h;obtain⟨x7,hx7,h⟩:=bind_some h;obtain⟨x8,hx8,h⟩:=bind_some h;refine gR hq [3,38,39,40,59] [3,31,30000,37006] [] [(Z6 x7),(Z6 x8)] (ci hc6 (ci (Si ((a1.Blocks.getD i4.toNat default).Phis) (x1.1.Pred.getD i4.toNat []) x7 hx7) (ci (gI ((!x7)==false)) (ci (gI ((!x7)==false)) (ci (fun(hg:((!x7)==false)=true)=>(Sh (⟨(a1.Blocks.getD i4.toNat default).End.Kind,(a1.Blocks.getD i4.toNat default).End.Arg,(a1.Blocks.getD i4.toNat default).End.To⟩:Eo) x8 (Dd hg hx8))) (ci (gI ((!x7)==false)) (c1 (Wu (!x7))))))))) ?_;refine gC h (fun h=>?_) (fun h=>?_)
    ·refine Aj hq [2] [31,30000,37006] ?_;refine Rt (⟨[(2,(.int .i64 (5:Int)))],(Q54 x3 a1 a7 a4),[]⟩:St) ?_;cases h;exact gO (Pg (J6 [(30000,30000),(37006,37006)] (show Le Γ _ (⟨[(2,(.int .i64 (5:Int)))],(Q55 x3 a1 a7 a4),[]⟩:St) from Le.trans (Ej (st':=⟨[(2,(.int .i64 (5:Int)))],(Q54 x3 a1 a7 a4),[]⟩) [2] [31,30000,37006] hq) (M9 (.cons (AVle.refl _) .nil) (.same (.row (.cons (AVle.refl _) (.cons (AVle.refl _) (.cons (AVle.refl _) (.cons (AVle.refl _) (.cons AVle.untag (.cons (AVle.refl _) (.cons (AVle.refl _) .nil))))))) (.same .nil)))))))
    ·refine Aj hq [3,38,39,40] [3,31,30000,37006] ?_;cases h;exact gN E9
   ·cases h;exact gO (Eb (Ej [] [31,30000,37006] hq))
  ·clear hx9;rcases x9 with _|r11
   ·refine gA ?_;refine Aj hq [2] [31,30000,37006] ?_;refine Rt (⟨[(2,Wn)],(Q54 x3 a1 a7 a4),[]⟩:St) ?_;cases h;exact gK (e:=.ret) (J6 [(30000,30000),(37006,37006)] (show Le Γ _ (⟨[(2,Wn)],(Q55 x3 a1 a7 a4),[]⟩:St) from Le.trans (Ej (st':=⟨[(2,Wn)],(Q54 x3 a1 a7 a4),[]⟩) [2] [31,30000,37006] hq) (M9 (.cons (AVle.refl _) .nil) (.same (.row (.cons (AVle.refl _) (.cons (AVle.refl _) (.cons (AVle.refl _) (.cons (AVle.refl _) (.cons AVle.untag (.cons (AVle.refl _) (.cons (AVle.refl _) .nil))))))) (.same .nil))))))
   ·refine R0 (fun st' hk=>?_);obtain rfl:=OI h;exact gK hk
def Fe(aJ:Int):Option Bool:=
 (Option.bind (α:=Bool) (bif (aJ==1) then(some (aJ==1)) else(bif (aJ==8) then(some (aJ==8)) else(bif (aJ==16) then(some (aJ==16)) else(bif (aJ==32) then(some (aJ==32)) else(some (aJ==64)))))) (fun x2=>(bif x2 then(some true) else(some false))))
theorem Ha(aJ:Int)(r:Bool)(h:Fe aJ=some r):Spec Tryz.prog 55 [(.int .i64 aJ)] [] (.bool r) []:=by
 refine Af mix Tryz.func55 (fun Γ hq=>?_);unfold Fe at h;refine Aj hq [0] [] ?_;refine Aj hq [3] [] ?_;obtain⟨x2,hx2,h⟩:=bind_some h;refine gJ hx2 (fun b1=>aG Γ .normal (⟨[(4,(.bool b1))],[],[]⟩:St)) ?_ ?_
 ·clear h hx2;intro y h;refine Aj hq [3,4] [] ?_;refine gC h (fun h=>?_) (fun h=>?_)
  ·cases h;exact gK (Eb (Ej [4] [] hq))
  ·refine Aj hq [3,4] [] ?_;refine gC h (fun h=>?_) (fun h=>?_)
   ·cases h;exact gK (Eb (Ej [4] [] hq))
   ·refine Aj hq [3,4] [] ?_;refine gC h (fun h=>?_) (fun h=>?_)
    ·cases h;exact gK (Eb (Ej [4] [] hq))
    ·refine Aj hq [3,4] [] ?_;refine gC h (fun h=>?_) (fun h=>?_)
     ·cases h;exact gK (Eb (Ej [4] [] hq))
     ·refine Aj hq [4] [] ?_;cases h;exact gK (Eb E9)
 ·clear hx2;refine gA ?_;refine gC h (fun h=>?_) (fun h=>?_)
  ·refine Aj hq [2] [] ?_;obtain rfl:=OI h;exact Du []
  ·refine Aj hq [2] [] ?_;obtain rfl:=OI h;exact Du []
def Fc(aA:List Int):Int→Option (LR Int (Unit ⊕ Bool)):=
 fun(i1:Int)=>(bif (decide (i1<(aA.length:Int))) then(Cs (Cg i1 aA.length) ((Fe (aA.getD i1.toNat 0)).bind fun x3=>(bif (!x3) then(some (.done (.inr false))) else(some (.next (A8 (i1+1))))))) else(some (.done (.inl ()))))
def Tl(Γ:Ga)(aA:List Int)(r:Bool):Exit→St→Prop:=fK Tryz.prog Γ Tryz.f54.results.toList [] (.bool r) []
def Gm(aA:List Int):Option Bool:=
 ((Ak (Fc aA) (0:Int)).bind (fun x4=>(match x4 with|(.inl _)=>(some true)|(.inr r6)=>(some r6))))
theorem Sg(aA:List Int)(r:Bool)(h:Gm aA=some r):Spec Tryz.prog 54 [(AV.list 1 Ag 0 aA .none),(.clo 55 [] [])] [] (.bool r) []:=by
 refine Af mix Tryz.func54 (fun Γ hq=>?_);unfold Gm at h;refine Aj hq [0,1] [] ?_;refine Aj hq [1,7,8,9] [] ?_;obtain⟨x4,hx4,h⟩:=bind_some h;refine gL hq hx4 [1,7,8,9] [] (fun u i1=>(Et u [(9,(Br i1))] [])) (fun u x_=>match x_ with|(.inl _)=>aG Γ (.exit 0) (⟨[],[],[]⟩:St)|(.inr r_)=>aR (Tl Γ aA r_)) ?_ ?_
 ·intro i1 y h;unfold Fc at h;refine Aj hq [1,7,8,9,10] [] ?_;refine gC h (fun h=>?_) (fun h=>?_)
  ·obtain⟨hc2,h⟩:=Aa h;refine gR hq [1,6,7,8,9] [] [] [] (c1 hc2) ?_;obtain⟨x3,hx3,h⟩:=bind_some h;refine gR hq [1,7,8,9,16] [] [] [(Z6 x3)] (c1 (Ha (aA.getD i1.toNat 0) x3 hx3)) ?_;refine gC h (fun h=>?_) (fun h=>?_)
   ·refine Aj hq [4] [] ?_;cases h;exact gO (Pg (J6 [] (Le.refl _ _)))
   ·refine Aj hq [1,7,8,9] [] ?_;cases h;exact gN E9
  ·cases h;exact gO (Eb (Ej [] [] hq))
 ·clear hx4;rcases x4 with _|r6
  ·refine gA ?_;refine Aj hq [4] [] ?_;obtain rfl:=OI h;exact Du []
  ·refine R0 (fun st' hk=>?_);obtain rfl:=OI h;exact gK hk
def Hg(aU:Dx):Option Bool:=
 ((Fe aU.Bits).bind fun x1=>(some x1))
theorem Re(aU:Dx)(r:Bool)(h:Hg aU=some r):Spec Tryz.prog 83 [(.agg (Pn aU))] [] (.bool r) []:=by
 refine Af mix Tryz.func83 (fun Γ hq=>?_);unfold Hg at h;refine Aj hq [1] [1] ?_;obtain⟨x1,hx1,h⟩:=bind_some h;refine gR hq [2] [] [] [(Z6 x1)] (c1 (Ha aU.Bits x1 hx1)) ?_;obtain rfl:=OI h;exact Du []
def Dz(aA:List Dx):Int→Option (LR Int (Unit ⊕ Bool)):=
 fun(i1:Int)=>(bif (decide (i1<(aA.length:Int))) then(Cs (Cg i1 aA.length) ((Hg (aA.getD i1.toNat default)).bind fun x3=>(bif (!x3) then(some (.done (.inr false))) else(some (.next (A8 (i1+1))))))) else(some (.done (.inl ()))))
def Pe(Γ:Ga)(aA:List Dx)(r:Bool):Exit→St→Prop:=fK Tryz.prog Γ Tryz.f82.results.toList [] (.bool r) []
def Ey(aA:List Dx):Option Bool:=
 ((Ak (Dz aA) (0:Int)).bind (fun x4=>(match x4 with|(.inl _)=>(some true)|(.inr r6)=>(some r6))))
theorem Oa(aA:List Dx)(r:Bool)(h:Ey aA=some r):Spec Tryz.prog 82 [(AV.list 4 Pn default aA .none),(.clo 83 [] [])] [] (.bool r) []:=by
 refine Af mix Tryz.func82 (fun Γ hq=>?_);unfold Ey at h;refine Aj hq [0,1] [] ?_;refine Aj hq [1,7,8,9] [] ?_;obtain⟨x4,hx4,h⟩:=bind_some h;refine gL hq hx4 [1,7,8,9] [] (fun u i1=>(Et u [(9,(Br i1))] [])) (fun u x_=>match x_ with|(.inl _)=>aG Γ (.exit 0) (⟨[],[],[]⟩:St)|(.inr r_)=>aR (Pe Γ aA r_)) ?_ ?_
 ·intro i1 y h;unfold Dz at h;refine Aj hq [1,7,8,9,10] [] ?_;refine gC h (fun h=>?_) (fun h=>?_)
  ·obtain⟨hc2,h⟩:=Aa h;refine gR hq [1,6,7,8,9] [6] [] [] (c1 hc2) ?_;obtain⟨x3,hx3,h⟩:=bind_some h;refine gR hq [1,7,8,9,16] [] [] [(Z6 x3)] (c1 (Re (aA.getD i1.toNat default) x3 hx3)) ?_;refine gC h (fun h=>?_) (fun h=>?_)
   ·refine Aj hq [4] [] ?_;cases h;exact gO (Pg (J6 [] (Le.refl _ _)))
   ·refine Aj hq [1,7,8,9] [] ?_;cases h;exact gN E9
  ·cases h;exact gO (Eb (Ej [] [] hq))
 ·clear hx4;rcases x4 with _|r6
  ·refine gA ?_;refine Aj hq [4] [] ?_;obtain rfl:=OI h;exact Du []
  ·refine R0 (fun st' hk=>?_);obtain rfl:=OI h;exact gK hk
def Hx(aa6:Int):Option Bool:=
 (some (bif (decide (((0:Int):Int)≤aa6)) then(decide (aa6≤22)) else false))
theorem Vp(aa6:Int)(r:Bool)(h:Hx aa6=some r):Spec Tryz.prog 115 [(.int .i64 aa6)] [] (.bool r) []:=by
 refine Af mix Tryz.func115 (fun Γ hq=>?_);unfold Hx at h;refine Aj hq [0] [] ?_;refine gR hq [2] [] [] [] (ci (gI ((decide (((0:Int):Int)≤aa6))==true)) (c1 (Kx (decide (((0:Int):Int)≤aa6))))) ?_;cases h;exact Du []
def Q57(x5:Bool)(aJ:Int):=(bif x5 then(decide (((8:Int):Int)≤aJ)) else false)
def Il(aJ:Int)(aa1:Int):Option Bool:=
 (bif (aa1==1) then((Fe aJ).bind fun x1=>(some x1)) else(Option.bind (α:=Bool) (bif (aa1==2) then(some (aa1==2)) else(bif (aa1==4) then(some (aa1==4)) else(bif (aa1==8) then(some (aa1==8)) else(some (aa1==16))))) (fun x3=>(bif x3 then((Fe aJ).bind fun x5=>(some (bif (bif x5 then(decide (((8:Int):Int)≤aJ)) else false) then(decide (((A8 (aJ*aa1)):Int)≤128)) else false))) else(some false)))))
theorem W9(aJ:Int)(aa1:Int)(r:Bool)(h:Il aJ aa1=some r):Spec Tryz.prog 116 [(.int .i64 aJ),(.int .i64 aa1)] [] (.bool r) []:=by
 refine Af mix Tryz.func116 (fun Γ hq=>?_);unfold Il at h;refine Aj hq [0,1] [] ?_;refine Aj hq [0,1,5] [] ?_;refine Aj hq [0,1,5,6] [] ?_;refine gC h (fun h=>?_) (fun h=>?_)
 ·obtain⟨x1,hx1,h⟩:=bind_some h;refine gR hq [4] [] [] [(Z6 x1)] (c1 (Ha aJ x1 hx1)) ?_;obtain rfl:=OI h;exact Du []
 ·obtain⟨x3,hx3,h⟩:=bind_some h;refine gJ hx3 (fun b2=>aG Γ .normal (⟨[(0,(Br aJ)),(1,(Br aa1)),(10,(.bool b2))],[],[]⟩:St)) ?_ ?_
  ·clear h hx3;intro y h;refine Aj hq [0,1,5,10] [] ?_;refine gC h (fun h=>?_) (fun h=>?_)
   ·cases h;exact gK (Eb (Ej [0,1,10] [] hq))
   ·refine Aj hq [0,1,5,10] [] ?_;refine gC h (fun h=>?_) (fun h=>?_)
    ·cases h;exact gK (Eb (Ej [0,1,10] [] hq))
    ·refine Aj hq [0,1,5,10] [] ?_;refine gC h (fun h=>?_) (fun h=>?_)
     ·cases h;exact gK (Eb (Ej [0,1,10] [] hq))
     ·refine Aj hq [0,1,10] [] ?_;cases h;exact gK (Eb E9)
  ·clear hx3;refine gA ?_;refine gC h (fun h=>?_) (fun h=>?_)
   ·obtain⟨x5,hx5,h⟩:=bind_some h;refine gR hq [4] [] [] [(Z6 x5)] (ci (Ha aJ x5 hx5) (ci (gI (x5==true)) (ci (Kx x5) (ci (gI ((Q57 x5 aJ)==true)) (ci (gI ((Q57 x5 aJ)==true)) (ci (gI ((Q57 x5 aJ)==true)) (c1 (Kx (Q57 x5 aJ))))))))) ?_;cases h;exact Du []
   ·refine Aj hq [4] [] ?_;obtain rfl:=OI h;exact Du []
def Q58(a0:D4):List (Nat×Own):=[(1,.row 47 [(Br a0.Kind),(Br a0.Bits),(Br a0.Lanes),(Br a0.Dst),(Tn a0.Args),(.int .u64 a0.Imm)])]
def F6(a0:D4):Option Bool:=
 (Option.bind (α:=Bool) (bif (a0.Kind==16) then(some (a0.Kind==16)) else(some (a0.Kind==17))) (fun x2=>(bif x2 then(some (decide (((8:Int):Int)≤a0.Bits))) else(Option.bind (α:=Bool) (bif (a0.Kind==18) then(some (a0.Kind==18)) else(some (a0.Kind==19))) (fun x5=>(bif x5 then(some (bif (decide (((8:Int):Int)≤a0.Bits)) then(a0.Lanes==1) else false)) else(Option.bind (α:=Bool) (bif (a0.Kind==4) then(some (a0.Kind==4)) else(bif (a0.Kind==10) then(some (a0.Kind==10)) else(bif (a0.Kind==11) then(some (a0.Kind==11)) else(bif (a0.Kind==12) then(some (a0.Kind==12)) else(bif (a0.Kind==14) then(some (a0.Kind==14)) else(bif (a0.Kind==15) then(some (a0.Kind==15)) else(some (a0.Kind==20)))))))) (fun x8=>(bif x8 then(some (a0.Lanes==1)) else(Option.bind (α:=Bool) (bif (a0.Kind==21) then(some (a0.Kind==21)) else(some (a0.Kind==22))) (fun x11=>(bif x11 then(some (decide (((1:Int):Int)<a0.Lanes))) else(some true)))))))))))))
theorem Rg(a0:D4)(r:Bool)(h:F6 a0=some r):Spec Tryz.prog 117 [(.agg (Ky a0))] [] (.bool r) []:=by
 refine Af mix Tryz.func117 (fun Γ hq=>?_);unfold F6 at h;refine Aj hq [1] [1] ?_;refine Aj hq [1,4] [1] ?_;obtain⟨x2,hx2,h⟩:=bind_some h;refine gJ hx2 (fun b1=>aG Γ .normal (⟨[(1,(.ptr 1 0)),(4,(Br a0.Kind)),(5,(.bool b1))],(Q58 a0),[]⟩:St)) ?_ ?_
 ·clear h hx2;intro y h;refine Aj hq [1,4,5] [1] ?_;refine gC h (fun h=>?_) (fun h=>?_)
  ·cases h;exact gK (Eb E9)
  ·refine Aj hq [1,4,5] [1] ?_;cases h;exact gK (Eb E9)
 ·clear hx2;refine gA ?_;refine gC h (fun h=>?_) (fun h=>?_)
  ·refine Aj hq [2] [] ?_;cases h;exact Du []
  ·obtain⟨x5,hx5,h⟩:=bind_some h;refine gJ hx5 (fun b4=>aG Γ .normal (⟨[(1,(.ptr 1 0)),(4,(Br a0.Kind)),(11,(.bool b4))],(Q58 a0),[]⟩:St)) ?_ ?_
   ·clear h hx5;intro y h;refine Aj hq [1,4,11] [1] ?_;refine gC h (fun h=>?_) (fun h=>?_)
    ·cases h;exact gK (Eb E9)
    ·refine Aj hq [1,4,11] [1] ?_;cases h;exact gK (Eb E9)
   ·clear hx5;refine gA ?_;refine gC h (fun h=>?_) (fun h=>?_)
    ·refine gR hq [2] [] [] [] (ci (gI ((decide (((8:Int):Int)≤a0.Bits))==true)) (ci (gI ((decide (((8:Int):Int)≤a0.Bits))==true)) (c1 (Kx (decide (((8:Int):Int)≤a0.Bits)))))) ?_;cases h;exact Du []
    ·obtain⟨x8,hx8,h⟩:=bind_some h;refine gJ hx8 (fun b7=>aG Γ .normal (⟨[(1,(.ptr 1 0)),(4,(Br a0.Kind)),(22,(.bool b7))],(Q58 a0),[]⟩:St)) ?_ ?_
     ·clear h hx8;intro y h;refine Aj hq [1,4,22] [1] ?_;refine gC h (fun h=>?_) (fun h=>?_)
      ·cases h;exact gK (Eb E9)
      ·refine Aj hq [1,4,22] [1] ?_;refine gC h (fun h=>?_) (fun h=>?_)
       ·cases h;exact gK (Eb E9)
       ·refine Aj hq [1,4,22] [1] ?_;refine gC h (fun h=>?_) (fun h=>?_)
        ·cases h;exact gK (Eb E9)
        ·refine Aj hq [1,4,22] [1] ?_;refine gC h (fun h=>?_) (fun h=>?_)
         ·cases h;exact gK (Eb E9)
         ·refine Aj hq [1,4,22] [1] ?_;refine gC h (fun h=>?_) (fun h=>?_)
          ·cases h;exact gK (Eb E9)
          ·refine Aj hq [1,4,22] [1] ?_;refine gC h (fun h=>?_) (fun h=>?_)
           ·cases h;exact gK (Eb E9)
           ·refine Aj hq [1,4,22] [1] ?_;cases h;exact gK (Eb E9)
     ·clear hx8;refine gA ?_;refine gC h (fun h=>?_) (fun h=>?_)
      ·refine Aj hq [2] [] ?_;cases h;exact Du []
      ·obtain⟨x11,hx11,h⟩:=bind_some h;refine gJ hx11 (fun b10=>aG Γ .normal (⟨[(1,(.ptr 1 0)),(33,(.bool b10))],(Q58 a0),[]⟩:St)) ?_ ?_
       ·clear h hx11;intro y h;refine Aj hq [1,4,33] [1] ?_;refine gC h (fun h=>?_) (fun h=>?_)
        ·cases h;exact gK (Eb (Ej [1,33] [1] hq))
        ·refine Aj hq [1,33] [1] ?_;cases h;exact gK (Eb E9)
       ·clear hx11;refine gA ?_;refine gC h (fun h=>?_) (fun h=>?_)
        ·refine Aj hq [2] [] ?_;cases h;exact Du []
        ·refine Aj hq [2] [] ?_;obtain rfl:=OI h;exact Du []
def Kk(aE:Int)(aJ:Int):Option Int:=
 ((Fe aJ).bind fun x1=>(bif (!x1) then(some (0:Int)) else(Cs (0≤(A8 ((64:Int)-aJ))) (Cs (0≤(A8 ((64:Int)-aJ))) (some (Ro .u64 (shlV .u64 aE (A8 ((64:Int)-aJ))) (A8 ((64:Int)-aJ))))))))
theorem ok_word_Cut(aE:Int)(aJ:Int)(r:Int)(h:Kk aE aJ=some r):Spec Tryz.prog 136 [(.int .u64 aE),(.int .i64 aJ)] [] (.int .u64 r) []:=by
 refine Af mix Tryz.func136 (fun Γ hq=>?_);unfold Kk at h;refine Aj hq [0,1] [] ?_;obtain⟨x1,hx1,h⟩:=bind_some h;refine gR hq [0,1,7] [] [] [(Z6 x1)] (c1 (Ha aJ x1 hx1)) ?_;refine gC h (fun h=>?_) (fun h=>?_)
 ·refine Aj hq [4] [] ?_;cases h;exact Du []
 ·obtain⟨hc2,h⟩:=Aa h;obtain⟨hc3,h⟩:=Aa h;refine gR hq [4] [] [] [] (ci hc2 (c1 hc3)) ?_;cases h;exact Du []
def F5(aa3:Int):Option Bool:=
 ((bif ((decide (aa3≤64))==true) then Fe (A8 aa3) else some false).bind fun x1=>(some (bif (decide (aa3≤64)) then x1 else false)))
theorem Nf(aa3:Int)(r:Bool)(h:F5 aa3=some r):Spec Tryz.prog 137 [(.int .u64 aa3)] [] (.bool r) []:=by
 refine Af mix Tryz.func137 (fun Γ hq=>?_);unfold F5 at h;refine Aj hq [0] [] ?_;obtain⟨x1,hx1,h⟩:=bind_some h;refine gR hq [2] [] [] [(Z6 x1)] (ci (gI ((decide (aa3≤64))==true)) (ci (gI ((decide (aa3≤64))==true)) (ci (fun(hg:((decide (aa3≤64))==true)=true)=>(Ha (A8 aa3) x1 (Dd hg hx1))) (c1 (Kx (decide (aa3≤64))))))) ?_;cases h;exact Du []
def G8(a0:D4):Option Bool:=
 (bif (a0.Kind==0) then((Kk a0.Imm a0.Bits).bind fun x1=>(some (x1==a0.Imm))) else(bif (a0.Kind==14) then((F5 a0.Imm).bind fun x2=>(some (bif x2 then(decide (a0.Imm<(Hs a0.Bits))) else false))) else(bif (a0.Kind==15) then((F5 a0.Imm).bind fun x3=>(some (bif x3 then(decide (((Hs a0.Bits):Int)<a0.Imm)) else false))) else(bif (a0.Kind==22) then(some (decide (a0.Imm<(Hs a0.Lanes)))) else(some (a0.Imm==0))))))
theorem Tx(a0:D4)(r:Bool)(h:G8 a0=some r):Spec Tryz.prog 118 [(.agg (Ky a0))] [] (.bool r) []:=by
 refine Af mix Tryz.func118 (fun Γ hq=>?_);unfold G8 at h;refine Aj hq [1] [1] ?_;refine Aj hq [1,4] [1] ?_;refine Aj hq [1,4,5] [1] ?_;refine gC h (fun h=>?_) (fun h=>?_)
 ·obtain⟨x1,hx1,h⟩:=bind_some h;refine gR hq [2] [] [] [⟨[],[],(.int .u64 x1),[],[]⟩] (c1 (ok_word_Cut a0.Imm a0.Bits x1 hx1)) ?_;cases h;exact Du []
 ·refine Aj hq [1,4,15] [1] ?_;refine gC h (fun h=>?_) (fun h=>?_)
  ·obtain⟨x2,hx2,h⟩:=bind_some h;refine gR hq [2] [] [] [(Z6 x2)] (ci (Nf a0.Imm x2 hx2) (ci (gI (x2==true)) (ci (gI (x2==true)) (ci (gI (x2==true)) (ci (gI (x2==true)) (ci (gI (x2==true)) (c1 (Kx x2)))))))) ?_;cases h;exact Du []
  ·refine Aj hq [1,4,28] [1] ?_;refine gC h (fun h=>?_) (fun h=>?_)
   ·obtain⟨x3,hx3,h⟩:=bind_some h;refine gR hq [2] [] [] [(Z6 x3)] (ci (Nf a0.Imm x3 hx3) (ci (gI (x3==true)) (ci (gI (x3==true)) (ci (gI (x3==true)) (ci (gI (x3==true)) (ci (gI (x3==true)) (c1 (Kx x3)))))))) ?_;cases h;exact Du []
   ·refine Aj hq [1,41] [1] ?_;refine gC h (fun h=>?_) (fun h=>?_)
    ·refine Aj hq [2] [] ?_;cases h;exact Du []
    ·refine Aj hq [2] [] ?_;cases h;exact Du []
def Ef(aa8:List ((Int×Int))):Option (List (Int×Int)):=
 (some aa8)
theorem E4(aa8:List ((Int×Int)))(r:List ((Int×Int)))(h:Ef aa8=some r):Spec Tryz.prog 121 [(AV.list 2 A4 ((0:Int),(0:Int)) aa8 .none)] [] (AV.list 2 A4 ((0:Int),(0:Int)) r .none) []:=by
 refine Af mix Tryz.func121 (fun Γ hq=>?_);unfold Ef at h;refine gR hq [0] [] [(2,Z19)] [] (c1 (H0 2 A4 ((0:Int),(0:Int)))) ?_;refine Aj hq [2] [] ?_;obtain rfl:=OI h;exact Du []
def Bm :(Int×List (Int×Int))→Option (LR (Int×List (Int×Int)) (List (Int×Int))):=
 fun((i7,l8):(Int×List (Int×Int)))=>(bif (decide (i7<(l8.length:Int))) then(Cs (0≤i7∧0+i7.toNat≤l8.length) (Cs (0≤i7∧0+i7.toNat≤l8.length) (some (.next ((A8 (i7+((Nat.min ((0+i7.toNat)-0) (l8.length-(0+i7.toNat))):Int))),(cpL l8 (0+i7.toNat) (Nat.min ((0+i7.toNat)-0) (l8.length-(0+i7.toNat))) (fun i=>l8.getD (0+i) ((0:Int),(0:Int))))))))) else(some (.done l8)))
def Q59(x3:(Int×Int)):=(List.replicate (A8 x3.2).toNat ((0:Int),(0:Int)))
def Q61(x3:(Int×Int))(aD:List ((Int×Int))):=(cpL (Q59 x3) 0 (Nat.min aD.length ((Q59 x3).length-0)) (fun i=>aD.getD i ((0:Int),(0:Int))))
def Q60(l8:List ((Int×Int)))(i7:Int):=(cpL l8 (0+i7.toNat) (Nat.min ((0+i7.toNat)-0) (l8.length-(0+i7.toNat))) (fun i=>l8.getD (0+i) ((0:Int),(0:Int))))
def A9(aD:List ((Int×Int)))(aZ:Int):Option (List (Int×Int)):=
 (Option.bind (α:=Unit) (bif (decide (aZ<0)) then none else(some ())) (fun x1=>(match x1 with|_=>((H4 (Hs (aD.length:Int)) (Hs aZ)).bind fun x3=>(Option.bind (α:=Unit) (bif (bif (decide (((0:Int):Int)<x3.1)) then true else(decide (((9223372036854775807:Int):Int)<x3.2))) then none else(some ())) (fun x4=>(match x4 with|_=>(Cs (0≤(A8 x3.2)∧(A8 x3.2)≤(A8 x3.2)∧(A8 x3.2)≤(room:Int)) ((Ak (S:=(Int×List (Int×Int))) (X:=List (Int×Int)) Bm (((Nat.min aD.length ((List.replicate (A8 x3.2).toNat ((0:Int),(0:Int))).length-0)):Int),(cpL (List.replicate (A8 x3.2).toNat ((0:Int),(0:Int))) 0 (Nat.min aD.length ((List.replicate (A8 x3.2).toNat ((0:Int),(0:Int))).length-0)) (fun i=>aD.getD i ((0:Int),(0:Int)))))).bind (fun x12=>(some x12)))))))))))
theorem Jv(aD:List ((Int×Int)))(aZ:Int)(r:List ((Int×Int)))(h:A9 aD aZ=some r):Spec Tryz.prog 122 [(AV.list 2 A4 ((0:Int),(0:Int)) aD .none),(.int .i64 aZ)] [] (AV.list 2 A4 ((0:Int),(0:Int)) r (.own 20000)) [(20000,.tok 2 35 r.length)]:=by
 refine Af mix Tryz.func122 (fun Γ hq=>?_);have hΓ:=hq.own;unfold A9 at h;refine gR hq [0,1] [] [(4,Z19)] [] (c1 (H0 2 A4 ((0:Int),(0:Int)))) ?_;obtain⟨x1,hx1,h⟩:=bind_some h;refine gJ hx1 (fun _=>aG Γ .normal (⟨[(0,(AV.list 2 A4 ((0:Int),(0:Int)) aD .none)),(1,(Br aZ))],[],[]⟩:St)) ?_ ?_
 ·clear h hx1;intro y h;refine Aj hq [0,1,10] [] ?_;refine gC h (fun h=>?_) (fun h=>?_)
  ·cases h
  ·cases h;exact gK (Eb (Ej [0,1] [] hq))
 ·clear hx1;refine gA ?_;obtain⟨x3,hx3,h⟩:=bind_some h;refine gR hq [0,5,6] [] [] [⟨[],[],(.tuple [(.int .u64 x3.1),(.int .u64 x3.2)]),[],[]⟩] (c1 (S8 (Hs (aD.length:Int)) (Hs aZ) x3 hx3)) ?_;obtain⟨x4,hx4,h⟩:=bind_some h;refine gJ hx4 (fun _=>aG Γ .normal (⟨[(0,(AV.list 2 A4 ((0:Int),(0:Int)) aD .none)),(6,(.int .u64 x3.2))],[],[]⟩:St)) ?_ ?_
  ·clear h hx4;intro y h;refine gR hq [0,6,26] [] [] [] (ci (gI ((decide (((0:Int):Int)<x3.1))==false)) (c1 (Wu (decide (((0:Int):Int)<x3.1))))) ?_;refine gC h (fun h=>?_) (fun h=>?_)
   ·cases h
   ·cases h;exact gK (Eb (Ej [0,6] [] hq))
  ·clear hx4;refine gA ?_;obtain⟨hc6,h⟩:=Aa h;refine gR hq [0,7] [30] [] [] (c1 hc6) ?_;refine Jy (Le.trans (Ph 30 (show ∀ k_,k_<((A8 x3.2).toNat)→AVleL ((fun i_=>AV.eraseAll (fun n_=>Cu n_ [30]) ((fun _=>[Wn,Wn]) i_)) k_) ((fun i=>A4 ((Q59 x3).getD i ((0:Int),(0:Int)))) k_) from(fun k hk=>O4 (e:=A4) (d:=((0:Int),(0:Int))) (.cons (AVle.refl _) (.cons (AVle.refl _) .nil)) _ k (O8 hk)))) (M8 (fun(k_:Nat) u=>(Et u (Z52 30 k_) [(30,.arr 2 35 k_ (fun i=>A4 ((Q59 x3).getD i ((0:Int),(0:Int)))))])) (show(A8 x3.2).toNat=(Q59 x3).length from(List.length_replicate ..).symm))) ?_;refine gR hq [7,8] [30] [] [] (c1 (Eq.refl ((Q59 x3).length))) ?_;refine Jy (Le.trans (Ph 30 (show ∀ k_,k_<((Q59 x3).length)→AVleL ((fun i_=>AV.eraseAll (fun n_=>Cu n_ [30]) ((cpF (fun i=>A4 ((Q59 x3).getD i ((0:Int),(0:Int)))) 0 (Nat.min aD.length ((Q59 x3).length-0)) (fun i=>A4 (aD.getD i ((0:Int),(0:Int))))) i_)) k_) ((fun i=>A4 ((Q61 x3 aD).getD i ((0:Int),(0:Int)))) k_) from(Bx (E7 ..) (fun k_ hk_=>(congrArg (AV.eraseAll (fun n_=>Cu n_ [30])) ((T6 (e:=A4) (d:=((0:Int),(0:Int))) (l:=(Q59 x3)) (s:=(fun i=>aD.getD i ((0:Int),(0:Int)))) (fun _ _=>rfl) (fun _ _=>rfl)) k_ hk_)).trans rfl)))) (M8 (fun(k_:Nat) u=>(Et u (Z52 30 k_) [(30,.arr 2 35 k_ (fun i=>A4 ((Q61 x3 aD).getD i ((0:Int),(0:Int)))))])) (show(Q59 x3).length=(Q61 x3 aD).length from(E7 ..)))) ?_;obtain⟨x12,hx12,h⟩:=bind_some h;refine gL hq hx12 [7,8] [30] (fun u (i7,l8)=>(Et u [(7,(.vsl 30 l8.length)),(8,(Br i7))] (Z35 l8))) (fun u l9=>aG Γ (.exit 0) (⟨(Z52 30 l9.length),(Z35 l9),[]⟩:St)) ?_ ?_
   ·rintro⟨i7,l8⟩ y h;unfold Bm at h;refine Aj hq [7,8,37] [30] ?_;refine gC h (fun h=>?_) (fun h=>?_)
    ·obtain⟨hc10,h⟩:=Aa h;obtain⟨hc11,h⟩:=Aa h;refine gR hq [7,8] [30] [] [] (ci hc10 (ci hc11 (ci (Eq.refl l8.length) (c1 (Eq.refl l8.length))))) ?_;cases h;exact gN (Le.trans (Le.trans (Ph 30 (show ∀ k_,k_<l8.length→AVleL ((fun i_=>AV.eraseAll (fun n_=>Cu n_ [30]) ((cpF (fun i=>A4 (l8.getD i ((0:Int),(0:Int)))) (0+i7.toNat) (Nat.min ((0+i7.toNat)-0) (l8.length-(0+i7.toNat))) (fun i=>(fun i=>A4 (l8.getD i ((0:Int),(0:Int)))) (0+i))) i_)) k_) ((fun i=>A4 ((Q60 l8 i7).getD i ((0:Int),(0:Int)))) k_) from(Bx (E7 ..) (fun k_ hk_=>(congrArg (AV.eraseAll (fun n_=>Cu n_ [30])) ((T6 (e:=A4) (d:=((0:Int),(0:Int))) (l:=l8) (s:=(fun i=>l8.getD (0+i) ((0:Int),(0:Int)))) (fun _ _=>rfl) (fun _ _=>rfl)) k_ hk_)).trans rfl)))) (M8 (fun(k_:Nat) u=>(Et u (Z52 30 k_) [(30,.arr 2 35 k_ (fun i=>A4 ((Q60 l8 i7).getD i ((0:Int),(0:Int)))))])) (show l8.length=(Q60 l8 i7).length from(E7 ..)))) E9)
    ·cases h;exact gO (Eb (Ej [7] [30] hq))
   ·clear hx12;refine gA ?_;refine Aj hq [4] [30] ?_;refine Rt (⟨[(4,(.vsl 30 x12.length))],(Z35 x12),[]⟩:St) ?_;obtain rfl:=OI h;exact gK (e:=.ret) (J6 [(30,20000)] (Le.trans (Ix (nm:=30) (sz:=2) (n:=x12.length) (e:=35) (f:=(fun i=>A4 (x12.getD i ((0:Int),(0:Int))))) (g:=(fun i=>A4 (x12.getD i ((0:Int),(0:Int))))) rfl ⟨rfl,trivial⟩ (fun _ _=>rfl) (by rw[hΓ];rfl)) (Ke (st':=⟨[(4,(AV.list 2 A4 ((0:Int),(0:Int)) x12 (.own 30)))],[(30,.tok 2 35 x12.length)],[]⟩) (by kernel_rfl))))
def Q62(a0:D4):List (Nat×Own):=[(1,.row 47 [(Br a0.Kind),(Br a0.Bits),(Br a0.Lanes),(Br a0.Dst),(Tn a0.Args),(.int .u64 a0.Imm)]),(3,.row 35 [(.int .i64 (1:Int)),(.int .i64 (1:Int))]),(4,.row 35 [(Z48 64),(.int .i64 (1:Int))]),(5,.row 35 [(Br a0.Bits),(Br a0.Lanes)]),(6,.row 35 [(Br a0.Bits),(.int .i64 (1:Int))])]
def Hk(a0:D4):Option (List (Int×Int)):=
 (bif (a0.Kind==0) then((Ef ([]:List (Int×Int))).bind fun x1=>(some x1)) else(bif (a0.Kind==13) then((Ef ([((1:Int),(1:Int)),(a0.Bits,a0.Lanes),(a0.Bits,a0.Lanes)]:List (Int×Int))).bind fun x2=>(some x2)) else(Option.bind (α:=Bool) (bif (a0.Kind==14) then(some (a0.Kind==14)) else(some (a0.Kind==15))) (fun x4=>(bif x4 then((Ef ([((A8 a0.Imm),(1:Int))]:List (Int×Int))).bind fun x6=>(some x6)) else(bif (a0.Kind==16) then((Ef ([((64:Int),(1:Int))]:List (Int×Int))).bind fun x7=>(some x7)) else(bif (a0.Kind==17) then((Ef ([((64:Int),(1:Int)),(a0.Bits,a0.Lanes)]:List (Int×Int))).bind fun x8=>(some x8)) else(Option.bind (α:=Bool) (bif (a0.Kind==18) then(some (a0.Kind==18)) else(some (a0.Kind==19))) (fun x10=>(bif x10 then((Ef ([((1:Int),(1:Int)),((64:Int),(1:Int)),(a0.Bits,(1:Int))]:List (Int×Int))).bind fun x12=>(some x12)) else(bif (a0.Kind==20) then((Ef ([((1:Int),(1:Int)),(a0.Bits,(1:Int)),(a0.Bits,(1:Int)),(a0.Bits,(1:Int))]:List (Int×Int))).bind fun x13=>(some x13)) else(bif (a0.Kind==21) then((A9 ([(a0.Bits,(1:Int))]:List (Int×Int)) a0.Lanes).bind fun x14=>((Ef x14).bind fun x15=>(some x15))) else(bif (a0.Kind==22) then((Ef ([(a0.Bits,a0.Lanes)]:List (Int×Int))).bind fun x16=>(some x16)) else((Ef ([(a0.Bits,a0.Lanes),(a0.Bits,a0.Lanes)]:List (Int×Int))).bind fun x17=>(some x17)))))))))))))))
theorem Pu(a0:D4)(r:List ((Int×Int)))(h:Hk a0=some r):Spec Tryz.prog 108 [(.agg (Ky a0))] [] (AV.list 2 A4 ((0:Int),(0:Int)) r .none) []:=by
 refine Af mix Tryz.func108 (fun Γ hq=>?_);unfold Hk at h;refine gR hq [1] [1] [(2,Z19)] [] (c1 (H0 2 A4 ((0:Int),(0:Int)))) ?_;refine Aj hq [1,3,4] [1,3,4] ?_;refine Aj hq [1,3,4,5,6] [1,3,4,5,6] ?_;refine Aj hq [1,3,4,5,6,18] [1,3,4,5,6] ?_;refine Aj hq [1,3,4,5,6,18,19] [1,3,4,5,6] ?_;refine gC h (fun h=>?_) (fun h=>?_)
 ·obtain⟨x1,hx1,h⟩:=bind_some h;refine gR hq [2] [] [] [(Z4 x1)] (c1 (show(Spec Tryz.prog 121 [(.slice 0 0 (fun _=>[]) .none)] [] (AV.list 2 A4 ((0:Int),(0:Int)) x1 .none) []) from(Spec.args (.cons av_nil0 .nil) (E4 ([]:List (Int×Int)) x1 hx1)))) ?_;obtain rfl:=OI h;exact Du []
 ·refine Aj hq [1,3,4,5,6,18,22] [1,3,4,5,6] ?_;refine gC h (fun h=>?_) (fun h=>?_)
  ·obtain⟨x2,hx2,h⟩:=bind_some h;refine gR hq [2] [] [(27,(AV.list 2 A4 ((0:Int),(0:Int)) ([((1:Int),(1:Int)),(a0.Bits,a0.Lanes),(a0.Bits,a0.Lanes)]:List (Int×Int)) .exact))] [(Z4 x2)] (ci (Dy 2 A4 ((0:Int),(0:Int)) ([((1:Int),(1:Int)),(a0.Bits,a0.Lanes),(a0.Bits,a0.Lanes)]:List (Int×Int))) (c1 (E4 ([((1:Int),(1:Int)),(a0.Bits,a0.Lanes),(a0.Bits,a0.Lanes)]:List (Int×Int)) x2 hx2))) ?_;obtain rfl:=OI h;exact Du []
  ·obtain⟨x4,hx4,h⟩:=bind_some h;refine gJ hx4 (fun b3=>aG Γ .normal (⟨(Z50 a0.Kind 29 b3),(Q62 a0),[]⟩:St)) ?_ ?_
   ·clear h hx4;intro y h;refine Aj hq [1,3,4,5,6,18,29] [1,3,4,5,6] ?_;refine gC h (fun h=>?_) (fun h=>?_)
    ·cases h;exact gK (Eb E9)
    ·refine Aj hq [1,3,4,5,6,18,29] [1,3,4,5,6] ?_;cases h;exact gK (Eb E9)
   ·clear hx4;refine gA ?_;refine gC h (fun h=>?_) (fun h=>?_)
    ·obtain⟨x6,hx6,h⟩:=bind_some h;refine gR hq [2] [] [(36,(AV.list 2 A4 ((0:Int),(0:Int)) ([((A8 a0.Imm),(1:Int))]:List (Int×Int)) .exact))] [(Z4 x6)] (ci (Dy 2 A4 ((0:Int),(0:Int)) ([((A8 a0.Imm),(1:Int))]:List (Int×Int))) (c1 (E4 ([((A8 a0.Imm),(1:Int))]:List (Int×Int)) x6 hx6))) ?_;obtain rfl:=OI h;exact Du []
    ·refine Aj hq [1,3,4,5,6,18,38] [1,3,4,5,6] ?_;refine gC h (fun h=>?_) (fun h=>?_)
     ·obtain⟨x7,hx7,h⟩:=bind_some h;refine gR hq [2] [] [(41,(AV.list 2 A4 ((0:Int),(0:Int)) ([((64:Int),(1:Int))]:List (Int×Int)) .exact))] [(Z4 x7)] (ci (Dy 2 A4 ((0:Int),(0:Int)) ([((64:Int),(1:Int))]:List (Int×Int))) (c1 (E4 ([((64:Int),(1:Int))]:List (Int×Int)) x7 hx7))) ?_;obtain rfl:=OI h;exact Du []
     ·refine Aj hq [1,3,4,5,6,18,43] [1,3,4,5,6] ?_;refine gC h (fun h=>?_) (fun h=>?_)
      ·obtain⟨x8,hx8,h⟩:=bind_some h;refine gR hq [2] [] [(47,(AV.list 2 A4 ((0:Int),(0:Int)) ([((64:Int),(1:Int)),(a0.Bits,a0.Lanes)]:List (Int×Int)) .exact))] [(Z4 x8)] (ci (Dy 2 A4 ((0:Int),(0:Int)) ([((64:Int),(1:Int)),(a0.Bits,a0.Lanes)]:List (Int×Int))) (c1 (E4 ([((64:Int),(1:Int)),(a0.Bits,a0.Lanes)]:List (Int×Int)) x8 hx8))) ?_;obtain rfl:=OI h;exact Du []
      ·obtain⟨x10,hx10,h⟩:=bind_some h;refine gJ hx10 (fun b9=>aG Γ .normal (⟨(Z50 a0.Kind 49 b9),(Q62 a0),[]⟩:St)) ?_ ?_
       ·clear h hx10;intro y h;refine Aj hq [1,3,4,5,6,18,49] [1,3,4,5,6] ?_;refine gC h (fun h=>?_) (fun h=>?_)
        ·cases h;exact gK (Eb E9)
        ·refine Aj hq [1,3,4,5,6,18,49] [1,3,4,5,6] ?_;cases h;exact gK (Eb E9)
       ·clear hx10;refine gA ?_;refine gC h (fun h=>?_) (fun h=>?_)
        ·obtain⟨x12,hx12,h⟩:=bind_some h;refine gR hq [2] [] [(55,(AV.list 2 A4 ((0:Int),(0:Int)) ([((1:Int),(1:Int)),((64:Int),(1:Int)),(a0.Bits,(1:Int))]:List (Int×Int)) .exact))] [(Z4 x12)] (ci (Dy 2 A4 ((0:Int),(0:Int)) ([((1:Int),(1:Int)),((64:Int),(1:Int)),(a0.Bits,(1:Int))]:List (Int×Int))) (c1 (E4 ([((1:Int),(1:Int)),((64:Int),(1:Int)),(a0.Bits,(1:Int))]:List (Int×Int)) x12 hx12))) ?_;obtain rfl:=OI h;exact Du []
        ·refine Aj hq [1,3,5,6,18,57] [1,3,5,6] ?_;refine gC h (fun h=>?_) (fun h=>?_)
         ·obtain⟨x13,hx13,h⟩:=bind_some h;refine gR hq [2] [] [(63,(AV.list 2 A4 ((0:Int),(0:Int)) ([((1:Int),(1:Int)),(a0.Bits,(1:Int)),(a0.Bits,(1:Int)),(a0.Bits,(1:Int))]:List (Int×Int)) .exact))] [(Z4 x13)] (ci (Dy 2 A4 ((0:Int),(0:Int)) ([((1:Int),(1:Int)),(a0.Bits,(1:Int)),(a0.Bits,(1:Int)),(a0.Bits,(1:Int))]:List (Int×Int))) (c1 (E4 ([((1:Int),(1:Int)),(a0.Bits,(1:Int)),(a0.Bits,(1:Int)),(a0.Bits,(1:Int))]:List (Int×Int)) x13 hx13))) ?_;obtain rfl:=OI h;exact Du []
         ·refine Aj hq [1,5,6,18,65] [1,5,6] ?_;refine gC h (fun h=>?_) (fun h=>?_)
          ·obtain⟨x14,hx14,h⟩:=bind_some h;obtain⟨x15,hx15,h⟩:=bind_some h;refine gR hq [2] [] [(68,(AV.list 2 A4 ((0:Int),(0:Int)) ([(a0.Bits,(1:Int))]:List (Int×Int)) .exact))] [⟨[],[(20000,71)],(AV.list 2 A4 ((0:Int),(0:Int)) x14 (.own 20000)),[(20000,.tok 2 35 x14.length)],[]⟩,(Z4 x15)] (ci (Dy 2 A4 ((0:Int),(0:Int)) ([(a0.Bits,(1:Int))]:List (Int×Int))) (ci (Jv ([(a0.Bits,(1:Int))]:List (Int×Int)) a0.Lanes x14 hx14) (c1 (E4 x14 x15 hx15)))) ?_;obtain rfl:=OI h;exact Du []
          ·refine Aj hq [5,73] [5] ?_;refine gC h (fun h=>?_) (fun h=>?_)
           ·obtain⟨x16,hx16,h⟩:=bind_some h;refine gR hq [2] [] [(76,(AV.list 2 A4 ((0:Int),(0:Int)) ([(a0.Bits,a0.Lanes)]:List (Int×Int)) .exact))] [(Z4 x16)] (ci (Dy 2 A4 ((0:Int),(0:Int)) ([(a0.Bits,a0.Lanes)]:List (Int×Int))) (c1 (E4 ([(a0.Bits,a0.Lanes)]:List (Int×Int)) x16 hx16))) ?_;obtain rfl:=OI h;exact Du []
           ·obtain⟨x17,hx17,h⟩:=bind_some h;refine gR hq [2] [] [(80,(AV.list 2 A4 ((0:Int),(0:Int)) ([(a0.Bits,a0.Lanes),(a0.Bits,a0.Lanes)]:List (Int×Int)) .exact))] [(Z4 x17)] (ci (Dy 2 A4 ((0:Int),(0:Int)) ([(a0.Bits,a0.Lanes),(a0.Bits,a0.Lanes)]:List (Int×Int))) (c1 (E4 ([(a0.Bits,a0.Lanes),(a0.Bits,a0.Lanes)]:List (Int×Int)) x17 hx17))) ?_;obtain rfl:=OI h;exact Du []
def F4(aE:Int):Option Bool:=
 (some (bif (decide (((1:Int):Int)≤aE)) then(decide (aE≤1023)) else false))
theorem Nd(aE:Int)(r:Bool)(h:F4 aE=some r):Spec Tryz.prog 138 [(.int .i64 aE)] [] (.bool r) []:=by
 refine Af mix Tryz.func138 (fun Γ hq=>?_);unfold F4 at h;refine Aj hq [0] [] ?_;refine gR hq [2] [] [] [] (ci (gI ((decide (((1:Int):Int)≤aE))==true)) (c1 (Kx (decide (((1:Int):Int)≤aE))))) ?_;cases h;exact Du []
def Es(a0:D4):Int→Option (LR Int (Unit ⊕ Bool)):=
 fun(i2:Int)=>(bif (decide (i2<(a0.Args.length:Int))) then(Cs (Cg i2 a0.Args.length) ((F4 (a0.Args.getD i2.toNat 0)).bind fun x4=>(bif (!x4) then(some (.done (.inr false))) else(some (.next (A8 (i2+1))))))) else(some (.done (.inl ()))))
def Uk(Γ:Ga)(a0:D4)(r:Bool):Exit→St→Prop:=fK Tryz.prog Γ Tryz.f119.results.toList [] (.bool r) []
def G6(a0:D4):Option Bool:=
 ((Hk a0).bind fun x1=>(bif (((a0.Args.length:Int):Int)!=(x1.length:Int)) then(some false) else((Ak (Es a0) (0:Int)).bind (fun x5=>(match x5 with|(.inl _)=>(some true)|(.inr r7)=>(some r7))))))
theorem Tv(a0:D4)(r:Bool)(h:G6 a0=some r):Spec Tryz.prog 119 [(.agg (Ky a0))] [] (.bool r) []:=by
 refine Af mix Tryz.func119 (fun Γ hq=>?_);unfold G6 at h;refine Aj hq [1] [1] ?_;obtain⟨x1,hx1,h⟩:=bind_some h;refine gR hq [1,11] [1] [] [(Z4 x1)] (c1 (Pu a0 x1 hx1)) ?_;refine gC h (fun h=>?_) (fun h=>?_)
 ·refine Aj hq [2] [] ?_;obtain rfl:=OI h;exact Du []
 ·refine Aj hq [13,14,15] [] ?_;obtain⟨x5,hx5,h⟩:=bind_some h;refine gL hq hx5 [13,14,15] [] (fun u i2=>(Et u [(15,(Br i2))] [])) (fun u x_=>match x_ with|(.inl _)=>aG Γ (.exit 0) (⟨[],[],[]⟩:St)|(.inr r_)=>aR (Uk Γ a0 r_)) ?_ ?_
  ·intro i2 y h;unfold Es at h;refine Aj hq [13,14,15,16] [] ?_;refine gC h (fun h=>?_) (fun h=>?_)
   ·obtain⟨hc3,h⟩:=Aa h;refine gR hq [4,13,14,15] [] [] [] (c1 hc3) ?_;obtain⟨x4,hx4,h⟩:=bind_some h;refine gR hq [13,14,15,21] [] [] [(Z6 x4)] (c1 (Nd (a0.Args.getD i2.toNat 0) x4 hx4)) ?_;refine gC h (fun h=>?_) (fun h=>?_)
    ·refine Aj hq [2] [] ?_;cases h;exact gO (Pg (J6 [] (Le.refl _ _)))
    ·refine Aj hq [13,14,15] [] ?_;cases h;exact gN E9
   ·cases h;exact gO (Eb (Ej [] [] hq))
  ·clear hx5;rcases x5 with _|r7
   ·refine gA ?_;refine Aj hq [2] [] ?_;obtain rfl:=OI h;exact Du []
   ·refine R0 (fun st' hk=>?_);obtain rfl:=OI h;exact gK hk
def Q63(a0:D4):List (Nat×Own):=[(1,.row 47 [(Br a0.Kind),(Br a0.Bits),(Br a0.Lanes),(Br a0.Dst),(Tn a0.Args),(.int .u64 a0.Imm)])]
def Hj(a0:D4):Option (Int×Int):=
 (Option.bind (α:=Bool) (bif (a0.Kind==17) then(some (a0.Kind==17)) else(some (a0.Kind==19))) (fun x2=>(bif x2 then(some ((0:Int),(0:Int))) else(Option.bind (α:=Bool) (bif (a0.Kind==10) then(some (a0.Kind==10)) else(bif (a0.Kind==11) then(some (a0.Kind==11)) else(some (a0.Kind==12)))) (fun x5=>(bif x5 then(some ((1:Int),(1:Int))) else(bif (a0.Kind==22) then(some (a0.Bits,(1:Int))) else(some (a0.Bits,a0.Lanes)))))))))
theorem Pt(a0:D4)(r:(Int×Int))(h:Hj a0=some r):Spec Tryz.prog 107 [(.agg (Ky a0))] [] (.tuple [(.int .i64 r.1),(.int .i64 r.2)]) []:=by
 refine Af mix Tryz.func107 (fun Γ hq=>?_);unfold Hj at h;refine Aj hq [1] [1] ?_;refine Aj hq [1,5] [1] ?_;obtain⟨x2,hx2,h⟩:=bind_some h;refine gJ hx2 (fun b1=>aG Γ .normal (⟨[(1,(.ptr 1 0)),(5,(Br a0.Kind)),(6,(.bool b1))],(Q63 a0),[]⟩:St)) ?_ ?_
 ·clear h hx2;intro y h;refine Aj hq [1,5,6] [1] ?_;refine gC h (fun h=>?_) (fun h=>?_)
  ·cases h;exact gK (Eb E9)
  ·refine Aj hq [1,5,6] [1] ?_;cases h;exact gK (Eb E9)
 ·clear hx2;refine gA ?_;refine gC h (fun h=>?_) (fun h=>?_)
  ·refine Aj hq [2,3] [] ?_;cases h;exact Du []
  ·obtain⟨x5,hx5,h⟩:=bind_some h;refine gJ hx5 (fun b4=>aG Γ .normal (⟨[(1,(.ptr 1 0)),(5,(Br a0.Kind)),(9,(.bool b4))],(Q63 a0),[]⟩:St)) ?_ ?_
   ·clear h hx5;intro y h;refine Aj hq [1,5,9] [1] ?_;refine gC h (fun h=>?_) (fun h=>?_)
    ·cases h;exact gK (Eb E9)
    ·refine Aj hq [1,5,9] [1] ?_;refine gC h (fun h=>?_) (fun h=>?_)
     ·cases h;exact gK (Eb E9)
     ·refine Aj hq [1,5,9] [1] ?_;cases h;exact gK (Eb E9)
   ·clear hx5;refine gA ?_;refine gC h (fun h=>?_) (fun h=>?_)
    ·refine Aj hq [2,3] [] ?_;cases h;exact Du []
    ·refine Aj hq [1,13] [1] ?_;refine gC h (fun h=>?_) (fun h=>?_)
     ·refine Aj hq [2,3] [] ?_;cases h;exact Du []
     ·refine Aj hq [2,3] [] ?_;cases h;exact Du []
def G7(a0:D4):Option Bool:=
 ((Hj a0).bind fun x1=>(bif (x1.1==0) then(some (a0.Dst==0)) else((F4 a0.Dst).bind fun x2=>(some x2))))
theorem Tw(a0:D4)(r:Bool)(h:G7 a0=some r):Spec Tryz.prog 120 [(.agg (Ky a0))] [] (.bool r) []:=by
 refine Af mix Tryz.func120 (fun Γ hq=>?_);unfold G7 at h;refine Aj hq [1] [1] ?_;obtain⟨x1,hx1,h⟩:=bind_some h;refine gR hq [1,3] [1] [] [⟨[],[],(.tuple [(Br x1.1),(Br x1.2)]),[],[]⟩] (c1 (Pt a0 x1 hx1)) ?_;refine Aj hq [1,11] [1] ?_;refine gC h (fun h=>?_) (fun h=>?_)
 ·refine Aj hq [2] [] ?_;cases h;exact Du []
 ·obtain⟨x2,hx2,h⟩:=bind_some h;refine gR hq [2] [] [] [(Z6 x2)] (c1 (Nd a0.Dst x2 hx2)) ?_;obtain rfl:=OI h;exact Du []
def Q64(x1:Bool)(x2:Bool):=(bif (!x1) then true else(!x2))
def H5(a0:D4):Option Bool:=
 ((Hx a0.Kind).bind fun x1=>((bif ((!x1)==false) then Il a0.Bits a0.Lanes else some false).bind fun x2=>((bif ((bif (!x1) then true else(!x2))==false) then F6 a0 else some false).bind fun x3=>((bif ((bif (bif (!x1) then true else(!x2)) then true else(!x3))==false) then G8 a0 else some false).bind fun x4=>(bif (bif (bif (bif (!x1) then true else(!x2)) then true else(!x3)) then true else(!x4)) then(some false) else((G6 a0).bind fun x5=>((bif (x5==true) then G7 a0 else some false).bind fun x6=>(some (bif x5 then x6 else false)))))))))
theorem Oe(a0:D4)(r:Bool)(h:H5 a0=some r):Spec Tryz.prog 105 [(.agg (Ky a0))] [] (.bool r) []:=by
 refine Af mix Tryz.func105 (fun Γ hq=>?_);unfold H5 at h;refine Aj hq [1] [1] ?_;obtain⟨x1,hx1,h⟩:=bind_some h;obtain⟨x2,hx2,h⟩:=bind_some h;obtain⟨x3,hx3,h⟩:=bind_some h;obtain⟨x4,hx4,h⟩:=bind_some h;refine gR hq [1,24] [1] [] [(Z6 x1),(Z6 x2),(Z6 x3),(Z6 x4)] (ci (Vp a0.Kind x1 hx1) (ci (gI ((!x1)==false)) (ci (gI ((!x1)==false)) (ci (gI ((!x1)==false)) (ci (gI ((!x1)==false)) (ci (fun(hg:((!x1)==false)=true)=>(W9 a0.Bits a0.Lanes x2 (Dd hg hx2))) (ci (gI ((!x1)==false)) (ci (Wu (!x1)) (ci (gI ((Q64 x1 x2)==false)) (ci (fun(hg:((Q64 x1 x2)==false)=true)=>(Rg a0 x3 (Dd hg hx3))) (ci (gI ((Q64 x1 x2)==false)) (ci (Wu (Q64 x1 x2)) (ci (gI ((bif (Q64 x1 x2) then true else(!x3))==false)) (ci (fun(hg:((bif (Q64 x1 x2) then true else(!x3))==false)=true)=>(Tx a0 x4 (Dd hg hx4))) (ci (gI ((bif (Q64 x1 x2) then true else(!x3))==false)) (c1 (Wu (bif (Q64 x1 x2) then true else(!x3))))))))))))))))))) ?_;refine gC h (fun h=>?_) (fun h=>?_)
 ·refine Aj hq [2] [] ?_;obtain rfl:=OI h;exact Du []
 ·obtain⟨x5,hx5,h⟩:=bind_some h;obtain⟨x6,hx6,h⟩:=bind_some h;refine gR hq [2] [] [] [(Z6 x5),(Z6 x6)] (ci (Tv a0 x5 hx5) (ci (gI (x5==true)) (ci (fun(hg:(x5==true)=true)=>(Tw a0 x6 (Dd hg hx6))) (c1 (Kx x5))))) ?_;cases h;exact Du []
def Ij(a0:D4)(aL:Int):Option Bool:=
 (bif (aL==0) then(some (bif (decide (a0.Kind≤17)) then(a0.Lanes==1) else false)) else(bif (aL==1) then(some (bif (decide (a0.Kind≤20)) then(a0.Lanes==1) else false)) else(some true)))
theorem W4(a0:D4)(aL:Int)(r:Bool)(h:Ij a0 aL=some r):Spec Tryz.prog 106 [(.agg (Ky a0)),(.int .i64 aL)] [] (.bool r) []:=by
 refine Af mix Tryz.func106 (fun Γ hq=>?_);unfold Ij at h;refine Aj hq [1,2] [2] ?_;refine Aj hq [2,5] [2] ?_;refine Aj hq [2,5,6] [2] ?_;refine gC h (fun h=>?_) (fun h=>?_)
 ·refine gR hq [4] [] [] [] (ci (gI ((decide (a0.Kind≤17))==true)) (ci (gI ((decide (a0.Kind≤17))==true)) (c1 (Kx (decide (a0.Kind≤17)))))) ?_;cases h;exact Du []
 ·refine Aj hq [2,16] [2] ?_;refine gC h (fun h=>?_) (fun h=>?_)
  ·refine gR hq [4] [] [] [] (ci (gI ((decide (a0.Kind≤20))==true)) (ci (gI ((decide (a0.Kind≤20))==true)) (c1 (Kx (decide (a0.Kind≤20)))))) ?_;cases h;exact Du []
  ·refine Aj hq [4] [] ?_;obtain rfl:=OI h;exact Du []
def Dp(a0:D4)(a1:TFunc)(a7:Int)(a8:List Int)(a4:List Ah):Option (Bool×TFunc×Int×List Int×List Ah):=
 ((H5 a0).bind fun x1=>((bif (x1==true) then Ij a0 a7 else some false).bind fun x2=>(some ((bif x1 then x2 else false),a1,a7,a8,a4))))
theorem Lo(a0:D4)(a1:TFunc)(a7:Int)(a8:List Int)(a4:List Ah)(r:(Bool×TFunc×Int×List Int×List Ah))(h:Dp a0 a1 a7 a8 a4=some r):Spec Tryz.prog 85 [(.ptr 30000 0),(.agg (Ky a0))] [(30000,.row 59 [(AV.list 1 Ag 0 a1.Params .none),(.int .i64 a1.Ret),(AV.list 5 Au default a1.Blocks .none),(.int .i64 a7),(AV.list 1 Ag 0 a8 .none),.nilm,(AV.list 5 Bz default a4 (.own 37006))]),(37006,.tok 5 104 a4.length)] (.bool r.1) [(30000,.row 59 [(AV.list 1 Ag 0 r.2.1.Params .none),(.int .i64 r.2.1.Ret),(AV.list 5 Au default r.2.1.Blocks .none),(.int .i64 r.2.2.1),(AV.list 1 Ag 0 r.2.2.2.1 .none),.nilm,(AV.list 5 Bz default r.2.2.2.2 (.own 37006))]),(37006,.tok 5 104 r.2.2.2.2.length)]:=by
 refine Af mix Tryz.func85 (fun Γ hq=>?_);unfold Dp at h;refine Aj hq [0,3] [3,30000,37006] ?_;obtain⟨x1,hx1,h⟩:=bind_some h;obtain⟨x2,hx2,h⟩:=bind_some h;refine gR hq [4] [30000,37006] [] [(Z6 x1),(Z6 x2)] (ci (Oe a0 x1 hx1) (ci (gI (x1==true)) (ci (gI (x1==true)) (ci (gI (x1==true)) (ci (gI (x1==true)) (ci (gI (x1==true)) (ci (fun(hg:(x1==true)=true)=>(W4 a0 a7 x2 (Dd hg hx2))) (c1 (Kx x1))))))))) ?_;cases h;exact Du [(30000,30000),(37006,37006)]
def Db(aA:List D4):(Int×List Int×Int×List Ab×Int×List Int×List Ah)→Option (LR (Int×List Int×Int×List Ab×Int×List Int×List Ah) ((List Int×Int×List Ab×Int×List Int×List Ah) ⊕ (Bool×TFunc×Int×List Int×List Ah))):=
 fun((i1,l2,i3,l4,i5,l6,l7):(Int×List Int×Int×List Ab×Int×List Int×List Ah))=>(bif (decide (i1<(aA.length:Int))) then(Cs (Cg i1 aA.length) ((Dp (aA.getD i1.toNat default) (⟨l2,i3,l4⟩:TFunc) i5 l6 l7).bind fun x15=>(bif (!x15.1) then(some (.done (.inr (false,x15.2.1,x15.2.2.1,x15.2.2.2.1,x15.2.2.2.2)))) else(some (.next ((A8 (i1+1)),x15.2.1.Params,x15.2.1.Ret,x15.2.1.Blocks,x15.2.2.1,x15.2.2.2.1,x15.2.2.2.2)))))) else(some (.done (.inl (l2,i3,l4,i5,l6,l7)))))
def P1(Γ:Ga)(aA:List D4)(a1:TFunc)(a7:Int)(a8:List Int)(a4:List Ah)(r:(Bool×TFunc×Int×List Int×List Ah)):Exit→St→Prop:=fK Tryz.prog Γ Tryz.f84.results.toList (Z3 a1.Params a1.Ret a1.Blocks a7 a8 a4 a4.length) (.bool r.1) (Z3 r.2.1.Params r.2.1.Ret r.2.1.Blocks r.2.2.1 r.2.2.2.1 r.2.2.2.2 r.2.2.2.2.length)
def Fb(aA:List D4)(a1:TFunc)(a7:Int)(a8:List Int)(a4:List Ah):Option (Bool×TFunc×Int×List Int×List Ah):=
 ((Ak (Db aA) ((0:Int),a1.Params,a1.Ret,a1.Blocks,a7,a8,a4)).bind (fun x16=>(match x16 with|(.inl (l8,i9,l10,i11,l12,l13))=>(some (true,(⟨l8,i9,l10⟩:TFunc),i11,l12,l13))|(.inr r18)=>(some r18))))
theorem Pj(aA:List D4)(a1:TFunc)(a7:Int)(a8:List Int)(a4:List Ah)(r:(Bool×TFunc×Int×List Int×List Ah))(h:Fb aA a1 a7 a8 a4=some r):Spec Tryz.prog 84 [(AV.list 6 Ky default aA .none),(.clo 85 [(.ptr 30000 0)] [])] [(30000,.row 59 [(AV.list 1 Ag 0 a1.Params .none),(.int .i64 a1.Ret),(AV.list 5 Au default a1.Blocks .none),(.int .i64 a7),(AV.list 1 Ag 0 a8 .none),.nilm,(AV.list 5 Bz default a4 (.own 37006))]),(37006,.tok 5 104 a4.length)] (.bool r.1) [(30000,.row 59 [(AV.list 1 Ag 0 r.2.1.Params .none),(.int .i64 r.2.1.Ret),(AV.list 5 Au default r.2.1.Blocks .none),(.int .i64 r.2.2.1),(AV.list 1 Ag 0 r.2.2.2.1 .none),.nilm,(AV.list 5 Bz default r.2.2.2.2 (.own 37006))]),(37006,.tok 5 104 r.2.2.2.2.length)]:=by
 refine Af mix Tryz.func84 (fun Γ hq=>?_);unfold Fb at h;refine Aj hq [0,1] [30000,37006] ?_;refine Aj hq [1,7,8,9] [30000,37006] ?_;obtain⟨x16,hx16,h⟩:=bind_some h;refine gL hq hx16 [1,7,8,9] [30000,37006] (fun u (i1,l2,i3,l4,i5,l6,l7)=>(Et u [(9,(Br i1))] (Z3 l2 i3 l4 i5 l6 l7 l7.length))) (fun u x_=>match x_ with|(.inl (l8,i9,l10,i11,l12,l13))=>aG Γ (.exit 0) (⟨[],(Z3 l8 i9 l10 i11 l12 l13 l13.length),[]⟩:St)|(.inr r_)=>aR (P1 Γ aA a1 a7 a8 a4 r_)) ?_ ?_
 ·rintro⟨i1,l2,i3,l4,i5,l6,l7⟩ y h;unfold Db at h;refine Aj hq [1,7,8,9,10] [30000,37006] ?_;refine gC h (fun h=>?_) (fun h=>?_)
  ·obtain⟨hc14,h⟩:=Aa h;refine gR hq [1,6,7,8,9] [6,30000,37006] [] [] (c1 hc14) ?_;obtain⟨x15,hx15,h⟩:=bind_some h;refine gR hq [1,7,8,9,16] [30000,37006] [] [(Z40 x15.1 x15.2.1.Params x15.2.1.Ret x15.2.1.Blocks x15.2.2.1 x15.2.2.2.1 x15.2.2.2.2 x15.2.2.2.2.length)] (c1 (Lo (aA.getD i1.toNat default) (⟨l2,i3,l4⟩:TFunc) i5 l6 l7 x15 hx15)) ?_;refine gC h (fun h=>?_) (fun h=>?_)
   ·refine Aj hq [4] [30000,37006] ?_;cases h;exact gO (Pg (J6 [(30000,30000),(37006,37006)] (Le.refl _ _)))
   ·refine Aj hq [1,7,8,9] [30000,37006] ?_;cases h;exact gN E9
  ·cases h;exact gO (Eb (Ej [] [30000,37006] hq))
 ·clear hx16;rcases x16 with⟨l8,i9,l10,i11,l12,l13⟩|r18
  ·refine gA ?_;refine Aj hq [4] [30000,37006] ?_;cases h;exact Du [(30000,30000),(37006,37006)]
  ·refine R0 (fun st' hk=>?_);obtain rfl:=OI h;exact gK hk
def Q67(x1:Bool)(x2:(Bool×TFunc×Int×List Int×List Ah))(a8:List Int):AV:=(Z28 x1 x2.2.2.2.1 a8)
def Q66(x1:Bool)(x2:(Bool×TFunc×Int×List Int×List Ah))(a1:TFunc):AV:=(Z28 x1 x2.2.1.Params a1.Params)
def Q65(x1:Bool)(x2:(Bool×TFunc×Int×List Int×List Ah))(a1:TFunc):AV:=(.slice 5 (bif (x1==true) then x2.2.1.Blocks.length else a1.Blocks.length) (fun i=>bif (x1==true) then Au (x2.2.1.Blocks.getD i default) else Au (a1.Blocks.getD i default)) .none)
def Cw(aI:Ab)(a1:TFunc)(a7:Int)(a8:List Int)(a4:List Ah):Option (Bool×TFunc×Int×List Int×List Ah):=
 ((Ey aI.Phis).bind fun x1=>((bif (x1==true) then Fb aI.Ops a1 a7 a8 a4 else some (false,(default:TFunc),(0:Int),[],[])).bind fun x2=>(some ((bif x1 then x2.1 else false),(⟨(bif (x1==true) then x2.2.1.Params else a1.Params),(bif (x1==true) then x2.2.1.Ret else a1.Ret),(bif (x1==true) then x2.2.1.Blocks else a1.Blocks)⟩:TFunc),(bif (x1==true) then x2.2.2.1 else a7),(bif (x1==true) then x2.2.2.2.1 else a8),(bif (x1==true) then x2.2.2.2.2 else a4)))))
theorem J1(aI:Ab)(a1:TFunc)(a7:Int)(a8:List Int)(a4:List Ah)(r:(Bool×TFunc×Int×List Int×List Ah))(h:Cw aI a1 a7 a8 a4=some r):Spec Tryz.prog 57 [(.ptr 30000 0),(.agg (Au aI))] [(30000,.row 59 [(AV.list 1 Ag 0 a1.Params .none),(.int .i64 a1.Ret),(AV.list 5 Au default a1.Blocks .none),(.int .i64 a7),(AV.list 1 Ag 0 a8 .none),.nilm,(AV.list 5 Bz default a4 (.own 37006))]),(37006,.tok 5 104 a4.length)] (.bool r.1) [(30000,.row 59 [(AV.list 1 Ag 0 r.2.1.Params .none),(.int .i64 r.2.1.Ret),(AV.list 5 Au default r.2.1.Blocks .none),(.int .i64 r.2.2.1),(AV.list 1 Ag 0 r.2.2.2.1 .none),.nilm,(AV.list 5 Bz default r.2.2.2.2 (.own 37006))]),(37006,.tok 5 104 r.2.2.2.2.length)]:=by
 refine Af mix Tryz.func57 (fun Γ hq=>?_);unfold Cw at h;refine Aj hq [0,3] [3,30000,37006] ?_;obtain⟨x1,hx1,h⟩:=bind_some h;obtain⟨x2,hx2,h⟩:=bind_some h;refine gR hq [4] [30000,37006] [] [(Z6 x1),(Z40 x2.1 x2.2.1.Params x2.2.1.Ret x2.2.1.Blocks x2.2.2.1 x2.2.2.2.1 x2.2.2.2.2 x2.2.2.2.2.length)] (ci (Oa aI.Phis x1 hx1) (ci (gI (x1==true)) (ci (gI (x1==true)) (ci (gI (x1==true)) (ci (gI (x1==true)) (ci (fun(hg:(x1==true)=true)=>(Pj aI.Ops a1 a7 a8 a4 x2 (Dd hg hx2))) (c1 (Kx x1)))))))) ?_;cases h;exact gK (e:=.ret) (J6 [(30000,30000),(37006,37006)] (Le.trans (leB (fun g_ u=>(Et u [] [(30000,.row 59 [(Q66 x1 x2 a1),(.int .i64 (bif (x1==true) then x2.2.1.Ret else a1.Ret)),(Q65 x1 x2 a1),(.int .i64 (bif (x1==true) then x2.2.2.1 else a7)),(Q67 x1 x2 a8),.nilm,(Z16 g_ x2.2.2.2.2 a4)]),(37006,.tok 5 104 (bif g_ then x2.2.2.2.2.length else a4.length))])) (fun g_ u=>(Et u [] [(30000,.row 59 [(Q66 x1 x2 a1),(.int .i64 (bif (x1==true) then x2.2.1.Ret else a1.Ret)),(Q65 x1 x2 a1),(.int .i64 (bif (x1==true) then x2.2.2.1 else a7)),(Q67 x1 x2 a8),.nilm,(AV.list 5 Bz default (bif g_ then x2.2.2.2.2 else a4) (.own 37006))]),(37006,.tok 5 104 ((bif g_ then x2.2.2.2.2 else a4).length))])) (x1==true)) (Le.trans (leC 30000 0 (show AVle (Q66 x1 x2 a1) (AV.list 1 Ag 0 (bif (x1==true) then x2.2.1.Params else a1.Params) .none) from Fk)) (Le.trans (leC 30000 2 (show AVle (Q65 x1 x2 a1) (AV.list 5 Au default (bif (x1==true) then x2.2.1.Blocks else a1.Blocks) .none) from Fk)) (leC 30000 4 (show AVle (Q67 x1 x2 a8) (AV.list 1 Ag 0 (bif (x1==true) then x2.2.2.2.1 else a8) .none) from Fk))))))
def Co(aA:List Ab):(Int×List Int×Int×List Ab×Int×List Int×List Ah)→Option (LR (Int×List Int×Int×List Ab×Int×List Int×List Ah) ((List Int×Int×List Ab×Int×List Int×List Ah) ⊕ (Bool×TFunc×Int×List Int×List Ah))):=
 fun((i1,l2,i3,l4,i5,l6,l7):(Int×List Int×Int×List Ab×Int×List Int×List Ah))=>(bif (decide (i1<(aA.length:Int))) then(Cs (Cg i1 aA.length) ((Cw (aA.getD i1.toNat default) (⟨l2,i3,l4⟩:TFunc) i5 l6 l7).bind fun x15=>(bif (!x15.1) then(some (.done (.inr (false,x15.2.1,x15.2.2.1,x15.2.2.2.1,x15.2.2.2.2)))) else(some (.next ((A8 (i1+1)),x15.2.1.Params,x15.2.1.Ret,x15.2.1.Blocks,x15.2.2.1,x15.2.2.2.1,x15.2.2.2.2)))))) else(some (.done (.inl (l2,i3,l4,i5,l6,l7)))))
def Nh(Γ:Ga)(aA:List Ab)(a1:TFunc)(a7:Int)(a8:List Int)(a4:List Ah)(r:(Bool×TFunc×Int×List Int×List Ah)):Exit→St→Prop:=fK Tryz.prog Γ Tryz.f56.results.toList (Z3 a1.Params a1.Ret a1.Blocks a7 a8 a4 a4.length) (.bool r.1) (Z3 r.2.1.Params r.2.1.Ret r.2.1.Blocks r.2.2.1 r.2.2.2.1 r.2.2.2.2 r.2.2.2.2.length)
def D7(aA:List Ab)(a1:TFunc)(a7:Int)(a8:List Int)(a4:List Ah):Option (Bool×TFunc×Int×List Int×List Ah):=
 ((Ak (Co aA) ((0:Int),a1.Params,a1.Ret,a1.Blocks,a7,a8,a4)).bind (fun x16=>(match x16 with|(.inl (l8,i9,l10,i11,l12,l13))=>(some (true,(⟨l8,i9,l10⟩:TFunc),i11,l12,l13))|(.inr r18)=>(some r18))))
theorem Ms(aA:List Ab)(a1:TFunc)(a7:Int)(a8:List Int)(a4:List Ah)(r:(Bool×TFunc×Int×List Int×List Ah))(h:D7 aA a1 a7 a8 a4=some r):Spec Tryz.prog 56 [(AV.list 5 Au default aA .none),(.clo 57 [(.ptr 30000 0)] [])] [(30000,.row 59 [(AV.list 1 Ag 0 a1.Params .none),(.int .i64 a1.Ret),(AV.list 5 Au default a1.Blocks .none),(.int .i64 a7),(AV.list 1 Ag 0 a8 .none),.nilm,(AV.list 5 Bz default a4 (.own 37006))]),(37006,.tok 5 104 a4.length)] (.bool r.1) [(30000,.row 59 [(AV.list 1 Ag 0 r.2.1.Params .none),(.int .i64 r.2.1.Ret),(AV.list 5 Au default r.2.1.Blocks .none),(.int .i64 r.2.2.1),(AV.list 1 Ag 0 r.2.2.2.1 .none),.nilm,(AV.list 5 Bz default r.2.2.2.2 (.own 37006))]),(37006,.tok 5 104 r.2.2.2.2.length)]:=by
 refine Af mix Tryz.func56 (fun Γ hq=>?_);unfold D7 at h;refine Aj hq [0,1] [30000,37006] ?_;refine Aj hq [1,7,8,9] [30000,37006] ?_;obtain⟨x16,hx16,h⟩:=bind_some h;refine gL hq hx16 [1,7,8,9] [30000,37006] (fun u (i1,l2,i3,l4,i5,l6,l7)=>(Et u [(9,(Br i1))] (Z3 l2 i3 l4 i5 l6 l7 l7.length))) (fun u x_=>match x_ with|(.inl (l8,i9,l10,i11,l12,l13))=>aG Γ (.exit 0) (⟨[],(Z3 l8 i9 l10 i11 l12 l13 l13.length),[]⟩:St)|(.inr r_)=>aR (Nh Γ aA a1 a7 a8 a4 r_)) ?_ ?_
 ·rintro⟨i1,l2,i3,l4,i5,l6,l7⟩ y h;unfold Co at h;refine Aj hq [1,7,8,9,10] [30000,37006] ?_;refine gC h (fun h=>?_) (fun h=>?_)
  ·obtain⟨hc14,h⟩:=Aa h;refine gR hq [1,6,7,8,9] [6,30000,37006] [] [] (c1 hc14) ?_;obtain⟨x15,hx15,h⟩:=bind_some h;refine gR hq [1,7,8,9,16] [30000,37006] [] [(Z40 x15.1 x15.2.1.Params x15.2.1.Ret x15.2.1.Blocks x15.2.2.1 x15.2.2.2.1 x15.2.2.2.2 x15.2.2.2.2.length)] (c1 (J1 (aA.getD i1.toNat default) (⟨l2,i3,l4⟩:TFunc) i5 l6 l7 x15 hx15)) ?_;refine gC h (fun h=>?_) (fun h=>?_)
   ·refine Aj hq [4] [30000,37006] ?_;cases h;exact gO (Pg (J6 [(30000,30000),(37006,37006)] (Le.refl _ _)))
   ·refine Aj hq [1,7,8,9] [30000,37006] ?_;cases h;exact gN E9
  ·cases h;exact gO (Eb (Ej [] [30000,37006] hq))
 ·clear hx16;rcases x16 with⟨l8,i9,l10,i11,l12,l13⟩|r18
  ·refine gA ?_;refine Aj hq [4] [30000,37006] ?_;cases h;exact Du [(30000,30000),(37006,37006)]
  ·refine R0 (fun st' hk=>?_);obtain rfl:=OI h;exact gK hk
def Yx(x1:Bool)(x2:Bool):=((bif x1 then x2 else false)==true)
def Q71(x1:Bool)(x2:Bool)(x3:(Bool×TFunc×Int×List Int×List Ah))(a8:List Int):AV:=(Z11 (Yx x1 x2) x3.2.2.2.1 a8)
def Q70(x1:Bool)(x2:Bool)(x3:(Bool×TFunc×Int×List Int×List Ah))(a1:TFunc):AV:=(Z11 (Yx x1 x2) x3.2.1.Params a1.Params)
def Q69(x1:Bool)(x2:Bool)(x3:(Bool×TFunc×Int×List Int×List Ah))(a1:TFunc):AV:=(Z23 (Yx x1 x2) x3.2.1.Blocks a1.Blocks)
def D8(a1:TFunc)(a7:Int)(a8:List Int)(a4:List Ah):Option (Int×TFunc×Int×List Int×List Ah):=
 ((Gm a1.Params).bind fun x1=>((bif (x1==true) then Fe a1.Ret else some false).bind fun x2=>((bif ((bif x1 then x2 else false)==true) then D7 a1.Blocks a1 a7 a8 a4 else some (false,(default:TFunc),(0:Int),[],[])).bind fun x3=>((F0 (bif (bif x1 then x2 else false) then x3.1 else false) (6:Int)).bind fun x4=>(some (x4,(⟨(bif ((bif x1 then x2 else false)==true) then x3.2.1.Params else a1.Params),(bif ((bif x1 then x2 else false)==true) then x3.2.1.Ret else a1.Ret),(bif ((bif x1 then x2 else false)==true) then x3.2.1.Blocks else a1.Blocks)⟩:TFunc),(bif ((bif x1 then x2 else false)==true) then x3.2.2.1 else a7),(bif ((bif x1 then x2 else false)==true) then x3.2.2.2.1 else a8),(bif ((bif x1 then x2 else false)==true) then x3.2.2.2.2 else a4)))))))
theorem Mt(a1:TFunc)(a7:Int)(a8:List Int)(a4:List Ah)(r:(Int×TFunc×Int×List Int×List Ah))(h:D8 a1 a7 a8 a4=some r):Spec Tryz.prog 32 [(.ptr 30000 0)] [(30000,.row 59 [(AV.list 1 Ag 0 a1.Params .none),(.int .i64 a1.Ret),(AV.list 5 Au default a1.Blocks .none),(.int .i64 a7),(AV.list 1 Ag 0 a8 .none),.nilm,(AV.list 5 Bz default a4 (.own 37006))]),(37006,.tok 5 104 a4.length)] (.int .i64 r.1) [(30000,.row 59 [(AV.list 1 Ag 0 r.2.1.Params .none),(.int .i64 r.2.1.Ret),(AV.list 5 Au default r.2.1.Blocks .none),(.int .i64 r.2.2.1),(AV.list 1 Ag 0 r.2.2.2.1 .none),.nilm,(AV.list 5 Bz default r.2.2.2.2 (.own 37006))]),(37006,.tok 5 104 r.2.2.2.2.length)]:=by
 refine Af mix Tryz.func32 (fun Γ hq=>?_);unfold D8 at h;refine Aj hq [0] [30000,37006] ?_;obtain⟨x1,hx1,h⟩:=bind_some h;obtain⟨x2,hx2,h⟩:=bind_some h;obtain⟨x3,hx3,h⟩:=bind_some h;refine gR hq [3] [30000,37006] [] [(Z6 x1),(Z6 x2),(Z40 x3.1 x3.2.1.Params x3.2.1.Ret x3.2.1.Blocks x3.2.2.1 x3.2.2.2.1 x3.2.2.2.2 x3.2.2.2.2.length)] (ci (Sg a1.Params x1 hx1) (ci (gI (x1==true)) (ci (gI (x1==true)) (ci (gI (x1==true)) (ci (gI (x1==true)) (ci (gI (x1==true)) (ci (fun(hg:(x1==true)=true)=>(Ha a1.Ret x2 (Dd hg hx2))) (ci (Kx x1) (ci (gI (Yx x1 x2)) (ci (gI (Yx x1 x2)) (ci (gI (Yx x1 x2)) (ci (gI (Yx x1 x2)) (ci (gI (Yx x1 x2)) (ci (gI (Yx x1 x2)) (ci (gI (Yx x1 x2)) (ci (fun(hg:(Yx x1 x2)=true)=>(Ms a1.Blocks a1 a7 a8 a4 x3 (Dd hg hx3))) (c1 (Kx (bif x1 then x2 else false))))))))))))))))))) ?_;refine Jy (Le.trans (leB (fun g_ u=>(Et u [] [(30000,.row 59 [(Q70 x1 x2 x3 a1),(Z36 (Yx x1 x2) x3.2.1.Ret a1.Ret),(Q69 x1 x2 x3 a1),(Z36 (Yx x1 x2) x3.2.2.1 a7),(Q71 x1 x2 x3 a8),.nilm,(Z16 g_ x3.2.2.2.2 a4)]),(37006,.tok 5 104 (bif g_ then x3.2.2.2.2.length else a4.length))])) (fun g_ u=>(Et u [] [(30000,.row 59 [(Q70 x1 x2 x3 a1),(Z36 (Yx x1 x2) x3.2.1.Ret a1.Ret),(Q69 x1 x2 x3 a1),(Z36 (Yx x1 x2) x3.2.2.1 a7),(Q71 x1 x2 x3 a8),.nilm,(AV.list 5 Bz default (bif g_ then x3.2.2.2.2 else a4) (.own 37006))]),(37006,.tok 5 104 ((bif g_ then x3.2.2.2.2 else a4).length))])) (Yx x1 x2)) (Le.trans (leC 30000 0 (show AVle (Q70 x1 x2 x3 a1) (AV.list 1 Ag 0 (bif (Yx x1 x2) then x3.2.1.Params else a1.Params) .none) from Fk)) (Le.trans (leC 30000 2 (show AVle (Q69 x1 x2 x3 a1) (AV.list 5 Au default (bif (Yx x1 x2) then x3.2.1.Blocks else a1.Blocks) .none) from Fk)) (leC 30000 4 (show AVle (Q71 x1 x2 x3 a8) (AV.list 1 Ag 0 (bif (Yx x1 x2) then x3.2.2.2.1 else a8) .none) from Fk))))) ?_;obtain⟨x4,hx4,h⟩:=bind_some h;refine gR hq [2] [30000,37006] [] [(Z45 x4)] (c1 (Na (bif (bif x1 then x2 else false) then x3.1 else false) (6:Int) x4 hx4)) ?_;cases h;exact Du [(30000,30000),(37006,37006)]
def Cm(aJ:Int):Option (Int×Int):=
 (some (aJ,(1:Int)))
theorem Gs(aJ:Int)(r:(Int×Int))(h:Cm aJ=some r):Spec Tryz.prog 58 [(.int .i64 aJ)] [] (.agg (A4 r)) []:=by
 refine Af mix Tryz.func58 (fun Γ hq=>?_);unfold Cm at h;refine Aj hq [0,2] [2] ?_;refine Aj hq [2] [2] ?_;cases h;exact Du []
def Q72:=(fun(v_:Ac)=>((Wo v_):AV))
def C4(aE:Int)(aW:(Int×Int))(aH:Ez)(a1:TFunc)(a7:Int)(a8:List Int)(a6:List (Int×Ac))(a4:List Ah):Option (Bool×TFunc×Int×List Int×List Ah×List (Int×Ac)):=
 (bif (bif (bif (D6 a6 aE) then true else(decide (aE<1))) then true else(decide (((1023:Int):Int)<aE))) then(some (false,a1,a7,a8,a4,a6)) else(some (true,a1,a7,a8,a4,(Gw a6 aE (⟨aW,aH⟩:Ac)))))
theorem Ia(aE:Int)(aW:(Int×Int))(aH:Ez)(a1:TFunc)(a7:Int)(a8:List Int)(a6:List (Int×Ac))(a4:List Ah)(r:(Bool×TFunc×Int×List Int×List Ah×List (Int×Ac)))(h:C4 aE aW aH a1 a7 a8 a6 a4=some r):Spec Tryz.prog 86 [(.ptr 30000 0),(.int .i64 aE),(.agg (A4 aW)),(.agg (T8 aH))] [(30000,.row 59 [(AV.list 1 Ag 0 a1.Params .none),(.int .i64 a1.Ret),(AV.list 5 Au default a1.Blocks .none),(.int .i64 a7),(AV.list 1 Ag 0 a8 .none),(.omap 9100005),(AV.list 5 Bz default a4 (.own 37006))]),(37006,.tok 5 104 a4.length),(9100005,.obj (.map true .i64 (mapE (fun(v_:Ac)=>((.agg (C3 v_)):AV)) a6)))] (.bool r.1) [(30000,.row 59 [(AV.list 1 Ag 0 r.2.1.Params .none),(.int .i64 r.2.1.Ret),(AV.list 5 Au default r.2.1.Blocks .none),(.int .i64 r.2.2.1),(AV.list 1 Ag 0 r.2.2.2.1 .none),(.omap 9100005),(AV.list 5 Bz default r.2.2.2.2.1 (.own 37006))]),(37006,.tok 5 104 r.2.2.2.2.1.length),(9100005,.obj (.map true .i64 (mapE (fun(v_:Ac)=>((.agg (C3 v_)):AV)) r.2.2.2.2.2)))]:=by
 refine Af mix Tryz.func86 (fun Γ hq=>?_);unfold C4 at h;refine Aj hq [0,1,6,7] [6,7,30000,37006,9100005] ?_;refine gR hq [0,1,6,7,10] [6,7,30000,37006,9100005] [(17,(.tuple [(Z17 a6 aE),(.bool (D6 a6 aE))]))] [] (c1 (show(AVle (.tuple [Dh Z13 (mapE Q72 a6) aE,.bool (D6 (mapE Q72 a6) aE)]) (.tuple [(Z17 a6 aE),(.bool (D6 a6 aE))])) from(mlook_le (f:=Q72) (l:=a6) (AVle.refl _) rfl))) ?_;refine gR hq [0,1,6,7,28] [6,7,30000,37006,9100005] [] [] (ci (gI ((D6 a6 aE)==false)) (ci (Wu (D6 a6 aE)) (ci (gI ((bif (D6 a6 aE) then true else(decide (aE<1)))==false)) (c1 (Wu (bif (D6 a6 aE) then true else(decide (aE<1)))))))) ?_;refine gC h (fun h=>?_) (fun h=>?_)
 ·refine Aj hq [8] [30000,37006,9100005] ?_;cases h;exact Du [(30000,30000),(37006,37006),(9100005,9100005)]
 ·refine Aj hq [] [30000,37006,9100005] ?_;refine Jy (M8 (fun(k_:List (Int×AV)) u=>Et u [] [(9100005,.obj (.map true .i64 k_))]) (show(Gw (mapE Q72 a6) aE (.agg [(Br aW.1),(Br aW.2),(Br aH.block),(Br aH.at_)]))=(mapE Q72 (Gw a6 aE (⟨aW,aH⟩:Ac))) from(Zh (f:=Q72) (l:=a6) (v:=(⟨aW,aH⟩:Ac)) rfl rfl))) ?_;refine Aj hq [8] [30000,37006,9100005] ?_;cases h;exact Du [(30000,30000),(37006,37006),(9100005,9100005)]
def Hh(a0:D4):Option (Int×Int):=
 ((H5 a0).bind fun x1=>(bif (!x1) then(some ((0:Int),(0:Int))) else((Hj a0).bind fun x2=>(some (x2.1,x2.2)))))
theorem W8(a0:D4)(r:(Int×Int))(h:Hh a0=some r):Spec Tryz.prog 87 [(.agg (Ky a0))] [] (.tuple [(.int .i64 r.1),(.int .i64 r.2)]) []:=by
 refine Af mix Tryz.func87 (fun Γ hq=>?_);unfold Hh at h;refine Aj hq [1] [1] ?_;obtain⟨x1,hx1,h⟩:=bind_some h;refine gR hq [1,6] [1] [] [(Z6 x1)] (c1 (Oe a0 x1 hx1)) ?_;refine gC h (fun h=>?_) (fun h=>?_)
 ·refine Aj hq [2,3] [] ?_;cases h;exact Du []
 ·obtain⟨x2,hx2,h⟩:=bind_some h;refine gR hq [2,3] [] [] [⟨[],[],(.tuple [(Br x2.1),(Br x2.2)]),[],[]⟩] (c1 (Pt a0 x2 hx2)) ?_;cases h;exact Du []
end
end Go.Proofs.YtggpeloimmlkgaaGreat
