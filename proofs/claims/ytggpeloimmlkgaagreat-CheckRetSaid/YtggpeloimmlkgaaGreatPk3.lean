/-
  The machine, the program's functions and the laws' arithmetic: part 3 of 7.
-/
import Derived.Test.YtggpeloimmlkgaaGreatPk2
import Derived.BigCall
import Derived.Lib.RowBridge
import Derived.Shelf.Slices.Clone
import Derived.Shelf.Slices.CompactI
import Derived.Shelf.Slices.In.SortNone
import Derived.Shelf.Sort.Plain
import Derived.Sort.OwnSortedInts
import Derived.Test.YtggpeloimmlkgaaGreatProg
set_option linter.unusedVariables false
set_option linter.unusedSimpArgs false
namespace Go.Proofs.YtggpeloimmlkgaaGreat
noncomputable section
open Go Go.RowKit
def Kr{α:Type}(sz:Nat)(e:α→List AV)(d:α)(L:List (List α))(t:Nat→Tag):Nat→List AV:=fun j=>[AV.list sz e d (L.getD j []) (t j)]
def Gx(b i k j:Nat):Tag:=bif Nat.beq j i then .own k else .fam b j
def Ka{α:Type}(L:List (List α)):Nat→Option Nat:=fun j=>if j<L.length then some (L.getD j []).length else none
def S8{α:Type}(L:List (List α))(i:Nat):Nat→Option Nat:=fun j=>if j=i then none else Ka L j
mutual
def AV.free(p:Tag→Bool):AV→Bool
 | .slice _ _ _ t=>p t
 | .clo _ xs ys=>AV.freeAll p xs&&AV.freeAll p ys
 | .agg cs=>AV.freeAll p cs
 | .tuple cs=>AV.freeAll p cs
 | .cond _ x=>x.free p
 | _=>true
def AV.freeAll(p:Tag→Bool):List AV→Bool
 | []=>true
 | x::l=>x.free p&&AV.freeAll p l
end
theorem Kv{p:Tag→Bool}{l:List AV}(h:AV.freeAll p l=true)(j:Nat):(l.getD j .any).free p=true:=by
 induction l generalizing j with
 | nil=>simp[AV.free]
 | cons x l ih=>
  simp only[AV.freeAll,Bool.and_eq_true]at h
  cases j with
  | zero=>simpa using h.1
  | succ j=>simpa using ih h.2 j
def AObj.Al(P:AV→Prop):AObj→Prop
 | .iter _ _=>True
 | .map _ _ _=>True
 | .pmap _ _ _=>True
 | .miter m _ _=>P m
theorem AObj.Al.imp{P Q:AV→Prop}{x:AObj}(h:x.Al P)(k:∀ y,P y→Q y):x.Al Q:=by
 cases x with
 | iter=>trivial
 | map=>trivial
 | pmap=>trivial
 | miter=>exact k _ h
theorem ObjR.al{P:AV→Prop}{I I':Nat→Nat→Prop}{own own':Nat→Option Own}{θ θ':Nat→Option (Nat×Nat)}{w w':World}{o:Obj}{x:AObj}(h:ObjR I own θ w o x)(hx:x.Al P)(hI:∀ b o,I b o→I' b o)(hw:∀ b o,I b o→w'.cell? ⟨b,o,none⟩=w.cell? ⟨b,o,none⟩)(hf:∀ v y,P y→Rep I own θ w v y→Rep I' own' θ' w' v y):ObjR I' own' θ' w' o x:=by
 cases h with
 | iter s p=>exact .iter s p
 | map es nn k l hs hr=>
  refine .map es nn k l hs fun i hi=>?_;obtain⟨v,h1,h2,h3⟩:=hr i hi;exact⟨v,h1,h2.mono hI hw,h3⟩
 | pmap es nn k l0 l hp hk hs hr=>
  refine .pmap es nn k l0 l hp hk hs fun i hi=>?_;obtain⟨v,h1,h2,h3⟩:=hr i hi;exact⟨v,h1,h2.mono hI hw,h3⟩
 | miter r m n c seen hc hr=>exact .miter r m n c seen hc (hf _ _ hx hr)
def noFam(b:Nat):Tag→Bool
 | .fam b' _=>!Nat.beq b' b
 | .own nm=>Nat.blt nm Bc
 | _=>true
def noOwn(k:Nat):Tag→Bool
 | .own k'=>!Nat.beq k' k
 | _=>true
def Fr(q:Nat)(x:AV):Prop:=∀(I:Nat→Nat→Prop) (own own':Nat→Option Own) (θ θ':Nat→Option (Nat×Nat)) (w:World) (v:Value),(∃ sz e m,own q=some (.tok sz e m))→
 (∀ nm o,nm≠q→own nm=some o→∃ o',own' nm=some o'∧OwnLe o (θ nm) o' (θ' nm))→Rep I own θ w v x→Rep I own' θ' w v x
theorem fr_of{q:Nat}{p:Tag→Bool}(hp:∀ nm,p (.own nm)=true→nm≠q)(hf:∀ b i,i<Bc→p (.fam b i)=true→M5 b i≠q){x:AV}(hx:x.free p=true):Fr q x:=by
 intro I own own' θ θ' w v hq ho h;obtain⟨s0,e0,m0,hq⟩:=hq;have hall:∀ nm o,nm≠q→own nm=some o→∃ o',own' nm=some o'∧OwnLe o (θ nm) o' (θ' nm):=ho
 have hne:∀{nm o},own nm=some o→(∀ sz e m,o≠.tok sz e m)→nm≠q:=fun hn hh=>by
  rintro rfl;rw[hq]at hn;exact hh _ _ _ (OI hn).symm
 induction h with
 | val v x h=>exact .val v x h
 | exact a n sz f h=>exact .exact a n sz f h
 | own nm sz e m a n cap f hn hm hv h=>
  obtain⟨o',ho',hle⟩:=ho nm _ (hp nm hx) hn
  cases o' with
  | tok sz' e' m'=>
   obtain⟨rfl,rfl,hmm,hθ⟩:=hle;refine .own nm _ _ m' a n cap f ho' (Nat.le_trans hm hmm) (fun he=>?_) h;rw[hθ (by omega)];exact hv (by omega)
  | _=>exact hle.elim
 | fam b i sz e m a n cap f hi hn hm hv h=>
  obtain⟨o',ho',hle⟩:=ho (M5 b i) _ (hf b i hi hx) hn
  cases o' with
  | tok sz' e' m'=>
   obtain⟨rfl,rfl,hmm,hθ⟩:=hle;refine .fam b i _ _ m' a n cap f hi ho' (Nat.le_trans hm hmm) (fun he=>?_) h;rw[hθ (by omega)];exact hv (by omega)
  | _=>exact hle.elim
 | ptr nm off e cells g c hn hg=>
  obtain⟨o',ho',hle⟩:=ho nm _ (hne hn (fun _ _ _ h=>by cases h)) hn
  cases o' with
  | row e' cells'=>
   have e:θ' nm=θ nm:=hle.2;exact .ptr nm off e' cells' g c ho' (e.trans hg)
  | _=>exact hle.elim
 | vsl nm sz e m f a n cap hn hm hcap hmax hnn hv=>
  obtain⟨o',ho',hle⟩:=ho nm _ (hne hn (fun _ _ _ h=>by cases h)) hn
  cases o' with
  | arr sz' e' m' f'=>
   obtain⟨rfl,rfl,hmm,hθ⟩:=hle;refine .vsl nm _ _ m' f' a n cap ho' (Nat.le_trans hm hmm) hcap hmax hnn (fun he=>?_);rw[hθ (by omega)];exact hv (by omega)
  | _=>exact hle.elim
 | vpt nm sz e m f n i j ad hn hm hi hv=>
  obtain⟨o',ho',hle⟩:=ho nm _ (hne hn (fun _ _ _ h=>by cases h)) hn
  cases o' with
  | arr sz' e' m' f'=>
   obtain⟨rfl,rfl,hmm,hθ⟩:=hle;refine .vpt nm _ _ m' f' n i j ad ho' (Nat.le_trans hm hmm) hi (fun he=>?_);rw[hθ (by omega)];exact hv (by omega)
  | _=>exact hle.elim
 | clo f fs cs xs ys hl hl' _ _ ih ih'=>
  simp only[AV.free,Bool.and_eq_true]at hx;exact .clo f fs cs xs ys hl hl' (fun j hj=>ih j hj (Kv hx.1 j)) (fun j hj=>ih' j hj (Kv hx.2 j))
 | optr nm mm x g c hn hg=>
  obtain⟨o',ho',hle⟩:=ho nm _ (hne hn (fun _ _ _ h=>by cases h)) hn
  cases o' with
  | obj x'=>exact .optr nm mm x' g c ho' (by rw[hle,hg])
  | _=>exact hle.elim
 | omap nm x hn=>
  obtain⟨o',ho',hle⟩:=ho nm _ (hne hn (fun _ _ _ h=>by cases h)) hn
  cases o' with
  | obj x'=>
   have hle:θ' nm=θ nm:=hle;rw[← hle];exact .omap nm x' ho'
  | _=>exact hle.elim
 | vsub nm sz e m f n lo hi a cap hn hm hlo hhi hcap hmax hnn hv=>
  obtain⟨o',ho',hle⟩:=ho nm _ (hne hn (fun _ _ _ h=>by cases h)) hn
  cases o' with
  | arr sz' e' m' f'=>
   obtain⟨rfl,rfl,hmm,hθ⟩:=hle;refine .vsub nm _ _ m' f' n lo hi a cap ho' (Nat.le_trans hm hmm) hlo hhi hcap hmax hnn (fun he=>?_);rw[hθ (by omega)];exact hv (by omega)
  | _=>exact hle.elim
 | cond v c x _ h' ih=>exact .cond v c x (fun hc=>ih hc hx) h'
 | agg vs cs hl h1 _ ih=>exact .agg vs cs hl h1 (fun j hj=>ih j hj (Kv hx j))
 | tuple vs cs hl _ ih=>exact .tuple vs cs hl (fun j hj=>ih j hj (Kv hx j))
theorem fr_fam{b i:Nat}(hi:i<Bc){x:AV}(hx:x.free (noFam b)=true):Fr (M5 b i) x:=
 fr_of (p:=noFam b) (fun nm hp he=>by
  have hlt:nm<Bc:=by simpa [noFam,Nat.blt_eq] using hp
  rw[he]at hlt
  exact Lb b i hlt) (fun b' i' hi' hp he=>by
  have h1:=Qb (b:=b') hi';rw[he,Qb hi]at h1;subst h1
  simp[noFam]at hp) hx
theorem fr_own{k:Nat}(hk:k<Bc){x:AV}(hx:x.free (noOwn k)=true):Fr k x:=
 fr_of (p:=noOwn k) (fun nm hp he=>by subst he;simp[noOwn]at hp) (fun b i _ _ he=>by rw[← he]at hk;exact Lb b i hk) hx
def OwnFr(q:Nat):Own→Prop
 | .row _ cells=>∀ j,j<cells.length→Fr q (cells.getD j .any)
 | .arr sz _ m f=>∀ i j,i<m→j<sz→Fr q ((f i).getD j .any)
 | .obj x=>x.Al (Fr q)
 | .tok ..=>True
theorem Sw{I:Nat→Nat→Prop}{own own':Nat→Option Own}{θ θ':Nat→Option (Nat×Nat)}{w:World}{nm sz m:Nat}{e:TypeId}{f f':Nat→List AV}
  (h:(θ nm=none→m=0)∧∀ g c,θ nm=some (g,c)→∃ cur,w.heap[g]?=some (.cells cur e (0,0))∧m≤c∧c≤maxLen∧cur.size=c*sz ∧
   (∀ i,i<m→(f i).length=sz)∧(∀ i j,i<m→j<sz→(cur.getD (i*sz+j) undef).oneCell'=true∧Rep I own θ w (cur.getD (i*sz+j) undef) ((f i).getD j .any))∧∀ j,¬ I g j)
  (hθ:θ' nm=θ nm) (hf:∀ i,i<m→(f' i).length=(f i).length) (hr:∀ i j v,i<m→j<sz→Rep I own θ w v ((f i).getD j .any)→Rep I own' θ' w v ((f' i).getD j .any)) :
  (θ' nm=none→m=0)∧∀ g c,θ' nm=some (g,c)→∃ cur,w.heap[g]?=some (.cells cur e (0,0))∧m≤c∧c≤maxLen∧cur.size=c*sz ∧
   (∀ i,i<m→(f' i).length=sz)∧(∀ i j,i<m→j<sz→(cur.getD (i*sz+j) undef).oneCell'=true∧Rep I own' θ' w (cur.getD (i*sz+j) undef) ((f' i).getD j .any))∧∀ j,¬ I g j:=by
 rw[hθ];refine⟨h.1,fun g c hg=>?_⟩;obtain⟨cur,q1,q2,q3,q4,q5,q6,q7⟩:=h.2 g c hg;exact⟨cur,q1,q2,q3,q4,fun i hi=>(hf i hi).trans (q5 i hi),fun i j hi hj=>⟨(q6 i j hi hj).1,hr i j _ hi hj (q6 i j hi hj).2⟩,q7⟩
section
variable {Γ:H0} {σ:Sto} {I:Nat→Nat→Prop} {θ:Nat→Option (Nat×Nat)} {a:Act} {w:World}
theorem rel_rename(h:Rel Γ σ I θ a w){p q r sz m s1 n:Nat}{e e1:TypeId}{F F':Nat→List AV}(hp:σ.own p=some (.tok sz e m))(hq:σ.own q=none)(hr:σ.own r=some (.arr s1 e1 n F))(hp0:Γ.own0 p=none)
  (hfree:∀ t,Fr p (σ.tmp t)) (hrows:∀ nm o,nm≠r→σ.own nm=some o→OwnFr p o) {own':Nat→Option Own} {θ':Nat→Option (Nat×Nat)}
  (hown:own'=fun x=>if x=q then some (.tok sz e m) else if x=p then none else if x=r then some (.arr s1 e1 n F') else σ.own x)
  (hθ:θ'=fun x=>if x=q then θ p else if x=p then none else θ x)
  (hlen:∀ j,j<n→(F' j).length=(F j).length)
  (hF:∀ j c v,j<n→c<s1→Rep I σ.own θ w v ((F j).getD c .any)→Rep I own' θ' w v ((F' j).getD c .any)) :
  Rel Γ ⟨σ.tmp,own'⟩ I θ' a w:=by
 have hpq:p≠q:=by rintro rfl;rw[hp]at hq;cases hq
 have hpr:p≠r:=by rintro rfl;rw[hp]at hr;cases hr
 have hqr:q≠r:=by rintro rfl;rw[hq]at hr;cases hr
 have hkeep:∀ nm o,nm≠p→σ.own nm=some o→∃ o',own' nm=some o'∧OwnLe o (θ nm) o' (θ' nm):=fun nm o hnp ho=>by
  have hnq:nm≠q:=by rintro rfl;rw[hq]at ho;cases ho
  by_cases hnr:nm=r
  ·subst hnr;rw[hr]at ho;obtain rfl:=OI ho;exact⟨.arr s1 e1 n F',by simp[hown,hnq,hnp],by simp[hθ,hnq,hnp,OwnLe]⟩
  ·exact⟨o,by simp[hown,hnq,hnp,hnr,ho],by simp[hθ,hnq,hnp,OwnLe.refl]⟩
 have hT:∀ v x,Fr p x→Rep I σ.own θ w v x→Rep I own' θ' w v x:=fun v x hx hv=>hx I _ _ _ _ w v ⟨_,_,_,hp⟩ hkeep hv
 have hinv:∀ nm o,nm≠q→nm≠r→own' nm=some o→nm≠p∧σ.own nm=some o∧θ' nm=θ nm:=fun nm o h1 h2 ho=>by
  by_cases h3:nm=p
  ·simp[hown,h3,hpq]at ho
  ·simp[hown,h1,h2,h3]at ho;exact⟨h3,ho,by simp[hθ,h1,h3]⟩
 have hnone:∀ nm,own' nm≠none→∃ nm',σ.own nm'≠none∧θ' nm=θ nm'∧(nm=q→nm'=p)∧(nm≠q→nm'=nm∧nm≠p):=fun nm hn=>by
  by_cases h1:nm=q
  ·exact⟨p,by simp[hp],by simp[hθ,h1],fun _=>rfl,fun h=>(h h1).elim⟩
  ·by_cases h2:nm=r
   ·subst h2;exact⟨nm,by simp[hr],by simp[hθ,h1,Ne.symm hpr],fun h=>(h1 h).elim,fun _=>⟨rfl,Ne.symm hpr⟩⟩
   ·cases hx:own' nm with
    | none=>exact(hn hx).elim
    | some o=>
     obtain⟨h3,h4,h5⟩:=hinv nm o h1 h2 hx;exact⟨nm,by simp[h4],h5,fun h=>(h1 h).elim,fun _=>⟨rfl,h3⟩⟩
 have hq':own' q=some (.tok sz e m):=by simp[hown]
 have hr':own' r=some (.arr s1 e1 n F'):=by simp[hown,Ne.symm hqr,Ne.symm hpr]
 have hrel:=h.chg.rel
 have hθr:θ' r=θ r:=by simp[hθ,Ne.symm hqr,Ne.symm hpr]
 have hθq:θ' q=θ p:=by simp[hθ]
 refine⟨h.size,h.defers,fun t=>hT _ _ (hfree t) (h.slots t),{ h.chg with le:=fun nm o ho=>?_,rel:=⟨fun nm e0 cells ho=>?_,fun nm s' e' m' ho g c hg=>?_,fun nm nm' g c c' ho ho' hg hg'=>?_,fun nm s' e' m' f' ho=>?_,fun nm x ho=>?_,fun nm s' m' ho hnn=>?_⟩,new:=fun nm g c ho hg=>?_ }⟩
 ·obtain⟨o',ho',hl⟩:=h.chg.le nm o ho
  have hnp:nm≠p:=by rintro rfl;rw[hp0]at ho;cases ho
  obtain⟨o'',h1,h2⟩:=hkeep nm o' hnp ho';exact⟨o'',h1,hl.trans h2⟩
 ·replace ho:own' nm=some _:=ho
  have h1:nm≠q:=by rintro rfl;rw[hq']at ho;cases ho
  have h2:nm≠r:=by rintro rfl;rw[hr']at ho;cases ho
  obtain⟨h3,h4,h5⟩:=hinv nm _ h1 h2 ho;obtain⟨g,c,vs,r1,r2,r3,r4,r5,r6⟩:=hrel.row nm e0 cells h4;exact⟨g,c,vs,h5.trans r1,r2,r3,r4,fun j hj=>hT _ _ (hrows nm _ h2 h4 j hj) (r5 j hj),r6⟩
 ·replace ho:own' nm=some _:=ho
  by_cases h1:nm=q
  ·subst h1;rw[hq']at ho;simp only[Option.some.injEq,Own.tok.injEq]at ho;obtain⟨rfl,rfl,rfl⟩:=ho;exact hrel.tok p _ _ _ hp g c (hθq.symm.trans hg)
  ·have h2:nm≠r:=by rintro rfl;rw[hr']at ho;cases ho
   obtain⟨h3,h4,h5⟩:=hinv nm _ h1 h2 ho;exact hrel.tok nm _ _ _ h4 g c (h5.symm.trans hg)
 ·obtain⟨n1,a1,a2,a3,a4⟩:=hnone nm ho;obtain⟨n2,b1,b2,b3,b4⟩:=hnone nm' ho';have:=hrel.inj n1 n2 g c c' a1 b1 (a2.symm.trans hg) (b2.symm.trans hg')
  by_cases h1:nm=q
  ·by_cases h2:nm'=q
   ·rw[h1,h2]
   ·have:=a3 h1;have:=b4 h2;omega
  ·by_cases h2:nm'=q
   ·have:=a4 h1;have:=b3 h2;omega
   ·have:=a4 h1;have:=b4 h2;omega
 ·replace ho:own' nm=some _:=ho
  have h1:nm≠q:=by rintro rfl;rw[hq']at ho;cases ho
  by_cases h2:nm=r
  ·subst h2;rw[hr']at ho;simp only[Option.some.injEq,Own.arr.injEq]at ho;obtain⟨rfl,rfl,rfl,rfl⟩:=ho;exact Sw (hrel.arr nm _ _ _ _ hr) hθr hlen hF
  ·obtain⟨h3,h4,h5⟩:=hinv nm _ h1 h2 ho;exact Sw (hrel.arr nm _ _ _ _ h4) h5 (fun _ _=>rfl) (fun i j v hi hj hv=>hT _ _ (hrows nm _ h2 h4 i j hi hj) hv)
 ·replace ho:own' nm=some _:=ho
  have h1:nm≠q:=by rintro rfl;rw[hq']at ho;cases ho
  have h2:nm≠r:=by rintro rfl;rw[hr']at ho;cases ho
  obtain⟨h3,h4,h5⟩:=hinv nm _ h1 h2 ho;exact Jl (hrel.obj nm _ h4) h5 (fun _ _ _=>rfl) (fun _ _ _ _ h=>h) (fun _ hh=>hh.al (hrows nm _ h2 h4) (fun _ _ h=>h) (fun _ _ _=>rfl) fun v y hy hv=>hT v y hy hv) Pe
 ·replace ho:own' nm=some _:=ho
  by_cases h1:nm=q
  ·subst h1;rw[hq']at ho;simp only[Option.some.injEq,Own.tok.injEq]at ho;obtain⟨rfl,he,rfl⟩:=ho;exact hrel.tok8 p _ _ (by rw[hp,he]) (hθq.symm.trans hnn)
  ·have h2:nm≠r:=by rintro rfl;rw[hr']at ho;cases ho
   obtain⟨h3,h4,h5⟩:=hinv nm _ h1 h2 ho;exact hrel.tok8 nm _ _ h4 (h5.symm.trans hnn)
 ·obtain⟨n1,a1,a2,_,_⟩:=hnone nm ho;exact h.chg.new n1 g c a1 (a2.symm.trans hg)
theorem rel_births(h:Rel Γ σ I θ a w){r s1 n:Nat}{e1:TypeId}{F F':Nat→List AV}(hr:σ.own r=some (.arr s1 e1 n F)){S:Nat→Option (Nat×TypeId×Nat)}(hS:∀ x y,S x=some y→σ.own x=none)
  (h8:∀ x sz m,S x=some (sz,Va,m)→m=0) {own':Nat→Option Own} {θ':Nat→Option (Nat×Nat)}
  (hown:own'=fun x=>match S x with|some y=>some (.tok y.1 y.2.1 y.2.2)|none=>if x=r then some (.arr s1 e1 n F') else σ.own x)
  (hθ:θ'=fun x=>match S x with|some _=>none|none=>θ x) (hlen:∀ j,j<n→(F' j).length=(F j).length)
  (hF:∀ j c v,j<n→c<s1→Rep I σ.own θ w v ((F j).getD c .any)→Rep I own' θ' w v ((F' j).getD c .any)) :
  Rel Γ ⟨σ.tmp,own'⟩ I θ' a w:=by
 have hSn:∀ nm o,σ.own nm=some o→S nm=none:=fun nm o ho=>by
  cases hx:S nm with
  | none=>rfl
  | some y=>rw[hS nm y hx]at ho;cases ho
 have hkeep:∀ nm o,σ.own nm=some o→∃ o',own' nm=some o'∧OwnLe o (θ nm) o' (θ' nm):=fun nm o ho=>by
  have h1:=hSn nm o ho
  by_cases hnr:nm=r
  ·subst hnr;rw[hr]at ho;obtain rfl:=OI ho;exact⟨.arr s1 e1 n F',by simp[hown,h1],by simp[hθ,h1,OwnLe]⟩
  ·exact⟨o,by simp[hown,h1,hnr,ho],by simp[hθ,h1,OwnLe.refl]⟩
 have hT:∀ v x,Rep I σ.own θ w v x→Rep I own' θ' w v x:=fun v x hv=>hv.mono (fun _ _ h=>h) (fun _ _ _=>rfl) hkeep
 have hinv:∀ nm o,own' nm=some o→(∀ sz e m,o≠.tok sz e m)→nm≠r→σ.own nm=some o∧θ' nm=θ nm:=fun nm o ho hn h2=>by
  cases hx:S nm with
  | none=>simp[hown,hx,h2]at ho;exact⟨ho,by simp[hθ,hx]⟩
  | some y=>simp[hown,hx]at ho;exact(hn _ _ _ ho.symm).elim
 have hold:∀ nm g c,own' nm≠none→θ' nm=some (g,c)→σ.own nm≠none∧θ nm=some (g,c):=fun nm g c ho hg=>by
  cases hx:S nm with
  | some y=>simp[hθ,hx]at hg
  | none=>
   simp[hθ,hx]at hg;refine⟨?_,hg⟩
   by_cases h2:nm=r
   ·subst h2;simp[hr]
   ·simpa [hown,hx,h2] using ho
 have hSr:S r=none:=hSn r _ hr
 have hr':own' r=some (.arr s1 e1 n F'):=by simp[hown,hSr]
 have hθr:θ' r=θ r:=by simp[hθ,hSr]
 have hrel:=h.chg.rel;refine⟨h.size,h.defers,fun t=>hT _ _ (h.slots t),{ h.chg with le:=fun nm o ho=>?_,rel:=⟨fun nm e0 cells ho=>?_,fun nm s' e' m' ho g c hg=>?_,fun nm nm' g c c' ho ho' hg hg'=>?_,fun nm s' e' m' f' ho=>?_,fun nm x ho=>?_,fun nm s' m' ho hnn=>?_⟩,new:=fun nm g c ho hg=>?_ }⟩
 ·obtain⟨o',ho',hl⟩:=h.chg.le nm o ho;obtain⟨o'',h1,h2⟩:=hkeep nm o' ho';exact⟨o'',h1,hl.trans h2⟩
 ·replace ho:own' nm=some _:=ho
  have h2:nm≠r:=by rintro rfl;rw[hr']at ho;cases ho
  obtain⟨h4,h5⟩:=hinv nm _ ho (fun _ _ _ h=>by cases h) h2;obtain⟨g,c,vs,r1,r2,r3,r4,r5,r6⟩:=hrel.row nm e0 cells h4;exact⟨g,c,vs,h5.trans r1,r2,r3,r4,fun j hj=>hT _ _ (r5 j hj),r6⟩
 ·replace ho:own' nm=some _:=ho;obtain⟨h1,h2⟩:=hold nm g c (by rw[ho];simp) hg
  cases hx:S nm with
  | some y=>simp[hθ,hx]at hg
  | none=>
   have h3:nm≠r:=by rintro rfl;rw[hr']at ho;cases ho
   simp[hown,hx,h3]at ho;exact hrel.tok nm _ _ _ ho g c h2
 ·obtain⟨a1,a2⟩:=hold nm g c ho hg;obtain⟨b1,b2⟩:=hold nm' g c' ho' hg';exact hrel.inj nm nm' g c c' a1 b1 a2 b2
 ·replace ho:own' nm=some _:=ho
  by_cases h2:nm=r
  ·subst h2;rw[hr']at ho;simp only[Option.some.injEq,Own.arr.injEq]at ho;obtain⟨rfl,rfl,rfl,rfl⟩:=ho;exact Sw (hrel.arr nm _ _ _ _ hr) hθr hlen hF
  ·obtain⟨h4,h5⟩:=hinv nm _ ho (fun _ _ _ h=>by cases h) h2;exact Sw (hrel.arr nm _ _ _ _ h4) h5 (fun _ _=>rfl) (fun i j v _ _ hv=>hT _ _ hv)
 ·replace ho:own' nm=some _:=ho
  have h2:nm≠r:=by rintro rfl;rw[hr']at ho;cases ho
  obtain⟨h4,h5⟩:=hinv nm _ ho (fun _ _ _ h=>by cases h) h2;exact Jl (hrel.obj nm _ h4) h5 (fun _ _ _=>rfl) (fun _ _ _ _ h=>h) (fun _ hh=>hh.mono hT) Pe
 ·replace ho:own' nm=some _:=ho
  cases hx:S nm with
  | some y=>
   simp only[hown,hx,Option.some.injEq,Own.tok.injEq]at ho;obtain⟨h1,h2,h3⟩:=ho;rw[← h3];exact h8 nm y.1 y.2.2 (by rw[hx,← h2])
  | none=>
   have h3:nm≠r:=by rintro rfl;rw[hr']at ho;cases ho
   simp[hown,hx,h3]at ho;simp[hθ,hx]at hnn;exact hrel.tok8 nm _ _ ho hnn
 ·obtain⟨a1,a2⟩:=hold nm g c ho hg;exact h.chg.new nm g c a1 a2
inductive OwnsFr (p:Tag→Bool) (r:Nat):List (Nat×Own)→Prop
 | nil:OwnsFr p r []
 | row {nm:Nat} {e:TypeId} {cells:List AV} {l:List (Nat×Own)} (h:AV.freeAll p cells=true) (t:OwnsFr p r l):OwnsFr p r ((nm,.row e cells)::l)
 | here {o:Own} {l:List (Nat×Own)} (t:OwnsFr p r l):OwnsFr p r ((r,o)::l)
 | arr {nm sz m:Nat} {e:TypeId} {f:Nat→List AV} {l:List (Nat×Own)} (h:∀ j,AV.freeAll p (f j)=true) (t:OwnsFr p r l):OwnsFr p r ((nm,.arr sz e m f)::l)
 | tok {nm sz m:Nat} {e:TypeId} {l:List (Nat×Own)} (t:OwnsFr p r l):OwnsFr p r ((nm,.tok sz e m)::l)
 | obj {nm:Nat} {x:AObj} {l:List (Nat×Own)} (t:OwnsFr p r l) (h:x.Al (fun y=>y.free p=true):=by first|trivial|rfl):OwnsFr p r ((nm,.obj x)::l)
theorem OwnsFr.get{p:Tag→Bool}{r q:Nat}(hp:∀ x:AV,x.free p=true→Fr q x){l:List (Nat×Own)}(h:OwnsFr p r l){nm:Nat}{o:Own}(hn:nm≠r)(ho:Am l nm=some o):OwnFr q o:=by
 induction h with
 | nil=>cases ho
 | @row k e cells l h _ ih=>
  simp only[Am]at ho
  cases hb:Nat.beq k nm with
  | true=>rw[hb]at ho;simp only[cond_true,Option.some.injEq]at ho;subst ho;exact fun j _=>hp _ (Kv h j)
  | false=>rw[hb]at ho;exact ih ho
 | @here o' l _ ih=>
  simp only[Am]at ho
  cases hb:Nat.beq r nm with
  | true=>exact(hn (Nat.eq_of_beq_eq_true hb).symm).elim
  | false=>rw[hb]at ho;exact ih ho
 | @arr k sz m e f l h _ ih=>
  simp only[Am]at ho
  cases hb:Nat.beq k nm with
  | true=>rw[hb]at ho;simp only[cond_true,Option.some.injEq]at ho;subst ho;exact fun i j _ _=>hp _ (Kv (h i) j)
  | false=>rw[hb]at ho;exact ih ho
 | @tok k sz m e l _ ih=>
  simp only[Am]at ho
  cases hb:Nat.beq k nm with
  | true=>rw[hb]at ho;simp only[cond_true,Option.some.injEq]at ho;subst ho;trivial
  | false=>rw[hb]at ho;exact ih ho
 | @obj k x l _ h ih=>
  simp only[Am]at ho
  cases hb:Nat.beq k nm with
  | true=>rw[hb]at ho;simp only[cond_true,Option.some.injEq]at ho;subst ho;exact h.imp fun y hy=>hp y hy
  | false=>rw[hb]at ho;exact ih ho
theorem OwnsFr.sto{p:Tag→Bool}{r q:Nat}(hp:∀ x:AV,x.free p=true→Fr q x){st:St}(h:OwnsFr p r st.own){nm:Nat}{o:Own}(hn:nm≠r)(ho:st.sto.own nm=some o):OwnFr q o:=by
 by_cases hlt:nm<Bc
 ·exact h.get hp hn ((A3 hlt).symm.trans ho)
 ·obtain⟨sz,e,m,rfl⟩:=Qf hlt ho
  trivial
theorem tmps_fr{p:Tag→Bool}{q:Nat}(hp:∀ x:AV,x.free p=true→Fr q x){st:St}(h:st.tmps.all (fun x=>x.2.free p)=true)(t:Nat):Fr q (st.sto.tmp t):=by
 show Fr q (match Am st.tmps t with|some x=>x|none=>.any)
 cases hx:Am st.tmps t with
 | none=>exact hp _ rfl
 | some x=>exact hp _ (List.all_eq_true.1 h _ (W7 hx))
def remA{α:Type}(l:List (Nat×α))(k:Nat):List (Nat×α):=l.filter fun p=>!Nat.beq p.1 k
theorem look_remA{α:Type}(l:List (Nat×α))(k n:Nat):Am (remA l k) n=if k=n then none else Am l n:=by
 induction l with
 | nil=>simp[remA,Am]
 | cons p l ih=>
  obtain⟨m,x⟩:=p
  have ih':Am (List.filter (fun p=>!Nat.beq p.1 k) l) n=if k=n then none else Am l n:=ih
  simp only[remA,List.filter_cons,Am]
  cases hb:Nat.beq m k with
  | true=>
   have:=Nat.eq_of_beq_eq_true hb;subst this;simp only[Bool.not_true,Bool.false_eq_true,if_false,ih']
   by_cases h:m=n
   ·simp[h]
   ·have:Nat.beq m n=false:=by cases hb:Nat.beq m n with|false=>rfl|true=>exact absurd (Nat.eq_of_beq_eq_true hb) h
    simp[h,this]
  | false=>
   simp only[Bool.not_false,if_true,Am,ih']
   cases hb':Nat.beq m n with
   | true=>
    have:=Nat.eq_of_beq_eq_true hb';subst this
    have:k≠m:=by rintro rfl;simp at hb
    simp[this]
   | false=>simp
theorem rep_out{I:Nat→Nat→Prop}{own own':Nat→Option Own}{θ θ':Nat→Option (Nat×Nat)}{w:World}{v:Value}{sz n b i p q m:Nat}{e:TypeId}{f:Nat→List AV}(hv:Rep I own θ w v (.slice sz n f (.fam b i)))(hb:M5 b i=p)(hp:own p=some (.tok sz e m))
  (hq:own' q=some (.tok sz e m)) (hθ:θ' q=θ p):Rep I own' θ' w v (.slice sz n f (.own q)):=by
 cases hv with
 | val v x h=>obtain⟨h,_⟩:=h.slice_inv;cases h
 | fam _ _ _ e' m a n' cap f hi' ho' hm hv' h'=>
  rw[hb]at ho' hv';rw[hp]at ho';simp only[Option.some.injEq,Own.tok.injEq]at ho';obtain⟨_,rfl,rfl⟩:=ho';exact .own q sz e _ _ _ _ _ hq hm (fun hh=>by rw[hθ];exact hv' hh) h'
theorem rep_stay{I:Nat→Nat→Prop}{own own':Nat→Option Own}{θ θ':Nat→Option (Nat×Nat)}{w:World}{v:Value}{sz n b i p:Nat}{f:Nat→List AV}(hv:Rep I own θ w v (.slice sz n f (.fam b i)))(hb:M5 b i=p)(ho:i<Bc→own' p=own p)(hθ:i<Bc→θ' p=θ p):Rep I own' θ' w v (.slice sz n f (.fam b i)):=by
 cases hv with
 | val v x h=>obtain⟨h,_⟩:=h.slice_inv;cases h
 | fam _ _ _ e' m a n' cap f hi' ho' hm hv' h'=>
  rw[hb]at ho' hv';exact .fam b i sz e' m _ _ _ _ hi' (by rw[hb,ho hi'];exact ho') hm (fun hh=>by rw[hb,hθ hi'];exact hv' hh) h'
theorem rep_back{I:Nat→Nat→Prop}{own own':Nat→Option Own}{θ θ':Nat→Option (Nat×Nat)}{w:World}{v:Value}{sz n b i p q m:Nat}{e:TypeId}{f:Nat→List AV}(hv:Rep I own θ w v (.slice sz n f (.own p)))(hb:M5 b i=q)(hi:i<Bc)(hp:own p=some (.tok sz e m))
  (hq:own' q=some (.tok sz e m)) (hθ:θ' q=θ p):Rep I own' θ' w v (.slice sz n f (.fam b i)):=by
 cases hv with
 | val v x h=>obtain⟨h,_⟩:=h.slice_inv;cases h
 | own _ _ e' m' a n' cap f ho' hm' hv' h'=>
  rw[hp]at ho';simp only[Option.some.injEq,Own.tok.injEq]at ho';obtain⟨_,rfl,rfl⟩:=ho';exact .fam b i sz e m _ _ _ _ hi (by rw[hb];exact hq) hm' (fun hh=>by rw[hb,hθ];exact hv' hh) h'
theorem rep_new{I:Nat→Nat→Prop}{own own':Nat→Option Own}{θ θ':Nat→Option (Nat×Nat)}{w:World}{v:Value}{sz n b i q:Nat}{e:TypeId}{f:Nat→List AV}(hv:Rep I own θ w v (.slice sz n f .exact))(hb:M5 b i=q)(hi:i<Bc)(hq:own' q=some (.tok sz e n))(hθ:θ' q=none) :
  Rep I own' θ' w v (.slice sz n f (.fam b i)):=by
 cases hv with
 | val v x h=>obtain⟨h,_⟩:=h.slice_inv;cases h
 | exact a n' s' f h'=>exact .fam b i sz e _ _ _ _ _ hi (by rw[hb];exact hq) (Nat.le_refl _) (fun _=>by rw[hb,hθ]) h'
section
variable {α:Type} {st:St} {r b k n sz:Nat} {e1:TypeId}
theorem row_lt{I:Nat→Nat→Prop}{own:Nat→Option Own}{θ:Nat→Option (Nat×Nat)}{w:World}(h:Iz I own θ w){s1:Nat}{F:Nat→List AV}(hr:own r=some (.arr s1 e1 n F)){i:Nat}(hi:i<n):i<Bc:=by
 have hm:maxLen<Bc:=by decide
 obtain⟨h1,h2⟩:=h.arr r _ _ _ _ hr
 cases hx:θ r with
 | none=>have:=h1 hx;omega
 | some y=>obtain⟨_,_,h3,h4,_⟩:=h2 y.1 y.2 hx;omega
theorem le_take(enc:α→List AV)(d:α)(L:List (List α))(i:Nat)(e:TypeId)(hr:Am st.own r=some (.arr 1 e1 n (Kr sz enc d L (Tag.fam b))))(hb:Am st.fam b=some ⟨sz,e,Ka L⟩)(hk:Am st.own k=none)(hn:n=L.length)(hi:i<L.length)
  (ht:st.tmps.all (fun x=>x.2.free (noFam b))=true) (ho:OwnsFr (noFam b) r st.own) (hlr:Nat.blt r Bc=true:=by rfl) (hlk:Nat.blt k Bc=true:=by rfl) :
  Le Γ st ⟨st.tmps,Dm (Dm st.own r (.arr 1 e1 n (Kr sz enc d L (Gx b i k)))) k (.tok sz e (L.getD i []).length),Dm st.fam b ⟨sz,e,S8 L i⟩⟩:=by
 intro I θ a w h
 have hlr:r<Bc:=by simpa [Nat.blt_eq] using hlr
 have hlk:k<Bc:=by simpa [Nat.blt_eq] using hlk
 have hr':st.sto.own r=some (.arr 1 e1 n (Kr sz enc d L (Tag.fam b))):=(A3 hlr).trans hr;have hk':st.sto.own k=none:=(A3 hlk).trans hk;have hib:i<Bc:=row_lt h.chg.rel hr' (by omega)
 have hp:st.sto.own (M5 b i)=some (.tok sz e (L.getD i []).length):=by
  show C8 _ _ _=_
  rw[Zv hib,hb];simp[Ka,hi]
 have hkb:k≠M5 b i:=fun he=>by rw[he]at hlk;exact Lb b i hlk
 have hrb:r≠M5 b i:=fun he=>by rw[he]at hlr;exact Lb b i hlr
 have hown:(⟨st.tmps,Dm (Dm st.own r (.arr 1 e1 n (Kr sz enc d L (Gx b i k)))) k (.tok sz e (L.getD i []).length),Dm st.fam b ⟨sz,e,S8 L i⟩⟩:St).sto.own =
   fun x=>if x=k then some (.tok sz e (L.getD i []).length) else if x=M5 b i then none else if x=r then some (.arr 1 e1 n (Kr sz enc d L (Gx b i k))) else st.sto.own x:=by
  funext x
  show C8 (Dm (Dm st.own r _) k _) (Dm st.fam b _) x=if x=k then _ else if x=M5 b i then none else if x=r then _ else C8 st.own st.fam x
  by_cases hx:x<Bc
  ·have h1:x≠M5 b i:=fun he=>by rw[he]at hx;exact Lb b i hx
   rw[A3 hx,A3 hx,Gd,Gd];simp only[eq_comm (a:=k),eq_comm (a:=r),h1,if_false]
  ·have h1:x≠k:=by rintro rfl;exact hx hlk
   have h2:x≠r:=by rintro rfl;exact hx hlr
   rw[Dr hx,Dr hx,Gd,if_neg h1,if_neg h2]
   by_cases hd:b=x / Bc-1
   ·have hxe:=big_of hx;rw[← hd]at hxe
    by_cases hm:x % Bc=i
    ·rw[hm]at hxe;rw[if_pos hd,if_pos hxe,hm];simp[S8]
    ·have h3:x≠M5 b i:=fun he=>hm (by rw[he,O2 hib]);rw[if_pos hd,if_neg h3,← hd,hb];simp[S8,hm]
   ·have h3:x≠M5 b i:=fun he=>hd (by rw[he,Qb hib]);rw[if_neg hd,if_neg h3]
 let θ':Nat→Option (Nat×Nat):=fun x=>if x=k then θ (M5 b i) else if x=M5 b i then none else θ x
 refine⟨I,θ',?_⟩;have hrr:=rel_rename (θ':=θ') h hp hk' hr' (by cases hx:Γ.own0 (M5 b i) with|none=>rfl|some o=>exact(Lb b i (Γ.lt0 _ (by rw[hx];simp))).elim)
  (fun t=>tmps_fr (fun x hx=>fr_fam hib hx) ht t) (fun nm o hne ho'=>ho.sto (fun x hx=>fr_fam hib hx) hne ho') hown rfl (fun j _=>rfl) (fun j c v hj hc hv=>?_)
 ·exact hrr
 ·obtain rfl:c=0:=by omega
  show Rep I _ θ' w v (.slice sz _ _ (Gx b i k j))
  replace hv:Rep I st.sto.own θ w v (.slice sz (L.getD j []).length (fun i_=>enc ((L.getD j []).getD i_ d)) (.fam b j)):=hv
  cases hji:Nat.beq j i with
  | true=>
   have:=Nat.eq_of_beq_eq_true hji;subst this;rw[show Gx b j k j = .own k by simp[Gx]];exact rep_out hv rfl hp ((congrFun hown k).trans (if_pos rfl)) (if_pos rfl)
  | false=>
   have hne:j≠i:=by rintro rfl;simp at hji
   rw[show Gx b i k j = .fam b j by simp[Gx,hji]];have h3:j<Bc→M5 b j≠M5 b i:=fun hi' he=>hne (by rw[← O2 (b:=b) hi',he,O2 hib])
   have h4:M5 b j≠k:=fun he=>by rw[← he]at hlk;exact Lb b j hlk
   have h5:M5 b j≠r:=fun he=>by rw[← he]at hlr;exact Lb b j hlr
   exact rep_stay hv rfl (fun hi'=>(congrFun hown _).trans ((if_neg h4).trans ((if_neg (h3 hi')).trans (if_neg h5)))) (fun hi'=>(if_neg h4).trans (if_neg (h3 hi')))
theorem le_put(enc:α→List AV)(d:α)(L:List (List α))(i:Nat)(x:List α)(e:TypeId){F:Nat→List AV}{m:Nat}(hr:Am st.own r=some (.arr 1 e1 n F))(hF:∀ j,j<n→F j=Kr sz enc d (L.set i x) (Gx b i k) j)(hb:Am st.fam b=some ⟨sz,e,S8 L i⟩)(hk:Am st.own k=some (.tok sz e m))(hm:m=x.length)(hn:n=L.length)(hi:i<L.length)
  (ht:st.tmps.all (fun x=>x.2.free (noOwn k))=true) (ho:OwnsFr (noOwn k) r st.own) (h0:Γ.own0 k=none) (hlr:Nat.blt r Bc=true:=by rfl) (hlk:Nat.blt k Bc=true:=by rfl) :
  Le Γ st ⟨st.tmps,remA (Dm st.own r (.arr 1 e1 n (Kr sz enc d (L.set i x) (Tag.fam b)))) k,Dm st.fam b ⟨sz,e,Ka (L.set i x)⟩⟩:=by
 intro I θ a w h
 have hlr:r<Bc:=by simpa [Nat.blt_eq] using hlr
 have hlk:k<Bc:=by simpa [Nat.blt_eq] using hlk
 have hr':st.sto.own r=some (.arr 1 e1 n F):=(A3 hlr).trans hr;have hk':st.sto.own k=some (.tok sz e m):=(A3 hlk).trans hk;have hib:i<Bc:=row_lt h.chg.rel hr' (by omega)
 have hp:st.sto.own (M5 b i)=none:=by
  show C8 _ _ _=_
  rw[Zv hib,hb];simp[S8]
 have hgi:(L.set i x).getD i []=x:=by simp[List.getD,hi]
 have hgj:∀ j,j≠i→(L.set i x).getD j []=L.getD j []:=fun j hj=>by simp[List.getD,Ne.symm hj]
 have hkr:k≠r:=by rintro rfl;rw[hk]at hr;cases hr
 have hkb:k≠M5 b i:=fun he=>by rw[he]at hlk;exact Lb b i hlk
 have hown:(⟨st.tmps,remA (Dm st.own r (.arr 1 e1 n (Kr sz enc d (L.set i x) (Tag.fam b)))) k,Dm st.fam b ⟨sz,e,Ka (L.set i x)⟩⟩:St).sto.own =
   fun y=>if y=M5 b i then some (.tok sz e m) else if y=k then none else if y=r then some (.arr 1 e1 n (Kr sz enc d (L.set i x) (Tag.fam b))) else st.sto.own y:=by
  funext y
  show C8 (remA (Dm st.own r _) k) (Dm st.fam b _) y=if y=M5 b i then _ else if y=k then none else if y=r then _ else C8 st.own st.fam y
  by_cases hx:y<Bc
  ·have h1:y≠M5 b i:=fun he=>by rw[he]at hx;exact Lb b i hx
   rw[A3 hx,A3 hx,look_remA,Gd];simp only[eq_comm (a:=k),eq_comm (a:=r),h1,if_false]
  ·have h1:y≠k:=by rintro rfl;exact hx hlk
   have h2:y≠r:=by rintro rfl;exact hx hlr
   rw[Dr hx,Dr hx,Gd,if_neg h1,if_neg h2]
   by_cases hd:b=y / Bc-1
   ·have hxe:=big_of hx;rw[← hd]at hxe
    by_cases hm':y % Bc=i
    ·rw[hm']at hxe;rw[if_pos hd,if_pos hxe,hm',Option.bind_some]
     show(Ka (L.set i x) i).map _=_
     simp only[Ka,List.length_set,hi,if_true,hgi,hm,Option.map_some]
    ·have h3:y≠M5 b i:=fun he=>hm' (by rw[he,O2 hib]);rw[if_pos hd,if_neg h3,← hd,hb];simp only[Option.bind_some,S8,hm',if_false,Ka,List.length_set,hgj _ hm']
   ·have h3:y≠M5 b i:=fun he=>hd (by rw[he,Qb hib]);rw[if_neg hd,if_neg h3]
 let θ':Nat→Option (Nat×Nat):=fun y=>if y=M5 b i then θ k else if y=k then none else θ y
 refine⟨I,θ',?_⟩;have hrr:=rel_rename (θ':=θ') h hk' hp hr' h0 (fun t=>tmps_fr (fun x hx=>fr_own hlk hx) ht t) (fun nm o hne ho'=>ho.sto (fun x hx=>fr_own hlk hx) hne ho') hown rfl
  (fun j hj=>by rw[hF j hj];rfl) (fun j c v hj hc hv=>?_)
 ·exact hrr
 ·obtain rfl:c=0:=by omega
  rw[hF j hj]at hv
  show Rep I _ θ' w v (.slice sz _ _ (.fam b j))
  replace hv:Rep I st.sto.own θ w v (.slice sz ((L.set i x).getD j []).length (fun i_=>enc (((L.set i x).getD j []).getD i_ d)) (Gx b i k j)):=hv
  cases hji:Nat.beq j i with
  | true=>
   have:=Nat.eq_of_beq_eq_true hji;subst this;rw[show Gx b j k j = .own k by simp[Gx]]at hv;exact rep_back hv rfl hib hk' ((congrFun hown _).trans (if_pos rfl)) (if_pos rfl)
  | false=>
   have hne:j≠i:=by rintro rfl;simp at hji
   rw[show Gx b i k j = .fam b j by simp[Gx,hji]]at hv;have h3:j<Bc→M5 b j≠M5 b i:=fun hi' he=>hne (by rw[← O2 (b:=b) hi',he,O2 hib])
   have h4:M5 b j≠k:=fun he=>by rw[← he]at hlk;exact Lb b j hlk
   have h5:M5 b j≠r:=fun he=>by rw[← he]at hlr;exact Lb b j hlr
   exact rep_stay hv rfl (fun hi'=>(congrFun hown _).trans ((if_neg (h3 hi')).trans ((if_neg h4).trans (if_neg h5)))) (fun hi'=>(if_neg (h3 hi')).trans (if_neg h4))
theorem le_birth(enc:α→List AV)(d:α)(L:List (List α))(e:TypeId)(hr:Am st.own r=some (.arr 1 e1 n (Kr sz enc d L (fun _=>.exact))))(hb:Am st.fam b=none)(hn:n=L.length)(h8:e=Va→∀ j,(L.getD j []).length=0)(hlr:Nat.blt r Bc=true:=by rfl) :
  Le Γ st ⟨st.tmps,Dm st.own r (.arr 1 e1 n (Kr sz enc d L (Tag.fam b))),Dm st.fam b ⟨sz,e,Ka L⟩⟩:=by
 intro I θ a w h
 have hlr:r<Bc:=by simpa [Nat.blt_eq] using hlr
 have hr':st.sto.own r=some (.arr 1 e1 n (Kr sz enc d L (fun _=>.exact))):=(A3 hlr).trans hr
 let S:Nat→Option (Nat×TypeId×Nat):=fun x=>if x<Bc then none else if b=x / Bc-1 then(Ka L (x % Bc)).map fun m=>(sz,e,m) else none
 have hown:(⟨st.tmps,Dm st.own r (.arr 1 e1 n (Kr sz enc d L (Tag.fam b))),Dm st.fam b ⟨sz,e,Ka L⟩⟩:St).sto.own =
   fun x=>match S x with|some y=>some (.tok y.1 y.2.1 y.2.2)|none=>if x=r then some (.arr 1 e1 n (Kr sz enc d L (Tag.fam b))) else st.sto.own x:=by
  funext x
  show C8 (Dm st.own r _) (Dm st.fam b _) x=match S x with|some y=>_|none=>if x=r then _ else C8 st.own st.fam x
  by_cases hx:x<Bc
  ·have:S x=none:=by simp[S,hx]
   rw[A3 hx,A3 hx,Gd,this];simp only[eq_comm (a:=r)]
  ·have h2:x≠r:=by rintro rfl;exact hx hlr
   rw[Dr hx,Dr hx,Gd]
   by_cases hd:b=x / Bc-1
   ·have:S x=(Ka L (x % Bc)).map fun m=>(sz,e,m):=by simp only[S,hx,if_false,if_pos hd]
    rw[if_pos hd,this,if_neg h2,← hd,hb];simp only[Option.bind_some]
    cases Ka L (x % Bc)<;>rfl
   ·have:S x=none:=by simp only[S,hx,if_false,if_neg hd]
    rw[if_neg hd,this,if_neg h2]
 have hS:∀ x y,S x=some y→st.sto.own x=none:=fun x y hx=>by
  by_cases h1:x<Bc
  ·simp[S,h1]at hx
  ·by_cases hd:b=x / Bc-1
   ·show C8 _ _ x=none
    rw[Dr h1,← hd,hb];rfl
   ·simp only[S,h1,if_false,if_neg hd]at hx;cases hx
 refine⟨I,_,rel_births h hr' hS (fun x s m hx=>?_) hown rfl (fun j _=>rfl) (fun j c v hj hc hv=>?_)⟩
 ·by_cases h1:x<Bc
  ·simp[S,h1]at hx
  ·by_cases hd:b=x / Bc-1
   ·simp only[S,h1,if_false,if_pos hd]at hx;obtain⟨m',hm',he⟩:=Option.map_eq_some_iff.1 hx;simp only[Prod.mk.injEq]at he;obtain⟨_,he,rfl⟩:=he;unfold Ka at hm'
    split at hm'
    ·simp only[Option.some.injEq]at hm';rw[← hm'];exact h8 he _
    ·cases hm'
   ·simp only[S,h1,if_false,if_neg hd]at hx;cases hx
 ·obtain rfl:c=0:=by omega
  have hjb:j<Bc:=row_lt h.chg.rel hr' hj;replace hv:Rep I st.sto.own θ w v (.slice sz (L.getD j []).length (fun i_=>enc ((L.getD j []).getD i_ d)) .exact):=hv
  show Rep I _ _ w v (.slice sz (L.getD j []).length (fun i_=>enc ((L.getD j []).getD i_ d)) (.fam b j))
  have hSj:S (M5 b j)=some (sz,e,(L.getD j []).length):=by
   simp only[S,Lb b j,if_false,Qb hjb,if_true,O2 hjb,Ka];rw[if_pos (by omega)];rfl
  exact rep_new hv rfl hjb ((congrFun hown _).trans (by rw[hSj])) (by rw[hSj])
end
end
theorem av_famtag{α:Type}{sz b i k:Nat}{e:α→List AV}{d:α}{l:List α}:AVle (AV.list sz e d l (Gx b i k i)) (AV.list sz e d l (.own k)):=by
 have:Gx b i k i = .own k:=by simp[Gx]
 rw[this];exact AVle.refl _
theorem putF_fam{α:Type}{sz b i k k0:Nat}{e:α→List AV}{d:α}{L:List (List α)}{x:List α}{n:Nat}{keep:Nat→Bool}(hi:i<L.length)(hk:keep k=true)(hb:keep b=true) :
  ∀ j,j<n→AV.eraseAll keep (F6 (Kr sz e d L (Gx b i k0)) i 0 [AV.list sz e d x (.own k)] j)=Kr sz e d (L.set i x) (Gx b i k) j:=fun j _=>by
 unfold F6
 cases hji:Nat.beq j i with
 | true=>
  have:=Nat.eq_of_beq_eq_true hji;subst this;simp[Kr,AV.eraseAll,AV.erase,AV.list,Gx,hk,List.getD,hi]
 | false=>
  have hne:i≠j:=by rintro rfl;simp at hji
  simp[Kr,AV.eraseAll,AV.erase,AV.list,Gx,hji,hb,List.getD,hne]
theorem fam_zero{α:Type}{sz n:Nat}{e:α→List AV}{d:α}{keep:Nat→Bool}:∀ k,k<n→AVleL (AV.eraseAll keep [.slice 0 0 (fun _=>[]) .exact]) (Kr sz e d (List.replicate n []) (fun _=>.exact) k):=fun k hk=>by
 have:(List.replicate n ([]:List α)).getD k []=[]:=by simp[List.getD,hk]
 unfold Kr;rw[this];exact .cons F7 .nil
mutual
def AV.freeN(r:Nat):AV→Bool
 | .vsl nm _=>!Nat.beq nm r
 | .vpt nm _ _ _=>!Nat.beq nm r
 | .vsub nm _ _ _=>!Nat.beq nm r
 | .clo _ xs ys=>AV.freeNAll r xs&&AV.freeNAll r ys
 | .agg cs=>AV.freeNAll r cs
 | .tuple cs=>AV.freeNAll r cs
 | .cond _ x=>x.freeN r
 | _=>true
def AV.freeNAll(r:Nat):List AV→Bool
 | []=>true
 | x::l=>x.freeN r&&AV.freeNAll r l
end
theorem Ir{r:Nat}{l:List AV}(h:AV.freeNAll r l=true)(j:Nat):(l.getD j .any).freeN r=true:=by
 induction l generalizing j with
 | nil=>simp[AV.freeN]
 | cons x l ih=>
  simp only[AV.freeNAll,Bool.and_eq_true]at h
  cases j with
  | zero=>simpa using h.1
  | succ j=>simpa using ih h.2 j
theorem rep_freeN{I:Nat→Nat→Prop}{own own':Nat→Option Own}{θ:Nat→Option (Nat×Nat)}{w:World}{v:Value}{x:AV}{r:Nat}(h:Rep I own θ w v x)(hx:x.freeN r=true)(hr:∃ sz e m f,own r=some (.arr sz e m f))
  (ho:∀ nm,nm≠r→own' nm=own nm):Rep I own' θ w v x:=by
 obtain⟨s0,e0,m0,f0,hr⟩:=hr
 have hne:∀{nm o},own nm=some o→(∀ sz e m f,o≠.arr sz e m f)→own' nm=some o:=fun{nm o} hn hh=>by
  rw[ho nm (by rintro rfl;rw[hr]at hn;exact hh _ _ _ _ (OI hn).symm)];exact hn
 have hbq:∀{nm:Nat},(!Nat.beq nm r)=true→nm≠r:=fun h e=>by subst e;simp at h
 induction h with
 | val v x h=>exact .val v x h
 | exact a n sz f h=>exact .exact a n sz f h
 | own nm sz e m a n cap f hn hm hv h=>exact .own nm sz e m a n cap f (hne hn (fun _ _ _ _ h=>by cases h)) hm hv h
 | fam b i sz e m a n cap f hi hn hm hv h=>exact .fam b i sz e m a n cap f hi (hne hn (fun _ _ _ _ h=>by cases h)) hm hv h
 | ptr nm off e cells g c hn hg=>exact .ptr nm off e cells g c (hne hn (fun _ _ _ _ h=>by cases h)) hg
 | vsl nm sz e m f a n cap hn hm hcap hmax hnn hv=>exact .vsl nm sz e m f a n cap ((ho nm (hbq hx)).trans hn) hm hcap hmax hnn hv
 | vpt nm sz e m f n i j ad hn hm hi hv=>exact .vpt nm sz e m f n i j ad ((ho nm (hbq hx)).trans hn) hm hi hv
 | clo f fs cs xs ys hl hl' _ _ ih ih'=>
  simp only[AV.freeN,Bool.and_eq_true]at hx;exact .clo f fs cs xs ys hl hl' (fun j hj=>ih j hj (Ir hx.1 j)) (fun j hj=>ih' j hj (Ir hx.2 j))
 | optr nm mm x g c hn hg=>exact .optr nm mm x g c (hne hn (fun _ _ _ _ h=>by cases h)) hg
 | omap nm x hn=>exact .omap nm x (hne hn (fun _ _ _ _ h=>by cases h))
 | vsub nm sz e m f n lo hi a cap hn hm hlo hhi hcap hmax hnn hv=>exact .vsub nm sz e m f n lo hi a cap ((ho nm (hbq hx)).trans hn) hm hlo hhi hcap hmax hnn hv
 | cond v c x _ h' ih=>exact .cond v c x (fun hc=>ih hc hx) h'
 | agg vs cs hl h1 _ ih=>exact .agg vs cs hl h1 (fun j hj=>ih j hj (Ir hx j))
 | tuple vs cs hl _ ih=>exact .tuple vs cs hl (fun j hj=>ih j hj (Ir hx j))
inductive OwnsFrN (r:Nat):List (Nat×Own)→Prop
 | nil:OwnsFrN r []
 | row {nm:Nat} {e:TypeId} {cells:List AV} {l:List (Nat×Own)} (h:AV.freeNAll r cells=true) (t:OwnsFrN r l):OwnsFrN r ((nm,.row e cells)::l)
 | arr {nm sz m:Nat} {e:TypeId} {f:Nat→List AV} {l:List (Nat×Own)} (h:∀ j,AV.freeNAll r (f j)=true) (t:OwnsFrN r l):OwnsFrN r ((nm,.arr sz e m f)::l)
 | tok {nm sz m:Nat} {e:TypeId} {l:List (Nat×Own)} (t:OwnsFrN r l):OwnsFrN r ((nm,.tok sz e m)::l)
 | obj {nm:Nat} {x:AObj} {l:List (Nat×Own)} (t:OwnsFrN r l) (h:x.Al (fun y=>y.freeN r=true):=by first|trivial|rfl):OwnsFrN r ((nm,.obj x)::l)
def OwnN(r:Nat):Own→Prop
 | .row _ cells=>AV.freeNAll r cells=true
 | .arr _ _ _ f=>∀ j,AV.freeNAll r (f j)=true
 | .obj x=>x.Al (fun y=>y.freeN r=true)
 | .tok ..=>True
theorem OwnsFrN.get{r:Nat}{l:List (Nat×Own)}(h:OwnsFrN r l){nm:Nat}{o:Own}(ho:Am l nm=some o):OwnN r o:=by
 induction h with
 | nil=>cases ho
 | @row k e cells l h _ ih=>
  simp only[Am]at ho
  cases hb:Nat.beq k nm with
  | true=>rw[hb]at ho;simp only[cond_true,Option.some.injEq]at ho;subst ho;exact h
  | false=>rw[hb]at ho;exact ih ho
 | @arr k sz m e f l h _ ih=>
  simp only[Am]at ho
  cases hb:Nat.beq k nm with
  | true=>rw[hb]at ho;simp only[cond_true,Option.some.injEq]at ho;subst ho;exact h
  | false=>rw[hb]at ho;exact ih ho
 | @tok k sz m e l _ ih=>
  simp only[Am]at ho
  cases hb:Nat.beq k nm with
  | true=>rw[hb]at ho;simp only[cond_true,Option.some.injEq]at ho;subst ho;trivial
  | false=>rw[hb]at ho;exact ih ho
 | @obj k x l _ h ih=>
  simp only[Am]at ho
  cases hb:Nat.beq k nm with
  | true=>rw[hb]at ho;simp only[cond_true,Option.some.injEq]at ho;subst ho;exact h
  | false=>rw[hb]at ho;exact ih ho
theorem le_trunc{Γ:H0}{st:St}{t r s n k:Nat}{e:TypeId}{f:Nat→List AV}(hs:st.get t = .vsub r n 0 k)(hr:Am st.own r=some (.arr s e n f))(hk:k≤n)
  (ht:(st.tmps.all fun x=>Nat.beq x.1 t || x.2.freeN r)=true) (ho:OwnsFrN r st.own) (h0:Γ.own0 r=none) (hlt:Nat.blt r Bc=true:=by rfl) (hB:arrB e=false:=by rfl) :
  Le Γ st ⟨Dm st.tmps t (.vsl r k),Dm st.own r (.arr s e k f),st.fam⟩:=by
 intro I θ a w h
 have hlt:r<Bc:=by simpa [Nat.blt_eq] using hlt
 have hr':st.sto.own r=some (.arr s e n f):=(A3 hlt).trans hr
 have hown:(⟨Dm st.tmps t (.vsl r k),Dm st.own r (.arr s e k f),st.fam⟩:St).sto.own=Ar st.sto.own r (.arr s e k f):=by
  funext x
  show C8 (Dm st.own r _) _ x=_
  rw[Il hlt];simp only[Ar]
  by_cases hx:r=x
  ·subst hx;simp
  ·simp[hx,Ne.symm hx];rfl
 have hsame:∀ nm,nm≠r→Ar st.sto.own r (.arr s e k f) nm=st.sto.own nm:=fun nm hn=>by simp[Ar,hn]
 have hT:∀ v x,x.freeN r=true→Rep I st.sto.own θ w v x→Rep I (Ar st.sto.own r (.arr s e k f)) θ w v x:=fun v x hx hv=>rep_freeN hv hx ⟨_,_,_,_,hr'⟩ hsame;have hrel:=h.chg.rel
 have hrows:∀ nm o,st.sto.own nm=some o→OwnN r o:=fun nm o hn=>by
  by_cases hl:nm<Bc
  ·exact ho.get ((A3 hl).symm.trans hn)
  ·obtain⟨_,_,_,rfl⟩:=Qf hl hn;trivial
 have hget:∀ t',(⟨Dm st.tmps t (.vsl r k),Dm st.own r (.arr s e k f),st.fam⟩:St).sto.tmp t'=if t=t' then .vsl r k else st.get t':=fun t'=>by
  show(match Am (Dm st.tmps t _) t' with|some x=>x|none=>.any)=_
  rw[Gd]
  by_cases hk:t=t'
  ·simp[hk]
  ·simp[hk];rfl
 refine⟨I,θ,h.size,h.defers,fun t'=>?_,?_⟩
 ·rw[hown,hget]
  split
  ·rename_i htt
   subst htt;have hv:=h.slots t
   have hv':Rep I st.sto.own θ w (a.tmps.getD t undef) (.vsub r n 0 k):=by rw[← hs];exact hv
   obtain⟨sz,e',m,f',ad,cap,he,ho',hm,_,hhi,hcap,hmax,hn,hvv⟩:=hv'.vsub_inv;rw[hr']at ho';simp only[Option.some.injEq,Own.arr.injEq]at ho';obtain⟨rfl,rfl,rfl,rfl⟩:=ho';rw[he];refine .vsl r s e k f ad _ cap (by simp[Ar]) (Nat.le_refl _) hcap hmax hn (fun _=>?_);have hz:=(hvv rfl).2 rfl
   cases hθ:θ r with
   | none=>rw[hθ]at hz;have:=(hrel.arr r _ _ _ _ hr').1 hθ;simp only at hz ⊢;omega
   | some gc=>rw[hθ]at hz;exact⟨hz.1,hz.2.resolve_right (by rw[hB];decide)⟩
  ·rename_i htt
   have hx:(st.get t').freeN r=true:=by
    unfold St.get
    cases hl:Am st.tmps t' with
    | none=>rfl
    | some x=>
     have:=List.all_eq_true.1 ht _ (W7 hl);simp only[Bool.or_eq_true]at this;rcases this with h'|h'
     ·exact(htt (Nat.eq_of_beq_eq_true h').symm).elim
     ·exact h'
   exact hT _ _ hx (h.slots t')
 ·rw[hown];refine{ h.chg with le:=fun nm o hno=>?_,rel:=⟨fun nm e0 cells hn=>?_,fun nm s' e' m' hn g c hg=>?_,fun nm nm' g c c' hn hn' hg hg'=>?_,fun nm s' e' m' f' hn=>?_,fun nm x hn=>?_,fun nm s' m' hn hnn=>?_⟩,new:=fun nm g c hn hg=>?_ }
  ·obtain⟨o',ho',hl⟩:=h.chg.le nm o hno;exact⟨o',(hsame nm (by rintro rfl;rw[h0]at hno;cases hno)).trans ho',hl⟩
  ·have hne:nm≠r:=by rintro rfl;simp[Ar]at hn
   rw[hsame nm hne]at hn;obtain⟨g,c,vs,r1,r2,r3,r4,r5,r6⟩:=hrel.row nm e0 cells hn;exact⟨g,c,vs,r1,r2,r3,r4,fun j hj=>hT _ _ (Ir (hrows nm _ hn) j) (r5 j hj),r6⟩
  ·have hne:nm≠r:=by rintro rfl;simp[Ar]at hn
   rw[hsame nm hne]at hn;exact hrel.tok nm _ _ _ hn g c hg
  ·have hx:∀ nm,Ar st.sto.own r (.arr s e k f) nm≠none→st.sto.own nm≠none:=fun nm hn=>by
    by_cases hne:nm=r
    ·subst hne;rw[hr'];simp
    ·rwa[hsame nm hne]at hn
   exact hrel.inj nm nm' g c c' (hx nm hn) (hx nm' hn') hg hg'
  ·by_cases hne:nm=r
   ·subst hne;simp only[Ar,if_true,Option.some.injEq,Own.arr.injEq]at hn;obtain⟨rfl,rfl,rfl,rfl⟩:=hn;obtain⟨q0,q1⟩:=hrel.arr nm _ _ _ _ hr';refine⟨fun hθ=>by have:=q0 hθ;omega,fun g c hg=>?_⟩;obtain⟨cur,p1,p2,p3,p4,p5,p6,p7⟩:=q1 g c hg;exact⟨cur,p1,by omega,p3,p4,fun i hi=>p5 i (by omega),fun i j hi hj=>⟨(p6 i j (by omega) hj).1,hT _ _ (Ir (hrows nm _ hr' i) j) (p6 i j (by omega) hj).2⟩,p7⟩
   ·rw[hsame nm hne]at hn;exact Sw (hrel.arr nm _ _ _ _ hn) rfl (fun _ _=>rfl) (fun i j v _ _ hv=>hT _ _ (Ir (hrows nm _ hn i) j) hv)
  ·have hne:nm≠r:=by rintro rfl;simp[Ar]at hn
   rw[hsame nm hne]at hn;exact Jl (hrel.obj nm _ hn) rfl (fun _ _ _=>rfl) (fun _ _ _ _ h=>h) (fun _ hh=>hh.al (P:=fun y=>y.freeN r=true) (hrows nm _ hn) (fun _ _ h=>h) (fun _ _ _=>rfl) fun v y hy hv=>hT v y hy hv) Pe
  ·have hne:nm≠r:=by rintro rfl;simp[Ar]at hn
   rw[hsame nm hne]at hn;exact hrel.tok8 nm _ _ hn hnn
  ·have hx:st.sto.own nm≠none:=by
    by_cases hne:nm=r
    ·subst hne;rw[hr'];simp
    ·rwa[hsame nm hne]at hn
   exact h.chg.new nm g c hx hg
theorem take_le{α:Type}{e:α→List AV}{d:α}{l:List α}{k:Nat}:∀ i,i<0+k→AVleL (e (l.getD i d)) (e ((l.take k).getD i d)):=fun i hi=>by
 have:(l.take k).getD i d=l.getD i d:=by simp[List.getD,show i<k by omega]
 rw[this];exact .refl _
theorem take_len{α:Type}{l:List α}{k:Nat}(h:0+k≤l.length):0+k=(l.take k).length:=by simp;omega
theorem pw_nil{f g:Nat→List AV}:∀ k,k<0→f k=g k:=fun _ h=>by omega
theorem pw_snoc{n:Nat}{f g:Nat→List AV}(h:∀ k,k<n→f k=g k)(h':f n=g n):∀ k,k<n+1→f k=g k:=fun k hk=>by
 by_cases hkn:k=n
 ·subst hkn;exact h'
 ·exact h k (by omega)
theorem pwl_nil{f g:Nat→List AV}:∀ k,k<0→AVleL (f k) (g k):=fun _ h=>by omega
theorem pwl_snoc{n:Nat}{f g:Nat→List AV}(h:∀ k,k<n→AVleL (f k) (g k))(h':AVleL (f n) (g n)):∀ k,k<n+1→AVleL (f k) (g k):=fun k hk=>by
 by_cases hkn:k=n
 ·subst hkn;exact h'
 ·exact h k (by omega)
theorem arrE_zero{α:Type}{keep:Nat→Bool}{e:α→List AV}{d:α}{z:List AV}{N sz:Nat}(hz:z.length=sz)(h:z=e d)(hk:AV.eraseAll keep z=z):∀ k,k<N→AVleL (AV.eraseAll keep ((((List.replicate N z).flatten).drop (k*sz)).take sz)) (e ((List.replicate N d).getD k d)):=fun k hk'=>by
 have:(List.replicate N d).getD k d=d:=by simp[List.getD,hk']
 rw[flat_rep z sz hz N k hk',this,hk,h];exact .refl _
theorem lent_load{f:Nat→List AV}{i:Nat}{x:AV}:AVle ((F6 f i 0 [x] i).getD 0 .any) x:=by
 rw[N7]
 simpa using AVle.refl x
theorem J2{keep:Nat→Bool}{f:Nat→List AV}{i k R m:Nat}(hf:∀ j,AV.eraseAll keep (f j)=f j)(hk:keep R=true):∀ j,j<k→AVleL (AV.eraseAll keep (F6 f i 0 [.vsl R m] j)) (F6 f i 0 [.vsl R m] j):=fun j _=>by
 have h:AV.eraseAll keep (F6 f i 0 [.vsl R m] j)=F6 f i 0 [.vsl R m] j:=by
  by_cases hj:j=i
  ·subst hj;rw[N7,Rp,Rp,eraseAll_take,eraseAll_drop,hf];simp[AV.eraseAll,AV.erase,hk]
  ·rw[P3 f _ hj,hf]
 rw[h];exact .refl _
theorem lent_put{α:Type}{enc:α→List AV}{d x:α}{l:List α}{i nm sz n:Nat}{g:Nat→List AV}(hf:∀ a,AV.frwAll nm sz n g (enc a)=enc a)(h1:∀ a,(enc a).length=1)(hx:enc x=[.slice sz n g .none]) :
  ∀ j,j<l.length→AVleL (AV.frwAll nm sz n g (F6 (fun k=>enc (l.getD k d)) i 0 [.vsl nm n] j)) (enc ((l.set i x).getD j d)):=fun j hl=>by
 have h:AV.frwAll nm sz n g (F6 (fun k=>enc (l.getD k d)) i 0 [.vsl nm n] j)=enc ((l.set i x).getD j d):=by
  by_cases hj:j=i
  ·subst hj
   have e1:(l.set j x).getD j d=x:=by simp[List.getD,hl]
   have e2:(enc (l.getD j d)).drop (0+[AV.vsl nm n].length)=[]:=List.drop_eq_nil_of_le (by rw[h1];exact Nat.le_refl _)
   have e3:R4 nm nm=false:=by simp[R4]
   rw[N7,e1,e2,hx];simp[AV.frwAll,AV.frw,e3]
  ·have e1:(l.set i x).getD j d=l.getD j d:=by simp[List.getD,Ne.symm hj]
   rw[P3 _ _ hj,e1,hf]
 rw[h];exact .refl _
section
variable {α:Type} {g:Bool} {a b:List α}
theorem bif_len:(bif g then a.length else b.length)=(bif g then a else b).length:=by cases g<;>rfl
theorem bif_row{e:α→List AV}{d:α}{k:Nat}:(bif g then e (a.getD k d) else e (b.getD k d))=e ((bif g then a else b).getD k d):=by cases g<;>rfl
theorem bif_was(h:g=true→b.length=a.length):b.length=(bif g then a else b).length:=by
 cases g with
 | false=>rfl
 | true=>exact h rfl
end
abbrev mapE{V:Type}(f:V→AV)(l:List (Int×V)):List (Int×AV):=l.map fun p=>(p.1,f p.2)
section
variable {V:Type} {f:V→AV} {l:List (Int×V)} {r:List (Int×AV)} {k:Int}
theorem mhas_mapE(k:Int):∀ l:List (Int×V),Gh (mapE f l) k=Gh l k
 | []=>rfl
 | (a,b)::l=>by
  simp only[mapE,List.map_cons,Gh];rw[← mhas_mapE k l]
theorem mset_mapE(k:Int)(v:V):∀ l:List (Int×V),J4 (mapE f l) k (f v)=mapE f (J4 l k v)
 | []=>rfl
 | (a,b)::l=>by
  simp only[mapE,List.map_cons,J4]
  cases k==a with
  | true=>rfl
  | false=>
   simp only[cond_false,List.map_cons];exact congrArg _ (mset_mapE k v l)
theorem Y8{z:V}{zz:AV}(hz:AVle zz (f z))(hr:r=mapE f l):AVle (Fh zz r k) (f (Fh z l k)):=by
 subst hr
 induction l with
 | nil=>exact hz
 | cons p l ih=>
  obtain⟨a,b⟩:=p;simp only[mapE,List.map_cons,Fh]
  cases k==a with
  | true=>exact AVle.refl _
  | false=>exact ih
theorem mlook_le{z:V}{zz:AV}(hz:AVle zz (f z))(hr:r=mapE f l):AVle (.tuple [Fh zz r k,.bool (Gh r k)]) (.tuple [f (Fh z l k),.bool (Gh l k)]):=by
 have h:=Y8 (k:=k) hz hr;subst hr;rw[mhas_mapE];exact AVle.tuple (.cons h (.cons (AVle.refl _) .nil))
theorem mlen_le(hr:r=mapE f l):AVle (.int .i64 (r.length:Int)) (.int .i64 (l.length:Int)):=by
 subst hr;rw[mapE,List.length_map];exact AVle.refl _
theorem mset_eq{v:V}{x:AV}(hx:x=f v)(hr:r=mapE f l):J4 r k x=mapE f (J4 l k v):=by
 subst hr hx;exact mset_mapE k v l
theorem bif_mapE{g:Bool}{a b:List (Int×V)}{ra rb:List (Int×AV)}(ha:ra=mapE f a)(hb:rb=mapE f b):(bif g then ra else rb)=mapE f (bif g then a else b):=by
 subst ha hb
 cases g<;>rfl
end
theorem mapE_flat{V:Type}{f:V→AV}{l:List (Int×V)}(h:∀ v,(f v).flat=true):∀ q∈mapE f l,q.2.flat=true:=fun q hq=>by
 obtain⟨p,_,rfl⟩:=List.mem_map.1 hq;exact h p.2
theorem le_obj{Γ:H0}{st:St}{nm:Nat}{x:AObj}(y:AObj)(hn:Am st.own nm=some (.obj x))(hxy:∀ I own θ w,Rl I own θ w nm x→Rl I own θ w nm y)(hlt:Nat.blt nm Bc=true:=by rfl) :
  Le Γ st ⟨st.tmps,Dm st.own nm (.obj y),st.fam⟩:=by
 intro I θ a w h
 have hlt:nm<Bc:=by simpa [Nat.blt_eq] using hlt
 have hn:st.sto.own nm=some (.obj x):=(A3 hlt).trans hn
 have hown:(⟨st.tmps,Dm st.own nm (.obj y),st.fam⟩:St).sto.own=Ar st.sto.own nm (.obj y):=by
  funext k
  show C8 (Dm st.own nm _) _ k=_
  rw[Il hlt];simp only[Ar]
  by_cases hk:nm=k
  ·subst hk;simp
  ·simp[hk,Ne.symm hk];rfl
 have hle:∀ k o,st.sto.own k=some o→∃ o',Ar st.sto.own nm (.obj y) k=some o'∧OwnLe o (θ k) o' (θ k):=fun k o ho=>by
  by_cases hk:k=nm
  ·subst hk;rw[hn]at ho;obtain rfl:=OI ho;exact⟨.obj y,by simp[Ar],rfl⟩
  ·exact⟨o,by simp[Ar,hk,ho],OwnLe.refl _ _⟩
 have hrel:=h.chg.rel;have hmono:∀ v z,Rep I st.sto.own θ w v z→Rep I (Ar st.sto.own nm (.obj y)) θ w v z:=fun v z hz=>hz.mono (fun _ _ h=>h) (fun _ _ _=>rfl) hle
 have k:Chg st.sto.own θ I w (Ar st.sto.own nm (.obj y)) θ I w:=by
  refine{ imm:=fun _ _ h=>h,cell:=fun _ _ _=>rfl,le:=hle,rel:=?_,valid:=h.chg.valid,os:=rfl,tape:=rfl,output:=rfl,drawn:=fun _=>Nat.le_refl _,grow:=Nat.le_refl _,frame:=fun _ _ _=>rfl,new:=fun k g c ho hg=>?_,immNew:=fun b o h=>.inl h }
  ·refine Jp hrel (·=nm) hmono (fun k hne=>⟨by simp[Ar,hne],rfl⟩) (fun k g c hne ho hg=>⟨rfl,fun j h=>h⟩) ?_ ?_ ?_ (fun _ _ h h'=>h.trans h'.symm) (hobj:=?_)
   ·rintro k e' cells rfl ho;simp[Ar]at ho
   ·rintro k sz e' m rfl ho;simp[Ar]at ho
   ·rintro k k' g c c' rfl hne _ ho' hg hg';exact hne (hrel.inj k' k _ _ _ ho' (by simp[hn]) hg' hg)
   ·rintro k z rfl ho;simp only[Ar,if_true,Option.some.injEq,Own.obj.injEq]at ho;subst ho;exact Jl (hxy _ _ _ _ (hrel.obj k x hn)) rfl (fun _ _ _=>rfl) (fun _ _ _ _ h=>h) (fun _ hh=>hh.mono hmono) Pe
  ·by_cases hk:k=nm
   ·subst hk;exact .inr ⟨k,c,by simp[hn],hg⟩
   ·exact .inr ⟨k,c,by simpa [Ar,hk] using ho,hg⟩
 exact⟨I,θ,h.size,h.defers,fun t'=>by rw[hown];exact(h.slots t').chg k,by rw[hown];exact h.chg.trans k⟩
theorem objAt_nn{I:Nat→Nat→Prop}{own:Nat→Option Own}{θ:Nat→Option (Nat×Nat)}{w:World}{nm:Nat}{nn:Bool}{k:IntKind}{l:List (Int×AV)}(h:Rl I own θ w nm (.map nn k l)):Rl I own θ w nm (.map false k l):=by
 rcases h with⟨g,c,o,h1,h2,h3,h4⟩|⟨h1,h2⟩
 ·refine .inl ⟨g,c,o,h1,h2,?_,h4⟩
  cases h3 with
  | map es nn k l hs hr=>exact .map es false k l hs hr
 ·cases nn<;>cases l<;>first|exact .inr ⟨h1,trivial⟩|cases h2
def permN{V:Type}(a b:List (Int×V)):Prop:=a.Perm b∧(b.map (·.1)).Nodup
theorem objAt_perm{V:Type}{I:Nat→Nat→Prop}{own:Nat→Option Own}{θ:Nat→Option (Nat×Nat)}{w:World}{nm:Nat}{nn:Bool}{k:IntKind}{f:V→AV}{a b:List (Int×V)}(hp:permN a b)(h:Rl I own θ w nm (.map nn k (mapE f a))):Rl I own θ w nm (.pmap nn k (mapE f b)):=by
 have hp1:(mapE f a).Perm (mapE f b):=hp.1.map _
 have hp2:((mapE f b).map (·.1)).Nodup:=by
  have:(mapE f b).map (·.1)=b.map (·.1):=by simp[mapE]
  rw[this];exact hp.2
 rcases h with⟨g,c,o,h1,h2,h3,h4⟩|⟨h1,h2⟩
 ·refine .inl ⟨g,c,o,h1,h2,?_,h4⟩
  cases h3 with
  | map es nn k l hs hr=>exact .pmap es nn k _ _ hp1 hp2 hs hr
 ·generalize mapE f a=la at *
  generalize mapE f b=lb at *
  cases nn with
  | true=>cases h2
  | false=>
   cases la with
   | nil=>obtain rfl:=hp1.nil_eq;exact .inr ⟨h1,trivial⟩
   | cons=>cases h2
theorem objAt_pnn{I:Nat→Nat→Prop}{own:Nat→Option Own}{θ:Nat→Option (Nat×Nat)}{w:World}{nm:Nat}{nn:Bool}{k:IntKind}{l:List (Int×AV)}(h:Rl I own θ w nm (.pmap nn k l)):Rl I own θ w nm (.pmap false k l):=by
 rcases h with⟨g,c,o,h1,h2,h3,h4⟩|⟨h1,h2⟩
 ·refine .inl ⟨g,c,o,h1,h2,?_,h4⟩
  cases h3 with
  | pmap es nn k l0 l hp hk hs hr=>exact .pmap es false k l0 l hp hk hs hr
 ·cases nn<;>cases l<;>first|exact .inr ⟨h1,trivial⟩|cases h2
theorem le_nilm{Γ:H0}{st:St}{t nm:Nat}(k:IntKind)(hs:st.get t = .nilm)(hn:Am st.own nm=none)(hlt:Nat.blt nm Bc=true:=by rfl) :
  Le Γ st ⟨Dm st.tmps t (.omap nm),Dm st.own nm (.obj (.map false k [])),st.fam⟩:=by
 intro I θ a w h
 have hlt:nm<Bc:=by simpa [Nat.blt_eq] using hlt
 have hn:st.sto.own nm=none:=(A3 hlt).trans hn
 have hown:(⟨Dm st.tmps t (.omap nm),Dm st.own nm (.obj (.map false k [])),st.fam⟩:St).sto.own=Ar st.sto.own nm (.obj (.map false k [])):=by
  funext k
  show C8 (Dm st.own nm _) _ k=_
  rw[Il hlt];simp only[Ar]
  by_cases hk:nm=k
  ·subst hk;simp
  ·simp[hk,Ne.symm hk];rfl
 have hle:∀ j o,st.sto.own j=some o→∃ o',Ar st.sto.own nm (.obj (.map false k [])) j=some o'∧OwnLe o (θ j) o' (thUp θ nm none j):=fun j o ho=>by
  have hne:j≠nm:=by rintro rfl;rw[hn]at ho;cases ho
  exact⟨o,by simp[Ar,hne,ho],by simp[thUp,hne,OwnLe.refl]⟩
 have hrel:=h.chg.rel;have hmono:∀ v z,Rep I st.sto.own θ w v z→Rep I (Ar st.sto.own nm (.obj (.map false k []))) (thUp θ nm none) w v z:=fun v z hz=>hz.mono (fun _ _ h=>h) (fun _ _ _=>rfl) hle
 have kk:Chg st.sto.own θ I w (Ar st.sto.own nm (.obj (.map false k []))) (thUp θ nm none) I w:=by
  refine{ imm:=fun _ _ h=>h,cell:=fun _ _ _=>rfl,le:=hle,rel:=?_,valid:=h.chg.valid,os:=rfl,tape:=rfl,output:=rfl,drawn:=fun _=>Nat.le_refl _,grow:=Nat.le_refl _,frame:=fun _ _ _=>rfl,new:=fun j g c ho hg=>?_,immNew:=fun b o h=>.inl h }
  ·refine Jp hrel (·=nm) hmono (fun j hne=>⟨by simp[Ar,hne],by simp[thUp,hne]⟩) (fun j g c hne ho hg=>⟨rfl,fun j h=>h⟩) ?_ ?_ ?_ (fun _ _ h h'=>h.trans h'.symm) (hobj:=?_)
   ·rintro j e' cells rfl ho;simp[Ar]at ho
   ·rintro j sz e' m rfl ho;simp[Ar]at ho
   ·rintro j k' g c c' rfl hne _ ho' hg hg';simp[thUp]at hg
   ·rintro j z rfl ho;simp only[Ar,if_true,Option.some.injEq,Own.obj.injEq]at ho;subst ho;exact .inr ⟨by simp[thUp],trivial⟩
  ·by_cases hk:j=nm
   ·subst hk;simp[thUp]at hg
   ·exact .inr ⟨j,c,by simpa [Ar,hk] using ho,by simpa [thUp,hk] using hg⟩
 refine⟨I,thUp θ nm none,h.size,h.defers,fun t'=>?_,?_⟩
 ·rw[hown]
  have hget:(⟨Dm st.tmps t (.omap nm),Dm st.own nm (.obj (.map false k [])),st.fam⟩:St).sto.tmp t'=if t=t' then .omap nm else st.get t':=by
   show(match Am (Dm st.tmps t _) t' with|some x=>x|none=>.any)=_
   rw[Gd]
   by_cases hk:t=t'
   ·simp[hk]
   ·simp[hk];rfl
  rw[hget]
  split
  ·rename_i htt
   subst htt;have hr:=h.slots t
   have hr':Rep I st.sto.own θ w (a.tmps.getD t undef) .nilm:=by rw[← hs];exact hr
   rw[hr'.nilm_inv];have:=Rep.omap (I:=I) (own:=Ar st.sto.own nm (.obj (.map false k []))) (θ:=thUp θ nm none) (w:=w) nm (.map false k []) (by simp[Ar])
   simpa [thUp] using this
  ·exact(h.slots t').chg kk
 ·rw[hown];exact h.chg.trans kk
theorem Ql{Γ:H0}{st:St}{r j nm:Nat}{e0:TypeId}{cells:List AV}(km:IntKind)(hr:Am st.own r=some (.row e0 cells))(hs:cells.getD j .any = .nilm)(hj:j<cells.length)(hn:Am st.own nm=none)(hlt:Nat.blt nm Bc=true:=by rfl)(hltr:Nat.blt r Bc=true:=by rfl) :
  Le Γ st ⟨st.tmps,Dm (Dm st.own r (.row e0 (cells.set j (.omap nm)))) nm (.obj (.map false km [])),st.fam⟩:=by
 intro I θ a w h
 have hlt:nm<Bc:=by simpa [Nat.blt_eq] using hlt
 have hltr:r<Bc:=by simpa [Nat.blt_eq] using hltr
 have hn:st.sto.own nm=none:=(A3 hlt).trans hn;have hr:st.sto.own r=some (.row e0 cells):=(A3 hltr).trans hr
 have hne:r≠nm:=by rintro rfl;rw[hr]at hn;cases hn
 let own':Nat→Option Own:=fun k=>if k=nm then some (.obj (.map false km [])) else if k=r then some (.row e0 (cells.set j (.omap nm))) else st.sto.own k
 have hown:(⟨st.tmps,Dm (Dm st.own r (.row e0 (cells.set j (.omap nm)))) nm (.obj (.map false km [])),st.fam⟩:St).sto.own=own':=by
  funext k
  show C8 (Dm (Dm st.own r _) nm _) _ k=_
  rw[Il hlt,Il hltr];simp only[own',eq_comm (a:=nm),eq_comm (a:=r)]
  rfl
 have hle:∀ nm' o,st.sto.own nm'=some o→∃ o',own' nm'=some o'∧OwnLe o (θ nm') o' (thUp θ nm none nm'):=fun nm' o ho=>by
  have h1:nm'≠nm:=by rintro rfl;have:st.sto.own nm'=some o:=ho;rw[hn]at this;cases this
  by_cases h2:nm'=r
  ·subst h2;have:st.sto.own nm'=some o:=ho;rw[hr]at this;obtain rfl:=OI this;exact⟨.row e0 (cells.set j (.omap nm)),by simp[own',h1],by simp[thUp,h1,OwnLe]⟩
  ·exact⟨o,by simp[own',h1,h2,ho],by simp[thUp,h1,OwnLe.refl]⟩
 have hmono:∀ v x,Rep I st.sto.own θ w v x→Rep I own' (thUp θ nm none) w v x:=fun v x h=>h.mono (fun _ _ h=>h) (fun _ _ _=>rfl) hle;have hrel:=h.chg.rel
 have k:Chg st.sto.own θ I w own' (thUp θ nm none) I w:=by
  refine{ imm:=fun _ _ h=>h,cell:=fun _ _ _=>rfl,le:=hle,rel:=?_,valid:=h.chg.valid,os:=rfl,tape:=rfl,output:=rfl,drawn:=fun _=>Nat.le_refl _,grow:=Nat.le_refl _,frame:=fun _ _ _=>rfl,new:=fun nm' g' c ho hg=>?_,immNew:=fun _ _ h=>.inl h }
  ·refine⟨fun nm' e2 cells' ho=>?_,fun nm' s' e' m ho g' c hg=>?_,fun n1 n2 g' c c' ho ho' hg hg'=>?_,fun nm' s' e' m f' ho=>?_,fun nm' x' ho=>?_,fun nm' s' m ho hnn=>?_⟩
   ·by_cases h1:nm'=nm
    ·simp[own',h1]at ho
    ·by_cases h2:nm'=r
     ·subst h2;simp only[own',h1,if_false,if_true,Option.some.injEq,Own.row.injEq]at ho;obtain⟨rfl,rfl⟩:=ho;obtain⟨g',c,vs,r1,r2,r3,r4,r5,r6⟩:=hrel.row nm' _ cells hr;refine⟨g',c,vs,by simpa [thUp,h1] using r1,r2,by simpa using r3,fun j' hj'=>r4 j' (by simpa using hj'),fun j' hj'=>?_,r6⟩
      have hj'':j'<cells.length:=by simpa using hj'
      by_cases hjj:j'=j
      ·subst hjj
       have e1:(cells.set j' (.omap nm)).getD j' .any = .omap nm:=by simp[List.getD,hj]
       rw[e1];have hr':=r5 j' hj'';rw[hs]at hr';rw[hr'.nilm_inv];have:=Rep.omap (I:=I) (own:=own') (θ:=thUp θ nm none) (w:=w) nm (.map false km []) (by simp[own'])
       simpa [thUp] using this
      ·have e1:(cells.set j (.omap nm)).getD j' .any=cells.getD j' .any:=by simp[List.getD,Ne.symm hjj]
       rw[e1];exact hmono _ _ (r5 j' hj'')
     ·simp only[own',h1,h2,if_false]at ho;obtain⟨g',c,vs,r1,r2,r3,r4,r5,r6⟩:=hrel.row nm' _ cells' ho;exact⟨g',c,vs,by simpa [thUp,h1] using r1,r2,r3,r4,fun j' hj'=>hmono _ _ (r5 j' hj'),r6⟩
   ·by_cases h1:nm'=nm
    ·simp[thUp,h1]at hg
    ·have h2:nm'≠r:=by rintro rfl;simp[own',h1]at ho
     simp only[own',h1,h2,if_false]at ho;simp only[thUp,h1,if_false]at hg;exact hrel.tok nm' _ _ _ ho g' c hg
   ·have hx:∀ n1 g' c,own' n1≠none→thUp θ nm none n1=some (g',c)→st.sto.own n1≠none∧θ n1=some (g',c):=fun n1 g' c ho hg=>by
     by_cases h1:n1=nm
     ·simp[thUp,h1]at hg
     ·simp only[thUp,h1,if_false]at hg;refine⟨?_,hg⟩
      by_cases h2:n1=r
      ·subst h2;have:st.sto.own n1=some (.row e0 cells):=hr;simp[this]
      ·simpa [own',h1,h2] using ho
    obtain⟨a1,a2⟩:=hx n1 g' c ho hg;obtain⟨b1,b2⟩:=hx n2 g' c' ho' hg';exact hrel.inj n1 n2 g' c c' a1 b1 a2 b2
   ·by_cases h1:nm'=nm
    ·simp[own',h1]at ho
    ·have h2:nm'≠r:=by rintro rfl;simp[own',h1]at ho
     simp only[own',h1,h2,if_false]at ho;exact L8 (hrel.arr nm' _ _ _ _ ho) (by simp[thUp,h1]) (fun _ _ _=>rfl) (fun _ _ _ _ h=>h) (fun _ _=>rfl) (fun v i j _ _ hv=>hmono _ _ hv)
   ·by_cases h1:nm'=nm
    ·simp only[own',h1,if_true,Option.some.injEq,Own.obj.injEq]at ho;subst ho;subst h1;exact .inr ⟨by simp[thUp],trivial⟩
    ·have h2:nm'≠r:=by rintro rfl;simp[own',h1]at ho
     simp only[own',h1,h2,if_false]at ho;exact Jl (hrel.obj nm' _ ho) (by simp[thUp,h1]) (fun _ _ _=>rfl) (fun _ _ _ _ h=>h) (fun _ hh=>hh.mono hmono) Pe
   ·by_cases h1:nm'=nm
    ·simp[own',h1]at ho
    ·have h2:nm'≠r:=by rintro rfl;simp[own',h1]at ho
     simp only[own',h1,h2,if_false]at ho;simp only[thUp,h1,if_false]at hnn;exact hrel.tok8 nm' _ _ ho hnn
  ·by_cases h1:nm'=nm
   ·simp[thUp,h1]at hg
   ·simp only[thUp,h1,if_false]at hg;refine .inr ⟨nm',c,?_,hg⟩
    by_cases h2:nm'=r
    ·subst h2;have:st.sto.own nm'=some (.row e0 cells):=hr;simp[this]
    ·simpa [own',h1,h2] using ho
 refine⟨I,thUp θ nm none,h.size,h.defers,fun t'=>?_,?_⟩
 ·rw[hown];exact(h.slots t').chg k
 ·rw[hown];exact h.chg.trans k
section
variable {P:Program} {Γ:H0} {σ:Sto} {I:Nat→Nat→Prop} {θ:Nat→Option (Nat×Nat)} {a:Act} {w:World} {o:Oper}
theorem run_next_at{g bm since:Nat}{seen:Array Nat}{es:Array MapEntry}(hg:w.heap[g]?=some (.mapIter (some bm) since seen since))(hb:w.heap[bm]?=some (.map es since))(hold:∀ x∈es.toList,x.born<since)(ty:TypeId) :
  ((∀ e∈es.toList,e.born∈seen.toList)∧(Instr.next (.pointer (some ⟨g,0,none⟩)) false ty).run P w = .ok (.tuple #[.bool false]) w) ∨
  ∃ e∈es.toList,e.born∉seen.toList∧((Instr.next (.pointer (some ⟨g,0,none⟩)) false ty).run P w = .ok (.tuple #[.bool true,e.key,e.val]) (Oq w g (.mapIter (some bm) since (seen.push e.born) since)) ∨
   (Instr.next (.pointer (some ⟨g,0,none⟩)) false ty).run P w = .ok (.tuple #[.bool true,e.key,e.val]) (Oq w.drew g (.mapIter (some bm) since (seen.push e.born) since))):=by
 simp only[Instr.next,getObj,Sem.run_bind,Sem.run,hg,hb,Result.andThen,next_test_false seen es since since hold (Nat.le_refl _),Bool.false_eq_true,if_false]
 have hmem:∀ x∈(Array.filter (fun e=>!seen.contains e.born) es).toList,x∈es.toList∧x.born∉seen.toList:=fun x hx=>by
  simp only[Array.toList_filter,List.mem_filter,Bool.not_eq_true',Array.contains_eq_mem,decide_eq_false_iff_not]at hx;exact⟨hx.1,by simpa using hx.2⟩
 have hall:(Array.filter (fun e=>!seen.contains e.born) es).size=0→∀ e∈es.toList,e.born∈seen.toList:=fun h0 e he=>by
  by_cases hc:e.born∈seen.toList
  ·exact hc
  ·have:e∈(Array.filter (fun e=>!seen.contains e.born) es).toList:=by
    simp only[Array.toList_filter,List.mem_filter,Bool.not_eq_true',Array.contains_eq_mem,decide_eq_false_iff_not];exact⟨he,by simpa using hc⟩
   have h1:0<(Array.filter (fun e=>!seen.contains e.born) es).toList.length:=List.length_pos_of_mem this;rw[Array.length_toList]at h1;omega
 generalize Array.filter (fun e=>!seen.contains e.born) es=L at hmem hall ⊢
 have e1:L.filter (fun x=>decide (x.born<since))=L:=Array.filter_eq_self.2 (fun x hx=>by simpa using hold x (hmem x (by simpa using hx)).1)
 have e2:L.filter (fun x=>decide (x.born≥since)) = #[]:=by
  rw[Array.filter_eq_empty_iff];intro x hx;have:=hold x (hmem x (by simpa using hx)).1
  simp
  omega
 simp only[e1,e2,Array.append_empty]
 by_cases h0:L.size=0
 ·left
  have:L = #[]:=Array.eq_empty_of_size_eq_zero h0;subst this;refine⟨hall rfl,?_⟩;simp[choose,Sem.run,Question.forced]
 ·right
  have hne:L.isEmpty=false:=by simp[Array.isEmpty,h0]
  simp only[hne,Bool.false_eq_true,if_false,Array.empty_append,Array.size_map];have hgl:g<w.heap.size:=(Array.getElem?_eq_some_iff.1 hg).1
  have hch:∃(j:Nat) (w1:World),j<L.size∧(w1=w∨w1=w.drew)∧(choose (Question.mapNext L.size)).run P w = .ok j w1:=by
   by_cases hf:L.size≤1
   ·exact⟨0,w,by omega,.inl rfl,by simp[choose,Sem.run,Question.forced,hf]⟩
   ·exact⟨_,w.drew,Nat.mod_lt _ (by omega),.inr rfl,by
     simp only[choose,Sem.run,Question.forced,decide_eq_true_eq,hf,if_false,Question.cut]
     rfl⟩
  obtain⟨j,w1,hj,hw,hrun⟩:=hch
  have hLj:L[j]∈L.toList:=by simp
  refine⟨L[j],(hmem _ hLj).1,(hmem _ hLj).2,?_⟩
  have hset:∀ o',(setObj g o').run P w1 = .ok () (Oq w1 g o'):=fun o'=>by
   have hh:w1.heap[g]?=some (.mapIter (some bm) since seen since):=by rcases hw with rfl|rfl<;>exact hg
   simp[setObj,Sem.run,hh,Oq]
  simp only[hrun,Array.getElem?_map,Array.getElem?_eq_getElem hj,Option.map_some,Sem.run_bind,hset,Result.andThen];rcases hw with rfl|rfl
  ·exact .inl rfl
  ·exact .inr rfl
theorem ok_nextm(h:Rel Γ σ I θ a w)(hd:∀ d,o.dst=some d→d<Γ.n){x:Operand}(ho:o.op = .next x false){nm mm n:Nat}{s:List Nat}{nn:Bool}{k:IntKind}{l:List (Int×AV)}(hx:Rep I σ.own θ w (a.eval x) (.optr nm mm))
  (hit:σ.own nm=some (.obj (.miter (.omap mm) n s))) (hown:σ.own mm=some (.obj (.map nn k l))) (hn:n=l.length) (K:Act→World→Prop) (Q:Exit→Act→World→Prop)
  (hdone:(∀ i,i<n→i∈s)→∀ I' θ' a' w',Rel Γ (σ.upd o.dst (.tuple [.bool false]) []) I' θ' a' w'→K a' w')
  (hmore:∀ i,i<n→i∉s→∀ I' θ' a' w',Rel Γ (σ.upd o.dst (.tuple [.bool true,.int k (l.getD i (0,.any)).1,(l.getD i (0,.any)).2]) [(nm,.obj (.miter (.omap mm) n (i::s)))]) I' θ' a' w'→K a' w'):o.wp P a w K Q:=by
 obtain⟨_,g,c,ho',hg,hv⟩:=hx.optr_inv
 obtain⟨ob,h2,h3⟩:∃ ob,w.heap[g]?=some ob∧ObjR I σ.own θ w ob (.miter (.omap mm) n s):=by
  rcases h.chg.rel.obj nm _ hit with⟨g',c',ob,h1,h2,h3,h4⟩|⟨h1,_⟩
  ·rw[hg]at h1;simp only[Option.some.injEq,Prod.mk.injEq]at h1;obtain⟨rfl,rfl⟩:=h1;exact⟨ob,h2,h3⟩
  ·rw[hg]at h1;cases h1
 obtain⟨r,cc,seen,rfl,hseen,rfl,hr⟩:=miter_inv h3;obtain⟨_,_,hxm⟩:=hr.omap_inv;simp only[Value.map.injEq]at hxm
 have hfalse:∀(hrun:(execOp a.eval o).run P w = .ok (.value (.tuple #[.bool false])) w),(∀ i,i<cc→i∈s)→o.wp P a w K Q:=fun hrun hall=>
  Ax (x:=.tuple [.bool false]) h hd hrun (.tuple _ _ rfl (fun j hj=>by
   obtain rfl:j=0:=by simp at hj;omega
   exact .val _ _ (.bool _))) K Q (hdone hall)
 rcases map_at h hown with⟨gm,c',es',h4,h5,h6⟩|⟨h4,_,h7⟩
 ·rw[h4]at hxm;obtain rfl:r=some gm:=hxm;obtain⟨hlen,hent⟩:=Wf l es'.toList 0 h6
  have hmem:∀ e∈es'.toList,∃ i,i<l.length∧es'.toList[i]?=some e∧e.born=i∧e.key = .int k (l.getD i (0,.any)).1∧Zk I w e.val (l.getD i (0,.any)).2:=fun e he=>by
   obtain⟨i,hi,rfl⟩:=List.mem_iff_getElem.1 he;obtain⟨v,e1,e2⟩:=hent i (by omega);rw[List.getElem?_eq_getElem hi]at e1;have e3:=OI e1;exact⟨i,by omega,List.getElem?_eq_getElem hi,by rw[e3];simp,by rw[e3],by rw[e3];exact e2⟩
  rw[← hn]at h5;have hnx:=run_next_at (P:=P) h2 h5 (fun e he=>by obtain⟨i,hi,_,hb,_⟩:=hmem e he;omega) (ty:=0);have hty:∀ ty,Instr.next (.pointer (some ⟨g,0,none⟩)) false ty=Instr.next (.pointer (some ⟨g,0,none⟩)) false 0:=fun _=>rfl;rcases hnx with⟨hall,hrun⟩|⟨e,he,hns,hrun⟩
  ·refine hfalse ?_ (fun i hi=>?_)
   ·simp only[execOp,ho,hv,hty];simp[hrun]
   ·obtain⟨v,e1,e2⟩:=hent i (by omega);have:=hall _ (List.mem_of_getElem? e1);rw[← hseen,List.mem_reverse]
    simpa using this
  ·obtain⟨i,hi,_,hb,hkey,hval⟩:=hmem e he
   have his:i∉s:=by rw[← hseen,List.mem_reverse,← hb];exact hns
   have hrev:(seen.push e.born).toList.reverse=i::s:=by rw[Array.toList_push,List.reverse_append,hseen,hb];rfl
   have step:∀ w1:World,Rel Γ σ I θ a w1→w1.heap=w.heap→(execOp a.eval o).run P w = .ok (.value (.tuple #[.bool true,e.key,e.val])) (Oq w1 g (.mapIter (some gm) cc (seen.push e.born) cc))→o.wp P a w K Q:=fun w1 hr1 hh hrun=>by
    have hcell:∀ b j,I b j→w1.cell? ⟨b,j,none⟩=w.cell? ⟨b,j,none⟩:=fun b j _=>by simp only[World.cell?,hh]
    have hr':Rep I σ.own θ w1 (.map (some gm)) (.omap mm):=hr.mono (fun _ _ h=>h) hcell (fun _ o ho=>⟨o,ho,.refl _ _⟩)
    have hc:ObjR I σ.own θ w1 (.mapIter (some gm) cc (seen.push e.born) cc) (.miter (.omap mm) cc (i::s)):=by
     have:=ObjR.miter (I:=I) (own:=σ.own) (θ:=θ) (w:=w1) (some gm) (.omap mm) cc cc (seen.push e.born) rfl hr';rwa[hrev]at this
    have kc:=Qe hr1.chg.rel hr1.chg.valid hit hg hc;have hval':RepV I (Oq w1 g (.mapIter (some gm) cc (seen.push e.born) cc)) e.val (l.getD i (0,.any)).2:=hval.1.mono (fun _ _ h=>h) (fun b j hj=>by rw[kc.cell b j hj,hcell b j hj])
    have k2:Chg σ.own θ I w1 (σ.upd o.dst (.tuple [.bool true,.int k (l.getD i (0,.any)).1,(l.getD i (0,.any)).2]) [(nm,.obj (.miter (.omap mm) cc (i::s)))]).own θ I (Oq w1 g (.mapIter (some gm) cc (seen.push e.born) cc)):=by rw[Cb];exact kc
    have hput:=Ui (v:=.tuple #[.bool true,e.key,e.val]) (x:=.tuple [.bool true,.int k (l.getD i (0,.any)).1,(l.getD i (0,.any)).2]) hr1 k2 (.tuple _ _ rfl (fun j hj=>by
     have hj:j=0∨j=1∨j=2:=by simp at hj;omega
     rcases hj with rfl|rfl|rfl
     ·exact .val _ _ (.bool _)
     ·rw[show(#[Value.bool true,e.key,e.val].getD 1 Go.undef)=e.key from rfl,hkey];exact .val _ _ (.int _ _)
     ·exact .val _ _ hval')) hd
    unfold Oper.wp;rw[hrun];exact hmore i (by omega) his _ _ _ _ hput
   rcases hrun with hrun|hrun
   ·refine step w h rfl ?_;simp only[execOp,ho,hv,hty];simp[hrun]
   ·refine step w.drew (rel_drew h) rfl ?_;simp only[execOp,ho,hv,hty];simp[hrun]
 ·rw[h4]at hxm;obtain rfl:r=none:=hxm;subst h7;refine hfalse ?_ (fun i hi=>by simp at hn;omega);simp only[execOp,ho,hv];simp[Instr.next,getObj,Sem.run,h2]
theorem awp_nextm{id:Nat}{o1 o2:Oper}{K:Exit→St→Prop}{st:St}{n:Nat}{H:List (Nat×Own)}{x t b nm mm len:Nat}{s:List Nat}{nn:Bool}{k:IntKind}{l:List (Int×AV)}(q:RgQ P Γ n H)(live names:List Nat)
  (h1:o1.op = .next (.tmp x) false) (d1:o1.dst=some t) (g1:o1.guard=none) (h2:o2.op = .extract (.tmp t) 0) (d2:o2.dst=some b) (g2:o2.guard=none) (hb:(Nat.blt t n&&(Nat.blt b n&&(Nat.blt nm Bc&&Nat.blt mm Bc)))=true)
  (hx:st.get x = .optr nm mm) (hit:Am st.own nm=some (.obj (.miter (.omap mm) len s))) (hm:Am st.own mm=some (.obj (.map nn k l))) (hlen:len=l.length) (hh:(H.all fun x=>Dl x.1 names)=true)
  (hdone:(∀ i,i<len→i∈s)→K .normal (A6 live names ((st.upd (some t) (.tuple [.bool false]) []).upd (some b) (.bool false) [])))
  (hmore:∀ i,i<len→i∉s→K .normal (A6 live names ((st.upd (some t) (.tuple [.bool true,.int k (l.getD i (0,.any)).1,(l.getD i (0,.any)).2]) [(nm,.obj (.miter (.omap mm) len (i::s)))]).upd (some b) (.bool true) []))):R3 P Γ (.region id #[o1,o2] false) K st:=by
 simp only[Bool.and_eq_true,Nat.blt_eq]at hb;obtain⟨b1,b2,b3,b4⟩:=hb;intro I θ a w hrel;refine wp_region ?_;have hget:∀ t,Rep I st.sto.own θ w (a.tmps.getD t undef) (st.get t):=hrel.slots
 have w1:∀ tm,Region.wanted o1 tm=true:=fun tm=>by simp[Region.wanted,g1]
 have w2:∀ tm,Region.wanted o2 tm=true:=fun tm=>by simp[Region.wanted,g2]
 have hl:(List.range (#[o1,o2]:Array Oper).size)=[0,1]:=rfl;have hsec:∀(st2:St) (vb:Bool) (r:List AV) (I':Nat→Nat→Prop) (θ':Nat→Option (Nat×Nat)) (a':Act) (w':World),st2.get t = .tuple (.bool vb::r)→Rel Γ st2.sto I' θ' a' w'→K .normal (A6 live names (st2.upd (some b) (.bool vb) []))→
   wpOps P #[o1,o2] (fun e a' w'=>∃ st' I' θ',K e st'∧Rel Γ st'.sto I' θ' a' w') [1] a' w':=fun st2 vb r I' θ' a' w' hgt hr hK=>by
  rw[wpOps_cons]
  show wpOp P #[o1,o2] _ 1 _ a' w'
  unfold wpOp;simp only[show(#[o1,o2]:Array Oper)[1]?=some o2 from rfl,w2,if_true];refine .inl ?_;have ht:=hr.slots t;rw[show st2.sto.tmp t=st2.get t from rfl,hgt]at ht;obtain⟨vs,hv,hsz,hvr⟩:=ht.tuple_inv;have h0:=hvr 0 (by simp);have h0':vs.getD 0 Go.undef = .bool vb:=Rep.bool_inv h0
  have hpos:0<vs.size:=by rw[hsz];simp
  refine Ax hr (fun d hd=>?_) (v:=.bool vb) (x:=.bool vb) ?_ (.val _ _ (.bool _)) _ _ (fun I2 θ2 a2 w2 h2=>?_)
  ·rw[d2]at hd;obtain rfl:=OI hd;rw[q.hn];exact b2
  ·simp only[execOp,h2,Act.eval];rw[hv]
   have:vs[0]?=some (.bool vb):=by
    rw[Array.getD_eq_getD_getElem?,Array.getElem?_eq_getElem hpos,Option.getD_some]at h0';rw[Array.getElem?_eq_getElem hpos,h0']
   simp[Instr.extract,this]
  ·refine⟨_,I2,θ2,hK,Re ?_ (q.hand hh)⟩;rw[Zd (ns:=[]) st2 (some b) (.bool vb) [] rfl];rw[d2]at h2;exact h2
 rw[hl,wpOps_cons];unfold wpOp;simp only[show(#[o1,o2]:Array Oper)[0]?=some o1 from rfl,w1,if_true];refine .inl ?_;have hxr:=hget x;rw[hx]at hxr;refine ok_nextm hrel (fun d hd=>?_) h1 (nm:=nm) (mm:=mm) (n:=len) (s:=s) (nn:=nn) (k:=k) (l:=l) hxr ((A3 b3).trans hit) ((A3 b4).trans hm) hlen _ _ (fun hall I' θ' a' w' hr=>?_) (fun i hi hni I' θ' a' w' hr=>?_)
 ·rw[d1]at hd;obtain rfl:=OI hd;rw[q.hn];exact b1
 ·rw[d1,← Zd (ns:=[]) st (some t) (.tuple [.bool false]) [] rfl]at hr;refine hsec _ false [] I' θ' a' w' ?_ hr (hdone hall);simp[St.get,St.upd,Gd]
 ·rw[d1,← Zd (ns:=[nm]) st (some t) _ [(nm,.obj (.miter (.omap mm) len (i::s)))] (by simp[Qo,b3])]at hr;refine hsec _ true [.int k (l.getD i (0,.any)).1,(l.getD i (0,.any)).2] I' θ' a' w' ?_ hr (hmore i hi hni);simp[St.get,St.upd,Gd]
end
def Tq{S X:Type}(f:Nat→S→Option (LR S X))(g:S→Option (LR S X)):List Nat→S→Option X
 | [],s=>match g s with|some (.done x)=>some x|_=>none
 | i::l,s=>match f i s with|some (.next s')=>Tq f g l s'|some (.done x)=>some x|none=>none
open Classical in
open Classical in
def Vm{S X:Type}(eqv:X→X→Prop)(n:Nat)(f:Nat→S→Option (LR S X))(g:S→Option (LR S X))(s:S):Option X:=
 if h:∃ x,∀ τ:List Nat,τ.Perm (List.range n)→∃ x',Tq f g τ s=some x'∧eqv x' x then some (Classical.choose h) else none
theorem X6{S X:Type}{eqv:X→X→Prop}{n:Nat}{f:Nat→S→Option (LR S X)}{g:S→Option (LR S X)}{s:S}{x:X}(h:Vm eqv n f g s=some x):∀ τ:List Nat,τ.Perm (List.range n)→∃ x',Tq f g τ s=some x'∧eqv x' x:=by
 unfold Vm at h
 split at h
 ·rename_i h0
  obtain rfl:=OI h;exact Classical.choose_spec h0
 ·cases h
theorem rangeP_ex{S X:Type}{eqv:X→X→Prop}{n:Nat}{f:Nat→S→Option (LR S X)}{g:S→Option (LR S X)}{s:S}(h:∃ x,∀ τ:List Nat,τ.Perm (List.range n)→∃ x',Tq f g τ s=some x'∧eqv x' x):∃ x,Vm eqv n f g s=some x:=by
 unfold Vm;rw[dif_pos h];exact⟨_,rfl⟩
theorem perm_nodup{α:Type}[DecidableEq α]{a b:List α}(ha:a.Nodup)(hb:b.Nodup)(h:∀ x,x∈a↔x∈b):a.Perm b:=by
 refine List.perm_iff_count.2 fun x=>?_;rw[ha.count,hb.count];simp only[h x]
section
variable {P:Program} {Γ:H0}
theorem awp_rangemQ{S X:Type}{body:Code}(Q:X→Prop)(n:Nat)(H:List Nat→S→St)(f:Nat→S→Option (LR S X))(g:S→Option (LR S X))(KX:X→Exit→St→Prop){K:Exit→St→Prop}
  (hb:∀(z:List Nat) (s:S),((∀ i,i<n→i∈z)→∃ y,g s=some y)→(∀ i,i<n→i∉z→∃ y,f i s=some y)→
   R3 P Γ body (fun e st=>(∃ y,g s=some y∧Om Γ (H z) KX y e st∧∀ i,i<n→i∈z)∨∃ i y,f i s=some y∧Om Γ (H (i::z)) KX y e st∧i<n∧i∉z) (H z s))
  {s:S} (hr:∀ τ:List Nat,τ.Perm (List.range n)→∃ x,Tq f g τ s=some x∧Q x) (hK:∀ x,Q x→∀ e st',KX x e st'→K e st'):R3 P Γ (.loop body) K (H [] s):=by
 intro I θ a w hrel;refine Xq (fun m a w=>∃ z s I θ,m=n-z.length∧z.Nodup∧(∀ i∈z,i<n)∧(∀ τ:List Nat,(z++τ).Perm (List.range n)→∃ x,Tq f g τ s=some x∧Q x)∧Rel Γ (H z s).sto I θ a w) (fun m a w ⟨z,s,I,θ,hm,hz,hzn,hruns,hrel⟩=>?_) (n:=n-0) ⟨[],s,I,θ,rfl,List.nodup_nil,(fun i hi=>by cases hi),(fun τ hτ=>hr τ hτ),hrel⟩
 have hall:(∀ i,i<n→i∈z)→(z++[]).Perm (List.range n):=fun h=>by
  rw[List.append_nil]
  exact perm_nodup hz List.nodup_range fun i=>by rw[List.mem_range];exact⟨hzn i,h i⟩
 have hone:∀ i,i<n→i∉z→∃ τ,(z++i::τ).Perm (List.range n):=fun i hi hni=>by
  refine⟨(List.range n).filter fun j=>decide (j∉i::z),perm_nodup ?_ List.nodup_range fun j=>?_⟩
  ·refine List.nodup_append.2 ⟨hz,List.nodup_cons.2 ⟨by simp,List.nodup_range.filter _⟩,fun p hp q hq hpq=>?_⟩;subst hpq;rcases List.mem_cons.1 hq with rfl|hq
   ·exact hni hp
   ·have:=(List.mem_filter.1 hq).2;simp at this;exact this.2 hp
  ·rw[List.mem_append,List.mem_cons,List.mem_filter,List.mem_range]
   constructor
   ·rintro(h|rfl|h)
    ·exact hzn j h
    ·exact hi
    ·exact h.1
   ·intro h
    by_cases h1:j∈z
    ·exact .inl h1
    ·by_cases h2:j=i
     ·exact .inr (.inl h2)
     ·exact .inr (.inr ⟨h,by simp[h1,h2]⟩)
 have hg:(∀ i,i<n→i∈z)→∃ y,g s=some y:=fun h=>by
  obtain⟨x,this,_⟩:=hruns [] (hall h);unfold Tq at this
  cases hgs:g s with
  | none=>rw[hgs]at this;cases this
  | some y=>exact⟨y,rfl⟩
 have hf:∀ i,i<n→i∉z→∃ y,f i s=some y:=fun i hi hni=>by
  obtain⟨τ,hτ⟩:=hone i hi hni;obtain⟨x,this,_⟩:=hruns _ hτ;unfold Tq at this
  cases hfs:f i s with
  | none=>rw[hfs]at this;cases this
  | some y=>exact⟨y,rfl⟩
 refine wp_mono (hb z s hg hf I θ a w hrel) fun e a' w' ⟨st',I',θ',h1,h2⟩=>?_;rcases h1 with⟨y,hgs,hk,hal⟩|⟨i,y,hfs,hk,hi,hni⟩
 ·obtain⟨x,hx,hQ⟩:=hruns [] (hall hal);unfold Tq at hx;rw[hgs]at hx
  cases y with
  | next s'=>cases hx
  | done x'=>
   obtain rfl:=OI hx;obtain⟨hne,hkx⟩:=hk
   cases e with
   | normal=>exact(hne rfl).elim
   | _=>exact⟨st',I',θ',hK _ hQ _ _ hkx,h2⟩
 ·obtain⟨τ,hτ⟩:=hone i hi hni
  have hlen:z.length<n:=by
   have:=hτ.length_eq;rw[List.length_append,List.length_cons,List.length_range]at this;omega
  cases y with
  | next s'=>
   obtain⟨rfl,hle⟩:=hk;obtain⟨I'',θ'',h3⟩:=hle I' θ' a' w' h2;refine⟨n-(i::z).length,by simp only[List.length_cons];omega,i::z,s',I'',θ'',rfl,List.nodup_cons.2 ⟨hni,hz⟩,?_,fun ρ hρ=>?_,h3⟩
   ·intro j hj;rcases List.mem_cons.1 hj with rfl|hj
    ·exact hi
    ·exact hzn j hj
   ·obtain⟨x,this,hQ⟩:=hruns (i::ρ) (List.Perm.trans List.perm_middle hρ);unfold Tq at this;rw[hfs]at this;exact⟨x,this,hQ⟩
  | done x'=>
   obtain⟨x,hx,hQ⟩:=hruns _ hτ;unfold Tq at hx;rw[hfs]at hx;obtain rfl:=OI hx;obtain⟨hne,hkx⟩:=hk
   cases e with
   | normal=>exact(hne rfl).elim
   | _=>exact⟨st',I',θ',hK _ hQ _ _ hkx,h2⟩
end
theorem ment_le{V:Type}{f:V→AV}{l:List (Int×V)}{d:Int×V}{i:Nat}{k:IntKind}(h:i<(mapE f l).length):AVle (.tuple [.int k ((mapE f l).getD i (0,.any)).1,((mapE f l).getD i (0,.any)).2]) (.tuple [.int k (l.getD i d).1,f (l.getD i d).2]):=by
 have hl:i<l.length:=by simpa [mapE] using h
 have e:(mapE f l).getD i (0,.any)=((l.getD i d).1,f (l.getD i d).2):=by simp[mapE,List.getD,hl]
 rw[e];exact AVle.refl _
section
variable {P:Program} {Γ:H0}
def Yy(P:Program)(Γ:H0)(body:Code)(K:Exit→St→Prop):Nat→St→Prop
 | 0,_=>False
 | n+1,st=>R3 P Γ body (fun e st'=>(e = .normal∧Yy P Γ body K n st')∨(e≠.normal∧K e st')) st
theorem awp_unroll{body:Code}{K:Exit→St→Prop}{st:St}(n:Nat)(h:Yy P Γ body K n st):R3 P Γ (.loop body) K st:=by
 intro I θ a w hrel;refine Xq (fun m a w=>∃ st I θ,Yy P Γ body K m st∧Rel Γ st.sto I θ a w) (fun m a w ⟨st,I,θ,hu,hrel⟩=>?_) (n:=n) ⟨st,I,θ,h,hrel⟩
 cases m with
 | zero=>exact hu.elim
 | succ m=>
  refine wp_mono (hu I θ a w hrel) fun e a' w' ⟨st',I',θ',h1,h2⟩=>?_;rcases h1 with⟨rfl,h1⟩|⟨hne,h1⟩
  ·exact⟨m,Nat.lt_succ_self m,st',I',θ',h1,h2⟩
  ·cases e with
   | normal=>exact(hne rfl).elim
   | _=>exact⟨st',I',θ',h1,h2⟩
end
inductive Frm where
 | nx (y:Code)
 | bl (id:Nat)
 | ag (c:Code) (n:Nat)
inductive Mo where
 | run (c:Code) (fs:List Frm)
 | out (e:Exit) (fs:List Frm)
def kOf(P:Program)(Γ:H0)(K:Exit→St→Prop):List Frm→Exit→St→Prop
 | []=>K
 | .nx y::fs=>thenK P Γ y (kOf P Γ K fs)
 | .bl id::fs=>Ve id (kOf P Γ K fs)
 | .ag c n::fs=>fun e st=>(e = .normal∧Yy P Γ c (kOf P Γ K fs) n st)∨(e≠.normal∧kOf P Γ K fs e st)
def GG(P:Program)(Γ:H0)(K:Exit→St→Prop):Mo→St→Prop
 | .run c fs,st=>R3 P Γ c (kOf P Γ K fs) st
 | .out e fs,st=>kOf P Γ K fs e st
def S1:Code→Nat→Nat
 | .exit i,k=>bif Nat.beq i k then 1 else 0
 | .seq a b,k=>Nat.min 2 (S1 a k+S1 b k)
 | .cond _ a b,k=>Nat.min 2 (S1 a k+S1 b k)
 | .loop c,k=>Nat.min 1 (S1 c k)
 | .scope c,k=>Nat.min 1 (S1 c k)
 | .block _ c,k=>S1 c k
 | _,_=>0
def Oi:Code→Nat
 | .region _ _ _=>1
 | .skip=>1
 | .label _=>1
 | .seq a b=>bif Nat.beq (Oi a) 0 then 0 else Oi b
 | .cond _ a b=>Nat.min 2 (Oi a+Oi b)
 | .block i c=>Nat.min 2 (Oi c+S1 c i)
 | .scope c=>Nat.min 2 (Oi c)
 | _=>0
def joinPt(a:Code):Bool:=match a with | .region _ _ _=>false|a=>Nat.ble 2 (Oi a)
def nav:Nat→Code ⊕ Exit→List Frm→Mo
 | 0,.inl c,fs=>.run c fs
 | 0,.inr e,fs=>.out e fs
 | n+1,.inl c,fs=>
  match c with
  | .skip=>nav n (.inr .normal) fs
  | .label _=>nav n (.inr .normal) fs
  | .seq a b=>bif joinPt a then .run (.seq a b) fs else nav n (.inl a) (.nx b::fs)
  | .block id a=>nav n (.inl a) (.bl id::fs)
  | .exit id=>nav n (.inr (.exit id)) fs
  | .goto l=>nav n (.inr (.goto l)) fs
  | .ret=>nav n (.inr .ret) fs
  | c=>.run c fs
 | n+1,.inr e,fs=>
  match fs with
  | []=>.out e []
  | .nx y::fs=>(match e with | .normal=>nav n (.inl y) fs|e=>nav n (.inr e) fs)
  | .bl id::fs=>(match e with | .exit i=>bif Nat.beq i id then nav n (.inr .normal) fs else nav n (.inr (.exit i)) fs|e=>nav n (.inr e) fs)
  | .ag c m::fs=>(match e with | .normal=>(match m with|0=>.out .normal (.ag c 0::fs)|m+1=>nav n (.inl c) (.ag c m::fs))|e=>nav n (.inr e) fs)
section
variable {P:Program} {Γ:H0} {K:Exit→St→Prop}
theorem B9:∀(n:Nat) (x:Code ⊕ Exit) (fs:List Frm) (st:St),GG P Γ K (nav n x fs) st→(match x with | .inl c=>R3 P Γ c (kOf P Γ K fs) st | .inr e=>kOf P Γ K fs e st)
 | 0,.inl c,fs,st,h=>h
 | 0,.inr e,fs,st,h=>h
 | n+1,.inl c,fs,st,h=>by
  cases c with
  | skip=>exact awp_skip (B9 n (.inr .normal) fs st h)
  | label l=>exact awp_label (B9 n (.inr .normal) fs st h)
  | seq a b=>
   cases hj:joinPt a with
   | true=>simp only[nav,hj,cond_true]at h;exact h
   | false=>simp only[nav,hj,cond_false]at h;exact awp_seq (B9 n (.inl a) (.nx b::fs) st h)
  | block id a=>exact awp_block (B9 n (.inl a) (.bl id::fs) st h)
  | exit id=>exact awp_exit (B9 n (.inr (.exit id)) fs st h)
  | goto l=>exact awp_goto (B9 n (.inr (.goto l)) fs st h)
  | ret=>exact awp_ret (B9 n (.inr .ret) fs st h)
  | _=>exact h
 | n+1,.inr e,[],st,h=>h
 | n+1,.inr e,.nx y::fs,st,h=>by
  cases e with
  | normal=>exact B9 n (.inl y) fs st h
  | exit i=>exact B9 n (.inr (.exit i)) fs st h
  | goto l=>exact B9 n (.inr (.goto l)) fs st h
  | ret=>exact B9 n (.inr .ret) fs st h
  | panic c=>exact B9 n (.inr (.panic c)) fs st h
  | outgrown=>exact B9 n (.inr .outgrown) fs st h
 | n+1,.inr e,.bl id::fs,st,h=>by
  cases e with
  | normal=>exact B9 n (.inr .normal) fs st h
  | exit i=>
   show Ve id (kOf P Γ K fs) (.exit i) st
   cases hb:Nat.beq i id with
   | true=>
    obtain rfl:=Nat.eq_of_beq_eq_true hb;simp only[nav,hb,cond_true]at h;exact block_here (B9 n (.inr .normal) fs st h)
   | false=>
    simp only[nav,hb,cond_false]at h;exact block_exit hb (B9 n (.inr (.exit i)) fs st h)
  | goto l=>exact B9 n (.inr (.goto l)) fs st h
  | ret=>exact B9 n (.inr .ret) fs st h
  | panic c=>exact B9 n (.inr (.panic c)) fs st h
  | outgrown=>exact B9 n (.inr .outgrown) fs st h
 | n+1,.inr e,.ag c m::fs,st,h=>by
  cases e with
  | normal=>
   cases m with
   | zero=>exact h
   | succ m=>exact .inl ⟨rfl,B9 n (.inl c) (.ag c m::fs) st h⟩
  | exit i=>exact .inr ⟨(by intro hh;cases hh),B9 n (.inr (.exit i)) fs st h⟩
  | goto l=>exact .inr ⟨(by intro hh;cases hh),B9 n (.inr (.goto l)) fs st h⟩
  | ret=>exact .inr ⟨(by intro hh;cases hh),B9 n (.inr .ret) fs st h⟩
  | panic ch=>exact .inr ⟨(by intro hh;cases hh),B9 n (.inr (.panic ch)) fs st h⟩
  | outgrown=>exact .inr ⟨(by intro hh;cases hh),B9 n (.inr .outgrown) fs st h⟩
theorem Jf{n:Nat}{c:Code}{fs:List Frm}{st:St}(h:GG P Γ K (nav n (.inl c) fs) st):R3 P Γ c (kOf P Γ K fs) st:=B9 n (.inl c) fs st h
theorem Pz{n:Nat}{e:Exit}{fs:List Frm}{st:St}(h:GG P Γ K (nav n (.inr e) fs) st):kOf P Γ K fs e st:=B9 n (.inr e) fs st h
def inC(c:Code)(fs:List Frm):Mo:=nav 400 (.inl c) fs
def exC(e:Exit)(fs:List Frm):Mo:=nav 400 (.inr e) fs
def nxC:Mo→Mo
 | .run _ fs=>exC .normal fs
 | x=>x
def opsC:Mo→Option (List Oper×Bool)
 | .run (.region _ ops draw) _=>some (ops.toList,draw)
 | _=>none
def doR(P:Program)(S:Vt)(n:Nat)(cs:List (Nat×AV))(live names:List Nat)(x:Mo)(st:St)(rs:List Ss):Option (St×List Prop×Bool):=
 match opsC x with
 | some (ops,draw)=>Y0 P S n cs live names ops draw st rs
 | none=>none
def nxS(P:Program)(S:Vt)(n:Nat)(cs:List (Nat×AV))(live names:List Nat)(x:Mo)(st:St)(rs:List Ss):St:=
 match doR P S n cs live names x st rs with
 | some r=>r.1
 | none=>st
def obR(r:Option (St×List Prop×Bool)):Option (Prop×Bool):=
 match r with
 | some r=>some (conjL r.2.1,r.2.2)
 | none=>none
theorem gR{x:Mo}{st:St}{n:Nat}{H:List (Nat×Own)}(q:RgQ P Γ n H)(live names:List Nat)(cs:List (Nat×AV))(rs:List Ss){O:Prop}(hO:O)
  (k:GG P Γ K (nxC x) (nxS P (Spec P) n cs live names x st rs))
  (h:obR (doR P (Spec P) n cs live names x st rs)=some (O,true):=by kernel_rfl) (hh:(H.all fun x=>Dl x.1 names)=true:=by kernel_rfl):GG P Γ K x st:=by
 unfold doR at h;unfold nxS doR at k
 cases x with
 | out e fs=>simp[opsC,obR]at h
 | run c fs=>
  cases c with
  | region id ops draw=>
   simp only[opsC]at h k
   cases hr:Y0 P (Spec P) n cs live names ops.toList draw st rs with
   | none=>rw[hr]at h;simp[obR]at h
   | some r=>
    obtain⟨st',obs,d⟩:=r;rw[hr]at h k;simp only[obR,Option.some.injEq,Prod.mk.injEq]at h;obtain⟨rfl,rfl⟩:=h;have:=awp_region (id:=id) (K:=kOf P Γ K fs) q.hn q.mix (q.hand hh) hr hO (Pz k);exact(by simpa using this:R3 P Γ (.region id ops draw) (kOf P Γ K fs) st)
  | _=>simp[opsC,obR]at h
theorem Ag{x:Mo}{st:St}{n:Nat}{H:List (Nat×Own)}(q:RgQ P Γ n H)(live names:List Nat)
  (k:GG P Γ K (nxC x) (nxS P (Spec P) n [] live names x st []))
  (h:obR (doR P (Spec P) n [] live names x st [])=some (True,true):=by kernel_rfl) (hh:(H.all fun x=>Dl x.1 names)=true:=by kernel_rfl):GG P Γ K x st:=gR q live names [] [] trivial k h hh
def isRun:Mo→Bool | .run _ _=>true|_=>false
theorem Kw{x:Mo}{st st':St}(h:Le Γ st st')
  (k:GG P Γ K x st')
  (hx:isRun x=true:=by kernel_rfl):GG P Γ K x st:=by
 cases x with
 | run c fs=>exact awp_le h k
 | out e fs=>cases hx
theorem Nw{x:Mo}{st:St}(st':St)
  (k:GG P Γ K x st')
  (h:st=st':=by kernel_rfl):GG P Γ K x st:=h▸k
def condV(x:Mo)(st:St):AV:=match x with | .run (.cond c _ _) _=>evA st.get c|_=>.any
def brC(b:Bool):Mo→Mo
 | .run (.cond _ c d) fs=>inC (bif b then c else d) fs
 | x=>x
theorem gC{x:Mo}{st:St}{R:Type}{b:Bool}{m1 m2:Option R}{r:R}(h:(bif b then m1 else m2)=some r)
  (kt:m1=some r→GG P Γ K (brC true x) st) (kf:m2=some r→GG P Γ K (brC false x) st)
  (hv:condV x st = .bool b:=by kernel_rfl):GG P Γ K x st:=by
 cases x with
 | out e fs=>cases hv
 | run c fs=>
  cases c with
  | cond c y z=>
   refine awp_cond b hv (fun hb=>Jf (n:=400) (kt ?_)) (fun hb=>Jf (n:=400) (kf ?_))
   ·subst hb;exact h
   ·subst hb;exact h
  | _=>cases hv
theorem gCt{x:Mo}{st:St}(b:Bool)
  (k:GG P Γ K (brC b x) st)
  (hv:condV x st = .bool b:=by kernel_rfl):GG P Γ K x st:=by
 cases x with
 | out e fs=>cases hv
 | run c fs=>
  cases c with
  | cond c y z=>
   refine awp_cond b hv (fun hb=>Jf (n:=400) ?_) (fun hb=>Jf (n:=400) ?_)
   ·subst hb;exact k
   ·subst hb;exact k
  | _=>cases hv
theorem gK{x:Mo}{st:St}{e:Exit}(h:K e st)(hx:x = .out e []:=by kernel_rfl):GG P Γ K x st:=by subst hx;exact h
def aG(Γ:H0)(e0:Exit)(og:St):Exit→St→Prop:=fun e st=>e=e0∧Le Γ st og
def aR(K:Exit→St→Prop):Exit→St→Prop:=fun e st=>e = .ret∧K e st
theorem Br{e0:Exit}{og st:St}(h:Le Γ st og):aG Γ e0 og e0 st:=⟨rfl,h⟩
theorem La{st:St}(h:K .ret st):aR K .ret st:=⟨rfl,h⟩
def isN:Exit→Bool | .normal=>true|_=>false
theorem gN{S X:Type}{x:Mo}{st:St}{H:S→St}{KX:X→Exit→St→Prop}{s':S}(h:Le Γ st (H s'))(hx:x = .out .normal []:=by kernel_rfl):GG P Γ (Om Γ H KX (.next s')) x st:=by
 subst hx;exact⟨rfl,h⟩
theorem gO{S X:Type}{x:Mo}{st:St}{H:S→St}{KX:X→Exit→St→Prop}{y:X}{e:Exit}(h:KX y e st)(hx:x = .out e []:=by kernel_rfl)(hn:isN e=false:=by kernel_rfl):GG P Γ (Om Γ H KX (.done y)) x st:=by
 subst hx;exact⟨(by rintro rfl;cases hn),h⟩
def fK(P:Program)(Γ:H0)(rs:List ResultVar)(H:List (Nat×Own))(res:AV)(H':List (Nat×Own)):Exit→St→Prop:=clK Γ (retK P rs H res H')
theorem I4{rs:List ResultVar}{H H':List (Nat×Own)}{res:AV}{st st':St}{e:Exit}(ρ:List (Nat×Nat))(hl:Le Γ st st')(hr:retOf P rs ρ H st'=some (res,H'):=by kernel_rfl)
  (he:(match e with | .ret=>true | .normal=>true|_=>false)=true:=by kernel_rfl):fK P Γ rs H res H' e st:=by
 refine⟨st',hl,?_,ρ,hr⟩
 cases e with
 | ret=>exact .inl rfl
 | normal=>exact .inr rfl
 | _=>cases he
theorem C7{rs:List ResultVar}{H H':List (Nat×Own)}{res:AV}{x:Mo}{st:St}(ρ:List (Nat×Nat))(hr:retOf P rs ρ H st=some (res,H'):=by kernel_rfl)
  (hx:x = .out .ret []:=by kernel_rfl):GG P Γ (fK P Γ rs H res H') x st:=gK (e:=.ret) (I4 ρ (Le.refl _ _) hr) hx
def bodyOf(fn:Func):Code:=match fn.body with|some c=>c|none=>.skip
theorem Ae {f : FuncId} {fn : Func} {args : List AV} {H H' : List (Nat × Own)} {res : AV} (hm : P.follows .mixedOrders = true) (hf : P.funcs[f]? = some fn)
    (k : ∀ Γ : H0, RgQ P Γ fn.ntmps H → GG P Γ (fK P Γ fn.results.toList H res H') (inC (bodyOf fn) []) (Aaa args H))
    (hb : fn.body.isSome = true := by kernel_rfl) (hname : (fn.name == "runtime.NumGoroutine") = false := by kernel_rfl) (hlen : Nat.ble args.length fn.ntmps = true := by kernel_rfl) (hpl : plainB H = true := by kernel_rfl) : Spec P f args H res H' := by
  obtain ⟨c, hc⟩ := Option.isSome_iff_exists.1 hb
  have e : bodyOf fn = c := by unfold bodyOf; rw [hc]
  refine spec_of_awp hf hc hname hlen (fun Γ hn hΓ => ?_) hpl; have := k Γ ⟨hn, hm, hΓ⟩; rw [e] at this; exact awp_cl (Jf this)
theorem leq_of{st st':St}(h:st=st'):Le Γ st st':=h▸Le.refl Γ st
def isLoop:Mo→Bool | .run (.loop _) _=>true|_=>false
def bodyC:Mo→Mo
 | .run (.loop c) _=>inC c []
 | x=>x
def outC(e:Exit):Mo→Mo
 | .run _ fs=>exC e fs
 | x=>x
def putS{α:Type}(k:Nat)(x:α):List (Nat×α)→List (Nat×α)
 | []=>[(k,x)]
 | (k',y)::l=>bif Nat.beq k k' then(k,x)::l else bif Nat.blt k k' then(k,x)::(k',y)::l else(k',y)::putS k x l
def putL{α:Type}:List (Nat×α)→List (Nat×α)→List (Nat×α)
 | [],l=>l
 | (k,x)::r,l=>putL r (putS k x l)
def Dx(st:St)(ts:List (Nat×AV))(os:List (Nat×Own))(fs:List (Nat×Fam):=[]):St:=⟨putL ts st.tmps,putL os st.own,putL fs st.fam⟩
def Mj(live names:List Nat)(st:St)(ts:List (Nat×AV))(os:List (Nat×Own))(fs:List (Nat×Fam):=[]):St:=A6 live names (Dx st ts os fs)
theorem gL{S X:Type}{x:Mo}{st:St}{n:Nat}{Hf:List (Nat×Own)}(q:RgQ P Γ n Hf){f:S→Option (LR S X)}{s0:S}{y:X}(hx:Ah f s0=some y)(live names:List Nat)(H:St→S→St)(KX:St→X→Exit→St→Prop)
  (kb:∀ s y,f s=some y→GG P Γ (Om Γ (H (A6 live names st)) (KX (A6 live names st)) y) (bodyC x) (H (A6 live names st) s)) (ko:∀ e st',KX (A6 live names st) y e st'→GG P Γ K (outC e x) st')
  (h0:A6 live names st=H (A6 live names st) s0:=by kernel_rfl) (hl:isLoop x=true:=by kernel_rfl) (hh:(Hf.all fun x=>Dl x.1 names)=true:=by kernel_rfl):GG P Γ K x st:=by
 cases x with
 | out e fs=>cases hl
 | run c fs=>
  cases c with
  | loop c=>
   refine awp_le (st':=H (A6 live names st) s0) ?_ (awp_loop (H (A6 live names st)) f (KX (A6 live names st)) (fun s y hy=>Jf (kb s y hy)) hx fun e st' hk=>Pz (ko e st' hk));rw[← h0];exact Ca live names q rfl hh
  | _=>cases hl
theorem gL0{S X:Type}{x:Mo}{st:St}{f:S→Option (LR S X)}{s0:S}{y:X}(hx:Ah f s0=some y)(H:St→S→St)(KX:St→X→Exit→St→Prop)
  (kb:∀ s y,f s=some y→GG P Γ (Om Γ (H st) (KX st) y) (bodyC x) (H st s)) (ko:∀ e st',KX st y e st'→GG P Γ K (outC e x) st')
  (h0:st=H st s0:=by kernel_rfl) (hl:isLoop x=true:=by kernel_rfl):GG P Γ K x st:=by
 cases x with
 | out e fs=>cases hl
 | run c fs=>
  cases c with
  | loop c=>exact awp_le (leq_of h0) (awp_loop (H st) f (KX st) (fun s y hy=>Jf (kb s y hy)) hx fun e st' hk=>Pz (ko e st' hk))
  | _=>cases hl
theorem gA{x:Mo}{f:Exit→Mo→Mo}{e0:Exit}{og:St}
  (k:GG P Γ K (f e0 x) og)
  (hr:isRun (f e0 x)=true:=by kernel_rfl):∀ e st',aG Γ e0 og e st'→GG P Γ K (f e x) st':=by
 rintro e st' ⟨rfl,hl⟩;exact Kw hl k hr
theorem gA'{x:Mo}{f:Exit→Mo→Mo}{e0:Exit}{og:St}(k:∀ st',Le Γ st' og→GG P Γ K (f e0 x) st'):∀ e st',aG Γ e0 og e st'→GG P Γ K (f e x) st':=by
 rintro e st' ⟨rfl,hl⟩;exact k st' hl
theorem Mr{x:Mo}{f:Exit→Mo→Mo}{K':Exit→St→Prop}(k:∀ st',K' .ret st'→GG P Γ K (f .ret x) st'):∀ e st',aR K' e st'→GG P Γ K (f e x) st':=by
 rintro e st' ⟨rfl,hl⟩;exact k st' hl
theorem gU{x:Mo}{st:St}(n:Nat)
  (k:GG P Γ K (match x with | .run (.loop c) fs=>inC c (.ag c n::fs)|x=>x) st)
  (hl:isLoop x=true:=by kernel_rfl):GG P Γ K x st:=by
 cases x with
 | out e fs=>cases hl
 | run c fs=>
  cases c with
  | loop c=>exact awp_unroll (n+1) (Jf k)
  | _=>cases hl
def isSeq:Mo→Bool | .run (.seq _ _) _=>true|_=>false
def headC:Mo→Mo
 | .run (.seq a _) _=>inC a []
 | x=>x
def restC(e:Exit):Mo→Mo
 | .run (.seq _ b) fs=>exC e (.nx b::fs)
 | x=>x
theorem gJ{X:Type}{x:Mo}{st:St}{m:Option X}{y:X}(hx:m=some y)(KX:X→Exit→St→Prop)
  (kb:∀ y,m=some y→GG P Γ (KX y) (headC x) st) (ko:∀ e st',KX y e st'→GG P Γ K (restC e x) st')
  (hs:isSeq x=true:=by kernel_rfl):GG P Γ K x st:=by
 cases x with
 | out e fs=>cases hs
 | run c fs=>
  cases c with
  | seq a b=>exact awp_seq (awp_join KX hx (fun y hy=>Jf (kb y hy)) fun e st' hk=>Pz (ko e st' hk))
  | _=>cases hs
def isScope:Mo→Bool | .run (.scope _) _=>true|_=>false
def scB:Mo→Code | .run (.scope c) _=>c|_=>.skip
def labC(c:Code)(l:Nat):Mo:=inC ((findLabel c l).getD .skip) []
theorem gS{S X:Type}{x:Mo}{st:St}{f0:Option (LR S X)}{f:S→Option (LR S X)}{y:X}(hx:Pq f0 f=some y)(lab:S→Nat)(H:S→St)(KX:X→Exit→St→Prop)
  (k0:∀ y,f0=some y→GG P Γ (Aac Γ (scB x) lab H KX y) (inC (scB x) []) st) (kb:∀ s y,f s=some y→GG P Γ (Aac Γ (scB x) lab H KX y) (labC (scB x) (lab s)) (H s)) (ko:∀ e st',KX y e st'→GG P Γ K (outC e x) st')
  (hs:isScope x=true:=by kernel_rfl):GG P Γ K x st:=by
 cases x with
 | out e fs=>cases hs
 | run c fs=>
  cases c with
  | scope c=>
   refine awp_scope lab H f0 f KX (fun y hy=>Jf (k0 y hy)) (fun s y rest hf hy=>?_) hx fun e st' hk=>Pz (ko e st' hk);have:=kb s y hy;unfold labC scB at this;rw[hf]at this;exact Jf this
  | _=>cases hs
theorem gJn{S X:Type}{x:Mo}{st:St}{c:Code}{lab:S→Nat}{H:S→St}{KX:X→Exit→St→Prop}{s':S}(h:Le Γ st (H s'))(hx:x = .out (.goto (lab s')) []:=by kernel_rfl)(hf:(findLabel c (lab s')).isSome=true:=by kernel_rfl) :
  GG P Γ (Aac Γ c lab H KX (.next s')) x st:=by
 subst hx;exact⟨rfl,hf,h⟩
theorem gJo{S X:Type}{x:Mo}{st:St}{c:Code}{lab:S→Nat}{H:S→St}{KX:X→Exit→St→Prop}{y:X}{e:Exit}(h:KX y e st)(hx:x = .out e []:=by kernel_rfl)
  (hf:(match e with | .goto l=>(findLabel c l).isNone|_=>true)=true:=by kernel_rfl):GG P Γ (Aac Γ c lab H KX (.done y)) x st:=by
 subst hx;refine⟨?_,h⟩;rintro l rfl
 simpa using hf
theorem Ox{α:Type}{st:St}(U:α→St→St){a b:α}(h:a=b)(h1:st=U a st:=by kernel_rfl):Le Γ st (U b st):=by subst h;exact leq_of h1
theorem leB{st:St}(F F':Bool→St→St)(g:Bool)(h1:st=F g st:=by kernel_rfl)(ht:F true st=F' true st:=by kernel_rfl)(hf:F false st=F' false st:=by kernel_rfl):Le Γ st (F' g st):=by
 refine leq_of (h1.trans ?_)
 cases g<;>assumption
def Own.withF(g:Nat→List AV):Own→Own
 | .arr sz e n _=>.arr sz e n g
 | o=>o
def arrAt(st:St)(nm:Nat):Option (Nat×(Nat→List AV)):=match Am st.own nm with|some (.arr _ _ n f)=>some (n,f)|_=>none
def setF(nm:Nat)(g:Nat→List AV)(st:St):St:=⟨st.tmps,(match Am st.own nm with|some o=>Dm st.own nm (o.withF g)|none=>st.own),st.fam⟩
theorem ownsLe_arr{nm sz n:Nat}{e:TypeId}{f g:Nat→List AV}(hp:∀ k,k<n→AVleL (f k) (g k)):∀{l:List (Nat×Own)},Am l nm=some (.arr sz e n f)→OwnsLe l (Dm l nm (.arr sz e n g))
 | [],h=>by cases h
 | (k,o)::l,h=>by
  simp only[Am]at h;simp only[Dm]
  cases hb:Nat.beq k nm with
  | true=>
   obtain rfl:=Nat.eq_of_beq_eq_true hb;rw[hb]at h;simp only[cond_true,Option.some.injEq]at h;subst h;exact .arr hp (.refl _)
  | false=>
   rw[hb]at h;exact .same (ownsLe_arr hp h)
theorem Pv{st:St}(nm:Nat){n:Nat}{f g:Nat→List AV}(hp:∀ k,k<n→AVleL (f k) (g k))(h:arrAt st nm=some (n,f):=by kernel_rfl):Le Γ st (setF nm g st):=by
 unfold arrAt at h;unfold setF
 cases ho:Am st.own nm with
 | none=>rw[ho]at h;cases h
 | some o=>
  rw[ho]at h
  cases o with
  | arr sz e n' f'=>
   simp only[Option.some.injEq,Prod.mk.injEq]at h;obtain⟨rfl,rfl⟩:=h;exact H3 (TmpsLe.refl _) (ownsLe_arr hp ho)
  | _=>cases h
def cellAt(st:St)(nm j:Nat):Option AV:=match Am st.own nm with|some (.row _ cells)=>cells[j]? | _=>none
def Own.withC(j:Nat)(x:AV):Own→Own
 | .row e cells=>.row e (cells.set j x)
 | o=>o
def setC(nm j:Nat)(x:AV)(st:St):St:=⟨st.tmps,(match Am st.own nm with|some o=>Dm st.own nm (o.withC j x)|none=>st.own),st.fam⟩
theorem leL_set{a b:AV}(h:AVle a b):∀{l:List AV} {j:Nat},l[j]?=some a→AVleL l (l.set j b)
 | [],j,h=>by simp at h
 | x::l,0,h'=>by
  simp only[List.getElem?_cons_zero,Option.some.injEq]at h';subst h';exact .cons h (.refl _)
 | x::l,j+1,h'=>by
  simp only[List.getElem?_cons_succ]at h';exact .cons (.refl _) (leL_set h h')
theorem ownsLe_row{nm:Nat}{e:TypeId}{x y:List AV}(hp:AVleL x y):∀{l:List (Nat×Own)},Am l nm=some (.row e x)→OwnsLe l (Dm l nm (.row e y))
 | [],h=>by cases h
 | (k,o)::l,h=>by
  simp only[Am]at h;simp only[Dm]
  cases hb:Nat.beq k nm with
  | true=>
   obtain rfl:=Nat.eq_of_beq_eq_true hb;rw[hb]at h;simp only[cond_true,Option.some.injEq]at h;subst h;exact .row hp (.refl _)
  | false=>
   rw[hb]at h;exact .same (ownsLe_row hp h)
theorem leC{st:St}(nm j:Nat){a b:AV}(hp:AVle a b)(h:cellAt st nm j=some a:=by kernel_rfl):Le Γ st (setC nm j b st):=by
 unfold cellAt at h;unfold setC
 cases ho:Am st.own nm with
 | none=>rw[ho]at h;cases h
 | some o=>
  rw[ho]at h
  cases o with
  | row e cells=>exact H3 (TmpsLe.refl _) (ownsLe_row (leL_set hp h) ho)
  | _=>cases h
theorem permN_nil{V:Type}:permN ([]:List (Int×V)) []:=⟨.nil,List.nodup_nil⟩
def setOb(nm:Nat)(x:AObj)(st:St):St:=⟨st.tmps,Dm st.own nm (.obj x),st.fam⟩
theorem leP{V:Type}{st:St}(nm:Nat)(nn:Bool)(k:IntKind){f:V→AV}{a b:List (Int×V)}(hp:permN a b)(h:Am st.own nm=some (.obj (.map nn k (mapE f a))):=by kernel_rfl)(hlt:Nat.blt nm Bc=true:=by kernel_rfl):Le Γ st (setOb nm (.pmap nn k (mapE f b)) st):=
 le_obj _ h (fun _ _ _ _ h=>objAt_perm hp h) hlt
theorem leQ{st:St}(nm:Nat)(k:IntKind)(l:List (Int×AV))(h:Am st.own nm=some (.obj (.pmap true k l)):=by kernel_rfl)(hlt:Nat.blt nm Bc=true:=by kernel_rfl):Le Γ st (setOb nm (.pmap false k l) st):=
 le_obj _ h (fun _ _ _ _ h=>objAt_pnn h) hlt
theorem gI(g:Bool):g=true→g=true:=id
theorem L2(c:Bool):c=true→(c==true)=true:=gT
theorem Kb(c:Bool):c=false→(c==false)=true:=gF
theorem B8{α:Type}(sz:Nat)(e:α→List AV)(d:α)(l:List α):AVle (.slice sz l.length (fun i=>(l.map e).getD i []) .exact) (AV.list sz e d l .exact):=av_lit rfl fun i h=>map_get l i h
theorem Et{α:Type}(sz:Nat)(e:α→List AV)(d:α):AVle (.slice 0 0 (fun _=>[]) .exact) (AV.list sz e d [] .exact):=F7
theorem J7{α:Type}(sz nm:Nat)(e:α→List AV)(d:α)(l m:List α):AVle (.slice sz (l.length+m.length) (Lh l.length (fun i=>e (l.getD i d)) (fun i=>e (m.getD i d))) (.own nm)) (AV.list sz e d (l++m) (.own nm)):=av_app
def mapOk(x:Mo)(ix tx bx:Nat):Bool:=
 match x with
 | .run (.loop (.seq (.region _ ops false) _)) _=>
  match ops.toList with
  | [o1,o2]=>
   (match o1.op,o2.op with | .next (.tmp a) false,.extract (.tmp b) 0=>Nat.beq a ix&&Nat.beq b tx|_,_=>false) &&
   (match o1.dst,o2.dst,o1.guard,o2.guard with|some a,some b,none,none=>Nat.beq a tx&&Nat.beq b bx|_,_,_,_=>false)
  | _=>false
 | _=>false
def Y7:Mo→Mo
 | .run (.loop (.seq _ c)) _=>inC c []
 | x=>x
theorem gMQ{S X:Type}{x:Mo}{st:St}{n:Nat}{Hf:List (Nat×Own)}(q:RgQ P Γ n Hf){len:Nat}{f:Nat→S→Option (LR S X)}{g:S→Option (LR S X)}{s0:S}(Q:X→Prop)(hx:∀ τ:List Nat,τ.Perm (List.range len)→∃ x,Tq f g τ s0=some x∧Q x)(live names:List Nat)(H:St→List Nat→S→St)(KX:St→X→Exit→St→Prop)
  (ix tx bx nm mm:Nat) (nn:Bool) (km:IntKind) (l:List (Int×AV)) (lv2 nm2:List Nat)
  (h0:A6 live names st=H (A6 live names st) [] s0:=by kernel_rfl) (hc:mapOk x ix tx bx=true:=by kernel_rfl) (hb:(Nat.blt tx n&&(Nat.blt bx n&&(Nat.blt nm Bc&&Nat.blt mm Bc)))=true:=by kernel_rfl)
  (hit:(fun z s=>(H (A6 live names st) z s).get ix)=(fun _ _=>AV.optr nm mm):=by kernel_rfl) (hmi:(fun z s=>Am (H (A6 live names st) z s).own nm)=(fun z _=>some (.obj (.miter (.omap mm) len z))):=by kernel_rfl)
  (hma:(fun z s=>Am (H (A6 live names st) z s).own mm)=(fun _ _=>some (.obj (.map nn km l))):=by kernel_rfl) (hlen:len=l.length:=by kernel_rfl) (hh:(Hf.all fun x=>Dl x.1 names)=true:=by kernel_rfl) (hh2:(Hf.all fun x=>Dl x.1 nm2)=true:=by kernel_rfl)
  (kd:∀ z s y,g s=some y→(∀ i,i<len→i∈z)→GG P Γ (Om Γ (H (A6 live names st) z) (KX (A6 live names st)) y) (Y7 x) (A6 lv2 nm2 (((H (A6 live names st) z s).upd (some tx) (.tuple [.bool false]) []).upd (some bx) (.bool false) [])))
  (kn:∀ z s i y,f i s=some y→i<len→i∉z→GG P Γ (Om Γ (H (A6 live names st) (i::z)) (KX (A6 live names st)) y) (Y7 x)
   (A6 lv2 nm2 (((H (A6 live names st) z s).upd (some tx) (.tuple [.bool true,.int km (l.getD i (0,.any)).1,(l.getD i (0,.any)).2]) [(nm,.obj (.miter (.omap mm) len (i::z)))]).upd (some bx) (.bool true) [])))
  (ko:∀ y,Q y→∀ e st',KX (A6 live names st) y e st'→GG P Γ K (outC e x) st'):GG P Γ K x st:=by
 unfold mapOk at hc
 split at hc
 ·rename_i id ops rest fs
  split at hc
  ·rename_i o1 o2 hops
   obtain rfl:ops = #[o1,o2]:=by apply Array.ext';simpa using hops
   simp only[Bool.and_eq_true]at hc;obtain⟨c1,c2⟩:=hc
   split at c1
   ·rename_i a b e1 e2
    split at c2
    ·rename_i a' b' e3 e4 e5 e6
     simp only[Bool.and_eq_true]at c1 c2;obtain rfl:=Nat.eq_of_beq_eq_true c1.1;obtain rfl:=Nat.eq_of_beq_eq_true c1.2;obtain rfl:=Nat.eq_of_beq_eq_true c2.1;obtain rfl:=Nat.eq_of_beq_eq_true c2.2;refine awp_le (st':=H (A6 live names st) [] s0) ?_ (awp_rangemQ Q len (H (A6 live names st)) f g (KX (A6 live names st)) (fun z s hg hf=>?_) hx fun y hy e st' hk=>Pz (ko y hy e st' hk))
     ·rw[← h0];exact Ca live names q rfl hh
     refine awp_seq (awp_nextm q lv2 nm2 e1 e3 e5 e2 e4 e6 hb (congrFun (congrFun hit z) s) (congrFun (congrFun hmi z) s) (congrFun (congrFun hma z) s) hlen hh2 (fun hall=>?_) (fun i hi hn=>?_))
     ·obtain⟨y,h⟩:=hg hall;exact Zo (Jf (kd z s y h hall)) (fun e st' hk=>.inl ⟨y,h,hk,hall⟩)
     ·obtain⟨y,h⟩:=hf i hi hn;exact Zo (Jf (kn z s i y h hi hn)) (fun e st' hk=>.inr ⟨i,y,h,hk,hi,hn⟩)
    ·cases c2
   ·cases c1
  ·cases hc
 ·cases hc
theorem gMP{S X:Type}{x:Mo}{st:St}{n:Nat}{Hf:List (Nat×Own)}(q:RgQ P Γ n Hf){len:Nat}{f:Nat→S→Option (LR S X)}{g:S→Option (LR S X)}{s0:S}{eqv:X→X→Prop}{y:X}(hx:Vm eqv len f g s0=some y)(live names:List Nat)(H:St→List Nat→S→St)(KX:St→X→Exit→St→Prop)
  (ix tx bx nm mm:Nat) (nn:Bool) (km:IntKind) (l:List (Int×AV)) (lv2 nm2:List Nat)
  (h0:A6 live names st=H (A6 live names st) [] s0:=by kernel_rfl) (hc:mapOk x ix tx bx=true:=by kernel_rfl) (hb:(Nat.blt tx n&&(Nat.blt bx n&&(Nat.blt nm Bc&&Nat.blt mm Bc)))=true:=by kernel_rfl)
  (hit:(fun z s=>(H (A6 live names st) z s).get ix)=(fun _ _=>AV.optr nm mm):=by kernel_rfl) (hmi:(fun z s=>Am (H (A6 live names st) z s).own nm)=(fun z _=>some (.obj (.miter (.omap mm) len z))):=by kernel_rfl)
  (hma:(fun z s=>Am (H (A6 live names st) z s).own mm)=(fun _ _=>some (.obj (.map nn km l))):=by kernel_rfl) (hlen:len=l.length:=by kernel_rfl) (hh:(Hf.all fun x=>Dl x.1 names)=true:=by kernel_rfl) (hh2:(Hf.all fun x=>Dl x.1 nm2)=true:=by kernel_rfl)
  (kd:∀ z s y,g s=some y→(∀ i,i<len→i∈z)→GG P Γ (Om Γ (H (A6 live names st) z) (KX (A6 live names st)) y) (Y7 x) (A6 lv2 nm2 (((H (A6 live names st) z s).upd (some tx) (.tuple [.bool false]) []).upd (some bx) (.bool false) [])))
  (kn:∀ z s i y,f i s=some y→i<len→i∉z→GG P Γ (Om Γ (H (A6 live names st) (i::z)) (KX (A6 live names st)) y) (Y7 x)
   (A6 lv2 nm2 (((H (A6 live names st) z s).upd (some tx) (.tuple [.bool true,.int km (l.getD i (0,.any)).1,(l.getD i (0,.any)).2]) [(nm,.obj (.miter (.omap mm) len (i::z)))]).upd (some bx) (.bool true) [])))
  (ko:∀ y',eqv y' y→∀ e st',KX (A6 live names st) y' e st'→GG P Γ K (outC e x) st'):GG P Γ K x st:=
 gMQ q (fun y'=>eqv y' y) (X6 hx) live names H KX ix tx bx nm mm nn km l lv2 nm2 h0 hc hb hit hmi hma hlen hh hh2 kd kn ko
theorem Ct{st st':St}(h:st=st':=by kernel_rfl):Le Γ st st':=h▸Le.refl Γ st
theorem ci{p q:Prop}(a:p)(b:q):p∧q:=⟨a,b⟩
theorem c1{p:Prop}(a:p):p∧True:=⟨a,trivial⟩
end
open Go.Shelf
def lays189_ren:Go.Shelf.Ren:=⟨fun|189=>99|125=>112|257=>111|128=>134|129=>135|294=>125|295=>126|296=>127|297=>128|298=>129|299=>130|216=>131|300=>132|301=>133|328=>142|329=>143|330=>144|331=>145|332=>146|215=>147|343=>148|n=>n,fun|28=>22|3=>3|46=>126|0=>0|51=>132|53=>45|4=>4|183=>141|182=>140|131=>144|5=>5|9=>9|218=>151|222=>155|228=>157|229=>76|n=>n,fun|n=>n⟩
theorem lays189:Go.Proofs.Lays.n189 Tryz.prog lays189_ren:={
 mixed:=by kernel_rfl
 f125:=Tryz.func112.trans (congrArg some (by kernel_rfl))
 f128:=Tryz.func134.trans (congrArg some (by kernel_rfl))
 f129:=Tryz.func135.trans (congrArg some (by kernel_rfl))
 f189:=Tryz.func99.trans (congrArg some (by kernel_rfl))
 f215:=Tryz.func147.trans (congrArg some (by kernel_rfl))
 f216:=Tryz.func131.trans (congrArg some (by kernel_rfl))
 f257:=Tryz.func111.trans (congrArg some (by kernel_rfl))
 f294:=Tryz.func125.trans (congrArg some (by kernel_rfl))
 f295:=Tryz.func126.trans (congrArg some (by kernel_rfl))
 f296:=Tryz.func127.trans (congrArg some (by kernel_rfl))
 f297:=Tryz.func128.trans (congrArg some (by kernel_rfl))
 f298:=Tryz.func129.trans (congrArg some (by kernel_rfl))
 f299:=Tryz.func130.trans (congrArg some (by kernel_rfl))
 f300:=Tryz.func132.trans (congrArg some (by kernel_rfl))
 f301:=Tryz.func133.trans (congrArg some (by kernel_rfl))
 f328:=Tryz.func142.trans (congrArg some (by kernel_rfl))
 f329:=Tryz.func143.trans (congrArg some (by kernel_rfl))
 f330:=Tryz.func144.trans (congrArg some (by kernel_rfl))
 f331:=Tryz.func145.trans (congrArg some (by kernel_rfl))
 f332:=Tryz.func146.trans (congrArg some (by kernel_rfl))
 f343:=Tryz.func148.trans (congrArg some (by kernel_rfl))
 t0:=Tryz.underlying0
 a0:=Tryz.isAgg0
 z0:=Tryz.sizeOf0
 v0:=Tryz.zeroValue0
 t3:=Tryz.underlying3
 a3:=Tryz.isAgg3
 z3:=Tryz.sizeOf3
 v3:=Tryz.zeroValue3
 t4:=Tryz.underlying4
 a4:=Tryz.isAgg4
 z4:=Tryz.sizeOf4
 v4:=Tryz.zeroValue4
 t5:=Tryz.underlying5
 a5:=Tryz.isAgg5
 z5:=Tryz.sizeOf5
 v5:=Tryz.zeroValue5
 t9:=Tryz.underlying9
 a9:=Tryz.isAgg9
 z9:=Tryz.sizeOf9
 v9:=Tryz.zeroValue9
 t28:=Tryz.underlying22
 a28:=Tryz.isAgg22
 z28:=Tryz.sizeOf22
 v28:=Tryz.zeroValue22
 t46:=Tryz.underlying126
 a46:=Tryz.isAgg126
 z46:=Tryz.sizeOf126
 v46:=Tryz.zeroValue126
 t51:=Tryz.underlying132
 a51:=Tryz.isAgg132
 z51:=Tryz.sizeOf132
 v51:=Tryz.zeroValue132
 t53:=Tryz.underlying45
 a53:=Tryz.isAgg45
 z53:=Tryz.sizeOf45
 v53:=Tryz.zeroValue45
 t131:=Tryz.underlying144
 a131:=Tryz.isAgg144
 z131:=Tryz.sizeOf144
 v131:=Tryz.zeroValue144
 t182:=Tryz.underlying140
 a182:=Tryz.isAgg140
 z182:=Tryz.sizeOf140
 v182:=Tryz.zeroValue140
 t183:=Tryz.underlying141
 a183:=Tryz.isAgg141
 z183:=Tryz.sizeOf141
 v183:=Tryz.zeroValue141
 t218:=Tryz.underlying151
 a218:=Tryz.isAgg151
 z218:=Tryz.sizeOf151
 v218:=Tryz.zeroValue151
 t222:=Tryz.underlying155
 a222:=Tryz.isAgg155
 z222:=Tryz.sizeOf155
 v222:=Tryz.zeroValue155
 t228:=Tryz.underlying157
 a228:=Tryz.isAgg157
 z228:=Tryz.sizeOf157
 v228:=Tryz.zeroValue157
 t229:=Tryz.underlying76
 a229:=Tryz.isAgg76
 z229:=Tryz.sizeOf76
 v229:=Tryz.zeroValue76 }
def laysNm215_ren:Go.Shelf.Ren:=⟨fun|15=>98|n=>n,fun|22=>22|3=>3|4=>4|n=>n,fun|n=>n⟩
theorem W5:Go.Proofs.Lays2.n15 Tryz.prog laysNm215_ren:={
 mixed:=by kernel_rfl
 f15:=Tryz.func98.trans (congrArg some (by kernel_rfl))
 t3:=Tryz.underlying3
 a3:=Tryz.isAgg3
 z3:=Tryz.sizeOf3
 v3:=Tryz.zeroValue3
 t4:=Tryz.underlying4
 a4:=Tryz.isAgg4
 z4:=Tryz.sizeOf4
 v4:=Tryz.zeroValue4
 t22:=Tryz.underlying22
 a22:=Tryz.isAgg22
 z22:=Tryz.sizeOf22
 v22:=Tryz.zeroValue22
 i3:=by kernel_rfl }
def laysNm220_ren:Go.Shelf.Ren:=⟨fun|20=>100|n=>n,fun|22=>22|3=>3|4=>4|0=>0|n=>n,fun|n=>n⟩
theorem laysNm220:Go.Proofs.Lays2.n20 Tryz.prog laysNm220_ren:={
 mixed:=by kernel_rfl
 f20:=Tryz.func100.trans (congrArg some (by kernel_rfl))
 t0:=Tryz.underlying0
 a0:=Tryz.isAgg0
 z0:=Tryz.sizeOf0
 v0:=Tryz.zeroValue0
 t3:=Tryz.underlying3
 a3:=Tryz.isAgg3
 z3:=Tryz.sizeOf3
 v3:=Tryz.zeroValue3
 t4:=Tryz.underlying4
 a4:=Tryz.isAgg4
 z4:=Tryz.sizeOf4
 v4:=Tryz.zeroValue4
 t22:=Tryz.underlying22
 a22:=Tryz.isAgg22
 z22:=Tryz.sizeOf22
 v22:=Tryz.zeroValue22
 i3:=by kernel_rfl }
open Go.Sort
section
variable {I:Nat→Nat→Prop} {θ:Nat→Option (Nat×Nat)} {w w':World}
theorem ownRel_nil(I:Nat→Nat→Prop)(θ:Nat→Option (Nat×Nat))(w:World):Iz I (Am []) θ w:=
 ⟨(fun _ _ _ h=>by cases h),(fun _ _ _ _ h=>by cases h),(fun _ _ _ _ _ h=>(h rfl).elim),(fun _ _ _ _ _ h=>by cases h),(fun _ _ h=>by cases h),(fun _ _ _ h=>by cases h)⟩
theorem repL_one{own:Nat→Option Own}{zs:Array Value}{x:AV}(h:RepL I own θ w zs.toList [x]):∃ v,zs = #[v]∧Rep I own θ w v x:=by
 obtain⟨l⟩:=zs
 cases h with
 | cons h1 h2=>cases h2;exact⟨_,rfl,h1⟩
theorem Uz(hb:Below w.heap.size w w')(hval:∀ b o,I b o→∃ u,w.cell? ⟨b,o,none⟩=some u){N:Nat→Nat→Prop}(hN:∀ b o,N b o→w.heap.size≤b∧∃ u,w'.cell? ⟨b,o,none⟩=some u) :
  Chg (Am []) θ I w (Am []) θ (fun b o=>I b o∨N b o) w':=
 have hcell:∀ b o,I b o→w'.cell? ⟨b,o,none⟩=w.cell? ⟨b,o,none⟩:=fun b o hi=>by
  obtain⟨u,hu⟩:=hval b o hi;exact World.cell?_of_block (a:=⟨b,o,none⟩) (hb.block b (M6 hu))
 {imm:=fun _ _ h=>.inl h,cell:=hcell,le:=fun _ _ h=>(by cases h),rel:=ownRel_nil _ _ _,
  valid:=fun b o hi=>by
   rcases hi with hi|hi
   ·obtain⟨u,hu⟩:=hval b o hi;exact⟨u,(hcell b o hi).trans hu⟩
   ·exact(hN b o hi).2,
  os:=hb.os,tape:=hb.tape,output:=hb.output,drawn:=fun h=>h.elim,grow:=hb.size,frame:=fun b hlt _=>hb.block b hlt,new:=fun _ _ _ h=>(h rfl).elim,
  immNew:=fun b o hi=>by
   rcases hi with hi|hi
   ·exact .inl hi
   ·exact .inr (.inl (hN b o hi).1) }
end
theorem Vx{w W:World}{g n:Nat}{os:Array Obj}{d:Array Int}(hb:Below w.heap.size w W)(hg:w.heap.size≤g):Below w.heap.size w (grow (putRow (Value.int .i64) (Sort.ahead W n) g 0 d) os):=by
 have k:=grownBy_sortedI (w:=W) (g:=g) (n:=n) (os:=os) d;refine hb.trans ⟨k.os,k.tape,k.output,k.size,fun b hlt=>k.block b (Nat.lt_of_lt_of_le hlt hb.size) (fun e=>?_)⟩;have:=OI e;omega
def Own3(w W:World)(g cap n:Nat)(zs:List Int):Prop:=
 Below w.heap.size w W∧w.heap.size≤g∧∃ cur,W.heap[g]?=some (.cells cur 3 (0,0))∧n≤cap∧cap≤maxLen∧cur.size=cap∧cur.toList.take zs.length=zs.map (Value.int .i64)∧zs.length=n
theorem own3_of{w W:World}{v:Value}{n:Nat}{zs:List Int}(h:W.ownsRow w.heap.size 3 1 v n (zs.map (Value.int .i64)))(hne:v≠.slice none 0 0)(hb:Below w.heap.size w W):∃ g cap,v = .slice (some ⟨g,0,none⟩) n cap∧Own3 w W g cap n zs:=by
 have hl:zs.length=n:=by have:=h.1;simpa using this
 rcases h.2 with⟨rfl,_⟩|⟨g,cap,cur,rfl,hg,hcur,hcap,hmax,hsz,ht⟩
 ·exact(hne rfl).elim
 ·rw[Nat.mul_one]at hsz ht;exact⟨g,cap,rfl,hb,hg,cur,hcur,hcap,hmax,hsz,by rw[hl];exact ht,hl⟩
theorem c_clone0(ad:Addr)(c:Nat)(w:World):Calls Tryz.prog 98 #[.slice (some ad) 0 c] w fun e W=>∃ g cap,e = .returned (.slice (some ⟨g,0,none⟩) 0 cap)∧Own3 w W g cap 0 []:=
 (Any.slices_Clone_int_zero W5 ad c w).mono fun e W ⟨v,he,hown,hne,hb⟩=>by
  obtain⟨g,cap,rfl,h⟩:=own3_of (zs:=[]) hown hne hb;exact⟨g,cap,he,h⟩
theorem c_clone(b off n c:Nat)(zs:List Int)(w:World)(hz:zs.length=n)(hbig:n≤17592186044416)(hc:∀ j,j<n→w.cell? ⟨b,off+j,none⟩=some (.int .i64 (zs.getD j 0))) :
  Calls Tryz.prog 98 #[.slice (some ⟨b,off,none⟩) n c] w fun e W=>∃ g cap,e = .returned (.slice (some ⟨g,0,none⟩) n cap)∧Own3 w W g cap n zs:=
 (Any.slices_Clone_int W5 b off n c zs w (by omega) (by omega) (fun j hj=>hc j (by omega))).mono fun e W ⟨v,he,hown,hne,hb⟩=>by
  rw[show zs.take n=zs by rw[← hz];exact List.take_length ..]at hown;obtain⟨g,cap,rfl,h⟩:=own3_of hown hne hb;exact⟨g,cap,he,h⟩
theorem c_sort{w W:World}{g cap n:Nat}{zs:List Int}(h:Own3 w W g cap n zs)(hbig:n≤17592186044416):Calls Tryz.prog 99 #[.slice (some ⟨g,0,none⟩) n cap] W fun e W2=>e = .returned (.tuple #[])∧Own3 w W2 g cap n (zs.mergeSort fun x y=>decide (x≤y)):=by
 obtain⟨hb,hg,cur,hcur,hcap,hmax,hsz,ht,rfl⟩:=h;refine(Any.slices_Sort_int lays189 g 0 cap zs W (holds_of_blockI hcur ht) (Ud hcur) (by omega)).mono fun e W2 ⟨he,q,os,hW⟩=>⟨he,?_⟩;subst hW;have hl:(zs.mergeSort fun x y=>decide (x≤y)).length=zs.length:=List.length_mergeSort ..;have b2:=Vx (n:=q) (os:=os) (d:=(zs.mergeSort fun x y=>decide (x≤y)).toArray) hb hg;exact⟨b2,hg,_,heap_sortedI _ hcur,hcap,hmax,by simp[putCells,hsz],take_putCellsI cur _ (by omega),hl⟩
theorem c_compact{w W:World}{g cap n:Nat}{zs:List Int}(h:Own3 w W g cap n zs)(hbig:n≤17592186044416):Calls Tryz.prog 100 #[.slice (some ⟨g,0,none⟩) n cap] W fun e W2=>e = .returned (.slice (some ⟨g,0,none⟩) (Lib.compact zs).length cap)∧Own3 w W2 g cap (Lib.compact zs).length (Lib.compact zs):=by
 obtain⟨hb,hg,cur,hcur,hcap,hmax,hsz,ht,rfl⟩:=h;refine(Any.slices_Compact_int laysNm220 g 0 cap zs W (holds_of_blockI hcur ht) (by omega) hcap).mono fun e W2 ⟨he,q,hW⟩=>⟨he,?_⟩;subst hW;have hcl:=Lib.compact_length_le zs
 generalize Lib.compact zs=cs at hcl ⊢
 generalize hts:cs++List.replicate (zs.length-cs.length) (0:Int)=ts
 have htl:ts.length=zs.length:=by rw[← hts,List.length_append,List.length_replicate];omega
 have b2:=Vx (n:=q) (os:=#[]) (d:=ts.toArray) hb hg;have h2:=heap_sortedI (n:=q) (os:=#[]) ts.toArray hcur;rw[grow_empty]at b2 h2;have h3:=take_putCellsI cur ts (by omega);refine⟨b2,hg,_,h2,by omega,hmax,by simp[putCells,hsz],?_,rfl⟩;have:=congrArg (List.take cs.length) h3;rw[List.take_take,Nat.min_eq_left (by omega),← List.map_take,← hts,List.take_left' rfl]at this;rw[← hts];exact this
def IntsOut(w w':World)(v:Value)(r:List Int):Prop:=
 (v = .slice none 0 0∧r=[])∨∃ g cap,v = .slice (some ⟨g,0,none⟩) r.length cap∧Own3 w w' g cap r.length r
set_option maxHeartbeats 4000000 in
set_option maxRecDepth 100000 in
theorem w_rising(a:Option Addr)(n c:Nat)(zs:List Int)(w:World)(hz:zs.length=n)(hn:a=none→n=0)(hbig:n≤17592186044416)
  (hc:0<n→∃ b off,a=some ⟨b,off,none⟩∧∀ j,j<n→w.cell? ⟨b,off+j,none⟩=some (.int .i64 (zs.getD j 0))) :
  Calls Tryz.prog 74 #[.slice a n c] w fun e w'=>∃ v,e = .returned v∧Below w.heap.size w w'∧IntsOut w w' v (Lib.compact (zs.mergeSort fun x y=>decide (x≤y))):=by
 cases a with
 | none=>
  obtain rfl:=hn rfl;obtain rfl:zs=[]:=List.length_eq_zero_iff.1 hz
  have hr:Lib.compact (([]:List Int).mergeSort fun x y=>decide (x≤y))=[]:=by simp[Lib.compact,Lib.compactUpTo]
  rw[hr];have h1:Calls Tryz.prog 98 #[.slice none 0 c] w fun e w'=>e = .returned (.slice none 0 0)∧w'=w:=Any.slices_Clone_int_nil W5 0 c w;have h2:Calls Tryz.prog 99 #[.slice none 0 0] w fun e w'=>e = .returned (.tuple #[])∧w'=w:=Any.slices_Sort_int_none lays189 none 0 w;have h3:Calls Tryz.prog 100 #[.slice none 0 0] w fun e w'=>e = .returned (.slice none 0 0)∧w'=w:=Any.slices_Compact_int_empty laysNm220 none 0 w
  go_enter Tryz.func74,Tryz.ntmps74
  go_wp2_with (first
   | (go_at_call 98;refine h1.mono ?_;rintro e W ⟨rfl,rfl⟩)
   | (go_at_call 99;refine h2.mono ?_;rintro e W ⟨rfl,rfl⟩)
   | (go_at_call 100;refine h3.mono ?_;rintro e W ⟨rfl,rfl⟩))
  go_ret
  exact⟨_,rfl,Below.refl _ _,.inl ⟨rfl,rfl⟩⟩
 | some ad=>
  have h1:Calls Tryz.prog 98 #[.slice (some ad) n c] w fun e W=>∃ g cap,e = .returned (.slice (some ⟨g,0,none⟩) n cap)∧Own3 w W g cap n zs:=by
   by_cases h0:n=0
   ·subst h0;obtain rfl:zs=[]:=List.length_eq_zero_iff.1 hz;exact c_clone0 ad c w
   ·obtain⟨b,off,hab,hcell⟩:=hc (by omega);obtain rfl:=OI hab;exact c_clone b off n c zs w hz hbig hcell
  go_enter Tryz.func74,Tryz.ntmps74
  go_wp2_with (first
   | (go_at_call 98;refine h1.mono ?_;rintro e W ⟨g,cap,rfl,hO⟩)
   | (go_at_call 99;refine(c_sort hO hbig).mono ?_;rintro e W2 ⟨rfl,hO2⟩)
   | (go_at_call 100;refine(c_compact hO2 hbig).mono ?_;rintro e W3 ⟨rfl,hO3⟩))
  go_ret
  exact⟨_,rfl,hO3.1,.inr ⟨_,_,rfl,hO3⟩⟩
def Ww(l:List Int):Option (List Int):=Ba (l.length≤17592186044416) (some (Lib.compact (l.mergeSort fun x y=>decide (x≤y))))
theorem xok_rising(l r:List Int)(h:Ww l=some r):Spec Tryz.prog 74 [AV.list 1 (fun x=>[.int .i64 x]) (0:Int) l .none] [] (AV.list 1 (fun x=>[.int .i64 x]) (0:Int) r .none) []:=by
 obtain⟨hlen,h⟩:=Aa h;obtain rfl:=OI h;refine⟨enters_of Tryz.func74 (by kernel_rfl) rfl,fun w I θ zs hargs _ hval _=>?_⟩;obtain⟨v,rfl,hv⟩:=repL_one hargs;obtain⟨_,a,cap,us,rfl,hcap,hmax,hz,hnn,h1,hl,hr⟩:=hv.slice_val.slice_inv
 have hint:∀ i,i<l.length→us i = .int .i64 (l.getD i 0):=fun i hi=>by
  have:=hr i 0 hi (by omega);rw[Nat.mul_one,Nat.add_zero]at this;have h2:RepV I w (us i) (.int .i64 (l.getD i 0)):=this;exact Rep.int_inv (own:=Am []) (θ:=θ) (.val _ _ h2)
 refine(w_rising a l.length cap l w rfl (fun ha=>by have:=hnn ha;omega) hlen (fun hp=>?_)).mono fun e w' ⟨v,he,hb,hout⟩=>?_
 ·obtain⟨b,rfl,hs,_,hcell⟩:=hz hp;obtain⟨blk,off,spot⟩:=b;simp only at hs hcell;subst hs;exact⟨blk,off,rfl,fun j hj=>by rw[hcell j (by omega),hint j hj]⟩
 ·generalize Lib.compact (l.mergeSort fun x y=>decide (x≤y))=r at hout ⊢
  rcases hout with⟨rfl,rfl⟩|⟨g,cap',rfl,_,hg,cur,hcur,hc1,hc2,hc3,htake,_⟩
  ·exact⟨_,_,θ,he,Uz hb hval (N:=fun _ _=>False) (fun _ _ h=>h.elim),.val _ _ (.slice none 0 0 1 _ (fun _=>undef) (Nat.le_refl _) (Nat.zero_le _) (fun h=>by cases h) (fun _=>rfl) (fun j hj=>by simp at hj) (fun i hi=>by cases hi) (fun i c hi=>by cases hi))⟩
  ·have hcell:∀ j,j<r.length→w'.cell? ⟨g,j,none⟩=some (.int .i64 (r.getD j 0)):=fun j hj=>by
    rw[cell_of_row _ _ _ cur 3 (0,0) hcur]
    have h2:(cur.toList.take r.length)[j]?=(r.map (Value.int .i64))[j]?:=by rw[htake]
    rw[List.getElem?_take_of_lt hj,Array.getElem?_toList]at h2;rw[h2];simp[List.getD,hj]
   refine⟨_,_,θ,he,Uz hb hval (N:=fun b o=>b=g∧o<r.length) (fun b o ⟨hbg,ho⟩=>⟨by omega,by subst hbg;exact⟨_,hcell o ho⟩⟩),.val _ _ (.slice (some ⟨g,0,none⟩) r.length cap' 1 _ (fun j=>.int .i64 (r.getD j 0)) hc1 hc2 (fun _=>⟨⟨g,0,none⟩,rfl,rfl,fun j hj=>.inr ⟨rfl,by simpa using hj⟩,fun j hj=>by rw[Nat.zero_add];exact hcell j (by omega)⟩) (fun h=>by cases h) (fun _ _=>rfl) (fun _ _=>rfl) (fun i c hi hc=>?_))⟩
   obtain rfl:c=0:=by omega
   rw[Nat.mul_one,Nat.add_zero];exact .int _ _
end
end Go.Proofs.YtggpeloimmlkgaaGreat
