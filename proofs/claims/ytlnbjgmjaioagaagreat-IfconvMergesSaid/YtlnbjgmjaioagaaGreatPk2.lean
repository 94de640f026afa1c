/-
  The machine, the program's functions and the laws' arithmetic: part 2 of 6.
-/
import Derived.Test.YtlnbjgmjaioagaaGreatPk1
import Derived.BigCall
import Derived.Lib.RowBridge
import Derived.Orders
import Derived.Shelf.Slices.Clone
import Derived.Shelf.Slices.CompactI
import Derived.Shelf.Slices.In.SortNone
import Derived.Shelf.Sort.Plain
import Derived.Shelf.Spec.SlicesInsertGrow
import Derived.Sort.OwnSortedInts
import Derived.Test.YtlnbjgmjaioagaaGreatProg
set_option linter.unusedSectionVars false
set_option linter.unusedVariables false
set_option linter.unusedSimpArgs false
namespace Go.Proofs.YtlnbjgmjaioagaaGreat
noncomputable section
open Go Go.RowKit
def Spec(P:Program):JI:=λf args H res H'=>
 (∀(az:Array Value) (w:World),(callFunc f az).run P w = .ok (.enter f az) w) /\
 ∀(w:World) (I:Nat->Nat->Prop) (θ:Nat->Option (Nat×Nat)) (az:Array Value),RepL I (Ai H) θ w az.toList args->Kr I (Ai H) θ w->(∀ b o,I b o->∃ u,w.cell? ⟨b,o,none⟩=some u)->GOk I w->
  Calls P f az w λe w'=>∃ v I' θ',e = .returned v/\Chg (Ai H) θ I w (Ai H') θ' I' w'/\Rep I' (Ai H') θ' w' v res
theorem Bj(ρ:List (Nat×Nat))(l:List AV):(AV.renAll ρ l).length=l.length:=by induction l with|nil=>rfl|cons x l ih=>simp[AV.renAll,ih]
theorem Mh(ρ:List (Nat×Nat))(l:List AV)(j:Nat):(AV.renAll ρ l).getD j .any=(l.getD j .any).ren ρ:=by
 induction l generalizing j with
 | nil=>rfl
 | cons x l ih=>cases j with
  | zero=>rfl
  | succ j=>simp_all [AV.renAll]
theorem RepV.ren{I:Nat->Nat->Prop}{w:World}{v:Value}{x:AV}(h:RepV I w v x)(ρ:List (Nat×Nat)):RepV I w v (x.ren ρ):=by
 induction h with
 | any v=>exact .any v
 | undef=>exact .undef
 | int k n=>exact .int k n
 | bool b=>exact .bool b
 | str s=>exact .str s
 | clo f=>exact .clo f
 | nxt1 i r=>exact .nxt1 i r
 | nxt0 i r=>exact .nxt0 i r
 | nilq b pos n h=>exact .nilq b pos n h
 | err0=>exact .err0
 | err1 t v=>exact .err1 t v
 | nilp=>exact .nilp
 | nilm=>exact .nilm
 | cond v c x _ h' ih=>exact .cond v c _ ih h'
 | rptr a cells us hs hI' hc h1 hr _=>exact .rptr a _ us hs hI' hc h1 hr
 | slice a n cap sz f us hcap hmax hz hn h1 hl hr _=>exact .slice a n cap sz f us hcap hmax hz hn h1 hl hr
 | agg vs cs hl h1 _ ih=>exact .agg vs _ (by rw[Bj,hl]) (λj hj=>h1 j (by rwa[Bj]at hj)) (λj hj=>by grind [Bj,Mh])
 | tuple vs cs hl _ ih=>exact .tuple vs _ (by rw[Bj,hl]) (λj hj=>by grind [Bj,Mh])
theorem Rep.ren{I:Nat->Nat->Prop}{own own':Nat->Option Own}{θ θ':Nat->Option (Nat×Nat)}{w:World}{v:Value}{x:AV}(h:Rep I own θ w v x)(ρ:List (Nat×Nat))
  (ho:∀ nm k o,Ai ρ nm=some k->own nm=some o->own' k=some (o.ren ρ)/\θ' k=θ nm):Rep I own' θ' w v (x.ren ρ):=by
 induction h with
 | val v x h=>exact .val _ _ (h.ren ρ)
 | exact a n sz f h=>exact .exact a n sz f h
 | own nm sz e m a n cap f hn hm hv h=>
  simp only[AV.ren]
  cases hk:Ai ρ nm with
  | some k=>
   obtain⟨h1,h2⟩:=ho nm k _ hk hn;exact .own k sz e m a n cap f h1 hm (by grind) h
  | none=>exact .val _ _ h
 | fam b i sz e m a n cap f hi hn hm hv h=>exact .val _ _ h
 | ptr nm off e cells g c hn hg=>
  simp only[AV.ren]
  cases hk:Ai ρ nm with
  | some k=>
   obtain⟨h1,h2⟩:=ho nm k _ hk hn;exact .ptr k off e _ g c h1 (h2.trans hg)
  | none=>exact .val _ _ (.any _)
 | vsl nm sz e m f a n cap hn hm hcap hmax hnn hv=>
  simp only[AV.ren]
  cases hk:Ai ρ nm with
  | some k=>
   obtain⟨h1,h2⟩:=ho nm k _ hk hn;exact .vsl k sz e m _ a n cap h1 hm hcap hmax hnn (by grind)
  | none=>exact .val _ _ (.any _)
 | vpt nm sz e m f n i j ad hn hm hi hv=>
  simp only[AV.ren]
  cases hk:Ai ρ nm with
  | some k=>
   obtain⟨h1,h2⟩:=ho nm k _ hk hn;exact .vpt k sz e m _ n i j ad h1 hm hi (by grind)
  | none=>exact .val _ _ (.any _)
 | clo f fs cs xs ys hl hl' _ _ ih ih'=>exact .clo f fs cs _ _ (by rw[Bj,hl]) (by rw[Bj,hl']) (λj hj=>by grind [Bj,Mh]) (λj hj=>by grind [Bj,Mh])
 | vsub nm sz e m f n lo hi a cap hn hm hlo hhi hcap hmax hnn hv=>
  simp only[AV.ren]
  cases hk:Ai ρ nm with
  | some k=>
   obtain⟨h1,h2⟩:=ho nm k _ hk hn;exact .vsub k sz e m _ n lo hi a cap h1 hm hlo hhi hcap hmax hnn (by grind)
  | none=>exact .val _ _ (.any _)
 | optr nm mm x g c hn hg=>
  simp only[AV.ren]
  cases hk:Ai ρ nm with
  | some k=>
   obtain⟨h1,h2⟩:=ho nm k _ hk hn;exact .optr k _ _ g c h1 (h2.trans hg)
  | none=>exact .val _ _ (.any _)
 | omap nm x hn=>
  simp only[AV.ren]
  cases hk:Ai ρ nm with
  | some k=>
   obtain⟨h1,h2⟩:=ho nm k _ hk hn;rw[<- h2];exact .omap k _ h1
  | none=>exact .val _ _ (.any _)
 | cond v c x _ h' ih=>exact .cond v c _ ih h'
 | agg vs cs hl h1 _ ih=>exact .agg vs _ (by rw[Bj,hl]) (λj hj=>h1 j (by rwa[Bj]at hj)) (λj hj=>by grind [Bj,Mh])
 | tuple vs cs hl _ ih=>exact .tuple vs _ (by rw[Bj,hl]) (λj hj=>by grind [Bj,Mh])
 | rpo a cells us hs hI' hc h1 _ ih=>exact .rpo a _ us hs (λj hj=>hI' j (by rwa[Bj]at hj)) (λj hj=>hc j (by rwa[Bj]at hj)) (λj hj=>h1 j (by rwa[Bj]at hj)) (λj hj=>by grind [Bj,Mh])
theorem RepL.ren{I:Nat->Nat->Prop}{own own':Nat->Option Own}{θ θ':Nat->Option (Nat×Nat)}{w:World}{l:List Value}{m:List AV}(h:RepL I own θ w l m)(ρ:List (Nat×Nat))
  (ho:∀ nm k o,Ai ρ nm=some k->own nm=some o->own' k=some (o.ren ρ)/\θ' k=θ nm):RepL I own' θ' w l (m.map (AV.ren ρ)):=by
 induction h with
 | nil=>exact .nil
 | cons h _ ih=>exact .cons (h.ren ρ ho) ih
theorem Kv(l:List AV):(AV.looseAll l).length=l.length:=by induction l with|nil=>rfl|cons x l ih=>simp[AV.looseAll,ih]
theorem GS(l:List AV)(j:Nat):(AV.looseAll l).getD j .any=(l.getD j .any).loose:=by
 induction l generalizing j with
 | nil=>rfl
 | cons x l ih=>cases j with
  | zero=>rfl
  | succ j=>simp_all [AV.looseAll]
theorem RepV.loose{I:Nat->Nat->Prop}{w:World}{v:Value}{x:AV}(h:RepV I w v x):RepV I w v x.loose:=by
 induction h with
 | agg vs cs hl h1 _ ih=>exact .agg vs _ (by rw[Kv,hl]) (λj hj=>h1 j (by rwa[Kv]at hj)) (λj hj=>by grind [GS,Kv])
 | any v=>exact .any v
 | undef=>exact .undef
 | int k n=>exact .int k n
 | bool b=>exact .bool b
 | str s=>exact .str s
 | clo f=>exact .clo f
 | nxt1 i r=>exact .nxt1 i r
 | nxt0 i r=>exact .nxt0 i r
 | nilq b pos n h=>exact .nilq b pos n h
 | err0=>exact .err0
 | err1 t v=>exact .err1 t v
 | nilp=>exact .nilp
 | nilm=>exact .nilm
 | cond v c x h h'=>exact .cond v c x h h'
 | rptr a cells us hs hI hc h1 hr=>exact .rptr a _ us hs hI hc h1 hr
 | slice a n cap sz f us hcap hmax hz hn h1 hl hr=>exact .slice a n cap sz f us hcap hmax hz hn h1 hl hr
 | tuple vs cs hl hr=>exact .tuple vs cs hl hr
theorem Rep.loose{I:Nat->Nat->Prop}{own:Nat->Option Own}{θ:Nat->Option (Nat×Nat)}{w:World}{v:Value}{x:AV}(h:Rep I own θ w v x):Rep I own θ w v x.loose:=by
 induction h with
 | val v x h=>exact .val _ _ h.loose
 | exact a n sz f h=>exact .val _ _ h
 | own nm sz e m a n cap f ho hm hv h=>exact .own nm sz e m a n cap f ho hm hv h
 | fam b i sz e m a n cap f hi ho hm hv h=>exact .fam b i sz e m a n cap f hi ho hm hv h
 | ptr nm off e cells g c ho hg=>exact .ptr nm off e _ g c ho hg
 | vsl nm sz e m f a n cap ho hm hcap hmax hn hv=>exact .vsl nm sz e m f a n cap ho hm hcap hmax hn hv
 | vpt nm sz e m f n i j ad ho hm hi hv=>exact .vpt nm sz e m f n i j ad ho hm hi hv
 | clo f fs cs xs ys hl hl' hr hr' _ _=>exact .clo f fs cs xs ys hl hl' hr hr'
 | vsub nm sz e m f n lo hi a cap ho hm hlo hhi hcap hmax hn hv=>exact .vsub nm sz e m f n lo hi a cap ho hm hlo hhi hcap hmax hn hv
 | optr nm mm x g c ho hg=>exact .optr nm mm x g c ho hg
 | omap nm x ho=>exact .omap nm x ho
 | cond v c x h h' _=>exact .cond v c x h h'
 | agg vs cs hl h1 _ ih=>exact .agg vs _ (by rw[Kv,hl]) (λj hj=>h1 j (by rwa[Kv]at hj)) (λj hj=>by grind [GS,Kv])
 | tuple vs cs hl hr _=>exact .tuple vs cs hl hr
 | rpo a cells us hs hI' hc h1 hr _=>exact .rpo a _ us hs hI' hc h1 hr
theorem RepL.loose{I:Nat->Nat->Prop}{own:Nat->Option Own}{θ:Nat->Option (Nat×Nat)}{w:World}{l:List Value}{m:List AV}(h:RepL I own θ w l m):RepL I own θ w l (m.map AV.loose):=by
 induction h with
 | nil=>exact .nil
 | cons h _ ih=>exact .cons h.loose ih
theorem N7{α:Type}{l:List (Nat×α)}{k:Nat}{v:α}(h:Ai l k=some v):(k,v)∈l:=by
 induction l with
 | nil=>cases h
 | cons x l ih=>
  simp only[Ai]at h
  grind [Ej]
theorem memB_mem{n:Nat}{l:List Nat}:B8 n l=true↔n∈l:=by
 induction l with
 | nil=>simp[B8]
 | cons k l ih=>
  simp only[B8,  zzL31]
  constructor
  ·grind [Ej]
  ·rintro(rfl|h)
   ·simp
   grind
theorem Oy{l:List Nat}(h:Y8 l=true):l.Nodup:=by
 induction l with
 | nil=>simp
 | cons k l ih=>
  simp only[Y8,A4]at h
  grind [memB_mem]
theorem Tq{α:Type}{l:List (Nat×α)}(hn:(l.map (·.1)).Nodup){k:Nat}{v:α}(h:(k,v)∈l):Ai l k=some v:=by
 induction l with
 | nil=>cases h
 | cons x l ih=>
  simp only[Ai];rcases zzL31.1 h with h|h
  ·cases h;simp
  grind [Ej]
theorem Xy{α:Type}{l:List (Nat×α)}{k:Nat}(h:k∉l.map (·.1)):Ai l k=none:=by
 cases hl:Ai l k with
 | none=>rfl
 | some v=>exact(h (zzL21.2 ⟨_,N7 hl,rfl⟩)).elim
def Lt(l:List (Nat×Nat)):List (Nat×Nat):=l.map λx=>(x.2,x.1)
theorem Ss{l:List (Nat×Nat)}(h1:(l.map (·.1)).Nodup)(h2:(l.map (·.2)).Nodup){k c:Nat}:Ai l k=some c↔Ai (Lt l) c=some k:=by
 have e:(Lt l).map (·.1)=l.map (·.2):=by simp[Lt]
 constructor
 ·intro h;exact Tq (by grind) (zzL21.2 ⟨_,N7 h,rfl⟩)
 ·intro h;obtain⟨x,hx,hx'⟩:=zzL21.1 (N7 h)
  grind [Tq]
theorem qu{α β:Type}(g:α->β)(l:List (Nat×α))(k:Nat):Ai (l.map λx=>(x.1,g x.2)) k=(Ai l k).map g:=by
 induction l with
 | nil=>rfl
 | cons x l ih=>
  grind [Ai]
theorem dk{l:List Nat}{own:Nat->Option Own}(h:QN (l.map own)=true):∀ n∈l,own n=none:=by
 induction l with
 | nil=>simp
 | cons k l ih=>
  grind [Cz,QN,zzL31]
theorem OE{own:Nat->Option Own}{tl:List (Option Own)}:∀{hs:List (Nat×Nat)} {H:List (Nat×Own)},DC hs (hs.map (λx=>own x.1)++tl)=some H->
  H.map (·.1)=hs.map (·.2)/\∀ c k,(c,k)∈hs->∃ o,own c=some o/\(k,o)∈H
 | [],H,h=>by grind [DC]
 | (c,k)::hs,H,h=>by
  simp only[Cz,IL]at h
  cases hc:own c with
  | none=>grind [DC]
  | some o=>
   rw[hc]at h;simp only[DC]at h
   cases hr:DC hs (hs.map (λx=>own x.1)++tl) with
   | none=>grind
   | some H'=>
    rw[hr]at h;simp only[Aw]at h;obtain⟨h1,h2⟩:=OE hr
    grind
section
variable {P:Program} {Γ:Hx} {σ:Sto} {I:Nat->Nat->Prop} {θ:Nat->Option (Nat×Nat)} {a:Act} {w:World} {o:Oper}
theorem lz{o o':Own}{t t':Option (Nat×Nat)}(ρ ρ':List (Nat×Nat))(h:OwnLe (o.ren ρ) t o' t'):OwnLe o t (o'.ren ρ') t':=by
 cases o<;>cases o'<;>trivial
theorem qO{own own':Nat->Option Own}{θ θ':Nat->Option (Nat×Nat)}{I I':Nat->Nat->Prop}{w w':World}(hrel:Kr I own θ w){co co':Nat->Option Own}{ct ct':Nat->Option (Nat×Nat)}
  {hs bk:List (Nat×Nat)} (k:Chg co ct I w co' ct' I' w')
  (hco:∀ n,co n≠none->∃ c o,(c,n)∈hs/\own c=some o/\co n=some (o.ren hs)/\ct n=θ c)
  (hhs:∀ c n o,(c,n)∈hs->own c=some o->co n=some (o.ren hs)/\ct n=θ c/\Ai bk n=some c)
  (hbk1:∀ n c,Ai bk n=some c->(∃ o,(c,n)∈hs/\own c=some o)\/own c=none)
  (hbk:∀ n c o,Ai bk n=some c->co' n=some o->own' c=some (o.ren bk)/\θ' c=ct' n)
  (hoth:∀ c,(∀ n,co' n≠none->Ai bk n≠some c)->own' c=own c/\θ' c=θ c) :
  Chg own θ I w own' θ' I' w':=by
 have hle:∀ nm o,own nm=some o->∃ o',own' nm=some o'/\OwnLe o (θ nm) o' (θ' nm):=λnm o ho=>by
  by_cases hx:∃ n,(nm,n)∈hs
  ·obtain⟨n,hn⟩:=hx;obtain⟨h1,h2,h3⟩:=hhs nm n o hn ho;obtain⟨o',ho',hl⟩:=k.le n _ h1
   grind [lz]
  ·obtain⟨h1,h2⟩:=hoth nm (λn hn hb=>by
    grind)
   exact⟨o,h1.trans ho,by rw[h2];exact .refl _ _⟩
 have hmono:∀ v x,Rep I own θ w v x->Rep I' own' θ' w' v x:=λv x h=>h.mono k.imm k.cell hle
 have hfar:∀ c g cc,(∀ n,co' n≠none->Ai bk n≠some c)->own c≠none->θ c=some (g,cc)->∀ n cc',co n≠none->ct n≠some (g,cc'):=λc g cc hc ho hg n cc' hn hg'=>by
  obtain⟨c',o',hm,ho',_,ht⟩:=hco n hn;rw[ht]at hg';have:=hrel.inj c c' g cc cc' ho (by simp[ho']) hg hg';subst this;obtain⟨h1,h2,h3⟩:=hhs c n o' hm ho';obtain⟨o'',ho'',_⟩:=k.le n _ h1
  grind
 refine{ imm:=k.imm,cell:=k.cell,le:=hle,rel:=?_,valid:=k.valid,os:=k.os,tape:=k.tape,output:=k.output,drawn:=k.drawn,grow:=k.grow,frame:=λb hb hn=>k.frame b hb (λn cc hn' hg=>?_),new:=λnm g c ho hg=>?_,immNew:=λb o h=>?_ }
 ·
  have hsplit:∀ nm,(∃ n,co' n≠none/\Ai bk n=some nm)\/(own' nm=own nm/\θ' nm=θ nm/\∀ n,co' n≠none->Ai bk n≠some nm):=λnm=>by
   grind
  have hkeep:∀ nm g cc,(∀ n,co' n≠none->Ai bk n≠some nm)->own nm≠none->θ nm=some (g,cc)->w'.heap[g]?=w.heap[g]?/\∀ j,I' g j->I g j:=λnm g cc hn ho hg=>by
   have hlt:=Mg hrel ho hg;have hf:=hfar nm g cc hn ho hg;refine⟨k.frame g hlt hf,λj hj=>?_⟩;rcases k.immNew g j hj with h|h|⟨n,c,h1,h2⟩
   ·exact h
   ·omega
   grind
  refine⟨λnm e0 cells ho=>?_,λnm sz e m ho g c hg=>?_,λnm nm' g c c' ho ho' hg hg'=>?_,λnm sz e m f ho=>?_,λnm x ho=>?_,λnm sz m ho hnn=>?_⟩
  rotate_left 5
  ·rcases hsplit nm with⟨n,hn,hb⟩|⟨h1,h2,h3⟩
   ·cases hcn:co' n with
    | none=>grind
    | some o'=>
     obtain⟨h1,h2⟩:=hbk n nm o' hb hcn;rw[ho]at h1
     cases o' with
     | row=>simp[Own.ren]at h1
     | arr=>simp[Own.ren]at h1
     | obj=>simp[Own.ren]at h1
     | tok s' e' m'=>
      simp only[Own.ren,Aw,Own.tok.injEq]at h1;obtain⟨rfl,rfl,rfl⟩:=h1;exact k.rel.tok8 n _ _ hcn (h2.symm.trans hnn)
   ·rw[h1]at ho;exact hrel.tok8 nm sz m ho (h2.symm.trans hnn)
  rotate_left 4
  ·rcases hsplit nm with⟨n,hn,hb⟩|⟨h1,h2,h3⟩
   ·cases hcn:co' n with
    | none=>grind
    | some o'=>
     obtain⟨h1,h2⟩:=hbk n nm o' hb hcn;rw[ho]at h1
     cases o' with
     | tok=>simp[Own.ren]at h1
     | row=>simp[Own.ren]at h1
     | arr=>simp[Own.ren]at h1
     | obj x'=>
      simp only[Own.ren,Aw,Own.obj.injEq]at h1;subst h1;exact Mx (k.rel.obj n _ hcn) h2 (λ_ _ _=>rfl) (λ_ _ _ _ h=>h) (λ_ h=>h.on _ (λ_ _ h=>h) (λ_ _ _=>rfl) λv y hv=>hv.ren bk (λn' c' o h h'=>hbk n' c' o h h')) TG
   ·rw[h1]at ho;exact Mx (hrel.obj nm _ ho) h2 (λg c hg=>(hkeep nm g c h3 (by simp[ho]) hg).1) (λg c j hg hj=>(hkeep nm g c h3 (by simp[ho]) hg).2 j hj) (λ_ h=>h.mono hmono) W1
  rotate_left 3
  ·rcases hsplit nm with⟨n,hn,hb⟩|⟨h1,h2,h3⟩
   ·cases hcn:co' n with
    | none=>grind
    | some o'=>
     obtain⟨h1,h2⟩:=hbk n nm o' hb hcn;rw[ho]at h1
     cases o' with
     | tok=>simp[Own.ren]at h1
     | row=>simp[Own.ren]at h1
     | obj=>simp[Own.ren]at h1
     | arr s' e' m' f'=>
      simp only[Own.ren,Aw,Own.arr.injEq]at h1;obtain⟨rfl,rfl,rfl,rfl⟩:=h1;exact Rg (k.rel.arr n _ _ _ _ hcn) h2 (λ_ _ _=>rfl) (λ_ _ _ _ h=>h) (λi _=>Bj _ _) (λv i j _ _ hv=>by rw[Mh];exact hv.ren bk (λn' c' o h h'=>hbk n' c' o h h'))
   ·rw[h1]at ho;exact Rg (hrel.arr nm _ _ _ _ ho) h2 (λg c hg=>(hkeep nm g c h3 (by simp[ho]) hg).1) (λg c j hg hj=>(hkeep nm g c h3 (by simp[ho]) hg).2 j hj) (λ_ _=>rfl) (λv i j _ _ hv=>hmono _ _ hv)
  ·rcases hsplit nm with⟨n,hn,hb⟩|⟨h1,h2,h3⟩
   ·cases hcn:co' n with
    | none=>grind
    | some o'=>
     obtain⟨h1,h2⟩:=hbk n nm o' hb hcn;rw[ho]at h1
     cases o' with
     | tok=>simp[Own.ren]at h1
     | arr=>simp[Own.ren]at h1
     | obj=>simp[Own.ren]at h1
     | row e' cs=>
      simp only[Own.ren,Aw,Own.row.injEq]at h1;obtain⟨rfl,rfl⟩:=h1;obtain⟨g,c,vs,r1,r2,r3,r4,r5,r6⟩:=k.rel.row n _ cs hcn;refine⟨g,c,vs,h2.trans r1,r2,by grind [Bj],λj hj=>r4 j (by rwa[Bj]at hj),λj hj=>?_,r6⟩;rw[Mh];exact(r5 j (by rwa[Bj]at hj)).ren bk (λn' c' o h h'=>hbk n' c' o h h')
   ·rw[h1]at ho;obtain⟨g,c,vs,r1,r2,r3,r4,r5,r6⟩:=hrel.row nm _ cells ho;obtain⟨q1,q2⟩:=hkeep nm g c h3 (by simp[ho]) r1;exact⟨g,c,vs,h2.trans r1,q1.trans r2,r3,r4,λj hj=>hmono _ _ (r5 j hj),λj hj=>r6 j (q2 j hj)⟩
  ·rcases hsplit nm with⟨n,hn,hb⟩|⟨h1,h2,h3⟩
   ·cases hcn:co' n with
    | none=>grind
    | some o'=>
     obtain⟨h1,h2⟩:=hbk n nm o' hb hcn;rw[ho]at h1
     cases o' with
     | row=>simp[Own.ren]at h1
     | arr=>simp[Own.ren]at h1
     | obj=>simp[Own.ren]at h1
     | tok s' e' m'=>
      simp only[Own.ren,Aw,Own.tok.injEq]at h1;obtain⟨rfl,rfl,rfl⟩:=h1;exact k.rel.tok n _ _ _ hcn g c (by grind)
   ·rw[h1]at ho;rw[h2]at hg;obtain⟨cur,fz,r1,r2,r3,r4,r5',r5⟩:=hrel.tok nm sz e m ho g c hg;obtain⟨q1,q2⟩:=hkeep nm g c h3 (by simp[ho]) hg
    grind
  ·have hθb:∀ n nm,co' n≠none->Ai bk n=some nm->θ' nm=ct' n:=λn nm hn hb=>by
    cases hcn:co' n with
    | none=>grind
    | some o'=>grind
   have hmix:∀ nm nm' n c c',co' n≠none->Ai bk n=some nm->(∀ n,co' n≠none->Ai bk n≠some nm')->own nm'≠none->θ nm'=some (g,c')->ct' n=some (g,c)->False:=λnm nm' n c c' hn hb h3 ho hg hg'=>by
    have hlt:=Mg hrel ho hg;rcases k.new n g c hn hg' with h|⟨n',cc,h,h'⟩
    ·omega
    ·exact hfar nm' g c' h3 ho hg n' cc h h'
   rcases hsplit nm with⟨n,hn,hb⟩|⟨h1,h2,h3⟩<;>rcases hsplit nm' with⟨n',hn',hb'⟩|⟨h1',h2',h3'⟩
   ·rw[hθb n nm hn hb]at hg;rw[hθb n' nm' hn' hb']at hg';have:=k.rel.inj n n' g c c' hn hn' hg hg'
    grind
   ·rw[hθb n nm hn hb]at hg;rw[h1']at ho';rw[h2']at hg';exact(hmix nm nm' n c c' hn hb h3' ho' hg' hg).elim
   ·rw[hθb n' nm' hn' hb']at hg';rw[h1]at ho;rw[h2]at hg;exact(hmix nm' nm n' c' c hn' hb' h3 ho hg hg').elim
   ·rw[h1]at ho;rw[h1']at ho';rw[h2]at hg;rw[h2']at hg';exact hrel.inj nm nm' g c c' ho ho' hg hg'
 ·grind
 ·by_cases hx:∃ n,co' n≠none/\Ai bk n=some nm
  ·obtain⟨n,hn,hb⟩:=hx
   cases hcn:co' n with
   | none=>grind
   | some o'=>
    obtain⟨_,h2⟩:=hbk n nm o' hb hcn;rw[h2]at hg;rcases k.new n g c hn hg with h|⟨n',cc,h,h'⟩
    ·grind
    ·obtain⟨c',o'',hm,ho',_,ht⟩:=hco n' h
     grind
  grind
 ·rcases k.immNew b o h with h|h|⟨n,c,h1,h2⟩
  ·grind
  ·grind
  grind
theorem fN(h:Rel Γ σ I θ a w)(hd:∀ d,o.dst=some d->d<Γ.n){f:FuncId}{ws:List Value}(hexec:(execOp a.eval o).run P w = .ok (.enter f ws.toArray) w)
  {r:Wa} {es:List (Option Own)} (hes:es=(r.hs.map (·.1)++r.fr.map (·.2)).map σ.own) {H:List (Nat×Own)} (hH:DC r.hs es=some H) (hc:U2 es r=true)
  (hq:Kr I (Ai (H.map λx=>(x.1,x.2.ren r.hs))) (λn=>(Ai (Lt r.hs) n).bind θ) w->(∀ nm k o,Ai r.hs nm=some k->σ.own nm=some o->Ai (H.map λx=>(x.1,x.2.ren r.hs)) k=some (o.ren r.hs)/\(Ai (Lt r.hs) k).bind θ=θ nm)->
   Calls P f ws.toArray w λe w'=>∃ v I' θ',e = .returned v/\Chg (Ai (H.map λx=>(x.1,x.2.ren r.hs))) (λn=>(Ai (Lt r.hs) n).bind θ) I w (Ai r.H) θ' I' w'/\Rep I' (Ai r.H) θ' w' v r.res) :
  G4 P Γ σ o a w (r.res.ren (Fn r)) (Rh r):=by
   simp only[U2,A4]at hc;obtain⟨⟨⟨⟨⟨c1,c2⟩,c3⟩,c4⟩,c5⟩,c6⟩:=hc;have c2:=Oy c2;have c3:=Oy c3;have c4:=Oy c4;have c5:=Oy c5
   have hes':es=r.hs.map (λx=>σ.own x.1)++r.fr.map (λx=>σ.own x.2):=by
    rw[hes];simp[VA]
   rw[hes']at hH c1
   have hfr:∀ k c,(k,c)∈r.fr->σ.own c=none:=λk c hm=>by
    have hl:(r.hs.map (λx=>σ.own x.1)).length=r.hs.length:=by simp
    rw[<- hl,List.drop_left]at c1
    have e1:r.fr.map (λx=>σ.own x.2)=(r.fr.map (·.2)).map σ.own:=by simp[VA]
    rw[e1]at c1;exact dk c1 c (zzL21.2 ⟨_,hm,rfl⟩)
   obtain⟨h1,h2⟩:=OE hH;have hbk:Fn r=Lt r.hs++r.fr:=rfl
   have hHn:(H.map (·.1)).Nodup:=by
    rw[h1]
    have:(Fn r).map (·.1)=r.hs.map (·.2)++r.fr.map (·.1):=by simp[Fn,VA]
    rw[this]at c3;exact(List.nodup_append.1 c3).1
   have hsn:((Lt r.hs).map (·.1)).Nodup:=by
    have:(Lt r.hs).map (·.1)=r.hs.map (·.2):=by simp[Lt]
    rw[this,<- h1];exact hHn
   have hHl:∀ c n,(c,n)∈r.hs->∃ o,σ.own c=some o/\Ai H n=some o:=λc n hm=>by
    obtain⟨o',ho',hm'⟩:=h2 c n hm;exact⟨o',ho',Tq hHn hm'⟩
   have hco:∀ n,Ai (H.map λx=>(x.1,x.2.ren r.hs)) n=(Ai H n).map (Own.ren r.hs):=λn=>qu _ _ _
   have hct:∀ c n,(c,n)∈r.hs->(Ai (Lt r.hs) n).bind θ=θ c:=λc n hm=>by
    rw[Tq hsn (zzL21.2 ⟨_,hm,rfl⟩)];rfl
   have hbkh:∀ c n,(c,n)∈r.hs->Ai (Fn r) n=some c:=λc n hm=>Tq c3 (by rw[hbk];exact zzL11.2 (.inl (zzL21.2 ⟨_,hm,rfl⟩)))
   have hin:∀ nm k o,Ai r.hs nm=some k->σ.own nm=some o->Ai (H.map λx=>(x.1,x.2.ren r.hs)) k=some (o.ren r.hs)/\(Ai (Lt r.hs) k).bind θ=θ nm:=λnm k o hl ho'=>by
    grind [N7]
   have hcown:∀ n,Ai (H.map λx=>(x.1,x.2.ren r.hs)) n≠none->∃ c o,(c,n)∈r.hs/\σ.own c=some o/\Ai (H.map λx=>(x.1,x.2.ren r.hs)) n=some (o.ren r.hs)/\(Ai (Lt r.hs) n).bind θ=θ c:=λn hn=>by
    rw[hco]at hn
    cases hl:Ai H n with
    | none=>grind
    | some o'=>
     have hm:n∈H.map (·.1):=zzL21.2 ⟨_,N7 hl,rfl⟩
     grind
   have hrelc:Kr I (Ai (H.map λx=>(x.1,x.2.ren r.hs))) (λn=>(Ai (Lt r.hs) n).bind θ) w:=by
    have hrel:=h.chg.rel;refine⟨λnm e0 cells hn=>?_,λnm sz e m hn g c hg=>?_,λnm nm' g c c' hn hn' hg hg'=>?_,λnm sz e m f hn=>?_,λnm x hn=>?_,λnm sz m hn hnn=>?_⟩
    rotate_left 5
    ·obtain⟨c',o',hm,ho',hl,ht⟩:=hcown nm (by simp[hn]);rw[hl]at hn
     cases o' with
     | row=>simp[Own.ren]at hn
     | arr=>simp[Own.ren]at hn
     | obj=>simp[Own.ren]at hn
     | tok s' e' m'=>
      simp only[Own.ren,Aw,Own.tok.injEq]at hn;obtain⟨rfl,rfl,rfl⟩:=hn;exact hrel.tok8 c' _ _ ho' (ht.symm.trans hnn)
    rotate_left 4
    ·obtain⟨c,o',hm,ho',hl,ht⟩:=hcown nm (by simp[hn]);rw[hl]at hn
     cases o' with
     | tok=>simp[Own.ren]at hn
     | row=>simp[Own.ren]at hn
     | arr=>simp[Own.ren]at hn
     | obj x'=>
      simp only[Own.ren,Aw,Own.obj.injEq]at hn;subst hn;exact Mx (θ':=λn=>(Ai (Lt r.hs) n).bind θ) (nm':=nm) (hrel.obj c _ ho') ht (λ_ _ _=>rfl) (λ_ _ _ _ h=>h) (λ_ h=>h.on _ (λ_ _ h=>h) (λ_ _ _=>rfl) λv y hv=>hv.ren r.hs hin) TG
    rotate_left 3
    ·obtain⟨c,o',hm,ho',hl,ht⟩:=hcown nm (by simp[hn]);rw[hl]at hn
     cases o' with
     | tok=>simp[Own.ren]at hn
     | row=>simp[Own.ren]at hn
     | obj=>simp[Own.ren]at hn
     | arr s' e' m' f'=>
      simp only[Own.ren,Aw,Own.arr.injEq]at hn;obtain⟨rfl,rfl,rfl,rfl⟩:=hn;exact Rg (hrel.arr c _ _ _ _ ho') ht (λ_ _ _=>rfl) (λ_ _ _ _ h=>h) (λi _=>Bj _ _) (λv i j _ _ hv=>by rw[Mh];exact hv.ren r.hs hin)
    ·obtain⟨c,o',hm,ho',hl,ht⟩:=hcown nm (by simp[hn]);rw[hl]at hn
     cases o' with
     | tok=>simp[Own.ren]at hn
     | arr=>simp[Own.ren]at hn
     | obj=>simp[Own.ren]at hn
     | row e' cs=>
      simp only[Own.ren,Aw,Own.row.injEq]at hn;obtain⟨rfl,rfl⟩:=hn;obtain⟨g,cc,vs',r1,r2,r3,r4,r5,r6⟩:=hrel.row c _ cs ho';refine⟨g,cc,vs',ht.trans r1,r2,by grind [Bj],λj hj=>r4 j (by rwa[Bj]at hj),λj hj=>?_,r6⟩;rw[Mh];exact(r5 j (by rwa[Bj]at hj)).ren r.hs hin
    ·obtain⟨c',o',hm,ho',hl,ht⟩:=hcown nm (by simp[hn]);rw[hl]at hn
     cases o' with
     | row=>simp[Own.ren]at hn
     | arr=>simp[Own.ren]at hn
     | obj=>simp[Own.ren]at hn
     | tok s' e' m'=>
      simp only[Own.ren,Aw,Own.tok.injEq]at hn;obtain⟨rfl,rfl,rfl⟩:=hn;exact hrel.tok c' _ _ _ ho' g c (by grind)
    ·obtain⟨c1',o1,hm,ho1,_,ht⟩:=hcown nm hn;obtain⟨c2',o2,hm',ho2,_,ht'⟩:=hcown nm' hn';rw[ht]at hg;rw[ht']at hg';have:=hrel.inj c1' c2' g c c' (by simp[ho1]) (by simp[ho2]) hg hg'
     grind [Ss]
   intro K Q hK;unfold Oper.wp;rw[hexec];simp only[Oper.upon];refine Calls.mono (hq hrelc hin) λe' w' hq=>?_;obtain⟨v,I',ct',rfl,kc,hres⟩:=hq
   have hwo:∀ n c o',Ai (Fn r) n=some c->Ai r.H n=some o'->Ai (Rh r) c=some (o'.ren (Fn r)):=λn c o' hb hl=>
    Tq c5 (zzL21.2 ⟨(n,o'),N7 hl,by simp[hb]⟩)
   have hwo':∀ c,(∀ n,Ai r.H n≠none->Ai (Fn r) n≠some c)->Ai (Rh r) c=none:=λc hn=>Xy λhm=>by
    obtain⟨x,hx,rfl⟩:=zzL21.1 hm;obtain⟨⟨n,o'⟩,hm',rfl⟩:=zzL21.1 hx;have hmem:n∈(Fn r).map (·.1):=memB_mem.1 (zzL29.1 c6 _ hm');obtain⟨⟨n',c'⟩,hb,rfl⟩:=zzL21.1 hmem;have hb':=Tq c3 hb;have hl:=Tq c4 hm'
    grind
   have hinj:∀ n n' c,Ai (Fn r) n=some c->Ai (Fn r) n'=some c->n=n':=λn n' c e1 e2=>by
    grind [Ss]
   let θ':Nat->Option (Nat×Nat):=λc=>match Ai (Lt (Fn r)) c with|some n=>if(Ai r.H n).isSome then ct' n else θ c|none=>θ c
   have hθ1:∀ n c o',Ai (Fn r) n=some c->Ai r.H n=some o'->θ' c=ct' n:=λn c o' hb hl=>by
    grind [Ss]
   have hθ2:∀ c,(∀ n,Ai r.H n≠none->Ai (Fn r) n≠some c)->θ' c=θ c:=λc hn=>by
    simp only[θ']
    split
    ·grind [Ss]
    ·rfl
   have hbk2:∀ n c o',Ai (Fn r) n=some c->Ai r.H n=some o'->(σ.upd o.dst (r.res.ren (Fn r)) (Rh r)).own c=some (o'.ren (Fn r))/\θ' c=ct' n:=λn c o' hb hl=>
    ⟨by grind [Sto.upd],hθ1 n c o' hb hl⟩
   have kk:Chg σ.own θ I w (σ.upd o.dst (r.res.ren (Fn r)) (Rh r)).own θ' I' w':=by
    refine qO (hs:=r.hs) (bk:=Fn r) h.chg.rel kc hcown (λc n o' hm ho'=>?_) (λn c hb=>?_) hbk2 (λc hn=>⟨by grind [Sto.upd],hθ2 c hn⟩)
    ·obtain⟨o'',ho'',hl⟩:=hHl c n hm
     grind
    ·have hm:=N7 hb;rw[hbk]at hm;rcases zzL11.1 hm with hm|hm
     ·obtain⟨⟨c',n'⟩,hm',he'⟩:=zzL21.1 hm
      grind
     grind
   exact hK I' θ' _ _ (KO h kk (hres.ren (Fn r) hbk2) hd)
theorem ZM{ro:List Nat}{k:Nat}:∀{wo:List (Nat×Own)},Ai (sB ro wo) k=if B8 k ro=true then none else Ai wo k
 | []=>by simp[sB,Ai]
 | (n,o)::wo=>by
  have ih:=ZM (ro:=ro) (k:=k) (wo:=wo);unfold sB at ih ⊢
  cases hb:B8 n ro with
  | true=>
   grind [Nat.beq,List.filter_cons_of_neg,Ai,Ej]
  | false=>
   cases hn:Nat.beq n k with
   | true=>grind [Ai,Ej]
   | false=>grind [Ai]
theorem ah{own:Nat->Option Own}{ro:List Nat}{wo:List (Nat×Own)}{k:Nat}(hk:B8 k ro=true):∀{hs:List (Nat×Nat)} {tl:List (Option Own)},B8 k (hs.map (·.1))=true->(∀ p∈sA ro wo hs ((hs.map (·.1)).map own++tl),p)->Ai wo k=own k
 | [],_,h,_=>by cases h
 | (n,m)::hs,tl,h,hp=>by
  simp only[Cz,IL,sA,zzL11]at hp;simp only[Cz,B8]at h
  cases hb:Nat.beq n k with
  | true=>
   simp_all
  | false=>rw[hb]at h;exact ah hk h (λp h'=>hp p (.inr h'))
theorem rR(h:Rel Γ σ I θ a w)(hd:∀ d,o.dst=some d->d<Γ.n){f:FuncId}{vs:List AV}{ws:List Value}(hex:(execOp a.eval o).run P w=(callFunc f ws.toArray).run P w)(hvs:RepL I σ.own θ w ws vs)
  {r:Wa} {es:List (Option Own)} (hes:es=(r.hs.map (·.1)++r.fr.map (·.2)).map σ.own) {e:Eff} (he:hY (Spec P) f vs es r=some e) (hob:∀ p∈e.ob,p):G4 P Γ σ o a w e.v e.wo:=by
 unfold hY at he
 split at he
 ·rename_i H hH
  cases hc:U2 es r with
  | false=>grind
  | true=>
   simp only[hc,Af]at he
   have key:Spec P f ((vs.map (AV.ren r.hs)).map AV.loose) (H.map λx=>(x.1,x.2.ren r.hs)) r.res r.H->G4 P Γ σ o a w (r.res.ren (Fn r)) (Rh r):=λ⟨henter,hspec⟩=>by
    refine fN h hd (hex.trans (henter _ _)) hes hH hc λhrelc hin=>?_;exact hspec w I (λn=>(Ai (Lt r.hs) n).bind θ) ws.toArray (by have:=(hvs.ren r.hs hin).loose;exact this) hrelc h.chg.valid h.glob
   cases hro:ZG r.ro with
   | true=>
    simp only[hro,Af,Aw]at he;subst he
    simp_all
   | false=>
    simp only[hro,Ar]at he
    cases hall:(r.ro.all λn=>B8 n (r.hs.map (·.1))) with
    | false=>grind
    | true=>
     simp only[hall,Af,Aw]at he;subst he;have base:=key (hob _ (zzL31.2 (.inl rfl)));have hob':∀ p∈sA r.ro (Rh r) r.hs es,p:=λp hp=>hob p (zzL31.2 (.inr hp))
     have e:σ.upd o.dst (r.res.ren (Fn r)) (sB r.ro (Rh r))=σ.upd o.dst (r.res.ren (Fn r)) (Rh r):=by
      unfold Sto.upd
      congr 1
      funext nm
      rw[ZM]
      cases hm:B8 nm r.ro with
      | false=>simp
      | true=>
       have hm':B8 nm (r.hs.map (·.1))=true:=by
        rw[zzL29]at hall;exact hall nm (memB_mem.1 hm)
       rw[hes,PJ]at hob';rw[ah hm hm' hob']
       grind
     intro K Q hK;refine base K Q λI' θ' a' w' hr=>hK I' θ' a' w' ?_
     grind
 ·cases he
theorem O3(l:List (Nat×Own))(m:List AV):(AV.vsAll l m).length=m.length:=by induction m with|nil=>rfl|cons x m ih=>simp[AV.vsAll,ih]
theorem UQ(l:List (Nat×Own))(m:List AV)(j:Nat):(AV.vsAll l m).getD j .any=(m.getD j .any).vs l:=by
 induction m generalizing j with
 | nil=>rfl
 | cons x m ih=>cases j with
  | zero=>rfl
  | succ j=>simp_all [AV.vsAll]
theorem n9{l:List (Nat×Own)}{m:List AV}(h:∀ p∈AV.vsObAll l m,p)(j:Nat):∀ p∈(m.getD j .any).vsOb l,p:=by
 induction m generalizing j with
 | nil=>trivial
 | cons x m ih=>
  simp only[AV.vsObAll,zzL11]at h
  cases j with
  | zero=>grind
  | succ j=>intro p hp;exact ih (λp hp=>h p (.inr hp)) j p (by grind)
theorem Rj{m:List AV}(h:AV.flatAll m=true)(j:Nat):(m.getD j .any).flat=true:=by
 induction m generalizing j with
 | nil=>rfl
 | cons x m ih=>
  simp only[AV.flatAll]at h
  cases j with
  | zero=>grind
  | succ j=>simp_all
theorem RepV.flat{I I':Nat->Nat->Prop}{w w':World}{v:Value}{x:AV}(h:RepV I w v x)(hx:x.flat=true):RepV I' w' v x:=by
 induction h with
 | any v=>exact .any v
 | undef=>exact .undef
 | int k n=>exact .int k n
 | bool b=>exact .bool b
 | str s=>exact .str s
 | err0=>exact .err0
 | err1 t v=>exact .err1 t v
 | agg vs cs hl h1 _ ih=>exact .agg vs cs hl h1 (λj hj=>ih j hj (Rj hx j))
 | tuple vs cs hl _ ih=>exact .tuple vs cs hl (λj hj=>ih j hj (Rj hx j))
 | _=>cases hx
theorem Rep.flat{I I':Nat->Nat->Prop}{own:Nat->Option Own}{θ:Nat->Option (Nat×Nat)}{w w':World}{v:Value}{x:AV}(h:Rep I own θ w v x)(hx:x.flat=true):RepV I' w' v x:=by
 induction h with
 | val v x h=>exact h.flat hx
 | agg vs cs hl h1 _ ih=>exact .agg vs cs hl h1 (λj hj=>ih j hj (Rj hx j))
 | tuple vs cs hl _ ih=>exact .tuple vs cs hl (λj hj=>ih j hj (Rj hx j))
 | _=>cases hx
theorem EF{own:Nat->Option Own}:∀{ns:List Nat} {tl:List (Option Own)} {k:Nat} {o:Own},Ai (Ub ns (ns.map own++tl)) k=some o->own k=some o
 | [],tl,k,o,h=>by trivial
 | n::ns,tl,k,o,h=>by
  simp only[Cz,IL]at h
  cases hn:own n with
  | none=>rw[hn]at h;exact EF h
  | some o'=>
   rw[hn]at h;simp only[Ub,Ai]at h
   cases hb:Nat.beq n k with
   | true=>
    simp_all
   | false=>rw[hb]at h;exact EF h
def PF(l:List (Nat×Own))(θ:Nat->Option (Nat×Nat))(I:Nat->Nat->Prop):Nat->Nat->Prop:=λb o=>I b o\/∃ nm sz e m f c,Ai l nm=some (.arr sz e m f)/\θ nm=some (b,c)/\o<m*sz
theorem Rep.vs{I:Nat->Nat->Prop}{own:Nat->Option Own}{θ:Nat->Option (Nat×Nat)}{w:World}{v:Value}{x:AV}(hrel:Kr I own θ w){l:List (Nat×Own)}(hl:∀ k o,Ai l k=some o->own k=some o)(h:Rep I own θ w v x):(∀ p∈x.vsOb l,p)->RepV (PF l θ I) w v (x.vs l):=by
 have hII:∀ b o,I b o->PF l θ I b o:=λ_ _ h=>.inl h
 have hs:∀{v:Value} {x:AV},RepV I w v x->RepV (PF l θ I) w v (x.vs l):=by
  intro v x h
  induction h with
  | agg vs cs hl h1 _ ih=>exact .agg vs _ (by rw[O3,hl]) (λj hj=>h1 j (by rwa[O3]at hj)) (λj hj=>by grind [UQ,O3])
  | slice a n cap sz f us hcap hmax hz hn h1 hl hr=>exact(RepV.slice a n cap sz f us hcap hmax hz hn h1 hl hr).mono hII (λ_ _ _=>rfl)
  | any v=>exact .any v
  | undef=>exact .undef
  | int k n=>exact .int k n
  | bool b=>exact .bool b
  | str s=>exact .str s
  | clo f=>exact .clo f
  | nxt1 i r=>exact .nxt1 i r
  | nxt0 i r=>exact .nxt0 i r
  | nilq b pos n h=>exact .nilq b pos n h
  | err0=>exact .err0
  | err1 t v=>exact .err1 t v
  | nilp=>exact .nilp
  | nilm=>exact .nilm
  | cond v c x h h'=>exact(RepV.cond v c x h h').strip.mono hII (λ_ _ _=>rfl)
  | rptr a cells us hs hI hc h1 hr=>exact(RepV.rptr a cells us hs hI hc h1 hr).mono hII (λ_ _ _=>rfl)
  | tuple vs cs hl hr=>exact(RepV.tuple vs cs hl hr).strip.mono hII (λ_ _ _=>rfl)
 induction h with
 | val v x h=>grind
 | agg vs cs hl h1 _ ih=>
  intro hob;exact .agg vs _ (by rw[O3,hl]) (λj hj=>h1 j (by rwa[O3]at hj)) (λj hj=>by rw[UQ];exact ih j (by rwa[O3]at hj) (n9 hob j))
 | vsl nm sz e m f a n cap ho hm hcap hmax hn hv=>
  intro hob;simp only[AV.vs]
  split
  ·rename_i sz' e' m' f' hlk
   have ho':=hl _ _ hlk;rw[ho]at ho';simp only[Aw,Own.arr.injEq]at ho';obtain⟨rfl,rfl,rfl,rfl⟩:=ho';have hnm:n=m:=hob _ (by grind [AV.vsOb])
   ·subst hnm;obtain⟨q0,q1⟩:=hrel.arr nm sz e n f ho;have hvv:=hv rfl
    cases hθ:θ nm with
    | none=>
     have hn0:=q0 hθ;subst hn0;exact .slice a 0 cap sz _ (λ_=>undef) hcap hmax (λh=>by omega) hn (λj hj=>by omega) (λi hi=>by omega) (λi c hi=>by omega)
    | some gc=>
     obtain⟨b,c⟩:=gc;rw[hθ]at hvv;simp only at hvv;obtain⟨rfl,rfl⟩:=hvv;obtain⟨cur,r1,r2,r3,r4,r5,r6,r7⟩:=q1 b cap hθ
     have hcell:∀ j,j<n*sz->w.cell? ⟨b,j,none⟩=some (cur.getD j undef):=λj hj=>by
      have:n*sz<=cap*sz:=Hw _ r2;rw[On w b j cur e (0,0) r1]
      grind [Pm]
     refine .slice _ n cap sz _ (λj=>cur.getD j undef) hcap hmax (λ_=>⟨⟨b,0,none⟩,rfl,rfl,λj hj=>.inr ⟨nm,sz,e,n,f,cap,hlk,hθ,by grind⟩,λj hj=>by grind⟩) (by simp) (λj hj=>?_) (λi hi=>?_) (λi k hi hk=>?_)
     ·have hs:0<sz:=by
       rcases zzL79 sz with h0|h0
       ·rw[h0]at hj;omega
       ·exact h0
      have e2:j / sz*sz+j % sz=j:=by rw[Zu];exact PK j sz
      grind [ay,Zv]
     ·grind [Bz]
     ·rw[H5];exact((r6 i k hi hk).2.strip).mono hII (λ_ _ _=>rfl)
  ·exact .any _
 | exact a n sz f h=>exact λ_=>h.mono hII (λ_ _ _=>rfl)
 | own nm sz e m a n cap f ho hm hv h=>exact λ_=>h.mono hII (λ_ _ _=>rfl)
 | fam b i sz e m a n cap f hi ho hm hv h=>exact λ_=>h.mono hII (λ_ _ _=>rfl)
 | ptr nm off e cells g c ho hg=>exact λ_=>.any _
 | vpt=>exact λ_=>.any _
 | vsub nm sz e m f n lo hi a cap ho hm hlo hhi hcap hmax hn hv=>
  intro hob;simp only[AV.vs]
  split
  ·rename_i sz' e' m' f' hlk
   have ho':=hl _ _ hlk;rw[ho]at ho';simp only[Aw,Own.arr.injEq]at ho';obtain⟨rfl,rfl,rfl,rfl⟩:=ho';have hnm:n=m:=hob _ (by grind [AV.vsOb]);subst hnm;obtain⟨q0,q1⟩:=hrel.arr nm sz e n f ho;have hvv:=hv rfl;rcases zzL119 lo hi with hlt|hge
   ·obtain⟨b,c,hθ,rfl⟩:=hvv.1 hlt;obtain⟨cur,r1,r2,r3,r4,r5,r6,r7⟩:=q1 b c hθ
    have hin:∀ j,j<(hi-lo)*sz->lo*sz+j<n*sz:=λj hj=>by
     have h1:lo*sz+(hi-lo)*sz=hi*sz:=by rw[<- J9];congr 1;omega
     have h2:hi*sz<=n*sz:=Hw _ hhi;omega
    have hcell:∀ j,j<(hi-lo)*sz->w.cell? ⟨b,lo*sz+j,none⟩=some (cur.getD (lo*sz+j) undef):=λj hj=>by
     have:n*sz<=c*sz:=Hw _ r2;have:=hin j hj;rw[On w b _ cur e (0,0) r1]
     grind [Pm]
    refine .slice _ (hi-lo) cap sz _ (λj=>cur.getD (lo*sz+j) undef) hcap hmax (λ_=>⟨⟨b,lo*sz,none⟩,rfl,rfl,λj hj=>.inr ⟨nm,sz,e,n,f,c,hlk,hθ,hin j hj⟩,λj hj=>hcell j hj⟩) hn (λj hj=>?_) (λi hi'=>?_) (λi k hi' hk=>?_)
    ·have hs:0<sz:=by
      rcases zzL79 sz with h0|h0
      ·rw[h0]at hj;omega
      ·exact h0
     have e2:j / sz*sz+j % sz=j:=by rw[Zu];exact PK j sz
     have h3:j / sz<hi-lo:=by rw[ay hs];exact hj
     have:=(r6 (lo+j / sz) (j % sz) (by omega) (Zv _ hs)).1;rw[J9,HE,e2]at this;exact this
    ·grind [Bz]
    ·rw[H5];have:=((r6 (lo+i) k (by omega) hk).2.strip).mono hII (λ_ _ _=>rfl) (w':=w)
     grind
   ·have h0:hi-lo=0:=by omega
    rw[h0];exact .slice a 0 cap sz _ (λ_=>undef) (by omega) hmax (λh=>by omega) hn (λj hj=>by omega) (λi hi=>by omega) (λi c hi=>by omega)
  ·exact .any _
 | optr=>exact λ_=>.any _
 | omap=>exact λ_=>.any _
 | rpo=>exact λ_=>.any _
 | clo f fs cs xs ys hl hl' hr hr' _ _=>exact λ_=>(Rep.clo f fs cs xs ys hl hl' hr hr').strip.mono hII (λ_ _ _=>rfl)
 | cond v c x h h' _=>exact λ_=>(Rep.cond v c x h h').strip.mono hII (λ_ _ _=>rfl)
 | tuple vs cs hl hr _=>exact λ_=>(Rep.tuple vs cs hl hr).strip.mono hII (λ_ _ _=>rfl)
theorem RepL.vs{I:Nat->Nat->Prop}{own own':Nat->Option Own}{θ θ':Nat->Option (Nat×Nat)}{w:World}{vs:List Value}{xs:List AV}(hrel:Kr I own θ w){l:List (Nat×Own)}(hl:∀ k o,Ai l k=some o->own k=some o)(h:RepL I own θ w vs xs) :
  (∀ p∈AV.vsObAll l xs,p)->RepL (PF l θ I) own' θ' w vs (xs.map (AV.vs l)):=by
 induction h with
 | nil=>exact λ_=>.nil
 | cons h _ ih=>
  intro hob;simp only[AV.vsObAll,zzL11]at hob;exact .cons (.val _ _ (h.vs hrel hl λp hp=>hob p (.inl hp))) (ih λp hp=>hob p (.inr hp))
theorem Yz:∀{H:List (Nat×Own)} {nm:Nat} {o:Own},OC H->Ai H nm=some o->xM o
 | [],nm,o,_,h=>by cases h
 | (n,o')::r,nm,o,hf,h=>by
  simp only[Ai]at h
  cases hb:Nat.beq n nm with
  | true=>rw[hb]at h;simp only[Af,Aw]at h;rw[<- h];exact hf.1
  | false=>rw[hb]at h;exact Yz hf.2 h
theorem Rep.flatC{I I':Nat->Nat->Prop}{own:Nat->Option Own}{θ:Nat->Option (Nat×Nat)}{w:World}{v:Value}{x:AV}(h:Rep I own θ w v x)(hx:x.flatC=true):Rep I' own θ w v x:=by
 cases x with
 | omap nm=>obtain⟨y,h1,h2⟩:=h.omap_inv;rw[h2];exact .omap nm y h1
 | vsl nm n=>obtain⟨sz,e,m,f,a,cap,rfl,ho,hm,hcap,hmax,hn,hv⟩:=h.vsl_inv;exact .vsl nm sz e m f a n cap ho hm hcap hmax hn hv
 | ptr nm off=>obtain⟨e,cells,g,c,ho,hg,rfl⟩:=h.ptr_inv;exact .ptr nm off e _ g c ho hg
 | nilp=>obtain rfl:=h.nilp_inv;exact .val _ _ .nilp
 | _=>exact .val _ _ (h.flat hx)
theorem Rep.flatR{I I':Nat->Nat->Prop}{own:Nat->Option Own}{θ:Nat->Option (Nat×Nat)}{w:World}{v:Value}{x:AV}(h:Rep I own θ w v x)(hx:x.flatR=true):Rep I' own θ w v x:=by
 cases x with
 | tuple cs=>
  obtain⟨vs,rfl,hl,hr⟩:=h.tuple_inv;refine .tuple vs cs hl λj hj=>(hr j hj).flatC ?_;have hx:cs.all _=true:=hx
  grind
 | _=>exact h.flatC hx
theorem Rep.flatD{I I':Nat->Nat->Prop}{own:Nat->Option Own}{θ:Nat->Option (Nat×Nat)}{w:World}{v:Value}{x:AV}(h:Rep I own θ w v x)(hx:x.flatD=true)(hn:x.flatN):Rep I' own θ w v x:=by
 cases x with
 | slice sz n f t=>
  cases t with
  | own nm=>
   subst hn
   cases h with
   | val v x h=>cases h
   | own nm sz e m a n cap f ho hm hv h=>
    refine .own nm sz e m a 0 cap f ho hm hv ?_
    cases h with
    | slice a n cap sz f us hcap hmax hz hn h1 hl hr=>
     exact .slice a 0 cap sz f us hcap hmax (λhp=>absurd hp (EK 0)) hn (λj hj=>by simp at hj) (λi hi=>absurd hi (V2 i)) (λi c hi=>absurd hi (V2 i))
  | _=>trivial
 | _=>exact h.flatC hx
theorem OD:∀{l:List AV} (j:Nat),iV l->(l.getD j .any).flatN
 | [],j,_=>by trivial
 | x::l,0,h=>by simpa using h.1
 | x::l,j+1,h=>by simpa using OD j h.2
theorem qP{I I1 I':Nat->Nat->Prop}{θ':Nat->Option (Nat×Nat)}{w w':World}{H:List (Nat×Own)}{v:Value}{x:AV}{θ0:Nat->Option (Nat×Nat)}(hI:∀ b o,I b o->I1 b o)(hval:∀ b o,I b o->∃ u,w.cell? ⟨b,o,none⟩=some u)
  (kc:Chg (λ_=>none) θ0 I1 w (Ai H) θ' I' w') (hf:OC H) (hx:x.flatR=true) (hr:Rep I' (Ai H) θ' w' v x):Chg (λ_=>none) θ0 I w (Ai H) θ' I w'/\Rep I (Ai H) θ' w' v x:=by
 refine⟨{ imm:=λ_ _ h=>h,cell:=λb o h=>kc.cell b o (hI b o h),le:=(λ_ _ h=>by cases h),rel:=⟨λnm e0 cells hn=>?_,λnm sz e m hn=>?_,kc.rel.inj,λnm sz e m f hn=>?_,λnm y hn=>?_,λnm sz m hn=>?_⟩,valid:=λb o h=>?_,os:=kc.os,tape:=kc.tape,output:=kc.output,drawn:=kc.drawn,grow:=kc.grow,frame:=kc.frame,new:=kc.new,immNew:=λb o h=>.inl h },hr.flatR hx⟩
 ·have hfl :=Yz hf hn;obtain⟨hfl,hfn⟩:=hfl;obtain⟨g,c,vs,h1,h2,h3,h4,h5,h6⟩:=kc.rel.row nm e0 cells hn;refine⟨g,c,vs,h1,h2,h3,h4,λj hj=>(h5 j hj).flatD ?_ (OD j hfn),λj hj=>h6 j (kc.imm _ _ (hI _ _ hj))⟩
  grind
 ·intro g c hg;obtain⟨cur,fz,r1,r2,r3,r4,r5,r6⟩:=kc.rel.tok nm sz e m hn g c hg;exact⟨cur,fz,r1,r2,r3,r4,r5,λj hj=>r6 j (kc.imm _ _ (hI _ _ hj))⟩
 ·have hfl :=Yz hf hn;obtain⟨h1,h2⟩:=kc.rel.arr nm sz e m f hn;refine⟨h1,λg c hg=>?_⟩;obtain⟨cur,r1,r2,r3,r4,r5,r6,r7⟩:=h2 g c hg;exact⟨cur,r1,r2,r3,r4,r5,λi j hi hj=>⟨(r6 i j hi hj).1,(.val _ _ ((r6 i j hi hj).2.flat (Rj (hfl i hi) j)))⟩,λj hj=>r7 j (kc.imm _ _ (hI _ _ hj))⟩
 ·have hfl:=Yz hf hn
  cases y with
  | map nn k l=>
   rcases kc.rel.obj nm _ hn with⟨g,c,o,h1,h2,h3,h4⟩|h1
   ·refine .inl ⟨g,c,o,h1,h2,?_,λj hj=>h4 j (kc.imm _ _ (hI _ _ hj))⟩
    cases h3 with
    | map es nn k l hs hr=>
     refine .map es nn k l hs λi hi=>?_;obtain⟨u,g1,g2,g3⟩:=hr i hi;refine⟨u,g1,g2.flat (hfl _ ?_),g3⟩
     grind
   ·exact .inr h1
  | pmap nn k l=>
   rcases kc.rel.obj nm _ hn with⟨g,c,o,h1,h2,h3,h4⟩|h1
   ·refine .inl ⟨g,c,o,h1,h2,?_,λj hj=>h4 j (kc.imm _ _ (hI _ _ hj))⟩
    cases h3 with
    | pmap es nn k l0 l hp hk hs hr=>
     refine .pmap es nn k l0 l hp hk hs λi hi=>?_;obtain⟨u,g1,g2,g3⟩:=hr i hi;refine⟨u,g1,g2.flat (hfl _ (hp.mem_iff.1 ?_)),g3⟩
     grind
   ·exact .inr h1
  | _=>trivial
 ·exact kc.rel.tok8 nm sz m hn
 ·obtain⟨u,hu⟩:=hval b o h;exact⟨u,(kc.cell b o (hI b o h)).trans hu⟩
theorem lP(h:Rel Γ σ I θ a w)(hd:∀ d,o.dst=some d->d<Γ.n){f:FuncId}{vs:List AV}{ws:List Value}(hex:(execOp a.eval o).run P w=(callFunc f ws.toArray).run P w)(hvs:RepL I σ.own θ w ws vs)
  {r:Wa} {es:List (Option Own)} (hes:es=(FG r).map σ.own) {e:Eff} (he:pU (Spec P) f vs es r=some e) (hob:∀ p∈e.ob,p):G4 P Γ σ o a w e.v e.wo:=by
 unfold pU at he
 cases hvw:r.vw with
 | nil=>
  rw[hvw]at he;exact rR h hd hex hvs (by grind [FG]) he hob
 | cons n0 ns0=>
  have hnn:ZG r.vw=false:=by rw[hvw];rfl
  rw[hnn,Ar]at he
  cases hc:(ZG r.hs&&r.res.flatR&&U2 (es.drop r.vw.length) r) with
  | false=>grind
  | true=>
   rw[hc,Af,Aw]at he;subst he;simp only[A4]at hc;obtain⟨⟨c1,c2⟩,c3⟩:=hc
   have hhs:r.hs=[]:=by cases hh:r.hs with|nil=>rfl|cons _ _=>rw[hh]at c1;cases c1
   obtain⟨henter,hspec⟩:=hob _ (zzL44 ..);have hfl:OC r.H:=hob _ (Mn _ (zzL44 ..));have hvo:∀ p∈AV.vsObAll (Ub r.vw es) vs,p:=λp hp=>hob p (Mn _ (Mn _ hp))
   have hes':es=r.vw.map σ.own++(r.hs.map (·.1)++r.fr.map (·.2)).map σ.own:=by rw[hes];simp[FG]
   have hdrop:es.drop r.vw.length=(r.hs.map (·.1)++r.fr.map (·.2)).map σ.own:=by
    rw[hes']
    have:(r.vw.map σ.own).length=r.vw.length:=by simp
    rw[<- this,List.drop_left]
   have hlk:∀ k o,Ai (Ub r.vw es) k=some o->σ.own k=some o:=λk o hk=>by grind [EF]
   refine fN (H:=[]) h hd (hex.trans (henter _ _)) hdrop (by rw[hhs];rfl) c3 λ_ _=>?_
   have hval:∀ b o,PF (Ub r.vw es) θ I b o->∃ u,w.cell? ⟨b,o,none⟩=some u:=λb o hb=>by
    rcases hb with hb|⟨nm,sz,e,m,f,c,h1,h2,h3⟩
    ·exact h.chg.valid b o hb
    ·obtain⟨cur,r1,r2,r3,r4,_⟩:=(h.chg.rel.arr nm sz e m f (hlk _ _ h1)).2 b c h2;have:m*sz<=c*sz:=Hw _ r2;exact⟨_,by rw[On w b o cur e (0,0) r1];exact Pm (by omega)⟩
   have hII:∀ b o,I b o->PF (Ub r.vw es) θ I b o:=λ_ _ h=>.inl h;have e1:(Ai (List.map (λx:Nat×Own=>(x.1,x.2.ren r.hs)) []):Nat->Option Own)=λ_=>none:=rfl;have e2:(Ai []:Nat->Option Own)=λ_=>none:=rfl
   have hrel0:Kr (PF (Ub r.vw es) θ I) (Ai []) (λn=>(Ai (Lt r.hs) n).bind θ) w:=by
    rw[e2];exact⟨(λ_ _ _ h=>by cases h),(λ_ _ _ _ h=>by cases h),(λ_ _ _ _ _ h=>(h rfl).elim),(λ_ _ _ _ _ h=>by cases h),(λ_ _ h=>by cases h),(λ_ _ _ h=>by cases h)⟩
   have hcalls:=hspec w (PF (Ub r.vw es) θ I) (λn=>(Ai (Lt r.hs) n).bind θ) ws.toArray (by simpa using hvs.vs h.chg.rel hlk hvo) hrel0 hval (λg cells hg=>(h.glob g cells hg).mono hII (λ_ _ _=>rfl));refine Calls.mono hcalls λe' w' hq=>?_;obtain⟨v,I',θ',he',kc,hres⟩:=hq;rw[e2]at kc;obtain⟨k1,k2⟩:=qP hII h.chg.valid kc hfl c2 hres
   grind
end
section
variable {P:Program} {Γ:Hx} {σ:Sto} {I:Nat->Nat->Prop} {θ:Nat->Option (Nat×Nat)} {a:Act} {w:World} {o:Oper}
theorem TS(h:Rel Γ σ I θ a w)(x:Operand):Rep I σ.own θ w (a.eval x) (eL σ.tmp x):=by
 cases x with
 | tmp t=>exact h.slots t
 | const v=>exact OX  v
 | global g=>
  show Rep I _ θ w _ (match k8 g with|some cells=>.rptr cells|none=>.any)
  cases hg:k8 g with
  | none=>exact .val _ _ (.any _)
  | some cells=>exact .val _ _ (h.glob g _ hg)
 | func f=>exact .val _ _ (.clo f)
theorem nw(h:Rel Γ σ I θ a w)(l:List Operand):RepL I σ.own θ w (l.map a.eval) (l.map (eL σ.tmp)):=by
 induction l with
 | nil=>exact .nil
 | cons x l ih=>exact .cons (TS h x) ih
theorem TU{v:Value}{x:AV}{γ gd:Bool}(h:Rep I σ.own θ w v x)(hγ:gd=true->γ=true)(ht:∀ p∈x.there γ gd,p):Rep I σ.own θ w v x.uncond:=by
 cases x with
 | cond c y=>
  obtain⟨h1,_⟩:=h.cond_inv
  apply h1
  cases gd with
  | false=>exact ht _ (by simp[AV.there])
  | true=>exact ht (γ=true->c=true) (by simp[AV.there]) (hγ rfl)
 | _=>exact h
theorem fg{l:List Value}{m:List AV}{γ gd:Bool}(h:RepL I σ.own θ w l m)(hγ:gd=true->γ=true)(ht:∀ p∈(m.map (AV.there γ gd)).flatten,p):RepL I σ.own θ w l (m.map AV.uncond):=by
 induction h with
 | nil=>exact .nil
 | cons h _ ih=>
  simp only[Cz,List.flatten_cons,zzL11]at ht;exact .cons (TU h hγ λp hp=>ht p (.inl hp)) (ih λp hp=>ht p (.inr hp))
theorem JO{v:Value}{x:AV}{ps:List Prop}{b:Bool}(hx:x.boolIn=some (ps,b))(h:Rep I σ.own θ w v x)(hp:∀ p∈ps,p):v = .bool b:=by
 unfold AV.boolIn at hx
 split at hx
 ·obtain⟨rfl,rfl⟩:=hx;exact h.bool_inv
 ·obtain⟨rfl,rfl⟩:=hx;exact(h.cond_inv.1 (hp _ (by simp))).bool_inv
 ·cases hx
theorem wG(h:Rel Γ σ I θ a w)(hd:∀ d,o.dst=some d->d<Γ.n){vs:List AV}(hp:HX o=true)(hvs:RepL I σ.own θ w (o.op.operands.toList.map a.eval) vs){γ gd:Bool}(hγ:gd=true->γ=true)
  (hth:∀ p∈FM γ gd vs,p) {e:Eff} (he:pV vs=some e) (hob:∀ p∈e.ob,p):G4 P Γ σ o a w e.v e.wo:=by
 unfold HX at hp
 split at hp
 ·rename_i c x y ho
  simp only[ho,Op.operands,Cz,J8]at hvs;obtain⟨vc,vx,vy,rfl,hc,hx,hy⟩:=hvs.three;simp only[pV]at he
  split at he
  ·rename_i cb pa xa pb xb hcu hxa hyb
   simp only[Aw]at he;subst he;have hc':=TU hc hγ hth;rw[hcu]at hc';have ec:=hc'.bool_inv;simp only[zzL11]at hob
   cases cb with
   | true=>
    have ex:=JO hxa hx (λp hp=>hob _ (.inl (zzL21.2 ⟨p,hp,rfl⟩)) rfl);exact Bl h hd (v:=.bool xa) (by simp[execOp,ho,ec,ex,asBool]) (.val _ _ (.bool _))
   | false=>
    have ey:=JO hyb hy (λp hp=>hob _ (.inr (zzL21.2 ⟨p,hp,rfl⟩)) rfl);exact Bl h hd (v:=.bool xb) (by simp[execOp,ho,ec,ey,asBool]) (.val _ _ (.bool _))
  ·cases he
 ·cases hp
theorem RepL.append{own:Nat->Option Own}{l l':List Value}{m m':List AV}(h:RepL I own θ w l m)(h':RepL I own θ w l' m'):RepL I own θ w (l++l') (m++m'):=by
 induction h with
 | nil=>exact h'
 | cons h _ ih=>exact .cons h ih
theorem la{own:Nat->Option Own}:∀{l:List Value} {m:List AV},l.length=m.length->(∀ j,j<m.length->Rep I own θ w (l.getD j undef) (m.getD j .any))->RepL I own θ w l m
 | [],[],_,_=>.nil
 | [],_::_,h,_=>by simp at h
 | _::_,[],h,_=>by simp at h
 | v::l,x::m,h,hr=>.cons (by simpa using hr 0 (by simp)) (la (by simpa using h) λj hj=>by simpa using hr (j+1) (by simpa using hj))
theorem OW{own:Nat->Option Own}{l:Array Value}{m:List AV}(h:l.size=m.length)(hr:∀ j,j<m.length->Rep I own θ w (l.getD j undef) (m.getD j .any)):RepL I own θ w l.toList m:=
 la (by simpa using h) λj hj=>by
  simp_all
theorem YZ(h:Rel Γ σ I θ a w)(hd:∀ d,o.dst=some d->d<Γ.n){vs:List AV}(hvs:vs=o.op.operands.toList.map (eL σ.tmp)){r:Option Wa}{es:List (Option Own)}(hes:es=(W6 o vs r).map σ.own){γ gd:Bool}{hint:Nat}(hγ:gd=true->γ=true)
  (hth:∀ p∈(bif HX o then FM γ gd vs else(vs.map (AV.there γ gd)).flatten),p) {e:Eff}
  (he:k6 P (Spec P) hint o vs es r=some e) (hob:∀ p∈e.ob,p) :
  G4 P Γ σ o a w e.v e.wo:=by
 have hall:RepL I σ.own θ w (o.op.operands.toList.map a.eval) vs:=by rw[hvs];exact nw h _
 unfold k6 at he
 cases hp:HX o with
 | true=>
  simp only[hp,Af]at he hth;exact wG h hd hp hall hγ hth he hob
 | false=>
  simp only[hp,Ar]at he hth;have hun:=fg hall hγ hth
  cases hc:SD o with
  | false=>
   simp only[hc,Ar]at he;exact dt h hd hun (by rw[hes];simp[W6,hc]) he hob
  | true=>
   simp only[hc,Af]at he
   split at he
   ·rename_i f az r' hf
    unfold qM at hf
    split at hf
    ·rename_i g xs ts ho
     simp only[Aw,O9]at hf;obtain⟨rfl,rfl⟩:=hf
     have e1:o.op.operands.toList.map a.eval = .func (.func g) #[] #[]::xs.toList.map a.eval:=by rw[ho];simp[Op.operands,Call.operands,Act.eval]
     have hl:RepL I σ.own θ w (xs.toList.map a.eval) ((vs.map AV.uncond).drop 1):=by
      rw[e1]at hun
      generalize vs.map AV.uncond=m at hun
      cases hun with|cons _ t=>simpa using t
     refine lP (ws:=xs.toList.map a.eval) h hd ?_ hl (by rw[hes];simp[W6,hc]) he hob
     have e2:(xs.toList.map a.eval).toArray=xs.map a.eval:=by apply V0;simp
     rw[e2];simp[execOp,ho,resolve,invoke,Deferred.ofValue,Act.eval]
    ·rename_i t xs ts ho
     split at hf
     ·rename_i g fs cs rest hm
      simp only[Aw,O9]at hf;obtain⟨rfl,rfl⟩:=hf
      have e1:o.op.operands.toList.map a.eval=a.eval (.tmp t)::xs.toList.map a.eval:=by rw[ho];simp[Op.operands,Call.operands]
      rw[e1,hm]at hun
      cases hun with
      | cons hh ht=>
       obtain⟨fv,cv,hv,l1,l2,r1,r2⟩:=hh.clo_inv;have hR:RepL I σ.own θ w (fv.toList++xs.toList.map a.eval++cv.toList) (fs++rest++cs):=RepL.append (RepL.append (OW l1 r1) ht) (OW l2 r2);refine lP (ws:=fv.toList++xs.toList.map a.eval++cv.toList) h hd ?_ hR (by rw[hes];simp[W6,hc]) he hob
       have e2:(fv.toList++xs.toList.map a.eval++cv.toList).toArray=fv++xs.map a.eval++cv:=by apply V0;simp
       rw[e2];simp[execOp,ho,resolve,invoke,Deferred.ofValue,hv]
     ·cases hf
    ·cases hf
   ·cases he
theorem ff{d:Option Nat}{x y:AV}{wo:List (Nat×Own)}(h:Rel Γ (σ.upd d x wo) I θ a w)(hxy:AVle x y):Rel Γ (σ.upd d y wo) I θ a w:=by
 refine⟨h.size,h.defers,λt=>?_,h.chg⟩;have:=h.slots t;simp only[Sto.upd]at this ⊢
 split
 ·rename_i hdt
  rw[if_pos hdt]at this;exact hxy _ _ _ _ _ this
 ·grind
theorem bc{y:AV}{wo:List (Nat×Own)}(h:∀ p∈(RQ y wo).2,p):(RQ y wo).1=wo:=by
 unfold RQ at h ⊢
 split at h
 ·have:=h _ (zzL22.2 rfl);subst this
  rfl
 ·rfl
theorem NY{c:Option AV}{e:Eff}(hob:∀ p∈(RP c e).ob,p):(∀ p∈e.ob,p)/\(RP c e).wo=e.wo/\AVle e.v (RP c e).v:=by
 unfold RP at hob ⊢
 split at hob
 ·exact⟨hob,rfl,λ_ _ _ _ _ h=>h⟩
 ·refine⟨λp hp=>hob p (zzL11.2 (.inl hp)),bc λp hp=>hob p (zzL11.2 (.inr (Mn _ hp))),hob _ (zzL11.2 (.inr (by simp)))⟩
theorem rx{d:Option Nat}{x:AV}{wo:List (Nat×Own)}{c:Bool}(h:Rel Γ (σ.upd d x wo) I θ a w)(hc:c=true):Rel Γ (σ.upd d (.cond c x) wo) I θ a w:=by
 refine⟨h.size,h.defers,λt=>?_,h.chg⟩;have:=h.slots t;simp only[Sto.upd]at this ⊢
 split
 ·rename_i hdt
  rw[if_pos hdt]at this;exact .cond _ _ _ (λ_=>this) (λhf=>by rw[hc]at hf;cases hf)
 ·grind
theorem eU{ops:Array Oper}{j:Nat}{want:Bool}(hg:o.guard=some (j,want)){oj:Oper}(hj:ops[j]?=some oj){t:Nat}(ht:oj.dst=some t)(h:Rel Γ σ I θ a w){γ:Bool}(hγ:qf want (σ.tmp t)=some γ) :
  Region.wanted o (yielded ops a.tmps)=γ:=by
 have hs:=h.slots t
 have hy:yielded ops a.tmps j=match a.tmps.getD t undef with | .bool b=>some b|_=>none:=by
  simp only[yielded,hj,Ak,ht]
  by_cases hlt:t<a.tmps.size
  ·obtain⟨u,hu,hu'⟩:=FD  hlt;rw[hu,hu']
   cases u<;>rfl
  ·simp[ hlt,undef]
 simp only[Region.wanted,hg,hy];unfold qf at hγ
 split at hγ
 ·rename_i b hb
  rw[hb]at hs;rw[hs.bool_inv];simp only[Aw]at hγ;subst hγ
  cases b<;>cases want<;>rfl
 ·rename_i c b hb
  rw[hb]at hs;obtain⟨h1,h2⟩:=hs.cond_inv;simp only[Aw]at hγ;subst hγ
  cases c with
  | true=>rw[(h1 rfl).bool_inv];cases b<;>cases want<;>rfl
  | false=>rw[h2 rfl];rfl
 ·rename_i hb
  rw[hb]at hs;rw[hs.undef_inv];simp only[Aw]at hγ;subst hγ
  rfl
 ·cases hγ
theorem rD{γ:Bool}{x y z:AV}(h:x.merge γ y=some z):z=bif γ then y else x:=by
 cases x<;>cases y<;>simp only[AV.merge,reduceCtorEq,Aw]at h<;>try (cases h;done)
 case int.int k a k' b=>
  cases hk:ZI k k' with
  | false=>simp[hk]at h
  | true=>obtain rfl:=Y2 hk;simp only[hk,Af,Aw]at h;subst h;cases γ<;>rfl
 case bool.bool=>subst h;cases γ<;>rfl
 case str.str=>subst h;cases γ<;>rfl
 case nilp.nilp=>subst h;cases γ<;>rfl
 case omap.omap n n'=>
  cases hb:Nat.beq n n' with
  | false=>simp[hb]at h
  | true=>obtain rfl:=Ej hb;simp only[hb,Af,Aw]at h;subst h;cases γ<;>rfl
 case any.any=>subst h;cases γ<;>rfl
 case ptr.ptr n o n' o'=>
  cases hb:(Nat.beq n n'&&Nat.beq o o') with
  | false=>simp[hb]at h
  | true=>
   simp_all
 case nilm.nilm=>subst h;cases γ<;>rfl
 case err.err=>subst h;cases γ<;>rfl
 case vsl.vsl n k n' k'=>
  cases hb:Nat.beq n n' with
  | false=>simp[hb]at h
  | true=>obtain rfl:=Ej hb;simp only[hb,Af,Aw]at h;subst h;cases γ<;>rfl
 case slice.slice sz n f t sz' n' f' t'=>
  cases t<;>cases t'<;>simp only[AV.merge,reduceCtorEq]at h
  ·cases hb:Nat.beq sz sz' with
   | false=>simp[hb]at h
   | true=>
    obtain rfl:=Ej hb;simp only[hb,Af,Aw]at h;subst h;cases γ<;>rfl
  ·rename_i k k'
   cases hb:(Nat.beq sz sz'&&Nat.beq k k') with
   | false=>simp[hb]at h
   | true=>
    simp only[hb,Af,Aw]at h;simp only[A4]at hb;obtain rfl:=Ej hb.1;obtain rfl:=Ej hb.2;subst h;cases γ<;>rfl
theorem OM{γ:Bool}:∀{l m r:List AV},AV.mergeAll γ l m=some r->r=bif γ then m else l
 | [],[],r,h=>by simp only[AV.mergeAll,Aw]at h;subst h;cases γ<;>rfl
 | [],_::_,r,h=>by simp[AV.mergeAll]at h
 | _::_,[],r,h=>by simp[AV.mergeAll]at h
 | x::l,y::m,r,h=>by
  simp only[AV.mergeAll]at h
  split at h
  ·rename_i z q h1 h2
   simp only[Aw]at h;subst h;rw[rD h1,OM h2]
   cases γ<;>rfl
  ·cases h
theorem OU{γ:Bool}{x y z:Own}(h:x.merge γ y=some z):z=bif γ then y else x:=by
 cases x<;>cases y<;>simp only[Own.merge,reduceCtorEq]at h
 ·rename_i e l e' m
  cases hb:Nat.beq e e' with
  | false=>simp[hb]at h
  | true=>
   obtain rfl:=Ej hb;simp only[hb,Af]at h
   split at h
   ·rename_i r hr
    simp only[Aw]at h;subst h;rw[OM hr]
    cases γ<;>rfl
   ·cases h
 ·rename_i sz e n sz' e' n'
  cases hs:Nat.beq sz sz' with
  | false=>simp[hs]at h
  | true=>
   cases hb:Nat.beq e e' with
   | false=>simp[hb]at h
   | true=>
    obtain rfl:=Ej hb;obtain rfl:=Ej hs;simp only[hb,hs,Bool.and_self,Af,Aw]at h;subst h
    cases γ<;>rfl
 ·rename_i sz e n f sz' e' n' f'
  cases hs:Nat.beq sz sz' with
  | false=>simp[hs]at h
  | true=>
   cases hb:Nat.beq e e' with
   | false=>simp[hb]at h
   | true=>
    obtain rfl:=Ej hb;obtain rfl:=Ej hs;simp only[hb,hs,Bool.and_self,Af,Aw]at h;subst h
    cases γ<;>rfl
 ·rename_i x y
  cases x<;>cases y<;>simp only[reduceCtorEq]at h
  rename_i nn k l nn' k' l'
  cases hn:nn==nn' with
  | false=>simp[hn]at h
  | true=>
   cases hk:ZI k k' with
   | false=>simp[hk]at h
   | true=>
    obtain rfl:=Y2 hk
    obtain rfl:nn=nn':=by simpa using hn
    simp only[hn,hk,Bool.and_self,Af,Aw]at h;subst h
    cases γ<;>rfl
theorem fT{own:Nat->Option Own}:∀{ns:List Nat} {n:Nat} {o:Own},fS ns (ns.map own) n=some o->own n=some o
 | [],n,o,h=>by simp[fS]at h
 | k::ns,n,o,h=>by
  simp only[Cz,fS]at h
  cases hb:Nat.beq k n with
  | true=>simp_all
  | false=>simp only[hb]at h;exact fT h
theorem KE{ns:List Nat}{es:List (Option Own)}:∀{wo wo':List (Nat×Own)},Wn true ns es wo=some wo'->wo'=wo
 | [],wo',h=>by simp only[Wn,Aw]at h;exact h.symm
 | (n,o)::r,wo',h=>by
  simp only[Wn]at h
  split at h
  ·cases h
  ·rename_i r' h2
   have h2:=KE h2;subst h2
   split at h
   ·split at h
    ·rename_i z h1
     simp only[Aw]at h;subst h;rw[OU h1]
     rfl
    ·grind
   ·grind
theorem GT{own:Nat->Option Own}{ns:List Nat}:∀{wo wo':List (Nat×Own)},Wn false ns (ns.map own) wo=some wo'->∀ n o,Ai wo' n=some o->own n=some o
 | [],wo',h=>by simp only[Wn,Aw]at h;subst h;intro n o h;cases h
 | (n,o)::r,wo',h=>by
  simp only[Wn]at h
  split at h
  ·cases h
  ·rename_i r' h2
   have h2:=GT h2
   split at h
   ·rename_i o' ho'
    split at h
    ·rename_i z h1
     simp only[Aw]at h;subst h;intro k q hk;simp only[Ai]at hk
     cases hb:Nat.beq n k with
     | true=>
      obtain rfl:=Ej hb;simp only[hb,Af,Aw]at hk;subst hk;rw[OU h1];exact fT ho'
     | false=>grind
    ·grind
   ·grind
theorem sR{d:Option Nat}{x:AV}{wo:List (Nat×Own)}(h:∀ n o,Ai wo n=some o->σ.own n=some o):σ.upd d x wo=σ.upd d x []:=by
 simp only[Sto.upd,Sto.mk.injEq,true_and]
 funext n
 cases hl:Ai wo n with
 | none=>rfl
 | some o=>simp[h n o hl,Ai]
theorem jX{ops:Array Oper}{i:Nat}(hi:ops[i]?=some o)(h:Rel Γ σ I θ a w)(hd:∀ d,o.dst=some d->d<Γ.n){vs:List AV}(hvs:vs=o.op.operands.toList.map (eL σ.tmp)){gv:Option (AV×Bool)}(hgv:DA ops.toList σ.tmp o=some gv)
  {r:Option Wa} {es:List (Option Own)} (hes:es=(W6 o vs r).map σ.own) {cs:Option AV} {e:Abu} (he:sJ P (Spec P) cs o vs gv es r=some e) (hob:∀ p∈e.ob,p)
  (K:Act->World->Prop) (Q:Exit->Act->World->Prop) (hK:∀ I' θ' a' w',Rel Γ (σ.upd o.dst e.v e.wo) I' θ' a' w'->K a' w'):wpOp P ops Q i K a w:=by
 unfold sJ at he;unfold DA at hgv;unfold wpOp;simp only[hi]
 cases hg:o.guard with
 | none=>
  simp only[hg,Aw]at hgv;subst hgv;simp only at he
  split at he
  ·rename_i ef' hef'
   obtain⟨ef,hef,rfl⟩:=zzL75.1 hef';simp only[Aw]at he;subst he;simp only[zzL11]at hob;obtain⟨c1,c2,c3⟩:=NY (λp hp=>hob p (.inr hp));rw[if_pos (by simp[Region.wanted,hg])];have hok:=YZ h hd hvs hes (γ:=true) (gd:=false) (λh=>by cases h) (λp hp=>hob p (.inl hp)) hef c1;refine .inl (hok K Q λI' θ' a' w' hr=>hK I' θ' a' w' ?_);rw[c2];exact ff hr c3
  ·cases he
 | some gg=>
  obtain⟨j,want⟩:=gg;simp only[hg]at hgv
  split at hgv
  ·rename_i oj hoj
   split at hgv
   ·rename_i t ht
    simp only[Aw]at hgv;subst hgv;simp only at he
    split at he
    ·rename_i γ ef' hγ hef'
     obtain⟨ef,hef,rfl⟩:=zzL75.1 hef'
     split at he
     ·rename_i wo hwo
      simp only[Aw]at he;subst he
      have hj :=by simpa using hoj
      have hw:=eU hg hj ht h hγ;rw[hw];simp only[zzL11]at hob
      cases γ with
      | false=>
       rw[hes]at hwo;have hs:=sR (σ:=σ) (d:=o.dst) (x:=.cond false (RP (jC o cs) ef).v) (GT hwo);refine hK I θ _ _ ?_;rw[hs];exact KO h (.refl h.chg.rel h.chg.valid)  (.cond _ _ _ (λhf=>by cases hf) (λ_=>rfl)) hd
      | true=>
       obtain⟨c1,c2,c3⟩:=NY  (e:=ef) (λp hp=>hob _ (.inr (zzL21.2 ⟨p,hp,rfl⟩)) rfl);have hok:=YZ h hd hvs hes (γ:=true) (gd:=true) (λ_=>rfl) (λp hp=>hob p (.inl hp)) hef c1;have hm:=KE hwo;rw[c2]at hm;subst hm;exact .inl (hok K Q λI' θ' a' w' hr=>hK I' θ' a' w' (rx (ff hr c3) rfl))
     ·cases he
    ·cases he
   ·cases hgv
  ·cases hgv
end
structure Ev where
 rt:List (Nat×AV)
 ro:List (Nat×Option Own)
 wt:Option Nat
 v:AV
 wo:List (Nat×Own)
def Ev.ok(σ:Sto)(e:Ev):Prop:=(∀ p∈e.rt,σ.tmp p.1=p.2)/\∀ p∈e.ro,σ.own p.1=p.2
def Ev.app(σ:Sto)(e:Ev):Sto:=σ.upd e.wt e.v e.wo
def Ev.tr(e:Ev):Tr:=⟨e.rt.map (·.1),e.wt,e.ro.map (·.1),e.wo.map (·.1)⟩
structure GN(x y:Ev):Prop where
 a:∀ d,x.wt=some d->d∉y.rt.map (·.1)
 b:∀ d,x.wt=some d->y.wt≠some d
 c:∀ d,y.wt=some d->d∉x.rt.map (·.1)
 d:∀ n∈x.wo.map (·.1),n∉y.ro.map (·.1)/\n∉y.wo.map (·.1)
 e:∀ n∈y.wo.map (·.1),n∉x.ro.map (·.1)
theorem KF{n:Nat}{l:List Nat}(h:(!B8 n l)=true):n∉l:=λhm=>by rw[memB_mem.2 hm]at h;cases h
theorem bj{x y:Ev}(h:iY x.tr y.tr=true):GN x y:=by
 simp only[iY,Ev.tr,A4]at h;obtain⟨⟨⟨h1,h2⟩,h3⟩,h4⟩:=h;refine⟨λd hd=>?_,λd hd=>?_,λd hd=>?_,λn hn=>?_,λn hn=>?_⟩
 ·rw[hd]at h1;simp only[A4]at h1;exact KF h1.1
 ·rw[hd]at h1;intro he;rw[he]at h1;simp at h1
 ·rw[hd]at h2;exact KF h2
 ·have:=zzL29.1 h3 n hn;simp only[A4]at this;exact⟨KF this.1,KF this.2⟩
 ·exact KF (zzL29.1 h4 n hn)
inductive dg:List (Nat×Ev)->Sto->Sto->Prop
 | nil (σ:Sto):dg [] σ σ
 | cons {i:Nat} {e:Ev} {l:List (Nat×Ev)} {σ σ':Sto} (h:e.ok σ) (t:dg l (e.app σ) σ'):dg ((i,e)::l) σ σ'
theorem kl(σ:Sto)(e:Ev)(t:Nat)(h:e.wt≠some t):(e.app σ).tmp t=σ.tmp t:=by simp[Ev.app,Sto.upd,h]
theorem kj(σ:Sto)(e:Ev)(n:Nat)(h:n∉e.wo.map (·.1)):(e.app σ).own n=σ.own n:=by simp[Ev.app,Sto.upd,Xy h]
theorem wE{σ:Sto}{x y:Ev}(hi:GN x y)(h:y.ok (x.app σ)):y.ok σ:=by
 refine⟨λp hp=>?_,λp hp=>?_⟩
 ·rw[<- h.1 p hp,kl];intro he;exact hi.a p.1 he (zzL21.2 ⟨p,hp,rfl⟩)
 ·rw[<- h.2 p hp,kj];intro he;exact(hi.d p.1 he).1 (zzL21.2 ⟨p,hp,rfl⟩)
theorem zZ{σ:Sto}{x y:Ev}(hi:GN x y)(h:x.ok σ):x.ok (y.app σ):=by
 refine⟨λp hp=>?_,λp hp=>?_⟩
 ·rw[kl]
  ·exact h.1 p hp
  ·intro he;exact hi.c p.1 he (zzL21.2 ⟨p,hp,rfl⟩)
 ·rw[kj]
  ·exact h.2 p hp
  ·intro he;exact hi.e p.1 he (zzL21.2 ⟨p,hp,rfl⟩)
theorem pd{σ:Sto}{x y:Ev}(hi:GN x y):x.app (y.app σ)=y.app (x.app σ):=by
 simp only[Ev.app,Sto.upd,Sto.mk.injEq]
 constructor
 ·funext t
  by_cases h1:x.wt=some t
  ·have:=hi.b t h1;simp[ this]
  ·simp[h1]
 ·funext n
  by_cases h1:n∈x.wo.map (·.1)
  ·have:=Xy (hi.d n h1).2;simp[this]
  ·simp[Xy h1]
theorem n5{pre:List (Nat×Ev)}:∀{post:List (Nat×Ev)} {i:Nat} {e:Ev} {σ σ':Sto},dg (pre++(i,e)::post) σ σ'->(∀ p∈pre,GN p.2 e)->e.ok σ/\dg (pre++post) (e.app σ) σ':=by
 induction pre with
 | nil=>intro post i e σ σ' h _;cases h with|cons h t=>exact⟨h,t⟩
 | cons p pre ih=>
  intro post i e σ σ' h hi;obtain⟨j,x⟩:=p
  cases h with|cons hx t=>
  obtain⟨h1,h2⟩:=ih t λp hp=>hi p (Mn _ hp);have hxe:=hi (j,x) (by simp);refine⟨wE hxe h1,.cons (zZ hxe hx) ?_⟩;rw[pd hxe];exact h2
section
variable {P:Program} {Γ:Hx} {ops:Array Oper} {Q:Exit->Act->World->Prop}
def bJ(P:Program)(Γ:Hx)(ops:Array Oper)(Q:Exit->Act->World->Prop)(i:Nat)(e:Ev):Prop:=
 ∀(σ:Sto),e.ok σ->∀(I:Nat->Nat->Prop) (θ:Nat->Option (Nat×Nat)) (a:Act) (w:World),Rel Γ σ I θ a w->∀ K:Act->World->Prop,(∀ I' θ' a' w',Rel Γ (e.app σ) I' θ' a' w'->K a' w')->wpOp P ops Q i K a w
theorem UK:∀(es:List (Nat×Ev)) (σ σ':Sto),(∀ p∈es,bJ P Γ ops Q p.1 p.2)->dg es σ σ'->(∀ I θ a w,Rel Γ σ' I θ a w->Q .normal a w)->
  ∀ I θ a w,Rel Γ σ I θ a w->wpOps P ops Q (es.map (·.1)) a w
 | [],σ,σ',_,hr,hQ,I,θ,a,w,h=>by cases hr;simpa [wpOps] using hQ I θ a w h
 | (i,e)::es,σ,σ',hs,hr,hQ,I,θ,a,w,h=>by
  cases hr with|cons hok t=>
  simp only[Cz];exact hs (i,e) (by simp) σ hok I θ a w h _ λI' θ' a' w' h'=>UK es _ σ' (λp hp=>hs p (Mn _ hp)) t hQ I' θ' a' w' h'
inductive w7 (ops:Array Oper):Nat->Nat->Prop
 | direct {i:Nat} {o:Oper} {e:Edge} (ho:ops[i]?=some o) (he:e∈o.after) (hb:Region.binds .any e=true):w7 ops e.on i
 | trans {i j k:Nat} (h:w7 ops i j) (h':w7 ops j k):w7 ops i k
def oT(ops:Array Oper)(listed:Array Bool):Prop:=∀ i o,ops[i]?=some o->listed.getD i false=true->∀ e∈o.after,Region.binds .any e=true->listed.getD e.on false=true
theorem iA{listed:Array Bool}(hc:oT ops listed){j i:Nat}(h:w7 ops j i):(∀ o,ops[i]?=some o->∀ e∈o.after,Region.binds .any e=true->listed.getD e.on false=true)->listed.getD j false=true:=by
 induction h with
 | direct ho he hb=>grind
 | trans _ _ ih1 ih2=>intro hi;exact ih1 λo ho e he hb=>hc _ o ho (ih2 hi) e he hb
theorem YL(hedge:∀ i o,ops[i]?=some o->∀ e∈o.after,Region.binds .any e=true->e.on<i)(σ':Sto)(hQ:∀ I θ a w,Rel Γ σ' I θ a w->Q .normal a w):∀(fuel:Nat) (es:List (Nat×Ev)) (listed:Array Bool) (σ:Sto),
  (∀ p∈es,bJ P Γ ops Q p.1 p.2)->dg es σ σ'->es.Pairwise (λp q=>p.1<q.1)->listed.size=ops.size->(∀ j,j∈es.map (·.1)↔j<ops.size/\listed.getD j true=false)->es.length=fuel->
  (∀ p∈es,∀ q∈es,p.1<q.1->¬ GN p.2 q.2->w7 ops p.1 q.1)->oT ops listed->∀ I θ a w,Rel Γ σ I θ a w->wpAny P .any ops Q fuel listed a w
 | 0,es,listed,σ,_,hr,_,_,hmem,hlen,_,_,I,θ,a,w,h=>by
  have:es=[]:=List.eq_nil_of_length_eq_zero hlen;subst this;cases hr;refine⟨?_,hQ I θ a w h⟩
  cases hready:Region.ready .any ops listed with
  | nil=>rfl
  | cons i l=>
   have hi:i∈Region.ready .any ops listed:=by rw[hready];simp
   obtain⟨h1,o,ho,_⟩:=mem_ready.1 hi;have:=(hmem i).2 ⟨(Array.getElem?_eq_some_iff.1 ho).1,h1⟩
   cases this
 | fuel+1,es,listed,σ,hs,hr,hpw,hsz,hmem,hlen,hdep,hcl,I,θ,a,w,h=>by
  refine⟨λhnil=>?_,λi hi=>?_⟩
  ·cases es with
   | nil=>simp at hlen
   | cons p es=>
    obtain⟨i,e⟩:=p;have hi:=(hmem i).1 (by simp)
    have hin:i∈Region.ready .any ops listed:=by
     refine mem_ready.2 ⟨hi.2,ops[i]'hi.1,by simp[hi.1],λe' he' hb=>?_⟩;have hlt:=hedge i _ (Array.getElem?_eq_getElem hi.1) e' he' hb
     have hnot:¬ (e'.on∈((i,e)::es).map (·.1)):=by
      intro hm;simp only[Cz,zzL31]at hm;rcases hm with hm|hm
      ·omega
      ·obtain⟨q,hq,hq'⟩:=zzL21.1 hm;have:=(zzL92.1 hpw).1 q hq;simp only at this;omega
     rw[hmem]at hnot
     have hlt':e'.on<ops.size:=by omega
     have hls:e'.on<listed.size:=by omega
     cases hb':listed.getD e'.on false with
     | true=>rfl
     | false=>
      refine(hnot ⟨hlt',?_⟩).elim
      simpa [Array.getD,hls] using hb'
    rw[hnil]at hin;cases hin
  ·obtain⟨h1,o,ho,hedges⟩:=mem_ready.1 hi;have hlt:=(Array.getElem?_eq_some_iff.1 ho).1;have hin:=(hmem i).2 ⟨hlt,h1⟩;obtain⟨⟨i',e⟩,hie,rfl⟩:=zzL21.1 hin;obtain⟨pre,post,rfl⟩:=List.append_of_mem hie;simp only at *
   have hpre:∀ p∈pre,GN p.2 e:=λp hp=>by
    refine ck λhni=>?_
    have hpi:p.1<i':=by
     have:=(zzL121.1 hpw).2.2 p hp (i',e) (by simp);exact this
    have hanc:=hdep p (by simp[hp]) (i',e) (by simp) hpi hni
    have hl:=iA hcl hanc (λo' ho' e' he' hb=>by
     simp only at ho';rw[ho]at ho';obtain rfl:=OI ho'
     exact hedges e' he' hb)
    have hp':=(hmem p.1).1 (zzL21.2 ⟨p,by simp[hp],rfl⟩)
    have hls:p.1<listed.size:=by omega
    simp[Array.getD,hls]at hl hp';rw[hl]at hp';simp at hp'
   obtain⟨hok,hr'⟩:=n5 hr hpre
   have hpw':(pre++post).Pairwise (λp q=>p.1<q.1):=by
    refine hpw.sublist ?_;exact List.Sublist.append (List.Sublist.refl _) (List.sublist_cons_self _ _)
   have hsub:∀ p,p∈pre++post->p∈pre++(i',e)::post:=λp hp=>by
    rcases zzL11.1 hp with hp|hp
    ·exact zzL11.2 (.inl hp)
    ·exact zzL11.2 (.inr (Mn _ hp))
   refine hs (i',e) (by simp) σ hok I θ a w h _ λI' θ' a' w' h'=>
    YL hedge σ' hQ fuel (pre++post) (listed.setIfInBounds i' true) _ (λp hp=>hs p (hsub p hp)) hr' hpw' (by simp[hsz]) (λj=>?_) (by simp at hlen ⊢;omega) (λp hp q hq=>hdep p (hsub p hp) q (hsub q hq)) ?_ I' θ' a' w' h'
   ·have hne:∀ p∈pre++post,p.1≠i':=λp hp he=>by
     rcases zzL11.1 hp with hp|hp
     ·have:=(zzL121.1 hpw).2.2 p hp (i',e) (by simp);simp only at this;omega
     ·have:=(zzL92.1 (zzL121.1 hpw).2.1).1 p hp;simp only at this;omega
    constructor
    ·intro hj;obtain⟨p,hp,rfl⟩:=zzL21.1 hj;have:=(hmem p.1).1 (zzL21.2 ⟨p,hsub p hp,rfl⟩);refine⟨this.1,?_⟩;rw[getD_set_ne true (Sd (hne p hp))];exact this.2
    ·rintro⟨hj1,hj2⟩
     by_cases hji:j=i'
     ·subst hji
      have hls:j<listed.size:=by omega
      simp[Array.getD,hls]at hj2
     ·rw[getD_set_ne true (Sd hji)]at hj2;have:=(hmem j).2 ⟨hj1,hj2⟩;obtain⟨p,hp,rfl⟩:=zzL21.1 this;refine zzL21.2 ⟨p,?_,rfl⟩;rcases zzL11.1 hp with hp|hp
      ·exact zzL11.2 (.inl hp)
      ·rcases zzL31.1 hp with rfl|hp
       ·exact(hji rfl).elim
       ·exact zzL11.2 (.inr hp)
   ·intro x ox hox hx e' he' hb
    apply getD_set_true
    by_cases hxi:i'=x
    ·subst hxi;rw[ho]at hox;obtain rfl:=OI hox;exact hedges e' he' hb
    ·rw[getD_set_ne false hxi]at hx;exact hcl x ox hox hx e' he' hb
end
theorem J1{α:Type}(l:List (Nat×α))(k:Nat)(x:α)(n:Nat):Ai (Ei l k x) n=if k=n then some x else Ai l n:=by
 induction l with
 | nil=>
  simp only[Ei,Ai]
  by_cases h:k=n
  · simp
  ·cases hb:Nat.beq k n with
   | true=>simp_all
   | false=>simp[h]
 | cons p l ih=>
  obtain⟨k',y⟩:=p;simp only[Ei]
  cases hb:Nat.beq k' k with
  | true=>
   have:=Ej hb;subst this;simp only[Af,Ai]
   by_cases h:k'=n
   ·subst h;simp
   ·cases hb:Nat.beq k' n with
    | true=>simp_all
    | false=>simp[h]
  | false=>
   simp only[Ar,Ai,ih]
   cases hb':Nat.beq k' n with
   | true=>
    grind
   | false=>simp
theorem eh{α:Type}(l r:List (Nat×α))(n:Nat):Ai (TN l r) n=match Ai r n with|some x=>some x|none=>Ai l n:=by
 induction r with
 | nil=>rfl
 | cons p r ih=>
  obtain⟨k,x⟩:=p;simp only[TN,J1,Ai,ih]
  by_cases h:k=n
  ·subst h;simp
  ·cases hb:Nat.beq k n with
   | true=>simp_all
   | false=>simp[h]
theorem Bd{l:List (Nat×Own)}{r:List (Nat×oG)}{k:Nat}(h:k<Bt):C4 l r k=Ai l k:=by simp[C4,h]
theorem Sr(b i:Nat):¬ T4 b i<Bt:=by unfold T4;have:Bt*1<=Bt*(b+1):=Nat.mul_le_mul_left _ (by omega);omega
theorem Yt{b i:Nat}(h:i<Bt):T4 b i / Bt-1=b:=by
 have h0:0<Bt:=by decide
 unfold T4;rw[Nat.mul_add_div h0,Nat.div_eq_of_lt h];omega
theorem Wd{b i:Nat}(h:i<Bt):T4 b i % Bt=i:=by
 unfold T4;rw[Nat.mul_add_mod,Nat.mod_eq_of_lt h]
theorem qA{k:Nat}(h:¬ k<Bt):k=T4 (k / Bt-1) (k % Bt):=by
 have h0:0<Bt:=by decide
 unfold T4;have:1<=k / Bt:=(Nat.one_le_div_iff h0).2 (by omega);rw[Nat.sub_add_cancel this,PK]
theorem Dg{l:List (Nat×Own)}{r:List (Nat×oG)}{k:Nat}(h:¬ k<Bt):C4 l r k=(Ai r (k / Bt-1)).bind λF=>(F.m (k % Bt)).map (Own.tok F.sz F.e):=by simp[C4,h]
theorem RW{l:List (Nat×Own)}{r:List (Nat×oG)}{b i:Nat}(h:i<Bt):C4 l r (T4 b i)=(Ai r b).bind λF=>(F.m i).map (Own.tok F.sz F.e):=by
 rw[Dg (Sr b i),Yt h,Wd h]
theorem Yv{l:List (Nat×Own)}{r:List (Nat×oG)}{k:Nat}(h:¬ k<Bt){o:Own}(ho:C4 l r k=some o):∃ sz e m,o = .tok sz e m:=by
 rw[Dg h]at ho;obtain⟨F,_,hF⟩:=zzL98.1 ho;obtain⟨m,_,rfl⟩:=zzL75.1 hF;exact⟨_,_,_,rfl⟩
theorem eM{l:List (Nat×Own)}{r:List (Nat×oG)}{k:Nat}{o:Own}(ho:C4 l r k=some o)(hn:∀ sz e m,o≠.tok sz e m):Ai l k=some o:=by
 by_cases hk:k<Bt
 ·rw[<- ho,Bd hk]
 ·obtain⟨sz,e,m,rfl⟩:=Yv hk ho;exact(hn _ _ _ rfl).elim
theorem MC{α:Type}{l:List (Nat×α)}{n:Nat}{x:α}(h:Ai l n=some x):(n,x)∈l:=by
 induction l with
 | nil=>cases h
 | cons p l ih=>
  obtain⟨k,y⟩:=p;simp only[Ai]at h
  cases hb:Nat.beq k n with
  | true=>
   simp_all
  | false=>grind
theorem TL{l:List (Nat×Own)}(h:TK l=true){k:Nat}(hk:Ai l k≠none):k<Bt:=by
 cases hx:Ai l k with
 | none=>exact(hk hx).elim
 | some o=>have:=zzL29.1 h _ (MC hx);simpa [Mo] using this
theorem be{l:List (Nat×Own)}(h:TK l=true):C4 l []=Ai l:=by
 funext k
 by_cases hk:k<Bt
 ·exact Bd hk
 ·rw[Dg hk]
  cases hx:Ai l k with
  | none=>rfl
  | some o=>exact(hk (TL h (by rw[hx];simp))).elim
theorem Ml{l:List (Nat×Own)}{r:List (Nat×oG)}{n:Nat}(hn:n<Bt)(o:Own)(k:Nat):C4 (Ei l n o) r k=if n=k then some o else C4 l r k:=by
 by_cases hk:k<Bt
 ·rw[Bd hk,Bd hk,J1]
 ·rw[Dg hk,Dg hk,if_neg (by rintro rfl;exact hk hn)]
theorem XN{l wo:List (Nat×Own)}{r:List (Nat×oG)}{ns:List Nat}(h:FQ ns wo=true)(k:Nat):C4 (TN l wo) r k=match Ai wo k with|some o=>some o|none=>C4 l r k:=by
 simp only[FQ,A4]at h
 by_cases hk:k<Bt
 ·rw[Bd hk,Bd hk,eh]
  cases Ai wo k<;>rfl
 ·have hn:Ai wo k=none:=by
   cases hx:Ai wo k with
   | none=>rfl
   | some o=>exact(hk (TL h.2 (by rw[hx];simp))).elim
  rw[hn,Dg hk,Dg hk]
theorem wZ(st:St)(d:Option Nat)(v:AV)(wo:List (Nat×Own)){ns:List Nat}(hok:FQ ns wo=true):(st.upd d v wo).sto=st.sto.upd d v wo:=by
 simp only[St.sto,St.upd,Sto.upd,Sto.mk.injEq]
 constructor
 ·funext t
  cases d with
  | none=>simp[St.get]
  | some d=>
   simp only[St.get,J1]
   by_cases h:d=t<;>simp[h]
 ·funext n
  rw[XN hok]
  cases Ai wo n<;>rfl
section
variable {P:Program} {Γ:Hx} {ops:Array Oper} {Q:Exit->Act->World->Prop}
theorem nC{g g':Nat->AV}(l:List Operand)(h:∀ t,.tmp t∈l->g t=g' t):l.map (eL g)=l.map (eL g'):=by
 apply cn
 intro x hx
 cases x with
 | tmp t=>exact h t hx
 | _=>rfl
theorem NX(cs:List (Nat×AV)):∀(rest:List Oper) (k:Nat) (st:St) (rs:List Wa) (st':St) (obs:List Prop) (trs:List Tr),pf P (Spec P) Γ.n cs ops.toList rest st rs=some (st',obs,trs)->
  (∀ j,rest[j]?=ops[k+j]?)->(∀ p∈obs,p)->
  ∃ es:List (Nat×Ev),es.map (·.1)=List.range' k rest.length/\dg es st.sto st'.sto/\(∀ p∈es,bJ P Γ ops Q p.1 p.2)/\es.map (λp=>p.2.tr)=trs
 | [],k,st,rs,st',obs,trs,h,_,_=>by
  simp only[pf,Aw,O9]at h;obtain⟨rfl,rfl,rfl⟩:=h;exact⟨[],rfl,.nil _,(λ_ h=>by cases h),rfl⟩
 | o::rest,k,st,rs,st',obs,trs,h,hops,hob=>by
  simp only[pf]at h
  generalize hr:xW o rs=r at h
  have ho:ops[k]?=some o:=by simpa using(hops 0).symm
  split at h
  ·cases h
  ·rename_i gv hgv
   split at h
   ·cases h
   ·rename_i e he
    cases hdn:qR Γ.n o&&FQ (W6 o (o.op.operands.toList.map (eL st.get)) r) e.wo with
    | false=>rw[hdn]at h;simp at h
    | true=>
     rw[hdn]at h;simp only[Af]at h;simp only[A4]at hdn;obtain⟨hd,hnok⟩:=hdn
     have hnlt:∀ n∈W6 o (o.op.operands.toList.map (eL st.get)) r,n<Bt:=λn hn=>by
      have hnok':=hnok;simp only[FQ,A4]at hnok';have:=zzL29.1 hnok'.1 n hn
      simpa [Mo] using this
     split at h
     ·cases h
     ·rename_i st1 obs1 trs1 hrec
      simp only[Aw,O9]at h;obtain⟨rfl,rfl,rfl⟩:=h;obtain⟨es,h1,h2,h3,h4⟩:=NX cs rest (k+1) _ _ _ _ _ hrec (λj=>by have:=hops (j+1);simpa [HE,Nat.add_comm 1 j] using this) (λp hp=>hob p (zzL11.2 (.inr hp)))
      let ns:=W6 o (o.op.operands.toList.map (eL st.get)) r
      let ev:Ev:=⟨(FL ops.toList o++jY o).map (λt=>(t,st.get t)),ns.map (λn=>(n,Ai st.own n)),o.dst,e.v,e.wo⟩
      refine⟨(k,ev)::es,by simp[HC,h1],.cons ⟨λp hp=>?_,λp hp=>?_⟩ (by rw[show ev.app st.sto=(st.upd o.dst e.v e.wo).sto from(wZ _ _ _ _ hnok).symm];exact h2),λp hp=>?_,?_⟩
      ·obtain⟨t,_,rfl⟩:=zzL21.1 hp;rfl
      ·obtain⟨n,hn,rfl⟩:=zzL21.1 hp;exact Bd (hnlt n hn)
      ·rcases zzL31.1 hp with rfl|hp
       ·intro σ hok I θ a w hrel K hK;have ht:∀ t,t∈FL ops.toList o++jY o->σ.tmp t=st.get t:=λt ht=>hok.1 (t,st.get t) (zzL21.2 ⟨t,ht,rfl⟩);have hn:∀ n,n∈ns->σ.own n=Ai st.own n:=λn hn=>hok.2 (n,Ai st.own n) (zzL21.2 ⟨n,hn,rfl⟩);have hvs:o.op.operands.toList.map (eL st.get)=o.op.operands.toList.map (eL σ.tmp):=nC _ λt hm=>(ht t (zzL11.2 (.inr (List.mem_filterMap.2 ⟨.tmp t,hm,rfl⟩)))).symm
        have hgv':DA ops.toList σ.tmp o=some gv:=by
         rw[<- hgv];unfold DA
         cases hg:o.guard with
         | none=>rfl
         | some jw=>
          obtain⟨j,want⟩:=jw
          dsimp only
          cases hj:ops.toList[j]? with
          | none=>rfl
          | some oj=>
           dsimp only
           cases hdj:oj.dst with
           | none=>rfl
           | some t=>
            dsimp only
            rw[ht t (zzL11.2 (.inl (by simp only[FL,hg,hj,hdj];simp)))]
        refine jX ho hrel (λd hdd=>?_) hvs hgv' (r:=r) (es:=ns.map (Ai st.own)) ?_ he (λp hp=>hob p (zzL11.2 (.inl hp))) K Q hK
        ·simp only[qR,hdd]at hd;simpa [Mo] using hd
        ·exact cn λn hn'=>(hn n hn').symm
       ·exact h3 p hp
      ·simp only[Cz,h4,Gl,Ho];simp[Ev.tr,ev,ns,VA]
theorem maskOf_spec(done:List Nat)(l:List Edge):∀(s j:Nat),(l.foldl (λs e=>bif Region.binds .any e then s ||| (2 ^ e.on ||| done.getD e.on 0) else s) s).testBit j=true->
  s.testBit j=true\/∃ e∈l,Region.binds .any e=true/\(e.on=j\/(done.getD e.on 0).testBit j=true):=by
 induction l with
 | nil=>grind
 | cons e l ih=>
  intro s j h;rcases ih _ j h with h'|⟨e',he',hb,hh⟩
  ·cases hb:Region.binds .any e with
   | false=>grind
   | true=>
    grind
  ·exact .inr ⟨e',Mn _ he',hb,hh⟩
theorem RJ:∀(l:List Oper) (done:List Nat),(∀ j,l[j]?=ops[done.length+j]?)->(∀ i j,(done.getD i 0).testBit j=true->w7 ops j i)->
  ∀ i j,((kh done l).getD i 0).testBit j=true->w7 ops j i
 | [],done,_,hd,i,j,h=>hd i j h
 | o::l,done,hops,hd,i,j,h=>by
  refine RJ l _ (λj=>by have:=hops (j+1);simpa [HE,Nat.add_comm 1 j] using this) (λi j hb=>?_) i j h
  by_cases hlt:i<done.length
  ·grind
  ·by_cases hi:i=done.length
   ·subst hi;rw[List.getD,Wt (zzL7 _)]at hb;simp only[Nat.sub_self, Option.getD_some]at hb
    have ho :=by simpa using(hops 0).symm
    rcases maskOf_spec _ _ 0 j hb with h'|⟨e,he,hbd,h'|h'⟩
    ·simp at h'
    ·subst h';exact .direct ho (by simpa using he) hbd
    ·exact .trans (hd _ _ h') (.direct ho (by simpa using he) hbd)
   ·grind
theorem JQ:∀(l:List Oper) (k:Nat),QV k l=true->∀ j o,l[j]?=some o->∀ e∈o.after,Region.binds .any e=true->e.on<k+j
 | [],_,_,j,o,h=>by simp at h
 | x::l,k,hg,j,o,h=>by
  simp only[QV,A4]at hg;intro e he hb
  cases j with
  | zero=>
   simp only[List.getElem?_cons_zero,Aw]at h;subst h;have:=zzL29.1 hg.1 e (by simpa using he)
   simpa [hb,Mo] using this
  | succ j=>
   have:=JQ l _ hg.2 j o (by simpa using h) e he hb;omega
theorem RV(ms:List Nat):∀(l:List (Nat×Ev)) (i:Nat) (prev:List (Nat×Ev)),kx ms i (prev.map λp=>(p.1,p.2.tr)) (l.map λp=>p.2.tr)=true->l.map (·.1)=List.range' i l.length->
  (∀ q∈l,∀ p∈prev,GN p.2 q.2\/(ms.getD q.1 0).testBit p.1=true)/\(∀ p∈l,∀ q∈l,p.1<q.1->GN p.2 q.2\/(ms.getD q.1 0).testBit p.1=true)
 | [],_,_,_,_=>⟨(λ_ h=>by cases h),(λ_ h=>by cases h)⟩
 | (i',e)::l,i,prev,h,hi=>by
  simp only[Cz,Tz,HC,Gl]at hi;obtain⟨rfl,hi⟩:=hi;simp only[Cz,kx,A4]at h;obtain⟨h1,h2⟩:=h;obtain⟨r1,r2⟩:=RV ms l _ ((i',e)::prev) h2 hi
  have hd:∀ p∈prev,GN p.2 e\/(ms.getD i' 0).testBit p.1=true:=λp hp=>by
   have:=zzL29.1 h1 _ (zzL21.2 ⟨p,hp,rfl⟩);simp only[EN]at this;rcases this with h|h
   ·exact .inl (bj h)
   ·exact .inr h
  refine⟨λq hq p hp=>?_,λp hp q hq hlt=>?_⟩
  ·grind
  ·rcases zzL31.1 hq with rfl|hq
   ·rcases zzL31.1 hp with rfl|hp
    ·grind
    ·have hm:p.1∈l.map _:=zzL21.2 ⟨p,hp,rfl⟩;rw[hi]at hm;have:=(List.mem_range'_1.1 hm).1;omega
   ·grind
theorem AP:∀(n k:Nat) (l:List (Nat×Ev)),l.map (·.1)=List.range' k n->l.Pairwise (λp q=>p.1<q.1)
 | 0,_,l,h=>by
  simp_all
 | n+1,k,[],h=>by grind
 | n+1,k,p::l,h=>by
  simp only[Cz,HC,Gl]at h;refine .cons (λq hq=>?_) (AP n _ l h.2);have hm:q.1∈l.map _:=zzL21.2 ⟨q,hq,rfl⟩;rw[h.2]at hm;have:=(List.mem_range'_1.1 hm).1;omega
end
theorem nL(l:List Nat)(g:Nat->AV)(t:Nat):Ai (l.map λt=>(t,g t)) t=if t∈l then some (g t) else none:=by
 induction l with
 | nil=>simp[Ai]
 | cons k l ih=>
  simp only[Cz,Ai,ih]
  cases hb:Nat.beq k t with
  | true=>simp_all
  | false=>
   have:t≠k:=by rintro rfl;simp at hb
   simp[this]
theorem il(l:List Nat)(g:Nat->Option Own)(n:Nat):Ai (l.filterMap λn=>match g n with|some o=>some (n,o)|none=>none) n=if n∈l then g n else none:=by
 induction l with
 | nil=>simp[Ai]
 | cons k l ih=>
  simp only[List.filterMap_cons]
  cases hk:g k with
  | none=>
   grind
  | some o=>
   simp only[Ai,ih]
   cases hb:Nat.beq k n with
   | true=>simp_all
   | false=>
    have:n≠k:=by rintro rfl;simp at hb
    simp[this]
theorem eg(l:List Nat)(g:Nat->Option oG)(n:Nat):Ai (l.filterMap λn=>match g n with|some o=>some (n,o)|none=>none) n=if n∈l then g n else none:=by
 induction l with
 | nil=>simp[Ai]
 | cons k l ih=>
  simp only[List.filterMap_cons]
  cases hk:g k with
  | none=>
   grind
  | some o=>
   simp only[Ai,ih]
   cases hb:Nat.beq k n with
   | true=>simp_all
   | false=>
    have:n≠k:=by rintro rfl;simp at hb
    simp[this]
theorem YF(live names:List Nat)(st:St)(n:Nat):Ai (Er live names st).fam n=if n∈names then Ai st.fam n else none:=by
 have e:(Er live names st).fam=names.filterMap λn=>match Ai st.fam n with|some o=>some (n,o)|none=>none:=by
  apply Bv (λf=>names.filterMap f)
  cases Ai st.fam n<;>rfl
 rw[e,eg]
theorem YG(live names:List Nat)(st:St)(n:Nat):Ai (Er live names st).own n=if n∈names then(Ai st.own n).map (Own.erase λn=>B8 n names) else none:=by
 have e:(Er live names st).own=names.filterMap λn=>match(Ai st.own n).map (Own.erase λn=>B8 n names) with|some o=>some (n,o)|none=>none:=by
  simp only[Er]
  congr 1
  funext n
  cases Ai _ n<;>rfl
 rw[e,il]
theorem YE{Γ:Hx}{I:Nat->Nat->Prop}{θ:Nat->Option (Nat×Nat)}{a:Act}{w:World}{st:St}{live names:List Nat}(h:Rel Γ st.sto I θ a w)(hn:∀ nm,Γ.own0 nm≠none->nm∈names)(hlt:∀ n∈names,n<Bt):Rel Γ (Er live names st).sto I θ a w:=by
 have hL:∀ nm,Ai (Er live names st).own nm=if nm∈names then(Ai st.own nm).map (Own.erase λn=>B8 n names) else none:=YG live names st
 have hF:∀ nm,Ai (Er live names st).fam nm=if nm∈names then Ai st.fam nm else none:=YF live names st
 have hown:∀ nm,nm<Bt->(Er live names st).sto.own nm=if nm∈names then(st.sto.own nm).map (Own.erase λn=>B8 n names) else none:=λnm hlt=>by
  show C4 _ _ nm=_
  rw[Bd hlt,hL]
  show _=if nm∈names then(C4 st.own _ nm).map _ else none
  rw[Bd hlt]
 have hbig:∀ k,¬ k<Bt->(Er live names st).sto.own k=if k / Bt-1∈names then st.sto.own k else none:=λk hk=>by
  show C4 _ _ k=if _ then C4 _ _ k else none
  rw[Dg hk,Dg hk,hF]
  split<;>rfl
 have hk:∀ nm o,st.sto.own nm=some o->B8 nm names=true->(Er live names st).sto.own nm=some (o.erase λn=>B8 n names):=λnm o ho hm=>by
  rw[hown nm (hlt nm (memB_mem.1 hm)),if_pos (memB_mem.1 hm),ho];rfl
 have hkb:∀ b i sz e m,i<Bt->st.sto.own (T4 b i)=some (.tok sz e m)->B8 b names=true->(Er live names st).sto.own (T4 b i)=some (.tok sz e m):=λb i sz e m hi ho hm=>by
  rw[hbig _ (Sr b i),Yt hi,if_pos (memB_mem.1 hm),ho]
 have hinv:∀ nm o,(Er live names st).sto.own nm=some o->∃ o',st.sto.own nm=some o'/\o=o'.erase λn=>B8 n names:=λnm o ho=>by
  by_cases hlt:nm<Bt
  ·rw[hown nm hlt]at ho
   split at ho
   ·obtain⟨o',ho',rfl⟩:=zzL75.1 ho;exact⟨o',ho',rfl⟩
   ·cases ho
  ·rw[hbig nm hlt]at ho
   split at ho
   ·obtain⟨sz,e,m,rfl⟩:=Yv hlt (show C4 st.own st.fam nm=some o from ho);exact⟨_,ho,rfl⟩
   ·cases ho
 refine⟨h.size,h.defers,λt=>?_,?_⟩
 ·have e:(Er live names st).sto.tmp t=if t∈live then(st.get t).erase (λn=>B8 n names) else .any:=by
   simp only[St.sto,St.get,Er,nL]
   split
   ·rename_i h;split at h<;>simp_all
   ·rename_i h;split at h<;>simp_all
  rw[e]
  split
  ·exact(h.slots t).erase _ hk hkb
  ·exact .val _ _ (.any _)
 ·refine{ h.chg with le:=λnm o ho=>?_,rel:=⟨λnm e0 cells ho=>?_,λnm sz e m ho=>?_,λnm nm' g c c' ho ho'=>?_,λnm sz e m f ho=>?_,λnm x ho=>?_,λnm sz m ho hnn=>?_⟩,new:=λnm g c ho hg=>?_ }
  rotate_left 6
  ·obtain⟨o',ho',he⟩:=hinv nm _ ho
   cases o' with
   | row=>simp[Own.erase]at he
   | arr=>simp[Own.erase]at he
   | obj=>simp[Own.erase]at he
   | tok=>
    simp only[Own.erase,Own.tok.injEq]at he;obtain⟨rfl,rfl,rfl⟩:=he;exact h.chg.rel.tok8 nm _ _ ho' hnn
  rotate_right 6
  rotate_left 5
  ·obtain⟨o',ho',he⟩:=hinv nm _ ho
   cases o' with
   | row=>simp[Own.erase]at he
   | tok=>simp[Own.erase]at he
   | arr=>simp[Own.erase]at he
   | obj x'=>
    simp only[Own.erase,Own.obj.injEq]at he;subst he;exact Mx (h.chg.rel.obj nm _ ho') rfl (λ_ _ _=>rfl) (λ_ _ _ _ h=>h) (λ_ hh=>hh.on _ (λ_ _ h=>h) (λ_ _ _=>rfl) λv y hv=>hv.erase _ hk hkb) TG
  rotate_left 1
  ·obtain⟨o',ho',hl⟩:=h.chg.le nm o ho;refine⟨_,hk nm o' ho' (memB_mem.2 (hn nm (by simp[ho]))),?_⟩
   cases o<;>cases o'<;>simp_all [OwnLe,Own.erase]
  ·obtain⟨o',ho',he⟩:=hinv nm _ ho
   cases o' with
   | tok=>simp[Own.erase]at he
   | arr=>simp[Own.erase]at he
   | obj=>simp[Own.erase]at he
   | row e' cs=>
    simp only[Own.erase,Own.row.injEq]at he;obtain⟨rfl,rfl⟩:=he;obtain⟨g,c,vs,r1,r2,r3,r4,r5,r6⟩:=h.chg.rel.row nm _ cs ho';refine⟨g,c,vs,r1,r2,by rw[Bb];exact r3,λj hj=>r4 j (by rwa[Bb]at hj),λj hj=>?_,r6⟩;rw[Hy];exact(r5 j (by rwa[Bb]at hj)).erase _ hk hkb
  ·obtain⟨o',ho',he⟩:=hinv nm _ ho
   cases o' with
   | row=>simp[Own.erase]at he
   | arr=>simp[Own.erase]at he
   | obj=>simp[Own.erase]at he
   | tok=>
    simp only[Own.erase,Own.tok.injEq]at he;obtain⟨rfl,rfl,rfl⟩:=he;exact h.chg.rel.tok nm _ _ _ ho'
  ·refine h.chg.rel.inj nm nm' g c c' ?_ ?_
   ·cases hx:(Er live names st).sto.own nm with
    | none=>exact(ho hx).elim
    | some o=>obtain⟨o',ho',_⟩:=hinv nm o hx;simp[ho']
   ·cases hx:(Er live names st).sto.own nm' with
    | none=>exact(ho' hx).elim
    | some o=>obtain⟨o',ho',_⟩:=hinv nm' o hx;simp[ho']
  ·obtain⟨o',ho',he⟩:=hinv nm _ ho
   cases o' with
   | row=>simp[Own.erase]at he
   | tok=>simp[Own.erase]at he
   | obj=>simp[Own.erase]at he
   | arr sz' e' m' f'=>
    simp only[Own.erase,Own.arr.injEq]at he;obtain⟨rfl,rfl,rfl,rfl⟩:=he;exact Rg (h.chg.rel.arr nm _ _ _ _ ho') rfl (λ_ _ _=>rfl) (λ_ _ _ _ h=>h) (λi _=>Bb _ _) (λv i j _ _ hv=>by rw[Hy];exact hv.erase _ hk hkb)
  ·cases hx:(Er live names st).sto.own nm with
   | none=>exact(ho hx).elim
   | some o=>
    obtain⟨o',ho',_⟩:=hinv nm o hx;exact h.chg.new nm g c (by simp[ho']) hg
theorem KP{Γ:Hx}{I:Nat->Nat->Prop}{θ:Nat->Option (Nat×Nat)}{a:Act}{w:World}{st:St}{live names:List Nat}(h:Rel Γ st.sto I θ a w)(hn:∀ nm,Γ.own0 nm≠none->nm∈names):Rel Γ (Hl live names st).sto I θ a w:=
 YE h (λnm h0=>zzL95.2 ⟨hn nm h0,by simpa [Mo] using Γ.lt0 nm h0⟩) (λn hn=>by simp_all)
theorem YU{l:List Prop}(h:eF l):∀ p∈l,p:=by
 induction l with
 | nil=>intro p hp;cases hp
 | cons x l ih=>
  intro p hp;rcases zzL31.1 hp with rfl|hp
  ·exact h.1
  ·exact ih h.2 p hp
theorem ry{Γ:Hx}{σ:Sto}{I:Nat->Nat->Prop}{θ:Nat->Option (Nat×Nat)}{a:Act}{w:World}(h:Rel Γ σ I θ a w):Rel Γ σ I θ a { w with drawn:=w.drawn+1 }:=
 ⟨h.size,h.defers,λt=>(h.slots t).mono (λ_ _ h=>h) (λ_ _ _=>rfl) (λ_ o ho=>⟨o,ho,.refl _ _⟩),
  {h.chg with drawn:=λd=>Nat.le_succ_of_le (h.chg.drawn d),rel:=⟨λnm e cells ho=>by
              obtain⟨g,c,vs,r1,r2,r3,r4,r5,r6⟩:=h.chg.rel.row nm e _ ho
              exact⟨g,c,vs,r1,r2,r3,r4,λj hj=>(r5 j hj).mono (λ_ _ h=>h) (λ_ _ _=>rfl) (λ_ o ho=>⟨o,ho,.refl _ _⟩),r6⟩,h.chg.rel.tok,h.chg.rel.inj,
             λnm sz e m f ho=>Rg (h.chg.rel.arr nm sz e m f ho) rfl (λ_ _ _=>rfl) (λ_ _ _ _ h=>h) (λ_ _=>rfl) (λv i j _ _ hv=>hv.mono (λ_ _ h=>h) (λ_ _ _=>rfl) (λ_ o ho=>⟨o,ho,.refl _ _⟩)),
             λnm x ho=>Mx (h.chg.rel.obj nm x ho) rfl (λ_ _ _=>rfl) (λ_ _ _ _ h=>h) (λ_ hh=>hh.mono λv y hv=>hv.mono (λ_ _ h=>h) (λ_ _ _=>rfl) (λ_ o ho=>⟨o,ho,.refl _ _⟩)) W1,h.chg.rel.tok8⟩ }⟩
def BC(P:Program)(Γ:Hx)(c:Code)(K:Exit->St->Prop)(st:St):Prop:=
 ∀(I:Nat->Nat->Prop) (θ:Nat->Option (Nat×Nat)) (a:Act) (w:World),Rel Γ st.sto I θ a w->c.wp P (λe a' w'=>∃ st' I' θ',K e st'/\Rel Γ st'.sto I' θ' a' w') a w
theorem iF{P:Program}{Γ:Hx}{id:Nat}{ops:List Oper}{draw:Bool}{K:Exit->St->Prop}{st st':St}{rs:List Wa}{cs:List (Nat×AV)}{live names:List Nat}{obs:List Prop}{n:Nat}(hnn:Γ.n=n)(hm:P.follows .mixedOrders=true)(hn:∀ nm,Γ.own0 nm≠none->nm∈names)
  (h:QP P (Spec P) n cs live names ops draw st rs=some (st',obs,true)) (hob:eF obs) (hK:K .normal st'):BC P Γ (.region id ops.toArray draw) K st:=by
 subst hnn;unfold QP at h
 split at h
 ·rename_i st1 obs1 trs hr
  simp only[Aw,O9]at h;obtain⟨rfl,rfl,hord⟩:=h
  have hr' :=by simpa using hr
  intro I θ a w hrel;obtain⟨es,h1,h2,h3,h4⟩:=NX (cs:=cs) (Q:=λe a' w'=>∃ st' I' θ',K e st'/\Rel Γ st'.sto I' θ' a' w') ops 0 st rs st1 obs1 trs hr' (λj=>by simp) (YU hob);have hfin:∀ I θ a w,Rel Γ st1.sto I θ a w->∃ st' I' θ',K .normal st'/\Rel Γ st'.sto I' θ' a w:=λI θ a w hrel=>⟨_,I,θ,hK,KP hrel hn⟩
  cases draw with
  | false=>
   refine wp_region ?_;have:=UK es st.sto st1.sto h3 h2 hfin I θ a w hrel;rw[h1]at this;rwa[Sp]
  | true=>
   simp only[Af,lU,A4]at hord;obtain⟨o1,o2⟩:=hord;refine wp_region_any hm ?_
   have hlen :=by have:=Bv List.length h1;simpa using this
   rw[<- h4]at o2;have hdep:=(RV (kh [] ops) es 0 [] o2 (by rw[h1,hlen])).2;refine YL (λi o ho e he hb=>?_) st1.sto hfin _ es _ st.sto h3 h2 (AP _ _ _ h1) (by simp) (λj=>?_) (by simp[hlen]) (λp hp q hq hlt hni=>?_) ?_ I θ a _ (ry hrel)
   ·have:=JQ ops 0 o1 i o (by simpa using ho) e he hb;omega
   ·simp_all
   ·rcases hdep p hp q hq hlt with h|h
    ·exact(hni h).elim
    ·exact RJ ops [] (λj=>by simp) (λi j h=>by simp at h) q.1 p.1 h
   ·intro i o ho hl;simp[Array.getD]at hl
 ·cases h
inductive LR (S X:Type) where
 | next (s:S)
 | done (x:X)
inductive LRuns {S X:Type} (f:S->Option (LR S X)):S->X->Nat->Prop
 | done {s:S} {x:X} (h:f s=some (.done x)):LRuns f s x 0
 | next {s s':S} {x:X} {n:Nat} (h:f s=some (.next s')) (t:LRuns f s' x n):LRuns f s x (n+1)
theorem LRuns.unique{S X:Type}{f:S->Option (LR S X)}{s:S}{x y:X}{n m:Nat}(h:LRuns f s x n)(k:LRuns f s y m):x=y:=by
 induction h generalizing m with
 | done h=>cases k with
  | done h'=>grind
  | next h' _=>rw[h]at h';cases h'
 | next h _ ih=>cases k with
  | done h'=>rw[h]at h';cases h'
  | next h' t'=>grind
open Classical in
def ZN{S X:Type}(f:S->Option (LR S X))(s:S):Option X:=
 if h:∃ x n,LRuns f s x n then some h.choose else none
def ek{S X:Type}(f:S->Option (LR S X))(n:Nat):S->Option (Option X):=
 Nat.rec (λ_=>none) (λ_ ih s=>match f s with|none=>some none|some (.done x)=>some (some x)|some (.next s')=>ih s') n
def Ad{S X:Type}(f:S->Option (LR S X))(s:S):Option X:=
 match ek f 4096 s with|some r=>r|none=>ZN f s
theorem loopC_iff{S X:Type}{f:S->Option (LR S X)}{s:S}{x:X}:ZN f s=some x↔∃ n,LRuns f s x n:=by
 unfold ZN
 constructor
 ·intro h
  split at h
  ·grind
  ·cases h
 ·rintro⟨n,hn⟩;have hx:∃ x n,LRuns f s x n:=⟨x,n,hn⟩;rw[dif_pos hx];obtain⟨m,hm⟩:=hx.choose_spec;rw[hm.unique hn]
theorem en{S X:Type}{f:S->Option (LR S X)}:∀{n:Nat} {s:S} {r:Option X},ek f n s=some r->ZN f s=r
 | 0,s,r,h=>by cases h
 | n+1,s,r,h=>by
  have e:ek f (n+1) s=(match f s with|none=>some _|some (.done x)=>some _|some (.next s')=>ek f n s'):=rfl;rw[e]at h
  split at h
  ·rename_i hf
   cases h
   cases hx:ZN f s with
   | none=>rfl
   | some x=>
    obtain⟨m,hm⟩:=loopC_iff.1 hx
    cases hm with
    | done h'=>rw[hf]at h';cases h'
    | next h' _=>rw[hf]at h';cases h'
  ·rename_i x hf
   cases h;exact loopC_iff.2 ⟨0,.done hf⟩
  ·rename_i s' hf
   have ih:=en h;rw[<- ih]
   apply Option.ext
   intro x
   constructor
   ·intro hx;obtain⟨m,hm⟩:=loopC_iff.1 hx
    cases hm with
    | done h'=>rw[hf]at h';cases h'
    | next h' t=>rw[hf]at h';cases h';exact loopC_iff.2 ⟨_,t⟩
   ·intro hx;obtain⟨m,hm⟩:=loopC_iff.1 hx;exact loopC_iff.2 ⟨_,.next hf hm⟩
theorem nN{S X:Type}(f:S->Option (LR S X))(s:S):Ad f s=ZN f s:=by
 unfold Ad
 cases h:ek f _ s with
 | none=>rfl
 | some r=>exact(en h).symm
theorem loopO_iff{S X:Type}{f:S->Option (LR S X)}{s:S}{x:X}:Ad f s=some x↔∃ n,LRuns f s x n:=by rw[nN];exact loopC_iff
theorem Am{S X:Type}{f:S->Option (LR S X)}{s:S}{x:X}(h:f s=some (.done x)):Ad f s=some x:=loopO_iff.2 ⟨0,.done h⟩
theorem Aq{S X:Type}{f:S->Option (LR S X)}{s s':S}(h:f s=some (.next s')):Ad f s=Ad f s':=by
 apply Option.ext
 intro x
 constructor
 ·intro hx;obtain⟨n,hn⟩:=loopO_iff.1 hx
  cases hn with
  | done h'=>rw[h]at h';cases h'
  | next h' t=>rw[h]at h';cases h';exact loopO_iff.2 ⟨_,t⟩
 ·intro hx;obtain⟨n,hn⟩:=loopO_iff.1 hx;exact loopO_iff.2 ⟨_,.next h hn⟩
theorem HY{S X:Type}{f:S->Option (LR S X)}{s:S}(h:f s=none):Ad f s=none:=by
 cases hx:Ad f s with
 | none=>rfl
 | some x=>
  obtain⟨n,hn⟩:=loopO_iff.1 hx
  cases hn with
  | done h'=>rw[h]at h';cases h'
  | next h' t=>rw[h]at h';cases h'
def Ax{R:Type}(p:Prop)[Decidable p](k:Option R):Option R:=if p then k else none
theorem Tk{R:Type}{p:Prop}[Decidable p]{k:Option R}{r:R}(h:Ax p k=some r):p/\k=some r:=by
 unfold Ax at h
 split at h
 ·exact⟨‹p›,h⟩
 ·cases h
theorem Ac{R:Type}{p:Prop}[Decidable p]{k:Option R}(h:p):Ax p k=k:=by simp[Ax,h]
def Ua{S X:Type}(f0:Option (LR S X))(f:S->Option (LR S X)):Option X:=f0.bind λ| .next s=>Ad f s | .done x=>some x
theorem bind_some{A R:Type}{x:Option A}{k:A->Option R}{r:R}(h:x.bind k=some r):∃ a,x=some a/\k a=some r:=zzL98.1 h
section
variable {P:Program} {Γ:Hx}
def Le(Γ:Hx)(st st':St):Prop:=∀(I:Nat->Nat->Prop) (θ:Nat->Option (Nat×Nat)) (a:Act) (w:World),Rel Γ st.sto I θ a w->∃ I' θ',Rel Γ st'.sto I' θ' a w
theorem Le.refl(Γ:Hx)(st:St):Le Γ st st:=λI θ _ _ h=>⟨I,θ,h⟩
theorem Le.trans{st st' st'':St}(h:Le Γ st st')(k:Le Γ st' st''):Le Γ st st'':=λI θ a w hr=>let⟨I',θ',hr'⟩:=h I θ a w hr;k I' θ' a w hr'
theorem AVle.refl(x:AV):AVle x x:=λ_ _ _ _ _ h=>h
theorem AVle.any(x:AV):AVle x .any:=λ_ _ _ _ v _=>.val _ _ (.any v)
theorem RepV.slice_ext{I:Nat->Nat->Prop}{w:World}{v:Value}{sz n:Nat}{f g:Nat->List AV}(h:RepV I w v (.slice sz n f .none))(hf:∀ i,i<n->f i=g i):RepV I w v (.slice sz n g .none):=by
 obtain⟨_,ad,cap,us,rfl,hcap,hmax,hz,hn,h1,hl,hr⟩:=h.slice_inv;exact .slice ad n cap sz g us hcap hmax hz hn h1 (λi hi=>by grind) (λi c hi hc=>by grind)
theorem AVle.slice{sz n n':Nat}{f g:Nat->List AV}{t:Tag}(hn:n=n')(hf:∀ i,i<n->f i=g i):AVle (.slice sz n f t) (.slice sz n' g t):=by
 subst hn;intro I own θ w v h
 cases h with
 | val v x h=>obtain⟨rfl,_⟩:=h.slice_inv;exact .val _ _ (h.slice_ext hf)
 | exact a n sz f h=>exact .exact a n sz g (h.slice_ext hf)
 | own nm sz e m a n cap f ho hm hv h=>exact .own nm sz e m a n cap g ho hm hv (h.slice_ext hf)
 | fam b i sz e m a n cap f hi ho hm hv h=>exact .fam b i sz e m a n cap g hi ho hm hv (h.slice_ext hf)
theorem AVle.untag{sz n:Nat}{f:Nat->List AV}{t:Tag}:AVle (.slice sz n f t) (.slice sz n f .none):=λ_ _ _ _ _ h=>.val _ _ h.slice_val
theorem AVle.empty{sz sz' n:Nat}{f g:Nat->List AV}{t:Tag}(hn:n=0)(ht:∀ nm,t≠.own nm)(ht':∀ b i,t≠.fam b i:=by intro _ _ h;cases h):AVle (.slice sz n f t) (.slice sz' n g t):=by
 subst hn;intro I own θ w v h
 have key:∀ v,RepV I w v (.slice sz 0 f .none)->RepV I w v _:=λv h=>by
  obtain⟨_,ad,cap,us,rfl,hcap,hmax,hz,hn,h1,hl,hr⟩:=h.slice_inv;exact .slice ad 0 cap sz' g us hcap hmax (λh=>by omega) hn (λj hj=>by omega) (λi hi=>by omega) (λi c hi=>by omega)
 cases h with
 | val v x h=>obtain⟨rfl,_⟩:=h.slice_inv;exact .val _ _ (key _ h)
 | exact a n sz f h=>exact .exact a _ sz' g (key _ h)
 | own nm=>exact(ht nm rfl).elim
 | fam b i=>exact(ht' b i rfl).elim
inductive AVleL:List AV->List AV->Prop
 | nil:AVleL [] []
 | cons {x y:AV} {l m:List AV} (h:AVle x y) (t:AVleL l m):AVleL (x::l) (y::m)
theorem AVleL.length{l m:List AV}(h:AVleL l m):l.length=m.length:=by induction h with|nil=>rfl|cons _ _ ih=>simp[ih]
theorem AVleL.get{l m:List AV}(h:AVleL l m)(j:Nat):AVle (l.getD j .any) (m.getD j .any):=by
 induction h generalizing j with
 | nil=>exact .refl _
 | cons h _ ih=>cases j with
  | zero=>simpa using h
  | succ j=>simpa using ih j
theorem AVleL.refl(l:List AV):AVleL l l:=by induction l with|nil=>exact .nil|cons x l ih=>exact .cons (.refl x) ih
theorem AVle.agg{l m:List AV}(h:AVleL l m):AVle (.agg l) (.agg m):=by
 intro I own θ w v hv;obtain⟨vs,rfl,hl,h1,hr⟩:=hv.agg_inv;exact .agg vs m (by rw[hl,h.length]) (λj hj=>h1 j (by rw[h.length];exact hj)) (λj hj=>h.get j I own θ w _ (hr j (by rw[h.length];exact hj)))
theorem AVle.tuple{l m:List AV}(h:AVleL l m):AVle (.tuple l) (.tuple m):=by
 intro I own θ w v hv;obtain⟨vs,rfl,hl,hr⟩:=hv.tuple_inv;exact .tuple vs m (by rw[hl,h.length]) (λj hj=>h.get j I own θ w _ (hr j (by rw[h.length];exact hj)))
inductive TmpsLe:List (Nat×AV)->List (Nat×AV)->Prop
 | nil:TmpsLe [] []
 | cons {t:Nat} {x y:AV} {l m:List (Nat×AV)} (h:AVle x y) (k:TmpsLe l m):TmpsLe ((t,x)::l) ((t,y)::m)
inductive OwnsLe:List (Nat×Own)->List (Nat×Own)->Prop
 | nil:OwnsLe [] []
 | row {n:Nat} {e:TypeId} {x y:List AV} {l m:List (Nat×Own)} (h:AVleL x y) (k:OwnsLe l m):OwnsLe ((n,.row e x)::l) ((n,.row e y)::m)
 | same {n:Nat} {o:Own} {l m:List (Nat×Own)} (k:OwnsLe l m):OwnsLe ((n,o)::l) ((n,o)::m)
 | arr {n sz:Nat} {e:TypeId} {k:Nat} {f g:Nat->List AV} {l m:List (Nat×Own)} (h:∀ i,i<k->AVleL (f i) (g i)) (t:OwnsLe l m):OwnsLe ((n,.arr sz e k f)::l) ((n,.arr sz e k g)::m)
theorem TmpsLe.refl(l:List (Nat×AV)):TmpsLe l l:=by induction l with|nil=>exact .nil|cons x l ih=>exact .cons (.refl _) ih
theorem OwnsLe.refl(l:List (Nat×Own)):OwnsLe l l:=by induction l with|nil=>exact .nil|cons x l ih=>exact .same ih
theorem TmpsLe.get{l m:List (Nat×AV)}(h:TmpsLe l m)(t:Nat):AVle (match Ai l t with|some x=>x|none=>.any) (match Ai m t with|some x=>x|none=>.any):=by
 induction h with
 | nil=>exact .refl _
 | @cons t' x y l m h _ ih=>
  simp only[Ai]
  cases Nat.beq t' t with
  | true=>exact h
  | false=>exact ih
theorem OwnsLe.get{l m:List (Nat×Own)}(h:OwnsLe l m)(n:Nat):(∀ o,Ai l n=some o->∃ o',Ai m n=some o'/\(o=o'\/(∃ e x y,o = .row e x/\o' = .row e y/\AVleL x y)\/∃ sz e k f g,o = .arr sz e k f/\o' = .arr sz e k g/\∀ i,i<k->AVleL (f i) (g i)))/\(∀ o',Ai m n=some o'->∃ o,Ai l n=some o):=by
 induction h with
 | nil=>grind
 | @row n' e x y l m h _ ih=>
  simp only[Ai]
  cases Nat.beq n' n with
  | true=>
   refine⟨λo ho=>?_,λo ho=>⟨_,rfl⟩⟩;simp only[Af,Aw]at ho;subst ho;exact⟨_,rfl,.inr (.inl ⟨e,x,y,rfl,rfl,h⟩)⟩
  | false=>exact ih
 | @arr n' sz e k f g l m h _ ih=>
  simp only[Ai]
  cases Nat.beq n' n with
  | true=>
   grind
  | false=>exact ih
 | @same n' o l m _ ih=>
  simp only[Ai]
  cases Nat.beq n' n with
  | true=>exact⟨λo ho=>⟨o,ho,.inl rfl⟩,λo ho=>⟨o,ho⟩⟩
  | false=>exact ih
theorem Et{st st':St}(ht:TmpsLe st.tmps st'.tmps)(ho:OwnsLe st.own st'.own)(hfam:st'.fam=st.fam:=by rfl):Le Γ st st':=by
 intro I θ a w h
 have hg1:∀ nm o,st.sto.own nm=some o->∃ o',st'.sto.own nm=some o'/\(o=o'\/(∃ e x y,o = .row e x/\o' = .row e y/\AVleL x y)\/∃ sz e k f g,o = .arr sz e k f/\o' = .arr sz e k g/\∀ i,i<k->AVleL (f i) (g i)):=λnm o hn=>by
  by_cases hlt:nm<Bt
  ·have hn':Ai st.own nm=some o:=by rw[<- hn];exact(Bd hlt).symm
   obtain⟨o',h1,h2⟩:=(ho.get nm).1 o hn';exact⟨o',(Bd hlt).trans h1,h2⟩
  ·refine⟨o,?_,.inl rfl⟩;rw[<- hn]
   show C4 _ _ nm=C4 _ _ nm
   rw[Dg hlt,Dg hlt,hfam]
 have hg2:∀ nm o',st'.sto.own nm=some o'->∃ o,st.sto.own nm=some o:=λnm o' hn=>by
  by_cases hlt:nm<Bt
  ·have hn':Ai st'.own nm=some o':=by rw[<- hn];exact(Bd hlt).symm
   obtain⟨o,h1⟩:=(ho.get nm).2 o' hn';exact⟨o,(Bd hlt).trans h1⟩
  ·refine⟨o',?_⟩;rw[<- hn]
   show C4 _ _ nm=C4 _ _ nm
   rw[Dg hlt,Dg hlt,hfam]
 have hmono:∀ v x,Rep I st.sto.own θ w v x->Rep I st'.sto.own θ w v x:=λv x h=>h.mono (λ_ _ h=>h) (λ_ _ _=>rfl) λnm o hn=>by
  obtain⟨o',h1,h2⟩:=hg1 nm o hn;refine⟨o',h1,?_⟩;rcases h2 with rfl|⟨e1,x,y,rfl,rfl,_⟩|⟨sz,e,k,f,g,rfl,rfl,_⟩
  ·exact .refl _ _
  ·exact⟨rfl,rfl⟩
  ·exact⟨rfl,rfl,zzL7 _,λ_=>rfl⟩
 refine⟨I,θ,h.size,h.defers,λt=>hmono _ _ (ht.get t I _ θ w _ (h.slots t)),{ h.chg with le:=λnm o hn=>?_,rel:=⟨λnm e0 cells hn=>?_,λnm sz e m hn=>?_,λnm nm' g c c' hn hn'=>?_,λnm sz e m f hn=>?_,λnm x hn=>?_,λnm sz m hn hnn=>?_⟩,new:=λnm g c hn hg=>?_ }⟩
 rotate_left 6
 ·obtain⟨o,h1⟩:=hg2 nm _ hn;obtain⟨o',h2,h3⟩:=hg1 nm o h1;have e':st'.sto.own nm=some o':=h2;rw[e']at hn;obtain rfl:=OI hn;rcases h3 with rfl|⟨e1,x,y,rfl,h5,h6⟩|⟨sz,e,k,f,g,rfl,h5,h6⟩
  ·exact h.chg.rel.tok8 nm _ _ h1 hnn
  ·cases h5
  ·cases h5
 rotate_right 6
 rotate_left 5
 ·obtain⟨o,h1⟩:=hg2 nm _ hn;obtain⟨o',h2,h3⟩:=hg1 nm o h1;have e':st'.sto.own nm=some o':=h2;rw[e']at hn;obtain rfl:=OI hn;rcases h3 with rfl|⟨e1,x,y,rfl,h5,h6⟩|⟨sz,e,k,f,g,rfl,h5,h6⟩
  ·exact Mx (h.chg.rel.obj nm _ h1) rfl (λ_ _ _=>rfl) (λ_ _ _ _ h=>h) (λ_ hh=>hh.mono hmono) W1
  ·cases h5
  ·cases h5
 rotate_left 1
 ·obtain⟨o',h1,h2⟩:=h.chg.le nm o hn;obtain⟨o'',h3,h4⟩:=hg1 nm o' h1;refine⟨o'',h3,?_⟩;rcases h4 with rfl|⟨e1,x,y,rfl,rfl,_⟩|⟨sz,e,k,f,g,rfl,rfl,_⟩
  ·exact h2
  ·cases o<;>simp_all [OwnLe]
  ·cases o<;>simp_all [OwnLe]
 ·obtain⟨o,h1⟩:=hg2 nm _ hn;obtain⟨o',h2,h3⟩:=hg1 nm o h1;have e:st'.sto.own nm=some o':=h2;rw[e]at hn;obtain rfl:=OI hn;rcases h3 with rfl|⟨e1,x,y,rfl,h5,h6⟩|⟨sz,e,k,f,g,rfl,h5,h6⟩
  rotate_left 2
  ·cases h5
  ·obtain⟨g,c,vs,r1,r2,r3,r4,r5,r6⟩:=h.chg.rel.row nm _ _ h1;exact⟨g,c,vs,r1,r2,r3,r4,λj hj=>hmono _ _ (r5 j hj),r6⟩
  ·simp only[Own.row.injEq]at h5;obtain⟨rfl,rfl⟩:=h5;obtain⟨g,c,vs,r1,r2,r3,r4,r5,r6⟩:=h.chg.rel.row nm _ _ h1;exact⟨g,c,vs,r1,r2,by rw[r3,h6.length],λj hj=>r4 j (by rw[h6.length];exact hj),λj hj=>hmono _ _ (h6.get j I _ θ w _ (r5 j (by rw[h6.length];exact hj))),r6⟩
 ·obtain⟨o,h1⟩:=hg2 nm _ hn;obtain⟨o',h2,h3⟩:=hg1 nm o h1;have e':st'.sto.own nm=some o':=h2;rw[e']at hn;obtain rfl:=OI hn;rcases h3 with rfl|⟨e1,x,y,rfl,h5,h6⟩|⟨sz,e,k,f,g,rfl,h5,h6⟩
  ·exact h.chg.rel.tok nm _ _ _ h1
  ·cases h5
  ·cases h5
 ·have hx:∀ nm,st'.sto.own nm≠none->st.sto.own nm≠none:=λnm hn=>by
   cases hs:st'.sto.own nm with
   | none=>exact(hn hs).elim
   | some o=>obtain⟨o',h1⟩:=hg2 nm _ hs;have:st.sto.own nm=some o':=h1;simp[this]
  exact h.chg.rel.inj nm nm' g c c' (hx nm hn) (hx nm' hn')
 ·obtain⟨o,h1⟩:=hg2 nm _ hn;obtain⟨o',h2,h3⟩:=hg1 nm o h1;have e':st'.sto.own nm=some o':=h2;rw[e']at hn;obtain rfl:=OI hn;rcases h3 with rfl|⟨e1,x,y,rfl,h5,h6⟩|⟨sz',e2,k,f2,g,rfl,h5,h6⟩
  ·exact Rg (h.chg.rel.arr nm _ _ _ _ h1) rfl (λ_ _ _=>rfl) (λ_ _ _ _ h=>h) (λ_ _=>rfl) (λv i j _ _ hv=>hmono _ _ hv)
  ·cases h5
  ·simp only[Own.arr.injEq]at h5;obtain⟨rfl,rfl,rfl,rfl⟩:=h5;exact Rg (h.chg.rel.arr nm _ _ _ _ h1) rfl (λ_ _ _=>rfl) (λ_ _ _ _ h=>h) (λi hi=>(h6 i hi).length.symm) (λv i j hi _ hv=>hmono _ _ ((h6 i hi).get j I _ θ w v hv))
 ·refine h.chg.new nm g c ?_ hg
  cases hs:st'.sto.own nm with
  | none=>exact(hn hs).elim
  | some o=>obtain⟨o',h1⟩:=hg2 nm _ hs;have:st.sto.own nm=some o':=h1;simp[this]
theorem ed{st:St}(live names:List Nat)(hn:∀ nm,Γ.own0 nm≠none->nm∈names):Le Γ st (Hl live names st):=λI θ _ _ h=>⟨I,θ,KP h hn⟩
theorem Qi{st:St}{r j nm sz sz' n:Nat}{e0:TypeId}{f:Nat->List AV}{cells:List AV}(g:Nat->List AV)(e:TypeId)(hr:Ai st.own r=some (.row e0 cells))(hs:cells.getD j .any = .slice sz n f .exact)(hj:j<cells.length)(hn:Ai st.own nm=none)(hz:(sz=sz'/\f=g)\/n=0)(h8:e=Yd->n=0)(hlt:Nat.blt nm Bt=true:=by rfl)(hltr:Nat.blt r Bt=true:=by rfl) :
  Le Γ st ⟨st.tmps,Ei (Ei st.own r (.row e0 (cells.set j (.slice sz' n g (.own nm))))) nm (.tok sz' e n),st.fam⟩:=by
 intro I θ a w h
 have hlt:nm<Bt:=by simpa [Mo] using hlt
 have hltr:r<Bt:=by simpa [Mo] using hltr
 have hn:st.sto.own nm=none:=(Bd hlt).trans hn;have hr:st.sto.own r=some (.row e0 cells):=(Bd hltr).trans hr
 have hne:r≠nm:=by rintro rfl;rw[hr]at hn;cases hn
 let own':Nat->Option Own:=λk=>if k=nm then some (.tok sz' e n) else if k=r then some (.row e0 (cells.set j (.slice sz' n g (.own nm)))) else st.sto.own k
 have hown:(⟨st.tmps,Ei (Ei st.own r (.row e0 (cells.set j (.slice sz' n g (.own nm))))) nm (.tok sz' e n),st.fam⟩:St).sto.own=own':=by
  funext k
  show C4 (Ei (Ei st.own r _) nm _) _ k=_
  rw[Ml hlt,Ml hltr];simp only[own',Xh (a:=nm),Xh (a:=r)]
  rfl
 have hle:∀ nm' o,st.sto.own nm'=some o->∃ o',own' nm'=some o'/\OwnLe o (θ nm') o' (thUp θ nm none nm'):=λnm' o ho=>by
  have h1:nm'≠nm:=by rintro rfl;have:st.sto.own nm'=some o:=ho;rw[hn]at this;cases this
  by_cases h2:nm'=r
  ·subst h2;have:st.sto.own nm'=some o:=ho;rw[hr]at this;obtain rfl:=OI this;exact⟨.row e0 (cells.set j (.slice sz' n g (.own nm))),by simp[own',h1],by simp[thUp,h1,OwnLe]⟩
  ·exact⟨o,by simp[own',h1,h2,ho],by simp[thUp,h1,OwnLe.refl]⟩
 have hmono:∀ v x,Rep I st.sto.own θ w v x->Rep I own' (thUp θ nm none) w v x:=λv x h=>h.mono (λ_ _ h=>h) (λ_ _ _=>rfl) hle;have hrel:=h.chg.rel
 have k:Chg st.sto.own θ I w own' (thUp θ nm none) I w:=by
  refine{ imm:=λ_ _ h=>h,cell:=λ_ _ _=>rfl,le:=hle,rel:=?_,valid:=h.chg.valid,os:=rfl,tape:=rfl,output:=rfl,drawn:=λ_=>zzL7 _,grow:=zzL7 _,frame:=λ_ _ _=>rfl,new:=λnm' g' c ho hg=>?_,immNew:=λ_ _ h=>.inl h }
  ·refine⟨λnm' e2 cells' ho=>?_,λnm' s' e' m ho g' c hg=>?_,λn1 n2 g' c c' ho ho' hg hg'=>?_,λnm' s' e' m f' ho=>?_,λnm' x' ho=>?_,λnm' s' m ho hnn=>?_⟩
   rotate_left 5
   ·by_cases h1:nm'=nm
    ·simp only[own',h1,Nd,Aw,Own.tok.injEq]at ho;obtain⟨rfl,he,rfl⟩:=ho;exact h8 he
    ·have h2:nm'≠r:=by rintro rfl;simp[own',h1]at ho
     simp only[own',h1,h2,Ji]at ho;simp only[thUp,h1,Ji]at hnn;exact hrel.tok8 nm' _ _ ho hnn
   ·by_cases h1:nm'=nm
    ·simp[own',h1]at ho
    ·by_cases h2:nm'=r
     ·subst h2;simp only[own',h1,Ji,Nd,Aw,Own.row.injEq]at ho;obtain⟨rfl,rfl⟩:=ho;obtain⟨g',c,vs,r1,r2,r3,r4,r5,r6⟩:=hrel.row nm' _ cells hr;refine⟨g',c,vs,by simpa [thUp,h1] using r1,r2,by simpa using r3,λj' hj'=>r4 j' (by simpa using hj'),λj' hj'=>?_,r6⟩
      have hj'':j'<cells.length:=by simpa using hj'
      by_cases hjj:j'=j
      ·subst hjj
       have e1:(cells.set j' (.slice sz' n g (.own nm))).getD j' .any = .slice sz' n g (.own nm):=by simp[List.getD,hj]
       rw[e1];have hr':=r5 j' hj'';rw[hs]at hr';obtain⟨ad,hv⟩:=hr'.exact_inv;have hV:=hr'.slice_val;rw[hv]at hV ⊢;refine .own nm sz' e n ad n n g (by simp[own']) (zzL7 _) (λ_=>by simp[thUp]) ?_;rcases hz with⟨rfl,rfl⟩|rfl
       ·exact hV
       ·obtain⟨_,ad',cap,us,he,hcap,hmax,hz,hn',h1',hl,hr⟩:=hV.slice_inv;simp only[UV,true_and]at he;obtain⟨rfl,rfl⟩:=he;exact .slice ad 0 0 sz' g us hcap hmax (λh=>by omega) hn' (λj hj=>by omega) (λi hi=>by omega) (λi c hi=>by omega)
      ·have e1:(cells.set j (.slice sz' n g (.own nm))).getD j' .any=cells.getD j' .any:=by simp[List.getD,Sd hjj]
       rw[e1];exact hmono _ _ (r5 j' hj'')
     ·simp only[own',h1,h2,Ji]at ho;obtain⟨g',c,vs,r1,r2,r3,r4,r5,r6⟩:=hrel.row nm' _ cells' ho;exact⟨g',c,vs,by simpa [thUp,h1] using r1,r2,r3,r4,λj' hj'=>hmono _ _ (r5 j' hj'),r6⟩
   ·by_cases h1:nm'=nm
    ·simp[thUp,h1]at hg
    ·have h2:nm'≠r:=by rintro rfl;simp[own',h1]at ho
     simp only[own',h1,h2,Ji]at ho;simp only[thUp,h1,Ji]at hg;exact hrel.tok nm' _ _ _ ho g' c hg
   ·have hx:∀ n1 g' c,own' n1≠none->thUp θ nm none n1=some (g',c)->st.sto.own n1≠none/\θ n1=some (g',c):=λn1 g' c ho hg=>by
     by_cases h1:n1=nm
     ·simp[thUp,h1]at hg
     ·simp only[thUp,h1,Ji]at hg;refine⟨?_,hg⟩
      by_cases h2:n1=r
      ·subst h2;have:st.sto.own n1=some (.row e0 cells):=hr;simp[this]
      ·simpa [own',h1,h2] using ho
    obtain⟨a1,a2⟩:=hx n1 g' c ho hg;obtain⟨b1,b2⟩:=hx n2 g' c' ho' hg';exact hrel.inj n1 n2 g' c c' a1 b1 a2 b2
   ·by_cases h1:nm'=nm
    ·simp[own',h1]at ho
    ·have h2:nm'≠r:=by rintro rfl;simp[own',h1]at ho
     simp only[own',h1,h2,Ji]at ho;exact Rg (hrel.arr nm' _ _ _ _ ho) (by simp[thUp,h1]) (λ_ _ _=>rfl) (λ_ _ _ _ h=>h) (λ_ _=>rfl) (λv i j _ _ hv=>hmono _ _ hv)
   ·by_cases h1:nm'=nm
    ·simp[own',h1]at ho
    ·have h2:nm'≠r:=by rintro rfl;simp[own',h1]at ho
     simp only[own',h1,h2,Ji]at ho;exact Mx (hrel.obj nm' _ ho) (by simp[thUp,h1]) (λ_ _ _=>rfl) (λ_ _ _ _ h=>h) (λ_ hh=>hh.mono hmono) W1
  ·by_cases h1:nm'=nm
   ·simp[thUp,h1]at hg
   ·simp only[thUp,h1,Ji]at hg;refine .inr ⟨nm',c,?_,hg⟩
    by_cases h2:nm'=r
    ·subst h2;have:st.sto.own nm'=some (.row e0 cells):=hr;simp[this]
    ·simpa [own',h1,h2] using ho
 refine⟨I,thUp θ nm none,h.size,h.defers,λt'=>?_,?_⟩
 ·rw[hown];exact(h.slots t').chg k
 ·rw[hown];exact h.chg.trans k
theorem L9{st:St}{t nm sz sz' n:Nat}{f:Nat->List AV}(g:Nat->List AV)(e:TypeId)(hs:st.get t = .slice sz n f .exact)(hn:Ai st.own nm=none)(hz:(sz=sz'/\f=g)\/n=0)(h8:e=Yd->n=0)  (hlt:Nat.blt nm Bt=true:=by rfl) :
  Le Γ st ⟨Ei st.tmps t (.slice sz' n g (.own nm)),Ei st.own nm (.tok sz' e n),st.fam⟩:=by
 intro I θ a w h
 have hlt:nm<Bt:=by simp_all
 have hn:st.sto.own nm=none:=(Bd hlt).trans hn
 have hown:(⟨Ei st.tmps t (.slice sz' n g (.own nm)),Ei st.own nm (.tok sz' e n),st.fam⟩:St).sto.own=A0 st.sto.own nm (.tok sz' e n):=by
  funext k
  show C4 _ _ k=_
  rw[Ml hlt];simp only[A0]
  by_cases hk:nm=k
  ·subst hk;simp
  ·simp[hk,Sd hk];rfl
 have k:Chg _ θ I w (A0 _ nm (.tok sz' e n)) (thUp θ nm none) I w:=
  QS h.chg.rel (λ_ _ h=>h) (λ_ _ _=>rfl) (.inl hn) (λ_ _ _=>rfl) (λ_ _ h=>.inl h) h.chg.valid rfl rfl rfl (zzL7 _) (by simp) (by simp) (λ_=>h8)
 refine⟨I,thUp θ nm none,h.size,h.defers,λt'=>?_,?_⟩
 ·rw[hown]
  have hget:(⟨Ei st.tmps t (.slice sz' n g (.own nm)),Ei st.own nm (.tok sz' e n),st.fam⟩:St).sto.tmp t'=if t=t' then .slice sz' n g (.own nm) else st.get t':=by
   show(match Ai (Ei st.tmps t _) t' with|some x=>x|none=>.any)=_
   rw[J1]
   by_cases hk:t=t'
   ·simp[hk]
   ·simp[hk];rfl
  rw[hget]
  split
  ·rename_i htt
   subst htt;have hr:=h.slots t
   have hr':Rep I st.sto.own θ w (a.tmps.getD t undef) (.slice sz n f .exact):=by rw[<- hs];exact hr
   obtain⟨ad,hv⟩:=hr'.exact_inv;have hV:=hr'.slice_val;rw[hv]at hV ⊢;refine .own nm sz' e n ad n n g (by simp[A0]) (zzL7 _) (λ_=>by simp[thUp]) ?_;rcases hz with⟨rfl,rfl⟩|rfl
   ·exact hV
   ·obtain⟨_,ad',cap,us,he,hcap,hmax,hz,hn',h1,hl,hr⟩:=hV.slice_inv;obtain⟨rfl,rfl⟩:=he;exact .slice ad 0 0 sz' g us hcap hmax (λh=>by omega) hn' (λj hj=>by omega) (λi hi=>by omega) (λi c hi=>by omega)
  ·exact(h.slots t').chg k
 ·rw[hown];exact h.chg.trans k
theorem bs{st:St}{t nm sz sz':Nat}{f:Nat->List AV}(g:Nat->List AV)(e:TypeId)(hs:st.get t = .slice sz 0 f .exact)(hn:Ai st.own nm=none)  (hlt:Nat.blt nm Bt=true:=by rfl) :
  Le Γ st ⟨Ei st.tmps t (.vsl nm 0),Ei st.own nm (.arr sz' e 0 g),st.fam⟩:=by
 intro I θ a w h
 have hlt:nm<Bt:=by simp_all
 have hn:st.sto.own nm=none:=(Bd hlt).trans hn
 have hown:(⟨Ei st.tmps t (.vsl nm 0),Ei st.own nm (.arr sz' e 0 g),st.fam⟩:St).sto.own=A0 st.sto.own nm (.arr sz' e 0 g):=by
  funext k
  show C4 _ _ k=_
  rw[Ml hlt];simp only[A0]
  by_cases hk:nm=k
  ·subst hk;simp
  ·simp[hk,Sd hk];rfl
 have k:Chg _ θ I w (A0 _ nm (.arr sz' e 0 g)) (thUp θ nm none) I w:=
  Oo h.chg.rel h.chg.valid (λ_ _ _=>rfl) (.inl hn) (λ_ _ _=>rfl) rfl rfl rfl (zzL7 _) (λ_=>rfl) (by simp) (by simp)
 refine⟨I,thUp θ nm none,h.size,h.defers,λt'=>?_,?_⟩
 ·rw[hown]
  have hget:(⟨Ei st.tmps t (.vsl nm 0),Ei st.own nm (.arr sz' e 0 g),st.fam⟩:St).sto.tmp t'=if t=t' then .vsl nm 0 else st.get t':=by
   show(match Ai (Ei st.tmps t _) t' with|some x=>x|none=>.any)=_
   rw[J1]
   by_cases hk:t=t'
   ·simp[hk]
   ·simp[hk];rfl
  rw[hget]
  split
  ·rename_i htt
   subst htt;have hr:=h.slots t
   have hr':Rep I st.sto.own θ w (a.tmps.getD t undef) (.slice sz 0 f .exact):=by rw[<- hs];exact hr
   obtain⟨ad,hv⟩:=hr'.exact_inv;rw[hv];exact .vsl nm sz' e 0 g ad 0 0 (by simp[A0]) (zzL7 _) (zzL7 _) (Yh _) (λ_=>rfl) (λ_=>by simp[thUp])
  ·exact(h.slots t').chg k
 ·rw[hown];exact h.chg.trans k
theorem pr{c:Code}{K K':Exit->St->Prop}{st:St}(h:BC P Γ c K st)(hk:∀ e st,K e st->K' e st):BC P Γ c K' st:=λI θ a w hr=>
 V1 (h I θ a w hr) λ_ _ _ ⟨st',I',θ',h1,h2⟩=>⟨st',I',θ',hk _ _ h1,h2⟩
theorem iE{c:Code}{K:Exit->St->Prop}{st st':St}(h:Le Γ st st')(k:BC P Γ c K st'):BC P Γ c K st:=λI θ a w hr=>let⟨I',θ',hr'⟩:=h I θ a w hr;k I' θ' a w hr'
def clK(Γ:Hx)(K:Exit->St->Prop):Exit->St->Prop:=λe st=>∃ st',Le Γ st st'/\K e st'
theorem yr{c:Code}{K:Exit->St->Prop}{st:St}(h:BC P Γ c (clK Γ K) st):BC P Γ c K st:=λI θ a w hr=>
 V1 (h I θ a w hr) λe a' w' ⟨st1,I1,θ1,⟨st2,hl,hk⟩,hr1⟩=>let⟨I2,θ2,hr2⟩:=hl I1 θ1 a' w' hr1;⟨st2,I2,θ2,hk,hr2⟩
theorem pu{K:Exit->St->Prop}{st:St}(h:K .normal st):BC P Γ .skip K st:=λI θ _ _ hr=>wp_skip ⟨st,I,θ,h,hr⟩
theorem mq{l:Nat}{K:Exit->St->Prop}{st:St}(h:K .normal st):BC P Γ (.label l) K st:=λI θ _ _ hr=>wp_label ⟨st,I,θ,h,hr⟩
theorem u6{K:Exit->St->Prop}{st:St}(h:K .ret st):BC P Γ .ret K st:=λI θ _ _ hr=>wp_ret ⟨st,I,θ,h,hr⟩
theorem po{id:Nat}{K:Exit->St->Prop}{st:St}(h:K (.exit id) st):BC P Γ (.exit id) K st:=λI θ _ _ hr=>wp_exit ⟨st,I,θ,h,hr⟩
theorem pp{l:Nat}{K:Exit->St->Prop}{st:St}(h:K (.goto l) st):BC P Γ (.goto l) K st:=λI θ _ _ hr=>wp_goto ⟨st,I,θ,h,hr⟩
def xZ(P:Program)(Γ:Hx)(y:Code)(K:Exit->St->Prop):Exit->St->Prop
 | .normal,st=>BC P Γ y K st
 | e,st=>K e st
theorem kn{x y:Code}{K:Exit->St->Prop}{st:St}(h:BC P Γ x (xZ P Γ y K) st):BC P Γ (.seq x y) K st:=λI θ a w hr=>
 wp_seq (V1 (h I θ a w hr) λe a' w' ⟨st',I',θ',h1,h2⟩=>by
  cases e with
  | normal=>exact h1 I' θ' a' w' h2
  | _=>exact⟨st',I',θ',h1,h2⟩)
theorem du{c:Operand}{x y:Code}{K:Exit->St->Prop}{st:St}(b:Bool)(hc:eL st.get c = .bool b)(ht:b=true->BC P Γ x K st)(hf:b=false->BC P Γ y K st):BC P Γ (.cond c x y) K st:=λI θ a w hr=>by
 have he:=TS hr c;have hc':eL st.sto.tmp c = .bool b:=hc;rw[hc']at he;exact wp_cond_split he.bool_inv (λh=>ht h I θ a w hr) (λh=>hf h I θ a w hr)
theorem pt{c:Operand}{x y:Code}{K:Exit->St->Prop}{st:St}(pos:Bool)(n:Nat)(hc:eL st.get c = .nilq pos n)(ht:(pos=true->n=0)->BC P Γ x K st)
  (hf:(pos=false->n=0)->BC P Γ y K st):BC P Γ (.cond c x y) K st:=λI θ a w hr=>by
 have he:=TS hr c;have hc':eL st.sto.tmp c = .nilq pos n:=hc;rw[hc']at he;obtain⟨b,hb,hn⟩:=he.nilq_inv;exact wp_cond_split hb (λh=>ht (λhp=>hn (h.trans hp.symm)) I θ a w hr) (λh=>hf (λhp=>hn (h.trans hp.symm)) I θ a w hr)
theorem rH{α β:Type}{l:List α}{n:Nat}{r:β}(m:Option β)(F:List α->Option β)(h:F l=some r)(hn:n=0)(hl:n=l.length)(hm:F []=some r->m=some r):m=some r:=by
 grind
def LS(id:Nat)(K:Exit->St->Prop):Exit->St->Prop
 | .exit id',st=>if id'=id then K .normal st else K (.exit id') st
 | e,st=>K e st
theorem mp{id:Nat}{c:Code}{K:Exit->St->Prop}{st:St}(h:BC P Γ c (LS id K) st):BC P Γ (.block id c) K st:=λI θ a w hr=>
 wp_block (V1 (h I θ a w hr) λe a' w' ⟨st',I',θ',h1,h2⟩=>by
  cases e with
  | exit id'=>
   simp only[LS]at h1;simp only[Exit.inBlock]
   split
   ·grind
   ·grind
  | _=>exact⟨st',I',θ',h1,h2⟩)
theorem au{c:Code}{Q:Exit->Act->World->Prop}(J:Nat->Act->World->Prop)(round:∀ n a w,J n a w->c.wp P (Exit.then (λa' w'=>∃ m,m<n/\J m a' w') Q) a w){n:Nat}{a:Act}{w:World}(h:J n a w):(Code.loop c).wp P Q a w:=by
 intro b k cs
 have key:∀ n a w,J n a w->∃ e a' w',Q e a' w'/\Arrives P (lone (b.at a (.code c::.inLoop c::k)) cs w) b k cs e a' w':=by
  intro n
  induction n using Nat.strongRecOn with
  | _ n ih=>
   intro a w hJ;obtain⟨e,a₁,w₁,hq,harr⟩:=round n a w hJ b _ cs
   cases e with
   | normal=>
    obtain⟨m,hlt,hJ'⟩:=hq;obtain⟨e₂,a₂,w₂,hq₂,harr₂⟩:=ih m hlt _ _ hJ';exact⟨e₂,a₂,w₂,hq₂,.of_steps (Steps.trans harr (.one step_inLoop)) harr₂⟩
   | exit id=>exact⟨_,a₁,w₁,hq,.pass  rfl (λ_ _=>.inl (by simp)) harr⟩
   | goto l=>exact⟨_,a₁,w₁,hq,.pass  rfl (λ_ _=>.inl (by simp)) harr⟩
   | ret=>exact⟨_,a₁,w₁,hq,.pass  rfl (λ_ _=>.inl (by simp)) harr⟩
   | panic ch=>exact⟨_,a₁,w₁,hq,.pass  rfl (λ_ _=>.inl (by simp)) harr⟩
   | outgrown=>exact⟨_,a₁,w₁,hq,.pass  rfl (λ_ _=>.inl (by simp)) harr⟩
 obtain⟨e,a',w',hq,harr⟩:=key n a w h;exact⟨e,a',w',hq,.of_steps (.one step_loop) harr⟩
def IF{S X:Type}(Γ:Hx)(H:S->St)(KX:X->Exit->St->Prop):LR S X->Exit->St->Prop
 | .next s',e,st'=>e = .normal/\Le Γ st' (H s')
 | .done x,e,st'=>e≠.normal/\KX x e st'
theorem dw{S X:Type}{body:Code}(H:S->St)(f:S->Option (LR S X))(KX:X->Exit->St->Prop){K:Exit->St->Prop}
  (hb:∀ s y,f s=some y->BC P Γ body (IF Γ H KX y) (H s)) {s:S} {x:X} (hr:Ad f s=some x) (hK:∀ e st',KX x e st'->K e st'):BC P Γ (.loop body) K (H s):=by
 intro I θ a w hrel;obtain⟨n,hn⟩:=loopO_iff.1 hr;refine au (λn a w=>∃ s I θ,LRuns f s x n/\Rel Γ (H s).sto I θ a w) (λn a w ⟨s,I,θ,hs,hrel⟩=>?_)  ⟨s,I,θ,hn,hrel⟩
 cases hs with
 | done hd=>
  refine V1 (hb s _ hd I θ a w hrel) λe a' w' ⟨st',I',θ',h1,h2⟩=>?_;obtain⟨hne,hx⟩:=h1
  cases e with
  | normal=>exact(hne rfl).elim
  | _=>exact⟨st',I',θ',hK _ _ hx,h2⟩
 | @next _ s' _ m hd ht=>
  refine V1 (hb s _ hd I θ a w hrel) λe a' w' ⟨st',I',θ',h1,h2⟩=>?_;obtain⟨rfl,hle⟩:=h1;obtain⟨I'',θ'',h3⟩:=hle I' θ' a' w' h2;exact⟨m,Nat.lt_succ_self m,s',I'',θ'',ht,h3⟩
def OG(c:Code)(J:Nat->Act->World->Prop)(Q:Exit->Act->World->Prop):Exit->Act->World->Prop
 | .goto l,a,w=>match findLabel c l with|some _=>J l a w|none=>Q (.goto l) a w
 | e,a,w=>Q e a w
theorem jZ{c:Code}{Q:Exit->Act->World->Prop}(J:Nat->Nat->Act->World->Prop){a:Act}{w:World}(first:c.wp P (OG c (λl a' w'=>∃ n,J n l a' w') Q) a w)
  (pass:∀ n l rest a w,findLabel c l=some rest->J n l a w->rest.wp P (OG c (λl' a' w'=>∃ m,m<n/\J m l' a' w') Q) a w):(Code.scope c).wp P Q a w:=by
 intro b k cs
 have hg:∀ l rest,findLabel c l=some rest->gotoIn l (.inScope c::k)=some (.code rest::.inScope c::k):=λl rest hf=>by simp[gotoIn,hf]
 have hg':∀ l k',findLabel c l=none->gotoIn l k=some k'->gotoIn l (.inScope c::k)=some k':=λl k' hf hk=>by simp[gotoIn,hf,hk]
 have key:∀ n l rest a w,findLabel c l=some rest->J n l a w->∃ e a' w',Q e a' w'/\Arrives P (lone (b.at a (.code rest::.inScope c::k)) cs w) b k cs e a' w':=by
  intro n
  induction n using Nat.strongRecOn with
  | _ n ih=>
   intro l rest a w hf hJ;obtain⟨e,a₁,w₁,hq,harr⟩:=pass n l _ a w hf hJ b _ cs
   cases e with
   | normal=>exact⟨.normal,a₁,w₁,hq,Steps.trans harr (.one step_inScope)⟩
   | exit id=>exact⟨.exit id,a₁,w₁,hq,λk' hk=>harr k' (by simp[exitTo,hk])⟩
   | goto l'=>
    simp only[OG]at hq
    cases hf':findLabel c l' with
    | some rest'=>
     rw[hf']at hq;obtain⟨m,hlt,hJ'⟩:=hq;obtain⟨e₂,a₂,w₂,hq₂,harr₂⟩:=ih m hlt l' _ _ _ hf' hJ';exact⟨e₂,a₂,w₂,hq₂,.of_steps (harr _ (hg l' _ hf')) harr₂⟩
    | none=>
     rw[hf']at hq;exact⟨.goto l',a₁,w₁,hq,λk' hk=>harr k' (hg' l' k' hf' hk)⟩
   | ret=>exact⟨_,a₁,w₁,hq,harr⟩
   | panic ch=>exact⟨_,a₁,w₁,hq,harr⟩
   | outgrown=>exact⟨_,a₁,w₁,hq,harr⟩
 obtain⟨e,a₁,w₁,hq,harr⟩:=first b _ cs
 cases e with
 | normal=>exact⟨.normal,a₁,w₁,hq,.head IM (Steps.trans harr (.one step_inScope))⟩
 | exit id=>exact⟨.exit id,a₁,w₁,hq,λk' hk=>.head IM (harr k' (by simp[exitTo,hk]))⟩
 | goto l'=>
  simp only[OG]at hq
  cases hf':findLabel c l' with
  | some rest'=>
   rw[hf']at hq;obtain⟨n,hJ'⟩:=hq;obtain⟨e₂,a₂,w₂,hq₂,harr₂⟩:=key n l' _ _ _ hf' hJ';exact⟨e₂,a₂,w₂,hq₂,.of_steps (.head IM (harr _ (hg l' _ hf'))) harr₂⟩
  | none=>
   rw[hf']at hq;exact⟨.goto l',a₁,w₁,hq,λk' hk=>.head IM (harr k' (hg' l' k' hf' hk))⟩
 | ret=>exact⟨_,a₁,w₁,hq,.of_steps (.one IM) harr⟩
 | panic ch=>exact⟨_,a₁,w₁,hq,.of_steps (.one IM) harr⟩
 | outgrown=>exact⟨_,a₁,w₁,hq,.of_steps (.one IM) harr⟩
def SF{S X:Type}(Γ:Hx)(c:Code)(lab:S->Nat)(H:S->St)(KX:X->Exit->St->Prop):LR S X->Exit->St->Prop
 | .next s',e,st'=>e = .goto (lab s')/\(findLabel c (lab s')).isSome=true/\Le Γ st' (H s')
 | .done x,e,st'=>(∀ l,e = .goto l->findLabel c l=none)/\KX x e st'
theorem mr{S X:Type}{c:Code}(lab:S->Nat)(H:S->St)(f0:Option (LR S X))(f:S->Option (LR S X))(KX:X->Exit->St->Prop){K:Exit->St->Prop}{st:St}
  (h0:∀ y,f0=some y->BC P Γ c (SF Γ c lab H KX y) st) (hb:∀ s y rest,findLabel c (lab s)=some rest->f s=some y->BC P Γ rest (SF Γ c lab H KX y) (H s))
  {x:X} (hr:Ua f0 f=some x) (hK:∀ e st',KX x e st'->K e st'):BC P Γ (.scope c) K st:=by
 intro I θ a w hrel;obtain⟨y,hy,hr⟩:=bind_some hr
 have fin:∀(J:Nat->Act->World->Prop) (a':Act) (w':World) (e:Exit) st' I' θ',SF Γ c lab H KX (.done x) e st'->Rel Γ st'.sto I' θ' a' w'->OG c J (λe a' w'=>∃ st' I' θ',K e st'/\Rel Γ st'.sto I' θ' a' w') e a' w':=λJ a' w' e st' I' θ' h1 h2=>by
  obtain⟨hl,hx⟩:=h1
  cases e with
  | goto l=>simp only[OG,hl l rfl];exact⟨st',I',θ',hK _ _ hx,h2⟩
  | _=>exact⟨st',I',θ',hK _ _ hx,h2⟩
 refine jZ (λn l a w=>∃ s I θ,LRuns f s x n/\lab s=l/\Rel Γ (H s).sto I θ a w) ?_ (λn l rest a w hf ⟨s,I,θ,hs,hl,hrel⟩=>?_)
 ·refine V1 (h0 y hy I θ a w hrel) λe a' w' ⟨st',I',θ',h1,h2⟩=>?_
  cases y with
  | done x'=>
   grind
  | next s=>
   obtain⟨n,hn⟩:=loopO_iff.1 hr;obtain⟨rfl,hf,hle⟩:=h1;obtain⟨I'',θ'',h3⟩:=hle I' θ' a' w' h2;obtain⟨rest,hf'⟩:=zzL77.1 hf;simp only[OG,hf'];exact⟨n,s,I'',θ'',hn,rfl,h3⟩
 ·subst hl
  cases hs with
  | done hd=>exact V1 (hb s _ _ hf hd I θ a w hrel) λe a' w' ⟨st',I',θ',h1,h2⟩=>fin _ a' w' e st' I' θ' h1 h2
  | @next _ s' _ m hd ht=>
   refine V1 (hb s _ _ hf hd I θ a w hrel) λe a' w' ⟨st',I',θ',h1,h2⟩=>?_;obtain⟨rfl,hf',hle⟩:=h1;obtain⟨I'',θ'',h3⟩:=hle I' θ' a' w' h2;obtain⟨rest',hf''⟩:=zzL77.1 hf';simp only[OG,hf''];exact⟨m,Nat.lt_succ_self m,s',I'',θ'',ht,rfl,h3⟩
theorem iJ{id:Nat}{K:Exit->St->Prop}{st:St}(h:K .normal st):LS id K (.exit id) st:=by show if id=id then K _ st else K _ st;rw[if_pos rfl];exact h
theorem iI{id id':Nat}{K:Exit->St->Prop}{st:St}(hne:Nat.beq id' id=false)(h:K (.exit id') st):LS id K (.exit id') st:=by
 simp only[LS];rw[if_neg (by rintro rfl;simp at hne)];exact h
theorem A6{R:Type}{b:Bool}{x y:Option R}{r:R}(hb:b=true)(h:(bif b then x else y)=some r):x=some r:=by rw[hb]at h;exact h
theorem va{names:List Nat}{H:List (Nat×Own)}(h:Γ.own0=Ai H)(hm:(H.all λx=>B8 x.1 names)=true):∀ nm,Γ.own0 nm≠none->nm∈names:=λnm hn=>by
 rw[h]at hn
 cases hl:Ai H nm with
 | none=>exact(hn hl).elim
 | some o=>exact memB_mem.1 (zzL29.1 hm _ (N7 hl))
theorem pq{X:Type}{c:Code}{m:Option X}(KX:X->Exit->St->Prop){K:Exit->St->Prop}{st:St}{x:X}(hr:m=some x)(hx:∀ x,m=some x->BC P Γ c (KX x) st)(hK:∀ e st',KX x e st'->K e st'):BC P Γ c K st:=
 pr (hx x hr) hK
end
section
variable {P:Program} {Γ:Hx}
structure RgQ(P:Program)(Γ:Hx)(n:Nat)(H:List (Nat×Own)):Prop where
 hn:Γ.n=n
 mix:P.follows .mixedOrders=true
 own:Γ.own0=Ai H
theorem RgQ.hand{n:Nat}{H:List (Nat×Own)}(q:RgQ P Γ n H){names:List Nat}(h:(H.all λx=>B8 x.1 names)=true):∀ nm,Γ.own0 nm≠none->nm∈names:=va q.own h
end
def wU(P:Program)(st:St):ResultVar->Option AV
 | .tmp t=>some (st.get t)
 | .cell a t=>
  bif C5 P t then
   match st.get a with
   | .ptr nm off=>
    match bif Nat.blt nm Bt then Ai st.own nm else none with
    | some (.row _ cells)=>
     bif Fo P t then(bif Nat.ble (off+Bn P t) cells.length then some (.agg ((cells.drop off).take (Bn P t))) else none)
     else(bif Nat.blt off cells.length then some (cells.getD off .any) else none)
    | _=>none
   | .vpt nm n 0 0=>
    match bif Nat.blt nm Bt then Ai st.own nm else none with
    | some (.arr sz _ m f)=>bif Fo P t&&Nat.beq n m&&Nat.beq (Bn P t) (n*sz) then some (.agg (RZ n f)) else none
    | _=>none
   | _=>none
  else none
def TW(P:Program)(st:St):List ResultVar->Option (List AV)
 | []=>some []
 | r::rs=>match wU P st r,TW P st rs with|some x,some l=>some (x::l)|_,_=>none
def jR(P:Program)(st:St)(rs:List ResultVar):Option AV:=
 match TW P st rs with
 | some [x]=>some x
 | some l=>some (.tuple l)
 | none=>none
def TY(ρ:List (Nat×Nat))(st:St):List (Nat×Own):=
 ρ.filterMap λx=>match Ai st.own x.1 with|some o=>some (x.2,o.ren ρ)|none=>none
def TX(H:List (Nat×Own))(ρ:List (Nat×Nat)):Bool:=
 Y8 (ρ.map (·.1))&&(Y8 (ρ.map (·.2))&&ρ.all (λx=>Nat.blt x.1 Bt))&&H.all (λx=>match Ai ρ x.1 with|some k=>Nat.beq k x.1|none=>false)
def lb(P:Program)(rs:List ResultVar)(ρ:List (Nat×Nat))(H:List (Nat×Own))(st:St):Option (AV×List (Nat×Own)):=
 bif TX H ρ then match jR P st rs with|some x=>some (x.ren ρ,TY ρ st)|none=>none else none
def Acr(P:Program)(rs:List ResultVar)(H:List (Nat×Own))(res:AV)(H':List (Nat×Own))(e:Exit)(st:St):Prop:=
 (e = .ret\/e = .normal)/\∃ ρ,lb P rs ρ H st=some (res,H')
def eK:Nat->List AV->List (Nat×AV)
 | _,[]=>[]
 | i,x::l=>(i,x)::eK (i+1) l
def LZ(args:List AV)(H:List (Nat×Own)):St:=⟨eK 0 args,H,[]⟩
section
variable {P:Program} {Γ:Hx} {I:Nat->Nat->Prop} {θ:Nat->Option (Nat×Nat)} {a:Act} {w:World} {st:St}
def resSem(a:Act)(r:ResultVar):Sem Value:=
 match r with
 | .tmp t=>Pure.pure (a.tmps.getD t undef)
 | .cell b t=>do loadVar t (<- asAddr (a.tmps.getD b undef))
theorem jQ(h:Rel Γ st.sto I θ a w){r:ResultVar}{x:AV}(hx:wU P st r=some x) :
  ∃ v,(resSem a r).run P w = .ok v w/\Rep I st.sto.own θ w v x:=by
 cases r with
 | tmp t=>
  simp only[wU,Aw]at hx;subst hx;exact⟨_,rfl,h.slots t⟩
 | cell b t=>
  simp only[wU]at hx
  cases hT:C5 P t with
  | false=>simp[hT]at hx
  | true=>
   simp only[hT,Af]at hx
   split at hx
   ·rename_i nm off hb
    split at hx
    ·rename_i e1 cells hown0
     have hown:st.sto.own nm=some (.row e1 cells):=by
      cases hb:Nat.blt nm Bt with
      | false=>rw[hb]at hown0;cases hown0
      | true=>rw[hb]at hown0;exact(Bd (by simpa [Mo] using hb)).trans hown0
     have hs:=h.slots b
     have hs':Rep I st.sto.own θ w (a.tmps.getD b undef) (.ptr nm off):=by rw[<- hb];exact hs
     obtain⟨e',cells',g,c,ho',hg,he⟩:=hs'.ptr_inv;obtain⟨g',c',vs,hg',hh,hsz,h1,hrep,_⟩:=h.chg.rel.row nm _ cells hown;rw[hg]at hg';simp only[Aw,O9]at hg';obtain⟨rfl,rfl⟩:=hg'
     have hcell:∀ j,j<cells.length->w.cell? ⟨g,j,none⟩=some (vs.getD j undef):=λj hj=>by
      rw[On w g j vs _ (0,0) hh];exact Pm (by omega)
     simp only[resSem,he,E1,asAddr,Jh,Gk]
     cases hagg:Fo P t with
     | true=>
      simp only[hagg,Af]at hx
      cases hle:Nat.ble (off+Bn P t) cells.length with
      | false=>simp[hle]at hx
      | true=>
       simp only[hle,Af,Aw]at hx;subst hx;have hle':=Nb hle;refine⟨_,M9 hT hagg _ (λj=>vs.getD (off+j) undef) (λj hj=>by rw[T0];exact hcell _ (by omega)),.agg _ _ (by simp;omega) (λj hj=>?_) (λj hj=>?_)⟩
       ·have hj':j<Bn P t:=by simp at hj;omega
        rw[Om _ _ _ hj'];exact h1 _ (by omega)
       ·have hj':j<Bn P t:=by simp at hj;omega
        rw[Om _ _ _ hj',U9 _ _ _ _ _ hj'];exact hrep _ (by omega)
     | false=>
      simp only[hagg,Ar]at hx
      cases hlt:Nat.blt off cells.length with
      | false=>simp[hlt]at hx
      | true=>
       simp only[hlt,Af,Aw]at hx;subst hx
       have hlt':off<cells.length:=by simpa [Mo] using hlt
       exact⟨_,Na hT hagg _ _ (hcell _ hlt'),hrep _ hlt'⟩
    ·cases hx
   ·rename_i nm n hb
    split at hx
    ·rename_i sz e1 m f hown0
     have hown:st.sto.own nm=some (.arr sz e1 m f):=by
      cases hb:Nat.blt nm Bt with
      | false=>rw[hb]at hown0;cases hown0
      | true=>rw[hb]at hown0;exact(Bd (by simpa [Mo] using hb)).trans hown0
     cases hk:(Fo P t&&Nat.beq n m&&Nat.beq (Bn P t) (n*sz)) with
     | false=>simp[hk]at hx
     | true=>
      simp only[hk,Af,Aw]at hx;subst hx;simp only[A4]at hk;have hs:=h.slots b
      have hs':Rep I st.sto.own θ w (a.tmps.getD b undef) (.vpt nm n 0 0):=by rw[<- hb];exact hs
      obtain⟨ad,he,vs,hrun,hrep⟩:=oA (P:=P) h hT hk.1.1 hs' hown (Ej hk.1.2) (Ej hk.2);exact⟨_,by simp only[resSem,he,E1,asAddr,Jh,Gk,hrun],hrep⟩
    ·cases hx
   ·cases hx
theorem Zp(h:Rel Γ st.sto I θ a w):∀{rs:List ResultVar} {xs:List AV},TW P st rs=some xs->
  ∃ vs:List Value,(rs.mapM (resSem a)).run P w = .ok vs w/\RepL I st.sto.own θ w vs xs
 | [],xs,hx=>by simp only[TW,Aw]at hx;subst hx;exact⟨[],by simp,.nil⟩
 | r::rs,xs,hx=>by
  simp only[TW]at hx
  split at hx
  ·rename_i x l h1 h2
   simp only[Aw]at hx;subst hx;obtain⟨v,hv,hr⟩:=jQ h h1;obtain⟨vs,hvs,hrs⟩:=Zp h h2;refine⟨v::vs,?_,.cons hr hrs⟩;simp only[List.mapM_cons,E1,hv,Gk,hvs,Jh]
  ·cases hx
theorem RepL.length{own:Nat->Option Own}{l:List Value}{m:List AV}(h:RepL I own θ w l m):l.length=m.length:=by induction h with|nil=>rfl|cons _ _ ih=>simp[ih]
theorem RepL.get{own:Nat->Option Own}{l:List Value}{m:List AV}(h:RepL I own θ w l m)(j:Nat)(hj:j<m.length):Rep I own θ w (l.getD j undef) (m.getD j .any):=by
 induction h generalizing j with
 | nil=>cases hj
 | cons h _ ih=>grind
theorem nz(h:Rel Γ st.sto I θ a w){fn:Func}{x:AV}(hx:jR P st fn.results.toList=some x):∃ v,(results fn a.tmps).run P w = .ok v w/\Rep I st.sto.own θ w v x:=by
 unfold jR at hx;have hrun:∀ vs ,(fn.results.toList.mapM (resSem a)).run P w = .ok vs w->
   (results fn _).run P w = .ok (if h:vs.toArray.size=1 then vs.toArray[0] else .tuple vs.toArray) w:=λvs hvs=>by
  have e:results fn a.tmps=(do let vs <- fn.results.mapM (resSem a);pure (if h:vs.size=1 then vs[0] else .tuple vs)):=by
   congr 1
  rw[e,Array.mapM_eq_mapM_toList];simp only[E1,Sem.run_map];rw[hvs];simp only[Gk,Jh]
 split at hx
 ·rename_i y hy
  simp only[Aw]at hx;obtain⟨vs,hvs,hr⟩:=Zp h hy;have hl:=hr.length
  match vs,hl,hr,hvs with
  | [v],_,hr,hvs=>
   cases hr with|cons hr _=>grind
 ·rename_i l hne hl
  simp only[Aw]at hx;subst hx;obtain⟨vs,hvs,hr⟩:=Zp h hl;have hlen:=hr.length
  have hn1:vs.length≠1:=λh1=>by
   match l,hlen,hne with
   | [],hlen,_=>grind
   | [x],_,hne=>exact hne x rfl
   | _::_::_,hlen,_=>simp at hlen;omega
  refine⟨.tuple vs.toArray,by grind,.tuple _ _ (by simpa using hlen) λj hj=>?_⟩;have:=hr.get j hj;rwa[<- Wh]at this
 ·cases hx
theorem ZK:∀(l:List AV) (i t:Nat),Ai (eK i l) t=if i<=t/\t<i+l.length then some (l.getD (t-i) .any) else none
 | [],i,t=>by rw[if_neg (by simp)];rfl
 | x::l,i,t=>by
  simp only[eK,Ai,ZK l _ t]
  cases hb:Nat.beq i t with
  | true=>
   simp_all
  | false=>
   have hne:i≠t:=by rintro rfl;simp at hb
   simp only[Ar]
   by_cases h:i+1<=t/\t<i+1+l.length
   ·grind
   ·grind
theorem ae{ρ:List (Nat×Nat)}(h2:(ρ.map (·.2)).Nodup)(st:St)(k:Nat):Ai (TY ρ st) k=(Ai (Lt ρ) k).bind λnm=>(Ai st.own nm).map (Own.ren ρ):=by
 have key:∀(l:List _),(l.map (·.2)).Nodup->Ai (l.filterMap λx=>match Ai st.own x.1 with|some o=>some (x.2,o.ren ρ)|none=>none) k=(Ai (Lt l) k).bind λnm=>(Ai st.own nm).map (Own.ren ρ):=by
  intro l
  induction l with
  | nil=>intro _;rfl
  | cons x l ih=>
   intro hn;obtain⟨nm,c⟩:=x;simp only[Cz,zzL117]at hn;have ih:=ih hn.2;simp only[List.filterMap_cons,Lt,Cz,Ai]
   cases ho:Ai _ nm with
   | some o=>
    simp only[Ai]
    cases hb:Nat.beq c k with
    | true=>simp[ho]
    | false=>simpa [Lt] using ih
   | none=>
    cases hb:Nat.beq c k with
    | true=>
     have:=Ej hb;simp only[Af,Ak,ho]
     apply Xy
     intro hm;obtain⟨y,hy,rfl⟩:=zzL21.1 hm;obtain⟨z,hz,hzy⟩:=List.mem_filterMap.1 hy
     cases hz':Ai st.own z.1 with
     | none=>grind
     | some o'=>
      grind
    | false=>simpa [Lt] using ih
 exact key ρ h2
theorem vP{own0:Nat->Option Own}{θ0:Nat->Option (Nat×Nat)}{I0:Nat->Nat->Prop}{w0:World}{own:Nat->Option Own}{ρ:List (Nat×Nat)}(hρ:∀ nm c,Ai ρ nm=some c->own nm=Ai st.own nm)(h1:(ρ.map (·.1)).Nodup)(h2:(ρ.map (·.2)).Nodup)(k:Chg own0 θ0 I0 w0 own θ I w)
  (hh:∀ nm,own0 nm≠none->Ai ρ nm=some nm) :
  Chg own0 θ0 I0 w0 (Ai (TY ρ st)) (λk=>(Ai (Lt ρ) k).bind θ) I w/\∀ v x,Rep I own θ w v x->Rep I (Ai (TY ρ st)) (λk=>(Ai (Lt ρ) k).bind θ) w v (x.ren ρ):=by
 have hfw:∀ nm c o,Ai ρ nm=some c->own nm=some o->Ai (TY ρ st) c=some (o.ren ρ)/\(Ai (Lt ρ) c).bind θ=θ nm:=λnm c o hl ho=>by
  have hs:=(Ss h1 h2).1 hl;rw[hρ nm c hl]at ho;rw[ae h2,hs];simp[ho]
 have hbw:∀ c o,Ai (TY ρ st) c=some o->∃ nm o',Ai ρ nm=some c/\own nm=some o'/\o=o'.ren ρ/\(Ai (Lt ρ) c).bind θ=θ nm:=λc o ho=>by
  rw[ae h2]at ho;obtain⟨nm,hs,ho'⟩:=zzL98.1 ho;obtain⟨o',ho'',rfl⟩:=zzL75.1 ho';exact⟨nm,o',(Ss h1 h2).2 hs,(hρ nm c ((Ss h1 h2).2 hs)).trans ho'',rfl,by simp[hs]⟩
 refine⟨{ k with le:=λnm o ho=>?_,rel:=⟨λc e' cells hc=>?_,λc sz e m hc g cc hg=>?_,λc c' g cc cc' hc hc' hg hg'=>?_,λc sz e m f hc=>?_,λc x hc=>?_,λc sz m hc hnn=>?_⟩,new:=λc g cc hc hg=>?_ },λv x hx=>hx.ren ρ hfw⟩
 ·obtain⟨o',ho',hl⟩:=k.le nm o ho;obtain⟨e1,e2⟩:=hfw nm nm o' (hh nm (by simp[ho])) ho';refine⟨_,e1,?_⟩;rw[e2]
  cases o<;>cases o'<;>simp_all [OwnLe,Own.ren]
 rotate_left 5
 ·obtain⟨nm,o',hl,ho',he,ht⟩:=hbw c _ hc
  cases o' with
  | row=>simp[Own.ren]at he
  | arr=>simp[Own.ren]at he
  | obj=>simp[Own.ren]at he
  | tok=>
   simp only[Own.ren,Own.tok.injEq]at he;obtain⟨rfl,rfl,rfl⟩:=he;exact k.rel.tok8 nm _ _ ho' (ht.symm.trans hnn)
 rotate_right 1
 ·obtain⟨nm,o',hl,ho',he,ht⟩:=hbw c _ hc
  cases o' with
  | row=>simp[Own.ren]at he
  | tok=>simp[Own.ren]at he
  | arr=>simp[Own.ren]at he
  | obj x'=>
   simp only[Own.ren,Own.obj.injEq]at he;subst he;exact Mx (θ':=λc=>(Ai (Lt ρ) c).bind θ) (nm':=c) (k.rel.obj nm _ ho') ht (λ_ _ _=>rfl) (λ_ _ _ _ h=>h) (λ_ hh=>hh.on _ (λ_ _ h=>h) (λ_ _ _=>rfl) λ_ _ hv=>hv.ren ρ hfw) TG
 rotate_left 1
 ·obtain⟨nm,o',hl,ho',he,ht⟩:=hbw c _ hc
  cases o' with
  | tok=>simp[Own.ren]at he
  | arr=>simp[Own.ren]at he
  | obj=>simp[Own.ren]at he
  | row e1 cs=>
   simp only[Own.ren,Own.row.injEq]at he;obtain⟨rfl,rfl⟩:=he;obtain⟨g,c',vs,r1,r2,r3,r4,r5,r6⟩:=k.rel.row nm _ cs ho';refine⟨g,c',vs,ht.trans r1,r2,by rw[Bj];exact r3,λj hj=>r4 j (by rwa[Bj]at hj),λj hj=>?_,r6⟩;rw[Mh];exact(r5 j (by rwa[Bj]at hj)).ren ρ hfw
 ·obtain⟨nm,o',hl,ho',he,ht⟩:=hbw c _ hc
  cases o' with
  | row=>simp[Own.ren]at he
  | arr=>simp[Own.ren]at he
  | obj=>simp[Own.ren]at he
  | tok=>
   simp only[Own.ren,Own.tok.injEq]at he;obtain⟨rfl,rfl,rfl⟩:=he;exact k.rel.tok nm _ _ _ ho' g cc (by rw[<- ht];exact hg)
 ·cases hx:Ai (TY ρ st) c with
  | none=>exact(hc hx).elim
  | some o=>
   cases hx':Ai (TY ρ st) c' with
   | none=>exact(hc' hx').elim
   | some o'=>
    obtain⟨nm,o1,hl,ho1,_,ht⟩:=hbw c o hx;obtain⟨nm',o2,hl',ho2,_,ht'⟩:=hbw c' o' hx';rw[ht]at hg;rw[ht']at hg';have:=k.rel.inj nm nm' g cc cc' (by simp[ho1]) (by simp[ho2]) hg hg';subst this;rw[hl]at hl';exact OI hl'
 ·obtain⟨nm,o',hl,ho',he,ht⟩:=hbw c _ hc
  cases o' with
  | row=>simp[Own.ren]at he
  | tok=>simp[Own.ren]at he
  | obj=>simp[Own.ren]at he
  | arr sz' e' m' f'=>
   simp only[Own.ren,Own.arr.injEq]at he;obtain⟨rfl,rfl,rfl,rfl⟩:=he;exact Rg (k.rel.arr nm _ _ _ _ ho') ht (λ_ _ _=>rfl) (λ_ _ _ _ h=>h) (λi _=>Bj _ _) (λv i j _ _ hv=>by rw[Mh];exact hv.ren ρ hfw)
 ·cases hx:Ai (TY ρ st) c with
  | none=>exact(hc hx).elim
  | some o=>
   obtain⟨nm,o1,hl,ho1,_,ht⟩:=hbw c o hx;rw[ht]at hg;exact k.new nm g cc (by simp[ho1]) hg
theorem fu {f : FuncId} {fn : Func} {c : Code} {args : List AV} {H H' : List (Nat × Own)} {res : AV} (hf : P.funcs[f]? = some fn) (hb : fn.body = some c) (hname : (fn.name == "runtime.NumGoroutine") = false) (hlen : Nat.ble args.length fn.ntmps = true)
    (h : ∀ Γ : Hx, Γ.n = fn.ntmps → Γ.own0 = Ai H → BC P Γ c (Acr P fn.results.toList H res H') (LZ args H)) (hpl : TK H = true := by rfl) : Spec P f args H res H' := by
  have hlen := Nb hlen; refine ⟨fun az w => ?_, fun w I θ az hargs hown hval hglob => ?_⟩
  · have hn  := by simpa using hname
    simp [callFunc, hf, hn, hb]
  · let Γ : Hx := ⟨w, fn.ntmps, Ai H, θ, I, hglob, fun nm h => TL hpl h⟩
    refine calls_of_wp hf hb ?_
    have has : az.size = args.length := by simpa using hargs.length
    have hown0 : (LZ args H).sto.own = Ai H := be hpl
    have hrel : Rel Γ (LZ args H).sto I θ ⟨az ++ Array.replicate (fn.ntmps - az.size) undef, []⟩ w := by
      refine ⟨by simp [Γ]; omega, rfl, fun t => ?_, by rw [hown0]; exact .refl hown hval⟩
      have e : (LZ args H).sto.tmp t = if t < args.length then args.getD t .any else .any := by
        show (match Ai (eK 0 args) t with | some x => x | none => .any) = _
        rw [ZK]
        by_cases ht : t < args.length
        · simp [ht]
        · simp [ht]
      rw [e, hown0]
      by_cases ht : t < args.length
      · rw [if_pos ht]; have := hargs.get t ht
        have e2 : (az ++ Array.replicate (fn.ntmps - az.size) undef).getD t undef = az.toList.getD t undef := by
          have hts : t < az.size := by omega
          simp [ List.getD, Array.getElem?_append_left hts]
        rw [e2]; exact this
      · rw [if_neg ht]; exact .val _ _ (.any _)
    refine V1 (h Γ rfl rfl I θ _ w hrel) fun e a' w' ⟨st', I', θ', ⟨he, ρ, hret⟩, hr⟩ => ?_; unfold lb at hret
    cases hc : TX H ρ with
    | false => simp [hc] at hret
    | true =>
      simp only [hc, Af] at hret
      split at hret
      · rename_i x hx
        obtain ⟨rfl, rfl⟩ := hret; simp only [TX, A4] at hc; obtain ⟨⟨c1, c2, c4⟩, c3⟩ := hc; obtain ⟨v, hv, hrep⟩ := nz (fn := fn) hr hx
        obtain ⟨k1, k2⟩ := vP (own := st'.sto.own) (st := st') (fun nm c hl => Bd (by have := zzL29.1 c4 _ (N7 hl); simpa [Mo] using this)) (Oy c1) (Oy c2) hr.chg (fun nm hn => by
          cases hl : Ai H nm with
          | none => exact (hn hl).elim
          | some o =>
            have := zzL29.1 c3 _ (N7 hl)
            split at this
            · simp_all
            · cases this)
        have hfin : a'.defers = [] ∧ ∃ v, (results fn a'.tmps).run P w' = .ok v w' ∧ (∃ v_1 I' θ', Ending.returned v = .returned v_1 ∧ Chg (Ai H) θ I w (Ai (TY ρ st')) θ' I' w' ∧ Rep I' (Ai (TY ρ st')) θ' w' v_1 (x.ren ρ)) :=
          ⟨hr.defers, v, hv, v, I', _, rfl, k1, k2 _ _ hrep⟩
        rcases he with rfl | rfl <;> exact hfin
      · cases hret
theorem law_of_spec{f:FuncId}{args:List AV}(h:Spec P f args [] (.bool true) [])(w:World)(az:Array Value)(hargs:RepL (λb o=>∃ u,w.cell? ⟨b,o,none⟩=some u) (Ai []) (λ_=>none) w az.toList args)(hG:GOk (λb o=>∃ u,w.cell? ⟨b,o,none⟩=some u) w) :
  Calls P f az w λe w'=>e = .returned (.bool true)/\Below w.heap.size w w':=by
 refine Calls.mono (h.2 w _ _ az hargs ⟨(λ_ _ _ h=>by cases h),(λ_ _ _ _ h=>by cases h),(λ_ _ _ _ _ h=>(h rfl).elim),(λ_ _ _ _ _ h=>by cases h),(λ_ _ h=>by cases h),(λ_ _ _ h=>by cases h)⟩ (λ_ _ h=>h) hG) λe w' ⟨v,I',θ',he,k,hr⟩=>?_;subst he;rw[hr.bool_inv];exact⟨rfl,k.os,k.tape,k.output,k.grow,λb hb=>k.frame b hb λ_ _ h=>(h rfl).elim⟩
end
def AV.list{α:Type}(sz:Nat)(e:α->List AV)(d:α)(l:List α)(t:Tag):AV:=.slice sz l.length (λi=>e (l.getD i d)) t
section
variable {α:Type} {sz:Nat} {e:α->List AV} {d:α}
theorem Cp:AVle (.slice 0 0 (λ_=>[]) .exact) (AV.list sz e d [] .exact):=AVle.empty rfl (λ_ h=>by cases h)
theorem bZ{n:Nat}{f:Nat->List AV}{t:Tag}{xs:List α}(hn:n=xs.length)(hf:∀ i,i<n->f i=e (xs.getD i d)):AVle (.slice sz n f t) (AV.list sz e d xs t):=AVle.slice hn hf
theorem vr(xs:List α)(i:Nat)(h:i<xs.length):(xs.map e).getD i []=e (xs.getD i d):=by simp[List.getD,h]
theorem ki(l m:List α)(i:Nat)(h:i<l.length+m.length):Pn l.length (λi=>e (l.getD i d)) (λi=>e (m.getD i d)) i=e ((l++m).getD i d):=by
 by_cases hi:i<l.length
 ·rw[Rf _ _ hi,List.getD,List.getD,Wu hi]
 ·rw[Wc _ _ (by omega),List.getD,List.getD,Wt (by omega)]
theorem yq{t:Tag}{l m:List α}:AVle (.slice sz (l.length+m.length) (Pn l.length (λi=>e (l.getD i d)) (λi=>e (m.getD i d))) t) (AV.list sz e d (l++m) t):=
 AVle.slice (by simp) λi hi=>ki l m i hi
theorem Bg(l m:List α):l.length+m.length=(l++m).length:=by simp
theorem QQ{t:Tag}{l:List α}{k:Nat}:AVle (.slice sz (l.length-k) (λi=>e (l.getD (k+i) d)) t) (AV.list sz e d (l.drop k) t):=
 AVle.slice (by simp) λi _=>by simp[List.getD]
end
theorem Spec.drop{P:Program}{f:FuncId}{args:List AV}{res:AV}{H':List (Nat×Own)}(h:Spec P f args [] res H'):Spec P f args [] res.strip []:=by
 refine⟨h.1,λw I θ az ha ho hv hg=>Calls.mono (h.2 w I θ az ha ho hv hg) λe w' ⟨v,I',θ',he,k,hr⟩=>⟨v,I',θ',he,⟨k.imm,k.cell,(λ_ _ h=>by cases h),⟨(λ_ _ _ h=>by cases h),(λ_ _ _ _ h=>by cases h),(λ_ _ _ _ _ h=>(h rfl).elim),(λ_ _ _ _ _ h=>by cases h),(λ_ _ h=>by cases h),(λ_ _ _ h=>by cases h)⟩,k.valid,k.os,k.tape,k.output,k.drawn,k.grow,k.frame,(λ_ _ _ h=>(h rfl).elim),λb o hi=>?_⟩,.val _ _ hr.strip⟩⟩;exact k.immNew b o hi
theorem Kx{α:Type}{sz:Nat}{e:α->List AV}{d:α}{γ:Bool}{l m:List α}:AVle (.slice sz (bif γ then m.length else l.length) (λi=>bif γ then e (m.getD i d) else e (l.getD i d)) .none) (AV.list sz e d (bif γ then m else l) .none):=by cases γ<;>exact λ_ _ _ _ _ h=>h
theorem Spec.args{P:Program}{f:FuncId}{xs ys:List AV}{H:List (Nat×Own)}{res:AV}{H':List (Nat×Own)}(hl:AVleL xs ys)(h:Spec P f ys H res H'):Spec P f xs H res H':=by
 refine⟨h.1,λw I θ az ha ho hv hg=>h.2 w I θ az ?_ ho hv hg⟩
 revert hl
 have key:∀{vs:List Value} {xs ys:List AV},AVleL xs ys->RepL I (Ai H) θ w vs xs->RepL I (Ai H) θ w vs ys:=by
  intro vs xs ys hl
  induction hl generalizing vs with
  | nil=>intro h;cases h;exact .nil
  | cons h1 _ ih=>intro h;cases h with|cons h2 h3=>exact .cons (h1 _ _ _ _ _ h2) (ih h3)
 exact λhl=>key hl ha
theorem Ys{α:Type}{sz:Nat}{e:α->List AV}{d:α}:AVle (.slice 0 0 (λ_=>[]) .none) (AV.list sz e d [] .none):=AVle.empty rfl (λ_ h=>by cases h)
instance (i:Int)(n:Nat):Decidable (As i n):=inferInstanceAs (Decidable (_/\_))
abbrev w64(n:Int):Int:=IntKind.i64.wrap n
abbrev Jc(n:Int):Int:=IntKind.u64.wrap n
open Classical in
def qY{R:Type}(f:Nat->Option R):Option R:=if h:∃ r n,∀ m,n<=m->f m=some r then some h.choose else none
theorem nH{R:Type}{f:Nat->Option R}{r:R}(h:qY f=some r):∃ n,f n=some r:=by
 unfold qY at h
 split at h
 ·rename_i hx
  obtain⟨n,hn⟩:=hx.choose_spec;simp only[Aw]at h;exact⟨n,h▸hn n (zzL7 n)⟩
 ·cases h
theorem vX{R:Type}{f:Nat->Option R}{r:R}(n:Nat)(h:∀ m,n<=m->f m=some r):qY f=some r:=by
 have hx:∃ r n,∀ m,n<=m->f m=some r:=⟨r,n,h⟩;unfold qY;rw[dif_pos hx];obtain⟨k,hk⟩:=hx.choose_spec;have h1:=hk (max n k) (by omega);rw[h (max n k) (by omega)]at h1;exact h1.symm
section
variable {Γ:Hx}
theorem SK{st st':St}(live names:List Nat)(h:Hl live names st=st')(hn:∀ nm,Γ.own0 nm≠none->nm∈names):Le Γ st st':=h▸ed live names hn
theorem A5{P:Program}{n:Nat}{H:List (Nat×Own)}{st st':St}(live names:List Nat)(q:RgQ P Γ n H)(h:Hl live names st=st':=by kernel_rfl)(hh:(H.all λx=>B8 x.1 names)=true:=by kernel_rfl):Le Γ st st':=SK live names h (q.hand hh)
theorem Ii{st st':St}(h:st=st'):Le Γ st st':=h▸Le.refl _ _
end
section
variable {P:Program} {Γ:Hx}
def BF(nm:Nat)(k:Nat):Bool:=!Nat.beq k nm
mutual
def AV.frz(nm sz n:Nat)(g:Nat->List AV):AV->AV
 | .slice s m f (.own k)=>.slice s m f (bif Nat.beq k nm then .none else .own k)
 | .ptr k off=>bif Nat.beq k nm then .any else .ptr k off
 | .vsl k j=>bif Nat.beq k nm then .slice sz n g (.own nm) else .vsl k j
 | .vpt k j i c=>bif Nat.beq k nm then .any else .vpt k j i c
 | .vsub k j l h=>bif Nat.beq k nm then .any else .vsub k j l h
 | .optr k m=>bif Nat.beq k nm then .any else .optr k m
 | .omap k=>bif Nat.beq k nm then .any else .omap k
 | .clo f xs ys=>.clo f (AV.frzAll nm sz n g xs) (AV.frzAll nm sz n g ys)
 | .agg cs=>.agg (AV.frzAll nm sz n g cs)
 | .rpo cs=>.rpo (AV.frzAll nm sz n g cs)
 | .tuple cs=>.tuple (AV.frzAll nm sz n g cs)
 | .cond c x=>.cond c (x.frz nm sz n g)
 | x=>x
def AV.frzAll(nm sz n:Nat)(g:Nat->List AV):List AV->List AV
 | []=>[]
 | x::l=>x.frz nm sz n g::AV.frzAll nm sz n g l
end
mutual
def AV.wholes(nm n:Nat):AV->List Prop
 | .vsl k j=>bif Nat.beq k nm then[j=n] else[]
 | .agg cs=>AV.wholesAll nm n cs
 | .rpo cs=>AV.wholesAll nm n cs
 | .tuple cs=>AV.wholesAll nm n cs
 | .cond _ x=>x.wholes nm n
 | .clo _ xs ys=>AV.wholesAll nm n xs++AV.wholesAll nm n ys
 | _=>[]
def AV.wholesAll(nm n:Nat):List AV->List Prop
 | []=>[]
 | x::l=>x.wholes nm n++AV.wholesAll nm n l
end
mutual
def AV.frw(nm sz n:Nat)(g:Nat->List AV):AV->AV
 | .slice s m f (.own k)=>.slice s m f (bif BF nm k then .own k else .none)
 | .slice s m f (.fam b i)=>.slice s m f (bif BF nm b then .fam b i else .none)
 | .ptr k off=>bif BF nm k then .ptr k off else .any
 | .vsl k j=>bif BF nm k then .vsl k j else bif Nat.beq j n then .slice sz n g .none else .any
 | .vpt k j i c=>bif BF nm k then .vpt k j i c else .any
 | .vsub k j l h=>bif BF nm k then .vsub k j l h else .any
 | .optr k m=>bif BF nm k then .optr k m else .any
 | .omap k=>bif BF nm k then .omap k else .any
 | .clo f xs ys=>.clo f (AV.frwAll nm sz n g xs) (AV.frwAll nm sz n g ys)
 | .agg cs=>.agg (AV.frwAll nm sz n g cs)
 | .rpo cs=>.rpo (AV.frwAll nm sz n g cs)
 | .tuple cs=>.tuple (AV.frwAll nm sz n g cs)
 | .cond c x=>.cond c (x.frw nm sz n g)
 | x=>x
def AV.frwAll(nm sz n:Nat)(g:Nat->List AV):List AV->List AV
 | []=>[]
 | x::l=>x.frw nm sz n g::AV.frwAll nm sz n g l
end
theorem Di(nm sz n:Nat)(g:Nat->List AV)(l:List AV):(AV.frwAll nm sz n g l).length=l.length:=by induction l with|nil=>rfl|cons x l ih=>simp[AV.frwAll,ih]
theorem Tl(nm sz n:Nat)(g:Nat->List AV)(l:List AV)(j:Nat):(AV.frwAll nm sz n g l).getD j .any=(l.getD j .any).frw nm sz n g:=by
 induction l generalizing j with
 | nil=>simp[AV.frwAll,AV.frw]
 | cons x l ih=>cases j with
  | zero=>simp[AV.frwAll]
  | succ j=>simpa [AV.frwAll] using ih j
theorem RepV.frw{I:Nat->Nat->Prop}{w:World}{v:Value}{x:AV}(h:RepV I w v x)(nm sz n:Nat)(g:Nat->List AV):RepV I w v (x.frw nm sz n g):=by
 induction h with
 | any v=>exact .any v
 | undef=>exact .undef
 | int k n=>exact .int k n
 | bool b=>exact .bool b
 | str s=>exact .str s
 | clo f=>exact .clo f
 | nxt1 i r=>exact .nxt1 i r
 | nxt0 i r=>exact .nxt0 i r
 | nilq b pos n h=>exact .nilq b pos n h
 | err0=>exact .err0
 | err1 t v=>exact .err1 t v
 | nilp=>exact .nilp
 | nilm=>exact .nilm
 | cond v c x _ h' ih=>exact .cond v c _ ih h'
 | rptr a cells us hs hI' hc h1 hr _=>exact .rptr a _ us hs hI' hc h1 hr
 | slice a n cap sz f us hcap hmax hz hn h1 hl hr _=>exact .slice a n cap sz f us hcap hmax hz hn h1 hl hr
 | agg vs cs hl h1 _ ih=>exact .agg vs _ (by rw[Di,hl]) (λj hj=>h1 j (by rwa[Di]at hj)) (λj hj=>by rw[Tl];exact ih j (by rwa[Di]at hj))
 | tuple vs cs hl _ ih=>exact .tuple vs _ (by rw[Di,hl]) (λj hj=>by rw[Tl];exact ih j (by rwa[Di]at hj))
def Own.frz(nm sz n:Nat)(g:Nat->List AV):Own->Own
 | .row e cells=>.row e (AV.frzAll nm sz n g cells)
 | .arr s e m f=>.arr s e m (λi=>AV.frwAll nm sz n g (f i))
 | .obj x=>.obj (x.on (AV.frw nm sz n g))
 | .tok s e m=>.tok s e m
def Own.wholes(nm n:Nat):Own->List Prop
 | .row _ cells=>AV.wholesAll nm n cells
 | _=>[]
def St.wholes(st:St)(nm n:Nat):List Prop:=(st.tmps.map λx=>x.2.wholes nm n).flatten++(st.own.map λx=>x.2.wholes nm n).flatten
def St.freeze(st:St)(nm sz n:Nat)(e:TypeId)(g:Nat->List AV):St:=
 ⟨st.tmps.map λx=>(x.1,x.2.frz nm sz n g),st.own.map λx=>(x.1,bif Nat.beq x.1 nm then .tok sz e n else x.2.frz nm sz n g),st.fam⟩
theorem Cs(nm sz n:Nat)(g:Nat->List AV)(l:List AV):(AV.frzAll nm sz n g l).length=l.length:=by induction l with|nil=>rfl|cons x l ih=>simp[AV.frzAll,ih]
theorem Tm(nm sz n:Nat)(g:Nat->List AV)(l:List AV)(j:Nat):(AV.frzAll nm sz n g l).getD j .any=(l.getD j .any).frz nm sz n g:=by
 induction l generalizing j with
 | nil=>simp[AV.frzAll,AV.frz]
 | cons x l ih=>cases j with
  | zero=>simp[AV.frzAll]
  | succ j=>simpa [AV.frzAll] using ih j
theorem Qq{nm n:Nat}{l:List AV}(h:∀ p∈AV.wholesAll nm n l,p)(j:Nat):∀ p∈(l.getD j .any).wholes nm n,p:=by
 induction l generalizing j with
 | nil=>intro p hp;simp[AV.wholes]at hp
 | cons x l ih=>
  cases j with
  | zero=>intro p hp;exact h p (zzL11.2 (.inl (by simpa using hp)))
  | succ j=>intro p hp;exact ih (λq hq=>h q (zzL11.2 (.inr hq))) j p (by simpa using hp)
theorem RepV.frz{I:Nat->Nat->Prop}{w:World}{v:Value}{x:AV}(h:RepV I w v x)(nm sz n:Nat)(g:Nat->List AV):RepV I w v (x.frz nm sz n g):=by
 induction h with
 | any v=>exact .any v
 | undef=>exact .undef
 | int k n=>exact .int k n
 | bool b=>exact .bool b
 | str s=>exact .str s
 | clo f=>exact .clo f
 | nxt1 i r=>exact .nxt1 i r
 | nxt0 i r=>exact .nxt0 i r
 | nilq b pos n h=>exact .nilq b pos n h
 | err0=>exact .err0
 | err1 t v=>exact .err1 t v
 | nilp=>exact .nilp
 | nilm=>exact .nilm
 | cond v c x _ h' ih=>exact .cond v c _ ih h'
 | rptr a cells us hs hI' hc h1 hr _=>exact .rptr a _ us hs hI' hc h1 hr
 | slice a n cap sz f us hcap hmax hz hn h1 hl hr _=>exact .slice a n cap sz f us hcap hmax hz hn h1 hl hr
 | agg vs cs hl h1 _ ih=>exact .agg vs _ (by rw[Cs,hl]) (λj hj=>h1 j (by rwa[Cs]at hj)) (λj hj=>by rw[Tm];exact ih j (by rwa[Cs]at hj))
 | tuple vs cs hl _ ih=>exact .tuple vs _ (by rw[Cs,hl]) (λj hj=>by rw[Tm];exact ih j (by rwa[Cs]at hj))
theorem Rep.frz{I I':Nat->Nat->Prop}{own own':Nat->Option Own}{θ:Nat->Option (Nat×Nat)}{w:World}{v:Value}{x:AV}{nm sz n:Nat}{g:Nat->List AV}(h:Rep I own θ w v x)(hp:∀ p∈x.wholes nm n,p)(hI:∀ b o,I b o->I' b o)
  (ho:∀ k o,own k=some o->Nat.beq k nm=false->own' k=some (o.frz nm sz n g)) (hk:∀ v,Rep I own θ w v (.vsl nm n)->Rep I' own' θ w v (.slice sz n g (.own nm))) (hlt':∀ b i,Nat.beq (T4 b i) nm=false):Rep I' own' θ w v (x.frz nm sz n g):=by
 induction h with
 | val v x h=>exact .val _ _ ((h.frz nm sz n g).mono hI (λ_ _ _=>rfl))
 | exact a n sz f h=>exact .exact a n sz f (h.mono hI (λ_ _ _=>rfl))
 | own k sz e m a n cap f hn hm hv h=>
  simp only[AV.frz]
  cases hb:Nat.beq k nm with
  | true=>exact .val _ _ (h.mono hI (λ_ _ _=>rfl))
  | false=>exact .own k sz e m a n cap f (ho k _ hn hb) hm hv (h.mono hI (λ_ _ _=>rfl))
 | fam b i sz e m a n cap f hi hn hm hv h=>
  exact .fam b i sz e m a n cap f hi (ho _ _ hn (hlt' b i)) hm hv (h.mono hI (λ_ _ _=>rfl))
 | ptr k off e0 cells g c hn hg=>
  simp only[AV.frz]
  cases hb:Nat.beq k nm with
  | true=>exact .val _ _ (.any _)
  | false=>exact .ptr k off e0 _ g c (ho k _ hn hb) hg
 | vsl k s2 e m f a j cap hn hm hcap hmax hnn hv=>
  simp only[AV.frz]
  cases hb:Nat.beq k nm with
  | true=>
   obtain rfl:=Ej hb;obtain rfl:j=n:=hp _ (by simp[AV.wholes]);exact hk _ (.vsl k s2 e m f a j cap hn hm hcap hmax hnn hv)
  | false=>exact .vsl k s2 e m _ a j cap (ho k _ hn hb) hm hcap hmax hnn hv
 | vpt k s2 e m f j i c ad hn hm hi hv=>
  simp only[AV.frz]
  cases hb:Nat.beq k nm with
  | true=>exact .val _ _ (.any _)
  | false=>exact .vpt k s2 e m _ j i c ad (ho k _ hn hb) hm hi hv
 | clo f fs cs xs ys hl hl' _ _ ih ih'=>
  simp only[AV.wholes,zzL11]at hp;exact .clo f fs cs _ _ (by rw[Cs,hl]) (by rw[Cs,hl']) (λj hj=>by rw[Tm];exact ih j (by rwa[Cs]at hj) (Qq (λp h=>hp p (.inl h)) j)) (λj hj=>by rw[Tm];exact ih' j (by rwa[Cs]at hj) (Qq (λp h=>hp p (.inr h)) j))
 | vsub k s2 e m f j lo hi a cap hn hm hlo hhi hcap hmax hnn hv=>
  simp only[AV.frz]
  cases hb:Nat.beq k nm with
  | true=>exact .val _ _ (.any _)
  | false=>exact .vsub k s2 e m _ j lo hi a cap (ho k _ hn hb) hm hlo hhi hcap hmax hnn hv
 | optr k mm x g c hn hg=>
  simp only[AV.frz]
  cases hb:Nat.beq k nm with
  | true=>exact .val _ _ (.any _)
  | false=>exact .optr k _ _ g c (ho k _ hn hb) hg
 | omap k x hn=>
  simp only[AV.frz]
  cases hb:Nat.beq k nm with
  | true=>exact .val _ _ (.any _)
  | false=>exact .omap k _ (ho k _ hn hb)
 | cond v c x _ h' ih=>exact .cond v c _ (λhc=>ih hc (by simpa [AV.wholes] using hp)) h'
 | agg vs cs hl h1 _ ih=>exact .agg vs _ (by rw[Cs,hl]) (λj hj=>h1 j (by rwa[Cs]at hj)) (λj hj=>by rw[Tm];exact ih j (by rwa[Cs]at hj) (Qq (by simpa [AV.wholes] using hp) j))
 | rpo a cells us hs hI' hc h1 _ ih=>exact .rpo a _ us hs (λj hj=>hI _ _ (hI' j (by rwa[Cs]at hj))) (λj hj=>hc j (by rwa[Cs]at hj)) (λj hj=>h1 j (by rwa[Cs]at hj)) (λj hj=>by rw[Tm];exact ih j (by rwa[Cs]at hj) (Qq (by simpa [AV.wholes] using hp) j))
 | tuple vs cs hl _ ih=>exact .tuple vs _ (by rw[Cs,hl]) (λj hj=>by rw[Tm];exact ih j (by rwa[Cs]at hj) (Qq (by simpa [AV.wholes] using hp) j))
theorem ZL{α β:Type}(l:List (Nat×α))(g:Nat->α->β)(k:Nat):Ai (l.map λx=>(x.1,g x.1 x.2)) k=(Ai l k).map (g k):=by
 induction l with
 | nil=>rfl
 | cons x l ih=>
  obtain⟨a,b⟩:=x;simp only[Cz,Ai]
  cases hb:Nat.beq a k with
  | true=>simp_all
  | false=>simpa using ih
theorem Acb{α β:Type}{l:List (Nat×α)}{g:α->List β}{k:Nat}{x:α}(h:Ai l k=some x){p:β}(hp:p∈g x):p∈(l.map λy=>g y.2).flatten:=
 List.mem_flatten.2 ⟨g x,zzL21.2 ⟨(k,x),N7 h,rfl⟩,hp⟩
theorem Gy{st:St}{nm sz n:Nat}{e:TypeId}{f g:Nat->List AV}(ho:Ai st.own nm=some (.arr sz e n f))(hwh:eF (st.wholes nm n))(hf:∀ i,i<n->AV.stripAll (f i)=g i)(h0:Γ.own0 nm=none)(hlt:Nat.blt nm Bt=true:=by rfl) :
  Le Γ st (st.freeze nm sz n e g):=by
 intro I θ a w h;have hall:=YU hwh
 have hlt:nm<Bt:=by simpa [Mo] using hlt
 have ho:st.sto.own nm=some (.arr sz e n f):=(Bd hlt).trans ho
 have hown':(st.freeze nm sz n e g).sto.own=λk=>(st.sto.own k).map λo=>bif Nat.beq k nm then Own.tok sz e n else o.frz nm sz n g:=by
  funext k
  by_cases hk:k<Bt
  ·show C4 _ _ k=(C4 _ _ k).map _
   rw[Bd hk,Bd hk];exact ZL st.own (λk o=>bif Nat.beq k nm then Own.tok sz e n else o.frz nm sz n g) k
  ·have hb:Nat.beq k nm=false:=by cases hb:Nat.beq k nm with|false=>rfl|true=>exact absurd (Ej hb) (by rintro rfl;exact hk hlt)
   show C4 _ _ k=(C4 _ _ k).map _
   rw[Dg hk,Dg hk,hb]
   show(Ai st.fam (k / Bt-1)).bind _=_
   cases Ai st.fam (k / Bt-1) with
   | none=>rfl
   | some F=>simp only[Ak,Option.map_map];cases F.m (k % Bt)<;>rfl
 have hnm:(st.freeze nm sz n e g).sto.own nm=some (.tok sz e n):=by rw[hown'];simp[ho]
 have hne:∀ k,k≠nm->(st.freeze nm sz n e g).sto.own k=(st.sto.own k).map (Own.frz nm sz n g):=λk hk=>by
  have:Nat.beq k nm=false:=by cases hb:Nat.beq k nm with|false=>rfl|true=>exact absurd (Ej hb) hk
  rw[hown'];simp[this]
 have hkeep:∀ k o,st.sto.own k=some o->Nat.beq k nm=false->(st.freeze nm sz n e g).sto.own k=some (o.frz nm sz n g):=λk o hk hb=>by
  have:k≠nm:=by rintro rfl;simp at hb
  rw[hne k this];rw[hk];rfl
 have hback:∀ k,k≠nm->∀ o',(st.freeze nm sz n e g).sto.own k=some o'->∃ o,st.sto.own k=some o/\o'=o.frz nm sz n g:=λk hk o' ho'=>by
  rw[hne k hk]at ho';obtain⟨o,h1,h2⟩:=zzL75.1 ho';exact⟨o,h1,h2.symm⟩
 have hnone:∀ k,(st.freeze nm sz n e g).sto.own k≠none->st.sto.own k≠none:=λk hk=>by
  by_cases hkn:k=nm
  ·subst hkn;simp[ho]
  ·cases hx:(st.freeze nm sz n e g).sto.own k with
   | none=>exact(hk hx).elim
   | some o'=>obtain⟨o,h1,_⟩:=hback k hkn o' hx;simp[h1]
 have hrel:=h.chg.rel;obtain⟨q0,q1⟩:=hrel.arr nm sz e n f ho
 let I':Nat->Nat->Prop:=λb o=>I b o\/((∃ c,θ nm=some (b,c))/\o<n*sz)
 have hII:∀ b o,I b o->I' b o:=λ_ _ h=>.inl h
 have hkey:∀ v,Rep I st.sto.own θ w v (.vsl nm n)->Rep I' (st.freeze nm sz n e g).sto.own θ w v (.slice sz n g (.own nm)):=λv hs=>by
  obtain⟨sz',e',m,f2,ad,cap,hval,ho',hmm,hcap,hmax,hnn,hvv⟩:=hs.vsl_inv;have ho'':st.sto.own nm=some (.arr sz' e' m f2):=ho';rw[ho]at ho'';simp only[Aw,Own.arr.injEq]at ho'';obtain⟨rfl,rfl,rfl,rfl⟩:=ho'';have hvv:=hvv rfl;rw[hval];refine .own nm sz e n ad n cap g hnm (zzL7 _) (λ_=>hvv) ?_
  cases hθ:θ nm with
  | none=>
   have hn0:=q0 hθ;subst hn0;exact .slice ad 0 cap sz g (λ_=>undef) hcap hmax (λh=>by omega) hnn (λj hj=>by omega) (λi hi=>by omega) (λi c hi=>by omega)
  | some gc=>
   obtain⟨b,c⟩:=gc;rw[hθ]at hvv;simp only at hvv;obtain⟨rfl,rfl⟩:=hvv;obtain⟨cur,r1,r2,r3,r4,r5,r6,r7⟩:=q1 b cap hθ
   have hcell:∀ j,j<n*sz->w.cell? ⟨b,j,none⟩=some (cur.getD j undef):=λj hj=>by
    have:n*sz<=cap*sz:=Hw _ r2;rw[On w b j cur e (0,0) r1];exact Pm (by omega)
   refine .slice _ n cap sz g (λj=>cur.getD j undef) hcap hmax (λ_=>⟨⟨b,0,none⟩,rfl,rfl,λj hj=>.inr ⟨⟨cap,hθ⟩,by simpa using hj⟩,λj hj=>by simpa using hcell j hj⟩) (by simp) (λj hj=>?_) (λi hi=>?_) (λi k hi hk=>?_)
   ·have hs:0<sz:=by
     rcases zzL79 sz with h0|h0
     ·rw[h0]at hj;omega
     ·exact h0
    have e2:j / sz*sz+j % sz=j:=by rw[Zu];exact PK j sz
    have:=(r6 (j / sz) (j % sz) (by rw[ay hs];exact hj) (Zv _ hs)).1;rwa[e2]at this
   ·rw[<- hf i hi,Bz];exact r5 i hi
   ·rw[<- hf i hi,H5];exact((r6 i k hi hk).2.strip).mono hII (λ_ _ _=>rfl)
 have hlt':∀ b i,Nat.beq (T4 b i) nm=false:=λb i=>by cases hb:Nat.beq (T4 b i) nm with|false=>rfl|true=>exact absurd (Ej hb) (by rintro rfl;exact Sr b i hlt)
 have hcast:∀ v x,Rep I st.sto.own θ w v x->(∀ p∈x.wholes nm n,p)->Rep I' (st.freeze nm sz n e g).sto.own θ w v (x.frz nm sz n g):=λv x hx hp=>hx.frz hp hII hkeep hkey hlt'
 have hfar:∀ k b c,k≠nm->st.sto.own k≠none->θ k=some (b,c)->∀ j,I' b j->I b j:=λk b c hk hk' hg j hj=>by
  rcases hj with hj|⟨⟨c',hc'⟩,_⟩
  ·exact hj
  ·exact(hk (hrel.inj k nm b c c' hk' (by simp[ho]) hg hc')).elim
 have hcast2:∀ v x,Rep I st.sto.own θ w v x->Rep I' (st.freeze nm sz n e g).sto.own θ w v (x.frw nm sz n g):=λv x hx=>by
  have key:∀{v:Value} {x:AV},Rep I st.sto.own θ w v x->Rep I' (st.freeze nm sz n e g).sto.own θ w v (x.frw nm sz n g):=by
   intro v x h
   induction h with
   | val v x h=>exact .val _ _ ((h.frw nm sz n g).mono hII (λ_ _ _=>rfl))
   | exact a n sz f h=>exact .exact a n sz f (h.mono hII (λ_ _ _=>rfl))
   | own k sz e m a n cap f hn hm hv h=>
    simp only[AV.frw,BF]
    cases hb:Nat.beq k nm with
    | true=>exact .val _ _ (h.mono hII (λ_ _ _=>rfl))
    | false=>exact .own k sz e m a n cap f (hkeep k _ hn hb) hm hv (h.mono hII (λ_ _ _=>rfl))
   | fam b i sz e m a n cap f hi hn hm hv h=>
    simp only[AV.frw,BF]
    cases hb:Nat.beq b nm with
    | true=>exact .val _ _ (h.mono hII (λ_ _ _=>rfl))
    | false=>exact .fam b i sz e m a n cap f hi (hkeep _ _ hn (hlt' b i)) hm hv (h.mono hII (λ_ _ _=>rfl))
   | ptr k off e0 cells g c hn hg=>
    simp only[AV.frw,BF]
    cases hb:Nat.beq k nm with
    | true=>exact .val _ _ (.any _)
    | false=>exact .ptr k off e0 _ g c (hkeep k _ hn hb) hg
   | vsl k s2 e m f a j cap hn hm hcap hmax hnn hv=>
    simp only[AV.frw,BF]
    cases hb:Nat.beq k nm with
    | true=>
     simp only[C0,Ar]
     cases hj:Nat.beq j n with
     | false=>exact .val _ _ (.any _)
     | true=>
      obtain rfl:=Ej hb;obtain rfl:=Ej hj;exact .val _ _ (hkey _ (.vsl k s2 e m f a j cap hn hm hcap hmax hnn hv)).slice_val
    | false=>exact .vsl k s2 e m _ a j cap (hkeep k _ hn hb) hm hcap hmax hnn hv
   | vpt k s2 e m f j i c ad hn hm hi hv=>
    simp only[AV.frw,BF]
    cases hb:Nat.beq k nm with
    | true=>exact .val _ _ (.any _)
    | false=>exact .vpt k s2 e m _ j i c ad (hkeep k _ hn hb) hm hi hv
   | clo f fs cs xs ys hl hl' _ _ ih ih'=>exact .clo f fs cs _ _ (by rw[Di,hl]) (by rw[Di,hl']) (λj hj=>by rw[Tl];exact ih j (by rwa[Di]at hj)) (λj hj=>by rw[Tl];exact ih' j (by rwa[Di]at hj))
   | vsub k s2 e m f j lo hi a cap hn hm hlo hhi hcap hmax hnn hv=>
    simp only[AV.frw,BF]
    cases hb:Nat.beq k nm with
    | true=>exact .val _ _ (.any _)
    | false=>exact .vsub k s2 e m _ j lo hi a cap (hkeep k _ hn hb) hm hlo hhi hcap hmax hnn hv
   | optr k mm x g c hn hg=>
    simp only[AV.frw,BF]
    cases hb:Nat.beq k nm with
    | true=>exact .val _ _ (.any _)
    | false=>exact .optr k _ _ g c (hkeep k _ hn hb) hg
   | omap k x hn=>
    simp only[AV.frw,BF]
    cases hb:Nat.beq k nm with
    | true=>exact .val _ _ (.any _)
    | false=>exact .omap k _ (hkeep k _ hn hb)
   | cond v c x _ h' ih=>exact .cond v c _ ih h'
   | agg vs cs hl h1 _ ih=>exact .agg vs _ (by rw[Di,hl]) (λj hj=>h1 j (by rwa[Di]at hj)) (λj hj=>by rw[Tl];exact ih j (by rwa[Di]at hj))
   | rpo a cells us hs hI' hc h1 _ ih=>exact .rpo a _ us hs (λj hj=>.inl (hI' j (by rwa[Di]at hj))) (λj hj=>hc j (by rwa[Di]at hj)) (λj hj=>h1 j (by rwa[Di]at hj)) (λj hj=>by rw[Tl];exact ih j (by rwa[Di]at hj))
   | tuple vs cs hl _ ih=>exact .tuple vs _ (by rw[Di,hl]) (λj hj=>by rw[Tl];exact ih j (by rwa[Di]at hj))
  exact key hx
 refine⟨I',θ,h.size,h.defers,λt=>?_,?_⟩
 ·have hslot:(st.freeze nm sz n e g).sto.tmp t=match Ai st.tmps t with|some x=>x.frz nm sz n g|none=>.any:=by
   show(match Ai (st.tmps.map λx=>(x.1,x.2.frz nm sz n g)) t with|some x=>x|none=>.any)=_
   rw[ZL st.tmps (λ_ x=>x.frz nm sz n g) t]
   cases Ai st.tmps t<;>rfl
  rw[hslot];have hs:=h.slots t
  have hget:st.sto.tmp t=match Ai st.tmps t with|some x=>x|none=>.any:=rfl
  cases hl:Ai st.tmps t with
  | none=>exact .val _ _ (.any _)
  | some x=>
   rw[hget,hl]at hs;exact hcast _ _ hs (λp hp=>hall p (zzL11.2 (.inl (Acb (g:=λx=>x.wholes nm n) hl hp))))
 ·refine{ h.chg with imm:=λb o hi=>.inl (h.chg.imm b o hi),le:=λk o hk=>?_,rel:=⟨λk e0 cells hk=>?_,λk s2 e2 m hk b c hg=>?_,λk k' b c c' hk hk'=>?_,λk s2 e2 m f2 hk=>?_,λk x hk=>?_,λk s2 m hk hnn=>?_⟩,valid:=λb o hi=>?_,new:=λk b c hk hg=>?_,immNew:=λb o hi=>?_ }
  ·obtain⟨o',ho',hl⟩:=h.chg.le k o hk
   have hkn:k≠nm:=by rintro rfl;rw[h0]at hk;cases hk
   have hkb:Nat.beq k nm=false:=by cases hb:Nat.beq k nm with|false=>rfl|true=>exact absurd (Ej hb) hkn
   refine⟨_,hkeep k o' ho' hkb,?_⟩
   cases o<;>cases o'<;>first|exact hl|exact hl.elim
  rotate_left 4
  ·have hkn:k≠nm:=by rintro rfl;rw[hnm]at hk;cases hk
   obtain⟨o,h1,h2⟩:=hback k hkn _ hk
   cases o with
   | row=>simp[Own.frz]at h2
   | tok=>simp[Own.frz]at h2
   | arr=>simp[Own.frz]at h2
   | obj x'=>
    simp only[Own.frz,Own.obj.injEq]at h2;subst h2;exact Mx (hrel.obj k _ h1) rfl (λ_ _ _=>rfl) (λb c j hg hj=>hfar k b c hkn (by simp[h1]) hg j hj) (λ_ hh=>hh.on _ hII (λ_ _ _=>rfl) λv y hv=>hcast2 _ _ hv) TG
  ·by_cases hkn:k=nm
   ·subst hkn;rw[hnm]at hk;simp only[Aw,Own.tok.injEq]at hk;obtain⟨rfl,_,rfl⟩:=hk;exact q0 hnn
   ·obtain⟨o,h1,h2⟩:=hback k hkn _ hk
    cases o with
    | row=>simp[Own.frz]at h2
    | arr=>simp[Own.frz]at h2
    | obj=>simp[Own.frz]at h2
    | tok=>
     simp only[Own.frz,Own.tok.injEq]at h2;obtain⟨rfl,rfl,rfl⟩:=h2;exact hrel.tok8 k _ _ h1 hnn
  rotate_left 3
  ·have hkn:k≠nm:=by rintro rfl;rw[hnm]at hk;cases hk
   obtain⟨o,h1,h2⟩:=hback k hkn _ hk
   cases o with
   | tok=>simp[Own.frz]at h2
   | arr=>simp[Own.frz]at h2
   | obj=>simp[Own.frz]at h2
   | row e' cs=>
    simp only[Own.frz,Own.row.injEq]at h2;obtain⟨rfl,rfl⟩:=h2;obtain⟨b,c,vs,r1,r2,r3,r4,r5,r6⟩:=hrel.row k _ cs h1;refine⟨b,c,vs,r1,r2,by rw[Cs];exact r3,λj hj=>r4 j (by rwa[Cs]at hj),λj hj=>?_,λj hj=>r6 j (hfar k b c hkn (by simp[h1]) r1 j hj)⟩;rw[Tm];refine hcast _ _ (r5 j (by rwa[Cs]at hj)) (Qq (λp hp=>hall p (zzL11.2 (.inr (Acb (g:=λx=>x.wholes nm n) (eM h1 (λ_ _ _ h=>by cases h)) (by simpa [Own.wholes] using hp))))) j)
  ·by_cases hkn:k=nm
   ·subst hkn;rw[hnm]at hk;simp only[Aw,Own.tok.injEq]at hk;obtain⟨rfl,rfl,rfl⟩:=hk;obtain⟨cur,r1,r2,r3,r4,r5,r6,r7⟩:=q1 b c hg;refine⟨cur,0,r1,r2,r3,r4,Yh _,λj hj=>?_⟩;rcases hj with hj|⟨_,hj⟩
    ·exact(r7 j hj).elim
    ·exact hj
   ·obtain⟨o,h1,h2⟩:=hback k hkn _ hk
    cases o with
    | row=>simp[Own.frz]at h2
    | arr=>simp[Own.frz]at h2
    | obj=>simp[Own.frz]at h2
    | tok=>
     simp only[Own.frz,Own.tok.injEq]at h2;obtain⟨rfl,rfl,rfl⟩:=h2;obtain⟨cur,fz,r1,r2,r3,r4,r5',r5⟩:=hrel.tok k _ _ _ h1 b c hg;exact⟨cur,fz,r1,r2,r3,r4,r5',λj hj=>r5 j (hfar k b c hkn (by simp[h1]) hg j hj)⟩
  ·exact hrel.inj k k' b c c' (hnone k hk) (hnone k' hk')
  ·have hkn:k≠nm:=by rintro rfl;rw[hnm]at hk;cases hk
   obtain⟨o,h1,h2⟩:=hback k hkn _ hk
   cases o with
   | row=>simp[Own.frz]at h2
   | tok=>simp[Own.frz]at h2
   | obj=>simp[Own.frz]at h2
   | arr s3 e3 m3 f3=>
    simp only[Own.frz,Own.arr.injEq]at h2;obtain⟨rfl,rfl,rfl,rfl⟩:=h2;exact Rg (hrel.arr k _ _ _ _ h1) rfl (λ_ _ _=>rfl) (λb c j hg hj=>hfar k b c hkn (by simp[h1]) hg j hj) (λi _=>Di _ _ _ _ _) (λv i j _ _ hv=>by rw[Tl];exact hcast2 _ _ hv)
  ·rcases hi with hi|⟨⟨c,hc⟩,hj⟩
   ·exact h.chg.valid b o hi
   ·obtain⟨cur,r1,r2,r3,r4,r5,r6,r7⟩:=q1 b c hc;have:n*sz<=c*sz:=Hw _ r2;exact⟨cur.getD o undef,by rw[On w b o cur e (0,0) r1];exact Pm (by omega)⟩
  ·exact h.chg.new k b c (hnone k hk) hg
  ·rcases hi with hi|⟨⟨c,hc⟩,_⟩
   ·exact h.chg.immNew b o hi
   ·exact .inr (h.chg.new nm b c (by simp[ho]) hc)
end
section
variable {α:Type} {e:α->List AV} {d:α}
theorem Hk{f:Nat->List AV}{l:List α}{i j:Nat}{cs:List AV}{x:α}(hf:∀ k,k<l.length->f k=e (l.getD k d))(hi:i<l.length)(hx:(e (l.getD i d)).take j++cs++(e (l.getD i d)).drop (j+cs.length)=e x) :
  ∀ k,k<(l.set i x).length->Fk f i j cs k=e ((l.set i x).getD k d):=by
 intro k hk;rw[D6]at hk
 by_cases h:k=i
 ·subst h;rw[U5,hf k hk,hx];simp[ hk]
 ·rw[X8 f cs h,hf k hk];simp[ Sd h]
def iR{α:Type}(l:List α)(lo k:Nat)(s:Nat->α):List α:=l.mapIdx λi x=>if lo<=i/\i<lo+k then s (i-lo) else x
theorem J4(l:List α)(lo k:Nat)(s:Nat->α):l.length=(iR l lo k s).length:=by simp[iR]
theorem RS(l:List α)(lo k:Nat)(s:Nat->α)(i:Nat)(d:α)(h:i<l.length):(iR l lo k s).getD i d=if lo<=i/\i<lo+k then s (i-lo) else l.getD i d:=by
 simp[iR, h]
theorem QT{f g:Nat->List AV}{l:List α}{s:Nat->α}{lo k:Nat}(hf:∀ i,i<l.length->f i=e (l.getD i d))(hg:∀ i,i<k->g i=e (s i)):∀ i,i<(iR l lo k s).length->iP f lo k g i=e ((iR l lo k s).getD i d):=by
 intro i hi;rw[<- J4]at hi;rw[RS _ _ _ _ _ _ hi]
 by_cases h:lo<=i/\i<lo+k
 ·rw[iQ f g h,if_pos h,hg _ (by omega)]
 ·rw[JP f g h,if_neg h,hf i hi]
theorem AE(keep:Nat->Bool)(l m:List AV):AV.eraseAll keep (l++m)=AV.eraseAll keep l++AV.eraseAll keep m:=by induction l with|nil=>rfl|cons x l ih=>simp[AV.eraseAll,ih]
theorem XM(keep:Nat->Bool)(l:List AV)(n:Nat):AV.eraseAll keep (l.drop n)=(AV.eraseAll keep l).drop n:=by
 induction l generalizing n with
 | nil=>simp[AV.eraseAll]
 | cons x l ih=>cases n with
  | zero=>simp
  | succ n=>simpa [AV.eraseAll] using ih n
theorem Xu{f f':Nat->List AV}{l m:List α}(hf:∀ k,k<l.length->f k=e (l.getD k d))(hf':∀ k,k<m.length->f' k=e (m.getD k d)):∀ k,k<(l++m).length->Pn l.length f f' k=e ((l++m).getD k d):=by
 intro k hk;rw[G3]at hk;rw[<- ki (e:=e)  l m k hk]
 by_cases h:k<l.length
 ·rw[Rf _ _ h,Rf _ _ h,hf k h]
 ·rw[Wc _ _ (by omega),Wc _ _ (by omega),hf' _ (by omega)]
theorem Ry{z:List AV}(h:AVleL z (e d))(n:Nat):∀ k,k<(List.replicate n d).length->AVleL z (e ((List.replicate n d).getD k d)):=λk hk=>by
 grind
theorem Bk{f g:Nat->List AV}{n m:Nat}(hn:n=m)(h:∀ k,k<m->f k=g k):∀ k,k<n->AVleL (f k) (g k):=λk hk=>by rw[h k (by omega)];exact .refl _
end
section
variable {α:Type} {e:α->List AV} {d:α}
end
noncomputable instance (n:Nat)(f:Nat->List AV):Decidable (Aaa n f):=Classical.propDecidable _
theorem nl{a b:Nat}(h:Nat.ble a b=true):a<=b:=Nb h
theorem gT{c:Bool}(h:c=true):(c==true)=true:=by rw[h];rfl
theorem gF{c:Bool}(h:c=false):(c==false)=true:=by rw[h];rfl
theorem aT{g c:Bool}(hg:g=true)(h:c=true):(g&&(c==true))=true:=by rw[hg,h];rfl
theorem aF{g c:Bool}(hg:g=true)(h:c=false):(g&&(c==false))=true:=by rw[hg,h];rfl
theorem Ke{α:Type}{i:Int}{l:List α}(h:As i l.length):i.toNat<l.length:=by unfold As at h;omega
theorem vb{α:Type}{i:Int}{l:List α}{a:Nat}{x:α}(h:As i l.length):i.toNat<(l.set a x).length:=by rw[D6];exact Ke h
theorem R8{α:Type}{d:α}{n k:Nat}(h:k<n):k<(List.replicate n d).length:=by grind
def Qz{α:Type}(N:Nat)(d:α)(l:List α)(i:Nat)(x:α):List α:=(List.range N).map λj=>bif Nat.beq j i then x else l.getD j d
theorem ak{α:Type}{N:Nat}{d:α}{l:List α}{i:Nat}{x:α}{k:Nat}(hk:k<N):(Qz N d l i x).getD k d=bif Nat.beq k i then x else l.getD k d:=by
 unfold Qz;rw[List.getD,List.getElem?_map,List.getElem?_range hk]
 rfl
theorem X9{α:Type}{e:α->List AV}{d:α}{f:Nat->List AV}{l:List α}{N i j:Nat}{cs:List AV}{x:α}(hf:∀ k,k<N->f k=e (l.getD k d))(hi:i<N)(hx:(e (l.getD i d)).take j++cs++(e (l.getD i d)).drop (j+cs.length)=e x) :
  ∀ k,k<N->Fk f i j cs k=e ((Qz N d l i x).getD k d):=by
 intro k hk;rw[ak hk];unfold Fk
 cases hb:Nat.beq k i with
 | true=>
  grind
 | false=>grind
theorem Rk{i:Int}{N:Nat}(h:As i N):i.toNat<N:=by unfold As at h;omega
theorem eR{α:Type}(z:List α)(sz:Nat)(hz:z.length=sz):∀(N k:Nat),k<N->(((List.replicate N z).flatten).drop (k*sz)).take sz=z
 | 0,k,h=>by omega
 | N+1,0,h=>by
  grind
 | N+1,k+1,h=>by
  rw[List.replicate_succ,List.flatten_cons,show(k+1)*sz=z.length+k*sz by grind,List.drop_append,List.drop_eq_nil_of_le (by omega), Nat.add_sub_cancel_left];exact eR z sz hz N k (by omega)
def Pj{α:Type}(sz:Nat)(e:α->List AV)(d:α)(L:List (List α))(t:Nat->Tag):Nat->List AV:=λj=>[AV.list sz e d (L.getD j []) (t j)]
def Hp(b i k j:Nat):Tag:=bif Nat.beq j i then .own k else .fam b j
def N5{α:Type}(L:List (List α)):Nat->Option Nat:=λj=>if j<L.length then some (L.getD j []).length else none
def DD{α:Type}(L:List (List α))(i:Nat):Nat->Option Nat:=λj=>if j=i then none else N5 L j
mutual
def AV.free(p:Tag->Bool):AV->Bool
 | .slice _ _ _ t=>p t
 | .clo _ xs ys=>AV.freeAll p xs&&AV.freeAll p ys
 | .agg cs=>AV.freeAll p cs
 | .rpo cs=>AV.freeAll p cs
 | .tuple cs=>AV.freeAll p cs
 | .cond _ x=>x.free p
 | _=>true
def AV.freeAll(p:Tag->Bool):List AV->Bool
 | []=>true
 | x::l=>x.free p&&AV.freeAll p l
end
theorem Mr{p:Tag->Bool}{l:List AV}(h:AV.freeAll p l=true)(j:Nat):(l.getD j .any).free p=true:=by
 induction l generalizing j with
 | nil=>simp[AV.free]
 | cons x l ih=>
  simp only[AV.freeAll,A4]at h
  cases j with
  | zero=>simpa using h.1
  | succ j=>simpa using ih h.2 j
def AObj.Al(P:AV->Prop):AObj->Prop
 | .iter _ _=>True
 | .map _ _ _=>True
 | .pmap _ _ _=>True
 | .miter m _ _=>P m
 | .tab _ l=>∀ i,i<l.length->P (l.getD i (0,.any)).2
theorem AObj.Al.imp{P Q:AV->Prop}{x:AObj}(h:x.Al P)(k:∀ y,P y->Q y):x.Al Q:=by
 cases x with
 | iter=>trivial
 | map=>trivial
 | pmap=>trivial
 | miter=>exact k _ h
 | tab=>exact λi hi=>k _ (h i hi)
theorem ObjR.al{P:AV->Prop}{I I':Nat->Nat->Prop}{own own':Nat->Option Own}{θ θ':Nat->Option (Nat×Nat)}{w w':World}{o:Obj}{x:AObj}(h:ObjR I own θ w o x)(hx:x.Al P)(hI:∀ b o,I b o->I' b o)(hw:∀ b o,I b o->w'.cell? ⟨b,o,none⟩=w.cell? ⟨b,o,none⟩)(hf:∀ v y,P y->Rep I own θ w v y->Rep I' own' θ' w' v y):ObjR I' own' θ' w' o x:=by
 cases h with
 | iter s p=>exact .iter s p
 | map es nn k l hs hr=>
  refine .map es nn k l hs λi hi=>?_;obtain⟨v,h1,h2,h3⟩:=hr i hi;exact⟨v,h1,h2.mono hI hw,h3⟩
 | pmap es nn k l0 l hp hk hs hr=>
  refine .pmap es nn k l0 l hp hk hs λi hi=>?_;obtain⟨v,h1,h2,h3⟩:=hr i hi;exact⟨v,h1,h2.mono hI hw,h3⟩
 | miter r m n c seen hc hr=>exact .miter r m n c _ hc (hf _ _ hx hr)
 | tab es k l hs hr=>exact .tab es k l hs λi hi=>by obtain⟨v,h1,h2⟩:=hr i hi;exact⟨v,h1,hf _ _ (hx i hi) h2⟩
def fF(b:Nat):Tag->Bool
 | .fam b' _=>!Nat.beq b' b
 | .own nm=>Nat.blt nm Bt
 | _=>true
def lM(k:Nat):Tag->Bool
 | .own k'=>!Nat.beq k' k
 | _=>true
def Fr(q:Nat)(x:AV):Prop:=∀(I:Nat->Nat->Prop) (own own':Nat->Option Own) (θ θ':Nat->Option (Nat×Nat)) (w:World) (v:Value),(∃ sz e m,own q=some (.tok sz e m))->
 (∀ nm o,nm≠q->own nm=some o->∃ o',own' nm=some o'/\OwnLe o (θ nm) o' (θ' nm))->Rep I own θ w v x->Rep I own' θ' w v x
theorem xN{q:Nat}{p:Tag->Bool}(hp:∀ nm,p (.own nm)=true->nm≠q)(hf:∀ b i,i<Bt->p (.fam b i)=true->T4 b i≠q){x:AV}(hx:x.free p=true):Fr q x:=by
 intro I own own' θ θ' w v hq ho h;obtain⟨s0,e0,m0,hq⟩:=hq
 have hne:∀{nm o},own nm=some o->(∀ sz e m,o≠.tok sz e m)->nm≠q:=λhn hh=>by
  grind
 induction h with
 | val v x h=>exact .val v x h
 | exact a n sz f h=>exact .exact a n sz f h
 | own nm sz e m a n cap f hn hm hv h=>
  obtain⟨o',ho',hle⟩:=ho nm _ (hp nm hx) hn
  cases o' with
  | tok sz' e' m'=>
   obtain⟨rfl,rfl,hmm,hθ⟩:=hle;refine .own nm _ _ m' a n cap f ho' (Qt hm hmm) (λhe=>?_) h;rw[hθ (by omega)];exact hv (by omega)
  | _=>exact hle.elim
 | fam b i sz e m a n cap f hi hn hm hv h=>
  obtain⟨o',ho',hle⟩:=ho (T4 b i) _ (hf b i hi hx) hn
  cases o' with
  | tok sz' e' m'=>
   obtain⟨rfl,rfl,hmm,hθ⟩:=hle;refine .fam b i _ _ m' a n cap f hi ho' (Qt hm hmm) (λhe=>?_) h;rw[hθ (by omega)];exact hv (by omega)
  | _=>exact hle.elim
 | ptr nm off e cells g c hn hg=>
  obtain⟨o',ho',hle⟩:=ho nm _ (hne hn (λ_ _ _ h=>by cases h)) hn
  cases o' with
  | row e' cells'=>
   have e:θ' nm=θ nm:=hle.2;exact .ptr nm off e' cells' g c ho' (e.trans hg)
  | _=>exact hle.elim
 | vsl nm sz e m f a n cap hn hm hcap hmax hnn hv=>
  obtain⟨o',ho',hle⟩:=ho nm _ (hne hn (λ_ _ _ h=>by cases h)) hn
  cases o' with
  | arr sz' e' m' f'=>
   obtain⟨rfl,rfl,hmm,hθ⟩:=hle;refine .vsl nm _ _ m' f' a n cap ho' (Qt hm hmm) hcap hmax hnn (λhe=>?_);rw[hθ (by omega)];exact hv (by omega)
  | _=>exact hle.elim
 | vpt nm sz e m f n i j ad hn hm hi hv=>
  obtain⟨o',ho',hle⟩:=ho nm _ (hne hn (λ_ _ _ h=>by cases h)) hn
  cases o' with
  | arr sz' e' m' f'=>
   obtain⟨rfl,rfl,hmm,hθ⟩:=hle;refine .vpt nm _ _ m' f' n i j ad ho' (Qt hm hmm) hi (λhe=>?_);rw[hθ (by omega)];exact hv (by omega)
  | _=>exact hle.elim
 | clo f fs cs xs ys hl hl' _ _ ih ih'=>
  simp only[AV.free,A4]at hx;exact .clo f fs cs xs ys hl hl' (λj hj=>ih j hj (Mr hx.1 j)) (λj hj=>ih' j hj (Mr hx.2 j))
 | optr nm mm x g c hn hg=>
  obtain⟨o',ho',hle⟩:=ho nm _ (hne hn (λ_ _ _ h=>by cases h)) hn
  cases o' with
  | obj x'=>exact .optr nm mm x' g c ho' (by rw[hle,hg])
  | _=>exact hle.elim
 | omap nm x hn=>
  obtain⟨o',ho',hle⟩:=ho nm _ (hne hn (λ_ _ _ h=>by cases h)) hn
  cases o' with
  | obj x'=>
   have hle:θ' nm=θ nm:=hle;rw[<- hle];exact .omap nm x' ho'
  | _=>exact hle.elim
 | vsub nm sz e m f n lo hi a cap hn hm hlo hhi hcap hmax hnn hv=>
  obtain⟨o',ho',hle⟩:=ho nm _ (hne hn (λ_ _ _ h=>by cases h)) hn
  cases o' with
  | arr sz' e' m' f'=>
   obtain⟨rfl,rfl,hmm,hθ⟩:=hle;refine .vsub nm _ _ m' f' n lo hi a cap ho' (Qt hm hmm) hlo hhi hcap hmax hnn (λhe=>?_);rw[hθ (by omega)];exact hv (by omega)
  | _=>exact hle.elim
 | cond v c x _ h' ih=>exact .cond v c x (λhc=>ih hc hx) h'
 | agg vs cs hl h1 _ ih=>exact .agg vs cs hl h1 (λj hj=>ih j hj (Mr hx j))
 | rpo a cells us hs hI' hc h1 _ ih=>exact .rpo a cells us hs hI' hc h1 (λj hj=>ih j hj (Mr hx j))
 | tuple vs cs hl _ ih=>exact .tuple vs cs hl (λj hj=>ih j hj (Mr hx j))
theorem qa{b i:Nat}(hi:i<Bt){x:AV}(hx:x.free (fF b)=true):Fr (T4 b i) x:=
 xN  (λnm hp he=>by
  have hlt :=by simpa [fF,Mo] using hp
  rw[he]at hlt
  exact Sr b i hlt) (λb' i' hi' hp he=>by
  have h1:=Yt (b:=b') hi';rw[he,Yt hi]at h1;subst h1
  simp[fF]at hp) hx
theorem qc{k:Nat}(hk:k<Bt){x:AV}(hx:x.free (lM k)=true):Fr k x:=
 xN  (λnm hp he=>by subst he;simp[lM]at hp) (λb i _ _ he=>by rw[<- he]at hk;exact Sr b i hk) hx
def oV(q:Nat):Own->Prop
 | .row _ cells=>∀ j,j<cells.length->Fr q (cells.getD j .any)
 | .arr sz _ m f=>∀ i j,i<m->j<sz->Fr q ((f i).getD j .any)
 | .obj x=>x.Al (Fr q)
 | .tok ..=>True
theorem CR{I:Nat->Nat->Prop}{own own':Nat->Option Own}{θ θ':Nat->Option (Nat×Nat)}{w:World}{nm sz m:Nat}{e:TypeId}{f f':Nat->List AV}
  (h:(θ nm=none->m=0)/\∀ g c,θ nm=some (g,c)->∃ cur,w.heap[g]?=some (.cells cur e (0,0))/\m<=c/\c<=maxLen/\cur.size=c*sz /\
   (∀ i,i<m->(f i).length=sz)/\(∀ i j,i<m->j<sz->(cur.getD (i*sz+j) undef).oneCell'=true/\Rep I own θ w (cur.getD (i*sz+j) undef) ((f i).getD j .any))/\∀ j,¬ I g j)
  (hθ:θ' nm=θ nm) (hf:∀ i,i<m->(f' i).length=(f i).length) (hr:∀ i j v,i<m->j<sz->Rep I own θ w v ((f i).getD j .any)->Rep I own' θ' w v ((f' i).getD j .any)) :
  (θ' nm=none->m=0)/\∀ g c,θ' nm=some (g,c)->∃ cur,w.heap[g]?=some (.cells cur e (0,0))/\m<=c/\c<=maxLen/\cur.size=c*sz /\
   (∀ i,i<m->(f' i).length=sz)/\(∀ i j,i<m->j<sz->(cur.getD (i*sz+j) undef).oneCell'=true/\Rep I own' θ' w (cur.getD (i*sz+j) undef) ((f' i).getD j .any))/\∀ j,¬ I g j:=by
 rw[hθ];refine⟨h.1,λg c hg=>?_⟩;obtain⟨cur,q1,q2,q3,q4,q5,q6,q7⟩:=h.2 g c hg;exact⟨cur,q1,q2,q3,q4,λi hi=>(hf i hi).trans (q5 i hi),λi j hi hj=>⟨(q6 i j hi hj).1,hr i j _ hi hj (q6 i j hi hj).2⟩,q7⟩
section
variable {Γ:Hx} {σ:Sto} {I:Nat->Nat->Prop} {θ:Nat->Option (Nat×Nat)} {a:Act} {w:World}
theorem TR(h:Rel Γ σ I θ a w){p q r sz m s1 n:Nat}{e e1:TypeId}{F F':Nat->List AV}(hp:σ.own p=some (.tok sz e m))(hq:σ.own q=none)(hr:σ.own r=some (.arr s1 e1 n F))(hp0:Γ.own0 p=none)
  (hfree:∀ t,Fr p (σ.tmp t)) (hrows:∀ nm o,nm≠r->σ.own nm=some o->oV p o) {own':Nat->Option Own} {θ':Nat->Option (Nat×Nat)}
  (hown:own'=λx=>if x=q then some (.tok sz e m) else if x=p then none else if x=r then some (.arr s1 e1 n F') else σ.own x)
  (hθ:θ'=λx=>if x=q then θ p else if x=p then none else θ x)
  (hlen:∀ j,j<n->(F' j).length=(F j).length)
  (hF:∀ j c v,j<n->c<s1->Rep I σ.own θ w v ((F j).getD c .any)->Rep I own' θ' w v ((F' j).getD c .any)) :
  Rel Γ ⟨σ.tmp,own'⟩ I θ' a w:=by
 have hpq:p≠q:=by rintro rfl;rw[hp]at hq;cases hq
 have hpr:p≠r:=by rintro rfl;rw[hp]at hr;cases hr
 have hqr:q≠r:=by rintro rfl;rw[hq]at hr;cases hr
 have hkeep:∀ nm o,nm≠p->σ.own nm=some o->∃ o',own' nm=some o'/\OwnLe o (θ nm) o' (θ' nm):=λnm o hnp ho=>by
  have hnq:nm≠q:=by rintro rfl;rw[hq]at ho;cases ho
  by_cases hnr:nm=r
  ·subst hnr;rw[hr]at ho;obtain rfl:=OI ho;exact⟨.arr s1 e1 n F',by simp[hown,hnq,hnp],by simp[hθ,hnq,hnp,OwnLe]⟩
  ·exact⟨o,by simp[hown,hnq,hnp,hnr,ho],by simp[hθ,hnq,hnp,OwnLe.refl]⟩
 have hT:∀ v x,Fr p x->Rep I σ.own θ w v x->Rep I own' θ' w v x:=λv x hx hv=>hx I _ _ _ _ w v ⟨_,_,_,hp⟩ hkeep hv
 have hinv:∀ nm o,nm≠q->nm≠r->own' nm=some o->nm≠p/\σ.own nm=some o/\θ' nm=θ nm:=λnm o h1 h2 ho=>by
  by_cases h3:nm=p
  ·simp[hown,h3,hpq]at ho
  ·simp[hown,h1,h2,h3]at ho;exact⟨h3,ho,by simp[hθ,h1,h3]⟩
 have hnone:∀ nm,own' nm≠none->∃ nm',σ.own nm'≠none/\θ' nm=θ nm'/\(nm=q->nm'=p)/\(nm≠q->nm'=nm/\nm≠p):=λnm hn=>by
  grind
 have hq':own' q=some (.tok sz e m):=by simp[hown]
 have hr':own' r=some (.arr s1 e1 n F'):=by simp[hown,Sd hqr,Sd hpr]
 have hrel:=h.chg.rel
 have hθr:θ' r=θ r:=by simp[hθ,Sd hqr,Sd hpr]
 have hθq:θ' q=θ p:=by simp[hθ]
 refine⟨h.size,h.defers,λt=>hT _ _ (hfree t) (h.slots t),{ h.chg with le:=λnm o ho=>?_,rel:=⟨λnm e0 cells ho=>?_,λnm s' e' m' ho g c hg=>?_,λnm nm' g c c' ho ho' hg hg'=>?_,λnm s' e' m' f' ho=>?_,λnm x ho=>?_,λnm s' m' ho hnn=>?_⟩,new:=λnm g c ho hg=>?_ }⟩
 ·obtain⟨o',ho',hl⟩:=h.chg.le nm o ho
  have hnp:nm≠p:=by rintro rfl;rw[hp0]at ho;cases ho
  obtain⟨o'',h1,h2⟩:=hkeep nm o' hnp ho';exact⟨o'',h1,hl.trans h2⟩
 ·replace ho:own' nm=some _:=ho
  have h1:nm≠q:=by rintro rfl;rw[hq']at ho;cases ho
  have h2:nm≠r:=by rintro rfl;rw[hr']at ho;cases ho
  obtain⟨h3,h4,h5⟩:=hinv nm _ h1 h2 ho;obtain⟨g,c,vs,r1,r2,r3,r4,r5,r6⟩:=hrel.row nm e0 cells h4;exact⟨g,c,vs,h5.trans r1,r2,r3,r4,λj hj=>hT _ _ (hrows nm _ h2 h4 j hj) (r5 j hj),r6⟩
 ·replace ho:own' nm=some _:=ho
  by_cases h1:nm=q
  ·subst h1;rw[hq']at ho;simp only[Aw,Own.tok.injEq]at ho;obtain⟨rfl,rfl,rfl⟩:=ho;exact hrel.tok p _ _ _ hp g c (hθq.symm.trans hg)
  ·have h2:nm≠r:=by rintro rfl;rw[hr']at ho;cases ho
   obtain⟨h3,h4,h5⟩:=hinv nm _ h1 h2 ho;exact hrel.tok nm _ _ _ h4 g c (h5.symm.trans hg)
 ·obtain⟨n1,a1,a2,a3,a4⟩:=hnone nm ho;obtain⟨n2,b1,b2,b3,b4⟩:=hnone nm' ho';have:=hrel.inj n1 n2 g c c' a1 b1 (a2.symm.trans hg) (b2.symm.trans hg')
  by_cases h1:nm=q
  ·by_cases h2:nm'=q
   ·rw[h1,h2]
   ·have:=a3 h1;have:=b4 h2;omega
  ·by_cases h2:nm'=q
   ·have:=a4 h1;have:=b3 h2;omega
   ·have:=a4 h1;have:=b4 h2;omega
 ·replace ho:own' nm=some _:=ho
  have h1:nm≠q:=by rintro rfl;rw[hq']at ho;cases ho
  by_cases h2:nm=r
  ·subst h2;rw[hr']at ho;simp only[Aw,Own.arr.injEq]at ho;obtain⟨rfl,rfl,rfl,rfl⟩:=ho;exact CR (hrel.arr nm _ _ _ _ hr) hθr hlen hF
  ·obtain⟨h3,h4,h5⟩:=hinv nm _ h1 h2 ho;exact CR (hrel.arr nm _ _ _ _ h4) h5 (λ_ _=>rfl) (λi j v hi hj hv=>hT _ _ (hrows nm _ h2 h4 i j hi hj) hv)
 ·replace ho:own' nm=some _:=ho
  have h1:nm≠q:=by rintro rfl;rw[hq']at ho;cases ho
  have h2:nm≠r:=by rintro rfl;rw[hr']at ho;cases ho
  obtain⟨h3,h4,h5⟩:=hinv nm _ h1 h2 ho;exact Mx (hrel.obj nm _ h4) h5 (λ_ _ _=>rfl) (λ_ _ _ _ h=>h) (λ_ hh=>hh.al (hrows nm _ h2 h4) (λ_ _ h=>h) (λ_ _ _=>rfl) λv y hy hv=>hT v y hy hv) W1
 ·replace ho:own' nm=some _:=ho
  by_cases h1:nm=q
  ·subst h1;rw[hq']at ho;simp only[Aw,Own.tok.injEq]at ho;obtain⟨rfl,he,rfl⟩:=ho;exact hrel.tok8 p _ _ (by rw[hp,he]) (hθq.symm.trans hnn)
  ·have h2:nm≠r:=by rintro rfl;rw[hr']at ho;cases ho
   obtain⟨h3,h4,h5⟩:=hinv nm _ h1 h2 ho;exact hrel.tok8 nm _ _ h4 (h5.symm.trans hnn)
 ·obtain⟨n1,a1,a2,_,_⟩:=hnone nm ho;exact h.chg.new n1 g c a1 (a2.symm.trans hg)
theorem jN(h:Rel Γ σ I θ a w){r s1 n:Nat}{e1:TypeId}{F F':Nat->List AV}(hr:σ.own r=some (.arr s1 e1 n F)){S:Nat->Option (Nat×TypeId×Nat)}(hS:∀ x y,S x=some y->σ.own x=none)
  (h8:∀ x sz m,S x=some (sz,Yd,m)->m=0) {own':Nat->Option Own} {θ':Nat->Option (Nat×Nat)}
  (hown:own'=λx=>match S x with|some y=>some (.tok y.1 y.2.1 y.2.2)|none=>if x=r then some (.arr s1 e1 n F') else σ.own x)
  (hθ:θ'=λx=>match S x with|some _=>none|none=>θ x) (hlen:∀ j,j<n->(F' j).length=(F j).length)
  (hF:∀ j c v,j<n->c<s1->Rep I σ.own θ w v ((F j).getD c .any)->Rep I own' θ' w v ((F' j).getD c .any)) :
  Rel Γ ⟨σ.tmp,own'⟩ I θ' a w:=by
 have hSn:∀ nm o,σ.own nm=some o->S nm=none:=λnm o ho=>by
  cases hx:S nm with
  | none=>rfl
  | some y=>rw[hS nm y hx]at ho;cases ho
 have hkeep:∀ nm o,σ.own nm=some o->∃ o',own' nm=some o'/\OwnLe o (θ nm) o' (θ' nm):=λnm o ho=>by
  have h1:=hSn nm o ho
  by_cases hnr:nm=r
  ·subst hnr;rw[hr]at ho;obtain rfl:=OI ho;exact⟨.arr s1 e1 n F',by simp[hown,h1],by simp[hθ,h1,OwnLe]⟩
  ·exact⟨o,by simp[hown,h1,hnr,ho],by simp[hθ,h1,OwnLe.refl]⟩
 have hT:∀ v x,Rep I σ.own θ w v x->Rep I own' θ' w v x:=λv x hv=>hv.mono (λ_ _ h=>h) (λ_ _ _=>rfl) hkeep
 have hinv:∀ nm o,own' nm=some o->(∀ sz e m,o≠.tok sz e m)->nm≠r->σ.own nm=some o/\θ' nm=θ nm:=λnm o ho hn h2=>by
  cases hx:S nm with
  | none=>simp[hown,hx,h2]at ho;exact⟨ho,by simp[hθ,hx]⟩
  | some y=>simp[hown,hx]at ho;exact(hn _ _ _ ho.symm).elim
 have hold:∀ nm g c,own' nm≠none->θ' nm=some (g,c)->σ.own nm≠none/\θ nm=some (g,c):=λnm g c ho hg=>by
  cases hx:S nm with
  | some y=>simp[hθ,hx]at hg
  | none=>
   simp[hθ,hx]at hg;refine⟨?_,hg⟩
   by_cases h2:nm=r
   ·subst h2;simp[hr]
   ·simpa [hown,hx,h2] using ho
 have hSr:S r=none:=hSn r _ hr
 have hr':own' r=some (.arr s1 e1 n F'):=by simp[hown,hSr]
 have hθr:θ' r=θ r:=by simp[hθ,hSr]
 have hrel:=h.chg.rel;refine⟨h.size,h.defers,λt=>hT _ _ (h.slots t),{ h.chg with le:=λnm o ho=>?_,rel:=⟨λnm e0 cells ho=>?_,λnm s' e' m' ho g c hg=>?_,λnm nm' g c c' ho ho' hg hg'=>?_,λnm s' e' m' f' ho=>?_,λnm x ho=>?_,λnm s' m' ho hnn=>?_⟩,new:=λnm g c ho hg=>?_ }⟩
 ·obtain⟨o',ho',hl⟩:=h.chg.le nm o ho;obtain⟨o'',h1,h2⟩:=hkeep nm o' ho';exact⟨o'',h1,hl.trans h2⟩
 ·replace ho:own' nm=some _:=ho
  have h2:nm≠r:=by rintro rfl;rw[hr']at ho;cases ho
  obtain⟨h4,h5⟩:=hinv nm _ ho (λ_ _ _ h=>by cases h) h2;obtain⟨g,c,vs,r1,r2,r3,r4,r5,r6⟩:=hrel.row nm e0 cells h4;exact⟨g,c,vs,h5.trans r1,r2,r3,r4,λj hj=>hT _ _ (r5 j hj),r6⟩
 ·replace ho:own' nm=some _:=ho;obtain⟨h1,h2⟩:=hold nm g c (by rw[ho];simp) hg
  cases hx:S nm with
  | some y=>simp[hθ,hx]at hg
  | none=>
   have h3:nm≠r:=by rintro rfl;rw[hr']at ho;cases ho
   simp[hown,hx,h3]at ho;exact hrel.tok nm _ _ _ ho g c h2
 ·obtain⟨a1,a2⟩:=hold nm g c ho hg;obtain⟨b1,b2⟩:=hold nm' g c' ho' hg';exact hrel.inj nm nm' g c c' a1 b1 a2 b2
 ·replace ho:own' nm=some _:=ho
  by_cases h2:nm=r
  ·subst h2;rw[hr']at ho;simp only[Aw,Own.arr.injEq]at ho;obtain⟨rfl,rfl,rfl,rfl⟩:=ho;exact CR (hrel.arr nm _ _ _ _ hr) hθr hlen hF
  ·obtain⟨h4,h5⟩:=hinv nm _ ho (λ_ _ _ h=>by cases h) h2;exact CR (hrel.arr nm _ _ _ _ h4) h5 (λ_ _=>rfl) (λi j v _ _ hv=>hT _ _ hv)
 ·replace ho:own' nm=some _:=ho
  have h2:nm≠r:=by rintro rfl;rw[hr']at ho;cases ho
  obtain⟨h4,h5⟩:=hinv nm _ ho (λ_ _ _ h=>by cases h) h2;exact Mx (hrel.obj nm _ h4) h5 (λ_ _ _=>rfl) (λ_ _ _ _ h=>h) (λ_ hh=>hh.mono hT) W1
 ·replace ho:own' nm=some _:=ho
  cases hx:S nm with
  | some y=>
   simp only[hown,hx,Aw,Own.tok.injEq]at ho;obtain⟨h1,h2,h3⟩:=ho;rw[<- h3];exact h8 nm y.1 y.2.2 (by rw[hx,<- h2])
  | none=>
   have h3:nm≠r:=by rintro rfl;rw[hr']at ho;cases ho
   simp[hown,hx,h3]at ho;simp[hθ,hx]at hnn;exact hrel.tok8 nm _ _ ho hnn
 ·obtain⟨a1,a2⟩:=hold nm g c ho hg;exact h.chg.new nm g c a1 a2
inductive OwnsFr (p:Tag->Bool) (r:Nat):List (Nat×Own)->Prop
 | nil:OwnsFr p r []
 | row {nm:Nat} {e:TypeId} {cells:List AV} {l:List (Nat×Own)} (h:AV.freeAll p cells=true) (t:OwnsFr p r l):OwnsFr p r ((nm,.row e cells)::l)
 | here {o:Own} {l:List (Nat×Own)} (t:OwnsFr p r l):OwnsFr p r ((r,o)::l)
 | arr {nm sz m:Nat} {e:TypeId} {f:Nat->List AV} {l:List (Nat×Own)} (h:∀ j,AV.freeAll p (f j)=true) (t:OwnsFr p r l):OwnsFr p r ((nm,.arr sz e m f)::l)
 | tok {nm sz m:Nat} {e:TypeId} {l:List (Nat×Own)} (t:OwnsFr p r l):OwnsFr p r ((nm,.tok sz e m)::l)
 | obj {nm:Nat} {x:AObj} {l:List (Nat×Own)} (t:OwnsFr p r l) (h:x.Al (λy=>y.free p=true):=by first|trivial|rfl):OwnsFr p r ((nm,.obj x)::l)
theorem OwnsFr.get{p:Tag->Bool}{r q:Nat}(hp:∀ x:AV,x.free p=true->Fr q x){l:List (Nat×Own)}(h:OwnsFr p r l){nm:Nat}{o:Own}(hn:nm≠r)(ho:Ai l nm=some o):oV q o:=by
 induction h with
 | nil=>cases ho
 | @row k e cells l h _ ih=>
  simp only[Ai]at ho
  cases hb:Nat.beq k nm with
  | true=>rw[hb]at ho;simp only[Af,Aw]at ho;subst ho;exact λj _=>hp _ (Mr h j)
  | false=>grind
 | @here o' l _ ih=>
  simp only[Ai]at ho
  cases hb:Nat.beq r nm with
  | true=>simp_all
  | false=>grind
 | @arr k sz m e f l h _ ih=>
  simp only[Ai]at ho
  cases hb:Nat.beq k nm with
  | true=>rw[hb]at ho;simp only[Af,Aw]at ho;subst ho;exact λi j _ _=>hp _ (Mr (h i) j)
  | false=>grind
 | @tok k sz m e l _ ih=>
  simp only[Ai]at ho
  cases hb:Nat.beq k nm with
  | true=>rw[hb]at ho;simp only[Af,Aw]at ho;subst ho;trivial
  | false=>grind
 | @obj k x l _ h ih=>
  simp only[Ai]at ho
  cases hb:Nat.beq k nm with
  | true=>rw[hb]at ho;simp only[Af,Aw]at ho;subst ho;exact h.imp λy hy=>hp y hy
  | false=>grind
theorem OwnsFr.sto{p:Tag->Bool}{r q:Nat}(hp:∀ x:AV,x.free p=true->Fr q x){st:St}(h:OwnsFr p r st.own){nm:Nat}{o:Own}(hn:nm≠r)(ho:st.sto.own nm=some o):oV q o:=by
 by_cases hlt:nm<Bt
 ·exact h.get hp hn ((Bd hlt).symm.trans ho)
 ·obtain⟨sz,e,m,rfl⟩:=Yv hlt ho
  trivial
theorem li{p:Tag->Bool}{q:Nat}(hp:∀ x:AV,x.free p=true->Fr q x){st:St}(h:st.tmps.all (λx=>x.2.free p)=true)(t:Nat):Fr q (st.sto.tmp t):=by
 show Fr q (match Ai _ t with|some x=>x|none=>.any)
 cases hx:Ai _ t with
 | none=>exact hp _ rfl
 | some x=>exact hp _ (zzL29.1 h _ (MC hx))
def nv{α:Type}(l:List (Nat×α))(k:Nat):List (Nat×α):=l.filter λp=>!Nat.beq p.1 k
theorem nM{α:Type}(l:List (Nat×α))(k n:Nat):Ai (nv l k) n=if k=n then none else Ai l n:=by
 induction l with
 | nil=>simp[nv,Ai]
 | cons p l ih=>
  obtain⟨m,x⟩:=p
  have ih':Ai (List.filter _ l) n=if k=n then none else Ai l n:=ih
  simp only[nv,List.filter_cons,Ai]
  cases hb:Nat.beq m k with
  | true=>
   have:=Ej hb;subst this;simp only[C0,UY,Ji,ih']
   by_cases h:m=n
   ·simp[h]
   ·have:Nat.beq m n=false:=by cases hb:Nat.beq m n with|false=>rfl|true=>simp_all
    simp[ this]
  | false=>
   simp only[J0,Nd,Ai,ih']
   cases hb':Nat.beq m n with
   | true=>
    grind
   | false=>simp
theorem wT{I:Nat->Nat->Prop}{own own':Nat->Option Own}{θ θ':Nat->Option (Nat×Nat)}{w:World}{v:Value}{sz n b i p q m:Nat}{e:TypeId}{f:Nat->List AV}(hv:Rep I own θ w v (.slice sz n f (.fam b i)))(hb:T4 b i=p)(hp:own p=some (.tok sz e m))
  (hq:own' q=some (.tok sz e m)) (hθ:θ' q=θ p):Rep I own' θ' w v (.slice sz n f (.own q)):=by
 cases hv with
 | val v x h =>  cases h
 | fam _ _ _ e' m a n' cap f hi' ho' hm hv' h'=>
  rw[hb]at ho' hv';rw[hp]at ho';obtain⟨_,rfl,rfl⟩:=ho';exact .own q sz e _ _ _ _ _ hq hm (λhh=>by rw[hθ];exact hv' hh) h'
theorem fi{I:Nat->Nat->Prop}{own own':Nat->Option Own}{θ θ':Nat->Option (Nat×Nat)}{w:World}{v:Value}{sz n b i p:Nat}{f:Nat->List AV}(hv:Rep I own θ w v (.slice sz n f (.fam b i)))(hb:T4 b i=p)(ho:i<Bt->own' p=own p)(hθ:i<Bt->θ' p=θ p):Rep I own' θ' w v (.slice sz n f (.fam b i)):=by
 cases hv with
 | val v x h =>  cases h
 | fam _ _ _ e' m a n' cap f hi' ho' hm hv' h'=>
  rw[hb]at ho' hv';exact .fam b i sz e' m _ _ _ _ hi' (by grind) hm (λhh=>by grind) h'
theorem r9{I:Nat->Nat->Prop}{own own':Nat->Option Own}{θ θ':Nat->Option (Nat×Nat)}{w:World}{v:Value}{sz n b i p q m:Nat}{e:TypeId}{f:Nat->List AV}(hv:Rep I own θ w v (.slice sz n f (.own p)))(hb:T4 b i=q)(hi:i<Bt)(hp:own p=some (.tok sz e m))
  (hq:own' q=some (.tok sz e m)) (hθ:θ' q=θ p):Rep I own' θ' w v (.slice sz n f (.fam b i)):=by
 cases hv with
 | val v x h =>  cases h
 | own _ _ e' m' a n' cap f ho' hm' hv' h'=>
  rw[hp]at ho';obtain⟨_,rfl,rfl⟩:=ho';exact .fam b i sz e m _ _ _ _ hi (by rw[hb];exact hq) hm' (λhh=>by grind) h'
theorem wS{I:Nat->Nat->Prop}{own own':Nat->Option Own}{θ θ':Nat->Option (Nat×Nat)}{w:World}{v:Value}{sz n b i q:Nat}{e:TypeId}{f:Nat->List AV}(hv:Rep I own θ w v (.slice sz n f .exact))(hb:T4 b i=q)(hi:i<Bt)(hq:own' q=some (.tok sz e n))(hθ:θ' q=none) :
  Rep I own' θ' w v (.slice sz n f (.fam b i)):=by
 cases hv with
 | val v x h =>  cases h
 | exact a n' s' f h'=>exact .fam b i sz e _ _ _ _ _ hi (by rw[hb];exact hq) (zzL7 _) (λ_=>by rw[hb,hθ]) h'
section
variable {α:Type} {st:St} {r b k n sz:Nat} {e1:TypeId}
theorem jU{I:Nat->Nat->Prop}{own:Nat->Option Own}{θ:Nat->Option (Nat×Nat)}{w:World}(h:Kr I own θ w){s1:Nat}{F:Nat->List AV}(hr:own r=some (.arr s1 e1 n F)){i:Nat}(hi:i<n):i<Bt:=by
 have hm:maxLen<Bt:=by decide
 obtain⟨h1,h2⟩:=h.arr r _ _ _ _ hr
 cases hx:θ r with
 | none=>have:=h1 hx;omega
 | some y=>grind
theorem lF(enc:α->List AV)(d:α)(L:List (List α))(i:Nat)(e:TypeId)(hr:Ai st.own r=some (.arr 1 e1 n (Pj sz enc d L (Tag.fam b))))(hb:Ai st.fam b=some ⟨sz,e,N5 L⟩)(hk:Ai st.own k=none)(hn:n=L.length)(hi:i<L.length)
  (ht:st.tmps.all (λx=>x.2.free (fF b))=true) (ho:OwnsFr (fF b) r st.own) (hlr:Nat.blt r Bt=true:=by rfl) (hlk:Nat.blt k Bt=true:=by rfl) :
  Le Γ st ⟨st.tmps,Ei (Ei st.own r (.arr 1 e1 n (Pj sz enc d L (Hp b i k)))) k (.tok sz e (L.getD i []).length),Ei st.fam b ⟨sz,e,DD L i⟩⟩:=by
 intro I θ a w h
 have hlr:r<Bt:=by simpa [Mo] using hlr
 have hlk:k<Bt:=by simpa [Mo] using hlk
 have hr':st.sto.own r=some _:=(Bd hlr).trans hr;have hk':st.sto.own k=none:=(Bd hlk).trans hk;have hib:i<Bt:=jU h.chg.rel hr' (by omega)
 have hp:st.sto.own (T4 b i)=some (.tok sz e (L.getD i []).length):=by
  show C4 _ _ _=_
  rw[RW hib,hb];simp[N5,hi]
 have hown:(⟨st.tmps,Ei (Ei st.own r (.arr 1 e1 n (Pj sz enc d L (Hp b i k)))) k (.tok sz e (L.getD i []).length),Ei st.fam b ⟨sz,e,DD L i⟩⟩:St).sto.own =
   λx=>if x=k then some (.tok sz e (L.getD i []).length) else if x=T4 b i then none else if x=r then some (.arr 1 e1 n (Pj sz enc d L (Hp b i k))) else st.sto.own x:=by
  funext x
  show C4 (Ei (Ei st.own r _) k _) (Ei st.fam b _) x=if x=k then _ else if x=T4 b i then none else if x=r then _ else C4 st.own st.fam x
  by_cases hx:x<Bt
  ·have h1:x≠T4 b i:=λhe=>by rw[he]at hx;exact Sr b i hx
   rw[Bd hx,Bd hx,J1,J1];simp only[Xh (a:=k),Xh (a:=r),h1,Ji]
  ·have h1:x≠k:=by rintro rfl;exact hx hlk
   have h2:x≠r:=by rintro rfl;exact hx hlr
   rw[Dg hx,Dg hx,J1,if_neg h1,if_neg h2]
   by_cases hd:b=x / Bt-1
   ·have hxe:=qA hx;rw[<- hd]at hxe
    by_cases hm:x % Bt=i
    ·rw[hm]at hxe;rw[if_pos hd,if_pos hxe,hm];simp[DD]
    ·have h3:x≠T4 b i:=λhe=>hm (by rw[he,Wd hib]);rw[if_pos hd,if_neg h3,<- hd,hb];simp[DD,hm]
   ·have h3:x≠T4 b i:=λhe=>hd (by rw[he,Yt hib]);rw[if_neg hd,if_neg h3]
 let θ' :=λx=>if x=k then θ (T4 b i) else if x=T4 b i then none else θ x
 refine⟨I,θ',?_⟩;have hrr:=TR (θ':=θ') h hp hk' hr' (by cases hx:Γ.own0 (T4 b i) with|none=>rfl|some o=>exact(Sr b i (Γ.lt0 _ (by rw[hx];simp))).elim)
  (λt=>li (λx hx=>qa hib hx) ht t) (λnm o hne ho'=>ho.sto (λx hx=>qa hib hx) hne ho') hown rfl (λj _=>rfl) (λj c v hj hc hv=>?_)
 ·exact hrr
 ·obtain rfl:c=0:=by omega
  show Rep I _ θ' w v (.slice sz _ _ (Hp b i k j))
  cases hji:Nat.beq j i with
  | true=>
   have:=Ej hji;subst this;rw[show Hp b j k j = .own k by simp[Hp]];exact wT hv rfl hp ((congrFun hown k).trans (if_pos rfl)) (if_pos rfl)
  | false=>
   have hne:j≠i:=by rintro rfl;simp at hji
   rw[show Hp b i k j = .fam b j by simp[Hp,hji]];have h3:j<Bt->T4 b j≠T4 b i:=λhi' he=>hne (by rw[<- Wd (b:=b) hi',he,Wd hib])
   have h4:T4 b j≠k:=λhe=>by rw[<- he]at hlk;exact Sr b j hlk
   have h5:T4 b j≠r:=λhe=>by rw[<- he]at hlr;exact Sr b j hlr
   exact fi hv rfl (λhi'=>(congrFun hown _).trans ((if_neg h4).trans ((if_neg (h3 hi')).trans (if_neg h5)))) (λhi'=>(if_neg h4).trans (if_neg (h3 hi')))
theorem qr(enc:α->List AV)(d:α)(L:List (List α))(i:Nat)(x:List α)(e:TypeId){F:Nat->List AV}{m:Nat}(hr:Ai st.own r=some (.arr 1 e1 n F))(hF:∀ j,j<n->F j=Pj sz enc d (L.set i x) (Hp b i k) j)(hb:Ai st.fam b=some ⟨sz,e,DD L i⟩)(hk:Ai st.own k=some (.tok sz e m))(hm:m=x.length)(hn:n=L.length)(hi:i<L.length)
  (ht:st.tmps.all (λx=>x.2.free (lM k))=true) (ho:OwnsFr (lM k) r st.own) (h0:Γ.own0 k=none) (hlr:Nat.blt r Bt=true:=by rfl) (hlk:Nat.blt k Bt=true:=by rfl) :
  Le Γ st ⟨st.tmps,nv (Ei st.own r (.arr 1 e1 n (Pj sz enc d (L.set i x) (Tag.fam b)))) k,Ei st.fam b ⟨sz,e,N5 (L.set i x)⟩⟩:=by
 intro I θ a w h
 have hlr:r<Bt:=by simpa [Mo] using hlr
 have hlk:k<Bt:=by simpa [Mo] using hlk
 have hr':st.sto.own r=some (.arr 1 e1 n F):=(Bd hlr).trans hr;have hk':st.sto.own k=some (.tok sz e m):=(Bd hlk).trans hk;have hib:i<Bt:=jU h.chg.rel hr' (by omega)
 have hp:st.sto.own (T4 b i)=none:=by
  show C4 _ _ _=_
  rw[RW hib,hb];simp[DD]
 have hgi:(L.set i x).getD i []=x:=by simp[List.getD,hi]
 have hgj:∀ j,j≠i->(L.set i x).getD j []=L.getD j []:=λj hj=>by simp[List.getD,Sd hj]
 have hown:(⟨st.tmps,nv (Ei st.own r (.arr 1 e1 n (Pj sz enc d (L.set i x) (Tag.fam b)))) k,Ei st.fam b ⟨sz,e,N5 (L.set i x)⟩⟩:St).sto.own =
   λy=>if y=T4 b i then some (.tok sz e m) else if y=k then none else if y=r then some (.arr 1 e1 n (Pj sz enc d (L.set i x) (Tag.fam b))) else st.sto.own y:=by
  funext y
  show C4 (nv (Ei st.own r _) k) (Ei st.fam b _) y=if y=T4 b i then _ else if y=k then none else if y=r then _ else C4 st.own st.fam y
  by_cases hx:y<Bt
  ·have h1:y≠T4 b i:=λhe=>by rw[he]at hx;exact Sr b i hx
   rw[Bd hx,Bd hx,nM,J1];simp only[Xh (a:=k),Xh (a:=r),h1,Ji]
  ·have h1:y≠k:=by rintro rfl;exact hx hlk
   have h2:y≠r:=by rintro rfl;exact hx hlr
   rw[Dg hx,Dg hx,J1,if_neg h1,if_neg h2]
   by_cases hd:b=y / Bt-1
   ·have hxe:=qA hx;rw[<- hd]at hxe
    by_cases hm':y % Bt=i
    ·rw[hm']at hxe;rw[if_pos hd,if_pos hxe,hm',Ak];simp only[N5,D6,hi,Nd,hgi,hm,Option.map_some]
    ·have h3:y≠T4 b i:=λhe=>hm' (by rw[he,Wd hib]);rw[if_pos hd,if_neg h3,<- hd,hb];simp only[Ak,DD,hm',Ji,N5,D6,hgj _ hm']
   ·have h3:y≠T4 b i:=λhe=>hd (by rw[he,Yt hib]);rw[if_neg hd,if_neg h3]
 let θ':Nat->Option (Nat×Nat):=λy=>if y=T4 b i then θ k else if y=k then none else θ y
 refine⟨I,θ',?_⟩;have hrr:=TR (θ':=θ') h hk' hp hr' h0 (λt=>li (λx hx=>qc hlk hx) ht t) (λnm o hne ho'=>ho.sto (λx hx=>qc hlk hx) hne ho') hown rfl
  (λj hj=>by rw[hF j hj];rfl) (λj c v hj hc hv=>?_)
 ·exact hrr
 ·obtain rfl:c=0:=by omega
  rw[hF j hj]at hv;replace hv:Rep I st.sto.own θ w v (.slice sz ((L.set i x).getD j []).length _ (Hp b i k j)):=hv
  cases hji:Nat.beq j i with
  | true=>
   have:=Ej hji;subst this;rw[show Hp b j k j = .own k by simp[Hp]]at hv;exact r9 hv rfl hib hk' ((congrFun hown _).trans (if_pos rfl)) (if_pos rfl)
  | false=>
   have hne:j≠i:=by rintro rfl;simp at hji
   rw[show Hp b i k j = .fam b j by simp[Hp,hji]]at hv;have h3:j<Bt->T4 b j≠T4 b i:=λhi' he=>hne (by rw[<- Wd (b:=b) hi',he,Wd hib])
   have h4:T4 b j≠k:=λhe=>by rw[<- he]at hlk;exact Sr b j hlk
   have h5:T4 b j≠r:=λhe=>by rw[<- he]at hlr;exact Sr b j hlr
   exact fi hv rfl (λhi'=>(congrFun hown _).trans ((if_neg (h3 hi')).trans ((if_neg h4).trans (if_neg h5)))) (λhi'=>(if_neg (h3 hi')).trans (if_neg h4))
theorem eZ(enc:α->List AV)(d:α)(L:List (List α))(e:TypeId)(hr:Ai st.own r=some (.arr 1 e1 n (Pj sz enc d L (λ_=>.exact))))(hb:Ai st.fam b=none)(hn:n=L.length)(h8:e=Yd->∀ j,(L.getD j []).length=0)(hlr:Nat.blt r Bt=true:=by rfl) :
  Le Γ st ⟨st.tmps,Ei st.own r (.arr 1 e1 n (Pj sz enc d L (Tag.fam b))),Ei st.fam b ⟨sz,e,N5 L⟩⟩:=by
 intro I θ a w h
 have hlr:r<Bt:=by simpa [Mo] using hlr
 have hr':st.sto.own r=some _:=(Bd hlr).trans hr
 let S :=λx=>if x<Bt then none else if b=x / Bt-1 then(N5 L (x % Bt)).map λm=>(sz,e,m) else none
 have hown:(⟨st.tmps,Ei st.own r (.arr 1 e1 n (Pj sz enc d L (Tag.fam b))),Ei st.fam b ⟨sz,e,N5 L⟩⟩:St).sto.own =
   λx=>match S x with|some y=>some (.tok y.1 y.2.1 y.2.2)|none=>if x=r then some (.arr 1 e1 n (Pj sz enc d L (Tag.fam b))) else st.sto.own x:=by
  funext x
  show C4 (Ei st.own r _) (Ei st.fam b _) x=match S x with|some y=>_|none=>if x=r then _ else C4 st.own st.fam x
  by_cases hx:x<Bt
  ·have:S x=none:=by simp[S,hx]
   rw[Bd hx,Bd hx,J1,this];simp only[Xh (a:=r)]
  ·have h2:x≠r:=by rintro rfl;exact hx hlr
   rw[Dg hx,Dg hx,J1]
   by_cases hd:b=x / Bt-1
   ·have:S x=(N5 L (x % Bt)).map λm=>(sz,e,m):=by simp only[S,hx,Ji,if_pos hd]
    rw[if_pos hd,this,if_neg h2,<- hd,hb];simp only[Ak]
    cases N5 L (x % Bt)<;>rfl
   ·grind
 have hS:∀ x y,S x=some y->st.sto.own x=none:=λx y hx=>by
  by_cases h1:x<Bt
  ·simp[S,h1]at hx
  ·by_cases hd:b=x / Bt-1
   ·show C4 _ _ x=none
    rw[Dg h1,<- hd,hb];rfl
   ·grind
 refine⟨I,_,jN h hr' hS (λx s m hx=>?_) hown rfl (λj _=>rfl) (λj c v hj hc hv=>?_)⟩
 ·by_cases h1:x<Bt
  ·simp[S,h1]at hx
  ·by_cases hd:b=x / Bt-1
   ·simp only[S,h1,Ji,if_pos hd]at hx;obtain⟨m',hm',he⟩:=zzL75.1 hx;unfold N5 at hm'
    split at hm'
    ·grind
    ·cases hm'
   ·grind
 ·obtain rfl:c=0:=by omega
  have hjb:j<Bt:=jU h.chg.rel hr' hj
  have hSj:S (T4 b j)=some (sz,e,(L.getD j []).length):=by
   simp only[S,Sr b j,Ji,Yt hjb,Nd,Wd hjb,N5];rw[if_pos (by omega)];rfl
  exact wS hv rfl hjb ((congrFun hown _).trans (by rw[hSj])) (by rw[hSj])
end
end
theorem YP{α:Type}{sz b i k:Nat}{e:α->List AV}{d:α}{l:List α}:AVle (AV.list sz e d l (Hp b i k i)) (AV.list sz e d l (.own k)):=by
 have:Hp b i k i = .own k:=by simp[Hp]
 rw[this];exact AVle.refl _
theorem fc{α:Type}{sz b i k k0:Nat}{e:α->List AV}{d:α}{L:List (List α)}{x:List α}{n:Nat}{keep:Nat->Bool}(hi:i<L.length)(hk:keep k=true)(hb:keep b=true) :
  ∀ j,j<n->AV.eraseAll keep (Fk (Pj sz e d L (Hp b i k0)) i 0 [AV.list sz e d x (.own k)] j)=Pj sz e d (L.set i x) (Hp b i k) j:=λj _=>by
 unfold Fk
 cases hji:Nat.beq j i with
 | true=>
  have:=Ej hji;subst this;simp[Pj,AV.eraseAll,AV.erase,AV.list,Hp,hk, hi]
 | false=>
  have hne:i≠j:=by rintro rfl;simp at hji
  simp[Pj,AV.eraseAll,AV.erase,AV.list,Hp,hji,hb, hne]
theorem eO{α:Type}{sz n:Nat}{e:α->List AV}{d:α}{keep:Nat->Bool}:∀ k,k<n->AVleL (AV.eraseAll keep [.slice 0 0 (λ_=>[]) .exact]) (Pj sz e d (List.replicate n []) (λ_=>.exact) k):=λk hk=>by
 have:(List.replicate n ([]:List α)).getD k []=[]:=by simp[ hk]
 unfold Pj;rw[this];exact .cons Cp .nil
mutual
def AV.freeN(r:Nat):AV->Bool
 | .vsl nm _=>!Nat.beq nm r
 | .vpt nm _ _ _=>!Nat.beq nm r
 | .vsub nm _ _ _=>!Nat.beq nm r
 | .clo _ xs ys=>AV.freeNAll r xs&&AV.freeNAll r ys
 | .agg cs=>AV.freeNAll r cs
 | .rpo cs=>AV.freeNAll r cs
 | .tuple cs=>AV.freeNAll r cs
 | .cond _ x=>x.freeN r
 | _=>true
def AV.freeNAll(r:Nat):List AV->Bool
 | []=>true
 | x::l=>x.freeN r&&AV.freeNAll r l
end
theorem Jt{r:Nat}{l:List AV}(h:AV.freeNAll r l=true)(j:Nat):(l.getD j .any).freeN r=true:=by
 induction l generalizing j with
 | nil=>simp[AV.freeN]
 | cons x l ih=>
  simp only[AV.freeNAll,A4]at h
  cases j with
  | zero=>simpa using h.1
  | succ j=>simpa using ih h.2 j
theorem ny{I:Nat->Nat->Prop}{own own':Nat->Option Own}{θ:Nat->Option (Nat×Nat)}{w:World}{v:Value}{x:AV}{r:Nat}(h:Rep I own θ w v x)(hx:x.freeN r=true)(hr:∃ sz e m f,own r=some (.arr sz e m f))
  (ho:∀ nm,nm≠r->own' nm=own nm):Rep I own' θ w v x:=by
 have hne:∀{nm o},own nm=some o->(∀ sz e m f,o≠.arr sz e m f)->own' nm=some o:=λ{nm o} hn hh=>by
  grind
 have hbq:∀{nm:Nat},(!Nat.beq nm r)=true->nm≠r:=λh e=>by subst e;simp at h
 induction h with
 | val v x h=>exact .val v x h
 | exact a n sz f h=>exact .exact a n sz f h
 | own nm sz e m a n cap f hn hm hv h=>exact .own nm sz e m a n cap f (hne hn (λ_ _ _ _ h=>by cases h)) hm hv h
 | fam b i sz e m a n cap f hi hn hm hv h=>exact .fam b i sz e m a n cap f hi (hne hn (λ_ _ _ _ h=>by cases h)) hm hv h
 | ptr nm off e cells g c hn hg=>exact .ptr nm off e _ g c (hne hn (λ_ _ _ _ h=>by cases h)) hg
 | vsl nm sz e m f a n cap hn hm hcap hmax hnn hv=>exact .vsl nm sz e m f a n cap ((ho nm (hbq hx)).trans hn) hm hcap hmax hnn hv
 | vpt nm sz e m f n i j ad hn hm hi hv=>exact .vpt nm sz e m f n i j ad ((ho nm (hbq hx)).trans hn) hm hi hv
 | clo f fs cs xs ys hl hl' _ _ ih ih'=>
  simp only[AV.freeN,A4]at hx;exact .clo f fs cs xs ys hl hl' (λj hj=>ih j hj (Jt hx.1 j)) (λj hj=>ih' j hj (Jt hx.2 j))
 | optr nm mm x g c hn hg=>exact .optr nm mm x g c (hne hn (λ_ _ _ _ h=>by cases h)) hg
 | omap nm x hn=>exact .omap nm x (hne hn (λ_ _ _ _ h=>by cases h))
 | vsub nm sz e m f n lo hi a cap hn hm hlo hhi hcap hmax hnn hv=>exact .vsub nm sz e m f n lo hi a cap ((ho nm (hbq hx)).trans hn) hm hlo hhi hcap hmax hnn hv
 | cond v c x _ h' ih=>exact .cond v c x (λhc=>ih hc hx) h'
 | agg vs cs hl h1 _ ih=>exact .agg vs cs hl h1 (λj hj=>ih j hj (Jt hx j))
 | rpo a cells us hs hI' hc h1 _ ih=>exact .rpo a _ us hs hI' hc h1 (λj hj=>ih j hj (Jt hx j))
 | tuple vs cs hl _ ih=>exact .tuple vs cs hl (λj hj=>ih j hj (Jt hx j))
inductive OwnsFrN (r:Nat):List (Nat×Own)->Prop
 | nil:OwnsFrN r []
 | row {nm:Nat} {e:TypeId} {cells:List AV} {l:List (Nat×Own)} (h:AV.freeNAll r cells=true) (t:OwnsFrN r l):OwnsFrN r ((nm,.row e cells)::l)
 | arr {nm sz m:Nat} {e:TypeId} {f:Nat->List AV} {l:List (Nat×Own)} (h:∀ j,AV.freeNAll r (f j)=true) (t:OwnsFrN r l):OwnsFrN r ((nm,.arr sz e m f)::l)
 | tok {nm sz m:Nat} {e:TypeId} {l:List (Nat×Own)} (t:OwnsFrN r l):OwnsFrN r ((nm,.tok sz e m)::l)
 | obj {nm:Nat} {x:AObj} {l:List (Nat×Own)} (t:OwnsFrN r l) (h:x.Al (λy=>y.freeN r=true):=by first|trivial|rfl):OwnsFrN r ((nm,.obj x)::l)
def Aab(r:Nat):Own->Prop
 | .row _ cells=>AV.freeNAll r cells=true
 | .arr _ _ _ f=>∀ j,AV.freeNAll r (f j)=true
 | .obj x=>x.Al (λy=>y.freeN r=true)
 | .tok ..=>True
theorem OwnsFrN.get{r:Nat}{l:List (Nat×Own)}(h:OwnsFrN r l){nm:Nat}{o:Own}(ho:Ai l nm=some o):Aab r o:=by
 induction h with
 | nil=>cases ho
 | @row k e cells l h _ ih=>
  simp only[Ai]at ho
  cases hb:Nat.beq k nm with
  | true=>rw[hb]at ho;simp only[Af,Aw]at ho;subst ho;exact h
  | false=>grind
 | @arr k sz m e f l h _ ih=>
  simp only[Ai]at ho
  cases hb:Nat.beq k nm with
  | true=>rw[hb]at ho;simp only[Af,Aw]at ho;subst ho;exact h
  | false=>grind
 | @tok k sz m e l _ ih=>
  simp only[Ai]at ho
  cases hb:Nat.beq k nm with
  | true=>rw[hb]at ho;simp only[Af,Aw]at ho;subst ho;trivial
  | false=>grind
 | @obj k x l _ h ih=>
  simp only[Ai]at ho
  cases hb:Nat.beq k nm with
  | true=>rw[hb]at ho;simp only[Af,Aw]at ho;subst ho;exact h
  | false=>grind
theorem ee{Γ:Hx}{st:St}{t r s n k:Nat}{e:TypeId}{f:Nat->List AV}(hs:st.get t = .vsub r n 0 k)(hr:Ai st.own r=some (.arr s e n f))(hk:k<=n)
  (ht:(st.tmps.all λx=>Nat.beq x.1 t || x.2.freeN r)=true) (ho:OwnsFrN r st.own) (h0:Γ.own0 r=none) (hlt:Nat.blt r Bt=true:=by rfl) (hB:Abw e=false:=by rfl) :
  Le Γ st ⟨Ei st.tmps t (.vsl r k),Ei st.own r (.arr s e k f),st.fam⟩:=by
 intro I θ a w h
 have hlt:r<Bt:=by simpa [Mo] using hlt
 have hr':st.sto.own r=some (.arr s e n f):=(Bd hlt).trans hr
 have hown:(⟨Ei st.tmps t (.vsl r k),Ei st.own r (.arr s e k f),st.fam⟩:St).sto.own=A0 st.sto.own r (.arr s e k f):=by
  funext x
  show C4 (Ei st.own r _) _ x=_
  rw[Ml hlt];simp only[A0]
  by_cases hx:r=x
  ·subst hx;simp
  ·simp[hx,Sd hx];rfl
 have hsame:∀ nm,nm≠r->A0 st.sto.own r (.arr s e k f) nm=st.sto.own nm:=λnm hn=>by simp[A0,hn]
 have hT:∀ v x,x.freeN r=true->Rep I st.sto.own θ w v x->Rep I (A0 st.sto.own r (.arr s e k f)) θ w v x:=λv x hx hv=>ny hv hx ⟨_,_,_,_,hr'⟩ hsame;have hrel:=h.chg.rel
 have hrows:∀ nm o,st.sto.own nm=some o->Aab r o:=λnm o hn=>by
  by_cases hl:nm<Bt
  ·exact ho.get ((Bd hl).symm.trans hn)
  ·obtain⟨_,_,_,rfl⟩:=Yv hl hn;trivial
 have hget:∀ t',(⟨Ei st.tmps t (.vsl r k),Ei st.own r (.arr s e k f),st.fam⟩:St).sto.tmp t'=if t=t' then .vsl r k else st.get t':=λt'=>by
  show(match Ai (Ei st.tmps t _) t' with|some x=>x|none=>.any)=_
  rw[J1]
  by_cases hk:t=t'
  ·simp[hk]
  ·simp[hk];rfl
 refine⟨I,θ,h.size,h.defers,λt'=>?_,?_⟩
 ·rw[hown,hget]
  split
  ·rename_i htt
   subst htt;have hv:=h.slots t
   have hv':Rep I st.sto.own θ w (a.tmps.getD t undef) (.vsub r n 0 k):=by rw[<- hs];exact hv
   obtain⟨sz,e',m,f',ad,cap,he,ho',hm,_,hhi,hcap,hmax,hn,hvv⟩:=hv'.vsub_inv;rw[hr']at ho';simp only[Aw,Own.arr.injEq]at ho';obtain⟨rfl,rfl,rfl,rfl⟩:=ho';rw[he];refine .vsl r s e k f ad _ cap (by simp[A0]) (zzL7 _) hcap hmax hn (λ_=>?_);have hz:=(hvv rfl).2 rfl
   cases hθ:θ r with
   | none=>rw[hθ]at hz;have:=(hrel.arr r _ _ _ _ hr').1 hθ;simp only at hz ⊢;omega
   | some gc=>rw[hθ]at hz;exact⟨hz.1,hz.2.resolve_right (by rw[hB];decide)⟩
  ·rename_i htt
   have hx:(st.get t').freeN r=true:=by
    unfold St.get
    cases hl:Ai st.tmps t' with
    | none=>rfl
    | some x=>
     have:=zzL29.1 ht _ (MC hl);simp only[EN]at this;rcases this with h'|h'
     ·exact(htt (Ej h').symm).elim
     ·exact h'
   exact hT _ _ hx (h.slots t')
 ·rw[hown];refine{ h.chg with le:=λnm o hno=>?_,rel:=⟨λnm e0 cells hn=>?_,λnm s' e' m' hn g c hg=>?_,λnm nm' g c c' hn hn' hg hg'=>?_,λnm s' e' m' f' hn=>?_,λnm x hn=>?_,λnm s' m' hn hnn=>?_⟩,new:=λnm g c hn hg=>?_ }
  ·obtain⟨o',ho',hl⟩:=h.chg.le nm o hno;exact⟨o',(hsame nm (by rintro rfl;rw[h0]at hno;cases hno)).trans ho',hl⟩
  ·have hne:nm≠r:=by rintro rfl;simp[A0]at hn
   rw[hsame nm hne]at hn;obtain⟨g,c,vs,r1,r2,r3,r4,r5,r6⟩:=hrel.row nm e0 cells hn;exact⟨g,c,vs,r1,r2,r3,r4,λj hj=>hT _ _ (Jt (hrows nm _ hn) j) (r5 j hj),r6⟩
  ·have hne:nm≠r:=by rintro rfl;simp[A0]at hn
   rw[hsame nm hne]at hn;exact hrel.tok nm _ _ _ hn g c hg
  ·have hx:∀ nm,A0 st.sto.own r (.arr s e k f) nm≠none->st.sto.own nm≠none:=λnm hn=>by
    by_cases hne:nm=r
    ·subst hne;rw[hr'];simp
    ·rwa[hsame nm hne]at hn
   exact hrel.inj nm nm' g c c' (hx nm hn) (hx nm' hn') hg hg'
  ·by_cases hne:nm=r
   ·subst hne;simp only[A0,Nd,Aw,Own.arr.injEq]at hn;obtain⟨rfl,rfl,rfl,rfl⟩:=hn;obtain⟨q0,q1⟩:=hrel.arr nm _ _ _ _ hr';refine⟨λhθ=>by have:=q0 hθ;omega,λg c hg=>?_⟩;obtain⟨cur,p1,p2,p3,p4,p5,p6,p7⟩:=q1 g c hg;exact⟨cur,p1,by omega,p3,p4,λi hi=>p5 i (by omega),λi j hi hj=>⟨(p6 i j (by omega) hj).1,hT _ _ (Jt (hrows nm _ hr' i) j) (p6 i j (by omega) hj).2⟩,p7⟩
   ·rw[hsame nm hne]at hn;exact CR (hrel.arr nm _ _ _ _ hn) rfl (λ_ _=>rfl) (λi j v _ _ hv=>hT _ _ (Jt (hrows nm _ hn i) j) hv)
  ·have hne:nm≠r:=by rintro rfl;simp[A0]at hn
   rw[hsame nm hne]at hn;exact Mx (hrel.obj nm _ hn) rfl (λ_ _ _=>rfl) (λ_ _ _ _ h=>h) (λ_ hh=>hh.al (P:=λy=>y.freeN r=true) (hrows nm _ hn) (λ_ _ h=>h) (λ_ _ _=>rfl) λv y hy hv=>hT v y hy hv) W1
  ·have hne:nm≠r:=by rintro rfl;simp[A0]at hn
   rw[hsame nm hne]at hn;exact hrel.tok8 nm _ _ hn hnn
  ·have hx:st.sto.own nm≠none:=by
    by_cases hne:nm=r
    ·subst hne;rw[hr'];simp
    ·rwa[hsame nm hne]at hn
   exact h.chg.new nm g c hx hg
theorem lh{α:Type}{e:α->List AV}{d:α}{l:List α}{k:Nat}:∀ i,i<0+k->AVleL (e (l.getD i d)) (e ((l.take k).getD i d)):=λi hi=>by
 have:(l.take k).getD i d=l.getD i d:=by grind
 rw[this];exact .refl _
theorem fw{α:Type}{l:List α}{k:Nat}(h:0+k<=l.length):0+k=(l.take k).length:=by simp;omega
theorem jK{f g:Nat->List AV}:∀ k,k<0->f k=g k:=λ_ h=>by omega
theorem cR{n:Nat}{f g:Nat->List AV}(h:∀ k,k<n->f k=g k)(h':f n=g n):∀ k,k<n+1->f k=g k:=λk hk=>by
 grind
theorem YO{α:Type}{keep:Nat->Bool}{e:α->List AV}{d:α}{z:List AV}{N sz:Nat}(hz:z.length=sz)(h:z=e d)(hk:AV.eraseAll keep z=z):∀ k,k<N->AVleL (AV.eraseAll keep ((((List.replicate N z).flatten).drop (k*sz)).take sz)) (e ((List.replicate N d).getD k d)):=λk hk'=>by
 have:(List.replicate N d).getD k d=d:=by simp[ hk']
 rw[eR z sz hz N k hk',this,hk,h];exact .refl _
theorem nK{f:Nat->List AV}{i:Nat}{x:AV}:AVle ((Fk f i 0 [x] i).getD 0 .any) x:=by
 rw[U5]
 simpa using AVle.refl x
theorem Nf{keep:Nat->Bool}{f:Nat->List AV}{i k R m:Nat}(hf:∀ j,AV.eraseAll keep (f j)=f j)(hk:keep R=true):∀ j,j<k->AVleL (AV.eraseAll keep (Fk f i 0 [.vsl R m] j)) (Fk f i 0 [.vsl R m] j):=λj _=>by
 have h:AV.eraseAll keep (Fk f i 0 [.vsl R m] j)=Fk f i 0 [.vsl R m] j:=by
  by_cases hj:j=i
  ·subst hj;rw[U5,AE,AE, XM,hf];simp[AV.eraseAll,AV.erase,hk]
  ·rw[X8 f _ hj,hf]
 rw[h];exact .refl _
theorem qt{α:Type}{enc:α->List AV}{d x:α}{l:List α}{i nm sz n:Nat}{g:Nat->List AV}(hf:∀ a,AV.frwAll nm sz n g (enc a)=enc a)(h1:∀ a,(enc a).length=1)(hx:enc x=[.slice sz n g .none]) :
  ∀ j,j<l.length->AVleL (AV.frwAll nm sz n g (Fk (λk=>enc (l.getD k d)) i 0 [.vsl nm n] j)) (enc ((l.set i x).getD j d)):=λj hl=>by
 have h:AV.frwAll nm sz n g (Fk (λk=>enc (l.getD k d)) i 0 [.vsl nm n] j)=enc ((l.set i x).getD j d):=by
  by_cases hj:j=i
  ·subst hj
   have e1:(l.set j x).getD j d=x:=by simp[ hl]
   have e2:(enc (l.getD j d)).drop (0+[AV.vsl nm n].length)=[]:=List.drop_eq_nil_of_le (by grind)
   have e3:BF nm nm=false:=by simp[BF]
   rw[U5,e1,e2,hx];simp[AV.frwAll,AV.frw,e3]
  ·have e1:(l.set i x).getD j d=l.getD j d:=by grind
   rw[X8 _ _ hj,e1,hf]
 rw[h];exact .refl _
section
variable {α:Type} {g:Bool} {a b:List α}
theorem kp:(bif g then a.length else b.length)=(bif g then a else b).length:=by cases g<;>rfl
theorem u7{e:α->List AV}{d:α}{k:Nat}:(bif g then e (a.getD k d) else e (b.getD k d))=e ((bif g then a else b).getD k d):=by cases g<;>rfl
theorem u9(h:g=true->b.length=a.length):b.length=(bif g then a else b).length:=by
 grind
end
abbrev D1{V:Type}(f:V->AV)(l:List (Int×V)):List (Int×AV):=l.map λp=>(p.1,f p.2)
section
variable {V:Type} {f:V->AV} {l:List (Int×V)} {r:List (Int×AV)} {k:Int}
theorem ZR(k:Int):∀ l:List (Int×V),Ks (D1 f l) k=Ks l k
 | []=>rfl
 | (a,b)::l=>by
  simp only[ Cz,Ks];rw[<- ZR k l]
theorem ZS(k:Int)(v:V):∀ l:List (Int×V),Pf (D1 f l) k (f v)=D1 f (Pf l k v)
 | []=>rfl
 | (a,b)::l=>by
  simp only[ Cz,Pf]
  cases k==a with
  | true=>rfl
  | false=>
   simp only[Ar];exact Bv _ (ZS k v l)
theorem b6{z:V}{zz:AV}(hz:AVle zz (f z))(hr:r=D1 f l):AVle (Mw zz r k) (f (Mw z l k)):=by
 subst hr
 induction l with
 | nil=>exact hz
 | cons p l ih=>
  obtain⟨a,b⟩:=p;simp only[ Cz,Mw]
  cases k==a with
  | true=>exact AVle.refl _
  | false=>exact ih
theorem fE{z:V}{zz:AV}(hz:AVle zz (f z))(hr:r=D1 f l):AVle (.tuple [Mw zz r k,.bool (Ks r k)]) (.tuple [f (Mw z l k),.bool (Ks l k)]):=by
 have h:=b6 (k:=k) hz hr;subst hr;rw[ZR];exact AVle.tuple (.cons h (.cons (AVle.refl _) .nil))
theorem lL{v:V}{x:AV}(hx:x=f v)(hr:r=D1 f l):Pf r k x=D1 f (Pf l k v):=by
 subst hr hx;exact ZS k v l
theorem py{g:Bool}{a b:List (Int×V)}{ra rb:List (Int×AV)}(ha:ra=D1 f a)(hb:rb=D1 f b):(bif g then ra else rb)=D1 f (bif g then a else b):=by
 grind
end
theorem qq{Γ:Hx}{st:St}{nm:Nat}{x:AObj}(y:AObj)(hn:Ai st.own nm=some (.obj x))(hxy:∀ I own θ w,NU I own θ w nm x->NU I own θ w nm y)(hlt:Nat.blt nm Bt=true:=by rfl) :
  Le Γ st ⟨st.tmps,Ei st.own nm (.obj y),st.fam⟩:=by
 intro I θ a w h
 have hlt:nm<Bt:=by simp_all
 have hn:st.sto.own nm=some _:=(Bd hlt).trans hn
 have hown:(⟨st.tmps,Ei st.own nm (.obj y),st.fam⟩:St).sto.own=A0 st.sto.own nm (.obj y):=by
  funext k
  show C4 _ _ k=_
  rw[Ml hlt];simp only[A0]
  by_cases hk:nm=k
  ·subst hk;simp
  ·simp[hk,Sd hk];rfl
 have hle:∀ k o,st.sto.own k=some o->∃ o',A0 st.sto.own nm (.obj y) k=some o'/\OwnLe o (θ k) o' (θ k):=λk o ho=>by
  by_cases hk:k=nm
  ·subst hk;rw[hn]at ho;obtain rfl:=OI ho;exact⟨.obj y,by simp[A0],rfl⟩
  ·exact⟨o,by simp[A0,hk,ho],OwnLe.refl _ _⟩
 have hrel:=h.chg.rel;have hmono:∀ v z,Rep I _ θ w v z->Rep I _ θ w v z:=λv z hz=>hz.mono (λ_ _ h=>h) (λ_ _ _=>rfl) hle
 have k:Chg st.sto.own θ I w (A0 st.sto.own nm (.obj y)) θ I w:=by
  refine{ imm:=λ_ _ h=>h,cell:=λ_ _ _=>rfl,le:=hle,rel:=?_,valid:=h.chg.valid,os:=rfl,tape:=rfl,output:=rfl,drawn:=λ_=>zzL7 _,grow:=zzL7 _,frame:=λ_ _ _=>rfl,new:=λk g c ho hg=>?_,immNew:=λb o h=>.inl h }
  ·refine Ol hrel (·=nm) hmono (λk hne=>⟨by simp[A0,hne],rfl⟩) (λk g c hne ho hg=>⟨rfl,λj h=>h⟩) ?_ ?_ ?_ (λ_ _ h h'=>h.trans h'.symm) (hobj:=?_)
   ·rintro k e' cells rfl ho;simp[A0]at ho
   ·rintro k sz e' m rfl ho;simp[A0]at ho
   ·rintro k k' g c c' rfl hne _ ho' hg hg';exact hne (hrel.inj k' k _ _ _ ho' (by simp[hn]) hg' hg)
   ·rintro k z rfl ho;simp only[A0,Nd,Aw,Own.obj.injEq]at ho;subst ho;exact Mx (hxy _ _ _ _ (hrel.obj k x hn)) rfl (λ_ _ _=>rfl) (λ_ _ _ _ h=>h) (λ_ hh=>hh.mono hmono) W1
  ·by_cases hk:k=nm
   ·grind
   ·exact .inr ⟨k,c,by simpa [A0,hk] using ho,hg⟩
 exact⟨I,θ,h.size,h.defers,λt'=>by rw[hown];exact(h.slots t').chg k,by rw[hown];exact h.chg.trans k⟩
theorem fH{I:Nat->Nat->Prop}{own:Nat->Option Own}{θ:Nat->Option (Nat×Nat)}{w:World}{nm:Nat}{nn:Bool}{k:IntKind}{l:List (Int×AV)}(h:NU I own θ w nm (.map nn k l)):NU I own θ w nm (.map false k l):=by
 rcases h with⟨g,c,o,h1,h2,h3,h4⟩|⟨h1,h2⟩
 ·refine .inl ⟨g,c,o,h1,h2,?_,h4⟩
  cases h3 with
  | map es nn k l hs hr=>exact .map es _ k l hs hr
 ·cases nn<;>cases l<;>first|exact .inr ⟨h1,trivial⟩|cases h2
theorem Y5{Γ:Hx}{st:St}{r j nm:Nat}{e0:TypeId}{cells:List AV}(km:IntKind)(hr:Ai st.own r=some (.row e0 cells))(hs:cells.getD j .any = .nilm)(hj:j<cells.length)(hn:Ai st.own nm=none)(hlt:Nat.blt nm Bt=true:=by rfl)(hltr:Nat.blt r Bt=true:=by rfl) :
  Le Γ st ⟨st.tmps,Ei (Ei st.own r (.row e0 (cells.set j (.omap nm)))) nm (.obj (.map false km [])),st.fam⟩:=by
 intro I θ a w h
 have hlt:nm<Bt:=by simpa [Mo] using hlt
 have hltr:r<Bt:=by simpa [Mo] using hltr
 have hn:st.sto.own nm=none:=(Bd hlt).trans hn;have hr:st.sto.own r=some (.row e0 cells):=(Bd hltr).trans hr
 have hne:r≠nm:=by rintro rfl;rw[hr]at hn;cases hn
 let own':Nat->Option Own:=λk=>if k=nm then some (.obj (.map false km [])) else if k=r then some (.row e0 (cells.set j (.omap nm))) else st.sto.own k
 have hown:(⟨st.tmps,Ei (Ei st.own r (.row e0 (cells.set j (.omap nm)))) nm (.obj (.map false km [])),st.fam⟩:St).sto.own=own':=by
  funext k
  show C4 (Ei (Ei st.own r _) nm _) _ k=_
  rw[Ml hlt,Ml hltr];simp only[own',Xh (a:=nm),Xh (a:=r)]
  rfl
 have hle:∀ nm' o,st.sto.own nm'=some o->∃ o',own' nm'=some o'/\OwnLe o (θ nm') o' (thUp θ nm none nm'):=λnm' o ho=>by
  have h1:nm'≠nm:=by rintro rfl;have:st.sto.own nm'=some o:=ho;rw[hn]at this;cases this
  by_cases h2:nm'=r
  ·subst h2;have:st.sto.own nm'=some o:=ho;rw[hr]at this;obtain rfl:=OI this;exact⟨.row e0 (cells.set j (.omap nm)),by simp[own',h1],by simp[thUp,h1,OwnLe]⟩
  ·exact⟨o,by simp[own',h1,h2,ho],by simp[thUp,h1,OwnLe.refl]⟩
 have hmono:∀ v x,Rep I st.sto.own θ w v x->Rep I own' (thUp θ nm none) w v x:=λv x h=>h.mono (λ_ _ h=>h) (λ_ _ _=>rfl) hle;have hrel:=h.chg.rel
 have k:Chg st.sto.own θ I w own' (thUp θ nm none) I w:=by
  refine{ imm:=λ_ _ h=>h,cell:=λ_ _ _=>rfl,le:=hle,rel:=?_,valid:=h.chg.valid,os:=rfl,tape:=rfl,output:=rfl,drawn:=λ_=>zzL7 _,grow:=zzL7 _,frame:=λ_ _ _=>rfl,new:=λnm' g' c ho hg=>?_,immNew:=λ_ _ h=>.inl h }
  ·refine⟨λnm' e2 cells' ho=>?_,λnm' s' e' m ho g' c hg=>?_,λn1 n2 g' c c' ho ho' hg hg'=>?_,λnm' s' e' m f' ho=>?_,λnm' x' ho=>?_,λnm' s' m ho hnn=>?_⟩
   ·by_cases h1:nm'=nm
    ·simp[own',h1]at ho
    ·by_cases h2:nm'=r
     ·subst h2;simp only[own',h1,Ji,Nd,Aw,Own.row.injEq]at ho;obtain⟨rfl,rfl⟩:=ho;obtain⟨g',c,vs,r1,r2,r3,r4,r5,r6⟩:=hrel.row nm' _ cells hr;refine⟨g',c,vs,by simpa [thUp,h1] using r1,r2,by simpa using r3,λj' hj'=>r4 j' (by simpa using hj'),λj' hj'=>?_,r6⟩
      have hj'':j'<cells.length:=by simpa using hj'
      by_cases hjj:j'=j
      ·subst hjj
       have e1:(cells.set j' (.omap nm)).getD j' .any = .omap nm:=by simp[List.getD,hj]
       rw[e1];have hr':=r5 j' hj'';rw[hs]at hr';rw[hr'.nilm_inv];have:=Rep.omap (I:=I) (own:=own') (θ:=thUp θ nm none) (w:=w) nm (.map false km []) (by simp[own'])
       simpa [thUp] using this
      ·have e1:(cells.set j (.omap nm)).getD j' .any=cells.getD j' .any:=by simp[List.getD,Sd hjj]
       rw[e1];exact hmono _ _ (r5 j' hj'')
     ·simp only[own',h1,h2,Ji]at ho;obtain⟨g',c,vs,r1,r2,r3,r4,r5,r6⟩:=hrel.row nm' _ cells' ho;exact⟨g',c,vs,by simpa [thUp,h1] using r1,r2,r3,r4,λj' hj'=>hmono _ _ (r5 j' hj'),r6⟩
   ·by_cases h1:nm'=nm
    ·simp[thUp,h1]at hg
    ·have h2:nm'≠r:=by rintro rfl;simp[own',h1]at ho
     simp only[own',h1,h2,Ji]at ho;simp only[thUp,h1,Ji]at hg;exact hrel.tok nm' _ _ _ ho g' c hg
   ·have hx:∀ n1 g' c,own' n1≠none->thUp θ nm none n1=some (g',c)->st.sto.own n1≠none/\θ n1=some (g',c):=λn1 g' c ho hg=>by
     by_cases h1:n1=nm
     ·simp[thUp,h1]at hg
     ·simp only[thUp,h1,Ji]at hg;refine⟨?_,hg⟩
      by_cases h2:n1=r
      ·subst h2;have:st.sto.own n1=some (.row e0 cells):=hr;simp[this]
      ·simpa [own',h1,h2] using ho
    obtain⟨a1,a2⟩:=hx n1 g' c ho hg;obtain⟨b1,b2⟩:=hx n2 g' c' ho' hg';exact hrel.inj n1 n2 g' c c' a1 b1 a2 b2
   ·by_cases h1:nm'=nm
    ·simp[own',h1]at ho
    ·have h2:nm'≠r:=by rintro rfl;simp[own',h1]at ho
     simp only[own',h1,h2,Ji]at ho;exact Rg (hrel.arr nm' _ _ _ _ ho) (by simp[thUp,h1]) (λ_ _ _=>rfl) (λ_ _ _ _ h=>h) (λ_ _=>rfl) (λv i j _ _ hv=>hmono _ _ hv)
   ·by_cases h1:nm'=nm
    ·simp only[own',h1,Nd,Aw,Own.obj.injEq]at ho;subst ho;subst h1;exact .inr ⟨by simp[thUp],trivial⟩
    ·have h2:nm'≠r:=by rintro rfl;simp[own',h1]at ho
     simp only[own',h1,h2,Ji]at ho;exact Mx (hrel.obj nm' _ ho) (by simp[thUp,h1]) (λ_ _ _=>rfl) (λ_ _ _ _ h=>h) (λ_ hh=>hh.mono hmono) W1
   ·by_cases h1:nm'=nm
    ·simp[own',h1]at ho
    ·have h2:nm'≠r:=by rintro rfl;simp[own',h1]at ho
     simp only[own',h1,h2,Ji]at ho;simp only[thUp,h1,Ji]at hnn;exact hrel.tok8 nm' _ _ ho hnn
  ·by_cases h1:nm'=nm
   ·simp[thUp,h1]at hg
   ·simp only[thUp,h1,Ji]at hg;refine .inr ⟨nm',c,?_,hg⟩
    by_cases h2:nm'=r
    ·subst h2;have:st.sto.own nm'=some (.row e0 cells):=hr;simp[this]
    ·simpa [own',h1,h2] using ho
 refine⟨I,thUp θ nm none,h.size,h.defers,λt'=>?_,?_⟩
 ·rw[hown];exact(h.slots t').chg k
 ·rw[hown];exact h.chg.trans k
section
variable {P:Program} {Γ:Hx} {σ:Sto} {I:Nat->Nat->Prop} {θ:Nat->Option (Nat×Nat)} {a:Act} {w:World} {o:Oper}
end
open Classical in
open Classical in
section
variable {P:Program} {Γ:Hx}
end
section
variable {P:Program} {Γ:Hx}
def QJ(P:Program)(Γ:Hx)(body:Code)(K:Exit->St->Prop):Nat->St->Prop
 | 0,_=>False
 | n+1,st=>BC P Γ body (λe st'=>(e = .normal/\QJ P Γ body K n st')\/(e≠.normal/\K e st')) st
theorem iG{body:Code}{K:Exit->St->Prop}{st:St}(n:Nat)(h:QJ P Γ body K n st):BC P Γ (.loop body) K st:=by
 intro I θ a w hrel;refine au (λm a w=>∃ st I θ,QJ P Γ body K m st/\Rel Γ st.sto I θ a w) (λm a w ⟨st,I,θ,hu,hrel⟩=>?_) (n:=n) ⟨st,I,θ,h,hrel⟩
 cases m with
 | zero=>exact hu.elim
 | succ m=>
  refine V1 (hu I θ a w hrel) λe a' w' ⟨st',I',θ',h1,h2⟩=>?_;rcases h1 with⟨rfl,h1⟩|⟨hne,h1⟩
  ·exact⟨m,Nat.lt_succ_self m,st',I',θ',h1,h2⟩
  ·cases e with
   | normal=>exact(hne rfl).elim
   | _=>exact⟨st',I',θ',h1,h2⟩
end
inductive th where
 | nx (y:Code)
 | bl (id:Nat)
 | ag (c:Code) (n:Nat)
inductive Ra where
 | run (c:Code) (fs:List th)
 | out (e:Exit) (fs:List th)
def tc(P:Program)(Γ:Hx)(K:Exit->St->Prop):List th->Exit->St->Prop
 | []=>K
 | .nx y::fs=>xZ P Γ y (tc P Γ K fs)
 | .bl id::fs=>LS id (tc P Γ K fs)
 | .ag c n::fs=>λe st=>(e = .normal/\QJ P Γ c (tc P Γ K fs) n st)\/(e≠.normal/\tc P Γ K fs e st)
def GG(P:Program)(Γ:Hx)(K:Exit->St->Prop):Ra->St->Prop
 | .run c fs,st=>BC P Γ c (tc P Γ K fs) st
 | .out e fs,st=>tc P Γ K fs e st
def CT:Code->Nat->Nat
 | .exit i,k=>bif Nat.beq i k then 1 else 0
 | .seq a b,k=>Nat.min 2 (CT a k+CT b k)
 | .cond _ a b,k=>Nat.min 2 (CT a k+CT b k)
 | .loop c,k=>Nat.min 1 (CT c k)
 | .scope c,k=>Nat.min 1 (CT c k)
 | .block _ c,k=>CT c k
 | _,_=>0
def Vf:Code->Nat
 | .region _ _ _=>1
 | .skip=>1
 | .label _=>1
 | .seq a b=>bif Nat.beq (Vf a) 0 then 0 else Vf b
 | .cond _ a b=>Nat.min 2 (Vf a+Vf b)
 | .block i c=>Nat.min 2 (Vf c+CT c i)
 | .scope c=>Nat.min 2 (Vf c)
 | _=>0
def qm(a:Code):Bool:=match a with | .region _ _ _=>false|a=>Nat.ble 2 (Vf a)
def SX:Nat->Code ⊕ Exit->List th->Ra
 | 0,.inl c,fs=>.run c fs
 | 0,.inr e,fs=>.out e fs
 | n+1,.inl c,fs=>
  match c with
  | .skip=>SX n (.inr .normal) fs
  | .label _=>SX n (.inr .normal) fs
  | .seq a b=>bif qm a then .run (.seq a b) fs else SX n (.inl a) (.nx b::fs)
  | .block id a=>SX n (.inl a) (.bl id::fs)
  | .exit id=>SX n (.inr (.exit id)) fs
  | .goto l=>SX n (.inr (.goto l)) fs
  | .ret=>SX n (.inr .ret) fs
  | c=>.run c fs
 | n+1,.inr e,fs=>
  match fs with
  | []=>.out e []
  | .nx y::fs=>(match e with | .normal=>SX n (.inl y) fs|e=>SX n (.inr e) fs)
  | .bl id::fs=>(match e with | .exit i=>bif Nat.beq i id then SX n (.inr .normal) fs else SX n (.inr (.exit i)) fs|e=>SX n (.inr e) fs)
  | .ag c m::fs=>(match e with | .normal=>(match m with|0=>.out .normal (.ag c 0::fs)|m+1=>SX n (.inl c) (.ag c m::fs))|e=>SX n (.inr e) fs)
section
variable {P:Program} {Γ:Hx} {K:Exit->St->Prop}
theorem Ca:∀(n:Nat) (x:Code ⊕ Exit) (fs:List th) (st:St),GG P Γ K (SX n x fs) st->(match x with | .inl c=>BC P Γ c (tc P Γ K fs) st | .inr e=>tc P Γ K fs e st)
 | 0,.inl c,fs,st,h=>h
 | 0,.inr e,fs,st,h=>h
 | n+1,.inl c,fs,st,h=>by
  cases c with
  | skip=>exact pu (Ca n _ fs st h)
  | label l=>exact mq (Ca n _ fs st h)
  | seq a b=>
   cases hj:qm a with
   | true=>simp only[SX,hj]at h;exact h
   | false=>simp only[SX,hj]at h;exact kn (Ca n (.inl a) _ st h)
  | block id a=>exact mp (Ca n (.inl a) _ st h)
  | exit id=>exact po (Ca n _ fs st h)
  | goto l=>exact pp (Ca n _ fs st h)
  | ret=>exact u6 (Ca n (.inr .ret) fs st h)
  | _=>exact h
 | n+1,.inr e,[],st,h=>h
 | n+1,.inr e,.nx y::fs,st,h=>by
  cases e with
  | normal=>exact Ca n (.inl y) fs st h
  | exit i=>exact Ca n _ fs st h
  | goto l=>exact Ca n _ fs st h
  | ret=>exact Ca n (.inr .ret) fs st h
  | panic c=>exact Ca n _ fs st h
  | outgrown=>exact Ca n _ fs st h
 | n+1,.inr e,.bl id::fs,st,h=>by
  cases e with
  | normal=>exact Ca n _ fs st h
  | exit i=>
   cases hb:Nat.beq i id with
   | true=>
    obtain rfl:=Ej hb;simp only[SX,hb]at h;exact iJ (Ca n _ fs st h)
   | false=>
    simp only[SX,hb]at h;exact iI hb (Ca n _ fs st h)
  | goto l=>exact Ca n _ fs st h
  | ret=>exact Ca n (.inr .ret) fs st h
  | panic c=>exact Ca n _ fs st h
  | outgrown=>exact Ca n _ fs st h
 | n+1,.inr e,.ag c m::fs,st,h=>by
  cases e with
  | normal=>
   cases m with
   | zero=>exact h
   | succ m=>exact .inl ⟨rfl,Ca n (.inl c) _ st h⟩
  | exit i=>exact .inr ⟨(by intro hh;cases hh),Ca n _ fs st h⟩
  | goto l=>exact .inr ⟨(by intro hh;cases hh),Ca n _ fs st h⟩
  | ret=>exact .inr ⟨(by intro hh;cases hh),Ca n (.inr .ret) fs st h⟩
  | panic ch=>exact .inr ⟨(by intro hh;cases hh),Ca n _ fs st h⟩
  | outgrown=>exact .inr ⟨(by intro hh;cases hh),Ca n _ fs st h⟩
theorem Md{n:Nat}{c:Code}{fs:List th}{st:St}(h:GG P Γ K (SX n (.inl c) fs) st):BC P Γ c (tc P Γ K fs) st:=Ca n _ fs st h
theorem DG{n:Nat}{e:Exit}{fs:List th}{st:St}(h:GG P Γ K (SX n (.inr e) fs) st):tc P Γ K fs e st:=Ca n _ fs st h
def xP(c:Code)(fs:List th):Ra:=SX 400 (.inl c) fs
def exC(e:Exit)(fs:List th):Ra:=SX 400 (.inr e) fs
def wC:Ra->Ra
 | .run _ fs=>exC .normal fs
 | x=>x
def wK:Ra->Option (List Oper×Bool)
 | .run (.region _ ops draw) _=>some (ops.toList,draw)
 | _=>none
def ta(P:Program)(S:JI)(n:Nat)(cs:List (Nat×AV))(live names:List Nat)(x:Ra)(st:St)(rs:List Wa):Option (St×List Prop×Bool):=
 match wK x with
 | some (ops,draw)=>QP P S n cs live names ops draw st rs
 | none=>none
def wD(P:Program)(S:JI)(n:Nat)(cs:List (Nat×AV))(live names:List Nat)(x:Ra)(st:St)(rs:List Wa):St:=
 match ta P S n cs live names x st rs with
 | some r=>r.1
 | none=>st
def td(r:Option (St×List Prop×Bool)):Option (Prop×Bool):=
 match r with
 | some r=>some (eF r.2.1,r.2.2)
 | none=>none
theorem gR{x:Ra}{st:St}{n:Nat}{H:List (Nat×Own)}(q:RgQ P Γ n H)(live names:List Nat)(cs:List (Nat×AV))(rs:List Wa){O:Prop}(hO:O)
  (k:GG P Γ K (wC x) (wD P (Spec P) n cs live names x st rs))
  (h:td (ta P (Spec P) n cs live names x st rs)=some (O,true):=by kernel_rfl) (hh:(H.all λx=>B8 x.1 names)=true:=by kernel_rfl):GG P Γ K x st:=by
 unfold ta at h;unfold wD ta at k
 cases x with
 | out e fs=>simp[wK,td]at h
 | run c fs=>
  cases c with
  | region id ops draw=>
   simp only[wK]at h k
   cases hr:QP P _ n cs _ _ _ _ st rs with
   | none=>rw[hr]at h;simp[td]at h
   | some r=>
    obtain⟨st',obs,d⟩:=r;rw[hr]at h k;obtain⟨rfl,rfl⟩:=h;have:=iF (id:=id)  q.hn q.mix (q.hand hh) hr hO (DG k);exact(by simpa using this:BC P Γ _ _ st)
  | _=>simp[wK,td]at h
theorem Ae{x:Ra}{st:St}{n:Nat}{H:List (Nat×Own)}(q:RgQ P Γ n H)(live names:List Nat)
  (k:GG P Γ K (wC x) (wD P (Spec P) n [] live names x st []))
  (h:td (ta P (Spec P) n [] live names x st [])=some (True,true):=by kernel_rfl) (hh:(H.all λx=>B8 x.1 names)=true:=by kernel_rfl):GG P Γ K x st:=gR q _ _ [] [] trivial k h hh
def xR:Ra->Bool | .run _ _=>true|_=>false
theorem Mm{x:Ra}{st st':St}(h:Le Γ st st')
  (k:GG P Γ K x st')
  (hx:xR x=true:=by kernel_rfl):GG P Γ K x st:=by
 cases x with
 | run c fs=>exact iE h k
 | out e fs=>cases hx
theorem Py{x:Ra}{st:St}(st':St)
  (k:GG P Γ K x st')
  (h:st=st':=by kernel_rfl):GG P Γ K x st:=h▸k
def qQ(x:Ra)(st:St):AV:=match x with | .run (.cond c _ _) _=>eL st.get c|_=>.any
def brC(b:Bool):Ra->Ra
 | .run (.cond _ c d) fs=>xP (bif b then c else d) fs
 | x=>x
theorem gC{x:Ra}{st:St}{R:Type}{b:Bool}{m1 m2:Option R}{r:R}(h:(bif b then m1 else m2)=some r)
  (kt:m1=some r->GG P Γ K (brC true x) st) (kf:m2=some r->GG P Γ K (brC false x) st)
  (hv:qQ x st = .bool b:=by kernel_rfl):GG P Γ K x st:=by
 cases x with
 | out e fs=>cases hv
 | run c fs=>
  cases c with
  | cond c y z=>
   refine du b hv (λhb=>Md  (kt ?_)) (λhb=>Md  (kf ?_))
   ·subst hb;exact h
   ·subst hb;exact h
  | _=>cases hv
theorem dQ{x:Ra}{st:St}(b:Bool)
  (k:GG P Γ K (brC b x) st)
  (hv:qQ x st = .bool b:=by kernel_rfl):GG P Γ K x st:=by
 cases x with
 | out e fs=>cases hv
 | run c fs=>
  cases c with
  | cond c y z=>
   refine du b hv (λhb=>Md (n:=400) ?_) (λhb=>Md (n:=400) ?_)
   ·subst hb;exact k
   ·subst hb;exact k
  | _=>cases hv
theorem Ab3{x:Ra}{st:St}(pos:Bool)(n:Nat)
  (kt:(pos=true->n=0)->GG P Γ K (brC true x) st) (kf:(pos=false->n=0)->GG P Γ K (brC false x) st)
  (hv:qQ x st = .nilq pos n:=by kernel_rfl):GG P Γ K x st:=by
 cases x with
 | out e fs=>cases hv
 | run c fs=>
  cases c with
  | cond c y z=>exact pt pos n hv (λhb=>Md  (kt hb)) (λhb=>Md  (kf hb))
  | _=>cases hv
theorem lt1{P:Nat->Prop}(h0:P 0)(i:Nat)(h:i<1):P i:=by
 grind
theorem lt2{P:Nat->Prop}(h0:P 0)(h1:P 1)(i:Nat)(h:i<2):P i:=by
 grind
theorem gK{x:Ra}{st:St}{e:Exit}(h:K e st)(hx:x = .out e []:=by kernel_rfl):GG P Γ K x st:=by subst hx;exact h
def aG(Γ:Hx)(e0:Exit)(og:St):Exit->St->Prop:=λe st=>e=e0/\Le Γ st og
def aR(K:Exit->St->Prop):Exit->St->Prop:=λe st=>e = .ret/\K e st
theorem A2{e0:Exit}{og st:St}(h:Le Γ st og):aG Γ e0 og e0 st:=⟨rfl,h⟩
theorem L2{st:St}(h:K .ret st):aR K .ret st:=⟨rfl,h⟩
def isN:Exit->Bool | .normal=>true|_=>false
theorem gN{S X:Type}{x:Ra}{st:St}{H:S->St}{KX:X->Exit->St->Prop}{s':S}(h:Le Γ st (H s'))(hx:x = .out .normal []:=by kernel_rfl):GG P Γ (IF Γ H KX (.next s')) x st:=by
 subst hx;exact⟨rfl,h⟩
theorem gO{S X:Type}{x:Ra}{st:St}{H:S->St}{KX:X->Exit->St->Prop}{y:X}{e:Exit}(h:KX y e st)(hx:x = .out e []:=by kernel_rfl)(hn:isN e=false:=by kernel_rfl):GG P Γ (IF Γ H KX (.done y)) x st:=by
 subst hx;exact⟨(by rintro rfl;cases hn),h⟩
def fK(P:Program)(Γ:Hx)(rs:List ResultVar)(H:List (Nat×Own))(res:AV)(H':List (Nat×Own)):Exit->St->Prop:=clK Γ (Acr P rs H res H')
theorem Hu{rs:List ResultVar}{H H':List (Nat×Own)}{res:AV}{st st':St}{e:Exit}(ρ:List (Nat×Nat))(hl:Le Γ st st')(hr:lb P rs ρ H st'=some (res,H'):=by kernel_rfl)
  (he:(match e with | .ret=>true | .normal=>true|_=>false)=true:=by kernel_rfl):fK P Γ rs H res H' e st:=by
 refine⟨st',hl,?_,ρ,hr⟩
 cases e with
 | ret=>exact .inl rfl
 | normal=>exact .inr rfl
 | _=>cases he
theorem Bm{rs:List ResultVar}{H H':List (Nat×Own)}{res:AV}{x:Ra}{st:St}(ρ:List (Nat×Nat))(hr:lb P rs ρ H st=some (res,H'):=by kernel_rfl)
  (hx:x = .out .ret []:=by kernel_rfl):GG P Γ (fK P Γ rs H res H') x st:=gK  (Hu ρ (Le.refl _ _) hr) hx
def ba(fn:Func):Code:=match fn.body with|some c=>c|none=>.skip
theorem FX {f : FuncId} {fn : Func} {args : List AV} {H H' : List (Nat × Own)} {res : AV} (hm : P.follows .mixedOrders = true) (hf : P.funcs[f]? = some fn)
    (k : ∀ Γ : Hx, RgQ P Γ fn.ntmps H → GG P Γ (fK P Γ fn.results.toList H res H') (xP (ba fn) []) (LZ args H))
    (hb : fn.body.isSome = true := by kernel_rfl) (hname : (fn.name == "runtime.NumGoroutine") = false := by kernel_rfl) (hlen : Nat.ble args.length fn.ntmps = true := by kernel_rfl) (hpl : TK H = true := by kernel_rfl) : Spec P f args H res H' := by
  obtain ⟨c, hc⟩ := zzL77.1 hb
  have e : ba fn = c := by unfold ba; rw [hc]
  refine fu hf hc hname hlen (fun Γ hn hΓ => ?_) hpl; have := k Γ ⟨hn, hm, hΓ⟩; rw [e] at this; exact yr (Md this)
theorem ik{st st':St}(h:st=st'):Le Γ st st':=h▸Le.refl Γ st
def bn:Ra->Bool | .run (.loop _) _=>true|_=>false
def qB:Ra->Ra
 | .run (.loop c) _=>xP c []
 | x=>x
def wM(e:Exit):Ra->Ra
 | .run _ fs=>exC e fs
 | x=>x
def Acl{α:Type}(k:Nat)(x:α):List (Nat×α)->List (Nat×α)
 | []=>[(k,x)]
 | (k',y)::l=>bif Nat.beq k k' then(k,x)::l else bif Nat.blt k k' then(k,x)::(k',y)::l else(k',y)::Acl k x l
def wO{α:Type}:List (Nat×α)->List (Nat×α)->List (Nat×α)
 | [],l=>l
 | (k,x)::r,l=>wO r (Acl k x l)
def Cl(st:St)(ts:List (Nat×AV))(os:List (Nat×Own))(fs:List (Nat×oG):=[]):St:=⟨wO ts st.tmps,wO os st.own,wO fs st.fam⟩
def M2(live names:List Nat)(st:St)(ts:List (Nat×AV))(os:List (Nat×Own))(fs:List (Nat×oG):=[]):St:=Hl live names (Cl st ts os fs)
theorem gL{S X:Type}{x:Ra}{st:St}{n:Nat}{Hf:List (Nat×Own)}(q:RgQ P Γ n Hf){f:S->Option (LR S X)}{s0:S}{y:X}(hx:Ad f s0=some y)(live names:List Nat)(H:St->S->St)(KX:St->X->Exit->St->Prop)
  (kb:∀ s y,f s=some y->GG P Γ (IF Γ (H (Hl live names st)) (KX (Hl live names st)) y) (qB x) (H (Hl live names st) s)) (ko:∀ e st',KX (Hl live names st) y e st'->GG P Γ K (wM e x) st')
  (h0:Hl live names st=H (Hl live names st) s0:=by kernel_rfl) (hl:bn x=true:=by kernel_rfl) (hh:(Hf.all λx=>B8 x.1 names)=true:=by kernel_rfl):GG P Γ K x st:=by
 cases x with
 | out e fs=>cases hl
 | run c fs=>
  cases c with
  | loop c=>
   refine iE  ?_ (dw _ f _ (λs y hy=>Md (kb s y hy)) hx λe st' hk=>DG (ko e st' hk));rw[<- h0];exact A5 _ _ q rfl hh
  | _=>cases hl
theorem gL0{S X:Type}{x:Ra}{st:St}{f:S->Option (LR S X)}{s0:S}{y:X}(hx:Ad f s0=some y)(H:St->S->St)(KX:St->X->Exit->St->Prop)
  (kb:∀ s y,f s=some y->GG P Γ (IF Γ (H st) (KX st) y) (qB x) (H st s)) (ko:∀ e st',KX st y e st'->GG P Γ K (wM e x) st')
  (h0:st=H st s0:=by kernel_rfl) (hl:bn x=true:=by kernel_rfl):GG P Γ K x st:=by
 cases x with
 | out e fs=>cases hl
 | run c fs=>
  cases c with
  | loop c=>exact iE (ik h0) (dw _ f _ (λs y hy=>Md (kb s y hy)) hx λe st' hk=>DG (ko e st' hk))
  | _=>cases hl
theorem gA{x:Ra}{f:Exit->Ra->Ra}{e0:Exit}{og:St}
  (k:GG P Γ K (f e0 x) og)
  (hr:xR (f e0 x)=true:=by kernel_rfl):∀ e st',aG Γ e0 og e st'->GG P Γ K (f e x) st':=by
 rintro e st' ⟨rfl,hl⟩;exact Mm hl k hr
theorem nI{x:Ra}{f:Exit->Ra->Ra}{e0:Exit}{og:St}(k:∀ st',Le Γ st' og->GG P Γ K (f e0 x) st'):∀ e st',aG Γ e0 og e st'->GG P Γ K (f e x) st':=by
 rintro e st' ⟨rfl,hl⟩;exact k st' hl
theorem gAr{x:Ra}{f:Exit->Ra->Ra}{K':Exit->St->Prop}(k:∀ st',K' .ret st'->GG P Γ K (f .ret x) st'):∀ e st',aR K' e st'->GG P Γ K (f e x) st':=by
 rintro e st' ⟨rfl,hl⟩;exact k st' hl
theorem gU{x:Ra}{st:St}(n:Nat)
  (k:GG P Γ K (match x with | .run (.loop c) fs=>xP c (.ag c n::fs)|x=>x) st)
  (hl:bn x=true:=by kernel_rfl):GG P Γ K x st:=by
 cases x with
 | out e fs=>cases hl
 | run c fs=>
  cases c with
  | loop c=>exact iG (n+1) (Md k)
  | _=>cases hl
def Ab6:Ra->Bool | .run (.seq _ _) _=>true|_=>false
def Ab4:Ra->Ra
 | .run (.seq a _) _=>xP a []
 | x=>x
def Acq(e:Exit):Ra->Ra
 | .run (.seq _ b) fs=>exC e (.nx b::fs)
 | x=>x
theorem gJ{X:Type}{x:Ra}{st:St}{m:Option X}{y:X}(hx:m=some y)(KX:X->Exit->St->Prop)
  (kb:∀ y,m=some y->GG P Γ (KX y) (Ab4 x) st) (ko:∀ e st',KX y e st'->GG P Γ K (Acq e x) st')
  (hs:Ab6 x=true:=by kernel_rfl):GG P Γ K x st:=by
 cases x with
 | out e fs=>cases hs
 | run c fs=>
  cases c with
  | seq a b=>exact kn (pq KX hx (λy hy=>Md (kb y hy)) λe st' hk=>DG (ko e st' hk))
  | _=>cases hs
def vd:Ra->Bool | .run (.scope _) _=>true|_=>false
def scB:Ra->Code | .run (.scope c) _=>c|_=>.skip
def Ab7(c:Code)(l:Nat):Ra:=xP ((findLabel c l).getD .skip) []
theorem gS{S X:Type}{x:Ra}{st:St}{f0:Option (LR S X)}{f:S->Option (LR S X)}{y:X}(hx:Ua f0 f=some y)(lab:S->Nat)(H:S->St)(KX:X->Exit->St->Prop)
  (k0:∀ y,f0=some y->GG P Γ (SF Γ (scB x) lab H KX y) (xP (scB x) []) st) (kb:∀ s y,f s=some y->GG P Γ (SF Γ (scB x) lab H KX y) (Ab7 (scB x) (lab s)) (H s)) (ko:∀ e st',KX y e st'->GG P Γ K (wM e x) st')
  (hs:vd x=true:=by kernel_rfl):GG P Γ K x st:=by
 cases x with
 | out e fs=>cases hs
 | run c fs=>
  cases c with
  | scope c=>
   refine mr lab H f0 f KX (λy hy=>Md (k0 y hy)) (λs y rest hf hy=>?_) hx λe st' hk=>DG (ko e st' hk);have:=kb s y hy;unfold Ab7 scB at this;rw[hf]at this;exact Md this
  | _=>cases hs
theorem qe{S X:Type}{x:Ra}{st:St}{c:Code}{lab:S->Nat}{H:S->St}{KX:X->Exit->St->Prop}{s':S}(h:Le Γ st (H s'))(hx:x = .out (.goto (lab s')) []:=by kernel_rfl)(hf:(findLabel c (lab s')).isSome=true:=by kernel_rfl) :
  GG P Γ (SF Γ c lab H KX (.next s')) x st:=by
 subst hx;exact⟨rfl,hf,h⟩
theorem oM{S X:Type}{x:Ra}{st:St}{c:Code}{lab:S->Nat}{H:S->St}{KX:X->Exit->St->Prop}{y:X}{e:Exit}(h:KX y e st)(hx:x = .out e []:=by kernel_rfl)
  (hf:(match e with | .goto l=>(findLabel c l).isNone|_=>true)=true:=by kernel_rfl):GG P Γ (SF Γ c lab H KX (.done y)) x st:=by
 subst hx;refine⟨?_,h⟩;rintro l rfl
 simpa using hf
theorem V8{α:Type}{st:St}(U:α->St->St){a b:α}(h:a=b)(h1:st=U a st:=by kernel_rfl):Le Γ st (U b st):=by subst h;exact ik h1
theorem leB{st:St}(F F':Bool->St->St)(g:Bool)(h1:st=F g st:=by kernel_rfl)(ht:F true st=F' true st:=by kernel_rfl)(hf:F false st=F' false st:=by kernel_rfl):Le Γ st (F' g st):=by
 refine ik (h1.trans ?_)
 cases g<;>assumption
def Own.withF(g:Nat->List AV):Own->Own
 | .arr sz e n _=>.arr sz e n g
 | o=>o
def xK(st:St)(nm:Nat):Option (Nat×(Nat->List AV)):=match Ai st.own nm with|some (.arr _ _ n f)=>some (n,f)|_=>none
def Acu(nm:Nat)(g:Nat->List AV)(st:St):St:=⟨st.tmps,(match Ai st.own nm with|some o=>Ei st.own nm (o.withF g)|none=>st.own),st.fam⟩
theorem TH{nm sz n:Nat}{e:TypeId}{f g:Nat->List AV}(hp:∀ k,k<n->AVleL (f k) (g k)):∀{l:List (Nat×Own)},Ai l nm=some (.arr sz e n f)->OwnsLe l (Ei l nm (.arr sz e n g))
 | [],h=>by cases h
 | (k,o)::l,h=>by
  simp only[Ai]at h;simp only[Ei]
  cases hb:Nat.beq k nm with
  | true=>
   obtain rfl:=Ej hb;rw[hb]at h;simp only[Af,Aw]at h;subst h;exact .arr hp (.refl _)
  | false=>
   rw[hb]at h;exact .same (TH hp h)
theorem V7{st:St}(nm:Nat){n:Nat}{f g:Nat->List AV}(hp:∀ k,k<n->AVleL (f k) (g k))(h:xK st nm=some (n,f):=by kernel_rfl):Le Γ st (Acu nm g st):=by
 unfold xK at h;unfold Acu
 cases ho:Ai _ nm with
 | none=>rw[ho]at h;cases h
 | some o=>
  rw[ho]at h
  cases o with
  | arr sz e n' f'=>
   obtain⟨rfl,rfl⟩:=h;exact Et (TmpsLe.refl _) (TH hp ho)
  | _=>cases h
def qN(st:St)(nm j:Nat):Option AV:=match Ai st.own nm with|some (.row _ cells)=>cells[j]? | _=>none
def Own.withC(j:Nat)(x:AV):Own->Own
 | .row e cells=>.row e (cells.set j x)
 | o=>o
def Acs(nm j:Nat)(x:AV)(st:St):St:=⟨st.tmps,(match Ai st.own nm with|some o=>Ei st.own nm (o.withC j x)|none=>st.own),st.fam⟩
theorem lE{a b:AV}(h:AVle a b):∀{l:List AV} {j:Nat},l[j]?=some a->AVleL l (l.set j b)
 | [],j,h=>by simp at h
 | x::l,0,h'=>by
  simp only[List.getElem?_cons_zero,Aw]at h';subst h';exact .cons h (.refl _)
 | x::l,j+1,h'=>by
  exact .cons (.refl _) (lE h h')
theorem TI{nm:Nat}{e:TypeId}{x y:List AV}(hp:AVleL x y):∀{l:List (Nat×Own)},Ai l nm=some (.row e x)->OwnsLe l (Ei l nm (.row e y))
 | [],h=>by cases h
 | (k,o)::l,h=>by
  simp only[Ai]at h;simp only[Ei]
  cases hb:Nat.beq k nm with
  | true=>
   obtain rfl:=Ej hb;rw[hb]at h;simp only[Af,Aw]at h;subst h;exact .row hp (.refl _)
  | false=>
   rw[hb]at h;exact .same (TI hp h)
theorem vh{st:St}(nm j:Nat){a b:AV}(hp:AVle a b)(h:qN st nm j=some a:=by kernel_rfl):Le Γ st (Acs nm j b st):=by
 unfold qN at h;unfold Acs
 cases ho:Ai _ nm with
 | none=>rw[ho]at h;cases h
 | some o=>
  rw[ho]at h
  cases o with
  | row e cells=>exact Et (TmpsLe.refl _) (TI (lE hp h) ho)
  | _=>cases h
theorem gI(g:Bool):g=true->g=true:=id
theorem Lz(c:Bool):c=true->(c==true)=true:=gT
theorem Hv(c:Bool):c=false->(c==false)=true:=gF
theorem Au{α:Type}(sz:Nat)(e:α->List AV)(d:α)(l:List α):AVle (.slice sz l.length (λi=>(l.map e).getD i []) .exact) (AV.list sz e d l .exact):=bZ rfl λi h=>vr l i h
theorem Bh{α:Type}(sz:Nat)(e:α->List AV)(d:α):AVle (.slice 0 0 (λ_=>[]) .exact) (AV.list sz e d [] .exact):=Cp
theorem Cf{α:Type}(sz nm:Nat)(e:α->List AV)(d:α)(l m:List α):AVle (.slice sz (l.length+m.length) (Pn l.length (λi=>e (l.getD i d)) (λi=>e (m.getD i d))) (.own nm)) (AV.list sz e d (l++m) (.own nm)):=yq
theorem Gj{st st':St}(h:st=st':=by kernel_rfl):Le Γ st st':=h▸Le.refl Γ st
theorem ci{p q:Prop}(a:p)(b:q):p/\q:=⟨a,b⟩
theorem c1{p:Prop}(a:p):p/\True:=⟨a,trivial⟩
end
section
variable {P:Program} {Γ:Hx} {K:Exit->St->Prop}
theorem tB{α β:Type}{m:Option α}{f:α->Option β}{r:β}{G:Prop}(h:m.bind f=some r)(k:∀ x,m=some x->f x=some r->G):G:=have⟨x,hx,h⟩:=bind_some h;k x hx h
theorem tC{β:Type}{c:Prop}[Decidable c]{m:Option β}{r:β}{G:Prop}(h:Ax c m=some r)(k:c->m=some r->G):G:=k (Tk h).1 (Tk h).2
@[elab_as_elim] theorem tS{α:Type}{a:α}{M:α->Prop}{b:α}(h:some a=some b)(k:M a):M b:=OI h▸k
theorem tV{x:Ra}{st:St}{n:Nat}{H:List (Nat×Own)}(q:RgQ P Γ n H)(live names:List Nat){β:Type}{c:Prop}[Decidable c]{m:Option β}{r:β}(h:Ax c m=some r)
  (k:m=some r->GG P Γ K (wC x) (wD P (Spec P) n [] live names x st []))
  (h1:td (ta P (Spec P) n [] live names x st [])=some (c/\True,true):=by kernel_rfl) (hh:(H.all λx=>B8 x.1 names)=true:=by kernel_rfl):GG P Γ K x st:=gR q live names [] [] (c1 (Tk h).1) (k (Tk h).2) h1 hh
theorem tN{S X:Type}{x:Ra}{st:St}{H:S->St}{KX:X->Exit->St->Prop}{s':S}{y:LR S X}(h:some (.next s')=some y)(h1:st=H s':=by kernel_rfl)(hx:x = .out .normal []:=by kernel_rfl):GG P Γ (IF Γ H KX y) x st:=OI h▸gN (Gj h1) hx
theorem tL{S X α:Type}{x:Ra}{st:St}{n:Nat}{Hf:List (Nat×Own)}(q:RgQ P Γ n Hf){f:S->Option (LR S X)}{s0:S}{g:X->Option α}{r:α}(h:(Ad f s0).bind g=some r)(live names:List Nat)(H:St->S->St)(KX:St->X->Exit->St->Prop)
  (kb:∀ s y,f s=some y->GG P Γ (IF Γ (H (Hl live names st)) (KX (Hl live names st)) y) (qB x) (H (Hl live names st) s)) (ko:∀ y,g y=some r->∀ e st',KX (Hl live names st) y e st'->GG P Γ K (wM e x) st')
  (h0:Hl live names st=H (Hl live names st) s0:=by kernel_rfl) (hl:bn x=true:=by kernel_rfl) (hh:(Hf.all λx=>B8 x.1 names)=true:=by kernel_rfl):GG P Γ K x st:=tB h λy hy h=>gL q hy live names H KX kb (ko y h) h0 hl hh
theorem tU{x:Ra}{st:St}{n:Nat}{H:List (Nat×Own)}(q:RgQ P Γ n H)(live names:List Nat){O:Prop}(hO:O)
  (k:GG P Γ K (wC x) (wD P (Spec P) n [] live names x st []))
  (h:td (ta P (Spec P) n [] live names x st [])=some (O,true):=by kernel_rfl) (hh:(H.all λx=>B8 x.1 names)=true:=by kernel_rfl):GG P Γ K x st:=gR q live names [] [] hO k h hh
theorem tT{x:Ra}{st:St}{n:Nat}{H:List (Nat×Own)}(q:RgQ P Γ n H)(live names:List Nat)(rs:List Wa){O:Prop}(hO:O)
  (k:GG P Γ K (wC x) (wD P (Spec P) n [] live names x st rs))
  (h:td (ta P (Spec P) n [] live names x st rs)=some (O,true):=by kernel_rfl) (hh:(H.all λx=>B8 x.1 names)=true:=by kernel_rfl):GG P Γ K x st:=gR q live names [] rs hO k h hh
theorem tW{x:Ra}{st:St}{n:Nat}{H:List (Nat×Own)}(q:RgQ P Γ n H)(live names live2 names2:List Nat)
  (k:GG P Γ K (wC (wC x)) (wD P (Spec P) n [] live2 names2 (wC x) (wD P (Spec P) n [] live names x st []) []))
  (h:td (ta P (Spec P) n [] live names x st [])=some (True,true):=by kernel_rfl) (hh:(H.all λx=>B8 x.1 names)=true:=by kernel_rfl)
  (h2:td (ta P (Spec P) n [] live2 names2 (wC x) (wD P (Spec P) n [] live names x st []) [])=some (True,true):=by kernel_rfl) (hh2:(H.all λx=>B8 x.1 names2)=true:=by kernel_rfl):GG P Γ K x st:=Ae q live names (Ae q live2 names2 k h2 hh2) h hh
end
def cjO:List Own->Prop->Prop
 | [],p=>p
 | o::l,p=>some o=some o/\cjO l p
theorem rkc:∀(l:List Own) {p:Prop},p->cjO l p
 | [],_,h=>h
 | _::l,_,h=>⟨rfl,rkc l h⟩
theorem rkl(l:List Own):cjO l True:=rkc l trivial
theorem Ju{R:Prop}(g:Bool)(r:R):(g=true->g=true)/\((g=true->g=true)/\(R)):=⟨id,⟨id,r⟩⟩
theorem Sg{R:Prop}(g:Bool)(r:R):(g=true->g=true)/\((g=true->g=true)/\((g=true->g=true)/\(R))):=⟨id,⟨id,⟨id,r⟩⟩⟩
theorem JT{R:Prop}(g:Bool)(r:R):(g=true->g=true)/\((g=true->g=true)/\((g=true->g=true)/\((g=true->g=true)/\(R)))):=⟨id,⟨id,⟨id,⟨id,r⟩⟩⟩⟩
theorem zG{R:Prop}(g:Bool)(r:R):(g=true->g=true)/\((g=true->g=true)/\((g=true->g=true)/\((g=true->g=true)/\((g=true->g=true)/\(R))))):=⟨id,⟨id,⟨id,⟨id,⟨id,r⟩⟩⟩⟩⟩
theorem xO{R:Prop}(g:Bool)(r:R):(g=true->g=true)/\((g=true->g=true)/\((g=true->g=true)/\((g=true->g=true)/\((g=true->g=true)/\((g=true->g=true)/\(R)))))):=⟨id,⟨id,⟨id,⟨id,⟨id,⟨id,r⟩⟩⟩⟩⟩⟩
theorem gI7{R:Prop}(g:Bool)(r:R):(g=true->g=true)/\((g=true->g=true)/\((g=true->g=true)/\((g=true->g=true)/\((g=true->g=true)/\((g=true->g=true)/\((g=true->g=true)/\(R))))))):=⟨id,⟨id,⟨id,⟨id,⟨id,⟨id,⟨id,r⟩⟩⟩⟩⟩⟩⟩
theorem gI8{R:Prop}(g:Bool)(r:R):(g=true->g=true)/\((g=true->g=true)/\((g=true->g=true)/\((g=true->g=true)/\((g=true->g=true)/\((g=true->g=true)/\((g=true->g=true)/\((g=true->g=true)/\(R)))))))):=⟨id,⟨id,⟨id,⟨id,⟨id,⟨id,⟨id,⟨id,r⟩⟩⟩⟩⟩⟩⟩⟩
theorem gI9{R:Prop}(g:Bool)(r:R):(g=true->g=true)/\((g=true->g=true)/\((g=true->g=true)/\((g=true->g=true)/\((g=true->g=true)/\((g=true->g=true)/\((g=true->g=true)/\((g=true->g=true)/\((g=true->g=true)/\(R))))))))):=⟨id,⟨id,⟨id,⟨id,⟨id,⟨id,⟨id,⟨id,⟨id,r⟩⟩⟩⟩⟩⟩⟩⟩⟩
theorem YV{p0 p1 R:Prop}(a0:p0)(a1:p1)(r:R):p0/\p1/\R:=⟨a0,a1,r⟩
theorem c2{p0 p1:Prop}(a0:p0)(a1:p1):p0/\p1/\True:=⟨a0,a1,trivial⟩
theorem YW{p0 p1 p2 R:Prop}(a0:p0)(a1:p1)(a2:p2)(r:R):p0/\p1/\p2/\R:=⟨a0,a1,a2,r⟩
theorem c3{p0 p1 p2:Prop}(a0:p0)(a1:p1)(a2:p2):p0/\p1/\p2/\True:=⟨a0,a1,a2,trivial⟩
theorem d4_{p0 p1 p2 p3 R:Prop}(a0:p0)(a1:p1)(a2:p2)(a3:p3)(r:R):p0/\p1/\p2/\p3/\R:=⟨a0,a1,a2,a3,r⟩
theorem c4{p0 p1 p2 p3:Prop}(a0:p0)(a1:p1)(a2:p2)(a3:p3):p0/\p1/\p2/\p3/\True:=⟨a0,a1,a2,a3,trivial⟩
theorem d5_{p0 p1 p2 p3 p4 R:Prop}(a0:p0)(a1:p1)(a2:p2)(a3:p3)(a4:p4)(r:R):p0/\p1/\p2/\p3/\p4/\R:=⟨a0,a1,a2,a3,a4,r⟩
theorem c5{p0 p1 p2 p3 p4:Prop}(a0:p0)(a1:p1)(a2:p2)(a3:p3)(a4:p4):p0/\p1/\p2/\p3/\p4/\True:=⟨a0,a1,a2,a3,a4,trivial⟩
theorem c6{p0 p1 p2 p3 p4 p5:Prop}(a0:p0)(a1:p1)(a2:p2)(a3:p3)(a4:p4)(a5:p5):p0/\p1/\p2/\p3/\p4/\p5/\True:=⟨a0,a1,a2,a3,a4,a5,trivial⟩
theorem c7{p0 p1 p2 p3 p4 p5 p6:Prop}(a0:p0)(a1:p1)(a2:p2)(a3:p3)(a4:p4)(a5:p5)(a6:p6):p0/\p1/\p2/\p3/\p4/\p5/\p6/\True:=⟨a0,a1,a2,a3,a4,a5,a6,trivial⟩
theorem d8_{p0 p1 p2 p3 p4 p5 p6 p7 R:Prop}(a0:p0)(a1:p1)(a2:p2)(a3:p3)(a4:p4)(a5:p5)(a6:p6)(a7:p7)(r:R):p0/\p1/\p2/\p3/\p4/\p5/\p6/\p7/\R:=⟨a0,a1,a2,a3,a4,a5,a6,a7,r⟩
theorem c8{p0 p1 p2 p3 p4 p5 p6 p7:Prop}(a0:p0)(a1:p1)(a2:p2)(a3:p3)(a4:p4)(a5:p5)(a6:p6)(a7:p7):p0/\p1/\p2/\p3/\p4/\p5/\p6/\p7/\True:=⟨a0,a1,a2,a3,a4,a5,a6,a7,trivial⟩
theorem d9_{p0 p1 p2 p3 p4 p5 p6 p7 p8 R:Prop}(a0:p0)(a1:p1)(a2:p2)(a3:p3)(a4:p4)(a5:p5)(a6:p6)(a7:p7)(a8:p8)(r:R):p0/\p1/\p2/\p3/\p4/\p5/\p6/\p7/\p8/\R:=⟨a0,a1,a2,a3,a4,a5,a6,a7,a8,r⟩
theorem c9{p0 p1 p2 p3 p4 p5 p6 p7 p8:Prop}(a0:p0)(a1:p1)(a2:p2)(a3:p3)(a4:p4)(a5:p5)(a6:p6)(a7:p7)(a8:p8):p0/\p1/\p2/\p3/\p4/\p5/\p6/\p7/\p8/\True:=⟨a0,a1,a2,a3,a4,a5,a6,a7,a8,trivial⟩
open Go.Shelf
def insRen:Go.Shelf.Ren:=⟨fun|21=>168|27=>200|28=>201|35=>229|39=>176|n=>n,fun|22=>22|n=>n,fun|n=>n⟩
theorem JY:Go.Proofs.Lays2.n21 Tryz.prog insRen:={
 mixed:=by kernel_rfl
 f21:=Tryz.func168.trans (Bv _ (by kernel_rfl))
 f27:=Tryz.func200.trans (Bv _ (by kernel_rfl))
 f28:=Tryz.func201.trans (Bv _ (by kernel_rfl))
 f35:=Tryz.func229.trans (Bv _ (by kernel_rfl))
 f39:=Tryz.func176.trans (Bv _ (by kernel_rfl))
 t0:=Tryz.underlying0
 a0:=Tryz.isAgg0
 z0:=Tryz.sizeOf0
 v0:=Tryz.zeroValue0
 t3:=Tryz.underlying3
 a3:=Tryz.isAgg3
 z3:=Tryz.sizeOf3
 v3:=Tryz.zeroValue3
 t4:=Tryz.underlying4
 a4:=Tryz.isAgg4
 z4:=Tryz.sizeOf4
 v4:=Tryz.zeroValue4
 t22:=Tryz.underlying22
 a22:=Tryz.isAgg22
 z22:=Tryz.sizeOf22
 v22:=Tryz.zeroValue22
 i3:=by kernel_rfl }
def WY(w:World)(g c:Nat):Prop:=∃ cur,w.heap[g]?=some (.cells cur 3 (0,0))/\cur.size=c
structure Lk(w w':World)(g:Nat):Prop where
 os:w'.os=w.os
 tape:w'.tape=w.tape
 output:w'.output=w.output
 drawn:w.drawn<=w'.drawn
 size:w.heap.size<=w'.heap.size
 other:∀ b,b<w.heap.size->b≠g->w'.heap[b]?=w.heap[b]?
 blk:∀ c,WY w g c->WY w' g c
theorem Lk.refl(w:World)(g:Nat):Lk w w g:=⟨rfl,rfl,rfl,zzL7 _,zzL7 _,λ_ _ _=>rfl,λ_ h=>h⟩
theorem Lk.trans{w w' w'':World}{g:Nat}(h:Lk w w' g)(k:Lk w' w'' g):Lk w w'' g:=
 ⟨k.os.trans h.os,k.tape.trans h.tape,k.output.trans h.output,Qt h.drawn k.drawn,Qt h.size k.size,λb hb hn=>(k.other b (Nat.lt_of_lt_of_le hb h.size) hn).trans (h.other b hb hn),λc hc=>k.blk c (h.blk c hc)⟩
theorem FN(w:World)(g:Nat):Lk w w.drew g:=⟨rfl,rfl,rfl,Nat.le_succ _,zzL7 _,λ_ _ _=>rfl,λ_ h=>h⟩
theorem vi(w:World)(g o:Nat)(v:Value):Lk w (w.setCell ⟨g,o,none⟩ v) g:=
 ⟨rfl,rfl,rfl,zzL7 _,by simp[World.setCell],λb _ hn=>Below.heap_setCell w _ v b hn,λc ⟨cur,h1,h2⟩=>⟨_,heap_setCell_same w g o cur 3 v h1,by simpa using h2⟩⟩
theorem Xx(g:Nat):∀(vs:List Value) (o:Nat) (w:World),Lk w (w.setCells g o vs) g
 | [],_,w=>.refl w g
 | v::r,o,w=>(vi w g o v).trans (Xx g r _ _)
theorem SM{w:World}{ob:Obj}{g:Nat}(hg:w.heap.size<=g):Lk w (w.alloc ob) g:=
 ⟨rfl,rfl,rfl,zzL7 _,by  simp,λb hb _=>by show(w.heap.push ob)[b]?=_;rw[Array.getElem?_push,if_neg (Nat.ne_of_lt hb)],λc ⟨cur,h1,_⟩=>by
  grind⟩
theorem LQ{w:World}(cs:Array Value):WY (w.alloc (.cells cs 3)) w.heap.size cs.size:=⟨cs,HB w _,rfl⟩
theorem bX(vs:List Value)(Z:Array Value){j:Nat}(h:j<vs.length):(vs.toArray++Z)[j]?=vs[j]?:=by
 grind
theorem Uq(l:List Int){j:Nat}(h:j<l.length):(l.map (Value.int .i64))[j]?=some (.int .i64 (l.getD j 0)):=by simp[ h]
theorem RN{w:World}{g c j:Nat}(h:WY w g c)(hj:j<c):(w.cell? ⟨g,j,none⟩).isSome=true:=by
 obtain⟨cur,h1,h2⟩:=h;rw[On _ _ _ cur 3 _ h1,Array.getElem?_eq_getElem (by omega)];rfl
theorem QR{w:World}{g c:Nat}(h:WY w g c)(j:Nat):w.frozen? ⟨g,j,none⟩=false:=by
 obtain⟨cur,h1,h2⟩:=h;simp[World.frozen?,h1]
theorem CS{w:World}{g c o:Nat}{vs:List Value}(hB:WY w g c)(ho:o+vs.length<=c)(j:Nat) :
  (w.setCells g o vs).cell? ⟨g,j,none⟩=if o<=j/\j<o+vs.length then vs[j-o]? else w.cell? ⟨g,j,none⟩:=by
 split
 ·obtain⟨i,rfl⟩:∃ i,j=o+i:=⟨j-o,by omega⟩;rw[World.cell?_setCells_in g vs o w (λi hi=>RN hB (by omega)) i _,Nat.add_sub_cancel_left,PG (by omega)]
 ·exact World.cell?_setCells_out g vs o w _ (λ_ _=>by grind)
def EG(l:List Int)(i:Int)(v:List Int):Option (List Int×List Int×List Int):=
 Ax (0<=i/\i<=l.length/\0<v.length/\l.length+v.length<=room) (some (l.take i.toNat++v++l.drop i.toNat,l.take i.toNat++v++l.drop i.toNat,v))
theorem kw{l:List Int}{j:Nat}{u:Value}(h:(l.map (Value.int .i64))[j]?=some u):j<l.length/\u = .int .i64 (l.getD j 0):=by
 grind
theorem fU(l:List Int):∀ v∈l.map (Value.int .i64),v.oneCell'=true:=by
 intro v hv;obtain⟨x,_,rfl⟩:=zzL21.1 hv
 rfl
section
variable {I:Nat->Nat->Prop} {own:Nat->Option Own} {θ:Nat->Option (Nat×Nat)} {w w':World}
theorem rowI_at(hrel:Kr I own θ w){nm n:Nat}{f:Nat->List AV}{v:Value}{l:List Int}(hl:l.length=n)(ho:own nm=some (.arr 1 3 n f))(hf:∀ k,k<n->f k=[.int .i64 (l.getD k 0)])(h:Rep I own θ w v (.vsl nm n)) :
  (θ nm=none/\l=[]/\∃ a,v = .slice a 0 0)\/∃ g c,θ nm=some (g,c)/\v = .slice (some ⟨g,0,none⟩) n c/\n<=c/\c<=maxLen/\WY w g c/\(∀ j,j<n->w.cell? ⟨g,j,none⟩=some (.int .i64 (l.getD j 0)))/\∀ j,¬ I g j:=by
 obtain⟨sz,e2,m,f2,ad,cap,rfl,ho2,hm,hcap,hmax,hn,hv⟩:=h.vsl_inv;rw[ho]at ho2;obtain⟨rfl,rfl,rfl,rfl⟩:=ho2;have hv:=hv rfl;obtain⟨k1,k2⟩:=hrel.arr nm _ _ _ _ ho
 cases hθ:θ nm with
 | none=>
  grind
 | some gc=>
  obtain⟨g,c⟩:=gc;rw[hθ]at hv;obtain⟨rfl,rfl⟩:=hv;obtain⟨cur,q1,q2,q3,q4,q5,q6,q7⟩:=k2 g cap hθ;rw[Xg]at q4;refine .inr ⟨g,cap,rfl,rfl,q2,q3,⟨cur,q1,q4⟩,λj hj=>?_,q7⟩;obtain⟨_,q⟩:=q6 j 0 hj (by omega);rw[hf j hj,Xg,V3]at q;have q:=Rep.int_inv q;rw[On _ _ _ cur 3 _ q1,<- q];simp only[Uk];rw[Array.getElem?_eq_getElem (by omega)]
  rfl
theorem ib(hrel:Kr I own θ w)(hval:∀ b o,I b o->∃ u,w.cell? ⟨b,o,none⟩=some u){nm n:Nat}{f:Nat->List AV}(ho:own nm=some (.arr 1 3 n f)){r:List Int}(hn:n<r.length){g c:Nat}(hc:r.length<=c)(hm:c<=maxLen)
  (hlk:Lk w w' g) (hblk:WY w' g c) (hcell:∀ j,j<r.length->w'.cell? ⟨g,j,none⟩=some (.int .i64 (r.getD j 0))) (hI:∀ j,¬ I g j) (hg:w.heap.size<=g\/∃ c',θ nm=some (g,c')) :
  ∃ v θ',Value.slice (some ⟨g,0,none⟩) r.length c=v/\Chg own θ I w (A0 own nm (.arr 1 3 r.length (λi=>[.int .i64 (r.getD i 0)]))) θ' I w'/\Rep I (A0 own nm (.arr 1 3 r.length (λi=>[.int .i64 (r.getD i 0)]))) θ' w' v (.vsl nm r.length):=by
 have hoth:∀ b o,I b o->w'.cell? _=w.cell? ⟨b,o,none⟩:=λb o hi=>by
  obtain⟨u,hu⟩:=hval b o hi;exact PH  (hlk.other b (Ri hu) (λe=>hI o (e▸hi)))
 have hk:=Oo     (f':=λi=>[.int _ (r.getD i 0)]) (t':=some _)  hrel hval hoth (.inr ⟨n,f,ho,Nat.le_of_lt hn,λh=>by omega⟩)
  (λb hb hne=>hlk.other b hb (λe=>by
   grind)) hlk.os hlk.tape hlk.output hlk.size (λhh=>by cases hh)
  (λg' c' hh=>by
   obtain⟨rfl,rfl⟩:=Prod.mk.inj (OI hh);obtain⟨cur,h1,h2⟩:=hblk;refine⟨cur,h1,hc,hm,by rw[h2,Xg],λ_ _=>rfl,λi j hi hj=>?_,hI⟩
   obtain rfl:j=0:=by omega
   have:=hcell i hi;rw[On _ _ _ cur 3 _ h1]at this;rw[Xg,V3,Uk,this]
   exact⟨rfl,λ_=>.val _ _ (.int _ _)⟩)
  (λg' c' hh=>by
   grind) hlk.drawn
 exact⟨_,_,rfl,hk,.vsl nm 1 3 _ (λi=>[.int .i64 (r.getD i 0)]) _ _ c (by simp only[A0,Nd]) (zzL7 _) hc hm (λhh=>by cases hh) (λ_=>by simp[thUp])⟩
end
set_option maxHeartbeats 1000000 in
theorem US(l:List Int)(i:Int)(v:List Int)(r:List Int×List Int×List Int)(h:EG l i v=some r)(f:Nat->List AV)(hf:∀ k,k<v.length->f k=[.int .i64 (v.getD k 0)]) :
  Spec Tryz.prog 168 [.vsl 34000 l.length,.int .i64 i,.vsl 34002 v.length] [(34000,.arr 1 3 l.length (λi=>[.int .i64 (l.getD i 0)])),(34002,.arr 1 3 v.length f)] (.vsl 34000 r.2.1.length)
   [(34000,.arr 1 3 r.2.1.length (λi=>[.int .i64 (r.2.1.getD i 0)])),(34002,.arr 1 3 r.2.2.length (λi=>[.int .i64 (r.2.2.getD i 0)]))]:=by
 obtain⟨⟨hi0,hin,hm,hroom⟩,h⟩:=Tk h;obtain rfl:=OI h;unfold room at hroom;obtain⟨k,rfl⟩:=Int.eq_ofNat_of_zero_le hi0
 have hkn:k<=l.length:=by omega
 simp only[Cr];refine⟨enters_of Tryz.func168 (by kernel_rfl) rfl,λw I θ zs hargs hrel hval _=>?_⟩;obtain⟨zs⟩:=zs
 cases hargs with|cons h1 t=>cases t with|cons h2 t=>cases t with|cons h3 t=>cases t with|nil=>
 obtain rfl:=Rep.int_inv h2;rcases rowI_at hrel (l:=v) rfl rfl hf h3 with⟨_,h,_⟩|⟨vg,vc,hvθ,rfl,hvc,_,⟨vcur,hvh,hvs'⟩,hvcell,hvI⟩
 ·rw[h]at hm;cases hm
 have hvs:∀(W:World),(∀ o,W.cell? ⟨vg,o,none⟩=w.cell? ⟨vg,o,none⟩)->∀ j u,(v.map (Value.int .i64))[j]?=some u->W.cell? ⟨vg,0+j,none⟩=some u:=λW hW j u hj=>by
  obtain⟨h1,rfl⟩:=kw hj;rw[Ie,hW,hvcell j h1]
 generalize hr:l.take k++v++l.drop k=r
 have hrl:r.length=l.length+v.length:=by rw[<- hr];simp;omega
 have hr1:∀ j,j<k->r.getD j 0=l.getD j 0:=λj hj=>by rw[<- hr];simp only[List.getD];rw[LC,Wu (by simp;omega),List.getElem?_take_of_lt hj]
 have hr2:∀ j,j<v.length->r.getD (k+j) 0=v.getD j 0:=λj hj=>by
  rw[<- hr];simp only[List.getD];rw[LC,Wt (by simp;omega),Wu (by simp;omega)];congr 2;simp;omega
 have hr3:∀ j,k+v.length<=j->r.getD j 0=l.getD (j-v.length) 0:=λj hj=>by
  rw[<- hr];simp only[List.getD];rw[Wt (by simp;omega),UU];congr 2;simp;omega
 obtain⟨own1,hown1⟩:∃ o,o=A0 (Ai [(34000,Own.arr 1 3 l.length (λi=>[.int .i64 (l.getD i 0)])),(34002,Own.arr 1 3 v.length f)]) 34002 (.arr 1 3 v.length (λi=>[.int .i64 (v.getD i 0)])):=⟨_,rfl⟩
 have hk1:Chg (Ai [(34000,Own.arr 1 3 l.length (λi=>[.int .i64 (l.getD i 0)])),(34002,Own.arr 1 3 v.length f)]) θ I w own1 θ I w:=by
  have:=Oo (nm:=34002) (s:=1) (e:=3) (m':=v.length) (f':=λi=>[.int .i64 (v.getD i 0)]) (t':=some (vg,vc)) (w':=w) hrel hval (λ_ _ _=>rfl) (.inr ⟨v.length,f,rfl,zzL7 _,λ_=>hvθ.symm⟩)
   (λ_ _ _=>rfl) rfl rfl rfl (zzL7 _) (λhh=>by cases hh)
   (λg' c' hh=>by
    obtain⟨rfl,rfl⟩:=Prod.mk.inj (OI hh);refine⟨vcur,hvh,hvc,‹_›,by rw[hvs',Xg],λ_ _=>rfl,λi j hi hj=>?_,hvI⟩
    obtain rfl:j=0:=by omega
    have:=hvcell i hi;rw[On _ _ _ vcur 3 (0,0) hvh]at this;rw[Xg,V3,Uk,this]
    exact⟨rfl,λ_=>.val _ _ (.int _ _)⟩)
   (λg' c' hh=>by
    obtain⟨rfl,rfl⟩:=Prod.mk.inj (OI hh)
    exact .inr ⟨(λhh=>by cases hh),vc,hvθ⟩)
  rw[FY hvθ]at this;rw[hown1];exact this
 have ho0:own1 34000=some (.arr 1 3 l.length (λi=>[.int .i64 (l.getD i 0)])):=by rw[hown1];rfl
 have ho2:own1 34002≠none:=by rw[hown1];intro hh;cases hh
 have hH:∀ x,A0 own1 34000 (.arr 1 3 r.length x)=Ai [(34000,Own.arr 1 3 r.length x),(34002,Own.arr 1 3 v.length (λi=>[.int .i64 (v.getD i 0)]))]:=λx=>by
  rw[hown1]
  funext nm
  simp only[A0,Ai]
  by_cases h1:nm=34000
  ·subst h1;rfl
  ·by_cases h2:nm=34002
   ·subst h2;rfl
   ·have e1:Nat.beq 34000 nm=false:=by cases e:Nat.beq 34000 nm;rfl;exact absurd (Ej e).symm h1
    have e2:Nat.beq 34002 nm=false:=by cases e:Nat.beq 34002 nm;rfl;exact absurd (Ej e).symm h2
    simp[h1,h2,e1,e2]
 have fin:∀(g c:Nat) (w':World) (e:Ending),r.length<=c->c<=maxLen->Lk w w' g->WY w' g c->(∀ j,j<r.length->w'.cell? ⟨g,j,none⟩=some (.int .i64 (r.getD j 0)))->(∀ j,¬ I g j)->(w.heap.size<=g\/∃ c',θ 34000=some (g,c'))->e = .returned (.slice (some ⟨g,0,none⟩) (l.length+v.length) c)->
   ∃ v' I' θ',e = .returned v'/\Chg (Ai [(34000,Own.arr 1 3 l.length (λi=>[.int .i64 (l.getD i 0)])),(34002,Own.arr 1 3 v.length f)]) θ I w (Ai [(34000,Own.arr 1 3 r.length (λi=>[.int .i64 (r.getD i 0)])),(34002,Own.arr 1 3 v.length (λi=>[.int .i64 (v.getD i 0)]))]) θ' I' w' /\
    Rep I' (Ai [(34000,Own.arr 1 3 r.length (λi=>[.int .i64 (r.getD i 0)])),(34002,Own.arr 1 3 v.length (λi=>[.int .i64 (v.getD i 0)]))]) θ' w' v' (.vsl 34000 r.length):=by
  intro g c w' e hc hmx hlk hblk hcell hI hg he;obtain⟨v',θ',e1,e2,e3⟩:=ib (r:=r) hk1.rel hk1.valid ho0 (by omega) hc hmx hlk hblk hcell hI hg;rw[hH]at e2 e3;exact⟨v',I,θ',by rw[he,<- e1,hrl],hk1.trans e2,e3⟩
 have hNI:∀ j,¬ I w.heap.size j:=λj hj=>by
  obtain⟨u,hu⟩:=hval _ _ hj;have:=Ri hu;simp at this
 have h1v:=fU v;have hvl:(v.map (Value.int .i64)).length=v.length:=Ns ..
 have hbig:(l.length+v.length)*8<=140737488355328:=by omega
 rcases rowI_at hk1.rel rfl ho0 (λ_ _=>rfl) (h1.mono (λ_ _ h=>h) (λ_ _ _=>rfl) hk1.le) with⟨_,rfl,a,rfl⟩|⟨g,c,hθ,rfl,hc,hcm,hB,hcell,hI⟩
 ·
  obtain rfl:k=0:=by simp at hkn;omega
  refine(Any2.slices_Insert_int_end_grow JY a 0 0 vg 0 v.length vc [] (v.map (Value.int .i64)) w hm (zzL7 _) (by omega) (by simpa using hbig) rfl hvl (λ_=>rfl) (λ_ _ _ _ h=>by simp at h) (hvs w λ_=>rfl) h1v).mono λe w' ⟨he,hw⟩=>?_;subst hw;have hG:=grownCap_ge w (0+v.length) 0 (insRen.t 3);have hGm:grownCap w (0+v.length) 0 (insRen.t 3)<=maxLen:=grownCap_le_maxLen _ _ _ _ (by unfold maxLen;omega);simp only[List.length_nil]at he ⊢ hrl
  generalize grownCap w (0+v.length) 0 (insRen.t 3)=G at hG hGm he ⊢
  refine fin w.heap.size G _ e (by omega) hGm ((FN w _).trans (SM (zzL7 _))) ?_ (λj hj=>?_) hNI (.inl (zzL7 _)) he
  ·have:=LQ (w:=w.drew) (([]++v.map (Value.int .i64)).toArray++Builtin.zeroCells (Value.int .i64 0).cells (G-(0+v.length)))
   have e:(([]++v.map (Value.int .i64)).toArray++Builtin.zeroCells (Value.int .i64 0).cells (G-(0+v.length))).size=G:=by
    simp[Builtin.zeroCells,Value.cells];omega
   rw[e]at this;exact this
  ·have e:=World.cell?_alloc_at (w:=w.drew) (([]++v.map (Value.int .i64)).toArray++Builtin.zeroCells (Value.int .i64 0).cells (G-(0+v.length))) (insRen.t 3) w.heap.size j rfl;rw[e,Um,bX _ _ (by rw[hvl];omega),Uq _ (by omega)];have:=hr2 j (by omega);rw[Ie]at this;rw[this]
 ·have hcl:(l.map (Value.int .i64)).length=l.length:=Ns ..;have h1c:=fU l
  have hc63:c<=9223372036854775807:=by unfold maxLen at hcm;exact hcm
  have hcs:∀ j u,(l.map (Value.int .i64))[j]?=some u->w.cell? ⟨g,0+j,none⟩=some u:=λj u hj=>by
   obtain⟨h1,rfl⟩:=kw hj;rw[Ie,hcell j h1]
  have hgv:vg≠g:=λe=>by
   subst e;have:=hrel.inj 34000 34002 vg c vc (by intro hh;cases hh) (by intro hh;cases hh) hθ hvθ
   cases this
  by_cases hroomc:l.length+v.length<=c
  ·by_cases hke:k=l.length
   ·subst hke;refine(Any2.slices_Insert_int_end_room JY g 0 l.length c vg 0 v.length vc (v.map (Value.int .i64)) w hm hroomc hc63 hvl (λj hj=>RN hB (by omega)) (λj hj=>QR hB _) (hvs w λ_=>rfl) h1v).mono λe w' ⟨he,hw⟩=>?_;subst hw;have hlk:=Xx g (v.map (Value.int .i64)) (0+l.length) w;refine fin g c _ e (by omega) hcm hlk (hlk.blk c hB) (λj hj=>?_) hI (.inr ⟨c,hθ⟩) he;rw[CS hB (by rw[hvl];omega),hvl]
    split
    ·rw[Uq _ (by omega),<- hr2 _ (by omega)];congr 3;omega
    ·rw[hcell j (by omega),hr1 j (by omega)]
   ·refine(Any2.slices_Insert_int_shift JY g 0 l.length c k vg 0 v.length vc (l.map (Value.int .i64)) (v.map (Value.int .i64)) w (by omega) hm hroomc hc63 hgv hcl hvl hcs (λj hj=>RN hB (by omega)) (λj hj=>QR hB _) (hvs w λ_=>rfl) h1c h1v
     3 3 vc c ?_ ?_ (by omega) ?_ ?_).mono λe w' ⟨he,hw⟩=>?_
    ·simp[World.shape?,hvh,hvs']
    ·obtain⟨cur,q1,q2⟩:=hB;simp[World.shape?,q1,q2]
    ·exact QR ⟨vcur,hvh,hvs'⟩ _
    ·exact QR ⟨vcur,hvh,hvs'⟩ _
    subst hw;have hl1:=(FN w g).trans (Xx g ((l.map (Value.int .i64)).drop k) (0+(k+v.length)) w.drew);have hB0:=(FN w g).blk c hB;have hB1:=hl1.blk c hB;have hl2:=hl1.trans (Xx g (v.map (Value.int .i64)) (0+k) _);refine fin g c _ e (by omega) hcm hl2 (hl2.blk c hB) (λj hj=>?_) hI (.inr ⟨c,hθ⟩) he;rw[CS hB1 (by rw[hvl];omega),hvl,CS hB0 (by rw[EM,hcl];omega),EM,hcl]
    split
    ·rw[Uq _ (by omega),<- hr2 _ (by omega)];congr 3;omega
    ·split
     ·rw[UU,Uq _ (by omega),hr3 j (by omega)];congr 3;omega
     ·show w.cell? _=_
      rw[hcell j (by omega),hr1 j (by omega)]
  ·have hG:=grownCap_ge w (l.length+v.length) c (insRen.t 3);have hGm:grownCap w (l.length+v.length) c (insRen.t 3)<=maxLen:=grownCap_le_maxLen _ _ _ _ (by unfold maxLen;omega)
   by_cases hke:k=l.length
   ·subst hke
    refine(Any2.slices_Insert_int_end_grow JY (some ⟨g,0,none⟩) l.length c vg 0 v.length vc (l.map (Value.int .i64)) (v.map (Value.int .i64)) w hm hc (by omega) hbig hcl hvl (λh=>by cases h) (λa ha j u hj=>by
     obtain rfl:=OI ha
     rw[T0];exact hcs j u hj) (hvs w λ_=>rfl) h1v).mono λe w' ⟨he,hw⟩=>?_
    subst hw
    generalize grownCap w (l.length+v.length) c (insRen.t 3)=G at hG hGm he ⊢
    refine fin w.heap.size G _ e (by omega) hGm ((FN w _).trans (SM (zzL7 _))) ?_ (λj hj=>?_) hNI (.inl (zzL7 _)) he
    ·have:=LQ (w:=w.drew) ((l.map (Value.int .i64)++v.map (Value.int .i64)).toArray++Builtin.zeroCells (Value.int .i64 0).cells (G-(l.length+v.length)))
     have e:((l.map (Value.int .i64)++v.map (Value.int .i64)).toArray++Builtin.zeroCells (Value.int .i64 0).cells (G-(l.length+v.length))).size=G:=by
      simp[Builtin.zeroCells,Value.cells];omega
     rw[e]at this;exact this
    ·have e:=World.cell?_alloc_at (w:=w.drew) ((l.map (Value.int .i64)++v.map (Value.int .i64)).toArray++Builtin.zeroCells (Value.int .i64 0).cells (G-(l.length+v.length))) (insRen.t 3) w.heap.size j rfl;rw[e,bX _ _ (by rw[G3,hcl,hvl];omega)]
     by_cases hj1:j<l.length
     ·rw[Wu (by omega),Uq _ hj1,hr1 j hj1]
     ·rw[Wt (by omega),hcl,Uq _ (by omega),<- hr2 _ (by omega)];congr 3;omega
   ·refine(Any2.slices_Insert_int_grow JY g 0 l.length c k vg 0 v.length vc (l.map (Value.int .i64)) (v.map (Value.int .i64)) w (by omega) hm hc (by omega) hbig hcl hvl hcs (hvs w λ_=>rfl) h1c h1v).mono λe w' ⟨he,hw⟩=>?_;subst hw
    generalize grownCap w (l.length+v.length) c (insRen.t 3)=G at hG hGm he ⊢
    generalize hA:((l.map (Value.int .i64)).take k).toArray++Builtin.zeroCells (Value.int .i64 0).cells (l.length+v.length-k)++Builtin.zeroCells (Value.int .i64 0).cells (G-(l.length+v.length))=A
    have hAs:A.size=G:=by rw[<- hA];simp[Builtin.zeroCells,Value.cells];omega
    have b0:WY (w.alloc (.cells A 3)) w.heap.size G:=by have:=LQ (w:=w) A;rwa[hAs]at this
    have k0:Lk w (w.alloc (.cells A 3)) w.heap.size:=SM (zzL7 _);have k1:=(FN (w.alloc (.cells A 3)) w.heap.size);have b1:=k1.blk G b0;have k2:=Xx w.heap.size (v.map (Value.int .i64)) k (w.alloc (.cells A 3)).drew;have b2:=k2.blk G b1;have k3:=FN ((w.alloc (.cells A 3)).drew.setCells w.heap.size k (v.map (Value.int .i64))) w.heap.size;have b3:=k3.blk G b2;have k4:=Xx w.heap.size ((l.map (Value.int .i64)).drop k) (k+v.length) ((w.alloc (.cells A 3)).drew.setCells w.heap.size k (v.map (Value.int .i64))).drew;refine fin w.heap.size G _ e (by omega) hGm ((((k0.trans k1).trans k2).trans k3).trans k4) (k4.blk G b3) (λj hj=>?_) hNI (.inl (zzL7 _)) he
    show(((w.alloc (Obj.cells A 3)).drew.setCells w.heap.size k (v.map (Value.int .i64))).drew.setCells w.heap.size (k+v.length) ((l.map (Value.int .i64)).drop k)).cell? ⟨w.heap.size,j,none⟩=_
    rw[CS b3 (by rw[EM,hcl];omega),EM,hcl]
    split
    ·rw[UU,Uq _ (by omega),hr3 j (by omega)];congr 3;omega
    ·show((w.alloc (Obj.cells A 3)).drew.setCells w.heap.size k (v.map (Value.int .i64))).cell? ⟨w.heap.size,j,none⟩=_
     rw[CS b1 (by rw[hvl];omega),hvl]
     split
     ·rw[Uq _ (by omega),<- hr2 _ (by omega)];congr 3;omega
     ·have e:=World.cell?_alloc_at (w:=w) A 3 w.heap.size j rfl
      show(w.alloc (.cells A 3)).cell? _=_
      rw[e,<- hA,Array.append_assoc,bX _ _ (by rw[LD,hcl];omega),List.getElem?_take_of_lt (by omega),Uq _ (by omega),hr1 j (by omega)]
def eY:Go.Shelf.Ren:=⟨fun|189=>172|125=>203|257=>202|128=>238|129=>239|294=>230|295=>231|296=>232|297=>233|298=>234|299=>235|216=>198|300=>236|301=>237|328=>249|329=>250|330=>251|331=>252|332=>253|215=>228|343=>258|n=>n,fun|28=>22|3=>3|46=>220|0=>0|51=>233|53=>49|4=>4|183=>246|182=>245|131=>208|5=>5|9=>9|218=>254|222=>258|228=>262|229=>145|n=>n,fun|n=>n⟩
theorem lD:Go.Proofs.Lays.n189 Tryz.prog eY:={
 mixed:=by kernel_rfl
 f125:=Tryz.func203.trans (Bv some (by kernel_rfl))
 f128:=Tryz.func238.trans (Bv some (by kernel_rfl))
 f129:=Tryz.func239.trans (Bv some (by kernel_rfl))
 f189:=Tryz.func172.trans (Bv some (by kernel_rfl))
 f215:=Tryz.func228.trans (Bv some (by kernel_rfl))
 f216:=Tryz.func198.trans (Bv some (by kernel_rfl))
 f257:=Tryz.func202.trans (Bv some (by kernel_rfl))
 f294:=Tryz.func230.trans (Bv some (by kernel_rfl))
 f295:=Tryz.func231.trans (Bv some (by kernel_rfl))
 f296:=Tryz.func232.trans (Bv some (by kernel_rfl))
 f297:=Tryz.func233.trans (Bv some (by kernel_rfl))
 f298:=Tryz.func234.trans (Bv some (by kernel_rfl))
 f299:=Tryz.func235.trans (Bv some (by kernel_rfl))
 f300:=Tryz.func236.trans (Bv some (by kernel_rfl))
 f301:=Tryz.func237.trans (Bv some (by kernel_rfl))
 f328:=Tryz.func249.trans (Bv some (by kernel_rfl))
 f329:=Tryz.func250.trans (Bv some (by kernel_rfl))
 f330:=Tryz.func251.trans (Bv some (by kernel_rfl))
 f331:=Tryz.func252.trans (Bv some (by kernel_rfl))
 f332:=Tryz.func253.trans (Bv some (by kernel_rfl))
 f343:=Tryz.func258.trans (Bv some (by kernel_rfl))
 t0:=Tryz.underlying0
 a0:=Tryz.isAgg0
 z0:=Tryz.sizeOf0
 v0:=Tryz.zeroValue0
 t3:=Tryz.underlying3
 a3:=Tryz.isAgg3
 z3:=Tryz.sizeOf3
 v3:=Tryz.zeroValue3
 t4:=Tryz.underlying4
 a4:=Tryz.isAgg4
 z4:=Tryz.sizeOf4
 v4:=Tryz.zeroValue4
 t5:=Tryz.underlying5
 a5:=Tryz.isAgg5
 z5:=Tryz.sizeOf5
 v5:=Tryz.zeroValue5
 t9:=Tryz.underlying9
 a9:=Tryz.isAgg9
 z9:=Tryz.sizeOf9
 v9:=Tryz.zeroValue9
 t28:=Tryz.underlying22
 a28:=Tryz.isAgg22
 z28:=Tryz.sizeOf22
 v28:=Tryz.zeroValue22
 t46:=Tryz.underlying220
 a46:=Tryz.isAgg220
 z46:=Tryz.sizeOf220
 v46:=Tryz.zeroValue220
 t51:=Tryz.underlying233
 a51:=Tryz.isAgg233
 z51:=Tryz.sizeOf233
 v51:=Tryz.zeroValue233
 t53:=Tryz.underlying49
 a53:=Tryz.isAgg49
 z53:=Tryz.sizeOf49
 v53:=Tryz.zeroValue49
 t131:=Tryz.underlying208
 a131:=Tryz.isAgg208
 z131:=Tryz.sizeOf208
 v131:=Tryz.zeroValue208
 t182:=Tryz.underlying245
 a182:=Tryz.isAgg245
 z182:=Tryz.sizeOf245
 v182:=Tryz.zeroValue245
 t183:=Tryz.underlying246
 a183:=Tryz.isAgg246
 z183:=Tryz.sizeOf246
 v183:=Tryz.zeroValue246
 t218:=Tryz.underlying254
 a218:=Tryz.isAgg254
 z218:=Tryz.sizeOf254
 v218:=Tryz.zeroValue254
 t222:=Tryz.underlying258
 a222:=Tryz.isAgg258
 z222:=Tryz.sizeOf258
 v222:=Tryz.zeroValue258
 t228:=Tryz.underlying262
 a228:=Tryz.isAgg262
 z228:=Tryz.sizeOf262
 v228:=Tryz.zeroValue262
 t229:=Tryz.underlying145
 a229:=Tryz.isAgg145
 z229:=Tryz.sizeOf145
 v229:=Tryz.zeroValue145 }
def XO:Go.Shelf.Ren:=⟨fun|15=>171|n=>n,fun|22=>22|3=>3|4=>4|n=>n,fun|n=>n⟩
theorem MA:Go.Proofs.Lays2.n15 Tryz.prog XO:={
 mixed:=by kernel_rfl
 f15:=Tryz.func171.trans (Bv some (by kernel_rfl))
 t3:=Tryz.underlying3
 a3:=Tryz.isAgg3
 z3:=Tryz.sizeOf3
 v3:=Tryz.zeroValue3
 t4:=Tryz.underlying4
 a4:=Tryz.isAgg4
 z4:=Tryz.sizeOf4
 v4:=Tryz.zeroValue4
 t22:=Tryz.underlying22
 a22:=Tryz.isAgg22
 z22:=Tryz.sizeOf22
 v22:=Tryz.zeroValue22
 i3:=by kernel_rfl }
def XP:Go.Shelf.Ren:=⟨fun|20=>173|n=>n,fun|22=>22|3=>3|4=>4|0=>0|n=>n,fun|n=>n⟩
theorem ZJ:Go.Proofs.Lays2.n20 Tryz.prog XP:={
 mixed:=by kernel_rfl
 f20:=Tryz.func173.trans (Bv some (by kernel_rfl))
 t0:=Tryz.underlying0
 a0:=Tryz.isAgg0
 z0:=Tryz.sizeOf0
 v0:=Tryz.zeroValue0
 t3:=Tryz.underlying3
 a3:=Tryz.isAgg3
 z3:=Tryz.sizeOf3
 v3:=Tryz.zeroValue3
 t4:=Tryz.underlying4
 a4:=Tryz.isAgg4
 z4:=Tryz.sizeOf4
 v4:=Tryz.zeroValue4
 t22:=Tryz.underlying22
 a22:=Tryz.isAgg22
 z22:=Tryz.sizeOf22
 v22:=Tryz.zeroValue22
 i3:=by kernel_rfl }
open Go.Sort
section
variable {I:Nat->Nat->Prop} {θ:Nat->Option (Nat×Nat)} {w w':World}
theorem jJ(I:Nat->Nat->Prop)(θ:Nat->Option (Nat×Nat))(w:World):Kr I (Ai []) θ w:=
 ⟨(λ_ _ _ h=>by cases h),(λ_ _ _ _ h=>by cases h),(λ_ _ _ _ _ h=>(h rfl).elim),(λ_ _ _ _ _ h=>by cases h),(λ_ _ h=>by cases h),(λ_ _ _ h=>by cases h)⟩
theorem rz{own:Nat->Option Own}{zs:Array Value}{x:AV}(h:RepL I own θ w zs.toList [x]):∃ v,zs = #[v]/\Rep I own θ w v x:=by
 obtain⟨l⟩:=zs
 cases h with
 | cons h1 h2=>cases h2;exact⟨_,rfl,h1⟩
theorem GP(hb:Below w.heap.size w w')(hval:∀ b o,I b o->∃ u,w.cell? ⟨b,o,none⟩=some u){N:Nat->Nat->Prop}(hN:∀ b o,N b o->w.heap.size<=b/\∃ u,w'.cell? ⟨b,o,none⟩=some u) :
  Chg (Ai []) θ I w (Ai []) θ (λb o=>I b o\/N b o) w':=
 have hcell:∀ b o,I b o->w'.cell? ⟨b,o,none⟩=w.cell? ⟨b,o,none⟩:=λb o hi=>by
  obtain⟨u,hu⟩:=hval b o hi;exact PH (a:=⟨b,o,none⟩) (hb.block b (Ri hu))
 {imm:=λ_ _ h=>.inl h,cell:=hcell,le:=λ_ _ h=>(by cases h),rel:=jJ _ _ _,
  valid:=λb o hi=>by
   rcases hi with hi|hi
   ·obtain⟨u,hu⟩:=hval b o hi;exact⟨u,(hcell b o hi).trans hu⟩
   ·exact(hN b o hi).2,
  os:=hb.os,tape:=hb.tape,output:=hb.output,drawn:=λh=>h.elim,grow:=hb.size,frame:=λb hlt _=>hb.block b hlt,new:=λ_ _ _ h=>(h rfl).elim,
  immNew:=λb o hi=>by
   rcases hi with hi|hi
   ·exact .inl hi
   ·exact .inr (.inl (hN b o hi).1) }
end
theorem JL{w W:World}{g n:Nat}{os:Array Obj}{d:Array Int}(hb:Below w.heap.size w W)(hg:w.heap.size<=g):Below w.heap.size w (grow (putRow (Value.int .i64) (Sort.ahead W n) g 0 d) os):=by
 have k:=grownBy_sortedI (w:=W) (g:=g) (n:=n) (os:=os) d;refine hb.trans ⟨k.os,k.tape,k.output,k.size,λb hlt=>k.block b (Nat.lt_of_lt_of_le hlt hb.size) (λe=>?_)⟩;have:=OI e;omega
def bN(w W:World)(g cap n:Nat)(zs:List Int):Prop:=
 Below w.heap.size w W/\w.heap.size<=g/\∃ cur,W.heap[g]?=some (.cells cur 3 (0,0))/\n<=cap/\cap<=maxLen/\cur.size=cap/\cur.toList.take zs.length=zs.map (Value.int .i64)/\zs.length=n
theorem lW{w W:World}{v:Value}{n:Nat}{zs:List Int}(h:W.ownsRow w.heap.size 3 1 v n (zs.map (Value.int .i64)))(hne:v≠.slice none 0 0)(hb:Below w.heap.size w W):∃ g cap,v = .slice (some ⟨g,0,none⟩) n cap/\bN w W g cap n zs:=by
 have hl:zs.length=n:=by have:=h.1;simpa using this
 rcases h.2 with⟨rfl,_⟩|⟨g,cap,cur,rfl,hg,hcur,hcap,hmax,hsz,ht⟩
 ·exact(hne rfl).elim
 ·rw[Xg]at hsz ht;exact⟨g,cap,rfl,hb,hg,cur,hcur,hcap,hmax,hsz,by rw[hl];exact ht,hl⟩
theorem qG(ad:Addr)(c:Nat)(w:World):Calls Tryz.prog 171 #[.slice (some ad) 0 c] w λe W=>∃ g cap,e = .returned (.slice (some ⟨g,0,none⟩) 0 cap)/\bN w W g cap 0 []:=
 (Any.slices_Clone_int_zero MA ad c w).mono λe W ⟨v,he,hown,hne,hb⟩=>by
  obtain⟨g,cap,rfl,h⟩:=lW (zs:=[]) hown hne hb;exact⟨g,cap,he,h⟩
theorem vE(b off n c:Nat)(zs:List Int)(w:World)(hz:zs.length=n)(hbig:n<=17592186044416)(hc:∀ j,j<n->w.cell? ⟨b,off+j,none⟩=some (.int .i64 (zs.getD j 0))) :
  Calls Tryz.prog 171 #[.slice (some ⟨b,off,none⟩) n c] w λe W=>∃ g cap,e = .returned (.slice (some ⟨g,0,none⟩) n cap)/\bN w W g cap n zs:=
 (Any.slices_Clone_int MA b off n c zs w (by omega) (by omega) (λj hj=>hc j (by omega))).mono λe W ⟨v,he,hown,hne,hb⟩=>by
  rw[show zs.take n=zs by rw[<- hz];exact VB ..]at hown;obtain⟨g,cap,rfl,h⟩:=lW hown hne hb;exact⟨g,cap,he,h⟩
theorem zA{w W:World}{g cap n:Nat}{zs:List Int}(h:bN w W g cap n zs)(hbig:n<=17592186044416):Calls Tryz.prog 172 #[.slice (some ⟨g,0,none⟩) n cap] W λe W2=>e = .returned (.tuple #[])/\bN w W2 g cap n (zs.mergeSort λx y=>decide (x<=y)):=by
 obtain⟨hb,hg,cur,hcur,hcap,hmax,hsz,ht,rfl⟩:=h;refine(Any.slices_Sort_int lD g 0 cap zs W (holds_of_blockI hcur ht) (JW hcur) (by omega)).mono λe W2 ⟨he,q,os,hW⟩=>⟨he,?_⟩;subst hW;have hl:(zs.mergeSort λx y=>decide (x<=y)).length=zs.length:=List.length_mergeSort ..;have b2:=JL (n:=q) (os:=os) (d:=(zs.mergeSort λx y=>decide (x<=y)).toArray) hb hg;exact⟨b2,hg,_,heap_sortedI _ hcur,hcap,hmax,by simp[putCells,hsz],take_putCellsI cur _ (by omega),hl⟩
theorem m5{w W:World}{g cap n:Nat}{zs:List Int}(h:bN w W g cap n zs)(hbig:n<=17592186044416):Calls Tryz.prog 173 #[.slice (some ⟨g,0,none⟩) n cap] W λe W2=>e = .returned (.slice (some ⟨g,0,none⟩) (Lib.compact zs).length cap)/\bN w W2 g cap (Lib.compact zs).length (Lib.compact zs):=by
 obtain⟨hb,hg,cur,hcur,hcap,hmax,hsz,ht,rfl⟩:=h;refine(Any.slices_Compact_int ZJ g 0 cap zs W (holds_of_blockI hcur ht) (by omega) hcap).mono λe W2 ⟨he,q,hW⟩=>⟨he,?_⟩;subst hW;have hcl:=Lib.compact_length_le zs
 generalize Lib.compact zs=cs at hcl ⊢
 generalize hts:cs++List.replicate (zs.length-cs.length) (0:Int)=ts
 have htl:ts.length=zs.length:=by rw[<- hts,G3,Ty];omega
 have b2:=JL (n:=q) (os:=#[]) (d:=ts.toArray) hb hg;have h2:=heap_sortedI (n:=q) (os:=#[]) ts.toArray hcur;rw[grow_empty]at b2 h2;have h3:=take_putCellsI cur ts (by omega);refine⟨b2,hg,_,h2,by omega,hmax,by simp[putCells,hsz],?_,rfl⟩;have:=Bv (List.take cs.length) h3;rw[List.take_take,Nat.min_eq_left (by omega),<- List.map_take,<- hts,List.take_left' rfl]at this;rw[<- hts];exact this
def tj(w w':World)(v:Value)(r:List Int):Prop:=
 (v = .slice none 0 0/\r=[])\/∃ g cap,v = .slice (some ⟨g,0,none⟩) r.length cap/\bN w w' g cap r.length r
set_option maxHeartbeats 4000000 in
set_option maxRecDepth 100000 in
theorem sT(a:Option Addr)(n c:Nat)(zs:List Int)(w:World)(hz:zs.length=n)(hn:a=none->n=0)(hbig:n<=17592186044416)
  (hc:0<n->∃ b off,a=some ⟨b,off,none⟩/\∀ j,j<n->w.cell? ⟨b,off+j,none⟩=some (.int .i64 (zs.getD j 0))) :
  Calls Tryz.prog 131 #[.slice a n c] w λe w'=>∃ v,e = .returned v/\Below w.heap.size w w'/\tj w w' v (Lib.compact (zs.mergeSort λx y=>decide (x<=y))):=by
 cases a with
 | none=>
  obtain rfl:=hn rfl;obtain rfl:zs=[]:=zzL114.1 hz
  have hr:Lib.compact (([]:List Int).mergeSort λx y=>decide (x<=y))=[]:=by simp[Lib.compact,Lib.compactUpTo]
  rw[hr];have h1:Calls Tryz.prog 171 #[.slice none 0 c] w λe w'=>e = .returned (.slice none 0 0)/\w'=w:=Any.slices_Clone_int_nil MA 0 c w;have h2:Calls Tryz.prog 172 #[.slice none 0 0] w λe w'=>e = .returned (.tuple #[])/\w'=w:=Any.slices_Sort_int_none lD none 0 w;have h3:Calls Tryz.prog 173 #[.slice none 0 0] w λe w'=>e = .returned (.slice none 0 0)/\w'=w:=Any.slices_Compact_int_empty ZJ none 0 w
  go_enter Tryz.func131,Tryz.ntmps131
  go_wp2_with (first
   | (go_at_call 171;refine h1.mono ?_;rintro e W ⟨rfl,rfl⟩)
   | (go_at_call 172;refine h2.mono ?_;rintro e W ⟨rfl,rfl⟩)
   | (go_at_call 173;refine h3.mono ?_;rintro e W ⟨rfl,rfl⟩))
  go_ret
  exact⟨_,rfl,Below.refl _ _,.inl ⟨rfl,rfl⟩⟩
 | some ad=>
  have h1:Calls Tryz.prog 171 #[.slice (some ad) n c] w λe W=>∃ g cap,e = .returned (.slice (some ⟨g,0,none⟩) n cap)/\bN w W g cap n zs:=by
   by_cases h0:n=0
   ·subst h0;obtain rfl:zs=[]:=zzL114.1 hz;exact qG ad c w
   ·obtain⟨b,off,hab,hcell⟩:=hc (by omega);obtain rfl:=OI hab;exact vE b off n c zs w hz hbig hcell
  go_enter Tryz.func131,Tryz.ntmps131
  go_wp2_with (first
   | (go_at_call 171;refine h1.mono ?_;rintro e W ⟨g,cap,rfl,hO⟩)
   | (go_at_call 172;refine(zA hO hbig).mono ?_;rintro e W2 ⟨rfl,hO2⟩)
   | (go_at_call 173;refine(m5 hO2 hbig).mono ?_;rintro e W3 ⟨rfl,hO3⟩))
  go_ret
  exact⟨_,rfl,hO3.1,.inr ⟨_,_,rfl,hO3⟩⟩
def iZ(x:Int):List Int->List Int
 | []=>[x]
 | y::l=>if x<=y then x::y::l else y::iZ x l
def ql:List Int->List Int
 | []=>[]
 | x::l=>iZ x (ql l)
theorem insI_perm(x:Int):∀ l,(iZ x l).Perm (x::l)
 | []=>.refl _
 | y::l=>by
  unfold iZ
  split
  ·exact .refl _
  ·exact((insI_perm x l).cons y).trans (.swap x y l)
theorem lA{x:Int}:∀{l:List Int},l.Pairwise (·<=·)->(iZ x l).Pairwise (·<=·)
 | [],_=>by simp[iZ]
 | y::l,h=>by
  have h':=zzL92.1 h;unfold iZ
  split
  ·rename_i hxy
   exact zzL92.2 ⟨λz hz=>by
    rcases zzL31.1 hz with rfl|hz
    ·exact hxy
    ·exact Int.le_trans hxy (h'.1 z hz),h⟩
  ·rename_i hxy
   refine zzL92.2 ⟨λz hz=>?_,lA h'.2⟩;rcases zzL31.1 ((insI_perm x l).mem_iff.1 hz) with rfl|hz
   ·omega
   ·exact h'.1 z hz
theorem ZH:∀ l,(ql l).Perm l
 | []=>.refl _
 | x::l=>(insI_perm x _).trans ((ZH l).cons x)
theorem lC:∀ l,(ql l).Pairwise (·<=·)
 | []=>.nil
 | x::l=>lA (lC l)
theorem lB(l:List Int):ql l=l.mergeSort λx y=>decide (x<=y):=by
 refine List.Perm.eq_of_pairwise (le:=(·<=·)) (λa b _ _ h1 h2=>Int.le_antisymm h1 h2) (lC l) ?_ ((ZH l).trans (List.mergeSort_perm l _).symm);have:=List.pairwise_mergeSort (le:=λ(x y:Int)=>decide (x<=y)) (λa b c h1 h2=>by simp at *;omega) (λa b=>by simp;omega) l
 exact this.imp λh=>by simpa using h
def LA(l:List Int):Option (List Int):=Ax (l.length<=17592186044416) (some (Lib.compact (ql l)))
theorem jb(l r:List Int)(h:LA l=some r):Spec Tryz.prog 131 [AV.list 1 (λx=>[.int .i64 x]) (0:Int) l .none] [] (AV.list 1 (λx=>[.int .i64 x]) (0:Int) r .none) []:=by
 obtain⟨hlen,h⟩:=Tk h;rw[lB]at h;obtain rfl:=OI h;refine⟨enters_of Tryz.func131 (by kernel_rfl) rfl,λw I θ zs hargs _ hval _=>?_⟩;obtain⟨v,rfl,hv⟩:=rz hargs;obtain⟨_,a,cap,us,rfl,hcap,hmax,hz,hnn,h1,hl,hr⟩:=hv.slice_val.slice_inv
 have hint:∀ i,i<l.length->us i = .int .i64 (l.getD i 0):=λi hi=>by
  have:=hr i 0 hi (by omega);rw[Xg,V3]at this;have h2:RepV I w (us i) (.int .i64 (l.getD i 0)):=this;exact Rep.int_inv (own:=Ai []) (θ:=θ) (.val _ _ h2)
 refine(sT a l.length cap l w rfl (λha=>by have:=hnn ha;omega) hlen (λhp=>?_)).mono λe w' ⟨v,he,hb,hout⟩=>?_
 ·obtain⟨b,rfl,hs,_,hcell⟩:=hz hp;obtain⟨blk,off,spot⟩:=b;simp only at hs hcell;subst hs;exact⟨blk,off,rfl,λj hj=>by rw[hcell j (by omega),hint j hj]⟩
 ·generalize Lib.compact (l.mergeSort λx y=>decide (x<=y))=r at hout ⊢
  rcases hout with⟨rfl,rfl⟩|⟨g,cap',rfl,_,hg,cur,hcur,hc1,hc2,hc3,htake,_⟩
  ·exact⟨_,_,θ,he,GP hb hval (N:=λ_ _=>False) (λ_ _ h=>h.elim),.val _ _ (.slice none 0 0 1 _ (λ_=>undef) (zzL7 _) (Yh _) (λh=>by cases h) (λ_=>rfl) (λj hj=>by simp at hj) (λi hi=>by cases hi) (λi c hi=>by cases hi))⟩
  ·have hcell:∀ j,j<r.length->w'.cell? ⟨g,j,none⟩=some (.int .i64 (r.getD j 0)):=λj hj=>by
    rw[On _ _ _ cur 3 (0,0) hcur]
    have h2:(cur.toList.take r.length)[j]?=(r.map (Value.int .i64))[j]?:=by rw[htake]
    rw[List.getElem?_take_of_lt hj,Array.getElem?_toList]at h2;rw[h2];simp[List.getD,hj]
   refine⟨_,_,θ,he,GP hb hval (N:=λb o=>b=g/\o<r.length) (λb o ⟨hbg,ho⟩=>⟨by omega,by subst hbg;exact⟨_,hcell o ho⟩⟩),.val _ _ (.slice (some ⟨g,0,none⟩) r.length cap' 1 _ (λj=>.int .i64 (r.getD j 0)) hc1 hc2 (λ_=>⟨⟨g,0,none⟩,rfl,rfl,λj hj=>.inr ⟨rfl,by simpa using hj⟩,λj hj=>by rw[Ie];exact hcell j (by omega)⟩) (λh=>by cases h) (λ_ _=>rfl) (λ_ _=>rfl) (λi c hi hc=>?_))⟩
   obtain rfl:c=0:=by omega
   rw[Xg,V3];exact .int _ _
end
end Go.Proofs.YtlnbjgmjaioagaaGreat
