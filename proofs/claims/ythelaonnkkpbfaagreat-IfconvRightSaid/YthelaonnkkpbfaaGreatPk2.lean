/-
  The machine, the program's functions and the laws' arithmetic: part 2 of 6.
-/
import Derived.Test.YthelaonnkkpbfaaGreatPk1
import Derived.BigCall
import Derived.Lib.RowBridge
import Derived.Orders
import Derived.Shelf.Slices.Clone
import Derived.Shelf.Slices.CompactI
import Derived.Shelf.Slices.In.SortNone
import Derived.Shelf.Sort.Plain
import Derived.Shelf.Spec.SlicesInsertGrow
import Derived.Sort.OwnSortedInts
import Derived.Test.YthelaonnkkpbfaaGreatProg
set_option linter.unusedSectionVars false
set_option linter.unusedVariables false
set_option linter.unusedSimpArgs false
namespace Go.Proofs.YthelaonnkkpbfaaGreat
noncomputable section
open Go Go.RowKit
variable {I I':Nat->Nat->Prop}{w w':World}{v:Value}{x y:AV}{own it:Nat->Option Own}{θ θ':Nat->Option (Nat×Nat)}{l H:List (Nat×Own)}{m:List AV}{α:Type}{k n b j i:Nat}{f:FuncId}{ws:List Value}{r:List (Nat×qE)}{es:List (Option Own)}{e:Eff}{γ gd:Bool}{d:Option Nat}{ops:Array Oper}{σ:Sto}{o:Own}{ns:List Nat}
def Spec(P:Program):LG:=λf args H res H'=>
 (∀(az:Array Value) (w:World),(callFunc f az).run P w = .ok (.enter f az) w) /\
 ∀(w:World) (I:Nat->Nat->Prop) (θ:Nat->Option (Nat×Nat)) (az:Array Value),RepL I (Aj H) θ w az.toList args->Kh I (Aj H) θ w->(∀ b o,I b o->∃ u,w.cell? ⟨b,o,none⟩=some u)->GOk I w->
  Calls P f az w λe w'=>∃ v I' θ',e = .returned v/\Chg (Aj H) θ I w (Aj H') θ' I' w'/\Rep I' (Aj H') θ' w' v res
theorem Br(ρ:List (Nat×Nat))(l:List AV):(AV.renAll ρ l).length=l.length:=by induction l with|nil=>rfl|cons x l ih=>simp[AV.renAll,ih]
theorem M6(ρ:List (Nat×Nat))(l:List AV)(j:Nat):(AV.renAll ρ l).getD j .any=(l.getD j .any).ren ρ:=by
 induction l generalizing j with
 | nil=>rfl
 | cons x l ih=>cases j with
  | zero=>rfl
  | succ j=>simp_all [AV.renAll]
theorem RepV.ren(h:RepV I w v x)(ρ:List (Nat×Nat)):RepV I w v (x.ren ρ):=by
 induction h with
 | any v=>exact .any v
 | undef=>exact .undef
 | int k n=>exact .int k n
 | bool b=>exact .bool b
 | str s=>exact .str s
 | clo f=>exact .clo f
 | nxt1 i r=>exact .nxt1 i r
 | nxt0 i r=>exact .nxt0 i r
 | nilq b pos n h=>exact .nilq b pos n h
 | err0=>exact .err0
 | err1 t v=>exact .err1 t v
 | nilp=>exact .nilp
 | nilm=>exact .nilm
 | cond v c x _ h' ih=>exact .cond v c _ ih h'
 | rptr a cells us hs hI' hc h1 hr _=>exact .rptr a _ us hs hI' hc h1 hr
 | slice a n cap sz f us IN Is hz hn h1 hl hr _=>exact .slice a n cap sz f us IN Is hz hn h1 hl hr
 | agg vs cs hl h1 _ ih=>exact .agg vs _ (by rw[Br,hl]) (λj hj=>h1 j (by rwa[Br]at hj)) (λj hj=>by grind [Br,M6])
 | tuple vs cs hl _ ih=>exact .tuple vs _ (by rw[Br,hl]) (λj hj=>by grind [Br,M6])
theorem Rep.ren(h:Rep I own θ w v x)(ρ:List (Nat×Nat))
  (ho:∀ nm k o,Aj ρ nm=some k->own nm=some o->it k=some (o.ren ρ)/\θ' k=θ nm):Rep I it θ' w v (x.ren ρ):=by
 induction h with
 | val v x h=>exact .val _ _ (h.ren ρ)
 | exact a n sz f h=>exact .exact a n sz f h
 | own nm sz e m a n cap f hn hm hv h=>
  simp only[AV.ren]
  cases hk:Aj ρ nm with
  | some k=>
   obtain⟨h1,h2⟩:=ho nm k _ hk hn;exact .own k sz e m a n cap f h1 hm (by grind) h
  | none=>exact .val _ _ h
 | fam b i sz e m a n cap f hi hn hm hv h=>exact .val _ _ h
 | ptr nm off e cells g c hn hg=>
  simp only[AV.ren]
  cases hk:Aj ρ nm with
  | some k=>
   obtain⟨h1,h2⟩:=ho nm k _ hk hn;exact .ptr k off e _ g c h1 (h2.trans hg)
  | none=>exact .val _ _ (.any _)
 | vsl nm sz e m f a n cap hn hm IN Is hnn hv=>
  simp only[AV.ren]
  cases hk:Aj ρ nm with
  | some k=>
   obtain⟨h1,h2⟩:=ho nm k _ hk hn;exact .vsl k sz e m _ a n cap h1 hm IN Is hnn (by grind)
  | none=>exact .val _ _ (.any _)
 | vpt nm sz e m f n i j ad hn hm hi hv=>
  simp only[AV.ren]
  cases hk:Aj ρ nm with
  | some k=>
   obtain⟨h1,h2⟩:=ho nm k _ hk hn;exact .vpt k sz e m _ n i j ad h1 hm hi (by grind)
  | none=>exact .val _ _ (.any _)
 | clo f fs cs xs ys hl hl' _ _ ih ih'=>exact .clo f fs cs _ _ (by rw[Br,hl]) (by rw[Br,hl']) (λj hj=>by grind [Br,M6]) (λj hj=>by grind [Br,M6])
 | vsub nm sz e m f n lo hi a cap hn hm hlo hhi IN Is hnn hv=>
  simp only[AV.ren]
  cases hk:Aj ρ nm with
  | some k=>
   obtain⟨h1,h2⟩:=ho nm k _ hk hn;exact .vsub k sz e m _ n lo hi a cap h1 hm hlo hhi IN Is hnn (by grind)
  | none=>exact .val _ _ (.any _)
 | optr nm mm x g c hn hg=>
  simp only[AV.ren]
  cases hk:Aj ρ nm with
  | some k=>
   obtain⟨h1,h2⟩:=ho nm k _ hk hn;exact .optr k _ _ g c h1 (h2.trans hg)
  | none=>exact .val _ _ (.any _)
 | omap nm x hn=>
  simp only[AV.ren]
  cases hk:Aj ρ nm with
  | some k=>
   obtain⟨h1,h2⟩:=ho nm k _ hk hn;rw[<- h2];exact .omap k _ h1
  | none=>exact .val _ _ (.any _)
 | cond v c x _ h' ih=>exact .cond v c _ ih h'
 | agg vs cs hl h1 _ ih=>exact .agg vs _ (by rw[Br,hl]) (λj hj=>h1 j (by rwa[Br]at hj)) (λj hj=>by grind [Br,M6])
 | tuple vs cs hl _ ih=>exact .tuple vs _ (by rw[Br,hl]) (λj hj=>by grind [Br,M6])
 | rpo a cells us hs hI' hc h1 _ ih=>exact .rpo a _ us hs (λj hj=>hI' j (by rwa[Br]at hj)) (λj hj=>hc j (by rwa[Br]at hj)) (λj hj=>h1 j (by rwa[Br]at hj)) (λj hj=>by grind [Br,M6])
theorem RepL.ren{l:List Value}(h:RepL I own θ w l m)(ρ:List (Nat×Nat))
  (ho:∀ nm k o,Aj ρ nm=some k->own nm=some o->it k=some (o.ren ρ)/\θ' k=θ nm):RepL I it θ' w l (m.map (AV.ren ρ)):=by
 induction h with
 | nil=>exact .nil
 | cons h _ ih=>exact .cons (h.ren ρ ho) ih
theorem Lg(l:List AV):(AV.looseAll l).length=l.length:=by induction l with|nil=>rfl|cons x l ih=>simp[AV.looseAll,ih]
theorem IY(l:List AV)(j:Nat):(AV.looseAll l).getD j .any=(l.getD j .any).loose:=by
 induction l generalizing j with
 | nil=>rfl
 | cons x l ih=>cases j with
  | zero=>rfl
  | succ j=>simp_all [AV.looseAll]
theorem RepV.loose(h:RepV I w v x):RepV I w v x.loose:=by
 induction h with
 | agg vs cs hl h1 _ ih=>exact .agg vs _ (by rw[Lg,hl]) (λj hj=>h1 j (by rwa[Lg]at hj)) (λj hj=>by grind [IY,Lg])
 | any v=>exact .any v
 | undef=>exact .undef
 | int k n=>exact .int k n
 | bool b=>exact .bool b
 | str s=>exact .str s
 | clo f=>exact .clo f
 | nxt1 i r=>exact .nxt1 i r
 | nxt0 i r=>exact .nxt0 i r
 | nilq b pos n h=>exact .nilq b pos n h
 | err0=>exact .err0
 | err1 t v=>exact .err1 t v
 | nilp=>exact .nilp
 | nilm=>exact .nilm
 | cond v c x h h'=>exact .cond v c x h h'
 | rptr a cells us hs hI hc h1 hr=>exact .rptr a _ us hs hI hc h1 hr
 | slice a n cap sz f us IN Is hz hn h1 hl hr=>exact .slice a n cap sz f us IN Is hz hn h1 hl hr
 | tuple vs cs hl hr=>exact .tuple vs cs hl hr
theorem Rep.loose(h:Rep I own θ w v x):Rep I own θ w v x.loose:=by
 induction h with
 | val v x h=>exact .val _ _ h.loose
 | exact a n sz f h=>
  simp only[AV.loose]
  cases Nat.beq sz 0 with
  | true=>exact .exact a n sz f h
  | false=>exact .val _ _ h
 | own nm sz e m a n cap f ho hm hv h=>exact .own nm sz e m a n cap f ho hm hv h
 | fam b i sz e m a n cap f hi ho hm hv h=>exact .fam b i sz e m a n cap f hi ho hm hv h
 | ptr nm off e cells g c ho hg=>exact .ptr nm off e _ g c ho hg
 | vsl nm sz e m f a n cap ho hm IN Is hn hv=>exact .vsl nm sz e m f a n cap ho hm IN Is hn hv
 | vpt nm sz e m f n i j ad ho hm hi hv=>exact .vpt nm sz e m f n i j ad ho hm hi hv
 | clo f fs cs xs ys hl hl' hr hr' _ _=>exact .clo f fs cs xs ys hl hl' hr hr'
 | vsub nm sz e m f n lo hi a cap ho hm hlo hhi IN Is hn hv=>exact .vsub nm sz e m f n lo hi a cap ho hm hlo hhi IN Is hn hv
 | optr nm mm x g c ho hg=>exact .optr nm mm x g c ho hg
 | omap nm x ho=>exact .omap nm x ho
 | cond v c x h h' _=>exact .cond v c x h h'
 | agg vs cs hl h1 _ ih=>exact .agg vs _ (by rw[Lg,hl]) (λj hj=>h1 j (by rwa[Lg]at hj)) (λj hj=>by grind [IY,Lg])
 | tuple vs cs hl hr _=>exact .tuple vs cs hl hr
 | rpo a cells us hs hI' hc h1 hr _=>exact .rpo a _ us hs hI' hc h1 hr
theorem RepL.loose{l:List Value}(h:RepL I own θ w l m):RepL I own θ w l (m.map AV.loose):=by
 induction h with
 | nil=>exact .nil
 | cons h _ ih=>exact .cons h.loose ih
theorem O5{l:List (Nat×α)}{v:α}(h:Aj l k=some v):(k,v)∈l:=by
 induction l with
 | nil=>cases h
 | cons x l ih=>
  simp only[Aj]at h
  grind [Ez]
theorem memB_mem{l:List Nat}:Ce n l=true↔n∈l:=by
 induction l with
 | nil=>simp[Ce]
 | cons k l ih=>
  simp only[Ce,  zzL31]
  constructor
  ·grind [Ez]
  ·rintro(rfl|h)
   ·simp
   grind
theorem Pu{l:List Nat}(h:BG l=true):l.Nodup:=by
 induction l with
 | nil=>simp
 | cons k l ih=>
  simp only[BG,Az]at h
  grind [memB_mem]
theorem Uq{l:List (Nat×α)}(hn:(l.map (·.1)).Nodup){v:α}(h:(k,v)∈l):Aj l k=some v:=by
 induction l with
 | nil=>cases h
 | cons x l ih=>
  simp only[Aj];rcases zzL31.1 h with h|h
  ·cases h;simp
  grind [Ez]
theorem Zd{l:List (Nat×α)}(h:k∉l.map (·.1)):Aj l k=none:=by
 cases hl:Aj l k with
 | none=>rfl
 | some v=>exact(h (zzL16.2 ⟨_,O5 hl,rfl⟩)).elim
def Md(l:List (Nat×Nat)):List (Nat×Nat):=l.map λx=>(x.2,x.1)
theorem Tw{l:List (Nat×Nat)}(h1:(l.map (·.1)).Nodup)(h2:(l.map (·.2)).Nodup){c:Nat}:Aj l k=some c↔Aj (Md l) c=some k:=by
 have e:(Md l).map (·.1)=l.map (·.2):=by simp[Md]
 constructor
 ·intro h;exact Uq (by grind) (zzL16.2 ⟨_,O5 h,rfl⟩)
 ·intro h;obtain⟨x,hx,hx'⟩:=zzL16.1 (O5 h)
  grind [Uq]
theorem sq{β:Type}(g:α->β)(l:List (Nat×α))(k:Nat):Aj (l.map λx=>(x.1,g x.2)) k=(Aj l k).map g:=by
 induction l with
 | nil=>rfl
 | cons x l ih=>
  grind [Aj]
theorem fV{l:List Nat}(h:SG (l.map own)=true):∀ n∈l,own n=none:=by
 induction l with
 | nil=>simp
 | cons k l ih=>
  grind [Db,SG,zzL31]
theorem QK{own:Nat->Option Own}{tl:List (Option Own)}:∀{hs:List (Nat×Nat)} {H:List (Nat×Own)},FH hs (hs.map (λx=>own x.1)++tl)=some H->
  H.map (·.1)=hs.map (·.2)/\∀ c k,(c,k)∈hs->∃ o,own c=some o/\(k,o)∈H
 | [],H,h=>by grind [FH]
 | (c,k)::hs,H,h=>by
  simp only[Db,KN]at h
  cases hc:own c with
  | none=>grind [FH]
  | some o=>
   rw[hc]at h;simp only[FH]at h
   cases hr:FH hs (hs.map (λx=>own x.1)++tl) with
   | none=>grind
   | some H'=>
    rw[hr]at h;simp only[Ax]at h;obtain⟨h1,h2⟩:=QK hr
    grind
section
variable {P:Program} {Γ:Ip} {σ:Sto} {I:Nat->Nat->Prop} {θ:Nat->Option (Nat×Nat)} {a:Act} {w:World} {o:Oper}
theorem nu{o o':Own}{t t':Option (Nat×Nat)}(ρ ρ':List (Nat×Nat))(h:OwnLe (o.ren ρ) t o' t'):OwnLe o t (o'.ren ρ') t':=by
 cases o<;>cases o'<;>trivial
theorem sH{θ:Nat->Option (Nat×Nat)}{I:Nat->Nat->Prop}{w:World}(BY:Kh I own θ w){co co':Nat->Option Own}{ct ct':Nat->Option (Nat×Nat)}
  {hs bk:List (Nat×Nat)} (k:Chg co ct I w co' ct' I' w')
  (hco:∀ n,co n≠none->∃ c o,(c,n)∈hs/\own c=some o/\co n=some (o.ren hs)/\ct n=θ c)
  (hhs:∀ c n o,(c,n)∈hs->own c=some o->co n=some (o.ren hs)/\ct n=θ c/\Aj bk n=some c)
  (hbk1:∀ n c,Aj bk n=some c->(∃ o,(c,n)∈hs/\own c=some o)\/own c=none)
  (hbk:∀ n c o,Aj bk n=some c->co' n=some o->it c=some (o.ren bk)/\θ' c=ct' n)
  (hoth:∀ c,(∀ n,co' n≠none->Aj bk n≠some c)->it c=own c/\θ' c=θ c) :
  Chg own θ I w it θ' I' w':=by
 have hle:∀ nm o,own nm=some o->∃ o',it nm=some o'/\OwnLe o (θ nm) o' (θ' nm):=λnm o ho=>by
  by_cases hx:∃ n,(nm,n)∈hs
  ·obtain⟨n,hn⟩:=hx;obtain⟨h1,h2,h3⟩:=hhs nm n o hn ho;obtain⟨o',ho',hl⟩:=k.le n _ h1
   grind [nu]
  ·obtain⟨h1,h2⟩:=hoth nm (λn hn hb=>by
    grind)
   exact⟨o,h1.trans ho,by rw[h2];exact .refl _ _⟩
 have No:∀ v x,Rep I own θ w v x->Rep I' it θ' w' v x:=λv x h=>h.mono k.imm k.cell hle
 have aj5:∀ c g cc,(∀ n,co' n≠none->Aj bk n≠some c)->own c≠none->θ c=some (g,cc)->∀ n cc',co n≠none->ct n≠some (g,cc'):=λc g cc hc ho hg n cc' hn hg'=>by
  obtain⟨c',o',hm,ho',_,ht⟩:=hco n hn;rw[ht]at hg';have:=BY.inj c c' g cc cc' ho (by simp[ho']) hg hg';subst this;obtain⟨h1,h2,h3⟩:=hhs c n o' hm ho';obtain⟨o'',ag1,_⟩:=k.le n _ h1
  grind
 refine{ imm:=k.imm,cell:=k.cell,le:=hle,rel:=?_,valid:=k.valid,os:=k.os,tape:=k.tape,output:=k.output,drawn:=k.drawn,grow:=k.grow,frame:=λb hb hn=>k.frame b hb (λn cc hn' hg=>?_),new:=λnm g c ho hg=>?_,immNew:=λb o h=>?_ }
 ·
  have ad6:∀ nm,(∃ n,co' n≠none/\Aj bk n=some nm)\/(it nm=own nm/\θ' nm=θ nm/\∀ n,co' n≠none->Aj bk n≠some nm):=λnm=>by
   grind
  have ac5:∀ nm g cc,(∀ n,co' n≠none->Aj bk n≠some nm)->own nm≠none->θ nm=some (g,cc)->w'.heap[g]?=w.heap[g]?/\∀ j,I' g j->I g j:=λnm g cc hn ho hg=>by
   have hlt:=M5 BY ho hg;have hf:=aj5 nm g cc hn ho hg;refine⟨k.frame g hlt hf,λj hj=>?_⟩;rcases k.immNew g j hj with h|h|⟨n,c,h1,h2⟩
   ·exact h
   ·omega
   grind
  refine⟨λnm e0 cells ho=>?_,λnm sz e m ho g c hg=>?_,λnm nm' g c c' ho ho' hg hg'=>?_,λnm sz e m f ho=>?_,λnm x ho=>?_,λnm sz m ho hnn=>?_⟩
  rotate_left 5
  ·rcases ad6 nm with⟨n,hn,hb⟩|⟨h1,h2,h3⟩
   ·cases hcn:co' n with
    | none=>grind
    | some o'=>
     obtain⟨h1,h2⟩:=hbk n nm o' hb hcn;rw[ho]at h1
     cases o' with
     | row=>simp[Own.ren]at h1
     | arr=>simp[Own.ren]at h1
     | obj=>simp[Own.ren]at h1
     | tok s' e' m'=>
      simp only[Own.ren,Ax,Own.tok.injEq]at h1;obtain⟨rfl,rfl,rfl⟩:=h1;exact k.rel.tok8 n _ _ hcn (h2.symm.trans hnn)
   ·rw[h1]at ho;exact BY.tok8 nm sz m ho (h2.symm.trans hnn)
  rotate_left 4
  ·rcases ad6 nm with⟨n,hn,hb⟩|⟨h1,h2,h3⟩
   ·cases hcn:co' n with
    | none=>grind
    | some o'=>
     obtain⟨h1,h2⟩:=hbk n nm o' hb hcn;rw[ho]at h1
     cases o' with
     | tok=>simp[Own.ren]at h1
     | row=>simp[Own.ren]at h1
     | arr=>simp[Own.ren]at h1
     | obj x'=>
      simp only[Own.ren,Ax,Own.obj.injEq]at h1;subst h1;exact Nn (k.rel.obj n _ hcn) h2 (λ_ _ _=>rfl) (λ_ _ _ _ h=>h) (λ_ h=>h.on _ (λ_ _ h=>h) (λ_ _ _=>rfl) λv y hv=>hv.ren bk (λn' c' o h h'=>hbk n' c' o h h')) VN
   ·rw[h1]at ho;exact Nn (BY.obj nm _ ho) h2 (λg c hg=>(ac5 nm g c h3 (by simp[ho]) hg).1) (λg c j hg hj=>(ac5 nm g c h3 (by simp[ho]) hg).2 j hj) (λ_ h=>h.mono No) Ya
  rotate_left 3
  ·rcases ad6 nm with⟨n,hn,hb⟩|⟨h1,h2,h3⟩
   ·cases hcn:co' n with
    | none=>grind
    | some o'=>
     obtain⟨h1,h2⟩:=hbk n nm o' hb hcn;rw[ho]at h1
     cases o' with
     | tok=>simp[Own.ren]at h1
     | row=>simp[Own.ren]at h1
     | obj=>simp[Own.ren]at h1
     | arr s' e' m' f'=>
      simp only[Own.ren,Ax,Own.arr.injEq]at h1;obtain⟨rfl,rfl,rfl,rfl⟩:=h1;exact Sf (k.rel.arr n _ _ _ _ hcn) h2 (λ_ _ _=>rfl) (λ_ _ _ _ h=>h) (λi _=>Br _ _) (λv i j _ _ hv=>by rw[M6];exact hv.ren bk (λn' c' o h h'=>hbk n' c' o h h'))
   ·rw[h1]at ho;exact Sf (BY.arr nm _ _ _ _ ho) h2 (λg c hg=>(ac5 nm g c h3 (by simp[ho]) hg).1) (λg c j hg hj=>(ac5 nm g c h3 (by simp[ho]) hg).2 j hj) (λ_ _=>rfl) (λv i j _ _ hv=>No _ _ hv)
  ·rcases ad6 nm with⟨n,hn,hb⟩|⟨h1,h2,h3⟩
   ·cases hcn:co' n with
    | none=>grind
    | some o'=>
     obtain⟨h1,h2⟩:=hbk n nm o' hb hcn;rw[ho]at h1
     cases o' with
     | tok=>simp[Own.ren]at h1
     | arr=>simp[Own.ren]at h1
     | obj=>simp[Own.ren]at h1
     | row e' cs=>
      simp only[Own.ren,Ax,Own.row.injEq]at h1;obtain⟨rfl,rfl⟩:=h1;obtain⟨g,c,vs,r1,r2,r3,r4,r5,r6⟩:=k.rel.row n _ cs hcn;refine⟨g,c,vs,h2.trans r1,r2,by grind [Br],λj hj=>r4 j (by rwa[Br]at hj),λj hj=>?_,r6⟩;rw[M6];exact(r5 j (by rwa[Br]at hj)).ren bk (λn' c' o h h'=>hbk n' c' o h h')
   ·rw[h1]at ho;obtain⟨g,c,vs,r1,r2,r3,r4,r5,r6⟩:=BY.row nm _ cells ho;obtain⟨q1,q2⟩:=ac5 nm g c h3 (by simp[ho]) r1;exact⟨g,c,vs,h2.trans r1,q1.trans r2,r3,r4,λj hj=>No _ _ (r5 j hj),λj hj=>r6 j (q2 j hj)⟩
  ·rcases ad6 nm with⟨n,hn,hb⟩|⟨h1,h2,h3⟩
   ·cases hcn:co' n with
    | none=>grind
    | some o'=>
     obtain⟨h1,h2⟩:=hbk n nm o' hb hcn;rw[ho]at h1
     cases o' with
     | row=>simp[Own.ren]at h1
     | arr=>simp[Own.ren]at h1
     | obj=>simp[Own.ren]at h1
     | tok s' e' m'=>
      simp only[Own.ren,Ax,Own.tok.injEq]at h1;obtain⟨rfl,rfl,rfl⟩:=h1;exact k.rel.tok n _ _ _ hcn g c (by grind)
   ·rw[h1]at ho;rw[h2]at hg;obtain⟨OF,fz,r1,r2,r3,r4,r5',r5⟩:=BY.tok nm sz e m ho g c hg;obtain⟨q1,q2⟩:=ac5 nm g c h3 (by simp[ho]) hg
    grind
  ·have hθb:∀ n nm,co' n≠none->Aj bk n=some nm->θ' nm=ct' n:=λn nm hn hb=>by
    cases hcn:co' n with
    | none=>grind
    | some o'=>grind
   have hmix:∀ nm nm' n c c',co' n≠none->Aj bk n=some nm->(∀ n,co' n≠none->Aj bk n≠some nm')->own nm'≠none->θ nm'=some (g,c')->ct' n=some (g,c)->False:=λnm nm' n c c' hn hb h3 ho hg hg'=>by
    have hlt:=M5 BY ho hg;rcases k.new n g c hn hg' with h|⟨n',cc,h,h'⟩
    ·omega
    ·exact aj5 nm' g c' h3 ho hg n' cc h h'
   rcases ad6 nm with⟨n,hn,hb⟩|⟨h1,h2,h3⟩<;>rcases ad6 nm' with⟨n',hn',hb'⟩|⟨h1',h2',h3'⟩
   ·rw[hθb n nm hn hb]at hg;rw[hθb n' nm' hn' hb']at hg';have:=k.rel.inj n n' g c c' hn hn' hg hg'
    grind
   ·rw[hθb n nm hn hb]at hg;rw[h1']at ho';rw[h2']at hg';exact(hmix nm nm' n c c' hn hb h3' ho' hg' hg).elim
   ·rw[hθb n' nm' hn' hb']at hg';rw[h1]at ho;rw[h2]at hg;exact(hmix nm' nm n' c' c hn' hb' h3 ho hg hg').elim
   ·rw[h1]at ho;rw[h1']at ho';rw[h2]at hg;rw[h2']at hg';exact BY.inj nm nm' g c c' ho ho' hg hg'
 ·grind
 ·by_cases hx:∃ n,co' n≠none/\Aj bk n=some nm
  ·obtain⟨n,hn,hb⟩:=hx
   cases hcn:co' n with
   | none=>grind
   | some o'=>
    obtain⟨_,h2⟩:=hbk n nm o' hb hcn;rw[h2]at hg;rcases k.new n g c hn hg with h|⟨n',cc,h,h'⟩
    ·grind
    ·obtain⟨c',o'',hm,ho',_,ht⟩:=hco n' h
     grind
  grind
 ·rcases k.immNew b o h with h|h|⟨n,c,h1,h2⟩
  ·grind
  ·grind
  grind
theorem g6(h:Rel Γ σ I θ a w)(hd:∀ d,o.dst=some d->d<Γ.n)(ak6:(execOp a.eval o).run P w = .ok (.enter f ws.toArray) w)
  {r:Xf}  (hes:es=(r.hs.map (·.1)++r.fr.map (·.2)).map σ.own)  (hH:FH r.hs es=some H) (hc:V2 es r=true)
  (hq:Kh I (Aj (H.map λx=>(x.1,x.2.ren r.hs))) (λn=>(Aj (Md r.hs) n).bind θ) w->(∀ nm k o,Aj r.hs nm=some k->σ.own nm=some o->Aj (H.map λx=>(x.1,x.2.ren r.hs)) k=some (o.ren r.hs)/\(Aj (Md r.hs) k).bind θ=θ nm)->
   Calls P f ws.toArray w λe w'=>∃ v I' θ',e = .returned v/\Chg (Aj (H.map λx=>(x.1,x.2.ren r.hs))) (λn=>(Aj (Md r.hs) n).bind θ) I w (Aj r.H) θ' I' w'/\Rep I' (Aj r.H) θ' w' v r.res) :
  Hq P Γ σ o a w (r.res.ren (F7 r)) (Sg r):=by
   simp only[V2,Az]at hc;obtain⟨⟨⟨⟨⟨c1,c2⟩,c3⟩,c4⟩,c5⟩,c6⟩:=hc;have c2:=Pu c2;have c3:=Pu c3;have c4:=Pu c4;have c5:=Pu c5
   have ai8:es=r.hs.map (λx=>σ.own x.1)++r.fr.map (λx=>σ.own x.2):=by
    rw[hes];simp[KM]
   rw[ai8]at hH c1
   have hfr:∀ k c,(k,c)∈r.fr->σ.own c=none:=λk c hm=>by
    have hl:(r.hs.map (λx=>σ.own x.1)).length=r.hs.length:=by simp
    rw[<- hl,List.drop_left]at c1
    have e1:r.fr.map (λx=>σ.own x.2)=(r.fr.map (·.2)).map σ.own:=by simp[KM]
    rw[e1]at c1;exact fV c1 c (zzL16.2 ⟨_,hm,rfl⟩)
   obtain⟨h1,h2⟩:=QK hH;have hbk:F7 r=Md r.hs++r.fr:=rfl
   have hHn:(H.map (·.1)).Nodup:=by
    rw[h1]
    have:(F7 r).map (·.1)=r.hs.map (·.2)++r.fr.map (·.1):=by simp[F7,KM]
    rw[this]at c3;exact(List.nodup_append.1 c3).1
   have hsn:((Md r.hs).map (·.1)).Nodup:=by
    have:(Md r.hs).map (·.1)=r.hs.map (·.2):=by simp[Md]
    rw[this,<- h1];exact hHn
   have hHl:∀ c n,(c,n)∈r.hs->∃ o,σ.own c=some o/\Aj H n=some o:=λc n hm=>by
    obtain⟨o',ho',hm'⟩:=h2 c n hm;exact⟨o',ho',Uq hHn hm'⟩
   have hco:∀ n,Aj (H.map λx=>(x.1,x.2.ren r.hs)) n=(Aj H n).map (Own.ren r.hs):=λn=>sq _ _ _
   have hct:∀ c n,(c,n)∈r.hs->(Aj (Md r.hs) n).bind θ=θ c:=λc n hm=>by
    rw[Uq hsn (zzL16.2 ⟨_,hm,rfl⟩)];rfl
   have hbkh:∀ c n,(c,n)∈r.hs->Aj (F7 r) n=some c:=λc n hm=>Uq c3 (by rw[hbk];exact zzL8.2 (.inl (zzL16.2 ⟨_,hm,rfl⟩)))
   have hin:∀ nm k o,Aj r.hs nm=some k->σ.own nm=some o->Aj (H.map λx=>(x.1,x.2.ren r.hs)) k=some (o.ren r.hs)/\(Aj (Md r.hs) k).bind θ=θ nm:=λnm k o hl ho'=>by
    grind [O5]
   have ag6:∀ n,Aj (H.map λx=>(x.1,x.2.ren r.hs)) n≠none->∃ c o,(c,n)∈r.hs/\σ.own c=some o/\Aj (H.map λx=>(x.1,x.2.ren r.hs)) n=some (o.ren r.hs)/\(Aj (Md r.hs) n).bind θ=θ c:=λn hn=>by
    rw[hco]at hn
    cases hl:Aj H n with
    | none=>grind
    | some o'=>
     have hm:n∈H.map (·.1):=zzL16.2 ⟨_,O5 hl,rfl⟩
     grind
   have al5:Kh I (Aj (H.map λx=>(x.1,x.2.ren r.hs))) (λn=>(Aj (Md r.hs) n).bind θ) w:=by
    have BY:=h.chg.rel;refine⟨λnm e0 cells hn=>?_,λnm sz e m hn g c hg=>?_,λnm nm' g c c' hn hn' hg hg'=>?_,λnm sz e m f hn=>?_,λnm x hn=>?_,λnm sz m hn hnn=>?_⟩
    rotate_left 5
    ·obtain⟨c',o',hm,ho',hl,ht⟩:=ag6 nm (by simp[hn]);rw[hl]at hn
     cases o' with
     | row=>simp[Own.ren]at hn
     | arr=>simp[Own.ren]at hn
     | obj=>simp[Own.ren]at hn
     | tok s' e' m'=>
      simp only[Own.ren,Ax,Own.tok.injEq]at hn;obtain⟨rfl,rfl,rfl⟩:=hn;exact BY.tok8 c' _ _ ho' (ht.symm.trans hnn)
    rotate_left 4
    ·obtain⟨c,o',hm,ho',hl,ht⟩:=ag6 nm (by simp[hn]);rw[hl]at hn
     cases o' with
     | tok=>simp[Own.ren]at hn
     | row=>simp[Own.ren]at hn
     | arr=>simp[Own.ren]at hn
     | obj x'=>
      simp only[Own.ren,Ax,Own.obj.injEq]at hn;subst hn;exact Nn (θ':=λn=>(Aj (Md r.hs) n).bind θ) (nm':=nm) (BY.obj c _ ho') ht (λ_ _ _=>rfl) (λ_ _ _ _ h=>h) (λ_ h=>h.on _ (λ_ _ h=>h) (λ_ _ _=>rfl) λv y hv=>hv.ren r.hs hin) VN
    rotate_left 3
    ·obtain⟨c,o',hm,ho',hl,ht⟩:=ag6 nm (by simp[hn]);rw[hl]at hn
     cases o' with
     | tok=>simp[Own.ren]at hn
     | row=>simp[Own.ren]at hn
     | obj=>simp[Own.ren]at hn
     | arr s' e' m' f'=>
      simp only[Own.ren,Ax,Own.arr.injEq]at hn;obtain⟨rfl,rfl,rfl,rfl⟩:=hn;exact Sf (BY.arr c _ _ _ _ ho') ht (λ_ _ _=>rfl) (λ_ _ _ _ h=>h) (λi _=>Br _ _) (λv i j _ _ hv=>by rw[M6];exact hv.ren r.hs hin)
    ·obtain⟨c,o',hm,ho',hl,ht⟩:=ag6 nm (by simp[hn]);rw[hl]at hn
     cases o' with
     | tok=>simp[Own.ren]at hn
     | arr=>simp[Own.ren]at hn
     | obj=>simp[Own.ren]at hn
     | row e' cs=>
      simp only[Own.ren,Ax,Own.row.injEq]at hn;obtain⟨rfl,rfl⟩:=hn;obtain⟨g,cc,vs',r1,r2,r3,r4,r5,r6⟩:=BY.row c _ cs ho';refine⟨g,cc,vs',ht.trans r1,r2,by grind [Br],λj hj=>r4 j (by rwa[Br]at hj),λj hj=>?_,r6⟩;rw[M6];exact(r5 j (by rwa[Br]at hj)).ren r.hs hin
    ·obtain⟨c',o',hm,ho',hl,ht⟩:=ag6 nm (by simp[hn]);rw[hl]at hn
     cases o' with
     | row=>simp[Own.ren]at hn
     | arr=>simp[Own.ren]at hn
     | obj=>simp[Own.ren]at hn
     | tok s' e' m'=>
      simp only[Own.ren,Ax,Own.tok.injEq]at hn;obtain⟨rfl,rfl,rfl⟩:=hn;exact BY.tok c' _ _ _ ho' g c (by grind)
    ·obtain⟨c1',o1,hm,ho1,_,ht⟩:=ag6 nm hn;obtain⟨c2',o2,hm',ho2,_,ht'⟩:=ag6 nm' hn';rw[ht]at hg;rw[ht']at hg';have:=BY.inj c1' c2' g c c' (by simp[ho1]) (by simp[ho2]) hg hg'
     grind [Tw]
   intro K Q hK;unfold Oper.wp;rw[ak6];simp only[Oper.upon];refine Calls.mono (hq al5 hin) λe' w' hq=>?_;obtain⟨v,I',ct',rfl,kc,hres⟩:=hq
   have hwo:∀ n c o',Aj (F7 r) n=some c->Aj r.H n=some o'->Aj (Sg r) c=some (o'.ren (F7 r)):=λn c o' hb hl=>
    Uq c5 (zzL16.2 ⟨(n,o'),O5 hl,by simp[hb]⟩)
   have hwo':∀ c,(∀ n,Aj r.H n≠none->Aj (F7 r) n≠some c)->Aj (Sg r) c=none:=λc hn=>Zd λhm=>by
    obtain⟨x,hx,rfl⟩:=zzL16.1 hm;obtain⟨⟨n,o'⟩,hm',rfl⟩:=zzL16.1 hx;have ab3:n∈(F7 r).map (·.1):=memB_mem.1 (zzL21.1 c6 _ hm');obtain⟨⟨n',c'⟩,hb,rfl⟩:=zzL16.1 ab3;have hb':=Uq c3 hb;have hl:=Uq c4 hm'
    grind
   have ah3:∀ n n' c,Aj (F7 r) n=some c->Aj (F7 r) n'=some c->n=n':=λn n' c e1 e2=>by
    grind [Tw]
   let θ':Nat->Option (Nat×Nat):=λc=>match Aj (Md (F7 r)) c with|some n=>if(Aj r.H n).isSome then ct' n else θ c|none=>θ c
   have hθ1:∀ n c o',Aj (F7 r) n=some c->Aj r.H n=some o'->θ' c=ct' n:=λn c o' hb hl=>by
    grind [Tw]
   have hθ2:∀ c,(∀ n,Aj r.H n≠none->Aj (F7 r) n≠some c)->θ' c=θ c:=λc hn=>by
    simp only[θ']
    split
    ·grind [Tw]
    ·rfl
   have hbk2:∀ n c o',Aj (F7 r) n=some c->Aj r.H n=some o'->(σ.upd o.dst (r.res.ren (F7 r)) (Sg r)).own c=some (o'.ren (F7 r))/\θ' c=ct' n:=λn c o' hb hl=>
    ⟨by grind [Sto.upd],hθ1 n c o' hb hl⟩
   have kk:Chg σ.own θ I w (σ.upd o.dst (r.res.ren (F7 r)) (Sg r)).own θ' I' w':=by
    refine sH (hs:=r.hs) (bk:=F7 r) h.chg.rel kc ag6 (λc n o' hm ho'=>?_) (λn c hb=>?_) hbk2 (λc hn=>⟨by grind [Sto.upd],hθ2 c hn⟩)
    ·obtain⟨o'',ag1,hl⟩:=hHl c n hm
     grind
    ·have hm:=O5 hb;rw[hbk]at hm;rcases zzL8.1 hm with hm|hm
     ·obtain⟨⟨c',n'⟩,hm',he'⟩:=zzL16.1 hm
      grind
     grind
   exact hK I' θ' _ _ (MM h kk (hres.ren (F7 r) hbk2) hd)
theorem bi{ro:List Nat}{k:Nat}:∀{wo:List (Nat×Own)},Aj (uG ro wo) k=if Ce k ro=true then none else Aj wo k
 | []=>by simp[uG,Aj]
 | (n,o)::wo=>by
  have ih:=bi (ro:=ro) (k:=k) (wo:=wo);unfold uG at ih ⊢
  cases hb:Ce n ro with
  | true=>
   grind [Nat.beq,List.filter_cons_of_neg,Aj,Ez]
  | false=>
   cases hn:Nat.beq n k with
   | true=>grind [Aj,Ez]
   | false=>grind [Aj]
theorem cD{own:Nat->Option Own}{ro:List Nat}{wo:List (Nat×Own)}{k:Nat}(hk:Ce k ro=true):∀{hs:List (Nat×Nat)} {tl:List (Option Own)},Ce k (hs.map (·.1))=true->(∀ p∈uF ro wo hs ((hs.map (·.1)).map own++tl),p)->Aj wo k=own k
 | [],_,h,_=>by cases h
 | (n,m)::hs,tl,h,hp=>by
  simp only[Db,KN,uF,zzL8]at hp;simp only[Db,Ce]at h
  cases hb:Nat.beq n k with
  | true=>
   simp_all
  | false=>rw[hb]at h;exact cD hk h (λp h'=>hp p (.inr h'))
theorem tQ(h:Rel Γ σ I θ a w)(hd:∀ d,o.dst=some d->d<Γ.n){vs:List AV}(hex:(execOp a.eval o).run P w=(callFunc f ws.toArray).run P w)(hvs:RepL I σ.own θ w ws vs)
  {r:Xf}  (hes:es=(r.hs.map (·.1)++r.fr.map (·.2)).map σ.own)  (he:jf (Spec P) f vs es r=some e) (hob:∀ p∈e.ob,p):Hq P Γ σ o a w e.v e.wo:=by
 unfold jf at he
 split at he
 ·rename_i H hH
  cases hc:V2 es r with
  | false=>grind
  | true=>
   simp only[hc,Ah]at he
   have key:Spec P f ((vs.map (AV.ren r.hs)).map AV.loose) (H.map λx=>(x.1,x.2.ren r.hs)) r.res r.H->Hq P Γ σ o a w (r.res.ren (F7 r)) (Sg r):=λ⟨ak0,al2⟩=>by
    refine g6 h hd (hex.trans (ak0 _ _)) hes hH hc λal5 hin=>?_;exact al2 w I (λn=>(Aj (Md r.hs) n).bind θ) ws.toArray (by have:=(hvs.ren r.hs hin).loose;exact this) al5 h.chg.valid h.glob
   cases hro:bb r.ro with
   | true=>
    simp only[hro,Ah,Ax]at he;subst he
    simp_all
   | false=>
    simp only[hro,Ar]at he
    cases ac3:(r.ro.all λn=>Ce n (r.hs.map (·.1))) with
    | false=>grind
    | true=>
     simp only[ac3,Ah,Ax]at he;subst he;have ac7:=key (hob _ (zzL31.2 (.inl rfl)));have hob':∀ p∈uF r.ro (Sg r) r.hs es,p:=λp hp=>hob p (zzL31.2 (.inr hp))
     have e:σ.upd o.dst (r.res.ren (F7 r)) (uG r.ro (Sg r))=σ.upd o.dst (r.res.ren (F7 r)) (Sg r):=by
      unfold Sto.upd
      congr 1
      funext nm
      rw[bi]
      cases hm:Ce nm r.ro with
      | false=>simp
      | true=>
       have hm':Ce nm (r.hs.map (·.1))=true:=by
        rw[zzL21]at ac3;exact ac3 nm (memB_mem.1 hm)
       rw[hes,AA]at hob';rw[cD hm hm' hob']
       grind
     intro K Q hK;refine ac7 K Q λI' θ' a' w' hr=>hK I' θ' a' w' ?_
     grind
 ·cases he
theorem Pw(l:List (Nat×Own))(m:List AV):(AV.vsAll l m).length=m.length:=by induction m with|nil=>rfl|cons x m ih=>simp[AV.vsAll,ih]
theorem XB(l:List (Nat×Own))(m:List AV)(j:Nat):(AV.vsAll l m).getD j .any=(m.getD j .any).vs l:=by
 induction m generalizing j with
 | nil=>rfl
 | cons x m ih=>cases j with
  | zero=>rfl
  | succ j=>simp_all [AV.vsAll]
theorem pz(h:∀ p∈AV.vsObAll l m,p)(j:Nat):∀ p∈(m.getD j .any).vsOb l,p:=by
 induction m generalizing j with
 | nil=>trivial
 | cons x m ih=>
  simp only[AV.vsObAll,zzL8]at h
  cases j with
  | zero=>grind
  | succ j=>intro p hp;exact ih (λp hp=>h p (.inr hp)) j p (by grind)
theorem Sl(h:AV.flatAll m=true)(j:Nat):(m.getD j .any).flat=true:=by
 induction m generalizing j with
 | nil=>rfl
 | cons x m ih=>
  simp only[AV.flatAll]at h
  cases j with
  | zero=>grind
  | succ j=>simp_all
theorem RepV.flat{I:Nat->Nat->Prop}{w:World}(h:RepV I w v x)(hx:x.flat=true):RepV I' w' v x:=by
 induction h with
 | any v=>exact .any v
 | undef=>exact .undef
 | int k n=>exact .int k n
 | bool b=>exact .bool b
 | str s=>exact .str s
 | err0=>exact .err0
 | err1 t v=>exact .err1 t v
 | agg vs cs hl h1 _ ih=>exact .agg vs cs hl h1 (λj hj=>ih j hj (Sl hx j))
 | tuple vs cs hl _ ih=>exact .tuple vs cs hl (λj hj=>ih j hj (Sl hx j))
 | _=>cases hx
theorem Rep.flat{I:Nat->Nat->Prop}{θ:Nat->Option (Nat×Nat)}{w:World}(h:Rep I own θ w v x)(hx:x.flat=true):RepV I' w' v x:=by
 induction h with
 | val v x h=>exact h.flat hx
 | agg vs cs hl h1 _ ih=>exact .agg vs cs hl h1 (λj hj=>ih j hj (Sl hx j))
 | tuple vs cs hl _ ih=>exact .tuple vs cs hl (λj hj=>ih j hj (Sl hx j))
 | _=>cases hx
theorem GK{own:Nat->Option Own}:∀{ns:List Nat} {tl:List (Option Own)} {k:Nat} {o:Own},Aj (Va ns (ns.map own++tl)) k=some o->own k=some o
 | [],tl,k,o,h=>by trivial
 | n::ns,tl,k,o,h=>by
  simp only[Db,KN]at h
  cases hn:own n with
  | none=>rw[hn]at h;exact GK h
  | some o'=>
   rw[hn]at h;simp only[Va,Aj]at h
   cases hb:Nat.beq n k with
   | true=>
    simp_all
   | false=>rw[hb]at h;exact GK h
def JE(l:List (Nat×Own))(θ:Nat->Option (Nat×Nat))(I:Nat->Nat->Prop):Nat->Nat->Prop:=λb o=>I b o\/∃ nm sz e m f c,Aj l nm=some (.arr sz e m f)/\θ nm=some (b,c)/\o<m*sz
theorem Rep.vs{I:Nat->Nat->Prop}{θ:Nat->Option (Nat×Nat)}{w:World}(BY:Kh I own θ w)(hl:∀ k o,Aj l k=some o->own k=some o)(h:Rep I own θ w v x):(∀ p∈x.vsOb l,p)->RepV (JE l θ I) w v (x.vs l):=by
 have hII:∀ b o,I b o->JE l θ I b o:=λ_ _ h=>.inl h
 have hs:∀{v:Value} {x:AV},RepV I w v x->RepV (JE l θ I) w v (x.vs l):=by
  intro v x h
  induction h with
  | agg vs cs hl h1 _ ih=>exact .agg vs _ (by rw[Pw,hl]) (λj hj=>h1 j (by rwa[Pw]at hj)) (λj hj=>by grind [XB,Pw])
  | slice a n cap sz f us IN Is hz hn h1 hl hr=>exact(RepV.slice a n cap sz f us IN Is hz hn h1 hl hr).mono hII (λ_ _ _=>rfl)
  | any v=>exact .any v
  | undef=>exact .undef
  | int k n=>exact .int k n
  | bool b=>exact .bool b
  | str s=>exact .str s
  | clo f=>exact .clo f
  | nxt1 i r=>exact .nxt1 i r
  | nxt0 i r=>exact .nxt0 i r
  | nilq b pos n h=>exact .nilq b pos n h
  | err0=>exact .err0
  | err1 t v=>exact .err1 t v
  | nilp=>exact .nilp
  | nilm=>exact .nilm
  | cond v c x h h'=>exact(RepV.cond v c x h h').strip.mono hII (λ_ _ _=>rfl)
  | rptr a cells us hs hI hc h1 hr=>exact(RepV.rptr a cells us hs hI hc h1 hr).mono hII (λ_ _ _=>rfl)
  | tuple vs cs hl hr=>exact(RepV.tuple vs cs hl hr).strip.mono hII (λ_ _ _=>rfl)
 induction h with
 | val v x h=>grind
 | agg vs cs hl h1 _ ih=>
  intro hob;exact .agg vs _ (by rw[Pw,hl]) (λj hj=>h1 j (by rwa[Pw]at hj)) (λj hj=>by rw[XB];exact ih j (by rwa[Pw]at hj) (pz hob j))
 | vsl nm sz e m f a n cap ho hm IN Is hn hv=>
  intro hob;simp only[AV.vs]
  split
  ·rename_i sz' e' m' f' hlk
   have ho':=hl _ _ hlk;rw[ho]at ho';simp only[Ax,Own.arr.injEq]at ho';obtain⟨rfl,rfl,rfl,rfl⟩:=ho';have hnm:n=m:=hob _ (by grind [AV.vsOb])
   ·subst hnm;obtain⟨q0,q1⟩:=BY.arr nm sz e n f ho;have hvv:=hv rfl
    cases hθ:θ nm with
    | none=>
     have hn0:=q0 hθ;subst hn0;exact .slice a 0 cap sz _ (λ_=>undef) IN Is (λh=>by omega) hn (λj hj=>by omega) (λi hi=>by omega) (λi c hi=>by omega)
    | some gc=>
     obtain⟨b,c⟩:=gc;rw[hθ]at hvv;simp only at hvv;obtain⟨rfl,rfl⟩:=hvv;obtain⟨OF,r1,r2,r3,r4,r5,r6,r7⟩:=q1 b cap hθ
     have ab0:∀ j,j<n*sz->w.cell? ⟨b,j,none⟩=some (OF.getD j undef):=λj hj=>by
      have:n*sz<=cap*sz:=Hp _ r2;rw[Ot w b j OF e (0,0) r1]
      grind [O1]
     refine .slice _ n cap sz _ (λj=>OF.getD j undef) IN Is (λ_=>⟨⟨b,0,none⟩,rfl,rfl,λj hj=>.inr ⟨nm,sz,e,n,f,cap,hlk,hθ,by grind⟩,λj hj=>by grind⟩) (by simp) (λj hj=>?_) (λi hi=>?_) (λi k hi hk=>?_)
     ·have hs:0<sz:=by
       rcases zzL81 sz with h0|h0
       ·rw[h0]at hj;omega
       ·exact h0
      have e2:j / sz*sz+j % sz=j:=by rw[Yn];exact NE j sz
      grind [XJ,Yp]
     ·grind [Bh]
     ·rw[E0];exact((r6 i k hi hk).2.strip).mono hII (λ_ _ _=>rfl)
  ·exact .any _
 | exact a n sz f h=>exact λ_=>h.mono hII (λ_ _ _=>rfl)
 | own nm sz e m a n cap f ho hm hv h=>exact λ_=>h.mono hII (λ_ _ _=>rfl)
 | fam b i sz e m a n cap f hi ho hm hv h=>exact λ_=>h.mono hII (λ_ _ _=>rfl)
 | ptr nm off e cells g c ho hg=>exact λ_=>.any _
 | vpt=>exact λ_=>.any _
 | vsub nm sz e m f n lo hi a cap ho hm hlo hhi IN Is hn hv=>
  intro hob;simp only[AV.vs]
  split
  ·rename_i sz' e' m' f' hlk
   have ho':=hl _ _ hlk;rw[ho]at ho';simp only[Ax,Own.arr.injEq]at ho';obtain⟨rfl,rfl,rfl,rfl⟩:=ho';have hnm:n=m:=hob _ (by grind [AV.vsOb]);subst hnm;obtain⟨q0,q1⟩:=BY.arr nm sz e n f ho;have hvv:=hv rfl;rcases zzL119 lo hi with hlt|hge
   ·obtain⟨b,c,hθ,rfl⟩:=hvv.1 hlt;obtain⟨OF,r1,r2,r3,r4,r5,r6,r7⟩:=q1 b c hθ
    have hin:∀ j,j<(hi-lo)*sz->lo*sz+j<n*sz:=λj hj=>by
     have h1:lo*sz+(hi-lo)*sz=hi*sz:=by rw[<- Jl];congr 1;omega
     have h2:hi*sz<=n*sz:=Hp _ hhi;omega
    have ab0:∀ j,j<(hi-lo)*sz->w.cell? ⟨b,lo*sz+j,none⟩=some (OF.getD (lo*sz+j) undef):=λj hj=>by
     have:n*sz<=c*sz:=Hp _ r2;have:=hin j hj;rw[Ot w b _ OF e (0,0) r1]
     grind [O1]
    refine .slice _ (hi-lo) cap sz _ (λj=>OF.getD (lo*sz+j) undef) IN Is (λ_=>⟨⟨b,lo*sz,none⟩,rfl,rfl,λj hj=>.inr ⟨nm,sz,e,n,f,c,hlk,hθ,hin j hj⟩,λj hj=>ab0 j hj⟩) hn (λj hj=>?_) (λi hi'=>?_) (λi k hi' hk=>?_)
    ·have hs:0<sz:=by
      rcases zzL81 sz with h0|h0
      ·rw[h0]at hj;omega
      ·exact h0
     have e2:j / sz*sz+j % sz=j:=by rw[Yn];exact NE j sz
     have h3:j / sz<hi-lo:=by rw[XJ hs];exact hj
     have:=(r6 (lo+j / sz) (j % sz) (by omega) (Yp _ hs)).1;rw[Jl,DC,e2]at this;exact this
    ·grind [Bh]
    ·rw[E0];have:=((r6 (lo+i) k (by omega) hk).2.strip).mono hII (λ_ _ _=>rfl) (w':=w)
     grind
   ·have h0:hi-lo=0:=by omega
    rw[h0];exact .slice a 0 cap sz _ (λ_=>undef) (by omega) Is (λh=>by omega) hn (λj hj=>by omega) (λi hi=>by omega) (λi c hi=>by omega)
  ·exact .any _
 | optr=>exact λ_=>.any _
 | omap=>exact λ_=>.any _
 | rpo=>exact λ_=>.any _
 | clo f fs cs xs ys hl hl' hr hr' _ _=>exact λ_=>(Rep.clo f fs cs xs ys hl hl' hr hr').strip.mono hII (λ_ _ _=>rfl)
 | cond v c x h h' _=>exact λ_=>(Rep.cond v c x h h').strip.mono hII (λ_ _ _=>rfl)
 | tuple vs cs hl hr _=>exact λ_=>(Rep.tuple vs cs hl hr).strip.mono hII (λ_ _ _=>rfl)
theorem Rep.vsA{I:Nat->Nat->Prop}{θ:Nat->Option (Nat×Nat)}{w:World}(BY:Kh I own θ w)(hl:∀ k o,Aj l k=some o->own k=some o)(h:Rep I own θ w v x)(hob:∀ p∈x.vsOb l,p):Rep (JE l θ I) it θ' w v (x.vsA l):=by
 have hII:∀ b o,I b o->JE l θ I b o:=λ_ _ h=>.inl h
 by_cases hc:∃ f xs ys,x = .clo f xs ys
 ·obtain⟨f,xs,ys,rfl⟩:=hc
  cases h with
  | val v x h=>cases h with|clo f=>exact .val _ _ (.clo f)
  | clo f fs cs xs ys hl hl' hr hr'=>
   exact .clo f fs cs _ _ (by rw[Bh,hl]) (by rw[Bh,hl']) (λj hj=>by rw[E0];exact .val _ _ ((hr j (by rwa[Bh]at hj)).strip.mono hII (λ_ _ _=>rfl))) (λj hj=>by rw[E0];exact .val _ _ ((hr' j (by rwa[Bh]at hj)).strip.mono hII (λ_ _ _=>rfl)))
 ·have e:x.vsA l=x.vs l:=by cases x<;>first|rfl|(exfalso;exact hc ⟨_,_,_,rfl⟩)
  rw[e];exact .val _ _ (h.vs BY hl hob)
theorem RepL.vs{I:Nat->Nat->Prop}{θ:Nat->Option (Nat×Nat)}{w:World}{vs:List Value}{xs:List AV}(BY:Kh I own θ w)(hl:∀ k o,Aj l k=some o->own k=some o)(h:RepL I own θ w vs xs) :
  (∀ p∈AV.vsObAll l xs,p)->RepL (JE l θ I) it θ' w vs (xs.map (AV.vsA l)):=by
 induction h with
 | nil=>exact λ_=>.nil
 | cons h _ ih=>
  intro hob;simp only[AV.vsObAll,zzL8]at hob;exact .cons (h.vsA BY hl λp hp=>hob p (.inl hp)) (ih λp hp=>hob p (.inr hp))
theorem AY:∀{H:List (Nat×Own)} {nm:Nat} {o:Own},QI H->Aj H nm=some o->zF o
 | [],nm,o,_,h=>by cases h
 | (n,o')::r,nm,o,hf,h=>by
  simp only[Aj]at h
  cases hb:Nat.beq n nm with
  | true=>rw[hb]at h;simp only[Ah,Ax]at h;rw[<- h];exact hf.1
  | false=>rw[hb]at h;exact AY hf.2 h
theorem Rep.flatC{I:Nat->Nat->Prop}{θ:Nat->Option (Nat×Nat)}{w:World}(h:Rep I own θ w v x)(hx:x.flatC=true):Rep I' own θ w v x:=by
 cases x with
 | omap nm=>obtain⟨y,h1,h2⟩:=h.omap_inv;rw[h2];exact .omap nm y h1
 | vsl nm n=>obtain⟨sz,e,m,f,a,cap,rfl,ho,hm,IN,Is,hn,hv⟩:=h.vsl_inv;exact .vsl nm sz e m f a n cap ho hm IN Is hn hv
 | ptr nm off=>obtain⟨e,cells,g,c,ho,hg,rfl⟩:=h.ptr_inv;exact .ptr nm off e _ g c ho hg
 | nilp=>obtain rfl:=h.nilp_inv;exact .val _ _ .nilp
 | _=>exact .val _ _ (h.flat hx)
theorem Rep.flatR{I:Nat->Nat->Prop}{θ:Nat->Option (Nat×Nat)}{w:World}(h:Rep I own θ w v x)(hx:x.flatR=true):Rep I' own θ w v x:=by
 cases x with
 | tuple cs=>
  obtain⟨vs,rfl,hl,hr⟩:=h.tuple_inv;refine .tuple vs cs hl λj hj=>(hr j hj).flatC ?_;have hx:cs.all _=true:=hx
  grind
 | _=>exact h.flatC hx
theorem Rep.flatD{I:Nat->Nat->Prop}{θ:Nat->Option (Nat×Nat)}{w:World}(h:Rep I own θ w v x)(hx:x.flatD=true)(hn:x.flatN):Rep I' own θ w v x:=by
 cases x with
 | slice sz n f t=>
  cases t with
  | own nm=>
   subst hn
   cases h with
   | val v x h=>cases h
   | own nm sz e m a n cap f ho hm hv h=>
    refine .own nm sz e m a 0 cap f ho hm hv ?_
    cases h with
    | slice a n cap sz f us IN Is hz hn h1 hl hr=>
     exact .slice a 0 cap sz f us IN Is (λhp=>absurd hp (GO 0)) hn (λj hj=>by simp at hj) (λi hi=>absurd hi (W4 i)) (λi c hi=>absurd hi (W4 i))
  | _=>trivial
 | _=>exact h.flatC hx
theorem QJ:∀{l:List AV} (j:Nat),j8 l->(l.getD j .any).flatN
 | [],j,_=>by trivial
 | x::l,0,h=>by simpa using h.1
 | x::l,j+1,h=>by simpa using QJ j h.2
theorem sI{I I1:Nat->Nat->Prop}{w:World}{θ0:Nat->Option (Nat×Nat)}(hI:∀ b o,I b o->I1 b o)(ab5:∀ b o,I b o->∃ u,w.cell? ⟨b,o,none⟩=some u)
  (kc:Chg (λ_=>none) θ0 I1 w (Aj H) θ' I' w') (hf:QI H) (hx:x.flatR=true) (hr:Rep I' (Aj H) θ' w' v x):Chg (λ_=>none) θ0 I w (Aj H) θ' I w'/\Rep I (Aj H) θ' w' v x:=by
 refine⟨{ imm:=λ_ _ h=>h,cell:=λb o h=>kc.cell b o (hI b o h),le:=(λ_ _ h=>by cases h),rel:=⟨λnm e0 cells hn=>?_,λnm sz e m hn=>?_,kc.rel.inj,λnm sz e m f hn=>?_,λnm y hn=>?_,λnm sz m hn=>?_⟩,valid:=λb o h=>?_,os:=kc.os,tape:=kc.tape,output:=kc.output,drawn:=kc.drawn,grow:=kc.grow,frame:=kc.frame,new:=kc.new,immNew:=λb o h=>.inl h },hr.flatR hx⟩
 ·have hfl :=AY hf hn;obtain⟨hfl,hfn⟩:=hfl;obtain⟨g,c,vs,h1,h2,h3,h4,h5,h6⟩:=kc.rel.row nm e0 cells hn;refine⟨g,c,vs,h1,h2,h3,h4,λj hj=>(h5 j hj).flatD ?_ (QJ j hfn),λj hj=>h6 j (kc.imm _ _ (hI _ _ hj))⟩
  grind
 ·intro g c hg;obtain⟨OF,fz,r1,r2,r3,r4,r5,r6⟩:=kc.rel.tok nm sz e m hn g c hg;exact⟨OF,fz,r1,r2,r3,r4,r5,λj hj=>r6 j (kc.imm _ _ (hI _ _ hj))⟩
 ·have hfl :=AY hf hn;obtain⟨h1,h2⟩:=kc.rel.arr nm sz e m f hn;refine⟨h1,λg c hg=>?_⟩;obtain⟨OF,r1,r2,r3,r4,r5,r6,r7⟩:=h2 g c hg;exact⟨OF,r1,r2,r3,r4,r5,λi j hi hj=>⟨(r6 i j hi hj).1,(.val _ _ ((r6 i j hi hj).2.flat (Sl (hfl i hi) j)))⟩,λj hj=>r7 j (kc.imm _ _ (hI _ _ hj))⟩
 ·have hfl:=AY hf hn
  cases y with
  | map nn k l=>
   rcases kc.rel.obj nm _ hn with⟨g,c,o,h1,h2,h3,h4⟩|h1
   ·refine .inl ⟨g,c,o,h1,h2,?_,λj hj=>h4 j (kc.imm _ _ (hI _ _ hj))⟩
    cases h3 with
    | map es nn k l hs hr=>
     refine .map es nn k l hs λi hi=>?_;obtain⟨u,g1,g2,g3⟩:=hr i hi;refine⟨u,g1,g2.flat (hfl _ ?_),g3⟩
     grind
   ·exact .inr h1
  | pmap nn k l=>
   rcases kc.rel.obj nm _ hn with⟨g,c,o,h1,h2,h3,h4⟩|h1
   ·refine .inl ⟨g,c,o,h1,h2,?_,λj hj=>h4 j (kc.imm _ _ (hI _ _ hj))⟩
    cases h3 with
    | pmap es nn k l0 l hp hk hs hr=>
     refine .pmap es nn k l0 l hp hk hs λi hi=>?_;obtain⟨u,g1,g2,g3⟩:=hr i hi;refine⟨u,g1,g2.flat (hfl _ (hp.mem_iff.1 ?_)),g3⟩
     grind
   ·exact .inr h1
  | _=>trivial
 ·exact kc.rel.tok8 nm sz m hn
 ·obtain⟨u,hu⟩:=ab5 b o h;exact⟨u,(kc.cell b o (hI b o h)).trans hu⟩
theorem nA(h:Rel Γ σ I θ a w)(hd:∀ d,o.dst=some d->d<Γ.n){vs:List AV}(hex:(execOp a.eval o).run P w=(callFunc f ws.toArray).run P w)(hvs:RepL I σ.own θ w ws vs)
  {r:Xf}  (hes:es=(HK r).map σ.own)  (he:rI (Spec P) f vs es r=some e) (hob:∀ p∈e.ob,p):Hq P Γ σ o a w e.v e.wo:=by
 unfold rI at he
 cases hvw:r.vw with
 | nil=>
  rw[hvw]at he;exact tQ h hd hex hvs (by grind [HK]) he hob
 | cons n0 ns0=>
  have hnn:bb r.vw=false:=by rw[hvw];rfl
  rw[hnn,Ar]at he
  cases hc:(bb r.hs&&r.res.flatR&&V2 (es.drop r.vw.length) r) with
  | false=>grind
  | true=>
   rw[hc,Ah,Ax]at he;subst he;simp only[Az]at hc;obtain⟨⟨c1,c2⟩,c3⟩:=hc
   have hhs:r.hs=[]:=by cases hh:r.hs with|nil=>rfl|cons _ _=>rw[hh]at c1;cases c1
   obtain⟨ak0,al2⟩:=hob _ (zzL44 ..);have hfl:QI r.H:=hob _ (Mo _ (zzL44 ..));have hvo:∀ p∈AV.vsObAll (Va r.vw es) vs,p:=λp hp=>hob p (Mo _ (Mo _ hp))
   have ai8:es=r.vw.map σ.own++(r.hs.map (·.1)++r.fr.map (·.2)).map σ.own:=by rw[hes];simp[HK]
   have ak7:es.drop r.vw.length=(r.hs.map (·.1)++r.fr.map (·.2)).map σ.own:=by
    rw[ai8]
    have:(r.vw.map σ.own).length=r.vw.length:=by simp
    rw[<- this,List.drop_left]
   have hlk:∀ k o,Aj (Va r.vw es) k=some o->σ.own k=some o:=λk o hk=>by grind [GK]
   refine g6 (H:=[]) h hd (hex.trans (ak0 _ _)) ak7 (by rw[hhs];rfl) c3 λ_ _=>?_
   have ab5:∀ b o,JE (Va r.vw es) θ I b o->∃ u,w.cell? ⟨b,o,none⟩=some u:=λb o hb=>by
    rcases hb with hb|⟨nm,sz,e,m,f,c,h1,h2,h3⟩
    ·exact h.chg.valid b o hb
    ·obtain⟨OF,r1,r2,r3,r4,_⟩:=(h.chg.rel.arr nm sz e m f (hlk _ _ h1)).2 b c h2;have:m*sz<=c*sz:=Hp _ r2;exact⟨_,by rw[Ot w b o OF e (0,0) r1];exact O1 (by omega)⟩
   have hII:∀ b o,I b o->JE (Va r.vw es) θ I b o:=λ_ _ h=>.inl h;have e1:(Aj (List.map (λx:Nat×Own=>(x.1,x.2.ren r.hs)) []):Nat->Option Own)=λ_=>none:=rfl;have e2:(Aj []:Nat->Option Own)=λ_=>none:=rfl
   have hrel0:Kh (JE (Va r.vw es) θ I) (Aj []) (λn=>(Aj (Md r.hs) n).bind θ) w:=by
    rw[e2];exact⟨(λ_ _ _ h=>by cases h),(λ_ _ _ _ h=>by cases h),(λ_ _ _ _ _ h=>(h rfl).elim),(λ_ _ _ _ _ h=>by cases h),(λ_ _ h=>by cases h),(λ_ _ _ h=>by cases h)⟩
   have hcalls:=al2 w (JE (Va r.vw es) θ I) (λn=>(Aj (Md r.hs) n).bind θ) ws.toArray (by simpa using hvs.vs h.chg.rel hlk hvo) hrel0 ab5 (λg cells hg=>(h.glob g cells hg).mono hII (λ_ _ _=>rfl));refine Calls.mono hcalls λe' w' hq=>?_;obtain⟨v,I',θ',he',kc,hres⟩:=hq;rw[e2]at kc;obtain⟨k1,k2⟩:=sI hII h.chg.valid kc hfl c2 hres
   grind
end
section
variable {P:Program} {Γ:Ip} {σ:Sto} {I:Nat->Nat->Prop} {θ:Nat->Option (Nat×Nat)} {a:Act} {w:World} {o:Oper}
theorem WA(h:Rel Γ σ I θ a w)(x:Operand):Rep I σ.own θ w (a.eval x) (f5 σ.tmp x):=by
 cases x with
 | tmp t=>exact h.slots t
 | const v=>exact QY  v
 | global g=>
  show Rep I _ θ w _ (match mg g with|some cells=>.rptr cells|none=>.any)
  cases hg:mg g with
  | none=>exact .val _ _ (.any _)
  | some cells=>exact .val _ _ (h.glob g _ hg)
 | func f=>exact .val _ _ (.clo f)
theorem pp(h:Rel Γ σ I θ a w)(l:List Operand):RepL I σ.own θ w (l.map a.eval) (l.map (f5 σ.tmp)):=by
 induction l with
 | nil=>exact .nil
 | cons x l ih=>exact .cons (WA h x) ih
theorem WC(h:Rep I σ.own θ w v x)(hγ:gd=true->γ=true)(ht:∀ p∈x.there γ gd,p):Rep I σ.own θ w v x.uncond:=by
 cases x with
 | cond c y=>
  obtain⟨h1,_⟩:=h.cond_inv
  apply h1
  cases gd with
  | false=>exact ht _ (by simp[AV.there])
  | true=>exact ht (γ=true->c=true) (by simp[AV.there]) (hγ rfl)
 | _=>exact h
theorem iP{l:List Value}(h:RepL I σ.own θ w l m)(hγ:gd=true->γ=true)(ht:∀ p∈(m.map (AV.there γ gd)).flatten,p):RepL I σ.own θ w l (m.map AV.uncond):=by
 induction h with
 | nil=>exact .nil
 | cons h _ ih=>
  simp only[Db,List.flatten_cons,zzL8]at ht;exact .cons (WC h hγ λp hp=>ht p (.inl hp)) (ih λp hp=>ht p (.inr hp))
theorem LM{ps:List Prop}{b:Bool}(hx:x.boolIn=some (ps,b))(h:Rep I σ.own θ w v x)(hp:∀ p∈ps,p):v = .bool b:=by
 unfold AV.boolIn at hx
 split at hx
 ·obtain⟨rfl,rfl⟩:=hx;exact h.bool_inv
 ·obtain⟨rfl,rfl⟩:=hx;exact(h.cond_inv.1 (hp _ (by simp))).bool_inv
 ·cases hx
theorem yC(h:Rel Γ σ I θ a w)(hd:∀ d,o.dst=some d->d<Γ.n){vs:List AV}(hp:JY o=true)(hvs:RepL I σ.own θ w (o.op.operands.toList.map a.eval) vs)(hγ:gd=true->γ=true)
  (hth:∀ p∈HQ γ gd vs,p)  (he:rJ vs=some e) (hob:∀ p∈e.ob,p):Hq P Γ σ o a w e.v e.wo:=by
 unfold JY at hp
 split at hp
 ·rename_i c x y ho
  simp only[ho,Op.operands,Db,K8]at hvs;obtain⟨vc,vx,vy,rfl,hc,hx,hy⟩:=hvs.three;simp only[rJ]at he
  split at he
  ·rename_i cb pa xa pb xb hcu hxa hyb
   simp only[Ax]at he;subst he;have hc':=WC hc hγ hth;rw[hcu]at hc';have ec:=hc'.bool_inv;simp only[zzL8]at hob
   cases cb with
   | true=>
    have ex:=LM hxa hx (λp hp=>hob _ (.inl (zzL16.2 ⟨p,hp,rfl⟩)) rfl);exact Bv h hd (v:=.bool xa) (by simp[execOp,ho,ec,ex,asBool]) (.val _ _ (.bool _))
   | false=>
    have ey:=LM hyb hy (λp hp=>hob _ (.inr (zzL16.2 ⟨p,hp,rfl⟩)) rfl);exact Bv h hd (v:=.bool xb) (by simp[execOp,ho,ec,ey,asBool]) (.val _ _ (.bool _))
  ·cases he
 ·cases hp
theorem RepL.append{l l':List Value}{m':List AV}(h:RepL I own θ w l m)(h':RepL I own θ w l' m'):RepL I own θ w (l++l') (m++m'):=by
 induction h with
 | nil=>exact h'
 | cons h _ ih=>exact .cons h ih
theorem nN{own:Nat->Option Own}:∀{l:List Value} {m:List AV},l.length=m.length->(∀ j,j<m.length->Rep I own θ w (l.getD j undef) (m.getD j .any))->RepL I own θ w l m
 | [],[],_,_=>.nil
 | [],_::_,h,_=>by simp at h
 | _::_,[],h,_=>by simp at h
 | v::l,x::m,h,hr=>.cons (by simpa using hr 0 (by simp)) (nN (by simpa using h) λj hj=>by simpa using hr (j+1) (by simpa using hj))
theorem QX{l:Array Value}(h:l.size=m.length)(hr:∀ j,j<m.length->Rep I own θ w (l.getD j undef) (m.getD j .any)):RepL I own θ w l.toList m:=
 nN (by simpa using h) λj hj=>by
  simp_all
theorem bS(h:Rel Γ σ I θ a w)(hd:∀ d,o.dst=some d->d<Γ.n){vs:List AV}(hvs:vs=o.op.operands.toList.map (f5 σ.tmp)){r:Option Xf}(hes:es=(Yd o vs r).map σ.own){ac9:Nat}(hγ:gd=true->γ=true)
  (hth:∀ p∈(bif JY o then HQ γ gd vs else(vs.map (AV.there γ gd)).flatten),p) 
  (he:md P (Spec P) ac9 o vs es r=some e) (hob:∀ p∈e.ob,p) :
  Hq P Γ σ o a w e.v e.wo:=by
 have ac3:RepL I σ.own θ w (o.op.operands.toList.map a.eval) vs:=by rw[hvs];exact pp h _
 unfold md at he
 cases hp:JY o with
 | true=>
  simp only[hp,Ah]at he hth;exact yC h hd hp ac3 hγ hth he hob
 | false=>
  simp only[hp,Ar]at he hth;have hun:=iP ac3 hγ hth
  cases hc:UG o with
  | false=>
   simp only[hc,Ar]at he;exact fc h hd hun (by rw[hes];simp[Yd,hc]) he hob
  | true=>
   simp only[hc,Ah]at he
   split at he
   ·rename_i f az r' hf
    unfold sE at hf
    split at hf
    ·rename_i g xs ts ho
     simp only[Ax,P6]at hf;obtain⟨rfl,rfl⟩:=hf
     have e1:o.op.operands.toList.map a.eval = .func (.func g) #[] #[]::xs.toList.map a.eval:=by rw[ho];simp[Op.operands,Call.operands,Act.eval]
     have hl:RepL I σ.own θ w (xs.toList.map a.eval) ((vs.map AV.uncond).drop 1):=by
      rw[e1]at hun
      generalize vs.map AV.uncond=m at hun
      cases hun with|cons _ t=>simpa using t
     refine nA (ws:=xs.toList.map a.eval) h hd ?_ hl (by rw[hes];simp[Yd,hc]) he hob
     have e2:(xs.toList.map a.eval).toArray=xs.map a.eval:=by apply Wy;simp
     rw[e2];simp[execOp,ho,resolve,invoke,Deferred.ofValue,Act.eval]
    ·rename_i t xs ts ho
     split at hf
     ·rename_i g fs cs rest hm
      simp only[Ax,P6]at hf;obtain⟨rfl,rfl⟩:=hf
      have e1:o.op.operands.toList.map a.eval=a.eval (.tmp t)::xs.toList.map a.eval:=by rw[ho];simp[Op.operands,Call.operands]
      rw[e1,hm]at hun
      cases hun with
      | cons hh ht=>
       obtain⟨fv,cv,hv,l1,l2,r1,r2⟩:=hh.clo_inv;have hR:RepL I σ.own θ w (fv.toList++xs.toList.map a.eval++cv.toList) (fs++rest++cs):=RepL.append (RepL.append (QX l1 r1) ht) (QX l2 r2);refine nA (ws:=fv.toList++xs.toList.map a.eval++cv.toList) h hd ?_ hR (by rw[hes];simp[Yd,hc]) he hob
       have e2:(fv.toList++xs.toList.map a.eval++cv.toList).toArray=fv++xs.map a.eval++cv:=by apply Wy;simp
       rw[e2];simp[execOp,ho,resolve,invoke,Deferred.ofValue,hv]
     ·cases hf
    ·cases hf
   ·cases he
theorem iO{wo:List (Nat×Own)}(h:Rel Γ (σ.upd d x wo) I θ a w)(hxy:AVle x y):Rel Γ (σ.upd d y wo) I θ a w:=by
 refine⟨h.size,h.defers,λt=>?_,h.chg⟩;have:=h.slots t;simp only[Sto.upd]at this ⊢
 split
 ·rename_i hdt
  rw[if_pos hdt]at this;exact hxy _ _ _ _ _ this
 ·grind
theorem dD{wo:List (Nat×Own)}(h:∀ p∈(TP y wo).2,p):(TP y wo).1=wo:=by
 unfold TP at h ⊢
 split at h
 ·have:=h _ (zzL10.2 rfl);subst this
  rfl
 ·rfl
theorem QE{c:Option AV}(hob:∀ p∈(TO c e).ob,p):(∀ p∈e.ob,p)/\(TO c e).wo=e.wo/\AVle e.v (TO c e).v:=by
 unfold TO at hob ⊢
 split at hob
 ·exact⟨hob,rfl,λ_ _ _ _ _ h=>h⟩
 ·refine⟨λp hp=>hob p (zzL8.2 (.inl hp)),dD λp hp=>hob p (zzL8.2 (.inr (Mo _ hp))),hob _ (zzL8.2 (.inr (by simp)))⟩
theorem t8{wo:List (Nat×Own)}{c:Bool}(h:Rel Γ (σ.upd d x wo) I θ a w)(hc:c=true):Rel Γ (σ.upd d (.cond c x) wo) I θ a w:=by
 refine⟨h.size,h.defers,λt=>?_,h.chg⟩;have:=h.slots t;simp only[Sto.upd]at this ⊢
 split
 ·rename_i hdt
  rw[if_pos hdt]at this;exact .cond _ _ _ (λ_=>this) (λhf=>by rw[hc]at hf;cases hf)
 ·grind
theorem gM{ag0:Bool}(hg:o.guard=some (j,ag0)){oj:Oper}(hj:ops[j]?=some oj){t:Nat}(ht:oj.dst=some t)(h:Rel Γ σ I θ a w)(hγ:sY ag0 (σ.tmp t)=some γ) :
  Region.wanted o (yielded ops a.tmps)=γ:=by
 have hs:=h.slots t
 have hy:yielded ops a.tmps j=match a.tmps.getD t undef with | .bool b=>some b|_=>none:=by
  simp only[yielded,hj,Am,ht]
  by_cases hlt:t<a.tmps.size
  ·obtain⟨u,hu,hu'⟩:=HH  hlt;rw[hu,hu']
   cases u<;>rfl
  ·simp[ hlt,undef]
 simp only[Region.wanted,hg,hy];unfold sY at hγ
 split at hγ
 ·rename_i b hb
  rw[hb]at hs;rw[hs.bool_inv];simp only[Ax]at hγ;subst hγ
  cases b<;>cases ag0<;>rfl
 ·rename_i c b hb
  rw[hb]at hs;obtain⟨h1,h2⟩:=hs.cond_inv;simp only[Ax]at hγ;subst hγ
  cases c with
  | true=>rw[(h1 rfl).bool_inv];cases b<;>cases ag0<;>rfl
  | false=>rw[h2 rfl];rfl
 ·rename_i hb
  rw[hb]at hs;rw[hs.undef_inv];simp only[Ax]at hγ;subst hγ
  rfl
 ·cases hγ
theorem s7{z:AV}(h:x.merge γ y=some z):z=bif γ then y else x:=by
 cases x<;>cases y<;>simp only[AV.merge,reduceCtorEq,Ax]at h<;>try (cases h;done)
 case int.int k a k' b=>
  cases hk:be k k' with
  | false=>simp[hk]at h
  | true=>obtain rfl:=BB hk;simp only[hk,Ah,Ax]at h;subst h;cases γ<;>rfl
 case bool.bool=>subst h;cases γ<;>rfl
 case str.str=>subst h;cases γ<;>rfl
 case nilp.nilp=>subst h;cases γ<;>rfl
 case omap.omap n n'=>
  cases hb:Nat.beq n n' with
  | false=>simp[hb]at h
  | true=>obtain rfl:=Ez hb;simp only[hb,Ah,Ax]at h;subst h;cases γ<;>rfl
 case any.any=>subst h;cases γ<;>rfl
 case ptr.ptr n o n' o'=>
  cases hb:(Nat.beq n n'&&Nat.beq o o') with
  | false=>simp[hb]at h
  | true=>
   simp_all
 case nilm.nilm=>subst h;cases γ<;>rfl
 case err.err=>subst h;cases γ<;>rfl
 case vsl.vsl n k n' k'=>
  cases hb:Nat.beq n n' with
  | false=>simp[hb]at h
  | true=>obtain rfl:=Ez hb;simp only[hb,Ah,Ax]at h;subst h;cases γ<;>rfl
 case slice.slice sz n f t sz' n' f' t'=>
  cases t<;>cases t'<;>simp only[AV.merge,reduceCtorEq]at h
  ·cases hb:Nat.beq sz sz' with
   | false=>simp[hb]at h
   | true=>
    obtain rfl:=Ez hb;simp only[hb,Ah,Ax]at h;subst h;cases γ<;>rfl
  ·rename_i k k'
   cases hb:(Nat.beq sz sz'&&Nat.beq k k') with
   | false=>simp[hb]at h
   | true=>
    simp only[hb,Ah,Ax]at h;simp only[Az]at hb;obtain rfl:=Ez hb.1;obtain rfl:=Ez hb.2;subst h;cases γ<;>rfl
theorem QO{γ:Bool}:∀{l m r:List AV},AV.mergeAll γ l m=some r->r=bif γ then m else l
 | [],[],r,h=>by simp only[AV.mergeAll,Ax]at h;subst h;cases γ<;>rfl
 | [],_::_,r,h=>by simp[AV.mergeAll]at h
 | _::_,[],r,h=>by simp[AV.mergeAll]at h
 | x::l,y::m,r,h=>by
  simp only[AV.mergeAll]at h
  split at h
  ·rename_i z q h1 h2
   simp only[Ax]at h;subst h;rw[s7 h1,QO h2]
   cases γ<;>rfl
  ·cases h
theorem QV{x y z:Own}(h:x.merge γ y=some z):z=bif γ then y else x:=by
 cases x<;>cases y<;>simp only[Own.merge,reduceCtorEq]at h
 ·rename_i e l e' m
  cases hb:Nat.beq e e' with
  | false=>simp[hb]at h
  | true=>
   obtain rfl:=Ez hb;simp only[hb,Ah]at h
   split at h
   ·rename_i r hr
    simp only[Ax]at h;subst h;rw[QO hr]
    cases γ<;>rfl
   ·cases h
 ·rename_i sz e n sz' e' n'
  cases hs:Nat.beq sz sz' with
  | false=>simp[hs]at h
  | true=>
   cases hb:Nat.beq e e' with
   | false=>simp[hb]at h
   | true=>
    obtain rfl:=Ez hb;obtain rfl:=Ez hs;simp only[hb,hs,Bool.and_self,Ah,Ax]at h;subst h
    cases γ<;>rfl
 ·rename_i sz e n f sz' e' n' f'
  cases hs:Nat.beq sz sz' with
  | false=>simp[hs]at h
  | true=>
   cases hb:Nat.beq e e' with
   | false=>simp[hb]at h
   | true=>
    obtain rfl:=Ez hb;obtain rfl:=Ez hs;simp only[hb,hs,Bool.and_self,Ah,Ax]at h;subst h
    cases γ<;>rfl
 ·rename_i x y
  cases x<;>cases y<;>simp only[reduceCtorEq]at h
  rename_i nn k l nn' k' l'
  cases hn:nn==nn' with
  | false=>simp[hn]at h
  | true=>
   cases hk:be k k' with
   | false=>simp[hk]at h
   | true=>
    obtain rfl:=BB hk
    obtain rfl:nn=nn':=by simpa using hn
    simp only[hn,hk,Bool.and_self,Ah,Ax]at h;subst h
    cases γ<;>rfl
theorem h9{own:Nat->Option Own}:∀{ns:List Nat} {n:Nat} {o:Own},hZ ns (ns.map own) n=some o->own n=some o
 | [],n,o,h=>by simp[hZ]at h
 | k::ns,n,o,h=>by
  simp only[Db,hZ]at h
  cases hb:Nat.beq k n with
  | true=>simp_all
  | false=>simp only[hb]at h;exact h9 h
theorem MB{ns:List Nat}{es:List (Option Own)}:∀{wo wo':List (Nat×Own)},Xu true ns es wo=some wo'->wo'=wo
 | [],wo',h=>by simp only[Xu,Ax]at h;exact h.symm
 | (n,o)::r,wo',h=>by
  simp only[Xu]at h
  split at h
  ·cases h
  ·rename_i r' h2
   have h2:=MB h2;subst h2
   split at h
   ·split at h
    ·rename_i z h1
     simp only[Ax]at h;subst h;rw[QV h1]
     rfl
    ·grind
   ·grind
theorem IZ{own:Nat->Option Own}{ns:List Nat}:∀{wo wo':List (Nat×Own)},Xu false ns (ns.map own) wo=some wo'->∀ n o,Aj wo' n=some o->own n=some o
 | [],wo',h=>by simp only[Xu,Ax]at h;subst h;intro n o h;cases h
 | (n,o)::r,wo',h=>by
  simp only[Xu]at h
  split at h
  ·cases h
  ·rename_i r' h2
   have h2:=IZ h2
   split at h
   ·rename_i o' ho'
    split at h
    ·rename_i z h1
     simp only[Ax]at h;subst h;intro k q hk;simp only[Aj]at hk
     cases hb:Nat.beq n k with
     | true=>
      obtain rfl:=Ez hb;simp only[hb,Ah,Ax]at hk;subst hk;rw[QV h1];exact h9 ho'
     | false=>grind
    ·grind
   ·grind
theorem uW{wo:List (Nat×Own)}(h:∀ n o,Aj wo n=some o->σ.own n=some o):σ.upd d x wo=σ.upd d x []:=by
 simp only[Sto.upd,Sto.mk.injEq,true_and]
 funext n
 cases hl:Aj wo n with
 | none=>rfl
 | some o=>simp[h n o hl,Aj]
theorem k7(hi:ops[i]?=some o)(h:Rel Γ σ I θ a w)(hd:∀ d,o.dst=some d->d<Γ.n){vs:List AV}(hvs:vs=o.op.operands.toList.map (f5 σ.tmp)){gv:Option (AV×Bool)}(hgv:FF ops.toList σ.tmp o=some gv)
  {r:Option Xf}  (hes:es=(Yd o vs r).map σ.own) {cs:Option AV} {e:Ad5} (he:uM P (Spec P) cs o vs gv es r=some e) (hob:∀ p∈e.ob,p)
  (K:Act->World->Prop) (Q:Exit->Act->World->Prop) (hK:∀ I' θ' a' w',Rel Γ (σ.upd o.dst e.v e.wo) I' θ' a' w'->K a' w'):wpOp P ops Q i K a w:=by
 unfold uM at he;unfold FF at hgv;unfold wpOp;simp only[hi]
 cases hg:o.guard with
 | none=>
  simp only[hg,Ax]at hgv;subst hgv;simp only at he
  split at he
  ·rename_i ef' hef'
   obtain⟨ef,hef,rfl⟩:=zzL89.1 hef';simp only[Ax]at he;subst he;simp only[zzL8]at hob;obtain⟨c1,c2,c3⟩:=QE (λp hp=>hob p (.inr hp));rw[if_pos (by simp[Region.wanted,hg])];have hok:=bS h hd hvs hes (γ:=true) (gd:=false) (λh=>by cases h) (λp hp=>hob p (.inl hp)) hef c1;refine .inl (hok K Q λI' θ' a' w' hr=>hK I' θ' a' w' ?_);rw[c2];exact iO hr c3
  ·cases he
 | some gg=>
  obtain⟨j,ag0⟩:=gg;simp only[hg]at hgv
  split at hgv
  ·rename_i oj hoj
   split at hgv
   ·rename_i t ht
    simp only[Ax]at hgv;subst hgv;simp only at he
    split at he
    ·rename_i γ ef' hγ hef'
     obtain⟨ef,hef,rfl⟩:=zzL89.1 hef'
     split at he
     ·rename_i wo hwo
      simp only[Ax]at he;subst he
      have hj :=by simpa using hoj
      have hw:=gM hg hj ht h hγ;rw[hw];simp only[zzL8]at hob
      cases γ with
      | false=>
       rw[hes]at hwo;have hs:=uW (σ:=σ) (d:=o.dst) (x:=.cond false (TO (kZ o cs) ef).v) (IZ hwo);refine hK I θ _ _ ?_;rw[hs];exact MM h (.refl h.chg.rel h.chg.valid)  (.cond _ _ _ (λhf=>by cases hf) (λ_=>rfl)) hd
      | true=>
       obtain⟨c1,c2,c3⟩:=QE  (e:=ef) (λp hp=>hob _ (.inr (zzL16.2 ⟨p,hp,rfl⟩)) rfl);have hok:=bS h hd hvs hes (γ:=true) (gd:=true) (λ_=>rfl) (λp hp=>hob p (.inl hp)) hef c1;have hm:=MB hwo;rw[c2]at hm;subst hm;exact .inl (hok K Q λI' θ' a' w' hr=>hK I' θ' a' w' (t8 (iO hr c3) rfl))
     ·cases he
    ·cases he
   ·cases hgv
  ·cases hgv
end
structure Ev where
 rt:List (Nat×AV)
 ro:List (Nat×Option Own)
 wt:Option Nat
 v:AV
 wo:List (Nat×Own)
def Ev.ok(σ:Sto)(e:Ev):Prop:=(∀ p∈e.rt,σ.tmp p.1=p.2)/\∀ p∈e.ro,σ.own p.1=p.2
def Ev.app(σ:Sto)(e:Ev):Sto:=σ.upd e.wt e.v e.wo
def Ev.tr(e:Ev):Tr:=⟨e.rt.map (·.1),e.wt,e.ro.map (·.1),e.wo.map (·.1)⟩
structure IR(x y:Ev):Prop where
 a:∀ d,x.wt=some d->d∉y.rt.map (·.1)
 b:∀ d,x.wt=some d->y.wt≠some d
 c:∀ d,y.wt=some d->d∉x.rt.map (·.1)
 d:∀ n∈x.wo.map (·.1),n∉y.ro.map (·.1)/\n∉y.wo.map (·.1)
 e:∀ n∈y.wo.map (·.1),n∉x.ro.map (·.1)
theorem MD{l:List Nat}(h:(!Ce n l)=true):n∉l:=λhm=>by rw[memB_mem.2 hm]at h;cases h
theorem dK{x y:Ev}(h:kC x.tr y.tr=true):IR x y:=by
 simp only[kC,Ev.tr,Az]at h;obtain⟨⟨⟨h1,h2⟩,h3⟩,h4⟩:=h;refine⟨λd hd=>?_,λd hd=>?_,λd hd=>?_,λn hn=>?_,λn hn=>?_⟩
 ·rw[hd]at h1;simp only[Az]at h1;exact MD h1.1
 ·rw[hd]at h1;intro he;rw[he]at h1;simp at h1
 ·rw[hd]at h2;exact MD h2
 ·have:=zzL21.1 h3 n hn;simp only[Az]at this;exact⟨MD this.1,MD this.2⟩
 ·exact MD (zzL21.1 h4 n hn)
inductive fQ:List (Nat×Ev)->Sto->Sto->Prop
 | nil (σ:Sto):fQ [] σ σ
 | cons {i:Nat} {e:Ev} {l:List (Nat×Ev)} {σ σ':Sto} (h:e.ok σ) (t:fQ l (e.app σ) σ'):fQ ((i,e)::l) σ σ'
theorem mO(σ:Sto)(e:Ev)(t:Nat)(h:e.wt≠some t):(e.app σ).tmp t=σ.tmp t:=by simp[Ev.app,Sto.upd,h]
theorem mN(σ:Sto)(e:Ev)(n:Nat)(h:n∉e.wo.map (·.1)):(e.app σ).own n=σ.own n:=by simp[Ev.app,Sto.upd,Zd h]
theorem yA{x y:Ev}(hi:IR x y)(h:y.ok (x.app σ)):y.ok σ:=by
 refine⟨λp hp=>?_,λp hp=>?_⟩
 ·rw[<- h.1 p hp,mO];intro he;exact hi.a p.1 he (zzL16.2 ⟨p,hp,rfl⟩)
 ·rw[<- h.2 p hp,mN];intro he;exact(hi.d p.1 he).1 (zzL16.2 ⟨p,hp,rfl⟩)
theorem Ab1{x y:Ev}(hi:IR x y)(h:x.ok σ):x.ok (y.app σ):=by
 refine⟨λp hp=>?_,λp hp=>?_⟩
 ·rw[mO]
  ·exact h.1 p hp
  ·intro he;exact hi.c p.1 he (zzL16.2 ⟨p,hp,rfl⟩)
 ·rw[mN]
  ·exact h.2 p hp
  ·intro he;exact hi.e p.1 he (zzL16.2 ⟨p,hp,rfl⟩)
theorem rO{x y:Ev}(hi:IR x y):x.app (y.app σ)=y.app (x.app σ):=by
 simp only[Ev.app,Sto.upd,Sto.mk.injEq]
 constructor
 ·funext t
  by_cases h1:x.wt=some t
  ·have:=hi.b t h1;simp[ this]
  ·simp[h1]
 ·funext n
  by_cases h1:n∈x.wo.map (·.1)
  ·have:=Zd (hi.d n h1).2;simp[this]
  ·simp[Zd h1]
theorem pw{pre:List (Nat×Ev)}:∀{post:List (Nat×Ev)} {i:Nat} {e:Ev} {σ σ':Sto},fQ (pre++(i,e)::post) σ σ'->(∀ p∈pre,IR p.2 e)->e.ok σ/\fQ (pre++post) (e.app σ) σ':=by
 induction pre with
 | nil=>intro post i e σ σ' h _;cases h with|cons h t=>exact⟨h,t⟩
 | cons p pre ih=>
  intro post i e σ σ' h hi;obtain⟨j,x⟩:=p
  cases h with|cons hx t=>
  obtain⟨h1,h2⟩:=ih t λp hp=>hi p (Mo _ hp);have hxe:=hi (j,x) (by simp);refine⟨yA hxe h1,.cons (Ab1 hxe hx) ?_⟩;rw[rO hxe];exact h2
section
variable {P:Program} {Γ:Ip} {ops:Array Oper} {Q:Exit->Act->World->Prop}
def ca(P:Program)(Γ:Ip)(ops:Array Oper)(Q:Exit->Act->World->Prop)(i:Nat)(e:Ev):Prop:=
 ∀(σ:Sto),e.ok σ->∀(I:Nat->Nat->Prop) (θ:Nat->Option (Nat×Nat)) (a:Act) (w:World),Rel Γ σ I θ a w->∀ K:Act->World->Prop,(∀ I' θ' a' w',Rel Γ (e.app σ) I' θ' a' w'->K a' w')->wpOp P ops Q i K a w
theorem WV:∀(es:List (Nat×Ev)) (σ σ':Sto),(∀ p∈es,ca P Γ ops Q p.1 p.2)->fQ es σ σ'->(∀ I θ a w,Rel Γ σ' I θ a w->Q .normal a w)->
  ∀ I θ a w,Rel Γ σ I θ a w->wpOps P ops Q (es.map (·.1)) a w
 | [],σ,σ',_,hr,hQ,I,θ,a,w,h=>by cases hr;simpa [wpOps] using hQ I θ a w h
 | (i,e)::es,σ,σ',hs,hr,hQ,I,θ,a,w,h=>by
  cases hr with|cons hok t=>
  simp only[Db];exact hs (i,e) (by simp) σ hok I θ a w h _ λI' θ' a' w' h'=>WV es _ σ' (λp hp=>hs p (Mo _ hp)) t hQ I' θ' a' w' h'
inductive yp (ops:Array Oper):Nat->Nat->Prop
 | direct {i:Nat} {o:Oper} {e:Edge} (ho:ops[i]?=some o) (he:e∈o.after) (hb:Region.binds .any e=true):yp ops e.on i
 | trans {i j k:Nat} (h:yp ops i j) (h':yp ops j k):yp ops i k
def qP(ops:Array Oper)(ac0:Array Bool):Prop:=∀ i o,ops[i]?=some o->ac0.getD i false=true->∀ e∈o.after,Region.binds .any e=true->ac0.getD e.on false=true
theorem ji{ac0:Array Bool}(hc:qP ops ac0)(h:yp ops j i):(∀ o,ops[i]?=some o->∀ e∈o.after,Region.binds .any e=true->ac0.getD e.on false=true)->ac0.getD j false=true:=by
 induction h with
 | direct ho he hb=>grind
 | trans _ _ ih1 ih2=>intro hi;exact ih1 λo ho e he hb=>hc _ o ho (ih2 hi) e he hb
theorem bE(hedge:∀ i o,ops[i]?=some o->∀ e∈o.after,Region.binds .any e=true->e.on<i)(σ':Sto)(hQ:∀ I θ a w,Rel Γ σ' I θ a w->Q .normal a w):∀(ah0:Nat) (es:List (Nat×Ev)) (ac0:Array Bool) (σ:Sto),
  (∀ p∈es,ca P Γ ops Q p.1 p.2)->fQ es σ σ'->es.Pairwise (λp q=>p.1<q.1)->ac0.size=ops.size->(∀ j,j∈es.map (·.1)↔j<ops.size/\ac0.getD j true=false)->es.length=ah0->
  (∀ p∈es,∀ q∈es,p.1<q.1->¬ IR p.2 q.2->yp ops p.1 q.1)->qP ops ac0->∀ I θ a w,Rel Γ σ I θ a w->wpAny P .any ops Q ah0 ac0 a w
 | 0,es,ac0,σ,_,hr,_,_,ab3,IT,_,_,I,θ,a,w,h=>by
  have:es=[]:=List.eq_nil_of_length_eq_zero IT;subst this;cases hr;refine⟨?_,hQ I θ a w h⟩
  cases hready:Region.ready .any ops ac0 with
  | nil=>rfl
  | cons i l=>
   have hi:i∈Region.ready .any ops ac0:=by rw[hready];simp
   obtain⟨h1,o,ho,_⟩:=mem_ready.1 hi;have:=(ab3 i).2 ⟨(Array.getElem?_eq_some_iff.1 ho).1,h1⟩
   cases this
 | ah0+1,es,ac0,σ,hs,hr,hpw,hsz,ab3,IT,hdep,hcl,I,θ,a,w,h=>by
  refine⟨λhnil=>?_,λi hi=>?_⟩
  ·cases es with
   | nil=>simp at IT
   | cons p es=>
    obtain⟨i,e⟩:=p;have hi:=(ab3 i).1 (by simp)
    have hin:i∈Region.ready .any ops ac0:=by
     refine mem_ready.2 ⟨hi.2,ops[i]'hi.1,by simp[hi.1],λe' he' hb=>?_⟩;have hlt:=hedge i _ (Array.getElem?_eq_getElem hi.1) e' he' hb
     have hnot:¬ (e'.on∈((i,e)::es).map (·.1)):=by
      intro hm;simp only[Db,zzL31]at hm;rcases hm with hm|hm
      ·omega
      ·obtain⟨q,hq,hq'⟩:=zzL16.1 hm;have:=(zzL99.1 hpw).1 q hq;simp only at this;omega
     rw[ab3]at hnot
     have ag7:e'.on<ops.size:=by omega
     have hls:e'.on<ac0.size:=by omega
     cases hb':ac0.getD e'.on false with
     | true=>rfl
     | false=>
      refine(hnot ⟨ag7,?_⟩).elim
      simpa [Array.getD,hls] using hb'
    rw[hnil]at hin;cases hin
  ·obtain⟨h1,o,ho,am0⟩:=mem_ready.1 hi;have hlt:=(Array.getElem?_eq_some_iff.1 ho).1;have hin:=(ab3 i).2 ⟨hlt,h1⟩;obtain⟨⟨i',e⟩,hie,rfl⟩:=zzL16.1 hin;obtain⟨pre,post,rfl⟩:=List.append_of_mem hie;simp only at *
   have hpre:∀ p∈pre,IR p.2 e:=λp hp=>by
    refine GP λhni=>?_
    have hpi:p.1<i':=by
     have:=(zzL121.1 hpw).2.2 p hp (i',e) (by simp);exact this
    have hanc:=hdep p (by simp[hp]) (i',e) (by simp) hpi hni
    have hl:=ji hcl hanc (λo' ho' e' he' hb=>by
     simp only at ho';rw[ho]at ho';obtain rfl:=OI ho'
     exact am0 e' he' hb)
    have hp':=(ab3 p.1).1 (zzL16.2 ⟨p,by simp[hp],rfl⟩)
    have hls:p.1<ac0.size:=by omega
    simp[Array.getD,hls]at hl hp';rw[hl]at hp';simp at hp'
   obtain⟨hok,hr'⟩:=pw hr hpre
   have hpw':(pre++post).Pairwise (λp q=>p.1<q.1):=by
    refine hpw.sublist ?_;exact List.Sublist.append (List.Sublist.refl _) (List.sublist_cons_self _ _)
   have hsub:∀ p,p∈pre++post->p∈pre++(i',e)::post:=λp hp=>by
    rcases zzL8.1 hp with hp|hp
    ·exact zzL8.2 (.inl hp)
    ·exact zzL8.2 (.inr (Mo _ hp))
   refine hs (i',e) (by simp) σ hok I θ a w h _ λI' θ' a' w' h'=>
    bE hedge σ' hQ ah0 (pre++post) (ac0.setIfInBounds i' true) _ (λp hp=>hs p (hsub p hp)) hr' hpw' (by simp[hsz]) (λj=>?_) (by simp at IT ⊢;omega) (λp hp q hq=>hdep p (hsub p hp) q (hsub q hq)) ?_ I' θ' a' w' h'
   ·have hne:∀ p∈pre++post,p.1≠i':=λp hp he=>by
     rcases zzL8.1 hp with hp|hp
     ·have:=(zzL121.1 hpw).2.2 p hp (i',e) (by simp);simp only at this;omega
     ·have:=(zzL99.1 (zzL121.1 hpw).2.1).1 p hp;simp only at this;omega
    constructor
    ·intro hj;obtain⟨p,hp,rfl⟩:=zzL16.1 hj;have:=(ab3 p.1).1 (zzL16.2 ⟨p,hsub p hp,rfl⟩);refine⟨this.1,?_⟩;rw[getD_set_ne true (Tg (hne p hp))];exact this.2
    ·rintro⟨hj1,hj2⟩
     by_cases hji:j=i'
     ·subst hji
      have hls:j<ac0.size:=by omega
      simp[Array.getD,hls]at hj2
     ·rw[getD_set_ne true (Tg hji)]at hj2;have:=(ab3 j).2 ⟨hj1,hj2⟩;obtain⟨p,hp,rfl⟩:=zzL16.1 this;refine zzL16.2 ⟨p,?_,rfl⟩;rcases zzL8.1 hp with hp|hp
      ·exact zzL8.2 (.inl hp)
      ·rcases zzL31.1 hp with rfl|hp
       ·exact(hji rfl).elim
       ·exact zzL8.2 (.inr hp)
   ·intro x ox hox hx e' he' hb
    apply getD_set_true
    by_cases hxi:i'=x
    ·subst hxi;rw[ho]at hox;obtain rfl:=OI hox;exact am0 e' he' hb
    ·rw[getD_set_ne false hxi]at hx;exact hcl x ox hox hx e' he' hb
end
theorem Kf(l:List (Nat×α))(k:Nat)(x:α)(n:Nat):Aj (E1 l k x) n=if k=n then some x else Aj l n:=by
 induction l with
 | nil=>
  simp only[E1,Aj]
  by_cases h:k=n
  · simp
  ·cases hb:Nat.beq k n with
   | true=>simp_all
   | false=>simp[h]
 | cons p l ih=>
  obtain⟨k',y⟩:=p;simp only[E1]
  cases hb:Nat.beq k' k with
  | true=>
   have:=Ez hb;subst this;simp only[Ah,Aj]
   by_cases h:k'=n
   ·subst h;simp
   ·cases hb:Nat.beq k' n with
    | true=>simp_all
    | false=>simp[h]
  | false=>
   simp only[Ar,Aj,ih]
   cases hb':Nat.beq k' n with
   | true=>
    grind
   | false=>simp
theorem gZ(l r:List (Nat×α))(n:Nat):Aj (VV l r) n=match Aj r n with|some x=>some x|none=>Aj l n:=by
 induction r with
 | nil=>rfl
 | cons p r ih=>
  obtain⟨k,x⟩:=p;simp only[VV,Kf,Aj,ih]
  by_cases h:k=n
  ·subst h;simp
  ·cases hb:Nat.beq k n with
   | true=>simp_all
   | false=>simp[h]
theorem Bg(h:k<B6):Df l r k=Aj l k:=by simp[Df,h]
theorem Tu(b i:Nat):¬ U0 b i<B6:=by unfold U0;have:B6*1<=B6*(b+1):=Nat.mul_le_mul_left _ (by omega);omega
theorem AQ(h:i<B6):U0 b i / B6-1=b:=by
 have h0:0<B6:=by decide
 unfold U0;rw[Nat.mul_add_div h0,Nat.div_eq_of_lt h];omega
theorem Xi(h:i<B6):U0 b i % B6=i:=by
 unfold U0;rw[Nat.mul_add_mod,Nat.mod_eq_of_lt h]
theorem rm(h:¬ k<B6):k=U0 (k / B6-1) (k % B6):=by
 have h0:0<B6:=by decide
 unfold U0;have:1<=k / B6:=(Nat.one_le_div_iff h0).2 (by omega);rw[Nat.sub_add_cancel this,NE]
theorem Du(h:¬ k<B6):Df l r k=(Aj r (k / B6-1)).bind λF=>(F.m (k % B6)).map (Own.tok F.sz F.e):=by simp[Df,h]
theorem TY(h:i<B6):Df l r (U0 b i)=(Aj r b).bind λF=>(F.m i).map (Own.tok F.sz F.e):=by
 rw[Du (Tu b i),AQ h,Xi h]
theorem AS(h:¬ k<B6)(ho:Df l r k=some o):∃ sz e m,o = .tok sz e m:=by
 rw[Du h]at ho;obtain⟨F,_,hF⟩:=zzL103.1 ho;obtain⟨m,_,rfl⟩:=zzL89.1 hF;exact⟨_,_,_,rfl⟩
theorem f8(ho:Df l r k=some o)(hn:∀ sz e m,o≠.tok sz e m):Aj l k=some o:=by
 by_cases hk:k<B6
 ·rw[<- ho,Bg hk]
 ·obtain⟨sz,e,m,rfl⟩:=AS hk ho;exact(hn _ _ _ rfl).elim
theorem NZ{l:List (Nat×α)}{x:α}(h:Aj l n=some x):(n,x)∈l:=by
 induction l with
 | nil=>cases h
 | cons p l ih=>
  obtain⟨k,y⟩:=p;simp only[Aj]at h
  cases hb:Nat.beq k n with
  | true=>
   simp_all
  | false=>grind
theorem VT(h:VS l=true)(hk:Aj l k≠none):k<B6:=by
 cases hx:Aj l k with
 | none=>exact(hk hx).elim
 | some o=>have:=zzL21.1 h _ (NZ hx);simpa [Nc] using this
theorem dF(h:VS l=true):Df l []=Aj l:=by
 funext k
 by_cases hk:k<B6
 ·exact Bg hk
 ·rw[Du hk]
  cases hx:Aj l k with
  | none=>rfl
  | some o=>exact(hk (VT h (by rw[hx];simp))).elim
theorem M9(hn:n<B6)(o:Own)(k:Nat):Df (E1 l n o) r k=if n=k then some o else Df l r k:=by
 by_cases hk:k<B6
 ·rw[Bg hk,Bg hk,Kf]
 ·rw[Du hk,Du hk,if_neg (by rintro rfl;exact hk hn)]
theorem ZY{wo:List (Nat×Own)}(h:HV ns wo=true)(k:Nat):Df (VV l wo) r k=match Aj wo k with|some o=>some o|none=>Df l r k:=by
 simp only[HV,Az]at h
 by_cases hk:k<B6
 ·rw[Bg hk,Bg hk,gZ]
  cases Aj wo k<;>rfl
 ·have hn:Aj wo k=none:=by
   cases hx:Aj wo k with
   | none=>rfl
   | some o=>exact(hk (VT h.2 (by rw[hx];simp))).elim
  rw[hn,Du hk,Du hk]
theorem yW(st:St)(d:Option Nat)(v:AV)(wo:List (Nat×Own))(hok:HV ns wo=true):(st.upd d v wo).sto=st.sto.upd d v wo:=by
 simp only[St.sto,St.upd,Sto.upd,Sto.mk.injEq]
 constructor
 ·funext t
  cases d with
  | none=>simp[St.get]
  | some d=>
   simp only[St.get,Kf]
   by_cases h:d=t<;>simp[h]
 ·funext n
  rw[ZY hok]
  cases Aj wo n<;>rfl
section
variable {P:Program} {Γ:Ip} {ops:Array Oper} {Q:Exit->Act->World->Prop}
theorem o8{g g':Nat->AV}(l:List Operand)(h:∀ t,.tmp t∈l->g t=g' t):l.map (f5 g)=l.map (f5 g'):=by
 apply PC
 intro x hx
 cases x with
 | tmp t=>exact h t hx
 | _=>rfl
theorem QD(cs:List (Nat×AV)):∀(rest:List Oper) (k:Nat) (st:St) (rs:List Xf) (st':St) (obs:List Prop) (trs:List Tr),rQ P (Spec P) Γ.n cs ops.toList rest st rs=some (st',obs,trs)->
  (∀ j,rest[j]?=ops[k+j]?)->(∀ p∈obs,p)->
  ∃ es:List (Nat×Ev),es.map (·.1)=List.range' k rest.length/\fQ es st.sto st'.sto/\(∀ p∈es,ca P Γ ops Q p.1 p.2)/\es.map (λp=>p.2.tr)=trs
 | [],k,st,rs,st',obs,trs,h,_,_=>by
  simp only[rQ,Ax,P6]at h;obtain⟨rfl,rfl,rfl⟩:=h;exact⟨[],rfl,.nil _,(λ_ h=>by cases h),rfl⟩
 | o::rest,k,st,rs,st',obs,trs,h,ai6,hob=>by
  simp only[rQ]at h
  generalize hr:zQ o rs=r at h
  have ho:ops[k]?=some o:=by simpa using(ai6 0).symm
  split at h
  ·cases h
  ·rename_i gv hgv
   split at h
   ·cases h
   ·rename_i e he
    cases hdn:sK Γ.n o&&HV (Yd o (o.op.operands.toList.map (f5 st.get)) r) e.wo with
    | false=>rw[hdn]at h;simp at h
    | true=>
     rw[hdn]at h;simp only[Ah]at h;simp only[Az]at hdn;obtain⟨hd,hnok⟩:=hdn
     have hnlt:∀ n∈Yd o (o.op.operands.toList.map (f5 st.get)) r,n<B6:=λn hn=>by
      have hnok':=hnok;simp only[HV,Az]at hnok';have:=zzL21.1 hnok'.1 n hn
      simpa [Nc] using this
     split at h
     ·cases h
     ·rename_i st1 obs1 trs1 hrec
      simp only[Ax,P6]at h;obtain⟨rfl,rfl,rfl⟩:=h;obtain⟨es,h1,h2,h3,h4⟩:=QD cs rest (k+1) _ _ _ _ _ hrec (λj=>by have:=ai6 (j+1);simpa [DC,Nat.add_comm 1 j] using this) (λp hp=>hob p (zzL8.2 (.inr hp)))
      let ns:=Yd o (o.op.operands.toList.map (f5 st.get)) r
      let ev:Ev:=⟨(HP ops.toList o++k8 o).map (λt=>(t,st.get t)),ns.map (λn=>(n,Aj st.own n)),o.dst,e.v,e.wo⟩
      refine⟨(k,ev)::es,by simp[GQ,h1],.cons ⟨λp hp=>?_,λp hp=>?_⟩ (by rw[show ev.app st.sto=(st.upd o.dst e.v e.wo).sto from(yW _ _ _ _ hnok).symm];exact h2),λp hp=>?_,?_⟩
      ·obtain⟨t,_,rfl⟩:=zzL16.1 hp;rfl
      ·obtain⟨n,hn,rfl⟩:=zzL16.1 hp;exact Bg (hnlt n hn)
      ·rcases zzL31.1 hp with rfl|hp
       ·intro σ hok I θ a w BY K hK;have ht:∀ t,t∈HP ops.toList o++k8 o->σ.tmp t=st.get t:=λt ht=>hok.1 (t,st.get t) (zzL16.2 ⟨t,ht,rfl⟩);have hn:∀ n,n∈ns->σ.own n=Aj st.own n:=λn hn=>hok.2 (n,Aj st.own n) (zzL16.2 ⟨n,hn,rfl⟩);have hvs:o.op.operands.toList.map (f5 st.get)=o.op.operands.toList.map (f5 σ.tmp):=o8 _ λt hm=>(ht t (zzL8.2 (.inr (List.mem_filterMap.2 ⟨.tmp t,hm,rfl⟩)))).symm
        have hgv':FF ops.toList σ.tmp o=some gv:=by
         rw[<- hgv];unfold FF
         cases hg:o.guard with
         | none=>rfl
         | some jw=>
          obtain⟨j,ag0⟩:=jw
          dsimp only
          cases hj:ops.toList[j]? with
          | none=>rfl
          | some oj=>
           dsimp only
           cases hdj:oj.dst with
           | none=>rfl
           | some t=>
            dsimp only
            rw[ht t (zzL8.2 (.inl (by simp only[HP,hg,hj,hdj];simp)))]
        refine k7 ho BY (λd hdd=>?_) hvs hgv' (r:=r) (es:=ns.map (Aj st.own)) ?_ he (λp hp=>hob p (zzL8.2 (.inl hp))) K Q hK
        ·simp only[sK,hdd]at hd;simpa [Nc] using hd
        ·exact PC λn hn'=>(hn n hn').symm
       ·exact h3 p hp
      ·simp only[Db,h4,Hg,Ih];simp[Ev.tr,ev,ns,KM]
theorem maskOf_spec(done:List Nat)(l:List Edge):∀(s j:Nat),(l.foldl (λs e=>bif Region.binds .any e then s ||| (2 ^ e.on ||| done.getD e.on 0) else s) s).testBit j=true->
  s.testBit j=true\/∃ e∈l,Region.binds .any e=true/\(e.on=j\/(done.getD e.on 0).testBit j=true):=by
 induction l with
 | nil=>grind
 | cons e l ih=>
  intro s j h;rcases ih _ j h with h'|⟨e',he',hb,hh⟩
  ·cases hb:Region.binds .any e with
   | false=>grind
   | true=>
    grind
  ·exact .inr ⟨e',Mo _ he',hb,hh⟩
theorem TI:∀(l:List Oper) (done:List Nat),(∀ j,l[j]?=ops[done.length+j]?)->(∀ i j,(done.getD i 0).testBit j=true->yp ops j i)->
  ∀ i j,((mL done l).getD i 0).testBit j=true->yp ops j i
 | [],done,_,hd,i,j,h=>hd i j h
 | o::l,done,ai6,hd,i,j,h=>by
  refine TI l _ (λj=>by have:=ai6 (j+1);simpa [DC,Nat.add_comm 1 j] using this) (λi j hb=>?_) i j h
  by_cases hlt:i<done.length
  ·grind
  ·by_cases hi:i=done.length
   ·subst hi;rw[List.getD,X2 (zzL7 _)]at hb;simp only[Nat.sub_self, Option.getD_some]at hb
    have ho :=by simpa using(ai6 0).symm
    rcases maskOf_spec _ _ 0 j hb with h'|⟨e,he,hbd,h'|h'⟩
    ·simp at h'
    ·subst h';exact .direct ho (by simpa using he) hbd
    ·exact .trans (hd _ _ h') (.direct ho (by simpa using he) hbd)
   ·grind
theorem LP:∀(l:List Oper) (k:Nat),SO k l=true->∀ j o,l[j]?=some o->∀ e∈o.after,Region.binds .any e=true->e.on<k+j
 | [],_,_,j,o,h=>by simp at h
 | x::l,k,hg,j,o,h=>by
  simp only[SO,Az]at hg;intro e he hb
  cases j with
  | zero=>
   simp only[List.getElem?_cons_zero,Ax]at h;subst h;have:=zzL21.1 hg.1 e (by simpa using he)
   simpa [hb,Nc] using this
  | succ j=>
   have:=LP l _ hg.2 j o (by simpa using h) e he hb;omega
theorem TW(ms:List Nat):∀(l:List (Nat×Ev)) (i:Nat) (ai4:List (Nat×Ev)),mY ms i (ai4.map λp=>(p.1,p.2.tr)) (l.map λp=>p.2.tr)=true->l.map (·.1)=List.range' i l.length->
  (∀ q∈l,∀ p∈ai4,IR p.2 q.2\/(ms.getD q.1 0).testBit p.1=true)/\(∀ p∈l,∀ q∈l,p.1<q.1->IR p.2 q.2\/(ms.getD q.1 0).testBit p.1=true)
 | [],_,_,_,_=>⟨(λ_ h=>by cases h),(λ_ h=>by cases h)⟩
 | (i',e)::l,i,ai4,h,hi=>by
  simp only[Db,Ry,GQ,Hg]at hi;obtain⟨rfl,hi⟩:=hi;simp only[Db,mY,Az]at h;obtain⟨h1,h2⟩:=h;obtain⟨r1,r2⟩:=TW ms l _ ((i',e)::ai4) h2 hi
  have hd:∀ p∈ai4,IR p.2 e\/(ms.getD i' 0).testBit p.1=true:=λp hp=>by
   have:=zzL21.1 h1 _ (zzL16.2 ⟨p,hp,rfl⟩);simp only[W1]at this;rcases this with h|h
   ·exact .inl (dK h)
   ·exact .inr h
  refine⟨λq hq p hp=>?_,λp hp q hq hlt=>?_⟩
  ·grind
  ·rcases zzL31.1 hq with rfl|hq
   ·rcases zzL31.1 hp with rfl|hp
    ·grind
    ·have hm:p.1∈l.map _:=zzL16.2 ⟨p,hp,rfl⟩;rw[hi]at hm;have:=(List.mem_range'_1.1 hm).1;omega
   ·grind
theorem DA:∀(n k:Nat) (l:List (Nat×Ev)),l.map (·.1)=List.range' k n->l.Pairwise (λp q=>p.1<q.1)
 | 0,_,l,h=>by
  simp_all
 | n+1,k,[],h=>by grind
 | n+1,k,p::l,h=>by
  simp only[Db,GQ,Hg]at h;refine .cons (λq hq=>?_) (DA n _ l h.2);have hm:q.1∈l.map _:=zzL16.2 ⟨q,hq,rfl⟩;rw[h.2]at hm;have:=(List.mem_range'_1.1 hm).1;omega
end
variable {Γ:Ip}{a:Act}{st st':St}{ab2 ac:List Nat}{l:List AV}{P:Program}{id sz sz' nm:Nat}{K:Exit->St->Prop}{S X R:Type}{p:Prop}{f g:Nat->List AV}{t:Tag}{c x y:Code}{Q:Exit->Act->World->Prop}{ρ:List (Nat×Nat)}
theorem pG(l:List Nat)(g:Nat->AV)(t:Nat):Aj (l.map λt=>(t,g t)) t=if t∈l then some (g t) else none:=by
 induction l with
 | nil=>simp[Aj]
 | cons k l ih=>
  simp only[Db,Aj,ih]
  cases hb:Nat.beq k t with
  | true=>simp_all
  | false=>
   have:t≠k:=by rintro rfl;simp at hb
   simp[this]
theorem kL(l:List Nat)(g:Nat->Option Own)(n:Nat):Aj (l.filterMap λn=>match g n with|some o=>some (n,o)|none=>none) n=if n∈l then g n else none:=by
 induction l with
 | nil=>simp[Aj]
 | cons k l ih=>
  simp only[List.filterMap_cons]
  cases hk:g k with
  | none=>
   grind
  | some o=>
   simp only[Aj,ih]
   cases hb:Nat.beq k n with
   | true=>simp_all
   | false=>
    have:n≠k:=by rintro rfl;simp at hb
    simp[this]
theorem gY(l:List Nat)(g:Nat->Option qE)(n:Nat):Aj (l.filterMap λn=>match g n with|some o=>some (n,o)|none=>none) n=if n∈l then g n else none:=by
 induction l with
 | nil=>simp[Aj]
 | cons k l ih=>
  simp only[List.filterMap_cons]
  cases hk:g k with
  | none=>
   grind
  | some o=>
   simp only[Aj,ih]
   cases hb:Nat.beq k n with
   | true=>simp_all
   | false=>
    have:n≠k:=by rintro rfl;simp at hb
    simp[this]
theorem ax(ab2 ac:List Nat)(st:St)(n:Nat):Aj (E9 ab2 ac st).fam n=if n∈ac then Aj st.fam n else none:=by
 have e:(E9 ab2 ac st).fam=ac.filterMap λn=>match Aj st.fam n with|some o=>some (n,o)|none=>none:=by
  apply Bw (λf=>ac.filterMap f)
  cases Aj st.fam n<;>rfl
 rw[e,gY]
theorem ay(ab2 ac:List Nat)(st:St)(n:Nat):Aj (E9 ab2 ac st).own n=if n∈ac then(Aj st.own n).map (Own.erase λn=>Ce n ac) else none:=by
 have e:(E9 ab2 ac st).own=ac.filterMap λn=>match(Aj st.own n).map (Own.erase λn=>Ce n ac) with|some o=>some (n,o)|none=>none:=by
  simp only[E9]
  congr 1
  funext n
  cases Aj _ n<;>rfl
 rw[e,kL]
theorem aw(h:Rel Γ st.sto I θ a w)(hn:∀ nm,Γ.own0 nm≠none->nm∈ac)(hlt:∀ n∈ac,n<B6):Rel Γ (E9 ab2 ac st).sto I θ a w:=by
 have hL:∀ nm,Aj (E9 ab2 ac st).own nm=if nm∈ac then(Aj st.own nm).map (Own.erase λn=>Ce n ac) else none:=ay ab2 ac st
 have hF:∀ nm,Aj (E9 ab2 ac st).fam nm=if nm∈ac then Aj st.fam nm else none:=ax ab2 ac st
 have By:∀ nm,nm<B6->(E9 ab2 ac st).sto.own nm=if nm∈ac then(st.sto.own nm).map (Own.erase λn=>Ce n ac) else none:=λnm hlt=>by
  show Df _ _ nm=_
  rw[Bg hlt,hL]
  show _=if nm∈ac then(Df st.own _ nm).map _ else none
  rw[Bg hlt]
 have ad8:∀ k,¬ k<B6->(E9 ab2 ac st).sto.own k=if k / B6-1∈ac then st.sto.own k else none:=λk hk=>by
  show Df _ _ k=if _ then Df _ _ k else none
  rw[Du hk,Du hk,hF]
  split<;>rfl
 have hk:∀ nm o,st.sto.own nm=some o->Ce nm ac=true->(E9 ab2 ac st).sto.own nm=some (o.erase λn=>Ce n ac):=λnm o ho hm=>by
  rw[By nm (hlt nm (memB_mem.1 hm)),if_pos (memB_mem.1 hm),ho];rfl
 have hkb:∀ b i sz e m,i<B6->st.sto.own (U0 b i)=some (.tok sz e m)->Ce b ac=true->(E9 ab2 ac st).sto.own (U0 b i)=some (.tok sz e m):=λb i sz e m hi ho hm=>by
  rw[ad8 _ (Tu b i),AQ hi,if_pos (memB_mem.1 hm),ho]
 have ae3:∀ nm o,(E9 ab2 ac st).sto.own nm=some o->∃ o',st.sto.own nm=some o'/\o=o'.erase λn=>Ce n ac:=λnm o ho=>by
  by_cases hlt:nm<B6
  ·rw[By nm hlt]at ho
   split at ho
   ·obtain⟨o',ho',rfl⟩:=zzL89.1 ho;exact⟨o',ho',rfl⟩
   ·cases ho
  ·rw[ad8 nm hlt]at ho
   split at ho
   ·obtain⟨sz,e,m,rfl⟩:=AS hlt (show Df st.own st.fam nm=some o from ho);exact⟨_,ho,rfl⟩
   ·cases ho
 refine⟨h.size,h.defers,λt=>?_,?_⟩
 ·have e:(E9 ab2 ac st).sto.tmp t=if t∈ab2 then(st.get t).erase (λn=>Ce n ac) else .any:=by
   simp only[St.sto,St.get,E9,pG]
   split
   ·rename_i h;split at h<;>simp_all
   ·rename_i h;split at h<;>simp_all
  rw[e]
  split
  ·exact(h.slots t).erase _ hk hkb
  ·exact .val _ _ (.any _)
 ·refine{ h.chg with le:=λnm o ho=>?_,rel:=⟨λnm e0 cells ho=>?_,λnm sz e m ho=>?_,λnm nm' g c c' ho ho'=>?_,λnm sz e m f ho=>?_,λnm x ho=>?_,λnm sz m ho hnn=>?_⟩,new:=λnm g c ho hg=>?_ }
  rotate_left 6
  ·obtain⟨o',ho',he⟩:=ae3 nm _ ho
   cases o' with
   | row=>simp[Own.erase]at he
   | arr=>simp[Own.erase]at he
   | obj=>simp[Own.erase]at he
   | tok=>
    simp only[Own.erase,Own.tok.injEq]at he;obtain⟨rfl,rfl,rfl⟩:=he;exact h.chg.rel.tok8 nm _ _ ho' hnn
  rotate_right 6
  rotate_left 5
  ·obtain⟨o',ho',he⟩:=ae3 nm _ ho
   cases o' with
   | row=>simp[Own.erase]at he
   | tok=>simp[Own.erase]at he
   | arr=>simp[Own.erase]at he
   | obj x'=>
    simp only[Own.erase,Own.obj.injEq]at he;subst he;exact Nn (h.chg.rel.obj nm _ ho') rfl (λ_ _ _=>rfl) (λ_ _ _ _ h=>h) (λ_ hh=>hh.on _ (λ_ _ h=>h) (λ_ _ _=>rfl) λv y hv=>hv.erase _ hk hkb) VN
  rotate_left 1
  ·obtain⟨o',ho',hl⟩:=h.chg.le nm o ho;refine⟨_,hk nm o' ho' (memB_mem.2 (hn nm (by simp[ho]))),?_⟩
   cases o<;>cases o'<;>simp_all [OwnLe,Own.erase]
  ·obtain⟨o',ho',he⟩:=ae3 nm _ ho
   cases o' with
   | tok=>simp[Own.erase]at he
   | arr=>simp[Own.erase]at he
   | obj=>simp[Own.erase]at he
   | row e' cs=>
    simp only[Own.erase,Own.row.injEq]at he;obtain⟨rfl,rfl⟩:=he;obtain⟨g,c,vs,r1,r2,r3,r4,r5,r6⟩:=h.chg.rel.row nm _ cs ho';refine⟨g,c,vs,r1,r2,by rw[Be];exact r3,λj hj=>r4 j (by rwa[Be]at hj),λj hj=>?_,r6⟩;rw[Ii];exact(r5 j (by rwa[Be]at hj)).erase _ hk hkb
  ·obtain⟨o',ho',he⟩:=ae3 nm _ ho
   cases o' with
   | row=>simp[Own.erase]at he
   | arr=>simp[Own.erase]at he
   | obj=>simp[Own.erase]at he
   | tok=>
    simp only[Own.erase,Own.tok.injEq]at he;obtain⟨rfl,rfl,rfl⟩:=he;exact h.chg.rel.tok nm _ _ _ ho'
  ·refine h.chg.rel.inj nm nm' g c c' ?_ ?_
   ·cases hx:(E9 ab2 ac st).sto.own nm with
    | none=>exact(ho hx).elim
    | some o=>obtain⟨o',ho',_⟩:=ae3 nm o hx;simp[ho']
   ·cases hx:(E9 ab2 ac st).sto.own nm' with
    | none=>exact(ho' hx).elim
    | some o=>obtain⟨o',ho',_⟩:=ae3 nm' o hx;simp[ho']
  ·obtain⟨o',ho',he⟩:=ae3 nm _ ho
   cases o' with
   | row=>simp[Own.erase]at he
   | tok=>simp[Own.erase]at he
   | obj=>simp[Own.erase]at he
   | arr sz' e' m' f'=>
    simp only[Own.erase,Own.arr.injEq]at he;obtain⟨rfl,rfl,rfl,rfl⟩:=he;exact Sf (h.chg.rel.arr nm _ _ _ _ ho') rfl (λ_ _ _=>rfl) (λ_ _ _ _ h=>h) (λi _=>Be _ _) (λv i j _ _ hv=>by rw[Ii];exact hv.erase _ hk hkb)
  ·cases hx:(E9 ab2 ac st).sto.own nm with
   | none=>exact(ho hx).elim
   | some o=>
    obtain⟨o',ho',_⟩:=ae3 nm o hx;exact h.chg.new nm g c (by simp[ho']) hg
theorem MN(h:Rel Γ st.sto I θ a w)(hn:∀ nm,Γ.own0 nm≠none->nm∈ac):Rel Γ (H7 ab2 ac st).sto I θ a w:=
 aw h (λnm h0=>zzL73.2 ⟨hn nm h0,by simpa [Nc] using Γ.lt0 nm h0⟩) (λn hn=>by simp_all)
theorem bO{l:List Prop}(h:fu l):∀ p∈l,p:=by
 induction l with
 | nil=>intro p hp;cases hp
 | cons x l ih=>
  intro p hp;rcases zzL31.1 hp with rfl|hp
  ·exact h.1
  ·exact ih h.2 p hp
theorem uA(h:Rel Γ σ I θ a w):Rel Γ σ I θ a { w with drawn:=w.drawn+1 }:=
 ⟨h.size,h.defers,λt=>(h.slots t).mono (λ_ _ h=>h) (λ_ _ _=>rfl) (λ_ o ho=>⟨o,ho,.refl _ _⟩),
  {h.chg with drawn:=λd=>Nat.le_succ_of_le (h.chg.drawn d),rel:=⟨λnm e cells ho=>by
              obtain⟨g,c,vs,r1,r2,r3,r4,r5,r6⟩:=h.chg.rel.row nm e _ ho
              exact⟨g,c,vs,r1,r2,r3,r4,λj hj=>(r5 j hj).mono (λ_ _ h=>h) (λ_ _ _=>rfl) (λ_ o ho=>⟨o,ho,.refl _ _⟩),r6⟩,h.chg.rel.tok,h.chg.rel.inj,
             λnm sz e m f ho=>Sf (h.chg.rel.arr nm sz e m f ho) rfl (λ_ _ _=>rfl) (λ_ _ _ _ h=>h) (λ_ _=>rfl) (λv i j _ _ hv=>hv.mono (λ_ _ h=>h) (λ_ _ _=>rfl) (λ_ o ho=>⟨o,ho,.refl _ _⟩)),
             λnm x ho=>Nn (h.chg.rel.obj nm x ho) rfl (λ_ _ _=>rfl) (λ_ _ _ _ h=>h) (λ_ hh=>hh.mono λv y hv=>hv.mono (λ_ _ h=>h) (λ_ _ _=>rfl) (λ_ o ho=>⟨o,ho,.refl _ _⟩)) Ya,h.chg.rel.tok8⟩ }⟩
def DO(P:Program)(Γ:Ip)(c:Code)(K:Exit->St->Prop)(st:St):Prop:=
 ∀(I:Nat->Nat->Prop) (θ:Nat->Option (Nat×Nat)) (a:Act) (w:World),Rel Γ st.sto I θ a w->c.wp P (λe a' w'=>∃ st' I' θ',K e st'/\Rel Γ st'.sto I' θ' a' w') a w
theorem jo{ops:List Oper}{ah5:Bool}{rs:List Xf}{cs:List (Nat×AV)}{obs:List Prop}(hnn:Γ.n=n)(hm:P.follows .mixedOrders=true)(hn:∀ nm,Γ.own0 nm≠none->nm∈ac)
  (h:SI P (Spec P) n cs ab2 ac ops ah5 st rs=some (st',obs,true)) (hob:fu obs) (hK:K .normal st'):DO P Γ (.region id ops.toArray ah5) K st:=by
 subst hnn;unfold SI at h
 split at h
 ·rename_i st1 obs1 trs hr
  simp only[Ax,P6]at h;obtain⟨rfl,rfl,hord⟩:=h
  have hr' :=by simpa using hr
  intro I θ a w BY;obtain⟨es,h1,h2,h3,h4⟩:=QD (cs:=cs) (Q:=λe a' w'=>∃ st' I' θ',K e st'/\Rel Γ st'.sto I' θ' a' w') ops 0 st rs st1 obs1 trs hr' (λj=>by simp) (bO hob);have hfin:∀ I θ a w,Rel Γ st1.sto I θ a w->∃ st' I' θ',K .normal st'/\Rel Γ st'.sto I' θ' a w:=λI θ a w BY=>⟨_,I,θ,hK,MN BY hn⟩
  cases ah5 with
  | false=>
   refine wp_region ?_;have:=WV es st.sto st1.sto h3 h2 hfin I θ a w BY;rw[h1]at this;rwa[Rx]
  | true=>
   simp only[Ah,nF,Az]at hord;obtain⟨o1,o2⟩:=hord;refine wp_region_any hm ?_
   have IT :=by have:=Bw List.length h1;simpa using this
   rw[<- h4]at o2;have hdep:=(TW (mL [] ops) es 0 [] o2 (by rw[h1,IT])).2;refine bE (λi o ho e he hb=>?_) st1.sto hfin _ es _ st.sto h3 h2 (DA _ _ _ h1) (by simp) (λj=>?_) (by simp[IT]) (λp hp q hq hlt hni=>?_) ?_ I θ a _ (uA BY)
   ·have:=LP ops 0 o1 i o (by simpa using ho) e he hb;omega
   ·simp_all
   ·rcases hdep p hp q hq hlt with h|h
    ·exact(hni h).elim
    ·exact TI ops [] (λj=>by simp) (λi j h=>by simp at h) q.1 p.1 h
   ·intro i o ho hl;simp[Array.getD]at hl
 ·cases h
inductive LR (S X:Type) where
 | next (s:S)
 | done (x:X)
inductive LRuns {S X:Type} (f:S->Option (LR S X)):S->X->Nat->Prop
 | done {s:S} {x:X} (h:f s=some (.done x)):LRuns f s x 0
 | next {s s':S} {x:X} {n:Nat} (h:f s=some (.next s')) (t:LRuns f s' x n):LRuns f s x (n+1)
theorem LRuns.unique{f:S->Option (LR S X)}{s:S}{x y:X}{m:Nat}(h:LRuns f s x n)(k:LRuns f s y m):x=y:=by
 induction h generalizing m with
 | done h=>cases k with
  | done h'=>grind
  | next h' _=>rw[h]at h';cases h'
 | next h _ ih=>cases k with
  | done h'=>rw[h]at h';cases h'
  | next h' t'=>grind
open Classical in
def bj{S X:Type}(f:S->Option (LR S X))(s:S):Option X:=
 if h:∃ x n,LRuns f s x n then some h.choose else none
def ge{S X:Type}(f:S->Option (LR S X))(n:Nat):S->Option (Option X):=
 Nat.rec (λ_=>none) (λ_ ih s=>match f s with|none=>some none|some (.done x)=>some (some x)|some (.next s')=>ih s') n
def Ae{S X:Type}(f:S->Option (LR S X))(s:S):Option X:=
 match ge f 4096 s with|some r=>r|none=>bj f s
theorem loopC_iff{f:S->Option (LR S X)}{s:S}{x:X}:bj f s=some x↔∃ n,LRuns f s x n:=by
 unfold bj
 constructor
 ·intro h
  split at h
  ·grind
  ·cases h
 ·rintro⟨n,hn⟩;have hx:∃ x n,LRuns f s x n:=⟨x,n,hn⟩;rw[dif_pos hx];obtain⟨m,hm⟩:=hx.choose_spec;rw[hm.unique hn]
theorem gf{S X:Type}{f:S->Option (LR S X)}:∀{n:Nat} {s:S} {r:Option X},ge f n s=some r->bj f s=r
 | 0,s,r,h=>by cases h
 | n+1,s,r,h=>by
  have e:ge f (n+1) s=(match f s with|none=>some _|some (.done x)=>some _|some (.next s')=>ge f n s'):=rfl;rw[e]at h
  split at h
  ·rename_i hf
   cases h
   cases hx:bj f s with
   | none=>rfl
   | some x=>
    obtain⟨m,hm⟩:=loopC_iff.1 hx
    cases hm with
    | done h'=>rw[hf]at h';cases h'
    | next h' _=>rw[hf]at h';cases h'
  ·rename_i x hf
   cases h;exact loopC_iff.2 ⟨0,.done hf⟩
  ·rename_i s' hf
   have ih:=gf h;rw[<- ih]
   apply Option.ext
   intro x
   constructor
   ·intro hx;obtain⟨m,hm⟩:=loopC_iff.1 hx
    cases hm with
    | done h'=>rw[hf]at h';cases h'
    | next h' t=>rw[hf]at h';cases h';exact loopC_iff.2 ⟨_,t⟩
   ·intro hx;obtain⟨m,hm⟩:=loopC_iff.1 hx;exact loopC_iff.2 ⟨_,.next hf hm⟩
theorem pI(f:S->Option (LR S X))(s:S):Ae f s=bj f s:=by
 unfold Ae
 cases h:ge f _ s with
 | none=>rfl
 | some r=>exact(gf h).symm
theorem loopO_iff{f:S->Option (LR S X)}{s:S}{x:X}:Ae f s=some x↔∃ n,LRuns f s x n:=by rw[pI];exact loopC_iff
theorem An{f:S->Option (LR S X)}{s:S}{x:X}(h:f s=some (.done x)):Ae f s=some x:=loopO_iff.2 ⟨0,.done h⟩
theorem Ap{f:S->Option (LR S X)}{s s':S}(h:f s=some (.next s')):Ae f s=Ae f s':=by
 apply Option.ext
 intro x
 constructor
 ·intro hx;obtain⟨n,hn⟩:=loopO_iff.1 hx
  cases hn with
  | done h'=>rw[h]at h';cases h'
  | next h' t=>rw[h]at h';cases h';exact loopO_iff.2 ⟨_,t⟩
 ·intro hx;obtain⟨n,hn⟩:=loopO_iff.1 hx;exact loopO_iff.2 ⟨_,.next h hn⟩
theorem JZ{f:S->Option (LR S X)}{s:S}(h:f s=none):Ae f s=none:=by
 cases hx:Ae f s with
 | none=>rfl
 | some x=>
  obtain⟨n,hn⟩:=loopO_iff.1 hx
  cases hn with
  | done h'=>rw[h]at h';cases h'
  | next h' t=>rw[h]at h';cases h'
def Ay{R:Type}(p:Prop)[Decidable p](k:Option R):Option R:=if p then k else none
theorem Ul[Decidable p]{k:Option R}{r:R}(h:Ay p k=some r):p/\k=some r:=by
 unfold Ay at h
 split at h
 ·exact⟨‹p›,h⟩
 ·cases h
theorem Ac[Decidable p]{k:Option R}(h:p):Ay p k=k:=by simp[Ay,h]
def U8{S X:Type}(f0:Option (LR S X))(f:S->Option (LR S X)):Option X:=f0.bind λ| .next s=>Ae f s | .done x=>some x
theorem bind_some{A:Type}{x:Option A}{k:A->Option R}{r:R}(h:x.bind k=some r):∃ a,x=some a/\k a=some r:=zzL103.1 h
section
variable {P:Program} {Γ:Ip}
def Le(Γ:Ip)(st st':St):Prop:=∀(I:Nat->Nat->Prop) (θ:Nat->Option (Nat×Nat)) (a:Act) (w:World),Rel Γ st.sto I θ a w->∃ I' θ',Rel Γ st'.sto I' θ' a w
theorem Le.refl(Γ:Ip)(st:St):Le Γ st st:=λI θ _ _ h=>⟨I,θ,h⟩
theorem Le.trans{st'':St}(h:Le Γ st st')(k:Le Γ st' st''):Le Γ st st'':=λI θ a w hr=>let⟨I',θ',hr'⟩:=h I θ a w hr;k I' θ' a w hr'
theorem AVle.refl(x:AV):AVle x x:=λ_ _ _ _ _ h=>h
theorem AVle.any(x:AV):AVle x .any:=λ_ _ _ _ v _=>.val _ _ (.any v)
theorem RepV.slice_ext(h:RepV I w v (.slice sz n f .none))(hf:∀ i,i<n->f i=g i):RepV I w v (.slice sz n g .none):=by
 obtain⟨_,ad,cap,us,rfl,IN,Is,hz,hn,h1,hl,hr⟩:=h.slice_inv;exact .slice ad n cap sz g us IN Is hz hn h1 (λi hi=>by grind) (λi c hi hc=>by grind)
theorem AVle.slice{n':Nat}(hn:n=n')(hf:∀ i,i<n->f i=g i):AVle (.slice sz n f t) (.slice sz n' g t):=by
 subst hn;intro I own θ w v h
 cases h with
 | val v x h=>obtain⟨rfl,_⟩:=h.slice_inv;exact .val _ _ (h.slice_ext hf)
 | exact a n sz f h=>exact .exact a n sz g (h.slice_ext hf)
 | own nm sz e m a n cap f ho hm hv h=>exact .own nm sz e m a n cap g ho hm hv (h.slice_ext hf)
 | fam b i sz e m a n cap f hi ho hm hv h=>exact .fam b i sz e m a n cap g hi ho hm hv (h.slice_ext hf)
theorem AVle.untag:AVle (.slice sz n f t) (.slice sz n f .none):=λ_ _ _ _ _ h=>.val _ _ h.slice_val
theorem AVle.empty(hn:n=0)(ht:∀ nm,t≠.own nm)(ht':∀ b i,t≠.fam b i:=by intro _ _ h;cases h):AVle (.slice sz n f t) (.slice sz' n g t):=by
 subst hn;intro I own θ w v h
 have key:∀ v,RepV I w v (.slice sz 0 f .none)->RepV I w v _:=λv h=>by
  obtain⟨_,ad,cap,us,rfl,IN,Is,hz,hn,h1,hl,hr⟩:=h.slice_inv;exact .slice ad 0 cap sz' g us IN Is (λh=>by omega) hn (λj hj=>by omega) (λi hi=>by omega) (λi c hi=>by omega)
 cases h with
 | val v x h=>obtain⟨rfl,_⟩:=h.slice_inv;exact .val _ _ (key _ h)
 | exact a n sz f h=>exact .exact a _ sz' g (key _ h)
 | own nm=>exact(ht nm rfl).elim
 | fam b i=>exact(ht' b i rfl).elim
inductive AVleL:List AV->List AV->Prop
 | nil:AVleL [] []
 | cons {x y:AV} {l m:List AV} (h:AVle x y) (t:AVleL l m):AVleL (x::l) (y::m)
theorem AVleL.cR{x:AV}{l m:List AV}(t:AVleL l m):AVleL (x::l) (x::m):=.cons (AVle.refl _) t
theorem AVleL.length(h:AVleL l m):l.length=m.length:=by induction h with|nil=>rfl|cons _ _ ih=>simp[ih]
theorem AVleL.get(h:AVleL l m)(j:Nat):AVle (l.getD j .any) (m.getD j .any):=by
 induction h generalizing j with
 | nil=>exact .refl _
 | cons h _ ih=>cases j with
  | zero=>simpa using h
  | succ j=>simpa using ih j
theorem AVleL.refl(l:List AV):AVleL l l:=by induction l with|nil=>exact .nil|cons x l ih=>exact .cons (.refl x) ih
theorem AVle.agg(h:AVleL l m):AVle (.agg l) (.agg m):=by
 intro I own θ w v hv;obtain⟨vs,rfl,hl,h1,hr⟩:=hv.agg_inv;exact .agg vs m (by rw[hl,h.length]) (λj hj=>h1 j (by rw[h.length];exact hj)) (λj hj=>h.get j I own θ w _ (hr j (by rw[h.length];exact hj)))
theorem AVle.tuple(h:AVleL l m):AVle (.tuple l) (.tuple m):=by
 intro I own θ w v hv;obtain⟨vs,rfl,hl,hr⟩:=hv.tuple_inv;exact .tuple vs m (by rw[hl,h.length]) (λj hj=>h.get j I own θ w _ (hr j (by rw[h.length];exact hj)))
inductive TmpsLe:List (Nat×AV)->List (Nat×AV)->Prop
 | nil:TmpsLe [] []
 | cons {t:Nat} {x y:AV} {l m:List (Nat×AV)} (h:AVle x y) (k:TmpsLe l m):TmpsLe ((t,x)::l) ((t,y)::m)
theorem TmpsLe.cR{t:Nat}{x:AV}{l m:List (Nat×AV)}(k:TmpsLe l m):TmpsLe ((t,x)::l) ((t,x)::m):=.cons (AVle.refl _) k
inductive OwnsLe:List (Nat×Own)->List (Nat×Own)->Prop
 | nil:OwnsLe [] []
 | row {n:Nat} {e:TypeId} {x y:List AV} {l m:List (Nat×Own)} (h:AVleL x y) (k:OwnsLe l m):OwnsLe ((n,.row e x)::l) ((n,.row e y)::m)
 | same {n:Nat} {o:Own} {l m:List (Nat×Own)} (k:OwnsLe l m):OwnsLe ((n,o)::l) ((n,o)::m)
 | arr {n sz:Nat} {e:TypeId} {k:Nat} {f g:Nat->List AV} {l m:List (Nat×Own)} (h:∀ i,i<k->AVleL (f i) (g i)) (t:OwnsLe l m):OwnsLe ((n,.arr sz e k f)::l) ((n,.arr sz e k g)::m)
theorem TmpsLe.refl(l:List (Nat×AV)):TmpsLe l l:=by induction l with|nil=>exact .nil|cons x l ih=>exact .cons (.refl _) ih
theorem OwnsLe.refl(l:List (Nat×Own)):OwnsLe l l:=by induction l with|nil=>exact .nil|cons x l ih=>exact .same ih
theorem TmpsLe.get{l m:List (Nat×AV)}(h:TmpsLe l m)(t:Nat):AVle (match Aj l t with|some x=>x|none=>.any) (match Aj m t with|some x=>x|none=>.any):=by
 induction h with
 | nil=>exact .refl _
 | @cons t' x y l m h _ ih=>
  simp only[Aj]
  cases Nat.beq t' t with
  | true=>exact h
  | false=>exact ih
theorem OwnsLe.get{l m:List (Nat×Own)}(h:OwnsLe l m)(n:Nat):(∀ o,Aj l n=some o->∃ o',Aj m n=some o'/\(o=o'\/(∃ e x y,o = .row e x/\o' = .row e y/\AVleL x y)\/∃ sz e k f g,o = .arr sz e k f/\o' = .arr sz e k g/\∀ i,i<k->AVleL (f i) (g i)))/\(∀ o',Aj m n=some o'->∃ o,Aj l n=some o):=by
 induction h with
 | nil=>grind
 | @row n' e x y l m h _ ih=>
  simp only[Aj]
  cases Nat.beq n' n with
  | true=>
   refine⟨λo ho=>?_,λo ho=>⟨_,rfl⟩⟩;simp only[Ah,Ax]at ho;subst ho;exact⟨_,rfl,.inr (.inl ⟨e,x,y,rfl,rfl,h⟩)⟩
  | false=>exact ih
 | @arr n' sz e k f g l m h _ ih=>
  simp only[Aj]
  cases Nat.beq n' n with
  | true=>
   grind
  | false=>exact ih
 | @same n' o l m _ ih=>
  simp only[Aj]
  cases Nat.beq n' n with
  | true=>exact⟨λo ho=>⟨o,ho,.inl rfl⟩,λo ho=>⟨o,ho⟩⟩
  | false=>exact ih
theorem Fb(ht:TmpsLe st.tmps st'.tmps)(ho:OwnsLe st.own st'.own)(hfam:st'.fam=st.fam:=by rfl):Le Γ st st':=by
 intro I θ a w h
 have hg1:∀ nm o,st.sto.own nm=some o->∃ o',st'.sto.own nm=some o'/\(o=o'\/(∃ e x y,o = .row e x/\o' = .row e y/\AVleL x y)\/∃ sz e k f g,o = .arr sz e k f/\o' = .arr sz e k g/\∀ i,i<k->AVleL (f i) (g i)):=λnm o hn=>by
  by_cases hlt:nm<B6
  ·have hn':Aj st.own nm=some o:=by rw[<- hn];exact(Bg hlt).symm
   obtain⟨o',h1,h2⟩:=(ho.get nm).1 o hn';exact⟨o',(Bg hlt).trans h1,h2⟩
  ·refine⟨o,?_,.inl rfl⟩;rw[<- hn]
   show Df _ _ nm=Df _ _ nm
   rw[Du hlt,Du hlt,hfam]
 have hg2:∀ nm o',st'.sto.own nm=some o'->∃ o,st.sto.own nm=some o:=λnm o' hn=>by
  by_cases hlt:nm<B6
  ·have hn':Aj st'.own nm=some o':=by rw[<- hn];exact(Bg hlt).symm
   obtain⟨o,h1⟩:=(ho.get nm).2 o' hn';exact⟨o,(Bg hlt).trans h1⟩
  ·refine⟨o',?_⟩;rw[<- hn]
   show Df _ _ nm=Df _ _ nm
   rw[Du hlt,Du hlt,hfam]
 have No:∀ v x,Rep I st.sto.own θ w v x->Rep I st'.sto.own θ w v x:=λv x h=>h.mono (λ_ _ h=>h) (λ_ _ _=>rfl) λnm o hn=>by
  obtain⟨o',h1,h2⟩:=hg1 nm o hn;refine⟨o',h1,?_⟩;rcases h2 with rfl|⟨e1,x,y,rfl,rfl,_⟩|⟨sz,e,k,f,g,rfl,rfl,_⟩
  ·exact .refl _ _
  ·exact⟨rfl,rfl⟩
  ·exact⟨rfl,rfl,zzL7 _,λ_=>rfl⟩
 refine⟨I,θ,h.size,h.defers,λt=>No _ _ (ht.get t I _ θ w _ (h.slots t)),{ h.chg with le:=λnm o hn=>?_,rel:=⟨λnm e0 cells hn=>?_,λnm sz e m hn=>?_,λnm nm' g c c' hn hn'=>?_,λnm sz e m f hn=>?_,λnm x hn=>?_,λnm sz m hn hnn=>?_⟩,new:=λnm g c hn hg=>?_ }⟩
 rotate_left 6
 ·obtain⟨o,h1⟩:=hg2 nm _ hn;obtain⟨o',h2,h3⟩:=hg1 nm o h1;have e':st'.sto.own nm=some o':=h2;rw[e']at hn;obtain rfl:=OI hn;rcases h3 with rfl|⟨e1,x,y,rfl,h5,h6⟩|⟨sz,e,k,f,g,rfl,h5,h6⟩
  ·exact h.chg.rel.tok8 nm _ _ h1 hnn
  ·cases h5
  ·cases h5
 rotate_right 6
 rotate_left 5
 ·obtain⟨o,h1⟩:=hg2 nm _ hn;obtain⟨o',h2,h3⟩:=hg1 nm o h1;have e':st'.sto.own nm=some o':=h2;rw[e']at hn;obtain rfl:=OI hn;rcases h3 with rfl|⟨e1,x,y,rfl,h5,h6⟩|⟨sz,e,k,f,g,rfl,h5,h6⟩
  ·exact Nn (h.chg.rel.obj nm _ h1) rfl (λ_ _ _=>rfl) (λ_ _ _ _ h=>h) (λ_ hh=>hh.mono No) Ya
  ·cases h5
  ·cases h5
 rotate_left 1
 ·obtain⟨o',h1,h2⟩:=h.chg.le nm o hn;obtain⟨o'',h3,h4⟩:=hg1 nm o' h1;refine⟨o'',h3,?_⟩;rcases h4 with rfl|⟨e1,x,y,rfl,rfl,_⟩|⟨sz,e,k,f,g,rfl,rfl,_⟩
  ·exact h2
  ·cases o<;>simp_all [OwnLe]
  ·cases o<;>simp_all [OwnLe]
 ·obtain⟨o,h1⟩:=hg2 nm _ hn;obtain⟨o',h2,h3⟩:=hg1 nm o h1;have e:st'.sto.own nm=some o':=h2;rw[e]at hn;obtain rfl:=OI hn;rcases h3 with rfl|⟨e1,x,y,rfl,h5,h6⟩|⟨sz,e,k,f,g,rfl,h5,h6⟩
  rotate_left 2
  ·cases h5
  ·obtain⟨g,c,vs,r1,r2,r3,r4,r5,r6⟩:=h.chg.rel.row nm _ _ h1;exact⟨g,c,vs,r1,r2,r3,r4,λj hj=>No _ _ (r5 j hj),r6⟩
  ·simp only[Own.row.injEq]at h5;obtain⟨rfl,rfl⟩:=h5;obtain⟨g,c,vs,r1,r2,r3,r4,r5,r6⟩:=h.chg.rel.row nm _ _ h1;exact⟨g,c,vs,r1,r2,by rw[r3,h6.length],λj hj=>r4 j (by rw[h6.length];exact hj),λj hj=>No _ _ (h6.get j I _ θ w _ (r5 j (by rw[h6.length];exact hj))),r6⟩
 ·obtain⟨o,h1⟩:=hg2 nm _ hn;obtain⟨o',h2,h3⟩:=hg1 nm o h1;have e':st'.sto.own nm=some o':=h2;rw[e']at hn;obtain rfl:=OI hn;rcases h3 with rfl|⟨e1,x,y,rfl,h5,h6⟩|⟨sz,e,k,f,g,rfl,h5,h6⟩
  ·exact h.chg.rel.tok nm _ _ _ h1
  ·cases h5
  ·cases h5
 ·have hx:∀ nm,st'.sto.own nm≠none->st.sto.own nm≠none:=λnm hn=>by
   cases hs:st'.sto.own nm with
   | none=>exact(hn hs).elim
   | some o=>obtain⟨o',h1⟩:=hg2 nm _ hs;have:st.sto.own nm=some o':=h1;simp[this]
  exact h.chg.rel.inj nm nm' g c c' (hx nm hn) (hx nm' hn')
 ·obtain⟨o,h1⟩:=hg2 nm _ hn;obtain⟨o',h2,h3⟩:=hg1 nm o h1;have e':st'.sto.own nm=some o':=h2;rw[e']at hn;obtain rfl:=OI hn;rcases h3 with rfl|⟨e1,x,y,rfl,h5,h6⟩|⟨sz',e2,k,f2,g,rfl,h5,h6⟩
  ·exact Sf (h.chg.rel.arr nm _ _ _ _ h1) rfl (λ_ _ _=>rfl) (λ_ _ _ _ h=>h) (λ_ _=>rfl) (λv i j _ _ hv=>No _ _ hv)
  ·cases h5
  ·simp only[Own.arr.injEq]at h5;obtain⟨rfl,rfl,rfl,rfl⟩:=h5;exact Sf (h.chg.rel.arr nm _ _ _ _ h1) rfl (λ_ _ _=>rfl) (λ_ _ _ _ h=>h) (λi hi=>(h6 i hi).length.symm) (λv i j hi _ hv=>No _ _ ((h6 i hi).get j I _ θ w v hv))
 ·refine h.chg.new nm g c ?_ hg
  cases hs:st'.sto.own nm with
  | none=>exact(hn hs).elim
  | some o=>obtain⟨o',h1⟩:=hg2 nm _ hs;have:st.sto.own nm=some o':=h1;simp[this]
theorem gW(ab2 ac:List Nat)(hn:∀ nm,Γ.own0 nm≠none->nm∈ac):Le Γ st (H7 ab2 ac st):=λI θ _ _ h=>⟨I,θ,MN h hn⟩
theorem Rn{r:Nat}{e0:TypeId}{cells:List AV}(g:Nat->List AV)(e:TypeId)(hr:Aj st.own r=some (.row e0 cells))(hs:cells.getD j .any = .slice sz n f .exact)(hj:j<cells.length)(hn:Aj st.own nm=none)(hz:(sz=sz'/\f=g)\/n=0)(h8:e=Zx->n=0)(hlt:Nat.blt nm B6=true:=by rfl)(ah9:Nat.blt r B6=true:=by rfl) :
  Le Γ st ⟨st.tmps,E1 (E1 st.own r (.row e0 (cells.set j (.slice sz' n g (.own nm))))) nm (.tok sz' e n),st.fam⟩:=by
 intro I θ a w h
 have hlt:nm<B6:=by simpa [Nc] using hlt
 have ah9:r<B6:=by simpa [Nc] using ah9
 have hn:st.sto.own nm=none:=(Bg hlt).trans hn;have hr:st.sto.own r=some (.row e0 cells):=(Bg ah9).trans hr
 have hne:r≠nm:=by rintro rfl;rw[hr]at hn;cases hn
 let it:Nat->Option Own:=λk=>if k=nm then some (.tok sz' e n) else if k=r then some (.row e0 (cells.set j (.slice sz' n g (.own nm)))) else st.sto.own k
 have By:(⟨st.tmps,E1 (E1 st.own r (.row e0 (cells.set j (.slice sz' n g (.own nm))))) nm (.tok sz' e n),st.fam⟩:St).sto.own=it:=by
  funext k
  show Df (E1 (E1 st.own r _) nm _) _ k=_
  rw[M9 hlt,M9 ah9];simp only[it,Yq (a:=nm),Yq (a:=r)]
  rfl
 have hle:∀ nm' o,st.sto.own nm'=some o->∃ o',it nm'=some o'/\OwnLe o (θ nm') o' (thUp θ nm none nm'):=λnm' o ho=>by
  have h1:nm'≠nm:=by rintro rfl;have:st.sto.own nm'=some o:=ho;rw[hn]at this;cases this
  by_cases h2:nm'=r
  ·subst h2;have:st.sto.own nm'=some o:=ho;rw[hr]at this;obtain rfl:=OI this;exact⟨.row e0 (cells.set j (.slice sz' n g (.own nm))),by simp[it,h1],by simp[thUp,h1,OwnLe]⟩
  ·exact⟨o,by simp[it,h1,h2,ho],by simp[thUp,h1,OwnLe.refl]⟩
 have No:∀ v x,Rep I st.sto.own θ w v x->Rep I it (thUp θ nm none) w v x:=λv x h=>h.mono (λ_ _ h=>h) (λ_ _ _=>rfl) hle;have BY:=h.chg.rel
 have k:Chg st.sto.own θ I w it (thUp θ nm none) I w:=by
  refine{ imm:=λ_ _ h=>h,cell:=λ_ _ _=>rfl,le:=hle,rel:=?_,valid:=h.chg.valid,os:=rfl,tape:=rfl,output:=rfl,drawn:=λ_=>zzL7 _,grow:=zzL7 _,frame:=λ_ _ _=>rfl,new:=λnm' g' c ho hg=>?_,immNew:=λ_ _ h=>.inl h }
  ·refine⟨λnm' e2 cells' ho=>?_,λnm' s' e' m ho g' c hg=>?_,λn1 n2 g' c c' ho ho' hg hg'=>?_,λnm' s' e' m f' ho=>?_,λnm' x' ho=>?_,λnm' s' m ho hnn=>?_⟩
   rotate_left 5
   ·by_cases h1:nm'=nm
    ·simp only[it,h1,Nd,Ax,Own.tok.injEq]at ho;obtain⟨rfl,he,rfl⟩:=ho;exact h8 he
    ·have h2:nm'≠r:=by rintro rfl;simp[it,h1]at ho
     simp only[it,h1,h2,Iu]at ho;simp only[thUp,h1,Iu]at hnn;exact BY.tok8 nm' _ _ ho hnn
   ·by_cases h1:nm'=nm
    ·simp[it,h1]at ho
    ·by_cases h2:nm'=r
     ·subst h2;simp only[it,h1,Iu,Nd,Ax,Own.row.injEq]at ho;obtain⟨rfl,rfl⟩:=ho;obtain⟨g',c,vs,r1,r2,r3,r4,r5,r6⟩:=BY.row nm' _ cells hr;refine⟨g',c,vs,by simpa [thUp,h1] using r1,r2,by simpa using r3,λj' hj'=>r4 j' (by simpa using hj'),λj' hj'=>?_,r6⟩
      have hj'':j'<cells.length:=by simpa using hj'
      by_cases hjj:j'=j
      ·subst hjj
       have e1:(cells.set j' (.slice sz' n g (.own nm))).getD j' .any = .slice sz' n g (.own nm):=by simp[List.getD,hj]
       rw[e1];have hr':=r5 j' hj'';rw[hs]at hr';obtain⟨ad,hv⟩:=hr'.exact_inv;have hV:=hr'.slice_val;rw[hv]at hV ⊢;refine .own nm sz' e n ad n n g (by simp[it]) (zzL7 _) (λ_=>by simp[thUp]) ?_;rcases hz with⟨rfl,rfl⟩|rfl
       ·exact hV
       ·obtain⟨_,ad',cap,us,he,IN,Is,hz,hn',h1',hl,hr⟩:=hV.slice_inv;simp only[XG,true_and]at he;obtain⟨rfl,rfl⟩:=he;exact .slice ad 0 0 sz' g us IN Is (λh=>by omega) hn' (λj hj=>by omega) (λi hi=>by omega) (λi c hi=>by omega)
      ·have e1:(cells.set j (.slice sz' n g (.own nm))).getD j' .any=cells.getD j' .any:=by simp[List.getD,Tg hjj]
       rw[e1];exact No _ _ (r5 j' hj'')
     ·simp only[it,h1,h2,Iu]at ho;obtain⟨g',c,vs,r1,r2,r3,r4,r5,r6⟩:=BY.row nm' _ cells' ho;exact⟨g',c,vs,by simpa [thUp,h1] using r1,r2,r3,r4,λj' hj'=>No _ _ (r5 j' hj'),r6⟩
   ·by_cases h1:nm'=nm
    ·simp[thUp,h1]at hg
    ·have h2:nm'≠r:=by rintro rfl;simp[it,h1]at ho
     simp only[it,h1,h2,Iu]at ho;simp only[thUp,h1,Iu]at hg;exact BY.tok nm' _ _ _ ho g' c hg
   ·have hx:∀ n1 g' c,it n1≠none->thUp θ nm none n1=some (g',c)->st.sto.own n1≠none/\θ n1=some (g',c):=λn1 g' c ho hg=>by
     by_cases h1:n1=nm
     ·simp[thUp,h1]at hg
     ·simp only[thUp,h1,Iu]at hg;refine⟨?_,hg⟩
      by_cases h2:n1=r
      ·subst h2;have:st.sto.own n1=some (.row e0 cells):=hr;simp[this]
      ·simpa [it,h1,h2] using ho
    obtain⟨a1,a2⟩:=hx n1 g' c ho hg;obtain⟨b1,b2⟩:=hx n2 g' c' ho' hg';exact BY.inj n1 n2 g' c c' a1 b1 a2 b2
   ·by_cases h1:nm'=nm
    ·simp[it,h1]at ho
    ·have h2:nm'≠r:=by rintro rfl;simp[it,h1]at ho
     simp only[it,h1,h2,Iu]at ho;exact Sf (BY.arr nm' _ _ _ _ ho) (by simp[thUp,h1]) (λ_ _ _=>rfl) (λ_ _ _ _ h=>h) (λ_ _=>rfl) (λv i j _ _ hv=>No _ _ hv)
   ·by_cases h1:nm'=nm
    ·simp[it,h1]at ho
    ·have h2:nm'≠r:=by rintro rfl;simp[it,h1]at ho
     simp only[it,h1,h2,Iu]at ho;exact Nn (BY.obj nm' _ ho) (by simp[thUp,h1]) (λ_ _ _=>rfl) (λ_ _ _ _ h=>h) (λ_ hh=>hh.mono No) Ya
  ·by_cases h1:nm'=nm
   ·simp[thUp,h1]at hg
   ·simp only[thUp,h1,Iu]at hg;refine .inr ⟨nm',c,?_,hg⟩
    by_cases h2:nm'=r
    ·subst h2;have:st.sto.own nm'=some (.row e0 cells):=hr;simp[this]
    ·simpa [it,h1,h2] using ho
 refine⟨I,thUp θ nm none,h.size,h.defers,λt'=>?_,?_⟩
 ·rw[By];exact(h.slots t').chg k
 ·rw[By];exact h.chg.trans k
theorem M0{t:Nat}(g:Nat->List AV)(e:TypeId)(hs:st.get t = .slice sz n f .exact)(hn:Aj st.own nm=none)(hz:(sz=sz'/\f=g)\/n=0)(h8:e=Zx->n=0)  (hlt:Nat.blt nm B6=true:=by rfl) :
  Le Γ st ⟨E1 st.tmps t (.slice sz' n g (.own nm)),E1 st.own nm (.tok sz' e n),st.fam⟩:=by
 intro I θ a w h
 have hlt:nm<B6:=by simp_all
 have hn:st.sto.own nm=none:=(Bg hlt).trans hn
 have By:(⟨E1 st.tmps t (.slice sz' n g (.own nm)),E1 st.own nm (.tok sz' e n),st.fam⟩:St).sto.own=A5 st.sto.own nm (.tok sz' e n):=by
  funext k
  show Df _ _ k=_
  rw[M9 hlt];simp only[A5]
  by_cases hk:nm=k
  ·subst hk;simp
  ·simp[hk,Tg hk];rfl
 have k:Chg _ θ I w (A5 _ nm (.tok sz' e n)) (thUp θ nm none) I w:=
  SL h.chg.rel (λ_ _ h=>h) (λ_ _ _=>rfl) (.inl hn) (λ_ _ _=>rfl) (λ_ _ h=>.inl h) h.chg.valid rfl rfl rfl (zzL7 _) (by simp) (by simp) (λ_=>h8)
 refine⟨I,thUp θ nm none,h.size,h.defers,λt'=>?_,?_⟩
 ·rw[By]
  have ad3:(⟨E1 st.tmps t (.slice sz' n g (.own nm)),E1 st.own nm (.tok sz' e n),st.fam⟩:St).sto.tmp t'=if t=t' then .slice sz' n g (.own nm) else st.get t':=by
   show(match Aj (E1 st.tmps t _) t' with|some x=>x|none=>.any)=_
   rw[Kf]
   by_cases hk:t=t'
   ·simp[hk]
   ·simp[hk];rfl
  rw[ad3]
  split
  ·rename_i htt
   subst htt;have hr:=h.slots t
   have hr':Rep I st.sto.own θ w (a.tmps.getD t undef) (.slice sz n f .exact):=by rw[<- hs];exact hr
   obtain⟨ad,hv⟩:=hr'.exact_inv;have hV:=hr'.slice_val;rw[hv]at hV ⊢;refine .own nm sz' e n ad n n g (by simp[A5]) (zzL7 _) (λ_=>by simp[thUp]) ?_;rcases hz with⟨rfl,rfl⟩|rfl
   ·exact hV
   ·obtain⟨_,ad',cap,us,he,IN,Is,hz,hn',h1,hl,hr⟩:=hV.slice_inv;obtain⟨rfl,rfl⟩:=he;exact .slice ad 0 0 sz' g us IN Is (λh=>by omega) hn' (λj hj=>by omega) (λi hi=>by omega) (λi c hi=>by omega)
  ·exact(h.slots t').chg k
 ·rw[By];exact h.chg.trans k
theorem dR{t:Nat}(g:Nat->List AV)(e:TypeId)(hs:st.get t = .slice sz 0 f .exact)(hn:Aj st.own nm=none)  (hlt:Nat.blt nm B6=true:=by rfl) :
  Le Γ st ⟨E1 st.tmps t (.vsl nm 0),E1 st.own nm (.arr sz' e 0 g),st.fam⟩:=by
 intro I θ a w h
 have hlt:nm<B6:=by simp_all
 have hn:st.sto.own nm=none:=(Bg hlt).trans hn
 have By:(⟨E1 st.tmps t (.vsl nm 0),E1 st.own nm (.arr sz' e 0 g),st.fam⟩:St).sto.own=A5 st.sto.own nm (.arr sz' e 0 g):=by
  funext k
  show Df _ _ k=_
  rw[M9 hlt];simp only[A5]
  by_cases hk:nm=k
  ·subst hk;simp
  ·simp[hk,Tg hk];rfl
 have k:Chg _ θ I w (A5 _ nm (.arr sz' e 0 g)) (thUp θ nm none) I w:=
  Pm h.chg.rel h.chg.valid (λ_ _ _=>rfl) (.inl hn) (λ_ _ _=>rfl) rfl rfl rfl (zzL7 _) (λ_=>rfl) (by simp) (by simp)
 refine⟨I,thUp θ nm none,h.size,h.defers,λt'=>?_,?_⟩
 ·rw[By]
  have ad3:(⟨E1 st.tmps t (.vsl nm 0),E1 st.own nm (.arr sz' e 0 g),st.fam⟩:St).sto.tmp t'=if t=t' then .vsl nm 0 else st.get t':=by
   show(match Aj (E1 st.tmps t _) t' with|some x=>x|none=>.any)=_
   rw[Kf]
   by_cases hk:t=t'
   ·simp[hk]
   ·simp[hk];rfl
  rw[ad3]
  split
  ·rename_i htt
   subst htt;have hr:=h.slots t
   have hr':Rep I st.sto.own θ w (a.tmps.getD t undef) (.slice sz 0 f .exact):=by rw[<- hs];exact hr
   obtain⟨ad,hv⟩:=hr'.exact_inv;rw[hv];exact .vsl nm sz' e 0 g ad 0 0 (by simp[A5]) (zzL7 _) (zzL7 _) (DD _) (λ_=>rfl) (λ_=>by simp[thUp])
  ·exact(h.slots t').chg k
 ·rw[By];exact h.chg.trans k
theorem re{K':Exit->St->Prop}(h:DO P Γ c K st)(hk:∀ e st,K e st->K' e st):DO P Γ c K' st:=λI θ a w hr=>
 Wz (h I θ a w hr) λ_ _ _ ⟨st',I',θ',h1,h2⟩=>⟨st',I',θ',hk _ _ h1,h2⟩
theorem jn(h:Le Γ st st')(k:DO P Γ c K st'):DO P Γ c K st:=λI θ a w hr=>let⟨I',θ',hr'⟩:=h I θ a w hr;k I' θ' a w hr'
def clK(Γ:Ip)(K:Exit->St->Prop):Exit->St->Prop:=λe st=>∃ st',Le Γ st st'/\K e st'
theorem Aa3(h:DO P Γ c (clK Γ K) st):DO P Γ c K st:=λI θ a w hr=>
 Wz (h I θ a w hr) λe a' w' ⟨st1,I1,θ1,⟨st2,hl,hk⟩,hr1⟩=>let⟨I2,θ2,hr2⟩:=hl I1 θ1 a' w' hr1;⟨st2,I2,θ2,hk,hr2⟩
theorem rg(h:K .normal st):DO P Γ .skip K st:=λI θ _ _ hr=>wp_skip ⟨st,I,θ,h,hr⟩
theorem od{l:Nat}(h:K .normal st):DO P Γ (.label l) K st:=λI θ _ _ hr=>wp_label ⟨st,I,θ,h,hr⟩
theorem wy(h:K .ret st):DO P Γ .ret K st:=λI θ _ _ hr=>wp_ret ⟨st,I,θ,h,hr⟩
theorem rX(h:K (.exit id) st):DO P Γ (.exit id) K st:=λI θ _ _ hr=>wp_exit ⟨st,I,θ,h,hr⟩
theorem rY{l:Nat}(h:K (.goto l) st):DO P Γ (.goto l) K st:=λI θ _ _ hr=>wp_goto ⟨st,I,θ,h,hr⟩
def zU(P:Program)(Γ:Ip)(y:Code)(K:Exit->St->Prop):Exit->St->Prop
 | .normal,st=>DO P Γ y K st
 | e,st=>K e st
theorem mP(h:DO P Γ x (zU P Γ y K) st):DO P Γ (.seq x y) K st:=λI θ a w hr=>
 wp_seq (Wz (h I θ a w hr) λe a' w' ⟨st',I',θ',h1,h2⟩=>by
  cases e with
  | normal=>exact h1 I' θ' a' w' h2
  | _=>exact⟨st',I',θ',h1,h2⟩)
theorem fe{c:Operand}(b:Bool)(hc:f5 st.get c = .bool b)(ht:b=true->DO P Γ x K st)(hf:b=false->DO P Γ y K st):DO P Γ (.cond c x y) K st:=λI θ a w hr=>by
 have he:=WA hr c;have hc':f5 st.sto.tmp c = .bool b:=hc;rw[hc']at he;exact wp_cond_split he.bool_inv (λh=>ht h I θ a w hr) (λh=>hf h I θ a w hr)
theorem rf{c:Operand}(pos:Bool)(n:Nat)(hc:f5 st.get c = .nilq pos n)(ht:(pos=true->n=0)->DO P Γ x K st)
  (hf:(pos=false->n=0)->DO P Γ y K st):DO P Γ (.cond c x y) K st:=λI θ a w hr=>by
 have he:=WA hr c;have hc':f5 st.sto.tmp c = .nilq pos n:=hc;rw[hc']at he;obtain⟨b,hb,hn⟩:=he.nilq_inv;exact wp_cond_split hb (λh=>ht (λhp=>hn (h.trans hp.symm)) I θ a w hr) (λh=>hf (λhp=>hn (h.trans hp.symm)) I θ a w hr)
theorem tD{β:Type}{l:List α}{r:β}(m:Option β)(F:List α->Option β)(h:F l=some r)(hn:n=0)(hl:n=l.length)(hm:F []=some r->m=some r):m=some r:=by
 grind
def NP(id:Nat)(K:Exit->St->Prop):Exit->St->Prop
 | .exit id',st=>if id'=id then K .normal st else K (.exit id') st
 | e,st=>K e st
theorem oc(h:DO P Γ c (NP id K) st):DO P Γ (.block id c) K st:=λI θ a w hr=>
 wp_block (Wz (h I θ a w hr) λe a' w' ⟨st',I',θ',h1,h2⟩=>by
  cases e with
  | exit id'=>
   simp only[NP]at h1;simp only[Exit.inBlock]
   split
   ·grind
   ·grind
  | _=>exact⟨st',I',θ',h1,h2⟩)
theorem cO(J:Nat->Act->World->Prop)(round:∀ n a w,J n a w->c.wp P (Exit.then (λa' w'=>∃ m,m<n/\J m a' w') Q) a w)(h:J n a w):(Code.loop c).wp P Q a w:=by
 intro b k cs
 have key:∀ n a w,J n a w->∃ e a' w',Q e a' w'/\Arrives P (lone (b.at a (.code c::.inLoop c::k)) cs w) b k cs e a' w':=by
  intro n
  induction n using Nat.strongRecOn with
  | _ n ih=>
   intro a w hJ;obtain⟨e,a₁,w₁,hq,ad1⟩:=round n a w hJ b _ cs
   cases e with
   | normal=>
    obtain⟨m,hlt,hJ'⟩:=hq;obtain⟨e₂,a₂,w₂,hq₂,aj1⟩:=ih m hlt _ _ hJ';exact⟨e₂,a₂,w₂,hq₂,.of_steps (Steps.trans ad1 (.one step_inLoop)) aj1⟩
   | exit id=>exact⟨_,a₁,w₁,hq,.pass  rfl (λ_ _=>.inl (by simp)) ad1⟩
   | goto l=>exact⟨_,a₁,w₁,hq,.pass  rfl (λ_ _=>.inl (by simp)) ad1⟩
   | ret=>exact⟨_,a₁,w₁,hq,.pass  rfl (λ_ _=>.inl (by simp)) ad1⟩
   | panic ch=>exact⟨_,a₁,w₁,hq,.pass  rfl (λ_ _=>.inl (by simp)) ad1⟩
   | outgrown=>exact⟨_,a₁,w₁,hq,.pass  rfl (λ_ _=>.inl (by simp)) ad1⟩
 obtain⟨e,a',w',hq,ad1⟩:=key n a w h;exact⟨e,a',w',hq,.of_steps (.one step_loop) ad1⟩
def KG{S X:Type}(Γ:Ip)(H:S->St)(KX:X->Exit->St->Prop):LR S X->Exit->St->Prop
 | .next s',e,st'=>e = .normal/\Le Γ st' (H s')
 | .done x,e,st'=>e≠.normal/\KX x e st'
theorem ff{body:Code}(H:S->St)(f:S->Option (LR S X))(KX:X->Exit->St->Prop)
  (hb:∀ s y,f s=some y->DO P Γ body (KG Γ H KX y) (H s)) {s:S} {x:X} (hr:Ae f s=some x) (hK:∀ e st',KX x e st'->K e st'):DO P Γ (.loop body) K (H s):=by
 intro I θ a w BY;obtain⟨n,hn⟩:=loopO_iff.1 hr;refine cO (λn a w=>∃ s I θ,LRuns f s x n/\Rel Γ (H s).sto I θ a w) (λn a w ⟨s,I,θ,hs,BY⟩=>?_)  ⟨s,I,θ,hn,BY⟩
 cases hs with
 | done hd=>
  refine Wz (hb s _ hd I θ a w BY) λe a' w' ⟨st',I',θ',h1,h2⟩=>?_;obtain⟨hne,hx⟩:=h1
  cases e with
  | normal=>exact(hne rfl).elim
  | _=>exact⟨st',I',θ',hK _ _ hx,h2⟩
 | @next _ s' _ m hd ht=>
  refine Wz (hb s _ hd I θ a w BY) λe a' w' ⟨st',I',θ',h1,h2⟩=>?_;obtain⟨rfl,hle⟩:=h1;obtain⟨I'',θ'',h3⟩:=hle I' θ' a' w' h2;exact⟨m,Nat.lt_succ_self m,s',I'',θ'',ht,h3⟩
def QL(c:Code)(J:Nat->Act->World->Prop)(Q:Exit->Act->World->Prop):Exit->Act->World->Prop
 | .goto l,a,w=>match findLabel c l with|some _=>J l a w|none=>Q (.goto l) a w
 | e,a,w=>Q e a w
theorem lA(J:Nat->Nat->Act->World->Prop)(first:c.wp P (QL c (λl a' w'=>∃ n,J n l a' w') Q) a w)
  (pass:∀ n l rest a w,findLabel c l=some rest->J n l a w->rest.wp P (QL c (λl' a' w'=>∃ m,m<n/\J m l' a' w') Q) a w):(Code.scope c).wp P Q a w:=by
 intro b k cs
 have hg:∀ l rest,findLabel c l=some rest->gotoIn l (.inScope c::k)=some (.code rest::.inScope c::k):=λl rest hf=>by simp[gotoIn,hf]
 have hg':∀ l k',findLabel c l=none->gotoIn l k=some k'->gotoIn l (.inScope c::k)=some k':=λl k' hf hk=>by simp[gotoIn,hf,hk]
 have key:∀ n l rest a w,findLabel c l=some rest->J n l a w->∃ e a' w',Q e a' w'/\Arrives P (lone (b.at a (.code rest::.inScope c::k)) cs w) b k cs e a' w':=by
  intro n
  induction n using Nat.strongRecOn with
  | _ n ih=>
   intro l rest a w hf hJ;obtain⟨e,a₁,w₁,hq,ad1⟩:=pass n l _ a w hf hJ b _ cs
   cases e with
   | normal=>exact⟨.normal,a₁,w₁,hq,Steps.trans ad1 (.one step_inScope)⟩
   | exit id=>exact⟨.exit id,a₁,w₁,hq,λk' hk=>ad1 k' (by simp[exitTo,hk])⟩
   | goto l'=>
    simp only[QL]at hq
    cases hf':findLabel c l' with
    | some rest'=>
     rw[hf']at hq;obtain⟨m,hlt,hJ'⟩:=hq;obtain⟨e₂,a₂,w₂,hq₂,aj1⟩:=ih m hlt l' _ _ _ hf' hJ';exact⟨e₂,a₂,w₂,hq₂,.of_steps (ad1 _ (hg l' _ hf')) aj1⟩
    | none=>
     rw[hf']at hq;exact⟨.goto l',a₁,w₁,hq,λk' hk=>ad1 k' (hg' l' k' hf' hk)⟩
   | ret=>exact⟨_,a₁,w₁,hq,ad1⟩
   | panic ch=>exact⟨_,a₁,w₁,hq,ad1⟩
   | outgrown=>exact⟨_,a₁,w₁,hq,ad1⟩
 obtain⟨e,a₁,w₁,hq,ad1⟩:=first b _ cs
 cases e with
 | normal=>exact⟨.normal,a₁,w₁,hq,.head KP (Steps.trans ad1 (.one step_inScope))⟩
 | exit id=>exact⟨.exit id,a₁,w₁,hq,λk' hk=>.head KP (ad1 k' (by simp[exitTo,hk]))⟩
 | goto l'=>
  simp only[QL]at hq
  cases hf':findLabel c l' with
  | some rest'=>
   rw[hf']at hq;obtain⟨n,hJ'⟩:=hq;obtain⟨e₂,a₂,w₂,hq₂,aj1⟩:=key n l' _ _ _ hf' hJ';exact⟨e₂,a₂,w₂,hq₂,.of_steps (.head KP (ad1 _ (hg l' _ hf'))) aj1⟩
  | none=>
   rw[hf']at hq;exact⟨.goto l',a₁,w₁,hq,λk' hk=>.head KP (ad1 k' (hg' l' k' hf' hk))⟩
 | ret=>exact⟨_,a₁,w₁,hq,.of_steps (.one KP) ad1⟩
 | panic ch=>exact⟨_,a₁,w₁,hq,.of_steps (.one KP) ad1⟩
 | outgrown=>exact⟨_,a₁,w₁,hq,.of_steps (.one KP) ad1⟩
def UI{S X:Type}(Γ:Ip)(c:Code)(lab:S->Nat)(H:S->St)(KX:X->Exit->St->Prop):LR S X->Exit->St->Prop
 | .next s',e,st'=>e = .goto (lab s')/\(findLabel c (lab s')).isSome=true/\Le Γ st' (H s')
 | .done x,e,st'=>(∀ l,e = .goto l->findLabel c l=none)/\KX x e st'
theorem oe(lab:S->Nat)(H:S->St)(f0:Option (LR S X))(f:S->Option (LR S X))(KX:X->Exit->St->Prop)
  (h0:∀ y,f0=some y->DO P Γ c (UI Γ c lab H KX y) st) (hb:∀ s y rest,findLabel c (lab s)=some rest->f s=some y->DO P Γ rest (UI Γ c lab H KX y) (H s))
  {x:X} (hr:U8 f0 f=some x) (hK:∀ e st',KX x e st'->K e st'):DO P Γ (.scope c) K st:=by
 intro I θ a w BY;obtain⟨y,hy,hr⟩:=bind_some hr
 have fin:∀(J:Nat->Act->World->Prop) (a':Act) (w':World) (e:Exit) st' I' θ',UI Γ c lab H KX (.done x) e st'->Rel Γ st'.sto I' θ' a' w'->QL c J (λe a' w'=>∃ st' I' θ',K e st'/\Rel Γ st'.sto I' θ' a' w') e a' w':=λJ a' w' e st' I' θ' h1 h2=>by
  obtain⟨hl,hx⟩:=h1
  cases e with
  | goto l=>simp only[QL,hl l rfl];exact⟨st',I',θ',hK _ _ hx,h2⟩
  | _=>exact⟨st',I',θ',hK _ _ hx,h2⟩
 refine lA (λn l a w=>∃ s I θ,LRuns f s x n/\lab s=l/\Rel Γ (H s).sto I θ a w) ?_ (λn l rest a w hf ⟨s,I,θ,hs,hl,BY⟩=>?_)
 ·refine Wz (h0 y hy I θ a w BY) λe a' w' ⟨st',I',θ',h1,h2⟩=>?_
  cases y with
  | done x'=>
   grind
  | next s=>
   obtain⟨n,hn⟩:=loopO_iff.1 hr;obtain⟨rfl,hf,hle⟩:=h1;obtain⟨I'',θ'',h3⟩:=hle I' θ' a' w' h2;obtain⟨rest,hf'⟩:=zzL92.1 hf;simp only[QL,hf'];exact⟨n,s,I'',θ'',hn,rfl,h3⟩
 ·subst hl
  cases hs with
  | done hd=>exact Wz (hb s _ _ hf hd I θ a w BY) λe a' w' ⟨st',I',θ',h1,h2⟩=>fin _ a' w' e st' I' θ' h1 h2
  | @next _ s' _ m hd ht=>
   refine Wz (hb s _ _ hf hd I θ a w BY) λe a' w' ⟨st',I',θ',h1,h2⟩=>?_;obtain⟨rfl,hf',hle⟩:=h1;obtain⟨I'',θ'',h3⟩:=hle I' θ' a' w' h2;obtain⟨rest',hf''⟩:=zzL92.1 hf';simp only[QL,hf''];exact⟨m,Nat.lt_succ_self m,s',I'',θ'',ht,rfl,h3⟩
theorem js(h:K .normal st):NP id K (.exit id) st:=by show if id=id then K _ st else K _ st;rw[if_pos rfl];exact h
theorem jr{id':Nat}(hne:Nat.beq id' id=false)(h:K (.exit id') st):NP id K (.exit id') st:=by
 simp only[NP];rw[if_neg (by rintro rfl;simp at hne)];exact h
theorem Bj{b:Bool}{x y:Option R}{r:R}(hb:b=true)(h:(bif b then x else y)=some r):x=some r:=by rw[hb]at h;exact h
theorem xV(h:Γ.own0=Aj H)(hm:(H.all λx=>Ce x.1 ac)=true):∀ nm,Γ.own0 nm≠none->nm∈ac:=λnm hn=>by
 rw[h]at hn
 cases hl:Aj H nm with
 | none=>exact(hn hl).elim
 | some o=>exact memB_mem.1 (zzL21.1 hm _ (O5 hl))
theorem rZ{m:Option X}(KX:X->Exit->St->Prop){x:X}(hr:m=some x)(hx:∀ x,m=some x->DO P Γ c (KX x) st)(hK:∀ e st',KX x e st'->K e st'):DO P Γ c K st:=
 re (hx x hr) hK
end
section
variable {P:Program} {Γ:Ip}
structure RgQ(P:Program)(Γ:Ip)(n:Nat)(H:List (Nat×Own)):Prop where
 hn:Γ.n=n
 mix:P.follows .mixedOrders=true
 own:Γ.own0=Aj H
theorem RgQ.hand(q:RgQ P Γ n H)(h:(H.all λx=>Ce x.1 ac)=true):∀ nm,Γ.own0 nm≠none->nm∈ac:=xV q.own h
end
def yR(P:Program)(st:St):ResultVar->Option AV
 | .tmp t=>some (st.get t)
 | .cell a t=>
  bif Dg P t then
   match st.get a with
   | .ptr nm off=>
    match bif Nat.blt nm B6 then Aj st.own nm else none with
    | some (.row _ cells)=>
     bif F8 P t then(bif Nat.ble (off+Bt P t) cells.length then some (.agg ((cells.drop off).take (Bt P t))) else none)
     else(bif Nat.blt off cells.length then some (cells.getD off .any) else none)
    | _=>none
   | .vpt nm n 0 0=>
    match bif Nat.blt nm B6 then Aj st.own nm else none with
    | some (.arr sz _ m f)=>bif F8 P t&&Nat.beq n m&&Nat.beq (Bt P t) (n*sz) then some (.agg (UC n f)) else none
    | _=>none
   | _=>none
  else none
def WE(P:Program)(st:St):List ResultVar->Option (List AV)
 | []=>some []
 | r::rs=>match yR P st r,WE P st rs with|some x,some l=>some (x::l)|_,_=>none
def kw(P:Program)(st:St)(rs:List ResultVar):Option AV:=
 match WE P st rs with
 | some [x]=>some x
 | some l=>some (.tuple l)
 | none=>none
def WH(ρ:List (Nat×Nat))(st:St):List (Nat×Own):=
 ρ.filterMap λx=>match Aj st.own x.1 with|some o=>some (x.2,o.ren ρ)|none=>none
def WG(H:List (Nat×Own))(ρ:List (Nat×Nat)):Bool:=
 BG (ρ.map (·.1))&&(BG (ρ.map (·.2))&&ρ.all (λx=>Nat.blt x.1 B6))&&H.all (λx=>match Aj ρ x.1 with|some k=>Nat.beq k x.1|none=>false)
def nO(P:Program)(rs:List ResultVar)(ρ:List (Nat×Nat))(H:List (Nat×Own))(st:St):Option (AV×List (Nat×Own)):=
 bif WG H ρ then match kw P st rs with|some x=>some (x.ren ρ,WH ρ st)|none=>none else none
def Ae2(P:Program)(rs:List ResultVar)(H:List (Nat×Own))(res:AV)(H':List (Nat×Own))(e:Exit)(st:St):Prop:=
 (e = .ret\/e = .normal)/\∃ ρ,nO P rs ρ H st=some (res,H')
def f4:Nat->List AV->List (Nat×AV)
 | _,[]=>[]
 | i,x::l=>(i,x)::f4 (i+1) l
def NW(args:List AV)(H:List (Nat×Own)):St:=⟨f4 0 args,H,[]⟩
section
variable {P:Program} {Γ:Ip} {I:Nat->Nat->Prop} {θ:Nat->Option (Nat×Nat)} {a:Act} {w:World} {st:St}
def resSem(a:Act)(r:ResultVar):Sem Value:=
 match r with
 | .tmp t=>Pure.pure (a.tmps.getD t undef)
 | .cell b t=>do loadVar t (<- asAddr (a.tmps.getD b undef))
theorem ku(h:Rel Γ st.sto I θ a w){r:ResultVar}{x:AV}(hx:yR P st r=some x) :
  ∃ v,(resSem a r).run P w = .ok v w/\Rep I st.sto.own θ w v x:=by
 cases r with
 | tmp t=>
  simp only[yR,Ax]at hx;subst hx;exact⟨_,rfl,h.slots t⟩
 | cell b t=>
  simp only[yR]at hx
  cases hT:Dg P t with
  | false=>simp[hT]at hx
  | true=>
   simp only[hT,Ah]at hx
   split at hx
   ·rename_i nm off hb
    split at hx
    ·rename_i e1 cells ae1
     have By:st.sto.own nm=some (.row e1 cells):=by
      cases hb:Nat.blt nm B6 with
      | false=>rw[hb]at ae1;cases ae1
      | true=>rw[hb]at ae1;exact(Bg (by simpa [Nc] using hb)).trans ae1
     have hs:=h.slots b
     have hs':Rep I st.sto.own θ w (a.tmps.getD b undef) (.ptr nm off):=by rw[<- hb];exact hs
     obtain⟨e',cells',g,c,ho',hg,he⟩:=hs'.ptr_inv;obtain⟨g',c',vs,hg',hh,hsz,h1,ab8,_⟩:=h.chg.rel.row nm _ cells By;rw[hg]at hg';simp only[Ax,P6]at hg';obtain⟨rfl,rfl⟩:=hg'
     have ab0:∀ j,j<cells.length->w.cell? ⟨g,j,none⟩=some (vs.getD j undef):=λj hj=>by
      rw[Ot w g j vs _ (0,0) hh];exact O1 (by omega)
     simp only[resSem,he,Fh,asAddr,Jv,Gz]
     cases ab7:F8 P t with
     | true=>
      simp only[ab7,Ah]at hx
      cases hle:Nat.ble (off+Bt P t) cells.length with
      | false=>simp[hle]at hx
      | true=>
       simp only[hle,Ah,Ax]at hx;subst hx;have ag8:=N9 hle;refine⟨_,N7 hT ab7 _ (λj=>vs.getD (off+j) undef) (λj hj=>by rw[Ux];exact ab0 _ (by omega)),.agg _ _ (by simp;omega) (λj hj=>?_) (λj hj=>?_)⟩
       ·have hj':j<Bt P t:=by simp at hj;omega
        rw[Pj _ _ _ hj'];exact h1 _ (by omega)
       ·have hj':j<Bt P t:=by simp at hj;omega
        rw[Pj _ _ _ hj',V7 _ _ _ _ _ hj'];exact ab8 _ (by omega)
     | false=>
      simp only[ab7,Ar]at hx
      cases hlt:Nat.blt off cells.length with
      | false=>simp[hlt]at hx
      | true=>
       simp only[hlt,Ah,Ax]at hx;subst hx
       have ag7:off<cells.length:=by simpa [Nc] using hlt
       exact⟨_,N8 hT ab7 _ _ (ab0 _ ag7),ab8 _ ag7⟩
    ·cases hx
   ·rename_i nm n hb
    split at hx
    ·rename_i sz e1 m f ae1
     have By:st.sto.own nm=some (.arr sz e1 m f):=by
      cases hb:Nat.blt nm B6 with
      | false=>rw[hb]at ae1;cases ae1
      | true=>rw[hb]at ae1;exact(Bg (by simpa [Nc] using hb)).trans ae1
     cases hk:(F8 P t&&Nat.beq n m&&Nat.beq (Bt P t) (n*sz)) with
     | false=>simp[hk]at hx
     | true=>
      simp only[hk,Ah,Ax]at hx;subst hx;simp only[Az]at hk;have hs:=h.slots b
      have hs':Rep I st.sto.own θ w (a.tmps.getD b undef) (.vpt nm n 0 0):=by rw[<- hb];exact hs
      obtain⟨ad,he,vs,ac1,ab8⟩:=p9 (P:=P) h hT hk.1.1 hs' By (Ez hk.1.2) (Ez hk.2);exact⟨_,by simp only[resSem,he,Fh,asAddr,Jv,Gz,ac1],ab8⟩
    ·cases hx
   ·cases hx
theorem BZ(h:Rel Γ st.sto I θ a w):∀{rs:List ResultVar} {xs:List AV},WE P st rs=some xs->
  ∃ vs:List Value,(rs.mapM (resSem a)).run P w = .ok vs w/\RepL I st.sto.own θ w vs xs
 | [],xs,hx=>by simp only[WE,Ax]at hx;subst hx;exact⟨[],by simp,.nil⟩
 | r::rs,xs,hx=>by
  simp only[WE]at hx
  split at hx
  ·rename_i x l h1 h2
   simp only[Ax]at hx;subst hx;obtain⟨v,hv,hr⟩:=ku h h1;obtain⟨vs,hvs,hrs⟩:=BZ h h2;refine⟨v::vs,?_,.cons hr hrs⟩;simp only[List.mapM_cons,Fh,hv,Gz,hvs,Jv]
  ·cases hx
theorem RepL.length{l:List Value}(h:RepL I own θ w l m):l.length=m.length:=by induction h with|nil=>rfl|cons _ _ ih=>simp[ih]
theorem RepL.get{l:List Value}(h:RepL I own θ w l m)(j:Nat)(hj:j<m.length):Rep I own θ w (l.getD j undef) (m.getD j .any):=by
 induction h generalizing j with
 | nil=>cases hj
 | cons h _ ih=>grind
theorem pr(h:Rel Γ st.sto I θ a w){fn:Func}{x:AV}(hx:kw P st fn.results.toList=some x):∃ v,(results fn a.tmps).run P w = .ok v w/\Rep I st.sto.own θ w v x:=by
 unfold kw at hx;have ac1:∀ vs ,(fn.results.toList.mapM (resSem a)).run P w = .ok vs w->
   (results fn _).run P w = .ok (if h:vs.toArray.size=1 then vs.toArray[0] else .tuple vs.toArray) w:=λvs hvs=>by
  have e:results fn a.tmps=(do let vs <- fn.results.mapM (resSem a);pure (if h:vs.size=1 then vs[0] else .tuple vs)):=by
   congr 1
  rw[e,Array.mapM_eq_mapM_toList];simp only[Fh,Sem.run_map];rw[hvs];simp only[Gz,Jv]
 split at hx
 ·rename_i y hy
  simp only[Ax]at hx;obtain⟨vs,hvs,hr⟩:=BZ h hy;have hl:=hr.length
  match vs,hl,hr,hvs with
  | [v],_,hr,hvs=>
   cases hr with|cons hr _=>grind
 ·rename_i l hne hl
  simp only[Ax]at hx;subst hx;obtain⟨vs,hvs,hr⟩:=BZ h hl;have IT:=hr.length
  have hn1:vs.length≠1:=λh1=>by
   match l,IT,hne with
   | [],IT,_=>grind
   | [x],_,hne=>exact hne x rfl
   | _::_::_,IT,_=>simp at IT;omega
  refine⟨.tuple vs.toArray,by grind,.tuple _ _ (by simpa using IT) λj hj=>?_⟩;have:=hr.get j hj;rwa[<- Xm]at this
 ·cases hx
theorem bg:∀(l:List AV) (i t:Nat),Aj (f4 i l) t=if i<=t/\t<i+l.length then some (l.getD (t-i) .any) else none
 | [],i,t=>by rw[if_neg (by simp)];rfl
 | x::l,i,t=>by
  simp only[f4,Aj,bg l _ t]
  cases hb:Nat.beq i t with
  | true=>
   simp_all
  | false=>
   have hne:i≠t:=by rintro rfl;simp at hb
   simp only[Ar]
   by_cases h:i+1<=t/\t<i+1+l.length
   ·grind
   ·grind
theorem cB(h2:(ρ.map (·.2)).Nodup)(st:St)(k:Nat):Aj (WH ρ st) k=(Aj (Md ρ) k).bind λnm=>(Aj st.own nm).map (Own.ren ρ):=by
 have key:∀(l:List _),(l.map (·.2)).Nodup->Aj (l.filterMap λx=>match Aj st.own x.1 with|some o=>some (x.2,o.ren ρ)|none=>none) k=(Aj (Md l) k).bind λnm=>(Aj st.own nm).map (Own.ren ρ):=by
  intro l
  induction l with
  | nil=>intro _;rfl
  | cons x l ih=>
   intro hn;obtain⟨nm,c⟩:=x;simp only[Db,zzL108]at hn;have ih:=ih hn.2;simp only[List.filterMap_cons,Md,Db,Aj]
   cases ho:Aj _ nm with
   | some o=>
    simp only[Aj]
    cases hb:Nat.beq c k with
    | true=>simp[ho]
    | false=>simpa [Md] using ih
   | none=>
    cases hb:Nat.beq c k with
    | true=>
     have:=Ez hb;simp only[Ah,Am,ho]
     apply Zd
     intro hm;obtain⟨y,hy,rfl⟩:=zzL16.1 hm;obtain⟨z,hz,hzy⟩:=List.mem_filterMap.1 hy
     cases hz':Aj st.own z.1 with
     | none=>grind
     | some o'=>
      grind
    | false=>simpa [Md] using ih
 exact key ρ h2
theorem xJ{own0:Nat->Option Own}{θ0:Nat->Option (Nat×Nat)}{I0:Nat->Nat->Prop}{w0:World}(hρ:∀ nm c,Aj ρ nm=some c->own nm=Aj st.own nm)(h1:(ρ.map (·.1)).Nodup)(h2:(ρ.map (·.2)).Nodup)(k:Chg own0 θ0 I0 w0 own θ I w)
  (hh:∀ nm,own0 nm≠none->Aj ρ nm=some nm) :
  Chg own0 θ0 I0 w0 (Aj (WH ρ st)) (λk=>(Aj (Md ρ) k).bind θ) I w/\∀ v x,Rep I own θ w v x->Rep I (Aj (WH ρ st)) (λk=>(Aj (Md ρ) k).bind θ) w v (x.ren ρ):=by
 have hfw:∀ nm c o,Aj ρ nm=some c->own nm=some o->Aj (WH ρ st) c=some (o.ren ρ)/\(Aj (Md ρ) c).bind θ=θ nm:=λnm c o hl ho=>by
  have hs:=(Tw h1 h2).1 hl;rw[hρ nm c hl]at ho;rw[cB h2,hs];simp[ho]
 have hbw:∀ c o,Aj (WH ρ st) c=some o->∃ nm o',Aj ρ nm=some c/\own nm=some o'/\o=o'.ren ρ/\(Aj (Md ρ) c).bind θ=θ nm:=λc o ho=>by
  rw[cB h2]at ho;obtain⟨nm,hs,ho'⟩:=zzL103.1 ho;obtain⟨o',ag1,rfl⟩:=zzL89.1 ho';exact⟨nm,o',(Tw h1 h2).2 hs,(hρ nm c ((Tw h1 h2).2 hs)).trans ag1,rfl,by simp[hs]⟩
 refine⟨{ k with le:=λnm o ho=>?_,rel:=⟨λc e' cells hc=>?_,λc sz e m hc g cc hg=>?_,λc c' g cc cc' hc hc' hg hg'=>?_,λc sz e m f hc=>?_,λc x hc=>?_,λc sz m hc hnn=>?_⟩,new:=λc g cc hc hg=>?_ },λv x hx=>hx.ren ρ hfw⟩
 ·obtain⟨o',ho',hl⟩:=k.le nm o ho;obtain⟨e1,e2⟩:=hfw nm nm o' (hh nm (by simp[ho])) ho';refine⟨_,e1,?_⟩;rw[e2]
  cases o<;>cases o'<;>simp_all [OwnLe,Own.ren]
 rotate_left 5
 ·obtain⟨nm,o',hl,ho',he,ht⟩:=hbw c _ hc
  cases o' with
  | row=>simp[Own.ren]at he
  | arr=>simp[Own.ren]at he
  | obj=>simp[Own.ren]at he
  | tok=>
   simp only[Own.ren,Own.tok.injEq]at he;obtain⟨rfl,rfl,rfl⟩:=he;exact k.rel.tok8 nm _ _ ho' (ht.symm.trans hnn)
 rotate_right 1
 ·obtain⟨nm,o',hl,ho',he,ht⟩:=hbw c _ hc
  cases o' with
  | row=>simp[Own.ren]at he
  | tok=>simp[Own.ren]at he
  | arr=>simp[Own.ren]at he
  | obj x'=>
   simp only[Own.ren,Own.obj.injEq]at he;subst he;exact Nn (θ':=λc=>(Aj (Md ρ) c).bind θ) (nm':=c) (k.rel.obj nm _ ho') ht (λ_ _ _=>rfl) (λ_ _ _ _ h=>h) (λ_ hh=>hh.on _ (λ_ _ h=>h) (λ_ _ _=>rfl) λ_ _ hv=>hv.ren ρ hfw) VN
 rotate_left 1
 ·obtain⟨nm,o',hl,ho',he,ht⟩:=hbw c _ hc
  cases o' with
  | tok=>simp[Own.ren]at he
  | arr=>simp[Own.ren]at he
  | obj=>simp[Own.ren]at he
  | row e1 cs=>
   simp only[Own.ren,Own.row.injEq]at he;obtain⟨rfl,rfl⟩:=he;obtain⟨g,c',vs,r1,r2,r3,r4,r5,r6⟩:=k.rel.row nm _ cs ho';refine⟨g,c',vs,ht.trans r1,r2,by rw[Br];exact r3,λj hj=>r4 j (by rwa[Br]at hj),λj hj=>?_,r6⟩;rw[M6];exact(r5 j (by rwa[Br]at hj)).ren ρ hfw
 ·obtain⟨nm,o',hl,ho',he,ht⟩:=hbw c _ hc
  cases o' with
  | row=>simp[Own.ren]at he
  | arr=>simp[Own.ren]at he
  | obj=>simp[Own.ren]at he
  | tok=>
   simp only[Own.ren,Own.tok.injEq]at he;obtain⟨rfl,rfl,rfl⟩:=he;exact k.rel.tok nm _ _ _ ho' g cc (by rw[<- ht];exact hg)
 ·cases hx:Aj (WH ρ st) c with
  | none=>exact(hc hx).elim
  | some o=>
   cases hx':Aj (WH ρ st) c' with
   | none=>exact(hc' hx').elim
   | some o'=>
    obtain⟨nm,o1,hl,ho1,_,ht⟩:=hbw c o hx;obtain⟨nm',o2,hl',ho2,_,ht'⟩:=hbw c' o' hx';rw[ht]at hg;rw[ht']at hg';have:=k.rel.inj nm nm' g cc cc' (by simp[ho1]) (by simp[ho2]) hg hg';subst this;rw[hl]at hl';exact OI hl'
 ·obtain⟨nm,o',hl,ho',he,ht⟩:=hbw c _ hc
  cases o' with
  | row=>simp[Own.ren]at he
  | tok=>simp[Own.ren]at he
  | obj=>simp[Own.ren]at he
  | arr sz' e' m' f'=>
   simp only[Own.ren,Own.arr.injEq]at he;obtain⟨rfl,rfl,rfl,rfl⟩:=he;exact Sf (k.rel.arr nm _ _ _ _ ho') ht (λ_ _ _=>rfl) (λ_ _ _ _ h=>h) (λi _=>Br _ _) (λv i j _ _ hv=>by rw[M6];exact hv.ren ρ hfw)
 ·cases hx:Aj (WH ρ st) c with
  | none=>exact(hc hx).elim
  | some o=>
   obtain⟨nm,o1,hl,ho1,_,ht⟩:=hbw c o hx;rw[ht]at hg;exact k.new nm g cc (by simp[ho1]) hg
theorem iZ {f : FuncId} {fn : Func} {c : Code} {args : List AV} {H H' : List (Nat × Own)} {res : AV} (hf : P.funcs[f]? = some fn) (hb : fn.body = some c) (hname : (fn.name == "runtime.NumGoroutine") = false) (IT : Nat.ble args.length fn.ntmps = true)
    (h : ∀ Γ : Ip, Γ.n = fn.ntmps → Γ.own0 = Aj H → DO P Γ c (Ae2 P fn.results.toList H res H') (NW args H)) (hpl : VS H = true := by rfl) : Spec P f args H res H' := by
  have IT := N9 IT; refine ⟨fun az w => ?_, fun w I θ az ae2 By ab5 hglob => ?_⟩
  · have hn  := by simpa using hname
    simp [callFunc, hf, hn, hb]
  · let Γ : Ip := ⟨w, fn.ntmps, Aj H, θ, I, hglob, fun nm h => VT hpl h⟩
    refine calls_of_wp hf hb ?_
    have has : az.size = args.length := by simpa using ae2.length
    have ae1 : (NW args H).sto.own = Aj H := dF hpl
    have BY : Rel Γ (NW args H).sto I θ ⟨az ++ Array.replicate (fn.ntmps - az.size) undef, []⟩ w := by
      refine ⟨by simp [Γ]; omega, rfl, fun t => ?_, by rw [ae1]; exact .refl By ab5⟩
      have e : (NW args H).sto.tmp t = if t < args.length then args.getD t .any else .any := by
        show (match Aj (f4 0 args) t with | some x => x | none => .any) = _
        rw [bg]
        by_cases ht : t < args.length
        · simp [ht]
        · simp [ht]
      rw [e, ae1]
      by_cases ht : t < args.length
      · rw [if_pos ht]; have := ae2.get t ht
        have e2 : (az ++ Array.replicate (fn.ntmps - az.size) undef).getD t undef = az.toList.getD t undef := by
          have hts : t < az.size := by omega
          simp [ List.getD, Array.getElem?_append_left hts]
        rw [e2]; exact this
      · rw [if_neg ht]; exact .val _ _ (.any _)
    refine Wz (h Γ rfl rfl I θ _ w BY) fun e a' w' ⟨st', I', θ', ⟨he, ρ, hret⟩, hr⟩ => ?_; unfold nO at hret
    cases hc : WG H ρ with
    | false => simp [hc] at hret
    | true =>
      simp only [hc, Ah] at hret
      split at hret
      · rename_i x hx
        obtain ⟨rfl, rfl⟩ := hret; simp only [WG, Az] at hc; obtain ⟨⟨c1, c2, c4⟩, c3⟩ := hc; obtain ⟨v, hv, ab8⟩ := pr (fn := fn) hr hx
        obtain ⟨k1, k2⟩ := xJ (own := st'.sto.own) (st := st') (fun nm c hl => Bg (by have := zzL21.1 c4 _ (O5 hl); simpa [Nc] using this)) (Pu c1) (Pu c2) hr.chg (fun nm hn => by
          cases hl : Aj H nm with
          | none => exact (hn hl).elim
          | some o =>
            have := zzL21.1 c3 _ (O5 hl)
            split at this
            · simp_all
            · cases this)
        have hfin : a'.defers = [] ∧ ∃ v, (results fn a'.tmps).run P w' = .ok v w' ∧ (∃ v_1 I' θ', Ending.returned v = .returned v_1 ∧ Chg (Aj H) θ I w (Aj (WH ρ st')) θ' I' w' ∧ Rep I' (Aj (WH ρ st')) θ' w' v_1 (x.ren ρ)) :=
          ⟨hr.defers, v, hv, v, I', _, rfl, k1, k2 _ _ ab8⟩
        rcases he with rfl | rfl <;> exact hfin
      · cases hret
theorem law_of_spec{f:FuncId}{args:List AV}(h:Spec P f args [] (.bool true) [])(w:World)(az:Array Value)(ae2:RepL (λb o=>∃ u,w.cell? ⟨b,o,none⟩=some u) (Aj []) (λ_=>none) w az.toList args)(hG:GOk (λb o=>∃ u,w.cell? ⟨b,o,none⟩=some u) w) :
  Calls P f az w λe w'=>e = .returned (.bool true)/\Below w.heap.size w w':=by
 refine Calls.mono (h.2 w _ _ az ae2 ⟨(λ_ _ _ h=>by cases h),(λ_ _ _ _ h=>by cases h),(λ_ _ _ _ _ h=>(h rfl).elim),(λ_ _ _ _ _ h=>by cases h),(λ_ _ h=>by cases h),(λ_ _ _ h=>by cases h)⟩ (λ_ _ h=>h) hG) λe w' ⟨v,I',θ',he,k,hr⟩=>?_;subst he;rw[hr.bool_inv];exact⟨rfl,k.os,k.tape,k.output,k.grow,λb hb=>k.frame b hb λ_ _ h=>(h rfl).elim⟩
end
def AV.list{α:Type}(sz:Nat)(e:α->List AV)(d:α)(l:List α)(t:Tag):AV:=.slice sz l.length (λi=>e (l.getD i d)) t
section
variable {α:Type} {sz:Nat} {e:α->List AV} {d:α}
theorem Cw:AVle (.slice 0 0 (λ_=>[]) .exact) (AV.list sz e d [] .exact):=AVle.empty rfl (λ_ h=>by cases h)
theorem dA{xs:List α}(hn:n=xs.length)(hf:∀ i,i<n->f i=e (xs.getD i d)):AVle (.slice sz n f t) (AV.list sz e d xs t):=AVle.slice hn hf
theorem xn(xs:List α)(i:Nat)(h:i<xs.length):(xs.map e).getD i []=e (xs.getD i d):=by simp[List.getD,h]
theorem mM(l m:List α)(i:Nat)(h:i<l.length+m.length):Qi l.length (λi=>e (l.getD i d)) (λi=>e (m.getD i d)) i=e ((l++m).getD i d):=by
 by_cases hi:i<l.length
 ·rw[Se _ _ hi,List.getD,List.getD,W0 hi]
 ·rw[Xh _ _ (by omega),List.getD,List.getD,X2 (by omega)]
theorem Aa2{l m:List α}:AVle (.slice sz (l.length+m.length) (Qi l.length (λi=>e (l.getD i d)) (λi=>e (m.getD i d))) t) (AV.list sz e d (l++m) t):=
 AVle.slice (by simp) λi hi=>mM l m i hi
theorem Bm(l m:List α):l.length+m.length=(l++m).length:=by simp
theorem SJ{l:List α}:AVle (.slice sz (l.length-k) (λi=>e (l.getD (k+i) d)) t) (AV.list sz e d (l.drop k) t):=
 AVle.slice (by simp) λi _=>by simp[List.getD]
end
theorem Spec.drop{f:FuncId}{args:List AV}{res:AV}{H':List (Nat×Own)}(h:Spec P f args [] res H'):Spec P f args [] res.strip []:=by
 refine⟨h.1,λw I θ az ha ho hv hg=>Calls.mono (h.2 w I θ az ha ho hv hg) λe w' ⟨v,I',θ',he,k,hr⟩=>⟨v,I',θ',he,⟨k.imm,k.cell,(λ_ _ h=>by cases h),⟨(λ_ _ _ h=>by cases h),(λ_ _ _ _ h=>by cases h),(λ_ _ _ _ _ h=>(h rfl).elim),(λ_ _ _ _ _ h=>by cases h),(λ_ _ h=>by cases h),(λ_ _ _ h=>by cases h)⟩,k.valid,k.os,k.tape,k.output,k.drawn,k.grow,k.frame,(λ_ _ _ h=>(h rfl).elim),λb o hi=>?_⟩,.val _ _ hr.strip⟩⟩;exact k.immNew b o hi
variable {x zz:AV}{β:Type}{e e1:TypeId}{cs z:List AV}{f' F F':Nat->List AV}{m a N q r s1:Nat}{c:Bool}{p:Tag->Bool}{ab4:Nat->Bool}
theorem Lj{e:α->List AV}{d:α}{l m:List α}:AVle (.slice sz (bif γ then m.length else l.length) (λi=>bif γ then e (m.getD i d) else e (l.getD i d)) .none) (AV.list sz e d (bif γ then m else l) .none):=by cases γ<;>exact λ_ _ _ _ _ h=>h
theorem Spec.args{f:FuncId}{xs ys:List AV}{res:AV}{H':List (Nat×Own)}(hl:AVleL xs ys)(h:Spec P f ys H res H'):Spec P f xs H res H':=by
 refine⟨h.1,λw I θ az ha ho hv hg=>h.2 w I θ az ?_ ho hv hg⟩
 revert hl
 have key:∀{vs:List Value} {xs ys:List AV},AVleL xs ys->RepL I (Aj H) θ w vs xs->RepL I (Aj H) θ w vs ys:=by
  intro vs xs ys hl
  induction hl generalizing vs with
  | nil=>intro h;cases h;exact .nil
  | cons h1 _ ih=>intro h;cases h with|cons h2 h3=>exact .cons (h1 _ _ _ _ _ h2) (ih h3)
 exact λhl=>key hl ha
theorem AP{e:α->List AV}{d:α}:AVle (.slice 0 0 (λ_=>[]) .exact) (AV.list sz e d [] .none):=λ_ _ _ _ _ hh=>AVle.untag _ _ _ _ _ (Cw _ _ _ _ _ hh)
instance (i:Int)(n:Nat):Decidable (As i n):=inferInstanceAs (Decidable (_/\_))
abbrev w64(n:Int):Int:=IntKind.i64.wrap n
abbrev Jp(n:Int):Int:=IntKind.u64.wrap n
open Classical in
section
variable {Γ:Ip}
theorem UP(ab2 ac:List Nat)(h:H7 ab2 ac st=st')(hn:∀ nm,Γ.own0 nm≠none->nm∈ac):Le Γ st st':=h▸gW ab2 ac hn
theorem A9(ab2 ac:List Nat)(q:RgQ P Γ n H)(h:H7 ab2 ac st=st':=by kernel_rfl)(hh:(H.all λx=>Ce x.1 ac)=true:=by kernel_rfl):Le Γ st st':=UP ab2 ac h (q.hand hh)
theorem Iw(h:st=st'):Le Γ st st':=h▸Le.refl _ _
end
section
variable {P:Program} {Γ:Ip}
def DP(nm:Nat)(k:Nat):Bool:=!Nat.beq k nm
mutual
def AV.frz(nm sz n:Nat)(g:Nat->List AV):AV->AV
 | .slice s m f (.own k)=>.slice s m f (bif Nat.beq k nm then .none else .own k)
 | .ptr k off=>bif Nat.beq k nm then .any else .ptr k off
 | .vsl k j=>bif Nat.beq k nm then .slice sz n g (.own nm) else .vsl k j
 | .vpt k j i c=>bif Nat.beq k nm then .any else .vpt k j i c
 | .vsub k j l h=>bif Nat.beq k nm then .slice sz (h-l) (λi=>g (l+i)) .none else .vsub k j l h
 | .optr k m=>bif Nat.beq k nm then .any else .optr k m
 | .omap k=>bif Nat.beq k nm then .any else .omap k
 | .clo f xs ys=>.clo f (AV.frzAll nm sz n g xs) (AV.frzAll nm sz n g ys)
 | .agg cs=>.agg (AV.frzAll nm sz n g cs)
 | .rpo cs=>.rpo (AV.frzAll nm sz n g cs)
 | .tuple cs=>.tuple (AV.frzAll nm sz n g cs)
 | .cond c x=>.cond c (x.frz nm sz n g)
 | x=>x
def AV.frzAll(nm sz n:Nat)(g:Nat->List AV):List AV->List AV
 | []=>[]
 | x::l=>x.frz nm sz n g::AV.frzAll nm sz n g l
end
mutual
def AV.wholes(nm n:Nat):AV->List Prop
 | .vsl k j=>bif Nat.beq k nm then[j=n] else[]
 | .vsub k j _ _=>bif Nat.beq k nm then[j=n] else[]
 | .agg cs=>AV.wholesAll nm n cs
 | .rpo cs=>AV.wholesAll nm n cs
 | .tuple cs=>AV.wholesAll nm n cs
 | .cond _ x=>x.wholes nm n
 | .clo _ xs ys=>AV.wholesAll nm n xs++AV.wholesAll nm n ys
 | _=>[]
def AV.wholesAll(nm n:Nat):List AV->List Prop
 | []=>[]
 | x::l=>x.wholes nm n++AV.wholesAll nm n l
end
mutual
def AV.frw(nm sz n:Nat)(g:Nat->List AV):AV->AV
 | .slice s m f (.own k)=>.slice s m f (bif DP nm k then .own k else .none)
 | .slice s m f (.fam b i)=>.slice s m f (bif DP nm b then .fam b i else .none)
 | .ptr k off=>bif DP nm k then .ptr k off else .any
 | .vsl k j=>bif DP nm k then .vsl k j else bif Nat.beq j n then .slice sz n g .none else .any
 | .vpt k j i c=>bif DP nm k then .vpt k j i c else .any
 | .vsub k j l h=>bif DP nm k then .vsub k j l h else .any
 | .optr k m=>bif DP nm k then .optr k m else .any
 | .omap k=>bif DP nm k then .omap k else .any
 | .clo f xs ys=>.clo f (AV.frwAll nm sz n g xs) (AV.frwAll nm sz n g ys)
 | .agg cs=>.agg (AV.frwAll nm sz n g cs)
 | .rpo cs=>.rpo (AV.frwAll nm sz n g cs)
 | .tuple cs=>.tuple (AV.frwAll nm sz n g cs)
 | .cond c x=>.cond c (x.frw nm sz n g)
 | x=>x
def AV.frwAll(nm sz n:Nat)(g:Nat->List AV):List AV->List AV
 | []=>[]
 | x::l=>x.frw nm sz n g::AV.frwAll nm sz n g l
end
theorem Dw(nm sz n:Nat)(g:Nat->List AV)(l:List AV):(AV.frwAll nm sz n g l).length=l.length:=by induction l with|nil=>rfl|cons x l ih=>simp[AV.frwAll,ih]
theorem Un(nm sz n:Nat)(g:Nat->List AV)(l:List AV)(j:Nat):(AV.frwAll nm sz n g l).getD j .any=(l.getD j .any).frw nm sz n g:=by
 induction l generalizing j with
 | nil=>simp[AV.frwAll,AV.frw]
 | cons x l ih=>cases j with
  | zero=>simp[AV.frwAll]
  | succ j=>simpa [AV.frwAll] using ih j
theorem RepV.frw(h:RepV I w v x)(nm sz n:Nat)(g:Nat->List AV):RepV I w v (x.frw nm sz n g):=by
 induction h with
 | any v=>exact .any v
 | undef=>exact .undef
 | int k n=>exact .int k n
 | bool b=>exact .bool b
 | str s=>exact .str s
 | clo f=>exact .clo f
 | nxt1 i r=>exact .nxt1 i r
 | nxt0 i r=>exact .nxt0 i r
 | nilq b pos n h=>exact .nilq b pos n h
 | err0=>exact .err0
 | err1 t v=>exact .err1 t v
 | nilp=>exact .nilp
 | nilm=>exact .nilm
 | cond v c x _ h' ih=>exact .cond v c _ ih h'
 | rptr a cells us hs hI' hc h1 hr _=>exact .rptr a _ us hs hI' hc h1 hr
 | slice a n cap sz f us IN Is hz hn h1 hl hr _=>exact .slice a n cap sz f us IN Is hz hn h1 hl hr
 | agg vs cs hl h1 _ ih=>exact .agg vs _ (by rw[Dw,hl]) (λj hj=>h1 j (by rwa[Dw]at hj)) (λj hj=>by rw[Un];exact ih j (by rwa[Dw]at hj))
 | tuple vs cs hl _ ih=>exact .tuple vs _ (by rw[Dw,hl]) (λj hj=>by rw[Un];exact ih j (by rwa[Dw]at hj))
def Own.frz(nm sz n:Nat)(g:Nat->List AV):Own->Own
 | .row e cells=>.row e (AV.frzAll nm sz n g cells)
 | .arr s e m f=>.arr s e m (λi=>AV.frwAll nm sz n g (f i))
 | .obj x=>.obj (x.on (AV.frw nm sz n g))
 | .tok s e m=>.tok s e m
def Own.wholes(nm n:Nat):Own->List Prop
 | .row _ cells=>AV.wholesAll nm n cells
 | _=>[]
def St.wholes(st:St)(nm n:Nat):List Prop:=(st.tmps.map λx=>x.2.wholes nm n).flatten++(st.own.map λx=>x.2.wholes nm n).flatten
def St.freeze(st:St)(nm sz n:Nat)(e:TypeId)(g:Nat->List AV):St:=
 ⟨st.tmps.map λx=>(x.1,x.2.frz nm sz n g),st.own.map λx=>(x.1,bif Nat.beq x.1 nm then .tok sz e n else x.2.frz nm sz n g),st.fam⟩
theorem C3(nm sz n:Nat)(g:Nat->List AV)(l:List AV):(AV.frzAll nm sz n g l).length=l.length:=by induction l with|nil=>rfl|cons x l ih=>simp[AV.frzAll,ih]
theorem Uo(nm sz n:Nat)(g:Nat->List AV)(l:List AV)(j:Nat):(AV.frzAll nm sz n g l).getD j .any=(l.getD j .any).frz nm sz n g:=by
 induction l generalizing j with
 | nil=>simp[AV.frzAll,AV.frz]
 | cons x l ih=>cases j with
  | zero=>simp[AV.frzAll]
  | succ j=>simpa [AV.frzAll] using ih j
theorem Rw(h:∀ p∈AV.wholesAll nm n l,p)(j:Nat):∀ p∈(l.getD j .any).wholes nm n,p:=by
 induction l generalizing j with
 | nil=>intro p hp;simp[AV.wholes]at hp
 | cons x l ih=>
  cases j with
  | zero=>intro p hp;exact h p (zzL8.2 (.inl (by simpa using hp)))
  | succ j=>intro p hp;exact ih (λq hq=>h q (zzL8.2 (.inr hq))) j p (by simpa using hp)
theorem RepV.frz(h:RepV I w v x)(nm sz n:Nat)(g:Nat->List AV):RepV I w v (x.frz nm sz n g):=by
 induction h with
 | any v=>exact .any v
 | undef=>exact .undef
 | int k n=>exact .int k n
 | bool b=>exact .bool b
 | str s=>exact .str s
 | clo f=>exact .clo f
 | nxt1 i r=>exact .nxt1 i r
 | nxt0 i r=>exact .nxt0 i r
 | nilq b pos n h=>exact .nilq b pos n h
 | err0=>exact .err0
 | err1 t v=>exact .err1 t v
 | nilp=>exact .nilp
 | nilm=>exact .nilm
 | cond v c x _ h' ih=>exact .cond v c _ ih h'
 | rptr a cells us hs hI' hc h1 hr _=>exact .rptr a _ us hs hI' hc h1 hr
 | slice a n cap sz f us IN Is hz hn h1 hl hr _=>exact .slice a n cap sz f us IN Is hz hn h1 hl hr
 | agg vs cs hl h1 _ ih=>exact .agg vs _ (by rw[C3,hl]) (λj hj=>h1 j (by rwa[C3]at hj)) (λj hj=>by rw[Uo];exact ih j (by rwa[C3]at hj))
 | tuple vs cs hl _ ih=>exact .tuple vs _ (by rw[C3,hl]) (λj hj=>by rw[Uo];exact ih j (by rwa[C3]at hj))
theorem Rep.frz(h:Rep I own θ w v x)(hp:∀ p∈x.wholes nm n,p)(hI:∀ b o,I b o->I' b o)
  (ho:∀ k o,own k=some o->Nat.beq k nm=false->it k=some (o.frz nm sz n g)) (hk:∀ v,Rep I own θ w v (.vsl nm n)->Rep I' it θ w v (.slice sz n g (.own nm))) (hk2:∀ v l h,Rep I own θ w v (.vsub nm n l h)->RepV I' w v (.slice sz (h-l) (λi=>g (l+i)) .none)) (ag7:∀ b i,Nat.beq (U0 b i) nm=false):Rep I' it θ w v (x.frz nm sz n g):=by
 induction h with
 | val v x h=>exact .val _ _ ((h.frz nm sz n g).mono hI (λ_ _ _=>rfl))
 | exact a n sz f h=>exact .exact a n sz f (h.mono hI (λ_ _ _=>rfl))
 | own k sz e m a n cap f hn hm hv h=>
  simp only[AV.frz]
  cases hb:Nat.beq k nm with
  | true=>exact .val _ _ (h.mono hI (λ_ _ _=>rfl))
  | false=>exact .own k sz e m a n cap f (ho k _ hn hb) hm hv (h.mono hI (λ_ _ _=>rfl))
 | fam b i sz e m a n cap f hi hn hm hv h=>
  exact .fam b i sz e m a n cap f hi (ho _ _ hn (ag7 b i)) hm hv (h.mono hI (λ_ _ _=>rfl))
 | ptr k off e0 cells g c hn hg=>
  simp only[AV.frz]
  cases hb:Nat.beq k nm with
  | true=>exact .val _ _ (.any _)
  | false=>exact .ptr k off e0 _ g c (ho k _ hn hb) hg
 | vsl k s2 e m f a j cap hn hm IN Is hnn hv=>
  simp only[AV.frz]
  cases hb:Nat.beq k nm with
  | true=>
   obtain rfl:=Ez hb;obtain rfl:j=n:=hp _ (by simp[AV.wholes]);exact hk _ (.vsl k s2 e m f a j cap hn hm IN Is hnn hv)
  | false=>exact .vsl k s2 e m _ a j cap (ho k _ hn hb) hm IN Is hnn hv
 | vpt k s2 e m f j i c ad hn hm hi hv=>
  simp only[AV.frz]
  cases hb:Nat.beq k nm with
  | true=>exact .val _ _ (.any _)
  | false=>exact .vpt k s2 e m _ j i c ad (ho k _ hn hb) hm hi hv
 | clo f fs cs xs ys hl hl' _ _ ih ih'=>
  simp only[AV.wholes,zzL8]at hp;exact .clo f fs cs _ _ (by rw[C3,hl]) (by rw[C3,hl']) (λj hj=>by rw[Uo];exact ih j (by rwa[C3]at hj) (Rw (λp h=>hp p (.inl h)) j)) (λj hj=>by rw[Uo];exact ih' j (by rwa[C3]at hj) (Rw (λp h=>hp p (.inr h)) j))
 | vsub k s2 e m f j lo hi a cap hn hm hlo hhi IN Is hnn hv=>
  simp only[AV.frz]
  cases hb:Nat.beq k nm with
  | true=>
   obtain rfl:=Ez hb;obtain rfl:j=n:=hp _ (by simp[AV.wholes]);exact .val _ _ (hk2 _ _ _ (.vsub k s2 e m f j lo hi a cap hn hm hlo hhi IN Is hnn hv))
  | false=>exact .vsub k s2 e m _ j lo hi a cap (ho k _ hn hb) hm hlo hhi IN Is hnn hv
 | optr k mm x g c hn hg=>
  simp only[AV.frz]
  cases hb:Nat.beq k nm with
  | true=>exact .val _ _ (.any _)
  | false=>exact .optr k _ _ g c (ho k _ hn hb) hg
 | omap k x hn=>
  simp only[AV.frz]
  cases hb:Nat.beq k nm with
  | true=>exact .val _ _ (.any _)
  | false=>exact .omap k _ (ho k _ hn hb)
 | cond v c x _ h' ih=>exact .cond v c _ (λhc=>ih hc (by simpa [AV.wholes] using hp)) h'
 | agg vs cs hl h1 _ ih=>exact .agg vs _ (by rw[C3,hl]) (λj hj=>h1 j (by rwa[C3]at hj)) (λj hj=>by rw[Uo];exact ih j (by rwa[C3]at hj) (Rw (by simpa [AV.wholes] using hp) j))
 | rpo a cells us hs hI' hc h1 _ ih=>exact .rpo a _ us hs (λj hj=>hI _ _ (hI' j (by rwa[C3]at hj))) (λj hj=>hc j (by rwa[C3]at hj)) (λj hj=>h1 j (by rwa[C3]at hj)) (λj hj=>by rw[Uo];exact ih j (by rwa[C3]at hj) (Rw (by simpa [AV.wholes] using hp) j))
 | tuple vs cs hl _ ih=>exact .tuple vs _ (by rw[C3,hl]) (λj hj=>by rw[Uo];exact ih j (by rwa[C3]at hj) (Rw (by simpa [AV.wholes] using hp) j))
theorem bh(l:List (Nat×α))(g:Nat->α->β)(k:Nat):Aj (l.map λx=>(x.1,g x.1 x.2)) k=(Aj l k).map (g k):=by
 induction l with
 | nil=>rfl
 | cons x l ih=>
  obtain⟨a,b⟩:=x;simp only[Db,Aj]
  cases hb:Nat.beq a k with
  | true=>simp_all
  | false=>simpa using ih
theorem Aen{l:List (Nat×α)}{g:α->List β}{x:α}(h:Aj l k=some x){p:β}(hp:p∈g x):p∈(l.map λy=>g y.2).flatten:=
 List.mem_flatten.2 ⟨g x,zzL16.2 ⟨(k,x),O5 h,rfl⟩,hp⟩
theorem Hh(ho:Aj st.own nm=some (.arr sz e n f))(hwh:fu (st.wholes nm n))(hf:∀ i,i<n->AV.stripAll (f i)=g i)(h0:Γ.own0 nm=none)(hlt:Nat.blt nm B6=true:=by rfl) :
  Le Γ st (st.freeze nm sz n e g):=by
 intro I θ a w h;have ac3:=bO hwh
 have hlt:nm<B6:=by simpa [Nc] using hlt
 have ho:st.sto.own nm=some (.arr sz e n f):=(Bg hlt).trans ho
 have ak3:(st.freeze nm sz n e g).sto.own=λk=>(st.sto.own k).map λo=>bif Nat.beq k nm then Own.tok sz e n else o.frz nm sz n g:=by
  funext k
  by_cases hk:k<B6
  ·show Df _ _ k=(Df _ _ k).map _
   rw[Bg hk,Bg hk];exact bh st.own (λk o=>bif Nat.beq k nm then Own.tok sz e n else o.frz nm sz n g) k
  ·have hb:Nat.beq k nm=false:=by cases hb:Nat.beq k nm with|false=>rfl|true=>exact absurd (Ez hb) (by rintro rfl;exact hk hlt)
   show Df _ _ k=(Df _ _ k).map _
   rw[Du hk,Du hk,hb]
   show(Aj st.fam (k / B6-1)).bind _=_
   cases Aj st.fam (k / B6-1) with
   | none=>rfl
   | some F=>simp only[Am,Option.map_map];cases F.m (k % B6)<;>rfl
 have hnm:(st.freeze nm sz n e g).sto.own nm=some (.tok sz e n):=by rw[ak3];simp[ho]
 have hne:∀ k,k≠nm->(st.freeze nm sz n e g).sto.own k=(st.sto.own k).map (Own.frz nm sz n g):=λk hk=>by
  have:Nat.beq k nm=false:=by cases hb:Nat.beq k nm with|false=>rfl|true=>exact absurd (Ez hb) hk
  rw[ak3];simp[this]
 have ac5:∀ k o,st.sto.own k=some o->Nat.beq k nm=false->(st.freeze nm sz n e g).sto.own k=some (o.frz nm sz n g):=λk o hk hb=>by
  have:k≠nm:=by rintro rfl;simp at hb
  rw[hne k this];rw[hk];rfl
 have ah8:∀ k,k≠nm->∀ o',(st.freeze nm sz n e g).sto.own k=some o'->∃ o,st.sto.own k=some o/\o'=o.frz nm sz n g:=λk hk o' ho'=>by
  rw[hne k hk]at ho';obtain⟨o,h1,h2⟩:=zzL89.1 ho';exact⟨o,h1,h2.symm⟩
 have af7:∀ k,(st.freeze nm sz n e g).sto.own k≠none->st.sto.own k≠none:=λk hk=>by
  by_cases hkn:k=nm
  ·subst hkn;simp[ho]
  ·cases hx:(st.freeze nm sz n e g).sto.own k with
   | none=>exact(hk hx).elim
   | some o'=>obtain⟨o,h1,_⟩:=ah8 k hkn o' hx;simp[h1]
 have BY:=h.chg.rel;obtain⟨q0,q1⟩:=BY.arr nm sz e n f ho
 let I':Nat->Nat->Prop:=λb o=>I b o\/((∃ c,θ nm=some (b,c))/\o<n*sz)
 have hII:∀ b o,I b o->I' b o:=λ_ _ h=>.inl h
 have hkey:∀ v,Rep I st.sto.own θ w v (.vsl nm n)->Rep I' (st.freeze nm sz n e g).sto.own θ w v (.slice sz n g (.own nm)):=λv hs=>by
  obtain⟨sz',e',m,f2,ad,cap,ab5,ho',hmm,IN,Is,hnn,hvv⟩:=hs.vsl_inv;have ag1:st.sto.own nm=some (.arr sz' e' m f2):=ho';rw[ho]at ag1;simp only[Ax,Own.arr.injEq]at ag1;obtain⟨rfl,rfl,rfl,rfl⟩:=ag1;have hvv:=hvv rfl;rw[ab5];refine .own nm sz e n ad n cap g hnm (zzL7 _) (λ_=>hvv) ?_
  cases hθ:θ nm with
  | none=>
   have hn0:=q0 hθ;subst hn0;exact .slice ad 0 cap sz g (λ_=>undef) IN Is (λh=>by omega) hnn (λj hj=>by omega) (λi hi=>by omega) (λi c hi=>by omega)
  | some gc=>
   obtain⟨b,c⟩:=gc;rw[hθ]at hvv;simp only at hvv;obtain⟨rfl,rfl⟩:=hvv;obtain⟨OF,r1,r2,r3,r4,r5,r6,r7⟩:=q1 b cap hθ
   have ab0:∀ j,j<n*sz->w.cell? ⟨b,j,none⟩=some (OF.getD j undef):=λj hj=>by
    have:n*sz<=cap*sz:=Hp _ r2;rw[Ot w b j OF e (0,0) r1];exact O1 (by omega)
   refine .slice _ n cap sz g (λj=>OF.getD j undef) IN Is (λ_=>⟨⟨b,0,none⟩,rfl,rfl,λj hj=>.inr ⟨⟨cap,hθ⟩,by simpa using hj⟩,λj hj=>by simpa using ab0 j hj⟩) (by simp) (λj hj=>?_) (λi hi=>?_) (λi k hi hk=>?_)
   ·have hs:0<sz:=by
     rcases zzL81 sz with h0|h0
     ·rw[h0]at hj;omega
     ·exact h0
    have e2:j / sz*sz+j % sz=j:=by rw[Yn];exact NE j sz
    have:=(r6 (j / sz) (j % sz) (by rw[XJ hs];exact hj) (Yp _ hs)).1;rwa[e2]at this
   ·rw[<- hf i hi,Bh];exact r5 i hi
   ·rw[<- hf i hi,E0];exact((r6 i k hi hk).2.strip).mono hII (λ_ _ _=>rfl)
 have hkey2:∀ v l h,Rep I st.sto.own θ w v (.vsub nm n l h)->RepV I' w v (.slice sz (h-l) (λi=>g (l+i)) .none):=λv l h hs=>by
  obtain⟨sz',e',m,f2,ad,cap,ab5,ho',hmm,hlo,hhi,IN,Is,hnn,hvv⟩:=hs.vsub_inv;have ag1:st.sto.own nm=some (.arr sz' e' m f2):=ho';rw[ho]at ag1;simp only[Ax,Own.arr.injEq]at ag1;obtain⟨rfl,rfl,rfl,rfl⟩:=ag1;have hvv:=hvv rfl;rw[ab5]
  by_cases hlt:l<h
  ·obtain⟨b,c,hθ,rfl⟩:=hvv.1 hlt;obtain⟨OF,r1,r2,r3,r4,r5,r6,r7⟩:=q1 b c hθ
   have hmul:∀ j,j<(h-l)*sz->l*sz+j<n*sz:=λj hj=>by
    have:(l+(h-l))*sz<=n*sz:=Hp _ (by omega);rw[Jl]at this;omega
   have ab0:∀ j,j<n*sz->w.cell? ⟨b,j,none⟩=some (OF.getD j undef):=λj hj=>by
    have:n*sz<=c*sz:=Hp _ r2;rw[Ot w b j OF e (0,0) r1];exact O1 (by omega)
   refine .slice _ (h-l) cap sz _ (λj=>OF.getD (l*sz+j) undef) IN Is (λ_=>⟨⟨b,l*sz,none⟩,rfl,rfl,λj hj=>.inr ⟨⟨c,hθ⟩,hmul j hj⟩,λj hj=>ab0 _ (hmul j hj)⟩) (by simp) (λj hj=>?_) (λi hi=>?_) (λi k hi hk=>?_)
   ·have hs:0<sz:=by
     rcases zzL81 sz with h0|h0
     ·rw[h0]at hj;omega
     ·exact h0
    have e2:l*sz+j=(l+j / sz)*sz+j % sz:=by
     rw[Jl,DC]
     congr 1
     rw[Yn];exact(NE j sz).symm
    have e3:j / sz<h-l:=by rw[XJ hs];exact hj
    have:=(r6 (l+j / sz) (j % sz) (by omega) (Yp _ hs)).1;rwa[<- e2]at this
   ·rw[<- hf (l+i) (by omega),Bh];exact r5 (l+i) (by omega)
   ·rw[<- hf (l+i) (by omega),E0,<- DC,<- Jl];exact((r6 (l+i) k (by omega) hk).2.strip).mono hII (λ_ _ _=>rfl)
  ·have h0:h-l=0:=by omega
   rw[h0];exact .slice ad 0 cap sz _ (λ_=>undef) (by omega) Is (λh=>by omega) hnn (λj hj=>by omega) (λi hi=>by omega) (λi c hi=>by omega)
 have ag7:∀ b i,Nat.beq (U0 b i) nm=false:=λb i=>by cases hb:Nat.beq (U0 b i) nm with|false=>rfl|true=>exact absurd (Ez hb) (by rintro rfl;exact Tu b i hlt)
 have hcast:∀ v x,Rep I st.sto.own θ w v x->(∀ p∈x.wholes nm n,p)->Rep I' (st.freeze nm sz n e g).sto.own θ w v (x.frz nm sz n g):=λv x hx hp=>hx.frz hp hII ac5 hkey hkey2 ag7
 have aj5:∀ k b c,k≠nm->st.sto.own k≠none->θ k=some (b,c)->∀ j,I' b j->I b j:=λk b c hk hk' hg j hj=>by
  rcases hj with hj|⟨⟨c',hc'⟩,_⟩
  ·exact hj
  ·exact(hk (BY.inj k nm b c c' hk' (by simp[ho]) hg hc')).elim
 have am3:∀ v x,Rep I st.sto.own θ w v x->Rep I' (st.freeze nm sz n e g).sto.own θ w v (x.frw nm sz n g):=λv x hx=>by
  have key:∀{v:Value} {x:AV},Rep I st.sto.own θ w v x->Rep I' (st.freeze nm sz n e g).sto.own θ w v (x.frw nm sz n g):=by
   intro v x h
   induction h with
   | val v x h=>exact .val _ _ ((h.frw nm sz n g).mono hII (λ_ _ _=>rfl))
   | exact a n sz f h=>exact .exact a n sz f (h.mono hII (λ_ _ _=>rfl))
   | own k sz e m a n cap f hn hm hv h=>
    simp only[AV.frw,DP]
    cases hb:Nat.beq k nm with
    | true=>exact .val _ _ (h.mono hII (λ_ _ _=>rfl))
    | false=>exact .own k sz e m a n cap f (ac5 k _ hn hb) hm hv (h.mono hII (λ_ _ _=>rfl))
   | fam b i sz e m a n cap f hi hn hm hv h=>
    simp only[AV.frw,DP]
    cases hb:Nat.beq b nm with
    | true=>exact .val _ _ (h.mono hII (λ_ _ _=>rfl))
    | false=>exact .fam b i sz e m a n cap f hi (ac5 _ _ hn (ag7 b i)) hm hv (h.mono hII (λ_ _ _=>rfl))
   | ptr k off e0 cells g c hn hg=>
    simp only[AV.frw,DP]
    cases hb:Nat.beq k nm with
    | true=>exact .val _ _ (.any _)
    | false=>exact .ptr k off e0 _ g c (ac5 k _ hn hb) hg
   | vsl k s2 e m f a j cap hn hm IN Is hnn hv=>
    simp only[AV.frw,DP]
    cases hb:Nat.beq k nm with
    | true=>
     simp only[D3,Ar]
     cases hj:Nat.beq j n with
     | false=>exact .val _ _ (.any _)
     | true=>
      obtain rfl:=Ez hb;obtain rfl:=Ez hj;exact .val _ _ (hkey _ (.vsl k s2 e m f a j cap hn hm IN Is hnn hv)).slice_val
    | false=>exact .vsl k s2 e m _ a j cap (ac5 k _ hn hb) hm IN Is hnn hv
   | vpt k s2 e m f j i c ad hn hm hi hv=>
    simp only[AV.frw,DP]
    cases hb:Nat.beq k nm with
    | true=>exact .val _ _ (.any _)
    | false=>exact .vpt k s2 e m _ j i c ad (ac5 k _ hn hb) hm hi hv
   | clo f fs cs xs ys hl hl' _ _ ih ih'=>exact .clo f fs cs _ _ (by rw[Dw,hl]) (by rw[Dw,hl']) (λj hj=>by rw[Un];exact ih j (by rwa[Dw]at hj)) (λj hj=>by rw[Un];exact ih' j (by rwa[Dw]at hj))
   | vsub k s2 e m f j lo hi a cap hn hm hlo hhi IN Is hnn hv=>
    simp only[AV.frw,DP]
    cases hb:Nat.beq k nm with
    | true=>exact .val _ _ (.any _)
    | false=>exact .vsub k s2 e m _ j lo hi a cap (ac5 k _ hn hb) hm hlo hhi IN Is hnn hv
   | optr k mm x g c hn hg=>
    simp only[AV.frw,DP]
    cases hb:Nat.beq k nm with
    | true=>exact .val _ _ (.any _)
    | false=>exact .optr k _ _ g c (ac5 k _ hn hb) hg
   | omap k x hn=>
    simp only[AV.frw,DP]
    cases hb:Nat.beq k nm with
    | true=>exact .val _ _ (.any _)
    | false=>exact .omap k _ (ac5 k _ hn hb)
   | cond v c x _ h' ih=>exact .cond v c _ ih h'
   | agg vs cs hl h1 _ ih=>exact .agg vs _ (by rw[Dw,hl]) (λj hj=>h1 j (by rwa[Dw]at hj)) (λj hj=>by rw[Un];exact ih j (by rwa[Dw]at hj))
   | rpo a cells us hs hI' hc h1 _ ih=>exact .rpo a _ us hs (λj hj=>.inl (hI' j (by rwa[Dw]at hj))) (λj hj=>hc j (by rwa[Dw]at hj)) (λj hj=>h1 j (by rwa[Dw]at hj)) (λj hj=>by rw[Un];exact ih j (by rwa[Dw]at hj))
   | tuple vs cs hl _ ih=>exact .tuple vs _ (by rw[Dw,hl]) (λj hj=>by rw[Un];exact ih j (by rwa[Dw]at hj))
  exact key hx
 refine⟨I',θ,h.size,h.defers,λt=>?_,?_⟩
 ·have hslot:(st.freeze nm sz n e g).sto.tmp t=match Aj st.tmps t with|some x=>x.frz nm sz n g|none=>.any:=by
   show(match Aj (st.tmps.map λx=>(x.1,x.2.frz nm sz n g)) t with|some x=>x|none=>.any)=_
   rw[bh st.tmps (λ_ x=>x.frz nm sz n g) t]
   cases Aj st.tmps t<;>rfl
  rw[hslot];have hs:=h.slots t
  have ad3:st.sto.tmp t=match Aj st.tmps t with|some x=>x|none=>.any:=rfl
  cases hl:Aj st.tmps t with
  | none=>exact .val _ _ (.any _)
  | some x=>
   rw[ad3,hl]at hs;exact hcast _ _ hs (λp hp=>ac3 p (zzL8.2 (.inl (Aen (g:=λx=>x.wholes nm n) hl hp))))
 ·refine{ h.chg with imm:=λb o hi=>.inl (h.chg.imm b o hi),le:=λk o hk=>?_,rel:=⟨λk e0 cells hk=>?_,λk s2 e2 m hk b c hg=>?_,λk k' b c c' hk hk'=>?_,λk s2 e2 m f2 hk=>?_,λk x hk=>?_,λk s2 m hk hnn=>?_⟩,valid:=λb o hi=>?_,new:=λk b c hk hg=>?_,immNew:=λb o hi=>?_ }
  ·obtain⟨o',ho',hl⟩:=h.chg.le k o hk
   have hkn:k≠nm:=by rintro rfl;rw[h0]at hk;cases hk
   have hkb:Nat.beq k nm=false:=by cases hb:Nat.beq k nm with|false=>rfl|true=>exact absurd (Ez hb) hkn
   refine⟨_,ac5 k o' ho' hkb,?_⟩
   cases o<;>cases o'<;>first|exact hl|exact hl.elim
  rotate_left 4
  ·have hkn:k≠nm:=by rintro rfl;rw[hnm]at hk;cases hk
   obtain⟨o,h1,h2⟩:=ah8 k hkn _ hk
   cases o with
   | row=>simp[Own.frz]at h2
   | tok=>simp[Own.frz]at h2
   | arr=>simp[Own.frz]at h2
   | obj x'=>
    simp only[Own.frz,Own.obj.injEq]at h2;subst h2;exact Nn (BY.obj k _ h1) rfl (λ_ _ _=>rfl) (λb c j hg hj=>aj5 k b c hkn (by simp[h1]) hg j hj) (λ_ hh=>hh.on _ hII (λ_ _ _=>rfl) λv y hv=>am3 _ _ hv) VN
  ·by_cases hkn:k=nm
   ·subst hkn;rw[hnm]at hk;simp only[Ax,Own.tok.injEq]at hk;obtain⟨rfl,_,rfl⟩:=hk;exact q0 hnn
   ·obtain⟨o,h1,h2⟩:=ah8 k hkn _ hk
    cases o with
    | row=>simp[Own.frz]at h2
    | arr=>simp[Own.frz]at h2
    | obj=>simp[Own.frz]at h2
    | tok=>
     simp only[Own.frz,Own.tok.injEq]at h2;obtain⟨rfl,rfl,rfl⟩:=h2;exact BY.tok8 k _ _ h1 hnn
  rotate_left 3
  ·have hkn:k≠nm:=by rintro rfl;rw[hnm]at hk;cases hk
   obtain⟨o,h1,h2⟩:=ah8 k hkn _ hk
   cases o with
   | tok=>simp[Own.frz]at h2
   | arr=>simp[Own.frz]at h2
   | obj=>simp[Own.frz]at h2
   | row e' cs=>
    simp only[Own.frz,Own.row.injEq]at h2;obtain⟨rfl,rfl⟩:=h2;obtain⟨b,c,vs,r1,r2,r3,r4,r5,r6⟩:=BY.row k _ cs h1;refine⟨b,c,vs,r1,r2,by rw[C3];exact r3,λj hj=>r4 j (by rwa[C3]at hj),λj hj=>?_,λj hj=>r6 j (aj5 k b c hkn (by simp[h1]) r1 j hj)⟩;rw[Uo];refine hcast _ _ (r5 j (by rwa[C3]at hj)) (Rw (λp hp=>ac3 p (zzL8.2 (.inr (Aen (g:=λx=>x.wholes nm n) (f8 h1 (λ_ _ _ h=>by cases h)) (by simpa [Own.wholes] using hp))))) j)
  ·by_cases hkn:k=nm
   ·subst hkn;rw[hnm]at hk;simp only[Ax,Own.tok.injEq]at hk;obtain⟨rfl,rfl,rfl⟩:=hk;obtain⟨OF,r1,r2,r3,r4,r5,r6,r7⟩:=q1 b c hg;refine⟨OF,0,r1,r2,r3,r4,DD _,λj hj=>?_⟩;rcases hj with hj|⟨_,hj⟩
    ·exact(r7 j hj).elim
    ·exact hj
   ·obtain⟨o,h1,h2⟩:=ah8 k hkn _ hk
    cases o with
    | row=>simp[Own.frz]at h2
    | arr=>simp[Own.frz]at h2
    | obj=>simp[Own.frz]at h2
    | tok=>
     simp only[Own.frz,Own.tok.injEq]at h2;obtain⟨rfl,rfl,rfl⟩:=h2;obtain⟨OF,fz,r1,r2,r3,r4,r5',r5⟩:=BY.tok k _ _ _ h1 b c hg;exact⟨OF,fz,r1,r2,r3,r4,r5',λj hj=>r5 j (aj5 k b c hkn (by simp[h1]) hg j hj)⟩
  ·exact BY.inj k k' b c c' (af7 k hk) (af7 k' hk')
  ·have hkn:k≠nm:=by rintro rfl;rw[hnm]at hk;cases hk
   obtain⟨o,h1,h2⟩:=ah8 k hkn _ hk
   cases o with
   | row=>simp[Own.frz]at h2
   | tok=>simp[Own.frz]at h2
   | obj=>simp[Own.frz]at h2
   | arr s3 e3 m3 f3=>
    simp only[Own.frz,Own.arr.injEq]at h2;obtain⟨rfl,rfl,rfl,rfl⟩:=h2;exact Sf (BY.arr k _ _ _ _ h1) rfl (λ_ _ _=>rfl) (λb c j hg hj=>aj5 k b c hkn (by simp[h1]) hg j hj) (λi _=>Dw _ _ _ _ _) (λv i j _ _ hv=>by rw[Un];exact am3 _ _ hv)
  ·rcases hi with hi|⟨⟨c,hc⟩,hj⟩
   ·exact h.chg.valid b o hi
   ·obtain⟨OF,r1,r2,r3,r4,r5,r6,r7⟩:=q1 b c hc;have:n*sz<=c*sz:=Hp _ r2;exact⟨OF.getD o undef,by rw[Ot w b o OF e (0,0) r1];exact O1 (by omega)⟩
  ·exact h.chg.new k b c (af7 k hk) hg
  ·rcases hi with hi|⟨⟨c,hc⟩,_⟩
   ·exact h.chg.immNew b o hi
   ·exact .inr (h.chg.new nm b c (by simp[ho]) hc)
end
section
variable {α:Type} {e:α->List AV} {d:α}
theorem H6{l:List α}{x:α}(hf:∀ k,k<l.length->f k=e (l.getD k d))(hi:i<l.length)(hx:(e (l.getD i d)).take j++cs++(e (l.getD i d)).drop (j+cs.length)=e x) :
  ∀ k,k<(l.set i x).length->F4 f i j cs k=e ((l.set i x).getD k d):=by
 intro k hk;rw[Ek]at hk
 by_cases h:k=i
 ·subst h;rw[V5,hf k hk,hx];simp[ hk]
 ·rw[Zo f cs h,hf k hk];simp[ Tg h]
def j4{α:Type}(l:List α)(lo k:Nat)(s:Nat->α):List α:=l.mapIdx λi x=>if lo<=i/\i<lo+k then s (i-lo) else x
theorem Ki(l:List α)(lo k:Nat)(s:Nat->α):l.length=(j4 l lo k s).length:=by simp[j4]
theorem TR(l:List α)(lo k:Nat)(s:Nat->α)(i:Nat)(d:α)(h:i<l.length):(j4 l lo k s).getD i d=if lo<=i/\i<lo+k then s (i-lo) else l.getD i d:=by
 simp[j4, h]
theorem SM{l:List α}{s:Nat->α}{lo:Nat}(hf:∀ i,i<l.length->f i=e (l.getD i d))(hg:∀ i,i<k->g i=e (s i)):∀ i,i<(j4 l lo k s).length->jy f lo k g i=e ((j4 l lo k s).getD i d):=by
 intro i hi;rw[<- Ki]at hi;rw[TR _ _ _ _ _ _ hi]
 by_cases h:lo<=i/\i<lo+k
 ·rw[jz f g h,if_pos h,hg _ (by omega)]
 ·rw[LN f g h,if_neg h,hf i hi]
theorem CQ(ab4:Nat->Bool)(l m:List AV):AV.eraseAll ab4 (l++m)=AV.eraseAll ab4 l++AV.eraseAll ab4 m:=by induction l with|nil=>rfl|cons x l ih=>simp[AV.eraseAll,ih]
theorem ZX(ab4:Nat->Bool)(l:List AV)(n:Nat):AV.eraseAll ab4 (l.drop n)=(AV.eraseAll ab4 l).drop n:=by
 induction l generalizing n with
 | nil=>simp[AV.eraseAll]
 | cons x l ih=>cases n with
  | zero=>simp
  | succ n=>simpa [AV.eraseAll] using ih n
theorem Y5{l m:List α}(hf:∀ k,k<l.length->f k=e (l.getD k d))(hf':∀ k,k<m.length->f' k=e (m.getD k d)):∀ k,k<(l++m).length->Qi l.length f f' k=e ((l++m).getD k d):=by
 intro k hk;rw[He]at hk;rw[<- mM (e:=e)  l m k hk]
 by_cases h:k<l.length
 ·rw[Se _ _ h,Se _ _ h,hf k h]
 ·rw[Xh _ _ (by omega),Xh _ _ (by omega),hf' _ (by omega)]
theorem S7(h:AVleL z (e d))(n:Nat):∀ k,k<(List.replicate n d).length->AVleL z (e ((List.replicate n d).getD k d)):=λk hk=>by
 grind
theorem Bs(hn:n=m)(h:∀ k,k<m->f k=g k):∀ k,k<n->AVleL (f k) (g k):=λk hk=>by rw[h k (by omega)];exact .refl _
end
section
variable {α:Type} {e:α->List AV} {d:α}
end
noncomputable instance (n:Nat)(f:Nat->List AV):Decidable (Acj n f):=Classical.propDecidable _
theorem nl(h:Nat.ble a b=true):a<=b:=N9 h
theorem gT(h:c=true):(c==true)=true:=by rw[h];rfl
theorem gF(h:c=false):(c==false)=true:=by rw[h];rfl
theorem aT{g:Bool}(hg:g=true)(h:c=true):(g&&(c==true))=true:=by rw[hg,h];rfl
theorem aF{g:Bool}(hg:g=true)(h:c=false):(g&&(c==false))=true:=by rw[hg,h];rfl
theorem Kr{i:Int}{l:List α}(h:As i l.length):i.toNat<l.length:=by unfold As at h;omega
theorem xW{i:Int}{l:List α}{x:α}(h:As i l.length):i.toNat<(l.set a x).length:=by rw[Ek];exact Kr h
theorem Tc{d:α}(h:k<n):k<(List.replicate n d).length:=by grind
def R8{α:Type}(N:Nat)(d:α)(l:List α)(i:Nat)(x:α):List α:=(List.range N).map λj=>bif Nat.beq j i then x else l.getD j d
theorem cG{d:α}{l:List α}{x:α}(hk:k<N):(R8 N d l i x).getD k d=bif Nat.beq k i then x else l.getD k d:=by
 unfold R8;rw[List.getD,List.getElem?_map,List.getElem?_range hk]
 rfl
theorem Zp{e:α->List AV}{d:α}{l:List α}{x:α}(hf:∀ k,k<N->f k=e (l.getD k d))(hi:i<N)(hx:(e (l.getD i d)).take j++cs++(e (l.getD i d)).drop (j+cs.length)=e x) :
  ∀ k,k<N->F4 f i j cs k=e ((R8 N d l i x).getD k d):=by
 intro k hk;rw[cG hk];unfold F4
 cases hb:Nat.beq k i with
 | true=>
  grind
 | false=>grind
theorem Sp{i:Int}(h:As i N):i.toNat<N:=by unfold As at h;omega
theorem gE{α:Type}(z:List α)(sz:Nat)(hz:z.length=sz):∀(N k:Nat),k<N->(((List.replicate N z).flatten).drop (k*sz)).take sz=z
 | 0,k,h=>by omega
 | N+1,0,h=>by
  grind
 | N+1,k+1,h=>by
  rw[List.replicate_succ,List.flatten_cons,show(k+1)*sz=z.length+k*sz by grind,List.drop_append,List.drop_eq_nil_of_le (by omega), Nat.add_sub_cancel_left];exact gE z sz hz N k (by omega)
def Qf{α:Type}(sz:Nat)(e:α->List AV)(d:α)(L:List (List α))(t:Nat->Tag):Nat->List AV:=λj=>[AV.list sz e d (L.getD j []) (t j)]
def H9(b i k j:Nat):Tag:=bif Nat.beq j i then .own k else .fam b j
def O3{α:Type}(L:List (List α)):Nat->Option Nat:=λj=>if j<L.length then some (L.getD j []).length else none
def FI{α:Type}(L:List (List α))(i:Nat):Nat->Option Nat:=λj=>if j=i then none else O3 L j
mutual
def AV.free(p:Tag->Bool):AV->Bool
 | .slice _ _ _ t=>p t
 | .clo _ xs ys=>AV.freeAll p xs&&AV.freeAll p ys
 | .agg cs=>AV.freeAll p cs
 | .rpo cs=>AV.freeAll p cs
 | .tuple cs=>AV.freeAll p cs
 | .cond _ x=>x.free p
 | _=>true
def AV.freeAll(p:Tag->Bool):List AV->Bool
 | []=>true
 | x::l=>x.free p&&AV.freeAll p l
end
theorem Ng(h:AV.freeAll p l=true)(j:Nat):(l.getD j .any).free p=true:=by
 induction l generalizing j with
 | nil=>simp[AV.free]
 | cons x l ih=>
  simp only[AV.freeAll,Az]at h
  cases j with
  | zero=>simpa using h.1
  | succ j=>simpa using ih h.2 j
def AObj.Al(P:AV->Prop):AObj->Prop
 | .iter _ _=>True
 | .map _ _ _=>True
 | .pmap _ _ _=>True
 | .miter m _ _=>P m
 | .tab _ l=>∀ i,i<l.length->P (l.getD i (0,.any)).2
theorem AObj.Al.imp{P Q:AV->Prop}{x:AObj}(h:x.Al P)(k:∀ y,P y->Q y):x.Al Q:=by
 cases x with
 | iter=>trivial
 | map=>trivial
 | pmap=>trivial
 | miter=>exact k _ h
 | tab=>exact λi hi=>k _ (h i hi)
theorem ObjR.al{P:AV->Prop}{o:Obj}{x:AObj}(h:ObjR I own θ w o x)(hx:x.Al P)(hI:∀ b o,I b o->I' b o)(hw:∀ b o,I b o->w'.cell? ⟨b,o,none⟩=w.cell? ⟨b,o,none⟩)(hf:∀ v y,P y->Rep I own θ w v y->Rep I' it θ' w' v y):ObjR I' it θ' w' o x:=by
 cases h with
 | iter s p=>exact .iter s p
 | map es nn k l hs hr=>
  refine .map es nn k l hs λi hi=>?_;obtain⟨v,h1,h2,h3⟩:=hr i hi;exact⟨v,h1,h2.mono hI hw,h3⟩
 | pmap es nn k l0 l hp hk hs hr=>
  refine .pmap es nn k l0 l hp hk hs λi hi=>?_;obtain⟨v,h1,h2,h3⟩:=hr i hi;exact⟨v,h1,h2.mono hI hw,h3⟩
 | miter r m n c seen hc hr=>exact .miter r m n c _ hc (hf _ _ hx hr)
 | tab es k l hs hr=>exact .tab es k l hs λi hi=>by obtain⟨v,h1,h2⟩:=hr i hi;exact⟨v,h1,hf _ _ (hx i hi) h2⟩
def gu(b:Nat):Tag->Bool
 | .fam b' _=>!Nat.beq b' b
 | .own nm=>Nat.blt nm B6
 | _=>true
def m7(k:Nat):Tag->Bool
 | .own k'=>!Nat.beq k' k
 | _=>true
def Fr(q:Nat)(x:AV):Prop:=∀(I:Nat->Nat->Prop) (own it:Nat->Option Own) (θ θ':Nat->Option (Nat×Nat)) (w:World) (v:Value),(∃ sz e m,own q=some (.tok sz e m))->
 (∀ nm o,nm≠q->own nm=some o->∃ o',it nm=some o'/\OwnLe o (θ nm) o' (θ' nm))->Rep I own θ w v x->Rep I it θ' w v x
theorem zG(hp:∀ nm,p (.own nm)=true->nm≠q)(hf:∀ b i,i<B6->p (.fam b i)=true->U0 b i≠q)(hx:x.free p=true):Fr q x:=by
 intro I own it θ θ' w v hq ho h;obtain⟨s0,e0,m0,hq⟩:=hq
 have hne:∀{nm o},own nm=some o->(∀ sz e m,o≠.tok sz e m)->nm≠q:=λhn hh=>by
  grind
 induction h with
 | val v x h=>exact .val v x h
 | exact a n sz f h=>exact .exact a n sz f h
 | own nm sz e m a n cap f hn hm hv h=>
  obtain⟨o',ho',hle⟩:=ho nm _ (hp nm hx) hn
  cases o' with
  | tok sz' e' m'=>
   obtain⟨rfl,rfl,hmm,hθ⟩:=hle;refine .own nm _ _ m' a n cap f ho' (R0 hm hmm) (λhe=>?_) h;rw[hθ (by omega)];exact hv (by omega)
  | _=>exact hle.elim
 | fam b i sz e m a n cap f hi hn hm hv h=>
  obtain⟨o',ho',hle⟩:=ho (U0 b i) _ (hf b i hi hx) hn
  cases o' with
  | tok sz' e' m'=>
   obtain⟨rfl,rfl,hmm,hθ⟩:=hle;refine .fam b i _ _ m' a n cap f hi ho' (R0 hm hmm) (λhe=>?_) h;rw[hθ (by omega)];exact hv (by omega)
  | _=>exact hle.elim
 | ptr nm off e cells g c hn hg=>
  obtain⟨o',ho',hle⟩:=ho nm _ (hne hn (λ_ _ _ h=>by cases h)) hn
  cases o' with
  | row e' cells'=>
   have e:θ' nm=θ nm:=hle.2;exact .ptr nm off e' cells' g c ho' (e.trans hg)
  | _=>exact hle.elim
 | vsl nm sz e m f a n cap hn hm IN Is hnn hv=>
  obtain⟨o',ho',hle⟩:=ho nm _ (hne hn (λ_ _ _ h=>by cases h)) hn
  cases o' with
  | arr sz' e' m' f'=>
   obtain⟨rfl,rfl,hmm,hθ⟩:=hle;refine .vsl nm _ _ m' f' a n cap ho' (R0 hm hmm) IN Is hnn (λhe=>?_);rw[hθ (by omega)];exact hv (by omega)
  | _=>exact hle.elim
 | vpt nm sz e m f n i j ad hn hm hi hv=>
  obtain⟨o',ho',hle⟩:=ho nm _ (hne hn (λ_ _ _ h=>by cases h)) hn
  cases o' with
  | arr sz' e' m' f'=>
   obtain⟨rfl,rfl,hmm,hθ⟩:=hle;refine .vpt nm _ _ m' f' n i j ad ho' (R0 hm hmm) hi (λhe=>?_);rw[hθ (by omega)];exact hv (by omega)
  | _=>exact hle.elim
 | clo f fs cs xs ys hl hl' _ _ ih ih'=>
  simp only[AV.free,Az]at hx;exact .clo f fs cs xs ys hl hl' (λj hj=>ih j hj (Ng hx.1 j)) (λj hj=>ih' j hj (Ng hx.2 j))
 | optr nm mm x g c hn hg=>
  obtain⟨o',ho',hle⟩:=ho nm _ (hne hn (λ_ _ _ h=>by cases h)) hn
  cases o' with
  | obj x'=>exact .optr nm mm x' g c ho' (by rw[hle,hg])
  | _=>exact hle.elim
 | omap nm x hn=>
  obtain⟨o',ho',hle⟩:=ho nm _ (hne hn (λ_ _ _ h=>by cases h)) hn
  cases o' with
  | obj x'=>
   have hle:θ' nm=θ nm:=hle;rw[<- hle];exact .omap nm x' ho'
  | _=>exact hle.elim
 | vsub nm sz e m f n lo hi a cap hn hm hlo hhi IN Is hnn hv=>
  obtain⟨o',ho',hle⟩:=ho nm _ (hne hn (λ_ _ _ h=>by cases h)) hn
  cases o' with
  | arr sz' e' m' f'=>
   obtain⟨rfl,rfl,hmm,hθ⟩:=hle;refine .vsub nm _ _ m' f' n lo hi a cap ho' (R0 hm hmm) hlo hhi IN Is hnn (λhe=>?_);rw[hθ (by omega)];exact hv (by omega)
  | _=>exact hle.elim
 | cond v c x _ h' ih=>exact .cond v c x (λhc=>ih hc hx) h'
 | agg vs cs hl h1 _ ih=>exact .agg vs cs hl h1 (λj hj=>ih j hj (Ng hx j))
 | rpo a cells us hs hI' hc h1 _ ih=>exact .rpo a cells us hs hI' hc h1 (λj hj=>ih j hj (Ng hx j))
 | tuple vs cs hl _ ih=>exact .tuple vs cs hl (λj hj=>ih j hj (Ng hx j))
theorem sT(hi:i<B6)(hx:x.free (gu b)=true):Fr (U0 b i) x:=
 zG  (λnm hp he=>by
  have hlt :=by simpa [gu,Nc] using hp
  rw[he]at hlt
  exact Tu b i hlt) (λb' i' hi' hp he=>by
  have h1:=AQ (b:=b') hi';rw[he,AQ hi]at h1;subst h1
  simp[gu]at hp) hx
theorem sU(hk:k<B6)(hx:x.free (m7 k)=true):Fr k x:=
 zG  (λnm hp he=>by subst he;simp[m7]at hp) (λb i _ _ he=>by rw[<- he]at hk;exact Tu b i hk) hx
def qR(q:Nat):Own->Prop
 | .row _ cells=>∀ j,j<cells.length->Fr q (cells.getD j .any)
 | .arr sz _ m f=>∀ i j,i<m->j<sz->Fr q ((f i).getD j .any)
 | .obj x=>x.Al (Fr q)
 | .tok ..=>True
theorem EW
  (h:(θ nm=none->m=0)/\∀ g c,θ nm=some (g,c)->∃ OF,w.heap[g]?=some (.cells OF e (0,0))/\m<=c/\c<=maxLen/\OF.size=c*sz /\
   (∀ i,i<m->(f i).length=sz)/\(∀ i j,i<m->j<sz->(OF.getD (i*sz+j) undef).oneCell'=true/\Rep I own θ w (OF.getD (i*sz+j) undef) ((f i).getD j .any))/\∀ j,¬ I g j)
  (hθ:θ' nm=θ nm) (hf:∀ i,i<m->(f' i).length=(f i).length) (hr:∀ i j v,i<m->j<sz->Rep I own θ w v ((f i).getD j .any)->Rep I it θ' w v ((f' i).getD j .any)) :
  (θ' nm=none->m=0)/\∀ g c,θ' nm=some (g,c)->∃ OF,w.heap[g]?=some (.cells OF e (0,0))/\m<=c/\c<=maxLen/\OF.size=c*sz /\
   (∀ i,i<m->(f' i).length=sz)/\(∀ i j,i<m->j<sz->(OF.getD (i*sz+j) undef).oneCell'=true/\Rep I it θ' w (OF.getD (i*sz+j) undef) ((f' i).getD j .any))/\∀ j,¬ I g j:=by
 rw[hθ];refine⟨h.1,λg c hg=>?_⟩;obtain⟨OF,q1,q2,q3,q4,q5,q6,q7⟩:=h.2 g c hg;exact⟨OF,q1,q2,q3,q4,λi hi=>(hf i hi).trans (q5 i hi),λi j hi hj=>⟨(q6 i j hi hj).1,hr i j _ hi hj (q6 i j hi hj).2⟩,q7⟩
section
variable {Γ:Ip} {σ:Sto} {I:Nat->Nat->Prop} {θ:Nat->Option (Nat×Nat)} {a:Act} {w:World}
theorem VZ(h:Rel Γ σ I θ a w){p:Nat}(hp:σ.own p=some (.tok sz e m))(hq:σ.own q=none)(hr:σ.own r=some (.arr s1 e1 n F))(hp0:Γ.own0 p=none)
  (hfree:∀ t,Fr p (σ.tmp t)) (ag5:∀ nm o,nm≠r->σ.own nm=some o->qR p o)  
  (By:it=λx=>if x=q then some (.tok sz e m) else if x=p then none else if x=r then some (.arr s1 e1 n F') else σ.own x)
  (hθ:θ'=λx=>if x=q then θ p else if x=p then none else θ x)
  (IT:∀ j,j<n->(F' j).length=(F j).length)
  (hF:∀ j c v,j<n->c<s1->Rep I σ.own θ w v ((F j).getD c .any)->Rep I it θ' w v ((F' j).getD c .any)) :
  Rel Γ ⟨σ.tmp,it⟩ I θ' a w:=by
 have hpq:p≠q:=by rintro rfl;rw[hp]at hq;cases hq
 have hpr:p≠r:=by rintro rfl;rw[hp]at hr;cases hr
 have hqr:q≠r:=by rintro rfl;rw[hq]at hr;cases hr
 have ac5:∀ nm o,nm≠p->σ.own nm=some o->∃ o',it nm=some o'/\OwnLe o (θ nm) o' (θ' nm):=λnm o hnp ho=>by
  have hnq:nm≠q:=by rintro rfl;rw[hq]at ho;cases ho
  by_cases hnr:nm=r
  ·subst hnr;rw[hr]at ho;obtain rfl:=OI ho;exact⟨.arr s1 e1 n F',by simp[By,hnq,hnp],by simp[hθ,hnq,hnp,OwnLe]⟩
  ·exact⟨o,by simp[By,hnq,hnp,hnr,ho],by simp[hθ,hnq,hnp,OwnLe.refl]⟩
 have hT:∀ v x,Fr p x->Rep I σ.own θ w v x->Rep I it θ' w v x:=λv x hx hv=>hx I _ _ _ _ w v ⟨_,_,_,hp⟩ ac5 hv
 have ae3:∀ nm o,nm≠q->nm≠r->it nm=some o->nm≠p/\σ.own nm=some o/\θ' nm=θ nm:=λnm o h1 h2 ho=>by
  by_cases h3:nm=p
  ·simp[By,h3,hpq]at ho
  ·simp[By,h1,h2,h3]at ho;exact⟨h3,ho,by simp[hθ,h1,h3]⟩
 have af7:∀ nm,it nm≠none->∃ nm',σ.own nm'≠none/\θ' nm=θ nm'/\(nm=q->nm'=p)/\(nm≠q->nm'=nm/\nm≠p):=λnm hn=>by
  grind
 have hq':it q=some (.tok sz e m):=by simp[By]
 have hr':it r=some (.arr s1 e1 n F'):=by simp[By,Tg hqr,Tg hpr]
 have BY:=h.chg.rel
 have hθr:θ' r=θ r:=by simp[hθ,Tg hqr,Tg hpr]
 have hθq:θ' q=θ p:=by simp[hθ]
 refine⟨h.size,h.defers,λt=>hT _ _ (hfree t) (h.slots t),{ h.chg with le:=λnm o ho=>?_,rel:=⟨λnm e0 cells ho=>?_,λnm s' e' m' ho g c hg=>?_,λnm nm' g c c' ho ho' hg hg'=>?_,λnm s' e' m' f' ho=>?_,λnm x ho=>?_,λnm s' m' ho hnn=>?_⟩,new:=λnm g c ho hg=>?_ }⟩
 ·obtain⟨o',ho',hl⟩:=h.chg.le nm o ho
  have hnp:nm≠p:=by rintro rfl;rw[hp0]at ho;cases ho
  obtain⟨o'',h1,h2⟩:=ac5 nm o' hnp ho';exact⟨o'',h1,hl.trans h2⟩
 ·replace ho:it nm=some _:=ho
  have h1:nm≠q:=by rintro rfl;rw[hq']at ho;cases ho
  have h2:nm≠r:=by rintro rfl;rw[hr']at ho;cases ho
  obtain⟨h3,h4,h5⟩:=ae3 nm _ h1 h2 ho;obtain⟨g,c,vs,r1,r2,r3,r4,r5,r6⟩:=BY.row nm e0 cells h4;exact⟨g,c,vs,h5.trans r1,r2,r3,r4,λj hj=>hT _ _ (ag5 nm _ h2 h4 j hj) (r5 j hj),r6⟩
 ·replace ho:it nm=some _:=ho
  by_cases h1:nm=q
  ·subst h1;rw[hq']at ho;simp only[Ax,Own.tok.injEq]at ho;obtain⟨rfl,rfl,rfl⟩:=ho;exact BY.tok p _ _ _ hp g c (hθq.symm.trans hg)
  ·have h2:nm≠r:=by rintro rfl;rw[hr']at ho;cases ho
   obtain⟨h3,h4,h5⟩:=ae3 nm _ h1 h2 ho;exact BY.tok nm _ _ _ h4 g c (h5.symm.trans hg)
 ·obtain⟨n1,a1,a2,a3,a4⟩:=af7 nm ho;obtain⟨n2,b1,b2,b3,b4⟩:=af7 nm' ho';have:=BY.inj n1 n2 g c c' a1 b1 (a2.symm.trans hg) (b2.symm.trans hg')
  by_cases h1:nm=q
  ·by_cases h2:nm'=q
   ·rw[h1,h2]
   ·have:=a3 h1;have:=b4 h2;omega
  ·by_cases h2:nm'=q
   ·have:=a4 h1;have:=b3 h2;omega
   ·have:=a4 h1;have:=b4 h2;omega
 ·replace ho:it nm=some _:=ho
  have h1:nm≠q:=by rintro rfl;rw[hq']at ho;cases ho
  by_cases h2:nm=r
  ·subst h2;rw[hr']at ho;simp only[Ax,Own.arr.injEq]at ho;obtain⟨rfl,rfl,rfl,rfl⟩:=ho;exact EW (BY.arr nm _ _ _ _ hr) hθr IT hF
  ·obtain⟨h3,h4,h5⟩:=ae3 nm _ h1 h2 ho;exact EW (BY.arr nm _ _ _ _ h4) h5 (λ_ _=>rfl) (λi j v hi hj hv=>hT _ _ (ag5 nm _ h2 h4 i j hi hj) hv)
 ·replace ho:it nm=some _:=ho
  have h1:nm≠q:=by rintro rfl;rw[hq']at ho;cases ho
  have h2:nm≠r:=by rintro rfl;rw[hr']at ho;cases ho
  obtain⟨h3,h4,h5⟩:=ae3 nm _ h1 h2 ho;exact Nn (BY.obj nm _ h4) h5 (λ_ _ _=>rfl) (λ_ _ _ _ h=>h) (λ_ hh=>hh.al (ag5 nm _ h2 h4) (λ_ _ h=>h) (λ_ _ _=>rfl) λv y hy hv=>hT v y hy hv) Ya
 ·replace ho:it nm=some _:=ho
  by_cases h1:nm=q
  ·subst h1;rw[hq']at ho;simp only[Ax,Own.tok.injEq]at ho;obtain⟨rfl,he,rfl⟩:=ho;exact BY.tok8 p _ _ (by rw[hp,he]) (hθq.symm.trans hnn)
  ·have h2:nm≠r:=by rintro rfl;rw[hr']at ho;cases ho
   obtain⟨h3,h4,h5⟩:=ae3 nm _ h1 h2 ho;exact BY.tok8 nm _ _ h4 (h5.symm.trans hnn)
 ·obtain⟨n1,a1,a2,_,_⟩:=af7 nm ho;exact h.chg.new n1 g c a1 (a2.symm.trans hg)
theorem kq(h:Rel Γ σ I θ a w)(hr:σ.own r=some (.arr s1 e1 n F)){S:Nat->Option (Nat×TypeId×Nat)}(hS:∀ x y,S x=some y->σ.own x=none)
  (h8:∀ x sz m,S x=some (sz,Zx,m)->m=0)  
  (By:it=λx=>match S x with|some y=>some (.tok y.1 y.2.1 y.2.2)|none=>if x=r then some (.arr s1 e1 n F') else σ.own x)
  (hθ:θ'=λx=>match S x with|some _=>none|none=>θ x) (IT:∀ j,j<n->(F' j).length=(F j).length)
  (hF:∀ j c v,j<n->c<s1->Rep I σ.own θ w v ((F j).getD c .any)->Rep I it θ' w v ((F' j).getD c .any)) :
  Rel Γ ⟨σ.tmp,it⟩ I θ' a w:=by
 have hSn:∀ nm o,σ.own nm=some o->S nm=none:=λnm o ho=>by
  cases hx:S nm with
  | none=>rfl
  | some y=>rw[hS nm y hx]at ho;cases ho
 have ac5:∀ nm o,σ.own nm=some o->∃ o',it nm=some o'/\OwnLe o (θ nm) o' (θ' nm):=λnm o ho=>by
  have h1:=hSn nm o ho
  by_cases hnr:nm=r
  ·subst hnr;rw[hr]at ho;obtain rfl:=OI ho;exact⟨.arr s1 e1 n F',by simp[By,h1],by simp[hθ,h1,OwnLe]⟩
  ·exact⟨o,by simp[By,h1,hnr,ho],by simp[hθ,h1,OwnLe.refl]⟩
 have hT:∀ v x,Rep I σ.own θ w v x->Rep I it θ' w v x:=λv x hv=>hv.mono (λ_ _ h=>h) (λ_ _ _=>rfl) ac5
 have ae3:∀ nm o,it nm=some o->(∀ sz e m,o≠.tok sz e m)->nm≠r->σ.own nm=some o/\θ' nm=θ nm:=λnm o ho hn h2=>by
  cases hx:S nm with
  | none=>simp[By,hx,h2]at ho;exact⟨ho,by simp[hθ,hx]⟩
  | some y=>simp[By,hx]at ho;exact(hn _ _ _ ho.symm).elim
 have ae7:∀ nm g c,it nm≠none->θ' nm=some (g,c)->σ.own nm≠none/\θ nm=some (g,c):=λnm g c ho hg=>by
  cases hx:S nm with
  | some y=>simp[hθ,hx]at hg
  | none=>
   simp[hθ,hx]at hg;refine⟨?_,hg⟩
   by_cases h2:nm=r
   ·subst h2;simp[hr]
   ·simpa [By,hx,h2] using ho
 have hSr:S r=none:=hSn r _ hr
 have hr':it r=some (.arr s1 e1 n F'):=by simp[By,hSr]
 have hθr:θ' r=θ r:=by simp[hθ,hSr]
 have BY:=h.chg.rel;refine⟨h.size,h.defers,λt=>hT _ _ (h.slots t),{ h.chg with le:=λnm o ho=>?_,rel:=⟨λnm e0 cells ho=>?_,λnm s' e' m' ho g c hg=>?_,λnm nm' g c c' ho ho' hg hg'=>?_,λnm s' e' m' f' ho=>?_,λnm x ho=>?_,λnm s' m' ho hnn=>?_⟩,new:=λnm g c ho hg=>?_ }⟩
 ·obtain⟨o',ho',hl⟩:=h.chg.le nm o ho;obtain⟨o'',h1,h2⟩:=ac5 nm o' ho';exact⟨o'',h1,hl.trans h2⟩
 ·replace ho:it nm=some _:=ho
  have h2:nm≠r:=by rintro rfl;rw[hr']at ho;cases ho
  obtain⟨h4,h5⟩:=ae3 nm _ ho (λ_ _ _ h=>by cases h) h2;obtain⟨g,c,vs,r1,r2,r3,r4,r5,r6⟩:=BY.row nm e0 cells h4;exact⟨g,c,vs,h5.trans r1,r2,r3,r4,λj hj=>hT _ _ (r5 j hj),r6⟩
 ·replace ho:it nm=some _:=ho;obtain⟨h1,h2⟩:=ae7 nm g c (by rw[ho];simp) hg
  cases hx:S nm with
  | some y=>simp[hθ,hx]at hg
  | none=>
   have h3:nm≠r:=by rintro rfl;rw[hr']at ho;cases ho
   simp[By,hx,h3]at ho;exact BY.tok nm _ _ _ ho g c h2
 ·obtain⟨a1,a2⟩:=ae7 nm g c ho hg;obtain⟨b1,b2⟩:=ae7 nm' g c' ho' hg';exact BY.inj nm nm' g c c' a1 b1 a2 b2
 ·replace ho:it nm=some _:=ho
  by_cases h2:nm=r
  ·subst h2;rw[hr']at ho;simp only[Ax,Own.arr.injEq]at ho;obtain⟨rfl,rfl,rfl,rfl⟩:=ho;exact EW (BY.arr nm _ _ _ _ hr) hθr IT hF
  ·obtain⟨h4,h5⟩:=ae3 nm _ ho (λ_ _ _ h=>by cases h) h2;exact EW (BY.arr nm _ _ _ _ h4) h5 (λ_ _=>rfl) (λi j v _ _ hv=>hT _ _ hv)
 ·replace ho:it nm=some _:=ho
  have h2:nm≠r:=by rintro rfl;rw[hr']at ho;cases ho
  obtain⟨h4,h5⟩:=ae3 nm _ ho (λ_ _ _ h=>by cases h) h2;exact Nn (BY.obj nm _ h4) h5 (λ_ _ _=>rfl) (λ_ _ _ _ h=>h) (λ_ hh=>hh.mono hT) Ya
 ·replace ho:it nm=some _:=ho
  cases hx:S nm with
  | some y=>
   simp only[By,hx,Ax,Own.tok.injEq]at ho;obtain⟨h1,h2,h3⟩:=ho;rw[<- h3];exact h8 nm y.1 y.2.2 (by rw[hx,<- h2])
  | none=>
   have h3:nm≠r:=by rintro rfl;rw[hr']at ho;cases ho
   simp[By,hx,h3]at ho;simp[hθ,hx]at hnn;exact BY.tok8 nm _ _ ho hnn
 ·obtain⟨a1,a2⟩:=ae7 nm g c ho hg;exact h.chg.new nm g c a1 a2
inductive OwnsFr (p:Tag->Bool) (r:Nat):List (Nat×Own)->Prop
 | nil:OwnsFr p r []
 | row {nm:Nat} {e:TypeId} {cells:List AV} {l:List (Nat×Own)} (h:AV.freeAll p cells=true) (t:OwnsFr p r l):OwnsFr p r ((nm,.row e cells)::l)
 | here {o:Own} {l:List (Nat×Own)} (t:OwnsFr p r l):OwnsFr p r ((r,o)::l)
 | arr {nm sz m:Nat} {e:TypeId} {f:Nat->List AV} {l:List (Nat×Own)} (h:∀ j,AV.freeAll p (f j)=true) (t:OwnsFr p r l):OwnsFr p r ((nm,.arr sz e m f)::l)
 | tok {nm sz m:Nat} {e:TypeId} {l:List (Nat×Own)} (t:OwnsFr p r l):OwnsFr p r ((nm,.tok sz e m)::l)
 | obj {nm:Nat} {x:AObj} {l:List (Nat×Own)} (t:OwnsFr p r l) (h:x.Al (λy=>y.free p=true):=by first|trivial|rfl):OwnsFr p r ((nm,.obj x)::l)
theorem OwnsFr.get(hp:∀ x:AV,x.free p=true->Fr q x){l:List (Nat×Own)}(h:OwnsFr p r l)(hn:nm≠r)(ho:Aj l nm=some o):qR q o:=by
 induction h with
 | nil=>cases ho
 | @row k e cells l h _ ih=>
  simp only[Aj]at ho
  cases hb:Nat.beq k nm with
  | true=>rw[hb]at ho;simp only[Ah,Ax]at ho;subst ho;exact λj _=>hp _ (Ng h j)
  | false=>grind
 | @here o' l _ ih=>
  simp only[Aj]at ho
  cases hb:Nat.beq r nm with
  | true=>simp_all
  | false=>grind
 | @arr k sz m e f l h _ ih=>
  simp only[Aj]at ho
  cases hb:Nat.beq k nm with
  | true=>rw[hb]at ho;simp only[Ah,Ax]at ho;subst ho;exact λi j _ _=>hp _ (Ng (h i) j)
  | false=>grind
 | @tok k sz m e l _ ih=>
  simp only[Aj]at ho
  cases hb:Nat.beq k nm with
  | true=>rw[hb]at ho;simp only[Ah,Ax]at ho;subst ho;trivial
  | false=>grind
 | @obj k x l _ h ih=>
  simp only[Aj]at ho
  cases hb:Nat.beq k nm with
  | true=>rw[hb]at ho;simp only[Ah,Ax]at ho;subst ho;exact h.imp λy hy=>hp y hy
  | false=>grind
theorem OwnsFr.sto(hp:∀ x:AV,x.free p=true->Fr q x)(h:OwnsFr p r st.own)(hn:nm≠r)(ho:st.sto.own nm=some o):qR q o:=by
 by_cases hlt:nm<B6
 ·exact h.get hp hn ((Bg hlt).symm.trans ho)
 ·obtain⟨sz,e,m,rfl⟩:=AS hlt ho
  trivial
theorem nW(hp:∀ x:AV,x.free p=true->Fr q x)(h:st.tmps.all (λx=>x.2.free p)=true)(t:Nat):Fr q (st.sto.tmp t):=by
 show Fr q (match Aj _ t with|some x=>x|none=>.any)
 cases hx:Aj _ t with
 | none=>exact hp _ rfl
 | some x=>exact hp _ (zzL21.1 h _ (NZ hx))
def po{α:Type}(l:List (Nat×α))(k:Nat):List (Nat×α):=l.filter λp=>!Nat.beq p.1 k
theorem pH(l:List (Nat×α))(k n:Nat):Aj (po l k) n=if k=n then none else Aj l n:=by
 induction l with
 | nil=>simp[po,Aj]
 | cons p l ih=>
  obtain⟨m,x⟩:=p
  have ih':Aj (List.filter _ l) n=if k=n then none else Aj l n:=ih
  simp only[po,List.filter_cons,Aj]
  cases hb:Nat.beq m k with
  | true=>
   have:=Ez hb;subst this;simp only[D3,NC,Iu,ih']
   by_cases h:m=n
   ·simp[h]
   ·have:Nat.beq m n=false:=by cases hb:Nat.beq m n with|false=>rfl|true=>simp_all
    simp[ this]
  | false=>
   simp only[Mq,Nd,Aj,ih']
   cases hb':Nat.beq m n with
   | true=>
    grind
   | false=>simp
theorem yQ{I:Nat->Nat->Prop}{θ:Nat->Option (Nat×Nat)}{w:World}{p:Nat}(hv:Rep I own θ w v (.slice sz n f (.fam b i)))(hb:U0 b i=p)(hp:own p=some (.tok sz e m))
  (hq:it q=some (.tok sz e m)) (hθ:θ' q=θ p):Rep I it θ' w v (.slice sz n f (.own q)):=by
 cases hv with
 | val v x h =>  cases h
 | fam _ _ _ e' m a n' cap f hi' ho' hm hv' h'=>
  rw[hb]at ho' hv';rw[hp]at ho';obtain⟨_,rfl,rfl⟩:=ho';exact .own q sz e _ _ _ _ _ hq hm (λhh=>by rw[hθ];exact hv' hh) h'
theorem iR{I:Nat->Nat->Prop}{θ:Nat->Option (Nat×Nat)}{w:World}{p:Nat}(hv:Rep I own θ w v (.slice sz n f (.fam b i)))(hb:U0 b i=p)(ho:i<B6->it p=own p)(hθ:i<B6->θ' p=θ p):Rep I it θ' w v (.slice sz n f (.fam b i)):=by
 cases hv with
 | val v x h =>  cases h
 | fam _ _ _ e' m a n' cap f hi' ho' hm hv' h'=>
  rw[hb]at ho' hv';exact .fam b i sz e' m _ _ _ _ hi' (by grind) hm (λhh=>by grind) h'
theorem uC{I:Nat->Nat->Prop}{θ:Nat->Option (Nat×Nat)}{w:World}{p:Nat}(hv:Rep I own θ w v (.slice sz n f (.own p)))(hb:U0 b i=q)(hi:i<B6)(hp:own p=some (.tok sz e m))
  (hq:it q=some (.tok sz e m)) (hθ:θ' q=θ p):Rep I it θ' w v (.slice sz n f (.fam b i)):=by
 cases hv with
 | val v x h =>  cases h
 | own _ _ e' m' a n' cap f ho' hm' hv' h'=>
  rw[hp]at ho';obtain⟨_,rfl,rfl⟩:=ho';exact .fam b i sz e m _ _ _ _ hi (by rw[hb];exact hq) hm' (λhh=>by grind) h'
theorem yP{I:Nat->Nat->Prop}{θ:Nat->Option (Nat×Nat)}{w:World}(hv:Rep I own θ w v (.slice sz n f .exact))(hb:U0 b i=q)(hi:i<B6)(hq:it q=some (.tok sz e n))(hθ:θ' q=none) :
  Rep I it θ' w v (.slice sz n f (.fam b i)):=by
 cases hv with
 | val v x h =>  cases h
 | exact a n' s' f h'=>exact .fam b i sz e _ _ _ _ _ hi (by rw[hb];exact hq) (zzL7 _) (λ_=>by rw[hb,hθ]) h'
section
variable {α:Type} {st:St} {r b k n sz:Nat} {e1:TypeId}
theorem k5{I:Nat->Nat->Prop}{θ:Nat->Option (Nat×Nat)}{w:World}(h:Kh I own θ w)(hr:own r=some (.arr s1 e1 n F))(hi:i<n):i<B6:=by
 have hm:maxLen<B6:=by decide
 obtain⟨h1,h2⟩:=h.arr r _ _ _ _ hr
 cases hx:θ r with
 | none=>have:=h1 hx;omega
 | some y=>grind
theorem mq(enc:α->List AV)(d:α)(L:List (List α))(i:Nat)(e:TypeId)(hr:Aj st.own r=some (.arr 1 e1 n (Qf sz enc d L (Tag.fam b))))(hb:Aj st.fam b=some ⟨sz,e,O3 L⟩)(hk:Aj st.own k=none)(hn:n=L.length)(hi:i<L.length)
  (ht:st.tmps.all (λx=>x.2.free (gu b))=true) (ho:OwnsFr (gu b) r st.own) (hlr:Nat.blt r B6=true:=by rfl) (hlk:Nat.blt k B6=true:=by rfl) :
  Le Γ st ⟨st.tmps,E1 (E1 st.own r (.arr 1 e1 n (Qf sz enc d L (H9 b i k)))) k (.tok sz e (L.getD i []).length),E1 st.fam b ⟨sz,e,FI L i⟩⟩:=by
 intro I θ a w h
 have hlr:r<B6:=by simpa [Nc] using hlr
 have hlk:k<B6:=by simpa [Nc] using hlk
 have hr':st.sto.own r=some _:=(Bg hlr).trans hr;have hk':st.sto.own k=none:=(Bg hlk).trans hk;have hib:i<B6:=k5 h.chg.rel hr' (by omega)
 have hp:st.sto.own (U0 b i)=some (.tok sz e (L.getD i []).length):=by
  show Df _ _ _=_
  rw[TY hib,hb];simp[O3,hi]
 have By:(⟨st.tmps,E1 (E1 st.own r (.arr 1 e1 n (Qf sz enc d L (H9 b i k)))) k (.tok sz e (L.getD i []).length),E1 st.fam b ⟨sz,e,FI L i⟩⟩:St).sto.own =
   λx=>if x=k then some (.tok sz e (L.getD i []).length) else if x=U0 b i then none else if x=r then some (.arr 1 e1 n (Qf sz enc d L (H9 b i k))) else st.sto.own x:=by
  funext x
  show Df (E1 (E1 st.own r _) k _) (E1 st.fam b _) x=if x=k then _ else if x=U0 b i then none else if x=r then _ else Df st.own st.fam x
  by_cases hx:x<B6
  ·have h1:x≠U0 b i:=λhe=>by rw[he]at hx;exact Tu b i hx
   rw[Bg hx,Bg hx,Kf,Kf];simp only[Yq (a:=k),Yq (a:=r),h1,Iu]
  ·have h1:x≠k:=by rintro rfl;exact hx hlk
   have h2:x≠r:=by rintro rfl;exact hx hlr
   rw[Du hx,Du hx,Kf,if_neg h1,if_neg h2]
   by_cases hd:b=x / B6-1
   ·have hxe:=rm hx;rw[<- hd]at hxe
    by_cases hm:x % B6=i
    ·rw[hm]at hxe;rw[if_pos hd,if_pos hxe,hm];simp[FI]
    ·have h3:x≠U0 b i:=λhe=>hm (by rw[he,Xi hib]);rw[if_pos hd,if_neg h3,<- hd,hb];simp[FI,hm]
   ·have h3:x≠U0 b i:=λhe=>hd (by rw[he,AQ hib]);rw[if_neg hd,if_neg h3]
 let θ' :=λx=>if x=k then θ (U0 b i) else if x=U0 b i then none else θ x
 refine⟨I,θ',?_⟩;have hrr:=VZ (θ':=θ') h hp hk' hr' (by cases hx:Γ.own0 (U0 b i) with|none=>rfl|some o=>exact(Tu b i (Γ.lt0 _ (by rw[hx];simp))).elim)
  (λt=>nW (λx hx=>sT hib hx) ht t) (λnm o hne ho'=>ho.sto (λx hx=>sT hib hx) hne ho') By rfl (λj _=>rfl) (λj c v hj hc hv=>?_)
 ·exact hrr
 ·obtain rfl:c=0:=by omega
  show Rep I _ θ' w v (.slice sz _ _ (H9 b i k j))
  cases hji:Nat.beq j i with
  | true=>
   have:=Ez hji;subst this;rw[show H9 b j k j = .own k by simp[H9]];exact yQ hv rfl hp ((congrFun By k).trans (if_pos rfl)) (if_pos rfl)
  | false=>
   have hne:j≠i:=by rintro rfl;simp at hji
   rw[show H9 b i k j = .fam b j by simp[H9,hji]];have h3:j<B6->U0 b j≠U0 b i:=λhi' he=>hne (by rw[<- Xi (b:=b) hi',he,Xi hib])
   have h4:U0 b j≠k:=λhe=>by rw[<- he]at hlk;exact Tu b j hlk
   have h5:U0 b j≠r:=λhe=>by rw[<- he]at hlr;exact Tu b j hlr
   exact iR hv rfl (λhi'=>(congrFun By _).trans ((if_neg h4).trans ((if_neg (h3 hi')).trans (if_neg h5)))) (λhi'=>(if_neg h4).trans (if_neg (h3 hi')))
theorem sl(enc:α->List AV)(d:α)(L:List (List α))(i:Nat)(x:List α)(e:TypeId)(hr:Aj st.own r=some (.arr 1 e1 n F))(hF:∀ j,j<n->F j=Qf sz enc d (L.set i x) (H9 b i k) j)(hb:Aj st.fam b=some ⟨sz,e,FI L i⟩)(hk:Aj st.own k=some (.tok sz e m))(hm:m=x.length)(hn:n=L.length)(hi:i<L.length)
  (ht:st.tmps.all (λx=>x.2.free (m7 k))=true) (ho:OwnsFr (m7 k) r st.own) (h0:Γ.own0 k=none) (hlr:Nat.blt r B6=true:=by rfl) (hlk:Nat.blt k B6=true:=by rfl) :
  Le Γ st ⟨st.tmps,po (E1 st.own r (.arr 1 e1 n (Qf sz enc d (L.set i x) (Tag.fam b)))) k,E1 st.fam b ⟨sz,e,O3 (L.set i x)⟩⟩:=by
 intro I θ a w h
 have hlr:r<B6:=by simpa [Nc] using hlr
 have hlk:k<B6:=by simpa [Nc] using hlk
 have hr':st.sto.own r=some (.arr 1 e1 n F):=(Bg hlr).trans hr;have hk':st.sto.own k=some (.tok sz e m):=(Bg hlk).trans hk;have hib:i<B6:=k5 h.chg.rel hr' (by omega)
 have hp:st.sto.own (U0 b i)=none:=by
  show Df _ _ _=_
  rw[TY hib,hb];simp[FI]
 have hgi:(L.set i x).getD i []=x:=by simp[List.getD,hi]
 have hgj:∀ j,j≠i->(L.set i x).getD j []=L.getD j []:=λj hj=>by simp[List.getD,Tg hj]
 have By:(⟨st.tmps,po (E1 st.own r (.arr 1 e1 n (Qf sz enc d (L.set i x) (Tag.fam b)))) k,E1 st.fam b ⟨sz,e,O3 (L.set i x)⟩⟩:St).sto.own =
   λy=>if y=U0 b i then some (.tok sz e m) else if y=k then none else if y=r then some (.arr 1 e1 n (Qf sz enc d (L.set i x) (Tag.fam b))) else st.sto.own y:=by
  funext y
  show Df (po (E1 st.own r _) k) (E1 st.fam b _) y=if y=U0 b i then _ else if y=k then none else if y=r then _ else Df st.own st.fam y
  by_cases hx:y<B6
  ·have h1:y≠U0 b i:=λhe=>by rw[he]at hx;exact Tu b i hx
   rw[Bg hx,Bg hx,pH,Kf];simp only[Yq (a:=k),Yq (a:=r),h1,Iu]
  ·have h1:y≠k:=by rintro rfl;exact hx hlk
   have h2:y≠r:=by rintro rfl;exact hx hlr
   rw[Du hx,Du hx,Kf,if_neg h1,if_neg h2]
   by_cases hd:b=y / B6-1
   ·have hxe:=rm hx;rw[<- hd]at hxe
    by_cases hm':y % B6=i
    ·rw[hm']at hxe;rw[if_pos hd,if_pos hxe,hm',Am];simp only[O3,Ek,hi,Nd,hgi,hm,Option.map_some]
    ·have h3:y≠U0 b i:=λhe=>hm' (by rw[he,Xi hib]);rw[if_pos hd,if_neg h3,<- hd,hb];simp only[Am,FI,hm',Iu,O3,Ek,hgj _ hm']
   ·have h3:y≠U0 b i:=λhe=>hd (by rw[he,AQ hib]);rw[if_neg hd,if_neg h3]
 let θ':Nat->Option (Nat×Nat):=λy=>if y=U0 b i then θ k else if y=k then none else θ y
 refine⟨I,θ',?_⟩;have hrr:=VZ (θ':=θ') h hk' hp hr' h0 (λt=>nW (λx hx=>sU hlk hx) ht t) (λnm o hne ho'=>ho.sto (λx hx=>sU hlk hx) hne ho') By rfl
  (λj hj=>by rw[hF j hj];rfl) (λj c v hj hc hv=>?_)
 ·exact hrr
 ·obtain rfl:c=0:=by omega
  rw[hF j hj]at hv;replace hv:Rep I st.sto.own θ w v (.slice sz ((L.set i x).getD j []).length _ (H9 b i k j)):=hv
  cases hji:Nat.beq j i with
  | true=>
   have:=Ez hji;subst this;rw[show H9 b j k j = .own k by simp[H9]]at hv;exact uC hv rfl hib hk' ((congrFun By _).trans (if_pos rfl)) (if_pos rfl)
  | false=>
   have hne:j≠i:=by rintro rfl;simp at hji
   rw[show H9 b i k j = .fam b j by simp[H9,hji]]at hv;have h3:j<B6->U0 b j≠U0 b i:=λhi' he=>hne (by rw[<- Xi (b:=b) hi',he,Xi hib])
   have h4:U0 b j≠k:=λhe=>by rw[<- he]at hlk;exact Tu b j hlk
   have h5:U0 b j≠r:=λhe=>by rw[<- he]at hlr;exact Tu b j hlr
   exact iR hv rfl (λhi'=>(congrFun By _).trans ((if_neg (h3 hi')).trans ((if_neg h4).trans (if_neg h5)))) (λhi'=>(if_neg (h3 hi')).trans (if_neg h4))
theorem gV(enc:α->List AV)(d:α)(L:List (List α))(e:TypeId)(hr:Aj st.own r=some (.arr 1 e1 n (Qf sz enc d L (λ_=>.exact))))(hb:Aj st.fam b=none)(hn:n=L.length)(h8:e=Zx->∀ j,(L.getD j []).length=0)(hlr:Nat.blt r B6=true:=by rfl) :
  Le Γ st ⟨st.tmps,E1 st.own r (.arr 1 e1 n (Qf sz enc d L (Tag.fam b))),E1 st.fam b ⟨sz,e,O3 L⟩⟩:=by
 intro I θ a w h
 have hlr:r<B6:=by simpa [Nc] using hlr
 have hr':st.sto.own r=some _:=(Bg hlr).trans hr
 let S :=λx=>if x<B6 then none else if b=x / B6-1 then(O3 L (x % B6)).map λm=>(sz,e,m) else none
 have By:(⟨st.tmps,E1 st.own r (.arr 1 e1 n (Qf sz enc d L (Tag.fam b))),E1 st.fam b ⟨sz,e,O3 L⟩⟩:St).sto.own =
   λx=>match S x with|some y=>some (.tok y.1 y.2.1 y.2.2)|none=>if x=r then some (.arr 1 e1 n (Qf sz enc d L (Tag.fam b))) else st.sto.own x:=by
  funext x
  show Df (E1 st.own r _) (E1 st.fam b _) x=match S x with|some y=>_|none=>if x=r then _ else Df st.own st.fam x
  by_cases hx:x<B6
  ·have:S x=none:=by simp[S,hx]
   rw[Bg hx,Bg hx,Kf,this];simp only[Yq (a:=r)]
  ·have h2:x≠r:=by rintro rfl;exact hx hlr
   rw[Du hx,Du hx,Kf]
   by_cases hd:b=x / B6-1
   ·have:S x=(O3 L (x % B6)).map λm=>(sz,e,m):=by simp only[S,hx,Iu,if_pos hd]
    rw[if_pos hd,this,if_neg h2,<- hd,hb];simp only[Am]
    cases O3 L (x % B6)<;>rfl
   ·grind
 have hS:∀ x y,S x=some y->st.sto.own x=none:=λx y hx=>by
  by_cases h1:x<B6
  ·simp[S,h1]at hx
  ·by_cases hd:b=x / B6-1
   ·show Df _ _ x=none
    rw[Du h1,<- hd,hb];rfl
   ·grind
 refine⟨I,_,kq h hr' hS (λx s m hx=>?_) By rfl (λj _=>rfl) (λj c v hj hc hv=>?_)⟩
 ·by_cases h1:x<B6
  ·simp[S,h1]at hx
  ·by_cases hd:b=x / B6-1
   ·simp only[S,h1,Iu,if_pos hd]at hx;obtain⟨m',hm',he⟩:=zzL89.1 hx;unfold O3 at hm'
    split at hm'
    ·grind
    ·cases hm'
   ·grind
 ·obtain rfl:c=0:=by omega
  have hjb:j<B6:=k5 h.chg.rel hr' hj
  have hSj:S (U0 b j)=some (sz,e,(L.getD j []).length):=by
   simp only[S,Tu b j,Iu,AQ hjb,Nd,Xi hjb,O3];rw[if_pos (by omega)];rfl
  exact yP hv rfl hjb ((congrFun By _).trans (by rw[hSj])) (by rw[hSj])
end
end
theorem bI{e:α->List AV}{d:α}{l:List α}:AVle (AV.list sz e d l (H9 b i k i)) (AV.list sz e d l (.own k)):=by
 have:H9 b i k i = .own k:=by simp[H9]
 rw[this];exact AVle.refl _
theorem iL{k0:Nat}{e:α->List AV}{d:α}{L:List (List α)}{x:List α}(hi:i<L.length)(hk:ab4 k=true)(hb:ab4 b=true) :
  ∀ j,j<n->AV.eraseAll ab4 (F4 (Qf sz e d L (H9 b i k0)) i 0 [AV.list sz e d x (.own k)] j)=Qf sz e d (L.set i x) (H9 b i k) j:=λj _=>by
 unfold F4
 cases hji:Nat.beq j i with
 | true=>
  have:=Ez hji;subst this;simp[Qf,AV.eraseAll,AV.erase,AV.list,H9,hk, hi]
 | false=>
  have hne:i≠j:=by rintro rfl;simp at hji
  simp[Qf,AV.eraseAll,AV.erase,AV.list,H9,hji,hb, hne]
theorem gB{e:α->List AV}{d:α}:∀ k,k<n->AVleL (AV.eraseAll ab4 [.slice 0 0 (λ_=>[]) .exact]) (Qf sz e d (List.replicate n []) (λ_=>.exact) k):=λk hk=>by
 have:(List.replicate n ([]:List α)).getD k []=[]:=by simp[ hk]
 unfold Qf;rw[this];exact .cons Cw .nil
mutual
def AV.freeN(r:Nat):AV->Bool
 | .vsl nm _=>!Nat.beq nm r
 | .vpt nm _ _ _=>!Nat.beq nm r
 | .vsub nm _ _ _=>!Nat.beq nm r
 | .clo _ xs ys=>AV.freeNAll r xs&&AV.freeNAll r ys
 | .agg cs=>AV.freeNAll r cs
 | .rpo cs=>AV.freeNAll r cs
 | .tuple cs=>AV.freeNAll r cs
 | .cond _ x=>x.freeN r
 | _=>true
def AV.freeNAll(r:Nat):List AV->Bool
 | []=>true
 | x::l=>x.freeN r&&AV.freeNAll r l
end
theorem J7(h:AV.freeNAll r l=true)(j:Nat):(l.getD j .any).freeN r=true:=by
 induction l generalizing j with
 | nil=>simp[AV.freeN]
 | cons x l ih=>
  simp only[AV.freeNAll,Az]at h
  cases j with
  | zero=>simpa using h.1
  | succ j=>simpa using ih h.2 j
theorem pq(h:Rep I own θ w v x)(hx:x.freeN r=true)(hr:∃ sz e m f,own r=some (.arr sz e m f))
  (ho:∀ nm,nm≠r->it nm=own nm):Rep I it θ w v x:=by
 have hne:∀{nm o},own nm=some o->(∀ sz e m f,o≠.arr sz e m f)->it nm=some o:=λ{nm o} hn hh=>by
  grind
 have hbq:∀{nm:Nat},(!Nat.beq nm r)=true->nm≠r:=λh e=>by subst e;simp at h
 induction h with
 | val v x h=>exact .val v x h
 | exact a n sz f h=>exact .exact a n sz f h
 | own nm sz e m a n cap f hn hm hv h=>exact .own nm sz e m a n cap f (hne hn (λ_ _ _ _ h=>by cases h)) hm hv h
 | fam b i sz e m a n cap f hi hn hm hv h=>exact .fam b i sz e m a n cap f hi (hne hn (λ_ _ _ _ h=>by cases h)) hm hv h
 | ptr nm off e cells g c hn hg=>exact .ptr nm off e _ g c (hne hn (λ_ _ _ _ h=>by cases h)) hg
 | vsl nm sz e m f a n cap hn hm IN Is hnn hv=>exact .vsl nm sz e m f a n cap ((ho nm (hbq hx)).trans hn) hm IN Is hnn hv
 | vpt nm sz e m f n i j ad hn hm hi hv=>exact .vpt nm sz e m f n i j ad ((ho nm (hbq hx)).trans hn) hm hi hv
 | clo f fs cs xs ys hl hl' _ _ ih ih'=>
  simp only[AV.freeN,Az]at hx;exact .clo f fs cs xs ys hl hl' (λj hj=>ih j hj (J7 hx.1 j)) (λj hj=>ih' j hj (J7 hx.2 j))
 | optr nm mm x g c hn hg=>exact .optr nm mm x g c (hne hn (λ_ _ _ _ h=>by cases h)) hg
 | omap nm x hn=>exact .omap nm x (hne hn (λ_ _ _ _ h=>by cases h))
 | vsub nm sz e m f n lo hi a cap hn hm hlo hhi IN Is hnn hv=>exact .vsub nm sz e m f n lo hi a cap ((ho nm (hbq hx)).trans hn) hm hlo hhi IN Is hnn hv
 | cond v c x _ h' ih=>exact .cond v c x (λhc=>ih hc hx) h'
 | agg vs cs hl h1 _ ih=>exact .agg vs cs hl h1 (λj hj=>ih j hj (J7 hx j))
 | rpo a cells us hs hI' hc h1 _ ih=>exact .rpo a _ us hs hI' hc h1 (λj hj=>ih j hj (J7 hx j))
 | tuple vs cs hl _ ih=>exact .tuple vs cs hl (λj hj=>ih j hj (J7 hx j))
inductive OwnsFrN (r:Nat):List (Nat×Own)->Prop
 | nil:OwnsFrN r []
 | row {nm:Nat} {e:TypeId} {cells:List AV} {l:List (Nat×Own)} (h:AV.freeNAll r cells=true) (t:OwnsFrN r l):OwnsFrN r ((nm,.row e cells)::l)
 | arr {nm sz m:Nat} {e:TypeId} {f:Nat->List AV} {l:List (Nat×Own)} (h:∀ j,AV.freeNAll r (f j)=true) (t:OwnsFrN r l):OwnsFrN r ((nm,.arr sz e m f)::l)
 | tok {nm sz m:Nat} {e:TypeId} {l:List (Nat×Own)} (t:OwnsFrN r l):OwnsFrN r ((nm,.tok sz e m)::l)
 | obj {nm:Nat} {x:AObj} {l:List (Nat×Own)} (t:OwnsFrN r l) (h:x.Al (λy=>y.freeN r=true):=by first|trivial|rfl):OwnsFrN r ((nm,.obj x)::l)
def Ack(r:Nat):Own->Prop
 | .row _ cells=>AV.freeNAll r cells=true
 | .arr _ _ _ f=>∀ j,AV.freeNAll r (f j)=true
 | .obj x=>x.Al (λy=>y.freeN r=true)
 | .tok ..=>True
theorem OwnsFrN.get{l:List (Nat×Own)}(h:OwnsFrN r l)(ho:Aj l nm=some o):Ack r o:=by
 induction h with
 | nil=>cases ho
 | @row k e cells l h _ ih=>
  simp only[Aj]at ho
  cases hb:Nat.beq k nm with
  | true=>rw[hb]at ho;simp only[Ah,Ax]at ho;subst ho;exact h
  | false=>grind
 | @arr k sz m e f l h _ ih=>
  simp only[Aj]at ho
  cases hb:Nat.beq k nm with
  | true=>rw[hb]at ho;simp only[Ah,Ax]at ho;subst ho;exact h
  | false=>grind
 | @tok k sz m e l _ ih=>
  simp only[Aj]at ho
  cases hb:Nat.beq k nm with
  | true=>rw[hb]at ho;simp only[Ah,Ax]at ho;subst ho;trivial
  | false=>grind
 | @obj k x l _ h ih=>
  simp only[Aj]at ho
  cases hb:Nat.beq k nm with
  | true=>rw[hb]at ho;simp only[Ah,Ax]at ho;subst ho;exact h
  | false=>grind
theorem gX{t s:Nat}(hs:st.get t = .vsub r n 0 k)(hr:Aj st.own r=some (.arr s e n f))(hk:k<=n)
  (ht:(st.tmps.all λx=>Nat.beq x.1 t || x.2.freeN r)=true) (ho:OwnsFrN r st.own) (h0:Γ.own0 r=none) (hlt:Nat.blt r B6=true:=by rfl) (hB:Ad7 e=false:=by rfl) :
  Le Γ st ⟨E1 st.tmps t (.vsl r k),E1 st.own r (.arr s e k f),st.fam⟩:=by
 intro I θ a w h
 have hlt:r<B6:=by simpa [Nc] using hlt
 have hr':st.sto.own r=some (.arr s e n f):=(Bg hlt).trans hr
 have By:(⟨E1 st.tmps t (.vsl r k),E1 st.own r (.arr s e k f),st.fam⟩:St).sto.own=A5 st.sto.own r (.arr s e k f):=by
  funext x
  show Df (E1 st.own r _) _ x=_
  rw[M9 hlt];simp only[A5]
  by_cases hx:r=x
  ·subst hx;simp
  ·simp[hx,Tg hx];rfl
 have af6:∀ nm,nm≠r->A5 st.sto.own r (.arr s e k f) nm=st.sto.own nm:=λnm hn=>by simp[A5,hn]
 have hT:∀ v x,x.freeN r=true->Rep I st.sto.own θ w v x->Rep I (A5 st.sto.own r (.arr s e k f)) θ w v x:=λv x hx hv=>pq hv hx ⟨_,_,_,_,hr'⟩ af6;have BY:=h.chg.rel
 have ag5:∀ nm o,st.sto.own nm=some o->Ack r o:=λnm o hn=>by
  by_cases hl:nm<B6
  ·exact ho.get ((Bg hl).symm.trans hn)
  ·obtain⟨_,_,_,rfl⟩:=AS hl hn;trivial
 have ad3:∀ t',(⟨E1 st.tmps t (.vsl r k),E1 st.own r (.arr s e k f),st.fam⟩:St).sto.tmp t'=if t=t' then .vsl r k else st.get t':=λt'=>by
  show(match Aj (E1 st.tmps t _) t' with|some x=>x|none=>.any)=_
  rw[Kf]
  by_cases hk:t=t'
  ·simp[hk]
  ·simp[hk];rfl
 refine⟨I,θ,h.size,h.defers,λt'=>?_,?_⟩
 ·rw[By,ad3]
  split
  ·rename_i htt
   subst htt;have hv:=h.slots t
   have hv':Rep I st.sto.own θ w (a.tmps.getD t undef) (.vsub r n 0 k):=by rw[<- hs];exact hv
   obtain⟨sz,e',m,f',ad,cap,he,ho',hm,_,hhi,IN,Is,hn,hvv⟩:=hv'.vsub_inv;rw[hr']at ho';simp only[Ax,Own.arr.injEq]at ho';obtain⟨rfl,rfl,rfl,rfl⟩:=ho';rw[he];refine .vsl r s e k f ad _ cap (by simp[A5]) (zzL7 _) IN Is hn (λ_=>?_);have hz:=(hvv rfl).2 rfl
   cases hθ:θ r with
   | none=>rw[hθ]at hz;have:=(BY.arr r _ _ _ _ hr').1 hθ;simp only at hz ⊢;omega
   | some gc=>rw[hθ]at hz;exact⟨hz.1,hz.2.resolve_right (by rw[hB];decide)⟩
  ·rename_i htt
   have hx:(st.get t').freeN r=true:=by
    unfold St.get
    cases hl:Aj st.tmps t' with
    | none=>rfl
    | some x=>
     have:=zzL21.1 ht _ (NZ hl);simp only[W1]at this;rcases this with h'|h'
     ·exact(htt (Ez h').symm).elim
     ·exact h'
   exact hT _ _ hx (h.slots t')
 ·rw[By];refine{ h.chg with le:=λnm o hno=>?_,rel:=⟨λnm e0 cells hn=>?_,λnm s' e' m' hn g c hg=>?_,λnm nm' g c c' hn hn' hg hg'=>?_,λnm s' e' m' f' hn=>?_,λnm x hn=>?_,λnm s' m' hn hnn=>?_⟩,new:=λnm g c hn hg=>?_ }
  ·obtain⟨o',ho',hl⟩:=h.chg.le nm o hno;exact⟨o',(af6 nm (by rintro rfl;rw[h0]at hno;cases hno)).trans ho',hl⟩
  ·have hne:nm≠r:=by rintro rfl;simp[A5]at hn
   rw[af6 nm hne]at hn;obtain⟨g,c,vs,r1,r2,r3,r4,r5,r6⟩:=BY.row nm e0 cells hn;exact⟨g,c,vs,r1,r2,r3,r4,λj hj=>hT _ _ (J7 (ag5 nm _ hn) j) (r5 j hj),r6⟩
  ·have hne:nm≠r:=by rintro rfl;simp[A5]at hn
   rw[af6 nm hne]at hn;exact BY.tok nm _ _ _ hn g c hg
  ·have hx:∀ nm,A5 st.sto.own r (.arr s e k f) nm≠none->st.sto.own nm≠none:=λnm hn=>by
    by_cases hne:nm=r
    ·subst hne;rw[hr'];simp
    ·rwa[af6 nm hne]at hn
   exact BY.inj nm nm' g c c' (hx nm hn) (hx nm' hn') hg hg'
  ·by_cases hne:nm=r
   ·subst hne;simp only[A5,Nd,Ax,Own.arr.injEq]at hn;obtain⟨rfl,rfl,rfl,rfl⟩:=hn;obtain⟨q0,q1⟩:=BY.arr nm _ _ _ _ hr';refine⟨λhθ=>by have:=q0 hθ;omega,λg c hg=>?_⟩;obtain⟨OF,p1,p2,p3,p4,p5,p6,p7⟩:=q1 g c hg;exact⟨OF,p1,by omega,p3,p4,λi hi=>p5 i (by omega),λi j hi hj=>⟨(p6 i j (by omega) hj).1,hT _ _ (J7 (ag5 nm _ hr' i) j) (p6 i j (by omega) hj).2⟩,p7⟩
   ·rw[af6 nm hne]at hn;exact EW (BY.arr nm _ _ _ _ hn) rfl (λ_ _=>rfl) (λi j v _ _ hv=>hT _ _ (J7 (ag5 nm _ hn i) j) hv)
  ·have hne:nm≠r:=by rintro rfl;simp[A5]at hn
   rw[af6 nm hne]at hn;exact Nn (BY.obj nm _ hn) rfl (λ_ _ _=>rfl) (λ_ _ _ _ h=>h) (λ_ hh=>hh.al (P:=λy=>y.freeN r=true) (ag5 nm _ hn) (λ_ _ h=>h) (λ_ _ _=>rfl) λv y hy hv=>hT v y hy hv) Ya
  ·have hne:nm≠r:=by rintro rfl;simp[A5]at hn
   rw[af6 nm hne]at hn;exact BY.tok8 nm _ _ hn hnn
  ·have hx:st.sto.own nm≠none:=by
    by_cases hne:nm=r
    ·subst hne;rw[hr'];simp
    ·rwa[af6 nm hne]at hn
   exact h.chg.new nm g c hx hg
theorem nV{e:α->List AV}{d:α}{l:List α}:∀ i,i<0+k->AVleL (e (l.getD i d)) (e ((l.take k).getD i d)):=λi hi=>by
 have:(l.take k).getD i d=l.getD i d:=by grind
 rw[this];exact .refl _
theorem ia{l:List α}(h:0+k<=l.length):0+k=(l.take k).length:=by simp;omega
theorem kn:∀ k,k<0->f k=g k:=λ_ h=>by omega
theorem dr(h:∀ k,k<n->f k=g k)(h':f n=g n):∀ k,k<n+1->f k=g k:=λk hk=>by
 grind
theorem bH{e:α->List AV}{d:α}(hz:z.length=sz)(h:z=e d)(hk:AV.eraseAll ab4 z=z):∀ k,k<N->AVleL (AV.eraseAll ab4 ((((List.replicate N z).flatten).drop (k*sz)).take sz)) (e ((List.replicate N d).getD k d)):=λk hk'=>by
 have:(List.replicate N d).getD k d=d:=by simp[ hk']
 rw[gE z sz hz N k hk',this,hk,h];exact .refl _
theorem pF:AVle ((F4 f i 0 [x] i).getD 0 .any) x:=by
 rw[V5]
 simpa using AVle.refl x
theorem Ob{R:Nat}(hf:∀ j,AV.eraseAll ab4 (f j)=f j)(hk:ab4 R=true):∀ j,j<k->AVleL (AV.eraseAll ab4 (F4 f i 0 [.vsl R m] j)) (F4 f i 0 [.vsl R m] j):=λj _=>by
 have h:AV.eraseAll ab4 (F4 f i 0 [.vsl R m] j)=F4 f i 0 [.vsl R m] j:=by
  by_cases hj:j=i
  ·subst hj;rw[V5,CQ,CQ, ZX,hf];simp[AV.eraseAll,AV.erase,hk]
  ·rw[Zo f _ hj,hf]
 rw[h];exact .refl _
theorem so{enc:α->List AV}{d x:α}{l:List α}(hf:∀ a,AV.frwAll nm sz n g (enc a)=enc a)(h1:∀ a,(enc a).length=1)(hx:enc x=[.slice sz n g .none]) :
  ∀ j,j<l.length->AVleL (AV.frwAll nm sz n g (F4 (λk=>enc (l.getD k d)) i 0 [.vsl nm n] j)) (enc ((l.set i x).getD j d)):=λj hl=>by
 have h:AV.frwAll nm sz n g (F4 (λk=>enc (l.getD k d)) i 0 [.vsl nm n] j)=enc ((l.set i x).getD j d):=by
  by_cases hj:j=i
  ·subst hj
   have e1:(l.set j x).getD j d=x:=by simp[ hl]
   have e2:(enc (l.getD j d)).drop (0+[AV.vsl nm n].length)=[]:=List.drop_eq_nil_of_le (by grind)
   have e3:DP nm nm=false:=by simp[DP]
   rw[V5,e1,e2,hx];simp[AV.frwAll,AV.frw,e3]
  ·have e1:(l.set i x).getD j d=l.getD j d:=by grind
   rw[Zo _ _ hj,e1,hf]
 rw[h];exact .refl _
section
variable {α:Type} {g:Bool} {a b:List α}
theorem mQ:(bif g then a.length else b.length)=(bif g then a else b).length:=by cases g<;>rfl
theorem wz{e:α->List AV}{d:α}:(bif g then e (a.getD k d) else e (b.getD k d))=e ((bif g then a else b).getD k d):=by cases g<;>rfl
theorem w4(h:g=true->b.length=a.length):b.length=(bif g then a else b).length:=by
 grind
end
abbrev Ee{V:Type}(f:V->AV)(l:List (Int×V)):List (Int×AV):=l.map λp=>(p.1,f p.2)
section
variable {V:Type} {f:V->AV} {l:List (Int×V)} {r:List (Int×AV)} {k:Int}
theorem bp(k:Int):∀ l:List (Int×V),Lb (Ee f l) k=Lb l k
 | []=>rfl
 | (a,b)::l=>by
  simp only[ Db,Lb];rw[<- bp k l]
theorem bq(k:Int)(v:V):∀ l:List (Int×V),Qb (Ee f l) k (f v)=Ee f (Qb l k v)
 | []=>rfl
 | (a,b)::l=>by
  simp only[ Db,Qb]
  cases k==a with
  | true=>rfl
  | false=>
   simp only[Ar];exact Bw _ (bq k v l)
theorem dW{z:V}(hz:AVle zz (f z))(hr:r=Ee f l):AVle (Nm zz r k) (f (Nm z l k)):=by
 subst hr
 induction l with
 | nil=>exact hz
 | cons p l ih=>
  obtain⟨a,b⟩:=p;simp only[ Db,Nm]
  cases k==a with
  | true=>exact AVle.refl _
  | false=>exact ih
theorem gt{z:V}(hz:AVle zz (f z))(hr:r=Ee f l):AVle (.tuple [Nm zz r k,.bool (Lb r k)]) (.tuple [f (Nm z l k),.bool (Lb l k)]):=by
 have h:=dW (k:=k) hz hr;subst hr;rw[bp];exact AVle.tuple (.cons h (.cR .nil))
theorem mz{v:V}(hx:x=f v)(hr:r=Ee f l):Qb r k x=Ee f (Qb l k v):=by
 subst hr hx;exact bq k v l
theorem rj{g:Bool}{a b:List (Int×V)}{ra rb:List (Int×AV)}(ha:ra=Ee f a)(hb:rb=Ee f b):(bif g then ra else rb)=Ee f (bif g then a else b):=by
 grind
end
theorem sk{x:AObj}(y:AObj)(hn:Aj st.own nm=some (.obj x))(hxy:∀ I own θ w,PZ I own θ w nm x->PZ I own θ w nm y)(hlt:Nat.blt nm B6=true:=by rfl) :
  Le Γ st ⟨st.tmps,E1 st.own nm (.obj y),st.fam⟩:=by
 intro I θ a w h
 have hlt:nm<B6:=by simp_all
 have hn:st.sto.own nm=some _:=(Bg hlt).trans hn
 have By:(⟨st.tmps,E1 st.own nm (.obj y),st.fam⟩:St).sto.own=A5 st.sto.own nm (.obj y):=by
  funext k
  show Df _ _ k=_
  rw[M9 hlt];simp only[A5]
  by_cases hk:nm=k
  ·subst hk;simp
  ·simp[hk,Tg hk];rfl
 have hle:∀ k o,st.sto.own k=some o->∃ o',A5 st.sto.own nm (.obj y) k=some o'/\OwnLe o (θ k) o' (θ k):=λk o ho=>by
  by_cases hk:k=nm
  ·subst hk;rw[hn]at ho;obtain rfl:=OI ho;exact⟨.obj y,by simp[A5],rfl⟩
  ·exact⟨o,by simp[A5,hk,ho],OwnLe.refl _ _⟩
 have BY:=h.chg.rel;have No:∀ v z,Rep I _ θ w v z->Rep I _ θ w v z:=λv z hz=>hz.mono (λ_ _ h=>h) (λ_ _ _=>rfl) hle
 have k:Chg st.sto.own θ I w (A5 st.sto.own nm (.obj y)) θ I w:=by
  refine{ imm:=λ_ _ h=>h,cell:=λ_ _ _=>rfl,le:=hle,rel:=?_,valid:=h.chg.valid,os:=rfl,tape:=rfl,output:=rfl,drawn:=λ_=>zzL7 _,grow:=zzL7 _,frame:=λ_ _ _=>rfl,new:=λk g c ho hg=>?_,immNew:=λb o h=>.inl h }
  ·refine Pi BY (·=nm) No (λk hne=>⟨by simp[A5,hne],rfl⟩) (λk g c hne ho hg=>⟨rfl,λj h=>h⟩) ?_ ?_ ?_ (λ_ _ h h'=>h.trans h'.symm) (hobj:=?_)
   ·rintro k e' cells rfl ho;simp[A5]at ho
   ·rintro k sz e' m rfl ho;simp[A5]at ho
   ·rintro k k' g c c' rfl hne _ ho' hg hg';exact hne (BY.inj k' k _ _ _ ho' (by simp[hn]) hg' hg)
   ·rintro k z rfl ho;simp only[A5,Nd,Ax,Own.obj.injEq]at ho;subst ho;exact Nn (hxy _ _ _ _ (BY.obj k x hn)) rfl (λ_ _ _=>rfl) (λ_ _ _ _ h=>h) (λ_ hh=>hh.mono No) Ya
  ·by_cases hk:k=nm
   ·grind
   ·exact .inr ⟨k,c,by simpa [A5,hk] using ho,hg⟩
 exact⟨I,θ,h.size,h.defers,λt'=>by rw[By];exact(h.slots t').chg k,by rw[By];exact h.chg.trans k⟩
variable {e0 e:Exit}{c:Code}{O R p G p0 p1 p2 p3 p4 p5 p6 p7 p8:Prop}{og:St}{rs:List ResultVar}{H' Hf:List (Nat×Own)}{res:AV}
theorem gw{nn:Bool}{k:IntKind}{l:List (Int×AV)}(h:PZ I own θ w nm (.map nn k l)):PZ I own θ w nm (.map false k l):=by
 rcases h with⟨g,c,o,h1,h2,h3,h4⟩|⟨h1,h2⟩
 ·refine .inl ⟨g,c,o,h1,h2,?_,h4⟩
  cases h3 with
  | map es nn k l hs hr=>exact .map es _ k l hs hr
 ·cases nn<;>cases l<;>first|exact .inr ⟨h1,trivial⟩|cases h2
theorem BD{e0:TypeId}{cells:List AV}(km:IntKind)(hr:Aj st.own r=some (.row e0 cells))(hs:cells.getD j .any = .nilm)(hj:j<cells.length)(hn:Aj st.own nm=none)(hlt:Nat.blt nm B6=true:=by rfl)(ah9:Nat.blt r B6=true:=by rfl) :
  Le Γ st ⟨st.tmps,E1 (E1 st.own r (.row e0 (cells.set j (.omap nm)))) nm (.obj (.map false km [])),st.fam⟩:=by
 intro I θ a w h
 have hlt:nm<B6:=by simpa [Nc] using hlt
 have ah9:r<B6:=by simpa [Nc] using ah9
 have hn:st.sto.own nm=none:=(Bg hlt).trans hn;have hr:st.sto.own r=some (.row e0 cells):=(Bg ah9).trans hr
 have hne:r≠nm:=by rintro rfl;rw[hr]at hn;cases hn
 let it:Nat->Option Own:=λk=>if k=nm then some (.obj (.map false km [])) else if k=r then some (.row e0 (cells.set j (.omap nm))) else st.sto.own k
 have By:(⟨st.tmps,E1 (E1 st.own r (.row e0 (cells.set j (.omap nm)))) nm (.obj (.map false km [])),st.fam⟩:St).sto.own=it:=by
  funext k
  show Df (E1 (E1 st.own r _) nm _) _ k=_
  rw[M9 hlt,M9 ah9];simp only[it,Yq (a:=nm),Yq (a:=r)]
  rfl
 have hle:∀ nm' o,st.sto.own nm'=some o->∃ o',it nm'=some o'/\OwnLe o (θ nm') o' (thUp θ nm none nm'):=λnm' o ho=>by
  have h1:nm'≠nm:=by rintro rfl;have:st.sto.own nm'=some o:=ho;rw[hn]at this;cases this
  by_cases h2:nm'=r
  ·subst h2;have:st.sto.own nm'=some o:=ho;rw[hr]at this;obtain rfl:=OI this;exact⟨.row e0 (cells.set j (.omap nm)),by simp[it,h1],by simp[thUp,h1,OwnLe]⟩
  ·exact⟨o,by simp[it,h1,h2,ho],by simp[thUp,h1,OwnLe.refl]⟩
 have No:∀ v x,Rep I st.sto.own θ w v x->Rep I it (thUp θ nm none) w v x:=λv x h=>h.mono (λ_ _ h=>h) (λ_ _ _=>rfl) hle;have BY:=h.chg.rel
 have k:Chg st.sto.own θ I w it (thUp θ nm none) I w:=by
  refine{ imm:=λ_ _ h=>h,cell:=λ_ _ _=>rfl,le:=hle,rel:=?_,valid:=h.chg.valid,os:=rfl,tape:=rfl,output:=rfl,drawn:=λ_=>zzL7 _,grow:=zzL7 _,frame:=λ_ _ _=>rfl,new:=λnm' g' c ho hg=>?_,immNew:=λ_ _ h=>.inl h }
  ·refine⟨λnm' e2 cells' ho=>?_,λnm' s' e' m ho g' c hg=>?_,λn1 n2 g' c c' ho ho' hg hg'=>?_,λnm' s' e' m f' ho=>?_,λnm' x' ho=>?_,λnm' s' m ho hnn=>?_⟩
   ·by_cases h1:nm'=nm
    ·simp[it,h1]at ho
    ·by_cases h2:nm'=r
     ·subst h2;simp only[it,h1,Iu,Nd,Ax,Own.row.injEq]at ho;obtain⟨rfl,rfl⟩:=ho;obtain⟨g',c,vs,r1,r2,r3,r4,r5,r6⟩:=BY.row nm' _ cells hr;refine⟨g',c,vs,by simpa [thUp,h1] using r1,r2,by simpa using r3,λj' hj'=>r4 j' (by simpa using hj'),λj' hj'=>?_,r6⟩
      have hj'':j'<cells.length:=by simpa using hj'
      by_cases hjj:j'=j
      ·subst hjj
       have e1:(cells.set j' (.omap nm)).getD j' .any = .omap nm:=by simp[List.getD,hj]
       rw[e1];have hr':=r5 j' hj'';rw[hs]at hr';rw[hr'.nilm_inv];have:=Rep.omap (I:=I) (own:=it) (θ:=thUp θ nm none) (w:=w) nm (.map false km []) (by simp[it])
       simpa [thUp] using this
      ·have e1:(cells.set j (.omap nm)).getD j' .any=cells.getD j' .any:=by simp[List.getD,Tg hjj]
       rw[e1];exact No _ _ (r5 j' hj'')
     ·simp only[it,h1,h2,Iu]at ho;obtain⟨g',c,vs,r1,r2,r3,r4,r5,r6⟩:=BY.row nm' _ cells' ho;exact⟨g',c,vs,by simpa [thUp,h1] using r1,r2,r3,r4,λj' hj'=>No _ _ (r5 j' hj'),r6⟩
   ·by_cases h1:nm'=nm
    ·simp[thUp,h1]at hg
    ·have h2:nm'≠r:=by rintro rfl;simp[it,h1]at ho
     simp only[it,h1,h2,Iu]at ho;simp only[thUp,h1,Iu]at hg;exact BY.tok nm' _ _ _ ho g' c hg
   ·have hx:∀ n1 g' c,it n1≠none->thUp θ nm none n1=some (g',c)->st.sto.own n1≠none/\θ n1=some (g',c):=λn1 g' c ho hg=>by
     by_cases h1:n1=nm
     ·simp[thUp,h1]at hg
     ·simp only[thUp,h1,Iu]at hg;refine⟨?_,hg⟩
      by_cases h2:n1=r
      ·subst h2;have:st.sto.own n1=some (.row e0 cells):=hr;simp[this]
      ·simpa [it,h1,h2] using ho
    obtain⟨a1,a2⟩:=hx n1 g' c ho hg;obtain⟨b1,b2⟩:=hx n2 g' c' ho' hg';exact BY.inj n1 n2 g' c c' a1 b1 a2 b2
   ·by_cases h1:nm'=nm
    ·simp[it,h1]at ho
    ·have h2:nm'≠r:=by rintro rfl;simp[it,h1]at ho
     simp only[it,h1,h2,Iu]at ho;exact Sf (BY.arr nm' _ _ _ _ ho) (by simp[thUp,h1]) (λ_ _ _=>rfl) (λ_ _ _ _ h=>h) (λ_ _=>rfl) (λv i j _ _ hv=>No _ _ hv)
   ·by_cases h1:nm'=nm
    ·simp only[it,h1,Nd,Ax,Own.obj.injEq]at ho;subst ho;subst h1;exact .inr ⟨by simp[thUp],trivial⟩
    ·have h2:nm'≠r:=by rintro rfl;simp[it,h1]at ho
     simp only[it,h1,h2,Iu]at ho;exact Nn (BY.obj nm' _ ho) (by simp[thUp,h1]) (λ_ _ _=>rfl) (λ_ _ _ _ h=>h) (λ_ hh=>hh.mono No) Ya
   ·by_cases h1:nm'=nm
    ·simp[it,h1]at ho
    ·have h2:nm'≠r:=by rintro rfl;simp[it,h1]at ho
     simp only[it,h1,h2,Iu]at ho;simp only[thUp,h1,Iu]at hnn;exact BY.tok8 nm' _ _ ho hnn
  ·by_cases h1:nm'=nm
   ·simp[thUp,h1]at hg
   ·simp only[thUp,h1,Iu]at hg;refine .inr ⟨nm',c,?_,hg⟩
    by_cases h2:nm'=r
    ·subst h2;have:st.sto.own nm'=some (.row e0 cells):=hr;simp[this]
    ·simpa [it,h1,h2] using ho
 refine⟨I,thUp θ nm none,h.size,h.defers,λt'=>?_,?_⟩
 ·rw[By];exact(h.slots t').chg k
 ·rw[By];exact h.chg.trans k
section
variable {P:Program} {Γ:Ip} {σ:Sto} {I:Nat->Nat->Prop} {θ:Nat->Option (Nat×Nat)} {a:Act} {w:World} {o:Oper}
end
open Classical in
open Classical in
section
variable {P:Program} {Γ:Ip}
end
section
variable {P:Program} {Γ:Ip}
def SD(P:Program)(Γ:Ip)(body:Code)(K:Exit->St->Prop):Nat->St->Prop
 | 0,_=>False
 | n+1,st=>DO P Γ body (λe st'=>(e = .normal/\SD P Γ body K n st')\/(e≠.normal/\K e st')) st
theorem jp{body:Code}(n:Nat)(h:SD P Γ body K n st):DO P Γ (.loop body) K st:=by
 intro I θ a w BY;refine cO (λm a w=>∃ st I θ,SD P Γ body K m st/\Rel Γ st.sto I θ a w) (λm a w ⟨st,I,θ,hu,BY⟩=>?_) (n:=n) ⟨st,I,θ,h,BY⟩
 cases m with
 | zero=>exact hu.elim
 | succ m=>
  refine Wz (hu I θ a w BY) λe a' w' ⟨st',I',θ',h1,h2⟩=>?_;rcases h1 with⟨rfl,h1⟩|⟨hne,h1⟩
  ·exact⟨m,Nat.lt_succ_self m,st',I',θ',h1,h2⟩
  ·cases e with
   | normal=>exact(hne rfl).elim
   | _=>exact⟨st',I',θ',h1,h2⟩
end
inductive vU where
 | nx (y:Code)
 | bl (id:Nat)
 | ag (c:Code) (n:Nat)
inductive Sa where
 | run (c:Code) (fs:List vU)
 | out (e:Exit) (fs:List vU)
def vR(P:Program)(Γ:Ip)(K:Exit->St->Prop):List vU->Exit->St->Prop
 | []=>K
 | .nx y::fs=>zU P Γ y (vR P Γ K fs)
 | .bl id::fs=>NP id (vR P Γ K fs)
 | .ag c n::fs=>λe st=>(e = .normal/\SD P Γ c (vR P Γ K fs) n st)\/(e≠.normal/\vR P Γ K fs e st)
def GG(P:Program)(Γ:Ip)(K:Exit->St->Prop):Sa->St->Prop
 | .run c fs,st=>DO P Γ c (vR P Γ K fs) st
 | .out e fs,st=>vR P Γ K fs e st
def EZ:Code->Nat->Nat
 | .exit i,k=>bif Nat.beq i k then 1 else 0
 | .seq a b,k=>Nat.min 2 (EZ a k+EZ b k)
 | .cond _ a b,k=>Nat.min 2 (EZ a k+EZ b k)
 | .loop c,k=>Nat.min 1 (EZ c k)
 | .scope c,k=>Nat.min 1 (EZ c k)
 | .block _ c,k=>EZ c k
 | _,_=>0
def Wf:Code->Nat
 | .region _ _ _=>1
 | .skip=>1
 | .label _=>1
 | .seq a b=>bif Nat.beq (Wf a) 0 then 0 else Wf b
 | .cond _ a b=>Nat.min 2 (Wf a+Wf b)
 | .block i c=>Nat.min 2 (Wf c+EZ c i)
 | .scope c=>Nat.min 2 (Wf c)
 | _=>0
def sg(a:Code):Bool:=match a with | .region _ _ _=>false|a=>Nat.ble 2 (Wf a)
def VD:Nat->Code ⊕ Exit->List vU->Sa
 | 0,.inl c,fs=>.run c fs
 | 0,.inr e,fs=>.out e fs
 | n+1,.inl c,fs=>
  match c with
  | .skip=>VD n (.inr .normal) fs
  | .label _=>VD n (.inr .normal) fs
  | .seq a b=>bif sg a then .run (.seq a b) fs else VD n (.inl a) (.nx b::fs)
  | .block id a=>VD n (.inl a) (.bl id::fs)
  | .exit id=>VD n (.inr (.exit id)) fs
  | .goto l=>VD n (.inr (.goto l)) fs
  | .ret=>VD n (.inr .ret) fs
  | c=>.run c fs
 | n+1,.inr e,fs=>
  match fs with
  | []=>.out e []
  | .nx y::fs=>(match e with | .normal=>VD n (.inl y) fs|e=>VD n (.inr e) fs)
  | .bl id::fs=>(match e with | .exit i=>bif Nat.beq i id then VD n (.inr .normal) fs else VD n (.inr (.exit i)) fs|e=>VD n (.inr e) fs)
  | .ag c m::fs=>(match e with | .normal=>(match m with|0=>.out .normal (.ag c 0::fs)|m+1=>VD n (.inl c) (.ag c m::fs))|e=>VD n (.inr e) fs)
section
variable {P:Program} {Γ:Ip} {K:Exit->St->Prop}
theorem Cg:∀(n:Nat) (x:Code ⊕ Exit) (fs:List vU) (st:St),GG P Γ K (VD n x fs) st->(match x with | .inl c=>DO P Γ c (vR P Γ K fs) st | .inr e=>vR P Γ K fs e st)
 | 0,.inl c,fs,st,h=>h
 | 0,.inr e,fs,st,h=>h
 | n+1,.inl c,fs,st,h=>by
  cases c with
  | skip=>exact rg (Cg n _ fs st h)
  | label l=>exact od (Cg n _ fs st h)
  | seq a b=>
   cases hj:sg a with
   | true=>simp only[VD,hj]at h;exact h
   | false=>simp only[VD,hj]at h;exact mP (Cg n (.inl a) _ st h)
  | block id a=>exact oc (Cg n (.inl a) _ st h)
  | exit id=>exact rX (Cg n _ fs st h)
  | goto l=>exact rY (Cg n _ fs st h)
  | ret=>exact wy (Cg n (.inr .ret) fs st h)
  | _=>exact h
 | n+1,.inr e,[],st,h=>h
 | n+1,.inr e,.nx y::fs,st,h=>by
  cases e with
  | normal=>exact Cg n (.inl y) fs st h
  | exit i=>exact Cg n _ fs st h
  | goto l=>exact Cg n _ fs st h
  | ret=>exact Cg n (.inr .ret) fs st h
  | panic c=>exact Cg n _ fs st h
  | outgrown=>exact Cg n _ fs st h
 | n+1,.inr e,.bl id::fs,st,h=>by
  cases e with
  | normal=>exact Cg n _ fs st h
  | exit i=>
   cases hb:Nat.beq i id with
   | true=>
    obtain rfl:=Ez hb;simp only[VD,hb]at h;exact js (Cg n _ fs st h)
   | false=>
    simp only[VD,hb]at h;exact jr hb (Cg n _ fs st h)
  | goto l=>exact Cg n _ fs st h
  | ret=>exact Cg n (.inr .ret) fs st h
  | panic c=>exact Cg n _ fs st h
  | outgrown=>exact Cg n _ fs st h
 | n+1,.inr e,.ag c m::fs,st,h=>by
  cases e with
  | normal=>
   cases m with
   | zero=>exact h
   | succ m=>exact .inl ⟨rfl,Cg n (.inl c) _ st h⟩
  | exit i=>exact .inr ⟨(by intro hh;cases hh),Cg n _ fs st h⟩
  | goto l=>exact .inr ⟨(by intro hh;cases hh),Cg n _ fs st h⟩
  | ret=>exact .inr ⟨(by intro hh;cases hh),Cg n (.inr .ret) fs st h⟩
  | panic ch=>exact .inr ⟨(by intro hh;cases hh),Cg n _ fs st h⟩
  | outgrown=>exact .inr ⟨(by intro hh;cases hh),Cg n _ fs st h⟩
theorem M3{fs:List vU}(h:GG P Γ K (VD n (.inl c) fs) st):DO P Γ c (vR P Γ K fs) st:=Cg n _ fs st h
theorem FN{fs:List vU}(h:GG P Γ K (VD n (.inr e) fs) st):vR P Γ K fs e st:=Cg n _ fs st h
def zI(c:Code)(fs:List vU):Sa:=VD 400 (.inl c) fs
def exC(e:Exit)(fs:List vU):Sa:=VD 400 (.inr e) fs
def xx:Sa->Sa
 | .run _ fs=>exC .normal fs
 | x=>x
def yH:Sa->Option (List Oper×Bool)
 | .run (.region _ ops ah5) _=>some (ops.toList,ah5)
 | _=>none
def vP(P:Program)(S:LG)(n:Nat)(cs:List (Nat×AV))(ab2 ac:List Nat)(x:Sa)(st:St)(rs:List Xf):Option (St×List Prop×Bool):=
 match yH x with
 | some (ops,ah5)=>SI P S n cs ab2 ac ops ah5 st rs
 | none=>none
def xy(P:Program)(S:LG)(n:Nat)(cs:List (Nat×AV))(ab2 ac:List Nat)(x:Sa)(st:St)(rs:List Xf):St:=
 match vP P S n cs ab2 ac x st rs with
 | some r=>r.1
 | none=>st
def vS(r:Option (St×List Prop×Bool)):Option (Prop×Bool):=
 match r with
 | some r=>some (fu r.2.1,r.2.2)
 | none=>none
theorem gR{x:Sa}(q:RgQ P Γ n H)(ab2 ac:List Nat)(cs:List (Nat×AV))(rs:List Xf)(hO:O)
  (k:GG P Γ K (xx x) (xy P (Spec P) n cs ab2 ac x st rs))
  (h:vS (vP P (Spec P) n cs ab2 ac x st rs)=some (O,true):=by kernel_rfl) (hh:(H.all λx=>Ce x.1 ac)=true:=by kernel_rfl):GG P Γ K x st:=by
 unfold vP at h;unfold xy vP at k
 cases x with
 | out e fs=>simp[yH,vS]at h
 | run c fs=>
  cases c with
  | region id ops ah5=>
   simp only[yH]at h k
   cases hr:SI P _ n cs _ _ _ _ st rs with
   | none=>rw[hr]at h;simp[vS]at h
   | some r=>
    obtain⟨st',obs,d⟩:=r;rw[hr]at h k;obtain⟨rfl,rfl⟩:=h;have:=jo (id:=id)  q.hn q.mix (q.hand hh) hr hO (FN k);exact(by simpa using this:DO P Γ _ _ st)
  | _=>simp[yH,vS]at h
theorem Af{x:Sa}(q:RgQ P Γ n H)(ab2 ac:List Nat)
  (k:GG P Γ K (xx x) (xy P (Spec P) n [] ab2 ac x st []))
  (h:vS (vP P (Spec P) n [] ab2 ac x st [])=some (True,true):=by kernel_rfl) (hh:(H.all λx=>Ce x.1 ac)=true:=by kernel_rfl):GG P Γ K x st:=gR q _ _ [] [] trivial k h hh
def zK:Sa->Bool | .run _ _=>true|_=>false
theorem Na{x:Sa}(h:Le Γ st st')
  (k:GG P Γ K x st')
  (hx:zK x=true:=by kernel_rfl):GG P Γ K x st:=by
 cases x with
 | run c fs=>exact jn h k
 | out e fs=>cases hx
theorem Qu{x:Sa}(st':St)
  (k:GG P Γ K x st')
  (h:st=st':=by kernel_rfl):GG P Γ K x st:=h▸k
def sJ(x:Sa)(st:St):AV:=match x with | .run (.cond c _ _) _=>f5 st.get c|_=>.any
def brC(b:Bool):Sa->Sa
 | .run (.cond _ c d) fs=>zI (bif b then c else d) fs
 | x=>x
theorem gC{x:Sa}{R:Type}{b:Bool}{m1 m2:Option R}{r:R}(h:(bif b then m1 else m2)=some r)
  (kt:m1=some r->GG P Γ K (brC true x) st) (kf:m2=some r->GG P Γ K (brC false x) st)
  (hv:sJ x st = .bool b:=by kernel_rfl):GG P Γ K x st:=by
 cases x with
 | out e fs=>cases hv
 | run c fs=>
  cases c with
  | cond c y z=>
   refine fe b hv (λhb=>M3  (kt ?_)) (λhb=>M3  (kf ?_))
   ·subst hb;exact h
   ·subst hb;exact h
  | _=>cases hv
theorem fB{x:Sa}(b:Bool)
  (k:GG P Γ K (brC b x) st)
  (hv:sJ x st = .bool b:=by kernel_rfl):GG P Γ K x st:=by
 cases x with
 | out e fs=>cases hv
 | run c fs=>
  cases c with
  | cond c y z=>
   refine fe b hv (λhb=>M3 (n:=400) ?_) (λhb=>M3 (n:=400) ?_)
   ·subst hb;exact k
   ·subst hb;exact k
  | _=>cases hv
theorem Aee{x:Sa}(pos:Bool)(n:Nat)
  (kt:(pos=true->n=0)->GG P Γ K (brC true x) st) (kf:(pos=false->n=0)->GG P Γ K (brC false x) st)
  (hv:sJ x st = .nilq pos n:=by kernel_rfl):GG P Γ K x st:=by
 cases x with
 | out e fs=>cases hv
 | run c fs=>
  cases c with
  | cond c y z=>exact rf pos n hv (λhb=>M3  (kt hb)) (λhb=>M3  (kf hb))
  | _=>cases hv
theorem lt1{P:Nat->Prop}(h0:P 0)(i:Nat)(h:i<1):P i:=by
 grind
theorem gK{x:Sa}(h:K e st)(hx:x = .out e []:=by kernel_rfl):GG P Γ K x st:=by subst hx;exact h
def aG(Γ:Ip)(e0:Exit)(og:St):Exit->St->Prop:=λe st=>e=e0/\Le Γ st og
def aR(K:Exit->St->Prop):Exit->St->Prop:=λe st=>e = .ret/\K e st
theorem A7(h:Le Γ st og):aG Γ e0 og e0 st:=⟨rfl,h⟩
theorem M8(h:K .ret st):aR K .ret st:=⟨rfl,h⟩
def isN:Exit->Bool | .normal=>true|_=>false
theorem gN{x:Sa}{H:S->St}{KX:X->Exit->St->Prop}{s':S}(h:Le Γ st (H s'))(hx:x = .out .normal []:=by kernel_rfl):GG P Γ (KG Γ H KX (.next s')) x st:=by
 subst hx;exact⟨rfl,h⟩
theorem gO{x:Sa}{H:S->St}{KX:X->Exit->St->Prop}{y:X}(h:KX y e st)(hx:x = .out e []:=by kernel_rfl)(hn:isN e=false:=by kernel_rfl):GG P Γ (KG Γ H KX (.done y)) x st:=by
 subst hx;exact⟨(by rintro rfl;cases hn),h⟩
def fK(P:Program)(Γ:Ip)(rs:List ResultVar)(H:List (Nat×Own))(res:AV)(H':List (Nat×Own)):Exit->St->Prop:=clK Γ (Ae2 P rs H res H')
theorem Iq(ρ:List (Nat×Nat))(hl:Le Γ st st')(hr:nO P rs ρ H st'=some (res,H'):=by kernel_rfl)
  (he:(match e with | .ret=>true | .normal=>true|_=>false)=true:=by kernel_rfl):fK P Γ rs H res H' e st:=by
 refine⟨st',hl,?_,ρ,hr⟩
 cases e with
 | ret=>exact .inl rfl
 | normal=>exact .inr rfl
 | _=>cases he
theorem Bx{x:Sa}(ρ:List (Nat×Nat))(hr:nO P rs ρ H st=some (res,H'):=by kernel_rfl)
  (hx:x = .out .ret []:=by kernel_rfl):GG P Γ (fK P Γ rs H res H') x st:=gK  (Iq ρ (Le.refl _ _) hr) hx
def dB(fn:Func):Code:=match fn.body with|some c=>c|none=>.skip
theorem OV {f : FuncId} {fn : Func} {args : List AV} {H H' : List (Nat × Own)} {res : AV} (hm : P.follows .mixedOrders = true) (hf : P.funcs[f]? = some fn)
    (k : ∀ Γ : Ip, RgQ P Γ fn.ntmps H → GG P Γ (fK P Γ fn.results.toList H res H') (zI (dB fn) []) (NW args H))
    (hb : fn.body.isSome = true := by kernel_rfl) (hname : (fn.name == "runtime.NumGoroutine") = false := by kernel_rfl) (IT : Nat.ble args.length fn.ntmps = true := by kernel_rfl) (hpl : VS H = true := by kernel_rfl) : Spec P f args H res H' := by
  obtain ⟨c, hc⟩ := zzL92.1 hb
  have e : dB fn = c := by unfold dB; rw [hc]
  refine iZ hf hc hname IT (fun Γ hn hΓ => ?_) hpl; have := k Γ ⟨hn, hm, hΓ⟩; rw [e] at this; exact Aa3 (M3 this)
theorem kK(h:st=st'):Le Γ st st':=h▸Le.refl Γ st
def dM:Sa->Bool | .run (.loop _) _=>true|_=>false
def rp:Sa->Sa
 | .run (.loop c) _=>zI c []
 | x=>x
def yJ(e:Exit):Sa->Sa
 | .run _ fs=>exC e fs
 | x=>x
def Aex{α:Type}(k:Nat)(x:α):List (Nat×α)->List (Nat×α)
 | []=>[(k,x)]
 | (k',y)::l=>bif Nat.beq k k' then(k,x)::l else bif Nat.blt k k' then(k,x)::(k',y)::l else(k',y)::Aex k x l
def yL{α:Type}:List (Nat×α)->List (Nat×α)->List (Nat×α)
 | [],l=>l
 | (k,x)::r,l=>yL r (Aex k x l)
def Cv(st:St)(ts:List (Nat×AV))(os:List (Nat×Own))(fs:List (Nat×qE):=[]):St:=⟨yL ts st.tmps,yL os st.own,yL fs st.fam⟩
def N6(ab2 ac:List Nat)(st:St)(ts:List (Nat×AV))(os:List (Nat×Own))(fs:List (Nat×qE):=[]):St:=H7 ab2 ac (Cv st ts os fs)
theorem gL{x:Sa}(q:RgQ P Γ n Hf){f:S->Option (LR S X)}{s0:S}{y:X}(hx:Ae f s0=some y)(ab2 ac:List Nat)(H:St->S->St)(KX:St->X->Exit->St->Prop)
  (kb:∀ s y,f s=some y->GG P Γ (KG Γ (H (H7 ab2 ac st)) (KX (H7 ab2 ac st)) y) (rp x) (H (H7 ab2 ac st) s)) (ko:∀ e st',KX (H7 ab2 ac st) y e st'->GG P Γ K (yJ e x) st')
  (h0:H7 ab2 ac st=H (H7 ab2 ac st) s0:=by kernel_rfl) (hl:dM x=true:=by kernel_rfl) (hh:(Hf.all λx=>Ce x.1 ac)=true:=by kernel_rfl):GG P Γ K x st:=by
 cases x with
 | out e fs=>cases hl
 | run c fs=>
  cases c with
  | loop c=>
   refine jn  ?_ (ff _ f _ (λs y hy=>M3 (kb s y hy)) hx λe st' hk=>FN (ko e st' hk));rw[<- h0];exact A9 _ _ q rfl hh
  | _=>cases hl
theorem gL0{x:Sa}{f:S->Option (LR S X)}{s0:S}{y:X}(hx:Ae f s0=some y)(H:St->S->St)(KX:St->X->Exit->St->Prop)
  (kb:∀ s y,f s=some y->GG P Γ (KG Γ (H st) (KX st) y) (rp x) (H st s)) (ko:∀ e st',KX st y e st'->GG P Γ K (yJ e x) st')
  (h0:st=H st s0:=by kernel_rfl) (hl:dM x=true:=by kernel_rfl):GG P Γ K x st:=by
 cases x with
 | out e fs=>cases hl
 | run c fs=>
  cases c with
  | loop c=>exact jn (kK h0) (ff _ f _ (λs y hy=>M3 (kb s y hy)) hx λe st' hk=>FN (ko e st' hk))
  | _=>cases hl
theorem gA{x:Sa}{f:Exit->Sa->Sa}
  (k:GG P Γ K (f e0 x) og)
  (hr:zK (f e0 x)=true:=by kernel_rfl):∀ e st',aG Γ e0 og e st'->GG P Γ K (f e x) st':=by
 rintro e st' ⟨rfl,hl⟩;exact Na hl k hr
theorem pD{x:Sa}{f:Exit->Sa->Sa}(k:∀ st',Le Γ st' og->GG P Γ K (f e0 x) st'):∀ e st',aG Γ e0 og e st'->GG P Γ K (f e x) st':=by
 rintro e st' ⟨rfl,hl⟩;exact k st' hl
theorem gAr{x:Sa}{f:Exit->Sa->Sa}{K':Exit->St->Prop}(k:∀ st',K' .ret st'->GG P Γ K (f .ret x) st'):∀ e st',aR K' e st'->GG P Γ K (f e x) st':=by
 rintro e st' ⟨rfl,hl⟩;exact k st' hl
theorem gU{x:Sa}(n:Nat)
  (k:GG P Γ K (match x with | .run (.loop c) fs=>zI c (.ag c n::fs)|x=>x) st)
  (hl:dM x=true:=by kernel_rfl):GG P Γ K x st:=by
 cases x with
 | out e fs=>cases hl
 | run c fs=>
  cases c with
  | loop c=>exact jp (n+1) (M3 k)
  | _=>cases hl
def Aei:Sa->Bool | .run (.seq _ _) _=>true|_=>false
def Aeg:Sa->Sa
 | .run (.seq a _) _=>zI a []
 | x=>x
def Ae1(e:Exit):Sa->Sa
 | .run (.seq _ b) fs=>exC e (.nx b::fs)
 | x=>x
theorem gJ{x:Sa}{m:Option X}{y:X}(hx:m=some y)(KX:X->Exit->St->Prop)
  (kb:∀ y,m=some y->GG P Γ (KX y) (Aeg x) st) (ko:∀ e st',KX y e st'->GG P Γ K (Ae1 e x) st')
  (hs:Aei x=true:=by kernel_rfl):GG P Γ K x st:=by
 cases x with
 | out e fs=>cases hs
 | run c fs=>
  cases c with
  | seq a b=>exact mP (rZ KX hx (λy hy=>M3 (kb y hy)) λe st' hk=>FN (ko e st' hk))
  | _=>cases hs
def xX:Sa->Bool | .run (.scope _) _=>true|_=>false
def scB:Sa->Code | .run (.scope c) _=>c|_=>.skip
def Aej(c:Code)(l:Nat):Sa:=zI ((findLabel c l).getD .skip) []
theorem gS{x:Sa}{f0:Option (LR S X)}{f:S->Option (LR S X)}{y:X}(hx:U8 f0 f=some y)(lab:S->Nat)(H:S->St)(KX:X->Exit->St->Prop)
  (k0:∀ y,f0=some y->GG P Γ (UI Γ (scB x) lab H KX y) (zI (scB x) []) st) (kb:∀ s y,f s=some y->GG P Γ (UI Γ (scB x) lab H KX y) (Aej (scB x) (lab s)) (H s)) (ko:∀ e st',KX y e st'->GG P Γ K (yJ e x) st')
  (hs:xX x=true:=by kernel_rfl):GG P Γ K x st:=by
 cases x with
 | out e fs=>cases hs
 | run c fs=>
  cases c with
  | scope c=>
   refine oe lab H f0 f KX (λy hy=>M3 (k0 y hy)) (λs y rest hf hy=>?_) hx λe st' hk=>FN (ko e st' hk);have:=kb s y hy;unfold Aej scB at this;rw[hf]at this;exact M3 this
  | _=>cases hs
theorem sV{x:Sa}{lab:S->Nat}{H:S->St}{KX:X->Exit->St->Prop}{s':S}(h:Le Γ st (H s'))(hx:x = .out (.goto (lab s')) []:=by kernel_rfl)(hf:(findLabel c (lab s')).isSome=true:=by kernel_rfl) :
  GG P Γ (UI Γ c lab H KX (.next s')) x st:=by
 subst hx;exact⟨rfl,hf,h⟩
theorem qJ{x:Sa}{lab:S->Nat}{H:S->St}{KX:X->Exit->St->Prop}{y:X}(h:KX y e st)(hx:x = .out e []:=by kernel_rfl)
  (hf:(match e with | .goto l=>(findLabel c l).isNone|_=>true)=true:=by kernel_rfl):GG P Γ (UI Γ c lab H KX (.done y)) x st:=by
 subst hx;refine⟨?_,h⟩;rintro l rfl
 simpa using hf
theorem Xc(U:α->St->St){a b:α}(h:a=b)(h1:st=U a st:=by kernel_rfl):Le Γ st (U b st):=by subst h;exact kK h1
theorem leB(F F':Bool->St->St)(g:Bool)(h1:st=F g st:=by kernel_rfl)(ht:F true st=F' true st:=by kernel_rfl)(hf:F false st=F' false st:=by kernel_rfl):Le Γ st (F' g st):=by
 refine kK (h1.trans ?_)
 cases g<;>assumption
def Own.withF(g:Nat->List AV):Own->Own
 | .arr sz e n _=>.arr sz e n g
 | o=>o
def zD(st:St)(nm:Nat):Option (Nat×(Nat->List AV)):=match Aj st.own nm with|some (.arr _ _ n f)=>some (n,f)|_=>none
def Ae5(nm:Nat)(g:Nat->List AV)(st:St):St:=⟨st.tmps,(match Aj st.own nm with|some o=>E1 st.own nm (o.withF g)|none=>st.own),st.fam⟩
theorem VO{nm sz n:Nat}{e:TypeId}{f g:Nat->List AV}(hp:∀ k,k<n->AVleL (f k) (g k)):∀{l:List (Nat×Own)},Aj l nm=some (.arr sz e n f)->OwnsLe l (E1 l nm (.arr sz e n g))
 | [],h=>by cases h
 | (k,o)::l,h=>by
  simp only[Aj]at h;simp only[E1]
  cases hb:Nat.beq k nm with
  | true=>
   obtain rfl:=Ez hb;rw[hb]at h;simp only[Ah,Ax]at h;subst h;exact .arr hp (.refl _)
  | false=>
   rw[hb]at h;exact .same (VO hp h)
theorem Xb(nm:Nat)(hp:∀ k,k<n->AVleL (f k) (g k))(h:zD st nm=some (n,f):=by kernel_rfl):Le Γ st (Ae5 nm g st):=by
 unfold zD at h;unfold Ae5
 cases ho:Aj _ nm with
 | none=>rw[ho]at h;cases h
 | some o=>
  rw[ho]at h
  cases o with
  | arr sz e n' f'=>
   obtain⟨rfl,rfl⟩:=h;exact Fb (TmpsLe.refl _) (VO hp ho)
  | _=>cases h
def sF(st:St)(nm j:Nat):Option AV:=match Aj st.own nm with|some (.row _ cells)=>cells[j]? | _=>none
def Own.withC(j:Nat)(x:AV):Own->Own
 | .row e cells=>.row e (cells.set j x)
 | o=>o
def Ae4(nm j:Nat)(x:AV)(st:St):St:=⟨st.tmps,(match Aj st.own nm with|some o=>E1 st.own nm (o.withC j x)|none=>st.own),st.fam⟩
theorem mp{a b:AV}(h:AVle a b):∀{l:List AV} {j:Nat},l[j]?=some a->AVleL l (l.set j b)
 | [],j,h=>by simp at h
 | x::l,0,h'=>by
  simp only[List.getElem?_cons_zero,Ax]at h';subst h';exact .cons h (.refl _)
 | x::l,j+1,h'=>by
  exact .cons (.refl _) (mp h h')
theorem VP{nm:Nat}{e:TypeId}{x y:List AV}(hp:AVleL x y):∀{l:List (Nat×Own)},Aj l nm=some (.row e x)->OwnsLe l (E1 l nm (.row e y))
 | [],h=>by cases h
 | (k,o)::l,h=>by
  simp only[Aj]at h;simp only[E1]
  cases hb:Nat.beq k nm with
  | true=>
   obtain rfl:=Ez hb;rw[hb]at h;simp only[Ah,Ax]at h;subst h;exact .row hp (.refl _)
  | false=>
   rw[hb]at h;exact .same (VP hp h)
theorem xc(nm j:Nat){a b:AV}(hp:AVle a b)(h:sF st nm j=some a:=by kernel_rfl):Le Γ st (Ae4 nm j b st):=by
 unfold sF at h;unfold Ae4
 cases ho:Aj _ nm with
 | none=>rw[ho]at h;cases h
 | some o=>
  rw[ho]at h
  cases o with
  | row e cells=>exact Fb (TmpsLe.refl _) (VP (mp hp h) ho)
  | _=>cases h
theorem gI(g:Bool):g=true->g=true:=id
theorem Nh(c:Bool):c=true->(c==true)=true:=gT
theorem Jr(c:Bool):c=false->(c==false)=true:=gF
theorem Au(sz:Nat)(e:α->List AV)(d:α)(l:List α):AVle (.slice sz l.length (λi=>(l.map e).getD i []) .exact) (AV.list sz e d l .exact):=dA rfl λi h=>xn l i h
theorem Bp(sz:Nat)(e:α->List AV)(d:α):AVle (.slice 0 0 (λ_=>[]) .exact) (AV.list sz e d [] .exact):=Cw
theorem Cm(sz nm:Nat)(e:α->List AV)(d:α)(l m:List α):AVle (.slice sz (l.length+m.length) (Qi l.length (λi=>e (l.getD i d)) (λi=>e (m.getD i d))) (.own nm)) (AV.list sz e d (l++m) (.own nm)):=Aa2
theorem Gy(h:st=st':=by kernel_rfl):Le Γ st st':=h▸Le.refl Γ st
theorem ci{q:Prop}(a:p)(b:q):p/\q:=⟨a,b⟩
theorem c1(a:p):p/\True:=⟨a,trivial⟩
end
section
variable {P:Program} {Γ:Ip} {K:Exit->St->Prop}
theorem tB{m:Option α}{f:α->Option β}{r:β}(h:m.bind f=some r)(k:∀ x,m=some x->f x=some r->G):G:=have⟨x,hx,h⟩:=bind_some h;k x hx h
theorem tC{c:Prop}[Decidable c]{m:Option β}{r:β}(h:Ay c m=some r)(k:c->m=some r->G):G:=k (Ul h).1 (Ul h).2
theorem zt9{c d:Prop}[Decidable c][Decidable d]{m:Option β}{r:β}(h:Ay c (Ay d m)=some r)(k:c->d->m=some r->G):G:=tC h λa h=>tC h λb h=>k a b h
@[elab_as_elim] theorem tS{a:α}{M:α->Prop}{b:α}(h:some a=some b)(k:M a):M b:=OI h▸k
theorem tV{x:Sa}(q:RgQ P Γ n H)(ab2 ac:List Nat){c:Prop}[Decidable c]{m:Option β}{r:β}(h:Ay c m=some r)
  (k:m=some r->GG P Γ K (xx x) (xy P (Spec P) n [] ab2 ac x st []))
  (h1:vS (vP P (Spec P) n [] ab2 ac x st [])=some (c/\True,true):=by kernel_rfl) (hh:(H.all λx=>Ce x.1 ac)=true:=by kernel_rfl):GG P Γ K x st:=gR q ab2 ac [] [] (c1 (Ul h).1) (k (Ul h).2) h1 hh
theorem tN{x:Sa}{H:S->St}{KX:X->Exit->St->Prop}{s':S}{y:LR S X}(h:some (.next s')=some y)(h1:st=H s':=by kernel_rfl)(hx:x = .out .normal []:=by kernel_rfl):GG P Γ (KG Γ H KX y) x st:=OI h▸gN (Gy h1) hx
theorem tL{x:Sa}(q:RgQ P Γ n Hf){f:S->Option (LR S X)}{s0:S}{g:X->Option α}{r:α}(h:(Ae f s0).bind g=some r)(ab2 ac:List Nat)(H:St->S->St)(KX:St->X->Exit->St->Prop)
  (kb:∀ s y,f s=some y->GG P Γ (KG Γ (H (H7 ab2 ac st)) (KX (H7 ab2 ac st)) y) (rp x) (H (H7 ab2 ac st) s)) (ko:∀ y,g y=some r->∀ e st',KX (H7 ab2 ac st) y e st'->GG P Γ K (yJ e x) st')
  (h0:H7 ab2 ac st=H (H7 ab2 ac st) s0:=by kernel_rfl) (hl:dM x=true:=by kernel_rfl) (hh:(Hf.all λx=>Ce x.1 ac)=true:=by kernel_rfl):GG P Γ K x st:=tB h λy hy h=>gL q hy ab2 ac H KX kb (ko y h) h0 hl hh
theorem tU{x:Sa}(q:RgQ P Γ n H)(ab2 ac:List Nat)(hO:O)
  (k:GG P Γ K (xx x) (xy P (Spec P) n [] ab2 ac x st []))
  (h:vS (vP P (Spec P) n [] ab2 ac x st [])=some (O,true):=by kernel_rfl) (hh:(H.all λx=>Ce x.1 ac)=true:=by kernel_rfl):GG P Γ K x st:=gR q ab2 ac [] [] hO k h hh
theorem tT{x:Sa}(q:RgQ P Γ n H)(ab2 ac:List Nat)(rs:List Xf)(hO:O)
  (k:GG P Γ K (xx x) (xy P (Spec P) n [] ab2 ac x st rs))
  (h:vS (vP P (Spec P) n [] ab2 ac x st rs)=some (O,true):=by kernel_rfl) (hh:(H.all λx=>Ce x.1 ac)=true:=by kernel_rfl):GG P Γ K x st:=gR q ab2 ac [] rs hO k h hh
theorem tW{x:Sa}(q:RgQ P Γ n H)(ab2 ac ak8 ai2:List Nat)
  (k:GG P Γ K (xx (xx x)) (xy P (Spec P) n [] ak8 ai2 (xx x) (xy P (Spec P) n [] ab2 ac x st []) []))
  (h:vS (vP P (Spec P) n [] ab2 ac x st [])=some (True,true):=by kernel_rfl) (hh:(H.all λx=>Ce x.1 ac)=true:=by kernel_rfl)
  (h2:vS (vP P (Spec P) n [] ak8 ai2 (xx x) (xy P (Spec P) n [] ab2 ac x st []) [])=some (True,true):=by kernel_rfl) (hh2:(H.all λx=>Ce x.1 ai2)=true:=by kernel_rfl):GG P Γ K x st:=Af q ab2 ac (Af q ak8 ai2 k h2 hh2) h hh
end
def cjO:List Own->Prop->Prop
 | [],p=>p
 | o::l,p=>some o=some o/\cjO l p
theorem rkc:∀(l:List Own) {p:Prop},p->cjO l p
 | [],_,h=>h
 | _::l,_,h=>⟨rfl,rkc l h⟩
theorem rkl(l:List Own):cjO l True:=rkc l trivial
theorem Kj(g:Bool)(r:R):(g=true->g=true)/\((g=true->g=true)/\(R)):=⟨id,⟨id,r⟩⟩
theorem Sn(g:Bool)(r:R):(g=true->g=true)/\((g=true->g=true)/\((g=true->g=true)/\(R))):=⟨id,⟨id,⟨id,r⟩⟩⟩
theorem bW(g:Bool)(r:R):(g=true->g=true)/\((g=true->g=true)/\((g=true->g=true)/\((g=true->g=true)/\(R)))):=⟨id,⟨id,⟨id,⟨id,r⟩⟩⟩⟩
theorem gI5(g:Bool)(r:R):(g=true->g=true)/\((g=true->g=true)/\((g=true->g=true)/\((g=true->g=true)/\((g=true->g=true)/\(R))))):=⟨id,⟨id,⟨id,⟨id,⟨id,r⟩⟩⟩⟩⟩
theorem gI6(g:Bool)(r:R):(g=true->g=true)/\((g=true->g=true)/\((g=true->g=true)/\((g=true->g=true)/\((g=true->g=true)/\((g=true->g=true)/\(R)))))):=⟨id,⟨id,⟨id,⟨id,⟨id,⟨id,r⟩⟩⟩⟩⟩⟩
theorem gI7(g:Bool)(r:R):(g=true->g=true)/\((g=true->g=true)/\((g=true->g=true)/\((g=true->g=true)/\((g=true->g=true)/\((g=true->g=true)/\((g=true->g=true)/\(R))))))):=⟨id,⟨id,⟨id,⟨id,⟨id,⟨id,⟨id,r⟩⟩⟩⟩⟩⟩⟩
theorem gI8(g:Bool)(r:R):(g=true->g=true)/\((g=true->g=true)/\((g=true->g=true)/\((g=true->g=true)/\((g=true->g=true)/\((g=true->g=true)/\((g=true->g=true)/\((g=true->g=true)/\(R)))))))):=⟨id,⟨id,⟨id,⟨id,⟨id,⟨id,⟨id,⟨id,r⟩⟩⟩⟩⟩⟩⟩⟩
theorem gI9(g:Bool)(r:R):(g=true->g=true)/\((g=true->g=true)/\((g=true->g=true)/\((g=true->g=true)/\((g=true->g=true)/\((g=true->g=true)/\((g=true->g=true)/\((g=true->g=true)/\((g=true->g=true)/\(R))))))))):=⟨id,⟨id,⟨id,⟨id,⟨id,⟨id,⟨id,⟨id,⟨id,r⟩⟩⟩⟩⟩⟩⟩⟩⟩
theorem bP(a0:p0)(a1:p1)(r:R):p0/\p1/\R:=⟨a0,a1,r⟩
theorem c2(a0:p0)(a1:p1):p0/\p1/\True:=⟨a0,a1,trivial⟩
theorem fA(a0:p0)(a1:p1)(a2:p2)(r:R):p0/\p1/\p2/\R:=⟨a0,a1,a2,r⟩
theorem c3(a0:p0)(a1:p1)(a2:p2):p0/\p1/\p2/\True:=⟨a0,a1,a2,trivial⟩
theorem d4_(a0:p0)(a1:p1)(a2:p2)(a3:p3)(r:R):p0/\p1/\p2/\p3/\R:=⟨a0,a1,a2,a3,r⟩
theorem c4(a0:p0)(a1:p1)(a2:p2)(a3:p3):p0/\p1/\p2/\p3/\True:=⟨a0,a1,a2,a3,trivial⟩
theorem d5_(a0:p0)(a1:p1)(a2:p2)(a3:p3)(a4:p4)(r:R):p0/\p1/\p2/\p3/\p4/\R:=⟨a0,a1,a2,a3,a4,r⟩
theorem c5(a0:p0)(a1:p1)(a2:p2)(a3:p3)(a4:p4):p0/\p1/\p2/\p3/\p4/\True:=⟨a0,a1,a2,a3,a4,trivial⟩
theorem c6(a0:p0)(a1:p1)(a2:p2)(a3:p3)(a4:p4)(a5:p5):p0/\p1/\p2/\p3/\p4/\p5/\True:=⟨a0,a1,a2,a3,a4,a5,trivial⟩
theorem c7(a0:p0)(a1:p1)(a2:p2)(a3:p3)(a4:p4)(a5:p5)(a6:p6):p0/\p1/\p2/\p3/\p4/\p5/\p6/\True:=⟨a0,a1,a2,a3,a4,a5,a6,trivial⟩
theorem d8_(a0:p0)(a1:p1)(a2:p2)(a3:p3)(a4:p4)(a5:p5)(a6:p6)(a7:p7)(r:R):p0/\p1/\p2/\p3/\p4/\p5/\p6/\p7/\R:=⟨a0,a1,a2,a3,a4,a5,a6,a7,r⟩
theorem c8(a0:p0)(a1:p1)(a2:p2)(a3:p3)(a4:p4)(a5:p5)(a6:p6)(a7:p7):p0/\p1/\p2/\p3/\p4/\p5/\p6/\p7/\True:=⟨a0,a1,a2,a3,a4,a5,a6,a7,trivial⟩
theorem d9_(a0:p0)(a1:p1)(a2:p2)(a3:p3)(a4:p4)(a5:p5)(a6:p6)(a7:p7)(a8:p8)(r:R):p0/\p1/\p2/\p3/\p4/\p5/\p6/\p7/\p8/\R:=⟨a0,a1,a2,a3,a4,a5,a6,a7,a8,r⟩
theorem c9(a0:p0)(a1:p1)(a2:p2)(a3:p3)(a4:p4)(a5:p5)(a6:p6)(a7:p7)(a8:p8):p0/\p1/\p2/\p3/\p4/\p5/\p6/\p7/\p8/\True:=⟨a0,a1,a2,a3,a4,a5,a6,a7,a8,trivial⟩
open Go.Shelf
def insRen:Go.Shelf.Ren:=⟨fun|21=>144|27=>161|28=>162|35=>185|39=>127|n=>n,fun|22=>22|n=>n,fun|n=>n⟩
theorem LX:Go.Proofs.Lays2.n21 Tryz.prog insRen:={
 mixed:=by kernel_rfl
 f21:=Tryz.func144.trans (Bw some (by kernel_rfl))
 f27:=Tryz.func161.trans (Bw some (by kernel_rfl))
 f28:=Tryz.func162.trans (Bw some (by kernel_rfl))
 f35:=Tryz.func185.trans (Bw some (by kernel_rfl))
 f39:=Tryz.func127.trans (Bw some (by kernel_rfl))
 t0:=Tryz.underlying0
 a0:=Tryz.isAgg0
 z0:=Tryz.sizeOf0
 v0:=Tryz.zeroValue0
 t3:=Tryz.underlying3
 a3:=Tryz.isAgg3
 z3:=Tryz.sizeOf3
 v3:=Tryz.zeroValue3
 t4:=Tryz.underlying4
 a4:=Tryz.isAgg4
 z4:=Tryz.sizeOf4
 v4:=Tryz.zeroValue4
 t22:=Tryz.underlying22
 a22:=Tryz.isAgg22
 z22:=Tryz.sizeOf22
 v22:=Tryz.zeroValue22
 i3:=by kernel_rfl }
def ZH(w:World)(g c:Nat):Prop:=∃ OF,w.heap[g]?=some (.cells OF 3 (0,0))/\OF.size=c
structure Lk(w w':World)(g:Nat):Prop where
 os:w'.os=w.os
 tape:w'.tape=w.tape
 output:w'.output=w.output
 drawn:w.drawn<=w'.drawn
 size:w.heap.size<=w'.heap.size
 other:∀ b,b<w.heap.size->b≠g->w'.heap[b]?=w.heap[b]?
 blk:∀ c,ZH w g c->ZH w' g c
theorem Lk.refl(w:World)(g:Nat):Lk w w g:=⟨rfl,rfl,rfl,zzL7 _,zzL7 _,λ_ _ _=>rfl,λ_ h=>h⟩
theorem Lk.trans{w'':World}{g:Nat}(h:Lk w w' g)(k:Lk w' w'' g):Lk w w'' g:=
 ⟨k.os.trans h.os,k.tape.trans h.tape,k.output.trans h.output,R0 h.drawn k.drawn,R0 h.size k.size,λb hb hn=>(k.other b (Nat.lt_of_lt_of_le hb h.size) hn).trans (h.other b hb hn),λc hc=>k.blk c (h.blk c hc)⟩
theorem HS(w:World)(g:Nat):Lk w w.drew g:=⟨rfl,rfl,rfl,Nat.le_succ _,zzL7 _,λ_ _ _=>rfl,λ_ h=>h⟩
variable {g c cap:Nat}{l zs:List Int}{W:World}
theorem xd(w:World)(g o:Nat)(v:Value):Lk w (w.setCell ⟨g,o,none⟩ v) g:=
 ⟨rfl,rfl,rfl,zzL7 _,by simp[World.setCell],λb _ hn=>Below.heap_setCell w _ v b hn,λc ⟨OF,h1,h2⟩=>⟨_,heap_setCell_same w g o OF 3 v h1,by simpa using h2⟩⟩
theorem Zc(g:Nat):∀(vs:List Value) (o:Nat) (w:World),Lk w (w.setCells g o vs) g
 | [],_,w=>.refl w g
 | v::r,o,w=>(xd w g o v).trans (Zc g r _ _)
theorem UR{ob:Obj}(hg:w.heap.size<=g):Lk w (w.alloc ob) g:=
 ⟨rfl,rfl,rfl,zzL7 _,by  simp,λb hb _=>by show(w.heap.push ob)[b]?=_;rw[Array.getElem?_push,if_neg (Nat.ne_of_lt hb)],λc ⟨OF,h1,_⟩=>by
  grind⟩
theorem NO(cs:Array Value):ZH (w.alloc (.cells cs 3)) w.heap.size cs.size:=⟨cs,JF w _,rfl⟩
theorem cy(vs:List Value)(Z:Array Value)(h:j<vs.length):(vs.toArray++Z)[j]?=vs[j]?:=by
 grind
theorem Vn(l:List Int)(h:j<l.length):(l.map (Value.int .i64))[j]?=some (.int .i64 (l.getD j 0)):=by simp[ h]
theorem TL(h:ZH w g c)(hj:j<c):(w.cell? ⟨g,j,none⟩).isSome=true:=by
 obtain⟨OF,h1,h2⟩:=h;rw[Ot _ _ _ OF 3 _ h1,Array.getElem?_eq_getElem (by omega)];rfl
theorem SK(h:ZH w g c)(j:Nat):w.frozen? ⟨g,j,none⟩=false:=by
 obtain⟨OF,h1,h2⟩:=h;simp[World.frozen?,h1]
theorem EX{o:Nat}{vs:List Value}(hB:ZH w g c)(ho:o+vs.length<=c)(j:Nat) :
  (w.setCells g o vs).cell? ⟨g,j,none⟩=if o<=j/\j<o+vs.length then vs[j-o]? else w.cell? ⟨g,j,none⟩:=by
 split
 ·obtain⟨i,rfl⟩:∃ i,j=o+i:=⟨j-o,by omega⟩;rw[World.cell?_setCells_in g vs o w (λi hi=>TL hB (by omega)) i _,Nat.add_sub_cancel_left,RF (by omega)]
 ·exact World.cell?_setCells_out g vs o w _ (λ_ _=>by grind)
def GL(l:List Int)(i:Int)(v:List Int):Option (List Int×List Int×List Int):=
 Ay (0<=i/\i<=l.length/\0<v.length/\l.length+v.length<=room) (some (l.take i.toNat++v++l.drop i.toNat,l.take i.toNat++v++l.drop i.toNat,v))
theorem mX{u:Value}(h:(l.map (Value.int .i64))[j]?=some u):j<l.length/\u = .int .i64 (l.getD j 0):=by
 grind
theorem iB(l:List Int):∀ v∈l.map (Value.int .i64),v.oneCell'=true:=by
 intro v hv;obtain⟨x,_,rfl⟩:=zzL16.1 hv
 rfl
section
variable {I:Nat->Nat->Prop} {own:Nat->Option Own} {θ:Nat->Option (Nat×Nat)} {w w':World}
theorem rowI_at(BY:Kh I own θ w)(hl:l.length=n)(ho:own nm=some (.arr 1 3 n f))(hf:∀ k,k<n->f k=[.int .i64 (l.getD k 0)])(h:Rep I own θ w v (.vsl nm n)) :
  (θ nm=none/\l=[]/\∃ a,v = .slice a 0 0)\/∃ g c,θ nm=some (g,c)/\v = .slice (some ⟨g,0,none⟩) n c/\n<=c/\c<=maxLen/\ZH w g c/\(∀ j,j<n->w.cell? ⟨g,j,none⟩=some (.int .i64 (l.getD j 0)))/\∀ j,¬ I g j:=by
 obtain⟨sz,e2,m,f2,ad,cap,rfl,ho2,hm,IN,Is,hn,hv⟩:=h.vsl_inv;rw[ho]at ho2;obtain⟨rfl,rfl,rfl,rfl⟩:=ho2;have hv:=hv rfl;obtain⟨k1,k2⟩:=BY.arr nm _ _ _ _ ho
 cases hθ:θ nm with
 | none=>
  grind
 | some gc=>
  obtain⟨g,c⟩:=gc;rw[hθ]at hv;obtain⟨rfl,rfl⟩:=hv;obtain⟨OF,q1,q2,q3,q4,q5,q6,q7⟩:=k2 g cap hθ;rw[Yo]at q4;refine .inr ⟨g,cap,rfl,rfl,q2,q3,⟨OF,q1,q4⟩,λj hj=>?_,q7⟩;obtain⟨_,q⟩:=q6 j 0 hj (by omega);rw[hf j hj,Yo,W5]at q;have q:=Rep.int_inv q;rw[Ot _ _ _ OF 3 _ q1,<- q];simp only[Vg];rw[Array.getElem?_eq_getElem (by omega)]
  rfl
theorem kF(BY:Kh I own θ w)(ab5:∀ b o,I b o->∃ u,w.cell? ⟨b,o,none⟩=some u)(ho:own nm=some (.arr 1 3 n f)){r:List Int}(hn:n<r.length)(hc:r.length<=c)(hm:c<=maxLen)
  (hlk:Lk w w' g) (ad4:ZH w' g c) (ab0:∀ j,j<r.length->w'.cell? ⟨g,j,none⟩=some (.int .i64 (r.getD j 0))) (hI:∀ j,¬ I g j) (hg:w.heap.size<=g\/∃ c',θ nm=some (g,c')) :
  ∃ v θ',Value.slice (some ⟨g,0,none⟩) r.length c=v/\Chg own θ I w (A5 own nm (.arr 1 3 r.length (λi=>[.int .i64 (r.getD i 0)]))) θ' I w'/\Rep I (A5 own nm (.arr 1 3 r.length (λi=>[.int .i64 (r.getD i 0)]))) θ' w' v (.vsl nm r.length):=by
 have hoth:∀ b o,I b o->w'.cell? _=w.cell? ⟨b,o,none⟩:=λb o hi=>by
  obtain⟨u,hu⟩:=ab5 b o hi;exact RG  (hlk.other b (Sh hu) (λe=>hI o (e▸hi)))
 have hk:=Pm     (f':=λi=>[.int _ (r.getD i 0)]) (t':=some _)  BY ab5 hoth (.inr ⟨n,f,ho,Nat.le_of_lt hn,λh=>by omega⟩)
  (λb hb hne=>hlk.other b hb (λe=>by
   grind)) hlk.os hlk.tape hlk.output hlk.size (λhh=>by cases hh)
  (λg' c' hh=>by
   obtain⟨rfl,rfl⟩:=Prod.mk.inj (OI hh);obtain⟨OF,h1,h2⟩:=ad4;refine⟨OF,h1,hc,hm,by rw[h2,Yo],λ_ _=>rfl,λi j hi hj=>?_,hI⟩
   obtain rfl:j=0:=by omega
   have:=ab0 i hi;rw[Ot _ _ _ OF 3 _ h1]at this;rw[Yo,W5,Vg,this]
   exact⟨rfl,λ_=>.val _ _ (.int _ _)⟩)
  (λg' c' hh=>by
   grind) hlk.drawn
 exact⟨_,_,rfl,hk,.vsl nm 1 3 _ (λi=>[.int .i64 (r.getD i 0)]) _ _ c (by simp only[A5,Nd]) (zzL7 _) hc hm (λhh=>by cases hh) (λ_=>by simp[thUp])⟩
end
set_option maxHeartbeats 1000000 in
theorem XD(l:List Int)(i:Int)(v:List Int)(r:List Int×List Int×List Int)(h:GL l i v=some r)(f:Nat->List AV)(hf:∀ k,k<v.length->f k=[.int .i64 (v.getD k 0)]) :
  Spec Tryz.prog 144 [.vsl 34000 l.length,.int .i64 i,.vsl 34002 v.length] [(34000,.arr 1 3 l.length (λi=>[.int .i64 (l.getD i 0)])),(34002,.arr 1 3 v.length f)] (.vsl 34000 r.2.1.length)
   [(34000,.arr 1 3 r.2.1.length (λi=>[.int .i64 (r.2.1.getD i 0)])),(34002,.arr 1 3 r.2.2.length (λi=>[.int .i64 (r.2.2.getD i 0)]))]:=by
 obtain⟨⟨hi0,hin,hm,ab1⟩,h⟩:=Ul h;obtain rfl:=OI h;unfold room at ab1;obtain⟨k,rfl⟩:=Int.eq_ofNat_of_zero_le hi0
 have hkn:k<=l.length:=by omega
 simp only[Dn];refine⟨enters_of Tryz.func144 (by kernel_rfl) rfl,λw I θ zs ae2 BY ab5 _=>?_⟩;obtain⟨zs⟩:=zs
 cases ae2 with|cons h1 t=>cases t with|cons h2 t=>cases t with|cons h3 t=>cases t with|nil=>
 obtain rfl:=Rep.int_inv h2;rcases rowI_at BY (l:=v) rfl rfl hf h3 with⟨_,h,_⟩|⟨vg,vc,hvθ,rfl,hvc,_,⟨vcur,hvh,ae5⟩,hvcell,hvI⟩
 ·rw[h]at hm;cases hm
 have hvs:∀(W:World),(∀ o,W.cell? ⟨vg,o,none⟩=w.cell? ⟨vg,o,none⟩)->∀ j u,(v.map (Value.int .i64))[j]?=some u->W.cell? ⟨vg,0+j,none⟩=some u:=λW hW j u hj=>by
  obtain⟨h1,rfl⟩:=mX hj;rw[Ke,hW,hvcell j h1]
 generalize hr:l.take k++v++l.drop k=r
 have hrl:r.length=l.length+v.length:=by rw[<- hr];simp;omega
 have hr1:∀ j,j<k->r.getD j 0=l.getD j 0:=λj hj=>by rw[<- hr];simp only[List.getD];rw[Z0,W0 (by simp;omega),List.getElem?_take_of_lt hj]
 have hr2:∀ j,j<v.length->r.getD (k+j) 0=v.getD j 0:=λj hj=>by
  rw[<- hr];simp only[List.getD];rw[Z0,X2 (by simp;omega),W0 (by simp;omega)];congr 2;simp;omega
 have hr3:∀ j,k+v.length<=j->r.getD j 0=l.getD (j-v.length) 0:=λj hj=>by
  rw[<- hr];simp only[List.getD];rw[X2 (by simp;omega),XF];congr 2;simp;omega
 obtain⟨own1,hown1⟩:∃ o,o=A5 (Aj [(34000,Own.arr 1 3 l.length (λi=>[.int .i64 (l.getD i 0)])),(34002,Own.arr 1 3 v.length f)]) 34002 (.arr 1 3 v.length (λi=>[.int .i64 (v.getD i 0)])):=⟨_,rfl⟩
 have hk1:Chg (Aj [(34000,Own.arr 1 3 l.length (λi=>[.int .i64 (l.getD i 0)])),(34002,Own.arr 1 3 v.length f)]) θ I w own1 θ I w:=by
  have:=Pm (nm:=34002) (s:=1) (e:=3) (m':=v.length) (f':=λi=>[.int .i64 (v.getD i 0)]) (t':=some (vg,vc)) (w':=w) BY ab5 (λ_ _ _=>rfl) (.inr ⟨v.length,f,rfl,zzL7 _,λ_=>hvθ.symm⟩)
   (λ_ _ _=>rfl) rfl rfl rfl (zzL7 _) (λhh=>by cases hh)
   (λg' c' hh=>by
    obtain⟨rfl,rfl⟩:=Prod.mk.inj (OI hh);refine⟨vcur,hvh,hvc,‹_›,by rw[ae5,Yo],λ_ _=>rfl,λi j hi hj=>?_,hvI⟩
    obtain rfl:j=0:=by omega
    have:=hvcell i hi;rw[Ot _ _ _ vcur 3 (0,0) hvh]at this;rw[Yo,W5,Vg,this]
    exact⟨rfl,λ_=>.val _ _ (.int _ _)⟩)
   (λg' c' hh=>by
    obtain⟨rfl,rfl⟩:=Prod.mk.inj (OI hh)
    exact .inr ⟨(λhh=>by cases hh),vc,hvθ⟩)
  rw[IC hvθ]at this;rw[hown1];exact this
 have ho0:own1 34000=some (.arr 1 3 l.length (λi=>[.int .i64 (l.getD i 0)])):=by rw[hown1];rfl
 have ho2:own1 34002≠none:=by rw[hown1];intro hh;cases hh
 have hH:∀ x,A5 own1 34000 (.arr 1 3 r.length x)=Aj [(34000,Own.arr 1 3 r.length x),(34002,Own.arr 1 3 v.length (λi=>[.int .i64 (v.getD i 0)]))]:=λx=>by
  rw[hown1]
  funext nm
  simp only[A5,Aj]
  by_cases h1:nm=34000
  ·subst h1;rfl
  ·by_cases h2:nm=34002
   ·subst h2;rfl
   ·have e1:Nat.beq 34000 nm=false:=by cases e:Nat.beq 34000 nm;rfl;exact absurd (Ez e).symm h1
    have e2:Nat.beq 34002 nm=false:=by cases e:Nat.beq 34002 nm;rfl;exact absurd (Ez e).symm h2
    simp[h1,h2,e1,e2]
 have fin:∀(g c:Nat) (w':World) (e:Ending),r.length<=c->c<=maxLen->Lk w w' g->ZH w' g c->(∀ j,j<r.length->w'.cell? ⟨g,j,none⟩=some (.int .i64 (r.getD j 0)))->(∀ j,¬ I g j)->(w.heap.size<=g\/∃ c',θ 34000=some (g,c'))->e = .returned (.slice (some ⟨g,0,none⟩) (l.length+v.length) c)->
   ∃ v' I' θ',e = .returned v'/\Chg (Aj [(34000,Own.arr 1 3 l.length (λi=>[.int .i64 (l.getD i 0)])),(34002,Own.arr 1 3 v.length f)]) θ I w (Aj [(34000,Own.arr 1 3 r.length (λi=>[.int .i64 (r.getD i 0)])),(34002,Own.arr 1 3 v.length (λi=>[.int .i64 (v.getD i 0)]))]) θ' I' w' /\
    Rep I' (Aj [(34000,Own.arr 1 3 r.length (λi=>[.int .i64 (r.getD i 0)])),(34002,Own.arr 1 3 v.length (λi=>[.int .i64 (v.getD i 0)]))]) θ' w' v' (.vsl 34000 r.length):=by
  intro g c w' e hc hmx hlk ad4 ab0 hI hg he;obtain⟨v',θ',e1,e2,e3⟩:=kF (r:=r) hk1.rel hk1.valid ho0 (by omega) hc hmx hlk ad4 ab0 hI hg;rw[hH]at e2 e3;exact⟨v',I,θ',by rw[he,<- e1,hrl],hk1.trans e2,e3⟩
 have hNI:∀ j,¬ I w.heap.size j:=λj hj=>by
  obtain⟨u,hu⟩:=ab5 _ _ hj;have:=Sh hu;simp at this
 have h1v:=iB v;have hvl:(v.map (Value.int .i64)).length=v.length:=F2 ..
 have ad8:(l.length+v.length)*8<=140737488355328:=by omega
 rcases rowI_at hk1.rel rfl ho0 (λ_ _=>rfl) (h1.mono (λ_ _ h=>h) (λ_ _ _=>rfl) hk1.le) with⟨_,rfl,a,rfl⟩|⟨g,c,hθ,rfl,hc,hcm,hB,ab0,hI⟩
 ·
  obtain rfl:k=0:=by simp at hkn;omega
  refine(Any2.slices_Insert_int_end_grow LX a 0 0 vg 0 v.length vc [] (v.map (Value.int .i64)) w hm (zzL7 _) (by omega) (by simpa using ad8) rfl hvl (λ_=>rfl) (λ_ _ _ _ h=>by simp at h) (hvs w λ_=>rfl) h1v).mono λe w' ⟨he,hw⟩=>?_;subst hw;have hG:=grownCap_ge w (0+v.length) 0 (insRen.t 3);have hGm:grownCap w (0+v.length) 0 (insRen.t 3)<=maxLen:=grownCap_le_maxLen _ _ _ _ (by unfold maxLen;omega);simp only[List.length_nil]at he ⊢ hrl
  generalize grownCap w (0+v.length) 0 (insRen.t 3)=G at hG hGm he ⊢
  refine fin w.heap.size G _ e (by omega) hGm ((HS w _).trans (UR (zzL7 _))) ?_ (λj hj=>?_) hNI (.inl (zzL7 _)) he
  ·have:=NO (w:=w.drew) (([]++v.map (Value.int .i64)).toArray++Builtin.zeroCells (Value.int .i64 0).cells (G-(0+v.length)))
   have e:(([]++v.map (Value.int .i64)).toArray++Builtin.zeroCells (Value.int .i64 0).cells (G-(0+v.length))).size=G:=by
    simp[Builtin.zeroCells,Value.cells];omega
   rw[e]at this;exact this
  ·have e:=World.cell?_alloc_at (w:=w.drew) (([]++v.map (Value.int .i64)).toArray++Builtin.zeroCells (Value.int .i64 0).cells (G-(0+v.length))) (insRen.t 3) w.heap.size j rfl;rw[e,Vi,cy _ _ (by rw[hvl];omega),Vn _ (by omega)];have:=hr2 j (by omega);rw[Ke]at this;rw[this]
 ·have hcl:(l.map (Value.int .i64)).length=l.length:=F2 ..;have h1c:=iB l
  have hc63:c<=9223372036854775807:=by unfold maxLen at hcm;exact hcm
  have hcs:∀ j u,(l.map (Value.int .i64))[j]?=some u->w.cell? ⟨g,0+j,none⟩=some u:=λj u hj=>by
   obtain⟨h1,rfl⟩:=mX hj;rw[Ke,ab0 j h1]
  have hgv:vg≠g:=λe=>by
   subst e;have:=BY.inj 34000 34002 vg c vc (by intro hh;cases hh) (by intro hh;cases hh) hθ hvθ
   cases this
  by_cases hroomc:l.length+v.length<=c
  ·by_cases hke:k=l.length
   ·subst hke;refine(Any2.slices_Insert_int_end_room LX g 0 l.length c vg 0 v.length vc (v.map (Value.int .i64)) w hm hroomc hc63 hvl (λj hj=>TL hB (by omega)) (λj hj=>SK hB _) (hvs w λ_=>rfl) h1v).mono λe w' ⟨he,hw⟩=>?_;subst hw;have hlk:=Zc g (v.map (Value.int .i64)) (0+l.length) w;refine fin g c _ e (by omega) hcm hlk (hlk.blk c hB) (λj hj=>?_) hI (.inr ⟨c,hθ⟩) he;rw[EX hB (by rw[hvl];omega),hvl]
    split
    ·rw[Vn _ (by omega),<- hr2 _ (by omega)];congr 3;omega
    ·rw[ab0 j (by omega),hr1 j (by omega)]
   ·refine(Any2.slices_Insert_int_shift LX g 0 l.length c k vg 0 v.length vc (l.map (Value.int .i64)) (v.map (Value.int .i64)) w (by omega) hm hroomc hc63 hgv hcl hvl hcs (λj hj=>TL hB (by omega)) (λj hj=>SK hB _) (hvs w λ_=>rfl) h1c h1v
     3 3 vc c ?_ ?_ (by omega) ?_ ?_).mono λe w' ⟨he,hw⟩=>?_
    ·simp[World.shape?,hvh,ae5]
    ·obtain⟨OF,q1,q2⟩:=hB;simp[World.shape?,q1,q2]
    ·exact SK ⟨vcur,hvh,ae5⟩ _
    ·exact SK ⟨vcur,hvh,ae5⟩ _
    subst hw;have hl1:=(HS w g).trans (Zc g ((l.map (Value.int .i64)).drop k) (0+(k+v.length)) w.drew);have hB0:=(HS w g).blk c hB;have hB1:=hl1.blk c hB;have hl2:=hl1.trans (Zc g (v.map (Value.int .i64)) (0+k) _);refine fin g c _ e (by omega) hcm hl2 (hl2.blk c hB) (λj hj=>?_) hI (.inr ⟨c,hθ⟩) he;rw[EX hB1 (by rw[hvl];omega),hvl,EX hB0 (by rw[GR,hcl];omega),GR,hcl]
    split
    ·rw[Vn _ (by omega),<- hr2 _ (by omega)];congr 3;omega
    ·split
     ·rw[XF,Vn _ (by omega),hr3 j (by omega)];congr 3;omega
     ·show w.cell? _=_
      rw[ab0 j (by omega),hr1 j (by omega)]
  ·have hG:=grownCap_ge w (l.length+v.length) c (insRen.t 3);have hGm:grownCap w (l.length+v.length) c (insRen.t 3)<=maxLen:=grownCap_le_maxLen _ _ _ _ (by unfold maxLen;omega)
   by_cases hke:k=l.length
   ·subst hke
    refine(Any2.slices_Insert_int_end_grow LX (some ⟨g,0,none⟩) l.length c vg 0 v.length vc (l.map (Value.int .i64)) (v.map (Value.int .i64)) w hm hc (by omega) ad8 hcl hvl (λh=>by cases h) (λa ha j u hj=>by
     obtain rfl:=OI ha
     rw[Ux];exact hcs j u hj) (hvs w λ_=>rfl) h1v).mono λe w' ⟨he,hw⟩=>?_
    subst hw
    generalize grownCap w (l.length+v.length) c (insRen.t 3)=G at hG hGm he ⊢
    refine fin w.heap.size G _ e (by omega) hGm ((HS w _).trans (UR (zzL7 _))) ?_ (λj hj=>?_) hNI (.inl (zzL7 _)) he
    ·have:=NO (w:=w.drew) ((l.map (Value.int .i64)++v.map (Value.int .i64)).toArray++Builtin.zeroCells (Value.int .i64 0).cells (G-(l.length+v.length)))
     have e:((l.map (Value.int .i64)++v.map (Value.int .i64)).toArray++Builtin.zeroCells (Value.int .i64 0).cells (G-(l.length+v.length))).size=G:=by
      simp[Builtin.zeroCells,Value.cells];omega
     rw[e]at this;exact this
    ·have e:=World.cell?_alloc_at (w:=w.drew) ((l.map (Value.int .i64)++v.map (Value.int .i64)).toArray++Builtin.zeroCells (Value.int .i64 0).cells (G-(l.length+v.length))) (insRen.t 3) w.heap.size j rfl;rw[e,cy _ _ (by rw[He,hcl,hvl];omega)]
     by_cases hj1:j<l.length
     ·rw[W0 (by omega),Vn _ hj1,hr1 j hj1]
     ·rw[X2 (by omega),hcl,Vn _ (by omega),<- hr2 _ (by omega)];congr 3;omega
   ·refine(Any2.slices_Insert_int_grow LX g 0 l.length c k vg 0 v.length vc (l.map (Value.int .i64)) (v.map (Value.int .i64)) w (by omega) hm hc (by omega) ad8 hcl hvl hcs (hvs w λ_=>rfl) h1c h1v).mono λe w' ⟨he,hw⟩=>?_;subst hw
    generalize grownCap w (l.length+v.length) c (insRen.t 3)=G at hG hGm he ⊢
    generalize hA:((l.map (Value.int .i64)).take k).toArray++Builtin.zeroCells (Value.int .i64 0).cells (l.length+v.length-k)++Builtin.zeroCells (Value.int .i64 0).cells (G-(l.length+v.length))=A
    have hAs:A.size=G:=by rw[<- hA];simp[Builtin.zeroCells,Value.cells];omega
    have b0:ZH (w.alloc (.cells A 3)) w.heap.size G:=by have:=NO (w:=w) A;rwa[hAs]at this
    have k0:Lk w (w.alloc (.cells A 3)) w.heap.size:=UR (zzL7 _);have k1:=(HS (w.alloc (.cells A 3)) w.heap.size);have b1:=k1.blk G b0;have k2:=Zc w.heap.size (v.map (Value.int .i64)) k (w.alloc (.cells A 3)).drew;have b2:=k2.blk G b1;have k3:=HS ((w.alloc (.cells A 3)).drew.setCells w.heap.size k (v.map (Value.int .i64))) w.heap.size;have b3:=k3.blk G b2;have k4:=Zc w.heap.size ((l.map (Value.int .i64)).drop k) (k+v.length) ((w.alloc (.cells A 3)).drew.setCells w.heap.size k (v.map (Value.int .i64))).drew;refine fin w.heap.size G _ e (by omega) hGm ((((k0.trans k1).trans k2).trans k3).trans k4) (k4.blk G b3) (λj hj=>?_) hNI (.inl (zzL7 _)) he
    show(((w.alloc (Obj.cells A 3)).drew.setCells w.heap.size k (v.map (Value.int .i64))).drew.setCells w.heap.size (k+v.length) ((l.map (Value.int .i64)).drop k)).cell? ⟨w.heap.size,j,none⟩=_
    rw[EX b3 (by rw[GR,hcl];omega),GR,hcl]
    split
    ·rw[XF,Vn _ (by omega),hr3 j (by omega)];congr 3;omega
    ·show((w.alloc (Obj.cells A 3)).drew.setCells w.heap.size k (v.map (Value.int .i64))).cell? ⟨w.heap.size,j,none⟩=_
     rw[EX b1 (by rw[hvl];omega),hvl]
     split
     ·rw[Vn _ (by omega),<- hr2 _ (by omega)];congr 3;omega
     ·have e:=World.cell?_alloc_at (w:=w) A 3 w.heap.size j rfl
      show(w.alloc (.cells A 3)).cell? _=_
      rw[e,<- hA,Array.append_assoc,cy _ _ (by rw[ND,hcl];omega),List.getElem?_take_of_lt (by omega),Vn _ (by omega),hr1 j (by omega)]
def gQ:Go.Shelf.Ren:=⟨fun|189=>123|125=>147|257=>146|128=>171|129=>172|294=>163|295=>164|296=>165|297=>166|298=>167|299=>168|216=>159|300=>169|301=>170|328=>186|329=>187|330=>188|331=>189|332=>190|215=>184|343=>196|n=>n,fun|28=>22|3=>3|46=>171|0=>0|51=>188|53=>46|4=>4|183=>183|182=>182|131=>168|5=>5|9=>9|218=>196|222=>200|228=>204|229=>95|n=>n,fun|n=>n⟩
theorem mo:Go.Proofs.Lays.n189 Tryz.prog gQ:={
 mixed:=by kernel_rfl
 f125:=Tryz.func147.trans (Bw some (by kernel_rfl))
 f128:=Tryz.func171.trans (Bw some (by kernel_rfl))
 f129:=Tryz.func172.trans (Bw some (by kernel_rfl))
 f189:=Tryz.func123.trans (Bw some (by kernel_rfl))
 f215:=Tryz.func184.trans (Bw some (by kernel_rfl))
 f216:=Tryz.func159.trans (Bw some (by kernel_rfl))
 f257:=Tryz.func146.trans (Bw some (by kernel_rfl))
 f294:=Tryz.func163.trans (Bw some (by kernel_rfl))
 f295:=Tryz.func164.trans (Bw some (by kernel_rfl))
 f296:=Tryz.func165.trans (Bw some (by kernel_rfl))
 f297:=Tryz.func166.trans (Bw some (by kernel_rfl))
 f298:=Tryz.func167.trans (Bw some (by kernel_rfl))
 f299:=Tryz.func168.trans (Bw some (by kernel_rfl))
 f300:=Tryz.func169.trans (Bw some (by kernel_rfl))
 f301:=Tryz.func170.trans (Bw some (by kernel_rfl))
 f328:=Tryz.func186.trans (Bw some (by kernel_rfl))
 f329:=Tryz.func187.trans (Bw some (by kernel_rfl))
 f330:=Tryz.func188.trans (Bw some (by kernel_rfl))
 f331:=Tryz.func189.trans (Bw some (by kernel_rfl))
 f332:=Tryz.func190.trans (Bw some (by kernel_rfl))
 f343:=Tryz.func196.trans (Bw some (by kernel_rfl))
 t0:=Tryz.underlying0
 a0:=Tryz.isAgg0
 z0:=Tryz.sizeOf0
 v0:=Tryz.zeroValue0
 t3:=Tryz.underlying3
 a3:=Tryz.isAgg3
 z3:=Tryz.sizeOf3
 v3:=Tryz.zeroValue3
 t4:=Tryz.underlying4
 a4:=Tryz.isAgg4
 z4:=Tryz.sizeOf4
 v4:=Tryz.zeroValue4
 t5:=Tryz.underlying5
 a5:=Tryz.isAgg5
 z5:=Tryz.sizeOf5
 v5:=Tryz.zeroValue5
 t9:=Tryz.underlying9
 a9:=Tryz.isAgg9
 z9:=Tryz.sizeOf9
 v9:=Tryz.zeroValue9
 t28:=Tryz.underlying22
 a28:=Tryz.isAgg22
 z28:=Tryz.sizeOf22
 v28:=Tryz.zeroValue22
 t46:=Tryz.underlying171
 a46:=Tryz.isAgg171
 z46:=Tryz.sizeOf171
 v46:=Tryz.zeroValue171
 t51:=Tryz.underlying188
 a51:=Tryz.isAgg188
 z51:=Tryz.sizeOf188
 v51:=Tryz.zeroValue188
 t53:=Tryz.underlying46
 a53:=Tryz.isAgg46
 z53:=Tryz.sizeOf46
 v53:=Tryz.zeroValue46
 t131:=Tryz.underlying168
 a131:=Tryz.isAgg168
 z131:=Tryz.sizeOf168
 v131:=Tryz.zeroValue168
 t182:=Tryz.underlying182
 a182:=Tryz.isAgg182
 z182:=Tryz.sizeOf182
 v182:=Tryz.zeroValue182
 t183:=Tryz.underlying183
 a183:=Tryz.isAgg183
 z183:=Tryz.sizeOf183
 v183:=Tryz.zeroValue183
 t218:=Tryz.underlying196
 a218:=Tryz.isAgg196
 z218:=Tryz.sizeOf196
 v218:=Tryz.zeroValue196
 t222:=Tryz.underlying200
 a222:=Tryz.isAgg200
 z222:=Tryz.sizeOf200
 v222:=Tryz.zeroValue200
 t228:=Tryz.underlying204
 a228:=Tryz.isAgg204
 z228:=Tryz.sizeOf204
 v228:=Tryz.zeroValue204
 t229:=Tryz.underlying95
 a229:=Tryz.isAgg95
 z229:=Tryz.sizeOf95
 v229:=Tryz.zeroValue95 }
def ZZ:Go.Shelf.Ren:=⟨fun|15=>122|n=>n,fun|22=>22|3=>3|4=>4|n=>n,fun|n=>n⟩
theorem NX:Go.Proofs.Lays2.n15 Tryz.prog ZZ:={
 mixed:=by kernel_rfl
 f15:=Tryz.func122.trans (Bw some (by kernel_rfl))
 t3:=Tryz.underlying3
 a3:=Tryz.isAgg3
 z3:=Tryz.sizeOf3
 v3:=Tryz.zeroValue3
 t4:=Tryz.underlying4
 a4:=Tryz.isAgg4
 z4:=Tryz.sizeOf4
 v4:=Tryz.zeroValue4
 t22:=Tryz.underlying22
 a22:=Tryz.isAgg22
 z22:=Tryz.sizeOf22
 v22:=Tryz.zeroValue22
 i3:=by kernel_rfl }
def aa:Go.Shelf.Ren:=⟨fun|20=>124|n=>n,fun|22=>22|3=>3|4=>4|0=>0|n=>n,fun|n=>n⟩
theorem bf:Go.Proofs.Lays2.n20 Tryz.prog aa:={
 mixed:=by kernel_rfl
 f20:=Tryz.func124.trans (Bw some (by kernel_rfl))
 t0:=Tryz.underlying0
 a0:=Tryz.isAgg0
 z0:=Tryz.sizeOf0
 v0:=Tryz.zeroValue0
 t3:=Tryz.underlying3
 a3:=Tryz.isAgg3
 z3:=Tryz.sizeOf3
 v3:=Tryz.zeroValue3
 t4:=Tryz.underlying4
 a4:=Tryz.isAgg4
 z4:=Tryz.sizeOf4
 v4:=Tryz.zeroValue4
 t22:=Tryz.underlying22
 a22:=Tryz.isAgg22
 z22:=Tryz.sizeOf22
 v22:=Tryz.zeroValue22
 i3:=by kernel_rfl }
open Go.Sort
section
variable {I:Nat->Nat->Prop} {θ:Nat->Option (Nat×Nat)} {w w':World}
theorem kj(I:Nat->Nat->Prop)(θ:Nat->Option (Nat×Nat))(w:World):Kh I (Aj []) θ w:=
 ⟨(λ_ _ _ h=>by cases h),(λ_ _ _ _ h=>by cases h),(λ_ _ _ _ _ h=>(h rfl).elim),(λ_ _ _ _ _ h=>by cases h),(λ_ _ h=>by cases h),(λ_ _ _ h=>by cases h)⟩
theorem uB{zs:Array Value}(h:RepL I own θ w zs.toList [x]):∃ v,zs = #[v]/\Rep I own θ w v x:=by
 obtain⟨l⟩:=zs
 cases h with
 | cons h1 h2=>cases h2;exact⟨_,rfl,h1⟩
theorem IW(hb:Below w.heap.size w w')(ab5:∀ b o,I b o->∃ u,w.cell? ⟨b,o,none⟩=some u){N:Nat->Nat->Prop}(hN:∀ b o,N b o->w.heap.size<=b/\∃ u,w'.cell? ⟨b,o,none⟩=some u) :
  Chg (Aj []) θ I w (Aj []) θ (λb o=>I b o\/N b o) w':=
 have ab0 :=λb o hi=>by
  obtain⟨u,hu⟩:=ab5 b o hi;exact RG  (hb.block b (Sh hu))
 {imm:=λ_ _ h=>.inl h,cell:=ab0,le:=λ_ _ h=>(by cases h),rel:=kj _ _ _,
  valid:=λb o hi=>by
   grind,
  os:=hb.os,tape:=hb.tape,output:=hb.output,drawn:=λh=>h.elim,grow:=hb.size,frame:=λb hlt _=>hb.block b hlt,new:=λ_ _ _ h=>(h rfl).elim,
  immNew:=λb o hi=>by
   grind }
end
theorem LK{os:Array Obj}{d:Array Int}(hb:Below w.heap.size w W)(hg:w.heap.size<=g):Below w.heap.size w (grow (putRow (Value.int .i64) (Sort.ahead W n) g 0 d) os):=by
 have k:=grownBy_sortedI (w:=W) (g:=g) (n:=n) (os:=os) d;refine hb.trans ⟨k.os,k.tape,k.output,k.size,λb hlt=>k.block b (Nat.lt_of_lt_of_le hlt hb.size) (λe=>?_)⟩;have:=OI e;omega
def cj(w W:World)(g cap n:Nat)(zs:List Int):Prop:=
 Below w.heap.size w W/\w.heap.size<=g/\∃ OF,W.heap[g]?=some (.cells OF 3 (0,0))/\n<=cap/\cap<=maxLen/\OF.size=cap/\OF.toList.take zs.length=zs.map (Value.int .i64)/\zs.length=n
theorem nJ(h:W.ownsRow w.heap.size 3 1 v n (zs.map (Value.int .i64)))(hne:v≠.slice none 0 0)(hb:Below w.heap.size w W):∃ g cap,v = .slice (some ⟨g,0,none⟩) n cap/\cj w W g cap n zs:=by
 have hl :=by have:=h.1;simpa using this
 rcases h.2 with⟨rfl,_⟩|⟨g,cap,OF,rfl,hg,ah4,IN,Is,hsz,ht⟩
 ·exact(hne rfl).elim
 ·rw[Yo]at hsz ht;exact⟨g,cap,rfl,hb,hg,OF,ah4,IN,Is,hsz,by rw[hl];exact ht,hl⟩
theorem ry(ad:Addr)(c:Nat)(w:World):Calls Tryz.prog 122 #[.slice (some ad) 0 c] w λe W=>∃ g cap,e = .returned (.slice (some ⟨g,0,none⟩) 0 cap)/\cj w W g cap 0 []:=
 (Any.slices_Clone_int_zero NX ad c w).mono λe W ⟨v,he,By,hne,hb⟩=>by
  obtain⟨g,cap,rfl,h⟩:=nJ (zs:=[]) By hne hb;exact⟨g,cap,he,h⟩
theorem w8(b off n c:Nat)(zs:List Int)(w:World)(hz:zs.length=n)(ad8:n<=17592186044416)(hc:∀ j,j<n->w.cell? ⟨b,off+j,none⟩=some (.int .i64 (zs.getD j 0))) :
  Calls Tryz.prog 122 #[.slice (some ⟨b,off,none⟩) n c] w λe W=>∃ g cap,e = .returned (.slice (some ⟨g,0,none⟩) n cap)/\cj w W g cap n zs:=
 (Any.slices_Clone_int NX b off n c zs w (by omega) (by omega) (λj hj=>hc j (by omega))).mono λe W ⟨v,he,By,hne,hb⟩=>by
  rw[show zs.take n=zs by grind]at By;obtain⟨g,cap,rfl,h⟩:=nJ By hne hb;exact⟨g,cap,he,h⟩
theorem Abb(h:cj w W g cap n zs)(ad8:n<=17592186044416):Calls Tryz.prog 123 #[.slice (some ⟨g,0,none⟩) n cap] W λe W2=>e = .returned (.tuple #[])/\cj w W2 g cap n (zs.mergeSort λx y=>decide (x<=y)):=by
 obtain⟨hb,hg,OF,ah4,IN,Is,hsz,ht,rfl⟩:=h;refine(Any.slices_Sort_int mo g 0 cap zs W (holds_of_blockI ah4 ht) (LV ah4) (by omega)).mono λe W2 ⟨he,q,os,hW⟩=>⟨he,?_⟩;subst hW;have hl:(zs.mergeSort λx y=>decide (x<=y)).length=zs.length:=List.length_mergeSort ..;have b2:=LK (n:=q) (os:=os) (d:=(zs.mergeSort λx y=>decide (x<=y)).toArray) hb hg;exact⟨b2,hg,_,heap_sortedI _ ah4,IN,Is,by simp[putCells,hsz],take_putCellsI OF _ (by omega),hl⟩
theorem ot(h:cj w W g cap n zs)(ad8:n<=17592186044416):Calls Tryz.prog 124 #[.slice (some ⟨g,0,none⟩) n cap] W λe W2=>e = .returned (.slice (some ⟨g,0,none⟩) (Lib.compact zs).length cap)/\cj w W2 g cap (Lib.compact zs).length (Lib.compact zs):=by
 obtain⟨hb,hg,OF,ah4,IN,Is,hsz,ht,rfl⟩:=h;refine(Any.slices_Compact_int bf g 0 cap zs W (holds_of_blockI ah4 ht) (by omega) IN).mono λe W2 ⟨he,q,hW⟩=>⟨he,?_⟩;subst hW;have hcl:=Lib.compact_length_le zs
 generalize Lib.compact zs=cs at hcl ⊢
 generalize hts:cs++List.replicate _ _=ts
 have htl:ts.length=zs.length:=by grind
 have b2:=LK (n:=q) (os:=#[]) (d:=ts.toArray) hb hg;have h2:=heap_sortedI (n:=q) (os:=#[]) ts.toArray ah4;have h3:=take_putCellsI OF ts (by omega);refine⟨b2,hg,_,h2,by omega,Is,by simp[putCells,hsz],?_,rfl⟩;have:=Bw (List.take cs.length) h3;rw[List.take_take,Nat.min_eq_left (by omega),<- List.map_take,<- hts,List.take_left' rfl]at this;rw[<- hts];exact this
def vV(w w':World)(v:Value)(r:List Int):Prop:=
 (v = .slice none 0 0/\r=[])\/∃ g cap,v = .slice (some ⟨g,0,none⟩) r.length cap/\cj w w' g cap r.length r
set_option maxHeartbeats 4000000 in
set_option maxRecDepth 100000 in
theorem uY(a:Option Addr)(n c:Nat)(zs:List Int)(w:World)(hz:zs.length=n)(hn:a=none->n=0)(ad8:n<=17592186044416)
  (hc:0<n->∃ b off,a=some ⟨b,off,none⟩/\∀ j,j<n->w.cell? ⟨b,off+j,none⟩=some (.int .i64 (zs.getD j 0))) :
  Calls Tryz.prog 83 #[.slice a n c] w λe w'=>∃ v,e = .returned v/\Below w.heap.size w w'/\vV w w' v (Lib.compact (zs.mergeSort λx y=>decide (x<=y))):=by
 cases a with
 | none=>
  obtain rfl:=hn rfl;obtain rfl:zs=[]:=zzL116.1 hz
  have hr:Lib.compact (([]:List Int).mergeSort λx y=>decide (x<=y))=[]:=by simp[Lib.compact,Lib.compactUpTo]
  rw[hr];have h1:Calls Tryz.prog 122 #[.slice none 0 c] w λe w'=>e = .returned (.slice none 0 0)/\w'=w:=Any.slices_Clone_int_nil NX 0 c w;have h2:Calls Tryz.prog 123 #[.slice none 0 0] w λe w'=>e = .returned (.tuple #[])/\w'=w:=Any.slices_Sort_int_none mo none 0 w;have h3:Calls Tryz.prog 124 #[.slice none 0 0] w λe w'=>e = .returned (.slice none 0 0)/\w'=w:=Any.slices_Compact_int_empty bf none 0 w
  go_enter Tryz.func83,Tryz.ntmps83
  go_wp2_with (first
   | (go_at_call 122;refine h1.mono ?_;rintro e W ⟨rfl,rfl⟩)
   | (go_at_call 123;refine h2.mono ?_;rintro e W ⟨rfl,rfl⟩)
   | (go_at_call 124;refine h3.mono ?_;rintro e W ⟨rfl,rfl⟩))
  go_ret
  exact⟨_,rfl,Below.refl _ _,.inl ⟨rfl,rfl⟩⟩
 | some ad=>
  have h1:Calls Tryz.prog 122 #[.slice (some ad) n c] w λe W=>∃ g cap,e = .returned (.slice (some ⟨g,0,none⟩) n cap)/\cj w W g cap n zs:=by
   by_cases h0:n=0
   ·subst h0;obtain rfl:zs=[]:=zzL116.1 hz;exact ry ad c w
   ·obtain⟨b,off,hab,ab0⟩:=hc (by omega);obtain rfl:=OI hab;exact w8 b off n c zs w hz ad8 ab0
  go_enter Tryz.func83,Tryz.ntmps83
  go_wp2_with (first
   | (go_at_call 122;refine h1.mono ?_;rintro e W ⟨g,cap,rfl,hO⟩)
   | (go_at_call 123;refine(Abb hO ad8).mono ?_;rintro e W2 ⟨rfl,hO2⟩)
   | (go_at_call 124;refine(ot hO2 ad8).mono ?_;rintro e W3 ⟨rfl,hO3⟩))
  go_ret
  exact⟨_,rfl,hO3.1,.inr ⟨_,_,rfl,hO3⟩⟩
def kD(x:Int):List Int->List Int
 | []=>[x]
 | y::l=>if x<=y then x::y::l else y::kD x l
def sf:List Int->List Int
 | []=>[]
 | x::l=>kD x (sf l)
theorem insI_perm(x:Int):∀ l,(kD x l).Perm (x::l)
 | []=>.refl _
 | y::l=>by
  unfold kD
  split
  ·exact .refl _
  ·exact((insI_perm x l).cons y).trans (.swap x y l)
theorem mj{x:Int}:∀{l:List Int},l.Pairwise (·<=·)->(kD x l).Pairwise (·<=·)
 | [],_=>by simp[kD]
 | y::l,h=>by
  have h':=zzL99.1 h;unfold kD
  split
  ·exact zzL99.2 ⟨λz hz=>by
    grind,h⟩
  ·refine zzL99.2 ⟨λz hz=>?_,mj h'.2⟩;rcases zzL31.1 ((insI_perm x l).mem_iff.1 hz) with rfl|hz
   ·omega
   ·exact h'.1 z hz
theorem bc:∀ l,(sf l).Perm l
 | []=>.refl _
 | x::l=>(insI_perm x _).trans ((bc l).cons x)
theorem mn:∀ l,(sf l).Pairwise (·<=·)
 | []=>.nil
 | x::l=>mj (mn l)
theorem ml(l:List Int):sf l=l.mergeSort λx y=>decide (x<=y):=by
 refine List.Perm.eq_of_pairwise  (λa b _ _ h1 h2=>Int.le_antisymm h1 h2) (mn l) ?_ ((bc l).trans (List.mergeSort_perm l _).symm);have:=List.pairwise_mergeSort (le:=λx y=>decide (x<=y)) (λa b c h1 h2=>by simp at *;omega) (λa b=>by simp;omega) l
 exact this.imp λh=>by simpa using h
def NA(l:List Int):Option (List Int):=Ay (l.length<=17592186044416) (some (Lib.compact (sf l)))
theorem lC(l r:List Int)(h:NA l=some r):Spec Tryz.prog 83 [AV.list 1 (λx=>[.int .i64 x]) (0:Int) l .none] [] (AV.list 1 (λx=>[.int .i64 x]) (0:Int) r .none) []:=by
 obtain⟨IT,h⟩:=Ul h;rw[ml]at h;obtain rfl:=OI h;refine⟨enters_of Tryz.func83 (by kernel_rfl) rfl,λw I θ zs ae2 _ ab5 _=>?_⟩;obtain⟨v,rfl,hv⟩:=uB ae2;obtain⟨_,a,cap,us,rfl,IN,Is,hz,hnn,h1,hl,hr⟩:=hv.slice_val.slice_inv
 have ac9 :=λi hi=>by
  have:=hr i 0 hi (by omega);rw[Yo,W5]at this;have h2 :=this;exact Rep.int_inv (own:=Aj []) (θ:=θ) (.val _ _ h2)
 refine(uY a l.length cap l w rfl (λha=>by have:=hnn ha;omega) IT (λhp=>?_)).mono λe w' ⟨v,he,hb,ah2⟩=>?_
 ·obtain⟨b,rfl,hs,_,ab0⟩:=hz hp;obtain⟨blk,off,spot⟩:=b;subst hs;exact⟨blk,off,rfl,λj hj=>by grind⟩
 ·generalize Lib.compact (l.mergeSort _)=r at ah2 ⊢
  rcases ah2 with⟨rfl,rfl⟩|⟨g,cap',rfl,_,hg,OF,ah4,hc1,hc2,hc3,htake,_⟩
  ·exact⟨_,_,θ,he,IW hb ab5 (N:=λ_ _=>False) (λ_ _ h=>h.elim),.val _ _ (.slice none 0 0 1 _ (λ_=>undef) (zzL7 _) (DD _) (λh=>by cases h) (λ_=>rfl) (λj hj=>by simp at hj) (λi hi=>by cases hi) (λi c hi=>by cases hi))⟩
  ·have ab0:∀ j,j<r.length->w'.cell? ⟨g,j,none⟩=some (.int .i64 (r.getD j 0)):=λj hj=>by
    rw[Ot _ _ _ OF 3 (0,0) ah4]
    have h2:(OF.toList.take r.length)[j]?=(r.map (Value.int .i64))[j]?:=by rw[htake]
    rw[List.getElem?_take_of_lt hj,Array.getElem?_toList]at h2;rw[h2];simp[List.getD,hj]
   refine⟨_,_,θ,he,IW hb ab5 (N:=λb o=>b=g/\o<r.length) (λb o ⟨hbg,ho⟩=>⟨by omega,by grind⟩),.val _ _ (.slice (some ⟨g,0,none⟩) r.length cap' 1 _ (λj=>.int .i64 (r.getD j 0)) hc1 hc2 (λ_=>⟨⟨g,0,none⟩,rfl,rfl,λj hj=>.inr ⟨rfl,by simpa using hj⟩,λj hj=>by grind⟩) (λh=>by cases h) (λ_ _=>rfl) (λ_ _=>rfl) (λi c hi hc=>?_))⟩
   obtain rfl:c=0:=by omega
   rw[Yo,W5];exact .int _ _
end
end Go.Proofs.YthelaonnkkpbfaaGreat
