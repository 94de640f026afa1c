/-
  The machine, the program's functions and the laws' arithmetic: part 6 of 6.
-/
import Derived.Test.YtfhggcbcamamdaaGreatPk5
set_option linter.unusedSectionVars false
set_option linter.unusedVariables false
set_option linter.unusedSimpArgs false
namespace Go.Proofs.YtfhggcbcamamdaaGreat
noncomputable section
open Go Go.RowKit
set_option linter.unusedSectionVars false
set_option maxRecDepth 100000
theorem HP{α β:Type}{l:List α}{F:α->β}{d:α}{d':β}{j:Nat}(h:j<l.length):(l.map F).getD j d'=F (l.getD j d):=by
 rw[Ab _ _ _ (by rw[Dx];exact h),List.getElem_map,Ab _ _ _ h]
def lJ(l:List (Int×Int)):Prop:=l.Pairwise λp q=>p.1<q.1
theorem DF(p:Int×Int)(l:List (Int×Int))(e:Int×Int):NI (p::l) e=if p.1<e.1 then p::NI l e else e::p::l:=by
 unfold NI
 by_cases h:p.1<e.1<;>simp[h]
theorem insJ_perm(e:Int×Int):∀ l:List (Int×Int),(NI l e).Perm (e::l)
 | []=>.refl _
 | p::l=>by
  rw[DF]
  split
  ·exact((insJ_perm e l).cons p).trans (.swap ..)
  ·exact .refl _
theorem dD{e:Int×Int}:∀{l:List (Int×Int)},lJ l->(∀ p∈l,p.1≠e.1)->lJ (NI l e)
 | [],_,_=>List.pairwise_singleton _ _
 | p::l,h,hn=>by
  rw[DF];obtain⟨h1,h2⟩:=zzL76.1 h;have hp:=hn p (by simp)
  split
  ·rename_i hlt
   refine zzL76.2 ⟨λq hq=>?_,dD h2 λq hq=>hn q (by simp[hq])⟩;rcases zzL34.1 ((insJ_perm e l).mem_iff.1 hq) with rfl|hq
   ·exact hlt
   ·exact h1 q hq
  ·refine zzL76.2 ⟨λq hq=>?_,h⟩;rcases zzL34.1 hq with rfl|hq
   ·omega
   ·have:=h1 q hq;omega
theorem kI:∀(L acc:List (Int×Int)),lJ acc->((acc++L).map (·.1)).Nodup->(L.foldl NI acc).Perm (acc++L)/\lJ (L.foldl NI acc)
 | [],acc,h,_=>⟨by simp,h⟩
 | e::L,acc,h,hn=>by
  rw[Vh];have hp:=insJ_perm e acc
  have hne:∀ p∈acc,p.1≠e.1:=λp hp he=>by
   rw[W8,List.nodup_append]at hn;exact hn.2.2 _ (zzL21.2 ⟨p,hp,rfl⟩) _ (by simp) he
  have hpp:(acc++e::L).Perm (NI acc e++L):=by
   refine List.perm_middle.trans ?_;exact(hp.symm.append_right L)
  obtain⟨h1,h2⟩:=kI L (NI acc e) (dD h hne) ((hpp.map _).nodup_iff.1 hn);exact⟨h1.trans hpp.symm,h2⟩
theorem kJ{L:List (Int×Int)}(h:(L.map (·.1)).Nodup):(Zz L).Perm L/\lJ (Zz L):=by
 have:=kI L [] List.Pairwise.nil (by simpa using h)
 simpa [Zz] using this
theorem OQ{v:Int->Int}{x y:Nat}{p:TPhi}(h:p.Args.length=p.From.length):(Oz v x y p).map (·.1)=p.From.map (mR x y):=by
 unfold Oz;rw[List.map_fst_zip];simp[h]
theorem kS{v:Int->Int}{x y:Nat}{p:TPhi}(h:p.Args.length=p.From.length):(Oz v x y p).length=p.From.length:=by
 have:=Bi List.length (OQ (v:=v) (x:=x) (y:=y) h)
 simpa using this
theorem uq{v:Int->Int}{x y:Nat}{p:TPhi}(h:p.Args.length=p.From.length){e:Int×Int}:e∈Oz v x y p↔∃ i,i<p.Args.length/\e=(mR x y (p.From.getD i 0),v (p.Args.getD i 0)):=by
 unfold Oz;rw[List.mem_iff_getElem]
 constructor
 ·rintro⟨i,hi,rfl⟩
  have hi':i<p.Args.length:=by simp at hi;omega
  refine⟨i,hi',?_⟩;rw[List.getElem_zip,List.getElem_map,List.getElem_map,Ab _ _ _ hi',Ab _ _ _ (by omega)]
 ·rintro⟨i,hi,rfl⟩;refine⟨i,by simp;omega,?_⟩;rw[List.getElem_zip,List.getElem_map,List.getElem_map,Ab _ _ _ hi,Ab _ _ _ (by omega)]
section
variable {f:TFunc} {x y:Nat} (J:Jn f x y) (hs:Gp f=true)
include J hs
theorem pq{a b:Nat}(ha:a<f.Blocks.length)(hb:b≠y)(h:UM f a b):a≠x:=by
 intro e;unfold UM at h;rw[e,J.to,zzL15]at h;omega
theorem vM{b:Nat}(hb:b<f.Blocks.length)(hby:b≠y):((prF f b).map (mR x y)).Nodup:=by
 rw[List.nodup_iff_pairwise_ne,List.pairwise_map];refine List.Pairwise.imp_of_mem (λ{p q} hp hq hpq e=>?_) (XY f hb);obtain⟨a,rfl,ha,hna⟩:=(Q5 hs hb).1 hp;obtain⟨c,rfl,hc,hnc⟩:=(Q5 hs hb).1 hq;rw[Pi,Pi]at e;have h1:=pq J hs ha hby hna;have h2:=pq J hs hc hby hnc;have hne:=J.ne
 have e':psJ x y a=psJ x y c:=by omega
 rcases ps_eq hne a with h3|h3|h3<;>rcases ps_eq hne c with h4|h4|h4<;>rcases ps_eq hne x with h5|h5|h5<;>omega
theorem pW{b:Nat}(hb:b<f.Blocks.length)(hby:b≠y){z:Int}:z∈prF (B7 f x y) (psJ x y b)↔z∈(prF f b).map (mR x y):=by
 have hgs:=j_shapeB J hs
 have hbl:psJ x y b<(B7 f x y).Blocks.length:=by rw[On J];exact Wh J hs hb
 rw[Q5 hgs hbl,zzL21]
 constructor
 ·rintro⟨w,rfl,hw,hn⟩;rw[On J]at hw;have hu:=eY (LQ J hs).1 hw;have e:=eA J.ne (x:=x) (y:=y) w;rw[<- e,tY J hs hu (YN y w) hby]at hn;refine⟨(Tj x y (IU y w):Int),(Q5 hs hb).2 ⟨_,rfl,Ym J hs hu,hn⟩,?_⟩;rw[Pi];unfold Tj
  split
  ·rename_i h
   rcases ps_eq J.ne y with h1|h1|h1
   ·rw[h1.2];rw[h]at e;omega
   ·omega
   ·omega
  ·rw[e]
 ·rintro⟨q,hq,rfl⟩;obtain⟨c,rfl,hc,hnc⟩:=(Q5 hs hb).1 hq;rw[Pi];have hcx:=pq J hs hc hby hnc
  by_cases e:c=y
  ·refine⟨psJ x y x,?_,by rw[On J];exact Wh J hs J.hx,(tY J hs J.hx (λh=>J.ne h.symm) hby).2 (by unfold Tj;rw[if_pos rfl,<- e];exact hnc)⟩;rcases ps_eq J.ne c with h1|h1|h1
   ·rw[h1.2]
   ·omega
   ·omega
  ·exact⟨psJ x y c,rfl,by rw[On J];exact Wh J hs hc,(tY J hs hc e hby).2 (by unfold Tj;rw[if_neg hcx];exact hnc)⟩
theorem OM{v:Int->Int}{b:Nat}(hb:b<f.Blocks.length)(hby:b≠y){p:TPhi}(h1:p.From=prF f b)(h2:p.Args.length=p.From.length) :
  (NQ v x y p).From=prF (B7 f x y) (psJ x y b)/\(NQ v x y p).Args.length=p.Args.length/\(NQ v x y p).From.length=p.From.length/\(Zz (Oz v x y p)).Perm (Oz v x y p)/\lJ (Zz (Oz v x y p)):=by
 have hnd:((Oz v x y p).map (·.1)).Nodup:=by rw[OQ h2,h1];exact vM J hs hb hby
 obtain⟨k1,k2⟩:=kJ hnd
 have hbl:psJ x y b<(B7 f x y).Blocks.length:=by rw[On J];exact Wh J hs hb
 have hl:(Zz (Oz v x y p)).length=p.From.length:=by rw[k1.length_eq,kS h2]
 refine⟨?_,by show(List.map _ _).length=_;rw[Dx,hl,h2],by show(List.map _ _).length=_;rw[Dx,hl],k1,k2⟩;refine FQ ?_ (XY _ hbl) λz=>?_
 ·show(List.map _ _).Pairwise _
  rw[List.pairwise_map];exact k2
 ·rw[pW J hs hb hby,<- h1,<- OQ (v:=v) h2];exact(k1.map _).mem_iff
theorem j9{v:Int->Int}{p:TPhi}(h2:p.Args.length=p.From.length)(hp:(Zz (Oz v x y p)).Perm (Oz v x y p)){j:Nat}(hj:j<(NQ v x y p).Args.length) :
  ∃ i,i<p.Args.length/\(NQ v x y p).From.getD j 0=mR x y (p.From.getD i 0)/\(NQ v x y p).Args.getD j 0=v (p.Args.getD i 0):=by
 have hj':j<(Zz (Oz v x y p)).length:=by
  have:j<(List.map _ _).length:=hj;rwa[Dx]at this
 obtain⟨i,hi,e⟩:=(uq h2).1 (hp.mem_iff.1 (KQ hj'));refine⟨i,hi,?_,?_⟩
 ·show(List.map _ _).getD j 0=_
  rw[Ab _ _ _ (by rw[Dx];exact hj'),List.getElem_map,e]
 ·show(List.map _ _).getD j 0=_
  rw[Ab _ _ _ (by rw[Dx];exact hj'),List.getElem_map,e]
end
theorem Bd{f:TFunc}{l:Int}(R:CT f l):Gp f=true:=by
 have:=R.shape;unfold Fb at this;rw[A6]at this;exact this.1
theorem G7{f:TFunc}{l:Int}(R:CT f l):∀ b∈f.Blocks,∀ o∈b.Ops,Gs o=true:=λb hb o ho=>vN R hb ho
theorem Tf{f:TFunc}{l:Int}(R:CT f l){b:Nat}(hb:b<f.Blocks.length){p:TPhi}(hp:p∈(bA f b).Phis):p.From=prF f b/\p.Args.length=p.From.length:=by
 have hs:=R.shape;unfold Fb at hs;rw[A6]at hs;have:=fb hs.2 b hb;unfold Lb at this;simp only[A6,zzL27]at this;have:=this.2 p hp;unfold Js at this;rw[A6,Gq,zzL63]at this;refine⟨this.1,?_⟩;rw[this.1];omega
theorem Wt{f:TFunc}{l:Int}(R:CT f l){b:Nat}(hb:b<f.Blocks.length):Rc (sN (A2 f)) 0 b/\((bA f b).End.Kind=1\/(bA f b).End.Kind=3->(bA f b).End.Arg=0):=by
 have hs:=R.shape;unfold Fb at hs;rw[A6]at hs;have h0:=(shape_iff.1 hs.1).1.1;have:=fb hs.2 b hb;unfold Lb at this;simp only[A6]at this;refine⟨(eK (Jt hs.1) (by omega) b).1 this.1.1,λh=>?_⟩;have h2:=this.1.2;rcases h with h|h<;>rw[h]at h2<;>simpa using h2
theorem MK{f:TFunc}(hs:Gp f=true)(h:∀ b,b<f.Blocks.length->Rc (sN (A2 f)) 0 b/\((bA f b).End.Kind=1\/(bA f b).End.Kind=3->(bA f b).End.Arg=0)/\∀ p∈(bA f b).Phis,p.From=prF f b/\p.Args.length=p.From.length):Fb f=true:=by
 have h0:=(shape_iff.1 hs).1.1;unfold Fb;rw[hs,Lj,zzL27];intro b hb;rw[zzL40]at hb;obtain⟨h1,h2,h3⟩:=h b hb;unfold Lb;simp only[A6,zzL27];refine⟨⟨(eK (Jt hs) (by omega) b).2 h1,?_⟩,λp hp=>?_⟩
 ·by_cases hk:(bA f b).End.Kind=1\/(bA f b).End.Kind=3
  ·rw[h2 hk];simp
  ·have e:((bA f b).End.Kind==1 || (bA f b).End.Kind==3)=false:=by
    rw[KN,zzL30,zzL30];exact⟨λh=>hk (.inl h),λh=>hk (.inr h)⟩
   rw[e];rfl
 ·obtain⟨e1,e2⟩:=h3 p hp;unfold Js;rw[A6,Gq,zzL63];refine⟨e1,?_⟩;have e3:(Do (A2 f)).getD b []=prF f b:=rfl;rw[e3,<- e1];omega
theorem j5{v:Int->Int}{o:TOp}(h:Gs o=true)(hv:∀ a∈o.Args,valS (v a)=true):Gs (m9 v o)=true:=by
 simp only[Gs,A6]at h ⊢;refine⟨⟨h.1.1,⟨h.1.2.1,?_⟩⟩,?_,h.2.2⟩
 ·have:=h.1.2.2;unfold m9;rw[Dx];exact this
 ·unfold m9;rw[List.all_map,zzL27];exact hv
theorem mN{v:Int->Int}{l:Int}{o:TOp}(h:Ls l o=true)(hv:∀ a∈o.Args,valS (v a)=true):Ls l (m9 v o)=true:=by
 have hm:=j5 (DT h) hv;have hm0:=DT h;unfold Ls at h ⊢;rw[hm];rw[hm0]at h;exact h
theorem XT{v:Int->Int}{o:TOp}(h:Gs o=true)(hv:∀ a∈o.Args,valS (v a)=true):Gr (m9 v o)=Gr o:=by
 rw[HG (j5 h hv),HG h];rfl
def PhY(y:Nat)(d:Cc):Prop:=d.Block=(y:Int)/\d.At = -1
section
variable {f:TFunc} {x y:Nat} {l:Int} (J:Jn f x y) (R:CT f l)
include J R
theorem YS{p:TPhi}(hp:p∈(bA f y).Phis):p.Args.length=1/\(⟨p.Args.getD 0 0,(x:Int),1000,(p.Bits,1)⟩:D1)∈Bf f/\(⟨p.Dst,(y:Int),-1,(p.Bits,1)⟩:Cc)∈As f:=by
 have hs:=Bd R;have hy:=(LQ J hs).1;obtain⟨h1,h2⟩:=Tf R hy hp;rw[J.pred]at h1;rw[h1,ES]at h2;obtain⟨k,hk,e⟩:=Fx hp
 have e':(bA f y).Phis.getD k default=p:=by rw[Ab _ _ _ hk];exact e
 refine⟨h2,?_,ri_def.2 (.inr ⟨y,hy,.inl ⟨k,hk,by rw[e']⟩⟩)⟩;refine(H2 (G7 R)).2 ⟨y,hy,.inl ⟨k,0,hk,by rw[e'];omega,?_⟩⟩;rw[e',h1];rfl
theorem qm{d:Cc}(hd:d∈As f){b:Nat}(hb:b<f.Blocks.length){a:Int}(ha:0<=a)(ht:lK f d (b:Int) a) :
  ∃ e∈As f,e.V=vJ f y d.V/\e.Shape=d.Shape/\lK f e (b:Int) a/\¬ PhY y e:=by
 have hs:=Bd R;have hy:=LQ J hs;unfold vJ WA
 cases hq:(bA f y).Phis.find? (λp=>p.Dst==d.V) with
 | none=>
  refine⟨d,hd,rfl,rfl,ht,λ⟨h1,h2⟩=>?_⟩;rcases ri_def.1 hd with⟨i,hi,e⟩|⟨i,hi,⟨k,hk,e⟩|⟨k,hk,hg,e⟩⟩
  ·rw[e]at h1;have:(-1:Int)=(y:Int):=h1;omega
  ·rw[e]at h1
   have hiy:i=y:=by have:(i:Int)=(y:Int):=h1;omega
   subst hiy;have:=List.find?_eq_none.1 hq _ (Ag (d:=(default:TPhi)) hk);rw[e]at this;simp at this
  ·rw[e]at h2;have:(k:Int) = -1:=h2;omega
 | some p=>
  have hp:=List.mem_of_find?_eq_some hq
  have hpv:p.Dst=d.V:=by simpa using List.find?_some hq
  obtain⟨_,hu,hdp⟩:=YS J R hp;have hde:=qT R hd hdp hpv.symm;obtain⟨e,he,ev,es,et⟩:=KD R hu
  have hen:∀ i:Nat,e.Block=(i:Int)->i<f.Blocks.length:=λi hi=>by
   rcases ri_def.1 he with⟨j,_,e'⟩|⟨j,hj,⟨k,hk,e'⟩|⟨k,hk,hg,e'⟩⟩<;>rw[e']at hi
   ·have:(-1:Int)=(i:Int):=hi;omega
   ·have:(j:Int)=(i:Int):=hi;omega
   ·have:(j:Int)=(i:Int):=hi;omega
  have hnb:∀ i:Nat,e.Block=(i:Int)->Ly (B5 f) (i:Int) (x:Int)=true/\i≠y:=λi hi=>by
   have hin:=hen i hi
   have hov:Ly (B5 f) (i:Int) (x:Int)=true:=by
    rcases et with h|⟨h,_⟩|⟨_,h⟩
    ·omega
    ·have h:e.Block=(x:Int):=h
     have:i=x:=by omega
     rw[this];exact(V4 hs J.hx J.hx).2 ⟨(Wt R J.hx).1,λh=>u5 h rfl⟩
    ·rw[hi]at h;exact h
   exact⟨hov,λe=>gn J hs (by rw[<- e];exact hov)⟩
  refine⟨e,he,ev,by rw[es,hde],?_,λ⟨h1,_⟩=>(hnb y h1).2 rfl⟩
  by_cases h0:e.Block<0
  ·exact .inl h0
  ·obtain⟨i,hi⟩:∃ i:Nat,e.Block=(i:Int):=⟨e.Block.toNat,by omega⟩;have hin:=hen i hi;obtain⟨hov,hiy⟩:=hnb i hi;have hovy:Ly (B5 f) (i:Int) (y:Int)=true:=(xJ J hs hin hiy).2 hov;rw[hde]at ht;refine .inr (.inr ?_);rw[hi];rcases ht with h|⟨h,_⟩|⟨h1,h2⟩
   ·have:(y:Int)<0:=h;omega
   ·have h:(y:Int)=(b:Int):=h
    have:b=y:=by omega
    subst this;exact⟨by omega,hovy⟩
   ·have h1:(y:Int)≠(b:Int):=h1;have h2:Ly (B5 f) (y:Int) (b:Int)=true:=h2;refine⟨λe=>?_,RN hs hin hy.1 hb hovy h2⟩
    have:i=b:=by omega
    subst this;exact gn J hs (RN hs hy.1 hin J.hx h2 hov)
theorem xN{d:Cc}(hd:d∈As f):valS (vJ f y d.V)=true:=by
 unfold vJ WA
 cases hq:(bA f y).Phis.find? (λp=>p.Dst==d.V) with
 | none=>exact Yl R hd
 | some p=>
  obtain⟨_,hu,_⟩:=YS J R (List.mem_of_find?_eq_some hq);obtain⟨e,he,ev,_⟩:=KD R hu;have:=Yl R he;rw[ev]at this;exact this
theorem ba{u:D1}(hu:u∈Bf f):valS (vJ f y u.V)=true:=by
 obtain⟨d,hd,e,_⟩:=KD R hu;rw[<- e];exact xN J R hd
theorem bS{b:Nat}(hb:b<f.Blocks.length){o:TOp}(ho:o∈(bA f b).Ops):∀ a∈o.Args,valS (vJ f y a)=true:=λa ha=>by
 obtain⟨k,hk,e⟩:=Fx ho;obtain⟨j,hj,e2⟩:=Fx ha
 have e':(bA f b).Ops.getD k default=o:=by rw[Ab _ _ _ hk];exact e
 have:=ba J R ((H2 (G7 R)).2 ⟨b,hb,.inr (.inl ⟨k,j,hk,by rw[e'];exact hj,rfl⟩)⟩);rw[e',Ab _ _ _ hj,e2]at this;exact this
def offJ(f:TFunc)(x y b:Nat):Nat:=if b=y then(bA f x).Ops.length else 0
theorem JK{b:Nat}(hb:b<f.Blocks.length)(hby:b≠y):(bA (B7 f x y) (psJ x y b)).Phis=(bA f b).Phis.map (NQ (vJ f y) x y):=by
 rw[ta J (Bd R) hb hby];unfold GV Ki
 split
 ·rename_i e;rw[e]
 ·rfl
theorem QA:(bA (B7 f x y) (psJ x y x)).Ops=((bA f x).Ops++(bA f y).Ops).map (m9 (vJ f y)):=by
 rw[ta J (Bd R) J.hx (λh=>J.ne h.symm)];unfold GV Ki;rw[if_pos rfl]
theorem jj{b:Nat}(hb:b<f.Blocks.length)(hby:b≠y)(hbx:b≠x):(bA (B7 f x y) (psJ x y b)).Ops=(bA f b).Ops.map (m9 (vJ f y)):=by
 rw[ta J (Bd R) hb hby];unfold GV Ki;rw[if_neg hbx]
theorem qI:psJ x y y=psJ x y x:=by rcases ps_eq J.ne y with h|h|h<;>omega
theorem tZ{b:Nat}(hb:b<f.Blocks.length){k:Nat}(hk:k<(bA f b).Ops.length):k+offJ f x y b<(bA (B7 f x y) (psJ x y b)).Ops.length/\(bA (B7 f x y) (psJ x y b)).Ops.getD (k+offJ f x y b) default=m9 (vJ f y) ((bA f b).Ops.getD k default):=by
 unfold offJ
 by_cases ey:b=y
 ·subst ey;rw[if_pos rfl,qI J R,QA J R];refine⟨by rw[Dx,Fe];omega,?_⟩;rw[Ab _ _ _ (by rw[Dx,Fe];omega),List.getElem_map,List.getElem_append_right (by omega),Ab _ _ _ hk]
  congr 2;omega
 ·rw[if_neg ey,Nd]
  by_cases ex:b=x
  ·subst ex;rw[QA J R];refine⟨by rw[Dx,Fe];omega,?_⟩;rw[Ab _ _ _ (by rw[Dx,Fe];omega),List.getElem_map,List.getElem_append_left hk,Ab _ _ _ hk]
  ·rw[jj J R hb ey ex];refine⟨by rw[Dx];exact hk,?_⟩;rw[Ab _ _ _ (by rw[Dx];exact hk),List.getElem_map,Ab _ _ _ hk]
theorem mvJ{d:Cc}(hd:d∈As f){i:Nat}(hi:d.Block=(i:Int))(hp:¬ PhY y d):∃ e∈As (B7 f x y),e.V=d.V/\e.Shape=d.Shape/\e.Block=(psJ x y i:Int)/\e.At=d.At+(offJ f x y i:Int)/\i<f.Blocks.length/\d.At<((bA f i).Ops.length:Int):=by
 have hs:=Bd R;rcases ri_def.1 hd with⟨j,_,e⟩|⟨j,hj,h'⟩
 ·rw[e]at hi;have:(-1:Int)=(i:Int):=hi;omega
 ·have hij:j=i:=by rcases h' with⟨k,_,e⟩|⟨k,_,_,e⟩<;>rw[e]at hi<;>exact(by have:(j:Int)=(i:Int):=hi;omega)
  subst hij
  have hpl:psJ x y j<(B7 f x y).Blocks.length:=by rw[On J];exact Wh J hs hj
  rcases h' with⟨k,hk,e⟩|⟨k,hk,hg,e⟩
  ·have hjy:j≠y:=λh=>hp ⟨by rw[e,h],by rw[e]⟩;have h1:=JK J R hj hjy;refine⟨_,ri_def.2 (.inr ⟨_,hpl,.inl ⟨k,by rw[h1,Dx];exact hk,rfl⟩⟩),?_,?_,rfl,?_,hj,by rw[e];show(-1:Int)<_;omega⟩
   ·rw[h1,Ab _ _ _ (by rw[Dx];exact hk),List.getElem_map,e,Ab _ _ _ hk];rfl
   ·rw[h1,Ab _ _ _ (by rw[Dx];exact hk),List.getElem_map,e,Ab _ _ _ hk];rfl
   ·rw[e];unfold offJ;rw[if_neg hjy];rfl
  ·obtain⟨h1,h2⟩:=tZ J R hj hk;have hm:=G7 R _ (Ag (d:=default) hj) _ (Ag (d:=default) hk);have hv:=bS J R hj (Ag (d:=default) hk);have hgv:=XT hm hv;refine⟨_,ri_def.2 (.inr ⟨_,hpl,.inr ⟨k+offJ f x y j,h1,by rw[h2,hgv];exact hg,rfl⟩⟩),?_,?_,rfl,?_,hj,by rw[e];show(k:Int)<_;omega⟩
   ·rw[h2,e];rfl
   ·rw[h2,hgv,e]
   ·rw[e];show((k+offJ f x y j:Nat):Int)=(k:Int)+_;omega
theorem trJ{d:Cc}(hd:d∈As f)(hp:¬ PhY y d){b:Nat}(hb:b<f.Blocks.length){a:Int}(ha:0<=a)(ht:lK f d (b:Int) a) :
  ∃ e∈As (B7 f x y),e.V=d.V/\e.Shape=d.Shape/\lK (B7 f x y) e (psJ x y b) (a+(offJ f x y b:Int)):=by
 have hs:=Bd R;have hy:=LQ J hs
 by_cases h0:d.Block<0
 ·rcases ri_def.1 hd with⟨j,hj,e⟩|⟨j,hj,h'⟩
  ·exact⟨d,ri_def.2 (.inl ⟨j,hj,e⟩),rfl,rfl,.inl h0⟩
  ·exfalso
   rcases h' with⟨k,_,e⟩|⟨k,_,_,e⟩<;>rw[e]at h0<;>exact absurd h0 (by show ¬ (j:Int)<0;omega)
 ·obtain⟨i,hi⟩:∃ i:Nat,d.Block=(i:Int):=⟨d.Block.toNat,by omega⟩;obtain⟨e,he,ev,es,eb,ea,hin,hat⟩:=mvJ J R hd hi hp;refine⟨e,he,ev,es,?_⟩;have hpy:=qI J R
  have key:∀ c c',c<f.Blocks.length->c≠y->c'<f.Blocks.length->c'≠y->psJ x y c=psJ x y i->psJ x y c'=psJ x y b->c≠c'->Ly (B5 f) (c:Int) (c':Int)=true->lK (B7 f x y) e (psJ x y b) (a+(offJ f x y b:Int)):=λc c' hc hcy hc' hcy' e1 e2 hne ho=>by
   refine .inr (.inr ⟨?_,?_⟩)
   ·rw[eb,<- e1,<- e2];intro h;exact hne (g5 J.ne hcy hcy' (by omega))
   ·rw[eb,<- e1,<- e2];exact wz J hs hc hcy hc' hcy' ho
  rcases ht with h|⟨h1,h2⟩|⟨h1,h2⟩
  ·exact absurd h h0
  ·have:i=b:=by omega
   subst this;exact .inr (.inl ⟨eb,by rw[ea];omega⟩)
  ·rw[hi]at h1 h2;have hib:i≠b:=λh=>h1 (by rw[h])
   by_cases eiy:i=y
   ·subst eiy;have hxb:Ly (B5 f) (x:Int) (b:Int)=true:=RN hs J.hx hin hb ((xJ J hs J.hx (λh=>J.ne h.symm)).2 ((V4 hs J.hx J.hx).2 ⟨(Wt R J.hx).1,λh=>u5 h rfl⟩)) h2;have hbx:x≠b:=λh=>gn J hs (by rw[h];exact h2);exact key x b J.hx (λh=>J.ne h.symm) hb (λh=>hib h.symm) hpy.symm rfl hbx hxb
   ·by_cases eby:b=y
    ·subst eby
     by_cases eix:i=x
     ·subst eix;refine .inr (.inl ⟨by rw[eb,hpy],?_⟩);rw[ea];unfold offJ;rw[if_neg (λh=>J.ne h.symm),if_pos rfl];omega
     ·exact key i x hin eiy J.hx (λh=>J.ne h.symm) rfl hpy.symm eix ((xJ J hs hin eiy).1 h2)
    ·exact key i b hin eiy hb eby rfl rfl hib h2
theorem mh{u:D1}(hu:u∈Bf f){b:Nat}(hb:b<f.Blocks.length)(e1:u.Block=(b:Int))(ha:0<=u.At) :
  ∃ e∈As (B7 f x y),e.V=vJ f y u.V/\e.Shape=u.Shape/\lK (B7 f x y) e (psJ x y b) (u.At+(offJ f x y b:Int)):=by
 obtain⟨d,hd,hv,hsh,ht⟩:=KD R hu;rw[e1]at ht;obtain⟨d1,hd1,v1,s1,t1,p1⟩:=qm J R hd hb ha ht;obtain⟨e,he,ev,es,et⟩:=trJ J R hd1 p1 hb ha t1;exact⟨e,he,by rw[ev,v1,hv],by rw[es,s1,hsh],et⟩
end
structure Nw(f:TFunc):Prop where
 inf:UR f
 params:f.Params.length<=64
 to:∀ b∈f.Blocks,b.End.To.length<=2
 phi:∀ b∈f.Blocks,∀ p∈b.Phis,p.From.length<=16/\p.Args.length<=16
 op:∀ b∈f.Blocks,∀ o∈b.Ops,o.Args.length<=16
 size:sizeN f<=512
theorem ju{f:TFunc}(h:Nw f):Sm f:=by
 refine zo h.inf h.params (λb hb=>⟨by have:=h.to b hb;omega,λp hp=>by have:=h.phi b hb p hp;omega,λo ho=>by have:=h.op b hb o ho;omega⟩) ?_
 have hB:∀ b∈f.Blocks,VB b<=33*Ex b:=λb hb=>by
  have h1:(b.Phis.map cu).sum<=b.Phis.length*33:=iJ _ _ _ λp hp=>by have:=h.phi b hb p hp;unfold cu;omega
  have h2:(b.Ops.map cr).sum<=b.Ops.length*33:=iJ _ _ _ λo ho=>by have:=h.op b hb o ho;unfold cr;omega
  have h3:=h.to b hb;unfold VB Ex;omega
 have hS:∀ l:List Ae,(∀ b∈l,VB b<=33*Ex b)->(l.map VB).sum<=33*(l.map Ex).sum:=λl=>by
  induction l with
  | nil=>intro _;simp
  | cons b l ih=>
   intro hl;have h1:=hl b (zzL53 ..);have h2:=ih λx hx=>hl x (Ob _ hx);simp only[Cq,TA];omega
 have h1:=hS _ hB;have h2:=h.size;have h3:=h.params;unfold sizeN at h2;unfold fu;omega
def Tk(n:Nat)(F:Nat->Nat):Nat:=((List.range n).map F).sum
theorem R0(n:Nat)(F:Nat->Nat):Tk (n+1) F=Tk n F+F n:=by
 unfold Tk;rw[Xb,W8,List.sum_append];simp
theorem Yn{n:Nat}{F G:Nat->Nat}(h:∀ i,i<n->F i=G i):Tk n F=Tk n G:=by
 unfold Tk;rw[MR λi hi=>h i (zzL40.1 hi)]
theorem uX{n:Nat}{F G:Nat->Nat}(h:∀ i,i<n->F i<=G i):Tk n F<=Tk n G:=by
 induction n with
 | zero=>exact zzL6 _
 | succ n ih=>rw[R0,R0];have:=ih λi hi=>h i (by omega);have:=h n (by omega);omega
theorem Wy{n:Nat}{F:Nat->Nat}{i:Nat}(h:i<n):F i<=Tk n F:=by
 induction n with
 | zero=>omega
 | succ n ih=>
  rw[R0]
  by_cases e:i=n
  ·subst e;omega
  ·have:=ih (by omega);omega
theorem kL{y:Nat}(F:Nat->Nat):∀ n,y<n->Tk (n-1) (λk=>F (IU y k))+F y=Tk n F
 | 0,h=>by omega
 | n+1,h=>by
  rw[R0,show n+1-1=n by omega]
  by_cases e:y=n
  ·have e2:Tk n (λk=>F (IU y k))=Tk n F:=Yn λi hi=>by
    have:IU y i=i:=by rcases up_eq y i with h|h<;>omega
    rw[this]
   rw[e2,e]
  ·obtain⟨m,rfl⟩:∃ m,n=m+1:=⟨n-1,by omega⟩;have:=kL (y:=y) F (m+1) (by omega);rw[show m+1-1=m by omega]at this
   have e3:IU y m=m+1:=by rcases up_eq y m with h|h<;>omega
   have e4:Tk (m+1) (λk=>F (IU y k))=Tk m (λk=>F (IU y k))+F (IU y m):=R0 ..;rw[e4,e3];omega
theorem kK{x:Nat}(F:Nat->Nat)(c:Nat):∀ n,x<n->Tk n (λb=>if b=x then F b+c else F b)=Tk n F+c
 | 0,h=>by omega
 | n+1,h=>by
  rw[R0,R0]
  by_cases e:n=x
  ·subst e;rw[if_pos rfl,Yn (G:=F) λi hi=>by rw[if_neg (by omega)]];omega
  ·rw[if_neg e,kK F c n (by omega)];omega
theorem M2(f:TFunc):sizeN f=Tk f.Blocks.length λb=>Ex (bA f b):=by
 unfold sizeN Tk
 congr 1
 apply CI
 ·simp
 ·intro i h1 h2;simp at h1 h2 ⊢;simp[h1]
theorem mayF_iff{f:TFunc}:Q1 f=true↔(1<=f.Blocks.length/\f.Blocks.length<=64)/\f.Params.length<=16/\listB f.Params=true/\numB f.Ret=true/\sizeW f<=512/\∀ b∈f.Blocks,blockB b=true:=by
 unfold Q1;simp only[A6,Gq,zzL27,and_assoc]
theorem numBJ{n:Int}:numB n=true↔0<=n/\n<=2147483647:=by unfold numB;rw[A6,Gq,Gq]
theorem listBJ{l:List Int}:listB l=true↔(∀ n∈l,0<=n/\n<=2147483647)/\l.length<=64:=by
 unfold listB;rw[A6,zzL27,Gq];exact⟨λh=>⟨λn hn=>numBJ.1 (h.1 n hn),h.2⟩,λh=>⟨λn hn=>numBJ.2 (h.1 n hn),h.2⟩⟩
theorem IF{v:Int}(h:valS v=true):0<=v/\v<=2147483647:=by
 unfold valS at h;simp only[A6,Gq]at h;omega
section
variable {f:TFunc} {x y:Nat} {l:Int} (J:Jn f x y) (R:CT f l)
include J R
theorem gG:sizeN (B7 f x y)+(bA f y).Phis.length+1=sizeN f:=by
 have hy:=(LQ J (Bd R)).1;rw[M2,M2,On J]
 have h1:Tk (f.Blocks.length-1) (λb=>Ex (bA (B7 f x y) b))=Tk (f.Blocks.length-1) (λk=>(λb=>Ex (Ki f x y b)) (IU y k)):=Yn λi hi=>by
  rw[zH J hi];unfold GV Ex
  simp
 have h2:=kL (y:=y) (λb=>Ex (Ki f x y b)) f.Blocks.length hy
 have h3:Tk f.Blocks.length (λb=>Ex (Ki f x y b))=Tk f.Blocks.length (λb=>if b=x then Ex (bA f b)+(bA f y).Ops.length else Ex (bA f b)):=Yn λi hi=>by
  unfold Ki
  split
  ·rename_i e;subst e;unfold Ex;simp;omega
  ·rfl
 rw[kK (x:=x) (λb=>Ex (bA f b)) _ _ J.hx]at h3
 have h4:Ex (Ki f x y y)=Ex (bA f y):=by unfold Ki;rw[if_neg J.ne]
 have h2':Tk (f.Blocks.length-1) (λk=>(λb=>Ex (Ki f x y b)) (IU y k))+Ex (Ki f x y y)=_:=h2;rw[h4]at h2';unfold Ex at h2' h3 h1 ⊢;omega
theorem XE{b:Ae}(hb:b∈(B7 f x y).Blocks):∃ c,c<f.Blocks.length/\c≠y/\b=bA (B7 f x y) (psJ x y c)/\b.Phis=(bA f c).Phis.map (NQ (vJ f y) x y)/\(∀ o∈b.Ops,∃ d,d<f.Blocks.length/\∃ o'∈(bA f d).Ops,o=m9 (vJ f y) o') /\
  b.End=pF (vJ f y) x y (bA f (Tj x y c)).End/\Tj x y c<f.Blocks.length:=by
 have hs:=Bd R;have hy:=(LQ J hs).1;obtain⟨k,hk,e⟩:=Fx hb
 have e':bA (B7 f x y) k=b:=by unfold bA;rw[Ab _ _ _ hk];exact e
 rw[On J]at hk;have hu:=eY hy hk;have hun:=YN y k;have hps:=eA J.ne (x:=x) k;refine⟨IU y k,hu,hun,by rw[hps,e'],?_,λo ho=>?_,?_,Ym J hs hu⟩
 ·rw[<- e',<- JK J R hu hun,hps]
 ·rw[<- e',<- hps]at ho
  by_cases ex:IU y k=x
  ·rw[ex,QA J R]at ho;obtain⟨o',ho',rfl⟩:=zzL21.1 ho;rcases zzL11.1 ho' with h|h
   ·exact⟨x,J.hx,o',h,rfl⟩
   ·exact⟨y,hy,o',h,rfl⟩
  ·rw[jj J R hu hun ex]at ho;obtain⟨o',ho',rfl⟩:=zzL21.1 ho;exact⟨_,hu,o',ho',rfl⟩
 ·rw[<- e',<- PZ J hs hu hun,hps]
theorem end_val{c:Nat}(hc:c<f.Blocks.length):(((bA f c).End.Kind=0\/(bA f c).End.Kind=2)/\valS (vJ f y (bA f c).End.Arg)=true)\/(((bA f c).End.Kind=1\/(bA f c).End.Kind=3)/\(bA f c).End.Arg=0/\vJ f y (bA f c).End.Arg=0):=by
 have hs:=Bd R
 have hk:(bA f c).End.Kind=0\/(bA f c).End.Kind=1\/(bA f c).End.Kind=2\/(bA f c).End.Kind=3:=by
  have h3:Kf (bA f c).End f.Blocks.length=true:=(shape_iff.1 hs).2 c hc;unfold Kf Y0 at h3;simp only[A6,Gq]at h3;have:=h3.1.1;omega
 have hu:∀ b,(⟨(bA f c).End.Arg,(c:Int),1000,(b,1)⟩:D1)∈Bf f->valS (vJ f y (bA f c).End.Arg)=true:=λb h=>ba J R h
 have h13:(bA f c).End.Kind=1\/(bA f c).End.Kind=3->(bA f c).End.Arg=0/\vJ f y (bA f c).End.Arg=0:=λh=>by
  have h0:=(Wt R hc).2 h;refine⟨h0,?_⟩;rw[h0];unfold vJ WA;rw[List.find?_eq_none.2];intro p hp;have:=Yl R (YS J R hp).2.2;have:valS p.Dst=true:=this;unfold valS at this;simp only[A6,Gq]at this
  simp;omega
 rcases hk with h|h|h|h
 ·exact .inl ⟨.inl h,hu _ ((H2 (G7 R)).2 ⟨c,hc,.inr (.inr (.inl ⟨h,rfl⟩))⟩)⟩
 ·exact .inr ⟨.inl h,h13 (.inl h)⟩
 ·exact .inl ⟨.inr h,hu _ ((H2 (G7 R)).2 ⟨c,hc,.inr (.inr (.inr ⟨h,rfl⟩))⟩)⟩
 ·exact .inr ⟨.inr h,h13 (.inr h)⟩
theorem d8{c:Nat}(hc:c<f.Blocks.length){p:TPhi}(hp:p∈(bA f c).Phis){i:Nat}(hi:i<p.Args.length):(⟨p.Args.getD i 0,p.From.getD i 0,1000,(p.Bits,1)⟩:D1)∈Bf f:=by
 obtain⟨k,hk,e⟩:=Fx hp
 have e':(bA f c).Phis.getD k default=p:=by rw[Ab _ _ _ hk];exact e
 refine(H2 (G7 R)).2 ⟨c,hc,.inl ⟨k,i,hk,by rw[e'];exact hi,by rw[e']⟩⟩
theorem vG(hsz:sizeN f<=512):Q1 (B7 f x y)=true:=by
 have hs:=Bd R;have hy:=LQ J hs;have hsz':=gG J R;obtain⟨⟨m1,m2⟩,m3,m4,m5,m6,m7⟩:=mayF_iff.1 R.may;refine mayF_iff.2 ⟨by rw[On J];have:=J.hx;have:=J.ne;omega,m3,m4,m5,?_,λb hb=>?_⟩
 ·unfold sizeW;rw[Vd (by omega)];omega
 ·obtain⟨c,hc,hcy,_,e1,e2,e3,hsc⟩:=XE J R hb;refine blockB_iff.2 ⟨λp hp=>?_,λo ho=>?_,?_⟩
  ·rw[e1]at hp;obtain⟨q,hq,rfl⟩:=zzL21.1 hp;obtain⟨q1,q2⟩:=Tf R hc hq;obtain⟨p1,p2,p3,p4,_⟩:=OM J hs (v:=vJ f y) hc hcy q1 q2;have hb0:=(blockB_iff.1 (m7 _ (Ag (d:=default) hc))).1 q hq;unfold FL at hb0 ⊢;simp only[A6,and_assoc]at hb0 ⊢;obtain⟨n1,n2,n3,n4⟩:=hb0;refine⟨n1,n2,listBJ.2 ⟨λn hn=>?_,?_⟩,listBJ.2 ⟨λn hn=>?_,?_⟩⟩
   ·rw[p1]at hn;obtain⟨w,rfl,hw,_⟩:=(Q5 (j_shapeB J hs) (by rw[On J];exact Wh J hs hc)).1 hn;rw[On J]at hw;omega
   ·rw[p3];exact(listBJ.1 n3).2
   ·obtain⟨j,hj,e⟩:=Fx hn;obtain⟨i,hi,_,h2⟩:=j9 J hs q2 p4 hj;rw[Ab _ _ _ hj,e]at h2;rw[h2];exact IF (ba J R (d8 J R hc hq hi))
   ·rw[p2];exact(listBJ.1 n4).2
  ·obtain⟨d,hd,o',ho',rfl⟩:=e2 o ho;have hb0:=(blockB_iff.1 (m7 _ (Ag (d:=default) hd))).2.1 o' ho';unfold fC at hb0 ⊢;simp only[A6,and_assoc]at hb0 ⊢;obtain⟨n1,n2,n3,n4,n5⟩:=hb0;refine⟨n1,n2,n3,n4,listBJ.2 ⟨λn hn=>?_,?_⟩⟩
   ·obtain⟨a,ha,rfl⟩:=zzL21.1 hn;exact IF (bS J R hd ho' a ha)
   ·show(List.map _ _).length<=_;rw[Dx];exact(listBJ.1 n5).2
  ·have hb0:=(blockB_iff.1 (m7 _ (Ag (d:=default) hsc))).2.2;rw[e3];unfold cq at hb0 ⊢;simp only[A6,and_assoc]at hb0 ⊢;obtain⟨n1,n2,n3⟩:=hb0;refine⟨n1,?_,listBJ.2 ⟨λn hn=>?_,?_⟩⟩
   ·rcases end_val J R hsc with⟨_,h⟩|⟨_,_,h⟩
    ·exact numBJ.2 (IF h)
    ·show numB (vJ f y _)=true;rw[h];rfl
   ·obtain⟨z,hz,rfl⟩:=zzL21.1 hn;obtain⟨w,rfl,hw,_⟩:=FR hs hsc hz;rw[Pi];have:=Wh J hs hw;omega
   ·show(List.map _ _).length<=_;rw[Dx];exact(listBJ.1 n3).2
theorem pX:Fb (B7 f x y)=true:=by
 have hs:=Bd R;have hy:=LQ J hs;refine MK (j_shapeB J hs) λk hk=>?_;rw[On J]at hk;have hu:=eY hy.1 hk;have hun:=YN y k;have hps:=eA J.ne (x:=x) k;refine⟨?_,?_,λp hp=>?_⟩
 ·have:=(jk J hs (Wt R hu).1).2;rwa[hps]at this
 ·rw[<- hps,PZ J hs hu hun];intro h;have hsc:=Ym J hs hu;rcases end_val J R hsc with⟨h1,_⟩|⟨_,_,h2⟩
  ·have h:(bA f (Tj x y (IU y k))).End.Kind=1\/(bA f (Tj x y (IU y k))).End.Kind=3:=h;omega
  ·exact h2
 ·rw[<- hps,JK J R hu hun]at hp;obtain⟨q,hq,rfl⟩:=zzL21.1 hp;obtain⟨q1,q2⟩:=Tf R hu hq;obtain⟨p1,p2,p3,_⟩:=OM J hs (v:=vJ f y) hu hun q1 q2;rw[hps]at p1;exact⟨p1,by rw[p2,p3,q2]⟩
theorem tb:N8 (B7 f x y) l=true:=by
 have h:=R.typed;simp only[N8,Fz,A6,zzL27]at h ⊢;obtain⟨⟨t1,t2⟩,t3⟩:=h;refine⟨⟨t1,λb hb=>?_⟩,t3⟩;obtain⟨c,hc,hcy,_,e1,e2,e3,hsc⟩:=XE J R hb;refine⟨λp hp=>?_,λo ho=>?_⟩
 ·rw[e1]at hp;obtain⟨q,hq,rfl⟩:=zzL21.1 hp;exact(t2 _ (Ag (d:=default) hc)).1 q hq
 ·obtain⟨d,hd,o',ho',rfl⟩:=e2 o ho;exact mN (eL R (Ag (d:=default) hd) ho') (bS J R hd ho')
theorem pV{s:List TOp}(h:∀ o∈s,∃ d,d<f.Blocks.length/\o∈(bA f d).Ops):ZZ (s.map (m9 (vJ f y)))=ZZ s:=by
 unfold ZZ
 induction s with
 | nil=>rfl
 | cons o s ih=>
  obtain⟨d,hd,ho⟩:=h o (by simp);have hg:=XT (G7 R _ (Ag (d:=default) hd) _ ho) (bS J R hd ho);rw[Cq,List.filter_cons,List.filter_cons,hg];have:=ih λo ho=>h o (by simp[ho])
  split
  ·rw[Cq,Cq,this];rfl
  ·exact this
theorem zJ{b:Nat}(hb:b<f.Blocks.length)(hby:b≠y):UP (bA (B7 f x y) (psJ x y b))=if b=x then UP (bA f x)++ZZ (bA f y).Ops else UP (bA f b):=by
 have hy:=(LQ J (Bd R)).1
 have h1:(bA (B7 f x y) (psJ x y b)).Phis.map (·.Dst)=(bA f b).Phis.map (·.Dst):=by
  rw[JK J R hb hby,List.map_map];rfl
 unfold UP;rw[h1]
 split
 ·rename_i e
  subst e;rw[QA J R,pV J R,EU]
  ·congr 1
   unfold ZZ;rw[W5,W8]
  ·intro o ho;rcases zzL11.1 ho with h|h
   ·exact⟨_,hb,h⟩
   ·exact⟨_,hy,h⟩
 ·rename_i e
  rw[jj J R hb hby e,pV J R];exact λo ho=>⟨_,hb,ho⟩
theorem QC{b:Nat}(hb:b<f.Blocks.length)(hby:b≠y){v:Int}(hv:v∈UP (bA (B7 f x y) (psJ x y b))):∃ c,c<f.Blocks.length/\(c=b\/(b=x/\c=y))/\v∈UP (bA f c):=by
 rw[zJ J R hb hby]at hv
 split at hv
 ·rename_i e
  rcases zzL11.1 hv with h|h
  ·exact⟨b,hb,.inl rfl,by rw[e];exact h⟩
  ·exact⟨y,(LQ J (Bd R)).1,.inr ⟨e,rfl⟩,by unfold UP;exact zzL11.2 (.inr h)⟩
 ·exact⟨b,hb,.inl rfl,hv⟩
theorem gH(hsz:sizeN f<=512)(hok:OkF (B7 f x y)):CT (B7 f x y) l:=by
 have hs:=Bd R;have hy:=LQ J hs;have hgt:=tb J R
 have hgm:∀ b∈(B7 f x y).Blocks,∀ o∈b.Ops,Gs o=true:=λb hb o ho=>by
  simp only[N8,Fz,A6,zzL27]at hgt;exact DT ((hgt.1.2 b hb).2 o ho)
 obtain⟨N1,N2,N3⟩:=(nodup_split f).1 (Xn (DQ R).1)
 have pos_of:∀ k,k<(B7 f x y).Blocks.length->∃ b,b<f.Blocks.length/\b≠y/\psJ x y b=k:=λk hk=>by
  rw[On J]at hk;exact⟨IU y k,eY hy.1 hk,YN y k,eA J.ne k⟩
 have hcap:∀{d:Cc} {b a:Int},d∈As (B7 f x y)->lK (B7 f x y) d b a->lK (B7 f x y) d b 1000:=λ{d b a} hd h=>by
  rcases h with h|⟨h1,h2⟩|h
  ·exact .inl h
  ·refine .inr (.inl ⟨h1,?_⟩);rcases defs_in hok d hd with h3|⟨_,_,h3⟩
   ·rcases ri_def.1 hd with⟨i,_,e⟩|⟨i,_,⟨k,_,e⟩|⟨k,_,_,e⟩⟩
    ·rw[e];show(0:Int)<1000;omega
    ·rw[e]at h3;have:(i:Int) = -1:=h3;omega
    ·rw[e]at h3;have:(i:Int) = -1:=h3;omega
   ·exact h3
  ·exact .inr (.inr h)
 refine⟨vG J R hsz,pX J R,hgt,SC ((nodup_split _).2 ⟨λk hk=>?_,λk m hk hm hne v hv hw=>?_,λi hi k hk hv=>?_⟩) (λd hd=>?_) (λu hu=>?_)⟩
 ·obtain⟨b,hb,hby,rfl⟩:=pos_of k hk;rw[zJ J R hb hby]
  split
  ·rename_i e
   rw[List.nodup_append];have hn:=N1 y hy.1;unfold UP at hn;rw[List.nodup_append]at hn;refine⟨N1 x J.hx,hn.2.1,λa ha c hc hac=>?_⟩;exact N2 x y J.hx hy.1 (λh=>J.ne h.symm) a ha (by unfold UP;exact zzL11.2 (.inr (hac▸hc)))
  ·exact N1 b hb
 ·obtain⟨b,hb,hby,rfl⟩:=pos_of k hk;obtain⟨c,hc,hcy,rfl⟩:=pos_of m hm;have hbc:b≠c:=λe=>hne (by rw[e]);obtain⟨b',hb',eb,hvb⟩:=QC J R hb hby hv;obtain⟨c',hc',ec,hvc⟩:=QC J R hc hcy hw;refine N2 b' c' hb' hc' ?_ v hvb hvc;rcases eb with e1|e1<;>rcases ec with e2|e2<;>omega
 ·obtain⟨b,hb,hby,rfl⟩:=pos_of k hk;obtain⟨b',hb',_,hvb⟩:=QC J R hb hby hv;exact N3 i hi b' hb' hvb
 ·rcases ri_def.1 hd with⟨i,hi,e⟩|⟨k,hk,⟨j,hj,e⟩|⟨j,hj,hg,e⟩⟩
  ·rw[e];exact Yl R (d:=⟨(i:Int)+1,-1,0,(f.Params.getD i 0,1)⟩) (ri_def.2 (.inl ⟨i,hi,rfl⟩))
  ·obtain⟨b,hb,hby,rfl⟩:=pos_of k hk;rw[e]
   have h1:=JK J R hb hby
   rw[h1,Dx]at hj
   show valS ((bA (B7 f x y) (psJ x y b)).Phis.getD j default).Dst=true
   rw[h1,Ab _ _ _ (by rw[Dx];exact hj),List.getElem_map];have:=Yl R (d:=⟨((bA f b).Phis.getD j default).Dst,b,-1,(((bA f b).Phis.getD j default).Bits,1)⟩) (ri_def.2 (.inr ⟨b,hb,.inl ⟨j,hj,rfl⟩⟩));rw[Ab _ _ _ hj]at this;exact this
  ·rw[e];exact WZ (hgm _ (Ag (d:=default) hk) _ (Ag (d:=default) hj)) hg
 ·obtain⟨k,hk,hcase⟩:=(H2 hgm).1 hu;obtain⟨b,hb,hby,rfl⟩:=pos_of k hk;have hsc:=Ym J hs hb
  have hpsrc:psJ x y (Tj x y b)=psJ x y b:=by
   unfold Tj;split
   ·rename_i e;rw[e];exact qI J R
   ·rfl
  rcases hcase with⟨k,j,hk',hj,e⟩|⟨k,j,hk',hj,e⟩|⟨hK,e⟩|⟨hK,e⟩
  ·have h1:=JK J R hb hby
   rw[h1,Dx]at hk';have hq:=Ag (d:=(default:TPhi)) hk';obtain⟨q1,q2⟩:=Tf R hb hq;obtain⟨p1,p2,p3,p4,_⟩:=OM J hs (v:=vJ f y) hb hby q1 q2
   have eq:(bA (B7 f x y) (psJ x y b)).Phis.getD k default=NQ (vJ f y) x y ((bA f b).Phis.getD k default):=by
    rw[h1,Ab _ _ _ (by rw[Dx];exact hk'),List.getElem_map,Ab _ _ _ hk']
   rw[eq]at e hj;obtain⟨i,hi,e1,e2⟩:=j9 J hs q2 p4 hj;rw[e1,e2]at e;have hu':=d8 J R hb hq hi;obtain⟨c,ec,hc,_⟩:=(Q5 hs hb).1 (show((bA f b).Phis.getD k default).From.getD i 0∈prF f b by rw[<- q1];exact Ag (by omega));rw[ec]at hu' e;obtain⟨d',m1,m2,m3,m4⟩:=mh J R hu' hc rfl (show(0:Int)<=1000 by omega);rw[Pi]at e;rw[e];exact⟨d',m1,m2,m3,hcap m1 m4⟩
  ·by_cases ex:b=x
   ·subst ex;have ho:=QA J R;rw[ho,Dx,Fe]at hk'
    by_cases hkx:k<(bA f b).Ops.length
    ·have h2:=(tZ J R hb hkx).2
     have hof:offJ f b y b=0:=by unfold offJ;rw[if_neg hby]
     rw[hof,Nd]at h2;rw[h2]at e hj
     have hj':j<((bA f b).Ops.getD k default).Args.length:=by have:j<(List.map _ _).length:=hj;rwa[Dx]at this
     have hu':=(H2 (G7 R) (f:=f)).2 ⟨b,hb,.inr (.inl ⟨k,j,hkx,hj',rfl⟩)⟩;obtain⟨d',m1,m2,m3,m4⟩:=mh J R hu' hb rfl (show(0:Int)<=(k:Int) by omega);rw[hof]at m4;refine⟨d',m1,?_,?_,?_⟩
     ·rw[m2,e];exact(HP hj').symm
     ·rw[m3,e];rfl
     ·rw[e];simpa using m4
    ·have hky:k-(bA f b).Ops.length<(bA f y).Ops.length:=by omega
     have h2:=(tZ J R hy.1 hky).2
     have hof:offJ f b y y=(bA f b).Ops.length:=by unfold offJ;rw[if_pos rfl]
     rw[hof,qI J R,show k-(bA f b).Ops.length+(bA f b).Ops.length=k by omega]at h2;rw[h2]at e hj
     have hj':j<((bA f y).Ops.getD (k-(bA f b).Ops.length) default).Args.length:=by have:j<(List.map _ _).length:=hj;rwa[Dx]at this
     have hu':=(H2 (G7 R) (f:=f)).2 ⟨y,hy.1,.inr (.inl ⟨k-(bA f b).Ops.length,j,hky,hj',rfl⟩)⟩;obtain⟨d',m1,m2,m3,m4⟩:=mh J R hu' hy.1 rfl (show(0:Int)<=((k-(bA f b).Ops.length:Nat):Int) by omega);rw[hof,qI J R]at m4;refine⟨d',m1,?_,?_,?_⟩
     ·rw[m2,e];exact(HP hj').symm
     ·rw[m3,e];rfl
     ·rw[e]
      have e4:(((k-(bA f b).Ops.length:Nat):Int)+((bA f b).Ops.length:Int))=(k:Int):=by omega
      have m4':lK (B7 f b y) d' (psJ b y b:Int) (((k-(bA f b).Ops.length:Nat):Int)+((bA f b).Ops.length:Int)):=m4;rw[e4]at m4';exact m4'
   ·have ho:=jj J R hb hby ex;rw[ho,Dx]at hk';have h2:=(tZ J R hb hk').2
    have hof:offJ f x y b=0:=by unfold offJ;rw[if_neg hby]
    rw[hof,Nd]at h2;rw[h2]at e hj
    have hj':j<((bA f b).Ops.getD k default).Args.length:=by have:j<(List.map _ _).length:=hj;rwa[Dx]at this
    have hu':=(H2 (G7 R) (f:=f)).2 ⟨b,hb,.inr (.inl ⟨k,j,hk',hj',rfl⟩)⟩;obtain⟨d',m1,m2,m3,m4⟩:=mh J R hu' hb rfl (show(0:Int)<=(k:Int) by omega);rw[hof]at m4;refine⟨d',m1,?_,?_,?_⟩
    ·rw[m2,e];exact(HP hj').symm
    ·rw[m3,e];rfl
    ·rw[e];simpa using m4
  ·rw[PZ J hs hb hby]at hK e;have hu':=(H2 (G7 R) (f:=f)).2 ⟨_,hsc,.inr (.inr (.inl ⟨hK,rfl⟩))⟩;obtain⟨d',m1,m2,m3,m4⟩:=mh J R hu' hsc rfl (show(0:Int)<=1000 by omega);rw[hpsrc]at m4;rw[e];exact⟨d',m1,m2,m3,hcap m1 m4⟩
  ·rw[PZ J hs hb hby]at hK e;have hu':=(H2 (G7 R) (f:=f)).2 ⟨_,hsc,.inr (.inr (.inr ⟨hK,rfl⟩))⟩;obtain⟨d',m1,m2,m3,m4⟩:=mh J R hu' hsc rfl (show(0:Int)<=1000 by omega);rw[hpsrc]at m4;rw[e];exact⟨d',m1,m2,m3,hcap m1 m4⟩
end
theorem Aau{f:TFunc}{x y:Nat}{l:Int}(J:Jn f x y)(R:CT f l)(hN:Nw f):Nw (B7 f x y):=by
 have hs:=Bd R;have hmx:maxLen=9223372036854775807:=M1;have hsz:=gG J R;have hszf:=hN.size
 have hblk:∀ b∈(B7 f x y).Blocks,Ex b<=512:=λb hb=>by
  obtain⟨k,hk,e⟩:=Fx hb;have:=Wy (F:=λb=>Ex (bA (B7 f x y) b)) hk;rw[<- M2]at this
  have e':bA (B7 f x y) k=b:=by unfold bA;rw[Ab _ _ _ hk];exact e
  simp only[e']at this;omega
 have hto:∀ b∈(B7 f x y).Blocks,b.End.To.length<=2:=λb hb=>by
  obtain⟨c,hc,hcy,_,e1,e2,e3,hsc⟩:=XE J R hb;rw[e3]
  show(List.map _ _).length<=2
  rw[Dx];exact hN.to _ (Ag (d:=default) hsc)
 have hphi:∀ b∈(B7 f x y).Blocks,∀ p∈b.Phis,p.From.length<=16/\p.Args.length<=16:=λb hb p hp=>by
  obtain⟨c,hc,hcy,_,e1,e2,e3,hsc⟩:=XE J R hb;rw[e1]at hp;obtain⟨q,hq,rfl⟩:=zzL21.1 hp;obtain⟨q1,q2⟩:=Tf R hc hq;obtain⟨_,p2,p3,_⟩:=OM J hs (v:=vJ f y) hc hcy q1 q2;rw[p2,p3];exact hN.phi _ (Ag (d:=default) hc) q hq
 have hop:∀ b∈(B7 f x y).Blocks,∀ o∈b.Ops,o.Args.length<=16/\0<=o.Imm/\o.Imm<18446744073709551616:=λb hb o ho=>by
  obtain⟨c,hc,hcy,_,e1,e2,e3,hsc⟩:=XE J R hb;obtain⟨d,hd,o',ho',rfl⟩:=e2 o ho;have h1:=hN.op _ (Ag (d:=default) hd) o' ho';have h2:=hN.inf.op _ (Ag (d:=default) hd) o' ho';refine⟨?_,h2.2⟩
  show(List.map _ _).length<=_
  rw[Dx];exact h1
 refine⟨⟨hN.inf.params,?_,λb hb=>?_,λb hb p hp=>?_,λb hb o ho=>?_⟩,hN.params,hto,hphi,λb hb o ho=>(hop b hb o ho).1,by omega⟩
 ·rw[On J];have:=hN.inf.blocks;omega
 ·have:=hblk b hb;have h2:=hto b hb;unfold Ex at this;omega
 ·have:=hphi b hb p hp;omega
 ·have:=hop b hb o ho;exact⟨by omega,this.2⟩
theorem QD{f:TFunc}{x y:Nat}{l:Int}(J:Jn f x y)(R:CT f l)(hN:Nw f):CT (B7 f x y) l/\Nw (B7 f x y):=
 have hn:=Aau J R hN
 ⟨gH J R hN.size (kH (ju hn) (vG J R hN.size)),hn⟩
theorem pi{α σ S X:Type}(l:List α)(d:α)(mk:Nat->σ->S)(P:Nat->σ->Prop)(g:σ->α->σ)(out:σ->X)(f:S->Option (LR S X))
  (hn:∀ i s,i<l.length->P i s->f (mk i s)=some (.next (mk (i+1) (g s (l.getD i d))))/\P (i+1) (g s (l.getD i d)))
  (hd:∀ s,P l.length s->f (mk l.length s)=some (.done (out s))):∀(k i:Nat) (s:σ),i+k=l.length->P i s->Ac f (mk i s)=some (out ((l.drop i).foldl g s))/\P l.length ((l.drop i).foldl g s)
 | 0,i,s,h,hP=>by
  obtain rfl:i=l.length:=by omega
  rw[Ak (hd s hP)]
  simpa using hP
 | k+1,i,s,h,hP=>by
  have hi:i<l.length:=by omega
  obtain⟨h1,h2⟩:=hn i s hi hP;obtain⟨h3,h4⟩:=pi l d mk P g out f hn hd k (i+1) _ (by omega) h2
  have hdr:l.drop i=l.getD i d::l.drop (i+1):=by simp_all
  rw[Ap h1,h3,hdr];exact⟨rfl,h4⟩
theorem DK{α σ S X:Type}(l:List α)(d:α)(mk:Nat->σ->S)(P:Nat->σ->Prop)(g:σ->α->σ)(out:σ->X)(f:S->Option (LR S X))
  (hn:∀ i s,i<l.length->P i s->f (mk i s)=some (.next (mk (i+1) (g s (l.getD i d))))/\P (i+1) (g s (l.getD i d)))
  (hd:∀ s,P l.length s->f (mk l.length s)=some (.done (out s))) (s:σ) (hP:P 0 s):Ac f (mk 0 s)=some (out (l.foldl g s))/\P l.length (l.foldl g s):=
 pi l d mk P g out f hn hd l.length 0 s (by omega) hP
theorem WX{α β:Type}(F:α->β):∀(l:List α) (k:Nat) (s:List β),s.length=k+l.length->(l.foldl (λ(t:Nat×List β) b=>(t.1+1,t.2.set t.1 (F b))) (k,s)).2=s.take k++l.map F
 | [],k,s,h=>by simp at h;simp[<- h]
 | b::l,k,s,h=>by
  simp only[EW]at h;rw[Vh,WX F l (k+1) (s.set k (F b)) (by simp;omega),Cq]
  have e:(s.set k (F b)).take (k+1)=s.take k++[F b]:=by
   rw[List.take_add_one,List.take_set_of_le (by omega)];simp[List.getElem?_set,show k<s.length by omega]
  rw[e,EU];rfl
theorem ap{α β X:Type}(l:List α)(d:α)(F:α->β)(out:List β->X)(f:Int×List β->Option (LR (Int×List β) X))(hn:∀(i:Nat) (s:List β),i<l.length->s.length=l.length->f ((i:Int),s)=some (.next (((i+1:Nat):Int),s.set i (F (l.getD i d)))))
  (hd:∀ s,f ((l.length:Int),s)=some (.done (out s))) (s:List β) (hs:s.length=l.length):Ac f ((0:Int),s)=some (out (l.map F)):=by
 have key:=DK l d (λi (t:Nat×List β)=>((i:Int),t.2)) (λi t=>t.1=i/\t.2.length=l.length) (λt b=>(t.1+1,t.2.set t.1 (F b))) (λt=>out t.2) f
  (λi t hi hP=>by obtain⟨h1,h2⟩:=hP;subst h1;exact⟨hn _ _ hi h2,rfl,by simpa using h2⟩) (λt _=>hd t.2) (0,s) ⟨rfl,hs⟩
 have:=key.1;rw[WX F l 0 s (by omega)]at this
 simpa using this
theorem ph{α β X:Type}(l:List α)(d:α)(q:α->Option β)(out:β->X)(no:X)(f:Int->Option (LR Int X))(hn:∀ i,i<l.length->q (l.getD i d)=none->f (i:Int)=some (.next (((i+1:Nat):Int))))
  (hf:∀ i,i<l.length->∀ b,q (l.getD i d)=some b->f (i:Int)=some (.done (out b))) (he:f (l.length:Int)=some (.done no)):Ac f (0:Int)=some (match l.findSome? q with|some b=>out b|none=>no):=by
 have key:∀ k i:Nat,i+k=l.length->Ac f (i:Int)=some (match(l.drop i).findSome? q with|some b=>out b|none=>no):=by
  intro k
  induction k with
  | zero=>
   intro i h
   obtain rfl:i=l.length:=by omega
   rw[Ak he];simp
  | succ k ih=>
   intro i h
   have hi:i<l.length:=by omega
   have hdr:l.drop i=l.getD i d::l.drop (i+1):=by simp_all
   rw[hdr,List.findSome?_cons]
   cases hq:q (l.getD i d) with
   | some b=>rw[Ak (hf i hi b hq)]
   | none=>rw[Ap (hn i hi hq),ih (i+1) (by omega)]
 have:=key l.length 0 (by omega)
 simpa using this
theorem pR{a b:Nat}(h:a+b<4000000):w64 (Wx .u64 (Iy (w64 ((a:Int)+(b:Int)))) (1:Int))=(((a+b) / 2:Nat):Int):=by
 have e:((a:Int)+(b:Int))=((a+b:Nat):Int):=by omega
 rw[e,Hh (n:=((a+b:Nat):Int)) (by omega) (by omega),IG (by omega) (by omega)];unfold Wx;rw[show(1:Int).toNat=1 from rfl,show min 1 IntKind.u64.bits=1 from rfl,show(2:Int) ^ 1=2 from rfl,Int.fdiv_eq_ediv_of_nonneg _ (by omega),Hh (by omega) (by omega)];omega
theorem ly{l:List Int}(hs:l.Pairwise (·<·))(hl:l.length<=1000)(x:Int):∃(i:Nat) (b:Bool),Fc l x=some ((i:Int),b)/\i<=l.length/\(∀ k,k<i->l.getD k 0<x)/\∀ k,i<=k->k<l.length->x<=l.getD k 0:=by
 have hmono:∀ i j,i<j->j<l.length->l.getD i 0<l.getD j 0:=λi j hij hj=>by
  rw[Ab _ _ _ hj,Ab _ _ _ (by omega)];exact zzL92.1 hs i j (by omega) hj hij
 have key:∀ d (a b:Nat),b-a<=d->a<=b->b<=l.length->(∀ k,k<a->l.getD k 0<x)->(∀ k,b<=k->k<l.length->x<=l.getD k 0)->
   ∃ i:Nat,Ac (B3 l x) ((a:Int),(b:Int))=some (i:Int)/\i<=l.length/\(∀ k,k<i->l.getD k 0<x)/\∀ k,i<=k->k<l.length->x<=l.getD k 0:=by
  intro d
  induction d with
  | zero=>
   intro a b h1 h2 h3 h4 h5
   obtain rfl:a=b:=by omega
   refine⟨a,Ak ?_,h3,h4,h5⟩;unfold B3;simp only[C8,Aw]
  | succ d ih=>
   intro a b h1 h2 h3 h4 h5
   by_cases hab:a<b
   ·have hm:(a+b) / 2<l.length:=by omega
    have e:B3 l x ((a:Int),(b:Int))=some (.next (bif decide (l.getD ((a+b) / 2) 0<x) then((((a+b) / 2+1:Nat):Int),(b:Int)) else((a:Int),(((a+b) / 2:Nat):Int)))):=by
     unfold B3 Tx Pe;simp only[Bx hab,Ah,pR (show a+b<4000000 by omega),Aa (Ai hm),Am,An,bne_self_eq_false,w1 (show(a+b) / 2<4611686018427387904 by omega)]
     cases decide (l.getD ((a+b) / 2) 0<x)<;>rfl
    rw[Ap e]
    by_cases hx:l.getD ((a+b) / 2) 0<x
    ·rw[Ci hx,Ah];refine ih _ _ (by omega) (by omega) h3 (λk hk=>?_) h5;rcases zzL126 k ((a+b) / 2) with h6|h6
     ·exact Int.lt_trans (hmono k _ h6 hm) hx
     ·obtain rfl:k=(a+b) / 2:=by omega
      exact hx
    ·rw[Ch hx,Aw];refine ih _ _ (by omega) (by omega) (by omega) h4 (λk hk hkl=>?_);rcases zzL126 ((a+b) / 2) k with h6|h6
     ·have:=hmono _ k h6 hkl;omega
     ·obtain rfl:k=(a+b) / 2:=by omega
      omega
   ·exact ih a b (by omega) h2 h3 h4 h5
 obtain⟨i,h1,h2,h3,h4⟩:=key l.length 0 l.length (by omega) (by omega) (zzL6 _) (λk hk=>by omega) (λk hk hk2=>by omega);have h1':Ac (B3 l x) ((0:Int),(l.length:Int))=some (i:Int):=h1;unfold Fc Mg;rw[h1',An]
 have hin:(decide ((i:Int)<(l.length:Int)))=true->A1 (i:Int) l.length:=λh=>by have:=KP h;exact⟨by omega,this⟩
 rw[Aa (λh=>hin (by simpa using h)),Aa (λh=>hin (by simp at h;simpa using h.1))];simp only[bne_self_eq_false];refine⟨i,(bif decide ((i:Int)<(l.length:Int)) then(bif (l.getD (i:Int).toNat 0==x) then true else(bif false then false else false)) else false),?_,h2,h3,h4⟩
 have e:∀ b:Bool,(bif b then some false else some false)=some false:=λb=>by cases b<;>rfl
 rw[e,An];simp only[Bool.and_false,show((false:Bool)==true)=false from rfl,Aw,An]
theorem dZ{V:Type}(k v:Int)(x:V):∀ l:List (Int×V),D9 (Jq l k x) v=(v==k || D9 l v)
 | []=>by simp[Jq,D9]
 | (a,b)::r=>by
  unfold Jq
  cases h:(k==a) with
  | true=>
   have:k=a:=eq_of_beq h;subst this;simp[D9]
  | false=>
   simp only[Aw,D9,dZ k v x r]
   cases v==a<;>cases v==k<;>rfl
theorem dY{V:Type}(d:V)(k v:Int)(x:V):∀ l:List (Int×V),Fu d (Jq l k x) v=bif v==k then x else Fu d l v
 | []=>by simp[Jq,Fu]
 | (a,b)::r=>by
  unfold Jq
  cases h:(k==a) with
  | true=>
   have:k=a:=eq_of_beq h;subst this;simp only[Ah,Fu]
   cases v==k<;>rfl
  | false=>
   simp only[Aw,Fu,dY d k v x r]
   cases h1:(v==a) with
   | true=>
    have:v=a:=eq_of_beq h1;subst this
    have:(v==k)=false:=by
     cases h2:(v==k) with
     | false=>rfl
     | true=>have:=eq_of_beq h2;subst this;simp at h
    rw[this];rfl
   | false=>rfl
def L6(l:List (Int×Int))(v:Int):Int:=bif D9 l v then Fu 0 l v else v
theorem NZ(v x y:Int)(l:List (Int×Int)):G6 v x y l=some (L6 l v):=by
 unfold G6 L6
 cases D9 l v<;>rfl
theorem jS{x y a:Nat}(hx:x<1000000)(h:a<1000000)(l:List (Int×Int)):K2 (a:Int) (x:Int) (y:Int) l=some ((psJ x y a:Nat):Int):=by
 unfold K2 psJ
 have key:∀ z:Nat,((Option.bind (α:=Int) (bif decide (((y:Nat):Int)<(z:Int)) then some (w64 ((z:Int)-1)) else some (z:Int)) λx5=>some x5):Option Int)=some (((if y<z then z-1 else z:Nat)):Int)\/¬ z<4000000:=λz=>by
  by_cases hz:z<4000000
  ·left
   by_cases hy:y<z
   ·rw[Ci (by omega),Ah,if_pos hy,Hh (by omega) (by omega)]
    show some _=some _
    congr 1;omega
   ·rw[Ch (by omega),Aw,if_neg hy];rfl
  ·exact .inr hz
 by_cases e:a=y
 ·subst e;rw[show((a:Int)==(a:Int))=true by simp,Ah,An,if_pos rfl];rcases key x with h|h
  ·exact h
  ·omega
 ·rw[show((a:Int)==(y:Int))=false by rw[zzL30];omega,Aw,An,if_neg e];rcases key a with h|h
  ·exact h
  ·omega
theorem qn(l:List (Int×Int))(k v x:Int):L6 (Jq l k x) v=bif v==k then x else L6 l v:=by
 unfold L6;rw[dZ,dY]
 cases v==k<;>rfl
theorem mi{ps:List TPhi}{p:TPhi}(h:∀ q∈ps,q.Dst≠p.Dst)(v:Int):WA (ps++[p]) v=bif v==p.Dst then p.Args.getD 0 0 else WA ps v:=by
 unfold WA;rw[List.find?_append]
 by_cases e:v=p.Dst
 ·subst e;rw[List.find?_eq_none.2 (λq hq=>by simpa using h q hq)]
  simp
 ·rw[show(v==p.Dst)=false by rw[zzL30];exact e,Aw]
  have:(p.Dst==v)=false:=by rw[zzL30];exact λh=>e h.symm
  cases ps.find? (λp=>p.Dst==v) with
  | some q=>rfl
  | none=>simp[this]
section
variable {f:TFunc} {x y:Nat} {l:Int} (J:Jn f x y) (R:CT f l)
include J R
theorem kC{b:Nat}(hb:b<f.Blocks.length):((bA f b).Phis.map (·.Dst)).Nodup:=by
 have:=((nodup_split f).1 (Xn (DQ R).1)).1 b hb;unfold UP at this;exact(List.nodup_append.1 this).1
theorem qH{p:TPhi}(hp:p∈(bA f y).Phis):(bA f y).Phis.find? (λq=>q.Dst==p.Dst)=some p:=by
 have hy:=(LQ J (Bd R)).1;have hn:=kC J R hy
 cases hq:(bA f y).Phis.find? (λq=>q.Dst==p.Dst) with
 | none=>have:=List.find?_eq_none.1 hq p hp;simp at this
 | some q=>
  have hm:=List.mem_of_find?_eq_some hq
  have he:q.Dst=p.Dst:=by simpa using List.find?_some hq
  obtain⟨i,hi,rfl⟩:=Fx hm;obtain⟨j,hj,rfl⟩:=Fx hp;have:=(List.getElem_inj (h₀:=show i<((bA f y).Phis.map (·.Dst)).length by simpa using hi) (h₁:=show j<((bA f y).Phis.map (·.Dst)).length by simpa using hj) hn).1 (by simpa using he);subst this;rfl
theorem sj{p:TPhi}(hp:p∈(bA f y).Phis):∀ q∈(bA f y).Phis,q.Dst≠p.Args.getD 0 0:=λq hq e=>by
 have hy:=LQ J (Bd R);obtain⟨_,_,hd⟩:=YS J R hp;obtain⟨_,_,hdq⟩:=YS J R hq;obtain⟨d,hd',hv,_,_,hn⟩:=qm J R hd hy.1 (a:=0) (Int.le_refl _) (.inr (.inl ⟨rfl,by show(-1:Int)<0;omega⟩))
 have hv2:d.V=p.Args.getD 0 0:=by
  rw[hv];unfold vJ WA;rw[qH J R hp]
 have:=qT R hd' hdq (by rw[hv2,<- e]);rw[this]at hn;exact hn ⟨rfl,rfl⟩
def HO(ps:List TPhi):List (Int×Int):=ps.foldl (λl p=>Jq l p.Dst (p.Args.getD 0 0)) []
theorem dT(i:Nat)(hi:i<=(bA f y).Phis.length)(v:Int):L6 (HO ((bA f y).Phis.take i)) v=WA ((bA f y).Phis.take i) v:=by
 have hy:=(LQ J (Bd R)).1;have hn:=kC J R hy
 induction i with
 | zero=>rfl
 | succ i ih=>
  have hi':i<(bA f y).Phis.length:=by omega
  have e:(bA f y).Phis.take (i+1)=(bA f y).Phis.take i++[(bA f y).Phis[i]]:=by rw[List.take_add_one,P2 hi'];rfl
  rw[e,mi]
  ·unfold HO;rw[List.foldl_append]
   show L6 (Jq (HO ((bA f y).Phis.take i)) _ _) v=_
   rw[qn,ih (by omega)]
  ·intro q hq he;obtain⟨k,hk,rfl⟩:=Fx hq;rw[W6]at hk;rw[List.getElem_take]at he;have:=(List.getElem_inj (h₀:=show k<((bA f y).Phis.map (·.Dst)).length by rw[Dx];omega) (h₁:=show i<((bA f y).Phis.map (·.Dst)).length by simpa using hi') hn).1 (by simpa using he);omega
theorem oi(hs:(bA f y).Phis.length<4611686018427387904):Ac (G4 f (x:Int) (y:Int)) ((0:Int),([]:List (Int×Int)))=some (HO (bA f y).Phis):=by
 have hy:=(LQ J (Bd R)).1;refine Ek (G4 f (x:Int) (y:Int)) (λi=>((i:Int),HO ((bA f y).Phis.take i))) (HO (bA f y).Phis) (bA f y).Phis.length (λi hi=>?_) ?_
 ·have hp:=Ag (d:=(default:TPhi)) hi;have ha:=(YS J R hp).1;have hi2:((f.Blocks.getD y default).Phis).getD i default=(bA f y).Phis[i]:=Ab _ _ _ hi
  have e:(bA f y).Phis.take (i+1)=(bA f y).Phis.take i++[(bA f y).Phis.getD i default]:=by rw[List.take_add_one,P2 hi,Ab _ _ _ hi];rfl
  have hv:L6 (HO ((bA f y).Phis.take i)) (((bA f y).Phis.getD i default).Args.getD 0 0)=((bA f y).Phis.getD i default).Args.getD 0 0:=by
   rw[dT J R i (by omega)];unfold WA;rw[List.find?_eq_none.2];intro q hq;have:=sj J R hp q (List.mem_of_mem_take hq)
   simpa using this
  have hA:A1 (0:Int) (((f.Blocks.getD y default).Phis).getD i default).Args.length:=by
   rw[show(((f.Blocks.getD y default).Phis).getD i default).Args.length=1 from ha];exact⟨by omega,by omega⟩
  unfold G4;simp only[Am];rw[Bx hi,Ah,Aa (Ai hi),Aa hA,NZ,An,w1 (show i<4611686018427387904 by omega)];rw[show L6 (HO ((bA f y).Phis.take i)) ((((f.Blocks.getD y default).Phis).getD i default).Args.getD (0:Int).toNat 0)=_ from hv];rw[e];unfold HO;rw[List.foldl_append];rfl
 ·unfold G4;simp only[Am];rw[C8,Aw,W7]
end
theorem wc{L:List Int}{x y:Int}{m:List (Int×Int)}(hl:L.length<=1000000):Ux L x y m=some (L.map (L6 m)):=by
 have hroom:(1000001:Nat)<=room:=by decide
 unfold Ux
 rw[Aa (by omega),ap L (0:Int) (L6 m) id (Qz L x y m) (λi s hi hs=>by
  unfold Qz;simp only[Bx hi,Ah,Aa (Ai hi),Am,NZ,An,w1 (show i<4611686018427387904 by omega)]
  rw[Aa (by rw[hs];exact Ai hi)]) (λs=>by unfold Qz;simp only[C8,Aw];rfl) _ (by simp)]
 rfl
theorem sy{L:List Int}{x y:Nat}{m:List (Int×Int)}(hx:x<1000000)(hl:L.length<=1000000)(h:∀ z∈L,0<=z/\z<1000000):Q0 L (x:Int) (y:Int) m=some (L.map (mR x y)):=by
 have hroom:(1000001:Nat)<=room:=by decide
 unfold Q0
 rw[Aa (by omega),ap L (0:Int) (mR x y) id (M8 L (x:Int) (y:Int) m) (λi s hi hs=>by
  obtain⟨h0,h1⟩:=h _ (Ag (d:=(0:Int)) hi);obtain⟨a,ha⟩:∃ a:Nat,L.getD i 0=(a:Int):=⟨(L.getD i 0).toNat,by omega⟩;unfold M8;simp only[Bx hi,Ah,Aa (Ai hi),Am,w1 (show i<4611686018427387904 by omega)]
  rw[ha,jS hx (by omega),An,Aa (by rw[hs];exact Ai hi),Pi]) (λs=>by unfold M8;simp only[C8,Aw];rfl) _ (by simp)]
 rfl
theorem XB{e:Int×Int}:∀{n:Nat} {l:List (Int×Int)},n<=l.length->(∀ k,k<n->(l.map (·.1)).getD k 0<e.1)->(∀ k,n<=k->k<l.length->e.1<=(l.map (·.1)).getD k 0)->NI l e=l.take n++e::l.drop n
 | 0,[],_,_,_=>rfl
 | 0,p::l,_,_,h2=>by
  rw[DF];have:=h2 0 (zzL6 _) (by simp);simp at this;rw[if_neg (by omega)];rfl
 | n+1,[],h,_,_=>by simp at h
 | n+1,p::l,h,h1,h2=>by
  rw[DF];have h0:=h1 0 (by omega);simp at h0;rw[if_pos h0,XB (n:=n) (by simpa using h) (λk hk=>by have:=h1 (k+1) (by omega);simpa using this) (λk hk hl=>by have:=h2 (k+1) (by omega) (by simpa using hl);simpa using this)]
  rfl
theorem y0{p:TPhi}{x y:Nat}{m:List (Int×Int)}(hx:x<1000000)(hl:p.From.length<=500)(h2:p.Args.length=p.From.length)(h:∀ z∈p.From,0<=z/\z<1000000)(hn:((Oz (L6 m) x y p).map (·.1)).Nodup) :
  Ph p (x:Int) (y:Int) m=some (NQ (L6 m) x y p):=by
 have hroom:(1000001:Nat)<=room:=by decide
 have hzl:=kS (v:=L6 m) (x:=x) (y:=y) h2;have key:=Ek (Jo p (x:Int) (y:Int) m) (λi=>((i:Int),(Zz ((Oz (L6 m) x y p).take i)).map (·.1),(Zz ((Oz (L6 m) x y p).take i)).map (·.2))) ((Zz (Oz (L6 m) x y p)).map (·.1),(Zz (Oz (L6 m) x y p)).map (·.2)) p.From.length (λi hi=>?_) ?_
 ·unfold Ph;have key':Ac (Jo p (x:Int) (y:Int) m) ((0:Int),([]:List Int),([]:List Int))=_:=key;rw[key',An];rfl
 ·have hi':i<(Oz (L6 m) x y p).length:=by omega
  have hia:i<p.Args.length:=by omega
  obtain⟨h0,h1⟩:=h _ (Ag (d:=(0:Int)) hi);obtain⟨a,ha⟩:∃ a:Nat,p.From.getD i 0=(a:Int):=⟨(p.From.getD i 0).toNat,by omega⟩
  have ez:(Oz (L6 m) x y p)[i]=(((psJ x y a:Nat):Int),L6 m (p.Args.getD i 0)):=by
   have h':i<(List.zip (p.From.map (mR x y)) (p.Args.map (L6 m))).length:=hi'
   show(List.zip (p.From.map (mR x y)) (p.Args.map (L6 m)))[i]'h'=_
   rw[List.getElem_zip,List.getElem_map,List.getElem_map,<- Ab _ _ (0:Int) hi,<- Ab _ _ (0:Int) hia,ha,Pi]
  have et:(Oz (L6 m) x y p).take (i+1)=(Oz (L6 m) x y p).take i++[(Oz (L6 m) x y p)[i]]:=by rw[List.take_add_one,P2 hi'];rfl
  have es:Zz ((Oz (L6 m) x y p).take (i+1))=NI (Zz ((Oz (L6 m) x y p).take i)) (((psJ x y a:Nat):Int),L6 m (p.Args.getD i 0)):=by
   rw[et,ez];unfold Zz;rw[List.foldl_append];rfl
  have hnt:(((Oz (L6 m) x y p).take i).map (·.1)).Nodup:=by
   rw[List.map_take];exact hn.sublist (List.take_sublist ..)
  obtain⟨k1,k2⟩:=kJ hnt
  generalize hA:Zz ((Oz (L6 m) x y p).take i)=A at *
  have hAl:A.length=i:=by rw[k1.length_eq,W6];omega
  have hsrt:(A.map (·.1)).Pairwise (·<·):=by rw[List.pairwise_map];exact k2
  obtain⟨n,b,s1,s2,s3,s4⟩:=ly hsrt (by rw[Dx];omega) ((psJ x y a:Nat):Int);rw[Dx]at s2;have hins:=XB (e:=(((psJ x y a:Nat):Int),L6 m (p.Args.getD i 0))) s2 s3 (λk hk hkl=>s4 k hk (by rw[Dx];exact hkl))
  have hI:∀(M:List Int) (z:Int),M.length=A.length->CD M (n:Int) [z]=some (M.take n++[z]++M.drop n,M.take n++[z]++M.drop n,[z]):=λM z hM=>by
   unfold CD;rw[Aa ⟨by omega,by omega,by simp,by simp;omega⟩,Am]
  unfold Jo;simp only[Bx hi,Ah,Aa (Ai hi),Am,ha,jS hx (show a<1000000 by omega),An,s1];rw[hI _ _ (by rw[Dx]),An]
  dsimp only
  rw[Aa (show 1=[((psJ x y a:Nat):Int)].length from rfl),Aa (Ai hia),NZ,An,hI _ _ (by rw[Dx]),An]
  dsimp only
  rw[Aa (show 1=[L6 m (p.Args.getD i 0)].length from rfl),w1 (show i<4611686018427387904 by omega),es,hins];simp[List.map_take,List.map_drop]
 ·unfold Jo;simp only[C8,Aw];rw[show(Oz (L6 m) x y p).take p.From.length=Oz (L6 m) x y p by rw[<- hzl,W7]]
structure OkJ(v:Int->Int)(x y:Nat)(b:Ae):Prop where
 phis:b.Phis.length<=100000
 ops:b.Ops.length<=1000000
 to:b.End.To.length<=1000000/\∀ z∈b.End.To,0<=z/\z<1000000
 phi:∀ p∈b.Phis,p.From.length<=500/\p.Args.length=p.From.length/\(∀ z∈p.From,0<=z/\z<1000000)/\((Oz v x y p).map (·.1)).Nodup
 op:∀ o∈b.Ops,o.Args.length<=1000000
theorem su{b:Ae}{x y:Nat}{m:List (Int×Int)}(hx:x<1000000)(h:OkJ (L6 m) x y b):Kz b (x:Int) (y:Int) m=some (GV (L6 m) x y b):=by
 have hroom:(1000001:Nat)<=room:=by decide
 have hph:=h.phis;have hop:=h.ops;unfold Kz
 rw[Aa (by omega),ap b.Phis (default:TPhi) (NQ (L6 m) x y) id (K0 b (x:Int) (y:Int) m) (λi s hi hs=>by
  obtain⟨p1,p2,p3,p4⟩:=h.phi _ (Ag (d:=default) hi);unfold K0;simp only[Bx hi,Ah,Aa (Ai hi),Am,y0 hx p1 p2 p3 p4,An,w1 (show i<4611686018427387904 by omega)]
  rw[Aa (by rw[hs];exact Ai hi)]) (λs=>by unfold K0;simp only[C8,Aw];rfl) _ (by simp),An]
 dsimp only[id]
 rw[Aa (by omega),ap b.Ops (default:TOp) (m9 (L6 m)) id (K1 b (x:Int) (y:Int) m) (λi s hi hs=>by
  unfold K1;simp only[Bx hi,Ah,Aa (Ai hi),Am,wc (h.op _ (Ag (d:=default) hi)),An,w1 (show i<4611686018427387904 by omega)]
  rw[Aa (by rw[hs];exact Ai hi)];rfl) (λs=>by unfold K1;simp only[C8,Aw];rfl) _ (by simp),An]
 dsimp only[id]
 rw[NZ,An,sy hx h.to.1 h.to.2,An]
 rfl
theorem oq{a b:List TOp}(h:a.length+b.length<=1000000):Fd [a,b]=some (a++b):=by
 have hroom:(1000001:Nat)<=room:=by decide
 unfold Fd
 have h1:Ac (Cs [a,b]) ((0:Int),(0:Int))=some (((a.length+b.length:Nat)):Int):=by
  rw[Ap (s':=((a.length:Int),(1:Int))) (by
   unfold Cs
   show(Option.bind (α:=Unit) (Az (A1 (0:Int) 2) (bif decide (w64 ((0:Int)+(a.length:Int))<0) then none else some ())) _)=_
   rw[Hh (by omega) (by omega),Ch (by omega),Aa ⟨by omega,by omega⟩,Aw,An]
   show some (LR.next (w64 ((0:Int)+(a.length:Int)),w64 ((0:Int)+1)))=_
   rw[show w64 ((0:Int)+1)=1 from rfl,Hh (n:=(0:Int)+(a.length:Int)) (by omega) (by omega),Int.zero_add]),Ap (s':=(((a.length+b.length:Nat):Int),(2:Int))) (by
   unfold Cs
   show(Option.bind (α:=Unit) (Az (A1 (1:Int) 2) (bif decide (w64 ((a.length:Int)+(b.length:Int))<0) then none else some ())) _)=_
   rw[Hh (by omega) (by omega),Ch (by omega),Aa ⟨by omega,by omega⟩,Aw,An]
   show some (LR.next (w64 ((a.length:Int)+(b.length:Int)),w64 ((1:Int)+1)))=_
   rw[show w64 ((1:Int)+1)=2 from rfl,Hh (n:=(a.length:Int)+(b.length:Int)) (by omega) (by omega)];rfl),Ak (by
   unfold Cs
   rfl)]
 rw[h1,An];unfold iN;rw[Aa ⟨by omega,by omega⟩,An]
 have h2:Ac (Cu [a,b]) (([]:List TOp),(0:Int))=some (a++b):=by
  rw[Ap (s':=(a,(1:Int))) (by
   unfold Cu
   show Az (A1 (0:Int) 2) (Az (0+a.length<=room) (some (LR.next ([]++a,w64 (0+1)))))=_
   rw[Aa ⟨by omega,by omega⟩,Aa (by omega)];rfl),Ap (s':=(a++b,(2:Int))) (by
   unfold Cu
   show Az (A1 (1:Int) 2) (Az (a.length+b.length<=room) (some (LR.next (a++b,w64 (1+1)))))=_
   rw[Aa ⟨by omega,by omega⟩,Aa (by omega)];rfl),Ak (by
   unfold Cu
   rfl)]
 rw[h2];rfl
theorem jd{y:Nat}:∀ n,((List.range n).filter λb=>decide (b≠y))=if y<n then(List.range (n-1)).map (IU y) else List.range n
 | 0=>by simp
 | n+1=>by
  rw[Xb,W5,jd n]
  by_cases h:y<n
  ·obtain⟨m,rfl⟩:∃ m,n=m+1:=⟨n-1,by omega⟩
   have e:IU y m=m+1:=by rcases up_eq y m with h|h<;>omega
   rw[if_pos h,if_pos (by omega),show m+1+1-1=m+1 by omega,show m+1-1=m by omega,Xb,W8];simp[show ¬ m+1=y by omega,e]
  ·rw[if_neg h]
   by_cases e:n=y
   ·subst e;rw[if_pos (by omega),show n+1-1=n by omega]
    simp
    apply CI
    ·simp
    ·intro i h1 h2;simp at h1 h2 ⊢;rcases up_eq n i with h|h<;>omega
   ·rw[if_neg (by omega)];simp[e]
section
variable {f:TFunc} {x y:Nat} {l:Int} (J:Jn f x y) (R:CT f l) (hN:Nw f)
include J R hN
theorem okJ{v:Int->Int}{b:Nat}(hb:b<f.Blocks.length)(hby:b≠y):OkJ v x y (Ki f x y b):=by
 have hs:=Bd R;have hy:=(LQ J hs).1;have h64:=(shape_iff.1 hs).1.2
 have hsz:∀ c,c<f.Blocks.length->Ex (bA f c)<=512:=λc hc=>by
  have:=Wy (F:=λb=>Ex (bA f b)) hc;rw[<- M2]at this;have:=hN.size;omega
 have hto:∀ c,c<f.Blocks.length->(bA f c).End.To.length<=1000000/\∀ z∈(bA f c).End.To,0<=z/\z<1000000:=λc hc=>by
  have ht:(bA f c).End.To.length<=2:=hN.to _ (Ag (d:=default) hc);refine⟨by omega,λz hz=>?_⟩;obtain⟨w,rfl,hw,_⟩:=FR hs hc hz;omega
 have hphi:∀ p∈(bA f b).Phis,p.From.length<=500/\p.Args.length=p.From.length/\(∀ z∈p.From,0<=z/\z<1000000)/\((Oz v x y p).map (·.1)).Nodup:=λp hp=>by
  obtain⟨q1,q2⟩:=Tf R hb hp;have:=hN.phi _ (Ag (d:=default) hb) p hp;refine⟨by omega,q2,λz hz=>?_,?_⟩
  ·rw[q1]at hz;obtain⟨w,rfl,hw,_⟩:=(Q5 hs hb).1 hz;omega
  ·rw[OQ q2,q1];exact vM J hs hb hby
 have hop:∀ c,c<f.Blocks.length->∀ o∈(bA f c).Ops,o.Args.length<=1000000:=λc hc o ho=>by
  have:=hN.op _ (Ag (d:=default) hc) o ho;omega
 have h1:=hsz b hb;have h2:=hsz x J.hx;have h3:=hsz y hy;unfold Ex at h1 h2 h3;unfold Ki
 split
 ·rename_i e
  subst e
  exact⟨by show(bA f b).Phis.length<=_;omega,by show((bA f b).Ops++(bA f y).Ops).length<=_;rw[Fe];omega,hto y hy,hphi,λo ho=>by
   rcases zzL11.1 ho with h|h
   ·exact hop b hb o h
   ·exact hop y hy o h⟩
 ·exact⟨by omega,by omega,hto b hb,hphi,hop b hb⟩
theorem lY:E9 f (x:Int) (y:Int)=some (B7 f x y,(x:Int),(y:Int),HO (bA f y).Phis):=by
 have hroom:(1000001:Nat)<=room:=by decide
 have hs:=Bd R;have hy:=(LQ J hs).1;have h64:=(shape_iff.1 hs).1.2
 have hsz:∀ c,c<f.Blocks.length->Ex (bA f c)<=512:=λc hc=>by
  have:=Wy (F:=λb=>Ex (bA f b)) hc;rw[<- M2]at this;have:=hN.size;omega
 have h2:=hsz x J.hx;have h3:=hsz y hy;unfold Ex at h2 h3
 have hv:L6 (HO (bA f y).Phis)=vJ f y:=by
  funext v
  have:=dT J R (bA f y).Phis.length (zzL6 _) v;rw[W7]at this;exact this
 have hxl:=J.hx;unfold E9;rw[Aa (Ai J.hx),Aa (Ai hy),oi J R (by omega),An];simp only[Am]
 have hcc:(f.Blocks.getD x default).Ops.length+(f.Blocks.getD y default).Ops.length<=1000000:=by
  have e1:(f.Blocks.getD x default).Ops.length<=512:=by show(bA f x).Ops.length<=512;omega
  have e2:(f.Blocks.getD y default).Ops.length<=512:=by show(bA f y).Ops.length<=512;omega
  omega
 rw[oq hcc,An];have key:=Ek (G5 f (x:Int) (y:Int) (HO (bA f y).Phis) ((f.Blocks.getD x default).Ops++(f.Blocks.getD y default).Ops))
  (λi=>((i:Int),((List.range i).filter λb=>decide (b≠y)).map λb=>GV (vJ f y) x y (Ki f x y b))) (B7 f x y).Blocks f.Blocks.length (λi hi=>by
   have hb:=su (b:=Ki f x y i) (x:=x) (y:=y) (m:=HO (bA f y).Phis) (by omega);rw[hv]at hb
   have hlen:(((List.range i).filter λb=>decide (b≠y)).map λb=>GV (vJ f y) x y (Ki f x y b)).length<=i:=by
    rw[Dx];have:=List.length_filter_le (λb=>decide (b≠y)) (List.range i);rw[Vf]at this;exact this
   have hr:((List.range (i+1)).filter λb=>decide (b≠y)).map (λb=>GV (vJ f y) x y (Ki f x y b))=(((List.range i).filter λb=>decide (b≠y)).map λb=>GV (vJ f y) x y (Ki f x y b))++(if i=y then[] else[GV (vJ f y) x y (Ki f x y i)]):=by
    rw[Xb,W5,W8]
    congr 1
    by_cases e:i=y<;>simp[e]
   rw[hr];unfold G5;simp only[Bx hi,Ah,Aa (Ai hi),Am,w1 (show i<4611686018427387904 by omega)]
   by_cases ex:i=x
   ·have hiy:¬ i=y:=λe=>J.ne (e▸ex);rw[show((i:Int)==(x:Int))=true by rw[zzL63];omega,Ah,if_neg hiy]
    have hB:Ki f x y i=⟨(f.Blocks.getD x default).Phis,(f.Blocks.getD x default).Ops++(f.Blocks.getD y default).Ops,⟨(f.Blocks.getD y default).End.Kind,(f.Blocks.getD y default).End.Arg,(f.Blocks.getD y default).End.To⟩⟩:=by
     unfold Ki;rw[if_pos ex]
    have hok:OkJ (vJ f y) x y (Ki f x y i):=okJ J R hN hi hiy;have hb':=hb hok;rw[hB]at hb';rw[hb',An,Aa (by show _+1<=room;omega),An,<- hB]
   ·rw[show((i:Int)==(x:Int))=false by rw[zzL30];omega,Aw]
    by_cases ey:i=y
    ·rw[show((i:Int)==(y:Int))=true by rw[zzL63];omega,Ah,if_pos ey,List.append_nil];rfl
    ·rw[show((i:Int)==(y:Int))=false by rw[zzL30];omega,Aw,if_neg ey]
     have hB:Ki f x y i=f.Blocks.getD i default:=by unfold Ki;rw[if_neg ex]
     have hok:OkJ (vJ f y) x y (Ki f x y i):=okJ J R hN hi ey;have hb':=hb hok;rw[hB]at hb'
     rw[hb',An,Aa (by show _+1<=room;omega),An,hB])
  (by
   unfold G5;simp only[C8,Aw]
   rw[jd,if_pos hy,List.map_map];rfl)
 have key':Ac (G5 f (x:Int) (y:Int) (HO (bA f y).Phis) ((f.Blocks.getD x default).Ops++(f.Blocks.getD y default).Ops)) ((0:Int),([]:List Ae))=_:=key;rw[key',An];rfl
end
def fx(f:TFunc)(i:Nat):Option (Nat×Nat):=if(bA f i).End.Kind=1/\nC f i 0≠(i:Int)/\(prF f (nC f i 0).toNat).length=1 then some (i,(nC f i 0).toNat) else none
def Vq(f:TFunc):Option (Nat×Nat):=(List.range f.Blocks.length).findSome? (fx f)
def oneM:Nat->TFunc->TFunc
 | 0,f=>f
 | n+1,f=>match Vq f with|some p=>oneM n (B7 f p.1 p.2)|none=>f
theorem QH{f:TFunc}(hs:Gp f=true){i:Nat}(hi:i<f.Blocks.length)(hk:(bA f i).End.Kind=1):∃ b:Nat,(bA f i).End.To=[(b:Int)]/\b<f.Blocks.length/\0<b:=by
 have h3:Kf (bA f i).End f.Blocks.length=true:=(shape_iff.1 hs).2 i hi;unfold Kf Y0 at h3;simp only[A6,Gq]at h3;have hw:=h3.1.2;rw[hk,show CC 1=1 from rfl]at hw
 have hl:(bA f i).End.To.length=1:=by omega
 generalize hT:(bA f i).End.To=T at hl
 match T,hl with
 | [z],_=>
  obtain⟨c,rfl,hc,h0,_⟩:=FR hs hi (z:=z) (by rw[hT];exact zzL15.2 rfl);exact⟨c,rfl,hc,h0⟩
theorem wv{f:TFunc}(hs:Gp f=true){i:Nat}(hi:i<f.Blocks.length){p:Nat×Nat}(h:fx f i=some p):p.1=i/\Jn f p.1 p.2:=by
 unfold fx at h
 split at h
 ·rename_i hc
  obtain rfl:=OI h;obtain⟨b,hb,hbl,_⟩:=QH hs hi hc.1
  have ht:nC f i 0=(b:Int):=by unfold nC;rw[hb];rfl
  have hp:=hc.2.2;have hne:=hc.2.1;refine⟨rfl,?_⟩
  show Jn f i (nC f i 0).toNat
  rw[ht,Am]at hp ⊢;rw[ht]at hne;refine⟨hi,hc.1,hb,λe=>hne (by rw[e]),?_⟩;have hm:(i:Int)∈prF f b:=(Q5 hs hbl).2 ⟨i,rfl,hi,by unfold UM;rw[hb];exact zzL15.2 rfl⟩
  generalize prF f b=L at hp hm
  match L,hp with
  | [z],_=>rw[zzL15.1 hm]
 ·cases h
theorem PV{f:TFunc}(hs:Gp f=true){p:Nat×Nat}(h:Vq f=some p):Jn f p.1 p.2:=by
 unfold Vq at h;obtain⟨i,hi,he⟩:=List.exists_of_findSome?_eq_some h;exact(wv hs (zzL40.1 hi) he).2
theorem jQ{f:TFunc}(hs:Gp f=true):Kw f=some (match Vq f with|some p=>((true,(⟨(p.1:Int),(p.2:Int),[]⟩:WC)),true)|none=>((false,default),false)):=by
 have h64:=(shape_iff.1 hs).1.2;unfold Kw;rw[zM f (by rw[M1];omega),hs,Ah,An];have hP:(Kh (A2 f),(0:Int)).1.Pred=Do (A2 f):=rfl;have hlp:(Do (A2 f)).length=f.Blocks.length:=xK f;have key:=ph (X:=Unit ⊕ ((Bool×WC)×Bool)) (List.range f.Blocks.length) (0:Nat) (fx f) (λp=>.inr ((true,(⟨(p.1:Int),(p.2:Int),[]⟩:WC)),true)) (.inl ()) (Mo f (Kh (A2 f),(0:Int))) (λi hi hq=>?_) (λi hi p hq=>?_) ?_
 ·rw[key,An];unfold Vq
  cases(List.range f.Blocks.length).findSome? (fx f)<;>rfl
 all_goals simp only[Vf]at *
 ·rw[Ab _ _ _ (by rw[Vf];exact hi),List.getElem_range]at hq;unfold Mo;simp only[Bx hi,Ah,Aa (Ai hi),Am,hP,w1 (show i<4611686018427387904 by omega)]
  by_cases hk:(bA f i).End.Kind=1
  ·obtain⟨b,hb,hbl,hb0⟩:=QH hs hi hk
   have ht:nC f i 0=(b:Int):=by unfold nC;rw[hb];rfl
   rw[show((f.Blocks.getD i default).End.Kind !=1)=false by show((bA f i).End.Kind !=1)=false;rw[hk];rfl,Aw];rw[show(f.Blocks.getD i default).End.To=[(b:Int)] from hb];rw[Aa (show A1 (0:Int) [(b:Int)].length from⟨by omega,by show(0:Int)<((1:Nat):Int);omega⟩)];have e0:[(b:Int)].getD ((0:Int)).toNat 0=(b:Int):=rfl;rw[e0,Aa (λ_=>by rw[hlp];exact Ai hbl),Am];unfold fx at hq;rw[ht,Am]at hq
   have hno:¬ ((b:Int)≠(i:Int)/\(prF f b).length=1):=λhh=>by rw[if_pos ⟨hk,hh⟩]at hq;cases hq
   have e1:(bif ((b:Int)!=(i:Int)) then((((Do (A2 f)).getD b []).length:Int)==(1:Int)) else false)=false:=by
    by_cases hbi:(b:Int)=(i:Int)
    ·rw[show((b:Int)!=(i:Int))=false by simpa using hbi];rfl
    ·rw[show((b:Int)!=(i:Int))=true by simpa using hbi,Ah,zzL30];intro he;exact hno ⟨hbi,by have:(((prF f b).length:Nat):Int)=1:=he;omega⟩
   rw[e1];rfl
  ·rw[show((f.Blocks.getD i default).End.Kind !=1)=true by show((bA f i).End.Kind !=1)=true;simpa using hk];rfl
 ·rw[Ab _ _ _ (by rw[Vf];exact hi),List.getElem_range]at hq;unfold Mo;simp only[Bx hi,Ah,Aa (Ai hi),Am,hP];unfold fx at hq
  split at hq
  ·rename_i hc
   obtain rfl:=OI hq;obtain⟨b,hb,hbl,hb0⟩:=QH hs hi hc.1
   have ht:nC f i 0=(b:Int):=by unfold nC;rw[hb];rfl
   have hc2:=hc.2.1;have hc3:=hc.2.2;rw[ht]at hc2 hc3;rw[Am]at hc3;rw[show((f.Blocks.getD i default).End.Kind !=1)=false by show((bA f i).End.Kind !=1)=false;rw[hc.1];rfl,Aw];rw[show(f.Blocks.getD i default).End.To=[(b:Int)] from hb];rw[Aa (show A1 (0:Int) [(b:Int)].length from⟨by omega,by show(0:Int)<((1:Nat):Int);omega⟩)];have e0:[(b:Int)].getD ((0:Int)).toNat 0=(b:Int):=rfl;rw[e0,Aa (λ_=>by rw[hlp];exact Ai hbl),Am]
   have e1:(bif ((b:Int)!=(i:Int)) then((((Do (A2 f)).getD b []).length:Int)==(1:Int)) else false)=true:=by
    rw[show((b:Int)!=(i:Int))=true by simpa using hc2,Ah,zzL63]
    have:(((prF f b).length:Nat):Int)=1:=by rw[hc3];rfl
    exact this
   rw[e1,Ah,ht,Am];rfl
  ·cases hq
 ·unfold Mo;simp only[C8,Aw]
theorem j4{l:Int}:∀(n:Nat) (f:TFunc),CT f l->Nw f->f.Blocks.length<=n->CT (oneM n f) l/\Nw (oneM n f)/\Vq (oneM n f)=none/\(oneM n f).Blocks.length<=f.Blocks.length/\sizeN (oneM n f)<=sizeN f
 | 0,f,R,hN,hn=>by
  have:=(shape_iff.1 (Bd R)).1.1;omega
 | n+1,f,R,hN,hn=>by
  unfold oneM
  cases h:Vq f with
  | none=>exact⟨R,hN,h,zzL6 _,zzL6 _⟩
  | some p=>
   have J:=PV (Bd R) h;obtain⟨R',hN'⟩:=QD J R hN;have hl:=On J;have hsz:=gG J R;have h1:=J.hx;obtain⟨a,b,c,d,e⟩:=j4 n (B7 f p.1 p.2) R' hN' (by rw[hl];omega);exact⟨a,b,c,by show(oneM n (B7 f p.1 p.2)).Blocks.length<=_;omega,by show sizeN (oneM n (B7 f p.1 p.2))<=_;omega⟩
theorem dw{l:Int}:∀(n:Nat) (f:TFunc),CT f l->Nw f->f.Blocks.length<=n->Ac O5 (f.Params,f.Ret,f.Blocks)=some (oneM n f)
 | 0,f,R,hN,hn=>by
  have:=(shape_iff.1 (Bd R)).1.1;omega
 | n+1,f,R,hN,hn=>by
  have hs:=Bd R;unfold oneM
  cases h:Vq f with
  | none=>
   refine Ak ?_;unfold O5
   show(Kw f).bind _=_
   rw[jQ hs,h,An];rfl
  | some p=>
   have J:=PV hs h;obtain⟨R',hN'⟩:=QD J R hN;have h1:=J.hx
   rw[Ap (s':=((B7 f p.1 p.2).Params,(B7 f p.1 p.2).Ret,(B7 f p.1 p.2).Blocks)) (by
    unfold O5
    show(Kw f).bind _=_
    rw[jQ hs,h,An]
    dsimp only
    rw[Ah,Ah]
    show(E9 f (p.1:Int) (p.2:Int)).bind _=_
    rw[lY J R hN];rfl)]
   exact dw n _ R' hN' (by rw[On J];omega)
def mL(f:TFunc):TFunc:=if Gn f 2=0 then oneM f.Blocks.length f else f
theorem jT{f:TFunc}(h:Sm f):Lw f=some (decide (Gn f 2=0)):=by
 unfold Lw;rw[sv f 2 h,An]
 by_cases e:Gn f 2=0
 ·rw[e];rfl
 ·rw[Ch e,show(Gn f 2==0)=false by rw[zzL30];exact e]
theorem u6{f:TFunc}(h:Sm f)(hN:Gn f 2=0->Nw f):Pp f=some (mL f):=by
 unfold Pp mL;rw[jT h,An]
 by_cases e:Gn f 2=0
 ·have R:CT f 2:=(bW (by omega)).1 e;have key:=dw f.Blocks.length f R (hN e) (zzL6 _);have hF:((Kw f).bind λx5=>(bif x5.1.1 then(bif x5.2 then((E9 f x5.1.2.x x5.1.2.y).bind λx7=>(some (.next (x7.1.Params,x7.1.Ret,x7.1.Blocks)))) else(some (.done f))) else(bif x5.2 then((Ja f).bind λx8=>(some (.next (x8.Params,x8.Ret,x8.Blocks)))) else(some (.done f)))):Option (LR (List Int×Int×List Ae) TFunc))=O5 (f.Params,f.Ret,f.Blocks):=rfl;rw[if_pos e,Ci e,Dq,Aw,hF];rw[<- MJ]at key;rw[key];rfl
 ·rw[if_neg e,Ch e];rfl
theorem Hd{α:Type}{p:α->Bool}{l:List α}{a:α}(h:a∈l.filter p):a∈l:=(zzL113.1 h).1
def JD{α:Type}(p:α->Bool)(L:List α)(i:Nat):Nat:=((L.take i).filter p).length
theorem HD{α:Type}{p:α->Bool}{L:List α}{i:Nat}{d:α}(hi:i<L.length)(hp:p (L.getD i d)=true):JD p L i<(L.filter p).length/\(L.filter p).getD (JD p L i) d=L.getD i d:=by
 rw[Ab _ _ _ hi]at hp ⊢
 have e:L.filter p=(L.take i).filter p++L[i]::(L.drop (i+1)).filter p:=by
  have:=Bi (List.filter p) (List.take_append_drop i L);rw[W5,SU hi,List.filter_cons,if_pos hp]at this;exact this.symm
 unfold JD;rw[e];refine⟨by simp,?_⟩;rw[Ab _ _ _ (by simp),List.getElem_append_right (zzL6 _)]
 simp
theorem OJ{α:Type}{p:α->Bool}{d:α}:∀{L:List α} {k:Nat},k<(L.filter p).length->∃ i,i<L.length/\p (L.getD i d)=true/\JD p L i=k
 | [],k,h=>by simp at h
 | a::L,k,h=>by
  by_cases ha:p a=true
  ·rw[List.filter_cons,if_pos ha]at h
   cases k with
   | zero=>exact⟨0,by simp,by simpa using ha,rfl⟩
   | succ k=>
    obtain⟨i,h1,h2,h3⟩:=OJ (L:=L) (k:=k) (d:=d) (by simpa using h);refine⟨i+1,by simpa using h1,by simpa using h2,?_⟩;unfold JD at h3 ⊢;rw[List.take_succ_cons,List.filter_cons,if_pos ha,EW,h3]
  ·rw[List.filter_cons,if_neg ha]at h;obtain⟨i,h1,h2,h3⟩:=OJ (L:=L) (k:=k) (d:=d) h;refine⟨i+1,by simpa using h1,by simpa using h2,?_⟩;unfold JD at h3 ⊢;rw[List.take_succ_cons,List.filter_cons,if_neg ha,h3]
theorem wm{α:Type}{p:α->Bool}{L:List α}{i j:Nat}{d:α}(hj:j<L.length)(hij:i<j)(hp:p (L.getD i d)=true):JD p L i<JD p L j:=by
 have hi:i<(L.take j).length:=by rw[W6];omega
 have e:(L.take j).getD i d=L.getD i d:=by rw[Ab _ _ _ hi,List.getElem_take,Ab _ _ _ (by omega)]
 have:=(HD (L:=L.take j) (p:=p) (d:=d) hi (by rw[e];exact hp)).1;unfold JD at this ⊢;rw[List.take_take,Nat.min_eq_left (by omega)]at this;exact this
def Wf(b:Ae):List Int:=b.Phis.flatMap (·.Args)++b.Ops.flatMap (·.Args)++(if b.End.Kind=0\/b.End.Kind=2 then[b.End.Arg] else[])
def Q8(f:TFunc)(v:Int):Bool:=f.Blocks.any λb=>(Wf b).contains v
def PL(kp:TPhi->Bool)(ko:TOp->Bool)(b:Ae):Ae:=⟨b.Phis.filter kp,b.Ops.filter ko,b.End⟩
def Qj(kp:TPhi->Bool)(ko:TOp->Bool)(f:TFunc):TFunc:=⟨f.Params,f.Ret,f.Blocks.map (PL kp ko)⟩
structure Ct(f:TFunc)(kp:TPhi->Bool)(ko:TOp->Bool):Prop where
 phi:∀ b∈f.Blocks,∀ p∈b.Phis,Q8 f p.Dst=true->kp p=true
 op:∀ b∈f.Blocks,∀ o∈b.Ops,Q8 f o.Dst=true->ko o=true
section
variable {f:TFunc} {kp:TPhi->Bool} {ko:TOp->Bool} {l:Int}
theorem Qi:(Qj kp ko f).Blocks.length=f.Blocks.length:=Dx ..
theorem GY{i:Nat}(hi:i<f.Blocks.length):bA (Qj kp ko f) i=PL kp ko (bA f i):=by
 show(f.Blocks.map (PL kp ko)).getD i default=_
 exact HP hi
theorem PK(i:Nat):(bA (Qj kp ko f) i).End=(bA f i).End:=by
 by_cases hi:i<f.Blocks.length
 ·rw[GY hi];rfl
 ·have e1:bA (Qj kp ko f) i=default:=by
   show(f.Blocks.map (PL kp ko)).getD i default=_
   rw[W4,SW (by rw[Dx];omega)];rfl
  have e2:bA f i=default:=by
   show f.Blocks.getD i default=_
   rw[W4,SW (by omega)];rfl
  rw[e1,e2]
theorem OC:A2 (Qj kp ko f)=A2 f:=by
 unfold A2;rw[Qi];refine MR λi _=>?_
 show BS (bA (Qj kp ko f) i).End.To=BS (bA f i).End.To
 rw[PK]
theorem tH:B5 (Qj kp ko f)=B5 f:=by unfold B5;rw[OC]
theorem zB(i:Nat):prF (Qj kp ko f) i=prF f i:=by unfold prF;rw[OC]
theorem ct_shapeB:Gp (Qj kp ko f)=Gp f:=by
 rw[W9,shape_iff,shape_iff,Qi];have e:∀ i,Bm (Qj kp ko f) i=Bm f i:=λi=>PK i;simp only[e]
theorem jW:sizeN (Qj kp ko f)<=sizeN f:=by
 rw[M2,M2,Qi];refine uX λi hi=>?_;rw[GY hi];unfold PL Ex;have h1:=List.length_filter_le kp (bA f i).Phis;have h2:=List.length_filter_le ko (bA f i).Ops
 show(List.filter kp (bA f i).Phis).length+(List.filter ko (bA f i).Ops).length+1<=_
 omega
theorem ZW{b:Ae}(hb:b∈(Qj kp ko f).Blocks):∃ c∈f.Blocks,b=PL kp ko c:=by
 obtain⟨c,hc,rfl⟩:=zzL21.1 hb;exact⟨c,hc,rfl⟩
theorem jX{i:Nat}(hi:i<f.Blocks.length):(UP (bA (Qj kp ko f) i)).Sublist (UP (bA f i)):=by
 rw[GY hi];unfold UP;refine List.Sublist.append ?_ ?_
 ·exact(List.filter_sublist).map _
 ·unfold ZZ;exact((List.filter_sublist (l:=(bA f i).Ops) (p:=ko)).filter _).map _
section
variable (R:CT f l)
include R
theorem ql{w:D1}(hw:w∈Bf f):Q8 f w.V=true:=by
 obtain⟨i,hi,h⟩:=(H2 (G7 R)).1 hw;unfold Q8;rw[List.any_eq_true];refine⟨bA f i,Ag hi,?_⟩;rw[zzL64];unfold Wf;rcases h with⟨k,j,hk,hj,e⟩|⟨k,j,hk,hj,e⟩|⟨hK,e⟩|⟨hK,e⟩<;>rw[e]
 ·exact zzL11.2 (.inl (zzL11.2 (.inl (zzL42.2 ⟨_,Ag (d:=default) hk,Ag (d:=0) hj⟩))))
 ·exact zzL11.2 (.inl (zzL11.2 (.inr (zzL42.2 ⟨_,Ag (d:=default) hk,Ag (d:=0) hj⟩))))
 ·exact zzL11.2 (.inr (by rw[if_pos (.inl hK)];exact zzL15.2 rfl))
 ·exact zzL11.2 (.inr (by rw[if_pos (.inr hK)];exact zzL15.2 rfl))
theorem o9(hsz:sizeN f<=512):Q1 (Qj kp ko f)=true:=by
 obtain⟨⟨m1,m2⟩,m3,m4,m5,m6,m7⟩:=mayF_iff.1 R.may;refine mayF_iff.2 ⟨by rw[Qi];exact⟨m1,m2⟩,m3,m4,m5,?_,λb hb=>?_⟩
 ·have:=jW (f:=f) (kp:=kp) (ko:=ko);unfold sizeW;rw[Vd (by omega)];omega
 ·obtain⟨c,hc,rfl⟩:=ZW hb;obtain⟨h1,h2,h3⟩:=blockB_iff.1 (m7 c hc);exact blockB_iff.2 ⟨λp hp=>h1 p (Hd hp),λo ho=>h2 o (Hd ho),h3⟩
theorem pA:N8 (Qj kp ko f) l=true:=by
 have h:=R.typed;simp only[N8,Fz,A6,zzL27]at h ⊢;obtain⟨⟨t1,t2⟩,t3⟩:=h;refine⟨⟨t1,λb hb=>?_⟩,t3⟩;obtain⟨c,hc,rfl⟩:=ZW hb;exact⟨λp hp=>(t2 c hc).1 p (Hd hp),λo ho=>(t2 c hc).2 o (Hd ho)⟩
theorem lc:Fb (Qj kp ko f)=true:=by
 have hs:=Bd R;refine MK (by rw[ct_shapeB];exact hs) λb hb=>?_;rw[Qi]at hb;obtain⟨r1,r2⟩:=Wt R hb;refine⟨by rw[OC];exact r1,by rw[PK];exact r2,λp hp=>?_⟩;rw[GY hb]at hp;obtain⟨q1,q2⟩:=Tf R hb (Hd hp);exact⟨by rw[zB];exact q1,q2⟩
variable (C:Ct f kp ko)
include C
theorem wq{d:Cc}(hd:d∈As f)(hu:Q8 f d.V=true):∃ e∈As (Qj kp ko f),e.V=d.V/\e.Shape=d.Shape/\e.Block=d.Block /\
  (d.Block<0\/(∃ i,i<f.Blocks.length/\d.Block=(i:Int)/\((d.At = -1/\e.At = -1)\/∃ k,k<(bA f i).Ops.length/\d.At=(k:Int)/\ko ((bA f i).Ops.getD k default)=true/\e.At=((JD ko (bA f i).Ops k:Nat):Int)))):=by
 rcases ri_def.1 hd with⟨j,hj,e⟩|⟨i,hi,⟨k,hk,e⟩|⟨k,hk,hg,e⟩⟩
 ·exact⟨d,ri_def.2 (.inl ⟨j,hj,e⟩),rfl,rfl,rfl,.inl (by rw[e];show(-1:Int)<0;omega)⟩
 ·have hp:=Ag (d:=(default:TPhi)) hk;have hkp:kp ((bA f i).Phis.getD k default)=true:=C.phi _ (Ag (d:=default) hi) _ hp (by rw[e]at hu;exact hu);obtain⟨h1,h2⟩:=HD hk hkp;have hat:=GY (kp:=kp) (ko:=ko) hi
  have hP:(bA (Qj kp ko f) i).Phis=(bA f i).Phis.filter kp:=by rw[hat];rfl
  refine⟨_,ri_def.2 (.inr ⟨i,by rw[Qi];exact hi,.inl ⟨JD kp (bA f i).Phis k,by rw[hP];exact h1,rfl⟩⟩),?_,?_,?_,.inr ⟨i,hi,by rw[e],.inl ⟨by rw[e],rfl⟩⟩⟩
  ·rw[hP,h2,e]
  ·rw[hP,h2,e]
  ·rw[e]
 ·have ho:=Ag (d:=(default:TOp)) hk;have hko:ko ((bA f i).Ops.getD k default)=true:=C.op _ (Ag (d:=default) hi) _ ho (by rw[e]at hu;exact hu);obtain⟨h1,h2⟩:=HD hk hko;have hat:=GY (kp:=kp) (ko:=ko) hi
  have hO:(bA (Qj kp ko f) i).Ops=(bA f i).Ops.filter ko:=by rw[hat];rfl
  refine⟨_,ri_def.2 (.inr ⟨i,by rw[Qi];exact hi,.inr ⟨JD ko (bA f i).Ops k,by rw[hO];exact h1,by rw[hO,h2];exact hg,rfl⟩⟩),?_,?_,?_,.inr ⟨i,hi,by rw[e],.inr ⟨k,hk,by rw[e],hko,rfl⟩⟩⟩
  ·rw[hO,h2,e]
  ·rw[hO,h2,e]
  ·rw[e]
theorem ld(hsz:sizeN f<=512)(hok:OkF (Qj kp ko f)):CT (Qj kp ko f) l:=by
 have hgt:=pA (kp:=kp) (ko:=ko) R
 have hgm:∀ b∈(Qj kp ko f).Blocks,∀ o∈b.Ops,Gs o=true:=λb hb o ho=>by
  simp only[N8,Fz,A6,zzL27]at hgt;exact DT ((hgt.1.2 b hb).2 o ho)
 obtain⟨N1,N2,N3⟩:=(nodup_split f).1 (Xn (DQ R).1)
 have hcap:∀{d:Cc},d∈As (Qj kp ko f)->d.At<1000:=λ{d} hd=>by
  rcases defs_in hok d hd with h3|⟨_,_,h3⟩
  ·rcases ri_def.1 hd with⟨i,_,e⟩|⟨i,_,⟨k,_,e⟩|⟨k,_,_,e⟩⟩
   ·rw[e];show(0:Int)<1000;omega
   ·rw[e]at h3;have:(i:Int) = -1:=h3;omega
   ·rw[e]at h3;have:(i:Int) = -1:=h3;omega
  ·exact h3
 have key:∀{w:D1} {i:Nat} {a:Int},w∈Bf f->i<f.Blocks.length->w.Block=(i:Int)->(w.At=1000/\a=1000\/∃ k,k<(bA f i).Ops.length/\w.At=(k:Int)/\a=((JD ko (bA f i).Ops k:Nat):Int))->
   ∃ d∈As (Qj kp ko f),d.V=w.V/\d.Shape=w.Shape/\lK (Qj kp ko f) d (i:Int) a:=λ{w i a} hw hi hb ha=>by
  obtain⟨d,hd,hv,hsh,ht⟩:=KD R hw;obtain⟨e,he,e1,e2,e3,e4⟩:=wq R C hd (by rw[hv];exact ql R hw);refine⟨e,he,by rw[e1,hv],by rw[e2,hsh],?_⟩;rw[hb]at ht;rcases ht with h|⟨h1,h2⟩|⟨h1,h2⟩
  ·exact .inl (by rw[e3];exact h)
  ·refine .inr (.inl ⟨by rw[e3];exact h1,?_⟩);rcases ha with⟨_,rfl⟩|⟨k,hk,hwk,rfl⟩
   ·exact hcap he
   ·rcases e4 with h4|⟨j,hj,hjb,⟨hq1,hq2⟩|⟨q,hq,hq1,hq2,hq3⟩⟩
    ·omega
    ·rw[hq2];omega
    ·have:j=i:=by omega
     subst this;rw[hq3];have:=wm (p:=ko) (d:=(default:TOp)) hk (show q<k by omega) hq2;omega
  ·refine .inr (.inr ⟨by rw[e3];exact h1,?_⟩);rw[e3,tH];exact h2
 refine⟨o9 R hsz,lc R,hgt,SC ((nodup_split _).2 ⟨λk hk=>?_,λk m hk hm hne v hv hw=>?_,λi hi k hk hv=>?_⟩) (λd hd=>?_) (λu hu=>?_)⟩
 ·rw[Qi]at hk;exact(N1 k hk).sublist (jX hk)
 ·rw[Qi]at hk hm;exact N2 k m hk hm hne v ((jX hk).subset hv) ((jX hm).subset hw)
 ·rw[Qi]at hk;exact N3 i hi k hk ((jX hk).subset hv)
 ·rcases ri_def.1 hd with⟨i,hi,e⟩|⟨k,hk,⟨j,hj,e⟩|⟨j,hj,hg,e⟩⟩
  ·rw[e];exact Yl R (d:=⟨(i:Int)+1,-1,0,(f.Params.getD i 0,1)⟩) (ri_def.2 (.inl ⟨i,hi,rfl⟩))
  ·rw[Qi]at hk;rw[e];have hm:=Ag (d:=(default:TPhi)) hj;rw[GY hk]at hm;obtain⟨q,hq,eq⟩:=Fx (Hd hm);have:=Yl R (d:=⟨((bA f k).Phis.getD q default).Dst,k,-1,(((bA f k).Phis.getD q default).Bits,1)⟩) (ri_def.2 (.inr ⟨k,hk,.inl ⟨q,hq,rfl⟩⟩));rw[Ab _ _ _ hq,eq]at this;rw[GY hk];exact this
  ·rw[e];exact WZ (hgm _ (Ag (d:=default) hk) _ (Ag (d:=default) hj)) hg
 ·obtain⟨k,hk,hcase⟩:=(H2 hgm).1 hu;rw[Qi]at hk;have hs:=Bd R;rw[PK,GY hk]at hcase;rcases hcase with⟨q,j,hq,hj,e⟩|⟨q,j,hq,hj,e⟩|⟨hK,e⟩|⟨hK,e⟩
  ·obtain⟨i,hi,hp,hc⟩:=OJ (d:=(default:TPhi)) hq;have h2:=(HD hi hp).2;rw[hc]at h2;have h2':(PL kp ko (bA f k)).Phis.getD q default=(bA f k).Phis.getD i default:=h2;rw[h2']at e hj;have hw:=(H2 (G7 R) (f:=f)).2 ⟨k,hk,.inl ⟨i,j,hi,hj,rfl⟩⟩;obtain⟨q1,q2⟩:=Tf R hk (Ag (d:=(default:TPhi)) hi);obtain⟨c,ec,hc,_⟩:=(Q5 hs hk).1 (show((bA f k).Phis.getD i default).From.getD j 0∈prF f k by rw[<- q1];exact Ag (by omega));obtain⟨d,m1,m2,m3,m4⟩:=key hw hc ec (.inl ⟨rfl,rfl⟩);rw[e];exact⟨d,m1,m2,m3,by show lK _ d (((bA f k).Phis.getD i default).From.getD j 0) 1000;rw[ec];exact m4⟩
  ·obtain⟨i,hi,hp,hc⟩:=OJ (d:=(default:TOp)) hq;have h2:=(HD hi hp).2;rw[hc]at h2;have h2':(PL kp ko (bA f k)).Ops.getD q default=(bA f k).Ops.getD i default:=h2;rw[h2']at e hj;have hw:=(H2 (G7 R) (f:=f)).2 ⟨k,hk,.inr (.inl ⟨i,j,hi,hj,rfl⟩)⟩;obtain⟨d,m1,m2,m3,m4⟩:=key hw hk rfl (.inr ⟨i,hi,rfl,rfl⟩);rw[e];exact⟨d,m1,m2,m3,by rw[hc]at m4;exact m4⟩
  ·have hw:=(H2 (G7 R) (f:=f)).2 ⟨k,hk,.inr (.inr (.inl ⟨hK,rfl⟩))⟩;obtain⟨d,m1,m2,m3,m4⟩:=key hw hk rfl (.inl ⟨rfl,rfl⟩);rw[e];exact⟨d,m1,m2,m3,m4⟩
  ·have hw:=(H2 (G7 R) (f:=f)).2 ⟨k,hk,.inr (.inr (.inr ⟨hK,rfl⟩))⟩;obtain⟨d,m1,m2,m3,m4⟩:=key hw hk rfl (.inl ⟨rfl,rfl⟩);rw[e];exact⟨d,m1,m2,m3,m4⟩
end
theorem zA(hN:Nw f):Nw (Qj kp ko f):=by
 have hsz:=jW (f:=f) (kp:=kp) (ko:=ko);refine⟨⟨hN.inf.params,by rw[Qi];exact hN.inf.blocks,λb hb=>?_,λb hb p hp=>?_,λb hb o ho=>?_⟩,hN.params,λb hb=>?_,λb hb p hp=>?_,λb hb o ho=>?_,by have:=hN.size;omega⟩<;>obtain⟨c,hc,rfl⟩:=ZW hb
 ·obtain⟨h1,h2,h3⟩:=hN.inf.block c hc;exact⟨P3 (List.length_filter_le ..) h1,P3 (List.length_filter_le ..) h2,h3⟩
 ·exact hN.inf.phi c hc p (Hd hp)
 ·exact hN.inf.op c hc o (Hd ho)
 ·exact hN.to c hc
 ·exact hN.phi c hc p (Hd hp)
 ·exact hN.op c hc o (Hd ho)
theorem ZX(R:CT f l)(C:Ct f kp ko)(hN:Nw f):CT (Qj kp ko f) l/\Nw (Qj kp ko f):=
 have hn:=zA (kp:=kp) (ko:=ko) hN
 ⟨ld R C hN.size (kH (ju hn) (o9 R hN.size)),hn⟩
end
def Tu(u:Int->Bool)(p:TPhi):Bool:=u p.Dst
def S1(u:Int->Bool)(o:TOp):Bool:=!kD o.Kind || u o.Dst
def Uq(f:TFunc):TFunc:=Qj (Tu (Q8 f)) (S1 (Q8 f)) f
theorem ZY(f:TFunc):Ct f (Tu (Q8 f)) (S1 (Q8 f)):=⟨λ_ _ _ _ h=>h,λ_ _ _ _ h=>by unfold S1;rw[h,Bool.or_true]⟩
def deadM:Nat->TFunc->TFunc
 | 0,f=>f
 | n+1,f=>if sizeN (Uq f)<sizeN f then deadM n (Uq f) else f
theorem cp{l:Int}:∀(n:Nat) (f:TFunc),CT f l->Nw f->sizeN f<=n->CT (deadM n f) l/\Nw (deadM n f)/\sizeN (deadM n f)<=sizeN (Uq (deadM n f))/\(deadM n f).Blocks.length=f.Blocks.length/\sizeN (deadM n f)<=sizeN f/\A2 (deadM n f)=A2 f/\∀ i,(bA (deadM n f) i).End=(bA f i).End
 | 0,f,R,hN,hn=>⟨R,hN,by show sizeN f<=_;omega,rfl,zzL6 _,rfl,λ_=>rfl⟩
 | n+1,f,R,hN,hn=>by
  unfold deadM
  split
  ·rename_i h
   obtain⟨R',hN'⟩:=ZX R (ZY f) hN;obtain⟨a,b,c,d,e,g,i⟩:=cp n (Uq f) R' hN' (by omega);exact⟨a,b,c,d.trans Qi,by omega,g.trans OC,λk=>(i k).trans (PK k)⟩
  ·exact⟨R,hN,by omega,rfl,zzL6 _,rfl,λ_=>rfl⟩
theorem mZ(n v:Nat):(List.replicate n false).getD v false=false:=by
 rw[W4]
 by_cases h:v<n
 ·rw[P2 (by rw[Oa];exact h),List.getElem_replicate];rfl
 ·rw[SW (by rw[Oa];omega)];rfl
def EK(L:List Int)(M:List Bool):List Bool:=L.foldl (λM a=>M.set a.toNat true) M
theorem U0:∀(L:List Int) (M:List Bool),(EK L M).length=M.length
 | [],M=>rfl
 | a::L,M=>by unfold EK;rw[Vh];exact(U0 L _).trans (Db ..)
theorem bC(L K:List Int)(M:List Bool):EK (L++K) M=EK K (EK L M):=by unfold EK;rw[List.foldl_append]
theorem QY{α:Type}(F:α->List Int):∀(l:List α) (M:List Bool),EK (l.flatMap F) M=l.foldl (λs x=>EK (F x) s) M
 | [],M=>rfl
 | a::l,M=>by rw[MS,bC,Vh,QY F l]
theorem js:∀(L:List Int) (M:List Bool) {v:Nat},v<M.length->(EK L M).getD v false=(M.getD v false || L.any λa=>a.toNat==v)
 | [],M,v,h=>by simp[EK]
 | a::L,M,v,h=>by
  have e:EK (a::L) M=EK L (M.set a.toNat true):=rfl;rw[e,js L _ (by rw[Db];exact h),List.any_cons]
  by_cases ha:a.toNat=v
  ·subst ha;rw[show(M.set a.toNat true).getD a.toNat false=true by rw[W4,List.getElem?_set_self h];rfl]
   simp
  ·rw[show(M.set a.toNat true).getD v false=M.getD v false by simp only[W4];rw[List.getElem?_set_ne ha]];rw[show(a.toNat==v)=false by simpa using ha,Bool.false_or]
theorem PF{L:List Int}{M:List Bool}(hl:L.length<4611686018427387904)(h:∀ a∈L,0<=a/\a<1024)(hM:M.length=1024):Jm L M=some (EK L M):=by
 unfold Jm
 have key:=DK L (0:Int) (λi (s:List Bool)=>((i:Int),s)) (λ_ s=>s.length=1024) (λs a=>s.set a.toNat true) id (Ky L) (λi s hi hP=>by
  obtain⟨h0,h1⟩:=h _ (Ag (d:=(0:Int)) hi);unfold Ky;simp only[Bx hi,Ah,Aa (Ai hi),Am,w1 (show i<4611686018427387904 by omega)];rw[Aa (show A1 (L.getD i 0) s.length from⟨h0,by omega⟩)]
  exact⟨rfl,by rw[Db];exact hP⟩) (λs _=>by unfold Ky;simp only[C8,Aw];rfl) M hM
 have k1:Ac (Ky L) ((0:Int),M)=_:=key.1;rw[k1];rfl
section
variable {f:TFunc} {l:Int} (R:CT f l)
include R
theorem sk{i:Nat}(hi:i<f.Blocks.length){a:Int}(ha:a∈Wf (bA f i)):∃ w∈Bf f,w.V=a:=by
 unfold Wf at ha;rcases zzL11.1 ha with h|h
 ·rcases zzL11.1 h with h|h
  ·obtain⟨p,hp,h⟩:=zzL42.1 h;obtain⟨k,hk,rfl⟩:=Fx hp;obtain⟨j,hj,rfl⟩:=Fx h;refine⟨_,(H2 (G7 R)).2 ⟨i,hi,.inl ⟨k,j,hk,by rw[Ab _ _ _ hk];exact hj,rfl⟩⟩,?_⟩
   show((bA f i).Phis.getD k default).Args.getD j 0=_
   rw[Ab _ _ _ hk,Ab _ _ _ hj]
  ·obtain⟨p,hp,h⟩:=zzL42.1 h;obtain⟨k,hk,rfl⟩:=Fx hp;obtain⟨j,hj,rfl⟩:=Fx h;refine⟨_,(H2 (G7 R)).2 ⟨i,hi,.inr (.inl ⟨k,j,hk,by rw[Ab _ _ _ hk];exact hj,rfl⟩)⟩,?_⟩
   show((bA f i).Ops.getD k default).Args.getD j 0=_
   rw[Ab _ _ _ hk,Ab _ _ _ hj]
 ·split at h
  ·rename_i hK
   rw[zzL15.1 h];rcases hK with hK|hK
   ·exact⟨_,(H2 (G7 R)).2 ⟨i,hi,.inr (.inr (.inl ⟨hK,rfl⟩))⟩,rfl⟩
   ·exact⟨_,(H2 (G7 R)).2 ⟨i,hi,.inr (.inr (.inr ⟨hK,rfl⟩))⟩,rfl⟩
  ·cases h
theorem jK{i:Nat}(hi:i<f.Blocks.length){a:Int}(ha:a∈Wf (bA f i)):1<=a/\a<=1023:=by
 obtain⟨w,hw,rfl⟩:=sk R hi ha;obtain⟨d,hd,e,_⟩:=KD R hw;have:=Yl R hd;rw[e]at this;unfold valS at this
 simpa using this
def VI(f:TFunc):List Bool:=f.Blocks.foldl (λs b=>EK (Wf b) s) (List.replicate 1024 false)
theorem jR(hN:Nw f):Kx f=some (VI f)/\(VI f).length=1024:=by
 have hroom:(1000001:Nat)<=room:=by decide
 have h64:=(shape_iff.1 (Bd R)).1.2
 have hsz:∀ c,c<f.Blocks.length->Ex (bA f c)<=512:=λc hc=>by
  have:=Wy (F:=λb=>Ex (bA f b)) hc;rw[<- M2]at this;have:=hN.size;omega
 unfold Kx
 have key:=DK f.Blocks (default:Ae) (λi (s:List Bool)=>((i:Int),s)) (λ_ s=>s.length=1024) (λs b=>EK (Wf b) s) id (Mr f) (λi s hi hP=>by
  have hav:=λa ha=>jK R hi (a:=a) ha;have hz:=hsz i hi;unfold Ex at hz
  have hph:∀ p∈(bA f i).Phis,(∀ a∈p.Args,0<=a/\a<1024)/\p.Args.length<4611686018427387904:=λp hp=>⟨λa ha=>by
   have:=hav a (zzL11.2 (.inl (zzL11.2 (.inl (zzL42.2 ⟨p,hp,ha⟩)))))
   omega,by have:=hN.phi _ (Ag (d:=default) hi) p hp;omega⟩
  have hop:∀ p∈(bA f i).Ops,(∀ a∈p.Args,0<=a/\a<1024)/\p.Args.length<4611686018427387904:=λp hp=>⟨λa ha=>by
   have:=hav a (zzL11.2 (.inl (zzL11.2 (.inr (zzL42.2 ⟨p,hp,ha⟩)))))
   omega,by have:=hN.op _ (Ag (d:=default) hi) p hp;omega⟩
  have k1:=DK (bA f i).Phis (default:TPhi) (λi (s:List Bool)=>((i:Int),s)) (λ_ s=>s.length=1024) (λs p=>EK p.Args s) id (Mp f (i:Int)) (λk s hk hP=>by
   obtain⟨q1,q2⟩:=hph _ (Ag (d:=(default:TPhi)) hk);unfold Mp;simp only[Am];rw[Bx hk,Ah,Aa (Ai hk),PF q2 q1 hP,An,Aa (U0 _ _).symm,w1 (show k<4611686018427387904 by omega)]
   exact⟨rfl,by rw[U0];exact hP⟩) (λs _=>by unfold Mp;simp only[Am];rw[C8];rfl) s hP
  have k1':Ac (Mp f (i:Int)) ((0:Int),s)=some ((bA f i).Phis.foldl (λs p=>EK p.Args s) s):=k1.1
  have k2:=DK (bA f i).Ops (default:TOp) (λi (s:List Bool)=>((i:Int),s)) (λ_ s=>s.length=1024) (λs p=>EK p.Args s) id (Mq f (i:Int)) (λk s hk hP=>by
   obtain⟨q1,q2⟩:=hop _ (Ag (d:=(default:TOp)) hk);unfold Mq;simp only[Am];rw[Bx hk,Ah,Aa (Ai hk),PF q2 q1 hP,An,Aa (U0 _ _).symm,w1 (show k<4611686018427387904 by omega)]
   exact⟨rfl,by rw[U0];exact hP⟩) (λs _=>by unfold Mq;simp only[Am];rw[C8];rfl) ((bA f i).Phis.foldl (λs p=>EK p.Args s) s) k1.2
  have k2':Ac (Mq f (i:Int)) ((0:Int),(bA f i).Phis.foldl (λs p=>EK p.Args s) s)=some ((bA f i).Ops.foldl (λs p=>EK p.Args s) ((bA f i).Phis.foldl (λs p=>EK p.Args s) s)):=k2.1;have k3:=k2.2
  have hfin:EK (Wf (bA f i)) s=EK (if(bA f i).End.Kind=0\/(bA f i).End.Kind=2 then[(bA f i).End.Arg] else[]) ((bA f i).Ops.foldl (λs p=>EK p.Args s) ((bA f i).Phis.foldl (λs p=>EK p.Args s) s)):=by
   unfold Wf;rw[bC,bC,QY,QY]
  unfold Mr;simp only[Bx hi,Ah,Aa (Ai hi),Am,w1 (show i<4611686018427387904 by omega)];rw[k1',An,k2',An]
  generalize hY:(bA f i).Ops.foldl (λs p=>EK p.Args s) ((bA f i).Phis.foldl (λs p=>EK p.Args s) s)=Y at *
  have hYl:Y.length=1024:=k3;have hg:EK (Wf (f.Blocks.getD i default)) s=EK (if(bA f i).End.Kind=0\/(bA f i).End.Kind=2 then[(bA f i).End.Arg] else[]) Y:=hfin;rw[hg]
  by_cases hK:(bA f i).End.Kind=0\/(bA f i).End.Kind=2
  ·have hb:(bif ((f.Blocks.getD i default).End.Kind==0) then true else((f.Blocks.getD i default).End.Kind==2))=true:=by
    rcases hK with h|h
    ·rw[show((f.Blocks.getD i default).End.Kind==0)=true from zzL63.2 h];rfl
    ·rw[show((f.Blocks.getD i default).End.Kind==2)=true from zzL63.2 h];cases((f.Blocks.getD i default).End.Kind==0)<;>rfl
   have ha:=hav (bA f i).End.Arg (zzL11.2 (.inr (by rw[if_pos hK];exact zzL15.2 rfl)));have hc1:=PF (L:=[(bA f i).End.Arg]) (M:=Y) (by show(1:Nat)<_;omega) (λa h=>by rw[zzL15.1 h];omega) hYl;have hc1':Jm [(f.Blocks.getD i default).End.Arg] Y=some (EK [(bA f i).End.Arg] Y):=hc1;rw[hb,Ah,hc1',An,Aa (U0 _ _).symm,if_pos hK];exact⟨rfl,by rw[U0];exact hYl⟩
  ·have hb:(bif ((f.Blocks.getD i default).End.Kind==0) then true else((f.Blocks.getD i default).End.Kind==2))=false:=by
    rw[show((f.Blocks.getD i default).End.Kind==0)=false from zzL30.2 (λh=>hK (.inl h)),Aw];exact zzL30.2 (λh=>hK (.inr h))
   rw[hb,Aw,if_neg hK]
   exact⟨rfl,hYl⟩) (λs _=>by unfold Mr;simp only[C8,Aw];rfl) (List.replicate 1024 false) (by simp)
 have k0:Ac (Mr f) ((0:Int),List.replicate ((1024:Int)).toNat false)=_:=key.1;rw[Aa ⟨by omega,by omega,by omega⟩,k0,An];exact⟨rfl,key.2⟩
theorem da{v:Int}(h0:0<=v)(h1:v<1024):(VI f).getD v.toNat false=Q8 f v:=by
 have key:∀(L:List Ae) (M:List Bool),v.toNat<M.length->(∀ b∈L,∀ a∈Wf b,0<=a)->(L.foldl (λs b=>EK (Wf b) s) M).getD v.toNat false=(M.getD v.toNat false || L.any λb=>(Wf b).contains v):=by
  intro L
  induction L with
  | nil=>intro M h _;simp
  | cons b L ih=>
   intro M h hb;rw[Vh,ih _ (by rw[U0];exact h) (λc hc=>hb c (by simp[hc])),js _ _ h,List.any_cons,Bool.or_assoc]
   congr 2
   rw[W9,List.any_eq_true,zzL64]
   constructor
   ·rintro⟨a,ha,he⟩;have:=hb b (by simp) a ha
    have he:a.toNat=v.toNat:=by simpa using he
    rw[show v=a by omega];exact ha
   ·intro h;exact⟨v,h,by simp⟩
 unfold VI Q8
 rw[key f.Blocks _ (by rw[Oa];omega) (λb hb a ha=>by
  obtain⟨i,hi,rfl⟩:=Fx hb;have:=jK R hi (a:=a) (by rw[show bA f i=f.Blocks[i] from Ab _ _ _ hi];exact ha)
  omega)]
 rw[mZ,Bool.false_or]
end
theorem idx_loop{α:Type}{s:List α}{d:α}{keep:α->Bool}{F:Int->Option (LR Int (Unit ⊕ Int))}(hn:∀ i,i<s.length->F (i:Int)=some (bif keep (s.getD i d) then .next (((i+1:Nat):Int)) else .done (.inr (i:Int))))
  (he:F (s.length:Int)=some (.done (.inl ()))):(∃ i,i<s.length/\Ac F (0:Int)=some (.inr (i:Int))/\keep (s.getD i d)=false/\∀ j,j<i->keep (s.getD j d)=true)\/(Ac F (0:Int)=some (.inl ())/\∀ j,j<s.length->keep (s.getD j d)=true):=by
 have key:∀ k i:Nat,i+k=s.length->(∀ j,j<i->keep (s.getD j d)=true)->(∃ m,m<s.length/\Ac F (i:Int)=some (.inr (m:Int))/\keep (s.getD m d)=false/\∀ j,j<m->keep (s.getD j d)=true)\/(Ac F (i:Int)=some (.inl ())/\∀ j,j<s.length->keep (s.getD j d)=true):=by
  intro k
  induction k with
  | zero=>
   intro i h hj
   obtain rfl:i=s.length:=by omega
   exact .inr ⟨Ak he,hj⟩
  | succ k ih=>
   intro i h hj
   have hi:i<s.length:=by omega
   have h1:=hn i hi
   cases hk:keep (s.getD i d) with
   | true=>
    rw[hk,Ah]at h1;rw[Ap h1]
    exact ih (i+1) (by omega) λj hji=>by
     by_cases e:j=i
     ·rw[e];exact hk
     ·exact hj j (by omega)
   | false=>
    rw[hk,Aw]at h1;exact .inl ⟨i,hi,Ak h1,hk,hj⟩
 exact key s.length 0 (by omega) (λj h=>by omega)
theorem GZ{α:Type}{s:List α}{d:α}{keep:α->Bool}{F:Int×Int×List α->Option (LR (Int×Int×List α) (Int×List α))}
  (hn:∀(a i:Nat) (l:List α),i<l.length->a<=i->l.length=s.length->l.getD i d∈s->F ((a:Int),(i:Int),l)=some (.next (bif keep (l.getD i d) then((((a+1:Nat):Int)),(((i+1:Nat):Int)),l.set a (l.getD i d)) else((a:Int),(((i+1:Nat):Int)),l))))
  (he:∀(a:Nat) (l:List α),F ((a:Int),(l.length:Int),l)=some (.done ((a:Int),l))):∀(k a i:Nat) (l:List α),i+k=s.length->a<=i->l.length=s.length->l.drop i=s.drop i->l.take a=(s.take i).filter keep->
   ∃(a':Nat) (l':List α),Ac F ((a:Int),(i:Int),l)=some ((a':Int),l')/\l'.length=s.length/\a'<=s.length/\l'.take a'=s.filter keep
 | 0,a,i,l,h,ha,hl,hd,ht=>by
  obtain rfl:i=l.length:=by omega
  refine⟨a,l,Ak (he a l),hl,by omega,?_⟩;rw[ht,hl,W7]
 | k+1,a,i,l,h,ha,hl,hd,ht=>by
  have hi:i<l.length:=by omega
  have his:i<s.length:=by omega
  have e1:l.getD i d=s.getD i d:=by
   have h1:(l.drop i)[0]?=(s.drop i)[0]?:=by rw[hd]
   rw[II,II,Nd]at h1;simp only[W4,h1]
  have hm:l.getD i d∈s:=by rw[e1];exact Ag his
  have h1:=hn a i l hi ha hl hm
  have hst:(s.take (i+1)).filter keep=(s.take i).filter keep++(if keep (l.getD i d)=true then[l.getD i d] else[]):=by
   rw[List.take_add_one,P2 his,W5,e1,Ab _ _ _ his]
   congr 1
   by_cases hk:keep s[i]=true<;>simp[hk]
  have hdd:∀ m:List α,m.drop i=l.drop i->m.drop (i+1)=s.drop (i+1):=λm hm=>by
   have:=Bi (List.drop 1) (hm.trans hd);rwa[List.drop_drop,List.drop_drop]at this
  cases hk:keep (l.getD i d) with
  | true=>
   rw[hk,Ah]at h1;rw[Ap h1];refine GZ hn he k (a+1) (i+1) _ (by omega) (by omega) (by rw[Db];exact hl) ?_ ?_
   ·have:=hdd l rfl;rw[<- this]
    apply List.ext_getElem?
    intro n;rw[II,II,List.getElem?_set_ne (by omega)]
   ·rw[hst,hk,if_pos rfl,<- ht,List.take_add_one,List.take_set_of_le (zzL6 _),List.getElem?_set_self (by omega)]
    rfl
  | false=>
   rw[hk,Aw]at h1;rw[Ap h1];refine GZ hn he k a (i+1) l (by omega) (by omega) hl (hdd l rfl) ?_;rw[hst,hk,if_neg (by simp),List.append_nil];exact ht
theorem cn{α:Type}(l:List α)(a k:Nat)(g:Nat->α):(OB l a k g).take a=l.take a:=by
 apply List.ext_getElem?
 intro n;rw[SY,SY]
 split
 ·rename_i h
  unfold OB;rw[List.getElem?_mapIdx]
  cases l[n]? with
  | none=>rfl
  | some x=>simp;omega
 ·rfl
theorem s5{p:TPhi}{M:List Bool}{u:Int->Bool}(hM:M.length=1024)(h:0<=p.Dst/\p.Dst<1024)(hu:M.getD p.Dst.toNat false=u p.Dst):Ji p M=some (!Tu u p):=by
 unfold Ji Tu;rw[Aa (show A1 p.Dst M.length from⟨h.1,by omega⟩),hu]
theorem s6{p:TOp}{M:List Bool}{u:Int->Bool}(hM:M.length=1024)(h:0<=p.Dst/\p.Dst<1024)(hu:M.getD p.Dst.toNat false=u p.Dst):Jj p M=some (!S1 u p):=by
 unfold Jj S1;rw[ll,An,Aa (λ_=>(show A1 p.Dst M.length from⟨h.1,by omega⟩)),hu]
 cases kD p.Kind<;>cases u p.Dst<;>rfl
theorem wa{s:List TPhi}{M:List Bool}{u:Int->Bool}(hs:s.length<=1000000)(hM:M.length=1024)(h:∀ p∈s,(0<=p.Dst/\p.Dst<1024)/\M.getD p.Dst.toNat false=u p.Dst) :
  ∃ k L,Dl s M=some (k,L)/\L.length=s.length/\k<=s.length/\L.take k=s.filter (Tu u):=by
 have hck:∀ p∈s,Ji p M=some (!Tu u p):=λp hp=>s5 hM (h p hp).1 (h p hp).2;unfold Dl F1
 rcases idx_loop (s:=s) (d:=(default:TPhi)) (keep:=Tu u) (F:=C6 s M) (λi hi=>by
   unfold C6;simp only[Bx hi,Ah,Aa (Ai hi),Am,hck _ (Ag hi),An,w1 (show i<4611686018427387904 by omega)]
   cases Tu u (s.getD i default)<;>rfl) (by unfold C6;simp only[C8,Aw]) with⟨i,hi,hl,hno,hyes⟩|⟨hl,hall⟩
 ·rw[hl,An,An]
  have hne:((i:Int)==-1)=false:=by rw[zzL30];omega
  rw[hne,Aw,w1 (show i<4611686018427387904 by omega)]
  have htk:∀ n,n<=i->(s.take n).filter (Tu u)=s.take n:=λn hn=>by
   rw[List.filter_eq_self];intro p hp;obtain⟨j,hj,rfl⟩:=Fx hp;rw[W6]at hj;have:=hyes j (by omega);rw[Ab _ _ _ (by omega)]at this;rw[List.getElem_take];exact this
  obtain⟨a',l',h1,h2,h3,h4⟩:=GZ (s:=s) (d:=(default:TPhi)) (keep:=Tu u) (F:=Cv M) (λa k l hk hak hll hm=>by
    unfold Cv;simp only[Bx hk,Ah,Aa (Ai hk),Am,hck _ hm,An,w1 (show k<4611686018427387904 by omega)]
    cases Tu u (l.getD k default) with
    | true=>
     simp only[Dq,J9,Ah];rw[Aa (Ai (show a<l.length by omega)),An,w1 (show a<4611686018427387904 by omega)]
    | false=>
     simp only[Dq,J9,Aw]
     rw[An]) (λa l=>by unfold Cv;simp only[C8,Aw]) (s.length-(i+1)) i (i+1) s (by omega) (by omega) rfl rfl (by
    rw[List.take_add_one,P2 hi,W5,htk i (zzL6 _)]
    have:Tu u s[i]=false:=by rw[<- Ab _ _ default hi];exact hno
    simp[this])
  have e:((a':Int)).toNat=a':=Am a';rw[h1,An]
  dsimp only
  rw[e,Aa ⟨by omega,by omega⟩,Aa ⟨by omega,by rw[<- Ei];omega⟩];refine⟨_,_,rfl,by rw[<- Ei];exact h2,by omega,?_⟩;rw[E6,cn];exact h4
 ·rw[hl,An,An];refine⟨_,_,rfl,rfl,zzL6 _,?_⟩;rw[W7,Sz,List.filter_eq_self];intro p hp;obtain⟨j,hj,rfl⟩:=Fx hp;have:=hall j hj;rwa[Ab _ _ _ hj]at this
theorem wb{s:List TOp}{M:List Bool}{u:Int->Bool}(hs:s.length<=1000000)(hM:M.length=1024)(h:∀ p∈s,(0<=p.Dst/\p.Dst<1024)/\M.getD p.Dst.toNat false=u p.Dst) :
  ∃ k L,D0 s M=some (k,L)/\L.length=s.length/\k<=s.length/\L.take k=s.filter (S1 u):=by
 have hck:∀ p∈s,Jj p M=some (!S1 u p):=λp hp=>s6 hM (h p hp).1 (h p hp).2;unfold D0 Fp
 rcases idx_loop (s:=s) (d:=(default:TOp)) (keep:=S1 u) (F:=Cw s M) (λi hi=>by
   unfold Cw;simp only[Bx hi,Ah,Aa (Ai hi),Am,hck _ (Ag hi),An,w1 (show i<4611686018427387904 by omega)]
   cases S1 u (s.getD i default)<;>rfl) (by unfold Cw;simp only[C8,Aw]) with⟨i,hi,hl,hno,hyes⟩|⟨hl,hall⟩
 ·rw[hl,An,An]
  have hne:((i:Int)==-1)=false:=by rw[zzL30];omega
  rw[hne,Aw,w1 (show i<4611686018427387904 by omega)]
  have htk:∀ n,n<=i->(s.take n).filter (S1 u)=s.take n:=λn hn=>by
   rw[List.filter_eq_self];intro p hp;obtain⟨j,hj,rfl⟩:=Fx hp;rw[W6]at hj;have:=hyes j (by omega);rw[Ab _ _ _ (by omega)]at this;rw[List.getElem_take];exact this
  obtain⟨a',l',h1,h2,h3,h4⟩:=GZ (s:=s) (d:=(default:TOp)) (keep:=S1 u) (F:=Dd M) (λa k l hk hak hll hm=>by
    unfold Dd;simp only[Bx hk,Ah,Aa (Ai hk),Am,hck _ hm,An,w1 (show k<4611686018427387904 by omega)]
    cases S1 u (l.getD k default) with
    | true=>
     simp only[Dq,J9,Ah];rw[Aa (Ai (show a<l.length by omega)),An,w1 (show a<4611686018427387904 by omega)]
    | false=>
     simp only[Dq,J9,Aw]
     rw[An]) (λa l=>by unfold Dd;simp only[C8,Aw]) (s.length-(i+1)) i (i+1) s (by omega) (by omega) rfl rfl (by
    rw[List.take_add_one,P2 hi,W5,htk i (zzL6 _)]
    have:S1 u s[i]=false:=by rw[<- Ab _ _ default hi];exact hno
    simp[this])
  have e:((a':Int)).toNat=a':=Am a';rw[h1,An]
  dsimp only
  rw[e,Aa ⟨by omega,by omega⟩,Aa ⟨by omega,by rw[<- Ei];omega⟩];refine⟨_,_,rfl,by rw[<- Ei];exact h2,by omega,?_⟩;rw[E6,cn];exact h4
 ·rw[hl,An,An];refine⟨_,_,rfl,rfl,zzL6 _,?_⟩;rw[W7,Sz,List.filter_eq_self];intro p hp;obtain⟨j,hj,rfl⟩:=Fx hp;have:=hall j hj;rwa[Ab _ _ _ hj]at this
section
variable {f:TFunc} {l:Int} (R:CT f l) (hN:Nw f)
include R hN
theorem lb : Jp f (VI f) = some (Uq f) := by
  have hroom : (1000001 : Nat) ≤ room := by decide
  have h64 := (shape_iff.1 (Bd R)).1.2; have hM := (jR R hN).2
  have hsz : ∀ c, c < f.Blocks.length → Ex (bA f c) ≤ 512 := fun c hc => by
    have := Wy (F := fun b => Ex (bA f b)) hc; rw [← M2] at this; have := hN.size; omega
  unfold Jp
  have key := DK f.Blocks (default : Ae) (fun i (s : List Ae) => ((i : Int), s)) (fun i s => s.length = i) (fun s b => s ++ [PL (Tu (Q8 f)) (S1 (Q8 f)) b]) id (K3 f (VI f)) (fun i s hi hP => by
    have hz := hsz i hi; unfold Ex at hz
    have hd1 : ∀ p ∈ (f.Blocks.getD i default).Phis, (0 ≤ p.Dst ∧ p.Dst < 1024) ∧ (VI f).getD p.Dst.toNat false = Q8 f p.Dst := fun p hp => by
      obtain ⟨k, hk, rfl⟩ := Fx hp; have := Yl R (d := ⟨((bA f i).Phis.getD k default).Dst, i, -1, (((bA f i).Phis.getD k default).Bits, 1)⟩) (ri_def.2 (.inr ⟨i, hi, .inl ⟨k, hk, rfl⟩⟩)); rw [Ab _ _ _ hk] at this; have := IF this
      have h1 : valS ((f.Blocks.getD i default).Phis[k]).Dst = true := by assumption
      unfold valS at h1; simp only [A6, Gq] at h1; exact ⟨by omega, da R (by omega) (by omega)⟩
    have hd2 : ∀ p ∈ (f.Blocks.getD i default).Ops, (0 ≤ p.Dst ∧ p.Dst < 1024) ∧ (VI f).getD p.Dst.toNat false = Q8 f p.Dst := fun p hp => by
      have hm := G7 R _ (Ag (d := default) hi) p hp; have hd := (Uy hm).2.2.2.2.2.2
      have : 0 ≤ p.Dst ∧ p.Dst < 1024 := by
        unfold dstS at hd
        cases hc : (p.Kind == 17 || p.Kind == 19) with
        | true => rw [hc] at hd; have : p.Dst = 0 := by simpa using hd
                  omega
        | false =>
          rw [hc] at hd; have h1 : valS p.Dst = true := hd; unfold valS at h1; simp only [A6, Gq] at h1; omega
      exact ⟨this, da R this.1 this.2⟩
    have hz' : (f.Blocks.getD i default).Phis.length + (f.Blocks.getD i default).Ops.length + 1 ≤ 512 := hz; obtain ⟨k1, L1, a1, a2, a3, a4⟩ := wa (s := (f.Blocks.getD i default).Phis) (by omega) hM hd1; obtain ⟨k2, L2, b1, b2, b3, b4⟩ := wb (s := (f.Blocks.getD i default).Ops) (by omega) hM hd2
    have cl1 : Cn (f.Blocks.getD i default).Phis = some (f.Blocks.getD i default).Phis := by unfold Cn; rw [Aa (by omega)]
    have cl2 : C7 (f.Blocks.getD i default).Ops = some (f.Blocks.getD i default).Ops := by unfold C7; rw [Aa (by omega)]
    unfold K3; simp only [Bx hi, Ah, Aa (Ai hi), Am, w1 (show i < 4611686018427387904 by omega)]; rw [cl1, An, a1, An]
    dsimp only
    rw [Aa (by omega), Aa a2.symm, cl2, An, b1, An]
    dsimp only
    rw [Aa (by omega), Aa b2.symm, Ad (by show s.length + 1 ≤ room; omega), a4, b4]
    exact ⟨rfl, by rw [Fe, hP]; rfl⟩) (fun s _ => by unfold K3; simp only [C8, Aw]; rfl) [] rfl
  have k0 : Ac (K3 f (VI f)) ((0 : Int), ([] : List Ae)) = _ := key.1; rw [k0, An]
  have e : ∀ (L s : List Ae), L.foldl (fun s b => s ++ [PL (Tu (Q8 f)) (S1 (Q8 f)) b]) s = s ++ L.map (PL (Tu (Q8 f)) (S1 (Q8 f))) := fun L => by
    induction L with
    | nil => intro s; simp
    | cons b L ih => intro s; rw [Vh, ih]; simp
  dsimp only [id]
  rw [e, Zc]; rfl
end
theorem ow{f:TFunc}(hN:Nw f):Hb f=some ((sizeN f:Nat):Int):=by
 have:=hN.size;rw[vQ f hN.inf];unfold sizeW;rw[Vd (by omega)]
theorem WO{l:Int}:∀(n:Nat) (f:TFunc),CT f l->Nw f->sizeN f<=n->Ac Nx (f.Params,f.Ret,f.Blocks)=some (deadM n f)
 | 0,f,R,hN,hn=>by
  have h0:=(shape_iff.1 (Bd R)).1.1;have:=Wy (F:=λb=>Ex (bA f b)) (i:=0) (n:=f.Blocks.length) (by omega);rw[<- M2]at this;unfold Ex at this;omega
 | n+1,f,R,hN,hn=>by
  have hs:=Bd R;have h64:=(shape_iff.1 hs).1.2;obtain⟨R',hN'⟩:=ZX R (ZY f) hN
  have hF:Nx (f.Params,f.Ret,f.Blocks)=some (bif decide (((sizeN (Uq f):Nat):Int)<((sizeN f:Nat):Int)) then .next ((Uq f).Params,(Uq f).Ret,(Uq f).Blocks) else .done f):=by
   unfold Nx
   show(Kx f).bind _=_
   rw[(jR R hN).1,An]
   show(Jp f (VI f)).bind _=_
   rw[lb R hN,An,ow (show Nw (Uq f) from hN'),An]
   show(Hb f).bind _=_
   rw[ow hN,An]
   cases decide (((sizeN (Uq f):Nat):Int)<((sizeN f:Nat):Int))<;>rfl
  unfold deadM
  split
  ·rename_i h
   rw[Ci (by omega),Ah]at hF;rw[Ap hF];exact WO n (Uq f) R' hN' (by omega)
  ·rename_i h
   rw[Ch (by omega),Aw]at hF;exact Ak hF
def WM(f:TFunc):TFunc:=if Gn f 2=0 then deadM (sizeN f) f else f
theorem od{f:TFunc}(h:Sm f)(hN:Gn f 2=0->Nw f):Nv f=some (WM f):=by
 unfold Nv WM;rw[jT h,An]
 by_cases e:Gn f 2=0
 ·have R:CT f 2:=(bW (by omega)).1 e;have key:=WO (sizeN f) f R (hN e) (zzL6 _);have hF:((Kx f).bind λx5=>((Jp f x5).bind λx6=>((Hb x6).bind λx7=>((Hb f).bind λx8=>(bif (decide ((x7:Int)<x8)) then(some (.next (x6.Params,x6.Ret,x6.Blocks))) else(some (.done f)))))):Option (LR (List Int×Int×List Ae) TFunc))=Nx (f.Params,f.Ret,f.Blocks):=rfl;rw[if_pos e,Ci e,Dq,Aw,hF];rw[<- MJ]at key;rw[key];rfl
 ·rw[if_neg e,Ch e];rfl
theorem lr:m_locksteplaw16_awake=some true:=by kernel_rfl
theorem bZ{f:TFunc}(hf:UR f):Ac (Ce f) ((0:Int),(0:Int))=some (sizeW f):=by
 have hl:=DI f.Blocks (default:Ae) Ex id (Ce f) (λn i hi=>by
   have e1:decide ((i:Int)<(f.Blocks.length:Int))=true:=by simpa using hi
   unfold Ce;simp only[e1,Ah,Aa (Ai hi),C5,K7 hi hf.blocks]
   congr 3
   rw[Vc,Vc,Int.add_assoc (w64 _),Vc];unfold Ex
   congr 1
   omega) (λn=>by
   unfold Ce
   simp) f.Blocks.length 0 0 (E6 _)
 rw[Oc]at hl;rw[show w64 ((0:Nat):Int)=0 from rfl,show((0:Nat):Int)=0 from rfl]at hl;rw[hl];simp[sizeN,sizeW]
theorem pm{f:TFunc}(hf:UR f):∃ b,D7 f=some b/\(b=true->Sm f/\(Q1 f=true->f.Blocks.length<=16)):=by
 obtain⟨b,h1,h2⟩:=lz hf;refine⟨b,h1,λhb=>⟨h2 hb,λhm=>?_⟩⟩;unfold D7 at h1;rw[bZ hf,An]at h1;obtain⟨y,hy,h1⟩:=bind_some h1;have h3:=OI h1;rw[hb]at h3;unfold Q1 at hm;simp only[A6,Gq]at hm;obtain⟨⟨⟨⟨⟨⟨_,g1⟩,_⟩,_⟩,_⟩,g2⟩,_⟩:=hm;rw[Ch (show ¬ (512:Int)<sizeW f by omega),Ch (show ¬ ((64:Int):Int)<(f.Blocks.length:Int) by omega)]at h3
 by_cases hn:(f.Blocks.length:Int)<=16
 ·omega
 ·rw[Ch hn]at h3
  revert h3
  cases y<;>simp
theorem mH{k n:Int}(hn:n<=16):Se k n<=16:=by
 unfold Se
 cases k==0<;>cases(k==13 || k==18 || k==19)<;>cases(k==14 || k==15 || k==16 || k==22)<;>cases k==20<;>cases k==21<;>simp only[Ah,Aw]<;>omega
theorem mB{o:TOp}(h:Gs o=true):o.Args.length<=16:=by
 simp only[Gs,A6,zzL63]at h;have h1:=h.1.2.2;have h2:=mH (k:=o.Kind) (n:=o.Lanes) (by rcases shape_lanes h.1.1 with e|e|e|e|e<;>omega);omega
theorem zO{f:TFunc}(hs:Sm f)(h16:Q1 f=true->f.Blocks.length<=16){l:Int}(R:CT f l):Nw f:=by
 have hn:=h16 R.may;have hsh:=Bd R;obtain⟨sm,hsm,hp⟩:=ML f hs.1;rw[hs.2]at hsm;obtain⟨_,hsz,_⟩:=hp (OI hsm).symm R.may
 have hi:∀ b∈f.Blocks,∃ i,i<f.Blocks.length/\bA f i=b:=λb hb=>by
  obtain⟨i,hi,he⟩:=Fx hb;exact⟨i,hi,by unfold bA;rw[Ab _ _ _ hi];exact he⟩
 have hm:=mayF_iff.1 R.may;refine⟨hs.1,by omega,λb hb=>?_,λb hb p hp=>?_,λb hb o ho=>mB (vN R hb ho),hsz⟩
 ·obtain⟨i,hi',rfl⟩:=hi b hb;have h3:Kf (bA f i).End f.Blocks.length=true:=(shape_iff.1 hsh).2 i hi';unfold Kf Y0 at h3;simp only[A6,Gq]at h3;have h4:(((bA f i).End.To.length:Nat):Int)=CC (bA f i).End.Kind:=h3.1.2
  have h5:∀ k:Nat,([0,1,2,0]:List Int).getD k 0<=2:=λk=>by
   match k with
   | 0=>decide
   | 1=>decide
   | 2=>decide
   | 3=>decide
   | k+4=>simp
  have h5:CC (bA f i).End.Kind<=2:=h5 _;omega
 ·obtain⟨i,hi',rfl⟩:=hi b hb;obtain⟨e,h2⟩:=Tf R hi' hp
  have hl:(prF f i).length<=f.Blocks.length:=by
   unfold prF;rw[DO (by rw[L3];exact hi')];unfold Kb;rw[Dx];have:=List.length_filter_le (λk=>Yz (A2 f) k i) (List.range (A2 f).length);rw[Vf]at this;rw[L3]at this ⊢;exact this
  rw[e]at h2 ⊢;omega
theorem uC{g:TFunc}(h:Vq g=none)(n:Nat):oneM n g=g:=by
 cases n with
 | zero=>rfl
 | succ n=>unfold oneM;rw[h]
theorem pB{g:TFunc}(h:sizeN g<=sizeN (Uq g))(n:Nat):deadM n g=g:=by
 cases n with
 | zero=>rfl
 | succ n=>unfold deadM;rw[if_neg (by omega)]
theorem g7{f:TFunc}(hN:Nw f):Cr f=some ((sizeN f:Nat):Int):=by
 have:=hN.size;rw[eP f hN.inf];unfold sizeW;rw[Vd (by omega)]
theorem zL{f:TFunc}{lv:Int}(hf:UR f){K:Option Bool}(hl:0<=lv/\lv<=2\/True)(hK:Sm f->Gn f lv=0->(Q1 f=true->f.Blocks.length<=16)->K=some true) :
  ((D7 f).bind λx2=>((bif ((!x2)==false) then D6 f lv else some (0:Int)).bind λx3=>(bif (bif (!x2) then true else((x3:Int)!=(0:Int))) then(some true) else K)))=some true:=by
 obtain⟨b,hb,hsm⟩:=pm hf;rw[hb,An]
 cases b with
 | false=>rfl
 | true=>
  obtain⟨hs,h16⟩:=hsm rfl;rw[Dq,show((false:Bool)==false)=true from rfl,Ah,dO hs,An,Aw]
  cases hck:(Gn f lv !=0) with
  | true=>rfl
  | false=>
   have h0:Gn f lv=0:=by unfold bne at hck;simpa using hck
   rw[Aw];exact hK hs h0 h16
theorem JI{α:Type}{v:α->Int}{M:Int}:∀{l:List α} {n:Int},n<=M->(∀ a∈l,v a<=M)->l.foldl (λn a=>grow n (v a)) n<=M
 | [],n,h,_=>h
 | a::l,n,h,hl=>by
  rw[Vh];refine JI ?_ (λb hb=>hl b (by simp[hb]));unfold grow
  cases decide (n<v a)
  ·exact h
  ·exact hl a (by simp)
theorem jl{g:TFunc}{M:Int}(h0:(g.Params.length:Int)<=M)(h:∀ b∈g.Blocks,(∀ p∈b.Phis,p.Dst<=M)/\∀ o∈b.Ops,o.Dst<=M):Tv g<=M:=by
 have key:∀(l:List Ae),(∀ b∈l,(∀ p∈b.Phis,p.Dst<=M)/\∀ o∈b.Ops,o.Dst<=M)->∀ n:Int,n<=M->l.foldl (λn b=>b.Ops.foldl (λn o=>grow n o.Dst) (b.Phis.foldl (λn p=>grow n p.Dst) n)) n<=M:=by
  intro l
  induction l with
  | nil=>intro _ n h;exact h
  | cons b l ih=>
   intro hb n hn;rw[Vh];obtain⟨h1,h2⟩:=hb b (by simp);exact ih (λc hc=>hb c (by simp[hc])) _ (JI (v:=TOp.Dst) (JI (v:=TPhi.Dst) hn h1) h2)
 unfold Tv;exact key g.Blocks h _ h0
theorem QK(f:TFunc):(f.Params.length:Int)<=Tv f:=by
 obtain⟨h1,_⟩:=AZ f.Blocks (f.Params.length:Int);exact h1
theorem PP {f : TFunc} {l : Int} (R : CT f l) {i : Nat} (hi : i < f.Blocks.length) : (∀ p ∈ (bA f i).Phis, p.Dst ≤ Tv f) ∧ ∀ o ∈ (bA f i).Ops, o.Dst ≤ Tv f := by
  have hpar := QK f; refine ⟨fun p hp => ?_, fun o ho => ?_⟩
  · obtain ⟨k, hk, rfl⟩ := Fx hp; have h1 := WR (f := f) (d := ⟨((bA f i).Phis.getD k default).Dst, i, -1, (((bA f i).Phis.getD k default).Bits, 1)⟩) (ri_def.2 (.inr ⟨i, hi, .inl ⟨k, hk, rfl⟩⟩)); rw [Ab _ _ _ hk] at h1; exact h1
  · obtain ⟨k, hk, rfl⟩ := Fx ho; have hm := G7 R _ (Ag (d := default) hi) _ ho
    by_cases hg : 0 < (Gr (bA f i).Ops[k]).1
    · have h1 := WR (f := f) (d := ⟨((bA f i).Ops.getD k default).Dst, i, k, Gr ((bA f i).Ops.getD k default)⟩) (ri_def.2 (.inr ⟨i, hi, .inr ⟨k, hk, by rw [Ab _ _ _ hk]; exact hg, rfl⟩⟩)); rw [Ab _ _ _ hk] at h1; exact h1
    · have hd := (Uy hm).2.2.2.2.2.2; unfold dstS at hd
      cases hc : ((bA f i).Ops[k].Kind == 17 || (bA f i).Ops[k].Kind == 19) with
      | true => rw [hc] at hd; have : (bA f i).Ops[k].Dst = 0 := by simpa using hd
                omega
      | false =>
        exfalso
        refine hg ?_; rw [HG hm]; have hb := Vb (Uy hm).1
        have hb0 : 0 < (bA f i).Ops[k].Bits := by rcases width_cases hb with e | e | e | e | e <;> omega
        unfold Vr; rw [hc, Aw]
        cases ((bA f i).Ops[k].Kind == 10 || (bA f i).Ops[k].Kind == 11 || (bA f i).Ops[k].Kind == 12)
        · cases ((bA f i).Ops[k].Kind == 22) <;> exact hb0
        · show (0 : Int) < 1; omega
theorem lk{f:TFunc}{x y:Nat}{l:Int}(J:Jn f x y)(R:CT f l):Tv (B7 f x y)<=Tv f:=by
 refine jl (QK f) λb hb=>?_;obtain⟨c,hc,_,_,e1,e2,_,_⟩:=XE J R hb;refine⟨λp hp=>?_,λo ho=>?_⟩
 ·rw[e1]at hp;obtain⟨q,hq,rfl⟩:=zzL21.1 hp;exact(PP R hc).1 q hq
 ·obtain⟨d,hd,o',ho',rfl⟩:=e2 o ho;exact(PP R hd).2 o' ho'
theorem du{l:Int}:∀(n:Nat) (f:TFunc),CT f l->Nw f->Tv (oneM n f)<=Tv f
 | 0,f,_,_=>Int.le_refl _
 | n+1,f,R,hN=>by
  unfold oneM
  cases h:Vq f with
  | none=>exact Int.le_refl _
  | some p=>
   have J:=PV (Bd R) h;obtain⟨R',hN'⟩:=QD J R hN;exact Int.le_trans (du n _ R' hN') (lk J R)
theorem WN{l:Int}:∀(n:Nat) (f:TFunc),CT f l->Nw f->Tv (deadM n f)<=Tv f
 | 0,f,_,_=>Int.le_refl _
 | n+1,f,R,hN=>by
  unfold deadM
  split
  ·obtain⟨R',hN'⟩:=ZX R (ZY f) hN;refine Int.le_trans (WN n (Uq f) R' hN') (jl (QK f) λb hb=>?_);obtain⟨c,hc,rfl⟩:=ZW (f:=f) hb;obtain⟨i,hi,rfl⟩:=Fx hc;have e:bA f i=f.Blocks[i]:=Ab _ _ _ hi;obtain⟨h1,h2⟩:=PP R hi;rw[e]at h1 h2;exact⟨λp hp=>h1 p (Hd hp),λo ho=>h2 o (Hd ho)⟩
  ·exact Int.le_refl _
theorem two16(f:TFunc)(hf:UR f):Lv f=some true:=by
 unfold Lv;rw[lr,An,Dq,Aw];refine zL hf (.inr trivial) λhs h0 h16=>?_;have R:CT f 2:=(bW (by omega)).1 h0;have hN:=zO hs h16 R;obtain⟨a1,a2,a3,a4,a5⟩:=j4 f.Blocks.length f R hN (zzL6 _);obtain⟨d1,d2,d3,d4,d5,_⟩:=cp (sizeN f) f R hN (zzL6 _)
 have e1:mL f=oneM f.Blocks.length f:=by unfold mL;rw[if_pos h0]
 have e2:WM f=deadM (sizeN f) f:=by unfold WM;rw[if_pos h0]
 have l1:=du f.Blocks.length f R hN;have l2:=WN (sizeN f) f R hN;rw[u6 hs (λ_=>hN),An,od hs (λ_=>hN),An,e1,e2]
 generalize oneM f.Blocks.length f=A at *
 generalize deadM (sizeN f) f=B at *
 have f1:mL A=A:=by unfold mL;split<;>first|exact uC a3 _|rfl
 have f2:WM B=B:=by unfold WM;split<;>first|exact pB d3 _|rfl
 rw[Ci (show((A.Blocks.length:Nat):Int)<=((f.Blocks.length:Nat):Int) by omega),Ah,show(((B.Blocks.length:Nat):Int)==((f.Blocks.length:Nat):Int))=true by rw[d4];simp];rw[show((true:Bool)==true)=true from rfl,Ah,g7 a2,An,Ah,g7 hN,An,Ah,Ci (show((sizeN A:Nat):Int)<=((sizeN f:Nat):Int) by omega)];rw[show((true:Bool)==true)=true from rfl,Ah,g7 d2,An,Ah,An,Ah,Ci (show((sizeN B:Nat):Int)<=((sizeN f:Nat):Int) by omega)];rw[show((true:Bool)==true)=true from rfl,Ah,u6 (ju a2) (λ_=>a2),An,f1,Ah,eO _ _ a2.inf,An,Ah,Ci rfl];rw[show((true:Bool)==true)=true from rfl,Ah,od (ju d2) (λ_=>d2),An,f2,Ah,eO _ _ d2.inf,An,Ah,Ci rfl];rw[show((true:Bool)==true)=true from rfl,Ah,gb a2.inf,An,Ah,gb hN.inf,An,Ah,Ci l1];rw[show((true:Bool)==true)=true from rfl,Ah,gb d2.inf,An,Ah,An,Ah,Ci l2]
end
end Go.Proofs.YtfhggcbcamamdaaGreat
