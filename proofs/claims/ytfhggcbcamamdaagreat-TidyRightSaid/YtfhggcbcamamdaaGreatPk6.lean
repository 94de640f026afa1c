/-
  The machine, the program's functions and the laws' arithmetic: part 6 of 6.
-/
import Derived.Test.YtfhggcbcamamdaaGreatPk5
set_option linter.unusedSectionVars false
set_option linter.unusedVariables false
set_option linter.unusedSimpArgs false
namespace Go.Proofs.YtfhggcbcamamdaaGreat
noncomputable section
open Go Go.RowKit
set_option linter.unusedSectionVars false
set_option maxRecDepth 100000
structure Nw(f:TFunc):Prop where
 inf:VT f
 params:f.Params.length<=64
 to:∀ b∈f.Blocks,b.End.To.length<=2
 phi:∀ b∈f.Blocks,∀ p∈b.Phis,p.From.length<=16/\p.Args.length<=16
 op:∀ b∈f.Blocks,∀ o∈b.Ops,o.Args.length<=16
 size:sizeN f<=512
theorem dR{f:TFunc}(h:Nw f):Sm f:=by
 refine zR h.inf h.params (λb hb=>⟨by have:=h.to b hb;omega,λp hp=>by have:=h.phi b hb p hp;omega,λo ho=>by have:=h.op b hb o ho;omega⟩) ?_
 have hB:∀ b∈f.Blocks,UT b<=33*Ez b:=λb hb=>by
  have h1:(b.Phis.map cW).sum<=b.Phis.length*33:=gz _ _ _ λp hp=>by have:=h.phi b hb p hp;unfold cW;omega
  have h2:(b.Ops.map cV).sum<=b.Ops.length*33:=gz _ _ _ λo ho=>by have:=h.op b hb o ho;unfold cV;omega
  have h3:=h.to b hb;unfold UT Ez;omega
 have hS:∀ l:List Ae,(∀ b∈l,UT b<=33*Ez b)->(l.map UT).sum<=33*(l.map Ez).sum:=λl=>by
  induction l with
  | nil=>intro _;simp
  | cons b l ih=>
   intro hl;have h1:=hl b (zzL53 ..);have h2:=ih λx hx=>hl x (N6 _ hx);simp only[Cs,SR];omega
 have h1:=hS _ hB;have h2:=h.size;have h3:=h.params;unfold sizeN at h2;unfold fe;omega
def Th(n:Nat)(F:Nat->Nat):Nat:=((List.range n).map F).sum
theorem Rw(n:Nat)(F:Nat->Nat):Th (n+1) F=Th n F+F n:=by
 unfold Th;rw[W0,Wx,List.sum_append];simp
theorem Yi{n:Nat}{F G:Nat->Nat}(h:∀ i,i<n->F i=G i):Th n F=Th n G:=by
 unfold Th;rw[MN λi hi=>h i (zzL45.1 hi)]
theorem uF{n:Nat}{F G:Nat->Nat}(h:∀ i,i<n->F i<=G i):Th n F<=Th n G:=by
 induction n with
 | zero=>exact zzL6 _
 | succ n ih=>rw[Rw,Rw];have:=ih λi hi=>h i (by omega);have:=h n (by omega);omega
theorem Wo{n:Nat}{F:Nat->Nat}{i:Nat}(h:i<n):F i<=Th n F:=by
 induction n with
 | zero=>omega
 | succ n ih=>
  rw[Rw]
  by_cases e:i=n
  ·subst e;omega
  ·have:=ih (by omega);omega
theorem j0{y:Nat}(F:Nat->Nat):∀ n,y<n->Th (n-1) (λk=>F (IQ y k))+F y=Th n F
 | 0,h=>by omega
 | n+1,h=>by
  rw[Rw,show n+1-1=n by omega]
  by_cases e:y=n
  ·have e2:Th n (λk=>F (IQ y k))=Th n F:=Yi λi hi=>by
    have:IQ y i=i:=by rcases up_eq y i with h|h<;>omega
    rw[this]
   rw[e2,e]
  ·obtain⟨m,rfl⟩:∃ m,n=m+1:=⟨n-1,by omega⟩;have:=j0 (y:=y) F (m+1) (by omega);rw[show m+1-1=m by omega]at this
   have e3:IQ y m=m+1:=by rcases up_eq y m with h|h<;>omega
   have e4:Th (m+1) (λk=>F (IQ y k))=Th m (λk=>F (IQ y k))+F (IQ y m):=Rw ..;rw[e4,e3];omega
theorem jz{x:Nat}(F:Nat->Nat)(c:Nat):∀ n,x<n->Th n (λb=>if b=x then F b+c else F b)=Th n F+c
 | 0,h=>by omega
 | n+1,h=>by
  rw[Rw,Rw]
  by_cases e:n=x
  ·subst e;rw[if_pos rfl,Yi (G:=F) λi hi=>by rw[if_neg (by omega)]];omega
  ·rw[if_neg e,jz F c n (by omega)];omega
theorem Mw(f:TFunc):sizeN f=Th f.Blocks.length λb=>Ez (bA f b):=by
 unfold sizeN Th
 congr 1
 apply CF
 ·simp
 ·intro i h1 h2;simp at h1 h2 ⊢;simp[h1]
theorem mayF_iff{f:TFunc}:Qv f=true↔(1<=f.Blocks.length/\f.Blocks.length<=64)/\f.Params.length<=16/\listB f.Params=true/\numB f.Ret=true/\sizeW f<=512/\∀ b∈f.Blocks,blockB b=true:=by
 unfold Qv;simp only[A6,Gq,zzL26,and_assoc]
theorem numBJ{n:Int}:numB n=true↔0<=n/\n<=2147483647:=by unfold numB;rw[A6,Gq,Gq]
theorem listBJ{l:List Int}:listB l=true↔(∀ n∈l,0<=n/\n<=2147483647)/\l.length<=64:=by
 unfold listB;rw[A6,zzL26,Gq];exact⟨λh=>⟨λn hn=>numBJ.1 (h.1 n hn),h.2⟩,λh=>⟨λn hn=>numBJ.2 (h.1 n hn),h.2⟩⟩
theorem ID{v:Int}(h:valS v=true):0<=v/\v<=2147483647:=by
 unfold valS at h;simp only[A6,Gq]at h;omega
section
variable {f:TFunc} {x y:Nat} {l:Int} (J:Jn f x y) (R:Zw f l)
include J R
theorem fo:sizeN (Ca f x y)+(bA f y).Phis.length+1=sizeN f:=by
 have hy:=(LL J (Bd R)).1;rw[Mw,Mw,Oj J]
 have h1:Th (f.Blocks.length-1) (λb=>Ez (bA (Ca f x y) b))=Th (f.Blocks.length-1) (λk=>(λb=>Ez (Kd f x y b)) (IQ y k)):=Yi λi hi=>by
  rw[yr J hi];unfold GS Ez
  simp
 have h2:=j0 (y:=y) (λb=>Ez (Kd f x y b)) f.Blocks.length hy
 have h3:Th f.Blocks.length (λb=>Ez (Kd f x y b))=Th f.Blocks.length (λb=>if b=x then Ez (bA f b)+(bA f y).Ops.length else Ez (bA f b)):=Yi λi hi=>by
  unfold Kd
  split
  ·rename_i e;subst e;unfold Ez;simp;omega
  ·rfl
 rw[jz (x:=x) (λb=>Ez (bA f b)) _ _ J.hx]at h3
 have h4:Ez (Kd f x y y)=Ez (bA f y):=by unfold Kd;rw[if_neg J.ne]
 have h2':Th (f.Blocks.length-1) (λk=>(λb=>Ez (Kd f x y b)) (IQ y k))+Ez (Kd f x y y)=_:=h2;rw[h4]at h2';unfold Ez at h2' h3 h1 ⊢;omega
theorem cn{b:Ae}(hb:b∈(Ca f x y).Blocks):∃ c,c<f.Blocks.length/\c≠y/\b=bA (Ca f x y) (psJ x y c)/\b.Phis=(bA f c).Phis.map (NL (vJ f y) x y)/\(∀ o∈b.Ops,∃ d,d<f.Blocks.length/\∃ o'∈(bA f d).Ops,o=mb (vJ f y) o') /\
  b.End=oh (vJ f y) x y (bA f (Tg x y c)).End/\Tg x y c<f.Blocks.length:=by
 have hs:=Bd R;have hy:=(LL J hs).1;obtain⟨k,hk,e⟩:=G6 hb
 have e':bA (Ca f x y) k=b:=by unfold bA;rw[Ab _ _ _ hk];exact e
 rw[Oj J]at hk;have hu:=eL hy hk;have hun:=YA y k;have hps:=dn J.ne (x:=x) k;refine⟨IQ y k,hu,hun,by rw[hps,e'],?_,λo ho=>?_,?_,Yh J hs hu⟩
 ·rw[<- e',<- JF J R hu hun,hps]
 ·rw[<- e',<- hps]at ho
  by_cases ex:IQ y k=x
  ·rw[ex,PT J R]at ho;obtain⟨o',ho',rfl⟩:=zzL21.1 ho;rcases zzL12.1 ho' with h|h
   ·exact⟨x,J.hx,o',h,rfl⟩
   ·exact⟨y,hy,o',h,rfl⟩
  ·rw[jT J R hu hun ex]at ho;obtain⟨o',ho',rfl⟩:=zzL21.1 ho;exact⟨_,hu,o',ho',rfl⟩
 ·rw[<- e',<- PS J hs hu hun,hps]
theorem end_val{c:Nat}(hc:c<f.Blocks.length):(((bA f c).End.Kind=0\/(bA f c).End.Kind=2)/\valS (vJ f y (bA f c).End.Arg)=true)\/(((bA f c).End.Kind=1\/(bA f c).End.Kind=3)/\(bA f c).End.Arg=0/\vJ f y (bA f c).End.Arg=0):=by
 have hs:=Bd R
 have hk:(bA f c).End.Kind=0\/(bA f c).End.Kind=1\/(bA f c).End.Kind=2\/(bA f c).End.Kind=3:=by
  have h3:Ka (bA f c).End f.Blocks.length=true:=(shape_iff.1 hs).2 c hc;unfold Ka Yv at h3;simp only[A6,Gq]at h3;have:=h3.1.1;omega
 have hu:∀ b,(⟨(bA f c).End.Arg,(c:Int),1000,(b,1)⟩:D2)∈Bg f->valS (vJ f y (bA f c).End.Arg)=true:=λb h=>bJ J R h
 have h13:(bA f c).End.Kind=1\/(bA f c).End.Kind=3->(bA f c).End.Arg=0/\vJ f y (bA f c).End.Arg=0:=λh=>by
  have h0:=(Wj R hc).2 h;refine⟨h0,?_⟩;rw[h0];unfold vJ VR;rw[List.find?_eq_none.2];intro p hp;have:=Yg R (YF J R hp).2.2;have:valS p.Dst=true:=this;unfold valS at this;simp only[A6,Gq]at this
  simp;omega
 rcases hk with h|h|h|h
 ·exact .inl ⟨.inl h,hu _ ((H0 (Hh R)).2 ⟨c,hc,.inr (.inr (.inl ⟨h,rfl⟩))⟩)⟩
 ·exact .inr ⟨.inl h,h13 (.inl h)⟩
 ·exact .inl ⟨.inr h,hu _ ((H0 (Hh R)).2 ⟨c,hc,.inr (.inr (.inr ⟨h,rfl⟩))⟩)⟩
 ·exact .inr ⟨.inr h,h13 (.inr h)⟩
theorem dl{c:Nat}(hc:c<f.Blocks.length){p:Bc}(hp:p∈(bA f c).Phis){i:Nat}(hi:i<p.Args.length):(⟨p.Args.getD i 0,p.From.getD i 0,1000,(p.Bits,1)⟩:D2)∈Bg f:=by
 obtain⟨k,hk,e⟩:=G6 hp
 have e':(bA f c).Phis.getD k default=p:=by rw[Ab _ _ _ hk];exact e
 refine(H0 (Hh R)).2 ⟨c,hc,.inl ⟨k,i,hk,by rw[e'];exact hi,by rw[e']⟩⟩
theorem ux(hsz:sizeN f<=512):Qv (Ca f x y)=true:=by
 have hs:=Bd R;have hy:=LL J hs;have hsz':=fo J R;obtain⟨⟨m1,m2⟩,m3,m4,m5,m6,m7⟩:=mayF_iff.1 R.may;refine mayF_iff.2 ⟨by rw[Oj J];have:=J.hx;have:=J.ne;omega,m3,m4,m5,?_,λb hb=>?_⟩
 ·unfold sizeW;rw[U9 (by omega)];omega
 ·obtain⟨c,hc,hcy,_,e1,e2,e3,hsc⟩:=cn J R hb;refine blockB_iff.2 ⟨λp hp=>?_,λo ho=>?_,?_⟩
  ·rw[e1]at hp;obtain⟨q,hq,rfl⟩:=zzL21.1 hp;obtain⟨q1,q2⟩:=Tc R hc hq;obtain⟨p1,p2,p3,p4,_⟩:=OE J hs (v:=vJ f y) hc hcy q1 q2;have hb0:=(blockB_iff.1 (m7 _ (Ag (d:=default) hc))).1 q hq;unfold FI at hb0 ⊢;simp only[A6,and_assoc]at hb0 ⊢;obtain⟨n1,n2,n3,n4⟩:=hb0;refine⟨n1,n2,listBJ.2 ⟨λn hn=>?_,?_⟩,listBJ.2 ⟨λn hn=>?_,?_⟩⟩
   ·rw[p1]at hn;obtain⟨w,rfl,hw,_⟩:=(Qz (j_shapeB J hs) (by rw[Oj J];exact V7 J hs hc)).1 hn;rw[Oj J]at hw;omega
   ·rw[p3];exact(listBJ.1 n3).2
   ·obtain⟨j,hj,e⟩:=G6 hn;obtain⟨i,hi,_,h2⟩:=jn J hs q2 p4 hj;rw[Ab _ _ _ hj,e]at h2;rw[h2];exact ID (bJ J R (dl J R hc hq hi))
   ·rw[p2];exact(listBJ.1 n4).2
  ·obtain⟨d,hd,o',ho',rfl⟩:=e2 o ho;have hb0:=(blockB_iff.1 (m7 _ (Ag (d:=default) hd))).2.1 o' ho';unfold eg at hb0 ⊢;simp only[A6,and_assoc]at hb0 ⊢;obtain⟨n1,n2,n3,n4,n5⟩:=hb0;refine⟨n1,n2,n3,n4,listBJ.2 ⟨λn hn=>?_,?_⟩⟩
   ·obtain⟨a,ha,rfl⟩:=zzL21.1 hn;exact ID (bC J R hd ho' a ha)
   ·show(List.map _ _).length<=_;rw[Dy];exact(listBJ.1 n5).2
  ·have hb0:=(blockB_iff.1 (m7 _ (Ag (d:=default) hsc))).2.2;rw[e3];unfold cU at hb0 ⊢;simp only[A6,and_assoc]at hb0 ⊢;obtain⟨n1,n2,n3⟩:=hb0;refine⟨n1,?_,listBJ.2 ⟨λn hn=>?_,?_⟩⟩
   ·rcases end_val J R hsc with⟨_,h⟩|⟨_,_,h⟩
    ·exact numBJ.2 (ID h)
    ·show numB (vJ f y _)=true;rw[h];rfl
   ·obtain⟨z,hz,rfl⟩:=zzL21.1 hn;obtain⟨w,rfl,hw,_⟩:=FO hs hsc hz;rw[Pf];have:=V7 J hs hw;omega
   ·show(List.map _ _).length<=_;rw[Dy];exact(listBJ.1 n3).2
theorem pD:Fe (Ca f x y)=true:=by
 have hs:=Bd R;have hy:=LL J hs;refine MG (j_shapeB J hs) λk hk=>?_;rw[Oj J]at hk;have hu:=eL hy.1 hk;have hun:=YA y k;have hps:=dn J.ne (x:=x) k;refine⟨?_,?_,λp hp=>?_⟩
 ·have:=(jU J hs (Wj R hu).1).2;rwa[hps]at this
 ·rw[<- hps,PS J hs hu hun];intro h;have hsc:=Yh J hs hu;rcases end_val J R hsc with⟨h1,_⟩|⟨_,_,h2⟩
  ·have h:(bA f (Tg x y (IQ y k))).End.Kind=1\/(bA f (Tg x y (IQ y k))).End.Kind=3:=h;omega
  ·exact h2
 ·rw[<- hps,JF J R hu hun]at hp;obtain⟨q,hq,rfl⟩:=zzL21.1 hp;obtain⟨q1,q2⟩:=Tc R hu hq;obtain⟨p1,p2,p3,_⟩:=OE J hs (v:=vJ f y) hu hun q1 q2;rw[hps]at p1;exact⟨p1,by rw[p2,p3,q2]⟩
theorem s9:M1 (Ca f x y) l=true:=by
 have h:=R.typed;simp only[M1,E9,A6,zzL26]at h ⊢;obtain⟨⟨t1,t2⟩,t3⟩:=h;refine⟨⟨t1,λb hb=>?_⟩,t3⟩;obtain⟨c,hc,hcy,_,e1,e2,e3,hsc⟩:=cn J R hb;refine⟨λp hp=>?_,λo ho=>?_⟩
 ·rw[e1]at hp;obtain⟨q,hq,rfl⟩:=zzL21.1 hp;exact(t2 _ (Ag (d:=default) hc)).1 q hq
 ·obtain⟨d,hd,o',ho',rfl⟩:=e2 o ho;exact ln (d9 R (Ag (d:=default) hd) ho') (bC J R hd ho')
theorem pB{s:List Bz}(h:∀ o∈s,∃ d,d<f.Blocks.length/\o∈(bA f d).Ops):ZJ (s.map (mb (vJ f y)))=ZJ s:=by
 unfold ZJ
 induction s with
 | nil=>rfl
 | cons o s ih=>
  obtain⟨d,hd,ho⟩:=h o (by simp);have hg:=XG (Hh R _ (Ag (d:=default) hd) _ ho) (bC J R hd ho);rw[Cs,List.filter_cons,List.filter_cons,hg];have:=ih λo ho=>h o (by simp[ho])
  split
  ·rw[Cs,Cs,this];rfl
  ·exact this
theorem yv{b:Nat}(hb:b<f.Blocks.length)(hby:b≠y):UI (bA (Ca f x y) (psJ x y b))=if b=x then UI (bA f x)++ZJ (bA f y).Ops else UI (bA f b):=by
 have hy:=(LL J (Bd R)).1
 have h1:(bA (Ca f x y) (psJ x y b)).Phis.map (·.Dst)=(bA f b).Phis.map (·.Dst):=by
  rw[JF J R hb hby,List.map_map];rfl
 unfold UI;rw[h1]
 split
 ·rename_i e
  subst e;rw[PT J R,pB J R,ES]
  ·congr 1
   unfold ZJ;rw[Wu,Wx]
  ·intro o ho;rcases zzL12.1 ho with h|h
   ·exact⟨_,hb,h⟩
   ·exact⟨_,hy,h⟩
 ·rename_i e
  rw[jT J R hb hby e,pB J R];exact λo ho=>⟨_,hb,ho⟩
theorem PU{b:Nat}(hb:b<f.Blocks.length)(hby:b≠y){v:Int}(hv:v∈UI (bA (Ca f x y) (psJ x y b))):∃ c,c<f.Blocks.length/\(c=b\/(b=x/\c=y))/\v∈UI (bA f c):=by
 rw[yv J R hb hby]at hv
 split at hv
 ·rename_i e
  rcases zzL12.1 hv with h|h
  ·exact⟨b,hb,.inl rfl,by rw[e];exact h⟩
  ·exact⟨y,(LL J (Bd R)).1,.inr ⟨e,rfl⟩,by unfold UI;exact zzL12.2 (.inr h)⟩
 ·exact⟨b,hb,.inl rfl,hv⟩
theorem fp(hsz:sizeN f<=512)(hok:OkF (Ca f x y)):Zw (Ca f x y) l:=by
 have hs:=Bd R;have hy:=LL J hs;have hgt:=s9 J R
 have hgm:∀ b∈(Ca f x y).Blocks,∀ o∈b.Ops,Gr o=true:=λb hb o ho=>by
  simp only[M1,E9,A6,zzL26]at hgt;exact Wq ((hgt.1.2 b hb).2 o ho)
 obtain⟨N1,N2,N3⟩:=(nodup_split f).1 (Xf (DO R).1)
 have pos_of:∀ k,k<(Ca f x y).Blocks.length->∃ b,b<f.Blocks.length/\b≠y/\psJ x y b=k:=λk hk=>by
  rw[Oj J]at hk;exact⟨IQ y k,eL hy.1 hk,YA y k,dn J.ne k⟩
 have hcap:∀{d:Cg} {b a:Int},d∈As (Ca f x y)->ku (Ca f x y) d b a->ku (Ca f x y) d b 1000:=λ{d b a} hd h=>by
  rcases h with h|⟨h1,h2⟩|h
  ·exact .inl h
  ·refine .inr (.inl ⟨h1,?_⟩);rcases defs_in hok d hd with h3|⟨_,_,h3⟩
   ·rcases ri_def.1 hd with⟨i,_,e⟩|⟨i,_,⟨k,_,e⟩|⟨k,_,_,e⟩⟩
    ·rw[e];show(0:Int)<1000;omega
    ·rw[e]at h3;have:(i:Int) = -1:=h3;omega
    ·rw[e]at h3;have:(i:Int) = -1:=h3;omega
   ·exact h3
  ·exact .inr (.inr h)
 refine⟨ux J R hsz,pD J R,hgt,RS ((nodup_split _).2 ⟨λk hk=>?_,λk m hk hm hne v hv hw=>?_,λi hi k hk hv=>?_⟩) (λd hd=>?_) (λu hu=>?_)⟩
 ·obtain⟨b,hb,hby,rfl⟩:=pos_of k hk;rw[yv J R hb hby]
  split
  ·rename_i e
   rw[List.nodup_append];have hn:=N1 y hy.1;unfold UI at hn;rw[List.nodup_append]at hn;refine⟨N1 x J.hx,hn.2.1,λa ha c hc hac=>?_⟩;exact N2 x y J.hx hy.1 (λh=>J.ne h.symm) a ha (by unfold UI;exact zzL12.2 (.inr (hac▸hc)))
  ·exact N1 b hb
 ·obtain⟨b,hb,hby,rfl⟩:=pos_of k hk;obtain⟨c,hc,hcy,rfl⟩:=pos_of m hm;have hbc:b≠c:=λe=>hne (by rw[e]);obtain⟨b',hb',eb,hvb⟩:=PU J R hb hby hv;obtain⟨c',hc',ec,hvc⟩:=PU J R hc hcy hw;refine N2 b' c' hb' hc' ?_ v hvb hvc;rcases eb with e1|e1<;>rcases ec with e2|e2<;>omega
 ·obtain⟨b,hb,hby,rfl⟩:=pos_of k hk;obtain⟨b',hb',_,hvb⟩:=PU J R hb hby hv;exact N3 i hi b' hb' hvb
 ·rcases ri_def.1 hd with⟨i,hi,e⟩|⟨k,hk,⟨j,hj,e⟩|⟨j,hj,hg,e⟩⟩
  ·rw[e];exact Yg R (d:=⟨(i:Int)+1,-1,0,(f.Params.getD i 0,1)⟩) (ri_def.2 (.inl ⟨i,hi,rfl⟩))
  ·obtain⟨b,hb,hby,rfl⟩:=pos_of k hk;rw[e]
   have h1:=JF J R hb hby
   rw[h1,Dy]at hj
   show valS ((bA (Ca f x y) (psJ x y b)).Phis.getD j default).Dst=true
   rw[h1,Ab _ _ _ (by rw[Dy];exact hj),List.getElem_map];have:=Yg R (d:=⟨((bA f b).Phis.getD j default).Dst,b,-1,(((bA f b).Phis.getD j default).Bits,1)⟩) (ri_def.2 (.inr ⟨b,hb,.inl ⟨j,hj,rfl⟩⟩));rw[Ab _ _ _ hj]at this;exact this
  ·rw[e];exact WO (hgm _ (Ag (d:=default) hk) _ (Ag (d:=default) hj)) hg
 ·obtain⟨k,hk,hcase⟩:=(H0 hgm).1 hu;obtain⟨b,hb,hby,rfl⟩:=pos_of k hk;have hsc:=Yh J hs hb
  have hpsrc:psJ x y (Tg x y b)=psJ x y b:=by
   unfold Tg;split
   ·rename_i e;rw[e];exact pn J R
   ·rfl
  rcases hcase with⟨k,j,hk',hj,e⟩|⟨k,j,hk',hj,e⟩|⟨hK,e⟩|⟨hK,e⟩
  ·have h1:=JF J R hb hby
   rw[h1,Dy]at hk';have hq:=Ag (d:=(default:Bc)) hk';obtain⟨q1,q2⟩:=Tc R hb hq;obtain⟨p1,p2,p3,p4,_⟩:=OE J hs (v:=vJ f y) hb hby q1 q2
   have eq:(bA (Ca f x y) (psJ x y b)).Phis.getD k default=NL (vJ f y) x y ((bA f b).Phis.getD k default):=by
    rw[h1,Ab _ _ _ (by rw[Dy];exact hk'),List.getElem_map,Ab _ _ _ hk']
   rw[eq]at e hj;obtain⟨i,hi,e1,e2⟩:=jn J hs q2 p4 hj;rw[e1,e2]at e;have hu':=dl J R hb hq hi;obtain⟨c,ec,hc,_⟩:=(Qz hs hb).1 (show((bA f b).Phis.getD k default).From.getD i 0∈prF f b by rw[<- q1];exact Ag (by omega));rw[ec]at hu' e;obtain⟨d',m1,m2,m3,m4⟩:=mL J R hu' hc rfl (show(0:Int)<=1000 by omega);rw[Pf]at e;rw[e];exact⟨d',m1,m2,m3,hcap m1 m4⟩
  ·by_cases ex:b=x
   ·subst ex;have ho:=PT J R;rw[ho,Dy,Fh]at hk'
    by_cases hkx:k<(bA f b).Ops.length
    ·have h2:=(s7 J R hb hkx).2
     have hof:offJ f b y b=0:=by unfold offJ;rw[if_neg hby]
     rw[hof,M8]at h2;rw[h2]at e hj
     have hj':j<((bA f b).Ops.getD k default).Args.length:=by have:j<(List.map _ _).length:=hj;rwa[Dy]at this
     have hu':=(H0 (Hh R) (f:=f)).2 ⟨b,hb,.inr (.inl ⟨k,j,hkx,hj',rfl⟩)⟩;obtain⟨d',m1,m2,m3,m4⟩:=mL J R hu' hb rfl (show(0:Int)<=(k:Int) by omega);rw[hof]at m4;refine⟨d',m1,?_,?_,?_⟩
     ·rw[m2,e];exact(HM hj').symm
     ·rw[m3,e];rfl
     ·rw[e];simpa using m4
    ·have hky:k-(bA f b).Ops.length<(bA f y).Ops.length:=by omega
     have h2:=(s7 J R hy.1 hky).2
     have hof:offJ f b y y=(bA f b).Ops.length:=by unfold offJ;rw[if_pos rfl]
     rw[hof,pn J R,show k-(bA f b).Ops.length+(bA f b).Ops.length=k by omega]at h2;rw[h2]at e hj
     have hj':j<((bA f y).Ops.getD (k-(bA f b).Ops.length) default).Args.length:=by have:j<(List.map _ _).length:=hj;rwa[Dy]at this
     have hu':=(H0 (Hh R) (f:=f)).2 ⟨y,hy.1,.inr (.inl ⟨k-(bA f b).Ops.length,j,hky,hj',rfl⟩)⟩;obtain⟨d',m1,m2,m3,m4⟩:=mL J R hu' hy.1 rfl (show(0:Int)<=((k-(bA f b).Ops.length:Nat):Int) by omega);rw[hof,pn J R]at m4;refine⟨d',m1,?_,?_,?_⟩
     ·rw[m2,e];exact(HM hj').symm
     ·rw[m3,e];rfl
     ·rw[e]
      have e4:(((k-(bA f b).Ops.length:Nat):Int)+((bA f b).Ops.length:Int))=(k:Int):=by omega
      have m4':ku (Ca f b y) d' (psJ b y b:Int) (((k-(bA f b).Ops.length:Nat):Int)+((bA f b).Ops.length:Int)):=m4;rw[e4]at m4';exact m4'
   ·have ho:=jT J R hb hby ex;rw[ho,Dy]at hk';have h2:=(s7 J R hb hk').2
    have hof:offJ f x y b=0:=by unfold offJ;rw[if_neg hby]
    rw[hof,M8]at h2;rw[h2]at e hj
    have hj':j<((bA f b).Ops.getD k default).Args.length:=by have:j<(List.map _ _).length:=hj;rwa[Dy]at this
    have hu':=(H0 (Hh R) (f:=f)).2 ⟨b,hb,.inr (.inl ⟨k,j,hk',hj',rfl⟩)⟩;obtain⟨d',m1,m2,m3,m4⟩:=mL J R hu' hb rfl (show(0:Int)<=(k:Int) by omega);rw[hof]at m4;refine⟨d',m1,?_,?_,?_⟩
    ·rw[m2,e];exact(HM hj').symm
    ·rw[m3,e];rfl
    ·rw[e];simpa using m4
  ·rw[PS J hs hb hby]at hK e;have hu':=(H0 (Hh R) (f:=f)).2 ⟨_,hsc,.inr (.inr (.inl ⟨hK,rfl⟩))⟩;obtain⟨d',m1,m2,m3,m4⟩:=mL J R hu' hsc rfl (show(0:Int)<=1000 by omega);rw[hpsrc]at m4;rw[e];exact⟨d',m1,m2,m3,hcap m1 m4⟩
  ·rw[PS J hs hb hby]at hK e;have hu':=(H0 (Hh R) (f:=f)).2 ⟨_,hsc,.inr (.inr (.inr ⟨hK,rfl⟩))⟩;obtain⟨d',m1,m2,m3,m4⟩:=mL J R hu' hsc rfl (show(0:Int)<=1000 by omega);rw[hpsrc]at m4;rw[e];exact⟨d',m1,m2,m3,hcap m1 m4⟩
end
theorem Aar{f:TFunc}{x y:Nat}{l:Int}(J:Jn f x y)(R:Zw f l)(hN:Nw f):Nw (Ca f x y):=by
 have hs:=Bd R;have hmx:maxLen=9223372036854775807:=Od;have hsz:=fo J R;have hszf:=hN.size
 have hblk:∀ b∈(Ca f x y).Blocks,Ez b<=512:=λb hb=>by
  obtain⟨k,hk,e⟩:=G6 hb;have:=Wo (F:=λb=>Ez (bA (Ca f x y) b)) hk;rw[<- Mw]at this
  have e':bA (Ca f x y) k=b:=by unfold bA;rw[Ab _ _ _ hk];exact e
  simp only[e']at this;omega
 have hto:∀ b∈(Ca f x y).Blocks,b.End.To.length<=2:=λb hb=>by
  obtain⟨c,hc,hcy,_,e1,e2,e3,hsc⟩:=cn J R hb;rw[e3]
  show(List.map _ _).length<=2
  rw[Dy];exact hN.to _ (Ag (d:=default) hsc)
 have hphi:∀ b∈(Ca f x y).Blocks,∀ p∈b.Phis,p.From.length<=16/\p.Args.length<=16:=λb hb p hp=>by
  obtain⟨c,hc,hcy,_,e1,e2,e3,hsc⟩:=cn J R hb;rw[e1]at hp;obtain⟨q,hq,rfl⟩:=zzL21.1 hp;obtain⟨q1,q2⟩:=Tc R hc hq;obtain⟨_,p2,p3,_⟩:=OE J hs (v:=vJ f y) hc hcy q1 q2;rw[p2,p3];exact hN.phi _ (Ag (d:=default) hc) q hq
 have hop:∀ b∈(Ca f x y).Blocks,∀ o∈b.Ops,o.Args.length<=16/\0<=o.Imm/\o.Imm<18446744073709551616:=λb hb o ho=>by
  obtain⟨c,hc,hcy,_,e1,e2,e3,hsc⟩:=cn J R hb;obtain⟨d,hd,o',ho',rfl⟩:=e2 o ho;have h1:=hN.op _ (Ag (d:=default) hd) o' ho';have h2:=hN.inf.op _ (Ag (d:=default) hd) o' ho';refine⟨?_,h2.2⟩
  show(List.map _ _).length<=_
  rw[Dy];exact h1
 refine⟨⟨hN.inf.params,?_,λb hb=>?_,λb hb p hp=>?_,λb hb o ho=>?_⟩,hN.params,hto,hphi,λb hb o ho=>(hop b hb o ho).1,by omega⟩
 ·rw[Oj J];have:=hN.inf.blocks;omega
 ·have:=hblk b hb;have h2:=hto b hb;unfold Ez at this;omega
 ·have:=hphi b hb p hp;omega
 ·have:=hop b hb o ho;exact⟨by omega,this.2⟩
theorem cp{f:TFunc}{x y:Nat}{l:Int}(J:Jn f x y)(R:Zw f l)(hN:Nw f):Zw (Ca f x y) l/\Nw (Ca f x y):=
 have hn:=Aar J R hN
 ⟨fp J R hN.size (jv (dR hn) (ux J R hN.size)),hn⟩
theorem pM{α σ S X:Type}(l:List α)(d:α)(mk:Nat->σ->S)(P:Nat->σ->Prop)(g:σ->α->σ)(out:σ->X)(f:S->Option (LR S X))
  (hn:∀ i s,i<l.length->P i s->f (mk i s)=some (.next (mk (i+1) (g s (l.getD i d))))/\P (i+1) (g s (l.getD i d)))
  (hd:∀ s,P l.length s->f (mk l.length s)=some (.done (out s))):∀(k i:Nat) (s:σ),i+k=l.length->P i s->Ac f (mk i s)=some (out ((l.drop i).foldl g s))/\P l.length ((l.drop i).foldl g s)
 | 0,i,s,h,hP=>by
  obtain rfl:i=l.length:=by omega
  rw[Ak (hd s hP)]
  simpa using hP
 | k+1,i,s,h,hP=>by
  have hi:i<l.length:=by omega
  obtain⟨h1,h2⟩:=hn i s hi hP;obtain⟨h3,h4⟩:=pM l d mk P g out f hn hd k (i+1) _ (by omega) h2
  have hdr:l.drop i=l.getD i d::l.drop (i+1):=by simp_all
  rw[Ap h1,h3,hdr];exact⟨rfl,h4⟩
theorem DI{α σ S X:Type}(l:List α)(d:α)(mk:Nat->σ->S)(P:Nat->σ->Prop)(g:σ->α->σ)(out:σ->X)(f:S->Option (LR S X))
  (hn:∀ i s,i<l.length->P i s->f (mk i s)=some (.next (mk (i+1) (g s (l.getD i d))))/\P (i+1) (g s (l.getD i d)))
  (hd:∀ s,P l.length s->f (mk l.length s)=some (.done (out s))) (s:σ) (hP:P 0 s):Ac f (mk 0 s)=some (out (l.foldl g s))/\P l.length (l.foldl g s):=
 pM l d mk P g out f hn hd l.length 0 s (by omega) hP
theorem WM{α β:Type}(F:α->β):∀(l:List α) (k:Nat) (s:List β),s.length=k+l.length->(l.foldl (λ(t:Nat×List β) b=>(t.1+1,t.2.set t.1 (F b))) (k,s)).2=s.take k++l.map F
 | [],k,s,h=>by simp at h;simp[<- h]
 | b::l,k,s,h=>by
  simp only[EU]at h;rw[II,WM F l (k+1) (s.set k (F b)) (by simp;omega),Cs]
  have e:(s.set k (F b)).take (k+1)=s.take k++[F b]:=by
   rw[List.take_add_one,List.take_set_of_le (by omega)];simp[List.getElem?_set,show k<s.length by omega]
  rw[e,ES];rfl
theorem ZV{α β X:Type}(l:List α)(d:α)(F:α->β)(out:List β->X)(f:Int×List β->Option (LR (Int×List β) X))(hn:∀(i:Nat) (s:List β),i<l.length->s.length=l.length->f ((i:Int),s)=some (.next (((i+1:Nat):Int),s.set i (F (l.getD i d)))))
  (hd:∀ s,f ((l.length:Int),s)=some (.done (out s))) (s:List β) (hs:s.length=l.length):Ac f ((0:Int),s)=some (out (l.map F)):=by
 have key:=DI l d (λi (t:Nat×List β)=>((i:Int),t.2)) (λi t=>t.1=i/\t.2.length=l.length) (λt b=>(t.1+1,t.2.set t.1 (F b))) (λt=>out t.2) f
  (λi t hi hP=>by obtain⟨h1,h2⟩:=hP;subst h1;exact⟨hn _ _ hi h2,rfl,by simpa using h2⟩) (λt _=>hd t.2) (0,s) ⟨rfl,hs⟩
 have:=key.1;rw[WM F l 0 s (by omega)]at this
 simpa using this
theorem pL{α β X:Type}(l:List α)(d:α)(q:α->Option β)(out:β->X)(no:X)(f:Int->Option (LR Int X))(hn:∀ i,i<l.length->q (l.getD i d)=none->f (i:Int)=some (.next (((i+1:Nat):Int))))
  (hf:∀ i,i<l.length->∀ b,q (l.getD i d)=some b->f (i:Int)=some (.done (out b))) (he:f (l.length:Int)=some (.done no)):Ac f (0:Int)=some (match l.findSome? q with|some b=>out b|none=>no):=by
 have key:∀ k i:Nat,i+k=l.length->Ac f (i:Int)=some (match(l.drop i).findSome? q with|some b=>out b|none=>no):=by
  intro k
  induction k with
  | zero=>
   intro i h
   obtain rfl:i=l.length:=by omega
   rw[Ak he];simp
  | succ k ih=>
   intro i h
   have hi:i<l.length:=by omega
   have hdr:l.drop i=l.getD i d::l.drop (i+1):=by simp_all
   rw[hdr,List.findSome?_cons]
   cases hq:q (l.getD i d) with
   | some b=>rw[Ak (hf i hi b hq)]
   | none=>rw[Ap (hn i hi hq),ih (i+1) (by omega)]
 have:=key l.length 0 (by omega)
 simpa using this
theorem o7{a b:Nat}(h:a+b<4000000):w64 (Wn .u64 (Ir (w64 ((a:Int)+(b:Int)))) (1:Int))=(((a+b) / 2:Nat):Int):=by
 have e:((a:Int)+(b:Int))=((a+b:Nat):Int):=by omega
 rw[e,He (n:=((a+b:Nat):Int)) (by omega) (by omega),IE (by omega) (by omega)];unfold Wn;rw[show(1:Int).toNat=1 from rfl,show min 1 IntKind.u64.bits=1 from rfl,show(2:Int) ^ 1=2 from rfl,Int.fdiv_eq_ediv_of_nonneg _ (by omega),He (by omega) (by omega)];omega
theorem lY{l:List Int}(hs:l.Pairwise (·<·))(hl:l.length<=1000)(x:Int):∃(i:Nat) (b:Bool),Ff l x=some ((i:Int),b)/\i<=l.length/\(∀ k,k<i->l.getD k 0<x)/\∀ k,i<=k->k<l.length->x<=l.getD k 0:=by
 have hmono:∀ i j,i<j->j<l.length->l.getD i 0<l.getD j 0:=λi j hij hj=>by
  rw[Ab _ _ _ hj,Ab _ _ _ (by omega)];exact zzL91.1 hs i j (by omega) hj hij
 have key:∀ d (a b:Nat),b-a<=d->a<=b->b<=l.length->(∀ k,k<a->l.getD k 0<x)->(∀ k,b<=k->k<l.length->x<=l.getD k 0)->
   ∃ i:Nat,Ac (B5 l x) ((a:Int),(b:Int))=some (i:Int)/\i<=l.length/\(∀ k,k<i->l.getD k 0<x)/\∀ k,i<=k->k<l.length->x<=l.getD k 0:=by
  intro d
  induction d with
  | zero=>
   intro a b h1 h2 h3 h4 h5
   obtain rfl:a=b:=by omega
   refine⟨a,Ak ?_,h3,h4,h5⟩;unfold B5;simp only[C9,Ax]
  | succ d ih=>
   intro a b h1 h2 h3 h4 h5
   by_cases hab:a<b
   ·have hm:(a+b) / 2<l.length:=by omega
    have e:B5 l x ((a:Int),(b:Int))=some (.next (bif decide (l.getD ((a+b) / 2) 0<x) then((((a+b) / 2+1:Nat):Int),(b:Int)) else((a:Int),(((a+b) / 2:Nat):Int)))):=by
     unfold B5 Tu Pb;simp only[B0 hab,Ah,o7 (show a+b<4000000 by omega),Aa (Ai hm),Am,An,bne_self_eq_false,w1 (show(a+b) / 2<4611686018427387904 by omega)]
     cases decide (l.getD ((a+b) / 2) 0<x)<;>rfl
    rw[Ap e]
    by_cases hx:l.getD ((a+b) / 2) 0<x
    ·rw[Co hx,Ah];refine ih _ _ (by omega) (by omega) h3 (λk hk=>?_) h5;rcases zzL126 k ((a+b) / 2) with h6|h6
     ·exact Int.lt_trans (hmono k _ h6 hm) hx
     ·obtain rfl:k=(a+b) / 2:=by omega
      exact hx
    ·rw[Cd hx,Ax];refine ih _ _ (by omega) (by omega) (by omega) h4 (λk hk hkl=>?_);rcases zzL126 ((a+b) / 2) k with h6|h6
     ·have:=hmono _ k h6 hkl;omega
     ·obtain rfl:k=(a+b) / 2:=by omega
      omega
   ·exact ih a b (by omega) h2 h3 h4 h5
 obtain⟨i,h1,h2,h3,h4⟩:=key l.length 0 l.length (by omega) (by omega) (zzL6 _) (λk hk=>by omega) (λk hk hk2=>by omega);have h1':Ac (B5 l x) ((0:Int),(l.length:Int))=some (i:Int):=h1;unfold Ff Mb;rw[h1',An]
 have hin:(decide ((i:Int)<(l.length:Int)))=true->A2 (i:Int) l.length:=λh=>by have:=KK h;exact⟨by omega,this⟩
 rw[Aa (λh=>hin (by simpa using h)),Aa (λh=>hin (by simp at h;simpa using h.1))];simp only[bne_self_eq_false];refine⟨i,(bif decide ((i:Int)<(l.length:Int)) then(bif (l.getD (i:Int).toNat 0==x) then true else(bif false then false else false)) else false),?_,h2,h3,h4⟩
 have e:∀ b:Bool,(bif b then some false else some false)=some false:=λb=>by cases b<;>rfl
 rw[e,An];simp only[Bool.and_false,show((false:Bool)==true)=false from rfl,Ax,An]
theorem dN{V:Type}(k v:Int)(x:V):∀ l:List (Int×V),Ec (Jk l k x) v=(v==k || Ec l v)
 | []=>by simp[Jk,Ec]
 | (a,b)::r=>by
  unfold Jk
  cases h:(k==a) with
  | true=>
   have:k=a:=eq_of_beq h;subst this;simp[Ec]
  | false=>
   simp only[Ax,Ec,dN k v x r]
   cases v==a<;>cases v==k<;>rfl
theorem dM{V:Type}(d:V)(k v:Int)(x:V):∀ l:List (Int×V),Fy d (Jk l k x) v=bif v==k then x else Fy d l v
 | []=>by simp[Jk,Fy]
 | (a,b)::r=>by
  unfold Jk
  cases h:(k==a) with
  | true=>
   have:k=a:=eq_of_beq h;subst this;simp only[Ah,Fy]
   cases v==k<;>rfl
  | false=>
   simp only[Ax,Fy,dM d k v x r]
   cases h1:(v==a) with
   | true=>
    have:v=a:=eq_of_beq h1;subst this
    have:(v==k)=false:=by
     cases h2:(v==k) with
     | false=>rfl
     | true=>have:=eq_of_beq h2;subst this;simp at h
    rw[this];rfl
   | false=>rfl
def Ly(l:List (Int×Int))(v:Int):Int:=bif Ec l v then Fy 0 l v else v
theorem NT(v x y:Int)(l:List (Int×Int)):G5 v x y l=some (Ly l v):=by
 unfold G5 Ly
 cases Ec l v<;>rfl
theorem jB{x y a:Nat}(hx:x<1000000)(h:a<1000000)(l:List (Int×Int)):Ky (a:Int) (x:Int) (y:Int) l=some ((psJ x y a:Nat):Int):=by
 unfold Ky psJ
 have key:∀ z:Nat,((Option.bind (α:=Int) (bif decide (((y:Nat):Int)<(z:Int)) then some (w64 ((z:Int)-1)) else some (z:Int)) λx5=>some x5):Option Int)=some (((if y<z then z-1 else z:Nat)):Int)\/¬ z<4000000:=λz=>by
  by_cases hz:z<4000000
  ·left
   by_cases hy:y<z
   ·rw[Co (by omega),Ah,if_pos hy,He (by omega) (by omega)]
    show some _=some _
    congr 1;omega
   ·rw[Cd (by omega),Ax,if_neg hy];rfl
  ·exact .inr hz
 by_cases e:a=y
 ·subst e;rw[show((a:Int)==(a:Int))=true by simp,Ah,An,if_pos rfl];rcases key x with h|h
  ·exact h
  ·omega
 ·rw[show((a:Int)==(y:Int))=false by rw[zzL30];omega,Ax,An,if_neg e];rcases key a with h|h
  ·exact h
  ·omega
theorem qU(l:List (Int×Int))(k v x:Int):Ly (Jk l k x) v=bif v==k then x else Ly l v:=by
 unfold Ly;rw[dN,dM]
 cases v==k<;>rfl
theorem mM{ps:List Bc}{p:Bc}(h:∀ q∈ps,q.Dst≠p.Dst)(v:Int):VR (ps++[p]) v=bif v==p.Dst then p.Args.getD 0 0 else VR ps v:=by
 unfold VR;rw[List.find?_append]
 by_cases e:v=p.Dst
 ·subst e;rw[List.find?_eq_none.2 (λq hq=>by simpa using h q hq)]
  simp
 ·rw[show(v==p.Dst)=false by rw[zzL30];exact e,Ax]
  have:(p.Dst==v)=false:=by rw[zzL30];exact λh=>e h.symm
  cases ps.find? (λp=>p.Dst==v) with
  | some q=>rfl
  | none=>simp[this]
section
variable {f:TFunc} {x y:Nat} {l:Int} (J:Jn f x y) (R:Zw f l)
include J R
theorem jq{b:Nat}(hb:b<f.Blocks.length):((bA f b).Phis.map (·.Dst)).Nodup:=by
 have:=((nodup_split f).1 (Xf (DO R).1)).1 b hb;unfold UI at this;exact(List.nodup_append.1 this).1
theorem pm{p:Bc}(hp:p∈(bA f y).Phis):(bA f y).Phis.find? (λq=>q.Dst==p.Dst)=some p:=by
 have hy:=(LL J (Bd R)).1;have hn:=jq J R hy
 cases hq:(bA f y).Phis.find? (λq=>q.Dst==p.Dst) with
 | none=>have:=List.find?_eq_none.1 hq p hp;simp at this
 | some q=>
  have hm:=List.mem_of_find?_eq_some hq
  have he:q.Dst=p.Dst:=by simpa using List.find?_some hq
  obtain⟨i,hi,rfl⟩:=G6 hm;obtain⟨j,hj,rfl⟩:=G6 hp;have:=(List.getElem_inj (h₀:=show i<((bA f y).Phis.map (·.Dst)).length by simpa using hi) (h₁:=show j<((bA f y).Phis.map (·.Dst)).length by simpa using hj) hn).1 (by simpa using he);subst this;rfl
theorem sR{p:Bc}(hp:p∈(bA f y).Phis):∀ q∈(bA f y).Phis,q.Dst≠p.Args.getD 0 0:=λq hq e=>by
 have hy:=LL J (Bd R);obtain⟨_,_,hd⟩:=YF J R hp;obtain⟨_,_,hdq⟩:=YF J R hq;obtain⟨d,hd',hv,_,_,hn⟩:=qT J R hd hy.1 (a:=0) (Int.le_refl _) (.inr (.inl ⟨rfl,by show(-1:Int)<0;omega⟩))
 have hv2:d.V=p.Args.getD 0 0:=by
  rw[hv];unfold vJ VR;rw[pm J R hp]
 have:=qA R hd' hdq (by rw[hv2,<- e]);rw[this]at hn;exact hn ⟨rfl,rfl⟩
def HL(ps:List Bc):List (Int×Int):=ps.foldl (λl p=>Jk l p.Dst (p.Args.getD 0 0)) []
theorem dH(i:Nat)(hi:i<=(bA f y).Phis.length)(v:Int):Ly (HL ((bA f y).Phis.take i)) v=VR ((bA f y).Phis.take i) v:=by
 have hy:=(LL J (Bd R)).1;have hn:=jq J R hy
 induction i with
 | zero=>rfl
 | succ i ih=>
  have hi':i<(bA f y).Phis.length:=by omega
  have e:(bA f y).Phis.take (i+1)=(bA f y).Phis.take i++[(bA f y).Phis[i]]:=by rw[List.take_add_one,Py hi'];rfl
  rw[e,mM]
  ·unfold HL;rw[List.foldl_append]
   show Ly (Jk (HL ((bA f y).Phis.take i)) _ _) v=_
   rw[qU,ih (by omega)]
  ·intro q hq he;obtain⟨k,hk,rfl⟩:=G6 hq;rw[Wv]at hk;rw[List.getElem_take]at he;have:=(List.getElem_inj (h₀:=show k<((bA f y).Phis.map (·.Dst)).length by rw[Dy];omega) (h₁:=show i<((bA f y).Phis.map (·.Dst)).length by simpa using hi') hn).1 (by simpa using he);omega
theorem oK(hs:(bA f y).Phis.length<4611686018427387904):Ac (G3 f (x:Int) (y:Int)) ((0:Int),([]:List (Int×Int)))=some (HL (bA f y).Phis):=by
 have hy:=(LL J (Bd R)).1;refine Em (G3 f (x:Int) (y:Int)) (λi=>((i:Int),HL ((bA f y).Phis.take i))) (HL (bA f y).Phis) (bA f y).Phis.length (λi hi=>?_) ?_
 ·have hp:=Ag (d:=(default:Bc)) hi;have ha:=(YF J R hp).1;have hi2:((f.Blocks.getD y default).Phis).getD i default=(bA f y).Phis[i]:=Ab _ _ _ hi
  have e:(bA f y).Phis.take (i+1)=(bA f y).Phis.take i++[(bA f y).Phis.getD i default]:=by rw[List.take_add_one,Py hi,Ab _ _ _ hi];rfl
  have hv:Ly (HL ((bA f y).Phis.take i)) (((bA f y).Phis.getD i default).Args.getD 0 0)=((bA f y).Phis.getD i default).Args.getD 0 0:=by
   rw[dH J R i (by omega)];unfold VR;rw[List.find?_eq_none.2];intro q hq;have:=sR J R hp q (List.mem_of_mem_take hq)
   simpa using this
  have hA:A2 (0:Int) (((f.Blocks.getD y default).Phis).getD i default).Args.length:=by
   rw[show(((f.Blocks.getD y default).Phis).getD i default).Args.length=1 from ha];exact⟨by omega,by omega⟩
  unfold G3;simp only[Am];rw[B0 hi,Ah,Aa (Ai hi),Aa hA,NT,An,w1 (show i<4611686018427387904 by omega)];rw[show Ly (HL ((bA f y).Phis.take i)) ((((f.Blocks.getD y default).Phis).getD i default).Args.getD (0:Int).toNat 0)=_ from hv];rw[e];unfold HL;rw[List.foldl_append];rfl
 ·unfold G3;simp only[Am];rw[C9,Ax,Ww]
end
theorem wL{L:List Int}{x y:Int}{m:List (Int×Int)}(hl:L.length<=1000000):Uw L x y m=some (L.map (Ly m)):=by
 have hroom:(1000001:Nat)<=room:=by decide
 unfold Uw
 rw[Aa (by omega),ZV L (0:Int) (Ly m) id (Qt L x y m) (λi s hi hs=>by
  unfold Qt;simp only[B0 hi,Ah,Aa (Ai hi),Am,NT,An,w1 (show i<4611686018427387904 by omega)]
  rw[Aa (by rw[hs];exact Ai hi)]) (λs=>by unfold Qt;simp only[C9,Ax];rfl) _ (by simp)]
 rfl
theorem sb{L:List Int}{x y:Nat}{m:List (Int×Int)}(hx:x<1000000)(hl:L.length<=1000000)(h:∀ z∈L,0<=z/\z<1000000):Qu L (x:Int) (y:Int) m=some (L.map (ls x y)):=by
 have hroom:(1000001:Nat)<=room:=by decide
 unfold Qu
 rw[Aa (by omega),ZV L (0:Int) (ls x y) id (M4 L (x:Int) (y:Int) m) (λi s hi hs=>by
  obtain⟨h0,h1⟩:=h _ (Ag (d:=(0:Int)) hi);obtain⟨a,ha⟩:∃ a:Nat,L.getD i 0=(a:Int):=⟨(L.getD i 0).toNat,by omega⟩;unfold M4;simp only[B0 hi,Ah,Aa (Ai hi),Am,w1 (show i<4611686018427387904 by omega)]
  rw[ha,jB hx (by omega),An,Aa (by rw[hs];exact Ai hi),Pf]) (λs=>by unfold M4;simp only[C9,Ax];rfl) _ (by simp)]
 rfl
theorem WQ{e:Int×Int}:∀{n:Nat} {l:List (Int×Int)},n<=l.length->(∀ k,k<n->(l.map (·.1)).getD k 0<e.1)->(∀ k,n<=k->k<l.length->e.1<=(l.map (·.1)).getD k 0)->ND l e=l.take n++e::l.drop n
 | 0,[],_,_,_=>rfl
 | 0,p::l,_,_,h2=>by
  rw[DD];have:=h2 0 (zzL6 _) (by simp);simp at this;rw[if_neg (by omega)];rfl
 | n+1,[],h,_,_=>by simp at h
 | n+1,p::l,h,h1,h2=>by
  rw[DD];have h0:=h1 0 (by omega);simp at h0;rw[if_pos h0,WQ (n:=n) (by simpa using h) (λk hk=>by have:=h1 (k+1) (by omega);simpa using this) (λk hk hl=>by have:=h2 (k+1) (by omega) (by simpa using hl);simpa using this)]
  rfl
theorem yj{p:Bc}{x y:Nat}{m:List (Int×Int)}(hx:x<1000000)(hl:p.From.length<=500)(h2:p.Args.length=p.From.length)(h:∀ z∈p.From,0<=z/\z<1000000)(hn:((Ov (Ly m) x y p).map (·.1)).Nodup) :
  Pe p (x:Int) (y:Int) m=some (NL (Ly m) x y p):=by
 have hroom:(1000001:Nat)<=room:=by decide
 have hzl:=kA (v:=Ly m) (x:=x) (y:=y) h2;have key:=Em (Ji p (x:Int) (y:Int) m) (λi=>((i:Int),(Zv ((Ov (Ly m) x y p).take i)).map (·.1),(Zv ((Ov (Ly m) x y p).take i)).map (·.2))) ((Zv (Ov (Ly m) x y p)).map (·.1),(Zv (Ov (Ly m) x y p)).map (·.2)) p.From.length (λi hi=>?_) ?_
 ·unfold Pe;have key':Ac (Ji p (x:Int) (y:Int) m) ((0:Int),([]:List Int),([]:List Int))=_:=key;rw[key',An];rfl
 ·have hi':i<(Ov (Ly m) x y p).length:=by omega
  have hia:i<p.Args.length:=by omega
  obtain⟨h0,h1⟩:=h _ (Ag (d:=(0:Int)) hi);obtain⟨a,ha⟩:∃ a:Nat,p.From.getD i 0=(a:Int):=⟨(p.From.getD i 0).toNat,by omega⟩
  have ez:(Ov (Ly m) x y p)[i]=(((psJ x y a:Nat):Int),Ly m (p.Args.getD i 0)):=by
   have h':i<(List.zip (p.From.map (ls x y)) (p.Args.map (Ly m))).length:=hi'
   show(List.zip (p.From.map (ls x y)) (p.Args.map (Ly m)))[i]'h'=_
   rw[List.getElem_zip,List.getElem_map,List.getElem_map,<- Ab _ _ (0:Int) hi,<- Ab _ _ (0:Int) hia,ha,Pf]
  have et:(Ov (Ly m) x y p).take (i+1)=(Ov (Ly m) x y p).take i++[(Ov (Ly m) x y p)[i]]:=by rw[List.take_add_one,Py hi'];rfl
  have es:Zv ((Ov (Ly m) x y p).take (i+1))=ND (Zv ((Ov (Ly m) x y p).take i)) (((psJ x y a:Nat):Int),Ly m (p.Args.getD i 0)):=by
   rw[et,ez];unfold Zv;rw[List.foldl_append];rfl
  have hnt:(((Ov (Ly m) x y p).take i).map (·.1)).Nodup:=by
   rw[List.map_take];exact hn.sublist (List.take_sublist ..)
  obtain⟨k1,k2⟩:=jy hnt
  generalize hA:Zv ((Ov (Ly m) x y p).take i)=A at *
  have hAl:A.length=i:=by rw[k1.length_eq,Wv];omega
  have hsrt:(A.map (·.1)).Pairwise (·<·):=by rw[List.pairwise_map];exact k2
  obtain⟨n,b,s1,s2,s3,s4⟩:=lY hsrt (by rw[Dy];omega) ((psJ x y a:Nat):Int);rw[Dy]at s2;have hins:=WQ (e:=(((psJ x y a:Nat):Int),Ly m (p.Args.getD i 0))) s2 s3 (λk hk hkl=>s4 k hk (by rw[Dy];exact hkl))
  have hI:∀(M:List Int) (z:Int),M.length=A.length->CA M (n:Int) [z]=some (M.take n++[z]++M.drop n,M.take n++[z]++M.drop n,[z]):=λM z hM=>by
   unfold CA;rw[Aa ⟨by omega,by omega,by simp,by simp;omega⟩,Am]
  unfold Ji;simp only[B0 hi,Ah,Aa (Ai hi),Am,ha,jB hx (show a<1000000 by omega),An,s1];rw[hI _ _ (by rw[Dy]),An]
  dsimp only
  rw[Aa (show 1=[((psJ x y a:Nat):Int)].length from rfl),Aa (Ai hia),NT,An,hI _ _ (by rw[Dy]),An]
  dsimp only
  rw[Aa (show 1=[Ly m (p.Args.getD i 0)].length from rfl),w1 (show i<4611686018427387904 by omega),es,hins];simp[List.map_take,List.map_drop]
 ·unfold Ji;simp only[C9,Ax];rw[show(Ov (Ly m) x y p).take p.From.length=Ov (Ly m) x y p by rw[<- hzl,Ww]]
structure zo(v:Int->Int)(x y:Nat)(b:Ae):Prop where
 phis:b.Phis.length<=100000
 ops:b.Ops.length<=1000000
 to:b.End.To.length<=1000000/\∀ z∈b.End.To,0<=z/\z<1000000
 phi:∀ p∈b.Phis,p.From.length<=500/\p.Args.length=p.From.length/\(∀ z∈p.From,0<=z/\z<1000000)/\((Ov v x y p).map (·.1)).Nodup
 op:∀ o∈b.Ops,o.Args.length<=1000000
theorem sZ{b:Ae}{x y:Nat}{m:List (Int×Int)}(hx:x<1000000)(h:zo (Ly m) x y b):Kv b (x:Int) (y:Int) m=some (GS (Ly m) x y b):=by
 have hroom:(1000001:Nat)<=room:=by decide
 have hph:=h.phis;have hop:=h.ops;unfold Kv
 rw[Aa (by omega),ZV b.Phis (default:Bc) (NL (Ly m) x y) id (Kw b (x:Int) (y:Int) m) (λi s hi hs=>by
  obtain⟨p1,p2,p3,p4⟩:=h.phi _ (Ag (d:=default) hi);unfold Kw;simp only[B0 hi,Ah,Aa (Ai hi),Am,yj hx p1 p2 p3 p4,An,w1 (show i<4611686018427387904 by omega)]
  rw[Aa (by rw[hs];exact Ai hi)]) (λs=>by unfold Kw;simp only[C9,Ax];rfl) _ (by simp),An]
 dsimp only[id]
 rw[Aa (by omega),ZV b.Ops (default:Bz) (mb (Ly m)) id (Kx b (x:Int) (y:Int) m) (λi s hi hs=>by
  unfold Kx;simp only[B0 hi,Ah,Aa (Ai hi),Am,wL (h.op _ (Ag (d:=default) hi)),An,w1 (show i<4611686018427387904 by omega)]
  rw[Aa (by rw[hs];exact Ai hi)];rfl) (λs=>by unfold Kx;simp only[C9,Ax];rfl) _ (by simp),An]
 dsimp only[id]
 rw[NT,An,sb hx h.to.1 h.to.2,An]
 rfl
theorem oN{a b:List Bz}(h:a.length+b.length<=1000000):Fg [a,b]=some (a++b):=by
 have hroom:(1000001:Nat)<=room:=by decide
 unfold Fg
 have h1:Ac (Cu [a,b]) ((0:Int),(0:Int))=some (((a.length+b.length:Nat)):Int):=by
  rw[Ap (s':=((a.length:Int),(1:Int))) (by
   unfold Cu
   show(Option.bind (α:=Unit) (Az (A2 (0:Int) 2) (bif decide (w64 ((0:Int)+(a.length:Int))<0) then none else some ())) _)=_
   rw[He (by omega) (by omega),Cd (by omega),Aa ⟨by omega,by omega⟩,Ax,An]
   show some (LR.next (w64 ((0:Int)+(a.length:Int)),w64 ((0:Int)+1)))=_
   rw[show w64 ((0:Int)+1)=1 from rfl,He (n:=(0:Int)+(a.length:Int)) (by omega) (by omega),Int.zero_add]),Ap (s':=(((a.length+b.length:Nat):Int),(2:Int))) (by
   unfold Cu
   show(Option.bind (α:=Unit) (Az (A2 (1:Int) 2) (bif decide (w64 ((a.length:Int)+(b.length:Int))<0) then none else some ())) _)=_
   rw[He (by omega) (by omega),Cd (by omega),Aa ⟨by omega,by omega⟩,Ax,An]
   show some (LR.next (w64 ((a.length:Int)+(b.length:Int)),w64 ((1:Int)+1)))=_
   rw[show w64 ((1:Int)+1)=2 from rfl,He (n:=(a.length:Int)+(b.length:Int)) (by omega) (by omega)];rfl),Ak (by
   unfold Cu
   rfl)]
 rw[h1,An];unfold g7;rw[Aa ⟨by omega,by omega⟩,An]
 have h2:Ac (Cv [a,b]) (([]:List Bz),(0:Int))=some (a++b):=by
  rw[Ap (s':=(a,(1:Int))) (by
   unfold Cv
   show Az (A2 (0:Int) 2) (Az (0+a.length<=room) (some (LR.next ([]++a,w64 (0+1)))))=_
   rw[Aa ⟨by omega,by omega⟩,Aa (by omega)];rfl),Ap (s':=(a++b,(2:Int))) (by
   unfold Cv
   show Az (A2 (1:Int) 2) (Az (a.length+b.length<=room) (some (LR.next (a++b,w64 (1+1)))))=_
   rw[Aa ⟨by omega,by omega⟩,Aa (by omega)];rfl),Ak (by
   unfold Cv
   rfl)]
 rw[h2];rfl
theorem jN{y:Nat}:∀ n,((List.range n).filter λb=>decide (b≠y))=if y<n then(List.range (n-1)).map (IQ y) else List.range n
 | 0=>by simp
 | n+1=>by
  rw[W0,Wu,jN n]
  by_cases h:y<n
  ·obtain⟨m,rfl⟩:∃ m,n=m+1:=⟨n-1,by omega⟩
   have e:IQ y m=m+1:=by rcases up_eq y m with h|h<;>omega
   rw[if_pos h,if_pos (by omega),show m+1+1-1=m+1 by omega,show m+1-1=m by omega,W0,Wx];simp[show ¬ m+1=y by omega,e]
  ·rw[if_neg h]
   by_cases e:n=y
   ·subst e;rw[if_pos (by omega),show n+1-1=n by omega]
    simp
    apply CF
    ·simp
    ·intro i h1 h2;simp at h1 h2 ⊢;rcases up_eq n i with h|h<;>omega
   ·rw[if_neg (by omega)];simp[e]
section
variable {f:TFunc} {x y:Nat} {l:Int} (J:Jn f x y) (R:Zw f l) (hN:Nw f)
include J R hN
theorem okJ{v:Int->Int}{b:Nat}(hb:b<f.Blocks.length)(hby:b≠y):zo v x y (Kd f x y b):=by
 have hs:=Bd R;have hy:=(LL J hs).1;have h64:=(shape_iff.1 hs).1.2
 have hsz:∀ c,c<f.Blocks.length->Ez (bA f c)<=512:=λc hc=>by
  have:=Wo (F:=λb=>Ez (bA f b)) hc;rw[<- Mw]at this;have:=hN.size;omega
 have hto:∀ c,c<f.Blocks.length->(bA f c).End.To.length<=1000000/\∀ z∈(bA f c).End.To,0<=z/\z<1000000:=λc hc=>by
  have ht:(bA f c).End.To.length<=2:=hN.to _ (Ag (d:=default) hc);refine⟨by omega,λz hz=>?_⟩;obtain⟨w,rfl,hw,_⟩:=FO hs hc hz;omega
 have hphi:∀ p∈(bA f b).Phis,p.From.length<=500/\p.Args.length=p.From.length/\(∀ z∈p.From,0<=z/\z<1000000)/\((Ov v x y p).map (·.1)).Nodup:=λp hp=>by
  obtain⟨q1,q2⟩:=Tc R hb hp;have:=hN.phi _ (Ag (d:=default) hb) p hp;refine⟨by omega,q2,λz hz=>?_,?_⟩
  ·rw[q1]at hz;obtain⟨w,rfl,hw,_⟩:=(Qz hs hb).1 hz;omega
  ·rw[OL q2,q1];exact u2 J hs hb hby
 have hop:∀ c,c<f.Blocks.length->∀ o∈(bA f c).Ops,o.Args.length<=1000000:=λc hc o ho=>by
  have:=hN.op _ (Ag (d:=default) hc) o ho;omega
 have h1:=hsz b hb;have h2:=hsz x J.hx;have h3:=hsz y hy;unfold Ez at h1 h2 h3;unfold Kd
 split
 ·rename_i e
  subst e
  exact⟨by show(bA f b).Phis.length<=_;omega,by show((bA f b).Ops++(bA f y).Ops).length<=_;rw[Fh];omega,hto y hy,hphi,λo ho=>by
   rcases zzL12.1 ho with h|h
   ·exact hop b hb o h
   ·exact hop y hy o h⟩
 ·exact⟨by omega,by omega,hto b hb,hphi,hop b hb⟩
theorem lD:Fc f (x:Int) (y:Int)=some (Ca f x y,(x:Int),(y:Int),HL (bA f y).Phis):=by
 have hroom:(1000001:Nat)<=room:=by decide
 have hs:=Bd R;have hy:=(LL J hs).1;have h64:=(shape_iff.1 hs).1.2
 have hsz:∀ c,c<f.Blocks.length->Ez (bA f c)<=512:=λc hc=>by
  have:=Wo (F:=λb=>Ez (bA f b)) hc;rw[<- Mw]at this;have:=hN.size;omega
 have h2:=hsz x J.hx;have h3:=hsz y hy;unfold Ez at h2 h3
 have hv:Ly (HL (bA f y).Phis)=vJ f y:=by
  funext v
  have:=dH J R (bA f y).Phis.length (zzL6 _) v;rw[Ww]at this;exact this
 have hxl:=J.hx;unfold Fc;rw[Aa (Ai J.hx),Aa (Ai hy),oK J R (by omega),An];simp only[Am]
 have hcc:(f.Blocks.getD x default).Ops.length+(f.Blocks.getD y default).Ops.length<=1000000:=by
  have e1:(f.Blocks.getD x default).Ops.length<=512:=by show(bA f x).Ops.length<=512;omega
  have e2:(f.Blocks.getD y default).Ops.length<=512:=by show(bA f y).Ops.length<=512;omega
  omega
 rw[oN hcc,An];have key:=Em (G4 f (x:Int) (y:Int) (HL (bA f y).Phis) ((f.Blocks.getD x default).Ops++(f.Blocks.getD y default).Ops))
  (λi=>((i:Int),((List.range i).filter λb=>decide (b≠y)).map λb=>GS (vJ f y) x y (Kd f x y b))) (Ca f x y).Blocks f.Blocks.length (λi hi=>by
   have hb:=sZ (b:=Kd f x y i) (x:=x) (y:=y) (m:=HL (bA f y).Phis) (by omega);rw[hv]at hb
   have hlen:(((List.range i).filter λb=>decide (b≠y)).map λb=>GS (vJ f y) x y (Kd f x y b)).length<=i:=by
    rw[Dy];have:=List.length_filter_le (λb=>decide (b≠y)) (List.range i);rw[Vb]at this;exact this
   have hr:((List.range (i+1)).filter λb=>decide (b≠y)).map (λb=>GS (vJ f y) x y (Kd f x y b))=(((List.range i).filter λb=>decide (b≠y)).map λb=>GS (vJ f y) x y (Kd f x y b))++(if i=y then[] else[GS (vJ f y) x y (Kd f x y i)]):=by
    rw[W0,Wu,Wx]
    congr 1
    by_cases e:i=y<;>simp[e]
   rw[hr];unfold G4;simp only[B0 hi,Ah,Aa (Ai hi),Am,w1 (show i<4611686018427387904 by omega)]
   by_cases ex:i=x
   ·have hiy:¬ i=y:=λe=>J.ne (e▸ex);rw[show((i:Int)==(x:Int))=true by rw[zzL63];omega,Ah,if_neg hiy]
    have hB:Kd f x y i=⟨(f.Blocks.getD x default).Phis,(f.Blocks.getD x default).Ops++(f.Blocks.getD y default).Ops,⟨(f.Blocks.getD y default).End.Kind,(f.Blocks.getD y default).End.Arg,(f.Blocks.getD y default).End.To⟩⟩:=by
     unfold Kd;rw[if_pos ex]
    have hok:zo (vJ f y) x y (Kd f x y i):=okJ J R hN hi hiy;have hb':=hb hok;rw[hB]at hb';rw[hb',An,Aa (by show _+1<=room;omega),An,<- hB]
   ·rw[show((i:Int)==(x:Int))=false by rw[zzL30];omega,Ax]
    by_cases ey:i=y
    ·rw[show((i:Int)==(y:Int))=true by rw[zzL63];omega,Ah,if_pos ey,List.append_nil];rfl
    ·rw[show((i:Int)==(y:Int))=false by rw[zzL30];omega,Ax,if_neg ey]
     have hB:Kd f x y i=f.Blocks.getD i default:=by unfold Kd;rw[if_neg ex]
     have hok:zo (vJ f y) x y (Kd f x y i):=okJ J R hN hi ey;have hb':=hb hok;rw[hB]at hb'
     rw[hb',An,Aa (by show _+1<=room;omega),An,hB])
  (by
   unfold G4;simp only[C9,Ax]
   rw[jN,if_pos hy,List.map_map];rfl)
 have key':Ac (G4 f (x:Int) (y:Int) (HL (bA f y).Phis) ((f.Blocks.getD x default).Ops++(f.Blocks.getD y default).Ops)) ((0:Int),([]:List Ae))=_:=key;rw[key',An];rfl
end
def cg(f:TFunc)(i:Nat):Option (Nat×Nat):=if(bA f i).End.Kind=1/\mK f i 0≠(i:Int)/\(prF f (mK f i 0).toNat).length=1 then some (i,(mK f i 0).toNat) else none
def Qg(f:TFunc):Option (Nat×Nat):=(List.range f.Blocks.length).findSome? (cg f)
def T5:Nat->TFunc->TFunc
 | 0,f=>f
 | n+1,f=>match Qg f with|some p=>T5 n (Ca f p.1 p.2)|none=>f
theorem PY{f:TFunc}(hs:Gp f=true){i:Nat}(hi:i<f.Blocks.length)(hk:(bA f i).End.Kind=1):∃ b:Nat,(bA f i).End.To=[(b:Int)]/\b<f.Blocks.length/\0<b:=by
 have h3:Ka (bA f i).End f.Blocks.length=true:=(shape_iff.1 hs).2 i hi;unfold Ka Yv at h3;simp only[A6,Gq]at h3;have hw:=h3.1.2;rw[hk,show BZ 1=1 from rfl]at hw
 have hl:(bA f i).End.To.length=1:=by omega
 generalize hT:(bA f i).End.To=T at hl
 match T,hl with
 | [z],_=>
  obtain⟨c,rfl,hc,h0,_⟩:=FO hs hi (z:=z) (by rw[hT];exact zzL16.2 rfl);exact⟨c,rfl,hc,h0⟩
theorem wY{f:TFunc}(hs:Gp f=true){i:Nat}(hi:i<f.Blocks.length){p:Nat×Nat}(h:cg f i=some p):p.1=i/\Jn f p.1 p.2:=by
 unfold cg at h
 split at h
 ·rename_i hc
  obtain rfl:=OI h;obtain⟨b,hb,hbl,_⟩:=PY hs hi hc.1
  have ht:mK f i 0=(b:Int):=by unfold mK;rw[hb];rfl
  have hp:=hc.2.2;have hne:=hc.2.1;refine⟨rfl,?_⟩
  show Jn f i (mK f i 0).toNat
  rw[ht,Am]at hp ⊢;rw[ht]at hne;refine⟨hi,hc.1,hb,λe=>hne (by rw[e]),?_⟩;have hm:(i:Int)∈prF f b:=(Qz hs hbl).2 ⟨i,rfl,hi,by unfold UD;rw[hb];exact zzL16.2 rfl⟩
  generalize prF f b=L at hp hm
  match L,hp with
  | [z],_=>rw[zzL16.1 hm]
 ·cases h
theorem ce{f:TFunc}(hs:Gp f=true){p:Nat×Nat}(h:Qg f=some p):Jn f p.1 p.2:=by
 unfold Qg at h;obtain⟨i,hi,he⟩:=List.exists_of_findSome?_eq_some h;exact(wY hs (zzL45.1 hi) he).2
theorem iz{f:TFunc}(hs:Gp f=true):Ks f=some (match Qg f with|some p=>((true,(⟨(p.1:Int),(p.2:Int),[]⟩:VU)),true)|none=>((false,default),false)):=by
 have h64:=(shape_iff.1 hs).1.2;unfold Ks;rw[yy f (by rw[Od];omega),hs,Ah,An];have hP:(Kc (A1 f),(0:Int)).1.Pred=Dp (A1 f):=rfl;have hlp:(Dp (A1 f)).length=f.Blocks.length:=w5 f;have key:=pL (X:=Unit ⊕ ((Bool×VU)×Bool)) (List.range f.Blocks.length) (0:Nat) (cg f) (λp=>.inr ((true,(⟨(p.1:Int),(p.2:Int),[]⟩:VU)),true)) (.inl ()) (Mi f (Kc (A1 f),(0:Int))) (λi hi hq=>?_) (λi hi p hq=>?_) ?_
 ·rw[key,An];unfold Qg
  cases(List.range f.Blocks.length).findSome? (cg f)<;>rfl
 all_goals simp only[Vb]at *
 ·rw[Ab _ _ _ (by rw[Vb];exact hi),List.getElem_range]at hq;unfold Mi;simp only[B0 hi,Ah,Aa (Ai hi),Am,hP,w1 (show i<4611686018427387904 by omega)]
  by_cases hk:(bA f i).End.Kind=1
  ·obtain⟨b,hb,hbl,hb0⟩:=PY hs hi hk
   have ht:mK f i 0=(b:Int):=by unfold mK;rw[hb];rfl
   rw[show((f.Blocks.getD i default).End.Kind !=1)=false by show((bA f i).End.Kind !=1)=false;rw[hk];rfl,Ax];rw[show(f.Blocks.getD i default).End.To=[(b:Int)] from hb];rw[Aa (show A2 (0:Int) [(b:Int)].length from⟨by omega,by show(0:Int)<((1:Nat):Int);omega⟩)];have e0:[(b:Int)].getD ((0:Int)).toNat 0=(b:Int):=rfl;rw[e0,Aa (λ_=>by rw[hlp];exact Ai hbl),Am];unfold cg at hq;rw[ht,Am]at hq
   have hno:¬ ((b:Int)≠(i:Int)/\(prF f b).length=1):=λhh=>by rw[if_pos ⟨hk,hh⟩]at hq;cases hq
   have e1:(bif ((b:Int)!=(i:Int)) then((((Dp (A1 f)).getD b []).length:Int)==(1:Int)) else false)=false:=by
    by_cases hbi:(b:Int)=(i:Int)
    ·rw[show((b:Int)!=(i:Int))=false by simpa using hbi];rfl
    ·rw[show((b:Int)!=(i:Int))=true by simpa using hbi,Ah,zzL30];intro he;exact hno ⟨hbi,by have:(((prF f b).length:Nat):Int)=1:=he;omega⟩
   rw[e1];rfl
  ·rw[show((f.Blocks.getD i default).End.Kind !=1)=true by show((bA f i).End.Kind !=1)=true;simpa using hk];rfl
 ·rw[Ab _ _ _ (by rw[Vb];exact hi),List.getElem_range]at hq;unfold Mi;simp only[B0 hi,Ah,Aa (Ai hi),Am,hP];unfold cg at hq
  split at hq
  ·rename_i hc
   obtain rfl:=OI hq;obtain⟨b,hb,hbl,hb0⟩:=PY hs hi hc.1
   have ht:mK f i 0=(b:Int):=by unfold mK;rw[hb];rfl
   have hc2:=hc.2.1;have hc3:=hc.2.2;rw[ht]at hc2 hc3;rw[Am]at hc3;rw[show((f.Blocks.getD i default).End.Kind !=1)=false by show((bA f i).End.Kind !=1)=false;rw[hc.1];rfl,Ax];rw[show(f.Blocks.getD i default).End.To=[(b:Int)] from hb];rw[Aa (show A2 (0:Int) [(b:Int)].length from⟨by omega,by show(0:Int)<((1:Nat):Int);omega⟩)];have e0:[(b:Int)].getD ((0:Int)).toNat 0=(b:Int):=rfl;rw[e0,Aa (λ_=>by rw[hlp];exact Ai hbl),Am]
   have e1:(bif ((b:Int)!=(i:Int)) then((((Dp (A1 f)).getD b []).length:Int)==(1:Int)) else false)=true:=by
    rw[show((b:Int)!=(i:Int))=true by simpa using hc2,Ah,zzL63]
    have:(((prF f b).length:Nat):Int)=1:=by rw[hc3];rfl
    exact this
   rw[e1,Ah,ht,Am];rfl
  ·cases hq
 ·unfold Mi;simp only[C9,Ax]
theorem OC{l:Int}:∀(n:Nat) (f:TFunc),Zw f l->Nw f->f.Blocks.length<=n->Zw (T5 n f) l/\Nw (T5 n f)/\Qg (T5 n f)=none/\(T5 n f).Blocks.length<=f.Blocks.length/\sizeN (T5 n f)<=sizeN f
 | 0,f,R,hN,hn=>by
  have:=(shape_iff.1 (Bd R)).1.1;omega
 | n+1,f,R,hN,hn=>by
  unfold T5
  cases h:Qg f with
  | none=>exact⟨R,hN,h,zzL6 _,zzL6 _⟩
  | some p=>
   have J:=ce (Bd R) h;obtain⟨R',hN'⟩:=cp J R hN;have hl:=Oj J;have hsz:=fo J R;have h1:=J.hx;obtain⟨a,b,c,d,e⟩:=OC n (Ca f p.1 p.2) R' hN' (by rw[hl];omega);exact⟨a,b,c,by show(T5 n (Ca f p.1 p.2)).Blocks.length<=_;omega,by show sizeN (T5 n (Ca f p.1 p.2))<=_;omega⟩
theorem dg{l:Int}:∀(n:Nat) (f:TFunc),Zw f l->Nw f->f.Blocks.length<=n->Ac O2 (f.Params,f.Ret,f.Blocks)=some (T5 n f)
 | 0,f,R,hN,hn=>by
  have:=(shape_iff.1 (Bd R)).1.1;omega
 | n+1,f,R,hN,hn=>by
  have hs:=Bd R;unfold T5
  cases h:Qg f with
  | none=>
   refine Ak ?_;unfold O2
   show(Ks f).bind _=_
   rw[iz hs,h,An];rfl
  | some p=>
   have J:=ce hs h;obtain⟨R',hN'⟩:=cp J R hN;have h1:=J.hx
   rw[Ap (s':=((Ca f p.1 p.2).Params,(Ca f p.1 p.2).Ret,(Ca f p.1 p.2).Blocks)) (by
    unfold O2
    show(Ks f).bind _=_
    rw[iz hs,h,An]
    dsimp only
    rw[Ah,Ah]
    show(Fc f (p.1:Int) (p.2:Int)).bind _=_
    rw[lD J R hN];rfl)]
   exact dg n _ R' hN' (by rw[Oj J];omega)
def RC(f:TFunc):TFunc:=if D8 f 2=0 then T5 f.Blocks.length f else f
theorem jC{f:TFunc}(h:Sm f):Lq f=some (decide (D8 f 2=0)):=by
 unfold Lq;rw[iy f 2 h,An]
 by_cases e:D8 f 2=0
 ·rw[e];rfl
 ·rw[Cd e,show(D8 f 2==0)=false by rw[zzL30];exact e]
theorem yg{f:TFunc}(h:Sm f)(hN:D8 f 2=0->Nw f):Tx f=some (RC f):=by
 unfold Tx RC;rw[jC h,An]
 by_cases e:D8 f 2=0
 ·have R:Zw f 2:=(Yf (by omega)).1 e;have key:=dg f.Blocks.length f R (hN e) (zzL6 _);have hF:((Ks f).bind λx5=>(bif x5.1.1 then(bif x5.2 then((Fc f x5.1.2.x x5.1.2.y).bind λx7=>(some (.next (x7.1.Params,x7.1.Ret,x7.1.Blocks)))) else(some (.done f))) else(bif x5.2 then((I4 f).bind λx8=>(some (.next (x8.Params,x8.Ret,x8.Blocks)))) else(some (.done f)))):Option (LR (List Int×Int×List Ae) TFunc))=O2 (f.Params,f.Ret,f.Blocks):=rfl;rw[if_pos e,Co e,Dr,Ax,hF];rw[<- MF]at key;rw[key];rfl
 ·rw[if_neg e,Cd e];rfl
theorem I8{α:Type}{p:α->Bool}{l:List α}{a:α}(h:a∈l.filter p):a∈l:=(zzL114.1 h).1
def JA{α:Type}(p:α->Bool)(L:List α)(i:Nat):Nat:=((L.take i).filter p).length
theorem HA{α:Type}{p:α->Bool}{L:List α}{i:Nat}{d:α}(hi:i<L.length)(hp:p (L.getD i d)=true):JA p L i<(L.filter p).length/\(L.filter p).getD (JA p L i) d=L.getD i d:=by
 rw[Ab _ _ _ hi]at hp ⊢
 have e:L.filter p=(L.take i).filter p++L[i]::(L.drop (i+1)).filter p:=by
  have:=Bj (List.filter p) (List.take_append_drop i L);rw[Wu,SK hi,List.filter_cons,if_pos hp]at this;exact this.symm
 unfold JA;rw[e];refine⟨by simp,?_⟩;rw[Ab _ _ _ (by simp),List.getElem_append_right (zzL6 _)]
 simp
theorem OB{α:Type}{p:α->Bool}{d:α}:∀{L:List α} {k:Nat},k<(L.filter p).length->∃ i,i<L.length/\p (L.getD i d)=true/\JA p L i=k
 | [],k,h=>by simp at h
 | a::L,k,h=>by
  by_cases ha:p a=true
  ·rw[List.filter_cons,if_pos ha]at h
   cases k with
   | zero=>exact⟨0,by simp,by simpa using ha,rfl⟩
   | succ k=>
    obtain⟨i,h1,h2,h3⟩:=OB (L:=L) (k:=k) (d:=d) (by simpa using h);refine⟨i+1,by simpa using h1,by simpa using h2,?_⟩;unfold JA at h3 ⊢;rw[List.take_succ_cons,List.filter_cons,if_pos ha,EU,h3]
  ·rw[List.filter_cons,if_neg ha]at h;obtain⟨i,h1,h2,h3⟩:=OB (L:=L) (k:=k) (d:=d) h;refine⟨i+1,by simpa using h1,by simpa using h2,?_⟩;unfold JA at h3 ⊢;rw[List.take_succ_cons,List.filter_cons,if_neg ha,h3]
theorem wU{α:Type}{p:α->Bool}{L:List α}{i j:Nat}{d:α}(hj:j<L.length)(hij:i<j)(hp:p (L.getD i d)=true):JA p L i<JA p L j:=by
 have hi:i<(L.take j).length:=by rw[Wv];omega
 have e:(L.take j).getD i d=L.getD i d:=by rw[Ab _ _ _ hi,List.getElem_take,Ab _ _ _ (by omega)]
 have:=(HA (L:=L.take j) (p:=p) (d:=d) hi (by rw[e];exact hp)).1;unfold JA at this ⊢;rw[List.take_take,Nat.min_eq_left (by omega)]at this;exact this
def V5(b:Ae):List Int:=b.Phis.flatMap (·.Args)++b.Ops.flatMap (·.Args)++(if b.End.Kind=0\/b.End.Kind=2 then[b.End.Arg] else[])
def Q2(f:TFunc)(v:Int):Bool:=f.Blocks.any λb=>(V5 b).contains v
def PE(kp:Bc->Bool)(ko:Bz->Bool)(b:Ae):Ae:=⟨b.Phis.filter kp,b.Ops.filter ko,b.End⟩
def Qf(kp:Bc->Bool)(ko:Bz->Bool)(f:TFunc):TFunc:=⟨f.Params,f.Ret,f.Blocks.map (PE kp ko)⟩
structure Ct(f:TFunc)(kp:Bc->Bool)(ko:Bz->Bool):Prop where
 phi:∀ b∈f.Blocks,∀ p∈b.Phis,Q2 f p.Dst=true->kp p=true
 op:∀ b∈f.Blocks,∀ o∈b.Ops,Q2 f o.Dst=true->ko o=true
section
variable {f:TFunc} {kp:Bc->Bool} {ko:Bz->Bool} {l:Int}
theorem Qe:(Qf kp ko f).Blocks.length=f.Blocks.length:=Dy ..
theorem GV{i:Nat}(hi:i<f.Blocks.length):bA (Qf kp ko f) i=PE kp ko (bA f i):=by
 show(f.Blocks.map (PE kp ko)).getD i default=_
 exact HM hi
theorem PD(i:Nat):(bA (Qf kp ko f) i).End=(bA f i).End:=by
 by_cases hi:i<f.Blocks.length
 ·rw[GV hi];rfl
 ·have e1:bA (Qf kp ko f) i=default:=by
   show(f.Blocks.map (PE kp ko)).getD i default=_
   rw[Wt,SN (by rw[Dy];omega)];rfl
  have e2:bA f i=default:=by
   show f.Blocks.getD i default=_
   rw[Wt,SN (by omega)];rfl
  rw[e1,e2]
theorem NW:A1 (Qf kp ko f)=A1 f:=by
 unfold A1;rw[Qe];refine MN λi _=>?_
 show BO (bA (Qf kp ko f) i).End.To=BO (bA f i).End.To
 rw[PD]
theorem so:B7 (Qf kp ko f)=B7 f:=by unfold B7;rw[NW]
theorem yl(i:Nat):prF (Qf kp ko f) i=prF f i:=by unfold prF;rw[NW]
theorem ct_shapeB:Gp (Qf kp ko f)=Gp f:=by
 rw[Wy,shape_iff,shape_iff,Qe];have e:∀ i,Bn (Qf kp ko f) i=Bn f i:=λi=>PD i;simp only[e]
theorem jF:sizeN (Qf kp ko f)<=sizeN f:=by
 rw[Mw,Mw,Qe];refine uF λi hi=>?_;rw[GV hi];unfold PE Ez;have h1:=List.length_filter_le kp (bA f i).Phis;have h2:=List.length_filter_le ko (bA f i).Ops
 show(List.filter kp (bA f i).Phis).length+(List.filter ko (bA f i).Ops).length+1<=_
 omega
theorem fa{b:Ae}(hb:b∈(Qf kp ko f).Blocks):∃ c∈f.Blocks,b=PE kp ko c:=by
 obtain⟨c,hc,rfl⟩:=zzL21.1 hb;exact⟨c,hc,rfl⟩
theorem jG{i:Nat}(hi:i<f.Blocks.length):(UI (bA (Qf kp ko f) i)).Sublist (UI (bA f i)):=by
 rw[GV hi];unfold UI;refine List.Sublist.append ?_ ?_
 ·exact(List.filter_sublist).map _
 ·unfold ZJ;exact((List.filter_sublist (l:=(bA f i).Ops) (p:=ko)).filter _).map _
section
variable (R:Zw f l)
include R
theorem qS{w:D2}(hw:w∈Bg f):Q2 f w.V=true:=by
 obtain⟨i,hi,h⟩:=(H0 (Hh R)).1 hw;unfold Q2;rw[List.any_eq_true];refine⟨bA f i,Ag hi,?_⟩;rw[zzL64];unfold V5;rcases h with⟨k,j,hk,hj,e⟩|⟨k,j,hk,hj,e⟩|⟨hK,e⟩|⟨hK,e⟩<;>rw[e]
 ·exact zzL12.2 (.inl (zzL12.2 (.inl (zzL48.2 ⟨_,Ag (d:=default) hk,Ag (d:=0) hj⟩))))
 ·exact zzL12.2 (.inl (zzL12.2 (.inr (zzL48.2 ⟨_,Ag (d:=default) hk,Ag (d:=0) hj⟩))))
 ·exact zzL12.2 (.inr (by rw[if_pos (.inl hK)];exact zzL16.2 rfl))
 ·exact zzL12.2 (.inr (by rw[if_pos (.inr hK)];exact zzL16.2 rfl))
theorem oY(hsz:sizeN f<=512):Qv (Qf kp ko f)=true:=by
 obtain⟨⟨m1,m2⟩,m3,m4,m5,m6,m7⟩:=mayF_iff.1 R.may;refine mayF_iff.2 ⟨by rw[Qe];exact⟨m1,m2⟩,m3,m4,m5,?_,λb hb=>?_⟩
 ·have:=jF (f:=f) (kp:=kp) (ko:=ko);unfold sizeW;rw[U9 (by omega)];omega
 ·obtain⟨c,hc,rfl⟩:=fa hb;obtain⟨h1,h2,h3⟩:=blockB_iff.1 (m7 c hc);exact blockB_iff.2 ⟨λp hp=>h1 p (I8 hp),λo ho=>h2 o (I8 ho),h3⟩
theorem oZ:M1 (Qf kp ko f) l=true:=by
 have h:=R.typed;simp only[M1,E9,A6,zzL26]at h ⊢;obtain⟨⟨t1,t2⟩,t3⟩:=h;refine⟨⟨t1,λb hb=>?_⟩,t3⟩;obtain⟨c,hc,rfl⟩:=fa hb;exact⟨λp hp=>(t2 c hc).1 p (I8 hp),λo ho=>(t2 c hc).2 o (I8 ho)⟩
theorem lH:Fe (Qf kp ko f)=true:=by
 have hs:=Bd R;refine MG (by rw[ct_shapeB];exact hs) λb hb=>?_;rw[Qe]at hb;obtain⟨r1,r2⟩:=Wj R hb;refine⟨by rw[NW];exact r1,by rw[PD];exact r2,λp hp=>?_⟩;rw[GV hb]at hp;obtain⟨q1,q2⟩:=Tc R hb (I8 hp);exact⟨by rw[yl];exact q1,q2⟩
variable (C:Ct f kp ko)
include C
theorem wV{d:Cg}(hd:d∈As f)(hu:Q2 f d.V=true):∃ e∈As (Qf kp ko f),e.V=d.V/\e.Shape=d.Shape/\e.Block=d.Block /\
  (d.Block<0\/(∃ i,i<f.Blocks.length/\d.Block=(i:Int)/\((d.At = -1/\e.At = -1)\/∃ k,k<(bA f i).Ops.length/\d.At=(k:Int)/\ko ((bA f i).Ops.getD k default)=true/\e.At=((JA ko (bA f i).Ops k:Nat):Int)))):=by
 rcases ri_def.1 hd with⟨j,hj,e⟩|⟨i,hi,⟨k,hk,e⟩|⟨k,hk,hg,e⟩⟩
 ·exact⟨d,ri_def.2 (.inl ⟨j,hj,e⟩),rfl,rfl,rfl,.inl (by rw[e];show(-1:Int)<0;omega)⟩
 ·have hp:=Ag (d:=(default:Bc)) hk;have hkp:kp ((bA f i).Phis.getD k default)=true:=C.phi _ (Ag (d:=default) hi) _ hp (by rw[e]at hu;exact hu);obtain⟨h1,h2⟩:=HA hk hkp;have hat:=GV (kp:=kp) (ko:=ko) hi
  have hP:(bA (Qf kp ko f) i).Phis=(bA f i).Phis.filter kp:=by rw[hat];rfl
  refine⟨_,ri_def.2 (.inr ⟨i,by rw[Qe];exact hi,.inl ⟨JA kp (bA f i).Phis k,by rw[hP];exact h1,rfl⟩⟩),?_,?_,?_,.inr ⟨i,hi,by rw[e],.inl ⟨by rw[e],rfl⟩⟩⟩
  ·rw[hP,h2,e]
  ·rw[hP,h2,e]
  ·rw[e]
 ·have ho:=Ag (d:=(default:Bz)) hk;have hko:ko ((bA f i).Ops.getD k default)=true:=C.op _ (Ag (d:=default) hi) _ ho (by rw[e]at hu;exact hu);obtain⟨h1,h2⟩:=HA hk hko;have hat:=GV (kp:=kp) (ko:=ko) hi
  have hO:(bA (Qf kp ko f) i).Ops=(bA f i).Ops.filter ko:=by rw[hat];rfl
  refine⟨_,ri_def.2 (.inr ⟨i,by rw[Qe];exact hi,.inr ⟨JA ko (bA f i).Ops k,by rw[hO];exact h1,by rw[hO,h2];exact hg,rfl⟩⟩),?_,?_,?_,.inr ⟨i,hi,by rw[e],.inr ⟨k,hk,by rw[e],hko,rfl⟩⟩⟩
  ·rw[hO,h2,e]
  ·rw[hO,h2,e]
  ·rw[e]
theorem lI(hsz:sizeN f<=512)(hok:OkF (Qf kp ko f)):Zw (Qf kp ko f) l:=by
 have hgt:=oZ (kp:=kp) (ko:=ko) R
 have hgm:∀ b∈(Qf kp ko f).Blocks,∀ o∈b.Ops,Gr o=true:=λb hb o ho=>by
  simp only[M1,E9,A6,zzL26]at hgt;exact Wq ((hgt.1.2 b hb).2 o ho)
 obtain⟨N1,N2,N3⟩:=(nodup_split f).1 (Xf (DO R).1)
 have hcap:∀{d:Cg},d∈As (Qf kp ko f)->d.At<1000:=λ{d} hd=>by
  rcases defs_in hok d hd with h3|⟨_,_,h3⟩
  ·rcases ri_def.1 hd with⟨i,_,e⟩|⟨i,_,⟨k,_,e⟩|⟨k,_,_,e⟩⟩
   ·rw[e];show(0:Int)<1000;omega
   ·rw[e]at h3;have:(i:Int) = -1:=h3;omega
   ·rw[e]at h3;have:(i:Int) = -1:=h3;omega
  ·exact h3
 have key:∀{w:D2} {i:Nat} {a:Int},w∈Bg f->i<f.Blocks.length->w.Block=(i:Int)->(w.At=1000/\a=1000\/∃ k,k<(bA f i).Ops.length/\w.At=(k:Int)/\a=((JA ko (bA f i).Ops k:Nat):Int))->
   ∃ d∈As (Qf kp ko f),d.V=w.V/\d.Shape=w.Shape/\ku (Qf kp ko f) d (i:Int) a:=λ{w i a} hw hi hb ha=>by
  obtain⟨d,hd,hv,hsh,ht⟩:=JY R hw;obtain⟨e,he,e1,e2,e3,e4⟩:=wV R C hd (by rw[hv];exact qS R hw);refine⟨e,he,by rw[e1,hv],by rw[e2,hsh],?_⟩;rw[hb]at ht;rcases ht with h|⟨h1,h2⟩|⟨h1,h2⟩
  ·exact .inl (by rw[e3];exact h)
  ·refine .inr (.inl ⟨by rw[e3];exact h1,?_⟩);rcases ha with⟨_,rfl⟩|⟨k,hk,hwk,rfl⟩
   ·exact hcap he
   ·rcases e4 with h4|⟨j,hj,hjb,⟨hq1,hq2⟩|⟨q,hq,hq1,hq2,hq3⟩⟩
    ·omega
    ·rw[hq2];omega
    ·have:j=i:=by omega
     subst this;rw[hq3];have:=wU (p:=ko) (d:=(default:Bz)) hk (show q<k by omega) hq2;omega
  ·refine .inr (.inr ⟨by rw[e3];exact h1,?_⟩);rw[e3,so];exact h2
 refine⟨oY R hsz,lH R,hgt,RS ((nodup_split _).2 ⟨λk hk=>?_,λk m hk hm hne v hv hw=>?_,λi hi k hk hv=>?_⟩) (λd hd=>?_) (λu hu=>?_)⟩
 ·rw[Qe]at hk;exact(N1 k hk).sublist (jG hk)
 ·rw[Qe]at hk hm;exact N2 k m hk hm hne v ((jG hk).subset hv) ((jG hm).subset hw)
 ·rw[Qe]at hk;exact N3 i hi k hk ((jG hk).subset hv)
 ·rcases ri_def.1 hd with⟨i,hi,e⟩|⟨k,hk,⟨j,hj,e⟩|⟨j,hj,hg,e⟩⟩
  ·rw[e];exact Yg R (d:=⟨(i:Int)+1,-1,0,(f.Params.getD i 0,1)⟩) (ri_def.2 (.inl ⟨i,hi,rfl⟩))
  ·rw[Qe]at hk;rw[e];have hm:=Ag (d:=(default:Bc)) hj;rw[GV hk]at hm;obtain⟨q,hq,eq⟩:=G6 (I8 hm);have:=Yg R (d:=⟨((bA f k).Phis.getD q default).Dst,k,-1,(((bA f k).Phis.getD q default).Bits,1)⟩) (ri_def.2 (.inr ⟨k,hk,.inl ⟨q,hq,rfl⟩⟩));rw[Ab _ _ _ hq,eq]at this;rw[GV hk];exact this
  ·rw[e];exact WO (hgm _ (Ag (d:=default) hk) _ (Ag (d:=default) hj)) hg
 ·obtain⟨k,hk,hcase⟩:=(H0 hgm).1 hu;rw[Qe]at hk;have hs:=Bd R;rw[PD,GV hk]at hcase;rcases hcase with⟨q,j,hq,hj,e⟩|⟨q,j,hq,hj,e⟩|⟨hK,e⟩|⟨hK,e⟩
  ·obtain⟨i,hi,hp,hc⟩:=OB (d:=(default:Bc)) hq;have h2:=(HA hi hp).2;rw[hc]at h2;have h2':(PE kp ko (bA f k)).Phis.getD q default=(bA f k).Phis.getD i default:=h2;rw[h2']at e hj;have hw:=(H0 (Hh R) (f:=f)).2 ⟨k,hk,.inl ⟨i,j,hi,hj,rfl⟩⟩;obtain⟨q1,q2⟩:=Tc R hk (Ag (d:=(default:Bc)) hi);obtain⟨c,ec,hc,_⟩:=(Qz hs hk).1 (show((bA f k).Phis.getD i default).From.getD j 0∈prF f k by rw[<- q1];exact Ag (by omega));obtain⟨d,m1,m2,m3,m4⟩:=key hw hc ec (.inl ⟨rfl,rfl⟩);rw[e];exact⟨d,m1,m2,m3,by show ku _ d (((bA f k).Phis.getD i default).From.getD j 0) 1000;rw[ec];exact m4⟩
  ·obtain⟨i,hi,hp,hc⟩:=OB (d:=(default:Bz)) hq;have h2:=(HA hi hp).2;rw[hc]at h2;have h2':(PE kp ko (bA f k)).Ops.getD q default=(bA f k).Ops.getD i default:=h2;rw[h2']at e hj;have hw:=(H0 (Hh R) (f:=f)).2 ⟨k,hk,.inr (.inl ⟨i,j,hi,hj,rfl⟩)⟩;obtain⟨d,m1,m2,m3,m4⟩:=key hw hk rfl (.inr ⟨i,hi,rfl,rfl⟩);rw[e];exact⟨d,m1,m2,m3,by rw[hc]at m4;exact m4⟩
  ·have hw:=(H0 (Hh R) (f:=f)).2 ⟨k,hk,.inr (.inr (.inl ⟨hK,rfl⟩))⟩;obtain⟨d,m1,m2,m3,m4⟩:=key hw hk rfl (.inl ⟨rfl,rfl⟩);rw[e];exact⟨d,m1,m2,m3,m4⟩
  ·have hw:=(H0 (Hh R) (f:=f)).2 ⟨k,hk,.inr (.inr (.inr ⟨hK,rfl⟩))⟩;obtain⟨d,m1,m2,m3,m4⟩:=key hw hk rfl (.inl ⟨rfl,rfl⟩);rw[e];exact⟨d,m1,m2,m3,m4⟩
end
theorem yk(hN:Nw f):Nw (Qf kp ko f):=by
 have hsz:=jF (f:=f) (kp:=kp) (ko:=ko);refine⟨⟨hN.inf.params,by rw[Qe];exact hN.inf.blocks,λb hb=>?_,λb hb p hp=>?_,λb hb o ho=>?_⟩,hN.params,λb hb=>?_,λb hb p hp=>?_,λb hb o ho=>?_,by have:=hN.size;omega⟩<;>obtain⟨c,hc,rfl⟩:=fa hb
 ·obtain⟨h1,h2,h3⟩:=hN.inf.block c hc;exact⟨Pz (List.length_filter_le ..) h1,Pz (List.length_filter_le ..) h2,h3⟩
 ·exact hN.inf.phi c hc p (I8 hp)
 ·exact hN.inf.op c hc o (I8 ho)
 ·exact hN.to c hc
 ·exact hN.phi c hc p (I8 hp)
 ·exact hN.op c hc o (I8 ho)
theorem jH(R:Zw f l)(C:Ct f kp ko)(hN:Nw f):Zw (Qf kp ko f) l/\Nw (Qf kp ko f):=
 have hn:=yk (kp:=kp) (ko:=ko) hN
 ⟨lI R C hN.size (jv (dR hn) (oY R hN.size)),hn⟩
end
def Ts(u:Int->Bool)(p:Bc):Bool:=u p.Dst
def Sz(u:Int->Bool)(o:Bz):Bool:=!jr o.Kind || u o.Dst
def Tq(f:TFunc):TFunc:=Qf (Ts (Q2 f)) (Sz (Q2 f)) f
theorem jI(f:TFunc):Ct f (Ts (Q2 f)) (Sz (Q2 f)):=⟨λ_ _ _ _ h=>h,λ_ _ _ _ h=>by unfold Sz;rw[h,Bool.or_true]⟩
def Sy:Nat->TFunc->TFunc
 | 0,f=>f
 | n+1,f=>if sizeN (Tq f)<sizeN f then Sy n (Tq f) else f
theorem PF{l:Int}:∀(n:Nat) (f:TFunc),Zw f l->Nw f->sizeN f<=n->Zw (Sy n f) l/\Nw (Sy n f)/\sizeN (Sy n f)<=sizeN (Tq (Sy n f))/\(Sy n f).Blocks.length=f.Blocks.length/\sizeN (Sy n f)<=sizeN f/\A1 (Sy n f)=A1 f/\∀ i,(bA (Sy n f) i).End=(bA f i).End
 | 0,f,R,hN,hn=>⟨R,hN,by show sizeN f<=_;omega,rfl,zzL6 _,rfl,λ_=>rfl⟩
 | n+1,f,R,hN,hn=>by
  unfold Sy
  split
  ·rename_i h
   obtain⟨R',hN'⟩:=jH R (jI f) hN;obtain⟨a,b,c,d,e,g,i⟩:=PF n (Tq f) R' hN' (by omega);exact⟨a,b,c,d.trans Qe,by omega,g.trans NW,λk=>(i k).trans (PD k)⟩
  ·exact⟨R,hN,by omega,rfl,zzL6 _,rfl,λ_=>rfl⟩
theorem mC(n v:Nat):(List.replicate n false).getD v false=false:=by
 rw[Wt]
 by_cases h:v<n
 ·rw[Py (by rw[N5];exact h),List.getElem_replicate];rfl
 ·rw[SN (by rw[N5];omega)];rfl
def EI(L:List Int)(M:List Bool):List Bool:=L.foldl (λM a=>M.set a.toNat true) M
theorem Uy:∀(L:List Int) (M:List Bool),(EI L M).length=M.length
 | [],M=>rfl
 | a::L,M=>by unfold EI;rw[II];exact(Uy L _).trans (Dc ..)
theorem ae(L K:List Int)(M:List Bool):EI (L++K) M=EI K (EI L M):=by unfold EI;rw[List.foldl_append]
theorem QO{α:Type}(F:α->List Int):∀(l:List α) (M:List Bool),EI (l.flatMap F) M=l.foldl (λs x=>EI (F x) s) M
 | [],M=>rfl
 | a::l,M=>by rw[MO,ae,II,QO F l]
theorem jb:∀(L:List Int) (M:List Bool) {v:Nat},v<M.length->(EI L M).getD v false=(M.getD v false || L.any λa=>a.toNat==v)
 | [],M,v,h=>by simp[EI]
 | a::L,M,v,h=>by
  have e:EI (a::L) M=EI L (M.set a.toNat true):=rfl;rw[e,jb L _ (by rw[Dc];exact h),List.any_cons]
  by_cases ha:a.toNat=v
  ·subst ha;rw[show(M.set a.toNat true).getD a.toNat false=true by rw[Wt,List.getElem?_set_self h];rfl]
   simp
  ·rw[show(M.set a.toNat true).getD v false=M.getD v false by simp only[Wt];rw[List.getElem?_set_ne ha]];rw[show(a.toNat==v)=false by simpa using ha,Bool.false_or]
theorem OY{L:List Int}{M:List Bool}(hl:L.length<4611686018427387904)(h:∀ a∈L,0<=a/\a<1024)(hM:M.length=1024):Jh L M=some (EI L M):=by
 unfold Jh
 have key:=DI L (0:Int) (λi (s:List Bool)=>((i:Int),s)) (λ_ s=>s.length=1024) (λs a=>s.set a.toNat true) id (Ku L) (λi s hi hP=>by
  obtain⟨h0,h1⟩:=h _ (Ag (d:=(0:Int)) hi);unfold Ku;simp only[B0 hi,Ah,Aa (Ai hi),Am,w1 (show i<4611686018427387904 by omega)];rw[Aa (show A2 (L.getD i 0) s.length from⟨h0,by omega⟩)]
  exact⟨rfl,by rw[Dc];exact hP⟩) (λs _=>by unfold Ku;simp only[C9,Ax];rfl) M hM
 have k1:Ac (Ku L) ((0:Int),M)=_:=key.1;rw[k1];rfl
section
variable {f:TFunc} {l:Int} (R:Zw f l)
include R
theorem sS{i:Nat}(hi:i<f.Blocks.length){a:Int}(ha:a∈V5 (bA f i)):∃ w∈Bg f,w.V=a:=by
 unfold V5 at ha;rcases zzL12.1 ha with h|h
 ·rcases zzL12.1 h with h|h
  ·obtain⟨p,hp,h⟩:=zzL48.1 h;obtain⟨k,hk,rfl⟩:=G6 hp;obtain⟨j,hj,rfl⟩:=G6 h;refine⟨_,(H0 (Hh R)).2 ⟨i,hi,.inl ⟨k,j,hk,by rw[Ab _ _ _ hk];exact hj,rfl⟩⟩,?_⟩
   show((bA f i).Phis.getD k default).Args.getD j 0=_
   rw[Ab _ _ _ hk,Ab _ _ _ hj]
  ·obtain⟨p,hp,h⟩:=zzL48.1 h;obtain⟨k,hk,rfl⟩:=G6 hp;obtain⟨j,hj,rfl⟩:=G6 h;refine⟨_,(H0 (Hh R)).2 ⟨i,hi,.inr (.inl ⟨k,j,hk,by rw[Ab _ _ _ hk];exact hj,rfl⟩)⟩,?_⟩
   show((bA f i).Ops.getD k default).Args.getD j 0=_
   rw[Ab _ _ _ hk,Ab _ _ _ hj]
 ·split at h
  ·rename_i hK
   rw[zzL16.1 h];rcases hK with hK|hK
   ·exact⟨_,(H0 (Hh R)).2 ⟨i,hi,.inr (.inr (.inl ⟨hK,rfl⟩))⟩,rfl⟩
   ·exact⟨_,(H0 (Hh R)).2 ⟨i,hi,.inr (.inr (.inr ⟨hK,rfl⟩))⟩,rfl⟩
  ·cases h
theorem ip{i:Nat}(hi:i<f.Blocks.length){a:Int}(ha:a∈V5 (bA f i)):1<=a/\a<=1023:=by
 obtain⟨w,hw,rfl⟩:=sS R hi ha;obtain⟨d,hd,e,_⟩:=JY R hw;have:=Yg R hd;rw[e]at this;unfold valS at this
 simpa using this
def VA(f:TFunc):List Bool:=f.Blocks.foldl (λs b=>EI (V5 b) s) (List.replicate 1024 false)
theorem jA(hN:Nw f):Kt f=some (VA f)/\(VA f).length=1024:=by
 have hroom:(1000001:Nat)<=room:=by decide
 have h64:=(shape_iff.1 (Bd R)).1.2
 have hsz:∀ c,c<f.Blocks.length->Ez (bA f c)<=512:=λc hc=>by
  have:=Wo (F:=λb=>Ez (bA f b)) hc;rw[<- Mw]at this;have:=hN.size;omega
 unfold Kt
 have key:=DI f.Blocks (default:Ae) (λi (s:List Bool)=>((i:Int),s)) (λ_ s=>s.length=1024) (λs b=>EI (V5 b) s) id (Ml f) (λi s hi hP=>by
  have hav:=λa ha=>ip R hi (a:=a) ha;have hz:=hsz i hi;unfold Ez at hz
  have hph:∀ p∈(bA f i).Phis,(∀ a∈p.Args,0<=a/\a<1024)/\p.Args.length<4611686018427387904:=λp hp=>⟨λa ha=>by
   have:=hav a (zzL12.2 (.inl (zzL12.2 (.inl (zzL48.2 ⟨p,hp,ha⟩)))))
   omega,by have:=hN.phi _ (Ag (d:=default) hi) p hp;omega⟩
  have hop:∀ p∈(bA f i).Ops,(∀ a∈p.Args,0<=a/\a<1024)/\p.Args.length<4611686018427387904:=λp hp=>⟨λa ha=>by
   have:=hav a (zzL12.2 (.inl (zzL12.2 (.inr (zzL48.2 ⟨p,hp,ha⟩)))))
   omega,by have:=hN.op _ (Ag (d:=default) hi) p hp;omega⟩
  have k1:=DI (bA f i).Phis (default:Bc) (λi (s:List Bool)=>((i:Int),s)) (λ_ s=>s.length=1024) (λs p=>EI p.Args s) id (Mj f (i:Int)) (λk s hk hP=>by
   obtain⟨q1,q2⟩:=hph _ (Ag (d:=(default:Bc)) hk);unfold Mj;simp only[Am];rw[B0 hk,Ah,Aa (Ai hk),OY q2 q1 hP,An,Aa (Uy _ _).symm,w1 (show k<4611686018427387904 by omega)]
   exact⟨rfl,by rw[Uy];exact hP⟩) (λs _=>by unfold Mj;simp only[Am];rw[C9];rfl) s hP
  have k1':Ac (Mj f (i:Int)) ((0:Int),s)=some ((bA f i).Phis.foldl (λs p=>EI p.Args s) s):=k1.1
  have k2:=DI (bA f i).Ops (default:Bz) (λi (s:List Bool)=>((i:Int),s)) (λ_ s=>s.length=1024) (λs p=>EI p.Args s) id (Mk f (i:Int)) (λk s hk hP=>by
   obtain⟨q1,q2⟩:=hop _ (Ag (d:=(default:Bz)) hk);unfold Mk;simp only[Am];rw[B0 hk,Ah,Aa (Ai hk),OY q2 q1 hP,An,Aa (Uy _ _).symm,w1 (show k<4611686018427387904 by omega)]
   exact⟨rfl,by rw[Uy];exact hP⟩) (λs _=>by unfold Mk;simp only[Am];rw[C9];rfl) ((bA f i).Phis.foldl (λs p=>EI p.Args s) s) k1.2
  have k2':Ac (Mk f (i:Int)) ((0:Int),(bA f i).Phis.foldl (λs p=>EI p.Args s) s)=some ((bA f i).Ops.foldl (λs p=>EI p.Args s) ((bA f i).Phis.foldl (λs p=>EI p.Args s) s)):=k2.1;have k3:=k2.2
  have hfin:EI (V5 (bA f i)) s=EI (if(bA f i).End.Kind=0\/(bA f i).End.Kind=2 then[(bA f i).End.Arg] else[]) ((bA f i).Ops.foldl (λs p=>EI p.Args s) ((bA f i).Phis.foldl (λs p=>EI p.Args s) s)):=by
   unfold V5;rw[ae,ae,QO,QO]
  unfold Ml;simp only[B0 hi,Ah,Aa (Ai hi),Am,w1 (show i<4611686018427387904 by omega)];rw[k1',An,k2',An]
  generalize hY:(bA f i).Ops.foldl (λs p=>EI p.Args s) ((bA f i).Phis.foldl (λs p=>EI p.Args s) s)=Y at *
  have hYl:Y.length=1024:=k3;have hg:EI (V5 (f.Blocks.getD i default)) s=EI (if(bA f i).End.Kind=0\/(bA f i).End.Kind=2 then[(bA f i).End.Arg] else[]) Y:=hfin;rw[hg]
  by_cases hK:(bA f i).End.Kind=0\/(bA f i).End.Kind=2
  ·have hb:(bif ((f.Blocks.getD i default).End.Kind==0) then true else((f.Blocks.getD i default).End.Kind==2))=true:=by
    rcases hK with h|h
    ·rw[show((f.Blocks.getD i default).End.Kind==0)=true from zzL63.2 h];rfl
    ·rw[show((f.Blocks.getD i default).End.Kind==2)=true from zzL63.2 h];cases((f.Blocks.getD i default).End.Kind==0)<;>rfl
   have ha:=hav (bA f i).End.Arg (zzL12.2 (.inr (by rw[if_pos hK];exact zzL16.2 rfl)));have hc1:=OY (L:=[(bA f i).End.Arg]) (M:=Y) (by show(1:Nat)<_;omega) (λa h=>by rw[zzL16.1 h];omega) hYl;have hc1':Jh [(f.Blocks.getD i default).End.Arg] Y=some (EI [(bA f i).End.Arg] Y):=hc1;rw[hb,Ah,hc1',An,Aa (Uy _ _).symm,if_pos hK];exact⟨rfl,by rw[Uy];exact hYl⟩
  ·have hb:(bif ((f.Blocks.getD i default).End.Kind==0) then true else((f.Blocks.getD i default).End.Kind==2))=false:=by
    rw[show((f.Blocks.getD i default).End.Kind==0)=false from zzL30.2 (λh=>hK (.inl h)),Ax];exact zzL30.2 (λh=>hK (.inr h))
   rw[hb,Ax,if_neg hK]
   exact⟨rfl,hYl⟩) (λs _=>by unfold Ml;simp only[C9,Ax];rfl) (List.replicate 1024 false) (by simp)
 have k0:Ac (Ml f) ((0:Int),List.replicate ((1024:Int)).toNat false)=_:=key.1;rw[Aa ⟨by omega,by omega,by omega⟩,k0,An];exact⟨rfl,key.2⟩
theorem dO{v:Int}(h0:0<=v)(h1:v<1024):(VA f).getD v.toNat false=Q2 f v:=by
 have key:∀(L:List Ae) (M:List Bool),v.toNat<M.length->(∀ b∈L,∀ a∈V5 b,0<=a)->(L.foldl (λs b=>EI (V5 b) s) M).getD v.toNat false=(M.getD v.toNat false || L.any λb=>(V5 b).contains v):=by
  intro L
  induction L with
  | nil=>intro M h _;simp
  | cons b L ih=>
   intro M h hb;rw[II,ih _ (by rw[Uy];exact h) (λc hc=>hb c (by simp[hc])),jb _ _ h,List.any_cons,Bool.or_assoc]
   congr 2
   rw[Wy,List.any_eq_true,zzL64]
   constructor
   ·rintro⟨a,ha,he⟩;have:=hb b (by simp) a ha
    have he:a.toNat=v.toNat:=by simpa using he
    rw[show v=a by omega];exact ha
   ·intro h;exact⟨v,h,by simp⟩
 unfold VA Q2
 rw[key f.Blocks _ (by rw[N5];omega) (λb hb a ha=>by
  obtain⟨i,hi,rfl⟩:=G6 hb;have:=ip R hi (a:=a) (by rw[show bA f i=f.Blocks[i] from Ab _ _ _ hi];exact ha)
  omega)]
 rw[mC,Bool.false_or]
end
theorem idx_loop{α:Type}{s:List α}{d:α}{keep:α->Bool}{F:Int->Option (LR Int (Unit ⊕ Int))}(hn:∀ i,i<s.length->F (i:Int)=some (bif keep (s.getD i d) then .next (((i+1:Nat):Int)) else .done (.inr (i:Int))))
  (he:F (s.length:Int)=some (.done (.inl ()))):(∃ i,i<s.length/\Ac F (0:Int)=some (.inr (i:Int))/\keep (s.getD i d)=false/\∀ j,j<i->keep (s.getD j d)=true)\/(Ac F (0:Int)=some (.inl ())/\∀ j,j<s.length->keep (s.getD j d)=true):=by
 have key:∀ k i:Nat,i+k=s.length->(∀ j,j<i->keep (s.getD j d)=true)->(∃ m,m<s.length/\Ac F (i:Int)=some (.inr (m:Int))/\keep (s.getD m d)=false/\∀ j,j<m->keep (s.getD j d)=true)\/(Ac F (i:Int)=some (.inl ())/\∀ j,j<s.length->keep (s.getD j d)=true):=by
  intro k
  induction k with
  | zero=>
   intro i h hj
   obtain rfl:i=s.length:=by omega
   exact .inr ⟨Ak he,hj⟩
  | succ k ih=>
   intro i h hj
   have hi:i<s.length:=by omega
   have h1:=hn i hi
   cases hk:keep (s.getD i d) with
   | true=>
    rw[hk,Ah]at h1;rw[Ap h1]
    exact ih (i+1) (by omega) λj hji=>by
     by_cases e:j=i
     ·rw[e];exact hk
     ·exact hj j (by omega)
   | false=>
    rw[hk,Ax]at h1;exact .inl ⟨i,hi,Ak h1,hk,hj⟩
 exact key s.length 0 (by omega) (λj h=>by omega)
theorem GW{α:Type}{s:List α}{d:α}{keep:α->Bool}{F:Int×Int×List α->Option (LR (Int×Int×List α) (Int×List α))}
  (hn:∀(a i:Nat) (l:List α),i<l.length->a<=i->l.length=s.length->l.getD i d∈s->F ((a:Int),(i:Int),l)=some (.next (bif keep (l.getD i d) then((((a+1:Nat):Int)),(((i+1:Nat):Int)),l.set a (l.getD i d)) else((a:Int),(((i+1:Nat):Int)),l))))
  (he:∀(a:Nat) (l:List α),F ((a:Int),(l.length:Int),l)=some (.done ((a:Int),l))):∀(k a i:Nat) (l:List α),i+k=s.length->a<=i->l.length=s.length->l.drop i=s.drop i->l.take a=(s.take i).filter keep->
   ∃(a':Nat) (l':List α),Ac F ((a:Int),(i:Int),l)=some ((a':Int),l')/\l'.length=s.length/\a'<=s.length/\l'.take a'=s.filter keep
 | 0,a,i,l,h,ha,hl,hd,ht=>by
  obtain rfl:i=l.length:=by omega
  refine⟨a,l,Ak (he a l),hl,by omega,?_⟩;rw[ht,hl,Ww]
 | k+1,a,i,l,h,ha,hl,hd,ht=>by
  have hi:i<l.length:=by omega
  have his:i<s.length:=by omega
  have e1:l.getD i d=s.getD i d:=by
   have h1:(l.drop i)[0]?=(s.drop i)[0]?:=by rw[hd]
   rw[IG,IG,M8]at h1;simp only[Wt,h1]
  have hm:l.getD i d∈s:=by rw[e1];exact Ag his
  have h1:=hn a i l hi ha hl hm
  have hst:(s.take (i+1)).filter keep=(s.take i).filter keep++(if keep (l.getD i d)=true then[l.getD i d] else[]):=by
   rw[List.take_add_one,Py his,Wu,e1,Ab _ _ _ his]
   congr 1
   by_cases hk:keep s[i]=true<;>simp[hk]
  have hdd:∀ m:List α,m.drop i=l.drop i->m.drop (i+1)=s.drop (i+1):=λm hm=>by
   have:=Bj (List.drop 1) (hm.trans hd);rwa[List.drop_drop,List.drop_drop]at this
  cases hk:keep (l.getD i d) with
  | true=>
   rw[hk,Ah]at h1;rw[Ap h1];refine GW hn he k (a+1) (i+1) _ (by omega) (by omega) (by rw[Dc];exact hl) ?_ ?_
   ·have:=hdd l rfl;rw[<- this]
    apply List.ext_getElem?
    intro n;rw[IG,IG,List.getElem?_set_ne (by omega)]
   ·rw[hst,hk,if_pos rfl,<- ht,List.take_add_one,List.take_set_of_le (zzL6 _),List.getElem?_set_self (by omega)]
    rfl
  | false=>
   rw[hk,Ax]at h1;rw[Ap h1];refine GW hn he k a (i+1) l (by omega) (by omega) hl (hdd l rfl) ?_;rw[hst,hk,if_neg (by simp),List.append_nil];exact ht
theorem cS{α:Type}(l:List α)(a k:Nat)(g:Nat->α):(NV l a k g).take a=l.take a:=by
 apply List.ext_getElem?
 intro n;rw[SP,SP]
 split
 ·rename_i h
  unfold NV;rw[List.getElem?_mapIdx]
  cases l[n]? with
  | none=>rfl
  | some x=>simp;omega
 ·rfl
theorem sc{p:Bc}{M:List Bool}{u:Int->Bool}(hM:M.length=1024)(h:0<=p.Dst/\p.Dst<1024)(hu:M.getD p.Dst.toNat false=u p.Dst):Jd p M=some (!Ts u p):=by
 unfold Jd Ts;rw[Aa (show A2 p.Dst M.length from⟨h.1,by omega⟩),hu]
theorem sd{p:Bz}{M:List Bool}{u:Int->Bool}(hM:M.length=1024)(h:0<=p.Dst/\p.Dst<1024)(hu:M.getD p.Dst.toNat false=u p.Dst):Je p M=some (!Sz u p):=by
 unfold Je Sz;rw[lO,An,Aa (λ_=>(show A2 p.Dst M.length from⟨h.1,by omega⟩)),hu]
 cases jr p.Kind<;>cases u p.Dst<;>rfl
theorem wJ{s:List Bc}{M:List Bool}{u:Int->Bool}(hs:s.length<=1000000)(hM:M.length=1024)(h:∀ p∈s,(0<=p.Dst/\p.Dst<1024)/\M.getD p.Dst.toNat false=u p.Dst) :
  ∃ k L,Dm s M=some (k,L)/\L.length=s.length/\k<=s.length/\L.take k=s.filter (Ts u):=by
 have hck:∀ p∈s,Jd p M=some (!Ts u p):=λp hp=>sc hM (h p hp).1 (h p hp).2;unfold Dm F2
 rcases idx_loop (s:=s) (d:=(default:Bc)) (keep:=Ts u) (F:=C6 s M) (λi hi=>by
   unfold C6;simp only[B0 hi,Ah,Aa (Ai hi),Am,hck _ (Ag hi),An,w1 (show i<4611686018427387904 by omega)]
   cases Ts u (s.getD i default)<;>rfl) (by unfold C6;simp only[C9,Ax]) with⟨i,hi,hl,hno,hyes⟩|⟨hl,hall⟩
 ·rw[hl,An,An]
  have hne:((i:Int)==-1)=false:=by rw[zzL30];omega
  rw[hne,Ax,w1 (show i<4611686018427387904 by omega)]
  have htk:∀ n,n<=i->(s.take n).filter (Ts u)=s.take n:=λn hn=>by
   rw[List.filter_eq_self];intro p hp;obtain⟨j,hj,rfl⟩:=G6 hp;rw[Wv]at hj;have:=hyes j (by omega);rw[Ab _ _ _ (by omega)]at this;rw[List.getElem_take];exact this
  obtain⟨a',l',h1,h2,h3,h4⟩:=GW (s:=s) (d:=(default:Bc)) (keep:=Ts u) (F:=Cw M) (λa k l hk hak hll hm=>by
    unfold Cw;simp only[B0 hk,Ah,Aa (Ai hk),Am,hck _ hm,An,w1 (show k<4611686018427387904 by omega)]
    cases Ts u (l.getD k default) with
    | true=>
     simp only[Dr,J1,Ah];rw[Aa (Ai (show a<l.length by omega)),An,w1 (show a<4611686018427387904 by omega)]
    | false=>
     simp only[Dr,J1,Ax]
     rw[An]) (λa l=>by unfold Cw;simp only[C9,Ax]) (s.length-(i+1)) i (i+1) s (by omega) (by omega) rfl rfl (by
    rw[List.take_add_one,Py hi,Wu,htk i (zzL6 _)]
    have:Ts u s[i]=false:=by rw[<- Ab _ _ default hi];exact hno
    simp[this])
  have e:((a':Int)).toNat=a':=Am a';rw[h1,An]
  dsimp only
  rw[e,Aa ⟨by omega,by omega⟩,Aa ⟨by omega,by rw[<- Ek];omega⟩];refine⟨_,_,rfl,by rw[<- Ek];exact h2,by omega,?_⟩;rw[E8,cS];exact h4
 ·rw[hl,An,An];refine⟨_,_,rfl,rfl,zzL6 _,?_⟩;rw[Ww,Sw,List.filter_eq_self];intro p hp;obtain⟨j,hj,rfl⟩:=G6 hp;have:=hall j hj;rwa[Ab _ _ _ hj]at this
theorem wK{s:List Bz}{M:List Bool}{u:Int->Bool}(hs:s.length<=1000000)(hM:M.length=1024)(h:∀ p∈s,(0<=p.Dst/\p.Dst<1024)/\M.getD p.Dst.toNat false=u p.Dst) :
  ∃ k L,D1 s M=some (k,L)/\L.length=s.length/\k<=s.length/\L.take k=s.filter (Sz u):=by
 have hck:∀ p∈s,Je p M=some (!Sz u p):=λp hp=>sd hM (h p hp).1 (h p hp).2;unfold D1 Ft
 rcases idx_loop (s:=s) (d:=(default:Bz)) (keep:=Sz u) (F:=Cx s M) (λi hi=>by
   unfold Cx;simp only[B0 hi,Ah,Aa (Ai hi),Am,hck _ (Ag hi),An,w1 (show i<4611686018427387904 by omega)]
   cases Sz u (s.getD i default)<;>rfl) (by unfold Cx;simp only[C9,Ax]) with⟨i,hi,hl,hno,hyes⟩|⟨hl,hall⟩
 ·rw[hl,An,An]
  have hne:((i:Int)==-1)=false:=by rw[zzL30];omega
  rw[hne,Ax,w1 (show i<4611686018427387904 by omega)]
  have htk:∀ n,n<=i->(s.take n).filter (Sz u)=s.take n:=λn hn=>by
   rw[List.filter_eq_self];intro p hp;obtain⟨j,hj,rfl⟩:=G6 hp;rw[Wv]at hj;have:=hyes j (by omega);rw[Ab _ _ _ (by omega)]at this;rw[List.getElem_take];exact this
  obtain⟨a',l',h1,h2,h3,h4⟩:=GW (s:=s) (d:=(default:Bz)) (keep:=Sz u) (F:=De M) (λa k l hk hak hll hm=>by
    unfold De;simp only[B0 hk,Ah,Aa (Ai hk),Am,hck _ hm,An,w1 (show k<4611686018427387904 by omega)]
    cases Sz u (l.getD k default) with
    | true=>
     simp only[Dr,J1,Ah];rw[Aa (Ai (show a<l.length by omega)),An,w1 (show a<4611686018427387904 by omega)]
    | false=>
     simp only[Dr,J1,Ax]
     rw[An]) (λa l=>by unfold De;simp only[C9,Ax]) (s.length-(i+1)) i (i+1) s (by omega) (by omega) rfl rfl (by
    rw[List.take_add_one,Py hi,Wu,htk i (zzL6 _)]
    have:Sz u s[i]=false:=by rw[<- Ab _ _ default hi];exact hno
    simp[this])
  have e:((a':Int)).toNat=a':=Am a';rw[h1,An]
  dsimp only
  rw[e,Aa ⟨by omega,by omega⟩,Aa ⟨by omega,by rw[<- Ek];omega⟩];refine⟨_,_,rfl,by rw[<- Ek];exact h2,by omega,?_⟩;rw[E8,cS];exact h4
 ·rw[hl,An,An];refine⟨_,_,rfl,rfl,zzL6 _,?_⟩;rw[Ww,Sw,List.filter_eq_self];intro p hp;obtain⟨j,hj,rfl⟩:=G6 hp;have:=hall j hj;rwa[Ab _ _ _ hj]at this
section
variable {f:TFunc} {l:Int} (R:Zw f l) (hN:Nw f)
include R hN
theorem lG : Jj f (VA f) = some (Tq f) := by
  have hroom : (1000001 : Nat) ≤ room := by decide
  have h64 := (shape_iff.1 (Bd R)).1.2; have hM := (jA R hN).2
  have hsz : ∀ c, c < f.Blocks.length → Ez (bA f c) ≤ 512 := fun c hc => by
    have := Wo (F := fun b => Ez (bA f b)) hc; rw [← Mw] at this; have := hN.size; omega
  unfold Jj
  have key := DI f.Blocks (default : Ae) (fun i (s : List Ae) => ((i : Int), s)) (fun i s => s.length = i) (fun s b => s ++ [PE (Ts (Q2 f)) (Sz (Q2 f)) b]) id (Kz f (VA f)) (fun i s hi hP => by
    have hz := hsz i hi; unfold Ez at hz
    have hd1 : ∀ p ∈ (f.Blocks.getD i default).Phis, (0 ≤ p.Dst ∧ p.Dst < 1024) ∧ (VA f).getD p.Dst.toNat false = Q2 f p.Dst := fun p hp => by
      obtain ⟨k, hk, rfl⟩ := G6 hp; have := Yg R (d := ⟨((bA f i).Phis.getD k default).Dst, i, -1, (((bA f i).Phis.getD k default).Bits, 1)⟩) (ri_def.2 (.inr ⟨i, hi, .inl ⟨k, hk, rfl⟩⟩)); rw [Ab _ _ _ hk] at this; have := ID this
      have h1 : valS ((f.Blocks.getD i default).Phis[k]).Dst = true := by assumption
      unfold valS at h1; simp only [A6, Gq] at h1; exact ⟨by omega, dO R (by omega) (by omega)⟩
    have hd2 : ∀ p ∈ (f.Blocks.getD i default).Ops, (0 ≤ p.Dst ∧ p.Dst < 1024) ∧ (VA f).getD p.Dst.toNat false = Q2 f p.Dst := fun p hp => by
      have hm := Hh R _ (Ag (d := default) hi) p hp; have hd := (Xv hm).2.2.2.2.2.2
      have : 0 ≤ p.Dst ∧ p.Dst < 1024 := by
        unfold dstS at hd
        cases hc : (p.Kind == 17 || p.Kind == 19) with
        | true => rw [hc] at hd; have : p.Dst = 0 := by simpa using hd
                  omega
        | false =>
          rw [hc] at hd; have h1 : valS p.Dst = true := hd; unfold valS at h1; simp only [A6, Gq] at h1; omega
      exact ⟨this, dO R this.1 this.2⟩
    have hz' : (f.Blocks.getD i default).Phis.length + (f.Blocks.getD i default).Ops.length + 1 ≤ 512 := hz; obtain ⟨k1, L1, a1, a2, a3, a4⟩ := wJ (s := (f.Blocks.getD i default).Phis) (by omega) hM hd1; obtain ⟨k2, L2, b1, b2, b3, b4⟩ := wK (s := (f.Blocks.getD i default).Ops) (by omega) hM hd2
    have cl1 : Cn (f.Blocks.getD i default).Phis = some (f.Blocks.getD i default).Phis := by unfold Cn; rw [Aa (by omega)]
    have cl2 : C7 (f.Blocks.getD i default).Ops = some (f.Blocks.getD i default).Ops := by unfold C7; rw [Aa (by omega)]
    unfold Kz; simp only [B0 hi, Ah, Aa (Ai hi), Am, w1 (show i < 4611686018427387904 by omega)]; rw [cl1, An, a1, An]
    dsimp only
    rw [Aa (by omega), Aa a2.symm, cl2, An, b1, An]
    dsimp only
    rw [Aa (by omega), Aa b2.symm, Ad (by show s.length + 1 ≤ room; omega), a4, b4]
    exact ⟨rfl, by rw [Fh, hP]; rfl⟩) (fun s _ => by unfold Kz; simp only [C9, Ax]; rfl) [] rfl
  have k0 : Ac (Kz f (VA f)) ((0 : Int), ([] : List Ae)) = _ := key.1; rw [k0, An]
  have e : ∀ (L s : List Ae), L.foldl (fun s b => s ++ [PE (Ts (Q2 f)) (Sz (Q2 f)) b]) s = s ++ L.map (PE (Ts (Q2 f)) (Sz (Q2 f))) := fun L => by
    induction L with
    | nil => intro s; simp
    | cons b L ih => intro s; rw [II, ih]; simp
  dsimp only [id]
  rw [e, Y7]; rfl
end
theorem oR{f:TFunc}(hN:Nw f):Ha f=some ((sizeN f:Nat):Int):=by
 have:=hN.size;rw[u6 f hN.inf];unfold sizeW;rw[U9 (by omega)]
theorem WE{l:Int}:∀(n:Nat) (f:TFunc),Zw f l->Nw f->sizeN f<=n->Ac Ns (f.Params,f.Ret,f.Blocks)=some (Sy n f)
 | 0,f,R,hN,hn=>by
  have h0:=(shape_iff.1 (Bd R)).1.1;have:=Wo (F:=λb=>Ez (bA f b)) (i:=0) (n:=f.Blocks.length) (by omega);rw[<- Mw]at this;unfold Ez at this;omega
 | n+1,f,R,hN,hn=>by
  have hs:=Bd R;have h64:=(shape_iff.1 hs).1.2;obtain⟨R',hN'⟩:=jH R (jI f) hN
  have hF:Ns (f.Params,f.Ret,f.Blocks)=some (bif decide (((sizeN (Tq f):Nat):Int)<((sizeN f:Nat):Int)) then .next ((Tq f).Params,(Tq f).Ret,(Tq f).Blocks) else .done f):=by
   unfold Ns
   show(Kt f).bind _=_
   rw[(jA R hN).1,An]
   show(Jj f (VA f)).bind _=_
   rw[lG R hN,An,oR (show Nw (Tq f) from hN'),An]
   show(Ha f).bind _=_
   rw[oR hN,An]
   cases decide (((sizeN (Tq f):Nat):Int)<((sizeN f:Nat):Int))<;>rfl
  unfold Sy
  split
  ·rename_i h
   rw[Co (by omega),Ah]at hF;rw[Ap hF];exact WE n (Tq f) R' hN' (by omega)
  ·rename_i h
   rw[Cd (by omega),Ax]at hF;exact Ak hF
def cT(f:TFunc):TFunc:=if D8 f 2=0 then Sy (sizeN f) f else f
theorem oH{f:TFunc}(h:Sm f)(hN:D8 f 2=0->Nw f):R9 f=some (cT f):=by
 unfold R9 cT;rw[jC h,An]
 by_cases e:D8 f 2=0
 ·have R:Zw f 2:=(Yf (by omega)).1 e;have key:=WE (sizeN f) f R (hN e) (zzL6 _);have hF:((Kt f).bind λx5=>((Jj f x5).bind λx6=>((Ha x6).bind λx7=>((Ha f).bind λx8=>(bif (decide ((x7:Int)<x8)) then(some (.next (x6.Params,x6.Ret,x6.Blocks))) else(some (.done f)))))):Option (LR (List Int×Int×List Ae) TFunc))=Ns (f.Params,f.Ret,f.Blocks):=rfl;rw[if_pos e,Co e,Dr,Ax,hF];rw[<- MF]at key;rw[key];rfl
 ·rw[if_neg e,Cd e];rfl
def DV(f:TFunc):TFunc:=cT (RC f)
theorem un{f:TFunc}(h:Sm f)(hN:D8 f 2=0->Nw f):Rp f=some (DV f):=by
 unfold Rp DV;rw[yg h hN,An]
 by_cases e:D8 f 2=0
 ·have R:Zw f 2:=(Yf (by omega)).1 e;obtain⟨a,b,_⟩:=OC f.Blocks.length f R (hN e) (zzL6 _)
  have e1:RC f=T5 f.Blocks.length f:=by unfold RC;rw[if_pos e]
  rw[e1,oH (dR b) (λ_=>b)];rfl
 ·have e1:RC f=f:=by unfold RC;rw[if_neg e]
  rw[e1,oH h hN];rfl
theorem lT:m_locksteplaw16_awake=some true:=by kernel_rfl
theorem bI{f:TFunc}(hf:VT f):Ac (Ch f) ((0:Int),(0:Int))=some (sizeW f):=by
 have hl:=DG f.Blocks (default:Ae) Ez id (Ch f) (λn i hi=>by
   have e1:decide ((i:Int)<(f.Blocks.length:Int))=true:=by simpa using hi
   unfold Ch;simp only[e1,Ah,Aa (Ai hi),C8,K4 hi hf.blocks]
   congr 3
   rw[U8,U8,Int.add_assoc (w64 _),U8];unfold Ez
   congr 1
   omega) (λn=>by
   unfold Ch
   simp) f.Blocks.length 0 0 (E8 _)
 rw[N7]at hl;rw[show w64 ((0:Nat):Int)=0 from rfl,show((0:Nat):Int)=0 from rfl]at hl;rw[hl];simp[sizeN,sizeW]
theorem pQ{f:TFunc}(hf:VT f):∃ b,Ea f=some b/\(b=true->Sm f/\(Qv f=true->f.Blocks.length<=16)):=by
 obtain⟨b,h1,h2⟩:=lZ hf;refine⟨b,h1,λhb=>⟨h2 hb,λhm=>?_⟩⟩;unfold Ea at h1;rw[bI hf,An]at h1;obtain⟨y,hy,h1⟩:=bind_some h1;have h3:=OI h1;rw[hb]at h3;unfold Qv at hm;simp only[A6,Gq]at hm;obtain⟨⟨⟨⟨⟨⟨_,g1⟩,_⟩,_⟩,_⟩,g2⟩,_⟩:=hm;rw[Cd (show ¬ (512:Int)<sizeW f by omega),Cd (show ¬ ((64:Int):Int)<(f.Blocks.length:Int) by omega)]at h3
 by_cases hn:(f.Blocks.length:Int)<=16
 ·omega
 ·rw[Cd hn]at h3
  revert h3
  cases y<;>simp
theorem li{k n:Int}(hn:n<=16):Sb k n<=16:=by
 unfold Sb
 cases k==0<;>cases(k==13 || k==18 || k==19)<;>cases(k==14 || k==15 || k==16 || k==22)<;>cases k==20<;>cases k==21<;>simp only[Ah,Ax]<;>omega
theorem lb{o:Bz}(h:Gr o=true):o.Args.length<=16:=by
 simp only[Gr,A6,zzL63]at h;have h1:=h.1.2.2;have h2:=li (k:=o.Kind) (n:=o.Lanes) (by rcases shape_lanes h.1.1 with e|e|e|e|e<;>omega);omega
theorem y0{f:TFunc}(hs:Sm f)(h16:Qv f=true->f.Blocks.length<=16){l:Int}(R:Zw f l):Nw f:=by
 have hn:=h16 R.may;have hsh:=Bd R;obtain⟨sm,hsm,hp⟩:=MH f hs.1;rw[hs.2]at hsm;obtain⟨_,hsz,_⟩:=hp (OI hsm).symm R.may
 have hi:∀ b∈f.Blocks,∃ i,i<f.Blocks.length/\bA f i=b:=λb hb=>by
  obtain⟨i,hi,he⟩:=G6 hb;exact⟨i,hi,by unfold bA;rw[Ab _ _ _ hi];exact he⟩
 have hm:=mayF_iff.1 R.may;refine⟨hs.1,by omega,λb hb=>?_,λb hb p hp=>?_,λb hb o ho=>lb (u3 R hb ho),hsz⟩
 ·obtain⟨i,hi',rfl⟩:=hi b hb;have h3:Ka (bA f i).End f.Blocks.length=true:=(shape_iff.1 hsh).2 i hi';unfold Ka Yv at h3;simp only[A6,Gq]at h3;have h4:(((bA f i).End.To.length:Nat):Int)=BZ (bA f i).End.Kind:=h3.1.2
  have h5:∀ k:Nat,([0,1,2,0]:List Int).getD k 0<=2:=λk=>by
   match k with
   | 0=>decide
   | 1=>decide
   | 2=>decide
   | 3=>decide
   | k+4=>simp
  have h5:BZ (bA f i).End.Kind<=2:=h5 _;omega
 ·obtain⟨i,hi',rfl⟩:=hi b hb;obtain⟨e,h2⟩:=Tc R hi' hp
  have hl:(prF f i).length<=f.Blocks.length:=by
   unfold prF;rw[DM (by rw[Lv];exact hi')];unfold J4;rw[Dy];have:=List.length_filter_le (λk=>Yu (A1 f) k i) (List.range (A1 f).length);rw[Vb]at this;rw[Lv]at this ⊢;exact this
  rw[e]at h2 ⊢;omega
theorem oq{f g:TFunc}(hl:g.Blocks.length=f.Blocks.length)(hr:A1 g=A1 f)(he:∀ i,(bA g i).End=(bA f i).End):Qg g=Qg f:=by
 unfold Qg;rw[hl]
 congr 1
 funext i
 unfold cg mK prF;rw[he,hr]
theorem kx{f:TFunc}{l:Int}(R2:Zw f 2)(R:Zw f l)(hN:Nw f):Zw (DV f) l/\Zw (DV f) 2/\Nw (DV f)/\Qg (DV f)=none/\sizeN (DV f)<=sizeN (Tq (DV f))/\(DV f).Blocks.length<=f.Blocks.length/\sizeN (DV f)<=sizeN f:=by
 have hc:D8 f 2=0:=(Yf (by omega)).2 R2
 have e1:RC f=T5 f.Blocks.length f:=by unfold RC;rw[if_pos hc]
 obtain⟨a,b,c,d,e⟩:=OC f.Blocks.length f R hN (zzL6 _);obtain⟨a2,_⟩:=OC f.Blocks.length f R2 hN (zzL6 _);have hc2:D8 (T5 f.Blocks.length f) 2=0:=(Yf (by omega)).2 a2
 have e2:DV f=Sy (sizeN (T5 f.Blocks.length f)) (T5 f.Blocks.length f):=by unfold DV;rw[e1];unfold cT;rw[if_pos hc2]
 rw[e2];obtain⟨d1,d2,d3,d4,d5,d6,d7⟩:=PF (sizeN (T5 f.Blocks.length f)) (T5 f.Blocks.length f) a b (zzL6 _);obtain⟨d1',_⟩:=PF (sizeN (T5 f.Blocks.length f)) (T5 f.Blocks.length f) a2 b (zzL6 _);exact⟨d1,d1',d2,(oq d4 d6 d7).trans c,d3,by omega,by omega⟩
theorem tf{g:TFunc}(h:Qg g=none)(n:Nat):T5 n g=g:=by
 cases n with
 | zero=>rfl
 | succ n=>unfold T5;rw[h]
theorem oa{g:TFunc}(h:sizeN g<=sizeN (Tq g))(n:Nat):Sy n g=g:=by
 cases n with
 | zero=>rfl
 | succ n=>unfold Sy;rw[if_neg (by omega)]
theorem sQ{g:TFunc}(h1:Qg g=none)(h2:sizeN g<=sizeN (Tq g)):DV g=g:=by
 have e1:RC g=g:=by unfold RC;split<;>first|exact tf h1 _|rfl
 unfold DV;rw[e1];unfold cT
 split<;>first|exact oa h2 _|rfl
theorem pq{f:TFunc}(hN:Nw f):Ew f=some ((sizeN f:Nat):Int):=by
 have:=hN.size;rw[eC f hN.inf];unfold sizeW;rw[U9 (by omega)]
theorem yx{f:TFunc}{lv:Int}(hf:VT f){K:Option Bool}(hl:0<=lv/\lv<=2\/True)(hK:Sm f->D8 f lv=0->(Qv f=true->f.Blocks.length<=16)->K=some true) :
  ((Ea f).bind λx2=>((bif ((!x2)==false) then D9 f lv else some (0:Int)).bind λx3=>(bif (bif (!x2) then true else((x3:Int)!=(0:Int))) then(some true) else K)))=some true:=by
 obtain⟨b,hb,hsm⟩:=pQ hf;rw[hb,An]
 cases b with
 | false=>rfl
 | true=>
  obtain⟨hs,h16⟩:=hsm rfl;rw[Dr,show((false:Bool)==false)=true from rfl,Ah,dC hs,An,Ax]
  cases hck:(D8 f lv !=0) with
  | true=>rfl
  | false=>
   have h0:D8 f lv=0:=by unfold bne at hck;simpa using hck
   rw[Ax];exact hK hs h0 h16
theorem tE{f:TFunc}{lv:Int}(h:D8 f lv=0):(0<=lv/\lv<=2)/\Zw f lv/\Zw f 2:=by
 have hl:0<=lv/\lv<=2:=by
  apply SL
  intro hh;unfold D8 at h
  have:(decide (lv<0) || decide (2<lv))=true:=by
   by_cases h1:lv<0
   ·rw[Co h1];rfl
   ·rw[Co (show 2<lv by omega)];simp
  rw[this,Ah]at h;exact absurd h (by decide)
 have R:=(Yf hl).1 h;refine⟨hl,R,R.may,R.shape,?_,R.rest⟩;have ht:=R.typed;simp only[M1,E9,A6,zzL26]at ht ⊢;refine⟨⟨ht.1.1,λb hb=>⟨(ht.1.2 b hb).1,λo ho=>?_⟩⟩,ht.2⟩;have h1:=(ht.1.2 b hb).2 o ho;have hm:=Wq h1;have hk:=wc (Xv hm).2.1;unfold K2;rw[hm,show HH 2=22 from rfl,Cd (show ¬ (22:Int)<o.Kind by omega),Cd (show ¬ (2:Int)<2 by omega)]
 rfl
theorem right16(f:TFunc)(lv:Int)(hf:VT f):J3 f lv=some true:=by
 unfold J3;rw[lT,An,Dr,Ax];refine yx hf (.inr trivial) λhs h0 h16=>?_;obtain⟨hl,R,R2⟩:=tE h0;have hN:=y0 hs h16 R;obtain⟨a,a2,b,c,d,e,g⟩:=kx R2 R hN;have hcl:D8 (DV f) lv=0:=(Yf hl).2 a;rw[un hs (λ_=>hN),An,iy _ lv (dR b),An,hcl];rw[show((0:Int)==0)=true from rfl,show((true:Bool)==true)=true from rfl,Ah,pq b,An,Ah,pq hN,An,Ah,Co (show((sizeN (DV f):Nat):Int)<=((sizeN f:Nat):Int) by omega)];rw[show((true:Bool)==true)=true from rfl,Ah,un (dR b) (λ_=>b),An,sQ c d,Ah,qF _ _ b.inf,An,Ah,Co rfl]
end
end Go.Proofs.YtfhggcbcamamdaaGreat
