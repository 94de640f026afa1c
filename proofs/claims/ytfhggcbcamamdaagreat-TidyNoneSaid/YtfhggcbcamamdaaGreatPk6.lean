/-
  The machine, the program's functions and the laws' arithmetic: part 6 of 6.
-/
import Derived.Test.YtfhggcbcamamdaaGreatPk5
set_option linter.unusedSectionVars false
set_option linter.unusedVariables false
set_option linter.unusedSimpArgs false
namespace Go.Proofs.YtfhggcbcamamdaaGreat
noncomputable section
open Go Go.RowKit
set_option linter.unusedSectionVars false
set_option maxRecDepth 100000
structure Nw(f:TFunc):Prop where
 inf:YS f
 params:f.Params.length<=64
 to:∀ b∈f.Blocks,b.End.To.length<=2
 phi:∀ b∈f.Blocks,∀ p∈b.Phis,p.From.length<=16/\p.Args.length<=16
 op:∀ b∈f.Blocks,∀ o∈b.Ops,o.Args.length<=16
 size:sizeN f<=512
theorem jd{f:TFunc}(h:Nw f):Sm f:=by
 refine zJ h.inf h.params (λb hb=>⟨by have:=h.to b hb;omega,λp hp=>by have:=h.phi b hb p hp;omega,λo ho=>by have:=h.op b hb o ho;omega⟩) ?_
 have hB:∀ b∈f.Blocks,US b<=33*Dm b:=λb hb=>by
  have h1:(b.Phis.map cY).sum<=b.Phis.length*33:=g5 _ _ _ λp hp=>by have:=h.phi b hb p hp;unfold cY;omega
  have h2:(b.Ops.map cX).sum<=b.Ops.length*33:=g5 _ _ _ λo ho=>by have:=h.op b hb o ho;unfold cX;omega
  have h3:=h.to b hb;unfold US Dm;omega
 have hS:∀ l:List Ae,(∀ b∈l,US b<=33*Dm b)->(l.map US).sum<=33*(l.map Dm).sum:=λl=>by
  induction l with
  | nil=>intro _;simp
  | cons b l ih=>
   intro hl;have h1:=hl b (zzL54 ..);have h2:=ih λx hx=>hl x (Oa _ hx);simp only[Cq,SS];omega
 have h1:=hS _ hB;have h2:=h.size;have h3:=h.params;unfold sizeN at h2;unfold fe;omega
def Sk(n:Nat)(F:Nat->Nat):Nat:=((List.range n).map F).sum
theorem Oi(n:Nat)(F:Nat->Nat):Sk (n+1) F=Sk n F+F n:=by
 unfold Sk;rw[Vg,Vf,List.sum_append];simp
theorem Yj{n:Nat}{F G:Nat->Nat}(h:∀ i,i<n->F i=G i):Sk n F=Sk n G:=by
 unfold Sk;rw[ML λi hi=>h i (zzL41.1 hi)]
theorem jz{n:Nat}{F G:Nat->Nat}(h:∀ i,i<n->F i<=G i):Sk n F<=Sk n G:=by
 induction n with
 | zero=>exact zzL6 _
 | succ n ih=>rw[Oi,Oi];have:=ih λi hi=>h i (by omega);have:=h n (by omega);omega
theorem Ud{n:Nat}{F:Nat->Nat}{i:Nat}(h:i<n):F i<=Sk n F:=by
 induction n with
 | zero=>omega
 | succ n ih=>
  rw[Oi]
  by_cases e:i=n
  ·subst e;omega
  ·have:=ih (by omega);omega
theorem j0{y:Nat}(F:Nat->Nat):∀ n,y<n->Sk (n-1) (λk=>F (IP y k))+F y=Sk n F
 | 0,h=>by omega
 | n+1,h=>by
  rw[Oi,show n+1-1=n by omega]
  by_cases e:y=n
  ·have e2:Sk n (λk=>F (IP y k))=Sk n F:=Yj λi hi=>by
    have:IP y i=i:=by rcases up_eq y i with h|h<;>omega
    rw[this]
   rw[e2,e]
  ·obtain⟨m,rfl⟩:∃ m,n=m+1:=⟨n-1,by omega⟩;have:=j0 (y:=y) F (m+1) (by omega);rw[show m+1-1=m by omega]at this
   have e3:IP y m=m+1:=by rcases up_eq y m with h|h<;>omega
   have e4:Sk (m+1) (λk=>F (IP y k))=Sk m (λk=>F (IP y k))+F (IP y m):=Oi ..;rw[e4,e3];omega
theorem jx{x:Nat}(F:Nat->Nat)(c:Nat):∀ n,x<n->Sk n (λb=>if b=x then F b+c else F b)=Sk n F+c
 | 0,h=>by omega
 | n+1,h=>by
  rw[Oi,Oi]
  by_cases e:n=x
  ·subst e;rw[if_pos rfl,Yj (G:=F) λi hi=>by rw[if_neg (by omega)]];omega
  ·rw[if_neg e,jx F c n (by omega)];omega
theorem Jh(f:TFunc):sizeN f=Sk f.Blocks.length λb=>Dm (bA f b):=by
 unfold sizeN Sk
 congr 1
 apply CJ
 ·simp
 ·intro i h1 h2;simp at h1 h2 ⊢;simp[h1]
theorem mayF_iff{f:TFunc}:Qz f=true↔(1<=f.Blocks.length/\f.Blocks.length<=64)/\f.Params.length<=16/\listB f.Params=true/\numB f.Ret=true/\sizeW f<=512/\∀ b∈f.Blocks,blockB b=true:=by
 unfold Qz;simp only[A5,Fz,zzL27,and_assoc]
theorem numBJ{n:Int}:numB n=true↔0<=n/\n<=2147483647:=by unfold numB;rw[A5,Fz,Fz]
theorem listBJ{l:List Int}:listB l=true↔(∀ n∈l,0<=n/\n<=2147483647)/\l.length<=64:=by
 unfold listB;rw[A5,zzL27,Fz];exact⟨λh=>⟨λn hn=>numBJ.1 (h.1 n hn),h.2⟩,λh=>⟨λn hn=>numBJ.2 (h.1 n hn),h.2⟩⟩
theorem IC{v:Int}(h:valS v=true):0<=v/\v<=2147483647:=by
 unfold valS at h;simp only[A5,Fz]at h;omega
section
variable {f:TFunc} {x y:Nat} {l:Int} (J:Jn f x y) (R:Ys f l)
include J R
theorem fo:sizeN (B9 f x y)+(bA f y).Phis.length+1=sizeN f:=by
 have hy:=(LI J (Bc R)).1;rw[Jh,Jh,Om J]
 have h1:Sk (f.Blocks.length-1) (λb=>Dm (bA (B9 f x y) b))=Sk (f.Blocks.length-1) (λk=>(λb=>Dm (Kf f x y b)) (IP y k)):=Yj λi hi=>by
  rw[yj J hi];unfold GT Dm
  simp
 have h2:=j0 (y:=y) (λb=>Dm (Kf f x y b)) f.Blocks.length hy
 have h3:Sk f.Blocks.length (λb=>Dm (Kf f x y b))=Sk f.Blocks.length (λb=>if b=x then Dm (bA f b)+(bA f y).Ops.length else Dm (bA f b)):=Yj λi hi=>by
  unfold Kf
  split
  ·rename_i e;subst e;unfold Dm;simp;omega
  ·rfl
 rw[jx (x:=x) (λb=>Dm (bA f b)) _ _ J.hx]at h3
 have h4:Dm (Kf f x y y)=Dm (bA f y):=by unfold Kf;rw[if_neg J.ne]
 have h2':Sk (f.Blocks.length-1) (λk=>(λb=>Dm (Kf f x y b)) (IP y k))+Dm (Kf f x y y)=_:=h2;rw[h4]at h2';unfold Dm at h2' h3 h1 ⊢;omega
theorem cp{b:Ae}(hb:b∈(B9 f x y).Blocks):∃ c,c<f.Blocks.length/\c≠y/\b=bA (B9 f x y) (psJ x y c)/\b.Phis=(bA f c).Phis.map (NJ (vJ f y) x y)/\(∀ o∈b.Ops,∃ d,d<f.Blocks.length/\∃ o'∈(bA f d).Ops,o=mb (vJ f y) o') /\
  b.End=oX (vJ f y) x y (bA f (Tj x y c)).End/\Tj x y c<f.Blocks.length:=by
 have hs:=Bc R;have hy:=(LI J hs).1;obtain⟨k,hk,e⟩:=Gr hb
 have e':bA (B9 f x y) k=b:=by unfold bA;rw[Ab _ _ _ hk];exact e
 rw[Om J]at hk;have hu:=eJ hy hk;have hun:=XZ y k;have hps:=dm J.ne (x:=x) k;refine⟨IP y k,hu,hun,by rw[hps,e'],?_,λo ho=>?_,?_,Yi J hs hu⟩
 ·rw[<- e',<- JD J R hu hun,hps]
 ·rw[<- e',<- hps]at ho
  by_cases ex:IP y k=x
  ·rw[ex,PS J R]at ho;obtain⟨o',ho',rfl⟩:=zzL20.1 ho;rcases zzL11.1 ho' with h|h
   ·exact⟨x,J.hx,o',h,rfl⟩
   ·exact⟨y,hy,o',h,rfl⟩
  ·rw[jS J R hu hun ex]at ho;obtain⟨o',ho',rfl⟩:=zzL20.1 ho;exact⟨_,hu,o',ho',rfl⟩
 ·rw[<- e',<- PR J hs hu hun,hps]
theorem end_val{c:Nat}(hc:c<f.Blocks.length):(((bA f c).End.Kind=0\/(bA f c).End.Kind=2)/\valS (vJ f y (bA f c).End.Arg)=true)\/(((bA f c).End.Kind=1\/(bA f c).End.Kind=3)/\(bA f c).End.Arg=0/\vJ f y (bA f c).End.Arg=0):=by
 have hs:=Bc R
 have hk:(bA f c).End.Kind=0\/(bA f c).End.Kind=1\/(bA f c).End.Kind=2\/(bA f c).End.Kind=3:=by
  have h3:Kd (bA f c).End f.Blocks.length=true:=(shape_iff.1 hs).2 c hc;unfold Kd Yy at h3;simp only[A5,Fz]at h3;have:=h3.1.1;omega
 have hu:∀ b,(⟨(bA f c).End.Arg,(c:Int),1000,(b,1)⟩:Cm)∈Bf f->valS (vJ f y (bA f c).End.Arg)=true:=λb h=>bM J R h
 have h13:(bA f c).End.Kind=1\/(bA f c).End.Kind=3->(bA f c).End.Arg=0/\vJ f y (bA f c).End.Arg=0:=λh=>by
  have h0:=(Wr R hc).2 h;refine⟨h0,?_⟩;rw[h0];unfold vJ VR;rw[List.find?_eq_none.2];intro p hp;have:=V1 R (YE J R hp).2.2;have:valS p.Dst=true:=this;unfold valS at this;simp only[A5,Fz]at this
  simp;omega
 rcases hk with h|h|h|h
 ·exact .inl ⟨.inl h,hu _ ((H0 (G7 R)).2 ⟨c,hc,.inr (.inr (.inl ⟨h,rfl⟩))⟩)⟩
 ·exact .inr ⟨.inl h,h13 (.inl h)⟩
 ·exact .inl ⟨.inr h,hu _ ((H0 (G7 R)).2 ⟨c,hc,.inr (.inr (.inr ⟨h,rfl⟩))⟩)⟩
 ·exact .inr ⟨.inr h,h13 (.inr h)⟩
theorem dk{c:Nat}(hc:c<f.Blocks.length){p:Ba}(hp:p∈(bA f c).Phis){i:Nat}(hi:i<p.Args.length):(⟨p.Args.getD i 0,p.From.getD i 0,1000,(p.Bits,1)⟩:Cm)∈Bf f:=by
 obtain⟨k,hk,e⟩:=Gr hp
 have e':(bA f c).Phis.getD k default=p:=by rw[Ab _ _ _ hk];exact e
 refine(H0 (G7 R)).2 ⟨c,hc,.inl ⟨k,i,hk,by rw[e'];exact hi,by rw[e']⟩⟩
theorem ur(hsz:sizeN f<=512):Qz (B9 f x y)=true:=by
 have hs:=Bc R;have hy:=LI J hs;have hsz':=fo J R;obtain⟨⟨m1,m2⟩,m3,m4,m5,m6,m7⟩:=mayF_iff.1 R.may;refine mayF_iff.2 ⟨by rw[Om J];have:=J.hx;have:=J.ne;omega,m3,m4,m5,?_,λb hb=>?_⟩
 ·unfold sizeW;rw[Yn (by omega)];omega
 ·obtain⟨c,hc,hcy,_,e1,e2,e3,hsc⟩:=cp J R hb;refine blockB_iff.2 ⟨λp hp=>?_,λo ho=>?_,?_⟩
  ·rw[e1]at hp;obtain⟨q,hq,rfl⟩:=zzL20.1 hp;obtain⟨q1,q2⟩:=Tf R hc hq;obtain⟨p1,p2,p3,p4,_⟩:=OD J hs (v:=vJ f y) hc hcy q1 q2;have hb0:=(blockB_iff.1 (m7 _ (Ag (d:=default) hc))).1 q hq;unfold FN at hb0 ⊢;simp only[A5,and_assoc]at hb0 ⊢;obtain⟨n1,n2,n3,n4⟩:=hb0;refine⟨n1,n2,listBJ.2 ⟨λn hn=>?_,?_⟩,listBJ.2 ⟨λn hn=>?_,?_⟩⟩
   ·rw[p1]at hn;obtain⟨w,rfl,hw,_⟩:=(Q3 (j_shapeB J hs) (by rw[Om J];exact Wf J hs hc)).1 hn;rw[Om J]at hw;omega
   ·rw[p3];exact(listBJ.1 n3).2
   ·obtain⟨j,hj,e⟩:=Gr hn;obtain⟨i,hi,_,h2⟩:=jn J hs q2 p4 hj;rw[Ab _ _ _ hj,e]at h2;rw[h2];exact IC (bM J R (dk J R hc hq hi))
   ·rw[p2];exact(listBJ.1 n4).2
  ·obtain⟨d,hd,o',ho',rfl⟩:=e2 o ho;have hb0:=(blockB_iff.1 (m7 _ (Ag (d:=default) hd))).2.1 o' ho';unfold eg at hb0 ⊢;simp only[A5,and_assoc]at hb0 ⊢;obtain⟨n1,n2,n3,n4,n5⟩:=hb0;refine⟨n1,n2,n3,n4,listBJ.2 ⟨λn hn=>?_,?_⟩⟩
   ·obtain⟨a,ha,rfl⟩:=zzL20.1 hn;exact IC (bF J R hd ho' a ha)
   ·show(List.map _ _).length<=_;rw[Dn];exact(listBJ.1 n5).2
  ·have hb0:=(blockB_iff.1 (m7 _ (Ag (d:=default) hsc))).2.2;rw[e3];unfold cW at hb0 ⊢;simp only[A5,and_assoc]at hb0 ⊢;obtain⟨n1,n2,n3⟩:=hb0;refine⟨n1,?_,listBJ.2 ⟨λn hn=>?_,?_⟩⟩
   ·rcases end_val J R hsc with⟨_,h⟩|⟨_,_,h⟩
    ·exact numBJ.2 (IC h)
    ·show numB (vJ f y _)=true;rw[h];rfl
   ·obtain⟨z,hz,rfl⟩:=zzL20.1 hn;obtain⟨w,rfl,hw,_⟩:=FT hs hsc hz;rw[Pj];have:=Wf J hs hw;omega
   ·show(List.map _ _).length<=_;rw[Dn];exact(listBJ.1 n3).2
theorem o5:Fd (B9 f x y)=true:=by
 have hs:=Bc R;have hy:=LI J hs;refine ME (j_shapeB J hs) λk hk=>?_;rw[Om J]at hk;have hu:=eJ hy.1 hk;have hun:=XZ y k;have hps:=dm J.ne (x:=x) k;refine⟨?_,?_,λp hp=>?_⟩
 ·have:=(jT J hs (Wr R hu).1).2;rwa[hps]at this
 ·rw[<- hps,PR J hs hu hun];intro h;have hsc:=Yi J hs hu;rcases end_val J R hsc with⟨h1,_⟩|⟨_,_,h2⟩
  ·have h:(bA f (Tj x y (IP y k))).End.Kind=1\/(bA f (Tj x y (IP y k))).End.Kind=3:=h;omega
  ·exact h2
 ·rw[<- hps,JD J R hu hun]at hp;obtain⟨q,hq,rfl⟩:=zzL20.1 hp;obtain⟨q1,q2⟩:=Tf R hu hq;obtain⟨p1,p2,p3,_⟩:=OD J hs (v:=vJ f y) hu hun q1 q2;rw[hps]at p1;exact⟨p1,by rw[p2,p3,q2]⟩
theorem s6:N7 (B9 f x y) l=true:=by
 have h:=R.typed;simp only[N7,F2,A5,zzL27]at h ⊢;obtain⟨⟨t1,t2⟩,t3⟩:=h;refine⟨⟨t1,λb hb=>?_⟩,t3⟩;obtain⟨c,hc,hcy,_,e1,e2,e3,hsc⟩:=cp J R hb;refine⟨λp hp=>?_,λo ho=>?_⟩
 ·rw[e1]at hp;obtain⟨q,hq,rfl⟩:=zzL20.1 hp;exact(t2 _ (Ag (d:=default) hc)).1 q hq
 ·obtain⟨d,hd,o',ho',rfl⟩:=e2 o ho;exact lq (d8 R (Ag (d:=default) hd) ho') (bF J R hd ho')
theorem oz{s:List B2}(h:∀ o∈s,∃ d,d<f.Blocks.length/\o∈(bA f d).Ops):ZN (s.map (mb (vJ f y)))=ZN s:=by
 unfold ZN
 induction s with
 | nil=>rfl
 | cons o s ih=>
  obtain⟨d,hd,ho⟩:=h o (by simp);have hg:=XF (G7 R _ (Ag (d:=default) hd) _ ho) (bF J R hd ho);rw[Cq,List.filter_cons,List.filter_cons,hg];have:=ih λo ho=>h o (by simp[ho])
  split
  ·rw[Cq,Cq,this];rfl
  ·exact this
theorem yl{b:Nat}(hb:b<f.Blocks.length)(hby:b≠y):UH (bA (B9 f x y) (psJ x y b))=if b=x then UH (bA f x)++ZN (bA f y).Ops else UH (bA f b):=by
 have hy:=(LI J (Bc R)).1
 have h1:(bA (B9 f x y) (psJ x y b)).Phis.map (·.Dst)=(bA f b).Phis.map (·.Dst):=by
  rw[JD J R hb hby,List.map_map];rfl
 unfold UH;rw[h1]
 split
 ·rename_i e
  subst e;rw[PS J R,oz J R,EW]
  ·congr 1
   unfold ZN;rw[Vd,Vf]
  ·intro o ho;rcases zzL11.1 ho with h|h
   ·exact⟨_,hb,h⟩
   ·exact⟨_,hy,h⟩
 ·rename_i e
  rw[jS J R hb hby e,oz J R];exact λo ho=>⟨_,hb,ho⟩
theorem PT{b:Nat}(hb:b<f.Blocks.length)(hby:b≠y){v:Int}(hv:v∈UH (bA (B9 f x y) (psJ x y b))):∃ c,c<f.Blocks.length/\(c=b\/(b=x/\c=y))/\v∈UH (bA f c):=by
 rw[yl J R hb hby]at hv
 split at hv
 ·rename_i e
  rcases zzL11.1 hv with h|h
  ·exact⟨b,hb,.inl rfl,by rw[e];exact h⟩
  ·exact⟨y,(LI J (Bc R)).1,.inr ⟨e,rfl⟩,by unfold UH;exact zzL11.2 (.inr h)⟩
 ·exact⟨b,hb,.inl rfl,hv⟩
theorem fp(hsz:sizeN f<=512)(hok:OkF (B9 f x y)):Ys (B9 f x y) l:=by
 have hs:=Bc R;have hy:=LI J hs;have hgt:=s6 J R
 have hgm:∀ b∈(B9 f x y).Blocks,∀ o∈b.Ops,Gs o=true:=λb hb o ho=>by
  simp only[N7,F2,A5,zzL27]at hgt;exact DU ((hgt.1.2 b hb).2 o ho)
 obtain⟨N1,N2,N3⟩:=(nodup_split f).1 (Xi (DR R).1)
 have pos_of:∀ k,k<(B9 f x y).Blocks.length->∃ b,b<f.Blocks.length/\b≠y/\psJ x y b=k:=λk hk=>by
  rw[Om J]at hk;exact⟨IP y k,eJ hy.1 hk,XZ y k,dm J.ne k⟩
 have hcap:∀{d:Bx} {b a:Int},d∈Aw (B9 f x y)->kw (B9 f x y) d b a->kw (B9 f x y) d b 1000:=λ{d b a} hd h=>by
  rcases h with h|⟨h1,h2⟩|h
  ·exact .inl h
  ·refine .inr (.inl ⟨h1,?_⟩);rcases defs_in hok d hd with h3|⟨_,_,h3⟩
   ·rcases ri_def.1 hd with⟨i,_,e⟩|⟨i,_,⟨k,_,e⟩|⟨k,_,_,e⟩⟩
    ·rw[e];show(0:Int)<1000;omega
    ·rw[e]at h3;have:(i:Int) = -1:=h3;omega
    ·rw[e]at h3;have:(i:Int) = -1:=h3;omega
   ·exact h3
  ·exact .inr (.inr h)
 refine⟨ur J R hsz,o5 J R,hgt,RR ((nodup_split _).2 ⟨λk hk=>?_,λk m hk hm hne v hv hw=>?_,λi hi k hk hv=>?_⟩) (λd hd=>?_) (λu hu=>?_)⟩
 ·obtain⟨b,hb,hby,rfl⟩:=pos_of k hk;rw[yl J R hb hby]
  split
  ·rename_i e
   rw[List.nodup_append];have hn:=N1 y hy.1;unfold UH at hn;rw[List.nodup_append]at hn;refine⟨N1 x J.hx,hn.2.1,λa ha c hc hac=>?_⟩;exact N2 x y J.hx hy.1 (λh=>J.ne h.symm) a ha (by unfold UH;exact zzL11.2 (.inr (hac▸hc)))
  ·exact N1 b hb
 ·obtain⟨b,hb,hby,rfl⟩:=pos_of k hk;obtain⟨c,hc,hcy,rfl⟩:=pos_of m hm;have hbc:b≠c:=λe=>hne (by rw[e]);obtain⟨b',hb',eb,hvb⟩:=PT J R hb hby hv;obtain⟨c',hc',ec,hvc⟩:=PT J R hc hcy hw;refine N2 b' c' hb' hc' ?_ v hvb hvc;rcases eb with e1|e1<;>rcases ec with e2|e2<;>omega
 ·obtain⟨b,hb,hby,rfl⟩:=pos_of k hk;obtain⟨b',hb',_,hvb⟩:=PT J R hb hby hv;exact N3 i hi b' hb' hvb
 ·rcases ri_def.1 hd with⟨i,hi,e⟩|⟨k,hk,⟨j,hj,e⟩|⟨j,hj,hg,e⟩⟩
  ·rw[e];exact V1 R (d:=⟨(i:Int)+1,-1,0,(f.Params.getD i 0,1)⟩) (ri_def.2 (.inl ⟨i,hi,rfl⟩))
  ·obtain⟨b,hb,hby,rfl⟩:=pos_of k hk;rw[e]
   have h1:=JD J R hb hby
   rw[h1,Dn]at hj
   show valS ((bA (B9 f x y) (psJ x y b)).Phis.getD j default).Dst=true
   rw[h1,Ab _ _ _ (by rw[Dn];exact hj),List.getElem_map];have:=V1 R (d:=⟨((bA f b).Phis.getD j default).Dst,b,-1,(((bA f b).Phis.getD j default).Bits,1)⟩) (ri_def.2 (.inr ⟨b,hb,.inl ⟨j,hj,rfl⟩⟩));rw[Ab _ _ _ hj]at this;exact this
  ·rw[e];exact WN (hgm _ (Ag (d:=default) hk) _ (Ag (d:=default) hj)) hg
 ·obtain⟨k,hk,hcase⟩:=(H0 hgm).1 hu;obtain⟨b,hb,hby,rfl⟩:=pos_of k hk;have hsc:=Yi J hs hb
  have hpsrc:psJ x y (Tj x y b)=psJ x y b:=by
   unfold Tj;split
   ·rename_i e;rw[e];exact pf J R
   ·rfl
  rcases hcase with⟨k,j,hk',hj,e⟩|⟨k,j,hk',hj,e⟩|⟨hK,e⟩|⟨hK,e⟩
  ·have h1:=JD J R hb hby
   rw[h1,Dn]at hk';have hq:=Ag (d:=(default:Ba)) hk';obtain⟨q1,q2⟩:=Tf R hb hq;obtain⟨p1,p2,p3,p4,_⟩:=OD J hs (v:=vJ f y) hb hby q1 q2
   have eq:(bA (B9 f x y) (psJ x y b)).Phis.getD k default=NJ (vJ f y) x y ((bA f b).Phis.getD k default):=by
    rw[h1,Ab _ _ _ (by rw[Dn];exact hk'),List.getElem_map,Ab _ _ _ hk']
   rw[eq]at e hj;obtain⟨i,hi,e1,e2⟩:=jn J hs q2 p4 hj;rw[e1,e2]at e;have hu':=dk J R hb hq hi;obtain⟨c,ec,hc,_⟩:=(Q3 hs hb).1 (show((bA f b).Phis.getD k default).From.getD i 0∈prF f b by rw[<- q1];exact Ag (by omega));rw[ec]at hu' e;obtain⟨d',m1,m2,m3,m4⟩:=mM J R hu' hc rfl (show(0:Int)<=1000 by omega);rw[Pj]at e;rw[e];exact⟨d',m1,m2,m3,hcap m1 m4⟩
  ·by_cases ex:b=x
   ·subst ex;have ho:=PS J R;rw[ho,Dn,Fg]at hk'
    by_cases hkx:k<(bA f b).Ops.length
    ·have h2:=(sy J R hb hkx).2
     have hof:offJ f b y b=0:=by unfold offJ;rw[if_neg hby]
     rw[hof,Na]at h2;rw[h2]at e hj
     have hj':j<((bA f b).Ops.getD k default).Args.length:=by have:j<(List.map _ _).length:=hj;rwa[Dn]at this
     have hu':=(H0 (G7 R) (f:=f)).2 ⟨b,hb,.inr (.inl ⟨k,j,hkx,hj',rfl⟩)⟩;obtain⟨d',m1,m2,m3,m4⟩:=mM J R hu' hb rfl (show(0:Int)<=(k:Int) by omega);rw[hof]at m4;refine⟨d',m1,?_,?_,?_⟩
     ·rw[m2,e];exact(HK hj').symm
     ·rw[m3,e];rfl
     ·rw[e];simpa using m4
    ·have hky:k-(bA f b).Ops.length<(bA f y).Ops.length:=by omega
     have h2:=(sy J R hy.1 hky).2
     have hof:offJ f b y y=(bA f b).Ops.length:=by unfold offJ;rw[if_pos rfl]
     rw[hof,pf J R,show k-(bA f b).Ops.length+(bA f b).Ops.length=k by omega]at h2;rw[h2]at e hj
     have hj':j<((bA f y).Ops.getD (k-(bA f b).Ops.length) default).Args.length:=by have:j<(List.map _ _).length:=hj;rwa[Dn]at this
     have hu':=(H0 (G7 R) (f:=f)).2 ⟨y,hy.1,.inr (.inl ⟨k-(bA f b).Ops.length,j,hky,hj',rfl⟩)⟩;obtain⟨d',m1,m2,m3,m4⟩:=mM J R hu' hy.1 rfl (show(0:Int)<=((k-(bA f b).Ops.length:Nat):Int) by omega);rw[hof,pf J R]at m4;refine⟨d',m1,?_,?_,?_⟩
     ·rw[m2,e];exact(HK hj').symm
     ·rw[m3,e];rfl
     ·rw[e]
      have e4:(((k-(bA f b).Ops.length:Nat):Int)+((bA f b).Ops.length:Int))=(k:Int):=by omega
      have m4':kw (B9 f b y) d' (psJ b y b:Int) (((k-(bA f b).Ops.length:Nat):Int)+((bA f b).Ops.length:Int)):=m4;rw[e4]at m4';exact m4'
   ·have ho:=jS J R hb hby ex;rw[ho,Dn]at hk';have h2:=(sy J R hb hk').2
    have hof:offJ f x y b=0:=by unfold offJ;rw[if_neg hby]
    rw[hof,Na]at h2;rw[h2]at e hj
    have hj':j<((bA f b).Ops.getD k default).Args.length:=by have:j<(List.map _ _).length:=hj;rwa[Dn]at this
    have hu':=(H0 (G7 R) (f:=f)).2 ⟨b,hb,.inr (.inl ⟨k,j,hk',hj',rfl⟩)⟩;obtain⟨d',m1,m2,m3,m4⟩:=mM J R hu' hb rfl (show(0:Int)<=(k:Int) by omega);rw[hof]at m4;refine⟨d',m1,?_,?_,?_⟩
    ·rw[m2,e];exact(HK hj').symm
    ·rw[m3,e];rfl
    ·rw[e];simpa using m4
  ·rw[PR J hs hb hby]at hK e;have hu':=(H0 (G7 R) (f:=f)).2 ⟨_,hsc,.inr (.inr (.inl ⟨hK,rfl⟩))⟩;obtain⟨d',m1,m2,m3,m4⟩:=mM J R hu' hsc rfl (show(0:Int)<=1000 by omega);rw[hpsrc]at m4;rw[e];exact⟨d',m1,m2,m3,hcap m1 m4⟩
  ·rw[PR J hs hb hby]at hK e;have hu':=(H0 (G7 R) (f:=f)).2 ⟨_,hsc,.inr (.inr (.inr ⟨hK,rfl⟩))⟩;obtain⟨d',m1,m2,m3,m4⟩:=mM J R hu' hsc rfl (show(0:Int)<=1000 by omega);rw[hpsrc]at m4;rw[e];exact⟨d',m1,m2,m3,hcap m1 m4⟩
end
theorem Aak{f:TFunc}{x y:Nat}{l:Int}(J:Jn f x y)(R:Ys f l)(hN:Nw f):Nw (B9 f x y):=by
 have hs:=Bc R;have hmx:maxLen=9223372036854775807:=Px;have hsz:=fo J R;have hszf:=hN.size
 have hblk:∀ b∈(B9 f x y).Blocks,Dm b<=512:=λb hb=>by
  obtain⟨k,hk,e⟩:=Gr hb;have:=Ud (F:=λb=>Dm (bA (B9 f x y) b)) hk;rw[<- Jh]at this
  have e':bA (B9 f x y) k=b:=by unfold bA;rw[Ab _ _ _ hk];exact e
  simp only[e']at this;omega
 have hto:∀ b∈(B9 f x y).Blocks,b.End.To.length<=2:=λb hb=>by
  obtain⟨c,hc,hcy,_,e1,e2,e3,hsc⟩:=cp J R hb;rw[e3]
  show(List.map _ _).length<=2
  rw[Dn];exact hN.to _ (Ag (d:=default) hsc)
 have hphi:∀ b∈(B9 f x y).Blocks,∀ p∈b.Phis,p.From.length<=16/\p.Args.length<=16:=λb hb p hp=>by
  obtain⟨c,hc,hcy,_,e1,e2,e3,hsc⟩:=cp J R hb;rw[e1]at hp;obtain⟨q,hq,rfl⟩:=zzL20.1 hp;obtain⟨q1,q2⟩:=Tf R hc hq;obtain⟨_,p2,p3,_⟩:=OD J hs (v:=vJ f y) hc hcy q1 q2;rw[p2,p3];exact hN.phi _ (Ag (d:=default) hc) q hq
 have hop:∀ b∈(B9 f x y).Blocks,∀ o∈b.Ops,o.Args.length<=16/\0<=o.Imm/\o.Imm<18446744073709551616:=λb hb o ho=>by
  obtain⟨c,hc,hcy,_,e1,e2,e3,hsc⟩:=cp J R hb;obtain⟨d,hd,o',ho',rfl⟩:=e2 o ho;have h1:=hN.op _ (Ag (d:=default) hd) o' ho';have h2:=hN.inf.op _ (Ag (d:=default) hd) o' ho';refine⟨?_,h2.2⟩
  show(List.map _ _).length<=_
  rw[Dn];exact h1
 refine⟨⟨hN.inf.params,?_,λb hb=>?_,λb hb p hp=>?_,λb hb o ho=>?_⟩,hN.params,hto,hphi,λb hb o ho=>(hop b hb o ho).1,by omega⟩
 ·rw[Om J];have:=hN.inf.blocks;omega
 ·have:=hblk b hb;have h2:=hto b hb;unfold Dm at this;omega
 ·have:=hphi b hb p hp;omega
 ·have:=hop b hb o ho;exact⟨by omega,this.2⟩
theorem cq{f:TFunc}{x y:Nat}{l:Int}(J:Jn f x y)(R:Ys f l)(hN:Nw f):Ys (B9 f x y) l/\Nw (B9 f x y):=
 have hn:=Aak J R hN
 ⟨fp J R hN.size (jt (jd hn) (ur J R hN.size)),hn⟩
theorem pE{α σ S X:Type}(l:List α)(d:α)(mk:Nat->σ->S)(P:Nat->σ->Prop)(g:σ->α->σ)(out:σ->X)(f:S->Option (LR S X))
  (hn:∀ i s,i<l.length->P i s->f (mk i s)=some (.next (mk (i+1) (g s (l.getD i d))))/\P (i+1) (g s (l.getD i d)))
  (hd:∀ s,P l.length s->f (mk l.length s)=some (.done (out s))):∀(k i:Nat) (s:σ),i+k=l.length->P i s->Ac f (mk i s)=some (out ((l.drop i).foldl g s))/\P l.length ((l.drop i).foldl g s)
 | 0,i,s,h,hP=>by
  obtain rfl:i=l.length:=by omega
  rw[Am (hd s hP)]
  simpa using hP
 | k+1,i,s,h,hP=>by
  have hi:i<l.length:=by omega
  obtain⟨h1,h2⟩:=hn i s hi hP;obtain⟨h3,h4⟩:=pE l d mk P g out f hn hd k (i+1) _ (by omega) h2
  have hdr:l.drop i=l.getD i d::l.drop (i+1):=by simp_all
  rw[Aq h1,h3,hdr];exact⟨rfl,h4⟩
theorem DL{α σ S X:Type}(l:List α)(d:α)(mk:Nat->σ->S)(P:Nat->σ->Prop)(g:σ->α->σ)(out:σ->X)(f:S->Option (LR S X))
  (hn:∀ i s,i<l.length->P i s->f (mk i s)=some (.next (mk (i+1) (g s (l.getD i d))))/\P (i+1) (g s (l.getD i d)))
  (hd:∀ s,P l.length s->f (mk l.length s)=some (.done (out s))) (s:σ) (hP:P 0 s):Ac f (mk 0 s)=some (out (l.foldl g s))/\P l.length (l.foldl g s):=
 pE l d mk P g out f hn hd l.length 0 s (by omega) hP
theorem WL{α β:Type}(F:α->β):∀(l:List α) (k:Nat) (s:List β),s.length=k+l.length->(l.foldl (λ(t:Nat×List β) b=>(t.1+1,t.2.set t.1 (F b))) (k,s)).2=s.take k++l.map F
 | [],k,s,h=>by simp at h;simp[<- h]
 | b::l,k,s,h=>by
  simp only[EY]at h;rw[IH,WL F l (k+1) (s.set k (F b)) (by simp;omega),Cq]
  have e:(s.set k (F b)).take (k+1)=s.take k++[F b]:=by
   rw[List.take_add_one,List.take_set_of_le (by omega)];simp[List.getElem?_set,show k<s.length by omega]
  rw[e,EW];rfl
theorem ZZ{α β X:Type}(l:List α)(d:α)(F:α->β)(out:List β->X)(f:Int×List β->Option (LR (Int×List β) X))(hn:∀(i:Nat) (s:List β),i<l.length->s.length=l.length->f ((i:Int),s)=some (.next (((i+1:Nat):Int),s.set i (F (l.getD i d)))))
  (hd:∀ s,f ((l.length:Int),s)=some (.done (out s))) (s:List β) (hs:s.length=l.length):Ac f ((0:Int),s)=some (out (l.map F)):=by
 have key:=DL l d (λi (t:Nat×List β)=>((i:Int),t.2)) (λi t=>t.1=i/\t.2.length=l.length) (λt b=>(t.1+1,t.2.set t.1 (F b))) (λt=>out t.2) f
  (λi t hi hP=>by obtain⟨h1,h2⟩:=hP;subst h1;exact⟨hn _ _ hi h2,rfl,by simpa using h2⟩) (λt _=>hd t.2) (0,s) ⟨rfl,hs⟩
 have:=key.1;rw[WL F l 0 s (by omega)]at this
 simpa using this
theorem pD{α β X:Type}(l:List α)(d:α)(q:α->Option β)(out:β->X)(no:X)(f:Int->Option (LR Int X))(hn:∀ i,i<l.length->q (l.getD i d)=none->f (i:Int)=some (.next (((i+1:Nat):Int))))
  (hf:∀ i,i<l.length->∀ b,q (l.getD i d)=some b->f (i:Int)=some (.done (out b))) (he:f (l.length:Int)=some (.done no)):Ac f (0:Int)=some (match l.findSome? q with|some b=>out b|none=>no):=by
 have key:∀ k i:Nat,i+k=l.length->Ac f (i:Int)=some (match(l.drop i).findSome? q with|some b=>out b|none=>no):=by
  intro k
  induction k with
  | zero=>
   intro i h
   obtain rfl:i=l.length:=by omega
   rw[Am he];simp
  | succ k ih=>
   intro i h
   have hi:i<l.length:=by omega
   have hdr:l.drop i=l.getD i d::l.drop (i+1):=by simp_all
   rw[hdr,List.findSome?_cons]
   cases hq:q (l.getD i d) with
   | some b=>rw[Am (hf i hi b hq)]
   | none=>rw[Aq (hn i hi hq),ih (i+1) (by omega)]
 have:=key l.length 0 (by omega)
 simpa using this
theorem ot{a b:Nat}(h:a+b<4000000):w64 (Wv .u64 (Iu (w64 ((a:Int)+(b:Int)))) (1:Int))=(((a+b) / 2:Nat):Int):=by
 have e:((a:Int)+(b:Int))=((a+b:Nat):Int):=by omega
 rw[e,He (n:=((a+b:Nat):Int)) (by omega) (by omega),ID (by omega) (by omega)];unfold Wv;rw[show(1:Int).toNat=1 from rfl,show min 1 IntKind.u64.bits=1 from rfl,show(2:Int) ^ 1=2 from rfl,Int.fdiv_eq_ediv_of_nonneg _ (by omega),He (by omega) (by omega)];omega
theorem la{l:List Int}(hs:l.Pairwise (·<·))(hl:l.length<=1000)(x:Int):∃(i:Nat) (b:Bool),Fe l x=some ((i:Int),b)/\i<=l.length/\(∀ k,k<i->l.getD k 0<x)/\∀ k,i<=k->k<l.length->x<=l.getD k 0:=by
 have hmono:∀ i j,i<j->j<l.length->l.getD i 0<l.getD j 0:=λi j hij hj=>by
  rw[Ab _ _ _ hj,Ab _ _ _ (by omega)];exact zzL91.1 hs i j (by omega) hj hij
 have key:∀ d (a b:Nat),b-a<=d->a<=b->b<=l.length->(∀ k,k<a->l.getD k 0<x)->(∀ k,b<=k->k<l.length->x<=l.getD k 0)->
   ∃ i:Nat,Ac (B4 l x) ((a:Int),(b:Int))=some (i:Int)/\i<=l.length/\(∀ k,k<i->l.getD k 0<x)/\∀ k,i<=k->k<l.length->x<=l.getD k 0:=by
  intro d
  induction d with
  | zero=>
   intro a b h1 h2 h3 h4 h5
   obtain rfl:a=b:=by omega
   refine⟨a,Am ?_,h3,h4,h5⟩;unfold B4;simp only[Co,Au]
  | succ d ih=>
   intro a b h1 h2 h3 h4 h5
   by_cases hab:a<b
   ·have hm:(a+b) / 2<l.length:=by omega
    have e:B4 l x ((a:Int),(b:Int))=some (.next (bif decide (l.getD ((a+b) / 2) 0<x) then((((a+b) / 2+1:Nat):Int),(b:Int)) else((a:Int),(((a+b) / 2:Nat):Int)))):=by
     unfold B4 Tu Pf;simp only[Bt hab,Ah,ot (show a+b<4000000 by omega),Aa (Ai hm),Ak,An,bne_self_eq_false,w1 (show(a+b) / 2<4611686018427387904 by omega)]
     cases decide (l.getD ((a+b) / 2) 0<x)<;>rfl
    rw[Aq e]
    by_cases hx:l.getD ((a+b) / 2) 0<x
    ·rw[Dr hx,Ah];refine ih _ _ (by omega) (by omega) h3 (λk hk=>?_) h5;rcases zzL124 k ((a+b) / 2) with h6|h6
     ·exact Int.lt_trans (hmono k _ h6 hm) hx
     ·obtain rfl:k=(a+b) / 2:=by omega
      exact hx
    ·rw[C9 hx,Au];refine ih _ _ (by omega) (by omega) (by omega) h4 (λk hk hkl=>?_);rcases zzL124 ((a+b) / 2) k with h6|h6
     ·have:=hmono _ k h6 hkl;omega
     ·obtain rfl:k=(a+b) / 2:=by omega
      omega
   ·exact ih a b (by omega) h2 h3 h4 h5
 obtain⟨i,h1,h2,h3,h4⟩:=key l.length 0 l.length (by omega) (by omega) (zzL6 _) (λk hk=>by omega) (λk hk hk2=>by omega);have h1':Ac (B4 l x) ((0:Int),(l.length:Int))=some (i:Int):=h1;unfold Fe Mf;rw[h1',An]
 have hin:(decide ((i:Int)<(l.length:Int)))=true->A1 (i:Int) l.length:=λh=>by have:=KH h;exact⟨by omega,this⟩
 rw[Aa (λh=>hin (by simpa using h)),Aa (λh=>hin (by simp at h;simpa using h.1))];simp only[bne_self_eq_false];refine⟨i,(bif decide ((i:Int)<(l.length:Int)) then(bif (l.getD (i:Int).toNat 0==x) then true else(bif false then false else false)) else false),?_,h2,h3,h4⟩
 have e:∀ b:Bool,(bif b then some false else some false)=some false:=λb=>by cases b<;>rfl
 rw[e,An];simp only[Bool.and_false,show((false:Bool)==true)=false from rfl,Au,An]
theorem dO{V:Type}(k v:Int)(x:V):∀ l:List (Int×V),Ed (Jm l k x) v=(v==k || Ed l v)
 | []=>by simp[Jm,Ed]
 | (a,b)::r=>by
  unfold Jm
  cases h:(k==a) with
  | true=>
   have:k=a:=eq_of_beq h;subst this;simp[Ed]
  | false=>
   simp only[Au,Ed,dO k v x r]
   cases v==a<;>cases v==k<;>rfl
theorem dN{V:Type}(d:V)(k v:Int)(x:V):∀ l:List (Int×V),Fx d (Jm l k x) v=bif v==k then x else Fx d l v
 | []=>by simp[Jm,Fx]
 | (a,b)::r=>by
  unfold Jm
  cases h:(k==a) with
  | true=>
   have:k=a:=eq_of_beq h;subst this;simp only[Ah,Fx]
   cases v==k<;>rfl
  | false=>
   simp only[Au,Fx,dN d k v x r]
   cases h1:(v==a) with
   | true=>
    have:v=a:=eq_of_beq h1;subst this
    have:(v==k)=false:=by
     cases h2:(v==k) with
     | false=>rfl
     | true=>have:=eq_of_beq h2;subst this;simp at h
    rw[this];rfl
   | false=>rfl
def L0(l:List (Int×Int))(v:Int):Int:=bif Ed l v then Fx 0 l v else v
theorem NR(v x y:Int)(l:List (Int×Int)):G6 v x y l=some (L0 l v):=by
 unfold G6 L0
 cases Ed l v<;>rfl
theorem jA{x y a:Nat}(hx:x<1000000)(h:a<1000000)(l:List (Int×Int)):K0 (a:Int) (x:Int) (y:Int) l=some ((psJ x y a:Nat):Int):=by
 unfold K0 psJ
 have key:∀ z:Nat,((Option.bind (α:=Int) (bif decide (((y:Nat):Int)<(z:Int)) then some (w64 ((z:Int)-1)) else some (z:Int)) λx5=>some x5):Option Int)=some (((if y<z then z-1 else z:Nat)):Int)\/¬ z<4000000:=λz=>by
  by_cases hz:z<4000000
  ·left
   by_cases hy:y<z
   ·rw[Dr (by omega),Ah,if_pos hy,He (by omega) (by omega)]
    show some _=some _
    congr 1;omega
   ·rw[C9 (by omega),Au,if_neg hy];rfl
  ·exact .inr hz
 by_cases e:a=y
 ·subst e;rw[show((a:Int)==(a:Int))=true by simp,Ah,An,if_pos rfl];rcases key x with h|h
  ·exact h
  ·omega
 ·rw[show((a:Int)==(y:Int))=false by rw[zzL29];omega,Au,An,if_neg e];rcases key a with h|h
  ·exact h
  ·omega
theorem qL(l:List (Int×Int))(k v x:Int):L0 (Jm l k x) v=bif v==k then x else L0 l v:=by
 unfold L0;rw[dO,dN]
 cases v==k<;>rfl
theorem mN{ps:List Ba}{p:Ba}(h:∀ q∈ps,q.Dst≠p.Dst)(v:Int):VR (ps++[p]) v=bif v==p.Dst then p.Args.getD 0 0 else VR ps v:=by
 unfold VR;rw[List.find?_append]
 by_cases e:v=p.Dst
 ·subst e;rw[List.find?_eq_none.2 (λq hq=>by simpa using h q hq)]
  simp
 ·rw[show(v==p.Dst)=false by rw[zzL29];exact e,Au]
  have:(p.Dst==v)=false:=by rw[zzL29];exact λh=>e h.symm
  cases ps.find? (λp=>p.Dst==v) with
  | some q=>rfl
  | none=>simp[this]
section
variable {f:TFunc} {x y:Nat} {l:Int} (J:Jn f x y) (R:Ys f l)
include J R
theorem jp{b:Nat}(hb:b<f.Blocks.length):((bA f b).Phis.map (·.Dst)).Nodup:=by
 have:=((nodup_split f).1 (Xi (DR R).1)).1 b hb;unfold UH at this;exact(List.nodup_append.1 this).1
theorem pd{p:Ba}(hp:p∈(bA f y).Phis):(bA f y).Phis.find? (λq=>q.Dst==p.Dst)=some p:=by
 have hy:=(LI J (Bc R)).1;have hn:=jp J R hy
 cases hq:(bA f y).Phis.find? (λq=>q.Dst==p.Dst) with
 | none=>have:=List.find?_eq_none.1 hq p hp;simp at this
 | some q=>
  have hm:=List.mem_of_find?_eq_some hq
  have he:q.Dst=p.Dst:=by simpa using List.find?_some hq
  obtain⟨i,hi,rfl⟩:=Gr hm;obtain⟨j,hj,rfl⟩:=Gr hp;have:=(List.getElem_inj (h₀:=show i<((bA f y).Phis.map (·.Dst)).length by simpa using hi) (h₁:=show j<((bA f y).Phis.map (·.Dst)).length by simpa using hj) hn).1 (by simpa using he);subst this;rfl
theorem sK{p:Ba}(hp:p∈(bA f y).Phis):∀ q∈(bA f y).Phis,q.Dst≠p.Args.getD 0 0:=λq hq e=>by
 have hy:=LI J (Bc R);obtain⟨_,_,hd⟩:=YE J R hp;obtain⟨_,_,hdq⟩:=YE J R hq;obtain⟨d,hd',hv,_,_,hn⟩:=qK J R hd hy.1 (a:=0) (Int.le_refl _) (.inr (.inl ⟨rfl,by show(-1:Int)<0;omega⟩))
 have hv2:d.V=p.Args.getD 0 0:=by
  rw[hv];unfold vJ VR;rw[pd J R hp]
 have:=pr R hd' hdq (by rw[hv2,<- e]);rw[this]at hn;exact hn ⟨rfl,rfl⟩
def HJ(ps:List Ba):List (Int×Int):=ps.foldl (λl p=>Jm l p.Dst (p.Args.getD 0 0)) []
theorem dI(i:Nat)(hi:i<=(bA f y).Phis.length)(v:Int):L0 (HJ ((bA f y).Phis.take i)) v=VR ((bA f y).Phis.take i) v:=by
 have hy:=(LI J (Bc R)).1;have hn:=jp J R hy
 induction i with
 | zero=>rfl
 | succ i ih=>
  have hi':i<(bA f y).Phis.length:=by omega
  have e:(bA f y).Phis.take (i+1)=(bA f y).Phis.take i++[(bA f y).Phis[i]]:=by rw[List.take_add_one,P4 hi'];rfl
  rw[e,mN]
  ·unfold HJ;rw[List.foldl_append]
   show L0 (Jm (HJ ((bA f y).Phis.take i)) _ _) v=_
   rw[qL,ih (by omega)]
  ·intro q hq he;obtain⟨k,hk,rfl⟩:=Gr hq;rw[W0]at hk;rw[List.getElem_take]at he;have:=(List.getElem_inj (h₀:=show k<((bA f y).Phis.map (·.Dst)).length by rw[Dn];omega) (h₁:=show i<((bA f y).Phis.map (·.Dst)).length by simpa using hi') hn).1 (by simpa using he);omega
theorem oE(hs:(bA f y).Phis.length<4611686018427387904):Ac (G4 f (x:Int) (y:Int)) ((0:Int),([]:List (Int×Int)))=some (HJ (bA f y).Phis):=by
 have hy:=(LI J (Bc R)).1;refine De (G4 f (x:Int) (y:Int)) (λi=>((i:Int),HJ ((bA f y).Phis.take i))) (HJ (bA f y).Phis) (bA f y).Phis.length (λi hi=>?_) ?_
 ·have hp:=Ag (d:=(default:Ba)) hi;have ha:=(YE J R hp).1;have hi2:((f.Blocks.getD y default).Phis).getD i default=(bA f y).Phis[i]:=Ab _ _ _ hi
  have e:(bA f y).Phis.take (i+1)=(bA f y).Phis.take i++[(bA f y).Phis.getD i default]:=by rw[List.take_add_one,P4 hi,Ab _ _ _ hi];rfl
  have hv:L0 (HJ ((bA f y).Phis.take i)) (((bA f y).Phis.getD i default).Args.getD 0 0)=((bA f y).Phis.getD i default).Args.getD 0 0:=by
   rw[dI J R i (by omega)];unfold VR;rw[List.find?_eq_none.2];intro q hq;have:=sK J R hp q (List.mem_of_mem_take hq)
   simpa using this
  have hA:A1 (0:Int) (((f.Blocks.getD y default).Phis).getD i default).Args.length:=by
   rw[show(((f.Blocks.getD y default).Phis).getD i default).Args.length=1 from ha];exact⟨by omega,by omega⟩
  unfold G4;simp only[Ak];rw[Bt hi,Ah,Aa (Ai hi),Aa hA,NR,An,w1 (show i<4611686018427387904 by omega)];rw[show L0 (HJ ((bA f y).Phis.take i)) ((((f.Blocks.getD y default).Phis).getD i default).Args.getD (0:Int).toNat 0)=_ from hv];rw[e];unfold HJ;rw[List.foldl_append];rfl
 ·unfold G4;simp only[Ak];rw[Co,Au,W1]
end
theorem wF{L:List Int}{x y:Int}{m:List (Int×Int)}(hl:L.length<=1000000):Uz L x y m=some (L.map (L0 m)):=by
 have hroom:(1000001:Nat)<=room:=by decide
 unfold Uz
 rw[Aa (by omega),ZZ L (0:Int) (L0 m) id (Qx L x y m) (λi s hi hs=>by
  unfold Qx;simp only[Bt hi,Ah,Aa (Ai hi),Ak,NR,An,w1 (show i<4611686018427387904 by omega)]
  rw[Aa (by rw[hs];exact Ai hi)]) (λs=>by unfold Qx;simp only[Co,Au];rfl) _ (by simp)]
 rfl
theorem sX{L:List Int}{x y:Nat}{m:List (Int×Int)}(hx:x<1000000)(hl:L.length<=1000000)(h:∀ z∈L,0<=z/\z<1000000):Qy L (x:Int) (y:Int) m=some (L.map (lw x y)):=by
 have hroom:(1000001:Nat)<=room:=by decide
 unfold Qy
 rw[Aa (by omega),ZZ L (0:Int) (lw x y) id (M6 L (x:Int) (y:Int) m) (λi s hi hs=>by
  obtain⟨h0,h1⟩:=h _ (Ag (d:=(0:Int)) hi);obtain⟨a,ha⟩:∃ a:Nat,L.getD i 0=(a:Int):=⟨(L.getD i 0).toNat,by omega⟩;unfold M6;simp only[Bt hi,Ah,Aa (Ai hi),Ak,w1 (show i<4611686018427387904 by omega)]
  rw[ha,jA hx (by omega),An,Aa (by rw[hs];exact Ai hi),Pj]) (λs=>by unfold M6;simp only[Co,Au];rfl) _ (by simp)]
 rfl
theorem WP{e:Int×Int}:∀{n:Nat} {l:List (Int×Int)},n<=l.length->(∀ k,k<n->(l.map (·.1)).getD k 0<e.1)->(∀ k,n<=k->k<l.length->e.1<=(l.map (·.1)).getD k 0)->NB l e=l.take n++e::l.drop n
 | 0,[],_,_,_=>rfl
 | 0,p::l,_,_,h2=>by
  rw[DF];have:=h2 0 (zzL6 _) (by simp);simp at this;rw[if_neg (by omega)];rfl
 | n+1,[],h,_,_=>by simp at h
 | n+1,p::l,h,h1,h2=>by
  rw[DF];have h0:=h1 0 (by omega);simp at h0;rw[if_pos h0,WP (n:=n) (by simpa using h) (λk hk=>by have:=h1 (k+1) (by omega);simpa using this) (λk hk hl=>by have:=h2 (k+1) (by omega) (by simpa using hl);simpa using this)]
  rfl
theorem yb{p:Ba}{x y:Nat}{m:List (Int×Int)}(hx:x<1000000)(hl:p.From.length<=500)(h2:p.Args.length=p.From.length)(h:∀ z∈p.From,0<=z/\z<1000000)(hn:((Oy (L0 m) x y p).map (·.1)).Nodup) :
  Pi p (x:Int) (y:Int) m=some (NJ (L0 m) x y p):=by
 have hroom:(1000001:Nat)<=room:=by decide
 have hzl:=kC (v:=L0 m) (x:=x) (y:=y) h2;have key:=De (Jk p (x:Int) (y:Int) m) (λi=>((i:Int),(Zy ((Oy (L0 m) x y p).take i)).map (·.1),(Zy ((Oy (L0 m) x y p).take i)).map (·.2))) ((Zy (Oy (L0 m) x y p)).map (·.1),(Zy (Oy (L0 m) x y p)).map (·.2)) p.From.length (λi hi=>?_) ?_
 ·unfold Pi;have key':Ac (Jk p (x:Int) (y:Int) m) ((0:Int),([]:List Int),([]:List Int))=_:=key;rw[key',An];rfl
 ·have hi':i<(Oy (L0 m) x y p).length:=by omega
  have hia:i<p.Args.length:=by omega
  obtain⟨h0,h1⟩:=h _ (Ag (d:=(0:Int)) hi);obtain⟨a,ha⟩:∃ a:Nat,p.From.getD i 0=(a:Int):=⟨(p.From.getD i 0).toNat,by omega⟩
  have ez:(Oy (L0 m) x y p)[i]=(((psJ x y a:Nat):Int),L0 m (p.Args.getD i 0)):=by
   have h':i<(List.zip (p.From.map (lw x y)) (p.Args.map (L0 m))).length:=hi'
   show(List.zip (p.From.map (lw x y)) (p.Args.map (L0 m)))[i]'h'=_
   rw[List.getElem_zip,List.getElem_map,List.getElem_map,<- Ab _ _ (0:Int) hi,<- Ab _ _ (0:Int) hia,ha,Pj]
  have et:(Oy (L0 m) x y p).take (i+1)=(Oy (L0 m) x y p).take i++[(Oy (L0 m) x y p)[i]]:=by rw[List.take_add_one,P4 hi'];rfl
  have es:Zy ((Oy (L0 m) x y p).take (i+1))=NB (Zy ((Oy (L0 m) x y p).take i)) (((psJ x y a:Nat):Int),L0 m (p.Args.getD i 0)):=by
   rw[et,ez];unfold Zy;rw[List.foldl_append];rfl
  have hnt:(((Oy (L0 m) x y p).take i).map (·.1)).Nodup:=by
   rw[List.map_take];exact hn.sublist (List.take_sublist ..)
  obtain⟨k1,k2⟩:=jv hnt
  generalize hA:Zy ((Oy (L0 m) x y p).take i)=A at *
  have hAl:A.length=i:=by rw[k1.length_eq,W0];omega
  have hsrt:(A.map (·.1)).Pairwise (·<·):=by rw[List.pairwise_map];exact k2
  obtain⟨n,b,s1,s2,s3,s4⟩:=la hsrt (by rw[Dn];omega) ((psJ x y a:Nat):Int);rw[Dn]at s2;have hins:=WP (e:=(((psJ x y a:Nat):Int),L0 m (p.Args.getD i 0))) s2 s3 (λk hk hkl=>s4 k hk (by rw[Dn];exact hkl))
  have hI:∀(M:List Int) (z:Int),M.length=A.length->CD M (n:Int) [z]=some (M.take n++[z]++M.drop n,M.take n++[z]++M.drop n,[z]):=λM z hM=>by
   unfold CD;rw[Aa ⟨by omega,by omega,by simp,by simp;omega⟩,Ak]
  unfold Jk;simp only[Bt hi,Ah,Aa (Ai hi),Ak,ha,jA hx (show a<1000000 by omega),An,s1];rw[hI _ _ (by rw[Dn]),An]
  dsimp only
  rw[Aa (show 1=[((psJ x y a:Nat):Int)].length from rfl),Aa (Ai hia),NR,An,hI _ _ (by rw[Dn]),An]
  dsimp only
  rw[Aa (show 1=[L0 m (p.Args.getD i 0)].length from rfl),w1 (show i<4611686018427387904 by omega),es,hins];simp[List.map_take,List.map_drop]
 ·unfold Jk;simp only[Co,Au];rw[show(Oy (L0 m) x y p).take p.From.length=Oy (L0 m) x y p by rw[<- hzl,W1]]
structure zZ(v:Int->Int)(x y:Nat)(b:Ae):Prop where
 phis:b.Phis.length<=100000
 ops:b.Ops.length<=1000000
 to:b.End.To.length<=1000000/\∀ z∈b.End.To,0<=z/\z<1000000
 phi:∀ p∈b.Phis,p.From.length<=500/\p.Args.length=p.From.length/\(∀ z∈p.From,0<=z/\z<1000000)/\((Oy v x y p).map (·.1)).Nodup
 op:∀ o∈b.Ops,o.Args.length<=1000000
theorem sU{b:Ae}{x y:Nat}{m:List (Int×Int)}(hx:x<1000000)(h:zZ (L0 m) x y b):Kx b (x:Int) (y:Int) m=some (GT (L0 m) x y b):=by
 have hroom:(1000001:Nat)<=room:=by decide
 have hph:=h.phis;have hop:=h.ops;unfold Kx
 rw[Aa (by omega),ZZ b.Phis (default:Ba) (NJ (L0 m) x y) id (Ky b (x:Int) (y:Int) m) (λi s hi hs=>by
  obtain⟨p1,p2,p3,p4⟩:=h.phi _ (Ag (d:=default) hi);unfold Ky;simp only[Bt hi,Ah,Aa (Ai hi),Ak,yb hx p1 p2 p3 p4,An,w1 (show i<4611686018427387904 by omega)]
  rw[Aa (by rw[hs];exact Ai hi)]) (λs=>by unfold Ky;simp only[Co,Au];rfl) _ (by simp),An]
 dsimp only[id]
 rw[Aa (by omega),ZZ b.Ops (default:B2) (mb (L0 m)) id (Kz b (x:Int) (y:Int) m) (λi s hi hs=>by
  unfold Kz;simp only[Bt hi,Ah,Aa (Ai hi),Ak,wF (h.op _ (Ag (d:=default) hi)),An,w1 (show i<4611686018427387904 by omega)]
  rw[Aa (by rw[hs];exact Ai hi)];rfl) (λs=>by unfold Kz;simp only[Co,Au];rfl) _ (by simp),An]
 dsimp only[id]
 rw[NR,An,sX hx h.to.1 h.to.2,An]
 rfl
theorem oH{a b:List B2}(h:a.length+b.length<=1000000):Ff [a,b]=some (a++b):=by
 have hroom:(1000001:Nat)<=room:=by decide
 unfold Ff
 have h1:Ac (Cr [a,b]) ((0:Int),(0:Int))=some (((a.length+b.length:Nat)):Int):=by
  rw[Aq (s':=((a.length:Int),(1:Int))) (by
   unfold Cr
   show(Option.bind (α:=Unit) (A0 (A1 (0:Int) 2) (bif decide (w64 ((0:Int)+(a.length:Int))<0) then none else some ())) _)=_
   rw[He (by omega) (by omega),C9 (by omega),Aa ⟨by omega,by omega⟩,Au,An]
   show some (LR.next (w64 ((0:Int)+(a.length:Int)),w64 ((0:Int)+1)))=_
   rw[show w64 ((0:Int)+1)=1 from rfl,He (n:=(0:Int)+(a.length:Int)) (by omega) (by omega),Int.zero_add]),Aq (s':=(((a.length+b.length:Nat):Int),(2:Int))) (by
   unfold Cr
   show(Option.bind (α:=Unit) (A0 (A1 (1:Int) 2) (bif decide (w64 ((a.length:Int)+(b.length:Int))<0) then none else some ())) _)=_
   rw[He (by omega) (by omega),C9 (by omega),Aa ⟨by omega,by omega⟩,Au,An]
   show some (LR.next (w64 ((a.length:Int)+(b.length:Int)),w64 ((1:Int)+1)))=_
   rw[show w64 ((1:Int)+1)=2 from rfl,He (n:=(a.length:Int)+(b.length:Int)) (by omega) (by omega)];rfl),Am (by
   unfold Cr
   rfl)]
 rw[h1,An];unfold g9;rw[Aa ⟨by omega,by omega⟩,An]
 have h2:Ac (Cs [a,b]) (([]:List B2),(0:Int))=some (a++b):=by
  rw[Aq (s':=(a,(1:Int))) (by
   unfold Cs
   show A0 (A1 (0:Int) 2) (A0 (0+a.length<=room) (some (LR.next ([]++a,w64 (0+1)))))=_
   rw[Aa ⟨by omega,by omega⟩,Aa (by omega)];rfl),Aq (s':=(a++b,(2:Int))) (by
   unfold Cs
   show A0 (A1 (1:Int) 2) (A0 (a.length+b.length<=room) (some (LR.next (a++b,w64 (1+1)))))=_
   rw[Aa ⟨by omega,by omega⟩,Aa (by omega)];rfl),Am (by
   unfold Cs
   rfl)]
 rw[h2];rfl
theorem jM{y:Nat}:∀ n,((List.range n).filter λb=>decide (b≠y))=if y<n then(List.range (n-1)).map (IP y) else List.range n
 | 0=>by simp
 | n+1=>by
  rw[Vg,Vd,jM n]
  by_cases h:y<n
  ·obtain⟨m,rfl⟩:∃ m,n=m+1:=⟨n-1,by omega⟩
   have e:IP y m=m+1:=by rcases up_eq y m with h|h<;>omega
   rw[if_pos h,if_pos (by omega),show m+1+1-1=m+1 by omega,show m+1-1=m by omega,Vg,Vf];simp[show ¬ m+1=y by omega,e]
  ·rw[if_neg h]
   by_cases e:n=y
   ·subst e;rw[if_pos (by omega),show n+1-1=n by omega]
    simp
    apply CJ
    ·simp
    ·intro i h1 h2;simp at h1 h2 ⊢;rcases up_eq n i with h|h<;>omega
   ·rw[if_neg (by omega)];simp[e]
section
variable {f:TFunc} {x y:Nat} {l:Int} (J:Jn f x y) (R:Ys f l) (hN:Nw f)
include J R hN
theorem okJ{v:Int->Int}{b:Nat}(hb:b<f.Blocks.length)(hby:b≠y):zZ v x y (Kf f x y b):=by
 have hs:=Bc R;have hy:=(LI J hs).1;have h64:=(shape_iff.1 hs).1.2
 have hsz:∀ c,c<f.Blocks.length->Dm (bA f c)<=512:=λc hc=>by
  have:=Ud (F:=λb=>Dm (bA f b)) hc;rw[<- Jh]at this;have:=hN.size;omega
 have hto:∀ c,c<f.Blocks.length->(bA f c).End.To.length<=1000000/\∀ z∈(bA f c).End.To,0<=z/\z<1000000:=λc hc=>by
  have ht:(bA f c).End.To.length<=2:=hN.to _ (Ag (d:=default) hc);refine⟨by omega,λz hz=>?_⟩;obtain⟨w,rfl,hw,_⟩:=FT hs hc hz;omega
 have hphi:∀ p∈(bA f b).Phis,p.From.length<=500/\p.Args.length=p.From.length/\(∀ z∈p.From,0<=z/\z<1000000)/\((Oy v x y p).map (·.1)).Nodup:=λp hp=>by
  obtain⟨q1,q2⟩:=Tf R hb hp;have:=hN.phi _ (Ag (d:=default) hb) p hp;refine⟨by omega,q2,λz hz=>?_,?_⟩
  ·rw[q1]at hz;obtain⟨w,rfl,hw,_⟩:=(Q3 hs hb).1 hz;omega
  ·rw[OK q2,q1];exact ux J hs hb hby
 have hop:∀ c,c<f.Blocks.length->∀ o∈(bA f c).Ops,o.Args.length<=1000000:=λc hc o ho=>by
  have:=hN.op _ (Ag (d:=default) hc) o ho;omega
 have h1:=hsz b hb;have h2:=hsz x J.hx;have h3:=hsz y hy;unfold Dm at h1 h2 h3;unfold Kf
 split
 ·rename_i e
  subst e
  exact⟨by show(bA f b).Phis.length<=_;omega,by show((bA f b).Ops++(bA f y).Ops).length<=_;rw[Fg];omega,hto y hy,hphi,λo ho=>by
   rcases zzL11.1 ho with h|h
   ·exact hop b hb o h
   ·exact hop y hy o h⟩
 ·exact⟨by omega,by omega,hto b hb,hphi,hop b hb⟩
theorem lE:Fb f (x:Int) (y:Int)=some (B9 f x y,(x:Int),(y:Int),HJ (bA f y).Phis):=by
 have hroom:(1000001:Nat)<=room:=by decide
 have hs:=Bc R;have hy:=(LI J hs).1;have h64:=(shape_iff.1 hs).1.2
 have hsz:∀ c,c<f.Blocks.length->Dm (bA f c)<=512:=λc hc=>by
  have:=Ud (F:=λb=>Dm (bA f b)) hc;rw[<- Jh]at this;have:=hN.size;omega
 have h2:=hsz x J.hx;have h3:=hsz y hy;unfold Dm at h2 h3
 have hv:L0 (HJ (bA f y).Phis)=vJ f y:=by
  funext v
  have:=dI J R (bA f y).Phis.length (zzL6 _) v;rw[W1]at this;exact this
 have hxl:=J.hx;unfold Fb;rw[Aa (Ai J.hx),Aa (Ai hy),oE J R (by omega),An];simp only[Ak]
 have hcc:(f.Blocks.getD x default).Ops.length+(f.Blocks.getD y default).Ops.length<=1000000:=by
  have e1:(f.Blocks.getD x default).Ops.length<=512:=by show(bA f x).Ops.length<=512;omega
  have e2:(f.Blocks.getD y default).Ops.length<=512:=by show(bA f y).Ops.length<=512;omega
  omega
 rw[oH hcc,An];have key:=De (G5 f (x:Int) (y:Int) (HJ (bA f y).Phis) ((f.Blocks.getD x default).Ops++(f.Blocks.getD y default).Ops))
  (λi=>((i:Int),((List.range i).filter λb=>decide (b≠y)).map λb=>GT (vJ f y) x y (Kf f x y b))) (B9 f x y).Blocks f.Blocks.length (λi hi=>by
   have hb:=sU (b:=Kf f x y i) (x:=x) (y:=y) (m:=HJ (bA f y).Phis) (by omega);rw[hv]at hb
   have hlen:(((List.range i).filter λb=>decide (b≠y)).map λb=>GT (vJ f y) x y (Kf f x y b)).length<=i:=by
    rw[Dn];have:=List.length_filter_le (λb=>decide (b≠y)) (List.range i);rw[S4]at this;exact this
   have hr:((List.range (i+1)).filter λb=>decide (b≠y)).map (λb=>GT (vJ f y) x y (Kf f x y b))=(((List.range i).filter λb=>decide (b≠y)).map λb=>GT (vJ f y) x y (Kf f x y b))++(if i=y then[] else[GT (vJ f y) x y (Kf f x y i)]):=by
    rw[Vg,Vd,Vf]
    congr 1
    by_cases e:i=y<;>simp[e]
   rw[hr];unfold G5;simp only[Bt hi,Ah,Aa (Ai hi),Ak,w1 (show i<4611686018427387904 by omega)]
   by_cases ex:i=x
   ·have hiy:¬ i=y:=λe=>J.ne (e▸ex);rw[show((i:Int)==(x:Int))=true by rw[zzL63];omega,Ah,if_neg hiy]
    have hB:Kf f x y i=⟨(f.Blocks.getD x default).Phis,(f.Blocks.getD x default).Ops++(f.Blocks.getD y default).Ops,⟨(f.Blocks.getD y default).End.Kind,(f.Blocks.getD y default).End.Arg,(f.Blocks.getD y default).End.To⟩⟩:=by
     unfold Kf;rw[if_pos ex]
    have hok:zZ (vJ f y) x y (Kf f x y i):=okJ J R hN hi hiy;have hb':=hb hok;rw[hB]at hb';rw[hb',An,Aa (by show _+1<=room;omega),An,<- hB]
   ·rw[show((i:Int)==(x:Int))=false by rw[zzL29];omega,Au]
    by_cases ey:i=y
    ·rw[show((i:Int)==(y:Int))=true by rw[zzL63];omega,Ah,if_pos ey,List.append_nil];rfl
    ·rw[show((i:Int)==(y:Int))=false by rw[zzL29];omega,Au,if_neg ey]
     have hB:Kf f x y i=f.Blocks.getD i default:=by unfold Kf;rw[if_neg ex]
     have hok:zZ (vJ f y) x y (Kf f x y i):=okJ J R hN hi ey;have hb':=hb hok;rw[hB]at hb'
     rw[hb',An,Aa (by show _+1<=room;omega),An,hB])
  (by
   unfold G5;simp only[Co,Au]
   rw[jM,if_pos hy,List.map_map];rfl)
 have key':Ac (G5 f (x:Int) (y:Int) (HJ (bA f y).Phis) ((f.Blocks.getD x default).Ops++(f.Blocks.getD y default).Ops)) ((0:Int),([]:List Ae))=_:=key;rw[key',An];rfl
end
def UV(f:TFunc)(i:Nat):Option (Nat×Nat):=if(bA f i).End.Kind=1/\g7 f i 0≠(i:Int)/\(prF f (g7 f i 0).toNat).length=1 then some (i,(g7 f i 0).toNat) else none
def Rl(f:TFunc):Option (Nat×Nat):=(List.range f.Blocks.length).findSome? (UV f)
def Vz:Nat->TFunc->TFunc
 | 0,f=>f
 | n+1,f=>match Rl f with|some p=>Vz n (B9 f p.1 p.2)|none=>f
theorem HE{f:TFunc}(hs:Gp f=true){i:Nat}(hi:i<f.Blocks.length)(hk:(bA f i).End.Kind=1):∃ b:Nat,(bA f i).End.To=[(b:Int)]/\b<f.Blocks.length/\0<b:=by
 have h3:Kd (bA f i).End f.Blocks.length=true:=(shape_iff.1 hs).2 i hi;unfold Kd Yy at h3;simp only[A5,Fz]at h3;have hw:=h3.1.2;rw[hk,show CC 1=1 from rfl]at hw
 have hl:(bA f i).End.To.length=1:=by omega
 generalize hT:(bA f i).End.To=T at hl
 match T,hl with
 | [z],_=>
  obtain⟨c,rfl,hc,h0,_⟩:=FT hs hi (z:=z) (by rw[hT];exact zzL16.2 rfl);exact⟨c,rfl,hc,h0⟩
theorem wS{f:TFunc}(hs:Gp f=true){i:Nat}(hi:i<f.Blocks.length){p:Nat×Nat}(h:UV f i=some p):p.1=i/\Jn f p.1 p.2:=by
 unfold UV at h
 split at h
 ·rename_i hc
  obtain rfl:=OI h;obtain⟨b,hb,hbl,_⟩:=HE hs hi hc.1
  have ht:g7 f i 0=(b:Int):=by unfold g7;rw[hb];rfl
  have hp:=hc.2.2;have hne:=hc.2.1;refine⟨rfl,?_⟩
  show Jn f i (g7 f i 0).toNat
  rw[ht,Ak]at hp ⊢;rw[ht]at hne;refine⟨hi,hc.1,hb,λe=>hne (by rw[e]),?_⟩;have hm:(i:Int)∈prF f b:=(Q3 hs hbl).2 ⟨i,rfl,hi,by unfold UE;rw[hb];exact zzL16.2 rfl⟩
  generalize prF f b=L at hp hm
  match L,hp with
  | [z],_=>rw[zzL16.1 hm]
 ·cases h
theorem cg{f:TFunc}(hs:Gp f=true){p:Nat×Nat}(h:Rl f=some p):Jn f p.1 p.2:=by
 unfold Rl at h;obtain⟨i,hi,he⟩:=List.exists_of_findSome?_eq_some h;exact(wS hs (zzL41.1 hi) he).2
theorem iz{f:TFunc}(hs:Gp f=true):Ku f=some (match Rl f with|some p=>((true,(⟨(p.1:Int),(p.2:Int),[]⟩:KY)),true)|none=>((false,default),false)):=by
 have h64:=(shape_iff.1 hs).1.2;unfold Ku;rw[yo f (by rw[Px];omega),hs,Ah,An];have hP:(J4 (Az f),(0:Int)).1.Pred=Cx (Az f):=rfl;have hlp:(Cx (Az f)).length=f.Blocks.length:=pe f;have key:=pD (X:=Unit ⊕ ((Bool×KY)×Bool)) (List.range f.Blocks.length) (0:Nat) (UV f) (λp=>.inr ((true,(⟨(p.1:Int),(p.2:Int),[]⟩:KY)),true)) (.inl ()) (Mm f (J4 (Az f),(0:Int))) (λi hi hq=>?_) (λi hi p hq=>?_) ?_
 ·rw[key,An];unfold Rl
  cases(List.range f.Blocks.length).findSome? (UV f)<;>rfl
 all_goals simp only[S4]at *
 ·rw[Ab _ _ _ (by rw[S4];exact hi),List.getElem_range]at hq;unfold Mm;simp only[Bt hi,Ah,Aa (Ai hi),Ak,hP,w1 (show i<4611686018427387904 by omega)]
  by_cases hk:(bA f i).End.Kind=1
  ·obtain⟨b,hb,hbl,hb0⟩:=HE hs hi hk
   have ht:g7 f i 0=(b:Int):=by unfold g7;rw[hb];rfl
   rw[show((f.Blocks.getD i default).End.Kind !=1)=false by show((bA f i).End.Kind !=1)=false;rw[hk];rfl,Au];rw[show(f.Blocks.getD i default).End.To=[(b:Int)] from hb];rw[Aa (show A1 (0:Int) [(b:Int)].length from⟨by omega,by show(0:Int)<((1:Nat):Int);omega⟩)];have e0:[(b:Int)].getD ((0:Int)).toNat 0=(b:Int):=rfl;rw[e0,Aa (λ_=>by rw[hlp];exact Ai hbl),Ak];unfold UV at hq;rw[ht,Ak]at hq
   have hno:¬ ((b:Int)≠(i:Int)/\(prF f b).length=1):=λhh=>by rw[if_pos ⟨hk,hh⟩]at hq;cases hq
   have e1:(bif ((b:Int)!=(i:Int)) then((((Cx (Az f)).getD b []).length:Int)==(1:Int)) else false)=false:=by
    by_cases hbi:(b:Int)=(i:Int)
    ·rw[show((b:Int)!=(i:Int))=false by simpa using hbi];rfl
    ·rw[show((b:Int)!=(i:Int))=true by simpa using hbi,Ah,zzL29];intro he;exact hno ⟨hbi,by have:(((prF f b).length:Nat):Int)=1:=he;omega⟩
   rw[e1];rfl
  ·rw[show((f.Blocks.getD i default).End.Kind !=1)=true by show((bA f i).End.Kind !=1)=true;simpa using hk];rfl
 ·rw[Ab _ _ _ (by rw[S4];exact hi),List.getElem_range]at hq;unfold Mm;simp only[Bt hi,Ah,Aa (Ai hi),Ak,hP];unfold UV at hq
  split at hq
  ·rename_i hc
   obtain rfl:=OI hq;obtain⟨b,hb,hbl,hb0⟩:=HE hs hi hc.1
   have ht:g7 f i 0=(b:Int):=by unfold g7;rw[hb];rfl
   have hc2:=hc.2.1;have hc3:=hc.2.2;rw[ht]at hc2 hc3;rw[Ak]at hc3;rw[show((f.Blocks.getD i default).End.Kind !=1)=false by show((bA f i).End.Kind !=1)=false;rw[hc.1];rfl,Au];rw[show(f.Blocks.getD i default).End.To=[(b:Int)] from hb];rw[Aa (show A1 (0:Int) [(b:Int)].length from⟨by omega,by show(0:Int)<((1:Nat):Int);omega⟩)];have e0:[(b:Int)].getD ((0:Int)).toNat 0=(b:Int):=rfl;rw[e0,Aa (λ_=>by rw[hlp];exact Ai hbl),Ak]
   have e1:(bif ((b:Int)!=(i:Int)) then((((Cx (Az f)).getD b []).length:Int)==(1:Int)) else false)=true:=by
    rw[show((b:Int)!=(i:Int))=true by simpa using hc2,Ah,zzL63]
    have:(((prF f b).length:Nat):Int)=1:=by rw[hc3];rfl
    exact this
   rw[e1,Ah,ht,Ak];rfl
  ·cases hq
 ·unfold Mm;simp only[Co,Au]
theorem OB{l:Int}:∀(n:Nat) (f:TFunc),Ys f l->Nw f->f.Blocks.length<=n->Ys (Vz n f) l/\Nw (Vz n f)/\Rl (Vz n f)=none/\(Vz n f).Blocks.length<=f.Blocks.length/\sizeN (Vz n f)<=sizeN f
 | 0,f,R,hN,hn=>by
  have:=(shape_iff.1 (Bc R)).1.1;omega
 | n+1,f,R,hN,hn=>by
  unfold Vz
  cases h:Rl f with
  | none=>exact⟨R,hN,h,zzL6 _,zzL6 _⟩
  | some p=>
   have J:=cg (Bc R) h;obtain⟨R',hN'⟩:=cq J R hN;have hl:=Om J;have hsz:=fo J R;have h1:=J.hx;obtain⟨a,b,c,d,e⟩:=OB n (B9 f p.1 p.2) R' hN' (by rw[hl];omega);exact⟨a,b,c,by show(Vz n (B9 f p.1 p.2)).Blocks.length<=_;omega,by show sizeN (Vz n (B9 f p.1 p.2))<=_;omega⟩
theorem df{l:Int}:∀(n:Nat) (f:TFunc),Ys f l->Nw f->f.Blocks.length<=n->Ac O5 (f.Params,f.Ret,f.Blocks)=some (Vz n f)
 | 0,f,R,hN,hn=>by
  have:=(shape_iff.1 (Bc R)).1.1;omega
 | n+1,f,R,hN,hn=>by
  have hs:=Bc R;unfold Vz
  cases h:Rl f with
  | none=>
   refine Am ?_;unfold O5
   show(Ku f).bind _=_
   rw[iz hs,h,An];rfl
  | some p=>
   have J:=cg hs h;obtain⟨R',hN'⟩:=cq J R hN;have h1:=J.hx
   rw[Aq (s':=((B9 f p.1 p.2).Params,(B9 f p.1 p.2).Ret,(B9 f p.1 p.2).Blocks)) (by
    unfold O5
    show(Ku f).bind _=_
    rw[iz hs,h,An]
    dsimp only
    rw[Ah,Ah]
    show(Fb f (p.1:Int) (p.2:Int)).bind _=_
    rw[lE J R hN];rfl)]
   exact df n _ R' hN' (by rw[Om J];omega)
def bE(f:TFunc):TFunc:=if Em f 2=0 then Vz f.Blocks.length f else f
theorem ZJ{f:TFunc}(h:Sm f):Lt f=some (decide (Em f 2=0)):=by
 unfold Lt;rw[sV f 2 h,An]
 by_cases e:Em f 2=0
 ·rw[e];rfl
 ·rw[C9 e,show(Em f 2==0)=false by rw[zzL29];exact e]
theorem yY{f:TFunc}(h:Sm f)(hN:Em f 2=0->Nw f):Ty f=some (bE f):=by
 unfold Ty bE;rw[ZJ h,An]
 by_cases e:Em f 2=0
 ·have R:Ys f 2:=(Yh (by omega)).1 e;have key:=df f.Blocks.length f R (hN e) (zzL6 _);have hF:((Ku f).bind λx5=>(bif x5.1.1 then(bif x5.2 then((Fb f x5.1.2.x x5.1.2.y).bind λx7=>(some (.next (x7.1.Params,x7.1.Ret,x7.1.Blocks)))) else(some (.done f))) else(bif x5.2 then((I6 f).bind λx8=>(some (.next (x8.Params,x8.Ret,x8.Blocks)))) else(some (.done f)))):Option (LR (List Int×Int×List Ae) TFunc))=O5 (f.Params,f.Ret,f.Blocks):=rfl;rw[if_pos e,Dr e,D6,Au,hF];rw[<- MD]at key;rw[key];rfl
 ·rw[if_neg e,C9 e];rfl
theorem Ja{α:Type}{p:α->Bool}{l:List α}{a:α}(h:a∈l.filter p):a∈l:=(zzL96.1 h).1
def IZ{α:Type}(p:α->Bool)(L:List α)(i:Nat):Nat:=((L.take i).filter p).length
theorem HA{α:Type}{p:α->Bool}{L:List α}{i:Nat}{d:α}(hi:i<L.length)(hp:p (L.getD i d)=true):IZ p L i<(L.filter p).length/\(L.filter p).getD (IZ p L i) d=L.getD i d:=by
 rw[Ab _ _ _ hi]at hp ⊢
 have e:L.filter p=(L.take i).filter p++L[i]::(L.drop (i+1)).filter p:=by
  have:=Bg (List.filter p) (List.take_append_drop i L);rw[Vd,SJ hi,List.filter_cons,if_pos hp]at this;exact this.symm
 unfold IZ;rw[e];refine⟨by simp,?_⟩;rw[Ab _ _ _ (by simp),List.getElem_append_right (zzL6 _)]
 simp
theorem NZ{α:Type}{p:α->Bool}{d:α}:∀{L:List α} {k:Nat},k<(L.filter p).length->∃ i,i<L.length/\p (L.getD i d)=true/\IZ p L i=k
 | [],k,h=>by simp at h
 | a::L,k,h=>by
  by_cases ha:p a=true
  ·rw[List.filter_cons,if_pos ha]at h
   cases k with
   | zero=>exact⟨0,by simp,by simpa using ha,rfl⟩
   | succ k=>
    obtain⟨i,h1,h2,h3⟩:=NZ (L:=L) (k:=k) (d:=d) (by simpa using h);refine⟨i+1,by simpa using h1,by simpa using h2,?_⟩;unfold IZ at h3 ⊢;rw[List.take_succ_cons,List.filter_cons,if_pos ha,EY,h3]
  ·rw[List.filter_cons,if_neg ha]at h;obtain⟨i,h1,h2,h3⟩:=NZ (L:=L) (k:=k) (d:=d) h;refine⟨i+1,by simpa using h1,by simpa using h2,?_⟩;unfold IZ at h3 ⊢;rw[List.take_succ_cons,List.filter_cons,if_neg ha,h3]
theorem wO{α:Type}{p:α->Bool}{L:List α}{i j:Nat}{d:α}(hj:j<L.length)(hij:i<j)(hp:p (L.getD i d)=true):IZ p L i<IZ p L j:=by
 have hi:i<(L.take j).length:=by rw[W0];omega
 have e:(L.take j).getD i d=L.getD i d:=by rw[Ab _ _ _ hi,List.getElem_take,Ab _ _ _ (by omega)]
 have:=(HA (L:=L.take j) (p:=p) (d:=d) hi (by rw[e];exact hp)).1;unfold IZ at this ⊢;rw[List.take_take,Nat.min_eq_left (by omega)]at this;exact this
def Wd(b:Ae):List Int:=b.Phis.flatMap (·.Args)++b.Ops.flatMap (·.Args)++(if b.End.Kind=0\/b.End.Kind=2 then[b.End.Arg] else[])
def H4(f:TFunc)(v:Int):Bool:=f.Blocks.any λb=>(Wd b).contains v
def FJ(kp:Ba->Bool)(ko:B2->Bool)(b:Ae):Ae:=⟨b.Phis.filter kp,b.Ops.filter ko,b.End⟩
def Qj(kp:Ba->Bool)(ko:B2->Bool)(f:TFunc):TFunc:=⟨f.Params,f.Ret,f.Blocks.map (FJ kp ko)⟩
structure Ct(f:TFunc)(kp:Ba->Bool)(ko:B2->Bool):Prop where
 phi:∀ b∈f.Blocks,∀ p∈b.Phis,H4 f p.Dst=true->kp p=true
 op:∀ b∈f.Blocks,∀ o∈b.Ops,H4 f o.Dst=true->ko o=true
section
variable {f:TFunc} {kp:Ba->Bool} {ko:B2->Bool} {l:Int}
theorem Pn:(Qj kp ko f).Blocks.length=f.Blocks.length:=Dn ..
theorem AP{i:Nat}(hi:i<f.Blocks.length):bA (Qj kp ko f) i=FJ kp ko (bA f i):=by
 show(f.Blocks.map (FJ kp ko)).getD i default=_
 exact HK hi
theorem PD(i:Nat):(bA (Qj kp ko f) i).End=(bA f i).End:=by
 by_cases hi:i<f.Blocks.length
 ·rw[AP hi];rfl
 ·have e1:bA (Qj kp ko f) i=default:=by
   show(f.Blocks.map (FJ kp ko)).getD i default=_
   rw[Wz,SL (by rw[Dn];omega)];rfl
  have e2:bA f i=default:=by
   show f.Blocks.getD i default=_
   rw[Wz,SL (by omega)];rfl
  rw[e1,e2]
theorem NU:Az (Qj kp ko f)=Az f:=by
 unfold Az;rw[Pn];refine ML λi _=>?_
 show BR (bA (Qj kp ko f) i).End.To=BR (bA f i).End.To
 rw[PD]
theorem sj:B6 (Qj kp ko f)=B6 f:=by unfold B6;rw[NU]
theorem yd(i:Nat):prF (Qj kp ko f) i=prF f i:=by unfold prF;rw[NU]
theorem ct_shapeB:Gp (Qj kp ko f)=Gp f:=by
 rw[EZ,shape_iff,shape_iff,Pn];have e:∀ i,Bl (Qj kp ko f) i=Bl f i:=λi=>PD i;simp only[e]
theorem jD:sizeN (Qj kp ko f)<=sizeN f:=by
 rw[Jh,Jh,Pn];refine jz λi hi=>?_;rw[AP hi];unfold FJ Dm;have h1:=List.length_filter_le kp (bA f i).Phis;have h2:=List.length_filter_le ko (bA f i).Ops
 show(List.filter kp (bA f i).Phis).length+(List.filter ko (bA f i).Ops).length+1<=_
 omega
theorem fb{b:Ae}(hb:b∈(Qj kp ko f).Blocks):∃ c∈f.Blocks,b=FJ kp ko c:=by
 obtain⟨c,hc,rfl⟩:=zzL20.1 hb;exact⟨c,hc,rfl⟩
theorem jE{i:Nat}(hi:i<f.Blocks.length):(UH (bA (Qj kp ko f) i)).Sublist (UH (bA f i)):=by
 rw[AP hi];unfold UH;refine List.Sublist.append ?_ ?_
 ·exact(List.filter_sublist).map _
 ·unfold ZN;exact((List.filter_sublist (l:=(bA f i).Ops) (p:=ko)).filter _).map _
section
variable (R:Ys f l)
include R
theorem qJ{w:Cm}(hw:w∈Bf f):H4 f w.V=true:=by
 obtain⟨i,hi,h⟩:=(H0 (G7 R)).1 hw;unfold H4;rw[List.any_eq_true];refine⟨bA f i,Ag hi,?_⟩;rw[zzL60];unfold Wd;rcases h with⟨k,j,hk,hj,e⟩|⟨k,j,hk,hj,e⟩|⟨hK,e⟩|⟨hK,e⟩<;>rw[e]
 ·exact zzL11.2 (.inl (zzL11.2 (.inl (zzL48.2 ⟨_,Ag (d:=default) hk,Ag (d:=0) hj⟩))))
 ·exact zzL11.2 (.inl (zzL11.2 (.inr (zzL48.2 ⟨_,Ag (d:=default) hk,Ag (d:=0) hj⟩))))
 ·exact zzL11.2 (.inr (by rw[if_pos (.inl hK)];exact zzL16.2 rfl))
 ·exact zzL11.2 (.inr (by rw[if_pos (.inr hK)];exact zzL16.2 rfl))
theorem oS(hsz:sizeN f<=512):Qz (Qj kp ko f)=true:=by
 obtain⟨⟨m1,m2⟩,m3,m4,m5,m6,m7⟩:=mayF_iff.1 R.may;refine mayF_iff.2 ⟨by rw[Pn];exact⟨m1,m2⟩,m3,m4,m5,?_,λb hb=>?_⟩
 ·have:=jD (f:=f) (kp:=kp) (ko:=ko);unfold sizeW;rw[Yn (by omega)];omega
 ·obtain⟨c,hc,rfl⟩:=fb hb;obtain⟨h1,h2,h3⟩:=blockB_iff.1 (m7 c hc);exact blockB_iff.2 ⟨λp hp=>h1 p (Ja hp),λo ho=>h2 o (Ja ho),h3⟩
theorem oT:N7 (Qj kp ko f) l=true:=by
 have h:=R.typed;simp only[N7,F2,A5,zzL27]at h ⊢;obtain⟨⟨t1,t2⟩,t3⟩:=h;refine⟨⟨t1,λb hb=>?_⟩,t3⟩;obtain⟨c,hc,rfl⟩:=fb hb;exact⟨λp hp=>(t2 c hc).1 p (Ja hp),λo ho=>(t2 c hc).2 o (Ja ho)⟩
theorem lI:Fd (Qj kp ko f)=true:=by
 have hs:=Bc R;refine ME (by rw[ct_shapeB];exact hs) λb hb=>?_;rw[Pn]at hb;obtain⟨r1,r2⟩:=Wr R hb;refine⟨by rw[NU];exact r1,by rw[PD];exact r2,λp hp=>?_⟩;rw[AP hb]at hp;obtain⟨q1,q2⟩:=Tf R hb (Ja hp);exact⟨by rw[yd];exact q1,q2⟩
variable (C:Ct f kp ko)
include C
theorem wP{d:Bx}(hd:d∈Aw f)(hu:H4 f d.V=true):∃ e∈Aw (Qj kp ko f),e.V=d.V/\e.Shape=d.Shape/\e.Block=d.Block /\
  (d.Block<0\/(∃ i,i<f.Blocks.length/\d.Block=(i:Int)/\((d.At = -1/\e.At = -1)\/∃ k,k<(bA f i).Ops.length/\d.At=(k:Int)/\ko ((bA f i).Ops.getD k default)=true/\e.At=((IZ ko (bA f i).Ops k:Nat):Int)))):=by
 rcases ri_def.1 hd with⟨j,hj,e⟩|⟨i,hi,⟨k,hk,e⟩|⟨k,hk,hg,e⟩⟩
 ·exact⟨d,ri_def.2 (.inl ⟨j,hj,e⟩),rfl,rfl,rfl,.inl (by rw[e];show(-1:Int)<0;omega)⟩
 ·have hp:=Ag (d:=(default:Ba)) hk;have hkp:kp ((bA f i).Phis.getD k default)=true:=C.phi _ (Ag (d:=default) hi) _ hp (by rw[e]at hu;exact hu);obtain⟨h1,h2⟩:=HA hk hkp;have hat:=AP (kp:=kp) (ko:=ko) hi
  have hP:(bA (Qj kp ko f) i).Phis=(bA f i).Phis.filter kp:=by rw[hat];rfl
  refine⟨_,ri_def.2 (.inr ⟨i,by rw[Pn];exact hi,.inl ⟨IZ kp (bA f i).Phis k,by rw[hP];exact h1,rfl⟩⟩),?_,?_,?_,.inr ⟨i,hi,by rw[e],.inl ⟨by rw[e],rfl⟩⟩⟩
  ·rw[hP,h2,e]
  ·rw[hP,h2,e]
  ·rw[e]
 ·have ho:=Ag (d:=(default:B2)) hk;have hko:ko ((bA f i).Ops.getD k default)=true:=C.op _ (Ag (d:=default) hi) _ ho (by rw[e]at hu;exact hu);obtain⟨h1,h2⟩:=HA hk hko;have hat:=AP (kp:=kp) (ko:=ko) hi
  have hO:(bA (Qj kp ko f) i).Ops=(bA f i).Ops.filter ko:=by rw[hat];rfl
  refine⟨_,ri_def.2 (.inr ⟨i,by rw[Pn];exact hi,.inr ⟨IZ ko (bA f i).Ops k,by rw[hO];exact h1,by rw[hO,h2];exact hg,rfl⟩⟩),?_,?_,?_,.inr ⟨i,hi,by rw[e],.inr ⟨k,hk,by rw[e],hko,rfl⟩⟩⟩
  ·rw[hO,h2,e]
  ·rw[hO,h2,e]
  ·rw[e]
theorem lJ(hsz:sizeN f<=512)(hok:OkF (Qj kp ko f)):Ys (Qj kp ko f) l:=by
 have hgt:=oT (kp:=kp) (ko:=ko) R
 have hgm:∀ b∈(Qj kp ko f).Blocks,∀ o∈b.Ops,Gs o=true:=λb hb o ho=>by
  simp only[N7,F2,A5,zzL27]at hgt;exact DU ((hgt.1.2 b hb).2 o ho)
 obtain⟨N1,N2,N3⟩:=(nodup_split f).1 (Xi (DR R).1)
 have hcap:∀{d:Bx},d∈Aw (Qj kp ko f)->d.At<1000:=λ{d} hd=>by
  rcases defs_in hok d hd with h3|⟨_,_,h3⟩
  ·rcases ri_def.1 hd with⟨i,_,e⟩|⟨i,_,⟨k,_,e⟩|⟨k,_,_,e⟩⟩
   ·rw[e];show(0:Int)<1000;omega
   ·rw[e]at h3;have:(i:Int) = -1:=h3;omega
   ·rw[e]at h3;have:(i:Int) = -1:=h3;omega
  ·exact h3
 have key:∀{w:Cm} {i:Nat} {a:Int},w∈Bf f->i<f.Blocks.length->w.Block=(i:Int)->(w.At=1000/\a=1000\/∃ k,k<(bA f i).Ops.length/\w.At=(k:Int)/\a=((IZ ko (bA f i).Ops k:Nat):Int))->
   ∃ d∈Aw (Qj kp ko f),d.V=w.V/\d.Shape=w.Shape/\kw (Qj kp ko f) d (i:Int) a:=λ{w i a} hw hi hb ha=>by
  obtain⟨d,hd,hv,hsh,ht⟩:=JW R hw;obtain⟨e,he,e1,e2,e3,e4⟩:=wP R C hd (by rw[hv];exact qJ R hw);refine⟨e,he,by rw[e1,hv],by rw[e2,hsh],?_⟩;rw[hb]at ht;rcases ht with h|⟨h1,h2⟩|⟨h1,h2⟩
  ·exact .inl (by rw[e3];exact h)
  ·refine .inr (.inl ⟨by rw[e3];exact h1,?_⟩);rcases ha with⟨_,rfl⟩|⟨k,hk,hwk,rfl⟩
   ·exact hcap he
   ·rcases e4 with h4|⟨j,hj,hjb,⟨hq1,hq2⟩|⟨q,hq,hq1,hq2,hq3⟩⟩
    ·omega
    ·rw[hq2];omega
    ·have:j=i:=by omega
     subst this;rw[hq3];have:=wO (p:=ko) (d:=(default:B2)) hk (show q<k by omega) hq2;omega
  ·refine .inr (.inr ⟨by rw[e3];exact h1,?_⟩);rw[e3,sj];exact h2
 refine⟨oS R hsz,lI R,hgt,RR ((nodup_split _).2 ⟨λk hk=>?_,λk m hk hm hne v hv hw=>?_,λi hi k hk hv=>?_⟩) (λd hd=>?_) (λu hu=>?_)⟩
 ·rw[Pn]at hk;exact(N1 k hk).sublist (jE hk)
 ·rw[Pn]at hk hm;exact N2 k m hk hm hne v ((jE hk).subset hv) ((jE hm).subset hw)
 ·rw[Pn]at hk;exact N3 i hi k hk ((jE hk).subset hv)
 ·rcases ri_def.1 hd with⟨i,hi,e⟩|⟨k,hk,⟨j,hj,e⟩|⟨j,hj,hg,e⟩⟩
  ·rw[e];exact V1 R (d:=⟨(i:Int)+1,-1,0,(f.Params.getD i 0,1)⟩) (ri_def.2 (.inl ⟨i,hi,rfl⟩))
  ·rw[Pn]at hk;rw[e];have hm:=Ag (d:=(default:Ba)) hj;rw[AP hk]at hm;obtain⟨q,hq,eq⟩:=Gr (Ja hm);have:=V1 R (d:=⟨((bA f k).Phis.getD q default).Dst,k,-1,(((bA f k).Phis.getD q default).Bits,1)⟩) (ri_def.2 (.inr ⟨k,hk,.inl ⟨q,hq,rfl⟩⟩));rw[Ab _ _ _ hq,eq]at this;rw[AP hk];exact this
  ·rw[e];exact WN (hgm _ (Ag (d:=default) hk) _ (Ag (d:=default) hj)) hg
 ·obtain⟨k,hk,hcase⟩:=(H0 hgm).1 hu;rw[Pn]at hk;have hs:=Bc R;rw[PD,AP hk]at hcase;rcases hcase with⟨q,j,hq,hj,e⟩|⟨q,j,hq,hj,e⟩|⟨hK,e⟩|⟨hK,e⟩
  ·obtain⟨i,hi,hp,hc⟩:=NZ (d:=(default:Ba)) hq;have h2:=(HA hi hp).2;rw[hc]at h2;have h2':(FJ kp ko (bA f k)).Phis.getD q default=(bA f k).Phis.getD i default:=h2;rw[h2']at e hj;have hw:=(H0 (G7 R) (f:=f)).2 ⟨k,hk,.inl ⟨i,j,hi,hj,rfl⟩⟩;obtain⟨q1,q2⟩:=Tf R hk (Ag (d:=(default:Ba)) hi);obtain⟨c,ec,hc,_⟩:=(Q3 hs hk).1 (show((bA f k).Phis.getD i default).From.getD j 0∈prF f k by rw[<- q1];exact Ag (by omega));obtain⟨d,m1,m2,m3,m4⟩:=key hw hc ec (.inl ⟨rfl,rfl⟩);rw[e];exact⟨d,m1,m2,m3,by show kw _ d (((bA f k).Phis.getD i default).From.getD j 0) 1000;rw[ec];exact m4⟩
  ·obtain⟨i,hi,hp,hc⟩:=NZ (d:=(default:B2)) hq;have h2:=(HA hi hp).2;rw[hc]at h2;have h2':(FJ kp ko (bA f k)).Ops.getD q default=(bA f k).Ops.getD i default:=h2;rw[h2']at e hj;have hw:=(H0 (G7 R) (f:=f)).2 ⟨k,hk,.inr (.inl ⟨i,j,hi,hj,rfl⟩)⟩;obtain⟨d,m1,m2,m3,m4⟩:=key hw hk rfl (.inr ⟨i,hi,rfl,rfl⟩);rw[e];exact⟨d,m1,m2,m3,by rw[hc]at m4;exact m4⟩
  ·have hw:=(H0 (G7 R) (f:=f)).2 ⟨k,hk,.inr (.inr (.inl ⟨hK,rfl⟩))⟩;obtain⟨d,m1,m2,m3,m4⟩:=key hw hk rfl (.inl ⟨rfl,rfl⟩);rw[e];exact⟨d,m1,m2,m3,m4⟩
  ·have hw:=(H0 (G7 R) (f:=f)).2 ⟨k,hk,.inr (.inr (.inr ⟨hK,rfl⟩))⟩;obtain⟨d,m1,m2,m3,m4⟩:=key hw hk rfl (.inl ⟨rfl,rfl⟩);rw[e];exact⟨d,m1,m2,m3,m4⟩
end
theorem yc(hN:Nw f):Nw (Qj kp ko f):=by
 have hsz:=jD (f:=f) (kp:=kp) (ko:=ko);refine⟨⟨hN.inf.params,by rw[Pn];exact hN.inf.blocks,λb hb=>?_,λb hb p hp=>?_,λb hb o ho=>?_⟩,hN.params,λb hb=>?_,λb hb p hp=>?_,λb hb o ho=>?_,by have:=hN.size;omega⟩<;>obtain⟨c,hc,rfl⟩:=fb hb
 ·obtain⟨h1,h2,h3⟩:=hN.inf.block c hc;exact⟨P5 (List.length_filter_le ..) h1,P5 (List.length_filter_le ..) h2,h3⟩
 ·exact hN.inf.phi c hc p (Ja hp)
 ·exact hN.inf.op c hc o (Ja ho)
 ·exact hN.to c hc
 ·exact hN.phi c hc p (Ja hp)
 ·exact hN.op c hc o (Ja ho)
theorem jF(R:Ys f l)(C:Ct f kp ko)(hN:Nw f):Ys (Qj kp ko f) l/\Nw (Qj kp ko f):=
 have hn:=yc (kp:=kp) (ko:=ko) hN
 ⟨lJ R C hN.size (jt (jd hn) (oS R hN.size)),hn⟩
end
def O1(u:Int->Bool)(p:Ba):Bool:=u p.Dst
def Nk(u:Int->Bool)(o:B2):Bool:=!LX o.Kind || u o.Dst
def Qk(f:TFunc):TFunc:=Qj (O1 (H4 f)) (Nk (H4 f)) f
theorem jH(f:TFunc):Ct f (O1 (H4 f)) (Nk (H4 f)):=⟨λ_ _ _ _ h=>h,λ_ _ _ _ h=>by unfold Nk;rw[h,Bool.or_true]⟩
def Ur:Nat->TFunc->TFunc
 | 0,f=>f
 | n+1,f=>if sizeN (Qk f)<sizeN f then Ur n (Qk f) else f
theorem PE{l:Int}:∀(n:Nat) (f:TFunc),Ys f l->Nw f->sizeN f<=n->Ys (Ur n f) l/\Nw (Ur n f)/\sizeN (Ur n f)<=sizeN (Qk (Ur n f))/\(Ur n f).Blocks.length=f.Blocks.length/\sizeN (Ur n f)<=sizeN f/\Az (Ur n f)=Az f/\∀ i,(bA (Ur n f) i).End=(bA f i).End
 | 0,f,R,hN,hn=>⟨R,hN,by show sizeN f<=_;omega,rfl,zzL6 _,rfl,λ_=>rfl⟩
 | n+1,f,R,hN,hn=>by
  unfold Ur
  split
  ·rename_i h
   obtain⟨R',hN'⟩:=jF R (jH f) hN;obtain⟨a,b,c,d,e,g,i⟩:=PE n (Qk f) R' hN' (by omega);exact⟨a,b,c,d.trans Pn,by omega,g.trans NU,λk=>(i k).trans (PD k)⟩
  ·exact⟨R,hN,by omega,rfl,zzL6 _,rfl,λ_=>rfl⟩
theorem mE(n v:Nat):(List.replicate n false).getD v false=false:=by
 rw[Wz]
 by_cases h:v<n
 ·rw[P4 (by rw[N9];exact h),List.getElem_replicate];rfl
 ·rw[SL (by rw[N9];omega)];rfl
def EM(L:List Int)(M:List Bool):List Bool:=L.foldl (λM a=>M.set a.toNat true) M
theorem U1:∀(L:List Int) (M:List Bool),(EM L M).length=M.length
 | [],M=>rfl
 | a::L,M=>by unfold EM;rw[IH];exact(U1 L _).trans (C8 ..)
theorem aj(L K:List Int)(M:List Bool):EM (L++K) M=EM K (EM L M):=by unfold EM;rw[List.foldl_append]
theorem QM{α:Type}(F:α->List Int):∀(l:List α) (M:List Bool),EM (l.flatMap F) M=l.foldl (λs x=>EM (F x) s) M
 | [],M=>rfl
 | a::l,M=>by rw[MM,aj,IH,QM F l]
theorem ja:∀(L:List Int) (M:List Bool) {v:Nat},v<M.length->(EM L M).getD v false=(M.getD v false || L.any λa=>a.toNat==v)
 | [],M,v,h=>by simp[EM]
 | a::L,M,v,h=>by
  have e:EM (a::L) M=EM L (M.set a.toNat true):=rfl;rw[e,ja L _ (by rw[C8];exact h),List.any_cons]
  by_cases ha:a.toNat=v
  ·subst ha;rw[show(M.set a.toNat true).getD a.toNat false=true by rw[Wz,List.getElem?_set_self h];rfl]
   simp
  ·rw[show(M.set a.toNat true).getD v false=M.getD v false by simp only[Wz];rw[List.getElem?_set_ne ha]];rw[show(a.toNat==v)=false by simpa using ha,SQ]
theorem OY{L:List Int}{M:List Bool}(hl:L.length<4611686018427387904)(h:∀ a∈L,0<=a/\a<1024)(hM:M.length=1024):Jj L M=some (EM L M):=by
 unfold Jj
 have key:=DL L (0:Int) (λi (s:List Bool)=>((i:Int),s)) (λ_ s=>s.length=1024) (λs a=>s.set a.toNat true) id (Kw L) (λi s hi hP=>by
  obtain⟨h0,h1⟩:=h _ (Ag (d:=(0:Int)) hi);unfold Kw;simp only[Bt hi,Ah,Aa (Ai hi),Ak,w1 (show i<4611686018427387904 by omega)];rw[Aa (show A1 (L.getD i 0) s.length from⟨h0,by omega⟩)]
  exact⟨rfl,by rw[C8];exact hP⟩) (λs _=>by unfold Kw;simp only[Co,Au];rfl) M hM
 have k1:Ac (Kw L) ((0:Int),M)=_:=key.1;rw[k1];rfl
section
variable {f:TFunc} {l:Int} (R:Ys f l)
include R
theorem sL{i:Nat}(hi:i<f.Blocks.length){a:Int}(ha:a∈Wd (bA f i)):∃ w∈Bf f,w.V=a:=by
 unfold Wd at ha;rcases zzL11.1 ha with h|h
 ·rcases zzL11.1 h with h|h
  ·obtain⟨p,hp,h⟩:=zzL48.1 h;obtain⟨k,hk,rfl⟩:=Gr hp;obtain⟨j,hj,rfl⟩:=Gr h;refine⟨_,(H0 (G7 R)).2 ⟨i,hi,.inl ⟨k,j,hk,by rw[Ab _ _ _ hk];exact hj,rfl⟩⟩,?_⟩
   show((bA f i).Phis.getD k default).Args.getD j 0=_
   rw[Ab _ _ _ hk,Ab _ _ _ hj]
  ·obtain⟨p,hp,h⟩:=zzL48.1 h;obtain⟨k,hk,rfl⟩:=Gr hp;obtain⟨j,hj,rfl⟩:=Gr h;refine⟨_,(H0 (G7 R)).2 ⟨i,hi,.inr (.inl ⟨k,j,hk,by rw[Ab _ _ _ hk];exact hj,rfl⟩)⟩,?_⟩
   show((bA f i).Ops.getD k default).Args.getD j 0=_
   rw[Ab _ _ _ hk,Ab _ _ _ hj]
 ·split at h
  ·rename_i hK
   rw[zzL16.1 h];rcases hK with hK|hK
   ·exact⟨_,(H0 (G7 R)).2 ⟨i,hi,.inr (.inr (.inl ⟨hK,rfl⟩))⟩,rfl⟩
   ·exact⟨_,(H0 (G7 R)).2 ⟨i,hi,.inr (.inr (.inr ⟨hK,rfl⟩))⟩,rfl⟩
  ·cases h
theorem iq{i:Nat}(hi:i<f.Blocks.length){a:Int}(ha:a∈Wd (bA f i)):1<=a/\a<=1023:=by
 obtain⟨w,hw,rfl⟩:=sL R hi ha;obtain⟨d,hd,e,_⟩:=JW R hw;have:=V1 R hd;rw[e]at this;unfold valS at this
 simpa using this
def T0(f:TFunc):List Bool:=f.Blocks.foldl (λs b=>EM (Wd b) s) (List.replicate 1024 false)
theorem ZI(hN:Nw f):Kv f=some (T0 f)/\(T0 f).length=1024:=by
 have hroom:(1000001:Nat)<=room:=by decide
 have h64:=(shape_iff.1 (Bc R)).1.2
 have hsz:∀ c,c<f.Blocks.length->Dm (bA f c)<=512:=λc hc=>by
  have:=Ud (F:=λb=>Dm (bA f b)) hc;rw[<- Jh]at this;have:=hN.size;omega
 unfold Kv
 have key:=DL f.Blocks (default:Ae) (λi (s:List Bool)=>((i:Int),s)) (λ_ s=>s.length=1024) (λs b=>EM (Wd b) s) id (Mp f) (λi s hi hP=>by
  have hav:=λa ha=>iq R hi (a:=a) ha;have hz:=hsz i hi;unfold Dm at hz
  have hph:∀ p∈(bA f i).Phis,(∀ a∈p.Args,0<=a/\a<1024)/\p.Args.length<4611686018427387904:=λp hp=>⟨λa ha=>by
   have:=hav a (zzL11.2 (.inl (zzL11.2 (.inl (zzL48.2 ⟨p,hp,ha⟩)))))
   omega,by have:=hN.phi _ (Ag (d:=default) hi) p hp;omega⟩
  have hop:∀ p∈(bA f i).Ops,(∀ a∈p.Args,0<=a/\a<1024)/\p.Args.length<4611686018427387904:=λp hp=>⟨λa ha=>by
   have:=hav a (zzL11.2 (.inl (zzL11.2 (.inr (zzL48.2 ⟨p,hp,ha⟩)))))
   omega,by have:=hN.op _ (Ag (d:=default) hi) p hp;omega⟩
  have k1:=DL (bA f i).Phis (default:Ba) (λi (s:List Bool)=>((i:Int),s)) (λ_ s=>s.length=1024) (λs p=>EM p.Args s) id (Mn f (i:Int)) (λk s hk hP=>by
   obtain⟨q1,q2⟩:=hph _ (Ag (d:=(default:Ba)) hk);unfold Mn;simp only[Ak];rw[Bt hk,Ah,Aa (Ai hk),OY q2 q1 hP,An,Aa (U1 _ _).symm,w1 (show k<4611686018427387904 by omega)]
   exact⟨rfl,by rw[U1];exact hP⟩) (λs _=>by unfold Mn;simp only[Ak];rw[Co];rfl) s hP
  have k1':Ac (Mn f (i:Int)) ((0:Int),s)=some ((bA f i).Phis.foldl (λs p=>EM p.Args s) s):=k1.1
  have k2:=DL (bA f i).Ops (default:B2) (λi (s:List Bool)=>((i:Int),s)) (λ_ s=>s.length=1024) (λs p=>EM p.Args s) id (Mo f (i:Int)) (λk s hk hP=>by
   obtain⟨q1,q2⟩:=hop _ (Ag (d:=(default:B2)) hk);unfold Mo;simp only[Ak];rw[Bt hk,Ah,Aa (Ai hk),OY q2 q1 hP,An,Aa (U1 _ _).symm,w1 (show k<4611686018427387904 by omega)]
   exact⟨rfl,by rw[U1];exact hP⟩) (λs _=>by unfold Mo;simp only[Ak];rw[Co];rfl) ((bA f i).Phis.foldl (λs p=>EM p.Args s) s) k1.2
  have k2':Ac (Mo f (i:Int)) ((0:Int),(bA f i).Phis.foldl (λs p=>EM p.Args s) s)=some ((bA f i).Ops.foldl (λs p=>EM p.Args s) ((bA f i).Phis.foldl (λs p=>EM p.Args s) s)):=k2.1;have k3:=k2.2
  have hfin:EM (Wd (bA f i)) s=EM (if(bA f i).End.Kind=0\/(bA f i).End.Kind=2 then[(bA f i).End.Arg] else[]) ((bA f i).Ops.foldl (λs p=>EM p.Args s) ((bA f i).Phis.foldl (λs p=>EM p.Args s) s)):=by
   unfold Wd;rw[aj,aj,QM,QM]
  unfold Mp;simp only[Bt hi,Ah,Aa (Ai hi),Ak,w1 (show i<4611686018427387904 by omega)];rw[k1',An,k2',An]
  generalize hY:(bA f i).Ops.foldl (λs p=>EM p.Args s) ((bA f i).Phis.foldl (λs p=>EM p.Args s) s)=Y at *
  have hYl:Y.length=1024:=k3;have hg:EM (Wd (f.Blocks.getD i default)) s=EM (if(bA f i).End.Kind=0\/(bA f i).End.Kind=2 then[(bA f i).End.Arg] else[]) Y:=hfin;rw[hg]
  by_cases hK:(bA f i).End.Kind=0\/(bA f i).End.Kind=2
  ·have hb:(bif ((f.Blocks.getD i default).End.Kind==0) then true else((f.Blocks.getD i default).End.Kind==2))=true:=by
    rcases hK with h|h
    ·rw[show((f.Blocks.getD i default).End.Kind==0)=true from zzL63.2 h];rfl
    ·rw[show((f.Blocks.getD i default).End.Kind==2)=true from zzL63.2 h];cases((f.Blocks.getD i default).End.Kind==0)<;>rfl
   have ha:=hav (bA f i).End.Arg (zzL11.2 (.inr (by rw[if_pos hK];exact zzL16.2 rfl)));have hc1:=OY (L:=[(bA f i).End.Arg]) (M:=Y) (by show(1:Nat)<_;omega) (λa h=>by rw[zzL16.1 h];omega) hYl;have hc1':Jj [(f.Blocks.getD i default).End.Arg] Y=some (EM [(bA f i).End.Arg] Y):=hc1;rw[hb,Ah,hc1',An,Aa (U1 _ _).symm,if_pos hK];exact⟨rfl,by rw[U1];exact hYl⟩
  ·have hb:(bif ((f.Blocks.getD i default).End.Kind==0) then true else((f.Blocks.getD i default).End.Kind==2))=false:=by
    rw[show((f.Blocks.getD i default).End.Kind==0)=false from zzL29.2 (λh=>hK (.inl h)),Au];exact zzL29.2 (λh=>hK (.inr h))
   rw[hb,Au,if_neg hK]
   exact⟨rfl,hYl⟩) (λs _=>by unfold Mp;simp only[Co,Au];rfl) (List.replicate 1024 false) (by simp)
 have k0:Ac (Mp f) ((0:Int),List.replicate ((1024:Int)).toNat false)=_:=key.1;rw[Aa ⟨by omega,by omega,by omega⟩,k0,An];exact⟨rfl,key.2⟩
theorem QO{v:Int}(h0:0<=v)(h1:v<1024):(T0 f).getD v.toNat false=H4 f v:=by
 have key:∀(L:List Ae) (M:List Bool),v.toNat<M.length->(∀ b∈L,∀ a∈Wd b,0<=a)->(L.foldl (λs b=>EM (Wd b) s) M).getD v.toNat false=(M.getD v.toNat false || L.any λb=>(Wd b).contains v):=by
  intro L
  induction L with
  | nil=>intro M h _;simp
  | cons b L ih=>
   intro M h hb;rw[IH,ih _ (by rw[U1];exact h) (λc hc=>hb c (by simp[hc])),ja _ _ h,List.any_cons,Bool.or_assoc]
   congr 2
   rw[EZ,List.any_eq_true,zzL60]
   constructor
   ·rintro⟨a,ha,he⟩;have:=hb b (by simp) a ha
    have he:a.toNat=v.toNat:=by simpa using he
    rw[show v=a by omega];exact ha
   ·intro h;exact⟨v,h,by simp⟩
 unfold T0 H4
 rw[key f.Blocks _ (by rw[N9];omega) (λb hb a ha=>by
  obtain⟨i,hi,rfl⟩:=Gr hb;have:=iq R hi (a:=a) (by rw[show bA f i=f.Blocks[i] from Ab _ _ _ hi];exact ha)
  omega)]
 rw[mE,SQ]
end
theorem idx_loop{α:Type}{s:List α}{d:α}{keep:α->Bool}{F:Int->Option (LR Int (Unit ⊕ Int))}(hn:∀ i,i<s.length->F (i:Int)=some (bif keep (s.getD i d) then .next (((i+1:Nat):Int)) else .done (.inr (i:Int))))
  (he:F (s.length:Int)=some (.done (.inl ()))):(∃ i,i<s.length/\Ac F (0:Int)=some (.inr (i:Int))/\keep (s.getD i d)=false/\∀ j,j<i->keep (s.getD j d)=true)\/(Ac F (0:Int)=some (.inl ())/\∀ j,j<s.length->keep (s.getD j d)=true):=by
 have key:∀ k i:Nat,i+k=s.length->(∀ j,j<i->keep (s.getD j d)=true)->(∃ m,m<s.length/\Ac F (i:Int)=some (.inr (m:Int))/\keep (s.getD m d)=false/\∀ j,j<m->keep (s.getD j d)=true)\/(Ac F (i:Int)=some (.inl ())/\∀ j,j<s.length->keep (s.getD j d)=true):=by
  intro k
  induction k with
  | zero=>
   intro i h hj
   obtain rfl:i=s.length:=by omega
   exact .inr ⟨Am he,hj⟩
  | succ k ih=>
   intro i h hj
   have hi:i<s.length:=by omega
   have h1:=hn i hi
   cases hk:keep (s.getD i d) with
   | true=>
    rw[hk,Ah]at h1;rw[Aq h1]
    exact ih (i+1) (by omega) λj hji=>by
     by_cases e:j=i
     ·rw[e];exact hk
     ·exact hj j (by omega)
   | false=>
    rw[hk,Au]at h1;exact .inl ⟨i,hi,Am h1,hk,hj⟩
 exact key s.length 0 (by omega) (λj h=>by omega)
theorem GW{α:Type}{s:List α}{d:α}{keep:α->Bool}{F:Int×Int×List α->Option (LR (Int×Int×List α) (Int×List α))}
  (hn:∀(a i:Nat) (l:List α),i<l.length->a<=i->l.length=s.length->l.getD i d∈s->F ((a:Int),(i:Int),l)=some (.next (bif keep (l.getD i d) then((((a+1:Nat):Int)),(((i+1:Nat):Int)),l.set a (l.getD i d)) else((a:Int),(((i+1:Nat):Int)),l))))
  (he:∀(a:Nat) (l:List α),F ((a:Int),(l.length:Int),l)=some (.done ((a:Int),l))):∀(k a i:Nat) (l:List α),i+k=s.length->a<=i->l.length=s.length->l.drop i=s.drop i->l.take a=(s.take i).filter keep->
   ∃(a':Nat) (l':List α),Ac F ((a:Int),(i:Int),l)=some ((a':Int),l')/\l'.length=s.length/\a'<=s.length/\l'.take a'=s.filter keep
 | 0,a,i,l,h,ha,hl,hd,ht=>by
  obtain rfl:i=l.length:=by omega
  refine⟨a,l,Am (he a l),hl,by omega,?_⟩;rw[ht,hl,W1]
 | k+1,a,i,l,h,ha,hl,hd,ht=>by
  have hi:i<l.length:=by omega
  have his:i<s.length:=by omega
  have e1:l.getD i d=s.getD i d:=by
   have h1:(l.drop i)[0]?=(s.drop i)[0]?:=by rw[hd]
   rw[IF,IF,Na]at h1;simp only[Wz,h1]
  have hm:l.getD i d∈s:=by rw[e1];exact Ag his
  have h1:=hn a i l hi ha hl hm
  have hst:(s.take (i+1)).filter keep=(s.take i).filter keep++(if keep (l.getD i d)=true then[l.getD i d] else[]):=by
   rw[List.take_add_one,P4 his,Vd,e1,Ab _ _ _ his]
   congr 1
   by_cases hk:keep s[i]=true<;>simp[hk]
  have hdd:∀ m:List α,m.drop i=l.drop i->m.drop (i+1)=s.drop (i+1):=λm hm=>by
   have:=Bg (List.drop 1) (hm.trans hd);rwa[List.drop_drop,List.drop_drop]at this
  cases hk:keep (l.getD i d) with
  | true=>
   rw[hk,Ah]at h1;rw[Aq h1];refine GW hn he k (a+1) (i+1) _ (by omega) (by omega) (by rw[C8];exact hl) ?_ ?_
   ·have:=hdd l rfl;rw[<- this]
    apply List.ext_getElem?
    intro n;rw[IF,IF,List.getElem?_set_ne (by omega)]
   ·rw[hst,hk,if_pos rfl,<- ht,List.take_add_one,List.take_set_of_le (zzL6 _),List.getElem?_set_self (by omega)]
    rfl
  | false=>
   rw[hk,Au]at h1;rw[Aq h1];refine GW hn he k a (i+1) l (by omega) (by omega) hl (hdd l rfl) ?_;rw[hst,hk,if_neg (by simp),List.append_nil];exact ht
theorem cV{α:Type}(l:List α)(a k:Nat)(g:Nat->α):(NT l a k g).take a=l.take a:=by
 apply List.ext_getElem?
 intro n;rw[SN,SN]
 split
 ·rename_i h
  unfold NT;rw[List.getElem?_mapIdx]
  cases l[n]? with
  | none=>rfl
  | some x=>simp;omega
 ·rfl
theorem sY{p:Ba}{M:List Bool}{u:Int->Bool}(hM:M.length=1024)(h:0<=p.Dst/\p.Dst<1024)(hu:M.getD p.Dst.toNat false=u p.Dst):Jf p M=some (!O1 u p):=by
 unfold Jf O1;rw[Aa (show A1 p.Dst M.length from⟨h.1,by omega⟩),hu]
theorem sZ{p:B2}{M:List Bool}{u:Int->Bool}(hM:M.length=1024)(h:0<=p.Dst/\p.Dst<1024)(hu:M.getD p.Dst.toNat false=u p.Dst):Jg p M=some (!Nk u p):=by
 unfold Jg Nk;rw[lP,An,Aa (λ_=>(show A1 p.Dst M.length from⟨h.1,by omega⟩)),hu]
 cases LX p.Kind<;>cases u p.Dst<;>rfl
theorem wD{s:List Ba}{M:List Bool}{u:Int->Bool}(hs:s.length<=1000000)(hM:M.length=1024)(h:∀ p∈s,(0<=p.Dst/\p.Dst<1024)/\M.getD p.Dst.toNat false=u p.Dst) :
  ∃ k L,Dk s M=some (k,L)/\L.length=s.length/\k<=s.length/\L.take k=s.filter (O1 u):=by
 have hck:∀ p∈s,Jf p M=some (!O1 u p):=λp hp=>sY hM (h p hp).1 (h p hp).2;unfold Dk F4
 rcases idx_loop (s:=s) (d:=(default:Ba)) (keep:=O1 u) (F:=C4 s M) (λi hi=>by
   unfold C4;simp only[Bt hi,Ah,Aa (Ai hi),Ak,hck _ (Ag hi),An,w1 (show i<4611686018427387904 by omega)]
   cases O1 u (s.getD i default)<;>rfl) (by unfold C4;simp only[Co,Au]) with⟨i,hi,hl,hno,hyes⟩|⟨hl,hall⟩
 ·rw[hl,An,An]
  have hne:((i:Int)==-1)=false:=by rw[zzL29];omega
  rw[hne,Au,w1 (show i<4611686018427387904 by omega)]
  have htk:∀ n,n<=i->(s.take n).filter (O1 u)=s.take n:=λn hn=>by
   rw[List.filter_eq_self];intro p hp;obtain⟨j,hj,rfl⟩:=Gr hp;rw[W0]at hj;have:=hyes j (by omega);rw[Ab _ _ _ (by omega)]at this;rw[List.getElem_take];exact this
  obtain⟨a',l',h1,h2,h3,h4⟩:=GW (s:=s) (d:=(default:Ba)) (keep:=O1 u) (F:=Cu M) (λa k l hk hak hll hm=>by
    unfold Cu;simp only[Bt hk,Ah,Aa (Ai hk),Ak,hck _ hm,An,w1 (show k<4611686018427387904 by omega)]
    cases O1 u (l.getD k default) with
    | true=>
     simp only[D6,L5,Ah];rw[Aa (Ai (show a<l.length by omega)),An,w1 (show a<4611686018427387904 by omega)]
    | false=>
     simp only[D6,L5,Au]
     rw[An]) (λa l=>by unfold Cu;simp only[Co,Au]) (s.length-(i+1)) i (i+1) s (by omega) (by omega) rfl rfl (by
    rw[List.take_add_one,P4 hi,Vd,htk i (zzL6 _)]
    have:O1 u s[i]=false:=by rw[<- Ab _ _ default hi];exact hno
    simp[this])
  have e:((a':Int)).toNat=a':=Ak a';rw[h1,An]
  dsimp only
  rw[e,Aa ⟨by omega,by omega⟩,Aa ⟨by omega,by rw[<- En];omega⟩];refine⟨_,_,rfl,by rw[<- En];exact h2,by omega,?_⟩;rw[F0,cV];exact h4
 ·rw[hl,An,An];refine⟨_,_,rfl,rfl,zzL6 _,?_⟩;rw[W1,S1,List.filter_eq_self];intro p hp;obtain⟨j,hj,rfl⟩:=Gr hp;have:=hall j hj;rwa[Ab _ _ _ hj]at this
theorem wE{s:List B2}{M:List Bool}{u:Int->Bool}(hs:s.length<=1000000)(hM:M.length=1024)(h:∀ p∈s,(0<=p.Dst/\p.Dst<1024)/\M.getD p.Dst.toNat false=u p.Dst) :
  ∃ k L,D1 s M=some (k,L)/\L.length=s.length/\k<=s.length/\L.take k=s.filter (Nk u):=by
 have hck:∀ p∈s,Jg p M=some (!Nk u p):=λp hp=>sZ hM (h p hp).1 (h p hp).2;unfold D1 Fs
 rcases idx_loop (s:=s) (d:=(default:B2)) (keep:=Nk u) (F:=Cv s M) (λi hi=>by
   unfold Cv;simp only[Bt hi,Ah,Aa (Ai hi),Ak,hck _ (Ag hi),An,w1 (show i<4611686018427387904 by omega)]
   cases Nk u (s.getD i default)<;>rfl) (by unfold Cv;simp only[Co,Au]) with⟨i,hi,hl,hno,hyes⟩|⟨hl,hall⟩
 ·rw[hl,An,An]
  have hne:((i:Int)==-1)=false:=by rw[zzL29];omega
  rw[hne,Au,w1 (show i<4611686018427387904 by omega)]
  have htk:∀ n,n<=i->(s.take n).filter (Nk u)=s.take n:=λn hn=>by
   rw[List.filter_eq_self];intro p hp;obtain⟨j,hj,rfl⟩:=Gr hp;rw[W0]at hj;have:=hyes j (by omega);rw[Ab _ _ _ (by omega)]at this;rw[List.getElem_take];exact this
  obtain⟨a',l',h1,h2,h3,h4⟩:=GW (s:=s) (d:=(default:B2)) (keep:=Nk u) (F:=Db M) (λa k l hk hak hll hm=>by
    unfold Db;simp only[Bt hk,Ah,Aa (Ai hk),Ak,hck _ hm,An,w1 (show k<4611686018427387904 by omega)]
    cases Nk u (l.getD k default) with
    | true=>
     simp only[D6,L5,Ah];rw[Aa (Ai (show a<l.length by omega)),An,w1 (show a<4611686018427387904 by omega)]
    | false=>
     simp only[D6,L5,Au]
     rw[An]) (λa l=>by unfold Db;simp only[Co,Au]) (s.length-(i+1)) i (i+1) s (by omega) (by omega) rfl rfl (by
    rw[List.take_add_one,P4 hi,Vd,htk i (zzL6 _)]
    have:Nk u s[i]=false:=by rw[<- Ab _ _ default hi];exact hno
    simp[this])
  have e:((a':Int)).toNat=a':=Ak a';rw[h1,An]
  dsimp only
  rw[e,Aa ⟨by omega,by omega⟩,Aa ⟨by omega,by rw[<- En];omega⟩];refine⟨_,_,rfl,by rw[<- En];exact h2,by omega,?_⟩;rw[F0,cV];exact h4
 ·rw[hl,An,An];refine⟨_,_,rfl,rfl,zzL6 _,?_⟩;rw[W1,S1,List.filter_eq_self];intro p hp;obtain⟨j,hj,rfl⟩:=Gr hp;have:=hall j hj;rwa[Ab _ _ _ hj]at this
section
variable {f:TFunc} {l:Int} (R:Ys f l) (hN:Nw f)
include R hN
theorem lH : Jl f (T0 f) = some (Qk f) := by
  have hroom : (1000001 : Nat) ≤ room := by decide
  have h64 := (shape_iff.1 (Bc R)).1.2; have hM := (ZI R hN).2
  have hsz : ∀ c, c < f.Blocks.length → Dm (bA f c) ≤ 512 := fun c hc => by
    have := Ud (F := fun b => Dm (bA f b)) hc; rw [← Jh] at this; have := hN.size; omega
  unfold Jl
  have key := DL f.Blocks (default : Ae) (fun i (s : List Ae) => ((i : Int), s)) (fun i s => s.length = i) (fun s b => s ++ [FJ (O1 (H4 f)) (Nk (H4 f)) b]) id (K1 f (T0 f)) (fun i s hi hP => by
    have hz := hsz i hi; unfold Dm at hz
    have hd1 : ∀ p ∈ (f.Blocks.getD i default).Phis, (0 ≤ p.Dst ∧ p.Dst < 1024) ∧ (T0 f).getD p.Dst.toNat false = H4 f p.Dst := fun p hp => by
      obtain ⟨k, hk, rfl⟩ := Gr hp; have := V1 R (d := ⟨((bA f i).Phis.getD k default).Dst, i, -1, (((bA f i).Phis.getD k default).Bits, 1)⟩) (ri_def.2 (.inr ⟨i, hi, .inl ⟨k, hk, rfl⟩⟩)); rw [Ab _ _ _ hk] at this; have := IC this
      have h1 : valS ((f.Blocks.getD i default).Phis[k]).Dst = true := by assumption
      unfold valS at h1; simp only [A5, Fz] at h1; exact ⟨by omega, QO R (by omega) (by omega)⟩
    have hd2 : ∀ p ∈ (f.Blocks.getD i default).Ops, (0 ≤ p.Dst ∧ p.Dst < 1024) ∧ (T0 f).getD p.Dst.toNat false = H4 f p.Dst := fun p hp => by
      have hm := G7 R _ (Ag (d := default) hi) p hp; have hd := (Xx hm).2.2.2.2.2.2
      have : 0 ≤ p.Dst ∧ p.Dst < 1024 := by
        unfold dstS at hd
        cases hc : (p.Kind == 17 || p.Kind == 19) with
        | true => rw [hc] at hd; have : p.Dst = 0 := by simpa using hd
                  omega
        | false =>
          rw [hc] at hd; have h1 : valS p.Dst = true := hd; unfold valS at h1; simp only [A5, Fz] at h1; omega
      exact ⟨this, QO R this.1 this.2⟩
    have hz' : (f.Blocks.getD i default).Phis.length + (f.Blocks.getD i default).Ops.length + 1 ≤ 512 := hz; obtain ⟨k1, L1, a1, a2, a3, a4⟩ := wD (s := (f.Blocks.getD i default).Phis) (by omega) hM hd1; obtain ⟨k2, L2, b1, b2, b3, b4⟩ := wE (s := (f.Blocks.getD i default).Ops) (by omega) hM hd2
    have cl1 : Ck (f.Blocks.getD i default).Phis = some (f.Blocks.getD i default).Phis := by unfold Ck; rw [Aa (by omega)]
    have cl2 : C5 (f.Blocks.getD i default).Ops = some (f.Blocks.getD i default).Ops := by unfold C5; rw [Aa (by omega)]
    unfold K1; simp only [Bt hi, Ah, Aa (Ai hi), Ak, w1 (show i < 4611686018427387904 by omega)]; rw [cl1, An, a1, An]
    dsimp only
    rw [Aa (by omega), Aa a2.symm, cl2, An, b1, An]
    dsimp only
    rw [Aa (by omega), Aa b2.symm, Ad (by show s.length + 1 ≤ room; omega), a4, b4]
    exact ⟨rfl, by rw [Fg, hP]; rfl⟩) (fun s _ => by unfold K1; simp only [Co, Au]; rfl) [] rfl
  have k0 : Ac (K1 f (T0 f)) ((0 : Int), ([] : List Ae)) = _ := key.1; rw [k0, An]
  have e : ∀ (L s : List Ae), L.foldl (fun s b => s ++ [FJ (O1 (H4 f)) (Nk (H4 f)) b]) s = s ++ L.map (FJ (O1 (H4 f)) (Nk (H4 f))) := fun L => by
    induction L with
    | nil => intro s; simp
    | cons b L ih => intro s; rw [IH, ih]; simp
  dsimp only [id]
  rw [e, Za]; rfl
end
theorem oL{f:TFunc}(hN:Nw f):Ha f=some ((sizeN f:Nat):Int):=by
 have:=hN.size;rw[u3 f hN.inf];unfold sizeW;rw[Yn (by omega)]
theorem WD{l:Int}:∀(n:Nat) (f:TFunc),Ys f l->Nw f->sizeN f<=n->Ac Nv (f.Params,f.Ret,f.Blocks)=some (Ur n f)
 | 0,f,R,hN,hn=>by
  have h0:=(shape_iff.1 (Bc R)).1.1;have:=Ud (F:=λb=>Dm (bA f b)) (i:=0) (n:=f.Blocks.length) (by omega);rw[<- Jh]at this;unfold Dm at this;omega
 | n+1,f,R,hN,hn=>by
  have hs:=Bc R;have h64:=(shape_iff.1 hs).1.2;obtain⟨R',hN'⟩:=jF R (jH f) hN
  have hF:Nv (f.Params,f.Ret,f.Blocks)=some (bif decide (((sizeN (Qk f):Nat):Int)<((sizeN f:Nat):Int)) then .next ((Qk f).Params,(Qk f).Ret,(Qk f).Blocks) else .done f):=by
   unfold Nv
   show(Kv f).bind _=_
   rw[(ZI R hN).1,An]
   show(Jl f (T0 f)).bind _=_
   rw[lH R hN,An,oL (show Nw (Qk f) from hN'),An]
   show(Ha f).bind _=_
   rw[oL hN,An]
   cases decide (((sizeN (Qk f):Nat):Int)<((sizeN f:Nat):Int))<;>rfl
  unfold Ur
  split
  ·rename_i h
   rw[Dr (by omega),Ah]at hF;rw[Aq hF];exact WD n (Qk f) R' hN' (by omega)
  ·rename_i h
   rw[C9 (by omega),Au]at hF;exact Am hF
def jG(f:TFunc):TFunc:=if Em f 2=0 then Ur (sizeN f) f else f
theorem oB{f:TFunc}(h:Sm f)(hN:Em f 2=0->Nw f):Sb f=some (jG f):=by
 unfold Sb jG;rw[ZJ h,An]
 by_cases e:Em f 2=0
 ·have R:Ys f 2:=(Yh (by omega)).1 e;have key:=WD (sizeN f) f R (hN e) (zzL6 _);have hF:((Kv f).bind λx5=>((Jl f x5).bind λx6=>((Ha x6).bind λx7=>((Ha f).bind λx8=>(bif (decide ((x7:Int)<x8)) then(some (.next (x6.Params,x6.Ret,x6.Blocks))) else(some (.done f)))))):Option (LR (List Int×Int×List Ae) TFunc))=Nv (f.Params,f.Ret,f.Blocks):=rfl;rw[if_pos e,Dr e,D6,Au,hF];rw[<- MD]at key;rw[key];rfl
 ·rw[if_neg e,C9 e];rfl
def allT(f:TFunc):TFunc:=jG (bE f)
theorem yX{f:TFunc}(h:Sm f)(hN:Em f 2=0->Nw f):Tx f=some (allT f):=by
 unfold Tx allT;rw[yY h hN,An]
 by_cases e:Em f 2=0
 ·have R:Ys f 2:=(Yh (by omega)).1 e;obtain⟨a,b,_⟩:=OB f.Blocks.length f R (hN e) (zzL6 _)
  have e1:bE f=Vz f.Blocks.length f:=by unfold bE;rw[if_pos e]
  rw[e1,oB (jd b) (λ_=>b)];rfl
 ·have e1:bE f=f:=by unfold bE;rw[if_neg e]
  rw[e1,oB h hN];rfl
theorem lV:m_locksteplaw16_awake=some true:=by kernel_rfl
theorem bL{f:TFunc}(hf:YS f):Ac (Ce f) ((0:Int),(0:Int))=some (sizeW f):=by
 have hl:=DJ f.Blocks (default:Ae) Dm id (Ce f) (λn i hi=>by
   have e1:decide ((i:Int)<(f.Blocks.length:Int))=true:=by simpa using hi
   unfold Ce;simp only[e1,Ah,Aa (Ai hi),Dy,K5 hi hf.blocks]
   congr 3
   rw[Vb,Vb,Int.add_assoc (w64 _),Vb];unfold Dm
   congr 1
   omega) (λn=>by
   unfold Ce
   simp) f.Blocks.length 0 0 (F0 _)
 rw[Ob]at hl;rw[show w64 ((0:Nat):Int)=0 from rfl,show((0:Nat):Int)=0 from rfl]at hl;rw[hl];simp[sizeN,sizeW]
theorem pH{f:TFunc}(hf:YS f):∃ b,D8 f=some b/\(b=true->Sm f/\(Qz f=true->f.Blocks.length<=16)):=by
 obtain⟨b,h1,h2⟩:=lb hf;refine⟨b,h1,λhb=>⟨h2 hb,λhm=>?_⟩⟩;unfold D8 at h1;rw[bL hf,An]at h1;obtain⟨y,hy,h1⟩:=bind_some h1;have h3:=OI h1;rw[hb]at h3;unfold Qz at hm;simp only[A5,Fz]at hm;obtain⟨⟨⟨⟨⟨⟨_,g1⟩,_⟩,_⟩,_⟩,g2⟩,_⟩:=hm;rw[C9 (show ¬ (512:Int)<sizeW f by omega),C9 (show ¬ ((64:Int):Int)<(f.Blocks.length:Int) by omega)]at h3
 by_cases hn:(f.Blocks.length:Int)<=16
 ·omega
 ·rw[C9 hn]at h3
  revert h3
  cases y<;>simp
theorem lk{k n:Int}(hn:n<=16):Se k n<=16:=by
 unfold Se
 cases k==0<;>cases(k==13 || k==18 || k==19)<;>cases(k==14 || k==15 || k==16 || k==22)<;>cases k==20<;>cases k==21<;>simp only[Ah,Au]<;>omega
theorem ld{o:B2}(h:Gs o=true):o.Args.length<=16:=by
 simp only[Gs,A5,zzL63]at h;have h1:=h.1.2.2;have h2:=lk (k:=o.Kind) (n:=o.Lanes) (by rcases shape_lanes h.1.1 with e|e|e|e|e<;>omega);omega
theorem yq{f:TFunc}(hs:Sm f)(h16:Qz f=true->f.Blocks.length<=16){l:Int}(R:Ys f l):Nw f:=by
 have hn:=h16 R.may;have hsh:=Bc R;obtain⟨sm,hsm,hp⟩:=MF f hs.1;rw[hs.2]at hsm;obtain⟨_,hsz,_⟩:=hp (OI hsm).symm R.may
 have hi:∀ b∈f.Blocks,∃ i,i<f.Blocks.length/\bA f i=b:=λb hb=>by
  obtain⟨i,hi,he⟩:=Gr hb;exact⟨i,hi,by unfold bA;rw[Ab _ _ _ hi];exact he⟩
 have hm:=mayF_iff.1 R.may;refine⟨hs.1,by omega,λb hb=>?_,λb hb p hp=>?_,λb hb o ho=>ld (uy R hb ho),hsz⟩
 ·obtain⟨i,hi',rfl⟩:=hi b hb;have h3:Kd (bA f i).End f.Blocks.length=true:=(shape_iff.1 hsh).2 i hi';unfold Kd Yy at h3;simp only[A5,Fz]at h3;have h4:(((bA f i).End.To.length:Nat):Int)=CC (bA f i).End.Kind:=h3.1.2
  have h5:∀ k:Nat,([0,1,2,0]:List Int).getD k 0<=2:=λk=>by
   match k with
   | 0=>decide
   | 1=>decide
   | 2=>decide
   | 3=>decide
   | k+4=>simp
  have h5:CC (bA f i).End.Kind<=2:=h5 _;omega
 ·obtain⟨i,hi',rfl⟩:=hi b hb;obtain⟨e,h2⟩:=Tf R hi' hp
  have hl:(prF f i).length<=f.Blocks.length:=by
   unfold prF;rw[DP (by rw[Ly];exact hi')];unfold J7;rw[Dn];have:=List.length_filter_le (λk=>Yx (Az f) k i) (List.range (Az f).length);rw[S4]at this;rw[Ly]at this ⊢;exact this
  rw[e]at h2 ⊢;omega
theorem oc{f g:TFunc}(hl:g.Blocks.length=f.Blocks.length)(hr:Az g=Az f)(he:∀ i,(bA g i).End=(bA f i).End):Rl g=Rl f:=by
 unfold Rl;rw[hl]
 congr 1
 funext i
 unfold UV g7 prF;rw[he,hr]
theorem kz{f:TFunc}{l:Int}(R2:Ys f 2)(R:Ys f l)(hN:Nw f):Ys (allT f) l/\Ys (allT f) 2/\Nw (allT f)/\Rl (allT f)=none/\sizeN (allT f)<=sizeN (Qk (allT f))/\(allT f).Blocks.length<=f.Blocks.length/\sizeN (allT f)<=sizeN f:=by
 have hc:Em f 2=0:=(Yh (by omega)).2 R2
 have e1:bE f=Vz f.Blocks.length f:=by unfold bE;rw[if_pos hc]
 obtain⟨a,b,c,d,e⟩:=OB f.Blocks.length f R hN (zzL6 _);obtain⟨a2,_⟩:=OB f.Blocks.length f R2 hN (zzL6 _);have hc2:Em (Vz f.Blocks.length f) 2=0:=(Yh (by omega)).2 a2
 have e2:allT f=Ur (sizeN (Vz f.Blocks.length f)) (Vz f.Blocks.length f):=by unfold allT;rw[e1];unfold jG;rw[if_pos hc2]
 rw[e2];obtain⟨d1,d2,d3,d4,d5,d6,d7⟩:=PE (sizeN (Vz f.Blocks.length f)) (Vz f.Blocks.length f) a b (zzL6 _);obtain⟨d1',_⟩:=PE (sizeN (Vz f.Blocks.length f)) (Vz f.Blocks.length f) a2 b (zzL6 _);exact⟨d1,d1',d2,(oc d4 d6 d7).trans c,d3,by omega,by omega⟩
theorem yn{f:TFunc}{lv:Int}(hf:YS f){K:Option Bool}(hl:0<=lv/\lv<=2\/True)(hK:Sm f->Em f lv=0->(Qz f=true->f.Blocks.length<=16)->K=some true) :
  ((D8 f).bind λx2=>((bif ((!x2)==false) then D7 f lv else some (0:Int)).bind λx3=>(bif (bif (!x2) then true else((x3:Int)!=(0:Int))) then(some true) else K)))=some true:=by
 obtain⟨b,hb,hsm⟩:=pH hf;rw[hb,An]
 cases b with
 | false=>rfl
 | true=>
  obtain⟨hs,h16⟩:=hsm rfl;rw[D6,show((false:Bool)==false)=true from rfl,Ah,dD hs,An,Au]
  cases hck:(Em f lv !=0) with
  | true=>rfl
  | false=>
   have h0:Em f lv=0:=by unfold bne at hck;simpa using hck
   rw[Au];exact hK hs h0 h16
theorem jy{F G:Nat->Nat}:∀{n:Nat},(∀ i,i<n->F i<=G i)->Sk n G<=Sk n F->∀ i,i<n->F i=G i
 | 0,_,_,i,hi=>by omega
 | n+1,h,hs,i,hi=>by
  rw[Oi,Oi]at hs;have h1:=jz (n:=n) λi hi=>h i (by omega);have h2:=h n (by omega)
  by_cases e:i=n
  ·subst e;omega
  ·exact jy (n:=n) (λi hi=>h i (by omega)) (by omega) i (by omega)
theorem lQ{g:TFunc}(h:sizeN g<=sizeN (Qk g)){i:Nat}(hi:i<g.Blocks.length):(∀ p∈(bA g i).Phis,O1 (H4 g) p=true)/\∀ o∈(bA g i).Ops,Nk (H4 g) o=true:=by
 rw[Jh,Jh (Qk g)]at h;have hl:(Qk g).Blocks.length=g.Blocks.length:=Pn;rw[hl]at h
 have hle:∀ i,i<g.Blocks.length->Dm (bA (Qk g) i)<=Dm (bA g i):=λi hi=>by
  have e:bA (Qk g) i=FJ (O1 (H4 g)) (Nk (H4 g)) (bA g i):=AP hi;rw[e];unfold FJ Dm;have h1:=List.length_filter_le (O1 (H4 g)) (bA g i).Phis;have h2:=List.length_filter_le (Nk (H4 g)) (bA g i).Ops
  show(List.filter _ (bA g i).Phis).length+(List.filter _ (bA g i).Ops).length+1<=_
  omega
 have:=jy hle h i hi;have e:bA (Qk g) i=FJ (O1 (H4 g)) (Nk (H4 g)) (bA g i):=AP hi;rw[e]at this;unfold FJ Dm at this;have h1:=List.length_filter_le (O1 (H4 g)) (bA g i).Phis;have h2:=List.length_filter_le (Nk (H4 g)) (bA g i).Ops;have this':(List.filter (O1 (H4 g)) (bA g i).Phis).length+(List.filter (Nk (H4 g)) (bA g i).Ops).length+1=(bA g i).Phis.length+(bA g i).Ops.length+1:=this;exact⟨λp hp=>List.length_filter_eq_length_iff.1 (by omega) p hp,λo ho=>List.length_filter_eq_length_iff.1 (by omega) o ho⟩
def EB(f:TFunc):List Int:=((List.range 1024).filter λv=>(T0 f).getD v false).map Int.ofNat
theorem wC{f:TFunc}(h:Sm f)(R:Ys f 2)(hN:Nw f):Sc f=some (EB f):=by
 have hroom:(1000001:Nat)<=room:=by decide
 have hc:Em f 2=0:=(Yh (by omega)).2 R;obtain⟨m1,m2⟩:=ZI R hN;unfold Sc;rw[ZJ h,An,Dr hc,D6,Au,m1,An]
 have key:=De (Nx (T0 f)) (λi=>(((List.range i).filter λv=>(T0 f).getD v false).map Int.ofNat,(i:Int))) (EB f) (T0 f).length (λi hi=>by
  have hle:=List.length_filter_le (λv=>(T0 f).getD v false) (List.range i);rw[S4]at hle
  have hr:((List.range (i+1)).filter λv=>(T0 f).getD v false).map Int.ofNat=((List.range i).filter λv=>(T0 f).getD v false).map Int.ofNat++(if(T0 f).getD i false=true then[(i:Int)] else[]):=by
   rw[Vg,Vd,Vf]
   congr 1
   by_cases h:(T0 f).getD i false=true
   ·rw[if_pos h,List.filter_cons,if_pos h];rfl
   ·rw[if_neg h,List.filter_cons,if_neg h];rfl
  rw[hr];unfold Nx;simp only[Bt hi,Ah,Aa (Ai hi),Ak,w1 (show i<4611686018427387904 by omega)]
  cases h:(T0 f).getD i false with
  | true=>
   rw[Ah,Aa (by rw[Dn];show _+1<=room;omega),An,if_pos rfl]
  | false=>
   rw[Au,An,if_neg (by simp),List.append_nil]) (by
  unfold Nx;simp only[Co,Au]
  rw[m2];rfl)
 have k0:Ac (Nx (T0 f)) (([]:List Int),(0:Int))=_:=key;rw[k0];rfl
theorem j8{f:TFunc}{l:Int}(R:Ys f l){v:Int}(h0:0<=v)(h1:v<1024):(EB f).contains v=H4 f v:=by
 rw[<- QO R h0 h1,EZ,zzL60];unfold EB
 constructor
 ·intro h;obtain⟨n,hn,rfl⟩:=zzL20.1 h;have:=(zzL96.1 hn).2
  show(T0 f).getD ((n:Int)).toNat false=true
  rw[Ak];exact this
 ·intro h;exact zzL20.2 ⟨v.toNat,zzL96.2 ⟨zzL41.2 (by omega),h⟩,by show((v.toNat:Nat):Int)=v;omega⟩
theorem sn {f : TFunc} {l : Int} (R : Ys f l) {i : Nat} (hi : i < f.Blocks.length) : (∀ p ∈ (bA f i).Phis, 0 ≤ p.Dst ∧ p.Dst < 1024) ∧ ∀ o ∈ (bA f i).Ops, 0 ≤ o.Dst ∧ o.Dst < 1024 := by
  refine ⟨fun p hp => ?_, fun o ho => ?_⟩
  · obtain ⟨k, hk, rfl⟩ := Gr hp; have h1 := V1 R (d := ⟨((bA f i).Phis.getD k default).Dst, i, -1, (((bA f i).Phis.getD k default).Bits, 1)⟩) (ri_def.2 (.inr ⟨i, hi, .inl ⟨k, hk, rfl⟩⟩)); rw [Ab _ _ _ hk] at h1; unfold valS at h1; simp only [A5, Fz] at h1; omega
  · have hd := (Xx (G7 R _ (Ag (d := default) hi) o ho)).2.2.2.2.2.2; unfold dstS at hd
    cases hc : (o.Kind == 17 || o.Kind == 19) with
    | true => rw [hc] at hd; have : o.Dst = 0 := by simpa using hd
              omega
    | false =>
      rw [hc] at hd; have h1 : valS o.Dst = true := hd; unfold valS at h1; simp only [A5, Fz] at h1; omega
theorem none16(f:TFunc)(hf:YS f):Lc f=some true:=by
 unfold Lc;rw[lV,An,D6,Au];refine yn hf (.inr trivial) λhs h0 h16=>?_;have R2:Ys f 2:=(Yh (by omega)).1 h0;have hN:=yq hs h16 R2;obtain⟨a,_,b,c,d,e,g0⟩:=kz R2 R2 hN;rw[yX hs (λ_=>hN),An,wC (jd b) a b,An]
 generalize allT f=g at *
 have hsh:=Bc a;have h64:=(shape_iff.1 hsh).1.2;rw[QG g (by rw[Px];omega),hsh,Ah,An];rw[show((0:Int)!=0)=false from rfl,Au];have hlp:(Cx (Az g)).length=g.Blocks.length:=pe g;have hP:(J4 (Az g),(0:Int)).1.Pred=Cx (Az g):=rfl
 have hul:(EB g).length<4611686018427387904:=by
  unfold EB;rw[Dn];have:=List.length_filter_le (λv=>(T0 g).getD v false) (List.range 1024);rw[S4]at this;omega
 have hsz:∀ c,c<g.Blocks.length->Dm (bA g c)<=512:=λc hc=>by
  have:=Ud (F:=λb=>Dm (bA g b)) hc;rw[<- Jh]at this;have:=b.size;omega
 have key:=De (Ec g (EB g) (J4 (Az g),(0:Int))) (λi=>((i:Nat):Int)) (.inl ()) g.Blocks.length (λi hi=>by
  have hz:=hsz i hi;unfold Dm at hz;obtain⟨u1,u2⟩:=lQ d hi;obtain⟨v1,v2⟩:=sn a hi
  have k1:Ac (Ea g (EB g) (i:Int)) (0:Int)=some (.inl ()):=De (Ea g (EB g) (i:Int)) (λk=>((k:Nat):Int)) (.inl ()) (bA g i).Phis.length (λk hk=>by
    have hp:=Ag (d:=(default:Ba)) hk;have hd:=v1 _ hp
    have hu:(EB g).contains ((bA g i).Phis.getD k default).Dst=true:=by rw[j8 a hd.1 hd.2];exact u1 _ hp
    have hh:Cj (EB g) (((g.Blocks.getD i default).Phis).getD k default).Dst=some true:=by rw[dG _ _ hul];exact Bg some hu
    unfold Ea;simp only[Ak]
    rw[Bt hk,Ah,Aa (Ai hk),hh,An,w1 (show k<4611686018427387904 by omega)];rfl) (by
    unfold Ea;simp only[Ak]
    rw[Co,Au])
  have k2:Ac (Eb g (EB g) (i:Int)) (0:Int)=some (.inl ()):=De (Eb g (EB g) (i:Int)) (λk=>((k:Nat):Int)) (.inl ()) (bA g i).Ops.length (λk hk=>by
    have hp:=Ag (d:=(default:B2)) hk;have hd:=v2 _ hp;have hu:(EB g).contains ((bA g i).Ops.getD k default).Dst=H4 g ((bA g i).Ops.getD k default).Dst:=j8 a hd.1 hd.2;have hk2:=u2 _ hp;unfold Nk at hk2
    have hh:Cj (EB g) (((g.Blocks.getD i default).Ops).getD k default).Dst=some (H4 g ((bA g i).Ops.getD k default).Dst):=by rw[dG _ _ hul];exact Bg some hu
    unfold Eb;simp only[Ak];rw[Bt hk,Ah,Aa (Ai hk),pl,An,Aa (λ_=>Ai hk),hh,w1 (show k<4611686018427387904 by omega)];have hk2':(!LX ((g.Blocks.getD i default).Ops.getD k default).Kind || H4 g ((bA g i).Ops.getD k default).Dst)=true:=hk2
    cases h1:LX ((g.Blocks.getD i default).Ops.getD k default).Kind with
    | false=>rfl
    | true=>
     rw[h1,D6,SQ]at hk2'
     rw[hk2'];rfl) (by
    unfold Eb;simp only[Ak]
    rw[Co,Au])
  have hfr:UV g i=none:=by
   unfold Rl at c;exact List.findSome?_eq_none_iff.1 c i (zzL41.2 hi)
  unfold Ec;simp only[Bt hi,Ah,Aa (Ai hi),Ak,hP,w1 (show i<4611686018427387904 by omega)];rw[k1,An]
  dsimp only
  rw[k2,An]
  dsimp only
  by_cases hk:(bA g i).End.Kind=1
  ·obtain⟨y,hb,hbl,hb0⟩:=HE hsh hi hk
   have ht:g7 g i 0=(y:Int):=by unfold g7;rw[hb];rfl
   rw[show((g.Blocks.getD i default).End.Kind==1)=true from zzL63.2 hk];rw[show(g.Blocks.getD i default).End.To=[(y:Int)] from hb];have e0:[(y:Int)].getD ((0:Int)).toNat 0=(y:Int):=rfl;have hI:A1 (0:Int) [(y:Int)].length:=⟨by omega,by show(0:Int)<((1:Nat):Int);omega⟩;rw[Aa (λ_=>hI),e0,Ah,Aa (λ_=>hI),show(J4 (Az g)).Pred=Cx (Az g) from rfl,Aa (λ_=>by rw[hlp];exact Ai hbl),Ak];unfold UV at hfr;rw[ht,Ak]at hfr
   have hno:¬ ((y:Int)≠(i:Int)/\(prF g y).length=1):=λhh=>by rw[if_pos ⟨hk,hh⟩]at hfr;cases hfr
   have e1:(bif ((y:Int)!=(i:Int)) then((((Cx (Az g)).getD y []).length:Int)==(1:Int)) else false)=false:=by
    by_cases hbi:(y:Int)=(i:Int)
    ·rw[show((y:Int)!=(i:Int))=false by simpa using hbi];rfl
    ·rw[show((y:Int)!=(i:Int))=true by simpa using hbi,Ah,zzL29];intro he;exact hno ⟨hbi,by have:(((prF g y).length:Nat):Int)=1:=he;omega⟩
   rw[e1];rfl
  ·have hk0:((g.Blocks.getD i default).End.Kind==1)=false:=zzL29.2 hk
   rw[hk0,Aa (λh=>by cases h),Au,Aa (λh=>by cases h),Aa (λh=>by cases h)];rfl) (by
  unfold Ec
  simp only[Co,Au])
 have k0:Ac (Ec g (EB g) (J4 (Az g),(0:Int))) (0:Int)=_:=key;rw[k0];rfl
end
end Go.Proofs.YtfhggcbcamamdaaGreat
