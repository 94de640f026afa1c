/-
  The machine, the program's functions and the laws' arithmetic: part 6 of 6.
-/
import Derived.Test.YtfhggcbcamamdaaGreatPk5
set_option linter.unusedSectionVars false
set_option linter.unusedVariables false
set_option linter.unusedSimpArgs false
namespace Go.Proofs.YtfhggcbcamamdaaGreat
noncomputable section
open Go Go.RowKit
set_option linter.unusedSectionVars false
set_option maxRecDepth 100000
structure Nw(f:TFunc):Prop where
 inf:YQ f
 params:f.Params.length<=64
 to:∀ b∈f.Blocks,b.End.To.length<=2
 phi:∀ b∈f.Blocks,∀ p∈b.Phis,p.From.length<=16/\p.Args.length<=16
 op:∀ b∈f.Blocks,∀ o∈b.Ops,o.Args.length<=16
 size:sizeN f<=512
theorem jb{f:TFunc}(h:Nw f):Sm f:=by
 refine zH h.inf h.params (λb hb=>⟨by have:=h.to b hb;omega,λp hp=>by have:=h.phi b hb p hp;omega,λo ho=>by have:=h.op b hb o ho;omega⟩) ?_
 have hB:∀ b∈f.Blocks,UQ b<=33*Dm b:=λb hb=>by
  have h1:(b.Phis.map cV).sum<=b.Phis.length*33:=gz _ _ _ λp hp=>by have:=h.phi b hb p hp;unfold cV;omega
  have h2:(b.Ops.map cU).sum<=b.Ops.length*33:=gz _ _ _ λo ho=>by have:=h.op b hb o ho;unfold cU;omega
  have h3:=h.to b hb;unfold UQ Dm;omega
 have hS:∀ l:List Ae,(∀ b∈l,UQ b<=33*Dm b)->(l.map UQ).sum<=33*(l.map Dm).sum:=λl=>by
  induction l with
  | nil=>intro _;simp
  | cons b l ih=>
   intro hl;have h1:=hl b (zzL54 ..);have h2:=ih λx hx=>hl x (N9 _ hx);simp only[Cq,SQ];omega
 have h1:=hS _ hB;have h2:=h.size;have h3:=h.params;unfold sizeN at h2;unfold fa;omega
def Sk(n:Nat)(F:Nat->Nat):Nat:=((List.range n).map F).sum
theorem Oh(n:Nat)(F:Nat->Nat):Sk (n+1) F=Sk n F+F n:=by
 unfold Sk;rw[Vf,Ve,List.sum_append];simp
theorem Yi{n:Nat}{F G:Nat->Nat}(h:∀ i,i<n->F i=G i):Sk n F=Sk n G:=by
 unfold Sk;rw[MJ λi hi=>h i (zzL41.1 hi)]
theorem jz{n:Nat}{F G:Nat->Nat}(h:∀ i,i<n->F i<=G i):Sk n F<=Sk n G:=by
 induction n with
 | zero=>exact zzL6 _
 | succ n ih=>rw[Oh,Oh];have:=ih λi hi=>h i (by omega);have:=h n (by omega);omega
theorem Ud{n:Nat}{F:Nat->Nat}{i:Nat}(h:i<n):F i<=Sk n F:=by
 induction n with
 | zero=>omega
 | succ n ih=>
  rw[Oh]
  by_cases e:i=n
  ·subst e;omega
  ·have:=ih (by omega);omega
theorem j0{y:Nat}(F:Nat->Nat):∀ n,y<n->Sk (n-1) (λk=>F (IM y k))+F y=Sk n F
 | 0,h=>by omega
 | n+1,h=>by
  rw[Oh,show n+1-1=n by omega]
  by_cases e:y=n
  ·have e2:Sk n (λk=>F (IM y k))=Sk n F:=Yi λi hi=>by
    have:IM y i=i:=by rcases up_eq y i with h|h<;>omega
    rw[this]
   rw[e2,e]
  ·obtain⟨m,rfl⟩:∃ m,n=m+1:=⟨n-1,by omega⟩;have:=j0 (y:=y) F (m+1) (by omega);rw[show m+1-1=m by omega]at this
   have e3:IM y m=m+1:=by rcases up_eq y m with h|h<;>omega
   have e4:Sk (m+1) (λk=>F (IM y k))=Sk m (λk=>F (IM y k))+F (IM y m):=Oh ..;rw[e4,e3];omega
theorem jx{x:Nat}(F:Nat->Nat)(c:Nat):∀ n,x<n->Sk n (λb=>if b=x then F b+c else F b)=Sk n F+c
 | 0,h=>by omega
 | n+1,h=>by
  rw[Oh,Oh]
  by_cases e:n=x
  ·subst e;rw[if_pos rfl,Yi (G:=F) λi hi=>by rw[if_neg (by omega)]];omega
  ·rw[if_neg e,jx F c n (by omega)];omega
theorem Jh(f:TFunc):sizeN f=Sk f.Blocks.length λb=>Dm (bA f b):=by
 unfold sizeN Sk
 congr 1
 apply CI
 ·simp
 ·intro i h1 h2;simp at h1 h2 ⊢;simp[h1]
theorem mayF_iff{f:TFunc}:Qy f=true↔(1<=f.Blocks.length/\f.Blocks.length<=64)/\f.Params.length<=16/\listB f.Params=true/\numB f.Ret=true/\sizeW f<=512/\∀ b∈f.Blocks,blockB b=true:=by
 unfold Qy;simp only[A5,Fz,zzL27,and_assoc]
theorem numBJ{n:Int}:numB n=true↔0<=n/\n<=2147483647:=by unfold numB;rw[A5,Fz,Fz]
theorem listBJ{l:List Int}:listB l=true↔(∀ n∈l,0<=n/\n<=2147483647)/\l.length<=64:=by
 unfold listB;rw[A5,zzL27,Fz];exact⟨λh=>⟨λn hn=>numBJ.1 (h.1 n hn),h.2⟩,λh=>⟨λn hn=>numBJ.2 (h.1 n hn),h.2⟩⟩
theorem IB{v:Int}(h:valS v=true):0<=v/\v<=2147483647:=by
 unfold valS at h;simp only[A5,Fz]at h;omega
section
variable {f:TFunc} {x y:Nat} {l:Int} (J:Jn f x y) (R:Yr f l)
include J R
theorem fk:sizeN (B9 f x y)+(bA f y).Phis.length+1=sizeN f:=by
 have hy:=(LH J (Bc R)).1;rw[Jh,Jh,Ol J]
 have h1:Sk (f.Blocks.length-1) (λb=>Dm (bA (B9 f x y) b))=Sk (f.Blocks.length-1) (λk=>(λb=>Dm (Kf f x y b)) (IM y k)):=Yi λi hi=>by
  rw[yh J hi];unfold GR Dm
  simp
 have h2:=j0 (y:=y) (λb=>Dm (Kf f x y b)) f.Blocks.length hy
 have h3:Sk f.Blocks.length (λb=>Dm (Kf f x y b))=Sk f.Blocks.length (λb=>if b=x then Dm (bA f b)+(bA f y).Ops.length else Dm (bA f b)):=Yi λi hi=>by
  unfold Kf
  split
  ·rename_i e;subst e;unfold Dm;simp;omega
  ·rfl
 rw[jx (x:=x) (λb=>Dm (bA f b)) _ _ J.hx]at h3
 have h4:Dm (Kf f x y y)=Dm (bA f y):=by unfold Kf;rw[if_neg J.ne]
 have h2':Sk (f.Blocks.length-1) (λk=>(λb=>Dm (Kf f x y b)) (IM y k))+Dm (Kf f x y y)=_:=h2;rw[h4]at h2';unfold Dm at h2' h3 h1 ⊢;omega
theorem ck{b:Ae}(hb:b∈(B9 f x y).Blocks):∃ c,c<f.Blocks.length/\c≠y/\b=bA (B9 f x y) (psJ x y c)/\b.Phis=(bA f c).Phis.map (NH (vJ f y) x y)/\(∀ o∈b.Ops,∃ d,d<f.Blocks.length/\∃ o'∈(bA f d).Ops,o=ma (vJ f y) o') /\
  b.End=oW (vJ f y) x y (bA f (Tj x y c)).End/\Tj x y c<f.Blocks.length:=by
 have hs:=Bc R;have hy:=(LH J hs).1;obtain⟨k,hk,e⟩:=Gr hb
 have e':bA (B9 f x y) k=b:=by unfold bA;rw[Ab _ _ _ hk];exact e
 rw[Ol J]at hk;have hu:=eG hy hk;have hun:=XX y k;have hps:=dj J.ne (x:=x) k;refine⟨IM y k,hu,hun,by rw[hps,e'],?_,λo ho=>?_,?_,Yh J hs hu⟩
 ·rw[<- e',<- JC J R hu hun,hps]
 ·rw[<- e',<- hps]at ho
  by_cases ex:IM y k=x
  ·rw[ex,PQ J R]at ho;obtain⟨o',ho',rfl⟩:=zzL20.1 ho;rcases zzL11.1 ho' with h|h
   ·exact⟨x,J.hx,o',h,rfl⟩
   ·exact⟨y,hy,o',h,rfl⟩
  ·rw[jR J R hu hun ex]at ho;obtain⟨o',ho',rfl⟩:=zzL20.1 ho;exact⟨_,hu,o',ho',rfl⟩
 ·rw[<- e',<- PP J hs hu hun,hps]
theorem end_val{c:Nat}(hc:c<f.Blocks.length):(((bA f c).End.Kind=0\/(bA f c).End.Kind=2)/\valS (vJ f y (bA f c).End.Arg)=true)\/(((bA f c).End.Kind=1\/(bA f c).End.Kind=3)/\(bA f c).End.Arg=0/\vJ f y (bA f c).End.Arg=0):=by
 have hs:=Bc R
 have hk:(bA f c).End.Kind=0\/(bA f c).End.Kind=1\/(bA f c).End.Kind=2\/(bA f c).End.Kind=3:=by
  have h3:Kd (bA f c).End f.Blocks.length=true:=(shape_iff.1 hs).2 c hc;unfold Kd Yx at h3;simp only[A5,Fz]at h3;have:=h3.1.1;omega
 have hu:∀ b,(⟨(bA f c).End.Arg,(c:Int),1000,(b,1)⟩:Cm)∈Bf f->valS (vJ f y (bA f c).End.Arg)=true:=λb h=>bJ J R h
 have h13:(bA f c).End.Kind=1\/(bA f c).End.Kind=3->(bA f c).End.Arg=0/\vJ f y (bA f c).End.Arg=0:=λh=>by
  have h0:=(Wq R hc).2 h;refine⟨h0,?_⟩;rw[h0];unfold vJ VP;rw[List.find?_eq_none.2];intro p hp;have:=V0 R (YC J R hp).2.2;have:valS p.Dst=true:=this;unfold valS at this;simp only[A5,Fz]at this
  simp;omega
 rcases hk with h|h|h|h
 ·exact .inl ⟨.inl h,hu _ ((H0 (G7 R)).2 ⟨c,hc,.inr (.inr (.inl ⟨h,rfl⟩))⟩)⟩
 ·exact .inr ⟨.inl h,h13 (.inl h)⟩
 ·exact .inl ⟨.inr h,hu _ ((H0 (G7 R)).2 ⟨c,hc,.inr (.inr (.inr ⟨h,rfl⟩))⟩)⟩
 ·exact .inr ⟨.inr h,h13 (.inr h)⟩
theorem dh{c:Nat}(hc:c<f.Blocks.length){p:Ba}(hp:p∈(bA f c).Phis){i:Nat}(hi:i<p.Args.length):(⟨p.Args.getD i 0,p.From.getD i 0,1000,(p.Bits,1)⟩:Cm)∈Bf f:=by
 obtain⟨k,hk,e⟩:=Gr hp
 have e':(bA f c).Phis.getD k default=p:=by rw[Ab _ _ _ hk];exact e
 refine(H0 (G7 R)).2 ⟨c,hc,.inl ⟨k,i,hk,by rw[e'];exact hi,by rw[e']⟩⟩
theorem uo(hsz:sizeN f<=512):Qy (B9 f x y)=true:=by
 have hs:=Bc R;have hy:=LH J hs;have hsz':=fk J R;obtain⟨⟨m1,m2⟩,m3,m4,m5,m6,m7⟩:=mayF_iff.1 R.may;refine mayF_iff.2 ⟨by rw[Ol J];have:=J.hx;have:=J.ne;omega,m3,m4,m5,?_,λb hb=>?_⟩
 ·unfold sizeW;rw[Ym (by omega)];omega
 ·obtain⟨c,hc,hcy,_,e1,e2,e3,hsc⟩:=ck J R hb;refine blockB_iff.2 ⟨λp hp=>?_,λo ho=>?_,?_⟩
  ·rw[e1]at hp;obtain⟨q,hq,rfl⟩:=zzL20.1 hp;obtain⟨q1,q2⟩:=Tf R hc hq;obtain⟨p1,p2,p3,p4,_⟩:=OB J hs (v:=vJ f y) hc hcy q1 q2;have hb0:=(blockB_iff.1 (m7 _ (Ag (d:=default) hc))).1 q hq;unfold FL at hb0 ⊢;simp only[A5,and_assoc]at hb0 ⊢;obtain⟨n1,n2,n3,n4⟩:=hb0;refine⟨n1,n2,listBJ.2 ⟨λn hn=>?_,?_⟩,listBJ.2 ⟨λn hn=>?_,?_⟩⟩
   ·rw[p1]at hn;obtain⟨w,rfl,hw,_⟩:=(Q2 (j_shapeB J hs) (by rw[Ol J];exact We J hs hc)).1 hn;rw[Ol J]at hw;omega
   ·rw[p3];exact(listBJ.1 n3).2
   ·obtain⟨j,hj,e⟩:=Gr hn;obtain⟨i,hi,_,h2⟩:=jm J hs q2 p4 hj;rw[Ab _ _ _ hj,e]at h2;rw[h2];exact IB (bJ J R (dh J R hc hq hi))
   ·rw[p2];exact(listBJ.1 n4).2
  ·obtain⟨d,hd,o',ho',rfl⟩:=e2 o ho;have hb0:=(blockB_iff.1 (m7 _ (Ag (d:=default) hd))).2.1 o' ho';unfold eZ at hb0 ⊢;simp only[A5,and_assoc]at hb0 ⊢;obtain⟨n1,n2,n3,n4,n5⟩:=hb0;refine⟨n1,n2,n3,n4,listBJ.2 ⟨λn hn=>?_,?_⟩⟩
   ·obtain⟨a,ha,rfl⟩:=zzL20.1 hn;exact IB (bD J R hd ho' a ha)
   ·show(List.map _ _).length<=_;rw[Dn];exact(listBJ.1 n5).2
  ·have hb0:=(blockB_iff.1 (m7 _ (Ag (d:=default) hsc))).2.2;rw[e3];unfold cT at hb0 ⊢;simp only[A5,and_assoc]at hb0 ⊢;obtain⟨n1,n2,n3⟩:=hb0;refine⟨n1,?_,listBJ.2 ⟨λn hn=>?_,?_⟩⟩
   ·rcases end_val J R hsc with⟨_,h⟩|⟨_,_,h⟩
    ·exact numBJ.2 (IB h)
    ·show numB (vJ f y _)=true;rw[h];rfl
   ·obtain⟨z,hz,rfl⟩:=zzL20.1 hn;obtain⟨w,rfl,hw,_⟩:=FR hs hsc hz;rw[Pi];have:=We J hs hw;omega
   ·show(List.map _ _).length<=_;rw[Dn];exact(listBJ.1 n3).2
theorem o4:Fd (B9 f x y)=true:=by
 have hs:=Bc R;have hy:=LH J hs;refine MC (j_shapeB J hs) λk hk=>?_;rw[Ol J]at hk;have hu:=eG hy.1 hk;have hun:=XX y k;have hps:=dj J.ne (x:=x) k;refine⟨?_,?_,λp hp=>?_⟩
 ·have:=(jS J hs (Wq R hu).1).2;rwa[hps]at this
 ·rw[<- hps,PP J hs hu hun];intro h;have hsc:=Yh J hs hu;rcases end_val J R hsc with⟨h1,_⟩|⟨_,_,h2⟩
  ·have h:(bA f (Tj x y (IM y k))).End.Kind=1\/(bA f (Tj x y (IM y k))).End.Kind=3:=h;omega
  ·exact h2
 ·rw[<- hps,JC J R hu hun]at hp;obtain⟨q,hq,rfl⟩:=zzL20.1 hp;obtain⟨q1,q2⟩:=Tf R hu hq;obtain⟨p1,p2,p3,_⟩:=OB J hs (v:=vJ f y) hu hun q1 q2;rw[hps]at p1;exact⟨p1,by rw[p2,p3,q2]⟩
theorem sy:N6 (B9 f x y) l=true:=by
 have h:=R.typed;simp only[N6,F2,A5,zzL27]at h ⊢;obtain⟨⟨t1,t2⟩,t3⟩:=h;refine⟨⟨t1,λb hb=>?_⟩,t3⟩;obtain⟨c,hc,hcy,_,e1,e2,e3,hsc⟩:=ck J R hb;refine⟨λp hp=>?_,λo ho=>?_⟩
 ·rw[e1]at hp;obtain⟨q,hq,rfl⟩:=zzL20.1 hp;exact(t2 _ (Ag (d:=default) hc)).1 q hq
 ·obtain⟨d,hd,o',ho',rfl⟩:=e2 o ho;exact lp (dw R (Ag (d:=default) hd) ho') (bD J R hd ho')
theorem ow{s:List B2}(h:∀ o∈s,∃ d,d<f.Blocks.length/\o∈(bA f d).Ops):ZL (s.map (ma (vJ f y)))=ZL s:=by
 unfold ZL
 induction s with
 | nil=>rfl
 | cons o s ih=>
  obtain⟨d,hd,ho⟩:=h o (by simp);have hg:=XD (G7 R _ (Ag (d:=default) hd) _ ho) (bD J R hd ho);rw[Cq,List.filter_cons,List.filter_cons,hg];have:=ih λo ho=>h o (by simp[ho])
  split
  ·rw[Cq,Cq,this];rfl
  ·exact this
theorem yj{b:Nat}(hb:b<f.Blocks.length)(hby:b≠y):UF (bA (B9 f x y) (psJ x y b))=if b=x then UF (bA f x)++ZL (bA f y).Ops else UF (bA f b):=by
 have hy:=(LH J (Bc R)).1
 have h1:(bA (B9 f x y) (psJ x y b)).Phis.map (·.Dst)=(bA f b).Phis.map (·.Dst):=by
  rw[JC J R hb hby,List.map_map];rfl
 unfold UF;rw[h1]
 split
 ·rename_i e
  subst e;rw[PQ J R,ow J R,EU]
  ·congr 1
   unfold ZL;rw[Vc,Ve]
  ·intro o ho;rcases zzL11.1 ho with h|h
   ·exact⟨_,hb,h⟩
   ·exact⟨_,hy,h⟩
 ·rename_i e
  rw[jR J R hb hby e,ow J R];exact λo ho=>⟨_,hb,ho⟩
theorem PR{b:Nat}(hb:b<f.Blocks.length)(hby:b≠y){v:Int}(hv:v∈UF (bA (B9 f x y) (psJ x y b))):∃ c,c<f.Blocks.length/\(c=b\/(b=x/\c=y))/\v∈UF (bA f c):=by
 rw[yj J R hb hby]at hv
 split at hv
 ·rename_i e
  rcases zzL11.1 hv with h|h
  ·exact⟨b,hb,.inl rfl,by rw[e];exact h⟩
  ·exact⟨y,(LH J (Bc R)).1,.inr ⟨e,rfl⟩,by unfold UF;exact zzL11.2 (.inr h)⟩
 ·exact⟨b,hb,.inl rfl,hv⟩
theorem fm(hsz:sizeN f<=512)(hok:OkF (B9 f x y)):Yr (B9 f x y) l:=by
 have hs:=Bc R;have hy:=LH J hs;have hgt:=sy J R
 have hgm:∀ b∈(B9 f x y).Blocks,∀ o∈b.Ops,Gs o=true:=λb hb o ho=>by
  simp only[N6,F2,A5,zzL27]at hgt;exact DS ((hgt.1.2 b hb).2 o ho)
 obtain⟨N1,N2,N3⟩:=(nodup_split f).1 (Xh (DP R).1)
 have pos_of:∀ k,k<(B9 f x y).Blocks.length->∃ b,b<f.Blocks.length/\b≠y/\psJ x y b=k:=λk hk=>by
  rw[Ol J]at hk;exact⟨IM y k,eG hy.1 hk,XX y k,dj J.ne k⟩
 have hcap:∀{d:Bx} {b a:Int},d∈Aw (B9 f x y)->kw (B9 f x y) d b a->kw (B9 f x y) d b 1000:=λ{d b a} hd h=>by
  rcases h with h|⟨h1,h2⟩|h
  ·exact .inl h
  ·refine .inr (.inl ⟨h1,?_⟩);rcases defs_in hok d hd with h3|⟨_,_,h3⟩
   ·rcases ri_def.1 hd with⟨i,_,e⟩|⟨i,_,⟨k,_,e⟩|⟨k,_,_,e⟩⟩
    ·rw[e];show(0:Int)<1000;omega
    ·rw[e]at h3;have:(i:Int) = -1:=h3;omega
    ·rw[e]at h3;have:(i:Int) = -1:=h3;omega
   ·exact h3
  ·exact .inr (.inr h)
 refine⟨uo J R hsz,o4 J R,hgt,RP ((nodup_split _).2 ⟨λk hk=>?_,λk m hk hm hne v hv hw=>?_,λi hi k hk hv=>?_⟩) (λd hd=>?_) (λu hu=>?_)⟩
 ·obtain⟨b,hb,hby,rfl⟩:=pos_of k hk;rw[yj J R hb hby]
  split
  ·rename_i e
   rw[List.nodup_append];have hn:=N1 y hy.1;unfold UF at hn;rw[List.nodup_append]at hn;refine⟨N1 x J.hx,hn.2.1,λa ha c hc hac=>?_⟩;exact N2 x y J.hx hy.1 (λh=>J.ne h.symm) a ha (by unfold UF;exact zzL11.2 (.inr (hac▸hc)))
  ·exact N1 b hb
 ·obtain⟨b,hb,hby,rfl⟩:=pos_of k hk;obtain⟨c,hc,hcy,rfl⟩:=pos_of m hm;have hbc:b≠c:=λe=>hne (by rw[e]);obtain⟨b',hb',eb,hvb⟩:=PR J R hb hby hv;obtain⟨c',hc',ec,hvc⟩:=PR J R hc hcy hw;refine N2 b' c' hb' hc' ?_ v hvb hvc;rcases eb with e1|e1<;>rcases ec with e2|e2<;>omega
 ·obtain⟨b,hb,hby,rfl⟩:=pos_of k hk;obtain⟨b',hb',_,hvb⟩:=PR J R hb hby hv;exact N3 i hi b' hb' hvb
 ·rcases ri_def.1 hd with⟨i,hi,e⟩|⟨k,hk,⟨j,hj,e⟩|⟨j,hj,hg,e⟩⟩
  ·rw[e];exact V0 R (d:=⟨(i:Int)+1,-1,0,(f.Params.getD i 0,1)⟩) (ri_def.2 (.inl ⟨i,hi,rfl⟩))
  ·obtain⟨b,hb,hby,rfl⟩:=pos_of k hk;rw[e]
   have h1:=JC J R hb hby
   rw[h1,Dn]at hj
   show valS ((bA (B9 f x y) (psJ x y b)).Phis.getD j default).Dst=true
   rw[h1,Ab _ _ _ (by rw[Dn];exact hj),List.getElem_map];have:=V0 R (d:=⟨((bA f b).Phis.getD j default).Dst,b,-1,(((bA f b).Phis.getD j default).Bits,1)⟩) (ri_def.2 (.inr ⟨b,hb,.inl ⟨j,hj,rfl⟩⟩));rw[Ab _ _ _ hj]at this;exact this
  ·rw[e];exact WL (hgm _ (Ag (d:=default) hk) _ (Ag (d:=default) hj)) hg
 ·obtain⟨k,hk,hcase⟩:=(H0 hgm).1 hu;obtain⟨b,hb,hby,rfl⟩:=pos_of k hk;have hsc:=Yh J hs hb
  have hpsrc:psJ x y (Tj x y b)=psJ x y b:=by
   unfold Tj;split
   ·rename_i e;rw[e];exact pe J R
   ·rfl
  rcases hcase with⟨k,j,hk',hj,e⟩|⟨k,j,hk',hj,e⟩|⟨hK,e⟩|⟨hK,e⟩
  ·have h1:=JC J R hb hby
   rw[h1,Dn]at hk';have hq:=Ag (d:=(default:Ba)) hk';obtain⟨q1,q2⟩:=Tf R hb hq;obtain⟨p1,p2,p3,p4,_⟩:=OB J hs (v:=vJ f y) hb hby q1 q2
   have eq:(bA (B9 f x y) (psJ x y b)).Phis.getD k default=NH (vJ f y) x y ((bA f b).Phis.getD k default):=by
    rw[h1,Ab _ _ _ (by rw[Dn];exact hk'),List.getElem_map,Ab _ _ _ hk']
   rw[eq]at e hj;obtain⟨i,hi,e1,e2⟩:=jm J hs q2 p4 hj;rw[e1,e2]at e;have hu':=dh J R hb hq hi;obtain⟨c,ec,hc,_⟩:=(Q2 hs hb).1 (show((bA f b).Phis.getD k default).From.getD i 0∈prF f b by rw[<- q1];exact Ag (by omega));rw[ec]at hu' e;obtain⟨d',m1,m2,m3,m4⟩:=mL J R hu' hc rfl (show(0:Int)<=1000 by omega);rw[Pi]at e;rw[e];exact⟨d',m1,m2,m3,hcap m1 m4⟩
  ·by_cases ex:b=x
   ·subst ex;have ho:=PQ J R;rw[ho,Dn,Fg]at hk'
    by_cases hkx:k<(bA f b).Ops.length
    ·have h2:=(sv J R hb hkx).2
     have hof:offJ f b y b=0:=by unfold offJ;rw[if_neg hby]
     rw[hof,M9]at h2;rw[h2]at e hj
     have hj':j<((bA f b).Ops.getD k default).Args.length:=by have:j<(List.map _ _).length:=hj;rwa[Dn]at this
     have hu':=(H0 (G7 R) (f:=f)).2 ⟨b,hb,.inr (.inl ⟨k,j,hkx,hj',rfl⟩)⟩;obtain⟨d',m1,m2,m3,m4⟩:=mL J R hu' hb rfl (show(0:Int)<=(k:Int) by omega);rw[hof]at m4;refine⟨d',m1,?_,?_,?_⟩
     ·rw[m2,e];exact(HJ hj').symm
     ·rw[m3,e];rfl
     ·rw[e];simpa using m4
    ·have hky:k-(bA f b).Ops.length<(bA f y).Ops.length:=by omega
     have h2:=(sv J R hy.1 hky).2
     have hof:offJ f b y y=(bA f b).Ops.length:=by unfold offJ;rw[if_pos rfl]
     rw[hof,pe J R,show k-(bA f b).Ops.length+(bA f b).Ops.length=k by omega]at h2;rw[h2]at e hj
     have hj':j<((bA f y).Ops.getD (k-(bA f b).Ops.length) default).Args.length:=by have:j<(List.map _ _).length:=hj;rwa[Dn]at this
     have hu':=(H0 (G7 R) (f:=f)).2 ⟨y,hy.1,.inr (.inl ⟨k-(bA f b).Ops.length,j,hky,hj',rfl⟩)⟩;obtain⟨d',m1,m2,m3,m4⟩:=mL J R hu' hy.1 rfl (show(0:Int)<=((k-(bA f b).Ops.length:Nat):Int) by omega);rw[hof,pe J R]at m4;refine⟨d',m1,?_,?_,?_⟩
     ·rw[m2,e];exact(HJ hj').symm
     ·rw[m3,e];rfl
     ·rw[e]
      have e4:(((k-(bA f b).Ops.length:Nat):Int)+((bA f b).Ops.length:Int))=(k:Int):=by omega
      have m4':kw (B9 f b y) d' (psJ b y b:Int) (((k-(bA f b).Ops.length:Nat):Int)+((bA f b).Ops.length:Int)):=m4;rw[e4]at m4';exact m4'
   ·have ho:=jR J R hb hby ex;rw[ho,Dn]at hk';have h2:=(sv J R hb hk').2
    have hof:offJ f x y b=0:=by unfold offJ;rw[if_neg hby]
    rw[hof,M9]at h2;rw[h2]at e hj
    have hj':j<((bA f b).Ops.getD k default).Args.length:=by have:j<(List.map _ _).length:=hj;rwa[Dn]at this
    have hu':=(H0 (G7 R) (f:=f)).2 ⟨b,hb,.inr (.inl ⟨k,j,hk',hj',rfl⟩)⟩;obtain⟨d',m1,m2,m3,m4⟩:=mL J R hu' hb rfl (show(0:Int)<=(k:Int) by omega);rw[hof]at m4;refine⟨d',m1,?_,?_,?_⟩
    ·rw[m2,e];exact(HJ hj').symm
    ·rw[m3,e];rfl
    ·rw[e];simpa using m4
  ·rw[PP J hs hb hby]at hK e;have hu':=(H0 (G7 R) (f:=f)).2 ⟨_,hsc,.inr (.inr (.inl ⟨hK,rfl⟩))⟩;obtain⟨d',m1,m2,m3,m4⟩:=mL J R hu' hsc rfl (show(0:Int)<=1000 by omega);rw[hpsrc]at m4;rw[e];exact⟨d',m1,m2,m3,hcap m1 m4⟩
  ·rw[PP J hs hb hby]at hK e;have hu':=(H0 (G7 R) (f:=f)).2 ⟨_,hsc,.inr (.inr (.inr ⟨hK,rfl⟩))⟩;obtain⟨d',m1,m2,m3,m4⟩:=mL J R hu' hsc rfl (show(0:Int)<=1000 by omega);rw[hpsrc]at m4;rw[e];exact⟨d',m1,m2,m3,hcap m1 m4⟩
end
theorem Aak{f:TFunc}{x y:Nat}{l:Int}(J:Jn f x y)(R:Yr f l)(hN:Nw f):Nw (B9 f x y):=by
 have hs:=Bc R;have hmx:maxLen=9223372036854775807:=Pw;have hsz:=fk J R;have hszf:=hN.size
 have hblk:∀ b∈(B9 f x y).Blocks,Dm b<=512:=λb hb=>by
  obtain⟨k,hk,e⟩:=Gr hb;have:=Ud (F:=λb=>Dm (bA (B9 f x y) b)) hk;rw[<- Jh]at this
  have e':bA (B9 f x y) k=b:=by unfold bA;rw[Ab _ _ _ hk];exact e
  simp only[e']at this;omega
 have hto:∀ b∈(B9 f x y).Blocks,b.End.To.length<=2:=λb hb=>by
  obtain⟨c,hc,hcy,_,e1,e2,e3,hsc⟩:=ck J R hb;rw[e3]
  show(List.map _ _).length<=2
  rw[Dn];exact hN.to _ (Ag (d:=default) hsc)
 have hphi:∀ b∈(B9 f x y).Blocks,∀ p∈b.Phis,p.From.length<=16/\p.Args.length<=16:=λb hb p hp=>by
  obtain⟨c,hc,hcy,_,e1,e2,e3,hsc⟩:=ck J R hb;rw[e1]at hp;obtain⟨q,hq,rfl⟩:=zzL20.1 hp;obtain⟨q1,q2⟩:=Tf R hc hq;obtain⟨_,p2,p3,_⟩:=OB J hs (v:=vJ f y) hc hcy q1 q2;rw[p2,p3];exact hN.phi _ (Ag (d:=default) hc) q hq
 have hop:∀ b∈(B9 f x y).Blocks,∀ o∈b.Ops,o.Args.length<=16/\0<=o.Imm/\o.Imm<18446744073709551616:=λb hb o ho=>by
  obtain⟨c,hc,hcy,_,e1,e2,e3,hsc⟩:=ck J R hb;obtain⟨d,hd,o',ho',rfl⟩:=e2 o ho;have h1:=hN.op _ (Ag (d:=default) hd) o' ho';have h2:=hN.inf.op _ (Ag (d:=default) hd) o' ho';refine⟨?_,h2.2⟩
  show(List.map _ _).length<=_
  rw[Dn];exact h1
 refine⟨⟨hN.inf.params,?_,λb hb=>?_,λb hb p hp=>?_,λb hb o ho=>?_⟩,hN.params,hto,hphi,λb hb o ho=>(hop b hb o ho).1,by omega⟩
 ·rw[Ol J];have:=hN.inf.blocks;omega
 ·have:=hblk b hb;have h2:=hto b hb;unfold Dm at this;omega
 ·have:=hphi b hb p hp;omega
 ·have:=hop b hb o ho;exact⟨by omega,this.2⟩
theorem cl{f:TFunc}{x y:Nat}{l:Int}(J:Jn f x y)(R:Yr f l)(hN:Nw f):Yr (B9 f x y) l/\Nw (B9 f x y):=
 have hn:=Aak J R hN
 ⟨fm J R hN.size (jt (jb hn) (uo J R hN.size)),hn⟩
theorem pD{α σ S X:Type}(l:List α)(d:α)(mk:Nat->σ->S)(P:Nat->σ->Prop)(g:σ->α->σ)(out:σ->X)(f:S->Option (LR S X))
  (hn:∀ i s,i<l.length->P i s->f (mk i s)=some (.next (mk (i+1) (g s (l.getD i d))))/\P (i+1) (g s (l.getD i d)))
  (hd:∀ s,P l.length s->f (mk l.length s)=some (.done (out s))):∀(k i:Nat) (s:σ),i+k=l.length->P i s->Ac f (mk i s)=some (out ((l.drop i).foldl g s))/\P l.length ((l.drop i).foldl g s)
 | 0,i,s,h,hP=>by
  obtain rfl:i=l.length:=by omega
  rw[Am (hd s hP)]
  simpa using hP
 | k+1,i,s,h,hP=>by
  have hi:i<l.length:=by omega
  obtain⟨h1,h2⟩:=hn i s hi hP;obtain⟨h3,h4⟩:=pD l d mk P g out f hn hd k (i+1) _ (by omega) h2
  have hdr:l.drop i=l.getD i d::l.drop (i+1):=by simp_all
  rw[Aq h1,h3,hdr];exact⟨rfl,h4⟩
theorem DJ{α σ S X:Type}(l:List α)(d:α)(mk:Nat->σ->S)(P:Nat->σ->Prop)(g:σ->α->σ)(out:σ->X)(f:S->Option (LR S X))
  (hn:∀ i s,i<l.length->P i s->f (mk i s)=some (.next (mk (i+1) (g s (l.getD i d))))/\P (i+1) (g s (l.getD i d)))
  (hd:∀ s,P l.length s->f (mk l.length s)=some (.done (out s))) (s:σ) (hP:P 0 s):Ac f (mk 0 s)=some (out (l.foldl g s))/\P l.length (l.foldl g s):=
 pD l d mk P g out f hn hd l.length 0 s (by omega) hP
theorem WJ{α β:Type}(F:α->β):∀(l:List α) (k:Nat) (s:List β),s.length=k+l.length->(l.foldl (λ(t:Nat×List β) b=>(t.1+1,t.2.set t.1 (F b))) (k,s)).2=s.take k++l.map F
 | [],k,s,h=>by simp at h;simp[<- h]
 | b::l,k,s,h=>by
  simp only[EW]at h;rw[IG,WJ F l (k+1) (s.set k (F b)) (by simp;omega),Cq]
  have e:(s.set k (F b)).take (k+1)=s.take k++[F b]:=by
   rw[List.take_add_one,List.take_set_of_le (by omega)];simp[List.getElem?_set,show k<s.length by omega]
  rw[e,EU];rfl
theorem ZX{α β X:Type}(l:List α)(d:α)(F:α->β)(out:List β->X)(f:Int×List β->Option (LR (Int×List β) X))(hn:∀(i:Nat) (s:List β),i<l.length->s.length=l.length->f ((i:Int),s)=some (.next (((i+1:Nat):Int),s.set i (F (l.getD i d)))))
  (hd:∀ s,f ((l.length:Int),s)=some (.done (out s))) (s:List β) (hs:s.length=l.length):Ac f ((0:Int),s)=some (out (l.map F)):=by
 have key:=DJ l d (λi (t:Nat×List β)=>((i:Int),t.2)) (λi t=>t.1=i/\t.2.length=l.length) (λt b=>(t.1+1,t.2.set t.1 (F b))) (λt=>out t.2) f
  (λi t hi hP=>by obtain⟨h1,h2⟩:=hP;subst h1;exact⟨hn _ _ hi h2,rfl,by simpa using h2⟩) (λt _=>hd t.2) (0,s) ⟨rfl,hs⟩
 have:=key.1;rw[WJ F l 0 s (by omega)]at this
 simpa using this
theorem pC{α β X:Type}(l:List α)(d:α)(q:α->Option β)(out:β->X)(no:X)(f:Int->Option (LR Int X))(hn:∀ i,i<l.length->q (l.getD i d)=none->f (i:Int)=some (.next (((i+1:Nat):Int))))
  (hf:∀ i,i<l.length->∀ b,q (l.getD i d)=some b->f (i:Int)=some (.done (out b))) (he:f (l.length:Int)=some (.done no)):Ac f (0:Int)=some (match l.findSome? q with|some b=>out b|none=>no):=by
 have key:∀ k i:Nat,i+k=l.length->Ac f (i:Int)=some (match(l.drop i).findSome? q with|some b=>out b|none=>no):=by
  intro k
  induction k with
  | zero=>
   intro i h
   obtain rfl:i=l.length:=by omega
   rw[Am he];simp
  | succ k ih=>
   intro i h
   have hi:i<l.length:=by omega
   have hdr:l.drop i=l.getD i d::l.drop (i+1):=by simp_all
   rw[hdr,List.findSome?_cons]
   cases hq:q (l.getD i d) with
   | some b=>rw[Am (hf i hi b hq)]
   | none=>rw[Aq (hn i hi hq),ih (i+1) (by omega)]
 have:=key l.length 0 (by omega)
 simpa using this
theorem oq{a b:Nat}(h:a+b<4000000):w64 (Wu .u64 (Iu (w64 ((a:Int)+(b:Int)))) (1:Int))=(((a+b) / 2:Nat):Int):=by
 have e:((a:Int)+(b:Int))=((a+b:Nat):Int):=by omega
 rw[e,He (n:=((a+b:Nat):Int)) (by omega) (by omega),IC (by omega) (by omega)];unfold Wu;rw[show(1:Int).toNat=1 from rfl,show min 1 IntKind.u64.bits=1 from rfl,show(2:Int) ^ 1=2 from rfl,Int.fdiv_eq_ediv_of_nonneg _ (by omega),He (by omega) (by omega)];omega
theorem lZ{l:List Int}(hs:l.Pairwise (·<·))(hl:l.length<=1000)(x:Int):∃(i:Nat) (b:Bool),Fe l x=some ((i:Int),b)/\i<=l.length/\(∀ k,k<i->l.getD k 0<x)/\∀ k,i<=k->k<l.length->x<=l.getD k 0:=by
 have hmono:∀ i j,i<j->j<l.length->l.getD i 0<l.getD j 0:=λi j hij hj=>by
  rw[Ab _ _ _ hj,Ab _ _ _ (by omega)];exact zzL91.1 hs i j (by omega) hj hij
 have key:∀ d (a b:Nat),b-a<=d->a<=b->b<=l.length->(∀ k,k<a->l.getD k 0<x)->(∀ k,b<=k->k<l.length->x<=l.getD k 0)->
   ∃ i:Nat,Ac (B4 l x) ((a:Int),(b:Int))=some (i:Int)/\i<=l.length/\(∀ k,k<i->l.getD k 0<x)/\∀ k,i<=k->k<l.length->x<=l.getD k 0:=by
  intro d
  induction d with
  | zero=>
   intro a b h1 h2 h3 h4 h5
   obtain rfl:a=b:=by omega
   refine⟨a,Am ?_,h3,h4,h5⟩;unfold B4;simp only[Co,Au]
  | succ d ih=>
   intro a b h1 h2 h3 h4 h5
   by_cases hab:a<b
   ·have hm:(a+b) / 2<l.length:=by omega
    have e:B4 l x ((a:Int),(b:Int))=some (.next (bif decide (l.getD ((a+b) / 2) 0<x) then((((a+b) / 2+1:Nat):Int),(b:Int)) else((a:Int),(((a+b) / 2:Nat):Int)))):=by
     unfold B4 Tu Pe;simp only[Bt hab,Ah,oq (show a+b<4000000 by omega),Aa (Ai hm),Ak,An,bne_self_eq_false,w1 (show(a+b) / 2<4611686018427387904 by omega)]
     cases decide (l.getD ((a+b) / 2) 0<x)<;>rfl
    rw[Aq e]
    by_cases hx:l.getD ((a+b) / 2) 0<x
    ·rw[Dr hx,Ah];refine ih _ _ (by omega) (by omega) h3 (λk hk=>?_) h5;rcases zzL124 k ((a+b) / 2) with h6|h6
     ·exact Int.lt_trans (hmono k _ h6 hm) hx
     ·obtain rfl:k=(a+b) / 2:=by omega
      exact hx
    ·rw[C9 hx,Au];refine ih _ _ (by omega) (by omega) (by omega) h4 (λk hk hkl=>?_);rcases zzL124 ((a+b) / 2) k with h6|h6
     ·have:=hmono _ k h6 hkl;omega
     ·obtain rfl:k=(a+b) / 2:=by omega
      omega
   ·exact ih a b (by omega) h2 h3 h4 h5
 obtain⟨i,h1,h2,h3,h4⟩:=key l.length 0 l.length (by omega) (by omega) (zzL6 _) (λk hk=>by omega) (λk hk hk2=>by omega);have h1':Ac (B4 l x) ((0:Int),(l.length:Int))=some (i:Int):=h1;unfold Fe Me;rw[h1',An]
 have hin:(decide ((i:Int)<(l.length:Int)))=true->A1 (i:Int) l.length:=λh=>by have:=KG h;exact⟨by omega,this⟩
 rw[Aa (λh=>hin (by simpa using h)),Aa (λh=>hin (by simp at h;simpa using h.1))];simp only[bne_self_eq_false];refine⟨i,(bif decide ((i:Int)<(l.length:Int)) then(bif (l.getD (i:Int).toNat 0==x) then true else(bif false then false else false)) else false),?_,h2,h3,h4⟩
 have e:∀ b:Bool,(bif b then some false else some false)=some false:=λb=>by cases b<;>rfl
 rw[e,An];simp only[Bool.and_false,show((false:Bool)==true)=false from rfl,Au,An]
theorem dL{V:Type}(k v:Int)(x:V):∀ l:List (Int×V),Ed (Jm l k x) v=(v==k || Ed l v)
 | []=>by simp[Jm,Ed]
 | (a,b)::r=>by
  unfold Jm
  cases h:(k==a) with
  | true=>
   have:k=a:=eq_of_beq h;subst this;simp[Ed]
  | false=>
   simp only[Au,Ed,dL k v x r]
   cases v==a<;>cases v==k<;>rfl
theorem dK{V:Type}(d:V)(k v:Int)(x:V):∀ l:List (Int×V),Fx d (Jm l k x) v=bif v==k then x else Fx d l v
 | []=>by simp[Jm,Fx]
 | (a,b)::r=>by
  unfold Jm
  cases h:(k==a) with
  | true=>
   have:k=a:=eq_of_beq h;subst this;simp only[Ah,Fx]
   cases v==k<;>rfl
  | false=>
   simp only[Au,Fx,dK d k v x r]
   cases h1:(v==a) with
   | true=>
    have:v=a:=eq_of_beq h1;subst this
    have:(v==k)=false:=by
     cases h2:(v==k) with
     | false=>rfl
     | true=>have:=eq_of_beq h2;subst this;simp at h
    rw[this];rfl
   | false=>rfl
def Lz(l:List (Int×Int))(v:Int):Int:=bif Ed l v then Fx 0 l v else v
theorem NP(v x y:Int)(l:List (Int×Int)):G6 v x y l=some (Lz l v):=by
 unfold G6 Lz
 cases Ed l v<;>rfl
theorem iz{x y a:Nat}(hx:x<1000000)(h:a<1000000)(l:List (Int×Int)):Kz (a:Int) (x:Int) (y:Int) l=some ((psJ x y a:Nat):Int):=by
 unfold Kz psJ
 have key:∀ z:Nat,((Option.bind (α:=Int) (bif decide (((y:Nat):Int)<(z:Int)) then some (w64 ((z:Int)-1)) else some (z:Int)) λx5=>some x5):Option Int)=some (((if y<z then z-1 else z:Nat)):Int)\/¬ z<4000000:=λz=>by
  by_cases hz:z<4000000
  ·left
   by_cases hy:y<z
   ·rw[Dr (by omega),Ah,if_pos hy,He (by omega) (by omega)]
    show some _=some _
    congr 1;omega
   ·rw[C9 (by omega),Au,if_neg hy];rfl
  ·exact .inr hz
 by_cases e:a=y
 ·subst e;rw[show((a:Int)==(a:Int))=true by simp,Ah,An,if_pos rfl];rcases key x with h|h
  ·exact h
  ·omega
 ·rw[show((a:Int)==(y:Int))=false by rw[zzL29];omega,Au,An,if_neg e];rcases key a with h|h
  ·exact h
  ·omega
theorem qJ(l:List (Int×Int))(k v x:Int):Lz (Jm l k x) v=bif v==k then x else Lz l v:=by
 unfold Lz;rw[dL,dK]
 cases v==k<;>rfl
theorem mM{ps:List Ba}{p:Ba}(h:∀ q∈ps,q.Dst≠p.Dst)(v:Int):VP (ps++[p]) v=bif v==p.Dst then p.Args.getD 0 0 else VP ps v:=by
 unfold VP;rw[List.find?_append]
 by_cases e:v=p.Dst
 ·subst e;rw[List.find?_eq_none.2 (λq hq=>by simpa using h q hq)]
  simp
 ·rw[show(v==p.Dst)=false by rw[zzL29];exact e,Au]
  have:(p.Dst==v)=false:=by rw[zzL29];exact λh=>e h.symm
  cases ps.find? (λp=>p.Dst==v) with
  | some q=>rfl
  | none=>simp[this]
section
variable {f:TFunc} {x y:Nat} {l:Int} (J:Jn f x y) (R:Yr f l)
include J R
theorem jo{b:Nat}(hb:b<f.Blocks.length):((bA f b).Phis.map (·.Dst)).Nodup:=by
 have:=((nodup_split f).1 (Xh (DP R).1)).1 b hb;unfold UF at this;exact(List.nodup_append.1 this).1
theorem pc{p:Ba}(hp:p∈(bA f y).Phis):(bA f y).Phis.find? (λq=>q.Dst==p.Dst)=some p:=by
 have hy:=(LH J (Bc R)).1;have hn:=jo J R hy
 cases hq:(bA f y).Phis.find? (λq=>q.Dst==p.Dst) with
 | none=>have:=List.find?_eq_none.1 hq p hp;simp at this
 | some q=>
  have hm:=List.mem_of_find?_eq_some hq
  have he:q.Dst=p.Dst:=by simpa using List.find?_some hq
  obtain⟨i,hi,rfl⟩:=Gr hm;obtain⟨j,hj,rfl⟩:=Gr hp;have:=(List.getElem_inj (h₀:=show i<((bA f y).Phis.map (·.Dst)).length by simpa using hi) (h₁:=show j<((bA f y).Phis.map (·.Dst)).length by simpa using hj) hn).1 (by simpa using he);subst this;rfl
theorem sI{p:Ba}(hp:p∈(bA f y).Phis):∀ q∈(bA f y).Phis,q.Dst≠p.Args.getD 0 0:=λq hq e=>by
 have hy:=LH J (Bc R);obtain⟨_,_,hd⟩:=YC J R hp;obtain⟨_,_,hdq⟩:=YC J R hq;obtain⟨d,hd',hv,_,_,hn⟩:=qI J R hd hy.1 (a:=0) (Int.le_refl _) (.inr (.inl ⟨rfl,by show(-1:Int)<0;omega⟩))
 have hv2:d.V=p.Args.getD 0 0:=by
  rw[hv];unfold vJ VP;rw[pc J R hp]
 have:=pp R hd' hdq (by rw[hv2,<- e]);rw[this]at hn;exact hn ⟨rfl,rfl⟩
def HI(ps:List Ba):List (Int×Int):=ps.foldl (λl p=>Jm l p.Dst (p.Args.getD 0 0)) []
theorem dF(i:Nat)(hi:i<=(bA f y).Phis.length)(v:Int):Lz (HI ((bA f y).Phis.take i)) v=VP ((bA f y).Phis.take i) v:=by
 have hy:=(LH J (Bc R)).1;have hn:=jo J R hy
 induction i with
 | zero=>rfl
 | succ i ih=>
  have hi':i<(bA f y).Phis.length:=by omega
  have e:(bA f y).Phis.take (i+1)=(bA f y).Phis.take i++[(bA f y).Phis[i]]:=by rw[List.take_add_one,P3 hi'];rfl
  rw[e,mM]
  ·unfold HI;rw[List.foldl_append]
   show Lz (Jm (HI ((bA f y).Phis.take i)) _ _) v=_
   rw[qJ,ih (by omega)]
  ·intro q hq he;obtain⟨k,hk,rfl⟩:=Gr hq;rw[Wz]at hk;rw[List.getElem_take]at he;have:=(List.getElem_inj (h₀:=show k<((bA f y).Phis.map (·.Dst)).length by rw[Dn];omega) (h₁:=show i<((bA f y).Phis.map (·.Dst)).length by simpa using hi') hn).1 (by simpa using he);omega
theorem oD(hs:(bA f y).Phis.length<4611686018427387904):Ac (G4 f (x:Int) (y:Int)) ((0:Int),([]:List (Int×Int)))=some (HI (bA f y).Phis):=by
 have hy:=(LH J (Bc R)).1;refine De (G4 f (x:Int) (y:Int)) (λi=>((i:Int),HI ((bA f y).Phis.take i))) (HI (bA f y).Phis) (bA f y).Phis.length (λi hi=>?_) ?_
 ·have hp:=Ag (d:=(default:Ba)) hi;have ha:=(YC J R hp).1;have hi2:((f.Blocks.getD y default).Phis).getD i default=(bA f y).Phis[i]:=Ab _ _ _ hi
  have e:(bA f y).Phis.take (i+1)=(bA f y).Phis.take i++[(bA f y).Phis.getD i default]:=by rw[List.take_add_one,P3 hi,Ab _ _ _ hi];rfl
  have hv:Lz (HI ((bA f y).Phis.take i)) (((bA f y).Phis.getD i default).Args.getD 0 0)=((bA f y).Phis.getD i default).Args.getD 0 0:=by
   rw[dF J R i (by omega)];unfold VP;rw[List.find?_eq_none.2];intro q hq;have:=sI J R hp q (List.mem_of_mem_take hq)
   simpa using this
  have hA:A1 (0:Int) (((f.Blocks.getD y default).Phis).getD i default).Args.length:=by
   rw[show(((f.Blocks.getD y default).Phis).getD i default).Args.length=1 from ha];exact⟨by omega,by omega⟩
  unfold G4;simp only[Ak];rw[Bt hi,Ah,Aa (Ai hi),Aa hA,NP,An,w1 (show i<4611686018427387904 by omega)];rw[show Lz (HI ((bA f y).Phis.take i)) ((((f.Blocks.getD y default).Phis).getD i default).Args.getD (0:Int).toNat 0)=_ from hv];rw[e];unfold HI;rw[List.foldl_append];rfl
 ·unfold G4;simp only[Ak];rw[Co,Au,W0]
end
theorem wD{L:List Int}{x y:Int}{m:List (Int×Int)}(hl:L.length<=1000000):Uy L x y m=some (L.map (Lz m)):=by
 have hroom:(1000001:Nat)<=room:=by decide
 unfold Uy
 rw[Aa (by omega),ZX L (0:Int) (Lz m) id (Qw L x y m) (λi s hi hs=>by
  unfold Qw;simp only[Bt hi,Ah,Aa (Ai hi),Ak,NP,An,w1 (show i<4611686018427387904 by omega)]
  rw[Aa (by rw[hs];exact Ai hi)]) (λs=>by unfold Qw;simp only[Co,Au];rfl) _ (by simp)]
 rfl
theorem sV{L:List Int}{x y:Nat}{m:List (Int×Int)}(hx:x<1000000)(hl:L.length<=1000000)(h:∀ z∈L,0<=z/\z<1000000):Qx L (x:Int) (y:Int) m=some (L.map (lu x y)):=by
 have hroom:(1000001:Nat)<=room:=by decide
 unfold Qx
 rw[Aa (by omega),ZX L (0:Int) (lu x y) id (M5 L (x:Int) (y:Int) m) (λi s hi hs=>by
  obtain⟨h0,h1⟩:=h _ (Ag (d:=(0:Int)) hi);obtain⟨a,ha⟩:∃ a:Nat,L.getD i 0=(a:Int):=⟨(L.getD i 0).toNat,by omega⟩;unfold M5;simp only[Bt hi,Ah,Aa (Ai hi),Ak,w1 (show i<4611686018427387904 by omega)]
  rw[ha,iz hx (by omega),An,Aa (by rw[hs];exact Ai hi),Pi]) (λs=>by unfold M5;simp only[Co,Au];rfl) _ (by simp)]
 rfl
theorem WN{e:Int×Int}:∀{n:Nat} {l:List (Int×Int)},n<=l.length->(∀ k,k<n->(l.map (·.1)).getD k 0<e.1)->(∀ k,n<=k->k<l.length->e.1<=(l.map (·.1)).getD k 0)->MZ l e=l.take n++e::l.drop n
 | 0,[],_,_,_=>rfl
 | 0,p::l,_,_,h2=>by
  rw[DE];have:=h2 0 (zzL6 _) (by simp);simp at this;rw[if_neg (by omega)];rfl
 | n+1,[],h,_,_=>by simp at h
 | n+1,p::l,h,h1,h2=>by
  rw[DE];have h0:=h1 0 (by omega);simp at h0;rw[if_pos h0,WN (n:=n) (by simpa using h) (λk hk=>by have:=h1 (k+1) (by omega);simpa using this) (λk hk hl=>by have:=h2 (k+1) (by omega) (by simpa using hl);simpa using this)]
  rfl
theorem yZ{p:Ba}{x y:Nat}{m:List (Int×Int)}(hx:x<1000000)(hl:p.From.length<=500)(h2:p.Args.length=p.From.length)(h:∀ z∈p.From,0<=z/\z<1000000)(hn:((Ox (Lz m) x y p).map (·.1)).Nodup) :
  Ph p (x:Int) (y:Int) m=some (NH (Lz m) x y p):=by
 have hroom:(1000001:Nat)<=room:=by decide
 have hzl:=kC (v:=Lz m) (x:=x) (y:=y) h2;have key:=De (Jk p (x:Int) (y:Int) m) (λi=>((i:Int),(Zx ((Ox (Lz m) x y p).take i)).map (·.1),(Zx ((Ox (Lz m) x y p).take i)).map (·.2))) ((Zx (Ox (Lz m) x y p)).map (·.1),(Zx (Ox (Lz m) x y p)).map (·.2)) p.From.length (λi hi=>?_) ?_
 ·unfold Ph;have key':Ac (Jk p (x:Int) (y:Int) m) ((0:Int),([]:List Int),([]:List Int))=_:=key;rw[key',An];rfl
 ·have hi':i<(Ox (Lz m) x y p).length:=by omega
  have hia:i<p.Args.length:=by omega
  obtain⟨h0,h1⟩:=h _ (Ag (d:=(0:Int)) hi);obtain⟨a,ha⟩:∃ a:Nat,p.From.getD i 0=(a:Int):=⟨(p.From.getD i 0).toNat,by omega⟩
  have ez:(Ox (Lz m) x y p)[i]=(((psJ x y a:Nat):Int),Lz m (p.Args.getD i 0)):=by
   have h':i<(List.zip (p.From.map (lu x y)) (p.Args.map (Lz m))).length:=hi'
   show(List.zip (p.From.map (lu x y)) (p.Args.map (Lz m)))[i]'h'=_
   rw[List.getElem_zip,List.getElem_map,List.getElem_map,<- Ab _ _ (0:Int) hi,<- Ab _ _ (0:Int) hia,ha,Pi]
  have et:(Ox (Lz m) x y p).take (i+1)=(Ox (Lz m) x y p).take i++[(Ox (Lz m) x y p)[i]]:=by rw[List.take_add_one,P3 hi'];rfl
  have es:Zx ((Ox (Lz m) x y p).take (i+1))=MZ (Zx ((Ox (Lz m) x y p).take i)) (((psJ x y a:Nat):Int),Lz m (p.Args.getD i 0)):=by
   rw[et,ez];unfold Zx;rw[List.foldl_append];rfl
  have hnt:(((Ox (Lz m) x y p).take i).map (·.1)).Nodup:=by
   rw[List.map_take];exact hn.sublist (List.take_sublist ..)
  obtain⟨k1,k2⟩:=jv hnt
  generalize hA:Zx ((Ox (Lz m) x y p).take i)=A at *
  have hAl:A.length=i:=by rw[k1.length_eq,Wz];omega
  have hsrt:(A.map (·.1)).Pairwise (·<·):=by rw[List.pairwise_map];exact k2
  obtain⟨n,b,s1,s2,s3,s4⟩:=lZ hsrt (by rw[Dn];omega) ((psJ x y a:Nat):Int);rw[Dn]at s2;have hins:=WN (e:=(((psJ x y a:Nat):Int),Lz m (p.Args.getD i 0))) s2 s3 (λk hk hkl=>s4 k hk (by rw[Dn];exact hkl))
  have hI:∀(M:List Int) (z:Int),M.length=A.length->CC M (n:Int) [z]=some (M.take n++[z]++M.drop n,M.take n++[z]++M.drop n,[z]):=λM z hM=>by
   unfold CC;rw[Aa ⟨by omega,by omega,by simp,by simp;omega⟩,Ak]
  unfold Jk;simp only[Bt hi,Ah,Aa (Ai hi),Ak,ha,iz hx (show a<1000000 by omega),An,s1];rw[hI _ _ (by rw[Dn]),An]
  dsimp only
  rw[Aa (show 1=[((psJ x y a:Nat):Int)].length from rfl),Aa (Ai hia),NP,An,hI _ _ (by rw[Dn]),An]
  dsimp only
  rw[Aa (show 1=[Lz m (p.Args.getD i 0)].length from rfl),w1 (show i<4611686018427387904 by omega),es,hins];simp[List.map_take,List.map_drop]
 ·unfold Jk;simp only[Co,Au];rw[show(Ox (Lz m) x y p).take p.From.length=Ox (Lz m) x y p by rw[<- hzl,W0]]
structure zX(v:Int->Int)(x y:Nat)(b:Ae):Prop where
 phis:b.Phis.length<=100000
 ops:b.Ops.length<=1000000
 to:b.End.To.length<=1000000/\∀ z∈b.End.To,0<=z/\z<1000000
 phi:∀ p∈b.Phis,p.From.length<=500/\p.Args.length=p.From.length/\(∀ z∈p.From,0<=z/\z<1000000)/\((Ox v x y p).map (·.1)).Nodup
 op:∀ o∈b.Ops,o.Args.length<=1000000
theorem sS{b:Ae}{x y:Nat}{m:List (Int×Int)}(hx:x<1000000)(h:zX (Lz m) x y b):Kw b (x:Int) (y:Int) m=some (GR (Lz m) x y b):=by
 have hroom:(1000001:Nat)<=room:=by decide
 have hph:=h.phis;have hop:=h.ops;unfold Kw
 rw[Aa (by omega),ZX b.Phis (default:Ba) (NH (Lz m) x y) id (Kx b (x:Int) (y:Int) m) (λi s hi hs=>by
  obtain⟨p1,p2,p3,p4⟩:=h.phi _ (Ag (d:=default) hi);unfold Kx;simp only[Bt hi,Ah,Aa (Ai hi),Ak,yZ hx p1 p2 p3 p4,An,w1 (show i<4611686018427387904 by omega)]
  rw[Aa (by rw[hs];exact Ai hi)]) (λs=>by unfold Kx;simp only[Co,Au];rfl) _ (by simp),An]
 dsimp only[id]
 rw[Aa (by omega),ZX b.Ops (default:B2) (ma (Lz m)) id (Ky b (x:Int) (y:Int) m) (λi s hi hs=>by
  unfold Ky;simp only[Bt hi,Ah,Aa (Ai hi),Ak,wD (h.op _ (Ag (d:=default) hi)),An,w1 (show i<4611686018427387904 by omega)]
  rw[Aa (by rw[hs];exact Ai hi)];rfl) (λs=>by unfold Ky;simp only[Co,Au];rfl) _ (by simp),An]
 dsimp only[id]
 rw[NP,An,sV hx h.to.1 h.to.2,An]
 rfl
theorem oG{a b:List B2}(h:a.length+b.length<=1000000):Ff [a,b]=some (a++b):=by
 have hroom:(1000001:Nat)<=room:=by decide
 unfold Ff
 have h1:Ac (Cr [a,b]) ((0:Int),(0:Int))=some (((a.length+b.length:Nat)):Int):=by
  rw[Aq (s':=((a.length:Int),(1:Int))) (by
   unfold Cr
   show(Option.bind (α:=Unit) (A0 (A1 (0:Int) 2) (bif decide (w64 ((0:Int)+(a.length:Int))<0) then none else some ())) _)=_
   rw[He (by omega) (by omega),C9 (by omega),Aa ⟨by omega,by omega⟩,Au,An]
   show some (LR.next (w64 ((0:Int)+(a.length:Int)),w64 ((0:Int)+1)))=_
   rw[show w64 ((0:Int)+1)=1 from rfl,He (n:=(0:Int)+(a.length:Int)) (by omega) (by omega),Int.zero_add]),Aq (s':=(((a.length+b.length:Nat):Int),(2:Int))) (by
   unfold Cr
   show(Option.bind (α:=Unit) (A0 (A1 (1:Int) 2) (bif decide (w64 ((a.length:Int)+(b.length:Int))<0) then none else some ())) _)=_
   rw[He (by omega) (by omega),C9 (by omega),Aa ⟨by omega,by omega⟩,Au,An]
   show some (LR.next (w64 ((a.length:Int)+(b.length:Int)),w64 ((1:Int)+1)))=_
   rw[show w64 ((1:Int)+1)=2 from rfl,He (n:=(a.length:Int)+(b.length:Int)) (by omega) (by omega)];rfl),Am (by
   unfold Cr
   rfl)]
 rw[h1,An];unfold g8;rw[Aa ⟨by omega,by omega⟩,An]
 have h2:Ac (Cs [a,b]) (([]:List B2),(0:Int))=some (a++b):=by
  rw[Aq (s':=(a,(1:Int))) (by
   unfold Cs
   show A0 (A1 (0:Int) 2) (A0 (0+a.length<=room) (some (LR.next ([]++a,w64 (0+1)))))=_
   rw[Aa ⟨by omega,by omega⟩,Aa (by omega)];rfl),Aq (s':=(a++b,(2:Int))) (by
   unfold Cs
   show A0 (A1 (1:Int) 2) (A0 (a.length+b.length<=room) (some (LR.next (a++b,w64 (1+1)))))=_
   rw[Aa ⟨by omega,by omega⟩,Aa (by omega)];rfl),Am (by
   unfold Cs
   rfl)]
 rw[h2];rfl
theorem jL{y:Nat}:∀ n,((List.range n).filter λb=>decide (b≠y))=if y<n then(List.range (n-1)).map (IM y) else List.range n
 | 0=>by simp
 | n+1=>by
  rw[Vf,Vc,jL n]
  by_cases h:y<n
  ·obtain⟨m,rfl⟩:∃ m,n=m+1:=⟨n-1,by omega⟩
   have e:IM y m=m+1:=by rcases up_eq y m with h|h<;>omega
   rw[if_pos h,if_pos (by omega),show m+1+1-1=m+1 by omega,show m+1-1=m by omega,Vf,Ve];simp[show ¬ m+1=y by omega,e]
  ·rw[if_neg h]
   by_cases e:n=y
   ·subst e;rw[if_pos (by omega),show n+1-1=n by omega]
    simp
    apply CI
    ·simp
    ·intro i h1 h2;simp at h1 h2 ⊢;rcases up_eq n i with h|h<;>omega
   ·rw[if_neg (by omega)];simp[e]
section
variable {f:TFunc} {x y:Nat} {l:Int} (J:Jn f x y) (R:Yr f l) (hN:Nw f)
include J R hN
theorem okJ{v:Int->Int}{b:Nat}(hb:b<f.Blocks.length)(hby:b≠y):zX v x y (Kf f x y b):=by
 have hs:=Bc R;have hy:=(LH J hs).1;have h64:=(shape_iff.1 hs).1.2
 have hsz:∀ c,c<f.Blocks.length->Dm (bA f c)<=512:=λc hc=>by
  have:=Ud (F:=λb=>Dm (bA f b)) hc;rw[<- Jh]at this;have:=hN.size;omega
 have hto:∀ c,c<f.Blocks.length->(bA f c).End.To.length<=1000000/\∀ z∈(bA f c).End.To,0<=z/\z<1000000:=λc hc=>by
  have ht:(bA f c).End.To.length<=2:=hN.to _ (Ag (d:=default) hc);refine⟨by omega,λz hz=>?_⟩;obtain⟨w,rfl,hw,_⟩:=FR hs hc hz;omega
 have hphi:∀ p∈(bA f b).Phis,p.From.length<=500/\p.Args.length=p.From.length/\(∀ z∈p.From,0<=z/\z<1000000)/\((Ox v x y p).map (·.1)).Nodup:=λp hp=>by
  obtain⟨q1,q2⟩:=Tf R hb hp;have:=hN.phi _ (Ag (d:=default) hb) p hp;refine⟨by omega,q2,λz hz=>?_,?_⟩
  ·rw[q1]at hz;obtain⟨w,rfl,hw,_⟩:=(Q2 hs hb).1 hz;omega
  ·rw[OH q2,q1];exact uv J hs hb hby
 have hop:∀ c,c<f.Blocks.length->∀ o∈(bA f c).Ops,o.Args.length<=1000000:=λc hc o ho=>by
  have:=hN.op _ (Ag (d:=default) hc) o ho;omega
 have h1:=hsz b hb;have h2:=hsz x J.hx;have h3:=hsz y hy;unfold Dm at h1 h2 h3;unfold Kf
 split
 ·rename_i e
  subst e
  exact⟨by show(bA f b).Phis.length<=_;omega,by show((bA f b).Ops++(bA f y).Ops).length<=_;rw[Fg];omega,hto y hy,hphi,λo ho=>by
   rcases zzL11.1 ho with h|h
   ·exact hop b hb o h
   ·exact hop y hy o h⟩
 ·exact⟨by omega,by omega,hto b hb,hphi,hop b hb⟩
theorem lE:Fb f (x:Int) (y:Int)=some (B9 f x y,(x:Int),(y:Int),HI (bA f y).Phis):=by
 have hroom:(1000001:Nat)<=room:=by decide
 have hs:=Bc R;have hy:=(LH J hs).1;have h64:=(shape_iff.1 hs).1.2
 have hsz:∀ c,c<f.Blocks.length->Dm (bA f c)<=512:=λc hc=>by
  have:=Ud (F:=λb=>Dm (bA f b)) hc;rw[<- Jh]at this;have:=hN.size;omega
 have h2:=hsz x J.hx;have h3:=hsz y hy;unfold Dm at h2 h3
 have hv:Lz (HI (bA f y).Phis)=vJ f y:=by
  funext v
  have:=dF J R (bA f y).Phis.length (zzL6 _) v;rw[W0]at this;exact this
 have hxl:=J.hx;unfold Fb;rw[Aa (Ai J.hx),Aa (Ai hy),oD J R (by omega),An];simp only[Ak]
 have hcc:(f.Blocks.getD x default).Ops.length+(f.Blocks.getD y default).Ops.length<=1000000:=by
  have e1:(f.Blocks.getD x default).Ops.length<=512:=by show(bA f x).Ops.length<=512;omega
  have e2:(f.Blocks.getD y default).Ops.length<=512:=by show(bA f y).Ops.length<=512;omega
  omega
 rw[oG hcc,An];have key:=De (G5 f (x:Int) (y:Int) (HI (bA f y).Phis) ((f.Blocks.getD x default).Ops++(f.Blocks.getD y default).Ops))
  (λi=>((i:Int),((List.range i).filter λb=>decide (b≠y)).map λb=>GR (vJ f y) x y (Kf f x y b))) (B9 f x y).Blocks f.Blocks.length (λi hi=>by
   have hb:=sS (b:=Kf f x y i) (x:=x) (y:=y) (m:=HI (bA f y).Phis) (by omega);rw[hv]at hb
   have hlen:(((List.range i).filter λb=>decide (b≠y)).map λb=>GR (vJ f y) x y (Kf f x y b)).length<=i:=by
    rw[Dn];have:=List.length_filter_le (λb=>decide (b≠y)) (List.range i);rw[S4]at this;exact this
   have hr:((List.range (i+1)).filter λb=>decide (b≠y)).map (λb=>GR (vJ f y) x y (Kf f x y b))=(((List.range i).filter λb=>decide (b≠y)).map λb=>GR (vJ f y) x y (Kf f x y b))++(if i=y then[] else[GR (vJ f y) x y (Kf f x y i)]):=by
    rw[Vf,Vc,Ve]
    congr 1
    by_cases e:i=y<;>simp[e]
   rw[hr];unfold G5;simp only[Bt hi,Ah,Aa (Ai hi),Ak,w1 (show i<4611686018427387904 by omega)]
   by_cases ex:i=x
   ·have hiy:¬ i=y:=λe=>J.ne (e▸ex);rw[show((i:Int)==(x:Int))=true by rw[zzL63];omega,Ah,if_neg hiy]
    have hB:Kf f x y i=⟨(f.Blocks.getD x default).Phis,(f.Blocks.getD x default).Ops++(f.Blocks.getD y default).Ops,⟨(f.Blocks.getD y default).End.Kind,(f.Blocks.getD y default).End.Arg,(f.Blocks.getD y default).End.To⟩⟩:=by
     unfold Kf;rw[if_pos ex]
    have hok:zX (vJ f y) x y (Kf f x y i):=okJ J R hN hi hiy;have hb':=hb hok;rw[hB]at hb';rw[hb',An,Aa (by show _+1<=room;omega),An,<- hB]
   ·rw[show((i:Int)==(x:Int))=false by rw[zzL29];omega,Au]
    by_cases ey:i=y
    ·rw[show((i:Int)==(y:Int))=true by rw[zzL63];omega,Ah,if_pos ey,List.append_nil];rfl
    ·rw[show((i:Int)==(y:Int))=false by rw[zzL29];omega,Au,if_neg ey]
     have hB:Kf f x y i=f.Blocks.getD i default:=by unfold Kf;rw[if_neg ex]
     have hok:zX (vJ f y) x y (Kf f x y i):=okJ J R hN hi ey;have hb':=hb hok;rw[hB]at hb'
     rw[hb',An,Aa (by show _+1<=room;omega),An,hB])
  (by
   unfold G5;simp only[Co,Au]
   rw[jL,if_pos hy,List.map_map];rfl)
 have key':Ac (G5 f (x:Int) (y:Int) (HI (bA f y).Phis) ((f.Blocks.getD x default).Ops++(f.Blocks.getD y default).Ops)) ((0:Int),([]:List Ae))=_:=key;rw[key',An];rfl
end
def UT(f:TFunc)(i:Nat):Option (Nat×Nat):=if(bA f i).End.Kind=1/\g6 f i 0≠(i:Int)/\(prF f (g6 f i 0).toNat).length=1 then some (i,(g6 f i 0).toNat) else none
def Rk(f:TFunc):Option (Nat×Nat):=(List.range f.Blocks.length).findSome? (UT f)
def Vy:Nat->TFunc->TFunc
 | 0,f=>f
 | n+1,f=>match Rk f with|some p=>Vy n (B9 f p.1 p.2)|none=>f
theorem HD{f:TFunc}(hs:Gp f=true){i:Nat}(hi:i<f.Blocks.length)(hk:(bA f i).End.Kind=1):∃ b:Nat,(bA f i).End.To=[(b:Int)]/\b<f.Blocks.length/\0<b:=by
 have h3:Kd (bA f i).End f.Blocks.length=true:=(shape_iff.1 hs).2 i hi;unfold Kd Yx at h3;simp only[A5,Fz]at h3;have hw:=h3.1.2;rw[hk,show CB 1=1 from rfl]at hw
 have hl:(bA f i).End.To.length=1:=by omega
 generalize hT:(bA f i).End.To=T at hl
 match T,hl with
 | [z],_=>
  obtain⟨c,rfl,hc,h0,_⟩:=FR hs hi (z:=z) (by rw[hT];exact zzL16.2 rfl);exact⟨c,rfl,hc,h0⟩
theorem wQ{f:TFunc}(hs:Gp f=true){i:Nat}(hi:i<f.Blocks.length){p:Nat×Nat}(h:UT f i=some p):p.1=i/\Jn f p.1 p.2:=by
 unfold UT at h
 split at h
 ·rename_i hc
  obtain rfl:=OI h;obtain⟨b,hb,hbl,_⟩:=HD hs hi hc.1
  have ht:g6 f i 0=(b:Int):=by unfold g6;rw[hb];rfl
  have hp:=hc.2.2;have hne:=hc.2.1;refine⟨rfl,?_⟩
  show Jn f i (g6 f i 0).toNat
  rw[ht,Ak]at hp ⊢;rw[ht]at hne;refine⟨hi,hc.1,hb,λe=>hne (by rw[e]),?_⟩;have hm:(i:Int)∈prF f b:=(Q2 hs hbl).2 ⟨i,rfl,hi,by unfold UC;rw[hb];exact zzL16.2 rfl⟩
  generalize prF f b=L at hp hm
  match L,hp with
  | [z],_=>rw[zzL16.1 hm]
 ·cases h
theorem cd{f:TFunc}(hs:Gp f=true){p:Nat×Nat}(h:Rk f=some p):Jn f p.1 p.2:=by
 unfold Rk at h;obtain⟨i,hi,he⟩:=List.exists_of_findSome?_eq_some h;exact(wQ hs (zzL41.1 hi) he).2
theorem iy{f:TFunc}(hs:Gp f=true):Kt f=some (match Rk f with|some p=>((true,(⟨(p.1:Int),(p.2:Int),[]⟩:KW)),true)|none=>((false,default),false)):=by
 have h64:=(shape_iff.1 hs).1.2;unfold Kt;rw[ym f (by rw[Pw];omega),hs,Ah,An];have hP:(J4 (Az f),(0:Int)).1.Pred=Cx (Az f):=rfl;have hlp:(Cx (Az f)).length=f.Blocks.length:=pd f;have key:=pC (X:=Unit ⊕ ((Bool×KW)×Bool)) (List.range f.Blocks.length) (0:Nat) (UT f) (λp=>.inr ((true,(⟨(p.1:Int),(p.2:Int),[]⟩:KW)),true)) (.inl ()) (Ml f (J4 (Az f),(0:Int))) (λi hi hq=>?_) (λi hi p hq=>?_) ?_
 ·rw[key,An];unfold Rk
  cases(List.range f.Blocks.length).findSome? (UT f)<;>rfl
 all_goals simp only[S4]at *
 ·rw[Ab _ _ _ (by rw[S4];exact hi),List.getElem_range]at hq;unfold Ml;simp only[Bt hi,Ah,Aa (Ai hi),Ak,hP,w1 (show i<4611686018427387904 by omega)]
  by_cases hk:(bA f i).End.Kind=1
  ·obtain⟨b,hb,hbl,hb0⟩:=HD hs hi hk
   have ht:g6 f i 0=(b:Int):=by unfold g6;rw[hb];rfl
   rw[show((f.Blocks.getD i default).End.Kind !=1)=false by show((bA f i).End.Kind !=1)=false;rw[hk];rfl,Au];rw[show(f.Blocks.getD i default).End.To=[(b:Int)] from hb];rw[Aa (show A1 (0:Int) [(b:Int)].length from⟨by omega,by show(0:Int)<((1:Nat):Int);omega⟩)];have e0:[(b:Int)].getD ((0:Int)).toNat 0=(b:Int):=rfl;rw[e0,Aa (λ_=>by rw[hlp];exact Ai hbl),Ak];unfold UT at hq;rw[ht,Ak]at hq
   have hno:¬ ((b:Int)≠(i:Int)/\(prF f b).length=1):=λhh=>by rw[if_pos ⟨hk,hh⟩]at hq;cases hq
   have e1:(bif ((b:Int)!=(i:Int)) then((((Cx (Az f)).getD b []).length:Int)==(1:Int)) else false)=false:=by
    by_cases hbi:(b:Int)=(i:Int)
    ·rw[show((b:Int)!=(i:Int))=false by simpa using hbi];rfl
    ·rw[show((b:Int)!=(i:Int))=true by simpa using hbi,Ah,zzL29];intro he;exact hno ⟨hbi,by have:(((prF f b).length:Nat):Int)=1:=he;omega⟩
   rw[e1];rfl
  ·rw[show((f.Blocks.getD i default).End.Kind !=1)=true by show((bA f i).End.Kind !=1)=true;simpa using hk];rfl
 ·rw[Ab _ _ _ (by rw[S4];exact hi),List.getElem_range]at hq;unfold Ml;simp only[Bt hi,Ah,Aa (Ai hi),Ak,hP];unfold UT at hq
  split at hq
  ·rename_i hc
   obtain rfl:=OI hq;obtain⟨b,hb,hbl,hb0⟩:=HD hs hi hc.1
   have ht:g6 f i 0=(b:Int):=by unfold g6;rw[hb];rfl
   have hc2:=hc.2.1;have hc3:=hc.2.2;rw[ht]at hc2 hc3;rw[Ak]at hc3;rw[show((f.Blocks.getD i default).End.Kind !=1)=false by show((bA f i).End.Kind !=1)=false;rw[hc.1];rfl,Au];rw[show(f.Blocks.getD i default).End.To=[(b:Int)] from hb];rw[Aa (show A1 (0:Int) [(b:Int)].length from⟨by omega,by show(0:Int)<((1:Nat):Int);omega⟩)];have e0:[(b:Int)].getD ((0:Int)).toNat 0=(b:Int):=rfl;rw[e0,Aa (λ_=>by rw[hlp];exact Ai hbl),Ak]
   have e1:(bif ((b:Int)!=(i:Int)) then((((Cx (Az f)).getD b []).length:Int)==(1:Int)) else false)=true:=by
    rw[show((b:Int)!=(i:Int))=true by simpa using hc2,Ah,zzL63]
    have:(((prF f b).length:Nat):Int)=1:=by rw[hc3];rfl
    exact this
   rw[e1,Ah,ht,Ak];rfl
  ·cases hq
 ·unfold Ml;simp only[Co,Au]
theorem NZ{l:Int}:∀(n:Nat) (f:TFunc),Yr f l->Nw f->f.Blocks.length<=n->Yr (Vy n f) l/\Nw (Vy n f)/\Rk (Vy n f)=none/\(Vy n f).Blocks.length<=f.Blocks.length/\sizeN (Vy n f)<=sizeN f
 | 0,f,R,hN,hn=>by
  have:=(shape_iff.1 (Bc R)).1.1;omega
 | n+1,f,R,hN,hn=>by
  unfold Vy
  cases h:Rk f with
  | none=>exact⟨R,hN,h,zzL6 _,zzL6 _⟩
  | some p=>
   have J:=cd (Bc R) h;obtain⟨R',hN'⟩:=cl J R hN;have hl:=Ol J;have hsz:=fk J R;have h1:=J.hx;obtain⟨a,b,c,d,e⟩:=NZ n (B9 f p.1 p.2) R' hN' (by rw[hl];omega);exact⟨a,b,c,by show(Vy n (B9 f p.1 p.2)).Blocks.length<=_;omega,by show sizeN (Vy n (B9 f p.1 p.2))<=_;omega⟩
theorem db{l:Int}:∀(n:Nat) (f:TFunc),Yr f l->Nw f->f.Blocks.length<=n->Ac O4 (f.Params,f.Ret,f.Blocks)=some (Vy n f)
 | 0,f,R,hN,hn=>by
  have:=(shape_iff.1 (Bc R)).1.1;omega
 | n+1,f,R,hN,hn=>by
  have hs:=Bc R;unfold Vy
  cases h:Rk f with
  | none=>
   refine Am ?_;unfold O4
   show(Kt f).bind _=_
   rw[iy hs,h,An];rfl
  | some p=>
   have J:=cd hs h;obtain⟨R',hN'⟩:=cl J R hN;have h1:=J.hx
   rw[Aq (s':=((B9 f p.1 p.2).Params,(B9 f p.1 p.2).Ret,(B9 f p.1 p.2).Blocks)) (by
    unfold O4
    show(Kt f).bind _=_
    rw[iy hs,h,An]
    dsimp only
    rw[Ah,Ah]
    show(Fb f (p.1:Int) (p.2:Int)).bind _=_
    rw[lE J R hN];rfl)]
   exact db n _ R' hN' (by rw[Ol J];omega)
def bC(f:TFunc):TFunc:=if Em f 2=0 then Vy f.Blocks.length f else f
theorem ZH{f:TFunc}(h:Sm f):Ls f=some (decide (Em f 2=0)):=by
 unfold Ls;rw[sT f 2 h,An]
 by_cases e:Em f 2=0
 ·rw[e];rfl
 ·rw[C9 e,show(Em f 2==0)=false by rw[zzL29];exact e]
theorem yW{f:TFunc}(h:Sm f)(hN:Em f 2=0->Nw f):Ty f=some (bC f):=by
 unfold Ty bC;rw[ZH h,An]
 by_cases e:Em f 2=0
 ·have R:Yr f 2:=(Yg (by omega)).1 e;have key:=db f.Blocks.length f R (hN e) (zzL6 _);have hF:((Kt f).bind λx5=>(bif x5.1.1 then(bif x5.2 then((Fb f x5.1.2.x x5.1.2.y).bind λx7=>(some (.next (x7.1.Params,x7.1.Ret,x7.1.Blocks)))) else(some (.done f))) else(bif x5.2 then((I6 f).bind λx8=>(some (.next (x8.Params,x8.Ret,x8.Blocks)))) else(some (.done f)))):Option (LR (List Int×Int×List Ae) TFunc))=O4 (f.Params,f.Ret,f.Blocks):=rfl;rw[if_pos e,Dr e,D6,Au,hF];rw[<- MB]at key;rw[key];rfl
 ·rw[if_neg e,C9 e];rfl
theorem Ja{α:Type}{p:α->Bool}{l:List α}{a:α}(h:a∈l.filter p):a∈l:=(zzL96.1 h).1
def IY{α:Type}(p:α->Bool)(L:List α)(i:Nat):Nat:=((L.take i).filter p).length
theorem GY{α:Type}{p:α->Bool}{L:List α}{i:Nat}{d:α}(hi:i<L.length)(hp:p (L.getD i d)=true):IY p L i<(L.filter p).length/\(L.filter p).getD (IY p L i) d=L.getD i d:=by
 rw[Ab _ _ _ hi]at hp ⊢
 have e:L.filter p=(L.take i).filter p++L[i]::(L.drop (i+1)).filter p:=by
  have:=Bg (List.filter p) (List.take_append_drop i L);rw[Vc,SH hi,List.filter_cons,if_pos hp]at this;exact this.symm
 unfold IY;rw[e];refine⟨by simp,?_⟩;rw[Ab _ _ _ (by simp),List.getElem_append_right (zzL6 _)]
 simp
theorem NX{α:Type}{p:α->Bool}{d:α}:∀{L:List α} {k:Nat},k<(L.filter p).length->∃ i,i<L.length/\p (L.getD i d)=true/\IY p L i=k
 | [],k,h=>by simp at h
 | a::L,k,h=>by
  by_cases ha:p a=true
  ·rw[List.filter_cons,if_pos ha]at h
   cases k with
   | zero=>exact⟨0,by simp,by simpa using ha,rfl⟩
   | succ k=>
    obtain⟨i,h1,h2,h3⟩:=NX (L:=L) (k:=k) (d:=d) (by simpa using h);refine⟨i+1,by simpa using h1,by simpa using h2,?_⟩;unfold IY at h3 ⊢;rw[List.take_succ_cons,List.filter_cons,if_pos ha,EW,h3]
  ·rw[List.filter_cons,if_neg ha]at h;obtain⟨i,h1,h2,h3⟩:=NX (L:=L) (k:=k) (d:=d) h;refine⟨i+1,by simpa using h1,by simpa using h2,?_⟩;unfold IY at h3 ⊢;rw[List.take_succ_cons,List.filter_cons,if_neg ha,h3]
theorem wM{α:Type}{p:α->Bool}{L:List α}{i j:Nat}{d:α}(hj:j<L.length)(hij:i<j)(hp:p (L.getD i d)=true):IY p L i<IY p L j:=by
 have hi:i<(L.take j).length:=by rw[Wz];omega
 have e:(L.take j).getD i d=L.getD i d:=by rw[Ab _ _ _ hi,List.getElem_take,Ab _ _ _ (by omega)]
 have:=(GY (L:=L.take j) (p:=p) (d:=d) hi (by rw[e];exact hp)).1;unfold IY at this ⊢;rw[List.take_take,Nat.min_eq_left (by omega)]at this;exact this
def Wc(b:Ae):List Int:=b.Phis.flatMap (·.Args)++b.Ops.flatMap (·.Args)++(if b.End.Kind=0\/b.End.Kind=2 then[b.End.Arg] else[])
def H4(f:TFunc)(v:Int):Bool:=f.Blocks.any λb=>(Wc b).contains v
def FH(kp:Ba->Bool)(ko:B2->Bool)(b:Ae):Ae:=⟨b.Phis.filter kp,b.Ops.filter ko,b.End⟩
def Qi(kp:Ba->Bool)(ko:B2->Bool)(f:TFunc):TFunc:=⟨f.Params,f.Ret,f.Blocks.map (FH kp ko)⟩
structure Ct(f:TFunc)(kp:Ba->Bool)(ko:B2->Bool):Prop where
 phi:∀ b∈f.Blocks,∀ p∈b.Phis,H4 f p.Dst=true->kp p=true
 op:∀ b∈f.Blocks,∀ o∈b.Ops,H4 f o.Dst=true->ko o=true
section
variable {f:TFunc} {kp:Ba->Bool} {ko:B2->Bool} {l:Int}
theorem Pm:(Qi kp ko f).Blocks.length=f.Blocks.length:=Dn ..
theorem AO{i:Nat}(hi:i<f.Blocks.length):bA (Qi kp ko f) i=FH kp ko (bA f i):=by
 show(f.Blocks.map (FH kp ko)).getD i default=_
 exact HJ hi
theorem PB(i:Nat):(bA (Qi kp ko f) i).End=(bA f i).End:=by
 by_cases hi:i<f.Blocks.length
 ·rw[AO hi];rfl
 ·have e1:bA (Qi kp ko f) i=default:=by
   show(f.Blocks.map (FH kp ko)).getD i default=_
   rw[Wy,SJ (by rw[Dn];omega)];rfl
  have e2:bA f i=default:=by
   show f.Blocks.getD i default=_
   rw[Wy,SJ (by omega)];rfl
  rw[e1,e2]
theorem NS:Az (Qi kp ko f)=Az f:=by
 unfold Az;rw[Pm];refine MJ λi _=>?_
 show BQ (bA (Qi kp ko f) i).End.To=BQ (bA f i).End.To
 rw[PB]
theorem sg:B6 (Qi kp ko f)=B6 f:=by unfold B6;rw[NS]
theorem yb(i:Nat):prF (Qi kp ko f) i=prF f i:=by unfold prF;rw[NS]
theorem ct_shapeB:Gp (Qi kp ko f)=Gp f:=by
 rw[EX,shape_iff,shape_iff,Pm];have e:∀ i,Bl (Qi kp ko f) i=Bl f i:=λi=>PB i;simp only[e]
theorem jC:sizeN (Qi kp ko f)<=sizeN f:=by
 rw[Jh,Jh,Pm];refine jz λi hi=>?_;rw[AO hi];unfold FH Dm;have h1:=List.length_filter_le kp (bA f i).Phis;have h2:=List.length_filter_le ko (bA f i).Ops
 show(List.filter kp (bA f i).Phis).length+(List.filter ko (bA f i).Ops).length+1<=_
 omega
theorem fY{b:Ae}(hb:b∈(Qi kp ko f).Blocks):∃ c∈f.Blocks,b=FH kp ko c:=by
 obtain⟨c,hc,rfl⟩:=zzL20.1 hb;exact⟨c,hc,rfl⟩
theorem jD{i:Nat}(hi:i<f.Blocks.length):(UF (bA (Qi kp ko f) i)).Sublist (UF (bA f i)):=by
 rw[AO hi];unfold UF;refine List.Sublist.append ?_ ?_
 ·exact(List.filter_sublist).map _
 ·unfold ZL;exact((List.filter_sublist (l:=(bA f i).Ops) (p:=ko)).filter _).map _
section
variable (R:Yr f l)
include R
theorem qH{w:Cm}(hw:w∈Bf f):H4 f w.V=true:=by
 obtain⟨i,hi,h⟩:=(H0 (G7 R)).1 hw;unfold H4;rw[List.any_eq_true];refine⟨bA f i,Ag hi,?_⟩;rw[zzL60];unfold Wc;rcases h with⟨k,j,hk,hj,e⟩|⟨k,j,hk,hj,e⟩|⟨hK,e⟩|⟨hK,e⟩<;>rw[e]
 ·exact zzL11.2 (.inl (zzL11.2 (.inl (zzL48.2 ⟨_,Ag (d:=default) hk,Ag (d:=0) hj⟩))))
 ·exact zzL11.2 (.inl (zzL11.2 (.inr (zzL48.2 ⟨_,Ag (d:=default) hk,Ag (d:=0) hj⟩))))
 ·exact zzL11.2 (.inr (by rw[if_pos (.inl hK)];exact zzL16.2 rfl))
 ·exact zzL11.2 (.inr (by rw[if_pos (.inr hK)];exact zzL16.2 rfl))
theorem oR(hsz:sizeN f<=512):Qy (Qi kp ko f)=true:=by
 obtain⟨⟨m1,m2⟩,m3,m4,m5,m6,m7⟩:=mayF_iff.1 R.may;refine mayF_iff.2 ⟨by rw[Pm];exact⟨m1,m2⟩,m3,m4,m5,?_,λb hb=>?_⟩
 ·have:=jC (f:=f) (kp:=kp) (ko:=ko);unfold sizeW;rw[Ym (by omega)];omega
 ·obtain⟨c,hc,rfl⟩:=fY hb;obtain⟨h1,h2,h3⟩:=blockB_iff.1 (m7 c hc);exact blockB_iff.2 ⟨λp hp=>h1 p (Ja hp),λo ho=>h2 o (Ja ho),h3⟩
theorem oS:N6 (Qi kp ko f) l=true:=by
 have h:=R.typed;simp only[N6,F2,A5,zzL27]at h ⊢;obtain⟨⟨t1,t2⟩,t3⟩:=h;refine⟨⟨t1,λb hb=>?_⟩,t3⟩;obtain⟨c,hc,rfl⟩:=fY hb;exact⟨λp hp=>(t2 c hc).1 p (Ja hp),λo ho=>(t2 c hc).2 o (Ja ho)⟩
theorem lI:Fd (Qi kp ko f)=true:=by
 have hs:=Bc R;refine MC (by rw[ct_shapeB];exact hs) λb hb=>?_;rw[Pm]at hb;obtain⟨r1,r2⟩:=Wq R hb;refine⟨by rw[NS];exact r1,by rw[PB];exact r2,λp hp=>?_⟩;rw[AO hb]at hp;obtain⟨q1,q2⟩:=Tf R hb (Ja hp);exact⟨by rw[yb];exact q1,q2⟩
variable (C:Ct f kp ko)
include C
theorem wN{d:Bx}(hd:d∈Aw f)(hu:H4 f d.V=true):∃ e∈Aw (Qi kp ko f),e.V=d.V/\e.Shape=d.Shape/\e.Block=d.Block /\
  (d.Block<0\/(∃ i,i<f.Blocks.length/\d.Block=(i:Int)/\((d.At = -1/\e.At = -1)\/∃ k,k<(bA f i).Ops.length/\d.At=(k:Int)/\ko ((bA f i).Ops.getD k default)=true/\e.At=((IY ko (bA f i).Ops k:Nat):Int)))):=by
 rcases ri_def.1 hd with⟨j,hj,e⟩|⟨i,hi,⟨k,hk,e⟩|⟨k,hk,hg,e⟩⟩
 ·exact⟨d,ri_def.2 (.inl ⟨j,hj,e⟩),rfl,rfl,rfl,.inl (by rw[e];show(-1:Int)<0;omega)⟩
 ·have hp:=Ag (d:=(default:Ba)) hk;have hkp:kp ((bA f i).Phis.getD k default)=true:=C.phi _ (Ag (d:=default) hi) _ hp (by rw[e]at hu;exact hu);obtain⟨h1,h2⟩:=GY hk hkp;have hat:=AO (kp:=kp) (ko:=ko) hi
  have hP:(bA (Qi kp ko f) i).Phis=(bA f i).Phis.filter kp:=by rw[hat];rfl
  refine⟨_,ri_def.2 (.inr ⟨i,by rw[Pm];exact hi,.inl ⟨IY kp (bA f i).Phis k,by rw[hP];exact h1,rfl⟩⟩),?_,?_,?_,.inr ⟨i,hi,by rw[e],.inl ⟨by rw[e],rfl⟩⟩⟩
  ·rw[hP,h2,e]
  ·rw[hP,h2,e]
  ·rw[e]
 ·have ho:=Ag (d:=(default:B2)) hk;have hko:ko ((bA f i).Ops.getD k default)=true:=C.op _ (Ag (d:=default) hi) _ ho (by rw[e]at hu;exact hu);obtain⟨h1,h2⟩:=GY hk hko;have hat:=AO (kp:=kp) (ko:=ko) hi
  have hO:(bA (Qi kp ko f) i).Ops=(bA f i).Ops.filter ko:=by rw[hat];rfl
  refine⟨_,ri_def.2 (.inr ⟨i,by rw[Pm];exact hi,.inr ⟨IY ko (bA f i).Ops k,by rw[hO];exact h1,by rw[hO,h2];exact hg,rfl⟩⟩),?_,?_,?_,.inr ⟨i,hi,by rw[e],.inr ⟨k,hk,by rw[e],hko,rfl⟩⟩⟩
  ·rw[hO,h2,e]
  ·rw[hO,h2,e]
  ·rw[e]
theorem lJ(hsz:sizeN f<=512)(hok:OkF (Qi kp ko f)):Yr (Qi kp ko f) l:=by
 have hgt:=oS (kp:=kp) (ko:=ko) R
 have hgm:∀ b∈(Qi kp ko f).Blocks,∀ o∈b.Ops,Gs o=true:=λb hb o ho=>by
  simp only[N6,F2,A5,zzL27]at hgt;exact DS ((hgt.1.2 b hb).2 o ho)
 obtain⟨N1,N2,N3⟩:=(nodup_split f).1 (Xh (DP R).1)
 have hcap:∀{d:Bx},d∈Aw (Qi kp ko f)->d.At<1000:=λ{d} hd=>by
  rcases defs_in hok d hd with h3|⟨_,_,h3⟩
  ·rcases ri_def.1 hd with⟨i,_,e⟩|⟨i,_,⟨k,_,e⟩|⟨k,_,_,e⟩⟩
   ·rw[e];show(0:Int)<1000;omega
   ·rw[e]at h3;have:(i:Int) = -1:=h3;omega
   ·rw[e]at h3;have:(i:Int) = -1:=h3;omega
  ·exact h3
 have key:∀{w:Cm} {i:Nat} {a:Int},w∈Bf f->i<f.Blocks.length->w.Block=(i:Int)->(w.At=1000/\a=1000\/∃ k,k<(bA f i).Ops.length/\w.At=(k:Int)/\a=((IY ko (bA f i).Ops k:Nat):Int))->
   ∃ d∈Aw (Qi kp ko f),d.V=w.V/\d.Shape=w.Shape/\kw (Qi kp ko f) d (i:Int) a:=λ{w i a} hw hi hb ha=>by
  obtain⟨d,hd,hv,hsh,ht⟩:=JV R hw;obtain⟨e,he,e1,e2,e3,e4⟩:=wN R C hd (by rw[hv];exact qH R hw);refine⟨e,he,by rw[e1,hv],by rw[e2,hsh],?_⟩;rw[hb]at ht;rcases ht with h|⟨h1,h2⟩|⟨h1,h2⟩
  ·exact .inl (by rw[e3];exact h)
  ·refine .inr (.inl ⟨by rw[e3];exact h1,?_⟩);rcases ha with⟨_,rfl⟩|⟨k,hk,hwk,rfl⟩
   ·exact hcap he
   ·rcases e4 with h4|⟨j,hj,hjb,⟨hq1,hq2⟩|⟨q,hq,hq1,hq2,hq3⟩⟩
    ·omega
    ·rw[hq2];omega
    ·have:j=i:=by omega
     subst this;rw[hq3];have:=wM (p:=ko) (d:=(default:B2)) hk (show q<k by omega) hq2;omega
  ·refine .inr (.inr ⟨by rw[e3];exact h1,?_⟩);rw[e3,sg];exact h2
 refine⟨oR R hsz,lI R,hgt,RP ((nodup_split _).2 ⟨λk hk=>?_,λk m hk hm hne v hv hw=>?_,λi hi k hk hv=>?_⟩) (λd hd=>?_) (λu hu=>?_)⟩
 ·rw[Pm]at hk;exact(N1 k hk).sublist (jD hk)
 ·rw[Pm]at hk hm;exact N2 k m hk hm hne v ((jD hk).subset hv) ((jD hm).subset hw)
 ·rw[Pm]at hk;exact N3 i hi k hk ((jD hk).subset hv)
 ·rcases ri_def.1 hd with⟨i,hi,e⟩|⟨k,hk,⟨j,hj,e⟩|⟨j,hj,hg,e⟩⟩
  ·rw[e];exact V0 R (d:=⟨(i:Int)+1,-1,0,(f.Params.getD i 0,1)⟩) (ri_def.2 (.inl ⟨i,hi,rfl⟩))
  ·rw[Pm]at hk;rw[e];have hm:=Ag (d:=(default:Ba)) hj;rw[AO hk]at hm;obtain⟨q,hq,eq⟩:=Gr (Ja hm);have:=V0 R (d:=⟨((bA f k).Phis.getD q default).Dst,k,-1,(((bA f k).Phis.getD q default).Bits,1)⟩) (ri_def.2 (.inr ⟨k,hk,.inl ⟨q,hq,rfl⟩⟩));rw[Ab _ _ _ hq,eq]at this;rw[AO hk];exact this
  ·rw[e];exact WL (hgm _ (Ag (d:=default) hk) _ (Ag (d:=default) hj)) hg
 ·obtain⟨k,hk,hcase⟩:=(H0 hgm).1 hu;rw[Pm]at hk;have hs:=Bc R;rw[PB,AO hk]at hcase;rcases hcase with⟨q,j,hq,hj,e⟩|⟨q,j,hq,hj,e⟩|⟨hK,e⟩|⟨hK,e⟩
  ·obtain⟨i,hi,hp,hc⟩:=NX (d:=(default:Ba)) hq;have h2:=(GY hi hp).2;rw[hc]at h2;have h2':(FH kp ko (bA f k)).Phis.getD q default=(bA f k).Phis.getD i default:=h2;rw[h2']at e hj;have hw:=(H0 (G7 R) (f:=f)).2 ⟨k,hk,.inl ⟨i,j,hi,hj,rfl⟩⟩;obtain⟨q1,q2⟩:=Tf R hk (Ag (d:=(default:Ba)) hi);obtain⟨c,ec,hc,_⟩:=(Q2 hs hk).1 (show((bA f k).Phis.getD i default).From.getD j 0∈prF f k by rw[<- q1];exact Ag (by omega));obtain⟨d,m1,m2,m3,m4⟩:=key hw hc ec (.inl ⟨rfl,rfl⟩);rw[e];exact⟨d,m1,m2,m3,by show kw _ d (((bA f k).Phis.getD i default).From.getD j 0) 1000;rw[ec];exact m4⟩
  ·obtain⟨i,hi,hp,hc⟩:=NX (d:=(default:B2)) hq;have h2:=(GY hi hp).2;rw[hc]at h2;have h2':(FH kp ko (bA f k)).Ops.getD q default=(bA f k).Ops.getD i default:=h2;rw[h2']at e hj;have hw:=(H0 (G7 R) (f:=f)).2 ⟨k,hk,.inr (.inl ⟨i,j,hi,hj,rfl⟩)⟩;obtain⟨d,m1,m2,m3,m4⟩:=key hw hk rfl (.inr ⟨i,hi,rfl,rfl⟩);rw[e];exact⟨d,m1,m2,m3,by rw[hc]at m4;exact m4⟩
  ·have hw:=(H0 (G7 R) (f:=f)).2 ⟨k,hk,.inr (.inr (.inl ⟨hK,rfl⟩))⟩;obtain⟨d,m1,m2,m3,m4⟩:=key hw hk rfl (.inl ⟨rfl,rfl⟩);rw[e];exact⟨d,m1,m2,m3,m4⟩
  ·have hw:=(H0 (G7 R) (f:=f)).2 ⟨k,hk,.inr (.inr (.inr ⟨hK,rfl⟩))⟩;obtain⟨d,m1,m2,m3,m4⟩:=key hw hk rfl (.inl ⟨rfl,rfl⟩);rw[e];exact⟨d,m1,m2,m3,m4⟩
end
theorem ya(hN:Nw f):Nw (Qi kp ko f):=by
 have hsz:=jC (f:=f) (kp:=kp) (ko:=ko);refine⟨⟨hN.inf.params,by rw[Pm];exact hN.inf.blocks,λb hb=>?_,λb hb p hp=>?_,λb hb o ho=>?_⟩,hN.params,λb hb=>?_,λb hb p hp=>?_,λb hb o ho=>?_,by have:=hN.size;omega⟩<;>obtain⟨c,hc,rfl⟩:=fY hb
 ·obtain⟨h1,h2,h3⟩:=hN.inf.block c hc;exact⟨P4 (List.length_filter_le ..) h1,P4 (List.length_filter_le ..) h2,h3⟩
 ·exact hN.inf.phi c hc p (Ja hp)
 ·exact hN.inf.op c hc o (Ja ho)
 ·exact hN.to c hc
 ·exact hN.phi c hc p (Ja hp)
 ·exact hN.op c hc o (Ja ho)
theorem jE(R:Yr f l)(C:Ct f kp ko)(hN:Nw f):Yr (Qi kp ko f) l/\Nw (Qi kp ko f):=
 have hn:=ya (kp:=kp) (ko:=ko) hN
 ⟨lJ R C hN.size (jt (jb hn) (oR R hN.size)),hn⟩
end
def O0(u:Int->Bool)(p:Ba):Bool:=u p.Dst
def Nj(u:Int->Bool)(o:B2):Bool:=!jp o.Kind || u o.Dst
def Qj(f:TFunc):TFunc:=Qi (O0 (H4 f)) (Nj (H4 f)) f
theorem jG(f:TFunc):Ct f (O0 (H4 f)) (Nj (H4 f)):=⟨λ_ _ _ _ h=>h,λ_ _ _ _ h=>by unfold Nj;rw[h,Bool.or_true]⟩
def Ur:Nat->TFunc->TFunc
 | 0,f=>f
 | n+1,f=>if sizeN (Qj f)<sizeN f then Ur n (Qj f) else f
theorem PC{l:Int}:∀(n:Nat) (f:TFunc),Yr f l->Nw f->sizeN f<=n->Yr (Ur n f) l/\Nw (Ur n f)/\sizeN (Ur n f)<=sizeN (Qj (Ur n f))/\(Ur n f).Blocks.length=f.Blocks.length/\sizeN (Ur n f)<=sizeN f/\Az (Ur n f)=Az f/\∀ i,(bA (Ur n f) i).End=(bA f i).End
 | 0,f,R,hN,hn=>⟨R,hN,by show sizeN f<=_;omega,rfl,zzL6 _,rfl,λ_=>rfl⟩
 | n+1,f,R,hN,hn=>by
  unfold Ur
  split
  ·rename_i h
   obtain⟨R',hN'⟩:=jE R (jG f) hN;obtain⟨a,b,c,d,e,g,i⟩:=PC n (Qj f) R' hN' (by omega);exact⟨a,b,c,d.trans Pm,by omega,g.trans NS,λk=>(i k).trans (PB k)⟩
  ·exact⟨R,hN,by omega,rfl,zzL6 _,rfl,λ_=>rfl⟩
theorem mD(n v:Nat):(List.replicate n false).getD v false=false:=by
 rw[Wy]
 by_cases h:v<n
 ·rw[P3 (by rw[N8];exact h),List.getElem_replicate];rfl
 ·rw[SJ (by rw[N8];omega)];rfl
def EK(L:List Int)(M:List Bool):List Bool:=L.foldl (λM a=>M.set a.toNat true) M
theorem U0:∀(L:List Int) (M:List Bool),(EK L M).length=M.length
 | [],M=>rfl
 | a::L,M=>by unfold EK;rw[IG];exact(U0 L _).trans (C8 ..)
theorem ah(L K:List Int)(M:List Bool):EK (L++K) M=EK K (EK L M):=by unfold EK;rw[List.foldl_append]
theorem QK{α:Type}(F:α->List Int):∀(l:List α) (M:List Bool),EK (l.flatMap F) M=l.foldl (λs x=>EK (F x) s) M
 | [],M=>rfl
 | a::l,M=>by rw[MK,ah,IG,QK F l]
theorem jZ:∀(L:List Int) (M:List Bool) {v:Nat},v<M.length->(EK L M).getD v false=(M.getD v false || L.any λa=>a.toNat==v)
 | [],M,v,h=>by simp[EK]
 | a::L,M,v,h=>by
  have e:EK (a::L) M=EK L (M.set a.toNat true):=rfl;rw[e,jZ L _ (by rw[C8];exact h),List.any_cons]
  by_cases ha:a.toNat=v
  ·subst ha;rw[show(M.set a.toNat true).getD a.toNat false=true by rw[Wy,List.getElem?_set_self h];rfl]
   simp
  ·rw[show(M.set a.toNat true).getD v false=M.getD v false by simp only[Wy];rw[List.getElem?_set_ne ha]];rw[show(a.toNat==v)=false by simpa using ha,SO]
theorem OW{L:List Int}{M:List Bool}(hl:L.length<4611686018427387904)(h:∀ a∈L,0<=a/\a<1024)(hM:M.length=1024):Jj L M=some (EK L M):=by
 unfold Jj
 have key:=DJ L (0:Int) (λi (s:List Bool)=>((i:Int),s)) (λ_ s=>s.length=1024) (λs a=>s.set a.toNat true) id (Kv L) (λi s hi hP=>by
  obtain⟨h0,h1⟩:=h _ (Ag (d:=(0:Int)) hi);unfold Kv;simp only[Bt hi,Ah,Aa (Ai hi),Ak,w1 (show i<4611686018427387904 by omega)];rw[Aa (show A1 (L.getD i 0) s.length from⟨h0,by omega⟩)]
  exact⟨rfl,by rw[C8];exact hP⟩) (λs _=>by unfold Kv;simp only[Co,Au];rfl) M hM
 have k1:Ac (Kv L) ((0:Int),M)=_:=key.1;rw[k1];rfl
section
variable {f:TFunc} {l:Int} (R:Yr f l)
include R
theorem sJ{i:Nat}(hi:i<f.Blocks.length){a:Int}(ha:a∈Wc (bA f i)):∃ w∈Bf f,w.V=a:=by
 unfold Wc at ha;rcases zzL11.1 ha with h|h
 ·rcases zzL11.1 h with h|h
  ·obtain⟨p,hp,h⟩:=zzL48.1 h;obtain⟨k,hk,rfl⟩:=Gr hp;obtain⟨j,hj,rfl⟩:=Gr h;refine⟨_,(H0 (G7 R)).2 ⟨i,hi,.inl ⟨k,j,hk,by rw[Ab _ _ _ hk];exact hj,rfl⟩⟩,?_⟩
   show((bA f i).Phis.getD k default).Args.getD j 0=_
   rw[Ab _ _ _ hk,Ab _ _ _ hj]
  ·obtain⟨p,hp,h⟩:=zzL48.1 h;obtain⟨k,hk,rfl⟩:=Gr hp;obtain⟨j,hj,rfl⟩:=Gr h;refine⟨_,(H0 (G7 R)).2 ⟨i,hi,.inr (.inl ⟨k,j,hk,by rw[Ab _ _ _ hk];exact hj,rfl⟩)⟩,?_⟩
   show((bA f i).Ops.getD k default).Args.getD j 0=_
   rw[Ab _ _ _ hk,Ab _ _ _ hj]
 ·split at h
  ·rename_i hK
   rw[zzL16.1 h];rcases hK with hK|hK
   ·exact⟨_,(H0 (G7 R)).2 ⟨i,hi,.inr (.inr (.inl ⟨hK,rfl⟩))⟩,rfl⟩
   ·exact⟨_,(H0 (G7 R)).2 ⟨i,hi,.inr (.inr (.inr ⟨hK,rfl⟩))⟩,rfl⟩
  ·cases h
theorem ip{i:Nat}(hi:i<f.Blocks.length){a:Int}(ha:a∈Wc (bA f i)):1<=a/\a<=1023:=by
 obtain⟨w,hw,rfl⟩:=sJ R hi ha;obtain⟨d,hd,e,_⟩:=JV R hw;have:=V0 R hd;rw[e]at this;unfold valS at this
 simpa using this
def T0(f:TFunc):List Bool:=f.Blocks.foldl (λs b=>EK (Wc b) s) (List.replicate 1024 false)
theorem ZG(hN:Nw f):Ku f=some (T0 f)/\(T0 f).length=1024:=by
 have hroom:(1000001:Nat)<=room:=by decide
 have h64:=(shape_iff.1 (Bc R)).1.2
 have hsz:∀ c,c<f.Blocks.length->Dm (bA f c)<=512:=λc hc=>by
  have:=Ud (F:=λb=>Dm (bA f b)) hc;rw[<- Jh]at this;have:=hN.size;omega
 unfold Ku
 have key:=DJ f.Blocks (default:Ae) (λi (s:List Bool)=>((i:Int),s)) (λ_ s=>s.length=1024) (λs b=>EK (Wc b) s) id (Mo f) (λi s hi hP=>by
  have hav:=λa ha=>ip R hi (a:=a) ha;have hz:=hsz i hi;unfold Dm at hz
  have hph:∀ p∈(bA f i).Phis,(∀ a∈p.Args,0<=a/\a<1024)/\p.Args.length<4611686018427387904:=λp hp=>⟨λa ha=>by
   have:=hav a (zzL11.2 (.inl (zzL11.2 (.inl (zzL48.2 ⟨p,hp,ha⟩)))))
   omega,by have:=hN.phi _ (Ag (d:=default) hi) p hp;omega⟩
  have hop:∀ p∈(bA f i).Ops,(∀ a∈p.Args,0<=a/\a<1024)/\p.Args.length<4611686018427387904:=λp hp=>⟨λa ha=>by
   have:=hav a (zzL11.2 (.inl (zzL11.2 (.inr (zzL48.2 ⟨p,hp,ha⟩)))))
   omega,by have:=hN.op _ (Ag (d:=default) hi) p hp;omega⟩
  have k1:=DJ (bA f i).Phis (default:Ba) (λi (s:List Bool)=>((i:Int),s)) (λ_ s=>s.length=1024) (λs p=>EK p.Args s) id (Mm f (i:Int)) (λk s hk hP=>by
   obtain⟨q1,q2⟩:=hph _ (Ag (d:=(default:Ba)) hk);unfold Mm;simp only[Ak];rw[Bt hk,Ah,Aa (Ai hk),OW q2 q1 hP,An,Aa (U0 _ _).symm,w1 (show k<4611686018427387904 by omega)]
   exact⟨rfl,by rw[U0];exact hP⟩) (λs _=>by unfold Mm;simp only[Ak];rw[Co];rfl) s hP
  have k1':Ac (Mm f (i:Int)) ((0:Int),s)=some ((bA f i).Phis.foldl (λs p=>EK p.Args s) s):=k1.1
  have k2:=DJ (bA f i).Ops (default:B2) (λi (s:List Bool)=>((i:Int),s)) (λ_ s=>s.length=1024) (λs p=>EK p.Args s) id (Mn f (i:Int)) (λk s hk hP=>by
   obtain⟨q1,q2⟩:=hop _ (Ag (d:=(default:B2)) hk);unfold Mn;simp only[Ak];rw[Bt hk,Ah,Aa (Ai hk),OW q2 q1 hP,An,Aa (U0 _ _).symm,w1 (show k<4611686018427387904 by omega)]
   exact⟨rfl,by rw[U0];exact hP⟩) (λs _=>by unfold Mn;simp only[Ak];rw[Co];rfl) ((bA f i).Phis.foldl (λs p=>EK p.Args s) s) k1.2
  have k2':Ac (Mn f (i:Int)) ((0:Int),(bA f i).Phis.foldl (λs p=>EK p.Args s) s)=some ((bA f i).Ops.foldl (λs p=>EK p.Args s) ((bA f i).Phis.foldl (λs p=>EK p.Args s) s)):=k2.1;have k3:=k2.2
  have hfin:EK (Wc (bA f i)) s=EK (if(bA f i).End.Kind=0\/(bA f i).End.Kind=2 then[(bA f i).End.Arg] else[]) ((bA f i).Ops.foldl (λs p=>EK p.Args s) ((bA f i).Phis.foldl (λs p=>EK p.Args s) s)):=by
   unfold Wc;rw[ah,ah,QK,QK]
  unfold Mo;simp only[Bt hi,Ah,Aa (Ai hi),Ak,w1 (show i<4611686018427387904 by omega)];rw[k1',An,k2',An]
  generalize hY:(bA f i).Ops.foldl (λs p=>EK p.Args s) ((bA f i).Phis.foldl (λs p=>EK p.Args s) s)=Y at *
  have hYl:Y.length=1024:=k3;have hg:EK (Wc (f.Blocks.getD i default)) s=EK (if(bA f i).End.Kind=0\/(bA f i).End.Kind=2 then[(bA f i).End.Arg] else[]) Y:=hfin;rw[hg]
  by_cases hK:(bA f i).End.Kind=0\/(bA f i).End.Kind=2
  ·have hb:(bif ((f.Blocks.getD i default).End.Kind==0) then true else((f.Blocks.getD i default).End.Kind==2))=true:=by
    rcases hK with h|h
    ·rw[show((f.Blocks.getD i default).End.Kind==0)=true from zzL63.2 h];rfl
    ·rw[show((f.Blocks.getD i default).End.Kind==2)=true from zzL63.2 h];cases((f.Blocks.getD i default).End.Kind==0)<;>rfl
   have ha:=hav (bA f i).End.Arg (zzL11.2 (.inr (by rw[if_pos hK];exact zzL16.2 rfl)));have hc1:=OW (L:=[(bA f i).End.Arg]) (M:=Y) (by show(1:Nat)<_;omega) (λa h=>by rw[zzL16.1 h];omega) hYl;have hc1':Jj [(f.Blocks.getD i default).End.Arg] Y=some (EK [(bA f i).End.Arg] Y):=hc1;rw[hb,Ah,hc1',An,Aa (U0 _ _).symm,if_pos hK];exact⟨rfl,by rw[U0];exact hYl⟩
  ·have hb:(bif ((f.Blocks.getD i default).End.Kind==0) then true else((f.Blocks.getD i default).End.Kind==2))=false:=by
    rw[show((f.Blocks.getD i default).End.Kind==0)=false from zzL29.2 (λh=>hK (.inl h)),Au];exact zzL29.2 (λh=>hK (.inr h))
   rw[hb,Au,if_neg hK]
   exact⟨rfl,hYl⟩) (λs _=>by unfold Mo;simp only[Co,Au];rfl) (List.replicate 1024 false) (by simp)
 have k0:Ac (Mo f) ((0:Int),List.replicate ((1024:Int)).toNat false)=_:=key.1;rw[Aa ⟨by omega,by omega,by omega⟩,k0,An];exact⟨rfl,key.2⟩
theorem QM{v:Int}(h0:0<=v)(h1:v<1024):(T0 f).getD v.toNat false=H4 f v:=by
 have key:∀(L:List Ae) (M:List Bool),v.toNat<M.length->(∀ b∈L,∀ a∈Wc b,0<=a)->(L.foldl (λs b=>EK (Wc b) s) M).getD v.toNat false=(M.getD v.toNat false || L.any λb=>(Wc b).contains v):=by
  intro L
  induction L with
  | nil=>intro M h _;simp
  | cons b L ih=>
   intro M h hb;rw[IG,ih _ (by rw[U0];exact h) (λc hc=>hb c (by simp[hc])),jZ _ _ h,List.any_cons,Bool.or_assoc]
   congr 2
   rw[EX,List.any_eq_true,zzL60]
   constructor
   ·rintro⟨a,ha,he⟩;have:=hb b (by simp) a ha
    have he:a.toNat=v.toNat:=by simpa using he
    rw[show v=a by omega];exact ha
   ·intro h;exact⟨v,h,by simp⟩
 unfold T0 H4
 rw[key f.Blocks _ (by rw[N8];omega) (λb hb a ha=>by
  obtain⟨i,hi,rfl⟩:=Gr hb;have:=ip R hi (a:=a) (by rw[show bA f i=f.Blocks[i] from Ab _ _ _ hi];exact ha)
  omega)]
 rw[mD,SO]
end
theorem idx_loop{α:Type}{s:List α}{d:α}{keep:α->Bool}{F:Int->Option (LR Int (Unit ⊕ Int))}(hn:∀ i,i<s.length->F (i:Int)=some (bif keep (s.getD i d) then .next (((i+1:Nat):Int)) else .done (.inr (i:Int))))
  (he:F (s.length:Int)=some (.done (.inl ()))):(∃ i,i<s.length/\Ac F (0:Int)=some (.inr (i:Int))/\keep (s.getD i d)=false/\∀ j,j<i->keep (s.getD j d)=true)\/(Ac F (0:Int)=some (.inl ())/\∀ j,j<s.length->keep (s.getD j d)=true):=by
 have key:∀ k i:Nat,i+k=s.length->(∀ j,j<i->keep (s.getD j d)=true)->(∃ m,m<s.length/\Ac F (i:Int)=some (.inr (m:Int))/\keep (s.getD m d)=false/\∀ j,j<m->keep (s.getD j d)=true)\/(Ac F (i:Int)=some (.inl ())/\∀ j,j<s.length->keep (s.getD j d)=true):=by
  intro k
  induction k with
  | zero=>
   intro i h hj
   obtain rfl:i=s.length:=by omega
   exact .inr ⟨Am he,hj⟩
  | succ k ih=>
   intro i h hj
   have hi:i<s.length:=by omega
   have h1:=hn i hi
   cases hk:keep (s.getD i d) with
   | true=>
    rw[hk,Ah]at h1;rw[Aq h1]
    exact ih (i+1) (by omega) λj hji=>by
     by_cases e:j=i
     ·rw[e];exact hk
     ·exact hj j (by omega)
   | false=>
    rw[hk,Au]at h1;exact .inl ⟨i,hi,Am h1,hk,hj⟩
 exact key s.length 0 (by omega) (λj h=>by omega)
theorem GU{α:Type}{s:List α}{d:α}{keep:α->Bool}{F:Int×Int×List α->Option (LR (Int×Int×List α) (Int×List α))}
  (hn:∀(a i:Nat) (l:List α),i<l.length->a<=i->l.length=s.length->l.getD i d∈s->F ((a:Int),(i:Int),l)=some (.next (bif keep (l.getD i d) then((((a+1:Nat):Int)),(((i+1:Nat):Int)),l.set a (l.getD i d)) else((a:Int),(((i+1:Nat):Int)),l))))
  (he:∀(a:Nat) (l:List α),F ((a:Int),(l.length:Int),l)=some (.done ((a:Int),l))):∀(k a i:Nat) (l:List α),i+k=s.length->a<=i->l.length=s.length->l.drop i=s.drop i->l.take a=(s.take i).filter keep->
   ∃(a':Nat) (l':List α),Ac F ((a:Int),(i:Int),l)=some ((a':Int),l')/\l'.length=s.length/\a'<=s.length/\l'.take a'=s.filter keep
 | 0,a,i,l,h,ha,hl,hd,ht=>by
  obtain rfl:i=l.length:=by omega
  refine⟨a,l,Am (he a l),hl,by omega,?_⟩;rw[ht,hl,W0]
 | k+1,a,i,l,h,ha,hl,hd,ht=>by
  have hi:i<l.length:=by omega
  have his:i<s.length:=by omega
  have e1:l.getD i d=s.getD i d:=by
   have h1:(l.drop i)[0]?=(s.drop i)[0]?:=by rw[hd]
   rw[IE,IE,M9]at h1;simp only[Wy,h1]
  have hm:l.getD i d∈s:=by rw[e1];exact Ag his
  have h1:=hn a i l hi ha hl hm
  have hst:(s.take (i+1)).filter keep=(s.take i).filter keep++(if keep (l.getD i d)=true then[l.getD i d] else[]):=by
   rw[List.take_add_one,P3 his,Vc,e1,Ab _ _ _ his]
   congr 1
   by_cases hk:keep s[i]=true<;>simp[hk]
  have hdd:∀ m:List α,m.drop i=l.drop i->m.drop (i+1)=s.drop (i+1):=λm hm=>by
   have:=Bg (List.drop 1) (hm.trans hd);rwa[List.drop_drop,List.drop_drop]at this
  cases hk:keep (l.getD i d) with
  | true=>
   rw[hk,Ah]at h1;rw[Aq h1];refine GU hn he k (a+1) (i+1) _ (by omega) (by omega) (by rw[C8];exact hl) ?_ ?_
   ·have:=hdd l rfl;rw[<- this]
    apply List.ext_getElem?
    intro n;rw[IE,IE,List.getElem?_set_ne (by omega)]
   ·rw[hst,hk,if_pos rfl,<- ht,List.take_add_one,List.take_set_of_le (zzL6 _),List.getElem?_set_self (by omega)]
    rfl
  | false=>
   rw[hk,Au]at h1;rw[Aq h1];refine GU hn he k a (i+1) l (by omega) (by omega) hl (hdd l rfl) ?_;rw[hst,hk,if_neg (by simp),List.append_nil];exact ht
theorem cS{α:Type}(l:List α)(a k:Nat)(g:Nat->α):(NR l a k g).take a=l.take a:=by
 apply List.ext_getElem?
 intro n;rw[SL,SL]
 split
 ·rename_i h
  unfold NR;rw[List.getElem?_mapIdx]
  cases l[n]? with
  | none=>rfl
  | some x=>simp;omega
 ·rfl
theorem sW{p:Ba}{M:List Bool}{u:Int->Bool}(hM:M.length=1024)(h:0<=p.Dst/\p.Dst<1024)(hu:M.getD p.Dst.toNat false=u p.Dst):Jf p M=some (!O0 u p):=by
 unfold Jf O0;rw[Aa (show A1 p.Dst M.length from⟨h.1,by omega⟩),hu]
theorem sX{p:B2}{M:List Bool}{u:Int->Bool}(hM:M.length=1024)(h:0<=p.Dst/\p.Dst<1024)(hu:M.getD p.Dst.toNat false=u p.Dst):Jg p M=some (!Nj u p):=by
 unfold Jg Nj;rw[kind_Pure,An,Aa (λ_=>(show A1 p.Dst M.length from⟨h.1,by omega⟩)),hu]
 cases jp p.Kind<;>cases u p.Dst<;>rfl
theorem wB{s:List Ba}{M:List Bool}{u:Int->Bool}(hs:s.length<=1000000)(hM:M.length=1024)(h:∀ p∈s,(0<=p.Dst/\p.Dst<1024)/\M.getD p.Dst.toNat false=u p.Dst) :
  ∃ k L,Dk s M=some (k,L)/\L.length=s.length/\k<=s.length/\L.take k=s.filter (O0 u):=by
 have hck:∀ p∈s,Jf p M=some (!O0 u p):=λp hp=>sW hM (h p hp).1 (h p hp).2;unfold Dk F4
 rcases idx_loop (s:=s) (d:=(default:Ba)) (keep:=O0 u) (F:=C4 s M) (λi hi=>by
   unfold C4;simp only[Bt hi,Ah,Aa (Ai hi),Ak,hck _ (Ag hi),An,w1 (show i<4611686018427387904 by omega)]
   cases O0 u (s.getD i default)<;>rfl) (by unfold C4;simp only[Co,Au]) with⟨i,hi,hl,hno,hyes⟩|⟨hl,hall⟩
 ·rw[hl,An,An]
  have hne:((i:Int)==-1)=false:=by rw[zzL29];omega
  rw[hne,Au,w1 (show i<4611686018427387904 by omega)]
  have htk:∀ n,n<=i->(s.take n).filter (O0 u)=s.take n:=λn hn=>by
   rw[List.filter_eq_self];intro p hp;obtain⟨j,hj,rfl⟩:=Gr hp;rw[Wz]at hj;have:=hyes j (by omega);rw[Ab _ _ _ (by omega)]at this;rw[List.getElem_take];exact this
  obtain⟨a',l',h1,h2,h3,h4⟩:=GU (s:=s) (d:=(default:Ba)) (keep:=O0 u) (F:=Cu M) (λa k l hk hak hll hm=>by
    unfold Cu;simp only[Bt hk,Ah,Aa (Ai hk),Ak,hck _ hm,An,w1 (show k<4611686018427387904 by omega)]
    cases O0 u (l.getD k default) with
    | true=>
     simp only[D6,L4,Ah];rw[Aa (Ai (show a<l.length by omega)),An,w1 (show a<4611686018427387904 by omega)]
    | false=>
     simp only[D6,L4,Au]
     rw[An]) (λa l=>by unfold Cu;simp only[Co,Au]) (s.length-(i+1)) i (i+1) s (by omega) (by omega) rfl rfl (by
    rw[List.take_add_one,P3 hi,Vc,htk i (zzL6 _)]
    have:O0 u s[i]=false:=by rw[<- Ab _ _ default hi];exact hno
    simp[this])
  have e:((a':Int)).toNat=a':=Ak a';rw[h1,An]
  dsimp only
  rw[e,Aa ⟨by omega,by omega⟩,Aa ⟨by omega,by rw[<- En];omega⟩];refine⟨_,_,rfl,by rw[<- En];exact h2,by omega,?_⟩;rw[F0,cS];exact h4
 ·rw[hl,An,An];refine⟨_,_,rfl,rfl,zzL6 _,?_⟩;rw[W0,S1,List.filter_eq_self];intro p hp;obtain⟨j,hj,rfl⟩:=Gr hp;have:=hall j hj;rwa[Ab _ _ _ hj]at this
theorem wC{s:List B2}{M:List Bool}{u:Int->Bool}(hs:s.length<=1000000)(hM:M.length=1024)(h:∀ p∈s,(0<=p.Dst/\p.Dst<1024)/\M.getD p.Dst.toNat false=u p.Dst) :
  ∃ k L,D1 s M=some (k,L)/\L.length=s.length/\k<=s.length/\L.take k=s.filter (Nj u):=by
 have hck:∀ p∈s,Jg p M=some (!Nj u p):=λp hp=>sX hM (h p hp).1 (h p hp).2;unfold D1 Fs
 rcases idx_loop (s:=s) (d:=(default:B2)) (keep:=Nj u) (F:=Cv s M) (λi hi=>by
   unfold Cv;simp only[Bt hi,Ah,Aa (Ai hi),Ak,hck _ (Ag hi),An,w1 (show i<4611686018427387904 by omega)]
   cases Nj u (s.getD i default)<;>rfl) (by unfold Cv;simp only[Co,Au]) with⟨i,hi,hl,hno,hyes⟩|⟨hl,hall⟩
 ·rw[hl,An,An]
  have hne:((i:Int)==-1)=false:=by rw[zzL29];omega
  rw[hne,Au,w1 (show i<4611686018427387904 by omega)]
  have htk:∀ n,n<=i->(s.take n).filter (Nj u)=s.take n:=λn hn=>by
   rw[List.filter_eq_self];intro p hp;obtain⟨j,hj,rfl⟩:=Gr hp;rw[Wz]at hj;have:=hyes j (by omega);rw[Ab _ _ _ (by omega)]at this;rw[List.getElem_take];exact this
  obtain⟨a',l',h1,h2,h3,h4⟩:=GU (s:=s) (d:=(default:B2)) (keep:=Nj u) (F:=Db M) (λa k l hk hak hll hm=>by
    unfold Db;simp only[Bt hk,Ah,Aa (Ai hk),Ak,hck _ hm,An,w1 (show k<4611686018427387904 by omega)]
    cases Nj u (l.getD k default) with
    | true=>
     simp only[D6,L4,Ah];rw[Aa (Ai (show a<l.length by omega)),An,w1 (show a<4611686018427387904 by omega)]
    | false=>
     simp only[D6,L4,Au]
     rw[An]) (λa l=>by unfold Db;simp only[Co,Au]) (s.length-(i+1)) i (i+1) s (by omega) (by omega) rfl rfl (by
    rw[List.take_add_one,P3 hi,Vc,htk i (zzL6 _)]
    have:Nj u s[i]=false:=by rw[<- Ab _ _ default hi];exact hno
    simp[this])
  have e:((a':Int)).toNat=a':=Ak a';rw[h1,An]
  dsimp only
  rw[e,Aa ⟨by omega,by omega⟩,Aa ⟨by omega,by rw[<- En];omega⟩];refine⟨_,_,rfl,by rw[<- En];exact h2,by omega,?_⟩;rw[F0,cS];exact h4
 ·rw[hl,An,An];refine⟨_,_,rfl,rfl,zzL6 _,?_⟩;rw[W0,S1,List.filter_eq_self];intro p hp;obtain⟨j,hj,rfl⟩:=Gr hp;have:=hall j hj;rwa[Ab _ _ _ hj]at this
section
variable {f:TFunc} {l:Int} (R:Yr f l) (hN:Nw f)
include R hN
theorem lH : Jl f (T0 f) = some (Qj f) := by
  have hroom : (1000001 : Nat) ≤ room := by decide
  have h64 := (shape_iff.1 (Bc R)).1.2; have hM := (ZG R hN).2
  have hsz : ∀ c, c < f.Blocks.length → Dm (bA f c) ≤ 512 := fun c hc => by
    have := Ud (F := fun b => Dm (bA f b)) hc; rw [← Jh] at this; have := hN.size; omega
  unfold Jl
  have key := DJ f.Blocks (default : Ae) (fun i (s : List Ae) => ((i : Int), s)) (fun i s => s.length = i) (fun s b => s ++ [FH (O0 (H4 f)) (Nj (H4 f)) b]) id (K0 f (T0 f)) (fun i s hi hP => by
    have hz := hsz i hi; unfold Dm at hz
    have hd1 : ∀ p ∈ (f.Blocks.getD i default).Phis, (0 ≤ p.Dst ∧ p.Dst < 1024) ∧ (T0 f).getD p.Dst.toNat false = H4 f p.Dst := fun p hp => by
      obtain ⟨k, hk, rfl⟩ := Gr hp; have := V0 R (d := ⟨((bA f i).Phis.getD k default).Dst, i, -1, (((bA f i).Phis.getD k default).Bits, 1)⟩) (ri_def.2 (.inr ⟨i, hi, .inl ⟨k, hk, rfl⟩⟩)); rw [Ab _ _ _ hk] at this; have := IB this
      have h1 : valS ((f.Blocks.getD i default).Phis[k]).Dst = true := by assumption
      unfold valS at h1; simp only [A5, Fz] at h1; exact ⟨by omega, QM R (by omega) (by omega)⟩
    have hd2 : ∀ p ∈ (f.Blocks.getD i default).Ops, (0 ≤ p.Dst ∧ p.Dst < 1024) ∧ (T0 f).getD p.Dst.toNat false = H4 f p.Dst := fun p hp => by
      have hm := G7 R _ (Ag (d := default) hi) p hp; have hd := (Xw hm).2.2.2.2.2.2
      have : 0 ≤ p.Dst ∧ p.Dst < 1024 := by
        unfold dstS at hd
        cases hc : (p.Kind == 17 || p.Kind == 19) with
        | true => rw [hc] at hd; have : p.Dst = 0 := by simpa using hd
                  omega
        | false =>
          rw [hc] at hd; have h1 : valS p.Dst = true := hd; unfold valS at h1; simp only [A5, Fz] at h1; omega
      exact ⟨this, QM R this.1 this.2⟩
    have hz' : (f.Blocks.getD i default).Phis.length + (f.Blocks.getD i default).Ops.length + 1 ≤ 512 := hz; obtain ⟨k1, L1, a1, a2, a3, a4⟩ := wB (s := (f.Blocks.getD i default).Phis) (by omega) hM hd1; obtain ⟨k2, L2, b1, b2, b3, b4⟩ := wC (s := (f.Blocks.getD i default).Ops) (by omega) hM hd2
    have cl1 : Ck (f.Blocks.getD i default).Phis = some (f.Blocks.getD i default).Phis := by unfold Ck; rw [Aa (by omega)]
    have cl2 : C5 (f.Blocks.getD i default).Ops = some (f.Blocks.getD i default).Ops := by unfold C5; rw [Aa (by omega)]
    unfold K0; simp only [Bt hi, Ah, Aa (Ai hi), Ak, w1 (show i < 4611686018427387904 by omega)]; rw [cl1, An, a1, An]
    dsimp only
    rw [Aa (by omega), Aa a2.symm, cl2, An, b1, An]
    dsimp only
    rw [Aa (by omega), Aa b2.symm, Ad (by show s.length + 1 ≤ room; omega), a4, b4]
    exact ⟨rfl, by rw [Fg, hP]; rfl⟩) (fun s _ => by unfold K0; simp only [Co, Au]; rfl) [] rfl
  have k0 : Ac (K0 f (T0 f)) ((0 : Int), ([] : List Ae)) = _ := key.1; rw [k0, An]
  have e : ∀ (L s : List Ae), L.foldl (fun s b => s ++ [FH (O0 (H4 f)) (Nj (H4 f)) b]) s = s ++ L.map (FH (O0 (H4 f)) (Nj (H4 f))) := fun L => by
    induction L with
    | nil => intro s; simp
    | cons b L ih => intro s; rw [IG, ih]; simp
  dsimp only [id]
  rw [e, Y9]; rfl
end
theorem oK{f:TFunc}(hN:Nw f):Ha f=some ((sizeN f:Nat):Int):=by
 have:=hN.size;rw[uz f hN.inf];unfold sizeW;rw[Ym (by omega)]
theorem WB{l:Int}:∀(n:Nat) (f:TFunc),Yr f l->Nw f->sizeN f<=n->Ac Nu (f.Params,f.Ret,f.Blocks)=some (Ur n f)
 | 0,f,R,hN,hn=>by
  have h0:=(shape_iff.1 (Bc R)).1.1;have:=Ud (F:=λb=>Dm (bA f b)) (i:=0) (n:=f.Blocks.length) (by omega);rw[<- Jh]at this;unfold Dm at this;omega
 | n+1,f,R,hN,hn=>by
  have hs:=Bc R;have h64:=(shape_iff.1 hs).1.2;obtain⟨R',hN'⟩:=jE R (jG f) hN
  have hF:Nu (f.Params,f.Ret,f.Blocks)=some (bif decide (((sizeN (Qj f):Nat):Int)<((sizeN f:Nat):Int)) then .next ((Qj f).Params,(Qj f).Ret,(Qj f).Blocks) else .done f):=by
   unfold Nu
   show(Ku f).bind _=_
   rw[(ZG R hN).1,An]
   show(Jl f (T0 f)).bind _=_
   rw[lH R hN,An,oK (show Nw (Qj f) from hN'),An]
   show(Ha f).bind _=_
   rw[oK hN,An]
   cases decide (((sizeN (Qj f):Nat):Int)<((sizeN f:Nat):Int))<;>rfl
  unfold Ur
  split
  ·rename_i h
   rw[Dr (by omega),Ah]at hF;rw[Aq hF];exact WB n (Qj f) R' hN' (by omega)
  ·rename_i h
   rw[C9 (by omega),Au]at hF;exact Am hF
def jF(f:TFunc):TFunc:=if Em f 2=0 then Ur (sizeN f) f else f
theorem oA{f:TFunc}(h:Sm f)(hN:Em f 2=0->Nw f):Sb f=some (jF f):=by
 unfold Sb jF;rw[ZH h,An]
 by_cases e:Em f 2=0
 ·have R:Yr f 2:=(Yg (by omega)).1 e;have key:=WB (sizeN f) f R (hN e) (zzL6 _);have hF:((Ku f).bind λx5=>((Jl f x5).bind λx6=>((Ha x6).bind λx7=>((Ha f).bind λx8=>(bif (decide ((x7:Int)<x8)) then(some (.next (x6.Params,x6.Ret,x6.Blocks))) else(some (.done f)))))):Option (LR (List Int×Int×List Ae) TFunc))=Nu (f.Params,f.Ret,f.Blocks):=rfl;rw[if_pos e,Dr e,D6,Au,hF];rw[<- MB]at key;rw[key];rfl
 ·rw[if_neg e,C9 e];rfl
def allT(f:TFunc):TFunc:=jF (bC f)
theorem yV{f:TFunc}(h:Sm f)(hN:Em f 2=0->Nw f):Tx f=some (allT f):=by
 unfold Tx allT;rw[yW h hN,An]
 by_cases e:Em f 2=0
 ·have R:Yr f 2:=(Yg (by omega)).1 e;obtain⟨a,b,_⟩:=NZ f.Blocks.length f R (hN e) (zzL6 _)
  have e1:bC f=Vy f.Blocks.length f:=by unfold bC;rw[if_pos e]
  rw[e1,oA (jb b) (λ_=>b)];rfl
 ·have e1:bC f=f:=by unfold bC;rw[if_neg e]
  rw[e1,oA h hN];rfl
theorem lU:m_locksteplaw16_awake=some true:=by kernel_rfl
theorem bI{f:TFunc}(hf:YQ f):Ac (Ce f) ((0:Int),(0:Int))=some (sizeW f):=by
 have hl:=DH f.Blocks (default:Ae) Dm id (Ce f) (λn i hi=>by
   have e1:decide ((i:Int)<(f.Blocks.length:Int))=true:=by simpa using hi
   unfold Ce;simp only[e1,Ah,Aa (Ai hi),Dy,K4 hi hf.blocks]
   congr 3
   rw[Va,Va,Int.add_assoc (w64 _),Va];unfold Dm
   congr 1
   omega) (λn=>by
   unfold Ce
   simp) f.Blocks.length 0 0 (F0 _)
 rw[Oa]at hl;rw[show w64 ((0:Nat):Int)=0 from rfl,show((0:Nat):Int)=0 from rfl]at hl;rw[hl];simp[sizeN,sizeW]
theorem pG{f:TFunc}(hf:YQ f):∃ b,D8 f=some b/\(b=true->Sm f/\(Qy f=true->f.Blocks.length<=16)):=by
 obtain⟨b,h1,h2⟩:=la hf;refine⟨b,h1,λhb=>⟨h2 hb,λhm=>?_⟩⟩;unfold D8 at h1;rw[bI hf,An]at h1;obtain⟨y,hy,h1⟩:=bind_some h1;have h3:=OI h1;rw[hb]at h3;unfold Qy at hm;simp only[A5,Fz]at hm;obtain⟨⟨⟨⟨⟨⟨_,g1⟩,_⟩,_⟩,_⟩,g2⟩,_⟩:=hm;rw[C9 (show ¬ (512:Int)<sizeW f by omega),C9 (show ¬ ((64:Int):Int)<(f.Blocks.length:Int) by omega)]at h3
 by_cases hn:(f.Blocks.length:Int)<=16
 ·omega
 ·rw[C9 hn]at h3
  revert h3
  cases y<;>simp
theorem lj{k n:Int}(hn:n<=16):Se k n<=16:=by
 unfold Se
 cases k==0<;>cases(k==13 || k==18 || k==19)<;>cases(k==14 || k==15 || k==16 || k==22)<;>cases k==20<;>cases k==21<;>simp only[Ah,Au]<;>omega
theorem lc{o:B2}(h:Gs o=true):o.Args.length<=16:=by
 simp only[Gs,A5,zzL63]at h;have h1:=h.1.2.2;have h2:=lj (k:=o.Kind) (n:=o.Lanes) (by rcases shape_lanes h.1.1 with e|e|e|e|e<;>omega);omega
theorem yo{f:TFunc}(hs:Sm f)(h16:Qy f=true->f.Blocks.length<=16){l:Int}(R:Yr f l):Nw f:=by
 have hn:=h16 R.may;have hsh:=Bc R;obtain⟨sm,hsm,hp⟩:=MD f hs.1;rw[hs.2]at hsm;obtain⟨_,hsz,_⟩:=hp (OI hsm).symm R.may
 have hi:∀ b∈f.Blocks,∃ i,i<f.Blocks.length/\bA f i=b:=λb hb=>by
  obtain⟨i,hi,he⟩:=Gr hb;exact⟨i,hi,by unfold bA;rw[Ab _ _ _ hi];exact he⟩
 have hm:=mayF_iff.1 R.may;refine⟨hs.1,by omega,λb hb=>?_,λb hb p hp=>?_,λb hb o ho=>lc (uw R hb ho),hsz⟩
 ·obtain⟨i,hi',rfl⟩:=hi b hb;have h3:Kd (bA f i).End f.Blocks.length=true:=(shape_iff.1 hsh).2 i hi';unfold Kd Yx at h3;simp only[A5,Fz]at h3;have h4:(((bA f i).End.To.length:Nat):Int)=CB (bA f i).End.Kind:=h3.1.2
  have h5:∀ k:Nat,([0,1,2,0]:List Int).getD k 0<=2:=λk=>by
   match k with
   | 0=>decide
   | 1=>decide
   | 2=>decide
   | 3=>decide
   | k+4=>simp
  have h5:CB (bA f i).End.Kind<=2:=h5 _;omega
 ·obtain⟨i,hi',rfl⟩:=hi b hb;obtain⟨e,h2⟩:=Tf R hi' hp
  have hl:(prF f i).length<=f.Blocks.length:=by
   unfold prF;rw[DN (by rw[Lx];exact hi')];unfold J7;rw[Dn];have:=List.length_filter_le (λk=>Yw (Az f) k i) (List.range (Az f).length);rw[S4]at this;rw[Lx]at this ⊢;exact this
  rw[e]at h2 ⊢;omega
theorem oa{f g:TFunc}(hl:g.Blocks.length=f.Blocks.length)(hr:Az g=Az f)(he:∀ i,(bA g i).End=(bA f i).End):Rk g=Rk f:=by
 unfold Rk;rw[hl]
 congr 1
 funext i
 unfold UT g6 prF;rw[he,hr]
theorem kz{f:TFunc}{l:Int}(R2:Yr f 2)(R:Yr f l)(hN:Nw f):Yr (allT f) l/\Yr (allT f) 2/\Nw (allT f)/\Rk (allT f)=none/\sizeN (allT f)<=sizeN (Qj (allT f))/\(allT f).Blocks.length<=f.Blocks.length/\sizeN (allT f)<=sizeN f:=by
 have hc:Em f 2=0:=(Yg (by omega)).2 R2
 have e1:bC f=Vy f.Blocks.length f:=by unfold bC;rw[if_pos hc]
 obtain⟨a,b,c,d,e⟩:=NZ f.Blocks.length f R hN (zzL6 _);obtain⟨a2,_⟩:=NZ f.Blocks.length f R2 hN (zzL6 _);have hc2:Em (Vy f.Blocks.length f) 2=0:=(Yg (by omega)).2 a2
 have e2:allT f=Ur (sizeN (Vy f.Blocks.length f)) (Vy f.Blocks.length f):=by unfold allT;rw[e1];unfold jF;rw[if_pos hc2]
 rw[e2];obtain⟨d1,d2,d3,d4,d5,d6,d7⟩:=PC (sizeN (Vy f.Blocks.length f)) (Vy f.Blocks.length f) a b (zzL6 _);obtain⟨d1',_⟩:=PC (sizeN (Vy f.Blocks.length f)) (Vy f.Blocks.length f) a2 b (zzL6 _);exact⟨d1,d1',d2,(oa d4 d6 d7).trans c,d3,by omega,by omega⟩
theorem yl{f:TFunc}{lv:Int}(hf:YQ f){K:Option Bool}(hl:0<=lv/\lv<=2\/True)(hK:Sm f->Em f lv=0->(Qy f=true->f.Blocks.length<=16)->K=some true) :
  ((D8 f).bind λx2=>((bif ((!x2)==false) then D7 f lv else some (0:Int)).bind λx3=>(bif (bif (!x2) then true else((x3:Int)!=(0:Int))) then(some true) else K)))=some true:=by
 obtain⟨b,hb,hsm⟩:=pG hf;rw[hb,An]
 cases b with
 | false=>rfl
 | true=>
  obtain⟨hs,h16⟩:=hsm rfl;rw[D6,show((false:Bool)==false)=true from rfl,Ah,dA hs,An,Au]
  cases hck:(Em f lv !=0) with
  | true=>rfl
  | false=>
   have h0:Em f lv=0:=by unfold bne at hck;simpa using hck
   rw[Au];exact hK hs h0 h16
theorem jy{F G:Nat->Nat}:∀{n:Nat},(∀ i,i<n->F i<=G i)->Sk n G<=Sk n F->∀ i,i<n->F i=G i
 | 0,_,_,i,hi=>by omega
 | n+1,h,hs,i,hi=>by
  rw[Oh,Oh]at hs;have h1:=jz (n:=n) λi hi=>h i (by omega);have h2:=h n (by omega)
  by_cases e:i=n
  ·subst e;omega
  ·exact jy (n:=n) (λi hi=>h i (by omega)) (by omega) i (by omega)
theorem lP{g:TFunc}(h:sizeN g<=sizeN (Qj g)){i:Nat}(hi:i<g.Blocks.length):(∀ p∈(bA g i).Phis,O0 (H4 g) p=true)/\∀ o∈(bA g i).Ops,Nj (H4 g) o=true:=by
 rw[Jh,Jh (Qj g)]at h;have hl:(Qj g).Blocks.length=g.Blocks.length:=Pm;rw[hl]at h
 have hle:∀ i,i<g.Blocks.length->Dm (bA (Qj g) i)<=Dm (bA g i):=λi hi=>by
  have e:bA (Qj g) i=FH (O0 (H4 g)) (Nj (H4 g)) (bA g i):=AO hi;rw[e];unfold FH Dm;have h1:=List.length_filter_le (O0 (H4 g)) (bA g i).Phis;have h2:=List.length_filter_le (Nj (H4 g)) (bA g i).Ops
  show(List.filter _ (bA g i).Phis).length+(List.filter _ (bA g i).Ops).length+1<=_
  omega
 have:=jy hle h i hi;have e:bA (Qj g) i=FH (O0 (H4 g)) (Nj (H4 g)) (bA g i):=AO hi;rw[e]at this;unfold FH Dm at this;have h1:=List.length_filter_le (O0 (H4 g)) (bA g i).Phis;have h2:=List.length_filter_le (Nj (H4 g)) (bA g i).Ops;have this':(List.filter (O0 (H4 g)) (bA g i).Phis).length+(List.filter (Nj (H4 g)) (bA g i).Ops).length+1=(bA g i).Phis.length+(bA g i).Ops.length+1:=this;exact⟨λp hp=>List.length_filter_eq_length_iff.1 (by omega) p hp,λo ho=>List.length_filter_eq_length_iff.1 (by omega) o ho⟩
def DZ(f:TFunc):List Int:=((List.range 1024).filter λv=>(T0 f).getD v false).map Int.ofNat
theorem wA{f:TFunc}(h:Sm f)(R:Yr f 2)(hN:Nw f):Sc f=some (DZ f):=by
 have hroom:(1000001:Nat)<=room:=by decide
 have hc:Em f 2=0:=(Yg (by omega)).2 R;obtain⟨m1,m2⟩:=ZG R hN;unfold Sc;rw[ZH h,An,Dr hc,D6,Au,m1,An]
 have key:=De (Nv (T0 f)) (λi=>(((List.range i).filter λv=>(T0 f).getD v false).map Int.ofNat,(i:Int))) (DZ f) (T0 f).length (λi hi=>by
  have hle:=List.length_filter_le (λv=>(T0 f).getD v false) (List.range i);rw[S4]at hle
  have hr:((List.range (i+1)).filter λv=>(T0 f).getD v false).map Int.ofNat=((List.range i).filter λv=>(T0 f).getD v false).map Int.ofNat++(if(T0 f).getD i false=true then[(i:Int)] else[]):=by
   rw[Vf,Vc,Ve]
   congr 1
   by_cases h:(T0 f).getD i false=true
   ·rw[if_pos h,List.filter_cons,if_pos h];rfl
   ·rw[if_neg h,List.filter_cons,if_neg h];rfl
  rw[hr];unfold Nv;simp only[Bt hi,Ah,Aa (Ai hi),Ak,w1 (show i<4611686018427387904 by omega)]
  cases h:(T0 f).getD i false with
  | true=>
   rw[Ah,Aa (by rw[Dn];show _+1<=room;omega),An,if_pos rfl]
  | false=>
   rw[Au,An,if_neg (by simp),List.append_nil]) (by
  unfold Nv;simp only[Co,Au]
  rw[m2];rfl)
 have k0:Ac (Nv (T0 f)) (([]:List Int),(0:Int))=_:=key;rw[k0];rfl
theorem j8{f:TFunc}{l:Int}(R:Yr f l){v:Int}(h0:0<=v)(h1:v<1024):(DZ f).contains v=H4 f v:=by
 rw[<- QM R h0 h1,EX,zzL60];unfold DZ
 constructor
 ·intro h;obtain⟨n,hn,rfl⟩:=zzL20.1 h;have:=(zzL96.1 hn).2
  show(T0 f).getD ((n:Int)).toNat false=true
  rw[Ak];exact this
 ·intro h;exact zzL20.2 ⟨v.toNat,zzL96.2 ⟨zzL41.2 (by omega),h⟩,by show((v.toNat:Nat):Int)=v;omega⟩
theorem sk {f : TFunc} {l : Int} (R : Yr f l) {i : Nat} (hi : i < f.Blocks.length) : (∀ p ∈ (bA f i).Phis, 0 ≤ p.Dst ∧ p.Dst < 1024) ∧ ∀ o ∈ (bA f i).Ops, 0 ≤ o.Dst ∧ o.Dst < 1024 := by
  refine ⟨fun p hp => ?_, fun o ho => ?_⟩
  · obtain ⟨k, hk, rfl⟩ := Gr hp; have h1 := V0 R (d := ⟨((bA f i).Phis.getD k default).Dst, i, -1, (((bA f i).Phis.getD k default).Bits, 1)⟩) (ri_def.2 (.inr ⟨i, hi, .inl ⟨k, hk, rfl⟩⟩)); rw [Ab _ _ _ hk] at h1; unfold valS at h1; simp only [A5, Fz] at h1; omega
  · have hd := (Xw (G7 R _ (Ag (d := default) hi) o ho)).2.2.2.2.2.2; unfold dstS at hd
    cases hc : (o.Kind == 17 || o.Kind == 19) with
    | true => rw [hc] at hd; have : o.Dst = 0 := by simpa using hd
              omega
    | false =>
      rw [hc] at hd; have h1 : valS o.Dst = true := hd; unfold valS at h1; simp only [A5, Fz] at h1; omega
theorem none16(f:TFunc)(hf:YQ f):Lb f=some true:=by
 unfold Lb;rw[lU,An,D6,Au];refine yl hf (.inr trivial) λhs h0 h16=>?_;have R2:Yr f 2:=(Yg (by omega)).1 h0;have hN:=yo hs h16 R2;obtain⟨a,_,b,c,d,e,g0⟩:=kz R2 R2 hN;rw[yV hs (λ_=>hN),An,wA (jb b) a b,An]
 generalize allT f=g at *
 have hsh:=Bc a;have h64:=(shape_iff.1 hsh).1.2;rw[QE g (by rw[Pw];omega),hsh,Ah,An];rw[show((0:Int)!=0)=false from rfl,Au];have hlp:(Cx (Az g)).length=g.Blocks.length:=pd g;have hP:(J4 (Az g),(0:Int)).1.Pred=Cx (Az g):=rfl
 have hul:(DZ g).length<4611686018427387904:=by
  unfold DZ;rw[Dn];have:=List.length_filter_le (λv=>(T0 g).getD v false) (List.range 1024);rw[S4]at this;omega
 have hsz:∀ c,c<g.Blocks.length->Dm (bA g c)<=512:=λc hc=>by
  have:=Ud (F:=λb=>Dm (bA g b)) hc;rw[<- Jh]at this;have:=b.size;omega
 have key:=De (Ec g (DZ g) (J4 (Az g),(0:Int))) (λi=>((i:Nat):Int)) (.inl ()) g.Blocks.length (λi hi=>by
  have hz:=hsz i hi;unfold Dm at hz;obtain⟨u1,u2⟩:=lP d hi;obtain⟨v1,v2⟩:=sk a hi
  have k1:Ac (Ea g (DZ g) (i:Int)) (0:Int)=some (.inl ()):=De (Ea g (DZ g) (i:Int)) (λk=>((k:Nat):Int)) (.inl ()) (bA g i).Phis.length (λk hk=>by
    have hp:=Ag (d:=(default:Ba)) hk;have hd:=v1 _ hp
    have hu:(DZ g).contains ((bA g i).Phis.getD k default).Dst=true:=by rw[j8 a hd.1 hd.2];exact u1 _ hp
    have hh:Cj (DZ g) (((g.Blocks.getD i default).Phis).getD k default).Dst=some true:=by rw[dD _ _ hul];exact Bg some hu
    unfold Ea;simp only[Ak]
    rw[Bt hk,Ah,Aa (Ai hk),hh,An,w1 (show k<4611686018427387904 by omega)];rfl) (by
    unfold Ea;simp only[Ak]
    rw[Co,Au])
  have k2:Ac (Eb g (DZ g) (i:Int)) (0:Int)=some (.inl ()):=De (Eb g (DZ g) (i:Int)) (λk=>((k:Nat):Int)) (.inl ()) (bA g i).Ops.length (λk hk=>by
    have hp:=Ag (d:=(default:B2)) hk;have hd:=v2 _ hp;have hu:(DZ g).contains ((bA g i).Ops.getD k default).Dst=H4 g ((bA g i).Ops.getD k default).Dst:=j8 a hd.1 hd.2;have hk2:=u2 _ hp;unfold Nj at hk2
    have hh:Cj (DZ g) (((g.Blocks.getD i default).Ops).getD k default).Dst=some (H4 g ((bA g i).Ops.getD k default).Dst):=by rw[dD _ _ hul];exact Bg some hu
    unfold Eb;simp only[Ak];rw[Bt hk,Ah,Aa (Ai hk),ref_Pure,An,Aa (λ_=>Ai hk),hh,w1 (show k<4611686018427387904 by omega)];have hk2':(!jp ((g.Blocks.getD i default).Ops.getD k default).Kind || H4 g ((bA g i).Ops.getD k default).Dst)=true:=hk2
    cases h1:jp ((g.Blocks.getD i default).Ops.getD k default).Kind with
    | false=>rfl
    | true=>
     rw[h1,D6,SO]at hk2'
     rw[hk2'];rfl) (by
    unfold Eb;simp only[Ak]
    rw[Co,Au])
  have hfr:UT g i=none:=by
   unfold Rk at c;exact List.findSome?_eq_none_iff.1 c i (zzL41.2 hi)
  unfold Ec;simp only[Bt hi,Ah,Aa (Ai hi),Ak,hP,w1 (show i<4611686018427387904 by omega)];rw[k1,An]
  dsimp only
  rw[k2,An]
  dsimp only
  by_cases hk:(bA g i).End.Kind=1
  ·obtain⟨y,hb,hbl,hb0⟩:=HD hsh hi hk
   have ht:g6 g i 0=(y:Int):=by unfold g6;rw[hb];rfl
   rw[show((g.Blocks.getD i default).End.Kind==1)=true from zzL63.2 hk];rw[show(g.Blocks.getD i default).End.To=[(y:Int)] from hb];have e0:[(y:Int)].getD ((0:Int)).toNat 0=(y:Int):=rfl;have hI:A1 (0:Int) [(y:Int)].length:=⟨by omega,by show(0:Int)<((1:Nat):Int);omega⟩;rw[Aa (λ_=>hI),e0,Ah,Aa (λ_=>hI),show(J4 (Az g)).Pred=Cx (Az g) from rfl,Aa (λ_=>by rw[hlp];exact Ai hbl),Ak];unfold UT at hfr;rw[ht,Ak]at hfr
   have hno:¬ ((y:Int)≠(i:Int)/\(prF g y).length=1):=λhh=>by rw[if_pos ⟨hk,hh⟩]at hfr;cases hfr
   have e1:(bif ((y:Int)!=(i:Int)) then((((Cx (Az g)).getD y []).length:Int)==(1:Int)) else false)=false:=by
    by_cases hbi:(y:Int)=(i:Int)
    ·rw[show((y:Int)!=(i:Int))=false by simpa using hbi];rfl
    ·rw[show((y:Int)!=(i:Int))=true by simpa using hbi,Ah,zzL29];intro he;exact hno ⟨hbi,by have:(((prF g y).length:Nat):Int)=1:=he;omega⟩
   rw[e1];rfl
  ·have hk0:((g.Blocks.getD i default).End.Kind==1)=false:=zzL29.2 hk
   rw[hk0,Aa (λh=>by cases h),Au,Aa (λh=>by cases h),Aa (λh=>by cases h)];rfl) (by
  unfold Ec
  simp only[Co,Au])
 have k0:Ac (Ec g (DZ g) (J4 (Az g),(0:Int))) (0:Int)=_:=key;rw[k0];rfl
end
end Go.Proofs.YtfhggcbcamamdaaGreat
