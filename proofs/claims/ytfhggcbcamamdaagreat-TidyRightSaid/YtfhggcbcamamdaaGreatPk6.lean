/-
  The machine, the program's functions and the laws' arithmetic: part 6 of 6.
-/
import Derived.Test.YtfhggcbcamamdaaGreatPk5
set_option linter.unusedSectionVars false
set_option linter.unusedVariables false
set_option linter.unusedSimpArgs false
namespace Go.Proofs.YtfhggcbcamamdaaGreat
noncomputable section
open Go Go.RowKit
set_option linter.unusedSectionVars false
set_option maxRecDepth 100000
theorem jl{v:Int->Int}{o:Bv}(h:Gs o=true)(hv:∀ a∈o.Args,valS (v a)=true):Gs (md v o)=true:=by
 simp only[Gs,A6]at h ⊢;refine⟨⟨h.1.1,⟨h.1.2.1,?_⟩⟩,?_,h.2.2⟩
 ·have:=h.1.2.2;unfold md;rw[Dz];exact this
 ·unfold md;rw[List.all_map,zzL26];exact hv
theorem lq{v:Int->Int}{l:Int}{o:Bv}(h:K2 l o=true)(hv:∀ a∈o.Args,valS (v a)=true):K2 l (md v o)=true:=by
 have hm:=jl (Wr h) hv;have hm0:=Wr h;unfold K2 at h ⊢;rw[hm];rw[hm0]at h;exact h
theorem XK{v:Int->Int}{o:Bv}(h:Gs o=true)(hv:∀ a∈o.Args,valS (v a)=true):H2 (md v o)=H2 o:=by
 rw[PS (jl h hv),PS h];rfl
def PhY(y:Nat)(d:Bz):Prop:=d.Block=(y:Int)/\d.At = -1
section
variable {f:TFunc} {x y:Nat} {l:Int} (J:Jn f x y) (R:Zy f l)
include J R
theorem YJ{p:A8}(hp:p∈(bA f y).Phis):p.Args.length=1/\(⟨p.Args.getD 0 0,(x:Int),1000,(p.Bits,1)⟩:Cq)∈Bh f/\(⟨p.Dst,(y:Int),-1,(p.Bits,1)⟩:Bz)∈Au f:=by
 have hs:=Bd R;have hy:=(LO J hs).1;obtain⟨h1,h2⟩:=Td R hy hp;rw[J.pred]at h1;rw[h1,ET]at h2;obtain⟨k,hk,e⟩:=G7 hp
 have e':(bA f y).Phis.getD k default=p:=by rw[Ab _ _ _ hk];exact e
 refine⟨h2,?_,ri_def.2 (.inr ⟨y,hy,.inl ⟨k,hk,by rw[e']⟩⟩)⟩;refine(H1 (Hi R)).2 ⟨y,hy,.inl ⟨k,0,hk,by rw[e'];omega,?_⟩⟩;rw[e',h1];rfl
theorem qT{d:Bz}(hd:d∈Au f){b:Nat}(hb:b<f.Blocks.length){a:Int}(ha:0<=a)(ht:kw f d (b:Int) a) :
  ∃ e∈Au f,e.V=vJ f y d.V/\e.Shape=d.Shape/\kw f e (b:Int) a/\¬ PhY y e:=by
 have hs:=Bd R;have hy:=LO J hs;unfold vJ VU
 cases hq:(bA f y).Phis.find? (λp=>p.Dst==d.V) with
 | none=>
  refine⟨d,hd,rfl,rfl,ht,λ⟨h1,h2⟩=>?_⟩;rcases ri_def.1 hd with⟨i,hi,e⟩|⟨i,hi,⟨k,hk,e⟩|⟨k,hk,hg,e⟩⟩
  ·rw[e]at h1;have:(-1:Int)=(y:Int):=h1;omega
  ·rw[e]at h1
   have hiy:i=y:=by have:(i:Int)=(y:Int):=h1;omega
   subst hiy;have:=List.find?_eq_none.1 hq _ (Ag (d:=(default:A8)) hk);rw[e]at this;simp at this
  ·rw[e]at h2;have:(k:Int) = -1:=h2;omega
 | some p=>
  have hp:=List.mem_of_find?_eq_some hq
  have hpv:p.Dst=d.V:=by simpa using List.find?_some hq
  obtain⟨_,hu,hdp⟩:=YJ J R hp;have hde:=qB R hd hdp hpv.symm;obtain⟨e,he,ev,es,et⟩:=KB R hu
  have hen:∀ i:Nat,e.Block=(i:Int)->i<f.Blocks.length:=λi hi=>by
   rcases ri_def.1 he with⟨j,_,e'⟩|⟨j,hj,⟨k,hk,e'⟩|⟨k,hk,hg,e'⟩⟩<;>rw[e']at hi
   ·have:(-1:Int)=(i:Int):=hi;omega
   ·have:(j:Int)=(i:Int):=hi;omega
   ·have:(j:Int)=(i:Int):=hi;omega
  have hnb:∀ i:Nat,e.Block=(i:Int)->Lt (B8 f) (i:Int) (x:Int)=true/\i≠y:=λi hi=>by
   have hin:=hen i hi
   have hov:Lt (B8 f) (i:Int) (x:Int)=true:=by
    rcases et with h|⟨h,_⟩|⟨_,h⟩
    ·omega
    ·have h:e.Block=(x:Int):=h
     have:i=x:=by omega
     rw[this];exact(Vv hs J.hx J.hx).2 ⟨(Wj R J.hx).1,λh=>uu h rfl⟩
    ·rw[hi]at h;exact h
   exact⟨hov,λe=>gQ J hs (by rw[<- e];exact hov)⟩
  refine⟨e,he,ev,by rw[es,hde],?_,λ⟨h1,_⟩=>(hnb y h1).2 rfl⟩
  by_cases h0:e.Block<0
  ·exact .inl h0
  ·obtain⟨i,hi⟩:∃ i:Nat,e.Block=(i:Int):=⟨e.Block.toNat,by omega⟩;have hin:=hen i hi;obtain⟨hov,hiy⟩:=hnb i hi;have hovy:Lt (B8 f) (i:Int) (y:Int)=true:=(xA J hs hin hiy).2 hov;rw[hde]at ht;refine .inr (.inr ?_);rw[hi];rcases ht with h|⟨h,_⟩|⟨h1,h2⟩
   ·have:(y:Int)<0:=h;omega
   ·have h:(y:Int)=(b:Int):=h
    have:b=y:=by omega
    subst this;exact⟨by omega,hovy⟩
   ·have h1:(y:Int)≠(b:Int):=h1;have h2:Lt (B8 f) (y:Int) (b:Int)=true:=h2;refine⟨λe=>?_,RG hs hin hy.1 hb hovy h2⟩
    have:i=b:=by omega
    subst this;exact gQ J hs (RG hs hy.1 hin J.hx h2 hov)
theorem xE{d:Bz}(hd:d∈Au f):valS (vJ f y d.V)=true:=by
 unfold vJ VU
 cases hq:(bA f y).Phis.find? (λp=>p.Dst==d.V) with
 | none=>exact Yg R hd
 | some p=>
  obtain⟨_,hu,_⟩:=YJ J R (List.mem_of_find?_eq_some hq);obtain⟨e,he,ev,_⟩:=KB R hu;have:=Yg R he;rw[ev]at this;exact this
theorem bM{u:Cq}(hu:u∈Bh f):valS (vJ f y u.V)=true:=by
 obtain⟨d,hd,e,_⟩:=KB R hu;rw[<- e];exact xE J R hd
theorem bF{b:Nat}(hb:b<f.Blocks.length){o:Bv}(ho:o∈(bA f b).Ops):∀ a∈o.Args,valS (vJ f y a)=true:=λa ha=>by
 obtain⟨k,hk,e⟩:=G7 ho;obtain⟨j,hj,e2⟩:=G7 ha
 have e':(bA f b).Ops.getD k default=o:=by rw[Ab _ _ _ hk];exact e
 have:=bM J R ((H1 (Hi R)).2 ⟨b,hb,.inr (.inl ⟨k,j,hk,by rw[e'];exact hj,rfl⟩)⟩);rw[e',Ab _ _ _ hj,e2]at this;exact this
def offJ(f:TFunc)(x y b:Nat):Nat:=if b=y then(bA f x).Ops.length else 0
theorem JI{b:Nat}(hb:b<f.Blocks.length)(hby:b≠y):(bA (Cb f x y) (psJ x y b)).Phis=(bA f b).Phis.map (NO (vJ f y) x y):=by
 rw[tE J (Bd R) hb hby];unfold GV Ke
 split
 ·rename_i e;rw[e]
 ·rfl
theorem PW:(bA (Cb f x y) (psJ x y x)).Ops=((bA f x).Ops++(bA f y).Ops).map (md (vJ f y)):=by
 rw[tE J (Bd R) J.hx (λh=>J.ne h.symm)];unfold GV Ke;rw[if_pos rfl]
theorem jV{b:Nat}(hb:b<f.Blocks.length)(hby:b≠y)(hbx:b≠x):(bA (Cb f x y) (psJ x y b)).Ops=(bA f b).Ops.map (md (vJ f y)):=by
 rw[tE J (Bd R) hb hby];unfold GV Ke;rw[if_neg hbx]
theorem po:psJ x y y=psJ x y x:=by rcases ps_eq J.ne y with h|h|h<;>omega
theorem tD{b:Nat}(hb:b<f.Blocks.length){k:Nat}(hk:k<(bA f b).Ops.length):k+offJ f x y b<(bA (Cb f x y) (psJ x y b)).Ops.length/\(bA (Cb f x y) (psJ x y b)).Ops.getD (k+offJ f x y b) default=md (vJ f y) ((bA f b).Ops.getD k default):=by
 unfold offJ
 by_cases ey:b=y
 ·subst ey;rw[if_pos rfl,po J R,PW J R];refine⟨by rw[Dz,Fh];omega,?_⟩;rw[Ab _ _ _ (by rw[Dz,Fh];omega),List.getElem_map,List.getElem_append_right (by omega),Ab _ _ _ hk]
  congr 2;omega
 ·rw[if_neg ey,Na]
  by_cases ex:b=x
  ·subst ex;rw[PW J R];refine⟨by rw[Dz,Fh];omega,?_⟩;rw[Ab _ _ _ (by rw[Dz,Fh];omega),List.getElem_map,List.getElem_append_left hk,Ab _ _ _ hk]
  ·rw[jV J R hb ey ex];refine⟨by rw[Dz];exact hk,?_⟩;rw[Ab _ _ _ (by rw[Dz];exact hk),List.getElem_map,Ab _ _ _ hk]
theorem mvJ{d:Bz}(hd:d∈Au f){i:Nat}(hi:d.Block=(i:Int))(hp:¬ PhY y d):∃ e∈Au (Cb f x y),e.V=d.V/\e.Shape=d.Shape/\e.Block=(psJ x y i:Int)/\e.At=d.At+(offJ f x y i:Int)/\i<f.Blocks.length/\d.At<((bA f i).Ops.length:Int):=by
 have hs:=Bd R;rcases ri_def.1 hd with⟨j,_,e⟩|⟨j,hj,h'⟩
 ·rw[e]at hi;have:(-1:Int)=(i:Int):=hi;omega
 ·have hij:j=i:=by rcases h' with⟨k,_,e⟩|⟨k,_,_,e⟩<;>rw[e]at hi<;>exact(by have:(j:Int)=(i:Int):=hi;omega)
  subst hij
  have hpl:psJ x y j<(Cb f x y).Blocks.length:=by rw[Ok J];exact V7 J hs hj
  rcases h' with⟨k,hk,e⟩|⟨k,hk,hg,e⟩
  ·have hjy:j≠y:=λh=>hp ⟨by rw[e,h],by rw[e]⟩;have h1:=JI J R hj hjy;refine⟨_,ri_def.2 (.inr ⟨_,hpl,.inl ⟨k,by rw[h1,Dz];exact hk,rfl⟩⟩),?_,?_,rfl,?_,hj,by rw[e];show(-1:Int)<_;omega⟩
   ·rw[h1,Ab _ _ _ (by rw[Dz];exact hk),List.getElem_map,e,Ab _ _ _ hk];rfl
   ·rw[h1,Ab _ _ _ (by rw[Dz];exact hk),List.getElem_map,e,Ab _ _ _ hk];rfl
   ·rw[e];unfold offJ;rw[if_neg hjy];rfl
  ·obtain⟨h1,h2⟩:=tD J R hj hk;have hm:=Hi R _ (Ag (d:=default) hj) _ (Ag (d:=default) hk);have hv:=bF J R hj (Ag (d:=default) hk);have hgv:=XK hm hv;refine⟨_,ri_def.2 (.inr ⟨_,hpl,.inr ⟨k+offJ f x y j,h1,by rw[h2,hgv];exact hg,rfl⟩⟩),?_,?_,rfl,?_,hj,by rw[e];show(k:Int)<_;omega⟩
   ·rw[h2,e];rfl
   ·rw[h2,hgv,e]
   ·rw[e];show((k+offJ f x y j:Nat):Int)=(k:Int)+_;omega
theorem trJ{d:Bz}(hd:d∈Au f)(hp:¬ PhY y d){b:Nat}(hb:b<f.Blocks.length){a:Int}(ha:0<=a)(ht:kw f d (b:Int) a) :
  ∃ e∈Au (Cb f x y),e.V=d.V/\e.Shape=d.Shape/\kw (Cb f x y) e (psJ x y b) (a+(offJ f x y b:Int)):=by
 have hs:=Bd R;have hy:=LO J hs
 by_cases h0:d.Block<0
 ·rcases ri_def.1 hd with⟨j,hj,e⟩|⟨j,hj,h'⟩
  ·exact⟨d,ri_def.2 (.inl ⟨j,hj,e⟩),rfl,rfl,.inl h0⟩
  ·exfalso
   rcases h' with⟨k,_,e⟩|⟨k,_,_,e⟩<;>rw[e]at h0<;>exact absurd h0 (by show ¬ (j:Int)<0;omega)
 ·obtain⟨i,hi⟩:∃ i:Nat,d.Block=(i:Int):=⟨d.Block.toNat,by omega⟩;obtain⟨e,he,ev,es,eb,ea,hin,hat⟩:=mvJ J R hd hi hp;refine⟨e,he,ev,es,?_⟩;have hpy:=po J R
  have key:∀ c c',c<f.Blocks.length->c≠y->c'<f.Blocks.length->c'≠y->psJ x y c=psJ x y i->psJ x y c'=psJ x y b->c≠c'->Lt (B8 f) (c:Int) (c':Int)=true->kw (Cb f x y) e (psJ x y b) (a+(offJ f x y b:Int)):=λc c' hc hcy hc' hcy' e1 e2 hne ho=>by
   refine .inr (.inr ⟨?_,?_⟩)
   ·rw[eb,<- e1,<- e2];intro h;exact hne (gh J.ne hcy hcy' (by omega))
   ·rw[eb,<- e1,<- e2];exact wl J hs hc hcy hc' hcy' ho
  rcases ht with h|⟨h1,h2⟩|⟨h1,h2⟩
  ·exact absurd h h0
  ·have:i=b:=by omega
   subst this;exact .inr (.inl ⟨eb,by rw[ea];omega⟩)
  ·rw[hi]at h1 h2;have hib:i≠b:=λh=>h1 (by rw[h])
   by_cases eiy:i=y
   ·subst eiy;have hxb:Lt (B8 f) (x:Int) (b:Int)=true:=RG hs J.hx hin hb ((xA J hs J.hx (λh=>J.ne h.symm)).2 ((Vv hs J.hx J.hx).2 ⟨(Wj R J.hx).1,λh=>uu h rfl⟩)) h2;have hbx:x≠b:=λh=>gQ J hs (by rw[h];exact h2);exact key x b J.hx (λh=>J.ne h.symm) hb (λh=>hib h.symm) hpy.symm rfl hbx hxb
   ·by_cases eby:b=y
    ·subst eby
     by_cases eix:i=x
     ·subst eix;refine .inr (.inl ⟨by rw[eb,hpy],?_⟩);rw[ea];unfold offJ;rw[if_neg (λh=>J.ne h.symm),if_pos rfl];omega
     ·exact key i x hin eiy J.hx (λh=>J.ne h.symm) rfl hpy.symm eix ((xA J hs hin eiy).1 h2)
    ·exact key i b hin eiy hb eby rfl rfl hib h2
theorem mN{u:Cq}(hu:u∈Bh f){b:Nat}(hb:b<f.Blocks.length)(e1:u.Block=(b:Int))(ha:0<=u.At) :
  ∃ e∈Au (Cb f x y),e.V=vJ f y u.V/\e.Shape=u.Shape/\kw (Cb f x y) e (psJ x y b) (u.At+(offJ f x y b:Int)):=by
 obtain⟨d,hd,hv,hsh,ht⟩:=KB R hu;rw[e1]at ht;obtain⟨d1,hd1,v1,s1,t1,p1⟩:=qT J R hd hb ha ht;obtain⟨e,he,ev,es,et⟩:=trJ J R hd1 p1 hb ha t1;exact⟨e,he,by rw[ev,v1,hv],by rw[es,s1,hsh],et⟩
end
structure Nw(f:TFunc):Prop where
 inf:VY f
 params:f.Params.length<=64
 to:∀ b∈f.Blocks,b.End.To.length<=2
 phi:∀ b∈f.Blocks,∀ p∈b.Phis,p.From.length<=16/\p.Args.length<=16
 op:∀ b∈f.Blocks,∀ o∈b.Ops,o.Args.length<=16
 size:sizeN f<=512
theorem dT{f:TFunc}(h:Nw f):Sm f:=by
 refine zZ h.inf h.params (λb hb=>⟨by have:=h.to b hb;omega,λp hp=>by have:=h.phi b hb p hp;omega,λo ho=>by have:=h.op b hb o ho;omega⟩) ?_
 have hB:∀ b∈f.Blocks,UW b<=33*Ez b:=λb hb=>by
  have h1:(b.Phis.map cY).sum<=b.Phis.length*33:=g6 _ _ _ λp hp=>by have:=h.phi b hb p hp;unfold cY;omega
  have h2:(b.Ops.map cX).sum<=b.Ops.length*33:=g6 _ _ _ λo ho=>by have:=h.op b hb o ho;unfold cX;omega
  have h3:=h.to b hb;unfold UW Ez;omega
 have hS:∀ l:List Ae,(∀ b∈l,UW b<=33*Ez b)->(l.map UW).sum<=33*(l.map Ez).sum:=λl=>by
  induction l with
  | nil=>intro _;simp
  | cons b l ih=>
   intro hl;have h1:=hl b (zzL53 ..);have h2:=ih λx hx=>hl x (N8 _ hx);simp only[Cu,SU];omega
 have h1:=hS _ hB;have h2:=h.size;have h3:=h.params;unfold sizeN at h2;unfold fg;omega
def Ti(n:Nat)(F:Nat->Nat):Nat:=((List.range n).map F).sum
theorem Rv(n:Nat)(F:Nat->Nat):Ti (n+1) F=Ti n F+F n:=by
 unfold Ti;rw[W0,Wy,List.sum_append];simp
theorem Yi{n:Nat}{F G:Nat->Nat}(h:∀ i,i<n->F i=G i):Ti n F=Ti n G:=by
 unfold Ti;rw[MQ λi hi=>h i (zzL45.1 hi)]
theorem uJ{n:Nat}{F G:Nat->Nat}(h:∀ i,i<n->F i<=G i):Ti n F<=Ti n G:=by
 induction n with
 | zero=>exact zzL6 _
 | succ n ih=>rw[Rv,Rv];have:=ih λi hi=>h i (by omega);have:=h n (by omega);omega
theorem Wp{n:Nat}{F:Nat->Nat}{i:Nat}(h:i<n):F i<=Ti n F:=by
 induction n with
 | zero=>omega
 | succ n ih=>
  rw[Rv]
  by_cases e:i=n
  ·subst e;omega
  ·have:=ih (by omega);omega
theorem j5{y:Nat}(F:Nat->Nat):∀ n,y<n->Ti (n-1) (λk=>F (IV y k))+F y=Ti n F
 | 0,h=>by omega
 | n+1,h=>by
  rw[Rv,show n+1-1=n by omega]
  by_cases e:y=n
  ·have e2:Ti n (λk=>F (IV y k))=Ti n F:=Yi λi hi=>by
    have:IV y i=i:=by rcases up_eq y i with h|h<;>omega
    rw[this]
   rw[e2,e]
  ·obtain⟨m,rfl⟩:∃ m,n=m+1:=⟨n-1,by omega⟩;have:=j5 (y:=y) F (m+1) (by omega);rw[show m+1-1=m by omega]at this
   have e3:IV y m=m+1:=by rcases up_eq y m with h|h<;>omega
   have e4:Ti (m+1) (λk=>F (IV y k))=Ti m (λk=>F (IV y k))+F (IV y m):=Rv ..;rw[e4,e3];omega
theorem j4{x:Nat}(F:Nat->Nat)(c:Nat):∀ n,x<n->Ti n (λb=>if b=x then F b+c else F b)=Ti n F+c
 | 0,h=>by omega
 | n+1,h=>by
  rw[Rv,Rv]
  by_cases e:n=x
  ·subst e;rw[if_pos rfl,Yi (G:=F) λi hi=>by rw[if_neg (by omega)]];omega
  ·rw[if_neg e,j4 F c n (by omega)];omega
theorem My(f:TFunc):sizeN f=Ti f.Blocks.length λb=>Ez (bA f b):=by
 unfold sizeN Ti
 congr 1
 apply CI
 ·simp
 ·intro i h1 h2;simp at h1 h2 ⊢;simp[h1]
theorem mayF_iff{f:TFunc}:Qv f=true↔(1<=f.Blocks.length/\f.Blocks.length<=64)/\f.Params.length<=16/\listB f.Params=true/\numB f.Ret=true/\sizeW f<=512/\∀ b∈f.Blocks,blockB b=true:=by
 unfold Qv;simp only[A6,Gr,zzL26,and_assoc]
theorem numBJ{n:Int}:numB n=true↔0<=n/\n<=2147483647:=by unfold numB;rw[A6,Gr,Gr]
theorem listBJ{l:List Int}:listB l=true↔(∀ n∈l,0<=n/\n<=2147483647)/\l.length<=64:=by
 unfold listB;rw[A6,zzL26,Gr];exact⟨λh=>⟨λn hn=>numBJ.1 (h.1 n hn),h.2⟩,λh=>⟨λn hn=>numBJ.2 (h.1 n hn),h.2⟩⟩
theorem IG{v:Int}(h:valS v=true):0<=v/\v<=2147483647:=by
 unfold valS at h;simp only[A6,Gr]at h;omega
section
variable {f:TFunc} {x y:Nat} {l:Int} (J:Jn f x y) (R:Zy f l)
include J R
theorem fq:sizeN (Cb f x y)+(bA f y).Phis.length+1=sizeN f:=by
 have hy:=(LO J (Bd R)).1;rw[My,My,Ok J]
 have h1:Ti (f.Blocks.length-1) (λb=>Ez (bA (Cb f x y) b))=Ti (f.Blocks.length-1) (λk=>(λb=>Ez (Ke f x y b)) (IV y k)):=Yi λi hi=>by
  rw[zA J hi];unfold GV Ez
  simp
 have h2:=j5 (y:=y) (λb=>Ez (Ke f x y b)) f.Blocks.length hy
 have h3:Ti f.Blocks.length (λb=>Ez (Ke f x y b))=Ti f.Blocks.length (λb=>if b=x then Ez (bA f b)+(bA f y).Ops.length else Ez (bA f b)):=Yi λi hi=>by
  unfold Ke
  split
  ·rename_i e;subst e;unfold Ez;simp;omega
  ·rfl
 rw[j4 (x:=x) (λb=>Ez (bA f b)) _ _ J.hx]at h3
 have h4:Ez (Ke f x y y)=Ez (bA f y):=by unfold Ke;rw[if_neg J.ne]
 have h2':Ti (f.Blocks.length-1) (λk=>(λb=>Ez (Ke f x y b)) (IV y k))+Ez (Ke f x y y)=_:=h2;rw[h4]at h2';unfold Ez at h2' h3 h1 ⊢;omega
theorem cq{b:Ae}(hb:b∈(Cb f x y).Blocks):∃ c,c<f.Blocks.length/\c≠y/\b=bA (Cb f x y) (psJ x y c)/\b.Phis=(bA f c).Phis.map (NO (vJ f y) x y)/\(∀ o∈b.Ops,∃ d,d<f.Blocks.length/\∃ o'∈(bA f d).Ops,o=md (vJ f y) o') /\
  b.End=oi (vJ f y) x y (bA f (Th x y c)).End/\Th x y c<f.Blocks.length:=by
 have hs:=Bd R;have hy:=(LO J hs).1;obtain⟨k,hk,e⟩:=G7 hb
 have e':bA (Cb f x y) k=b:=by unfold bA;rw[Ab _ _ _ hk];exact e
 rw[Ok J]at hk;have hu:=eO hy hk;have hun:=YE y k;have hps:=dq J.ne (x:=x) k;refine⟨IV y k,hu,hun,by rw[hps,e'],?_,λo ho=>?_,?_,Yh J hs hu⟩
 ·rw[<- e',<- JI J R hu hun,hps]
 ·rw[<- e',<- hps]at ho
  by_cases ex:IV y k=x
  ·rw[ex,PW J R]at ho;obtain⟨o',ho',rfl⟩:=zzL21.1 ho;rcases zzL12.1 ho' with h|h
   ·exact⟨x,J.hx,o',h,rfl⟩
   ·exact⟨y,hy,o',h,rfl⟩
  ·rw[jV J R hu hun ex]at ho;obtain⟨o',ho',rfl⟩:=zzL21.1 ho;exact⟨_,hu,o',ho',rfl⟩
 ·rw[<- e',<- PV J hs hu hun,hps]
theorem end_val{c:Nat}(hc:c<f.Blocks.length):(((bA f c).End.Kind=0\/(bA f c).End.Kind=2)/\valS (vJ f y (bA f c).End.Arg)=true)\/(((bA f c).End.Kind=1\/(bA f c).End.Kind=3)/\(bA f c).End.Arg=0/\vJ f y (bA f c).End.Arg=0):=by
 have hs:=Bd R
 have hk:(bA f c).End.Kind=0\/(bA f c).End.Kind=1\/(bA f c).End.Kind=2\/(bA f c).End.Kind=3:=by
  have h3:Kb (bA f c).End f.Blocks.length=true:=(shape_iff.1 hs).2 c hc;unfold Kb Yv at h3;simp only[A6,Gr]at h3;have:=h3.1.1;omega
 have hu:∀ b,(⟨(bA f c).End.Arg,(c:Int),1000,(b,1)⟩:Cq)∈Bh f->valS (vJ f y (bA f c).End.Arg)=true:=λb h=>bM J R h
 have h13:(bA f c).End.Kind=1\/(bA f c).End.Kind=3->(bA f c).End.Arg=0/\vJ f y (bA f c).End.Arg=0:=λh=>by
  have h0:=(Wj R hc).2 h;refine⟨h0,?_⟩;rw[h0];unfold vJ VU;rw[List.find?_eq_none.2];intro p hp;have:=Yg R (YJ J R hp).2.2;have:valS p.Dst=true:=this;unfold valS at this;simp only[A6,Gr]at this
  simp;omega
 rcases hk with h|h|h|h
 ·exact .inl ⟨.inl h,hu _ ((H1 (Hi R)).2 ⟨c,hc,.inr (.inr (.inl ⟨h,rfl⟩))⟩)⟩
 ·exact .inr ⟨.inl h,h13 (.inl h)⟩
 ·exact .inl ⟨.inr h,hu _ ((H1 (Hi R)).2 ⟨c,hc,.inr (.inr (.inr ⟨h,rfl⟩))⟩)⟩
 ·exact .inr ⟨.inr h,h13 (.inr h)⟩
theorem dn{c:Nat}(hc:c<f.Blocks.length){p:A8}(hp:p∈(bA f c).Phis){i:Nat}(hi:i<p.Args.length):(⟨p.Args.getD i 0,p.From.getD i 0,1000,(p.Bits,1)⟩:Cq)∈Bh f:=by
 obtain⟨k,hk,e⟩:=G7 hp
 have e':(bA f c).Phis.getD k default=p:=by rw[Ab _ _ _ hk];exact e
 refine(H1 (Hi R)).2 ⟨c,hc,.inl ⟨k,i,hk,by rw[e'];exact hi,by rw[e']⟩⟩
theorem u3(hsz:sizeN f<=512):Qv (Cb f x y)=true:=by
 have hs:=Bd R;have hy:=LO J hs;have hsz':=fq J R;obtain⟨⟨m1,m2⟩,m3,m4,m5,m6,m7⟩:=mayF_iff.1 R.may;refine mayF_iff.2 ⟨by rw[Ok J];have:=J.hx;have:=J.ne;omega,m3,m4,m5,?_,λb hb=>?_⟩
 ·unfold sizeW;rw[U9 (by omega)];omega
 ·obtain⟨c,hc,hcy,_,e1,e2,e3,hsc⟩:=cq J R hb;refine blockB_iff.2 ⟨λp hp=>?_,λo ho=>?_,?_⟩
  ·rw[e1]at hp;obtain⟨q,hq,rfl⟩:=zzL21.1 hp;obtain⟨q1,q2⟩:=Td R hc hq;obtain⟨p1,p2,p3,p4,_⟩:=OJ J hs (v:=vJ f y) hc hcy q1 q2;have hb0:=(blockB_iff.1 (m7 _ (Ag (d:=default) hc))).1 q hq;unfold FL at hb0 ⊢;simp only[A6,and_assoc]at hb0 ⊢;obtain⟨n1,n2,n3,n4⟩:=hb0;refine⟨n1,n2,listBJ.2 ⟨λn hn=>?_,?_⟩,listBJ.2 ⟨λn hn=>?_,?_⟩⟩
   ·rw[p1]at hn;obtain⟨w,rfl,hw,_⟩:=(Qz (j_shapeB J hs) (by rw[Ok J];exact V7 J hs hc)).1 hn;rw[Ok J]at hw;omega
   ·rw[p3];exact(listBJ.1 n3).2
   ·obtain⟨j,hj,e⟩:=G7 hn;obtain⟨i,hi,_,h2⟩:=jp J hs q2 p4 hj;rw[Ab _ _ _ hj,e]at h2;rw[h2];exact IG (bM J R (dn J R hc hq hi))
   ·rw[p2];exact(listBJ.1 n4).2
  ·obtain⟨d,hd,o',ho',rfl⟩:=e2 o ho;have hb0:=(blockB_iff.1 (m7 _ (Ag (d:=default) hd))).2.1 o' ho';unfold ei at hb0 ⊢;simp only[A6,and_assoc]at hb0 ⊢;obtain⟨n1,n2,n3,n4,n5⟩:=hb0;refine⟨n1,n2,n3,n4,listBJ.2 ⟨λn hn=>?_,?_⟩⟩
   ·obtain⟨a,ha,rfl⟩:=zzL21.1 hn;exact IG (bF J R hd ho' a ha)
   ·show(List.map _ _).length<=_;rw[Dz];exact(listBJ.1 n5).2
  ·have hb0:=(blockB_iff.1 (m7 _ (Ag (d:=default) hsc))).2.2;rw[e3];unfold cW at hb0 ⊢;simp only[A6,and_assoc]at hb0 ⊢;obtain⟨n1,n2,n3⟩:=hb0;refine⟨n1,?_,listBJ.2 ⟨λn hn=>?_,?_⟩⟩
   ·rcases end_val J R hsc with⟨_,h⟩|⟨_,_,h⟩
    ·exact numBJ.2 (IG h)
    ·show numB (vJ f y _)=true;rw[h];rfl
   ·obtain⟨z,hz,rfl⟩:=zzL21.1 hn;obtain⟨w,rfl,hw,_⟩:=FR hs hsc hz;rw[Pg];have:=V7 J hs hw;omega
   ·show(List.map _ _).length<=_;rw[Dz];exact(listBJ.1 n3).2
theorem pE:Fe (Cb f x y)=true:=by
 have hs:=Bd R;have hy:=LO J hs;refine MJ (j_shapeB J hs) λk hk=>?_;rw[Ok J]at hk;have hu:=eO hy.1 hk;have hun:=YE y k;have hps:=dq J.ne (x:=x) k;refine⟨?_,?_,λp hp=>?_⟩
 ·have:=(jW J hs (Wj R hu).1).2;rwa[hps]at this
 ·rw[<- hps,PV J hs hu hun];intro h;have hsc:=Yh J hs hu;rcases end_val J R hsc with⟨h1,_⟩|⟨_,_,h2⟩
  ·have h:(bA f (Th x y (IV y k))).End.Kind=1\/(bA f (Th x y (IV y k))).End.Kind=3:=h;omega
  ·exact h2
 ·rw[<- hps,JI J R hu hun]at hp;obtain⟨q,hq,rfl⟩:=zzL21.1 hp;obtain⟨q1,q2⟩:=Td R hu hq;obtain⟨p1,p2,p3,_⟩:=OJ J hs (v:=vJ f y) hu hun q1 q2;rw[hps]at p1;exact⟨p1,by rw[p2,p3,q2]⟩
theorem tF:M3 (Cb f x y) l=true:=by
 have h:=R.typed;simp only[M3,E9,A6,zzL26]at h ⊢;obtain⟨⟨t1,t2⟩,t3⟩:=h;refine⟨⟨t1,λb hb=>?_⟩,t3⟩;obtain⟨c,hc,hcy,_,e1,e2,e3,hsc⟩:=cq J R hb;refine⟨λp hp=>?_,λo ho=>?_⟩
 ·rw[e1]at hp;obtain⟨q,hq,rfl⟩:=zzL21.1 hp;exact(t2 _ (Ag (d:=default) hc)).1 q hq
 ·obtain⟨d,hd,o',ho',rfl⟩:=e2 o ho;exact lq (eC R (Ag (d:=default) hd) ho') (bF J R hd ho')
theorem pC{s:List Bv}(h:∀ o∈s,∃ d,d<f.Blocks.length/\o∈(bA f d).Ops):ZN (s.map (md (vJ f y)))=ZN s:=by
 unfold ZN
 induction s with
 | nil=>rfl
 | cons o s ih=>
  obtain⟨d,hd,ho⟩:=h o (by simp);have hg:=XK (Hi R _ (Ag (d:=default) hd) _ ho) (bF J R hd ho);rw[Cu,List.filter_cons,List.filter_cons,hg];have:=ih λo ho=>h o (by simp[ho])
  split
  ·rw[Cu,Cu,this];rfl
  ·exact this
theorem zC{b:Nat}(hb:b<f.Blocks.length)(hby:b≠y):UL (bA (Cb f x y) (psJ x y b))=if b=x then UL (bA f x)++ZN (bA f y).Ops else UL (bA f b):=by
 have hy:=(LO J (Bd R)).1
 have h1:(bA (Cb f x y) (psJ x y b)).Phis.map (·.Dst)=(bA f b).Phis.map (·.Dst):=by
  rw[JI J R hb hby,List.map_map];rfl
 unfold UL;rw[h1]
 split
 ·rename_i e
  subst e;rw[PW J R,pC J R,EV]
  ·congr 1
   unfold ZN;rw[Wv,Wy]
  ·intro o ho;rcases zzL12.1 ho with h|h
   ·exact⟨_,hb,h⟩
   ·exact⟨_,hy,h⟩
 ·rename_i e
  rw[jV J R hb hby e,pC J R];exact λo ho=>⟨_,hb,ho⟩
theorem PX{b:Nat}(hb:b<f.Blocks.length)(hby:b≠y){v:Int}(hv:v∈UL (bA (Cb f x y) (psJ x y b))):∃ c,c<f.Blocks.length/\(c=b\/(b=x/\c=y))/\v∈UL (bA f c):=by
 rw[zC J R hb hby]at hv
 split at hv
 ·rename_i e
  rcases zzL12.1 hv with h|h
  ·exact⟨b,hb,.inl rfl,by rw[e];exact h⟩
  ·exact⟨y,(LO J (Bd R)).1,.inr ⟨e,rfl⟩,by unfold UL;exact zzL12.2 (.inr h)⟩
 ·exact⟨b,hb,.inl rfl,hv⟩
theorem ft(hsz:sizeN f<=512)(hok:OkF (Cb f x y)):Zy (Cb f x y) l:=by
 have hs:=Bd R;have hy:=LO J hs;have hgt:=tF J R
 have hgm:∀ b∈(Cb f x y).Blocks,∀ o∈b.Ops,Gs o=true:=λb hb o ho=>by
  simp only[M3,E9,A6,zzL26]at hgt;exact Wr ((hgt.1.2 b hb).2 o ho)
 obtain⟨N1,N2,N3⟩:=(nodup_split f).1 (Xf (DR R).1)
 have pos_of:∀ k,k<(Cb f x y).Blocks.length->∃ b,b<f.Blocks.length/\b≠y/\psJ x y b=k:=λk hk=>by
  rw[Ok J]at hk;exact⟨IV y k,eO hy.1 hk,YE y k,dq J.ne k⟩
 have hcap:∀{d:Bz} {b a:Int},d∈Au (Cb f x y)->kw (Cb f x y) d b a->kw (Cb f x y) d b 1000:=λ{d b a} hd h=>by
  rcases h with h|⟨h1,h2⟩|h
  ·exact .inl h
  ·refine .inr (.inl ⟨h1,?_⟩);rcases defs_in hok d hd with h3|⟨_,_,h3⟩
   ·rcases ri_def.1 hd with⟨i,_,e⟩|⟨i,_,⟨k,_,e⟩|⟨k,_,_,e⟩⟩
    ·rw[e];show(0:Int)<1000;omega
    ·rw[e]at h3;have:(i:Int) = -1:=h3;omega
    ·rw[e]at h3;have:(i:Int) = -1:=h3;omega
   ·exact h3
  ·exact .inr (.inr h)
 refine⟨u3 J R hsz,pE J R,hgt,RV ((nodup_split _).2 ⟨λk hk=>?_,λk m hk hm hne v hv hw=>?_,λi hi k hk hv=>?_⟩) (λd hd=>?_) (λu hu=>?_)⟩
 ·obtain⟨b,hb,hby,rfl⟩:=pos_of k hk;rw[zC J R hb hby]
  split
  ·rename_i e
   rw[List.nodup_append];have hn:=N1 y hy.1;unfold UL at hn;rw[List.nodup_append]at hn;refine⟨N1 x J.hx,hn.2.1,λa ha c hc hac=>?_⟩;exact N2 x y J.hx hy.1 (λh=>J.ne h.symm) a ha (by unfold UL;exact zzL12.2 (.inr (hac▸hc)))
  ·exact N1 b hb
 ·obtain⟨b,hb,hby,rfl⟩:=pos_of k hk;obtain⟨c,hc,hcy,rfl⟩:=pos_of m hm;have hbc:b≠c:=λe=>hne (by rw[e]);obtain⟨b',hb',eb,hvb⟩:=PX J R hb hby hv;obtain⟨c',hc',ec,hvc⟩:=PX J R hc hcy hw;refine N2 b' c' hb' hc' ?_ v hvb hvc;rcases eb with e1|e1<;>rcases ec with e2|e2<;>omega
 ·obtain⟨b,hb,hby,rfl⟩:=pos_of k hk;obtain⟨b',hb',_,hvb⟩:=PX J R hb hby hv;exact N3 i hi b' hb' hvb
 ·rcases ri_def.1 hd with⟨i,hi,e⟩|⟨k,hk,⟨j,hj,e⟩|⟨j,hj,hg,e⟩⟩
  ·rw[e];exact Yg R (d:=⟨(i:Int)+1,-1,0,(f.Params.getD i 0,1)⟩) (ri_def.2 (.inl ⟨i,hi,rfl⟩))
  ·obtain⟨b,hb,hby,rfl⟩:=pos_of k hk;rw[e]
   have h1:=JI J R hb hby
   rw[h1,Dz]at hj
   show valS ((bA (Cb f x y) (psJ x y b)).Phis.getD j default).Dst=true
   rw[h1,Ab _ _ _ (by rw[Dz];exact hj),List.getElem_map];have:=Yg R (d:=⟨((bA f b).Phis.getD j default).Dst,b,-1,(((bA f b).Phis.getD j default).Bits,1)⟩) (ri_def.2 (.inr ⟨b,hb,.inl ⟨j,hj,rfl⟩⟩));rw[Ab _ _ _ hj]at this;exact this
  ·rw[e];exact WS (hgm _ (Ag (d:=default) hk) _ (Ag (d:=default) hj)) hg
 ·obtain⟨k,hk,hcase⟩:=(H1 hgm).1 hu;obtain⟨b,hb,hby,rfl⟩:=pos_of k hk;have hsc:=Yh J hs hb
  have hpsrc:psJ x y (Th x y b)=psJ x y b:=by
   unfold Th;split
   ·rename_i e;rw[e];exact po J R
   ·rfl
  rcases hcase with⟨k,j,hk',hj,e⟩|⟨k,j,hk',hj,e⟩|⟨hK,e⟩|⟨hK,e⟩
  ·have h1:=JI J R hb hby
   rw[h1,Dz]at hk';have hq:=Ag (d:=(default:A8)) hk';obtain⟨q1,q2⟩:=Td R hb hq;obtain⟨p1,p2,p3,p4,_⟩:=OJ J hs (v:=vJ f y) hb hby q1 q2
   have eq:(bA (Cb f x y) (psJ x y b)).Phis.getD k default=NO (vJ f y) x y ((bA f b).Phis.getD k default):=by
    rw[h1,Ab _ _ _ (by rw[Dz];exact hk'),List.getElem_map,Ab _ _ _ hk']
   rw[eq]at e hj;obtain⟨i,hi,e1,e2⟩:=jp J hs q2 p4 hj;rw[e1,e2]at e;have hu':=dn J R hb hq hi;obtain⟨c,ec,hc,_⟩:=(Qz hs hb).1 (show((bA f b).Phis.getD k default).From.getD i 0∈prF f b by rw[<- q1];exact Ag (by omega));rw[ec]at hu' e;obtain⟨d',m1,m2,m3,m4⟩:=mN J R hu' hc rfl (show(0:Int)<=1000 by omega);rw[Pg]at e;rw[e];exact⟨d',m1,m2,m3,hcap m1 m4⟩
  ·by_cases ex:b=x
   ·subst ex;have ho:=PW J R;rw[ho,Dz,Fh]at hk'
    by_cases hkx:k<(bA f b).Ops.length
    ·have h2:=(tD J R hb hkx).2
     have hof:offJ f b y b=0:=by unfold offJ;rw[if_neg hby]
     rw[hof,Na]at h2;rw[h2]at e hj
     have hj':j<((bA f b).Ops.getD k default).Args.length:=by have:j<(List.map _ _).length:=hj;rwa[Dz]at this
     have hu':=(H1 (Hi R) (f:=f)).2 ⟨b,hb,.inr (.inl ⟨k,j,hkx,hj',rfl⟩)⟩;obtain⟨d',m1,m2,m3,m4⟩:=mN J R hu' hb rfl (show(0:Int)<=(k:Int) by omega);rw[hof]at m4;refine⟨d',m1,?_,?_,?_⟩
     ·rw[m2,e];exact(HP hj').symm
     ·rw[m3,e];rfl
     ·rw[e];simpa using m4
    ·have hky:k-(bA f b).Ops.length<(bA f y).Ops.length:=by omega
     have h2:=(tD J R hy.1 hky).2
     have hof:offJ f b y y=(bA f b).Ops.length:=by unfold offJ;rw[if_pos rfl]
     rw[hof,po J R,show k-(bA f b).Ops.length+(bA f b).Ops.length=k by omega]at h2;rw[h2]at e hj
     have hj':j<((bA f y).Ops.getD (k-(bA f b).Ops.length) default).Args.length:=by have:j<(List.map _ _).length:=hj;rwa[Dz]at this
     have hu':=(H1 (Hi R) (f:=f)).2 ⟨y,hy.1,.inr (.inl ⟨k-(bA f b).Ops.length,j,hky,hj',rfl⟩)⟩;obtain⟨d',m1,m2,m3,m4⟩:=mN J R hu' hy.1 rfl (show(0:Int)<=((k-(bA f b).Ops.length:Nat):Int) by omega);rw[hof,po J R]at m4;refine⟨d',m1,?_,?_,?_⟩
     ·rw[m2,e];exact(HP hj').symm
     ·rw[m3,e];rfl
     ·rw[e]
      have e4:(((k-(bA f b).Ops.length:Nat):Int)+((bA f b).Ops.length:Int))=(k:Int):=by omega
      have m4':kw (Cb f b y) d' (psJ b y b:Int) (((k-(bA f b).Ops.length:Nat):Int)+((bA f b).Ops.length:Int)):=m4;rw[e4]at m4';exact m4'
   ·have ho:=jV J R hb hby ex;rw[ho,Dz]at hk';have h2:=(tD J R hb hk').2
    have hof:offJ f x y b=0:=by unfold offJ;rw[if_neg hby]
    rw[hof,Na]at h2;rw[h2]at e hj
    have hj':j<((bA f b).Ops.getD k default).Args.length:=by have:j<(List.map _ _).length:=hj;rwa[Dz]at this
    have hu':=(H1 (Hi R) (f:=f)).2 ⟨b,hb,.inr (.inl ⟨k,j,hk',hj',rfl⟩)⟩;obtain⟨d',m1,m2,m3,m4⟩:=mN J R hu' hb rfl (show(0:Int)<=(k:Int) by omega);rw[hof]at m4;refine⟨d',m1,?_,?_,?_⟩
    ·rw[m2,e];exact(HP hj').symm
    ·rw[m3,e];rfl
    ·rw[e];simpa using m4
  ·rw[PV J hs hb hby]at hK e;have hu':=(H1 (Hi R) (f:=f)).2 ⟨_,hsc,.inr (.inr (.inl ⟨hK,rfl⟩))⟩;obtain⟨d',m1,m2,m3,m4⟩:=mN J R hu' hsc rfl (show(0:Int)<=1000 by omega);rw[hpsrc]at m4;rw[e];exact⟨d',m1,m2,m3,hcap m1 m4⟩
  ·rw[PV J hs hb hby]at hK e;have hu':=(H1 (Hi R) (f:=f)).2 ⟨_,hsc,.inr (.inr (.inr ⟨hK,rfl⟩))⟩;obtain⟨d',m1,m2,m3,m4⟩:=mN J R hu' hsc rfl (show(0:Int)<=1000 by omega);rw[hpsrc]at m4;rw[e];exact⟨d',m1,m2,m3,hcap m1 m4⟩
end
theorem Aar{f:TFunc}{x y:Nat}{l:Int}(J:Jn f x y)(R:Zy f l)(hN:Nw f):Nw (Cb f x y):=by
 have hs:=Bd R;have hmx:maxLen=9223372036854775807:=Oe;have hsz:=fq J R;have hszf:=hN.size
 have hblk:∀ b∈(Cb f x y).Blocks,Ez b<=512:=λb hb=>by
  obtain⟨k,hk,e⟩:=G7 hb;have:=Wp (F:=λb=>Ez (bA (Cb f x y) b)) hk;rw[<- My]at this
  have e':bA (Cb f x y) k=b:=by unfold bA;rw[Ab _ _ _ hk];exact e
  simp only[e']at this;omega
 have hto:∀ b∈(Cb f x y).Blocks,b.End.To.length<=2:=λb hb=>by
  obtain⟨c,hc,hcy,_,e1,e2,e3,hsc⟩:=cq J R hb;rw[e3]
  show(List.map _ _).length<=2
  rw[Dz];exact hN.to _ (Ag (d:=default) hsc)
 have hphi:∀ b∈(Cb f x y).Blocks,∀ p∈b.Phis,p.From.length<=16/\p.Args.length<=16:=λb hb p hp=>by
  obtain⟨c,hc,hcy,_,e1,e2,e3,hsc⟩:=cq J R hb;rw[e1]at hp;obtain⟨q,hq,rfl⟩:=zzL21.1 hp;obtain⟨q1,q2⟩:=Td R hc hq;obtain⟨_,p2,p3,_⟩:=OJ J hs (v:=vJ f y) hc hcy q1 q2;rw[p2,p3];exact hN.phi _ (Ag (d:=default) hc) q hq
 have hop:∀ b∈(Cb f x y).Blocks,∀ o∈b.Ops,o.Args.length<=16/\0<=o.Imm/\o.Imm<18446744073709551616:=λb hb o ho=>by
  obtain⟨c,hc,hcy,_,e1,e2,e3,hsc⟩:=cq J R hb;obtain⟨d,hd,o',ho',rfl⟩:=e2 o ho;have h1:=hN.op _ (Ag (d:=default) hd) o' ho';have h2:=hN.inf.op _ (Ag (d:=default) hd) o' ho';refine⟨?_,h2.2⟩
  show(List.map _ _).length<=_
  rw[Dz];exact h1
 refine⟨⟨hN.inf.params,?_,λb hb=>?_,λb hb p hp=>?_,λb hb o ho=>?_⟩,hN.params,hto,hphi,λb hb o ho=>(hop b hb o ho).1,by omega⟩
 ·rw[Ok J];have:=hN.inf.blocks;omega
 ·have:=hblk b hb;have h2:=hto b hb;unfold Ez at this;omega
 ·have:=hphi b hb p hp;omega
 ·have:=hop b hb o ho;exact⟨by omega,this.2⟩
theorem cr{f:TFunc}{x y:Nat}{l:Int}(J:Jn f x y)(R:Zy f l)(hN:Nw f):Zy (Cb f x y) l/\Nw (Cb f x y):=
 have hn:=Aar J R hN
 ⟨ft J R hN.size (jy (dT hn) (u3 J R hN.size)),hn⟩
theorem pN{α σ S X:Type}(l:List α)(d:α)(mk:Nat->σ->S)(P:Nat->σ->Prop)(g:σ->α->σ)(out:σ->X)(f:S->Option (LR S X))
  (hn:∀ i s,i<l.length->P i s->f (mk i s)=some (.next (mk (i+1) (g s (l.getD i d))))/\P (i+1) (g s (l.getD i d)))
  (hd:∀ s,P l.length s->f (mk l.length s)=some (.done (out s))):∀(k i:Nat) (s:σ),i+k=l.length->P i s->Ac f (mk i s)=some (out ((l.drop i).foldl g s))/\P l.length ((l.drop i).foldl g s)
 | 0,i,s,h,hP=>by
  obtain rfl:i=l.length:=by omega
  rw[Ak (hd s hP)]
  simpa using hP
 | k+1,i,s,h,hP=>by
  have hi:i<l.length:=by omega
  obtain⟨h1,h2⟩:=hn i s hi hP;obtain⟨h3,h4⟩:=pN l d mk P g out f hn hd k (i+1) _ (by omega) h2
  have hdr:l.drop i=l.getD i d::l.drop (i+1):=by simp_all
  rw[Ap h1,h3,hdr];exact⟨rfl,h4⟩
theorem DL{α σ S X:Type}(l:List α)(d:α)(mk:Nat->σ->S)(P:Nat->σ->Prop)(g:σ->α->σ)(out:σ->X)(f:S->Option (LR S X))
  (hn:∀ i s,i<l.length->P i s->f (mk i s)=some (.next (mk (i+1) (g s (l.getD i d))))/\P (i+1) (g s (l.getD i d)))
  (hd:∀ s,P l.length s->f (mk l.length s)=some (.done (out s))) (s:σ) (hP:P 0 s):Ac f (mk 0 s)=some (out (l.foldl g s))/\P l.length (l.foldl g s):=
 pN l d mk P g out f hn hd l.length 0 s (by omega) hP
theorem WQ{α β:Type}(F:α->β):∀(l:List α) (k:Nat) (s:List β),s.length=k+l.length->(l.foldl (λ(t:Nat×List β) b=>(t.1+1,t.2.set t.1 (F b))) (k,s)).2=s.take k++l.map F
 | [],k,s,h=>by simp at h;simp[<- h]
 | b::l,k,s,h=>by
  simp only[EX]at h;rw[IL,WQ F l (k+1) (s.set k (F b)) (by simp;omega),Cu]
  have e:(s.set k (F b)).take (k+1)=s.take k++[F b]:=by
   rw[List.take_add_one,List.take_set_of_le (by omega)];simp[List.getElem?_set,show k<s.length by omega]
  rw[e,EV];rfl
theorem ZZ{α β X:Type}(l:List α)(d:α)(F:α->β)(out:List β->X)(f:Int×List β->Option (LR (Int×List β) X))(hn:∀(i:Nat) (s:List β),i<l.length->s.length=l.length->f ((i:Int),s)=some (.next (((i+1:Nat):Int),s.set i (F (l.getD i d)))))
  (hd:∀ s,f ((l.length:Int),s)=some (.done (out s))) (s:List β) (hs:s.length=l.length):Ac f ((0:Int),s)=some (out (l.map F)):=by
 have key:=DL l d (λi (t:Nat×List β)=>((i:Int),t.2)) (λi t=>t.1=i/\t.2.length=l.length) (λt b=>(t.1+1,t.2.set t.1 (F b))) (λt=>out t.2) f
  (λi t hi hP=>by obtain⟨h1,h2⟩:=hP;subst h1;exact⟨hn _ _ hi h2,rfl,by simpa using h2⟩) (λt _=>hd t.2) (0,s) ⟨rfl,hs⟩
 have:=key.1;rw[WQ F l 0 s (by omega)]at this
 simpa using this
theorem pM{α β X:Type}(l:List α)(d:α)(q:α->Option β)(out:β->X)(no:X)(f:Int->Option (LR Int X))(hn:∀ i,i<l.length->q (l.getD i d)=none->f (i:Int)=some (.next (((i+1:Nat):Int))))
  (hf:∀ i,i<l.length->∀ b,q (l.getD i d)=some b->f (i:Int)=some (.done (out b))) (he:f (l.length:Int)=some (.done no)):Ac f (0:Int)=some (match l.findSome? q with|some b=>out b|none=>no):=by
 have key:∀ k i:Nat,i+k=l.length->Ac f (i:Int)=some (match(l.drop i).findSome? q with|some b=>out b|none=>no):=by
  intro k
  induction k with
  | zero=>
   intro i h
   obtain rfl:i=l.length:=by omega
   rw[Ak he];simp
  | succ k ih=>
   intro i h
   have hi:i<l.length:=by omega
   have hdr:l.drop i=l.getD i d::l.drop (i+1):=by simp_all
   rw[hdr,List.findSome?_cons]
   cases hq:q (l.getD i d) with
   | some b=>rw[Ak (hf i hi b hq)]
   | none=>rw[Ap (hn i hi hq),ih (i+1) (by omega)]
 have:=key l.length 0 (by omega)
 simpa using this
theorem o8{a b:Nat}(h:a+b<4000000):w64 (Wo .u64 (It (w64 ((a:Int)+(b:Int)))) (1:Int))=(((a+b) / 2:Nat):Int):=by
 have e:((a:Int)+(b:Int))=((a+b:Nat):Int):=by omega
 rw[e,Hg (n:=((a+b:Nat):Int)) (by omega) (by omega),IH (by omega) (by omega)];unfold Wo;rw[show(1:Int).toNat=1 from rfl,show min 1 IntKind.u64.bits=1 from rfl,show(2:Int) ^ 1=2 from rfl,Int.fdiv_eq_ediv_of_nonneg _ (by omega),Hg (by omega) (by omega)];omega
theorem la{l:List Int}(hs:l.Pairwise (·<·))(hl:l.length<=1000)(x:Int):∃(i:Nat) (b:Bool),Ff l x=some ((i:Int),b)/\i<=l.length/\(∀ k,k<i->l.getD k 0<x)/\∀ k,i<=k->k<l.length->x<=l.getD k 0:=by
 have hmono:∀ i j,i<j->j<l.length->l.getD i 0<l.getD j 0:=λi j hij hj=>by
  rw[Ab _ _ _ hj,Ab _ _ _ (by omega)];exact zzL91.1 hs i j (by omega) hj hij
 have key:∀ d (a b:Nat),b-a<=d->a<=b->b<=l.length->(∀ k,k<a->l.getD k 0<x)->(∀ k,b<=k->k<l.length->x<=l.getD k 0)->
   ∃ i:Nat,Ac (B6 l x) ((a:Int),(b:Int))=some (i:Int)/\i<=l.length/\(∀ k,k<i->l.getD k 0<x)/\∀ k,i<=k->k<l.length->x<=l.getD k 0:=by
  intro d
  induction d with
  | zero=>
   intro a b h1 h2 h3 h4 h5
   obtain rfl:a=b:=by omega
   refine⟨a,Ak ?_,h3,h4,h5⟩;unfold B6;simp only[Da,Ax]
  | succ d ih=>
   intro a b h1 h2 h3 h4 h5
   by_cases hab:a<b
   ·have hm:(a+b) / 2<l.length:=by omega
    have e:B6 l x ((a:Int),(b:Int))=some (.next (bif decide (l.getD ((a+b) / 2) 0<x) then((((a+b) / 2+1:Nat):Int),(b:Int)) else((a:Int),(((a+b) / 2:Nat):Int)))):=by
     unfold B6 Tv Pc;simp only[B1 hab,Ah,o8 (show a+b<4000000 by omega),Aa (Ai hm),Am,An,bne_self_eq_false,w1 (show(a+b) / 2<4611686018427387904 by omega)]
     cases decide (l.getD ((a+b) / 2) 0<x)<;>rfl
    rw[Ap e]
    by_cases hx:l.getD ((a+b) / 2) 0<x
    ·rw[Co hx,Ah];refine ih _ _ (by omega) (by omega) h3 (λk hk=>?_) h5;rcases zzL126 k ((a+b) / 2) with h6|h6
     ·exact Int.lt_trans (hmono k _ h6 hm) hx
     ·obtain rfl:k=(a+b) / 2:=by omega
      exact hx
    ·rw[Ce hx,Ax];refine ih _ _ (by omega) (by omega) (by omega) h4 (λk hk hkl=>?_);rcases zzL126 ((a+b) / 2) k with h6|h6
     ·have:=hmono _ k h6 hkl;omega
     ·obtain rfl:k=(a+b) / 2:=by omega
      omega
   ·exact ih a b (by omega) h2 h3 h4 h5
 obtain⟨i,h1,h2,h3,h4⟩:=key l.length 0 l.length (by omega) (by omega) (zzL6 _) (λk hk=>by omega) (λk hk hk2=>by omega);have h1':Ac (B6 l x) ((0:Int),(l.length:Int))=some (i:Int):=h1;unfold Ff Md;rw[h1',An]
 have hin:(decide ((i:Int)<(l.length:Int)))=true->A2 (i:Int) l.length:=λh=>by have:=KM h;exact⟨by omega,this⟩
 rw[Aa (λh=>hin (by simpa using h)),Aa (λh=>hin (by simp at h;simpa using h.1))];simp only[bne_self_eq_false];refine⟨i,(bif decide ((i:Int)<(l.length:Int)) then(bif (l.getD (i:Int).toNat 0==x) then true else(bif false then false else false)) else false),?_,h2,h3,h4⟩
 have e:∀ b:Bool,(bif b then some false else some false)=some false:=λb=>by cases b<;>rfl
 rw[e,An];simp only[Bool.and_false,show((false:Bool)==true)=false from rfl,Ax,An]
theorem dP{V:Type}(k v:Int)(x:V):∀ l:List (Int×V),Ec (Jl l k x) v=(v==k || Ec l v)
 | []=>by simp[Jl,Ec]
 | (a,b)::r=>by
  unfold Jl
  cases h:(k==a) with
  | true=>
   have:k=a:=eq_of_beq h;subst this;simp[Ec]
  | false=>
   simp only[Ax,Ec,dP k v x r]
   cases v==a<;>cases v==k<;>rfl
theorem dO{V:Type}(d:V)(k v:Int)(x:V):∀ l:List (Int×V),Fy d (Jl l k x) v=bif v==k then x else Fy d l v
 | []=>by simp[Jl,Fy]
 | (a,b)::r=>by
  unfold Jl
  cases h:(k==a) with
  | true=>
   have:k=a:=eq_of_beq h;subst this;simp only[Ah,Fy]
   cases v==k<;>rfl
  | false=>
   simp only[Ax,Fy,dO d k v x r]
   cases h1:(v==a) with
   | true=>
    have:v=a:=eq_of_beq h1;subst this
    have:(v==k)=false:=by
     cases h2:(v==k) with
     | false=>rfl
     | true=>have:=eq_of_beq h2;subst this;simp at h
    rw[this];rfl
   | false=>rfl
def Lz(l:List (Int×Int))(v:Int):Int:=bif Ec l v then Fy 0 l v else v
theorem NW(v x y:Int)(l:List (Int×Int)):G6 v x y l=some (Lz l v):=by
 unfold G6 Lz
 cases Ec l v<;>rfl
theorem jD{x y a:Nat}(hx:x<1000000)(h:a<1000000)(l:List (Int×Int)):Ky (a:Int) (x:Int) (y:Int) l=some ((psJ x y a:Nat):Int):=by
 unfold Ky psJ
 have key:∀ z:Nat,((Option.bind (α:=Int) (bif decide (((y:Nat):Int)<(z:Int)) then some (w64 ((z:Int)-1)) else some (z:Int)) λx5=>some x5):Option Int)=some (((if y<z then z-1 else z:Nat)):Int)\/¬ z<4000000:=λz=>by
  by_cases hz:z<4000000
  ·left
   by_cases hy:y<z
   ·rw[Co (by omega),Ah,if_pos hy,Hg (by omega) (by omega)]
    show some _=some _
    congr 1;omega
   ·rw[Ce (by omega),Ax,if_neg hy];rfl
  ·exact .inr hz
 by_cases e:a=y
 ·subst e;rw[show((a:Int)==(a:Int))=true by simp,Ah,An,if_pos rfl];rcases key x with h|h
  ·exact h
  ·omega
 ·rw[show((a:Int)==(y:Int))=false by rw[zzL30];omega,Ax,An,if_neg e];rcases key a with h|h
  ·exact h
  ·omega
theorem qU(l:List (Int×Int))(k v x:Int):Lz (Jl l k x) v=bif v==k then x else Lz l v:=by
 unfold Lz;rw[dP,dO]
 cases v==k<;>rfl
theorem mO{ps:List A8}{p:A8}(h:∀ q∈ps,q.Dst≠p.Dst)(v:Int):VU (ps++[p]) v=bif v==p.Dst then p.Args.getD 0 0 else VU ps v:=by
 unfold VU;rw[List.find?_append]
 by_cases e:v=p.Dst
 ·subst e;rw[List.find?_eq_none.2 (λq hq=>by simpa using h q hq)]
  simp
 ·rw[show(v==p.Dst)=false by rw[zzL30];exact e,Ax]
  have:(p.Dst==v)=false:=by rw[zzL30];exact λh=>e h.symm
  cases ps.find? (λp=>p.Dst==v) with
  | some q=>rfl
  | none=>simp[this]
section
variable {f:TFunc} {x y:Nat} {l:Int} (J:Jn f x y) (R:Zy f l)
include J R
theorem js{b:Nat}(hb:b<f.Blocks.length):((bA f b).Phis.map (·.Dst)).Nodup:=by
 have:=((nodup_split f).1 (Xf (DR R).1)).1 b hb;unfold UL at this;exact(List.nodup_append.1 this).1
theorem pn{p:A8}(hp:p∈(bA f y).Phis):(bA f y).Phis.find? (λq=>q.Dst==p.Dst)=some p:=by
 have hy:=(LO J (Bd R)).1;have hn:=js J R hy
 cases hq:(bA f y).Phis.find? (λq=>q.Dst==p.Dst) with
 | none=>have:=List.find?_eq_none.1 hq p hp;simp at this
 | some q=>
  have hm:=List.mem_of_find?_eq_some hq
  have he:q.Dst=p.Dst:=by simpa using List.find?_some hq
  obtain⟨i,hi,rfl⟩:=G7 hm;obtain⟨j,hj,rfl⟩:=G7 hp;have:=(List.getElem_inj (h₀:=show i<((bA f y).Phis.map (·.Dst)).length by simpa using hi) (h₁:=show j<((bA f y).Phis.map (·.Dst)).length by simpa using hj) hn).1 (by simpa using he);subst this;rfl
theorem sV{p:A8}(hp:p∈(bA f y).Phis):∀ q∈(bA f y).Phis,q.Dst≠p.Args.getD 0 0:=λq hq e=>by
 have hy:=LO J (Bd R);obtain⟨_,_,hd⟩:=YJ J R hp;obtain⟨_,_,hdq⟩:=YJ J R hq;obtain⟨d,hd',hv,_,_,hn⟩:=qT J R hd hy.1 (a:=0) (Int.le_refl _) (.inr (.inl ⟨rfl,by show(-1:Int)<0;omega⟩))
 have hv2:d.V=p.Args.getD 0 0:=by
  rw[hv];unfold vJ VU;rw[pn J R hp]
 have:=qB R hd' hdq (by rw[hv2,<- e]);rw[this]at hn;exact hn ⟨rfl,rfl⟩
def HO(ps:List A8):List (Int×Int):=ps.foldl (λl p=>Jl l p.Dst (p.Args.getD 0 0)) []
theorem dJ(i:Nat)(hi:i<=(bA f y).Phis.length)(v:Int):Lz (HO ((bA f y).Phis.take i)) v=VU ((bA f y).Phis.take i) v:=by
 have hy:=(LO J (Bd R)).1;have hn:=js J R hy
 induction i with
 | zero=>rfl
 | succ i ih=>
  have hi':i<(bA f y).Phis.length:=by omega
  have e:(bA f y).Phis.take (i+1)=(bA f y).Phis.take i++[(bA f y).Phis[i]]:=by rw[List.take_add_one,Pz hi'];rfl
  rw[e,mO]
  ·unfold HO;rw[List.foldl_append]
   show Lz (Jl (HO ((bA f y).Phis.take i)) _ _) v=_
   rw[qU,ih (by omega)]
  ·intro q hq he;obtain⟨k,hk,rfl⟩:=G7 hq;rw[Ww]at hk;rw[List.getElem_take]at he;have:=(List.getElem_inj (h₀:=show k<((bA f y).Phis.map (·.Dst)).length by rw[Dz];omega) (h₁:=show i<((bA f y).Phis.map (·.Dst)).length by simpa using hi') hn).1 (by simpa using he);omega
theorem oL(hs:(bA f y).Phis.length<4611686018427387904):Ac (G4 f (x:Int) (y:Int)) ((0:Int),([]:List (Int×Int)))=some (HO (bA f y).Phis):=by
 have hy:=(LO J (Bd R)).1;refine Em (G4 f (x:Int) (y:Int)) (λi=>((i:Int),HO ((bA f y).Phis.take i))) (HO (bA f y).Phis) (bA f y).Phis.length (λi hi=>?_) ?_
 ·have hp:=Ag (d:=(default:A8)) hi;have ha:=(YJ J R hp).1;have hi2:((f.Blocks.getD y default).Phis).getD i default=(bA f y).Phis[i]:=Ab _ _ _ hi
  have e:(bA f y).Phis.take (i+1)=(bA f y).Phis.take i++[(bA f y).Phis.getD i default]:=by rw[List.take_add_one,Pz hi,Ab _ _ _ hi];rfl
  have hv:Lz (HO ((bA f y).Phis.take i)) (((bA f y).Phis.getD i default).Args.getD 0 0)=((bA f y).Phis.getD i default).Args.getD 0 0:=by
   rw[dJ J R i (by omega)];unfold VU;rw[List.find?_eq_none.2];intro q hq;have:=sV J R hp q (List.mem_of_mem_take hq)
   simpa using this
  have hA:A2 (0:Int) (((f.Blocks.getD y default).Phis).getD i default).Args.length:=by
   rw[show(((f.Blocks.getD y default).Phis).getD i default).Args.length=1 from ha];exact⟨by omega,by omega⟩
  unfold G4;simp only[Am];rw[B1 hi,Ah,Aa (Ai hi),Aa hA,NW,An,w1 (show i<4611686018427387904 by omega)];rw[show Lz (HO ((bA f y).Phis.take i)) ((((f.Blocks.getD y default).Phis).getD i default).Args.getD (0:Int).toNat 0)=_ from hv];rw[e];unfold HO;rw[List.foldl_append];rfl
 ·unfold G4;simp only[Am];rw[Da,Ax,Wx]
end
theorem wR{L:List Int}{x y:Int}{m:List (Int×Int)}(hl:L.length<=1000000):Uw L x y m=some (L.map (Lz m)):=by
 have hroom:(1000001:Nat)<=room:=by decide
 unfold Uw
 rw[Aa (by omega),ZZ L (0:Int) (Lz m) id (Qt L x y m) (λi s hi hs=>by
  unfold Qt;simp only[B1 hi,Ah,Aa (Ai hi),Am,NW,An,w1 (show i<4611686018427387904 by omega)]
  rw[Aa (by rw[hs];exact Ai hi)]) (λs=>by unfold Qt;simp only[Da,Ax];rfl) _ (by simp)]
 rfl
theorem sf{L:List Int}{x y:Nat}{m:List (Int×Int)}(hx:x<1000000)(hl:L.length<=1000000)(h:∀ z∈L,0<=z/\z<1000000):Qu L (x:Int) (y:Int) m=some (L.map (lw x y)):=by
 have hroom:(1000001:Nat)<=room:=by decide
 unfold Qu
 rw[Aa (by omega),ZZ L (0:Int) (lw x y) id (M6 L (x:Int) (y:Int) m) (λi s hi hs=>by
  obtain⟨h0,h1⟩:=h _ (Ag (d:=(0:Int)) hi);obtain⟨a,ha⟩:∃ a:Nat,L.getD i 0=(a:Int):=⟨(L.getD i 0).toNat,by omega⟩;unfold M6;simp only[B1 hi,Ah,Aa (Ai hi),Am,w1 (show i<4611686018427387904 by omega)]
  rw[ha,jD hx (by omega),An,Aa (by rw[hs];exact Ai hi),Pg]) (λs=>by unfold M6;simp only[Da,Ax];rfl) _ (by simp)]
 rfl
theorem WU{e:Int×Int}:∀{n:Nat} {l:List (Int×Int)},n<=l.length->(∀ k,k<n->(l.map (·.1)).getD k 0<e.1)->(∀ k,n<=k->k<l.length->e.1<=(l.map (·.1)).getD k 0)->NG l e=l.take n++e::l.drop n
 | 0,[],_,_,_=>rfl
 | 0,p::l,_,_,h2=>by
  rw[DG];have:=h2 0 (zzL6 _) (by simp);simp at this;rw[if_neg (by omega)];rfl
 | n+1,[],h,_,_=>by simp at h
 | n+1,p::l,h,h1,h2=>by
  rw[DG];have h0:=h1 0 (by omega);simp at h0;rw[if_pos h0,WU (n:=n) (by simpa using h) (λk hk=>by have:=h1 (k+1) (by omega);simpa using this) (λk hk hl=>by have:=h2 (k+1) (by omega) (by simpa using hl);simpa using this)]
  rfl
theorem yr{p:A8}{x y:Nat}{m:List (Int×Int)}(hx:x<1000000)(hl:p.From.length<=500)(h2:p.Args.length=p.From.length)(h:∀ z∈p.From,0<=z/\z<1000000)(hn:((Ov (Lz m) x y p).map (·.1)).Nodup) :
  Pf p (x:Int) (y:Int) m=some (NO (Lz m) x y p):=by
 have hroom:(1000001:Nat)<=room:=by decide
 have hzl:=kC (v:=Lz m) (x:=x) (y:=y) h2;have key:=Em (Jj p (x:Int) (y:Int) m) (λi=>((i:Int),(Zw ((Ov (Lz m) x y p).take i)).map (·.1),(Zw ((Ov (Lz m) x y p).take i)).map (·.2))) ((Zw (Ov (Lz m) x y p)).map (·.1),(Zw (Ov (Lz m) x y p)).map (·.2)) p.From.length (λi hi=>?_) ?_
 ·unfold Pf;have key':Ac (Jj p (x:Int) (y:Int) m) ((0:Int),([]:List Int),([]:List Int))=_:=key;rw[key',An];rfl
 ·have hi':i<(Ov (Lz m) x y p).length:=by omega
  have hia:i<p.Args.length:=by omega
  obtain⟨h0,h1⟩:=h _ (Ag (d:=(0:Int)) hi);obtain⟨a,ha⟩:∃ a:Nat,p.From.getD i 0=(a:Int):=⟨(p.From.getD i 0).toNat,by omega⟩
  have ez:(Ov (Lz m) x y p)[i]=(((psJ x y a:Nat):Int),Lz m (p.Args.getD i 0)):=by
   have h':i<(List.zip (p.From.map (lw x y)) (p.Args.map (Lz m))).length:=hi'
   show(List.zip (p.From.map (lw x y)) (p.Args.map (Lz m)))[i]'h'=_
   rw[List.getElem_zip,List.getElem_map,List.getElem_map,<- Ab _ _ (0:Int) hi,<- Ab _ _ (0:Int) hia,ha,Pg]
  have et:(Ov (Lz m) x y p).take (i+1)=(Ov (Lz m) x y p).take i++[(Ov (Lz m) x y p)[i]]:=by rw[List.take_add_one,Pz hi'];rfl
  have es:Zw ((Ov (Lz m) x y p).take (i+1))=NG (Zw ((Ov (Lz m) x y p).take i)) (((psJ x y a:Nat):Int),Lz m (p.Args.getD i 0)):=by
   rw[et,ez];unfold Zw;rw[List.foldl_append];rfl
  have hnt:(((Ov (Lz m) x y p).take i).map (·.1)).Nodup:=by
   rw[List.map_take];exact hn.sublist (List.take_sublist ..)
  obtain⟨k1,k2⟩:=j0 hnt
  generalize hA:Zw ((Ov (Lz m) x y p).take i)=A at *
  have hAl:A.length=i:=by rw[k1.length_eq,Ww];omega
  have hsrt:(A.map (·.1)).Pairwise (·<·):=by rw[List.pairwise_map];exact k2
  obtain⟨n,b,s1,s2,s3,s4⟩:=la hsrt (by rw[Dz];omega) ((psJ x y a:Nat):Int);rw[Dz]at s2;have hins:=WU (e:=(((psJ x y a:Nat):Int),Lz m (p.Args.getD i 0))) s2 s3 (λk hk hkl=>s4 k hk (by rw[Dz];exact hkl))
  have hI:∀(M:List Int) (z:Int),M.length=A.length->CC M (n:Int) [z]=some (M.take n++[z]++M.drop n,M.take n++[z]++M.drop n,[z]):=λM z hM=>by
   unfold CC;rw[Aa ⟨by omega,by omega,by simp,by simp;omega⟩,Am]
  unfold Jj;simp only[B1 hi,Ah,Aa (Ai hi),Am,ha,jD hx (show a<1000000 by omega),An,s1];rw[hI _ _ (by rw[Dz]),An]
  dsimp only
  rw[Aa (show 1=[((psJ x y a:Nat):Int)].length from rfl),Aa (Ai hia),NW,An,hI _ _ (by rw[Dz]),An]
  dsimp only
  rw[Aa (show 1=[Lz m (p.Args.getD i 0)].length from rfl),w1 (show i<4611686018427387904 by omega),es,hins];simp[List.map_take,List.map_drop]
 ·unfold Jj;simp only[Da,Ax];rw[show(Ov (Lz m) x y p).take p.From.length=Ov (Lz m) x y p by rw[<- hzl,Wx]]
structure z7(v:Int->Int)(x y:Nat)(b:Ae):Prop where
 phis:b.Phis.length<=100000
 ops:b.Ops.length<=1000000
 to:b.End.To.length<=1000000/\∀ z∈b.End.To,0<=z/\z<1000000
 phi:∀ p∈b.Phis,p.From.length<=500/\p.Args.length=p.From.length/\(∀ z∈p.From,0<=z/\z<1000000)/\((Ov v x y p).map (·.1)).Nodup
 op:∀ o∈b.Ops,o.Args.length<=1000000
theorem sd{b:Ae}{x y:Nat}{m:List (Int×Int)}(hx:x<1000000)(h:z7 (Lz m) x y b):Kv b (x:Int) (y:Int) m=some (GV (Lz m) x y b):=by
 have hroom:(1000001:Nat)<=room:=by decide
 have hph:=h.phis;have hop:=h.ops;unfold Kv
 rw[Aa (by omega),ZZ b.Phis (default:A8) (NO (Lz m) x y) id (Kw b (x:Int) (y:Int) m) (λi s hi hs=>by
  obtain⟨p1,p2,p3,p4⟩:=h.phi _ (Ag (d:=default) hi);unfold Kw;simp only[B1 hi,Ah,Aa (Ai hi),Am,yr hx p1 p2 p3 p4,An,w1 (show i<4611686018427387904 by omega)]
  rw[Aa (by rw[hs];exact Ai hi)]) (λs=>by unfold Kw;simp only[Da,Ax];rfl) _ (by simp),An]
 dsimp only[id]
 rw[Aa (by omega),ZZ b.Ops (default:Bv) (md (Lz m)) id (Kx b (x:Int) (y:Int) m) (λi s hi hs=>by
  unfold Kx;simp only[B1 hi,Ah,Aa (Ai hi),Am,wR (h.op _ (Ag (d:=default) hi)),An,w1 (show i<4611686018427387904 by omega)]
  rw[Aa (by rw[hs];exact Ai hi)];rfl) (λs=>by unfold Kx;simp only[Da,Ax];rfl) _ (by simp),An]
 dsimp only[id]
 rw[NW,An,sf hx h.to.1 h.to.2,An]
 rfl
theorem oO{a b:List Bv}(h:a.length+b.length<=1000000):Fg [a,b]=some (a++b):=by
 have hroom:(1000001:Nat)<=room:=by decide
 unfold Fg
 have h1:Ac (Cv [a,b]) ((0:Int),(0:Int))=some (((a.length+b.length:Nat)):Int):=by
  rw[Ap (s':=((a.length:Int),(1:Int))) (by
   unfold Cv
   show(Option.bind (α:=Unit) (Az (A2 (0:Int) 2) (bif decide (w64 ((0:Int)+(a.length:Int))<0) then none else some ())) _)=_
   rw[Hg (by omega) (by omega),Ce (by omega),Aa ⟨by omega,by omega⟩,Ax,An]
   show some (LR.next (w64 ((0:Int)+(a.length:Int)),w64 ((0:Int)+1)))=_
   rw[show w64 ((0:Int)+1)=1 from rfl,Hg (n:=(0:Int)+(a.length:Int)) (by omega) (by omega),Int.zero_add]),Ap (s':=(((a.length+b.length:Nat):Int),(2:Int))) (by
   unfold Cv
   show(Option.bind (α:=Unit) (Az (A2 (1:Int) 2) (bif decide (w64 ((a.length:Int)+(b.length:Int))<0) then none else some ())) _)=_
   rw[Hg (by omega) (by omega),Ce (by omega),Aa ⟨by omega,by omega⟩,Ax,An]
   show some (LR.next (w64 ((a.length:Int)+(b.length:Int)),w64 ((1:Int)+1)))=_
   rw[show w64 ((1:Int)+1)=2 from rfl,Hg (n:=(a.length:Int)+(b.length:Int)) (by omega) (by omega)];rfl),Ak (by
   unfold Cv
   rfl)]
 rw[h1,An];unfold g9;rw[Aa ⟨by omega,by omega⟩,An]
 have h2:Ac (Cw [a,b]) (([]:List Bv),(0:Int))=some (a++b):=by
  rw[Ap (s':=(a,(1:Int))) (by
   unfold Cw
   show Az (A2 (0:Int) 2) (Az (0+a.length<=room) (some (LR.next ([]++a,w64 (0+1)))))=_
   rw[Aa ⟨by omega,by omega⟩,Aa (by omega)];rfl),Ap (s':=(a++b,(2:Int))) (by
   unfold Cw
   show Az (A2 (1:Int) 2) (Az (a.length+b.length<=room) (some (LR.next (a++b,w64 (1+1)))))=_
   rw[Aa ⟨by omega,by omega⟩,Aa (by omega)];rfl),Ak (by
   unfold Cw
   rfl)]
 rw[h2];rfl
theorem jP{y:Nat}:∀ n,((List.range n).filter λb=>decide (b≠y))=if y<n then(List.range (n-1)).map (IV y) else List.range n
 | 0=>by simp
 | n+1=>by
  rw[W0,Wv,jP n]
  by_cases h:y<n
  ·obtain⟨m,rfl⟩:∃ m,n=m+1:=⟨n-1,by omega⟩
   have e:IV y m=m+1:=by rcases up_eq y m with h|h<;>omega
   rw[if_pos h,if_pos (by omega),show m+1+1-1=m+1 by omega,show m+1-1=m by omega,W0,Wy];simp[show ¬ m+1=y by omega,e]
  ·rw[if_neg h]
   by_cases e:n=y
   ·subst e;rw[if_pos (by omega),show n+1-1=n by omega]
    simp
    apply CI
    ·simp
    ·intro i h1 h2;simp at h1 h2 ⊢;rcases up_eq n i with h|h<;>omega
   ·rw[if_neg (by omega)];simp[e]
section
variable {f:TFunc} {x y:Nat} {l:Int} (J:Jn f x y) (R:Zy f l) (hN:Nw f)
include J R hN
theorem okJ{v:Int->Int}{b:Nat}(hb:b<f.Blocks.length)(hby:b≠y):z7 v x y (Ke f x y b):=by
 have hs:=Bd R;have hy:=(LO J hs).1;have h64:=(shape_iff.1 hs).1.2
 have hsz:∀ c,c<f.Blocks.length->Ez (bA f c)<=512:=λc hc=>by
  have:=Wp (F:=λb=>Ez (bA f b)) hc;rw[<- My]at this;have:=hN.size;omega
 have hto:∀ c,c<f.Blocks.length->(bA f c).End.To.length<=1000000/\∀ z∈(bA f c).End.To,0<=z/\z<1000000:=λc hc=>by
  have ht:(bA f c).End.To.length<=2:=hN.to _ (Ag (d:=default) hc);refine⟨by omega,λz hz=>?_⟩;obtain⟨w,rfl,hw,_⟩:=FR hs hc hz;omega
 have hphi:∀ p∈(bA f b).Phis,p.From.length<=500/\p.Args.length=p.From.length/\(∀ z∈p.From,0<=z/\z<1000000)/\((Ov v x y p).map (·.1)).Nodup:=λp hp=>by
  obtain⟨q1,q2⟩:=Td R hb hp;have:=hN.phi _ (Ag (d:=default) hb) p hp;refine⟨by omega,q2,λz hz=>?_,?_⟩
  ·rw[q1]at hz;obtain⟨w,rfl,hw,_⟩:=(Qz hs hb).1 hz;omega
  ·rw[OO q2,q1];exact u9 J hs hb hby
 have hop:∀ c,c<f.Blocks.length->∀ o∈(bA f c).Ops,o.Args.length<=1000000:=λc hc o ho=>by
  have:=hN.op _ (Ag (d:=default) hc) o ho;omega
 have h1:=hsz b hb;have h2:=hsz x J.hx;have h3:=hsz y hy;unfold Ez at h1 h2 h3;unfold Ke
 split
 ·rename_i e
  subst e
  exact⟨by show(bA f b).Phis.length<=_;omega,by show((bA f b).Ops++(bA f y).Ops).length<=_;rw[Fh];omega,hto y hy,hphi,λo ho=>by
   rcases zzL12.1 ho with h|h
   ·exact hop b hb o h
   ·exact hop y hy o h⟩
 ·exact⟨by omega,by omega,hto b hb,hphi,hop b hb⟩
theorem lF:Fc f (x:Int) (y:Int)=some (Cb f x y,(x:Int),(y:Int),HO (bA f y).Phis):=by
 have hroom:(1000001:Nat)<=room:=by decide
 have hs:=Bd R;have hy:=(LO J hs).1;have h64:=(shape_iff.1 hs).1.2
 have hsz:∀ c,c<f.Blocks.length->Ez (bA f c)<=512:=λc hc=>by
  have:=Wp (F:=λb=>Ez (bA f b)) hc;rw[<- My]at this;have:=hN.size;omega
 have h2:=hsz x J.hx;have h3:=hsz y hy;unfold Ez at h2 h3
 have hv:Lz (HO (bA f y).Phis)=vJ f y:=by
  funext v
  have:=dJ J R (bA f y).Phis.length (zzL6 _) v;rw[Wx]at this;exact this
 have hxl:=J.hx;unfold Fc;rw[Aa (Ai J.hx),Aa (Ai hy),oL J R (by omega),An];simp only[Am]
 have hcc:(f.Blocks.getD x default).Ops.length+(f.Blocks.getD y default).Ops.length<=1000000:=by
  have e1:(f.Blocks.getD x default).Ops.length<=512:=by show(bA f x).Ops.length<=512;omega
  have e2:(f.Blocks.getD y default).Ops.length<=512:=by show(bA f y).Ops.length<=512;omega
  omega
 rw[oO hcc,An];have key:=Em (G5 f (x:Int) (y:Int) (HO (bA f y).Phis) ((f.Blocks.getD x default).Ops++(f.Blocks.getD y default).Ops))
  (λi=>((i:Int),((List.range i).filter λb=>decide (b≠y)).map λb=>GV (vJ f y) x y (Ke f x y b))) (Cb f x y).Blocks f.Blocks.length (λi hi=>by
   have hb:=sd (b:=Ke f x y i) (x:=x) (y:=y) (m:=HO (bA f y).Phis) (by omega);rw[hv]at hb
   have hlen:(((List.range i).filter λb=>decide (b≠y)).map λb=>GV (vJ f y) x y (Ke f x y b)).length<=i:=by
    rw[Dz];have:=List.length_filter_le (λb=>decide (b≠y)) (List.range i);rw[Vb]at this;exact this
   have hr:((List.range (i+1)).filter λb=>decide (b≠y)).map (λb=>GV (vJ f y) x y (Ke f x y b))=(((List.range i).filter λb=>decide (b≠y)).map λb=>GV (vJ f y) x y (Ke f x y b))++(if i=y then[] else[GV (vJ f y) x y (Ke f x y i)]):=by
    rw[W0,Wv,Wy]
    congr 1
    by_cases e:i=y<;>simp[e]
   rw[hr];unfold G5;simp only[B1 hi,Ah,Aa (Ai hi),Am,w1 (show i<4611686018427387904 by omega)]
   by_cases ex:i=x
   ·have hiy:¬ i=y:=λe=>J.ne (e▸ex);rw[show((i:Int)==(x:Int))=true by rw[zzL63];omega,Ah,if_neg hiy]
    have hB:Ke f x y i=⟨(f.Blocks.getD x default).Phis,(f.Blocks.getD x default).Ops++(f.Blocks.getD y default).Ops,⟨(f.Blocks.getD y default).End.Kind,(f.Blocks.getD y default).End.Arg,(f.Blocks.getD y default).End.To⟩⟩:=by
     unfold Ke;rw[if_pos ex]
    have hok:z7 (vJ f y) x y (Ke f x y i):=okJ J R hN hi hiy;have hb':=hb hok;rw[hB]at hb';rw[hb',An,Aa (by show _+1<=room;omega),An,<- hB]
   ·rw[show((i:Int)==(x:Int))=false by rw[zzL30];omega,Ax]
    by_cases ey:i=y
    ·rw[show((i:Int)==(y:Int))=true by rw[zzL63];omega,Ah,if_pos ey,List.append_nil];rfl
    ·rw[show((i:Int)==(y:Int))=false by rw[zzL30];omega,Ax,if_neg ey]
     have hB:Ke f x y i=f.Blocks.getD i default:=by unfold Ke;rw[if_neg ex]
     have hok:z7 (vJ f y) x y (Ke f x y i):=okJ J R hN hi ey;have hb':=hb hok;rw[hB]at hb'
     rw[hb',An,Aa (by show _+1<=room;omega),An,hB])
  (by
   unfold G5;simp only[Da,Ax]
   rw[jP,if_pos hy,List.map_map];rfl)
 have key':Ac (G5 f (x:Int) (y:Int) (HO (bA f y).Phis) ((f.Blocks.getD x default).Ops++(f.Blocks.getD y default).Ops)) ((0:Int),([]:List Ae))=_:=key;rw[key',An];rfl
end
def ck(f:TFunc)(i:Nat):Option (Nat×Nat):=if(bA f i).End.Kind=1/\mM f i 0≠(i:Int)/\(prF f (mM f i 0).toNat).length=1 then some (i,(mM f i 0).toNat) else none
def Qg(f:TFunc):Option (Nat×Nat):=(List.range f.Blocks.length).findSome? (ck f)
def T6:Nat->TFunc->TFunc
 | 0,f=>f
 | n+1,f=>match Qg f with|some p=>T6 n (Cb f p.1 p.2)|none=>f
theorem QC{f:TFunc}(hs:Gp f=true){i:Nat}(hi:i<f.Blocks.length)(hk:(bA f i).End.Kind=1):∃ b:Nat,(bA f i).End.To=[(b:Int)]/\b<f.Blocks.length/\0<b:=by
 have h3:Kb (bA f i).End f.Blocks.length=true:=(shape_iff.1 hs).2 i hi;unfold Kb Yv at h3;simp only[A6,Gr]at h3;have hw:=h3.1.2;rw[hk,show CB 1=1 from rfl]at hw
 have hl:(bA f i).End.To.length=1:=by omega
 generalize hT:(bA f i).End.To=T at hl
 match T,hl with
 | [z],_=>
  obtain⟨c,rfl,hc,h0,_⟩:=FR hs hi (z:=z) (by rw[hT];exact zzL16.2 rfl);exact⟨c,rfl,hc,h0⟩
theorem we{f:TFunc}(hs:Gp f=true){i:Nat}(hi:i<f.Blocks.length){p:Nat×Nat}(h:ck f i=some p):p.1=i/\Jn f p.1 p.2:=by
 unfold ck at h
 split at h
 ·rename_i hc
  obtain rfl:=OI h;obtain⟨b,hb,hbl,_⟩:=QC hs hi hc.1
  have ht:mM f i 0=(b:Int):=by unfold mM;rw[hb];rfl
  have hp:=hc.2.2;have hne:=hc.2.1;refine⟨rfl,?_⟩
  show Jn f i (mM f i 0).toNat
  rw[ht,Am]at hp ⊢;rw[ht]at hne;refine⟨hi,hc.1,hb,λe=>hne (by rw[e]),?_⟩;have hm:(i:Int)∈prF f b:=(Qz hs hbl).2 ⟨i,rfl,hi,by unfold UG;rw[hb];exact zzL16.2 rfl⟩
  generalize prF f b=L at hp hm
  match L,hp with
  | [z],_=>rw[zzL16.1 hm]
 ·cases h
theorem cg{f:TFunc}(hs:Gp f=true){p:Nat×Nat}(h:Qg f=some p):Jn f p.1 p.2:=by
 unfold Qg at h;obtain⟨i,hi,he⟩:=List.exists_of_findSome?_eq_some h;exact(we hs (zzL45.1 hi) he).2
theorem jB{f:TFunc}(hs:Gp f=true):Ks f=some (match Qg f with|some p=>((true,(⟨(p.1:Int),(p.2:Int),[]⟩:LD)),true)|none=>((false,default),false)):=by
 have h64:=(shape_iff.1 hs).1.2;unfold Ks;rw[zF f (by rw[Oe];omega),hs,Ah,An];have hP:(Kd (A1 f),(0:Int)).1.Pred=Dq (A1 f):=rfl;have hlp:(Dq (A1 f)).length=f.Blocks.length:=xB f;have key:=pM (X:=Unit ⊕ ((Bool×LD)×Bool)) (List.range f.Blocks.length) (0:Nat) (ck f) (λp=>.inr ((true,(⟨(p.1:Int),(p.2:Int),[]⟩:LD)),true)) (.inl ()) (Mk f (Kd (A1 f),(0:Int))) (λi hi hq=>?_) (λi hi p hq=>?_) ?_
 ·rw[key,An];unfold Qg
  cases(List.range f.Blocks.length).findSome? (ck f)<;>rfl
 all_goals simp only[Vb]at *
 ·rw[Ab _ _ _ (by rw[Vb];exact hi),List.getElem_range]at hq;unfold Mk;simp only[B1 hi,Ah,Aa (Ai hi),Am,hP,w1 (show i<4611686018427387904 by omega)]
  by_cases hk:(bA f i).End.Kind=1
  ·obtain⟨b,hb,hbl,hb0⟩:=QC hs hi hk
   have ht:mM f i 0=(b:Int):=by unfold mM;rw[hb];rfl
   rw[show((f.Blocks.getD i default).End.Kind !=1)=false by show((bA f i).End.Kind !=1)=false;rw[hk];rfl,Ax];rw[show(f.Blocks.getD i default).End.To=[(b:Int)] from hb];rw[Aa (show A2 (0:Int) [(b:Int)].length from⟨by omega,by show(0:Int)<((1:Nat):Int);omega⟩)];have e0:[(b:Int)].getD ((0:Int)).toNat 0=(b:Int):=rfl;rw[e0,Aa (λ_=>by rw[hlp];exact Ai hbl),Am];unfold ck at hq;rw[ht,Am]at hq
   have hno:¬ ((b:Int)≠(i:Int)/\(prF f b).length=1):=λhh=>by rw[if_pos ⟨hk,hh⟩]at hq;cases hq
   have e1:(bif ((b:Int)!=(i:Int)) then((((Dq (A1 f)).getD b []).length:Int)==(1:Int)) else false)=false:=by
    by_cases hbi:(b:Int)=(i:Int)
    ·rw[show((b:Int)!=(i:Int))=false by simpa using hbi];rfl
    ·rw[show((b:Int)!=(i:Int))=true by simpa using hbi,Ah,zzL30];intro he;exact hno ⟨hbi,by have:(((prF f b).length:Nat):Int)=1:=he;omega⟩
   rw[e1];rfl
  ·rw[show((f.Blocks.getD i default).End.Kind !=1)=true by show((bA f i).End.Kind !=1)=true;simpa using hk];rfl
 ·rw[Ab _ _ _ (by rw[Vb];exact hi),List.getElem_range]at hq;unfold Mk;simp only[B1 hi,Ah,Aa (Ai hi),Am,hP];unfold ck at hq
  split at hq
  ·rename_i hc
   obtain rfl:=OI hq;obtain⟨b,hb,hbl,hb0⟩:=QC hs hi hc.1
   have ht:mM f i 0=(b:Int):=by unfold mM;rw[hb];rfl
   have hc2:=hc.2.1;have hc3:=hc.2.2;rw[ht]at hc2 hc3;rw[Am]at hc3;rw[show((f.Blocks.getD i default).End.Kind !=1)=false by show((bA f i).End.Kind !=1)=false;rw[hc.1];rfl,Ax];rw[show(f.Blocks.getD i default).End.To=[(b:Int)] from hb];rw[Aa (show A2 (0:Int) [(b:Int)].length from⟨by omega,by show(0:Int)<((1:Nat):Int);omega⟩)];have e0:[(b:Int)].getD ((0:Int)).toNat 0=(b:Int):=rfl;rw[e0,Aa (λ_=>by rw[hlp];exact Ai hbl),Am]
   have e1:(bif ((b:Int)!=(i:Int)) then((((Dq (A1 f)).getD b []).length:Int)==(1:Int)) else false)=true:=by
    rw[show((b:Int)!=(i:Int))=true by simpa using hc2,Ah,zzL63]
    have:(((prF f b).length:Nat):Int)=1:=by rw[hc3];rfl
    exact this
   rw[e1,Ah,ht,Am];rfl
  ·cases hq
 ·unfold Mk;simp only[Da,Ax]
theorem OG{l:Int}:∀(n:Nat) (f:TFunc),Zy f l->Nw f->f.Blocks.length<=n->Zy (T6 n f) l/\Nw (T6 n f)/\Qg (T6 n f)=none/\(T6 n f).Blocks.length<=f.Blocks.length/\sizeN (T6 n f)<=sizeN f
 | 0,f,R,hN,hn=>by
  have:=(shape_iff.1 (Bd R)).1.1;omega
 | n+1,f,R,hN,hn=>by
  unfold T6
  cases h:Qg f with
  | none=>exact⟨R,hN,h,zzL6 _,zzL6 _⟩
  | some p=>
   have J:=cg (Bd R) h;obtain⟨R',hN'⟩:=cr J R hN;have hl:=Ok J;have hsz:=fq J R;have h1:=J.hx;obtain⟨a,b,c,d,e⟩:=OG n (Cb f p.1 p.2) R' hN' (by rw[hl];omega);exact⟨a,b,c,by show(T6 n (Cb f p.1 p.2)).Blocks.length<=_;omega,by show sizeN (T6 n (Cb f p.1 p.2))<=_;omega⟩
theorem di{l:Int}:∀(n:Nat) (f:TFunc),Zy f l->Nw f->f.Blocks.length<=n->Ac O2 (f.Params,f.Ret,f.Blocks)=some (T6 n f)
 | 0,f,R,hN,hn=>by
  have:=(shape_iff.1 (Bd R)).1.1;omega
 | n+1,f,R,hN,hn=>by
  have hs:=Bd R;unfold T6
  cases h:Qg f with
  | none=>
   refine Ak ?_;unfold O2
   show(Ks f).bind _=_
   rw[jB hs,h,An];rfl
  | some p=>
   have J:=cg hs h;obtain⟨R',hN'⟩:=cr J R hN;have h1:=J.hx
   rw[Ap (s':=((Cb f p.1 p.2).Params,(Cb f p.1 p.2).Ret,(Cb f p.1 p.2).Blocks)) (by
    unfold O2
    show(Ks f).bind _=_
    rw[jB hs,h,An]
    dsimp only
    rw[Ah,Ah]
    show(Fc f (p.1:Int) (p.2:Int)).bind _=_
    rw[lF J R hN];rfl)]
   exact di n _ R' hN' (by rw[Ok J];omega)
def RF(f:TFunc):TFunc:=if D8 f 2=0 then T6 f.Blocks.length f else f
theorem jE{f:TFunc}(h:Sm f):Lr f=some (decide (D8 f 2=0)):=by
 unfold Lr;rw[jA f 2 h,An]
 by_cases e:D8 f 2=0
 ·rw[e];rfl
 ·rw[Ce e,show(D8 f 2==0)=false by rw[zzL30];exact e]
theorem yo{f:TFunc}(h:Sm f)(hN:D8 f 2=0->Nw f):Ty f=some (RF f):=by
 unfold Ty RF;rw[jE h,An]
 by_cases e:D8 f 2=0
 ·have R:Zy f 2:=(Yf (by omega)).1 e;have key:=di f.Blocks.length f R (hN e) (zzL6 _);have hF:((Ks f).bind λx5=>(bif x5.1.1 then(bif x5.2 then((Fc f x5.1.2.x x5.1.2.y).bind λx7=>(some (.next (x7.1.Params,x7.1.Ret,x7.1.Blocks)))) else(some (.done f))) else(bif x5.2 then((I5 f).bind λx8=>(some (.next (x8.Params,x8.Ret,x8.Blocks)))) else(some (.done f)))):Option (LR (List Int×Int×List Ae) TFunc))=O2 (f.Params,f.Ret,f.Blocks):=rfl;rw[if_pos e,Co e,Ds,Ax,hF];rw[<- MI]at key;rw[key];rfl
 ·rw[if_neg e,Ce e];rfl
theorem I9{α:Type}{p:α->Bool}{l:List α}{a:α}(h:a∈l.filter p):a∈l:=(zzL114.1 h).1
def JD{α:Type}(p:α->Bool)(L:List α)(i:Nat):Nat:=((L.take i).filter p).length
theorem HD{α:Type}{p:α->Bool}{L:List α}{i:Nat}{d:α}(hi:i<L.length)(hp:p (L.getD i d)=true):JD p L i<(L.filter p).length/\(L.filter p).getD (JD p L i) d=L.getD i d:=by
 rw[Ab _ _ _ hi]at hp ⊢
 have e:L.filter p=(L.take i).filter p++L[i]::(L.drop (i+1)).filter p:=by
  have:=Bk (List.filter p) (List.take_append_drop i L);rw[Wv,SN hi,List.filter_cons,if_pos hp]at this;exact this.symm
 unfold JD;rw[e];refine⟨by simp,?_⟩;rw[Ab _ _ _ (by simp),List.getElem_append_right (zzL6 _)]
 simp
theorem OE{α:Type}{p:α->Bool}{d:α}:∀{L:List α} {k:Nat},k<(L.filter p).length->∃ i,i<L.length/\p (L.getD i d)=true/\JD p L i=k
 | [],k,h=>by simp at h
 | a::L,k,h=>by
  by_cases ha:p a=true
  ·rw[List.filter_cons,if_pos ha]at h
   cases k with
   | zero=>exact⟨0,by simp,by simpa using ha,rfl⟩
   | succ k=>
    obtain⟨i,h1,h2,h3⟩:=OE (L:=L) (k:=k) (d:=d) (by simpa using h);refine⟨i+1,by simpa using h1,by simpa using h2,?_⟩;unfold JD at h3 ⊢;rw[List.take_succ_cons,List.filter_cons,if_pos ha,EX,h3]
  ·rw[List.filter_cons,if_neg ha]at h;obtain⟨i,h1,h2,h3⟩:=OE (L:=L) (k:=k) (d:=d) h;refine⟨i+1,by simpa using h1,by simpa using h2,?_⟩;unfold JD at h3 ⊢;rw[List.take_succ_cons,List.filter_cons,if_neg ha,h3]
theorem wa{α:Type}{p:α->Bool}{L:List α}{i j:Nat}{d:α}(hj:j<L.length)(hij:i<j)(hp:p (L.getD i d)=true):JD p L i<JD p L j:=by
 have hi:i<(L.take j).length:=by rw[Ww];omega
 have e:(L.take j).getD i d=L.getD i d:=by rw[Ab _ _ _ hi,List.getElem_take,Ab _ _ _ (by omega)]
 have:=(HD (L:=L.take j) (p:=p) (d:=d) hi (by rw[e];exact hp)).1;unfold JD at this ⊢;rw[List.take_take,Nat.min_eq_left (by omega)]at this;exact this
def V5(b:Ae):List Int:=b.Phis.flatMap (·.Args)++b.Ops.flatMap (·.Args)++(if b.End.Kind=0\/b.End.Kind=2 then[b.End.Arg] else[])
def Q2(f:TFunc)(v:Int):Bool:=f.Blocks.any λb=>(V5 b).contains v
def PH(kp:A8->Bool)(ko:Bv->Bool)(b:Ae):Ae:=⟨b.Phis.filter kp,b.Ops.filter ko,b.End⟩
def Qf(kp:A8->Bool)(ko:Bv->Bool)(f:TFunc):TFunc:=⟨f.Params,f.Ret,f.Blocks.map (PH kp ko)⟩
structure Ct(f:TFunc)(kp:A8->Bool)(ko:Bv->Bool):Prop where
 phi:∀ b∈f.Blocks,∀ p∈b.Phis,Q2 f p.Dst=true->kp p=true
 op:∀ b∈f.Blocks,∀ o∈b.Ops,Q2 f o.Dst=true->ko o=true
section
variable {f:TFunc} {kp:A8->Bool} {ko:Bv->Bool} {l:Int}
theorem Qe:(Qf kp ko f).Blocks.length=f.Blocks.length:=Dz ..
theorem GY{i:Nat}(hi:i<f.Blocks.length):bA (Qf kp ko f) i=PH kp ko (bA f i):=by
 show(f.Blocks.map (PH kp ko)).getD i default=_
 exact HP hi
theorem PG(i:Nat):(bA (Qf kp ko f) i).End=(bA f i).End:=by
 by_cases hi:i<f.Blocks.length
 ·rw[GY hi];rfl
 ·have e1:bA (Qf kp ko f) i=default:=by
   show(f.Blocks.map (PH kp ko)).getD i default=_
   rw[Wu,SQ (by rw[Dz];omega)];rfl
  have e2:bA f i=default:=by
   show f.Blocks.getD i default=_
   rw[Wu,SQ (by omega)];rfl
  rw[e1,e2]
theorem NZ:A1 (Qf kp ko f)=A1 f:=by
 unfold A1;rw[Qe];refine MQ λi _=>?_
 show BQ (bA (Qf kp ko f) i).End.To=BQ (bA f i).End.To
 rw[PG]
theorem su:B8 (Qf kp ko f)=B8 f:=by unfold B8;rw[NZ]
theorem yv(i:Nat):prF (Qf kp ko f) i=prF f i:=by unfold prF;rw[NZ]
theorem ct_shapeB:Gp (Qf kp ko f)=Gp f:=by
 rw[Y7,shape_iff,shape_iff,Qe];have e:∀ i,Bn (Qf kp ko f) i=Bn f i:=λi=>PG i;simp only[e]
theorem jH:sizeN (Qf kp ko f)<=sizeN f:=by
 rw[My,My,Qe];refine uJ λi hi=>?_;rw[GY hi];unfold PH Ez;have h1:=List.length_filter_le kp (bA f i).Phis;have h2:=List.length_filter_le ko (bA f i).Ops
 show(List.filter kp (bA f i).Phis).length+(List.filter ko (bA f i).Ops).length+1<=_
 omega
theorem fc{b:Ae}(hb:b∈(Qf kp ko f).Blocks):∃ c∈f.Blocks,b=PH kp ko c:=by
 obtain⟨c,hc,rfl⟩:=zzL21.1 hb;exact⟨c,hc,rfl⟩
theorem jI{i:Nat}(hi:i<f.Blocks.length):(UL (bA (Qf kp ko f) i)).Sublist (UL (bA f i)):=by
 rw[GY hi];unfold UL;refine List.Sublist.append ?_ ?_
 ·exact(List.filter_sublist).map _
 ·unfold ZN;exact((List.filter_sublist (l:=(bA f i).Ops) (p:=ko)).filter _).map _
section
variable (R:Zy f l)
include R
theorem qS{w:Cq}(hw:w∈Bh f):Q2 f w.V=true:=by
 obtain⟨i,hi,h⟩:=(H1 (Hi R)).1 hw;unfold Q2;rw[List.any_eq_true];refine⟨bA f i,Ag hi,?_⟩;rw[zzL64];unfold V5;rcases h with⟨k,j,hk,hj,e⟩|⟨k,j,hk,hj,e⟩|⟨hK,e⟩|⟨hK,e⟩<;>rw[e]
 ·exact zzL12.2 (.inl (zzL12.2 (.inl (zzL48.2 ⟨_,Ag (d:=default) hk,Ag (d:=0) hj⟩))))
 ·exact zzL12.2 (.inl (zzL12.2 (.inr (zzL48.2 ⟨_,Ag (d:=default) hk,Ag (d:=0) hj⟩))))
 ·exact zzL12.2 (.inr (by rw[if_pos (.inl hK)];exact zzL16.2 rfl))
 ·exact zzL12.2 (.inr (by rw[if_pos (.inr hK)];exact zzL16.2 rfl))
theorem oZ(hsz:sizeN f<=512):Qv (Qf kp ko f)=true:=by
 obtain⟨⟨m1,m2⟩,m3,m4,m5,m6,m7⟩:=mayF_iff.1 R.may;refine mayF_iff.2 ⟨by rw[Qe];exact⟨m1,m2⟩,m3,m4,m5,?_,λb hb=>?_⟩
 ·have:=jH (f:=f) (kp:=kp) (ko:=ko);unfold sizeW;rw[U9 (by omega)];omega
 ·obtain⟨c,hc,rfl⟩:=fc hb;obtain⟨h1,h2,h3⟩:=blockB_iff.1 (m7 c hc);exact blockB_iff.2 ⟨λp hp=>h1 p (I9 hp),λo ho=>h2 o (I9 ho),h3⟩
theorem oa:M3 (Qf kp ko f) l=true:=by
 have h:=R.typed;simp only[M3,E9,A6,zzL26]at h ⊢;obtain⟨⟨t1,t2⟩,t3⟩:=h;refine⟨⟨t1,λb hb=>?_⟩,t3⟩;obtain⟨c,hc,rfl⟩:=fc hb;exact⟨λp hp=>(t2 c hc).1 p (I9 hp),λo ho=>(t2 c hc).2 o (I9 ho)⟩
theorem lJ:Fe (Qf kp ko f)=true:=by
 have hs:=Bd R;refine MJ (by rw[ct_shapeB];exact hs) λb hb=>?_;rw[Qe]at hb;obtain⟨r1,r2⟩:=Wj R hb;refine⟨by rw[NZ];exact r1,by rw[PG];exact r2,λp hp=>?_⟩;rw[GY hb]at hp;obtain⟨q1,q2⟩:=Td R hb (I9 hp);exact⟨by rw[yv];exact q1,q2⟩
variable (C:Ct f kp ko)
include C
theorem wb{d:Bz}(hd:d∈Au f)(hu:Q2 f d.V=true):∃ e∈Au (Qf kp ko f),e.V=d.V/\e.Shape=d.Shape/\e.Block=d.Block /\
  (d.Block<0\/(∃ i,i<f.Blocks.length/\d.Block=(i:Int)/\((d.At = -1/\e.At = -1)\/∃ k,k<(bA f i).Ops.length/\d.At=(k:Int)/\ko ((bA f i).Ops.getD k default)=true/\e.At=((JD ko (bA f i).Ops k:Nat):Int)))):=by
 rcases ri_def.1 hd with⟨j,hj,e⟩|⟨i,hi,⟨k,hk,e⟩|⟨k,hk,hg,e⟩⟩
 ·exact⟨d,ri_def.2 (.inl ⟨j,hj,e⟩),rfl,rfl,rfl,.inl (by rw[e];show(-1:Int)<0;omega)⟩
 ·have hp:=Ag (d:=(default:A8)) hk;have hkp:kp ((bA f i).Phis.getD k default)=true:=C.phi _ (Ag (d:=default) hi) _ hp (by rw[e]at hu;exact hu);obtain⟨h1,h2⟩:=HD hk hkp;have hat:=GY (kp:=kp) (ko:=ko) hi
  have hP:(bA (Qf kp ko f) i).Phis=(bA f i).Phis.filter kp:=by rw[hat];rfl
  refine⟨_,ri_def.2 (.inr ⟨i,by rw[Qe];exact hi,.inl ⟨JD kp (bA f i).Phis k,by rw[hP];exact h1,rfl⟩⟩),?_,?_,?_,.inr ⟨i,hi,by rw[e],.inl ⟨by rw[e],rfl⟩⟩⟩
  ·rw[hP,h2,e]
  ·rw[hP,h2,e]
  ·rw[e]
 ·have ho:=Ag (d:=(default:Bv)) hk;have hko:ko ((bA f i).Ops.getD k default)=true:=C.op _ (Ag (d:=default) hi) _ ho (by rw[e]at hu;exact hu);obtain⟨h1,h2⟩:=HD hk hko;have hat:=GY (kp:=kp) (ko:=ko) hi
  have hO:(bA (Qf kp ko f) i).Ops=(bA f i).Ops.filter ko:=by rw[hat];rfl
  refine⟨_,ri_def.2 (.inr ⟨i,by rw[Qe];exact hi,.inr ⟨JD ko (bA f i).Ops k,by rw[hO];exact h1,by rw[hO,h2];exact hg,rfl⟩⟩),?_,?_,?_,.inr ⟨i,hi,by rw[e],.inr ⟨k,hk,by rw[e],hko,rfl⟩⟩⟩
  ·rw[hO,h2,e]
  ·rw[hO,h2,e]
  ·rw[e]
theorem lK(hsz:sizeN f<=512)(hok:OkF (Qf kp ko f)):Zy (Qf kp ko f) l:=by
 have hgt:=oa (kp:=kp) (ko:=ko) R
 have hgm:∀ b∈(Qf kp ko f).Blocks,∀ o∈b.Ops,Gs o=true:=λb hb o ho=>by
  simp only[M3,E9,A6,zzL26]at hgt;exact Wr ((hgt.1.2 b hb).2 o ho)
 obtain⟨N1,N2,N3⟩:=(nodup_split f).1 (Xf (DR R).1)
 have hcap:∀{d:Bz},d∈Au (Qf kp ko f)->d.At<1000:=λ{d} hd=>by
  rcases defs_in hok d hd with h3|⟨_,_,h3⟩
  ·rcases ri_def.1 hd with⟨i,_,e⟩|⟨i,_,⟨k,_,e⟩|⟨k,_,_,e⟩⟩
   ·rw[e];show(0:Int)<1000;omega
   ·rw[e]at h3;have:(i:Int) = -1:=h3;omega
   ·rw[e]at h3;have:(i:Int) = -1:=h3;omega
  ·exact h3
 have key:∀{w:Cq} {i:Nat} {a:Int},w∈Bh f->i<f.Blocks.length->w.Block=(i:Int)->(w.At=1000/\a=1000\/∃ k,k<(bA f i).Ops.length/\w.At=(k:Int)/\a=((JD ko (bA f i).Ops k:Nat):Int))->
   ∃ d∈Au (Qf kp ko f),d.V=w.V/\d.Shape=w.Shape/\kw (Qf kp ko f) d (i:Int) a:=λ{w i a} hw hi hb ha=>by
  obtain⟨d,hd,hv,hsh,ht⟩:=KB R hw;obtain⟨e,he,e1,e2,e3,e4⟩:=wb R C hd (by rw[hv];exact qS R hw);refine⟨e,he,by rw[e1,hv],by rw[e2,hsh],?_⟩;rw[hb]at ht;rcases ht with h|⟨h1,h2⟩|⟨h1,h2⟩
  ·exact .inl (by rw[e3];exact h)
  ·refine .inr (.inl ⟨by rw[e3];exact h1,?_⟩);rcases ha with⟨_,rfl⟩|⟨k,hk,hwk,rfl⟩
   ·exact hcap he
   ·rcases e4 with h4|⟨j,hj,hjb,⟨hq1,hq2⟩|⟨q,hq,hq1,hq2,hq3⟩⟩
    ·omega
    ·rw[hq2];omega
    ·have:j=i:=by omega
     subst this;rw[hq3];have:=wa (p:=ko) (d:=(default:Bv)) hk (show q<k by omega) hq2;omega
  ·refine .inr (.inr ⟨by rw[e3];exact h1,?_⟩);rw[e3,su];exact h2
 refine⟨oZ R hsz,lJ R,hgt,RV ((nodup_split _).2 ⟨λk hk=>?_,λk m hk hm hne v hv hw=>?_,λi hi k hk hv=>?_⟩) (λd hd=>?_) (λu hu=>?_)⟩
 ·rw[Qe]at hk;exact(N1 k hk).sublist (jI hk)
 ·rw[Qe]at hk hm;exact N2 k m hk hm hne v ((jI hk).subset hv) ((jI hm).subset hw)
 ·rw[Qe]at hk;exact N3 i hi k hk ((jI hk).subset hv)
 ·rcases ri_def.1 hd with⟨i,hi,e⟩|⟨k,hk,⟨j,hj,e⟩|⟨j,hj,hg,e⟩⟩
  ·rw[e];exact Yg R (d:=⟨(i:Int)+1,-1,0,(f.Params.getD i 0,1)⟩) (ri_def.2 (.inl ⟨i,hi,rfl⟩))
  ·rw[Qe]at hk;rw[e];have hm:=Ag (d:=(default:A8)) hj;rw[GY hk]at hm;obtain⟨q,hq,eq⟩:=G7 (I9 hm);have:=Yg R (d:=⟨((bA f k).Phis.getD q default).Dst,k,-1,(((bA f k).Phis.getD q default).Bits,1)⟩) (ri_def.2 (.inr ⟨k,hk,.inl ⟨q,hq,rfl⟩⟩));rw[Ab _ _ _ hq,eq]at this;rw[GY hk];exact this
  ·rw[e];exact WS (hgm _ (Ag (d:=default) hk) _ (Ag (d:=default) hj)) hg
 ·obtain⟨k,hk,hcase⟩:=(H1 hgm).1 hu;rw[Qe]at hk;have hs:=Bd R;rw[PG,GY hk]at hcase;rcases hcase with⟨q,j,hq,hj,e⟩|⟨q,j,hq,hj,e⟩|⟨hK,e⟩|⟨hK,e⟩
  ·obtain⟨i,hi,hp,hc⟩:=OE (d:=(default:A8)) hq;have h2:=(HD hi hp).2;rw[hc]at h2;have h2':(PH kp ko (bA f k)).Phis.getD q default=(bA f k).Phis.getD i default:=h2;rw[h2']at e hj;have hw:=(H1 (Hi R) (f:=f)).2 ⟨k,hk,.inl ⟨i,j,hi,hj,rfl⟩⟩;obtain⟨q1,q2⟩:=Td R hk (Ag (d:=(default:A8)) hi);obtain⟨c,ec,hc,_⟩:=(Qz hs hk).1 (show((bA f k).Phis.getD i default).From.getD j 0∈prF f k by rw[<- q1];exact Ag (by omega));obtain⟨d,m1,m2,m3,m4⟩:=key hw hc ec (.inl ⟨rfl,rfl⟩);rw[e];exact⟨d,m1,m2,m3,by show kw _ d (((bA f k).Phis.getD i default).From.getD j 0) 1000;rw[ec];exact m4⟩
  ·obtain⟨i,hi,hp,hc⟩:=OE (d:=(default:Bv)) hq;have h2:=(HD hi hp).2;rw[hc]at h2;have h2':(PH kp ko (bA f k)).Ops.getD q default=(bA f k).Ops.getD i default:=h2;rw[h2']at e hj;have hw:=(H1 (Hi R) (f:=f)).2 ⟨k,hk,.inr (.inl ⟨i,j,hi,hj,rfl⟩)⟩;obtain⟨d,m1,m2,m3,m4⟩:=key hw hk rfl (.inr ⟨i,hi,rfl,rfl⟩);rw[e];exact⟨d,m1,m2,m3,by rw[hc]at m4;exact m4⟩
  ·have hw:=(H1 (Hi R) (f:=f)).2 ⟨k,hk,.inr (.inr (.inl ⟨hK,rfl⟩))⟩;obtain⟨d,m1,m2,m3,m4⟩:=key hw hk rfl (.inl ⟨rfl,rfl⟩);rw[e];exact⟨d,m1,m2,m3,m4⟩
  ·have hw:=(H1 (Hi R) (f:=f)).2 ⟨k,hk,.inr (.inr (.inr ⟨hK,rfl⟩))⟩;obtain⟨d,m1,m2,m3,m4⟩:=key hw hk rfl (.inl ⟨rfl,rfl⟩);rw[e];exact⟨d,m1,m2,m3,m4⟩
end
theorem yu(hN:Nw f):Nw (Qf kp ko f):=by
 have hsz:=jH (f:=f) (kp:=kp) (ko:=ko);refine⟨⟨hN.inf.params,by rw[Qe];exact hN.inf.blocks,λb hb=>?_,λb hb p hp=>?_,λb hb o ho=>?_⟩,hN.params,λb hb=>?_,λb hb p hp=>?_,λb hb o ho=>?_,by have:=hN.size;omega⟩<;>obtain⟨c,hc,rfl⟩:=fc hb
 ·obtain⟨h1,h2,h3⟩:=hN.inf.block c hc;exact⟨P0 (List.length_filter_le ..) h1,P0 (List.length_filter_le ..) h2,h3⟩
 ·exact hN.inf.phi c hc p (I9 hp)
 ·exact hN.inf.op c hc o (I9 ho)
 ·exact hN.to c hc
 ·exact hN.phi c hc p (I9 hp)
 ·exact hN.op c hc o (I9 ho)
theorem jJ(R:Zy f l)(C:Ct f kp ko)(hN:Nw f):Zy (Qf kp ko f) l/\Nw (Qf kp ko f):=
 have hn:=yu (kp:=kp) (ko:=ko) hN
 ⟨lK R C hN.size (jy (dT hn) (oZ R hN.size)),hn⟩
end
def Tt(u:Int->Bool)(p:A8):Bool:=u p.Dst
def S0(u:Int->Bool)(o:Bv):Bool:=!jt o.Kind || u o.Dst
def Ts(f:TFunc):TFunc:=Qf (Tt (Q2 f)) (S0 (Q2 f)) f
theorem jK(f:TFunc):Ct f (Tt (Q2 f)) (S0 (Q2 f)):=⟨λ_ _ _ _ h=>h,λ_ _ _ _ h=>by unfold S0;rw[h,Bool.or_true]⟩
def Sz:Nat->TFunc->TFunc
 | 0,f=>f
 | n+1,f=>if sizeN (Ts f)<sizeN f then Sz n (Ts f) else f
theorem PI{l:Int}:∀(n:Nat) (f:TFunc),Zy f l->Nw f->sizeN f<=n->Zy (Sz n f) l/\Nw (Sz n f)/\sizeN (Sz n f)<=sizeN (Ts (Sz n f))/\(Sz n f).Blocks.length=f.Blocks.length/\sizeN (Sz n f)<=sizeN f/\A1 (Sz n f)=A1 f/\∀ i,(bA (Sz n f) i).End=(bA f i).End
 | 0,f,R,hN,hn=>⟨R,hN,by show sizeN f<=_;omega,rfl,zzL6 _,rfl,λ_=>rfl⟩
 | n+1,f,R,hN,hn=>by
  unfold Sz
  split
  ·rename_i h
   obtain⟨R',hN'⟩:=jJ R (jK f) hN;obtain⟨a,b,c,d,e,g,i⟩:=PI n (Ts f) R' hN' (by omega);exact⟨a,b,c,d.trans Qe,by omega,g.trans NZ,λk=>(i k).trans (PG k)⟩
  ·exact⟨R,hN,by omega,rfl,zzL6 _,rfl,λ_=>rfl⟩
theorem mE(n v:Nat):(List.replicate n false).getD v false=false:=by
 rw[Wu]
 by_cases h:v<n
 ·rw[Pz (by rw[N7];exact h),List.getElem_replicate];rfl
 ·rw[SQ (by rw[N7];omega)];rfl
def EL(L:List Int)(M:List Bool):List Bool:=L.foldl (λM a=>M.set a.toNat true) M
theorem Uy:∀(L:List Int) (M:List Bool),(EL L M).length=M.length
 | [],M=>rfl
 | a::L,M=>by unfold EL;rw[IL];exact(Uy L _).trans (Dd ..)
theorem aj(L K:List Int)(M:List Bool):EL (L++K) M=EL K (EL L M):=by unfold EL;rw[List.foldl_append]
theorem QR{α:Type}(F:α->List Int):∀(l:List α) (M:List Bool),EL (l.flatMap F) M=l.foldl (λs x=>EL (F x) s) M
 | [],M=>rfl
 | a::l,M=>by rw[MR,aj,IL,QR F l]
theorem je:∀(L:List Int) (M:List Bool) {v:Nat},v<M.length->(EL L M).getD v false=(M.getD v false || L.any λa=>a.toNat==v)
 | [],M,v,h=>by simp[EL]
 | a::L,M,v,h=>by
  have e:EL (a::L) M=EL L (M.set a.toNat true):=rfl;rw[e,je L _ (by rw[Dd];exact h),List.any_cons]
  by_cases ha:a.toNat=v
  ·subst ha;rw[show(M.set a.toNat true).getD a.toNat false=true by rw[Wu,List.getElem?_set_self h];rfl]
   simp
  ·rw[show(M.set a.toNat true).getD v false=M.getD v false by simp only[Wu];rw[List.getElem?_set_ne ha]];rw[show(a.toNat==v)=false by simpa using ha,Bool.false_or]
theorem PB{L:List Int}{M:List Bool}(hl:L.length<4611686018427387904)(h:∀ a∈L,0<=a/\a<1024)(hM:M.length=1024):Ji L M=some (EL L M):=by
 unfold Ji
 have key:=DL L (0:Int) (λi (s:List Bool)=>((i:Int),s)) (λ_ s=>s.length=1024) (λs a=>s.set a.toNat true) id (Ku L) (λi s hi hP=>by
  obtain⟨h0,h1⟩:=h _ (Ag (d:=(0:Int)) hi);unfold Ku;simp only[B1 hi,Ah,Aa (Ai hi),Am,w1 (show i<4611686018427387904 by omega)];rw[Aa (show A2 (L.getD i 0) s.length from⟨h0,by omega⟩)]
  exact⟨rfl,by rw[Dd];exact hP⟩) (λs _=>by unfold Ku;simp only[Da,Ax];rfl) M hM
 have k1:Ac (Ku L) ((0:Int),M)=_:=key.1;rw[k1];rfl
section
variable {f:TFunc} {l:Int} (R:Zy f l)
include R
theorem sW{i:Nat}(hi:i<f.Blocks.length){a:Int}(ha:a∈V5 (bA f i)):∃ w∈Bh f,w.V=a:=by
 unfold V5 at ha;rcases zzL12.1 ha with h|h
 ·rcases zzL12.1 h with h|h
  ·obtain⟨p,hp,h⟩:=zzL48.1 h;obtain⟨k,hk,rfl⟩:=G7 hp;obtain⟨j,hj,rfl⟩:=G7 h;refine⟨_,(H1 (Hi R)).2 ⟨i,hi,.inl ⟨k,j,hk,by rw[Ab _ _ _ hk];exact hj,rfl⟩⟩,?_⟩
   show((bA f i).Phis.getD k default).Args.getD j 0=_
   rw[Ab _ _ _ hk,Ab _ _ _ hj]
  ·obtain⟨p,hp,h⟩:=zzL48.1 h;obtain⟨k,hk,rfl⟩:=G7 hp;obtain⟨j,hj,rfl⟩:=G7 h;refine⟨_,(H1 (Hi R)).2 ⟨i,hi,.inr (.inl ⟨k,j,hk,by rw[Ab _ _ _ hk];exact hj,rfl⟩)⟩,?_⟩
   show((bA f i).Ops.getD k default).Args.getD j 0=_
   rw[Ab _ _ _ hk,Ab _ _ _ hj]
 ·split at h
  ·rename_i hK
   rw[zzL16.1 h];rcases hK with hK|hK
   ·exact⟨_,(H1 (Hi R)).2 ⟨i,hi,.inr (.inr (.inl ⟨hK,rfl⟩))⟩,rfl⟩
   ·exact⟨_,(H1 (Hi R)).2 ⟨i,hi,.inr (.inr (.inr ⟨hK,rfl⟩))⟩,rfl⟩
  ·cases h
theorem ir{i:Nat}(hi:i<f.Blocks.length){a:Int}(ha:a∈V5 (bA f i)):1<=a/\a<=1023:=by
 obtain⟨w,hw,rfl⟩:=sW R hi ha;obtain⟨d,hd,e,_⟩:=KB R hw;have:=Yg R hd;rw[e]at this;unfold valS at this
 simpa using this
def VD(f:TFunc):List Bool:=f.Blocks.foldl (λs b=>EL (V5 b) s) (List.replicate 1024 false)
theorem jC(hN:Nw f):Kt f=some (VD f)/\(VD f).length=1024:=by
 have hroom:(1000001:Nat)<=room:=by decide
 have h64:=(shape_iff.1 (Bd R)).1.2
 have hsz:∀ c,c<f.Blocks.length->Ez (bA f c)<=512:=λc hc=>by
  have:=Wp (F:=λb=>Ez (bA f b)) hc;rw[<- My]at this;have:=hN.size;omega
 unfold Kt
 have key:=DL f.Blocks (default:Ae) (λi (s:List Bool)=>((i:Int),s)) (λ_ s=>s.length=1024) (λs b=>EL (V5 b) s) id (Mn f) (λi s hi hP=>by
  have hav:=λa ha=>ir R hi (a:=a) ha;have hz:=hsz i hi;unfold Ez at hz
  have hph:∀ p∈(bA f i).Phis,(∀ a∈p.Args,0<=a/\a<1024)/\p.Args.length<4611686018427387904:=λp hp=>⟨λa ha=>by
   have:=hav a (zzL12.2 (.inl (zzL12.2 (.inl (zzL48.2 ⟨p,hp,ha⟩)))))
   omega,by have:=hN.phi _ (Ag (d:=default) hi) p hp;omega⟩
  have hop:∀ p∈(bA f i).Ops,(∀ a∈p.Args,0<=a/\a<1024)/\p.Args.length<4611686018427387904:=λp hp=>⟨λa ha=>by
   have:=hav a (zzL12.2 (.inl (zzL12.2 (.inr (zzL48.2 ⟨p,hp,ha⟩)))))
   omega,by have:=hN.op _ (Ag (d:=default) hi) p hp;omega⟩
  have k1:=DL (bA f i).Phis (default:A8) (λi (s:List Bool)=>((i:Int),s)) (λ_ s=>s.length=1024) (λs p=>EL p.Args s) id (Ml f (i:Int)) (λk s hk hP=>by
   obtain⟨q1,q2⟩:=hph _ (Ag (d:=(default:A8)) hk);unfold Ml;simp only[Am];rw[B1 hk,Ah,Aa (Ai hk),PB q2 q1 hP,An,Aa (Uy _ _).symm,w1 (show k<4611686018427387904 by omega)]
   exact⟨rfl,by rw[Uy];exact hP⟩) (λs _=>by unfold Ml;simp only[Am];rw[Da];rfl) s hP
  have k1':Ac (Ml f (i:Int)) ((0:Int),s)=some ((bA f i).Phis.foldl (λs p=>EL p.Args s) s):=k1.1
  have k2:=DL (bA f i).Ops (default:Bv) (λi (s:List Bool)=>((i:Int),s)) (λ_ s=>s.length=1024) (λs p=>EL p.Args s) id (Mm f (i:Int)) (λk s hk hP=>by
   obtain⟨q1,q2⟩:=hop _ (Ag (d:=(default:Bv)) hk);unfold Mm;simp only[Am];rw[B1 hk,Ah,Aa (Ai hk),PB q2 q1 hP,An,Aa (Uy _ _).symm,w1 (show k<4611686018427387904 by omega)]
   exact⟨rfl,by rw[Uy];exact hP⟩) (λs _=>by unfold Mm;simp only[Am];rw[Da];rfl) ((bA f i).Phis.foldl (λs p=>EL p.Args s) s) k1.2
  have k2':Ac (Mm f (i:Int)) ((0:Int),(bA f i).Phis.foldl (λs p=>EL p.Args s) s)=some ((bA f i).Ops.foldl (λs p=>EL p.Args s) ((bA f i).Phis.foldl (λs p=>EL p.Args s) s)):=k2.1;have k3:=k2.2
  have hfin:EL (V5 (bA f i)) s=EL (if(bA f i).End.Kind=0\/(bA f i).End.Kind=2 then[(bA f i).End.Arg] else[]) ((bA f i).Ops.foldl (λs p=>EL p.Args s) ((bA f i).Phis.foldl (λs p=>EL p.Args s) s)):=by
   unfold V5;rw[aj,aj,QR,QR]
  unfold Mn;simp only[B1 hi,Ah,Aa (Ai hi),Am,w1 (show i<4611686018427387904 by omega)];rw[k1',An,k2',An]
  generalize hY:(bA f i).Ops.foldl (λs p=>EL p.Args s) ((bA f i).Phis.foldl (λs p=>EL p.Args s) s)=Y at *
  have hYl:Y.length=1024:=k3;have hg:EL (V5 (f.Blocks.getD i default)) s=EL (if(bA f i).End.Kind=0\/(bA f i).End.Kind=2 then[(bA f i).End.Arg] else[]) Y:=hfin;rw[hg]
  by_cases hK:(bA f i).End.Kind=0\/(bA f i).End.Kind=2
  ·have hb:(bif ((f.Blocks.getD i default).End.Kind==0) then true else((f.Blocks.getD i default).End.Kind==2))=true:=by
    rcases hK with h|h
    ·rw[show((f.Blocks.getD i default).End.Kind==0)=true from zzL63.2 h];rfl
    ·rw[show((f.Blocks.getD i default).End.Kind==2)=true from zzL63.2 h];cases((f.Blocks.getD i default).End.Kind==0)<;>rfl
   have ha:=hav (bA f i).End.Arg (zzL12.2 (.inr (by rw[if_pos hK];exact zzL16.2 rfl)));have hc1:=PB (L:=[(bA f i).End.Arg]) (M:=Y) (by show(1:Nat)<_;omega) (λa h=>by rw[zzL16.1 h];omega) hYl;have hc1':Ji [(f.Blocks.getD i default).End.Arg] Y=some (EL [(bA f i).End.Arg] Y):=hc1;rw[hb,Ah,hc1',An,Aa (Uy _ _).symm,if_pos hK];exact⟨rfl,by rw[Uy];exact hYl⟩
  ·have hb:(bif ((f.Blocks.getD i default).End.Kind==0) then true else((f.Blocks.getD i default).End.Kind==2))=false:=by
    rw[show((f.Blocks.getD i default).End.Kind==0)=false from zzL30.2 (λh=>hK (.inl h)),Ax];exact zzL30.2 (λh=>hK (.inr h))
   rw[hb,Ax,if_neg hK]
   exact⟨rfl,hYl⟩) (λs _=>by unfold Mn;simp only[Da,Ax];rfl) (List.replicate 1024 false) (by simp)
 have k0:Ac (Mn f) ((0:Int),List.replicate ((1024:Int)).toNat false)=_:=key.1;rw[Aa ⟨by omega,by omega,by omega⟩,k0,An];exact⟨rfl,key.2⟩
theorem dQ{v:Int}(h0:0<=v)(h1:v<1024):(VD f).getD v.toNat false=Q2 f v:=by
 have key:∀(L:List Ae) (M:List Bool),v.toNat<M.length->(∀ b∈L,∀ a∈V5 b,0<=a)->(L.foldl (λs b=>EL (V5 b) s) M).getD v.toNat false=(M.getD v.toNat false || L.any λb=>(V5 b).contains v):=by
  intro L
  induction L with
  | nil=>intro M h _;simp
  | cons b L ih=>
   intro M h hb;rw[IL,ih _ (by rw[Uy];exact h) (λc hc=>hb c (by simp[hc])),je _ _ h,List.any_cons,Bool.or_assoc]
   congr 2
   rw[Y7,List.any_eq_true,zzL64]
   constructor
   ·rintro⟨a,ha,he⟩;have:=hb b (by simp) a ha
    have he:a.toNat=v.toNat:=by simpa using he
    rw[show v=a by omega];exact ha
   ·intro h;exact⟨v,h,by simp⟩
 unfold VD Q2
 rw[key f.Blocks _ (by rw[N7];omega) (λb hb a ha=>by
  obtain⟨i,hi,rfl⟩:=G7 hb;have:=ir R hi (a:=a) (by rw[show bA f i=f.Blocks[i] from Ab _ _ _ hi];exact ha)
  omega)]
 rw[mE,Bool.false_or]
end
theorem idx_loop{α:Type}{s:List α}{d:α}{keep:α->Bool}{F:Int->Option (LR Int (Unit ⊕ Int))}(hn:∀ i,i<s.length->F (i:Int)=some (bif keep (s.getD i d) then .next (((i+1:Nat):Int)) else .done (.inr (i:Int))))
  (he:F (s.length:Int)=some (.done (.inl ()))):(∃ i,i<s.length/\Ac F (0:Int)=some (.inr (i:Int))/\keep (s.getD i d)=false/\∀ j,j<i->keep (s.getD j d)=true)\/(Ac F (0:Int)=some (.inl ())/\∀ j,j<s.length->keep (s.getD j d)=true):=by
 have key:∀ k i:Nat,i+k=s.length->(∀ j,j<i->keep (s.getD j d)=true)->(∃ m,m<s.length/\Ac F (i:Int)=some (.inr (m:Int))/\keep (s.getD m d)=false/\∀ j,j<m->keep (s.getD j d)=true)\/(Ac F (i:Int)=some (.inl ())/\∀ j,j<s.length->keep (s.getD j d)=true):=by
  intro k
  induction k with
  | zero=>
   intro i h hj
   obtain rfl:i=s.length:=by omega
   exact .inr ⟨Ak he,hj⟩
  | succ k ih=>
   intro i h hj
   have hi:i<s.length:=by omega
   have h1:=hn i hi
   cases hk:keep (s.getD i d) with
   | true=>
    rw[hk,Ah]at h1;rw[Ap h1]
    exact ih (i+1) (by omega) λj hji=>by
     by_cases e:j=i
     ·rw[e];exact hk
     ·exact hj j (by omega)
   | false=>
    rw[hk,Ax]at h1;exact .inl ⟨i,hi,Ak h1,hk,hj⟩
 exact key s.length 0 (by omega) (λj h=>by omega)
theorem GZ{α:Type}{s:List α}{d:α}{keep:α->Bool}{F:Int×Int×List α->Option (LR (Int×Int×List α) (Int×List α))}
  (hn:∀(a i:Nat) (l:List α),i<l.length->a<=i->l.length=s.length->l.getD i d∈s->F ((a:Int),(i:Int),l)=some (.next (bif keep (l.getD i d) then((((a+1:Nat):Int)),(((i+1:Nat):Int)),l.set a (l.getD i d)) else((a:Int),(((i+1:Nat):Int)),l))))
  (he:∀(a:Nat) (l:List α),F ((a:Int),(l.length:Int),l)=some (.done ((a:Int),l))):∀(k a i:Nat) (l:List α),i+k=s.length->a<=i->l.length=s.length->l.drop i=s.drop i->l.take a=(s.take i).filter keep->
   ∃(a':Nat) (l':List α),Ac F ((a:Int),(i:Int),l)=some ((a':Int),l')/\l'.length=s.length/\a'<=s.length/\l'.take a'=s.filter keep
 | 0,a,i,l,h,ha,hl,hd,ht=>by
  obtain rfl:i=l.length:=by omega
  refine⟨a,l,Ak (he a l),hl,by omega,?_⟩;rw[ht,hl,Wx]
 | k+1,a,i,l,h,ha,hl,hd,ht=>by
  have hi:i<l.length:=by omega
  have his:i<s.length:=by omega
  have e1:l.getD i d=s.getD i d:=by
   have h1:(l.drop i)[0]?=(s.drop i)[0]?:=by rw[hd]
   rw[IJ,IJ,Na]at h1;simp only[Wu,h1]
  have hm:l.getD i d∈s:=by rw[e1];exact Ag his
  have h1:=hn a i l hi ha hl hm
  have hst:(s.take (i+1)).filter keep=(s.take i).filter keep++(if keep (l.getD i d)=true then[l.getD i d] else[]):=by
   rw[List.take_add_one,Pz his,Wv,e1,Ab _ _ _ his]
   congr 1
   by_cases hk:keep s[i]=true<;>simp[hk]
  have hdd:∀ m:List α,m.drop i=l.drop i->m.drop (i+1)=s.drop (i+1):=λm hm=>by
   have:=Bk (List.drop 1) (hm.trans hd);rwa[List.drop_drop,List.drop_drop]at this
  cases hk:keep (l.getD i d) with
  | true=>
   rw[hk,Ah]at h1;rw[Ap h1];refine GZ hn he k (a+1) (i+1) _ (by omega) (by omega) (by rw[Dd];exact hl) ?_ ?_
   ·have:=hdd l rfl;rw[<- this]
    apply List.ext_getElem?
    intro n;rw[IJ,IJ,List.getElem?_set_ne (by omega)]
   ·rw[hst,hk,if_pos rfl,<- ht,List.take_add_one,List.take_set_of_le (zzL6 _),List.getElem?_set_self (by omega)]
    rfl
  | false=>
   rw[hk,Ax]at h1;rw[Ap h1];refine GZ hn he k a (i+1) l (by omega) (by omega) hl (hdd l rfl) ?_;rw[hst,hk,if_neg (by simp),List.append_nil];exact ht
theorem cU{α:Type}(l:List α)(a k:Nat)(g:Nat->α):(NY l a k g).take a=l.take a:=by
 apply List.ext_getElem?
 intro n;rw[SS,SS]
 split
 ·rename_i h
  unfold NY;rw[List.getElem?_mapIdx]
  cases l[n]? with
  | none=>rfl
  | some x=>simp;omega
 ·rfl
theorem sg{p:A8}{M:List Bool}{u:Int->Bool}(hM:M.length=1024)(h:0<=p.Dst/\p.Dst<1024)(hu:M.getD p.Dst.toNat false=u p.Dst):Je p M=some (!Tt u p):=by
 unfold Je Tt;rw[Aa (show A2 p.Dst M.length from⟨h.1,by omega⟩),hu]
theorem si{p:Bv}{M:List Bool}{u:Int->Bool}(hM:M.length=1024)(h:0<=p.Dst/\p.Dst<1024)(hu:M.getD p.Dst.toNat false=u p.Dst):Jf p M=some (!S0 u p):=by
 unfold Jf S0;rw[lQ,An,Aa (λ_=>(show A2 p.Dst M.length from⟨h.1,by omega⟩)),hu]
 cases jt p.Kind<;>cases u p.Dst<;>rfl
theorem wP{s:List A8}{M:List Bool}{u:Int->Bool}(hs:s.length<=1000000)(hM:M.length=1024)(h:∀ p∈s,(0<=p.Dst/\p.Dst<1024)/\M.getD p.Dst.toNat false=u p.Dst) :
  ∃ k L,Dn s M=some (k,L)/\L.length=s.length/\k<=s.length/\L.take k=s.filter (Tt u):=by
 have hck:∀ p∈s,Je p M=some (!Tt u p):=λp hp=>sg hM (h p hp).1 (h p hp).2;unfold Dn F2
 rcases idx_loop (s:=s) (d:=(default:A8)) (keep:=Tt u) (F:=C7 s M) (λi hi=>by
   unfold C7;simp only[B1 hi,Ah,Aa (Ai hi),Am,hck _ (Ag hi),An,w1 (show i<4611686018427387904 by omega)]
   cases Tt u (s.getD i default)<;>rfl) (by unfold C7;simp only[Da,Ax]) with⟨i,hi,hl,hno,hyes⟩|⟨hl,hall⟩
 ·rw[hl,An,An]
  have hne:((i:Int)==-1)=false:=by rw[zzL30];omega
  rw[hne,Ax,w1 (show i<4611686018427387904 by omega)]
  have htk:∀ n,n<=i->(s.take n).filter (Tt u)=s.take n:=λn hn=>by
   rw[List.filter_eq_self];intro p hp;obtain⟨j,hj,rfl⟩:=G7 hp;rw[Ww]at hj;have:=hyes j (by omega);rw[Ab _ _ _ (by omega)]at this;rw[List.getElem_take];exact this
  obtain⟨a',l',h1,h2,h3,h4⟩:=GZ (s:=s) (d:=(default:A8)) (keep:=Tt u) (F:=Cx M) (λa k l hk hak hll hm=>by
    unfold Cx;simp only[B1 hk,Ah,Aa (Ai hk),Am,hck _ hm,An,w1 (show k<4611686018427387904 by omega)]
    cases Tt u (l.getD k default) with
    | true=>
     simp only[Ds,J2,Ah];rw[Aa (Ai (show a<l.length by omega)),An,w1 (show a<4611686018427387904 by omega)]
    | false=>
     simp only[Ds,J2,Ax]
     rw[An]) (λa l=>by unfold Cx;simp only[Da,Ax]) (s.length-(i+1)) i (i+1) s (by omega) (by omega) rfl rfl (by
    rw[List.take_add_one,Pz hi,Wv,htk i (zzL6 _)]
    have:Tt u s[i]=false:=by rw[<- Ab _ _ default hi];exact hno
    simp[this])
  have e:((a':Int)).toNat=a':=Am a';rw[h1,An]
  dsimp only
  rw[e,Aa ⟨by omega,by omega⟩,Aa ⟨by omega,by rw[<- Ek];omega⟩];refine⟨_,_,rfl,by rw[<- Ek];exact h2,by omega,?_⟩;rw[E8,cU];exact h4
 ·rw[hl,An,An];refine⟨_,_,rfl,rfl,zzL6 _,?_⟩;rw[Wx,Sx,List.filter_eq_self];intro p hp;obtain⟨j,hj,rfl⟩:=G7 hp;have:=hall j hj;rwa[Ab _ _ _ hj]at this
theorem wQ{s:List Bv}{M:List Bool}{u:Int->Bool}(hs:s.length<=1000000)(hM:M.length=1024)(h:∀ p∈s,(0<=p.Dst/\p.Dst<1024)/\M.getD p.Dst.toNat false=u p.Dst) :
  ∃ k L,D2 s M=some (k,L)/\L.length=s.length/\k<=s.length/\L.take k=s.filter (S0 u):=by
 have hck:∀ p∈s,Jf p M=some (!S0 u p):=λp hp=>si hM (h p hp).1 (h p hp).2;unfold D2 Ft
 rcases idx_loop (s:=s) (d:=(default:Bv)) (keep:=S0 u) (F:=Cy s M) (λi hi=>by
   unfold Cy;simp only[B1 hi,Ah,Aa (Ai hi),Am,hck _ (Ag hi),An,w1 (show i<4611686018427387904 by omega)]
   cases S0 u (s.getD i default)<;>rfl) (by unfold Cy;simp only[Da,Ax]) with⟨i,hi,hl,hno,hyes⟩|⟨hl,hall⟩
 ·rw[hl,An,An]
  have hne:((i:Int)==-1)=false:=by rw[zzL30];omega
  rw[hne,Ax,w1 (show i<4611686018427387904 by omega)]
  have htk:∀ n,n<=i->(s.take n).filter (S0 u)=s.take n:=λn hn=>by
   rw[List.filter_eq_self];intro p hp;obtain⟨j,hj,rfl⟩:=G7 hp;rw[Ww]at hj;have:=hyes j (by omega);rw[Ab _ _ _ (by omega)]at this;rw[List.getElem_take];exact this
  obtain⟨a',l',h1,h2,h3,h4⟩:=GZ (s:=s) (d:=(default:Bv)) (keep:=S0 u) (F:=Df M) (λa k l hk hak hll hm=>by
    unfold Df;simp only[B1 hk,Ah,Aa (Ai hk),Am,hck _ hm,An,w1 (show k<4611686018427387904 by omega)]
    cases S0 u (l.getD k default) with
    | true=>
     simp only[Ds,J2,Ah];rw[Aa (Ai (show a<l.length by omega)),An,w1 (show a<4611686018427387904 by omega)]
    | false=>
     simp only[Ds,J2,Ax]
     rw[An]) (λa l=>by unfold Df;simp only[Da,Ax]) (s.length-(i+1)) i (i+1) s (by omega) (by omega) rfl rfl (by
    rw[List.take_add_one,Pz hi,Wv,htk i (zzL6 _)]
    have:S0 u s[i]=false:=by rw[<- Ab _ _ default hi];exact hno
    simp[this])
  have e:((a':Int)).toNat=a':=Am a';rw[h1,An]
  dsimp only
  rw[e,Aa ⟨by omega,by omega⟩,Aa ⟨by omega,by rw[<- Ek];omega⟩];refine⟨_,_,rfl,by rw[<- Ek];exact h2,by omega,?_⟩;rw[E8,cU];exact h4
 ·rw[hl,An,An];refine⟨_,_,rfl,rfl,zzL6 _,?_⟩;rw[Wx,Sx,List.filter_eq_self];intro p hp;obtain⟨j,hj,rfl⟩:=G7 hp;have:=hall j hj;rwa[Ab _ _ _ hj]at this
section
variable {f:TFunc} {l:Int} (R:Zy f l) (hN:Nw f)
include R hN
theorem lI : Jk f (VD f) = some (Ts f) := by
  have hroom : (1000001 : Nat) ≤ room := by decide
  have h64 := (shape_iff.1 (Bd R)).1.2; have hM := (jC R hN).2
  have hsz : ∀ c, c < f.Blocks.length → Ez (bA f c) ≤ 512 := fun c hc => by
    have := Wp (F := fun b => Ez (bA f b)) hc; rw [← My] at this; have := hN.size; omega
  unfold Jk
  have key := DL f.Blocks (default : Ae) (fun i (s : List Ae) => ((i : Int), s)) (fun i s => s.length = i) (fun s b => s ++ [PH (Tt (Q2 f)) (S0 (Q2 f)) b]) id (Kz f (VD f)) (fun i s hi hP => by
    have hz := hsz i hi; unfold Ez at hz
    have hd1 : ∀ p ∈ (f.Blocks.getD i default).Phis, (0 ≤ p.Dst ∧ p.Dst < 1024) ∧ (VD f).getD p.Dst.toNat false = Q2 f p.Dst := fun p hp => by
      obtain ⟨k, hk, rfl⟩ := G7 hp; have := Yg R (d := ⟨((bA f i).Phis.getD k default).Dst, i, -1, (((bA f i).Phis.getD k default).Bits, 1)⟩) (ri_def.2 (.inr ⟨i, hi, .inl ⟨k, hk, rfl⟩⟩)); rw [Ab _ _ _ hk] at this; have := IG this
      have h1 : valS ((f.Blocks.getD i default).Phis[k]).Dst = true := by assumption
      unfold valS at h1; simp only [A6, Gr] at h1; exact ⟨by omega, dQ R (by omega) (by omega)⟩
    have hd2 : ∀ p ∈ (f.Blocks.getD i default).Ops, (0 ≤ p.Dst ∧ p.Dst < 1024) ∧ (VD f).getD p.Dst.toNat false = Q2 f p.Dst := fun p hp => by
      have hm := Hi R _ (Ag (d := default) hi) p hp; have hd := (Xv hm).2.2.2.2.2.2
      have : 0 ≤ p.Dst ∧ p.Dst < 1024 := by
        unfold dstS at hd
        cases hc : (p.Kind == 17 || p.Kind == 19) with
        | true => rw [hc] at hd; have : p.Dst = 0 := by simpa using hd
                  omega
        | false =>
          rw [hc] at hd; have h1 : valS p.Dst = true := hd; unfold valS at h1; simp only [A6, Gr] at h1; omega
      exact ⟨this, dQ R this.1 this.2⟩
    have hz' : (f.Blocks.getD i default).Phis.length + (f.Blocks.getD i default).Ops.length + 1 ≤ 512 := hz; obtain ⟨k1, L1, a1, a2, a3, a4⟩ := wP (s := (f.Blocks.getD i default).Phis) (by omega) hM hd1; obtain ⟨k2, L2, b1, b2, b3, b4⟩ := wQ (s := (f.Blocks.getD i default).Ops) (by omega) hM hd2
    have cl1 : Cn (f.Blocks.getD i default).Phis = some (f.Blocks.getD i default).Phis := by unfold Cn; rw [Aa (by omega)]
    have cl2 : C8 (f.Blocks.getD i default).Ops = some (f.Blocks.getD i default).Ops := by unfold C8; rw [Aa (by omega)]
    unfold Kz; simp only [B1 hi, Ah, Aa (Ai hi), Am, w1 (show i < 4611686018427387904 by omega)]; rw [cl1, An, a1, An]
    dsimp only
    rw [Aa (by omega), Aa a2.symm, cl2, An, b1, An]
    dsimp only
    rw [Aa (by omega), Aa b2.symm, Ad (by show s.length + 1 ≤ room; omega), a4, b4]
    exact ⟨rfl, by rw [Fh, hP]; rfl⟩) (fun s _ => by unfold Kz; simp only [Da, Ax]; rfl) [] rfl
  have k0 : Ac (Kz f (VD f)) ((0 : Int), ([] : List Ae)) = _ := key.1; rw [k0, An]
  have e : ∀ (L s : List Ae), L.foldl (fun s b => s ++ [PH (Tt (Q2 f)) (S0 (Q2 f)) b]) s = s ++ L.map (PH (Tt (Q2 f)) (S0 (Q2 f))) := fun L => by
    induction L with
    | nil => intro s; simp
    | cons b L ih => intro s; rw [IL, ih]; simp
  dsimp only [id]
  rw [e, Y8]; rfl
end
theorem oS{f:TFunc}(hN:Nw f):Hb f=some ((sizeN f:Nat):Int):=by
 have:=hN.size;rw[vD f hN.inf];unfold sizeW;rw[U9 (by omega)]
theorem WI{l:Int}:∀(n:Nat) (f:TFunc),Zy f l->Nw f->sizeN f<=n->Ac Nu (f.Params,f.Ret,f.Blocks)=some (Sz n f)
 | 0,f,R,hN,hn=>by
  have h0:=(shape_iff.1 (Bd R)).1.1;have:=Wp (F:=λb=>Ez (bA f b)) (i:=0) (n:=f.Blocks.length) (by omega);rw[<- My]at this;unfold Ez at this;omega
 | n+1,f,R,hN,hn=>by
  have hs:=Bd R;have h64:=(shape_iff.1 hs).1.2;obtain⟨R',hN'⟩:=jJ R (jK f) hN
  have hF:Nu (f.Params,f.Ret,f.Blocks)=some (bif decide (((sizeN (Ts f):Nat):Int)<((sizeN f:Nat):Int)) then .next ((Ts f).Params,(Ts f).Ret,(Ts f).Blocks) else .done f):=by
   unfold Nu
   show(Kt f).bind _=_
   rw[(jC R hN).1,An]
   show(Jk f (VD f)).bind _=_
   rw[lI R hN,An,oS (show Nw (Ts f) from hN'),An]
   show(Hb f).bind _=_
   rw[oS hN,An]
   cases decide (((sizeN (Ts f):Nat):Int)<((sizeN f:Nat):Int))<;>rfl
  unfold Sz
  split
  ·rename_i h
   rw[Co (by omega),Ah]at hF;rw[Ap hF];exact WI n (Ts f) R' hN' (by omega)
  ·rename_i h
   rw[Ce (by omega),Ax]at hF;exact Ak hF
def cV(f:TFunc):TFunc:=if D8 f 2=0 then Sz (sizeN f) f else f
theorem oI{f:TFunc}(h:Sm f)(hN:D8 f 2=0->Nw f):R9 f=some (cV f):=by
 unfold R9 cV;rw[jE h,An]
 by_cases e:D8 f 2=0
 ·have R:Zy f 2:=(Yf (by omega)).1 e;have key:=WI (sizeN f) f R (hN e) (zzL6 _);have hF:((Kt f).bind λx5=>((Jk f x5).bind λx6=>((Hb x6).bind λx7=>((Hb f).bind λx8=>(bif (decide ((x7:Int)<x8)) then(some (.next (x6.Params,x6.Ret,x6.Blocks))) else(some (.done f)))))):Option (LR (List Int×Int×List Ae) TFunc))=Nu (f.Params,f.Ret,f.Blocks):=rfl;rw[if_pos e,Co e,Ds,Ax,hF];rw[<- MI]at key;rw[key];rfl
 ·rw[if_neg e,Ce e];rfl
def DY(f:TFunc):TFunc:=cV (RF f)
theorem uv{f:TFunc}(h:Sm f)(hN:D8 f 2=0->Nw f):Ro f=some (DY f):=by
 unfold Ro DY;rw[yo h hN,An]
 by_cases e:D8 f 2=0
 ·have R:Zy f 2:=(Yf (by omega)).1 e;obtain⟨a,b,_⟩:=OG f.Blocks.length f R (hN e) (zzL6 _)
  have e1:RF f=T6 f.Blocks.length f:=by unfold RF;rw[if_pos e]
  rw[e1,oI (dT b) (λ_=>b)];rfl
 ·have e1:RF f=f:=by unfold RF;rw[if_neg e]
  rw[e1,oI h hN];rfl
theorem lV:m_locksteplaw16_awake=some true:=by kernel_rfl
theorem bL{f:TFunc}(hf:VY f):Ac (Ch f) ((0:Int),(0:Int))=some (sizeW f):=by
 have hl:=DJ f.Blocks (default:Ae) Ez id (Ch f) (λn i hi=>by
   have e1:decide ((i:Int)<(f.Blocks.length:Int))=true:=by simpa using hi
   unfold Ch;simp only[e1,Ah,Aa (Ai hi),C9,K4 hi hf.blocks]
   congr 3
   rw[U8,U8,Int.add_assoc (w64 _),U8];unfold Ez
   congr 1
   omega) (λn=>by
   unfold Ch
   simp) f.Blocks.length 0 0 (E8 _)
 rw[N9]at hl;rw[show w64 ((0:Nat):Int)=0 from rfl,show((0:Nat):Int)=0 from rfl]at hl;rw[hl];simp[sizeN,sizeW]
theorem pR{f:TFunc}(hf:VY f):∃ b,Ea f=some b/\(b=true->Sm f/\(Qv f=true->f.Blocks.length<=16)):=by
 obtain⟨b,h1,h2⟩:=lb hf;refine⟨b,h1,λhb=>⟨h2 hb,λhm=>?_⟩⟩;unfold Ea at h1;rw[bL hf,An]at h1;obtain⟨y,hy,h1⟩:=bind_some h1;have h3:=OI h1;rw[hb]at h3;unfold Qv at hm;simp only[A6,Gr]at hm;obtain⟨⟨⟨⟨⟨⟨_,g1⟩,_⟩,_⟩,_⟩,g2⟩,_⟩:=hm;rw[Ce (show ¬ (512:Int)<sizeW f by omega),Ce (show ¬ ((64:Int):Int)<(f.Blocks.length:Int) by omega)]at h3
 by_cases hn:(f.Blocks.length:Int)<=16
 ·omega
 ·rw[Ce hn]at h3
  revert h3
  cases y<;>simp
theorem lk{k n:Int}(hn:n<=16):Sb k n<=16:=by
 unfold Sb
 cases k==0<;>cases(k==13 || k==18 || k==19)<;>cases(k==14 || k==15 || k==16 || k==22)<;>cases k==20<;>cases k==21<;>simp only[Ah,Ax]<;>omega
theorem ld{o:Bv}(h:Gs o=true):o.Args.length<=16:=by
 simp only[Gs,A6,zzL63]at h;have h1:=h.1.2.2;have h2:=lk (k:=o.Kind) (n:=o.Lanes) (by rcases shape_lanes h.1.1 with e|e|e|e|e<;>omega);omega
theorem zH{f:TFunc}(hs:Sm f)(h16:Qv f=true->f.Blocks.length<=16){l:Int}(R:Zy f l):Nw f:=by
 have hn:=h16 R.may;have hsh:=Bd R;obtain⟨sm,hsm,hp⟩:=MK f hs.1;rw[hs.2]at hsm;obtain⟨_,hsz,_⟩:=hp (OI hsm).symm R.may
 have hi:∀ b∈f.Blocks,∃ i,i<f.Blocks.length/\bA f i=b:=λb hb=>by
  obtain⟨i,hi,he⟩:=G7 hb;exact⟨i,hi,by unfold bA;rw[Ab _ _ _ hi];exact he⟩
 have hm:=mayF_iff.1 R.may;refine⟨hs.1,by omega,λb hb=>?_,λb hb p hp=>?_,λb hb o ho=>ld (vA R hb ho),hsz⟩
 ·obtain⟨i,hi',rfl⟩:=hi b hb;have h3:Kb (bA f i).End f.Blocks.length=true:=(shape_iff.1 hsh).2 i hi';unfold Kb Yv at h3;simp only[A6,Gr]at h3;have h4:(((bA f i).End.To.length:Nat):Int)=CB (bA f i).End.Kind:=h3.1.2
  have h5:∀ k:Nat,([0,1,2,0]:List Int).getD k 0<=2:=λk=>by
   match k with
   | 0=>decide
   | 1=>decide
   | 2=>decide
   | 3=>decide
   | k+4=>simp
  have h5:CB (bA f i).End.Kind<=2:=h5 _;omega
 ·obtain⟨i,hi',rfl⟩:=hi b hb;obtain⟨e,h2⟩:=Td R hi' hp
  have hl:(prF f i).length<=f.Blocks.length:=by
   unfold prF;rw[DP (by rw[Lw];exact hi')];unfold J5;rw[Dz];have:=List.length_filter_le (λk=>Yu (A1 f) k i) (List.range (A1 f).length);rw[Vb]at this;rw[Lw]at this ⊢;exact this
  rw[e]at h2 ⊢;omega
theorem ot{f g:TFunc}(hl:g.Blocks.length=f.Blocks.length)(hr:A1 g=A1 f)(he:∀ i,(bA g i).End=(bA f i).End):Qg g=Qg f:=by
 unfold Qg;rw[hl]
 congr 1
 funext i
 unfold ck mM prF;rw[he,hr]
theorem kz{f:TFunc}{l:Int}(R2:Zy f 2)(R:Zy f l)(hN:Nw f):Zy (DY f) l/\Zy (DY f) 2/\Nw (DY f)/\Qg (DY f)=none/\sizeN (DY f)<=sizeN (Ts (DY f))/\(DY f).Blocks.length<=f.Blocks.length/\sizeN (DY f)<=sizeN f:=by
 have hc:D8 f 2=0:=(Yf (by omega)).2 R2
 have e1:RF f=T6 f.Blocks.length f:=by unfold RF;rw[if_pos hc]
 obtain⟨a,b,c,d,e⟩:=OG f.Blocks.length f R hN (zzL6 _);obtain⟨a2,_⟩:=OG f.Blocks.length f R2 hN (zzL6 _);have hc2:D8 (T6 f.Blocks.length f) 2=0:=(Yf (by omega)).2 a2
 have e2:DY f=Sz (sizeN (T6 f.Blocks.length f)) (T6 f.Blocks.length f):=by unfold DY;rw[e1];unfold cV;rw[if_pos hc2]
 rw[e2];obtain⟨d1,d2,d3,d4,d5,d6,d7⟩:=PI (sizeN (T6 f.Blocks.length f)) (T6 f.Blocks.length f) a b (zzL6 _);obtain⟨d1',_⟩:=PI (sizeN (T6 f.Blocks.length f)) (T6 f.Blocks.length f) a2 b (zzL6 _);exact⟨d1,d1',d2,(ot d4 d6 d7).trans c,d3,by omega,by omega⟩
theorem tm{g:TFunc}(h:Qg g=none)(n:Nat):T6 n g=g:=by
 cases n with
 | zero=>rfl
 | succ n=>unfold T6;rw[h]
theorem oc{g:TFunc}(h:sizeN g<=sizeN (Ts g))(n:Nat):Sz n g=g:=by
 cases n with
 | zero=>rfl
 | succ n=>unfold Sz;rw[if_neg (by omega)]
theorem sU{g:TFunc}(h1:Qg g=none)(h2:sizeN g<=sizeN (Ts g)):DY g=g:=by
 have e1:RF g=g:=by unfold RF;split<;>first|exact tm h1 _|rfl
 unfold DY;rw[e1];unfold cV
 split<;>first|exact oc h2 _|rfl
theorem pr{f:TFunc}(hN:Nw f):Ew f=some ((sizeN f:Nat):Int):=by
 have:=hN.size;rw[eE f hN.inf];unfold sizeW;rw[U9 (by omega)]
theorem zE{f:TFunc}{lv:Int}(hf:VY f){K:Option Bool}(hl:0<=lv/\lv<=2\/True)(hK:Sm f->D8 f lv=0->(Qv f=true->f.Blocks.length<=16)->K=some true) :
  ((Ea f).bind λx2=>((bif ((!x2)==false) then D9 f lv else some (0:Int)).bind λx3=>(bif (bif (!x2) then true else((x3:Int)!=(0:Int))) then(some true) else K)))=some true:=by
 obtain⟨b,hb,hsm⟩:=pR hf;rw[hb,An]
 cases b with
 | false=>rfl
 | true=>
  obtain⟨hs,h16⟩:=hsm rfl;rw[Ds,show((false:Bool)==false)=true from rfl,Ah,dE hs,An,Ax]
  cases hck:(D8 f lv !=0) with
  | true=>rfl
  | false=>
   have h0:D8 f lv=0:=by unfold bne at hck;simpa using hck
   rw[Ax];exact hK hs h0 h16
theorem tI{f:TFunc}{lv:Int}(h:D8 f lv=0):(0<=lv/\lv<=2)/\Zy f lv/\Zy f 2:=by
 have hl:0<=lv/\lv<=2:=by
  apply SO
  intro hh;unfold D8 at h
  have:(decide (lv<0) || decide (2<lv))=true:=by
   by_cases h1:lv<0
   ·rw[Co h1];rfl
   ·rw[Co (show 2<lv by omega)];simp
  rw[this,Ah]at h;exact absurd h (by decide)
 have R:=(Yf hl).1 h;refine⟨hl,R,R.may,R.shape,?_,R.rest⟩;have ht:=R.typed;simp only[M3,E9,A6,zzL26]at ht ⊢;refine⟨⟨ht.1.1,λb hb=>⟨(ht.1.2 b hb).1,λo ho=>?_⟩⟩,ht.2⟩;have h1:=(ht.1.2 b hb).2 o ho;have hm:=Wr h1;have hk:=wj (Xv hm).2.1;unfold K2;rw[hm,show HK 2=22 from rfl,Ce (show ¬ (22:Int)<o.Kind by omega),Ce (show ¬ (2:Int)<2 by omega)]
 rfl
theorem right16(f:TFunc)(lv:Int)(hf:VY f):J4 f lv=some true:=by
 unfold J4;rw[lV,An,Ds,Ax];refine zE hf (.inr trivial) λhs h0 h16=>?_;obtain⟨hl,R,R2⟩:=tI h0;have hN:=zH hs h16 R;obtain⟨a,a2,b,c,d,e,g⟩:=kz R2 R hN;have hcl:D8 (DY f) lv=0:=(Yf hl).2 a;rw[uv hs (λ_=>hN),An,jA _ lv (dT b),An,hcl];rw[show((0:Int)==0)=true from rfl,show((true:Bool)==true)=true from rfl,Ah,pr b,An,Ah,pr hN,An,Ah,Co (show((sizeN (DY f):Nat):Int)<=((sizeN f:Nat):Int) by omega)];rw[show((true:Bool)==true)=true from rfl,Ah,uv (dT b) (λ_=>b),An,sU c d,Ah,qF _ _ b.inf,An,Ah,Co rfl]
end
end Go.Proofs.YtfhggcbcamamdaaGreat
