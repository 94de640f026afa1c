/-
  The machine, the program's functions and the laws' arithmetic: part 5 of 6.
-/
import Derived.Test.YthelaonnkkpbfaaGreatPk4
import Derived.Lib.RowBridge
set_option linter.unusedSectionVars false
set_option linter.unusedVariables false
set_option linter.unusedSimpArgs false
namespace Go.Proofs.YthelaonnkkpbfaaGreat
noncomputable section
open Go Go.RowKit
variable {f:AI}{n i j:Nat}{l:List Int}{b:Ab}{α:Type}{x:Int}{L:List (List Int)}
def numB(n:Int):Bool:=decide (0<=n)&&decide (n<=2147483647)
def listB(l:List Int):Bool:=l.all numB&&decide (l.length<=64)
def KF(p:A8):Bool:=numB p.Bits&&numB p.Dst&&listB p.From&&listB p.Args
def jC(o:A0):Bool:=numB o.Kind&&numB o.Bits&&numB o.Lanes&&numB o.Dst&&listB o.Args
def j6(e:Ny):Bool:=numB e.Kind&&numB e.Arg&&listB e.To
def blockB(b:Ab):Bool:=b.Phis.all KF&&b.Ops.all jC&&j6 b.End
def Wt(b:Ab):Nat:=b.Phis.length+b.Ops.length+1
def Ts(f:AI):Nat:=(f.Blocks.map Wt).sum
def sizeW(f:AI):Int:=w64 (Ts f)
def R6(f:AI):Bool:=decide (1<=f.Blocks.length)&&decide (f.Blocks.length<=64)&&decide (f.Params.length<=16)&&listB f.Params&&numB f.Ret&&decide (sizeW f<=512)&&f.Blocks.all blockB
def fy(p:A8):Nat:=1+p.From.length+p.Args.length
def fx(o:A0):Nat:=1+o.Args.length
def ZW(b:Ab):Nat:=1+b.End.To.length+(b.Phis.map fy).sum+(b.Ops.map fx).sum
def j7(f:AI):Nat:=f.Params.length+(f.Blocks.map ZW).sum
theorem V3:maxLen=9223372036854775807:=rfl
structure ZJ(f:AI):Prop where
 params:f.Params.length<=maxLen
 blocks:f.Blocks.length<=maxLen
 block:∀ b∈f.Blocks,b.Phis.length<=maxLen/\b.Ops.length<=maxLen/\b.End.To.length<=maxLen
 phi:∀ b∈f.Blocks,∀ p∈b.Phis,p.From.length<=maxLen/\p.Args.length<=maxLen
 op:∀ b∈f.Blocks,∀ o∈b.Ops,o.Args.length<=maxLen/\0<=o.Imm/\o.Imm<18446744073709551616
theorem inF(h:okTFunc f):ZJ f:=
 ⟨h.1.2,h.2.2.1.2,λb hb=>⟨(h.2.2.1.1 b hb).1.2,(h.2.2.1.1 b hb).2.1.2,(h.2.2.1.1 b hb).2.2.1.2.2.1.2⟩,λb hb p hp=>⟨((h.2.2.1.1 b hb).1.1 p hp).2.2.1.2,((h.2.2.1.1 b hb).1.1 p hp).2.2.2.1.2⟩,
  λb hb o ho=>⟨((h.2.2.1.1 b hb).2.1.1 o ho).2.2.2.2.1.2,Acd ((h.2.2.1.1 b hb).2.1.1 o ho).2.2.2.2.2.1⟩⟩
theorem MY(h:n<9223372036854775808):w64 (n:Int)=n:=F1 (by omega) (by omega)
theorem Me(h:i<n)(hn:n<=maxLen):w64 ((i:Int)+1)=((i+1:Nat):Int):=by rw[V3]at hn;rw[show((i:Int)+1)=(i+1:Nat) by omega,MY (by omega)]
theorem WT(f:AI)(hf:ZJ f):∃ b,Dc f=some b:=by
 have h3:∃ x,Ae (C6 f) (f.Params.length,(0:Nat))=some x:=by
  refine V9 f.Blocks.length _ (λn i hi=>?_) (λn=>?_) _ 0 _ (Ke _)
  ·have ab3:=Ag (d:=default) hi;obtain⟨b1,b2,_⟩:=hf.block _ ab3;have hI :=Ai hi;unfold C6
   cases hc:(bif decide (i<(f.Blocks.length:Int)) then decide (n<=20000) else false) with
   | false=>right;simp only[hc];exact⟨_,rfl⟩
   | true=>
    left
    simp only[hc, Aa hI]
    obtain⟨x1,h1⟩:=V9 (f.Blocks.getD i default).Phis.length (C4 f i) (λn j hj=>by
      unfold C4;simp only[Aa hI,Dn]
      cases hc:(bif decide (j<((f.Blocks.getD i default).Phis.length:Int)) then decide (n<=20000) else false) with
      | false=>grind
      | true=>left;simp only[ Aa (Ai hj),Me hj b1];exact⟨_,rfl⟩) (λn=>by
      unfold C4;simp only[Aa hI,Dn]
      have:decide ((f.Blocks.getD i default).Phis.length<((f.Blocks.getD i default).Phis.length:Int))=false:=by simp
      simp only[this];exact⟨_,rfl⟩) _ 0 (w64 (w64 (n+1)+(f.Blocks.getD i default).End.To.length)) (Ke _)
    obtain⟨x2,h2⟩:=V9 (f.Blocks.getD i default).Ops.length (C5 f i) (λn j hj=>by
      unfold C5;simp only[Aa hI,Dn]
      cases hc:(bif decide (j<((f.Blocks.getD i default).Ops.length:Int)) then decide (n<=20000) else false) with
      | false=>grind
      | true=>left;simp only[ Aa (Ai hj),Me hj b2];exact⟨_,rfl⟩) (λn=>by
      unfold C5;simp only[Aa hI,Dn]
      have:decide ((f.Blocks.getD i default).Ops.length<((f.Blocks.getD i default).Ops.length:Int))=false:=by simp
      simp only[this];exact⟨_,rfl⟩) _ 0 x1 (Ke _)
    rw[show((0:Nat):Int)=0 from rfl]at h1 h2;simp only[Dn,h1,h2,Am,Me hi hf.blocks];exact⟨_,rfl⟩
  ·unfold C6
   have:decide ((f.Blocks.length:Int)<(f.Blocks.length:Int))=false:=by simp
   simp only[this];exact⟨_,rfl⟩
 obtain⟨x,hx⟩:=h3;unfold Dc;rw[show((0:Nat):Int)=0 from rfl]at hx;rw[hx];exact⟨_,rfl⟩
theorem iY(f:AI)(hf:ZJ f)(h0:f.Params.length<=64)(hb:∀ b∈f.Blocks,b.End.To.length<=64/\(∀ p∈b.Phis,p.From.length<=64/\p.Args.length<=64)/\∀ o∈b.Ops,o.Args.length<=64):Dc f=some (decide (j7 f<=20000)):=by
 have h3:=LZ f.Blocks (default:Ab) ZW 20000 (C6 f) (λn i hi hn=>by
   have ab3:=Ag (d:=(default:Ab)) hi;obtain⟨b1,b2,b3⟩:=hf.block _ ab3;obtain⟨hTo,hPh,hOp⟩:=hb _ ab3;have hI1:As (i:Int) f.Blocks.length:=Ai hi
   have l1:=LZ (f.Blocks.getD i default).Phis (default:A8) fy 20000 (C4 f i) (λn j hj hn=>by
     have hm:=Ag (d:=(default:A8)) hj;obtain⟨p1,p2⟩:=hPh _ hm
     have e1:decide ((j:Int)<((f.Blocks.getD i default).Phis.length:Int))=true:=by simpa using hj
     have e2:decide ((n:Int)<=20000)=true:=by simp;omega
     refine⟨n+fy ((f.Blocks.getD i default).Phis.getD j default),?_,λ_=>rfl,λh=>h⟩;unfold C4;simp only[Aa hI1,Dn,e1,e2,Ah,Aa (Ai hj),Me hj b1]
     congr 3
     rw[F1 (n:=(n:Int)+1) (by omega) (by omega),F1 (n:=(n:Int)+1+_) (by omega) (by omega),F1 (by omega) (by omega)];simp only[fy]
     omega) (λn j hj hd=>by
     unfold C4;simp only[Aa hI1,Dn]
     have:(bif decide ((j:Int)<((f.Blocks.getD i default).Phis.length:Int)) then decide ((n:Int)<=20000) else false)=false:=by
      rcases hd with rfl|h
      ·simp
      ·simp;omega
     rw[this];rfl)
   have l2:=LZ (f.Blocks.getD i default).Ops (default:A0) fx 20000 (C5 f i) (λn j hj hn=>by
     have hm:=Ag (d:=(default:A0)) hj;have p1:=hOp _ hm
     have e1:decide ((j:Int)<((f.Blocks.getD i default).Ops.length:Int))=true:=by simpa using hj
     have e2:decide ((n:Int)<=20000)=true:=by simp;omega
     refine⟨n+fx ((f.Blocks.getD i default).Ops.getD j default),?_,λ_=>rfl,λh=>h⟩;unfold C5;simp only[Aa hI1,Dn,e1,e2,Ah,Aa (Ai hj),Me hj b2]
     congr 3
     rw[F1 (n:=(n:Int)+1) (by omega) (by omega),F1 (by omega) (by omega)];simp only[fx]
     omega) (λn j hj hd=>by
     unfold C5;simp only[Aa hI1,Dn]
     have:(bif decide ((j:Int)<((f.Blocks.getD i default).Ops.length:Int)) then decide ((n:Int)<=20000) else false)=false:=by
      rcases hd with rfl|h
      ·simp
      ·simp;omega
     rw[this];rfl)
   have e1:decide ((i:Int)<(f.Blocks.length:Int))=true:=by simpa using hi
   have e2:decide ((n:Int)<=20000)=true:=by simp;omega
   obtain⟨m1,q1,q2,q3⟩:=l1 _ 0 (n+1+(f.Blocks.getD i default).End.To.length) (Ke _);obtain⟨m2,q4,q5,q6⟩:=l2 _ 0 m1 (Ke _);rw[Rz]at q2 q3 q5 q6;refine⟨m2,?_,λhle=>?_,λhle=>?_⟩
   ·unfold C6;simp only[e1,e2,Ah,Aa hI1,Dn,Me hi hf.blocks];rw[F1 (n:=(n:Int)+1) (by omega) (by omega),F1 (by omega) (by omega),show(n:Int)+1+((f.Blocks.getD i default).End.To.length:Int)=((n+1+(f.Blocks.getD i default).End.To.length:Nat):Int) by omega];rw[show((0:Nat):Int)=0 from rfl]at q1 q4;rw[q1,Am,q4,Am]
   ·simp only[ZW]at hle ⊢;have:=q2 (by omega);rw[q5 (by omega)];omega
   ·simp only[ZW];have h6:=q6 hle;have h3:=q3 (by omega);have:=q2 h3
    omega) (λn i hi hd=>by
   unfold C6
   have:(bif decide ((i:Int)<(f.Blocks.length:Int)) then decide ((n:Int)<=20000) else false)=false:=by
    rcases hd with rfl|h
    ·simp
    ·simp;omega
   simp only[this,Ar]) f.Blocks.length 0 f.Params.length (Ke _)
 obtain⟨m,h1,h2,h4⟩:=h3;rw[Rz]at h2 h4;unfold Dc;rw[show((0:Nat):Int)=0 from rfl]at h1;rw[h1,Am]
 congr 1
 apply zzL83.2
 simp only[j7]
 constructor
 ·intro h;exact h4 (by omega)
 ·intro h;have:=h2 h;omega
theorem Xy(n:Int):Bz n=some (numB n):=by unfold Bz numB;cases decide (0<=n)<;>rfl
theorem Uv(l:List Int)(h:l.length<=maxLen):Dr l=some (listB l):=by
 unfold Dr;rw[V3]at h
 have af1:=Hx l 0 numB (Gi l) (.inl ()) (.inr false) (λi hi hp=>by
   unfold Gi
   have:decide (i<(l.length:Int))=true:=by simpa using hi
   simp only[this,Ah,Aa (Ai hi),Dn,Xy,Am,hp,D3,Ar,Bd hi (by omega)]) (λi hi hp=>by
   unfold Gi
   have:decide (i<(l.length:Int))=true:=by simpa using hi
   simp only[this,Ah,Aa (Ai hi),Dn,Xy,Am,hp,Mq]) (by
   unfold Gi
   simp) l.length 0 (by omega)
 rw[show(0:Int)=(0:Nat) from rfl,af1,Rz];unfold listB
 have e:decide ((l.length:Int)<=64)=decide (l.length<=64):=by grind
 cases l.all _
 ·rfl
 ·simp[e]
theorem uH(f:AI)(hf:ZJ f):L2 f=some (sizeW f):=by
 unfold L2
 have hl:=HT _ default Wt id (I9 f) (λn i hi=>by
   have e1:decide ((i:Int)<f.Blocks.length)=true:=by simpa using hi
   unfold I9;simp only[e1,Ah,Aa (Ai hi),Dn,Me hi hf.blocks]
   congr 3
   rw[X1,X1,Int.add_assoc _,X1];unfold Wt
   congr 1
   omega) (λn=>by
   unfold I9
   simp) _ 0 0 (Ke _)
 rw[show w64 _=0 from rfl,show((0:Nat):Int)=0 from rfl]at hl;rw[hl];simp[Ts,sizeW]
theorem bJ{p q:Bool}:(bif p then true else q)=(p || q):=by cases p<;>rfl
theorem nQ(f:AI)(hf:ZJ f):Hk f=some (R6 f):=by
 have af1:Ae (E5 f) ((0:Nat):Int)=some (bif (f.Blocks.drop 0).all blockB then .inl () else .inr false):=by
  have step:∀ i:Nat,i<f.Blocks.length->E5 f (i:Int)=bif blockB (f.Blocks.getD i default) then some (.next ((i:Int)+1)) else some (.done (.inr false)):=λi hi=>by
   have ab3:=Ag (d:=(default:Ab)) hi;obtain⟨b1,b2,b3⟩:=hf.block _ ab3;have hPh:=hf.phi _ ab3;have hOp:=hf.op _ ab3;have hM:=V3
   have e0:decide ((i:Int)<(f.Blocks.length:Int))=true:=by simpa using hi
   have l1:=Hx (f.Blocks.getD i default).Phis (default:A8) KF (G7 f i) (.inl ()) (.inr false) (λj hj hp=>by
     obtain⟨p1,p2⟩:=hPh _ (Ag (d:=(default:A8)) hj)
     have e1:decide ((j:Int)<((f.Blocks.getD i default).Phis.length:Int))=true:=by simpa using hj
     unfold G7;simp only[e1,Ah,Dn,Aa (Ai hj),Xy,Am,Uv _ p1,Uv _ p2,Bd hj (by omega)]
     revert hp
     unfold KF
     cases numB ((f.Blocks.getD i default).Phis.getD j default).Bits<;>cases numB ((f.Blocks.getD i default).Phis.getD j default).Dst<;>cases listB ((f.Blocks.getD i default).Phis.getD j default).From<;>cases listB ((f.Blocks.getD i default).Phis.getD j default).Args<;>simp) (λj hj hp=>by
     obtain⟨p1,p2⟩:=hPh _ (Ag (d:=(default:A8)) hj)
     have e1:decide ((j:Int)<((f.Blocks.getD i default).Phis.length:Int))=true:=by simpa using hj
     unfold G7;simp only[e1,Ah,Dn,Aa (Ai hj),Xy,Am,Uv _ p1,Uv _ p2,Bd hj (by omega)]
     revert hp
     unfold KF
     cases numB ((f.Blocks.getD i default).Phis.getD j default).Bits<;>cases numB ((f.Blocks.getD i default).Phis.getD j default).Dst<;>cases listB ((f.Blocks.getD i default).Phis.getD j default).From<;>cases listB ((f.Blocks.getD i default).Phis.getD j default).Args<;>simp) (by
     unfold G7
     simp) _ 0 (Ke _)
   have l2:=Hx (f.Blocks.getD i default).Ops (default:A0) jC (G8 f i) (.inl ()) (.inr false) (λj hj hp=>by
     obtain⟨p1,_⟩:=hOp _ (Ag (d:=(default:A0)) hj)
     have e1:decide ((j:Int)<((f.Blocks.getD i default).Ops.length:Int))=true:=by simpa using hj
     unfold G8;simp only[e1,Ah,Dn,Aa (Ai hj),Xy,Am,Uv _ p1,Bd hj (by omega)]
     revert hp
     unfold jC
     cases numB ((f.Blocks.getD i default).Ops.getD j default).Kind<;>cases numB ((f.Blocks.getD i default).Ops.getD j default).Bits<;>cases numB ((f.Blocks.getD i default).Ops.getD j default).Lanes<;>cases numB ((f.Blocks.getD i default).Ops.getD j default).Dst<;>cases listB ((f.Blocks.getD i default).Ops.getD j default).Args<;>simp) (λj hj hp=>by
     obtain⟨p1,_⟩:=hOp _ (Ag (d:=(default:A0)) hj)
     have e1:decide ((j:Int)<((f.Blocks.getD i default).Ops.length:Int))=true:=by simpa using hj
     unfold G8;simp only[e1,Ah,Dn,Aa (Ai hj),Xy,Am,Uv _ p1,Bd hj (by omega)]
     revert hp
     unfold jC
     cases numB ((f.Blocks.getD i default).Ops.getD j default).Kind<;>cases numB ((f.Blocks.getD i default).Ops.getD j default).Bits<;>cases numB ((f.Blocks.getD i default).Ops.getD j default).Lanes<;>cases numB ((f.Blocks.getD i default).Ops.getD j default).Dst<;>cases listB ((f.Blocks.getD i default).Ops.getD j default).Args<;>simp) (by
     unfold G8
     simp) _ 0 (Ke _)
   rw[show((0:Nat):Int)=0 from rfl,Rz]at l1 l2;unfold E5;simp only[e0,Ah,Aa (Ai hi),l1,Am];unfold blockB
   cases(f.Blocks.getD i default).Phis.all KF with
   | false=>rfl
   | true=>
    simp only[Ah,l2,Am,Dn,Xy,Uv _ b3,Bd hi (by have:=hf.blocks;omega)]
    cases(f.Blocks.getD i default).Ops.all jC with
    | false=>rfl
    | true=>
     unfold j6
     cases numB (f.Blocks.getD i default).End.Kind<;>cases numB (f.Blocks.getD i default).End.Arg<;>cases listB (f.Blocks.getD i default).End.To<;>rfl
  exact Hx f.Blocks (default:Ab) blockB (E5 f) (.inl ()) (.inr false) (λi hi hp=>by rw[step i hi,hp];rfl) (λi hi hp=>by rw[step i hi,hp];rfl) (by
   unfold E5
   simp) _ 0 (Ke _)
 rw[show((0:Nat):Int)=0 from rfl,Rz]at af1;unfold Hk R6;simp only[Uv _ hf.params,Xy,uH f hf,af1]
 have e1:((f.Blocks.length:Int)==0) = !decide (1<=f.Blocks.length):=by
  rw[<- decide_not]
  by_cases h:f.Blocks.length=0
  ·simp[h]
  ·have h1:((f.Blocks.length:Int)==0)=false:=by simpa using h
   rw[h1];symm;apply Ds;omega
 have e2:decide ((64:Int)<(f.Blocks.length:Int)) = !decide (f.Blocks.length<=64):=by rw[<- decide_not];apply zzL83.2;omega
 have e3:decide ((16:Int)<(f.Params.length:Int)) = !decide (f.Params.length<=16):=by rw[<- decide_not];apply zzL83.2;omega
 have e4:decide ((512:Int)<sizeW f) = !decide (sizeW f<=512):=by rw[<- decide_not];apply zzL83.2;omega
 rw[e1,e2,e3]
 generalize decide (1<=f.Blocks.length)=p1
 generalize decide (f.Blocks.length<=64)=p2
 generalize decide (f.Params.length<=16)=p3
 generalize listB f.Params=p4
 generalize numB f.Ret=p5
 cases p1 with
 | false=>simp
 | true=>cases p2 with
  | false=>simp
  | true=>cases p3 with
   | false=>simp
   | true=>cases p4 with
    | false=>simp
    | true=>cases p5 with
     | false=>simp
     | true=>
      simp only[D3,Bool.or_self,Ah,Ar,X3,Am,e4]
      cases decide (sizeW f<=512) with
      | false=>simp
      | true=>cases f.Blocks.all blockB<;>simp
theorem tF{n:Int}:numB n=true↔0<=n/\n<=2147483647:=by simp[numB]
theorem listB_iff:listB l=true↔sa l/\l.length<=64:=by
 simp[listB,sa,tF]
def Ae8(n:Int):Prop:=0<=n/\n<18446744073709551616
structure OkB(b:Ab):Prop where
 may:blockB b=true
 phis:b.Phis.length<=512
 ops:b.Ops.length<=512
 imm:∀ o∈b.Ops,Ae8 o.Imm
structure OkF(f:AI):Prop where
 params:listB f.Params=true
 few:f.Params.length<=16
 ret:numB f.Ret=true
 blocks:f.Blocks.length<=64
 block:∀ b∈f.Blocks,OkB b
theorem blockB_iff:blockB b=true↔(∀ p∈b.Phis,KF p=true)/\(∀ o∈b.Ops,jC o=true)/\j6 b.End=true:=by
 simp[blockB,and_assoc]
theorem d8(l:List α)(g:α->Nat)(B:Nat)(h:∀ a∈l,g a<=B):(l.map g).sum<=l.length*B:=by
 induction l with
 | nil=>simp
 | cons a l ih=>
  have h1:=h a (by simp);have h2:=ih (λb hb=>h b (by simp[hb]));rw[Db,List.sum_cons,Ry,Jl];omega
theorem uO(l:List α)(g k:α->Nat)(h:∀ a∈l,g a<=k a):(l.map g).sum<=(l.map k).sum:=by
 induction l with
 | nil=>simp
 | cons a l ih=>
  grind
theorem UQ(l:List α)(g:α->Nat)(h:∀ a∈l,1<=g a):l.length<=(l.map g).sum:=by
 induction l with
 | nil=>simp
 | cons a l ih=>
  grind
theorem kU{l:List α}{a:α}(g:α->Nat)(h:a∈l):g a<=(l.map g).sum:=by
 induction l with
 | nil=>cases h
 | cons b l ih=>
  grind
theorem OkF.size(h:OkF f):Ts f<=65600/\sizeW f=Ts f:=by
 have:Ts f<=f.Blocks.length*1025:=d8 _ _ _ λb hb=>by
  have h1:=(h.block b hb).phis;have h2:=(h.block b hb).ops;simp only[Wt];omega
 have h2:=h.blocks
 have h3:Ts f<=65600:=by omega
 exact⟨h3,MY (by omega)⟩
theorem OD(h:R6 f=true):1<=f.Blocks.length/\f.Blocks.length<=64/\f.Params.length<=16/\listB f.Params=true/\numB f.Ret=true/\sizeW f<=512/\∀ b∈f.Blocks,blockB b=true:=by
 simp only[R6,Az,Hs,zzL21]at h;exact⟨h.1.1.1.1.1.1,h.1.1.1.1.1.2,h.1.1.1.1.2,h.1.1.1.2,h.1.1.2,h.1.2,h.2⟩
theorem pS(h:R6 f=true):f.Params.length<=64/\∀ b∈f.Blocks,b.End.To.length<=64/\(∀ p∈b.Phis,p.From.length<=64/\p.Args.length<=64)/\∀ o∈b.Ops,o.Args.length<=64:=by
 obtain⟨_,_,h3,_,_,_,h7⟩:=OD h;refine⟨by omega,λb hb=>?_⟩;obtain⟨q1,q2,q3⟩:=blockB_iff.1 (h7 b hb);simp only[j6,Az]at q3;refine⟨(listB_iff.1 q3.2).2,λp hp=>?_,λo ho=>?_⟩
 ·have:=q1 p hp;simp only[KF,Az]at this;exact⟨(listB_iff.1 this.1.2).2,(listB_iff.1 this.2).2⟩
 ·have:=q2 o ho;simp only[jC,Az]at this;exact(listB_iff.1 this.2).2
theorem Abw(hf:ZJ f)(h:R6 f=true)(hs:j7 f<=20000):OkF f/\Ts f<=512:=by
 obtain⟨h1,h2,h3,h4,h5,h6,h7⟩:=OD h
 have hle:Ts f<=j7 f:=by
  have:Ts f<=(f.Blocks.map ZW).sum:=uO _ _ _ λb hb=>by
   have q1:b.Phis.length<=(b.Phis.map fy).sum:=UQ _ _ λp hp=>by simp only[fy];omega
   have q2:b.Ops.length<=(b.Ops.map fx).sum:=UQ _ _ λp hp=>by simp only[fx];omega
   simp only[Wt,ZW];omega
  simp only[j7];omega
 have hw:sizeW f=Ts f:=MY (by omega)
 have h512:Ts f<=512:=by omega
 refine⟨⟨h4,h3,h5,h2,λb hb=>?_⟩,h512⟩;have hb512:Wt b<=Ts f:=kU _ hb;simp only[Wt]at hb512;exact⟨h7 b hb,by omega,by omega,λo ho=>(hf.op b hb o ho).2⟩
theorem RA(f:AI)(hf:ZJ f):∃ sm,Dc f=some sm/\(sm=true->R6 f=true->OkF f/\Ts f<=512/\1<=f.Blocks.length):=by
 obtain⟨sm,h⟩:=WT f hf;refine⟨sm,h,λh1 h2=>?_⟩;obtain⟨q1,q2⟩:=pS h2;rw[iY f hf q1 q2]at h;obtain⟨r1,r2⟩:=Abw hf h2 (by grind);exact⟨r1,r2,(OD h2).1⟩
def Xk(l:Int):Int:=bif l==0 then 17 else bif l==1 then 20 else 22
def Cn(l:Int)(o:A0):Bool:=Dp o&&!decide (Xk l<o.Kind)&&!(decide (l<2)&&decide (1<o.Lanes))
def G0(l:Int)(b:Ab):Bool:=(b.Phis.all λp=>widthB p.Bits)&&b.Ops.all (Cn l)
def Rk(f:AI)(l:Int):Bool:=f.Params.all widthB&&f.Blocks.all (G0 l)&&widthB f.Ret
theorem yG{m a b c:Bool}:(bif (bif (bif (!m) then true else a) then true else(bif b then c else false)) then(some (LR.done (Sum.inr false))) else some (LR.next x):Option (LR Int (Unit ⊕ Bool)))=some (bif (m&&!a&&!(b&&c)) then .next x else .done (.inr false)):=by
 grind
theorem pZ(hf:OkF f)(hb:b∈f.Blocks){o:A0}(ho:o∈b.Ops):fD o:=by
 have h1:=hf.block b hb;have h2:=(blockB_iff.1 h1.may).2.1 o ho;simp only[jC,Az]at h2;exact⟨⟨(h1.imm o ho).1,(h1.imm o ho).2⟩,by have:=(listB_iff.1 h2.2).2;omega⟩
theorem xl(hf:OkF f)(l:Int):Kz f l=some (Rk f l):=by
 have hp:=Hx f.Params (0:Int) widthB (Fq f) (.inl ()) (.inr false) (λi hi hp=>by
   unfold Fq
   have:decide ((i:Int)<(f.Params.length:Int))=true:=by simpa using hi
   simp only[this,Ah,Aa (Ai hi),Dn,Uu,Am,hp,D3,Ar,Bd hi (by have:=hf.few;omega)]) (λi hi hp=>by
   unfold Fq
   have:decide ((i:Int)<(f.Params.length:Int))=true:=by simpa using hi
   simp only[this,Ah,Aa (Ai hi),Dn,Uu,Am,hp,Mq]) (by
   unfold Fq;simp) f.Params.length 0 (by omega)
 have hb:=Hx f.Blocks (default:Ab) (G0 l) (Fs f l) (.inl ()) (.inr false)
 have hphi:∀ i:Nat,i<f.Blocks.length->Ae (D7 f (i:Int)) (0:Int)=some _:=λi hi=>by
  have hB:=hf.block _ (Ag (d:=(default:Ab)) hi)
  have:=Hx (f.Blocks.getD i default).Phis (default:A8) (λp=>widthB p.Bits) (D7 f (i:Int)) (.inl ()) (.inr false) (λj hj hp=>by
   unfold D7
   have:decide ((j:Int)<((f.Blocks.getD i default).Phis.length:Int))=true:=by simpa using hj
   simp only[Aa (Ai hi),Dn,this,Ah,Aa (Ai hj),Uu,Am,hp,D3,Ar,Bd hj (by have:=hB.phis;omega)]) (λj hj hp=>by
   unfold D7
   have:decide ((j:Int)<((f.Blocks.getD i default).Phis.length:Int))=true:=by simpa using hj
   simp only[Aa (Ai hi),Dn,this,Ah,Aa (Ai hj),Uu,Am,hp,Mq]) (by
   unfold D7;simp[Aa (Ai hi)]) (f.Blocks.getD i default).Phis.length 0 (by omega)
  rw[show(0:Int)=((0:Nat):Int) from rfl,this,Rz]
 have ai6:∀ i:Nat,i<f.Blocks.length->Ae (D8 f l (i:Int)) (0:Int)=some _:=λi hi=>by
  have ab3:=Ag (d:=(default:Ab)) hi;have hB:=hf.block _ ab3
  have key:∀(j:Nat),j<(f.Blocks.getD i default).Ops.length->D8 f l (i:Int) (j:Int)=some (bif Cn l ((f.Blocks.getD i default).Ops.getD j default) then .next ((j:Int)+1) else .done (.inr false)):=λj hj=>by
   unfold D8
   have hd:decide ((j:Int)<((f.Blocks.getD i default).Ops.length:Int))=true:=by simpa using hj
   have hok:=pZ hf ab3 (Ag (d:=(default:A0)) hj);simp only[Aa (Ai hi),Dn,hd,Ah,Aa (Ai hj),Bd hj (by have:=hB.ops;omega)];unfold Cn Xk;cases h1:(l==1)<;>cases h0:(l==0)<;>simp only[Ah,Ar,Am,du _ hok,yG]
  have:=Hx (f.Blocks.getD i default).Ops (default:A0) (Cn l) (D8 f l (i:Int)) (.inl ()) (.inr false) (λj hj hp=>by rw[key j hj,hp];rfl) (λj hj hp=>by rw[key j hj,hp];rfl) (by
   unfold D8;simp[Aa (Ai hi)]) (f.Blocks.getD i default).Ops.length 0 (by omega)
  rw[show(0:Int)=((0:Nat):Int) from rfl,this,Rz]
 have hb':=hb (λi hi hp=>by
   unfold Fs
   have:decide ((i:Int)<(f.Blocks.length:Int))=true:=by simpa using hi
   simp only[G0,Az]at hp
   simp only[this,Ah,hphi i hi,ai6 i hi,hp.1,hp.2,Am,Bd hi (by have:=hf.blocks;omega)]) (λi hi hp=>by
   unfold Fs
   have:decide ((i:Int)<(f.Blocks.length:Int))=true:=by simpa using hi
   simp only[G0]at hp;simp only[this,Ah,hphi i hi,ai6 i hi,Am]
   cases h1:((f.Blocks.getD i default).Phis.all λp=>widthB p.Bits) with
   | false=>rfl
   | true=>grind) (by
   unfold Fs;simp) f.Blocks.length 0 (by omega)
 unfold Kz Rk;rw[show(0:Int)=((0:Nat):Int) from rfl,hp,hb',Rz,Rz]
 cases f.Params.all widthB<;>cases f.Blocks.all (G0 l)<;>simp[Uu]
theorem MT:room=1099511627776:=rfl
theorem M1{β:Type}(n A C:Nat)(E:Nat->List β)(hE:∀ i,i<n->(E i).length<=C)(f:List β×Int->Option (LR (List β×Int) (List β)))
  (hn:∀(acc:List β) (i:Nat),i<n->acc.length<=A+i*C->f (acc,(i:Int))=some (.next (acc++E i,(i:Int)+1)))
  (hd:∀ acc:List β,f (acc,(n:Int))=some (.done acc)):∀(k i:Nat) (acc:List β),i+k=n->acc.length<=A+i*C->Ae f (acc,(i:Int))=some (acc++(List.range' i k).flatMap E)
 | 0,i,acc,h,_=>by
  obtain rfl:i=n:=by omega
  rw[An (hd acc)]
  simp
 | k+1,i,acc,h,hA=>by
  have hi:i<n:=by omega
  have h2:acc.length+C<=A+(i+1)*C:=by rw[Jl];omega
  rw[Ap (hn acc i hi hA),show(i+1)=((i+1:Nat):Int) by omega,M1 n A C E hE f hn hd k _ _ (by omega) (by grind),GQ,KL,Z0]
theorem J6{β:Type}(C:Nat)(E:Nat->List β):∀ l:List Nat,(∀ i∈l,(E i).length<=C)->(l.flatMap E).length<=l.length*C
 | [],_=>by simp
 | a::l,h=>by
  have h1:=h a (by simp);have h2:=J6 C E l (λi hi=>h i (by simp[hi]));rw[KL,He,Ry,Jl];omega
def Mz(l:List TDef)(v:Int):Int:=match l.findIdx? (λd=>d.V==v) with|some i=>(i:Int)|none=>-1
theorem dS(l:List TDef)(v:Int)(hl:l.length<=1000000):Eu l v=some (Mz l v):=by
 have key:∀(k i:Nat),i+k=l.length->Ae (Gn l v) i=some (match(l.drop i).findIdx? (λd=>d.V==v) with|some j=>.inr (i+j:Nat)|none=>.inl ()):=by
  intro k
  induction k with
  | zero=>
   intro i h
   obtain rfl:i=l.length:=by omega
   rw[An (x:=.inl ()) (by unfold Gn;simp)]
   simp
  | succ k ih=>
   intro i h
   have hi:i<l.length:=by omega
   have hdr:l.drop i=l.getD i default::l.drop (i+1):=by simp_all
   have hd:decide (i<(l.length:Int))=true:=by simpa using hi
   rw[hdr,List.findIdx?_cons]
   cases hb:(l.getD i _).V==v with
   | true=>
    rw[An (x:=.inr i) (by unfold Gn;simp only[hd,Ah,Aa (Ai hi),Dn,hb])]
    simp
   | false=>
    rw[Ap (s':=((i+1:Nat):Int)) (by unfold Gn;simp only[hd, Aa (Ai hi),Dn,hb, Bd hi (by omega)];rfl),ih _ (by omega)]
    cases(l.drop _).findIdx? _ with
    | none=>simp
    | some j=>simp;omega
 unfold Eu Mz;rw[show 0=((0:Nat):Int) from rfl,key l.length 0 (by omega),Rz]
 cases l.findIdx? _ with
 | none=>rfl
 | some j=>simp
def Bn(o:A0):Int×Int:=bif Dp o then Tv o.Kind o.Bits o.Lanes else(0,0)
def Hr(o:A0):List (Int×Int):=bif Dp o then T8 o else[]
def Sj(f:AI):List TDef:=(List.range f.Params.length).flatMap λ(i:Nat)=>[⟨(i:Int)+1,-1,0,(f.Params.getD i 0,1)⟩]
def Sk(b:Ab)(i:Nat):List TDef:=(List.range b.Phis.length).flatMap λ(k:Nat)=>[⟨(b.Phis.getD k default).Dst,i,-1,((b.Phis.getD k default).Bits,1)⟩]
def X9(b:Ab)(i:Nat):List TDef:=(List.range b.Ops.length).flatMap λ(k:Nat)=>bif decide (0<(Bn (b.Ops.getD k default)).1) then[⟨(b.Ops.getD k default).Dst,i,k,Bn (b.Ops.getD k default)⟩] else[]
def Si(b:Ab)(i:Nat):List TDef:=Sk b i++X9 b i
def Aw(f:AI):List TDef:=Sj f++(List.range f.Blocks.length).flatMap λi=>Si (f.Blocks.getD i default) i
theorem QF(b:Ab)(i:Nat):(Sk b i).length<=b.Phis.length:=by
 have:=J6 1 (λk=>[(⟨(b.Phis.getD k default).Dst,i,-1,((b.Phis.getD k default).Bits,1)⟩:TDef)]) (List.range b.Phis.length) (λ_ _=>zzL7 _)
 simpa [Sk] using this
theorem j5(b:Ab)(i:Nat):(X9 b i).length<=b.Ops.length:=by
 have:=J6 1 (λk=>bif decide (0<(Bn (b.Ops.getD k default)).1) then[(⟨(b.Ops.getD k default).Dst,i,k,Bn (b.Ops.getD k default)⟩:TDef)] else[]) (List.range b.Ops.length) (λk _=>by grind)
 simpa [X9] using this
theorem bQ(hf:OkF f)(hi:i<f.Blocks.length):(Si (f.Blocks.getD i default) i).length<=1024:=by
 have hB:=hf.block _ (Ag (d:=default) hi);have h1:=QF (f.Blocks.getD i default) i;have h2:=j5 (f.Blocks.getD i default) i;have h3:=hB.phis;have h4:=hB.ops;rw[Si,He];omega
theorem HM(f:AI):(Sj f).length=f.Params.length:=by
 have h:∀ l:List Nat,(l.map λ_=>1).sum=l.length:=λl=>by induction l with|nil=>rfl|cons a l ih=>simp[ih];omega
 simp[Sj, h]
theorem o6(hf:OkF f):(Aw f).length<=100000:=by
 have h1:=J6 _ _ (List.range _) (λi hi=>bQ hf (by simpa using hi));have h2:=HM f;have h3:=hf.few;have h4:=hf.blocks;rw[Tf]at h1;rw[Aw,He];omega
theorem Abq(hf:OkF f):L6 f=some (Aw f):=by
 have hp:=M1 f.Params.length 0 1 (λ(i:Nat)=>[(⟨(i:Int)+1,-1,0,(f.Params.getD i 0,1)⟩:TDef)]) (λ_ _=>zzL7 _) (Je f) (λacc i hi hA=>by
   unfold Je
   have hd:decide ((i:Int)<(f.Params.length:Int))=true:=by simpa using hi
   have hr:acc.length+([(⟨(i:Int)+1,(-1:Int),(0:Int),((f.Params.getD i 0),(1:Int))⟩:TDef)]:List (TDef)).length<=room:=by have:=hf.few;rw[MT];simp;omega
   simp only[hd,Ah,Aa (Ai hi),Dn,Bd hi (by have:=hf.few;omega),Aa hr]) (λacc=>by unfold Je;simp) f.Params.length 0 [] (by omega) (by simp)
 have hphi:∀(i:Nat),i<f.Blocks.length->∀ acc:List TDef,acc.length<=100000->Ae (Gl f (i:Int)) (acc,(0:Int))=some (acc++Sk (f.Blocks.getD i default) i):=λi hi acc ad2=>by
  have hB:=hf.block _ (Ag (d:=(default:Ab)) hi)
  have:=M1 (f.Blocks.getD i default).Phis.length 100000 1 (λ(k:Nat)=>[(⟨((f.Blocks.getD i default).Phis.getD k default).Dst,i,-1,(((f.Blocks.getD i default).Phis.getD k default).Bits,1)⟩:TDef)]) (λ_ _=>zzL7 _) (Gl f (i:Int)) (λacc k hk hA=>by
   unfold Gl
   have hd:decide ((k:Int)<((f.Blocks.getD i default).Phis.length:Int))=true:=by simpa using hk
   have hr:∀ x:TDef,acc.length+([x]:List TDef).length<=room:=λx=>by have:=hB.phis;rw[MT];simp;omega
   simp only[Dn,hd,Ah,Aa (Ai hk),Bd hk (by have:=hB.phis;omega),Aa (hr _)]) (λacc=>by unfold Gl;simp) (f.Blocks.getD i default).Phis.length 0 acc (by omega) (by omega)
  rw[show(0:Int)=((0:Nat):Int) from rfl,this,Sk,Rx]
 have hop:∀(i:Nat),i<f.Blocks.length->∀ acc:List TDef,acc.length<=100000->Ae (Gm f (i:Int)) (acc,(0:Int))=some (acc++X9 (f.Blocks.getD i default) i):=λi hi acc ad2=>by
  have ab3:=Ag (d:=(default:Ab)) hi;have hB:=hf.block _ ab3
  have:=M1 (f.Blocks.getD i default).Ops.length 100000 1 (λ(k:Nat)=>bif decide (0<(Bn ((f.Blocks.getD i default).Ops.getD k default)).1) then[(⟨((f.Blocks.getD i default).Ops.getD k default).Dst,i,k,Bn ((f.Blocks.getD i default).Ops.getD k default)⟩:TDef)] else[]) (λk _=>by grind) (Gm f (i:Int)) (λacc k hk hA=>by
   unfold Gm;have hok:=pZ hf ab3 (Ag (d:=(default:A0)) hk)
   have hd:decide ((k:Int)<((f.Blocks.getD i default).Ops.length:Int))=true:=by simpa using hk
   have hr:∀ x:TDef,acc.length+([x]:List TDef).length<=room:=λx=>by have:=hB.ops;rw[MT];simp;omega
   have hg:H0 ((f.Blocks.getD i default).Ops.getD k default)=some (Bn ((f.Blocks.getD i default).Ops.getD k default)):=pi _ hok;simp only[Dn,hd,Ah,Aa (Ai hk),hg,Am,Bd hk (by have:=hB.ops;omega),Aa (hr _)]
   cases decide (0<(Bn ((f.Blocks.getD i default).Ops.getD k default)).1)<;>simp) (λacc=>by unfold Gm;simp) (f.Blocks.getD i default).Ops.length 0 acc (by omega) (by omega)
  rw[show(0:Int)=((0:Nat):Int) from rfl,this,X9,Rx]
 have hb:=M1 f.Blocks.length 16 1024 (λi=>Si (f.Blocks.getD i default) i) (λi hi=>bQ hf hi) (Jf f) (λacc i hi hA=>by
   unfold Jf
   have hd:decide ((i:Int)<(f.Blocks.length:Int))=true:=by simpa using hi
   have hB:=hf.block _ (Ag (d:=(default:Ab)) hi);have h64:=hf.blocks;have h2:=QF (f.Blocks.getD i default) i;have h3:=hB.phis
   simp only[hd,Ah,Aa (Ai hi),hphi i hi acc (by omega),Am,hop i hi (acc++Sk (f.Blocks.getD i default) i) (by rw[He];omega),Bd hi (by omega),Si,Z0]) (λacc=>by unfold Jf;simp) f.Blocks.length 0 (Sj f) (by omega) (by have:=HM f;have:=hf.few;omega)
 unfold L6;rw[show(0:Int)=((0:Nat):Int) from rfl,hp,Am,Vi]
 have e:(List.range' 0 f.Params.length).flatMap (λ(i:Nat)=>[(⟨(i:Int)+1,-1,0,(f.Params.getD i 0,1)⟩:TDef)])=Sj f:=by rw[Sj,Rx]
 rw[e,hb,Am,Aw,Rx]
def Pk(p:A8):List Dz:=(List.range p.Args.length).flatMap λ(j:Nat)=>[⟨p.Args.getD j 0,p.From.getD j 0,1000,(p.Bits,1)⟩]
def Oq(b:Ab):List Dz:=(List.range b.Phis.length).flatMap λ(k:Nat)=>Pk (b.Phis.getD k default)
def Te(o:A0)(i k:Nat):List Dz:=(List.range (Hr o).length).flatMap λ(j:Nat)=>[⟨o.Args.getD j 0,i,k,(Hr o).getD j (0,0)⟩]
def U9(b:Ab)(i:Nat):List Dz:=(List.range b.Ops.length).flatMap λ(k:Nat)=>Te (b.Ops.getD k default) i k
def CF(f:AI)(b:Ab)(i:Nat):List Dz:=(bif b.End.Kind==0 then[⟨b.End.Arg,i,1000,(f.Ret,1)⟩] else[])++(bif b.End.Kind==2 then[⟨b.End.Arg,i,1000,(1,1)⟩] else[])
def MW(f:AI)(b:Ab)(i:Nat):List Dz:=Oq b++U9 b i++CF f b i
def Bl(f:AI):List Dz:=(List.range f.Blocks.length).flatMap λ(i:Nat)=>MW f (f.Blocks.getD i default) i
theorem CD{o:A0}(h:o.Args.length<=64):(Hr o).length<=64/\(Hr o).length<=o.Args.length:=by
 unfold Hr
 cases hm:Dp o with
 | false=>simp
 | true=>
  simp only[Ah]
  have :=by
   simp only[Dp,Az]at hm;exact hm.1.2.2
  have h2 :=by simpa using this
  have h3:(T8 o).length=o.Args.length:=by rw[T8,F2,Tf,<- h2,Dn]
  omega
theorem VK(hf:OkF f)(hb:b∈f.Blocks){p:A8}(hp:p∈b.Phis):p.From.length<=64/\p.Args.length<=64:=by
 have:=(blockB_iff.1 (hf.block b hb).may).1 p hp;simp only[KF,Az]at this;exact⟨(listB_iff.1 this.1.2).2,(listB_iff.1 this.2).2⟩
theorem bt(hf:OkF f)(hb:b∈f.Blocks){o:A0}(ho:o∈b.Ops):o.Args.length<=64:=by
 have:=(blockB_iff.1 (hf.block b hb).may).2.1 o ho;simp only[jC,Az]at this;exact(listB_iff.1 this.2).2
theorem MX(p:A8):(Pk p).length<=p.Args.length:=by
 have:=J6 1 (λj=>[(⟨p.Args.getD j 0,p.From.getD j 0,1000,(p.Bits,1)⟩:Dz)]) (List.range p.Args.length) (λ_ _=>zzL7 _)
 simpa [Pk] using this
theorem RD(o:A0)(i k:Nat):(Te o i k).length<=(Hr o).length:=by
 have:=J6 1 (λj=>[(⟨o.Args.getD j 0,i,k,(Hr o).getD j (0,0)⟩:Dz)]) (List.range (Hr o).length) (λ_ _=>zzL7 _)
 simpa [Te] using this
theorem RE(hf:OkF f)(hb:b∈f.Blocks):(Oq b).length<=32768:=by
 have:=J6 64 (λk=>Pk (b.Phis.getD k default)) (List.range _) (λk hk=>by
  have h1:=MX (b.Phis.getD k default);have h2:=(VK hf hb (Ag (d:=default) (by simpa using hk))).2
  omega)
 have h3:=(hf.block b hb).phis;rw[Tf]at this;rw[Oq];omega
theorem WZ(hf:OkF f)(hb:b∈f.Blocks)(i:Nat):(U9 b i).length<=32768:=by
 have:=J6 64 (λk=>Te (b.Ops.getD k default) i k) (List.range _) (λk hk=>by
  have h1:=RD (b.Ops.getD k default) i k;have h2:=(CD (bt hf hb (Ag (d:=default) (by simpa using hk)))).1
  omega)
 have h3:=(hf.block b hb).ops;rw[Tf]at this;rw[U9];omega
theorem ii(f:AI)(b:Ab)(i:Nat):(CF f b i).length<=2:=by
 unfold CF
 cases b.End.Kind==0<;>cases b.End.Kind==2<;>simp
theorem cN(hf:OkF f)(hi:i<f.Blocks.length):(MW f (f.Blocks.getD i default) i).length<=70000:=by
 have ab3:=Ag (d:=default) hi;have h1:=RE hf ab3;have h2:=WZ hf ab3 i;have h3:=ii f (f.Blocks.getD i default) i;rw[MW,He,He];omega
theorem OY(hf:OkF f):(Bl f).length<=4480000:=by
 have h1:=J6 _ _ (List.range _) (λi hi=>cN hf (by simpa using hi));have h4:=hf.blocks;rw[Tf]at h1;rw[Bl];omega
def nL(f:AI):Prop:=∀ b∈f.Blocks,∀ p∈b.Phis,p.Args.length<=p.From.length
theorem Abu(hf:OkF f)(hp:nL f):L8 f=some (Bl f):=by
 have ad8:∀{n:Nat},n<=100000000->∀ x:Dz,n+([x]:List Dz).length<=room:=λ{n} h x=>by rw[MT];simp;omega
 have h1:∀(i:Nat),i<f.Blocks.length->∀(k:Nat),k<(f.Blocks.getD i default).Phis.length->∀ acc:List Dz,acc.length<=50000000->Ae (Gp f (i:Int) (k:Int)) (acc,(0:Int))=some (acc++Pk ((f.Blocks.getD i default).Phis.getD k default)):=λi hi k hk acc ad2=>by
  have ab3:=Ag (d:=(default:Ab)) hi;have hpm:=Ag (d:=(default:A8)) hk;have IT:=VK hf ab3 hpm;have ac6:=hp _ ab3 _ hpm
  have:=M1 ((f.Blocks.getD i default).Phis.getD k default).Args.length 50000000 1 (λ(j:Nat)=>[(⟨((f.Blocks.getD i default).Phis.getD k default).Args.getD j 0,((f.Blocks.getD i default).Phis.getD k default).From.getD j 0,1000,(((f.Blocks.getD i default).Phis.getD k default).Bits,1)⟩:Dz)]) (λ_ _=>zzL7 _) (Gp f (i:Int) (k:Int)) (λacc j hj hA=>by
   unfold Gp
   have hd:decide ((j:Int)<(((f.Blocks.getD i default).Phis.getD k default).Args.length:Int))=true:=by simpa using hj
   simp only[Dn,hd,Ah,Aa (Ai hj),Aa (Ai (Nat.lt_of_lt_of_le hj ac6)),Bd hj (by omega),Aa (ad8 (n:=acc.length) (by omega) _)]) (λacc=>by unfold Gp;simp) ((f.Blocks.getD i default).Phis.getD k default).Args.length 0 acc (by omega) (by omega)
  rw[show(0:Int)=((0:Nat):Int) from rfl,this,Pk,Rx]
 have h2:∀(i:Nat),i<f.Blocks.length->∀ acc:List Dz,acc.length<=40000000->Ae (Gq f (i:Int)) (acc,(0:Int))=some (acc++Oq (f.Blocks.getD i default)):=λi hi acc ad2=>by
  have ab3:=Ag (d:=(default:Ab)) hi;have hB:=hf.block _ ab3
  have:=M1 (f.Blocks.getD i default).Phis.length 40000000 64 (λ(k:Nat)=>Pk ((f.Blocks.getD i default).Phis.getD k default)) (λk hk=>by have:=MX ((f.Blocks.getD i default).Phis.getD k default);have:=(VK hf ab3 (Ag (d:=(default:A8)) hk)).2;omega) (Gq f (i:Int)) (λacc k hk hA=>by
   unfold Gq
   have hd:decide ((k:Int)<((f.Blocks.getD i default).Phis.length:Int))=true:=by simpa using hk
   have h5:=hB.phis;have h6:k*64<=512*64:=Hp _ (by omega)
   simp only[Dn,hd,Ah,Aa (Ai hk),h1 i hi k hk acc (by omega),Am,Bd hk (by omega)]) (λacc=>by unfold Gq;simp) (f.Blocks.getD i default).Phis.length 0 acc (by omega) (by omega)
  rw[show(0:Int)=((0:Nat):Int) from rfl,this,Oq,Rx]
 have h3:∀(i:Nat),i<f.Blocks.length->∀(k:Nat),k<(f.Blocks.getD i default).Ops.length->∀ acc:List Dz,acc.length<=50000000->Ae (Gr f (i:Int) (k:Int) (Hr ((f.Blocks.getD i default).Ops.getD k default))) (acc,(0:Int))=some (acc++Te ((f.Blocks.getD i default).Ops.getD k default) i k):=λi hi k hk acc ad2=>by
  have ab3:=Ag (d:=(default:Ab)) hi;have hom:=Ag (d:=(default:A0)) hk;have IT:=CD (bt hf ab3 hom)
  have:=M1 (Hr ((f.Blocks.getD i default).Ops.getD k default)).length 50000000 1 (λ(j:Nat)=>[(⟨((f.Blocks.getD i default).Ops.getD k default).Args.getD j 0,i,k,(Hr ((f.Blocks.getD i default).Ops.getD k default)).getD j (0,0)⟩:Dz)]) (λ_ _=>zzL7 _) (Gr f (i:Int) (k:Int) (Hr ((f.Blocks.getD i default).Ops.getD k default))) (λacc j hj hA=>by
   unfold Gr
   have hd:decide ((j:Int)<((Hr ((f.Blocks.getD i default).Ops.getD k default)).length:Int))=true:=by simpa using hj
   simp only[Dn,hd,Ah,Aa (Ai hk),Aa (Ai hj),Aa (Ai (Nat.lt_of_lt_of_le hj IT.2)),Bd hj (by omega),Aa (ad8 (n:=acc.length) (by omega) _)]) (λacc=>by unfold Gr;simp) (Hr ((f.Blocks.getD i default).Ops.getD k default)).length 0 acc (by omega) (by omega)
  rw[show(0:Int)=((0:Nat):Int) from rfl,this,Te,Rx]
 have h4:∀(i:Nat),i<f.Blocks.length->∀ acc:List Dz,acc.length<=40000000->Ae (Gs f (i:Int)) (acc,(0:Int))=some (acc++U9 (f.Blocks.getD i default) i):=λi hi acc ad2=>by
  have ab3:=Ag (d:=(default:Ab)) hi;have hB:=hf.block _ ab3
  have:=M1 (f.Blocks.getD i default).Ops.length 40000000 64 (λ(k:Nat)=>Te ((f.Blocks.getD i default).Ops.getD k default) i k) (λk hk=>by have:=RD ((f.Blocks.getD i default).Ops.getD k default) i k;have:=(CD (bt hf ab3 (Ag (d:=(default:A0)) hk))).1;omega) (Gs f (i:Int)) (λacc k hk hA=>by
   unfold Gs
   have hd:decide ((k:Int)<((f.Blocks.getD i default).Ops.length:Int))=true:=by simpa using hk
   have h5:=hB.ops;have h6:k*64<=512*64:=Hp _ (by omega);have ht:H1 ((f.Blocks.getD i default).Ops.getD k default)=some (Hr ((f.Blocks.getD i default).Ops.getD k default)):=pk _ (pZ hf ab3 (Ag (d:=(default:A0)) hk))
   simp only[Dn,hd,Ah,Aa (Ai hk),ht,Am,h3 i hi k hk acc (by omega),Bd hk (by omega)]) (λacc=>by unfold Gs;simp) (f.Blocks.getD i default).Ops.length 0 acc (by omega) (by omega)
  rw[show(0:Int)=((0:Nat):Int) from rfl,this,U9,Rx]
 have hb:=M1 f.Blocks.length 0 70000 (λ(i:Nat)=>MW f (f.Blocks.getD i default) i) (λi hi=>cN hf hi) (Jj f) (λacc i hi hA=>by
   unfold Jj
   have hd:decide ((i:Int)<(f.Blocks.length:Int))=true:=by simpa using hi
   have ab3:=Ag (d:=(default:Ab)) hi;have h64:=hf.blocks;have q1:i*70000<=64*70000:=Hp _ (by omega);have q2:=RE hf ab3;have q3:=WZ hf ab3 i;have e1:=h4 i hi (acc++Oq (f.Blocks.getD i default)) (by rw[He];omega)
   have l1:(acc++Oq (f.Blocks.getD i default)++U9 (f.Blocks.getD i default) i).length<=50000000:=by rw[He,He];omega
   simp only[hd,Ah,Aa (Ai hi),h2 i hi acc (by omega),Am,e1,Dn,Aa (ad8 (n:=(acc++Oq (f.Blocks.getD i default)++U9 (f.Blocks.getD i default) i).length) (by omega) _),MW,CF]
   cases(f.Blocks.getD i default).End.Kind==0 with
   | true=>
    simp only[Ah,Am]
    cases(f.Blocks.getD i default).End.Kind==2 with
    | true=>rw[Aa (by rw[He];have:=ad8 (n:=(acc++Oq (f.Blocks.getD i default)++U9 (f.Blocks.getD i default) i).length+1) (by omega) (default:Dz);simpa using this)];simp[Bd hi (by omega:f.Blocks.length<9223372036854775808)]
    | false=>simp[Bd hi (by omega:f.Blocks.length<9223372036854775808)]
   | false=>
    simp only[Ar,Am]
    cases(f.Blocks.getD i default).End.Kind==2 with
    | true=>rw[Ah,Aa (ad8 (n:=(acc++Oq (f.Blocks.getD i default)++U9 (f.Blocks.getD i default) i).length) (by omega) _)];simp[Bd hi (by omega:f.Blocks.length<9223372036854775808)]
    | false=>simp[Bd hi (by omega:f.Blocks.length<9223372036854775808)]) (λacc=>by unfold Jj;simp) f.Blocks.length 0 [] (by omega) (by simp)
 unfold L8;rw[show(0:Int)=((0:Nat):Int) from rfl,hb,Am,Bl,Rx,Vi]
def ka(n:Nat)(l:List Int)(i:Nat):Bool:=decide ((if i=0 then(-1:Int) else l.getD (i-1) 0)<l.getD i 0)&&(decide (0<=l.getD i 0)&&decide (l.getD i 0<n))
def qK(n:Nat)(l:List Int):Bool:=(List.range l.length).all (ka n l)
def N4(L:List (List Int)):Bool:=decide (1<=L.length)&&decide (L.length<=64)&&(List.range L.length).all λi=>qK L.length (L.getD i [])
def CR(L:List (List Int))(k i:Nat):Bool:=(L.getD k []).contains (i:Int)
def Lc(L:List (List Int))(m i:Nat):List Int:=((List.range m).filter λk=>CR L k i).map Int.ofNat
def Co(L:List (List Int)):List (List Int):=(List.range L.length).map (Lc L L.length)
theorem Ze(a n:Int):Lh a n=some (decide (0<=a)&&decide (a<n)):=by
 unfold Lh
 cases decide (0<=a)<;>rfl
theorem bn(n:Nat):N0 (n:Int)=some (decide (1<=n)&&decide (n<=64)):=by
 unfold N0
 have h1:decide ((1:Int)<=n)=decide (1<=n):=by grind
 have h2:decide (n<=(64:Int))=decide (n<=64):=by grind
 rw[h1,h2]
 cases decide (1<=n)<;>rfl
theorem WU(L:List (List Int))(i:Nat)(hl:(L.getD i []).length<4611686018427387904) :
  Ae (Ia L (i:Int)) ((-1:Int),(0:Int))=some (bif qK L.length (L.getD i []) then .inl () else .inr false):=by
 refine Ix (Ia L i) (λj=>((if j=0 then -1 else(L.getD i []).getD (j-1) 0),(j:Nat))) _ _ _ _ (λj hj hp=>?_) (λj hj hp=>?_) ?_
 ·unfold ka at hp;simp only[Az,Hs]at hp;obtain⟨h1,h2,h3⟩:=hp;unfold Ia;simp only[Ao,B0 hj, Ze];rw[Ac (F5 hj)]
  have e1:decide ((L.getD i []).getD j 0<=(if j=0 then -1 else(L.getD i []).getD (j-1) 0))=false:=by simpa using h1
  simp only[e1,Da h2,Da h3,     D3];rw[w1 (show j<4611686018427387904 by omega)]
  simp
 ·unfold Ia;simp only[Ao,B0 hj, Ze];rw[Ac (F5 hj)]
  cases h1:decide ((L.getD i []).getD j 0<=(if j=0 then -1 else(L.getD i []).getD _ 0)) with
  | true=>grind
  | false=>
   have h1':decide ((if j=0 then -1 else(L.getD i []).getD (j-1) 0)<(L.getD i []).getD j 0)=true:=by simpa using h1
   unfold ka at hp;rw[h1',Kd]at hp;simp only[X3,Ah,Ar,Am,hp,Mq]
 ·unfold Ia;simp only[Ao,Cy,Ar]
def Fits(L:List (List Int)):Prop:=L.length<4611686018427387904/\∀ l∈L,l.length<4611686018427387904
theorem Fits.at(h:Fits L)(i:Nat):(L.getD i []).length<4611686018427387904:=by
 by_cases hi:i<L.length
 ·exact h.2 _ (Ag hi)
 ·grind
theorem pR(L:List (List Int))(h:Fits L):Rb L=some (N4 L):=by
 unfold Rb;rw[bn,Am];unfold N4
 cases hc:(decide (1<=L.length)&&decide (L.length<=64)) with
 | false=>rfl
 | true=>
  simp only[D3,Ar,Kd];have:=Ix (Dx L) (λj=>((j:Nat):Int)) (λi=>qK L.length (L.getD i [])) (.inl ()) (.inr false) L.length (λj hj hp=>?_) (λj hj hp=>?_) ?_
  ·rw[show Ae (Dx L) (0:Int)=_ from this]
   cases(List.range L.length).all λi=>qK L.length (L.getD i [])<;>rfl
  ·show Dx L (j:Int)=_
   unfold Dx;simp only[B0 hj,Ah];rw[Ac (F5 hj),WU L j (h.at j),hp];simp only[Ah,Am,w1 (show j<4611686018427387904 by have:=h.1;omega)]
  ·show Dx L (j:Int)=_
   unfold Dx;simp only[B0 hj,Ah];rw[Ac (F5 hj),WU L j (h.at j),hp]
   rfl
  ·show Dx L _=_
   unfold Dx;simp only[Cy,Ar]
theorem So{g:Nat->α}{d:α}(h:i<n):((List.range n).map g).getD i d=g i:=by simp[ h]
theorem GH{g:Nat->α}{x:α}:((List.range n).map g).set i x=(List.range n).map λj=>if j=i then x else g j:=by
 apply List.ext_getElem?
 intro j;rw[List.getElem?_set]
 by_cases hj:j<n
 ·grind
 ·grind
theorem H3{g h:Nat->α}(H:∀ i,i<n->g i=h i):(List.range n).map g=(List.range n).map h:=PC λi hi=>H i (zzL41.1 hi)
theorem mayS_iff:N4 L=true↔1<=L.length/\L.length<=64/\∀ i,i<L.length->qK L.length (L.getD i [])=true:=by
 unfold N4;rw[Az,Az,all_range];simp only[Hs];exact⟨λ⟨⟨a,b⟩,c⟩=>⟨a,b,c⟩,λ⟨a,b,c⟩=>⟨⟨a,b⟩,c⟩⟩
theorem okL_iff:qK n l=true↔∀ i,i<l.length->(0<=l.getD i 0/\l.getD i 0<n)/\(0<i->l.getD (i-1) 0<l.getD i 0):=by
 unfold qK;rw[all_range];unfold ka;simp only[Az,Hs]
 constructor
 ·grind
 ·intro h i hi;obtain⟨⟨h2,h3⟩,h1⟩:=h i hi
  by_cases hz:i=0
  · omega
  ·grind
section
variable {n:Nat} {l:List Int} (h:qK n l=true)
include h
theorem FO(hi:i<l.length):0<=l.getD i 0/\l.getD i 0<n:=(okL_iff.1 h i hi).1
theorem tI(hij:i<j)(hj:j<l.length):l.getD i 0<l.getD j 0:=by
 induction j with
 | zero=>omega
 | succ j ih=>
  have h1:=(okL_iff.1 h _ hj).2 (by omega)
  by_cases he:i=j
  ·rw[he];exact h1
  ·grind
theorem Aby(hi:i<l.length):(i:Int)<=l.getD i 0:=by
 induction i with
 | zero=>exact(FO h hi).1
 | succ i ih=>
  have:=tI h (show i<i+1 by omega) hi;omega
theorem HW:l.length<=n:=by
 by_cases hz:l.length=0
 ·omega
 ·have h1:=Aby h (show l.length-1<l.length by omega);have h2:=(FO h (show l.length-1<l.length by omega)).2;omega
theorem dY(hx:x∈l):0<=x/\x<n:=by
 obtain⟨i,hi,rfl⟩:=H8 hx;have:=FO h hi;rwa[Ad _ _ _ hi]at this
end
theorem Abz(h1:∀ x∈l,0<=x/\x<n)(h2:l.Pairwise (·<·)):qK n l=true:=by
 rw[okL_iff];intro i hi;rw[Ad _ _ _ hi];refine⟨h1 _ (PE hi),λhp=>?_⟩;rw[Ad _ _ _ (show i-1<l.length by omega)];exact(zzL78.1 h2) _ _ _ _ (by omega)
theorem V4(h:N4 L=true):L.length<=64/\∀ l∈L,l.length<=64:=by
 obtain⟨h1,h2,h3⟩:=mayS_iff.1 h;refine⟨h2,λl hl=>?_⟩;obtain⟨i,hi,rfl⟩:=H8 hl;have:=HW (h3 i hi);rw[Ad _ _ _ hi]at this;omega
theorem xQ(h:L.length<=1000/\∀ l∈L,l.length<=1000):Fits L:=⟨by omega,λl hl=>by have:=h.2 l hl;omega⟩
theorem GB(L:List (List Int))(k i:Nat):Lc L (k+1) i=Lc L k i++(if CR L k i=true then[(k:Int)] else[]):=by
 unfold Lc;rw[JJ,JH];cases hg:CR L k i<;>simp[hg]
theorem BW(L:List (List Int))(k i:Nat):(Lc L k i).length<=k:=by
 unfold Lc;have:=List.length_filter_le (λk=>CR L k i) (List.range k)
 simpa using this
theorem bY(hj:j<l.length):l.take (j+1)=l.take j++[l.getD j 0]:=by
 simp_all
def Yb(L:List (List Int))(k j i:Nat):Bool:=((L.getD k []).take j).contains (i:Int)
def Qg(L:List (List Int))(k j:Nat):List (List Int):=(List.range L.length).map λi=>Lc L k i++(if Yb L k j i=true then[(k:Int)] else[])
theorem fp(L:List (List Int))(h:N4 L=true)(k j:Nat)(hk:k<L.length)(hj:j<(L.getD k []).length) :
  (Qg L k j).set ((L.getD k []).getD j 0).toNat ((Qg L k j).getD ((L.getD k []).getD j 0).toNat []++[(k:Int)])=Qg L k (j+1):=by
 obtain⟨h1,h2,h3⟩:=mayS_iff.1 h;have hok:=h3 k hk;obtain⟨a0,a1⟩:=FO hok hj;unfold Qg;rw[So (by omega),GH]
 apply H3
 intro i hi
 have hnot:Yb L k j ((L.getD k []).getD j 0).toNat=false:=by
  unfold Yb;rw[Mp a0]
  cases hc:((L.getD k []).take j).contains _ with
  | false=>rfl
  | true=>
   rw[zzL60]at hc;obtain⟨m,hm,he⟩:=H8 hc
   have hm':m<j:=by simp at hm;omega
   rw[List.getElem_take]at he;have:=tI hok hm' hj;rw[Ad _ _ _ (show m<(L.getD k []).length by omega)]at this;omega
 by_cases hi2:i=((L.getD k []).getD j 0).toNat
 ·rw[ hnot]
  have:Yb L k (j+1) i=true:=by
   unfold Yb;rw[bY hj, hi2,Mp a0]
   simp
  rw[this,hi2]
  simp
 ·rw[if_neg hi2]
  have:Yb L k (j+1) i=Yb L k j i:=by
   unfold Yb;rw[bY hj,GS,zzL60,zzL60,zzL8]
   constructor
   ·grind
   ·exact .inl
  rw[this]
theorem gj(L:List (List Int))(h:N4 L=true):O9 L=some (Co L):=by
 obtain⟨h1,h2,h3⟩:=mayS_iff.1 h
 have ab1:(1000:Nat)<=room:=by decide
 unfold O9;rw[Ac ⟨by omega,Int.le_refl _,by omega⟩,Ao]
 have ak9:∀ k,k<L.length->Ae _ ((0:Int),Qg L k 0)=some (Qg L k (L.getD k []).length):=λk hk=>by
  have hok:=h3 k hk;refine Ga (On L (k:Int)) (λj=>(((j:Nat):Int),Qg L k j)) _ (L.getD k []).length (λj hj=>?_) ?_
  ·obtain⟨a0,a1⟩:=FO hok hj
   have IT:(Qg L k j).length=L.length:=by simp[Qg]
   have hl64:=HW hok;unfold On;simp only[Ao,B0 hj,Ah];have hb:As ((L.getD k []).getD j 0) (Qg L k j).length:=⟨a0,by rw[IT];exact a1⟩
   have hrow:((Qg L k j).getD ((L.getD k []).getD j 0).toNat []).length<=k+1:=by
    unfold Qg;rw[So (by omega),He];have:=BW L k ((L.getD k []).getD j 0).toNat
    split
    ·rw[JG];omega
    ·rw[List.length_nil];omega
   rw[Ac (F5 hj),Ac hb,Ac hb,Ac (by grind),Ac hb,fp L h k j hk hj,w1 (by omega)]
  ·unfold On;simp only[Ao,Cy,Ar]
 have r0:∀ k,Qg L k 0=(List.range L.length).map (Lc L k):=λk=>by
  unfold Qg
  apply H3
  intro i _;simp[Yb]
 have r1:∀ k,Qg L k (L.getD k []).length=(List.range L.length).map (Lc L (k+1)):=λk=>by
  unfold Qg
  apply H3
  intro i _;rw[GB];unfold Yb CR;rw[RH]
 have:Ae (Lr L) ((0:Int),(List.range L.length).map (Lc L 0))=some (Co L):=Ga (Lr L) (λk=>(((k:Nat):Int),(List.range L.length).map (Lc L k))) (Co L) L.length (λk hk=>?_) ?_
 ·have e0:(List.replicate L.length ([]:List Int))=(List.range L.length).map (Lc L 0):=by
   apply List.ext_getElem?
   intro i
   by_cases hi:i<L.length<;>simp[hi,List.getElem?_replicate,Lc]
  rw[e0,this];rfl
 ·unfold Lr;simp only[B0 hk,Ah];rw[Ac (F5 hk),<- r0,ak9 k hk,r1,w1 (by omega)]
  rfl
 ·unfold Lr;simp only[Cy,Ar]
  rfl
theorem Xl[DecidableEq α]{a b:List α}{d:α}(h:a.length=b.length):((List.range a.length).all λi=>decide (a.getD i d=b.getD i d))=decide (a=b):=by
 rw[GS,all_range,Hs]
 constructor
 ·intro ac3
  apply JI h
  intro i h1 h2;have:=PD (ac3 i h1);rwa[Ad _ _ _ h1,Ad _ _ _ h2]at this
 ·rintro rfl i _
  simp
theorem LY{a b:Nat}:(((a:Nat):Int)!=(b:Int))=decide (a≠b):=by
 grind
theorem dL{a b:Int}:(a !=b) = !decide (a=b):=by
 grind
theorem SR(a b:List Int)(hb:b.length<4611686018427387904):E6 a b=some (decide (a=b)):=by
 unfold E6;rw[LY]
 by_cases hl:a.length=b.length
 ·rw[Ds (by simpa using hl)];have:Ae (Fc a b) 0=_:=Ix _ (λj=>(j:Int)) (λi=>decide (a.getD i 0=b.getD i 0)) (.inl ()) (.inr false) a.length (λj hj hp=>?_) (λj hj hp=>?_) ?_
  ·rw[this,Xl hl]
   cases decide (a=b)<;>rfl
  ·unfold Fc;simp only[Ao,B0 hj];rw[Ac (F5 hj),Ac (F5 (by omega)),dL,hp,w1 (by omega)]
   rfl
  ·unfold Fc;simp only[Ao,B0 hj];rw[Ac (F5 hj),Ac (F5 (by omega)),dL,hp]
   rfl
  ·unfold Fc;simp only[Cy,Ar]
 ·rw[Da (by simpa using hl),Ah,Ds (λh=>hl (by rw[h]))]
theorem kP(a b:List Int)(ha:a.length<4611686018427387904):C0 a b=some (decide (a=b)):=by
 unfold C0;rw[LY]
 by_cases hl:a.length=b.length
 ·rw[Ds (by simpa using hl)];have:Ae _ (0:Int)=_:=Ix (Gg a b) (λj=>(j:Nat)) (λi=>decide (a.getD i 0=b.getD i 0)) (.inl ()) (.inr false) a.length (λj hj hp=>?_) (λj hj hp=>?_) ?_
  ·rw[this,Xl hl]
   cases decide (a=b)<;>rfl
  ·unfold Gg;simp only[Ao,B0 hj];rw[Ac (F5 hj),Ac (F5 (by omega)),dL,hp,w1 (by omega)]
   rfl
  ·unfold Gg;simp only[Ao,B0 hj];rw[Ac (F5 hj),Ac (F5 (by omega)),dL,hp]
   rfl
  ·unfold Gg;simp only[Cy,Ar]
 ·rw[Da (by simpa using hl),Ah,Ds (λh=>hl (by rw[h]))]
theorem gk(a b:List (List Int))(hb:Fits b):Dy a b=some (decide (a=b)):=by
 unfold Dy;rw[LY]
 by_cases hl:a.length=b.length
 ·rw[Ds (by simpa using hl)];have hb1:=hb.1;have:Ae _ (0:Int)=_:=Ix (Cd a b) (λj=>(j:Nat)) (λi=>decide (a.getD i []=b.getD i [])) (.inl ()) (.inr false) a.length (λj hj hp=>?_) (λj hj hp=>?_) ?_
  ·rw[this,Xl hl]
   cases decide (a=b)<;>rfl
  ·unfold Cd;simp only[Ao,B0 hj];rw[Ac (F5 hj),Ac (F5 (by omega)),SR _ _ (hb.at j),hp,w1 (by omega)]
   rfl
  ·unfold Cd;simp only[Ao,B0 hj];rw[Ac (F5 hj),Ac (F5 (by omega)),SR _ _ (hb.at j),hp]
   rfl
  ·unfold Cd;simp only[Cy,Ar]
 ·rw[Da (by simpa using hl),Ah,Ds (λh=>hl (by rw[h]))]
theorem Rj(L:List (List Int)):(Co L).length=L.length:=by simp[Co]
theorem Zm(hi:i<L.length):(Co L).getD i []=Lc L L.length i:=by unfold Co;rw[So hi]
theorem Vv(h:N4 L=true):(Co L).length<=64/\∀ l∈Co L,l.length<=64:=by
 obtain⟨h1,_⟩:=V4 h;refine⟨by rw[Rj];exact h1,λl hl=>?_⟩;obtain⟨i,hi,rfl⟩:=zzL16.1 hl;have:=BW L L.length i;omega
theorem Wu(h:L.length<=64/\∀ l∈L,l.length<=64):Fits L:=xQ ⟨by omega,λl hl=>by have:=h.2 l hl;omega⟩
def IL(g:If):Bool:=N4 g.Succ&&decide (g.Pred=Co g.Succ)
theorem zM(g:If)(h:Fits g.Succ):Xr g=some (IL g):=by
 unfold Xr IL;rw[pR _ h]
 cases hm:N4 _ with
 | false=>rfl
 | true=>
  simp only[X3,Ah,gj _ hm,Am,gk _ _ (Wu (Vv hm)),Kd]
def La(L:List (List Int)):If:=⟨L,Co L⟩
def g0:If:=⟨[],[]⟩
theorem UY(h:N4 L=true):IL (La L)=true:=by simp[IL,La,h]
theorem mr(l:List Int)(x:Int)(h:l.length<4611686018427387904):Ff l x=some (l.contains x):=by
 unfold Ff;have:Ae _ (0:Int)=_:=Ix (G9 l x) (λj=>(j:Nat)) (λi=>!decide (l.getD i 0=x)) (.inl ()) (.inr true) l.length (λj hj hp=>?_) (λj hj hp=>?_) ?_
 ·rw[this]
  have e:l.contains x = !((List.range l.length).all λi=>!decide (l.getD i 0=x)):=by
   rw[GS,zzL60,Qr,<- Bool.not_eq_true,all_range]
   constructor
   ·intro hx ac3;obtain⟨i,hi,rfl⟩:=H8 hx;have:=ac3 i hi;rw[Ad _ _ _ hi]at this;simp at this
   ·grind
  rw[e]
  cases(List.range _).all _<;>rfl
 ·unfold G9;simp only[Ao,B0 hj]
  have:(l.getD j 0==x)=false:=by simpa using hp
  rw[Ac (F5 hj),this,w1 (by omega)]
  rfl
 ·unfold G9;simp only[Ao,B0 hj]
  have:(l.getD j 0==x)=true:=by simpa using hp
  rw[Ac (F5 hj),this]
  rfl
 ·unfold G9;simp only[Cy,Ar]
theorem cF{X:Type}(a b:List (List Int))(f:Int->Option (LR Int (Unit ⊕ Bool)))(ha:Fits a)(hl:a.length=b.length)
  (hn:∀ i:Nat,i<a.length->f (i:Int)=(C0 (a.getD i []) (b.getD i [])).bind λx=>bif (!x) then some (.done (.inr false)) else some (.next (w64 ((i:Int)+1)))) (he:f (a.length:Int)=some (.done (.inl ()))) :
  Ae f (0:Int)=some (bif decide (a=b) then .inl () else .inr false):=by
 have ha1:=ha.1;have:Ae f 0=_:=Ix f (λj=>(j:Int)) (λi=>decide (a.getD i []=b.getD i [])) _ (.inr false) _ (λj hj hp=>?_) (λj hj hp=>?_) he
 ·rw[this,Xl hl]
 ·rw[hn j hj,kP _ _ (ha.at j),hp,w1 (by omega)];rfl
 ·rw[hn j hj,kP _ _ (ha.at j),hp];rfl
theorem Abt(a b:If)(h1:Fits a.Succ)(h2:Fits a.Pred):L3 a b=some (decide (a=b)):=by
 have e:decide (a=b)=(decide (a.Succ=b.Succ)&&decide (a.Pred=b.Pred)):=by
  cases a;cases b
  simp
 rw[e];unfold L3;rw[LY,LY]
 by_cases hs:a.Succ.length=b.Succ.length
 ·by_cases hp:a.Pred.length=b.Pred.length
  ·rw[Ds (by simpa using hs), Ds (by simpa using hp)]
   have s1:=cF (X:=Unit) _ _ (Jb a b) h1 hs (λi hi=>by
    unfold Jb;simp only[Ao,B0 hi,Ah]
    rw[Ac (F5 hi),Ac (F5 (by omega))]) (by
    unfold Jb
    simp only[Cy,Ar])
   have s2:=cF (X:=Unit) _ _ (Jc a b) h2 hp (λi hi=>by
    unfold Jc;simp only[Ao,B0 hi,Ah]
    rw[Ac (F5 hi),Ac (F5 (by omega))]) (by
    unfold Jc
    simp only[Cy,Ar])
   rw[s1]
   cases decide (a.Succ=b.Succ) with
   | false=>rfl
   | true=>
    grind
  ·grind
 ·grind
variable {s p:Nat->Bool}{y z x r a k:Nat}{S:Nat->List Nat}{st T:List Int}{g:If}{X:Type}{e:Ny}
theorem Om{R:Type}{c:Bool}{q:Prop}[Decidable q]{k:Option R}(h:q):Ay (c=true->q) k=k:=Ac λ_=>h
def rh(n:Nat)(l:List Int)(j:Nat):Bool:=
 bif (bif decide (l.getD j 0<0) then true else decide ((n:Int)<=l.getD j 0)) then true else(bif decide ((0:Int)<(j:Int)) then decide (l.getD j 0<=l.getD (j-1) 0) else false)
theorem ri(n:Nat)(l:List Int)(j:Nat):rh n l j = !ka n l j:=by
 unfold rh ka
 by_cases h0:l.getD j 0<0
 ·grind
 ·grind
theorem QW(L:List (List Int))(i:Nat)(hi:i<L.length)(hl:(L.getD i []).length<4611686018427387904) :
  Ae (Eh L (i:Int)) (0:Int)=some (bif qK L.length (L.getD i []) then .inl () else .inr (g0,5)):=by
 have hw:∀ j:Nat,j<(L.getD i []).length->0<j->w64 (j-1)=(j-1:Nat):=λj hj hp=>by rw[F1 (by omega) (by omega)];omega
 have step:∀ j,j<(L.getD i []).length->Eh L i j=bif rh _ _ j then some _ else some (.next ((j+1:Nat))):=λj hj=>by
  unfold Eh;simp only[Ao,B0 hj];rw[Ac (F5 hi),Ac (F5 hi),Ac (F5 hj),Om (F5 hi),Om (F5 hj),Om (F5 hi),Om (F5 hj),Om (F5 hi),w1 (by omega)]
  by_cases hz:j=0
  ·subst hz
   have:decide (0<((0:Nat):Int))=false:=by decide
   rw[this];rw[show((false==true)=false) from rfl,Bool.and_false]
   rfl
  ·rw[hw j hj (by omega),Om (F5 (by omega))]
   rfl
 have:=Ix (Eh L i) (λj=>(j:Nat)) (ka L.length (L.getD i [])) (.inl ()) (.inr (g0,5)) (L.getD i []).length (λj hj hp=>?_) (λj hj hp=>?_) ?_
 ·exact this
 ·rw[step j hj,ri,hp];rfl
 ·rw[step j hj,ri,hp];rfl
 ·unfold Eh;simp only[Ao,Cy,Ar];rw[Ac (F5 hi)]
theorem au(L:List (List Int))(h:N4 L=true):Ae (Ei L) ((0:Int),List.replicate L.length ([]:List Int))=some (Co L):=by
 obtain⟨h1,h2,h3⟩:=mayS_iff.1 h
 have ab1:(1000:Nat)<=room:=by decide
 have ac6:=Wu (V4 h)
 let R:Nat->Nat->List (List Int):=λi k=>(List.range L.length).map λj=>if j<i then Lc L L.length j else if j=i then Lc L k i else[]
 have ak9:∀ i,i<L.length->Ae _ ((0:Int),R i 0)=some (R i L.length):=λi hi=>by
  refine Ga (Ja L (i:Int)) (λk=>(((k:Nat):Int),R i k)) (R i L.length) L.length (λk hk=>?_) ?_
  ·have IT:(R i k).length=L.length:=by simp[R]
   have hat:(R i k).getD i []=Lc L k i:=by simp only[R];rw[So hi];simp
   unfold Ja;simp only[Ao,B0 hk,Ah];rw[Ac (F5 hk),mr _ _ (ac6.at k),Am,w1 (by omega)];have hg:CR L k i=(L.getD k []).contains (i:Int):=rfl;rw[<- hg,hat]
   have hs:(if CR L k i=true then(R i k).set i (Lc L k i++[(k:Int)]) else R i k)=R i (k+1):=by
    split
    ·rename_i hgo
     simp only[R];rw[GH]
     apply H3
     intro j hj
     by_cases hji:j=i
     ·subst hji;simp[GB,hgo]
     ·simp[hji]
    ·rename_i hgo
     simp only[R]
     apply H3
     intro j hj
     by_cases hji:j=i
     ·subst hji;simp[GB,hgo]
     ·simp[hji]
   rw[<- hs]
   cases hgo:CR L k i with
   | false=>rfl
   | true=>
    have:=BW L k i;simp only[Ah];rw[Ac (by rw[IT];exact F5 hi),Ac (by rw[IT];exact F5 hi),Ac (by rw[JG];omega),Ac (by rw[IT];exact F5 hi)]
    rfl
  ·unfold Ja;simp only[Cy,Ar]
 have:Ae (Ei L) ((0:Int),R 0 0)=some (Co L):=Ga (Ei L) (λi=>(((i:Nat):Int),R i 0)) (Co L) L.length (λi hi=>?_) ?_
 ·have e0:List.replicate L.length ([]:List Int)=R 0 0:=by
   simp only[R]
   apply List.ext_getElem?
   intro j
   by_cases hj:j<L.length<;>simp[hj,List.getElem?_replicate,Lc]
  rw[e0,this]
 ·unfold Ei;simp only[B0 hi,Ah];rw[ak9 i hi,w1 (by omega)];simp only[Am]
  congr 3
  simp only[R]
  apply H3
  intro j hj
  by_cases h4:j<i
  ·simp[h4,show j<i+1 by omega]
  ·by_cases h5:j=i
   ·subst h5;simp
   ·simp[h4,h5,show ¬ j<i+1 by omega];intro h6;simp[Lc]
 ·unfold Ei;simp only[Cy,Ar]
  congr 2
  simp only[R,Co]
  apply H3
  intro j hj;simp[hj]
theorem UU(L:List (List Int))(h:Fits L):Ir L=some (bif N4 L then(La L,0) else(g0,5)):=by
 have ab1:1000<=room:=by decide
 unfold Ir
 have hc:(bif (L.length==(0:Int)) then true else decide (64<(L.length:Int))) = !(decide (1<=L.length)&&decide (L.length<=64)):=by
  grind
 rw[hc];have hm:N4 L=((decide _&&decide _)&&(List.range _).all _):=rfl
 cases hb:(decide (1<=L.length)&&decide (L.length<=64)) with
 | false=>rw[hm,hb];rfl
 | true=>
  have hb':=hb;simp only[Az,Hs]at hb';have:Ae (Gj L) 0=_:=Ix _ (λj=>(j:Int)) (λi=>qK L.length (L.getD i [])) (.inl ()) (.inr (g0,5)) L.length (λj hj hp=>?_) (λj hj hp=>?_) ?_
  ·rw[this]
   cases ac3:(List.range L.length).all _ with
   | false=>rw[hm,hb,ac3];rfl
   | true=>
    have hmay:N4 L=true:=by rw[hm,hb,ac3];rfl
    rw[hmay];rw[Ac ⟨by omega,Int.le_refl _,by omega⟩,Ao,au L hmay]
    rfl
  ·unfold Gj;simp only[B0 hj];rw[QW L j hj (h.at j),hp,w1 (by omega)]
   rfl
  ·unfold Gj;simp only[B0 hj];rw[QW L j hj (h.at j),hp]
   rfl
  ·unfold Gj;simp only[Cy,Ar]
theorem LT(h:N4 L=true):Fits (La L).Succ/\Fits (La L).Pred:=⟨Wu (V4 h),Wu (Vv h)⟩
theorem pN(g:If)(h:Fits g.Succ):My g=some (IL g):=by
 unfold My IL;rw[UU _ h,Am]
 cases hm:N4 _ with
 | false=>rfl
 | true=>
  simp only[Ah,X3];rw[Abt _ _ (LT hm).1 (LT hm).2];simp only[Am]
  congr 1
  apply zzL83.2
  cases g with
  | mk s p=>
   simp only[La,If.mk.injEq,true_and];exact Yq
noncomputable section
def upd(s:Nat->Bool)(y:Nat):Nat->Bool:=λz=>decide (z=y) || s z
theorem upd_true:upd s y z=true↔z=y\/s z=true:=by simp[upd]
theorem upd_false:upd s y z=false↔z≠y/\s z=false:=by simp[upd]
inductive VL (S:Nat->List Nat):(Nat->Bool)->List Nat->(Nat->Bool)->List Nat->Prop
 | nil (s:Nat->Bool):VL S s [] s []
 | skip {s s':Nat->Bool} {y:Nat} {l o:List Nat} (h:s y=true) (t:VL S s l s' o):VL S s (y::l) s' o
 | step {s s1 s2:Nat->Bool} {y:Nat} {l o1 o2:List Nat} (h:s y=false) (a:VL S (upd s y) (S y) s1 o1) (b:VL S s1 l s2 o2):VL S s (y::l) s2 (o1++y::o2)
inductive Rch (S:Nat->List Nat):Nat->Nat->Prop
 | refl (x:Nat):Rch S x x
 | head {x y z:Nat} (h:y∈S x) (t:Rch S y z):Rch S x z
theorem Rch.tail(h:Rch S x y)(hz:z∈S y):Rch S x z:=by
 induction h with
 | refl x=>exact .head hz (.refl _)
 | head h _ ih=>exact .head h (ih hz)
theorem Rch.trans(h:Rch S x y)(k:Rch S y z):Rch S x z:=by
 induction h with
 | refl x=>exact k
 | head h _ ih=>exact .head h (ih k)
variable {S:Nat->List Nat} {s s':Nat->Bool} {l o:List Nat}
theorem VL.seen(h:VL S s l s' o)(z:Nat):s' z=true↔s z=true\/z∈o:=by
 induction h with
 | nil s=>simp
 | skip h _ ih=>exact ih
 | @step s s1 s2 y l o1 o2 h a b iha ihb=>
  rw[ihb,iha,upd_true]
  constructor
  ·grind
  ·grind
theorem VL.fresh(h:VL S s l s' o)(hz:z∈o):s z=false:=by
 induction h with
 | nil s=>cases hz
 | skip h _ ih=>exact ih hz
 | @step s s1 s2 y l o1 o2 h a b iha ihb=>
  rcases zzL8.1 hz with h1|h1
  ·exact(upd_false.1 (iha h1)).2
  ·rcases zzL31.1 h1 with rfl|h1
   ·exact h
   ·have:=ihb h1
    cases hs:s z with
    | false=>rfl
    | true=>rw[(a.seen z).2 (.inl (upd_true.2 (.inr hs)))]at this;cases this
theorem VL.nodup(h:VL S s l s' o):o.Nodup:=by
 induction h with
 | nil s=>exact List.nodup_nil
 | skip h _ ih=>exact ih
 | @step s s1 s2 y l o1 o2 h a b iha ihb=>
  rw[List.nodup_append];refine⟨iha,zzL108.2 ⟨λhy=>?_,ihb⟩,λu hu v hv=>?_⟩
  ·have:=b.fresh hy;rw[(a.seen y).2 (.inl (upd_true.2 (.inl rfl)))]at this
   cases this
  ·rintro rfl;rcases zzL31.1 hv with rfl|hv
   ·have:=a.fresh hu;rw[upd_true.2 (.inl rfl)]at this
    cases this
   ·have:=b.fresh hv;rw[(a.seen u).2 (.inr hu)]at this
    cases this
theorem VL.rch(h:VL S s l s' o)(hz:z∈o):∃ y∈l,Rch S y z:=by
 induction h with
 | nil s=>cases hz
 | skip h _ ih=>grind
 | @step s s1 s2 y l o1 o2 h a b iha ihb=>
  rcases zzL8.1 hz with h1|h1
  ·obtain⟨u,hu,hr⟩:=iha h1;exact⟨y,zzL44 ..,.head hu hr⟩
  ·rcases zzL31.1 h1 with rfl|h1
   ·exact⟨z,zzL44 ..,.refl z⟩
   ·grind
theorem VL.closed(h:VL S s l s' o):(∀ y∈l,s' y=true)/\∀ z∈o,∀ y∈S z,s' y=true:=by
 induction h with
 | nil s=>grind
 | @skip s s' y l o h t ih=>
  refine⟨λu hu=>?_,ih.2⟩;rcases zzL31.1 hu with rfl|hu
  ·exact(t.seen u).2 (.inl h)
  ·exact ih.1 u hu
 | @step s s1 s2 y l o1 o2 h a b iha ihb=>
  refine⟨λu hu=>?_,λz hz u hu=>?_⟩
  ·rcases zzL31.1 hu with rfl|hu
   ·exact(b.seen u).2 (.inl ((a.seen u).2 (.inl (upd_true.2 (.inl rfl)))))
   ·exact ihb.1 u hu
  ·rcases zzL8.1 hz with h1|h1
   ·exact(b.seen u).2 (.inl (iha.2 z h1 u hu))
   ·rcases zzL31.1 h1 with rfl|h1
    ·exact(b.seen u).2 (.inl (iha.1 u hu))
    ·exact ihb.2 z h1 u hu
theorem VL.above(h:VL S s l s' o)(hf:∀ z,∀ y∈S z,z<y){b:Nat}(hb:∀ y∈l,b<y):∀ z∈o,b<z:=by
 induction h generalizing b with
 | nil s=>intro z hz;cases hz
 | skip h _ ih=>exact ih (λy hy=>hb y (Mo _ hy))
 | @step s s1 s2 y l o1 o2 h a c iha ihb=>
  intro z hz;have hy:=hb y (zzL44 ..);rcases zzL8.1 hz with h1|h1
  ·exact iha (λu hu=>Nat.lt_trans hy (hf y u hu)) z h1
  ·rcases zzL31.1 h1 with rfl|h1
   ·exact hy
   ·exact ihb (λu hu=>hb u (Mo _ hu)) z h1
theorem VL.ahead(h:VL S s l s' o)(hf:∀ z,∀ y∈S z,z<y):∀ z∈o,∀ y∈S z,s y=true\/∃ A B,o=A++z::B/\y∈A:=by
 induction h with
 | nil s=>intro z hz;cases hz
 | skip h _ ih=>exact ih
 | @step s s1 s2 y l o1 o2 h a c iha ihb=>
  intro z hz u hu;rcases zzL8.1 hz with h1|h1
  ·have hzy :=a.above hf (λv hv=>hf y v hv) z h1;have hzu:=hf z u hu;rcases iha z h1 u hu with h2|⟨A,B,rfl,hA⟩
   ·rcases upd_true.1 h2 with rfl|h2
    ·omega
    ·exact .inl h2
   ·grind
  ·rcases zzL31.1 h1 with rfl|h1z
   ·have hzu:=hf z u hu;rcases(a.seen u).1 (a.closed.1 u hu) with h2|h2
    ·rcases upd_true.1 h2 with rfl|h2
     ·omega
     ·exact .inl h2
    ·grind
   ·rcases ihb z h1z u hu with h2|⟨A,B,rfl,hA⟩
    ·rcases(a.seen u).1 h2 with h3|h3
     ·rcases upd_true.1 h3 with rfl|h3
      ·obtain⟨P,Q,rfl⟩:=List.append_of_mem h1z;exact .inr ⟨o1++u::P,Q,by simp,by simp⟩
      ·exact .inl h3
     ·obtain⟨P,Q,rfl⟩:=List.append_of_mem h1z;exact .inr ⟨o1++y::P,Q,by simp,by simp[h3]⟩
    ·grind
def fm(n:Nat)(s:Nat->Bool):Nat:=((List.range n).filter λz=>!s z).length
theorem HL{s:Nat->Bool}(hy:y<n)(h:s y=false):fm n (upd s y)+1=fm n s:=by
 unfold fm
 induction n with
 | zero=>omega
 | succ n ih=>
  rw[JJ,JH,JH,He,He]
  by_cases hyn:y=n
  ·subst hyn
   have e:(List.range y).filter (λz=>!upd s y z)=(List.range y).filter (λz=>!s z):=by
    apply List.filter_congr
    intro z hz;have:=zzL41.1 hz;simp[upd,show z≠y by omega]
   rw[e];simp[upd,h]
  ·have e:([n].filter λz=>!upd s y z).length=([n].filter λz=>!s z).length:=by
    simp only[List.filter_cons, upd];simp[Tg hyn]
   omega
theorem fo{s s':Nat->Bool}(h:∀ z,s z=true->s' z=true):fm n s'<=fm n s:=by
 apply List.Sublist.length_le
 have:(List.range n).filter (λz=>!s' z)=((List.range n).filter λz=>!s z).filter λz=>!s' z:=by
  rw[List.filter_filter]
  apply List.filter_congr
  intro z _
  cases hs:s z with
  | false=>simp
  | true=>simp[h z hs]
 rw[this];exact List.filter_sublist
theorem VL.exist(hS:∀ z,z<n->∀ y∈S z,y<n):∀(m:Nat) (s:Nat->Bool),fm n s<=m->∀ l:List Nat,(∀ y∈l,y<n)->∃ s' o,VL S s l s' o:=by
 intro m
 induction m with
 | zero=>
  intro s hm l
  induction l with
  | nil=>intro _;exact⟨s,[],.nil s⟩
  | cons y l ih=>
   intro hl;obtain⟨s',o,h⟩:=ih (λz hz=>hl z (Mo _ hz))
   cases hy:s y with
   | true=>exact⟨s',o,.skip hy h⟩
   | false=>have:=HL (hl y (zzL44 ..)) hy;omega
 | succ m ih=>
  intro s hm l
  induction l generalizing s with
  | nil=>intro _;exact⟨s,[],.nil s⟩
  | cons y l ihl=>
   intro hl
   cases hy:s y with
   | true=>
    obtain⟨s',o,h⟩:=ihl s hm (λz hz=>hl z (Mo _ hz));exact⟨s',o,.skip hy h⟩
   | false=>
    have hyn:=hl y (zzL44 ..);have:=HL hyn hy;obtain⟨s1,o1,h1⟩:=ih (upd s y) (by omega) _ (hS y hyn);have h2:fm n s1<=fm n s:=fo λz hz=>(h1.seen z).2 (.inl (upd_true.2 (.inr hz)));obtain⟨s2,o2,h3⟩:=ihl s1 (by omega) (λz hz=>hl z (Mo _ hz));exact⟨s2,_,.step hy h1 h3⟩
def one(r:Nat):Nat->Bool:=λz=>decide (z=r)
def Ord(S:Nat->List Nat)(r:Nat)(L:List Nat):Prop:=∃ s' o,VL S (one r) (S r) s' o/\L=r::o.reverse
theorem Ord.exist(hS:∀ z,z<n->∀ y∈S z,y<n)(hr:r<n):∃ L,Ord S r L:=by
 obtain⟨s',o,h⟩:=VL.exist hS _ _ (zzL7 _) _ (hS r hr);exact⟨_,s',o,h,rfl⟩
theorem Ord.mem{L:List Nat}(h:Ord S r L)(z:Nat):z∈L↔Rch S r z:=by
 obtain⟨s',o,h,rfl⟩:=h
 have hs:∀ z,s' z=true↔z=r\/z∈o:=λz=>by rw[h.seen];simp[one]
 have hc:∀ x,s' x=true->∀ y∈S x,s' y=true:=λx hx y hy=>by
  rcases(hs x).1 hx with rfl|hx
  ·exact h.closed.1 y hy
  ·exact h.closed.2 x hx y hy
 simp only[zzL31,List.mem_reverse];rw[<- hs z]
 constructor
 ·intro hz;rcases(hs z).1 hz with rfl|hz
  ·exact .refl _
  ·obtain⟨y,hy,hr⟩:=h.rch hz;exact .head hy hr
 ·intro hr
  have key:∀ x z,Rch S x z->s' x=true->s' z=true:=by
   intro x z hxz
   induction hxz with
   | refl x=>exact id
   | head hy _ ih=>grind
  exact key r z hr ((hs r).2 (.inl rfl))
theorem Ord.nodup{L:List Nat}(h:Ord S r L):L.Nodup:=by
 obtain⟨s',o,h,rfl⟩:=h;refine zzL108.2 ⟨λhr=>?_,(List.reverse_perm o).nodup_iff.2 h.nodup⟩;have:=h.fresh (List.mem_reverse.1 hr);simp[one]at this
theorem Ord.fwd{L:List Nat}(h:Ord S r L)(hf:∀ z,∀ y∈S z,z<y):∀ z∈L,∀ y∈S z,∃ A B,L=A++z::B/\y∈B:=by
 obtain⟨s',o,h,rfl⟩:=h;intro z hz y hy;have hzy:=hf z y hy;rcases zzL31.1 hz with rfl|hz
 ·refine⟨[],o.reverse,rfl,?_⟩;rcases(h.seen y).1 (h.closed.1 y hy) with h1|h1
  ·simp[one]at h1;omega
  ·grind
 ·have hz:=List.mem_reverse.1 hz;have hrz :=h.above hf (λv hv=>hf r v hv) z hz;rcases h.ahead hf z hz y hy with h1|⟨A,B,rfl,hA⟩
  ·simp[one]at h1;omega
  ·grind
end
theorem pO(l:List Int)(hl:l.length<4611686018427387904):F0 l=some l.reverse:=by
 unfold F0
 by_cases h0:l.length=0
 ·obtain rfl:l=[]:=zzL116.1 h0
  have:Ae Bq ((0:Int),(w64 ((([]:List Int).length:Int)-1)),([]:List Int))=some []:=by
   apply An
   unfold Bq;rw[F1 (by simp) (by simp)]
   rfl
  rw[this];rfl
 ·have hw:w64 ((l.length:Int)-1)=((l.length-1:Nat):Int):=by rw[F1 (by omega) (by omega)];omega
  rw[hw]
  let C:Nat->List Int:=λk=>(List.range l.length).map λi=>if i<k\/l.length-1-k<i then l.getD (l.length-1-i) 0 else l.getD i 0
  have hC:∀ k i,i<l.length->(C k).getD i 0=if i<k\/l.length-1-k<i then l.getD (l.length-1-i) 0 else l.getD i 0:=λk i hi=>by simp only[C];rw[So hi]
  have IT:∀ k,(C k).length=l.length:=λk=>by simp[C]
  have:=Ga Bq (λk=>(((k:Nat):Int),((l.length-1-k:Nat):Int),C k)) l.reverse (l.length / 2) (λk hk=>?_) ?_
  ·have e0:C 0=l:=by
    apply JI (by simp[C])
    intro i h1 h2;have:=hC 0 i h2;rw[Ad _ _ _ h1,Ad _ _ _ h2]at this;rw[this,if_neg (by omega)]
   have this':Ae Bq ((0:Int),((l.length-1:Nat):Int),l)=some l.reverse:=by
    have h2:=this;simp only[e0]at h2;exact h2
   rw[this'];rfl
  ·show Bq (_,_,_)=_
   unfold Bq
   have hlt:k<l.length-1-k:=by omega
   simp only[B0 hlt,Ah,Ao];rw[Ac (F5 (by rw[IT];omega)),Ac (F5 (by rw[IT];omega)),Ac (F5 (by rw[IT];omega)),Ac (F5 (by rw[IT];omega))];rw[w1 (by omega),show w64 (((l.length-1-k:Nat):Int)-1)=((l.length-1-(k+1):Nat):Int) by rw[F1 (by omega) (by omega)];omega]
   congr 4
   rw[hC k _ (by omega),hC k _ (by omega),if_neg (by omega),if_neg (by omega)];simp only[C];rw[GH,GH]
   apply H3
   intro i hi
   by_cases h1:i=k
   ·subst h1;rw[if_neg (by omega),if_pos rfl,if_pos (by omega)]
   ·by_cases h2:i=l.length-1-k
    ·subst h2;rw[if_pos rfl,if_pos (by omega)]
     congr 1;omega
    ·rw[if_neg h2,if_neg h1]
     by_cases h3:i<k\/l.length-1-k<i
     ·rw[if_pos h3,if_pos (by omega)]
     ·rw[if_neg h3,if_neg (by omega)]
  ·show Bq (_,_,_)=_
   unfold Bq;have hd:decide (((l.length / 2:Nat):Int)<((l.length-1-l.length / 2:Nat):Int))=false:=Ds (by omega);simp only[hd,Ar]
   congr 2
   apply JI (by simp[C])
   intro i h1 h2
   have h3:i<l.length:=by simpa [C] using h1
   have:=hC (l.length / 2) i h3;rw[Ad _ _ _ h1]at this;rw[this,List.getElem_reverse]
   split
   ·rw[Ad _ _ _ (by omega)]
   ·rw[Ad _ _ _ h3]
    congr 1;omega
theorem top{st:List Int}{a:Int}(h:st.length<4611686018427387904):(st++[a]).getD (w64 (((st++[a]).length:Int)-1)).toNat 0=a:=by
 have:w64 ((st++[a]).length-1)=(st.length:Int):=by rw[He,JG,F1 (by omega) (by omega)];omega
 rw[this];simp[List.getD]
theorem Ae7{a:Int}(h:st.length<4611686018427387904):w64 (((st++[a]).length:Int)-1)=((st.length:Nat):Int):=by
 rw[He,JG,F1 (by omega) (by omega)];omega
theorem vW{R:List Bool}(hst:st.length<64)(ha:a<g.Succ.length)(h64:g.Succ.length<=64)(ht:T.getD a 0=((g.Succ.getD a []).length:Int)) :
  Kg g R (st++[(a:Int)]) T=some (.done (.inl T)):=by
 unfold Kg;simp only[top (st:=st)  (by omega),Ao];rw[Ac (F5 (by omega)),Ac (F5 ha),ht,Cy,Ar]
theorem mF{R:List Bool}{t:Nat}(hst:st.length<64)(ha:a<g.Succ.length)(h64:g.Succ.length<=64)(ht:T.getD a 0=(t:Int))(htl:t<(g.Succ.getD a []).length)(htm:t<64)
  (hy:(g.Succ.getD a []).getD t 0=(y:Int)) (hyn:y<g.Succ.length) :
  Kg g R (st++[(a:Int)]) T=bif R.getD y false then some (.next (R8 64 (0:Int) T a ((t+1:Nat):Int))) else some (.done (.inr (R8 64 false R y true,R8 64 (0:Int) T a ((t+1:Nat):Int),(st++[(a:Int)])++[(y:Int)]))):=by
 have ab1:1000<=room:=by decide
 unfold Kg;simp only[top (st:=st)  (by omega),Ao,ht,hy];rw[Ac (F5 (by omega)),Ac (F5 ha),B0 htl, Ac (F5 ha),Ac (F5 (by omega)),Ac (F5 htl),Ac (F5 (by omega)),Ac (F5 (by omega)),Ac (F5 (by omega)),w1 (by omega)]
 cases R.getD y _ with
 | true=>rfl
 | false=>
  simp only[Mq,Ah,Ar];rw[Ac (F5 (by omega)),Ac (by grind)]
theorem mE{R:List Bool}{Lf:List Int}(hst:st.length<64)(hLf:Lf.length<64) :
  E3 g (R,T,st++[(a:Int)],Lf)=(Ae (Kg g R (st++[(a:Int)])) T).bind λx=>match x with
   | .inl T'=>if st=[] then some (.done (Lf++[(a:Int)]).reverse) else some (.next (R,T',st,Lf++[(a:Int)]))
   | .inr (R',T',st')=>some (.next (R',T',st',Lf)):=by
 have ab1:1000<=room:=by decide
 unfold E3;simp only
 have hb:As (w64 ((st++[(a:Int)]).length-1)) (st++[(a:Int)]).length:=by rw[Ae7 (by omega)];exact F5 (by simp)
 rw[Ac hb]
 congr 1
 funext x
 cases x with
 | inr y =>  rfl
 | inl T'=>
  simp only[top (st:=st)  (by omega)];rw[Ae7 (by omega),Ao,Ac (by grind),Ac ⟨by omega,by simp⟩];have e:(st++[(a:Int)]).take _=st:=List.take_left' rfl;rw[e]
  cases st with
  | nil=>
   rw[if_pos rfl]
   have:decide (0<(([]:List Int).length:Int))=false:=by decide
   rw[this,Ar,pO _ (by simp;omega)];simp only[Am];rw[Ac (by simp)]
  | cons b st'=>
   simp_all
theorem kM{S:Type}{f:S->Option (LR S X)}{a b:S}(h:f a=f b):Ae f a=Ae f b:=by
 cases hb:f b with
 | none=>rw[JZ (h.trans hb),JZ hb]
 | some r=>cases r with
  | done x=>rw[An (h.trans hb),An hb]
  | next s=>rw[Ap (h.trans hb),Ap hb]
theorem QZ{S:Type}{f:S->Option (LR S X)}{s:S}:U8 (f s) f=Ae f s:=by
 cases hb:f s with
 | none=>rw[JZ hb];rfl
 | some r=>cases r with
  | done x=>rw[An hb];rfl
  | next s'=>rw[Ap hb];rfl
def sN(L:List (List Int))(k:Nat):List Nat:=(L.getD k []).map Int.toNat
def RelS(R:List Bool)(s:Nat->Bool):Prop:=∀ z,z<64->R.getD z false=s z
theorem V0{d:α}{l:List α}{x:α}(hk:k<64):(R8 64 d l i x).getD k d=if k=i then x else l.getD k d:=by
 rw[cG hk]
 by_cases h:k=i
 · simp
 ·have:Nat.beq k i=false:=by cases hb:Nat.beq k i with|false=>rfl|true=>simp_all
  rw[this,if_neg h];rfl
theorem RelS.set{R:List Bool}(h:RelS R s):RelS (R8 64 false R y true) (upd s y):=λz hz=>by
 rw[V0 hz,h z hz]
 by_cases hzy:z=y
 ·simp[upd]
 ·simp[upd]
def Yw(o:List Nat):List Int:=o.map Int.ofNat
theorem kg(hm:N4 g.Succ=true){s':Nat->Bool}{l o:List Nat}(hv:VL (sN g.Succ) s l s' o) :
  ∀(R:List Bool) (T st Lf:List Int) (a t:Nat),RelS R s->a<g.Succ.length->l=(sN g.Succ a).drop t->T.getD a 0=(t:Int)->t<=(sN g.Succ a).length->s a=true->(∀ z,z<64->s z=false->T.getD z 0=0)->
   Lf.length+fm 64 s+st.length+1<=64->
   ∃(R':List Bool) (T':List Int),RelS R' s'/\(∀ z,z<64->s' z=false->T'.getD z 0=0)/\(∀ z,z<64->s z=true->z≠a->T'.getD z 0=T.getD z 0)/\Lf.length+o.length+fm 64 s'+st.length+1<=64 /\
    Ae (E3 g) (R,T,st++[(a:Int)],Lf)=if st=[] then some (Lf++Yw o++[(a:Int)]).reverse else Ae (E3 g) (R',T',st,Lf++Yw o++[(a:Int)]):=by
 obtain⟨hL1,ai9,hLok⟩:=mayS_iff.1 hm
 have af2:∀ a,(sN g.Succ a).length=(g.Succ.getD a []).length:=λa=>by simp[sN]
 have ak7:∀(a t y:Nat) (l':List Nat),a<g.Succ.length->y::l'=(sN g.Succ a).drop t->t<(g.Succ.getD a []).length/\(g.Succ.getD a []).getD t 0=(y:Int)/\y<g.Succ.length/\l'=(sN g.Succ a).drop (t+1):=λa t y l' ha he=>by
  have ht:t<(sN g.Succ a).length:=by
   rcases zzL119 t (sN g.Succ a).length with h|h
   ·exact h
   ·rw[List.drop_eq_nil_of_le h]at he;cases he
  rw[eD ht]at he;simp only[Hg]at he;obtain⟨h1,h2⟩:=he
  have ht':t<(g.Succ.getD a []).length:=by rw[<- af2];exact ht
  obtain⟨b0,b1⟩:=FO (hLok a ha) ht'
  have h3:(sN g.Succ a)[t]=((g.Succ.getD a []).getD t 0).toNat:=by rw[Ad _ _ _ ht'];simp[sN]
  exact⟨ht',by omega,by omega,h2⟩
 induction hv with
 | nil s=>
  intro R T st Lf a t hR ha hl hT htl hsa hz hc
  have ht:t=(g.Succ.getD a []).length:=by
   have:=Bw List.length hl;simp at this;rw[af2]at htl this;omega
  refine⟨R,T,hR,hz,λ_ _ _ _=>rfl,by simpa using hc,?_⟩
  have hF:E3 g (R,T,st++[(a:Int)],Lf)=if st=[] then some (.done (Lf++[(a:Int)]).reverse) else some (.next (R,T,st,Lf++[(a:Int)])):=by
   rw[mE (by omega) (by omega),An (vW (by omega) ha ai9 (by rw[hT,ht]))]
   rfl
  by_cases hst:st=[]
  ·rw[if_pos hst]at hF ⊢;rw[An hF];simp[Yw]
  ·rw[if_neg hst]at hF ⊢;rw[Ap hF];simp[Yw]
 | @skip s s' y l o h tl ih=>
  intro R T st Lf a t hR ha hl hT htl hsa hz hc;obtain⟨h1,h2,h3,h4⟩:=ak7 a t y l ha hl;have hb:=HW (hLok a ha);have hs:=mF (g:=g) (R:=R) (st:=st) (T:=T) (a:=a) (t:=t) (y:=y) (by omega) ha ai9 hT h1 (by omega) h2 h3;rw[hR y (by omega),h,Ah]at hs;obtain⟨R',T',a1,a2,a3,a4,a5⟩:=ih R (R8 64 (0:Int) T a ((t+1:Nat):Int)) st Lf a (t+1) hR ha h4 (by rw[V0 (by omega),if_pos rfl]) (by rw[af2];omega) hsa
   (λz hz1 hz2=>by rw[V0 hz1,if_neg (by rintro rfl;rw[hsa]at hz2;cases hz2)];exact hz z hz1 hz2) hc
  refine⟨R',T',a1,a2,λz hz1 hz2 hz3=>by rw[a3 z hz1 hz2 hz3,V0 hz1,if_neg hz3],a4,?_⟩;rw[<- a5]
  apply kM
  rw[mE (by omega) (by omega),mE (by omega) (by omega),Ap hs]
 | @step s s1 s2 y l o1 o2 h tl tr ih1 ih2=>
  intro R T st Lf a t hR ha hl hT htl hsa hz hc;obtain⟨h1,h2,h3,h4⟩:=ak7 a t y l ha hl;have hb:=HW (hLok a ha)
  have hay:y≠a:=by rintro rfl;rw[hsa]at h;cases h
  have hs:=mF (g:=g) (R:=R) (st:=st) (T:=T) (a:=a) (t:=t) (y:=y) (by omega) ha ai9 hT h1 (by omega) h2 h3;rw[hR y (by omega),h,Ar]at hs;have hcu:=HL (n:=64) (show y<64 by omega) h
  have hF:E3 g (R,T,st++[(a:Int)],Lf)=some (.next (R8 64 false R y true,R8 64 (0:Int) T a ((t+1:Nat):Int),(st++[(a:Int)])++[(y:Int)],Lf)):=by
   rw[mE (by omega) (by omega),An hs]
   rfl
  obtain⟨R1,T1,b1,b2,b3,b4,b5⟩:=ih1 (R8 64 false R y true) (R8 64 (0:Int) T a ((t+1:Nat):Int)) (st++[(a:Int)]) Lf y 0 hR.set h3 (by simp)
   (by rw[V0 (by omega),if_neg hay];exact hz y (by omega) h) (DD _) (upd_true.2 (.inl rfl))
   (λz hz1 hz2=>by
    obtain⟨c1,c2⟩:=upd_false.1 hz2;rw[V0 hz1,if_neg (by rintro rfl;rw[hsa]at c2;cases c2)]
    exact hz z hz1 c2) (by rw[He,JG];omega)
  rw[if_neg (by simp)]at b5
  have hTa:T1.getD a 0=((t+1:Nat):Int):=by rw[b3 a (by omega) (upd_true.2 (.inr hsa)) (Tg hay),V0 (by omega),if_pos rfl]
  rw[He,JG]at b4;obtain⟨R2,T2,c1,c2,c3,c4,c5⟩:=ih2 R1 T1 st (Lf++Yw o1++[(y:Int)]) a (t+1) b1 ha h4 hTa (by rw[af2];omega) ((tl.seen a).2 (.inl (upd_true.2 (.inr hsa)))) b2
   (by simp only[He,JG,Yw,F2];omega)
  refine⟨R2,T2,c1,c2,λz hz1 hz2 hz3=>?_,?_,?_⟩
  ·rw[c3 z hz1 ((tl.seen z).2 (.inl (upd_true.2 (.inr hz2)))) hz3,b3 z hz1 (upd_true.2 (.inr hz2)) (by rintro rfl;rw[h]at hz2;cases hz2),V0 hz1,if_neg hz3]
  ·simp only[He,JG,Yw,F2,Ry]at c4 ⊢;omega
  ·rw[Ap hF,b5,c5]
   have e:Lf++Yw o1++[(y:Int)]++Yw o2++[(a:Int)]=Lf++Yw (o1++y::o2)++[(a:Int)]:=by simp[Yw]
   rw[e]
theorem Ws(h:N4 L=true):∀ z,z<L.length->∀ y∈sN L z,y<L.length:=λz hz y hy=>by
 obtain⟨_,_,h3⟩:=mayS_iff.1 h;obtain⟨x,hx,rfl⟩:=zzL16.1 hy;have:=dY (h3 z hz) hx;omega
theorem xK(hr:r<64):fm 64 (one r)=63:=by
 have h:=HL  (s:=λ_=>false) hr rfl
 have e:upd (λ_=>false) r=one r:=by funext z;simp[upd,one]
 rw[e]at h
 have:fm 64 (λ_=>false)=64:=by decide
 omega
theorem MP{d:α}:(List.replicate n d).getD z d=d:=by grind
theorem dT(g:If)(h:Fits g.Succ)(hP:True)(r:Int) :
  (IL g=true->0<=r->r<(g.Succ.length:Int)->∀ L,Ord (sN g.Succ) r.toNat L->Mj g r=some (Yw L)) /\
  ((IL g&&(decide (0<=r)&&decide (r<(g.Succ.length:Int))))=false->Mj g r=some []):=by
 refine⟨λhm h0 h1 L hL=>?_,λhf=>?_⟩
 ·have hms:N4 g.Succ=true:=by unfold IL at hm;exact(Az _ _▸hm).1
  obtain⟨hL1,ai9,hLok⟩:=mayS_iff.1 hms;obtain⟨s',o,hv,rfl⟩:=hL;have hrn :=Mp h0
  have hr:r.toNat<g.Succ.length:=by omega
  obtain⟨R',T',_,_,_,_,hmain⟩:=kg hms hv (R8 64 false (List.replicate 64 false) r.toNat true) _ [] [] r.toNat 0
   (λz hz=>by rw[V0 hz,MP];by_cases hzr:z=r.toNat<;>simp[one,hzr]) hr (by simp) MP (DD _) (by simp[one])
   (λz hz _=>MP) (by rw[xK (by omega)];simp)
  rw[if_pos rfl,hrn]at hmain;unfold Mj;rw[zM _ h,hm,Am];simp only[D3,X3,Ah,Ar,Ze,Da h0,Da h1,Bool.and_self,Am];rw[Ac ⟨h0,by omega⟩];have hF:∀ X,Ae (E3 g) (R8 64 false (List.replicate 64 false) r.toNat true,List.replicate 64 (0:Int),[]++[r],[])=some X->
    (U8 _ (E3 g)).bind (λx=>some x)=some X:=λX hX=>by
   rw[QZ];rw[hX];rfl
  refine(hF _ hmain).trans ?_;simp only[Vi,List.reverse_append,Yw,Db,List.map_reverse,List.reverse_cons,List.reverse_nil]
  simp
  omega
 ·unfold Mj;rw[zM _ h,Am]
  cases hm:IL g with
  | false=>rfl
  | true=>
   rw[hm,Kd]at hf;simp only[D3,X3,Ah,Ar,Ze,hf,Am,Mq]
   rfl
def RelN(n:Nat)(R:List Bool)(s:Nat->Bool):Prop:=R.length=n/\∀ z,z<n->R.getD z false=s z
theorem RelN.set{R:List Bool}(h:RelN n R s)(hy:y<n):RelN n (R.set y true) (upd s y):=by
 refine⟨by rw[Ek];exact h.1,λz hz=>?_⟩;rw[cR,List.getElem?_set]
 by_cases hzy:y=z
 ·subst hzy;simp[upd,h.1,hy]
 ·rw[if_neg hzy,<- cR,h.2 z hz];simp[upd,Tg hzy]
theorem T4:∀(n:Nat) (l:List Nat),l.Nodup->(∀ x∈l,x<n)->l.length<=n
 | 0,l,_,h=>by
  cases l with
  | nil=>simp
  | cons x l=>have:=h x (zzL44 ..);omega
 | n+1,l,hd,h=>by
  by_cases hn:n∈l
  ·have h1:=T4 n _ (hd.erase n) λx hx=>by
    grind
   rw[List.length_erase_of_mem hn]at h1;omega
  ·have h1:=T4 n l hd λx hx=>by
    grind
   omega
theorem CC:∀{a b:List Int},a.Pairwise (·<·)->b.Pairwise (·<·)->(∀ x,x∈a↔x∈b)->a=b
 | [],[],_,_,_=>rfl
 | [],y::b,_,_,h=>by have:=(h y).2 (zzL44 ..);cases this
 | x::a,[],_,_,h=>by have:=(h x).1 (zzL44 ..);cases this
 | x::a,y::b,ha,hb,h=>by
  have ha':=zzL99.1 ha;have hb':=zzL99.1 hb
  have hxy:x=y:=by
   rcases zzL31.1 ((h x).1 (zzL44 ..)) with h1|h1
   ·exact h1
   ·rcases zzL31.1 ((h y).2 (zzL44 ..)) with h2|h2
    ·exact h2.symm
    ·grind
  congr 1
  refine CC ha'.2 hb'.2 λz=>⟨λhz=>?_,λhz=>?_⟩
  ·grind
  ·grind
theorem Um(p:Nat->Bool)(n:Nat):(((List.range n).filter p).map Int.ofNat).Pairwise (·<·):=by
 rw[List.pairwise_map];have:=(List.pairwise_lt_range (n:=n)).filter p
 exact this.imp λh=>by simpa using h
theorem UZ{x:Int}:x∈((List.range n).filter p).map Int.ofNat↔∃ k:Nat,x=(k:Int)/\k<n/\p k=true:=by
 grind
theorem sZ:CR L k i=true↔(i:Int)∈L.getD k []:=by unfold CR;rw[zzL60]
theorem rk{b:Bool}{x:α}:(bif b then x else x)=x:=by cases b<;>rfl
theorem kV(h:N4 L=true)(hx:x<L.length):y∈sN L x↔(y:Int)∈L.getD x []:=by
 obtain⟨_,_,h3⟩:=mayS_iff.1 h;unfold sN;rw[zzL16]
 constructor
 ·rintro⟨z,hz,rfl⟩;have:=dY (h3 x hx) hz;rw[Mp this.1];exact hz
 ·grind
def mk(o:List Bool)(l:List Nat):List Bool:=l.foldl (λo y=>o.set y true) o
theorem kW(l:List Nat):∀ o:List Bool,(mk o l).length=o.length:=by
 induction l with
 | nil=>intro o;rfl
 | cons y l ih=>intro o;show(mk _ l).length=_;rw[ih,Ek]
theorem mk_at(l:List Nat):∀(o:List Bool),o.length=n->(∀ y∈l,y<n)->∀ z,(mk o l).getD z false=true↔o.getD z false=true\/z∈l:=by
 induction l with
 | nil =>  simp[mk]
 | cons y l ih=>
  intro o ho hl z
  show(mk _ l).getD z _=true↔_
  rw[ih _ (by grind) (λu hu=>hl u (Mo _ hu)) z]
  have e:(o.set y true).getD z false=true↔o.getD z false=true\/z=y:=by
   grind
  rw[e,zzL31]
  constructor
  ·grind
  ·rintro(h|h|h)
   ·exact .inl (.inl h)
   ·exact .inl (.inr h)
   ·exact .inr h
def sw(S:Nat->List Nat)(o:List Bool):Nat->List Bool
 | 0=>o
 | i+1=>if(sw S o i).getD i false=true then mk (sw S o i) (S i) else sw S o i
def ML(S:Nat->List Nat)(n:Nat)(o:List Bool):Nat->List Bool
 | 0=>o
 | j+1=>sw S (ML S n o j) n
section
variable {S:Nat->List Nat} {n:Nat} (hS:∀ z,z<n->∀ y∈S z,y<n)
theorem sw_len(o:List Bool):∀ i,(sw S o i).length=o.length:=by
 intro i
 induction i with
 | zero=>rfl
 | succ i ih=>unfold sw;split;rw[kW,ih];exact ih
theorem BX(o:List Bool):∀ j,(ML S n o j).length=o.length:=by
 intro j
 induction j with
 | zero=>rfl
 | succ j ih=>unfold ML;rw[sw_len,ih]
include hS
theorem SZ{o:List Bool}(ho:o.length=n):∀ i,i<=n->∀ z,o.getD z false=true->(sw S o i).getD z false=true:=by
 intro i
 induction i with
 | zero=>intro _ z h;exact h
 | succ i ih=>
  intro hi z h;unfold sw
  split
  ·exact(mk_at  _ _ (by rw[sw_len];exact ho) (hS i (by omega)) z).2 (.inl (ih (by omega) z h))
  ·exact ih (by omega) z h
theorem uP{o:List Bool}(ho:o.length=n)(h:∀ z,o.getD z false=true->Rch S r z):∀ i,i<=n->∀ z,(sw S o i).getD z false=true->Rch S r z:=by
 intro i
 induction i with
 | zero=>intro _ z hz;exact h z hz
 | succ i ih=>
  intro hi z hz;unfold sw at hz
  split at hz
  ·rename_i hsi
   rcases(mk_at  _ _ (by rw[sw_len];exact ho) (hS i (by omega)) z).1 hz with h1|h1
   ·exact ih (by omega) z h1
   ·exact(ih (by omega) i hsi).tail h1
  ·exact ih (by omega) z hz
theorem yY{o:List Bool}(ho:o.length=n):∀ i,i<=n->∀ j,j<i->o.getD j false=true->∀ y∈S j,(sw S o i).getD y false=true:=by
 intro i
 induction i with
 | zero =>  omega
 | succ i ih=>
  intro hi j hj hoj y hy;unfold sw
  by_cases hji:j=i
  ·subst hji;have h1:=SZ hS ho j (by omega) j hoj;rw[if_pos h1];exact(mk_at  _ _ (by rw[sw_len];exact ho) (hS j (by omega)) y).2 (.inr hy)
  ·have h1:=ih (by omega) j (by omega) hoj y hy
   split
   ·exact(mk_at  _ _ (by rw[sw_len];exact ho) (hS i (by omega)) y).2 (.inl h1)
   ·exact h1
theorem py{o:List Bool}(ho:o.length=n)(hc:∀ j,j<n->o.getD j false=true->∀ y∈S j,o.getD y false=true):∀ i,i<=n->∀ z,(sw S o i).getD z false=true->o.getD z false=true:=by
 intro i
 induction i with
 | zero=>intro _ z h;exact h
 | succ i ih=>
  intro hi z hz;unfold sw at hz
  split at hz
  ·rcases(mk_at  _ _ (by rw[sw_len];exact ho) (hS i (by omega)) z).1 hz with h1|h1
   ·exact ih (by omega) z h1
   ·grind
  ·exact ih (by omega) z hz
theorem GC(hr:r<n)(z:Nat):(ML S n ((List.replicate n false).set r true) n).getD z false=true↔Rch S r z:=by
 let o0:=(List.replicate n false).set r true
 have ho0:o0.length=n:=by simp[o0]
 have hat0:∀ z,o0.getD z false=true↔z=r:=λz=>by
  grind
 have IT:∀ j,(ML S n o0 j).length=n:=λj=>by rw[BX,ho0]
 have hsound:∀ j z,(ML S n o0 j).getD z false=true->Rch S r z:=by
  intro j
  induction j with
  | zero=>intro z hz;rw[(hat0 z).1 hz];exact .refl _
  | succ j ih=>intro z hz;exact uP hS (IT j) ih n (zzL7 _) z hz
 have No:∀ j,∀ z,o0.getD z false=true->(ML S n o0 j).getD z false=true:=by
  intro j
  induction j with
  | zero=>intro z h;exact h
  | succ j ih=>intro z h;exact SZ hS (IT j) n (zzL7 _) z (ih z h)
 let C:Nat->Prop:=λj=>∀ i,i<n->(ML S n o0 j).getD i false=true->∀ y∈S i,(ML S n o0 j).getD y false=true
 have key:∀ j,C j\/fm n (λz=>(ML S n o0 j).getD z false)+j+1<=n:=by
  intro j
  induction j with
  | zero=>
   refine .inr ?_;have h1:=HL (n:=n) (s:=λ_=>false) hr rfl
   have e:upd (λ_=>false) r=λz=>(ML S n o0 0).getD z false:=by
    funext z
    rw[GS,upd_true]
    show _↔o0.getD z false=true
    rw[hat0]
    simp
   rw[e]at h1
   have hcl:fm n (λ_=>false)=n:=by
    unfold fm;rw[List.filter_eq_self.2 (by simp)]
    simp
   omega
  | succ j ih=>
   by_cases hc:C j
   ·refine .inl λi hi h y hy=>?_;have h1:=py hS (IT j) hc n (zzL7 _) i h;exact SZ hS (IT j) n (zzL7 _) y (hc i hi h1 y hy)
   ·rcases ih with ih|ih
    ·exact(hc ih).elim
    ·refine .inr ?_
     have hex:∃ i,i<n/\(ML S n o0 j).getD i false=true/\∃ y,y∈S i/\(ML S n o0 j).getD y false=false:=by
      grind
     obtain⟨i,hi,h1,y,hy,h2⟩:=hex;have h3:=yY hS (IT j) n (zzL7 _) i hi h1 y hy;have hyn:=hS i hi y hy;have h4:=HL (n:=n) (s:=λz=>(ML S n o0 j).getD z false) hyn h2
     have h5:fm n (λz=>(ML S n o0 (j+1)).getD z false)<=fm n (upd (λz=>(ML S n o0 j).getD z false) y):=fo λz hz=>by
      rcases upd_true.1 hz with rfl|hz
      ·exact h3
      ·exact SZ hS (IT j) n (zzL7 _) z hz
     omega
 constructor
 ·exact hsound n z
 ·intro hrch
  have hlt:∀ x z,Rch S x z->x<n->z<n/\((ML S n o0 n).getD x false=true->(ML S n o0 n).getD z false=true):=by
   intro x z hxz
   induction hxz with
   | refl x=>exact λhx=>⟨hx,id⟩
   | @head x y z hy _ ih=>
    grind
  exact(hlt r z hrch hr).2 (No n r ((hat0 r).2 rfl))
end
theorem xi(hm:N4 L=true)(hr:r<L.length) :
  Dd (La L) (r:Int) (-1:Int)=some (ML (sN L) L.length ((List.replicate L.length false).set r true) L.length):=by
 obtain⟨h1,h2,h3⟩:=mayS_iff.1 hm
 have ab1:(1000:Nat)<=room:=by decide
 have hS:=Ws hm;have hgs:(La L).Succ=L:=rfl
 have af2:∀ a,(sN L a).length=(L.getD a []).length:=λa=>by simp[sN]
 have hin:∀(o:List Bool) (i:Nat),o.length=L.length->i<L.length->Ae (Ba (La L) (-1) (i:Int)) ((0:Int),o)=some (if o.getD i false=true then mk o (sN L i) else o):=λo i ho hi=>by
  have hb:=HW (h3 i hi)
  by_cases hoi:o.getD i false=true
  ·rw[if_pos hoi];have hmi:∀ k,(mk o ((sN L i).take k)).getD i false=true:=λk=>(mk_at (n:=L.length) _ _ ho (λy hy=>hS i hi y (List.mem_of_mem_take hy)) i).2 (.inl hoi)
   have hml:∀ k,(mk o ((sN L i).take k)).length=L.length:=λk=>by rw[kW,ho]
   refine Ga (Ba (La L) (-1) (i:Int)) (λk=>(((k:Nat):Int),mk o ((sN L i).take k))) _ (L.getD i []).length (λk hk=>?_) ?_
   ·unfold Ba;obtain⟨a0,a1⟩:=FO (h3 i hi) hk;simp only[hgs,Ao,hmi];rw[Ac (F5 (by rw[hml];exact hi)),Om (F5 hi),Ah,B0 hk,Ah,Ac (F5 hi),Ac (F5 hk)]
    have hne:((L.getD i []).getD k 0 !=(-1:Int))=true:=by rw[zzL65];omega
    rw[hne,Ah,Ac (F5 hi),Ac (F5 hk),Ac ⟨a0,by rw[hml];exact a1⟩,w1 (by omega)]
    have e:mk o ((sN L i).take (k+1))=(mk o ((sN L i).take k)).set ((L.getD i []).getD k 0).toNat true:=by
     have hk':k<(sN L i).length:=by rw[af2];exact hk
     rw[il hk'];unfold mk;rw[List.foldl_append]
     have:(sN L i)[k]=((L.getD i []).getD k 0).toNat:=by rw[Ad _ _ _ hk];simp[sN]
     rw[this]
     rfl
    rw[e]
    rfl
   ·unfold Ba;simp only[hgs,Ao,hmi];rw[Ac (F5 (by rw[hml];exact hi)),Om (F5 hi),Ah,Cy,Ar]
    have:(sN L i).take (L.getD i []).length=sN L i:=by rw[<- af2];exact RH ..
    rw[this]
  ·have hof:o.getD i false=false:=by simpa using hoi
   rw[if_neg hoi]
   apply An
   unfold Ba;simp only[hgs,Ao,hof];rw[Ac (F5 (by rw[ho];exact hi)),Om (F5 hi),Ar,Ar]
 have hsw:∀ o:List Bool,o.length=L.length->Ae (Bb (La L) (-1)) ((0:Int),o)=some (sw (sN L) o L.length):=λo ho=>by
  refine Ga (Bb (La L) (-1)) (λi=>(((i:Nat):Int),sw (sN L) o i)) _ L.length (λi hi=>?_) ?_
  ·show Bb (La L) (-1) (_,_)=_
   unfold Bb
   have hl:(sw (sN L) o i).length=L.length:=by rw[sw_len,ho]
   simp only[hl,B0 hi,Ah];rw[hin _ i hl hi,w1 (by omega)]
   rfl
  ·show Bb (La L) (-1) (_,_)=_
   unfold Bb
   have hl:(sw (sN L) o L.length).length=L.length:=by rw[sw_len,ho]
   simp only[hl,Cy,Ar]
 unfold Dd;simp only[hgs,Ao];rw[Ac ⟨by omega,Int.le_refl _,by omega⟩]
 have hne:((r:Int)==(-1:Int))=false:=by rw[zzL30];omega
 rw[hne,Ar,Ac (F5 (by simpa using hr))]
 have hl0:((List.replicate L.length false).set r true).length=L.length:=by simp
 have:Ae (Bc (La L) (-1)) ((0:Int),(List.replicate L.length false).set r true)=some (ML (sN L) L.length ((List.replicate L.length false).set r true) L.length):=by
  refine Ga (Bc (La L) (-1)) (λj=>(((j:Nat):Int),ML (sN L) L.length ((List.replicate L.length false).set r true) j)) _ L.length (λj hj=>?_) ?_
  ·show Bc (La L) (-1) (_,_)=_
   unfold Bc
   have hl:(ML (sN L) L.length ((List.replicate L.length false).set r true) j).length=L.length:=by rw[BX,hl0]
   simp only[hl,B0 hj,Ah];rw[hsw _ hl,w1 (by omega)]
   rfl
  ·show Bc (La L) (-1) (_,_)=_
   unfold Bc
   have hl:(ML (sN L) L.length ((List.replicate L.length false).set r true) L.length).length=L.length:=by rw[BX,hl0]
   simp only[hl,Cy,Ar]
 rw[this]
 rfl
def pos:List Nat->Nat->Nat
 | [],_=>0
 | x::l,z=>if x=z then 0 else pos l z+1
theorem VU(x:Nat)(l:List Nat)(z:Nat):pos (x::l) z=if x=z then 0 else pos l z+1:=rfl
theorem yK{A l:List Nat}(h:z∉A):pos (A++l) z=A.length+pos l z:=by
 induction A with
 | nil=>simp
 | cons x A ih=>
  have h1:x≠z:=λe=>h (by grind);have h2 :=λe=>h (Mo _ e);rw[KN,VU,if_neg h1,ih h2,Ry];omega
theorem SV{P:List Nat}(hd:P.Nodup)(hi:i<P.length):P[i]∉P.take i/\pos P P[i]=i:=by
 have e:P=P.take i++P[i]::P.drop (i+1):=by simp_all
 have hn:P[i]∉P.take i:=by
  grind
 refine⟨hn,?_⟩
 have h2:pos (P.take i++P[i]::P.drop (i+1)) P[i]=i:=by
  rw[yK hn]
  have:pos (P[i]::P.drop (i+1)) P[i]=0:=by rw[VU,if_pos rfl]
  rw[ ND];omega
 rw[<- e]at h2;exact h2
theorem rN:(List.range (n+1)).all p=((List.range n).all p&&p n):=by
 grind
theorem fq(d:Array Int)(hs:∀ i j,i<=j->j<d.size->d[i]!<=d[j]!):∀ m,m<=d.size->(∀ x∈Lib.compactUpTo d m,∃ j,j<m/\x=d[j]!)/\(∀ j,j<m->d[j]!∈Lib.compactUpTo d m)/\(Lib.compactUpTo d m).Pairwise (·<·):=by
 intro m
 induction m with
 | zero=>intro _;exact⟨(λx hx=>by simp[Lib.compactUpTo]at hx),(λj hj=>by omega),by simp[Lib.compactUpTo]⟩
 | succ m ih=>
  intro hm;obtain⟨h1,h2,h3⟩:=ih (by omega);rw[Lib.compactUpTo_succ]
  cases hk:Lib.keeps d m with
  | true=>
   rw[if_pos rfl];refine⟨λx hx=>?_,λj hj=>?_,?_⟩
   ·grind
   ·grind
   ·rw[zzL121];refine⟨h3,List.pairwise_singleton _ _,λx hx y hy=>?_⟩;obtain⟨j,hj,rfl⟩:=h1 x hx
    have hy':y=d[m]!:=by simpa using hy
    subst hy'
    have hk':m=0\/d[m]!≠d[m-1]!:=by simpa [Lib.keeps] using hk
    rcases hk' with h0|h0
    ·omega
    ·have a1:=hs j (m-1) (by omega) (by omega);have a2:=hs (m-1) m (by omega) (by omega);omega
  | false=>
   have hk':m≠0/\d[m]! = d[m-1]!:=by
    have:¬ (m=0\/d[m]!≠d[m-1]!):=by
     intro h
     have:Lib.keeps d m=true:=by simpa [Lib.keeps] using h
     rw[hk]at this;cases this
    exact⟨λh=>this (.inl h),Classical.not_not.1 λh=>this (.inr h)⟩
   simp only[NC,Iu,List.append_nil];refine⟨λx hx=>by grind,λj hj=>?_,h3⟩
   by_cases hjm:j=m
   ·subst hjm;rw[hk'.2];exact h2 _ (by omega)
   ·exact h2 j (by omega)
def MS(l:List Int):List Int:=Lib.compact (l.mergeSort λx y=>decide (x<=y))
theorem Zr(l:List Int):(MS l).Pairwise (·<·)/\∀ x,x∈MS l↔x∈l:=by
 unfold MS Lib.compact;have hp:(l.mergeSort _).Pairwise (λa b=>decide (a<=b)=true):=List.pairwise_mergeSort (λa b c h1 h2=>by simp at *;omega) (λa b=>by simp;omega) l;have hm:∀ x,x∈(l.mergeSort λx y=>decide (x<=y))↔x∈l:=λx=>List.mem_mergeSort
 generalize l.mergeSort _=z at hp hm ⊢
 have hz:∀ j,j<z.length->z.toArray[j]! = z.getD j 0:=λj hj=>by simp[ hj]
 obtain⟨h1,h2,h3⟩:=fq z.toArray (λi j hij hj=>by
  have hj' :=by simpa using hj
  rw[hz i (by omega),hz j hj']
  by_cases he:i=j
  ·grind
  ·have:=(zzL78.1 hp) i j (by omega) hj' (by omega);rw[Ad _ _ _ _,Ad _ _ _ hj']
   simpa using this) z.length (by simp)
 refine⟨h3,λx=>?_⟩;rw[<- hm x]
 constructor
 ·grind
 ·intro hx;obtain⟨j,hj,rfl⟩:=H8 hx;have:=h2 j hj;rwa[hz j hj,Ad _ _ _ hj]at this
def vT(n:Nat)(l:List Int):Bool:=(List.range l.length).all λi=>decide (0<l.getD i 0)&&decide (l.getD i 0<(n:Int))
def Wx(k:Int):Int:=([0,1,2,0]:List Int).getD k.toNat 0
def CS(e:Ny):Bool:=(decide (0<=e.Kind)&&decide (e.Kind<=3))&&decide ((e.To.length:Int)=Wx e.Kind)
def Nz(e:Ny)(n:Nat):Bool:=CS e&&vT n e.To
theorem toB_iff:vT n l=true↔∀ x∈l,0<x/\x<n:=by
 unfold vT;rw[all_range];simp only[Az,Hs]
 constructor
 ·intro h x hx;obtain⟨i,hi,rfl⟩:=H8 hx;have:=h i hi;rwa[Ad _ _ _ hi]at this
 ·simp_all
theorem sM(e:Ny)(n:Nat)(hl:e.To.length<4611686018427387904):Ae (F9 e (n:Int)) (0:Int)=some (bif vT n e.To then .inl () else .inr false):=by
 have step:∀ j ,j<e.To.length->F9 e n j=bif (decide (0<e.To.getD j 0)&&decide (e.To.getD j 0<n)) then some (.next ((j+1:Int))) else some _:=λj hj=>by
  unfold F9;simp only[Ao,B0 hj, Ze,w1 (show j<4611686018427387904 by omega)];rw[Ac (F5 hj)]
  by_cases h0:e.To.getD j 0=0
  ·rw[h0];rfl
  ·grind
 have:=Ix (F9 e n) (λj=>(j:Nat)) (λi=>decide (0<e.To.getD i 0)&&decide (e.To.getD i 0<n)) (.inl ()) (.inr false) e.To.length (λj hj hp=>?_) (λj hj hp=>?_) ?_
 ·exact this
 ·grind
 ·rw[step j hj,hp];rfl
 ·unfold F9;simp only[Cy,Ar]
theorem LQ(e:Ny)(n:Nat)(w:Int)(hw:0<=w/\w<=2) :
  (bif ((e.To.length:Int)!=w) then(some false) else((Ae (F9 e (n:Int)) (0:Int)).bind (λx10=>(match x10 with|(.inl _)=>(some true)|(.inr r12)=>(some r12)))))=some (decide ((e.To.length:Int)=w)&&vT n e.To):=by
 by_cases h:e.To.length=w
 ·rw[show(e.To.length !=w)=false by simpa using h, sM e n (by omega),Da h]
  cases vT n _<;>rfl
 ·grind
theorem pK(e:Ny)(n:Nat):Ra e (n:Int)=some (Nz e n):=by
 unfold Ra Nz CS
 by_cases h0:e.Kind=0
 ·rw[h0];exact LQ e n 0 (by omega)
 by_cases h1:e.Kind=1
 ·rw[h1];exact LQ e n 1 (by omega)
 by_cases h2:e.Kind=2
 ·rw[h2];exact LQ e n 2 (by omega)
 by_cases h3:e.Kind=3
 ·rw[h3];exact LQ e n 0 (by omega)
 have e0:(e.Kind==0)=false:=by rw[zzL30];exact h0
 have e1:(e.Kind==1)=false:=by rw[zzL30];exact h1
 have e2:(e.Kind==2)=false:=by rw[zzL30];exact h2
 have e3:(e.Kind==3)=false:=by rw[zzL30];exact h3
 rw[e0,e1,e2,e3]
 have:(decide (0<=e.Kind)&&decide (e.Kind<=3))=false:=by
  by_cases h:0<=e.Kind
  ·rw[Ds (show ¬ e.Kind<=3 by omega)];simp
  ·rw[Ds h];rfl
 rw[this]
 rfl
theorem sR(h:Nz e n=true):e.To.length<=2:=by
 unfold Nz CS at h;simp only[Az,Hs]at h;obtain⟨⟨⟨h0,h1⟩,h2⟩,_⟩:=h
 have:Wx e.Kind<=2:=by
  have:e.Kind=0\/e.Kind=1\/e.Kind=2\/e.Kind=3:=by omega
  rcases this with h|h|h|h<;>rw[h]<;>decide
 omega
theorem dG(h:Nz e n=true):vT n e.To=true:=by unfold Nz at h;exact(Az _ _▸h).2
def Bu(f:AI)(i:Nat):Ny:=(f.Blocks.getD i (default:Ab)).End
def Bf(f:AI):List (List Int):=(List.range f.Blocks.length).map λi=>MS (Bu f i).To
def Nt(f:AI):Bool:=(decide (1<=f.Blocks.length)&&decide (f.Blocks.length<=64))&&(List.range f.Blocks.length).all λi=>Nz (Bu f i) f.Blocks.length
theorem shape_iff:Nt f=true↔(1<=f.Blocks.length/\f.Blocks.length<=64)/\∀ i,i<f.Blocks.length->Nz (Bu f i) f.Blocks.length=true:=by
 unfold Nt;rw[Az,Az,all_range];simp only[Hs]
theorem yT(h:Nz (Bu f i) f.Blocks.length=true):qK f.Blocks.length (MS (Bu f i).To)=true:=by
 obtain⟨h1,h2⟩:=Zr (Bu f i).To;exact Abz (λx hx=>by have:=(toB_iff.1 (dG h)) x ((h2 x).1 hx);omega) h1
theorem Ey(h:Nt f=true):N4 (Bf f)=true:=by
 obtain⟨⟨h1,h2⟩,h3⟩:=shape_iff.1 h
 have hl:(Bf f).length=f.Blocks.length:=by simp[Bf]
 refine mayS_iff.2 ⟨by omega,by omega,λi hi=>?_⟩;rw[hl]at hi ⊢;unfold Bf;rw[So hi];exact yT (h3 i hi)
theorem Aem(f:AI)(hf:f.Blocks.length<=maxLen):Wd f=some (bif Nt f then(La (Bf f),0) else(g0,5)):=by
 have ab1:(1000:Nat)<=room:=by decide
 unfold Wd;rw[bn,Am];have hsh:Nt f=((decide (1<=f.Blocks.length)&&decide (f.Blocks.length<=64))&&(List.range f.Blocks.length).all λi=>Nz (Bu f i) f.Blocks.length):=rfl
 cases hc:(decide (1<=f.Blocks.length)&&decide (f.Blocks.length<=64)) with
 | false=>rw[hsh,hc];rfl
 | true=>
  have hc':=hc;simp only[Az,Hs]at hc';simp only[D3,Ar];rw[Ac ⟨by omega,Int.le_refl _,by omega⟩,Ao]
  let U:Nat->List (List Int):=λi=>(List.range f.Blocks.length).map λj=>if j<i then MS (Bu f j).To else[]
  have e0:List.replicate f.Blocks.length ([]:List Int)=U 0:=by
   simp only[U]
   apply List.ext_getElem?
   intro j
   by_cases hj:j<f.Blocks.length<;>simp[hj,List.getElem?_replicate]
  have eN:U f.Blocks.length=Bf f:=by
   simp only[U,Bf]
   apply H3
   intro j hj;rw[if_pos hj]
  rw[e0]
  have af5:∀ i:Nat,i<f.Blocks.length->Il f ((i:Int),U i)=bif Nz (Bu f i) f.Blocks.length then some (.next (((i+1:Nat):Int),U (i+1))) else some (.done (.inr (g0,5))):=λi hi=>by
   unfold Il;simp only[B0 hi,Ah,Ao];rw[Ac (F5 hi)];have he:(⟨(f.Blocks.getD i (default:Ab)).End.Kind,(f.Blocks.getD i (default:Ab)).End.Arg,(f.Blocks.getD i (default:Ab)).End.To⟩:Ny)=Bu f i:=rfl;rw[he,pK,Am]
   cases ac6:Nz (Bu f i) f.Blocks.length with
   | false=>rfl
   | true=>
    have hl2:=sR ac6;simp only[D3,Ar,Ah]
    have hx:NA (f.Blocks.getD i (default:Ab)).End.To=some (MS (Bu f i).To):=by
     unfold NA;rw[ml,Ac (by show(Bu f i).To.length<=_;omega)]
     rfl
    rw[hx,Am,Ac (F5 (by simp[U];omega)),w1 (by omega)]
    congr 3
    simp only[U];rw[GH]
    apply H3
    intro j hj
    by_cases h1:j=i
    ·subst h1;rw[if_pos rfl,if_pos (by omega)]
    ·rw[if_neg h1]
     by_cases h2:j<i
     ·rw[if_pos h2,if_pos (by omega)]
     ·rw[if_neg h2,if_neg (by omega)]
  have:=Ix (Il f) (λi=>(((i:Nat):Int),U i)) (λi=>Nz (Bu f i) f.Blocks.length) (.inl (U f.Blocks.length)) (.inr (g0,5)) f.Blocks.length (λi hi hp=>?_) (λi hi hp=>?_) ?_
  ·rw[show Ae (Il f) ((0:Int),U 0)=_ from this,hsh,hc,eN,Kd]
   cases ac3:(List.range f.Blocks.length).all λi=>Nz (Bu f i) f.Blocks.length with
   | false=>rfl
   | true=>
    simp only[Ah,Am];rw[gj _ (Ey (by rw[hsh,hc,ac3];rfl))]
    rfl
  ·show Il f (_,_)=_
   rw[af5 i hi,hp];rfl
  ·show Il f (_,_)=_
   rw[af5 i hi,hp];rfl
  ·show Il f (_,_)=_
   unfold Il;simp only[Cy,Ar]
def OR(l:List Int)(k:Nat):List Int:=((List.range k).filter λz:Nat=>decide (1<=z)&&l.contains (z:Int)).map Int.ofNat
theorem t7(h:vT n l=true):OR l n=MS l:=by
 obtain⟨h1,h2⟩:=Zr l;refine CC (Um _ _) h1 λx=>?_;rw[h2 x];unfold OR;rw[UZ]
 constructor
 ·grind
 ·intro hx;have:=(toB_iff.1 h) x hx;refine⟨x.toNat,by omega,by omega,?_⟩;rw[Mp (by omega),zzL60.2 hx,Da (by omega)]
  rfl
theorem pm(f:AI)(i:Nat)(hl:(Bu f i).To.length<4611686018427387904):Ae (Fj f (i:Int)) (0:Int)=some (bif vT f.Blocks.length (Bu f i).To then .inl () else .inr (g0,5)):=by
 have hE:(f.Blocks.getD i _).End=Bu f i:=rfl
 have step:∀ j ,j<(Bu f i).To.length->Fj f i j=bif (decide (0<(Bu f i).To.getD j 0)&&decide ((Bu f i).To.getD j 0<f.Blocks.length)) then some (.next ((j+1:Nat))) else some _:=λj hj=>by
  unfold Fj;simp only[Ao,hE,B0 hj, w1 (show j<4611686018427387904 by omega)];rw[Ac (F5 hj),Om (F5 hj)]
  by_cases h0:(Bu f i).To.getD j 0<=0
  ·rw[Da h0,Ds (show ¬ 0<(Bu f i).To.getD j 0 by omega)];rfl
  ·rw[Ds h0,Da (show 0<(Bu f i).To.getD j 0 by omega)]
   by_cases h1:f.Blocks.length<=(Bu f i).To.getD j 0
   ·rw[Da h1,Ds (show ¬ (Bu f i).To.getD j 0<f.Blocks.length by omega)];rfl
   ·grind
 have:=Ix (Fj f i) (λj=>(j:Nat)) (λk=>decide (0<(Bu f i).To.getD k 0)&&decide ((Bu f i).To.getD k 0<f.Blocks.length)) (.inl ()) (.inr (g0,5)) (Bu f i).To.length (λj hj hp=>?_) (λj hj hp=>?_) ?_
 ·exact this
 ·grind
 ·rw[step j hj,hp];rfl
 ·unfold Fj;simp only[Ao,hE,Cy,Ar]
theorem pn(f:AI)(i:Nat)(hn:1<=f.Blocks.length/\f.Blocks.length<=64)(hl:(Bu f i).To.length<4611686018427387904):Ae (H2 f (i:Int)) (([]:List Int),(1:Int))=some (OR (Bu f i).To f.Blocks.length):=by
 have ab1:1000<=room:=by decide
 have hE:(f.Blocks.getD i _).End=Bu f i:=rfl
 have e0:OR (Bu f i).To 1=[]:=by unfold OR;simp
 have key:=Ga (H2 f i) (λk=>(OR (Bu f i).To (k+1),(k+1:Nat))) (OR (Bu f i).To f.Blocks.length) (f.Blocks.length-1) (λk hk=>?_) ?_
 ·grind
 ·unfold H2
  have IT:(OR (Bu f i).To (k+1)).length<=k+1:=by
   unfold OR;have:=List.length_filter_le (λz =>decide (1<=z)&&(Bu f i).To.contains (z:Nat)) (List.range (k+1))
   simpa using this
  simp only[Ao,hE,B0 (show k+1<f.Blocks.length by omega)];rw[mr _ _ hl,Am,w1 (by omega)]
  have hs:OR (Bu f i).To (k+1+1)=OR (Bu f i).To (k+1)++(if(Bu f i).To.contains ((k+1:Nat))=true then[(k+1:Int)] else[]):=by
   unfold OR;rw[JJ,JH]
   cases hg:(Bu f i).To.contains _ with
   | true=>grind
   | false=>grind
  rw[hs]
  cases hg:(Bu f i).To.contains _ with
  | true=>
   rw[ Ac (by grind)]
   rfl
  | false =>  simp
 ·unfold H2;simp only[show f.Blocks.length-1+1=f.Blocks.length by omega,Cy,Ar]
theorem UV(f:AI)(hf:f.Blocks.length<=maxLen):Ib f=some (bif Nt f then(La (Bf f),0) else(g0,5)):=by
 have ab1:(1000:Nat)<=room:=by decide
 unfold Ib
 have hc:(bif ((f.Blocks.length:Int)==(0:Int)) then true else decide ((64:Int)<(f.Blocks.length:Int))) = !(decide (1<=f.Blocks.length)&&decide (f.Blocks.length<=64)):=by
  grind
 rw[hc];have hsh:Nt f=((decide (1<=f.Blocks.length)&&decide (f.Blocks.length<=64))&&(List.range f.Blocks.length).all λi=>Nz (Bu f i) f.Blocks.length):=rfl
 cases hb:(decide (1<=f.Blocks.length)&&decide (f.Blocks.length<=64)) with
 | false=>rw[hsh,hb];rfl
 | true=>
  have hb':=hb;simp only[Az,Hs]at hb';simp only[D3,Ar]
  let U:Nat->List (List Int):=λi=>(List.range i).map λj=>OR (Bu f j).To f.Blocks.length
  have af5:∀ i:Nat,i<f.Blocks.length->Cq f (U i,(i:Int))=bif Nz (Bu f i) f.Blocks.length then some (.next (U (i+1),((i+1:Nat):Int))) else some (.done (.inr (g0,5))):=λi hi=>by
   unfold Cq;have hE:(f.Blocks.getD i (default:Ab)).End=Bu f i:=rfl;simp only[B0 hi,Ah,Ao,hE];rw[Ac (F5 hi),w1 (by omega)]
   by_cases hk:0<=(Bu f i).Kind/\(Bu f i).Kind<=3
   ·rw[Ds (show ¬ (Bu f i).Kind<0 by omega),Ds (show ¬ (3:Int)<(Bu f i).Kind by omega)];simp only[Ar];rw[Om (show As (Bu f i).Kind ([(0:Int),1,2,0]:List Int).length from⟨hk.1,by show(Bu f i).Kind<4;omega⟩)];have hw:([(0:Int),1,2,0]:List Int).getD (Bu f i).Kind.toNat 0=Wx (Bu f i).Kind:=rfl;rw[hw]
    have hkb:CS (Bu f i)=decide (((Bu f i).To.length:Int)=Wx (Bu f i).Kind):=by
     unfold CS;rw[Da hk.1,Da hk.2];rfl
    unfold Nz;rw[hkb]
    by_cases hl:((Bu f i).To.length:Int)=Wx (Bu f i).Kind
    ·have hw2:Wx (Bu f i).Kind<=2:=by
      have:(Bu f i).Kind=0\/(Bu f i).Kind=1\/(Bu f i).Kind=2\/(Bu f i).Kind=3:=by omega
      rcases this with h|h|h|h<;>rw[h]<;>decide
     rw[show(((Bu f i).To.length:Int)!=Wx (Bu f i).Kind)=false by simpa using hl,Da hl,Ar,pm f i (by omega),Kd]
     cases htb:vT f.Blocks.length (Bu f i).To with
     | false=>rfl
     | true=>
      simp only[Ah,Am];rw[pn f i hb' (by omega)];simp only[Am];rw[Ac (by simp only[U,F2,Tf,JG];omega)]
      congr 3
      simp only[U];rw[JJ,AA]
      rfl
    ·rw[show(((Bu f i).To.length:Int)!=Wx (Bu f i).Kind)=true by simpa using hl,Ds hl];rfl
   ·have hbad:(bif decide ((Bu f i).Kind<0) then true else decide ((3:Int)<(Bu f i).Kind))=true:=by
     by_cases h0:(Bu f i).Kind<0
     ·rw[Da h0];rfl
     ·rw[Ds h0,Da (show(3:Int)<(Bu f i).Kind by omega)];rfl
    have hkb:CS (Bu f i)=false:=by
     unfold CS
     by_cases h0:0<=(Bu f i).Kind
     ·rw[Ds (show ¬ (Bu f i).Kind<=3 by omega)];simp
     ·rw[Ds h0];simp
    simp only[hbad];rw[Ac (by intro h;cases h)];unfold Nz;rw[hkb]
    rfl
  have:=Ix (Cq f) (λi=>(U i,((i:Nat):Int))) (λi=>Nz (Bu f i) f.Blocks.length) (.inl (U f.Blocks.length)) (.inr (g0,5)) f.Blocks.length (λi hi hp=>?_) (λi hi hp=>?_) ?_
  ·rw[show Ae (Cq f) (([]:List (List Int)),(0:Int))=_ from this,hsh,hb,Kd]
   cases ac3:(List.range f.Blocks.length).all λi=>Nz (Bu f i) f.Blocks.length with
   | false=>rfl
   | true=>
    have al8:Nt f=true:=by rw[hsh,hb,ac3];rfl
    have hm:=Ey al8
    have hU:U f.Blocks.length=Bf f:=by
     simp only[U,Bf]
     apply H3
     intro j hj;exact t7 (dG ((shape_iff.1 al8).2 j hj))
    simp only[Ah,Am];rw[hU,UU _ (Wu (V4 hm)),hm]
    rfl
  ·show Cq f (_,_)=_
   rw[af5 i hi,hp];rfl
  ·show Cq f (_,_)=_
   rw[af5 i hi,hp];rfl
  ·show Cq f (_,_)=_
   unfold Cq;simp only[Cy,Ar]
inductive Rc (S:Nat->List Nat) (r:Nat):Nat->Prop
 | root:Rc S r r
 | step {x y:Nat} (h:Rc S r x) (hy:y∈S x):Rc S r y
inductive Av (S:Nat->List Nat) (r z:Nat):Nat->Prop
 | root (h:r≠z):Av S r z r
 | step {x y:Nat} (h:Av S r z x) (hy:y∈S x) (hz:y≠z):Av S r z y
inductive AvN (S:Nat->List Nat) (r z:Nat):Nat->Nat->Prop
 | root (h:r≠z) (k:Nat):AvN S r z k r
 | step {k x y:Nat} (h:AvN S r z k x) (hy:y∈S x) (hz:y≠z):AvN S r z (k+1) y
section
variable {S:Nat->List Nat} {r:Nat}
theorem rc_iff:Rc S r x↔Rch S r x:=by
 constructor
 ·intro h
  induction h with
  | root=>exact .refl _
  | step _ hy ih=>exact ih.tail hy
 ·intro h
  have key:∀ a b,Rch S a b->Rc S r a->Rc S r b:=by
   intro a b hab
   induction hab with
   | refl x=>exact id
   | head hy _ ih=>exact λha=>ih (.step ha hy)
  exact key _ _ h .root
def wo(S:Nat->List Nat)(z:Nat):Nat->List Nat:=λx=>(S x).filter λy=>decide (y≠z)
theorem av_iff:Av S r z x↔r≠z/\Rch (wo S z) r x:=by
 constructor
 ·intro h
  induction h with
  | root h=>exact⟨h,.refl _⟩
  | step _ hy hz ih=>exact⟨ih.1,ih.2.tail (zzL73.2 ⟨hy,by simpa using hz⟩)⟩
 ·rintro⟨hr,h⟩
  have key:∀ a b,Rch (wo S z) a b->Av S r z a->Av S r z b:=by
   intro a b hab
   induction hab with
   | refl x=>exact id
   | head hy _ ih=>
    obtain⟨h1,h2⟩:=zzL73.1 hy;exact λha=>ih (.step ha h1 (by simpa using h2))
  exact key _ _ h (.root hr)
theorem Av.rc(h:Av S r z x):Rc S r x:=by
 induction h with
 | root _=>exact .root
 | step _ hy _ ih=>exact .step ih hy
theorem Av.ne(h:Av S r z x):x≠z:=by
 cases h with
 | root h=>exact h
 | step _ _ hz=>exact hz
theorem AvN.av(h:AvN S r z k x):Av S r z x:=by
 induction h with
 | root h=>exact .root h
 | step _ hy hz ih=>exact .step ih hy hz
theorem AvN.up(h:AvN S r z k x):AvN S r z (k+1) x:=by
 induction h with
 | root h k=>exact .root h _
 | step _ hy hz ih=>exact .step ih hy hz
theorem AvN.mono{m:Nat}(h:AvN S r z k x)(hm:k<=m):AvN S r z m x:=by
 obtain⟨d,rfl⟩:=Nat.exists_eq_add_of_le hm;clear hm
 induction d with
 | zero=>exact h
 | succ d ih=>exact ih.up
theorem Av.avn(h:Av S r z x):∃ k,AvN S r z k x:=by
 induction h with
 | root h=>exact⟨0,.root h 0⟩
 | step _ hy hz ih=>obtain⟨k,hk⟩:=ih;exact⟨k+1,.step hk hy hz⟩
theorem AvN.via {z k x : Nat} (h : AvN S r z k x) (y : Nat) : AvN S r y k x ∨ AvN S r z k y := by
  induction h with
  | root h k => by_cases hy : r = y
                · subst hy; exact .inr (.root h _)
                · exact .inl (.root hy _)
  | @step k x w h hy hz ih =>
    rcases ih with h1 | h1
    · by_cases hw : w = y
      · subst hw; exact .inr (.step h hy hz)
      · exact .inl (.step h1 hy hw)
    · exact .inr h1.up
theorem oa(n:Nat):∃ K,∀ z,z<n->∀ x,x<n->Av S r z x->AvN S r z K x:=by
 have one:∀ z m,∃ K,∀ x,x<m->Av S r z x->AvN S r z K x:=by
  intro z m
  induction m with
  | zero=>simp_all
  | succ m ih=>
   obtain⟨K,hK⟩:=ih
   by_cases h:Av S r z m
   ·obtain⟨k,hk⟩:=h.avn;refine⟨max K k,λx hx ha=>?_⟩;rcases Nat.lt_succ_iff_lt_or_eq.1 hx with h1|rfl
    ·exact(hK x h1 ha).mono (Nat.le_max_left ..)
    ·exact hk.mono (Nat.le_max_right ..)
   ·refine⟨K,λx hx ha=>?_⟩;rcases Nat.lt_succ_iff_lt_or_eq.1 hx with h1|rfl
    ·exact hK x h1 ha
    ·exact absurd ha h
 have two:∀ m,∃ K,∀ z,z<m->∀ x,x<n->Av S r z x->AvN S r z K x:=by
  intro m
  induction m with
  | zero=>simp_all
  | succ m ih=>
   obtain⟨K,hK⟩:=ih;obtain⟨k,hk⟩:=one m n;refine⟨max K k,λz hz x hx ha=>?_⟩;rcases Nat.lt_succ_iff_lt_or_eq.1 hz with h1|rfl
   ·exact(hK z h1 x hx ha).mono (Nat.le_max_left ..)
   ·exact(hk x hx ha).mono (Nat.le_max_right ..)
 exact two n
end
variable {u w d p b m:Nat}{v:Int}{t:List Int}
inductive UpTo (par:Nat->Int):Nat->Nat->Prop
 | refl (x:Nat):UpTo par x x
 | up {x y z:Nat} (h:par x=(y:Int)) (t:UpTo par y z):UpTo par x z
inductive Fw (S:Nat->List Nat) (at_:Nat->Nat) (u:Nat):Nat->Prop
 | refl:Fw S at_ u u
 | step {v w:Nat} (h:Fw S at_ u v) (hw:w∈S v) (hl:at_ v<at_ w):Fw S at_ u w
section
variable {S:Nat->List Nat} {at_:Nat->Nat} {par:Nat->Int}
theorem Fw.le(h:Fw S at_ u w):at_ u<=at_ w:=by
 induction h with
 | refl=>exact zzL7 _
 | step _ _ hl ih=>omega
theorem Fw.trans{v:Nat}(h:Fw S at_ u v)(k:Fw S at_ v w):Fw S at_ u w:=by
 induction k with
 | refl=>exact h
 | step _ hw hl ih=>exact .step ih hw hl
theorem Fw.av(h:Fw S at_ u w)(ha:Av S r d u)(hd:at_ d<at_ u):Av S r d w:=by
 induction h with
 | refl=>exact ha
 | @step v w h hw hl ih=>exact .step ih hw (by rintro rfl;have:=h.le;omega)
theorem UpTo.trans(h:UpTo par x y)(k:UpTo par y z):UpTo par x z:=by
 induction h with
 | refl x=>exact k
 | up h _ ih=>exact .up h (ih k)
theorem anc_up(h:par x=(p:Int)):UpTo par x z↔z=x\/UpTo par p z:=by
 constructor
 ·intro k
  cases k with
  | refl=>exact .inl rfl
  | up h' t=>grind
 ·rintro(rfl|k)
  ·exact .refl _
  ·exact .up h k
theorem SH(h:∀ p:Nat,par x≠(p:Int)):UpTo par x z↔z=x:=by
 constructor
 ·intro k
  cases k with
  | refl=>rfl
  | up h' t=>exact absurd h' (h _)
 ·rintro rfl;exact .refl _
structure Inv(S:Nat->List Nat)(r n:Nat)(at_:Nat->Nat)(par:Nat->Int):Prop where
 top:par r = -1
 kind:∀ x,x<n->par x = -2\/x=r\/∃ z:Nat,par x=(z:Int)
 up:∀ x,x<n->∀ z:Nat,par x=(z:Int)->z<n/\par z≠-2/\at_ z<at_ x/\Fw S at_ z x
 rc:∀ x,x<n->par x≠-2->Rc S r x
 all:∀ x,x<n->par x≠-2->∀ d,¬ UpTo par x d->Av S r d x
end
section
variable {S:Nat->List Nat} {at_:Nat->Nat} {par:Nat->Int} {r n:Nat}
theorem Inv.anc(h:Inv S r n at_ par)(k:UpTo par x z)(hx:x<n)(hp:par x≠-2):z<n/\par z≠-2/\at_ z<=at_ x/\Fw S at_ z x:=by
 induction k with
 | refl x=>exact⟨hx,hp,zzL7 _,.refl⟩
 | @up x y z hxy t ih=>
  obtain⟨h1,h2,h3,h4⟩:=h.up x hx y hxy;obtain⟨i1,i2,i3,i4⟩:=ih h1 h2;exact⟨i1,i2,by omega,i4.trans h4⟩
theorem Inv.root_anc(h:Inv S r n at_ par):UpTo par r z↔z=r:=SH λp hp=>by rw[h.top]at hp;omega
theorem Inv.strict(h:Inv S r n at_ par)(k:UpTo par x z)(hx:x<n)(hp:par x≠-2):z=x\/at_ z<at_ x:=by
 cases k with
 | refl=>exact .inl rfl
 | up hxy t=>
  obtain⟨h1,h2,h3,h4⟩:=h.up x hx _ hxy;obtain⟨i1,i2,i3,i4⟩:=h.anc t h1 h2;exact .inr (by omega)
theorem Inv.antisymm(h:Inv S r n at_ par)(k:UpTo par x z)(m:UpTo par z x)(hx:x<n)(hp:par x≠-2):z=x:=by
 rcases h.strict k hx hp with rfl|h1
 ·rfl
 ·obtain⟨i1,i2,i3,i4⟩:=h.anc k hx hp;have:=(h.anc m i1 i2).2.2.1;omega
def MeetAt(par:Nat->Int)(a b m:Nat):Prop:=∀ w,UpTo par m w↔UpTo par a w/\UpTo par b w
theorem bo:MeetAt par a a a:=λw=>by simp
theorem pU(h:MeetAt par a b m):MeetAt par b a m:=λw=>by rw[h w];exact And.comm
theorem Inv.meet_left(h:Inv S r n at_ par)(ah3:∀ x y,x<n->y<n->par x≠-2->par y≠-2->at_ x=at_ y->x=y)(ha:a<n)(hpa:par a≠-2)(hb:b<n)(hpb:par b≠-2)(hab:a≠b)(hl:at_ b<=at_ a)(hp:par a=(p:Int))(k:MeetAt par p b m):MeetAt par a b m:=λw=>by
 rw[k w]
 constructor
 ·rintro⟨h1,h2⟩;exact⟨.up hp h1,h2⟩
 ·rintro⟨h1,h2⟩;rcases(anc_up hp).1 h1 with rfl|h1
  ·exfalso
   rcases h.strict h2 hb hpb with h3|h3
   ·exact hab h3
   ·omega
  ·exact⟨h1,h2⟩
end
section
variable {S:Nat->List Nat} {at_:Nat->Nat} {par:Nat->Int} {r n:Nat}
def Ua(par:Nat->Int)(y:Nat)(v:Int):Nat->Int:=λx=>if x=y then v else par x
def jE(S:Nat->List Nat)(n:Nat)(par:Nat->Int)(y z:Nat):Prop:=∀ w,UpTo par z w↔∀ p,p<n->y∈S p->par p≠-2->UpTo par p w
theorem QA(k:UpTo par x z)(hy:¬ UpTo par x y):UpTo (Ua par y v) x z:=by
 induction k with
 | refl x=>exact .refl _
 | @up x q z h t ih=>
  have hxy:x≠y:=by rintro rfl;exact hy (.refl _)
  refine .up  ?_ (ih λk=>hy (.up h k));unfold Ua;rw[if_neg hxy];exact h
theorem fW(k:UpTo par x y):UpTo (Ua par y v) x y:=by
 induction k with
 | refl x=>exact .refl _
 | @up x q z h t ih=>
  by_cases hxy:x=z
  ·subst hxy;exact .refl _
  ·refine .up  ?_ ih;unfold Ua;rw[if_neg hxy];exact h
theorem anc_upd_inv(k:UpTo (Ua par y v) x w):UpTo par x w\/(UpTo par x y/\UpTo (Ua par y v) y w):=by
 induction k with
 | refl x=>exact .inl (.refl _)
 | @up x q w h t ih=>
  by_cases hxy:x=y
  ·subst hxy;exact .inr ⟨.refl _,.up h t⟩
  ·unfold Ua at h;rw[if_neg hxy]at h;rcases ih with h1|⟨h1,h2⟩
   ·exact .inl (.up h h1)
   ·exact .inr ⟨.up h h1,h2⟩
theorem low_or(k:UpTo par x y)(hd:UpTo par x d):UpTo par y d\/UpTo (Ua par y v) x d:=by
 induction k with
 | refl x=>exact .inl hd
 | @up x q y hq t ih=>
  by_cases e:x=y
  ·subst e;exact .inl hd
  ·rcases(anc_up hq).1 hd with rfl|k
   ·exact .inr (.refl _)
   ·rcases ih k with h1|h1
    ·exact .inl h1
    ·exact .inr (.up  (by unfold Ua;rw[if_neg e];exact hq) h1)
structure Better(S:Nat->List Nat)(r n:Nat)(at_:Nat->Nat)(par:Nat->Int)(y z:Nat):Prop where
 inv:Inv S r n at_ par
 hy:y<n
 hr:y≠r
 hz:z<n
 best:jE S n par y z
 fwd:∃ p,p<n/\y∈S p/\par p≠-2/\at_ p<at_ y
variable {y z:Nat}
theorem Better.zlt(h:Better S r n at_ par y z):UpTo par z z/\par z≠-2/\at_ z<at_ y/\Fw S at_ z y:=by
 obtain⟨p,hp,hyp,hpp,hl⟩:=h.fwd;obtain⟨h1,h2,h3,h4⟩:=h.inv.anc ((h.best z).1 (.refl _) p hp hyp hpp) hp hpp;exact⟨.refl _,h2,by omega,.step h4 hyp hl⟩
theorem Better.above(h:Better S r n at_ par y z):UpTo (Ua par y z) z w↔UpTo par z w:=by
 obtain⟨_,h2,h3,_⟩:=h.zlt
 have hn:¬ UpTo par z y:=λk=>by have:=(h.inv.anc k h.hz h2).2.2.1;omega
 constructor
 ·intro k;rcases anc_upd_inv k with h1|⟨h1,_⟩
  ·exact h1
  ·exact absurd h1 hn
 ·intro k;exact QA k hn
theorem Better.here(h:Better S r n at_ par y z):UpTo (Ua par y z) y w↔w=y\/UpTo par z w:=by
 rw[anc_up (p:=z) (by simp[Ua]),h.above]
theorem Better.av_here(h:Better S r n at_ par y z)(hd:¬ UpTo (Ua par y z) y d):Av S r d y:=by
 rw[h.here]at hd;have h1:¬ ∀ p,p<n->y∈S p->par p≠-2->UpTo par p d:=λhh=>hd (.inr ((h.best d).2 hh));simp only[Classical.not_forall]at h1;obtain⟨p,hp,hyp,hpp,hnp⟩:=h1;exact .step (h.inv.all p hp hpp d hnp) hyp λe=>hd (.inl e.symm)
theorem Better.inv'(h:Better S r n at_ par y z):Inv S r n at_ (Ua par y z):=by
 obtain⟨hzz,hz2,hzl,hzf⟩:=h.zlt;obtain⟨p,hp,hyp,hpp,hl⟩:=h.fwd
 have hne:∀ x,Ua par y z x≠-2->x=y\/par x≠-2:=λx hx=>by
  by_cases e:x=y
  ·exact .inl e
  ·unfold Ua at hx;rw[if_neg e]at hx;exact .inr hx
 have hyv:Ua par y z y=z:=by simp[Ua]
 have hyo:∀ x,x≠y->Ua par y z x=par x:=λx e=>by unfold Ua;rw[if_neg e]
 refine⟨by rw[hyo _ (Tg h.hr)];exact h.inv.top,λx hx=>?_,λx hx w hw=>?_,λx hx hxp=>?_,λx hx hxp d hd=>?_⟩
 ·by_cases e:x=y
  ·grind
  ·rw[hyo x e];exact h.inv.kind x hx
 ·have hzn:∀ w,par w≠-2->Ua par y z w≠-2:=λw hw=>by
   grind
  by_cases e:x=y
  ·subst e;rw[hyv]at hw
   cases PG hw
   exact⟨h.hz,hzn _ hz2,hzl,hzf⟩
  ·rw[hyo x e]at hw;obtain⟨h1,h2,h3,h4⟩:=h.inv.up x hx w hw;exact⟨h1,hzn _ h2,h3,h4⟩
 ·rcases hne x hxp with rfl|h1
  ·exact .step (h.inv.rc p hp hpp) hyp
  ·exact h.inv.rc x hx h1
 ·by_cases e:x=y
  ·subst e;exact h.av_here hd
  ·rw[hyo x e]at hxp
   by_cases hxd:UpTo par x d
   ·
    by_cases hxy:UpTo par x y
    ·have hyd :=λk=>hd ((fW hxy).trans k);have hav:=h.av_here hyd;have hf:=(h.inv.anc hxy hx hxp).2.2.2
     have hdy:UpTo par y d:=by
      rcases low_or  hxy hxd with h1|h1
      ·exact h1
      ·exact absurd h1 hd
     by_cases hpy:par y = -2
     ·
      have :=by
       refine(SH  λp hp=>?_).1 hdy;rw[hpy]at hp;omega
      subst this;exact absurd (.refl _) hyd
     ·rcases h.inv.strict hdy h.hy hpy with rfl|hlt
      ·exact absurd (.refl _) hyd
      ·exact hf.av hav hlt
    ·exact absurd (QA hxd hxy) hd
   ·exact h.inv.all x hx hxp d hxd
end
section
variable {S:Nat->List Nat} {at_:Nat->Nat} {par:Nat->Int} {r n:Nat}
def QB(S:Nat->List Nat)(r n:Nat)(par:Nat->Int)(b:Nat->Nat):Prop:=∀ x,x<n->par x≠-2->∀ z,AvN S r z (b x) x->¬ UpTo par x z
def jF(S:Nat->List Nat)(r n:Nat)(par:Nat->Int):Prop:=∀ x,x<n->Rc S r x->par x≠-2
def mD(S:Nat->List Nat)(r n:Nat)(par:Nat->Int):Prop:=∀ x,x<n->par x≠-2->∀ d,UpTo par x d↔¬ Av S r d x
theorem yN(h:Inv S r n at_ par):QB S r n par λ_=>0:=λx hx hp z hz k=>by
 cases hz with
 | root hr _=>exact hr (h.root_anc.1 k).symm
theorem nM(hS:∀ x,x<n->∀ w∈S x,w<n)(hr:r<n)(h:Rc S r x):x<n:=by
 induction h with
 | root=>exact hr
 | step _ hy ih=>exact hS _ ih _ hy
theorem Better.qb{b:Nat->Nat}(h:Better S r n at_ par y z)(hS:∀ x,x<n->∀ w∈S x,w<n)(hrn:r<n)(full:jF S r n par)(hb:∀ x,x<n->k<=b x/\b x<=k+1)(q:QB S r n par b) :
  QB S r n (Ua par y z) λx=>if x=y then k+1 else b x:=by
 have here:∀ w,AvN S r w (k+1) y->¬ UpTo _ y w:=λw hw hu=>by
  rcases h.here.1 hu with rfl|hu
  ·exact hw.av.ne rfl
  ·cases hw with
   | root hr _=>exact h.hr rfl
   | @step _ p _ hp hyp hne=>
    have hpn:=nM hS hrn hp.av.rc;have hpp:=full p hpn hp.av.rc;exact q p hpn hpp w (hp.mono (hb p hpn).1) ((h.best w).1 hu p hpn hyp hpp)
 intro x hx hxp w hw hu
 dsimp only at hw
 by_cases e:x=y
 ·grind
 ·rw[if_neg e]at hw;unfold Ua at hxp;rw[if_neg e]at hxp;rcases anc_upd_inv hu with h1|⟨h1,h2⟩
  ·exact q x hx hxp w hw h1
  ·rcases hw.via y with h3|h3
   ·exact q x hx hxp y h3 h1
   ·exact here w (h3.mono (hb x hx).2) h2
theorem sO(h:Inv S r n at_ par){K:Nat}(hK:∀ z,z<n->∀ x,x<n->Av S r z x->AvN S r z K x)(q:QB S r n par λ_=>K):mD S r n par:=λx hx hp d=>by
 constructor
 ·intro hu ha;exact q x hx hp d (hK d (h.anc hu hx hp).1 x hx ha) hu
 ·intro ha;exact GP λhn=>ha (h.all x hx hp d hn)
theorem Better.same(h:Better S r n at_ par y z)(hS:∀ x,x<n->∀ w∈S x,w<n)(hrn:r<n)(full:jF S r n par)(hy2:par y≠-2)(ex:mD S r n par):par y=(z:Int):=by
 obtain⟨hzz,hz2,hzl,hzf⟩:=h.zlt;rcases h.inv.kind y h.hy with h1|h1|⟨q,hq⟩
 ·exact absurd h1 hy2
 ·exact absurd h1 h.hr
 ·obtain⟨q1,q2,q3,q4⟩:=h.inv.up y h.hy q hq
  have key:∀ w,UpTo par z w↔UpTo par q w:=λw=>by
   rw[h.best w]
   constructor
   ·intro ac3
    have hwy:¬ Av S r w y:=λha=>by
     cases ha with
     | root _=>exact h.hr rfl
     | @step p _ hp hyp hne=>
      have hpn:=nM hS hrn hp.rc;have hpp:=full p hpn hp.rc;exact(ex p hpn hpp w).1 (ac3 p hpn hyp hpp) hp
    rcases(anc_up hq).1 ((ex y h.hy hy2 w).2 hwy) with rfl|hu
    ·have:=(h.inv.anc ((h.best _).2 ac3) h.hz hz2).2.2.1;omega
    ·exact hu
   ·intro hu p hp hyp hpp;have hwy:UpTo par y w:=.up hq hu;refine(ex p hp hpp w).2 λha=>?_
    have hne:y≠w:=by rintro rfl;have:=(h.inv.anc hu q1 q2).2.2.1;omega
    exact(ex y h.hy hy2 w).1 hwy (.step ha hyp hne)
  have:=h.inv.antisymm ((key q).2 (.refl _)) ((key z).1 (.refl _)) h.hz hz2;rw[hq,this]
theorem o9(h:Inv S r n at_ par)(hS:∀ x,x<n->∀ w∈S x,w<n)(hrn:r<n)(full:jF S r n par)(fix:∀ y,y<n->y≠r->Rc S r y->∃ z:Nat,par y=(z:Int)/\jE S n par y z):mD S r n par:=λx hx hp d=>by
 constructor
 ·intro hu ha
  induction ha with
  | root hne=>exact hne (h.root_anc.1 hu).symm
  | @step p y hp' hyp hne ih=>
   have hpn:=nM hS hrn hp'.rc;have hpp:=full p hpn hp'.rc
   by_cases e:y=r
   ·subst e;exact hne (h.root_anc.1 hu).symm
   ·obtain⟨z,hz,hb⟩:=fix y hx e (.step hp'.rc hyp);rcases(anc_up hz).1 hu with rfl|hu
    ·exact hne rfl
    ·exact ih hpn hpp ((hb d).1 hu p hpn hyp hpp)
 ·intro ha;exact GP λhn=>ha (h.all x hx hp d hn)
end
def B7(t:List Int):Nat->Int:=λx=>t.getD x 0
theorem iG(hy:y<t.length):B7 (t.set y v)=Ua (B7 t) y v:=by
 funext x
 unfold B7 Ua
 by_cases e:x=y
 ·grind
 ·grind
open Classical in
def Rg(S:Nat->List Nat)(n:Nat)(t:List Int)(y:Nat):Nat:=if h:∃ z,z<n/\jE S n (B7 t) y z then Classical.choose h else 0
def EH(S:Nat->List Nat)(n:Nat)(P:List Nat)(t:List Int):Nat->List Int
 | 0=>t
 | i+1=>(EH S n P t i).set (P.getD i 0) (Rg S n (EH S n P t i) (P.getD i 0):Int)
def ZG(S:Nat->List Nat)(n:Nat)(P:List Nat)(t:List Int):Nat->List Int
 | 0=>t
 | j+1=>EH S n P (ZG S n P t j) P.length
def Kc(n r:Nat):List Int:=(List.replicate n (-2:Int)).set r (-1)
structure Ordered(S:Nat->List Nat)(r n:Nat)(P:List Nat):Prop where
 hr:r<n
 hS:∀ x,x<n->∀ w∈S x,w<n
 nodup:(r::P).Nodup
 mem:∀ x,x∈r::P↔Rc S r x
 fwd:∀ i,i<P.length->∃ p,p∈r::P.take i/\P.getD i 0∈S p
section
variable {S:Nat->List Nat} {r n:Nat} {P:List Nat}
theorem Ordered.lt(o:Ordered S r n P)(h:x∈r::P):x<n:=nM o.hS o.hr ((o.mem x).1 h)
theorem Y7(hi:i<P.length):P.getD i 0∈P:=by grind
theorem Ordered.at_lt(o:Ordered S r n P)(hi:i<P.length)(hp:p∈r::P.take i):pos (r::P) p<pos (r::P) (P.getD i 0):=by
 have hd:=o.nodup
 have h1:pos (r::P) (P.getD i 0)=i+1:=by
  have:=(SV hd (i:=i+1) (by simpa using hi)).2;rw[Ad _ _ _ hi]
  simpa using this
 rw[h1];obtain⟨j,hj,rfl⟩:=H8 hp
 have hj':j<i+1:=by simp at hj;omega
 have hjl:j<(r::P).length:=by simp;omega
 have e:(r::P.take i)[j]=(r::P)[j]:=by
  grind
 rw[e,(SV hd hjl).2];exact hj'
theorem Af2(o:Ordered S r n P):Inv S r n (pos (r::P)) (B7 (Kc n r))/\(Kc n r).length=n/\B7 (Kc n r) r≠-2:=by
 have IT:(Kc n r).length=n:=by simp[Kc]
 have hr:=o.hr
 have at_:∀ x,x<n->B7 (Kc n r) x=if x=r then -1 else -2:=λx hx=>by
  unfold B7 Kc
  by_cases e:x=r
  ·grind
  ·grind
 have hno:∀ x,x<n->∀ p:Nat,B7 (Kc n r) x≠p:=λx hx p hp=>by grind
 refine⟨⟨by grind,λx hx=>?_,λx hx z hz=>absurd hz (hno x hx z),λx hx hp=>?_,λx hx hp d hd=>?_⟩,IT,by grind⟩
 ·grind
 ·by_cases e:x=r
  ·subst e;exact .root
  ·grind
 ·by_cases e:x=r
  ·subst e;exact .root (λe=>hd (by rw[e];exact .refl _))
  ·grind
structure Ready(S:Nat->List Nat)(r n:Nat)(P:List Nat)(t:List Int)(i:Nat):Prop where
 inv:Inv S r n (pos (r::P)) (B7 t)
 len:t.length=n
 done:∀ x∈r::P.take i,B7 t x≠-2
theorem Inv.meets{at_:Nat->Nat}{par:Nat->Int}(h:Inv S r n at_ par)(ah3:∀ x y,x<n->y<n->par x≠-2->par y≠-2->at_ x=at_ y->x=y)(hr:at_ r=0):∀ m a b,at_ a+at_ b<=m->a<n->b<n->par a≠-2->par b≠-2->∃ c,MeetAt par a b c/\c<n/\par c≠-2:=by
 intro m
 induction m with
 | zero=>
  intro a b hm ha hb hpa hpb;have:a=b:=ah3 a b ha hb hpa hpb (by omega);subst this;exact⟨a,bo,ha,hpa⟩
 | succ m ih=>
  have go:∀ a b,at_ a+at_ b<=m+1->a<n->b<n->par a≠-2->par b≠-2->at_ b<=at_ a->∃ c,MeetAt par a b c/\c<n/\par c≠-2:=λa b hm ha hb hpa hpb hl=>by
   by_cases e:a=b
   ·subst e;exact⟨a,bo,ha,hpa⟩
   ·rcases h.kind a ha with h1|h1|⟨p,hp⟩
    ·exact absurd h1 hpa
    ·subst h1;exact absurd (ah3 a b ha hb hpa hpb (by omega)) e
    ·obtain⟨p1,p2,p3,p4⟩:=h.up a ha p hp;obtain⟨c,hc,hc2⟩:=ih p b (by omega) p1 hb p2 hpb;exact⟨c,h.meet_left ah3 ha hpa hb hpb e hl hp hc,hc2⟩
  intro a b hm ha hb hpa hpb;rcases Nat.le_total (at_ b) (at_ a) with hl|hl
  ·exact go a b hm ha hb hpa hpb hl
  ·obtain⟨c,hc,hc2⟩:=go b a (by omega) hb ha hpb hpa hl;exact⟨c,pU hc,hc2⟩
theorem Ready.inj(o:Ordered S r n P)(h:Ready S r n P t i):∀ x y,x<n->y<n->B7 t x≠-2->B7 t y≠-2->pos (r::P) x=pos (r::P) y->x=y:=λx y hx hy hpx hpy he=>by
 have hm :=λx hx hp=>(o.mem x).2 (h.inv.rc x hx hp)
 have back:∀ x∈r::P,(r::P).getD (pos _ x) 0=x:=λx hx=>by
  obtain⟨j,hj,rfl⟩:=H8 hx;rw[(SV o.nodup hj).2,Ad _ _ _ hj]
 rw[<- back x (hm x hx hpx),<- back y (hm y hy hpy),he]
theorem iK:pos (r::P) r=0:=by rw[VU,if_pos rfl]
theorem Ready.meetAll(o:Ordered S r n P)(h:Ready S r n P t i):∀ l:List Nat,(∀ p∈l,p<n/\B7 t p≠-2)->l≠[]->∃ z,z<n/\B7 t z≠-2/\∀ w,UpTo (B7 t) z w↔∀ p∈l,UpTo (B7 t) p w:=by
 intro l
 induction l with
 | nil=>grind
 | cons p l ih=>
  intro hl _;obtain⟨hp1,hp2⟩:=hl p (zzL44 ..)
  by_cases hl0:l=[]
  ·grind
  ·obtain⟨z,hz1,hz2,hz3⟩:=ih (λq hq=>hl q (Mo _ hq)) hl0;obtain⟨c,hc1,hc2,hc3⟩:=h.inv.meets (h.inj o) iK _ p z (zzL7 _) hp1 hz1 hp2 hz2;exact⟨c,hc2,hc3,λw=>by rw[hc1 w,hz3 w];simp⟩
theorem Ready.best(o:Ordered S r n P)(h:Ready S r n P t i)(hi:i<P.length):Better S r n (pos (r::P)) (B7 t) (P.getD i 0) (Rg S n t (P.getD i 0)):=by
 have hy:=Y7 hi;have hyr:P.getD i 0≠r:=λe=>(zzL108.1 o.nodup).1 (e▸hy);have hyn:=o.lt (Mo _ hy);obtain⟨p,hp,hyp⟩:=o.fwd i hi;have hp2:=h.done p hp
 have hpP:p∈r::P:=by
  grind
 have hpn:=o.lt hpP
 have hex:∃ z,z<n/\jE S n (B7 t) (P.getD i 0) z:=by
  classical
  obtain⟨z,hz1,hz2,hz3⟩:=h.meetAll o ((List.range n).filter λp=>decide (P.getD i 0∈S p/\B7 t p≠-2)) (λp hp=>by
   grind) (λe=>by
   simp_all)
  refine⟨z,hz1,λw=>?_⟩
  constructor
  ·grind
  ·grind
 have hb:Rg S n t (P.getD i 0)<n/\jE S n (B7 t) (P.getD i 0) (Rg S n t (P.getD i 0)):=by
  unfold Rg;rw[dif_pos hex];exact Classical.choose_spec hex
 exact⟨h.inv,hyn,hyr,hb.1,hb.2,p,hpn,hyp,hp2,o.at_lt hi hp⟩
theorem Ready.best_eq(o:Ordered S r n P)(h:Ready S r n P t i)(hi:i<P.length)(hz:z<n)(hz2:B7 t z≠-2)(hb:jE S n (B7 t) (P.getD i 0) z):z=Rg S n t (P.getD i 0):=by
 have b:=h.best o hi;exact(h.inv.antisymm ((hb _).2 ((b.best _).1 (.refl _))) ((b.best _).2 ((hb _).1 (.refl _))) hz hz2).symm
theorem Ready.next(o:Ordered S r n P)(h:Ready S r n P t i)(hi:i<P.length):Ready S r n P (t.set (P.getD i 0) (Rg S n t (P.getD i 0):Int)) (i+1):=by
 have b:=h.best o hi;have e:=iG   (v:=Rg S n t (P.getD i 0)) (by rw[h.len];exact b.hy);refine⟨by rw[e];exact b.inv',by rw[Ek];exact h.len,λx hx=>?_⟩;rw[e];unfold Ua
 split
 ·omega
 ·refine h.done x ?_;rcases zzL31.1 hx with rfl|hx
  ·grind
  ·rw[il hi]at hx;rcases zzL8.1 hx with hx|hx
   ·grind
   ·grind
theorem Ready.more(o:Ordered S r n P)(h:Ready S r n P t P.length)(i:Nat):Ready S r n P t i:=
 ⟨h.inv,h.len,λx hx=>h.done x (by
  grind)⟩
theorem Ready.full(o:Ordered S r n P)(h:Ready S r n P t P.length):jF S r n (B7 t):=λx hx hr=>h.done x (by rw[RH];exact(o.mem x).2 hr)
theorem Ready.round(o:Ordered S r n P)(h:Ready S r n P t 0):∀ i,i<=P.length->Ready S r n P (EH S n P t i) i:=by
 intro i
 induction i with
 | zero=>intro _;exact h
 | succ i ih=>intro hi;exact(ih (by omega)).next o (by omega)
theorem Ab9(o:Ordered S r n P):Ready S r n P (Kc n r) 0:=by
 obtain⟨h1,h2,h3⟩:=Af2 o;exact⟨h1,h2,λx hx=>by grind⟩
theorem Ready.rounds(o:Ordered S r n P):∀ j,Ready S r n P (ZG S n P (Kc n r) j) 0:=by
 intro j
 induction j with
 | zero=>exact Ab9 o
 | succ j ih=>exact((ih.round o) _ (zzL7 _)).more o 0
theorem Ready.rounds'(o:Ordered S r n P)(j:Nat):Ready S r n P (ZG S n P (Kc n r) (j+1)) P.length:=(Ready.rounds o j).round o _ (zzL7 _)
theorem tt(o:Ordered S r n P)(h:Ready S r n P t P.length)(q:QB S r n (B7 t) λ_=>k):QB S r n (B7 (EH S n P t P.length)) λ_=>k+1:=by
 have key:∀ i,i<=P.length->QB S r n (B7 (EH S n P t i)) (λx=>if x∈P.take i then k+1 else k)/\jF S r n (B7 (EH S n P t i)):=by
  intro i
  induction i with
  | zero=>intro _;exact⟨by simpa [EH] using q,h.full o⟩
  | succ i ih=>
   intro hi;obtain⟨q1,f1⟩:=ih (by omega);have rd:=(h.more o 0).round o i (by omega);have b:=rd.best o (by omega);have e:=iG   (v:=Rg S n (EH S n P t i) (P.getD i 0)) (by rw[rd.len];exact b.hy)
   constructor
   ·show QB S r n (B7 ((EH S n P t i).set _ _)) _
    rw[e];have:=b.qb (k:=k) o.hS o.hr f1 (λx _=>by split<;>omega) q1;intro x hx hp z hz;refine this x hx hp z ?_;rw[il (by omega)]at hz
    by_cases e1:x=P.getD i 0
    ·grind
    ·grind
   ·show jF S r n (B7 ((EH S n P t i).set _ _))
    rw[e];intro x hx hr;unfold Ua
    split
    ·omega
    ·exact f1 x hx hr
 have q1:=(key _ (zzL7 _)).1;rw[RH]at q1;have rd:=(h.more o 0).round o _ (zzL7 _);intro x hx hp z hz;refine q1 x hx hp z ?_
 dsimp only at hz ⊢
 by_cases e:x∈P
 ·rw[if_pos e];exact hz
 ·rw[if_neg e]
  have hxr:x=r:=by
   rcases zzL31.1 ((o.mem x).2 (rd.inv.rc x hx hp)) with h1|h1
   ·exact h1
   ·exact absurd h1 e
  subst hxr;exact .root hz.av.ne k
def ES(S:Nat->List Nat)(n:Nat)(P:List Nat)(t:List Int):Prop:=∀ i,i<P.length->B7 t (P.getD i 0)=(Rg S n t (P.getD i 0):Int)
theorem GJ(o:Ordered S r n P)(hl:t.length=n)(h:ES S n P t):∀ i,i<=P.length->EH S n P t i=t:=by
 intro i
 induction i with
 | zero=>intro _;rfl
 | succ i ih=>
  intro hi;unfold EH;rw[ih (by omega),<- h i (by omega)]
  have hlt:P.getD i 0<t.length:=by rw[hl];exact o.lt (Mo _ (Y7 (by omega)))
  unfold B7;rw[Ad _ _ _ hlt];exact List.set_getElem_self hlt
theorem zT(o:Ordered S r n P):∃ J,(∀ j,j<J->¬ ES S n P (ZG S n P (Kc n r) j))/\ES S n P (ZG S n P (Kc n r) J):=by
 obtain⟨K,hK⟩:=oa   n
 have hq:∀ k,QB S r n (B7 (ZG S n P (Kc n r) (k+1))) λ_=>k:=by
  intro k
  induction k with
  | zero=>exact yN (Ready.rounds' o 0).inv
  | succ k ih=>exact tt o (Ready.rounds' o k) ih
 have hst :=λi hi=>by
  have rd:=Ready.rounds' o K;exact((rd.more o i).best o hi).same o.hS o.hr (rd.full o) (rd.done _ (Mo _ (by grind))) (sO rd.inv hK (hq K))
 have key:∀ m,(∃ J,J<=m/\ES S n P (ZG S n P (Kc n r) J))->∃ J,(∀ j,j<J->¬ ES S n P (ZG S n P (Kc n r) j))/\ES S n P (ZG S n P (Kc n r) J):=by
  intro m
  induction m with
  | zero=>grind
  | succ m ih=>
   rintro⟨J,hJ,h⟩
   by_cases hm:∃ J,J<=m/\ES S n P (ZG S n P (Kc n r) J)
   ·exact ih hm
   ·grind
 exact key _ ⟨K+1,zzL7 _,hst⟩
structure DomTree(S:Nat->List Nat)(r n:Nat)(P:List Nat)(t:List Int):Prop where
 inv:Inv S r n (pos (r::P)) (B7 t)
 len:t.length=n
 full:jF S r n (B7 t)
 exact_:mD S r n (B7 t)
theorem RB(o:Ordered S r n P)(h:ES S n P (ZG S n P (Kc n r) j)):DomTree S r n P (ZG S n P (Kc n r) j):=by
 have rd:=Ready.rounds o j
 have ac3 :=by
  have:=rd.round o _ (zzL7 _);rwa[GJ o rd.len h _ (zzL7 _)]at this
 refine⟨rd.inv,rd.len,ac3.full o,o9 rd.inv o.hS o.hr (ac3.full o) λy hy hne hr=>?_⟩
 have hm:y∈P:=by
  rcases zzL31.1 ((o.mem y).2 hr) with h1|h1
  ·exact absurd h1 hne
  ·exact h1
 obtain⟨i,hi,rfl⟩:=H8 hm;have b:=(ac3.more o i).best o hi;rw[Ad _ _ _ hi]at b;have hs:=h i hi;rw[Ad _ _ _ hi]at hs;exact⟨_,hs,b.best⟩
end
section
variable {S:Nat->List Nat} {s s':Nat->Bool} {l o:List Nat}
theorem VL.before(h:VL S s l s' o):∀ A z B,o=A++z::B->z∈l\/∃ p∈B,z∈S p:=by
 induction h with
 | nil s=>intro A z B e;simp at e
 | skip h _ ih=>
  grind
 | @step s s1 s2 y l o1 o2 h a b iha ihb=>
  intro A z B e;rcases List.append_eq_append_iff.1 e with⟨C,hC1,hC2⟩|⟨C,hC1,hC2⟩
  ·
   cases C with
   | nil=>
    grind
   | cons c C=>
    grind
  ·cases C with
   | nil=>
    grind
   | cons c C=>
    grind
theorem Ord.ordered{L:List Nat}(hr:r<n)(hS:∀ x,x<n->∀ w∈S x,w<n)(h:Ord S r L):∃ P,L=r::P/\Ordered S r n P:=by
 have h1:=h.nodup;have h2:=h.mem;obtain⟨s',o,hv,rfl⟩:=h;refine⟨o.reverse,rfl,hr,hS,h1,λx=>by rw[h2 x,rc_iff],λi hi=>?_⟩
 have e:o.reverse=o.reverse.take i++o.reverse[i]::o.reverse.drop (i+1):=by rw[<- eD hi,List.take_append_drop]
 have e2:o=(o.reverse.drop (i+1)).reverse++o.reverse[i]::(o.reverse.take i).reverse:=by
  have:=Bw List.reverse e
  simpa using this
 rw[Ad _ _ _ hi];rcases hv.before _ _ _ e2 with h3|⟨p,hp,hz⟩
 ·exact⟨r,zzL44 ..,h3⟩
 ·grind
end
def nb(S:Nat->List Nat)(w:Int):Nat->List Nat:=λx=>(S x).filter λy=>decide ((y:Int)≠w)
theorem uZ(S:Nat->List Nat):nb S (-1)=S:=by
 funext x
 exact List.filter_eq_self.2 λy _=>Da (by omega)
theorem yf(S:Nat->List Nat)(z:Nat):nb S (z:Int)=wo S z:=by
 funext x
 unfold nb wo
 congr 1
 funext y
 exact zzL83.2 ⟨λh e=>h (by rw[e]),λh e=>h (PG e)⟩
def Oh(L:List (List Int))(r:Nat)(w:Int):List Bool:=if(r:Int)=w then List.replicate L.length false else ML (nb (sN L) w) L.length ((List.replicate L.length false).set r true) L.length
theorem VY(L:List (List Int))(r:Nat)(w:Int):(Oh L r w).length=L.length:=by
 unfold Oh
 split
 ·simp
 ·rw[BX];simp
theorem gm(hm:N4 L=true)(hr:r<L.length)(w:Int) :
  Dd (La L) (r:Int) w=some (Oh L r w):=by
 obtain⟨h1,h2,h3⟩:=mayS_iff.1 hm
 have ab1:(1000:Nat)<=room:=by decide
 have hS:=Ws hm;have hSw:∀ z,z<L.length->∀ y∈nb (sN L) w z,y<L.length:=λz hz y hy=>hS z hz y (zzL73.1 hy).1;have hgs:(La L).Succ=L:=rfl
 have af2:∀ a,(sN L a).length=(L.getD a []).length:=λa=>by simp[sN]
 let fl:List Nat->List Nat:=λl=>l.filter λy=>decide ((y:Int)≠w)
 have hin:∀(o:List Bool) (i:Nat),o.length=L.length->i<L.length->Ae (Ba (La L) w (i:Int)) ((0:Int),o)=some (if o.getD i false=true then mk o (nb (sN L) w i) else o):=λo i ho hi=>by
  have hb:=HW (h3 i hi)
  by_cases hoi:o.getD i false=true
  ·rw[if_pos hoi];have hmi:∀ k,(mk o (fl ((sN L i).take k))).getD i false=true:=λk=>(mk_at (n:=L.length) _ _ ho (λy hy=>hS i hi y (List.mem_of_mem_take (zzL73.1 hy).1)) i).2 (.inl hoi)
   have hml:∀ k,(mk o (fl ((sN L i).take k))).length=L.length:=λk=>by rw[kW,ho]
   refine Ga (Ba (La L) w (i:Int)) (λk=>(((k:Nat):Int),mk o (fl ((sN L i).take k)))) _ (L.getD i []).length (λk hk=>?_) ?_
   ·show Ba (La L) w (i:Int) (_,_)=_
    unfold Ba;obtain⟨a0,a1⟩:=FO (h3 i hi) hk;simp only[hgs,Ao,hmi];rw[Ac (F5 (by rw[hml];exact hi)),Om (F5 hi),Ah,B0 hk,Ah,Ac (F5 hi),Ac (F5 hk)]
    have hk':k<(sN L i).length:=by rw[af2];exact hk
    have hsk:(sN L i)[k]=((L.getD i []).getD k 0).toNat:=by rw[Ad _ _ _ hk];simp[sN]
    have hski:(((sN L i)[k]:Nat):Int)=(L.getD i []).getD k 0:=by rw[hsk];exact Mp a0
    have e:mk o (fl ((sN L i).take (k+1)))=if(L.getD i []).getD k 0=w then mk o (fl ((sN L i).take k)) else(mk o (fl ((sN L i).take k))).set ((L.getD i []).getD k 0).toNat true:=by
     rw[il hk']
     show mk o (List.filter _ (_++[_]))=_
     rw[JH]
     by_cases hw:(L.getD i []).getD k 0=w
     ·rw[if_pos hw]
      have:List.filter (λy:Nat=>decide ((y:Int)≠w)) [(sN L i)[k]]=[]:=by rw[List.filter_cons,hski,hw];simp
      rw[this,List.append_nil]
     ·rw[if_neg hw]
      have:List.filter (λy:Nat=>decide ((y:Int)≠w)) [(sN L i)[k]]=[(sN L i)[k]]:=by rw[List.filter_cons,hski,if_pos (Da hw)];rfl
      rw[this];unfold mk;rw[List.foldl_append,hsk]
      rfl
    by_cases hw:(L.getD i []).getD k 0=w
    ·have hne:((L.getD i []).getD k 0 !=w)=false:=by rw[hw];simp
     rw[hne,Ar,Am,w1 (by omega),e,if_pos hw]
    ·have hne:((L.getD i []).getD k 0 !=w)=true:=by rw[zzL65];exact hw
     rw[hne,Ah,Ac (F5 hi),Ac (F5 hk),Ac ⟨a0,by rw[hml];exact a1⟩,w1 (by omega),e,if_neg hw]
     rfl
   ·show Ba (La L) w (i:Int) (_,_)=_
    unfold Ba;simp only[hgs,Ao,hmi];rw[Ac (F5 (by rw[hml];exact hi)),Om (F5 hi),Ah,Cy,Ar]
    have:(sN L i).take (L.getD i []).length=sN L i:=by rw[<- af2];exact RH ..
    rw[this]
    rfl
  ·have hof:o.getD i false=false:=by simpa using hoi
   rw[if_neg hoi]
   apply An
   unfold Ba;simp only[hgs,Ao,hof];rw[Ac (F5 (by rw[ho];exact hi)),Om (F5 hi),Ar,Ar]
 have hsw:∀ o:List Bool,o.length=L.length->Ae (Bb (La L) w) ((0:Int),o)=some (sw (nb (sN L) w) o L.length):=λo ho=>by
  refine Ga (Bb (La L) w) (λi=>(((i:Nat):Int),sw (nb (sN L) w) o i)) _ L.length (λi hi=>?_) ?_
  ·show Bb (La L) w (_,_)=_
   unfold Bb
   have hl:(sw (nb (sN L) w) o i).length=L.length:=by rw[sw_len,ho]
   simp only[hl,B0 hi,Ah];rw[hin _ i hl hi,w1 (by omega)]
   rfl
  ·show Bb (La L) w (_,_)=_
   unfold Bb
   have hl:(sw (nb (sN L) w) o L.length).length=L.length:=by rw[sw_len,ho]
   simp only[hl,Cy,Ar]
 unfold Dd;simp only[hgs,Ao];rw[Ac ⟨by omega,Int.le_refl _,by omega⟩];unfold Oh
 by_cases hrw:(r:Int)=w
 ·rw[if_pos hrw]
  have:((r:Int)==w)=true:=by simpa using hrw
  rw[this,Ah]
 ·rw[if_neg hrw]
  have hne:((r:Int)==w)=false:=by rw[zzL30];exact hrw
  rw[hne,Ar,Ac (F5 (by simpa using hr))]
  have hl0:((List.replicate L.length false).set r true).length=L.length:=by simp
  have:Ae (Bc (La L) w) ((0:Int),(List.replicate L.length false).set r true)=some (ML (nb (sN L) w) L.length ((List.replicate L.length false).set r true) L.length):=by
   refine Ga (Bc (La L) w) (λj=>(((j:Nat):Int),ML (nb (sN L) w) L.length ((List.replicate L.length false).set r true) j)) _ L.length (λj hj=>?_) ?_
   ·show Bc (La L) w (_,_)=_
    unfold Bc
    have hl:(ML (nb (sN L) w) L.length ((List.replicate L.length false).set r true) j).length=L.length:=by rw[BX,hl0]
    simp only[hl,B0 hj,Ah];rw[hsw _ hl,w1 (by omega)]
    rfl
   ·show Bc (La L) w (_,_)=_
    unfold Bc
    have hl:(ML (nb (sN L) w) L.length ((List.replicate L.length false).set r true) L.length).length=L.length:=by rw[BX,hl0]
    simp only[hl,Cy,Ar]
  rw[this]
  rfl
theorem tx(hm:N4 L=true)(hr:r<L.length):(Oh L r (-1)).getD b false=true↔Rc (sN L) r b:=by
 unfold Oh;rw[if_neg (by omega),uZ,GC (Ws hm) hr b,rc_iff]
theorem kp(hm:N4 L=true)(hr:r<L.length)(hb:b<L.length):(Oh L r (a:Int)).getD b false=true↔Av (sN L) r a b:=by
 unfold Oh;rw[av_iff]
 by_cases h:r=a
 ·grind
 ·rw[if_neg (by omega),yf,GC (S:=wo _ a) (λz hz y hy=>Ws hm z hz y (zzL73.1 hy).1) hr b];simp[h]
def Rs(L:List (List Int))(r a b:Nat):Bool:=(Oh L r (-1)).getD b false&&!(Oh L r (a:Int)).getD b false
theorem iF(hm:N4 L=true)(hr:r<L.length)(hb:b<L.length):Rs L r a b=true↔Rc (sN L) r b/\¬ Av (sN L) r a b:=by
 unfold Rs;rw[Az,Qr,<- Bool.not_eq_true,tx hm hr,kp hm hr hb]
def VE(L:List (List Int))(r a b:Nat):Bool:=(List.range L.length).all λc=>decide (c=b) || !Rs L r c b || Rs L r c a
def Wm(L:List (List Int))(r b:Nat):Nat->Int
 | 0=>-2
 | a+1=>if a≠b/\Rs L r a b=true/\VE L r a b=true then(a:Int) else Wm L r b a
def CE(L:List (List Int))(r b:Nat):Int:=if b=r then -1 else Wm L r b L.length
def DB(L:List (List Int))(r:Nat):List Int:=(List.range L.length).map (CE L r)
theorem cM(L:List (List Int))(r:Nat):(DB L r).length=L.length:=by simp[DB]
theorem uT(hb:b<L.length):(DB L r).getD b 0=CE L r b:=by unfold DB;rw[So hb]
theorem pick_cases(L:List (List Int))(r b:Nat):∀ m,(Wm L r b m = -2/\∀ a,a<m->¬ (a≠b/\Rs L r a b=true/\VE L r a b=true))\/∃ a,a<m/\Wm L r b m=(a:Int)/\a≠b/\Rs L r a b=true/\VE L r a b=true:=by
 intro m
 induction m with
 | zero=>exact .inl ⟨rfl,λa ha=>absurd ha (W4 a)⟩
 | succ m ih=>
  unfold Wm
  by_cases h:m≠b/\Rs L r m b=true/\VE L r m b=true
  ·grind
  ·grind
theorem DomTree.eq(hm:N4 L=true)(hr:r<L.length){P t:List _}(o:Ordered (sN L) r L.length P)(h:DomTree (sN L) r L.length P t):t=DB L r:=by
 refine JI (by rw[h.len,cM]) λb h1 h2=>?_
 have hb:b<L.length:=by rw[<- h.len];exact h1
 rw[<- Ad _ _ 0 h1,<- Ad _ _ 0 h2,uT hb]
 show B7 t b=_
 have hov:∀ a b,b<L.length->B7 t b≠-2->(Rs L r a b=true↔UpTo _ b a):=λa b hb hp=>by
  rw[iF hm hr hb,h.exact_ b hb hp];exact⟨λk=>k.2,λk=>⟨h.inv.rc b hb hp,k⟩⟩
 unfold CE
 by_cases hbr:b=r
 ·subst hbr;rw[if_pos rfl];exact h.inv.top
 ·rw[if_neg hbr];rcases h.inv.kind b hb with hk|hk|⟨z,hz⟩
  ·
   have hn :=λk=>h.full b hb k hk;rcases pick_cases L r b _ with⟨h3,_⟩|⟨a,_,_,_,h6,_⟩
   ·rw[hk,h3]
   ·exact absurd ((iF hm hr hb).1 h6).1 hn
  ·exact absurd hk hbr
  ·obtain⟨z1,z2,z3,z4⟩:=h.inv.up b hb z hz
   have hp:B7 t b≠-2:=by omega
   have hzo :=(hov z b hb hp).2 (.up hz (.refl _))
   have hzb:z≠b:=by rintro rfl;omega
   have hnear:VE L r z b=true:=all_range.2 λc hc=>by
    by_cases e:c=b
    ·simp[e]
    ·cases ho:Rs L r c b with
     | false=>simp
     | true=>
      have:=(hov c b hb hp).1 ho;rcases(anc_up hz).1 this with h3|h3
      ·exact absurd h3 e
      ·grind
   rcases pick_cases L r b L.length with⟨_,h3⟩|⟨a,h3,h4,h5,h6,h7⟩
   ·grind
   ·rw[h4,hz];have haU:=(hov a b hb hp).1 h6
    have ha1:UpTo (B7 t) z a:=by
     rcases(anc_up hz).1 haU with h8|h8
     ·exact absurd h8 h5
     ·exact h8
    have hap:=(h.inv.anc ha1 z1 z2).2.1
    have hza :=by
     have:=all_range.1 h7 z z1;simp only[hzo,hzb, D3]at this;exact(hov z a h3 hap).1 this
    rw[h.inv.antisymm ha1 hza z1 z2]
theorem mu(h:IL g=true):N4 g.Succ=true/\g=La g.Succ:=by
 unfold IL at h;rw[Az]at h;refine⟨h.1,?_⟩;obtain⟨s,p⟩:=g;have:=PD h.2;simp only at this;unfold La;rw[this]
theorem LL:(((a:Nat):Int)==(b:Int))=decide (a=b):=by
 grind
theorem mR:(((a:Nat):Int)!=(b:Int)) = !decide (a=b):=by
 unfold bne;rw[LL]
section
variable {L:List (List Int)} (hm:N4 L=true) {r:Nat} (hr:r<L.length)
def WJ(L:List (List Int))(r a k:Nat):List Bool:=(List.range L.length).map λb=>if b<k then Rs L r a b else false
def WI(L:List (List Int))(r a:Nat):List Bool:=(List.range L.length).map λb=>Rs L r a b
def pc(L:List (List Int))(r:Nat):List (List Bool):=(List.range L.length).map λa=>WI L r a
theorem nH:(pc L r).length=L.length:=by simp[pc]
theorem tc(ha:a<L.length):(pc L r).getD a []=WI L r a:=by unfold pc;rw[So ha]
theorem iU:(WI L r a).length=L.length:=by simp[WI]
theorem dw(hb:b<L.length):(WI L r a).getD b false=Rs L r a b:=by unfold WI;rw[So hb]
include hm hr
omit hr in
theorem yZ(a:Nat)(l5:List (List Bool))(hl5:l5.length=L.length)(ha:a<L.length):Ae (Di (La L) (Oh L r (-1)) (a:Int) l5 (Oh L r (a:Int))) ((0:Int),List.replicate L.length false)=some (WI L r a):=by
 obtain⟨h1,h2,h3⟩:=mayS_iff.1 hm;have hgs:(La L).Succ=L:=rfl
 have e0:List.replicate L.length false=WJ L r a 0:=by
  refine JI (by simp[WJ]) λi h1 h2=>by simp[WJ]
 have e1:WI L r a=WJ L r a L.length:=by
  unfold WI WJ
  exact H3 λi hi=>by rw[if_pos hi]
 have IT:∀ k,(WJ L r a k).length=L.length:=λk=>by simp[WJ]
 rw[e0];refine Ga (Di (La L) (Oh L r (-1)) (a:Int) l5 (Oh L r (a:Int))) (λk=>(((k:Nat):Int),WJ L r a k)) _ L.length (λk hk=>?_) ?_
 ·show Di (La L) _ _ _ _ (_,_)=_
  unfold Di;simp only[hgs,Ao,B0 hk,Ah];rw[Ac (F5 (by rw[hl5];exact ha)),Ac (F5 (by rw[VY];exact hk)),Ac (λ_=>F5 (by rw[VY];exact hk)),Ac (F5 (by rw[IT];exact hk)),w1 (by omega)]
  have:(WJ L r a k).set k (bif (Oh L r (-1)).getD k false then !(Oh L r (a:Int)).getD k false else false)=WJ L r a (k+1):=by
   unfold WJ;rw[GH];refine H3 λi hi=>?_
   by_cases e:i=k
   ·subst e;rw[if_pos rfl,if_pos (by omega)];unfold Rs
    cases(Oh L r (-1)).getD i false<;>rfl
   ·rw[if_neg e]
    by_cases e2:i<k
    ·rw[if_pos e2,if_pos (by omega)]
    ·rw[if_neg e2,if_neg (by omega)]
  rw[this]
 ·show Di (La L) _ _ _ _ (_,_)=_
  unfold Di;simp only[hgs,Cy,Ar];rw[e1]
theorem ya:Ae (Jd (La L) (r:Int) (Oh L r (-1))) ((0:Int),List.replicate L.length ([]:List Bool))=some (pc L r):=by
 obtain⟨h1,h2,h3⟩:=mayS_iff.1 hm;have hgs:(La L).Succ=L:=rfl
 have ab1:1000<=room:=by decide
 let M:Nat->List _:=λk=>(List.range L.length).map λa=>if a<k then WI L r a else[]
 have hM:∀ k,(M k).length=L.length:=λk=>by simp[M]
 have e0:List.replicate L.length []=M 0:=by
  refine JI (by simp[M]) λi h1 h2=>by simp[M]
 have e1:pc L r=M _:=H3 λi hi=>by rw[if_pos hi]
 rw[e0];refine Ga _ (λk=>(((k:Nat):Int),M k)) _ L.length (λk hk=>?_) ?_
 ·unfold Jd;simp only[hgs,Ao,B0 hk,Ah];rw[Ac ⟨by omega,Int.le_refl _,by omega⟩,Ac (F5 (by rw[hM];exact hk)),gm hm hr,Am,yZ hm k (M k) (hM k) hk,Am,w1 (by omega)]
  have:(M k).set k (WI L r k)=M (k+1):=by
   rw[GH];refine H3 λi hi=>?_
   by_cases e:i=k
   ·grind
   ·grind
  rw[this]
 ·unfold Jd;simp only[hgs,Cy,Ar];rw[e1]
omit hr in
theorem yb(a b:Nat)(ha:a<L.length)(hb:b<L.length):Ae (Dj (La L) (pc L r) (b:Int) (a:Int)) (true,(0:Int))=some (VE L r a b):=by
 obtain⟨h1,h2,h3⟩:=mayS_iff.1 hm;have hgs:(La L).Succ=L:=rfl
 let N:Nat->Bool:=λk=>(List.range k).all λc=>decide (c=b) || !Rs L r c b || Rs L r c a
 refine Ga (Dj (La L) (pc L r) (b:Int) (a:Int)) (λk=>(N k,((k:Nat):Int))) _ L.length (λk hk=>?_) ?_
 ·show Dj (La L) _ _ _ (_,_)=_
  unfold Dj;simp only[hgs,Ao,B0 hk,Ah,tc hk,nH,iU,dw hb,dw ha];rw[Ac (λ_=>F5 hk),Ac (λ_=>F5 hb),Ac (λ_=>F5 hk),Ac (λ_=>F5 ha),w1 (by omega),LL]
  have:(bif N k then(bif (bif decide (k=b) then true else !Rs L r k b) then true else Rs L r k a) else false)=N (k+1):=by
   show _=(List.range (k+1)).all _
   rw[rN]
   show _=(N k&&_)
   cases N k<;>cases decide (k=b)<;>cases Rs L r k b<;>rfl
  rw[this]
 ·show Dj (La L) _ _ _ (_,_)=_
  unfold Dj;simp only[hgs,Cy,Ar]
  rfl
def Tt(L:List (List Int))(r b:Nat)(x:Int):List Int:=(List.range L.length).map λj=>if j<b then CE L r j else if j=b then x else 0
omit hm hr in
theorem OW{x:Int}:(Tt L r b x).length=L.length:=by simp[Tt]
omit hm hr in
theorem OX{x y:Int}:(Tt L r b x).set b y=Tt L r b y:=by
 unfold Tt;rw[GH];refine H3 λi hi=>?_
 by_cases e:i=b
 ·subst e;rw[if_pos rfl,if_neg (by omega),if_pos rfl]
 ·rw[if_neg e,if_neg e,if_neg e]
omit hm hr in
theorem WW:Tt L r b (CE L r b)=Tt L r (b+1) 0:=by
 unfold Tt;refine H3 λi hi=>?_
 by_cases e:i<b
 ·rw[if_pos e,if_pos (by omega)]
 ·rw[if_neg e]
  by_cases e2:i=b
  ·subst e2;rw[if_pos rfl,if_pos (by omega)]
  ·rw[if_neg e2,if_neg (by omega)];split<;>rfl
omit hr in
theorem yc(b:Nat)(hb:b<L.length)(hbr:b≠r):Ae (Ca (La L) (r:Int) (pc L r) (b:Int)) ((0:Int),Tt L r b (-2))=some (Tt L r b (Wm L r b L.length)):=by
 obtain⟨h1,h2,h3⟩:=mayS_iff.1 hm;have hgs:(La L).Succ=L:=rfl;refine Ga (Ca (La L) (r:Int) (pc L r) (b:Int)) (λk=>(((k:Nat):Int),Tt L r b (Wm L r b k))) _ L.length (λk hk=>?_) ?_
 ·show Ca (La L) _ _ _ (_,_)=_
  unfold Ca
  have hne:decide (b=r)=false:=by simp[hbr]
  simp only[hgs,Ao,B0 hk,Ah,tc hk,nH,iU,dw hb,LL,mR,hne,Mq];rw[Ac (λ_=>F5 hk),Ac (λ_=>F5 hb),yb hm k b hk hb]
  by_cases hkb:k=b
  ·have e:Wm L r b (k+1)=Wm L r b k:=by show(if _ then _ else _)=_;rw[if_neg (λh=>h.1 hkb)]
   rw[Da hkb,Ah,Ah,Am,w1 (by omega),e]
  ·rw[Ds hkb,Ar]
   cases ho:Rs L r k b with
   | false=>
    have e:Wm L r b (k+1)=Wm L r b k:=by show(if _ then _ else _)=_;rw[if_neg (λh=>by rw[ho]at h;exact absurd h.2.1 (by decide))]
    rw[Mq,Ah,Am,w1 (by omega),e]
   | true=>
    rw[D3,Ar,Am]
    cases hn:VE L r k b with
    | false=>
     have e:Wm L r b (k+1)=Wm L r b k:=by show(if _ then _ else _)=_;rw[if_neg (λh=>by rw[hn]at h;exact absurd h.2.2 (by decide))]
     rw[Ar,Am,w1 (by omega),e]
    | true=>
     have e:Wm L r b (k+1)=(k:Int):=by show(if _ then _ else _)=_;rw[if_pos ⟨hkb,ho,hn⟩]
     rw[Ah,Ac (F5 (by rw[OW];exact hb)),Am,w1 (by omega),e,OX]
 ·show Ca (La L) _ _ _ (_,_)=_
  unfold Ca;simp only[hgs,Cy,Ar]
omit hr in
theorem yd:Ae (Dk (La L) (r:Int) (pc L r)) ((0:Int),List.replicate L.length (0:Int))=some (DB L r):=by
 obtain⟨h1,h2,h3⟩:=mayS_iff.1 hm;have hgs:(La L).Succ=L:=rfl
 have e0:List.replicate L.length (0:Int)=Tt L r 0 0:=by
  refine JI (by simp[Tt]) λi h1 h2=>by simp[Tt]
 have e1:DB L r=Tt L r L.length 0:=H3 λi hi=>by rw[if_pos hi]
 rw[e0];refine Ga (Dk (La L) (r:Int) (pc L r)) (λk=>(((k:Nat):Int),Tt L r k 0)) _ L.length (λk hk=>?_) ?_
 ·show Dk (La L) _ _ (_,_)=_
  unfold Dk;simp only[hgs,Ao,B0 hk,Ah];rw[Ac (F5 (by rw[OW];exact hk)),LL,OX,OX]
  by_cases hkr:k=r
  ·rw[Da hkr,Ah,Ac (F5 (by rw[OW];exact hk)),Am]
   have hd:Ae (Ca (La L) (r:Int) (pc L r) (k:Int)) ((0:Int),Tt L r k (-1))=some (Tt L r k (-1)):=by
    apply An
    unfold Ca;simp only[mR,Da hkr,D3,rk,Ar]
   rw[hd,Am,w1 (by omega)]
   have:CE L r k = -1:=by unfold CE;rw[if_pos hkr]
   rw[<- this,WW]
  ·rw[Ds hkr,Ar,Am,yc hm k hk hkr,Am,w1 (by omega)]
   have:CE L r k=Wm L r k L.length:=by unfold CE;rw[if_neg hkr]
   rw[<- this,WW]
 ·show Dk (La L) _ _ (_,_)=_
  unfold Dk;simp only[hgs,Cy,Ar];rw[e1]
end
def RC(g:If)(r:Int):List Int:=if IL g=true/\0<=r/\r<(g.Succ.length:Int) then DB g.Succ r.toNat else[]
theorem kS(g:If)(h:Fits g.Succ)(r:Int):L5 g r=some (RC g r):=by
 have ab1:1000<=room:=by decide
 unfold L5 RC;rw[pN g h,Am]
 cases hmg:IL g with
 | false=>
  rfl
 | true=>
  rw[D3,Ar]
  by_cases h0:r<0
  ·grind
  ·rw[Ds h0,Ar]
   by_cases h1:g.Succ.length<=r
   ·grind
   ·rw[Ds h1,Ar,if_pos ⟨rfl,by omega,by omega⟩];obtain⟨hms,hg⟩:=mu hmg;obtain⟨hl1,hl2,hl3⟩:=mayS_iff.1 hms;obtain⟨q,rfl⟩:∃ q:Nat,r=q:=⟨r.toNat,by omega⟩
    have hq:q<g.Succ.length:=by omega
    rw[hg];have hgs:(La _).Succ=g.Succ:=rfl;simp only[hgs,Ao];rw[gm hms hq,Am,Ac ⟨by omega,Int.le_refl _,by omega⟩,ya hms hq,Am,Ac ⟨by omega,Int.le_refl _,by omega⟩,yd hms,Am]
def upD(t:List Int):Nat->Int->Option (List Int)
 | 0,_=>none
 | k+1,a=>if 0<=a/\a<(t.length:Int) then(if t.getD a.toNat 0 = -1 then some [a] else(upD t k (t.getD a.toNat 0)).map λl=>a::l) else none
def Fd(t:List Int)(a:Int):List Int:=(upD t t.length a).getD []
def Af4(l:List Int):Option (List Int)->Unit ⊕ List Int
 | none=>.inl ()
 | some q=>.inr (l++q)
theorem pd(t:List Int)(ht:t.length<=1000):∀(k:Nat) (a:Int) (l:List Int),l.length+k=t.length->Ae (Ct t) (a,l)=some (Af4 l (upD t k a)):=by
 have ab1:2000<=room:=by decide
 intro k
 induction k with
 | zero=>
  intro a l hl
  apply An
  unfold Ct;have:decide ((l.length:Int)<t.length)=false:=Ds (by omega);simp only[this]
  rfl
 | succ k ih=>
  intro a l hl;have hlt:decide (l.length<(t.length:Int))=true:=Da (by omega);unfold upD
  by_cases h0:0<=a
  ·by_cases h1:a<t.length
   ·have hin:As a _:=⟨h0,h1⟩;rw[if_pos ⟨h0,h1⟩]
    by_cases ht1:t.getD a.toNat 0 = -1
    ·apply An
     unfold Ct;simp only[hlt,Da h0,Da h1];rw[Ac (by simp;omega),Ac hin,ht1]
     rfl
    ·rw[if_neg ht1]
     have hs:Ct t (a,l)=some (.next (t.getD a.toNat 0,l++[a])):=by
      unfold Ct;have hb :=zzL30.2 ht1;simp only[hlt,Da h0,Da h1,Ah];rw[Ac (by simp;omega),Ac hin,hb,Ar,Ac hin]
     rw[Ap hs,ih _ _ (by simp;omega)]
     cases upD t k _ with
     | none=>rfl
     | some q=>show some (Sum.inr _)=some (Sum.inr _);simp
   ·rw[if_neg (by omega)]
    apply An
    unfold Ct;simp only[hlt,Da h0,Ds h1,Ah]
    rfl
  ·rw[if_neg (by omega)]
   apply An
   unfold Ct;simp only[hlt,Ds h0,Ah]
   rfl
theorem kQ(t:List Int)(ht:t.length<=1000)(a:Int):Gk t a=some (Fd t a):=by
 unfold Gk Fd;rw[pd t ht t.length a [] (by simp)]
 cases upD t _ a with
 | none=>rfl
 | some q=>rfl
theorem nZ(t:List Int):∀ k a q,upD t k a=some q->q.length<=k/\1<=q.length:=by
 intro k
 induction k with
 | zero=>intro a q h;cases h
 | succ k ih=>
  intro a q h;unfold upD at h
  split at h
  ·split at h
   ·cases h;simp
   ·cases hu:upD t k _ with
    | none=>rw[hu]at h;cases h
    | some q'=>grind
  ·cases h
theorem bx(t:List Int)(a:Int):(Fd t a).length<=t.length:=by
 unfold Fd
 cases h:upD t _ a with
 | none=>simp
 | some q=>exact(nZ t _ _ _ h).1
theorem pathD_nil{a:Int}:Fd t a=[]↔upD t t.length a=none:=by
 unfold Fd
 cases h:upD t _ a with
 | none=>simp
 | some q=>have:=(nZ t _ _ _ h).2;simp;intro e;subst e;simp at this
def topsK(t:List Int)(k:Nat):Nat:=((List.range k).filter λa=>decide (t.getD a 0 = -1)).length
def tJ(t:List Int)(a:Nat):Bool:=decide (t.getD a 0 = -2) || !decide (Fd t (a:Int)=[])
def Oi(t:List Int):Bool:=(List.range t.length).all (tJ t)&&decide (topsK t t.length=1)
theorem KJ(t:List Int)(k:Nat):topsK t (k+1)=topsK t k+if t.getD k 0 = -1 then 1 else 0:=by
 unfold topsK;rw[JJ,JH]
 by_cases h:t.getD k 0 = -1
 ·grind
 ·grind
theorem uR(t:List Int)(k:Nat):topsK t k<=k:=by
 exact R0 (List.length_filter_le ..) (by simp)
theorem sn:(((l.length:Nat):Int)==(0:Int))=decide (l=[]):=by
 cases l with
 | nil=>rfl
 | cons x l=>simp;omega
theorem ky(t:List Int)(ht:t.length<=1000):Ae (B9 t) ((0:Int),(0:Int))=some (bif (List.range t.length).all (tJ t) then .inl ((topsK t t.length:Nat):Int) else .inr false):=by
 have body:∀ k,k<t.length->B9 t (((topsK t k:Nat):Int),(k:Int))=some (bif tJ t k then .next (((topsK t (k+1):Nat):Int),((k+1:Nat):Int)) else .done (.inr false)):=λk hk=>by
  have hle:=uR t k;unfold B9;simp only[Ao,B0 hk,Ah];rw[Ac (F5 hk)]
  have e1:(bif (t.getD k 0==(-1:Int)) then some (w64 (((topsK t k:Nat):Int)+1)) else some ((topsK t k:Nat):Int))=some ((topsK t (k+1):Nat):Int):=by
   rw[KJ]
   by_cases h:t.getD k 0 = -1
   ·rw[if_pos h,zzL34.2 h,Ah,w1 (by omega)]
   ·rw[if_neg h,zzL30.2 h,Ar];rfl
  rw[e1,Am]
  by_cases h2:t.getD k 0 = -2
  ·have hb:(t.getD k 0 !=(-2:Int))=false:=by rw[h2];rfl
   have ho:tJ t k=true:=by unfold tJ;rw[Da h2];rfl
   rw[hb,show(false==true)=false from rfl,Ar,Am,Ar,Ar,Ac (F5 hk),w1 (by omega),ho,Ah]
  ·have hb:(t.getD k 0 !=(-2:Int))=true:=zzL65.2 h2
   have ho:tJ t k = !decide (Fd t (k:Int)=[]):=by unfold tJ;rw[Ds h2];rfl
   rw[hb,show(true==true)=true from rfl,Ah,kQ t ht,Am,Ah,sn,Ac (F5 hk),w1 (by omega),ho]
   cases decide (Fd t (k:Int)=[])<;>rfl
 have:=Ix (B9 t) (λk=>(((topsK t k:Nat):Int),((k:Nat):Int))) (tJ t) (.inl ((topsK t t.length:Nat):Int)) (.inr false) t.length (λi hi hp=>by
   show B9 t _=_;rw[body i hi,hp,Ah]) (λi hi hp=>by
   show B9 t _=_;rw[body i hi,hp,Ar]) (by
   show B9 t _=_
   unfold B9
   simp only[Cy,Ar])
 exact this
theorem xj(t:List Int)(ht:t.length<=1000):Kx t=some (Oi t):=by
 unfold Kx Oi;rw[ky t ht]
 cases(List.range _).all _ with
 | false=>rfl
 | true=>
  rw[ Kd]
  show some _=_
  have:(1:Int)=(1:Nat):=rfl;rw[this,LL]
theorem find_first(p:Int->Bool):∀ l:List Int,(∃ n,n<l.length/\(∀ i,i<n->p (l.getD i 0)=false)/\p (l.getD n 0)=true/\l.find? p=some (l.getD n 0))\/((∀ i,i<l.length->p (l.getD i 0)=false)/\l.find? p=none):=by
 intro l
 induction l with
 | nil=>grind
 | cons x l ih=>
  cases hx:p x with
  | true=>exact .inl ⟨0,by simp,λi hi=>absurd hi (W4 i),by simpa using hx,by simp[ hx]⟩
  | false=>
   rcases ih with⟨n,h1,h2,h3,h4⟩|⟨h1,h2⟩
   ·refine .inl ⟨n+1,by simpa using h1,λi hi=>?_,by simpa using h3,by grind⟩
    cases i with
    | zero=>simpa using hx
    | succ i=>grind
   ·grind
def Tl(t:List Int)(a b:Int):Int:=if Oi t=true then((Fd t a).find? λx=>(Fd t b).contains x).getD (-2) else -2
def P5(t:List Int)(a b:Int):Bool:=Tl t a b==a&&Tl t a b !=-2
theorem Abs(t:List Int)(ht:t.length<=1000)(a b:Int):L4 t a b=some (Tl t a b):=by
 unfold L4 Tl;rw[xj t ht,Am]
 cases Oi t with
 | false=>rfl
 | true=>
  rw[D3, kQ t ht,Am,kQ t ht,Am];have hp:=bx t a;have hq:=bx t b
  have body:∀ k,k<(Fd t a).length->Ej (Fd t a) (Fd t b) (k:Int)=some (bif (Fd t b).contains _ then .done _ else .next _):=λk hk=>by
   unfold Ej;simp only[Ao,B0 hk];rw[Ac (F5 hk),mr _ _ (by omega), w1 (by omega),Ac (F5 hk)]
   cases(Fd t b).contains _<;>rfl
  rcases find_first (λx=>(Fd t b).contains x) (Fd t a) with⟨n,h1,h2,h3,h4⟩|⟨h1,h2⟩
  ·have:=Ga (Ej (Fd t a) (Fd t b)) (λk=>(k:Nat)) (.inr ((Fd t a).getD n 0)) n (λk hk=>by
    grind) (by
    grind)
   have e:Ae _ (0:Int)=_:=this;rw[e, h4]
   rfl
  ·have:=Ga (Ej (Fd t a) (Fd t b)) (λk=>((k:Nat):Int)) (.inl ()) (Fd t a).length (λk hk=>by
    grind) (by
    unfold Ej
    simp only[Cy,Ar])
   have e:Ae _ (0:Int)=_:=this;rw[e, h2]
   rfl
section
variable {S:Nat->List Nat} {r n:Nat} {P:List Nat} {t:List Int}
theorem DomTree.up(h:DomTree S r n P t):∀ k x,x<n->B7 t x≠-2->pos (r::P) x<k->∃ q,upD t k (x:Int)=some q/\(∀ w:Int,w∈q↔∃ z:Nat,w=(z:Int)/\UpTo (B7 t) x z) /\
  ∀ p:Int->Bool,(q.find? p=none/\∀ z:Nat,UpTo (B7 t) x z->p (z:Int)=false)\/∃ f:Nat,q.find? p=some (f:Int)/\UpTo (B7 t) x f/\p (f:Int)=true/\∀ z:Nat,UpTo (B7 t) x z->p (z:Int)=true->UpTo (B7 t) f z:=by
 intro k
 induction k with
 | zero=>omega
 | succ k ih=>
  intro x hx hp hk
  have hxt:(0:Int)<=(x:Int)/\(x:Int)<(t.length:Int):=by rw[h.len];omega
  unfold upD;rw[if_pos hxt,Ao];have hpx:t.getD x 0=B7 t x:=rfl;rw[hpx];rcases h.inv.kind x hx with h1|rfl|⟨z,hz⟩
  ·exact absurd h1 hp
  ·rw[if_pos h.inv.top];refine⟨_,rfl,λw=>?_,λp=>?_⟩
   ·rw[zzL10]
    constructor
    ·rintro rfl;exact⟨x,rfl,.refl _⟩
    ·rintro⟨z,rfl,hz⟩;rw[h.inv.root_anc.1 hz]
   ·cases hpp:p (x:Int) with
    | false=>exact .inl ⟨by simp[List.find?,hpp],λz hz=>by rw[h.inv.root_anc.1 hz];exact hpp⟩
    | true=>exact .inr ⟨x,by simp[List.find?,hpp],.refl _,hpp,λz hz _=>hz⟩
  ·obtain⟨z1,z2,z3,z4⟩:=h.inv.up x hx z hz;rw[hz,if_neg (by omega)];obtain⟨q,hq1,hq2,hq3⟩:=ih z z1 z2 (by omega);rw[hq1];refine⟨(x:Int)::q,rfl,λw=>?_,λp=>?_⟩
   ·rw[zzL31,hq2 w]
    constructor
    ·rintro(rfl|⟨y,rfl,hy⟩)
     ·exact⟨x,rfl,.refl _⟩
     ·exact⟨y,rfl,.up hz hy⟩
    ·rintro⟨y,rfl,hy⟩;rcases(anc_up hz).1 hy with rfl|hy
     ·exact .inl rfl
     ·exact .inr ⟨y,rfl,hy⟩
   ·cases hpp:p (x:Int) with
    | true=>exact .inr ⟨x,by simp[List.find?,hpp],.refl _,hpp,λy hy _=>hy⟩
    | false=>
     have hf:((x:Int)::q).find? p=q.find? p:=by simp[List.find?,hpp]
     rw[hf];rcases hq3 p with⟨e1,e2⟩|⟨f,e1,e2,e3,e4⟩
     ·refine .inl ⟨e1,λy hy=>?_⟩;rcases(anc_up hz).1 hy with rfl|hy
      ·exact hpp
      ·exact e2 y hy
     ·refine .inr ⟨f,e1,.up hz e2,e3,λy hy hpy=>?_⟩;rcases(anc_up hz).1 hy with rfl|hy
      ·rw[hpp]at hpy;cases hpy
      ·exact e4 y hy hpy
theorem Ordered.pos_lt(o:Ordered S r n P)(hx:x∈r::P):pos (r::P) x<n:=by
 obtain⟨j,hj,rfl⟩:=H8 hx;rw[(SV o.nodup hj).2];have:=T4 n _ o.nodup λy hy=>o.lt hy;omega
theorem DomTree.path(h:DomTree S r n P t)(o:Ordered S r n P)(hx:x<n)(hp:B7 t x≠-2):Fd t (x:Int)≠[]/\(∀ w:Int,w∈Fd t (x:Int)↔∃ z:Nat,w=(z:Int)/\UpTo (B7 t) x z) /\
  ∀ p:Int->Bool,((Fd t (x:Int)).find? p=none/\∀ z:Nat,UpTo (B7 t) x z->p (z:Int)=false)\/∃ f:Nat,(Fd t (x:Int)).find? p=some (f:Int)/\UpTo (B7 t) x f/\p (f:Int)=true/\∀ z:Nat,UpTo (B7 t) x z->p (z:Int)=true->UpTo (B7 t) f z:=by
 have hm:=(o.mem x).2 (h.inv.rc x hx hp);obtain⟨q,h1,h2,h3⟩:=h.up n x hx hp (o.pos_lt hm)
 have e:Fd t x=q:=by unfold Fd;rw[h.len,h1];rfl
 rw[e];refine⟨λe=>?_,h2,h3⟩;have:=(h2 _).2 ⟨x,rfl,.refl _⟩;rw[e]at this
 cases this
theorem DomTree.nopath(h:DomTree S r n P t)(hx:x<n)(hp:B7 t x = -2):Fd t (x:Int)=[]:=by
 rw[pathD_nil]
 cases hl:t.length with
 | zero=>rfl
 | succ k=>
  unfold upD;rw[if_pos ⟨by omega,by rw[h.len];omega⟩,Ao,show t.getD x 0=B7 t x from rfl,hp]
  cases k with
  | zero=>rfl
  | succ k =>   rfl
theorem DomTree.right(h:DomTree S r n P t)(o:Ordered S r n P):Oi t=true:=by
 unfold Oi;rw[Az]
 constructor
 ·refine all_range.2 λx hx=>?_;rw[h.len]at hx;unfold tJ
  by_cases hp:B7 t x = -2
  ·rw[show t.getD x 0=B7 t x from rfl,hp];rfl
  ·rw[Ds (h.path o hx hp).1];simp
 ·apply Da
  have key:∀ k,k<=n->topsK t k=if r<k then 1 else 0:=by
   intro k
   induction k with
   | zero=>intro _;rfl
   | succ k ih=>
    intro hk;rw[KJ]
    have hr:t.getD k 0 = -1↔k=r:=by
     constructor
     ·intro he;rcases h.inv.kind k (by omega) with h1|h1|⟨z,hz⟩
      ·rw[show t.getD k 0=B7 t k from rfl]at he;omega
      ·exact h1
      ·rw[show t.getD k 0=B7 t k from rfl]at he;omega
     ·rintro rfl;exact h.inv.top
    by_cases hkr:k=r
    ·grind
    ·grind
  rw[h.len,key n (zzL7 _),if_pos o.hr]
theorem DomTree.meet(h:DomTree S r n P t)(o:Ordered S r n P)(ha:a<n)(hb:b<n)(hpa:B7 t a≠-2)(hpb:B7 t b≠-2):∃ m:Nat,Tl t (a:Int) (b:Int)=(m:Int)/\MeetAt (B7 t) a b m/\m<n/\B7 t m≠-2:=by
 have rd:Ready S r n P t _:=⟨h.inv,h.len,λx hx=>by rw[RH]at hx;exact h.full x (o.lt hx) ((o.mem x).1 hx)⟩;obtain⟨c,hc1,hc2,hc3⟩:=h.inv.meets (rd.inj o) iK _ a b (zzL7 _) ha hb hpa hpb;refine⟨c,?_,hc1,hc2,hc3⟩;unfold Tl;rw[if_pos (h.right o)];obtain⟨hca,hcb⟩:=(hc1 c).1 (.refl _)
 have hin:∀ z:Nat,(Fd t _).contains z=true↔UpTo (B7 t) b z:=λz=>by
  rw[zzL60,(h.path o hb hpb).2.1]
  constructor
  ·grind
  ·grind
 rcases(h.path o ha hpa).2.2 λx=>(Fd t b).contains x with⟨_,h2⟩|⟨f,h1,h2,h3,h4⟩
 ·grind
 ·rw[h1];have hfc:=h4 c hca ((hin c).2 hcb);have hcf:=(hc1 f).2 ⟨h2,(hin f).1 h3⟩;rw[h.inv.antisymm hcf hfc hc2 hc3]
  rfl
theorem DomTree.meet_none(h:DomTree S r n P t)(o:Ordered S r n P)(ha:a<n)(hb:b<n)(hp:B7 t a = -2\/B7 t b = -2):Tl t (a:Int) (b:Int) = -2:=by
 unfold Tl;rw[if_pos (h.right o)];rcases hp with hp|hp
 ·rw[h.nopath ha hp];rfl
 ·rw[h.nopath hb hp]
  have:(Fd t a).find? (λx=>[].contains x)=none:=List.find?_eq_none.2 λx _=>by simp
  rw[this];rfl
theorem DomTree.over(h:DomTree S r n P t)(o:Ordered S r n P)(ha:a<n)(hb:b<n):P5 t (a:Int) (b:Int)=true↔B7 t b≠-2/\UpTo (B7 t) b a:=by
 unfold P5;rw[Az,zzL34,zzL65]
 by_cases hpa:B7 t a = -2
 ·rw[h.meet_none o ha hb (.inl hpa)]
  constructor
  ·omega
  ·rintro⟨h1,h2⟩;exact absurd hpa (h.inv.anc h2 hb h1).2.1
 ·by_cases hpb:B7 t b = -2
  ·rw[h.meet_none o ha hb (.inr hpb)]
   constructor
   ·omega
   ·grind
  ·obtain⟨m,hm1,hm2,hm3,hm4⟩:=h.meet o ha hb hpa hpb;rw[hm1]
   constructor
   ·rintro⟨h1,_⟩;have h1:=PG h1;subst h1;exact⟨hpb,((hm2 _).1 (.refl _)).2⟩
   ·rintro⟨_,h2⟩;have:=(hm2 a).2 ⟨.refl _,h2⟩;have h3:=((hm2 m).1 (.refl _)).1;rw[h.inv.antisymm h3 this ha hpa];exact⟨rfl,by omega⟩
theorem DomTree.over_dom(h:DomTree S r n P t)(o:Ordered S r n P)(ha:a<n)(hb:b<n):P5 t (a:Int) (b:Int)=true↔Rc S r b/\¬ Av S r a b:=by
 rw[h.over o ha hb]
 constructor
 ·rintro⟨h1,h2⟩;exact⟨h.inv.rc b hb h1,(h.exact_ b hb h1 a).1 h2⟩
 ·rintro⟨h1,h2⟩;have:=h.full b hb h1;exact⟨this,(h.exact_ b hb this a).2 h2⟩
end
section
variable {L:List (List Int)} (hm:N4 L=true) {r:Nat} (hr:r<L.length)
include hm hr
theorem cL:∃ P,Ord (sN L) r (r::P)/\Ordered (sN L) r L.length P/\DomTree (sN L) r L.length P (DB L r):=by
 obtain⟨O,hO⟩:=Ord.exist (Ws hm) hr;obtain⟨P,rfl,o⟩:=hO.ordered hr (Ws hm);obtain⟨J,_,hJ⟩:=zT o;have hd:=RB o hJ;refine⟨P,hO,o,?_⟩;rw[<- hd.eq hm hr o];exact hd
end
theorem OA(n:Nat)(p:Nat->Bool)(f:Int->Option (LR Int X))(yes no:X)(hn:∀ i:Nat,i<n->p i=true->f (i:Int)=some (.next ((i:Int)+1)))
  (hf:∀ i:Nat,i<n->p i=false->f (i:Int)=some (.done no)) (he:f (n:Int)=some (.done yes)):Ae f (0:Int)=some (bif (List.range n).all p then yes else no):=by
 have hg:∀ i,i<(List.range n).length->(List.range n).getD i 0=i:=λi hi=>by grind
 have:=Hx (List.range n) 0 p f yes no (λi hi hp=>by grind) (λi hi hp=>by grind) (by simpa using he) n 0 (by simp);rw[show(0:Int)=(0:Nat) from rfl,this,Rz]
theorem oZ{p:Nat->Bool}(h:(List.range n).all p=true):∀ i,i<n->p i=true:=λi hi=>zzL21.1 h i (by simpa using hi)
def Tb(L:List (List Int)):List Bool:=ML (sN L) L.length ((List.replicate L.length false).set 0 true) L.length
def Ju(l:List Int)(p:A8):Bool:=decide (p.From=l)&&((p.Args.length:Int)==(l.length:Int))
def Mf(L:List (List Int))(b:Ab)(i:Nat):Bool:=(Tb L).getD i false&&!((b.End.Kind==1 || b.End.Kind==3)&&(b.End.Arg !=0))&&b.Phis.all (Ju ((Co L).getD i []))
def Eg(f:AI):Bool:=Nt f&&(List.range f.Blocks.length).all λi=>Mf (Bf f) (f.Blocks.getD i default) i
theorem Hc(f:AI):(Bf f).length=f.Blocks.length:=by simp[Bf]
theorem iN(L:List (List Int)):(Tb L).length=L.length:=by rw[Tb,BX];simp
theorem w5{a b c d:Bool}{x:Option (LR Int (Unit ⊕ Bool))}:(bif (bif (!a) then true else(bif (bif b then true else c) then d else false)) then some (LR.done (Sum.inr false)) else x)=bif (a&&!((b || c)&&d)) then x else some (LR.done (Sum.inr false)):=by
 grind
theorem xk(hf:OkF f):Ky f=some (Eg f):=by
 have Is:f.Blocks.length<=maxLen:=by
  have:=hf.blocks;have:(64:Nat)<=maxLen:=by decide
  omega
 unfold Ky Eg;rw[UV f Is,Am]
 cases hs:Nt f with
 | false=>rfl
 | true=>
  have hm:=Ey hs;have IT:=Hc f;obtain⟨h1,h2⟩:=V4 hm
  have ae6:0<(Bf f).length:=by have:=(shape_iff.1 hs).1.1;omega
  simp only[Ah,Kd];have hr:=xi hm ae6;rw[show(((0:Nat):Int))=0 from rfl]at hr;rw[hr,Am]
  show((Ae (Fp f (La (Bf f),0) (Tb (Bf f))) 0).bind _)=_
  have hphi:∀ i,i<f.Blocks.length->Ae _ (0:Int)=some _:=λi hi=>by
   have ab3:=Ag (d:=(default:Ab)) hi;have hB:=hf.block _ ab3
   have hpl:(La (Bf f)).Pred.length=f.Blocks.length:=by rw[<- IT];exact Rj _
   have hpi:As (i:Int) (La (Bf f)).Pred.length:=Ai (by omega)
   have key:∀ j,j<(f.Blocks.getD i default).Phis.length->Fo f (La (Bf f),0) (i:Int) (j:Int)=some (bif Ju ((Co (Bf f)).getD i []) _ then .next ((j:Int)+1) else .done (.inr false)):=λj hj=>by
    have hp:=VK hf ab3 (Ag (d:=(default:A8)) hj);unfold Fo
    have hd:decide ((j:Int)<((f.Blocks.getD i default).Phis.length:Int))=true:=by simpa using hj
    have hi1:=kP ((f.Blocks.getD i default).Phis.getD j default).From ((La (Bf f)).Pred.getD i []) (by omega);simp only[Dn,hd,Ah,Aa (Ai hj),Aa hpi,hi1,Am];rw[Aa (λ_=>Ai hj),Aa (λ_=>hpi),Bd hj (by have:=hB.phis;omega)];unfold Ju
    show(bif (bif (!decide (((f.Blocks.getD i default).Phis.getD j default).From=(Co (Bf f)).getD i [])) then true else((((f.Blocks.getD i default).Phis.getD j default).Args.length:Int)!=(((Co (Bf f)).getD i []).length:Int))) then _ else _)=_
    cases decide (((f.Blocks.getD i default).Phis.getD j default).From=(Co (Bf f)).getD i []) with
    | false=>rfl
    | true=>
     grind
   have:=Hx (f.Blocks.getD i default).Phis (default:A8) (Ju ((Co (Bf f)).getD i [])) (Fo f (La (Bf f),0) (i:Int)) (.inl ()) (.inr false) (λj hj hp=>by rw[key j hj,hp];rfl) (λj hj hp=>by rw[key j hj,hp];rfl) (by unfold Fo;simp) (f.Blocks.getD i default).Phis.length 0 (by omega);rw[Rz]at this;exact this
  have hrl:=iN (Bf f)
  have key:∀ i,i<f.Blocks.length->Fp f (La (Bf f),0) (Tb (Bf f)) (i:Int)=some (bif Mf (Bf f) (f.Blocks.getD i default) i then .next ((i:Int)+1) else .done (.inr false)):=λi hi=>by
   unfold Fp
   have hd:decide ((i:Int)<(f.Blocks.length:Int))=true:=by simpa using hi
   simp only[hd,Ah,Aa (Ai hi),Aa (Ai (show i<(Tb (Bf f)).length by omega)),Dn,w5,hphi i hi,Am,Bd hi (by have:=hf.blocks;omega)];unfold Mf
   cases((Tb (Bf f)).getD i false&&!(((f.Blocks.getD i default).End.Kind==1 || (f.Blocks.getD i default).End.Kind==3)&&((f.Blocks.getD i default).End.Arg !=0))) with
   | false=>rfl
   | true=>grind
  rw[OA f.Blocks.length (λi=>Mf (Bf f) (f.Blocks.getD i default) i) _ (.inl ()) (.inr false) (λi hi hp=>by rw[key i hi,hp];rfl) (λi hi hp=>by rw[key i hi,hp];rfl) (by unfold Fp;simp)]
  cases(List.range f.Blocks.length).all _<;>rfl
theorem cH(h:Eg f=true):nL f:=λb hb p hp=>by
 simp only[Eg,Az]at h;obtain⟨i,hi,rfl⟩:=H8 hb;have h1:=oZ h.2 i hi;rw[Ad _ _ _ hi]at h1;simp only[Mf,Az]at h1;have h2:=zzL21.1 h1.2 p hp;simp only[Ju,Az,Hs,zzL34]at h2;rw[h2.1];omega
def Tm(l:List TDef)(i:Nat):Bool:=valS (l.getD i default).V&&(Mz l (l.getD i default).V==(i:Int))
def Ma(l:List TDef)(u:Dz):Bool:=!decide (Mz l u.V<0)
def defOf(l:List TDef)(v:Int):TDef:=l.getD (Mz l v).toNat default
def Xw(l:List TDef)(u:Dz):Bool:=((defOf l u.V).Shape.1==u.Shape.1)&&(((defOf l u.V).Shape.2==u.Shape.2)&&true)
def Xv(l:List TDef)(t:List Int)(u:Dz):Bool:=
 (decide ((defOf l u.V).Block<0) || ((defOf l u.V).Block==u.Block&&decide ((defOf l u.V).At<u.At))) || (!((defOf l u.V).Block==u.Block)&&!(Tl t (defOf l u.V).Block u.Block !=(defOf l u.V).Block))
def Cu(f:AI):List Int:=RC (La (Bf f)) 0
def XC(f:AI)(l:Int):Int:=
 bif !Eg f then 5 else bif !Rk f l then 6 else bif !(List.range (Aw f).length).all (Tm (Aw f)) then 7 else bif !(Bl f).all (Ma (Aw f)) then 7 else
 bif !(Bl f).all (Xw (Aw f)) then 6 else bif !(Bl f).all (Xv (Aw f) (Cu f)) then 7 else 0
def E2(f:AI)(l:Int):Int:=bif decide (l<0) || decide (2<l) then 1 else bif !R6 f then 4 else XC f l
theorem UB{l:List TDef}(h:¬ Mz l v<0):As (Mz l v) l.length:=by
 unfold Mz at h ⊢
 cases hx:l.findIdx? _ with
 | none=>grind
 | some i=>
  obtain⟨hi,_⟩:=List.findIdx?_eq_some_iff_getElem.1 hx;exact Ai hi
theorem ib(h:Nt f=true):(Cu f).length<=1000:=by
 have h1:=(V4 (Ey h)).1;unfold Cu RC
 split
 ·rw[cM];show(Bf f).length<=1000;omega
 ·simp
theorem xM(a b c:Bool)(m q x:Int):(Option.bind (α:=Unit ⊕ Int) (bif (bif a then true else(bif b then c else false)) then some (.inl ()) else((bif (b==false) then some m else some 0).bind λx31=>(bif (bif b then true else(x31 !=q)) then some (.inr 7) else some (.inl ())))) (λx32=>match x32 with | .inl _=>some (LR.next x) | .inr r34=>some (.done (.inr r34)))) =
  (some (bif (a || (b&&c)) || (!b&&!(m !=q)) then .next x else .done (.inr 7)):Option (LR Int (Unit ⊕ Int))):=by
 grind
theorem xm(hf:OkF f)(l:Int)(hm:Hk f=some (R6 f)):Cr f l=some (E2 f l):=by
 unfold Cr E2;rw[show(bif decide (l<(0:Int)) then true else decide ((2:Int)<l))=(decide (l<0) || decide (2<l)) by cases decide (l<(0:Int))<;>rfl]
 cases(decide (l<0) || decide (2<l)) with
 | true=>rfl
 | false=>
 simp only[Ar,hm,Am]
 cases R6 f with
 | false=>rfl
 | true=>
 simp only[D3,Ar,xk hf,Am,XC]
 cases hs:Eg f with
 | false=>rfl
 | true=>
 simp only[D3,Ar,xl hf,Am]
 cases ht:Rk f l with
 | false=>rfl
 | true=>
 simp only[D3,Ar,Abq hf,Am];have hdl:=o6 hf;have hul:=OY hf
 have hL1:Ae (S:=Int) (X:=(Unit ⊕ Int)) (Fn (Aw f)) (0:Int)=some (bif (List.range (Aw f).length).all (Tm (Aw f)) then .inl () else .inr 7):=by
  have key:∀ i,i<(Aw f).length->Fn (Aw f) (i:Int)=some (bif Tm (Aw f) i then .next ((i:Int)+1) else .done (.inr 7)):=λi hi=>by
   unfold Fn Tm
   have hd:decide ((i:Int)<((Aw f).length:Int))=true:=by simpa using hi
   simp only[hd,Ah,Aa (Ai hi),Dn,HX,Am,Aa (λ_=>Ai hi),dS (Aw f) _ (by omega),Bd hi (by omega)]
   cases valS ((Aw f).getD i default).V with
   | false=>rfl
   | true=>
    grind
  exact OA _ _ _ _ _ (λi hi hp=>by rw[key i hi,hp];rfl) (λi hi hp=>by rw[key i hi,hp];rfl) (by unfold Fn;simp)
 rw[hL1,Am]
 cases(List.range (Aw f).length).all (Tm (Aw f)) with
 | false=>rfl
 | true=>
 simp only[Ah,D3,Ar,Abu hf (cH hs),Am]
 have hL2:Ae (S:=Int) (X:=(Unit ⊕ Int)) (D5 (Aw f) (Bl f)) (0:Int)=some (bif (Bl f).all (Ma (Aw f)) then .inl () else .inr 7):=by
  have key:∀ i,i<(Bl f).length->D5 (Aw f) (Bl f) (i:Int)=some (bif Ma (Aw f) ((Bl f).getD i default) then .next ((i:Int)+1) else .done (.inr 7)):=λi hi=>by
   unfold D5 Ma
   have hd:decide ((i:Int)<((Bl f).length:Int))=true:=by simpa using hi
   simp only[hd,Ah,Aa (Ai hi),Dn,dS (Aw f) _ (by omega),Am,Bd hi (by omega)]
   cases decide (Mz (Aw f) ((Bl f).getD i default).V<0)<;>rfl
  have:=Hx (Bl f) default (Ma (Aw f)) (D5 (Aw f) (Bl f)) (.inl ()) (.inr 7) (λi hi hp=>by rw[key i hi,hp];rfl) (λi hi hp=>by rw[key i hi,hp];rfl) (by unfold D5;simp) (Bl f).length 0 (by omega);rw[Rz]at this;exact this
 rw[hL2,Am]
 cases hF:(Bl f).all (Ma (Aw f)) with
 | false=>rfl
 | true=>
 have al9:∀ i,i<(Bl f).length->As (Mz (Aw f) ((Bl f).getD i default).V) (Aw f).length:=λi hi=>by
  have:=zzL21.1 hF _ (Ag (d:=(default:Dz)) hi);simp only[Ma,Qr,XI]at this;exact UB this
 simp only[Ah,D3,Ar]
 have hL3:Ae (S:=Int) (X:=(Unit ⊕ Int)) (D6 (Aw f) (Bl f)) (0:Int)=some (bif (Bl f).all (Xw (Aw f)) then .inl () else .inr 6):=by
  have key:∀ i,i<(Bl f).length->D6 (Aw f) (Bl f) (i:Int)=some (bif Xw (Aw f) ((Bl f).getD i default) then .next ((i:Int)+1) else .done (.inr 6)):=λi hi=>by
   unfold D6 Xw defOf
   have hd:decide ((i:Int)<((Bl f).length:Int))=true:=by simpa using hi
   simp only[hd,Ah,Aa (Ai hi),Dn,dS (Aw f) _ (by omega),Am,Aa (al9 i hi),Bd hi (by omega)]
   cases((((Aw f).getD (Mz (Aw f) ((Bl f).getD i default).V).toNat default).Shape.1==((Bl f).getD i default).Shape.1)&&((((Aw f).getD (Mz (Aw f) ((Bl f).getD i default).V).toNat default).Shape.2==((Bl f).getD i default).Shape.2)&&true))<;>rfl
  have:=Hx (Bl f) default (Xw (Aw f)) (D6 (Aw f) (Bl f)) (.inl ()) (.inr 6) (λi hi hp=>by rw[key i hi,hp];rfl) (λi hi hp=>by rw[key i hi,hp];rfl) (by unfold D6;simp) (Bl f).length 0 (by omega);rw[Rz]at this;exact this
 rw[hL3,Am]
 cases(Bl f).all (Xw (Aw f)) with
 | false=>rfl
 | true=>
 have hsB:Nt f=true:=by simp only[Eg,Az]at hs;exact hs.1
 have Is:f.Blocks.length<=maxLen:=by
  have:=hf.blocks;have:(64:Nat)<=maxLen:=by decide
  omega
 simp only[Ah,D3,Ar,UV f Is,hsB,Am];rw[kS _ (LT (Ey hsB)).1 0,Am];have htl:=ib hsB
 have hL4:Ae (S:=Int) (X:=(Unit ⊕ Int)) (C7 (Aw f) (Bl f) (Cu f)) (0:Int)=some (bif (Bl f).all (Xv (Aw f) (Cu f)) then .inl () else .inr 7):=by
  have key:∀ i,i<(Bl f).length->C7 (Aw f) (Bl f) (Cu f) (i:Int)=some (bif Xv (Aw f) (Cu f) ((Bl f).getD i default) then .next ((i:Int)+1) else .done (.inr 7)):=λi hi=>by
   unfold C7 Xv defOf
   have hd:decide ((i:Int)<((Bl f).length:Int))=true:=by simpa using hi
   simp only[hd,Ah,Aa (Ai hi),Dn,dS (Aw f) _ (by omega),Am,Aa (al9 i hi),Bd hi (by omega),Abs (Cu f) htl];exact xM _ _ _ _ _ _
  have:=Hx (Bl f) default (Xv (Aw f) (Cu f)) (C7 (Aw f) (Bl f) (Cu f)) (.inl ()) (.inr 7) (λi hi hp=>by rw[key i hi,hp];rfl) (λi hi hp=>by rw[key i hi,hp];rfl) (by unfold C7;simp) (Bl f).length 0 (by omega);rw[Rz]at this;exact this
 show((Ae (C7 (Aw f) (Bl f) (Cu f)) 0).bind _)=_
 rw[hL4,Am]
 cases(Bl f).all (Xv (Aw f) (Cu f))<;>rfl
theorem bm{α S:Type}(l:List α)(d:α)(g:S->α->S)(f:S×Int->Option (LR (S×Int) S))(hn:∀(s:S) (i:Nat),i<l.length->f (s,(i:Int))=some (.next (g s (l.getD i d),(i:Int)+1)))
  (hd:∀ s:S,f (s,(l.length:Int))=some (.done s)):∀(k i:Nat) (s:S),i+k=l.length->Ae f (s,(i:Int))=some ((l.drop i).foldl g s)
 | 0,i,s,h=>by
  obtain rfl:i=l.length:=by omega
  rw[An (hd s)]
  simp
 | k+1,i,s,h=>by
  have hi:i<l.length:=by omega
  have hdr:l.drop i=l.getD i d::l.drop (i+1):=by simp_all
  rw[Ap (hn s i hi),show(i+1)=((i+1:Nat):Int) by omega,bm l d g f hn hd k _ _ (by omega),hdr,AB]
theorem Tx{S:Type}(l:List α)(d:α)(g:S->α->S)(f:S×Int->Option (LR (S×Int) S))(hn:∀(s:S) (i:Nat),i<l.length->f (s,(i:Int))=some (.next (g s (l.getD i d),(i:Int)+1)))
  (hd:∀ s:S,f (s,(l.length:Int))=some (.done s)) (s:S):Ae f (s,(0:Int))=some (l.foldl g s):=by
 have:=bm l d g f hn hd l.length 0 s (by omega);exact this
def grow(n d:Int):Int:=bif decide (n<d) then d else n
def Gx(f:AI):Int:=f.Blocks.foldl (λn b=>b.Ops.foldl (λn o=>grow n o.Dst) (b.Phis.foldl (λn p=>grow n p.Dst) n)) (f.Params.length:Int)
theorem OZ(h:i<n)(hn:n<=maxLen):w64 ((i:Int)+1)=(i:Int)+1:=Bd h (by rw[V3]at hn;omega)
def Sm(f:AI):Prop:=ZJ f/\Dc f=some true
theorem nR(h:Sm f)(hm:R6 f=true):OkF f:=by
 obtain⟨sm,h1,h2⟩:=RA f h.1;rw[h.2]at h1;exact(h2 (OI h1).symm hm).1
theorem pP(hf:ZJ f):∃ b,Fk f=some b/\(b=true->Sm f):=by
 obtain⟨x,hx⟩:∃ x,Ae _ ((0:Int),(0:Int))=some x:=by
  refine V9 f.Blocks.length (Cj f) (λn i hi=>.inl ?_) (λn=>?_) f.Blocks.length 0 0 (by omega)
  ·unfold Cj
   have hd:decide (i<(f.Blocks.length:Int))=true:=by simpa using hi
   simp only[hd, Aa (Ai hi),Me hi hf.blocks];exact⟨_,rfl⟩
  ·unfold Cj;exact⟨n,by simp⟩
 obtain⟨sm,h1⟩:=WT f hf;unfold Fk;rw[hx, h1];refine⟨_,rfl,λhb=>⟨hf,?_⟩⟩
 cases sm with
 | true=>exact h1
 | false=>cases hb
theorem Xn(h:Sm f)(l:Int):Cr f l=some (E2 f l):=by
 have hm:=nQ f h.1
 cases hb:R6 f with
 | true=>exact xm (nR h hb) l hm
 | false=>
  unfold Cr E2;rw[show(bif decide _ then true else decide _)=(decide (l<0) || decide (2<l)) by grind]
  cases(decide (l<0) || decide (2<l)) with
  | true=>rfl
  | false=>grind
structure Ad4(f:AI)(s:List (Int×(Int×Int))):Prop where
 none:E2 f 2≠0->s.length=0
 len:E2 f 2=0->s.length=(Aw f).length
 get:E2 f 2=0->∀ d∈Aw f,Nm ((0:Int),(0:Int)) s d.V=d.Shape
 has:E2 f 2=0->∀ v,Lb s v=true->∃ d∈Aw f,d.V=v
theorem Ae6(hf:ZJ f)(h0:f.Params.length<=64)(hb:∀ b∈f.Blocks,b.End.To.length<=64/\(∀ p∈b.Phis,p.From.length<=64/\p.Args.length<=64)/\∀ o∈b.Ops,o.Args.length<=64)(he:j7 f<=20000):Sm f:=
 ⟨hf,by rw[iY f hf h0 hb,Da he]⟩
def WF(f:AI):Int:=
 bif !(List.range (Aw f).length).all (Tm (Aw f)) then 7 else bif !(Bl f).all (Ma (Aw f)) then 7 else
 bif !(Bl f).all (Xw (Aw f)) then 6 else bif !(Bl f).all (Xv (Aw f) (Cu f)) then 7 else 0
theorem Mg{l:Int}(h0:0<=l)(h2:l<=2):E2 f l=0↔R6 f=true/\Eg f=true/\Rk f l=true/\WF f=0:=by
 unfold E2 XC;rw[Ds (show ¬ l<0 by omega),Ds (show ¬ 2<l by omega)]
 have e:(bif !(List.range _).all _ then 7 else bif !(Bl f).all _ then 7 else
  bif !(Bl f).all _ then 6 else bif !(Bl f).all _ then 7 else 0)=WF f:=rfl
 rw[e]
 cases R6 f<;>cases Eg f<;>cases Rk f l<;>simp
theorem sj{o:A0}(h:Dp o=true):1<=o.Lanes:=by
 simp only[Dp,Az]at h;have:=shape_lanes h.1.1;omega
theorem iC{l m:Int}(hm:Xk l=m)(o:A0):Cn l o=true↔Dp o=true/\o.Kind<=m/\(l<2->o.Lanes<=1):=by
 unfold Cn
 by_cases a:m<o.Kind<;>by_cases b:l<2<;>by_cases c:1<o.Lanes<;>cases Dp o<;>simp[ b]<;>omega
theorem yX(l:List α)(g:α->Nat):(l.map λa=>g a+1).sum=l.length+(l.map g).sum:=by
 induction l with
 | nil=>rfl
 | cons a l ih=>grind
theorem uX(a b:Int):w64 (a+w64 b)=w64 (a+b):=by rw[Int.add_comm,X1,Int.add_comm]
theorem Afa(f:AI)(hf:ZJ f):Xo f=some (sizeW f):=by
 have hl:=HT f.Blocks default (λb=>b.Phis.length+b.Ops.length) id (Sq f) (λn i hi=>?_) (λn=>?_) _ 0 f.Blocks.length (Ke _)
 ·unfold Xo;rw[MY (by have:=hf.blocks;rw[V3]at this;omega),show((0:Nat):Int)=0 from rfl]at hl;rw[hl,  sizeW,Ts,show Wt=(λb=>(b.Phis.length+b.Ops.length)+1) from rfl,yX]
  rfl
 ·have e1:decide (i<(f.Blocks.length:Int))=true:=Da (by omega);unfold Sq;simp only[e1,Ah,Aa (Ai hi),Dn,Me hi hf.blocks,uX,X1];rw[show n+((f.Blocks.getD i default).Phis.length+(f.Blocks.getD i default).Ops.length)=((n+((f.Blocks.getD i default).Phis.length+(f.Blocks.getD i default).Ops.length):Nat):Int) by omega]
 ·have e1:decide (f.Blocks.length<(f.Blocks.length:Int))=false:=by simp
  unfold Sq;simp only[e1,Ar,id]
theorem LI(l:List α)(d:α)(p:α->Bool)(f:Int->Option (LR Int (Unit ⊕ Bool)))(hn:∀ i:Nat,i<l.length->f i=bif p (l.getD i d) then some (.next ((i:Int)+1)) else some (.done (.inr false)))
  (he:f l.length=some (.done (.inl ()))):Ae f 0=some (bif l.all p then .inl () else .inr false):=by
 have:=Hx l d p f _ _ (λi hi hp=>by rw[hn i hi,hp];rfl) (λi hi hp=>by rw[hn i hi,hp];rfl) he _ 0 (Ke _)
 simpa using this
theorem pW(x:Int):(bif decide (x<0) then true else decide (2147483647<x)) = !numB x:=by
 unfold numB
 by_cases h1:x<0
 ·grind
 ·grind
theorem cP(l:List Int)(h:l.length<=maxLen):Ed l=some (l.all numB):=by
 have hl:=LI l 0 numB (Lq l) (λi hi=>?_) ?_
 ·unfold Ed;rw[hl]
  cases l.all _<;>rfl
 ·have e1:decide ((i:Int)<l.length)=true:=Da (by omega);unfold Lq;simp only[e1, Aa (Ai hi),Dn,pW,Me hi h]
  cases numB _<;>simp
 ·unfold Lq
  simp
theorem IE(l:List Int)(h:l.length<=maxLen):Jm l=some (listB l):=by
 unfold Jm;rw[cP l h]
 by_cases h1:l.length<=64
 ·have e1:decide ((l.length:Int)<=64)=true:=Da (by omega);rw[e1];simp[listB,h1]
 ·have e1:decide ((l.length:Int)<=64)=false:=Ds (by omega);rw[e1];simp[listB,h1]
theorem IA(h:l.length<=10):l.length<=maxLen:=by rw[V3];omega
theorem ue(p:A8)(h1:p.From.length<=maxLen)(h2:p.Args.length<=maxLen):Ss p=some (KF p):=by
 unfold Ss KF;rw[cP _ (IA (by simp)),IE _ h1,IE _ h2];simp only[GT,List.all_nil,PH]
 cases numB p.Bits<;>cases numB p.Dst<;>cases listB p.From<;>cases listB p.Args<;>rfl
theorem yg(o:A0)(h1:o.Args.length<=maxLen):Ud o=some (jC o):=by
 unfold Ud jC;rw[cP _ (IA (by simp)),IE _ h1];simp only[GT,List.all_nil,PH]
 cases numB o.Kind<;>cases numB o.Bits<;>cases numB o.Lanes<;>cases numB o.Dst<;>cases listB o.Args<;>rfl
theorem uc(e:Ny)(h1:e.To.length<=maxLen):Sr e=some (j6 e):=by
 unfold Sr j6;rw[cP _ (IA (by simp)),IE _ h1];simp only[GT,List.all_nil,PH]
 cases numB e.Kind<;>cases numB e.Arg<;>cases listB e.To<;>rfl
theorem VF(b:Bool)(x y:X):(bif !b then x else y)=bif b then y else x:=by cases b<;>rfl
theorem qA(l:List A8)(hl:l.length<=maxLen)(h:∀ p∈l,p.From.length<=maxLen/\p.Args.length<=maxLen):Kv l=some (l.all KF):=by
 have hl':=LI l (default:A8) KF (Ij l) (λi hi=>?_) ?_
 ·unfold Kv;rw[hl']
  cases l.all KF<;>rfl
 ·have e1:decide ((i:Int)<(l.length:Int))=true:=Da (by omega);have:=h _ (Ag (d:=(default:A8)) hi);unfold Ij;simp only[e1,Ah,Aa (Ai hi),Dn,ue _ this.1 this.2,Am,VF,Me hi hl,Int.natCast_add,Int.natCast_one]
 ·unfold Ij
  simp
theorem ud(l:List A0)(hl:l.length<=maxLen)(h:∀ o∈l,o.Args.length<=maxLen):Lp l=some (l.all jC):=by
 have hl':=LI l (default:A0) jC (I7 l) (λi hi=>?_) ?_
 ·unfold Lp;rw[hl']
  cases l.all jC<;>rfl
 ·have e1:decide ((i:Int)<(l.length:Int))=true:=Da (by omega);have:=h _ (Ag (d:=(default:A0)) hi);unfold I7;simp only[e1,Ah,Aa (Ai hi),Dn,yg _ this,Am,VF,Me hi hl,Int.natCast_add,Int.natCast_one]
 ·unfold I7
  simp
theorem lB(b:Ab)(h1:b.Phis.length<=maxLen)(h2:b.Ops.length<=maxLen)(h3:b.End.To.length<=maxLen)(h4:∀ p∈b.Phis,p.From.length<=maxLen/\p.Args.length<=maxLen)(h5:∀ o∈b.Ops,o.Args.length<=maxLen):Pn b=some (blockB b):=by
 unfold Pn blockB;rw[qA _ h1 h4,ud _ h2 h5,uc _ h3]
 cases b.Phis.all KF<;>cases b.Ops.all jC<;>cases j6 b.End<;>rfl
theorem ij(f:AI)(hf:ZJ f):I6 f.Blocks=some (f.Blocks.all blockB):=by
 have hl':=LI f.Blocks (default:Ab) blockB (G4 f.Blocks) (λi hi=>?_) ?_
 ·unfold I6;rw[hl']
  cases f.Blocks.all blockB<;>rfl
 ·have e1:decide ((i:Int)<(f.Blocks.length:Int))=true:=Da (by omega);have hm:=Ag (d:=(default:Ab)) hi;have q:=hf.block _ hm;unfold G4;simp only[e1,Ah,Aa (Ai hi),Dn,lB _ q.1 q.2.1 q.2.2 (hf.phi _ hm) (λo ho=>(hf.op _ hm o ho).1),Am,VF,Me hi hf.blocks,Int.natCast_add,Int.natCast_one]
 ·unfold G4
  simp
theorem Ae9(f:AI)(hf:ZJ f):Wb f=some (R6 f):=by
 unfold Wb R6;rw[Afa f hf,cP _ hf.params,cP _ (IA (by simp)),ij f hf];simp only[GT,List.all_nil,PH,listB]
 have d1:∀ n:Nat,decide ((n:Int)<1) = !decide (1<=n):=λn=>by by_cases h:1<=n<;>simp[h]<;>omega
 have d2:∀ n:Nat,decide ((64:Int)<(n:Int)) = !decide (n<=64):=λn=>by by_cases h:n<=64<;>simp[h]<;>omega
 have d3:∀ n:Nat,decide ((16:Int)<(n:Int)) = !decide (n<=16):=λn=>by by_cases h:n<=16<;>simp[h]<;>omega
 have d4:∀ n:Int,decide ((512:Int)<n) = !decide (n<=512):=λn=>by by_cases h:n<=512<;>simp[h]<;>omega
 simp only[d1,d2,d3,d4]
 have himp:decide (f.Params.length<=16)=true->decide (f.Params.length<=64)=true:=λh=>by simp at h ⊢;omega
 revert himp
 generalize decide (1<=f.Blocks.length)=c1
 generalize decide (f.Blocks.length<=64)=c2
 generalize decide (f.Params.length<=16)=c3
 generalize decide (f.Params.length<=64)=c4
 generalize f.Params.all numB=c6
 generalize numB f.Ret=c7
 generalize f.Blocks.all blockB=c8
 cases c3 with
 | true=>
  intro h;obtain rfl:=h rfl;simp only[D3,X3,Ah,Am,Ar]
  generalize decide (sizeW f<=512)=c5
  cases c1<;>cases c2<;>cases c6<;>cases c7<;>cases c8<;>cases c5<;>rfl
 | false=>
  intro _
  cases c1<;>cases c2<;>rfl
inductive Tp (t:List Int):Nat->Nat->Nat->Prop
 | top {x:Nat} (hx:x<t.length) (h:t.getD x 0 = -1):Tp t x x 0
 | up {x y r k:Nat} (hx:x<t.length) (h:t.getD x 0=(y:Int)) (hk:Tp t y r k):Tp t x r (k+1)
section
variable {t:List Int}
theorem Tp.lt(h:Tp t x r k):x<t.length:=by cases h<;>assumption
theorem Tp.tops(h:Tp t x r k):r<t.length/\t.getD r 0 = -1:=by
 induction h with
 | top hx h=>exact⟨hx,h⟩
 | up _ _ _ ih=>exact ih
theorem Tp.det{r' k':Nat}(h:Tp t x r k)(h':Tp t x r' k'):r=r'/\k=k':=by
 induction h generalizing k' with
 | top hx h=>cases h' with
  | top=>exact⟨rfl,rfl⟩
  | up _ h2 _=>omega
 | up hx h1 _ ih=>cases h' with
  | top _ h2=>omega
  | up _ h2 k2=>
   grind
theorem Tp.upTo(h:Tp t x r k):UpTo (B7 t) x r:=by
 induction h with
 | top=>exact .refl _
 | up _ h _ ih=>exact .up h ih
theorem Tp.on(h:Tp t x r k)(hz:UpTo (B7 t) x z):∃ j,j<=k/\Tp t z r j/\(j=k->z=x):=by
 induction hz generalizing k with
 | refl x=>grind
 | up hp _ ih=>
  cases h with
  | top _ h2=>have :=hp.symm.trans h2;omega
  | up _ h2 k2=>
   have :=hp.symm.trans h2
   cases PG this
   obtain⟨j,h1,h3,_⟩:=ih k2;exact⟨j,by omega,h3,λe=>by omega⟩
theorem Tp.anti(h:Tp t x r k)(h1:UpTo (B7 t) x z)(h2:UpTo (B7 t) z x):z=x:=by
 obtain⟨j,j1,j2,j3⟩:=h.on h1;obtain⟨i,i1,i2,i3⟩:=j2.on h2;have:=h.det i2;exact j3 (by omega)
theorem Tp.list(h:Tp t x r k):∃ l:List Nat,l.length=k+1/\l.Nodup/\∀ y∈l,y<t.length/\∃ j,j<=k/\Tp t y r j:=by
 induction h with
 | top hx h=>exact⟨[_],rfl,by simp,λy hy=>by rw[zzL10.1 hy];exact⟨hx,0,zzL7 _,.top hx h⟩⟩
 | @up x y r k hx h hk ih=>
  obtain⟨l,h1,h2,h3⟩:=ih;refine⟨x::l,by simp[h1],zzL108.2 ⟨λhm=>?_,h2⟩,λz hz=>?_⟩
  ·obtain⟨_,j,hj,hj2⟩:=h3 _ hm;have:=(Tp.up hx h hk).det hj2;omega
  ·rcases zzL31.1 hz with rfl|hz
   ·exact⟨hx,k+1,zzL7 _,.up hx h hk⟩
   ·grind
theorem Tp.short(h:Tp t x r k):k<t.length:=by
 obtain⟨l,h1,h2,h3⟩:=h.list;have:=T4 _ l h2 λy hy=>(h3 y hy).1;omega
theorem Tp.upD(h:Tp t x r k):∀ m,k<m->∃ q,upD t m (x:Int)=some q/\(∀ w:Int,w∈q↔∃ z:Nat,w=(z:Int)/\UpTo (B7 t) x z) /\
  ∀ p:Int->Bool,(q.find? p=none/\∀ z:Nat,UpTo (B7 t) x z->p (z:Int)=false)\/∃ f:Nat,q.find? p=some (f:Int)/\UpTo (B7 t) x f/\p (f:Int)=true/\∀ z:Nat,UpTo (B7 t) x z->p (z:Int)=true->UpTo (B7 t) f z:=by
 induction h with
 | @top x hx h=>
  intro m hm;obtain⟨m,rfl⟩:∃ i,m=i+1:=⟨m-1,by omega⟩
  have ai5:∀ z,UpTo (B7 t) x z↔z=x:=λz=>SH λp hp=>by have:_=_:=hp.symm.trans h;omega
  unfold Go.Proofs.YthelaonnkkpbfaaGreat.upD;rw[if_pos ⟨by omega,by omega⟩,Ao,if_pos h];refine⟨_,rfl,λw=>?_,λp=>?_⟩
  ·grind
  ·grind
 | @up x y r k hx h hk ih=>
  intro m hm;obtain⟨m,rfl⟩:∃ i,m=i+1:=⟨m-1,by omega⟩;unfold Go.Proofs.YthelaonnkkpbfaaGreat.upD;rw[if_pos ⟨by omega,by omega⟩,Ao,if_neg (by omega),h];obtain⟨q,hq1,hq2,hq3⟩:=ih m (by omega);rw[hq1];refine⟨(x:Int)::q,rfl,λw=>?_,λp=>?_⟩
  ·rw[zzL31,hq2 w]
   constructor
   ·rintro(rfl|⟨y,rfl,hy⟩)
    ·exact⟨x,rfl,.refl _⟩
    ·exact⟨y,rfl,.up h hy⟩
   ·rintro⟨y,rfl,hy⟩;rcases(anc_up h).1 hy with rfl|hy
    ·exact .inl rfl
    ·exact .inr ⟨y,rfl,hy⟩
  ·cases hpp:p (x:Int) with
   | true=>exact .inr ⟨x,by simp[List.find?,hpp],.refl _,hpp,λy hy _=>hy⟩
   | false=>
    have hf:((x:Int)::q).find? p=q.find? p:=by simp[List.find?,hpp]
    rw[hf];rcases hq3 p with⟨e1,e2⟩|⟨f,e1,e2,e3,e4⟩
    ·refine .inl ⟨e1,λy hy=>?_⟩;rcases(anc_up h).1 hy with rfl|hy
     ·exact hpp
     ·exact e2 y hy
    ·refine .inr ⟨f,e1,.up h e2,e3,λy hy hpy=>?_⟩;rcases(anc_up h).1 hy with rfl|hy
     ·rw[hpp]at hpy;cases hpy
     ·exact e4 y hy hpy
theorem Acb:∀ m (a:Int) q,upD t m a=some q->∃ x r k:Nat,a=(x:Int)/\k<m/\Tp t x r k:=by
 intro m
 induction m with
 | zero=>intro a q h;cases h
 | succ m ih=>
  intro a q h;unfold Go.Proofs.YthelaonnkkpbfaaGreat.upD at h
  by_cases ha:0<=a/\a<t.length
  ·rw[if_pos ha]at h;have e :=Mp ha.1
   by_cases h1:t.getD a.toNat 0 = -1
   ·exact⟨a.toNat,a.toNat,0,e.symm,by omega,.top (by omega) h1⟩
   ·rw[if_neg h1]at h
    cases hu:Go.Proofs.YthelaonnkkpbfaaGreat.upD t m _ with
    | none=>rw[hu]at h;cases h
    | some q'=>
     obtain⟨y,r,k,e1,e2,e3⟩:=ih _ _ hu;exact⟨a.toNat,r,k+1,e.symm,by omega,.up (by omega) e1 e3⟩
  ·grind
theorem pathD_tp{a:Int}:Fd t a≠[]↔∃ x r k:Nat,a=(x:Int)/\Tp t x r k:=by
 constructor
 ·intro h
  cases hu:upD t _ a with
  | none=>exact absurd (pathD_nil.2 hu) h
  | some q=>obtain⟨x,r,k,e1,_,e2⟩:=Acb _ _ _ hu;exact⟨x,r,k,e1,e2⟩
 ·rintro⟨x,r,k,rfl,h⟩ e;obtain⟨q,hq,_⟩:=h.upD _ h.short;rw[pathD_nil.1 e]at hq;cases hq
theorem Tp.path(h:Tp t x r k):(∀ w:Int,w∈Fd t (x:Int)↔∃ z:Nat,w=(z:Int)/\UpTo (B7 t) x z) /\
  ∀ p:Int->Bool,((Fd t (x:Int)).find? p=none/\∀ z:Nat,UpTo (B7 t) x z->p (z:Int)=false)\/∃ f:Nat,(Fd t (x:Int)).find? p=some (f:Int)/\UpTo (B7 t) x f/\p (f:Int)=true/\∀ z:Nat,UpTo (B7 t) x z->p (z:Int)=true->UpTo (B7 t) f z:=by
 obtain⟨q,h1,h2,h3⟩:=h.upD _ h.short
 have e:Fd t x=q:=by unfold Fd;rw[h1];rfl
 rw[e];exact⟨h2,h3⟩
theorem FE{l:List α}{x d:α}(hi:i<l.length):(l.set i x).getD j d=if j=i then x else l.getD j d:=by
 grind
theorem xo(h:Tp t x r k):∀ l:List Bool,l.length=t.length->∃ l',Ae (Mi t) ((x:Int),l)=some l'/\l'.length=t.length/\∀ z,z<t.length->(l'.getD z false=true↔l.getD z false=true\/UpTo (B7 t) x z):=by
 induction h with
 | @top x hx h=>
  intro l hl
  have hs:Mi t (x,l)=some (.next (-1,l.set x true)):=by
   unfold Mi
   have hb:((x:Int)!=-1)=true:=by rw[zzL65];omega
   simp only[hb,Ah,Ao,h];rw[Ac (F5 (by omega)),Ac (F5 hx)]
  have hd:Mi t (-1,l.set x true)=some (.done (l.set x true)):=by
   rfl
  refine⟨l.set x _,by rw[Ap hs,An hd],by simp[hl],λz hz=>?_⟩;rw[FE (by omega)]
  have ai5:UpTo (B7 t) x z↔z=x:=SH λp hp=>by have :=hp.symm.trans h;omega
  rw[ai5]
  by_cases e:z=x
  ·simp[e]
  ·simp[e]
 | @up x y r k hx h hk ih=>
  intro l hl
  have hs:Mi t (x,l)=some (.next (y,l.set x true)):=by
   unfold Mi
   have hb:(x !=(-1:Int))=true:=by rw[zzL65];omega
   simp only[hb,Ah,Ao,h];rw[Ac (F5 (by omega)),Ac (F5 hx)]
  obtain⟨l',e1,e2,e3⟩:=ih (l.set x _) (by simp[hl]);refine⟨l',by rw[Ap hs,e1],e2,λz hz=>?_⟩;rw[e3 z hz,FE (by omega),anc_up (par:=B7 t) h]
  by_cases e:z=x
  ·simp[e]
  ·simp[e]
theorem xp(h:Tp t b r k)(l:List Bool)(hl:l.length=t.length):l.getD r false=true->∃ c:Nat,Ae (J8 t l) (b:Int)=some (c:Int)/\UpTo (B7 t) b c/\l.getD c false=true/\∀ z,UpTo (B7 t) b z->l.getD z false=true->UpTo (B7 t) c z:=by
 induction h with
 | @top x hx h=>
  intro hr
  have hd:J8 t l x=some (.done x):=by
   unfold J8;rw[Ac (F5 (by omega)),Ao,hr]
   rfl
  exact⟨x,An hd,.refl _,hr,λz hz _=>hz⟩
 | @up x y r k hx h hk ih=>
  intro hr
  cases hx2:l.getD x _ with
  | true=>
   have hd:J8 t l x=some (.done x):=by
    unfold J8;rw[Ac (F5 (by omega)),Ao,hx2]
    rfl
   exact⟨x,An hd,.refl _,hx2,λz hz _=>hz⟩
  | false=>
   have hs:J8 t l x=some (.next y):=by
    unfold J8;rw[Ac (F5 (by omega)),Ao,hx2,Mq,Ah,Ac (F5 hx),h]
   obtain⟨c,e1,e2,e3,e4⟩:=ih hr;refine⟨c,by rw[Ap hs,e1],.up h e2,e3,λz hz hlz=>?_⟩;rcases(anc_up  h).1 hz with rfl|hz
   ·grind
   ·exact e4 z hz hlz
theorem QN(ht:t.length<=1000)(ha:Tp t a r k)(hb:Tp t b r m):∃ c:Nat,T0 t (a:Int) (b:Int)=some (c:Int)/\MeetAt (B7 t) a b c:=by
 unfold T0
 have ab1:1000<=room:=by decide
 rw[Ac ⟨by omega,by omega,by omega⟩,Ao];obtain⟨l',h1,h2,h3⟩:=xo ha (List.replicate t.length _) (by simp);rw[h1,Am]
 have h3':∀ z,z<t.length->(l'.getD z false=true↔UpTo (B7 t) a z):=λz hz=>by grind
 obtain⟨c,e1,e2,e3,e4⟩:=xp hb l' h2 ((h3' r ha.tops.1).2 ha.upTo)
 have hc:c<t.length:=by grind
 refine⟨c,by rw[e1];rfl,λw=>⟨λhw=>⟨((h3' c hc).1 e3).trans hw,e2.trans hw⟩,λ⟨hw1,hw2⟩=>?_⟩⟩;obtain⟨j,_,hj,_⟩:=ha.on hw1;exact e4 w hw2 ((h3' w hj.lt).2 hw1)
theorem s6(hR:Oi t=true)(ha:Tp t a r k)(hb:Tp t b r m):∃ c:Nat,Tl t (a:Int) (b:Int)=(c:Int)/\MeetAt (B7 t) a b c:=by
 unfold Tl;rw[if_pos hR]
 have hcon:∀ z:Nat,(Fd t b).contains z=true↔UpTo (B7 t) b z:=λz=>by
  rw[zzL60,hb.path.1]
  constructor
  ·grind
  ·grind
 rcases ha.path.2 (λx=>(Fd t _).contains x) with⟨e1,e2⟩|⟨f,e1,e2,e3,e4⟩
 ·have:=e2 r ha.upTo;rw[(hcon r).2 hb.upTo]at this
  cases this
 ·exact⟨f,by rw[e1];rfl,λw=>⟨λhw=>⟨e2.trans hw,((hcon f).1 e3).trans hw⟩,λ⟨hw1,hw2⟩=>e4 w hw1 ((hcon w).2 hw2)⟩⟩
theorem MeetAt.same{c:Nat}(ha:Tp t a r k)(hc:MeetAt (B7 t) a b c)(hd:MeetAt (B7 t) a b d):c=d:=by
 obtain⟨j,_,hj,_⟩:=ha.on ((hc c).1 (.refl _)).1;exact(hj.anti ((hc d).2 ((hd d).1 (.refl _))) ((hd c).2 ((hc c).1 (.refl _)))).symm
end
theorem m_index(t:List Int)(v:Int)(ht:t.length<=1000):(∃ r:Nat,r<t.length/\t.getD r 0=v/\(∀ i,i<r->t.getD i 0≠v)/\E7 t v=some (r:Int))\/((∀ i,i<t.length->t.getD i 0≠v)/\E7 t v=some (-1)):=by
 have key:∀ k i:Nat,i+k=t.length->(∀ j,j<i->t.getD j 0≠v)->
   (∃ r:Nat,r<t.length/\t.getD r 0=v/\(∀ i,i<r->t.getD i 0≠v)/\Ae (Cx t v) (i:Int)=some (.inr (r:Int)))\/((∀ i,i<t.length->t.getD i 0≠v)/\Ae (Cx t v) (i:Int)=some (.inl ())):=by
  intro k
  induction k with
  | zero=>
   intro i hi hj
   obtain rfl:i=t.length:=by omega
   refine .inr ⟨hj,An ?_⟩;unfold Cx;rw[Cy];rfl
  | succ k ih=>
   intro i hi hj
   by_cases e:v=t.getD i 0
   ·refine .inl ⟨i,by omega,e.symm,hj,An ?_⟩;unfold Cx;have hb:((v:Int)==t.getD i 0)=true:=zzL34.2 e;simp only[B0 (show i<t.length by omega),Ah,Ao,hb];rw[Ac (F5 (by omega))]
   ·have hs:Cx t v (i:Int)=some (.next ((i+1:Nat):Int)):=by
     unfold Cx;have hb:((v:Int)==t.getD i 0)=false:=zzL30.2 e;simp only[B0 (show i<t.length by omega),Ah,Ao,hb,Ar];rw[Ac (F5 (by omega)),w1 (by omega)]
    rw[Ap hs]
    exact ih (i+1) (by omega) λj hj2=>by
     by_cases ej:j=i
     ·subst ej;exact λh=>e h.symm
     ·exact hj j (by omega)
 have h0:=key t.length 0 (by omega) (λj hj=>absurd hj (W4 _));unfold E7;rcases h0 with⟨r,h1,h2,h3,h4⟩|⟨h1,h2⟩
 ·exact .inl ⟨r,h1,h2,h3,by rw[show((0:Int))=((0:Nat):Int) from rfl,h4];rfl⟩
 ·exact .inr ⟨h1,by rw[show((0:Int))=((0:Nat):Int) from rfl,h2];rfl⟩
section
variable {t:List Int}
structure IU(t:List Int)(r f:Nat)(w:List Int):Prop where
 len:w.length=t.length
 old:∀ y,y<t.length->w.getD y 0≠0->(w.getD y 0<=(f:Int))/\∃ k,Tp t y r k
structure q8(t:List Int)(r f x:Nat)(w:List Int):Prop where
 len:w.length=t.length
 hx:x<t.length
 old:∀ y,y<t.length->w.getD y 0≠0->w.getD y 0<=(f:Int)/\(∃ k,Tp t y r k)\/w.getD y 0=((f+1:Nat):Int)/\∀ r' k,Tp t x r' k->∃ j,k<j/\Tp t y r' j
 fwd:∀ r' k,Tp t x r' k->∃ j,k<=j/\Tp t f r' j
 back:∀ r' k,Tp t f r' k->∃ j,Tp t x r' j
def cQ(w:List Int):Nat:=w.countP λz=>z==0
theorem qD{w:List Int}(hx:x<w.length)(h0:w.getD x 0=0)(hv:v≠0):cQ (w.set x v)<cQ w:=by
 unfold cQ;rw[List.countP_set hx];rw[Ad _ _ _ hx]at h0;have hp:0<w.countP λz=>z==0:=List.countP_pos_iff.2 ⟨w[x],PE hx,by simp[h0]⟩;have hb :=zzL30.2 hv;simp only[h0,X3,Nd,hb,NC,Iu];omega
theorem leads_loop(ht:t.length<=1000)(hr:r<t.length)(ai5:t.getD r 0 = -1){f:Nat}(hf:f<t.length):∀(m x:Nat) (w:List Int),cQ w<=m->q8 t r f x w->
  (∃ w',Ae (D1 t (f:Int) (r:Int)) ((x:Int),w)=some (.inl w')/\IU t r (f+1) w'/\∃ k,Tp t f r k) \/
  ∃ b w',Ae (D1 t (f:Int) (r:Int)) ((x:Int),w)=some (.inr (b,w'))/\w'.length=t.length/\(b=true->IU t r (f+1) w'/\∃ k,Tp t f r k)/\(b=false->∀ k,¬ Tp t f r k):=by
 intro m
 induction m with
 | zero=>
  intro x w hz hw;exact go 0 (λx w hz=>absurd hz (W4 _)) x w hz hw
 | succ m ih=>
  intro x w hz hw;exact go (m+1) (λx w hz=>ih x w (Nat.le_of_lt_succ hz)) x w hz hw
where
 go (m:Nat) (ih:∀(x:Nat) (w:List Int),cQ w<m->q8 t r f x w->
  (∃ w',Ae (D1 t (f:Int) (r:Int)) ((x:Int),w)=some (.inl w')/\IU t r (f+1) w'/\∃ k,Tp t f r k) \/
  ∃ b w',Ae (D1 t (f:Int) (r:Int)) ((x:Int),w)=some (.inr (b,w'))/\w'.length=t.length/\(b=true->IU t r (f+1) w'/\∃ k,Tp t f r k)/\(b=false->∀ k,¬ Tp t f r k)) (x:Nat) (w:List Int) (hz:cQ w<=m) (hw:q8 t r f x w) :
  (∃ w',Ae (D1 t (f:Int) (r:Int)) ((x:Int),w)=some (.inl w')/\IU t r (f+1) w'/\∃ k,Tp t f r k) \/
  ∃ b w',Ae (D1 t (f:Int) (r:Int)) ((x:Int),w)=some (.inr (b,w'))/\w'.length=t.length/\(b=true->IU t r (f+1) w'/\∃ k,Tp t f r k)/\(b=false->∀ k,¬ Tp t f r k):=by
  have hxl:=hw.hx
  have told:∀ k,Tp t x r k->IU t r (f+1) w/\∃ k,Tp t f r k:=λk hk=>by
   obtain⟨j,_,hj⟩:=hw.fwd _ _ hk;refine⟨⟨hw.len,λy hy hy0=>?_⟩,j,hj⟩;rcases hw.old y hy hy0 with⟨h1,h2⟩|⟨h1,h2⟩
   ·exact⟨by omega,h2⟩
   ·obtain⟨i,_,hi⟩:=h2 _ _ hk;exact⟨by omega,i,hi⟩
  by_cases hxr:x=r
  ·subst hxr;refine .inl ⟨w,An ?_,told 0 (.top hr ai5)⟩;unfold D1
   have hb:((x:Int)!=(x:Int))=false:=by simp
   simp only[hb,Ar]
  ·have hb:((x:Int)!=(r:Int))=true:=by rw[zzL65];omega
   have hin:As (x:Int) w.length:=F5 (by rw[hw.len];exact hxl)
   by_cases hw0:w.getD x 0=0
   ·have hb0:((w.getD x 0:Int)!=0)=false:=by rw[hw0];rfl
    by_cases hpl:0<=t.getD x 0/\t.getD x 0<(t.length:Int)
    ·have hwf:w64 ((f:Int)+1)=((f+1:Nat):Int):=w1 (by omega)
     have hs:D1 t (f:Int) (r:Int) ((x:Int),w)=some (.next (t.getD x 0,w.set x ((f+1:Nat):Int))):=by
      unfold D1 Oc;simp only[hb,Ah,Ao,hb0,Ar];rw[Ac hin,Ac (F5 hxl),Da hpl.1,Da hpl.2,Ah,Am,D3,Ar,Ac hin,Ac (F5 hxl),hwf]
     rw[Ap hs];obtain⟨y,hy⟩:∃ y:Nat,t.getD x 0=(y:Int):=⟨(t.getD x 0).toNat,(Mp hpl.1).symm⟩;rw[hy]at hpl ⊢
     have hyl:y<t.length:=by omega
     have hst:∀ r' k,Tp t y r' k->Tp t x r' (k+1):=λr' k hk=>.up hxl hy hk
     have hset:∀ z,z<t.length->(w.set x ((f+1:Nat):Int)).getD z 0=if z=x then((f+1:Nat):Int) else w.getD z 0:=λz _=>FE (by rw[hw.len];exact hxl)
     have hW:q8 t r f y (w.set x ((f+1:Nat):Int)):=by
      refine⟨by simp[hw.len],hyl,λz hzl hz0=>?_,λr' k hk=>?_,λr' k hk=>?_⟩
      ·rw[hset z hzl]at hz0 ⊢
       by_cases e:z=x
       ·subst e;rw[if_pos rfl];exact .inr ⟨rfl,λr' k hk=>⟨k+1,by omega,hst r' k hk⟩⟩
       ·rw[if_neg e]at hz0 ⊢;rcases hw.old z hzl hz0 with h1|⟨h1,h2⟩
        ·exact .inl h1
        ·refine .inr ⟨h1,λr' k hk=>?_⟩;obtain⟨j,hj1,hj2⟩:=h2 _ _ (hst r' k hk);exact⟨j,by omega,hj2⟩
      ·obtain⟨j,hj1,hj2⟩:=hw.fwd _ _ (hst r' k hk);exact⟨j,by omega,hj2⟩
      ·obtain⟨j,hj⟩:=hw.back _ _ hk
       cases hj with
       | top _ h2=>omega
       | up _ h2 h3=>
        have:=hy.symm.trans h2
        cases PG this
        exact⟨_,h3⟩
     have hzz:=qD (x:=x) (v:=((f+1:Nat):Int)) (by rw[hw.len];exact hxl) hw0 (by omega);exact ih y _ (by omega) hW
    ·refine .inr ⟨false,w,An ?_,hw.len,⟨λh=>(by cases h),λ_ k hk=>?_⟩⟩
     ·unfold D1 Oc;simp only[hb,Ah,Ao,hb0,Ar];rw[Ac hin,Ac (F5 hxl)]
      have:(bif decide ((0:Int)<=t.getD x 0) then decide (t.getD x 0<(t.length:Int)) else false)=false:=by
       cases h1:decide ((0:Int)<=t.getD x 0) with
       | false=>rfl
       | true=>rw[Ah];exact Ds λh2=>hpl ⟨PD h1,h2⟩
      rw[this,Am]
      rfl
     ·obtain⟨j,hj⟩:=hw.back _ _ hk
      cases hj with
      | top=>exact hxr rfl
      | up _ h2 h3=>have:=h3.lt;exact hpl ⟨by omega,by omega⟩
   ·have hb0:((w.getD x 0:Int)!=0)=true:=by rw[zzL65];exact hw0
    have hwf:w64 ((f:Int)+1)=((f+1:Nat):Int):=w1 (by omega);refine .inr ⟨w.getD x 0 !=((f+1:Nat):Int),w,An ?_,hw.len,⟨λh=>?_,λh k hk=>?_⟩⟩
    ·unfold D1;simp only[hb,Ah,Ao,hb0];rw[Ac hin,Ac hin,hwf]
    ·rcases hw.old x hxl hw0 with⟨_,k,hk⟩|⟨h1,_⟩
     ·exact told k hk
     ·rw[h1]at h;simp at h
    ·have he:w.getD x 0=((f+1:Nat):Int):=by simpa using h
     obtain⟨j,hj⟩:=hw.back _ _ hk;rcases hw.old x hxl hw0 with⟨h1,_⟩|⟨_,h2⟩
     ·omega
     ·obtain⟨i,hi1,hi2⟩:=h2 _ _ hj;have:=hj.det hi2;omega
end
section
variable {t:List Int}
theorem xh(ht:t.length<=1000)(hr:r<t.length)(ai5:t.getD r 0 = -1){f:Nat}(hf:f<t.length){w:List Int}(hw:IU t r f w) :
  ∃ b w',Xq t w (f:Int) (r:Int)=some (b,w')/\w'.length=t.length/\(b=true->IU t r (f+1) w'/\∃ k,Tp t f r k)/\(b=false->∀ k,¬ Tp t f r k):=by
 unfold Xq;have hW:q8 t r f f w:=⟨hw.len,hf,λy hy h0=>.inl (hw.old y hy h0),λr' k hk=>⟨k,zzL7 _,hk⟩,λr' k hk=>⟨k,hk⟩⟩;rcases leads_loop ht hr ai5 hf _ f w (zzL7 _) hW with⟨w',e1,e2⟩|⟨b,w',e1,e2,e3,e4⟩
 ·exact⟨true,w',by rw[e1];rfl,e2.1.len,λ_=>e2,λh=>by cases h⟩
 ·grind
def bC(t:List Int)(r:Nat):Prop:=∀ f,f<t.length->t.getD f 0≠-2->∃ k,Tp t f r k
open Classical in
theorem gP(ht:t.length<=1000)(hr:r<t.length)(ai5:t.getD r 0 = -1):∀(k f:Nat) (w:List Int),f+k=t.length->IU t r f w->(∀ y,y<f->t.getD y 0≠-2->∃ k,Tp t y r k)->
  Ae (Hn t (r:Int)) ((f:Int),w)=some (if bC t r then .inl () else .inr false):=by
 intro k
 induction k with
 | zero=>
  intro f w hk hw hd
  obtain rfl:f=t.length:=by omega
  apply An
  unfold Hn;simp only[Cy,Ar];rw[if_pos (show bC t r from hd)]
 | succ k ih=>
  intro f w hk hw hd
  have hf:f<t.length:=by omega
  by_cases h2:t.getD f 0 = -2
  ·have hb:((t.getD f 0:Int)!=(-2))=false:=by rw[h2];rfl
   have hs:Hn t (r:Int) ((f:Int),w)=some (.next (((f+1:Nat):Int),w)):=by
    unfold Hn;simp only[B0 hf,Ah,Ao,hb,show(false==true)=false from rfl,Ar,Am];rw[Ac (F5 hf),Ac (λh=>by cases h),w1 (by omega)]
   rw[Ap hs];refine ih (f+1) w (by omega) ⟨hw.len,λy hy h0=>?_⟩ λy hy hy2=>?_
   ·obtain⟨e1,e2⟩:=hw.old y hy h0;exact⟨by omega,e2⟩
   ·by_cases e:y=f
    ·subst e;exact absurd h2 hy2
    ·exact hd y (by omega) hy2
  ·have hb:((t.getD f 0:Int)!=(-2))=true:=by rw[zzL65];exact h2
   obtain⟨b,w',e1,e2,e3,e4⟩:=xh ht hr ai5 hf hw
   cases b with
   | false=>
    rw[if_neg (λhA:bC t r=>by obtain⟨k,hk⟩:=hA f hf h2;exact e4 rfl k hk)]
    apply An
    unfold Hn;simp only[B0 hf,Ah,Ao,hb,show(true==true)=true from rfl,e1,Am];rw[Ac (F5 hf),Ac (λ_=>by rw[hw.len,e2])]
    rfl
   | true=>
    have hs:Hn t (r:Int) ((f:Int),w)=some (.next (((f+1:Nat):Int),w')):=by
     unfold Hn;simp only[B0 hf,Ah,Ao,hb,show(true==true)=true from rfl,e1,Am];rw[Ac (F5 hf),Ac (λ_=>by rw[hw.len,e2]),w1 (by omega)]
     rfl
    rw[Ap hs];obtain⟨e5,e6⟩:=e3 rfl;refine ih (f+1) w' (by omega) e5 λy hy hy2=>?_
    by_cases e:y=f
    ·subst e;exact e6
    ·exact hd y (by omega) hy2
theorem uS:topsK t t.length=1↔∃ r,r<t.length/\t.getD r 0 = -1/\∀ x,x<t.length->t.getD x 0 = -1->x=r:=by
 have key:∀ n,(topsK t n=0↔∀ x,x<n->t.getD x 0≠-1)/\(topsK t n=1↔∃ r,r<n/\t.getD r 0 = -1/\∀ x,x<n->t.getD x 0 = -1->x=r):=by
  intro n
  induction n with
  | zero=>exact⟨⟨λ_ x hx=>absurd hx (W4 _),λ_=>rfl⟩,⟨λh=>by simp[topsK]at h,λ⟨r,h,_⟩=>absurd h (W4 _)⟩⟩
  | succ n ih=>
   rw[KJ]
   by_cases e:t.getD n 0 = -1
   ·rw[if_pos e];refine⟨⟨λh=>by omega,λh=>absurd e (h n (by omega))⟩,⟨λh=>⟨n,by omega,e,λx hx hx1=>?_⟩,λ⟨r,h1,h2,h3⟩=>?_⟩⟩
    ·by_cases ex:x=n
     ·exact ex
     ·grind
    ·have:=ih.1.2 λx hx hx1=>by
      grind
     omega
   ·grind
 exact(key _).2
theorem rightD_iff:Oi t=true↔∃ r,r<t.length/\t.getD r 0 = -1/\bC t r:=by
 unfold Oi;rw[Az,all_range,Hs,uS]
 constructor
 ·rintro⟨h1,r,h2,h3,h4⟩;refine⟨r,h2,h3,λf hf hf2=>?_⟩;have:=h1 f hf;unfold tJ at this;rw[W1,Hs,Qr,XI]at this;rcases this with h|h
  ·exact absurd h hf2
  ·obtain⟨x,r',k,e,hk⟩:=pathD_tp.1 h
   cases PG e
   have:=h4 _ hk.tops.1 hk.tops.2;subst this;exact⟨k,hk⟩
 ·rintro⟨r,h2,h3,h4⟩;refine⟨λf hf=>?_,r,h2,h3,λx hx hx1=>?_⟩
  ·unfold tJ;rw[W1,Hs,Qr,XI]
   by_cases e:t.getD f 0 = -2
   ·exact .inl e
   ·obtain⟨k,hk⟩:=h4 f hf e;exact .inr (pathD_tp.2 ⟨f,r,k,rfl,hk⟩)
  ·obtain⟨k,hk⟩:=h4 x hx (by omega);exact((hk.det (.top hx hx1)).1).symm
theorem cC(hR:Oi t=true):∃ r,bC t r:=by obtain⟨r,_,_,h⟩:=rightD_iff.1 hR;exact⟨r,h⟩
theorem ss(ht:t.length<=1000):Vq t=some (Oi t):=by
 unfold Vq
 have ab1:1000<=room:=by decide
 rcases m_index t _ ht with⟨r,h1,h2,h3,h4⟩|⟨h1,h2⟩
 ·rw[h4,Am,Ds (by omega),Ar,Ac ⟨by omega,by omega,by omega⟩,Ao];have hl:=gP ht h1 h2 t.length 0 (List.replicate t.length 0) (by omega) ⟨by simp,λy hy h0=>absurd MP h0⟩ (λy hy=>absurd hy (W4 _));rw[show(((0:Nat):Int))=0 from rfl]at hl;rw[hl,Am]
  by_cases hA:bC t r
  ·rw[if_pos hA,rightD_iff.2 ⟨r,h1,h2,hA⟩]
  ·rw[if_neg hA]
   have :=Bool.eq_false_iff.2 λhR=>by
    obtain⟨r',g1,g2,g3⟩:=rightD_iff.1 hR;obtain⟨k,hk⟩:=g3 r h1 (by omega);have:=(hk.det (.top h1 h2)).1;subst this;exact hA g3
   rw[this]
 ·rw[h2]
  have :=Bool.eq_false_iff.2 λhR=>by
   obtain⟨r',g1,g2,g3⟩:=rightD_iff.1 hR;exact h1 r' g1 g2
  rw[this]
  rfl
def JX(t:List Int)(a:Int):Bool:=decide (0<=a)&&decide (a<(t.length:Int))&&decide (t.getD a.toNat 0≠-2)
theorem UF(hR:Oi t=true){a:Int}:JX t a=true↔∃ x k r:Nat,a=(x:Int)/\Tp t x r k:=by
 unfold JX;rw[Az,Az,Hs,Hs,Hs]
 constructor
 ·rintro⟨⟨h1,h2⟩,h3⟩;obtain⟨r,hA⟩:=cC hR;obtain⟨k,hk⟩:=hA _ (by omega) h3;exact⟨a.toNat,k,r,(Mp h1).symm,hk⟩
 ·rintro⟨x,k,r,rfl,h⟩;rw[Ao]
  cases h with
  | top _ h2=>omega
  | up _ h2 _=>omega
theorem kO(a:Int):O8 t a=some (JX t a):=by
 unfold O8 Oc JX;rw[Am]
 cases h1:decide (0<=a) with
 | false=>rfl
 | true=>
  rw[Ah,Kd]
  cases h2:decide (a<t.length) with
  | false=>rfl
  | true=>
   rw[Ac (λ_=>⟨PD h1,PD h2⟩),Ah,Kd]
   congr 1
   rw[GS,zzL65,Hs]
theorem xg(ht:t.length<=1000)(a b:Int):Xp t a b=some (Oi t&&JX t a&&JX t b):=by
 unfold Xp;rw[ss ht]
 cases Oi t with
 | false=>rfl
 | true=>
  simp only[  kO, Kd]
  cases JX t a with
  | false=>rfl
  | true=>grind
theorem pT{a b:Int}(h:(Oi t&&JX t a&&JX t b)=false):Tl t a b = -2:=by
 unfold Tl
 by_cases hR:Oi t=true
 ·rw[if_pos hR];rw[hR]at h
  have hno:∀ c,JX t c=false->Fd t c=[]:=λc hc=>by
   by_cases e:Fd t c=[]
   ·exact e
   ·obtain⟨x,r,k,e1,e2⟩:=pathD_tp.1 e;rw[(UF hR).2 ⟨x,k,r,e1,e2⟩]at hc;cases hc
  cases ha:JX t a with
  | false=>rw[hno a ha];rfl
  | true=>
   rw[ha]at h;rw[hno b h]
   have:((Fd t a).find? λx=>[].contains x)=none:=List.find?_eq_none.2 λx _=>by simp
   rw[this]
   rfl
 ·rw[if_neg hR]
theorem ae(ht:t.length<=1000){a b:Int}(h:(Oi t&&JX t a&&JX t b)=true):T0 t a b=some (Tl t a b)/\0<=Tl t a b:=by
 rw[Az,Az]at h;obtain⟨⟨hR,ha⟩,hb⟩:=h;obtain⟨x,k,r,rfl,hx⟩:=(UF hR).1 ha;obtain⟨y,m,r',rfl,hy⟩:=(UF hR).1 hb;obtain⟨rr,hA⟩:=cC hR
 have top:∀{x r k},Tp t x r k->r=rr:=λ{x r k} h=>by
  obtain⟨i,hi⟩:=hA r h.tops.1 (by rw[h.tops.2];omega);exact((Tp.top h.tops.1 h.tops.2).det hi).1
 obtain rfl:=top hx;obtain rfl:=top hy;obtain⟨c,h1,h2⟩:=QN ht hx hy;obtain⟨d,h3,h4⟩:=s6 hR hx hy;have:=h2.same hx h4;subst this;exact⟨by rw[h1,h3],by omega⟩
theorem Abo(ht:t.length<=1000)(a b:Int):BE t a b=some (P5 t a b):=by
 unfold BE P5;rw[xg ht]
 cases h:(Oi t&&JX t a&&JX t b) with
 | false=>
  rw[pT h]
  have:(-2==a&&(-2 !=-2))=false:=by simp
  rw[this]
  rfl
 | true=>
  obtain⟨h1,h2⟩:=ae ht h;simp only[show(true==true)=true from rfl,Ah,h1,Am]
  have:(Tl t a b !=-2)=true:=by rw[zzL65];omega
  rw[this,PH]
end
variable {at_:Nat->Nat}{P:List Nat}{t0:List Int}{b:Ab}{β γ:Type}
theorem xw:∀ n:Fin 65,Ty (Jp 1) (Jp ((n.val:Nat):Int))=some (0,((n.val:Nat):Int)):=by decide +kernel
theorem pV(h:n<=64):Ty (Jp 1) (Jp (n:Int))=some (0,(n:Int)):=xw ⟨n,by omega⟩
theorem iS(hn:n<=64):∀(m i:Nat) (l:List Int),n-i<=m->1<=i->i<=n->l.length=n->(∀ j,j<i->l.getD j 0=v)->Ae Dm ((i:Int),l)=some (List.replicate n v):=by
 intro m
 induction m with
 | zero=>
  intro i l hm h1 h2 hl hv
  obtain rfl:i=n:=by omega
  exact fin l hl hv
 | succ m ih=>
  intro i l hm h1 h2 hl hv
  by_cases e:i=n
  ·grind
  ·have hs:Dm ((i:Int),l)=some (.next (((i+Nat.min i (n-i):Nat):Int),j4 l i (Nat.min i (n-i)) (λj=>l.getD (0+j) 0))):=by
    unfold Dm;simp only[hl,B0 (show i<n by omega),Ah,Ao,Ke,PI];have hc:(0:Int)<=(i:Int)/\i<=n:=⟨by omega,h2⟩;have hmn:Nat.min i (n-i)<=i:=Nat.min_le_left _ _;rw[Ac hc,Ac hc,F1 (by omega) (by omega),Int.natCast_add]
   rw[Ap hs];have hmn:Nat.min i (n-i)<=i/\Nat.min i (n-i)<=n-i:=⟨Nat.min_le_left _ _,Nat.min_le_right _ _⟩;have hge:1<=Nat.min i (n-i):=Nat.le_min.2 ⟨h1,by omega⟩;refine ih _ _ (by omega) (by omega) (by omega) (by rw[<- Ki];exact hl) λj hj=>?_;rw[TR _ _ _ _ _ _ (by omega)]
   by_cases hji:i<=j/\j<i+Nat.min i (n-i)
   ·grind
   ·grind
where
 fin {v:Int} {i:Nat} (l:List Int) (hl:l.length=i) (hv:∀ j,j<i->l.getD j 0=v):Ae Dm ((i:Int),l)=some (List.replicate i v):=by
  apply An
  unfold Dm;simp only[hl,Cy,Ar]
  congr 2
  refine JI (by simp[hl]) λj h1 h2=>?_;rw[<- Ad _ _ 0 h1,hv j (by omega)]
  simp
theorem sv(h1:1<=n)(hn:n<=64):Jk [v] (n:Int)=some (List.replicate n v):=by
 have ab1:64<=room:=by decide
 unfold Jk;rw[Ds (by omega),Ar,Am]
 show Option.bind (Ty (Jp 1) _) _=_
 rw[pV hn,Am];have e1:decide (0<0)=false:=rfl;have e2:decide (9223372036854775807<(n:Int))=false:=Ds (by omega);simp only[ e2,Ar];have ew:w64 n=n:=F1 (by omega) (by omega);rw[ew,Ac ⟨by omega,by omega,by omega⟩,Ao,Vh,PI];have em:Nat.min [v].length n=1:=Nat.min_eq_left h1;rw[em,iS hn n 1 _ (by omega) (zzL7 _) h1 (by rw[<- Ki];simp) (λj hj=>?_)]
 ·rfl
 ·rw[TR _ _ _ _ _ _ (by simp;omega),if_pos ⟨by omega,by omega⟩]
  have:j-0=0:=by omega
  rw[this];rfl
section
variable {S:Nat->List Nat} {r n:Nat} {P:List Nat}
theorem Inv.tp(h:Inv S r n at_ (B7 t))(hl:t.length=n):∀ m x,at_ x<=m->x<n->B7 t x≠-2->∃ k,Tp t x r k:=by
 intro m
 induction m with
 | zero=>
  intro x hm hx hp;rcases h.kind x hx with h1|h1|⟨z,hz⟩
  ·exact absurd h1 hp
  ·subst h1;exact⟨0,.top (by omega) h.top⟩
  ·obtain⟨_,_,h3,_⟩:=h.up x hx z hz;omega
 | succ m ih=>
  intro x hm hx hp;rcases h.kind x hx with h1|h1|⟨z,hz⟩
  ·exact absurd h1 hp
  ·subst h1;exact⟨0,.top (by omega) h.top⟩
  ·obtain⟨z1,z2,z3,_⟩:=h.up x hx z hz;obtain⟨k,hk⟩:=ih z (by omega) z1 z2;exact⟨k+1,.up (by omega) hz hk⟩
def LC(t l:List Int)(i:Nat)(v:Int):Prop:=
 (v = -2/\∀ j,j<i->B7 t (l.getD j 0).toNat = -2) \/
 ∃ z:Nat,v=(z:Int)/\z<t.length/\B7 t z≠-2/\(∀ w,UpTo (B7 t) z w↔∀ j,j<i->B7 t (l.getD j 0).toNat≠-2->UpTo (B7 t) (l.getD j 0).toNat w)
theorem dV(ht:t.length<=64)(hll:l.length<=64)(h:Inv S r n at_ (B7 t))(hl:t.length=n)(hin:∀ x∈l,0<=x/\x<(n:Int)):∀(k i:Nat) (v:Int),i+k=l.length->LC t l i v->
  ∃ v',Ae (Ge t l) (v,(i:Int))=some v'/\LC t l l.length v':=by
 intro k
 induction k with
 | zero=>
  intro i v hi hv
  obtain rfl:i=l.length:=by omega
  refine⟨v,An ?_,hv⟩;unfold Ge;simp only[Cy,Ar]
 | succ k ih=>
  intro i v hi hv
  have hil:i<l.length:=by omega
  obtain⟨x0,x1⟩:=hin _ (Ag (d:=0) hil);have hxe:(((l.getD i 0).toNat:Nat):Int)=l.getD i 0:=Mp x0;have hxin:As (l.getD i 0) t.length:=Aeh x0 (by omega)
  have next:∀ v',Ge t l (v,(i:Int))=some (.next (v',((i+1:Nat):Int)))->LC t l (i+1) v'->∃ v',Ae (Ge t l) (v,(i:Int))=some v'/\LC t l l.length v':=λv' hs hv'=>by
   rw[Ap hs];exact ih (i+1) v' (by omega) hv'
  by_cases hp:B7 t (l.getD i 0).toNat = -2
  ·have hb:((t.getD (l.getD i 0).toNat 0:Int)==-2)=true:=zzL34.2 hp;refine next v ?_ ?_
   ·unfold Ge;simp only[B0 hil,Ah,Ao,hb];rw[Ac (F5 hil),Ac hxin,Am,w1 (by omega)]
   ·have af5:∀ w,(∀ j,j<i->B7 t (l.getD j 0).toNat≠-2->UpTo (B7 t) (l.getD j 0).toNat w)↔∀ j,j<i+1->B7 t (l.getD j 0).toNat≠-2->UpTo (B7 t) (l.getD j 0).toNat w:=λw=>by
     refine⟨λhj j hj1 hj2=>?_,λhj j hj1=>hj j (by omega)⟩
     by_cases e:j=i
     ·subst e;exact absurd hp hj2
     ·exact hj j (by omega) hj2
    rcases hv with⟨h1,h2⟩|⟨z,h1,h2,h3,h4⟩
    ·refine .inl ⟨h1,λj hj=>?_⟩
     by_cases e:j=i
     ·subst e;exact hp
     ·exact h2 j (by omega)
    ·exact .inr ⟨z,h1,h2,h3,λw=>by rw[h4 w,af5 w]⟩
  ·have hb:((t.getD (l.getD i 0).toNat 0:Int)==-2)=false:=zzL30.2 hp;rcases hv with⟨h1,h2⟩|⟨z,h1,h2,h3,h4⟩
   ·subst h1;refine next (l.getD i 0) ?_ (.inr ⟨(l.getD i 0).toNat,hxe.symm,by omega,hp,λw=>⟨λhw j hj hj2=>?_,λhw=>hw i (by omega) hp⟩⟩)
    ·unfold Ge;simp only[B0 hil,Ah,Ao,hb,Ar,show((-2:Int)==-2)=true from rfl];rw[Ac (F5 hil),Ac hxin,Am,w1 (by omega)]
    ·by_cases e:j=i
     ·subst e;exact hw
     ·exact absurd (h2 j (by omega)) hj2
   ·subst h1;have hb2:((z:Int)==-2)=false:=zzL30.2 (by omega);obtain⟨k1,hk1⟩:=h.tp hl _ z (zzL7 _) (by omega) h3;obtain⟨k2,hk2⟩:=h.tp hl _ (l.getD i 0).toNat (zzL7 _) (by omega) hp;obtain⟨c,c1,c2⟩:=QN (by omega) hk1 hk2;have hcz:=(c2 c).1 (.refl _);obtain⟨jc,_,hjc,_⟩:=hk1.on hcz.1
    have hcp:B7 t c≠-2:=by
     show t.getD c 0≠-2
     cases hjc with
     | top _ h=>omega
     | up _ h _=>omega
    refine next (c:Int) ?_ (.inr ⟨c,rfl,hjc.lt,hcp,λw=>?_⟩)
    ·rw[hxe]at c1;unfold Ge;simp only[B0 hil,Ah,Ao,hb,Ar,hb2,c1,Am];rw[Ac (F5 hil),Ac hxin,Am,w1 (by omega)]
    ·rw[c2 w,h4 w];refine⟨λ⟨a1,a2⟩ j hj hj2=>?_,λha=>⟨λj hj=>ha j (by omega),ha i (by omega) hp⟩⟩
     by_cases e:j=i
     ·subst e;exact a2
     ·exact a1 j (by omega) hj2
theorem pL(ht:t.length<=64)(hll:l.length<=64)(h:Inv S r n at_ (B7 t))(hl:t.length=n)(hin:∀ x∈l,0<=x/\x<(n:Int)) :
  ∃ v,Od t l=some v/\LC t l l.length v:=by
 obtain⟨v,h1,h2⟩:=dV ht hll h hl hin l.length 0 _ (by omega) (.inl ⟨rfl,λj hj=>absurd hj (W4 _)⟩);refine⟨v,?_,h2⟩;unfold Od;rw[show((0:Int))=(0:Nat) from rfl,h1]
 rfl
end
section
variable {L:List (List Int)} (hm:N4 L=true) {r:Nat} {P:List Nat}
include hm
theorem uI(hp:p<L.length):y∈sN L p↔CR L p y=true:=by
 rw[sZ];obtain⟨_,_,h3⟩:=mayS_iff.1 hm
 constructor
 ·intro h;obtain⟨x,hx,rfl⟩:=zzL16.1 h;have:=dY (h3 p hp) hx;rw[Mp this.1];exact hx
 ·intro h;exact zzL16.2 ⟨_,h,Ao y⟩
theorem Zn(hy:y<L.length){x:Int}:x∈(Co L).getD y []↔∃ p:Nat,x=(p:Int)/\p<L.length/\y∈sN L p:=by
 rw[Zm hy];unfold Lc;rw[UZ]
 constructor
 ·rintro⟨k,h1,h2,h3⟩;exact⟨k,h1,h2,(uI hm h2).2 h3⟩
 ·rintro⟨k,h1,h2,h3⟩;exact⟨k,h1,h2,(uI hm h2).1 h3⟩
theorem dU(o:Ordered (sN L) r L.length P)(h:Ready (sN L) r L.length P t i)(hi:i<P.length) :
  Od t ((Co L).getD (P.getD i 0) [])=some (Rg (sN L) L.length t (P.getD i 0):Int):=by
 obtain⟨hL1,ai9,_⟩:=mayS_iff.1 hm;have hyn:P.getD i 0<L.length:=o.lt (Mo _ (Y7 hi))
 have IT:((Co L).getD (P.getD i 0) []).length<=64:=by
  rw[Zm hyn];have:=BW L L.length (P.getD i 0);omega
 obtain⟨v,h1,h2⟩:=pL (by rw[h.len];exact ai9) IT h.inv h.len λx hx=>by
  obtain⟨p,rfl,hp,_⟩:=(Zn hm hyn).1 hx;omega
 rw[h1];have hb:=h.best o hi
 have mem:∀ p,p<L.length->P.getD i 0∈sN L p->∃ j,j<((Co L).getD (P.getD i 0) []).length/\(((Co L).getD (P.getD i 0) []).getD j 0).toNat=p:=λp hp hy=>by
  obtain⟨j,hj,e⟩:=H8 ((Zn hm hyn).2 ⟨p,rfl,hp,hy⟩);exact⟨j,hj,by rw[Ad _ _ _ hj,e,Ao]⟩
 have mem':∀ j,j<((Co L).getD (P.getD i 0) []).length->(((Co L).getD (P.getD i 0) []).getD j 0).toNat<L.length/\P.getD i 0∈sN L (((Co L).getD (P.getD i 0) []).getD j 0).toNat:=λj hj=>by
  obtain⟨p,e,hp,hy⟩:=(Zn hm hyn).1 (Ag (d:=(0:Int)) hj);rw[e,Ao];exact⟨hp,hy⟩
 rcases h2 with⟨rfl,h3⟩|⟨z,rfl,hz,hz2,h4⟩
 ·obtain⟨p,hp,hyp,hp2,_⟩:=hb.fwd;obtain⟨j,hj,e⟩:=mem p hp hyp;exact absurd (by rw[<- e];exact h3 j hj) hp2
 ·have hbest:jE (sN L) L.length (B7 t) (P.getD i 0) z:=λw=>by
   rw[h4 w];refine⟨λha p hp hyp hp2=>?_,λha j hj hj2=>?_⟩
   ·obtain⟨j,hj,e⟩:=mem p hp hyp;have:=ha j hj (by rw[e];exact hp2);rwa[e]at this
   ·grind
  rw[h.best_eq o hi (by rw[<- h.len];exact hz) hz2 hbest]
end
theorem gx(h:i<P.length):(Yw P).getD i 0=((P.getD i 0:Nat):Int):=by
 unfold Yw;rw[Ad _ _ _ (by simpa using h),Ad _ _ _ h,List.getElem_map]
 rfl
theorem iV(hx:x<t.length)(h:t.getD x 0=v):t.set x v=t:=by
 subst h;rw[Ad _ _ _ hx];exact List.set_getElem_self hx
section
variable {L:List (List Int)} (hm:N4 L=true) {r:Nat} {P:List Nat} (o:Ordered (sN L) r L.length P)
include hm o
theorem kz(h:Ready (sN L) r L.length P t0 0):∀(k i:Nat) (b:Bool),i+k=P.length->
  ∃ b',Ae (Fm (La L) (Yw (r::P))) (b,(i:Int),EH (sN L) L.length P t0 i)=some (b',EH (sN L) L.length P t0 P.length) /\
   (b'=false↔b=false/\∀ j,i<=j->j<P.length->B7 (EH (sN L) L.length P t0 j) (P.getD j 0)=(Rg (sN L) L.length (EH (sN L) L.length P t0 j) (P.getD j 0):Int)):=by
 have hP64:P.length<=64:=by
  have h1:=T4 L.length (r::P) o.nodup λx hx=>o.lt hx;have h2:=(mayS_iff.1 hm).2.1;simp at h1;omega
 have hdl:(Yw (r::P)).drop (1:Int).toNat=Yw P:=rfl
 have IT:(Yw P).length=P.length:=by simp[Yw]
 intro k
 induction k with
 | zero=>
  intro i b hi
  obtain rfl:i=P.length:=by omega
  refine⟨b,An ?_,λh=>⟨h,λj h1 h2=>by omega⟩,λh=>h.1⟩;unfold Fm;simp only[hdl,IT,Cy,Ar]
 | succ k ih=>
  intro i b hi
  have hil:i<P.length:=by omega
  have rd:=h.round o i (by omega);have hma:=dU hm o rd hil;have hyn:P.getD i 0<L.length:=o.lt (Mo _ (Y7 hil))
  have hyt:P.getD i 0<(EH (sN L) L.length P t0 i).length:=by rw[rd.len];exact hyn
  have ak2:(La L).Pred=Co L:=rfl
  by_cases he:B7 (EH (sN L) L.length P t0 i) (P.getD i 0)=(Rg (sN L) L.length (EH (sN L) L.length P t0 i) (P.getD i 0):Int)
  ·have hb:((Rg (sN L) L.length (EH (sN L) L.length P t0 i) (P.getD i 0):Int)!=(EH (sN L) L.length P t0 i).getD (P.getD i 0) 0)=false:=by
    have:(EH (sN L) L.length P t0 i).getD (P.getD i 0) 0=_:=he;rw[this];simp
   have hnx:EH (sN L) L.length P t0 (i+1)=EH (sN L) L.length P t0 i:=iV hyt he
   have hs:Fm (La L) (Yw (r::P)) (b,(i:Int),EH (sN L) L.length P t0 i)=some (.next (b,((i+1:Nat):Int),EH (sN L) L.length P t0 (i+1))):=by
    unfold Fm;simp only[hdl,IT,B0 hil,Ah,Ao,gx hil,ak2,hma,Am,hb,Ar];rw[Ac (F5 hil),Ac (F5 (by rw[Rj];exact hyn)),Ac (F5 hyt),Am,w1 (by omega),hnx]
   obtain⟨b',e1,e2⟩:=ih (i+1) b (by omega);refine⟨b',by rw[Ap hs,e1],λh=>?_,λ⟨h1,h2⟩=>e2.2 ⟨h1,λj hj=>h2 j (by omega)⟩⟩;obtain⟨h1,h2⟩:=e2.1 h;refine⟨h1,λj hj1 hj2=>?_⟩
   by_cases e:j=i
   ·subst e;exact he
   ·exact h2 j (by omega) hj2
  ·have hb:((Rg (sN L) L.length (EH (sN L) L.length P t0 i) (P.getD i 0):Int)!=(EH (sN L) L.length P t0 i).getD (P.getD i 0) 0)=true:=by
    rw[zzL65];exact λe=>he e.symm
   have hs:Fm (La L) (Yw (r::P)) (b,(i:Int),EH (sN L) L.length P t0 i)=some (.next (true,((i+1:Nat):Int),EH (sN L) L.length P t0 (i+1))):=by
    unfold Fm;simp only[hdl,IT,B0 hil,Ah,Ao,gx hil,ak2,hma,Am,hb];rw[Ac (F5 hil),Ac (F5 (by rw[Rj];exact hyn)),Ac (F5 hyt),Ac (F5 hyt),Am,w1 (by omega)]
    rfl
   obtain⟨b',e1,e2⟩:=ih (i+1) true (by omega);refine⟨b',by rw[Ap hs,e1],λh=>?_,λ⟨h1,h2⟩=>absurd (h2 i (zzL7 _) hil) he⟩;obtain⟨h1,_⟩:=e2.1 h;cases h1
theorem pt(h:Ready (sN L) r L.length P t0 0):∃ b,Ae (Fm (La L) (Yw (r::P))) (false,(0:Int),t0)=some (b,EH (sN L) L.length P t0 P.length)/\(b=false↔ES (sN L) L.length P t0):=by
 obtain⟨b,e1,e2⟩:=kz hm o h P.length 0 _ (by omega);refine⟨b,e1,e2.trans ⟨λ⟨_,h2⟩=>?_,λhs=>⟨rfl,λj _ hj=>?_⟩⟩⟩
 ·have key:∀ j,j<=P.length->EH (sN L) L.length P t0 j=t0:=by
   intro j
   induction j with
   | zero=>intro _;rfl
   | succ j ih=>
    intro hj;have ih':=ih (by omega);have rd:=h.round o j (by omega)
    have hyn:P.getD j 0<(EH (sN L) L.length P t0 j).length:=by rw[rd.len];exact o.lt (Mo _ (Y7 (by omega)))
    have:EH _ _ P t0 (j+1)=EH _ _ P t0 j:=iV hyn (h2 j (DD _) (by omega));rw[this,ih']
  intro i hi;have:=h2 i (DD _) hi;rwa[key i (by omega)]at this
 ·rw[GJ o h.len hs j (by omega)];exact hs j hj
open Classical in
theorem nY(j:Nat):Ik (La L) (Yw (r::P),ZG (sN L) L.length P (Kc L.length r) j)=some (if ES (sN L) L.length P (ZG (sN L) L.length P (Kc L.length r) j) then .done (ZG (sN L) L.length P (Kc L.length r) (j+1)) else .next (Yw (r::P),ZG (sN L) L.length P (Kc L.length r) (j+1))):=by
 obtain⟨b,e1,e2⟩:=pt hm o (Ready.rounds o j);have hL2:Yc (La L) (Yw (r::P))=Fm (La L) (Yw (r::P)):=rfl
 have IT:(0:Int)<=1/\(1:Int)<=((Yw (r::P)).length:Int):=by simp[Yw];omega
 unfold Ik;simp only[hL2,e1,Am];rw[Ac IT]
 cases b with
 | false=>rw[if_pos (e2.1 rfl)];rfl
 | true=>rw[if_neg (λh=>by have:=e2.2 h;cases this)];rfl
theorem ic:∃ J,ES (sN L) L.length P (ZG (sN L) L.length P (Kc L.length r) J)/\Ae (Ik (La L)) (Yw (r::P),Kc L.length r)=some (ZG (sN L) L.length P (Kc L.length r) J):=by
 obtain⟨J,h1,h2⟩:=zT o;refine⟨J,h2,?_⟩
 have key:∀ d j,j+d=J->Ae (Ik (La L)) (Yw (r::P),ZG (sN L) L.length P (Kc L.length r) j)=some (ZG (sN L) L.length P (Kc L.length r) J):=by
  intro d
  induction d with
  | zero=>
   intro j hj
   obtain rfl:j=J:=by omega
   have hF:=nY hm o j;rw[if_pos h2]at hF;rw[An hF];have:ZG _ _ P _ (j+1)=ZG _ _ P _ j:=GJ o (Ready.rounds o j).len h2 _ (zzL7 _);rw[this]
  | succ d ih=>
   intro j hj;have hF:=nY hm o j;rw[if_neg (h1 j (by omega))]at hF;rw[Ap hF];exact ih _ (by omega)
 exact key J 0 (by omega)
end
theorem Abp(g:If)(r:Int)(h1:Fits g.Succ)(h2:Fits g.Pred):Wc g r=some (RC g r):=by
 unfold RC
 by_cases hc:IL g=true/\0<=r/\r<g.Succ.length
 ·rw[if_pos hc];obtain⟨hG,h0,hlt⟩:=hc;obtain⟨hm,hg⟩:=mu hG;obtain⟨hL1,ai9,_⟩:=mayS_iff.1 hm
  have hr:r.toNat<g.Succ.length:=by omega
  obtain⟨O,hO⟩:=Ord.exist (Ws hm) hr;have hord:=(dT g h1 trivial r).1 hG h0 hlt O hO;obtain⟨P,rfl,o⟩:=hO.ordered hr (Ws hm);obtain⟨J,hJ,hl⟩:=ic hm o;have ht:=(RB o hJ).eq hm hr o;rw[ht]at hl;have IT:(((Yw (r.toNat::P)).length:Int)==0)=false:=zzL30.2 (by simp[Yw];omega)
  have af8:(0:Int)<=1/\(1:Int)<=(Yw (r.toNat::P)).length:=by simp[Yw];omega
  have hL2:Yc g _=Fm g (Yw (r.toNat::P)):=rfl
  have hst:(U8 (Ik g (Yw (r.toNat::P),Kc g.Succ.length r.toNat)) (Ik g))=some (DB g.Succ r.toNat):=by
   rw[QZ,hg];exact hl
  unfold Wc;rw[hord,Am,  sv hL1 ai9,Am,Ac (Aeh h0 (by simpa using hlt)),Ac af8]
  have:(Ik g (Yw (r.toNat::P),Kc g.Succ.length r.toNat))=(Ae (Fm g (Yw (r.toNat::P))) (false,0,(List.replicate g.Succ.length (-2)).set r.toNat (-1))).bind (λx22=>(match x22 with|(b10,l11)=>(bif b10 then(some (.next (Yw (r.toNat::P),l11))) else(some (.done l11))))):=by
   unfold Ik Kc;simp only[hL2];rw[Ac af8]
  rw[this]at hst;refine Eq.trans ?_ (Bw (λx =>x.bind λx42=>some x42) hst)
  rfl
 ·rw[if_neg hc];unfold Wc
  have:(IL g&&(decide (0<=r)&&decide (r<g.Succ.length)))=false:=by
   grind
  rw[(dT g h1 trivial r).2 this]
  rfl
theorem Aaz(l:List α)(d:α)(p:α->Bool)(f:Int->Option (LR Int X))(yes no:X)(hl:l.length<9223372036854775808)(hk:∀ i:Nat,i<l.length->f i=some (bif p (l.getD i d) then .next (w64 ((i:Int)+1)) else .done no))
  (he:f l.length=some (.done yes)):Ae f (0:Int)=some (bif l.all p then yes else no):=by
 have:=Hx l d p f yes no (λi hi hp=>by rw[hk i hi,hp,Ah,Bd hi hl]) (λi hi hp=>by grind) he l.length 0 (by omega);rwa[Rz]at this
theorem Abc(f:AI)(hf:ZJ f)(l:Int)(t:List Int)(u:List Bo):Ln f l t u=some (bif R6 f then 0 else 4,f,l,t,u):=by
 unfold Ln O7;rw[Ae9 f hf]
 cases R6 f<;>rfl
theorem o5(phis:List A8)(l:List Int)(h1:phis.length<9223372036854775808)(h2:l.length<4611686018427387904):Qz phis l=some (phis.all (Ju l)):=by
 unfold Qz
 rw[Aaz _ _ (Ju l) _ (.inl ()) _ h1 (λi hi=>by
  unfold Ri
  have hd:decide ((i:Int)<phis.length)=true:=by simpa using hi
  simp only[hd, Aa (Ai hi),Dn,SR _ _ h2, Ju]
  cases decide ((phis.getD i _).From=l) with
  | false=>rfl
  | true=>
   grind) (by unfold Ri;simp)]
 cases phis.all _<;>rfl
def jj(e:Ny):Bool:=!((e.Kind==1 || e.Kind==3)&&(e.Arg !=0))
theorem om(e:Ny)(hk:Nz e n=true):Qy e=some (jj e):=by
 have h4 :=by
  have:=(Az _ _▸hk).1;unfold CS at this;simp only[Az,Hs]at this;omega
 unfold Qy jj
 have:e.Kind=0\/e.Kind=1\/e.Kind=2\/e.Kind=3:=by omega
 rcases this with h|h|h|h<;>rw[h]<;>cases hb:(e.Arg==0)<;>simp[hb,bne]
theorem ke(hm:N4 L=true)(h0:0<L.length)(o:Ord (sN L) 0 P):decide (P.length<L.length) = !(List.range L.length).all λi=>(Tb L).getD i false:=by
 have hin:∀ x∈P,x<L.length:=λx hx=>(by obtain⟨Q,rfl,oo⟩:=o.ordered h0 (Ws hm);exact oo.lt hx)
 have hr:∀ z,(Tb L).getD z _=true↔z∈P:=λz=>by
  rw[o.mem z];exact GC (Ws hm) h0 z
 cases ha:(List.range _).all _ with
 | true=>
  have:=((List.perm_ext_iff_of_nodup o.nodup List.nodup_range).2 λi=>⟨λh=>zzL41.2 (hin i h),λh=>(hr i).1 (zzL21.1 ha i h)⟩).length_eq;rw[Tf]at this
  simp;omega
 | false=>
  obtain⟨i,hi,hni⟩:∃ i,i<L.length/\i∉P:=GP λhc=>by
   grind
  have :=T4 L.length _ (zzL108.2 ⟨hni,o.nodup⟩) (λx hx=>by grind);simp at this ⊢;omega
theorem sC(hf:OkF f)(l:Int)(t:List Int)(u:List Bo):∃ t',Jx f l t u=some (bif Eg f then 0 else 5,f,l,t',u)/\(Eg f=true->t'=Cu f):=by
 have Is:f.Blocks.length<=maxLen:=by
  have:=hf.blocks;have:(64:Nat)<=maxLen:=by decide
  omega
 unfold Jx;rw[Aem f Is,Am]
 cases hs:Nt f with
 | false=>exact⟨t,by unfold Eg;rw[hs];rfl,λh=>by unfold Eg at h;rw[hs]at h;cases h⟩
 | true=>
  have hm:=Ey hs;have IT:=Hc f
  have ae6:0<(Bf f).length:=by have:=(shape_iff.1 hs).1.1;omega
  obtain⟨h1,h2⟩:=LT hm;obtain⟨P,hP⟩:=Ord.exist (Ws hm) ae6;have ho:=(dT (La (Bf f)) h1 trivial 0).1 (UY hm) (by omega) (by show(0:Int)<((Bf f).length:Int);omega) P hP;have hfull:=ke hm ae6 hP;simp only[Ah, show((0:Int)!=0)=false from rfl,Ar,ho,Am,show(false==false)=true from rfl]
  have e1:decide (((Yw P).length:Int)<(f.Blocks.length:Int))=decide (P.length<(Bf f).length):=by
   rw[IT];apply zzL83.2;simp[Yw]
  rw[e1,hfull]
  have hsd:Eg f=(((List.range f.Blocks.length).all λi=>(Tb (Bf f)).getD i false)&&(List.range f.Blocks.length).all λi=>jj (f.Blocks.getD i default).End&&(f.Blocks.getD i default).Phis.all (Ju ((Co (Bf f)).getD i []))):=by
   unfold Eg;rw[hs,Kd]
   have:∀(n:Nat) (p q:Nat->Bool),((List.range n).all λi=>p i&&q i)=((List.range n).all p&&(List.range n).all q):=λn p q=>by
    grind
   rw[<- this]
   congr 1
   funext i
   show(_&&_&&_)=_
   rw[Bool.and_assoc]
   rfl
  rw[IT];rw[hsd]
  cases hr:(List.range f.Blocks.length).all _ with
  | false=>exact⟨t,rfl,λh=>by cases h⟩
  | true=>
   refine⟨Cu f,?_,λ_=>rfl⟩;rw[D3,Ar,Abp _ 0 h1 h2,Am,Kd];have hp:=Vv hm
   have hpl:(La (Bf f)).Pred.length=f.Blocks.length:=by rw[<- IT];exact Rj _
   have key:Ae (Dv f l u (La (Bf f),0) (Cu f)) (0:Int)=some (bif (List.range f.Blocks.length).all (λi=>jj (f.Blocks.getD i default).End&&(f.Blocks.getD i default).Phis.all (Ju ((Co (Bf f)).getD i []))) then .inl () else .inr ((5:Int),f,l,Cu f,u)):=by
    have hk:∀ i:Nat,i<f.Blocks.length->Dv f l u (La (Bf f),0) (Cu f) (i:Int)=some (bif (jj (f.Blocks.getD i default).End&&(f.Blocks.getD i default).Phis.all (Ju ((Co (Bf f)).getD i []))) then .next ((i:Int)+1) else .done (.inr ((5:Int),f,l,Cu f,u))):=λi hi=>by
     have hB:=hf.block _ (Ag (d:=(default:Ab)) hi);have hpi:As (i:Int) (La (Bf f)).Pred.length:=Ai (by omega);have hpg:((La (Bf f)).Pred.getD i []).length<=64:=hp.2 _ (Ag (by rw[Rj];omega));unfold Dv
     have hd:decide ((i:Int)<(f.Blocks.length:Int))=true:=by simpa using hi
     simp only[hd,Ah,Aa (Ai hi),Aa hpi,Dn,o5 (f.Blocks.getD i default).Phis ((La (Bf f)).Pred.getD i []) (by have:=hB.phis;omega) (by omega),Am];have ha :=om (n:=f.Blocks.length) (f.Blocks.getD i default).End ((shape_iff.1 hs).2 i hi);rw[ha,Bd hi (by have:=hf.blocks;omega)]
     show _=some (bif (jj (f.Blocks.getD i default).End&&(f.Blocks.getD i default).Phis.all (Ju ((La (Bf f)).Pred.getD i []))) then _ else _)
     cases(f.Blocks.getD i default).Phis.all _<;>cases jj (f.Blocks.getD i default).End<;>rfl
    exact OA _ _ _ _ _ (λi hi hp=>by rw[hk i hi,hp];rfl) (λi hi hp=>by rw[hk i hi,hp];rfl) (by unfold Dv;simp)
   show((Ae (Dv f l u (La (Bf f),0) (Cu f)) (0:Int)).bind _)=_
   rw[key,Am]
   cases(List.range f.Blocks.length).all _<;>rfl
theorem Aa6(o:A0)(l:Int)(h0:0<=l)(h2:l<=2)(hk:Dp o=true):Vp o l=some (!decide (Xk l<o.Kind)&&!(decide (l<2)&&decide (1<o.Lanes))):=by
 have hl:=sj hk
 have hK :=by
  simp only[Dp,Az]at hk;have:=hk.1.2.1.1.1;unfold SQ at this;simp only[Az,Hs]at this;omega
 unfold Vp Xk
 have:l=0\/l=1\/l=2:=by omega
 rcases this with rfl|rfl|rfl
 ·have ha:decide (o.Kind<=17) = !decide (17<o.Kind):=by grind
  have hb:(o.Lanes==1) = !decide (1<o.Lanes):=by grind
  show some _=some (!decide (17<o.Kind)&&!(true&&decide _))
  rw[ha,hb]
  cases decide (17<o.Kind)<;>cases decide (1<o.Lanes)<;>rfl
 ·have ha:decide (o.Kind<=20) = !decide (20<o.Kind):=by grind
  have hb:(o.Lanes==1) = !decide (1<o.Lanes):=by grind
  show some _=some (!decide (20<o.Kind)&&!(true&&decide _))
  rw[ha,hb]
  cases decide (20<o.Kind)<;>cases decide (1<o.Lanes)<;>rfl
 ·grind
theorem oz(o:A0)(ho:fD o)(f:AI)(l:Int)(h0:0<=l)(h2:l<=2)(t:List Int)(u:List Bo):I5 o f l t u=some (Cn l o,f,l,t,u):=by
 unfold I5 Cn;rw[UK o ho,Am]
 cases hk:Dp o with
 | false=>rfl
 | true=>
  rw[show(true==true)=true from rfl,Ah,Aa6 o l h0 h2 hk,Am,Ah,Kd]
theorem w6(b:Ab)(hf:OkF f)(hb:b∈f.Blocks)(l:Int)(h0:0<=l)(h2:l<=2)(t:List Int)(u:List Bo):Ni b.Ops f l t u=some (b.Ops.all (Cn l),f,l,t,u):=by
 have hB:=hf.block b hb
 have key:∀ k i ,i+k=b.Ops.length->Ae (Hy b.Ops) (i,f.Params,f.Ret,f.Blocks,l,t,u)=some (bif (b.Ops.drop i).all (Cn l) then .inl (f.Params,f.Ret,f.Blocks,l,t,u) else .inr (false,f,l,t,u)):=by
  intro k
  induction k with
  | zero=>
   intro i h
   obtain rfl:i=b.Ops.length:=by omega
   rw[An (x:=.inl (f.Params,f.Ret,f.Blocks,l,t,u)) (by unfold Hy;simp)]
   simp
  | succ k ih=>
   intro i h
   have hi:i<b.Ops.length:=by omega
   have hd:decide (i<(b.Ops.length:Int))=true:=by simpa using hi
   have hdr:b.Ops.drop i=b.Ops.getD i default::b.Ops.drop (i+1):=by simp_all
   have hx:=oz (b.Ops.getD i default) (pZ hf hb (Ag hi)) f l h0 h2 t u;rw[hdr,GT]
   cases ho:Cn l _ with
   | true=>
    rw[ho]at hx
    rw[Ap (s':=(((i+1:Nat):Int),f.Params,f.Ret,f.Blocks,l,t,u)) (by
     unfold Hy;simp only[hd, Aa (Ai hi),Dn,hx,   Bd hi (by have:=hB.ops;omega)]
     rfl),ih _ (by omega),Kd]
   | false=>
    rw[ho]at hx
    rw[An (x:=.inr (false,f,l,t,u)) (by
     unfold Hy
     simp only[hd,Ah,Aa (Ai hi),Dn,hx,Am,Mq])]
    rfl
 unfold Ni;rw[show(0:Int)=(0:Nat) from rfl,key b.Ops.length 0 (by omega),Rz]
 cases b.Ops.all _<;>rfl
theorem ru(b:Ab)(h:b.Phis.length<9223372036854775808):Mu b.Phis=some (b.Phis.all λp=>widthB p.Bits):=by
 unfold Mu
 rw[Aaz _ _ (λp=>widthB _) _ (.inl ()) _ h (λi hi=>by
  unfold Nj Tz
  have hd:decide (i<(b.Phis.length:Int))=true:=by simpa using hi
  simp only[hd, Aa (Ai hi),Dn,Zz]
  cases widthB _<;>rfl) (by unfold Nj;simp)]
 cases b.Phis.all _<;>rfl
theorem rq(p:List Int)(h:p.length<9223372036854775808):Qx p=some (p.all widthB):=by
 unfold Qx
 rw[Aaz p 0 widthB _ (.inl ()) _ h (λi hi=>by
  unfold Rh
  have hd:decide (i<(p.length:Int))=true:=by simpa using hi
  simp only[hd, Aa (Ai hi),Dn,Zz]
  cases widthB _<;>rfl) (by unfold Rh;simp)]
 cases p.all _<;>rfl
theorem dC(b:Ab)(hf:OkF f)(hb:b∈f.Blocks)(l:Int)(h0:0<=l)(h2:l<=2)(t:List Int)(u:List Bo):G1 b f l t u=some (G0 l b,f,l,t,u):=by
 unfold G1 G0;rw[ru b (by have:=(hf.block b hb).phis;omega), w6 b hf hb l h0 h2 t u]
 cases(b.Phis.all _)<;>rfl
theorem xE(hf:OkF f)(l:Int)(h0:0<=l)(h2:l<=2)(t:List Int)(u:List Bo):Kt f l t u=some (bif Rk f l then 0 else 6,f,l,t,u):=by
 have key:∀ k i ,i+k=f.Blocks.length->Ae (Fl f.Blocks) (i,f.Params,f.Ret,f.Blocks,l,t,u)=some (bif (f.Blocks.drop i).all (G0 l) then .inl (f.Params,f.Ret,f.Blocks,l,t,u) else .inr (false,f,l,t,u)):=by
  intro k
  induction k with
  | zero=>
   intro i h
   obtain rfl:i=f.Blocks.length:=by omega
   rw[An (x:=.inl (f.Params,f.Ret,f.Blocks,l,t,u)) (by unfold Fl;simp)]
   simp
  | succ k ih=>
   intro i h
   have hi:i<f.Blocks.length:=by omega
   have hd:decide ((i:Int)<f.Blocks.length)=true:=by simpa using hi
   have hdr:f.Blocks.drop i=f.Blocks.getD i default::f.Blocks.drop (i+1):=by simp_all
   have hx:=dC (f.Blocks.getD i default) hf (Ag hi) l h0 h2 t u;rw[hdr,GT]
   cases ho:G0 l _ with
   | true=>
    rw[ho]at hx
    rw[Ap (s':=(((i+1:Nat):Int),f.Params,f.Ret,f.Blocks,l,t,u)) (by
     unfold Fl;simp only[hd, Aa (Ai hi),Dn,hx,   Bd hi (by have:=hf.blocks;omega)]
     rfl),ih _ (by omega),Kd]
   | false=>
    rw[ho]at hx
    rw[An (x:=.inr (false,f,l,t,u)) (by
     unfold Fl
     simp only[hd,Ah,Aa (Ai hi),Dn,hx,Am,Mq])]
    rfl
 have ac3:Ks f.Blocks f l t u=some (f.Blocks.all (G0 l),f,l,t,u):=by
  unfold Ks;rw[show(0:Int)=(0:Nat) from rfl,key f.Blocks.length 0 (by omega),Rz]
  cases f.Blocks.all _<;>rfl
 unfold Kt Rk O7;rw[rq _ (by have:=hf.few;omega), ac3,Zz]
 cases f.Params.all _<;>cases widthB f.Ret<;>cases f.Blocks.all _<;>rfl
def zE(d:TDef):Sd:=bif decide (d.Block<0) then⟨0,-1⟩ else⟨d.Block,d.At⟩
def XA(d:TDef):A6:=⟨d.Shape,zE d⟩
def dv(l:List TDef):List (Int×A6):=l.map λd=>(d.V,XA d)
def ZU(acc:List (Int×A6))(v:Int):Bool:=(Lb acc v || decide (v<1)) || decide (1023<v)
def Mm:List (Int×A6)->List TDef->Bool×List (Int×A6)
 | acc,[]=>(true,acc)
 | acc,d::ds=>bif ZU acc d.V then(false,acc) else Mm (Qb acc d.V (XA d)) ds
theorem NR:∀(a b:List TDef) (acc:List (Int×A6)),Mm acc (a++b)=bif (Mm acc a).1 then Mm (Mm acc a).2 b else Mm acc a
 | [],b,acc=>rfl
 | d::a,b,acc=>by
  rw[KN];simp only[Mm]
  cases ZU acc d.V with
  | true=>rfl
  | false =>  exact NR a b _
theorem VA{V:Type}(k:Int):∀ l:List (Int×V),Lb l k=l.any λq=>k==q.1
 | []=>rfl
 | (a,b)::l=>by rw[List.any_cons,<- VA k l];rfl
theorem OE{V:Type}(k:Int)(v:V):∀{l:List (Int×V)},Lb l k=false->Qb l k v=l++[(k,v)]
 | [],_=>rfl
 | (a,b)::l,h=>by
  simp only[Lb,eG]at h;simp only[Qb,h.1,Ar,OE k v h.2,KN]
theorem fh(v:Int)(s:Int×Int)(p:Sd)(f:AI)(l:Int)(t:List Int)(vs:List (Int×A6))(u:List Bo) :
  G2 v s p f l t vs u=some (bif ZU vs v then(false,f,l,t,u,vs) else(true,f,l,t,u,Qb vs v ⟨s,p⟩)):=by
 unfold G2 ZU
 cases Lb vs v<;>cases decide (v<1)<;>cases decide (1023<v)<;>rfl
def yS(f:AI)(l:Int)(t:List Int)(u:List Bo)(r:Bool×List (Int×A6)):(List Int×Int×List Ab×Int×List Int×List Bo×List (Int×A6)) ⊕ (Bool×AI×Int×List Int×List Bo×List (Int×A6)):=
 bif r.1 then .inl (f.Params,f.Ret,f.Blocks,l,t,u,r.2) else .inr (false,f,l,t,u,r.2)
theorem Aba(b:Ab)(h:b.Phis.length<9223372036854775808)(i:Nat)(f:AI)(l:Int)(t:List Int)(u:List Bo):∀(k j:Nat) (vs:List (Int×A6)),j+k=b.Phis.length->
  Ae (D0 (i:Int) b) ((j:Int),f.Params,f.Ret,f.Blocks,l,t,u,vs)=some (yS f l t u (Mm vs ((List.range' j k).flatMap λ(k:Nat)=>[(⟨(b.Phis.getD k default).Dst,i,-1,((b.Phis.getD k default).Bits,1)⟩:TDef)]))):=by
 intro k
 induction k with
 | zero=>
  intro j vs hj
  obtain rfl:j=b.Phis.length:=by omega
  rw[An (x:=.inl (f.Params,f.Ret,f.Blocks,l,t,u,vs)) (by unfold D0;simp)]
  rfl
 | succ k ih=>
  intro j vs hj
  have hi:j<b.Phis.length:=by omega
  have hd:decide (j<(b.Phis.length:Int))=true:=by simpa using hi
  have hx:=fh (b.Phis.getD j default).Dst ((b.Phis.getD j default).Bits,1) ⟨(i:Int),-1⟩ f l t vs u
  have hat:zE ⟨(b.Phis.getD j default).Dst,i,-1,((b.Phis.getD j default).Bits,1)⟩=⟨i,-1⟩:=by   rfl
  rw[GQ,KL,List.singleton_append];simp only[Mm]
  cases hb:ZU vs _ with
  | true=>
   rw[hb]at hx
   rw[An  (by
    unfold D0 Et;simp only[hd, Aa (Ai hi),Dn,Am];rw[ hx]
    rfl)]
   rfl
  | false=>
   rw[hb]at hx
   rw[Ap (s':=(((j+1:Nat):Int),f.Params,f.Ret,f.Blocks,l,t,u,Qb vs _ _)) (by
    unfold D0 Et;simp only[hd, Aa (Ai hi),Dn,Am];rw[ hx,Bd hi h]
    rfl),ih _ _ (by omega)]
   unfold XA
   rfl
theorem Aeb{f0:AI}(hf:OkF f0)(hb:b∈f0.Blocks)(i:Nat)(f:AI)(l:Int)(t:List Int)(u:List Bo):∀(k j:Nat) (vs:List (Int×A6)),j+k=b.Ops.length->
  Ae (Cz (i:Int) b) ((j:Int),f.Params,f.Ret,f.Blocks,l,t,u,vs)=some (yS f l t u (Mm vs ((List.range' j k).flatMap λ(k:Nat)=>bif decide (0<(Bn (b.Ops.getD k default)).1) then[(⟨(b.Ops.getD k default).Dst,i,k,Bn (b.Ops.getD k default)⟩:TDef)] else[]))):=by
 have hB:=hf.block b hb;intro k
 induction k with
 | zero=>
  intro j vs hj
  obtain rfl:j=b.Ops.length:=by omega
  rw[An (x:=.inl (f.Params,f.Ret,f.Blocks,l,t,u,vs)) (by unfold Cz;simp)]
  rfl
 | succ k ih=>
  intro j vs hj
  have hi:j<b.Ops.length:=by omega
  have hd:decide ((j:Int)<(b.Ops.length:Int))=true:=by simpa using hi
  have hg:Sw _=some (Bn (b.Ops.getD j default)):=kH _ (pZ hf hb (Ag hi));have hx:=fh (b.Ops.getD j default).Dst (Bn (b.Ops.getD j default)) (⟨(i:Int),(j:Int)⟩:Sd) f l t vs u
  have hat:zE (⟨(b.Ops.getD j default).Dst,i,j,Bn (b.Ops.getD j default)⟩:TDef)=⟨(i:Int),(j:Int)⟩:=by unfold zE; rfl
  rw[GQ,KL]
  cases hp:decide (0<(Bn _).1) with
  | false=>
   rw[Ar,Vi,<- ih (j+1) vs (by omega),Ap (s':=(((j+1:Nat):Int),f.Params,f.Ret,f.Blocks,l,t,u,vs)) (by
    unfold Cz;simp only[hd,Ah,Aa (Ai hi),Dn,hg,Am,hp];rw[Bd hi (by have:=hB.ops;omega)]
    rfl)]
  | true=>
   rw[Ah,List.singleton_append];simp only[Mm]
   cases hb:ZU vs _ with
   | true=>
    rw[hb]at hx
    rw[An  (by
     unfold Cz;simp only[hd,Ah,Aa (Ai hi),Dn,hg,Am,hp];rw[show(true==true)=true from rfl,Ah, hx]
     rfl)]
    rfl
   | false=>
    rw[hb]at hx
    rw[Ap (s':=(((j+1:Nat):Int),f.Params,f.Ret,f.Blocks,l,t,u,Qb vs _ _)) (by
     unfold Cz;simp only[hd,Ah,Aa (Ai hi),Dn,hg,Am,hp];rw[show(true==true)=true from rfl,Ah, hx,Bd hi (by have:=hB.ops;omega)]
     rfl),ih (j+1) _ (by omega)]
    unfold XA
    rfl
theorem fi(hf:OkF f)(hb:b∈f.Blocks)(i:Nat)(l:Int)(t:List Int)(u:List Bo)(vs:List (Int×A6)) :
  Ht (i:Int) b f l t vs u=some ((Mm vs (Si b i)).1,f,l,t,u,(Mm vs (Si b i)).2):=by
 unfold Ht Si;rw[show 0=((0:Nat):Int) from rfl,Aba b (by have:=(hf.block b hb).phis;omega) i f l t u b.Phis.length 0 vs (by omega),Am,NR];rw[show(List.range' 0 _).flatMap _=Sk b i by rw[Sk,Rx]];unfold yS
 cases h1:(Mm vs _).1 with
 | false=>grind
 | true=>
  simp only[Ah];rw[Aeb hf hb i f l t u b.Ops.length 0 _ (by omega)];rw[show(List.range' 0 _).flatMap _=X9 b i by rw[X9,Rx]];unfold yS;cases h2:(Mm _ _).1<;>rfl
theorem Zf{l:List TDef}(hi:i<l.length):Tm l i=true↔valS (l.getD i default).V=true/\∀ j,j<i->(l.getD j default).V≠(l.getD i default).V:=by
 unfold Tm;rw[Az];refine and_congr Iff.rfl ?_;unfold Mz
 cases hx:l.findIdx? _ with
 | none=>
  rw[List.findIdx?_eq_none_iff]at hx;have:=hx _ (Ag (d:=default) hi);simp at this
 | some j=>
  obtain⟨hj,h1,h2⟩:=List.findIdx?_eq_some_iff_getElem.1 hx;simp only[zzL34]
  constructor
  ·grind
  ·intro h
   have hv:(l.getD j default).V=(l.getD i default).V:=by grind
   rcases Nat.lt_trichotomy j i with hlt|rfl|hgt
   ·grind
   ·rfl
   ·grind
theorem xq(l:List TDef)(v:Int):Lb (dv l) v=l.any λd=>v==d.V:=by
 rw[VA,dv,List.any_map];rfl
theorem TT:∀(ds pre:List TDef),(Mm (dv pre) ds).1=(List.range' pre.length ds.length).all (Tm (pre++ds))/\((Mm (dv pre) ds).1=true->(Mm (dv pre) ds).2=dv (pre++ds))
 | [],pre=>by simp[Mm]
 | d::ds,pre=>by
  have hi:pre.length<(pre++d::ds).length:=by simp
  have hg:(pre++d::ds).getD pre.length default=d:=by simp[List.getD]
  have hj:∀ j,j<pre.length->(pre++d::ds).getD j default=pre.getD j default:=λj h=>by grind
  have hok:Tm (pre++d::ds) pre.length = !ZU (dv pre) d.V:=by
   rw[GS,Zf hi,hg];unfold ZU valS;rw[xq];simp only[Qr,eG,XI,List.any_eq_false,zzL34,Az,Hs]
   constructor
   ·rintro⟨⟨h1,h2⟩,h3⟩;refine⟨⟨λx hx he=>?_,by omega⟩,by omega⟩;obtain⟨j,hjl,rfl⟩:=H8 hx;have:=h3 j hjl;rw[hj j hjl,Ad _ _ _ hjl]at this;exact this he.symm
   ·grind
  rw[Ry,GQ,GT,hok];simp only[Mm]
  cases hb:ZU _ d.V with
  | true=>grind
  | false=>
   have hn :=by
    unfold ZU at hb;simp only[eG]at hb;exact hb.1.1
   have hs:Qb (dv pre) d.V (XA d)=dv (pre++[d]):=by rw[OE _ _ hn,dv,dv,AA];rfl
   have:=TT ds (pre++[d]);rw[He,Z0]at this;rw[ hs,Mq];exact this
def pv(f:AI)(n:Nat):List (Int×A6):=(List.range n).map λ(j:Nat)=>((j:Int)+1,⟨(f.Params.getD j 0,1),⟨0,-1⟩⟩)
theorem Aey(f:AI):pv f f.Params.length=dv (Sj f):=by
 unfold pv dv Sj
 induction List.range _ with
 | nil=>rfl
 | cons a l ih=>rw[Db, ih];rfl
theorem sA(hf:OkF f):∀(k i:Nat),i+k=f.Params.length->Ae (G3 f) ((i:Int),pv f i)=some (pv f f.Params.length):=by
 intro k
 induction k with
 | zero=>
  intro i h
  obtain rfl:i=f.Params.length:=by omega
  exact An (by unfold G3;simp)
 | succ k ih=>
  intro i h
  have hi:i<f.Params.length:=by omega
  have hd:decide ((i:Int)<(f.Params.length:Int))=true:=by simpa using hi
  have hn:Lb (pv f i) ((i:Int)+1)=false:=by
   rw[VA,pv,List.any_map,List.any_eq_false];intro j hj;have:=zzL41.1 hj
   simp;omega
  have hs:Qb (pv f i) ((i:Int)+1) ⟨(f.Params.getD i 0,1),⟨0,-1⟩⟩=pv f (i+1):=by
   rw[OE _ _ hn,pv,pv,JJ,AA];rfl
  rw[Ap  (by
   unfold G3 Et;simp only[hd,Ah,Aa (Ai hi),Dn,Am,Bd hi (by have:=hf.few;omega),hs]
   rfl)]
  exact ih (i+1) (by omega)
theorem rv(hf:OkF f)(l:Int)(t:List Int)(u:List Bo):∀(k i:Nat) (vs:List (Int×A6)),i+k=f.Blocks.length->
  Ae (Es f) ((i:Int),vs,f.Params,f.Ret,f.Blocks,l,t,u)=some (bif (Mm vs ((List.range' i k).flatMap λi=>Si (f.Blocks.getD i default) i)).1 then .inl ((Mm vs ((List.range' i k).flatMap λi=>Si (f.Blocks.getD i default) i)).2,f.Params,f.Ret,f.Blocks,l,t,u) else
   .inr (7,f,l,t,u,(Mm vs ((List.range' i k).flatMap λi=>Si (f.Blocks.getD i default) i)).2)):=by
 intro k
 induction k with
 | zero=>
  intro i vs h
  obtain rfl:i=f.Blocks.length:=by omega
  rw[An (x:=.inl (vs,f.Params,f.Ret,f.Blocks,l,t,u)) (by unfold Es;simp)]
  rfl
 | succ k ih=>
  intro i vs h
  have hi:i<f.Blocks.length:=by omega
  have hd:decide (i<(f.Blocks.length:Int))=true:=by simpa using hi
  have hx:=fi hf (Ag (d:=default) hi) i l t u vs;rw[GQ,KL,NR]
  cases hb:(Mm vs _).1 with
  | false=>
   rw[hb]at hx
   rw[An  (by
    unfold Es;simp only[hd, Aa (Ai hi),Dn];rw[ hx]
    rfl),Ar,hb]
   rfl
  | true=>
   rw[hb]at hx
   rw[Ap (s':=(((i+1:Nat):Int),(Mm vs _).2,f.Params,f.Ret,f.Blocks,l,t,u)) (by
    unfold Es;simp only[hd, Aa (Ai hi),Dn];rw[ hx,Bd hi (by have:=hf.blocks;omega)]
    rfl),ih _ _ (by omega),Ah]
theorem okP(hf:OkF f):∀ i,i<f.Params.length->Tm (Aw f) i=true:=λi hi=>by
 have hl:=HM f
 have hg:∀ j,j<f.Params.length->(Aw f).getD j default=⟨j+1,-1,0,(f.Params.getD j 0,1)⟩:=λj hj=>by
  have e:Sj f=(List.range f.Params.length).map λi=>⟨(i:Int)+1,-1,0,(f.Params.getD i 0,1)⟩:=by
   unfold Sj
   induction List.range _ with
   | nil=>rfl
   | cons a l ih=>grind
  rw[Aw,List.getD,W0 (by omega),e];simp[hj]
 have hle:i<(Aw f).length:=by rw[Aw,He];omega
 rw[Zf hle,hg i hi];refine⟨?_,λj hj=>?_⟩
 ·have:=hf.few;simp only[valS,Az,Hs];omega
 ·grind
theorem ou(hf:OkF f)(l:Int)(t:List Int)(u:List Bo):∃ vs,Iz f l t u=some (bif (List.range (Aw f).length).all (Tm (Aw f)) then 0 else 7,f,l,t,u,vs)/\((List.range (Aw f).length).all (Tm (Aw f))=true->vs=dv (Aw f)):=by
 have hsp:=TT ((List.range f.Blocks.length).flatMap λi=>Si (f.Blocks.getD i default) i) (Sj f)
 have ac3:(List.range (Aw f).length).all (Tm (Aw f))=(Mm (dv (Sj f)) ((List.range f.Blocks.length).flatMap λi=>Si (f.Blocks.getD i default) i)).1:=by
  rw[hsp.1]
  show(List.range _).all _=(List.range' _ _).all (Tm (Aw f))
  have hs:List.range (Aw f).length=List.range (Sj f).length++List.range' (Sj f).length ((List.range f.Blocks.length).flatMap λi=>Si (f.Blocks.getD i default) i).length:=by
   rw[Rx,Rx,Aw,He];have:=List.range'_append_1 (s:=0) (m:=(Sj f).length) (n:=((List.range f.Blocks.length).flatMap λi=>Si (f.Blocks.getD i default) i).length);rw[Ke]at this;exact this.symm
  rw[hs,List.all_append];have :=zzL21.2 λi hi=>okP hf i (by rw[<- HM f];exact zzL41.1 hi);rw[this,Kd]
 unfold Iz;have hp:=sA hf f.Params.length 0 (by omega);have e0:pv f 0=[]:=rfl;rw[e0,show(((0:Nat):Int))=0 from rfl]at hp;rw[hp,Am,Aey];have hb:=rv hf l t u f.Blocks.length 0 (dv (Sj f)) (by omega);rw[show(((0:Nat):Int))=0 from rfl,<- Rx]at hb;rw[hb, ac3];refine⟨(Mm _ _).2,?_,hsp.2⟩
 cases(Mm _ _).1<;>rfl
theorem HU{β S X:Type}(B:Nat)(mk:Int->List β->S)(out:List β->X)(n:Nat)(E:Nat->List β)(f:S->Option (LR S X))(hn:∀(acc:List β) (i:Nat),i<n->(acc++E i).length<=B->f (mk i acc)=some (.next (mk ((i:Int)+1) (acc++E i))))
  (hd:∀ acc:List β,f (mk n acc)=some (.done (out acc))):∀(k i:Nat) (acc:List β),i+k=n->(acc++(List.range' i k).flatMap E).length<=B->Ae f (mk i acc)=some (out (acc++(List.range' i k).flatMap E))
 | 0,i,acc,h,_=>by
  obtain rfl:i=n:=by omega
  rw[An (hd acc)]
  simp
 | k+1,i,acc,h,hB=>by
  have hi:i<n:=by omega
  rw[GQ,KL,<- Z0]at hB ⊢;rw[Ap (hn acc i hi (by grind)),show(i+1)=((i+1:Nat):Int) by omega,HU B mk out n E f hn hd k _ _ (by omega) hB]
theorem gr(h:β->γ)(n:Nat)(g:Nat->β):(List.range' 0 n).flatMap (λj=>[h (g j)])=((List.range n).flatMap λj=>[g j]).map h:=by
 rw[List.map_flatMap,Rx];rfl
theorem UW(h:β->γ)(n:Nat)(g:Nat->List β):(List.range' 0 n).flatMap (λj=>(g j).map h)=((List.range n).flatMap g).map h:=by
 rw[List.map_flatMap,Rx]
def U6(f:AI)(b:Int):Int:=((f.Blocks.getD b.toNat default).Ops.length:Int)
def Km(f:AI)(u:Dz):Bo:=⟨u.V,u.Shape,⟨u.Block,bif u.At==1000 then U6 f u.Block else u.At⟩⟩
theorem mW(f:AI)(l:Int)(t:List Int)(vs:List (Int×A6))(v:Int)(s:Int×Int)(p:Sd)(u:List Bo)(h:(u++[(⟨v,s,p⟩:Bo)]).length<=10000000):Fe v s p f l t vs u=some (f,l,t,u++[⟨v,s,p⟩]):=by
 unfold Fe;rw[Ac (by rw[He]at h;rw[MT];omega)]
theorem rz(f:AI)(l:Int)(t:List Int)(vs:List (Int×A6))(b:Int)(hb:As b f.Blocks.length)(u:List Bo):Hi b f l t vs u=some (⟨b,U6 f b⟩,f,l,t,u):=by
 unfold Hi;rw[Ac hb];rfl
section
variable {f:AI} (hf:OkF f) (l:Int) (t:List Int) (vs:List (Int×A6))
include hf
theorem Aa9(i k:Nat)(hi:i<f.Blocks.length)(hk:k<(f.Blocks.getD i default).Phis.length)(ac6:((f.Blocks.getD i default).Phis.getD k default).Args.length<=((f.Blocks.getD i default).Phis.getD k default).From.length)
  (hin:∀ x∈((f.Blocks.getD i default).Phis.getD k default).From,As x f.Blocks.length) (u:List Bo) (hB:(u++(Pk ((f.Blocks.getD i default).Phis.getD k default)).map (Km f)).length<=10000000) :
  Ae (Em f vs (i:Int) (k:Int)) ((0:Int),f.Params,f.Ret,f.Blocks,l,t,u)=some (f.Params,f.Ret,f.Blocks,l,t,u++(Pk ((f.Blocks.getD i default).Phis.getD k default)).map (Km f)):=by
 have IT:=VK hf (Ag  hi) (Ag (d:=default) hk)
 generalize hp:(f.Blocks.getD i _).Phis.getD k _=p at *
 have e:=gr (Km f) p.Args.length λj=>⟨p.Args.getD j 0,p.From.getD j 0,1000,(p.Bits,1)⟩
 have:=HU _ (λj u=>(j,f.Params,f.Ret,f.Blocks,l,t,u)) (λu=>(f.Params,f.Ret,f.Blocks,l,t,u)) _ (λj=>[Km f _]) (Em f vs i k) (λacc j hj ad2=>by
  unfold Em Et
  have hd:decide (j<(p.Args.length:Int))=true:=by simpa using hj
  have hjf:j<p.From.length:=by omega
  simp only[Dn,hp,hd,Ah,Aa (Ai hj),Am,Aa (Ai hjf)];rw[ rz f l t vs _ (hin _ (Ag hjf)),Am];have eu:Km f ⟨p.Args.getD j 0,p.From.getD j 0,1000,(p.Bits,1)⟩=⟨p.Args.getD j 0,(p.Bits,1),⟨p.From.getD j 0,U6 f _⟩⟩:=rfl;rw[eu]at ad2 ⊢
  rw[mW f l t vs _ _ _ acc ad2,Am,Bd hj (by omega)]) (λacc=>by unfold Em;simp only[Dn,hp,show decide (p.Args.length<(p.Args.length:Int))=false by simp,Ar]) p.Args.length 0 u (by omega) (by rw[e];exact hB)
 rw[e]at this;exact this
theorem xD(i:Nat)(hi:i<f.Blocks.length)(ac6:∀ p∈(f.Blocks.getD i default).Phis,p.Args.length<=p.From.length/\∀ x∈p.From,As x f.Blocks.length)(u:List Bo)(hB:(u++(Oq (f.Blocks.getD i default)).map (Km f)).length<=10000000) :
  Ae (En f vs (i:Int)) ((0:Int),f.Params,f.Ret,f.Blocks,l,t,u)=some (f.Params,f.Ret,f.Blocks,l,t,u++(Oq (f.Blocks.getD i default)).map (Km f)):=by
 have hBk:=hf.block _ (Ag (d:=default) hi);have e:=UW (Km f) (f.Blocks.getD i default).Phis.length λk=>Pk ((f.Blocks.getD i default).Phis.getD k default)
 have:=HU _ (λj u=>(j,f.Params,f.Ret,f.Blocks,l,t,u)) (λu=>(f.Params,f.Ret,f.Blocks,l,t,u)) _ _ (En f vs i) (λacc k hk ad2=>by
  have hq:=ac6 _ (Ag (d:=default) hk);have h1:=Aa9 hf l t vs i k hi hk hq.1 hq.2 acc ad2;unfold En
  have hd:decide ((k:Int)<(f.Blocks.getD i default).Phis.length)=true:=by simpa using hk
  simp only[Dn,hd,Ah,Aa (Ai hk),h1,Am,Bd hk (by have:=hBk.phis;omega)]) (λacc=>by unfold En;simp) (f.Blocks.getD i default).Phis.length 0 u (by omega) (by rw[e];exact hB)
 rw[e]at this;exact this
theorem Aea(i k:Nat)(hi:i<f.Blocks.length)(hk:k<(f.Blocks.getD i default).Ops.length)(u:List Bo)(hB:(u++(Te ((f.Blocks.getD i default).Ops.getD k default) i k).map (Km f)).length<=10000000) :
  Ae (Eo f vs (i:Int) (k:Int) (Hr ((f.Blocks.getD i default).Ops.getD k default))) ((0:Int),f.Params,f.Ret,f.Blocks,l,t,u)=some (f.Params,f.Ret,f.Blocks,l,t,u++(Te ((f.Blocks.getD i default).Ops.getD k default) i k).map (Km f)):=by
 have hBk:=hf.block _ (Ag (d:=default) hi);have IT:=CD (bt hf (Ag  hi) (Ag (d:=default) hk));have hk512:=hBk.ops
 generalize hp:(f.Blocks.getD i _).Ops.getD k _=o at *
 have e:=gr (Km f) (Hr o).length λj=>⟨o.Args.getD j 0,i,k,(Hr o).getD j (0,0)⟩
 have:=HU _ (λj u=>(j,f.Params,f.Ret,f.Blocks,l,t,u)) (λu=>(f.Params,f.Ret,f.Blocks,l,t,u)) _ (λj=>[Km f _]) (Eo f vs i k (Hr o)) (λacc j hj ad2=>by
  have hkk:((k:Int)==1000)=false:=by simp;omega
  have eu:Km f ⟨o.Args.getD j 0,i,k,(Hr o).getD j (0,0)⟩=⟨o.Args.getD j 0,(Hr o).getD j (0,0),⟨i,k⟩⟩:=by unfold Km;simp only[hkk,Ar]
  rw[eu]at ad2 ⊢;unfold Eo
  have hd:decide (j<((Hr o).length:Int))=true:=by simpa using hj
  have hja:j<o.Args.length:=by omega
  simp only[Dn,hp,hd,Ah,Aa (Ai hj),Aa (Ai hja)]
  rw[ mW f l t vs _ _ _ acc ad2,Am,Bd hj (by omega)]) (λacc=>by unfold Eo;simp) (Hr o).length 0 u (by omega) (by rw[e];exact hB)
 rw[e]at this;exact this
theorem Aa8(i:Nat)(hi:i<f.Blocks.length)(u:List Bo)(hB:(u++(U9 (f.Blocks.getD i default) i).map (Km f)).length<=10000000) :
  Ae (Ep f vs (i:Int)) ((0:Int),f.Params,f.Ret,f.Blocks,l,t,u)=some (f.Params,f.Ret,f.Blocks,l,t,u++(U9 (f.Blocks.getD i default) i).map (Km f)):=by
 have ab3:=Ag (d:=default) hi;have hBk:=hf.block _ ab3;have e:=UW (Km f) (f.Blocks.getD i default).Ops.length λk=>Te ((f.Blocks.getD i default).Ops.getD k default) i k
 have:=HU _ (λj u=>(j,f.Params,f.Ret,f.Blocks,l,t,u)) (λu=>(f.Params,f.Ret,f.Blocks,l,t,u)) _ _ (Ep f vs i) (λacc k hk ad2=>by
  have h1:=Aea hf l t vs i k hi hk acc ad2;have ht:Sx _=some (Hr ((f.Blocks.getD i _).Ops.getD k default)):=kJ _ (pZ hf ab3 (Ag hk));unfold Ep
  have hd:decide (k<((f.Blocks.getD i default).Ops.length:Int))=true:=by simpa using hk
  simp only[Dn,hd,Ah,Aa (Ai hk),ht,h1,Am,Bd hk (by have:=hBk.ops;omega)]) (λacc=>by unfold Ep;simp) (f.Blocks.getD i default).Ops.length 0 u (by omega) (by rw[e];exact hB)
 rw[e]at this;exact this
theorem oq(ac6:∀ b∈f.Blocks,∀ p∈b.Phis,p.Args.length<=p.From.length/\∀ x∈p.From,As x f.Blocks.length):Iy f l t vs []=some (f,l,t,(Bl f).map (Km f)):=by
 have e:=UW (Km f) f.Blocks.length λ(i:Nat)=>MW f (f.Blocks.getD i default) i;have hul:=OY hf
 have:=HU 10000000 (λj u=>(j,f.Params,f.Ret,f.Blocks,l,t,u)) (λu=>(f.Params,f.Ret,f.Blocks,l,t,u)) f.Blocks.length (λ(i:Nat)=>(MW f (f.Blocks.getD i default) i).map (Km f)) (Er f vs) (λacc i hi ad2=>by
  have ab3:=Ag (d:=(default:Ab)) hi;unfold MW at ad2 ⊢;rw[AA,AA,<- Z0,<- Z0]at ad2 ⊢;have l1:=ad2;simp only[He,F2]at l1;have h1:=xD hf l t vs i hi (ac6 _ ab3) acc (by simp only[He,F2];omega);have h2:=Aa8 hf l t vs i hi (acc++(Oq (f.Blocks.getD i default)).map (Km f)) (by simp only[He,F2];omega);have hinb:As (i:Int) f.Blocks.length:=Ai hi;unfold Er Et
  have hd:decide ((i:Int)<(f.Blocks.length:Int))=true:=by simpa using hi
  simp only[hd,Ah,Aa (Ai hi),h1,Am,h2,Dn];have hF:(⟨f.Params,f.Ret,f.Blocks⟩:AI)=f:=rfl;have hw:w64 ((i:Int)+1)=(i:Int)+1:=Bd hi (by have:=hf.blocks;omega);unfold CF at ad2 ⊢
  cases hz:((f.Blocks.getD i default).End.Kind==0) with
  | true=>
   have hz2:((f.Blocks.getD i default).End.Kind==2)=false:=by
    have:(f.Blocks.getD i default).End.Kind=0:=by simpa using hz
    rw[this];rfl
   rw[hz,hz2]at ad2;simp only[Ah,Ar,hz2,List.append_nil,Db,K8]at ad2 ⊢;rw[hF,rz f l t vs _ hinb,Am];simp only;rw[mW f l t vs _ _ _ _ (show(_++[(⟨_,_,⟨(i:Int),U6 f (i:Int)⟩⟩:Bo)]).length<=10000000 from ad2),Am,Am,hw]
   rfl
  | false=>
   rw[hz]at ad2
   cases hz2:((f.Blocks.getD i default).End.Kind==2) with
   | true=>
    rw[hz2]at ad2;simp only[Ah,Ar,Vi,Db,K8]at ad2 ⊢;rw[hF,rz f l t vs _ hinb,Am];simp only;rw[mW f l t vs _ _ _ _ (show(_++[(⟨_,_,⟨(i:Int),U6 f (i:Int)⟩⟩:Bo)]).length<=10000000 from ad2),Am,Am,hw]
    rfl
   | false=>
    simp only[Ar,Vi,K8,List.append_nil,Am,hw]) (λacc=>by unfold Er;simp) f.Blocks.length 0 [] (by omega) (by rw[e];simpa [Bl] using(by omega:(Bl f).length<=10000000))
 rw[e,Vi]at this;unfold Iy;rw[show(0:Int)=((0:Nat):Int) from rfl]
 show((Ae (Er f vs) (((0:Nat):Int),f.Params,f.Ret,f.Blocks,l,t,[])).bind _)=_
 rw[this,Am]
 rfl
end
theorem wv{σ X:Type}(mk:Int->σ)(U:List Bo)(p:Bo->Bool)(f:σ->Option (LR σ X))(yes no:X)(hk:∀ i:Nat,i<U.length->f (mk i)=some (bif p (U.getD i default) then .next (mk ((i:Int)+1)) else .done no))(he:f (mk U.length)=some (.done yes)) :
  ∀ k i:Nat,i+k=U.length->Ae f (mk i)=some (bif (U.drop i).all p then yes else no)
 | 0,i,h=>by
  obtain rfl:i=U.length:=by omega
  rw[An he]
  simp
 | k+1,i,h=>by
  have hi:i<U.length:=by omega
  have hdr:U.drop i=U.getD i default::U.drop (i+1):=by simp_all
  have hx:=hk i hi;rw[hdr,GT]
  cases hp:p _ with
  | true=>
   rw[hp]at hx;rw[Ap hx,show((i:Int)+1)=(i+1:Nat) by omega,wv mk U p f yes no hk he k _ (by omega),Kd]
  | false=>
   rw[hp]at hx;rw[An hx]
   rfl
theorem UA(d:TDef)(l:List TDef)(v:Int):Mz (d::l) v=bif d.V==v then 0 else bif decide (Mz l v<0) then -1 else Mz l v+1:=by
 unfold Mz;rw[List.findIdx?_cons]
 cases d.V==v with
 | true=>rfl
 | false=>
  grind
theorem VB(v:Int):∀ l:List TDef,Lb (dv l) v = !decide (Mz l v<0)
 | []=>rfl
 | d::l=>by
  rw[UA]
  show((v==d.V) || Lb (dv l) v)=_
  rw[VB v l,show(v==d.V)=(d.V==v) by grind]
  cases d.V==v with
  | true=>rfl
  | false=>
   grind
theorem KA(v:Int):∀ l:List TDef,¬ Mz l v<0->Nm (default:A6) (dv l) v=XA (defOf l v)
 | [],h=>absurd (show -1<0 by decide) h
 | d::l,h=>by
  unfold defOf;rw[UA]at h ⊢
  show(bif v==d.V then XA d else Nm _ (dv l) v)=_
  rw[show(v==d.V)=(d.V==v) by grind]
  cases hb:d.V==v with
  | true=>rfl
  | false=>
   rw[hb]at h
   by_cases hn:Mz l v<0
   ·simp[hn]at h
   ·have hz :=Ds hn;simp only[Ar,hz];rw[KA v l hn,show(Mz l v+1).toNat=(Mz l v).toNat+1 by omega]
    rfl
def qQ(f:AI)(d:TDef):Prop:=d.Block = -1\/(As d.Block f.Blocks.length/\d.At<U6 f d.Block/\d.At<1000)
def yy(f:AI)(u:Dz):Prop:=As u.Block f.Blocks.length/\0<=u.At
theorem defs_in(hf:OkF f):∀ d∈Aw f,qQ f d:=λd hd=>by
 rcases zzL8.1 hd with h|h
 ·obtain⟨i,_,hi⟩:=zzL54.1 h;rw[zzL10.1 hi];exact .inl rfl
 ·obtain⟨i,hi,h⟩:=zzL54.1 h
  have hi :=by simpa using hi
  have hB:=hf.block _ (Ag (d:=default) hi);have ho:U6 f i=(f.Blocks.getD i default).Ops.length:=rfl;rcases zzL8.1 h with h|h
  ·obtain⟨k,hk,h⟩:=zzL54.1 h;rw[zzL10.1 h];refine .inr ⟨Ai hi,?_,?_⟩
   ·grind
   ·grind
  ·obtain⟨k,hk,h⟩:=zzL54.1 h
   have hk:k<(f.Blocks.getD i default).Ops.length:=by simpa using hk
   cases hg:decide (0<(Bn _).1) with
   | false=>rw[hg]at h;cases h
   | true=>
    rw[hg]at h;rw[zzL10.1 h];refine .inr ⟨Ai hi,?_,?_⟩
    ·grind
    ·show(k:Int)<1000;have:=hB.ops;omega
theorem ye(ac6:∀ b∈f.Blocks,∀ p∈b.Phis,p.Args.length<=p.From.length/\∀ x∈p.From,As x f.Blocks.length):∀ u∈Bl f,yy f u:=λu hu=>by
 obtain⟨i,hi,h⟩:=zzL54.1 hu
 have hi :=by simpa using hi
 have ab3:=Ag (d:=default) hi;rcases zzL8.1 h with h|h
 ·rcases zzL8.1 h with h|h
  ·obtain⟨k,hk,h⟩:=zzL54.1 h
   have hk :=by simpa using hk
   obtain⟨j,hj,h⟩:=zzL54.1 h;have hj:=zzL41.1 hj;have hq:=ac6 _ ab3 _ (Ag (d:=default) hk);rw[zzL10.1 h];exact⟨hq.2 _ (Ag (by omega)),by grind⟩
  ·obtain⟨k,hk,h⟩:=zzL54.1 h;obtain⟨j,hj,h⟩:=zzL54.1 h;rw[zzL10.1 h];exact⟨Ai hi,by grind⟩
 ·unfold CF at h
  have:u=⟨(f.Blocks.getD i default).End.Arg,i,1000,(f.Ret,1)⟩\/u=⟨(f.Blocks.getD i default).End.Arg,i,1000,(1,1)⟩:=by
   grind
  rcases this with rfl|rfl<;>exact⟨Ai hi,by grind⟩
theorem Abg(h:Eg f=true):∀ b∈f.Blocks,∀ p∈b.Phis,p.Args.length<=p.From.length/\∀ x∈p.From,As x f.Blocks.length:=λb hb p hp=>by
 have hs :=by simp only[Eg,Az]at h;exact h.1
 refine⟨cH h b hb p hp,λx hx=>?_⟩;obtain⟨i,hi,rfl⟩:=H8 hb;simp only[Eg,Az]at h;have h1:=oZ h.2 i hi;simp only[Mf,Az,zzL21]at h1;rw[Ad _ _ _ hi]at h1;have h2:=h1.2 p hp;simp only[Ju,Az,Hs]at h2;rw[h2.1]at hx;obtain⟨q,rfl,hq,_⟩:=(Zn  (Ey hs)  (by rw[Hc];exact hi)).1 hx;exact Ai (by rw[Hc]at hq;exact hq)
theorem ki(h:Eg f=true){b:Int}(hb:As b f.Blocks.length):P5 (Cu f) 0 b=true:=by
 have hs :=by simp only[Eg,Az]at h;exact h.1
 have hm:=Ey hs;have IT:=Hc f
 have ae6:0<(Bf f).length:=by have:=(shape_iff.1 hs).1.1;omega
 obtain⟨P,hP,o,ht⟩:=cL hm ae6
 have e:Cu f=DB (Bf f) 0:=by
  unfold Cu RC;rw[if_pos ⟨UY hm,Int.le_refl _,by show(0:Int)<(Bf f).length;omega⟩]
  rfl
 obtain⟨k,rfl⟩:∃ k:Nat,b=k:=⟨b.toNat,(Mp hb.1).symm⟩
 have hk:k<f.Blocks.length:=by have:=hb.2;omega
 simp only[Eg,Az]at h;have h1:=oZ h.2 k hk;simp only[Mf,Az]at h1;have hr :=(GC (Ws hm) ae6 k).1 h1.1.1;rw[e];refine(ht.over_dom o ae6 (by omega)).2 ⟨rc_iff.2 hr,λha=>?_⟩;exact(av_iff.1 ha).1 rfl
theorem EV{l:List Dz}{g:Dz->Bo}{p:Bo->Bool}{q:Dz->Bool}(h:∀ u∈l,p (g u)=q u):(l.map g).all p=l.all q:=by
 grind
def xP(vs:List (Int×A6))(u:Bo):Bool:=((Nm (default:A6) vs u.v).shape.1==u.shape.1)&&(((Nm (default:A6) vs u.v).shape.2==u.shape.2)&&true)
def JT(vs:List (Int×A6))(t:List Int)(u:Bo):Bool:=bif (Nm (default:A6) vs u.v).place.block==u.place.block then decide ((Nm (default:A6) vs u.v).place.at_<u.place.at_) else P5 t (Nm (default:A6) vs u.v).place.block u.place.block
theorem rL(hs:Eg f=true){D:List TDef}(hD:∀ d∈D,qQ f d){u:Dz}(hu:yy f u)(hfd:Ma D u=true):JT (dv D) (Cu f) (Km f u)=Xv D (Cu f) u:=by
 have hF:¬ Mz D u.V<0:=by simpa [Ma] using hfd
 have hin:=UB hF;have hd:qQ f (defOf D u.V):=hD _ (by unfold defOf;exact Ag (by have:=hin.1;have:=hin.2;omega));have hg:Nm (default:A6) (dv D) (Km f u).v=XA (defOf D u.V):=KA u.V D hF;unfold JT Xv;rw[hg]
 generalize defOf D u.V=d at *
 have hub:=hu.1.1
 have hul:0<=U6 f u.Block:=by unfold U6;omega
 have hat:∀ a:Int,a<0\/(a<U6 f u.Block/\a<1000)->decide (a<(Km f u).place.at_)=decide (a<u.At)\/a<0:=λa ha=>by
  rcases ha with ha|ha
  ·exact .inr ha
  ·refine .inl ?_
   show decide (a<bif u.At==1000 then U6 f u.Block else u.At)=_
   by_cases h:u.At=1000
   ·rw[h];simp only[show((1000:Int)==1000)=true from rfl,Ah];rw[Da ha.1,Da ha.2]
   ·have:(u.At==1000)=false:=by simpa using h
    rw[this];rfl
 have ae6:0<=(Km f u).place.at_:=by
  show 0<=bif u.At==1000 then U6 f u.Block else u.At
  cases u.At==1000
  ·exact hu.2
  ·exact hul
 have ad4:(Km f u).place.block=u.Block:=rfl;rw[ad4];rcases hd with hd|⟨hd1,hd2,hd3⟩
 ·have e:(XA d).place=⟨0,-1⟩:=by show zE d=_;unfold zE;rw[hd];rfl
  rw[e,hd,Da (show(-1:Int)<0 by decide)];rw[Bool.true_or,Bool.true_or,ki hs hu.1,Da (show(-1:Int)<(Km f u).place.at_ by omega)]
  cases(0:Int)==u.Block<;>rfl
 ·have hn:¬ d.Block<0:=by have:=hd1.1;omega
  have e:(XA d).place=⟨d.Block,d.At⟩:=by show zE d=_;unfold zE;rw[Ds hn];rfl
  rw[e,Ds hn,XH]
  cases hb:d.Block==u.Block with
  | true=>
   have hbe:d.Block=u.Block:=by simpa using hb
   simp only[Ah,Kd,D3,KO,Bool.or_false];rcases hat d.At (.inr ⟨by rw[<- hbe];exact hd2,hd3⟩) with h|h
   ·exact h
   ·rw[Da (by omega),Da (by have:=hu.2;omega)]
  | false=>
   simp only[Ar,KO,XH,Mq,Kd];unfold P5
   by_cases hm:Tl (Cu f) d.Block u.Block=d.Block
   ·rw[hm]
    have:(d.Block !=-2)=true:=by simp;omega
    simp[this]
   ·have:(Tl (Cu f) d.Block u.Block==d.Block)=false:=by simpa using hm
    simp[this,bne]
section
variable {f:AI} (l:Int) (vs:List (Int×A6))
def qL(f:AI)(l:Int)(U:List Bo)(i:Int):Int×List Int×Int×List Ab×Int×List Int×List Bo:=(i,f.Params,f.Ret,f.Blocks,l,Cu f,U)
def qM(f:AI)(l:Int)(U:List Bo):List Int×Int×List Ab×Int×List Int×List Bo:=(f.Params,f.Ret,f.Blocks,l,Cu f,U)
theorem xF(U:List Bo)(hU:U.length<9223372036854775808):Ae (Gb vs (f,l,Cu f,U)) (qL f l U 0)=some (bif U.all (λu=>Lb vs u.v) then .inl (qM f l U) else .inr (qM f l U)):=by
 have:=wv (qL f l U) U (λu=>Lb vs u.v) (Gb vs (f,l,Cu f,U)) _ _ (λi hi=>by
  unfold Gb qL M2
  have hd:decide (i<(U.length:Int))=true:=by simpa using hi
  simp only[hd, Aa (Ai hi),Dn, Bd hi hU]
  cases Lb vs _<;>rfl) (by unfold Gb qL;simp;rfl) U.length 0 (by omega)
 exact this
theorem xG(U:List Bo)(hU:U.length<9223372036854775808):Ae (Gc vs U) (qL f l U 0)=some (bif U.all (xP vs) then .inl (qM f l U) else .inr (qM f l U)):=by
 have:=wv (qL f l U) U (xP vs) (Gc vs U) _ _ (λi hi=>by
  unfold Gc qL O6
  have hd:decide (i<(U.length:Int))=true:=by simpa using hi
  simp only[hd, Aa (Ai hi),Dn, Bd hi hU];unfold xP
  cases(((Nm _ vs _).shape.1==(U.getD i _).shape.1)&&(((Nm _ vs _).shape.2==(U.getD i _).shape.2)&&true))<;>rfl) (by unfold Gc qL;simp;rfl) U.length 0 (by omega)
 exact this
theorem xH(htl:(Cu f).length<=1000)(U:List Bo)(hU:U.length<9223372036854775808):Ae (Gd vs U) (qL f l U 0)=some (bif U.all (JT vs (Cu f)) then .inl (qM f l U) else .inr (qM f l U)):=by
 have:=wv (qL f l U) U (JT vs _) (Gd vs U) _ _ (λi hi=>by
  have hx:I4 (U.getD i default) f l (Cu f) vs U=some (JT vs (Cu f) (U.getD i default),f,l,Cu f,U):=by
   unfold I4 JT;rw[Abo htl]
   cases(Nm _ vs _).place.block==(U.getD i _).place.block<;>rfl
  unfold Gd qL
  have hd:decide ((i:Int)<U.length)=true:=by simpa using hi
  simp only[hd, Aa (Ai hi),Dn];rw[ hx, Bd hi hU]
  cases JT vs _ _<;>rfl) (by unfold Gd qL;simp;rfl) U.length 0 (by omega)
 exact this
end
def ig(f:AI):Int:=bif !(Bl f).all (Ma (Aw f)) then 7 else bif !(Bl f).all (Xw (Aw f)) then 6 else bif !(Bl f).all (Xv (Aw f) (Cu f)) then 7 else 0
theorem Abd(hf:OkF f)(hs:Eg f=true)(l:Int):∃ U,Lo f l (Cu f) (dv (Aw f)) []=some (ig f,f,l,Cu f,U):=by
 have ac6:=Abg hs;have hul:=OY hf
 have hsB :=by simp only[Eg,Az]at hs;exact hs.1
 refine⟨(Bl f).map (Km f),?_⟩
 have hU:((Bl f).map (Km f)).length<9223372036854775808:=by grind
 have h1:=xF (f:=f) l (dv (Aw f)) _ hU;have h2:=xG (f:=f) l (dv (Aw f)) _ hU;have h3:=xH  l (dv (Aw f)) (ib hsB) _ hU;rw[EV (q:=Ma _) (λu _=>VB u.V _)]at h1;unfold Lo ig U8;rw[oq hf l _ _ ac6,Am];rw[show(Ae _ ((0:Int),f.Params,f.Ret,f.Blocks,l,Cu f,(Bl f).map _))=_ from h1,Am];have fin:∀ e ,Ae Ro (e,f.Params,f.Ret,f.Blocks,l,Cu f,(Bl f).map (Km f))=some _:=λe=>An rfl
 cases hfd:(Bl f).all _ with
 | false=>simp only[Ar,Mq,Ah,qM,Am,fin]
 | true=>
  have hmf:=zzL21.1 hfd
  rw[EV (q:=Xw _) (λu hu=>by
   have:=hmf u hu;simp only[Ma,Qr,XI]at this;have hg:Nm _ _ (Km f u).v=XA _:=KA u.V _ this;unfold xP Xw
   rw[hg];rfl)]at h2
  rw[EV  (λu hu=>rL hs (defs_in hf) (ye ac6 u hu) (hmf u hu))]at h3;simp only[Ah,D3, qM];rw[show(Ae _ ((0:Int),f.Params,f.Ret,f.Blocks,l,Cu f,(Bl f).map _))=_ from h2,Am]
  cases(Bl f).all _ with
  | false=>simp only[Ar,Mq,Ah,qM,Am,fin]
  | true=>
   simp only[Ah,D3, qM];rw[show(Ae _ ((0:Int),f.Params,f.Ret,f.Blocks,l,Cu f,(Bl f).map _))=_ from h3]
   cases(Bl f).all _ with
   | false=>simp only[Ar,Mq,Ah,qM,Am,fin]
   | true=>simp only[Ah,D3,Ar,qM,Am]
theorem xI(h:Sm f)(l:Int)(h0:0<=l)(h2:l<=2):∃ t u vs,Ku f l [] []=some (E2 f l,f,l,t,u,vs)/\(E2 f l=0->vs=dv (Aw f)):=by
 have hc:E2 f l=bif !R6 f then 4 else XC f l:=by
  unfold E2;rw[Ds (by omega),Ds (by omega)];rfl
 rw[hc];unfold Ku;rw[Abc f h.1,Am]
 cases hm:R6 f with
 | false=>simp_all
 | true=>
  have hf:=nR h hm;simp only[    XC];obtain⟨t',hsh,hst⟩:=sC hf l [] [];rw[hsh,Am]
  cases hs:Eg f with
  | false=>simp_all
  | true=>
   obtain rfl:=hst hs;rw[xE hf l h0 h2,Am]
   cases Rk f l with
   | false=>simp_all
   | true=>
    obtain⟨vs,hd,hv⟩:=ou hf l _ [];rw[hd,Am]
    cases hdd:(List.range _).all _ with
    | false=>grind
    | true=>
     obtain rfl:=hv hdd;obtain⟨U,hu⟩:=Abd hf hs l;rw[hu];refine⟨Cu f,U,dv _,?_,λ_=>rfl⟩
     show(bif ig f !=0 then some _ else some _)=some (ig f,f,l,Cu f,U,dv _)
     cases hz:ig f !=0 with
     | true=>rfl
     | false=>
      grind
theorem mT(f:AI)(l:Int)(h:Sm f):Ql f l=some (E2 f l):=by
 unfold Ql
 by_cases h0:l<0
 · unfold E2;rw[Da h0];rfl
 ·by_cases h2:2<l
  · unfold E2;rw[Ds h0,Da h2];rfl
  ·obtain⟨t,u,vs,hw,_⟩:=xI h l (by omega) (by omega);rw[Ds h0,Ds h2,hw];rfl
abbrev bA(f:AI)(i:Nat):Ab:=f.Blocks.getD i default
def El(f:AI)(i:Nat)(k:Nat):Int:=(bA f i).End.To.getD k 0
def BV(f:AI)(i:Nat):List Int:=(Co (Bf f)).getD i []
structure Rt(f:AI):Prop where
 lo:1<=f.Blocks.length
 hi:f.Blocks.length<=64
 to:∀ i,i<f.Blocks.length->∀ k,k<(bA f i).End.To.length->0<El f i k/\El f i k<f.Blocks.length
 one:∀ i,i<f.Blocks.length->(bA f i).End.Kind=1->(bA f i).End.To.length=1
 two:∀ i,i<f.Blocks.length->(bA f i).End.Kind=2->(bA f i).End.To.length=2
 may:N4 (Bf f)=true
 ok:OkF f
theorem GD(h:Sm f)(hc:E2 f 2=0):Rt f:=by
 have hz:=(Mg   (by omega) (by omega)).1 hc
 have hs :=by
  have:=hz.2.1;unfold Eg at this;rw[Az]at this;exact this.1
 obtain⟨⟨h1,h2⟩,h3⟩:=shape_iff.1 hs
 have hw:∀ i,i<f.Blocks.length->((bA f i).End.To.length:Nat)=Wx (bA f i).End.Kind:=λi hi=>by
  have:=h3 i hi;unfold Nz CS at this;simp only[Az,Hs]at this;exact this.1.2
 refine⟨h1,h2,λi hi k hk=>?_,λi hi hk=>?_,λi hi hk=>?_,Ey hs,nR h hz.1⟩
 ·exact toB_iff.1 (dG (h3 i hi)) _ (Ag  hk)
 ·have:=hw i hi;rw[hk,show Wx 1=1 from rfl]at this;omega
 ·have:=hw i hi;rw[hk,show Wx 2=2 from rfl]at this;omega
theorem dy(hi:i<f.Blocks.length):(Bf f).getD i []=MS (bA f i).End.To:=by
 unfold Bf;rw[So hi];rfl
theorem tj(f:AI):(Co (Bf f)).length=f.Blocks.length:=by rw[Rj,Hc]
theorem Wn(R:Rt f)(hy:y<f.Blocks.length){x:Int}:x∈BV f y↔∃ p:Nat,x=(p:Int)/\p<f.Blocks.length/\(y:Int)∈(bA f p).End.To:=by
 unfold BV;have hl:=Hc f;rw[Zn R.may (by omega)]
 constructor
 ·rintro⟨p,h1,h2,h3⟩;rw[kV R.may (by omega),dy (by omega),(Zr _).2]at h3;exact⟨p,h1,by omega,h3⟩
 ·rintro⟨p,h1,h2,h3⟩;exact⟨p,h1,by omega,by rw[kV R.may (by omega),dy (by omega),(Zr _).2];exact h3⟩
theorem tk(R:Rt f)(i:Nat):(BV f i).length<=64:=by
 unfold BV
 by_cases hi:i<(Co (Bf f)).length
 ·exact(Vv R.may).2 _ (Ag hi)
 ·grind
def Oe(f:AI)(a x:Int):Bool:=((bA f x.toNat).End.Kind==1)&&decide ((bA f x.toNat).Phis.length=0)&&decide (BV f x.toNat=[a])
theorem w7(R:Rt f)(a x:Int)(hx:As x f.Blocks.length):G5 x f.Blocks (Co (Bf f)) a=some (bif Oe f a x then(x,El f x.toNat 0,true) else(-1,-1,false)):=by
 have hxn:x.toNat<f.Blocks.length:=by have:=hx.1;have:=hx.2;omega
 unfold G5 Oe;rw[Aa hx]
 have IT:As x (Co (Bf f)).length:=by rw[tj];exact hx
 rw[Aa (λ_=>IT)]
 by_cases hk:(bA f x.toNat).End.Kind=1
 ·have hk':((f.Blocks.getD x.toNat default).End.Kind !=1)=false:=by simpa using hk
  have hto:=R.one _ hxn hk
  by_cases hp:(bA f x.toNat).Phis.length=0
  ·have hp':decide ((0:Int)<(f.Blocks.getD x.toNat default).Phis.length)=false:=by grind
   rw[hk',Ar,hp',show(false==false)=true from rfl,Ah,SR _ _ (by simp),Am]
   have e1:((bA f x.toNat).End.Kind==1)=true:=by simpa using hk
   rw[e1,Da hp,Kd];unfold BV El
   cases decide ((Co _).getD _ []=[a]) with
   | true=>rw[D3, Aa (show As 0 _ from⟨by omega,by grind⟩)];rfl
   | false=>rfl
  ·grind
 ·grind
def zH:AT:=⟨0,0,0,0⟩
def oi(f:AI)(a:Int)(x y:Int):Bool:=Oe f a x&&Oe f a y&&(El f x.toNat 0==El f y.toNat 0)&&!(El f x.toNat 0==a)
def bK(f:AI)(a:Int)(x y:Int):Bool:=Oe f a x&&(El f x.toNat 0==y)&&!(y==a)
def FG(f:AI)(i:Nat):Option AT:=
 bif ((bA f i).End.Kind==2)&&!(El f i 0==El f i 1) then
  bif oi f i (El f i 0) (El f i 1) then some ⟨i,El f i 0,El f i 1,El f (El f i 0).toNat 0⟩ else
  bif bK f i (El f i 0) (El f i 1) then some ⟨i,El f i 0,-1,El f i 1⟩ else
  bif bK f i (El f i 1) (El f i 0) then some ⟨i,-1,El f i 1,El f i 0⟩ else none
 else none
section
variable {f:AI} (R:Rt f) {a:Int} {i:Nat} (hi:i<f.Blocks.length) (hk:(bA f i).End.Kind=2)
include R hi hk
theorem Rv(k:Nat)(hk2:k<2):As (El f i k) f.Blocks.length:=by
 have:=R.to i hi k (by rw[R.two i hi hk];exact hk2);exact⟨by omega,this.2⟩
theorem w9:Oo i (bA f i).End.To f.Blocks (Co (Bf f)) i f.Blocks (Co (Bf f)) i =
  some (bif oi f i (El f i 0) (El f i 1) then(⟨i,El f i 0,El f i 1,El f (El f i 0).toNat 0⟩,true) else(zH,false)):=by
 have h2:=R.two i hi hk;unfold Oo;rw[Aa (⟨by omega,by omega⟩)];have e0:=w7 R i _ (Rv R hi hk 0 (by omega));have e1:=w7 R i _ (Rv R hi hk 1 (by omega));have g0:(bA f i).End.To.getD (0:Int).toNat 0=El f i 0:=rfl;have g1:(bA f i).End.To.getD (1:Int).toNat 0=El f i 1:=rfl;rw[g0,g1,e0,Am,Aa (⟨by omega,by omega⟩),e1,Am];unfold oi
 cases Oe f i _ with
 | false=>rfl
 | true=>
  cases Oe f i _ with
  | false=>rfl
  | true=>
   simp only[Ah,   bne]
   cases(El f _ 0==El f _ 0) with
   | false=>rfl
   | true=>cases(El f _ 0==i)<;>rfl
theorem xA:Lu i (bA f i).End.To f.Blocks (Co (Bf f)) i =
  some (bif bK f i (El f i 0) (El f i 1) then(⟨i,El f i 0,-1,El f i 1⟩,true) else(zH,false)):=by
 have h2:=R.two i hi hk;unfold Lu;rw[Aa (⟨by omega,by omega⟩)];have e0:=w7 R i _ (Rv R hi hk 0 (by omega));have g0:(bA f i).End.To.getD (0:Int).toNat 0=El f i 0:=rfl;have g1:(bA f i).End.To.getD (1:Int).toNat 0=El f i 1:=rfl;rw[g0,g1,e0,Am,Aa (⟨by omega,by omega⟩),Lw,Am];unfold bK
 cases Oe f i _ with
 | false=>rfl
 | true=>
  simp only[Ah,   bne]
  cases h:(El f _ 0==El f i 1) with
  | false=>rfl
  | true=>
   have h' :=by simpa using h
   rw[h']
   cases(El f i 1==i)<;>rfl
theorem xB:Lv i (bA f i).End.To f.Blocks (Co (Bf f)) i =
  some (bif bK f i (El f i 1) (El f i 0) then(⟨i,-1,El f i 1,El f i 0⟩,true) else(zH,false)):=by
 have h2:=R.two i hi hk;unfold Lv;rw[Aa (⟨by omega,by omega⟩)];have e1:=w7 R i _ (Rv R hi hk 1 (by omega));have g0:(bA f i).End.To.getD (0:Int).toNat 0=El f i 0:=rfl;have g1:(bA f i).End.To.getD (1:Int).toNat 0=El f i 1:=rfl;rw[g0,g1,Lw,Am,Aa (⟨by omega,by omega⟩),e1,Am];unfold bK
 cases Oe f i _ with
 | false=>rfl
 | true=>
  simp only[Ah,   bne];rw[show(El f i 0==El f _ 0)=(El f (El f i 1).toNat 0==El f i 0) by grind]
  cases(El f _ 0==El f i 0) with
  | false=>rfl
  | true=>cases(El f i 0==i)<;>rfl
end
def fU(f:AI):List AT:=(List.range f.Blocks.length).flatMap λi=>(FG f i).toList
theorem cK(o:Option α):o.toList.length<=1:=by cases o<;>simp
theorem rM(R:Rt f)(hi:i<f.Blocks.length)(l:List AT)(hl:l.length<=0+i*1)(c:Int) :
  Po f (La (Bf f),c) (l,(i:Int))=some (.next (l++(FG f i).toList,(i:Int)+1)):=by
 have ab1:(1000:Nat)<=room:=by decide
 have hi64:=R.hi;unfold Po FG;have hg:f.Blocks.getD (i:Int).toNat default=bA f i:=rfl;simp only[hg,B0 hi,Ah,Aa (Ai hi),w1 (show i<4611686018427387904 by omega)]
 have hap:∀ h:AT,l.length+[h].length<=room:=λh=>by simp;omega
 have ie :=by omega
 by_cases hk:(bA f i).End.Kind=2
 ·have hk':((bA f i).End.Kind !=2)=false:=by simpa using hk
  have hk2:((bA f i).End.Kind==2)=true:=by simpa using hk
  have h2:=R.two i hi hk;have i0:As (0:Int) (bA f i).End.To.length:=⟨by omega,by omega⟩;have i1:As (1:Int) (bA f i).End.To.length:=⟨by omega,by omega⟩;simp only[hk',hk2,Aa (λ_=>i0),Aa (λ_=>i1),Ar];have g0:(bA f i).End.To.getD (0:Int).toNat 0=El f i 0:=rfl;have g1:(bA f i).End.To.getD (1:Int).toNat 0=El f i 1:=rfl;rw[g0,g1]
  cases(El f i 0==El f i 1) with
  | true=>simp[ie]
  | false=>
   have ak2:(La (Bf f)).Pred=Co (Bf f):=rfl;simp only[Ar, Ah,U3,Am,ak2,w9 R hi hk,xA R hi hk,xB R hi hk]
   cases oi f i (El f i 0) (El f i 1) with
   | true =>  rw[Ac (hap _)];simp[ie]
   | false=>
    simp only[Ar]
    cases bK f i (El f i 0) (El f i 1) with
    | true =>  rw[Ac (hap _)];simp[ie]
    | false=>
     simp only[Ar]
     cases bK f i (El f i 1) (El f i 0) with
     | true =>  rw[Ac (hap _)];simp[ie]
     | false=>simp[ie]
 ·have hk':((bA f i).End.Kind !=2)=true:=by simpa using hk
  have hk2:((bA f i).End.Kind==2)=false:=by simpa using hk
  simp only[hk',hk2,Ah, Ar];rw[Aa (λh=>by cases h),Aa (λh=>by cases h)];simp[ie]
theorem Aek(h:Sm f):Mk f=some (bif E2 f 2==0 then fU f else[]):=by
 have Is :=h.1.blocks;unfold Mk;rw[mT f 2 h,Am]
 by_cases hc:E2 f 2=0
 ·have R:=GD h hc
  have hs :=by
   have:=((Mg   (by omega) (by omega)).1 hc).2.1;unfold Eg at this;rw[Az]at this;exact this.1
  rw[hc,show((0:Int)!=0)=false from rfl,show((0:Int)==0)=true from rfl,  Aem f Is,hs,Ah,Am];have hL:=M1 _ 0 1 _ (λi _=>cK _) _ (λacc i hi ha=>rM R hi acc ha 0)
   (λacc=>by unfold Po;simp only[Cy,Ar]) f.Blocks.length 0 [] (by omega) (by simp)
  have hL':Ae _ ([],(0:Int))=_:=hL;rw[hL'];unfold U8 fU;rw[Rx];rfl
 ·have e1:((E2 f 2)!=0)=true:=by simpa using hc
  have e2:((E2 f 2)==0)=false:=by simpa using hc
  rw[e1,e2,Ah]
  rfl
end
end Go.Proofs.YthelaonnkkpbfaaGreat
