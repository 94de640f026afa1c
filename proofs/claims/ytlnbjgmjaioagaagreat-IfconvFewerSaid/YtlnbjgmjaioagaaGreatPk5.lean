/-
  The machine, the program's functions and the laws' arithmetic: part 5 of 6.
-/
import Derived.Test.YtlnbjgmjaioagaaGreatPk4
import Derived.Lib.RowBridge
set_option linter.unusedSectionVars false
set_option linter.unusedVariables false
set_option linter.unusedSimpArgs false
namespace Go.Proofs.YtlnbjgmjaioagaaGreat
noncomputable section
open Go Go.RowKit
def Pd(p:Bf):List C9:=(List.range p.Args.length).flatMap λ(j:Nat)=>[⟨p.Args.getD j 0,p.From.getD j 0,1000,(p.Bits,1)⟩]
def Oi(b:Ab):List C9:=(List.range b.Phis.length).flatMap λ(k:Nat)=>Pd (b.Phis.getD k default)
def Sn(o:A2)(i k:Nat):List C9:=(List.range (Jb o).length).flatMap λ(j:Nat)=>[⟨o.Args.getD j 0,i,k,(Jb o).getD j (0,0)⟩]
def U2(b:Ab)(i:Nat):List C9:=(List.range b.Ops.length).flatMap λ(k:Nat)=>Sn (b.Ops.getD k default) i k
def EI(f:TFunc)(b:Ab)(i:Nat):List C9:=(bif b.End.Kind==0 then[⟨b.End.Arg,i,1000,(f.Ret,1)⟩] else[])++(bif b.End.Kind==2 then[⟨b.End.Arg,i,1000,(1,1)⟩] else[])
def NE(f:TFunc)(b:Ab)(i:Nat):List C9:=Oi b++U2 b i++EI f b i
def B5(f:TFunc):List C9:=(List.range f.Blocks.length).flatMap λ(i:Nat)=>NE f (f.Blocks.getD i default) i
theorem Yp{o:A2}(h:o.Args.length<=64):(Jb o).length<=64/\(Jb o).length<=o.Args.length:=by
 unfold Jb
 cases hm:Jr o with
 | false=>simp
 | true=>
  simp only[Af]
  have :=by
   simp only[Jr,A1]at hm;exact hm.1.2.2
  have h2 :=by simpa using this
  have h3:(Yq o).length=o.Args.length:=by rw[Yq,L1,Xh,<- h2,Co]
  omega
theorem RL{f:TFunc}(hf:OkF f){b:Ab}(hb:b∈f.Blocks){p:Bf}(hp:p∈b.Phis):p.From.length<=64/\p.Args.length<=64:=by
 have:=(blockB_iff.1 (hf.block b hb).may).1 p hp;simp only[AG,A1]at this;exact⟨(listB_iff.1 this.1.2).2,(listB_iff.1 this.2).2⟩
theorem XX{f:TFunc}(hf:OkF f){b:Ab}(hb:b∈f.Blocks){o:A2}(ho:o∈b.Ops):o.Args.length<=64:=by
 have:=(blockB_iff.1 (hf.block b hb).may).2.1 o ho;simp only[bG,A1]at this;exact(listB_iff.1 this.2).2
theorem JC(p:Bf):(Pd p).length<=p.Args.length:=by
 have:=Jc 1 (λj=>[(⟨p.Args.getD j 0,p.From.getD j 0,1000,(p.Bits,1)⟩:C9)]) (List.range p.Args.length) (λ_ _=>zzL8 _)
 simpa [Pd] using this
theorem NF(o:A2)(i k:Nat):(Sn o i k).length<=(Jb o).length:=by
 have:=Jc 1 (λj=>[(⟨o.Args.getD j 0,i,k,(Jb o).getD j (0,0)⟩:C9)]) (List.range (Jb o).length) (λ_ _=>zzL8 _)
 simpa [Sn] using this
theorem NG{f:TFunc}(hf:OkF f){b:Ab}(hb:b∈f.Blocks):(Oi b).length<=32768:=by
 have:=Jc 64 (λk=>Pd (b.Phis.getD k default)) (List.range _) (λk hk=>by
  have h1:=JC (b.Phis.getD k default);have h2:=(RL hf hb (Ai (d:=default) (by simpa using hk))).2
  omega)
 have h3:=(hf.block b hb).phis;rw[Xh]at this;rw[Oi];omega
theorem SS{f:TFunc}(hf:OkF f){b:Ab}(hb:b∈f.Blocks)(i:Nat):(U2 b i).length<=32768:=by
 have:=Jc 64 (λk=>Sn (b.Ops.getD k default) i k) (List.range _) (λk hk=>by
  have h1:=NF (b.Ops.getD k default) i k;have h2:=(Yp (XX hf hb (Ai (d:=default) (by simpa using hk)))).1
  omega)
 have h3:=(hf.block b hb).ops;rw[Xh]at this;rw[U2];omega
theorem eV(f:TFunc)(b:Ab)(i:Nat):(EI f b i).length<=2:=by
 unfold EI
 cases b.End.Kind==0<;>cases b.End.Kind==2<;>simp
theorem YO{f:TFunc}(hf:OkF f){i:Nat}(hi:i<f.Blocks.length):(NE f (f.Blocks.getD i default) i).length<=70000:=by
 have hmem:=Ai (d:=default) hi;have h1:=NG hf hmem;have h2:=SS hf hmem i;have h3:=eV f (f.Blocks.getD i default) i;rw[NE,Du,Du];omega
theorem LE{f:TFunc}(hf:OkF f):(B5 f).length<=4480000:=by
 have h1:=Jc _ _ (List.range _) (λi hi=>YO hf (by simpa using hi));have h4:=hf.blocks;rw[Xh]at h1;rw[B5];omega
def j6(f:TFunc):Prop:=∀ b∈f.Blocks,∀ p∈b.Phis,p.Args.length<=p.From.length
theorem xN{f:TFunc}(hf:OkF f)(hp:j6 f):K3 f=some (B5 f):=by
 have hbig:∀{n:Nat},n<=100000000->∀ x:C9,n+([x]:List C9).length<=room:=λ{n} h x=>by rw[JB];simp;omega
 have h1:∀(i:Nat),i<f.Blocks.length->∀(k:Nat),k<(f.Blocks.getD i default).Phis.length->∀ acc:List C9,acc.length<=50000000->Ad (F1 f (i:Int) (k:Int)) (acc,(0:Int))=some (acc++Pd ((f.Blocks.getD i default).Phis.getD k default)):=λi hi k hk acc hacc=>by
  have hmem:=Ai (d:=(default:Ab)) hi;have hpm:=Ai (d:=(default:Bf)) hk;have hlen:=RL hf hmem hpm;have hfit:=hp _ hmem _ hpm
  have:=Ls ((f.Blocks.getD i default).Phis.getD k default).Args.length 50000000 1 (λ(j:Nat)=>[(⟨((f.Blocks.getD i default).Phis.getD k default).Args.getD j 0,((f.Blocks.getD i default).Phis.getD k default).From.getD j 0,1000,(((f.Blocks.getD i default).Phis.getD k default).Bits,1)⟩:C9)]) (λ_ _=>zzL8 _) (F1 f (i:Int) (k:Int)) (λacc j hj hA=>by
   unfold F1
   have hd:decide ((j:Int)<(((f.Blocks.getD i default).Phis.getD k default).Args.length:Int))=true:=by simpa using hj
   simp only[Co,hd,Af,Aa (Ag hj),Aa (Ag (Nat.lt_of_lt_of_le hj hfit)),A0 hj (by omega),Aa (hbig (n:=acc.length) (by omega) _)]) (λacc=>by unfold F1;simp) ((f.Blocks.getD i default).Phis.getD k default).Args.length 0 acc (by omega) (by omega)
  rw[show(0:Int)=((0:Nat):Int) from rfl,this,Pd,P7]
 have h2:∀(i:Nat),i<f.Blocks.length->∀ acc:List C9,acc.length<=40000000->Ad (F2 f (i:Int)) (acc,(0:Int))=some (acc++Oi (f.Blocks.getD i default)):=λi hi acc hacc=>by
  have hmem:=Ai (d:=(default:Ab)) hi;have hB:=hf.block _ hmem
  have:=Ls (f.Blocks.getD i default).Phis.length 40000000 64 (λ(k:Nat)=>Pd ((f.Blocks.getD i default).Phis.getD k default)) (λk hk=>by have:=JC ((f.Blocks.getD i default).Phis.getD k default);have:=(RL hf hmem (Ai (d:=(default:Bf)) hk)).2;omega) (F2 f (i:Int)) (λacc k hk hA=>by
   unfold F2
   have hd:decide ((k:Int)<((f.Blocks.getD i default).Phis.length:Int))=true:=by simpa using hk
   have h5:=hB.phis;have h6:k*64<=512*64:=Hg _ (by omega)
   simp only[Co,hd,Af,Aa (Ag hk),h1 i hi k hk acc (by omega),Aj,A0 hk (by omega)]) (λacc=>by unfold F2;simp) (f.Blocks.getD i default).Phis.length 0 acc (by omega) (by omega)
  rw[show(0:Int)=((0:Nat):Int) from rfl,this,Oi,P7]
 have h3:∀(i:Nat),i<f.Blocks.length->∀(k:Nat),k<(f.Blocks.getD i default).Ops.length->∀ acc:List C9,acc.length<=50000000->Ad (F3 f (i:Int) (k:Int) (Jb ((f.Blocks.getD i default).Ops.getD k default))) (acc,(0:Int))=some (acc++Sn ((f.Blocks.getD i default).Ops.getD k default) i k):=λi hi k hk acc hacc=>by
  have hmem:=Ai (d:=(default:Ab)) hi;have hom:=Ai (d:=(default:A2)) hk;have hlen:=Yp (XX hf hmem hom)
  have:=Ls (Jb ((f.Blocks.getD i default).Ops.getD k default)).length 50000000 1 (λ(j:Nat)=>[(⟨((f.Blocks.getD i default).Ops.getD k default).Args.getD j 0,i,k,(Jb ((f.Blocks.getD i default).Ops.getD k default)).getD j (0,0)⟩:C9)]) (λ_ _=>zzL8 _) (F3 f (i:Int) (k:Int) (Jb ((f.Blocks.getD i default).Ops.getD k default))) (λacc j hj hA=>by
   unfold F3
   have hd:decide ((j:Int)<((Jb ((f.Blocks.getD i default).Ops.getD k default)).length:Int))=true:=by simpa using hj
   simp only[Co,hd,Af,Aa (Ag hk),Aa (Ag hj),Aa (Ag (Nat.lt_of_lt_of_le hj hlen.2)),A0 hj (by omega),Aa (hbig (n:=acc.length) (by omega) _)]) (λacc=>by unfold F3;simp) (Jb ((f.Blocks.getD i default).Ops.getD k default)).length 0 acc (by omega) (by omega)
  rw[show(0:Int)=((0:Nat):Int) from rfl,this,Sn,P7]
 have h4:∀(i:Nat),i<f.Blocks.length->∀ acc:List C9,acc.length<=40000000->Ad (F4 f (i:Int)) (acc,(0:Int))=some (acc++U2 (f.Blocks.getD i default) i):=λi hi acc hacc=>by
  have hmem:=Ai (d:=(default:Ab)) hi;have hB:=hf.block _ hmem
  have:=Ls (f.Blocks.getD i default).Ops.length 40000000 64 (λ(k:Nat)=>Sn ((f.Blocks.getD i default).Ops.getD k default) i k) (λk hk=>by have:=NF ((f.Blocks.getD i default).Ops.getD k default) i k;have:=(Yp (XX hf hmem (Ai (d:=(default:A2)) hk))).1;omega) (F4 f (i:Int)) (λacc k hk hA=>by
   unfold F4
   have hd:decide ((k:Int)<((f.Blocks.getD i default).Ops.length:Int))=true:=by simpa using hk
   have h5:=hB.ops;have h6:k*64<=512*64:=Hg _ (by omega);have ht:G8 ((f.Blocks.getD i default).Ops.getD k default)=some (Jb ((f.Blocks.getD i default).Ops.getD k default)):=mG _ (mB hf hmem (Ai (d:=(default:A2)) hk))
   simp only[Co,hd,Af,Aa (Ag hk),ht,Aj,h3 i hi k hk acc (by omega),A0 hk (by omega)]) (λacc=>by unfold F4;simp) (f.Blocks.getD i default).Ops.length 0 acc (by omega) (by omega)
  rw[show(0:Int)=((0:Nat):Int) from rfl,this,U2,P7]
 have hb:=Ls f.Blocks.length 0 70000 (λ(i:Nat)=>NE f (f.Blocks.getD i default) i) (λi hi=>YO hf hi) (Iq f) (λacc i hi hA=>by
   unfold Iq
   have hd:decide ((i:Int)<(f.Blocks.length:Int))=true:=by simpa using hi
   have hmem:=Ai (d:=(default:Ab)) hi;have h64:=hf.blocks;have q1:i*70000<=64*70000:=Hg _ (by omega);have q2:=NG hf hmem;have q3:=SS hf hmem i;have e1:=h4 i hi (acc++Oi (f.Blocks.getD i default)) (by rw[Du];omega)
   have l1:(acc++Oi (f.Blocks.getD i default)++U2 (f.Blocks.getD i default) i).length<=50000000:=by rw[Du,Du];omega
   simp only[hd,Af,Aa (Ag hi),h2 i hi acc (by omega),Aj,e1,Co,Aa (hbig (n:=(acc++Oi (f.Blocks.getD i default)++U2 (f.Blocks.getD i default) i).length) (by omega) _),NE,EI]
   cases(f.Blocks.getD i default).End.Kind==0 with
   | true=>
    simp only[Af,Aj]
    cases(f.Blocks.getD i default).End.Kind==2 with
    | true=>rw[Aa (by rw[Du];have:=hbig (n:=(acc++Oi (f.Blocks.getD i default)++U2 (f.Blocks.getD i default) i).length+1) (by omega) (default:C9);simpa using this)];simp[A0 hi (by omega:f.Blocks.length<9223372036854775808)]
    | false=>simp[A0 hi (by omega:f.Blocks.length<9223372036854775808)]
   | false=>
    simp only[Ar,Aj]
    cases(f.Blocks.getD i default).End.Kind==2 with
    | true=>rw[Af,Aa (hbig (n:=(acc++Oi (f.Blocks.getD i default)++U2 (f.Blocks.getD i default) i).length) (by omega) _)];simp[A0 hi (by omega:f.Blocks.length<9223372036854775808)]
    | false=>simp[A0 hi (by omega:f.Blocks.length<9223372036854775808)]) (λacc=>by unfold Iq;simp) f.Blocks.length 0 [] (by omega) (by simp)
 unfold K3;rw[show(0:Int)=((0:Nat):Int) from rfl,hb,Aj,B5,P7,V2]
def gm(n:Nat)(l:List Int)(i:Nat):Bool:=decide ((if i=0 then(-1:Int) else l.getD (i-1) 0)<l.getD i 0)&&(decide (0<=l.getD i 0)&&decide (l.getD i 0<n))
def mp(n:Nat)(l:List Int):Bool:=(List.range l.length).all (gm n l)
def Ny(L:List (List Int)):Bool:=decide (1<=L.length)&&decide (L.length<=64)&&(List.range L.length).all λi=>mp L.length (L.getD i [])
def Y3(L:List (List Int))(k i:Nat):Bool:=(L.getD k []).contains (i:Int)
def Kf(L:List (List Int))(m i:Nat):List Int:=((List.range m).filter λk=>Y3 L k i).map Int.ofNat
def Cc(L:List (List Int)):List (List Int):=(List.range L.length).map (Kf L L.length)
theorem W4(a n:Int):Kh a n=some (decide (0<=a)&&decide (a<n)):=by
 unfold Kh
 cases decide (0<=a)<;>rfl
theorem XQ(n:Nat):Ml (n:Int)=some (decide (1<=n)&&decide (n<=64)):=by
 unfold Ml
 have h1:decide ((1:Int)<=n)=decide (1<=n):=by grind
 have h2:decide (n<=(64:Int))=decide (n<=64):=by grind
 rw[h1,h2]
 cases decide (1<=n)<;>rfl
theorem SN(L:List (List Int))(i:Nat)(hl:(L.getD i []).length<4611686018427387904) :
  Ad (Hj L (i:Int)) ((-1:Int),(0:Int))=some (bif mp L.length (L.getD i []) then .inl () else .inr false):=by
 refine H7 (Hj L i) (λj=>((if j=0 then -1 else(L.getD i []).getD (j-1) 0),(j:Nat))) _ _ _ _ (λj hj hp=>?_) (λj hj hp=>?_) ?_
 ·unfold gm at hp;simp only[A1,Dq]at hp;obtain⟨h1,h2,h3⟩:=hp;unfold Hj;simp only[Ap,B4 hj, W4];rw[Ac (Fc hj)]
  have e1:decide ((L.getD i []).getD j 0<=(if j=0 then -1 else(L.getD i []).getD (j-1) 0))=false:=by simpa using h1
  simp only[e1,F6 h2,F6 h3,     Dt];rw[w1 (show j<4611686018427387904 by omega)]
  simp
 ·unfold Hj;simp only[Ap,B4 hj, W4];rw[Ac (Fc hj)]
  cases h1:decide ((L.getD i []).getD j 0<=(if j=0 then -1 else(L.getD i []).getD _ 0)) with
  | true=>grind
  | false=>
   have h1':decide ((if j=0 then -1 else(L.getD i []).getD (j-1) 0)<(L.getD i []).getD j 0)=true:=by simpa using h1
   unfold gm at hp;rw[h1',Jj]at hp;simp only[U9,Af,Ar,Aj,hp,Mu]
 ·unfold Hj;simp only[Ap,Dh,Ar]
def Fits(L:List (List Int)):Prop:=L.length<4611686018427387904/\∀ l∈L,l.length<4611686018427387904
theorem Fits.at{L:List (List Int)}(h:Fits L)(i:Nat):(L.getD i []).length<4611686018427387904:=by
 by_cases hi:i<L.length
 ·exact h.2 _ (Ai hi)
 ·grind
theorem lp(L:List (List Int))(h:Fits L):Pn L=some (Ny L):=by
 unfold Pn;rw[XQ,Aj];unfold Ny
 cases hc:(decide (1<=L.length)&&decide (L.length<=64)) with
 | false=>rfl
 | true=>
  simp only[Dt,Ar,Jj];have:=H7 (Df L) (λj=>((j:Nat):Int)) (λi=>mp L.length (L.getD i [])) (.inl ()) (.inr false) L.length (λj hj hp=>?_) (λj hj hp=>?_) ?_
  ·rw[show Ad (Df L) (0:Int)=_ from this]
   cases(List.range L.length).all λi=>mp L.length (L.getD i [])<;>rfl
  ·show Df L (j:Int)=_
   unfold Df;simp only[B4 hj,Af];rw[Ac (Fc hj),SN L j (h.at j),hp];simp only[Af,Aj,w1 (show j<4611686018427387904 by have:=h.1;omega)]
  ·show Df L (j:Int)=_
   unfold Df;simp only[B4 hj,Af];rw[Ac (Fc hj),SN L j (h.at j),hp]
   rfl
  ·show Df L _=_
   unfold Df;simp only[Dh,Ar]
theorem Si{α:Type}{n i:Nat}{g:Nat->α}{d:α}(h:i<n):((List.range n).map g).getD i d=g i:=by simp[ h]
theorem CK{α:Type}{n i:Nat}{g:Nat->α}{x:α}:((List.range n).map g).set i x=(List.range n).map λj=>if j=i then x else g j:=by
 apply List.ext_getElem?
 intro j;rw[List.getElem?_set]
 by_cases hj:j<n
 ·grind
 ·grind
theorem Ha{α:Type}{n:Nat}{g h:Nat->α}(H:∀ i,i<n->g i=h i):(List.range n).map g=(List.range n).map h:=bV λi hi=>H i (zzL84.1 hi)
theorem mayS_iff{L:List (List Int)}:Ny L=true↔1<=L.length/\L.length<=64/\∀ i,i<L.length->mp L.length (L.getD i [])=true:=by
 unfold Ny;rw[A1,A1,all_range];simp only[Dq];exact⟨λ⟨⟨a,b⟩,c⟩=>⟨a,b,c⟩,λ⟨a,b,c⟩=>⟨⟨a,b⟩,c⟩⟩
theorem okL_iff{n:Nat}{l:List Int}:mp n l=true↔∀ i,i<l.length->(0<=l.getD i 0/\l.getD i 0<n)/\(0<i->l.getD (i-1) 0<l.getD i 0):=by
 unfold mp;rw[all_range];unfold gm;simp only[A1,Dq]
 constructor
 ·grind
 ·intro h i hi;obtain⟨⟨h2,h3⟩,h1⟩:=h i hi
  by_cases hz:i=0
  · omega
  ·grind
section
variable {n:Nat} {l:List Int} (h:mp n l=true)
include h
theorem BP{i:Nat}(hi:i<l.length):0<=l.getD i 0/\l.getD i 0<n:=(okL_iff.1 h i hi).1
theorem pZ{i j:Nat}(hij:i<j)(hj:j<l.length):l.getD i 0<l.getD j 0:=by
 induction j with
 | zero=>omega
 | succ j ih=>
  have h1:=(okL_iff.1 h _ hj).2 (by omega)
  by_cases he:i=j
  ·rw[he];exact h1
  ·grind
theorem xT{i:Nat}(hi:i<l.length):(i:Int)<=l.getD i 0:=by
 induction i with
 | zero=>exact(BP h hi).1
 | succ i ih=>
  have:=pZ h (show i<i+1 by omega) hi;omega
theorem EA:l.length<=n:=by
 by_cases hz:l.length=0
 ·omega
 ·have h1:=xT h (show l.length-1<l.length by omega);have h2:=(BP h (show l.length-1<l.length by omega)).2;omega
theorem aq{x:Int}(hx:x∈l):0<=x/\x<n:=by
 obtain⟨i,hi,rfl⟩:=N6 hx;have:=BP h hi;rwa[An _ _ _ hi]at this
end
theorem xU{n:Nat}{l:List Int}(h1:∀ x∈l,0<=x/\x<n)(h2:l.Pairwise (·<·)):mp n l=true:=by
 rw[okL_iff];intro i hi;rw[An _ _ _ hi];refine⟨h1 _ (LJ hi),λhp=>?_⟩;rw[An _ _ _ (show i-1<l.length by omega)];exact(zzL108.1 h2) _ _ _ _ (by omega)
theorem T9{L:List (List Int)}(h:Ny L=true):L.length<=64/\∀ l∈L,l.length<=64:=by
 obtain⟨h1,h2,h3⟩:=mayS_iff.1 h;refine⟨h2,λl hl=>?_⟩;obtain⟨i,hi,rfl⟩:=N6 hl;have:=EA (h3 i hi);rw[An _ _ _ hi]at this;omega
theorem th{L:List (List Int)}(h:L.length<=1000/\∀ l∈L,l.length<=1000):Fits L:=⟨by omega,λl hl=>by have:=h.2 l hl;omega⟩
theorem CD(L:List (List Int))(k i:Nat):Kf L (k+1) i=Kf L k i++(if Y3 L k i=true then[(k:Int)] else[]):=by
 unfold Kf;rw[FM,FL];cases hg:Y3 L k i<;>simp[hg]
theorem Yl(L:List (List Int))(k i:Nat):(Kf L k i).length<=k:=by
 unfold Kf;have:=List.length_filter_le (λk=>Y3 L k i) (List.range k)
 simpa using this
theorem XF{l:List Int}{j:Nat}(hj:j<l.length):l.take (j+1)=l.take j++[l.getD j 0]:=by
 simp_all
def V8(L:List (List Int))(k j i:Nat):Bool:=((L.getD k []).take j).contains (i:Int)
def O0(L:List (List Int))(k j:Nat):List (List Int):=(List.range L.length).map λi=>Kf L k i++(if V8 L k j i=true then[(k:Int)] else[])
theorem cj(L:List (List Int))(h:Ny L=true)(k j:Nat)(hk:k<L.length)(hj:j<(L.getD k []).length) :
  (O0 L k j).set ((L.getD k []).getD j 0).toNat ((O0 L k j).getD ((L.getD k []).getD j 0).toNat []++[(k:Int)])=O0 L k (j+1):=by
 obtain⟨h1,h2,h3⟩:=mayS_iff.1 h;have hok:=h3 k hk;obtain⟨a0,a1⟩:=BP hok hj;unfold O0;rw[Si (by omega),CK]
 apply Ha
 intro i hi
 have hnot:V8 L k j ((L.getD k []).getD j 0).toNat=false:=by
  unfold V8;rw[K9 a0]
  cases hc:((L.getD k []).take j).contains _ with
  | false=>rfl
  | true=>
   rw[zzL63]at hc;obtain⟨m,hm,he⟩:=N6 hc
   have hm':m<j:=by simp at hm;omega
   rw[List.getElem_take]at he;have:=pZ hok hm' hj;rw[An _ _ _ (show m<(L.getD k []).length by omega)]at this;omega
 by_cases hi2:i=((L.getD k []).getD j 0).toNat
 ·rw[ hnot]
  have:V8 L k (j+1) i=true:=by
   unfold V8;rw[XF hj, hi2,K9 a0]
   simp
  rw[this,hi2]
  simp
 ·rw[if_neg hi2]
  have:V8 L k (j+1) i=V8 L k j i:=by
   unfold V8;rw[XF hj,Zd,zzL63,zzL63,zzL13]
   constructor
   ·grind
   ·exact .inl
  rw[this]
theorem dR(L:List (List Int))(h:Ny L=true):Nu L=some (Cc L):=by
 obtain⟨h1,h2,h3⟩:=mayS_iff.1 h
 have hroom:(1000:Nat)<=room:=by decide
 unfold Nu;rw[Ac ⟨by omega,Int.le_refl _,by omega⟩,Ap]
 have inner:∀ k,k<L.length->Ad _ ((0:Int),O0 L k 0)=some (O0 L k (L.getD k []).length):=λk hk=>by
  have hok:=h3 k hk;refine Fl (M9 L (k:Int)) (λj=>(((j:Nat):Int),O0 L k j)) _ (L.getD k []).length (λj hj=>?_) ?_
  ·obtain⟨a0,a1⟩:=BP hok hj
   have hlen:(O0 L k j).length=L.length:=by simp[O0]
   have hl64:=EA hok;unfold M9;simp only[Ap,B4 hj,Af];have hb:As ((L.getD k []).getD j 0) (O0 L k j).length:=⟨a0,by rw[hlen];exact a1⟩
   have hrow:((O0 L k j).getD ((L.getD k []).getD j 0).toNat []).length<=k+1:=by
    unfold O0;rw[Si (by omega),Du];have:=Yl L k ((L.getD k []).getD j 0).toNat
    split
    ·rw[FK];omega
    ·rw[List.length_nil];omega
   rw[Ac (Fc hj),Ac hb,Ac hb,Ac (by grind),Ac hb,cj L h k j hk hj,w1 (by omega)]
  ·unfold M9;simp only[Ap,Dh,Ar]
 have r0:∀ k,O0 L k 0=(List.range L.length).map (Kf L k):=λk=>by
  unfold O0
  apply Ha
  intro i _;simp[V8]
 have r1:∀ k,O0 L k (L.getD k []).length=(List.range L.length).map (Kf L (k+1)):=λk=>by
  unfold O0
  apply Ha
  intro i _;rw[CD];unfold V8 Y3;rw[TF]
 have:Ad (Kp L) ((0:Int),(List.range L.length).map (Kf L 0))=some (Cc L):=Fl (Kp L) (λk=>(((k:Nat):Int),(List.range L.length).map (Kf L k))) (Cc L) L.length (λk hk=>?_) ?_
 ·have e0:(List.replicate L.length ([]:List Int))=(List.range L.length).map (Kf L 0):=by
   apply List.ext_getElem?
   intro i
   by_cases hi:i<L.length<;>simp[hi,List.getElem?_replicate,Kf]
  rw[e0,this];rfl
 ·unfold Kp;simp only[B4 hk,Af];rw[Ac (Fc hk),<- r0,inner k hk,r1,w1 (by omega)]
  rfl
 ·unfold Kp;simp only[Dh,Ar]
  rfl
theorem Vn{α:Type}[DecidableEq α]{a b:List α}{d:α}(h:a.length=b.length):((List.range a.length).all λi=>decide (a.getD i d=b.getD i d))=decide (a=b):=by
 rw[Zd,all_range,Dq]
 constructor
 ·intro hall
  apply NL h
  intro i h1 h2;have:=LH (hall i h1);rwa[An _ _ _ h1,An _ _ _ h2]at this
 ·rintro rfl i _
  simp
theorem HZ{a b:Nat}:(((a:Nat):Int)!=(b:Int))=decide (a≠b):=by
 grind
theorem ZZ{a b:Int}:(a !=b) = !decide (a=b):=by
 grind
theorem OZ(a b:List Int)(hb:b.length<4611686018427387904):Ei a b=some (decide (a=b)):=by
 unfold Ei;rw[HZ]
 by_cases hl:a.length=b.length
 ·rw[Dl (by simpa using hl)];have:Ad (Eo a b) 0=_:=H7 _ (λj=>(j:Int)) (λi=>decide (a.getD i 0=b.getD i 0)) (.inl ()) (.inr false) a.length (λj hj hp=>?_) (λj hj hp=>?_) ?_
  ·rw[this,Vn hl]
   cases decide (a=b)<;>rfl
  ·unfold Eo;simp only[Ap,B4 hj];rw[Ac (Fc hj),Ac (Fc (by omega)),ZZ,hp,w1 (by omega)]
   rfl
  ·unfold Eo;simp only[Ap,B4 hj];rw[Ac (Fc hj),Ac (Fc (by omega)),ZZ,hp]
   rfl
  ·unfold Eo;simp only[Dh,Ar]
 ·rw[F6 (by simpa using hl),Af,Dl (λh=>hl (by rw[h]))]
theorem ga(a b:List Int)(ha:a.length<4611686018427387904):Ck a b=some (decide (a=b)):=by
 unfold Ck;rw[HZ]
 by_cases hl:a.length=b.length
 ·rw[Dl (by simpa using hl)];have:Ad _ (0:Int)=_:=H7 (Fs a b) (λj=>(j:Nat)) (λi=>decide (a.getD i 0=b.getD i 0)) (.inl ()) (.inr false) a.length (λj hj hp=>?_) (λj hj hp=>?_) ?_
  ·rw[this,Vn hl]
   cases decide (a=b)<;>rfl
  ·unfold Fs;simp only[Ap,B4 hj];rw[Ac (Fc hj),Ac (Fc (by omega)),ZZ,hp,w1 (by omega)]
   rfl
  ·unfold Fs;simp only[Ap,B4 hj];rw[Ac (Fc hj),Ac (Fc (by omega)),ZZ,hp]
   rfl
  ·unfold Fs;simp only[Dh,Ar]
 ·rw[F6 (by simpa using hl),Af,Dl (λh=>hl (by rw[h]))]
theorem dS(a b:List (List Int))(hb:Fits b):Dg a b=some (decide (a=b)):=by
 unfold Dg;rw[HZ]
 by_cases hl:a.length=b.length
 ·rw[Dl (by simpa using hl)];have hb1:=hb.1;have:Ad _ (0:Int)=_:=H7 (B2 a b) (λj=>(j:Nat)) (λi=>decide (a.getD i []=b.getD i [])) (.inl ()) (.inr false) a.length (λj hj hp=>?_) (λj hj hp=>?_) ?_
  ·rw[this,Vn hl]
   cases decide (a=b)<;>rfl
  ·unfold B2;simp only[Ap,B4 hj];rw[Ac (Fc hj),Ac (Fc (by omega)),OZ _ _ (hb.at j),hp,w1 (by omega)]
   rfl
  ·unfold B2;simp only[Ap,B4 hj];rw[Ac (Fc hj),Ac (Fc (by omega)),OZ _ _ (hb.at j),hp]
   rfl
  ·unfold B2;simp only[Dh,Ar]
 ·rw[F6 (by simpa using hl),Af,Dl (λh=>hl (by rw[h]))]
theorem Pv(L:List (List Int)):(Cc L).length=L.length:=by simp[Cc]
theorem EB{L:List (List Int)}{i:Nat}(hi:i<L.length):(Cc L).getD i []=Kf L L.length i:=by unfold Cc;rw[Si hi]
theorem Tz{L:List (List Int)}(h:Ny L=true):(Cc L).length<=64/\∀ l∈Cc L,l.length<=64:=by
 obtain⟨h1,_⟩:=T9 h;refine⟨by rw[Pv];exact h1,λl hl=>?_⟩;obtain⟨i,hi,rfl⟩:=zzL21.1 hl;have:=Yl L L.length i;omega
theorem Uz{L:List (List Int)}(h:L.length<=64/\∀ l∈L,l.length<=64):Fits L:=th ⟨by omega,λl hl=>by have:=h.2 l hl;omega⟩
def EP(g:TGraph):Bool:=Ny g.Succ&&decide (g.Pred=Cc g.Succ)
theorem vZ(g:TGraph)(h:Fits g.Succ):Vt g=some (EP g):=by
 unfold Vt EP;rw[lp _ h]
 cases hm:Ny _ with
 | false=>rfl
 | true=>
  simp only[U9,Af,dR _ hm,Aj,dS _ _ (Uz (Tz hm)),Jj]
def J9(L:List (List Int)):TGraph:=⟨L,Cc L⟩
def g0:TGraph:=⟨[],[]⟩
theorem dW{L:List (List Int)}(h:Ny L=true):EP (J9 L)=true:=by simp[EP,J9,h]
theorem pH(l:List Int)(x:Int)(h:l.length<4611686018427387904):Gr l x=some (l.contains x):=by
 unfold Gr;have:Ad _ (0:Int)=_:=H7 (Gi l x) (λj=>(j:Nat)) (λi=>!decide (l.getD i 0=x)) (.inl ()) (.inr true) l.length (λj hj hp=>?_) (λj hj hp=>?_) ?_
 ·rw[this]
  have e:l.contains x = !((List.range l.length).all λi=>!decide (l.getD i 0=x)):=by
   rw[Zd,zzL63,Rm,<- Bool.not_eq_true,all_range]
   constructor
   ·intro hx hall;obtain⟨i,hi,rfl⟩:=N6 hx;have:=hall i hi;rw[An _ _ _ hi]at this;simp at this
   ·grind
  rw[e]
  cases(List.range _).all _<;>rfl
 ·unfold Gi;simp only[Ap,B4 hj]
  have:(l.getD j 0==x)=false:=by simpa using hp
  rw[Ac (Fc hj),this,w1 (by omega)]
  rfl
 ·unfold Gi;simp only[Ap,B4 hj]
  have:(l.getD j 0==x)=true:=by simpa using hp
  rw[Ac (Fc hj),this]
  rfl
 ·unfold Gi;simp only[Dh,Ar]
theorem YI{X:Type}(a b:List (List Int))(f:Int->Option (LR Int (Unit ⊕ Bool)))(ha:Fits a)(hl:a.length=b.length)
  (hn:∀ i:Nat,i<a.length->f (i:Int)=(Ck (a.getD i []) (b.getD i [])).bind λx=>bif (!x) then some (.done (.inr false)) else some (.next (w64 ((i:Int)+1)))) (he:f (a.length:Int)=some (.done (.inl ()))) :
  Ad f (0:Int)=some (bif decide (a=b) then .inl () else .inr false):=by
 have ha1:=ha.1;have:Ad f 0=_:=H7 f (λj=>(j:Int)) (λi=>decide (a.getD i []=b.getD i [])) _ (.inr false) _ (λj hj hp=>?_) (λj hj hp=>?_) he
 ·rw[this,Vn hl]
 ·rw[hn j hj,ga _ _ (ha.at j),hp,w1 (by omega)];rfl
 ·rw[hn j hj,ga _ _ (ha.at j),hp];rfl
theorem xM(a b:TGraph)(h1:Fits a.Succ)(h2:Fits a.Pred):Ky a b=some (decide (a=b)):=by
 have e:decide (a=b)=(decide (a.Succ=b.Succ)&&decide (a.Pred=b.Pred)):=by
  cases a;cases b
  simp
 rw[e];unfold Ky;rw[HZ,HZ]
 by_cases hs:a.Succ.length=b.Succ.length
 ·by_cases hp:a.Pred.length=b.Pred.length
  ·rw[Dl (by simpa using hs), Dl (by simpa using hp)]
   have s1:=YI (X:=Unit) _ _ (Ij a b) h1 hs (λi hi=>by
    unfold Ij;simp only[Ap,B4 hi,Af]
    rw[Ac (Fc hi),Ac (Fc (by omega))]) (by
    unfold Ij
    simp only[Dh,Ar])
   have s2:=YI (X:=Unit) _ _ (Ik a b) h2 hp (λi hi=>by
    unfold Ik;simp only[Ap,B4 hi,Af]
    rw[Ac (Fc hi),Ac (Fc (by omega))]) (by
    unfold Ik
    simp only[Dh,Ar])
   rw[s1]
   cases decide (a.Succ=b.Succ) with
   | false=>rfl
   | true=>
    grind
  ·grind
 ·grind
theorem M5{R:Type}{c:Bool}{q:Prop}[Decidable q]{k:Option R}(h:q):Aw (c=true->q) k=k:=Ac λ_=>h
def oE(n:Nat)(l:List Int)(j:Nat):Bool:=
 bif (bif decide (l.getD j 0<0) then true else decide ((n:Int)<=l.getD j 0)) then true else(bif decide ((0:Int)<(j:Int)) then decide (l.getD j 0<=l.getD (j-1) 0) else false)
theorem oF(n:Nat)(l:List Int)(j:Nat):oE n l j = !gm n l j:=by
 unfold oE gm
 by_cases h0:l.getD j 0<0
 ·grind
 ·grind
theorem MY(L:List (List Int))(i:Nat)(hi:i<L.length)(hl:(L.getD i []).length<4611686018427387904) :
  Ad (Dx L (i:Int)) (0:Int)=some (bif mp L.length (L.getD i []) then .inl () else .inr (g0,5)):=by
 have hw:∀ j:Nat,j<(L.getD i []).length->0<j->w64 (j-1)=(j-1:Nat):=λj hj hp=>by rw[Em (by omega) (by omega)];omega
 have step:∀ j,j<(L.getD i []).length->Dx L i j=bif oE _ _ j then some _ else some (.next ((j+1:Nat))):=λj hj=>by
  unfold Dx;simp only[Ap,B4 hj];rw[Ac (Fc hi),Ac (Fc hi),Ac (Fc hj),M5 (Fc hi),M5 (Fc hj),M5 (Fc hi),M5 (Fc hj),M5 (Fc hi),w1 (by omega)]
  by_cases hz:j=0
  ·subst hz
   have:decide (0<((0:Nat):Int))=false:=by decide
   rw[this];rw[show((false==true)=false) from rfl,Bool.and_false]
   rfl
  ·rw[hw j hj (by omega),M5 (Fc (by omega))]
   rfl
 have:=H7 (Dx L i) (λj=>(j:Nat)) (gm L.length (L.getD i [])) (.inl ()) (.inr (g0,5)) (L.getD i []).length (λj hj hp=>?_) (λj hj hp=>?_) ?_
 ·exact this
 ·rw[step j hj,oF,hp];rfl
 ·rw[step j hj,oF,hp];rfl
 ·unfold Dx;simp only[Ap,Dh,Ar];rw[Ac (Fc hi)]
theorem WD(L:List (List Int))(h:Ny L=true):Ad (Dy L) ((0:Int),List.replicate L.length ([]:List Int))=some (Cc L):=by
 obtain⟨h1,h2,h3⟩:=mayS_iff.1 h
 have hroom:(1000:Nat)<=room:=by decide
 have hfit:=Uz (T9 h)
 let R:Nat->Nat->List (List Int):=λi k=>(List.range L.length).map λj=>if j<i then Kf L L.length j else if j=i then Kf L k i else[]
 have inner:∀ i,i<L.length->Ad _ ((0:Int),R i 0)=some (R i L.length):=λi hi=>by
  refine Fl (Ii L (i:Int)) (λk=>(((k:Nat):Int),R i k)) (R i L.length) L.length (λk hk=>?_) ?_
  ·have hlen:(R i k).length=L.length:=by simp[R]
   have hat:(R i k).getD i []=Kf L k i:=by simp only[R];rw[Si hi];simp
   unfold Ii;simp only[Ap,B4 hk,Af];rw[Ac (Fc hk),pH _ _ (hfit.at k),Aj,w1 (by omega)];have hg:Y3 L k i=(L.getD k []).contains (i:Int):=rfl;rw[<- hg,hat]
   have hs:(if Y3 L k i=true then(R i k).set i (Kf L k i++[(k:Int)]) else R i k)=R i (k+1):=by
    split
    ·rename_i hgo
     simp only[R];rw[CK]
     apply Ha
     intro j hj
     by_cases hji:j=i
     ·subst hji;simp[CD,hgo]
     ·simp[hji]
    ·rename_i hgo
     simp only[R]
     apply Ha
     intro j hj
     by_cases hji:j=i
     ·subst hji;simp[CD,hgo]
     ·simp[hji]
   rw[<- hs]
   cases hgo:Y3 L k i with
   | false=>rfl
   | true=>
    have:=Yl L k i;simp only[Af];rw[Ac (by rw[hlen];exact Fc hi),Ac (by rw[hlen];exact Fc hi),Ac (by rw[FK];omega),Ac (by rw[hlen];exact Fc hi)]
    rfl
  ·unfold Ii;simp only[Dh,Ar]
 have:Ad (Dy L) ((0:Int),R 0 0)=some (Cc L):=Fl (Dy L) (λi=>(((i:Nat):Int),R i 0)) (Cc L) L.length (λi hi=>?_) ?_
 ·have e0:List.replicate L.length ([]:List Int)=R 0 0:=by
   simp only[R]
   apply List.ext_getElem?
   intro j
   by_cases hj:j<L.length<;>simp[hj,List.getElem?_replicate,Kf]
  rw[e0,this]
 ·unfold Dy;simp only[B4 hi,Af];rw[inner i hi,w1 (by omega)];simp only[Aj]
  congr 3
  simp only[R]
  apply Ha
  intro j hj
  by_cases h4:j<i
  ·simp[h4,show j<i+1 by omega]
  ·by_cases h5:j=i
   ·subst h5;simp
   ·simp[h4,h5,show ¬ j<i+1 by omega];intro h6;simp[Kf]
 ·unfold Dy;simp only[Dh,Ar]
  congr 2
  simp only[R,Cc]
  apply Ha
  intro j hj;simp[hj]
theorem QV(L:List (List Int))(h:Fits L):H1 L=some (bif Ny L then(J9 L,0) else(g0,5)):=by
 have hroom:1000<=room:=by decide
 unfold H1
 have hc:(bif (L.length==(0:Int)) then true else decide (64<(L.length:Int))) = !(decide (1<=L.length)&&decide (L.length<=64)):=by
  grind
 rw[hc];have hm:Ny L=((decide _&&decide _)&&(List.range _).all _):=rfl
 cases hb:(decide (1<=L.length)&&decide (L.length<=64)) with
 | false=>rw[hm,hb];rfl
 | true=>
  have hb':=hb;simp only[A1,Dq]at hb';have:Ad (Fv L) 0=_:=H7 _ (λj=>(j:Int)) (λi=>mp L.length (L.getD i [])) (.inl ()) (.inr (g0,5)) L.length (λj hj hp=>?_) (λj hj hp=>?_) ?_
  ·rw[this]
   cases hall:(List.range L.length).all _ with
   | false=>rw[hm,hb,hall];rfl
   | true=>
    have hmay:Ny L=true:=by rw[hm,hb,hall];rfl
    rw[hmay];rw[Ac ⟨by omega,Int.le_refl _,by omega⟩,Ap,WD L hmay]
    rfl
  ·unfold Fv;simp only[B4 hj];rw[MY L j hj (h.at j),hp,w1 (by omega)]
   rfl
  ·unfold Fv;simp only[B4 hj];rw[MY L j hj (h.at j),hp]
   rfl
  ·unfold Fv;simp only[Dh,Ar]
theorem HU{L:List (List Int)}(h:Ny L=true):Fits (J9 L).Succ/\Fits (J9 L).Pred:=⟨Uz (T9 h),Uz (Tz h)⟩
theorem lk(g:TGraph)(h:Fits g.Succ):Lq g=some (EP g):=by
 unfold Lq EP;rw[QV _ h,Aj]
 cases hm:Ny _ with
 | false=>rfl
 | true=>
  simp only[Af,U9];rw[xM _ _ (HU hm).1 (HU hm).2];simp only[Aj]
  congr 1
  apply zzL74.2
  cases g with
  | mk s p=>
   simp only[J9,TGraph.mk.injEq,true_and];exact Wl
noncomputable section
def upd(s:Nat->Bool)(y:Nat):Nat->Bool:=λz=>decide (z=y) || s z
theorem upd_true{s:Nat->Bool}{y z:Nat}:upd s y z=true↔z=y\/s z=true:=by simp[upd]
theorem upd_false{s:Nat->Bool}{y z:Nat}:upd s y z=false↔z≠y/\s z=false:=by simp[upd]
inductive VL (S:Nat->List Nat):(Nat->Bool)->List Nat->(Nat->Bool)->List Nat->Prop
 | nil (s:Nat->Bool):VL S s [] s []
 | skip {s s':Nat->Bool} {y:Nat} {l o:List Nat} (h:s y=true) (t:VL S s l s' o):VL S s (y::l) s' o
 | step {s s1 s2:Nat->Bool} {y:Nat} {l o1 o2:List Nat} (h:s y=false) (a:VL S (upd s y) (S y) s1 o1) (b:VL S s1 l s2 o2):VL S s (y::l) s2 (o1++y::o2)
inductive Rch (S:Nat->List Nat):Nat->Nat->Prop
 | refl (x:Nat):Rch S x x
 | head {x y z:Nat} (h:y∈S x) (t:Rch S y z):Rch S x z
theorem Rch.tail{S:Nat->List Nat}{x y z:Nat}(h:Rch S x y)(hz:z∈S y):Rch S x z:=by
 induction h with
 | refl x=>exact .head hz (.refl _)
 | head h _ ih=>exact .head h (ih hz)
theorem Rch.trans{S:Nat->List Nat}{x y z:Nat}(h:Rch S x y)(k:Rch S y z):Rch S x z:=by
 induction h with
 | refl x=>exact k
 | head h _ ih=>exact .head h (ih k)
variable {S:Nat->List Nat} {s s':Nat->Bool} {l o:List Nat}
theorem VL.seen(h:VL S s l s' o)(z:Nat):s' z=true↔s z=true\/z∈o:=by
 induction h with
 | nil s=>simp
 | skip h _ ih=>exact ih
 | @step s s1 s2 y l o1 o2 h a b iha ihb=>
  rw[ihb,iha,upd_true]
  constructor
  ·grind
  ·grind
theorem VL.fresh(h:VL S s l s' o){z:Nat}(hz:z∈o):s z=false:=by
 induction h with
 | nil s=>cases hz
 | skip h _ ih=>exact ih hz
 | @step s s1 s2 y l o1 o2 h a b iha ihb=>
  rcases zzL13.1 hz with h1|h1
  ·exact(upd_false.1 (iha h1)).2
  ·rcases zzL27.1 h1 with rfl|h1
   ·exact h
   ·have:=ihb h1
    cases hs:s z with
    | false=>rfl
    | true=>rw[(a.seen z).2 (.inl (upd_true.2 (.inr hs)))]at this;cases this
theorem VL.nodup(h:VL S s l s' o):o.Nodup:=by
 induction h with
 | nil s=>exact List.nodup_nil
 | skip h _ ih=>exact ih
 | @step s s1 s2 y l o1 o2 h a b iha ihb=>
  rw[List.nodup_append];refine⟨iha,zzL116.2 ⟨λhy=>?_,ihb⟩,λu hu v hv=>?_⟩
  ·have:=b.fresh hy;rw[(a.seen y).2 (.inl (upd_true.2 (.inl rfl)))]at this
   cases this
  ·rintro rfl;rcases zzL27.1 hv with rfl|hv
   ·have:=a.fresh hu;rw[upd_true.2 (.inl rfl)]at this
    cases this
   ·have:=b.fresh hv;rw[(a.seen u).2 (.inr hu)]at this
    cases this
theorem VL.rch(h:VL S s l s' o){z:Nat}(hz:z∈o):∃ y∈l,Rch S y z:=by
 induction h with
 | nil s=>cases hz
 | skip h _ ih=>grind
 | @step s s1 s2 y l o1 o2 h a b iha ihb=>
  rcases zzL13.1 hz with h1|h1
  ·obtain⟨u,hu,hr⟩:=iha h1;exact⟨y,zzL38 ..,.head hu hr⟩
  ·rcases zzL27.1 h1 with rfl|h1
   ·exact⟨z,zzL38 ..,.refl z⟩
   ·grind
theorem VL.closed(h:VL S s l s' o):(∀ y∈l,s' y=true)/\∀ z∈o,∀ y∈S z,s' y=true:=by
 induction h with
 | nil s=>grind
 | @skip s s' y l o h t ih=>
  refine⟨λu hu=>?_,ih.2⟩;rcases zzL27.1 hu with rfl|hu
  ·exact(t.seen u).2 (.inl h)
  ·exact ih.1 u hu
 | @step s s1 s2 y l o1 o2 h a b iha ihb=>
  refine⟨λu hu=>?_,λz hz u hu=>?_⟩
  ·rcases zzL27.1 hu with rfl|hu
   ·exact(b.seen u).2 (.inl ((a.seen u).2 (.inl (upd_true.2 (.inl rfl)))))
   ·exact ihb.1 u hu
  ·rcases zzL13.1 hz with h1|h1
   ·exact(b.seen u).2 (.inl (iha.2 z h1 u hu))
   ·rcases zzL27.1 h1 with rfl|h1
    ·exact(b.seen u).2 (.inl (iha.1 u hu))
    ·exact ihb.2 z h1 u hu
theorem VL.above(h:VL S s l s' o)(hf:∀ z,∀ y∈S z,z<y){b:Nat}(hb:∀ y∈l,b<y):∀ z∈o,b<z:=by
 induction h generalizing b with
 | nil s=>intro z hz;cases hz
 | skip h _ ih=>exact ih (λy hy=>hb y (Lj _ hy))
 | @step s s1 s2 y l o1 o2 h a c iha ihb=>
  intro z hz;have hy:=hb y (zzL38 ..);rcases zzL13.1 hz with h1|h1
  ·exact iha (λu hu=>Nat.lt_trans hy (hf y u hu)) z h1
  ·rcases zzL27.1 h1 with rfl|h1
   ·exact hy
   ·exact ihb (λu hu=>hb u (Lj _ hu)) z h1
theorem VL.ahead(h:VL S s l s' o)(hf:∀ z,∀ y∈S z,z<y):∀ z∈o,∀ y∈S z,s y=true\/∃ A B,o=A++z::B/\y∈A:=by
 induction h with
 | nil s=>intro z hz;cases hz
 | skip h _ ih=>exact ih
 | @step s s1 s2 y l o1 o2 h a c iha ihb=>
  intro z hz u hu;rcases zzL13.1 hz with h1|h1
  ·have hzy :=a.above hf (λv hv=>hf y v hv) z h1;have hzu:=hf z u hu;rcases iha z h1 u hu with h2|⟨A,B,rfl,hA⟩
   ·rcases upd_true.1 h2 with rfl|h2
    ·omega
    ·exact .inl h2
   ·grind
  ·rcases zzL27.1 h1 with rfl|h1z
   ·have hzu:=hf z u hu;rcases(a.seen u).1 (a.closed.1 u hu) with h2|h2
    ·rcases upd_true.1 h2 with rfl|h2
     ·omega
     ·exact .inl h2
    ·grind
   ·rcases ihb z h1z u hu with h2|⟨A,B,rfl,hA⟩
    ·rcases(a.seen u).1 h2 with h3|h3
     ·rcases upd_true.1 h3 with rfl|h3
      ·obtain⟨P,Q,rfl⟩:=List.append_of_mem h1z;exact .inr ⟨o1++u::P,Q,by simp,by simp⟩
      ·exact .inl h3
     ·obtain⟨P,Q,rfl⟩:=List.append_of_mem h1z;exact .inr ⟨o1++y::P,Q,by simp,by simp[h3]⟩
    ·grind
def cf(n:Nat)(s:Nat->Bool):Nat:=((List.range n).filter λz=>!s z).length
theorem DO{n:Nat}{s:Nat->Bool}{y:Nat}(hy:y<n)(h:s y=false):cf n (upd s y)+1=cf n s:=by
 unfold cf
 induction n with
 | zero=>omega
 | succ n ih=>
  rw[FM,FL,FL,Du,Du]
  by_cases hyn:y=n
  ·subst hyn
   have e:(List.range y).filter (λz=>!upd s y z)=(List.range y).filter (λz=>!s z):=by
    apply List.filter_congr
    intro z hz;have:=zzL84.1 hz;simp[upd,show z≠y by omega]
   rw[e];simp[upd,h]
  ·have e:([n].filter λz=>!upd s y z).length=([n].filter λz=>!s z).length:=by
    simp only[List.filter_cons, upd];simp[Rn hyn]
   omega
theorem cg{n:Nat}{s s':Nat->Bool}(h:∀ z,s z=true->s' z=true):cf n s'<=cf n s:=by
 apply List.Sublist.length_le
 have:(List.range n).filter (λz=>!s' z)=((List.range n).filter λz=>!s z).filter λz=>!s' z:=by
  rw[List.filter_filter]
  apply List.filter_congr
  intro z _
  cases hs:s z with
  | false=>simp
  | true=>simp[h z hs]
 rw[this];exact List.filter_sublist
theorem VL.exist{n:Nat}(hS:∀ z,z<n->∀ y∈S z,y<n):∀(m:Nat) (s:Nat->Bool),cf n s<=m->∀ l:List Nat,(∀ y∈l,y<n)->∃ s' o,VL S s l s' o:=by
 intro m
 induction m with
 | zero=>
  intro s hm l
  induction l with
  | nil=>intro _;exact⟨s,[],.nil s⟩
  | cons y l ih=>
   intro hl;obtain⟨s',o,h⟩:=ih (λz hz=>hl z (Lj _ hz))
   cases hy:s y with
   | true=>exact⟨s',o,.skip hy h⟩
   | false=>have:=DO (hl y (zzL38 ..)) hy;omega
 | succ m ih=>
  intro s hm l
  induction l generalizing s with
  | nil=>intro _;exact⟨s,[],.nil s⟩
  | cons y l ihl=>
   intro hl
   cases hy:s y with
   | true=>
    obtain⟨s',o,h⟩:=ihl s hm (λz hz=>hl z (Lj _ hz));exact⟨s',o,.skip hy h⟩
   | false=>
    have hyn:=hl y (zzL38 ..);have:=DO hyn hy;obtain⟨s1,o1,h1⟩:=ih (upd s y) (by omega) _ (hS y hyn);have h2:cf n s1<=cf n s:=cg λz hz=>(h1.seen z).2 (.inl (upd_true.2 (.inr hz)));obtain⟨s2,o2,h3⟩:=ihl s1 (by omega) (λz hz=>hl z (Lj _ hz));exact⟨s2,_,.step hy h1 h3⟩
def one(r:Nat):Nat->Bool:=λz=>decide (z=r)
def Ord(S:Nat->List Nat)(r:Nat)(L:List Nat):Prop:=∃ s' o,VL S (one r) (S r) s' o/\L=r::o.reverse
theorem Ord.exist{n:Nat}(hS:∀ z,z<n->∀ y∈S z,y<n){r:Nat}(hr:r<n):∃ L,Ord S r L:=by
 obtain⟨s',o,h⟩:=VL.exist hS _ _ (zzL8 _) _ (hS r hr);exact⟨_,s',o,h,rfl⟩
theorem Ord.mem{r:Nat}{L:List Nat}(h:Ord S r L)(z:Nat):z∈L↔Rch S r z:=by
 obtain⟨s',o,h,rfl⟩:=h
 have hs:∀ z,s' z=true↔z=r\/z∈o:=λz=>by rw[h.seen];simp[one]
 have hc:∀ x,s' x=true->∀ y∈S x,s' y=true:=λx hx y hy=>by
  rcases(hs x).1 hx with rfl|hx
  ·exact h.closed.1 y hy
  ·exact h.closed.2 x hx y hy
 simp only[zzL27,List.mem_reverse];rw[<- hs z]
 constructor
 ·intro hz;rcases(hs z).1 hz with rfl|hz
  ·exact .refl _
  ·obtain⟨y,hy,hr⟩:=h.rch hz;exact .head hy hr
 ·intro hr
  have key:∀ x z,Rch S x z->s' x=true->s' z=true:=by
   intro x z hxz
   induction hxz with
   | refl x=>exact id
   | head hy _ ih=>grind
  exact key r z hr ((hs r).2 (.inl rfl))
theorem Ord.nodup{r:Nat}{L:List Nat}(h:Ord S r L):L.Nodup:=by
 obtain⟨s',o,h,rfl⟩:=h;refine zzL116.2 ⟨λhr=>?_,(List.reverse_perm o).nodup_iff.2 h.nodup⟩;have:=h.fresh (List.mem_reverse.1 hr);simp[one]at this
theorem Ord.fwd{r:Nat}{L:List Nat}(h:Ord S r L)(hf:∀ z,∀ y∈S z,z<y):∀ z∈L,∀ y∈S z,∃ A B,L=A++z::B/\y∈B:=by
 obtain⟨s',o,h,rfl⟩:=h;intro z hz y hy;have hzy:=hf z y hy;rcases zzL27.1 hz with rfl|hz
 ·refine⟨[],o.reverse,rfl,?_⟩;rcases(h.seen y).1 (h.closed.1 y hy) with h1|h1
  ·simp[one]at h1;omega
  ·grind
 ·have hz:=List.mem_reverse.1 hz;have hrz :=h.above hf (λv hv=>hf r v hv) z hz;rcases h.ahead hf z hz y hy with h1|⟨A,B,rfl,hA⟩
  ·simp[one]at h1;omega
  ·grind
end
theorem ll(l:List Int)(hl:l.length<4611686018427387904):E9 l=some l.reverse:=by
 unfold E9
 by_cases h0:l.length=0
 ·obtain rfl:l=[]:=zzL113.1 h0
  have:Ad Bh ((0:Int),(w64 ((([]:List Int).length:Int)-1)),([]:List Int))=some []:=by
   apply Ak
   unfold Bh;rw[Em (by simp) (by simp)]
   rfl
  rw[this];rfl
 ·have hw:w64 ((l.length:Int)-1)=((l.length-1:Nat):Int):=by rw[Em (by omega) (by omega)];omega
  rw[hw]
  let C:Nat->List Int:=λk=>(List.range l.length).map λi=>if i<k\/l.length-1-k<i then l.getD (l.length-1-i) 0 else l.getD i 0
  have hC:∀ k i,i<l.length->(C k).getD i 0=if i<k\/l.length-1-k<i then l.getD (l.length-1-i) 0 else l.getD i 0:=λk i hi=>by simp only[C];rw[Si hi]
  have hlen:∀ k,(C k).length=l.length:=λk=>by simp[C]
  have:=Fl Bh (λk=>(((k:Nat):Int),((l.length-1-k:Nat):Int),C k)) l.reverse (l.length / 2) (λk hk=>?_) ?_
  ·have e0:C 0=l:=by
    apply NL (by simp[C])
    intro i h1 h2;have:=hC 0 i h2;rw[An _ _ _ h1,An _ _ _ h2]at this;rw[this,if_neg (by omega)]
   have this':Ad Bh ((0:Int),((l.length-1:Nat):Int),l)=some l.reverse:=by
    have h2:=this;simp only[e0]at h2;exact h2
   rw[this'];rfl
  ·show Bh (_,_,_)=_
   unfold Bh
   have hlt:k<l.length-1-k:=by omega
   simp only[B4 hlt,Af,Ap];rw[Ac (Fc (by rw[hlen];omega)),Ac (Fc (by rw[hlen];omega)),Ac (Fc (by rw[hlen];omega)),Ac (Fc (by rw[hlen];omega))];rw[w1 (by omega),show w64 (((l.length-1-k:Nat):Int)-1)=((l.length-1-(k+1):Nat):Int) by rw[Em (by omega) (by omega)];omega]
   congr 4
   rw[hC k _ (by omega),hC k _ (by omega),if_neg (by omega),if_neg (by omega)];simp only[C];rw[CK,CK]
   apply Ha
   intro i hi
   by_cases h1:i=k
   ·subst h1;rw[if_neg (by omega),if_pos rfl,if_pos (by omega)]
   ·by_cases h2:i=l.length-1-k
    ·subst h2;rw[if_pos rfl,if_pos (by omega)]
     congr 1;omega
    ·rw[if_neg h2,if_neg h1]
     by_cases h3:i<k\/l.length-1-k<i
     ·rw[if_pos h3,if_pos (by omega)]
     ·rw[if_neg h3,if_neg (by omega)]
  ·show Bh (_,_,_)=_
   unfold Bh;have hd:decide (((l.length / 2:Nat):Int)<((l.length-1-l.length / 2:Nat):Int))=false:=Dl (by omega);simp only[hd,Ar]
   congr 2
   apply NL (by simp[C])
   intro i h1 h2
   have h3:i<l.length:=by simpa [C] using h1
   have:=hC (l.length / 2) i h3;rw[An _ _ _ h1]at this;rw[this,List.getElem_reverse]
   split
   ·rw[An _ _ _ (by omega)]
   ·rw[An _ _ _ h3]
    congr 1;omega
theorem top{st:List Int}{a:Int}(h:st.length<4611686018427387904):(st++[a]).getD (w64 (((st++[a]).length:Int)-1)).toNat 0=a:=by
 have:w64 ((st++[a]).length-1)=(st.length:Int):=by rw[Du,FK,Em (by omega) (by omega)];omega
 rw[this];simp[List.getD]
theorem Aan{st:List Int}{a:Int}(h:st.length<4611686018427387904):w64 (((st++[a]).length:Int)-1)=((st.length:Nat):Int):=by
 rw[Du,FK,Em (by omega) (by omega)];omega
theorem rY{g:TGraph}{R:List Bool}{st T:List Int}{a:Nat}(hst:st.length<64)(ha:a<g.Succ.length)(h64:g.Succ.length<=64)(ht:T.getD a 0=((g.Succ.getD a []).length:Int)) :
  Jo g R (st++[(a:Int)]) T=some (.done (.inl T)):=by
 unfold Jo;simp only[top (st:=st)  (by omega),Ap];rw[Ac (Fc (by omega)),Ac (Fc ha),ht,Dh,Ar]
theorem jH{g:TGraph}{R:List Bool}{st T:List Int}{a t y:Nat}(hst:st.length<64)(ha:a<g.Succ.length)(h64:g.Succ.length<=64)(ht:T.getD a 0=(t:Int))(htl:t<(g.Succ.getD a []).length)(htm:t<64)
  (hy:(g.Succ.getD a []).getD t 0=(y:Int)) (hyn:y<g.Succ.length) :
  Jo g R (st++[(a:Int)]) T=bif R.getD y false then some (.next (Qd 64 (0:Int) T a ((t+1:Nat):Int))) else some (.done (.inr (Qd 64 false R y true,Qd 64 (0:Int) T a ((t+1:Nat):Int),(st++[(a:Int)])++[(y:Int)]))):=by
 have hroom:1000<=room:=by decide
 unfold Jo;simp only[top (st:=st)  (by omega),Ap,ht,hy];rw[Ac (Fc (by omega)),Ac (Fc ha),B4 htl, Ac (Fc ha),Ac (Fc (by omega)),Ac (Fc htl),Ac (Fc (by omega)),Ac (Fc (by omega)),Ac (Fc (by omega)),w1 (by omega)]
 cases R.getD y _ with
 | true=>rfl
 | false=>
  simp only[Mu,Af,Ar];rw[Ac (Fc (by omega)),Ac (by grind)]
theorem jG{g:TGraph}{R:List Bool}{st T Lf:List Int}{a:Nat}(hst:st.length<64)(hLf:Lf.length<64) :
  Ee g (R,T,st++[(a:Int)],Lf)=(Ad (Jo g R (st++[(a:Int)])) T).bind λx=>match x with
   | .inl T'=>if st=[] then some (.done (Lf++[(a:Int)]).reverse) else some (.next (R,T',st,Lf++[(a:Int)]))
   | .inr (R',T',st')=>some (.next (R',T',st',Lf)):=by
 have hroom:1000<=room:=by decide
 unfold Ee;simp only
 have hb:As (w64 ((st++[(a:Int)]).length-1)) (st++[(a:Int)]).length:=by rw[Aan (by omega)];exact Fc (by simp)
 rw[Ac hb]
 congr 1
 funext x
 cases x with
 | inr y =>  rfl
 | inl T'=>
  simp only[top (st:=st)  (by omega)];rw[Aan (by omega),Ap,Ac (by grind),Ac ⟨by omega,by simp⟩];have e:(st++[(a:Int)]).take _=st:=List.take_left' rfl;rw[e]
  cases st with
  | nil=>
   rw[if_pos rfl]
   have:decide (0<(([]:List Int).length:Int))=false:=by decide
   rw[this,Ar,ll _ (by simp;omega)];simp only[Aj];rw[Ac (by simp)]
  | cons b st'=>
   simp_all
theorem gY{S X:Type}{f:S->Option (LR S X)}{a b:S}(h:f a=f b):Ad f a=Ad f b:=by
 cases hb:f b with
 | none=>rw[GK (h.trans hb),GK hb]
 | some r=>cases r with
  | done x=>rw[Ak (h.trans hb),Ak hb]
  | next s=>rw[Aq (h.trans hb),Aq hb]
theorem NB{S X:Type}{f:S->Option (LR S X)}{s:S}:Tc (f s) f=Ad f s:=by
 cases hb:f s with
 | none=>rw[GK hb];rfl
 | some r=>cases r with
  | done x=>rw[Ak hb];rfl
  | next s'=>rw[Aq hb];rfl
def sN(L:List (List Int))(k:Nat):List Nat:=(L.getD k []).map Int.toNat
def RelS(R:List Bool)(s:Nat->Bool):Prop:=∀ z,z<64->R.getD z false=s z
theorem T5{α:Type}{d:α}{l:List α}{i:Nat}{x:α}{k:Nat}(hk:k<64):(Qd 64 d l i x).getD k d=if k=i then x else l.getD k d:=by
 rw[YJ hk]
 by_cases h:k=i
 · simp
 ·have:Nat.beq k i=false:=by cases hb:Nat.beq k i with|false=>rfl|true=>simp_all
  rw[this,if_neg h];rfl
theorem RelS.set{R:List Bool}{s:Nat->Bool}(h:RelS R s){y:Nat}:RelS (Qd 64 false R y true) (upd s y):=λz hz=>by
 rw[T5 hz,h z hz]
 by_cases hzy:z=y
 ·simp[upd]
 ·simp[upd]
def Wq(o:List Nat):List Int:=o.map Int.ofNat
theorem gq{g:TGraph}(hm:Ny g.Succ=true){s s':Nat->Bool}{l o:List Nat}(hv:VL (sN g.Succ) s l s' o) :
  ∀(R:List Bool) (T st Lf:List Int) (a t:Nat),RelS R s->a<g.Succ.length->l=(sN g.Succ a).drop t->T.getD a 0=(t:Int)->t<=(sN g.Succ a).length->s a=true->(∀ z,z<64->s z=false->T.getD z 0=0)->
   Lf.length+cf 64 s+st.length+1<=64->
   ∃(R':List Bool) (T':List Int),RelS R' s'/\(∀ z,z<64->s' z=false->T'.getD z 0=0)/\(∀ z,z<64->s z=true->z≠a->T'.getD z 0=T.getD z 0)/\Lf.length+o.length+cf 64 s'+st.length+1<=64 /\
    Ad (Ee g) (R,T,st++[(a:Int)],Lf)=if st=[] then some (Lf++Wq o++[(a:Int)]).reverse else Ad (Ee g) (R',T',st,Lf++Wq o++[(a:Int)]):=by
 obtain⟨hL1,hL64,hLok⟩:=mayS_iff.1 hm
 have hlenS:∀ a,(sN g.Succ a).length=(g.Succ.getD a []).length:=λa=>by simp[sN]
 have hdrop:∀(a t y:Nat) (l':List Nat),a<g.Succ.length->y::l'=(sN g.Succ a).drop t->t<(g.Succ.getD a []).length/\(g.Succ.getD a []).getD t 0=(y:Int)/\y<g.Succ.length/\l'=(sN g.Succ a).drop (t+1):=λa t y l' ha he=>by
  have ht:t<(sN g.Succ a).length:=by
   rcases zzL118 t (sN g.Succ a).length with h|h
   ·exact h
   ·rw[List.drop_eq_nil_of_le h]at he;cases he
  rw[bS ht]at he;simp only[F8]at he;obtain⟨h1,h2⟩:=he
  have ht':t<(g.Succ.getD a []).length:=by rw[<- hlenS];exact ht
  obtain⟨b0,b1⟩:=BP (hLok a ha) ht'
  have h3:(sN g.Succ a)[t]=((g.Succ.getD a []).getD t 0).toNat:=by rw[An _ _ _ ht'];simp[sN]
  exact⟨ht',by omega,by omega,h2⟩
 induction hv with
 | nil s=>
  intro R T st Lf a t hR ha hl hT htl hsa hz hc
  have ht:t=(g.Succ.getD a []).length:=by
   have:=Bl List.length hl;simp at this;rw[hlenS]at htl this;omega
  refine⟨R,T,hR,hz,λ_ _ _ _=>rfl,by simpa using hc,?_⟩
  have hF:Ee g (R,T,st++[(a:Int)],Lf)=if st=[] then some (.done (Lf++[(a:Int)]).reverse) else some (.next (R,T,st,Lf++[(a:Int)])):=by
   rw[jG (by omega) (by omega),Ak (rY (by omega) ha hL64 (by rw[hT,ht]))]
   rfl
  by_cases hst:st=[]
  ·rw[if_pos hst]at hF ⊢;rw[Ak hF];simp[Wq]
  ·rw[if_neg hst]at hF ⊢;rw[Aq hF];simp[Wq]
 | @skip s s' y l o h tl ih=>
  intro R T st Lf a t hR ha hl hT htl hsa hz hc;obtain⟨h1,h2,h3,h4⟩:=hdrop a t y l ha hl;have hb:=EA (hLok a ha);have hs:=jH (g:=g) (R:=R) (st:=st) (T:=T) (a:=a) (t:=t) (y:=y) (by omega) ha hL64 hT h1 (by omega) h2 h3;rw[hR y (by omega),h,Af]at hs;obtain⟨R',T',a1,a2,a3,a4,a5⟩:=ih R (Qd 64 (0:Int) T a ((t+1:Nat):Int)) st Lf a (t+1) hR ha h4 (by rw[T5 (by omega),if_pos rfl]) (by rw[hlenS];omega) hsa
   (λz hz1 hz2=>by rw[T5 hz1,if_neg (by rintro rfl;rw[hsa]at hz2;cases hz2)];exact hz z hz1 hz2) hc
  refine⟨R',T',a1,a2,λz hz1 hz2 hz3=>by rw[a3 z hz1 hz2 hz3,T5 hz1,if_neg hz3],a4,?_⟩;rw[<- a5]
  apply gY
  rw[jG (by omega) (by omega),jG (by omega) (by omega),Aq hs]
 | @step s s1 s2 y l o1 o2 h tl tr ih1 ih2=>
  intro R T st Lf a t hR ha hl hT htl hsa hz hc;obtain⟨h1,h2,h3,h4⟩:=hdrop a t y l ha hl;have hb:=EA (hLok a ha)
  have hay:y≠a:=by rintro rfl;rw[hsa]at h;cases h
  have hs:=jH (g:=g) (R:=R) (st:=st) (T:=T) (a:=a) (t:=t) (y:=y) (by omega) ha hL64 hT h1 (by omega) h2 h3;rw[hR y (by omega),h,Ar]at hs;have hcu:=DO (n:=64) (show y<64 by omega) h
  have hF:Ee g (R,T,st++[(a:Int)],Lf)=some (.next (Qd 64 false R y true,Qd 64 (0:Int) T a ((t+1:Nat):Int),(st++[(a:Int)])++[(y:Int)],Lf)):=by
   rw[jG (by omega) (by omega),Ak hs]
   rfl
  obtain⟨R1,T1,b1,b2,b3,b4,b5⟩:=ih1 (Qd 64 false R y true) (Qd 64 (0:Int) T a ((t+1:Nat):Int)) (st++[(a:Int)]) Lf y 0 hR.set h3 (by simp)
   (by rw[T5 (by omega),if_neg hay];exact hz y (by omega) h) (Xj _) (upd_true.2 (.inl rfl))
   (λz hz1 hz2=>by
    obtain⟨c1,c2⟩:=upd_false.1 hz2;rw[T5 hz1,if_neg (by rintro rfl;rw[hsa]at c2;cases c2)]
    exact hz z hz1 c2) (by rw[Du,FK];omega)
  rw[if_neg (by simp)]at b5
  have hTa:T1.getD a 0=((t+1:Nat):Int):=by rw[b3 a (by omega) (upd_true.2 (.inr hsa)) (Rn hay),T5 (by omega),if_pos rfl]
  rw[Du,FK]at b4;obtain⟨R2,T2,c1,c2,c3,c4,c5⟩:=ih2 R1 T1 st (Lf++Wq o1++[(y:Int)]) a (t+1) b1 ha h4 hTa (by rw[hlenS];omega) ((tl.seen a).2 (.inl (upd_true.2 (.inr hsa)))) b2
   (by simp only[Du,FK,Wq,L1];omega)
  refine⟨R2,T2,c1,c2,λz hz1 hz2 hz3=>?_,?_,?_⟩
  ·rw[c3 z hz1 ((tl.seen z).2 (.inl (upd_true.2 (.inr hz2)))) hz3,b3 z hz1 (upd_true.2 (.inr hz2)) (by rintro rfl;rw[h]at hz2;cases hz2),T5 hz1,if_neg hz3]
  ·simp only[Du,FK,Wq,L1,Rz]at c4 ⊢;omega
  ·rw[Aq hF,b5,c5]
   have e:Lf++Wq o1++[(y:Int)]++Wq o2++[(a:Int)]=Lf++Wq (o1++y::o2)++[(a:Int)]:=by simp[Wq]
   rw[e]
theorem Zb{L:List (List Int)}(h:Ny L=true):∀ z,z<L.length->∀ y∈sN L z,y<L.length:=λz hz y hy=>by
 obtain⟨_,_,h3⟩:=mayS_iff.1 h;obtain⟨x,hx,rfl⟩:=zzL21.1 hy;have:=aq (h3 z hz) hx;omega
theorem tZ{r:Nat}(hr:r<64):cf 64 (one r)=63:=by
 have h:=DO  (s:=λ_=>false) hr rfl
 have e:upd (λ_=>false) r=one r:=by funext z;simp[upd,one]
 rw[e]at h
 have:cf 64 (λ_=>false)=64:=by decide
 omega
theorem IZ{α:Type}{n z:Nat}{d:α}:(List.replicate n d).getD z d=d:=by grind
theorem ak(g:TGraph)(h:Fits g.Succ)(hP:True)(r:Int) :
  (EP g=true->0<=r->r<(g.Succ.length:Int)->∀ L,Ord (sN g.Succ) r.toNat L->Ld g r=some (Wq L)) /\
  ((EP g&&(decide (0<=r)&&decide (r<(g.Succ.length:Int))))=false->Ld g r=some []):=by
 refine⟨λhm h0 h1 L hL=>?_,λhf=>?_⟩
 ·have hms:Ny g.Succ=true:=by unfold EP at hm;exact(A1 _ _▸hm).1
  obtain⟨hL1,hL64,hLok⟩:=mayS_iff.1 hms;obtain⟨s',o,hv,rfl⟩:=hL;have hrn :=K9 h0
  have hr:r.toNat<g.Succ.length:=by omega
  obtain⟨R',T',_,_,_,_,hmain⟩:=gq hms hv (Qd 64 false (List.replicate 64 false) r.toNat true) _ [] [] r.toNat 0
   (λz hz=>by rw[T5 hz,IZ];by_cases hzr:z=r.toNat<;>simp[one,hzr]) hr (by simp) IZ (Xj _) (by simp[one])
   (λz hz _=>IZ) (by rw[tZ (by omega)];simp)
  rw[if_pos rfl,hrn]at hmain;unfold Ld;rw[vZ _ h,hm,Aj];simp only[Dt,U9,Af,Ar,W4,F6 h0,F6 h1,Bool.and_self,Aj];rw[Ac ⟨h0,by omega⟩];have hF:∀ X,Ad (Ee g) (Qd 64 false (List.replicate 64 false) r.toNat true,List.replicate 64 (0:Int),[]++[r],[])=some X->
    (Tc _ (Ee g)).bind (λx=>some x)=some X:=λX hX=>by
   rw[NB];rw[hX];rfl
  refine(hF _ hmain).trans ?_;simp only[V2,List.reverse_append,Wq,Ch,List.map_reverse,List.reverse_cons,List.reverse_nil]
  simp
  omega
 ·unfold Ld;rw[vZ _ h,Aj]
  cases hm:EP g with
  | false=>rfl
  | true=>
   rw[hm,Jj]at hf;simp only[Dt,U9,Af,Ar,W4,hf,Aj,Mu]
   rfl
def RelN(n:Nat)(R:List Bool)(s:Nat->Bool):Prop:=R.length=n/\∀ z,z<n->R.getD z false=s z
theorem RelN.set{n:Nat}{R:List Bool}{s:Nat->Bool}(h:RelN n R s){y:Nat}(hy:y<n):RelN n (R.set y true) (upd s y):=by
 refine⟨by rw[D0];exact h.1,λz hz=>?_⟩;rw[bR,List.getElem?_set]
 by_cases hzy:y=z
 ·subst hzy;simp[upd,h.1,hy]
 ·rw[if_neg hzy,<- bR,h.2 z hz];simp[upd,Rn hzy]
theorem Ua:∀(n:Nat) (l:List Nat),l.Nodup->(∀ x∈l,x<n)->l.length<=n
 | 0,l,_,h=>by
  cases l with
  | nil=>simp
  | cons x l=>have:=h x (zzL38 ..);omega
 | n+1,l,hd,h=>by
  by_cases hn:n∈l
  ·have h1:=Ua n _ (hd.erase n) λx hx=>by
    grind
   rw[List.length_erase_of_mem hn]at h1;omega
  ·have h1:=Ua n l hd λx hx=>by
    grind
   omega
theorem GS:∀{a b:List Int},a.Pairwise (·<·)->b.Pairwise (·<·)->(∀ x,x∈a↔x∈b)->a=b
 | [],[],_,_,_=>rfl
 | [],y::b,_,_,h=>by have:=(h y).2 (zzL38 ..);cases this
 | x::a,[],_,_,h=>by have:=(h x).1 (zzL38 ..);cases this
 | x::a,y::b,ha,hb,h=>by
  have ha':=zzL93.1 ha;have hb':=zzL93.1 hb
  have hxy:x=y:=by
   rcases zzL27.1 ((h x).1 (zzL38 ..)) with h1|h1
   ·exact h1
   ·rcases zzL27.1 ((h y).2 (zzL38 ..)) with h2|h2
    ·exact h2.symm
    ·grind
  congr 1
  refine GS ha'.2 hb'.2 λz=>⟨λhz=>?_,λhz=>?_⟩
  ·grind
  ·grind
theorem BB(p:Nat->Bool)(n:Nat):(((List.range n).filter p).map Int.ofNat).Pairwise (·<·):=by
 rw[List.pairwise_map];have:=(List.pairwise_lt_range (n:=n)).filter p
 exact this.imp λh=>by simpa using h
theorem QZ{p:Nat->Bool}{n:Nat}{x:Int}:x∈((List.range n).filter p).map Int.ofNat↔∃ k:Nat,x=(k:Int)/\k<n/\p k=true:=by
 grind
theorem oz{L:List (List Int)}{k i:Nat}:Y3 L k i=true↔(i:Int)∈L.getD k []:=by unfold Y3;rw[zzL63]
theorem oH{b:Bool}{α:Type}{x:α}:(bif b then x else x)=x:=by cases b<;>rfl
theorem pR{L:List (List Int)}(h:Ny L=true){x y:Nat}(hx:x<L.length):y∈sN L x↔(y:Int)∈L.getD x []:=by
 obtain⟨_,_,h3⟩:=mayS_iff.1 h;unfold sN;rw[zzL21]
 constructor
 ·rintro⟨z,hz,rfl⟩;have:=aq (h3 x hx) hz;rw[K9 this.1];exact hz
 ·grind
def mk(o:List Bool)(l:List Nat):List Bool:=l.foldl (λo y=>o.set y true) o
theorem gi(l:List Nat):∀ o:List Bool,(mk o l).length=o.length:=by
 induction l with
 | nil=>intro o;rfl
 | cons y l ih=>intro o;show(mk _ l).length=_;rw[ih,D0]
theorem mk_at{n:Nat}(l:List Nat):∀(o:List Bool),o.length=n->(∀ y∈l,y<n)->∀ z,(mk o l).getD z false=true↔o.getD z false=true\/z∈l:=by
 induction l with
 | nil =>  simp[mk]
 | cons y l ih=>
  intro o ho hl z
  show(mk _ l).getD z _=true↔_
  rw[ih _ (by grind) (λu hu=>hl u (Lj _ hu)) z]
  have e:(o.set y true).getD z false=true↔o.getD z false=true\/z=y:=by
   grind
  rw[e,zzL27]
  constructor
  ·grind
  ·rintro(h|h|h)
   ·exact .inl (.inl h)
   ·exact .inl (.inr h)
   ·exact .inr h
def sw(S:Nat->List Nat)(o:List Bool):Nat->List Bool
 | 0=>o
 | i+1=>if(sw S o i).getD i false=true then mk (sw S o i) (S i) else sw S o i
def IU(S:Nat->List Nat)(n:Nat)(o:List Bool):Nat->List Bool
 | 0=>o
 | j+1=>sw S (IU S n o j) n
section
variable {S:Nat->List Nat} {n:Nat} (hS:∀ z,z<n->∀ y∈S z,y<n)
theorem sw_len(o:List Bool):∀ i,(sw S o i).length=o.length:=by
 intro i
 induction i with
 | zero=>rfl
 | succ i ih=>unfold sw;split;rw[gi,ih];exact ih
theorem Ym(o:List Bool):∀ j,(IU S n o j).length=o.length:=by
 intro j
 induction j with
 | zero=>rfl
 | succ j ih=>unfold IU;rw[sw_len,ih]
include hS
theorem PG{o:List Bool}(ho:o.length=n):∀ i,i<=n->∀ z,o.getD z false=true->(sw S o i).getD z false=true:=by
 intro i
 induction i with
 | zero=>intro _ z h;exact h
 | succ i ih=>
  intro hi z h;unfold sw
  split
  ·exact(mk_at  _ _ (by rw[sw_len];exact ho) (hS i (by omega)) z).2 (.inl (ih (by omega) z h))
  ·exact ih (by omega) z h
theorem qQ{o:List Bool}{r:Nat}(ho:o.length=n)(h:∀ z,o.getD z false=true->Rch S r z):∀ i,i<=n->∀ z,(sw S o i).getD z false=true->Rch S r z:=by
 intro i
 induction i with
 | zero=>intro _ z hz;exact h z hz
 | succ i ih=>
  intro hi z hz;unfold sw at hz
  split at hz
  ·rename_i hsi
   rcases(mk_at  _ _ (by rw[sw_len];exact ho) (hS i (by omega)) z).1 hz with h1|h1
   ·exact ih (by omega) z h1
   ·exact(ih (by omega) i hsi).tail h1
  ·exact ih (by omega) z hz
theorem ut{o:List Bool}(ho:o.length=n):∀ i,i<=n->∀ j,j<i->o.getD j false=true->∀ y∈S j,(sw S o i).getD y false=true:=by
 intro i
 induction i with
 | zero =>  omega
 | succ i ih=>
  intro hi j hj hoj y hy;unfold sw
  by_cases hji:j=i
  ·subst hji;have h1:=PG hS ho j (by omega) j hoj;rw[if_pos h1];exact(mk_at  _ _ (by rw[sw_len];exact ho) (hS j (by omega)) y).2 (.inr hy)
  ·have h1:=ih (by omega) j (by omega) hoj y hy
   split
   ·exact(mk_at  _ _ (by rw[sw_len];exact ho) (hS i (by omega)) y).2 (.inl h1)
   ·exact h1
theorem mR{o:List Bool}(ho:o.length=n)(hc:∀ j,j<n->o.getD j false=true->∀ y∈S j,o.getD y false=true):∀ i,i<=n->∀ z,(sw S o i).getD z false=true->o.getD z false=true:=by
 intro i
 induction i with
 | zero=>intro _ z h;exact h
 | succ i ih=>
  intro hi z hz;unfold sw at hz
  split at hz
  ·rcases(mk_at  _ _ (by rw[sw_len];exact ho) (hS i (by omega)) z).1 hz with h1|h1
   ·exact ih (by omega) z h1
   ·grind
  ·exact ih (by omega) z hz
theorem IV{r:Nat}(hr:r<n)(z:Nat):(IU S n ((List.replicate n false).set r true) n).getD z false=true↔Rch S r z:=by
 let o0:=(List.replicate n false).set r true
 have ho0:o0.length=n:=by simp[o0]
 have hat0:∀ z,o0.getD z false=true↔z=r:=λz=>by
  grind
 have hlen:∀ j,(IU S n o0 j).length=n:=λj=>by rw[Ym,ho0]
 have hsound:∀ j z,(IU S n o0 j).getD z false=true->Rch S r z:=by
  intro j
  induction j with
  | zero=>intro z hz;rw[(hat0 z).1 hz];exact .refl _
  | succ j ih=>intro z hz;exact qQ hS (hlen j) ih n (zzL8 _) z hz
 have hmono:∀ j,∀ z,o0.getD z false=true->(IU S n o0 j).getD z false=true:=by
  intro j
  induction j with
  | zero=>intro z h;exact h
  | succ j ih=>intro z h;exact PG hS (hlen j) n (zzL8 _) z (ih z h)
 let C:Nat->Prop:=λj=>∀ i,i<n->(IU S n o0 j).getD i false=true->∀ y∈S i,(IU S n o0 j).getD y false=true
 have key:∀ j,C j\/cf n (λz=>(IU S n o0 j).getD z false)+j+1<=n:=by
  intro j
  induction j with
  | zero=>
   refine .inr ?_;have h1:=DO (n:=n) (s:=λ_=>false) hr rfl
   have e:upd (λ_=>false) r=λz=>(IU S n o0 0).getD z false:=by
    funext z
    rw[Zd,upd_true]
    show _↔o0.getD z false=true
    rw[hat0]
    simp
   rw[e]at h1
   have hcl:cf n (λ_=>false)=n:=by
    unfold cf;rw[List.filter_eq_self.2 (by simp)]
    simp
   omega
  | succ j ih=>
   by_cases hc:C j
   ·refine .inl λi hi h y hy=>?_;have h1:=mR hS (hlen j) hc n (zzL8 _) i h;exact PG hS (hlen j) n (zzL8 _) y (hc i hi h1 y hy)
   ·rcases ih with ih|ih
    ·exact(hc ih).elim
    ·refine .inr ?_
     have hex:∃ i,i<n/\(IU S n o0 j).getD i false=true/\∃ y,y∈S i/\(IU S n o0 j).getD y false=false:=by
      grind
     obtain⟨i,hi,h1,y,hy,h2⟩:=hex;have h3:=ut hS (hlen j) n (zzL8 _) i hi h1 y hy;have hyn:=hS i hi y hy;have h4:=DO (n:=n) (s:=λz=>(IU S n o0 j).getD z false) hyn h2
     have h5:cf n (λz=>(IU S n o0 (j+1)).getD z false)<=cf n (upd (λz=>(IU S n o0 j).getD z false) y):=cg λz hz=>by
      rcases upd_true.1 hz with rfl|hz
      ·exact h3
      ·exact PG hS (hlen j) n (zzL8 _) z hz
     omega
 constructor
 ·exact hsound n z
 ·intro hrch
  have hlt:∀ x z,Rch S x z->x<n->z<n/\((IU S n o0 n).getD x false=true->(IU S n o0 n).getD z false=true):=by
   intro x z hxz
   induction hxz with
   | refl x=>exact λhx=>⟨hx,id⟩
   | @head x y z hy _ ih=>
    grind
  exact(hlt r z hrch hr).2 (hmono n r ((hat0 r).2 rfl))
end
theorem uA{L:List (List Int)}(hm:Ny L=true){r:Nat}(hr:r<L.length) :
  Cx (J9 L) (r:Int) (-1:Int)=some (IU (sN L) L.length ((List.replicate L.length false).set r true) L.length):=by
 obtain⟨h1,h2,h3⟩:=mayS_iff.1 hm
 have hroom:(1000:Nat)<=room:=by decide
 have hS:=Zb hm;have hgs:(J9 L).Succ=L:=rfl
 have hlenS:∀ a,(sN L a).length=(L.getD a []).length:=λa=>by simp[sN]
 have hin:∀(o:List Bool) (i:Nat),o.length=L.length->i<L.length->Ad (A4 (J9 L) (-1) (i:Int)) ((0:Int),o)=some (if o.getD i false=true then mk o (sN L i) else o):=λo i ho hi=>by
  have hb:=EA (h3 i hi)
  by_cases hoi:o.getD i false=true
  ·rw[if_pos hoi];have hmi:∀ k,(mk o ((sN L i).take k)).getD i false=true:=λk=>(mk_at (n:=L.length) _ _ ho (λy hy=>hS i hi y (List.mem_of_mem_take hy)) i).2 (.inl hoi)
   have hml:∀ k,(mk o ((sN L i).take k)).length=L.length:=λk=>by rw[gi,ho]
   refine Fl (A4 (J9 L) (-1) (i:Int)) (λk=>(((k:Nat):Int),mk o ((sN L i).take k))) _ (L.getD i []).length (λk hk=>?_) ?_
   ·unfold A4;obtain⟨a0,a1⟩:=BP (h3 i hi) hk;simp only[hgs,Ap,hmi];rw[Ac (Fc (by rw[hml];exact hi)),M5 (Fc hi),Af,B4 hk,Af,Ac (Fc hi),Ac (Fc hk)]
    have hne:((L.getD i []).getD k 0 !=(-1:Int))=true:=by rw[zzL85];omega
    rw[hne,Af,Ac (Fc hi),Ac (Fc hk),Ac ⟨a0,by rw[hml];exact a1⟩,w1 (by omega)]
    have e:mk o ((sN L i).take (k+1))=(mk o ((sN L i).take k)).set ((L.getD i []).getD k 0).toNat true:=by
     have hk':k<(sN L i).length:=by rw[hlenS];exact hk
     rw[kM hk'];unfold mk;rw[List.foldl_append]
     have:(sN L i)[k]=((L.getD i []).getD k 0).toNat:=by rw[An _ _ _ hk];simp[sN]
     rw[this]
     rfl
    rw[e]
    rfl
   ·unfold A4;simp only[hgs,Ap,hmi];rw[Ac (Fc (by rw[hml];exact hi)),M5 (Fc hi),Af,Dh,Ar]
    have:(sN L i).take (L.getD i []).length=sN L i:=by rw[<- hlenS];exact TF ..
    rw[this]
  ·have hof:o.getD i false=false:=by simpa using hoi
   rw[if_neg hoi]
   apply Ak
   unfold A4;simp only[hgs,Ap,hof];rw[Ac (Fc (by rw[ho];exact hi)),M5 (Fc hi),Ar,Ar]
 have hsw:∀ o:List Bool,o.length=L.length->Ad (A5 (J9 L) (-1)) ((0:Int),o)=some (sw (sN L) o L.length):=λo ho=>by
  refine Fl (A5 (J9 L) (-1)) (λi=>(((i:Nat):Int),sw (sN L) o i)) _ L.length (λi hi=>?_) ?_
  ·show A5 (J9 L) (-1) (_,_)=_
   unfold A5
   have hl:(sw (sN L) o i).length=L.length:=by rw[sw_len,ho]
   simp only[hl,B4 hi,Af];rw[hin _ i hl hi,w1 (by omega)]
   rfl
  ·show A5 (J9 L) (-1) (_,_)=_
   unfold A5
   have hl:(sw (sN L) o L.length).length=L.length:=by rw[sw_len,ho]
   simp only[hl,Dh,Ar]
 unfold Cx;simp only[hgs,Ap];rw[Ac ⟨by omega,Int.le_refl _,by omega⟩]
 have hne:((r:Int)==(-1:Int))=false:=by rw[zzL34];omega
 rw[hne,Ar,Ac (Fc (by simpa using hr))]
 have hl0:((List.replicate L.length false).set r true).length=L.length:=by simp
 have:Ad (A6 (J9 L) (-1)) ((0:Int),(List.replicate L.length false).set r true)=some (IU (sN L) L.length ((List.replicate L.length false).set r true) L.length):=by
  refine Fl (A6 (J9 L) (-1)) (λj=>(((j:Nat):Int),IU (sN L) L.length ((List.replicate L.length false).set r true) j)) _ L.length (λj hj=>?_) ?_
  ·show A6 (J9 L) (-1) (_,_)=_
   unfold A6
   have hl:(IU (sN L) L.length ((List.replicate L.length false).set r true) j).length=L.length:=by rw[Ym,hl0]
   simp only[hl,B4 hj,Af];rw[hsw _ hl,w1 (by omega)]
   rfl
  ·show A6 (J9 L) (-1) (_,_)=_
   unfold A6
   have hl:(IU (sN L) L.length ((List.replicate L.length false).set r true) L.length).length=L.length:=by rw[Ym,hl0]
   simp only[hl,Dh,Ar]
 rw[this]
 rfl
def pos:List Nat->Nat->Nat
 | [],_=>0
 | x::l,z=>if x=z then 0 else pos l z+1
theorem RS(x:Nat)(l:List Nat)(z:Nat):pos (x::l) z=if x=z then 0 else pos l z+1:=rfl
theorem ub{A l:List Nat}{z:Nat}(h:z∉A):pos (A++l) z=A.length+pos l z:=by
 induction A with
 | nil=>simp
 | cons x A ih=>
  have h1:x≠z:=λe=>h (by grind);have h2 :=λe=>h (Lj _ e);rw[TG,RS,if_neg h1,ih h2,Rz];omega
theorem PC{P:List Nat}(hd:P.Nodup){i:Nat}(hi:i<P.length):P[i]∉P.take i/\pos P P[i]=i:=by
 have e:P=P.take i++P[i]::P.drop (i+1):=by simp_all
 have hn:P[i]∉P.take i:=by
  grind
 refine⟨hn,?_⟩
 have h2:pos (P.take i++P[i]::P.drop (i+1)) P[i]=i:=by
  rw[ub hn]
  have:pos (P[i]::P.drop (i+1)) P[i]=0:=by rw[RS,if_pos rfl]
  rw[ JG];omega
 rw[<- e]at h2;exact h2
theorem nu{n:Nat}{p:Nat->Bool}:(List.range (n+1)).all p=((List.range n).all p&&p n):=by
 grind
theorem ck(d:Array Int)(hs:∀ i j,i<=j->j<d.size->d[i]!<=d[j]!):∀ m,m<=d.size->(∀ x∈Lib.compactUpTo d m,∃ j,j<m/\x=d[j]!)/\(∀ j,j<m->d[j]!∈Lib.compactUpTo d m)/\(Lib.compactUpTo d m).Pairwise (·<·):=by
 intro m
 induction m with
 | zero=>intro _;exact⟨(λx hx=>by simp[Lib.compactUpTo]at hx),(λj hj=>by omega),by simp[Lib.compactUpTo]⟩
 | succ m ih=>
  intro hm;obtain⟨h1,h2,h3⟩:=ih (by omega);rw[Lib.compactUpTo_succ]
  cases hk:Lib.keeps d m with
  | true=>
   rw[if_pos rfl];refine⟨λx hx=>?_,λj hj=>?_,?_⟩
   ·grind
   ·grind
   ·rw[zzL120];refine⟨h3,List.pairwise_singleton _ _,λx hx y hy=>?_⟩;obtain⟨j,hj,rfl⟩:=h1 x hx
    have hy':y=d[m]!:=by simpa using hy
    subst hy'
    have hk':m=0\/d[m]!≠d[m-1]!:=by simpa [Lib.keeps] using hk
    rcases hk' with h0|h0
    ·omega
    ·have a1:=hs j (m-1) (by omega) (by omega);have a2:=hs (m-1) m (by omega) (by omega);omega
  | false=>
   have hk':m≠0/\d[m]! = d[m-1]!:=by
    have:¬ (m=0\/d[m]!≠d[m-1]!):=by
     intro h
     have:Lib.keeps d m=true:=by simpa [Lib.keeps] using h
     rw[hk]at this;cases this
    exact⟨λh=>this (.inl h),Classical.not_not.1 λh=>this (.inr h)⟩
   simp only[JF,H3,List.append_nil];refine⟨λx hx=>by grind,λj hj=>?_,h3⟩
   by_cases hjm:j=m
   ·subst hjm;rw[hk'.2];exact h2 _ (by omega)
   ·exact h2 j (by omega)
def JA(l:List Int):List Int:=Lib.compact (l.mergeSort λx y=>decide (x<=y))
theorem ED(l:List Int):(JA l).Pairwise (·<·)/\∀ x,x∈JA l↔x∈l:=by
 unfold JA Lib.compact;have hp:(l.mergeSort _).Pairwise (λa b=>decide (a<=b)=true):=List.pairwise_mergeSort (λa b c h1 h2=>by simp at *;omega) (λa b=>by simp;omega) l;have hm:∀ x,x∈(l.mergeSort λx y=>decide (x<=y))↔x∈l:=λx=>List.mem_mergeSort
 generalize l.mergeSort _=z at hp hm ⊢
 have hz:∀ j,j<z.length->z.toArray[j]! = z.getD j 0:=λj hj=>by simp[ hj]
 obtain⟨h1,h2,h3⟩:=ck z.toArray (λi j hij hj=>by
  have hj' :=by simpa using hj
  rw[hz i (by omega),hz j hj']
  by_cases he:i=j
  ·grind
  ·have:=(zzL108.1 hp) i j (by omega) hj' (by omega);rw[An _ _ _ _,An _ _ _ hj']
   simpa using this) z.length (by simp)
 refine⟨h3,λx=>?_⟩;rw[<- hm x]
 constructor
 ·grind
 ·intro hx;obtain⟨j,hj,rfl⟩:=N6 hx;have:=h2 j hj;rwa[hz j hj,An _ _ _ hj]at this
def rU(n:Nat)(l:List Int):Bool:=(List.range l.length).all λi=>decide (0<l.getD i 0)&&decide (l.getD i 0<(n:Int))
def U4(k:Int):Int:=([0,1,2,0]:List Int).getD k.toNat 0
def BK(e:Jm):Bool:=(decide (0<=e.Kind)&&decide (e.Kind<=3))&&decide ((e.To.length:Int)=U4 e.Kind)
def M6(e:Jm)(n:Nat):Bool:=BK e&&rU n e.To
theorem toB_iff{n:Nat}{l:List Int}:rU n l=true↔∀ x∈l,0<x/\x<n:=by
 unfold rU;rw[all_range];simp only[A1,Dq]
 constructor
 ·intro h x hx;obtain⟨i,hi,rfl⟩:=N6 hx;have:=h i hi;rwa[An _ _ _ hi]at this
 ·simp_all
theorem oe(e:Jm)(n:Nat)(hl:e.To.length<4611686018427387904):Ad (Fh e (n:Int)) (0:Int)=some (bif rU n e.To then .inl () else .inr false):=by
 have step:∀ j ,j<e.To.length->Fh e n j=bif (decide (0<e.To.getD j 0)&&decide (e.To.getD j 0<n)) then some (.next ((j+1:Int))) else some _:=λj hj=>by
  unfold Fh;simp only[Ap,B4 hj, W4,w1 (show j<4611686018427387904 by omega)];rw[Ac (Fc hj)]
  by_cases h0:e.To.getD j 0=0
  ·rw[h0];rfl
  ·grind
 have:=H7 (Fh e n) (λj=>(j:Nat)) (λi=>decide (0<e.To.getD i 0)&&decide (e.To.getD i 0<n)) (.inl ()) (.inr false) e.To.length (λj hj hp=>?_) (λj hj hp=>?_) ?_
 ·exact this
 ·grind
 ·rw[step j hj,hp];rfl
 ·unfold Fh;simp only[Dh,Ar]
theorem HS(e:Jm)(n:Nat)(w:Int)(hw:0<=w/\w<=2) :
  (bif ((e.To.length:Int)!=w) then(some false) else((Ad (Fh e (n:Int)) (0:Int)).bind (λx10=>(match x10 with|(.inl _)=>(some true)|(.inr r12)=>(some r12)))))=some (decide ((e.To.length:Int)=w)&&rU n e.To):=by
 by_cases h:e.To.length=w
 ·rw[show(e.To.length !=w)=false by simpa using h, oe e n (by omega),F6 h]
  cases rU n _<;>rfl
 ·grind
theorem lh(e:Jm)(n:Nat):Pm e (n:Int)=some (M6 e n):=by
 unfold Pm M6 BK
 by_cases h0:e.Kind=0
 ·rw[h0];exact HS e n 0 (by omega)
 by_cases h1:e.Kind=1
 ·rw[h1];exact HS e n 1 (by omega)
 by_cases h2:e.Kind=2
 ·rw[h2];exact HS e n 2 (by omega)
 by_cases h3:e.Kind=3
 ·rw[h3];exact HS e n 0 (by omega)
 have e0:(e.Kind==0)=false:=by rw[zzL34];exact h0
 have e1:(e.Kind==1)=false:=by rw[zzL34];exact h1
 have e2:(e.Kind==2)=false:=by rw[zzL34];exact h2
 have e3:(e.Kind==3)=false:=by rw[zzL34];exact h3
 rw[e0,e1,e2,e3]
 have:(decide (0<=e.Kind)&&decide (e.Kind<=3))=false:=by
  by_cases h:0<=e.Kind
  ·rw[Dl (show ¬ e.Kind<=3 by omega)];simp
  ·rw[Dl h];rfl
 rw[this]
 rfl
theorem om{e:Jm}{n:Nat}(h:M6 e n=true):e.To.length<=2:=by
 unfold M6 BK at h;simp only[A1,Dq]at h;obtain⟨⟨⟨h0,h1⟩,h2⟩,_⟩:=h
 have:U4 e.Kind<=2:=by
  have:e.Kind=0\/e.Kind=1\/e.Kind=2\/e.Kind=3:=by omega
  rcases this with h|h|h|h<;>rw[h]<;>decide
 omega
theorem ZV{e:Jm}{n:Nat}(h:M6 e n=true):rU n e.To=true:=by unfold M6 at h;exact(A1 _ _▸h).2
def Bo(f:TFunc)(i:Nat):Jm:=(f.Blocks.getD i (default:Ab)).End
def Bu(f:TFunc):List (List Int):=(List.range f.Blocks.length).map λi=>JA (Bo f i).To
def Rl(f:TFunc):Bool:=(decide (1<=f.Blocks.length)&&decide (f.Blocks.length<=64))&&(List.range f.Blocks.length).all λi=>M6 (Bo f i) f.Blocks.length
theorem shape_iff{f:TFunc}:Rl f=true↔(1<=f.Blocks.length/\f.Blocks.length<=64)/\∀ i,i<f.Blocks.length->M6 (Bo f i) f.Blocks.length=true:=by
 unfold Rl;rw[A1,A1,all_range];simp only[Dq]
theorem uk{f:TFunc}{i:Nat}(h:M6 (Bo f i) f.Blocks.length=true):mp f.Blocks.length (JA (Bo f i).To)=true:=by
 obtain⟨h1,h2⟩:=ED (Bo f i).To;exact xU (λx hx=>by have:=(toB_iff.1 (ZV h)) x ((h2 x).1 hx);omega) h1
theorem Rj{f:TFunc}(h:Rl f=true):Ny (Bu f)=true:=by
 obtain⟨⟨h1,h2⟩,h3⟩:=shape_iff.1 h
 have hl:(Bu f).length=f.Blocks.length:=by simp[Bu]
 refine mayS_iff.2 ⟨by omega,by omega,λi hi=>?_⟩;rw[hl]at hi ⊢;unfold Bu;rw[Si hi];exact uk (h3 i hi)
theorem zw(f:TFunc)(hf:f.Blocks.length<=maxLen):Uj f=some (bif Rl f then(J9 (Bu f),0) else(g0,5)):=by
 have hroom:(1000:Nat)<=room:=by decide
 unfold Uj;rw[XQ,Aj];have hsh:Rl f=((decide (1<=f.Blocks.length)&&decide (f.Blocks.length<=64))&&(List.range f.Blocks.length).all λi=>M6 (Bo f i) f.Blocks.length):=rfl
 cases hc:(decide (1<=f.Blocks.length)&&decide (f.Blocks.length<=64)) with
 | false=>rw[hsh,hc];rfl
 | true=>
  have hc':=hc;simp only[A1,Dq]at hc';simp only[Dt,Ar];rw[Ac ⟨by omega,Int.le_refl _,by omega⟩,Ap]
  let U:Nat->List (List Int):=λi=>(List.range f.Blocks.length).map λj=>if j<i then JA (Bo f j).To else[]
  have e0:List.replicate f.Blocks.length ([]:List Int)=U 0:=by
   simp only[U]
   apply List.ext_getElem?
   intro j
   by_cases hj:j<f.Blocks.length<;>simp[hj,List.getElem?_replicate]
  have eN:U f.Blocks.length=Bu f:=by
   simp only[U,Bu]
   apply Ha
   intro j hj;rw[if_pos hj]
  rw[e0]
  have hstep:∀ i:Nat,i<f.Blocks.length->Ht f ((i:Int),U i)=bif M6 (Bo f i) f.Blocks.length then some (.next (((i+1:Nat):Int),U (i+1))) else some (.done (.inr (g0,5))):=λi hi=>by
   unfold Ht;simp only[B4 hi,Af,Ap];rw[Ac (Fc hi)];have he:(⟨(f.Blocks.getD i (default:Ab)).End.Kind,(f.Blocks.getD i (default:Ab)).End.Arg,(f.Blocks.getD i (default:Ab)).End.To⟩:Jm)=Bo f i:=rfl;rw[he,lh,Aj]
   cases hfit:M6 (Bo f i) f.Blocks.length with
   | false=>rfl
   | true=>
    have hl2:=om hfit;simp only[Dt,Ar,Af]
    have hx:JE (f.Blocks.getD i (default:Ab)).End.To=some (JA (Bo f i).To):=by
     unfold JE;rw[jh,Ac (by show(Bo f i).To.length<=_;omega)]
     rfl
    rw[hx,Aj,Ac (Fc (by simp[U];omega)),w1 (by omega)]
    congr 3
    simp only[U];rw[CK]
    apply Ha
    intro j hj
    by_cases h1:j=i
    ·subst h1;rw[if_pos rfl,if_pos (by omega)]
    ·rw[if_neg h1]
     by_cases h2:j<i
     ·rw[if_pos h2,if_pos (by omega)]
     ·rw[if_neg h2,if_neg (by omega)]
  have:=H7 (Ht f) (λi=>(((i:Nat):Int),U i)) (λi=>M6 (Bo f i) f.Blocks.length) (.inl (U f.Blocks.length)) (.inr (g0,5)) f.Blocks.length (λi hi hp=>?_) (λi hi hp=>?_) ?_
  ·rw[show Ad (Ht f) ((0:Int),U 0)=_ from this,hsh,hc,eN,Jj]
   cases hall:(List.range f.Blocks.length).all λi=>M6 (Bo f i) f.Blocks.length with
   | false=>rfl
   | true=>
    simp only[Af,Aj];rw[dR _ (Rj (by rw[hsh,hc,hall];rfl))]
    rfl
  ·show Ht f (_,_)=_
   rw[hstep i hi,hp];rfl
  ·show Ht f (_,_)=_
   rw[hstep i hi,hp];rfl
  ·show Ht f (_,_)=_
   unfold Ht;simp only[Dh,Ar]
def KY(l:List Int)(k:Nat):List Int:=((List.range k).filter λz:Nat=>decide (1<=z)&&l.contains (z:Int)).map Int.ofNat
theorem qC{n:Nat}{l:List Int}(h:rU n l=true):KY l n=JA l:=by
 obtain⟨h1,h2⟩:=ED l;refine GS (BB _ _) h1 λx=>?_;rw[h2 x];unfold KY;rw[QZ]
 constructor
 ·grind
 ·intro hx;have:=(toB_iff.1 h) x hx;refine⟨x.toNat,by omega,by omega,?_⟩;rw[K9 (by omega),zzL63.2 hx,F6 (by omega)]
  rfl
theorem mH(f:TFunc)(i:Nat)(hl:(Bo f i).To.length<4611686018427387904):Ad (Ey f (i:Int)) (0:Int)=some (bif rU f.Blocks.length (Bo f i).To then .inl () else .inr (g0,5)):=by
 have hE:(f.Blocks.getD i _).End=Bo f i:=rfl
 have step:∀ j ,j<(Bo f i).To.length->Ey f i j=bif (decide (0<(Bo f i).To.getD j 0)&&decide ((Bo f i).To.getD j 0<f.Blocks.length)) then some (.next ((j+1:Nat))) else some _:=λj hj=>by
  unfold Ey;simp only[Ap,hE,B4 hj, w1 (show j<4611686018427387904 by omega)];rw[Ac (Fc hj),M5 (Fc hj)]
  by_cases h0:(Bo f i).To.getD j 0<=0
  ·rw[F6 h0,Dl (show ¬ 0<(Bo f i).To.getD j 0 by omega)];rfl
  ·rw[Dl h0,F6 (show 0<(Bo f i).To.getD j 0 by omega)]
   by_cases h1:f.Blocks.length<=(Bo f i).To.getD j 0
   ·rw[F6 h1,Dl (show ¬ (Bo f i).To.getD j 0<f.Blocks.length by omega)];rfl
   ·grind
 have:=H7 (Ey f i) (λj=>(j:Nat)) (λk=>decide (0<(Bo f i).To.getD k 0)&&decide ((Bo f i).To.getD k 0<f.Blocks.length)) (.inl ()) (.inr (g0,5)) (Bo f i).To.length (λj hj hp=>?_) (λj hj hp=>?_) ?_
 ·exact this
 ·grind
 ·rw[step j hj,hp];rfl
 ·unfold Ey;simp only[Ap,hE,Dh,Ar]
theorem mI(f:TFunc)(i:Nat)(hn:1<=f.Blocks.length/\f.Blocks.length<=64)(hl:(Bo f i).To.length<4611686018427387904):Ad (G9 f (i:Int)) (([]:List Int),(1:Int))=some (KY (Bo f i).To f.Blocks.length):=by
 have hroom:1000<=room:=by decide
 have hE:(f.Blocks.getD i _).End=Bo f i:=rfl
 have e0:KY (Bo f i).To 1=[]:=by unfold KY;simp
 have key:=Fl (G9 f i) (λk=>(KY (Bo f i).To (k+1),(k+1:Nat))) (KY (Bo f i).To f.Blocks.length) (f.Blocks.length-1) (λk hk=>?_) ?_
 ·grind
 ·unfold G9
  have hlen:(KY (Bo f i).To (k+1)).length<=k+1:=by
   unfold KY;have:=List.length_filter_le (λz =>decide (1<=z)&&(Bo f i).To.contains (z:Nat)) (List.range (k+1))
   simpa using this
  simp only[Ap,hE,B4 (show k+1<f.Blocks.length by omega)];rw[pH _ _ hl,Aj,w1 (by omega)]
  have hs:KY (Bo f i).To (k+1+1)=KY (Bo f i).To (k+1)++(if(Bo f i).To.contains ((k+1:Nat))=true then[(k+1:Int)] else[]):=by
   unfold KY;rw[FM,FL]
   cases hg:(Bo f i).To.contains _ with
   | true=>grind
   | false=>grind
  rw[hs]
  cases hg:(Bo f i).To.contains _ with
  | true=>
   rw[ Ac (by grind)]
   rfl
  | false =>  simp
 ·unfold G9;simp only[show f.Blocks.length-1+1=f.Blocks.length by omega,Dh,Ar]
theorem QW(f:TFunc)(hf:f.Blocks.length<=maxLen):Hk f=some (bif Rl f then(J9 (Bu f),0) else(g0,5)):=by
 have hroom:(1000:Nat)<=room:=by decide
 unfold Hk
 have hc:(bif ((f.Blocks.length:Int)==(0:Int)) then true else decide ((64:Int)<(f.Blocks.length:Int))) = !(decide (1<=f.Blocks.length)&&decide (f.Blocks.length<=64)):=by
  grind
 rw[hc];have hsh:Rl f=((decide (1<=f.Blocks.length)&&decide (f.Blocks.length<=64))&&(List.range f.Blocks.length).all λi=>M6 (Bo f i) f.Blocks.length):=rfl
 cases hb:(decide (1<=f.Blocks.length)&&decide (f.Blocks.length<=64)) with
 | false=>rw[hsh,hb];rfl
 | true=>
  have hb':=hb;simp only[A1,Dq]at hb';simp only[Dt,Ar]
  let U:Nat->List (List Int):=λi=>(List.range i).map λj=>KY (Bo f j).To f.Blocks.length
  have hstep:∀ i:Nat,i<f.Blocks.length->Cf f (U i,(i:Int))=bif M6 (Bo f i) f.Blocks.length then some (.next (U (i+1),((i+1:Nat):Int))) else some (.done (.inr (g0,5))):=λi hi=>by
   unfold Cf;have hE:(f.Blocks.getD i (default:Ab)).End=Bo f i:=rfl;simp only[B4 hi,Af,Ap,hE];rw[Ac (Fc hi),w1 (by omega)]
   by_cases hk:0<=(Bo f i).Kind/\(Bo f i).Kind<=3
   ·rw[Dl (show ¬ (Bo f i).Kind<0 by omega),Dl (show ¬ (3:Int)<(Bo f i).Kind by omega)];simp only[Ar];rw[M5 (show As (Bo f i).Kind ([(0:Int),1,2,0]:List Int).length from⟨hk.1,by show(Bo f i).Kind<4;omega⟩)];have hw:([(0:Int),1,2,0]:List Int).getD (Bo f i).Kind.toNat 0=U4 (Bo f i).Kind:=rfl;rw[hw]
    have hkb:BK (Bo f i)=decide (((Bo f i).To.length:Int)=U4 (Bo f i).Kind):=by
     unfold BK;rw[F6 hk.1,F6 hk.2];rfl
    unfold M6;rw[hkb]
    by_cases hl:((Bo f i).To.length:Int)=U4 (Bo f i).Kind
    ·have hw2:U4 (Bo f i).Kind<=2:=by
      have:(Bo f i).Kind=0\/(Bo f i).Kind=1\/(Bo f i).Kind=2\/(Bo f i).Kind=3:=by omega
      rcases this with h|h|h|h<;>rw[h]<;>decide
     rw[show(((Bo f i).To.length:Int)!=U4 (Bo f i).Kind)=false by simpa using hl,F6 hl,Ar,mH f i (by omega),Jj]
     cases htb:rU f.Blocks.length (Bo f i).To with
     | false=>rfl
     | true=>
      simp only[Af,Aj];rw[mI f i hb' (by omega)];simp only[Aj];rw[Ac (by simp only[U,L1,Xh,FK];omega)]
      congr 3
      simp only[U];rw[FM,JH]
      rfl
    ·rw[show(((Bo f i).To.length:Int)!=U4 (Bo f i).Kind)=true by simpa using hl,Dl hl];rfl
   ·have hbad:(bif decide ((Bo f i).Kind<0) then true else decide ((3:Int)<(Bo f i).Kind))=true:=by
     by_cases h0:(Bo f i).Kind<0
     ·rw[F6 h0];rfl
     ·rw[Dl h0,F6 (show(3:Int)<(Bo f i).Kind by omega)];rfl
    have hkb:BK (Bo f i)=false:=by
     unfold BK
     by_cases h0:0<=(Bo f i).Kind
     ·rw[Dl (show ¬ (Bo f i).Kind<=3 by omega)];simp
     ·rw[Dl h0];simp
    simp only[hbad];rw[Ac (by intro h;cases h)];unfold M6;rw[hkb]
    rfl
  have:=H7 (Cf f) (λi=>(U i,((i:Nat):Int))) (λi=>M6 (Bo f i) f.Blocks.length) (.inl (U f.Blocks.length)) (.inr (g0,5)) f.Blocks.length (λi hi hp=>?_) (λi hi hp=>?_) ?_
  ·rw[show Ad (Cf f) (([]:List (List Int)),(0:Int))=_ from this,hsh,hb,Jj]
   cases hall:(List.range f.Blocks.length).all λi=>M6 (Bo f i) f.Blocks.length with
   | false=>rfl
   | true=>
    have hshape:Rl f=true:=by rw[hsh,hb,hall];rfl
    have hm:=Rj hshape
    have hU:U f.Blocks.length=Bu f:=by
     simp only[U,Bu]
     apply Ha
     intro j hj;exact qC (ZV ((shape_iff.1 hshape).2 j hj))
    simp only[Af,Aj];rw[hU,QV _ (Uz (T9 hm)),hm]
    rfl
  ·show Cf f (_,_)=_
   rw[hstep i hi,hp];rfl
  ·show Cf f (_,_)=_
   rw[hstep i hi,hp];rfl
  ·show Cf f (_,_)=_
   unfold Cf;simp only[Dh,Ar]
inductive Rc (S:Nat->List Nat) (r:Nat):Nat->Prop
 | root:Rc S r r
 | step {x y:Nat} (h:Rc S r x) (hy:y∈S x):Rc S r y
inductive Av (S:Nat->List Nat) (r z:Nat):Nat->Prop
 | root (h:r≠z):Av S r z r
 | step {x y:Nat} (h:Av S r z x) (hy:y∈S x) (hz:y≠z):Av S r z y
inductive AvN (S:Nat->List Nat) (r z:Nat):Nat->Nat->Prop
 | root (h:r≠z) (k:Nat):AvN S r z k r
 | step {k x y:Nat} (h:AvN S r z k x) (hy:y∈S x) (hz:y≠z):AvN S r z (k+1) y
section
variable {S:Nat->List Nat} {r:Nat}
theorem rc_iff{x:Nat}:Rc S r x↔Rch S r x:=by
 constructor
 ·intro h
  induction h with
  | root=>exact .refl _
  | step _ hy ih=>exact ih.tail hy
 ·intro h
  have key:∀ a b,Rch S a b->Rc S r a->Rc S r b:=by
   intro a b hab
   induction hab with
   | refl x=>exact id
   | head hy _ ih=>exact λha=>ih (.step ha hy)
  exact key _ _ h .root
def wo(S:Nat->List Nat)(z:Nat):Nat->List Nat:=λx=>(S x).filter λy=>decide (y≠z)
theorem av_iff{z x:Nat}:Av S r z x↔r≠z/\Rch (wo S z) r x:=by
 constructor
 ·intro h
  induction h with
  | root h=>exact⟨h,.refl _⟩
  | step _ hy hz ih=>exact⟨ih.1,ih.2.tail (zzL95.2 ⟨hy,by simpa using hz⟩)⟩
 ·rintro⟨hr,h⟩
  have key:∀ a b,Rch (wo S z) a b->Av S r z a->Av S r z b:=by
   intro a b hab
   induction hab with
   | refl x=>exact id
   | head hy _ ih=>
    obtain⟨h1,h2⟩:=zzL95.1 hy;exact λha=>ih (.step ha h1 (by simpa using h2))
  exact key _ _ h (.root hr)
theorem Av.rc{z x:Nat}(h:Av S r z x):Rc S r x:=by
 induction h with
 | root _=>exact .root
 | step _ hy _ ih=>exact .step ih hy
theorem Av.ne{z x:Nat}(h:Av S r z x):x≠z:=by
 cases h with
 | root h=>exact h
 | step _ _ hz=>exact hz
theorem AvN.av{z k x:Nat}(h:AvN S r z k x):Av S r z x:=by
 induction h with
 | root h=>exact .root h
 | step _ hy hz ih=>exact .step ih hy hz
theorem AvN.up{z k x:Nat}(h:AvN S r z k x):AvN S r z (k+1) x:=by
 induction h with
 | root h k=>exact .root h _
 | step _ hy hz ih=>exact .step ih hy hz
theorem AvN.mono{z k m x:Nat}(h:AvN S r z k x)(hm:k<=m):AvN S r z m x:=by
 obtain⟨d,rfl⟩:=Nat.exists_eq_add_of_le hm;clear hm
 induction d with
 | zero=>exact h
 | succ d ih=>exact ih.up
theorem Av.avn{z x:Nat}(h:Av S r z x):∃ k,AvN S r z k x:=by
 induction h with
 | root h=>exact⟨0,.root h 0⟩
 | step _ hy hz ih=>obtain⟨k,hk⟩:=ih;exact⟨k+1,.step hk hy hz⟩
theorem AvN.via {z k x : Nat} (h : AvN S r z k x) (y : Nat) : AvN S r y k x ∨ AvN S r z k y := by
  induction h with
  | root h k => by_cases hy : r = y
                · subst hy; exact .inr (.root h _)
                · exact .inl (.root hy _)
  | @step k x w h hy hz ih =>
    rcases ih with h1 | h1
    · by_cases hw : w = y
      · subst hw; exact .inr (.step h hy hz)
      · exact .inl (.step h1 hy hw)
    · exact .inr h1.up
theorem lF(n:Nat):∃ K,∀ z,z<n->∀ x,x<n->Av S r z x->AvN S r z K x:=by
 have one:∀ z m,∃ K,∀ x,x<m->Av S r z x->AvN S r z K x:=by
  intro z m
  induction m with
  | zero=>simp_all
  | succ m ih=>
   obtain⟨K,hK⟩:=ih
   by_cases h:Av S r z m
   ·obtain⟨k,hk⟩:=h.avn;refine⟨max K k,λx hx ha=>?_⟩;rcases Nat.lt_succ_iff_lt_or_eq.1 hx with h1|rfl
    ·exact(hK x h1 ha).mono (Nat.le_max_left ..)
    ·exact hk.mono (Nat.le_max_right ..)
   ·refine⟨K,λx hx ha=>?_⟩;rcases Nat.lt_succ_iff_lt_or_eq.1 hx with h1|rfl
    ·exact hK x h1 ha
    ·exact absurd ha h
 have two:∀ m,∃ K,∀ z,z<m->∀ x,x<n->Av S r z x->AvN S r z K x:=by
  intro m
  induction m with
  | zero=>simp_all
  | succ m ih=>
   obtain⟨K,hK⟩:=ih;obtain⟨k,hk⟩:=one m n;refine⟨max K k,λz hz x hx ha=>?_⟩;rcases Nat.lt_succ_iff_lt_or_eq.1 hz with h1|rfl
   ·exact(hK z h1 x hx ha).mono (Nat.le_max_left ..)
   ·exact(hk x hx ha).mono (Nat.le_max_right ..)
 exact two n
end
inductive UpTo (par:Nat->Int):Nat->Nat->Prop
 | refl (x:Nat):UpTo par x x
 | up {x y z:Nat} (h:par x=(y:Int)) (t:UpTo par y z):UpTo par x z
inductive Fw (S:Nat->List Nat) (at_:Nat->Nat) (u:Nat):Nat->Prop
 | refl:Fw S at_ u u
 | step {v w:Nat} (h:Fw S at_ u v) (hw:w∈S v) (hl:at_ v<at_ w):Fw S at_ u w
section
variable {S:Nat->List Nat} {at_:Nat->Nat} {par:Nat->Int}
theorem Fw.le{u w:Nat}(h:Fw S at_ u w):at_ u<=at_ w:=by
 induction h with
 | refl=>exact zzL8 _
 | step _ _ hl ih=>omega
theorem Fw.trans{u v w:Nat}(h:Fw S at_ u v)(k:Fw S at_ v w):Fw S at_ u w:=by
 induction k with
 | refl=>exact h
 | step _ hw hl ih=>exact .step ih hw hl
theorem Fw.av{r d u w:Nat}(h:Fw S at_ u w)(ha:Av S r d u)(hd:at_ d<at_ u):Av S r d w:=by
 induction h with
 | refl=>exact ha
 | @step v w h hw hl ih=>exact .step ih hw (by rintro rfl;have:=h.le;omega)
theorem UpTo.trans{x y z:Nat}(h:UpTo par x y)(k:UpTo par y z):UpTo par x z:=by
 induction h with
 | refl x=>exact k
 | up h _ ih=>exact .up h (ih k)
theorem anc_up{x p z:Nat}(h:par x=(p:Int)):UpTo par x z↔z=x\/UpTo par p z:=by
 constructor
 ·intro k
  cases k with
  | refl=>exact .inl rfl
  | up h' t=>grind
 ·rintro(rfl|k)
  ·exact .refl _
  ·exact .up h k
theorem OR{x z:Nat}(h:∀ p:Nat,par x≠(p:Int)):UpTo par x z↔z=x:=by
 constructor
 ·intro k
  cases k with
  | refl=>rfl
  | up h' t=>exact absurd h' (h _)
 ·rintro rfl;exact .refl _
structure Inv(S:Nat->List Nat)(r n:Nat)(at_:Nat->Nat)(par:Nat->Int):Prop where
 top:par r = -1
 kind:∀ x,x<n->par x = -2\/x=r\/∃ z:Nat,par x=(z:Int)
 up:∀ x,x<n->∀ z:Nat,par x=(z:Int)->z<n/\par z≠-2/\at_ z<at_ x/\Fw S at_ z x
 rc:∀ x,x<n->par x≠-2->Rc S r x
 all:∀ x,x<n->par x≠-2->∀ d,¬ UpTo par x d->Av S r d x
end
section
variable {S:Nat->List Nat} {at_:Nat->Nat} {par:Nat->Int} {r n:Nat}
theorem Inv.anc(h:Inv S r n at_ par){x z:Nat}(k:UpTo par x z)(hx:x<n)(hp:par x≠-2):z<n/\par z≠-2/\at_ z<=at_ x/\Fw S at_ z x:=by
 induction k with
 | refl x=>exact⟨hx,hp,zzL8 _,.refl⟩
 | @up x y z hxy t ih=>
  obtain⟨h1,h2,h3,h4⟩:=h.up x hx y hxy;obtain⟨i1,i2,i3,i4⟩:=ih h1 h2;exact⟨i1,i2,by omega,i4.trans h4⟩
theorem Inv.root_anc(h:Inv S r n at_ par){z:Nat}:UpTo par r z↔z=r:=OR λp hp=>by rw[h.top]at hp;omega
theorem Inv.strict(h:Inv S r n at_ par){x z:Nat}(k:UpTo par x z)(hx:x<n)(hp:par x≠-2):z=x\/at_ z<at_ x:=by
 cases k with
 | refl=>exact .inl rfl
 | up hxy t=>
  obtain⟨h1,h2,h3,h4⟩:=h.up x hx _ hxy;obtain⟨i1,i2,i3,i4⟩:=h.anc t h1 h2;exact .inr (by omega)
theorem Inv.antisymm(h:Inv S r n at_ par){x z:Nat}(k:UpTo par x z)(m:UpTo par z x)(hx:x<n)(hp:par x≠-2):z=x:=by
 rcases h.strict k hx hp with rfl|h1
 ·rfl
 ·obtain⟨i1,i2,i3,i4⟩:=h.anc k hx hp;have:=(h.anc m i1 i2).2.2.1;omega
def MeetAt(par:Nat->Int)(a b m:Nat):Prop:=∀ w,UpTo par m w↔UpTo par a w/\UpTo par b w
theorem XR{a:Nat}:MeetAt par a a a:=λw=>by simp
theorem ls{a b m:Nat}(h:MeetAt par a b m):MeetAt par b a m:=λw=>by rw[h w];exact And.comm
theorem Inv.meet_left(h:Inv S r n at_ par)(hinj:∀ x y,x<n->y<n->par x≠-2->par y≠-2->at_ x=at_ y->x=y){a b p m:Nat}(ha:a<n)(hpa:par a≠-2)(hb:b<n)(hpb:par b≠-2)(hab:a≠b)(hl:at_ b<=at_ a)(hp:par a=(p:Int))(k:MeetAt par p b m):MeetAt par a b m:=λw=>by
 rw[k w]
 constructor
 ·rintro⟨h1,h2⟩;exact⟨.up hp h1,h2⟩
 ·rintro⟨h1,h2⟩;rcases(anc_up hp).1 h1 with rfl|h1
  ·exfalso
   rcases h.strict h2 hb hpb with h3|h3
   ·exact hab h3
   ·omega
  ·exact⟨h1,h2⟩
end
section
variable {S:Nat->List Nat} {at_:Nat->Nat} {par:Nat->Int} {r n:Nat}
def Se(par:Nat->Int)(y:Nat)(v:Int):Nat->Int:=λx=>if x=y then v else par x
def e9(S:Nat->List Nat)(n:Nat)(par:Nat->Int)(y z:Nat):Prop:=∀ w,UpTo par z w↔∀ p,p<n->y∈S p->par p≠-2->UpTo par p w
theorem MA{y:Nat}{v:Int}{x z:Nat}(k:UpTo par x z)(hy:¬ UpTo par x y):UpTo (Se par y v) x z:=by
 induction k with
 | refl x=>exact .refl _
 | @up x q z h t ih=>
  have hxy:x≠y:=by rintro rfl;exact hy (.refl _)
  refine .up  ?_ (ih λk=>hy (.up h k));unfold Se;rw[if_neg hxy];exact h
theorem cO{y:Nat}{v:Int}{x:Nat}(k:UpTo par x y):UpTo (Se par y v) x y:=by
 induction k with
 | refl x=>exact .refl _
 | @up x q z h t ih=>
  by_cases hxy:x=z
  ·subst hxy;exact .refl _
  ·refine .up  ?_ ih;unfold Se;rw[if_neg hxy];exact h
theorem anc_upd_inv{y:Nat}{v:Int}{x w:Nat}(k:UpTo (Se par y v) x w):UpTo par x w\/(UpTo par x y/\UpTo (Se par y v) y w):=by
 induction k with
 | refl x=>exact .inl (.refl _)
 | @up x q w h t ih=>
  by_cases hxy:x=y
  ·subst hxy;exact .inr ⟨.refl _,.up h t⟩
  ·unfold Se at h;rw[if_neg hxy]at h;rcases ih with h1|⟨h1,h2⟩
   ·exact .inl (.up h h1)
   ·exact .inr ⟨.up h h1,h2⟩
theorem low_or{y:Nat}{v:Int}{x d:Nat}(k:UpTo par x y)(hd:UpTo par x d):UpTo par y d\/UpTo (Se par y v) x d:=by
 induction k with
 | refl x=>exact .inl hd
 | @up x q y hq t ih=>
  by_cases e:x=y
  ·subst e;exact .inl hd
  ·rcases(anc_up hq).1 hd with rfl|k
   ·exact .inr (.refl _)
   ·rcases ih k with h1|h1
    ·exact .inl h1
    ·exact .inr (.up  (by unfold Se;rw[if_neg e];exact hq) h1)
structure Better(S:Nat->List Nat)(r n:Nat)(at_:Nat->Nat)(par:Nat->Int)(y z:Nat):Prop where
 inv:Inv S r n at_ par
 hy:y<n
 hr:y≠r
 hz:z<n
 best:e9 S n par y z
 fwd:∃ p,p<n/\y∈S p/\par p≠-2/\at_ p<at_ y
variable {y z:Nat}
theorem Better.zlt(h:Better S r n at_ par y z):UpTo par z z/\par z≠-2/\at_ z<at_ y/\Fw S at_ z y:=by
 obtain⟨p,hp,hyp,hpp,hl⟩:=h.fwd;obtain⟨h1,h2,h3,h4⟩:=h.inv.anc ((h.best z).1 (.refl _) p hp hyp hpp) hp hpp;exact⟨.refl _,h2,by omega,.step h4 hyp hl⟩
theorem Better.above(h:Better S r n at_ par y z){w:Nat}:UpTo (Se par y z) z w↔UpTo par z w:=by
 obtain⟨_,h2,h3,_⟩:=h.zlt
 have hn:¬ UpTo par z y:=λk=>by have:=(h.inv.anc k h.hz h2).2.2.1;omega
 constructor
 ·intro k;rcases anc_upd_inv k with h1|⟨h1,_⟩
  ·exact h1
  ·exact absurd h1 hn
 ·intro k;exact MA k hn
theorem Better.here(h:Better S r n at_ par y z){w:Nat}:UpTo (Se par y z) y w↔w=y\/UpTo par z w:=by
 rw[anc_up (p:=z) (by simp[Se]),h.above]
theorem Better.av_here(h:Better S r n at_ par y z){d:Nat}(hd:¬ UpTo (Se par y z) y d):Av S r d y:=by
 rw[h.here]at hd;have h1:¬ ∀ p,p<n->y∈S p->par p≠-2->UpTo par p d:=λhh=>hd (.inr ((h.best d).2 hh));simp only[Classical.not_forall]at h1;obtain⟨p,hp,hyp,hpp,hnp⟩:=h1;exact .step (h.inv.all p hp hpp d hnp) hyp λe=>hd (.inl e.symm)
theorem Better.inv'(h:Better S r n at_ par y z):Inv S r n at_ (Se par y z):=by
 obtain⟨hzz,hz2,hzl,hzf⟩:=h.zlt;obtain⟨p,hp,hyp,hpp,hl⟩:=h.fwd
 have hne:∀ x,Se par y z x≠-2->x=y\/par x≠-2:=λx hx=>by
  by_cases e:x=y
  ·exact .inl e
  ·unfold Se at hx;rw[if_neg e]at hx;exact .inr hx
 have hyv:Se par y z y=z:=by simp[Se]
 have hyo:∀ x,x≠y->Se par y z x=par x:=λx e=>by unfold Se;rw[if_neg e]
 refine⟨by rw[hyo _ (Rn h.hr)];exact h.inv.top,λx hx=>?_,λx hx w hw=>?_,λx hx hxp=>?_,λx hx hxp d hd=>?_⟩
 ·by_cases e:x=y
  ·grind
  ·rw[hyo x e];exact h.inv.kind x hx
 ·have hzn:∀ w,par w≠-2->Se par y z w≠-2:=λw hw=>by
   grind
  by_cases e:x=y
  ·subst e;rw[hyv]at hw
   cases LK hw
   exact⟨h.hz,hzn _ hz2,hzl,hzf⟩
  ·rw[hyo x e]at hw;obtain⟨h1,h2,h3,h4⟩:=h.inv.up x hx w hw;exact⟨h1,hzn _ h2,h3,h4⟩
 ·rcases hne x hxp with rfl|h1
  ·exact .step (h.inv.rc p hp hpp) hyp
  ·exact h.inv.rc x hx h1
 ·by_cases e:x=y
  ·subst e;exact h.av_here hd
  ·rw[hyo x e]at hxp
   by_cases hxd:UpTo par x d
   ·
    by_cases hxy:UpTo par x y
    ·have hyd :=λk=>hd ((cO hxy).trans k);have hav:=h.av_here hyd;have hf:=(h.inv.anc hxy hx hxp).2.2.2
     have hdy:UpTo par y d:=by
      rcases low_or  hxy hxd with h1|h1
      ·exact h1
      ·exact absurd h1 hd
     by_cases hpy:par y = -2
     ·
      have :=by
       refine(OR  λp hp=>?_).1 hdy;rw[hpy]at hp;omega
      subst this;exact absurd (.refl _) hyd
     ·rcases h.inv.strict hdy h.hy hpy with rfl|hlt
      ·exact absurd (.refl _) hyd
      ·exact hf.av hav hlt
    ·exact absurd (MA hxd hxy) hd
   ·exact h.inv.all x hx hxp d hxd
end
section
variable {S:Nat->List Nat} {at_:Nat->Nat} {par:Nat->Int} {r n:Nat}
def QB(S:Nat->List Nat)(r n:Nat)(par:Nat->Int)(b:Nat->Nat):Prop:=∀ x,x<n->par x≠-2->∀ z,AvN S r z (b x) x->¬ UpTo par x z
def fA(S:Nat->List Nat)(r n:Nat)(par:Nat->Int):Prop:=∀ x,x<n->Rc S r x->par x≠-2
def jF(S:Nat->List Nat)(r n:Nat)(par:Nat->Int):Prop:=∀ x,x<n->par x≠-2->∀ d,UpTo par x d↔¬ Av S r d x
theorem ue(h:Inv S r n at_ par):QB S r n par λ_=>0:=λx hx hp z hz k=>by
 cases hz with
 | root hr _=>exact hr (h.root_anc.1 k).symm
theorem j7(hS:∀ x,x<n->∀ w∈S x,w<n)(hr:r<n){x:Nat}(h:Rc S r x):x<n:=by
 induction h with
 | root=>exact hr
 | step _ hy ih=>exact hS _ ih _ hy
theorem Better.qb{y z k:Nat}{b:Nat->Nat}(h:Better S r n at_ par y z)(hS:∀ x,x<n->∀ w∈S x,w<n)(hrn:r<n)(full:fA S r n par)(hb:∀ x,x<n->k<=b x/\b x<=k+1)(q:QB S r n par b) :
  QB S r n (Se par y z) λx=>if x=y then k+1 else b x:=by
 have here:∀ w,AvN S r w (k+1) y->¬ UpTo _ y w:=λw hw hu=>by
  rcases h.here.1 hu with rfl|hu
  ·exact hw.av.ne rfl
  ·cases hw with
   | root hr _=>exact h.hr rfl
   | @step _ p _ hp hyp hne=>
    have hpn:=j7 hS hrn hp.av.rc;have hpp:=full p hpn hp.av.rc;exact q p hpn hpp w (hp.mono (hb p hpn).1) ((h.best w).1 hu p hpn hyp hpp)
 intro x hx hxp w hw hu
 dsimp only at hw
 by_cases e:x=y
 ·grind
 ·rw[if_neg e]at hw;unfold Se at hxp;rw[if_neg e]at hxp;rcases anc_upd_inv hu with h1|⟨h1,h2⟩
  ·exact q x hx hxp w hw h1
  ·rcases hw.via y with h3|h3
   ·exact q x hx hxp y h3 h1
   ·exact here w (h3.mono (hb x hx).2) h2
theorem oh(h:Inv S r n at_ par){K:Nat}(hK:∀ z,z<n->∀ x,x<n->Av S r z x->AvN S r z K x)(q:QB S r n par λ_=>K):jF S r n par:=λx hx hp d=>by
 constructor
 ·intro hu ha;exact q x hx hp d (hK d (h.anc hu hx hp).1 x hx ha) hu
 ·intro ha;exact bT λhn=>ha (h.all x hx hp d hn)
theorem Better.same{y z:Nat}(h:Better S r n at_ par y z)(hS:∀ x,x<n->∀ w∈S x,w<n)(hrn:r<n)(full:fA S r n par)(hy2:par y≠-2)(ex:jF S r n par):par y=(z:Int):=by
 obtain⟨hzz,hz2,hzl,hzf⟩:=h.zlt;rcases h.inv.kind y h.hy with h1|h1|⟨q,hq⟩
 ·exact absurd h1 hy2
 ·exact absurd h1 h.hr
 ·obtain⟨q1,q2,q3,q4⟩:=h.inv.up y h.hy q hq
  have key:∀ w,UpTo par z w↔UpTo par q w:=λw=>by
   rw[h.best w]
   constructor
   ·intro hall
    have hwy:¬ Av S r w y:=λha=>by
     cases ha with
     | root _=>exact h.hr rfl
     | @step p _ hp hyp hne=>
      have hpn:=j7 hS hrn hp.rc;have hpp:=full p hpn hp.rc;exact(ex p hpn hpp w).1 (hall p hpn hyp hpp) hp
    rcases(anc_up hq).1 ((ex y h.hy hy2 w).2 hwy) with rfl|hu
    ·have:=(h.inv.anc ((h.best _).2 hall) h.hz hz2).2.2.1;omega
    ·exact hu
   ·intro hu p hp hyp hpp;have hwy:UpTo par y w:=.up hq hu;refine(ex p hp hpp w).2 λha=>?_
    have hne:y≠w:=by rintro rfl;have:=(h.inv.anc hu q1 q2).2.2.1;omega
    exact(ex y h.hy hy2 w).1 hwy (.step ha hyp hne)
  have:=h.inv.antisymm ((key q).2 (.refl _)) ((key z).1 (.refl _)) h.hz hz2;rw[hq,this]
theorem lV(h:Inv S r n at_ par)(hS:∀ x,x<n->∀ w∈S x,w<n)(hrn:r<n)(full:fA S r n par)(fix:∀ y,y<n->y≠r->Rc S r y->∃ z:Nat,par y=(z:Int)/\e9 S n par y z):jF S r n par:=λx hx hp d=>by
 constructor
 ·intro hu ha
  induction ha with
  | root hne=>exact hne (h.root_anc.1 hu).symm
  | @step p y hp' hyp hne ih=>
   have hpn:=j7 hS hrn hp'.rc;have hpp:=full p hpn hp'.rc
   by_cases e:y=r
   ·subst e;exact hne (h.root_anc.1 hu).symm
   ·obtain⟨z,hz,hb⟩:=fix y hx e (.step hp'.rc hyp);rcases(anc_up hz).1 hu with rfl|hu
    ·exact hne rfl
    ·exact ih hpn hpp ((hb d).1 hu p hpn hyp hpp)
 ·intro ha;exact bT λhn=>ha (h.all x hx hp d hn)
end
def Bv(t:List Int):Nat->Int:=λx=>t.getD x 0
theorem dr{t:List Int}{y:Nat}{v:Int}(hy:y<t.length):Bv (t.set y v)=Se (Bv t) y v:=by
 funext x
 unfold Bv Se
 by_cases e:x=y
 ·grind
 ·grind
open Classical in
def Pp(S:Nat->List Nat)(n:Nat)(t:List Int)(y:Nat):Nat:=if h:∃ z,z<n/\e9 S n (Bv t) y z then Classical.choose h else 0
def AH(S:Nat->List Nat)(n:Nat)(P:List Nat)(t:List Int):Nat->List Int
 | 0=>t
 | i+1=>(AH S n P t i).set (P.getD i 0) (Pp S n (AH S n P t i) (P.getD i 0):Int)
def UV(S:Nat->List Nat)(n:Nat)(P:List Nat)(t:List Int):Nat->List Int
 | 0=>t
 | j+1=>AH S n P (UV S n P t j) P.length
def Ji(n r:Nat):List Int:=(List.replicate n (-2:Int)).set r (-1)
structure Ordered(S:Nat->List Nat)(r n:Nat)(P:List Nat):Prop where
 hr:r<n
 hS:∀ x,x<n->∀ w∈S x,w<n
 nodup:(r::P).Nodup
 mem:∀ x,x∈r::P↔Rc S r x
 fwd:∀ i,i<P.length->∃ p,p∈r::P.take i/\P.getD i 0∈S p
section
variable {S:Nat->List Nat} {r n:Nat} {P:List Nat}
theorem Ordered.lt(o:Ordered S r n P){x:Nat}(h:x∈r::P):x<n:=j7 o.hS o.hr ((o.mem x).1 h)
theorem Wz{i:Nat}(hi:i<P.length):P.getD i 0∈P:=by grind
theorem Ordered.at_lt(o:Ordered S r n P){i:Nat}(hi:i<P.length){p:Nat}(hp:p∈r::P.take i):pos (r::P) p<pos (r::P) (P.getD i 0):=by
 have hd:=o.nodup
 have h1:pos (r::P) (P.getD i 0)=i+1:=by
  have:=(PC hd (i:=i+1) (by simpa using hi)).2;rw[An _ _ _ hi]
  simpa using this
 rw[h1];obtain⟨j,hj,rfl⟩:=N6 hp
 have hj':j<i+1:=by simp at hj;omega
 have hjl:j<(r::P).length:=by simp;omega
 have e:(r::P.take i)[j]=(r::P)[j]:=by
  grind
 rw[e,(PC hd hjl).2];exact hj'
theorem Abi(o:Ordered S r n P):Inv S r n (pos (r::P)) (Bv (Ji n r))/\(Ji n r).length=n/\Bv (Ji n r) r≠-2:=by
 have hlen:(Ji n r).length=n:=by simp[Ji]
 have hr:=o.hr
 have at_:∀ x,x<n->Bv (Ji n r) x=if x=r then -1 else -2:=λx hx=>by
  unfold Bv Ji
  by_cases e:x=r
  ·grind
  ·grind
 have hno:∀ x,x<n->∀ p:Nat,Bv (Ji n r) x≠p:=λx hx p hp=>by grind
 refine⟨⟨by grind,λx hx=>?_,λx hx z hz=>absurd hz (hno x hx z),λx hx hp=>?_,λx hx hp d hd=>?_⟩,hlen,by grind⟩
 ·grind
 ·by_cases e:x=r
  ·subst e;exact .root
  ·grind
 ·by_cases e:x=r
  ·subst e;exact .root (λe=>hd (by rw[e];exact .refl _))
  ·grind
structure Ready(S:Nat->List Nat)(r n:Nat)(P:List Nat)(t:List Int)(i:Nat):Prop where
 inv:Inv S r n (pos (r::P)) (Bv t)
 len:t.length=n
 done:∀ x∈r::P.take i,Bv t x≠-2
theorem Inv.meets{at_:Nat->Nat}{par:Nat->Int}(h:Inv S r n at_ par)(hinj:∀ x y,x<n->y<n->par x≠-2->par y≠-2->at_ x=at_ y->x=y)(hr:at_ r=0):∀ m a b,at_ a+at_ b<=m->a<n->b<n->par a≠-2->par b≠-2->∃ c,MeetAt par a b c/\c<n/\par c≠-2:=by
 intro m
 induction m with
 | zero=>
  intro a b hm ha hb hpa hpb;have:a=b:=hinj a b ha hb hpa hpb (by omega);subst this;exact⟨a,XR,ha,hpa⟩
 | succ m ih=>
  have go:∀ a b,at_ a+at_ b<=m+1->a<n->b<n->par a≠-2->par b≠-2->at_ b<=at_ a->∃ c,MeetAt par a b c/\c<n/\par c≠-2:=λa b hm ha hb hpa hpb hl=>by
   by_cases e:a=b
   ·subst e;exact⟨a,XR,ha,hpa⟩
   ·rcases h.kind a ha with h1|h1|⟨p,hp⟩
    ·exact absurd h1 hpa
    ·subst h1;exact absurd (hinj a b ha hb hpa hpb (by omega)) e
    ·obtain⟨p1,p2,p3,p4⟩:=h.up a ha p hp;obtain⟨c,hc,hc2⟩:=ih p b (by omega) p1 hb p2 hpb;exact⟨c,h.meet_left hinj ha hpa hb hpb e hl hp hc,hc2⟩
  intro a b hm ha hb hpa hpb;rcases Nat.le_total (at_ b) (at_ a) with hl|hl
  ·exact go a b hm ha hb hpa hpb hl
  ·obtain⟨c,hc,hc2⟩:=go b a (by omega) hb ha hpb hpa hl;exact⟨c,ls hc,hc2⟩
theorem Ready.inj(o:Ordered S r n P){t:List Int}{i:Nat}(h:Ready S r n P t i):∀ x y,x<n->y<n->Bv t x≠-2->Bv t y≠-2->pos (r::P) x=pos (r::P) y->x=y:=λx y hx hy hpx hpy he=>by
 have hm :=λx hx hp=>(o.mem x).2 (h.inv.rc x hx hp)
 have back:∀ x∈r::P,(r::P).getD (pos _ x) 0=x:=λx hx=>by
  obtain⟨j,hj,rfl⟩:=N6 hx;rw[(PC o.nodup hj).2,An _ _ _ hj]
 rw[<- back x (hm x hx hpx),<- back y (hm y hy hpy),he]
theorem dw:pos (r::P) r=0:=by rw[RS,if_pos rfl]
theorem Ready.meetAll(o:Ordered S r n P){t:List Int}{i:Nat}(h:Ready S r n P t i):∀ l:List Nat,(∀ p∈l,p<n/\Bv t p≠-2)->l≠[]->∃ z,z<n/\Bv t z≠-2/\∀ w,UpTo (Bv t) z w↔∀ p∈l,UpTo (Bv t) p w:=by
 intro l
 induction l with
 | nil=>grind
 | cons p l ih=>
  intro hl _;obtain⟨hp1,hp2⟩:=hl p (zzL38 ..)
  by_cases hl0:l=[]
  ·grind
  ·obtain⟨z,hz1,hz2,hz3⟩:=ih (λq hq=>hl q (Lj _ hq)) hl0;obtain⟨c,hc1,hc2,hc3⟩:=h.inv.meets (h.inj o) dw _ p z (zzL8 _) hp1 hz1 hp2 hz2;exact⟨c,hc2,hc3,λw=>by rw[hc1 w,hz3 w];simp⟩
theorem Ready.best(o:Ordered S r n P){t:List Int}{i:Nat}(h:Ready S r n P t i)(hi:i<P.length):Better S r n (pos (r::P)) (Bv t) (P.getD i 0) (Pp S n t (P.getD i 0)):=by
 have hy:=Wz hi;have hyr:P.getD i 0≠r:=λe=>(zzL116.1 o.nodup).1 (e▸hy);have hyn:=o.lt (Lj _ hy);obtain⟨p,hp,hyp⟩:=o.fwd i hi;have hp2:=h.done p hp
 have hpP:p∈r::P:=by
  grind
 have hpn:=o.lt hpP
 have hex:∃ z,z<n/\e9 S n (Bv t) (P.getD i 0) z:=by
  classical
  obtain⟨z,hz1,hz2,hz3⟩:=h.meetAll o ((List.range n).filter λp=>decide (P.getD i 0∈S p/\Bv t p≠-2)) (λp hp=>by
   grind) (λe=>by
   simp_all)
  refine⟨z,hz1,λw=>?_⟩
  constructor
  ·grind
  ·grind
 have hb:Pp S n t (P.getD i 0)<n/\e9 S n (Bv t) (P.getD i 0) (Pp S n t (P.getD i 0)):=by
  unfold Pp;rw[dif_pos hex];exact Classical.choose_spec hex
 exact⟨h.inv,hyn,hyr,hb.1,hb.2,p,hpn,hyp,hp2,o.at_lt hi hp⟩
theorem Ready.best_eq(o:Ordered S r n P){t:List Int}{i:Nat}(h:Ready S r n P t i)(hi:i<P.length){z:Nat}(hz:z<n)(hz2:Bv t z≠-2)(hb:e9 S n (Bv t) (P.getD i 0) z):z=Pp S n t (P.getD i 0):=by
 have b:=h.best o hi;exact(h.inv.antisymm ((hb _).2 ((b.best _).1 (.refl _))) ((b.best _).2 ((hb _).1 (.refl _))) hz hz2).symm
theorem Ready.next(o:Ordered S r n P){t:List Int}{i:Nat}(h:Ready S r n P t i)(hi:i<P.length):Ready S r n P (t.set (P.getD i 0) (Pp S n t (P.getD i 0):Int)) (i+1):=by
 have b:=h.best o hi;have e:=dr   (v:=Pp S n t (P.getD i 0)) (by rw[h.len];exact b.hy);refine⟨by rw[e];exact b.inv',by rw[D0];exact h.len,λx hx=>?_⟩;rw[e];unfold Se
 split
 ·omega
 ·refine h.done x ?_;rcases zzL27.1 hx with rfl|hx
  ·grind
  ·rw[kM hi]at hx;rcases zzL13.1 hx with hx|hx
   ·grind
   ·grind
theorem Ready.more(o:Ordered S r n P){t:List Int}(h:Ready S r n P t P.length)(i:Nat):Ready S r n P t i:=
 ⟨h.inv,h.len,λx hx=>h.done x (by
  grind)⟩
theorem Ready.full(o:Ordered S r n P){t:List Int}(h:Ready S r n P t P.length):fA S r n (Bv t):=λx hx hr=>h.done x (by rw[TF];exact(o.mem x).2 hr)
theorem Ready.round(o:Ordered S r n P){t:List Int}(h:Ready S r n P t 0):∀ i,i<=P.length->Ready S r n P (AH S n P t i) i:=by
 intro i
 induction i with
 | zero=>intro _;exact h
 | succ i ih=>intro hi;exact(ih (by omega)).next o (by omega)
theorem xe(o:Ordered S r n P):Ready S r n P (Ji n r) 0:=by
 obtain⟨h1,h2,h3⟩:=Abi o;exact⟨h1,h2,λx hx=>by grind⟩
theorem Ready.rounds(o:Ordered S r n P):∀ j,Ready S r n P (UV S n P (Ji n r) j) 0:=by
 intro j
 induction j with
 | zero=>exact xe o
 | succ j ih=>exact((ih.round o) _ (zzL8 _)).more o 0
theorem Ready.rounds'(o:Ordered S r n P)(j:Nat):Ready S r n P (UV S n P (Ji n r) (j+1)) P.length:=(Ready.rounds o j).round o _ (zzL8 _)
theorem pz(o:Ordered S r n P){t:List Int}{k:Nat}(h:Ready S r n P t P.length)(q:QB S r n (Bv t) λ_=>k):QB S r n (Bv (AH S n P t P.length)) λ_=>k+1:=by
 have key:∀ i,i<=P.length->QB S r n (Bv (AH S n P t i)) (λx=>if x∈P.take i then k+1 else k)/\fA S r n (Bv (AH S n P t i)):=by
  intro i
  induction i with
  | zero=>intro _;exact⟨by simpa [AH] using q,h.full o⟩
  | succ i ih=>
   intro hi;obtain⟨q1,f1⟩:=ih (by omega);have rd:=(h.more o 0).round o i (by omega);have b:=rd.best o (by omega);have e:=dr   (v:=Pp S n (AH S n P t i) (P.getD i 0)) (by rw[rd.len];exact b.hy)
   constructor
   ·show QB S r n (Bv ((AH S n P t i).set _ _)) _
    rw[e];have:=b.qb (k:=k) o.hS o.hr f1 (λx _=>by split<;>omega) q1;intro x hx hp z hz;refine this x hx hp z ?_;rw[kM (by omega)]at hz
    by_cases e1:x=P.getD i 0
    ·grind
    ·grind
   ·show fA S r n (Bv ((AH S n P t i).set _ _))
    rw[e];intro x hx hr;unfold Se
    split
    ·omega
    ·exact f1 x hx hr
 have q1:=(key _ (zzL8 _)).1;rw[TF]at q1;have rd:=(h.more o 0).round o _ (zzL8 _);intro x hx hp z hz;refine q1 x hx hp z ?_
 dsimp only at hz ⊢
 by_cases e:x∈P
 ·rw[if_pos e];exact hz
 ·rw[if_neg e]
  have hxr:x=r:=by
   rcases zzL27.1 ((o.mem x).2 (rd.inv.rc x hx hp)) with h1|h1
   ·exact h1
   ·exact absurd h1 e
  subst hxr;exact .root hz.av.ne k
def AS(S:Nat->List Nat)(n:Nat)(P:List Nat)(t:List Int):Prop:=∀ i,i<P.length->Bv t (P.getD i 0)=(Pp S n t (P.getD i 0):Int)
theorem CM{t:List Int}(o:Ordered S r n P)(hl:t.length=n)(h:AS S n P t):∀ i,i<=P.length->AH S n P t i=t:=by
 intro i
 induction i with
 | zero=>intro _;rfl
 | succ i ih=>
  intro hi;unfold AH;rw[ih (by omega),<- h i (by omega)]
  have hlt:P.getD i 0<t.length:=by rw[hl];exact o.lt (Lj _ (Wz (by omega)))
  unfold Bv;rw[An _ _ _ hlt];exact List.set_getElem_self hlt
theorem vh(o:Ordered S r n P):∃ J,(∀ j,j<J->¬ AS S n P (UV S n P (Ji n r) j))/\AS S n P (UV S n P (Ji n r) J):=by
 obtain⟨K,hK⟩:=lF   n
 have hq:∀ k,QB S r n (Bv (UV S n P (Ji n r) (k+1))) λ_=>k:=by
  intro k
  induction k with
  | zero=>exact ue (Ready.rounds' o 0).inv
  | succ k ih=>exact pz o (Ready.rounds' o k) ih
 have hst :=λi hi=>by
  have rd:=Ready.rounds' o K;exact((rd.more o i).best o hi).same o.hS o.hr (rd.full o) (rd.done _ (Lj _ (by grind))) (oh rd.inv hK (hq K))
 have key:∀ m,(∃ J,J<=m/\AS S n P (UV S n P (Ji n r) J))->∃ J,(∀ j,j<J->¬ AS S n P (UV S n P (Ji n r) j))/\AS S n P (UV S n P (Ji n r) J):=by
  intro m
  induction m with
  | zero=>grind
  | succ m ih=>
   rintro⟨J,hJ,h⟩
   by_cases hm:∃ J,J<=m/\AS S n P (UV S n P (Ji n r) J)
   ·exact ih hm
   ·grind
 exact key _ ⟨K+1,zzL8 _,hst⟩
structure DomTree(S:Nat->List Nat)(r n:Nat)(P:List Nat)(t:List Int):Prop where
 inv:Inv S r n (pos (r::P)) (Bv t)
 len:t.length=n
 full:fA S r n (Bv t)
 exact_:jF S r n (Bv t)
theorem ND(o:Ordered S r n P){j:Nat}(h:AS S n P (UV S n P (Ji n r) j)):DomTree S r n P (UV S n P (Ji n r) j):=by
 have rd:=Ready.rounds o j
 have hall :=by
  have:=rd.round o _ (zzL8 _);rwa[CM o rd.len h _ (zzL8 _)]at this
 refine⟨rd.inv,rd.len,hall.full o,lV rd.inv o.hS o.hr (hall.full o) λy hy hne hr=>?_⟩
 have hm:y∈P:=by
  rcases zzL27.1 ((o.mem y).2 hr) with h1|h1
  ·exact absurd h1 hne
  ·exact h1
 obtain⟨i,hi,rfl⟩:=N6 hm;have b:=(hall.more o i).best o hi;rw[An _ _ _ hi]at b;have hs:=h i hi;rw[An _ _ _ hi]at hs;exact⟨_,hs,b.best⟩
end
section
variable {S:Nat->List Nat} {s s':Nat->Bool} {l o:List Nat}
theorem VL.before(h:VL S s l s' o):∀ A z B,o=A++z::B->z∈l\/∃ p∈B,z∈S p:=by
 induction h with
 | nil s=>intro A z B e;simp at e
 | skip h _ ih=>
  grind
 | @step s s1 s2 y l o1 o2 h a b iha ihb=>
  intro A z B e;rcases List.append_eq_append_iff.1 e with⟨C,hC1,hC2⟩|⟨C,hC1,hC2⟩
  ·
   cases C with
   | nil=>
    grind
   | cons c C=>
    grind
  ·cases C with
   | nil=>
    grind
   | cons c C=>
    grind
theorem Ord.ordered{n r:Nat}{L:List Nat}(hr:r<n)(hS:∀ x,x<n->∀ w∈S x,w<n)(h:Ord S r L):∃ P,L=r::P/\Ordered S r n P:=by
 have h1:=h.nodup;have h2:=h.mem;obtain⟨s',o,hv,rfl⟩:=h;refine⟨o.reverse,rfl,hr,hS,h1,λx=>by rw[h2 x,rc_iff],λi hi=>?_⟩
 have e:o.reverse=o.reverse.take i++o.reverse[i]::o.reverse.drop (i+1):=by rw[<- bS hi,List.take_append_drop]
 have e2:o=(o.reverse.drop (i+1)).reverse++o.reverse[i]::(o.reverse.take i).reverse:=by
  have:=Bl List.reverse e
  simpa using this
 rw[An _ _ _ hi];rcases hv.before _ _ _ e2 with h3|⟨p,hp,hz⟩
 ·exact⟨r,zzL38 ..,h3⟩
 ·grind
end
def kL(S:Nat->List Nat)(w:Int):Nat->List Nat:=λx=>(S x).filter λy=>decide ((y:Int)≠w)
theorem qX(S:Nat->List Nat):kL S (-1)=S:=by
 funext x
 exact List.filter_eq_self.2 λy _=>F6 (by omega)
theorem u0(S:Nat->List Nat)(z:Nat):kL S (z:Int)=wo S z:=by
 funext x
 unfold kL wo
 congr 1
 funext y
 exact zzL74.2 ⟨λh e=>h (by rw[e]),λh e=>h (LK e)⟩
def M3(L:List (List Int))(r:Nat)(w:Int):List Bool:=if(r:Int)=w then List.replicate L.length false else IU (kL (sN L) w) L.length ((List.replicate L.length false).set r true) L.length
theorem RU(L:List (List Int))(r:Nat)(w:Int):(M3 L r w).length=L.length:=by
 unfold M3
 split
 ·simp
 ·rw[Ym];simp
theorem dT{L:List (List Int)}(hm:Ny L=true){r:Nat}(hr:r<L.length)(w:Int) :
  Cx (J9 L) (r:Int) w=some (M3 L r w):=by
 obtain⟨h1,h2,h3⟩:=mayS_iff.1 hm
 have hroom:(1000:Nat)<=room:=by decide
 have hS:=Zb hm;have hSw:∀ z,z<L.length->∀ y∈kL (sN L) w z,y<L.length:=λz hz y hy=>hS z hz y (zzL95.1 hy).1;have hgs:(J9 L).Succ=L:=rfl
 have hlenS:∀ a,(sN L a).length=(L.getD a []).length:=λa=>by simp[sN]
 let fl:List Nat->List Nat:=λl=>l.filter λy=>decide ((y:Int)≠w)
 have hin:∀(o:List Bool) (i:Nat),o.length=L.length->i<L.length->Ad (A4 (J9 L) w (i:Int)) ((0:Int),o)=some (if o.getD i false=true then mk o (kL (sN L) w i) else o):=λo i ho hi=>by
  have hb:=EA (h3 i hi)
  by_cases hoi:o.getD i false=true
  ·rw[if_pos hoi];have hmi:∀ k,(mk o (fl ((sN L i).take k))).getD i false=true:=λk=>(mk_at (n:=L.length) _ _ ho (λy hy=>hS i hi y (List.mem_of_mem_take (zzL95.1 hy).1)) i).2 (.inl hoi)
   have hml:∀ k,(mk o (fl ((sN L i).take k))).length=L.length:=λk=>by rw[gi,ho]
   refine Fl (A4 (J9 L) w (i:Int)) (λk=>(((k:Nat):Int),mk o (fl ((sN L i).take k)))) _ (L.getD i []).length (λk hk=>?_) ?_
   ·show A4 (J9 L) w (i:Int) (_,_)=_
    unfold A4;obtain⟨a0,a1⟩:=BP (h3 i hi) hk;simp only[hgs,Ap,hmi];rw[Ac (Fc (by rw[hml];exact hi)),M5 (Fc hi),Af,B4 hk,Af,Ac (Fc hi),Ac (Fc hk)]
    have hk':k<(sN L i).length:=by rw[hlenS];exact hk
    have hsk:(sN L i)[k]=((L.getD i []).getD k 0).toNat:=by rw[An _ _ _ hk];simp[sN]
    have hski:(((sN L i)[k]:Nat):Int)=(L.getD i []).getD k 0:=by rw[hsk];exact K9 a0
    have e:mk o (fl ((sN L i).take (k+1)))=if(L.getD i []).getD k 0=w then mk o (fl ((sN L i).take k)) else(mk o (fl ((sN L i).take k))).set ((L.getD i []).getD k 0).toNat true:=by
     rw[kM hk']
     show mk o (List.filter _ (_++[_]))=_
     rw[FL]
     by_cases hw:(L.getD i []).getD k 0=w
     ·rw[if_pos hw]
      have:List.filter (λy:Nat=>decide ((y:Int)≠w)) [(sN L i)[k]]=[]:=by rw[List.filter_cons,hski,hw];simp
      rw[this,List.append_nil]
     ·rw[if_neg hw]
      have:List.filter (λy:Nat=>decide ((y:Int)≠w)) [(sN L i)[k]]=[(sN L i)[k]]:=by rw[List.filter_cons,hski,if_pos (F6 hw)];rfl
      rw[this];unfold mk;rw[List.foldl_append,hsk]
      rfl
    by_cases hw:(L.getD i []).getD k 0=w
    ·have hne:((L.getD i []).getD k 0 !=w)=false:=by rw[hw];simp
     rw[hne,Ar,Aj,w1 (by omega),e,if_pos hw]
    ·have hne:((L.getD i []).getD k 0 !=w)=true:=by rw[zzL85];exact hw
     rw[hne,Af,Ac (Fc hi),Ac (Fc hk),Ac ⟨a0,by rw[hml];exact a1⟩,w1 (by omega),e,if_neg hw]
     rfl
   ·show A4 (J9 L) w (i:Int) (_,_)=_
    unfold A4;simp only[hgs,Ap,hmi];rw[Ac (Fc (by rw[hml];exact hi)),M5 (Fc hi),Af,Dh,Ar]
    have:(sN L i).take (L.getD i []).length=sN L i:=by rw[<- hlenS];exact TF ..
    rw[this]
    rfl
  ·have hof:o.getD i false=false:=by simpa using hoi
   rw[if_neg hoi]
   apply Ak
   unfold A4;simp only[hgs,Ap,hof];rw[Ac (Fc (by rw[ho];exact hi)),M5 (Fc hi),Ar,Ar]
 have hsw:∀ o:List Bool,o.length=L.length->Ad (A5 (J9 L) w) ((0:Int),o)=some (sw (kL (sN L) w) o L.length):=λo ho=>by
  refine Fl (A5 (J9 L) w) (λi=>(((i:Nat):Int),sw (kL (sN L) w) o i)) _ L.length (λi hi=>?_) ?_
  ·show A5 (J9 L) w (_,_)=_
   unfold A5
   have hl:(sw (kL (sN L) w) o i).length=L.length:=by rw[sw_len,ho]
   simp only[hl,B4 hi,Af];rw[hin _ i hl hi,w1 (by omega)]
   rfl
  ·show A5 (J9 L) w (_,_)=_
   unfold A5
   have hl:(sw (kL (sN L) w) o L.length).length=L.length:=by rw[sw_len,ho]
   simp only[hl,Dh,Ar]
 unfold Cx;simp only[hgs,Ap];rw[Ac ⟨by omega,Int.le_refl _,by omega⟩];unfold M3
 by_cases hrw:(r:Int)=w
 ·rw[if_pos hrw]
  have:((r:Int)==w)=true:=by simpa using hrw
  rw[this,Af]
 ·rw[if_neg hrw]
  have hne:((r:Int)==w)=false:=by rw[zzL34];exact hrw
  rw[hne,Ar,Ac (Fc (by simpa using hr))]
  have hl0:((List.replicate L.length false).set r true).length=L.length:=by simp
  have:Ad (A6 (J9 L) w) ((0:Int),(List.replicate L.length false).set r true)=some (IU (kL (sN L) w) L.length ((List.replicate L.length false).set r true) L.length):=by
   refine Fl (A6 (J9 L) w) (λj=>(((j:Nat):Int),IU (kL (sN L) w) L.length ((List.replicate L.length false).set r true) j)) _ L.length (λj hj=>?_) ?_
   ·show A6 (J9 L) w (_,_)=_
    unfold A6
    have hl:(IU (kL (sN L) w) L.length ((List.replicate L.length false).set r true) j).length=L.length:=by rw[Ym,hl0]
    simp only[hl,B4 hj,Af];rw[hsw _ hl,w1 (by omega)]
    rfl
   ·show A6 (J9 L) w (_,_)=_
    unfold A6
    have hl:(IU (kL (sN L) w) L.length ((List.replicate L.length false).set r true) L.length).length=L.length:=by rw[Ym,hl0]
    simp only[hl,Dh,Ar]
  rw[this]
  rfl
theorem p9{L:List (List Int)}(hm:Ny L=true){r:Nat}(hr:r<L.length){b:Nat}:(M3 L r (-1)).getD b false=true↔Rc (sN L) r b:=by
 unfold M3;rw[if_neg (by omega),qX,IV (Zb hm) hr b,rc_iff]
theorem gx{L:List (List Int)}(hm:Ny L=true){r:Nat}(hr:r<L.length){a b:Nat}(hb:b<L.length):(M3 L r (a:Int)).getD b false=true↔Av (sN L) r a b:=by
 unfold M3;rw[av_iff]
 by_cases h:r=a
 ·grind
 ·rw[if_neg (by omega),u0,IV (S:=wo _ a) (λz hz y hy=>Zb hm z hz y (zzL95.1 hy).1) hr b];simp[h]
def P4(L:List (List Int))(r a b:Nat):Bool:=(M3 L r (-1)).getD b false&&!(M3 L r (a:Int)).getD b false
theorem dq{L:List (List Int)}(hm:Ny L=true){r a b:Nat}(hr:r<L.length)(hb:b<L.length):P4 L r a b=true↔Rc (sN L) r b/\¬ Av (sN L) r a b:=by
 unfold P4;rw[A1,Rm,<- Bool.not_eq_true,p9 hm hr,gx hm hr hb]
def RE(L:List (List Int))(r a b:Nat):Bool:=(List.range L.length).all λc=>decide (c=b) || !P4 L r c b || P4 L r c a
def Uu(L:List (List Int))(r b:Nat):Nat->Int
 | 0=>-2
 | a+1=>if a≠b/\P4 L r a b=true/\RE L r a b=true then(a:Int) else Uu L r b a
def Yr(L:List (List Int))(r b:Nat):Int:=if b=r then -1 else Uu L r b L.length
def CN(L:List (List Int))(r:Nat):List Int:=(List.range L.length).map (Yr L r)
theorem YN(L:List (List Int))(r:Nat):(CN L r).length=L.length:=by simp[CN]
theorem qT{L:List (List Int)}{r b:Nat}(hb:b<L.length):(CN L r).getD b 0=Yr L r b:=by unfold CN;rw[Si hb]
theorem pick_cases(L:List (List Int))(r b:Nat):∀ m,(Uu L r b m = -2/\∀ a,a<m->¬ (a≠b/\P4 L r a b=true/\RE L r a b=true))\/∃ a,a<m/\Uu L r b m=(a:Int)/\a≠b/\P4 L r a b=true/\RE L r a b=true:=by
 intro m
 induction m with
 | zero=>exact .inl ⟨rfl,λa ha=>absurd ha (V1 a)⟩
 | succ m ih=>
  unfold Uu
  by_cases h:m≠b/\P4 L r m b=true/\RE L r m b=true
  ·grind
  ·grind
theorem DomTree.eq{L:List (List Int)}(hm:Ny L=true){r:Nat}(hr:r<L.length){P t:List _}(o:Ordered (sN L) r L.length P)(h:DomTree (sN L) r L.length P t):t=CN L r:=by
 refine NL (by rw[h.len,YN]) λb h1 h2=>?_
 have hb:b<L.length:=by rw[<- h.len];exact h1
 rw[<- An _ _ 0 h1,<- An _ _ 0 h2,qT hb]
 show Bv t b=_
 have hov:∀ a b,b<L.length->Bv t b≠-2->(P4 L r a b=true↔UpTo _ b a):=λa b hb hp=>by
  rw[dq hm hr hb,h.exact_ b hb hp];exact⟨λk=>k.2,λk=>⟨h.inv.rc b hb hp,k⟩⟩
 unfold Yr
 by_cases hbr:b=r
 ·subst hbr;rw[if_pos rfl];exact h.inv.top
 ·rw[if_neg hbr];rcases h.inv.kind b hb with hk|hk|⟨z,hz⟩
  ·
   have hn :=λk=>h.full b hb k hk;rcases pick_cases L r b _ with⟨h3,_⟩|⟨a,_,_,_,h6,_⟩
   ·rw[hk,h3]
   ·exact absurd ((dq hm hr hb).1 h6).1 hn
  ·exact absurd hk hbr
  ·obtain⟨z1,z2,z3,z4⟩:=h.inv.up b hb z hz
   have hp:Bv t b≠-2:=by omega
   have hzo :=(hov z b hb hp).2 (.up hz (.refl _))
   have hzb:z≠b:=by rintro rfl;omega
   have hnear:RE L r z b=true:=all_range.2 λc hc=>by
    by_cases e:c=b
    ·simp[e]
    ·cases ho:P4 L r c b with
     | false=>simp
     | true=>
      have:=(hov c b hb hp).1 ho;rcases(anc_up hz).1 this with h3|h3
      ·exact absurd h3 e
      ·grind
   rcases pick_cases L r b L.length with⟨_,h3⟩|⟨a,h3,h4,h5,h6,h7⟩
   ·grind
   ·rw[h4,hz];have haU:=(hov a b hb hp).1 h6
    have ha1:UpTo (Bv t) z a:=by
     rcases(anc_up hz).1 haU with h8|h8
     ·exact absurd h8 h5
     ·exact h8
    have hap:=(h.inv.anc ha1 z1 z2).2.1
    have hza :=by
     have:=all_range.1 h7 z z1;simp only[hzo,hzb, Dt]at this;exact(hov z a h3 hap).1 this
    rw[h.inv.antisymm ha1 hza z1 z2]
theorem jn{g:TGraph}(h:EP g=true):Ny g.Succ=true/\g=J9 g.Succ:=by
 unfold EP at h;rw[A1]at h;refine⟨h.1,?_⟩;obtain⟨s,p⟩:=g;have:=LH h.2;simp only at this;unfold J9;rw[this]
theorem HO{a b:Nat}:(((a:Nat):Int)==(b:Int))=decide (a=b):=by
 grind
theorem jS{a b:Nat}:(((a:Nat):Int)!=(b:Int)) = !decide (a=b):=by
 unfold bne;rw[HO]
section
variable {L:List (List Int)} (hm:Ny L=true) {r:Nat} (hr:r<L.length)
def SE(L:List (List Int))(r a k:Nat):List Bool:=(List.range L.length).map λb=>if b<k then P4 L r a b else false
def SD(L:List (List Int))(r a:Nat):List Bool:=(List.range L.length).map λb=>P4 L r a b
def mC(L:List (List Int))(r:Nat):List (List Bool):=(List.range L.length).map λa=>SD L r a
theorem jz:(mC L r).length=L.length:=by simp[mC]
theorem pq{a:Nat}(ha:a<L.length):(mC L r).getD a []=SD L r a:=by unfold mC;rw[Si ha]
theorem eG{a:Nat}:(SD L r a).length=L.length:=by simp[SD]
theorem bM{a b:Nat}(hb:b<L.length):(SD L r a).getD b false=P4 L r a b:=by unfold SD;rw[Si hb]
include hm hr
omit hr in
theorem uu(a:Nat)(l5:List (List Bool))(hl5:l5.length=L.length)(ha:a<L.length):Ad (C3 (J9 L) (M3 L r (-1)) (a:Int) l5 (M3 L r (a:Int))) ((0:Int),List.replicate L.length false)=some (SD L r a):=by
 obtain⟨h1,h2,h3⟩:=mayS_iff.1 hm;have hgs:(J9 L).Succ=L:=rfl
 have e0:List.replicate L.length false=SE L r a 0:=by
  refine NL (by simp[SE]) λi h1 h2=>by simp[SE]
 have e1:SD L r a=SE L r a L.length:=by
  unfold SD SE
  exact Ha λi hi=>by rw[if_pos hi]
 have hlen:∀ k,(SE L r a k).length=L.length:=λk=>by simp[SE]
 rw[e0];refine Fl (C3 (J9 L) (M3 L r (-1)) (a:Int) l5 (M3 L r (a:Int))) (λk=>(((k:Nat):Int),SE L r a k)) _ L.length (λk hk=>?_) ?_
 ·show C3 (J9 L) _ _ _ _ (_,_)=_
  unfold C3;simp only[hgs,Ap,B4 hk,Af];rw[Ac (Fc (by rw[hl5];exact ha)),Ac (Fc (by rw[RU];exact hk)),Ac (λ_=>Fc (by rw[RU];exact hk)),Ac (Fc (by rw[hlen];exact hk)),w1 (by omega)]
  have:(SE L r a k).set k (bif (M3 L r (-1)).getD k false then !(M3 L r (a:Int)).getD k false else false)=SE L r a (k+1):=by
   unfold SE;rw[CK];refine Ha λi hi=>?_
   by_cases e:i=k
   ·subst e;rw[if_pos rfl,if_pos (by omega)];unfold P4
    cases(M3 L r (-1)).getD i false<;>rfl
   ·rw[if_neg e]
    by_cases e2:i<k
    ·rw[if_pos e2,if_pos (by omega)]
    ·rw[if_neg e2,if_neg (by omega)]
  rw[this]
 ·show C3 (J9 L) _ _ _ _ (_,_)=_
  unfold C3;simp only[hgs,Dh,Ar];rw[e1]
theorem uv:Ad (Il (J9 L) (r:Int) (M3 L r (-1))) ((0:Int),List.replicate L.length ([]:List Bool))=some (mC L r):=by
 obtain⟨h1,h2,h3⟩:=mayS_iff.1 hm;have hgs:(J9 L).Succ=L:=rfl
 have hroom:1000<=room:=by decide
 let M:Nat->List _:=λk=>(List.range L.length).map λa=>if a<k then SD L r a else[]
 have hM:∀ k,(M k).length=L.length:=λk=>by simp[M]
 have e0:List.replicate L.length []=M 0:=by
  refine NL (by simp[M]) λi h1 h2=>by simp[M]
 have e1:mC L r=M _:=Ha λi hi=>by rw[if_pos hi]
 rw[e0];refine Fl _ (λk=>(((k:Nat):Int),M k)) _ L.length (λk hk=>?_) ?_
 ·unfold Il;simp only[hgs,Ap,B4 hk,Af];rw[Ac ⟨by omega,Int.le_refl _,by omega⟩,Ac (Fc (by rw[hM];exact hk)),dT hm hr,Aj,uu hm k (M k) (hM k) hk,Aj,w1 (by omega)]
  have:(M k).set k (SD L r k)=M (k+1):=by
   rw[CK];refine Ha λi hi=>?_
   by_cases e:i=k
   ·grind
   ·grind
  rw[this]
 ·unfold Il;simp only[hgs,Dh,Ar];rw[e1]
omit hr in
theorem uw(a b:Nat)(ha:a<L.length)(hb:b<L.length):Ad (C4 (J9 L) (mC L r) (b:Int) (a:Int)) (true,(0:Int))=some (RE L r a b):=by
 obtain⟨h1,h2,h3⟩:=mayS_iff.1 hm;have hgs:(J9 L).Succ=L:=rfl
 let N:Nat->Bool:=λk=>(List.range k).all λc=>decide (c=b) || !P4 L r c b || P4 L r c a
 refine Fl (C4 (J9 L) (mC L r) (b:Int) (a:Int)) (λk=>(N k,((k:Nat):Int))) _ L.length (λk hk=>?_) ?_
 ·show C4 (J9 L) _ _ _ (_,_)=_
  unfold C4;simp only[hgs,Ap,B4 hk,Af,pq hk,jz,eG,bM hb,bM ha];rw[Ac (λ_=>Fc hk),Ac (λ_=>Fc hb),Ac (λ_=>Fc hk),Ac (λ_=>Fc ha),w1 (by omega),HO]
  have:(bif N k then(bif (bif decide (k=b) then true else !P4 L r k b) then true else P4 L r k a) else false)=N (k+1):=by
   show _=(List.range (k+1)).all _
   rw[nu]
   show _=(N k&&_)
   cases N k<;>cases decide (k=b)<;>cases P4 L r k b<;>rfl
  rw[this]
 ·show C4 (J9 L) _ _ _ (_,_)=_
  unfold C4;simp only[hgs,Dh,Ar]
  rfl
def Ry(L:List (List Int))(r b:Nat)(x:Int):List Int:=(List.range L.length).map λj=>if j<b then Yr L r j else if j=b then x else 0
omit hm hr in
theorem LC{b:Nat}{x:Int}:(Ry L r b x).length=L.length:=by simp[Ry]
omit hm hr in
theorem LD{b:Nat}{x y:Int}:(Ry L r b x).set b y=Ry L r b y:=by
 unfold Ry;rw[CK];refine Ha λi hi=>?_
 by_cases e:i=b
 ·subst e;rw[if_pos rfl,if_neg (by omega),if_pos rfl]
 ·rw[if_neg e,if_neg e,if_neg e]
omit hm hr in
theorem SR{b:Nat}:Ry L r b (Yr L r b)=Ry L r (b+1) 0:=by
 unfold Ry;refine Ha λi hi=>?_
 by_cases e:i<b
 ·rw[if_pos e,if_pos (by omega)]
 ·rw[if_neg e]
  by_cases e2:i=b
  ·subst e2;rw[if_pos rfl,if_pos (by omega)]
  ·rw[if_neg e2,if_neg (by omega)];split<;>rfl
omit hr in
theorem ux(b:Nat)(hb:b<L.length)(hbr:b≠r):Ad (B0 (J9 L) (r:Int) (mC L r) (b:Int)) ((0:Int),Ry L r b (-2))=some (Ry L r b (Uu L r b L.length)):=by
 obtain⟨h1,h2,h3⟩:=mayS_iff.1 hm;have hgs:(J9 L).Succ=L:=rfl;refine Fl (B0 (J9 L) (r:Int) (mC L r) (b:Int)) (λk=>(((k:Nat):Int),Ry L r b (Uu L r b k))) _ L.length (λk hk=>?_) ?_
 ·show B0 (J9 L) _ _ _ (_,_)=_
  unfold B0
  have hne:decide (b=r)=false:=by simp[hbr]
  simp only[hgs,Ap,B4 hk,Af,pq hk,jz,eG,bM hb,HO,jS,hne,Mu];rw[Ac (λ_=>Fc hk),Ac (λ_=>Fc hb),uw hm k b hk hb]
  by_cases hkb:k=b
  ·have e:Uu L r b (k+1)=Uu L r b k:=by show(if _ then _ else _)=_;rw[if_neg (λh=>h.1 hkb)]
   rw[F6 hkb,Af,Af,Aj,w1 (by omega),e]
  ·rw[Dl hkb,Ar]
   cases ho:P4 L r k b with
   | false=>
    have e:Uu L r b (k+1)=Uu L r b k:=by show(if _ then _ else _)=_;rw[if_neg (λh=>by rw[ho]at h;exact absurd h.2.1 (by decide))]
    rw[Mu,Af,Aj,w1 (by omega),e]
   | true=>
    rw[Dt,Ar,Aj]
    cases hn:RE L r k b with
    | false=>
     have e:Uu L r b (k+1)=Uu L r b k:=by show(if _ then _ else _)=_;rw[if_neg (λh=>by rw[hn]at h;exact absurd h.2.2 (by decide))]
     rw[Ar,Aj,w1 (by omega),e]
    | true=>
     have e:Uu L r b (k+1)=(k:Int):=by show(if _ then _ else _)=_;rw[if_pos ⟨hkb,ho,hn⟩]
     rw[Af,Ac (Fc (by rw[LC];exact hb)),Aj,w1 (by omega),e,LD]
 ·show B0 (J9 L) _ _ _ (_,_)=_
  unfold B0;simp only[hgs,Dh,Ar]
omit hr in
theorem uy:Ad (C5 (J9 L) (r:Int) (mC L r)) ((0:Int),List.replicate L.length (0:Int))=some (CN L r):=by
 obtain⟨h1,h2,h3⟩:=mayS_iff.1 hm;have hgs:(J9 L).Succ=L:=rfl
 have e0:List.replicate L.length (0:Int)=Ry L r 0 0:=by
  refine NL (by simp[Ry]) λi h1 h2=>by simp[Ry]
 have e1:CN L r=Ry L r L.length 0:=Ha λi hi=>by rw[if_pos hi]
 rw[e0];refine Fl (C5 (J9 L) (r:Int) (mC L r)) (λk=>(((k:Nat):Int),Ry L r k 0)) _ L.length (λk hk=>?_) ?_
 ·show C5 (J9 L) _ _ (_,_)=_
  unfold C5;simp only[hgs,Ap,B4 hk,Af];rw[Ac (Fc (by rw[LC];exact hk)),HO,LD,LD]
  by_cases hkr:k=r
  ·rw[F6 hkr,Af,Ac (Fc (by rw[LC];exact hk)),Aj]
   have hd:Ad (B0 (J9 L) (r:Int) (mC L r) (k:Int)) ((0:Int),Ry L r k (-1))=some (Ry L r k (-1)):=by
    apply Ak
    unfold B0;simp only[jS,F6 hkr,Dt,oH,Ar]
   rw[hd,Aj,w1 (by omega)]
   have:Yr L r k = -1:=by unfold Yr;rw[if_pos hkr]
   rw[<- this,SR]
  ·rw[Dl hkr,Ar,Aj,ux hm k hk hkr,Aj,w1 (by omega)]
   have:Yr L r k=Uu L r k L.length:=by unfold Yr;rw[if_neg hkr]
   rw[<- this,SR]
 ·show C5 (J9 L) _ _ (_,_)=_
  unfold C5;simp only[hgs,Dh,Ar];rw[e1]
end
def SQ(g:TGraph)(r:Int):List Int:=if EP g=true/\0<=r/\r<(g.Succ.length:Int) then CN g.Succ r.toNat else[]
theorem ge(g:TGraph)(h:Fits g.Succ)(r:Int):K0 g r=some (SQ g r):=by
 have hroom:1000<=room:=by decide
 unfold K0 SQ;rw[lk g h,Aj]
 cases hmg:EP g with
 | false=>
  rfl
 | true=>
  rw[Dt,Ar]
  by_cases h0:r<0
  ·grind
  ·rw[Dl h0,Ar]
   by_cases h1:g.Succ.length<=r
   ·grind
   ·rw[Dl h1,Ar,if_pos ⟨rfl,by omega,by omega⟩];obtain⟨hms,hg⟩:=jn hmg;obtain⟨hl1,hl2,hl3⟩:=mayS_iff.1 hms;obtain⟨q,rfl⟩:∃ q:Nat,r=q:=⟨r.toNat,by omega⟩
    have hq:q<g.Succ.length:=by omega
    rw[hg];have hgs:(J9 _).Succ=g.Succ:=rfl;simp only[hgs,Ap];rw[dT hms hq,Aj,Ac ⟨by omega,Int.le_refl _,by omega⟩,uv hms hq,Aj,Ac ⟨by omega,Int.le_refl _,by omega⟩,uy hms,Aj]
def upD(t:List Int):Nat->Int->Option (List Int)
 | 0,_=>none
 | k+1,a=>if 0<=a/\a<(t.length:Int) then(if t.getD a.toNat 0 = -1 then some [a] else(upD t k (t.getD a.toNat 0)).map λl=>a::l) else none
def Ep(t:List Int)(a:Int):List Int:=(upD t t.length a).getD []
def Abk(l:List Int):Option (List Int)->Unit ⊕ List Int
 | none=>.inl ()
 | some q=>.inr (l++q)
theorem mD(t:List Int)(ht:t.length<=1000):∀(k:Nat) (a:Int) (l:List Int),l.length+k=t.length->Ad (Cg t) (a,l)=some (Abk l (upD t k a)):=by
 have hroom:2000<=room:=by decide
 intro k
 induction k with
 | zero=>
  intro a l hl
  apply Ak
  unfold Cg;have:decide ((l.length:Int)<t.length)=false:=Dl (by omega);simp only[this]
  rfl
 | succ k ih=>
  intro a l hl;have hlt:decide (l.length<(t.length:Int))=true:=F6 (by omega);unfold upD
  by_cases h0:0<=a
  ·by_cases h1:a<t.length
   ·have hin:As a _:=⟨h0,h1⟩;rw[if_pos ⟨h0,h1⟩]
    by_cases ht1:t.getD a.toNat 0 = -1
    ·apply Ak
     unfold Cg;simp only[hlt,F6 h0,F6 h1];rw[Ac (by simp;omega),Ac hin,ht1]
     rfl
    ·rw[if_neg ht1]
     have hs:Cg t (a,l)=some (.next (t.getD a.toNat 0,l++[a])):=by
      unfold Cg;have hb :=zzL34.2 ht1;simp only[hlt,F6 h0,F6 h1,Af];rw[Ac (by simp;omega),Ac hin,hb,Ar,Ac hin]
     rw[Aq hs,ih _ _ (by simp;omega)]
     cases upD t k _ with
     | none=>rfl
     | some q=>show some (Sum.inr _)=some (Sum.inr _);simp
   ·rw[if_neg (by omega)]
    apply Ak
    unfold Cg;simp only[hlt,F6 h0,Dl h1,Af]
    rfl
  ·rw[if_neg (by omega)]
   apply Ak
   unfold Cg;simp only[hlt,Dl h0,Af]
   rfl
theorem gb(t:List Int)(ht:t.length<=1000)(a:Int):Fx t a=some (Ep t a):=by
 unfold Fx Ep;rw[mD t ht t.length a [] (by simp)]
 cases upD t _ a with
 | none=>rfl
 | some q=>rfl
theorem kJ(t:List Int):∀ k a q,upD t k a=some q->q.length<=k/\1<=q.length:=by
 intro k
 induction k with
 | zero=>intro a q h;cases h
 | succ k ih=>
  intro a q h;unfold upD at h
  split at h
  ·split at h
   ·cases h;simp
   ·cases hu:upD t k _ with
    | none=>rw[hu]at h;cases h
    | some q'=>grind
  ·cases h
theorem YA(t:List Int)(a:Int):(Ep t a).length<=t.length:=by
 unfold Ep
 cases h:upD t _ a with
 | none=>simp
 | some q=>exact(kJ t _ _ _ h).1
theorem pathD_nil{t:List Int}{a:Int}:Ep t a=[]↔upD t t.length a=none:=by
 unfold Ep
 cases h:upD t _ a with
 | none=>simp
 | some q=>have:=(kJ t _ _ _ h).2;simp;intro e;subst e;simp at this
def topsK(t:List Int)(k:Nat):Nat:=((List.range k).filter λa=>decide (t.getD a 0 = -1)).length
def pc(t:List Int)(a:Nat):Bool:=decide (t.getD a 0 = -2) || !decide (Ep t (a:Int)=[])
def M4(t:List Int):Bool:=(List.range t.length).all (pc t)&&decide (topsK t t.length=1)
theorem GT(t:List Int)(k:Nat):topsK t (k+1)=topsK t k+if t.getD k 0 = -1 then 1 else 0:=by
 unfold topsK;rw[FM,FL]
 by_cases h:t.getD k 0 = -1
 ·grind
 ·grind
theorem qR(t:List Int)(k:Nat):topsK t k<=k:=by
 exact P8 (List.length_filter_le ..) (by simp)
theorem pD{l:List Int}:(((l.length:Nat):Int)==(0:Int))=decide (l=[]):=by
 cases l with
 | nil=>rfl
 | cons x l=>simp;omega
theorem h9(t:List Int)(ht:t.length<=1000):Ad (Bz t) ((0:Int),(0:Int))=some (bif (List.range t.length).all (pc t) then .inl ((topsK t t.length:Nat):Int) else .inr false):=by
 have body:∀ k,k<t.length->Bz t (((topsK t k:Nat):Int),(k:Int))=some (bif pc t k then .next (((topsK t (k+1):Nat):Int),((k+1:Nat):Int)) else .done (.inr false)):=λk hk=>by
  have hle:=qR t k;unfold Bz;simp only[Ap,B4 hk,Af];rw[Ac (Fc hk)]
  have e1:(bif (t.getD k 0==(-1:Int)) then some (w64 (((topsK t k:Nat):Int)+1)) else some ((topsK t k:Nat):Int))=some ((topsK t (k+1):Nat):Int):=by
   rw[GT]
   by_cases h:t.getD k 0 = -1
   ·rw[if_pos h,zzL46.2 h,Af,w1 (by omega)]
   ·rw[if_neg h,zzL34.2 h,Ar];rfl
  rw[e1,Aj]
  by_cases h2:t.getD k 0 = -2
  ·have hb:(t.getD k 0 !=(-2:Int))=false:=by rw[h2];rfl
   have ho:pc t k=true:=by unfold pc;rw[F6 h2];rfl
   rw[hb,show(false==true)=false from rfl,Ar,Aj,Ar,Ar,Ac (Fc hk),w1 (by omega),ho,Af]
  ·have hb:(t.getD k 0 !=(-2:Int))=true:=zzL85.2 h2
   have ho:pc t k = !decide (Ep t (k:Int)=[]):=by unfold pc;rw[Dl h2];rfl
   rw[hb,show(true==true)=true from rfl,Af,gb t ht,Aj,Af,pD,Ac (Fc hk),w1 (by omega),ho]
   cases decide (Ep t (k:Int)=[])<;>rfl
 have:=H7 (Bz t) (λk=>(((topsK t k:Nat):Int),((k:Nat):Int))) (pc t) (.inl ((topsK t t.length:Nat):Int)) (.inr false) t.length (λi hi hp=>by
   show Bz t _=_;rw[body i hi,hp,Af]) (λi hi hp=>by
   show Bz t _=_;rw[body i hi,hp,Ar]) (by
   show Bz t _=_
   unfold Bz
   simp only[Dh,Ar])
 exact this
theorem uC(t:List Int)(ht:t.length<=1000):J3 t=some (M4 t):=by
 unfold J3 M4;rw[h9 t ht]
 cases(List.range _).all _ with
 | false=>rfl
 | true=>
  rw[ Jj]
  show some _=_
  have:(1:Int)=(1:Nat):=rfl;rw[this,HO]
theorem find_first(p:Int->Bool):∀ l:List Int,(∃ n,n<l.length/\(∀ i,i<n->p (l.getD i 0)=false)/\p (l.getD n 0)=true/\l.find? p=some (l.getD n 0))\/((∀ i,i<l.length->p (l.getD i 0)=false)/\l.find? p=none):=by
 intro l
 induction l with
 | nil=>grind
 | cons x l ih=>
  cases hx:p x with
  | true=>exact .inl ⟨0,by simp,λi hi=>absurd hi (V1 i),by simpa using hx,by simp[ hx]⟩
  | false=>
   rcases ih with⟨n,h1,h2,h3,h4⟩|⟨h1,h2⟩
   ·refine .inl ⟨n+1,by simpa using h1,λi hi=>?_,by simpa using h3,by grind⟩
    cases i with
    | zero=>simpa using hx
    | succ i=>grind
   ·grind
def Rs(t:List Int)(a b:Int):Int:=if M4 t=true then((Ep t a).find? λx=>(Ep t b).contains x).getD (-2) else -2
def MW(t:List Int)(a b:Int):Bool:=Rs t a b==a&&Rs t a b !=-2
theorem xL(t:List Int)(ht:t.length<=1000)(a b:Int):Kz t a b=some (Rs t a b):=by
 unfold Kz Rs;rw[uC t ht,Aj]
 cases M4 t with
 | false=>rfl
 | true=>
  rw[Dt, gb t ht,Aj,gb t ht,Aj];have hp:=YA t a;have hq:=YA t b
  have body:∀ k,k<(Ep t a).length->Dz (Ep t a) (Ep t b) (k:Int)=some (bif (Ep t b).contains _ then .done _ else .next _):=λk hk=>by
   unfold Dz;simp only[Ap,B4 hk];rw[Ac (Fc hk),pH _ _ (by omega), w1 (by omega),Ac (Fc hk)]
   cases(Ep t b).contains _<;>rfl
  rcases find_first (λx=>(Ep t b).contains x) (Ep t a) with⟨n,h1,h2,h3,h4⟩|⟨h1,h2⟩
  ·have:=Fl (Dz (Ep t a) (Ep t b)) (λk=>(k:Nat)) (.inr ((Ep t a).getD n 0)) n (λk hk=>by
    grind) (by
    grind)
   have e:Ad _ (0:Int)=_:=this;rw[e, h4]
   rfl
  ·have:=Fl (Dz (Ep t a) (Ep t b)) (λk=>((k:Nat):Int)) (.inl ()) (Ep t a).length (λk hk=>by
    grind) (by
    unfold Dz
    simp only[Dh,Ar])
   have e:Ad _ (0:Int)=_:=this;rw[e, h2]
   rfl
section
variable {S:Nat->List Nat} {r n:Nat} {P:List Nat} {t:List Int}
theorem DomTree.up(h:DomTree S r n P t):∀ k x,x<n->Bv t x≠-2->pos (r::P) x<k->∃ q,upD t k (x:Int)=some q/\(∀ w:Int,w∈q↔∃ z:Nat,w=(z:Int)/\UpTo (Bv t) x z) /\
  ∀ p:Int->Bool,(q.find? p=none/\∀ z:Nat,UpTo (Bv t) x z->p (z:Int)=false)\/∃ f:Nat,q.find? p=some (f:Int)/\UpTo (Bv t) x f/\p (f:Int)=true/\∀ z:Nat,UpTo (Bv t) x z->p (z:Int)=true->UpTo (Bv t) f z:=by
 intro k
 induction k with
 | zero=>omega
 | succ k ih=>
  intro x hx hp hk
  have hxt:(0:Int)<=(x:Int)/\(x:Int)<(t.length:Int):=by rw[h.len];omega
  unfold upD;rw[if_pos hxt,Ap];have hpx:t.getD x 0=Bv t x:=rfl;rw[hpx];rcases h.inv.kind x hx with h1|rfl|⟨z,hz⟩
  ·exact absurd h1 hp
  ·rw[if_pos h.inv.top];refine⟨_,rfl,λw=>?_,λp=>?_⟩
   ·rw[zzL24]
    constructor
    ·rintro rfl;exact⟨x,rfl,.refl _⟩
    ·rintro⟨z,rfl,hz⟩;rw[h.inv.root_anc.1 hz]
   ·cases hpp:p (x:Int) with
    | false=>exact .inl ⟨by simp[List.find?,hpp],λz hz=>by rw[h.inv.root_anc.1 hz];exact hpp⟩
    | true=>exact .inr ⟨x,by simp[List.find?,hpp],.refl _,hpp,λz hz _=>hz⟩
  ·obtain⟨z1,z2,z3,z4⟩:=h.inv.up x hx z hz;rw[hz,if_neg (by omega)];obtain⟨q,hq1,hq2,hq3⟩:=ih z z1 z2 (by omega);rw[hq1];refine⟨(x:Int)::q,rfl,λw=>?_,λp=>?_⟩
   ·rw[zzL27,hq2 w]
    constructor
    ·rintro(rfl|⟨y,rfl,hy⟩)
     ·exact⟨x,rfl,.refl _⟩
     ·exact⟨y,rfl,.up hz hy⟩
    ·rintro⟨y,rfl,hy⟩;rcases(anc_up hz).1 hy with rfl|hy
     ·exact .inl rfl
     ·exact .inr ⟨y,rfl,hy⟩
   ·cases hpp:p (x:Int) with
    | true=>exact .inr ⟨x,by simp[List.find?,hpp],.refl _,hpp,λy hy _=>hy⟩
    | false=>
     have hf:((x:Int)::q).find? p=q.find? p:=by simp[List.find?,hpp]
     rw[hf];rcases hq3 p with⟨e1,e2⟩|⟨f,e1,e2,e3,e4⟩
     ·refine .inl ⟨e1,λy hy=>?_⟩;rcases(anc_up hz).1 hy with rfl|hy
      ·exact hpp
      ·exact e2 y hy
     ·refine .inr ⟨f,e1,.up hz e2,e3,λy hy hpy=>?_⟩;rcases(anc_up hz).1 hy with rfl|hy
      ·rw[hpp]at hpy;cases hpy
      ·exact e4 y hy hpy
theorem Ordered.pos_lt(o:Ordered S r n P){x:Nat}(hx:x∈r::P):pos (r::P) x<n:=by
 obtain⟨j,hj,rfl⟩:=N6 hx;rw[(PC o.nodup hj).2];have:=Ua n _ o.nodup λy hy=>o.lt hy;omega
theorem DomTree.path(h:DomTree S r n P t)(o:Ordered S r n P){x:Nat}(hx:x<n)(hp:Bv t x≠-2):Ep t (x:Int)≠[]/\(∀ w:Int,w∈Ep t (x:Int)↔∃ z:Nat,w=(z:Int)/\UpTo (Bv t) x z) /\
  ∀ p:Int->Bool,((Ep t (x:Int)).find? p=none/\∀ z:Nat,UpTo (Bv t) x z->p (z:Int)=false)\/∃ f:Nat,(Ep t (x:Int)).find? p=some (f:Int)/\UpTo (Bv t) x f/\p (f:Int)=true/\∀ z:Nat,UpTo (Bv t) x z->p (z:Int)=true->UpTo (Bv t) f z:=by
 have hm:=(o.mem x).2 (h.inv.rc x hx hp);obtain⟨q,h1,h2,h3⟩:=h.up n x hx hp (o.pos_lt hm)
 have e:Ep t x=q:=by unfold Ep;rw[h.len,h1];rfl
 rw[e];refine⟨λe=>?_,h2,h3⟩;have:=(h2 _).2 ⟨x,rfl,.refl _⟩;rw[e]at this
 cases this
theorem DomTree.nopath(h:DomTree S r n P t){x:Nat}(hx:x<n)(hp:Bv t x = -2):Ep t (x:Int)=[]:=by
 rw[pathD_nil]
 cases hl:t.length with
 | zero=>rfl
 | succ k=>
  unfold upD;rw[if_pos ⟨by omega,by rw[h.len];omega⟩,Ap,show t.getD x 0=Bv t x from rfl,hp]
  cases k with
  | zero=>rfl
  | succ k =>   rfl
theorem DomTree.right(h:DomTree S r n P t)(o:Ordered S r n P):M4 t=true:=by
 unfold M4;rw[A1]
 constructor
 ·refine all_range.2 λx hx=>?_;rw[h.len]at hx;unfold pc
  by_cases hp:Bv t x = -2
  ·rw[show t.getD x 0=Bv t x from rfl,hp];rfl
  ·rw[Dl (h.path o hx hp).1];simp
 ·apply F6
  have key:∀ k,k<=n->topsK t k=if r<k then 1 else 0:=by
   intro k
   induction k with
   | zero=>intro _;rfl
   | succ k ih=>
    intro hk;rw[GT]
    have hr:t.getD k 0 = -1↔k=r:=by
     constructor
     ·intro he;rcases h.inv.kind k (by omega) with h1|h1|⟨z,hz⟩
      ·rw[show t.getD k 0=Bv t k from rfl]at he;omega
      ·exact h1
      ·rw[show t.getD k 0=Bv t k from rfl]at he;omega
     ·rintro rfl;exact h.inv.top
    by_cases hkr:k=r
    ·grind
    ·grind
  rw[h.len,key n (zzL8 _),if_pos o.hr]
theorem DomTree.meet(h:DomTree S r n P t)(o:Ordered S r n P){a b:Nat}(ha:a<n)(hb:b<n)(hpa:Bv t a≠-2)(hpb:Bv t b≠-2):∃ m:Nat,Rs t (a:Int) (b:Int)=(m:Int)/\MeetAt (Bv t) a b m/\m<n/\Bv t m≠-2:=by
 have rd:Ready S r n P t _:=⟨h.inv,h.len,λx hx=>by rw[TF]at hx;exact h.full x (o.lt hx) ((o.mem x).1 hx)⟩;obtain⟨c,hc1,hc2,hc3⟩:=h.inv.meets (rd.inj o) dw _ a b (zzL8 _) ha hb hpa hpb;refine⟨c,?_,hc1,hc2,hc3⟩;unfold Rs;rw[if_pos (h.right o)];obtain⟨hca,hcb⟩:=(hc1 c).1 (.refl _)
 have hin:∀ z:Nat,(Ep t _).contains z=true↔UpTo (Bv t) b z:=λz=>by
  rw[zzL63,(h.path o hb hpb).2.1]
  constructor
  ·grind
  ·grind
 rcases(h.path o ha hpa).2.2 λx=>(Ep t b).contains x with⟨_,h2⟩|⟨f,h1,h2,h3,h4⟩
 ·grind
 ·rw[h1];have hfc:=h4 c hca ((hin c).2 hcb);have hcf:=(hc1 f).2 ⟨h2,(hin f).1 h3⟩;rw[h.inv.antisymm hcf hfc hc2 hc3]
  rfl
theorem DomTree.meet_none(h:DomTree S r n P t)(o:Ordered S r n P){a b:Nat}(ha:a<n)(hb:b<n)(hp:Bv t a = -2\/Bv t b = -2):Rs t (a:Int) (b:Int) = -2:=by
 unfold Rs;rw[if_pos (h.right o)];rcases hp with hp|hp
 ·rw[h.nopath ha hp];rfl
 ·rw[h.nopath hb hp]
  have:(Ep t a).find? (λx=>[].contains x)=none:=List.find?_eq_none.2 λx _=>by simp
  rw[this];rfl
theorem DomTree.over(h:DomTree S r n P t)(o:Ordered S r n P){a b:Nat}(ha:a<n)(hb:b<n):MW t (a:Int) (b:Int)=true↔Bv t b≠-2/\UpTo (Bv t) b a:=by
 unfold MW;rw[A1,zzL46,zzL85]
 by_cases hpa:Bv t a = -2
 ·rw[h.meet_none o ha hb (.inl hpa)]
  constructor
  ·omega
  ·rintro⟨h1,h2⟩;exact absurd hpa (h.inv.anc h2 hb h1).2.1
 ·by_cases hpb:Bv t b = -2
  ·rw[h.meet_none o ha hb (.inr hpb)]
   constructor
   ·omega
   ·grind
  ·obtain⟨m,hm1,hm2,hm3,hm4⟩:=h.meet o ha hb hpa hpb;rw[hm1]
   constructor
   ·rintro⟨h1,_⟩;have h1:=LK h1;subst h1;exact⟨hpb,((hm2 _).1 (.refl _)).2⟩
   ·rintro⟨_,h2⟩;have:=(hm2 a).2 ⟨.refl _,h2⟩;have h3:=((hm2 m).1 (.refl _)).1;rw[h.inv.antisymm h3 this ha hpa];exact⟨rfl,by omega⟩
theorem DomTree.over_dom(h:DomTree S r n P t)(o:Ordered S r n P){a b:Nat}(ha:a<n)(hb:b<n):MW t (a:Int) (b:Int)=true↔Rc S r b/\¬ Av S r a b:=by
 rw[h.over o ha hb]
 constructor
 ·rintro⟨h1,h2⟩;exact⟨h.inv.rc b hb h1,(h.exact_ b hb h1 a).1 h2⟩
 ·rintro⟨h1,h2⟩;have:=h.full b hb h1;exact⟨this,(h.exact_ b hb this a).2 h2⟩
end
section
variable {L:List (List Int)} (hm:Ny L=true) {r:Nat} (hr:r<L.length)
include hm hr
theorem mS:∃ P,Ord (sN L) r (r::P)/\Ordered (sN L) r L.length P/\DomTree (sN L) r L.length P (CN L r):=by
 obtain⟨O,hO⟩:=Ord.exist (Zb hm) hr;obtain⟨P,rfl,o⟩:=hO.ordered hr (Zb hm);obtain⟨J,_,hJ⟩:=vh o;have hd:=ND o hJ;refine⟨P,hO,o,?_⟩;rw[<- hd.eq hm hr o];exact hd
end
theorem KH{X:Type}(n:Nat)(p:Nat->Bool)(f:Int->Option (LR Int X))(yes no:X)(hn:∀ i:Nat,i<n->p i=true->f (i:Int)=some (.next ((i:Int)+1)))
  (hf:∀ i:Nat,i<n->p i=false->f (i:Int)=some (.done no)) (he:f (n:Int)=some (.done yes)):Ad f (0:Int)=some (bif (List.range n).all p then yes else no):=by
 have hg:∀ i,i<(List.range n).length->(List.range n).getD i 0=i:=λi hi=>by grind
 have:=G4 (List.range n) 0 p f yes no (λi hi hp=>by grind) (λi hi hp=>by grind) (by simpa using he) n 0 (by simp);rw[show(0:Int)=(0:Nat) from rfl,this,Mv]
theorem wl{n:Nat}{p:Nat->Bool}(h:(List.range n).all p=true):∀ i,i<n->p i=true:=λi hi=>zzL28.1 h i (by simpa using hi)
def Sl(L:List (List Int)):List Bool:=IU (sN L) L.length ((List.replicate L.length false).set 0 true) L.length
def Jt(l:List Int)(p:Bf):Bool:=decide (p.From=l)&&((p.Args.length:Int)==(l.length:Int))
def L6(L:List (List Int))(b:Ab)(i:Nat):Bool:=(Sl L).getD i false&&!((b.End.Kind==1 || b.End.Kind==3)&&(b.End.Arg !=0))&&b.Phis.all (Jt ((Cc L).getD i []))
def Fi(f:TFunc):Bool:=Rl f&&(List.range f.Blocks.length).all λi=>L6 (Bu f) (f.Blocks.getD i default) i
theorem Pc(f:TFunc):(Bu f).length=f.Blocks.length:=by simp[Bu]
theorem d7(L:List (List Int)):(Sl L).length=L.length:=by rw[Sl,Ym];simp
theorem s9{a b c d:Bool}{x:Option (LR Int (Unit ⊕ Bool))}:(bif (bif (!a) then true else(bif (bif b then true else c) then d else false)) then some (LR.done (Sum.inr false)) else x)=bif (a&&!((b || c)&&d)) then x else some (LR.done (Sum.inr false)):=by
 grind
theorem uD{f:TFunc}(hf:OkF f):J4 f=some (Fi f):=by
 have hmax:f.Blocks.length<=maxLen:=by
  have:=hf.blocks;have:(64:Nat)<=maxLen:=by decide
  omega
 unfold J4 Fi;rw[QW f hmax,Aj]
 cases hs:Rl f with
 | false=>rfl
 | true=>
  have hm:=Rj hs;have hlen:=Pc f;obtain⟨h1,h2⟩:=T9 hm
  have hpos:0<(Bu f).length:=by have:=(shape_iff.1 hs).1.1;omega
  simp only[Af,Jj];have hr:=uA hm hpos;rw[show(((0:Nat):Int))=0 from rfl]at hr;rw[hr,Aj]
  show((Ad (E5 f (J9 (Bu f),0) (Sl (Bu f))) 0).bind _)=_
  have hphi:∀ i,i<f.Blocks.length->Ad _ (0:Int)=some _:=λi hi=>by
   have hmem:=Ai (d:=(default:Ab)) hi;have hB:=hf.block _ hmem
   have hpl:(J9 (Bu f)).Pred.length=f.Blocks.length:=by rw[<- hlen];exact Pv _
   have hpi:As (i:Int) (J9 (Bu f)).Pred.length:=Ag (by omega)
   have key:∀ j,j<(f.Blocks.getD i default).Phis.length->E4 f (J9 (Bu f),0) (i:Int) (j:Int)=some (bif Jt ((Cc (Bu f)).getD i []) _ then .next ((j:Int)+1) else .done (.inr false)):=λj hj=>by
    have hp:=RL hf hmem (Ai (d:=(default:Bf)) hj);unfold E4
    have hd:decide ((j:Int)<((f.Blocks.getD i default).Phis.length:Int))=true:=by simpa using hj
    have hi1:=ga ((f.Blocks.getD i default).Phis.getD j default).From ((J9 (Bu f)).Pred.getD i []) (by omega);simp only[Co,hd,Af,Aa (Ag hj),Aa hpi,hi1,Aj];rw[Aa (λ_=>Ag hj),Aa (λ_=>hpi),A0 hj (by have:=hB.phis;omega)];unfold Jt
    show(bif (bif (!decide (((f.Blocks.getD i default).Phis.getD j default).From=(Cc (Bu f)).getD i [])) then true else((((f.Blocks.getD i default).Phis.getD j default).Args.length:Int)!=(((Cc (Bu f)).getD i []).length:Int))) then _ else _)=_
    cases decide (((f.Blocks.getD i default).Phis.getD j default).From=(Cc (Bu f)).getD i []) with
    | false=>rfl
    | true=>
     grind
   have:=G4 (f.Blocks.getD i default).Phis (default:Bf) (Jt ((Cc (Bu f)).getD i [])) (E4 f (J9 (Bu f),0) (i:Int)) (.inl ()) (.inr false) (λj hj hp=>by rw[key j hj,hp];rfl) (λj hj hp=>by rw[key j hj,hp];rfl) (by unfold E4;simp) (f.Blocks.getD i default).Phis.length 0 (by omega);rw[Mv]at this;exact this
  have hrl:=d7 (Bu f)
  have key:∀ i,i<f.Blocks.length->E5 f (J9 (Bu f),0) (Sl (Bu f)) (i:Int)=some (bif L6 (Bu f) (f.Blocks.getD i default) i then .next ((i:Int)+1) else .done (.inr false)):=λi hi=>by
   unfold E5
   have hd:decide ((i:Int)<(f.Blocks.length:Int))=true:=by simpa using hi
   simp only[hd,Af,Aa (Ag hi),Aa (Ag (show i<(Sl (Bu f)).length by omega)),Co,s9,hphi i hi,Aj,A0 hi (by have:=hf.blocks;omega)];unfold L6
   cases((Sl (Bu f)).getD i false&&!(((f.Blocks.getD i default).End.Kind==1 || (f.Blocks.getD i default).End.Kind==3)&&((f.Blocks.getD i default).End.Arg !=0))) with
   | false=>rfl
   | true=>grind
  rw[KH f.Blocks.length (λi=>L6 (Bu f) (f.Blocks.getD i default) i) _ (.inl ()) (.inr false) (λi hi hp=>by rw[key i hi,hp];rfl) (λi hi hp=>by rw[key i hi,hp];rfl) (by unfold E5;simp)]
  cases(List.range f.Blocks.length).all _<;>rfl
theorem YK{f:TFunc}(h:Fi f=true):j6 f:=λb hb p hp=>by
 simp only[Fi,A1]at h;obtain⟨i,hi,rfl⟩:=N6 hb;have h1:=wl h.2 i hi;rw[An _ _ _ hi]at h1;simp only[L6,A1]at h1;have h2:=zzL28.1 h1.2 p hp;simp only[Jt,A1,Dq,zzL46]at h2;rw[h2.1];omega
def Un(l:List Cd)(i:Nat):Bool:=valS (l.getD i default).V&&(Np l (l.getD i default).V==(i:Int))
def Og(l:List Cd)(u:C9):Bool:=!decide (Np l u.V<0)
def defOf(l:List Cd)(v:Int):Cd:=l.getD (Np l v).toNat default
def FB(l:List Cd)(u:C9):Bool:=((defOf l u.V).Shape.1==u.Shape.1)&&(((defOf l u.V).Shape.2==u.Shape.2)&&true)
def FA(l:List Cd)(t:List Int)(u:C9):Bool:=
 (decide ((defOf l u.V).Block<0) || ((defOf l u.V).Block==u.Block&&decide ((defOf l u.V).At<u.At))) || (!((defOf l u.V).Block==u.Block)&&!(Rs t (defOf l u.V).Block u.Block !=(defOf l u.V).Block))
def Er(f:TFunc):List Int:=SQ (J9 (Bu f)) 0
def SV(f:TFunc)(l:Int):Int:=
 bif !Fi f then 5 else bif !U1 f l then 6 else bif !(List.range (Bg f).length).all (Un (Bg f)) then 7 else bif !(B5 f).all (Og (Bg f)) then 7 else
 bif !(B5 f).all (FB (Bg f)) then 6 else bif !(B5 f).all (FA (Bg f) (Er f)) then 7 else 0
def F9(f:TFunc)(l:Int):Int:=bif decide (l<0) || decide (2<l) then 1 else bif !Qb f then 4 else SV f l
theorem cy{l:List Cd}{v:Int}(h:¬ Np l v<0):As (Np l v) l.length:=by
 unfold Np at h ⊢
 cases hx:l.findIdx? _ with
 | none=>grind
 | some i=>
  obtain⟨hi,_⟩:=List.findIdx?_eq_some_iff_getElem.1 hx;exact Ag hi
theorem eQ{f:TFunc}(h:Rl f=true):(Er f).length<=1000:=by
 have h1:=(T9 (Rj h)).1;unfold Er SQ
 split
 ·rw[YN];show(Bu f).length<=1000;omega
 ·simp
theorem tc(a b c:Bool)(m q x:Int):(Option.bind (α:=Unit ⊕ Int) (bif (bif a then true else(bif b then c else false)) then some (.inl ()) else((bif (b==false) then some m else some 0).bind λx31=>(bif (bif b then true else(x31 !=q)) then some (.inr 7) else some (.inl ())))) (λx32=>match x32 with | .inl _=>some (LR.next x) | .inr r34=>some (.done (.inr r34)))) =
  (some (bif (a || (b&&c)) || (!b&&!(m !=q)) then .next x else .done (.inr 7)):Option (LR Int (Unit ⊕ Int))):=by
 grind
theorem uF{f:TFunc}(hf:OkF f)(l:Int)(hm:Gq f=some (Qb f)):Cy f l=some (F9 f l):=by
 unfold Cy F9;rw[show(bif decide (l<(0:Int)) then true else decide ((2:Int)<l))=(decide (l<0) || decide (2<l)) by cases decide (l<(0:Int))<;>rfl]
 cases(decide (l<0) || decide (2<l)) with
 | true=>rfl
 | false=>
 simp only[Ar,hm,Aj]
 cases Qb f with
 | false=>rfl
 | true=>
 simp only[Dt,Ar,uD hf,Aj,SV]
 cases hs:Fi f with
 | false=>rfl
 | true=>
 simp only[Dt,Ar,uE hf,Aj]
 cases ht:U1 f l with
 | false=>rfl
 | true=>
 simp only[Dt,Ar,xJ hf,Aj];have hdl:=lT hf;have hul:=LE hf
 have hL1:Ad (S:=Int) (X:=(Unit ⊕ Int)) (E3 (Bg f)) (0:Int)=some (bif (List.range (Bg f).length).all (Un (Bg f)) then .inl () else .inr 7):=by
  have key:∀ i,i<(Bg f).length->E3 (Bg f) (i:Int)=some (bif Un (Bg f) i then .next ((i:Int)+1) else .done (.inr 7)):=λi hi=>by
   unfold E3 Un
   have hd:decide ((i:Int)<((Bg f).length:Int))=true:=by simpa using hi
   simp only[hd,Af,Aa (Ag hi),Co,EC,Aj,Aa (λ_=>Ag hi),aj (Bg f) _ (by omega),A0 hi (by omega)]
   cases valS ((Bg f).getD i default).V with
   | false=>rfl
   | true=>
    grind
  exact KH _ _ _ _ _ (λi hi hp=>by rw[key i hi,hp];rfl) (λi hi hp=>by rw[key i hi,hp];rfl) (by unfold E3;simp)
 rw[hL1,Aj]
 cases(List.range (Bg f).length).all (Un (Bg f)) with
 | false=>rfl
 | true=>
 simp only[Af,Dt,Ar,xN hf (YK hs),Aj]
 have hL2:Ad (S:=Int) (X:=(Unit ⊕ Int)) (Dm (Bg f) (B5 f)) (0:Int)=some (bif (B5 f).all (Og (Bg f)) then .inl () else .inr 7):=by
  have key:∀ i,i<(B5 f).length->Dm (Bg f) (B5 f) (i:Int)=some (bif Og (Bg f) ((B5 f).getD i default) then .next ((i:Int)+1) else .done (.inr 7)):=λi hi=>by
   unfold Dm Og
   have hd:decide ((i:Int)<((B5 f).length:Int))=true:=by simpa using hi
   simp only[hd,Af,Aa (Ag hi),Co,aj (Bg f) _ (by omega),Aj,A0 hi (by omega)]
   cases decide (Np (Bg f) ((B5 f).getD i default).V<0)<;>rfl
  have:=G4 (B5 f) default (Og (Bg f)) (Dm (Bg f) (B5 f)) (.inl ()) (.inr 7) (λi hi hp=>by rw[key i hi,hp];rfl) (λi hi hp=>by rw[key i hi,hp];rfl) (by unfold Dm;simp) (B5 f).length 0 (by omega);rw[Mv]at this;exact this
 rw[hL2,Aj]
 cases hF:(B5 f).all (Og (Bg f)) with
 | false=>rfl
 | true=>
 have hfound:∀ i,i<(B5 f).length->As (Np (Bg f) ((B5 f).getD i default).V) (Bg f).length:=λi hi=>by
  have:=zzL28.1 hF _ (Ai (d:=(default:C9)) hi);simp only[Og,Rm,TC]at this;exact cy this
 simp only[Af,Dt,Ar]
 have hL3:Ad (S:=Int) (X:=(Unit ⊕ Int)) (Dn (Bg f) (B5 f)) (0:Int)=some (bif (B5 f).all (FB (Bg f)) then .inl () else .inr 6):=by
  have key:∀ i,i<(B5 f).length->Dn (Bg f) (B5 f) (i:Int)=some (bif FB (Bg f) ((B5 f).getD i default) then .next ((i:Int)+1) else .done (.inr 6)):=λi hi=>by
   unfold Dn FB defOf
   have hd:decide ((i:Int)<((B5 f).length:Int))=true:=by simpa using hi
   simp only[hd,Af,Aa (Ag hi),Co,aj (Bg f) _ (by omega),Aj,Aa (hfound i hi),A0 hi (by omega)]
   cases((((Bg f).getD (Np (Bg f) ((B5 f).getD i default).V).toNat default).Shape.1==((B5 f).getD i default).Shape.1)&&((((Bg f).getD (Np (Bg f) ((B5 f).getD i default).V).toNat default).Shape.2==((B5 f).getD i default).Shape.2)&&true))<;>rfl
  have:=G4 (B5 f) default (FB (Bg f)) (Dn (Bg f) (B5 f)) (.inl ()) (.inr 6) (λi hi hp=>by rw[key i hi,hp];rfl) (λi hi hp=>by rw[key i hi,hp];rfl) (by unfold Dn;simp) (B5 f).length 0 (by omega);rw[Mv]at this;exact this
 rw[hL3,Aj]
 cases(B5 f).all (FB (Bg f)) with
 | false=>rfl
 | true=>
 have hsB:Rl f=true:=by simp only[Fi,A1]at hs;exact hs.1
 have hmax:f.Blocks.length<=maxLen:=by
  have:=hf.blocks;have:(64:Nat)<=maxLen:=by decide
  omega
 simp only[Af,Dt,Ar,QW f hmax,hsB,Aj];rw[ge _ (HU (Rj hsB)).1 0,Aj];have htl:=eQ hsB
 have hL4:Ad (S:=Int) (X:=(Unit ⊕ Int)) (Ct (Bg f) (B5 f) (Er f)) (0:Int)=some (bif (B5 f).all (FA (Bg f) (Er f)) then .inl () else .inr 7):=by
  have key:∀ i,i<(B5 f).length->Ct (Bg f) (B5 f) (Er f) (i:Int)=some (bif FA (Bg f) (Er f) ((B5 f).getD i default) then .next ((i:Int)+1) else .done (.inr 7)):=λi hi=>by
   unfold Ct FA defOf
   have hd:decide ((i:Int)<((B5 f).length:Int))=true:=by simpa using hi
   simp only[hd,Af,Aa (Ag hi),Co,aj (Bg f) _ (by omega),Aj,Aa (hfound i hi),A0 hi (by omega),xL (Er f) htl];exact tc _ _ _ _ _ _
  have:=G4 (B5 f) default (FA (Bg f) (Er f)) (Ct (Bg f) (B5 f) (Er f)) (.inl ()) (.inr 7) (λi hi hp=>by rw[key i hi,hp];rfl) (λi hi hp=>by rw[key i hi,hp];rfl) (by unfold Ct;simp) (B5 f).length 0 (by omega);rw[Mv]at this;exact this
 show((Ad (Ct (Bg f) (B5 f) (Er f)) 0).bind _)=_
 rw[hL4,Aj]
 cases(B5 f).all (FA (Bg f) (Er f))<;>rfl
theorem XP{α S:Type}(l:List α)(d:α)(g:S->α->S)(f:S×Int->Option (LR (S×Int) S))(hn:∀(s:S) (i:Nat),i<l.length->f (s,(i:Int))=some (.next (g s (l.getD i d),(i:Int)+1)))
  (hd:∀ s:S,f (s,(l.length:Int))=some (.done s)):∀(k i:Nat) (s:S),i+k=l.length->Ad f (s,(i:Int))=some ((l.drop i).foldl g s)
 | 0,i,s,h=>by
  obtain rfl:i=l.length:=by omega
  rw[Ak (hd s)]
  simp
 | k+1,i,s,h=>by
  have hi:i<l.length:=by omega
  have hdr:l.drop i=l.getD i d::l.drop (i+1):=by simp_all
  rw[Aq (hn s i hi),show(i+1)=((i+1:Nat):Int) by omega,XP l d g f hn hd k _ _ (by omega),hdr,Ze]
theorem R6{α S:Type}(l:List α)(d:α)(g:S->α->S)(f:S×Int->Option (LR (S×Int) S))(hn:∀(s:S) (i:Nat),i<l.length->f (s,(i:Int))=some (.next (g s (l.getD i d),(i:Int)+1)))
  (hd:∀ s:S,f (s,(l.length:Int))=some (.done s)) (s:S):Ad f (s,(0:Int))=some (l.foldl g s):=by
 have:=XP l d g f hn hd l.length 0 s (by omega);exact this
def grow(n d:Int):Int:=bif decide (n<d) then d else n
def M8(f:TFunc):Int:=f.Blocks.foldl (λn b=>b.Ops.foldl (λn o=>grow n o.Dst) (b.Phis.foldl (λn p=>grow n p.Dst) n)) (f.Params.length:Int)
theorem LF{i n:Nat}(h:i<n)(hn:n<=maxLen):w64 ((i:Int)+1)=(i:Int)+1:=A0 h (by rw[T8]at hn;omega)
theorem xK{f:TFunc}(hf:US f):K2 f=some (M8 f):=by
 have h1:∀(i:Nat),i<f.Blocks.length->∀ n ,Ad (Io f i) _=some ((f.Blocks.getD i _).Phis.foldl (λn p=>grow n _) n):=λi hi n=>by
  have hB:=hf.block _ (Ai (d:=default) hi);refine R6 _ default _ _ (λs j hj=>?_) (λs=>?_) n
  ·unfold Io grow
   have hd:decide (j<((f.Blocks.getD i default).Phis.length:Int))=true:=by simpa using hj
   simp only[Aa (Ag hi),Co,hd, Aa (Ag hj),LF hj hB.1]
   cases decide (s<((f.Blocks.getD i _).Phis.getD j _).Dst)<;>rfl
  ·unfold Io;simp[Aa (Ag hi)]
 have h2:∀(i:Nat),i<f.Blocks.length->∀ n ,Ad (Ip f i) _=some ((f.Blocks.getD i _).Ops.foldl (λn p=>grow n _) n):=λi hi n=>by
  have hB:=hf.block _ (Ai (d:=default) hi);refine R6 _ default _ _ (λs j hj=>?_) (λs=>?_) n
  ·unfold Ip grow
   have hd:decide (j<((f.Blocks.getD i default).Ops.length:Int))=true:=by simpa using hj
   simp only[Aa (Ag hi),Co,hd, Aa (Ag hj),LF hj hB.2.1]
   cases decide (s<((f.Blocks.getD i _).Ops.getD j _).Dst)<;>rfl
  ·unfold Ip;simp[Aa (Ag hi)]
 unfold K2 M8
 rw[R6 f.Blocks default (λn b=>b.Ops.foldl (λn o=>grow n o.Dst) (b.Phis.foldl (λn p=>grow n p.Dst) n)) _ (λs i hi=>by
  unfold Lu
  have hd:decide (i<(f.Blocks.length:Int))=true:=by simpa using hi
  simp only[hd,Af,h1 i hi,h2 i hi,Aj,LF hi hf.blocks]) (λs=>by unfold Lu;simp)]
 rfl
def Sm(f:TFunc):Prop:=US f/\Cw f=some true
theorem kF{f:TFunc}(h:Sm f)(hm:Qb f=true):OkF f:=by
 obtain⟨sm,h1,h2⟩:=NC f h.1;rw[h.2]at h1;exact(h2 (OI h1).symm hm).1
theorem lm{f:TFunc}(hf:US f):∃ b,Ez f=some b/\(b=true->Sm f):=by
 obtain⟨x,hx⟩:∃ x,Ad _ ((0:Int),(0:Int))=some x:=by
  refine Uf f.Blocks.length (B8 f) (λn i hi=>.inl ?_) (λn=>?_) f.Blocks.length 0 0 (by omega)
  ·unfold B8
   have hd:decide (i<(f.Blocks.length:Int))=true:=by simpa using hi
   simp only[hd, Aa (Ag hi),K8 hi hf.blocks];exact⟨_,rfl⟩
  ·unfold B8;exact⟨n,by simp⟩
 obtain⟨sm,h1⟩:=SM f hf;unfold Ez;rw[hx, h1];refine⟨_,rfl,λhb=>⟨hf,?_⟩⟩
 cases sm with
 | true=>exact h1
 | false=>cases hb
theorem BM{f:TFunc}(h:Sm f)(l:Int):Cy f l=some (F9 f l):=by
 have hm:=kA f h.1
 cases hb:Qb f with
 | true=>exact uF (kF h hb) l hm
 | false=>
  unfold Cy F9;rw[show(bif decide _ then true else decide _)=(decide (l<0) || decide (2<l)) by grind]
  cases(decide (l<0) || decide (2<l)) with
  | true=>rfl
  | false=>grind
structure zI(f:TFunc)(s:List (Int×(Int×Int))):Prop where
 none:F9 f 2≠0->s.length=0
 len:F9 f 2=0->s.length=(Bg f).length
 get:F9 f 2=0->∀ d∈Bg f,Mc ((0:Int),(0:Int)) s d.V=d.Shape
 has:F9 f 2=0->∀ v,Ke s v=true->∃ d∈Bg f,d.V=v
theorem Aam{f:TFunc}(hf:US f)(h0:f.Params.length<=64)(hb:∀ b∈f.Blocks,b.End.To.length<=64/\(∀ p∈b.Phis,p.From.length<=64/\p.Args.length<=64)/\∀ o∈b.Ops,o.Args.length<=64)(he:f6 f<=20000):Sm f:=
 ⟨hf,by rw[eM f hf h0 hb,F6 he]⟩
def vf(f:TFunc):Int:=
 bif !(List.range (Bg f).length).all (Un (Bg f)) then 7 else bif !(B5 f).all (Og (Bg f)) then 7 else
 bif !(B5 f).all (FB (Bg f)) then 6 else bif !(B5 f).all (FA (Bg f) (Er f)) then 7 else 0
theorem Pq{f:TFunc}{l:Int}(h0:0<=l)(h2:l<=2):F9 f l=0↔Qb f=true/\Fi f=true/\U1 f l=true/\vf f=0:=by
 unfold F9 SV;rw[Dl (show ¬ l<0 by omega),Dl (show ¬ 2<l by omega)]
 have e:(bif !(List.range _).all _ then 7 else bif !(B5 f).all _ then 7 else
  bif !(B5 f).all _ then 6 else bif !(B5 f).all _ then 7 else 0)=vf f:=rfl
 rw[e]
 cases Qb f<;>cases Fi f<;>cases U1 f l<;>simp
theorem pA{o:A2}(h:Jr o=true):1<=o.Lanes:=by
 simp only[Jr,A1]at h;have:=shape_lanes h.1.1;omega
theorem dn{l m:Int}(hm:IA l=m)(o:A2):Rf l o=true↔Jr o=true/\o.Kind<=m/\(l<2->o.Lanes<=1):=by
 unfold Rf
 by_cases a:m<o.Kind<;>by_cases b:l<2<;>by_cases c:1<o.Lanes<;>cases Jr o<;>simp[ b]<;>omega
theorem ur{α:Type}(l:List α)(g:α->Nat):(l.map λa=>g a+1).sum=l.length+(l.map g).sum:=by
 induction l with
 | nil=>rfl
 | cons a l ih=>grind
theorem qV(a b:Int):w64 (a+w64 b)=w64 (a+b):=by rw[Int.add_comm,Vz,Int.add_comm]
theorem Aap(f:TFunc)(hf:US f):Vq f=some (sizeW f):=by
 have hl:=DW f.Blocks default (λb=>b.Phis.length+b.Ops.length) id (Qp f) (λn i hi=>?_) (λn=>?_) _ 0 f.Blocks.length (Hp _)
 ·unfold Vq;rw[JD (by have:=hf.blocks;rw[T8]at this;omega),show((0:Nat):Int)=0 from rfl]at hl;rw[hl,  sizeW,Rx,show Uy=(λb=>(b.Phis.length+b.Ops.length)+1) from rfl,ur]
  rfl
 ·have e1:decide (i<(f.Blocks.length:Int))=true:=F6 (by omega);unfold Qp;simp only[e1,Af,Aa (Ag hi),Co,K8 hi hf.blocks,qV,Vz];rw[show n+((f.Blocks.getD i default).Phis.length+(f.Blocks.getD i default).Ops.length)=((n+((f.Blocks.getD i default).Phis.length+(f.Blocks.getD i default).Ops.length):Nat):Int) by omega]
 ·have e1:decide (f.Blocks.length<(f.Blocks.length:Int))=false:=by simp
  unfold Qp;simp only[e1,Ar,id]
theorem HM{α:Type}(l:List α)(d:α)(p:α->Bool)(f:Int->Option (LR Int (Unit ⊕ Bool)))(hn:∀ i:Nat,i<l.length->f i=bif p (l.getD i d) then some (.next ((i:Int)+1)) else some (.done (.inr false)))
  (he:f l.length=some (.done (.inl ()))):Ad f 0=some (bif l.all p then .inl () else .inr false):=by
 have:=G4 l d p f _ _ (λi hi hp=>by rw[hn i hi,hp];rfl) (λi hi hp=>by rw[hn i hi,hp];rfl) he _ 0 (Hp _)
 simpa using this
theorem ly(x:Int):(bif decide (x<0) then true else decide (2147483647<x)) = !numB x:=by
 unfold numB
 by_cases h1:x<0
 ·grind
 ·grind
theorem YQ(l:List Int)(h:l.length<=maxLen):Ds l=some (l.all numB):=by
 have hl:=HM l 0 numB (Ko l) (λi hi=>?_) ?_
 ·unfold Ds;rw[hl]
  cases l.all _<;>rfl
 ·have e1:decide ((i:Int)<l.length)=true:=F6 (by omega);unfold Ko;simp only[e1, Aa (Ag hi),Co,ly,K8 hi h]
  cases numB _<;>simp
 ·unfold Ko
  simp
theorem EJ(l:List Int)(h:l.length<=maxLen):It l=some (listB l):=by
 unfold It;rw[YQ l h]
 by_cases h1:l.length<=64
 ·have e1:decide ((l.length:Int)<=64)=true:=F6 (by omega);rw[e1];simp[listB,h1]
 ·have e1:decide ((l.length:Int)<=64)=false:=Dl (by omega);rw[e1];simp[listB,h1]
theorem EF{l:List Int}(h:l.length<=10):l.length<=maxLen:=by rw[T8];omega
theorem qe(p:Bf)(h1:p.From.length<=maxLen)(h2:p.Args.length<=maxLen):Qr p=some (AG p):=by
 unfold Qr AG;rw[YQ _ (EF (by simp)),EJ _ h1,EJ _ h2];simp only[FO,List.all_nil,TB]
 cases numB p.Bits<;>cases numB p.Dst<;>cases listB p.From<;>cases listB p.Args<;>rfl
theorem u2(o:A2)(h1:o.Args.length<=maxLen):Sk o=some (bG o):=by
 unfold Sk bG;rw[YQ _ (EF (by simp)),EJ _ h1];simp only[FO,List.all_nil,TB]
 cases numB o.Kind<;>cases numB o.Bits<;>cases numB o.Lanes<;>cases numB o.Dst<;>cases listB o.Args<;>rfl
theorem qc(e:Jm)(h1:e.To.length<=maxLen):Qq e=some (VJ e):=by
 unfold Qq VJ;rw[YQ _ (EF (by simp)),EJ _ h1];simp only[FO,List.all_nil,TB]
 cases numB e.Kind<;>cases numB e.Arg<;>cases listB e.To<;>rfl
theorem RF{X:Type}(b:Bool)(x y:X):(bif !b then x else y)=bif b then y else x:=by cases b<;>rfl
theorem mW(l:List Bf)(hl:l.length<=maxLen)(h:∀ p∈l,p.From.length<=maxLen/\p.Args.length<=maxLen):J1 l=some (l.all AG):=by
 have hl':=HM l (default:Bf) AG (Hr l) (λi hi=>?_) ?_
 ·unfold J1;rw[hl']
  cases l.all AG<;>rfl
 ·have e1:decide ((i:Int)<(l.length:Int))=true:=F6 (by omega);have:=h _ (Ai (d:=(default:Bf)) hi);unfold Hr;simp only[e1,Af,Aa (Ag hi),Co,qe _ this.1 this.2,Aj,RF,K8 hi hl,Int.natCast_add,Int.natCast_one]
 ·unfold Hr
  simp
theorem qd(l:List A2)(hl:l.length<=maxLen)(h:∀ o∈l,o.Args.length<=maxLen):Kn l=some (l.all bG):=by
 have hl':=HM l (default:A2) bG (Ie l) (λi hi=>?_) ?_
 ·unfold Kn;rw[hl']
  cases l.all bG<;>rfl
 ·have e1:decide ((i:Int)<(l.length:Int))=true:=F6 (by omega);have:=h _ (Ai (d:=(default:A2)) hi);unfold Ie;simp only[e1,Af,Aa (Ag hi),Co,u2 _ this,Aj,RF,K8 hi hl,Int.natCast_add,Int.natCast_one]
 ·unfold Ie
  simp
theorem iG(b:Ab)(h1:b.Phis.length<=maxLen)(h2:b.Ops.length<=maxLen)(h3:b.End.To.length<=maxLen)(h4:∀ p∈b.Phis,p.From.length<=maxLen/\p.Args.length<=maxLen)(h5:∀ o∈b.Ops,o.Args.length<=maxLen):Oa b=some (blockB b):=by
 unfold Oa blockB;rw[mW _ h1 h4,qd _ h2 h5,qc _ h3]
 cases b.Phis.all AG<;>cases b.Ops.all bG<;>cases VJ b.End<;>rfl
theorem eX(f:TFunc)(hf:US f):Ic f.Blocks=some (f.Blocks.all blockB):=by
 have hl':=HM f.Blocks (default:Ab) blockB (Gd f.Blocks) (λi hi=>?_) ?_
 ·unfold Ic;rw[hl']
  cases f.Blocks.all blockB<;>rfl
 ·have e1:decide ((i:Int)<(f.Blocks.length:Int))=true:=F6 (by omega);have hm:=Ai (d:=(default:Ab)) hi;have q:=hf.block _ hm;unfold Gd;simp only[e1,Af,Aa (Ag hi),Co,iG _ q.1 q.2.1 q.2.2 (hf.phi _ hm) (λo ho=>(hf.op _ hm o ho).1),Aj,RF,K8 hi hf.blocks,Int.natCast_add,Int.natCast_one]
 ·unfold Gd
  simp
theorem Aao(f:TFunc)(hf:US f):Uh f=some (Qb f):=by
 unfold Uh Qb;rw[Aap f hf,YQ _ hf.params,YQ _ (EF (by simp)),eX f hf];simp only[FO,List.all_nil,TB,listB]
 have d1:∀ n:Nat,decide ((n:Int)<1) = !decide (1<=n):=λn=>by by_cases h:1<=n<;>simp[h]<;>omega
 have d2:∀ n:Nat,decide ((64:Int)<(n:Int)) = !decide (n<=64):=λn=>by by_cases h:n<=64<;>simp[h]<;>omega
 have d3:∀ n:Nat,decide ((16:Int)<(n:Int)) = !decide (n<=16):=λn=>by by_cases h:n<=16<;>simp[h]<;>omega
 have d4:∀ n:Int,decide ((512:Int)<n) = !decide (n<=512):=λn=>by by_cases h:n<=512<;>simp[h]<;>omega
 simp only[d1,d2,d3,d4]
 have himp:decide (f.Params.length<=16)=true->decide (f.Params.length<=64)=true:=λh=>by simp at h ⊢;omega
 revert himp
 generalize decide (1<=f.Blocks.length)=c1
 generalize decide (f.Blocks.length<=64)=c2
 generalize decide (f.Params.length<=16)=c3
 generalize decide (f.Params.length<=64)=c4
 generalize f.Params.all numB=c6
 generalize numB f.Ret=c7
 generalize f.Blocks.all blockB=c8
 cases c3 with
 | true=>
  intro h;obtain rfl:=h rfl;simp only[Dt,U9,Af,Aj,Ar]
  generalize decide (sizeW f<=512)=c5
  cases c1<;>cases c2<;>cases c6<;>cases c7<;>cases c8<;>cases c5<;>rfl
 | false=>
  intro _
  cases c1<;>cases c2<;>rfl
inductive Tp (t:List Int):Nat->Nat->Nat->Prop
 | top {x:Nat} (hx:x<t.length) (h:t.getD x 0 = -1):Tp t x x 0
 | up {x y r k:Nat} (hx:x<t.length) (h:t.getD x 0=(y:Int)) (hk:Tp t y r k):Tp t x r (k+1)
section
variable {t:List Int}
theorem Tp.lt{x r k:Nat}(h:Tp t x r k):x<t.length:=by cases h<;>assumption
theorem Tp.tops{x r k:Nat}(h:Tp t x r k):r<t.length/\t.getD r 0 = -1:=by
 induction h with
 | top hx h=>exact⟨hx,h⟩
 | up _ _ _ ih=>exact ih
theorem Tp.det{x r k r' k':Nat}(h:Tp t x r k)(h':Tp t x r' k'):r=r'/\k=k':=by
 induction h generalizing k' with
 | top hx h=>cases h' with
  | top=>exact⟨rfl,rfl⟩
  | up _ h2 _=>omega
 | up hx h1 _ ih=>cases h' with
  | top _ h2=>omega
  | up _ h2 k2=>
   grind
theorem Tp.upTo{x r k:Nat}(h:Tp t x r k):UpTo (Bv t) x r:=by
 induction h with
 | top=>exact .refl _
 | up _ h _ ih=>exact .up h ih
theorem Tp.on{x r k z:Nat}(h:Tp t x r k)(hz:UpTo (Bv t) x z):∃ j,j<=k/\Tp t z r j/\(j=k->z=x):=by
 induction hz generalizing k with
 | refl x=>grind
 | up hp _ ih=>
  cases h with
  | top _ h2=>have :=hp.symm.trans h2;omega
  | up _ h2 k2=>
   have :=hp.symm.trans h2
   cases LK this
   obtain⟨j,h1,h3,_⟩:=ih k2;exact⟨j,by omega,h3,λe=>by omega⟩
theorem Tp.anti{x r k z:Nat}(h:Tp t x r k)(h1:UpTo (Bv t) x z)(h2:UpTo (Bv t) z x):z=x:=by
 obtain⟨j,j1,j2,j3⟩:=h.on h1;obtain⟨i,i1,i2,i3⟩:=j2.on h2;have:=h.det i2;exact j3 (by omega)
theorem Tp.list{x r k:Nat}(h:Tp t x r k):∃ l:List Nat,l.length=k+1/\l.Nodup/\∀ y∈l,y<t.length/\∃ j,j<=k/\Tp t y r j:=by
 induction h with
 | top hx h=>exact⟨[_],rfl,by simp,λy hy=>by rw[zzL24.1 hy];exact⟨hx,0,zzL8 _,.top hx h⟩⟩
 | @up x y r k hx h hk ih=>
  obtain⟨l,h1,h2,h3⟩:=ih;refine⟨x::l,by simp[h1],zzL116.2 ⟨λhm=>?_,h2⟩,λz hz=>?_⟩
  ·obtain⟨_,j,hj,hj2⟩:=h3 _ hm;have:=(Tp.up hx h hk).det hj2;omega
  ·rcases zzL27.1 hz with rfl|hz
   ·exact⟨hx,k+1,zzL8 _,.up hx h hk⟩
   ·grind
theorem Tp.short{x r k:Nat}(h:Tp t x r k):k<t.length:=by
 obtain⟨l,h1,h2,h3⟩:=h.list;have:=Ua _ l h2 λy hy=>(h3 y hy).1;omega
theorem Tp.upD{x r k:Nat}(h:Tp t x r k):∀ m,k<m->∃ q,upD t m (x:Int)=some q/\(∀ w:Int,w∈q↔∃ z:Nat,w=(z:Int)/\UpTo (Bv t) x z) /\
  ∀ p:Int->Bool,(q.find? p=none/\∀ z:Nat,UpTo (Bv t) x z->p (z:Int)=false)\/∃ f:Nat,q.find? p=some (f:Int)/\UpTo (Bv t) x f/\p (f:Int)=true/\∀ z:Nat,UpTo (Bv t) x z->p (z:Int)=true->UpTo (Bv t) f z:=by
 induction h with
 | @top x hx h=>
  intro m hm;obtain⟨m,rfl⟩:∃ i,m=i+1:=⟨m-1,by omega⟩
  have htop:∀ z,UpTo (Bv t) x z↔z=x:=λz=>OR λp hp=>by have:_=_:=hp.symm.trans h;omega
  unfold Go.Proofs.YtlnbjgmjaioagaaGreat.upD;rw[if_pos ⟨by omega,by omega⟩,Ap,if_pos h];refine⟨_,rfl,λw=>?_,λp=>?_⟩
  ·grind
  ·grind
 | @up x y r k hx h hk ih=>
  intro m hm;obtain⟨m,rfl⟩:∃ i,m=i+1:=⟨m-1,by omega⟩;unfold Go.Proofs.YtlnbjgmjaioagaaGreat.upD;rw[if_pos ⟨by omega,by omega⟩,Ap,if_neg (by omega),h];obtain⟨q,hq1,hq2,hq3⟩:=ih m (by omega);rw[hq1];refine⟨(x:Int)::q,rfl,λw=>?_,λp=>?_⟩
  ·rw[zzL27,hq2 w]
   constructor
   ·rintro(rfl|⟨y,rfl,hy⟩)
    ·exact⟨x,rfl,.refl _⟩
    ·exact⟨y,rfl,.up h hy⟩
   ·rintro⟨y,rfl,hy⟩;rcases(anc_up h).1 hy with rfl|hy
    ·exact .inl rfl
    ·exact .inr ⟨y,rfl,hy⟩
  ·cases hpp:p (x:Int) with
   | true=>exact .inr ⟨x,by simp[List.find?,hpp],.refl _,hpp,λy hy _=>hy⟩
   | false=>
    have hf:((x:Int)::q).find? p=q.find? p:=by simp[List.find?,hpp]
    rw[hf];rcases hq3 p with⟨e1,e2⟩|⟨f,e1,e2,e3,e4⟩
    ·refine .inl ⟨e1,λy hy=>?_⟩;rcases(anc_up h).1 hy with rfl|hy
     ·exact hpp
     ·exact e2 y hy
    ·refine .inr ⟨f,e1,.up h e2,e3,λy hy hpy=>?_⟩;rcases(anc_up h).1 hy with rfl|hy
     ·rw[hpp]at hpy;cases hpy
     ·exact e4 y hy hpy
theorem xg:∀ m (a:Int) q,upD t m a=some q->∃ x r k:Nat,a=(x:Int)/\k<m/\Tp t x r k:=by
 intro m
 induction m with
 | zero=>intro a q h;cases h
 | succ m ih=>
  intro a q h;unfold Go.Proofs.YtlnbjgmjaioagaaGreat.upD at h
  by_cases ha:0<=a/\a<t.length
  ·rw[if_pos ha]at h;have e :=K9 ha.1
   by_cases h1:t.getD a.toNat 0 = -1
   ·exact⟨a.toNat,a.toNat,0,e.symm,by omega,.top (by omega) h1⟩
   ·rw[if_neg h1]at h
    cases hu:Go.Proofs.YtlnbjgmjaioagaaGreat.upD t m _ with
    | none=>rw[hu]at h;cases h
    | some q'=>
     obtain⟨y,r,k,e1,e2,e3⟩:=ih _ _ hu;exact⟨a.toNat,r,k+1,e.symm,by omega,.up (by omega) e1 e3⟩
  ·grind
theorem pathD_tp{a:Int}:Ep t a≠[]↔∃ x r k:Nat,a=(x:Int)/\Tp t x r k:=by
 constructor
 ·intro h
  cases hu:upD t _ a with
  | none=>exact absurd (pathD_nil.2 hu) h
  | some q=>obtain⟨x,r,k,e1,_,e2⟩:=xg _ _ _ hu;exact⟨x,r,k,e1,e2⟩
 ·rintro⟨x,r,k,rfl,h⟩ e;obtain⟨q,hq,_⟩:=h.upD _ h.short;rw[pathD_nil.1 e]at hq;cases hq
theorem Tp.path{x r k:Nat}(h:Tp t x r k):(∀ w:Int,w∈Ep t (x:Int)↔∃ z:Nat,w=(z:Int)/\UpTo (Bv t) x z) /\
  ∀ p:Int->Bool,((Ep t (x:Int)).find? p=none/\∀ z:Nat,UpTo (Bv t) x z->p (z:Int)=false)\/∃ f:Nat,(Ep t (x:Int)).find? p=some (f:Int)/\UpTo (Bv t) x f/\p (f:Int)=true/\∀ z:Nat,UpTo (Bv t) x z->p (z:Int)=true->UpTo (Bv t) f z:=by
 obtain⟨q,h1,h2,h3⟩:=h.upD _ h.short
 have e:Ep t x=q:=by unfold Ep;rw[h1];rfl
 rw[e];exact⟨h2,h3⟩
theorem BF{α:Type}{l:List α}{i j:Nat}{x d:α}(hi:i<l.length):(l.set i x).getD j d=if j=i then x else l.getD j d:=by
 grind
theorem uH{x r k:Nat}(h:Tp t x r k):∀ l:List Bool,l.length=t.length->∃ l',Ad (Lc t) ((x:Int),l)=some l'/\l'.length=t.length/\∀ z,z<t.length->(l'.getD z false=true↔l.getD z false=true\/UpTo (Bv t) x z):=by
 induction h with
 | @top x hx h=>
  intro l hl
  have hs:Lc t (x,l)=some (.next (-1,l.set x true)):=by
   unfold Lc
   have hb:((x:Int)!=-1)=true:=by rw[zzL85];omega
   simp only[hb,Af,Ap,h];rw[Ac (Fc (by omega)),Ac (Fc hx)]
  have hd:Lc t (-1,l.set x true)=some (.done (l.set x true)):=by
   rfl
  refine⟨l.set x _,by rw[Aq hs,Ak hd],by simp[hl],λz hz=>?_⟩;rw[BF (by omega)]
  have htop:UpTo (Bv t) x z↔z=x:=OR λp hp=>by have :=hp.symm.trans h;omega
  rw[htop]
  by_cases e:z=x
  ·simp[e]
  ·simp[e]
 | @up x y r k hx h hk ih=>
  intro l hl
  have hs:Lc t (x,l)=some (.next (y,l.set x true)):=by
   unfold Lc
   have hb:(x !=(-1:Int))=true:=by rw[zzL85];omega
   simp only[hb,Af,Ap,h];rw[Ac (Fc (by omega)),Ac (Fc hx)]
  obtain⟨l',e1,e2,e3⟩:=ih (l.set x _) (by simp[hl]);refine⟨l',by rw[Aq hs,e1],e2,λz hz=>?_⟩;rw[e3 z hz,BF (by omega),anc_up (par:=Bv t) h]
  by_cases e:z=x
  ·simp[e]
  ·simp[e]
theorem uI{b r k:Nat}(h:Tp t b r k)(l:List Bool)(hl:l.length=t.length):l.getD r false=true->∃ c:Nat,Ad (Je t l) (b:Int)=some (c:Int)/\UpTo (Bv t) b c/\l.getD c false=true/\∀ z,UpTo (Bv t) b z->l.getD z false=true->UpTo (Bv t) c z:=by
 induction h with
 | @top x hx h=>
  intro hr
  have hd:Je t l x=some (.done x):=by
   unfold Je;rw[Ac (Fc (by omega)),Ap,hr]
   rfl
  exact⟨x,Ak hd,.refl _,hr,λz hz _=>hz⟩
 | @up x y r k hx h hk ih=>
  intro hr
  cases hx2:l.getD x _ with
  | true=>
   have hd:Je t l x=some (.done x):=by
    unfold Je;rw[Ac (Fc (by omega)),Ap,hx2]
    rfl
   exact⟨x,Ak hd,.refl _,hx2,λz hz _=>hz⟩
  | false=>
   have hs:Je t l x=some (.next y):=by
    unfold Je;rw[Ac (Fc (by omega)),Ap,hx2,Mu,Af,Ac (Fc hx),h]
   obtain⟨c,e1,e2,e3,e4⟩:=ih hr;refine⟨c,by rw[Aq hs,e1],.up h e2,e3,λz hz hlz=>?_⟩;rcases(anc_up  h).1 hz with rfl|hz
   ·grind
   ·exact e4 z hz hlz
theorem MO(ht:t.length<=1000){a b r k m:Nat}(ha:Tp t a r k)(hb:Tp t b r m):∃ c:Nat,R9 t (a:Int) (b:Int)=some (c:Int)/\MeetAt (Bv t) a b c:=by
 unfold R9
 have hroom:1000<=room:=by decide
 rw[Ac ⟨by omega,by omega,by omega⟩,Ap];obtain⟨l',h1,h2,h3⟩:=uH ha (List.replicate t.length _) (by simp);rw[h1,Aj]
 have h3':∀ z,z<t.length->(l'.getD z false=true↔UpTo (Bv t) a z):=λz hz=>by grind
 obtain⟨c,e1,e2,e3,e4⟩:=uI hb l' h2 ((h3' r ha.tops.1).2 ha.upTo)
 have hc:c<t.length:=by grind
 refine⟨c,by rw[e1];rfl,λw=>⟨λhw=>⟨((h3' c hc).1 e3).trans hw,e2.trans hw⟩,λ⟨hw1,hw2⟩=>?_⟩⟩;obtain⟨j,_,hj,_⟩:=ha.on hw1;exact e4 w hw2 ((h3' w hj.lt).2 hw1)
theorem pQ(hR:M4 t=true){a b r k m:Nat}(ha:Tp t a r k)(hb:Tp t b r m):∃ c:Nat,Rs t (a:Int) (b:Int)=(c:Int)/\MeetAt (Bv t) a b c:=by
 unfold Rs;rw[if_pos hR]
 have hcon:∀ z:Nat,(Ep t b).contains z=true↔UpTo (Bv t) b z:=λz=>by
  rw[zzL63,hb.path.1]
  constructor
  ·grind
  ·grind
 rcases ha.path.2 (λx=>(Ep t _).contains x) with⟨e1,e2⟩|⟨f,e1,e2,e3,e4⟩
 ·have:=e2 r ha.upTo;rw[(hcon r).2 hb.upTo]at this
  cases this
 ·exact⟨f,by rw[e1];rfl,λw=>⟨λhw=>⟨e2.trans hw,((hcon f).1 e3).trans hw⟩,λ⟨hw1,hw2⟩=>e4 w hw1 ((hcon w).2 hw2)⟩⟩
theorem MeetAt.same{a b r k c d:Nat}(ha:Tp t a r k)(hc:MeetAt (Bv t) a b c)(hd:MeetAt (Bv t) a b d):c=d:=by
 obtain⟨j,_,hj,_⟩:=ha.on ((hc c).1 (.refl _)).1;exact(hj.anti ((hc d).2 ((hd d).1 (.refl _))) ((hd c).2 ((hc c).1 (.refl _)))).symm
end
theorem m_index(t:List Int)(v:Int)(ht:t.length<=1000):(∃ r:Nat,r<t.length/\t.getD r 0=v/\(∀ i,i<r->t.getD i 0≠v)/\Ej t v=some (r:Int))\/((∀ i,i<t.length->t.getD i 0≠v)/\Ej t v=some (-1)):=by
 have key:∀ k i:Nat,i+k=t.length->(∀ j,j<i->t.getD j 0≠v)->
   (∃ r:Nat,r<t.length/\t.getD r 0=v/\(∀ i,i<r->t.getD i 0≠v)/\Ad (Ci t v) (i:Int)=some (.inr (r:Int)))\/((∀ i,i<t.length->t.getD i 0≠v)/\Ad (Ci t v) (i:Int)=some (.inl ())):=by
  intro k
  induction k with
  | zero=>
   intro i hi hj
   obtain rfl:i=t.length:=by omega
   refine .inr ⟨hj,Ak ?_⟩;unfold Ci;rw[Dh];rfl
  | succ k ih=>
   intro i hi hj
   by_cases e:v=t.getD i 0
   ·refine .inl ⟨i,by omega,e.symm,hj,Ak ?_⟩;unfold Ci;have hb:((v:Int)==t.getD i 0)=true:=zzL46.2 e;simp only[B4 (show i<t.length by omega),Af,Ap,hb];rw[Ac (Fc (by omega))]
   ·have hs:Ci t v (i:Int)=some (.next ((i+1:Nat):Int)):=by
     unfold Ci;have hb:((v:Int)==t.getD i 0)=false:=zzL34.2 e;simp only[B4 (show i<t.length by omega),Af,Ap,hb,Ar];rw[Ac (Fc (by omega)),w1 (by omega)]
    rw[Aq hs]
    exact ih (i+1) (by omega) λj hj2=>by
     by_cases ej:j=i
     ·subst ej;exact λh=>e h.symm
     ·exact hj j (by omega)
 have h0:=key t.length 0 (by omega) (λj hj=>absurd hj (V1 _));unfold Ej;rcases h0 with⟨r,h1,h2,h3,h4⟩|⟨h1,h2⟩
 ·exact .inl ⟨r,h1,h2,h3,by rw[show((0:Int))=((0:Nat):Int) from rfl,h4];rfl⟩
 ·exact .inr ⟨h1,by rw[show((0:Int))=((0:Nat):Int) from rfl,h2];rfl⟩
section
variable {t:List Int}
structure EV(t:List Int)(r f:Nat)(w:List Int):Prop where
 len:w.length=t.length
 old:∀ y,y<t.length->w.getD y 0≠0->(w.getD y 0<=(f:Int))/\∃ k,Tp t y r k
structure nb(t:List Int)(r f x:Nat)(w:List Int):Prop where
 len:w.length=t.length
 hx:x<t.length
 old:∀ y,y<t.length->w.getD y 0≠0->w.getD y 0<=(f:Int)/\(∃ k,Tp t y r k)\/w.getD y 0=((f+1:Nat):Int)/\∀ r' k,Tp t x r' k->∃ j,k<j/\Tp t y r' j
 fwd:∀ r' k,Tp t x r' k->∃ j,k<=j/\Tp t f r' j
 back:∀ r' k,Tp t f r' k->∃ j,Tp t x r' j
def YR(w:List Int):Nat:=w.countP λz=>z==0
theorem mb{w:List Int}{x:Nat}{v:Int}(hx:x<w.length)(h0:w.getD x 0=0)(hv:v≠0):YR (w.set x v)<YR w:=by
 unfold YR;rw[List.countP_set hx];rw[An _ _ _ hx]at h0;have hp:0<w.countP λz=>z==0:=List.countP_pos_iff.2 ⟨w[x],LJ hx,by simp[h0]⟩;have hb :=zzL34.2 hv;simp only[h0,U9,L3,hb,JF,H3];omega
theorem leads_loop(ht:t.length<=1000){r:Nat}(hr:r<t.length)(htop:t.getD r 0 = -1){f:Nat}(hf:f<t.length):∀(m x:Nat) (w:List Int),YR w<=m->nb t r f x w->
  (∃ w',Ad (Dj t (f:Int) (r:Int)) ((x:Int),w)=some (.inl w')/\EV t r (f+1) w'/\∃ k,Tp t f r k) \/
  ∃ b w',Ad (Dj t (f:Int) (r:Int)) ((x:Int),w)=some (.inr (b,w'))/\w'.length=t.length/\(b=true->EV t r (f+1) w'/\∃ k,Tp t f r k)/\(b=false->∀ k,¬ Tp t f r k):=by
 intro m
 induction m with
 | zero=>
  intro x w hz hw;exact go 0 (λx w hz=>absurd hz (V1 _)) x w hz hw
 | succ m ih=>
  intro x w hz hw;exact go (m+1) (λx w hz=>ih x w (Nat.le_of_lt_succ hz)) x w hz hw
where
 go (m:Nat) (ih:∀(x:Nat) (w:List Int),YR w<m->nb t r f x w->
  (∃ w',Ad (Dj t (f:Int) (r:Int)) ((x:Int),w)=some (.inl w')/\EV t r (f+1) w'/\∃ k,Tp t f r k) \/
  ∃ b w',Ad (Dj t (f:Int) (r:Int)) ((x:Int),w)=some (.inr (b,w'))/\w'.length=t.length/\(b=true->EV t r (f+1) w'/\∃ k,Tp t f r k)/\(b=false->∀ k,¬ Tp t f r k)) (x:Nat) (w:List Int) (hz:YR w<=m) (hw:nb t r f x w) :
  (∃ w',Ad (Dj t (f:Int) (r:Int)) ((x:Int),w)=some (.inl w')/\EV t r (f+1) w'/\∃ k,Tp t f r k) \/
  ∃ b w',Ad (Dj t (f:Int) (r:Int)) ((x:Int),w)=some (.inr (b,w'))/\w'.length=t.length/\(b=true->EV t r (f+1) w'/\∃ k,Tp t f r k)/\(b=false->∀ k,¬ Tp t f r k):=by
  have hxl:=hw.hx
  have told:∀ k,Tp t x r k->EV t r (f+1) w/\∃ k,Tp t f r k:=λk hk=>by
   obtain⟨j,_,hj⟩:=hw.fwd _ _ hk;refine⟨⟨hw.len,λy hy hy0=>?_⟩,j,hj⟩;rcases hw.old y hy hy0 with⟨h1,h2⟩|⟨h1,h2⟩
   ·exact⟨by omega,h2⟩
   ·obtain⟨i,_,hi⟩:=h2 _ _ hk;exact⟨by omega,i,hi⟩
  by_cases hxr:x=r
  ·subst hxr;refine .inl ⟨w,Ak ?_,told 0 (.top hr htop)⟩;unfold Dj
   have hb:((x:Int)!=(x:Int))=false:=by simp
   simp only[hb,Ar]
  ·have hb:((x:Int)!=(r:Int))=true:=by rw[zzL85];omega
   have hin:As (x:Int) w.length:=Fc (by rw[hw.len];exact hxl)
   by_cases hw0:w.getD x 0=0
   ·have hb0:((w.getD x 0:Int)!=0)=false:=by rw[hw0];rfl
    by_cases hpl:0<=t.getD x 0/\t.getD x 0<(t.length:Int)
    ·have hwf:w64 ((f:Int)+1)=((f+1:Nat):Int):=w1 (by omega)
     have hs:Dj t (f:Int) (r:Int) ((x:Int),w)=some (.next (t.getD x 0,w.set x ((f+1:Nat):Int))):=by
      unfold Dj My;simp only[hb,Af,Ap,hb0,Ar];rw[Ac hin,Ac (Fc hxl),F6 hpl.1,F6 hpl.2,Af,Aj,Dt,Ar,Ac hin,Ac (Fc hxl),hwf]
     rw[Aq hs];obtain⟨y,hy⟩:∃ y:Nat,t.getD x 0=(y:Int):=⟨(t.getD x 0).toNat,(K9 hpl.1).symm⟩;rw[hy]at hpl ⊢
     have hyl:y<t.length:=by omega
     have hst:∀ r' k,Tp t y r' k->Tp t x r' (k+1):=λr' k hk=>.up hxl hy hk
     have hset:∀ z,z<t.length->(w.set x ((f+1:Nat):Int)).getD z 0=if z=x then((f+1:Nat):Int) else w.getD z 0:=λz _=>BF (by rw[hw.len];exact hxl)
     have hW:nb t r f y (w.set x ((f+1:Nat):Int)):=by
      refine⟨by simp[hw.len],hyl,λz hzl hz0=>?_,λr' k hk=>?_,λr' k hk=>?_⟩
      ·rw[hset z hzl]at hz0 ⊢
       by_cases e:z=x
       ·subst e;rw[if_pos rfl];exact .inr ⟨rfl,λr' k hk=>⟨k+1,by omega,hst r' k hk⟩⟩
       ·rw[if_neg e]at hz0 ⊢;rcases hw.old z hzl hz0 with h1|⟨h1,h2⟩
        ·exact .inl h1
        ·refine .inr ⟨h1,λr' k hk=>?_⟩;obtain⟨j,hj1,hj2⟩:=h2 _ _ (hst r' k hk);exact⟨j,by omega,hj2⟩
      ·obtain⟨j,hj1,hj2⟩:=hw.fwd _ _ (hst r' k hk);exact⟨j,by omega,hj2⟩
      ·obtain⟨j,hj⟩:=hw.back _ _ hk
       cases hj with
       | top _ h2=>omega
       | up _ h2 h3=>
        have:=hy.symm.trans h2
        cases LK this
        exact⟨_,h3⟩
     have hzz:=mb (x:=x) (v:=((f+1:Nat):Int)) (by rw[hw.len];exact hxl) hw0 (by omega);exact ih y _ (by omega) hW
    ·refine .inr ⟨false,w,Ak ?_,hw.len,⟨λh=>(by cases h),λ_ k hk=>?_⟩⟩
     ·unfold Dj My;simp only[hb,Af,Ap,hb0,Ar];rw[Ac hin,Ac (Fc hxl)]
      have:(bif decide ((0:Int)<=t.getD x 0) then decide (t.getD x 0<(t.length:Int)) else false)=false:=by
       cases h1:decide ((0:Int)<=t.getD x 0) with
       | false=>rfl
       | true=>rw[Af];exact Dl λh2=>hpl ⟨LH h1,h2⟩
      rw[this,Aj]
      rfl
     ·obtain⟨j,hj⟩:=hw.back _ _ hk
      cases hj with
      | top=>exact hxr rfl
      | up _ h2 h3=>have:=h3.lt;exact hpl ⟨by omega,by omega⟩
   ·have hb0:((w.getD x 0:Int)!=0)=true:=by rw[zzL85];exact hw0
    have hwf:w64 ((f:Int)+1)=((f+1:Nat):Int):=w1 (by omega);refine .inr ⟨w.getD x 0 !=((f+1:Nat):Int),w,Ak ?_,hw.len,⟨λh=>?_,λh k hk=>?_⟩⟩
    ·unfold Dj;simp only[hb,Af,Ap,hb0];rw[Ac hin,Ac hin,hwf]
    ·rcases hw.old x hxl hw0 with⟨_,k,hk⟩|⟨h1,_⟩
     ·exact told k hk
     ·rw[h1]at h;simp at h
    ·have he:w.getD x 0=((f+1:Nat):Int):=by simpa using h
     obtain⟨j,hj⟩:=hw.back _ _ hk;rcases hw.old x hxl hw0 with⟨h1,_⟩|⟨_,h2⟩
     ·omega
     ·obtain⟨i,hi1,hi2⟩:=h2 _ _ hj;have:=hj.det hi2;omega
end
section
variable {t:List Int}
theorem t8(ht:t.length<=1000){r:Nat}(hr:r<t.length)(htop:t.getD r 0 = -1){f:Nat}(hf:f<t.length){w:List Int}(hw:EV t r f w) :
  ∃ b w',Vs t w (f:Int) (r:Int)=some (b,w')/\w'.length=t.length/\(b=true->EV t r (f+1) w'/\∃ k,Tp t f r k)/\(b=false->∀ k,¬ Tp t f r k):=by
 unfold Vs;have hW:nb t r f f w:=⟨hw.len,hf,λy hy h0=>.inl (hw.old y hy h0),λr' k hk=>⟨k,zzL8 _,hk⟩,λr' k hk=>⟨k,hk⟩⟩;rcases leads_loop ht hr htop hf _ f w (zzL8 _) hW with⟨w',e1,e2⟩|⟨b,w',e1,e2,e3,e4⟩
 ·exact⟨true,w',by rw[e1];rfl,e2.1.len,λ_=>e2,λh=>by cases h⟩
 ·grind
def WM(t:List Int)(r:Nat):Prop:=∀ f,f<t.length->t.getD f 0≠-2->∃ k,Tp t f r k
open Classical in
theorem dF(ht:t.length<=1000){r:Nat}(hr:r<t.length)(htop:t.getD r 0 = -1):∀(k f:Nat) (w:List Int),f+k=t.length->EV t r f w->(∀ y,y<f->t.getD y 0≠-2->∃ k,Tp t y r k)->
  Ad (Gv t (r:Int)) ((f:Int),w)=some (if WM t r then .inl () else .inr false):=by
 intro k
 induction k with
 | zero=>
  intro f w hk hw hd
  obtain rfl:f=t.length:=by omega
  apply Ak
  unfold Gv;simp only[Dh,Ar];rw[if_pos (show WM t r from hd)]
 | succ k ih=>
  intro f w hk hw hd
  have hf:f<t.length:=by omega
  by_cases h2:t.getD f 0 = -2
  ·have hb:((t.getD f 0:Int)!=(-2))=false:=by rw[h2];rfl
   have hs:Gv t (r:Int) ((f:Int),w)=some (.next (((f+1:Nat):Int),w)):=by
    unfold Gv;simp only[B4 hf,Af,Ap,hb,show(false==true)=false from rfl,Ar,Aj];rw[Ac (Fc hf),Ac (λh=>by cases h),w1 (by omega)]
   rw[Aq hs];refine ih (f+1) w (by omega) ⟨hw.len,λy hy h0=>?_⟩ λy hy hy2=>?_
   ·obtain⟨e1,e2⟩:=hw.old y hy h0;exact⟨by omega,e2⟩
   ·by_cases e:y=f
    ·subst e;exact absurd h2 hy2
    ·exact hd y (by omega) hy2
  ·have hb:((t.getD f 0:Int)!=(-2))=true:=by rw[zzL85];exact h2
   obtain⟨b,w',e1,e2,e3,e4⟩:=t8 ht hr htop hf hw
   cases b with
   | false=>
    rw[if_neg (λhA:WM t r=>by obtain⟨k,hk⟩:=hA f hf h2;exact e4 rfl k hk)]
    apply Ak
    unfold Gv;simp only[B4 hf,Af,Ap,hb,show(true==true)=true from rfl,e1,Aj];rw[Ac (Fc hf),Ac (λ_=>by rw[hw.len,e2])]
    rfl
   | true=>
    have hs:Gv t (r:Int) ((f:Int),w)=some (.next (((f+1:Nat):Int),w')):=by
     unfold Gv;simp only[B4 hf,Af,Ap,hb,show(true==true)=true from rfl,e1,Aj];rw[Ac (Fc hf),Ac (λ_=>by rw[hw.len,e2]),w1 (by omega)]
     rfl
    rw[Aq hs];obtain⟨e5,e6⟩:=e3 rfl;refine ih (f+1) w' (by omega) e5 λy hy hy2=>?_
    by_cases e:y=f
    ·subst e;exact e6
    ·exact hd y (by omega) hy2
theorem qS:topsK t t.length=1↔∃ r,r<t.length/\t.getD r 0 = -1/\∀ x,x<t.length->t.getD x 0 = -1->x=r:=by
 have key:∀ n,(topsK t n=0↔∀ x,x<n->t.getD x 0≠-1)/\(topsK t n=1↔∃ r,r<n/\t.getD r 0 = -1/\∀ x,x<n->t.getD x 0 = -1->x=r):=by
  intro n
  induction n with
  | zero=>exact⟨⟨λ_ x hx=>absurd hx (V1 _),λ_=>rfl⟩,⟨λh=>by simp[topsK]at h,λ⟨r,h,_⟩=>absurd h (V1 _)⟩⟩
  | succ n ih=>
   rw[GT]
   by_cases e:t.getD n 0 = -1
   ·rw[if_pos e];refine⟨⟨λh=>by omega,λh=>absurd e (h n (by omega))⟩,⟨λh=>⟨n,by omega,e,λx hx hx1=>?_⟩,λ⟨r,h1,h2,h3⟩=>?_⟩⟩
    ·by_cases ex:x=n
     ·exact ex
     ·grind
    ·have:=ih.1.2 λx hx hx1=>by
      grind
     omega
   ·grind
 exact(key _).2
theorem rightD_iff:M4 t=true↔∃ r,r<t.length/\t.getD r 0 = -1/\WM t r:=by
 unfold M4;rw[A1,all_range,Dq,qS]
 constructor
 ·rintro⟨h1,r,h2,h3,h4⟩;refine⟨r,h2,h3,λf hf hf2=>?_⟩;have:=h1 f hf;unfold pc at this;rw[JI,Dq,Rm,TC]at this;rcases this with h|h
  ·exact absurd h hf2
  ·obtain⟨x,r',k,e,hk⟩:=pathD_tp.1 h
   cases LK e
   have:=h4 _ hk.tops.1 hk.tops.2;subst this;exact⟨k,hk⟩
 ·rintro⟨r,h2,h3,h4⟩;refine⟨λf hf=>?_,r,h2,h3,λx hx hx1=>?_⟩
  ·unfold pc;rw[JI,Dq,Rm,TC]
   by_cases e:t.getD f 0 = -2
   ·exact .inl e
   ·obtain⟨k,hk⟩:=h4 f hf e;exact .inr (pathD_tp.2 ⟨f,r,k,rfl,hk⟩)
  ·obtain⟨k,hk⟩:=h4 x hx (by omega);exact((hk.det (.top hx hx1)).1).symm
theorem YF(hR:M4 t=true):∃ r,WM t r:=by obtain⟨r,_,_,h⟩:=rightD_iff.1 hR;exact⟨r,h⟩
theorem pI(ht:t.length<=1000):Tv t=some (M4 t):=by
 unfold Tv
 have hroom:1000<=room:=by decide
 rcases m_index t _ ht with⟨r,h1,h2,h3,h4⟩|⟨h1,h2⟩
 ·rw[h4,Aj,Dl (by omega),Ar,Ac ⟨by omega,by omega,by omega⟩,Ap];have hl:=dF ht h1 h2 t.length 0 (List.replicate t.length 0) (by omega) ⟨by simp,λy hy h0=>absurd IZ h0⟩ (λy hy=>absurd hy (V1 _));rw[show(((0:Nat):Int))=0 from rfl]at hl;rw[hl,Aj]
  by_cases hA:WM t r
  ·rw[if_pos hA,rightD_iff.2 ⟨r,h1,h2,hA⟩]
  ·rw[if_neg hA]
   have :=Bool.eq_false_iff.2 λhR=>by
    obtain⟨r',g1,g2,g3⟩:=rightD_iff.1 hR;obtain⟨k,hk⟩:=g3 r h1 (by omega);have:=(hk.det (.top h1 h2)).1;subst this;exact hA g3
   rw[this]
 ·rw[h2]
  have :=Bool.eq_false_iff.2 λhR=>by
   obtain⟨r',g1,g2,g3⟩:=rightD_iff.1 hR;exact h1 r' g1 g2
  rw[this]
  rfl
def GH(t:List Int)(a:Int):Bool:=decide (0<=a)&&decide (a<(t.length:Int))&&decide (t.getD a.toNat 0≠-2)
theorem QJ(hR:M4 t=true){a:Int}:GH t a=true↔∃ x k r:Nat,a=(x:Int)/\Tp t x r k:=by
 unfold GH;rw[A1,A1,Dq,Dq,Dq]
 constructor
 ·rintro⟨⟨h1,h2⟩,h3⟩;obtain⟨r,hA⟩:=YF hR;obtain⟨k,hk⟩:=hA _ (by omega) h3;exact⟨a.toNat,k,r,(K9 h1).symm,hk⟩
 ·rintro⟨x,k,r,rfl,h⟩;rw[Ap]
  cases h with
  | top _ h2=>omega
  | up _ h2 _=>omega
theorem gZ(a:Int):Nt t a=some (GH t a):=by
 unfold Nt My GH;rw[Aj]
 cases h1:decide (0<=a) with
 | false=>rfl
 | true=>
  rw[Af,Jj]
  cases h2:decide (a<t.length) with
  | false=>rfl
  | true=>
   rw[Ac (λ_=>⟨LH h1,LH h2⟩),Af,Jj]
   congr 1
   rw[Zd,zzL85,Dq]
theorem t7(ht:t.length<=1000)(a b:Int):Vr t a b=some (M4 t&&GH t a&&GH t b):=by
 unfold Vr;rw[pI ht]
 cases M4 t with
 | false=>rfl
 | true=>
  simp only[  gZ, Jj]
  cases GH t a with
  | false=>rfl
  | true=>grind
theorem lr{a b:Int}(h:(M4 t&&GH t a&&GH t b)=false):Rs t a b = -2:=by
 unfold Rs
 by_cases hR:M4 t=true
 ·rw[if_pos hR];rw[hR]at h
  have hno:∀ c,GH t c=false->Ep t c=[]:=λc hc=>by
   by_cases e:Ep t c=[]
   ·exact e
   ·obtain⟨x,r,k,e1,e2⟩:=pathD_tp.1 e;rw[(QJ hR).2 ⟨x,k,r,e1,e2⟩]at hc;cases hc
  cases ha:GH t a with
  | false=>rw[hno a ha];rfl
  | true=>
   rw[ha]at h;rw[hno b h]
   have:((Ep t a).find? λx=>[].contains x)=none:=List.find?_eq_none.2 λx _=>by simp
   rw[this]
   rfl
 ·rw[if_neg hR]
theorem VR(ht:t.length<=1000){a b:Int}(h:(M4 t&&GH t a&&GH t b)=true):R9 t a b=some (Rs t a b)/\0<=Rs t a b:=by
 rw[A1,A1]at h;obtain⟨⟨hR,ha⟩,hb⟩:=h;obtain⟨x,k,r,rfl,hx⟩:=(QJ hR).1 ha;obtain⟨y,m,r',rfl,hy⟩:=(QJ hR).1 hb;obtain⟨rr,hA⟩:=YF hR
 have top:∀{x r k},Tp t x r k->r=rr:=λ{x r k} h=>by
  obtain⟨i,hi⟩:=hA r h.tops.1 (by rw[h.tops.2];omega);exact((Tp.top h.tops.1 h.tops.2).det hi).1
 obtain rfl:=top hx;obtain rfl:=top hy;obtain⟨c,h1,h2⟩:=MO ht hx hy;obtain⟨d,h3,h4⟩:=pQ hR hx hy;have:=h2.same hx h4;subst this;exact⟨by rw[h1,h3],by omega⟩
theorem xH(ht:t.length<=1000)(a b:Int):X3 t a b=some (MW t a b):=by
 unfold X3 MW;rw[t7 ht]
 cases h:(M4 t&&GH t a&&GH t b) with
 | false=>
  rw[lr h]
  have:(-2==a&&(-2 !=-2))=false:=by simp
  rw[this]
  rfl
 | true=>
  obtain⟨h1,h2⟩:=VR ht h;simp only[show(true==true)=true from rfl,Af,h1,Aj]
  have:(Rs t a b !=-2)=true:=by rw[zzL85];omega
  rw[this,TB]
end
theorem uN:∀ n:Fin 65,R7 (Fj 1) (Fj ((n.val:Nat):Int))=some (0,((n.val:Nat):Int)):=by decide +kernel
theorem lw{n:Nat}(h:n<=64):R7 (Fj 1) (Fj (n:Int))=some (0,(n:Int)):=uN ⟨n,by omega⟩
theorem eF{v:Int}{n:Nat}(hn:n<=64):∀(m i:Nat) (l:List Int),n-i<=m->1<=i->i<=n->l.length=n->(∀ j,j<i->l.getD j 0=v)->Ad C7 ((i:Int),l)=some (List.replicate n v):=by
 intro m
 induction m with
 | zero=>
  intro i l hm h1 h2 hl hv
  obtain rfl:i=n:=by omega
  exact fin l hl hv
 | succ m ih=>
  intro i l hm h1 h2 hl hv
  by_cases e:i=n
  ·grind
  ·have hs:C7 ((i:Int),l)=some (.next (((i+Nat.min i (n-i):Nat):Int),fy l i (Nat.min i (n-i)) (λj=>l.getD (0+j) 0))):=by
    unfold C7;simp only[hl,B4 (show i<n by omega),Af,Ap,Hp,LL];have hc:(0:Int)<=(i:Int)/\i<=n:=⟨by omega,h2⟩;have hmn:Nat.min i (n-i)<=i:=Nat.min_le_left _ _;rw[Ac hc,Ac hc,Em (by omega) (by omega),Int.natCast_add]
   rw[Aq hs];have hmn:Nat.min i (n-i)<=i/\Nat.min i (n-i)<=n-i:=⟨Nat.min_le_left _ _,Nat.min_le_right _ _⟩;have hge:1<=Nat.min i (n-i):=Nat.le_min.2 ⟨h1,by omega⟩;refine ih _ _ (by omega) (by omega) (by omega) (by rw[<- Jq];exact hl) λj hj=>?_;rw[PW _ _ _ _ _ _ (by omega)]
   by_cases hji:i<=j/\j<i+Nat.min i (n-i)
   ·grind
   ·grind
where
 fin {v:Int} {i:Nat} (l:List Int) (hl:l.length=i) (hv:∀ j,j<i->l.getD j 0=v):Ad C7 ((i:Int),l)=some (List.replicate i v):=by
  apply Ak
  unfold C7;simp only[hl,Dh,Ar]
  congr 2
  refine NL (by simp[hl]) λj h1 h2=>?_;rw[<- An _ _ 0 h1,hv j (by omega)]
  simp
theorem pL{v:Int}{n:Nat}(h1:1<=n)(hn:n<=64):Ir [v] (n:Int)=some (List.replicate n v):=by
 have hroom:64<=room:=by decide
 unfold Ir;rw[Dl (by omega),Ar,Aj]
 show Option.bind (R7 (Fj 1) _) _=_
 rw[lw hn,Aj];have e1:decide (0<0)=false:=rfl;have e2:decide (9223372036854775807<(n:Int))=false:=Dl (by omega);simp only[ e2,Ar];have ew:w64 n=n:=Em (by omega) (by omega);rw[ew,Ac ⟨by omega,by omega,by omega⟩,Ap,S2,LL];have em:Nat.min [v].length n=1:=Nat.min_eq_left h1;rw[em,eF hn n 1 _ (by omega) (zzL8 _) h1 (by rw[<- Jq];simp) (λj hj=>?_)]
 ·rfl
 ·rw[PW _ _ _ _ _ _ (by simp;omega),if_pos ⟨by omega,by omega⟩]
  have:j-0=0:=by omega
  rw[this];rfl
section
variable {S:Nat->List Nat} {r n:Nat} {P:List Nat}
theorem Inv.tp{at_:Nat->Nat}{t:List Int}(h:Inv S r n at_ (Bv t))(hl:t.length=n):∀ m x,at_ x<=m->x<n->Bv t x≠-2->∃ k,Tp t x r k:=by
 intro m
 induction m with
 | zero=>
  intro x hm hx hp;rcases h.kind x hx with h1|h1|⟨z,hz⟩
  ·exact absurd h1 hp
  ·subst h1;exact⟨0,.top (by omega) h.top⟩
  ·obtain⟨_,_,h3,_⟩:=h.up x hx z hz;omega
 | succ m ih=>
  intro x hm hx hp;rcases h.kind x hx with h1|h1|⟨z,hz⟩
  ·exact absurd h1 hp
  ·subst h1;exact⟨0,.top (by omega) h.top⟩
  ·obtain⟨z1,z2,z3,_⟩:=h.up x hx z hz;obtain⟨k,hk⟩:=ih z (by omega) z1 z2;exact⟨k+1,.up (by omega) hz hk⟩
def HG(t l:List Int)(i:Nat)(v:Int):Prop:=
 (v = -2/\∀ j,j<i->Bv t (l.getD j 0).toNat = -2) \/
 ∃ z:Nat,v=(z:Int)/\z<t.length/\Bv t z≠-2/\(∀ w,UpTo (Bv t) z w↔∀ j,j<i->Bv t (l.getD j 0).toNat≠-2->UpTo (Bv t) (l.getD j 0).toNat w)
theorem ao{at_:Nat->Nat}{t l:List Int}(ht:t.length<=64)(hll:l.length<=64)(h:Inv S r n at_ (Bv t))(hl:t.length=n)(hin:∀ x∈l,0<=x/\x<(n:Int)):∀(k i:Nat) (v:Int),i+k=l.length->HG t l i v->
  ∃ v',Ad (Fp t l) (v,(i:Int))=some v'/\HG t l l.length v':=by
 intro k
 induction k with
 | zero=>
  intro i v hi hv
  obtain rfl:i=l.length:=by omega
  refine⟨v,Ak ?_,hv⟩;unfold Fp;simp only[Dh,Ar]
 | succ k ih=>
  intro i v hi hv
  have hil:i<l.length:=by omega
  obtain⟨x0,x1⟩:=hin _ (Ai (d:=0) hil);have hxe:(((l.getD i 0).toNat:Nat):Int)=l.getD i 0:=K9 x0;have hxin:As (l.getD i 0) t.length:=zi x0 (by omega)
  have next:∀ v',Fp t l (v,(i:Int))=some (.next (v',((i+1:Nat):Int)))->HG t l (i+1) v'->∃ v',Ad (Fp t l) (v,(i:Int))=some v'/\HG t l l.length v':=λv' hs hv'=>by
   rw[Aq hs];exact ih (i+1) v' (by omega) hv'
  by_cases hp:Bv t (l.getD i 0).toNat = -2
  ·have hb:((t.getD (l.getD i 0).toNat 0:Int)==-2)=true:=zzL46.2 hp;refine next v ?_ ?_
   ·unfold Fp;simp only[B4 hil,Af,Ap,hb];rw[Ac (Fc hil),Ac hxin,Aj,w1 (by omega)]
   ·have hstep:∀ w,(∀ j,j<i->Bv t (l.getD j 0).toNat≠-2->UpTo (Bv t) (l.getD j 0).toNat w)↔∀ j,j<i+1->Bv t (l.getD j 0).toNat≠-2->UpTo (Bv t) (l.getD j 0).toNat w:=λw=>by
     refine⟨λhj j hj1 hj2=>?_,λhj j hj1=>hj j (by omega)⟩
     by_cases e:j=i
     ·subst e;exact absurd hp hj2
     ·exact hj j (by omega) hj2
    rcases hv with⟨h1,h2⟩|⟨z,h1,h2,h3,h4⟩
    ·refine .inl ⟨h1,λj hj=>?_⟩
     by_cases e:j=i
     ·subst e;exact hp
     ·exact h2 j (by omega)
    ·exact .inr ⟨z,h1,h2,h3,λw=>by rw[h4 w,hstep w]⟩
  ·have hb:((t.getD (l.getD i 0).toNat 0:Int)==-2)=false:=zzL34.2 hp;rcases hv with⟨h1,h2⟩|⟨z,h1,h2,h3,h4⟩
   ·subst h1;refine next (l.getD i 0) ?_ (.inr ⟨(l.getD i 0).toNat,hxe.symm,by omega,hp,λw=>⟨λhw j hj hj2=>?_,λhw=>hw i (by omega) hp⟩⟩)
    ·unfold Fp;simp only[B4 hil,Af,Ap,hb,Ar,show((-2:Int)==-2)=true from rfl];rw[Ac (Fc hil),Ac hxin,Aj,w1 (by omega)]
    ·by_cases e:j=i
     ·subst e;exact hw
     ·exact absurd (h2 j (by omega)) hj2
   ·subst h1;have hb2:((z:Int)==-2)=false:=zzL34.2 (by omega);obtain⟨k1,hk1⟩:=h.tp hl _ z (zzL8 _) (by omega) h3;obtain⟨k2,hk2⟩:=h.tp hl _ (l.getD i 0).toNat (zzL8 _) (by omega) hp;obtain⟨c,c1,c2⟩:=MO (by omega) hk1 hk2;have hcz:=(c2 c).1 (.refl _);obtain⟨jc,_,hjc,_⟩:=hk1.on hcz.1
    have hcp:Bv t c≠-2:=by
     show t.getD c 0≠-2
     cases hjc with
     | top _ h=>omega
     | up _ h _=>omega
    refine next (c:Int) ?_ (.inr ⟨c,rfl,hjc.lt,hcp,λw=>?_⟩)
    ·rw[hxe]at c1;unfold Fp;simp only[B4 hil,Af,Ap,hb,Ar,hb2,c1,Aj];rw[Ac (Fc hil),Ac hxin,Aj,w1 (by omega)]
    ·rw[c2 w,h4 w];refine⟨λ⟨a1,a2⟩ j hj hj2=>?_,λha=>⟨λj hj=>ha j (by omega),ha i (by omega) hp⟩⟩
     by_cases e:j=i
     ·subst e;exact a2
     ·exact a1 j (by omega) hj2
theorem li{at_:Nat->Nat}{t l:List Int}(ht:t.length<=64)(hll:l.length<=64)(h:Inv S r n at_ (Bv t))(hl:t.length=n)(hin:∀ x∈l,0<=x/\x<(n:Int)) :
  ∃ v,Mz t l=some v/\HG t l l.length v:=by
 obtain⟨v,h1,h2⟩:=ao ht hll h hl hin l.length 0 _ (by omega) (.inl ⟨rfl,λj hj=>absurd hj (V1 _)⟩);refine⟨v,?_,h2⟩;unfold Mz;rw[show((0:Int))=(0:Nat) from rfl,h1]
 rfl
end
section
variable {L:List (List Int)} (hm:Ny L=true) {r:Nat} {P:List Nat}
include hm
theorem qL{p y:Nat}(hp:p<L.length):y∈sN L p↔Y3 L p y=true:=by
 rw[oz];obtain⟨_,_,h3⟩:=mayS_iff.1 hm
 constructor
 ·intro h;obtain⟨x,hx,rfl⟩:=zzL21.1 h;have:=aq (h3 p hp) hx;rw[K9 this.1];exact hx
 ·intro h;exact zzL21.2 ⟨_,h,Ap y⟩
theorem CE{y:Nat}(hy:y<L.length){x:Int}:x∈(Cc L).getD y []↔∃ p:Nat,x=(p:Int)/\p<L.length/\y∈sN L p:=by
 rw[EB hy];unfold Kf;rw[QZ]
 constructor
 ·rintro⟨k,h1,h2,h3⟩;exact⟨k,h1,h2,(qL hm h2).2 h3⟩
 ·rintro⟨k,h1,h2,h3⟩;exact⟨k,h1,h2,(qL hm h2).1 h3⟩
theorem an(o:Ordered (sN L) r L.length P){t:List Int}{i:Nat}(h:Ready (sN L) r L.length P t i)(hi:i<P.length) :
  Mz t ((Cc L).getD (P.getD i 0) [])=some (Pp (sN L) L.length t (P.getD i 0):Int):=by
 obtain⟨hL1,hL64,_⟩:=mayS_iff.1 hm;have hyn:P.getD i 0<L.length:=o.lt (Lj _ (Wz hi))
 have hlen:((Cc L).getD (P.getD i 0) []).length<=64:=by
  rw[EB hyn];have:=Yl L L.length (P.getD i 0);omega
 obtain⟨v,h1,h2⟩:=li (by rw[h.len];exact hL64) hlen h.inv h.len λx hx=>by
  obtain⟨p,rfl,hp,_⟩:=(CE hm hyn).1 hx;omega
 rw[h1];have hb:=h.best o hi
 have mem:∀ p,p<L.length->P.getD i 0∈sN L p->∃ j,j<((Cc L).getD (P.getD i 0) []).length/\(((Cc L).getD (P.getD i 0) []).getD j 0).toNat=p:=λp hp hy=>by
  obtain⟨j,hj,e⟩:=N6 ((CE hm hyn).2 ⟨p,rfl,hp,hy⟩);exact⟨j,hj,by rw[An _ _ _ hj,e,Ap]⟩
 have mem':∀ j,j<((Cc L).getD (P.getD i 0) []).length->(((Cc L).getD (P.getD i 0) []).getD j 0).toNat<L.length/\P.getD i 0∈sN L (((Cc L).getD (P.getD i 0) []).getD j 0).toNat:=λj hj=>by
  obtain⟨p,e,hp,hy⟩:=(CE hm hyn).1 (Ai (d:=(0:Int)) hj);rw[e,Ap];exact⟨hp,hy⟩
 rcases h2 with⟨rfl,h3⟩|⟨z,rfl,hz,hz2,h4⟩
 ·obtain⟨p,hp,hyp,hp2,_⟩:=hb.fwd;obtain⟨j,hj,e⟩:=mem p hp hyp;exact absurd (by rw[<- e];exact h3 j hj) hp2
 ·have hbest:e9 (sN L) L.length (Bv t) (P.getD i 0) z:=λw=>by
   rw[h4 w];refine⟨λha p hp hyp hp2=>?_,λha j hj hj2=>?_⟩
   ·obtain⟨j,hj,e⟩:=mem p hp hyp;have:=ha j hj (by rw[e];exact hp2);rwa[e]at this
   ·grind
  rw[h.best_eq o hi (by rw[<- h.len];exact hz) hz2 hbest]
end
theorem da{P:List Nat}{i:Nat}(h:i<P.length):(Wq P).getD i 0=((P.getD i 0:Nat):Int):=by
 unfold Wq;rw[An _ _ _ (by simpa using h),An _ _ _ h,List.getElem_map]
 rfl
theorem eJ{t:List Int}{x:Nat}{v:Int}(hx:x<t.length)(h:t.getD x 0=v):t.set x v=t:=by
 subst h;rw[An _ _ _ hx];exact List.set_getElem_self hx
section
variable {L:List (List Int)} (hm:Ny L=true) {r:Nat} {P:List Nat} (o:Ordered (sN L) r L.length P)
include hm o
theorem iA{t0:List Int}(h:Ready (sN L) r L.length P t0 0):∀(k i:Nat) (b:Bool),i+k=P.length->
  ∃ b',Ad (E2 (J9 L) (Wq (r::P))) (b,(i:Int),AH (sN L) L.length P t0 i)=some (b',AH (sN L) L.length P t0 P.length) /\
   (b'=false↔b=false/\∀ j,i<=j->j<P.length->Bv (AH (sN L) L.length P t0 j) (P.getD j 0)=(Pp (sN L) L.length (AH (sN L) L.length P t0 j) (P.getD j 0):Int)):=by
 have hP64:P.length<=64:=by
  have h1:=Ua L.length (r::P) o.nodup λx hx=>o.lt hx;have h2:=(mayS_iff.1 hm).2.1;simp at h1;omega
 have hdl:(Wq (r::P)).drop (1:Int).toNat=Wq P:=rfl
 have hlen:(Wq P).length=P.length:=by simp[Wq]
 intro k
 induction k with
 | zero=>
  intro i b hi
  obtain rfl:i=P.length:=by omega
  refine⟨b,Ak ?_,λh=>⟨h,λj h1 h2=>by omega⟩,λh=>h.1⟩;unfold E2;simp only[hdl,hlen,Dh,Ar]
 | succ k ih=>
  intro i b hi
  have hil:i<P.length:=by omega
  have rd:=h.round o i (by omega);have hma:=an hm o rd hil;have hyn:P.getD i 0<L.length:=o.lt (Lj _ (Wz hil))
  have hyt:P.getD i 0<(AH (sN L) L.length P t0 i).length:=by rw[rd.len];exact hyn
  have hpred:(J9 L).Pred=Cc L:=rfl
  by_cases he:Bv (AH (sN L) L.length P t0 i) (P.getD i 0)=(Pp (sN L) L.length (AH (sN L) L.length P t0 i) (P.getD i 0):Int)
  ·have hb:((Pp (sN L) L.length (AH (sN L) L.length P t0 i) (P.getD i 0):Int)!=(AH (sN L) L.length P t0 i).getD (P.getD i 0) 0)=false:=by
    have:(AH (sN L) L.length P t0 i).getD (P.getD i 0) 0=_:=he;rw[this];simp
   have hnx:AH (sN L) L.length P t0 (i+1)=AH (sN L) L.length P t0 i:=eJ hyt he
   have hs:E2 (J9 L) (Wq (r::P)) (b,(i:Int),AH (sN L) L.length P t0 i)=some (.next (b,((i+1:Nat):Int),AH (sN L) L.length P t0 (i+1))):=by
    unfold E2;simp only[hdl,hlen,B4 hil,Af,Ap,da hil,hpred,hma,Aj,hb,Ar];rw[Ac (Fc hil),Ac (Fc (by rw[Pv];exact hyn)),Ac (Fc hyt),Aj,w1 (by omega),hnx]
   obtain⟨b',e1,e2⟩:=ih (i+1) b (by omega);refine⟨b',by rw[Aq hs,e1],λh=>?_,λ⟨h1,h2⟩=>e2.2 ⟨h1,λj hj=>h2 j (by omega)⟩⟩;obtain⟨h1,h2⟩:=e2.1 h;refine⟨h1,λj hj1 hj2=>?_⟩
   by_cases e:j=i
   ·subst e;exact he
   ·exact h2 j (by omega) hj2
  ·have hb:((Pp (sN L) L.length (AH (sN L) L.length P t0 i) (P.getD i 0):Int)!=(AH (sN L) L.length P t0 i).getD (P.getD i 0) 0)=true:=by
    rw[zzL85];exact λe=>he e.symm
   have hs:E2 (J9 L) (Wq (r::P)) (b,(i:Int),AH (sN L) L.length P t0 i)=some (.next (true,((i+1:Nat):Int),AH (sN L) L.length P t0 (i+1))):=by
    unfold E2;simp only[hdl,hlen,B4 hil,Af,Ap,da hil,hpred,hma,Aj,hb];rw[Ac (Fc hil),Ac (Fc (by rw[Pv];exact hyn)),Ac (Fc hyt),Ac (Fc hyt),Aj,w1 (by omega)]
    rfl
   obtain⟨b',e1,e2⟩:=ih (i+1) true (by omega);refine⟨b',by rw[Aq hs,e1],λh=>?_,λ⟨h1,h2⟩=>absurd (h2 i (zzL8 _) hil) he⟩;obtain⟨h1,_⟩:=e2.1 h;cases h1
theorem mN{t0:List Int}(h:Ready (sN L) r L.length P t0 0):∃ b,Ad (E2 (J9 L) (Wq (r::P))) (false,(0:Int),t0)=some (b,AH (sN L) L.length P t0 P.length)/\(b=false↔AS (sN L) L.length P t0):=by
 obtain⟨b,e1,e2⟩:=iA hm o h P.length 0 _ (by omega);refine⟨b,e1,e2.trans ⟨λ⟨_,h2⟩=>?_,λhs=>⟨rfl,λj _ hj=>?_⟩⟩⟩
 ·have key:∀ j,j<=P.length->AH (sN L) L.length P t0 j=t0:=by
   intro j
   induction j with
   | zero=>intro _;rfl
   | succ j ih=>
    intro hj;have ih':=ih (by omega);have rd:=h.round o j (by omega)
    have hyn:P.getD j 0<(AH (sN L) L.length P t0 j).length:=by rw[rd.len];exact o.lt (Lj _ (Wz (by omega)))
    have:AH _ _ P t0 (j+1)=AH _ _ P t0 j:=eJ hyn (h2 j (Xj _) (by omega));rw[this,ih']
  intro i hi;have:=h2 i (Xj _) hi;rwa[key i (by omega)]at this
 ·rw[CM o h.len hs j (by omega)];exact hs j hj
open Classical in
theorem kI(j:Nat):Hs (J9 L) (Wq (r::P),UV (sN L) L.length P (Ji L.length r) j)=some (if AS (sN L) L.length P (UV (sN L) L.length P (Ji L.length r) j) then .done (UV (sN L) L.length P (Ji L.length r) (j+1)) else .next (Wq (r::P),UV (sN L) L.length P (Ji L.length r) (j+1))):=by
 obtain⟨b,e1,e2⟩:=mN hm o (Ready.rounds o j);have hL2:V9 (J9 L) (Wq (r::P))=E2 (J9 L) (Wq (r::P)):=rfl
 have hlen:(0:Int)<=1/\(1:Int)<=((Wq (r::P)).length:Int):=by simp[Wq];omega
 unfold Hs;simp only[hL2,e1,Aj];rw[Ac hlen]
 cases b with
 | false=>rw[if_pos (e2.1 rfl)];rfl
 | true=>rw[if_neg (λh=>by have:=e2.2 h;cases this)];rfl
theorem eR:∃ J,AS (sN L) L.length P (UV (sN L) L.length P (Ji L.length r) J)/\Ad (Hs (J9 L)) (Wq (r::P),Ji L.length r)=some (UV (sN L) L.length P (Ji L.length r) J):=by
 obtain⟨J,h1,h2⟩:=vh o;refine⟨J,h2,?_⟩
 have key:∀ d j,j+d=J->Ad (Hs (J9 L)) (Wq (r::P),UV (sN L) L.length P (Ji L.length r) j)=some (UV (sN L) L.length P (Ji L.length r) J):=by
  intro d
  induction d with
  | zero=>
   intro j hj
   obtain rfl:j=J:=by omega
   have hF:=kI hm o j;rw[if_pos h2]at hF;rw[Ak hF];have:UV _ _ P _ (j+1)=UV _ _ P _ j:=CM o (Ready.rounds o j).len h2 _ (zzL8 _);rw[this]
  | succ d ih=>
   intro j hj;have hF:=kI hm o j;rw[if_neg (h1 j (by omega))]at hF;rw[Aq hF];exact ih _ (by omega)
 exact key J 0 (by omega)
end
theorem xI(g:TGraph)(r:Int)(h1:Fits g.Succ)(h2:Fits g.Pred):Ui g r=some (SQ g r):=by
 unfold SQ
 by_cases hc:EP g=true/\0<=r/\r<g.Succ.length
 ·rw[if_pos hc];obtain⟨hG,h0,hlt⟩:=hc;obtain⟨hm,hg⟩:=jn hG;obtain⟨hL1,hL64,_⟩:=mayS_iff.1 hm
  have hr:r.toNat<g.Succ.length:=by omega
  obtain⟨O,hO⟩:=Ord.exist (Zb hm) hr;have hord:=(ak g h1 trivial r).1 hG h0 hlt O hO;obtain⟨P,rfl,o⟩:=hO.ordered hr (Zb hm);obtain⟨J,hJ,hl⟩:=eR hm o;have ht:=(ND o hJ).eq hm hr o;rw[ht]at hl;have hlen:(((Wq (r.toNat::P)).length:Int)==0)=false:=zzL34.2 (by simp[Wq];omega)
  have hlen2:(0:Int)<=1/\(1:Int)<=(Wq (r.toNat::P)).length:=by simp[Wq];omega
  have hL2:V9 g _=E2 g (Wq (r.toNat::P)):=rfl
  have hst:(Tc (Hs g (Wq (r.toNat::P),Ji g.Succ.length r.toNat)) (Hs g))=some (CN g.Succ r.toNat):=by
   rw[NB,hg];exact hl
  unfold Ui;rw[hord,Aj,  pL hL1 hL64,Aj,Ac (zi h0 (by simpa using hlt)),Ac hlen2]
  have:(Hs g (Wq (r.toNat::P),Ji g.Succ.length r.toNat))=(Ad (E2 g (Wq (r.toNat::P))) (false,0,(List.replicate g.Succ.length (-2)).set r.toNat (-1))).bind (λx22=>(match x22 with|(b10,l11)=>(bif b10 then(some (.next (Wq (r.toNat::P),l11))) else(some (.done l11))))):=by
   unfold Hs Ji;simp only[hL2];rw[Ac hlen2]
  rw[this]at hst;refine Eq.trans ?_ (Bl (λx =>x.bind λx42=>some x42) hst)
  rfl
 ·rw[if_neg hc];unfold Ui
  have:(EP g&&(decide (0<=r)&&decide (r<g.Succ.length)))=false:=by
   grind
  rw[(ak g h1 trivial r).2 this]
  rfl
theorem wm{α:Type}(l:List α)(d:α)(p:α->Bool){X:Type}(f:Int->Option (LR Int X))(yes no:X)(hl:l.length<9223372036854775808)(hk:∀ i:Nat,i<l.length->f i=some (bif p (l.getD i d) then .next (w64 ((i:Int)+1)) else .done no))
  (he:f l.length=some (.done yes)):Ad f (0:Int)=some (bif l.all p then yes else no):=by
 have:=G4 l d p f yes no (λi hi hp=>by rw[hk i hi,hp,Af,A0 hi hl]) (λi hi hp=>by grind) he l.length 0 (by omega);rwa[Mv]at this
theorem w7(f:TFunc)(hf:US f)(l:Int)(t:List Int)(u:List Be):Kl f l t u=some (bif Qb f then 0 else 4,f,l,t,u):=by
 unfold Kl Ns;rw[Aao f hf]
 cases Qb f<;>rfl
theorem lS(phis:List Bf)(l:List Int)(h1:phis.length<9223372036854775808)(h2:l.length<4611686018427387904):Pk phis l=some (phis.all (Jt l)):=by
 unfold Pk
 rw[wm _ _ (Jt l) _ (.inl ()) _ h1 (λi hi=>by
  unfold Pu
  have hd:decide ((i:Int)<phis.length)=true:=by simpa using hi
  simp only[hd, Aa (Ag hi),Co,OZ _ _ h2, Jt]
  cases decide ((phis.getD i _).From=l) with
  | false=>rfl
  | true=>
   grind) (by unfold Pu;simp)]
 cases phis.all _<;>rfl
def fb(e:Jm):Bool:=!((e.Kind==1 || e.Kind==3)&&(e.Arg !=0))
theorem lL{n:Nat}(e:Jm)(hk:M6 e n=true):Pj e=some (fb e):=by
 have h4 :=by
  have:=(A1 _ _▸hk).1;unfold BK at this;simp only[A1,Dq]at this;omega
 unfold Pj fb
 have:e.Kind=0\/e.Kind=1\/e.Kind=2\/e.Kind=3:=by omega
 rcases this with h|h|h|h<;>rw[h]<;>cases hb:(e.Arg==0)<;>simp[hb,bne]
theorem gp{L:List (List Int)}(hm:Ny L=true){P:List Nat}(h0:0<L.length)(o:Ord (sN L) 0 P):decide (P.length<L.length) = !(List.range L.length).all λi=>(Sl L).getD i false:=by
 have hin:∀ x∈P,x<L.length:=λx hx=>(by obtain⟨Q,rfl,oo⟩:=o.ordered h0 (Zb hm);exact oo.lt hx)
 have hr:∀ z,(Sl L).getD z _=true↔z∈P:=λz=>by
  rw[o.mem z];exact IV (Zb hm) h0 z
 cases ha:(List.range _).all _ with
 | true=>
  have:=((List.perm_ext_iff_of_nodup o.nodup List.nodup_range).2 λi=>⟨λh=>zzL84.2 (hin i h),λh=>(hr i).1 (zzL28.1 ha i h)⟩).length_eq;rw[Xh]at this
  simp;omega
 | false=>
  obtain⟨i,hi,hni⟩:∃ i,i<L.length/\i∉P:=bT λhc=>by
   grind
  have :=Ua L.length _ (zzL116.2 ⟨hni,o.nodup⟩) (λx hx=>by grind);simp at this ⊢;omega
theorem oT{f:TFunc}(hf:OkF f)(l:Int)(t:List Int)(u:List Be):∃ t',I5 f l t u=some (bif Fi f then 0 else 5,f,l,t',u)/\(Fi f=true->t'=Er f):=by
 have hmax:f.Blocks.length<=maxLen:=by
  have:=hf.blocks;have:(64:Nat)<=maxLen:=by decide
  omega
 unfold I5;rw[zw f hmax,Aj]
 cases hs:Rl f with
 | false=>exact⟨t,by unfold Fi;rw[hs];rfl,λh=>by unfold Fi at h;rw[hs]at h;cases h⟩
 | true=>
  have hm:=Rj hs;have hlen:=Pc f
  have hpos:0<(Bu f).length:=by have:=(shape_iff.1 hs).1.1;omega
  obtain⟨h1,h2⟩:=HU hm;obtain⟨P,hP⟩:=Ord.exist (Zb hm) hpos;have ho:=(ak (J9 (Bu f)) h1 trivial 0).1 (dW hm) (by omega) (by show(0:Int)<((Bu f).length:Int);omega) P hP;have hfull:=gp hm hpos hP;simp only[Af, show((0:Int)!=0)=false from rfl,Ar,ho,Aj,show(false==false)=true from rfl]
  have e1:decide (((Wq P).length:Int)<(f.Blocks.length:Int))=decide (P.length<(Bu f).length):=by
   rw[hlen];apply zzL74.2;simp[Wq]
  rw[e1,hfull]
  have hsd:Fi f=(((List.range f.Blocks.length).all λi=>(Sl (Bu f)).getD i false)&&(List.range f.Blocks.length).all λi=>fb (f.Blocks.getD i default).End&&(f.Blocks.getD i default).Phis.all (Jt ((Cc (Bu f)).getD i []))):=by
   unfold Fi;rw[hs,Jj]
   have:∀(n:Nat) (p q:Nat->Bool),((List.range n).all λi=>p i&&q i)=((List.range n).all p&&(List.range n).all q):=λn p q=>by
    grind
   rw[<- this]
   congr 1
   funext i
   show(_&&_&&_)=_
   rw[Bool.and_assoc]
   rfl
  rw[hlen];rw[hsd]
  cases hr:(List.range f.Blocks.length).all _ with
  | false=>exact⟨t,rfl,λh=>by cases h⟩
  | true=>
   refine⟨Er f,?_,λ_=>rfl⟩;rw[Dt,Ar,xI _ 0 h1 h2,Aj,Jj];have hp:=Tz hm
   have hpl:(J9 (Bu f)).Pred.length=f.Blocks.length:=by rw[<- hlen];exact Pv _
   have key:Ad (Dd f l u (J9 (Bu f),0) (Er f)) (0:Int)=some (bif (List.range f.Blocks.length).all (λi=>fb (f.Blocks.getD i default).End&&(f.Blocks.getD i default).Phis.all (Jt ((Cc (Bu f)).getD i []))) then .inl () else .inr ((5:Int),f,l,Er f,u)):=by
    have hk:∀ i:Nat,i<f.Blocks.length->Dd f l u (J9 (Bu f),0) (Er f) (i:Int)=some (bif (fb (f.Blocks.getD i default).End&&(f.Blocks.getD i default).Phis.all (Jt ((Cc (Bu f)).getD i []))) then .next ((i:Int)+1) else .done (.inr ((5:Int),f,l,Er f,u))):=λi hi=>by
     have hB:=hf.block _ (Ai (d:=(default:Ab)) hi);have hpi:As (i:Int) (J9 (Bu f)).Pred.length:=Ag (by omega);have hpg:((J9 (Bu f)).Pred.getD i []).length<=64:=hp.2 _ (Ai (by rw[Pv];omega));unfold Dd
     have hd:decide ((i:Int)<(f.Blocks.length:Int))=true:=by simpa using hi
     simp only[hd,Af,Aa (Ag hi),Aa hpi,Co,lS (f.Blocks.getD i default).Phis ((J9 (Bu f)).Pred.getD i []) (by have:=hB.phis;omega) (by omega),Aj];have ha :=lL (n:=f.Blocks.length) (f.Blocks.getD i default).End ((shape_iff.1 hs).2 i hi);rw[ha,A0 hi (by have:=hf.blocks;omega)]
     show _=some (bif (fb (f.Blocks.getD i default).End&&(f.Blocks.getD i default).Phis.all (Jt ((J9 (Bu f)).Pred.getD i []))) then _ else _)
     cases(f.Blocks.getD i default).Phis.all _<;>cases fb (f.Blocks.getD i default).End<;>rfl
    exact KH _ _ _ _ _ (λi hi hp=>by rw[hk i hi,hp];rfl) (λi hi hp=>by rw[hk i hi,hp];rfl) (by unfold Dd;simp)
   show((Ad (Dd f l u (J9 (Bu f),0) (Er f)) (0:Int)).bind _)=_
   rw[key,Aj]
   cases(List.range f.Blocks.length).all _<;>rfl
theorem wx(o:A2)(l:Int)(h0:0<=l)(h2:l<=2)(hk:Jr o=true):Tu o l=some (!decide (IA l<o.Kind)&&!(decide (l<2)&&decide (1<o.Lanes))):=by
 have hl:=pA hk
 have hK :=by
  simp only[Jr,A1]at hk;have:=hk.1.2.1.1.1;unfold gM at this;simp only[A1,Dq]at this;omega
 unfold Tu IA
 have:l=0\/l=1\/l=2:=by omega
 rcases this with rfl|rfl|rfl
 ·have ha:decide (o.Kind<=17) = !decide (17<o.Kind):=by grind
  have hb:(o.Lanes==1) = !decide (1<o.Lanes):=by grind
  show some _=some (!decide (17<o.Kind)&&!(true&&decide _))
  rw[ha,hb]
  cases decide (17<o.Kind)<;>cases decide (1<o.Lanes)<;>rfl
 ·have ha:decide (o.Kind<=20) = !decide (20<o.Kind):=by grind
  have hb:(o.Lanes==1) = !decide (1<o.Lanes):=by grind
  show some _=some (!decide (20<o.Kind)&&!(true&&decide _))
  rw[ha,hb]
  cases decide (20<o.Kind)<;>cases decide (1<o.Lanes)<;>rfl
 ·grind
theorem lR(o:A2)(ho:bz o)(f:TFunc)(l:Int)(h0:0<=l)(h2:l<=2)(t:List Int)(u:List Be):Ib o f l t u=some (Rf l o,f,l,t,u):=by
 unfold Ib Rf;rw[QN o ho,Aj]
 cases hk:Jr o with
 | false=>rfl
 | true=>
  rw[show(true==true)=true from rfl,Af,wx o l h0 h2 hk,Aj,Af,Jj]
theorem tA(b:Ab){f:TFunc}(hf:OkF f)(hb:b∈f.Blocks)(l:Int)(h0:0<=l)(h2:l<=2)(t:List Int)(u:List Be):L8 b.Ops f l t u=some (b.Ops.all (Rf l),f,l,t,u):=by
 have hB:=hf.block b hb
 have key:∀ k i ,i+k=b.Ops.length->Ad (G5 b.Ops) (i,f.Params,f.Ret,f.Blocks,l,t,u)=some (bif (b.Ops.drop i).all (Rf l) then .inl (f.Params,f.Ret,f.Blocks,l,t,u) else .inr (false,f,l,t,u)):=by
  intro k
  induction k with
  | zero=>
   intro i h
   obtain rfl:i=b.Ops.length:=by omega
   rw[Ak (x:=.inl (f.Params,f.Ret,f.Blocks,l,t,u)) (by unfold G5;simp)]
   simp
  | succ k ih=>
   intro i h
   have hi:i<b.Ops.length:=by omega
   have hd:decide (i<(b.Ops.length:Int))=true:=by simpa using hi
   have hdr:b.Ops.drop i=b.Ops.getD i default::b.Ops.drop (i+1):=by simp_all
   have hx:=lR (b.Ops.getD i default) (mB hf hb (Ai hi)) f l h0 h2 t u;rw[hdr,FO]
   cases ho:Rf l _ with
   | true=>
    rw[ho]at hx
    rw[Aq (s':=(((i+1:Nat):Int),f.Params,f.Ret,f.Blocks,l,t,u)) (by
     unfold G5;simp only[hd, Aa (Ag hi),Co,hx,   A0 hi (by have:=hB.ops;omega)]
     rfl),ih _ (by omega),Jj]
   | false=>
    rw[ho]at hx
    rw[Ak (x:=.inr (false,f,l,t,u)) (by
     unfold G5
     simp only[hd,Af,Aa (Ag hi),Co,hx,Aj,Mu])]
    rfl
 unfold L8;rw[show(0:Int)=(0:Nat) from rfl,key b.Ops.length 0 (by omega),Mv]
 cases b.Ops.all _<;>rfl
theorem oM(b:Ab)(h:b.Phis.length<9223372036854775808):Lm b.Phis=some (b.Phis.all λp=>widthB p.Bits):=by
 unfold Lm
 rw[wm _ _ (λp=>widthB _) _ (.inl ()) _ h (λi hi=>by
  unfold L9 R8
  have hd:decide (i<(b.Phis.length:Int))=true:=by simpa using hi
  simp only[hd, Aa (Ag hi),Co,Xg]
  cases widthB _<;>rfl) (by unfold L9;simp)]
 cases b.Phis.all _<;>rfl
theorem oL(p:List Int)(h:p.length<9223372036854775808):Pi p=some (p.all widthB):=by
 unfold Pi
 rw[wm p 0 widthB _ (.inl ()) _ h (λi hi=>by
  unfold Ps
  have hd:decide (i<(p.length:Int))=true:=by simpa using hi
  simp only[hd, Aa (Ag hi),Co,Xg]
  cases widthB _<;>rfl) (by unfold Ps;simp)]
 cases p.all _<;>rfl
theorem ZS(b:Ab){f:TFunc}(hf:OkF f)(hb:b∈f.Blocks)(l:Int)(h0:0<=l)(h2:l<=2)(t:List Int)(u:List Be):Ga b f l t u=some (Jp l b,f,l,t,u):=by
 unfold Ga Jp;rw[oM b (by have:=(hf.block b hb).phis;omega), tA b hf hb l h0 h2 t u]
 cases(b.Phis.all _)<;>rfl
theorem tO{f:TFunc}(hf:OkF f)(l:Int)(h0:0<=l)(h2:l<=2)(t:List Int)(u:List Be):Jz f l t u=some (bif U1 f l then 0 else 6,f,l,t,u):=by
 have key:∀ k i ,i+k=f.Blocks.length->Ad (E1 f.Blocks) (i,f.Params,f.Ret,f.Blocks,l,t,u)=some (bif (f.Blocks.drop i).all (Jp l) then .inl (f.Params,f.Ret,f.Blocks,l,t,u) else .inr (false,f,l,t,u)):=by
  intro k
  induction k with
  | zero=>
   intro i h
   obtain rfl:i=f.Blocks.length:=by omega
   rw[Ak (x:=.inl (f.Params,f.Ret,f.Blocks,l,t,u)) (by unfold E1;simp)]
   simp
  | succ k ih=>
   intro i h
   have hi:i<f.Blocks.length:=by omega
   have hd:decide ((i:Int)<f.Blocks.length)=true:=by simpa using hi
   have hdr:f.Blocks.drop i=f.Blocks.getD i default::f.Blocks.drop (i+1):=by simp_all
   have hx:=ZS (f.Blocks.getD i default) hf (Ai hi) l h0 h2 t u;rw[hdr,FO]
   cases ho:Jp l _ with
   | true=>
    rw[ho]at hx
    rw[Aq (s':=(((i+1:Nat):Int),f.Params,f.Ret,f.Blocks,l,t,u)) (by
     unfold E1;simp only[hd, Aa (Ag hi),Co,hx,   A0 hi (by have:=hf.blocks;omega)]
     rfl),ih _ (by omega),Jj]
   | false=>
    rw[ho]at hx
    rw[Ak (x:=.inr (false,f,l,t,u)) (by
     unfold E1
     simp only[hd,Af,Aa (Ag hi),Co,hx,Aj,Mu])]
    rfl
 have hall:Jy f.Blocks f l t u=some (f.Blocks.all (Jp l),f,l,t,u):=by
  unfold Jy;rw[show(0:Int)=(0:Nat) from rfl,key f.Blocks.length 0 (by omega),Mv]
  cases f.Blocks.all _<;>rfl
 unfold Jz U1 Ns;rw[oL _ (by have:=hf.few;omega), hall,Xg]
 cases f.Params.all _<;>cases widthB f.Ret<;>cases f.Blocks.all _<;>rfl
def vS(d:Cd):L4:=bif decide (d.Block<0) then⟨0,-1⟩ else⟨d.Block,d.At⟩
def ST(d:Cd):Ax:=⟨d.Shape,vS d⟩
def dv(l:List Cd):List (Int×Ax):=l.map λd=>(d.V,ST d)
def VH(acc:List (Int×Ax))(v:Int):Bool:=(Ke acc v || decide (v<1)) || decide (1023<v)
def Li:List (Int×Ax)->List Cd->Bool×List (Int×Ax)
 | acc,[]=>(true,acc)
 | acc,d::ds=>bif VH acc d.V then(false,acc) else Li (Ov acc d.V (ST d)) ds
theorem KA:∀(a b:List Cd) (acc:List (Int×Ax)),Li acc (a++b)=bif (Li acc a).1 then Li (Li acc a).2 b else Li acc a
 | [],b,acc=>rfl
 | d::a,b,acc=>by
  rw[TG];simp only[Li]
  cases VH acc d.V with
  | true=>rfl
  | false =>  exact KA a b _
theorem RA{V:Type}(k:Int):∀ l:List (Int×V),Ke l k=l.any λq=>k==q.1
 | []=>rfl
 | (a,b)::l=>by rw[List.any_cons,<- RA k l];rfl
theorem KM{V:Type}(k:Int)(v:V):∀{l:List (Int×V)},Ke l k=false->Ov l k v=l++[(k,v)]
 | [],_=>rfl
 | (a,b)::l,h=>by
  simp only[Ke,bU]at h;simp only[Ov,h.1,Ar,KM k v h.2,TG]
theorem cY(v:Int)(s:Int×Int)(p:L4)(f:TFunc)(l:Int)(t:List Int)(vs:List (Int×Ax))(u:List Be) :
  Gb v s p f l t vs u=some (bif VH vs v then(false,f,l,t,u,vs) else(true,f,l,t,u,Ov vs v ⟨s,p⟩)):=by
 unfold Gb VH
 cases Ke vs v<;>cases decide (v<1)<;>cases decide (1023<v)<;>rfl
def uj(f:TFunc)(l:Int)(t:List Int)(u:List Be)(r:Bool×List (Int×Ax)):(List Int×Int×List Ab×Int×List Int×List Be×List (Int×Ax)) ⊕ (Bool×TFunc×Int×List Int×List Be×List (Int×Ax)):=
 bif r.1 then .inl (f.Params,f.Ret,f.Blocks,l,t,u,r.2) else .inr (false,f,l,t,u,r.2)
theorem w5(b:Ab)(h:b.Phis.length<9223372036854775808)(i:Nat)(f:TFunc)(l:Int)(t:List Int)(u:List Be):∀(k j:Nat) (vs:List (Int×Ax)),j+k=b.Phis.length->
  Ad (Di (i:Int) b) ((j:Int),f.Params,f.Ret,f.Blocks,l,t,u,vs)=some (uj f l t u (Li vs ((List.range' j k).flatMap λ(k:Nat)=>[(⟨(b.Phis.getD k default).Dst,i,-1,((b.Phis.getD k default).Bits,1)⟩:Cd)]))):=by
 intro k
 induction k with
 | zero=>
  intro j vs hj
  obtain rfl:j=b.Phis.length:=by omega
  rw[Ak (x:=.inl (f.Params,f.Ret,f.Blocks,l,t,u,vs)) (by unfold Di;simp)]
  rfl
 | succ k ih=>
  intro j vs hj
  have hi:j<b.Phis.length:=by omega
  have hd:decide (j<(b.Phis.length:Int))=true:=by simpa using hi
  have hx:=cY (b.Phis.getD j default).Dst ((b.Phis.getD j default).Bits,1) ⟨(i:Int),-1⟩ f l t vs u
  have hat:vS ⟨(b.Phis.getD j default).Dst,i,-1,((b.Phis.getD j default).Bits,1)⟩=⟨i,-1⟩:=by   rfl
  rw[CW,LI,List.singleton_append];simp only[Li]
  cases hb:VH vs _ with
  | true=>
   rw[hb]at hx
   rw[Ak  (by
    unfold Di D7;simp only[hd, Aa (Ag hi),Co,Aj];rw[ hx]
    rfl)]
   rfl
  | false=>
   rw[hb]at hx
   rw[Aq (s':=(((j+1:Nat):Int),f.Params,f.Ret,f.Blocks,l,t,u,Ov vs _ _)) (by
    unfold Di D7;simp only[hd, Aa (Ag hi),Co,Aj];rw[ hx,A0 hi h]
    rfl),ih _ _ (by omega)]
   unfold ST
   rfl
theorem zW{f0:TFunc}(hf:OkF f0){b:Ab}(hb:b∈f0.Blocks)(i:Nat)(f:TFunc)(l:Int)(t:List Int)(u:List Be):∀(k j:Nat) (vs:List (Int×Ax)),j+k=b.Ops.length->
  Ad (Cj (i:Int) b) ((j:Int),f.Params,f.Ret,f.Blocks,l,t,u,vs)=some (uj f l t u (Li vs ((List.range' j k).flatMap λ(k:Nat)=>bif decide (0<(Pr (b.Ops.getD k default)).1) then[(⟨(b.Ops.getD k default).Dst,i,k,Pr (b.Ops.getD k default)⟩:Cd)] else[]))):=by
 have hB:=hf.block b hb;intro k
 induction k with
 | zero=>
  intro j vs hj
  obtain rfl:j=b.Ops.length:=by omega
  rw[Ak (x:=.inl (f.Params,f.Ret,f.Blocks,l,t,u,vs)) (by unfold Cj;simp)]
  rfl
 | succ k ih=>
  intro j vs hj
  have hi:j<b.Ops.length:=by omega
  have hd:decide ((j:Int)<(b.Ops.length:Int))=true:=by simpa using hi
  have hg:Qu _=some (Pr (b.Ops.getD j default)):=gP _ (mB hf hb (Ai hi));have hx:=cY (b.Ops.getD j default).Dst (Pr (b.Ops.getD j default)) (⟨(i:Int),(j:Int)⟩:L4) f l t vs u
  have hat:vS (⟨(b.Ops.getD j default).Dst,i,j,Pr (b.Ops.getD j default)⟩:Cd)=⟨(i:Int),(j:Int)⟩:=by unfold vS; rfl
  rw[CW,LI]
  cases hp:decide (0<(Pr _).1) with
  | false=>
   rw[Ar,V2,<- ih (j+1) vs (by omega),Aq (s':=(((j+1:Nat):Int),f.Params,f.Ret,f.Blocks,l,t,u,vs)) (by
    unfold Cj;simp only[hd,Af,Aa (Ag hi),Co,hg,Aj,hp];rw[A0 hi (by have:=hB.ops;omega)]
    rfl)]
  | true=>
   rw[Af,List.singleton_append];simp only[Li]
   cases hb:VH vs _ with
   | true=>
    rw[hb]at hx
    rw[Ak  (by
     unfold Cj;simp only[hd,Af,Aa (Ag hi),Co,hg,Aj,hp];rw[show(true==true)=true from rfl,Af, hx]
     rfl)]
    rfl
   | false=>
    rw[hb]at hx
    rw[Aq (s':=(((j+1:Nat):Int),f.Params,f.Ret,f.Blocks,l,t,u,Ov vs _ _)) (by
     unfold Cj;simp only[hd,Af,Aa (Ag hi),Co,hg,Aj,hp];rw[show(true==true)=true from rfl,Af, hx,A0 hi (by have:=hB.ops;omega)]
     rfl),ih (j+1) _ (by omega)]
    unfold ST
    rfl
theorem cZ{f:TFunc}(hf:OkF f){b:Ab}(hb:b∈f.Blocks)(i:Nat)(l:Int)(t:List Int)(u:List Be)(vs:List (Int×Ax)) :
  Gx (i:Int) b f l t vs u=some ((Li vs (Ud b i)).1,f,l,t,u,(Li vs (Ud b i)).2):=by
 unfold Gx Ud;rw[show 0=((0:Nat):Int) from rfl,w5 b (by have:=(hf.block b hb).phis;omega) i f l t u b.Phis.length 0 vs (by omega),Aj,KA];rw[show(List.range' 0 _).flatMap _=Vm b i by rw[Vm,P7]];unfold uj
 cases h1:(Li vs _).1 with
 | false=>grind
 | true=>
  simp only[Af];rw[zW hf hb i f l t u b.Ops.length 0 _ (by omega)];rw[show(List.range' 0 _).flatMap _=GD b i by rw[GD,P7]];unfold uj;cases h2:(Li _ _).1<;>rfl
theorem XU{l:List Cd}{i:Nat}(hi:i<l.length):Un l i=true↔valS (l.getD i default).V=true/\∀ j,j<i->(l.getD j default).V≠(l.getD i default).V:=by
 unfold Un;rw[A1];refine and_congr Iff.rfl ?_;unfold Np
 cases hx:l.findIdx? _ with
 | none=>
  rw[List.findIdx?_eq_none_iff]at hx;have:=hx _ (Ai (d:=default) hi);simp at this
 | some j=>
  obtain⟨hj,h1,h2⟩:=List.findIdx?_eq_some_iff_getElem.1 hx;simp only[zzL46]
  constructor
  ·grind
  ·intro h
   have hv:(l.getD j default).V=(l.getD i default).V:=by grind
   rcases Nat.lt_trichotomy j i with hlt|rfl|hgt
   ·grind
   ·rfl
   ·grind
theorem uJ(l:List Cd)(v:Int):Ke (dv l) v=l.any λd=>v==d.V:=by
 rw[RA,dv,List.any_map];rfl
theorem PZ:∀(ds pre:List Cd),(Li (dv pre) ds).1=(List.range' pre.length ds.length).all (Un (pre++ds))/\((Li (dv pre) ds).1=true->(Li (dv pre) ds).2=dv (pre++ds))
 | [],pre=>by simp[Li]
 | d::ds,pre=>by
  have hi:pre.length<(pre++d::ds).length:=by simp
  have hg:(pre++d::ds).getD pre.length default=d:=by simp[List.getD]
  have hj:∀ j,j<pre.length->(pre++d::ds).getD j default=pre.getD j default:=λj h=>by grind
  have hok:Un (pre++d::ds) pre.length = !VH (dv pre) d.V:=by
   rw[Zd,XU hi,hg];unfold VH valS;rw[uJ];simp only[Rm,bU,TC,List.any_eq_false,zzL46,A1,Dq]
   constructor
   ·rintro⟨⟨h1,h2⟩,h3⟩;refine⟨⟨λx hx he=>?_,by omega⟩,by omega⟩;obtain⟨j,hjl,rfl⟩:=N6 hx;have:=h3 j hjl;rw[hj j hjl,An _ _ _ hjl]at this;exact this he.symm
   ·grind
  rw[Rz,CW,FO,hok];simp only[Li]
  cases hb:VH _ d.V with
  | true=>grind
  | false=>
   have hn :=by
    unfold VH at hb;simp only[bU]at hb;exact hb.1.1
   have hs:Ov (dv pre) d.V (ST d)=dv (pre++[d]):=by rw[KM _ _ hn,dv,dv,JH];rfl
   have:=PZ ds (pre++[d]);rw[Du,U8]at this;rw[ hs,Mu];exact this
def pv(f:TFunc)(n:Nat):List (Int×Ax):=(List.range n).map λ(j:Nat)=>((j:Int)+1,⟨(f.Params.getD j 0,1),⟨0,-1⟩⟩)
theorem Aag(f:TFunc):pv f f.Params.length=dv (Th f):=by
 unfold pv dv Th
 induction List.range _ with
 | nil=>rfl
 | cons a l ih=>rw[Ch, ih];rfl
theorem oS{f:TFunc}(hf:OkF f):∀(k i:Nat),i+k=f.Params.length->Ad (Gc f) ((i:Int),pv f i)=some (pv f f.Params.length):=by
 intro k
 induction k with
 | zero=>
  intro i h
  obtain rfl:i=f.Params.length:=by omega
  exact Ak (by unfold Gc;simp)
 | succ k ih=>
  intro i h
  have hi:i<f.Params.length:=by omega
  have hd:decide ((i:Int)<(f.Params.length:Int))=true:=by simpa using hi
  have hn:Ke (pv f i) ((i:Int)+1)=false:=by
   rw[RA,pv,List.any_map,List.any_eq_false];intro j hj;have:=zzL84.1 hj
   simp;omega
  have hs:Ov (pv f i) ((i:Int)+1) ⟨(f.Params.getD i 0,1),⟨0,-1⟩⟩=pv f (i+1):=by
   rw[KM _ _ hn,pv,pv,FM,JH];rfl
  rw[Aq  (by
   unfold Gc D7;simp only[hd,Af,Aa (Ag hi),Co,Aj,A0 hi (by have:=hf.few;omega),hs]
   rfl)]
  exact ih (i+1) (by omega)
theorem oN{f:TFunc}(hf:OkF f)(l:Int)(t:List Int)(u:List Be):∀(k i:Nat) (vs:List (Int×Ax)),i+k=f.Blocks.length->
  Ad (D6 f) ((i:Int),vs,f.Params,f.Ret,f.Blocks,l,t,u)=some (bif (Li vs ((List.range' i k).flatMap λi=>Ud (f.Blocks.getD i default) i)).1 then .inl ((Li vs ((List.range' i k).flatMap λi=>Ud (f.Blocks.getD i default) i)).2,f.Params,f.Ret,f.Blocks,l,t,u) else
   .inr (7,f,l,t,u,(Li vs ((List.range' i k).flatMap λi=>Ud (f.Blocks.getD i default) i)).2)):=by
 intro k
 induction k with
 | zero=>
  intro i vs h
  obtain rfl:i=f.Blocks.length:=by omega
  rw[Ak (x:=.inl (vs,f.Params,f.Ret,f.Blocks,l,t,u)) (by unfold D6;simp)]
  rfl
 | succ k ih=>
  intro i vs h
  have hi:i<f.Blocks.length:=by omega
  have hd:decide (i<(f.Blocks.length:Int))=true:=by simpa using hi
  have hx:=cZ hf (Ai (d:=default) hi) i l t u vs;rw[CW,LI,KA]
  cases hb:(Li vs _).1 with
  | false=>
   rw[hb]at hx
   rw[Ak  (by
    unfold D6;simp only[hd, Aa (Ag hi),Co];rw[ hx]
    rfl),Ar,hb]
   rfl
  | true=>
   rw[hb]at hx
   rw[Aq (s':=(((i+1:Nat):Int),(Li vs _).2,f.Params,f.Ret,f.Blocks,l,t,u)) (by
    unfold D6;simp only[hd, Aa (Ag hi),Co];rw[ hx,A0 hi (by have:=hf.blocks;omega)]
    rfl),ih _ _ (by omega),Af]
theorem okP{f:TFunc}(hf:OkF f):∀ i,i<f.Params.length->Un (Bg f) i=true:=λi hi=>by
 have hl:=DP f
 have hg:∀ j,j<f.Params.length->(Bg f).getD j default=⟨j+1,-1,0,(f.Params.getD j 0,1)⟩:=λj hj=>by
  have e:Th f=(List.range f.Params.length).map λi=>⟨(i:Int)+1,-1,0,(f.Params.getD i 0,1)⟩:=by
   unfold Th
   induction List.range _ with
   | nil=>rfl
   | cons a l ih=>grind
  rw[Bg,List.getD,V0 (by omega),e];simp[hj]
 have hle:i<(Bg f).length:=by rw[Bg,Du];omega
 rw[XU hle,hg i hi];refine⟨?_,λj hj=>?_⟩
 ·have:=hf.few;simp only[valS,A1,Dq];omega
 ·grind
theorem lO{f:TFunc}(hf:OkF f)(l:Int)(t:List Int)(u:List Be):∃ vs,H9 f l t u=some (bif (List.range (Bg f).length).all (Un (Bg f)) then 0 else 7,f,l,t,u,vs)/\((List.range (Bg f).length).all (Un (Bg f))=true->vs=dv (Bg f)):=by
 have hsp:=PZ ((List.range f.Blocks.length).flatMap λi=>Ud (f.Blocks.getD i default) i) (Th f)
 have hall:(List.range (Bg f).length).all (Un (Bg f))=(Li (dv (Th f)) ((List.range f.Blocks.length).flatMap λi=>Ud (f.Blocks.getD i default) i)).1:=by
  rw[hsp.1]
  show(List.range _).all _=(List.range' _ _).all (Un (Bg f))
  have hs:List.range (Bg f).length=List.range (Th f).length++List.range' (Th f).length ((List.range f.Blocks.length).flatMap λi=>Ud (f.Blocks.getD i default) i).length:=by
   rw[P7,P7,Bg,Du];have:=List.range'_append_1 (s:=0) (m:=(Th f).length) (n:=((List.range f.Blocks.length).flatMap λi=>Ud (f.Blocks.getD i default) i).length);rw[Hp]at this;exact this.symm
  rw[hs,List.all_append];have :=zzL28.2 λi hi=>okP hf i (by rw[<- DP f];exact zzL84.1 hi);rw[this,Jj]
 unfold H9;have hp:=oS hf f.Params.length 0 (by omega);have e0:pv f 0=[]:=rfl;rw[e0,show(((0:Nat):Int))=0 from rfl]at hp;rw[hp,Aj,Aag];have hb:=oN hf l t u f.Blocks.length 0 (dv (Th f)) (by omega);rw[show(((0:Nat):Int))=0 from rfl,<- P7]at hb;rw[hb, hall];refine⟨(Li _ _).2,?_,hsp.2⟩
 cases(Li _ _).1<;>rfl
theorem DX{β S X:Type}(B:Nat)(mk:Int->List β->S)(out:List β->X)(n:Nat)(E:Nat->List β)(f:S->Option (LR S X))(hn:∀(acc:List β) (i:Nat),i<n->(acc++E i).length<=B->f (mk i acc)=some (.next (mk ((i:Int)+1) (acc++E i))))
  (hd:∀ acc:List β,f (mk n acc)=some (.done (out acc))):∀(k i:Nat) (acc:List β),i+k=n->(acc++(List.range' i k).flatMap E).length<=B->Ad f (mk i acc)=some (out (acc++(List.range' i k).flatMap E))
 | 0,i,acc,h,_=>by
  obtain rfl:i=n:=by omega
  rw[Ak (hd acc)]
  simp
 | k+1,i,acc,h,hB=>by
  have hi:i<n:=by omega
  rw[CW,LI,<- U8]at hB ⊢;rw[Aq (hn acc i hi (by grind)),show(i+1)=((i+1:Nat):Int) by omega,DX B mk out n E f hn hd k _ _ (by omega) hB]
theorem dV{β γ:Type}(h:β->γ)(n:Nat)(g:Nat->β):(List.range' 0 n).flatMap (λj=>[h (g j)])=((List.range n).flatMap λj=>[g j]).map h:=by
 rw[List.map_flatMap,P7];rfl
theorem QX{β γ:Type}(h:β->γ)(n:Nat)(g:Nat->List β):(List.range' 0 n).flatMap (λj=>(g j).map h)=((List.range n).flatMap g).map h:=by
 rw[List.map_flatMap,P7]
def Tb(f:TFunc)(b:Int):Int:=((f.Blocks.getD b.toNat default).Ops.length:Int)
def Ju(f:TFunc)(u:C9):Be:=⟨u.V,u.Shape,⟨u.Block,bif u.At==1000 then Tb f u.Block else u.At⟩⟩
theorem jV(f:TFunc)(l:Int)(t:List Int)(vs:List (Int×Ax))(v:Int)(s:Int×Int)(p:L4)(u:List Be)(h:(u++[(⟨v,s,p⟩:Be)]).length<=10000000):Es v s p f l t vs u=some (f,l,t,u++[⟨v,s,p⟩]):=by
 unfold Es;rw[Ac (by rw[Du]at h;rw[JB];omega)]
theorem oQ(f:TFunc)(l:Int)(t:List Int)(vs:List (Int×Ax))(b:Int)(hb:As b f.Blocks.length)(u:List Be):Gn b f l t vs u=some (⟨b,Tb f b⟩,f,l,t,u):=by
 unfold Gn;rw[Ac hb];rfl
section
variable {f:TFunc} (hf:OkF f) (l:Int) (t:List Int) (vs:List (Int×Ax))
include hf
theorem w4(i k:Nat)(hi:i<f.Blocks.length)(hk:k<(f.Blocks.getD i default).Phis.length)(hfit:((f.Blocks.getD i default).Phis.getD k default).Args.length<=((f.Blocks.getD i default).Phis.getD k default).From.length)
  (hin:∀ x∈((f.Blocks.getD i default).Phis.getD k default).From,As x f.Blocks.length) (u:List Be) (hB:(u++(Pd ((f.Blocks.getD i default).Phis.getD k default)).map (Ju f)).length<=10000000) :
  Ad (D1 f vs (i:Int) (k:Int)) ((0:Int),f.Params,f.Ret,f.Blocks,l,t,u)=some (f.Params,f.Ret,f.Blocks,l,t,u++(Pd ((f.Blocks.getD i default).Phis.getD k default)).map (Ju f)):=by
 have hlen:=RL hf (Ai  hi) (Ai (d:=default) hk)
 generalize hp:(f.Blocks.getD i _).Phis.getD k _=p at *
 have e:=dV (Ju f) p.Args.length λj=>⟨p.Args.getD j 0,p.From.getD j 0,1000,(p.Bits,1)⟩
 have:=DX _ (λj u=>(j,f.Params,f.Ret,f.Blocks,l,t,u)) (λu=>(f.Params,f.Ret,f.Blocks,l,t,u)) _ (λj=>[Ju f _]) (D1 f vs i k) (λacc j hj hacc=>by
  unfold D1 D7
  have hd:decide (j<(p.Args.length:Int))=true:=by simpa using hj
  have hjf:j<p.From.length:=by omega
  simp only[Co,hp,hd,Af,Aa (Ag hj),Aj,Aa (Ag hjf)];rw[ oQ f l t vs _ (hin _ (Ai hjf)),Aj];have eu:Ju f ⟨p.Args.getD j 0,p.From.getD j 0,1000,(p.Bits,1)⟩=⟨p.Args.getD j 0,(p.Bits,1),⟨p.From.getD j 0,Tb f _⟩⟩:=rfl;rw[eu]at hacc ⊢
  rw[jV f l t vs _ _ _ acc hacc,Aj,A0 hj (by omega)]) (λacc=>by unfold D1;simp only[Co,hp,show decide (p.Args.length<(p.Args.length:Int))=false by simp,Ar]) p.Args.length 0 u (by omega) (by rw[e];exact hB)
 rw[e]at this;exact this
theorem tK(i:Nat)(hi:i<f.Blocks.length)(hfit:∀ p∈(f.Blocks.getD i default).Phis,p.Args.length<=p.From.length/\∀ x∈p.From,As x f.Blocks.length)(u:List Be)(hB:(u++(Oi (f.Blocks.getD i default)).map (Ju f)).length<=10000000) :
  Ad (D2 f vs (i:Int)) ((0:Int),f.Params,f.Ret,f.Blocks,l,t,u)=some (f.Params,f.Ret,f.Blocks,l,t,u++(Oi (f.Blocks.getD i default)).map (Ju f)):=by
 have hBk:=hf.block _ (Ai (d:=default) hi);have e:=QX (Ju f) (f.Blocks.getD i default).Phis.length λk=>Pd ((f.Blocks.getD i default).Phis.getD k default)
 have:=DX _ (λj u=>(j,f.Params,f.Ret,f.Blocks,l,t,u)) (λu=>(f.Params,f.Ret,f.Blocks,l,t,u)) _ _ (D2 f vs i) (λacc k hk hacc=>by
  have hq:=hfit _ (Ai (d:=default) hk);have h1:=w4 hf l t vs i k hi hk hq.1 hq.2 acc hacc;unfold D2
  have hd:decide ((k:Int)<(f.Blocks.getD i default).Phis.length)=true:=by simpa using hk
  simp only[Co,hd,Af,Aa (Ag hk),h1,Aj,A0 hk (by have:=hBk.phis;omega)]) (λacc=>by unfold D2;simp) (f.Blocks.getD i default).Phis.length 0 u (by omega) (by rw[e];exact hB)
 rw[e]at this;exact this
theorem zV(i k:Nat)(hi:i<f.Blocks.length)(hk:k<(f.Blocks.getD i default).Ops.length)(u:List Be)(hB:(u++(Sn ((f.Blocks.getD i default).Ops.getD k default) i k).map (Ju f)).length<=10000000) :
  Ad (D3 f vs (i:Int) (k:Int) (Jb ((f.Blocks.getD i default).Ops.getD k default))) ((0:Int),f.Params,f.Ret,f.Blocks,l,t,u)=some (f.Params,f.Ret,f.Blocks,l,t,u++(Sn ((f.Blocks.getD i default).Ops.getD k default) i k).map (Ju f)):=by
 have hBk:=hf.block _ (Ai (d:=default) hi);have hlen:=Yp (XX hf (Ai  hi) (Ai (d:=default) hk));have hk512:=hBk.ops
 generalize hp:(f.Blocks.getD i _).Ops.getD k _=o at *
 have e:=dV (Ju f) (Jb o).length λj=>⟨o.Args.getD j 0,i,k,(Jb o).getD j (0,0)⟩
 have:=DX _ (λj u=>(j,f.Params,f.Ret,f.Blocks,l,t,u)) (λu=>(f.Params,f.Ret,f.Blocks,l,t,u)) _ (λj=>[Ju f _]) (D3 f vs i k (Jb o)) (λacc j hj hacc=>by
  have hkk:((k:Int)==1000)=false:=by simp;omega
  have eu:Ju f ⟨o.Args.getD j 0,i,k,(Jb o).getD j (0,0)⟩=⟨o.Args.getD j 0,(Jb o).getD j (0,0),⟨i,k⟩⟩:=by unfold Ju;simp only[hkk,Ar]
  rw[eu]at hacc ⊢;unfold D3
  have hd:decide (j<((Jb o).length:Int))=true:=by simpa using hj
  have hja:j<o.Args.length:=by omega
  simp only[Co,hp,hd,Af,Aa (Ag hj),Aa (Ag hja)]
  rw[ jV f l t vs _ _ _ acc hacc,Aj,A0 hj (by omega)]) (λacc=>by unfold D3;simp) (Jb o).length 0 u (by omega) (by rw[e];exact hB)
 rw[e]at this;exact this
theorem wz(i:Nat)(hi:i<f.Blocks.length)(u:List Be)(hB:(u++(U2 (f.Blocks.getD i default) i).map (Ju f)).length<=10000000) :
  Ad (D4 f vs (i:Int)) ((0:Int),f.Params,f.Ret,f.Blocks,l,t,u)=some (f.Params,f.Ret,f.Blocks,l,t,u++(U2 (f.Blocks.getD i default) i).map (Ju f)):=by
 have hmem:=Ai (d:=default) hi;have hBk:=hf.block _ hmem;have e:=QX (Ju f) (f.Blocks.getD i default).Ops.length λk=>Sn ((f.Blocks.getD i default).Ops.getD k default) i k
 have:=DX _ (λj u=>(j,f.Params,f.Ret,f.Blocks,l,t,u)) (λu=>(f.Params,f.Ret,f.Blocks,l,t,u)) _ _ (D4 f vs i) (λacc k hk hacc=>by
  have h1:=zV hf l t vs i k hi hk acc hacc;have ht:Qv _=some (Jb ((f.Blocks.getD i _).Ops.getD k default)):=gV _ (mB hf hmem (Ai hk));unfold D4
  have hd:decide (k<((f.Blocks.getD i default).Ops.length:Int))=true:=by simpa using hk
  simp only[Co,hd,Af,Aa (Ag hk),ht,h1,Aj,A0 hk (by have:=hBk.ops;omega)]) (λacc=>by unfold D4;simp) (f.Blocks.getD i default).Ops.length 0 u (by omega) (by rw[e];exact hB)
 rw[e]at this;exact this
theorem lM(hfit:∀ b∈f.Blocks,∀ p∈b.Phis,p.Args.length<=p.From.length/\∀ x∈p.From,As x f.Blocks.length):H8 f l t vs []=some (f,l,t,(B5 f).map (Ju f)):=by
 have e:=QX (Ju f) f.Blocks.length λ(i:Nat)=>NE f (f.Blocks.getD i default) i;have hul:=LE hf
 have:=DX 10000000 (λj u=>(j,f.Params,f.Ret,f.Blocks,l,t,u)) (λu=>(f.Params,f.Ret,f.Blocks,l,t,u)) f.Blocks.length (λ(i:Nat)=>(NE f (f.Blocks.getD i default) i).map (Ju f)) (D5 f vs) (λacc i hi hacc=>by
  have hmem:=Ai (d:=(default:Ab)) hi;unfold NE at hacc ⊢;rw[JH,JH,<- U8,<- U8]at hacc ⊢;have l1:=hacc;simp only[Du,L1]at l1;have h1:=tK hf l t vs i hi (hfit _ hmem) acc (by simp only[Du,L1];omega);have h2:=wz hf l t vs i hi (acc++(Oi (f.Blocks.getD i default)).map (Ju f)) (by simp only[Du,L1];omega);have hinb:As (i:Int) f.Blocks.length:=Ag hi;unfold D5 D7
  have hd:decide ((i:Int)<(f.Blocks.length:Int))=true:=by simpa using hi
  simp only[hd,Af,Aa (Ag hi),h1,Aj,h2,Co];have hF:(⟨f.Params,f.Ret,f.Blocks⟩:TFunc)=f:=rfl;have hw:w64 ((i:Int)+1)=(i:Int)+1:=A0 hi (by have:=hf.blocks;omega);unfold EI at hacc ⊢
  cases hz:((f.Blocks.getD i default).End.Kind==0) with
  | true=>
   have hz2:((f.Blocks.getD i default).End.Kind==2)=false:=by
    have:(f.Blocks.getD i default).End.Kind=0:=by simpa using hz
    rw[this];rfl
   rw[hz,hz2]at hacc;simp only[Af,Ar,hz2,List.append_nil,Ch,Ka]at hacc ⊢;rw[hF,oQ f l t vs _ hinb,Aj];simp only;rw[jV f l t vs _ _ _ _ (show(_++[(⟨_,_,⟨(i:Int),Tb f (i:Int)⟩⟩:Be)]).length<=10000000 from hacc),Aj,Aj,hw]
   rfl
  | false=>
   rw[hz]at hacc
   cases hz2:((f.Blocks.getD i default).End.Kind==2) with
   | true=>
    rw[hz2]at hacc;simp only[Af,Ar,V2,Ch,Ka]at hacc ⊢;rw[hF,oQ f l t vs _ hinb,Aj];simp only;rw[jV f l t vs _ _ _ _ (show(_++[(⟨_,_,⟨(i:Int),Tb f (i:Int)⟩⟩:Be)]).length<=10000000 from hacc),Aj,Aj,hw]
    rfl
   | false=>
    simp only[Ar,V2,Ka,List.append_nil,Aj,hw]) (λacc=>by unfold D5;simp) f.Blocks.length 0 [] (by omega) (by rw[e];simpa [B5] using(by omega:(B5 f).length<=10000000))
 rw[e,V2]at this;unfold H8;rw[show(0:Int)=((0:Nat):Int) from rfl]
 show((Ad (D5 f vs) (((0:Nat):Int),f.Params,f.Ret,f.Blocks,l,t,[])).bind _)=_
 rw[this,Aj]
 rfl
end
theorem sx{σ X:Type}(mk:Int->σ)(U:List Be)(p:Be->Bool)(f:σ->Option (LR σ X))(yes no:X)(hk:∀ i:Nat,i<U.length->f (mk i)=some (bif p (U.getD i default) then .next (mk ((i:Int)+1)) else .done no))(he:f (mk U.length)=some (.done yes)) :
  ∀ k i:Nat,i+k=U.length->Ad f (mk i)=some (bif (U.drop i).all p then yes else no)
 | 0,i,h=>by
  obtain rfl:i=U.length:=by omega
  rw[Ak he]
  simp
 | k+1,i,h=>by
  have hi:i<U.length:=by omega
  have hdr:U.drop i=U.getD i default::U.drop (i+1):=by simp_all
  have hx:=hk i hi;rw[hdr,FO]
  cases hp:p _ with
  | true=>
   rw[hp]at hx;rw[Aq hx,show((i:Int)+1)=(i+1:Nat) by omega,sx mk U p f yes no hk he k _ (by omega),Jj]
  | false=>
   rw[hp]at hx;rw[Ak hx]
   rfl
theorem QE(d:Cd)(l:List Cd)(v:Int):Np (d::l) v=bif d.V==v then 0 else bif decide (Np l v<0) then -1 else Np l v+1:=by
 unfold Np;rw[List.findIdx?_cons]
 cases d.V==v with
 | true=>rfl
 | false=>
  grind
theorem RB(v:Int):∀ l:List Cd,Ke (dv l) v = !decide (Np l v<0)
 | []=>rfl
 | d::l=>by
  rw[QE]
  show((v==d.V) || Ke (dv l) v)=_
  rw[RB v l,show(v==d.V)=(d.V==v) by grind]
  cases d.V==v with
  | true=>rfl
  | false=>
   grind
theorem GL(v:Int):∀ l:List Cd,¬ Np l v<0->Mc (default:Ax) (dv l) v=ST (defOf l v)
 | [],h=>absurd (show -1<0 by decide) h
 | d::l,h=>by
  unfold defOf;rw[QE]at h ⊢
  show(bif v==d.V then ST d else Mc _ (dv l) v)=_
  rw[show(v==d.V)=(d.V==v) by grind]
  cases hb:d.V==v with
  | true=>rfl
  | false=>
   rw[hb]at h
   by_cases hn:Np l v<0
   ·simp[hn]at h
   ·have hz :=Dl hn;simp only[Ar,hz];rw[GL v l hn,show(Np l v+1).toNat=(Np l v).toNat+1 by omega]
    rfl
def mz(f:TFunc)(d:Cd):Prop:=d.Block = -1\/(As d.Block f.Blocks.length/\d.At<Tb f d.Block/\d.At<1000)
def vK(f:TFunc)(u:C9):Prop:=As u.Block f.Blocks.length/\0<=u.At
theorem tb{f:TFunc}(hf:OkF f):∀ d∈Bg f,mz f d:=λd hd=>by
 rcases zzL13.1 hd with h|h
 ·obtain⟨i,_,hi⟩:=zzL76.1 h;rw[zzL24.1 hi];exact .inl rfl
 ·obtain⟨i,hi,h⟩:=zzL76.1 h
  have hi :=by simpa using hi
  have hB:=hf.block _ (Ai (d:=default) hi);have ho:Tb f i=(f.Blocks.getD i default).Ops.length:=rfl;rcases zzL13.1 h with h|h
  ·obtain⟨k,hk,h⟩:=zzL76.1 h;rw[zzL24.1 h];refine .inr ⟨Ag hi,?_,?_⟩
   ·grind
   ·grind
  ·obtain⟨k,hk,h⟩:=zzL76.1 h
   have hk:k<(f.Blocks.getD i default).Ops.length:=by simpa using hk
   cases hg:decide (0<(Pr _).1) with
   | false=>rw[hg]at h;cases h
   | true=>
    rw[hg]at h;rw[zzL24.1 h];refine .inr ⟨Ag hi,?_,?_⟩
    ·grind
    ·show(k:Int)<1000;have:=hB.ops;omega
theorem uz{f:TFunc}(hfit:∀ b∈f.Blocks,∀ p∈b.Phis,p.Args.length<=p.From.length/\∀ x∈p.From,As x f.Blocks.length):∀ u∈B5 f,vK f u:=λu hu=>by
 obtain⟨i,hi,h⟩:=zzL76.1 hu
 have hi :=by simpa using hi
 have hmem:=Ai (d:=default) hi;rcases zzL13.1 h with h|h
 ·rcases zzL13.1 h with h|h
  ·obtain⟨k,hk,h⟩:=zzL76.1 h
   have hk :=by simpa using hk
   obtain⟨j,hj,h⟩:=zzL76.1 h;have hj:=zzL84.1 hj;have hq:=hfit _ hmem _ (Ai (d:=default) hk);rw[zzL24.1 h];exact⟨hq.2 _ (Ai (by omega)),by grind⟩
  ·obtain⟨k,hk,h⟩:=zzL76.1 h;obtain⟨j,hj,h⟩:=zzL76.1 h;rw[zzL24.1 h];exact⟨Ag hi,by grind⟩
 ·unfold EI at h
  have:u=⟨(f.Blocks.getD i default).End.Arg,i,1000,(f.Ret,1)⟩\/u=⟨(f.Blocks.getD i default).End.Arg,i,1000,(1,1)⟩:=by
   grind
  rcases this with rfl|rfl<;>exact⟨Ag hi,by grind⟩
theorem xB{f:TFunc}(h:Fi f=true):∀ b∈f.Blocks,∀ p∈b.Phis,p.Args.length<=p.From.length/\∀ x∈p.From,As x f.Blocks.length:=λb hb p hp=>by
 have hs :=by simp only[Fi,A1]at h;exact h.1
 refine⟨YK h b hb p hp,λx hx=>?_⟩;obtain⟨i,hi,rfl⟩:=N6 hb;simp only[Fi,A1]at h;have h1:=wl h.2 i hi;simp only[L6,A1,zzL28]at h1;rw[An _ _ _ hi]at h1;have h2:=h1.2 p hp;simp only[Jt,A1,Dq]at h2;rw[h2.1]at hx;obtain⟨q,rfl,hq,_⟩:=(CE  (Rj hs)  (by rw[Pc];exact hi)).1 hx;exact Ag (by rw[Pc]at hq;exact hq)
theorem gt{f:TFunc}(h:Fi f=true){b:Int}(hb:As b f.Blocks.length):MW (Er f) 0 b=true:=by
 have hs :=by simp only[Fi,A1]at h;exact h.1
 have hm:=Rj hs;have hlen:=Pc f
 have hpos:0<(Bu f).length:=by have:=(shape_iff.1 hs).1.1;omega
 obtain⟨P,hP,o,ht⟩:=mS hm hpos
 have e:Er f=CN (Bu f) 0:=by
  unfold Er SQ;rw[if_pos ⟨dW hm,Int.le_refl _,by show(0:Int)<(Bu f).length;omega⟩]
  rfl
 obtain⟨k,rfl⟩:∃ k:Nat,b=k:=⟨b.toNat,(K9 hb.1).symm⟩
 have hk:k<f.Blocks.length:=by have:=hb.2;omega
 simp only[Fi,A1]at h;have h1:=wl h.2 k hk;simp only[L6,A1]at h1;have hr :=(IV (Zb hm) hpos k).1 h1.1.1;rw[e];refine(ht.over_dom o hpos (by omega)).2 ⟨rc_iff.2 hr,λha=>?_⟩;exact(av_iff.1 ha).1 rfl
theorem AW{l:List C9}{g:C9->Be}{p:Be->Bool}{q:C9->Bool}(h:∀ u∈l,p (g u)=q u):(l.map g).all p=l.all q:=by
 grind
def tf(vs:List (Int×Ax))(u:Be):Bool:=((Mc (default:Ax) vs u.v).shape.1==u.shape.1)&&(((Mc (default:Ax) vs u.v).shape.2==u.shape.2)&&true)
def FZ(vs:List (Int×Ax))(t:List Int)(u:Be):Bool:=bif (Mc (default:Ax) vs u.v).place.block==u.place.block then decide ((Mc (default:Ax) vs u.v).place.at_<u.place.at_) else MW t (Mc (default:Ax) vs u.v).place.block u.place.block
theorem nr{f:TFunc}(hs:Fi f=true){D:List Cd}(hD:∀ d∈D,mz f d){u:C9}(hu:vK f u)(hfd:Og D u=true):FZ (dv D) (Er f) (Ju f u)=FA D (Er f) u:=by
 have hF:¬ Np D u.V<0:=by simpa [Og] using hfd
 have hin:=cy hF;have hd:mz f (defOf D u.V):=hD _ (by unfold defOf;exact Ai (by have:=hin.1;have:=hin.2;omega));have hg:Mc (default:Ax) (dv D) (Ju f u).v=ST (defOf D u.V):=GL u.V D hF;unfold FZ FA;rw[hg]
 generalize defOf D u.V=d at *
 have hub:=hu.1.1
 have hul:0<=Tb f u.Block:=by unfold Tb;omega
 have hat:∀ a:Int,a<0\/(a<Tb f u.Block/\a<1000)->decide (a<(Ju f u).place.at_)=decide (a<u.At)\/a<0:=λa ha=>by
  rcases ha with ha|ha
  ·exact .inr ha
  ·refine .inl ?_
   show decide (a<bif u.At==1000 then Tb f u.Block else u.At)=_
   by_cases h:u.At=1000
   ·rw[h];simp only[show((1000:Int)==1000)=true from rfl,Af];rw[F6 ha.1,F6 ha.2]
   ·have:(u.At==1000)=false:=by simpa using h
    rw[this];rfl
 have hpos:0<=(Ju f u).place.at_:=by
  show 0<=bif u.At==1000 then Tb f u.Block else u.At
  cases u.At==1000
  ·exact hu.2
  ·exact hul
 have hblk:(Ju f u).place.block=u.Block:=rfl;rw[hblk];rcases hd with hd|⟨hd1,hd2,hd3⟩
 ·have e:(ST d).place=⟨0,-1⟩:=by show vS d=_;unfold vS;rw[hd];rfl
  rw[e,hd,F6 (show(-1:Int)<0 by decide)];rw[Bool.true_or,Bool.true_or,gt hs hu.1,F6 (show(-1:Int)<(Ju f u).place.at_ by omega)]
  cases(0:Int)==u.Block<;>rfl
 ·have hn:¬ d.Block<0:=by have:=hd1.1;omega
  have e:(ST d).place=⟨d.Block,d.At⟩:=by show vS d=_;unfold vS;rw[Dl hn];rfl
  rw[e,Dl hn,Bool.false_or]
  cases hb:d.Block==u.Block with
  | true=>
   have hbe:d.Block=u.Block:=by simpa using hb
   simp only[Af,Jj,Dt,GV,Bool.or_false];rcases hat d.At (.inr ⟨by rw[<- hbe];exact hd2,hd3⟩) with h|h
   ·exact h
   ·rw[F6 (by omega),F6 (by have:=hu.2;omega)]
  | false=>
   simp only[Ar,GV,Bool.false_or,Mu,Jj];unfold MW
   by_cases hm:Rs (Er f) d.Block u.Block=d.Block
   ·rw[hm]
    have:(d.Block !=-2)=true:=by simp;omega
    simp[this]
   ·have:(Rs (Er f) d.Block u.Block==d.Block)=false:=by simpa using hm
    simp[this,bne]
section
variable {f:TFunc} (l:Int) (vs:List (Int×Ax))
def mt(f:TFunc)(l:Int)(U:List Be)(i:Int):Int×List Int×Int×List Ab×Int×List Int×List Be:=(i,f.Params,f.Ret,f.Blocks,l,Er f,U)
def mu(f:TFunc)(l:Int)(U:List Be):List Int×Int×List Ab×Int×List Int×List Be:=(f.Params,f.Ret,f.Blocks,l,Er f,U)
theorem tP(U:List Be)(hU:U.length<9223372036854775808):Ad (Fm vs (f,l,Er f,U)) (mt f l U 0)=some (bif U.all (λu=>Ke vs u.v) then .inl (mu f l U) else .inr (mu f l U)):=by
 have:=sx (mt f l U) U (λu=>Ke vs u.v) (Fm vs (f,l,Er f,U)) _ _ (λi hi=>by
  unfold Fm mt Lt
  have hd:decide (i<(U.length:Int))=true:=by simpa using hi
  simp only[hd, Aa (Ag hi),Co, A0 hi hU]
  cases Ke vs _<;>rfl) (by unfold Fm mt;simp;rfl) U.length 0 (by omega)
 exact this
theorem tQ(U:List Be)(hU:U.length<9223372036854775808):Ad (Fn vs U) (mt f l U 0)=some (bif U.all (tf vs) then .inl (mu f l U) else .inr (mu f l U)):=by
 have:=sx (mt f l U) U (tf vs) (Fn vs U) _ _ (λi hi=>by
  unfold Fn mt Nr
  have hd:decide (i<(U.length:Int))=true:=by simpa using hi
  simp only[hd, Aa (Ag hi),Co, A0 hi hU];unfold tf
  cases(((Mc _ vs _).shape.1==(U.getD i _).shape.1)&&(((Mc _ vs _).shape.2==(U.getD i _).shape.2)&&true))<;>rfl) (by unfold Fn mt;simp;rfl) U.length 0 (by omega)
 exact this
theorem tR(htl:(Er f).length<=1000)(U:List Be)(hU:U.length<9223372036854775808):Ad (Fo vs U) (mt f l U 0)=some (bif U.all (FZ vs (Er f)) then .inl (mu f l U) else .inr (mu f l U)):=by
 have:=sx (mt f l U) U (FZ vs _) (Fo vs U) _ _ (λi hi=>by
  have hx:Ia (U.getD i default) f l (Er f) vs U=some (FZ vs (Er f) (U.getD i default),f,l,Er f,U):=by
   unfold Ia FZ;rw[xH htl]
   cases(Mc _ vs _).place.block==(U.getD i _).place.block<;>rfl
  unfold Fo mt
  have hd:decide ((i:Int)<U.length)=true:=by simpa using hi
  simp only[hd, Aa (Ag hi),Co];rw[ hx, A0 hi hU]
  cases FZ vs _ _<;>rfl) (by unfold Fo mt;simp;rfl) U.length 0 (by omega)
 exact this
end
def eU(f:TFunc):Int:=bif !(B5 f).all (Og (Bg f)) then 7 else bif !(B5 f).all (FB (Bg f)) then 6 else bif !(B5 f).all (FA (Bg f) (Er f)) then 7 else 0
theorem w8{f:TFunc}(hf:OkF f)(hs:Fi f=true)(l:Int):∃ U,Km f l (Er f) (dv (Bg f)) []=some (eU f,f,l,Er f,U):=by
 have hfit:=xB hs;have hul:=LE hf
 have hsB :=by simp only[Fi,A1]at hs;exact hs.1
 refine⟨(B5 f).map (Ju f),?_⟩
 have hU:((B5 f).map (Ju f)).length<9223372036854775808:=by grind
 have h1:=tP (f:=f) l (dv (Bg f)) _ hU;have h2:=tQ (f:=f) l (dv (Bg f)) _ hU;have h3:=tR  l (dv (Bg f)) (eQ hsB) _ hU;rw[AW (q:=Og _) (λu _=>RB u.V _)]at h1;unfold Km eU Tc;rw[lM hf l _ _ hfit,Aj];rw[show(Ad _ ((0:Int),f.Params,f.Ret,f.Blocks,l,Er f,(B5 f).map _))=_ from h1,Aj];have fin:∀ e ,Ad P0 (e,f.Params,f.Ret,f.Blocks,l,Er f,(B5 f).map (Ju f))=some _:=λe=>Ak rfl
 cases hfd:(B5 f).all _ with
 | false=>simp only[Ar,Mu,Af,mu,Aj,fin]
 | true=>
  have hmf:=zzL28.1 hfd
  rw[AW (q:=FB _) (λu hu=>by
   have:=hmf u hu;simp only[Og,Rm,TC]at this;have hg:Mc _ _ (Ju f u).v=ST _:=GL u.V _ this;unfold tf FB
   rw[hg];rfl)]at h2
  rw[AW  (λu hu=>nr hs (tb hf) (uz hfit u hu) (hmf u hu))]at h3;simp only[Af,Dt, mu];rw[show(Ad _ ((0:Int),f.Params,f.Ret,f.Blocks,l,Er f,(B5 f).map _))=_ from h2,Aj]
  cases(B5 f).all _ with
  | false=>simp only[Ar,Mu,Af,mu,Aj,fin]
  | true=>
   simp only[Af,Dt, mu];rw[show(Ad _ ((0:Int),f.Params,f.Ret,f.Blocks,l,Er f,(B5 f).map _))=_ from h3]
   cases(B5 f).all _ with
   | false=>simp only[Ar,Mu,Af,mu,Aj,fin]
   | true=>simp only[Af,Dt,Ar,mu,Aj]
theorem tX{f:TFunc}(h:Sm f)(l:Int)(h0:0<=l)(h2:l<=2):∃ t u vs,J0 f l [] []=some (F9 f l,f,l,t,u,vs)/\(F9 f l=0->vs=dv (Bg f)):=by
 have hc:F9 f l=bif !Qb f then 4 else SV f l:=by
  unfold F9;rw[Dl (by omega),Dl (by omega)];rfl
 rw[hc];unfold J0;rw[w7 f h.1,Aj]
 cases hm:Qb f with
 | false=>simp_all
 | true=>
  have hf:=kF h hm;simp only[    SV];obtain⟨t',hsh,hst⟩:=oT hf l [] [];rw[hsh,Aj]
  cases hs:Fi f with
  | false=>simp_all
  | true=>
   obtain rfl:=hst hs;rw[tO hf l h0 h2,Aj]
   cases U1 f l with
   | false=>simp_all
   | true=>
    obtain⟨vs,hd,hv⟩:=lO hf l _ [];rw[hd,Aj]
    cases hdd:(List.range _).all _ with
    | false=>grind
    | true=>
     obtain rfl:=hv hdd;obtain⟨U,hu⟩:=w8 hf hs l;rw[hu];refine⟨Er f,U,dv _,?_,λ_=>rfl⟩
     show(bif eU f !=0 then some _ else some _)=some (eU f,f,l,Er f,U,dv _)
     cases hz:eU f !=0 with
     | true=>rfl
     | false=>
      grind
theorem tE(f:TFunc)(l:Int)(h:Sm f):Sj f l=some (F9 f l):=by
 unfold Sj
 by_cases h0:l<0
 · unfold F9;rw[F6 h0];rfl
 ·by_cases h2:2<l
  · unfold F9;rw[Dl h0,F6 h2];rfl
  ·obtain⟨t,u,vs,hw,_⟩:=tX h l (by omega) (by omega);rw[Dl h0,Dl h2,hw];rfl
abbrev bA(f:TFunc)(i:Nat):Ab:=f.Blocks.getD i default
def Dr(f:TFunc)(i:Nat)(k:Nat):Int:=(bA f i).End.To.getD k 0
def HF(f:TFunc)(i:Nat):List Int:=(Cc (Bu f)).getD i []
structure Rt(f:TFunc):Prop where
 lo:1<=f.Blocks.length
 hi:f.Blocks.length<=64
 to:∀ i,i<f.Blocks.length->∀ k,k<(bA f i).End.To.length->0<Dr f i k/\Dr f i k<f.Blocks.length
 one:∀ i,i<f.Blocks.length->(bA f i).End.Kind=1->(bA f i).End.To.length=1
 two:∀ i,i<f.Blocks.length->(bA f i).End.Kind=2->(bA f i).End.To.length=2
 may:Ny (Bu f)=true
 ok:OkF f
theorem CH{f:TFunc}(h:Sm f)(hc:F9 f 2=0):Rt f:=by
 have hz:=(Pq   (by omega) (by omega)).1 hc
 have hs :=by
  have:=hz.2.1;unfold Fi at this;rw[A1]at this;exact this.1
 obtain⟨⟨h1,h2⟩,h3⟩:=shape_iff.1 hs
 have hw:∀ i,i<f.Blocks.length->((bA f i).End.To.length:Nat)=U4 (bA f i).End.Kind:=λi hi=>by
  have:=h3 i hi;unfold M6 BK at this;simp only[A1,Dq]at this;exact this.1.2
 refine⟨h1,h2,λi hi k hk=>?_,λi hi hk=>?_,λi hi hk=>?_,Rj hs,kF h hz.1⟩
 ·exact toB_iff.1 (ZV (h3 i hi)) _ (Ai  hk)
 ·have:=hw i hi;rw[hk,show U4 1=1 from rfl]at this;omega
 ·have:=hw i hi;rw[hk,show U4 2=2 from rfl]at this;omega
theorem kB{f:TFunc}{i:Nat}(hi:i<f.Blocks.length):(Bu f).getD i []=JA (bA f i).End.To:=by
 unfold Bu;rw[Si hi];rfl
theorem pw(f:TFunc):(Cc (Bu f)).length=f.Blocks.length:=by rw[Pv,Pc]
theorem Yk{f:TFunc}(R:Rt f){y:Nat}(hy:y<f.Blocks.length){x:Int}:x∈HF f y↔∃ p:Nat,x=(p:Int)/\p<f.Blocks.length/\(y:Int)∈(bA f p).End.To:=by
 unfold HF;have hl:=Pc f;rw[CE R.may (by omega)]
 constructor
 ·rintro⟨p,h1,h2,h3⟩;rw[pR R.may (by omega),kB (by omega),(ED _).2]at h3;exact⟨p,h1,by omega,h3⟩
 ·rintro⟨p,h1,h2,h3⟩;exact⟨p,h1,by omega,by rw[pR R.may (by omega),kB (by omega),(ED _).2];exact h3⟩
theorem px{f:TFunc}(R:Rt f)(i:Nat):(HF f i).length<=64:=by
 unfold HF
 by_cases hi:i<(Cc (Bu f)).length
 ·exact(Tz R.may).2 _ (Ai hi)
 ·grind
def Nh(f:TFunc)(a x:Int):Bool:=((bA f x.toNat).End.Kind==1)&&decide ((bA f x.toNat).Phis.length=0)&&decide (HF f x.toNat=[a])
theorem tD{f:TFunc}(R:Rt f)(a x:Int)(hx:As x f.Blocks.length):Ge x f.Blocks (Cc (Bu f)) a=some (bif Nh f a x then(x,Dr f x.toNat 0,true) else(-1,-1,false)):=by
 have hxn:x.toNat<f.Blocks.length:=by have:=hx.1;have:=hx.2;omega
 unfold Ge Nh;rw[Aa hx]
 have hlen:As x (Cc (Bu f)).length:=by rw[pw];exact hx
 rw[Aa (λ_=>hlen)]
 by_cases hk:(bA f x.toNat).End.Kind=1
 ·have hk':((f.Blocks.getD x.toNat default).End.Kind !=1)=false:=by simpa using hk
  have hto:=R.one _ hxn hk
  by_cases hp:(bA f x.toNat).Phis.length=0
  ·have hp':decide ((0:Int)<(f.Blocks.getD x.toNat default).Phis.length)=false:=by grind
   rw[hk',Ar,hp',show(false==false)=true from rfl,Af,OZ _ _ (by simp),Aj]
   have e1:((bA f x.toNat).End.Kind==1)=true:=by simpa using hk
   rw[e1,F6 hp,Jj];unfold HF Dr
   cases decide ((Cc _).getD _ []=[a]) with
   | true=>rw[Dt, Aa (show As 0 _ from⟨by omega,by grind⟩)];rfl
   | false=>rfl
  ·grind
 ·grind
def zH:THammock:=⟨0,0,0,0⟩
def lK(f:TFunc)(a:Int)(x y:Int):Bool:=Nh f a x&&Nh f a y&&(Dr f x.toNat 0==Dr f y.toNat 0)&&!(Dr f x.toNat 0==a)
def WT(f:TFunc)(a:Int)(x y:Int):Bool:=Nh f a x&&(Dr f x.toNat 0==y)&&!(y==a)
def BH(f:TFunc)(i:Nat):Option THammock:=
 bif ((bA f i).End.Kind==2)&&!(Dr f i 0==Dr f i 1) then
  bif lK f i (Dr f i 0) (Dr f i 1) then some ⟨i,Dr f i 0,Dr f i 1,Dr f (Dr f i 0).toNat 0⟩ else
  bif WT f i (Dr f i 0) (Dr f i 1) then some ⟨i,Dr f i 0,-1,Dr f i 1⟩ else
  bif WT f i (Dr f i 1) (Dr f i 0) then some ⟨i,-1,Dr f i 1,Dr f i 0⟩ else none
 else none
section
variable {f:TFunc} (R:Rt f) {a:Int} {i:Nat} (hi:i<f.Blocks.length) (hk:(bA f i).End.Kind=2)
include R hi hk
theorem P5(k:Nat)(hk2:k<2):As (Dr f i k) f.Blocks.length:=by
 have:=R.to i hi k (by rw[R.two i hi hk];exact hk2);exact⟨by omega,this.2⟩
theorem tG:Na i (bA f i).End.To f.Blocks (Cc (Bu f)) i f.Blocks (Cc (Bu f)) i =
  some (bif lK f i (Dr f i 0) (Dr f i 1) then(⟨i,Dr f i 0,Dr f i 1,Dr f (Dr f i 0).toNat 0⟩,true) else(zH,false)):=by
 have h2:=R.two i hi hk;unfold Na;rw[Aa (⟨by omega,by omega⟩)];have e0:=tD R i _ (P5 R hi hk 0 (by omega));have e1:=tD R i _ (P5 R hi hk 1 (by omega));have g0:(bA f i).End.To.getD (0:Int).toNat 0=Dr f i 0:=rfl;have g1:(bA f i).End.To.getD (1:Int).toNat 0=Dr f i 1:=rfl;rw[g0,g1,e0,Aj,Aa (⟨by omega,by omega⟩),e1,Aj];unfold lK
 cases Nh f i _ with
 | false=>rfl
 | true=>
  cases Nh f i _ with
  | false=>rfl
  | true=>
   simp only[Af,   bne]
   cases(Dr f _ 0==Dr f _ 0) with
   | false=>rfl
   | true=>cases(Dr f _ 0==i)<;>rfl
theorem tH:Kr i (bA f i).End.To f.Blocks (Cc (Bu f)) i =
  some (bif WT f i (Dr f i 0) (Dr f i 1) then(⟨i,Dr f i 0,-1,Dr f i 1⟩,true) else(zH,false)):=by
 have h2:=R.two i hi hk;unfold Kr;rw[Aa (⟨by omega,by omega⟩)];have e0:=tD R i _ (P5 R hi hk 0 (by omega));have g0:(bA f i).End.To.getD (0:Int).toNat 0=Dr f i 0:=rfl;have g1:(bA f i).End.To.getD (1:Int).toNat 0=Dr f i 1:=rfl;rw[g0,g1,e0,Aj,Aa (⟨by omega,by omega⟩),Kt,Aj];unfold WT
 cases Nh f i _ with
 | false=>rfl
 | true=>
  simp only[Af,   bne]
  cases h:(Dr f _ 0==Dr f i 1) with
  | false=>rfl
  | true=>
   have h' :=by simpa using h
   rw[h']
   cases(Dr f i 1==i)<;>rfl
theorem tI:Ks i (bA f i).End.To f.Blocks (Cc (Bu f)) i =
  some (bif WT f i (Dr f i 1) (Dr f i 0) then(⟨i,-1,Dr f i 1,Dr f i 0⟩,true) else(zH,false)):=by
 have h2:=R.two i hi hk;unfold Ks;rw[Aa (⟨by omega,by omega⟩)];have e1:=tD R i _ (P5 R hi hk 1 (by omega));have g0:(bA f i).End.To.getD (0:Int).toNat 0=Dr f i 0:=rfl;have g1:(bA f i).End.To.getD (1:Int).toNat 0=Dr f i 1:=rfl;rw[g0,g1,Kt,Aj,Aa (⟨by omega,by omega⟩),e1,Aj];unfold WT
 cases Nh f i _ with
 | false=>rfl
 | true=>
  simp only[Af,   bne];rw[show(Dr f i 0==Dr f _ 0)=(Dr f (Dr f i 1).toNat 0==Dr f i 0) by grind]
  cases(Dr f _ 0==Dr f i 0) with
  | false=>rfl
  | true=>cases(Dr f i 0==i)<;>rfl
end
def cM(f:TFunc):List THammock:=(List.range f.Blocks.length).flatMap λi=>(BH f i).toList
theorem YM{α:Type}(o:Option α):o.toList.length<=1:=by cases o<;>simp
theorem nt{f:TFunc}(R:Rt f){i:Nat}(hi:i<f.Blocks.length)(l:List THammock)(hl:l.length<=0+i*1)(c:Int) :
  Ob f (J9 (Bu f),c) (l,(i:Int))=some (.next (l++(BH f i).toList,(i:Int)+1)):=by
 have hroom:(1000:Nat)<=room:=by decide
 have hi64:=R.hi;unfold Ob BH;have hg:f.Blocks.getD (i:Int).toNat default=bA f i:=rfl;simp only[hg,B4 hi,Af,Aa (Ag hi),w1 (show i<4611686018427387904 by omega)]
 have hap:∀ h:THammock,l.length+[h].length<=room:=λh=>by simp;omega
 have ie :=by omega
 by_cases hk:(bA f i).End.Kind=2
 ·have hk':((bA f i).End.Kind !=2)=false:=by simpa using hk
  have hk2:((bA f i).End.Kind==2)=true:=by simpa using hk
  have h2:=R.two i hi hk;have i0:As (0:Int) (bA f i).End.To.length:=⟨by omega,by omega⟩;have i1:As (1:Int) (bA f i).End.To.length:=⟨by omega,by omega⟩;simp only[hk',hk2,Aa (λ_=>i0),Aa (λ_=>i1),Ar];have g0:(bA f i).End.To.getD (0:Int).toNat 0=Dr f i 0:=rfl;have g1:(bA f i).End.To.getD (1:Int).toNat 0=Dr f i 1:=rfl;rw[g0,g1]
  cases(Dr f i 0==Dr f i 1) with
  | true=>simp[ie]
  | false=>
   have hpred:(J9 (Bu f)).Pred=Cc (Bu f):=rfl;simp only[Ar, Af,S8,Aj,hpred,tG R hi hk,tH R hi hk,tI R hi hk]
   cases lK f i (Dr f i 0) (Dr f i 1) with
   | true =>  rw[Ac (hap _)];simp[ie]
   | false=>
    simp only[Ar]
    cases WT f i (Dr f i 0) (Dr f i 1) with
    | true =>  rw[Ac (hap _)];simp[ie]
    | false=>
     simp only[Ar]
     cases WT f i (Dr f i 1) (Dr f i 0) with
     | true =>  rw[Ac (hap _)];simp[ie]
     | false=>simp[ie]
 ·have hk':((bA f i).End.Kind !=2)=true:=by simpa using hk
  have hk2:((bA f i).End.Kind==2)=false:=by simpa using hk
  simp only[hk',hk2,Af, Ar];rw[Aa (λh=>by cases h),Aa (λh=>by cases h)];simp[ie]
theorem zo{f:TFunc}(h:Sm f):Lg f=some (bif F9 f 2==0 then cM f else[]):=by
 have hmax :=h.1.blocks;unfold Lg;rw[tE f 2 h,Aj]
 by_cases hc:F9 f 2=0
 ·have R:=CH h hc
  have hs :=by
   have:=((Pq   (by omega) (by omega)).1 hc).2.1;unfold Fi at this;rw[A1]at this;exact this.1
  rw[hc,show((0:Int)!=0)=false from rfl,show((0:Int)==0)=true from rfl,  zw f hmax,hs,Af,Aj];have hL:=Ls _ 0 1 _ (λi _=>YM _) _ (λacc i hi ha=>nt R hi acc ha 0)
   (λacc=>by unfold Ob;simp only[Dh,Ar]) f.Blocks.length 0 [] (by omega) (by simp)
  have hL':Ad _ ([],(0:Int))=_:=hL;rw[hL'];unfold Tc cM;rw[P7];rfl
 ·have e1:((F9 f 2)!=0)=true:=by simpa using hc
  have e2:((F9 f 2)==0)=false:=by simpa using hc
  rw[e1,e2,Af]
  rfl
theorem loop_first{X:Type}(f:Int->Option (LR Int X))(p:Nat->Bool)(out:Nat->X)(no:X)(n:Nat)(hn:∀ i,i<n->p i=false->f (i:Int)=some (.next (((i+1:Nat):Int))))
  (hf:∀ i,i<n->p i=true->f (i:Int)=some (.done (out i))) (he:f (n:Int)=some (.done no)) :
  (∃ i,i<n/\p i=true/\Ad f (0:Int)=some (out i))\/((∀ i,i<n->p i=false)/\Ad f (0:Int)=some no):=by
 suffices h:∀ k i,i+k=n->(∀ j,j<i->p j=false)->(∃ i',i'<n/\p i'=true/\Ad f (i:Int)=some (out i'))\/((∀ i,i<n->p i=false)/\Ad f (i:Int)=some no) from
  h n 0 (by omega) (λj hj=>absurd hj (V1 _))
 intro k
 induction k with
 | zero=>
  intro i hi hj
  obtain rfl:i=n:=by omega
  exact .inr ⟨hj,Ak he⟩
 | succ k ih=>
  intro i hi hj
  cases hp:p i with
  | true=>exact .inl ⟨i,by omega,hp,Ak (hf i (by omega) hp)⟩
  | false=>
   rw[Aq (hn i (by omega) hp)];refine ih (i+1) (by omega) λj hj2=>?_
   by_cases e:j=i
   ·subst e;exact hp
   ·exact hj j (by omega)
theorem f9{f:TFunc}{i:Nat}{h:THammock}(hh:BH f i=some h):h.At=i:=by
 unfold BH at hh
 revert hh
 cases(((bA f i).End.Kind==2)&&!(Dr f i 0==Dr f i 1))<;>cases lK f i (Dr f i 0) (Dr f i 1)<;>cases WT f i (Dr f i 0) (Dr f i 1)<;>cases WT f i (Dr f i 1) (Dr f i 0)<;>intro hh<;>cases hh<;>rfl
theorem mem_all{f:TFunc}{h:THammock}:h∈cM f↔∃ i,i<f.Blocks.length/\BH f i=some h:=by
 unfold cM;rw[zzL76]
 constructor
 ·rintro⟨i,h1,h2⟩;exact⟨i,zzL84.1 h1,by simpa using h2⟩
 ·rintro⟨i,h1,h2⟩;exact⟨i,zzL84.2 h1,by simpa using h2⟩
theorem sy{f:TFunc}:(cM f).length<=f.Blocks.length:=by
 unfold cM;have:=Jc 1 (λi=>(BH f i).toList) (List.range f.Blocks.length) (λi _=>YM _)
 simpa using this
def rR(f:TFunc)(h:THammock):Bool:=decide (As h.At f.Blocks.length)&&decide (BH f h.At.toNat=some h)
theorem is_mem{f:TFunc}{h:THammock}:rR f h=true↔h∈cM f:=by
 unfold rR;rw[mem_all,A1,Dq,Dq]
 constructor
 ·rintro⟨h1,h2⟩;exact⟨_,by have:=h1.1;have:=h1.2;omega,h2⟩
 ·rintro⟨i,h1,h2⟩;have:=f9 h2;exact⟨by rw[this];exact Ag h1,by rw[this,Ap];exact h2⟩
def XA(f:TFunc)(a:Int):THammock×Bool:=if As a f.Blocks.length then(match BH f a.toNat with|some h=>(h,true)|none=>(zH,false)) else(zH,false)
theorem lY{f:TFunc}{h:THammock}(hh:rR f h=true):XA f h.At=(h,true):=by
 unfold rR at hh;rw[A1,Dq,Dq]at hh;unfold XA;rw[if_pos hh.1,hh.2]
theorem lX{f:TFunc}{a:Int}(hh:∀ h,rR f h=true->h.At≠a):XA f a=(zH,false):=by
 unfold XA
 split
 ·rename_i hin
  cases ho:BH f a.toNat with
  | none=>rfl
  | some h=>
   have e:=f9 ho;have:((a.toNat:Nat):Int)=a:=K9 hin.1;exact absurd (e.trans this) (hh h (is_mem.2 (mem_all.2 ⟨_,by have:=hin.1;have:=hin.2;omega,ho⟩)))
 ·rfl
def Xl(f:TFunc):Bool:=F9 f 2==0
def allHR(f:TFunc):List THammock:=bif Xl f then cM f else[]
def O7(f:TFunc)(h:THammock):Bool:=Xl f&&rR f h
def Xv(f:TFunc)(a:Int):THammock×Bool:=bif Xl f then XA f a else(zH,false)
theorem isHR_mem{f:TFunc}{h:THammock}:O7 f h=true↔h∈allHR f:=by
 unfold O7 allHR
 cases Xl f with
 | true=>rw[Jj];exact is_mem
 | false=>simp
theorem xG{f:TFunc}(h:Sm f):Lg f=some (allHR f):=zo h
theorem lE{f:TFunc}:(allHR f).length<=f.Blocks.length:=by
 unfold allHR;cases Xl f
 ·simp
 ·exact sy
theorem un{f:TFunc}(h:Sm f):(allHR f).length<4611686018427387904:=by
 by_cases hc:Xl f=true
 ·have:=(CH h (by simpa [Xl] using hc)).hi;have:=lE (f:=f);omega
 ·unfold allHR;rw[Bool.eq_false_iff.2 hc];simp
theorem o4(v x:THammock):((v.At==x.At)&&((v.Then==x.Then)&&((v.Else==x.Else)&&((v.Join==x.Join)&&true))))=decide (v=x):=by
 cases v;cases x
 rw[Zd];simp[THammock.mk.injEq]
theorem Abj{f:TFunc}(h:Sm f)(v:THammock):Tw f v=some (O7 f v):=by
 unfold Tw Dk Ea;rw[xG h,Aj];have hn:=un h
 rcases loop_first (m_slices_Index_api_Hammock_api_Hammock_L1 (allHR f) v) (λi=>decide (v=(allHR f).getD i default)) (λi=>.inr (i:Int)) (.inl ()) (allHR f).length (λi hi hp=>by
   unfold m_slices_Index_api_Hammock_api_Hammock_L1
   simp only[B4 hi,Af,Ap,Aa (Ag hi),o4,hp,Ar,w1 (show i<4611686018427387904 by omega)]) (λi hi hp=>by
   unfold m_slices_Index_api_Hammock_api_Hammock_L1
   simp only[B4 hi,Af,Ap,Aa (Ag hi),o4,hp]) (by unfold m_slices_Index_api_Hammock_api_Hammock_L1;simp only[Dh,Ar]) with⟨i,hi,hp,hl⟩|⟨hp,hl⟩
 ·rw[hl];have hm:O7 f v=true:=isHR_mem.2 (by rw[Dq]at hp;rw[hp];exact Ai hi);rw[hm]
  simp
 ·rw[hl]
  have hm:O7 f v=false:=by
   rw[Bool.eq_false_iff];intro hm;obtain⟨i,hi,he⟩:=N6 (isHR_mem.1 hm);have:=hp i hi;rw[An _ _ _ hi,he]at this;simp at this
  rw[hm];rfl
def Mp(f:TFunc)(x:Int):List A2:=bif x !=-1 then(bA f x.toNat).Ops else[]
def IP(f:TFunc)(h:THammock):List A2:=Mp f h.Then++Mp f h.Else
theorem ZX{f:TFunc}(R:Rt f){i:Nat}(hi:i<f.Blocks.length){h:THammock}(hh:BH f i=some h) :
  (bA f i).End.Kind=2/\Dr f i 0≠Dr f i 1/\As h.Join f.Blocks.length/\h.Join≠i /\
  ((h.Then=Dr f i 0/\h.Else=Dr f i 1/\Nh f i h.Then=true/\Nh f i h.Else=true/\Dr f h.Then.toNat 0=h.Join/\Dr f h.Else.toNat 0=h.Join)\/(h.Then=Dr f i 0/\h.Else = -1/\h.Join=Dr f i 1/\Nh f i h.Then=true/\Dr f h.Then.toNat 0=h.Join)\/(h.Then = -1/\h.Else=Dr f i 1/\h.Join=Dr f i 0/\Nh f i h.Else=true/\Dr f h.Else.toNat 0=h.Join)):=by
 unfold BH at hh
 cases hk:(((bA f i).End.Kind==2)&&!(Dr f i 0==Dr f i 1)) with
 | false=>rw[hk]at hh;cases hh
 | true=>
  rw[hk,Af]at hh;simp only[A1,zzL46,Rm,zzL34]at hk;obtain⟨hk1,hk2⟩:=hk;have t0:=P5 R hi hk1 0 (by omega);have t1:=P5 R hi hk1 1 (by omega)
  have hb:∀ x,As x f.Blocks.length->Nh f i x=true->As (Dr f x.toNat 0) f.Blocks.length:=λx hx hm=>by
   have hxn:x.toNat<f.Blocks.length:=by have:=hx.1;have:=hx.2;omega
   unfold Nh at hm;simp only[A1,zzL46]at hm;have:=R.to _ hxn 0 (by rw[R.one _ hxn hm.1.1];omega);exact⟨by omega,this.2⟩
  refine⟨hk1,hk2,?_⟩
  cases h1:lK f i (Dr f i 0) (Dr f i 1) with
  | true=>
   rw[h1,Af]at hh;cases hh;unfold lK at h1;simp only[A1,zzL46,Rm,zzL34]at h1;obtain⟨⟨⟨a1,a2⟩,a3⟩,a4⟩:=h1;exact⟨hb _ t0 a1,a4,.inl ⟨rfl,rfl,a1,a2,rfl,a3.symm⟩⟩
  | false=>
   rw[h1,Ar]at hh
   cases h2:WT f i (Dr f i 0) (Dr f i 1) with
   | true=>
    rw[h2,Af]at hh;cases hh;unfold WT at h2;simp only[A1,zzL46,Rm,zzL34]at h2;obtain⟨⟨a1,a3⟩,a4⟩:=h2;exact⟨t1,a4,.inr (.inl ⟨rfl,rfl,rfl,a1,a3⟩)⟩
   | false=>
    rw[h2,Ar]at hh
    cases h3:WT f i (Dr f i 1) (Dr f i 0) with
    | true=>
     rw[h3,Af]at hh;cases hh;unfold WT at h3;simp only[A1,zzL46,Rm,zzL34]at h3;obtain⟨⟨a1,a3⟩,a4⟩:=h3;exact⟨t0,a4,.inr (.inr ⟨rfl,rfl,rfl,a1,a3⟩)⟩
    | false=>rw[h3]at hh;cases hh
theorem DT{f:TFunc}(R:Rt f){i:Nat}(hi:i<f.Blocks.length){h:THammock}(hh:BH f i=some h):(h.Then = -1\/As h.Then f.Blocks.length)/\(h.Else = -1\/As h.Else f.Blocks.length):=by
 obtain⟨hk,_,_,_,hc⟩:=ZX R hi hh;have t0:=P5 R hi hk 0 (by omega);have t1:=P5 R hi hk 1 (by omega);rcases hc with⟨a,b,_⟩|⟨a,b,_⟩|⟨a,b,_⟩
 ·exact⟨.inr (a▸t0),.inr (b▸t1)⟩
 ·exact⟨.inr (a▸t0),.inl b⟩
 ·exact⟨.inl a,.inr (b▸t1)⟩
theorem Iw{f:TFunc}(R:Rt f){x:Int}(hx:x = -1\/As x f.Blocks.length):(Mp f x).length<=512:=by
 unfold Mp
 by_cases e:x = -1
 ·subst e;exact Xj _
 ·rcases hx with hx|hx
  ·exact absurd hx e
  ·rw[show(x !=-1)=true by simpa using e,Af];exact(R.ok.block _ (Ai (by have:=hx.1;have:=hx.2;omega))).ops
theorem cX{f:TFunc}(R:Rt f)(h:THammock){k:Nat}(hk:k<2)(x:Int)(he:([h.Then,h.Else]:List Int).getD k 0=x)(hx:x = -1\/As x f.Blocks.length)(l:List A2)(hl:l.length<=512) :
  D8 f h (l,(k:Int))=some (.next (l++Mp f x,((k+1:Nat):Int))):=by
 have hroom:(2000:Nat)<=room:=by decide
 unfold D8;have hlen:=Iw R hx;simp only[Ap,he,B4 (show k<([h.Then,h.Else]:List Int).length from hk),Af,Aa (Ag (show k<([h.Then,h.Else]:List Int).length from hk)),w1 (show k<4611686018427387904 by omega)];unfold Mp at hlen ⊢
 by_cases e:x = -1
 ·subst e;rw[show((-1:Int)!=-1)=false from rfl,Ar,Ar,Aj,List.append_nil]
 ·have e':(x !=-1)=true:=by simpa using e
  rw[e']at hlen ⊢;rcases hx with hx|hx
  ·exact absurd hx e
  ·rw[Af]at hlen;rw[Af,Aa hx,Af,Aa (show l.length+(bA f x.toNat).Ops.length<=room by omega),Aj]
theorem zr{f:TFunc}(h:Sm f)(v:THammock):Kq f v=some (bif O7 f v then(IP f v,true) else([],false)):=by
 unfold Kq;rw[Abj h,Aj]
 cases hi:O7 f v with
 | false=>rfl
 | true=>
  rw[Dt,Ar,Af];unfold O7 at hi;rw[A1]at hi;have R:=CH h (by simpa [Xl] using hi.1);obtain⟨i,hin,ho⟩:=mem_all.1 (is_mem.1 hi.2);obtain⟨h1,h2⟩:=DT R hin ho;have s0:=cX R v (k:=0) (by omega) v.Then rfl h1 [] (by simp);have s1:=cX R v (k:=1) (by omega) v.Else rfl h2 ([]++Mp f v.Then) (by rw[V2];exact Iw R h1)
  have hL:Ad (D8 f v) (([]:List A2),(0:Int))=some (IP f v):=by
   have e0:Ad (D8 f v) (([]:List A2),(0:Int))=_:=Aq s0;rw[e0];have e1:Ad (D8 f v) ([]++Mp f v.Then,((0+1:Nat):Int))=_:=Aq s1;rw[e1];refine Ak ?_;unfold D8 IP;rw[V2];rfl
  rw[hL];rfl
theorem t6(l:List A2)(hl:l.length<4611686018427387904):C8 l=some (l.any λo=>o.Lanes !=1):=by
 unfold C8 Gj
 rcases loop_first (m_slices_IndexFunc_api_Op_api_Op_L1 l) (λi=>(l.getD i default).Lanes !=1) (λi=>.inr (i:Int)) (.inl ()) l.length (λi hi hp=>by
   unfold m_slices_IndexFunc_api_Op_api_Op_L1
   simp only[B4 hi,Af,Ap,Aa (Ag hi),Ma,Aj,hp,Ar,w1 (show i<4611686018427387904 by omega)]) (λi hi hp=>by
   unfold m_slices_IndexFunc_api_Op_api_Op_L1
   simp only[B4 hi,Af,Ap,Aa (Ag hi),Ma,Aj,hp]) (by unfold m_slices_IndexFunc_api_Op_api_Op_L1;simp only[Dh,Ar]) with⟨i,hi,hp,hl⟩|⟨hp,hl⟩
 ·rw[hl,List.any_eq_true.2 ⟨_,Ai hi,hp⟩]
  simp
 ·rw[hl]
  have:(l.any λo=>o.Lanes !=1)=false:=by
   rw[Bool.eq_false_iff];intro h;obtain⟨o,ho,hb⟩:=List.any_eq_true.1 h;obtain⟨i,hi,he⟩:=N6 ho;have:=hp i hi;rw[An _ _ _ hi,he,hb]at this
   cases this
  rw[this];rfl
def DY(f:TFunc)(v:THammock):Bool:=O7 f v&&(IP f v).all λo=>o.Lanes==1
theorem po{f:TFunc}(h:Sm f){v:THammock}(hi:O7 f v=true):(IP f v).length<=1024:=by
 unfold O7 at hi;rw[A1]at hi;have R:=CH h (by simpa [Xl] using hi.1);obtain⟨i,hin,ho⟩:=mem_all.1 (is_mem.1 hi.2);obtain⟨h1,h2⟩:=DT R hin ho;have:=Iw R h1;have:=Iw R h2;unfold IP;rw[Du];omega
theorem pG{f:TFunc}(h:Sm f)(v:THammock):Oc f v=some (DY f v):=by
 unfold Oc DY;rw[zr h,Aj]
 cases hi:O7 f v with
 | false=>rfl
 | true=>
  have hl:=po h hi;simp only[Af,show((true:Bool)==true)=true from rfl,t6 _ (show(IP f v).length<4611686018427387904 by omega),Aj,Jj]
  congr 1
  rw[List.not_any_eq_all_not]
  congr 1
  funext o
  simp[bne]
theorem uU(l:List Int)(a:Int):(bif ((l.length:Int)==1) then(l.getD (0:Int).toNat 0==a) else false)=decide (l=[a]):=by
 rcases l with _|⟨x,_|⟨y,l⟩⟩
 ·rfl
 ·rw[Zd];simp
 ·simp only[Rz];rw[show((((l.length+1+1:Nat)):Int)==1)=false by simp;omega,Ar]
  simp
theorem pN{f:TFunc}(R:Rt f)(a t x j:Int)(ht:As t f.Blocks.length) :
  F5 f (J9 (Bu f)) a t x j=some (bif x==-1 then t==j else(x==t)&&(Nh f a x&&(Dr f x.toNat 0==j))):=by
 unfold F5
 cases hx:(x==-1) with
 | true=>rfl
 | false=>
  rw[Ar,Ar]
  by_cases e:x=t
  ·subst e;have hp:(J9 (Bu f)).Pred=Cc (Bu f):=rfl
   have hpl:As x (Cc (Bu f)).length:=by rw[pw];exact ht
   have hxn:x.toNat<f.Blocks.length:=by have:=ht.1;have:=ht.2;omega
   have eb:f.Blocks.getD x.toNat default=bA f x.toNat:=rfl;have ep:(Cc (Bu f)).getD x.toNat []=HF f x.toNat:=rfl;rw[show(x !=x)=false by simp,Ar,show(x==x)=true by simp,Jj,hp,eb,ep,Aa ht,Aa hpl,Aa (λ_=>hpl),uU]
   have c0:∀ q:Bool,((((HF f x.toNat).length:Int)==1)==true)=true->As (0:Int) (HF f x.toNat).length:=λ_ hq=>by
    have:((HF f x.toNat).length:Int)=1:=by simpa using hq
    exact⟨by omega,by omega⟩
   rw[Aa (c0 true)]
   have e2:(((((bA f x.toNat).Phis.length:Int):Int)==0))=decide ((bA f x.toNat).Phis.length=0):=by rw[Zd];simp
   rw[e2]
   have e3:(bif (bif decide (HF f x.toNat=[a]) then decide ((bA f x.toNat).Phis.length=0) else false) then((bA f x.toNat).End.Kind==1) else false)=Nh f a x:=by
    unfold Nh
    cases decide (HF f x.toNat=[a])<;>cases decide ((bA f x.toNat).Phis.length=0)<;>cases((bA f x.toNat).End.Kind==1)<;>rfl
   rw[e3,Aa (λhq=>by
    have hm:Nh f a x=true:=by simpa using hq
    unfold Nh at hm;simp only[A1,zzL46]at hm
    exact⟨by omega,by rw[R.one _ hxn hm.1.1];omega⟩)]
   cases Nh f a x<;>rfl
  ·rw[show(x !=t)=true by simpa using e,Af,show(x==t)=false by simpa using e,GV]
def eK(f:TFunc)(a t x j:Int):Bool:=bif x==-1 then t==j else(x==t)&&(Nh f a x&&(Dr f x.toNat 0==j))
def zj(f:TFunc)(h:THammock):Bool:=
 decide (As h.At f.Blocks.length)&&decide (As h.Join f.Blocks.length)&&!(h.At==h.Join)&&!((h.Then==-1)&&(h.Else==-1)) &&
 (((bA f h.At.toNat).End.Kind==2)&&!(Dr f h.At.toNat 0==Dr f h.At.toNat 1))&&(eK f h.At (Dr f h.At.toNat 0) h.Then h.Join&&eK f h.At (Dr f h.At.toNat 1) h.Else h.Join)
theorem pJ{f:TFunc}(h:Sm f)(v:THammock):Js f v=some (Xl f&&zj f v):=by
 have hmax:f.Blocks.length<=maxLen:=h.1.blocks;unfold Js;rw[BM h 2,Aj]
 cases hc:Xl f with
 | false=>
  have:(F9 f 2 !=0)=true:=by unfold Xl at hc;simpa using hc
  rw[this,Af,GV]
 | true=>
  have hc0:F9 f 2=0:=by simpa [Xl] using hc
  have R:=CH h hc0
  have hs:Rl f=true:=by
   have:=((Pq (f:=f) (l:=2) (by omega) (by omega)).1 hc0).2.1;unfold Fi at this;rw[A1]at this;exact this.1
  rw[hc0,show((0:Int)!=0)=false from rfl,Ar,Jj];unfold zj
  have e1:(bif (bif (bif (decide (v.At<0)) then true else(decide ((f.Blocks.length:Int)<=v.At))) then true else(decide (v.Join<0))) then true else(decide ((f.Blocks.length:Int)<=v.Join))) = !(decide (As v.At f.Blocks.length)&&decide (As v.Join f.Blocks.length)):=by
   simp only[WS];rw[Zd];simp only[JI,Dq,Rm,Bool.and_eq_false_iff,TC];unfold As;omega
  rw[e1]
  by_cases hA:As v.At f.Blocks.length
  ·by_cases hJ:As v.Join f.Blocks.length
   ·rw[F6 hA,F6 hJ]
    have hAn:v.At.toNat<f.Blocks.length:=by have:=hA.1;have:=hA.2;omega
    cases hAJ:(v.At==v.Join) with
    | true=>rfl
    | false=>
     have e2:(bif (v.Then==-1) then(v.Else==-1) else false)=((v.Then==-1)&&(v.Else==-1)):=by cases(v.Then==-1)<;>rfl
     rw[e2]
     cases hTE:((v.Then==-1)&&(v.Else==-1)) with
     | true=>rfl
     | false=>
      have eb:f.Blocks.getD v.At.toNat default=bA f v.At.toNat:=rfl;simp only[Jj,Dt,Mu,Ar,Aa hA,eb]
      by_cases hk:(bA f v.At.toNat).End.Kind=2
      ·have h2:=R.two _ hAn hk;have i0:As (0:Int) (bA f v.At.toNat).End.To.length:=⟨by omega,by omega⟩;have i1:As (1:Int) (bA f v.At.toNat).End.To.length:=⟨by omega,by omega⟩;have g0:(bA f v.At.toNat).End.To.getD (0:Int).toNat 0=Dr f v.At.toNat 0:=rfl;have g1:(bA f v.At.toNat).End.To.getD (1:Int).toNat 0=Dr f v.At.toNat 1:=rfl;rw[Aa (λ_=>i0),Aa (λ_=>i1),g0,g1,show((bA f v.At.toNat).End.Kind !=2)=false by simpa using hk,show((bA f v.At.toNat).End.Kind==2)=true by simpa using hk,Ar,Jj]
       cases(Dr f v.At.toNat 0==Dr f v.At.toNat 1) with
       | true=>rfl
       | false=>
        rw[Ar,QW f hmax,hs,Af,Aj,Aa i0]
        show((F5 f (J9 (Bu f)) v.At (Dr f v.At.toNat 0) v.Then v.Join).bind _)=_
        rw[pN R _ _ _ _ (P5 R hAn hk 0 (by omega)),Aj,Aa (λ_=>i1),pN R _ _ _ _ (P5 R hAn hk 1 (by omega))];unfold eK
        cases(bif v.Then==-1 then Dr f v.At.toNat 0==v.Join else(v.Then==Dr f v.At.toNat 0)&&(Nh f v.At v.Then&&(Dr f v.Then.toNat 0==v.Join)))<;>rfl
      ·have e5:((bA f v.At.toNat).End.Kind !=2)=true:=by simpa using hk
       have e6:((bA f v.At.toNat).End.Kind==2)=false:=by simpa using hk
       rw[e5,e6,Af,Aa (λh=>by cases h),Aa (λh=>by cases h)]
       rfl
   ·rw[F6 hA,Dl hJ];rfl
  ·rw[Dl hA];rfl
theorem pT{f:TFunc}(R:Rt f){a:Int}{x:Int}(hx:As x f.Blocks.length)(hm:Nh f a x=true){p:Nat}(hp:p<f.Blocks.length){k:Nat}(hk:k<(bA f p).End.To.length)(ht:Dr f p k=x):(p:Int)=a:=by
 have hxn:x.toNat<f.Blocks.length:=by have:=hx.1;have:=hx.2;omega
 unfold Nh at hm;simp only[A1,Dq]at hm;have:(p:Int)∈HF f x.toNat:=(Yk R hxn).2 ⟨p,rfl,hp,by rw[K9 hx.1,<- ht];exact Ai hk⟩;rw[hm.2]at this
 simpa using this
theorem O9{f:TFunc}{a x:Int}(hm:Nh f a x=true):(bA f x.toNat).End.Kind=1:=by
 unfold Nh at hm;simp only[A1,zzL46]at hm;exact hm.1.1
theorem xF{f:TFunc}(R:Rt f)(v:THammock):zj f v=rR f v:=by
 rw[Zd]
 constructor
 ·intro h;unfold zj at h;simp only[A1,Dq,Rm,zzL34,zzL46]at h;obtain⟨⟨⟨⟨⟨hA,hJ⟩,hAJ⟩,hTE⟩,hk,hne⟩,h1,h2⟩:=h
  have hAn:v.At.toNat<f.Blocks.length:=by have:=hA.1;have:=hA.2;omega
  have hAc:((v.At.toNat:Nat):Int)=v.At:=K9 hA.1;have t0:=P5 R hAn hk 0 (by omega);have t1:=P5 R hAn hk 1 (by omega);unfold rR;rw[A1,Dq,Dq];refine⟨hA,?_⟩;unfold BH;rw[show((bA f v.At.toNat).End.Kind==2)=true by simpa using hk,show(Dr f v.At.toNat 0==Dr f v.At.toNat 1)=false by simpa using hne,Jj,Mu,Af,hAc]
  have hno:∀ x y:Int,As x f.Blocks.length->As y f.Blocks.length->Nh f v.At y=true->Dr f y.toNat 0=x->Nh f v.At x=true->False:=λx y hx hy my hyx mx=>by
   have hyn:y.toNat<f.Blocks.length:=by have:=hy.1;have:=hy.2;omega
   have:=pT R hx mx hyn (k:=0) (by rw[R.one _ hyn (O9 my)];omega) hyx
   have e:v.At.toNat=y.toNat:=by omega
   have:=O9 my;rw[<- e,hk]at this;exact absurd this (by decide)
  unfold eK at h1 h2
  by_cases eT:v.Then = -1
  ·have eE:v.Else≠-1:=λe=>by rw[eT,e]at hTE;cases hTE
   rw[show(v.Then==-1)=true by simpa using eT,Af,zzL46]at h1;rw[show(v.Else==-1)=false by simpa using eE,Ar,A1,A1,zzL46,zzL46]at h2;obtain⟨b1,b2,b3⟩:=h2;have b2':=b2;rw[b1]at b2 b3
   have hm0:Nh f v.At (Dr f v.At.toNat 0)=false:=by
    rw[Bool.eq_false_iff];exact λhm=>hno _ _ t0 t1 b2 (by rw[b3,h1]) hm
   have c1:lK f v.At (Dr f v.At.toNat 0) (Dr f v.At.toNat 1)=false:=by unfold lK;rw[hm0];rfl
   have c2:WT f v.At (Dr f v.At.toNat 0) (Dr f v.At.toNat 1)=false:=by unfold WT;rw[hm0];rfl
   have c3:WT f v.At (Dr f v.At.toNat 1) (Dr f v.At.toNat 0)=true:=by
    unfold WT;rw[b2,b3,h1]
    simp;exact λe=>hAJ e.symm
   rw[c1,c2,c3,Ar,Ar,Af]
   cases v;simp_all
  ·rw[show(v.Then==-1)=false by simpa using eT,Ar,A1,A1,zzL46,zzL46]at h1;obtain⟨a1,a2,a3⟩:=h1;rw[a1]at a2 a3
   by_cases eE:v.Else = -1
   ·rw[show(v.Else==-1)=true by simpa using eE,Af,zzL46]at h2
    have hm1:Nh f v.At (Dr f v.At.toNat 1)=false:=by
     rw[Bool.eq_false_iff];exact λhm=>hno _ _ t1 t0 a2 (by rw[a3,h2]) hm
    have c1:lK f v.At (Dr f v.At.toNat 0) (Dr f v.At.toNat 1)=false:=by unfold lK;rw[hm1,Bool.and_false];rfl
    have c2:WT f v.At (Dr f v.At.toNat 0) (Dr f v.At.toNat 1)=true:=by
     unfold WT;rw[a2,a3,h2]
     simp;exact λe=>hAJ e.symm
    rw[c1,c2,Ar,Af]
    cases v;simp_all
   ·rw[show(v.Else==-1)=false by simpa using eE,Ar,A1,A1,zzL46,zzL46]at h2;obtain⟨b1,b2,b3⟩:=h2;rw[b1]at b2 b3
    have c1:lK f v.At (Dr f v.At.toNat 0) (Dr f v.At.toNat 1)=true:=by
     unfold lK;rw[a2,b2,a3,b3]
     simp;exact λe=>hAJ e.symm
    rw[c1,Af]
    cases v;simp_all
 ·intro h;unfold rR at h;rw[A1,Dq,Dq]at h;obtain⟨hA,ho⟩:=h
  have hAn:v.At.toNat<f.Blocks.length:=by have:=hA.1;have:=hA.2;omega
  have hAc:((v.At.toNat:Nat):Int)=v.At:=K9 hA.1;obtain⟨hk,hne,hJ,hAJ,hc⟩:=ZX R hAn ho;have t0:=P5 R hAn hk 0 (by omega);have t1:=P5 R hAn hk 1 (by omega);rw[hAc]at hAJ hc
  have n0:Dr f v.At.toNat 0≠-1:=by have:=t0.1;omega
  have n1:Dr f v.At.toNat 1≠-1:=by have:=t1.1;omega
  unfold zj;simp only[A1,Dq,Rm,zzL34,zzL46];refine⟨⟨⟨⟨⟨hA,hJ⟩,λe=>hAJ e.symm⟩,?_⟩,hk,hne⟩,?_⟩
  ·rcases hc with⟨a,b,_⟩|⟨a,b,_⟩|⟨a,b,_⟩
   ·rw[a];simp[n0]
   ·rw[a];simp[n0]
   ·rw[b];simp[n1]
  ·unfold eK;rcases hc with⟨a,b,c,d,e,g⟩|⟨a,b,c,d,e⟩|⟨a,b,c,d,e⟩
   ·rw[<- a,<- b];rw[show(v.Then==-1)=false by rw[a];simpa using n0,show(v.Else==-1)=false by rw[b];simpa using n1,c,d,e,g]
    simp
   ·rw[<- a,b,<- c];rw[show(v.Then==-1)=false by rw[a];simpa using n0,d,e]
    simp
   ·rw[a,<- b,<- c];rw[show(v.Else==-1)=false by rw[b];simpa using n1,d,e]
    simp
theorem uB{f:TFunc}(h:Sm f)(v:THammock):Js f v=some (O7 f v):=by
 rw[pJ h];unfold O7
 cases hc:Xl f with
 | false=>rfl
 | true=>rw[xF (CH h (by simpa [Xl] using hc))]
def mr(f:TFunc)(a:Int)(s:Nat):Int:=bif (s:Int)==2 then -1 else Dr f a.toNat 0
def mq(f:TFunc)(a:Int)(s:Nat):Int:=bif (s:Int)==1 then -1 else Dr f a.toNat 1
theorem te{f:TFunc}(R:Rt f){a:Int}(hA:As a f.Blocks.length)(hk:(bA f a.toNat).End.Kind=2)(hc:Xl f=true)(h:Sm f)(s:Nat)(hs:s<3) :
  (∃ j,j<f.Blocks.length/\O7 f ⟨a,mr f a s,mq f a s,(j:Int)⟩=true/\Ad (m_lockstepref14_Find_L1 f a (s:Int)) (0:Int)=some (.inr (⟨a,mr f a s,mq f a s,(j:Int)⟩,true))) \/
  ((∀ j,j<f.Blocks.length->O7 f ⟨a,mr f a s,mq f a s,(j:Int)⟩=false)/\Ad (m_lockstepref14_Find_L1 f a (s:Int)) (0:Int)=some (.inl ())):=by
 have hAn:a.toNat<f.Blocks.length:=by have:=hA.1;have:=hA.2;omega
 have h2:=R.two _ hAn hk;have i0:As (0:Int) (bA f a.toNat).End.To.length:=⟨by omega,by omega⟩;have i1:As (1:Int) (bA f a.toNat).End.To.length:=⟨by omega,by omega⟩;have hhi:=R.hi
 have key:∀ j:Nat,j<f.Blocks.length->m_lockstepref14_Find_L1 f a (s:Int) (j:Int)=bif O7 f ⟨a,mr f a s,mq f a s,(j:Int)⟩ then some (.done (.inr (⟨a,mr f a s,mq f a s,(j:Int)⟩,true))) else some (.next (((j+1:Nat):Int))):=λj hj=>by
  unfold m_lockstepref14_Find_L1;have eb:f.Blocks.getD a.toNat default=bA f a.toNat:=rfl;have g0:(bA f a.toNat).End.To.getD (0:Int).toNat 0=Dr f a.toNat 0:=rfl;have g1:(bA f a.toNat).End.To.getD (1:Int).toNat 0=Dr f a.toNat 1:=rfl;simp only[eb,B4 hj,Af,Aa i0,Aa i1,g0,g1]
  have eE:(bif ((s:Int)==1) then(some (-1:Int)) else(some (Dr f a.toNat 1)))=some (mq f a s):=by unfold mq;cases((s:Int)==1)<;>rfl
  have eT:(bif ((s:Int)==2) then(some (-1:Int)) else(some (Dr f a.toNat 0)))=some (mr f a s):=by unfold mr;cases((s:Int)==2)<;>rfl
  rw[eE,Aj,eT,Aj,uB h,Aj,w1 (show j<4611686018427387904 by omega)]
 rcases loop_first (m_lockstepref14_Find_L1 f a (s:Int)) (λj=>O7 f ⟨a,mr f a s,mq f a s,(j:Int)⟩) (λj=>.inr (⟨a,mr f a s,mq f a s,(j:Int)⟩,true)) (.inl ()) f.Blocks.length
  (λj hj hp=>by rw[key j hj,hp];rfl) (λj hj hp=>by rw[key j hj,hp];rfl) (by unfold m_lockstepref14_Find_L1;simp only[Dh,Ar]) with⟨j,hj,hp,hl⟩|⟨hp,hl⟩
 ·exact .inl ⟨j,hj,hp,hl⟩
 ·exact .inr ⟨hp,hl⟩
theorem cz{f:TFunc}{v:THammock}(hv:O7 f v=true):Xv f v.At=(v,true):=by
 unfold O7 at hv;rw[A1]at hv;unfold Xv;rw[hv.1,Af,lY hv.2]
theorem BC{f:TFunc}{a:Int}(hn:∀ v,O7 f v=true->v.At≠a):Xv f a=(zH,false):=by
 unfold Xv
 cases hc:Xl f with
 | false=>rfl
 | true=>
  rw[Af];exact lX λv hv=>hn v (by unfold O7;rw[hc,hv];rfl)
theorem QL{f:TFunc}(R:Rt f){v:THammock}(hv:O7 f v=true):(bA f v.At.toNat).End.Kind=2/\As v.At f.Blocks.length/\As v.Join f.Blocks.length/\∃ s,s<3/\v.Then=mr f v.At s/\v.Else=mq f v.At s:=by
 unfold O7 rR at hv;simp only[A1,Dq]at hv;obtain⟨hc,hA,ho⟩:=hv
 have hAn:v.At.toNat<f.Blocks.length:=by have:=hA.1;have:=hA.2;omega
 obtain⟨hk,hne,hJ,hAJ,hcs⟩:=ZX R hAn ho;refine⟨hk,hA,hJ,?_⟩;rcases hcs with⟨a,b,_⟩|⟨a,b,_⟩|⟨a,b,_⟩
 ·exact⟨0,by omega,a,b⟩
 ·exact⟨1,by omega,a,b⟩
 ·exact⟨2,by omega,a,b⟩
theorem lj{f:TFunc}(h:Sm f)(a:Int):K4 f a=some (Xv f a):=by
 unfold K4;rw[BM h 2,Aj]
 cases hc:Xl f with
 | false=>
  have e:(F9 f 2 !=0)=true:=by unfold Xl at hc;simpa using hc
  rw[e];simp only[Af];rw[Aa (λh=>by cases h)];unfold Xv;rw[hc];rfl
 | true=>
  have hc0:F9 f 2=0:=by simpa [Xl] using hc
  have R:=CH h hc0
  have e0:(bif (bif (F9 f 2 !=0) then true else(decide (a<0))) then true else(decide ((f.Blocks.length:Int)<=a))) = !decide (As a f.Blocks.length):=by
   rw[hc0,show((0:Int)!=0)=false from rfl];simp only[WS,Bool.false_or];rw[Zd];simp only[JI,Dq,Rm,TC];unfold As;omega
  rw[e0]
  by_cases hA:As a f.Blocks.length
  ·rw[F6 hA,Dt,Ar,Aa (λ_=>hA)];have eb:f.Blocks.getD a.toNat default=bA f a.toNat:=rfl;rw[eb]
   by_cases hk:(bA f a.toNat).End.Kind=2
   ·rw[show((bA f a.toNat).End.Kind !=2)=false by simpa using hk,Ar,Aa hA];have hin:=te R hA hk hc h
    have step:∀ s:Nat,s<3->(∃ v,O7 f v=true/\v.At=a/\Bw f a (s:Int)=some (.done (.inr (v,true))))\/((∀ j:Nat,j<f.Blocks.length->O7 f ⟨a,mr f a s,mq f a s,(j:Int)⟩=false)/\Bw f a (s:Int)=some (.next (((s+1:Nat):Int)))):=λs hs=>by
     unfold Bw;have hd:decide ((s:Int)<3)=true:=F6 (by omega);rw[hd,Af];rcases hin s hs with⟨j,hj,hp,hl⟩|⟨hp,hl⟩
     ·exact .inl ⟨_,hp,rfl,by rw[hl];rfl⟩
     ·refine .inr ⟨hp,?_⟩;rw[hl,Aj,w1 (show s<4611686018427387904 by omega)]
    have fin:∀ v,O7 f v=true->v.At=a->Ad (Bw f a) (0:Int)=some (.inr (v,true))->(Ad (Bw f a) (0:Int)).bind (λx18=>(match x18 with|(.inl _)=>(some ((⟨(0:Int),(0:Int),(0:Int),(0:Int)⟩:THammock),false))|(.inr r20)=>(some r20)))=some (Xv f a):=λv hv e hl=>by
     rw[hl,<- e,cz hv];rfl
    rcases step 0 (by omega) with⟨v,h1,h2,h3⟩|⟨p0,n0⟩
    ·exact fin v h1 h2 (Ak h3)
    ·have n0':Ad (Bw f a) (0:Int)=Ad (Bw f a) ((1:Nat):Int):=Aq n0;rcases step 1 (by omega) with⟨v,h1,h2,h3⟩|⟨p1,n1⟩
     ·exact fin v h1 h2 (by rw[n0'];exact Ak h3)
     ·have n1':=Aq n1;rcases step 2 (by omega) with⟨v,h1,h2,h3⟩|⟨p2,n2⟩
      ·exact fin v h1 h2 (by rw[n0',n1'];exact Ak h3)
      ·have n2':=Aq n2
       have hend:Ad (Bw f a) (0:Int)=some (.inl ()):=by
        rw[n0',n1',n2'];refine Ak ?_;unfold Bw;rfl
       rw[hend,BC]
       ·rfl
       ·intro v hv e;obtain⟨_,_,hJ,s,hs,eT,eE⟩:=QL R hv
        have hj:v.Join.toNat<f.Blocks.length:=by have:=hJ.1;have:=hJ.2;omega
        have ev:v=⟨a,mr f a s,mq f a s,((v.Join.toNat:Nat):Int)⟩:=by
         rw[K9 hJ.1,<- e,<- eT,<- eE]
        rw[ev]at hv
        have hcs:s=0\/s=1\/s=2:=by omega
        rcases hcs with rfl|rfl|rfl
        ·rw[p0 _ hj]at hv;cases hv
        ·rw[p1 _ hj]at hv;cases hv
        ·rw[p2 _ hj]at hv;cases hv
   ·rw[show((bA f a.toNat).End.Kind !=2)=true by simpa using hk,Af,BC]
    ·rfl
    ·intro v hv e;obtain⟨hk2,_⟩:=QL R hv;rw[e]at hk2;exact hk hk2
  ·rw[Dl hA,Mu];simp only[Af];rw[Aa (λh=>by cases h),BC]
   ·rfl
   ·intro v hv e;obtain⟨_,hA2,_⟩:=QL R hv;rw[e]at hA2;exact hA hA2
def lone(e:Jm)(b r:Int):TFunc:=⟨[b],r,[⟨[],[],e⟩]⟩
theorem Abp{α:Type}(l:List α):(l.map λ_=>1).sum=l.length:=by induction l with|nil=>rfl|cons a l ih=>simp[ih];omega
theorem eS{f:TFunc}(h:U1 f 2=true){b:Ab}(hb:b∈f.Blocks){o:A2}(ho:o∈b.Ops):Jr o=true:=by
 simp only[U1,Jp,A1,zzL28]at h;have:=(h.1.2 b hb).2 o ho;rw[dn  rfl]at this;exact this.1
theorem tk(n d:Int):n<=grow n d/\d<=grow n d:=by
 unfold grow
 by_cases h:n<d
 ·grind
 ·grind
theorem KC{α:Type}(v:α->Int):∀(l:List α) (n:Int),n<=l.foldl (λn a=>grow n (v a)) n/\∀ a∈l,v a<=l.foldl (λn a=>grow n (v a)) n
 | [],n=>by simp
 | a::l,n=>by
  obtain⟨h1,h2⟩:=KC v l (grow n (v a));have h3:=tk n (v a);rw[Ze];refine⟨by omega,λx hx=>?_⟩;rcases zzL27.1 hx with rfl|hx
  ·omega
  ·exact h2 x hx
theorem BL:∀(l:List Ab) (n:Int),n<=l.foldl (λn b=>b.Ops.foldl (λn o=>grow n o.Dst) (b.Phis.foldl (λn p=>grow n p.Dst) n)) n /\
  ∀ b∈l,(∀ p∈b.Phis,p.Dst<=l.foldl (λn b=>b.Ops.foldl (λn o=>grow n o.Dst) (b.Phis.foldl (λn p=>grow n p.Dst) n)) n)/\∀ o∈b.Ops,o.Dst<=l.foldl (λn b=>b.Ops.foldl (λn o=>grow n o.Dst) (b.Phis.foldl (λn p=>grow n p.Dst) n)) n
 | [],n=>by simp
 | b::l,n=>by
  obtain⟨p1,p2⟩:=KC (λp =>p.Dst) b.Phis n;obtain⟨q1,q2⟩:=KC (λo =>o.Dst) b.Ops (b.Phis.foldl (λn p=>grow n p.Dst) n);obtain⟨h1,h2⟩:=BL l (b.Ops.foldl (λn o=>grow n o.Dst) (b.Phis.foldl (λn p=>grow n p.Dst) n));rw[Ze];refine⟨by omega,λx hx=>?_⟩;rcases zzL27.1 hx with rfl|hx
  ·grind
  ·exact h2 x hx
set_option maxRecDepth 100000
theorem eL{f:TFunc}(hf:US f):Ad (B8 f) ((0:Int),(0:Int))=some (sizeW f):=by
 have hl:=DW _ default Uy id (B8 f) (λn i hi=>by
   have e1:decide ((i:Int)<f.Blocks.length)=true:=by simpa using hi
   unfold B8;simp only[e1,Af,Aa (Ag hi),Co,K8 hi hf.blocks]
   congr 3
   rw[Vz,Vz,Int.add_assoc _,Vz];unfold Uy
   congr 1
   omega) (λn=>by
   unfold B8
   simp) _ 0 0 (Hp _)
 rw[show w64 _=0 from rfl,show((0:Nat):Int)=0 from rfl]at hl;rw[hl];simp[Rx,sizeW]
theorem ln{f:TFunc}(hf:US f):∃ b,Ez f=some b/\(b=true->Sm f/\(Qb f=true->f.Blocks.length<=16)):=by
 obtain⟨b,h1,h2⟩:=lm hf;refine⟨b,h1,λhb=>⟨h2 hb,λhm=>?_⟩⟩;unfold Ez at h1;rw[eL hf,Aj]at h1;obtain⟨y,hy,h1⟩:=bind_some h1;have h3:=OI h1;unfold Qb at hm;simp only[A1,Dq]at hm;rw[ Dl (show ¬ (64:Int)<f.Blocks.length by omega)]at h3
 by_cases hn:f.Blocks.length<=16
 ·omega
 ·grind
theorem pK{f:TFunc}(h:Sm f){v:THammock}(hi:O7 f v=true):Lr f v=some (IP f v):=by
 have hroom:2000<=room:=by decide
 unfold O7 at hi;rw[A1]at hi;have R:=CH h (by simpa [Xl] using hi.1);obtain⟨i,hin,ho⟩:=mem_all.1 (is_mem.1 hi.2);obtain⟨h1,h2⟩:=DT R hin ho;have l1:=Iw R h1
 have one:∀ x ,(x = -1\/As x _)->∀ l ,l.length<=512->(bif (decide (0<=x)) then(Aw _ (Aw _ _)) else(some l))=some (l++Mp f x):=λx hx l hl=>by
  rcases hx with rfl|hx
  ·unfold Mp;rw[show(-1 !=-1)=false from rfl,Ar,List.append_nil];rfl
  ·have e1:x≠-1:=by have:=hx.1;omega
   have hlen:=Iw R (.inr hx);unfold Mp at hlen ⊢;rw[show(x !=-1)=true by simpa using e1,Af]at hlen ⊢;rw[F6 hx.1,Af,Aa hx,Aa (show l.length+(f.Blocks.getD x.toNat default).Ops.length<=room by grind)]
 unfold Lr;rw[one _ h1 [] (by simp),Aj,V2,one _ h2 _ l1]
 rfl
end
end Go.Proofs.YtlnbjgmjaioagaaGreat
