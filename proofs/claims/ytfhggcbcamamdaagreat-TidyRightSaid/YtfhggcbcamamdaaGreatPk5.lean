/-
  The machine, the program's functions and the laws' arithmetic: part 5 of 6.
-/
import Derived.Test.YtfhggcbcamamdaaGreatPk4
import Derived.Lib.RowBridge
set_option linter.unusedSectionVars false
set_option linter.unusedVariables false
set_option linter.unusedSimpArgs false
namespace Go.Proofs.YtfhggcbcamamdaaGreat
noncomputable section
open Go Go.RowKit
def N4(p:Bc):List D2:=(List.range p.Args.length).flatMap λ(j:Nat)=>[⟨p.Args.getD j 0,p.From.getD j 0,1000,(p.Bits,1)⟩]
def M7(b:Ae):List D2:=(List.range b.Phis.length).flatMap λ(k:Nat)=>N4 (b.Phis.getD k default)
def Q3(o:Bz)(i k:Nat):List D2:=(List.range (Hd o).length).flatMap λ(j:Nat)=>[⟨o.Args.getD j 0,i,k,(Hd o).getD j (0,0)⟩]
def Su(b:Ae)(i:Nat):List D2:=(List.range b.Ops.length).flatMap λ(k:Nat)=>Q3 (b.Ops.getD k default) i k
def Yl(f:TFunc)(b:Ae)(i:Nat):List D2:=(bif b.End.Kind==0 then[⟨b.End.Arg,i,1000,(f.Ret,1)⟩] else[])++(bif b.End.Kind==2 then[⟨b.End.Arg,i,1000,(1,1)⟩] else[])
def IB(f:TFunc)(b:Ae)(i:Nat):List D2:=M7 b++Su b i++Yl f b i
def Bg(f:TFunc):List D2:=(List.range f.Blocks.length).flatMap λ(i:Nat)=>IB f (f.Blocks.getD i default) i
theorem Yj{o:Bz}(h:o.Args.length<=64):(Hd o).length<=64/\(Hd o).length<=o.Args.length:=by
 unfold Hd
 cases hm:Gr o with
 | false=>simp
 | true=>
  simp only[Ah]
  have :=by
   simp only[Gr,A6]at hm;exact hm.1.2.2
  have h2 :=by simpa using this
  have h3:(Rx o).length=o.Args.length:=by rw[Rx,Dy,Vb,<- h2,C8]
  omega
theorem QZ{f:TFunc}(hf:OkF f){b:Ae}(hb:b∈f.Blocks){p:Bc}(hp:p∈b.Phis):p.From.length<=64/\p.Args.length<=64:=by
 have:=(blockB_iff.1 (hf.block b hb).may).1 p hp;simp only[FI,A6]at this;exact⟨(listB_iff.1 this.1.2).2,(listB_iff.1 this.2).2⟩
theorem ji{f:TFunc}(hf:OkF f){b:Ae}(hb:b∈f.Blocks){o:Bz}(ho:o∈b.Ops):o.Args.length<=64:=by
 have:=(blockB_iff.1 (hf.block b hb).may).2.1 o ho;simp only[eg,A6]at this;exact(listB_iff.1 this.2).2
theorem IC(p:Bc):(N4 p).length<=p.Args.length:=by
 have:=Kb 1 (λj=>[(⟨p.Args.getD j 0,p.From.getD j 0,1000,(p.Bits,1)⟩:D2)]) (List.range p.Args.length) (λ_ _=>zzL6 _)
 simpa [N4] using this
theorem MK(o:Bz)(i k:Nat):(Q3 o i k).length<=(Hd o).length:=by
 have:=Kb 1 (λj=>[(⟨o.Args.getD j 0,i,k,(Hd o).getD j (0,0)⟩:D2)]) (List.range (Hd o).length) (λ_ _=>zzL6 _)
 simpa [Q3] using this
theorem ML{f:TFunc}(hf:OkF f){b:Ae}(hb:b∈f.Blocks):(M7 b).length<=32768:=by
 have:=Kb 64 (λk=>N4 (b.Phis.getD k default)) (List.range _) (λk hk=>by
  have h1:=IC (b.Phis.getD k default);have h2:=(QZ hf hb (Ag (d:=default) (by simpa using hk))).2
  omega)
 have h3:=(hf.block b hb).phis;rw[Vb]at this;rw[M7];omega
theorem SE{f:TFunc}(hf:OkF f){b:Ae}(hb:b∈f.Blocks)(i:Nat):(Su b i).length<=32768:=by
 have:=Kb 64 (λk=>Q3 (b.Ops.getD k default) i k) (List.range _) (λk hk=>by
  have h1:=MK (b.Ops.getD k default) i k;have h2:=(Yj (ji hf hb (Ag (d:=default) (by simpa using hk)))).1
  omega)
 have h3:=(hf.block b hb).ops;rw[Vb]at this;rw[Su];omega
theorem eO(f:TFunc)(b:Ae)(i:Nat):(Yl f b i).length<=2:=by
 unfold Yl
 cases b.End.Kind==0<;>cases b.End.Kind==2<;>simp
theorem YB{f:TFunc}(hf:OkF f){i:Nat}(hi:i<f.Blocks.length):(IB f (f.Blocks.getD i default) i).length<=70000:=by
 have hmem:=Ag (d:=default) hi;have h1:=ML hf hmem;have h2:=SE hf hmem i;have h3:=eO f (f.Blocks.getD i default) i;rw[IB,Fh,Fh];omega
theorem KE{f:TFunc}(hf:OkF f):(Bg f).length<=4480000:=by
 have h1:=Kb _ _ (List.range _) (λi hi=>YB hf (by simpa using hi));have h4:=hf.blocks;rw[Vb]at h1;rw[Bg];omega
def jp(f:TFunc):Prop:=∀ b∈f.Blocks,∀ p∈b.Phis,p.Args.length<=p.From.length
theorem wl{f:TFunc}(hf:OkF f)(hp:jp f):Kr f=some (Bg f):=by
 have hbig:∀{n:Nat},n<=100000000->∀ x:D2,n+([x]:List D2).length<=room:=λ{n} h x=>by rw[IA];simp;omega
 have h1:∀(i:Nat),i<f.Blocks.length->∀(k:Nat),k<(f.Blocks.getD i default).Phis.length->∀ acc:List D2,acc.length<=50000000->Ac (Gi f (i:Int) (k:Int)) (acc,(0:Int))=some (acc++N4 ((f.Blocks.getD i default).Phis.getD k default)):=λi hi k hk acc hacc=>by
  have hmem:=Ag (d:=(default:Ae)) hi;have hpm:=Ag (d:=(default:Bc)) hk;have hlen:=QZ hf hmem hpm;have hfit:=hp _ hmem _ hpm
  have:=Mt ((f.Blocks.getD i default).Phis.getD k default).Args.length 50000000 1 (λ(j:Nat)=>[(⟨((f.Blocks.getD i default).Phis.getD k default).Args.getD j 0,((f.Blocks.getD i default).Phis.getD k default).From.getD j 0,1000,(((f.Blocks.getD i default).Phis.getD k default).Bits,1)⟩:D2)]) (λ_ _=>zzL6 _) (Gi f (i:Int) (k:Int)) (λacc j hj hA=>by
   unfold Gi
   have hd:decide ((j:Int)<(((f.Blocks.getD i default).Phis.getD k default).Args.length:Int))=true:=by simpa using hj
   simp only[C8,hd,Ah,Aa (Ai hj),Aa (Ai (Nat.lt_of_lt_of_le hj hfit)),A0 hj (by omega),Aa (hbig (n:=acc.length) (by omega) _)]) (λacc=>by unfold Gi;simp) ((f.Blocks.getD i default).Phis.getD k default).Args.length 0 acc (by omega) (by omega)
  rw[show(0:Int)=((0:Nat):Int) from rfl,this,N4,Si]
 have h2:∀(i:Nat),i<f.Blocks.length->∀ acc:List D2,acc.length<=40000000->Ac (Gj f (i:Int)) (acc,(0:Int))=some (acc++M7 (f.Blocks.getD i default)):=λi hi acc hacc=>by
  have hmem:=Ag (d:=(default:Ae)) hi;have hB:=hf.block _ hmem
  have:=Mt (f.Blocks.getD i default).Phis.length 40000000 64 (λ(k:Nat)=>N4 ((f.Blocks.getD i default).Phis.getD k default)) (λk hk=>by have:=IC ((f.Blocks.getD i default).Phis.getD k default);have:=(QZ hf hmem (Ag (d:=(default:Bc)) hk)).2;omega) (Gj f (i:Int)) (λacc k hk hA=>by
   unfold Gj
   have hd:decide ((k:Int)<((f.Blocks.getD i default).Phis.length:Int))=true:=by simpa using hk
   have h5:=hB.phis;have h6:k*64<=512*64:=Fx _ (by omega)
   simp only[C8,hd,Ah,Aa (Ai hk),h1 i hi k hk acc (by omega),An,A0 hk (by omega)]) (λacc=>by unfold Gj;simp) (f.Blocks.getD i default).Phis.length 0 acc (by omega) (by omega)
  rw[show(0:Int)=((0:Nat):Int) from rfl,this,M7,Si]
 have h3:∀(i:Nat),i<f.Blocks.length->∀(k:Nat),k<(f.Blocks.getD i default).Ops.length->∀ acc:List D2,acc.length<=50000000->Ac (Gk f (i:Int) (k:Int) (Hd ((f.Blocks.getD i default).Ops.getD k default))) (acc,(0:Int))=some (acc++Q3 ((f.Blocks.getD i default).Ops.getD k default) i k):=λi hi k hk acc hacc=>by
  have hmem:=Ag (d:=(default:Ae)) hi;have hom:=Ag (d:=(default:Bz)) hk;have hlen:=Yj (ji hf hmem hom)
  have:=Mt (Hd ((f.Blocks.getD i default).Ops.getD k default)).length 50000000 1 (λ(j:Nat)=>[(⟨((f.Blocks.getD i default).Ops.getD k default).Args.getD j 0,i,k,(Hd ((f.Blocks.getD i default).Ops.getD k default)).getD j (0,0)⟩:D2)]) (λ_ _=>zzL6 _) (Gk f (i:Int) (k:Int) (Hd ((f.Blocks.getD i default).Ops.getD k default))) (λacc j hj hA=>by
   unfold Gk
   have hd:decide ((j:Int)<((Hd ((f.Blocks.getD i default).Ops.getD k default)).length:Int))=true:=by simpa using hj
   simp only[C8,hd,Ah,Aa (Ai hk),Aa (Ai hj),Aa (Ai (Nat.lt_of_lt_of_le hj hlen.2)),A0 hj (by omega),Aa (hbig (n:=acc.length) (by omega) _)]) (λacc=>by unfold Gk;simp) (Hd ((f.Blocks.getD i default).Ops.getD k default)).length 0 acc (by omega) (by omega)
  rw[show(0:Int)=((0:Nat):Int) from rfl,this,Q3,Si]
 have h4:∀(i:Nat),i<f.Blocks.length->∀ acc:List D2,acc.length<=40000000->Ac (Gl f (i:Int)) (acc,(0:Int))=some (acc++Su (f.Blocks.getD i default) i):=λi hi acc hacc=>by
  have hmem:=Ag (d:=(default:Ae)) hi;have hB:=hf.block _ hmem
  have:=Mt (f.Blocks.getD i default).Ops.length 40000000 64 (λ(k:Nat)=>Q3 ((f.Blocks.getD i default).Ops.getD k default) i k) (λk hk=>by have:=MK ((f.Blocks.getD i default).Ops.getD k default) i k;have:=(Yj (ji hf hmem (Ag (d:=(default:Bz)) hk))).1;omega) (Gl f (i:Int)) (λacc k hk hA=>by
   unfold Gl
   have hd:decide ((k:Int)<((f.Blocks.getD i default).Ops.length:Int))=true:=by simpa using hk
   have h5:=hB.ops;have h6:k*64<=512*64:=Fx _ (by omega);have ht:Hm ((f.Blocks.getD i default).Ops.getD k default)=some (Hd ((f.Blocks.getD i default).Ops.getD k default)):=lx _ (lp hf hmem (Ag (d:=(default:Bz)) hk))
   simp only[C8,hd,Ah,Aa (Ai hk),ht,An,h3 i hi k hk acc (by omega),A0 hk (by omega)]) (λacc=>by unfold Gl;simp) (f.Blocks.getD i default).Ops.length 0 acc (by omega) (by omega)
  rw[show(0:Int)=((0:Nat):Int) from rfl,this,Su,Si]
 have hb:=Mt f.Blocks.length 0 70000 (λ(i:Nat)=>IB f (f.Blocks.getD i default) i) (λi hi=>YB hf hi) (Im f) (λacc i hi hA=>by
   unfold Im
   have hd:decide ((i:Int)<(f.Blocks.length:Int))=true:=by simpa using hi
   have hmem:=Ag (d:=(default:Ae)) hi;have h64:=hf.blocks;have q1:i*70000<=64*70000:=Fx _ (by omega);have q2:=ML hf hmem;have q3:=SE hf hmem i;have e1:=h4 i hi (acc++M7 (f.Blocks.getD i default)) (by rw[Fh];omega)
   have l1:(acc++M7 (f.Blocks.getD i default)++Su (f.Blocks.getD i default) i).length<=50000000:=by rw[Fh,Fh];omega
   simp only[hd,Ah,Aa (Ai hi),h2 i hi acc (by omega),An,e1,C8,Aa (hbig (n:=(acc++M7 (f.Blocks.getD i default)++Su (f.Blocks.getD i default) i).length) (by omega) _),IB,Yl]
   cases(f.Blocks.getD i default).End.Kind==0 with
   | true=>
    simp only[Ah,An]
    cases(f.Blocks.getD i default).End.Kind==2 with
    | true=>rw[Aa (by rw[Fh];have:=hbig (n:=(acc++M7 (f.Blocks.getD i default)++Su (f.Blocks.getD i default) i).length+1) (by omega) (default:D2);simpa using this)];simp[A0 hi (by omega:f.Blocks.length<9223372036854775808)]
    | false=>simp[A0 hi (by omega:f.Blocks.length<9223372036854775808)]
   | false=>
    simp only[Ax,An]
    cases(f.Blocks.getD i default).End.Kind==2 with
    | true=>rw[Ah,Aa (hbig (n:=(acc++M7 (f.Blocks.getD i default)++Su (f.Blocks.getD i default) i).length) (by omega) _)];simp[A0 hi (by omega:f.Blocks.length<9223372036854775808)]
    | false=>simp[A0 hi (by omega:f.Blocks.length<9223372036854775808)]) (λacc=>by unfold Im;simp) f.Blocks.length 0 [] (by omega) (by simp)
 unfold Kr;rw[show(0:Int)=((0:Nat):Int) from rfl,hb,An,Bg,Si,Y7]
def gQ(n:Nat)(l:List Int)(i:Nat):Bool:=decide ((if i=0 then(-1:Int) else l.getD (i-1) 0)<l.getD i 0)&&(decide (0<=l.getD i 0)&&decide (l.getD i 0<n))
def ma(n:Nat)(l:List Int):Bool:=(List.range l.length).all (gQ n l)
def Mm(L:List (List Int)):Bool:=decide (1<=L.length)&&decide (L.length<=64)&&(List.range L.length).all λi=>ma L.length (L.getD i [])
def Yu(L:List (List Int))(k i:Nat):Bool:=(L.getD k []).contains (i:Int)
def J4(L:List (List Int))(m i:Nat):List Int:=((List.range m).filter λk=>Yu L k i).map Int.ofNat
def Dp(L:List (List Int)):List (List Int):=(List.range L.length).map (J4 L L.length)
theorem Wa(a n:Int):J8 a n=some (decide (0<=a)&&decide (a<n)):=by
 unfold J8
 cases decide (0<=a)<;>rfl
theorem WY(n:Nat):Mh (n:Int)=some (decide (1<=n)&&decide (n<=64)):=by
 unfold Mh
 have h1:decide ((1:Int)<=n)=decide (1<=n):=by grind
 have h2:decide (n<=(64:Int))=decide (n<=64):=by grind
 rw[h1,h2]
 cases decide (1<=n)<;>rfl
theorem SB(L:List (List Int))(i:Nat)(hl:(L.getD i []).length<4611686018427387904) :
  Ac (Hs L (i:Int)) ((-1:Int),(0:Int))=some (bif ma L.length (L.getD i []) then .inl () else .inr false):=by
 refine H6 (Hs L i) (λj=>((if j=0 then -1 else(L.getD i []).getD (j-1) 0),(j:Nat))) _ _ _ _ (λj hj hp=>?_) (λj hj hp=>?_) ?_
 ·unfold gQ at hp;simp only[A6,Gq]at hp;obtain⟨h1,h2,h3⟩:=hp;unfold Hs;simp only[Am,B0 hj, Wa];rw[Ad (Fz hj)]
  have e1:decide ((L.getD i []).getD j 0<=(if j=0 then -1 else(L.getD i []).getD (j-1) 0))=false:=by simpa using h1
  simp only[e1,Co h2,Co h3,     Dr];rw[w1 (show j<4611686018427387904 by omega)]
  simp
 ·unfold Hs;simp only[Am,B0 hj, Wa];rw[Ad (Fz hj)]
  cases h1:decide ((L.getD i []).getD j 0<=(if j=0 then -1 else(L.getD i []).getD _ 0)) with
  | true=>grind
  | false=>
   have h1':decide ((if j=0 then -1 else(L.getD i []).getD (j-1) 0)<(L.getD i []).getD j 0)=true:=by simpa using h1
   unfold gQ at hp;rw[h1',Ld]at hp;simp only[Vc,Ah,Ax,An,hp,J1]
 ·unfold Hs;simp only[Am,C9,Ax]
def Fits(L:List (List Int)):Prop:=L.length<4611686018427387904/\∀ l∈L,l.length<4611686018427387904
theorem Fits.at{L:List (List Int)}(h:Fits L)(i:Nat):(L.getD i []).length<4611686018427387904:=by
 by_cases hi:i<L.length
 ·exact h.2 _ (Ag hi)
 ·grind
theorem la(L:List (List Int))(h:Fits L):Pd L=some (Mm L):=by
 unfold Pd;rw[WY,An];unfold Mm
 cases hc:(decide (1<=L.length)&&decide (L.length<=64)) with
 | false=>rfl
 | true=>
  simp only[Dr,Ax,Ld];have:=H6 (Dw L) (λj=>((j:Nat):Int)) (λi=>ma L.length (L.getD i [])) (.inl ()) (.inr false) L.length (λj hj hp=>?_) (λj hj hp=>?_) ?_
  ·rw[show Ac (Dw L) (0:Int)=_ from this]
   cases(List.range L.length).all λi=>ma L.length (L.getD i [])<;>rfl
  ·show Dw L (j:Int)=_
   unfold Dw;simp only[B0 hj,Ah];rw[Ad (Fz hj),SB L j (h.at j),hp];simp only[Ah,An,w1 (show j<4611686018427387904 by have:=h.1;omega)]
  ·show Dw L (j:Int)=_
   unfold Dw;simp only[B0 hj,Ah];rw[Ad (Fz hj),SB L j (h.at j),hp]
   rfl
  ·show Dw L _=_
   unfold Dw;simp only[C9,Ax]
theorem O7{α:Type}{n i:Nat}{g:Nat->α}{d:α}(h:i<n):((List.range n).map g).getD i d=g i:=by simp[ h]
theorem BU{α:Type}{n i:Nat}{g:Nat->α}{x:α}:((List.range n).map g).set i x=(List.range n).map λj=>if j=i then x else g j:=by
 apply List.ext_getElem?
 intro j;rw[List.getElem?_set]
 by_cases hj:j<n
 ·grind
 ·grind
theorem Ho{α:Type}{n:Nat}{g h:Nat->α}(H:∀ i,i<n->g i=h i):(List.range n).map g=(List.range n).map h:=MN λi hi=>H i (zzL45.1 hi)
theorem mayS_iff{L:List (List Int)}:Mm L=true↔1<=L.length/\L.length<=64/\∀ i,i<L.length->ma L.length (L.getD i [])=true:=by
 unfold Mm;rw[A6,A6,all_range];simp only[Gq];exact⟨λ⟨⟨a,b⟩,c⟩=>⟨a,b,c⟩,λ⟨a,b,c⟩=>⟨⟨a,b⟩,c⟩⟩
theorem okL_iff{n:Nat}{l:List Int}:ma n l=true↔∀ i,i<l.length->(0<=l.getD i 0/\l.getD i 0<n)/\(0<i->l.getD (i-1) 0<l.getD i 0):=by
 unfold ma;rw[all_range];unfold gQ;simp only[A6,Gq]
 constructor
 ·grind
 ·intro h i hi;obtain⟨⟨h2,h3⟩,h1⟩:=h i hi
  by_cases hz:i=0
  · omega
  ·grind
section
variable {n:Nat} {l:List Int} (h:ma n l=true)
include h
theorem AX{i:Nat}(hi:i<l.length):0<=l.getD i 0/\l.getD i 0<n:=(okL_iff.1 h i hi).1
theorem pY{i j:Nat}(hij:i<j)(hj:j<l.length):l.getD i 0<l.getD j 0:=by
 induction j with
 | zero=>omega
 | succ j ih=>
  have h1:=(okL_iff.1 h _ hj).2 (by omega)
  by_cases he:i=j
  ·rw[he];exact h1
  ·grind
theorem wu{i:Nat}(hi:i<l.length):(i:Int)<=l.getD i 0:=by
 induction i with
 | zero=>exact(AX h hi).1
 | succ i ih=>
  have:=pY h (show i<i+1 by omega) hi;omega
theorem DK:l.length<=n:=by
 by_cases hz:l.length=0
 ·omega
 ·have h1:=wu h (show l.length-1<l.length by omega);have h2:=(AX h (show l.length-1<l.length by omega)).2;omega
theorem ah{x:Int}(hx:x∈l):0<=x/\x<n:=by
 obtain⟨i,hi,rfl⟩:=G6 hx;have:=AX h hi;rwa[Ab _ _ _ hi]at this
end
theorem wv{n:Nat}{l:List Int}(h1:∀ x∈l,0<=x/\x<n)(h2:l.Pairwise (·<·)):ma n l=true:=by
 rw[okL_iff];intro i hi;rw[Ab _ _ _ hi];refine⟨h1 _ (KL hi),λhp=>?_⟩;rw[Ab _ _ _ (show i-1<l.length by omega)];exact(zzL91.1 h2) _ _ _ _ (by omega)
theorem Tj{L:List (List Int)}(h:Mm L=true):L.length<=64/\∀ l∈L,l.length<=64:=by
 obtain⟨h1,h2,h3⟩:=mayS_iff.1 h;refine⟨h2,λl hl=>?_⟩;obtain⟨i,hi,rfl⟩:=G6 hl;have:=DK (h3 i hi);rw[Ab _ _ _ hi]at this;omega
theorem su{L:List (List Int)}(h:L.length<=1000/\∀ l∈L,l.length<=1000):Fits L:=⟨by omega,λl hl=>by have:=h.2 l hl;omega⟩
theorem BK(L:List (List Int))(k i:Nat):J4 L (k+1) i=J4 L k i++(if Yu L k i=true then[(k:Int)] else[]):=by
 unfold J4;rw[W0,Wu];cases hg:Yu L k i<;>simp[hg]
theorem Yb(L:List (List Int))(k i:Nat):(J4 L k i).length<=k:=by
 unfold J4;have:=List.length_filter_le (λk=>Yu L k i) (List.range k)
 simpa using this
theorem WN{l:List Int}{j:Nat}(hj:j<l.length):l.take (j+1)=l.take j++[l.getD j 0]:=by
 simp_all
def Vk(L:List (List Int))(k j i:Nat):Bool:=((L.getD k []).take j).contains (i:Int)
def Ou(L:List (List Int))(k j:Nat):List (List Int):=(List.range L.length).map λi=>J4 L k i++(if Vk L k j i=true then[(k:Int)] else[])
theorem cP(L:List (List Int))(h:Mm L=true)(k j:Nat)(hk:k<L.length)(hj:j<(L.getD k []).length) :
  (Ou L k j).set ((L.getD k []).getD j 0).toNat ((Ou L k j).getD ((L.getD k []).getD j 0).toNat []++[(k:Int)])=Ou L k (j+1):=by
 obtain⟨h1,h2,h3⟩:=mayS_iff.1 h;have hok:=h3 k hk;obtain⟨a0,a1⟩:=AX hok hj;unfold Ou;rw[O7 (by omega),BU]
 apply Ho
 intro i hi
 have hnot:Vk L k j ((L.getD k []).getD j 0).toNat=false:=by
  unfold Vk;rw[Y5 a0]
  cases hc:((L.getD k []).take j).contains _ with
  | false=>rfl
  | true=>
   rw[zzL64]at hc;obtain⟨m,hm,he⟩:=G6 hc
   have hm':m<j:=by simp at hm;omega
   rw[List.getElem_take]at he;have:=pY hok hm' hj;rw[Ab _ _ _ (show m<(L.getD k []).length by omega)]at this;omega
 by_cases hi2:i=((L.getD k []).getD j 0).toNat
 ·rw[ hnot]
  have:Vk L k (j+1) i=true:=by
   unfold Vk;rw[WN hj, hi2,Y5 a0]
   simp
  rw[this,hi2]
  simp
 ·rw[if_neg hi2]
  have:Vk L k (j+1) i=Vk L k j i:=by
   unfold Vk;rw[WN hj,Wy,zzL64,zzL64,zzL12]
   constructor
   ·grind
   ·exact .inl
  rw[this]
theorem dD(L:List (List Int))(h:Mm L=true):Np L=some (Dp L):=by
 obtain⟨h1,h2,h3⟩:=mayS_iff.1 h
 have hroom:(1000:Nat)<=room:=by decide
 unfold Np;rw[Ad ⟨by omega,Int.le_refl _,by omega⟩,Am]
 have inner:∀ k,k<L.length->Ac _ ((0:Int),Ou L k 0)=some (Ou L k (L.getD k []).length):=λk hk=>by
  have hok:=h3 k hk;refine Em (M3 L (k:Int)) (λj=>(((j:Nat):Int),Ou L k j)) _ (L.getD k []).length (λj hj=>?_) ?_
  ·obtain⟨a0,a1⟩:=AX hok hj
   have hlen:(Ou L k j).length=L.length:=by simp[Ou]
   have hl64:=DK hok;unfold M3;simp only[Am,B0 hj,Ah];have hb:A2 ((L.getD k []).getD j 0) (Ou L k j).length:=⟨a0,by rw[hlen];exact a1⟩
   have hrow:((Ou L k j).getD ((L.getD k []).getD j 0).toNat []).length<=k+1:=by
    unfold Ou;rw[O7 (by omega),Fh];have:=Yb L k ((L.getD k []).getD j 0).toNat
    split
    ·rw[EQ];omega
    ·rw[List.length_nil];omega
   rw[Ad (Fz hj),Ad hb,Ad hb,Ad (by grind),Ad hb,cP L h k j hk hj,w1 (by omega)]
  ·unfold M3;simp only[Am,C9,Ax]
 have r0:∀ k,Ou L k 0=(List.range L.length).map (J4 L k):=λk=>by
  unfold Ou
  apply Ho
  intro i _;simp[Vk]
 have r1:∀ k,Ou L k (L.getD k []).length=(List.range L.length).map (J4 L (k+1)):=λk=>by
  unfold Ou
  apply Ho
  intro i _;rw[BK];unfold Vk Yu;rw[Ww]
 have:Ac (Ki L) ((0:Int),(List.range L.length).map (J4 L 0))=some (Dp L):=Em (Ki L) (λk=>(((k:Nat):Int),(List.range L.length).map (J4 L k))) (Dp L) L.length (λk hk=>?_) ?_
 ·have e0:(List.replicate L.length ([]:List Int))=(List.range L.length).map (J4 L 0):=by
   apply List.ext_getElem?
   intro i
   by_cases hi:i<L.length<;>simp[hi,List.getElem?_replicate,J4]
  rw[e0,this];rfl
 ·unfold Ki;simp only[B0 hk,Ah];rw[Ad (Fz hk),<- r0,inner k hk,r1,w1 (by omega)]
  rfl
 ·unfold Ki;simp only[C9,Ax]
  rfl
theorem Uq{α:Type}[DecidableEq α]{a b:List α}{d:α}(h:a.length=b.length):((List.range a.length).all λi=>decide (a.getD i d=b.getD i d))=decide (a=b):=by
 rw[Wy,all_range,Gq]
 constructor
 ·intro hall
  apply CF h
  intro i h1 h2;have:=KK (hall i h1);rwa[Ab _ _ _ h1,Ab _ _ _ h2]at this
 ·rintro rfl i _
  simp
theorem HG{a b:Nat}:(((a:Nat):Int)!=(b:Int))=decide (a≠b):=by
 grind
theorem ZO{a b:Int}:(a !=b) = !decide (a=b):=by
 grind
theorem ZW(a b:List Int)(hb:b.length<4611686018427387904):G1 a b=some (decide (a=b)):=by
 unfold G1;rw[HG]
 by_cases hl:a.length=b.length
 ·rw[Cd (by simpa using hl)];have:Ac (E6 a b) 0=_:=H6 _ (λj=>(j:Int)) (λi=>decide (a.getD i 0=b.getD i 0)) (.inl ()) (.inr false) a.length (λj hj hp=>?_) (λj hj hp=>?_) ?_
  ·rw[this,Uq hl]
   cases decide (a=b)<;>rfl
  ·unfold E6;simp only[Am,B0 hj];rw[Ad (Fz hj),Ad (Fz (by omega)),ZO,hp,w1 (by omega)]
   rfl
  ·unfold E6;simp only[Am,B0 hj];rw[Ad (Fz hj),Ad (Fz (by omega)),ZO,hp]
   rfl
  ·unfold E6;simp only[C9,Ax]
 ·rw[Co (by simpa using hl),Ah,Cd (λh=>hl (by rw[h]))]
theorem f7(a b:List Int)(ha:a.length<4611686018427387904):Ba a b=some (decide (a=b)):=by
 unfold Ba;rw[HG]
 by_cases hl:a.length=b.length
 ·rw[Cd (by simpa using hl)];have:Ac _ (0:Int)=_:=H6 (B3 a b) (λj=>(j:Nat)) (λi=>decide (a.getD i 0=b.getD i 0)) (.inl ()) (.inr false) a.length (λj hj hp=>?_) (λj hj hp=>?_) ?_
  ·rw[this,Uq hl]
   cases decide (a=b)<;>rfl
  ·unfold B3;simp only[Am,B0 hj];rw[Ad (Fz hj),Ad (Fz (by omega)),ZO,hp,w1 (by omega)]
   rfl
  ·unfold B3;simp only[Am,B0 hj];rw[Ad (Fz hj),Ad (Fz (by omega)),ZO,hp]
   rfl
  ·unfold B3;simp only[C9,Ax]
 ·rw[Co (by simpa using hl),Ah,Cd (λh=>hl (by rw[h]))]
theorem dE(a b:List (List Int))(hb:Fits b):Dx a b=some (decide (a=b)):=by
 unfold Dx;rw[HG]
 by_cases hl:a.length=b.length
 ·rw[Cd (by simpa using hl)];have hb1:=hb.1;have:Ac _ (0:Int)=_:=H6 (B6 a b) (λj=>(j:Nat)) (λi=>decide (a.getD i []=b.getD i [])) (.inl ()) (.inr false) a.length (λj hj hp=>?_) (λj hj hp=>?_) ?_
  ·rw[this,Uq hl]
   cases decide (a=b)<;>rfl
  ·unfold B6;simp only[Am,B0 hj];rw[Ad (Fz hj),Ad (Fz (by omega)),ZW _ _ (hb.at j),hp,w1 (by omega)]
   rfl
  ·unfold B6;simp only[Am,B0 hj];rw[Ad (Fz hj),Ad (Fz (by omega)),ZW _ _ (hb.at j),hp]
   rfl
  ·unfold B6;simp only[C9,Ax]
 ·rw[Co (by simpa using hl),Ah,Cd (λh=>hl (by rw[h]))]
theorem Po(L:List (List Int)):(Dp L).length=L.length:=by simp[Dp]
theorem DM{L:List (List Int)}{i:Nat}(hi:i<L.length):(Dp L).getD i []=J4 L L.length i:=by unfold Dp;rw[O7 hi]
theorem Yc{L:List (List Int)}(h:Mm L=true):(Dp L).length<=64/\∀ l∈Dp L,l.length<=64:=by
 obtain⟨h1,_⟩:=Tj h;refine⟨by rw[Po];exact h1,λl hl=>?_⟩;obtain⟨i,hi,rfl⟩:=zzL21.1 hl;have:=Yb L L.length i;omega
theorem Ub{L:List (List Int)}(h:L.length<=64/\∀ l∈L,l.length<=64):Fits L:=su ⟨by omega,λl hl=>by have:=h.2 l hl;omega⟩
def DW(g:TGraph):Bool:=Mm g.Succ&&decide (g.Pred=Dp g.Succ)
theorem uy(g:TGraph)(h:Fits g.Succ):Uu g=some (DW g):=by
 unfold Uu DW;rw[la _ h]
 cases hm:Mm _ with
 | false=>rfl
 | true=>
  simp only[Vc,Ah,dD _ hm,An,dE _ _ (Ub (Yc hm)),Ld]
def Kc(L:List (List Int)):TGraph:=⟨L,Dp L⟩
def g0:TGraph:=⟨[],[]⟩
theorem QL{L:List (List Int)}(h:Mm L=true):DW (Kc L)=true:=by simp[DW,Kc,h]
theorem pN(l:List Int)(x:Int)(h:l.length<4611686018427387904):G9 l x=some (l.contains x):=by
 unfold G9;have:Ac _ (0:Int)=_:=H6 (G0 l x) (λj=>(j:Nat)) (λi=>!decide (l.getD i 0=x)) (.inl ()) (.inr true) l.length (λj hj hp=>?_) (λj hj hp=>?_) ?_
 ·rw[this]
  have e:l.contains x = !((List.range l.length).all λi=>!decide (l.getD i 0=x)):=by
   rw[Wy,zzL64,Y6,<- Bool.not_eq_true,all_range]
   constructor
   ·intro hx hall;obtain⟨i,hi,rfl⟩:=G6 hx;have:=hall i hi;rw[Ab _ _ _ hi]at this;simp at this
   ·grind
  rw[e]
  cases(List.range _).all _<;>rfl
 ·unfold G0;simp only[Am,B0 hj]
  have:(l.getD j 0==x)=false:=by simpa using hp
  rw[Ad (Fz hj),this,w1 (by omega)]
  rfl
 ·unfold G0;simp only[Am,B0 hj]
  have:(l.getD j 0==x)=true:=by simpa using hp
  rw[Ad (Fz hj),this]
  rfl
 ·unfold G0;simp only[C9,Ax]
theorem XU{X:Type}(a b:List (List Int))(f:Int->Option (LR Int (Unit ⊕ Bool)))(ha:Fits a)(hl:a.length=b.length)
  (hn:∀ i:Nat,i<a.length->f (i:Int)=(Ba (a.getD i []) (b.getD i [])).bind λx=>bif (!x) then some (.done (.inr false)) else some (.next (w64 ((i:Int)+1)))) (he:f (a.length:Int)=some (.done (.inl ()))) :
  Ac f (0:Int)=some (bif decide (a=b) then .inl () else .inr false):=by
 have ha1:=ha.1;have:Ac f 0=_:=H6 f (λj=>(j:Int)) (λi=>decide (a.getD i []=b.getD i [])) _ (.inr false) _ (λj hj hp=>?_) (λj hj hp=>?_) he
 ·rw[this,Uq hl]
 ·rw[hn j hj,f7 _ _ (ha.at j),hp,w1 (by omega)];rfl
 ·rw[hn j hj,f7 _ _ (ha.at j),hp];rfl
theorem wk(a b:TGraph)(h1:Fits a.Succ)(h2:Fits a.Pred):Kn a b=some (decide (a=b)):=by
 have e:decide (a=b)=(decide (a.Succ=b.Succ)&&decide (a.Pred=b.Pred)):=by
  cases a;cases b
  simp
 rw[e];unfold Kn;rw[HG,HG]
 by_cases hs:a.Succ.length=b.Succ.length
 ·by_cases hp:a.Pred.length=b.Pred.length
  ·rw[Cd (by simpa using hs), Cd (by simpa using hp)]
   have s1:=XU (X:=Unit) _ _ (Ih a b) h1 hs (λi hi=>by
    unfold Ih;simp only[Am,B0 hi,Ah]
    rw[Ad (Fz hi),Ad (Fz (by omega))]) (by
    unfold Ih
    simp only[C9,Ax])
   have s2:=XU (X:=Unit) _ _ (Ii a b) h2 hp (λi hi=>by
    unfold Ii;simp only[Am,B0 hi,Ah]
    rw[Ad (Fz hi),Ad (Fz (by omega))]) (by
    unfold Ii
    simp only[C9,Ax])
   rw[s1]
   cases decide (a.Succ=b.Succ) with
   | false=>rfl
   | true=>
    grind
  ·grind
 ·grind
theorem M2{R:Type}{c:Bool}{q:Prop}[Decidable q]{k:Option R}(h:q):Az (c=true->q) k=k:=Ad λ_=>h
def oB(n:Nat)(l:List Int)(j:Nat):Bool:=
 bif (bif decide (l.getD j 0<0) then true else decide ((n:Int)<=l.getD j 0)) then true else(bif decide ((0:Int)<(j:Int)) then decide (l.getD j 0<=l.getD (j-1) 0) else false)
theorem oC(n:Nat)(l:List Int)(j:Nat):oB n l j = !gQ n l j:=by
 unfold oB gQ
 by_cases h0:l.getD j 0<0
 ·grind
 ·grind
theorem MA(L:List (List Int))(i:Nat)(hi:i<L.length)(hl:(L.getD i []).length<4611686018427387904) :
  Ac (Ef L (i:Int)) (0:Int)=some (bif ma L.length (L.getD i []) then .inl () else .inr (g0,5)):=by
 have hw:∀ j:Nat,j<(L.getD i []).length->0<j->w64 (j-1)=(j-1:Nat):=λj hj hp=>by rw[He (by omega) (by omega)];omega
 have step:∀ j,j<(L.getD i []).length->Ef L i j=bif oB _ _ j then some _ else some (.next ((j+1:Nat))):=λj hj=>by
  unfold Ef;simp only[Am,B0 hj];rw[Ad (Fz hi),Ad (Fz hi),Ad (Fz hj),M2 (Fz hi),M2 (Fz hj),M2 (Fz hi),M2 (Fz hj),M2 (Fz hi),w1 (by omega)]
  by_cases hz:j=0
  ·subst hz
   have:decide (0<((0:Nat):Int))=false:=by decide
   rw[this];rw[show((false==true)=false) from rfl,Bool.and_false]
   rfl
  ·rw[hw j hj (by omega),M2 (Fz (by omega))]
   rfl
 have:=H6 (Ef L i) (λj=>(j:Nat)) (gQ L.length (L.getD i [])) (.inl ()) (.inr (g0,5)) (L.getD i []).length (λj hj hp=>?_) (λj hj hp=>?_) ?_
 ·exact this
 ·rw[step j hj,oC,hp];rfl
 ·rw[step j hj,oC,hp];rfl
 ·unfold Ef;simp only[Am,C9,Ax];rw[Ad (Fz hi)]
theorem VM(L:List (List Int))(h:Mm L=true):Ac (Eg L) ((0:Int),List.replicate L.length ([]:List Int))=some (Dp L):=by
 obtain⟨h1,h2,h3⟩:=mayS_iff.1 h
 have hroom:(1000:Nat)<=room:=by decide
 have hfit:=Ub (Tj h)
 let R:Nat->Nat->List (List Int):=λi k=>(List.range L.length).map λj=>if j<i then J4 L L.length j else if j=i then J4 L k i else[]
 have inner:∀ i,i<L.length->Ac _ ((0:Int),R i 0)=some (R i L.length):=λi hi=>by
  refine Em (Ig L (i:Int)) (λk=>(((k:Nat):Int),R i k)) (R i L.length) L.length (λk hk=>?_) ?_
  ·have hlen:(R i k).length=L.length:=by simp[R]
   have hat:(R i k).getD i []=J4 L k i:=by simp only[R];rw[O7 hi];simp
   unfold Ig;simp only[Am,B0 hk,Ah];rw[Ad (Fz hk),pN _ _ (hfit.at k),An,w1 (by omega)];have hg:Yu L k i=(L.getD k []).contains (i:Int):=rfl;rw[<- hg,hat]
   have hs:(if Yu L k i=true then(R i k).set i (J4 L k i++[(k:Int)]) else R i k)=R i (k+1):=by
    split
    ·rename_i hgo
     simp only[R];rw[BU]
     apply Ho
     intro j hj
     by_cases hji:j=i
     ·subst hji;simp[BK,hgo]
     ·simp[hji]
    ·rename_i hgo
     simp only[R]
     apply Ho
     intro j hj
     by_cases hji:j=i
     ·subst hji;simp[BK,hgo]
     ·simp[hji]
   rw[<- hs]
   cases hgo:Yu L k i with
   | false=>rfl
   | true=>
    have:=Yb L k i;simp only[Ah];rw[Ad (by rw[hlen];exact Fz hi),Ad (by rw[hlen];exact Fz hi),Ad (by rw[EQ];omega),Ad (by rw[hlen];exact Fz hi)]
    rfl
  ·unfold Ig;simp only[C9,Ax]
 have:Ac (Eg L) ((0:Int),R 0 0)=some (Dp L):=Em (Eg L) (λi=>(((i:Nat):Int),R i 0)) (Dp L) L.length (λi hi=>?_) ?_
 ·have e0:List.replicate L.length ([]:List Int)=R 0 0:=by
   simp only[R]
   apply List.ext_getElem?
   intro j
   by_cases hj:j<L.length<;>simp[hj,List.getElem?_replicate,J4]
  rw[e0,this]
 ·unfold Eg;simp only[B0 hi,Ah];rw[inner i hi,w1 (by omega)];simp only[An]
  congr 3
  simp only[R]
  apply Ho
  intro j hj
  by_cases h4:j<i
  ·simp[h4,show j<i+1 by omega]
  ·by_cases h5:j=i
   ·subst h5;simp
   ·simp[h4,h5,show ¬ j<i+1 by omega];intro h6;simp[J4]
 ·unfold Eg;simp only[C9,Ax]
  congr 2
  simp only[R,Dp]
  apply Ho
  intro j hj;simp[hj]
theorem QH(L:List (List Int))(h:Fits L):H2 L=some (bif Mm L then(Kc L,0) else(g0,5)):=by
 have hroom:1000<=room:=by decide
 unfold H2
 have hc:(bif (L.length==(0:Int)) then true else decide (64<(L.length:Int))) = !(decide (1<=L.length)&&decide (L.length<=64)):=by
  grind
 rw[hc];have hm:Mm L=((decide _&&decide _)&&(List.range _).all _):=rfl
 cases hb:(decide (1<=L.length)&&decide (L.length<=64)) with
 | false=>rw[hm,hb];rfl
 | true=>
  have hb':=hb;simp only[A6,Gq]at hb';have:Ac (Gd L) 0=_:=H6 _ (λj=>(j:Int)) (λi=>ma L.length (L.getD i [])) (.inl ()) (.inr (g0,5)) L.length (λj hj hp=>?_) (λj hj hp=>?_) ?_
  ·rw[this]
   cases hall:(List.range L.length).all _ with
   | false=>rw[hm,hb,hall];rfl
   | true=>
    have hmay:Mm L=true:=by rw[hm,hb,hall];rfl
    rw[hmay];rw[Ad ⟨by omega,Int.le_refl _,by omega⟩,Am,VM L hmay]
    rfl
  ·unfold Gd;simp only[B0 hj];rw[MA L j hj (h.at j),hp,w1 (by omega)]
   rfl
  ·unfold Gd;simp only[B0 hj];rw[MA L j hj (h.at j),hp]
   rfl
  ·unfold Gd;simp only[C9,Ax]
theorem HC{L:List (List Int)}(h:Mm L=true):Fits (Kc L).Succ/\Fits (Kc L).Pred:=⟨Ub (Tj h),Ub (Yc h)⟩
theorem lW(g:TGraph)(h:Fits g.Succ):Ln g=some (DW g):=by
 unfold Ln DW;rw[QH _ h,An]
 cases hm:Mm _ with
 | false=>rfl
 | true=>
  simp only[Ah,Vc];rw[wk _ _ (HC hm).1 (HC hm).2];simp only[An]
  congr 1
  apply zzL77.2
  cases g with
  | mk s p=>
   simp only[Kc,TGraph.mk.injEq,true_and];exact Sw
noncomputable section
def upd(s:Nat->Bool)(y:Nat):Nat->Bool:=λz=>decide (z=y) || s z
theorem upd_true{s:Nat->Bool}{y z:Nat}:upd s y z=true↔z=y\/s z=true:=by simp[upd]
theorem upd_false{s:Nat->Bool}{y z:Nat}:upd s y z=false↔z≠y/\s z=false:=by simp[upd]
inductive VL (S:Nat->List Nat):(Nat->Bool)->List Nat->(Nat->Bool)->List Nat->Prop
 | nil (s:Nat->Bool):VL S s [] s []
 | skip {s s':Nat->Bool} {y:Nat} {l o:List Nat} (h:s y=true) (t:VL S s l s' o):VL S s (y::l) s' o
 | step {s s1 s2:Nat->Bool} {y:Nat} {l o1 o2:List Nat} (h:s y=false) (a:VL S (upd s y) (S y) s1 o1) (b:VL S s1 l s2 o2):VL S s (y::l) s2 (o1++y::o2)
inductive Rch (S:Nat->List Nat):Nat->Nat->Prop
 | refl (x:Nat):Rch S x x
 | head {x y z:Nat} (h:y∈S x) (t:Rch S y z):Rch S x z
theorem Rch.tail{S:Nat->List Nat}{x y z:Nat}(h:Rch S x y)(hz:z∈S y):Rch S x z:=by
 induction h with
 | refl x=>exact .head hz (.refl _)
 | head h _ ih=>exact .head h (ih hz)
theorem Rch.trans{S:Nat->List Nat}{x y z:Nat}(h:Rch S x y)(k:Rch S y z):Rch S x z:=by
 induction h with
 | refl x=>exact k
 | head h _ ih=>exact .head h (ih k)
variable {S:Nat->List Nat} {s s':Nat->Bool} {l o:List Nat}
theorem VL.seen(h:VL S s l s' o)(z:Nat):s' z=true↔s z=true\/z∈o:=by
 induction h with
 | nil s=>simp
 | skip h _ ih=>exact ih
 | @step s s1 s2 y l o1 o2 h a b iha ihb=>
  rw[ihb,iha,upd_true]
  constructor
  ·grind
  ·grind
theorem VL.fresh(h:VL S s l s' o){z:Nat}(hz:z∈o):s z=false:=by
 induction h with
 | nil s=>cases hz
 | skip h _ ih=>exact ih hz
 | @step s s1 s2 y l o1 o2 h a b iha ihb=>
  rcases zzL12.1 hz with h1|h1
  ·exact(upd_false.1 (iha h1)).2
  ·rcases zzL37.1 h1 with rfl|h1
   ·exact h
   ·have:=ihb h1
    cases hs:s z with
    | false=>rfl
    | true=>rw[(a.seen z).2 (.inl (upd_true.2 (.inr hs)))]at this;cases this
theorem VL.nodup(h:VL S s l s' o):o.Nodup:=by
 induction h with
 | nil s=>exact List.nodup_nil
 | skip h _ ih=>exact ih
 | @step s s1 s2 y l o1 o2 h a b iha ihb=>
  rw[List.nodup_append];refine⟨iha,zzL113.2 ⟨λhy=>?_,ihb⟩,λu hu v hv=>?_⟩
  ·have:=b.fresh hy;rw[(a.seen y).2 (.inl (upd_true.2 (.inl rfl)))]at this
   cases this
  ·rintro rfl;rcases zzL37.1 hv with rfl|hv
   ·have:=a.fresh hu;rw[upd_true.2 (.inl rfl)]at this
    cases this
   ·have:=b.fresh hv;rw[(a.seen u).2 (.inr hu)]at this
    cases this
theorem VL.rch(h:VL S s l s' o){z:Nat}(hz:z∈o):∃ y∈l,Rch S y z:=by
 induction h with
 | nil s=>cases hz
 | skip h _ ih=>grind
 | @step s s1 s2 y l o1 o2 h a b iha ihb=>
  rcases zzL12.1 hz with h1|h1
  ·obtain⟨u,hu,hr⟩:=iha h1;exact⟨y,zzL53 ..,.head hu hr⟩
  ·rcases zzL37.1 h1 with rfl|h1
   ·exact⟨z,zzL53 ..,.refl z⟩
   ·grind
theorem VL.closed(h:VL S s l s' o):(∀ y∈l,s' y=true)/\∀ z∈o,∀ y∈S z,s' y=true:=by
 induction h with
 | nil s=>grind
 | @skip s s' y l o h t ih=>
  refine⟨λu hu=>?_,ih.2⟩;rcases zzL37.1 hu with rfl|hu
  ·exact(t.seen u).2 (.inl h)
  ·exact ih.1 u hu
 | @step s s1 s2 y l o1 o2 h a b iha ihb=>
  refine⟨λu hu=>?_,λz hz u hu=>?_⟩
  ·rcases zzL37.1 hu with rfl|hu
   ·exact(b.seen u).2 (.inl ((a.seen u).2 (.inl (upd_true.2 (.inl rfl)))))
   ·exact ihb.1 u hu
  ·rcases zzL12.1 hz with h1|h1
   ·exact(b.seen u).2 (.inl (iha.2 z h1 u hu))
   ·rcases zzL37.1 h1 with rfl|h1
    ·exact(b.seen u).2 (.inl (iha.1 u hu))
    ·exact ihb.2 z h1 u hu
theorem VL.above(h:VL S s l s' o)(hf:∀ z,∀ y∈S z,z<y){b:Nat}(hb:∀ y∈l,b<y):∀ z∈o,b<z:=by
 induction h generalizing b with
 | nil s=>intro z hz;cases hz
 | skip h _ ih=>exact ih (λy hy=>hb y (N6 _ hy))
 | @step s s1 s2 y l o1 o2 h a c iha ihb=>
  intro z hz;have hy:=hb y (zzL53 ..);rcases zzL12.1 hz with h1|h1
  ·exact iha (λu hu=>Nat.lt_trans hy (hf y u hu)) z h1
  ·rcases zzL37.1 h1 with rfl|h1
   ·exact hy
   ·exact ihb (λu hu=>hb u (N6 _ hu)) z h1
theorem VL.ahead(h:VL S s l s' o)(hf:∀ z,∀ y∈S z,z<y):∀ z∈o,∀ y∈S z,s y=true\/∃ A B,o=A++z::B/\y∈A:=by
 induction h with
 | nil s=>intro z hz;cases hz
 | skip h _ ih=>exact ih
 | @step s s1 s2 y l o1 o2 h a c iha ihb=>
  intro z hz u hu;rcases zzL12.1 hz with h1|h1
  ·have hzy :=a.above hf (λv hv=>hf y v hv) z h1;have hzu:=hf z u hu;rcases iha z h1 u hu with h2|⟨A,B,rfl,hA⟩
   ·rcases upd_true.1 h2 with rfl|h2
    ·omega
    ·exact .inl h2
   ·grind
  ·rcases zzL37.1 h1 with rfl|h1z
   ·have hzu:=hf z u hu;rcases(a.seen u).1 (a.closed.1 u hu) with h2|h2
    ·rcases upd_true.1 h2 with rfl|h2
     ·omega
     ·exact .inl h2
    ·grind
   ·rcases ihb z h1z u hu with h2|⟨A,B,rfl,hA⟩
    ·rcases(a.seen u).1 h2 with h3|h3
     ·rcases upd_true.1 h3 with rfl|h3
      ·obtain⟨P,Q,rfl⟩:=List.append_of_mem h1z;exact .inr ⟨o1++u::P,Q,by simp,by simp⟩
      ·exact .inl h3
     ·obtain⟨P,Q,rfl⟩:=List.append_of_mem h1z;exact .inr ⟨o1++y::P,Q,by simp,by simp[h3]⟩
    ·grind
def cN(n:Nat)(s:Nat->Bool):Nat:=((List.range n).filter λz=>!s z).length
theorem CW{n:Nat}{s:Nat->Bool}{y:Nat}(hy:y<n)(h:s y=false):cN n (upd s y)+1=cN n s:=by
 unfold cN
 induction n with
 | zero=>omega
 | succ n ih=>
  rw[W0,Wu,Wu,Fh,Fh]
  by_cases hyn:y=n
  ·subst hyn
   have e:(List.range y).filter (λz=>!upd s y z)=(List.range y).filter (λz=>!s z):=by
    apply List.filter_congr
    intro z hz;have:=zzL45.1 hz;simp[upd,show z≠y by omega]
   rw[e];simp[upd,h]
  ·have e:([n].filter λz=>!upd s y z).length=([n].filter λz=>!s z).length:=by
    simp only[List.filter_cons, upd];simp[Q4 hyn]
   omega
theorem cO{n:Nat}{s s':Nat->Bool}(h:∀ z,s z=true->s' z=true):cN n s'<=cN n s:=by
 apply List.Sublist.length_le
 have:(List.range n).filter (λz=>!s' z)=((List.range n).filter λz=>!s z).filter λz=>!s' z:=by
  rw[List.filter_filter]
  apply List.filter_congr
  intro z _
  cases hs:s z with
  | false=>simp
  | true=>simp[h z hs]
 rw[this];exact List.filter_sublist
theorem VL.exist{n:Nat}(hS:∀ z,z<n->∀ y∈S z,y<n):∀(m:Nat) (s:Nat->Bool),cN n s<=m->∀ l:List Nat,(∀ y∈l,y<n)->∃ s' o,VL S s l s' o:=by
 intro m
 induction m with
 | zero=>
  intro s hm l
  induction l with
  | nil=>intro _;exact⟨s,[],.nil s⟩
  | cons y l ih=>
   intro hl;obtain⟨s',o,h⟩:=ih (λz hz=>hl z (N6 _ hz))
   cases hy:s y with
   | true=>exact⟨s',o,.skip hy h⟩
   | false=>have:=CW (hl y (zzL53 ..)) hy;omega
 | succ m ih=>
  intro s hm l
  induction l generalizing s with
  | nil=>intro _;exact⟨s,[],.nil s⟩
  | cons y l ihl=>
   intro hl
   cases hy:s y with
   | true=>
    obtain⟨s',o,h⟩:=ihl s hm (λz hz=>hl z (N6 _ hz));exact⟨s',o,.skip hy h⟩
   | false=>
    have hyn:=hl y (zzL53 ..);have:=CW hyn hy;obtain⟨s1,o1,h1⟩:=ih (upd s y) (by omega) _ (hS y hyn);have h2:cN n s1<=cN n s:=cO λz hz=>(h1.seen z).2 (.inl (upd_true.2 (.inr hz)));obtain⟨s2,o2,h3⟩:=ihl s1 (by omega) (λz hz=>hl z (N6 _ hz));exact⟨s2,_,.step hy h1 h3⟩
def one(r:Nat):Nat->Bool:=λz=>decide (z=r)
def Ord(S:Nat->List Nat)(r:Nat)(L:List Nat):Prop:=∃ s' o,VL S (one r) (S r) s' o/\L=r::o.reverse
theorem Ord.exist{n:Nat}(hS:∀ z,z<n->∀ y∈S z,y<n){r:Nat}(hr:r<n):∃ L,Ord S r L:=by
 obtain⟨s',o,h⟩:=VL.exist hS _ _ (zzL6 _) _ (hS r hr);exact⟨_,s',o,h,rfl⟩
theorem Ord.mem{r:Nat}{L:List Nat}(h:Ord S r L)(z:Nat):z∈L↔Rch S r z:=by
 obtain⟨s',o,h,rfl⟩:=h
 have hs:∀ z,s' z=true↔z=r\/z∈o:=λz=>by rw[h.seen];simp[one]
 have hc:∀ x,s' x=true->∀ y∈S x,s' y=true:=λx hx y hy=>by
  rcases(hs x).1 hx with rfl|hx
  ·exact h.closed.1 y hy
  ·exact h.closed.2 x hx y hy
 simp only[zzL37,List.mem_reverse];rw[<- hs z]
 constructor
 ·intro hz;rcases(hs z).1 hz with rfl|hz
  ·exact .refl _
  ·obtain⟨y,hy,hr⟩:=h.rch hz;exact .head hy hr
 ·intro hr
  have key:∀ x z,Rch S x z->s' x=true->s' z=true:=by
   intro x z hxz
   induction hxz with
   | refl x=>exact id
   | head hy _ ih=>grind
  exact key r z hr ((hs r).2 (.inl rfl))
theorem Ord.nodup{r:Nat}{L:List Nat}(h:Ord S r L):L.Nodup:=by
 obtain⟨s',o,h,rfl⟩:=h;refine zzL113.2 ⟨λhr=>?_,(List.reverse_perm o).nodup_iff.2 h.nodup⟩;have:=h.fresh (List.mem_reverse.1 hr);simp[one]at this
theorem Ord.fwd{r:Nat}{L:List Nat}(h:Ord S r L)(hf:∀ z,∀ y∈S z,z<y):∀ z∈L,∀ y∈S z,∃ A B,L=A++z::B/\y∈B:=by
 obtain⟨s',o,h,rfl⟩:=h;intro z hz y hy;have hzy:=hf z y hy;rcases zzL37.1 hz with rfl|hz
 ·refine⟨[],o.reverse,rfl,?_⟩;rcases(h.seen y).1 (h.closed.1 y hy) with h1|h1
  ·simp[one]at h1;omega
  ·grind
 ·have hz:=List.mem_reverse.1 hz;have hrz :=h.above hf (λv hv=>hf r v hv) z hz;rcases h.ahead hf z hz y hy with h1|⟨A,B,rfl,hA⟩
  ·simp[one]at h1;omega
  ·grind
end
theorem lX(l:List Int)(hl:l.length<4611686018427387904):Fu l=some l.reverse:=by
 unfold Fu
 by_cases h0:l.length=0
 ·obtain rfl:l=[]:=zzL93.1 h0
  have:Ac Bl ((0:Int),(w64 ((([]:List Int).length:Int)-1)),([]:List Int))=some []:=by
   apply Ak
   unfold Bl;rw[He (by simp) (by simp)]
   rfl
  rw[this];rfl
 ·have hw:w64 ((l.length:Int)-1)=((l.length-1:Nat):Int):=by rw[He (by omega) (by omega)];omega
  rw[hw]
  let C:Nat->List Int:=λk=>(List.range l.length).map λi=>if i<k\/l.length-1-k<i then l.getD (l.length-1-i) 0 else l.getD i 0
  have hC:∀ k i,i<l.length->(C k).getD i 0=if i<k\/l.length-1-k<i then l.getD (l.length-1-i) 0 else l.getD i 0:=λk i hi=>by simp only[C];rw[O7 hi]
  have hlen:∀ k,(C k).length=l.length:=λk=>by simp[C]
  have:=Em Bl (λk=>(((k:Nat):Int),((l.length-1-k:Nat):Int),C k)) l.reverse (l.length / 2) (λk hk=>?_) ?_
  ·have e0:C 0=l:=by
    apply CF (by simp[C])
    intro i h1 h2;have:=hC 0 i h2;rw[Ab _ _ _ h1,Ab _ _ _ h2]at this;rw[this,if_neg (by omega)]
   have this':Ac Bl ((0:Int),((l.length-1:Nat):Int),l)=some l.reverse:=by
    have h2:=this;simp only[e0]at h2;exact h2
   rw[this'];rfl
  ·show Bl (_,_,_)=_
   unfold Bl
   have hlt:k<l.length-1-k:=by omega
   simp only[B0 hlt,Ah,Am];rw[Ad (Fz (by rw[hlen];omega)),Ad (Fz (by rw[hlen];omega)),Ad (Fz (by rw[hlen];omega)),Ad (Fz (by rw[hlen];omega))];rw[w1 (by omega),show w64 (((l.length-1-k:Nat):Int)-1)=((l.length-1-(k+1):Nat):Int) by rw[He (by omega) (by omega)];omega]
   congr 4
   rw[hC k _ (by omega),hC k _ (by omega),if_neg (by omega),if_neg (by omega)];simp only[C];rw[BU,BU]
   apply Ho
   intro i hi
   by_cases h1:i=k
   ·subst h1;rw[if_neg (by omega),if_pos rfl,if_pos (by omega)]
   ·by_cases h2:i=l.length-1-k
    ·subst h2;rw[if_pos rfl,if_pos (by omega)]
     congr 1;omega
    ·rw[if_neg h2,if_neg h1]
     by_cases h3:i<k\/l.length-1-k<i
     ·rw[if_pos h3,if_pos (by omega)]
     ·rw[if_neg h3,if_neg (by omega)]
  ·show Bl (_,_,_)=_
   unfold Bl;have hd:decide (((l.length / 2:Nat):Int)<((l.length-1-l.length / 2:Nat):Int))=false:=Cd (by omega);simp only[hd,Ax]
   congr 2
   apply CF (by simp[C])
   intro i h1 h2
   have h3:i<l.length:=by simpa [C] using h1
   have:=hC (l.length / 2) i h3;rw[Ab _ _ _ h1]at this;rw[this,List.getElem_reverse]
   split
   ·rw[Ab _ _ _ (by omega)]
   ·rw[Ab _ _ _ h3]
    congr 1;omega
theorem top{st:List Int}{a:Int}(h:st.length<4611686018427387904):(st++[a]).getD (w64 (((st++[a]).length:Int)-1)).toNat 0=a:=by
 have:w64 ((st++[a]).length-1)=(st.length:Int):=by rw[Fh,EQ,He (by omega) (by omega)];omega
 rw[this];simp[List.getD]
theorem zS{st:List Int}{a:Int}(h:st.length<4611686018427387904):w64 (((st++[a]).length:Int)-1)=((st.length:Nat):Int):=by
 rw[Fh,EQ,He (by omega) (by omega)];omega
theorem rR{g:TGraph}{R:List Bool}{st T:List Int}{a:Nat}(hst:st.length<64)(ha:a<g.Succ.length)(h64:g.Succ.length<=64)(ht:T.getD a 0=((g.Succ.getD a []).length:Int)) :
  Jc g R (st++[(a:Int)]) T=some (.done (.inl T)):=by
 unfold Jc;simp only[top (st:=st)  (by omega),Am];rw[Ad (Fz (by omega)),Ad (Fz ha),ht,C9,Ax]
theorem ie{g:TGraph}{R:List Bool}{st T:List Int}{a t y:Nat}(hst:st.length<64)(ha:a<g.Succ.length)(h64:g.Succ.length<=64)(ht:T.getD a 0=(t:Int))(htl:t<(g.Succ.getD a []).length)(htm:t<64)
  (hy:(g.Succ.getD a []).getD t 0=(y:Int)) (hyn:y<g.Succ.length) :
  Jc g R (st++[(a:Int)]) T=bif R.getD y false then some (.next (P4 64 (0:Int) T a ((t+1:Nat):Int))) else some (.done (.inr (P4 64 false R y true,P4 64 (0:Int) T a ((t+1:Nat):Int),(st++[(a:Int)])++[(y:Int)]))):=by
 have hroom:1000<=room:=by decide
 unfold Jc;simp only[top (st:=st)  (by omega),Am,ht,hy];rw[Ad (Fz (by omega)),Ad (Fz ha),B0 htl, Ad (Fz ha),Ad (Fz (by omega)),Ad (Fz htl),Ad (Fz (by omega)),Ad (Fz (by omega)),Ad (Fz (by omega)),w1 (by omega)]
 cases R.getD y _ with
 | true=>rfl
 | false=>
  simp only[J1,Ah,Ax];rw[Ad (Fz (by omega)),Ad (by grind)]
theorem ic{g:TGraph}{R:List Bool}{st T Lf:List Int}{a:Nat}(hst:st.length<64)(hLf:Lf.length<64) :
  E3 g (R,T,st++[(a:Int)],Lf)=(Ac (Jc g R (st++[(a:Int)])) T).bind λx=>match x with
   | .inl T'=>if st=[] then some (.done (Lf++[(a:Int)]).reverse) else some (.next (R,T',st,Lf++[(a:Int)]))
   | .inr (R',T',st')=>some (.next (R',T',st',Lf)):=by
 have hroom:1000<=room:=by decide
 unfold E3;simp only
 have hb:A2 (w64 ((st++[(a:Int)]).length-1)) (st++[(a:Int)]).length:=by rw[zS (by omega)];exact Fz (by simp)
 rw[Ad hb]
 congr 1
 funext x
 cases x with
 | inr y =>  rfl
 | inl T'=>
  simp only[top (st:=st)  (by omega)];rw[zS (by omega),Am,Ad (by grind),Ad ⟨by omega,by simp⟩];have e:(st++[(a:Int)]).take _=st:=List.take_left' rfl;rw[e]
  cases st with
  | nil=>
   rw[if_pos rfl]
   have:decide (0<(([]:List Int).length:Int))=false:=by decide
   rw[this,Ax,lX _ (by simp;omega)];simp only[An];rw[Ad (by simp)]
  | cons b st'=>
   simp_all
theorem f5{S X:Type}{f:S->Option (LR S X)}{a b:S}(h:f a=f b):Ac f a=Ac f b:=by
 cases hb:f b with
 | none=>rw[Xr (h.trans hb),Xr hb]
 | some r=>cases r with
  | done x=>rw[Ak (h.trans hb),Ak hb]
  | next s=>rw[Ap (h.trans hb),Ap hb]
theorem ME{S X:Type}{f:S->Option (LR S X)}{s:S}:Rv (f s) f=Ac f s:=by
 cases hb:f s with
 | none=>rw[Xr hb];rfl
 | some r=>cases r with
  | done x=>rw[Ak hb];rfl
  | next s'=>rw[Ap hb];rfl
def sN(L:List (List Int))(k:Nat):List Nat:=(L.getD k []).map Int.toNat
def RelS(R:List Bool)(s:Nat->Bool):Prop:=∀ z,z<64->R.getD z false=s z
theorem Tf{α:Type}{d:α}{l:List α}{i:Nat}{x:α}{k:Nat}(hk:k<64):(P4 64 d l i x).getD k d=if k=i then x else l.getD k d:=by
 rw[XV hk]
 by_cases h:k=i
 · simp
 ·have:Nat.beq k i=false:=by cases hb:Nat.beq k i with|false=>rfl|true=>simp_all
  rw[this,if_neg h];rfl
theorem RelS.set{R:List Bool}{s:Nat->Bool}(h:RelS R s){y:Nat}:RelS (P4 64 false R y true) (upd s y):=λz hz=>by
 rw[Tf hz,h z hz]
 by_cases hzy:z=y
 ·simp[upd]
 ·simp[upd]
def V1(o:List Nat):List Int:=o.map Int.ofNat
theorem gZ{g:TGraph}(hm:Mm g.Succ=true){s s':Nat->Bool}{l o:List Nat}(hv:VL (sN g.Succ) s l s' o) :
  ∀(R:List Bool) (T st Lf:List Int) (a t:Nat),RelS R s->a<g.Succ.length->l=(sN g.Succ a).drop t->T.getD a 0=(t:Int)->t<=(sN g.Succ a).length->s a=true->(∀ z,z<64->s z=false->T.getD z 0=0)->
   Lf.length+cN 64 s+st.length+1<=64->
   ∃(R':List Bool) (T':List Int),RelS R' s'/\(∀ z,z<64->s' z=false->T'.getD z 0=0)/\(∀ z,z<64->s z=true->z≠a->T'.getD z 0=T.getD z 0)/\Lf.length+o.length+cN 64 s'+st.length+1<=64 /\
    Ac (E3 g) (R,T,st++[(a:Int)],Lf)=if st=[] then some (Lf++V1 o++[(a:Int)]).reverse else Ac (E3 g) (R',T',st,Lf++V1 o++[(a:Int)]):=by
 obtain⟨hL1,hL64,hLok⟩:=mayS_iff.1 hm
 have hlenS:∀ a,(sN g.Succ a).length=(g.Succ.getD a []).length:=λa=>by simp[sN]
 have hdrop:∀(a t y:Nat) (l':List Nat),a<g.Succ.length->y::l'=(sN g.Succ a).drop t->t<(g.Succ.getD a []).length/\(g.Succ.getD a []).getD t 0=(y:Int)/\y<g.Succ.length/\l'=(sN g.Succ a).drop (t+1):=λa t y l' ha he=>by
  have ht:t<(sN g.Succ a).length:=by
   rcases zzL126 t (sN g.Succ a).length with h|h
   ·exact h
   ·rw[List.drop_eq_nil_of_le h]at he;cases he
  rw[SK ht]at he;simp only[Ds]at he;obtain⟨h1,h2⟩:=he
  have ht':t<(g.Succ.getD a []).length:=by rw[<- hlenS];exact ht
  obtain⟨b0,b1⟩:=AX (hLok a ha) ht'
  have h3:(sN g.Succ a)[t]=((g.Succ.getD a []).getD t 0).toNat:=by rw[Ab _ _ _ ht'];simp[sN]
  exact⟨ht',by omega,by omega,h2⟩
 induction hv with
 | nil s=>
  intro R T st Lf a t hR ha hl hT htl hsa hz hc
  have ht:t=(g.Succ.getD a []).length:=by
   have:=Bj List.length hl;simp at this;rw[hlenS]at htl this;omega
  refine⟨R,T,hR,hz,λ_ _ _ _=>rfl,by simpa using hc,?_⟩
  have hF:E3 g (R,T,st++[(a:Int)],Lf)=if st=[] then some (.done (Lf++[(a:Int)]).reverse) else some (.next (R,T,st,Lf++[(a:Int)])):=by
   rw[ic (by omega) (by omega),Ak (rR (by omega) ha hL64 (by rw[hT,ht]))]
   rfl
  by_cases hst:st=[]
  ·rw[if_pos hst]at hF ⊢;rw[Ak hF];simp[V1]
  ·rw[if_neg hst]at hF ⊢;rw[Ap hF];simp[V1]
 | @skip s s' y l o h tl ih=>
  intro R T st Lf a t hR ha hl hT htl hsa hz hc;obtain⟨h1,h2,h3,h4⟩:=hdrop a t y l ha hl;have hb:=DK (hLok a ha);have hs:=ie (g:=g) (R:=R) (st:=st) (T:=T) (a:=a) (t:=t) (y:=y) (by omega) ha hL64 hT h1 (by omega) h2 h3;rw[hR y (by omega),h,Ah]at hs;obtain⟨R',T',a1,a2,a3,a4,a5⟩:=ih R (P4 64 (0:Int) T a ((t+1:Nat):Int)) st Lf a (t+1) hR ha h4 (by rw[Tf (by omega),if_pos rfl]) (by rw[hlenS];omega) hsa
   (λz hz1 hz2=>by rw[Tf hz1,if_neg (by rintro rfl;rw[hsa]at hz2;cases hz2)];exact hz z hz1 hz2) hc
  refine⟨R',T',a1,a2,λz hz1 hz2 hz3=>by rw[a3 z hz1 hz2 hz3,Tf hz1,if_neg hz3],a4,?_⟩;rw[<- a5]
  apply f5
  rw[ic (by omega) (by omega),ic (by omega) (by omega),Ap hs]
 | @step s s1 s2 y l o1 o2 h tl tr ih1 ih2=>
  intro R T st Lf a t hR ha hl hT htl hsa hz hc;obtain⟨h1,h2,h3,h4⟩:=hdrop a t y l ha hl;have hb:=DK (hLok a ha)
  have hay:y≠a:=by rintro rfl;rw[hsa]at h;cases h
  have hs:=ie (g:=g) (R:=R) (st:=st) (T:=T) (a:=a) (t:=t) (y:=y) (by omega) ha hL64 hT h1 (by omega) h2 h3;rw[hR y (by omega),h,Ax]at hs;have hcu:=CW (n:=64) (show y<64 by omega) h
  have hF:E3 g (R,T,st++[(a:Int)],Lf)=some (.next (P4 64 false R y true,P4 64 (0:Int) T a ((t+1:Nat):Int),(st++[(a:Int)])++[(y:Int)],Lf)):=by
   rw[ic (by omega) (by omega),Ak hs]
   rfl
  obtain⟨R1,T1,b1,b2,b3,b4,b5⟩:=ih1 (P4 64 false R y true) (P4 64 (0:Int) T a ((t+1:Nat):Int)) (st++[(a:Int)]) Lf y 0 hR.set h3 (by simp)
   (by rw[Tf (by omega),if_neg hay];exact hz y (by omega) h) (P0 _) (upd_true.2 (.inl rfl))
   (λz hz1 hz2=>by
    obtain⟨c1,c2⟩:=upd_false.1 hz2;rw[Tf hz1,if_neg (by rintro rfl;rw[hsa]at c2;cases c2)]
    exact hz z hz1 c2) (by rw[Fh,EQ];omega)
  rw[if_neg (by simp)]at b5
  have hTa:T1.getD a 0=((t+1:Nat):Int):=by rw[b3 a (by omega) (upd_true.2 (.inr hsa)) (Q4 hay),Tf (by omega),if_pos rfl]
  rw[Fh,EQ]at b4;obtain⟨R2,T2,c1,c2,c3,c4,c5⟩:=ih2 R1 T1 st (Lf++V1 o1++[(y:Int)]) a (t+1) b1 ha h4 hTa (by rw[hlenS];omega) ((tl.seen a).2 (.inl (upd_true.2 (.inr hsa)))) b2
   (by simp only[Fh,EQ,V1,Dy];omega)
  refine⟨R2,T2,c1,c2,λz hz1 hz2 hz3=>?_,?_,?_⟩
  ·rw[c3 z hz1 ((tl.seen z).2 (.inl (upd_true.2 (.inr hz2)))) hz3,b3 z hz1 (upd_true.2 (.inr hz2)) (by rintro rfl;rw[h]at hz2;cases hz2),Tf hz1,if_neg hz3]
  ·simp only[Fh,EQ,V1,Dy,EU]at c4 ⊢;omega
  ·rw[Ap hF,b5,c5]
   have e:Lf++V1 o1++[(y:Int)]++V1 o2++[(a:Int)]=Lf++V1 (o1++y::o2)++[(a:Int)]:=by simp[V1]
   rw[e]
theorem Wm{L:List (List Int)}(h:Mm L=true):∀ z,z<L.length->∀ y∈sN L z,y<L.length:=λz hz y hy=>by
 obtain⟨_,_,h3⟩:=mayS_iff.1 h;obtain⟨x,hx,rfl⟩:=zzL21.1 hy;have:=ah (h3 z hz) hx;omega
theorem sn{r:Nat}(hr:r<64):cN 64 (one r)=63:=by
 have h:=CW  (s:=λ_=>false) hr rfl
 have e:upd (λ_=>false) r=one r:=by funext z;simp[upd,one]
 rw[e]at h
 have:cN 64 (λ_=>false)=64:=by decide
 omega
theorem HZ{α:Type}{n z:Nat}{d:α}:(List.replicate n d).getD z d=d:=by grind
theorem ZY(g:TGraph)(h:Fits g.Succ)(hP:True)(r:Int) :
  (DW g=true->0<=r->r<(g.Succ.length:Int)->∀ L,Ord (sN g.Succ) r.toNat L->K9 g r=some (V1 L)) /\
  ((DW g&&(decide (0<=r)&&decide (r<(g.Succ.length:Int))))=false->K9 g r=some []):=by
 refine⟨λhm h0 h1 L hL=>?_,λhf=>?_⟩
 ·have hms:Mm g.Succ=true:=by unfold DW at hm;exact(A6 _ _▸hm).1
  obtain⟨hL1,hL64,hLok⟩:=mayS_iff.1 hms;obtain⟨s',o,hv,rfl⟩:=hL;have hrn :=Y5 h0
  have hr:r.toNat<g.Succ.length:=by omega
  obtain⟨R',T',_,_,_,_,hmain⟩:=gZ hms hv (P4 64 false (List.replicate 64 false) r.toNat true) _ [] [] r.toNat 0
   (λz hz=>by rw[Tf hz,HZ];by_cases hzr:z=r.toNat<;>simp[one,hzr]) hr (by simp) HZ (P0 _) (by simp[one])
   (λz hz _=>HZ) (by rw[sn (by omega)];simp)
  rw[if_pos rfl,hrn]at hmain;unfold K9;rw[uy _ h,hm,An];simp only[Dr,Vc,Ah,Ax,Wa,Co h0,Co h1,Bool.and_self,An];rw[Ad ⟨h0,by omega⟩];have hF:∀ X,Ac (E3 g) (P4 64 false (List.replicate 64 false) r.toNat true,List.replicate 64 (0:Int),[]++[r],[])=some X->
    (Rv _ (E3 g)).bind (λx=>some x)=some X:=λX hX=>by
   rw[ME];rw[hX];rfl
  refine(hF _ hmain).trans ?_;simp only[Y7,List.reverse_append,V1,Cs,List.map_reverse,List.reverse_cons,List.reverse_nil]
  simp
  omega
 ·unfold K9;rw[uy _ h,An]
  cases hm:DW g with
  | false=>rfl
  | true=>
   rw[hm,Ld]at hf;simp only[Dr,Vc,Ah,Ax,Wa,hf,An,J1]
   rfl
def RelN(n:Nat)(R:List Bool)(s:Nat->Bool):Prop:=R.length=n/\∀ z,z<n->R.getD z false=s z
theorem RelN.set{n:Nat}{R:List Bool}{s:Nat->Bool}(h:RelN n R s){y:Nat}(hy:y<n):RelN n (R.set y true) (upd s y):=by
 refine⟨by rw[Dc];exact h.1,λz hz=>?_⟩;rw[Wt,List.getElem?_set]
 by_cases hzy:y=z
 ·subst hzy;simp[upd,h.1,hy]
 ·rw[if_neg hzy,<- Wt,h.2 z hz];simp[upd,Q4 hzy]
theorem Tk:∀(n:Nat) (l:List Nat),l.Nodup->(∀ x∈l,x<n)->l.length<=n
 | 0,l,_,h=>by
  cases l with
  | nil=>simp
  | cons x l=>have:=h x (zzL53 ..);omega
 | n+1,l,hd,h=>by
  by_cases hn:n∈l
  ·have h1:=Tk n _ (hd.erase n) λx hx=>by
    grind
   rw[List.length_erase_of_mem hn]at h1;omega
  ·have h1:=Tk n l hd λx hx=>by
    grind
   omega
theorem FN:∀{a b:List Int},a.Pairwise (·<·)->b.Pairwise (·<·)->(∀ x,x∈a↔x∈b)->a=b
 | [],[],_,_,_=>rfl
 | [],y::b,_,_,h=>by have:=(h y).2 (zzL53 ..);cases this
 | x::a,[],_,_,h=>by have:=(h x).1 (zzL53 ..);cases this
 | x::a,y::b,ha,hb,h=>by
  have ha':=zzL75.1 ha;have hb':=zzL75.1 hb
  have hxy:x=y:=by
   rcases zzL37.1 ((h x).1 (zzL53 ..)) with h1|h1
   ·exact h1
   ·rcases zzL37.1 ((h y).2 (zzL53 ..)) with h2|h2
    ·exact h2.symm
    ·grind
  congr 1
  refine FN ha'.2 hb'.2 λz=>⟨λhz=>?_,λhz=>?_⟩
  ·grind
  ·grind
theorem LH(p:Nat->Bool)(n:Nat):(((List.range n).filter p).map Int.ofNat).Pairwise (·<·):=by
 rw[List.pairwise_map];have:=(List.pairwise_lt_range (n:=n)).filter p
 exact this.imp λh=>by simpa using h
theorem dJ{p:Nat->Bool}{n:Nat}{x:Int}:x∈((List.range n).filter p).map Int.ofNat↔∃ k:Nat,x=(k:Int)/\k<n/\p k=true:=by
 grind
theorem o5{L:List (List Int)}{k i:Nat}:Yu L k i=true↔(i:Int)∈L.getD k []:=by unfold Yu;rw[zzL64]
theorem oE{b:Bool}{α:Type}{x:α}:(bif b then x else x)=x:=by cases b<;>rfl
theorem wr{L:List (List Int)}(h:Mm L=true){x y:Nat}(hx:x<L.length):y∈sN L x↔(y:Int)∈L.getD x []:=by
 obtain⟨_,_,h3⟩:=mayS_iff.1 h;unfold sN;rw[zzL21]
 constructor
 ·rintro⟨z,hz,rfl⟩;have:=ah (h3 x hx) hz;rw[Y5 this.1];exact hz
 ·grind
def mk(o:List Bool)(l:List Nat):List Bool:=l.foldl (λo y=>o.set y true) o
theorem gE(l:List Nat):∀ o:List Bool,(mk o l).length=o.length:=by
 induction l with
 | nil=>intro o;rfl
 | cons y l ih=>intro o;show(mk _ l).length=_;rw[ih,Dc]
theorem mk_at{n:Nat}(l:List Nat):∀(o:List Bool),o.length=n->(∀ y∈l,y<n)->∀ z,(mk o l).getD z false=true↔o.getD z false=true\/z∈l:=by
 induction l with
 | nil =>  simp[mk]
 | cons y l ih=>
  intro o ho hl z
  show(mk _ l).getD z _=true↔_
  rw[ih _ (by grind) (λu hu=>hl u (N6 _ hu)) z]
  have e:(o.set y true).getD z false=true↔o.getD z false=true\/z=y:=by
   grind
  rw[e,zzL37]
  constructor
  ·grind
  ·rintro(h|h|h)
   ·exact .inl (.inl h)
   ·exact .inl (.inr h)
   ·exact .inr h
def sw(S:Nat->List Nat)(o:List Bool):Nat->List Bool
 | 0=>o
 | i+1=>if(sw S o i).getD i false=true then mk (sw S o i) (S i) else sw S o i
def HV(S:Nat->List Nat)(n:Nat)(o:List Bool):Nat->List Bool
 | 0=>o
 | j+1=>sw S (HV S n o j) n
section
variable {S:Nat->List Nat} {n:Nat} (hS:∀ z,z<n->∀ y∈S z,y<n)
theorem sw_len(o:List Bool):∀ i,(sw S o i).length=o.length:=by
 intro i
 induction i with
 | zero=>rfl
 | succ i ih=>unfold sw;split;rw[gE,ih];exact ih
theorem Yd(o:List Bool):∀ j,(HV S n o j).length=o.length:=by
 intro j
 induction j with
 | zero=>rfl
 | succ j ih=>unfold HV;rw[sw_len,ih]
include hS
theorem OJ{o:List Bool}(ho:o.length=n):∀ i,i<=n->∀ z,o.getD z false=true->(sw S o i).getD z false=true:=by
 intro i
 induction i with
 | zero=>intro _ z h;exact h
 | succ i ih=>
  intro hi z h;unfold sw
  split
  ·exact(mk_at  _ _ (by rw[sw_len];exact ho) (hS i (by omega)) z).2 (.inl (ih (by omega) z h))
  ·exact ih (by omega) z h
theorem qL{o:List Bool}{r:Nat}(ho:o.length=n)(h:∀ z,o.getD z false=true->Rch S r z):∀ i,i<=n->∀ z,(sw S o i).getD z false=true->Rch S r z:=by
 intro i
 induction i with
 | zero=>intro _ z hz;exact h z hz
 | succ i ih=>
  intro hi z hz;unfold sw at hz
  split at hz
  ·rename_i hsi
   rcases(mk_at  _ _ (by rw[sw_len];exact ho) (hS i (by omega)) z).1 hz with h1|h1
   ·exact ih (by omega) z h1
   ·exact(ih (by omega) i hsi).tail h1
  ·exact ih (by omega) z hz
theorem uH{o:List Bool}(ho:o.length=n):∀ i,i<=n->∀ j,j<i->o.getD j false=true->∀ y∈S j,(sw S o i).getD y false=true:=by
 intro i
 induction i with
 | zero =>  omega
 | succ i ih=>
  intro hi j hj hoj y hy;unfold sw
  by_cases hji:j=i
  ·subst hji;have h1:=OJ hS ho j (by omega) j hoj;rw[if_pos h1];exact(mk_at  _ _ (by rw[sw_len];exact ho) (hS j (by omega)) y).2 (.inr hy)
  ·have h1:=ih (by omega) j (by omega) hoj y hy
   split
   ·exact(mk_at  _ _ (by rw[sw_len];exact ho) (hS i (by omega)) y).2 (.inl h1)
   ·exact h1
theorem mJ{o:List Bool}(ho:o.length=n)(hc:∀ j,j<n->o.getD j false=true->∀ y∈S j,o.getD y false=true):∀ i,i<=n->∀ z,(sw S o i).getD z false=true->o.getD z false=true:=by
 intro i
 induction i with
 | zero=>intro _ z h;exact h
 | succ i ih=>
  intro hi z hz;unfold sw at hz
  split at hz
  ·rcases(mk_at  _ _ (by rw[sw_len];exact ho) (hS i (by omega)) z).1 hz with h1|h1
   ·exact ih (by omega) z h1
   ·grind
  ·exact ih (by omega) z hz
theorem BM{r:Nat}(hr:r<n)(z:Nat):(HV S n ((List.replicate n false).set r true) n).getD z false=true↔Rch S r z:=by
 let o0:=(List.replicate n false).set r true
 have ho0:o0.length=n:=by simp[o0]
 have hat0:∀ z,o0.getD z false=true↔z=r:=λz=>by
  grind
 have hlen:∀ j,(HV S n o0 j).length=n:=λj=>by rw[Yd,ho0]
 have hsound:∀ j z,(HV S n o0 j).getD z false=true->Rch S r z:=by
  intro j
  induction j with
  | zero=>intro z hz;rw[(hat0 z).1 hz];exact .refl _
  | succ j ih=>intro z hz;exact qL hS (hlen j) ih n (zzL6 _) z hz
 have hmono:∀ j,∀ z,o0.getD z false=true->(HV S n o0 j).getD z false=true:=by
  intro j
  induction j with
  | zero=>intro z h;exact h
  | succ j ih=>intro z h;exact OJ hS (hlen j) n (zzL6 _) z (ih z h)
 let C:Nat->Prop:=λj=>∀ i,i<n->(HV S n o0 j).getD i false=true->∀ y∈S i,(HV S n o0 j).getD y false=true
 have key:∀ j,C j\/cN n (λz=>(HV S n o0 j).getD z false)+j+1<=n:=by
  intro j
  induction j with
  | zero=>
   refine .inr ?_;have h1:=CW (n:=n) (s:=λ_=>false) hr rfl
   have e:upd (λ_=>false) r=λz=>(HV S n o0 0).getD z false:=by
    funext z
    rw[Wy,upd_true]
    show _↔o0.getD z false=true
    rw[hat0]
    simp
   rw[e]at h1
   have hcl:cN n (λ_=>false)=n:=by
    unfold cN;rw[List.filter_eq_self.2 (by simp)]
    simp
   omega
  | succ j ih=>
   by_cases hc:C j
   ·refine .inl λi hi h y hy=>?_;have h1:=mJ hS (hlen j) hc n (zzL6 _) i h;exact OJ hS (hlen j) n (zzL6 _) y (hc i hi h1 y hy)
   ·rcases ih with ih|ih
    ·exact(hc ih).elim
    ·refine .inr ?_
     have hex:∃ i,i<n/\(HV S n o0 j).getD i false=true/\∃ y,y∈S i/\(HV S n o0 j).getD y false=false:=by
      grind
     obtain⟨i,hi,h1,y,hy,h2⟩:=hex;have h3:=uH hS (hlen j) n (zzL6 _) i hi h1 y hy;have hyn:=hS i hi y hy;have h4:=CW (n:=n) (s:=λz=>(HV S n o0 j).getD z false) hyn h2
     have h5:cN n (λz=>(HV S n o0 (j+1)).getD z false)<=cN n (upd (λz=>(HV S n o0 j).getD z false) y):=cO λz hz=>by
      rcases upd_true.1 hz with rfl|hz
      ·exact h3
      ·exact OJ hS (hlen j) n (zzL6 _) z hz
     omega
 constructor
 ·exact hsound n z
 ·intro hrch
  have hlt:∀ x z,Rch S x z->x<n->z<n/\((HV S n o0 n).getD x false=true->(HV S n o0 n).getD z false=true):=by
   intro x z hxz
   induction hxz with
   | refl x=>exact λhx=>⟨hx,id⟩
   | @head x y z hy _ ih=>
    grind
  exact(hlt r z hrch hr).2 (hmono n r ((hat0 r).2 rfl))
end
theorem tI{L:List (List Int)}(hm:Mm L=true){r:Nat}(hr:r<L.length) :
  Db (Kc L) (r:Int) (-1:Int)=some (HV (sN L) L.length ((List.replicate L.length false).set r true) L.length):=by
 obtain⟨h1,h2,h3⟩:=mayS_iff.1 hm
 have hroom:(1000:Nat)<=room:=by decide
 have hS:=Wm hm;have hgs:(Kc L).Succ=L:=rfl
 have hlenS:∀ a,(sN L a).length=(L.getD a []).length:=λa=>by simp[sN]
 have hin:∀(o:List Bool) (i:Nat),o.length=L.length->i<L.length->Ac (A3 (Kc L) (-1) (i:Int)) ((0:Int),o)=some (if o.getD i false=true then mk o (sN L i) else o):=λo i ho hi=>by
  have hb:=DK (h3 i hi)
  by_cases hoi:o.getD i false=true
  ·rw[if_pos hoi];have hmi:∀ k,(mk o ((sN L i).take k)).getD i false=true:=λk=>(mk_at (n:=L.length) _ _ ho (λy hy=>hS i hi y (List.mem_of_mem_take hy)) i).2 (.inl hoi)
   have hml:∀ k,(mk o ((sN L i).take k)).length=L.length:=λk=>by rw[gE,ho]
   refine Em (A3 (Kc L) (-1) (i:Int)) (λk=>(((k:Nat):Int),mk o ((sN L i).take k))) _ (L.getD i []).length (λk hk=>?_) ?_
   ·unfold A3;obtain⟨a0,a1⟩:=AX (h3 i hi) hk;simp only[hgs,Am,hmi];rw[Ad (Fz (by rw[hml];exact hi)),M2 (Fz hi),Ah,B0 hk,Ah,Ad (Fz hi),Ad (Fz hk)]
    have hne:((L.getD i []).getD k 0 !=(-1:Int))=true:=by rw[zzL100];omega
    rw[hne,Ah,Ad (Fz hi),Ad (Fz hk),Ad ⟨a0,by rw[hml];exact a1⟩,w1 (by omega)]
    have e:mk o ((sN L i).take (k+1))=(mk o ((sN L i).take k)).set ((L.getD i []).getD k 0).toNat true:=by
     have hk':k<(sN L i).length:=by rw[hlenS];exact hk
     rw[bM hk'];unfold mk;rw[List.foldl_append]
     have:(sN L i)[k]=((L.getD i []).getD k 0).toNat:=by rw[Ab _ _ _ hk];simp[sN]
     rw[this]
     rfl
    rw[e]
    rfl
   ·unfold A3;simp only[hgs,Am,hmi];rw[Ad (Fz (by rw[hml];exact hi)),M2 (Fz hi),Ah,C9,Ax]
    have:(sN L i).take (L.getD i []).length=sN L i:=by rw[<- hlenS];exact Ww ..
    rw[this]
  ·have hof:o.getD i false=false:=by simpa using hoi
   rw[if_neg hoi]
   apply Ak
   unfold A3;simp only[hgs,Am,hof];rw[Ad (Fz (by rw[ho];exact hi)),M2 (Fz hi),Ax,Ax]
 have hsw:∀ o:List Bool,o.length=L.length->Ac (A4 (Kc L) (-1)) ((0:Int),o)=some (sw (sN L) o L.length):=λo ho=>by
  refine Em (A4 (Kc L) (-1)) (λi=>(((i:Nat):Int),sw (sN L) o i)) _ L.length (λi hi=>?_) ?_
  ·show A4 (Kc L) (-1) (_,_)=_
   unfold A4
   have hl:(sw (sN L) o i).length=L.length:=by rw[sw_len,ho]
   simp only[hl,B0 hi,Ah];rw[hin _ i hl hi,w1 (by omega)]
   rfl
  ·show A4 (Kc L) (-1) (_,_)=_
   unfold A4
   have hl:(sw (sN L) o L.length).length=L.length:=by rw[sw_len,ho]
   simp only[hl,C9,Ax]
 unfold Db;simp only[hgs,Am];rw[Ad ⟨by omega,Int.le_refl _,by omega⟩]
 have hne:((r:Int)==(-1:Int))=false:=by rw[zzL30];omega
 rw[hne,Ax,Ad (Fz (by simpa using hr))]
 have hl0:((List.replicate L.length false).set r true).length=L.length:=by simp
 have:Ac (A5 (Kc L) (-1)) ((0:Int),(List.replicate L.length false).set r true)=some (HV (sN L) L.length ((List.replicate L.length false).set r true) L.length):=by
  refine Em (A5 (Kc L) (-1)) (λj=>(((j:Nat):Int),HV (sN L) L.length ((List.replicate L.length false).set r true) j)) _ L.length (λj hj=>?_) ?_
  ·show A5 (Kc L) (-1) (_,_)=_
   unfold A5
   have hl:(HV (sN L) L.length ((List.replicate L.length false).set r true) j).length=L.length:=by rw[Yd,hl0]
   simp only[hl,B0 hj,Ah];rw[hsw _ hl,w1 (by omega)]
   rfl
  ·show A5 (Kc L) (-1) (_,_)=_
   unfold A5
   have hl:(HV (sN L) L.length ((List.replicate L.length false).set r true) L.length).length=L.length:=by rw[Yd,hl0]
   simp only[hl,C9,Ax]
 rw[this]
 rfl
def pos:List Nat->Nat->Nat
 | [],_=>0
 | x::l,z=>if x=z then 0 else pos l z+1
theorem RJ(x:Nat)(l:List Nat)(z:Nat):pos (x::l) z=if x=z then 0 else pos l z+1:=rfl
theorem tn{A l:List Nat}{z:Nat}(h:z∉A):pos (A++l) z=A.length+pos l z:=by
 induction A with
 | nil=>simp
 | cons x A ih=>
  have h1:x≠z:=λe=>h (by grind);have h2 :=λe=>h (N6 _ e);rw[CC,RJ,if_neg h1,ih h2,EU];omega
theorem OG{P:List Nat}(hd:P.Nodup){i:Nat}(hi:i<P.length):P[i]∉P.take i/\pos P P[i]=i:=by
 have e:P=P.take i++P[i]::P.drop (i+1):=by simp_all
 have hn:P[i]∉P.take i:=by
  grind
 refine⟨hn,?_⟩
 have h2:pos (P.take i++P[i]::P.drop (i+1)) P[i]=i:=by
  rw[tn hn]
  have:pos (P[i]::P.drop (i+1)) P[i]=0:=by rw[RJ,if_pos rfl]
  rw[ Wv];omega
 rw[<- e]at h2;exact h2
theorem nh{n:Nat}{p:Nat->Bool}:(List.range (n+1)).all p=((List.range n).all p&&p n):=by
 grind
theorem cQ(d:Array Int)(hs:∀ i j,i<=j->j<d.size->d[i]!<=d[j]!):∀ m,m<=d.size->(∀ x∈Lib.compactUpTo d m,∃ j,j<m/\x=d[j]!)/\(∀ j,j<m->d[j]!∈Lib.compactUpTo d m)/\(Lib.compactUpTo d m).Pairwise (·<·):=by
 intro m
 induction m with
 | zero=>intro _;exact⟨(λx hx=>by simp[Lib.compactUpTo]at hx),(λj hj=>by omega),by simp[Lib.compactUpTo]⟩
 | succ m ih=>
  intro hm;obtain⟨h1,h2,h3⟩:=ih (by omega);rw[Lib.compactUpTo_succ]
  cases hk:Lib.keeps d m with
  | true=>
   rw[if_pos rfl];refine⟨λx hx=>?_,λj hj=>?_,?_⟩
   ·grind
   ·grind
   ·rw[zzL128];refine⟨h3,List.pairwise_singleton _ _,λx hx y hy=>?_⟩;obtain⟨j,hj,rfl⟩:=h1 x hx
    have hy':y=d[m]!:=by simpa using hy
    subst hy'
    have hk':m=0\/d[m]!≠d[m-1]!:=by simpa [Lib.keeps] using hk
    rcases hk' with h0|h0
    ·omega
    ·have a1:=hs j (m-1) (by omega) (by omega);have a2:=hs (m-1) m (by omega) (by omega);omega
  | false=>
   have hk':m≠0/\d[m]! = d[m-1]!:=by
    have:¬ (m=0\/d[m]!≠d[m-1]!):=by
     intro h
     have:Lib.keeps d m=true:=by simpa [Lib.keeps] using h
     rw[hk]at this;cases this
    exact⟨λh=>this (.inl h),Classical.not_not.1 λh=>this (.inr h)⟩
   simp only[FQ,Iv,List.append_nil];refine⟨λx hx=>by grind,λj hj=>?_,h3⟩
   by_cases hjm:j=m
   ·subst hjm;rw[hk'.2];exact h2 _ (by omega)
   ·exact h2 j (by omega)
def BO(l:List Int):List Int:=Lib.compact (l.mergeSort λx y=>decide (x<=y))
theorem JZ(l:List Int):(BO l).Pairwise (·<·)/\∀ x,x∈BO l↔x∈l:=by
 unfold BO Lib.compact;have hp:(l.mergeSort _).Pairwise (λa b=>decide (a<=b)=true):=List.pairwise_mergeSort (λa b c h1 h2=>by simp at *;omega) (λa b=>by simp;omega) l;have hm:∀ x,x∈(l.mergeSort λx y=>decide (x<=y))↔x∈l:=λx=>List.mem_mergeSort
 generalize l.mergeSort _=z at hp hm ⊢
 have hz:∀ j,j<z.length->z.toArray[j]! = z.getD j 0:=λj hj=>by simp[ hj]
 obtain⟨h1,h2,h3⟩:=cQ z.toArray (λi j hij hj=>by
  have hj' :=by simpa using hj
  rw[hz i (by omega),hz j hj']
  by_cases he:i=j
  ·grind
  ·have:=(zzL91.1 hp) i j (by omega) hj' (by omega);rw[Ab _ _ _ _,Ab _ _ _ hj']
   simpa using this) z.length (by simp)
 refine⟨h3,λx=>?_⟩;rw[<- hm x]
 constructor
 ·grind
 ·intro hx;obtain⟨j,hj,rfl⟩:=G6 hx;have:=h2 j hj;rwa[hz j hj,Ab _ _ _ hj]at this
def rO(n:Nat)(l:List Int):Bool:=(List.range l.length).all λi=>decide (0<l.getD i 0)&&decide (l.getD i 0<(n:Int))
def BZ(k:Int):Int:=([0,1,2,0]:List Int).getD k.toNat 0
def Yv(e:On):Bool:=(decide (0<=e.Kind)&&decide (e.Kind<=3))&&decide ((e.To.length:Int)=BZ e.Kind)
def Ka(e:On)(n:Nat):Bool:=Yv e&&rO n e.To
theorem toB_iff{n:Nat}{l:List Int}:rO n l=true↔∀ x∈l,0<x/\x<n:=by
 unfold rO;rw[all_range];simp only[A6,Gq]
 constructor
 ·intro h x hx;obtain⟨i,hi,rfl⟩:=G6 hx;have:=h i hi;rwa[Ab _ _ _ hi]at this
 ·simp_all
theorem oi(e:On)(n:Nat)(hl:e.To.length<4611686018427387904):Ac (F1 e (n:Int)) (0:Int)=some (bif rO n e.To then .inl () else .inr false):=by
 have step:∀ j ,j<e.To.length->F1 e n j=bif (decide (0<e.To.getD j 0)&&decide (e.To.getD j 0<n)) then some (.next ((j+1:Int))) else some _:=λj hj=>by
  unfold F1;simp only[Am,B0 hj, Wa,w1 (show j<4611686018427387904 by omega)];rw[Ad (Fz hj)]
  by_cases h0:e.To.getD j 0=0
  ·rw[h0];rfl
  ·grind
 have:=H6 (F1 e n) (λj=>(j:Nat)) (λi=>decide (0<e.To.getD i 0)&&decide (e.To.getD i 0<n)) (.inl ()) (.inr false) e.To.length (λj hj hp=>?_) (λj hj hp=>?_) ?_
 ·exact this
 ·grind
 ·rw[step j hj,hp];rfl
 ·unfold F1;simp only[C9,Ax]
theorem GY(e:On)(n:Nat)(w:Int)(hw:0<=w/\w<=2) :
  (bif ((e.To.length:Int)!=w) then(some false) else((Ac (F1 e (n:Int)) (0:Int)).bind (λx10=>(match x10 with|(.inl _)=>(some true)|(.inr r12)=>(some r12)))))=some (decide ((e.To.length:Int)=w)&&rO n e.To):=by
 by_cases h:e.To.length=w
 ·rw[show(e.To.length !=w)=false by simpa using h, oi e n (by omega),Co h]
  cases rO n _<;>rfl
 ·grind
theorem lU(e:On)(n:Nat):Pc e (n:Int)=some (Ka e n):=by
 unfold Pc Ka Yv
 by_cases h0:e.Kind=0
 ·rw[h0];exact GY e n 0 (by omega)
 by_cases h1:e.Kind=1
 ·rw[h1];exact GY e n 1 (by omega)
 by_cases h2:e.Kind=2
 ·rw[h2];exact GY e n 2 (by omega)
 by_cases h3:e.Kind=3
 ·rw[h3];exact GY e n 0 (by omega)
 have e0:(e.Kind==0)=false:=by rw[zzL30];exact h0
 have e1:(e.Kind==1)=false:=by rw[zzL30];exact h1
 have e2:(e.Kind==2)=false:=by rw[zzL30];exact h2
 have e3:(e.Kind==3)=false:=by rw[zzL30];exact h3
 rw[e0,e1,e2,e3]
 have:(decide (0<=e.Kind)&&decide (e.Kind<=3))=false:=by
  by_cases h:0<=e.Kind
  ·rw[Cd (show ¬ e.Kind<=3 by omega)];simp
  ·rw[Cd h];rfl
 rw[this]
 rfl
theorem ot{e:On}{n:Nat}(h:Ka e n=true):e.To.length<=2:=by
 unfold Ka Yv at h;simp only[A6,Gq]at h;obtain⟨⟨⟨h0,h1⟩,h2⟩,_⟩:=h
 have:BZ e.Kind<=2:=by
  have:e.Kind=0\/e.Kind=1\/e.Kind=2\/e.Kind=3:=by omega
  rcases this with h|h|h|h<;>rw[h]<;>decide
 omega
theorem ZM{e:On}{n:Nat}(h:Ka e n=true):rO n e.To=true:=by unfold Ka at h;exact(A6 _ _▸h).2
def Bn(f:TFunc)(i:Nat):On:=(f.Blocks.getD i (default:Ae)).End
def A1(f:TFunc):List (List Int):=(List.range f.Blocks.length).map λi=>BO (Bn f i).To
def Gp(f:TFunc):Bool:=(decide (1<=f.Blocks.length)&&decide (f.Blocks.length<=64))&&(List.range f.Blocks.length).all λi=>Ka (Bn f i) f.Blocks.length
theorem shape_iff{f:TFunc}:Gp f=true↔(1<=f.Blocks.length/\f.Blocks.length<=64)/\∀ i,i<f.Blocks.length->Ka (Bn f i) f.Blocks.length=true:=by
 unfold Gp;rw[A6,A6,all_range];simp only[Gq]
theorem t7{f:TFunc}{i:Nat}(h:Ka (Bn f i) f.Blocks.length=true):ma f.Blocks.length (BO (Bn f i).To)=true:=by
 obtain⟨h1,h2⟩:=JZ (Bn f i).To;exact wv (λx hx=>by have:=(toB_iff.1 (ZM h)) x ((h2 x).1 hx);omega) h1
theorem Jo{f:TFunc}(h:Gp f=true):Mm (A1 f)=true:=by
 obtain⟨⟨h1,h2⟩,h3⟩:=shape_iff.1 h
 have hl:(A1 f).length=f.Blocks.length:=by simp[A1]
 refine mayS_iff.2 ⟨by omega,by omega,λi hi=>?_⟩;rw[hl]at hi ⊢;unfold A1;rw[O7 hi];exact t7 (h3 i hi)
theorem yy(f:TFunc)(hf:f.Blocks.length<=maxLen):Tw f=some (bif Gp f then(Kc (A1 f),0) else(g0,5)):=by
 have hroom:(1000:Nat)<=room:=by decide
 unfold Tw;rw[WY,An];have hsh:Gp f=((decide (1<=f.Blocks.length)&&decide (f.Blocks.length<=64))&&(List.range f.Blocks.length).all λi=>Ka (Bn f i) f.Blocks.length):=rfl
 cases hc:(decide (1<=f.Blocks.length)&&decide (f.Blocks.length<=64)) with
 | false=>rw[hsh,hc];rfl
 | true=>
  have hc':=hc;simp only[A6,Gq]at hc';simp only[Dr,Ax];rw[Ad ⟨by omega,Int.le_refl _,by omega⟩,Am]
  let U:Nat->List (List Int):=λi=>(List.range f.Blocks.length).map λj=>if j<i then BO (Bn f j).To else[]
  have e0:List.replicate f.Blocks.length ([]:List Int)=U 0:=by
   simp only[U]
   apply List.ext_getElem?
   intro j
   by_cases hj:j<f.Blocks.length<;>simp[hj,List.getElem?_replicate]
  have eN:U f.Blocks.length=A1 f:=by
   simp only[U,A1]
   apply Ho
   intro j hj;rw[if_pos hj]
  rw[e0]
  have hstep:∀ i:Nat,i<f.Blocks.length->Hy f ((i:Int),U i)=bif Ka (Bn f i) f.Blocks.length then some (.next (((i+1:Nat):Int),U (i+1))) else some (.done (.inr (g0,5))):=λi hi=>by
   unfold Hy;simp only[B0 hi,Ah,Am];rw[Ad (Fz hi)];have he:(⟨(f.Blocks.getD i (default:Ae)).End.Kind,(f.Blocks.getD i (default:Ae)).End.Arg,(f.Blocks.getD i (default:Ae)).End.To⟩:On)=Bn f i:=rfl;rw[he,lU,An]
   cases hfit:Ka (Bn f i) f.Blocks.length with
   | false=>rfl
   | true=>
    have hl2:=ot hfit;simp only[Dr,Ax,Ah]
    have hx:IF (f.Blocks.getD i (default:Ae)).End.To=some (BO (Bn f i).To):=by
     unfold IF;rw[jR,Ad (by show(Bn f i).To.length<=_;omega)]
     rfl
    rw[hx,An,Ad (Fz (by simp[U];omega)),w1 (by omega)]
    congr 3
    simp only[U];rw[BU]
    apply Ho
    intro j hj
    by_cases h1:j=i
    ·subst h1;rw[if_pos rfl,if_pos (by omega)]
    ·rw[if_neg h1]
     by_cases h2:j<i
     ·rw[if_pos h2,if_pos (by omega)]
     ·rw[if_neg h2,if_neg (by omega)]
  have:=H6 (Hy f) (λi=>(((i:Nat):Int),U i)) (λi=>Ka (Bn f i) f.Blocks.length) (.inl (U f.Blocks.length)) (.inr (g0,5)) f.Blocks.length (λi hi hp=>?_) (λi hi hp=>?_) ?_
  ·rw[show Ac (Hy f) ((0:Int),U 0)=_ from this,hsh,hc,eN,Ld]
   cases hall:(List.range f.Blocks.length).all λi=>Ka (Bn f i) f.Blocks.length with
   | false=>rfl
   | true=>
    simp only[Ah,An];rw[dD _ (Jo (by rw[hsh,hc,hall];rfl))]
    rfl
  ·show Hy f (_,_)=_
   rw[hstep i hi,hp];rfl
  ·show Hy f (_,_)=_
   rw[hstep i hi,hp];rfl
  ·show Hy f (_,_)=_
   unfold Hy;simp only[C9,Ax]
def JX(l:List Int)(k:Nat):List Int:=((List.range k).filter λz:Nat=>decide (1<=z)&&l.contains (z:Int)).map Int.ofNat
theorem pw{n:Nat}{l:List Int}(h:rO n l=true):JX l n=BO l:=by
 obtain⟨h1,h2⟩:=JZ l;refine FN (LH _ _) h1 λx=>?_;rw[h2 x];unfold JX;rw[dJ]
 constructor
 ·grind
 ·intro hx;have:=(toB_iff.1 h) x hx;refine⟨x.toNat,by omega,by omega,?_⟩;rw[Y5 (by omega),zzL64.2 hx,Co (by omega)]
  rfl
theorem ly(f:TFunc)(i:Nat)(hl:(Bn f i).To.length<4611686018427387904):Ac (Fk f (i:Int)) (0:Int)=some (bif rO f.Blocks.length (Bn f i).To then .inl () else .inr (g0,5)):=by
 have hE:(f.Blocks.getD i _).End=Bn f i:=rfl
 have step:∀ j ,j<(Bn f i).To.length->Fk f i j=bif (decide (0<(Bn f i).To.getD j 0)&&decide ((Bn f i).To.getD j 0<f.Blocks.length)) then some (.next ((j+1:Nat))) else some _:=λj hj=>by
  unfold Fk;simp only[Am,hE,B0 hj, w1 (show j<4611686018427387904 by omega)];rw[Ad (Fz hj),M2 (Fz hj)]
  by_cases h0:(Bn f i).To.getD j 0<=0
  ·rw[Co h0,Cd (show ¬ 0<(Bn f i).To.getD j 0 by omega)];rfl
  ·rw[Cd h0,Co (show 0<(Bn f i).To.getD j 0 by omega)]
   by_cases h1:f.Blocks.length<=(Bn f i).To.getD j 0
   ·rw[Co h1,Cd (show ¬ (Bn f i).To.getD j 0<f.Blocks.length by omega)];rfl
   ·grind
 have:=H6 (Fk f i) (λj=>(j:Nat)) (λk=>decide (0<(Bn f i).To.getD k 0)&&decide ((Bn f i).To.getD k 0<f.Blocks.length)) (.inl ()) (.inr (g0,5)) (Bn f i).To.length (λj hj hp=>?_) (λj hj hp=>?_) ?_
 ·exact this
 ·grind
 ·rw[step j hj,hp];rfl
 ·unfold Fk;simp only[Am,hE,C9,Ax]
theorem lz(f:TFunc)(i:Nat)(hn:1<=f.Blocks.length/\f.Blocks.length<=64)(hl:(Bn f i).To.length<4611686018427387904):Ac (Hn f (i:Int)) (([]:List Int),(1:Int))=some (JX (Bn f i).To f.Blocks.length):=by
 have hroom:1000<=room:=by decide
 have hE:(f.Blocks.getD i _).End=Bn f i:=rfl
 have e0:JX (Bn f i).To 1=[]:=by unfold JX;simp
 have key:=Em (Hn f i) (λk=>(JX (Bn f i).To (k+1),(k+1:Nat))) (JX (Bn f i).To f.Blocks.length) (f.Blocks.length-1) (λk hk=>?_) ?_
 ·grind
 ·unfold Hn
  have hlen:(JX (Bn f i).To (k+1)).length<=k+1:=by
   unfold JX;have:=List.length_filter_le (λz =>decide (1<=z)&&(Bn f i).To.contains (z:Nat)) (List.range (k+1))
   simpa using this
  simp only[Am,hE,B0 (show k+1<f.Blocks.length by omega)];rw[pN _ _ hl,An,w1 (by omega)]
  have hs:JX (Bn f i).To (k+1+1)=JX (Bn f i).To (k+1)++(if(Bn f i).To.contains ((k+1:Nat))=true then[(k+1:Int)] else[]):=by
   unfold JX;rw[W0,Wu]
   cases hg:(Bn f i).To.contains _ with
   | true=>grind
   | false=>grind
  rw[hs]
  cases hg:(Bn f i).To.contains _ with
  | true=>
   rw[ Ad (by grind)]
   rfl
  | false =>  simp
 ·unfold Hn;simp only[show f.Blocks.length-1+1=f.Blocks.length by omega,C9,Ax]
theorem dG(f:TFunc)(hf:f.Blocks.length<=maxLen):Jg f=some (bif Gp f then(Kc (A1 f),0) else(g0,5)):=by
 have hroom:(1000:Nat)<=room:=by decide
 unfold Jg
 have hc:(bif ((f.Blocks.length:Int)==(0:Int)) then true else decide ((64:Int)<(f.Blocks.length:Int))) = !(decide (1<=f.Blocks.length)&&decide (f.Blocks.length<=64)):=by
  grind
 rw[hc];have hsh:Gp f=((decide (1<=f.Blocks.length)&&decide (f.Blocks.length<=64))&&(List.range f.Blocks.length).all λi=>Ka (Bn f i) f.Blocks.length):=rfl
 cases hb:(decide (1<=f.Blocks.length)&&decide (f.Blocks.length<=64)) with
 | false=>rw[hsh,hb];rfl
 | true=>
  have hb':=hb;simp only[A6,Gq]at hb';simp only[Dr,Ax]
  let U:Nat->List (List Int):=λi=>(List.range i).map λj=>JX (Bn f j).To f.Blocks.length
  have hstep:∀ i:Nat,i<f.Blocks.length->Ck f (U i,(i:Int))=bif Ka (Bn f i) f.Blocks.length then some (.next (U (i+1),((i+1:Nat):Int))) else some (.done (.inr (g0,5))):=λi hi=>by
   unfold Ck;have hE:(f.Blocks.getD i (default:Ae)).End=Bn f i:=rfl;simp only[B0 hi,Ah,Am,hE];rw[Ad (Fz hi),w1 (by omega)]
   by_cases hk:0<=(Bn f i).Kind/\(Bn f i).Kind<=3
   ·rw[Cd (show ¬ (Bn f i).Kind<0 by omega),Cd (show ¬ (3:Int)<(Bn f i).Kind by omega)];simp only[Ax];rw[M2 (show A2 (Bn f i).Kind ([(0:Int),1,2,0]:List Int).length from⟨hk.1,by show(Bn f i).Kind<4;omega⟩)];have hw:([(0:Int),1,2,0]:List Int).getD (Bn f i).Kind.toNat 0=BZ (Bn f i).Kind:=rfl;rw[hw]
    have hkb:Yv (Bn f i)=decide (((Bn f i).To.length:Int)=BZ (Bn f i).Kind):=by
     unfold Yv;rw[Co hk.1,Co hk.2];rfl
    unfold Ka;rw[hkb]
    by_cases hl:((Bn f i).To.length:Int)=BZ (Bn f i).Kind
    ·have hw2:BZ (Bn f i).Kind<=2:=by
      have:(Bn f i).Kind=0\/(Bn f i).Kind=1\/(Bn f i).Kind=2\/(Bn f i).Kind=3:=by omega
      rcases this with h|h|h|h<;>rw[h]<;>decide
     rw[show(((Bn f i).To.length:Int)!=BZ (Bn f i).Kind)=false by simpa using hl,Co hl,Ax,ly f i (by omega),Ld]
     cases htb:rO f.Blocks.length (Bn f i).To with
     | false=>rfl
     | true=>
      simp only[Ah,An];rw[lz f i hb' (by omega)];simp only[An];rw[Ad (by simp only[U,Dy,Vb,EQ];omega)]
      congr 3
      simp only[U];rw[W0,Wx]
      rfl
    ·rw[show(((Bn f i).To.length:Int)!=BZ (Bn f i).Kind)=true by simpa using hl,Cd hl];rfl
   ·have hbad:(bif decide ((Bn f i).Kind<0) then true else decide ((3:Int)<(Bn f i).Kind))=true:=by
     by_cases h0:(Bn f i).Kind<0
     ·rw[Co h0];rfl
     ·rw[Cd h0,Co (show(3:Int)<(Bn f i).Kind by omega)];rfl
    have hkb:Yv (Bn f i)=false:=by
     unfold Yv
     by_cases h0:0<=(Bn f i).Kind
     ·rw[Cd (show ¬ (Bn f i).Kind<=3 by omega)];simp
     ·rw[Cd h0];simp
    simp only[hbad];rw[Ad (by intro h;cases h)];unfold Ka;rw[hkb]
    rfl
  have:=H6 (Ck f) (λi=>(U i,((i:Nat):Int))) (λi=>Ka (Bn f i) f.Blocks.length) (.inl (U f.Blocks.length)) (.inr (g0,5)) f.Blocks.length (λi hi hp=>?_) (λi hi hp=>?_) ?_
  ·rw[show Ac (Ck f) (([]:List (List Int)),(0:Int))=_ from this,hsh,hb,Ld]
   cases hall:(List.range f.Blocks.length).all λi=>Ka (Bn f i) f.Blocks.length with
   | false=>rfl
   | true=>
    have hshape:Gp f=true:=by rw[hsh,hb,hall];rfl
    have hm:=Jo hshape
    have hU:U f.Blocks.length=A1 f:=by
     simp only[U,A1]
     apply Ho
     intro j hj;exact pw (ZM ((shape_iff.1 hshape).2 j hj))
    simp only[Ah,An];rw[hU,QH _ (Ub (Tj hm)),hm]
    rfl
  ·show Ck f (_,_)=_
   rw[hstep i hi,hp];rfl
  ·show Ck f (_,_)=_
   rw[hstep i hi,hp];rfl
  ·show Ck f (_,_)=_
   unfold Ck;simp only[C9,Ax]
inductive Rc (S:Nat->List Nat) (r:Nat):Nat->Prop
 | root:Rc S r r
 | step {x y:Nat} (h:Rc S r x) (hy:y∈S x):Rc S r y
inductive Av (S:Nat->List Nat) (r z:Nat):Nat->Prop
 | root (h:r≠z):Av S r z r
 | step {x y:Nat} (h:Av S r z x) (hy:y∈S x) (hz:y≠z):Av S r z y
inductive AvN (S:Nat->List Nat) (r z:Nat):Nat->Nat->Prop
 | root (h:r≠z) (k:Nat):AvN S r z k r
 | step {k x y:Nat} (h:AvN S r z k x) (hy:y∈S x) (hz:y≠z):AvN S r z (k+1) y
section
variable {S:Nat->List Nat} {r:Nat}
theorem rc_iff{x:Nat}:Rc S r x↔Rch S r x:=by
 constructor
 ·intro h
  induction h with
  | root=>exact .refl _
  | step _ hy ih=>exact ih.tail hy
 ·intro h
  have key:∀ a b,Rch S a b->Rc S r a->Rc S r b:=by
   intro a b hab
   induction hab with
   | refl x=>exact id
   | head hy _ ih=>exact λha=>ih (.step ha hy)
  exact key _ _ h .root
def wo(S:Nat->List Nat)(z:Nat):Nat->List Nat:=λx=>(S x).filter λy=>decide (y≠z)
theorem av_iff{z x:Nat}:Av S r z x↔r≠z/\Rch (wo S z) r x:=by
 constructor
 ·intro h
  induction h with
  | root h=>exact⟨h,.refl _⟩
  | step _ hy hz ih=>exact⟨ih.1,ih.2.tail (zzL114.2 ⟨hy,by simpa using hz⟩)⟩
 ·rintro⟨hr,h⟩
  have key:∀ a b,Rch (wo S z) a b->Av S r z a->Av S r z b:=by
   intro a b hab
   induction hab with
   | refl x=>exact id
   | head hy _ ih=>
    obtain⟨h1,h2⟩:=zzL114.1 hy;exact λha=>ih (.step ha h1 (by simpa using h2))
  exact key _ _ h (.root hr)
theorem Av.rc{z x:Nat}(h:Av S r z x):Rc S r x:=by
 induction h with
 | root _=>exact .root
 | step _ hy _ ih=>exact .step ih hy
theorem Av.ne{z x:Nat}(h:Av S r z x):x≠z:=by
 cases h with
 | root h=>exact h
 | step _ _ hz=>exact hz
theorem AvN.av{z k x:Nat}(h:AvN S r z k x):Av S r z x:=by
 induction h with
 | root h=>exact .root h
 | step _ hy hz ih=>exact .step ih hy hz
theorem AvN.up{z k x:Nat}(h:AvN S r z k x):AvN S r z (k+1) x:=by
 induction h with
 | root h k=>exact .root h _
 | step _ hy hz ih=>exact .step ih hy hz
theorem AvN.mono{z k m x:Nat}(h:AvN S r z k x)(hm:k<=m):AvN S r z m x:=by
 obtain⟨d,rfl⟩:=Nat.exists_eq_add_of_le hm;clear hm
 induction d with
 | zero=>exact h
 | succ d ih=>exact ih.up
theorem Av.avn{z x:Nat}(h:Av S r z x):∃ k,AvN S r z k x:=by
 induction h with
 | root h=>exact⟨0,.root h 0⟩
 | step _ hy hz ih=>obtain⟨k,hk⟩:=ih;exact⟨k+1,.step hk hy hz⟩
theorem AvN.via {z k x : Nat} (h : AvN S r z k x) (y : Nat) : AvN S r y k x ∨ AvN S r z k y := by
  induction h with
  | root h k => by_cases hy : r = y
                · subst hy; exact .inr (.root h _)
                · exact .inl (.root hy _)
  | @step k x w h hy hz ih =>
    rcases ih with h1 | h1
    · by_cases hw : w = y
      · subst hw; exact .inr (.step h hy hz)
      · exact .inl (.step h1 hy hw)
    · exact .inr h1.up
theorem ky(n:Nat):∃ K,∀ z,z<n->∀ x,x<n->Av S r z x->AvN S r z K x:=by
 have one:∀ z m,∃ K,∀ x,x<m->Av S r z x->AvN S r z K x:=by
  intro z m
  induction m with
  | zero=>simp_all
  | succ m ih=>
   obtain⟨K,hK⟩:=ih
   by_cases h:Av S r z m
   ·obtain⟨k,hk⟩:=h.avn;refine⟨max K k,λx hx ha=>?_⟩;rcases Nat.lt_succ_iff_lt_or_eq.1 hx with h1|rfl
    ·exact(hK x h1 ha).mono (Nat.le_max_left ..)
    ·exact hk.mono (Nat.le_max_right ..)
   ·refine⟨K,λx hx ha=>?_⟩;rcases Nat.lt_succ_iff_lt_or_eq.1 hx with h1|rfl
    ·exact hK x h1 ha
    ·exact absurd ha h
 have two:∀ m,∃ K,∀ z,z<m->∀ x,x<n->Av S r z x->AvN S r z K x:=by
  intro m
  induction m with
  | zero=>simp_all
  | succ m ih=>
   obtain⟨K,hK⟩:=ih;obtain⟨k,hk⟩:=one m n;refine⟨max K k,λz hz x hx ha=>?_⟩;rcases Nat.lt_succ_iff_lt_or_eq.1 hz with h1|rfl
   ·exact(hK z h1 x hx ha).mono (Nat.le_max_left ..)
   ·exact(hk x hx ha).mono (Nat.le_max_right ..)
 exact two n
end
inductive UpTo (par:Nat->Int):Nat->Nat->Prop
 | refl (x:Nat):UpTo par x x
 | up {x y z:Nat} (h:par x=(y:Int)) (t:UpTo par y z):UpTo par x z
inductive Fw (S:Nat->List Nat) (at_:Nat->Nat) (u:Nat):Nat->Prop
 | refl:Fw S at_ u u
 | step {v w:Nat} (h:Fw S at_ u v) (hw:w∈S v) (hl:at_ v<at_ w):Fw S at_ u w
section
variable {S:Nat->List Nat} {at_:Nat->Nat} {par:Nat->Int}
theorem Fw.le{u w:Nat}(h:Fw S at_ u w):at_ u<=at_ w:=by
 induction h with
 | refl=>exact zzL6 _
 | step _ _ hl ih=>omega
theorem Fw.trans{u v w:Nat}(h:Fw S at_ u v)(k:Fw S at_ v w):Fw S at_ u w:=by
 induction k with
 | refl=>exact h
 | step _ hw hl ih=>exact .step ih hw hl
theorem Fw.av{r d u w:Nat}(h:Fw S at_ u w)(ha:Av S r d u)(hd:at_ d<at_ u):Av S r d w:=by
 induction h with
 | refl=>exact ha
 | @step v w h hw hl ih=>exact .step ih hw (by rintro rfl;have:=h.le;omega)
theorem UpTo.trans{x y z:Nat}(h:UpTo par x y)(k:UpTo par y z):UpTo par x z:=by
 induction h with
 | refl x=>exact k
 | up h _ ih=>exact .up h (ih k)
theorem anc_up{x p z:Nat}(h:par x=(p:Int)):UpTo par x z↔z=x\/UpTo par p z:=by
 constructor
 ·intro k
  cases k with
  | refl=>exact .inl rfl
  | up h' t=>grind
 ·rintro(rfl|k)
  ·exact .refl _
  ·exact .up h k
theorem NQ{x z:Nat}(h:∀ p:Nat,par x≠(p:Int)):UpTo par x z↔z=x:=by
 constructor
 ·intro k
  cases k with
  | refl=>rfl
  | up h' t=>exact absurd h' (h _)
 ·rintro rfl;exact .refl _
structure Inv(S:Nat->List Nat)(r n:Nat)(at_:Nat->Nat)(par:Nat->Int):Prop where
 top:par r = -1
 kind:∀ x,x<n->par x = -2\/x=r\/∃ z:Nat,par x=(z:Int)
 up:∀ x,x<n->∀ z:Nat,par x=(z:Int)->z<n/\par z≠-2/\at_ z<at_ x/\Fw S at_ z x
 rc:∀ x,x<n->par x≠-2->Rc S r x
 all:∀ x,x<n->par x≠-2->∀ d,¬ UpTo par x d->Av S r d x
end
section
variable {S:Nat->List Nat} {at_:Nat->Nat} {par:Nat->Int} {r n:Nat}
theorem Inv.anc(h:Inv S r n at_ par){x z:Nat}(k:UpTo par x z)(hx:x<n)(hp:par x≠-2):z<n/\par z≠-2/\at_ z<=at_ x/\Fw S at_ z x:=by
 induction k with
 | refl x=>exact⟨hx,hp,zzL6 _,.refl⟩
 | @up x y z hxy t ih=>
  obtain⟨h1,h2,h3,h4⟩:=h.up x hx y hxy;obtain⟨i1,i2,i3,i4⟩:=ih h1 h2;exact⟨i1,i2,by omega,i4.trans h4⟩
theorem Inv.root_anc(h:Inv S r n at_ par){z:Nat}:UpTo par r z↔z=r:=NQ λp hp=>by rw[h.top]at hp;omega
theorem Inv.strict(h:Inv S r n at_ par){x z:Nat}(k:UpTo par x z)(hx:x<n)(hp:par x≠-2):z=x\/at_ z<at_ x:=by
 cases k with
 | refl=>exact .inl rfl
 | up hxy t=>
  obtain⟨h1,h2,h3,h4⟩:=h.up x hx _ hxy;obtain⟨i1,i2,i3,i4⟩:=h.anc t h1 h2;exact .inr (by omega)
theorem Inv.antisymm(h:Inv S r n at_ par){x z:Nat}(k:UpTo par x z)(m:UpTo par z x)(hx:x<n)(hp:par x≠-2):z=x:=by
 rcases h.strict k hx hp with rfl|h1
 ·rfl
 ·obtain⟨i1,i2,i3,i4⟩:=h.anc k hx hp;have:=(h.anc m i1 i2).2.2.1;omega
def MeetAt(par:Nat->Int)(a b m:Nat):Prop:=∀ w,UpTo par m w↔UpTo par a w/\UpTo par b w
theorem WZ{a:Nat}:MeetAt par a a a:=λw=>by simp
theorem lf{a b m:Nat}(h:MeetAt par a b m):MeetAt par b a m:=λw=>by rw[h w];exact And.comm
theorem Inv.meet_left(h:Inv S r n at_ par)(hinj:∀ x y,x<n->y<n->par x≠-2->par y≠-2->at_ x=at_ y->x=y){a b p m:Nat}(ha:a<n)(hpa:par a≠-2)(hb:b<n)(hpb:par b≠-2)(hab:a≠b)(hl:at_ b<=at_ a)(hp:par a=(p:Int))(k:MeetAt par p b m):MeetAt par a b m:=λw=>by
 rw[k w]
 constructor
 ·rintro⟨h1,h2⟩;exact⟨.up hp h1,h2⟩
 ·rintro⟨h1,h2⟩;rcases(anc_up hp).1 h1 with rfl|h1
  ·exfalso
   rcases h.strict h2 hb hpb with h3|h3
   ·exact hab h3
   ·omega
  ·exact⟨h1,h2⟩
end
section
variable {S:Nat->List Nat} {at_:Nat->Nat} {par:Nat->Int} {r n:Nat}
def Ry(par:Nat->Int)(y:Nat)(v:Int):Nat->Int:=λx=>if x=y then v else par x
def eh(S:Nat->List Nat)(n:Nat)(par:Nat->Int)(y z:Nat):Prop:=∀ w,UpTo par z w↔∀ p,p<n->y∈S p->par p≠-2->UpTo par p w
theorem LB{y:Nat}{v:Int}{x z:Nat}(k:UpTo par x z)(hy:¬ UpTo par x y):UpTo (Ry par y v) x z:=by
 induction k with
 | refl x=>exact .refl _
 | @up x q z h t ih=>
  have hxy:x≠y:=by rintro rfl;exact hy (.refl _)
  refine .up  ?_ (ih λk=>hy (.up h k));unfold Ry;rw[if_neg hxy];exact h
theorem cB{y:Nat}{v:Int}{x:Nat}(k:UpTo par x y):UpTo (Ry par y v) x y:=by
 induction k with
 | refl x=>exact .refl _
 | @up x q z h t ih=>
  by_cases hxy:x=z
  ·subst hxy;exact .refl _
  ·refine .up  ?_ ih;unfold Ry;rw[if_neg hxy];exact h
theorem anc_upd_inv{y:Nat}{v:Int}{x w:Nat}(k:UpTo (Ry par y v) x w):UpTo par x w\/(UpTo par x y/\UpTo (Ry par y v) y w):=by
 induction k with
 | refl x=>exact .inl (.refl _)
 | @up x q w h t ih=>
  by_cases hxy:x=y
  ·subst hxy;exact .inr ⟨.refl _,.up h t⟩
  ·unfold Ry at h;rw[if_neg hxy]at h;rcases ih with h1|⟨h1,h2⟩
   ·exact .inl (.up h h1)
   ·exact .inr ⟨.up h h1,h2⟩
theorem low_or{y:Nat}{v:Int}{x d:Nat}(k:UpTo par x y)(hd:UpTo par x d):UpTo par y d\/UpTo (Ry par y v) x d:=by
 induction k with
 | refl x=>exact .inl hd
 | @up x q y hq t ih=>
  by_cases e:x=y
  ·subst e;exact .inl hd
  ·rcases(anc_up hq).1 hd with rfl|k
   ·exact .inr (.refl _)
   ·rcases ih k with h1|h1
    ·exact .inl h1
    ·exact .inr (.up  (by unfold Ry;rw[if_neg e];exact hq) h1)
structure Better(S:Nat->List Nat)(r n:Nat)(at_:Nat->Nat)(par:Nat->Int)(y z:Nat):Prop where
 inv:Inv S r n at_ par
 hy:y<n
 hr:y≠r
 hz:z<n
 best:eh S n par y z
 fwd:∃ p,p<n/\y∈S p/\par p≠-2/\at_ p<at_ y
variable {y z:Nat}
theorem Better.zlt(h:Better S r n at_ par y z):UpTo par z z/\par z≠-2/\at_ z<at_ y/\Fw S at_ z y:=by
 obtain⟨p,hp,hyp,hpp,hl⟩:=h.fwd;obtain⟨h1,h2,h3,h4⟩:=h.inv.anc ((h.best z).1 (.refl _) p hp hyp hpp) hp hpp;exact⟨.refl _,h2,by omega,.step h4 hyp hl⟩
theorem Better.above(h:Better S r n at_ par y z){w:Nat}:UpTo (Ry par y z) z w↔UpTo par z w:=by
 obtain⟨_,h2,h3,_⟩:=h.zlt
 have hn:¬ UpTo par z y:=λk=>by have:=(h.inv.anc k h.hz h2).2.2.1;omega
 constructor
 ·intro k;rcases anc_upd_inv k with h1|⟨h1,_⟩
  ·exact h1
  ·exact absurd h1 hn
 ·intro k;exact LB k hn
theorem Better.here(h:Better S r n at_ par y z){w:Nat}:UpTo (Ry par y z) y w↔w=y\/UpTo par z w:=by
 rw[anc_up (p:=z) (by simp[Ry]),h.above]
theorem Better.av_here(h:Better S r n at_ par y z){d:Nat}(hd:¬ UpTo (Ry par y z) y d):Av S r d y:=by
 rw[h.here]at hd;have h1:¬ ∀ p,p<n->y∈S p->par p≠-2->UpTo par p d:=λhh=>hd (.inr ((h.best d).2 hh));simp only[Classical.not_forall]at h1;obtain⟨p,hp,hyp,hpp,hnp⟩:=h1;exact .step (h.inv.all p hp hpp d hnp) hyp λe=>hd (.inl e.symm)
theorem Better.inv'(h:Better S r n at_ par y z):Inv S r n at_ (Ry par y z):=by
 obtain⟨hzz,hz2,hzl,hzf⟩:=h.zlt;obtain⟨p,hp,hyp,hpp,hl⟩:=h.fwd
 have hne:∀ x,Ry par y z x≠-2->x=y\/par x≠-2:=λx hx=>by
  by_cases e:x=y
  ·exact .inl e
  ·unfold Ry at hx;rw[if_neg e]at hx;exact .inr hx
 have hyv:Ry par y z y=z:=by simp[Ry]
 have hyo:∀ x,x≠y->Ry par y z x=par x:=λx e=>by unfold Ry;rw[if_neg e]
 refine⟨by rw[hyo _ (Q4 h.hr)];exact h.inv.top,λx hx=>?_,λx hx w hw=>?_,λx hx hxp=>?_,λx hx hxp d hd=>?_⟩
 ·by_cases e:x=y
  ·grind
  ·rw[hyo x e];exact h.inv.kind x hx
 ·have hzn:∀ w,par w≠-2->Ry par y z w≠-2:=λw hw=>by
   grind
  by_cases e:x=y
  ·subst e;rw[hyv]at hw
   cases KN hw
   exact⟨h.hz,hzn _ hz2,hzl,hzf⟩
  ·rw[hyo x e]at hw;obtain⟨h1,h2,h3,h4⟩:=h.inv.up x hx w hw;exact⟨h1,hzn _ h2,h3,h4⟩
 ·rcases hne x hxp with rfl|h1
  ·exact .step (h.inv.rc p hp hpp) hyp
  ·exact h.inv.rc x hx h1
 ·by_cases e:x=y
  ·subst e;exact h.av_here hd
  ·rw[hyo x e]at hxp
   by_cases hxd:UpTo par x d
   ·
    by_cases hxy:UpTo par x y
    ·have hyd :=λk=>hd ((cB hxy).trans k);have hav:=h.av_here hyd;have hf:=(h.inv.anc hxy hx hxp).2.2.2
     have hdy:UpTo par y d:=by
      rcases low_or  hxy hxd with h1|h1
      ·exact h1
      ·exact absurd h1 hd
     by_cases hpy:par y = -2
     ·
      have :=by
       refine(NQ  λp hp=>?_).1 hdy;rw[hpy]at hp;omega
      subst this;exact absurd (.refl _) hyd
     ·rcases h.inv.strict hdy h.hy hpy with rfl|hlt
      ·exact absurd (.refl _) hyd
      ·exact hf.av hav hlt
    ·exact absurd (LB hxd hxy) hd
   ·exact h.inv.all x hx hxp d hxd
end
section
variable {S:Nat->List Nat} {at_:Nat->Nat} {par:Nat->Int} {r n:Nat}
def QB(S:Nat->List Nat)(r n:Nat)(par:Nat->Int)(b:Nat->Nat):Prop:=∀ x,x<n->par x≠-2->∀ z,AvN S r z (b x) x->¬ UpTo par x z
def ei(S:Nat->List Nat)(r n:Nat)(par:Nat->Int):Prop:=∀ x,x<n->Rc S r x->par x≠-2
def ib(S:Nat->List Nat)(r n:Nat)(par:Nat->Int):Prop:=∀ x,x<n->par x≠-2->∀ d,UpTo par x d↔¬ Av S r d x
theorem tt(h:Inv S r n at_ par):QB S r n par λ_=>0:=λx hx hp z hz k=>by
 cases hz with
 | root hr _=>exact hr (h.root_anc.1 k).symm
theorem js(hS:∀ x,x<n->∀ w∈S x,w<n)(hr:r<n){x:Nat}(h:Rc S r x):x<n:=by
 induction h with
 | root=>exact hr
 | step _ hy ih=>exact hS _ ih _ hy
theorem Better.qb{y z k:Nat}{b:Nat->Nat}(h:Better S r n at_ par y z)(hS:∀ x,x<n->∀ w∈S x,w<n)(hrn:r<n)(full:ei S r n par)(hb:∀ x,x<n->k<=b x/\b x<=k+1)(q:QB S r n par b) :
  QB S r n (Ry par y z) λx=>if x=y then k+1 else b x:=by
 have here:∀ w,AvN S r w (k+1) y->¬ UpTo _ y w:=λw hw hu=>by
  rcases h.here.1 hu with rfl|hu
  ·exact hw.av.ne rfl
  ·cases hw with
   | root hr _=>exact h.hr rfl
   | @step _ p _ hp hyp hne=>
    have hpn:=js hS hrn hp.av.rc;have hpp:=full p hpn hp.av.rc;exact q p hpn hpp w (hp.mono (hb p hpn).1) ((h.best w).1 hu p hpn hyp hpp)
 intro x hx hxp w hw hu
 dsimp only at hw
 by_cases e:x=y
 ·grind
 ·rw[if_neg e]at hw;unfold Ry at hxp;rw[if_neg e]at hxp;rcases anc_upd_inv hu with h1|⟨h1,h2⟩
  ·exact q x hx hxp w hw h1
  ·rcases hw.via y with h3|h3
   ·exact q x hx hxp y h3 h1
   ·exact here w (h3.mono (hb x hx).2) h2
theorem ol(h:Inv S r n at_ par){K:Nat}(hK:∀ z,z<n->∀ x,x<n->Av S r z x->AvN S r z K x)(q:QB S r n par λ_=>K):ib S r n par:=λx hx hp d=>by
 constructor
 ·intro hu ha;exact q x hx hp d (hK d (h.anc hu hx hp).1 x hx ha) hu
 ·intro ha;exact SL λhn=>ha (h.all x hx hp d hn)
theorem Better.same{y z:Nat}(h:Better S r n at_ par y z)(hS:∀ x,x<n->∀ w∈S x,w<n)(hrn:r<n)(full:ei S r n par)(hy2:par y≠-2)(ex:ib S r n par):par y=(z:Int):=by
 obtain⟨hzz,hz2,hzl,hzf⟩:=h.zlt;rcases h.inv.kind y h.hy with h1|h1|⟨q,hq⟩
 ·exact absurd h1 hy2
 ·exact absurd h1 h.hr
 ·obtain⟨q1,q2,q3,q4⟩:=h.inv.up y h.hy q hq
  have key:∀ w,UpTo par z w↔UpTo par q w:=λw=>by
   rw[h.best w]
   constructor
   ·intro hall
    have hwy:¬ Av S r w y:=λha=>by
     cases ha with
     | root _=>exact h.hr rfl
     | @step p _ hp hyp hne=>
      have hpn:=js hS hrn hp.rc;have hpp:=full p hpn hp.rc;exact(ex p hpn hpp w).1 (hall p hpn hyp hpp) hp
    rcases(anc_up hq).1 ((ex y h.hy hy2 w).2 hwy) with rfl|hu
    ·have:=(h.inv.anc ((h.best _).2 hall) h.hz hz2).2.2.1;omega
    ·exact hu
   ·intro hu p hp hyp hpp;have hwy:UpTo par y w:=.up hq hu;refine(ex p hp hpp w).2 λha=>?_
    have hne:y≠w:=by rintro rfl;have:=(h.inv.anc hu q1 q2).2.2.1;omega
    exact(ex y h.hy hy2 w).1 hwy (.step ha hyp hne)
  have:=h.inv.antisymm ((key q).2 (.refl _)) ((key z).1 (.refl _)) h.hz hz2;rw[hq,this]
theorem lM(h:Inv S r n at_ par)(hS:∀ x,x<n->∀ w∈S x,w<n)(hrn:r<n)(full:ei S r n par)(fix:∀ y,y<n->y≠r->Rc S r y->∃ z:Nat,par y=(z:Int)/\eh S n par y z):ib S r n par:=λx hx hp d=>by
 constructor
 ·intro hu ha
  induction ha with
  | root hne=>exact hne (h.root_anc.1 hu).symm
  | @step p y hp' hyp hne ih=>
   have hpn:=js hS hrn hp'.rc;have hpp:=full p hpn hp'.rc
   by_cases e:y=r
   ·subst e;exact hne (h.root_anc.1 hu).symm
   ·obtain⟨z,hz,hb⟩:=fix y hx e (.step hp'.rc hyp);rcases(anc_up hz).1 hu with rfl|hu
    ·exact hne rfl
    ·exact ih hpn hpp ((hb d).1 hu p hpn hyp hpp)
 ·intro ha;exact SL λhn=>ha (h.all x hx hp d hn)
end
def Bs(t:List Int):Nat->Int:=λx=>t.getD x 0
theorem dj{t:List Int}{y:Nat}{v:Int}(hy:y<t.length):Bs (t.set y v)=Ry (Bs t) y v:=by
 funext x
 unfold Bs Ry
 by_cases e:x=y
 ·grind
 ·grind
open Classical in
def Pi(S:Nat->List Nat)(n:Nat)(t:List Int)(y:Nat):Nat:=if h:∃ z,z<n/\eh S n (Bs t) y z then Classical.choose h else 0
def Zy(S:Nat->List Nat)(n:Nat)(P:List Nat)(t:List Int):Nat->List Int
 | 0=>t
 | i+1=>(Zy S n P t i).set (P.getD i 0) (Pi S n (Zy S n P t i) (P.getD i 0):Int)
def UH(S:Nat->List Nat)(n:Nat)(P:List Nat)(t:List Int):Nat->List Int
 | 0=>t
 | j+1=>Zy S n P (UH S n P t j) P.length
def Jb(n r:Nat):List Int:=(List.replicate n (-2:Int)).set r (-1)
structure Ordered(S:Nat->List Nat)(r n:Nat)(P:List Nat):Prop where
 hr:r<n
 hS:∀ x,x<n->∀ w∈S x,w<n
 nodup:(r::P).Nodup
 mem:∀ x,x∈r::P↔Rc S r x
 fwd:∀ i,i<P.length->∃ p,p∈r::P.take i/\P.getD i 0∈S p
section
variable {S:Nat->List Nat} {r n:Nat} {P:List Nat}
theorem Ordered.lt(o:Ordered S r n P){x:Nat}(h:x∈r::P):x<n:=js o.hS o.hr ((o.mem x).1 h)
theorem V6{i:Nat}(hi:i<P.length):P.getD i 0∈P:=by grind
theorem Ordered.at_lt(o:Ordered S r n P){i:Nat}(hi:i<P.length){p:Nat}(hp:p∈r::P.take i):pos (r::P) p<pos (r::P) (P.getD i 0):=by
 have hd:=o.nodup
 have h1:pos (r::P) (P.getD i 0)=i+1:=by
  have:=(OG hd (i:=i+1) (by simpa using hi)).2;rw[Ab _ _ _ hi]
  simpa using this
 rw[h1];obtain⟨j,hj,rfl⟩:=G6 hp
 have hj':j<i+1:=by simp at hj;omega
 have hjl:j<(r::P).length:=by simp;omega
 have e:(r::P.take i)[j]=(r::P)[j]:=by
  grind
 rw[e,(OG hd hjl).2];exact hj'
theorem Aap(o:Ordered S r n P):Inv S r n (pos (r::P)) (Bs (Jb n r))/\(Jb n r).length=n/\Bs (Jb n r) r≠-2:=by
 have hlen:(Jb n r).length=n:=by simp[Jb]
 have hr:=o.hr
 have at_:∀ x,x<n->Bs (Jb n r) x=if x=r then -1 else -2:=λx hx=>by
  unfold Bs Jb
  by_cases e:x=r
  ·grind
  ·grind
 have hno:∀ x,x<n->∀ p:Nat,Bs (Jb n r) x≠p:=λx hx p hp=>by grind
 refine⟨⟨by grind,λx hx=>?_,λx hx z hz=>absurd hz (hno x hx z),λx hx hp=>?_,λx hx hp d hd=>?_⟩,hlen,by grind⟩
 ·grind
 ·by_cases e:x=r
  ·subst e;exact .root
  ·grind
 ·by_cases e:x=r
  ·subst e;exact .root (λe=>hd (by rw[e];exact .refl _))
  ·grind
structure Ready(S:Nat->List Nat)(r n:Nat)(P:List Nat)(t:List Int)(i:Nat):Prop where
 inv:Inv S r n (pos (r::P)) (Bs t)
 len:t.length=n
 done:∀ x∈r::P.take i,Bs t x≠-2
theorem Inv.meets{at_:Nat->Nat}{par:Nat->Int}(h:Inv S r n at_ par)(hinj:∀ x y,x<n->y<n->par x≠-2->par y≠-2->at_ x=at_ y->x=y)(hr:at_ r=0):∀ m a b,at_ a+at_ b<=m->a<n->b<n->par a≠-2->par b≠-2->∃ c,MeetAt par a b c/\c<n/\par c≠-2:=by
 intro m
 induction m with
 | zero=>
  intro a b hm ha hb hpa hpb;have:a=b:=hinj a b ha hb hpa hpb (by omega);subst this;exact⟨a,WZ,ha,hpa⟩
 | succ m ih=>
  have go:∀ a b,at_ a+at_ b<=m+1->a<n->b<n->par a≠-2->par b≠-2->at_ b<=at_ a->∃ c,MeetAt par a b c/\c<n/\par c≠-2:=λa b hm ha hb hpa hpb hl=>by
   by_cases e:a=b
   ·subst e;exact⟨a,WZ,ha,hpa⟩
   ·rcases h.kind a ha with h1|h1|⟨p,hp⟩
    ·exact absurd h1 hpa
    ·subst h1;exact absurd (hinj a b ha hb hpa hpb (by omega)) e
    ·obtain⟨p1,p2,p3,p4⟩:=h.up a ha p hp;obtain⟨c,hc,hc2⟩:=ih p b (by omega) p1 hb p2 hpb;exact⟨c,h.meet_left hinj ha hpa hb hpb e hl hp hc,hc2⟩
  intro a b hm ha hb hpa hpb;rcases Nat.le_total (at_ b) (at_ a) with hl|hl
  ·exact go a b hm ha hb hpa hpb hl
  ·obtain⟨c,hc,hc2⟩:=go b a (by omega) hb ha hpb hpa hl;exact⟨c,lf hc,hc2⟩
theorem Ready.inj(o:Ordered S r n P){t:List Int}{i:Nat}(h:Ready S r n P t i):∀ x y,x<n->y<n->Bs t x≠-2->Bs t y≠-2->pos (r::P) x=pos (r::P) y->x=y:=λx y hx hy hpx hpy he=>by
 have hm :=λx hx hp=>(o.mem x).2 (h.inv.rc x hx hp)
 have back:∀ x∈r::P,(r::P).getD (pos _ x) 0=x:=λx hx=>by
  obtain⟨j,hj,rfl⟩:=G6 hx;rw[(OG o.nodup hj).2,Ab _ _ _ hj]
 rw[<- back x (hm x hx hpx),<- back y (hm y hy hpy),he]
theorem dm:pos (r::P) r=0:=by rw[RJ,if_pos rfl]
theorem Ready.meetAll(o:Ordered S r n P){t:List Int}{i:Nat}(h:Ready S r n P t i):∀ l:List Nat,(∀ p∈l,p<n/\Bs t p≠-2)->l≠[]->∃ z,z<n/\Bs t z≠-2/\∀ w,UpTo (Bs t) z w↔∀ p∈l,UpTo (Bs t) p w:=by
 intro l
 induction l with
 | nil=>grind
 | cons p l ih=>
  intro hl _;obtain⟨hp1,hp2⟩:=hl p (zzL53 ..)
  by_cases hl0:l=[]
  ·grind
  ·obtain⟨z,hz1,hz2,hz3⟩:=ih (λq hq=>hl q (N6 _ hq)) hl0;obtain⟨c,hc1,hc2,hc3⟩:=h.inv.meets (h.inj o) dm _ p z (zzL6 _) hp1 hz1 hp2 hz2;exact⟨c,hc2,hc3,λw=>by rw[hc1 w,hz3 w];simp⟩
theorem Ready.best(o:Ordered S r n P){t:List Int}{i:Nat}(h:Ready S r n P t i)(hi:i<P.length):Better S r n (pos (r::P)) (Bs t) (P.getD i 0) (Pi S n t (P.getD i 0)):=by
 have hy:=V6 hi;have hyr:P.getD i 0≠r:=λe=>(zzL113.1 o.nodup).1 (e▸hy);have hyn:=o.lt (N6 _ hy);obtain⟨p,hp,hyp⟩:=o.fwd i hi;have hp2:=h.done p hp
 have hpP:p∈r::P:=by
  grind
 have hpn:=o.lt hpP
 have hex:∃ z,z<n/\eh S n (Bs t) (P.getD i 0) z:=by
  classical
  obtain⟨z,hz1,hz2,hz3⟩:=h.meetAll o ((List.range n).filter λp=>decide (P.getD i 0∈S p/\Bs t p≠-2)) (λp hp=>by
   grind) (λe=>by
   simp_all)
  refine⟨z,hz1,λw=>?_⟩
  constructor
  ·grind
  ·grind
 have hb:Pi S n t (P.getD i 0)<n/\eh S n (Bs t) (P.getD i 0) (Pi S n t (P.getD i 0)):=by
  unfold Pi;rw[dif_pos hex];exact Classical.choose_spec hex
 exact⟨h.inv,hyn,hyr,hb.1,hb.2,p,hpn,hyp,hp2,o.at_lt hi hp⟩
theorem Ready.best_eq(o:Ordered S r n P){t:List Int}{i:Nat}(h:Ready S r n P t i)(hi:i<P.length){z:Nat}(hz:z<n)(hz2:Bs t z≠-2)(hb:eh S n (Bs t) (P.getD i 0) z):z=Pi S n t (P.getD i 0):=by
 have b:=h.best o hi;exact(h.inv.antisymm ((hb _).2 ((b.best _).1 (.refl _))) ((b.best _).2 ((hb _).1 (.refl _))) hz hz2).symm
theorem Ready.next(o:Ordered S r n P){t:List Int}{i:Nat}(h:Ready S r n P t i)(hi:i<P.length):Ready S r n P (t.set (P.getD i 0) (Pi S n t (P.getD i 0):Int)) (i+1):=by
 have b:=h.best o hi;have e:=dj   (v:=Pi S n t (P.getD i 0)) (by rw[h.len];exact b.hy);refine⟨by rw[e];exact b.inv',by rw[Dc];exact h.len,λx hx=>?_⟩;rw[e];unfold Ry
 split
 ·omega
 ·refine h.done x ?_;rcases zzL37.1 hx with rfl|hx
  ·grind
  ·rw[bM hi]at hx;rcases zzL12.1 hx with hx|hx
   ·grind
   ·grind
theorem Ready.more(o:Ordered S r n P){t:List Int}(h:Ready S r n P t P.length)(i:Nat):Ready S r n P t i:=
 ⟨h.inv,h.len,λx hx=>h.done x (by
  grind)⟩
theorem Ready.full(o:Ordered S r n P){t:List Int}(h:Ready S r n P t P.length):ei S r n (Bs t):=λx hx hr=>h.done x (by rw[Ww];exact(o.mem x).2 hr)
theorem Ready.round(o:Ordered S r n P){t:List Int}(h:Ready S r n P t 0):∀ i,i<=P.length->Ready S r n P (Zy S n P t i) i:=by
 intro i
 induction i with
 | zero=>intro _;exact h
 | succ i ih=>intro hi;exact(ih (by omega)).next o (by omega)
theorem w6(o:Ordered S r n P):Ready S r n P (Jb n r) 0:=by
 obtain⟨h1,h2,h3⟩:=Aap o;exact⟨h1,h2,λx hx=>by grind⟩
theorem Ready.rounds(o:Ordered S r n P):∀ j,Ready S r n P (UH S n P (Jb n r) j) 0:=by
 intro j
 induction j with
 | zero=>exact w6 o
 | succ j ih=>exact((ih.round o) _ (zzL6 _)).more o 0
theorem Ready.rounds'(o:Ordered S r n P)(j:Nat):Ready S r n P (UH S n P (Jb n r) (j+1)) P.length:=(Ready.rounds o j).round o _ (zzL6 _)
theorem pp(o:Ordered S r n P){t:List Int}{k:Nat}(h:Ready S r n P t P.length)(q:QB S r n (Bs t) λ_=>k):QB S r n (Bs (Zy S n P t P.length)) λ_=>k+1:=by
 have key:∀ i,i<=P.length->QB S r n (Bs (Zy S n P t i)) (λx=>if x∈P.take i then k+1 else k)/\ei S r n (Bs (Zy S n P t i)):=by
  intro i
  induction i with
  | zero=>intro _;exact⟨by simpa [Zy] using q,h.full o⟩
  | succ i ih=>
   intro hi;obtain⟨q1,f1⟩:=ih (by omega);have rd:=(h.more o 0).round o i (by omega);have b:=rd.best o (by omega);have e:=dj   (v:=Pi S n (Zy S n P t i) (P.getD i 0)) (by rw[rd.len];exact b.hy)
   constructor
   ·show QB S r n (Bs ((Zy S n P t i).set _ _)) _
    rw[e];have:=b.qb (k:=k) o.hS o.hr f1 (λx _=>by split<;>omega) q1;intro x hx hp z hz;refine this x hx hp z ?_;rw[bM (by omega)]at hz
    by_cases e1:x=P.getD i 0
    ·grind
    ·grind
   ·show ei S r n (Bs ((Zy S n P t i).set _ _))
    rw[e];intro x hx hr;unfold Ry
    split
    ·omega
    ·exact f1 x hx hr
 have q1:=(key _ (zzL6 _)).1;rw[Ww]at q1;have rd:=(h.more o 0).round o _ (zzL6 _);intro x hx hp z hz;refine q1 x hx hp z ?_
 dsimp only at hz ⊢
 by_cases e:x∈P
 ·rw[if_pos e];exact hz
 ·rw[if_neg e]
  have hxr:x=r:=by
   rcases zzL37.1 ((o.mem x).2 (rd.inv.rc x hx hp)) with h1|h1
   ·exact h1
   ·exact absurd h1 e
  subst hxr;exact .root hz.av.ne k
def AG(S:Nat->List Nat)(n:Nat)(P:List Nat)(t:List Int):Prop:=∀ i,i<P.length->Bs t (P.getD i 0)=(Pi S n t (P.getD i 0):Int)
theorem BW{t:List Int}(o:Ordered S r n P)(hl:t.length=n)(h:AG S n P t):∀ i,i<=P.length->Zy S n P t i=t:=by
 intro i
 induction i with
 | zero=>intro _;rfl
 | succ i ih=>
  intro hi;unfold Zy;rw[ih (by omega),<- h i (by omega)]
  have hlt:P.getD i 0<t.length:=by rw[hl];exact o.lt (N6 _ (V6 (by omega)))
  unfold Bs;rw[Ab _ _ _ hlt];exact List.set_getElem_self hlt
theorem u4(o:Ordered S r n P):∃ J,(∀ j,j<J->¬ AG S n P (UH S n P (Jb n r) j))/\AG S n P (UH S n P (Jb n r) J):=by
 obtain⟨K,hK⟩:=ky   n
 have hq:∀ k,QB S r n (Bs (UH S n P (Jb n r) (k+1))) λ_=>k:=by
  intro k
  induction k with
  | zero=>exact tt (Ready.rounds' o 0).inv
  | succ k ih=>exact pp o (Ready.rounds' o k) ih
 have hst :=λi hi=>by
  have rd:=Ready.rounds' o K;exact((rd.more o i).best o hi).same o.hS o.hr (rd.full o) (rd.done _ (N6 _ (by grind))) (ol rd.inv hK (hq K))
 have key:∀ m,(∃ J,J<=m/\AG S n P (UH S n P (Jb n r) J))->∃ J,(∀ j,j<J->¬ AG S n P (UH S n P (Jb n r) j))/\AG S n P (UH S n P (Jb n r) J):=by
  intro m
  induction m with
  | zero=>grind
  | succ m ih=>
   rintro⟨J,hJ,h⟩
   by_cases hm:∃ J,J<=m/\AG S n P (UH S n P (Jb n r) J)
   ·exact ih hm
   ·grind
 exact key _ ⟨K+1,zzL6 _,hst⟩
structure DomTree(S:Nat->List Nat)(r n:Nat)(P:List Nat)(t:List Int):Prop where
 inv:Inv S r n (pos (r::P)) (Bs t)
 len:t.length=n
 full:ei S r n (Bs t)
 exact_:ib S r n (Bs t)
theorem MI(o:Ordered S r n P){j:Nat}(h:AG S n P (UH S n P (Jb n r) j)):DomTree S r n P (UH S n P (Jb n r) j):=by
 have rd:=Ready.rounds o j
 have hall :=by
  have:=rd.round o _ (zzL6 _);rwa[BW o rd.len h _ (zzL6 _)]at this
 refine⟨rd.inv,rd.len,hall.full o,lM rd.inv o.hS o.hr (hall.full o) λy hy hne hr=>?_⟩
 have hm:y∈P:=by
  rcases zzL37.1 ((o.mem y).2 hr) with h1|h1
  ·exact absurd h1 hne
  ·exact h1
 obtain⟨i,hi,rfl⟩:=G6 hm;have b:=(hall.more o i).best o hi;rw[Ab _ _ _ hi]at b;have hs:=h i hi;rw[Ab _ _ _ hi]at hs;exact⟨_,hs,b.best⟩
end
section
variable {S:Nat->List Nat} {s s':Nat->Bool} {l o:List Nat}
theorem VL.before(h:VL S s l s' o):∀ A z B,o=A++z::B->z∈l\/∃ p∈B,z∈S p:=by
 induction h with
 | nil s=>intro A z B e;simp at e
 | skip h _ ih=>
  grind
 | @step s s1 s2 y l o1 o2 h a b iha ihb=>
  intro A z B e;rcases List.append_eq_append_iff.1 e with⟨C,hC1,hC2⟩|⟨C,hC1,hC2⟩
  ·
   cases C with
   | nil=>
    grind
   | cons c C=>
    grind
  ·cases C with
   | nil=>
    grind
   | cons c C=>
    grind
theorem Ord.ordered{n r:Nat}{L:List Nat}(hr:r<n)(hS:∀ x,x<n->∀ w∈S x,w<n)(h:Ord S r L):∃ P,L=r::P/\Ordered S r n P:=by
 have h1:=h.nodup;have h2:=h.mem;obtain⟨s',o,hv,rfl⟩:=h;refine⟨o.reverse,rfl,hr,hS,h1,λx=>by rw[h2 x,rc_iff],λi hi=>?_⟩
 have e:o.reverse=o.reverse.take i++o.reverse[i]::o.reverse.drop (i+1):=by rw[<- SK hi,List.take_append_drop]
 have e2:o=(o.reverse.drop (i+1)).reverse++o.reverse[i]::(o.reverse.take i).reverse:=by
  have:=Bj List.reverse e
  simpa using this
 rw[Ab _ _ _ hi];rcases hv.before _ _ _ e2 with h3|⟨p,hp,hz⟩
 ·exact⟨r,zzL53 ..,h3⟩
 ·grind
end
def j9(S:Nat->List Nat)(w:Int):Nat->List Nat:=λx=>(S x).filter λy=>decide ((y:Int)≠w)
theorem qX(S:Nat->List Nat):j9 S (-1)=S:=by
 funext x
 exact List.filter_eq_self.2 λy _=>Co (by omega)
theorem uO(S:Nat->List Nat)(z:Nat):j9 S (z:Int)=wo S z:=by
 funext x
 unfold j9 wo
 congr 1
 funext y
 exact zzL77.2 ⟨λh e=>h (by rw[e]),λh e=>h (KN e)⟩
def Mz(L:List (List Int))(r:Nat)(w:Int):List Bool:=if(r:Int)=w then List.replicate L.length false else HV (j9 (sN L) w) L.length ((List.replicate L.length false).set r true) L.length
theorem RL(L:List (List Int))(r:Nat)(w:Int):(Mz L r w).length=L.length:=by
 unfold Mz
 split
 ·simp
 ·rw[Yd];simp
theorem dF{L:List (List Int)}(hm:Mm L=true){r:Nat}(hr:r<L.length)(w:Int) :
  Db (Kc L) (r:Int) w=some (Mz L r w):=by
 obtain⟨h1,h2,h3⟩:=mayS_iff.1 hm
 have hroom:(1000:Nat)<=room:=by decide
 have hS:=Wm hm;have hSw:∀ z,z<L.length->∀ y∈j9 (sN L) w z,y<L.length:=λz hz y hy=>hS z hz y (zzL114.1 hy).1;have hgs:(Kc L).Succ=L:=rfl
 have hlenS:∀ a,(sN L a).length=(L.getD a []).length:=λa=>by simp[sN]
 let fl:List Nat->List Nat:=λl=>l.filter λy=>decide ((y:Int)≠w)
 have hin:∀(o:List Bool) (i:Nat),o.length=L.length->i<L.length->Ac (A3 (Kc L) w (i:Int)) ((0:Int),o)=some (if o.getD i false=true then mk o (j9 (sN L) w i) else o):=λo i ho hi=>by
  have hb:=DK (h3 i hi)
  by_cases hoi:o.getD i false=true
  ·rw[if_pos hoi];have hmi:∀ k,(mk o (fl ((sN L i).take k))).getD i false=true:=λk=>(mk_at (n:=L.length) _ _ ho (λy hy=>hS i hi y (List.mem_of_mem_take (zzL114.1 hy).1)) i).2 (.inl hoi)
   have hml:∀ k,(mk o (fl ((sN L i).take k))).length=L.length:=λk=>by rw[gE,ho]
   refine Em (A3 (Kc L) w (i:Int)) (λk=>(((k:Nat):Int),mk o (fl ((sN L i).take k)))) _ (L.getD i []).length (λk hk=>?_) ?_
   ·show A3 (Kc L) w (i:Int) (_,_)=_
    unfold A3;obtain⟨a0,a1⟩:=AX (h3 i hi) hk;simp only[hgs,Am,hmi];rw[Ad (Fz (by rw[hml];exact hi)),M2 (Fz hi),Ah,B0 hk,Ah,Ad (Fz hi),Ad (Fz hk)]
    have hk':k<(sN L i).length:=by rw[hlenS];exact hk
    have hsk:(sN L i)[k]=((L.getD i []).getD k 0).toNat:=by rw[Ab _ _ _ hk];simp[sN]
    have hski:(((sN L i)[k]:Nat):Int)=(L.getD i []).getD k 0:=by rw[hsk];exact Y5 a0
    have e:mk o (fl ((sN L i).take (k+1)))=if(L.getD i []).getD k 0=w then mk o (fl ((sN L i).take k)) else(mk o (fl ((sN L i).take k))).set ((L.getD i []).getD k 0).toNat true:=by
     rw[bM hk']
     show mk o (List.filter _ (_++[_]))=_
     rw[Wu]
     by_cases hw:(L.getD i []).getD k 0=w
     ·rw[if_pos hw]
      have:List.filter (λy:Nat=>decide ((y:Int)≠w)) [(sN L i)[k]]=[]:=by rw[List.filter_cons,hski,hw];simp
      rw[this,List.append_nil]
     ·rw[if_neg hw]
      have:List.filter (λy:Nat=>decide ((y:Int)≠w)) [(sN L i)[k]]=[(sN L i)[k]]:=by rw[List.filter_cons,hski,if_pos (Co hw)];rfl
      rw[this];unfold mk;rw[List.foldl_append,hsk]
      rfl
    by_cases hw:(L.getD i []).getD k 0=w
    ·have hne:((L.getD i []).getD k 0 !=w)=false:=by rw[hw];simp
     rw[hne,Ax,An,w1 (by omega),e,if_pos hw]
    ·have hne:((L.getD i []).getD k 0 !=w)=true:=by rw[zzL100];exact hw
     rw[hne,Ah,Ad (Fz hi),Ad (Fz hk),Ad ⟨a0,by rw[hml];exact a1⟩,w1 (by omega),e,if_neg hw]
     rfl
   ·show A3 (Kc L) w (i:Int) (_,_)=_
    unfold A3;simp only[hgs,Am,hmi];rw[Ad (Fz (by rw[hml];exact hi)),M2 (Fz hi),Ah,C9,Ax]
    have:(sN L i).take (L.getD i []).length=sN L i:=by rw[<- hlenS];exact Ww ..
    rw[this]
    rfl
  ·have hof:o.getD i false=false:=by simpa using hoi
   rw[if_neg hoi]
   apply Ak
   unfold A3;simp only[hgs,Am,hof];rw[Ad (Fz (by rw[ho];exact hi)),M2 (Fz hi),Ax,Ax]
 have hsw:∀ o:List Bool,o.length=L.length->Ac (A4 (Kc L) w) ((0:Int),o)=some (sw (j9 (sN L) w) o L.length):=λo ho=>by
  refine Em (A4 (Kc L) w) (λi=>(((i:Nat):Int),sw (j9 (sN L) w) o i)) _ L.length (λi hi=>?_) ?_
  ·show A4 (Kc L) w (_,_)=_
   unfold A4
   have hl:(sw (j9 (sN L) w) o i).length=L.length:=by rw[sw_len,ho]
   simp only[hl,B0 hi,Ah];rw[hin _ i hl hi,w1 (by omega)]
   rfl
  ·show A4 (Kc L) w (_,_)=_
   unfold A4
   have hl:(sw (j9 (sN L) w) o L.length).length=L.length:=by rw[sw_len,ho]
   simp only[hl,C9,Ax]
 unfold Db;simp only[hgs,Am];rw[Ad ⟨by omega,Int.le_refl _,by omega⟩];unfold Mz
 by_cases hrw:(r:Int)=w
 ·rw[if_pos hrw]
  have:((r:Int)==w)=true:=by simpa using hrw
  rw[this,Ah]
 ·rw[if_neg hrw]
  have hne:((r:Int)==w)=false:=by rw[zzL30];exact hrw
  rw[hne,Ax,Ad (Fz (by simpa using hr))]
  have hl0:((List.replicate L.length false).set r true).length=L.length:=by simp
  have:Ac (A5 (Kc L) w) ((0:Int),(List.replicate L.length false).set r true)=some (HV (j9 (sN L) w) L.length ((List.replicate L.length false).set r true) L.length):=by
   refine Em (A5 (Kc L) w) (λj=>(((j:Nat):Int),HV (j9 (sN L) w) L.length ((List.replicate L.length false).set r true) j)) _ L.length (λj hj=>?_) ?_
   ·show A5 (Kc L) w (_,_)=_
    unfold A5
    have hl:(HV (j9 (sN L) w) L.length ((List.replicate L.length false).set r true) j).length=L.length:=by rw[Yd,hl0]
    simp only[hl,B0 hj,Ah];rw[hsw _ hl,w1 (by omega)]
    rfl
   ·show A5 (Kc L) w (_,_)=_
    unfold A5
    have hl:(HV (j9 (sN L) w) L.length ((List.replicate L.length false).set r true) L.length).length=L.length:=by rw[Yd,hl0]
    simp only[hl,C9,Ax]
  rw[this]
  rfl
theorem pr{L:List (List Int)}(hm:Mm L=true){r:Nat}(hr:r<L.length){b:Nat}:(Mz L r (-1)).getD b false=true↔Rc (sN L) r b:=by
 unfold Mz;rw[if_neg (by omega),qX,BM (Wm hm) hr b,rc_iff]
theorem gi{L:List (List Int)}(hm:Mm L=true){r:Nat}(hr:r<L.length){a b:Nat}(hb:b<L.length):(Mz L r (a:Int)).getD b false=true↔Av (sN L) r a b:=by
 unfold Mz;rw[av_iff]
 by_cases h:r=a
 ·grind
 ·rw[if_neg (by omega),uO,BM (S:=wo _ a) (λz hz y hy=>Wm hm z hz y (zzL114.1 hy).1) hr b];simp[h]
def Pv(L:List (List Int))(r a b:Nat):Bool:=(Mz L r (-1)).getD b false&&!(Mz L r (a:Int)).getD b false
theorem di{L:List (List Int)}(hm:Mm L=true){r a b:Nat}(hr:r<L.length)(hb:b<L.length):Pv L r a b=true↔Rc (sN L) r b/\¬ Av (sN L) r a b:=by
 unfold Pv;rw[A6,Y6,<- Bool.not_eq_true,pr hm hr,gi hm hr hb]
def QR(L:List (List Int))(r a b:Nat):Bool:=(List.range L.length).all λc=>decide (c=b) || !Pv L r c b || Pv L r c a
def T7(L:List (List Int))(r b:Nat):Nat->Int
 | 0=>-2
 | a+1=>if a≠b/\Pv L r a b=true/\QR L r a b=true then(a:Int) else T7 L r b a
def Yk(L:List (List Int))(r b:Nat):Int:=if b=r then -1 else T7 L r b L.length
def Y3(L:List (List Int))(r:Nat):List Int:=(List.range L.length).map (Yk L r)
theorem XZ(L:List (List Int))(r:Nat):(Y3 L r).length=L.length:=by simp[Y3]
theorem qP{L:List (List Int)}{r b:Nat}(hb:b<L.length):(Y3 L r).getD b 0=Yk L r b:=by unfold Y3;rw[O7 hb]
theorem pick_cases(L:List (List Int))(r b:Nat):∀ m,(T7 L r b m = -2/\∀ a,a<m->¬ (a≠b/\Pv L r a b=true/\QR L r a b=true))\/∃ a,a<m/\T7 L r b m=(a:Int)/\a≠b/\Pv L r a b=true/\QR L r a b=true:=by
 intro m
 induction m with
 | zero=>exact .inl ⟨rfl,λa ha=>absurd ha (Wz a)⟩
 | succ m ih=>
  unfold T7
  by_cases h:m≠b/\Pv L r m b=true/\QR L r m b=true
  ·grind
  ·grind
theorem DomTree.eq{L:List (List Int)}(hm:Mm L=true){r:Nat}(hr:r<L.length){P t:List _}(o:Ordered (sN L) r L.length P)(h:DomTree (sN L) r L.length P t):t=Y3 L r:=by
 refine CF (by rw[h.len,XZ]) λb h1 h2=>?_
 have hb:b<L.length:=by rw[<- h.len];exact h1
 rw[<- Ab _ _ 0 h1,<- Ab _ _ 0 h2,qP hb]
 show Bs t b=_
 have hov:∀ a b,b<L.length->Bs t b≠-2->(Pv L r a b=true↔UpTo _ b a):=λa b hb hp=>by
  rw[di hm hr hb,h.exact_ b hb hp];exact⟨λk=>k.2,λk=>⟨h.inv.rc b hb hp,k⟩⟩
 unfold Yk
 by_cases hbr:b=r
 ·subst hbr;rw[if_pos rfl];exact h.inv.top
 ·rw[if_neg hbr];rcases h.inv.kind b hb with hk|hk|⟨z,hz⟩
  ·
   have hn :=λk=>h.full b hb k hk;rcases pick_cases L r b _ with⟨h3,_⟩|⟨a,_,_,_,h6,_⟩
   ·rw[hk,h3]
   ·exact absurd ((di hm hr hb).1 h6).1 hn
  ·exact absurd hk hbr
  ·obtain⟨z1,z2,z3,z4⟩:=h.inv.up b hb z hz
   have hp:Bs t b≠-2:=by omega
   have hzo :=(hov z b hb hp).2 (.up hz (.refl _))
   have hzb:z≠b:=by rintro rfl;omega
   have hnear:QR L r z b=true:=all_range.2 λc hc=>by
    by_cases e:c=b
    ·simp[e]
    ·cases ho:Pv L r c b with
     | false=>simp
     | true=>
      have:=(hov c b hb hp).1 ho;rcases(anc_up hz).1 this with h3|h3
      ·exact absurd h3 e
      ·grind
   rcases pick_cases L r b L.length with⟨_,h3⟩|⟨a,h3,h4,h5,h6,h7⟩
   ·grind
   ·rw[h4,hz];have haU:=(hov a b hb hp).1 h6
    have ha1:UpTo (Bs t) z a:=by
     rcases(anc_up hz).1 haU with h8|h8
     ·exact absurd h8 h5
     ·exact h8
    have hap:=(h.inv.anc ha1 z1 z2).2.1
    have hza :=by
     have:=all_range.1 h7 z z1;simp only[hzo,hzb, Dr]at this;exact(hov z a h3 hap).1 this
    rw[h.inv.antisymm ha1 hza z1 z2]
theorem ja{g:TGraph}(h:DW g=true):Mm g.Succ=true/\g=Kc g.Succ:=by
 unfold DW at h;rw[A6]at h;refine⟨h.1,?_⟩;obtain⟨s,p⟩:=g;have:=KK h.2;simp only at this;unfold Kc;rw[this]
theorem GR{a b:Nat}:(((a:Nat):Int)==(b:Int))=decide (a=b):=by
 grind
theorem iv{a b:Nat}:(((a:Nat):Int)!=(b:Int)) = !decide (a=b):=by
 unfold bne;rw[GR]
section
variable {L:List (List Int)} (hm:Mm L=true) {r:Nat} (hr:r<L.length)
def RW(L:List (List Int))(r a k:Nat):List Bool:=(List.range L.length).map λb=>if b<k then Pv L r a b else false
def RV(L:List (List Int))(r a:Nat):List Bool:=(List.range L.length).map λb=>Pv L r a b
def lq(L:List (List Int))(r:Nat):List (List Bool):=(List.range L.length).map λa=>RV L r a
theorem jl:(lq L r).length=L.length:=by simp[lq]
theorem pl{a:Nat}(ha:a<L.length):(lq L r).getD a []=RV L r a:=by unfold lq;rw[O7 ha]
theorem eA{a:Nat}:(RV L r a).length=L.length:=by simp[RV]
theorem bG{a b:Nat}(hb:b<L.length):(RV L r a).getD b false=Pv L r a b:=by unfold RV;rw[O7 hb]
include hm hr
omit hr in
theorem uI(a:Nat)(l5:List (List Bool))(hl5:l5.length=L.length)(ha:a<L.length):Ac (Dh (Kc L) (Mz L r (-1)) (a:Int) l5 (Mz L r (a:Int))) ((0:Int),List.replicate L.length false)=some (RV L r a):=by
 obtain⟨h1,h2,h3⟩:=mayS_iff.1 hm;have hgs:(Kc L).Succ=L:=rfl
 have e0:List.replicate L.length false=RW L r a 0:=by
  refine CF (by simp[RW]) λi h1 h2=>by simp[RW]
 have e1:RV L r a=RW L r a L.length:=by
  unfold RV RW
  exact Ho λi hi=>by rw[if_pos hi]
 have hlen:∀ k,(RW L r a k).length=L.length:=λk=>by simp[RW]
 rw[e0];refine Em (Dh (Kc L) (Mz L r (-1)) (a:Int) l5 (Mz L r (a:Int))) (λk=>(((k:Nat):Int),RW L r a k)) _ L.length (λk hk=>?_) ?_
 ·show Dh (Kc L) _ _ _ _ (_,_)=_
  unfold Dh;simp only[hgs,Am,B0 hk,Ah];rw[Ad (Fz (by rw[hl5];exact ha)),Ad (Fz (by rw[RL];exact hk)),Ad (λ_=>Fz (by rw[RL];exact hk)),Ad (Fz (by rw[hlen];exact hk)),w1 (by omega)]
  have:(RW L r a k).set k (bif (Mz L r (-1)).getD k false then !(Mz L r (a:Int)).getD k false else false)=RW L r a (k+1):=by
   unfold RW;rw[BU];refine Ho λi hi=>?_
   by_cases e:i=k
   ·subst e;rw[if_pos rfl,if_pos (by omega)];unfold Pv
    cases(Mz L r (-1)).getD i false<;>rfl
   ·rw[if_neg e]
    by_cases e2:i<k
    ·rw[if_pos e2,if_pos (by omega)]
    ·rw[if_neg e2,if_neg (by omega)]
  rw[this]
 ·show Dh (Kc L) _ _ _ _ (_,_)=_
  unfold Dh;simp only[hgs,C9,Ax];rw[e1]
theorem uJ:Ac (Ij (Kc L) (r:Int) (Mz L r (-1))) ((0:Int),List.replicate L.length ([]:List Bool))=some (lq L r):=by
 obtain⟨h1,h2,h3⟩:=mayS_iff.1 hm;have hgs:(Kc L).Succ=L:=rfl
 have hroom:1000<=room:=by decide
 let M:Nat->List _:=λk=>(List.range L.length).map λa=>if a<k then RV L r a else[]
 have hM:∀ k,(M k).length=L.length:=λk=>by simp[M]
 have e0:List.replicate L.length []=M 0:=by
  refine CF (by simp[M]) λi h1 h2=>by simp[M]
 have e1:lq L r=M _:=Ho λi hi=>by rw[if_pos hi]
 rw[e0];refine Em _ (λk=>(((k:Nat):Int),M k)) _ L.length (λk hk=>?_) ?_
 ·unfold Ij;simp only[hgs,Am,B0 hk,Ah];rw[Ad ⟨by omega,Int.le_refl _,by omega⟩,Ad (Fz (by rw[hM];exact hk)),dF hm hr,An,uI hm k (M k) (hM k) hk,An,w1 (by omega)]
  have:(M k).set k (RV L r k)=M (k+1):=by
   rw[BU];refine Ho λi hi=>?_
   by_cases e:i=k
   ·grind
   ·grind
  rw[this]
 ·unfold Ij;simp only[hgs,C9,Ax];rw[e1]
omit hr in
theorem uK(a b:Nat)(ha:a<L.length)(hb:b<L.length):Ac (Di (Kc L) (lq L r) (b:Int) (a:Int)) (true,(0:Int))=some (QR L r a b):=by
 obtain⟨h1,h2,h3⟩:=mayS_iff.1 hm;have hgs:(Kc L).Succ=L:=rfl
 let N:Nat->Bool:=λk=>(List.range k).all λc=>decide (c=b) || !Pv L r c b || Pv L r c a
 refine Em (Di (Kc L) (lq L r) (b:Int) (a:Int)) (λk=>(N k,((k:Nat):Int))) _ L.length (λk hk=>?_) ?_
 ·show Di (Kc L) _ _ _ (_,_)=_
  unfold Di;simp only[hgs,Am,B0 hk,Ah,pl hk,jl,eA,bG hb,bG ha];rw[Ad (λ_=>Fz hk),Ad (λ_=>Fz hb),Ad (λ_=>Fz hk),Ad (λ_=>Fz ha),w1 (by omega),GR]
  have:(bif N k then(bif (bif decide (k=b) then true else !Pv L r k b) then true else Pv L r k a) else false)=N (k+1):=by
   show _=(List.range (k+1)).all _
   rw[nh]
   show _=(N k&&_)
   cases N k<;>cases decide (k=b)<;>cases Pv L r k b<;>rfl
  rw[this]
 ·show Di (Kc L) _ _ _ (_,_)=_
  unfold Di;simp only[hgs,C9,Ax]
  rfl
def Rf(L:List (List Int))(r b:Nat)(x:Int):List Int:=(List.range L.length).map λj=>if j<b then Yk L r j else if j=b then x else 0
omit hm hr in
theorem KC{b:Nat}{x:Int}:(Rf L r b x).length=L.length:=by simp[Rf]
omit hm hr in
theorem KD{b:Nat}{x y:Int}:(Rf L r b x).set b y=Rf L r b y:=by
 unfold Rf;rw[BU];refine Ho λi hi=>?_
 by_cases e:i=b
 ·subst e;rw[if_pos rfl,if_neg (by omega),if_pos rfl]
 ·rw[if_neg e,if_neg e,if_neg e]
omit hm hr in
theorem SD{b:Nat}:Rf L r b (Yk L r b)=Rf L r (b+1) 0:=by
 unfold Rf;refine Ho λi hi=>?_
 by_cases e:i<b
 ·rw[if_pos e,if_pos (by omega)]
 ·rw[if_neg e]
  by_cases e2:i=b
  ·subst e2;rw[if_pos rfl,if_pos (by omega)]
  ·rw[if_neg e2,if_neg (by omega)];split<;>rfl
omit hr in
theorem uL(b:Nat)(hb:b<L.length)(hbr:b≠r):Ac (B4 (Kc L) (r:Int) (lq L r) (b:Int)) ((0:Int),Rf L r b (-2))=some (Rf L r b (T7 L r b L.length)):=by
 obtain⟨h1,h2,h3⟩:=mayS_iff.1 hm;have hgs:(Kc L).Succ=L:=rfl;refine Em (B4 (Kc L) (r:Int) (lq L r) (b:Int)) (λk=>(((k:Nat):Int),Rf L r b (T7 L r b k))) _ L.length (λk hk=>?_) ?_
 ·show B4 (Kc L) _ _ _ (_,_)=_
  unfold B4
  have hne:decide (b=r)=false:=by simp[hbr]
  simp only[hgs,Am,B0 hk,Ah,pl hk,jl,eA,bG hb,GR,iv,hne,J1];rw[Ad (λ_=>Fz hk),Ad (λ_=>Fz hb),uK hm k b hk hb]
  by_cases hkb:k=b
  ·have e:T7 L r b (k+1)=T7 L r b k:=by show(if _ then _ else _)=_;rw[if_neg (λh=>h.1 hkb)]
   rw[Co hkb,Ah,Ah,An,w1 (by omega),e]
  ·rw[Cd hkb,Ax]
   cases ho:Pv L r k b with
   | false=>
    have e:T7 L r b (k+1)=T7 L r b k:=by show(if _ then _ else _)=_;rw[if_neg (λh=>by rw[ho]at h;exact absurd h.2.1 (by decide))]
    rw[J1,Ah,An,w1 (by omega),e]
   | true=>
    rw[Dr,Ax,An]
    cases hn:QR L r k b with
    | false=>
     have e:T7 L r b (k+1)=T7 L r b k:=by show(if _ then _ else _)=_;rw[if_neg (λh=>by rw[hn]at h;exact absurd h.2.2 (by decide))]
     rw[Ax,An,w1 (by omega),e]
    | true=>
     have e:T7 L r b (k+1)=(k:Int):=by show(if _ then _ else _)=_;rw[if_pos ⟨hkb,ho,hn⟩]
     rw[Ah,Ad (Fz (by rw[KC];exact hb)),An,w1 (by omega),e,KD]
 ·show B4 (Kc L) _ _ _ (_,_)=_
  unfold B4;simp only[hgs,C9,Ax]
omit hr in
theorem uM:Ac (Dj (Kc L) (r:Int) (lq L r)) ((0:Int),List.replicate L.length (0:Int))=some (Y3 L r):=by
 obtain⟨h1,h2,h3⟩:=mayS_iff.1 hm;have hgs:(Kc L).Succ=L:=rfl
 have e0:List.replicate L.length (0:Int)=Rf L r 0 0:=by
  refine CF (by simp[Rf]) λi h1 h2=>by simp[Rf]
 have e1:Y3 L r=Rf L r L.length 0:=Ho λi hi=>by rw[if_pos hi]
 rw[e0];refine Em (Dj (Kc L) (r:Int) (lq L r)) (λk=>(((k:Nat):Int),Rf L r k 0)) _ L.length (λk hk=>?_) ?_
 ·show Dj (Kc L) _ _ (_,_)=_
  unfold Dj;simp only[hgs,Am,B0 hk,Ah];rw[Ad (Fz (by rw[KC];exact hk)),GR,KD,KD]
  by_cases hkr:k=r
  ·rw[Co hkr,Ah,Ad (Fz (by rw[KC];exact hk)),An]
   have hd:Ac (B4 (Kc L) (r:Int) (lq L r) (k:Int)) ((0:Int),Rf L r k (-1))=some (Rf L r k (-1)):=by
    apply Ak
    unfold B4;simp only[iv,Co hkr,Dr,oE,Ax]
   rw[hd,An,w1 (by omega)]
   have:Yk L r k = -1:=by unfold Yk;rw[if_pos hkr]
   rw[<- this,SD]
  ·rw[Cd hkr,Ax,An,uL hm k hk hkr,An,w1 (by omega)]
   have:Yk L r k=T7 L r k L.length:=by unfold Yk;rw[if_neg hkr]
   rw[<- this,SD]
 ·show Dj (Kc L) _ _ (_,_)=_
  unfold Dj;simp only[hgs,C9,Ax];rw[e1]
end
def MJ(g:TGraph)(r:Int):List Int:=if DW g=true/\0<=r/\r<(g.Succ.length:Int) then Y3 g.Succ r.toNat else[]
theorem f9(g:TGraph)(h:Fits g.Succ)(r:Int):Kp g r=some (MJ g r):=by
 have hroom:1000<=room:=by decide
 unfold Kp MJ;rw[lW g h,An]
 cases hmg:DW g with
 | false=>
  rfl
 | true=>
  rw[Dr,Ax]
  by_cases h0:r<0
  ·grind
  ·rw[Cd h0,Ax]
   by_cases h1:g.Succ.length<=r
   ·grind
   ·rw[Cd h1,Ax,if_pos ⟨rfl,by omega,by omega⟩];obtain⟨hms,hg⟩:=ja hmg;obtain⟨hl1,hl2,hl3⟩:=mayS_iff.1 hms;obtain⟨q,rfl⟩:∃ q:Nat,r=q:=⟨r.toNat,by omega⟩
    have hq:q<g.Succ.length:=by omega
    rw[hg];have hgs:(Kc _).Succ=g.Succ:=rfl;simp only[hgs,Am];rw[dF hms hq,An,Ad ⟨by omega,Int.le_refl _,by omega⟩,uJ hms hq,An,Ad ⟨by omega,Int.le_refl _,by omega⟩,uM hms,An]
def upD(t:List Int):Nat->Int->Option (List Int)
 | 0,_=>none
 | k+1,a=>if 0<=a/\a<(t.length:Int) then(if t.getD a.toNat 0 = -1 then some [a] else(upD t k (t.getD a.toNat 0)).map λl=>a::l) else none
def E7(t:List Int)(a:Int):List Int:=(upD t t.length a).getD []
def Aas(l:List Int):Option (List Int)->Unit ⊕ List Int
 | none=>.inl ()
 | some q=>.inr (l++q)
theorem lr(t:List Int)(ht:t.length<=1000):∀(k:Nat) (a:Int) (l:List Int),l.length+k=t.length->Ac (Cm t) (a,l)=some (Aas l (upD t k a)):=by
 have hroom:2000<=room:=by decide
 intro k
 induction k with
 | zero=>
  intro a l hl
  apply Ak
  unfold Cm;have:decide ((l.length:Int)<t.length)=false:=Cd (by omega);simp only[this]
  rfl
 | succ k ih=>
  intro a l hl;have hlt:decide (l.length<(t.length:Int))=true:=Co (by omega);unfold upD
  by_cases h0:0<=a
  ·by_cases h1:a<t.length
   ·have hin:A2 a _:=⟨h0,h1⟩;rw[if_pos ⟨h0,h1⟩]
    by_cases ht1:t.getD a.toNat 0 = -1
    ·apply Ak
     unfold Cm;simp only[hlt,Co h0,Co h1];rw[Ad (by simp;omega),Ad hin,ht1]
     rfl
    ·rw[if_neg ht1]
     have hs:Cm t (a,l)=some (.next (t.getD a.toNat 0,l++[a])):=by
      unfold Cm;have hb :=zzL30.2 ht1;simp only[hlt,Co h0,Co h1,Ah];rw[Ad (by simp;omega),Ad hin,hb,Ax,Ad hin]
     rw[Ap hs,ih _ _ (by simp;omega)]
     cases upD t k _ with
     | none=>rfl
     | some q=>show some (Sum.inr _)=some (Sum.inr _);simp
   ·rw[if_neg (by omega)]
    apply Ak
    unfold Cm;simp only[hlt,Co h0,Cd h1,Ah]
    rfl
  ·rw[if_neg (by omega)]
   apply Ak
   unfold Cm;simp only[hlt,Cd h0,Ah]
   rfl
theorem f8(t:List Int)(ht:t.length<=1000)(a:Int):Ge t a=some (E7 t a):=by
 unfold Ge E7;rw[lr t ht t.length a [] (by simp)]
 cases upD t _ a with
 | none=>rfl
 | some q=>rfl
theorem j7(t:List Int):∀ k a q,upD t k a=some q->q.length<=k/\1<=q.length:=by
 intro k
 induction k with
 | zero=>intro a q h;cases h
 | succ k ih=>
  intro a q h;unfold upD at h
  split at h
  ·split at h
   ·cases h;simp
   ·cases hu:upD t k _ with
    | none=>rw[hu]at h;cases h
    | some q'=>grind
  ·cases h
theorem XK(t:List Int)(a:Int):(E7 t a).length<=t.length:=by
 unfold E7
 cases h:upD t _ a with
 | none=>simp
 | some q=>exact(j7 t _ _ _ h).1
theorem pathD_nil{t:List Int}{a:Int}:E7 t a=[]↔upD t t.length a=none:=by
 unfold E7
 cases h:upD t _ a with
 | none=>simp
 | some q=>have:=(j7 t _ _ _ h).2;simp;intro e;subst e;simp at this
def topsK(t:List Int)(k:Nat):Nat:=((List.range k).filter λa=>decide (t.getD a 0 = -1)).length
def pZ(t:List Int)(a:Nat):Bool:=decide (t.getD a 0 = -2) || !decide (E7 t (a:Int)=[])
def M0(t:List Int):Bool:=(List.range t.length).all (pZ t)&&decide (topsK t t.length=1)
theorem FP(t:List Int)(k:Nat):topsK t (k+1)=topsK t k+if t.getD k 0 = -1 then 1 else 0:=by
 unfold topsK;rw[W0,Wu]
 by_cases h:t.getD k 0 = -1
 ·grind
 ·grind
theorem qN(t:List Int)(k:Nat):topsK t k<=k:=by
 exact Pz (List.length_filter_le ..) (by simp)
theorem pI{l:List Int}:(((l.length:Nat):Int)==(0:Int))=decide (l=[]):=by
 cases l with
 | nil=>rfl
 | cons x l=>simp;omega
theorem gr(t:List Int)(ht:t.length<=1000):Ac (Bx t) ((0:Int),(0:Int))=some (bif (List.range t.length).all (pZ t) then .inl ((topsK t t.length:Nat):Int) else .inr false):=by
 have body:∀ k,k<t.length->Bx t (((topsK t k:Nat):Int),(k:Int))=some (bif pZ t k then .next (((topsK t (k+1):Nat):Int),((k+1:Nat):Int)) else .done (.inr false)):=λk hk=>by
  have hle:=qN t k;unfold Bx;simp only[Am,B0 hk,Ah];rw[Ad (Fz hk)]
  have e1:(bif (t.getD k 0==(-1:Int)) then some (w64 (((topsK t k:Nat):Int)+1)) else some ((topsK t k:Nat):Int))=some ((topsK t (k+1):Nat):Int):=by
   rw[FP]
   by_cases h:t.getD k 0 = -1
   ·rw[if_pos h,zzL63.2 h,Ah,w1 (by omega)]
   ·rw[if_neg h,zzL30.2 h,Ax];rfl
  rw[e1,An]
  by_cases h2:t.getD k 0 = -2
  ·have hb:(t.getD k 0 !=(-2:Int))=false:=by rw[h2];rfl
   have ho:pZ t k=true:=by unfold pZ;rw[Co h2];rfl
   rw[hb,show(false==true)=false from rfl,Ax,An,Ax,Ax,Ad (Fz hk),w1 (by omega),ho,Ah]
  ·have hb:(t.getD k 0 !=(-2:Int))=true:=zzL100.2 h2
   have ho:pZ t k = !decide (E7 t (k:Int)=[]):=by unfold pZ;rw[Cd h2];rfl
   rw[hb,show(true==true)=true from rfl,Ah,f8 t ht,An,Ah,pI,Ad (Fz hk),w1 (by omega),ho]
   cases decide (E7 t (k:Int)=[])<;>rfl
 have:=H6 (Bx t) (λk=>(((topsK t k:Nat):Int),((k:Nat):Int))) (pZ t) (.inl ((topsK t t.length:Nat):Int)) (.inr false) t.length (λi hi hp=>by
   show Bx t _=_;rw[body i hi,hp,Ah]) (λi hi hp=>by
   show Bx t _=_;rw[body i hi,hp,Ax]) (by
   show Bx t _=_
   unfold Bx
   simp only[C9,Ax])
 exact this
theorem tJ(t:List Int)(ht:t.length<=1000):Jx t=some (M0 t):=by
 unfold Jx M0;rw[gr t ht]
 cases(List.range _).all _ with
 | false=>rfl
 | true=>
  rw[ Ld]
  show some _=_
  have:(1:Int)=(1:Nat):=rfl;rw[this,GR]
theorem find_first(p:Int->Bool):∀ l:List Int,(∃ n,n<l.length/\(∀ i,i<n->p (l.getD i 0)=false)/\p (l.getD n 0)=true/\l.find? p=some (l.getD n 0))\/((∀ i,i<l.length->p (l.getD i 0)=false)/\l.find? p=none):=by
 intro l
 induction l with
 | nil=>grind
 | cons x l ih=>
  cases hx:p x with
  | true=>exact .inl ⟨0,by simp,λi hi=>absurd hi (Wz i),by simpa using hx,by simp[ hx]⟩
  | false=>
   rcases ih with⟨n,h1,h2,h3,h4⟩|⟨h1,h2⟩
   ·refine .inl ⟨n+1,by simpa using h1,λi hi=>?_,by simpa using h3,by grind⟩
    cases i with
    | zero=>simpa using hx
    | succ i=>grind
   ·grind
def Rb(t:List Int)(a b:Int):Int:=if M0 t=true then((E7 t a).find? λx=>(E7 t b).contains x).getD (-2) else -2
def Ls(t:List Int)(a b:Int):Bool:=Rb t a b==a&&Rb t a b !=-2
theorem wj(t:List Int)(ht:t.length<=1000)(a b:Int):Ko t a b=some (Rb t a b):=by
 unfold Ko Rb;rw[tJ t ht,An]
 cases M0 t with
 | false=>rfl
 | true=>
  rw[Dr, f8 t ht,An,f8 t ht,An];have hp:=XK t a;have hq:=XK t b
  have body:∀ k,k<(E7 t a).length->Eh (E7 t a) (E7 t b) (k:Int)=some (bif (E7 t b).contains _ then .done _ else .next _):=λk hk=>by
   unfold Eh;simp only[Am,B0 hk];rw[Ad (Fz hk),pN _ _ (by omega), w1 (by omega),Ad (Fz hk)]
   cases(E7 t b).contains _<;>rfl
  rcases find_first (λx=>(E7 t b).contains x) (E7 t a) with⟨n,h1,h2,h3,h4⟩|⟨h1,h2⟩
  ·have:=Em (Eh (E7 t a) (E7 t b)) (λk=>(k:Nat)) (.inr ((E7 t a).getD n 0)) n (λk hk=>by
    grind) (by
    grind)
   have e:Ac _ (0:Int)=_:=this;rw[e, h4]
   rfl
  ·have:=Em (Eh (E7 t a) (E7 t b)) (λk=>((k:Nat):Int)) (.inl ()) (E7 t a).length (λk hk=>by
    grind) (by
    unfold Eh
    simp only[C9,Ax])
   have e:Ac _ (0:Int)=_:=this;rw[e, h2]
   rfl
section
variable {S:Nat->List Nat} {r n:Nat} {P:List Nat} {t:List Int}
theorem DomTree.up(h:DomTree S r n P t):∀ k x,x<n->Bs t x≠-2->pos (r::P) x<k->∃ q,upD t k (x:Int)=some q/\(∀ w:Int,w∈q↔∃ z:Nat,w=(z:Int)/\UpTo (Bs t) x z) /\
  ∀ p:Int->Bool,(q.find? p=none/\∀ z:Nat,UpTo (Bs t) x z->p (z:Int)=false)\/∃ f:Nat,q.find? p=some (f:Int)/\UpTo (Bs t) x f/\p (f:Int)=true/\∀ z:Nat,UpTo (Bs t) x z->p (z:Int)=true->UpTo (Bs t) f z:=by
 intro k
 induction k with
 | zero=>omega
 | succ k ih=>
  intro x hx hp hk
  have hxt:(0:Int)<=(x:Int)/\(x:Int)<(t.length:Int):=by rw[h.len];omega
  unfold upD;rw[if_pos hxt,Am];have hpx:t.getD x 0=Bs t x:=rfl;rw[hpx];rcases h.inv.kind x hx with h1|rfl|⟨z,hz⟩
  ·exact absurd h1 hp
  ·rw[if_pos h.inv.top];refine⟨_,rfl,λw=>?_,λp=>?_⟩
   ·rw[zzL16]
    constructor
    ·rintro rfl;exact⟨x,rfl,.refl _⟩
    ·rintro⟨z,rfl,hz⟩;rw[h.inv.root_anc.1 hz]
   ·cases hpp:p (x:Int) with
    | false=>exact .inl ⟨by simp[List.find?,hpp],λz hz=>by rw[h.inv.root_anc.1 hz];exact hpp⟩
    | true=>exact .inr ⟨x,by simp[List.find?,hpp],.refl _,hpp,λz hz _=>hz⟩
  ·obtain⟨z1,z2,z3,z4⟩:=h.inv.up x hx z hz;rw[hz,if_neg (by omega)];obtain⟨q,hq1,hq2,hq3⟩:=ih z z1 z2 (by omega);rw[hq1];refine⟨(x:Int)::q,rfl,λw=>?_,λp=>?_⟩
   ·rw[zzL37,hq2 w]
    constructor
    ·rintro(rfl|⟨y,rfl,hy⟩)
     ·exact⟨x,rfl,.refl _⟩
     ·exact⟨y,rfl,.up hz hy⟩
    ·rintro⟨y,rfl,hy⟩;rcases(anc_up hz).1 hy with rfl|hy
     ·exact .inl rfl
     ·exact .inr ⟨y,rfl,hy⟩
   ·cases hpp:p (x:Int) with
    | true=>exact .inr ⟨x,by simp[List.find?,hpp],.refl _,hpp,λy hy _=>hy⟩
    | false=>
     have hf:((x:Int)::q).find? p=q.find? p:=by simp[List.find?,hpp]
     rw[hf];rcases hq3 p with⟨e1,e2⟩|⟨f,e1,e2,e3,e4⟩
     ·refine .inl ⟨e1,λy hy=>?_⟩;rcases(anc_up hz).1 hy with rfl|hy
      ·exact hpp
      ·exact e2 y hy
     ·refine .inr ⟨f,e1,.up hz e2,e3,λy hy hpy=>?_⟩;rcases(anc_up hz).1 hy with rfl|hy
      ·rw[hpp]at hpy;cases hpy
      ·exact e4 y hy hpy
theorem Ordered.pos_lt(o:Ordered S r n P){x:Nat}(hx:x∈r::P):pos (r::P) x<n:=by
 obtain⟨j,hj,rfl⟩:=G6 hx;rw[(OG o.nodup hj).2];have:=Tk n _ o.nodup λy hy=>o.lt hy;omega
theorem DomTree.path(h:DomTree S r n P t)(o:Ordered S r n P){x:Nat}(hx:x<n)(hp:Bs t x≠-2):E7 t (x:Int)≠[]/\(∀ w:Int,w∈E7 t (x:Int)↔∃ z:Nat,w=(z:Int)/\UpTo (Bs t) x z) /\
  ∀ p:Int->Bool,((E7 t (x:Int)).find? p=none/\∀ z:Nat,UpTo (Bs t) x z->p (z:Int)=false)\/∃ f:Nat,(E7 t (x:Int)).find? p=some (f:Int)/\UpTo (Bs t) x f/\p (f:Int)=true/\∀ z:Nat,UpTo (Bs t) x z->p (z:Int)=true->UpTo (Bs t) f z:=by
 have hm:=(o.mem x).2 (h.inv.rc x hx hp);obtain⟨q,h1,h2,h3⟩:=h.up n x hx hp (o.pos_lt hm)
 have e:E7 t x=q:=by unfold E7;rw[h.len,h1];rfl
 rw[e];refine⟨λe=>?_,h2,h3⟩;have:=(h2 _).2 ⟨x,rfl,.refl _⟩;rw[e]at this
 cases this
theorem DomTree.nopath(h:DomTree S r n P t){x:Nat}(hx:x<n)(hp:Bs t x = -2):E7 t (x:Int)=[]:=by
 rw[pathD_nil]
 cases hl:t.length with
 | zero=>rfl
 | succ k=>
  unfold upD;rw[if_pos ⟨by omega,by rw[h.len];omega⟩,Am,show t.getD x 0=Bs t x from rfl,hp]
  cases k with
  | zero=>rfl
  | succ k =>   rfl
theorem DomTree.right(h:DomTree S r n P t)(o:Ordered S r n P):M0 t=true:=by
 unfold M0;rw[A6]
 constructor
 ·refine all_range.2 λx hx=>?_;rw[h.len]at hx;unfold pZ
  by_cases hp:Bs t x = -2
  ·rw[show t.getD x 0=Bs t x from rfl,hp];rfl
  ·rw[Cd (h.path o hx hp).1];simp
 ·apply Co
  have key:∀ k,k<=n->topsK t k=if r<k then 1 else 0:=by
   intro k
   induction k with
   | zero=>intro _;rfl
   | succ k ih=>
    intro hk;rw[FP]
    have hr:t.getD k 0 = -1↔k=r:=by
     constructor
     ·intro he;rcases h.inv.kind k (by omega) with h1|h1|⟨z,hz⟩
      ·rw[show t.getD k 0=Bs t k from rfl]at he;omega
      ·exact h1
      ·rw[show t.getD k 0=Bs t k from rfl]at he;omega
     ·rintro rfl;exact h.inv.top
    by_cases hkr:k=r
    ·grind
    ·grind
  rw[h.len,key n (zzL6 _),if_pos o.hr]
theorem DomTree.meet(h:DomTree S r n P t)(o:Ordered S r n P){a b:Nat}(ha:a<n)(hb:b<n)(hpa:Bs t a≠-2)(hpb:Bs t b≠-2):∃ m:Nat,Rb t (a:Int) (b:Int)=(m:Int)/\MeetAt (Bs t) a b m/\m<n/\Bs t m≠-2:=by
 have rd:Ready S r n P t _:=⟨h.inv,h.len,λx hx=>by rw[Ww]at hx;exact h.full x (o.lt hx) ((o.mem x).1 hx)⟩;obtain⟨c,hc1,hc2,hc3⟩:=h.inv.meets (rd.inj o) dm _ a b (zzL6 _) ha hb hpa hpb;refine⟨c,?_,hc1,hc2,hc3⟩;unfold Rb;rw[if_pos (h.right o)];obtain⟨hca,hcb⟩:=(hc1 c).1 (.refl _)
 have hin:∀ z:Nat,(E7 t _).contains z=true↔UpTo (Bs t) b z:=λz=>by
  rw[zzL64,(h.path o hb hpb).2.1]
  constructor
  ·grind
  ·grind
 rcases(h.path o ha hpa).2.2 λx=>(E7 t b).contains x with⟨_,h2⟩|⟨f,h1,h2,h3,h4⟩
 ·grind
 ·rw[h1];have hfc:=h4 c hca ((hin c).2 hcb);have hcf:=(hc1 f).2 ⟨h2,(hin f).1 h3⟩;rw[h.inv.antisymm hcf hfc hc2 hc3]
  rfl
theorem DomTree.meet_none(h:DomTree S r n P t)(o:Ordered S r n P){a b:Nat}(ha:a<n)(hb:b<n)(hp:Bs t a = -2\/Bs t b = -2):Rb t (a:Int) (b:Int) = -2:=by
 unfold Rb;rw[if_pos (h.right o)];rcases hp with hp|hp
 ·rw[h.nopath ha hp];rfl
 ·rw[h.nopath hb hp]
  have:(E7 t a).find? (λx=>[].contains x)=none:=List.find?_eq_none.2 λx _=>by simp
  rw[this];rfl
theorem DomTree.over(h:DomTree S r n P t)(o:Ordered S r n P){a b:Nat}(ha:a<n)(hb:b<n):Ls t (a:Int) (b:Int)=true↔Bs t b≠-2/\UpTo (Bs t) b a:=by
 unfold Ls;rw[A6,zzL63,zzL100]
 by_cases hpa:Bs t a = -2
 ·rw[h.meet_none o ha hb (.inl hpa)]
  constructor
  ·omega
  ·rintro⟨h1,h2⟩;exact absurd hpa (h.inv.anc h2 hb h1).2.1
 ·by_cases hpb:Bs t b = -2
  ·rw[h.meet_none o ha hb (.inr hpb)]
   constructor
   ·omega
   ·grind
  ·obtain⟨m,hm1,hm2,hm3,hm4⟩:=h.meet o ha hb hpa hpb;rw[hm1]
   constructor
   ·rintro⟨h1,_⟩;have h1:=KN h1;subst h1;exact⟨hpb,((hm2 _).1 (.refl _)).2⟩
   ·rintro⟨_,h2⟩;have:=(hm2 a).2 ⟨.refl _,h2⟩;have h3:=((hm2 m).1 (.refl _)).1;rw[h.inv.antisymm h3 this ha hpa];exact⟨rfl,by omega⟩
theorem DomTree.over_dom(h:DomTree S r n P t)(o:Ordered S r n P){a b:Nat}(ha:a<n)(hb:b<n):Ls t (a:Int) (b:Int)=true↔Rc S r b/\¬ Av S r a b:=by
 rw[h.over o ha hb]
 constructor
 ·rintro⟨h1,h2⟩;exact⟨h.inv.rc b hb h1,(h.exact_ b hb h1 a).1 h2⟩
 ·rintro⟨h1,h2⟩;have:=h.full b hb h1;exact⟨this,(h.exact_ b hb this a).2 h2⟩
end
section
variable {L:List (List Int)} (hm:Mm L=true) {r:Nat} (hr:r<L.length)
include hm hr
theorem XY:∃ P,Ord (sN L) r (r::P)/\Ordered (sN L) r L.length P/\DomTree (sN L) r L.length P (Y3 L r):=by
 obtain⟨O,hO⟩:=Ord.exist (Wm hm) hr;obtain⟨P,rfl,o⟩:=hO.ordered hr (Wm hm);obtain⟨J,_,hJ⟩:=u4 o;have hd:=MI o hJ;refine⟨P,hO,o,?_⟩;rw[<- hd.eq hm hr o];exact hd
end
theorem JI{X:Type}(n:Nat)(p:Nat->Bool)(f:Int->Option (LR Int X))(yes no:X)(hn:∀ i:Nat,i<n->p i=true->f (i:Int)=some (.next ((i:Int)+1)))
  (hf:∀ i:Nat,i<n->p i=false->f (i:Int)=some (.done no)) (he:f (n:Int)=some (.done yes)):Ac f (0:Int)=some (bif (List.range n).all p then yes else no):=by
 have hg:∀ i,i<(List.range n).length->(List.range n).getD i 0=i:=λi hi=>by grind
 have:=Hj (List.range n) 0 p f yes no (λi hi hp=>by grind) (λi hi hp=>by grind) (by simpa using he) n 0 (by simp);rw[show(0:Int)=(0:Nat) from rfl,this,N7]
theorem fO{n:Nat}{p:Nat->Bool}(h:(List.range n).all p=true):∀ i,i<n->p i=true:=λi hi=>zzL26.1 h i (by simpa using hi)
def Q0(L:List (List Int)):List Bool:=HV (sN L) L.length ((List.replicate L.length false).set 0 true) L.length
def Jm(l:List Int)(p:Bc):Bool:=decide (p.From=l)&&((p.Args.length:Int)==(l.length:Int))
def K7(L:List (List Int))(b:Ae)(i:Nat):Bool:=(Q0 L).getD i false&&!((b.End.Kind==1 || b.End.Kind==3)&&(b.End.Arg !=0))&&b.Phis.all (Jm ((Dp L).getD i []))
def Fe(f:TFunc):Bool:=Gp f&&(List.range f.Blocks.length).all λi=>K7 (A1 f) (f.Blocks.getD i default) i
theorem Lv(f:TFunc):(A1 f).length=f.Blocks.length:=by simp[A1]
theorem dq(L:List (List Int)):(Q0 L).length=L.length:=by rw[Q0,Yd];simp
theorem sX{a b c d:Bool}{x:Option (LR Int (Unit ⊕ Bool))}:(bif (bif (!a) then true else(bif (bif b then true else c) then d else false)) then some (LR.done (Sum.inr false)) else x)=bif (a&&!((b || c)&&d)) then x else some (LR.done (Sum.inr false)):=by
 grind
theorem tK {f : TFunc} (hf : OkF f) : Jy f = some (Fe f) := by
  have hmax : f.Blocks.length ≤ maxLen := by have := hf.blocks; have : (64 : Nat) ≤ maxLen := by decide
                                             omega
  unfold Jy Fe; rw [dG f hmax, An]
  cases hs : Gp f with
  | false => rfl
  | true =>
    have hm := Jo hs; have hlen := Lv f; obtain ⟨h1, h2⟩ := Tj hm
    have hpos : 0 < (A1 f).length := by have := (shape_iff.1 hs).1.1; omega
    simp only [Ah, Ld]; have hr := tI hm hpos; rw [show (((0 : Nat) : Int)) = 0 from rfl] at hr; rw [hr, An]
    show ((Ac (Fp f (Kc (A1 f), 0) (Q0 (A1 f))) 0).bind _) = _
    have hphi : ∀ i, i < f.Blocks.length → Ac _ (0 : Int) = some _ := fun i hi => by
      have hmem := Ag (d := (default : Ae)) hi; have hB := hf.block _ hmem
      have hpl : (Kc (A1 f)).Pred.length = f.Blocks.length := by rw [← hlen]; exact Po _
      have hpi : A2 (i : Int) (Kc (A1 f)).Pred.length := Ai (by omega)
      have key : ∀ j, j < (f.Blocks.getD i default).Phis.length → Fo f (Kc (A1 f), 0) (i : Int) (j : Int) = some (bif Jm ((Dp (A1 f)).getD i []) _ then .next ((j : Int) + 1) else .done (.inr false)) := fun j hj => by
        have hp := QZ hf hmem (Ag (d := (default : Bc)) hj); unfold Fo
        have hd : decide ((j : Int) < ((f.Blocks.getD i default).Phis.length : Int)) = true := by simpa using hj
        have hi1 := f7 ((f.Blocks.getD i default).Phis.getD j default).From ((Kc (A1 f)).Pred.getD i []) (by omega); simp only [C8, hd, Ah, Aa (Ai hj), Aa hpi, hi1, An]; rw [Aa (fun _ => Ai hj), Aa (fun _ => hpi), A0 hj (by have := hB.phis; omega)]; unfold Jm
        show (bif (bif (!decide (((f.Blocks.getD i default).Phis.getD j default).From = (Dp (A1 f)).getD i [])) then true else ((((f.Blocks.getD i default).Phis.getD j default).Args.length : Int) != (((Dp (A1 f)).getD i []).length : Int))) then _ else _) = _
        cases decide (((f.Blocks.getD i default).Phis.getD j default).From = (Dp (A1 f)).getD i []) with
        | false => rfl
        | true =>
          grind
      have := Hj (f.Blocks.getD i default).Phis (default : Bc) (Jm ((Dp (A1 f)).getD i [])) (Fo f (Kc (A1 f), 0) (i : Int)) (.inl ()) (.inr false) (fun j hj hp => by rw [key j hj, hp]; rfl) (fun j hj hp => by rw [key j hj, hp]; rfl) (by unfold Fo; simp) (f.Blocks.getD i default).Phis.length 0 (by omega); rw [N7] at this; exact this
    have hrl := dq (A1 f)
    have key : ∀ i, i < f.Blocks.length → Fp f (Kc (A1 f), 0) (Q0 (A1 f)) (i : Int) = some (bif K7 (A1 f) (f.Blocks.getD i default) i then .next ((i : Int) + 1) else .done (.inr false)) := fun i hi => by
      unfold Fp
      have hd : decide ((i : Int) < (f.Blocks.length : Int)) = true := by simpa using hi
      simp only [hd, Ah, Aa (Ai hi), Aa (Ai (show i < (Q0 (A1 f)).length by omega)), C8, sX, hphi i hi, An, A0 hi (by have := hf.blocks; omega)]; unfold K7
      cases ((Q0 (A1 f)).getD i false && !(((f.Blocks.getD i default).End.Kind == 1 || (f.Blocks.getD i default).End.Kind == 3) && ((f.Blocks.getD i default).End.Arg != 0))) with
      | false => rfl
      | true => grind
    rw [JI f.Blocks.length (fun i => K7 (A1 f) (f.Blocks.getD i default) i) _ (.inl ()) (.inr false) (fun i hi hp => by rw [key i hi, hp]; rfl) (fun i hi hp => by rw [key i hi, hp]; rfl) (by unfold Fp; simp)]
    cases (List.range f.Blocks.length).all _ <;> rfl
theorem XW{f:TFunc}(h:Fe f=true):jp f:=λb hb p hp=>by
 simp only[Fe,A6]at h;obtain⟨i,hi,rfl⟩:=G6 hb;have h1:=fO h.2 i hi;rw[Ab _ _ _ hi]at h1;simp only[K7,A6]at h1;have h2:=zzL26.1 h1.2 p hp;simp only[Jm,A6,Gq,zzL63]at h2;rw[h2.1];omega
def Rd(l:List Cg)(i:Nat):Bool:=valS (l.getD i default).V&&(Lo l (l.getD i default).V==(i:Int))
def K0(l:List Cg)(u:D2):Bool:=!decide (Lo l u.V<0)
def defOf(l:List Cg)(v:Int):Cg:=l.getD (Lo l v).toNat default
def U0(l:List Cg)(u:D2):Bool:=((defOf l u.V).Shape.1==u.Shape.1)&&(((defOf l u.V).Shape.2==u.Shape.2)&&true)
def Uz(l:List Cg)(t:List Int)(u:D2):Bool:=
 (decide ((defOf l u.V).Block<0) || ((defOf l u.V).Block==u.Block&&decide ((defOf l u.V).At<u.At))) || (!((defOf l u.V).Block==u.Block)&&!(Rb t (defOf l u.V).Block u.Block !=(defOf l u.V).Block))
def B7(f:TFunc):List Int:=MJ (Kc (A1 f)) 0
def SH(f:TFunc)(l:Int):Int:=
 bif !Fe f then 5 else bif !M1 f l then 6 else bif !(List.range (As f).length).all (Rd (As f)) then 7 else bif !(Bg f).all (K0 (As f)) then 7 else
 bif !(Bg f).all (U0 (As f)) then 6 else bif !(Bg f).all (Uz (As f) (B7 f)) then 7 else 0
def D8(f:TFunc)(l:Int):Int:=bif decide (l<0) || decide (2<l) then 1 else bif !Qv f then 4 else SH f l
theorem PN{l:List Cg}{v:Int}(h:¬ Lo l v<0):A2 (Lo l v) l.length:=by
 unfold Lo at h ⊢
 cases hx:l.findIdx? _ with
 | none=>grind
 | some i=>
  obtain⟨hi,_⟩:=List.findIdx?_eq_some_iff_getElem.1 hx;exact Ai hi
theorem eJ{f:TFunc}(h:Gp f=true):(B7 f).length<=1000:=by
 have h1:=(Tj (Jo h)).1;unfold B7 MJ
 split
 ·rw[XZ];show(A1 f).length<=1000;omega
 ·simp
theorem sr(a b c:Bool)(m q x:Int):(Option.bind (α:=Unit ⊕ Int) (bif (bif a then true else(bif b then c else false)) then some (.inl ()) else((bif (b==false) then some m else some 0).bind λx31=>(bif (bif b then true else(x31 !=q)) then some (.inr 7) else some (.inl ())))) (λx32=>match x32 with | .inl _=>some (LR.next x) | .inr r34=>some (.done (.inr r34)))) =
  (some (bif (a || (b&&c)) || (!b&&!(m !=q)) then .next x else .done (.inr 7)):Option (LR Int (Unit ⊕ Int))):=by
 grind
theorem tO {f : TFunc} (hf : OkF f) (l : Int) (hm : Iu f = some (Qv f)) : D9 f l = some (D8 f l) := by
  unfold D9 D8; rw [show (bif decide (l < (0 : Int)) then true else decide ((2 : Int) < l)) = (decide (l < 0) || decide (2 < l)) by cases decide (l < (0 : Int)) <;> rfl]
  cases (decide (l < 0) || decide (2 < l)) with
  | true => rfl
  | false =>
  simp only [Ax, hm, An]
  cases Qv f with
  | false => rfl
  | true =>
  simp only [Dr, Ax, tK hf, An, SH]
  cases hs : Fe f with
  | false => rfl
  | true =>
  simp only [Dr, Ax, tM hf, An]
  cases ht : M1 f l with
  | false => rfl
  | true =>
  simp only [Dr, Ax, wi hf, An]; have hdl := lJ hf; have hul := KE hf
  have hL1 : Ac (S := Int) (X := (Unit ⊕ Int)) (Fn (As f)) (0 : Int) = some (bif (List.range (As f).length).all (Rd (As f)) then .inl () else .inr 7) := by
    have key : ∀ i, i < (As f).length → Fn (As f) (i : Int) = some (bif Rd (As f) i then .next ((i : Int) + 1) else .done (.inr 7)) := fun i hi => by
      unfold Fn Rd
      have hd : decide ((i : Int) < ((As f).length : Int)) = true := by simpa using hi
      simp only [hd, Ah, Aa (Ai hi), C8, DN, An, Aa (fun _ => Ai hi), ZX (As f) _ (by omega), A0 hi (by omega)]
      cases valS ((As f).getD i default).V with
      | false => rfl
      | true =>
        grind
    exact JI _ _ _ _ _ (fun i hi hp => by rw [key i hi, hp]; rfl) (fun i hi hp => by rw [key i hi, hp]; rfl) (by unfold Fn; simp)
  rw [hL1, An]
  cases (List.range (As f).length).all (Rd (As f)) with
  | false => rfl
  | true =>
  simp only [Ah, Dr, Ax, wl hf (XW hs), An]
  have hL2 : Ac (S := Int) (X := (Unit ⊕ Int)) (D3 (As f) (Bg f)) (0 : Int) = some (bif (Bg f).all (K0 (As f)) then .inl () else .inr 7) := by
    have key : ∀ i, i < (Bg f).length → D3 (As f) (Bg f) (i : Int) = some (bif K0 (As f) ((Bg f).getD i default) then .next ((i : Int) + 1) else .done (.inr 7)) := fun i hi => by
      unfold D3 K0
      have hd : decide ((i : Int) < ((Bg f).length : Int)) = true := by simpa using hi
      simp only [hd, Ah, Aa (Ai hi), C8, ZX (As f) _ (by omega), An, A0 hi (by omega)]
      cases decide (Lo (As f) ((Bg f).getD i default).V < 0) <;> rfl
    have := Hj (Bg f) default (K0 (As f)) (D3 (As f) (Bg f)) (.inl ()) (.inr 7) (fun i hi hp => by rw [key i hi, hp]; rfl) (fun i hi hp => by rw [key i hi, hp]; rfl) (by unfold D3; simp) (Bg f).length 0 (by omega); rw [N7] at this; exact this
  rw [hL2, An]
  cases hF : (Bg f).all (K0 (As f)) with
  | false => rfl
  | true =>
  have hfound : ∀ i, i < (Bg f).length → A2 (Lo (As f) ((Bg f).getD i default).V) (As f).length := fun i hi => by
    have := zzL26.1 hF _ (Ag (d := (default : D2)) hi); simp only [K0, Y6, SM] at this; exact PN this
  simp only [Ah, Dr, Ax]
  have hL3 : Ac (S := Int) (X := (Unit ⊕ Int)) (D4 (As f) (Bg f)) (0 : Int) = some (bif (Bg f).all (U0 (As f)) then .inl () else .inr 6) := by
    have key : ∀ i, i < (Bg f).length → D4 (As f) (Bg f) (i : Int) = some (bif U0 (As f) ((Bg f).getD i default) then .next ((i : Int) + 1) else .done (.inr 6)) := fun i hi => by
      unfold D4 U0 defOf
      have hd : decide ((i : Int) < ((Bg f).length : Int)) = true := by simpa using hi
      simp only [hd, Ah, Aa (Ai hi), C8, ZX (As f) _ (by omega), An, Aa (hfound i hi), A0 hi (by omega)]
      cases ((((As f).getD (Lo (As f) ((Bg f).getD i default).V).toNat default).Shape.1 == ((Bg f).getD i default).Shape.1) && ((((As f).getD (Lo (As f) ((Bg f).getD i default).V).toNat default).Shape.2 == ((Bg f).getD i default).Shape.2) && true)) <;> rfl
    have := Hj (Bg f) default (U0 (As f)) (D4 (As f) (Bg f)) (.inl ()) (.inr 6) (fun i hi hp => by rw [key i hi, hp]; rfl) (fun i hi hp => by rw [key i hi, hp]; rfl) (by unfold D4; simp) (Bg f).length 0 (by omega); rw [N7] at this; exact this
  rw [hL3, An]
  cases (Bg f).all (U0 (As f)) with
  | false => rfl
  | true =>
  have hsB : Gp f = true := by simp only [Fe, A6] at hs; exact hs.1
  have hmax : f.Blocks.length ≤ maxLen := by have := hf.blocks; have : (64 : Nat) ≤ maxLen := by decide
                                             omega
  simp only [Ah, Dr, Ax, dG f hmax, hsB, An]; rw [f9 _ (HC (Jo hsB)).1 0, An]; have htl := eJ hsB
  have hL4 : Ac (S := Int) (X := (Unit ⊕ Int)) (C4 (As f) (Bg f) (B7 f)) (0 : Int) = some (bif (Bg f).all (Uz (As f) (B7 f)) then .inl () else .inr 7) := by
    have key : ∀ i, i < (Bg f).length → C4 (As f) (Bg f) (B7 f) (i : Int) = some (bif Uz (As f) (B7 f) ((Bg f).getD i default) then .next ((i : Int) + 1) else .done (.inr 7)) := fun i hi => by
      unfold C4 Uz defOf
      have hd : decide ((i : Int) < ((Bg f).length : Int)) = true := by simpa using hi
      simp only [hd, Ah, Aa (Ai hi), C8, ZX (As f) _ (by omega), An, Aa (hfound i hi), A0 hi (by omega), wj (B7 f) htl]; exact sr _ _ _ _ _ _
    have := Hj (Bg f) default (Uz (As f) (B7 f)) (C4 (As f) (Bg f) (B7 f)) (.inl ()) (.inr 7) (fun i hi hp => by rw [key i hi, hp]; rfl) (fun i hi hp => by rw [key i hi, hp]; rfl) (by unfold C4; simp) (Bg f).length 0 (by omega); rw [N7] at this; exact this
  show ((Ac (C4 (As f) (Bg f) (B7 f)) 0).bind _) = _
  rw [hL4, An]
  cases (Bg f).all (Uz (As f) (B7 f)) <;> rfl
def grow(n d:Int):Int:=bif decide (n<d) then d else n
def Sm(f:TFunc):Prop:=VT f/\Da f=some true
theorem jv{f:TFunc}(h:Sm f)(hm:Qv f=true):OkF f:=by
 obtain⟨sm,h1,h2⟩:=MH f h.1;rw[h.2]at h1;exact(h2 (OI h1).symm hm).1
theorem lZ{f:TFunc}(hf:VT f):∃ b,Ea f=some b/\(b=true->Sm f):=by
 obtain⟨x,hx⟩:∃ x,Ac _ ((0:Int),(0:Int))=some x:=by
  refine Tt f.Blocks.length (Ch f) (λn i hi=>.inl ?_) (λn=>?_) f.Blocks.length 0 0 (by omega)
  ·unfold Ch
   have hd:decide (i<(f.Blocks.length:Int))=true:=by simpa using hi
   simp only[hd, Aa (Ai hi),K4 hi hf.blocks];exact⟨_,rfl⟩
  ·unfold Ch;exact⟨n,by simp⟩
 obtain⟨sm,h1⟩:=SA f hf;unfold Ea;rw[hx, h1];refine⟨_,rfl,λhb=>⟨hf,?_⟩⟩
 cases sm with
 | true=>exact h1
 | false=>cases hb
theorem dC{f:TFunc}(h:Sm f)(l:Int):D9 f l=some (D8 f l):=by
 have hm:=uA f h.1
 cases hb:Qv f with
 | true=>exact tO (jv h hb) l hm
 | false=>
  unfold D9 D8;rw[show(bif decide _ then true else decide _)=(decide (l<0) || decide (2<l)) by grind]
  cases(decide (l<0) || decide (2<l)) with
  | true=>rfl
  | false=>grind
structure yQ(f:TFunc)(s:List (Int×(Int×Int))):Prop where
 none:D8 f 2≠0->s.length=0
 len:D8 f 2=0->s.length=(As f).length
 get:D8 f 2=0->∀ d∈As f,Fy ((0:Int),(0:Int)) s d.V=d.Shape
 has:D8 f 2=0->∀ v,Ec s v=true->∃ d∈As f,d.V=v
theorem zR{f:TFunc}(hf:VT f)(h0:f.Params.length<=64)(hb:∀ b∈f.Blocks,b.End.To.length<=64/\(∀ p∈b.Phis,p.From.length<=64/\p.Args.length<=64)/\∀ o∈b.Ops,o.Args.length<=64)(he:fe f<=20000):Sm f:=
 ⟨hf,by rw[eE f hf h0 hb,Co he]⟩
def XP(f:TFunc):Int:=
 bif !(List.range (As f).length).all (Rd (As f)) then 7 else bif !(Bg f).all (K0 (As f)) then 7 else
 bif !(Bg f).all (U0 (As f)) then 6 else bif !(Bg f).all (Uz (As f) (B7 f)) then 7 else 0
theorem PB{f:TFunc}{l:Int}(h0:0<=l)(h2:l<=2):D8 f l=0↔Qv f=true/\Fe f=true/\M1 f l=true/\XP f=0:=by
 unfold D8 SH;rw[Cd (show ¬ l<0 by omega),Cd (show ¬ 2<l by omega)]
 have e:(bif !(List.range _).all _ then 7 else bif !(Bg f).all _ then 7 else
  bif !(Bg f).all _ then 6 else bif !(Bg f).all _ then 7 else 0)=XP f:=rfl
 rw[e]
 cases Qv f<;>cases Fe f<;>cases M1 f l<;>simp
theorem pG{o:Bz}(h:Gr o=true):1<=o.Lanes:=by
 simp only[Gr,A6]at h;have:=shape_lanes h.1.1;omega
theorem uG{α:Type}(l:List α)(g:α->Nat):(l.map λa=>g a+1).sum=l.length+(l.map g).sum:=by
 induction l with
 | nil=>rfl
 | cons a l ih=>grind
theorem qV(a b:Int):w64 (a+w64 b)=w64 (a+b):=by rw[Int.add_comm,U8,Int.add_comm]
theorem u6(f:TFunc)(hf:VT f):Ha f=some (sizeW f):=by
 have hl:=DG f.Blocks default (λb=>b.Phis.length+b.Ops.length) id (Qj f) (λn i hi=>?_) (λn=>?_) _ 0 f.Blocks.length (E8 _)
 ·unfold Ha;rw[U9 (by have:=hf.blocks;rw[Od]at this;omega),show((0:Nat):Int)=0 from rfl]at hl;rw[hl,  sizeW,sizeN,show Ez=(λb=>(b.Phis.length+b.Ops.length)+1) from rfl,uG]
  rfl
 ·have e1:decide (i<(f.Blocks.length:Int))=true:=Co (by omega);unfold Qj;simp only[e1,Ah,Aa (Ai hi),C8,K4 hi hf.blocks,qV,U8];rw[show n+((f.Blocks.getD i default).Phis.length+(f.Blocks.getD i default).Ops.length)=((n+((f.Blocks.getD i default).Phis.length+(f.Blocks.getD i default).Ops.length):Nat):Int) by omega]
 ·have e1:decide (f.Blocks.length<(f.Blocks.length:Int))=false:=by simp
  unfold Qj;simp only[e1,Ax,id]
theorem GN{α:Type}(l:List α)(d:α)(p:α->Bool)(f:Int->Option (LR Int (Unit ⊕ Bool)))(hn:∀ i:Nat,i<l.length->f i=bif p (l.getD i d) then some (.next ((i:Int)+1)) else some (.done (.inr false)))
  (he:f l.length=some (.done (.inl ()))):Ac f 0=some (bif l.all p then .inl () else .inr false):=by
 have:=Hj l d p f _ _ (λi hi hp=>by rw[hn i hi,hp];rfl) (λi hi hp=>by rw[hn i hi,hp];rfl) he _ 0 (E8 _)
 simpa using this
theorem lj(x:Int):(bif decide (x<0) then true else decide (2147483647<x)) = !numB x:=by
 unfold numB
 by_cases h1:x<0
 ·grind
 ·grind
theorem YE(l:List Int)(h:l.length<=maxLen):Eb l=some (l.all numB):=by
 have hl:=GN l 0 numB (Kh l) (λi hi=>?_) ?_
 ·unfold Eb;rw[hl]
  cases l.all _<;>rfl
 ·have e1:decide ((i:Int)<l.length)=true:=Co (by omega);unfold Kh;simp only[e1, Aa (Ai hi),C8,lj,K4 hi h]
  cases numB _<;>simp
 ·unfold Kh
  simp
theorem DR(l:List Int)(h:l.length<=maxLen):Ip l=some (listB l):=by
 unfold Ip;rw[YE l h]
 by_cases h1:l.length<=64
 ·have e1:decide ((l.length:Int)<=64)=true:=Co (by omega);rw[e1];simp[listB,h1]
 ·have e1:decide ((l.length:Int)<=64)=false:=Cd (by omega);rw[e1];simp[listB,h1]
theorem DQ{l:List Int}(h:l.length<=10):l.length<=maxLen:=by rw[Od];omega
theorem qe(p:Bc)(h1:p.From.length<=maxLen)(h2:p.Args.length<=maxLen):Ql p=some (FI p):=by
 unfold Ql FI;rw[YE _ (DQ (by simp)),DR _ h1,DR _ h2];simp only[Vw,List.all_nil,FV]
 cases numB p.Bits<;>cases numB p.Dst<;>cases listB p.From<;>cases listB p.Args<;>rfl
theorem uP(o:Bz)(h1:o.Args.length<=maxLen):R0 o=some (eg o):=by
 unfold R0 eg;rw[YE _ (DQ (by simp)),DR _ h1];simp only[Vw,List.all_nil,FV]
 cases numB o.Kind<;>cases numB o.Bits<;>cases numB o.Lanes<;>cases numB o.Dst<;>cases listB o.Args<;>rfl
theorem qa(e:On)(h1:e.To.length<=maxLen):Qk e=some (cU e):=by
 unfold Qk cU;rw[YE _ (DQ (by simp)),DR _ h1];simp only[Vw,List.all_nil,FV]
 cases numB e.Kind<;>cases numB e.Arg<;>cases listB e.To<;>rfl
theorem QS{X:Type}(b:Bool)(x y:X):(bif !b then x else y)=bif b then y else x:=by cases b<;>rfl
theorem mO(l:List Bc)(hl:l.length<=maxLen)(h:∀ p∈l,p.From.length<=maxLen/\p.Args.length<=maxLen):Jv l=some (l.all FI):=by
 have hl':=GN l (default:Bc) FI (Hw l) (λi hi=>?_) ?_
 ·unfold Jv;rw[hl']
  cases l.all FI<;>rfl
 ·have e1:decide ((i:Int)<(l.length:Int))=true:=Co (by omega);have:=h _ (Ag (d:=(default:Bc)) hi);unfold Hw;simp only[e1,Ah,Aa (Ai hi),C8,qe _ this.1 this.2,An,QS,K4 hi hl,Int.natCast_add,Int.natCast_one]
 ·unfold Hw
  simp
theorem qd(l:List Bz)(hl:l.length<=maxLen)(h:∀ o∈l,o.Args.length<=maxLen):Kg l=some (l.all eg):=by
 have hl':=GN l (default:Bz) eg (Ic l) (λi hi=>?_) ?_
 ·unfold Kg;rw[hl']
  cases l.all eg<;>rfl
 ·have e1:decide ((i:Int)<(l.length:Int))=true:=Co (by omega);have:=h _ (Ag (d:=(default:Bz)) hi);unfold Ic;simp only[e1,Ah,Aa (Ai hi),C8,uP _ this,An,QS,K4 hi hl,Int.natCast_add,Int.natCast_one]
 ·unfold Ic
  simp
theorem g8(b:Ae)(h1:b.Phis.length<=maxLen)(h2:b.Ops.length<=maxLen)(h3:b.End.To.length<=maxLen)(h4:∀ p∈b.Phis,p.From.length<=maxLen/\p.Args.length<=maxLen)(h5:∀ o∈b.Ops,o.Args.length<=maxLen):Ob b=some (blockB b):=by
 unfold Ob blockB;rw[mO _ h1 h4,qd _ h2 h5,qa _ h3]
 cases b.Phis.all FI<;>cases b.Ops.all eg<;>cases cU b.End<;>rfl
theorem eP(f:TFunc)(hf:VT f):Ib f.Blocks=some (f.Blocks.all blockB):=by
 have hl':=GN f.Blocks (default:Ae) blockB (Gw f.Blocks) (λi hi=>?_) ?_
 ·unfold Ib;rw[hl']
  cases f.Blocks.all blockB<;>rfl
 ·have e1:decide ((i:Int)<(f.Blocks.length:Int))=true:=Co (by omega);have hm:=Ag (d:=(default:Ae)) hi;have q:=hf.block _ hm;unfold Gw;simp only[e1,Ah,Aa (Ai hi),C8,g8 _ q.1 q.2.1 q.2.2 (hf.phi _ hm) (λo ho=>(hf.op _ hm o ho).1),An,QS,K4 hi hf.blocks,Int.natCast_add,Int.natCast_one]
 ·unfold Gw
  simp
theorem Aau(f:TFunc)(hf:VT f):Xs f=some (Qv f):=by
 unfold Xs Qv;rw[u6 f hf,YE _ hf.params,YE _ (DQ (by simp)),eP f hf];simp only[Vw,List.all_nil,FV,listB]
 have d1:∀ n:Nat,decide ((n:Int)<1) = !decide (1<=n):=λn=>by by_cases h:1<=n<;>simp[h]<;>omega
 have d2:∀ n:Nat,decide ((64:Int)<(n:Int)) = !decide (n<=64):=λn=>by by_cases h:n<=64<;>simp[h]<;>omega
 have d3:∀ n:Nat,decide ((16:Int)<(n:Int)) = !decide (n<=16):=λn=>by by_cases h:n<=16<;>simp[h]<;>omega
 have d4:∀ n:Int,decide ((512:Int)<n) = !decide (n<=512):=λn=>by by_cases h:n<=512<;>simp[h]<;>omega
 simp only[d1,d2,d3,d4]
 have himp:decide (f.Params.length<=16)=true->decide (f.Params.length<=64)=true:=λh=>by simp at h ⊢;omega
 revert himp
 generalize decide (1<=f.Blocks.length)=c1
 generalize decide (f.Blocks.length<=64)=c2
 generalize decide (f.Params.length<=16)=c3
 generalize decide (f.Params.length<=64)=c4
 generalize f.Params.all numB=c6
 generalize numB f.Ret=c7
 generalize f.Blocks.all blockB=c8
 cases c3 with
 | true=>
  intro h;obtain rfl:=h rfl;simp only[Dr,Vc,Ah,An,Ax]
  generalize decide (sizeW f<=512)=c5
  cases c1<;>cases c2<;>cases c6<;>cases c7<;>cases c8<;>cases c5<;>rfl
 | false=>
  intro _
  cases c1<;>cases c2<;>rfl
inductive Tp (t:List Int):Nat->Nat->Nat->Prop
 | top {x:Nat} (hx:x<t.length) (h:t.getD x 0 = -1):Tp t x x 0
 | up {x y r k:Nat} (hx:x<t.length) (h:t.getD x 0=(y:Int)) (hk:Tp t y r k):Tp t x r (k+1)
section
variable {t:List Int}
theorem Tp.lt{x r k:Nat}(h:Tp t x r k):x<t.length:=by cases h<;>assumption
theorem Tp.tops{x r k:Nat}(h:Tp t x r k):r<t.length/\t.getD r 0 = -1:=by
 induction h with
 | top hx h=>exact⟨hx,h⟩
 | up _ _ _ ih=>exact ih
theorem Tp.det{x r k r' k':Nat}(h:Tp t x r k)(h':Tp t x r' k'):r=r'/\k=k':=by
 induction h generalizing k' with
 | top hx h=>cases h' with
  | top=>exact⟨rfl,rfl⟩
  | up _ h2 _=>omega
 | up hx h1 _ ih=>cases h' with
  | top _ h2=>omega
  | up _ h2 k2=>
   grind
theorem Tp.upTo{x r k:Nat}(h:Tp t x r k):UpTo (Bs t) x r:=by
 induction h with
 | top=>exact .refl _
 | up _ h _ ih=>exact .up h ih
theorem Tp.on{x r k z:Nat}(h:Tp t x r k)(hz:UpTo (Bs t) x z):∃ j,j<=k/\Tp t z r j/\(j=k->z=x):=by
 induction hz generalizing k with
 | refl x=>grind
 | up hp _ ih=>
  cases h with
  | top _ h2=>have :=hp.symm.trans h2;omega
  | up _ h2 k2=>
   have :=hp.symm.trans h2
   cases KN this
   obtain⟨j,h1,h3,_⟩:=ih k2;exact⟨j,by omega,h3,λe=>by omega⟩
theorem Tp.anti{x r k z:Nat}(h:Tp t x r k)(h1:UpTo (Bs t) x z)(h2:UpTo (Bs t) z x):z=x:=by
 obtain⟨j,j1,j2,j3⟩:=h.on h1;obtain⟨i,i1,i2,i3⟩:=j2.on h2;have:=h.det i2;exact j3 (by omega)
theorem Tp.list{x r k:Nat}(h:Tp t x r k):∃ l:List Nat,l.length=k+1/\l.Nodup/\∀ y∈l,y<t.length/\∃ j,j<=k/\Tp t y r j:=by
 induction h with
 | top hx h=>exact⟨[_],rfl,by simp,λy hy=>by rw[zzL16.1 hy];exact⟨hx,0,zzL6 _,.top hx h⟩⟩
 | @up x y r k hx h hk ih=>
  obtain⟨l,h1,h2,h3⟩:=ih;refine⟨x::l,by simp[h1],zzL113.2 ⟨λhm=>?_,h2⟩,λz hz=>?_⟩
  ·obtain⟨_,j,hj,hj2⟩:=h3 _ hm;have:=(Tp.up hx h hk).det hj2;omega
  ·rcases zzL37.1 hz with rfl|hz
   ·exact⟨hx,k+1,zzL6 _,.up hx h hk⟩
   ·grind
theorem Tp.short{x r k:Nat}(h:Tp t x r k):k<t.length:=by
 obtain⟨l,h1,h2,h3⟩:=h.list;have:=Tk _ l h2 λy hy=>(h3 y hy).1;omega
theorem Tp.upD{x r k:Nat}(h:Tp t x r k):∀ m,k<m->∃ q,upD t m (x:Int)=some q/\(∀ w:Int,w∈q↔∃ z:Nat,w=(z:Int)/\UpTo (Bs t) x z) /\
  ∀ p:Int->Bool,(q.find? p=none/\∀ z:Nat,UpTo (Bs t) x z->p (z:Int)=false)\/∃ f:Nat,q.find? p=some (f:Int)/\UpTo (Bs t) x f/\p (f:Int)=true/\∀ z:Nat,UpTo (Bs t) x z->p (z:Int)=true->UpTo (Bs t) f z:=by
 induction h with
 | @top x hx h=>
  intro m hm;obtain⟨m,rfl⟩:∃ i,m=i+1:=⟨m-1,by omega⟩
  have htop:∀ z,UpTo (Bs t) x z↔z=x:=λz=>NQ λp hp=>by have:_=_:=hp.symm.trans h;omega
  unfold Go.Proofs.YtfhggcbcamamdaaGreat.upD;rw[if_pos ⟨by omega,by omega⟩,Am,if_pos h];refine⟨_,rfl,λw=>?_,λp=>?_⟩
  ·grind
  ·grind
 | @up x y r k hx h hk ih=>
  intro m hm;obtain⟨m,rfl⟩:∃ i,m=i+1:=⟨m-1,by omega⟩;unfold Go.Proofs.YtfhggcbcamamdaaGreat.upD;rw[if_pos ⟨by omega,by omega⟩,Am,if_neg (by omega),h];obtain⟨q,hq1,hq2,hq3⟩:=ih m (by omega);rw[hq1];refine⟨(x:Int)::q,rfl,λw=>?_,λp=>?_⟩
  ·rw[zzL37,hq2 w]
   constructor
   ·rintro(rfl|⟨y,rfl,hy⟩)
    ·exact⟨x,rfl,.refl _⟩
    ·exact⟨y,rfl,.up h hy⟩
   ·rintro⟨y,rfl,hy⟩;rcases(anc_up h).1 hy with rfl|hy
    ·exact .inl rfl
    ·exact .inr ⟨y,rfl,hy⟩
  ·cases hpp:p (x:Int) with
   | true=>exact .inr ⟨x,by simp[List.find?,hpp],.refl _,hpp,λy hy _=>hy⟩
   | false=>
    have hf:((x:Int)::q).find? p=q.find? p:=by simp[List.find?,hpp]
    rw[hf];rcases hq3 p with⟨e1,e2⟩|⟨f,e1,e2,e3,e4⟩
    ·refine .inl ⟨e1,λy hy=>?_⟩;rcases(anc_up h).1 hy with rfl|hy
     ·exact hpp
     ·exact e2 y hy
    ·refine .inr ⟨f,e1,.up h e2,e3,λy hy hpy=>?_⟩;rcases(anc_up h).1 hy with rfl|hy
     ·rw[hpp]at hpy;cases hpy
     ·exact e4 y hy hpy
theorem w7:∀ m (a:Int) q,upD t m a=some q->∃ x r k:Nat,a=(x:Int)/\k<m/\Tp t x r k:=by
 intro m
 induction m with
 | zero=>intro a q h;cases h
 | succ m ih=>
  intro a q h;unfold Go.Proofs.YtfhggcbcamamdaaGreat.upD at h
  by_cases ha:0<=a/\a<t.length
  ·rw[if_pos ha]at h;have e :=Y5 ha.1
   by_cases h1:t.getD a.toNat 0 = -1
   ·exact⟨a.toNat,a.toNat,0,e.symm,by omega,.top (by omega) h1⟩
   ·rw[if_neg h1]at h
    cases hu:Go.Proofs.YtfhggcbcamamdaaGreat.upD t m _ with
    | none=>rw[hu]at h;cases h
    | some q'=>
     obtain⟨y,r,k,e1,e2,e3⟩:=ih _ _ hu;exact⟨a.toNat,r,k+1,e.symm,by omega,.up (by omega) e1 e3⟩
  ·grind
theorem pathD_tp{a:Int}:E7 t a≠[]↔∃ x r k:Nat,a=(x:Int)/\Tp t x r k:=by
 constructor
 ·intro h
  cases hu:upD t _ a with
  | none=>exact absurd (pathD_nil.2 hu) h
  | some q=>obtain⟨x,r,k,e1,_,e2⟩:=w7 _ _ _ hu;exact⟨x,r,k,e1,e2⟩
 ·rintro⟨x,r,k,rfl,h⟩ e;obtain⟨q,hq,_⟩:=h.upD _ h.short;rw[pathD_nil.1 e]at hq;cases hq
theorem Tp.path{x r k:Nat}(h:Tp t x r k):(∀ w:Int,w∈E7 t (x:Int)↔∃ z:Nat,w=(z:Int)/\UpTo (Bs t) x z) /\
  ∀ p:Int->Bool,((E7 t (x:Int)).find? p=none/\∀ z:Nat,UpTo (Bs t) x z->p (z:Int)=false)\/∃ f:Nat,(E7 t (x:Int)).find? p=some (f:Int)/\UpTo (Bs t) x f/\p (f:Int)=true/\∀ z:Nat,UpTo (Bs t) x z->p (z:Int)=true->UpTo (Bs t) f z:=by
 obtain⟨q,h1,h2,h3⟩:=h.upD _ h.short
 have e:E7 t x=q:=by unfold E7;rw[h1];rfl
 rw[e];exact⟨h2,h3⟩
theorem PO{α:Type}{l:List α}{i j:Nat}{x d:α}(hi:i<l.length):(l.set i x).getD j d=if j=i then x else l.getD j d:=by
 grind
theorem tQ{x r k:Nat}(h:Tp t x r k):∀ l:List Bool,l.length=t.length->∃ l',Ac (K8 t) ((x:Int),l)=some l'/\l'.length=t.length/\∀ z,z<t.length->(l'.getD z false=true↔l.getD z false=true\/UpTo (Bs t) x z):=by
 induction h with
 | @top x hx h=>
  intro l hl
  have hs:K8 t (x,l)=some (.next (-1,l.set x true)):=by
   unfold K8
   have hb:((x:Int)!=-1)=true:=by rw[zzL100];omega
   simp only[hb,Ah,Am,h];rw[Ad (Fz (by omega)),Ad (Fz hx)]
  have hd:K8 t (-1,l.set x true)=some (.done (l.set x true)):=by
   rfl
  refine⟨l.set x _,by rw[Ap hs,Ak hd],by simp[hl],λz hz=>?_⟩;rw[PO (by omega)]
  have htop:UpTo (Bs t) x z↔z=x:=NQ λp hp=>by have :=hp.symm.trans h;omega
  rw[htop]
  by_cases e:z=x
  ·simp[e]
  ·simp[e]
 | @up x y r k hx h hk ih=>
  intro l hl
  have hs:K8 t (x,l)=some (.next (y,l.set x true)):=by
   unfold K8
   have hb:(x !=(-1:Int))=true:=by rw[zzL100];omega
   simp only[hb,Ah,Am,h];rw[Ad (Fz (by omega)),Ad (Fz hx)]
  obtain⟨l',e1,e2,e3⟩:=ih (l.set x _) (by simp[hl]);refine⟨l',by rw[Ap hs,e1],e2,λz hz=>?_⟩;rw[e3 z hz,PO (by omega),anc_up (par:=Bs t) h]
  by_cases e:z=x
  ·simp[e]
  ·simp[e]
theorem tR{b r k:Nat}(h:Tp t b r k)(l:List Bool)(hl:l.length=t.length):l.getD r false=true->∃ c:Nat,Ac (I7 t l) (b:Int)=some (c:Int)/\UpTo (Bs t) b c/\l.getD c false=true/\∀ z,UpTo (Bs t) b z->l.getD z false=true->UpTo (Bs t) c z:=by
 induction h with
 | @top x hx h=>
  intro hr
  have hd:I7 t l x=some (.done x):=by
   unfold I7;rw[Ad (Fz (by omega)),Am,hr]
   rfl
  exact⟨x,Ak hd,.refl _,hr,λz hz _=>hz⟩
 | @up x y r k hx h hk ih=>
  intro hr
  cases hx2:l.getD x _ with
  | true=>
   have hd:I7 t l x=some (.done x):=by
    unfold I7;rw[Ad (Fz (by omega)),Am,hx2]
    rfl
   exact⟨x,Ak hd,.refl _,hx2,λz hz _=>hz⟩
  | false=>
   have hs:I7 t l x=some (.next y):=by
    unfold I7;rw[Ad (Fz (by omega)),Am,hx2,J1,Ah,Ad (Fz hx),h]
   obtain⟨c,e1,e2,e3,e4⟩:=ih hr;refine⟨c,by rw[Ap hs,e1],.up h e2,e3,λz hz hlz=>?_⟩;rcases(anc_up  h).1 hz with rfl|hz
   ·grind
   ·exact e4 z hz hlz
theorem LP(ht:t.length<=1000){a b r k m:Nat}(ha:Tp t a r k)(hb:Tp t b r m):∃ c:Nat,Rn t (a:Int) (b:Int)=some (c:Int)/\MeetAt (Bs t) a b c:=by
 unfold Rn
 have hroom:1000<=room:=by decide
 rw[Ad ⟨by omega,by omega,by omega⟩,Am];obtain⟨l',h1,h2,h3⟩:=tQ ha (List.replicate t.length _) (by simp);rw[h1,An]
 have h3':∀ z,z<t.length->(l'.getD z false=true↔UpTo (Bs t) a z):=λz hz=>by grind
 obtain⟨c,e1,e2,e3,e4⟩:=tR hb l' h2 ((h3' r ha.tops.1).2 ha.upTo)
 have hc:c<t.length:=by grind
 refine⟨c,by rw[e1];rfl,λw=>⟨λhw=>⟨((h3' c hc).1 e3).trans hw,e2.trans hw⟩,λ⟨hw1,hw2⟩=>?_⟩⟩;obtain⟨j,_,hj,_⟩:=ha.on hw1;exact e4 w hw2 ((h3' w hj.lt).2 hw1)
theorem pR(hR:M0 t=true){a b r k m:Nat}(ha:Tp t a r k)(hb:Tp t b r m):∃ c:Nat,Rb t (a:Int) (b:Int)=(c:Int)/\MeetAt (Bs t) a b c:=by
 unfold Rb;rw[if_pos hR]
 have hcon:∀ z:Nat,(E7 t b).contains z=true↔UpTo (Bs t) b z:=λz=>by
  rw[zzL64,hb.path.1]
  constructor
  ·grind
  ·grind
 rcases ha.path.2 (λx=>(E7 t _).contains x) with⟨e1,e2⟩|⟨f,e1,e2,e3,e4⟩
 ·have:=e2 r ha.upTo;rw[(hcon r).2 hb.upTo]at this
  cases this
 ·exact⟨f,by rw[e1];rfl,λw=>⟨λhw=>⟨e2.trans hw,((hcon f).1 e3).trans hw⟩,λ⟨hw1,hw2⟩=>e4 w hw1 ((hcon w).2 hw2)⟩⟩
theorem MeetAt.same{a b r k c d:Nat}(ha:Tp t a r k)(hc:MeetAt (Bs t) a b c)(hd:MeetAt (Bs t) a b d):c=d:=by
 obtain⟨j,_,hj,_⟩:=ha.on ((hc c).1 (.refl _)).1;exact(hj.anti ((hc d).2 ((hd d).1 (.refl _))) ((hd c).2 ((hc c).1 (.refl _)))).symm
end
theorem m_index(t:List Int)(v:Int)(ht:t.length<=1000):(∃ r:Nat,r<t.length/\t.getD r 0=v/\(∀ i,i<r->t.getD i 0≠v)/\G2 t v=some (r:Int))\/((∀ i,i<t.length->t.getD i 0≠v)/\G2 t v=some (-1)):=by
 have key:∀ k i:Nat,i+k=t.length->(∀ j,j<i->t.getD j 0≠v)->
   (∃ r:Nat,r<t.length/\t.getD r 0=v/\(∀ i,i<r->t.getD i 0≠v)/\Ac (Cq t v) (i:Int)=some (.inr (r:Int)))\/((∀ i,i<t.length->t.getD i 0≠v)/\Ac (Cq t v) (i:Int)=some (.inl ())):=by
  intro k
  induction k with
  | zero=>
   intro i hi hj
   obtain rfl:i=t.length:=by omega
   refine .inr ⟨hj,Ak ?_⟩;unfold Cq;rw[C9];rfl
  | succ k ih=>
   intro i hi hj
   by_cases e:v=t.getD i 0
   ·refine .inl ⟨i,by omega,e.symm,hj,Ak ?_⟩;unfold Cq;have hb:((v:Int)==t.getD i 0)=true:=zzL63.2 e;simp only[B0 (show i<t.length by omega),Ah,Am,hb];rw[Ad (Fz (by omega))]
   ·have hs:Cq t v (i:Int)=some (.next ((i+1:Nat):Int)):=by
     unfold Cq;have hb:((v:Int)==t.getD i 0)=false:=zzL30.2 e;simp only[B0 (show i<t.length by omega),Ah,Am,hb,Ax];rw[Ad (Fz (by omega)),w1 (by omega)]
    rw[Ap hs]
    exact ih (i+1) (by omega) λj hj2=>by
     by_cases ej:j=i
     ·subst ej;exact λh=>e h.symm
     ·exact hj j (by omega)
 have h0:=key t.length 0 (by omega) (λj hj=>absurd hj (Wz _));unfold G2;rcases h0 with⟨r,h1,h2,h3,h4⟩|⟨h1,h2⟩
 ·exact .inl ⟨r,h1,h2,h3,by rw[show((0:Int))=((0:Nat):Int) from rfl,h4];rfl⟩
 ·exact .inr ⟨h1,by rw[show((0:Int))=((0:Nat):Int) from rfl,h2];rfl⟩
section
variable {t:List Int}
structure EA(t:List Int)(r f:Nat)(w:List Int):Prop where
 len:w.length=t.length
 old:∀ y,y<t.length->w.getD y 0≠0->(w.getD y 0<=(f:Int))/\∃ k,Tp t y r k
structure nS(t:List Int)(r f x:Nat)(w:List Int):Prop where
 len:w.length=t.length
 hx:x<t.length
 old:∀ y,y<t.length->w.getD y 0≠0->w.getD y 0<=(f:Int)/\(∃ k,Tp t y r k)\/w.getD y 0=((f+1:Nat):Int)/\∀ r' k,Tp t x r' k->∃ j,k<j/\Tp t y r' j
 fwd:∀ r' k,Tp t x r' k->∃ j,k<=j/\Tp t f r' j
 back:∀ r' k,Tp t f r' k->∃ j,Tp t x r' j
def YH(w:List Int):Nat:=w.countP λz=>z==0
theorem mS{w:List Int}{x:Nat}{v:Int}(hx:x<w.length)(h0:w.getD x 0=0)(hv:v≠0):YH (w.set x v)<YH w:=by
 unfold YH;rw[List.countP_set hx];rw[Ab _ _ _ hx]at h0;have hp:0<w.countP λz=>z==0:=List.countP_pos_iff.2 ⟨w[x],KL hx,by simp[h0]⟩;have hb :=zzL30.2 hv;simp only[h0,Vc,Mq,hb,FQ,Iv];omega
theorem leads_loop(ht:t.length<=1000){r:Nat}(hr:r<t.length)(htop:t.getD r 0 = -1){f:Nat}(hf:f<t.length):∀(m x:Nat) (w:List Int),YH w<=m->nS t r f x w->
  (∃ w',Ac (D0 t (f:Int) (r:Int)) ((x:Int),w)=some (.inl w')/\EA t r (f+1) w'/\∃ k,Tp t f r k) \/
  ∃ b w',Ac (D0 t (f:Int) (r:Int)) ((x:Int),w)=some (.inr (b,w'))/\w'.length=t.length/\(b=true->EA t r (f+1) w'/\∃ k,Tp t f r k)/\(b=false->∀ k,¬ Tp t f r k):=by
 intro m
 induction m with
 | zero=>
  intro x w hz hw;exact go 0 (λx w hz=>absurd hz (Wz _)) x w hz hw
 | succ m ih=>
  intro x w hz hw;exact go (m+1) (λx w hz=>ih x w (Nat.le_of_lt_succ hz)) x w hz hw
where
 go (m:Nat) (ih:∀(x:Nat) (w:List Int),YH w<m->nS t r f x w->
  (∃ w',Ac (D0 t (f:Int) (r:Int)) ((x:Int),w)=some (.inl w')/\EA t r (f+1) w'/\∃ k,Tp t f r k) \/
  ∃ b w',Ac (D0 t (f:Int) (r:Int)) ((x:Int),w)=some (.inr (b,w'))/\w'.length=t.length/\(b=true->EA t r (f+1) w'/\∃ k,Tp t f r k)/\(b=false->∀ k,¬ Tp t f r k)) (x:Nat) (w:List Int) (hz:YH w<=m) (hw:nS t r f x w) :
  (∃ w',Ac (D0 t (f:Int) (r:Int)) ((x:Int),w)=some (.inl w')/\EA t r (f+1) w'/\∃ k,Tp t f r k) \/
  ∃ b w',Ac (D0 t (f:Int) (r:Int)) ((x:Int),w)=some (.inr (b,w'))/\w'.length=t.length/\(b=true->EA t r (f+1) w'/\∃ k,Tp t f r k)/\(b=false->∀ k,¬ Tp t f r k):=by
  have hxl:=hw.hx
  have told:∀ k,Tp t x r k->EA t r (f+1) w/\∃ k,Tp t f r k:=λk hk=>by
   obtain⟨j,_,hj⟩:=hw.fwd _ _ hk;refine⟨⟨hw.len,λy hy hy0=>?_⟩,j,hj⟩;rcases hw.old y hy hy0 with⟨h1,h2⟩|⟨h1,h2⟩
   ·exact⟨by omega,h2⟩
   ·obtain⟨i,_,hi⟩:=h2 _ _ hk;exact⟨by omega,i,hi⟩
  by_cases hxr:x=r
  ·subst hxr;refine .inl ⟨w,Ak ?_,told 0 (.top hr htop)⟩;unfold D0
   have hb:((x:Int)!=(x:Int))=false:=by simp
   simp only[hb,Ax]
  ·have hb:((x:Int)!=(r:Int))=true:=by rw[zzL100];omega
   have hin:A2 (x:Int) w.length:=Fz (by rw[hw.len];exact hxl)
   by_cases hw0:w.getD x 0=0
   ·have hb0:((w.getD x 0:Int)!=0)=false:=by rw[hw0];rfl
    by_cases hpl:0<=t.getD x 0/\t.getD x 0<(t.length:Int)
    ·have hwf:w64 ((f:Int)+1)=((f+1:Nat):Int):=w1 (by omega)
     have hs:D0 t (f:Int) (r:Int) ((x:Int),w)=some (.next (t.getD x 0,w.set x ((f+1:Nat):Int))):=by
      unfold D0 Mu;simp only[hb,Ah,Am,hb0,Ax];rw[Ad hin,Ad (Fz hxl),Co hpl.1,Co hpl.2,Ah,An,Dr,Ax,Ad hin,Ad (Fz hxl),hwf]
     rw[Ap hs];obtain⟨y,hy⟩:∃ y:Nat,t.getD x 0=(y:Int):=⟨(t.getD x 0).toNat,(Y5 hpl.1).symm⟩;rw[hy]at hpl ⊢
     have hyl:y<t.length:=by omega
     have hst:∀ r' k,Tp t y r' k->Tp t x r' (k+1):=λr' k hk=>.up hxl hy hk
     have hset:∀ z,z<t.length->(w.set x ((f+1:Nat):Int)).getD z 0=if z=x then((f+1:Nat):Int) else w.getD z 0:=λz _=>PO (by rw[hw.len];exact hxl)
     have hW:nS t r f y (w.set x ((f+1:Nat):Int)):=by
      refine⟨by simp[hw.len],hyl,λz hzl hz0=>?_,λr' k hk=>?_,λr' k hk=>?_⟩
      ·rw[hset z hzl]at hz0 ⊢
       by_cases e:z=x
       ·subst e;rw[if_pos rfl];exact .inr ⟨rfl,λr' k hk=>⟨k+1,by omega,hst r' k hk⟩⟩
       ·rw[if_neg e]at hz0 ⊢;rcases hw.old z hzl hz0 with h1|⟨h1,h2⟩
        ·exact .inl h1
        ·refine .inr ⟨h1,λr' k hk=>?_⟩;obtain⟨j,hj1,hj2⟩:=h2 _ _ (hst r' k hk);exact⟨j,by omega,hj2⟩
      ·obtain⟨j,hj1,hj2⟩:=hw.fwd _ _ (hst r' k hk);exact⟨j,by omega,hj2⟩
      ·obtain⟨j,hj⟩:=hw.back _ _ hk
       cases hj with
       | top _ h2=>omega
       | up _ h2 h3=>
        have:=hy.symm.trans h2
        cases KN this
        exact⟨_,h3⟩
     have hzz:=mS (x:=x) (v:=((f+1:Nat):Int)) (by rw[hw.len];exact hxl) hw0 (by omega);exact ih y _ (by omega) hW
    ·refine .inr ⟨false,w,Ak ?_,hw.len,⟨λh=>(by cases h),λ_ k hk=>?_⟩⟩
     ·unfold D0 Mu;simp only[hb,Ah,Am,hb0,Ax];rw[Ad hin,Ad (Fz hxl)]
      have:(bif decide ((0:Int)<=t.getD x 0) then decide (t.getD x 0<(t.length:Int)) else false)=false:=by
       cases h1:decide ((0:Int)<=t.getD x 0) with
       | false=>rfl
       | true=>rw[Ah];exact Cd λh2=>hpl ⟨KK h1,h2⟩
      rw[this,An]
      rfl
     ·obtain⟨j,hj⟩:=hw.back _ _ hk
      cases hj with
      | top=>exact hxr rfl
      | up _ h2 h3=>have:=h3.lt;exact hpl ⟨by omega,by omega⟩
   ·have hb0:((w.getD x 0:Int)!=0)=true:=by rw[zzL100];exact hw0
    have hwf:w64 ((f:Int)+1)=((f+1:Nat):Int):=w1 (by omega);refine .inr ⟨w.getD x 0 !=((f+1:Nat):Int),w,Ak ?_,hw.len,⟨λh=>?_,λh k hk=>?_⟩⟩
    ·unfold D0;simp only[hb,Ah,Am,hb0];rw[Ad hin,Ad hin,hwf]
    ·rcases hw.old x hxl hw0 with⟨_,k,hk⟩|⟨h1,_⟩
     ·exact told k hk
     ·rw[h1]at h;simp at h
    ·have he:w.getD x 0=((f+1:Nat):Int):=by simpa using h
     obtain⟨j,hj⟩:=hw.back _ _ hk;rcases hw.old x hxl hw0 with⟨h1,_⟩|⟨_,h2⟩
     ·omega
     ·obtain⟨i,hi1,hi2⟩:=h2 _ _ hj;have:=hj.det hi2;omega
end
section
variable {t:List Int}
theorem tH(ht:t.length<=1000){r:Nat}(hr:r<t.length)(htop:t.getD r 0 = -1){f:Nat}(hf:f<t.length){w:List Int}(hw:EA t r f w) :
  ∃ b w',Ut t w (f:Int) (r:Int)=some (b,w')/\w'.length=t.length/\(b=true->EA t r (f+1) w'/\∃ k,Tp t f r k)/\(b=false->∀ k,¬ Tp t f r k):=by
 unfold Ut;have hW:nS t r f f w:=⟨hw.len,hf,λy hy h0=>.inl (hw.old y hy h0),λr' k hk=>⟨k,zzL6 _,hk⟩,λr' k hk=>⟨k,hk⟩⟩;rcases leads_loop ht hr htop hf _ f w (zzL6 _) hW with⟨w',e1,e2⟩|⟨b,w',e1,e2,e3,e4⟩
 ·exact⟨true,w',by rw[e1];rfl,e2.1.len,λ_=>e2,λh=>by cases h⟩
 ·grind
def VS(t:List Int)(r:Nat):Prop:=∀ f,f<t.length->t.getD f 0≠-2->∃ k,Tp t f r k
open Classical in
theorem cm(ht:t.length<=1000){r:Nat}(hr:r<t.length)(htop:t.getD r 0 = -1):∀(k f:Nat) (w:List Int),f+k=t.length->EA t r f w->(∀ y,y<f->t.getD y 0≠-2->∃ k,Tp t y r k)->
  Ac (Hb t (r:Int)) ((f:Int),w)=some (if VS t r then .inl () else .inr false):=by
 intro k
 induction k with
 | zero=>
  intro f w hk hw hd
  obtain rfl:f=t.length:=by omega
  apply Ak
  unfold Hb;simp only[C9,Ax];rw[if_pos (show VS t r from hd)]
 | succ k ih=>
  intro f w hk hw hd
  have hf:f<t.length:=by omega
  by_cases h2:t.getD f 0 = -2
  ·have hb:((t.getD f 0:Int)!=(-2))=false:=by rw[h2];rfl
   have hs:Hb t (r:Int) ((f:Int),w)=some (.next (((f+1:Nat):Int),w)):=by
    unfold Hb;simp only[B0 hf,Ah,Am,hb,show(false==true)=false from rfl,Ax,An];rw[Ad (Fz hf),Ad (λh=>by cases h),w1 (by omega)]
   rw[Ap hs];refine ih (f+1) w (by omega) ⟨hw.len,λy hy h0=>?_⟩ λy hy hy2=>?_
   ·obtain⟨e1,e2⟩:=hw.old y hy h0;exact⟨by omega,e2⟩
   ·by_cases e:y=f
    ·subst e;exact absurd h2 hy2
    ·exact hd y (by omega) hy2
  ·have hb:((t.getD f 0:Int)!=(-2))=true:=by rw[zzL100];exact h2
   obtain⟨b,w',e1,e2,e3,e4⟩:=tH ht hr htop hf hw
   cases b with
   | false=>
    rw[if_neg (λhA:VS t r=>by obtain⟨k,hk⟩:=hA f hf h2;exact e4 rfl k hk)]
    apply Ak
    unfold Hb;simp only[B0 hf,Ah,Am,hb,show(true==true)=true from rfl,e1,An];rw[Ad (Fz hf),Ad (λ_=>by rw[hw.len,e2])]
    rfl
   | true=>
    have hs:Hb t (r:Int) ((f:Int),w)=some (.next (((f+1:Nat):Int),w')):=by
     unfold Hb;simp only[B0 hf,Ah,Am,hb,show(true==true)=true from rfl,e1,An];rw[Ad (Fz hf),Ad (λ_=>by rw[hw.len,e2]),w1 (by omega)]
     rfl
    rw[Ap hs];obtain⟨e5,e6⟩:=e3 rfl;refine ih (f+1) w' (by omega) e5 λy hy hy2=>?_
    by_cases e:y=f
    ·subst e;exact e6
    ·exact hd y (by omega) hy2
theorem qO:topsK t t.length=1↔∃ r,r<t.length/\t.getD r 0 = -1/\∀ x,x<t.length->t.getD x 0 = -1->x=r:=by
 have key:∀ n,(topsK t n=0↔∀ x,x<n->t.getD x 0≠-1)/\(topsK t n=1↔∃ r,r<n/\t.getD r 0 = -1/\∀ x,x<n->t.getD x 0 = -1->x=r):=by
  intro n
  induction n with
  | zero=>exact⟨⟨λ_ x hx=>absurd hx (Wz _),λ_=>rfl⟩,⟨λh=>by simp[topsK]at h,λ⟨r,h,_⟩=>absurd h (Wz _)⟩⟩
  | succ n ih=>
   rw[FP]
   by_cases e:t.getD n 0 = -1
   ·rw[if_pos e];refine⟨⟨λh=>by omega,λh=>absurd e (h n (by omega))⟩,⟨λh=>⟨n,by omega,e,λx hx hx1=>?_⟩,λ⟨r,h1,h2,h3⟩=>?_⟩⟩
    ·by_cases ex:x=n
     ·exact ex
     ·grind
    ·have:=ih.1.2 λx hx hx1=>by
      grind
     omega
   ·grind
 exact(key _).2
theorem rightD_iff:M0 t=true↔∃ r,r<t.length/\t.getD r 0 = -1/\VS t r:=by
 unfold M0;rw[A6,all_range,Gq,qO]
 constructor
 ·rintro⟨h1,r,h2,h3,h4⟩;refine⟨r,h2,h3,λf hf hf2=>?_⟩;have:=h1 f hf;unfold pZ at this;rw[FS,Gq,Y6,SM]at this;rcases this with h|h
  ·exact absurd h hf2
  ·obtain⟨x,r',k,e,hk⟩:=pathD_tp.1 h
   cases KN e
   have:=h4 _ hk.tops.1 hk.tops.2;subst this;exact⟨k,hk⟩
 ·rintro⟨r,h2,h3,h4⟩;refine⟨λf hf=>?_,r,h2,h3,λx hx hx1=>?_⟩
  ·unfold pZ;rw[FS,Gq,Y6,SM]
   by_cases e:t.getD f 0 = -2
   ·exact .inl e
   ·obtain⟨k,hk⟩:=h4 f hf e;exact .inr (pathD_tp.2 ⟨f,r,k,rfl,hk⟩)
  ·obtain⟨k,hk⟩:=h4 x hx (by omega);exact((hk.det (.top hx hx1)).1).symm
theorem XR(hR:M0 t=true):∃ r,VS t r:=by obtain⟨r,_,_,h⟩:=rightD_iff.1 hR;exact⟨r,h⟩
theorem pO(ht:t.length<=1000):S9 t=some (M0 t):=by
 unfold S9
 have hroom:1000<=room:=by decide
 rcases m_index t _ ht with⟨r,h1,h2,h3,h4⟩|⟨h1,h2⟩
 ·rw[h4,An,Cd (by omega),Ax,Ad ⟨by omega,by omega,by omega⟩,Am];have hl:=cm ht h1 h2 t.length 0 (List.replicate t.length 0) (by omega) ⟨by simp,λy hy h0=>absurd HZ h0⟩ (λy hy=>absurd hy (Wz _));rw[show(((0:Nat):Int))=0 from rfl]at hl;rw[hl,An]
  by_cases hA:VS t r
  ·rw[if_pos hA,rightD_iff.2 ⟨r,h1,h2,hA⟩]
  ·rw[if_neg hA]
   have :=Bool.eq_false_iff.2 λhR=>by
    obtain⟨r',g1,g2,g3⟩:=rightD_iff.1 hR;obtain⟨k,hk⟩:=g3 r h1 (by omega);have:=(hk.det (.top h1 h2)).1;subst this;exact hA g3
   rw[this]
 ·rw[h2]
  have :=Bool.eq_false_iff.2 λhR=>by
   obtain⟨r',g1,g2,g3⟩:=rightD_iff.1 hR;exact h1 r' g1 g2
  rw[this]
  rfl
def FF(t:List Int)(a:Int):Bool:=decide (0<=a)&&decide (a<(t.length:Int))&&decide (t.getD a.toNat 0≠-2)
theorem PQ(hR:M0 t=true){a:Int}:FF t a=true↔∃ x k r:Nat,a=(x:Int)/\Tp t x r k:=by
 unfold FF;rw[A6,A6,Gq,Gq,Gq]
 constructor
 ·rintro⟨⟨h1,h2⟩,h3⟩;obtain⟨r,hA⟩:=XR hR;obtain⟨k,hk⟩:=hA _ (by omega) h3;exact⟨a.toNat,k,r,(Y5 h1).symm,hk⟩
 ·rintro⟨x,k,r,rfl,h⟩;rw[Am]
  cases h with
  | top _ h2=>omega
  | up _ h2 _=>omega
theorem f6(a:Int):Nn t a=some (FF t a):=by
 unfold Nn Mu FF;rw[An]
 cases h1:decide (0<=a) with
 | false=>rfl
 | true=>
  rw[Ah,Ld]
  cases h2:decide (a<t.length) with
  | false=>rfl
  | true=>
   rw[Ad (λ_=>⟨KK h1,KK h2⟩),Ah,Ld]
   congr 1
   rw[Wy,zzL100,Gq]
theorem tG(ht:t.length<=1000)(a b:Int):Us t a b=some (M0 t&&FF t a&&FF t b):=by
 unfold Us;rw[pO ht]
 cases M0 t with
 | false=>rfl
 | true=>
  simp only[  f6, Ld]
  cases FF t a with
  | false=>rfl
  | true=>grind
theorem ld{a b:Int}(h:(M0 t&&FF t a&&FF t b)=false):Rb t a b = -2:=by
 unfold Rb
 by_cases hR:M0 t=true
 ·rw[if_pos hR];rw[hR]at h
  have hno:∀ c,FF t c=false->E7 t c=[]:=λc hc=>by
   by_cases e:E7 t c=[]
   ·exact e
   ·obtain⟨x,r,k,e1,e2⟩:=pathD_tp.1 e;rw[(PQ hR).2 ⟨x,k,r,e1,e2⟩]at hc;cases hc
  cases ha:FF t a with
  | false=>rw[hno a ha];rfl
  | true=>
   rw[ha]at h;rw[hno b h]
   have:((E7 t a).find? λx=>[].contains x)=none:=List.find?_eq_none.2 λx _=>by simp
   rw[this]
   rfl
 ·rw[if_neg hR]
theorem UZ(ht:t.length<=1000){a b:Int}(h:(M0 t&&FF t a&&FF t b)=true):Rn t a b=some (Rb t a b)/\0<=Rb t a b:=by
 rw[A6,A6]at h;obtain⟨⟨hR,ha⟩,hb⟩:=h;obtain⟨x,k,r,rfl,hx⟩:=(PQ hR).1 ha;obtain⟨y,m,r',rfl,hy⟩:=(PQ hR).1 hb;obtain⟨rr,hA⟩:=XR hR
 have top:∀{x r k},Tp t x r k->r=rr:=λ{x r k} h=>by
  obtain⟨i,hi⟩:=hA r h.tops.1 (by rw[h.tops.2];omega);exact((Tp.top h.tops.1 h.tops.2).det hi).1
 obtain rfl:=top hx;obtain rfl:=top hy;obtain⟨c,h1,h2⟩:=LP ht hx hy;obtain⟨d,h3,h4⟩:=pR hR hx hy;have:=h2.same hx h4;subst this;exact⟨by rw[h1,h3],by omega⟩
theorem wg(ht:t.length<=1000)(a b:Int):Xt t a b=some (Ls t a b):=by
 unfold Xt Ls;rw[tG ht]
 cases h:(M0 t&&FF t a&&FF t b) with
 | false=>
  rw[ld h]
  have:(-2==a&&(-2 !=-2))=false:=by simp
  rw[this]
  rfl
 | true=>
  obtain⟨h1,h2⟩:=UZ ht h;simp only[show(true==true)=true from rfl,Ah,h1,An]
  have:(Rb t a b !=-2)=true:=by rw[zzL100];omega
  rw[this,FV]
end
theorem tY:∀ n:Fin 65,Rl (Ir 1) (Ir ((n.val:Nat):Int))=some (0,((n.val:Nat):Int)):=by decide +kernel
theorem lh{n:Nat}(h:n<=64):Rl (Ir 1) (Ir (n:Int))=some (0,(n:Int)):=tY ⟨n,by omega⟩
theorem dz{v:Int}{n:Nat}(hn:n<=64):∀(m i:Nat) (l:List Int),n-i<=m->1<=i->i<=n->l.length=n->(∀ j,j<i->l.getD j 0=v)->Ac Dl ((i:Int),l)=some (List.replicate n v):=by
 intro m
 induction m with
 | zero=>
  intro i l hm h1 h2 hl hv
  obtain rfl:i=n:=by omega
  exact fin l hl hv
 | succ m ih=>
  intro i l hm h1 h2 hl hv
  by_cases e:i=n
  ·grind
  ·have hs:Dl ((i:Int),l)=some (.next (((i+Nat.min i (n-i):Nat):Int),NV l i (Nat.min i (n-i)) (λj=>l.getD (0+j) 0))):=by
    unfold Dl;simp only[hl,B0 (show i<n by omega),Ah,Am,E8,CD];have hc:(0:Int)<=(i:Int)/\i<=n:=⟨by omega,h2⟩;have hmn:Nat.min i (n-i)<=i:=Nat.min_le_left _ _;rw[Ad hc,Ad hc,He (by omega) (by omega),Int.natCast_add]
   rw[Ap hs];have hmn:Nat.min i (n-i)<=i/\Nat.min i (n-i)<=n-i:=⟨Nat.min_le_left _ _,Nat.min_le_right _ _⟩;have hge:1<=Nat.min i (n-i):=Nat.le_min.2 ⟨h1,by omega⟩;refine ih _ _ (by omega) (by omega) (by omega) (by rw[<- Ek];exact hl) λj hj=>?_;rw[GU _ _ _ _ _ _ (by omega)]
   by_cases hji:i<=j/\j<i+Nat.min i (n-i)
   ·grind
   ·grind
where
 fin {v:Int} {i:Nat} (l:List Int) (hl:l.length=i) (hv:∀ j,j<i->l.getD j 0=v):Ac Dl ((i:Int),l)=some (List.replicate i v):=by
  apply Ak
  unfold Dl;simp only[hl,C9,Ax]
  congr 2
  refine CF (by simp[hl]) λj h1 h2=>?_;rw[<- Ab _ _ 0 h1,hv j (by omega)]
  simp
theorem pP{v:Int}{n:Nat}(h1:1<=n)(hn:n<=64):In [v] (n:Int)=some (List.replicate n v):=by
 have hroom:64<=room:=by decide
 unfold In;rw[Cd (by omega),Ax,An]
 show Option.bind (Rl (Ir 1) _) _=_
 rw[lh hn,An];have e1:decide (0<0)=false:=rfl;have e2:decide (9223372036854775807<(n:Int))=false:=Cd (by omega);simp only[ e2,Ax];have ew:w64 n=n:=He (by omega) (by omega);rw[ew,Ad ⟨by omega,by omega,by omega⟩,Am,N5,CD];have em:Nat.min [v].length n=1:=Nat.min_eq_left h1;rw[em,dz hn n 1 _ (by omega) (zzL6 _) h1 (by rw[<- Ek];simp) (λj hj=>?_)]
 ·rfl
 ·rw[GU _ _ _ _ _ _ (by simp;omega),if_pos ⟨by omega,by omega⟩]
  have:j-0=0:=by omega
  rw[this];rfl
section
variable {S:Nat->List Nat} {r n:Nat} {P:List Nat}
theorem Inv.tp{at_:Nat->Nat}{t:List Int}(h:Inv S r n at_ (Bs t))(hl:t.length=n):∀ m x,at_ x<=m->x<n->Bs t x≠-2->∃ k,Tp t x r k:=by
 intro m
 induction m with
 | zero=>
  intro x hm hx hp;rcases h.kind x hx with h1|h1|⟨z,hz⟩
  ·exact absurd h1 hp
  ·subst h1;exact⟨0,.top (by omega) h.top⟩
  ·obtain⟨_,_,h3,_⟩:=h.up x hx z hz;omega
 | succ m ih=>
  intro x hm hx hp;rcases h.kind x hx with h1|h1|⟨z,hz⟩
  ·exact absurd h1 hp
  ·subst h1;exact⟨0,.top (by omega) h.top⟩
  ·obtain⟨z1,z2,z3,_⟩:=h.up x hx z hz;obtain⟨k,hk⟩:=ih z (by omega) z1 z2;exact⟨k+1,.up (by omega) hz hk⟩
def GC(t l:List Int)(i:Nat)(v:Int):Prop:=
 (v = -2/\∀ j,j<i->Bs t (l.getD j 0).toNat = -2) \/
 ∃ z:Nat,v=(z:Int)/\z<t.length/\Bs t z≠-2/\(∀ w,UpTo (Bs t) z w↔∀ j,j<i->Bs t (l.getD j 0).toNat≠-2->UpTo (Bs t) (l.getD j 0).toNat w)
theorem aa{at_:Nat->Nat}{t l:List Int}(ht:t.length<=64)(hll:l.length<=64)(h:Inv S r n at_ (Bs t))(hl:t.length=n)(hin:∀ x∈l,0<=x/\x<(n:Int)):∀(k i:Nat) (v:Int),i+k=l.length->GC t l i v->
  ∃ v',Ac (F7 t l) (v,(i:Int))=some v'/\GC t l l.length v':=by
 intro k
 induction k with
 | zero=>
  intro i v hi hv
  obtain rfl:i=l.length:=by omega
  refine⟨v,Ak ?_,hv⟩;unfold F7;simp only[C9,Ax]
 | succ k ih=>
  intro i v hi hv
  have hil:i<l.length:=by omega
  obtain⟨x0,x1⟩:=hin _ (Ag (d:=0) hil);have hxe:(((l.getD i 0).toNat:Nat):Int)=l.getD i 0:=Y5 x0;have hxin:A2 (l.getD i 0) t.length:=yp x0 (by omega)
  have next:∀ v',F7 t l (v,(i:Int))=some (.next (v',((i+1:Nat):Int)))->GC t l (i+1) v'->∃ v',Ac (F7 t l) (v,(i:Int))=some v'/\GC t l l.length v':=λv' hs hv'=>by
   rw[Ap hs];exact ih (i+1) v' (by omega) hv'
  by_cases hp:Bs t (l.getD i 0).toNat = -2
  ·have hb:((t.getD (l.getD i 0).toNat 0:Int)==-2)=true:=zzL63.2 hp;refine next v ?_ ?_
   ·unfold F7;simp only[B0 hil,Ah,Am,hb];rw[Ad (Fz hil),Ad hxin,An,w1 (by omega)]
   ·have hstep:∀ w,(∀ j,j<i->Bs t (l.getD j 0).toNat≠-2->UpTo (Bs t) (l.getD j 0).toNat w)↔∀ j,j<i+1->Bs t (l.getD j 0).toNat≠-2->UpTo (Bs t) (l.getD j 0).toNat w:=λw=>by
     refine⟨λhj j hj1 hj2=>?_,λhj j hj1=>hj j (by omega)⟩
     by_cases e:j=i
     ·subst e;exact absurd hp hj2
     ·exact hj j (by omega) hj2
    rcases hv with⟨h1,h2⟩|⟨z,h1,h2,h3,h4⟩
    ·refine .inl ⟨h1,λj hj=>?_⟩
     by_cases e:j=i
     ·subst e;exact hp
     ·exact h2 j (by omega)
    ·exact .inr ⟨z,h1,h2,h3,λw=>by rw[h4 w,hstep w]⟩
  ·have hb:((t.getD (l.getD i 0).toNat 0:Int)==-2)=false:=zzL30.2 hp;rcases hv with⟨h1,h2⟩|⟨z,h1,h2,h3,h4⟩
   ·subst h1;refine next (l.getD i 0) ?_ (.inr ⟨(l.getD i 0).toNat,hxe.symm,by omega,hp,λw=>⟨λhw j hj hj2=>?_,λhw=>hw i (by omega) hp⟩⟩)
    ·unfold F7;simp only[B0 hil,Ah,Am,hb,Ax,show((-2:Int)==-2)=true from rfl];rw[Ad (Fz hil),Ad hxin,An,w1 (by omega)]
    ·by_cases e:j=i
     ·subst e;exact hw
     ·exact absurd (h2 j (by omega)) hj2
   ·subst h1;have hb2:((z:Int)==-2)=false:=zzL30.2 (by omega);obtain⟨k1,hk1⟩:=h.tp hl _ z (zzL6 _) (by omega) h3;obtain⟨k2,hk2⟩:=h.tp hl _ (l.getD i 0).toNat (zzL6 _) (by omega) hp;obtain⟨c,c1,c2⟩:=LP (by omega) hk1 hk2;have hcz:=(c2 c).1 (.refl _);obtain⟨jc,_,hjc,_⟩:=hk1.on hcz.1
    have hcp:Bs t c≠-2:=by
     show t.getD c 0≠-2
     cases hjc with
     | top _ h=>omega
     | up _ h _=>omega
    refine next (c:Int) ?_ (.inr ⟨c,rfl,hjc.lt,hcp,λw=>?_⟩)
    ·rw[hxe]at c1;unfold F7;simp only[B0 hil,Ah,Am,hb,Ax,hb2,c1,An];rw[Ad (Fz hil),Ad hxin,An,w1 (by omega)]
    ·rw[c2 w,h4 w];refine⟨λ⟨a1,a2⟩ j hj hj2=>?_,λha=>⟨λj hj=>ha j (by omega),ha i (by omega) hp⟩⟩
     by_cases e:j=i
     ·subst e;exact a2
     ·exact a1 j (by omega) hj2
theorem lV{at_:Nat->Nat}{t l:List Int}(ht:t.length<=64)(hll:l.length<=64)(h:Inv S r n at_ (Bs t))(hl:t.length=n)(hin:∀ x∈l,0<=x/\x<(n:Int)) :
  ∃ v,Mv t l=some v/\GC t l l.length v:=by
 obtain⟨v,h1,h2⟩:=aa ht hll h hl hin l.length 0 _ (by omega) (.inl ⟨rfl,λj hj=>absurd hj (Wz _)⟩);refine⟨v,?_,h2⟩;unfold Mv;rw[show((0:Int))=(0:Nat) from rfl,h1]
 rfl
end
section
variable {L:List (List Int)} (hm:Mm L=true) {r:Nat} {P:List Nat}
include hm
theorem qH{p y:Nat}(hp:p<L.length):y∈sN L p↔Yu L p y=true:=by
 rw[o5];obtain⟨_,_,h3⟩:=mayS_iff.1 hm
 constructor
 ·intro h;obtain⟨x,hx,rfl⟩:=zzL21.1 h;have:=ah (h3 p hp) hx;rw[Y5 this.1];exact hx
 ·intro h;exact zzL21.2 ⟨_,h,Am y⟩
theorem BL{y:Nat}(hy:y<L.length){x:Int}:x∈(Dp L).getD y []↔∃ p:Nat,x=(p:Int)/\p<L.length/\y∈sN L p:=by
 rw[DM hy];unfold J4;rw[dJ]
 constructor
 ·rintro⟨k,h1,h2,h3⟩;exact⟨k,h1,h2,(qH hm h2).2 h3⟩
 ·rintro⟨k,h1,h2,h3⟩;exact⟨k,h1,h2,(qH hm h2).1 h3⟩
theorem ZZ(o:Ordered (sN L) r L.length P){t:List Int}{i:Nat}(h:Ready (sN L) r L.length P t i)(hi:i<P.length) :
  Mv t ((Dp L).getD (P.getD i 0) [])=some (Pi (sN L) L.length t (P.getD i 0):Int):=by
 obtain⟨hL1,hL64,_⟩:=mayS_iff.1 hm;have hyn:P.getD i 0<L.length:=o.lt (N6 _ (V6 hi))
 have hlen:((Dp L).getD (P.getD i 0) []).length<=64:=by
  rw[DM hyn];have:=Yb L L.length (P.getD i 0);omega
 obtain⟨v,h1,h2⟩:=lV (by rw[h.len];exact hL64) hlen h.inv h.len λx hx=>by
  obtain⟨p,rfl,hp,_⟩:=(BL hm hyn).1 hx;omega
 rw[h1];have hb:=h.best o hi
 have mem:∀ p,p<L.length->P.getD i 0∈sN L p->∃ j,j<((Dp L).getD (P.getD i 0) []).length/\(((Dp L).getD (P.getD i 0) []).getD j 0).toNat=p:=λp hp hy=>by
  obtain⟨j,hj,e⟩:=G6 ((BL hm hyn).2 ⟨p,rfl,hp,hy⟩);exact⟨j,hj,by rw[Ab _ _ _ hj,e,Am]⟩
 have mem':∀ j,j<((Dp L).getD (P.getD i 0) []).length->(((Dp L).getD (P.getD i 0) []).getD j 0).toNat<L.length/\P.getD i 0∈sN L (((Dp L).getD (P.getD i 0) []).getD j 0).toNat:=λj hj=>by
  obtain⟨p,e,hp,hy⟩:=(BL hm hyn).1 (Ag (d:=(0:Int)) hj);rw[e,Am];exact⟨hp,hy⟩
 rcases h2 with⟨rfl,h3⟩|⟨z,rfl,hz,hz2,h4⟩
 ·obtain⟨p,hp,hyp,hp2,_⟩:=hb.fwd;obtain⟨j,hj,e⟩:=mem p hp hyp;exact absurd (by rw[<- e];exact h3 j hj) hp2
 ·have hbest:eh (sN L) L.length (Bs t) (P.getD i 0) z:=λw=>by
   rw[h4 w];refine⟨λha p hp hyp hp2=>?_,λha j hj hj2=>?_⟩
   ·obtain⟨j,hj,e⟩:=mem p hp hyp;have:=ha j hj (by rw[e];exact hp2);rwa[e]at this
   ·grind
  rw[h.best_eq o hi (by rw[<- h.len];exact hz) hz2 hbest]
end
theorem dS{P:List Nat}{i:Nat}(h:i<P.length):(V1 P).getD i 0=((P.getD i 0:Nat):Int):=by
 unfold V1;rw[Ab _ _ _ (by simpa using h),Ab _ _ _ h,List.getElem_map]
 rfl
theorem eD{t:List Int}{x:Nat}{v:Int}(hx:x<t.length)(h:t.getD x 0=v):t.set x v=t:=by
 subst h;rw[Ab _ _ _ hx];exact List.set_getElem_self hx
section
variable {L:List (List Int)} (hm:Mm L=true) {r:Nat} {P:List Nat} (o:Ordered (sN L) r L.length P)
include hm o
theorem gt{t0:List Int}(h:Ready (sN L) r L.length P t0 0):∀(k i:Nat) (b:Bool),i+k=P.length->
  ∃ b',Ac (Fm (Kc L) (V1 (r::P))) (b,(i:Int),Zy (sN L) L.length P t0 i)=some (b',Zy (sN L) L.length P t0 P.length) /\
   (b'=false↔b=false/\∀ j,i<=j->j<P.length->Bs (Zy (sN L) L.length P t0 j) (P.getD j 0)=(Pi (sN L) L.length (Zy (sN L) L.length P t0 j) (P.getD j 0):Int)):=by
 have hP64:P.length<=64:=by
  have h1:=Tk L.length (r::P) o.nodup λx hx=>o.lt hx;have h2:=(mayS_iff.1 hm).2.1;simp at h1;omega
 have hdl:(V1 (r::P)).drop (1:Int).toNat=V1 P:=rfl
 have hlen:(V1 P).length=P.length:=by simp[V1]
 intro k
 induction k with
 | zero=>
  intro i b hi
  obtain rfl:i=P.length:=by omega
  refine⟨b,Ak ?_,λh=>⟨h,λj h1 h2=>by omega⟩,λh=>h.1⟩;unfold Fm;simp only[hdl,hlen,C9,Ax]
 | succ k ih=>
  intro i b hi
  have hil:i<P.length:=by omega
  have rd:=h.round o i (by omega);have hma:=ZZ hm o rd hil;have hyn:P.getD i 0<L.length:=o.lt (N6 _ (V6 hil))
  have hyt:P.getD i 0<(Zy (sN L) L.length P t0 i).length:=by rw[rd.len];exact hyn
  have hpred:(Kc L).Pred=Dp L:=rfl
  by_cases he:Bs (Zy (sN L) L.length P t0 i) (P.getD i 0)=(Pi (sN L) L.length (Zy (sN L) L.length P t0 i) (P.getD i 0):Int)
  ·have hb:((Pi (sN L) L.length (Zy (sN L) L.length P t0 i) (P.getD i 0):Int)!=(Zy (sN L) L.length P t0 i).getD (P.getD i 0) 0)=false:=by
    have:(Zy (sN L) L.length P t0 i).getD (P.getD i 0) 0=_:=he;rw[this];simp
   have hnx:Zy (sN L) L.length P t0 (i+1)=Zy (sN L) L.length P t0 i:=eD hyt he
   have hs:Fm (Kc L) (V1 (r::P)) (b,(i:Int),Zy (sN L) L.length P t0 i)=some (.next (b,((i+1:Nat):Int),Zy (sN L) L.length P t0 (i+1))):=by
    unfold Fm;simp only[hdl,hlen,B0 hil,Ah,Am,dS hil,hpred,hma,An,hb,Ax];rw[Ad (Fz hil),Ad (Fz (by rw[Po];exact hyn)),Ad (Fz hyt),An,w1 (by omega),hnx]
   obtain⟨b',e1,e2⟩:=ih (i+1) b (by omega);refine⟨b',by rw[Ap hs,e1],λh=>?_,λ⟨h1,h2⟩=>e2.2 ⟨h1,λj hj=>h2 j (by omega)⟩⟩;obtain⟨h1,h2⟩:=e2.1 h;refine⟨h1,λj hj1 hj2=>?_⟩
   by_cases e:j=i
   ·subst e;exact he
   ·exact h2 j (by omega) hj2
  ·have hb:((Pi (sN L) L.length (Zy (sN L) L.length P t0 i) (P.getD i 0):Int)!=(Zy (sN L) L.length P t0 i).getD (P.getD i 0) 0)=true:=by
    rw[zzL100];exact λe=>he e.symm
   have hs:Fm (Kc L) (V1 (r::P)) (b,(i:Int),Zy (sN L) L.length P t0 i)=some (.next (true,((i+1:Nat):Int),Zy (sN L) L.length P t0 (i+1))):=by
    unfold Fm;simp only[hdl,hlen,B0 hil,Ah,Am,dS hil,hpred,hma,An,hb];rw[Ad (Fz hil),Ad (Fz (by rw[Po];exact hyn)),Ad (Fz hyt),Ad (Fz hyt),An,w1 (by omega)]
    rfl
   obtain⟨b',e1,e2⟩:=ih (i+1) true (by omega);refine⟨b',by rw[Ap hs,e1],λh=>?_,λ⟨h1,h2⟩=>absurd (h2 i (zzL6 _) hil) he⟩;obtain⟨h1,_⟩:=e2.1 h;cases h1
theorem mF{t0:List Int}(h:Ready (sN L) r L.length P t0 0):∃ b,Ac (Fm (Kc L) (V1 (r::P))) (false,(0:Int),t0)=some (b,Zy (sN L) L.length P t0 P.length)/\(b=false↔AG (sN L) L.length P t0):=by
 obtain⟨b,e1,e2⟩:=gt hm o h P.length 0 _ (by omega);refine⟨b,e1,e2.trans ⟨λ⟨_,h2⟩=>?_,λhs=>⟨rfl,λj _ hj=>?_⟩⟩⟩
 ·have key:∀ j,j<=P.length->Zy (sN L) L.length P t0 j=t0:=by
   intro j
   induction j with
   | zero=>intro _;rfl
   | succ j ih=>
    intro hj;have ih':=ih (by omega);have rd:=h.round o j (by omega)
    have hyn:P.getD j 0<(Zy (sN L) L.length P t0 j).length:=by rw[rd.len];exact o.lt (N6 _ (V6 (by omega)))
    have:Zy _ _ P t0 (j+1)=Zy _ _ P t0 j:=eD hyn (h2 j (P0 _) (by omega));rw[this,ih']
  intro i hi;have:=h2 i (P0 _) hi;rwa[key i (by omega)]at this
 ·rw[BW o h.len hs j (by omega)];exact hs j hj
open Classical in
theorem j6(j:Nat):Hx (Kc L) (V1 (r::P),UH (sN L) L.length P (Jb L.length r) j)=some (if AG (sN L) L.length P (UH (sN L) L.length P (Jb L.length r) j) then .done (UH (sN L) L.length P (Jb L.length r) (j+1)) else .next (V1 (r::P),UH (sN L) L.length P (Jb L.length r) (j+1))):=by
 obtain⟨b,e1,e2⟩:=mF hm o (Ready.rounds o j);have hL2:Vl (Kc L) (V1 (r::P))=Fm (Kc L) (V1 (r::P)):=rfl
 have hlen:(0:Int)<=1/\(1:Int)<=((V1 (r::P)).length:Int):=by simp[V1];omega
 unfold Hx;simp only[hL2,e1,An];rw[Ad hlen]
 cases b with
 | false=>rw[if_pos (e2.1 rfl)];rfl
 | true=>rw[if_neg (λh=>by have:=e2.2 h;cases this)];rfl
theorem eK:∃ J,AG (sN L) L.length P (UH (sN L) L.length P (Jb L.length r) J)/\Ac (Hx (Kc L)) (V1 (r::P),Jb L.length r)=some (UH (sN L) L.length P (Jb L.length r) J):=by
 obtain⟨J,h1,h2⟩:=u4 o;refine⟨J,h2,?_⟩
 have key:∀ d j,j+d=J->Ac (Hx (Kc L)) (V1 (r::P),UH (sN L) L.length P (Jb L.length r) j)=some (UH (sN L) L.length P (Jb L.length r) J):=by
  intro d
  induction d with
  | zero=>
   intro j hj
   obtain rfl:j=J:=by omega
   have hF:=j6 hm o j;rw[if_pos h2]at hF;rw[Ak hF];have:UH _ _ P _ (j+1)=UH _ _ P _ j:=BW o (Ready.rounds o j).len h2 _ (zzL6 _);rw[this]
  | succ d ih=>
   intro j hj;have hF:=j6 hm o j;rw[if_neg (h1 j (by omega))]at hF;rw[Ap hF];exact ih _ (by omega)
 exact key J 0 (by omega)
end
theorem wh(g:TGraph)(r:Int)(h1:Fits g.Succ)(h2:Fits g.Pred):Tv g r=some (MJ g r):=by
 unfold MJ
 by_cases hc:DW g=true/\0<=r/\r<g.Succ.length
 ·rw[if_pos hc];obtain⟨hG,h0,hlt⟩:=hc;obtain⟨hm,hg⟩:=ja hG;obtain⟨hL1,hL64,_⟩:=mayS_iff.1 hm
  have hr:r.toNat<g.Succ.length:=by omega
  obtain⟨O,hO⟩:=Ord.exist (Wm hm) hr;have hord:=(ZY g h1 trivial r).1 hG h0 hlt O hO;obtain⟨P,rfl,o⟩:=hO.ordered hr (Wm hm);obtain⟨J,hJ,hl⟩:=eK hm o;have ht:=(MI o hJ).eq hm hr o;rw[ht]at hl;have hlen:(((V1 (r.toNat::P)).length:Int)==0)=false:=zzL30.2 (by simp[V1];omega)
  have hlen2:(0:Int)<=1/\(1:Int)<=(V1 (r.toNat::P)).length:=by simp[V1];omega
  have hL2:Vl g _=Fm g (V1 (r.toNat::P)):=rfl
  have hst:(Rv (Hx g (V1 (r.toNat::P),Jb g.Succ.length r.toNat)) (Hx g))=some (Y3 g.Succ r.toNat):=by
   rw[ME,hg];exact hl
  unfold Tv;rw[hord,An,  pP hL1 hL64,An,Ad (yp h0 (by simpa using hlt)),Ad hlen2]
  have:(Hx g (V1 (r.toNat::P),Jb g.Succ.length r.toNat))=(Ac (Fm g (V1 (r.toNat::P))) (false,0,(List.replicate g.Succ.length (-2)).set r.toNat (-1))).bind (λx22=>(match x22 with|(b10,l11)=>(bif b10 then(some (.next (V1 (r.toNat::P),l11))) else(some (.done l11))))):=by
   unfold Hx Jb;simp only[hL2];rw[Ad hlen2]
  rw[this]at hst;refine Eq.trans ?_ (Bj (λx =>x.bind λx42=>some x42) hst)
  rfl
 ·rw[if_neg hc];unfold Tv
  have:(DW g&&(decide (0<=r)&&decide (r<g.Succ.length)))=false:=by
   grind
  rw[(ZY g h1 trivial r).2 this]
  rfl
theorem wF{α:Type}(l:List α)(d:α)(p:α->Bool){X:Type}(f:Int->Option (LR Int X))(yes no:X)(hl:l.length<9223372036854775808)(hk:∀ i:Nat,i<l.length->f i=some (bif p (l.getD i d) then .next (w64 ((i:Int)+1)) else .done no))
  (he:f l.length=some (.done yes)):Ac f (0:Int)=some (bif l.all p then yes else no):=by
 have:=Hj l d p f yes no (λi hi hp=>by rw[hk i hi,hp,Ah,A0 hi hl]) (λi hi hp=>by grind) he l.length 0 (by omega);rwa[N7]at this
theorem wR(f:TFunc)(hf:VT f)(l:Int)(t:List Int)(u:List Bk):Ke f l t u=some (bif Qv f then 0 else 4,f,l,t,u):=by
 unfold Ke Nm;rw[Aau f hf]
 cases Qv f<;>rfl
theorem lF(phis:List Bc)(l:List Int)(h1:phis.length<9223372036854775808)(h2:l.length<4611686018427387904):Pa phis l=some (phis.all (Jm l)):=by
 unfold Pa
 rw[wF _ _ (Jm l) _ (.inl ()) _ h1 (λi hi=>by
  unfold Pl
  have hd:decide ((i:Int)<phis.length)=true:=by simpa using hi
  simp only[hd, Aa (Ai hi),C8,ZW _ _ h2, Jm]
  cases decide ((phis.getD i _).From=l) with
  | false=>rfl
  | true=>
   grind) (by unfold Pl;simp)]
 cases phis.all _<;>rfl
def fQ(e:On):Bool:=!((e.Kind==1 || e.Kind==3)&&(e.Arg !=0))
theorem k9{n:Nat}(e:On)(hk:Ka e n=true):O9 e=some (fQ e):=by
 have h4 :=by
  have:=(A6 _ _▸hk).1;unfold Yv at this;simp only[A6,Gq]at this;omega
 unfold O9 fQ
 have:e.Kind=0\/e.Kind=1\/e.Kind=2\/e.Kind=3:=by omega
 rcases this with h|h|h|h<;>rw[h]<;>cases hb:(e.Arg==0)<;>simp[hb,bne]
theorem gY{L:List (List Int)}(hm:Mm L=true){P:List Nat}(h0:0<L.length)(o:Ord (sN L) 0 P):decide (P.length<L.length) = !(List.range L.length).all λi=>(Q0 L).getD i false:=by
 have hin:∀ x∈P,x<L.length:=λx hx=>(by obtain⟨Q,rfl,oo⟩:=o.ordered h0 (Wm hm);exact oo.lt hx)
 have hr:∀ z,(Q0 L).getD z _=true↔z∈P:=λz=>by
  rw[o.mem z];exact BM (Wm hm) h0 z
 cases ha:(List.range _).all _ with
 | true=>
  have:=((List.perm_ext_iff_of_nodup o.nodup List.nodup_range).2 λi=>⟨λh=>zzL45.2 (hin i h),λh=>(hr i).1 (zzL26.1 ha i h)⟩).length_eq;rw[Vb]at this
  simp;omega
 | false=>
  obtain⟨i,hi,hni⟩:∃ i,i<L.length/\i∉P:=SL λhc=>by
   grind
  have :=Tk L.length _ (zzL113.2 ⟨hni,o.nodup⟩) (λx hx=>by grind);simp at this ⊢;omega
theorem oQ {f : TFunc} (hf : OkF f) (l : Int) (t : List Int) (u : List Bk) : ∃ t', Iz f l t u = some (bif Fe f then 0 else 5, f, l, t', u) ∧ (Fe f = true → t' = B7 f) := by
  have hmax : f.Blocks.length ≤ maxLen := by have := hf.blocks; have : (64 : Nat) ≤ maxLen := by decide
                                             omega
  unfold Iz; rw [yy f hmax, An]
  cases hs : Gp f with
  | false => exact ⟨t, by unfold Fe; rw [hs]; rfl, fun h => by unfold Fe at h; rw [hs] at h; cases h⟩
  | true =>
    have hm := Jo hs; have hlen := Lv f
    have hpos : 0 < (A1 f).length := by have := (shape_iff.1 hs).1.1; omega
    obtain ⟨h1, h2⟩ := HC hm; obtain ⟨P, hP⟩ := Ord.exist (Wm hm) hpos; have ho := (ZY (Kc (A1 f)) h1 trivial 0).1 (QL hm) (by omega) (by show (0 : Int) < ((A1 f).length : Int); omega) P hP; have hfull := gY hm hpos hP; simp only [Ah,  show ((0 : Int) != 0) = false from rfl, Ax, ho, An, show (false == false) = true from rfl]
    have e1 : decide (((V1 P).length : Int) < (f.Blocks.length : Int)) = decide (P.length < (A1 f).length) := by
      rw [hlen]; apply zzL77.2; simp [V1]
    rw [e1, hfull]
    have hsd : Fe f = (((List.range f.Blocks.length).all fun i => (Q0 (A1 f)).getD i false) && (List.range f.Blocks.length).all fun i => fQ (f.Blocks.getD i default).End && (f.Blocks.getD i default).Phis.all (Jm ((Dp (A1 f)).getD i []))) := by
      unfold Fe; rw [hs, Ld]
      have : ∀ (n : Nat) (p q : Nat → Bool), ((List.range n).all fun i => p i && q i) = ((List.range n).all p && (List.range n).all q) := fun n p q => by
        grind
      rw [← this]
      congr 1
      funext i
      show (_ && _ && _) = _
      rw [Bool.and_assoc]
      rfl
    rw [hlen]; rw [hsd]
    cases hr : (List.range f.Blocks.length).all _ with
    | false => exact ⟨t, rfl, fun h => by cases h⟩
    | true =>
      refine ⟨B7 f, ?_, fun _ => rfl⟩; rw [Dr, Ax, wh _ 0 h1 h2, An, Ld]; have hp := Yc hm
      have hpl : (Kc (A1 f)).Pred.length = f.Blocks.length := by rw [← hlen]; exact Po _
      have key : Ac (Du f l u (Kc (A1 f), 0) (B7 f)) (0 : Int) = some (bif (List.range f.Blocks.length).all (fun i => fQ (f.Blocks.getD i default).End && (f.Blocks.getD i default).Phis.all (Jm ((Dp (A1 f)).getD i []))) then .inl () else .inr ((5 : Int), f, l, B7 f, u)) := by
        have hk : ∀ i : Nat, i < f.Blocks.length → Du f l u (Kc (A1 f), 0) (B7 f) (i : Int) = some (bif (fQ (f.Blocks.getD i default).End && (f.Blocks.getD i default).Phis.all (Jm ((Dp (A1 f)).getD i []))) then .next ((i : Int) + 1) else .done (.inr ((5 : Int), f, l, B7 f, u))) := fun i hi => by
          have hB := hf.block _ (Ag (d := (default : Ae)) hi); have hpi : A2 (i : Int) (Kc (A1 f)).Pred.length := Ai (by omega); have hpg : ((Kc (A1 f)).Pred.getD i []).length ≤ 64 := hp.2 _ (Ag (by rw [Po]; omega)); unfold Du
          have hd : decide ((i : Int) < (f.Blocks.length : Int)) = true := by simpa using hi
          simp only [hd, Ah, Aa (Ai hi), Aa hpi, C8, lF (f.Blocks.getD i default).Phis ((Kc (A1 f)).Pred.getD i []) (by have := hB.phis; omega) (by omega), An]; have ha  := k9 (n := f.Blocks.length) (f.Blocks.getD i default).End ((shape_iff.1 hs).2 i hi); rw [ha, A0 hi (by have := hf.blocks; omega)]
          show _ = some (bif (fQ (f.Blocks.getD i default).End && (f.Blocks.getD i default).Phis.all (Jm ((Kc (A1 f)).Pred.getD i []))) then _ else _)
          cases (f.Blocks.getD i default).Phis.all _ <;> cases fQ (f.Blocks.getD i default).End <;> rfl
        exact JI _ _ _ _ _ (fun i hi hp => by rw [hk i hi, hp]; rfl) (fun i hi hp => by rw [hk i hi, hp]; rfl) (by unfold Du; simp)
      show ((Ac (Du f l u (Kc (A1 f), 0) (B7 f)) (0 : Int)).bind _) = _
      rw [key, An]
      cases (List.range f.Blocks.length).all _ <;> rfl
theorem wM(o:Bz)(l:Int)(h0:0<=l)(h2:l<=2)(hk:Gr o=true):S8 o l=some (!decide (HH l<o.Kind)&&!(decide (l<2)&&decide (1<o.Lanes))):=by
 have hl:=pG hk
 have hK :=by
  simp only[Gr,A6]at hk;have:=hk.1.2.1.1.1;unfold cl at this;simp only[A6,Gq]at this;omega
 unfold S8 HH
 have:l=0\/l=1\/l=2:=by omega
 rcases this with rfl|rfl|rfl
 ·have ha:decide (o.Kind<=17) = !decide (17<o.Kind):=by grind
  have hb:(o.Lanes==1) = !decide (1<o.Lanes):=by grind
  show some _=some (!decide (17<o.Kind)&&!(true&&decide _))
  rw[ha,hb]
  cases decide (17<o.Kind)<;>cases decide (1<o.Lanes)<;>rfl
 ·have ha:decide (o.Kind<=20) = !decide (20<o.Kind):=by grind
  have hb:(o.Lanes==1) = !decide (1<o.Lanes):=by grind
  show some _=some (!decide (20<o.Kind)&&!(true&&decide _))
  rw[ha,hb]
  cases decide (20<o.Kind)<;>cases decide (1<o.Lanes)<;>rfl
 ·grind
theorem lE(o:Bz)(ho:bm o)(f:TFunc)(l:Int)(h0:0<=l)(h2:l<=2)(t:List Int)(u:List Bk):Ia o f l t u=some (K2 l o,f,l,t,u):=by
 unfold Ia K2;rw[PW o ho,An]
 cases hk:Gr o with
 | false=>rfl
 | true=>
  rw[show(true==true)=true from rfl,Ah,wM o l h0 h2 hk,An,Ah,Ld]
theorem sY(b:Ae){f:TFunc}(hf:OkF f)(hb:b∈f.Blocks)(l:Int)(h0:0<=l)(h2:l<=2)(t:List Int)(u:List Bk):L9 b.Ops f l t u=some (b.Ops.all (K2 l),f,l,t,u):=by
 have hB:=hf.block b hb
 have key:∀ k i ,i+k=b.Ops.length->Ac (Hk b.Ops) (i,f.Params,f.Ret,f.Blocks,l,t,u)=some (bif (b.Ops.drop i).all (K2 l) then .inl (f.Params,f.Ret,f.Blocks,l,t,u) else .inr (false,f,l,t,u)):=by
  intro k
  induction k with
  | zero=>
   intro i h
   obtain rfl:i=b.Ops.length:=by omega
   rw[Ak (x:=.inl (f.Params,f.Ret,f.Blocks,l,t,u)) (by unfold Hk;simp)]
   simp
  | succ k ih=>
   intro i h
   have hi:i<b.Ops.length:=by omega
   have hd:decide (i<(b.Ops.length:Int))=true:=by simpa using hi
   have hdr:b.Ops.drop i=b.Ops.getD i default::b.Ops.drop (i+1):=by simp_all
   have hx:=lE (b.Ops.getD i default) (lp hf hb (Ag hi)) f l h0 h2 t u;rw[hdr,Vw]
   cases ho:K2 l _ with
   | true=>
    rw[ho]at hx
    rw[Ap (s':=(((i+1:Nat):Int),f.Params,f.Ret,f.Blocks,l,t,u)) (by
     unfold Hk;simp only[hd, Aa (Ai hi),C8,hx,   A0 hi (by have:=hB.ops;omega)]
     rfl),ih _ (by omega),Ld]
   | false=>
    rw[ho]at hx
    rw[Ak (x:=.inr (false,f,l,t,u)) (by
     unfold Hk
     simp only[hd,Ah,Aa (Ai hi),C8,hx,An,J1])]
    rfl
 unfold L9;rw[show(0:Int)=(0:Nat) from rfl,key b.Ops.length 0 (by omega),N7]
 cases b.Ops.all _<;>rfl
theorem oJ(b:Ae)(h:b.Phis.length<9223372036854775808):Ll b.Phis=some (b.Phis.all λp=>widthB p.Bits):=by
 unfold Ll
 rw[wF _ _ (λp=>widthB _) _ (.inl ()) _ h (λi hi=>by
  unfold Ma Rm
  have hd:decide (i<(b.Phis.length:Int))=true:=by simpa using hi
  simp only[hd, Aa (Ai hi),C8,Wr]
  cases widthB _<;>rfl) (by unfold Ma;simp)]
 cases b.Phis.all _<;>rfl
theorem oI(p:List Int)(h:p.length<9223372036854775808):O8 p=some (p.all widthB):=by
 unfold O8
 rw[wF p 0 widthB _ (.inl ()) _ h (λi hi=>by
  unfold Pk
  have hd:decide (i<(p.length:Int))=true:=by simpa using hi
  simp only[hd, Aa (Ai hi),C8,Wr]
  cases widthB _<;>rfl) (by unfold Pk;simp)]
 cases p.all _<;>rfl
theorem ZG(b:Ae){f:TFunc}(hf:OkF f)(hb:b∈f.Blocks)(l:Int)(h0:0<=l)(h2:l<=2)(t:List Int)(u:List Bk):Gt b f l t u=some (E9 l b,f,l,t,u):=by
 unfold Gt E9;rw[oJ b (by have:=(hf.block b hb).phis;omega), sY b hf hb l h0 h2 t u]
 cases(b.Phis.all _)<;>rfl
theorem sf{f:TFunc}(hf:OkF f)(l:Int)(h0:0<=l)(h2:l<=2)(t:List Int)(u:List Bk):Jt f l t u=some (bif M1 f l then 0 else 6,f,l,t,u):=by
 have key:∀ k i ,i+k=f.Blocks.length->Ac (Fl f.Blocks) (i,f.Params,f.Ret,f.Blocks,l,t,u)=some (bif (f.Blocks.drop i).all (E9 l) then .inl (f.Params,f.Ret,f.Blocks,l,t,u) else .inr (false,f,l,t,u)):=by
  intro k
  induction k with
  | zero=>
   intro i h
   obtain rfl:i=f.Blocks.length:=by omega
   rw[Ak (x:=.inl (f.Params,f.Ret,f.Blocks,l,t,u)) (by unfold Fl;simp)]
   simp
  | succ k ih=>
   intro i h
   have hi:i<f.Blocks.length:=by omega
   have hd:decide ((i:Int)<f.Blocks.length)=true:=by simpa using hi
   have hdr:f.Blocks.drop i=f.Blocks.getD i default::f.Blocks.drop (i+1):=by simp_all
   have hx:=ZG (f.Blocks.getD i default) hf (Ag hi) l h0 h2 t u;rw[hdr,Vw]
   cases ho:E9 l _ with
   | true=>
    rw[ho]at hx
    rw[Ap (s':=(((i+1:Nat):Int),f.Params,f.Ret,f.Blocks,l,t,u)) (by
     unfold Fl;simp only[hd, Aa (Ai hi),C8,hx,   A0 hi (by have:=hf.blocks;omega)]
     rfl),ih _ (by omega),Ld]
   | false=>
    rw[ho]at hx
    rw[Ak (x:=.inr (false,f,l,t,u)) (by
     unfold Fl
     simp only[hd,Ah,Aa (Ai hi),C8,hx,An,J1])]
    rfl
 have hall:Js f.Blocks f l t u=some (f.Blocks.all (E9 l),f,l,t,u):=by
  unfold Js;rw[show(0:Int)=(0:Nat) from rfl,key f.Blocks.length 0 (by omega),N7]
  cases f.Blocks.all _<;>rfl
 unfold Jt M1 Nm;rw[oI _ (by have:=hf.few;omega), hall,Wr]
 cases f.Params.all _<;>cases widthB f.Ret<;>cases f.Blocks.all _<;>rfl
def ul(d:Cg):P9:=bif decide (d.Block<0) then⟨0,-1⟩ else⟨d.Block,d.At⟩
def SF(d:Cg):Ay:=⟨d.Shape,ul d⟩
def dv(l:List Cg):List (Int×Ay):=l.map λd=>(d.V,SF d)
def UR(acc:List (Int×Ay))(v:Int):Bool:=(Ec acc v || decide (v<1)) || decide (1023<v)
def Lb:List (Int×Ay)->List Cg->Bool×List (Int×Ay)
 | acc,[]=>(true,acc)
 | acc,d::ds=>bif UR acc d.V then(false,acc) else Lb (Jk acc d.V (SF d)) ds
theorem JB:∀(a b:List Cg) (acc:List (Int×Ay)),Lb acc (a++b)=bif (Lb acc a).1 then Lb (Lb acc a).2 b else Lb acc a
 | [],b,acc=>rfl
 | d::a,b,acc=>by
  rw[CC];simp only[Lb]
  cases UR acc d.V with
  | true=>rfl
  | false =>  exact JB a b _
theorem QM{V:Type}(k:Int):∀ l:List (Int×V),Ec l k=l.any λq=>k==q.1
 | []=>rfl
 | (a,b)::l=>by rw[List.any_cons,<- QM k l];rfl
theorem JN{V:Type}(k:Int)(v:V):∀{l:List (Int×V)},Ec l k=false->Jk l k v=l++[(k,v)]
 | [],_=>rfl
 | (a,b)::l,h=>by
  simp only[Ec,KI]at h;simp only[Jk,h.1,Ax,JN k v h.2,CC]
theorem cK(v:Int)(s:Int×Int)(p:P9)(f:TFunc)(l:Int)(t:List Int)(vs:List (Int×Ay))(u:List Bk) :
  Gu v s p f l t vs u=some (bif UR vs v then(false,f,l,t,u,vs) else(true,f,l,t,u,Jk vs v ⟨s,p⟩)):=by
 unfold Gu UR
 cases Ec vs v<;>cases decide (v<1)<;>cases decide (1023<v)<;>rfl
def tz(f:TFunc)(l:Int)(t:List Int)(u:List Bk)(r:Bool×List (Int×Ay)):(List Int×Int×List Ae×Int×List Int×List Bk×List (Int×Ay)) ⊕ (Bool×TFunc×Int×List Int×List Bk×List (Int×Ay)):=
 bif r.1 then .inl (f.Params,f.Ret,f.Blocks,l,t,u,r.2) else .inr (false,f,l,t,u,r.2)
theorem wP(b:Ae)(h:b.Phis.length<9223372036854775808)(i:Nat)(f:TFunc)(l:Int)(t:List Int)(u:List Bk):∀(k j:Nat) (vs:List (Int×Ay)),j+k=b.Phis.length->
  Ac (Dz (i:Int) b) ((j:Int),f.Params,f.Ret,f.Blocks,l,t,u,vs)=some (tz f l t u (Lb vs ((List.range' j k).flatMap λ(k:Nat)=>[(⟨(b.Phis.getD k default).Dst,i,-1,((b.Phis.getD k default).Bits,1)⟩:Cg)]))):=by
 intro k
 induction k with
 | zero=>
  intro j vs hj
  obtain rfl:j=b.Phis.length:=by omega
  rw[Ak (x:=.inl (f.Params,f.Ret,f.Blocks,l,t,u,vs)) (by unfold Dz;simp)]
  rfl
 | succ k ih=>
  intro j vs hj
  have hi:j<b.Phis.length:=by omega
  have hd:decide (j<(b.Phis.length:Int))=true:=by simpa using hi
  have hx:=cK (b.Phis.getD j default).Dst ((b.Phis.getD j default).Bits,1) ⟨(i:Int),-1⟩ f l t vs u
  have hat:ul ⟨(b.Phis.getD j default).Dst,i,-1,((b.Phis.getD j default).Bits,1)⟩=⟨i,-1⟩:=by   rfl
  rw[ET,MO,List.singleton_append];simp only[Lb]
  cases hb:UR vs _ with
  | true=>
   rw[hb]at hx
   rw[Ak  (by
    unfold Dz Eu;simp only[hd, Aa (Ai hi),C8,An];rw[ hx]
    rfl)]
   rfl
  | false=>
   rw[hb]at hx
   rw[Ap (s':=(((j+1:Nat):Int),f.Params,f.Ret,f.Blocks,l,t,u,Jk vs _ _)) (by
    unfold Dz Eu;simp only[hd, Aa (Ai hi),C8,An];rw[ hx,A0 hi h]
    rfl),ih _ _ (by omega)]
   unfold SF
   rfl
theorem yi{f0:TFunc}(hf:OkF f0){b:Ae}(hb:b∈f0.Blocks)(i:Nat)(f:TFunc)(l:Int)(t:List Int)(u:List Bk):∀(k j:Nat) (vs:List (Int×Ay)),j+k=b.Ops.length->
  Ac (Cr (i:Int) b) ((j:Int),f.Params,f.Ret,f.Blocks,l,t,u,vs)=some (tz f l t u (Lb vs ((List.range' j k).flatMap λ(k:Nat)=>bif decide (0<(H1 (b.Ops.getD k default)).1) then[(⟨(b.Ops.getD k default).Dst,i,k,H1 (b.Ops.getD k default)⟩:Cg)] else[]))):=by
 have hB:=hf.block b hb;intro k
 induction k with
 | zero=>
  intro j vs hj
  obtain rfl:j=b.Ops.length:=by omega
  rw[Ak (x:=.inl (f.Params,f.Ret,f.Blocks,l,t,u,vs)) (by unfold Cr;simp)]
  rfl
 | succ k ih=>
  intro j vs hj
  have hi:j<b.Ops.length:=by omega
  have hd:decide ((j:Int)<(b.Ops.length:Int))=true:=by simpa using hi
  have hg:Qm _=some (H1 (b.Ops.getD j default)):=fq _ (lp hf hb (Ag hi));have hx:=cK (b.Ops.getD j default).Dst (H1 (b.Ops.getD j default)) (⟨(i:Int),(j:Int)⟩:P9) f l t vs u
  have hat:ul (⟨(b.Ops.getD j default).Dst,i,j,H1 (b.Ops.getD j default)⟩:Cg)=⟨(i:Int),(j:Int)⟩:=by unfold ul; rfl
  rw[ET,MO]
  cases hp:decide (0<(H1 _).1) with
  | false=>
   rw[Ax,Y7,<- ih (j+1) vs (by omega),Ap (s':=(((j+1:Nat):Int),f.Params,f.Ret,f.Blocks,l,t,u,vs)) (by
    unfold Cr;simp only[hd,Ah,Aa (Ai hi),C8,hg,An,hp];rw[A0 hi (by have:=hB.ops;omega)]
    rfl)]
  | true=>
   rw[Ah,List.singleton_append];simp only[Lb]
   cases hb:UR vs _ with
   | true=>
    rw[hb]at hx
    rw[Ak  (by
     unfold Cr;simp only[hd,Ah,Aa (Ai hi),C8,hg,An,hp];rw[show(true==true)=true from rfl,Ah, hx]
     rfl)]
    rfl
   | false=>
    rw[hb]at hx
    rw[Ap (s':=(((j+1:Nat):Int),f.Params,f.Ret,f.Blocks,l,t,u,Jk vs _ _)) (by
     unfold Cr;simp only[hd,Ah,Aa (Ai hi),C8,hg,An,hp];rw[show(true==true)=true from rfl,Ah, hx,A0 hi (by have:=hB.ops;omega)]
     rfl),ih (j+1) _ (by omega)]
    unfold SF
    rfl
theorem cL{f:TFunc}(hf:OkF f){b:Ae}(hb:b∈f.Blocks)(i:Nat)(l:Int)(t:List Int)(u:List Bk)(vs:List (Int×Ay)) :
  Hg (i:Int) b f l t vs u=some ((Lb vs (Q9 b i)).1,f,l,t,u,(Lb vs (Q9 b i)).2):=by
 unfold Hg Q9;rw[show 0=((0:Nat):Int) from rfl,wP b (by have:=(hf.block b hb).phis;omega) i f l t u b.Phis.length 0 vs (by omega),An,JB];rw[show(List.range' 0 _).flatMap _=Rz b i by rw[Rz,Si]];unfold tz
 cases h1:(Lb vs _).1 with
 | false=>grind
 | true=>
  simp only[Ah];rw[yi hf hb i f l t u b.Ops.length 0 _ (by omega)];rw[show(List.range' 0 _).flatMap _=Xe b i by rw[Xe,Si]];unfold tz;cases h2:(Lb _ _).1<;>rfl
theorem Wb{l:List Cg}{i:Nat}(hi:i<l.length):Rd l i=true↔valS (l.getD i default).V=true/\∀ j,j<i->(l.getD j default).V≠(l.getD i default).V:=by
 unfold Rd;rw[A6];refine and_congr Iff.rfl ?_;unfold Lo
 cases hx:l.findIdx? _ with
 | none=>
  rw[List.findIdx?_eq_none_iff]at hx;have:=hx _ (Ag (d:=default) hi);simp at this
 | some j=>
  obtain⟨hj,h1,h2⟩:=List.findIdx?_eq_some_iff_getElem.1 hx;simp only[zzL63]
  constructor
  ·grind
  ·intro h
   have hv:(l.getD j default).V=(l.getD i default).V:=by grind
   rcases Nat.lt_trichotomy j i with hlt|rfl|hgt
   ·grind
   ·rfl
   ·grind
theorem tX(l:List Cg)(v:Int):Ec (dv l) v=l.any λd=>v==d.V:=by
 rw[QM,dv,List.any_map];rfl
theorem PG:∀(ds pre:List Cg),(Lb (dv pre) ds).1=(List.range' pre.length ds.length).all (Rd (pre++ds))/\((Lb (dv pre) ds).1=true->(Lb (dv pre) ds).2=dv (pre++ds))
 | [],pre=>by simp[Lb]
 | d::ds,pre=>by
  have hi:pre.length<(pre++d::ds).length:=by simp
  have hg:(pre++d::ds).getD pre.length default=d:=by simp[List.getD]
  have hj:∀ j,j<pre.length->(pre++d::ds).getD j default=pre.getD j default:=λj h=>by grind
  have hok:Rd (pre++d::ds) pre.length = !UR (dv pre) d.V:=by
   rw[Wy,Wb hi,hg];unfold UR valS;rw[tX];simp only[Y6,KI,SM,List.any_eq_false,zzL63,A6,Gq]
   constructor
   ·rintro⟨⟨h1,h2⟩,h3⟩;refine⟨⟨λx hx he=>?_,by omega⟩,by omega⟩;obtain⟨j,hjl,rfl⟩:=G6 hx;have:=h3 j hjl;rw[hj j hjl,Ab _ _ _ hjl]at this;exact this he.symm
   ·grind
  rw[EU,ET,Vw,hok];simp only[Lb]
  cases hb:UR _ d.V with
  | true=>grind
  | false=>
   have hn :=by
    unfold UR at hb;simp only[KI]at hb;exact hb.1.1
   have hs:Jk (dv pre) d.V (SF d)=dv (pre++[d]):=by rw[JN _ _ hn,dv,dv,Wx];rfl
   have:=PG ds (pre++[d]);rw[Fh,ES]at this;rw[ hs,J1];exact this
def pv(f:TFunc)(n:Nat):List (Int×Ay):=(List.range n).map λ(j:Nat)=>((j:Int)+1,⟨(f.Params.getD j 0,1),⟨0,-1⟩⟩)
theorem zL(f:TFunc):pv f f.Params.length=dv (Ra f):=by
 unfold pv dv Ra
 induction List.range _ with
 | nil=>rfl
 | cons a l ih=>rw[Cs, ih];rfl
theorem oP{f:TFunc}(hf:OkF f):∀(k i:Nat),i+k=f.Params.length->Ac (Gv f) ((i:Int),pv f i)=some (pv f f.Params.length):=by
 intro k
 induction k with
 | zero=>
  intro i h
  obtain rfl:i=f.Params.length:=by omega
  exact Ak (by unfold Gv;simp)
 | succ k ih=>
  intro i h
  have hi:i<f.Params.length:=by omega
  have hd:decide ((i:Int)<(f.Params.length:Int))=true:=by simpa using hi
  have hn:Ec (pv f i) ((i:Int)+1)=false:=by
   rw[QM,pv,List.any_map,List.any_eq_false];intro j hj;have:=zzL45.1 hj
   simp;omega
  have hs:Jk (pv f i) ((i:Int)+1) ⟨(f.Params.getD i 0,1),⟨0,-1⟩⟩=pv f (i+1):=by
   rw[JN _ _ hn,pv,pv,W0,Wx];rfl
  rw[Ap  (by
   unfold Gv Eu;simp only[hd,Ah,Aa (Ai hi),C8,An,A0 hi (by have:=hf.few;omega),hs]
   rfl)]
  exact ih (i+1) (by omega)
theorem oL{f:TFunc}(hf:OkF f)(l:Int)(t:List Int)(u:List Bk):∀(k i:Nat) (vs:List (Int×Ay)),i+k=f.Blocks.length->
  Ac (Et f) ((i:Int),vs,f.Params,f.Ret,f.Blocks,l,t,u)=some (bif (Lb vs ((List.range' i k).flatMap λi=>Q9 (f.Blocks.getD i default) i)).1 then .inl ((Lb vs ((List.range' i k).flatMap λi=>Q9 (f.Blocks.getD i default) i)).2,f.Params,f.Ret,f.Blocks,l,t,u) else
   .inr (7,f,l,t,u,(Lb vs ((List.range' i k).flatMap λi=>Q9 (f.Blocks.getD i default) i)).2)):=by
 intro k
 induction k with
 | zero=>
  intro i vs h
  obtain rfl:i=f.Blocks.length:=by omega
  rw[Ak (x:=.inl (vs,f.Params,f.Ret,f.Blocks,l,t,u)) (by unfold Et;simp)]
  rfl
 | succ k ih=>
  intro i vs h
  have hi:i<f.Blocks.length:=by omega
  have hd:decide (i<(f.Blocks.length:Int))=true:=by simpa using hi
  have hx:=cL hf (Ag (d:=default) hi) i l t u vs;rw[ET,MO,JB]
  cases hb:(Lb vs _).1 with
  | false=>
   rw[hb]at hx
   rw[Ak  (by
    unfold Et;simp only[hd, Aa (Ai hi),C8];rw[ hx]
    rfl),Ax,hb]
   rfl
  | true=>
   rw[hb]at hx
   rw[Ap (s':=(((i+1:Nat):Int),(Lb vs _).2,f.Params,f.Ret,f.Blocks,l,t,u)) (by
    unfold Et;simp only[hd, Aa (Ai hi),C8];rw[ hx,A0 hi (by have:=hf.blocks;omega)]
    rfl),ih _ _ (by omega),Ah]
theorem okP{f:TFunc}(hf:OkF f):∀ i,i<f.Params.length->Rd (As f) i=true:=λi hi=>by
 have hl:=CY f
 have hg:∀ j,j<f.Params.length->(As f).getD j default=⟨j+1,-1,0,(f.Params.getD j 0,1)⟩:=λj hj=>by
  have e:Ra f=(List.range f.Params.length).map λi=>⟨(i:Int)+1,-1,0,(f.Params.getD i 0,1)⟩:=by
   unfold Ra
   induction List.range _ with
   | nil=>rfl
   | cons a l ih=>grind
  rw[As,List.getD,Uf (by omega),e];simp[hj]
 have hle:i<(As f).length:=by rw[As,Fh];omega
 rw[Wb hle,hg i hi];refine⟨?_,λj hj=>?_⟩
 ·have:=hf.few;simp only[valS,A6,Gq];omega
 ·grind
theorem lC{f:TFunc}(hf:OkF f)(l:Int)(t:List Int)(u:List Bk):∃ vs,H8 f l t u=some (bif (List.range (As f).length).all (Rd (As f)) then 0 else 7,f,l,t,u,vs)/\((List.range (As f).length).all (Rd (As f))=true->vs=dv (As f)):=by
 have hsp:=PG ((List.range f.Blocks.length).flatMap λi=>Q9 (f.Blocks.getD i default) i) (Ra f)
 have hall:(List.range (As f).length).all (Rd (As f))=(Lb (dv (Ra f)) ((List.range f.Blocks.length).flatMap λi=>Q9 (f.Blocks.getD i default) i)).1:=by
  rw[hsp.1]
  show(List.range _).all _=(List.range' _ _).all (Rd (As f))
  have hs:List.range (As f).length=List.range (Ra f).length++List.range' (Ra f).length ((List.range f.Blocks.length).flatMap λi=>Q9 (f.Blocks.getD i default) i).length:=by
   rw[Si,Si,As,Fh];have:=List.range'_append_1 (s:=0) (m:=(Ra f).length) (n:=((List.range f.Blocks.length).flatMap λi=>Q9 (f.Blocks.getD i default) i).length);rw[E8]at this;exact this.symm
  rw[hs,List.all_append];have :=zzL26.2 λi hi=>okP hf i (by rw[<- CY f];exact zzL45.1 hi);rw[this,Ld]
 unfold H8;have hp:=oP hf f.Params.length 0 (by omega);have e0:pv f 0=[]:=rfl;rw[e0,show(((0:Nat):Int))=0 from rfl]at hp;rw[hp,An,zL];have hb:=oL hf l t u f.Blocks.length 0 (dv (Ra f)) (by omega);rw[show(((0:Nat):Int))=0 from rfl,<- Si]at hb;rw[hb, hall];refine⟨(Lb _ _).2,?_,hsp.2⟩
 cases(Lb _ _).1<;>rfl
theorem DH{β S X:Type}(B:Nat)(mk:Int->List β->S)(out:List β->X)(n:Nat)(E:Nat->List β)(f:S->Option (LR S X))(hn:∀(acc:List β) (i:Nat),i<n->(acc++E i).length<=B->f (mk i acc)=some (.next (mk ((i:Int)+1) (acc++E i))))
  (hd:∀ acc:List β,f (mk n acc)=some (.done (out acc))):∀(k i:Nat) (acc:List β),i+k=n->(acc++(List.range' i k).flatMap E).length<=B->Ac f (mk i acc)=some (out (acc++(List.range' i k).flatMap E))
 | 0,i,acc,h,_=>by
  obtain rfl:i=n:=by omega
  rw[Ak (hd acc)]
  simp
 | k+1,i,acc,h,hB=>by
  have hi:i<n:=by omega
  rw[ET,MO,<- ES]at hB ⊢;rw[Ap (hn acc i hi (by grind)),show(i+1)=((i+1:Nat):Int) by omega,DH B mk out n E f hn hd k _ _ (by omega) hB]
theorem dI{β γ:Type}(h:β->γ)(n:Nat)(g:Nat->β):(List.range' 0 n).flatMap (λj=>[h (g j)])=((List.range n).flatMap λj=>[g j]).map h:=by
 rw[List.map_flatMap,Si];rfl
theorem QK{β γ:Type}(h:β->γ)(n:Nat)(g:Nat->List β):(List.range' 0 n).flatMap (λj=>(g j).map h)=((List.range n).flatMap g).map h:=by
 rw[List.map_flatMap,Si]
def Sr(f:TFunc)(b:Int):Int:=((f.Blocks.getD b.toNat default).Ops.length:Int)
def Jp(f:TFunc)(u:D2):Bk:=⟨u.V,u.Shape,⟨u.Block,bif u.At==1000 then Sr f u.Block else u.At⟩⟩
theorem jD(f:TFunc)(l:Int)(t:List Int)(vs:List (Int×Ay))(v:Int)(s:Int×Int)(p:P9)(u:List Bk)(h:(u++[(⟨v,s,p⟩:Bk)]).length<=10000000):Fb v s p f l t vs u=some (f,l,t,u++[⟨v,s,p⟩]):=by
 unfold Fb;rw[Ad (by rw[Fh]at h;rw[IA];omega)]
theorem oO(f:TFunc)(l:Int)(t:List Int)(vs:List (Int×Ay))(b:Int)(hb:A2 b f.Blocks.length)(u:List Bk):G7 b f l t vs u=some (⟨b,Sr f b⟩,f,l,t,u):=by
 unfold G7;rw[Ad hb];rfl
section
variable {f:TFunc} (hf:OkF f) (l:Int) (t:List Int) (vs:List (Int×Ay))
include hf
theorem wO(i k:Nat)(hi:i<f.Blocks.length)(hk:k<(f.Blocks.getD i default).Phis.length)(hfit:((f.Blocks.getD i default).Phis.getD k default).Args.length<=((f.Blocks.getD i default).Phis.getD k default).From.length)
  (hin:∀ x∈((f.Blocks.getD i default).Phis.getD k default).From,A2 x f.Blocks.length) (u:List Bk) (hB:(u++(N4 ((f.Blocks.getD i default).Phis.getD k default)).map (Jp f)).length<=10000000) :
  Ac (En f vs (i:Int) (k:Int)) ((0:Int),f.Params,f.Ret,f.Blocks,l,t,u)=some (f.Params,f.Ret,f.Blocks,l,t,u++(N4 ((f.Blocks.getD i default).Phis.getD k default)).map (Jp f)):=by
 have hlen:=QZ hf (Ag  hi) (Ag (d:=default) hk)
 generalize hp:(f.Blocks.getD i _).Phis.getD k _=p at *
 have e:=dI (Jp f) p.Args.length λj=>⟨p.Args.getD j 0,p.From.getD j 0,1000,(p.Bits,1)⟩
 have:=DH _ (λj u=>(j,f.Params,f.Ret,f.Blocks,l,t,u)) (λu=>(f.Params,f.Ret,f.Blocks,l,t,u)) _ (λj=>[Jp f _]) (En f vs i k) (λacc j hj hacc=>by
  unfold En Eu
  have hd:decide (j<(p.Args.length:Int))=true:=by simpa using hj
  have hjf:j<p.From.length:=by omega
  simp only[C8,hp,hd,Ah,Aa (Ai hj),An,Aa (Ai hjf)];rw[ oO f l t vs _ (hin _ (Ag hjf)),An];have eu:Jp f ⟨p.Args.getD j 0,p.From.getD j 0,1000,(p.Bits,1)⟩=⟨p.Args.getD j 0,(p.Bits,1),⟨p.From.getD j 0,Sr f _⟩⟩:=rfl;rw[eu]at hacc ⊢
  rw[jD f l t vs _ _ _ acc hacc,An,A0 hj (by omega)]) (λacc=>by unfold En;simp only[C8,hp,show decide (p.Args.length<(p.Args.length:Int))=false by simp,Ax]) p.Args.length 0 u (by omega) (by rw[e];exact hB)
 rw[e]at this;exact this
theorem se(i:Nat)(hi:i<f.Blocks.length)(hfit:∀ p∈(f.Blocks.getD i default).Phis,p.Args.length<=p.From.length/\∀ x∈p.From,A2 x f.Blocks.length)(u:List Bk)(hB:(u++(M7 (f.Blocks.getD i default)).map (Jp f)).length<=10000000) :
  Ac (Eo f vs (i:Int)) ((0:Int),f.Params,f.Ret,f.Blocks,l,t,u)=some (f.Params,f.Ret,f.Blocks,l,t,u++(M7 (f.Blocks.getD i default)).map (Jp f)):=by
 have hBk:=hf.block _ (Ag (d:=default) hi);have e:=QK (Jp f) (f.Blocks.getD i default).Phis.length λk=>N4 ((f.Blocks.getD i default).Phis.getD k default)
 have:=DH _ (λj u=>(j,f.Params,f.Ret,f.Blocks,l,t,u)) (λu=>(f.Params,f.Ret,f.Blocks,l,t,u)) _ _ (Eo f vs i) (λacc k hk hacc=>by
  have hq:=hfit _ (Ag (d:=default) hk);have h1:=wO hf l t vs i k hi hk hq.1 hq.2 acc hacc;unfold Eo
  have hd:decide ((k:Int)<(f.Blocks.getD i default).Phis.length)=true:=by simpa using hk
  simp only[C8,hd,Ah,Aa (Ai hk),h1,An,A0 hk (by have:=hBk.phis;omega)]) (λacc=>by unfold Eo;simp) (f.Blocks.getD i default).Phis.length 0 u (by omega) (by rw[e];exact hB)
 rw[e]at this;exact this
theorem yh(i k:Nat)(hi:i<f.Blocks.length)(hk:k<(f.Blocks.getD i default).Ops.length)(u:List Bk)(hB:(u++(Q3 ((f.Blocks.getD i default).Ops.getD k default) i k).map (Jp f)).length<=10000000) :
  Ac (Ep f vs (i:Int) (k:Int) (Hd ((f.Blocks.getD i default).Ops.getD k default))) ((0:Int),f.Params,f.Ret,f.Blocks,l,t,u)=some (f.Params,f.Ret,f.Blocks,l,t,u++(Q3 ((f.Blocks.getD i default).Ops.getD k default) i k).map (Jp f)):=by
 have hBk:=hf.block _ (Ag (d:=default) hi);have hlen:=Yj (ji hf (Ag  hi) (Ag (d:=default) hk));have hk512:=hBk.ops
 generalize hp:(f.Blocks.getD i _).Ops.getD k _=o at *
 have e:=dI (Jp f) (Hd o).length λj=>⟨o.Args.getD j 0,i,k,(Hd o).getD j (0,0)⟩
 have:=DH _ (λj u=>(j,f.Params,f.Ret,f.Blocks,l,t,u)) (λu=>(f.Params,f.Ret,f.Blocks,l,t,u)) _ (λj=>[Jp f _]) (Ep f vs i k (Hd o)) (λacc j hj hacc=>by
  have hkk:((k:Int)==1000)=false:=by simp;omega
  have eu:Jp f ⟨o.Args.getD j 0,i,k,(Hd o).getD j (0,0)⟩=⟨o.Args.getD j 0,(Hd o).getD j (0,0),⟨i,k⟩⟩:=by unfold Jp;simp only[hkk,Ax]
  rw[eu]at hacc ⊢;unfold Ep
  have hd:decide (j<((Hd o).length:Int))=true:=by simpa using hj
  have hja:j<o.Args.length:=by omega
  simp only[C8,hp,hd,Ah,Aa (Ai hj),Aa (Ai hja)]
  rw[ jD f l t vs _ _ _ acc hacc,An,A0 hj (by omega)]) (λacc=>by unfold Ep;simp) (Hd o).length 0 u (by omega) (by rw[e];exact hB)
 rw[e]at this;exact this
theorem wN(i:Nat)(hi:i<f.Blocks.length)(u:List Bk)(hB:(u++(Su (f.Blocks.getD i default) i).map (Jp f)).length<=10000000) :
  Ac (Er f vs (i:Int)) ((0:Int),f.Params,f.Ret,f.Blocks,l,t,u)=some (f.Params,f.Ret,f.Blocks,l,t,u++(Su (f.Blocks.getD i default) i).map (Jp f)):=by
 have hmem:=Ag (d:=default) hi;have hBk:=hf.block _ hmem;have e:=QK (Jp f) (f.Blocks.getD i default).Ops.length λk=>Q3 ((f.Blocks.getD i default).Ops.getD k default) i k
 have:=DH _ (λj u=>(j,f.Params,f.Ret,f.Blocks,l,t,u)) (λu=>(f.Params,f.Ret,f.Blocks,l,t,u)) _ _ (Er f vs i) (λacc k hk hacc=>by
  have h1:=yh hf l t vs i k hi hk acc hacc;have ht:Qn _=some (Hd ((f.Blocks.getD i _).Ops.getD k default)):=fu _ (lp hf hmem (Ag hk));unfold Er
  have hd:decide (k<((f.Blocks.getD i default).Ops.length:Int))=true:=by simpa using hk
  simp only[C8,hd,Ah,Aa (Ai hk),ht,h1,An,A0 hk (by have:=hBk.ops;omega)]) (λacc=>by unfold Er;simp) (f.Blocks.getD i default).Ops.length 0 u (by omega) (by rw[e];exact hB)
 rw[e]at this;exact this
theorem lA (hfit : ∀ b ∈ f.Blocks, ∀ p ∈ b.Phis, p.Args.length ≤ p.From.length ∧ ∀ x ∈ p.From, A2 x f.Blocks.length) : H7 f l t vs [] = some (f, l, t, (Bg f).map (Jp f)) := by
  have e := QK (Jp f) f.Blocks.length fun (i : Nat) => IB f (f.Blocks.getD i default) i; have hul := KE hf
  have := DH 10000000 (fun j u => (j, f.Params, f.Ret, f.Blocks, l, t, u)) (fun u => (f.Params, f.Ret, f.Blocks, l, t, u)) f.Blocks.length (fun (i : Nat) => (IB f (f.Blocks.getD i default) i).map (Jp f)) (Es f vs) (fun acc i hi hacc => by
    have hmem := Ag (d := (default : Ae)) hi; unfold IB at hacc ⊢; rw [Wx, Wx, ← ES, ← ES] at hacc ⊢; have l1 := hacc; simp only [Fh, Dy] at l1; have h1 := se hf l t vs i hi (hfit _ hmem) acc (by simp only [Fh, Dy]; omega); have h2 := wN hf l t vs i hi (acc ++ (M7 (f.Blocks.getD i default)).map (Jp f)) (by simp only [Fh, Dy]; omega); have hinb : A2 (i : Int) f.Blocks.length := Ai hi; unfold Es Eu
    have hd : decide ((i : Int) < (f.Blocks.length : Int)) = true := by simpa using hi
    simp only [hd, Ah, Aa (Ai hi), h1, An, h2, C8]; have hF : (⟨f.Params, f.Ret, f.Blocks⟩ : TFunc) = f := rfl; have hw : w64 ((i : Int) + 1) = (i : Int) + 1 := A0 hi (by have := hf.blocks; omega); unfold Yl at hacc ⊢
    cases hz : ((f.Blocks.getD i default).End.Kind == 0) with
    | true =>
      have hz2 : ((f.Blocks.getD i default).End.Kind == 2) = false := by have : (f.Blocks.getD i default).End.Kind = 0 := by simpa using hz
                                                                         rw [this]; rfl
      rw [hz, hz2] at hacc; simp only [Ah, Ax, hz2, List.append_nil, Cs, Do] at hacc ⊢; rw [hF, oO f l t vs _ hinb, An]; simp only; rw [jD f l t vs _ _ _ _ (show (_ ++ [(⟨_, _, ⟨(i : Int), Sr f (i : Int)⟩⟩ : Bk)]).length ≤ 10000000 from hacc), An, An, hw]
      rfl
    | false =>
      rw [hz] at hacc
      cases hz2 : ((f.Blocks.getD i default).End.Kind == 2) with
      | true =>
        rw [hz2] at hacc; simp only [Ah, Ax, Y7, Cs, Do] at hacc ⊢; rw [hF, oO f l t vs _ hinb, An]; simp only; rw [jD f l t vs _ _ _ _ (show (_ ++ [(⟨_, _, ⟨(i : Int), Sr f (i : Int)⟩⟩ : Bk)]).length ≤ 10000000 from hacc), An, An, hw]
        rfl
      | false =>
        simp only [Ax, Y7, Do, List.append_nil, An, hw]) (fun acc => by unfold Es; simp) f.Blocks.length 0 [] (by omega) (by rw [e]; simpa [Bg] using (by omega : (Bg f).length ≤ 10000000))
  rw [e, Y7] at this; unfold H7; rw [show (0 : Int) = ((0 : Nat) : Int) from rfl]
  show ((Ac (Es f vs) (((0 : Nat) : Int), f.Params, f.Ret, f.Blocks, l, t, [])).bind _) = _
  rw [this, An]
  rfl
end
theorem sO{σ X:Type}(mk:Int->σ)(U:List Bk)(p:Bk->Bool)(f:σ->Option (LR σ X))(yes no:X)(hk:∀ i:Nat,i<U.length->f (mk i)=some (bif p (U.getD i default) then .next (mk ((i:Int)+1)) else .done no))(he:f (mk U.length)=some (.done yes)) :
  ∀ k i:Nat,i+k=U.length->Ac f (mk i)=some (bif (U.drop i).all p then yes else no)
 | 0,i,h=>by
  obtain rfl:i=U.length:=by omega
  rw[Ak he]
  simp
 | k+1,i,h=>by
  have hi:i<U.length:=by omega
  have hdr:U.drop i=U.getD i default::U.drop (i+1):=by simp_all
  have hx:=hk i hi;rw[hdr,Vw]
  cases hp:p _ with
  | true=>
   rw[hp]at hx;rw[Ap hx,show((i:Int)+1)=(i+1:Nat) by omega,sO mk U p f yes no hk he k _ (by omega),Ld]
  | false=>
   rw[hp]at hx;rw[Ak hx]
   rfl
theorem PM(d:Cg)(l:List Cg)(v:Int):Lo (d::l) v=bif d.V==v then 0 else bif decide (Lo l v<0) then -1 else Lo l v+1:=by
 unfold Lo;rw[List.findIdx?_cons]
 cases d.V==v with
 | true=>rfl
 | false=>
  grind
theorem QN(v:Int):∀ l:List Cg,Ec (dv l) v = !decide (Lo l v<0)
 | []=>rfl
 | d::l=>by
  rw[PM]
  show((v==d.V) || Ec (dv l) v)=_
  rw[QN v l,show(v==d.V)=(d.V==v) by grind]
  cases d.V==v with
  | true=>rfl
  | false=>
   grind
theorem FH(v:Int):∀ l:List Cg,¬ Lo l v<0->Fy (default:Ay) (dv l) v=SF (defOf l v)
 | [],h=>absurd (show -1<0 by decide) h
 | d::l,h=>by
  unfold defOf;rw[PM]at h ⊢
  show(bif v==d.V then SF d else Fy _ (dv l) v)=_
  rw[show(v==d.V)=(d.V==v) by grind]
  cases hb:d.V==v with
  | true=>rfl
  | false=>
   rw[hb]at h
   by_cases hn:Lo l v<0
   ·simp[hn]at h
   ·have hz :=Cd hn;simp only[Ax,hz];rw[FH v l hn,show(Lo l v+1).toNat=(Lo l v).toNat+1 by omega]
    rfl
def mi(f:TFunc)(d:Cg):Prop:=d.Block = -1\/(A2 d.Block f.Blocks.length/\d.At<Sr f d.Block/\d.At<1000)
def ue(f:TFunc)(u:D2):Prop:=A2 u.Block f.Blocks.length/\0<=u.At
theorem defs_in{f:TFunc}(hf:OkF f):∀ d∈As f,mi f d:=λd hd=>by
 rcases zzL12.1 hd with h|h
 ·obtain⟨i,_,hi⟩:=zzL48.1 h;rw[zzL16.1 hi];exact .inl rfl
 ·obtain⟨i,hi,h⟩:=zzL48.1 h
  have hi :=by simpa using hi
  have hB:=hf.block _ (Ag (d:=default) hi);have ho:Sr f i=(f.Blocks.getD i default).Ops.length:=rfl;rcases zzL12.1 h with h|h
  ·obtain⟨k,hk,h⟩:=zzL48.1 h;rw[zzL16.1 h];refine .inr ⟨Ai hi,?_,?_⟩
   ·grind
   ·grind
  ·obtain⟨k,hk,h⟩:=zzL48.1 h
   have hk:k<(f.Blocks.getD i default).Ops.length:=by simpa using hk
   cases hg:decide (0<(H1 _).1) with
   | false=>rw[hg]at h;cases h
   | true=>
    rw[hg]at h;rw[zzL16.1 h];refine .inr ⟨Ai hi,?_,?_⟩
    ·grind
    ·show(k:Int)<1000;have:=hB.ops;omega
theorem uN{f:TFunc}(hfit:∀ b∈f.Blocks,∀ p∈b.Phis,p.Args.length<=p.From.length/\∀ x∈p.From,A2 x f.Blocks.length):∀ u∈Bg f,ue f u:=λu hu=>by
 obtain⟨i,hi,h⟩:=zzL48.1 hu
 have hi :=by simpa using hi
 have hmem:=Ag (d:=default) hi;rcases zzL12.1 h with h|h
 ·rcases zzL12.1 h with h|h
  ·obtain⟨k,hk,h⟩:=zzL48.1 h
   have hk :=by simpa using hk
   obtain⟨j,hj,h⟩:=zzL48.1 h;have hj:=zzL45.1 hj;have hq:=hfit _ hmem _ (Ag (d:=default) hk);rw[zzL16.1 h];exact⟨hq.2 _ (Ag (by omega)),by grind⟩
  ·obtain⟨k,hk,h⟩:=zzL48.1 h;obtain⟨j,hj,h⟩:=zzL48.1 h;rw[zzL16.1 h];exact⟨Ai hi,by grind⟩
 ·unfold Yl at h
  have:u=⟨(f.Blocks.getD i default).End.Arg,i,1000,(f.Ret,1)⟩\/u=⟨(f.Blocks.getD i default).End.Arg,i,1000,(1,1)⟩:=by
   grind
  rcases this with rfl|rfl<;>exact⟨Ai hi,by grind⟩
theorem wX{f:TFunc}(h:Fe f=true):∀ b∈f.Blocks,∀ p∈b.Phis,p.Args.length<=p.From.length/\∀ x∈p.From,A2 x f.Blocks.length:=λb hb p hp=>by
 have hs :=by simp only[Fe,A6]at h;exact h.1
 refine⟨XW h b hb p hp,λx hx=>?_⟩;obtain⟨i,hi,rfl⟩:=G6 hb;simp only[Fe,A6]at h;have h1:=fO h.2 i hi;simp only[K7,A6,zzL26]at h1;rw[Ab _ _ _ hi]at h1;have h2:=h1.2 p hp;simp only[Jm,A6,Gq]at h2;rw[h2.1]at hx;obtain⟨q,rfl,hq,_⟩:=(BL  (Jo hs)  (by rw[Lv];exact hi)).1 hx;exact Ai (by rw[Lv]at hq;exact hq)
theorem ga{f:TFunc}(h:Fe f=true){b:Int}(hb:A2 b f.Blocks.length):Ls (B7 f) 0 b=true:=by
 have hs :=by simp only[Fe,A6]at h;exact h.1
 have hm:=Jo hs;have hlen:=Lv f
 have hpos:0<(A1 f).length:=by have:=(shape_iff.1 hs).1.1;omega
 obtain⟨P,hP,o,ht⟩:=XY hm hpos
 have e:B7 f=Y3 (A1 f) 0:=by
  unfold B7 MJ;rw[if_pos ⟨QL hm,Int.le_refl _,by show(0:Int)<(A1 f).length;omega⟩]
  rfl
 obtain⟨k,rfl⟩:∃ k:Nat,b=k:=⟨b.toNat,(Y5 hb.1).symm⟩
 have hk:k<f.Blocks.length:=by have:=hb.2;omega
 simp only[Fe,A6]at h;have h1:=fO h.2 k hk;simp only[K7,A6]at h1;have hr :=(BM (Wm hm) hpos k).1 h1.1.1;rw[e];refine(ht.over_dom o hpos (by omega)).2 ⟨rc_iff.2 hr,λha=>?_⟩;exact(av_iff.1 ha).1 rfl
theorem AJ{l:List D2}{g:D2->Bk}{p:Bk->Bool}{q:D2->Bool}(h:∀ u∈l,p (g u)=q u):(l.map g).all p=l.all q:=by
 grind
def ss(vs:List (Int×Ay))(u:Bk):Bool:=((Fy (default:Ay) vs u.v).shape.1==u.shape.1)&&(((Fy (default:Ay) vs u.v).shape.2==u.shape.2)&&true)
def FC(vs:List (Int×Ay))(t:List Int)(u:Bk):Bool:=bif (Fy (default:Ay) vs u.v).place.block==u.place.block then decide ((Fy (default:Ay) vs u.v).place.at_<u.place.at_) else Ls t (Fy (default:Ay) vs u.v).place.block u.place.block
theorem ng{f:TFunc}(hs:Fe f=true){D:List Cg}(hD:∀ d∈D,mi f d){u:D2}(hu:ue f u)(hfd:K0 D u=true):FC (dv D) (B7 f) (Jp f u)=Uz D (B7 f) u:=by
 have hF:¬ Lo D u.V<0:=by simpa [K0] using hfd
 have hin:=PN hF;have hd:mi f (defOf D u.V):=hD _ (by unfold defOf;exact Ag (by have:=hin.1;have:=hin.2;omega));have hg:Fy (default:Ay) (dv D) (Jp f u).v=SF (defOf D u.V):=FH u.V D hF;unfold FC Uz;rw[hg]
 generalize defOf D u.V=d at *
 have hub:=hu.1.1
 have hul:0<=Sr f u.Block:=by unfold Sr;omega
 have hat:∀ a:Int,a<0\/(a<Sr f u.Block/\a<1000)->decide (a<(Jp f u).place.at_)=decide (a<u.At)\/a<0:=λa ha=>by
  rcases ha with ha|ha
  ·exact .inr ha
  ·refine .inl ?_
   show decide (a<bif u.At==1000 then Sr f u.Block else u.At)=_
   by_cases h:u.At=1000
   ·rw[h];simp only[show((1000:Int)==1000)=true from rfl,Ah];rw[Co ha.1,Co ha.2]
   ·have:(u.At==1000)=false:=by simpa using h
    rw[this];rfl
 have hpos:0<=(Jp f u).place.at_:=by
  show 0<=bif u.At==1000 then Sr f u.Block else u.At
  cases u.At==1000
  ·exact hu.2
  ·exact hul
 have hblk:(Jp f u).place.block=u.Block:=rfl;rw[hblk];rcases hd with hd|⟨hd1,hd2,hd3⟩
 ·have e:(SF d).place=⟨0,-1⟩:=by show ul d=_;unfold ul;rw[hd];rfl
  rw[e,hd,Co (show(-1:Int)<0 by decide)];rw[Bool.true_or,Bool.true_or,ga hs hu.1,Co (show(-1:Int)<(Jp f u).place.at_ by omega)]
  cases(0:Int)==u.Block<;>rfl
 ·have hn:¬ d.Block<0:=by have:=hd1.1;omega
  have e:(SF d).place=⟨d.Block,d.At⟩:=by show ul d=_;unfold ul;rw[Cd hn];rfl
  rw[e,Cd hn,Bool.false_or]
  cases hb:d.Block==u.Block with
  | true=>
   have hbe:d.Block=u.Block:=by simpa using hb
   simp only[Ah,Ld,Dr,FU,Bool.or_false];rcases hat d.At (.inr ⟨by rw[<- hbe];exact hd2,hd3⟩) with h|h
   ·exact h
   ·rw[Co (by omega),Co (by have:=hu.2;omega)]
  | false=>
   simp only[Ax,FU,Bool.false_or,J1,Ld];unfold Ls
   by_cases hm:Rb (B7 f) d.Block u.Block=d.Block
   ·rw[hm]
    have:(d.Block !=-2)=true:=by simp;omega
    simp[this]
   ·have:(Rb (B7 f) d.Block u.Block==d.Block)=false:=by simpa using hm
    simp[this,bne]
section
variable {f:TFunc} (l:Int) (vs:List (Int×Ay))
def mc(f:TFunc)(l:Int)(U:List Bk)(i:Int):Int×List Int×Int×List Ae×Int×List Int×List Bk:=(i,f.Params,f.Ret,f.Blocks,l,B7 f,U)
def md(f:TFunc)(l:Int)(U:List Bk):List Int×Int×List Ae×Int×List Int×List Bk:=(f.Params,f.Ret,f.Blocks,l,B7 f,U)
theorem sg(U:List Bk)(hU:U.length<9223372036854775808):Ac (F4 vs (f,l,B7 f,U)) (mc f l U 0)=some (bif U.all (λu=>Ec vs u.v) then .inl (md f l U) else .inr (md f l U)):=by
 have:=sO (mc f l U) U (λu=>Ec vs u.v) (F4 vs (f,l,B7 f,U)) _ _ (λi hi=>by
  unfold F4 mc Lp
  have hd:decide (i<(U.length:Int))=true:=by simpa using hi
  simp only[hd, Aa (Ai hi),C8, A0 hi hU]
  cases Ec vs _<;>rfl) (by unfold F4 mc;simp;rfl) U.length 0 (by omega)
 exact this
theorem si(U:List Bk)(hU:U.length<9223372036854775808):Ac (F5 vs U) (mc f l U 0)=some (bif U.all (ss vs) then .inl (md f l U) else .inr (md f l U)):=by
 have:=sO (mc f l U) U (ss vs) (F5 vs U) _ _ (λi hi=>by
  unfold F5 mc Nl
  have hd:decide (i<(U.length:Int))=true:=by simpa using hi
  simp only[hd, Aa (Ai hi),C8, A0 hi hU];unfold ss
  cases(((Fy _ vs _).shape.1==(U.getD i _).shape.1)&&(((Fy _ vs _).shape.2==(U.getD i _).shape.2)&&true))<;>rfl) (by unfold F5 mc;simp;rfl) U.length 0 (by omega)
 exact this
theorem sj(htl:(B7 f).length<=1000)(U:List Bk)(hU:U.length<9223372036854775808):Ac (F6 vs U) (mc f l U 0)=some (bif U.all (FC vs (B7 f)) then .inl (md f l U) else .inr (md f l U)):=by
 have:=sO (mc f l U) U (FC vs _) (F6 vs U) _ _ (λi hi=>by
  have hx:H9 (U.getD i default) f l (B7 f) vs U=some (FC vs (B7 f) (U.getD i default),f,l,B7 f,U):=by
   unfold H9 FC;rw[wg htl]
   cases(Fy _ vs _).place.block==(U.getD i _).place.block<;>rfl
  unfold F6 mc
  have hd:decide ((i:Int)<U.length)=true:=by simpa using hi
  simp only[hd, Aa (Ai hi),C8];rw[ hx, A0 hi hU]
  cases FC vs _ _<;>rfl) (by unfold F6 mc;simp;rfl) U.length 0 (by omega)
 exact this
end
def eM(f:TFunc):Int:=bif !(Bg f).all (K0 (As f)) then 7 else bif !(Bg f).all (U0 (As f)) then 6 else bif !(Bg f).all (Uz (As f) (B7 f)) then 7 else 0
theorem wS{f:TFunc}(hf:OkF f)(hs:Fe f=true)(l:Int):∃ U,Kf f l (B7 f) (dv (As f)) []=some (eM f,f,l,B7 f,U):=by
 have hfit:=wX hs;have hul:=KE hf
 have hsB :=by simp only[Fe,A6]at hs;exact hs.1
 refine⟨(Bg f).map (Jp f),?_⟩
 have hU:((Bg f).map (Jp f)).length<9223372036854775808:=by grind
 have h1:=sg (f:=f) l (dv (As f)) _ hU;have h2:=si (f:=f) l (dv (As f)) _ hU;have h3:=sj  l (dv (As f)) (eJ hsB) _ hU;rw[AJ (q:=K0 _) (λu _=>QN u.V _)]at h1;unfold Kf eM Rv;rw[lA hf l _ _ hfit,An];rw[show(Ac _ ((0:Int),f.Params,f.Ret,f.Blocks,l,B7 f,(Bg f).map _))=_ from h1,An];have fin:∀ e ,Ac Pr (e,f.Params,f.Ret,f.Blocks,l,B7 f,(Bg f).map (Jp f))=some _:=λe=>Ak rfl
 cases hfd:(Bg f).all _ with
 | false=>simp only[Ax,J1,Ah,md,An,fin]
 | true=>
  have hmf:=zzL26.1 hfd
  rw[AJ (q:=U0 _) (λu hu=>by
   have:=hmf u hu;simp only[K0,Y6,SM]at this;have hg:Fy _ _ (Jp f u).v=SF _:=FH u.V _ this;unfold ss U0
   rw[hg];rfl)]at h2
  rw[AJ  (λu hu=>ng hs (defs_in hf) (uN hfit u hu) (hmf u hu))]at h3;simp only[Ah,Dr, md];rw[show(Ac _ ((0:Int),f.Params,f.Ret,f.Blocks,l,B7 f,(Bg f).map _))=_ from h2,An]
  cases(Bg f).all _ with
  | false=>simp only[Ax,J1,Ah,md,An,fin]
  | true=>
   simp only[Ah,Dr, md];rw[show(Ac _ ((0:Int),f.Params,f.Ret,f.Blocks,l,B7 f,(Bg f).map _))=_ from h3]
   cases(Bg f).all _ with
   | false=>simp only[Ax,J1,Ah,md,An,fin]
   | true=>simp only[Ah,Dr,Ax,md,An]
theorem sk{f:TFunc}(h:Sm f)(l:Int)(h0:0<=l)(h2:l<=2):∃ t u vs,Ju f l [] []=some (D8 f l,f,l,t,u,vs)/\(D8 f l=0->vs=dv (As f)):=by
 have hc:D8 f l=bif !Qv f then 4 else SH f l:=by
  unfold D8;rw[Cd (by omega),Cd (by omega)];rfl
 rw[hc];unfold Ju;rw[wR f h.1,An]
 cases hm:Qv f with
 | false=>simp_all
 | true=>
  have hf:=jv h hm;simp only[    SH];obtain⟨t',hsh,hst⟩:=oQ hf l [] [];rw[hsh,An]
  cases hs:Fe f with
  | false=>simp_all
  | true=>
   obtain rfl:=hst hs;rw[sf hf l h0 h2,An]
   cases M1 f l with
   | false=>simp_all
   | true=>
    obtain⟨vs,hd,hv⟩:=lC hf l _ [];rw[hd,An]
    cases hdd:(List.range _).all _ with
    | false=>grind
    | true=>
     obtain rfl:=hv hdd;obtain⟨U,hu⟩:=wS hf hs l;rw[hu];refine⟨B7 f,U,dv _,?_,λ_=>rfl⟩
     show(bif eM f !=0 then some _ else some _)=some (eM f,f,l,B7 f,U,dv _)
     cases hz:eM f !=0 with
     | true=>rfl
     | false=>
      grind
theorem iy(f:TFunc)(l:Int)(h:Sm f):O0 f l=some (D8 f l):=by
 unfold O0
 by_cases h0:l<0
 · unfold D8;rw[Co h0];rfl
 ·by_cases h2:2<l
  · unfold D8;rw[Cd h0,Co h2];rfl
  ·obtain⟨t,u,vs,hw,_⟩:=sk h l (by omega) (by omega);rw[Cd h0,Cd h2,hw];rfl
def lone(e:On)(b r:Int):TFunc:=⟨[b],r,[⟨[],[],e⟩]⟩
theorem Aa2{α:Type}(l:List α):(l.map λ_=>1).sum=l.length:=by induction l with|nil=>rfl|cons a l ih=>simp[ih];omega
theorem Xf{f:TFunc}(h:(List.range (As f).length).all (Rd (As f))=true):((As f).map (·.V)).Nodup:=by
 rw[List.nodup_iff_pairwise_ne,List.pairwise_map,zzL91];intro i j hi hj hij he;have:=((Wb hj).1 (fO h j hj)).2 i hij;rw[Ab _ _ _ hi,Ab _ _ _ hj]at this;exact this he
abbrev bA(f:TFunc)(i:Nat):Ae:=f.Blocks.getD i default
def mK(f:TFunc)(i:Nat)(k:Nat):Int:=(bA f i).End.To.getD k 0
def prF(f:TFunc)(i:Nat):List Int:=(Dp (A1 f)).getD i []
structure Rt(f:TFunc):Prop where
 lo:1<=f.Blocks.length
 hi:f.Blocks.length<=64
 to:∀ i,i<f.Blocks.length->∀ k,k<(bA f i).End.To.length->0<mK f i k/\mK f i k<f.Blocks.length
 one:∀ i,i<f.Blocks.length->(bA f i).End.Kind=1->(bA f i).End.To.length=1
 two:∀ i,i<f.Blocks.length->(bA f i).End.Kind=2->(bA f i).End.To.length=2
 may:Mm (A1 f)=true
 ok:OkF f
theorem uB{f:TFunc}{i:Nat}(hi:i<f.Blocks.length):(A1 f).getD i []=BO (bA f i).End.To:=by
 unfold A1;rw[O7 hi];rfl
theorem w5(f:TFunc):(Dp (A1 f)).length=f.Blocks.length:=by rw[Po,Lv]
set_option maxRecDepth 100000
def ku(f:TFunc)(d:Cg)(b a:Int):Prop:=d.Block<0\/(d.Block=b/\d.At<a)\/(d.Block≠b/\Ls (B7 f) d.Block b=true)
theorem PH{l:List Cg}(hn:(l.map (·.V)).Nodup){d:Cg}(hd:d∈l):0<=Lo l d.V/\defOf l d.V=d:=by
 obtain⟨i,hi,rfl⟩:=G6 hd
 have hx:∃ k,l.findIdx? (λe=>e.V==l[i].V)=some k:=by
  cases h:l.findIdx? _ with
  | some k=>exact⟨k,rfl⟩
  | none=>
   grind
 obtain⟨k,hk⟩:=hx;obtain⟨hk1,hk2,_⟩:=List.findIdx?_eq_some_iff_getElem.1 hk
 have e :=by
  have h1:(l.map (·.V))[k]'(by simpa using hk1)=(l.map (·.V))[i]'(by simpa using hi):=by simpa using hk2
  exact(List.getElem_inj hn).1 h1
 subst e;unfold defOf Lo;rw[hk];refine⟨by simp,?_⟩;rw[Am,Ab _ _ _ hi]
theorem RS{f:TFunc}(hn:((As f).map (·.V)).Nodup)(hv:∀ d∈As f,valS d.V=true)(hu:∀ u∈Bg f,∃ d∈As f,d.V=u.V/\d.Shape=u.Shape/\ku f d u.Block u.At):XP f=0:=by
 have h1:(List.range (As f).length).all (Rd (As f))=true:=by
  rw[zzL26];intro i hi;rw[zzL45]at hi;refine(Wb hi).2 ⟨hv _ (Ag hi),λj hj he=>?_⟩;rw[Ab _ _ _ hi,Ab _ _ _ (by omega)]at he;have:=(List.getElem_inj (h₀:=show j<((As f).map _).length by simp;omega) (h₁:=by simpa using hi) hn).1 (by simpa using he);omega
 have h2:(Bg f).all (K0 (As f))=true:=by
  rw[zzL26];intro u h;obtain⟨d,hd,e,_⟩:=hu u h;unfold K0;have:=(PH hn hd).1;rw[e]at this
  simp;omega
 have h3:(Bg f).all (U0 (As f))=true:=by
  rw[zzL26];intro u h;obtain⟨d,hd,e,es,_⟩:=hu u h;unfold U0;rw[<- e,(PH hn hd).2,es];simp
 have h4:(Bg f).all (Uz (As f) (B7 f))=true:=by
  rw[zzL26];intro u h;obtain⟨d,hd,e,_,ht⟩:=hu u h;unfold Uz;rw[<- e,(PH hn hd).2];rcases ht with h|⟨h,h'⟩|⟨h,h'⟩
  ·grind
  ·grind
  ·unfold Ls at h';rw[A6,zzL63]at h';rw[h'.1,zzL30.2 h];simp
 unfold XP;rw[h1,h2,h3,h4];rfl
structure Zw(f:TFunc)(l:Int):Prop where
 may:Qv f=true
 shape:Fe f=true
 typed:M1 f l=true
 rest:XP f=0
theorem Yf{f:TFunc}{l:Int}(hl:0<=l/\l<=2):D8 f l=0↔Zw f l:=
 ⟨λh=>by obtain⟨a,b,c,d⟩:=(PB hl.1 hl.2).1 h;exact⟨a,b,c,d⟩,λh=>(PB hl.1 hl.2).2 ⟨h.1,h.2,h.3,h.4⟩⟩
section
variable {f:TFunc} {l:Int} (R:Zw f l)
include R
theorem d9{b:Ae}(hb:b∈f.Blocks){o:Bz}(ho:o∈b.Ops):K2 l o=true:=by
 have h:=R.typed;simp only[M1,E9,A6,zzL26]at h;exact(h.1.2 b hb).2 o ho
theorem u3{b:Ae}(hb:b∈f.Blocks){o:Bz}(ho:o∈b.Ops):Gr o=true:=by
 have:=d9 R hb ho;unfold K2 at this;simp only[A6]at this;exact this.1.1
theorem DO:(List.range (As f).length).all (Rd (As f))=true/\(∀ u∈Bg f,K0 (As f) u=true)/\(∀ u∈Bg f,U0 (As f) u=true)/\∀ u∈Bg f,Uz (As f) (B7 f) u=true:=by
 have h:=R.rest;unfold XP at h
 cases h1:(List.range _).all _ with
 | false=>rw[h1]at h;cases h
 | true=>grind
theorem qA{d e:Cg}(hd:d∈As f)(he:e∈As f)(hv:d.V=e.V):d=e:=by
 have hn:=Xf (DO R).1;have h1:=(PH hn hd).2;rw[hv,(PH hn he).2]at h1;exact h1.symm
theorem Yg{d:Cg}(hd:d∈As f):valS d.V=true:=by
 obtain⟨i,hi,rfl⟩:=G6 hd;have:=((Wb hi).1 (fO (DO R).1 i hi)).1;rw[Ab _ _ _ hi]at this;exact this
theorem JY{u:D2}(hu:u∈Bg f):∃ d∈As f,d.V=u.V/\d.Shape=u.Shape/\ku f d u.Block u.At:=by
 obtain⟨_,h2,h3,h4⟩:=DO R;have hf:=h2 u hu;have hfit:=h3 u hu;have hdom:=h4 u hu;unfold K0 at hf
 have hneg:¬ Lo (As f) u.V<0:=by simpa using hf
 have hin:=PN hneg;have hmem:defOf _ u.V∈As f:=Ag (by  have:=hin.2;omega)
 have hV:(defOf (As f) u.V).V=u.V:=by
  unfold defOf;unfold Lo at hneg ⊢
  cases hx:(As f).findIdx? _ with
  | none=>grind
  | some i=>
   obtain⟨hi,hp,_⟩:=List.findIdx?_eq_some_iff_getElem.1 hx;rw[Am,Ab _ _ _ hi]
   simpa using hp
 refine⟨_,hmem,hV,?_,?_⟩
 ·unfold U0 at hfit;simp only[A6,zzL63]at hfit;exact Prod.ext hfit.1 hfit.2.1
 ·unfold Uz at hdom;simp only[FS,A6,Gq,zzL63,Y6,zzL30]at hdom;rcases hdom with(h|h)|⟨h,h'⟩
  ·exact .inl h
  ·exact .inr (.inl h)
  ·by_cases hb:(defOf (As f) u.V).Block<0
   ·exact .inl hb
   ·refine .inr (.inr ⟨h,?_⟩);rw[bne_eq_false_iff_eq]at h';unfold Ls;rw[h',A6];exact⟨by simp,by rw[zzL100];omega⟩
end
theorem ri_def{f:TFunc}{d:Cg}:d∈As f↔(∃ i,i<f.Params.length/\d=⟨(i:Int)+1,-1,0,(f.Params.getD i 0,1)⟩) \/
  ∃ i,i<f.Blocks.length/\((∃ k,k<(bA f i).Phis.length/\d=⟨((bA f i).Phis.getD k default).Dst,i,-1,(((bA f i).Phis.getD k default).Bits,1)⟩) \/
   ∃ k,k<(bA f i).Ops.length/\0<(H1 ((bA f i).Ops.getD k default)).1/\d=⟨((bA f i).Ops.getD k default).Dst,i,k,H1 ((bA f i).Ops.getD k default)⟩):=by
 unfold As Ra Q9 Rz Xe;simp only[zzL12,zzL48,zzL45,zzL16]
 constructor
 ·grind
 ·rintro(h|⟨i,hi,⟨k,hk,h⟩|⟨k,hk,hg,h⟩⟩)
  ·exact .inl h
  ·exact .inr ⟨i,hi,.inl ⟨k,hk,h⟩⟩
  ·exact .inr ⟨i,hi,.inr ⟨k,hk,by simp_all⟩⟩
theorem XX{o:Bz}(hm:Gr o=true):(Hd o).length=o.Args.length/\∀ j,j<o.Args.length->(Hd o).getD j (0,0)=PJ o j:=by
 obtain⟨_,_,_,_,hn,_,_⟩:=Xv hm
 have ht:Hd o=Rx o:=by unfold Hd;rw[hm];rfl
 have htl:(Rx o).length=o.Args.length:=by unfold Rx;rw[Dy,Vb];omega
 refine⟨by rw[ht,htl],λj hj=>?_⟩;rw[ht];unfold Rx;rw[O7 (by omega)]
theorem H0 {f : TFunc} (hk : ∀ b ∈ f.Blocks, ∀ o ∈ b.Ops, Gr o = true) {u : D2} : u ∈ Bg f ↔ ∃ i, i < f.Blocks.length ∧
    ((∃ k j, k < (bA f i).Phis.length ∧ j < ((bA f i).Phis.getD k default).Args.length ∧ u = ⟨((bA f i).Phis.getD k default).Args.getD j 0, ((bA f i).Phis.getD k default).From.getD j 0, 1000, (((bA f i).Phis.getD k default).Bits, 1)⟩) ∨
     (∃ k j, k < (bA f i).Ops.length ∧ j < ((bA f i).Ops.getD k default).Args.length ∧ u = ⟨((bA f i).Ops.getD k default).Args.getD j 0, i, k, PJ ((bA f i).Ops.getD k default) j⟩) ∨
     ((bA f i).End.Kind = 0 ∧ u = ⟨(bA f i).End.Arg, i, 1000, (f.Ret, 1)⟩) ∨ ((bA f i).End.Kind = 2 ∧ u = ⟨(bA f i).End.Arg, i, 1000, (1, 1)⟩)) := by
  unfold Bg IB M7 N4 Su Q3 Yl; simp only [zzL12, zzL48, zzL45, zzL16]
  have hE : ∀ (k c : Int) (x : D2), u ∈ (bif k == c then [x] else []) ↔ (k = c ∧ u = x) := fun k c x => by
    grind
  simp only [hE]
  constructor
  · rintro ⟨i, hi, (⟨k, hk', j, hj, h⟩ | ⟨k, hk', j, hj, h⟩) | h⟩
    · exact ⟨i, hi, .inl ⟨k, j, hk', hj, h⟩⟩
    · obtain ⟨e1, e2⟩ := XX (hk _ (Ag  hi) _ (Ag  hk')); rw [e1] at hj; rw [e2 j hj] at h; exact ⟨i, hi, .inr (.inl ⟨k, j, hk', hj, h⟩)⟩
    · exact ⟨i, hi, .inr (.inr h)⟩
  · rintro ⟨i, hi, ⟨k, j, hk', hj, h⟩ | ⟨k, j, hk', hj, h⟩ | h⟩
    · grind
    · obtain ⟨e1, e2⟩ := XX (hk _ (Ag  hi) _ (Ag  hk')); exact ⟨i, hi, .inl (.inr ⟨k, hk', j, by rw [e1]; exact hj, by rw [e2 j hj]; exact h⟩)⟩
    · grind
theorem qB{f:TFunc}(hm:Mm (A1 f)=true){x y:Nat}(hx:x<f.Blocks.length):y∈sN (A1 f) x↔(y:Int)∈(bA f x).End.To:=by
 rw[wr hm (by rw[Lv];exact hx),uB hx,(JZ _).2]
theorem t6{f:TFunc}(hm:Mm (A1 f)=true)(h0:0<f.Blocks.length){a b:Nat}(ha:a<f.Blocks.length)(hb:b<f.Blocks.length):Ls (B7 f) (a:Int) (b:Int)=true↔Rc (sN (A1 f)) 0 b/\¬ Av (sN (A1 f)) 0 a b:=by
 have hl:=Lv f;obtain⟨P,_,o,t⟩:=XY hm (r:=0) (by omega)
 have e:B7 f=Y3 (A1 f) 0:=by
  unfold B7 MJ;rw[if_pos ⟨QL hm,Int.le_refl _,by show 0<((A1 f).length:Int);omega⟩];rfl
 rw[e];exact t.over_dom o (by omega) (by omega)
theorem d8{f:TFunc}(hm:Mm (A1 f)=true)(h0:0<f.Blocks.length)(z:Nat):(Q0 (A1 f)).getD z false=true↔Rc (sN (A1 f)) 0 z:=by
 rw[rc_iff];exact BM (Wm hm) (by rw[Lv];exact h0) z
theorem XL(f:TFunc){i:Nat}(hi:i<f.Blocks.length):(prF f i).Pairwise (·<·):=by
 unfold prF;rw[DM (by rw[Lv];exact hi)];exact LH _ _
set_option linter.unusedSectionVars false
theorem Wq{l:Int}{o:Bz}(h:K2 l o=true):Gr o=true:=by
 unfold K2 at h;simp only[A6]at h;exact h.1.1
theorem PP{o:Bz}(h:Gr o=true):H1 o=Xn o.Kind o.Bits o.Lanes:=by unfold H1;rw[h];rfl
theorem WO{o:Bz}(h:Gr o=true)(hg:0<(H1 o).1):valS o.Dst=true:=by
 have hd:=(Xv h).2.2.2.2.2.2;rw[PP h]at hg;unfold dstS at hd
 cases hk:(o.Kind==17 || o.Kind==19) with
 | true=>unfold Xn at hg;rw[hk,Ah]at hg;exact absurd hg (by decide)
 | false=>rw[hk]at hd;exact hd
def ZJ(s:List Bz):List Int:=(s.filter λo=>decide (0<(H1 o).1)).map (·.Dst)
def UI(b:Ae):List Int:=b.Phis.map (·.Dst)++ZJ b.Ops
theorem XO{α β:Type}(l:List α)(d:α)(F:α->β):(List.range l.length).map (λk=>F (l.getD k d))=l.map F:=by
 apply CF
 ·simp
 ·intro i h1 h2;simp at h1 h2 ⊢;simp[h1]
theorem lK(l:List Bz):l.flatMap (λo=>bif decide (0<(H1 o).1) then[o.Dst] else[])=ZJ l:=by
 induction l with
 | nil=>rfl
 | cons o l ih=>
  rw[MO,ih];unfold ZJ
  by_cases h:0<(H1 o).1<;>simp[h]
theorem sq(b:Ae)(i:Nat):(Q9 b i).map (·.V)=UI b:=by
 unfold Q9 UI Rz Xe;rw[Wx,List.map_flatMap,List.map_flatMap]
 congr 1
 ·show(List.range b.Phis.length).flatMap (λk=>[(b.Phis.getD k default).Dst])=_
  rw[<- List.map_eq_flatMap];exact XO b.Phis default (·.Dst)
 ·rw[<- lK,List.flatMap_def,List.flatMap_def]
  congr 1
  rw[<- XO b.Ops default];refine MN λk hk=>?_
  cases decide (0<(H1 (b.Ops.getD k default)).1)<;>rfl
theorem oc(g:TFunc):(As g).map (·.V)=(List.range g.Params.length).map (λi:Nat=>(i:Int)+1)++(List.range g.Blocks.length).flatMap (λy=>UI (bA g y)):=by
 unfold As Ra;rw[Wx,List.map_flatMap,List.map_flatMap]
 congr 1
 ·rw[List.map_eq_flatMap];rfl
 ·rw[List.flatMap_def,List.flatMap_def]
  congr 1
  exact MN λy _=>sq _ y
theorem nodup_split(g:TFunc):((As g).map (·.V)).Nodup↔(∀ y,y<g.Blocks.length->(UI (bA g y)).Nodup)/\(∀ y z,y<g.Blocks.length->z<g.Blocks.length->y≠z->∀ v∈UI (bA g y),v∉UI (bA g z))/\(∀ i:Nat,i<g.Params.length->∀ y,y<g.Blocks.length->((i:Int)+1)∉UI (bA g y)):=by
 rw[oc,List.nodup_append,List.nodup_iff_pairwise_ne (l:=List.flatMap _ _),List.pairwise_flatMap]
 have hP:((List.range g.Params.length).map (λi:Nat=>(i:Int)+1)).Nodup:=by
  rw[List.nodup_iff_pairwise_ne,List.pairwise_map];exact List.Pairwise.imp (λ{a b} (h:a<b)=>by omega) List.pairwise_lt_range
 constructor
 ·rintro⟨_,⟨h1,h2⟩,h3⟩;refine⟨λy hy=>List.nodup_iff_pairwise_ne.2 (h1 y (zzL45.2 hy)),?_,λi hi y hy hv=>h3 _ (zzL21.2 ⟨i,zzL45.2 hi,rfl⟩) _ (zzL48.2 ⟨y,zzL45.2 hy,hv⟩) rfl⟩
  have key:∀ y z,y<z->z<g.Blocks.length->∀ v∈UI (bA g y),v∉UI (bA g z):=λy z hyz hz v h4 h5=>by
   have:=(zzL91.1 h2) y z (by simp;omega) (by simpa using hz) hyz;simp only[List.getElem_range]at this;exact this v h4 v h5 rfl
  intro y z hy hz hne v h4 h5;rcases Nat.lt_or_gt_of_ne hne with e|e
  ·exact key y z e hz v h4 h5
  ·exact key z y e hy v h5 h4
 ·rintro⟨h1,h2,h3⟩;refine⟨hP,⟨λy hy=>List.nodup_iff_pairwise_ne.1 (h1 y (zzL45.1 hy)),?_⟩,λa ha b hb hab=>?_⟩
  ·refine List.Pairwise.imp_of_mem (λ{a b} ha hb hab v hv w hw e=>?_) (List.pairwise_lt_range (n:=g.Blocks.length));exact h2 a b (zzL45.1 ha) (zzL45.1 hb) (by omega) v hv (e▸hw)
  ·obtain⟨i,hi,rfl⟩:=zzL21.1 ha;obtain⟨y,hy,hv⟩:=zzL48.1 hb;exact h3 i (zzL45.1 hi) y (zzL45.1 hy) (hab▸hv)
def IQ(y k:Nat):Nat:=if k<y then k else k+1
def psJ(x y b:Nat):Nat:=if y<(if b=y then x else b) then(if b=y then x else b)-1 else(if b=y then x else b)
def ls(x y:Nat)(a:Int):Int:=((psJ x y a.toNat:Nat):Int)
def VR(ps:List Bc)(v:Int):Int:=match ps.find? (λp=>p.Dst==v) with|some p=>p.Args.getD 0 0|none=>v
def ND(l:List (Int×Int))(e:Int×Int):List (Int×Int):=l.takeWhile (λp=>decide (p.1<e.1))++e::l.dropWhile (λp=>decide (p.1<e.1))
def Zv(l:List (Int×Int)):List (Int×Int):=l.foldl ND []
def Ov(v:Int->Int)(x y:Nat)(p:Bc):List (Int×Int):=List.zip (p.From.map (ls x y)) (p.Args.map v)
def NL(v:Int->Int)(x y:Nat)(p:Bc):Bc:=⟨p.Bits,p.Dst,(Zv (Ov v x y p)).map (·.1),(Zv (Ov v x y p)).map (·.2)⟩
def mb(v:Int->Int)(o:Bz):Bz:=⟨o.Kind,o.Bits,o.Lanes,o.Dst,o.Args.map v,o.Imm⟩
def oh(v:Int->Int)(x y:Nat)(e:On):On:=⟨e.Kind,v e.Arg,e.To.map (ls x y)⟩
def GS(v:Int->Int)(x y:Nat)(b:Ae):Ae:=⟨b.Phis.map (NL v x y),b.Ops.map (mb v),oh v x y b.End⟩
def Kd(f:TFunc)(x y i:Nat):Ae:=if i=x then⟨(bA f x).Phis,(bA f x).Ops++(bA f y).Ops,(bA f y).End⟩ else bA f i
def vJ(f:TFunc)(y:Nat):Int->Int:=VR (bA f y).Phis
def Ca(f:TFunc)(x y:Nat):TFunc:=⟨f.Params,f.Ret,(List.range (f.Blocks.length-1)).map λk=>GS (vJ f y) x y (Kd f x y (IQ y k))⟩
structure Jn(f:TFunc)(x y:Nat):Prop where
 hx:x<f.Blocks.length
 kind:(bA f x).End.Kind=1
 to:(bA f x).End.To=[(y:Int)]
 ne:y≠x
 pred:prF f y=[(x:Int)]
def UD(f:TFunc)(x y:Nat):Prop:=(y:Int)∈(bA f x).End.To
def Tg(x y a:Nat):Nat:=if a=x then y else a
theorem Qz{g:TFunc}(hg:Gp g=true){y:Nat}(hy:y<g.Blocks.length){x:Int}:x∈prF g y↔∃ p:Nat,x=(p:Int)/\p<g.Blocks.length/\UD g p y:=by
 unfold prF;have hl:=Lv g;rw[BL (Jo hg) (by omega)]
 constructor
 ·rintro⟨p,h1,h2,h3⟩;exact⟨p,h1,by omega,(qB (Jo hg) (by omega)).1 h3⟩
 ·rintro⟨p,h1,h2,h3⟩;exact⟨p,h1,by omega,(qB (Jo hg) h2).2 h3⟩
theorem FO{f:TFunc}(hs:Gp f=true){a:Nat}(ha:a<f.Blocks.length){z:Int}(hz:z∈(bA f a).End.To):∃ c:Nat,z=(c:Int)/\c<f.Blocks.length/\0<c/\UD f a c:=by
 have h:=toB_iff.1 (ZM ((shape_iff.1 hs).2 a ha)) z hz;refine⟨z.toNat,by omega,by omega,by omega,?_⟩;unfold UD;rw[show((z.toNat:Nat):Int)=z by omega];exact hz
theorem gP{f:TFunc}(hs:Gp f=true){a b:Nat}(ha:a<f.Blocks.length)(h:UD f a b):b<f.Blocks.length/\0<b:=by
 obtain⟨c,h1,h2,h3,_⟩:=FO hs ha h;omega
theorem Ss{f:TFunc}(hs:Gp f=true){a b:Nat}(ha:a<f.Blocks.length):b∈sN (A1 f) a↔UD f a b:=qB (Jo hs) ha
theorem gh{f:TFunc}(hs:Gp f=true){b:Nat}(h:Rc (sN (A1 f)) 0 b):b<f.Blocks.length:=by
 have h0:=(shape_iff.1 hs).1.1
 induction h with
 | root=>omega
 | step hx hy ih=>exact(gP hs ih ((Ss hs ih).1 hy)).1
theorem ye{S:Nat->List Nat}{r z b:Nat}(h:Av S r z b):Rc S r b:=by
 induction h with
 | root=>exact .root
 | step _ hy _ ih=>exact .step ih hy
theorem um{S:Nat->List Nat}{r z b:Nat}(h:Av S r z b):b≠z:=by
 cases h with
 | root h=>exact h
 | step _ _ h=>exact h
theorem av_split{S:Nat->List Nat}{r a b c:Nat}(h:Av S r a c):Av S r b c\/Av S r a b:=by
 induction h with
 | root h=>
  by_cases e:r=b
  ·subst e;exact .inr (.root h)
  ·exact .inl (.root e)
 | @step x y h hy hz ih=>
  rcases ih with h1|h1
  ·by_cases e:y=b
   ·subst e;exact .inr (.step h hy hz)
   ·exact .inl (.step h1 hy e)
  ·exact .inr h1
section
variable {f:TFunc} (hs:Gp f=true)
include hs
theorem Vv{a b:Nat}(ha:a<f.Blocks.length)(hb:b<f.Blocks.length):Ls (B7 f) (a:Int) (b:Int)=true↔Rc (sN (A1 f)) 0 b/\¬ Av (sN (A1 f)) 0 a b:=
 t6 (Jo hs) (by have:=(shape_iff.1 hs).1.1;omega) ha hb
theorem RD{a b c:Nat}(ha:a<f.Blocks.length)(hb:b<f.Blocks.length)(hc:c<f.Blocks.length)(h1:Ls (B7 f) (a:Int) (b:Int)=true)(h2:Ls (B7 f) (b:Int) (c:Int)=true):Ls (B7 f) (a:Int) (c:Int)=true:=by
 rw[Vv hs ha hb]at h1;rw[Vv hs hb hc]at h2;refine(Vv hs ha hc).2 ⟨h2.1,λh=>?_⟩;rcases av_split (b:=b) h with e|e
 ·exact h2.2 e
 ·exact h1.2 e
end
theorem up_eq(y k:Nat):(k<y/\IQ y k=k)\/(y<=k/\IQ y k=k+1):=by unfold IQ;split<;>omega
theorem ps_eq{x y:Nat}(hne:y≠x)(b:Nat):(b=y/\psJ x y b=psJ x y x)\/(b<y/\psJ x y b=b)\/(y<b/\psJ x y b=b-1):=by
 unfold psJ
 by_cases e:b=y
 ·left;subst e;simp
 ·rw[if_neg e]
  by_cases h:y<b
  ·rw[if_pos h];omega
  ·rw[if_neg h];omega
theorem dn{x y:Nat}(hne:y≠x)(k:Nat):psJ x y (IQ y k)=k:=by
 rcases up_eq y k with⟨h,e⟩|⟨h,e⟩<;>rw[e]
 ·rcases ps_eq hne k with h1|h1|h1<;>omega
 ·rcases ps_eq hne (k+1) with h1|h1|h1<;>omega
theorem qQ{x y:Nat}(hne:y≠x){b:Nat}(hb:b≠y):IQ y (psJ x y b)=b:=by
 rcases ps_eq hne b with h|⟨h,e⟩|⟨h,e⟩
 ·omega
 ·rw[e];rcases up_eq y b with h1|h1<;>omega
 ·rw[e];rcases up_eq y (b-1) with h1|h1<;>omega
theorem YA(y k:Nat):IQ y k≠y:=by rcases up_eq y k with h|h<;>omega
theorem ge{x y:Nat}(hne:y≠x){b c:Nat}(hb:b≠y)(hc:c≠y)(h:psJ x y b=psJ x y c):b=c:=by
 rw[<- qQ hne hb,<- qQ hne hc,h]
theorem zJ{x y n:Nat}(hne:y≠x)(hx:x<n)(hy:y<n){b:Nat}(hb:b<n):psJ x y b<n-1:=by
 rcases ps_eq hne b with⟨_,e⟩|h|h
 ·rw[e];rcases ps_eq hne x with h|h|h<;>omega
 ·omega
 ·omega
theorem eL{y n k:Nat}(hy:y<n)(hk:k<n-1):IQ y k<n:=by rcases up_eq y k with h|h<;>omega
theorem Pf(x y b:Nat):ls x y (b:Int)=((psJ x y b:Nat):Int):=by unfold ls;rw[Am]
section
variable {f:TFunc} {x y:Nat} (J:Jn f x y) (hs:Gp f=true)
include J
theorem Oj:(Ca f x y).Blocks.length=f.Blocks.length-1:=by
 show(List.map _ _).length=_;rw[Dy,Vb]
theorem yr{k:Nat}(hk:k<f.Blocks.length-1):bA (Ca f x y) k=GS (vJ f y) x y (Kd f x y (IQ y k)):=O7 hk
include hs
theorem LL:y<f.Blocks.length/\0<y:=gP hs J.hx (by unfold UD;rw[J.to];exact zzL16.2 rfl)
theorem V7{b:Nat}(hb:b<f.Blocks.length):psJ x y b<f.Blocks.length-1:=zJ J.ne J.hx (LL J hs).1 hb
theorem s8{b:Nat}(hb:b<f.Blocks.length)(hne:b≠y):bA (Ca f x y) (psJ x y b)=GS (vJ f y) x y (Kd f x y b):=by
 rw[yr J (V7 J hs hb),qQ J.ne hne]
theorem SJ{a:Nat}(ha:a<f.Blocks.length)(h:UD f a y):a=x:=by
 have:(a:Int)∈prF f y:=(Qz hs (LL J hs).1).2 ⟨a,rfl,ha,h⟩;rw[J.pred,zzL16]at this;omega
theorem Yh{a:Nat}(ha:a<f.Blocks.length):Tg x y a<f.Blocks.length:=by
 unfold Tg;split
 ·exact(LL J hs).1
 ·exact ha
theorem gx{a b:Nat}(ha:a<f.Blocks.length)(hay:a≠y)(h:UD f (Tg x y a) b):b≠y:=by
 intro e;subst e;have:=SJ J hs (Yh J hs ha) h;unfold Tg at this
 split at this
 ·exact J.ne this
 ·omega
theorem PS{a:Nat}(ha:a<f.Blocks.length)(hay:a≠y):(bA (Ca f x y) (psJ x y a)).End=oh (vJ f y) x y (bA f (Tg x y a)).End:=by
 rw[s8 J hs ha hay];unfold GS Kd Tg
 split
 ·rfl
 ·rfl
theorem s6{a b:Nat}(ha:a<f.Blocks.length)(hay:a≠y)(hb:b≠y):UD (Ca f x y) (psJ x y a) (psJ x y b)↔UD f (Tg x y a) b:=by
 unfold UD;rw[PS J hs ha hay]
 constructor
 ·intro h;obtain⟨z,hz,e⟩:=zzL21.1 h;obtain⟨c,rfl,hc,_,hn⟩:=FO hs (Yh J hs ha) hz;rw[Pf]at e;have:c=b:=ge J.ne (gx J hs ha hay hn) hb (by omega);rw[<- this];exact hz
 ·intro h;exact zzL21.2 ⟨_,h,Pf x y b⟩
theorem yu{a:Nat}(ha:a<f.Blocks.length)(hay:a≠y){w:Nat}(h:UD (Ca f x y) (psJ x y a) w):∃ b,b<f.Blocks.length/\b≠y/\0<b/\w=psJ x y b/\UD f (Tg x y a) b:=by
 have h0:=h;unfold UD at h;rw[PS J hs ha hay]at h;obtain⟨z,hz,e⟩:=zzL21.1 h;obtain⟨c,rfl,hc,hc0,hn⟩:=FO hs (Yh J hs ha) hz;rw[Pf]at e;exact⟨c,hc,gx J hs ha hay hn,hc0,by omega,hn⟩
theorem wd:(0:Nat)≠y/\psJ x y 0=0:=by
 have:=(LL J hs).2;refine⟨by omega,?_⟩;rcases ps_eq J.ne 0 with h|h|h<;>omega
theorem j_shapeB:Gp (Ca f x y)=true:=by
 obtain⟨⟨s1,s2⟩,s3⟩:=shape_iff.1 hs;have hy:=LL J hs;have hx:=J.hx;have hne:=J.ne;refine shape_iff.2 ⟨by rw[Oj J];omega,λk hk=>?_⟩;rw[Oj J]at hk ⊢;have hu:=eL hy.1 hk
 have e:Bn (Ca f x y) k=oh (vJ f y) x y (bA f (Tg x y (IQ y k))).End:=by
  have:=PS J hs hu (YA y k);rw[dn hne]at this;exact this
 have h3:=s3 _ (Yh J hs hu);have h4:Ka (bA f (Tg x y (IQ y k))).End f.Blocks.length=true:=h3;rw[e];unfold Ka at h4 ⊢;rw[A6]at h4 ⊢;refine⟨?_,toB_iff.2 λw hw=>?_⟩
 ·have:=h4.1;unfold Yv oh at *
  simpa using this
 ·obtain⟨z,hz,rfl⟩:=zzL21.1 hw;obtain⟨c,rfl,hc,hc0,hn⟩:=FO hs (Yh J hs hu) hz;rw[Pf];have h1:=V7 J hs hc;have h2:=gx J hs hu (YA y k) hn
  have:0<psJ x y c:=by rcases ps_eq hne c with h|h|h<;>omega
  omega
theorem jU{b:Nat}(h:Rc (sN (A1 f)) 0 b):b<f.Blocks.length/\Rc (sN (A1 (Ca f x y))) 0 (psJ x y b):=by
 have hy:=LL J hs;have hgs:=j_shapeB J hs
 induction h with
 | root=>exact⟨by omega,by rw[(wd J hs).2];exact .root⟩
 | @step a b ha hb ih=>
  have hn:=(Ss hs ih.1).1 hb;have hbl:=(gP hs ih.1 hn).1;refine⟨hbl,?_⟩
  have key:∀ c,c<f.Blocks.length->c≠y->psJ x y c=psJ x y a->UD f (Tg x y c) b->b≠y->Rc (sN (A1 (Ca f x y))) 0 (psJ x y b):=λc hc hcy e hcn hby=>by
   rw[<- e]at ih;exact .step ih.2 ((Ss hgs (by rw[Oj J];exact V7 J hs hc)).2 ((s6 J hs hc hcy hby).2 hcn))
  by_cases e:b=y
  ·subst e;have:=SJ J hs ih.1 hn;subst this;rcases ps_eq J.ne b with h|h|h
   ·rw[h.2];exact ih.2
   ·omega
   ·omega
  ·by_cases ea:a=y
   ·refine key x J.hx (λh=>J.ne h.symm) ?_ ?_ e
    ·rw[ea];rcases ps_eq J.ne y with h|h|h
     ·rw[h.2]
     ·omega
     ·omega
    ·unfold Tg;rw[if_pos rfl,<- ea];exact hn
   ·by_cases ex:a=x
    ·exfalso
     unfold UD at hn;rw[ex,J.to,zzL16]at hn;omega
    ·refine key a ih.1 ea rfl ?_ e;unfold Tg;rw[if_neg ex];exact hn
theorem Aaq{a:Nat}(hay:a≠y){w:Nat}(h:Av (sN (A1 (Ca f x y))) 0 (psJ x y a) w):∃ b,b<f.Blocks.length/\b≠y/\psJ x y b=w/\Av (sN (A1 f)) 0 a b:=by
 have hy:=LL J hs;have hgs:=j_shapeB J hs
 induction h with
 | root hne=>exact⟨0,by omega,(wd J hs).1,(wd J hs).2,.root (λe=>hne (by rw[<- e,(wd J hs).2]))⟩
 | @step w w' hw hy' hz ih=>
  obtain⟨b,hb,hby,rfl,hav⟩:=ih;have hn:=(Ss hgs (by rw[Oj J];exact V7 J hs hb)).1 hy';obtain⟨c,hc,hcy,_,rfl,hnc⟩:=yu J hs hb hby hn;have hca:c≠a:=λe=>hz (by rw[e]);refine⟨c,hc,hcy,rfl,?_⟩;unfold Tg at hnc
  by_cases e:b=x
  ·rw[if_pos e]at hnc;have h1:Av (sN (A1 f)) 0 a y:=.step hav ((Ss hs hb).2 (by unfold UD;rw[e,J.to];exact zzL16.2 rfl)) (λe=>hay e.symm);exact .step h1 ((Ss hs hy.1).2 hnc) hca
  ·rw[if_neg e]at hnc;exact .step hav ((Ss hs hb).2 hnc) hca
theorem we{a b:Nat}(ha:a<f.Blocks.length)(hay:a≠y)(hb:b<f.Blocks.length)(hby:b≠y)(h:Ls (B7 f) (a:Int) (b:Int)=true):Ls (B7 (Ca f x y)) (psJ x y a:Int) (psJ x y b:Int)=true:=by
 obtain⟨h1,h2⟩:=(Vv hs ha hb).1 h;refine(Vv (j_shapeB J hs) (by rw[Oj J];exact V7 J hs ha) (by rw[Oj J];exact V7 J hs hb)).2 ⟨(jU J hs h1).2,λhav=>h2 ?_⟩;obtain⟨c,hc,hcy,e,hv⟩:=Aaq J hs hay hav;rw[<- ge J.ne hcy hby e];exact hv
theorem Aat{d:Nat}(hd:d≠y)(h:Av (sN (A1 f)) 0 d x):Av (sN (A1 f)) 0 d y:=
 .step h ((Ss hs J.hx).2 (by unfold UD;rw[J.to];exact zzL16.2 rfl)) (λe=>hd e.symm)
theorem Aav{d:Nat}(h:Av (sN (A1 f)) 0 d y):Av (sN (A1 f)) 0 d x:=by
 cases h with
 | root=>exact absurd rfl (wd J hs).1
 | @step a _ h hy _=>
  have ha:=gh hs (ye h);have:=SJ J hs ha ((Ss hs ha).1 hy);rw[<- this];exact h
theorem Aaw(h:Rc (sN (A1 f)) 0 y):Rc (sN (A1 f)) 0 x:=by
 cases h with
 | root=>exact absurd rfl (wd J hs).1
 | @step a _ h hy=>
  have ha:=gh hs h;have:=SJ J hs ha ((Ss hs ha).1 hy);rw[<- this];exact h
theorem w4{d:Nat}(hd:d<f.Blocks.length)(hdy:d≠y):Ls (B7 f) (d:Int) (y:Int)=true↔Ls (B7 f) (d:Int) (x:Int)=true:=by
 rw[Vv hs hd (LL J hs).1,Vv hs hd J.hx]
 constructor
 ·rintro⟨h1,h2⟩;exact⟨Aaw J hs h1,λh=>h2 (Aat J hs hdy h)⟩
 ·rintro⟨h1,h2⟩;exact⟨.step h1 ((Ss hs J.hx).2 (by unfold UD;rw[J.to];exact zzL16.2 rfl)),λh=>h2 (Aav J hs h)⟩
theorem gM:¬ Ls (B7 f) (y:Int) (x:Int)=true:=by
 intro h;obtain⟨h1,h2⟩:=(Vv hs (LL J hs).1 J.hx).1 h
 have key:∀ b,Rc (sN (A1 f)) 0 b->Av (sN (A1 f)) 0 y b\/Av (sN (A1 f)) 0 y x:=by
  intro b hb
  induction hb with
  | root=>exact .inl (.root (wd J hs).1)
  | @step a b ha hb ih=>
   rcases ih with ih|ih
   ·by_cases eb:b=y
    ·right
     have hal:=gh hs ha;have:=SJ J hs hal ((Ss hs hal).1 (by rw[<- eb];exact hb));rw[<- this];exact ih
    ·exact .inl (.step ih hb eb)
   ·exact .inr ih
 rcases key x h1 with h|h
 ·exact h2 h
 ·exact h2 h
end
theorem HM{α β:Type}{l:List α}{F:α->β}{d:α}{d':β}{j:Nat}(h:j<l.length):(l.map F).getD j d'=F (l.getD j d):=by
 rw[Ab _ _ _ (by rw[Dy];exact h),List.getElem_map,Ab _ _ _ h]
def ks(l:List (Int×Int)):Prop:=l.Pairwise λp q=>p.1<q.1
theorem DD(p:Int×Int)(l:List (Int×Int))(e:Int×Int):ND (p::l) e=if p.1<e.1 then p::ND l e else e::p::l:=by
 unfold ND
 by_cases h:p.1<e.1<;>simp[h]
theorem insJ_perm(e:Int×Int):∀ l:List (Int×Int),(ND l e).Perm (e::l)
 | []=>.refl _
 | p::l=>by
  rw[DD]
  split
  ·exact((insJ_perm e l).cons p).trans (.swap ..)
  ·exact .refl _
theorem ck{e:Int×Int}:∀{l:List (Int×Int)},ks l->(∀ p∈l,p.1≠e.1)->ks (ND l e)
 | [],_,_=>List.pairwise_singleton _ _
 | p::l,h,hn=>by
  rw[DD];obtain⟨h1,h2⟩:=zzL75.1 h;have hp:=hn p (by simp)
  split
  ·rename_i hlt
   refine zzL75.2 ⟨λq hq=>?_,ck h2 λq hq=>hn q (by simp[hq])⟩;rcases zzL37.1 ((insJ_perm e l).mem_iff.1 hq) with rfl|hq
   ·exact hlt
   ·exact h1 q hq
  ·refine zzL75.2 ⟨λq hq=>?_,h⟩;rcases zzL37.1 hq with rfl|hq
   ·omega
   ·have:=h1 q hq;omega
theorem jx:∀(L acc:List (Int×Int)),ks acc->((acc++L).map (·.1)).Nodup->(L.foldl ND acc).Perm (acc++L)/\ks (L.foldl ND acc)
 | [],acc,h,_=>⟨by simp,h⟩
 | e::L,acc,h,hn=>by
  rw[II];have hp:=insJ_perm e acc
  have hne:∀ p∈acc,p.1≠e.1:=λp hp he=>by
   rw[Wx,List.nodup_append]at hn;exact hn.2.2 _ (zzL21.2 ⟨p,hp,rfl⟩) _ (by simp) he
  have hpp:(acc++e::L).Perm (ND acc e++L):=by
   refine List.perm_middle.trans ?_;exact(hp.symm.append_right L)
  obtain⟨h1,h2⟩:=jx L (ND acc e) (ck h hne) ((hpp.map _).nodup_iff.1 hn);exact⟨h1.trans hpp.symm,h2⟩
theorem jy{L:List (Int×Int)}(h:(L.map (·.1)).Nodup):(Zv L).Perm L/\ks (Zv L):=by
 have:=jx L [] List.Pairwise.nil (by simpa using h)
 simpa [Zv] using this
theorem OL{v:Int->Int}{x y:Nat}{p:Bc}(h:p.Args.length=p.From.length):(Ov v x y p).map (·.1)=p.From.map (ls x y):=by
 unfold Ov;rw[List.map_fst_zip];simp[h]
theorem kA{v:Int->Int}{x y:Nat}{p:Bc}(h:p.Args.length=p.From.length):(Ov v x y p).length=p.From.length:=by
 have:=Bj List.length (OL (v:=v) (x:=x) (y:=y) h)
 simpa using this
theorem uY{v:Int->Int}{x y:Nat}{p:Bc}(h:p.Args.length=p.From.length){e:Int×Int}:e∈Ov v x y p↔∃ i,i<p.Args.length/\e=(ls x y (p.From.getD i 0),v (p.Args.getD i 0)):=by
 unfold Ov;rw[List.mem_iff_getElem]
 constructor
 ·rintro⟨i,hi,rfl⟩
  have hi':i<p.Args.length:=by simp at hi;omega
  refine⟨i,hi',?_⟩;rw[List.getElem_zip,List.getElem_map,List.getElem_map,Ab _ _ _ hi',Ab _ _ _ (by omega)]
 ·rintro⟨i,hi,rfl⟩;refine⟨i,by simp;omega,?_⟩;rw[List.getElem_zip,List.getElem_map,List.getElem_map,Ab _ _ _ hi,Ab _ _ _ (by omega)]
section
variable {f:TFunc} {x y:Nat} (J:Jn f x y) (hs:Gp f=true)
include J hs
theorem pU{a b:Nat}(ha:a<f.Blocks.length)(hb:b≠y)(h:UD f a b):a≠x:=by
 intro e;unfold UD at h;rw[e,J.to,zzL16]at h;omega
theorem u2{b:Nat}(hb:b<f.Blocks.length)(hby:b≠y):((prF f b).map (ls x y)).Nodup:=by
 rw[List.nodup_iff_pairwise_ne,List.pairwise_map];refine List.Pairwise.imp_of_mem (λ{p q} hp hq hpq e=>?_) (XL f hb);obtain⟨a,rfl,ha,hna⟩:=(Qz hs hb).1 hp;obtain⟨c,rfl,hc,hnc⟩:=(Qz hs hb).1 hq;rw[Pf,Pf]at e;have h1:=pU J hs ha hby hna;have h2:=pU J hs hc hby hnc;have hne:=J.ne
 have e':psJ x y a=psJ x y c:=by omega
 rcases ps_eq hne a with h3|h3|h3<;>rcases ps_eq hne c with h4|h4|h4<;>rcases ps_eq hne x with h5|h5|h5<;>omega
theorem pC{b:Nat}(hb:b<f.Blocks.length)(hby:b≠y){z:Int}:z∈prF (Ca f x y) (psJ x y b)↔z∈(prF f b).map (ls x y):=by
 have hgs:=j_shapeB J hs
 have hbl:psJ x y b<(Ca f x y).Blocks.length:=by rw[Oj J];exact V7 J hs hb
 rw[Qz hgs hbl,zzL21]
 constructor
 ·rintro⟨w,rfl,hw,hn⟩;rw[Oj J]at hw;have hu:=eL (LL J hs).1 hw;have e:=dn J.ne (x:=x) (y:=y) w;rw[<- e,s6 J hs hu (YA y w) hby]at hn;refine⟨(Tg x y (IQ y w):Int),(Qz hs hb).2 ⟨_,rfl,Yh J hs hu,hn⟩,?_⟩;rw[Pf];unfold Tg
  split
  ·rename_i h
   rcases ps_eq J.ne y with h1|h1|h1
   ·rw[h1.2];rw[h]at e;omega
   ·omega
   ·omega
  ·rw[e]
 ·rintro⟨q,hq,rfl⟩;obtain⟨c,rfl,hc,hnc⟩:=(Qz hs hb).1 hq;rw[Pf];have hcx:=pU J hs hc hby hnc
  by_cases e:c=y
  ·refine⟨psJ x y x,?_,by rw[Oj J];exact V7 J hs J.hx,(s6 J hs J.hx (λh=>J.ne h.symm) hby).2 (by unfold Tg;rw[if_pos rfl,<- e];exact hnc)⟩;rcases ps_eq J.ne c with h1|h1|h1
   ·rw[h1.2]
   ·omega
   ·omega
  ·exact⟨psJ x y c,rfl,by rw[Oj J];exact V7 J hs hc,(s6 J hs hc e hby).2 (by unfold Tg;rw[if_neg hcx];exact hnc)⟩
theorem OE{v:Int->Int}{b:Nat}(hb:b<f.Blocks.length)(hby:b≠y){p:Bc}(h1:p.From=prF f b)(h2:p.Args.length=p.From.length) :
  (NL v x y p).From=prF (Ca f x y) (psJ x y b)/\(NL v x y p).Args.length=p.Args.length/\(NL v x y p).From.length=p.From.length/\(Zv (Ov v x y p)).Perm (Ov v x y p)/\ks (Zv (Ov v x y p)):=by
 have hnd:((Ov v x y p).map (·.1)).Nodup:=by rw[OL h2,h1];exact u2 J hs hb hby
 obtain⟨k1,k2⟩:=jy hnd
 have hbl:psJ x y b<(Ca f x y).Blocks.length:=by rw[Oj J];exact V7 J hs hb
 have hl:(Zv (Ov v x y p)).length=p.From.length:=by rw[k1.length_eq,kA h2]
 refine⟨?_,by show(List.map _ _).length=_;rw[Dy,hl,h2],by show(List.map _ _).length=_;rw[Dy,hl],k1,k2⟩;refine FN ?_ (XL _ hbl) λz=>?_
 ·show(List.map _ _).Pairwise _
  rw[List.pairwise_map];exact k2
 ·rw[pC J hs hb hby,<- h1,<- OL (v:=v) h2];exact(k1.map _).mem_iff
theorem jn{v:Int->Int}{p:Bc}(h2:p.Args.length=p.From.length)(hp:(Zv (Ov v x y p)).Perm (Ov v x y p)){j:Nat}(hj:j<(NL v x y p).Args.length) :
  ∃ i,i<p.Args.length/\(NL v x y p).From.getD j 0=ls x y (p.From.getD i 0)/\(NL v x y p).Args.getD j 0=v (p.Args.getD i 0):=by
 have hj':j<(Zv (Ov v x y p)).length:=by
  have:j<(List.map _ _).length:=hj;rwa[Dy]at this
 obtain⟨i,hi,e⟩:=(uY h2).1 (hp.mem_iff.1 (KL hj'));refine⟨i,hi,?_,?_⟩
 ·show(List.map _ _).getD j 0=_
  rw[Ab _ _ _ (by rw[Dy];exact hj'),List.getElem_map,e]
 ·show(List.map _ _).getD j 0=_
  rw[Ab _ _ _ (by rw[Dy];exact hj'),List.getElem_map,e]
end
theorem Bd{f:TFunc}{l:Int}(R:Zw f l):Gp f=true:=by
 have:=R.shape;unfold Fe at this;rw[A6]at this;exact this.1
theorem Hh{f:TFunc}{l:Int}(R:Zw f l):∀ b∈f.Blocks,∀ o∈b.Ops,Gr o=true:=λb hb o ho=>u3 R hb ho
theorem Tc{f:TFunc}{l:Int}(R:Zw f l){b:Nat}(hb:b<f.Blocks.length){p:Bc}(hp:p∈(bA f b).Phis):p.From=prF f b/\p.Args.length=p.From.length:=by
 have hs:=R.shape;unfold Fe at hs;rw[A6]at hs;have:=fO hs.2 b hb;unfold K7 at this;simp only[A6,zzL26]at this;have:=this.2 p hp;unfold Jm at this;rw[A6,Gq,zzL63]at this;refine⟨this.1,?_⟩;rw[this.1];omega
theorem Wj{f:TFunc}{l:Int}(R:Zw f l){b:Nat}(hb:b<f.Blocks.length):Rc (sN (A1 f)) 0 b/\((bA f b).End.Kind=1\/(bA f b).End.Kind=3->(bA f b).End.Arg=0):=by
 have hs:=R.shape;unfold Fe at hs;rw[A6]at hs;have h0:=(shape_iff.1 hs.1).1.1;have:=fO hs.2 b hb;unfold K7 at this;simp only[A6]at this;refine⟨(d8 (Jo hs.1) (by omega) b).1 this.1.1,λh=>?_⟩;have h2:=this.1.2;rcases h with h|h<;>rw[h]at h2<;>simpa using h2
theorem MG{f:TFunc}(hs:Gp f=true)(h:∀ b,b<f.Blocks.length->Rc (sN (A1 f)) 0 b/\((bA f b).End.Kind=1\/(bA f b).End.Kind=3->(bA f b).End.Arg=0)/\∀ p∈(bA f b).Phis,p.From=prF f b/\p.Args.length=p.From.length):Fe f=true:=by
 have h0:=(shape_iff.1 hs).1.1;unfold Fe;rw[hs,Ld,zzL26];intro b hb;rw[zzL45]at hb;obtain⟨h1,h2,h3⟩:=h b hb;unfold K7;simp only[A6,zzL26];refine⟨⟨(d8 (Jo hs) (by omega) b).2 h1,?_⟩,λp hp=>?_⟩
 ·by_cases hk:(bA f b).End.Kind=1\/(bA f b).End.Kind=3
  ·rw[h2 hk];simp
  ·have e:((bA f b).End.Kind==1 || (bA f b).End.Kind==3)=false:=by
    rw[KI,zzL30,zzL30];exact⟨λh=>hk (.inl h),λh=>hk (.inr h)⟩
   rw[e];rfl
 ·obtain⟨e1,e2⟩:=h3 p hp;unfold Jm;rw[A6,Gq,zzL63];refine⟨e1,?_⟩;have e3:(Dp (A1 f)).getD b []=prF f b:=rfl;rw[e3,<- e1];omega
theorem jj{v:Int->Int}{o:Bz}(h:Gr o=true)(hv:∀ a∈o.Args,valS (v a)=true):Gr (mb v o)=true:=by
 simp only[Gr,A6]at h ⊢;refine⟨⟨h.1.1,⟨h.1.2.1,?_⟩⟩,?_,h.2.2⟩
 ·have:=h.1.2.2;unfold mb;rw[Dy];exact this
 ·unfold mb;rw[List.all_map,zzL26];exact hv
theorem ln{v:Int->Int}{l:Int}{o:Bz}(h:K2 l o=true)(hv:∀ a∈o.Args,valS (v a)=true):K2 l (mb v o)=true:=by
 have hm:=jj (Wq h) hv;have hm0:=Wq h;unfold K2 at h ⊢;rw[hm];rw[hm0]at h;exact h
theorem XG{v:Int->Int}{o:Bz}(h:Gr o=true)(hv:∀ a∈o.Args,valS (v a)=true):H1 (mb v o)=H1 o:=by
 rw[PP (jj h hv),PP h];rfl
def PhY(y:Nat)(d:Cg):Prop:=d.Block=(y:Int)/\d.At = -1
section
variable {f:TFunc} {x y:Nat} {l:Int} (J:Jn f x y) (R:Zw f l)
include J R
theorem YF{p:Bc}(hp:p∈(bA f y).Phis):p.Args.length=1/\(⟨p.Args.getD 0 0,(x:Int),1000,(p.Bits,1)⟩:D2)∈Bg f/\(⟨p.Dst,(y:Int),-1,(p.Bits,1)⟩:Cg)∈As f:=by
 have hs:=Bd R;have hy:=(LL J hs).1;obtain⟨h1,h2⟩:=Tc R hy hp;rw[J.pred]at h1;rw[h1,EQ]at h2;obtain⟨k,hk,e⟩:=G6 hp
 have e':(bA f y).Phis.getD k default=p:=by rw[Ab _ _ _ hk];exact e
 refine⟨h2,?_,ri_def.2 (.inr ⟨y,hy,.inl ⟨k,hk,by rw[e']⟩⟩)⟩;refine(H0 (Hh R)).2 ⟨y,hy,.inl ⟨k,0,hk,by rw[e'];omega,?_⟩⟩;rw[e',h1];rfl
theorem qT{d:Cg}(hd:d∈As f){b:Nat}(hb:b<f.Blocks.length){a:Int}(ha:0<=a)(ht:ku f d (b:Int) a) :
  ∃ e∈As f,e.V=vJ f y d.V/\e.Shape=d.Shape/\ku f e (b:Int) a/\¬ PhY y e:=by
 have hs:=Bd R;have hy:=LL J hs;unfold vJ VR
 cases hq:(bA f y).Phis.find? (λp=>p.Dst==d.V) with
 | none=>
  refine⟨d,hd,rfl,rfl,ht,λ⟨h1,h2⟩=>?_⟩;rcases ri_def.1 hd with⟨i,hi,e⟩|⟨i,hi,⟨k,hk,e⟩|⟨k,hk,hg,e⟩⟩
  ·rw[e]at h1;have:(-1:Int)=(y:Int):=h1;omega
  ·rw[e]at h1
   have hiy:i=y:=by have:(i:Int)=(y:Int):=h1;omega
   subst hiy;have:=List.find?_eq_none.1 hq _ (Ag (d:=(default:Bc)) hk);rw[e]at this;simp at this
  ·rw[e]at h2;have:(k:Int) = -1:=h2;omega
 | some p=>
  have hp:=List.mem_of_find?_eq_some hq
  have hpv:p.Dst=d.V:=by simpa using List.find?_some hq
  obtain⟨_,hu,hdp⟩:=YF J R hp;have hde:=qA R hd hdp hpv.symm;obtain⟨e,he,ev,es,et⟩:=JY R hu
  have hen:∀ i:Nat,e.Block=(i:Int)->i<f.Blocks.length:=λi hi=>by
   rcases ri_def.1 he with⟨j,_,e'⟩|⟨j,hj,⟨k,hk,e'⟩|⟨k,hk,hg,e'⟩⟩<;>rw[e']at hi
   ·have:(-1:Int)=(i:Int):=hi;omega
   ·have:(j:Int)=(i:Int):=hi;omega
   ·have:(j:Int)=(i:Int):=hi;omega
  have hnb:∀ i:Nat,e.Block=(i:Int)->Ls (B7 f) (i:Int) (x:Int)=true/\i≠y:=λi hi=>by
   have hin:=hen i hi
   have hov:Ls (B7 f) (i:Int) (x:Int)=true:=by
    rcases et with h|⟨h,_⟩|⟨_,h⟩
    ·omega
    ·have h:e.Block=(x:Int):=h
     have:i=x:=by omega
     rw[this];exact(Vv hs J.hx J.hx).2 ⟨(Wj R J.hx).1,λh=>um h rfl⟩
    ·rw[hi]at h;exact h
   exact⟨hov,λe=>gM J hs (by rw[<- e];exact hov)⟩
  refine⟨e,he,ev,by rw[es,hde],?_,λ⟨h1,_⟩=>(hnb y h1).2 rfl⟩
  by_cases h0:e.Block<0
  ·exact .inl h0
  ·obtain⟨i,hi⟩:∃ i:Nat,e.Block=(i:Int):=⟨e.Block.toNat,by omega⟩;have hin:=hen i hi;obtain⟨hov,hiy⟩:=hnb i hi;have hovy:Ls (B7 f) (i:Int) (y:Int)=true:=(w4 J hs hin hiy).2 hov;rw[hde]at ht;refine .inr (.inr ?_);rw[hi];rcases ht with h|⟨h,_⟩|⟨h1,h2⟩
   ·have:(y:Int)<0:=h;omega
   ·have h:(y:Int)=(b:Int):=h
    have:b=y:=by omega
    subst this;exact⟨by omega,hovy⟩
   ·have h1:(y:Int)≠(b:Int):=h1;have h2:Ls (B7 f) (y:Int) (b:Int)=true:=h2;refine⟨λe=>?_,RD hs hin hy.1 hb hovy h2⟩
    have:i=b:=by omega
    subst this;exact gM J hs (RD hs hy.1 hin J.hx h2 hov)
theorem w8{d:Cg}(hd:d∈As f):valS (vJ f y d.V)=true:=by
 unfold vJ VR
 cases hq:(bA f y).Phis.find? (λp=>p.Dst==d.V) with
 | none=>exact Yg R hd
 | some p=>
  obtain⟨_,hu,_⟩:=YF J R (List.mem_of_find?_eq_some hq);obtain⟨e,he,ev,_⟩:=JY R hu;have:=Yg R he;rw[ev]at this;exact this
theorem bJ{u:D2}(hu:u∈Bg f):valS (vJ f y u.V)=true:=by
 obtain⟨d,hd,e,_⟩:=JY R hu;rw[<- e];exact w8 J R hd
theorem bC{b:Nat}(hb:b<f.Blocks.length){o:Bz}(ho:o∈(bA f b).Ops):∀ a∈o.Args,valS (vJ f y a)=true:=λa ha=>by
 obtain⟨k,hk,e⟩:=G6 ho;obtain⟨j,hj,e2⟩:=G6 ha
 have e':(bA f b).Ops.getD k default=o:=by rw[Ab _ _ _ hk];exact e
 have:=bJ J R ((H0 (Hh R)).2 ⟨b,hb,.inr (.inl ⟨k,j,hk,by rw[e'];exact hj,rfl⟩)⟩);rw[e',Ab _ _ _ hj,e2]at this;exact this
def offJ(f:TFunc)(x y b:Nat):Nat:=if b=y then(bA f x).Ops.length else 0
theorem JF{b:Nat}(hb:b<f.Blocks.length)(hby:b≠y):(bA (Ca f x y) (psJ x y b)).Phis=(bA f b).Phis.map (NL (vJ f y) x y):=by
 rw[s8 J (Bd R) hb hby];unfold GS Kd
 split
 ·rename_i e;rw[e]
 ·rfl
theorem PT:(bA (Ca f x y) (psJ x y x)).Ops=((bA f x).Ops++(bA f y).Ops).map (mb (vJ f y)):=by
 rw[s8 J (Bd R) J.hx (λh=>J.ne h.symm)];unfold GS Kd;rw[if_pos rfl]
theorem jT{b:Nat}(hb:b<f.Blocks.length)(hby:b≠y)(hbx:b≠x):(bA (Ca f x y) (psJ x y b)).Ops=(bA f b).Ops.map (mb (vJ f y)):=by
 rw[s8 J (Bd R) hb hby];unfold GS Kd;rw[if_neg hbx]
theorem pn:psJ x y y=psJ x y x:=by rcases ps_eq J.ne y with h|h|h<;>omega
theorem s7{b:Nat}(hb:b<f.Blocks.length){k:Nat}(hk:k<(bA f b).Ops.length):k+offJ f x y b<(bA (Ca f x y) (psJ x y b)).Ops.length/\(bA (Ca f x y) (psJ x y b)).Ops.getD (k+offJ f x y b) default=mb (vJ f y) ((bA f b).Ops.getD k default):=by
 unfold offJ
 by_cases ey:b=y
 ·subst ey;rw[if_pos rfl,pn J R,PT J R];refine⟨by rw[Dy,Fh];omega,?_⟩;rw[Ab _ _ _ (by rw[Dy,Fh];omega),List.getElem_map,List.getElem_append_right (by omega),Ab _ _ _ hk]
  congr 2;omega
 ·rw[if_neg ey,M8]
  by_cases ex:b=x
  ·subst ex;rw[PT J R];refine⟨by rw[Dy,Fh];omega,?_⟩;rw[Ab _ _ _ (by rw[Dy,Fh];omega),List.getElem_map,List.getElem_append_left hk,Ab _ _ _ hk]
  ·rw[jT J R hb ey ex];refine⟨by rw[Dy];exact hk,?_⟩;rw[Ab _ _ _ (by rw[Dy];exact hk),List.getElem_map,Ab _ _ _ hk]
theorem mvJ{d:Cg}(hd:d∈As f){i:Nat}(hi:d.Block=(i:Int))(hp:¬ PhY y d):∃ e∈As (Ca f x y),e.V=d.V/\e.Shape=d.Shape/\e.Block=(psJ x y i:Int)/\e.At=d.At+(offJ f x y i:Int)/\i<f.Blocks.length/\d.At<((bA f i).Ops.length:Int):=by
 have hs:=Bd R;rcases ri_def.1 hd with⟨j,_,e⟩|⟨j,hj,h'⟩
 ·rw[e]at hi;have:(-1:Int)=(i:Int):=hi;omega
 ·have hij:j=i:=by rcases h' with⟨k,_,e⟩|⟨k,_,_,e⟩<;>rw[e]at hi<;>exact(by have:(j:Int)=(i:Int):=hi;omega)
  subst hij
  have hpl:psJ x y j<(Ca f x y).Blocks.length:=by rw[Oj J];exact V7 J hs hj
  rcases h' with⟨k,hk,e⟩|⟨k,hk,hg,e⟩
  ·have hjy:j≠y:=λh=>hp ⟨by rw[e,h],by rw[e]⟩;have h1:=JF J R hj hjy;refine⟨_,ri_def.2 (.inr ⟨_,hpl,.inl ⟨k,by rw[h1,Dy];exact hk,rfl⟩⟩),?_,?_,rfl,?_,hj,by rw[e];show(-1:Int)<_;omega⟩
   ·rw[h1,Ab _ _ _ (by rw[Dy];exact hk),List.getElem_map,e,Ab _ _ _ hk];rfl
   ·rw[h1,Ab _ _ _ (by rw[Dy];exact hk),List.getElem_map,e,Ab _ _ _ hk];rfl
   ·rw[e];unfold offJ;rw[if_neg hjy];rfl
  ·obtain⟨h1,h2⟩:=s7 J R hj hk;have hm:=Hh R _ (Ag (d:=default) hj) _ (Ag (d:=default) hk);have hv:=bC J R hj (Ag (d:=default) hk);have hgv:=XG hm hv;refine⟨_,ri_def.2 (.inr ⟨_,hpl,.inr ⟨k+offJ f x y j,h1,by rw[h2,hgv];exact hg,rfl⟩⟩),?_,?_,rfl,?_,hj,by rw[e];show(k:Int)<_;omega⟩
   ·rw[h2,e];rfl
   ·rw[h2,hgv,e]
   ·rw[e];show((k+offJ f x y j:Nat):Int)=(k:Int)+_;omega
theorem trJ{d:Cg}(hd:d∈As f)(hp:¬ PhY y d){b:Nat}(hb:b<f.Blocks.length){a:Int}(ha:0<=a)(ht:ku f d (b:Int) a) :
  ∃ e∈As (Ca f x y),e.V=d.V/\e.Shape=d.Shape/\ku (Ca f x y) e (psJ x y b) (a+(offJ f x y b:Int)):=by
 have hs:=Bd R;have hy:=LL J hs
 by_cases h0:d.Block<0
 ·rcases ri_def.1 hd with⟨j,hj,e⟩|⟨j,hj,h'⟩
  ·exact⟨d,ri_def.2 (.inl ⟨j,hj,e⟩),rfl,rfl,.inl h0⟩
  ·exfalso
   rcases h' with⟨k,_,e⟩|⟨k,_,_,e⟩<;>rw[e]at h0<;>exact absurd h0 (by show ¬ (j:Int)<0;omega)
 ·obtain⟨i,hi⟩:∃ i:Nat,d.Block=(i:Int):=⟨d.Block.toNat,by omega⟩;obtain⟨e,he,ev,es,eb,ea,hin,hat⟩:=mvJ J R hd hi hp;refine⟨e,he,ev,es,?_⟩;have hpy:=pn J R
  have key:∀ c c',c<f.Blocks.length->c≠y->c'<f.Blocks.length->c'≠y->psJ x y c=psJ x y i->psJ x y c'=psJ x y b->c≠c'->Ls (B7 f) (c:Int) (c':Int)=true->ku (Ca f x y) e (psJ x y b) (a+(offJ f x y b:Int)):=λc c' hc hcy hc' hcy' e1 e2 hne ho=>by
   refine .inr (.inr ⟨?_,?_⟩)
   ·rw[eb,<- e1,<- e2];intro h;exact hne (ge J.ne hcy hcy' (by omega))
   ·rw[eb,<- e1,<- e2];exact we J hs hc hcy hc' hcy' ho
  rcases ht with h|⟨h1,h2⟩|⟨h1,h2⟩
  ·exact absurd h h0
  ·have:i=b:=by omega
   subst this;exact .inr (.inl ⟨eb,by rw[ea];omega⟩)
  ·rw[hi]at h1 h2;have hib:i≠b:=λh=>h1 (by rw[h])
   by_cases eiy:i=y
   ·subst eiy;have hxb:Ls (B7 f) (x:Int) (b:Int)=true:=RD hs J.hx hin hb ((w4 J hs J.hx (λh=>J.ne h.symm)).2 ((Vv hs J.hx J.hx).2 ⟨(Wj R J.hx).1,λh=>um h rfl⟩)) h2;have hbx:x≠b:=λh=>gM J hs (by rw[h];exact h2);exact key x b J.hx (λh=>J.ne h.symm) hb (λh=>hib h.symm) hpy.symm rfl hbx hxb
   ·by_cases eby:b=y
    ·subst eby
     by_cases eix:i=x
     ·subst eix;refine .inr (.inl ⟨by rw[eb,hpy],?_⟩);rw[ea];unfold offJ;rw[if_neg (λh=>J.ne h.symm),if_pos rfl];omega
     ·exact key i x hin eiy J.hx (λh=>J.ne h.symm) rfl hpy.symm eix ((w4 J hs hin eiy).1 h2)
    ·exact key i b hin eiy hb eby rfl rfl hib h2
theorem mL{u:D2}(hu:u∈Bg f){b:Nat}(hb:b<f.Blocks.length)(e1:u.Block=(b:Int))(ha:0<=u.At) :
  ∃ e∈As (Ca f x y),e.V=vJ f y u.V/\e.Shape=u.Shape/\ku (Ca f x y) e (psJ x y b) (u.At+(offJ f x y b:Int)):=by
 obtain⟨d,hd,hv,hsh,ht⟩:=JY R hu;rw[e1]at ht;obtain⟨d1,hd1,v1,s1,t1,p1⟩:=qT J R hd hb ha ht;obtain⟨e,he,ev,es,et⟩:=trJ J R hd1 p1 hb ha t1;exact⟨e,he,by rw[ev,v1,hv],by rw[es,s1,hsh],et⟩
end
end
end Go.Proofs.YtfhggcbcamamdaaGreat
