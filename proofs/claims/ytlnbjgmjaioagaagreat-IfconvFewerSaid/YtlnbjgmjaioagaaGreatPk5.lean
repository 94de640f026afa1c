/-
  The machine, the program's functions and the laws' arithmetic: part 5 of 6.
-/
import Derived.Test.YtlnbjgmjaioagaaGreatPk4
import Derived.Lib.RowBridge
set_option linter.unusedSectionVars false
set_option linter.unusedVariables false
set_option linter.unusedSimpArgs false
namespace Go.Proofs.YtlnbjgmjaioagaaGreat
noncomputable section
open Go Go.RowKit
def Pf(p:Bh):List Db:=(List.range p.Args.length).flatMap λ(j:Nat)=>[⟨p.Args.getD j 0,p.From.getD j 0,1000,(p.Bits,1)⟩]
def Oj(b:Ab):List Db:=(List.range b.Phis.length).flatMap λ(k:Nat)=>Pf (b.Phis.getD k default)
def So(o:A2)(i k:Nat):List Db:=(List.range (Jg o).length).flatMap λ(j:Nat)=>[⟨o.Args.getD j 0,i,k,(Jg o).getD j (0,0)⟩]
def U3(b:Ab)(i:Nat):List Db:=(List.range b.Ops.length).flatMap λ(k:Nat)=>So (b.Ops.getD k default) i k
def EK(f:TFunc)(b:Ab)(i:Nat):List Db:=(bif b.End.Kind==0 then[⟨b.End.Arg,i,1000,(f.Ret,1)⟩] else[])++(bif b.End.Kind==2 then[⟨b.End.Arg,i,1000,(1,1)⟩] else[])
def NH(f:TFunc)(b:Ab)(i:Nat):List Db:=Oj b++U3 b i++EK f b i
def B7(f:TFunc):List Db:=(List.range f.Blocks.length).flatMap λ(i:Nat)=>NH f (f.Blocks.getD i default) i
theorem Yq{o:A2}(h:o.Args.length<=64):(Jg o).length<=64/\(Jg o).length<=o.Args.length:=by
 unfold Jg
 cases hm:Ju o with
 | false=>simp
 | true=>
  simp only[Af]
  have :=by
   simp only[Ju,A1]at hm;exact hm.1.2.2
  have h2 :=by simpa using this
  have h3:(Yr o).length=o.Args.length:=by rw[Yr,L5,Xg,<- h2,Cp]
  omega
theorem RO{f:TFunc}(hf:OkF f){b:Ab}(hb:b∈f.Blocks){p:Bh}(hp:p∈b.Phis):p.From.length<=64/\p.Args.length<=64:=by
 have:=(blockB_iff.1 (hf.block b hb).may).1 p hp;simp only[AJ,A1]at this;exact⟨(listB_iff.1 this.1.2).2,(listB_iff.1 this.2).2⟩
theorem XY{f:TFunc}(hf:OkF f){b:Ab}(hb:b∈f.Blocks){o:A2}(ho:o∈b.Ops):o.Args.length<=64:=by
 have:=(blockB_iff.1 (hf.block b hb).may).2.1 o ho;simp only[bH,A1]at this;exact(listB_iff.1 this.2).2
theorem JF(p:Bh):(Pf p).length<=p.Args.length:=by
 have:=Jh 1 (λj=>[(⟨p.Args.getD j 0,p.From.getD j 0,1000,(p.Bits,1)⟩:Db)]) (List.range p.Args.length) (λ_ _=>zzL8 _)
 simpa [Pf] using this
theorem NI(o:A2)(i k:Nat):(So o i k).length<=(Jg o).length:=by
 have:=Jh 1 (λj=>[(⟨o.Args.getD j 0,i,k,(Jg o).getD j (0,0)⟩:Db)]) (List.range (Jg o).length) (λ_ _=>zzL8 _)
 simpa [So] using this
theorem NJ{f:TFunc}(hf:OkF f){b:Ab}(hb:b∈f.Blocks):(Oj b).length<=32768:=by
 have:=Jh 64 (λk=>Pf (b.Phis.getD k default)) (List.range _) (λk hk=>by
  have h1:=JF (b.Phis.getD k default);have h2:=(RO hf hb (Ai (d:=default) (by simpa using hk))).2
  omega)
 have h3:=(hf.block b hb).phis;rw[Xg]at this;rw[Oj];omega
theorem SV{f:TFunc}(hf:OkF f){b:Ab}(hb:b∈f.Blocks)(i:Nat):(U3 b i).length<=32768:=by
 have:=Jh 64 (λk=>So (b.Ops.getD k default) i k) (List.range _) (λk hk=>by
  have h1:=NI (b.Ops.getD k default) i k;have h2:=(Yq (XY hf hb (Ai (d:=default) (by simpa using hk)))).1
  omega)
 have h3:=(hf.block b hb).ops;rw[Xg]at this;rw[U3];omega
theorem eV(f:TFunc)(b:Ab)(i:Nat):(EK f b i).length<=2:=by
 unfold EK
 cases b.End.Kind==0<;>cases b.End.Kind==2<;>simp
theorem YP{f:TFunc}(hf:OkF f){i:Nat}(hi:i<f.Blocks.length):(NH f (f.Blocks.getD i default) i).length<=70000:=by
 have hmem:=Ai (d:=default) hi;have h1:=NJ hf hmem;have h2:=SV hf hmem i;have h3:=eV f (f.Blocks.getD i default) i;rw[NH,Du,Du];omega
theorem LH{f:TFunc}(hf:OkF f):(B7 f).length<=4480000:=by
 have h1:=Jh _ _ (List.range _) (λi hi=>YP hf (by simpa using hi));have h4:=hf.blocks;rw[Xg]at h1;rw[B7];omega
def j8(f:TFunc):Prop:=∀ b∈f.Blocks,∀ p∈b.Phis,p.Args.length<=p.From.length
theorem xP{f:TFunc}(hf:OkF f)(hp:j8 f):K5 f=some (B7 f):=by
 have hbig:∀{n:Nat},n<=100000000->∀ x:Db,n+([x]:List Db).length<=room:=λ{n} h x=>by rw[JE];simp;omega
 have h1:∀(i:Nat),i<f.Blocks.length->∀(k:Nat),k<(f.Blocks.getD i default).Phis.length->∀ acc:List Db,acc.length<=50000000->Ad (F3 f (i:Int) (k:Int)) (acc,(0:Int))=some (acc++Pf ((f.Blocks.getD i default).Phis.getD k default)):=λi hi k hk acc hacc=>by
  have hmem:=Ai (d:=(default:Ab)) hi;have hpm:=Ai (d:=(default:Bh)) hk;have hlen:=RO hf hmem hpm;have hfit:=hp _ hmem _ hpm
  have:=Lu ((f.Blocks.getD i default).Phis.getD k default).Args.length 50000000 1 (λ(j:Nat)=>[(⟨((f.Blocks.getD i default).Phis.getD k default).Args.getD j 0,((f.Blocks.getD i default).Phis.getD k default).From.getD j 0,1000,(((f.Blocks.getD i default).Phis.getD k default).Bits,1)⟩:Db)]) (λ_ _=>zzL8 _) (F3 f (i:Int) (k:Int)) (λacc j hj hA=>by
   unfold F3
   have hd:decide ((j:Int)<(((f.Blocks.getD i default).Phis.getD k default).Args.length:Int))=true:=by simpa using hj
   simp only[Cp,hd,Af,Aa (Ag hj),Aa (Ag (Nat.lt_of_lt_of_le hj hfit)),A0 hj (by omega),Aa (hbig (n:=acc.length) (by omega) _)]) (λacc=>by unfold F3;simp) ((f.Blocks.getD i default).Phis.getD k default).Args.length 0 acc (by omega) (by omega)
  rw[show(0:Int)=((0:Nat):Int) from rfl,this,Pf,P9]
 have h2:∀(i:Nat),i<f.Blocks.length->∀ acc:List Db,acc.length<=40000000->Ad (F4 f (i:Int)) (acc,(0:Int))=some (acc++Oj (f.Blocks.getD i default)):=λi hi acc hacc=>by
  have hmem:=Ai (d:=(default:Ab)) hi;have hB:=hf.block _ hmem
  have:=Lu (f.Blocks.getD i default).Phis.length 40000000 64 (λ(k:Nat)=>Pf ((f.Blocks.getD i default).Phis.getD k default)) (λk hk=>by have:=JF ((f.Blocks.getD i default).Phis.getD k default);have:=(RO hf hmem (Ai (d:=(default:Bh)) hk)).2;omega) (F4 f (i:Int)) (λacc k hk hA=>by
   unfold F4
   have hd:decide ((k:Int)<((f.Blocks.getD i default).Phis.length:Int))=true:=by simpa using hk
   have h5:=hB.phis;have h6:k*64<=512*64:=Gy _ (by omega)
   simp only[Cp,hd,Af,Aa (Ag hk),h1 i hi k hk acc (by omega),Aj,A0 hk (by omega)]) (λacc=>by unfold F4;simp) (f.Blocks.getD i default).Phis.length 0 acc (by omega) (by omega)
  rw[show(0:Int)=((0:Nat):Int) from rfl,this,Oj,P9]
 have h3:∀(i:Nat),i<f.Blocks.length->∀(k:Nat),k<(f.Blocks.getD i default).Ops.length->∀ acc:List Db,acc.length<=50000000->Ad (F5 f (i:Int) (k:Int) (Jg ((f.Blocks.getD i default).Ops.getD k default))) (acc,(0:Int))=some (acc++So ((f.Blocks.getD i default).Ops.getD k default) i k):=λi hi k hk acc hacc=>by
  have hmem:=Ai (d:=(default:Ab)) hi;have hom:=Ai (d:=(default:A2)) hk;have hlen:=Yq (XY hf hmem hom)
  have:=Lu (Jg ((f.Blocks.getD i default).Ops.getD k default)).length 50000000 1 (λ(j:Nat)=>[(⟨((f.Blocks.getD i default).Ops.getD k default).Args.getD j 0,i,k,(Jg ((f.Blocks.getD i default).Ops.getD k default)).getD j (0,0)⟩:Db)]) (λ_ _=>zzL8 _) (F5 f (i:Int) (k:Int) (Jg ((f.Blocks.getD i default).Ops.getD k default))) (λacc j hj hA=>by
   unfold F5
   have hd:decide ((j:Int)<((Jg ((f.Blocks.getD i default).Ops.getD k default)).length:Int))=true:=by simpa using hj
   simp only[Cp,hd,Af,Aa (Ag hk),Aa (Ag hj),Aa (Ag (Nat.lt_of_lt_of_le hj hlen.2)),A0 hj (by omega),Aa (hbig (n:=acc.length) (by omega) _)]) (λacc=>by unfold F5;simp) (Jg ((f.Blocks.getD i default).Ops.getD k default)).length 0 acc (by omega) (by omega)
  rw[show(0:Int)=((0:Nat):Int) from rfl,this,So,P9]
 have h4:∀(i:Nat),i<f.Blocks.length->∀ acc:List Db,acc.length<=40000000->Ad (F6 f (i:Int)) (acc,(0:Int))=some (acc++U3 (f.Blocks.getD i default) i):=λi hi acc hacc=>by
  have hmem:=Ai (d:=(default:Ab)) hi;have hB:=hf.block _ hmem
  have:=Lu (f.Blocks.getD i default).Ops.length 40000000 64 (λ(k:Nat)=>So ((f.Blocks.getD i default).Ops.getD k default) i k) (λk hk=>by have:=NI ((f.Blocks.getD i default).Ops.getD k default) i k;have:=(Yq (XY hf hmem (Ai (d:=(default:A2)) hk))).1;omega) (F6 f (i:Int)) (λacc k hk hA=>by
   unfold F6
   have hd:decide ((k:Int)<((f.Blocks.getD i default).Ops.length:Int))=true:=by simpa using hk
   have h5:=hB.ops;have h6:k*64<=512*64:=Gy _ (by omega);have ht:Ha ((f.Blocks.getD i default).Ops.getD k default)=some (Jg ((f.Blocks.getD i default).Ops.getD k default)):=mJ _ (mE hf hmem (Ai (d:=(default:A2)) hk))
   simp only[Cp,hd,Af,Aa (Ag hk),ht,Aj,h3 i hi k hk acc (by omega),A0 hk (by omega)]) (λacc=>by unfold F6;simp) (f.Blocks.getD i default).Ops.length 0 acc (by omega) (by omega)
  rw[show(0:Int)=((0:Nat):Int) from rfl,this,U3,P9]
 have hb:=Lu f.Blocks.length 0 70000 (λ(i:Nat)=>NH f (f.Blocks.getD i default) i) (λi hi=>YP hf hi) (Iu f) (λacc i hi hA=>by
   unfold Iu
   have hd:decide ((i:Int)<(f.Blocks.length:Int))=true:=by simpa using hi
   have hmem:=Ai (d:=(default:Ab)) hi;have h64:=hf.blocks;have q1:i*70000<=64*70000:=Gy _ (by omega);have q2:=NJ hf hmem;have q3:=SV hf hmem i;have e1:=h4 i hi (acc++Oj (f.Blocks.getD i default)) (by rw[Du];omega)
   have l1:(acc++Oj (f.Blocks.getD i default)++U3 (f.Blocks.getD i default) i).length<=50000000:=by rw[Du,Du];omega
   simp only[hd,Af,Aa (Ag hi),h2 i hi acc (by omega),Aj,e1,Cp,Aa (hbig (n:=(acc++Oj (f.Blocks.getD i default)++U3 (f.Blocks.getD i default) i).length) (by omega) _),NH,EK]
   cases(f.Blocks.getD i default).End.Kind==0 with
   | true=>
    simp only[Af,Aj]
    cases(f.Blocks.getD i default).End.Kind==2 with
    | true=>rw[Aa (by rw[Du];have:=hbig (n:=(acc++Oj (f.Blocks.getD i default)++U3 (f.Blocks.getD i default) i).length+1) (by omega) (default:Db);simpa using this)];simp[A0 hi (by omega:f.Blocks.length<9223372036854775808)]
    | false=>simp[A0 hi (by omega:f.Blocks.length<9223372036854775808)]
   | false=>
    simp only[Aq,Aj]
    cases(f.Blocks.getD i default).End.Kind==2 with
    | true=>rw[Af,Aa (hbig (n:=(acc++Oj (f.Blocks.getD i default)++U3 (f.Blocks.getD i default) i).length) (by omega) _)];simp[A0 hi (by omega:f.Blocks.length<9223372036854775808)]
    | false=>simp[A0 hi (by omega:f.Blocks.length<9223372036854775808)]) (λacc=>by unfold Iu;simp) f.Blocks.length 0 [] (by omega) (by simp)
 unfold K5;rw[show(0:Int)=((0:Nat):Int) from rfl,hb,Aj,B7,P9,V2]
def gp(n:Nat)(l:List Int)(i:Nat):Bool:=decide ((if i=0 then(-1:Int) else l.getD (i-1) 0)<l.getD i 0)&&(decide (0<=l.getD i 0)&&decide (l.getD i 0<n))
def mt(n:Nat)(l:List Int):Bool:=(List.range l.length).all (gp n l)
def N1(L:List (List Int)):Bool:=decide (1<=L.length)&&decide (L.length<=64)&&(List.range L.length).all λi=>mt L.length (L.getD i [])
def Y5(L:List (List Int))(k i:Nat):Bool:=(L.getD k []).contains (i:Int)
def Kh(L:List (List Int))(m i:Nat):List Int:=((List.range m).filter λk=>Y5 L k i).map Int.ofNat
def Cd(L:List (List Int)):List (List Int):=(List.range L.length).map (Kh L L.length)
theorem W1(a n:Int):Kj a n=some (decide (0<=a)&&decide (a<n)):=by
 unfold Kj
 cases decide (0<=a)<;>rfl
theorem XR(n:Nat):Mq (n:Int)=some (decide (1<=n)&&decide (n<=64)):=by
 unfold Mq
 have h1:decide ((1:Int)<=n)=decide (1<=n):=by grind
 have h2:decide (n<=(64:Int))=decide (n<=64):=by grind
 rw[h1,h2]
 cases decide (1<=n)<;>rfl
theorem SQ(L:List (List Int))(i:Nat)(hl:(L.getD i []).length<4611686018427387904) :
  Ad (Hk L (i:Int)) ((-1:Int),(0:Int))=some (bif mt L.length (L.getD i []) then .inl () else .inr false):=by
 refine H9 (Hk L i) (λj=>((if j=0 then -1 else(L.getD i []).getD (j-1) 0),(j:Nat))) _ _ _ _ (λj hj hp=>?_) (λj hj hp=>?_) ?_
 ·unfold gp at hp;simp only[A1,Ds]at hp;obtain⟨h1,h2,h3⟩:=hp;unfold Hk;simp only[Ap,B5 hj, W1];rw[Ac (Ff hj)]
  have e1:decide ((L.getD i []).getD j 0<=(if j=0 then -1 else(L.getD i []).getD (j-1) 0))=false:=by simpa using h1
  simp only[e1,F9 h2,F9 h3,     Dj];rw[w1 (show j<4611686018427387904 by omega)]
  simp
 ·unfold Hk;simp only[Ap,B5 hj, W1];rw[Ac (Ff hj)]
  cases h1:decide ((L.getD i []).getD j 0<=(if j=0 then -1 else(L.getD i []).getD _ 0)) with
  | true=>grind
  | false=>
   have h1':decide ((if j=0 then -1 else(L.getD i []).getD (j-1) 0)<(L.getD i []).getD j 0)=true:=by simpa using h1
   unfold gp at hp;rw[h1',Hi]at hp;simp only[Va,Af,Aq,Aj,hp,L0]
 ·unfold Hk;simp only[Ap,Dk,Aq]
def Fits(L:List (List Int)):Prop:=L.length<4611686018427387904/\∀ l∈L,l.length<4611686018427387904
theorem Fits.at{L:List (List Int)}(h:Fits L)(i:Nat):(L.getD i []).length<4611686018427387904:=by
 by_cases hi:i<L.length
 ·exact h.2 _ (Ai hi)
 ·grind
theorem lr(L:List (List Int))(h:Fits L):Pq L=some (N1 L):=by
 unfold Pq;rw[XR,Aj];unfold N1
 cases hc:(decide (1<=L.length)&&decide (L.length<=64)) with
 | false=>rfl
 | true=>
  simp only[Dj,Aq,Hi];have:=H9 (Dh L) (λj=>((j:Nat):Int)) (λi=>mt L.length (L.getD i [])) (.inl ()) (.inr false) L.length (λj hj hp=>?_) (λj hj hp=>?_) ?_
  ·rw[show Ad (Dh L) (0:Int)=_ from this]
   cases(List.range L.length).all λi=>mt L.length (L.getD i [])<;>rfl
  ·show Dh L (j:Int)=_
   unfold Dh;simp only[B5 hj,Af];rw[Ac (Ff hj),SQ L j (h.at j),hp];simp only[Af,Aj,w1 (show j<4611686018427387904 by have:=h.1;omega)]
  ·show Dh L (j:Int)=_
   unfold Dh;simp only[B5 hj,Af];rw[Ac (Ff hj),SQ L j (h.at j),hp]
   rfl
  ·show Dh L _=_
   unfold Dh;simp only[Dk,Aq]
theorem Sj{α:Type}{n i:Nat}{g:Nat->α}{d:α}(h:i<n):((List.range n).map g).getD i d=g i:=by simp[ h]
theorem CL{α:Type}{n i:Nat}{g:Nat->α}{x:α}:((List.range n).map g).set i x=(List.range n).map λj=>if j=i then x else g j:=by
 apply List.ext_getElem?
 intro j;rw[List.getElem?_set]
 by_cases hj:j<n
 ·grind
 ·grind
theorem Hc{α:Type}{n:Nat}{g h:Nat->α}(H:∀ i,i<n->g i=h i):(List.range n).map g=(List.range n).map h:=bU λi hi=>H i (zzL85.1 hi)
theorem mayS_iff{L:List (List Int)}:N1 L=true↔1<=L.length/\L.length<=64/\∀ i,i<L.length->mt L.length (L.getD i [])=true:=by
 unfold N1;rw[A1,A1,all_range];simp only[Ds];exact⟨λ⟨⟨a,b⟩,c⟩=>⟨a,b,c⟩,λ⟨a,b,c⟩=>⟨⟨a,b⟩,c⟩⟩
theorem okL_iff{n:Nat}{l:List Int}:mt n l=true↔∀ i,i<l.length->(0<=l.getD i 0/\l.getD i 0<n)/\(0<i->l.getD (i-1) 0<l.getD i 0):=by
 unfold mt;rw[all_range];unfold gp;simp only[A1,Ds]
 constructor
 ·grind
 ·intro h i hi;obtain⟨⟨h2,h3⟩,h1⟩:=h i hi
  by_cases hz:i=0
  · omega
  ·grind
section
variable {n:Nat} {l:List Int} (h:mt n l=true)
include h
theorem BQ{i:Nat}(hi:i<l.length):0<=l.getD i 0/\l.getD i 0<n:=(okL_iff.1 h i hi).1
theorem pd{i j:Nat}(hij:i<j)(hj:j<l.length):l.getD i 0<l.getD j 0:=by
 induction j with
 | zero=>omega
 | succ j ih=>
  have h1:=(okL_iff.1 h _ hj).2 (by omega)
  by_cases he:i=j
  ·rw[he];exact h1
  ·grind
theorem xV{i:Nat}(hi:i<l.length):(i:Int)<=l.getD i 0:=by
 induction i with
 | zero=>exact(BQ h hi).1
 | succ i ih=>
  have:=pd h (show i<i+1 by omega) hi;omega
theorem EC:l.length<=n:=by
 by_cases hz:l.length=0
 ·omega
 ·have h1:=xV h (show l.length-1<l.length by omega);have h2:=(BQ h (show l.length-1<l.length by omega)).2;omega
theorem ar{x:Int}(hx:x∈l):0<=x/\x<n:=by
 obtain⟨i,hi,rfl⟩:=N9 hx;have:=BQ h hi;rwa[Am _ _ _ hi]at this
end
theorem xW{n:Nat}{l:List Int}(h1:∀ x∈l,0<=x/\x<n)(h2:l.Pairwise (·<·)):mt n l=true:=by
 rw[okL_iff];intro i hi;rw[Am _ _ _ hi];refine⟨h1 _ (LM hi),λhp=>?_⟩;rw[Am _ _ _ (show i-1<l.length by omega)];exact(zzL109.1 h2) _ _ _ _ (by omega)
theorem Ua{L:List (List Int)}(h:N1 L=true):L.length<=64/\∀ l∈L,l.length<=64:=by
 obtain⟨h1,h2,h3⟩:=mayS_iff.1 h;refine⟨h2,λl hl=>?_⟩;obtain⟨i,hi,rfl⟩:=N9 hl;have:=EC (h3 i hi);rw[Am _ _ _ hi]at this;omega
theorem tk{L:List (List Int)}(h:L.length<=1000/\∀ l∈L,l.length<=1000):Fits L:=⟨by omega,λl hl=>by have:=h.2 l hl;omega⟩
theorem CE(L:List (List Int))(k i:Nat):Kh L (k+1) i=Kh L k i++(if Y5 L k i=true then[(k:Int)] else[]):=by
 unfold Kh;rw[FN,FM];cases hg:Y5 L k i<;>simp[hg]
theorem Ym(L:List (List Int))(k i:Nat):(Kh L k i).length<=k:=by
 unfold Kh;have:=List.length_filter_le (λk=>Y5 L k i) (List.range k)
 simpa using this
theorem XG{l:List Int}{j:Nat}(hj:j<l.length):l.take (j+1)=l.take j++[l.getD j 0]:=by
 simp_all
def V8(L:List (List Int))(k j i:Nat):Bool:=((L.getD k []).take j).contains (i:Int)
def O1(L:List (List Int))(k j:Nat):List (List Int):=(List.range L.length).map λi=>Kh L k i++(if V8 L k j i=true then[(k:Int)] else[])
theorem cj(L:List (List Int))(h:N1 L=true)(k j:Nat)(hk:k<L.length)(hj:j<(L.getD k []).length) :
  (O1 L k j).set ((L.getD k []).getD j 0).toNat ((O1 L k j).getD ((L.getD k []).getD j 0).toNat []++[(k:Int)])=O1 L k (j+1):=by
 obtain⟨h1,h2,h3⟩:=mayS_iff.1 h;have hok:=h3 k hk;obtain⟨a0,a1⟩:=BQ hok hj;unfold O1;rw[Sj (by omega),CL]
 apply Hc
 intro i hi
 have hnot:V8 L k j ((L.getD k []).getD j 0).toNat=false:=by
  unfold V8;rw[Lb a0]
  cases hc:((L.getD k []).take j).contains _ with
  | false=>rfl
  | true=>
   rw[zzL65]at hc;obtain⟨m,hm,he⟩:=N9 hc
   have hm':m<j:=by simp at hm;omega
   rw[List.getElem_take]at he;have:=pd hok hm' hj;rw[Am _ _ _ (show m<(L.getD k []).length by omega)]at this;omega
 by_cases hi2:i=((L.getD k []).getD j 0).toNat
 ·rw[ hnot]
  have:V8 L k (j+1) i=true:=by
   unfold V8;rw[XG hj, hi2,Lb a0]
   simp
  rw[this,hi2]
  simp
 ·rw[if_neg hi2]
  have:V8 L k (j+1) i=V8 L k j i:=by
   unfold V8;rw[XG hj,Xh,zzL65,zzL65,zzL14]
   constructor
   ·grind
   ·exact .inl
  rw[this]
theorem dR(L:List (List Int))(h:N1 L=true):Nx L=some (Cd L):=by
 obtain⟨h1,h2,h3⟩:=mayS_iff.1 h
 have hroom:(1000:Nat)<=room:=by decide
 unfold Nx;rw[Ac ⟨by omega,Int.le_refl _,by omega⟩,Ap]
 have inner:∀ k,k<L.length->Ad _ ((0:Int),O1 L k 0)=some (O1 L k (L.getD k []).length):=λk hk=>by
  have hok:=h3 k hk;refine Fn (Nc L (k:Int)) (λj=>(((j:Nat):Int),O1 L k j)) _ (L.getD k []).length (λj hj=>?_) ?_
  ·obtain⟨a0,a1⟩:=BQ hok hj
   have hlen:(O1 L k j).length=L.length:=by simp[O1]
   have hl64:=EC hok;unfold Nc;simp only[Ap,B5 hj,Af];have hb:As ((L.getD k []).getD j 0) (O1 L k j).length:=⟨a0,by rw[hlen];exact a1⟩
   have hrow:((O1 L k j).getD ((L.getD k []).getD j 0).toNat []).length<=k+1:=by
    unfold O1;rw[Sj (by omega),Du];have:=Ym L k ((L.getD k []).getD j 0).toNat
    split
    ·rw[FL];omega
    ·rw[List.length_nil];omega
   rw[Ac (Ff hj),Ac hb,Ac hb,Ac (by grind),Ac hb,cj L h k j hk hj,w1 (by omega)]
  ·unfold Nc;simp only[Ap,Dk,Aq]
 have r0:∀ k,O1 L k 0=(List.range L.length).map (Kh L k):=λk=>by
  unfold O1
  apply Hc
  intro i _;simp[V8]
 have r1:∀ k,O1 L k (L.getD k []).length=(List.range L.length).map (Kh L (k+1)):=λk=>by
  unfold O1
  apply Hc
  intro i _;rw[CE];unfold V8 Y5;rw[GX]
 have:Ad (Kr L) ((0:Int),(List.range L.length).map (Kh L 0))=some (Cd L):=Fn (Kr L) (λk=>(((k:Nat):Int),(List.range L.length).map (Kh L k))) (Cd L) L.length (λk hk=>?_) ?_
 ·have e0:(List.replicate L.length ([]:List Int))=(List.range L.length).map (Kh L 0):=by
   apply List.ext_getElem?
   intro i
   by_cases hi:i<L.length<;>simp[hi,List.getElem?_replicate,Kh]
  rw[e0,this];rfl
 ·unfold Kr;simp only[B5 hk,Af];rw[Ac (Ff hk),<- r0,inner k hk,r1,w1 (by omega)]
  rfl
 ·unfold Kr;simp only[Dk,Aq]
  rfl
theorem Vn{α:Type}[DecidableEq α]{a b:List α}{d:α}(h:a.length=b.length):((List.range a.length).all λi=>decide (a.getD i d=b.getD i d))=decide (a=b):=by
 rw[Xh,all_range,Ds]
 constructor
 ·intro hall
  apply NO h
  intro i h1 h2;have:=LK (hall i h1);rwa[Am _ _ _ h1,Am _ _ _ h2]at this
 ·rintro rfl i _
  simp
theorem IC{a b:Nat}:(((a:Nat):Int)!=(b:Int))=decide (a≠b):=by
 grind
theorem aa{a b:Int}:(a !=b) = !decide (a=b):=by
 grind
theorem PD(a b:List Int)(hb:b.length<4611686018427387904):Ei a b=some (decide (a=b)):=by
 unfold Ei;rw[IC]
 by_cases hl:a.length=b.length
 ·rw[Da (by simpa using hl)];have:Ad (Eo a b) 0=_:=H9 _ (λj=>(j:Int)) (λi=>decide (a.getD i 0=b.getD i 0)) (.inl ()) (.inr false) a.length (λj hj hp=>?_) (λj hj hp=>?_) ?_
  ·rw[this,Vn hl]
   cases decide (a=b)<;>rfl
  ·unfold Eo;simp only[Ap,B5 hj];rw[Ac (Ff hj),Ac (Ff (by omega)),aa,hp,w1 (by omega)]
   rfl
  ·unfold Eo;simp only[Ap,B5 hj];rw[Ac (Ff hj),Ac (Ff (by omega)),aa,hp]
   rfl
  ·unfold Eo;simp only[Dk,Aq]
 ·rw[F9 (by simpa using hl),Af,Da (λh=>hl (by rw[h]))]
theorem ge(a b:List Int)(ha:a.length<4611686018427387904):Ck a b=some (decide (a=b)):=by
 unfold Ck;rw[IC]
 by_cases hl:a.length=b.length
 ·rw[Da (by simpa using hl)];have:Ad _ (0:Int)=_:=H9 (Fu a b) (λj=>(j:Nat)) (λi=>decide (a.getD i 0=b.getD i 0)) (.inl ()) (.inr false) a.length (λj hj hp=>?_) (λj hj hp=>?_) ?_
  ·rw[this,Vn hl]
   cases decide (a=b)<;>rfl
  ·unfold Fu;simp only[Ap,B5 hj];rw[Ac (Ff hj),Ac (Ff (by omega)),aa,hp,w1 (by omega)]
   rfl
  ·unfold Fu;simp only[Ap,B5 hj];rw[Ac (Ff hj),Ac (Ff (by omega)),aa,hp]
   rfl
  ·unfold Fu;simp only[Dk,Aq]
 ·rw[F9 (by simpa using hl),Af,Da (λh=>hl (by rw[h]))]
theorem dS(a b:List (List Int))(hb:Fits b):Di a b=some (decide (a=b)):=by
 unfold Di;rw[IC]
 by_cases hl:a.length=b.length
 ·rw[Da (by simpa using hl)];have hb1:=hb.1;have:Ad _ (0:Int)=_:=H9 (B3 a b) (λj=>(j:Nat)) (λi=>decide (a.getD i []=b.getD i [])) (.inl ()) (.inr false) a.length (λj hj hp=>?_) (λj hj hp=>?_) ?_
  ·rw[this,Vn hl]
   cases decide (a=b)<;>rfl
  ·unfold B3;simp only[Ap,B5 hj];rw[Ac (Ff hj),Ac (Ff (by omega)),PD _ _ (hb.at j),hp,w1 (by omega)]
   rfl
  ·unfold B3;simp only[Ap,B5 hj];rw[Ac (Ff hj),Ac (Ff (by omega)),PD _ _ (hb.at j),hp]
   rfl
  ·unfold B3;simp only[Dk,Aq]
 ·rw[F9 (by simpa using hl),Af,Da (λh=>hl (by rw[h]))]
theorem Py(L:List (List Int)):(Cd L).length=L.length:=by simp[Cd]
theorem ED{L:List (List Int)}{i:Nat}(hi:i<L.length):(Cd L).getD i []=Kh L L.length i:=by unfold Cd;rw[Sj hi]
theorem T0{L:List (List Int)}(h:N1 L=true):(Cd L).length<=64/\∀ l∈Cd L,l.length<=64:=by
 obtain⟨h1,_⟩:=Ua h;refine⟨by rw[Py];exact h1,λl hl=>?_⟩;obtain⟨i,hi,rfl⟩:=zzL21.1 hl;have:=Ym L L.length i;omega
theorem U0{L:List (List Int)}(h:L.length<=64/\∀ l∈L,l.length<=64):Fits L:=tk ⟨by omega,λl hl=>by have:=h.2 l hl;omega⟩
def ER(g:TGraph):Bool:=N1 g.Succ&&decide (g.Pred=Cd g.Succ)
theorem vb(g:TGraph)(h:Fits g.Succ):Vt g=some (ER g):=by
 unfold Vt ER;rw[lr _ h]
 cases hm:N1 _ with
 | false=>rfl
 | true=>
  simp only[Va,Af,dR _ hm,Aj,dS _ _ (U0 (T0 hm)),Hi]
def J0(L:List (List Int)):TGraph:=⟨L,Cd L⟩
def g0:TGraph:=⟨[],[]⟩
theorem dW{L:List (List Int)}(h:N1 L=true):ER (J0 L)=true:=by simp[ER,J0,h]
theorem pJ(l:List Int)(x:Int)(h:l.length<4611686018427387904):Gt l x=some (l.contains x):=by
 unfold Gt;have:Ad _ (0:Int)=_:=H9 (Gl l x) (λj=>(j:Nat)) (λi=>!decide (l.getD i 0=x)) (.inl ()) (.inr true) l.length (λj hj hp=>?_) (λj hj hp=>?_) ?_
 ·rw[this]
  have e:l.contains x = !((List.range l.length).all λi=>!decide (l.getD i 0=x)):=by
   rw[Xh,zzL65,Rn,<- Bool.not_eq_true,all_range]
   constructor
   ·intro hx hall;obtain⟨i,hi,rfl⟩:=N9 hx;have:=hall i hi;rw[Am _ _ _ hi]at this;simp at this
   ·grind
  rw[e]
  cases(List.range _).all _<;>rfl
 ·unfold Gl;simp only[Ap,B5 hj]
  have:(l.getD j 0==x)=false:=by simpa using hp
  rw[Ac (Ff hj),this,w1 (by omega)]
  rfl
 ·unfold Gl;simp only[Ap,B5 hj]
  have:(l.getD j 0==x)=true:=by simpa using hp
  rw[Ac (Ff hj),this]
  rfl
 ·unfold Gl;simp only[Dk,Aq]
theorem YJ{X:Type}(a b:List (List Int))(f:Int->Option (LR Int (Unit ⊕ Bool)))(ha:Fits a)(hl:a.length=b.length)
  (hn:∀ i:Nat,i<a.length->f (i:Int)=(Ck (a.getD i []) (b.getD i [])).bind λx=>bif (!x) then some (.done (.inr false)) else some (.next (w64 ((i:Int)+1)))) (he:f (a.length:Int)=some (.done (.inl ()))) :
  Ad f (0:Int)=some (bif decide (a=b) then .inl () else .inr false):=by
 have ha1:=ha.1;have:Ad f 0=_:=H9 f (λj=>(j:Int)) (λi=>decide (a.getD i []=b.getD i [])) _ (.inr false) _ (λj hj hp=>?_) (λj hj hp=>?_) he
 ·rw[this,Vn hl]
 ·rw[hn j hj,ge _ _ (ha.at j),hp,w1 (by omega)];rfl
 ·rw[hn j hj,ge _ _ (ha.at j),hp];rfl
theorem xO(a b:TGraph)(h1:Fits a.Succ)(h2:Fits a.Pred):K0 a b=some (decide (a=b)):=by
 have e:decide (a=b)=(decide (a.Succ=b.Succ)&&decide (a.Pred=b.Pred)):=by
  cases a;cases b
  simp
 rw[e];unfold K0;rw[IC,IC]
 by_cases hs:a.Succ.length=b.Succ.length
 ·by_cases hp:a.Pred.length=b.Pred.length
  ·rw[Da (by simpa using hs), Da (by simpa using hp)]
   have s1:=YJ (X:=Unit) _ _ (Il a b) h1 hs (λi hi=>by
    unfold Il;simp only[Ap,B5 hi,Af]
    rw[Ac (Ff hi),Ac (Ff (by omega))]) (by
    unfold Il
    simp only[Dk,Aq])
   have s2:=YJ (X:=Unit) _ _ (Im a b) h2 hp (λi hi=>by
    unfold Im;simp only[Ap,B5 hi,Af]
    rw[Ac (Ff hi),Ac (Ff (by omega))]) (by
    unfold Im
    simp only[Dk,Aq])
   rw[s1]
   cases decide (a.Succ=b.Succ) with
   | false=>rfl
   | true=>
    grind
  ·grind
 ·grind
theorem M8{R:Type}{c:Bool}{q:Prop}[Decidable q]{k:Option R}(h:q):Aw (c=true->q) k=k:=Ac λ_=>h
def oG(n:Nat)(l:List Int)(j:Nat):Bool:=
 bif (bif decide (l.getD j 0<0) then true else decide ((n:Int)<=l.getD j 0)) then true else(bif decide ((0:Int)<(j:Int)) then decide (l.getD j 0<=l.getD (j-1) 0) else false)
theorem oH(n:Nat)(l:List Int)(j:Nat):oG n l j = !gp n l j:=by
 unfold oG gp
 by_cases h0:l.getD j 0<0
 ·grind
 ·grind
theorem NB(L:List (List Int))(i:Nat)(hi:i<L.length)(hl:(L.getD i []).length<4611686018427387904) :
  Ad (Dx L (i:Int)) (0:Int)=some (bif mt L.length (L.getD i []) then .inl () else .inr (g0,5)):=by
 have hw:∀ j:Nat,j<(L.getD i []).length->0<j->w64 (j-1)=(j-1:Nat):=λj hj hp=>by rw[Em (by omega) (by omega)];omega
 have step:∀ j,j<(L.getD i []).length->Dx L i j=bif oG _ _ j then some _ else some (.next ((j+1:Nat))):=λj hj=>by
  unfold Dx;simp only[Ap,B5 hj];rw[Ac (Ff hi),Ac (Ff hi),Ac (Ff hj),M8 (Ff hi),M8 (Ff hj),M8 (Ff hi),M8 (Ff hj),M8 (Ff hi),w1 (by omega)]
  by_cases hz:j=0
  ·subst hz
   have:decide (0<((0:Nat):Int))=false:=by decide
   rw[this];rw[show((false==true)=false) from rfl,Bool.and_false]
   rfl
  ·rw[hw j hj (by omega),M8 (Ff (by omega))]
   rfl
 have:=H9 (Dx L i) (λj=>(j:Nat)) (gp L.length (L.getD i [])) (.inl ()) (.inr (g0,5)) (L.getD i []).length (λj hj hp=>?_) (λj hj hp=>?_) ?_
 ·exact this
 ·rw[step j hj,oH,hp];rfl
 ·rw[step j hj,oH,hp];rfl
 ·unfold Dx;simp only[Ap,Dk,Aq];rw[Ac (Ff hi)]
theorem WE(L:List (List Int))(h:N1 L=true):Ad (Dy L) ((0:Int),List.replicate L.length ([]:List Int))=some (Cd L):=by
 obtain⟨h1,h2,h3⟩:=mayS_iff.1 h
 have hroom:(1000:Nat)<=room:=by decide
 have hfit:=U0 (Ua h)
 let R:Nat->Nat->List (List Int):=λi k=>(List.range L.length).map λj=>if j<i then Kh L L.length j else if j=i then Kh L k i else[]
 have inner:∀ i,i<L.length->Ad _ ((0:Int),R i 0)=some (R i L.length):=λi hi=>by
  refine Fn (Ik L (i:Int)) (λk=>(((k:Nat):Int),R i k)) (R i L.length) L.length (λk hk=>?_) ?_
  ·have hlen:(R i k).length=L.length:=by simp[R]
   have hat:(R i k).getD i []=Kh L k i:=by simp only[R];rw[Sj hi];simp
   unfold Ik;simp only[Ap,B5 hk,Af];rw[Ac (Ff hk),pJ _ _ (hfit.at k),Aj,w1 (by omega)];have hg:Y5 L k i=(L.getD k []).contains (i:Int):=rfl;rw[<- hg,hat]
   have hs:(if Y5 L k i=true then(R i k).set i (Kh L k i++[(k:Int)]) else R i k)=R i (k+1):=by
    split
    ·rename_i hgo
     simp only[R];rw[CL]
     apply Hc
     intro j hj
     by_cases hji:j=i
     ·subst hji;simp[CE,hgo]
     ·simp[hji]
    ·rename_i hgo
     simp only[R]
     apply Hc
     intro j hj
     by_cases hji:j=i
     ·subst hji;simp[CE,hgo]
     ·simp[hji]
   rw[<- hs]
   cases hgo:Y5 L k i with
   | false=>rfl
   | true=>
    have:=Ym L k i;simp only[Af];rw[Ac (by rw[hlen];exact Ff hi),Ac (by rw[hlen];exact Ff hi),Ac (by rw[FL];omega),Ac (by rw[hlen];exact Ff hi)]
    rfl
  ·unfold Ik;simp only[Dk,Aq]
 have:Ad (Dy L) ((0:Int),R 0 0)=some (Cd L):=Fn (Dy L) (λi=>(((i:Nat):Int),R i 0)) (Cd L) L.length (λi hi=>?_) ?_
 ·have e0:List.replicate L.length ([]:List Int)=R 0 0:=by
   simp only[R]
   apply List.ext_getElem?
   intro j
   by_cases hj:j<L.length<;>simp[hj,List.getElem?_replicate,Kh]
  rw[e0,this]
 ·unfold Dy;simp only[B5 hi,Af];rw[inner i hi,w1 (by omega)];simp only[Aj]
  congr 3
  simp only[R]
  apply Hc
  intro j hj
  by_cases h4:j<i
  ·simp[h4,show j<i+1 by omega]
  ·by_cases h5:j=i
   ·subst h5;simp
   ·simp[h4,h5,show ¬ j<i+1 by omega];intro h6;simp[Kh]
 ·unfold Dy;simp only[Dk,Aq]
  congr 2
  simp only[R,Cd]
  apply Hc
  intro j hj;simp[hj]
theorem QY(L:List (List Int))(h:Fits L):H2 L=some (bif N1 L then(J0 L,0) else(g0,5)):=by
 have hroom:1000<=room:=by decide
 unfold H2
 have hc:(bif (L.length==(0:Int)) then true else decide (64<(L.length:Int))) = !(decide (1<=L.length)&&decide (L.length<=64)):=by
  grind
 rw[hc];have hm:N1 L=((decide _&&decide _)&&(List.range _).all _):=rfl
 cases hb:(decide (1<=L.length)&&decide (L.length<=64)) with
 | false=>rw[hm,hb];rfl
 | true=>
  have hb':=hb;simp only[A1,Ds]at hb';have:Ad (Fy L) 0=_:=H9 _ (λj=>(j:Int)) (λi=>mt L.length (L.getD i [])) (.inl ()) (.inr (g0,5)) L.length (λj hj hp=>?_) (λj hj hp=>?_) ?_
  ·rw[this]
   cases hall:(List.range L.length).all _ with
   | false=>rw[hm,hb,hall];rfl
   | true=>
    have hmay:N1 L=true:=by rw[hm,hb,hall];rfl
    rw[hmay];rw[Ac ⟨by omega,Int.le_refl _,by omega⟩,Ap,WE L hmay]
    rfl
  ·unfold Fy;simp only[B5 hj];rw[NB L j hj (h.at j),hp,w1 (by omega)]
   rfl
  ·unfold Fy;simp only[B5 hj];rw[NB L j hj (h.at j),hp]
   rfl
  ·unfold Fy;simp only[Dk,Aq]
theorem HX{L:List (List Int)}(h:N1 L=true):Fits (J0 L).Succ/\Fits (J0 L).Pred:=⟨U0 (Ua h),U0 (T0 h)⟩
theorem lm(g:TGraph)(h:Fits g.Succ):Ls g=some (ER g):=by
 unfold Ls ER;rw[QY _ h,Aj]
 cases hm:N1 _ with
 | false=>rfl
 | true=>
  simp only[Af,Va];rw[xO _ _ (HX hm).1 (HX hm).2];simp only[Aj]
  congr 1
  apply zzL74.2
  cases g with
  | mk s p=>
   simp only[J0,TGraph.mk.injEq,true_and];exact U6
noncomputable section
def upd(s:Nat->Bool)(y:Nat):Nat->Bool:=λz=>decide (z=y) || s z
theorem upd_true{s:Nat->Bool}{y z:Nat}:upd s y z=true↔z=y\/s z=true:=by simp[upd]
theorem upd_false{s:Nat->Bool}{y z:Nat}:upd s y z=false↔z≠y/\s z=false:=by simp[upd]
inductive VL (S:Nat->List Nat):(Nat->Bool)->List Nat->(Nat->Bool)->List Nat->Prop
 | nil (s:Nat->Bool):VL S s [] s []
 | skip {s s':Nat->Bool} {y:Nat} {l o:List Nat} (h:s y=true) (t:VL S s l s' o):VL S s (y::l) s' o
 | step {s s1 s2:Nat->Bool} {y:Nat} {l o1 o2:List Nat} (h:s y=false) (a:VL S (upd s y) (S y) s1 o1) (b:VL S s1 l s2 o2):VL S s (y::l) s2 (o1++y::o2)
inductive Rch (S:Nat->List Nat):Nat->Nat->Prop
 | refl (x:Nat):Rch S x x
 | head {x y z:Nat} (h:y∈S x) (t:Rch S y z):Rch S x z
theorem Rch.tail{S:Nat->List Nat}{x y z:Nat}(h:Rch S x y)(hz:z∈S y):Rch S x z:=by
 induction h with
 | refl x=>exact .head hz (.refl _)
 | head h _ ih=>exact .head h (ih hz)
theorem Rch.trans{S:Nat->List Nat}{x y z:Nat}(h:Rch S x y)(k:Rch S y z):Rch S x z:=by
 induction h with
 | refl x=>exact k
 | head h _ ih=>exact .head h (ih k)
variable {S:Nat->List Nat} {s s':Nat->Bool} {l o:List Nat}
theorem VL.seen(h:VL S s l s' o)(z:Nat):s' z=true↔s z=true\/z∈o:=by
 induction h with
 | nil s=>simp
 | skip h _ ih=>exact ih
 | @step s s1 s2 y l o1 o2 h a b iha ihb=>
  rw[ihb,iha,upd_true]
  constructor
  ·grind
  ·grind
theorem VL.fresh(h:VL S s l s' o){z:Nat}(hz:z∈o):s z=false:=by
 induction h with
 | nil s=>cases hz
 | skip h _ ih=>exact ih hz
 | @step s s1 s2 y l o1 o2 h a b iha ihb=>
  rcases zzL14.1 hz with h1|h1
  ·exact(upd_false.1 (iha h1)).2
  ·rcases zzL28.1 h1 with rfl|h1
   ·exact h
   ·have:=ihb h1
    cases hs:s z with
    | false=>rfl
    | true=>rw[(a.seen z).2 (.inl (upd_true.2 (.inr hs)))]at this;cases this
theorem VL.nodup(h:VL S s l s' o):o.Nodup:=by
 induction h with
 | nil s=>exact List.nodup_nil
 | skip h _ ih=>exact ih
 | @step s s1 s2 y l o1 o2 h a b iha ihb=>
  rw[List.nodup_append];refine⟨iha,zzL116.2 ⟨λhy=>?_,ihb⟩,λu hu v hv=>?_⟩
  ·have:=b.fresh hy;rw[(a.seen y).2 (.inl (upd_true.2 (.inl rfl)))]at this
   cases this
  ·rintro rfl;rcases zzL28.1 hv with rfl|hv
   ·have:=a.fresh hu;rw[upd_true.2 (.inl rfl)]at this
    cases this
   ·have:=b.fresh hv;rw[(a.seen u).2 (.inr hu)]at this
    cases this
theorem VL.rch(h:VL S s l s' o){z:Nat}(hz:z∈o):∃ y∈l,Rch S y z:=by
 induction h with
 | nil s=>cases hz
 | skip h _ ih=>grind
 | @step s s1 s2 y l o1 o2 h a b iha ihb=>
  rcases zzL14.1 hz with h1|h1
  ·obtain⟨u,hu,hr⟩:=iha h1;exact⟨y,zzL41 ..,.head hu hr⟩
  ·rcases zzL28.1 h1 with rfl|h1
   ·exact⟨z,zzL41 ..,.refl z⟩
   ·grind
theorem VL.closed(h:VL S s l s' o):(∀ y∈l,s' y=true)/\∀ z∈o,∀ y∈S z,s' y=true:=by
 induction h with
 | nil s=>grind
 | @skip s s' y l o h t ih=>
  refine⟨λu hu=>?_,ih.2⟩;rcases zzL28.1 hu with rfl|hu
  ·exact(t.seen u).2 (.inl h)
  ·exact ih.1 u hu
 | @step s s1 s2 y l o1 o2 h a b iha ihb=>
  refine⟨λu hu=>?_,λz hz u hu=>?_⟩
  ·rcases zzL28.1 hu with rfl|hu
   ·exact(b.seen u).2 (.inl ((a.seen u).2 (.inl (upd_true.2 (.inl rfl)))))
   ·exact ihb.1 u hu
  ·rcases zzL14.1 hz with h1|h1
   ·exact(b.seen u).2 (.inl (iha.2 z h1 u hu))
   ·rcases zzL28.1 h1 with rfl|h1
    ·exact(b.seen u).2 (.inl (iha.1 u hu))
    ·exact ihb.2 z h1 u hu
theorem VL.above(h:VL S s l s' o)(hf:∀ z,∀ y∈S z,z<y){b:Nat}(hb:∀ y∈l,b<y):∀ z∈o,b<z:=by
 induction h generalizing b with
 | nil s=>intro z hz;cases hz
 | skip h _ ih=>exact ih (λy hy=>hb y (Lm _ hy))
 | @step s s1 s2 y l o1 o2 h a c iha ihb=>
  intro z hz;have hy:=hb y (zzL41 ..);rcases zzL14.1 hz with h1|h1
  ·exact iha (λu hu=>Nat.lt_trans hy (hf y u hu)) z h1
  ·rcases zzL28.1 h1 with rfl|h1
   ·exact hy
   ·exact ihb (λu hu=>hb u (Lm _ hu)) z h1
theorem VL.ahead(h:VL S s l s' o)(hf:∀ z,∀ y∈S z,z<y):∀ z∈o,∀ y∈S z,s y=true\/∃ A B,o=A++z::B/\y∈A:=by
 induction h with
 | nil s=>intro z hz;cases hz
 | skip h _ ih=>exact ih
 | @step s s1 s2 y l o1 o2 h a c iha ihb=>
  intro z hz u hu;rcases zzL14.1 hz with h1|h1
  ·have hzy :=a.above hf (λv hv=>hf y v hv) z h1;have hzu:=hf z u hu;rcases iha z h1 u hu with h2|⟨A,B,rfl,hA⟩
   ·rcases upd_true.1 h2 with rfl|h2
    ·omega
    ·exact .inl h2
   ·grind
  ·rcases zzL28.1 h1 with rfl|h1z
   ·have hzu:=hf z u hu;rcases(a.seen u).1 (a.closed.1 u hu) with h2|h2
    ·rcases upd_true.1 h2 with rfl|h2
     ·omega
     ·exact .inl h2
    ·grind
   ·rcases ihb z h1z u hu with h2|⟨A,B,rfl,hA⟩
    ·rcases(a.seen u).1 h2 with h3|h3
     ·rcases upd_true.1 h3 with rfl|h3
      ·obtain⟨P,Q,rfl⟩:=List.append_of_mem h1z;exact .inr ⟨o1++u::P,Q,by simp,by simp⟩
      ·exact .inl h3
     ·obtain⟨P,Q,rfl⟩:=List.append_of_mem h1z;exact .inr ⟨o1++y::P,Q,by simp,by simp[h3]⟩
    ·grind
def cf(n:Nat)(s:Nat->Bool):Nat:=((List.range n).filter λz=>!s z).length
theorem DQ{n:Nat}{s:Nat->Bool}{y:Nat}(hy:y<n)(h:s y=false):cf n (upd s y)+1=cf n s:=by
 unfold cf
 induction n with
 | zero=>omega
 | succ n ih=>
  rw[FN,FM,FM,Du,Du]
  by_cases hyn:y=n
  ·subst hyn
   have e:(List.range y).filter (λz=>!upd s y z)=(List.range y).filter (λz=>!s z):=by
    apply List.filter_congr
    intro z hz;have:=zzL85.1 hz;simp[upd,show z≠y by omega]
   rw[e];simp[upd,h]
  ·have e:([n].filter λz=>!upd s y z).length=([n].filter λz=>!s z).length:=by
    simp only[List.filter_cons, upd];simp[Ro hyn]
   omega
theorem cg{n:Nat}{s s':Nat->Bool}(h:∀ z,s z=true->s' z=true):cf n s'<=cf n s:=by
 apply List.Sublist.length_le
 have:(List.range n).filter (λz=>!s' z)=((List.range n).filter λz=>!s z).filter λz=>!s' z:=by
  rw[List.filter_filter]
  apply List.filter_congr
  intro z _
  cases hs:s z with
  | false=>simp
  | true=>simp[h z hs]
 rw[this];exact List.filter_sublist
theorem VL.exist{n:Nat}(hS:∀ z,z<n->∀ y∈S z,y<n):∀(m:Nat) (s:Nat->Bool),cf n s<=m->∀ l:List Nat,(∀ y∈l,y<n)->∃ s' o,VL S s l s' o:=by
 intro m
 induction m with
 | zero=>
  intro s hm l
  induction l with
  | nil=>intro _;exact⟨s,[],.nil s⟩
  | cons y l ih=>
   intro hl;obtain⟨s',o,h⟩:=ih (λz hz=>hl z (Lm _ hz))
   cases hy:s y with
   | true=>exact⟨s',o,.skip hy h⟩
   | false=>have:=DQ (hl y (zzL41 ..)) hy;omega
 | succ m ih=>
  intro s hm l
  induction l generalizing s with
  | nil=>intro _;exact⟨s,[],.nil s⟩
  | cons y l ihl=>
   intro hl
   cases hy:s y with
   | true=>
    obtain⟨s',o,h⟩:=ihl s hm (λz hz=>hl z (Lm _ hz));exact⟨s',o,.skip hy h⟩
   | false=>
    have hyn:=hl y (zzL41 ..);have:=DQ hyn hy;obtain⟨s1,o1,h1⟩:=ih (upd s y) (by omega) _ (hS y hyn);have h2:cf n s1<=cf n s:=cg λz hz=>(h1.seen z).2 (.inl (upd_true.2 (.inr hz)));obtain⟨s2,o2,h3⟩:=ihl s1 (by omega) (λz hz=>hl z (Lm _ hz));exact⟨s2,_,.step hy h1 h3⟩
def one(r:Nat):Nat->Bool:=λz=>decide (z=r)
def Ord(S:Nat->List Nat)(r:Nat)(L:List Nat):Prop:=∃ s' o,VL S (one r) (S r) s' o/\L=r::o.reverse
theorem Ord.exist{n:Nat}(hS:∀ z,z<n->∀ y∈S z,y<n){r:Nat}(hr:r<n):∃ L,Ord S r L:=by
 obtain⟨s',o,h⟩:=VL.exist hS _ _ (zzL8 _) _ (hS r hr);exact⟨_,s',o,h,rfl⟩
theorem Ord.mem{r:Nat}{L:List Nat}(h:Ord S r L)(z:Nat):z∈L↔Rch S r z:=by
 obtain⟨s',o,h,rfl⟩:=h
 have hs:∀ z,s' z=true↔z=r\/z∈o:=λz=>by rw[h.seen];simp[one]
 have hc:∀ x,s' x=true->∀ y∈S x,s' y=true:=λx hx y hy=>by
  rcases(hs x).1 hx with rfl|hx
  ·exact h.closed.1 y hy
  ·exact h.closed.2 x hx y hy
 simp only[zzL28,List.mem_reverse];rw[<- hs z]
 constructor
 ·intro hz;rcases(hs z).1 hz with rfl|hz
  ·exact .refl _
  ·obtain⟨y,hy,hr⟩:=h.rch hz;exact .head hy hr
 ·intro hr
  have key:∀ x z,Rch S x z->s' x=true->s' z=true:=by
   intro x z hxz
   induction hxz with
   | refl x=>exact id
   | head hy _ ih=>grind
  exact key r z hr ((hs r).2 (.inl rfl))
theorem Ord.nodup{r:Nat}{L:List Nat}(h:Ord S r L):L.Nodup:=by
 obtain⟨s',o,h,rfl⟩:=h;refine zzL116.2 ⟨λhr=>?_,(List.reverse_perm o).nodup_iff.2 h.nodup⟩;have:=h.fresh (List.mem_reverse.1 hr);simp[one]at this
theorem Ord.fwd{r:Nat}{L:List Nat}(h:Ord S r L)(hf:∀ z,∀ y∈S z,z<y):∀ z∈L,∀ y∈S z,∃ A B,L=A++z::B/\y∈B:=by
 obtain⟨s',o,h,rfl⟩:=h;intro z hz y hy;have hzy:=hf z y hy;rcases zzL28.1 hz with rfl|hz
 ·refine⟨[],o.reverse,rfl,?_⟩;rcases(h.seen y).1 (h.closed.1 y hy) with h1|h1
  ·simp[one]at h1;omega
  ·grind
 ·have hz:=List.mem_reverse.1 hz;have hrz :=h.above hf (λv hv=>hf r v hv) z hz;rcases h.ahead hf z hz y hy with h1|⟨A,B,rfl,hA⟩
  ·simp[one]at h1;omega
  ·grind
end
theorem ln(l:List Int)(hl:l.length<4611686018427387904):Fb l=some l.reverse:=by
 unfold Fb
 by_cases h0:l.length=0
 ·obtain rfl:l=[]:=zzL113.1 h0
  have:Ad Bj ((0:Int),(w64 ((([]:List Int).length:Int)-1)),([]:List Int))=some []:=by
   apply Ak
   unfold Bj;rw[Em (by simp) (by simp)]
   rfl
  rw[this];rfl
 ·have hw:w64 ((l.length:Int)-1)=((l.length-1:Nat):Int):=by rw[Em (by omega) (by omega)];omega
  rw[hw]
  let C:Nat->List Int:=λk=>(List.range l.length).map λi=>if i<k\/l.length-1-k<i then l.getD (l.length-1-i) 0 else l.getD i 0
  have hC:∀ k i,i<l.length->(C k).getD i 0=if i<k\/l.length-1-k<i then l.getD (l.length-1-i) 0 else l.getD i 0:=λk i hi=>by simp only[C];rw[Sj hi]
  have hlen:∀ k,(C k).length=l.length:=λk=>by simp[C]
  have:=Fn Bj (λk=>(((k:Nat):Int),((l.length-1-k:Nat):Int),C k)) l.reverse (l.length / 2) (λk hk=>?_) ?_
  ·have e0:C 0=l:=by
    apply NO (by simp[C])
    intro i h1 h2;have:=hC 0 i h2;rw[Am _ _ _ h1,Am _ _ _ h2]at this;rw[this,if_neg (by omega)]
   have this':Ad Bj ((0:Int),((l.length-1:Nat):Int),l)=some l.reverse:=by
    have h2:=this;simp only[e0]at h2;exact h2
   rw[this'];rfl
  ·show Bj (_,_,_)=_
   unfold Bj
   have hlt:k<l.length-1-k:=by omega
   simp only[B5 hlt,Af,Ap];rw[Ac (Ff (by rw[hlen];omega)),Ac (Ff (by rw[hlen];omega)),Ac (Ff (by rw[hlen];omega)),Ac (Ff (by rw[hlen];omega))];rw[w1 (by omega),show w64 (((l.length-1-k:Nat):Int)-1)=((l.length-1-(k+1):Nat):Int) by rw[Em (by omega) (by omega)];omega]
   congr 4
   rw[hC k _ (by omega),hC k _ (by omega),if_neg (by omega),if_neg (by omega)];simp only[C];rw[CL,CL]
   apply Hc
   intro i hi
   by_cases h1:i=k
   ·subst h1;rw[if_neg (by omega),if_pos rfl,if_pos (by omega)]
   ·by_cases h2:i=l.length-1-k
    ·subst h2;rw[if_pos rfl,if_pos (by omega)]
     congr 1;omega
    ·rw[if_neg h2,if_neg h1]
     by_cases h3:i<k\/l.length-1-k<i
     ·rw[if_pos h3,if_pos (by omega)]
     ·rw[if_neg h3,if_neg (by omega)]
  ·show Bj (_,_,_)=_
   unfold Bj;have hd:decide (((l.length / 2:Nat):Int)<((l.length-1-l.length / 2:Nat):Int))=false:=Da (by omega);simp only[hd,Aq]
   congr 2
   apply NO (by simp[C])
   intro i h1 h2
   have h3:i<l.length:=by simpa [C] using h1
   have:=hC (l.length / 2) i h3;rw[Am _ _ _ h1]at this;rw[this,List.getElem_reverse]
   split
   ·rw[Am _ _ _ (by omega)]
   ·rw[Am _ _ _ h3]
    congr 1;omega
theorem top{st:List Int}{a:Int}(h:st.length<4611686018427387904):(st++[a]).getD (w64 (((st++[a]).length:Int)-1)).toNat 0=a:=by
 have:w64 ((st++[a]).length-1)=(st.length:Int):=by rw[Du,FL,Em (by omega) (by omega)];omega
 rw[this];simp[List.getD]
theorem Aap{st:List Int}{a:Int}(h:st.length<4611686018427387904):w64 (((st++[a]).length:Int)-1)=((st.length:Nat):Int):=by
 rw[Du,FL,Em (by omega) (by omega)];omega
theorem re{g:TGraph}{R:List Bool}{st T:List Int}{a:Nat}(hst:st.length<64)(ha:a<g.Succ.length)(h64:g.Succ.length<=64)(ht:T.getD a 0=((g.Succ.getD a []).length:Int)) :
  Jq g R (st++[(a:Int)]) T=some (.done (.inl T)):=by
 unfold Jq;simp only[top (st:=st)  (by omega),Ap];rw[Ac (Ff (by omega)),Ac (Ff ha),ht,Dk,Aq]
theorem jJ{g:TGraph}{R:List Bool}{st T:List Int}{a t y:Nat}(hst:st.length<64)(ha:a<g.Succ.length)(h64:g.Succ.length<=64)(ht:T.getD a 0=(t:Int))(htl:t<(g.Succ.getD a []).length)(htm:t<64)
  (hy:(g.Succ.getD a []).getD t 0=(y:Int)) (hyn:y<g.Succ.length) :
  Jq g R (st++[(a:Int)]) T=bif R.getD y false then some (.next (Qf 64 (0:Int) T a ((t+1:Nat):Int))) else some (.done (.inr (Qf 64 false R y true,Qf 64 (0:Int) T a ((t+1:Nat):Int),(st++[(a:Int)])++[(y:Int)]))):=by
 have hroom:1000<=room:=by decide
 unfold Jq;simp only[top (st:=st)  (by omega),Ap,ht,hy];rw[Ac (Ff (by omega)),Ac (Ff ha),B5 htl, Ac (Ff ha),Ac (Ff (by omega)),Ac (Ff htl),Ac (Ff (by omega)),Ac (Ff (by omega)),Ac (Ff (by omega)),w1 (by omega)]
 cases R.getD y _ with
 | true=>rfl
 | false=>
  simp only[L0,Af,Aq];rw[Ac (Ff (by omega)),Ac (by grind)]
theorem jI{g:TGraph}{R:List Bool}{st T Lf:List Int}{a:Nat}(hst:st.length<64)(hLf:Lf.length<64) :
  Ee g (R,T,st++[(a:Int)],Lf)=(Ad (Jq g R (st++[(a:Int)])) T).bind λx=>match x with
   | .inl T'=>if st=[] then some (.done (Lf++[(a:Int)]).reverse) else some (.next (R,T',st,Lf++[(a:Int)]))
   | .inr (R',T',st')=>some (.next (R',T',st',Lf)):=by
 have hroom:1000<=room:=by decide
 unfold Ee;simp only
 have hb:As (w64 ((st++[(a:Int)]).length-1)) (st++[(a:Int)]).length:=by rw[Aap (by omega)];exact Ff (by simp)
 rw[Ac hb]
 congr 1
 funext x
 cases x with
 | inr y =>  rfl
 | inl T'=>
  simp only[top (st:=st)  (by omega)];rw[Aap (by omega),Ap,Ac (by grind),Ac ⟨by omega,by simp⟩];have e:(st++[(a:Int)]).take _=st:=List.take_left' rfl;rw[e]
  cases st with
  | nil=>
   rw[if_pos rfl]
   have:decide (0<(([]:List Int).length:Int))=false:=by decide
   rw[this,Aq,ln _ (by simp;omega)];simp only[Aj];rw[Ac (by simp)]
  | cons b st'=>
   simp_all
theorem ga{S X:Type}{f:S->Option (LR S X)}{a b:S}(h:f a=f b):Ad f a=Ad f b:=by
 cases hb:f b with
 | none=>rw[GL (h.trans hb),GL hb]
 | some r=>cases r with
  | done x=>rw[Ak (h.trans hb),Ak hb]
  | next s=>rw[Ar (h.trans hb),Ar hb]
theorem NE{S X:Type}{f:S->Option (LR S X)}{s:S}:Tc (f s) f=Ad f s:=by
 cases hb:f s with
 | none=>rw[GL hb];rfl
 | some r=>cases r with
  | done x=>rw[Ak hb];rfl
  | next s'=>rw[Ar hb];rfl
def sN(L:List (List Int))(k:Nat):List Nat:=(L.getD k []).map Int.toNat
def RelS(R:List Bool)(s:Nat->Bool):Prop:=∀ z,z<64->R.getD z false=s z
theorem T6{α:Type}{d:α}{l:List α}{i:Nat}{x:α}{k:Nat}(hk:k<64):(Qf 64 d l i x).getD k d=if k=i then x else l.getD k d:=by
 rw[YK hk]
 by_cases h:k=i
 · simp
 ·have:Nat.beq k i=false:=by cases hb:Nat.beq k i with|false=>rfl|true=>simp_all
  rw[this,if_neg h];rfl
theorem RelS.set{R:List Bool}{s:Nat->Bool}(h:RelS R s){y:Nat}:RelS (Qf 64 false R y true) (upd s y):=λz hz=>by
 rw[T6 hz,h z hz]
 by_cases hzy:z=y
 ·simp[upd]
 ·simp[upd]
def Wp(o:List Nat):List Int:=o.map Int.ofNat
theorem gt{g:TGraph}(hm:N1 g.Succ=true){s s':Nat->Bool}{l o:List Nat}(hv:VL (sN g.Succ) s l s' o) :
  ∀(R:List Bool) (T st Lf:List Int) (a t:Nat),RelS R s->a<g.Succ.length->l=(sN g.Succ a).drop t->T.getD a 0=(t:Int)->t<=(sN g.Succ a).length->s a=true->(∀ z,z<64->s z=false->T.getD z 0=0)->
   Lf.length+cf 64 s+st.length+1<=64->
   ∃(R':List Bool) (T':List Int),RelS R' s'/\(∀ z,z<64->s' z=false->T'.getD z 0=0)/\(∀ z,z<64->s z=true->z≠a->T'.getD z 0=T.getD z 0)/\Lf.length+o.length+cf 64 s'+st.length+1<=64 /\
    Ad (Ee g) (R,T,st++[(a:Int)],Lf)=if st=[] then some (Lf++Wp o++[(a:Int)]).reverse else Ad (Ee g) (R',T',st,Lf++Wp o++[(a:Int)]):=by
 obtain⟨hL1,hL64,hLok⟩:=mayS_iff.1 hm
 have hlenS:∀ a,(sN g.Succ a).length=(g.Succ.getD a []).length:=λa=>by simp[sN]
 have hdrop:∀(a t y:Nat) (l':List Nat),a<g.Succ.length->y::l'=(sN g.Succ a).drop t->t<(g.Succ.getD a []).length/\(g.Succ.getD a []).getD t 0=(y:Int)/\y<g.Succ.length/\l'=(sN g.Succ a).drop (t+1):=λa t y l' ha he=>by
  have ht:t<(sN g.Succ a).length:=by
   rcases zzL118 t (sN g.Succ a).length with h|h
   ·exact h
   ·rw[List.drop_eq_nil_of_le h]at he;cases he
  rw[ee ht]at he;simp only[Ew]at he;obtain⟨h1,h2⟩:=he
  have ht':t<(g.Succ.getD a []).length:=by rw[<- hlenS];exact ht
  obtain⟨b0,b1⟩:=BQ (hLok a ha) ht'
  have h3:(sN g.Succ a)[t]=((g.Succ.getD a []).getD t 0).toNat:=by rw[Am _ _ _ ht'];simp[sN]
  exact⟨ht',by omega,by omega,h2⟩
 induction hv with
 | nil s=>
  intro R T st Lf a t hR ha hl hT htl hsa hz hc
  have ht:t=(g.Succ.getD a []).length:=by
   have:=Bn List.length hl;simp at this;rw[hlenS]at htl this;omega
  refine⟨R,T,hR,hz,λ_ _ _ _=>rfl,by simpa using hc,?_⟩
  have hF:Ee g (R,T,st++[(a:Int)],Lf)=if st=[] then some (.done (Lf++[(a:Int)]).reverse) else some (.next (R,T,st,Lf++[(a:Int)])):=by
   rw[jI (by omega) (by omega),Ak (re (by omega) ha hL64 (by rw[hT,ht]))]
   rfl
  by_cases hst:st=[]
  ·rw[if_pos hst]at hF ⊢;rw[Ak hF];simp[Wp]
  ·rw[if_neg hst]at hF ⊢;rw[Ar hF];simp[Wp]
 | @skip s s' y l o h tl ih=>
  intro R T st Lf a t hR ha hl hT htl hsa hz hc;obtain⟨h1,h2,h3,h4⟩:=hdrop a t y l ha hl;have hb:=EC (hLok a ha);have hs:=jJ (g:=g) (R:=R) (st:=st) (T:=T) (a:=a) (t:=t) (y:=y) (by omega) ha hL64 hT h1 (by omega) h2 h3;rw[hR y (by omega),h,Af]at hs;obtain⟨R',T',a1,a2,a3,a4,a5⟩:=ih R (Qf 64 (0:Int) T a ((t+1:Nat):Int)) st Lf a (t+1) hR ha h4 (by rw[T6 (by omega),if_pos rfl]) (by rw[hlenS];omega) hsa
   (λz hz1 hz2=>by rw[T6 hz1,if_neg (by rintro rfl;rw[hsa]at hz2;cases hz2)];exact hz z hz1 hz2) hc
  refine⟨R',T',a1,a2,λz hz1 hz2 hz3=>by rw[a3 z hz1 hz2 hz3,T6 hz1,if_neg hz3],a4,?_⟩;rw[<- a5]
  apply ga
  rw[jI (by omega) (by omega),jI (by omega) (by omega),Ar hs]
 | @step s s1 s2 y l o1 o2 h tl tr ih1 ih2=>
  intro R T st Lf a t hR ha hl hT htl hsa hz hc;obtain⟨h1,h2,h3,h4⟩:=hdrop a t y l ha hl;have hb:=EC (hLok a ha)
  have hay:y≠a:=by rintro rfl;rw[hsa]at h;cases h
  have hs:=jJ (g:=g) (R:=R) (st:=st) (T:=T) (a:=a) (t:=t) (y:=y) (by omega) ha hL64 hT h1 (by omega) h2 h3;rw[hR y (by omega),h,Aq]at hs;have hcu:=DQ (n:=64) (show y<64 by omega) h
  have hF:Ee g (R,T,st++[(a:Int)],Lf)=some (.next (Qf 64 false R y true,Qf 64 (0:Int) T a ((t+1:Nat):Int),(st++[(a:Int)])++[(y:Int)],Lf)):=by
   rw[jI (by omega) (by omega),Ak hs]
   rfl
  obtain⟨R1,T1,b1,b2,b3,b4,b5⟩:=ih1 (Qf 64 false R y true) (Qf 64 (0:Int) T a ((t+1:Nat):Int)) (st++[(a:Int)]) Lf y 0 hR.set h3 (by simp)
   (by rw[T6 (by omega),if_neg hay];exact hz y (by omega) h) (Xj _) (upd_true.2 (.inl rfl))
   (λz hz1 hz2=>by
    obtain⟨c1,c2⟩:=upd_false.1 hz2;rw[T6 hz1,if_neg (by rintro rfl;rw[hsa]at c2;cases c2)]
    exact hz z hz1 c2) (by rw[Du,FL];omega)
  rw[if_neg (by simp)]at b5
  have hTa:T1.getD a 0=((t+1:Nat):Int):=by rw[b3 a (by omega) (upd_true.2 (.inr hsa)) (Ro hay),T6 (by omega),if_pos rfl]
  rw[Du,FL]at b4;obtain⟨R2,T2,c1,c2,c3,c4,c5⟩:=ih2 R1 T1 st (Lf++Wp o1++[(y:Int)]) a (t+1) b1 ha h4 hTa (by rw[hlenS];omega) ((tl.seen a).2 (.inl (upd_true.2 (.inr hsa)))) b2
   (by simp only[Du,FL,Wp,L5];omega)
  refine⟨R2,T2,c1,c2,λz hz1 hz2 hz3=>?_,?_,?_⟩
  ·rw[c3 z hz1 ((tl.seen z).2 (.inl (upd_true.2 (.inr hz2)))) hz3,b3 z hz1 (upd_true.2 (.inr hz2)) (by rintro rfl;rw[h]at hz2;cases hz2),T6 hz1,if_neg hz3]
  ·simp only[Du,FL,Wp,L5,R0]at c4 ⊢;omega
  ·rw[Ar hF,b5,c5]
   have e:Lf++Wp o1++[(y:Int)]++Wp o2++[(a:Int)]=Lf++Wp (o1++y::o2)++[(a:Int)]:=by simp[Wp]
   rw[e]
theorem Zd{L:List (List Int)}(h:N1 L=true):∀ z,z<L.length->∀ y∈sN L z,y<L.length:=λz hz y hy=>by
 obtain⟨_,_,h3⟩:=mayS_iff.1 h;obtain⟨x,hx,rfl⟩:=zzL21.1 hy;have:=ar (h3 z hz) hx;omega
theorem tb{r:Nat}(hr:r<64):cf 64 (one r)=63:=by
 have h:=DQ  (s:=λ_=>false) hr rfl
 have e:upd (λ_=>false) r=one r:=by funext z;simp[upd,one]
 rw[e]at h
 have:cf 64 (λ_=>false)=64:=by decide
 omega
theorem JC{α:Type}{n z:Nat}{d:α}:(List.replicate n d).getD z d=d:=by grind
theorem am(g:TGraph)(h:Fits g.Succ)(hP:True)(r:Int) :
  (ER g=true->0<=r->r<(g.Succ.length:Int)->∀ L,Ord (sN g.Succ) r.toNat L->Lh g r=some (Wp L)) /\
  ((ER g&&(decide (0<=r)&&decide (r<(g.Succ.length:Int))))=false->Lh g r=some []):=by
 refine⟨λhm h0 h1 L hL=>?_,λhf=>?_⟩
 ·have hms:N1 g.Succ=true:=by unfold ER at hm;exact(A1 _ _▸hm).1
  obtain⟨hL1,hL64,hLok⟩:=mayS_iff.1 hms;obtain⟨s',o,hv,rfl⟩:=hL;have hrn :=Lb h0
  have hr:r.toNat<g.Succ.length:=by omega
  obtain⟨R',T',_,_,_,_,hmain⟩:=gt hms hv (Qf 64 false (List.replicate 64 false) r.toNat true) _ [] [] r.toNat 0
   (λz hz=>by rw[T6 hz,JC];by_cases hzr:z=r.toNat<;>simp[one,hzr]) hr (by simp) JC (Xj _) (by simp[one])
   (λz hz _=>JC) (by rw[tb (by omega)];simp)
  rw[if_pos rfl,hrn]at hmain;unfold Lh;rw[vb _ h,hm,Aj];simp only[Dj,Va,Af,Aq,W1,F9 h0,F9 h1,Bool.and_self,Aj];rw[Ac ⟨h0,by omega⟩];have hF:∀ X,Ad (Ee g) (Qf 64 false (List.replicate 64 false) r.toNat true,List.replicate 64 (0:Int),[]++[r],[])=some X->
    (Tc _ (Ee g)).bind (λx=>some x)=some X:=λX hX=>by
   rw[NE];rw[hX];rfl
  refine(hF _ hmain).trans ?_;simp only[V2,List.reverse_append,Wp,Cb,List.map_reverse,List.reverse_cons,List.reverse_nil]
  simp
  omega
 ·unfold Lh;rw[vb _ h,Aj]
  cases hm:ER g with
  | false=>rfl
  | true=>
   rw[hm,Hi]at hf;simp only[Dj,Va,Af,Aq,W1,hf,Aj,L0]
   rfl
def RelN(n:Nat)(R:List Bool)(s:Nat->Bool):Prop:=R.length=n/\∀ z,z<n->R.getD z false=s z
theorem RelN.set{n:Nat}{R:List Bool}{s:Nat->Bool}(h:RelN n R s){y:Nat}(hy:y<n):RelN n (R.set y true) (upd s y):=by
 refine⟨by rw[D0];exact h.1,λz hz=>?_⟩;rw[ed,List.getElem?_set]
 by_cases hzy:y=z
 ·subst hzy;simp[upd,h.1,hy]
 ·rw[if_neg hzy,<- ed,h.2 z hz];simp[upd,Ro hzy]
theorem Ub:∀(n:Nat) (l:List Nat),l.Nodup->(∀ x∈l,x<n)->l.length<=n
 | 0,l,_,h=>by
  cases l with
  | nil=>simp
  | cons x l=>have:=h x (zzL41 ..);omega
 | n+1,l,hd,h=>by
  by_cases hn:n∈l
  ·have h1:=Ub n _ (hd.erase n) λx hx=>by
    grind
   rw[List.length_erase_of_mem hn]at h1;omega
  ·have h1:=Ub n l hd λx hx=>by
    grind
   omega
theorem GT:∀{a b:List Int},a.Pairwise (·<·)->b.Pairwise (·<·)->(∀ x,x∈a↔x∈b)->a=b
 | [],[],_,_,_=>rfl
 | [],y::b,_,_,h=>by have:=(h y).2 (zzL41 ..);cases this
 | x::a,[],_,_,h=>by have:=(h x).1 (zzL41 ..);cases this
 | x::a,y::b,ha,hb,h=>by
  have ha':=zzL96.1 ha;have hb':=zzL96.1 hb
  have hxy:x=y:=by
   rcases zzL28.1 ((h x).1 (zzL41 ..)) with h1|h1
   ·exact h1
   ·rcases zzL28.1 ((h y).2 (zzL41 ..)) with h2|h2
    ·exact h2.symm
    ·grind
  congr 1
  refine GT ha'.2 hb'.2 λz=>⟨λhz=>?_,λhz=>?_⟩
  ·grind
  ·grind
theorem BD(p:Nat->Bool)(n:Nat):(((List.range n).filter p).map Int.ofNat).Pairwise (·<·):=by
 rw[List.pairwise_map];have:=(List.pairwise_lt_range (n:=n)).filter p
 exact this.imp λh=>by simpa using h
theorem RC{p:Nat->Bool}{n:Nat}{x:Int}:x∈((List.range n).filter p).map Int.ofNat↔∃ k:Nat,x=(k:Int)/\k<n/\p k=true:=by
 grind
theorem o5{L:List (List Int)}{k i:Nat}:Y5 L k i=true↔(i:Int)∈L.getD k []:=by unfold Y5;rw[zzL65]
theorem oJ{b:Bool}{α:Type}{x:α}:(bif b then x else x)=x:=by cases b<;>rfl
theorem pT{L:List (List Int)}(h:N1 L=true){x y:Nat}(hx:x<L.length):y∈sN L x↔(y:Int)∈L.getD x []:=by
 obtain⟨_,_,h3⟩:=mayS_iff.1 h;unfold sN;rw[zzL21]
 constructor
 ·rintro⟨z,hz,rfl⟩;have:=ar (h3 x hx) hz;rw[Lb this.1];exact hz
 ·grind
def mk(o:List Bool)(l:List Nat):List Bool:=l.foldl (λo y=>o.set y true) o
theorem gk(l:List Nat):∀ o:List Bool,(mk o l).length=o.length:=by
 induction l with
 | nil=>intro o;rfl
 | cons y l ih=>intro o;show(mk _ l).length=_;rw[ih,D0]
theorem mk_at{n:Nat}(l:List Nat):∀(o:List Bool),o.length=n->(∀ y∈l,y<n)->∀ z,(mk o l).getD z false=true↔o.getD z false=true\/z∈l:=by
 induction l with
 | nil =>  simp[mk]
 | cons y l ih=>
  intro o ho hl z
  show(mk _ l).getD z _=true↔_
  rw[ih _ (by grind) (λu hu=>hl u (Lm _ hu)) z]
  have e:(o.set y true).getD z false=true↔o.getD z false=true\/z=y:=by
   grind
  rw[e,zzL28]
  constructor
  ·grind
  ·rintro(h|h|h)
   ·exact .inl (.inl h)
   ·exact .inl (.inr h)
   ·exact .inr h
def sw(S:Nat->List Nat)(o:List Bool):Nat->List Bool
 | 0=>o
 | i+1=>if(sw S o i).getD i false=true then mk (sw S o i) (S i) else sw S o i
def IX(S:Nat->List Nat)(n:Nat)(o:List Bool):Nat->List Bool
 | 0=>o
 | j+1=>sw S (IX S n o j) n
section
variable {S:Nat->List Nat} {n:Nat} (hS:∀ z,z<n->∀ y∈S z,y<n)
theorem sw_len(o:List Bool):∀ i,(sw S o i).length=o.length:=by
 intro i
 induction i with
 | zero=>rfl
 | succ i ih=>unfold sw;split;rw[gk,ih];exact ih
theorem Yn(o:List Bool):∀ j,(IX S n o j).length=o.length:=by
 intro j
 induction j with
 | zero=>rfl
 | succ j ih=>unfold IX;rw[sw_len,ih]
include hS
theorem PK{o:List Bool}(ho:o.length=n):∀ i,i<=n->∀ z,o.getD z false=true->(sw S o i).getD z false=true:=by
 intro i
 induction i with
 | zero=>intro _ z h;exact h
 | succ i ih=>
  intro hi z h;unfold sw
  split
  ·exact(mk_at  _ _ (by rw[sw_len];exact ho) (hS i (by omega)) z).2 (.inl (ih (by omega) z h))
  ·exact ih (by omega) z h
theorem qS{o:List Bool}{r:Nat}(ho:o.length=n)(h:∀ z,o.getD z false=true->Rch S r z):∀ i,i<=n->∀ z,(sw S o i).getD z false=true->Rch S r z:=by
 intro i
 induction i with
 | zero=>intro _ z hz;exact h z hz
 | succ i ih=>
  intro hi z hz;unfold sw at hz
  split at hz
  ·rename_i hsi
   rcases(mk_at  _ _ (by rw[sw_len];exact ho) (hS i (by omega)) z).1 hz with h1|h1
   ·exact ih (by omega) z h1
   ·exact(ih (by omega) i hsi).tail h1
  ·exact ih (by omega) z hz
theorem uv{o:List Bool}(ho:o.length=n):∀ i,i<=n->∀ j,j<i->o.getD j false=true->∀ y∈S j,(sw S o i).getD y false=true:=by
 intro i
 induction i with
 | zero =>  omega
 | succ i ih=>
  intro hi j hj hoj y hy;unfold sw
  by_cases hji:j=i
  ·subst hji;have h1:=PK hS ho j (by omega) j hoj;rw[if_pos h1];exact(mk_at  _ _ (by rw[sw_len];exact ho) (hS j (by omega)) y).2 (.inr hy)
  ·have h1:=ih (by omega) j (by omega) hoj y hy
   split
   ·exact(mk_at  _ _ (by rw[sw_len];exact ho) (hS i (by omega)) y).2 (.inl h1)
   ·exact h1
theorem mU{o:List Bool}(ho:o.length=n)(hc:∀ j,j<n->o.getD j false=true->∀ y∈S j,o.getD y false=true):∀ i,i<=n->∀ z,(sw S o i).getD z false=true->o.getD z false=true:=by
 intro i
 induction i with
 | zero=>intro _ z h;exact h
 | succ i ih=>
  intro hi z hz;unfold sw at hz
  split at hz
  ·rcases(mk_at  _ _ (by rw[sw_len];exact ho) (hS i (by omega)) z).1 hz with h1|h1
   ·exact ih (by omega) z h1
   ·grind
  ·exact ih (by omega) z hz
theorem IY{r:Nat}(hr:r<n)(z:Nat):(IX S n ((List.replicate n false).set r true) n).getD z false=true↔Rch S r z:=by
 let o0:=(List.replicate n false).set r true
 have ho0:o0.length=n:=by simp[o0]
 have hat0:∀ z,o0.getD z false=true↔z=r:=λz=>by
  grind
 have hlen:∀ j,(IX S n o0 j).length=n:=λj=>by rw[Yn,ho0]
 have hsound:∀ j z,(IX S n o0 j).getD z false=true->Rch S r z:=by
  intro j
  induction j with
  | zero=>intro z hz;rw[(hat0 z).1 hz];exact .refl _
  | succ j ih=>intro z hz;exact qS hS (hlen j) ih n (zzL8 _) z hz
 have hmono:∀ j,∀ z,o0.getD z false=true->(IX S n o0 j).getD z false=true:=by
  intro j
  induction j with
  | zero=>intro z h;exact h
  | succ j ih=>intro z h;exact PK hS (hlen j) n (zzL8 _) z (ih z h)
 let C:Nat->Prop:=λj=>∀ i,i<n->(IX S n o0 j).getD i false=true->∀ y∈S i,(IX S n o0 j).getD y false=true
 have key:∀ j,C j\/cf n (λz=>(IX S n o0 j).getD z false)+j+1<=n:=by
  intro j
  induction j with
  | zero=>
   refine .inr ?_;have h1:=DQ (n:=n) (s:=λ_=>false) hr rfl
   have e:upd (λ_=>false) r=λz=>(IX S n o0 0).getD z false:=by
    funext z
    rw[Xh,upd_true]
    show _↔o0.getD z false=true
    rw[hat0]
    simp
   rw[e]at h1
   have hcl:cf n (λ_=>false)=n:=by
    unfold cf;rw[List.filter_eq_self.2 (by simp)]
    simp
   omega
  | succ j ih=>
   by_cases hc:C j
   ·refine .inl λi hi h y hy=>?_;have h1:=mU hS (hlen j) hc n (zzL8 _) i h;exact PK hS (hlen j) n (zzL8 _) y (hc i hi h1 y hy)
   ·rcases ih with ih|ih
    ·exact(hc ih).elim
    ·refine .inr ?_
     have hex:∃ i,i<n/\(IX S n o0 j).getD i false=true/\∃ y,y∈S i/\(IX S n o0 j).getD y false=false:=by
      grind
     obtain⟨i,hi,h1,y,hy,h2⟩:=hex;have h3:=uv hS (hlen j) n (zzL8 _) i hi h1 y hy;have hyn:=hS i hi y hy;have h4:=DQ (n:=n) (s:=λz=>(IX S n o0 j).getD z false) hyn h2
     have h5:cf n (λz=>(IX S n o0 (j+1)).getD z false)<=cf n (upd (λz=>(IX S n o0 j).getD z false) y):=cg λz hz=>by
      rcases upd_true.1 hz with rfl|hz
      ·exact h3
      ·exact PK hS (hlen j) n (zzL8 _) z hz
     omega
 constructor
 ·exact hsound n z
 ·intro hrch
  have hlt:∀ x z,Rch S x z->x<n->z<n/\((IX S n o0 n).getD x false=true->(IX S n o0 n).getD z false=true):=by
   intro x z hxz
   induction hxz with
   | refl x=>exact λhx=>⟨hx,id⟩
   | @head x y z hy _ ih=>
    grind
  exact(hlt r z hrch hr).2 (hmono n r ((hat0 r).2 rfl))
end
theorem uC{L:List (List Int)}(hm:N1 L=true){r:Nat}(hr:r<L.length) :
  Cy (J0 L) (r:Int) (-1:Int)=some (IX (sN L) L.length ((List.replicate L.length false).set r true) L.length):=by
 obtain⟨h1,h2,h3⟩:=mayS_iff.1 hm
 have hroom:(1000:Nat)<=room:=by decide
 have hS:=Zd hm;have hgs:(J0 L).Succ=L:=rfl
 have hlenS:∀ a,(sN L a).length=(L.getD a []).length:=λa=>by simp[sN]
 have hin:∀(o:List Bool) (i:Nat),o.length=L.length->i<L.length->Ad (A4 (J0 L) (-1) (i:Int)) ((0:Int),o)=some (if o.getD i false=true then mk o (sN L i) else o):=λo i ho hi=>by
  have hb:=EC (h3 i hi)
  by_cases hoi:o.getD i false=true
  ·rw[if_pos hoi];have hmi:∀ k,(mk o ((sN L i).take k)).getD i false=true:=λk=>(mk_at (n:=L.length) _ _ ho (λy hy=>hS i hi y (List.mem_of_mem_take hy)) i).2 (.inl hoi)
   have hml:∀ k,(mk o ((sN L i).take k)).length=L.length:=λk=>by rw[gk,ho]
   refine Fn (A4 (J0 L) (-1) (i:Int)) (λk=>(((k:Nat):Int),mk o ((sN L i).take k))) _ (L.getD i []).length (λk hk=>?_) ?_
   ·unfold A4;obtain⟨a0,a1⟩:=BQ (h3 i hi) hk;simp only[hgs,Ap,hmi];rw[Ac (Ff (by rw[hml];exact hi)),M8 (Ff hi),Af,B5 hk,Af,Ac (Ff hi),Ac (Ff hk)]
    have hne:((L.getD i []).getD k 0 !=(-1:Int))=true:=by rw[zzL86];omega
    rw[hne,Af,Ac (Ff hi),Ac (Ff hk),Ac ⟨a0,by rw[hml];exact a1⟩,w1 (by omega)]
    have e:mk o ((sN L i).take (k+1))=(mk o ((sN L i).take k)).set ((L.getD i []).getD k 0).toNat true:=by
     have hk':k<(sN L i).length:=by rw[hlenS];exact hk
     rw[kO hk'];unfold mk;rw[List.foldl_append]
     have:(sN L i)[k]=((L.getD i []).getD k 0).toNat:=by rw[Am _ _ _ hk];simp[sN]
     rw[this]
     rfl
    rw[e]
    rfl
   ·unfold A4;simp only[hgs,Ap,hmi];rw[Ac (Ff (by rw[hml];exact hi)),M8 (Ff hi),Af,Dk,Aq]
    have:(sN L i).take (L.getD i []).length=sN L i:=by rw[<- hlenS];exact GX ..
    rw[this]
  ·have hof:o.getD i false=false:=by simpa using hoi
   rw[if_neg hoi]
   apply Ak
   unfold A4;simp only[hgs,Ap,hof];rw[Ac (Ff (by rw[ho];exact hi)),M8 (Ff hi),Aq,Aq]
 have hsw:∀ o:List Bool,o.length=L.length->Ad (A5 (J0 L) (-1)) ((0:Int),o)=some (sw (sN L) o L.length):=λo ho=>by
  refine Fn (A5 (J0 L) (-1)) (λi=>(((i:Nat):Int),sw (sN L) o i)) _ L.length (λi hi=>?_) ?_
  ·show A5 (J0 L) (-1) (_,_)=_
   unfold A5
   have hl:(sw (sN L) o i).length=L.length:=by rw[sw_len,ho]
   simp only[hl,B5 hi,Af];rw[hin _ i hl hi,w1 (by omega)]
   rfl
  ·show A5 (J0 L) (-1) (_,_)=_
   unfold A5
   have hl:(sw (sN L) o L.length).length=L.length:=by rw[sw_len,ho]
   simp only[hl,Dk,Aq]
 unfold Cy;simp only[hgs,Ap];rw[Ac ⟨by omega,Int.le_refl _,by omega⟩]
 have hne:((r:Int)==(-1:Int))=false:=by rw[zzL35];omega
 rw[hne,Aq,Ac (Ff (by simpa using hr))]
 have hl0:((List.replicate L.length false).set r true).length=L.length:=by simp
 have:Ad (A6 (J0 L) (-1)) ((0:Int),(List.replicate L.length false).set r true)=some (IX (sN L) L.length ((List.replicate L.length false).set r true) L.length):=by
  refine Fn (A6 (J0 L) (-1)) (λj=>(((j:Nat):Int),IX (sN L) L.length ((List.replicate L.length false).set r true) j)) _ L.length (λj hj=>?_) ?_
  ·show A6 (J0 L) (-1) (_,_)=_
   unfold A6
   have hl:(IX (sN L) L.length ((List.replicate L.length false).set r true) j).length=L.length:=by rw[Yn,hl0]
   simp only[hl,B5 hj,Af];rw[hsw _ hl,w1 (by omega)]
   rfl
  ·show A6 (J0 L) (-1) (_,_)=_
   unfold A6
   have hl:(IX (sN L) L.length ((List.replicate L.length false).set r true) L.length).length=L.length:=by rw[Yn,hl0]
   simp only[hl,Dk,Aq]
 rw[this]
 rfl
def pos:List Nat->Nat->Nat
 | [],_=>0
 | x::l,z=>if x=z then 0 else pos l z+1
theorem RV(x:Nat)(l:List Nat)(z:Nat):pos (x::l) z=if x=z then 0 else pos l z+1:=rfl
theorem ud{A l:List Nat}{z:Nat}(h:z∉A):pos (A++l) z=A.length+pos l z:=by
 induction A with
 | nil=>simp
 | cons x A ih=>
  have h1:x≠z:=λe=>h (by grind);have h2 :=λe=>h (Lm _ e);rw[GY,RV,if_neg h1,ih h2,R0];omega
theorem PG{P:List Nat}(hd:P.Nodup){i:Nat}(hi:i<P.length):P[i]∉P.take i/\pos P P[i]=i:=by
 have e:P=P.take i++P[i]::P.drop (i+1):=by simp_all
 have hn:P[i]∉P.take i:=by
  grind
 refine⟨hn,?_⟩
 have h2:pos (P.take i++P[i]::P.drop (i+1)) P[i]=i:=by
  rw[ud hn]
  have:pos (P[i]::P.drop (i+1)) P[i]=0:=by rw[RV,if_pos rfl]
  rw[ JJ];omega
 rw[<- e]at h2;exact h2
theorem ny{n:Nat}{p:Nat->Bool}:(List.range (n+1)).all p=((List.range n).all p&&p n):=by
 grind
theorem ck(d:Array Int)(hs:∀ i j,i<=j->j<d.size->d[i]!<=d[j]!):∀ m,m<=d.size->(∀ x∈Lib.compactUpTo d m,∃ j,j<m/\x=d[j]!)/\(∀ j,j<m->d[j]!∈Lib.compactUpTo d m)/\(Lib.compactUpTo d m).Pairwise (·<·):=by
 intro m
 induction m with
 | zero=>intro _;exact⟨(λx hx=>by simp[Lib.compactUpTo]at hx),(λj hj=>by omega),by simp[Lib.compactUpTo]⟩
 | succ m ih=>
  intro hm;obtain⟨h1,h2,h3⟩:=ih (by omega);rw[Lib.compactUpTo_succ]
  cases hk:Lib.keeps d m with
  | true=>
   rw[if_pos rfl];refine⟨λx hx=>?_,λj hj=>?_,?_⟩
   ·grind
   ·grind
   ·rw[zzL120];refine⟨h3,List.pairwise_singleton _ _,λx hx y hy=>?_⟩;obtain⟨j,hj,rfl⟩:=h1 x hx
    have hy':y=d[m]!:=by simpa using hy
    subst hy'
    have hk':m=0\/d[m]!≠d[m-1]!:=by simpa [Lib.keeps] using hk
    rcases hk' with h0|h0
    ·omega
    ·have a1:=hs j (m-1) (by omega) (by omega);have a2:=hs (m-1) m (by omega) (by omega);omega
  | false=>
   have hk':m≠0/\d[m]! = d[m-1]!:=by
    have:¬ (m=0\/d[m]!≠d[m-1]!):=by
     intro h
     have:Lib.keeps d m=true:=by simpa [Lib.keeps] using h
     rw[hk]at this;cases this
    exact⟨λh=>this (.inl h),Classical.not_not.1 λh=>this (.inr h)⟩
   simp only[JI,H5,List.append_nil];refine⟨λx hx=>by grind,λj hj=>?_,h3⟩
   by_cases hjm:j=m
   ·subst hjm;rw[hk'.2];exact h2 _ (by omega)
   ·exact h2 j (by omega)
def JD(l:List Int):List Int:=Lib.compact (l.mergeSort λx y=>decide (x<=y))
theorem EF(l:List Int):(JD l).Pairwise (·<·)/\∀ x,x∈JD l↔x∈l:=by
 unfold JD Lib.compact;have hp:(l.mergeSort _).Pairwise (λa b=>decide (a<=b)=true):=List.pairwise_mergeSort (λa b c h1 h2=>by simp at *;omega) (λa b=>by simp;omega) l;have hm:∀ x,x∈(l.mergeSort λx y=>decide (x<=y))↔x∈l:=λx=>List.mem_mergeSort
 generalize l.mergeSort _=z at hp hm ⊢
 have hz:∀ j,j<z.length->z.toArray[j]! = z.getD j 0:=λj hj=>by simp[ hj]
 obtain⟨h1,h2,h3⟩:=ck z.toArray (λi j hij hj=>by
  have hj' :=by simpa using hj
  rw[hz i (by omega),hz j hj']
  by_cases he:i=j
  ·grind
  ·have:=(zzL109.1 hp) i j (by omega) hj' (by omega);rw[Am _ _ _ _,Am _ _ _ hj']
   simpa using this) z.length (by simp)
 refine⟨h3,λx=>?_⟩;rw[<- hm x]
 constructor
 ·grind
 ·intro hx;obtain⟨j,hj,rfl⟩:=N9 hx;have:=h2 j hj;rwa[hz j hj,Am _ _ _ hj]at this
def rW(n:Nat)(l:List Int):Bool:=(List.range l.length).all λi=>decide (0<l.getD i 0)&&decide (l.getD i 0<(n:Int))
def U5(k:Int):Int:=([0,1,2,0]:List Int).getD k.toNat 0
def BL(e:Jo):Bool:=(decide (0<=e.Kind)&&decide (e.Kind<=3))&&decide ((e.To.length:Int)=U5 e.Kind)
def M9(e:Jo)(n:Nat):Bool:=BL e&&rW n e.To
theorem toB_iff{n:Nat}{l:List Int}:rW n l=true↔∀ x∈l,0<x/\x<n:=by
 unfold rW;rw[all_range];simp only[A1,Ds]
 constructor
 ·intro h x hx;obtain⟨i,hi,rfl⟩:=N9 hx;have:=h i hi;rwa[Am _ _ _ hi]at this
 ·simp_all
theorem oi(e:Jo)(n:Nat)(hl:e.To.length<4611686018427387904):Ad (Fj e (n:Int)) (0:Int)=some (bif rW n e.To then .inl () else .inr false):=by
 have step:∀ j ,j<e.To.length->Fj e n j=bif (decide (0<e.To.getD j 0)&&decide (e.To.getD j 0<n)) then some (.next ((j+1:Int))) else some _:=λj hj=>by
  unfold Fj;simp only[Ap,B5 hj, W1,w1 (show j<4611686018427387904 by omega)];rw[Ac (Ff hj)]
  by_cases h0:e.To.getD j 0=0
  ·rw[h0];rfl
  ·grind
 have:=H9 (Fj e n) (λj=>(j:Nat)) (λi=>decide (0<e.To.getD i 0)&&decide (e.To.getD i 0<n)) (.inl ()) (.inr false) e.To.length (λj hj hp=>?_) (λj hj hp=>?_) ?_
 ·exact this
 ·grind
 ·rw[step j hj,hp];rfl
 ·unfold Fj;simp only[Dk,Aq]
theorem HV(e:Jo)(n:Nat)(w:Int)(hw:0<=w/\w<=2) :
  (bif ((e.To.length:Int)!=w) then(some false) else((Ad (Fj e (n:Int)) (0:Int)).bind (λx10=>(match x10 with|(.inl _)=>(some true)|(.inr r12)=>(some r12)))))=some (decide ((e.To.length:Int)=w)&&rW n e.To):=by
 by_cases h:e.To.length=w
 ·rw[show(e.To.length !=w)=false by simpa using h, oi e n (by omega),F9 h]
  cases rW n _<;>rfl
 ·grind
theorem lj(e:Jo)(n:Nat):Pp e (n:Int)=some (M9 e n):=by
 unfold Pp M9 BL
 by_cases h0:e.Kind=0
 ·rw[h0];exact HV e n 0 (by omega)
 by_cases h1:e.Kind=1
 ·rw[h1];exact HV e n 1 (by omega)
 by_cases h2:e.Kind=2
 ·rw[h2];exact HV e n 2 (by omega)
 by_cases h3:e.Kind=3
 ·rw[h3];exact HV e n 0 (by omega)
 have e0:(e.Kind==0)=false:=by rw[zzL35];exact h0
 have e1:(e.Kind==1)=false:=by rw[zzL35];exact h1
 have e2:(e.Kind==2)=false:=by rw[zzL35];exact h2
 have e3:(e.Kind==3)=false:=by rw[zzL35];exact h3
 rw[e0,e1,e2,e3]
 have:(decide (0<=e.Kind)&&decide (e.Kind<=3))=false:=by
  by_cases h:0<=e.Kind
  ·rw[Da (show ¬ e.Kind<=3 by omega)];simp
  ·rw[Da h];rfl
 rw[this]
 rfl
theorem ot{e:Jo}{n:Nat}(h:M9 e n=true):e.To.length<=2:=by
 unfold M9 BL at h;simp only[A1,Ds]at h;obtain⟨⟨⟨h0,h1⟩,h2⟩,_⟩:=h
 have:U5 e.Kind<=2:=by
  have:e.Kind=0\/e.Kind=1\/e.Kind=2\/e.Kind=3:=by omega
  rcases this with h|h|h|h<;>rw[h]<;>decide
 omega
theorem ZW{e:Jo}{n:Nat}(h:M9 e n=true):rW n e.To=true:=by unfold M9 at h;exact(A1 _ _▸h).2
def Bp(f:TFunc)(i:Nat):Jo:=(f.Blocks.getD i (default:Ab)).End
def Bm(f:TFunc):List (List Int):=(List.range f.Blocks.length).map λi=>JD (Bp f i).To
def O2(f:TFunc):Bool:=(decide (1<=f.Blocks.length)&&decide (f.Blocks.length<=64))&&(List.range f.Blocks.length).all λi=>M9 (Bp f i) f.Blocks.length
theorem shape_iff{f:TFunc}:O2 f=true↔(1<=f.Blocks.length/\f.Blocks.length<=64)/\∀ i,i<f.Blocks.length->M9 (Bp f i) f.Blocks.length=true:=by
 unfold O2;rw[A1,A1,all_range];simp only[Ds]
theorem um{f:TFunc}{i:Nat}(h:M9 (Bp f i) f.Blocks.length=true):mt f.Blocks.length (JD (Bp f i).To)=true:=by
 obtain⟨h1,h2⟩:=EF (Bp f i).To;exact xW (λx hx=>by have:=(toB_iff.1 (ZW h)) x ((h2 x).1 hx);omega) h1
theorem Rl{f:TFunc}(h:O2 f=true):N1 (Bm f)=true:=by
 obtain⟨⟨h1,h2⟩,h3⟩:=shape_iff.1 h
 have hl:(Bm f).length=f.Blocks.length:=by simp[Bm]
 refine mayS_iff.2 ⟨by omega,by omega,λi hi=>?_⟩;rw[hl]at hi ⊢;unfold Bm;rw[Sj hi];exact um (h3 i hi)
theorem zy(f:TFunc)(hf:f.Blocks.length<=maxLen):Uk f=some (bif O2 f then(J0 (Bm f),0) else(g0,5)):=by
 have hroom:(1000:Nat)<=room:=by decide
 unfold Uk;rw[XR,Aj];have hsh:O2 f=((decide (1<=f.Blocks.length)&&decide (f.Blocks.length<=64))&&(List.range f.Blocks.length).all λi=>M9 (Bp f i) f.Blocks.length):=rfl
 cases hc:(decide (1<=f.Blocks.length)&&decide (f.Blocks.length<=64)) with
 | false=>rw[hsh,hc];rfl
 | true=>
  have hc':=hc;simp only[A1,Ds]at hc';simp only[Dj,Aq];rw[Ac ⟨by omega,Int.le_refl _,by omega⟩,Ap]
  let U:Nat->List (List Int):=λi=>(List.range f.Blocks.length).map λj=>if j<i then JD (Bp f j).To else[]
  have e0:List.replicate f.Blocks.length ([]:List Int)=U 0:=by
   simp only[U]
   apply List.ext_getElem?
   intro j
   by_cases hj:j<f.Blocks.length<;>simp[hj,List.getElem?_replicate]
  have eN:U f.Blocks.length=Bm f:=by
   simp only[U,Bm]
   apply Hc
   intro j hj;rw[if_pos hj]
  rw[e0]
  have hstep:∀ i:Nat,i<f.Blocks.length->Hu f ((i:Int),U i)=bif M9 (Bp f i) f.Blocks.length then some (.next (((i+1:Nat):Int),U (i+1))) else some (.done (.inr (g0,5))):=λi hi=>by
   unfold Hu;simp only[B5 hi,Af,Ap];rw[Ac (Ff hi)];have he:(⟨(f.Blocks.getD i (default:Ab)).End.Kind,(f.Blocks.getD i (default:Ab)).End.Arg,(f.Blocks.getD i (default:Ab)).End.To⟩:Jo)=Bp f i:=rfl;rw[he,lj,Aj]
   cases hfit:M9 (Bp f i) f.Blocks.length with
   | false=>rfl
   | true=>
    have hl2:=ot hfit;simp only[Dj,Aq,Af]
    have hx:JH (f.Blocks.getD i (default:Ab)).End.To=some (JD (Bp f i).To):=by
     unfold JH;rw[jj,Ac (by show(Bp f i).To.length<=_;omega)]
     rfl
    rw[hx,Aj,Ac (Ff (by simp[U];omega)),w1 (by omega)]
    congr 3
    simp only[U];rw[CL]
    apply Hc
    intro j hj
    by_cases h1:j=i
    ·subst h1;rw[if_pos rfl,if_pos (by omega)]
    ·rw[if_neg h1]
     by_cases h2:j<i
     ·rw[if_pos h2,if_pos (by omega)]
     ·rw[if_neg h2,if_neg (by omega)]
  have:=H9 (Hu f) (λi=>(((i:Nat):Int),U i)) (λi=>M9 (Bp f i) f.Blocks.length) (.inl (U f.Blocks.length)) (.inr (g0,5)) f.Blocks.length (λi hi hp=>?_) (λi hi hp=>?_) ?_
  ·rw[show Ad (Hu f) ((0:Int),U 0)=_ from this,hsh,hc,eN,Hi]
   cases hall:(List.range f.Blocks.length).all λi=>M9 (Bp f i) f.Blocks.length with
   | false=>rfl
   | true=>
    simp only[Af,Aj];rw[dR _ (Rl (by rw[hsh,hc,hall];rfl))]
    rfl
  ·show Hu f (_,_)=_
   rw[hstep i hi,hp];rfl
  ·show Hu f (_,_)=_
   rw[hstep i hi,hp];rfl
  ·show Hu f (_,_)=_
   unfold Hu;simp only[Dk,Aq]
def LB(l:List Int)(k:Nat):List Int:=((List.range k).filter λz:Nat=>decide (1<=z)&&l.contains (z:Int)).map Int.ofNat
theorem qE{n:Nat}{l:List Int}(h:rW n l=true):LB l n=JD l:=by
 obtain⟨h1,h2⟩:=EF l;refine GT (BD _ _) h1 λx=>?_;rw[h2 x];unfold LB;rw[RC]
 constructor
 ·grind
 ·intro hx;have:=(toB_iff.1 h) x hx;refine⟨x.toNat,by omega,by omega,?_⟩;rw[Lb (by omega),zzL65.2 hx,F9 (by omega)]
  rfl
theorem mK(f:TFunc)(i:Nat)(hl:(Bp f i).To.length<4611686018427387904):Ad (E0 f (i:Int)) (0:Int)=some (bif rW f.Blocks.length (Bp f i).To then .inl () else .inr (g0,5)):=by
 have hE:(f.Blocks.getD i _).End=Bp f i:=rfl
 have step:∀ j ,j<(Bp f i).To.length->E0 f i j=bif (decide (0<(Bp f i).To.getD j 0)&&decide ((Bp f i).To.getD j 0<f.Blocks.length)) then some (.next ((j+1:Nat))) else some _:=λj hj=>by
  unfold E0;simp only[Ap,hE,B5 hj, w1 (show j<4611686018427387904 by omega)];rw[Ac (Ff hj),M8 (Ff hj)]
  by_cases h0:(Bp f i).To.getD j 0<=0
  ·rw[F9 h0,Da (show ¬ 0<(Bp f i).To.getD j 0 by omega)];rfl
  ·rw[Da h0,F9 (show 0<(Bp f i).To.getD j 0 by omega)]
   by_cases h1:f.Blocks.length<=(Bp f i).To.getD j 0
   ·rw[F9 h1,Da (show ¬ (Bp f i).To.getD j 0<f.Blocks.length by omega)];rfl
   ·grind
 have:=H9 (E0 f i) (λj=>(j:Nat)) (λk=>decide (0<(Bp f i).To.getD k 0)&&decide ((Bp f i).To.getD k 0<f.Blocks.length)) (.inl ()) (.inr (g0,5)) (Bp f i).To.length (λj hj hp=>?_) (λj hj hp=>?_) ?_
 ·exact this
 ·grind
 ·rw[step j hj,hp];rfl
 ·unfold E0;simp only[Ap,hE,Dk,Aq]
theorem mL(f:TFunc)(i:Nat)(hn:1<=f.Blocks.length/\f.Blocks.length<=64)(hl:(Bp f i).To.length<4611686018427387904):Ad (Hb f (i:Int)) (([]:List Int),(1:Int))=some (LB (Bp f i).To f.Blocks.length):=by
 have hroom:1000<=room:=by decide
 have hE:(f.Blocks.getD i _).End=Bp f i:=rfl
 have e0:LB (Bp f i).To 1=[]:=by unfold LB;simp
 have key:=Fn (Hb f i) (λk=>(LB (Bp f i).To (k+1),(k+1:Nat))) (LB (Bp f i).To f.Blocks.length) (f.Blocks.length-1) (λk hk=>?_) ?_
 ·grind
 ·unfold Hb
  have hlen:(LB (Bp f i).To (k+1)).length<=k+1:=by
   unfold LB;have:=List.length_filter_le (λz =>decide (1<=z)&&(Bp f i).To.contains (z:Nat)) (List.range (k+1))
   simpa using this
  simp only[Ap,hE,B5 (show k+1<f.Blocks.length by omega)];rw[pJ _ _ hl,Aj,w1 (by omega)]
  have hs:LB (Bp f i).To (k+1+1)=LB (Bp f i).To (k+1)++(if(Bp f i).To.contains ((k+1:Nat))=true then[(k+1:Int)] else[]):=by
   unfold LB;rw[FN,FM]
   cases hg:(Bp f i).To.contains _ with
   | true=>grind
   | false=>grind
  rw[hs]
  cases hg:(Bp f i).To.contains _ with
  | true=>
   rw[ Ac (by grind)]
   rfl
  | false =>  simp
 ·unfold Hb;simp only[show f.Blocks.length-1+1=f.Blocks.length by omega,Dk,Aq]
theorem QZ(f:TFunc)(hf:f.Blocks.length<=maxLen):Hl f=some (bif O2 f then(J0 (Bm f),0) else(g0,5)):=by
 have hroom:(1000:Nat)<=room:=by decide
 unfold Hl
 have hc:(bif ((f.Blocks.length:Int)==(0:Int)) then true else decide ((64:Int)<(f.Blocks.length:Int))) = !(decide (1<=f.Blocks.length)&&decide (f.Blocks.length<=64)):=by
  grind
 rw[hc];have hsh:O2 f=((decide (1<=f.Blocks.length)&&decide (f.Blocks.length<=64))&&(List.range f.Blocks.length).all λi=>M9 (Bp f i) f.Blocks.length):=rfl
 cases hb:(decide (1<=f.Blocks.length)&&decide (f.Blocks.length<=64)) with
 | false=>rw[hsh,hb];rfl
 | true=>
  have hb':=hb;simp only[A1,Ds]at hb';simp only[Dj,Aq]
  let U:Nat->List (List Int):=λi=>(List.range i).map λj=>LB (Bp f j).To f.Blocks.length
  have hstep:∀ i:Nat,i<f.Blocks.length->Cg f (U i,(i:Int))=bif M9 (Bp f i) f.Blocks.length then some (.next (U (i+1),((i+1:Nat):Int))) else some (.done (.inr (g0,5))):=λi hi=>by
   unfold Cg;have hE:(f.Blocks.getD i (default:Ab)).End=Bp f i:=rfl;simp only[B5 hi,Af,Ap,hE];rw[Ac (Ff hi),w1 (by omega)]
   by_cases hk:0<=(Bp f i).Kind/\(Bp f i).Kind<=3
   ·rw[Da (show ¬ (Bp f i).Kind<0 by omega),Da (show ¬ (3:Int)<(Bp f i).Kind by omega)];simp only[Aq];rw[M8 (show As (Bp f i).Kind ([(0:Int),1,2,0]:List Int).length from⟨hk.1,by show(Bp f i).Kind<4;omega⟩)];have hw:([(0:Int),1,2,0]:List Int).getD (Bp f i).Kind.toNat 0=U5 (Bp f i).Kind:=rfl;rw[hw]
    have hkb:BL (Bp f i)=decide (((Bp f i).To.length:Int)=U5 (Bp f i).Kind):=by
     unfold BL;rw[F9 hk.1,F9 hk.2];rfl
    unfold M9;rw[hkb]
    by_cases hl:((Bp f i).To.length:Int)=U5 (Bp f i).Kind
    ·have hw2:U5 (Bp f i).Kind<=2:=by
      have:(Bp f i).Kind=0\/(Bp f i).Kind=1\/(Bp f i).Kind=2\/(Bp f i).Kind=3:=by omega
      rcases this with h|h|h|h<;>rw[h]<;>decide
     rw[show(((Bp f i).To.length:Int)!=U5 (Bp f i).Kind)=false by simpa using hl,F9 hl,Aq,mK f i (by omega),Hi]
     cases htb:rW f.Blocks.length (Bp f i).To with
     | false=>rfl
     | true=>
      simp only[Af,Aj];rw[mL f i hb' (by omega)];simp only[Aj];rw[Ac (by simp only[U,L5,Xg,FL];omega)]
      congr 3
      simp only[U];rw[FN,JK]
      rfl
    ·rw[show(((Bp f i).To.length:Int)!=U5 (Bp f i).Kind)=true by simpa using hl,Da hl];rfl
   ·have hbad:(bif decide ((Bp f i).Kind<0) then true else decide ((3:Int)<(Bp f i).Kind))=true:=by
     by_cases h0:(Bp f i).Kind<0
     ·rw[F9 h0];rfl
     ·rw[Da h0,F9 (show(3:Int)<(Bp f i).Kind by omega)];rfl
    have hkb:BL (Bp f i)=false:=by
     unfold BL
     by_cases h0:0<=(Bp f i).Kind
     ·rw[Da (show ¬ (Bp f i).Kind<=3 by omega)];simp
     ·rw[Da h0];simp
    simp only[hbad];rw[Ac (by intro h;cases h)];unfold M9;rw[hkb]
    rfl
  have:=H9 (Cg f) (λi=>(U i,((i:Nat):Int))) (λi=>M9 (Bp f i) f.Blocks.length) (.inl (U f.Blocks.length)) (.inr (g0,5)) f.Blocks.length (λi hi hp=>?_) (λi hi hp=>?_) ?_
  ·rw[show Ad (Cg f) (([]:List (List Int)),(0:Int))=_ from this,hsh,hb,Hi]
   cases hall:(List.range f.Blocks.length).all λi=>M9 (Bp f i) f.Blocks.length with
   | false=>rfl
   | true=>
    have hshape:O2 f=true:=by rw[hsh,hb,hall];rfl
    have hm:=Rl hshape
    have hU:U f.Blocks.length=Bm f:=by
     simp only[U,Bm]
     apply Hc
     intro j hj;exact qE (ZW ((shape_iff.1 hshape).2 j hj))
    simp only[Af,Aj];rw[hU,QY _ (U0 (Ua hm)),hm]
    rfl
  ·show Cg f (_,_)=_
   rw[hstep i hi,hp];rfl
  ·show Cg f (_,_)=_
   rw[hstep i hi,hp];rfl
  ·show Cg f (_,_)=_
   unfold Cg;simp only[Dk,Aq]
inductive Rc (S:Nat->List Nat) (r:Nat):Nat->Prop
 | root:Rc S r r
 | step {x y:Nat} (h:Rc S r x) (hy:y∈S x):Rc S r y
inductive Av (S:Nat->List Nat) (r z:Nat):Nat->Prop
 | root (h:r≠z):Av S r z r
 | step {x y:Nat} (h:Av S r z x) (hy:y∈S x) (hz:y≠z):Av S r z y
inductive AvN (S:Nat->List Nat) (r z:Nat):Nat->Nat->Prop
 | root (h:r≠z) (k:Nat):AvN S r z k r
 | step {k x y:Nat} (h:AvN S r z k x) (hy:y∈S x) (hz:y≠z):AvN S r z (k+1) y
section
variable {S:Nat->List Nat} {r:Nat}
theorem rc_iff{x:Nat}:Rc S r x↔Rch S r x:=by
 constructor
 ·intro h
  induction h with
  | root=>exact .refl _
  | step _ hy ih=>exact ih.tail hy
 ·intro h
  have key:∀ a b,Rch S a b->Rc S r a->Rc S r b:=by
   intro a b hab
   induction hab with
   | refl x=>exact id
   | head hy _ ih=>exact λha=>ih (.step ha hy)
  exact key _ _ h .root
def wo(S:Nat->List Nat)(z:Nat):Nat->List Nat:=λx=>(S x).filter λy=>decide (y≠z)
theorem av_iff{z x:Nat}:Av S r z x↔r≠z/\Rch (wo S z) r x:=by
 constructor
 ·intro h
  induction h with
  | root h=>exact⟨h,.refl _⟩
  | step _ hy hz ih=>exact⟨ih.1,ih.2.tail (zzL99.2 ⟨hy,by simpa using hz⟩)⟩
 ·rintro⟨hr,h⟩
  have key:∀ a b,Rch (wo S z) a b->Av S r z a->Av S r z b:=by
   intro a b hab
   induction hab with
   | refl x=>exact id
   | head hy _ ih=>
    obtain⟨h1,h2⟩:=zzL99.1 hy;exact λha=>ih (.step ha h1 (by simpa using h2))
  exact key _ _ h (.root hr)
theorem Av.rc{z x:Nat}(h:Av S r z x):Rc S r x:=by
 induction h with
 | root _=>exact .root
 | step _ hy _ ih=>exact .step ih hy
theorem Av.ne{z x:Nat}(h:Av S r z x):x≠z:=by
 cases h with
 | root h=>exact h
 | step _ _ hz=>exact hz
theorem AvN.av{z k x:Nat}(h:AvN S r z k x):Av S r z x:=by
 induction h with
 | root h=>exact .root h
 | step _ hy hz ih=>exact .step ih hy hz
theorem AvN.up{z k x:Nat}(h:AvN S r z k x):AvN S r z (k+1) x:=by
 induction h with
 | root h k=>exact .root h _
 | step _ hy hz ih=>exact .step ih hy hz
theorem AvN.mono{z k m x:Nat}(h:AvN S r z k x)(hm:k<=m):AvN S r z m x:=by
 obtain⟨d,rfl⟩:=Nat.exists_eq_add_of_le hm;clear hm
 induction d with
 | zero=>exact h
 | succ d ih=>exact ih.up
theorem Av.avn{z x:Nat}(h:Av S r z x):∃ k,AvN S r z k x:=by
 induction h with
 | root h=>exact⟨0,.root h 0⟩
 | step _ hy hz ih=>obtain⟨k,hk⟩:=ih;exact⟨k+1,.step hk hy hz⟩
theorem AvN.via {z k x : Nat} (h : AvN S r z k x) (y : Nat) : AvN S r y k x ∨ AvN S r z k y := by
  induction h with
  | root h k => by_cases hy : r = y
                · subst hy; exact .inr (.root h _)
                · exact .inl (.root hy _)
  | @step k x w h hy hz ih =>
    rcases ih with h1 | h1
    · by_cases hw : w = y
      · subst hw; exact .inr (.step h hy hz)
      · exact .inl (.step h1 hy hw)
    · exact .inr h1.up
theorem lH(n:Nat):∃ K,∀ z,z<n->∀ x,x<n->Av S r z x->AvN S r z K x:=by
 have one:∀ z m,∃ K,∀ x,x<m->Av S r z x->AvN S r z K x:=by
  intro z m
  induction m with
  | zero=>simp_all
  | succ m ih=>
   obtain⟨K,hK⟩:=ih
   by_cases h:Av S r z m
   ·obtain⟨k,hk⟩:=h.avn;refine⟨max K k,λx hx ha=>?_⟩;rcases Nat.lt_succ_iff_lt_or_eq.1 hx with h1|rfl
    ·exact(hK x h1 ha).mono (Nat.le_max_left ..)
    ·exact hk.mono (Nat.le_max_right ..)
   ·refine⟨K,λx hx ha=>?_⟩;rcases Nat.lt_succ_iff_lt_or_eq.1 hx with h1|rfl
    ·exact hK x h1 ha
    ·exact absurd ha h
 have two:∀ m,∃ K,∀ z,z<m->∀ x,x<n->Av S r z x->AvN S r z K x:=by
  intro m
  induction m with
  | zero=>simp_all
  | succ m ih=>
   obtain⟨K,hK⟩:=ih;obtain⟨k,hk⟩:=one m n;refine⟨max K k,λz hz x hx ha=>?_⟩;rcases Nat.lt_succ_iff_lt_or_eq.1 hz with h1|rfl
   ·exact(hK z h1 x hx ha).mono (Nat.le_max_left ..)
   ·exact(hk x hx ha).mono (Nat.le_max_right ..)
 exact two n
end
inductive UpTo (par:Nat->Int):Nat->Nat->Prop
 | refl (x:Nat):UpTo par x x
 | up {x y z:Nat} (h:par x=(y:Int)) (t:UpTo par y z):UpTo par x z
inductive Fw (S:Nat->List Nat) (at_:Nat->Nat) (u:Nat):Nat->Prop
 | refl:Fw S at_ u u
 | step {v w:Nat} (h:Fw S at_ u v) (hw:w∈S v) (hl:at_ v<at_ w):Fw S at_ u w
section
variable {S:Nat->List Nat} {at_:Nat->Nat} {par:Nat->Int}
theorem Fw.le{u w:Nat}(h:Fw S at_ u w):at_ u<=at_ w:=by
 induction h with
 | refl=>exact zzL8 _
 | step _ _ hl ih=>omega
theorem Fw.trans{u v w:Nat}(h:Fw S at_ u v)(k:Fw S at_ v w):Fw S at_ u w:=by
 induction k with
 | refl=>exact h
 | step _ hw hl ih=>exact .step ih hw hl
theorem Fw.av{r d u w:Nat}(h:Fw S at_ u w)(ha:Av S r d u)(hd:at_ d<at_ u):Av S r d w:=by
 induction h with
 | refl=>exact ha
 | @step v w h hw hl ih=>exact .step ih hw (by rintro rfl;have:=h.le;omega)
theorem UpTo.trans{x y z:Nat}(h:UpTo par x y)(k:UpTo par y z):UpTo par x z:=by
 induction h with
 | refl x=>exact k
 | up h _ ih=>exact .up h (ih k)
theorem anc_up{x p z:Nat}(h:par x=(p:Int)):UpTo par x z↔z=x\/UpTo par p z:=by
 constructor
 ·intro k
  cases k with
  | refl=>exact .inl rfl
  | up h' t=>grind
 ·rintro(rfl|k)
  ·exact .refl _
  ·exact .up h k
theorem OV{x z:Nat}(h:∀ p:Nat,par x≠(p:Int)):UpTo par x z↔z=x:=by
 constructor
 ·intro k
  cases k with
  | refl=>rfl
  | up h' t=>exact absurd h' (h _)
 ·rintro rfl;exact .refl _
structure Inv(S:Nat->List Nat)(r n:Nat)(at_:Nat->Nat)(par:Nat->Int):Prop where
 top:par r = -1
 kind:∀ x,x<n->par x = -2\/x=r\/∃ z:Nat,par x=(z:Int)
 up:∀ x,x<n->∀ z:Nat,par x=(z:Int)->z<n/\par z≠-2/\at_ z<at_ x/\Fw S at_ z x
 rc:∀ x,x<n->par x≠-2->Rc S r x
 all:∀ x,x<n->par x≠-2->∀ d,¬ UpTo par x d->Av S r d x
end
section
variable {S:Nat->List Nat} {at_:Nat->Nat} {par:Nat->Int} {r n:Nat}
theorem Inv.anc(h:Inv S r n at_ par){x z:Nat}(k:UpTo par x z)(hx:x<n)(hp:par x≠-2):z<n/\par z≠-2/\at_ z<=at_ x/\Fw S at_ z x:=by
 induction k with
 | refl x=>exact⟨hx,hp,zzL8 _,.refl⟩
 | @up x y z hxy t ih=>
  obtain⟨h1,h2,h3,h4⟩:=h.up x hx y hxy;obtain⟨i1,i2,i3,i4⟩:=ih h1 h2;exact⟨i1,i2,by omega,i4.trans h4⟩
theorem Inv.root_anc(h:Inv S r n at_ par){z:Nat}:UpTo par r z↔z=r:=OV λp hp=>by rw[h.top]at hp;omega
theorem Inv.strict(h:Inv S r n at_ par){x z:Nat}(k:UpTo par x z)(hx:x<n)(hp:par x≠-2):z=x\/at_ z<at_ x:=by
 cases k with
 | refl=>exact .inl rfl
 | up hxy t=>
  obtain⟨h1,h2,h3,h4⟩:=h.up x hx _ hxy;obtain⟨i1,i2,i3,i4⟩:=h.anc t h1 h2;exact .inr (by omega)
theorem Inv.antisymm(h:Inv S r n at_ par){x z:Nat}(k:UpTo par x z)(m:UpTo par z x)(hx:x<n)(hp:par x≠-2):z=x:=by
 rcases h.strict k hx hp with rfl|h1
 ·rfl
 ·obtain⟨i1,i2,i3,i4⟩:=h.anc k hx hp;have:=(h.anc m i1 i2).2.2.1;omega
def MeetAt(par:Nat->Int)(a b m:Nat):Prop:=∀ w,UpTo par m w↔UpTo par a w/\UpTo par b w
theorem XS{a:Nat}:MeetAt par a a a:=λw=>by simp
theorem lv{a b m:Nat}(h:MeetAt par a b m):MeetAt par b a m:=λw=>by rw[h w];exact And.comm
theorem Inv.meet_left(h:Inv S r n at_ par)(hinj:∀ x y,x<n->y<n->par x≠-2->par y≠-2->at_ x=at_ y->x=y){a b p m:Nat}(ha:a<n)(hpa:par a≠-2)(hb:b<n)(hpb:par b≠-2)(hab:a≠b)(hl:at_ b<=at_ a)(hp:par a=(p:Int))(k:MeetAt par p b m):MeetAt par a b m:=λw=>by
 rw[k w]
 constructor
 ·rintro⟨h1,h2⟩;exact⟨.up hp h1,h2⟩
 ·rintro⟨h1,h2⟩;rcases(anc_up hp).1 h1 with rfl|h1
  ·exfalso
   rcases h.strict h2 hb hpb with h3|h3
   ·exact hab h3
   ·omega
  ·exact⟨h1,h2⟩
end
section
variable {S:Nat->List Nat} {at_:Nat->Nat} {par:Nat->Int} {r n:Nat}
def Sf(par:Nat->Int)(y:Nat)(v:Int):Nat->Int:=λx=>if x=y then v else par x
def fB(S:Nat->List Nat)(n:Nat)(par:Nat->Int)(y z:Nat):Prop:=∀ w,UpTo par z w↔∀ p,p<n->y∈S p->par p≠-2->UpTo par p w
theorem MD{y:Nat}{v:Int}{x z:Nat}(k:UpTo par x z)(hy:¬ UpTo par x y):UpTo (Sf par y v) x z:=by
 induction k with
 | refl x=>exact .refl _
 | @up x q z h t ih=>
  have hxy:x≠y:=by rintro rfl;exact hy (.refl _)
  refine .up  ?_ (ih λk=>hy (.up h k));unfold Sf;rw[if_neg hxy];exact h
theorem cN{y:Nat}{v:Int}{x:Nat}(k:UpTo par x y):UpTo (Sf par y v) x y:=by
 induction k with
 | refl x=>exact .refl _
 | @up x q z h t ih=>
  by_cases hxy:x=z
  ·subst hxy;exact .refl _
  ·refine .up  ?_ ih;unfold Sf;rw[if_neg hxy];exact h
theorem anc_upd_inv{y:Nat}{v:Int}{x w:Nat}(k:UpTo (Sf par y v) x w):UpTo par x w\/(UpTo par x y/\UpTo (Sf par y v) y w):=by
 induction k with
 | refl x=>exact .inl (.refl _)
 | @up x q w h t ih=>
  by_cases hxy:x=y
  ·subst hxy;exact .inr ⟨.refl _,.up h t⟩
  ·unfold Sf at h;rw[if_neg hxy]at h;rcases ih with h1|⟨h1,h2⟩
   ·exact .inl (.up h h1)
   ·exact .inr ⟨.up h h1,h2⟩
theorem low_or{y:Nat}{v:Int}{x d:Nat}(k:UpTo par x y)(hd:UpTo par x d):UpTo par y d\/UpTo (Sf par y v) x d:=by
 induction k with
 | refl x=>exact .inl hd
 | @up x q y hq t ih=>
  by_cases e:x=y
  ·subst e;exact .inl hd
  ·rcases(anc_up hq).1 hd with rfl|k
   ·exact .inr (.refl _)
   ·rcases ih k with h1|h1
    ·exact .inl h1
    ·exact .inr (.up  (by unfold Sf;rw[if_neg e];exact hq) h1)
structure Better(S:Nat->List Nat)(r n:Nat)(at_:Nat->Nat)(par:Nat->Int)(y z:Nat):Prop where
 inv:Inv S r n at_ par
 hy:y<n
 hr:y≠r
 hz:z<n
 best:fB S n par y z
 fwd:∃ p,p<n/\y∈S p/\par p≠-2/\at_ p<at_ y
variable {y z:Nat}
theorem Better.zlt(h:Better S r n at_ par y z):UpTo par z z/\par z≠-2/\at_ z<at_ y/\Fw S at_ z y:=by
 obtain⟨p,hp,hyp,hpp,hl⟩:=h.fwd;obtain⟨h1,h2,h3,h4⟩:=h.inv.anc ((h.best z).1 (.refl _) p hp hyp hpp) hp hpp;exact⟨.refl _,h2,by omega,.step h4 hyp hl⟩
theorem Better.above(h:Better S r n at_ par y z){w:Nat}:UpTo (Sf par y z) z w↔UpTo par z w:=by
 obtain⟨_,h2,h3,_⟩:=h.zlt
 have hn:¬ UpTo par z y:=λk=>by have:=(h.inv.anc k h.hz h2).2.2.1;omega
 constructor
 ·intro k;rcases anc_upd_inv k with h1|⟨h1,_⟩
  ·exact h1
  ·exact absurd h1 hn
 ·intro k;exact MD k hn
theorem Better.here(h:Better S r n at_ par y z){w:Nat}:UpTo (Sf par y z) y w↔w=y\/UpTo par z w:=by
 rw[anc_up (p:=z) (by simp[Sf]),h.above]
theorem Better.av_here(h:Better S r n at_ par y z){d:Nat}(hd:¬ UpTo (Sf par y z) y d):Av S r d y:=by
 rw[h.here]at hd;have h1:¬ ∀ p,p<n->y∈S p->par p≠-2->UpTo par p d:=λhh=>hd (.inr ((h.best d).2 hh));simp only[Classical.not_forall]at h1;obtain⟨p,hp,hyp,hpp,hnp⟩:=h1;exact .step (h.inv.all p hp hpp d hnp) hyp λe=>hd (.inl e.symm)
theorem Better.inv'(h:Better S r n at_ par y z):Inv S r n at_ (Sf par y z):=by
 obtain⟨hzz,hz2,hzl,hzf⟩:=h.zlt;obtain⟨p,hp,hyp,hpp,hl⟩:=h.fwd
 have hne:∀ x,Sf par y z x≠-2->x=y\/par x≠-2:=λx hx=>by
  by_cases e:x=y
  ·exact .inl e
  ·unfold Sf at hx;rw[if_neg e]at hx;exact .inr hx
 have hyv:Sf par y z y=z:=by simp[Sf]
 have hyo:∀ x,x≠y->Sf par y z x=par x:=λx e=>by unfold Sf;rw[if_neg e]
 refine⟨by rw[hyo _ (Ro h.hr)];exact h.inv.top,λx hx=>?_,λx hx w hw=>?_,λx hx hxp=>?_,λx hx hxp d hd=>?_⟩
 ·by_cases e:x=y
  ·grind
  ·rw[hyo x e];exact h.inv.kind x hx
 ·have hzn:∀ w,par w≠-2->Sf par y z w≠-2:=λw hw=>by
   grind
  by_cases e:x=y
  ·subst e;rw[hyv]at hw
   cases LN hw
   exact⟨h.hz,hzn _ hz2,hzl,hzf⟩
  ·rw[hyo x e]at hw;obtain⟨h1,h2,h3,h4⟩:=h.inv.up x hx w hw;exact⟨h1,hzn _ h2,h3,h4⟩
 ·rcases hne x hxp with rfl|h1
  ·exact .step (h.inv.rc p hp hpp) hyp
  ·exact h.inv.rc x hx h1
 ·by_cases e:x=y
  ·subst e;exact h.av_here hd
  ·rw[hyo x e]at hxp
   by_cases hxd:UpTo par x d
   ·
    by_cases hxy:UpTo par x y
    ·have hyd :=λk=>hd ((cN hxy).trans k);have hav:=h.av_here hyd;have hf:=(h.inv.anc hxy hx hxp).2.2.2
     have hdy:UpTo par y d:=by
      rcases low_or  hxy hxd with h1|h1
      ·exact h1
      ·exact absurd h1 hd
     by_cases hpy:par y = -2
     ·
      have :=by
       refine(OV  λp hp=>?_).1 hdy;rw[hpy]at hp;omega
      subst this;exact absurd (.refl _) hyd
     ·rcases h.inv.strict hdy h.hy hpy with rfl|hlt
      ·exact absurd (.refl _) hyd
      ·exact hf.av hav hlt
    ·exact absurd (MD hxd hxy) hd
   ·exact h.inv.all x hx hxp d hxd
end
section
variable {S:Nat->List Nat} {at_:Nat->Nat} {par:Nat->Int} {r n:Nat}
def QB(S:Nat->List Nat)(r n:Nat)(par:Nat->Int)(b:Nat->Nat):Prop:=∀ x,x<n->par x≠-2->∀ z,AvN S r z (b x) x->¬ UpTo par x z
def fC(S:Nat->List Nat)(r n:Nat)(par:Nat->Int):Prop:=∀ x,x<n->Rc S r x->par x≠-2
def jH(S:Nat->List Nat)(r n:Nat)(par:Nat->Int):Prop:=∀ x,x<n->par x≠-2->∀ d,UpTo par x d↔¬ Av S r d x
theorem ug(h:Inv S r n at_ par):QB S r n par λ_=>0:=λx hx hp z hz k=>by
 cases hz with
 | root hr _=>exact hr (h.root_anc.1 k).symm
theorem j9(hS:∀ x,x<n->∀ w∈S x,w<n)(hr:r<n){x:Nat}(h:Rc S r x):x<n:=by
 induction h with
 | root=>exact hr
 | step _ hy ih=>exact hS _ ih _ hy
theorem Better.qb{y z k:Nat}{b:Nat->Nat}(h:Better S r n at_ par y z)(hS:∀ x,x<n->∀ w∈S x,w<n)(hrn:r<n)(full:fC S r n par)(hb:∀ x,x<n->k<=b x/\b x<=k+1)(q:QB S r n par b) :
  QB S r n (Sf par y z) λx=>if x=y then k+1 else b x:=by
 have here:∀ w,AvN S r w (k+1) y->¬ UpTo _ y w:=λw hw hu=>by
  rcases h.here.1 hu with rfl|hu
  ·exact hw.av.ne rfl
  ·cases hw with
   | root hr _=>exact h.hr rfl
   | @step _ p _ hp hyp hne=>
    have hpn:=j9 hS hrn hp.av.rc;have hpp:=full p hpn hp.av.rc;exact q p hpn hpp w (hp.mono (hb p hpn).1) ((h.best w).1 hu p hpn hyp hpp)
 intro x hx hxp w hw hu
 dsimp only at hw
 by_cases e:x=y
 ·grind
 ·rw[if_neg e]at hw;unfold Sf at hxp;rw[if_neg e]at hxp;rcases anc_upd_inv hu with h1|⟨h1,h2⟩
  ·exact q x hx hxp w hw h1
  ·rcases hw.via y with h3|h3
   ·exact q x hx hxp y h3 h1
   ·exact here w (h3.mono (hb x hx).2) h2
theorem om(h:Inv S r n at_ par){K:Nat}(hK:∀ z,z<n->∀ x,x<n->Av S r z x->AvN S r z K x)(q:QB S r n par λ_=>K):jH S r n par:=λx hx hp d=>by
 constructor
 ·intro hu ha;exact q x hx hp d (hK d (h.anc hu hx hp).1 x hx ha) hu
 ·intro ha;exact bS λhn=>ha (h.all x hx hp d hn)
theorem Better.same{y z:Nat}(h:Better S r n at_ par y z)(hS:∀ x,x<n->∀ w∈S x,w<n)(hrn:r<n)(full:fC S r n par)(hy2:par y≠-2)(ex:jH S r n par):par y=(z:Int):=by
 obtain⟨hzz,hz2,hzl,hzf⟩:=h.zlt;rcases h.inv.kind y h.hy with h1|h1|⟨q,hq⟩
 ·exact absurd h1 hy2
 ·exact absurd h1 h.hr
 ·obtain⟨q1,q2,q3,q4⟩:=h.inv.up y h.hy q hq
  have key:∀ w,UpTo par z w↔UpTo par q w:=λw=>by
   rw[h.best w]
   constructor
   ·intro hall
    have hwy:¬ Av S r w y:=λha=>by
     cases ha with
     | root _=>exact h.hr rfl
     | @step p _ hp hyp hne=>
      have hpn:=j9 hS hrn hp.rc;have hpp:=full p hpn hp.rc;exact(ex p hpn hpp w).1 (hall p hpn hyp hpp) hp
    rcases(anc_up hq).1 ((ex y h.hy hy2 w).2 hwy) with rfl|hu
    ·have:=(h.inv.anc ((h.best _).2 hall) h.hz hz2).2.2.1;omega
    ·exact hu
   ·intro hu p hp hyp hpp;have hwy:UpTo par y w:=.up hq hu;refine(ex p hp hpp w).2 λha=>?_
    have hne:y≠w:=by rintro rfl;have:=(h.inv.anc hu q1 q2).2.2.1;omega
    exact(ex y h.hy hy2 w).1 hwy (.step ha hyp hne)
  have:=h.inv.antisymm ((key q).2 (.refl _)) ((key z).1 (.refl _)) h.hz hz2;rw[hq,this]
theorem lX(h:Inv S r n at_ par)(hS:∀ x,x<n->∀ w∈S x,w<n)(hrn:r<n)(full:fC S r n par)(fix:∀ y,y<n->y≠r->Rc S r y->∃ z:Nat,par y=(z:Int)/\fB S n par y z):jH S r n par:=λx hx hp d=>by
 constructor
 ·intro hu ha
  induction ha with
  | root hne=>exact hne (h.root_anc.1 hu).symm
  | @step p y hp' hyp hne ih=>
   have hpn:=j9 hS hrn hp'.rc;have hpp:=full p hpn hp'.rc
   by_cases e:y=r
   ·subst e;exact hne (h.root_anc.1 hu).symm
   ·obtain⟨z,hz,hb⟩:=fix y hx e (.step hp'.rc hyp);rcases(anc_up hz).1 hu with rfl|hu
    ·exact hne rfl
    ·exact ih hpn hpp ((hb d).1 hu p hpn hyp hpp)
 ·intro ha;exact bS λhn=>ha (h.all x hx hp d hn)
end
def Bv(t:List Int):Nat->Int:=λx=>t.getD x 0
theorem dr{t:List Int}{y:Nat}{v:Int}(hy:y<t.length):Bv (t.set y v)=Sf (Bv t) y v:=by
 funext x
 unfold Bv Sf
 by_cases e:x=y
 ·grind
 ·grind
open Classical in
def Ps(S:Nat->List Nat)(n:Nat)(t:List Int)(y:Nat):Nat:=if h:∃ z,z<n/\fB S n (Bv t) y z then Classical.choose h else 0
def AK(S:Nat->List Nat)(n:Nat)(P:List Nat)(t:List Int):Nat->List Int
 | 0=>t
 | i+1=>(AK S n P t i).set (P.getD i 0) (Ps S n (AK S n P t i) (P.getD i 0):Int)
def UV(S:Nat->List Nat)(n:Nat)(P:List Nat)(t:List Int):Nat->List Int
 | 0=>t
 | j+1=>AK S n P (UV S n P t j) P.length
def Jm(n r:Nat):List Int:=(List.replicate n (-2:Int)).set r (-1)
structure Ordered(S:Nat->List Nat)(r n:Nat)(P:List Nat):Prop where
 hr:r<n
 hS:∀ x,x<n->∀ w∈S x,w<n
 nodup:(r::P).Nodup
 mem:∀ x,x∈r::P↔Rc S r x
 fwd:∀ i,i<P.length->∃ p,p∈r::P.take i/\P.getD i 0∈S p
section
variable {S:Nat->List Nat} {r n:Nat} {P:List Nat}
theorem Ordered.lt(o:Ordered S r n P){x:Nat}(h:x∈r::P):x<n:=j9 o.hS o.hr ((o.mem x).1 h)
theorem Wy{i:Nat}(hi:i<P.length):P.getD i 0∈P:=by grind
theorem Ordered.at_lt(o:Ordered S r n P){i:Nat}(hi:i<P.length){p:Nat}(hp:p∈r::P.take i):pos (r::P) p<pos (r::P) (P.getD i 0):=by
 have hd:=o.nodup
 have h1:pos (r::P) (P.getD i 0)=i+1:=by
  have:=(PG hd (i:=i+1) (by simpa using hi)).2;rw[Am _ _ _ hi]
  simpa using this
 rw[h1];obtain⟨j,hj,rfl⟩:=N9 hp
 have hj':j<i+1:=by simp at hj;omega
 have hjl:j<(r::P).length:=by simp;omega
 have e:(r::P.take i)[j]=(r::P)[j]:=by
  grind
 rw[e,(PG hd hjl).2];exact hj'
theorem Abk(o:Ordered S r n P):Inv S r n (pos (r::P)) (Bv (Jm n r))/\(Jm n r).length=n/\Bv (Jm n r) r≠-2:=by
 have hlen:(Jm n r).length=n:=by simp[Jm]
 have hr:=o.hr
 have at_:∀ x,x<n->Bv (Jm n r) x=if x=r then -1 else -2:=λx hx=>by
  unfold Bv Jm
  by_cases e:x=r
  ·grind
  ·grind
 have hno:∀ x,x<n->∀ p:Nat,Bv (Jm n r) x≠p:=λx hx p hp=>by grind
 refine⟨⟨by grind,λx hx=>?_,λx hx z hz=>absurd hz (hno x hx z),λx hx hp=>?_,λx hx hp d hd=>?_⟩,hlen,by grind⟩
 ·grind
 ·by_cases e:x=r
  ·subst e;exact .root
  ·grind
 ·by_cases e:x=r
  ·subst e;exact .root (λe=>hd (by rw[e];exact .refl _))
  ·grind
structure Ready(S:Nat->List Nat)(r n:Nat)(P:List Nat)(t:List Int)(i:Nat):Prop where
 inv:Inv S r n (pos (r::P)) (Bv t)
 len:t.length=n
 done:∀ x∈r::P.take i,Bv t x≠-2
theorem Inv.meets{at_:Nat->Nat}{par:Nat->Int}(h:Inv S r n at_ par)(hinj:∀ x y,x<n->y<n->par x≠-2->par y≠-2->at_ x=at_ y->x=y)(hr:at_ r=0):∀ m a b,at_ a+at_ b<=m->a<n->b<n->par a≠-2->par b≠-2->∃ c,MeetAt par a b c/\c<n/\par c≠-2:=by
 intro m
 induction m with
 | zero=>
  intro a b hm ha hb hpa hpb;have:a=b:=hinj a b ha hb hpa hpb (by omega);subst this;exact⟨a,XS,ha,hpa⟩
 | succ m ih=>
  have go:∀ a b,at_ a+at_ b<=m+1->a<n->b<n->par a≠-2->par b≠-2->at_ b<=at_ a->∃ c,MeetAt par a b c/\c<n/\par c≠-2:=λa b hm ha hb hpa hpb hl=>by
   by_cases e:a=b
   ·subst e;exact⟨a,XS,ha,hpa⟩
   ·rcases h.kind a ha with h1|h1|⟨p,hp⟩
    ·exact absurd h1 hpa
    ·subst h1;exact absurd (hinj a b ha hb hpa hpb (by omega)) e
    ·obtain⟨p1,p2,p3,p4⟩:=h.up a ha p hp;obtain⟨c,hc,hc2⟩:=ih p b (by omega) p1 hb p2 hpb;exact⟨c,h.meet_left hinj ha hpa hb hpb e hl hp hc,hc2⟩
  intro a b hm ha hb hpa hpb;rcases Nat.le_total (at_ b) (at_ a) with hl|hl
  ·exact go a b hm ha hb hpa hpb hl
  ·obtain⟨c,hc,hc2⟩:=go b a (by omega) hb ha hpb hpa hl;exact⟨c,lv hc,hc2⟩
theorem Ready.inj(o:Ordered S r n P){t:List Int}{i:Nat}(h:Ready S r n P t i):∀ x y,x<n->y<n->Bv t x≠-2->Bv t y≠-2->pos (r::P) x=pos (r::P) y->x=y:=λx y hx hy hpx hpy he=>by
 have hm :=λx hx hp=>(o.mem x).2 (h.inv.rc x hx hp)
 have back:∀ x∈r::P,(r::P).getD (pos _ x) 0=x:=λx hx=>by
  obtain⟨j,hj,rfl⟩:=N9 hx;rw[(PG o.nodup hj).2,Am _ _ _ hj]
 rw[<- back x (hm x hx hpx),<- back y (hm y hy hpy),he]
theorem dw:pos (r::P) r=0:=by rw[RV,if_pos rfl]
theorem Ready.meetAll(o:Ordered S r n P){t:List Int}{i:Nat}(h:Ready S r n P t i):∀ l:List Nat,(∀ p∈l,p<n/\Bv t p≠-2)->l≠[]->∃ z,z<n/\Bv t z≠-2/\∀ w,UpTo (Bv t) z w↔∀ p∈l,UpTo (Bv t) p w:=by
 intro l
 induction l with
 | nil=>grind
 | cons p l ih=>
  intro hl _;obtain⟨hp1,hp2⟩:=hl p (zzL41 ..)
  by_cases hl0:l=[]
  ·grind
  ·obtain⟨z,hz1,hz2,hz3⟩:=ih (λq hq=>hl q (Lm _ hq)) hl0;obtain⟨c,hc1,hc2,hc3⟩:=h.inv.meets (h.inj o) dw _ p z (zzL8 _) hp1 hz1 hp2 hz2;exact⟨c,hc2,hc3,λw=>by rw[hc1 w,hz3 w];simp⟩
theorem Ready.best(o:Ordered S r n P){t:List Int}{i:Nat}(h:Ready S r n P t i)(hi:i<P.length):Better S r n (pos (r::P)) (Bv t) (P.getD i 0) (Ps S n t (P.getD i 0)):=by
 have hy:=Wy hi;have hyr:P.getD i 0≠r:=λe=>(zzL116.1 o.nodup).1 (e▸hy);have hyn:=o.lt (Lm _ hy);obtain⟨p,hp,hyp⟩:=o.fwd i hi;have hp2:=h.done p hp
 have hpP:p∈r::P:=by
  grind
 have hpn:=o.lt hpP
 have hex:∃ z,z<n/\fB S n (Bv t) (P.getD i 0) z:=by
  classical
  obtain⟨z,hz1,hz2,hz3⟩:=h.meetAll o ((List.range n).filter λp=>decide (P.getD i 0∈S p/\Bv t p≠-2)) (λp hp=>by
   grind) (λe=>by
   simp_all)
  refine⟨z,hz1,λw=>?_⟩
  constructor
  ·grind
  ·grind
 have hb:Ps S n t (P.getD i 0)<n/\fB S n (Bv t) (P.getD i 0) (Ps S n t (P.getD i 0)):=by
  unfold Ps;rw[dif_pos hex];exact Classical.choose_spec hex
 exact⟨h.inv,hyn,hyr,hb.1,hb.2,p,hpn,hyp,hp2,o.at_lt hi hp⟩
theorem Ready.best_eq(o:Ordered S r n P){t:List Int}{i:Nat}(h:Ready S r n P t i)(hi:i<P.length){z:Nat}(hz:z<n)(hz2:Bv t z≠-2)(hb:fB S n (Bv t) (P.getD i 0) z):z=Ps S n t (P.getD i 0):=by
 have b:=h.best o hi;exact(h.inv.antisymm ((hb _).2 ((b.best _).1 (.refl _))) ((b.best _).2 ((hb _).1 (.refl _))) hz hz2).symm
theorem Ready.next(o:Ordered S r n P){t:List Int}{i:Nat}(h:Ready S r n P t i)(hi:i<P.length):Ready S r n P (t.set (P.getD i 0) (Ps S n t (P.getD i 0):Int)) (i+1):=by
 have b:=h.best o hi;have e:=dr   (v:=Ps S n t (P.getD i 0)) (by rw[h.len];exact b.hy);refine⟨by rw[e];exact b.inv',by rw[D0];exact h.len,λx hx=>?_⟩;rw[e];unfold Sf
 split
 ·omega
 ·refine h.done x ?_;rcases zzL28.1 hx with rfl|hx
  ·grind
  ·rw[kO hi]at hx;rcases zzL14.1 hx with hx|hx
   ·grind
   ·grind
theorem Ready.more(o:Ordered S r n P){t:List Int}(h:Ready S r n P t P.length)(i:Nat):Ready S r n P t i:=
 ⟨h.inv,h.len,λx hx=>h.done x (by
  grind)⟩
theorem Ready.full(o:Ordered S r n P){t:List Int}(h:Ready S r n P t P.length):fC S r n (Bv t):=λx hx hr=>h.done x (by rw[GX];exact(o.mem x).2 hr)
theorem Ready.round(o:Ordered S r n P){t:List Int}(h:Ready S r n P t 0):∀ i,i<=P.length->Ready S r n P (AK S n P t i) i:=by
 intro i
 induction i with
 | zero=>intro _;exact h
 | succ i ih=>intro hi;exact(ih (by omega)).next o (by omega)
theorem xg(o:Ordered S r n P):Ready S r n P (Jm n r) 0:=by
 obtain⟨h1,h2,h3⟩:=Abk o;exact⟨h1,h2,λx hx=>by grind⟩
theorem Ready.rounds(o:Ordered S r n P):∀ j,Ready S r n P (UV S n P (Jm n r) j) 0:=by
 intro j
 induction j with
 | zero=>exact xg o
 | succ j ih=>exact((ih.round o) _ (zzL8 _)).more o 0
theorem Ready.rounds'(o:Ordered S r n P)(j:Nat):Ready S r n P (UV S n P (Jm n r) (j+1)) P.length:=(Ready.rounds o j).round o _ (zzL8 _)
theorem qA(o:Ordered S r n P){t:List Int}{k:Nat}(h:Ready S r n P t P.length)(q:QB S r n (Bv t) λ_=>k):QB S r n (Bv (AK S n P t P.length)) λ_=>k+1:=by
 have key:∀ i,i<=P.length->QB S r n (Bv (AK S n P t i)) (λx=>if x∈P.take i then k+1 else k)/\fC S r n (Bv (AK S n P t i)):=by
  intro i
  induction i with
  | zero=>intro _;exact⟨by simpa [AK] using q,h.full o⟩
  | succ i ih=>
   intro hi;obtain⟨q1,f1⟩:=ih (by omega);have rd:=(h.more o 0).round o i (by omega);have b:=rd.best o (by omega);have e:=dr   (v:=Ps S n (AK S n P t i) (P.getD i 0)) (by rw[rd.len];exact b.hy)
   constructor
   ·show QB S r n (Bv ((AK S n P t i).set _ _)) _
    rw[e];have:=b.qb (k:=k) o.hS o.hr f1 (λx _=>by split<;>omega) q1;intro x hx hp z hz;refine this x hx hp z ?_;rw[kO (by omega)]at hz
    by_cases e1:x=P.getD i 0
    ·grind
    ·grind
   ·show fC S r n (Bv ((AK S n P t i).set _ _))
    rw[e];intro x hx hr;unfold Sf
    split
    ·omega
    ·exact f1 x hx hr
 have q1:=(key _ (zzL8 _)).1;rw[GX]at q1;have rd:=(h.more o 0).round o _ (zzL8 _);intro x hx hp z hz;refine q1 x hx hp z ?_
 dsimp only at hz ⊢
 by_cases e:x∈P
 ·rw[if_pos e];exact hz
 ·rw[if_neg e]
  have hxr:x=r:=by
   rcases zzL28.1 ((o.mem x).2 (rd.inv.rc x hx hp)) with h1|h1
   ·exact h1
   ·exact absurd h1 e
  subst hxr;exact .root hz.av.ne k
def AW(S:Nat->List Nat)(n:Nat)(P:List Nat)(t:List Int):Prop:=∀ i,i<P.length->Bv t (P.getD i 0)=(Ps S n t (P.getD i 0):Int)
theorem CN{t:List Int}(o:Ordered S r n P)(hl:t.length=n)(h:AW S n P t):∀ i,i<=P.length->AK S n P t i=t:=by
 intro i
 induction i with
 | zero=>intro _;rfl
 | succ i ih=>
  intro hi;unfold AK;rw[ih (by omega),<- h i (by omega)]
  have hlt:P.getD i 0<t.length:=by rw[hl];exact o.lt (Lm _ (Wy (by omega)))
  unfold Bv;rw[Am _ _ _ hlt];exact List.set_getElem_self hlt
theorem vj(o:Ordered S r n P):∃ J,(∀ j,j<J->¬ AW S n P (UV S n P (Jm n r) j))/\AW S n P (UV S n P (Jm n r) J):=by
 obtain⟨K,hK⟩:=lH   n
 have hq:∀ k,QB S r n (Bv (UV S n P (Jm n r) (k+1))) λ_=>k:=by
  intro k
  induction k with
  | zero=>exact ug (Ready.rounds' o 0).inv
  | succ k ih=>exact qA o (Ready.rounds' o k) ih
 have hst :=λi hi=>by
  have rd:=Ready.rounds' o K;exact((rd.more o i).best o hi).same o.hS o.hr (rd.full o) (rd.done _ (Lm _ (by grind))) (om rd.inv hK (hq K))
 have key:∀ m,(∃ J,J<=m/\AW S n P (UV S n P (Jm n r) J))->∃ J,(∀ j,j<J->¬ AW S n P (UV S n P (Jm n r) j))/\AW S n P (UV S n P (Jm n r) J):=by
  intro m
  induction m with
  | zero=>grind
  | succ m ih=>
   rintro⟨J,hJ,h⟩
   by_cases hm:∃ J,J<=m/\AW S n P (UV S n P (Jm n r) J)
   ·exact ih hm
   ·grind
 exact key _ ⟨K+1,zzL8 _,hst⟩
structure DomTree(S:Nat->List Nat)(r n:Nat)(P:List Nat)(t:List Int):Prop where
 inv:Inv S r n (pos (r::P)) (Bv t)
 len:t.length=n
 full:fC S r n (Bv t)
 exact_:jH S r n (Bv t)
theorem NG(o:Ordered S r n P){j:Nat}(h:AW S n P (UV S n P (Jm n r) j)):DomTree S r n P (UV S n P (Jm n r) j):=by
 have rd:=Ready.rounds o j
 have hall :=by
  have:=rd.round o _ (zzL8 _);rwa[CN o rd.len h _ (zzL8 _)]at this
 refine⟨rd.inv,rd.len,hall.full o,lX rd.inv o.hS o.hr (hall.full o) λy hy hne hr=>?_⟩
 have hm:y∈P:=by
  rcases zzL28.1 ((o.mem y).2 hr) with h1|h1
  ·exact absurd h1 hne
  ·exact h1
 obtain⟨i,hi,rfl⟩:=N9 hm;have b:=(hall.more o i).best o hi;rw[Am _ _ _ hi]at b;have hs:=h i hi;rw[Am _ _ _ hi]at hs;exact⟨_,hs,b.best⟩
end
section
variable {S:Nat->List Nat} {s s':Nat->Bool} {l o:List Nat}
theorem VL.before(h:VL S s l s' o):∀ A z B,o=A++z::B->z∈l\/∃ p∈B,z∈S p:=by
 induction h with
 | nil s=>intro A z B e;simp at e
 | skip h _ ih=>
  grind
 | @step s s1 s2 y l o1 o2 h a b iha ihb=>
  intro A z B e;rcases List.append_eq_append_iff.1 e with⟨C,hC1,hC2⟩|⟨C,hC1,hC2⟩
  ·
   cases C with
   | nil=>
    grind
   | cons c C=>
    grind
  ·cases C with
   | nil=>
    grind
   | cons c C=>
    grind
theorem Ord.ordered{n r:Nat}{L:List Nat}(hr:r<n)(hS:∀ x,x<n->∀ w∈S x,w<n)(h:Ord S r L):∃ P,L=r::P/\Ordered S r n P:=by
 have h1:=h.nodup;have h2:=h.mem;obtain⟨s',o,hv,rfl⟩:=h;refine⟨o.reverse,rfl,hr,hS,h1,λx=>by rw[h2 x,rc_iff],λi hi=>?_⟩
 have e:o.reverse=o.reverse.take i++o.reverse[i]::o.reverse.drop (i+1):=by rw[<- ee hi,List.take_append_drop]
 have e2:o=(o.reverse.drop (i+1)).reverse++o.reverse[i]::(o.reverse.take i).reverse:=by
  have:=Bn List.reverse e
  simpa using this
 rw[Am _ _ _ hi];rcases hv.before _ _ _ e2 with h3|⟨p,hp,hz⟩
 ·exact⟨r,zzL41 ..,h3⟩
 ·grind
end
def kN(S:Nat->List Nat)(w:Int):Nat->List Nat:=λx=>(S x).filter λy=>decide ((y:Int)≠w)
theorem qZ(S:Nat->List Nat):kN S (-1)=S:=by
 funext x
 exact List.filter_eq_self.2 λy _=>F9 (by omega)
theorem u2(S:Nat->List Nat)(z:Nat):kN S (z:Int)=wo S z:=by
 funext x
 unfold kN wo
 congr 1
 funext y
 exact zzL74.2 ⟨λh e=>h (by rw[e]),λh e=>h (LN e)⟩
def M5(L:List (List Int))(r:Nat)(w:Int):List Bool:=if(r:Int)=w then List.replicate L.length false else IX (kN (sN L) w) L.length ((List.replicate L.length false).set r true) L.length
theorem RX(L:List (List Int))(r:Nat)(w:Int):(M5 L r w).length=L.length:=by
 unfold M5
 split
 ·simp
 ·rw[Yn];simp
theorem dT{L:List (List Int)}(hm:N1 L=true){r:Nat}(hr:r<L.length)(w:Int) :
  Cy (J0 L) (r:Int) w=some (M5 L r w):=by
 obtain⟨h1,h2,h3⟩:=mayS_iff.1 hm
 have hroom:(1000:Nat)<=room:=by decide
 have hS:=Zd hm;have hSw:∀ z,z<L.length->∀ y∈kN (sN L) w z,y<L.length:=λz hz y hy=>hS z hz y (zzL99.1 hy).1;have hgs:(J0 L).Succ=L:=rfl
 have hlenS:∀ a,(sN L a).length=(L.getD a []).length:=λa=>by simp[sN]
 let fl:List Nat->List Nat:=λl=>l.filter λy=>decide ((y:Int)≠w)
 have hin:∀(o:List Bool) (i:Nat),o.length=L.length->i<L.length->Ad (A4 (J0 L) w (i:Int)) ((0:Int),o)=some (if o.getD i false=true then mk o (kN (sN L) w i) else o):=λo i ho hi=>by
  have hb:=EC (h3 i hi)
  by_cases hoi:o.getD i false=true
  ·rw[if_pos hoi];have hmi:∀ k,(mk o (fl ((sN L i).take k))).getD i false=true:=λk=>(mk_at (n:=L.length) _ _ ho (λy hy=>hS i hi y (List.mem_of_mem_take (zzL99.1 hy).1)) i).2 (.inl hoi)
   have hml:∀ k,(mk o (fl ((sN L i).take k))).length=L.length:=λk=>by rw[gk,ho]
   refine Fn (A4 (J0 L) w (i:Int)) (λk=>(((k:Nat):Int),mk o (fl ((sN L i).take k)))) _ (L.getD i []).length (λk hk=>?_) ?_
   ·show A4 (J0 L) w (i:Int) (_,_)=_
    unfold A4;obtain⟨a0,a1⟩:=BQ (h3 i hi) hk;simp only[hgs,Ap,hmi];rw[Ac (Ff (by rw[hml];exact hi)),M8 (Ff hi),Af,B5 hk,Af,Ac (Ff hi),Ac (Ff hk)]
    have hk':k<(sN L i).length:=by rw[hlenS];exact hk
    have hsk:(sN L i)[k]=((L.getD i []).getD k 0).toNat:=by rw[Am _ _ _ hk];simp[sN]
    have hski:(((sN L i)[k]:Nat):Int)=(L.getD i []).getD k 0:=by rw[hsk];exact Lb a0
    have e:mk o (fl ((sN L i).take (k+1)))=if(L.getD i []).getD k 0=w then mk o (fl ((sN L i).take k)) else(mk o (fl ((sN L i).take k))).set ((L.getD i []).getD k 0).toNat true:=by
     rw[kO hk']
     show mk o (List.filter _ (_++[_]))=_
     rw[FM]
     by_cases hw:(L.getD i []).getD k 0=w
     ·rw[if_pos hw]
      have:List.filter (λy:Nat=>decide ((y:Int)≠w)) [(sN L i)[k]]=[]:=by rw[List.filter_cons,hski,hw];simp
      rw[this,List.append_nil]
     ·rw[if_neg hw]
      have:List.filter (λy:Nat=>decide ((y:Int)≠w)) [(sN L i)[k]]=[(sN L i)[k]]:=by rw[List.filter_cons,hski,if_pos (F9 hw)];rfl
      rw[this];unfold mk;rw[List.foldl_append,hsk]
      rfl
    by_cases hw:(L.getD i []).getD k 0=w
    ·have hne:((L.getD i []).getD k 0 !=w)=false:=by rw[hw];simp
     rw[hne,Aq,Aj,w1 (by omega),e,if_pos hw]
    ·have hne:((L.getD i []).getD k 0 !=w)=true:=by rw[zzL86];exact hw
     rw[hne,Af,Ac (Ff hi),Ac (Ff hk),Ac ⟨a0,by rw[hml];exact a1⟩,w1 (by omega),e,if_neg hw]
     rfl
   ·show A4 (J0 L) w (i:Int) (_,_)=_
    unfold A4;simp only[hgs,Ap,hmi];rw[Ac (Ff (by rw[hml];exact hi)),M8 (Ff hi),Af,Dk,Aq]
    have:(sN L i).take (L.getD i []).length=sN L i:=by rw[<- hlenS];exact GX ..
    rw[this]
    rfl
  ·have hof:o.getD i false=false:=by simpa using hoi
   rw[if_neg hoi]
   apply Ak
   unfold A4;simp only[hgs,Ap,hof];rw[Ac (Ff (by rw[ho];exact hi)),M8 (Ff hi),Aq,Aq]
 have hsw:∀ o:List Bool,o.length=L.length->Ad (A5 (J0 L) w) ((0:Int),o)=some (sw (kN (sN L) w) o L.length):=λo ho=>by
  refine Fn (A5 (J0 L) w) (λi=>(((i:Nat):Int),sw (kN (sN L) w) o i)) _ L.length (λi hi=>?_) ?_
  ·show A5 (J0 L) w (_,_)=_
   unfold A5
   have hl:(sw (kN (sN L) w) o i).length=L.length:=by rw[sw_len,ho]
   simp only[hl,B5 hi,Af];rw[hin _ i hl hi,w1 (by omega)]
   rfl
  ·show A5 (J0 L) w (_,_)=_
   unfold A5
   have hl:(sw (kN (sN L) w) o L.length).length=L.length:=by rw[sw_len,ho]
   simp only[hl,Dk,Aq]
 unfold Cy;simp only[hgs,Ap];rw[Ac ⟨by omega,Int.le_refl _,by omega⟩];unfold M5
 by_cases hrw:(r:Int)=w
 ·rw[if_pos hrw]
  have:((r:Int)==w)=true:=by simpa using hrw
  rw[this,Af]
 ·rw[if_neg hrw]
  have hne:((r:Int)==w)=false:=by rw[zzL35];exact hrw
  rw[hne,Aq,Ac (Ff (by simpa using hr))]
  have hl0:((List.replicate L.length false).set r true).length=L.length:=by simp
  have:Ad (A6 (J0 L) w) ((0:Int),(List.replicate L.length false).set r true)=some (IX (kN (sN L) w) L.length ((List.replicate L.length false).set r true) L.length):=by
   refine Fn (A6 (J0 L) w) (λj=>(((j:Nat):Int),IX (kN (sN L) w) L.length ((List.replicate L.length false).set r true) j)) _ L.length (λj hj=>?_) ?_
   ·show A6 (J0 L) w (_,_)=_
    unfold A6
    have hl:(IX (kN (sN L) w) L.length ((List.replicate L.length false).set r true) j).length=L.length:=by rw[Yn,hl0]
    simp only[hl,B5 hj,Af];rw[hsw _ hl,w1 (by omega)]
    rfl
   ·show A6 (J0 L) w (_,_)=_
    unfold A6
    have hl:(IX (kN (sN L) w) L.length ((List.replicate L.length false).set r true) L.length).length=L.length:=by rw[Yn,hl0]
    simp only[hl,Dk,Aq]
  rw[this]
  rfl
theorem qB{L:List (List Int)}(hm:N1 L=true){r:Nat}(hr:r<L.length){b:Nat}:(M5 L r (-1)).getD b false=true↔Rc (sN L) r b:=by
 unfold M5;rw[if_neg (by omega),qZ,IY (Zd hm) hr b,rc_iff]
theorem gz{L:List (List Int)}(hm:N1 L=true){r:Nat}(hr:r<L.length){a b:Nat}(hb:b<L.length):(M5 L r (a:Int)).getD b false=true↔Av (sN L) r a b:=by
 unfold M5;rw[av_iff]
 by_cases h:r=a
 ·grind
 ·rw[if_neg (by omega),u2,IY (S:=wo _ a) (λz hz y hy=>Zd hm z hz y (zzL99.1 hy).1) hr b];simp[h]
def P6(L:List (List Int))(r a b:Nat):Bool:=(M5 L r (-1)).getD b false&&!(M5 L r (a:Int)).getD b false
theorem dq{L:List (List Int)}(hm:N1 L=true){r a b:Nat}(hr:r<L.length)(hb:b<L.length):P6 L r a b=true↔Rc (sN L) r b/\¬ Av (sN L) r a b:=by
 unfold P6;rw[A1,Rn,<- Bool.not_eq_true,qB hm hr,gz hm hr hb]
def RH(L:List (List Int))(r a b:Nat):Bool:=(List.range L.length).all λc=>decide (c=b) || !P6 L r c b || P6 L r c a
def Uv(L:List (List Int))(r b:Nat):Nat->Int
 | 0=>-2
 | a+1=>if a≠b/\P6 L r a b=true/\RH L r a b=true then(a:Int) else Uv L r b a
def Ys(L:List (List Int))(r b:Nat):Int:=if b=r then -1 else Uv L r b L.length
def CO(L:List (List Int))(r:Nat):List Int:=(List.range L.length).map (Ys L r)
theorem YO(L:List (List Int))(r:Nat):(CO L r).length=L.length:=by simp[CO]
theorem qV{L:List (List Int)}{r b:Nat}(hb:b<L.length):(CO L r).getD b 0=Ys L r b:=by unfold CO;rw[Sj hb]
theorem pick_cases(L:List (List Int))(r b:Nat):∀ m,(Uv L r b m = -2/\∀ a,a<m->¬ (a≠b/\P6 L r a b=true/\RH L r a b=true))\/∃ a,a<m/\Uv L r b m=(a:Int)/\a≠b/\P6 L r a b=true/\RH L r a b=true:=by
 intro m
 induction m with
 | zero=>exact .inl ⟨rfl,λa ha=>absurd ha (V1 a)⟩
 | succ m ih=>
  unfold Uv
  by_cases h:m≠b/\P6 L r m b=true/\RH L r m b=true
  ·grind
  ·grind
theorem DomTree.eq{L:List (List Int)}(hm:N1 L=true){r:Nat}(hr:r<L.length){P t:List _}(o:Ordered (sN L) r L.length P)(h:DomTree (sN L) r L.length P t):t=CO L r:=by
 refine NO (by rw[h.len,YO]) λb h1 h2=>?_
 have hb:b<L.length:=by rw[<- h.len];exact h1
 rw[<- Am _ _ 0 h1,<- Am _ _ 0 h2,qV hb]
 show Bv t b=_
 have hov:∀ a b,b<L.length->Bv t b≠-2->(P6 L r a b=true↔UpTo _ b a):=λa b hb hp=>by
  rw[dq hm hr hb,h.exact_ b hb hp];exact⟨λk=>k.2,λk=>⟨h.inv.rc b hb hp,k⟩⟩
 unfold Ys
 by_cases hbr:b=r
 ·subst hbr;rw[if_pos rfl];exact h.inv.top
 ·rw[if_neg hbr];rcases h.inv.kind b hb with hk|hk|⟨z,hz⟩
  ·
   have hn :=λk=>h.full b hb k hk;rcases pick_cases L r b _ with⟨h3,_⟩|⟨a,_,_,_,h6,_⟩
   ·rw[hk,h3]
   ·exact absurd ((dq hm hr hb).1 h6).1 hn
  ·exact absurd hk hbr
  ·obtain⟨z1,z2,z3,z4⟩:=h.inv.up b hb z hz
   have hp:Bv t b≠-2:=by omega
   have hzo :=(hov z b hb hp).2 (.up hz (.refl _))
   have hzb:z≠b:=by rintro rfl;omega
   have hnear:RH L r z b=true:=all_range.2 λc hc=>by
    by_cases e:c=b
    ·simp[e]
    ·cases ho:P6 L r c b with
     | false=>simp
     | true=>
      have:=(hov c b hb hp).1 ho;rcases(anc_up hz).1 this with h3|h3
      ·exact absurd h3 e
      ·grind
   rcases pick_cases L r b L.length with⟨_,h3⟩|⟨a,h3,h4,h5,h6,h7⟩
   ·grind
   ·rw[h4,hz];have haU:=(hov a b hb hp).1 h6
    have ha1:UpTo (Bv t) z a:=by
     rcases(anc_up hz).1 haU with h8|h8
     ·exact absurd h8 h5
     ·exact h8
    have hap:=(h.inv.anc ha1 z1 z2).2.1
    have hza :=by
     have:=all_range.1 h7 z z1;simp only[hzo,hzb, Dj]at this;exact(hov z a h3 hap).1 this
    rw[h.inv.antisymm ha1 hza z1 z2]
theorem jp{g:TGraph}(h:ER g=true):N1 g.Succ=true/\g=J0 g.Succ:=by
 unfold ER at h;rw[A1]at h;refine⟨h.1,?_⟩;obtain⟨s,p⟩:=g;have:=LK h.2;simp only at this;unfold J0;rw[this]
theorem HR{a b:Nat}:(((a:Nat):Int)==(b:Int))=decide (a=b):=by
 grind
theorem jU{a b:Nat}:(((a:Nat):Int)!=(b:Int)) = !decide (a=b):=by
 unfold bne;rw[HR]
section
variable {L:List (List Int)} (hm:N1 L=true) {r:Nat} (hr:r<L.length)
def SH(L:List (List Int))(r a k:Nat):List Bool:=(List.range L.length).map λb=>if b<k then P6 L r a b else false
def SG(L:List (List Int))(r a:Nat):List Bool:=(List.range L.length).map λb=>P6 L r a b
def mF(L:List (List Int))(r:Nat):List (List Bool):=(List.range L.length).map λa=>SG L r a
theorem j5:(mF L r).length=L.length:=by simp[mF]
theorem pt{a:Nat}(ha:a<L.length):(mF L r).getD a []=SG L r a:=by unfold mF;rw[Sj ha]
theorem eG{a:Nat}:(SG L r a).length=L.length:=by simp[SG]
theorem bN{a b:Nat}(hb:b<L.length):(SG L r a).getD b false=P6 L r a b:=by unfold SG;rw[Sj hb]
include hm hr
omit hr in
theorem uw(a:Nat)(l5:List (List Bool))(hl5:l5.length=L.length)(ha:a<L.length):Ad (C4 (J0 L) (M5 L r (-1)) (a:Int) l5 (M5 L r (a:Int))) ((0:Int),List.replicate L.length false)=some (SG L r a):=by
 obtain⟨h1,h2,h3⟩:=mayS_iff.1 hm;have hgs:(J0 L).Succ=L:=rfl
 have e0:List.replicate L.length false=SH L r a 0:=by
  refine NO (by simp[SH]) λi h1 h2=>by simp[SH]
 have e1:SG L r a=SH L r a L.length:=by
  unfold SG SH
  exact Hc λi hi=>by rw[if_pos hi]
 have hlen:∀ k,(SH L r a k).length=L.length:=λk=>by simp[SH]
 rw[e0];refine Fn (C4 (J0 L) (M5 L r (-1)) (a:Int) l5 (M5 L r (a:Int))) (λk=>(((k:Nat):Int),SH L r a k)) _ L.length (λk hk=>?_) ?_
 ·show C4 (J0 L) _ _ _ _ (_,_)=_
  unfold C4;simp only[hgs,Ap,B5 hk,Af];rw[Ac (Ff (by rw[hl5];exact ha)),Ac (Ff (by rw[RX];exact hk)),Ac (λ_=>Ff (by rw[RX];exact hk)),Ac (Ff (by rw[hlen];exact hk)),w1 (by omega)]
  have:(SH L r a k).set k (bif (M5 L r (-1)).getD k false then !(M5 L r (a:Int)).getD k false else false)=SH L r a (k+1):=by
   unfold SH;rw[CL];refine Hc λi hi=>?_
   by_cases e:i=k
   ·subst e;rw[if_pos rfl,if_pos (by omega)];unfold P6
    cases(M5 L r (-1)).getD i false<;>rfl
   ·rw[if_neg e]
    by_cases e2:i<k
    ·rw[if_pos e2,if_pos (by omega)]
    ·rw[if_neg e2,if_neg (by omega)]
  rw[this]
 ·show C4 (J0 L) _ _ _ _ (_,_)=_
  unfold C4;simp only[hgs,Dk,Aq];rw[e1]
theorem ux:Ad (In (J0 L) (r:Int) (M5 L r (-1))) ((0:Int),List.replicate L.length ([]:List Bool))=some (mF L r):=by
 obtain⟨h1,h2,h3⟩:=mayS_iff.1 hm;have hgs:(J0 L).Succ=L:=rfl
 have hroom:1000<=room:=by decide
 let M:Nat->List _:=λk=>(List.range L.length).map λa=>if a<k then SG L r a else[]
 have hM:∀ k,(M k).length=L.length:=λk=>by simp[M]
 have e0:List.replicate L.length []=M 0:=by
  refine NO (by simp[M]) λi h1 h2=>by simp[M]
 have e1:mF L r=M _:=Hc λi hi=>by rw[if_pos hi]
 rw[e0];refine Fn _ (λk=>(((k:Nat):Int),M k)) _ L.length (λk hk=>?_) ?_
 ·unfold In;simp only[hgs,Ap,B5 hk,Af];rw[Ac ⟨by omega,Int.le_refl _,by omega⟩,Ac (Ff (by rw[hM];exact hk)),dT hm hr,Aj,uw hm k (M k) (hM k) hk,Aj,w1 (by omega)]
  have:(M k).set k (SG L r k)=M (k+1):=by
   rw[CL];refine Hc λi hi=>?_
   by_cases e:i=k
   ·grind
   ·grind
  rw[this]
 ·unfold In;simp only[hgs,Dk,Aq];rw[e1]
omit hr in
theorem uy(a b:Nat)(ha:a<L.length)(hb:b<L.length):Ad (C5 (J0 L) (mF L r) (b:Int) (a:Int)) (true,(0:Int))=some (RH L r a b):=by
 obtain⟨h1,h2,h3⟩:=mayS_iff.1 hm;have hgs:(J0 L).Succ=L:=rfl
 let N:Nat->Bool:=λk=>(List.range k).all λc=>decide (c=b) || !P6 L r c b || P6 L r c a
 refine Fn (C5 (J0 L) (mF L r) (b:Int) (a:Int)) (λk=>(N k,((k:Nat):Int))) _ L.length (λk hk=>?_) ?_
 ·show C5 (J0 L) _ _ _ (_,_)=_
  unfold C5;simp only[hgs,Ap,B5 hk,Af,pt hk,j5,eG,bN hb,bN ha];rw[Ac (λ_=>Ff hk),Ac (λ_=>Ff hb),Ac (λ_=>Ff hk),Ac (λ_=>Ff ha),w1 (by omega),HR]
  have:(bif N k then(bif (bif decide (k=b) then true else !P6 L r k b) then true else P6 L r k a) else false)=N (k+1):=by
   show _=(List.range (k+1)).all _
   rw[ny]
   show _=(N k&&_)
   cases N k<;>cases decide (k=b)<;>cases P6 L r k b<;>rfl
  rw[this]
 ·show C5 (J0 L) _ _ _ (_,_)=_
  unfold C5;simp only[hgs,Dk,Aq]
  rfl
def Rz(L:List (List Int))(r b:Nat)(x:Int):List Int:=(List.range L.length).map λj=>if j<b then Ys L r j else if j=b then x else 0
omit hm hr in
theorem LF{b:Nat}{x:Int}:(Rz L r b x).length=L.length:=by simp[Rz]
omit hm hr in
theorem LG{b:Nat}{x y:Int}:(Rz L r b x).set b y=Rz L r b y:=by
 unfold Rz;rw[CL];refine Hc λi hi=>?_
 by_cases e:i=b
 ·subst e;rw[if_pos rfl,if_neg (by omega),if_pos rfl]
 ·rw[if_neg e,if_neg e,if_neg e]
omit hm hr in
theorem SU{b:Nat}:Rz L r b (Ys L r b)=Rz L r (b+1) 0:=by
 unfold Rz;refine Hc λi hi=>?_
 by_cases e:i<b
 ·rw[if_pos e,if_pos (by omega)]
 ·rw[if_neg e]
  by_cases e2:i=b
  ·subst e2;rw[if_pos rfl,if_pos (by omega)]
  ·rw[if_neg e2,if_neg (by omega)];split<;>rfl
omit hr in
theorem uz(b:Nat)(hb:b<L.length)(hbr:b≠r):Ad (B1 (J0 L) (r:Int) (mF L r) (b:Int)) ((0:Int),Rz L r b (-2))=some (Rz L r b (Uv L r b L.length)):=by
 obtain⟨h1,h2,h3⟩:=mayS_iff.1 hm;have hgs:(J0 L).Succ=L:=rfl;refine Fn (B1 (J0 L) (r:Int) (mF L r) (b:Int)) (λk=>(((k:Nat):Int),Rz L r b (Uv L r b k))) _ L.length (λk hk=>?_) ?_
 ·show B1 (J0 L) _ _ _ (_,_)=_
  unfold B1
  have hne:decide (b=r)=false:=by simp[hbr]
  simp only[hgs,Ap,B5 hk,Af,pt hk,j5,eG,bN hb,HR,jU,hne,L0];rw[Ac (λ_=>Ff hk),Ac (λ_=>Ff hb),uy hm k b hk hb]
  by_cases hkb:k=b
  ·have e:Uv L r b (k+1)=Uv L r b k:=by show(if _ then _ else _)=_;rw[if_neg (λh=>h.1 hkb)]
   rw[F9 hkb,Af,Af,Aj,w1 (by omega),e]
  ·rw[Da hkb,Aq]
   cases ho:P6 L r k b with
   | false=>
    have e:Uv L r b (k+1)=Uv L r b k:=by show(if _ then _ else _)=_;rw[if_neg (λh=>by rw[ho]at h;exact absurd h.2.1 (by decide))]
    rw[L0,Af,Aj,w1 (by omega),e]
   | true=>
    rw[Dj,Aq,Aj]
    cases hn:RH L r k b with
    | false=>
     have e:Uv L r b (k+1)=Uv L r b k:=by show(if _ then _ else _)=_;rw[if_neg (λh=>by rw[hn]at h;exact absurd h.2.2 (by decide))]
     rw[Aq,Aj,w1 (by omega),e]
    | true=>
     have e:Uv L r b (k+1)=(k:Int):=by show(if _ then _ else _)=_;rw[if_pos ⟨hkb,ho,hn⟩]
     rw[Af,Ac (Ff (by rw[LF];exact hb)),Aj,w1 (by omega),e,LG]
 ·show B1 (J0 L) _ _ _ (_,_)=_
  unfold B1;simp only[hgs,Dk,Aq]
omit hr in
theorem u0:Ad (C6 (J0 L) (r:Int) (mF L r)) ((0:Int),List.replicate L.length (0:Int))=some (CO L r):=by
 obtain⟨h1,h2,h3⟩:=mayS_iff.1 hm;have hgs:(J0 L).Succ=L:=rfl
 have e0:List.replicate L.length (0:Int)=Rz L r 0 0:=by
  refine NO (by simp[Rz]) λi h1 h2=>by simp[Rz]
 have e1:CO L r=Rz L r L.length 0:=Hc λi hi=>by rw[if_pos hi]
 rw[e0];refine Fn (C6 (J0 L) (r:Int) (mF L r)) (λk=>(((k:Nat):Int),Rz L r k 0)) _ L.length (λk hk=>?_) ?_
 ·show C6 (J0 L) _ _ (_,_)=_
  unfold C6;simp only[hgs,Ap,B5 hk,Af];rw[Ac (Ff (by rw[LF];exact hk)),HR,LG,LG]
  by_cases hkr:k=r
  ·rw[F9 hkr,Af,Ac (Ff (by rw[LF];exact hk)),Aj]
   have hd:Ad (B1 (J0 L) (r:Int) (mF L r) (k:Int)) ((0:Int),Rz L r k (-1))=some (Rz L r k (-1)):=by
    apply Ak
    unfold B1;simp only[jU,F9 hkr,Dj,oJ,Aq]
   rw[hd,Aj,w1 (by omega)]
   have:Ys L r k = -1:=by unfold Ys;rw[if_pos hkr]
   rw[<- this,SU]
  ·rw[Da hkr,Aq,Aj,uz hm k hk hkr,Aj,w1 (by omega)]
   have:Ys L r k=Uv L r k L.length:=by unfold Ys;rw[if_neg hkr]
   rw[<- this,SU]
 ·show C6 (J0 L) _ _ (_,_)=_
  unfold C6;simp only[hgs,Dk,Aq];rw[e1]
end
def ST(g:TGraph)(r:Int):List Int:=if ER g=true/\0<=r/\r<(g.Succ.length:Int) then CO g.Succ r.toNat else[]
theorem gh(g:TGraph)(h:Fits g.Succ)(r:Int):K2 g r=some (ST g r):=by
 have hroom:1000<=room:=by decide
 unfold K2 ST;rw[lm g h,Aj]
 cases hmg:ER g with
 | false=>
  rfl
 | true=>
  rw[Dj,Aq]
  by_cases h0:r<0
  ·grind
  ·rw[Da h0,Aq]
   by_cases h1:g.Succ.length<=r
   ·grind
   ·rw[Da h1,Aq,if_pos ⟨rfl,by omega,by omega⟩];obtain⟨hms,hg⟩:=jp hmg;obtain⟨hl1,hl2,hl3⟩:=mayS_iff.1 hms;obtain⟨q,rfl⟩:∃ q:Nat,r=q:=⟨r.toNat,by omega⟩
    have hq:q<g.Succ.length:=by omega
    rw[hg];have hgs:(J0 _).Succ=g.Succ:=rfl;simp only[hgs,Ap];rw[dT hms hq,Aj,Ac ⟨by omega,Int.le_refl _,by omega⟩,ux hms hq,Aj,Ac ⟨by omega,Int.le_refl _,by omega⟩,u0 hms,Aj]
def upD(t:List Int):Nat->Int->Option (List Int)
 | 0,_=>none
 | k+1,a=>if 0<=a/\a<(t.length:Int) then(if t.getD a.toNat 0 = -1 then some [a] else(upD t k (t.getD a.toNat 0)).map λl=>a::l) else none
def Ep(t:List Int)(a:Int):List Int:=(upD t t.length a).getD []
def Abm(l:List Int):Option (List Int)->Unit ⊕ List Int
 | none=>.inl ()
 | some q=>.inr (l++q)
theorem mG(t:List Int)(ht:t.length<=1000):∀(k:Nat) (a:Int) (l:List Int),l.length+k=t.length->Ad (Ch t) (a,l)=some (Abm l (upD t k a)):=by
 have hroom:2000<=room:=by decide
 intro k
 induction k with
 | zero=>
  intro a l hl
  apply Ak
  unfold Ch;have:decide ((l.length:Int)<t.length)=false:=Da (by omega);simp only[this]
  rfl
 | succ k ih=>
  intro a l hl;have hlt:decide (l.length<(t.length:Int))=true:=F9 (by omega);unfold upD
  by_cases h0:0<=a
  ·by_cases h1:a<t.length
   ·have hin:As a _:=⟨h0,h1⟩;rw[if_pos ⟨h0,h1⟩]
    by_cases ht1:t.getD a.toNat 0 = -1
    ·apply Ak
     unfold Ch;simp only[hlt,F9 h0,F9 h1];rw[Ac (by simp;omega),Ac hin,ht1]
     rfl
    ·rw[if_neg ht1]
     have hs:Ch t (a,l)=some (.next (t.getD a.toNat 0,l++[a])):=by
      unfold Ch;have hb :=zzL35.2 ht1;simp only[hlt,F9 h0,F9 h1,Af];rw[Ac (by simp;omega),Ac hin,hb,Aq,Ac hin]
     rw[Ar hs,ih _ _ (by simp;omega)]
     cases upD t k _ with
     | none=>rfl
     | some q=>show some (Sum.inr _)=some (Sum.inr _);simp
   ·rw[if_neg (by omega)]
    apply Ak
    unfold Ch;simp only[hlt,F9 h0,Da h1,Af]
    rfl
  ·rw[if_neg (by omega)]
   apply Ak
   unfold Ch;simp only[hlt,Da h0,Af]
   rfl
theorem gf(t:List Int)(ht:t.length<=1000)(a:Int):Fz t a=some (Ep t a):=by
 unfold Fz Ep;rw[mG t ht t.length a [] (by simp)]
 cases upD t _ a with
 | none=>rfl
 | some q=>rfl
theorem kL(t:List Int):∀ k a q,upD t k a=some q->q.length<=k/\1<=q.length:=by
 intro k
 induction k with
 | zero=>intro a q h;cases h
 | succ k ih=>
  intro a q h;unfold upD at h
  split at h
  ·split at h
   ·cases h;simp
   ·cases hu:upD t k _ with
    | none=>rw[hu]at h;cases h
    | some q'=>grind
  ·cases h
theorem YB(t:List Int)(a:Int):(Ep t a).length<=t.length:=by
 unfold Ep
 cases h:upD t _ a with
 | none=>simp
 | some q=>exact(kL t _ _ _ h).1
theorem pathD_nil{t:List Int}{a:Int}:Ep t a=[]↔upD t t.length a=none:=by
 unfold Ep
 cases h:upD t _ a with
 | none=>simp
 | some q=>have:=(kL t _ _ _ h).2;simp;intro e;subst e;simp at this
def topsK(t:List Int)(k:Nat):Nat:=((List.range k).filter λa=>decide (t.getD a 0 = -1)).length
def pe(t:List Int)(a:Nat):Bool:=decide (t.getD a 0 = -2) || !decide (Ep t (a:Int)=[])
def M6(t:List Int):Bool:=(List.range t.length).all (pe t)&&decide (topsK t t.length=1)
theorem GU(t:List Int)(k:Nat):topsK t (k+1)=topsK t k+if t.getD k 0 = -1 then 1 else 0:=by
 unfold topsK;rw[FN,FM]
 by_cases h:t.getD k 0 = -1
 ·grind
 ·grind
theorem qT(t:List Int)(k:Nat):topsK t k<=k:=by
 exact Qa (List.length_filter_le ..) (by simp)
theorem pF{l:List Int}:(((l.length:Nat):Int)==(0:Int))=decide (l=[]):=by
 cases l with
 | nil=>rfl
 | cons x l=>simp;omega
theorem iB(t:List Int)(ht:t.length<=1000):Ad (Bz t) ((0:Int),(0:Int))=some (bif (List.range t.length).all (pe t) then .inl ((topsK t t.length:Nat):Int) else .inr false):=by
 have body:∀ k,k<t.length->Bz t (((topsK t k:Nat):Int),(k:Int))=some (bif pe t k then .next (((topsK t (k+1):Nat):Int),((k+1:Nat):Int)) else .done (.inr false)):=λk hk=>by
  have hle:=qT t k;unfold Bz;simp only[Ap,B5 hk,Af];rw[Ac (Ff hk)]
  have e1:(bif (t.getD k 0==(-1:Int)) then some (w64 (((topsK t k:Nat):Int)+1)) else some ((topsK t k:Nat):Int))=some ((topsK t (k+1):Nat):Int):=by
   rw[GU]
   by_cases h:t.getD k 0 = -1
   ·rw[if_pos h,zzL47.2 h,Af,w1 (by omega)]
   ·rw[if_neg h,zzL35.2 h,Aq];rfl
  rw[e1,Aj]
  by_cases h2:t.getD k 0 = -2
  ·have hb:(t.getD k 0 !=(-2:Int))=false:=by rw[h2];rfl
   have ho:pe t k=true:=by unfold pe;rw[F9 h2];rfl
   rw[hb,show(false==true)=false from rfl,Aq,Aj,Aq,Aq,Ac (Ff hk),w1 (by omega),ho,Af]
  ·have hb:(t.getD k 0 !=(-2:Int))=true:=zzL86.2 h2
   have ho:pe t k = !decide (Ep t (k:Int)=[]):=by unfold pe;rw[Da h2];rfl
   rw[hb,show(true==true)=true from rfl,Af,gf t ht,Aj,Af,pF,Ac (Ff hk),w1 (by omega),ho]
   cases decide (Ep t (k:Int)=[])<;>rfl
 have:=H9 (Bz t) (λk=>(((topsK t k:Nat):Int),((k:Nat):Int))) (pe t) (.inl ((topsK t t.length:Nat):Int)) (.inr false) t.length (λi hi hp=>by
   show Bz t _=_;rw[body i hi,hp,Af]) (λi hi hp=>by
   show Bz t _=_;rw[body i hi,hp,Aq]) (by
   show Bz t _=_
   unfold Bz
   simp only[Dk,Aq])
 exact this
theorem uE(t:List Int)(ht:t.length<=1000):J7 t=some (M6 t):=by
 unfold J7 M6;rw[iB t ht]
 cases(List.range _).all _ with
 | false=>rfl
 | true=>
  rw[ Hi]
  show some _=_
  have:(1:Int)=(1:Nat):=rfl;rw[this,HR]
theorem find_first(p:Int->Bool):∀ l:List Int,(∃ n,n<l.length/\(∀ i,i<n->p (l.getD i 0)=false)/\p (l.getD n 0)=true/\l.find? p=some (l.getD n 0))\/((∀ i,i<l.length->p (l.getD i 0)=false)/\l.find? p=none):=by
 intro l
 induction l with
 | nil=>grind
 | cons x l ih=>
  cases hx:p x with
  | true=>exact .inl ⟨0,by simp,λi hi=>absurd hi (V1 i),by simpa using hx,by simp[ hx]⟩
  | false=>
   rcases ih with⟨n,h1,h2,h3,h4⟩|⟨h1,h2⟩
   ·refine .inl ⟨n+1,by simpa using h1,λi hi=>?_,by simpa using h3,by grind⟩
    cases i with
    | zero=>simpa using hx
    | succ i=>grind
   ·grind
def Ru(t:List Int)(a b:Int):Int:=if M6 t=true then((Ep t a).find? λx=>(Ep t b).contains x).getD (-2) else -2
def MZ(t:List Int)(a b:Int):Bool:=Ru t a b==a&&Ru t a b !=-2
theorem xN(t:List Int)(ht:t.length<=1000)(a b:Int):K1 t a b=some (Ru t a b):=by
 unfold K1 Ru;rw[uE t ht,Aj]
 cases M6 t with
 | false=>rfl
 | true=>
  rw[Dj, gf t ht,Aj,gf t ht,Aj];have hp:=YB t a;have hq:=YB t b
  have body:∀ k,k<(Ep t a).length->Dz (Ep t a) (Ep t b) (k:Int)=some (bif (Ep t b).contains _ then .done _ else .next _):=λk hk=>by
   unfold Dz;simp only[Ap,B5 hk];rw[Ac (Ff hk),pJ _ _ (by omega), w1 (by omega),Ac (Ff hk)]
   cases(Ep t b).contains _<;>rfl
  rcases find_first (λx=>(Ep t b).contains x) (Ep t a) with⟨n,h1,h2,h3,h4⟩|⟨h1,h2⟩
  ·have:=Fn (Dz (Ep t a) (Ep t b)) (λk=>(k:Nat)) (.inr ((Ep t a).getD n 0)) n (λk hk=>by
    grind) (by
    grind)
   have e:Ad _ (0:Int)=_:=this;rw[e, h4]
   rfl
  ·have:=Fn (Dz (Ep t a) (Ep t b)) (λk=>((k:Nat):Int)) (.inl ()) (Ep t a).length (λk hk=>by
    grind) (by
    unfold Dz
    simp only[Dk,Aq])
   have e:Ad _ (0:Int)=_:=this;rw[e, h2]
   rfl
section
variable {S:Nat->List Nat} {r n:Nat} {P:List Nat} {t:List Int}
theorem DomTree.up(h:DomTree S r n P t):∀ k x,x<n->Bv t x≠-2->pos (r::P) x<k->∃ q,upD t k (x:Int)=some q/\(∀ w:Int,w∈q↔∃ z:Nat,w=(z:Int)/\UpTo (Bv t) x z) /\
  ∀ p:Int->Bool,(q.find? p=none/\∀ z:Nat,UpTo (Bv t) x z->p (z:Int)=false)\/∃ f:Nat,q.find? p=some (f:Int)/\UpTo (Bv t) x f/\p (f:Int)=true/\∀ z:Nat,UpTo (Bv t) x z->p (z:Int)=true->UpTo (Bv t) f z:=by
 intro k
 induction k with
 | zero=>omega
 | succ k ih=>
  intro x hx hp hk
  have hxt:(0:Int)<=(x:Int)/\(x:Int)<(t.length:Int):=by rw[h.len];omega
  unfold upD;rw[if_pos hxt,Ap];have hpx:t.getD x 0=Bv t x:=rfl;rw[hpx];rcases h.inv.kind x hx with h1|rfl|⟨z,hz⟩
  ·exact absurd h1 hp
  ·rw[if_pos h.inv.top];refine⟨_,rfl,λw=>?_,λp=>?_⟩
   ·rw[zzL25]
    constructor
    ·rintro rfl;exact⟨x,rfl,.refl _⟩
    ·rintro⟨z,rfl,hz⟩;rw[h.inv.root_anc.1 hz]
   ·cases hpp:p (x:Int) with
    | false=>exact .inl ⟨by simp[List.find?,hpp],λz hz=>by rw[h.inv.root_anc.1 hz];exact hpp⟩
    | true=>exact .inr ⟨x,by simp[List.find?,hpp],.refl _,hpp,λz hz _=>hz⟩
  ·obtain⟨z1,z2,z3,z4⟩:=h.inv.up x hx z hz;rw[hz,if_neg (by omega)];obtain⟨q,hq1,hq2,hq3⟩:=ih z z1 z2 (by omega);rw[hq1];refine⟨(x:Int)::q,rfl,λw=>?_,λp=>?_⟩
   ·rw[zzL28,hq2 w]
    constructor
    ·rintro(rfl|⟨y,rfl,hy⟩)
     ·exact⟨x,rfl,.refl _⟩
     ·exact⟨y,rfl,.up hz hy⟩
    ·rintro⟨y,rfl,hy⟩;rcases(anc_up hz).1 hy with rfl|hy
     ·exact .inl rfl
     ·exact .inr ⟨y,rfl,hy⟩
   ·cases hpp:p (x:Int) with
    | true=>exact .inr ⟨x,by simp[List.find?,hpp],.refl _,hpp,λy hy _=>hy⟩
    | false=>
     have hf:((x:Int)::q).find? p=q.find? p:=by simp[List.find?,hpp]
     rw[hf];rcases hq3 p with⟨e1,e2⟩|⟨f,e1,e2,e3,e4⟩
     ·refine .inl ⟨e1,λy hy=>?_⟩;rcases(anc_up hz).1 hy with rfl|hy
      ·exact hpp
      ·exact e2 y hy
     ·refine .inr ⟨f,e1,.up hz e2,e3,λy hy hpy=>?_⟩;rcases(anc_up hz).1 hy with rfl|hy
      ·rw[hpp]at hpy;cases hpy
      ·exact e4 y hy hpy
theorem Ordered.pos_lt(o:Ordered S r n P){x:Nat}(hx:x∈r::P):pos (r::P) x<n:=by
 obtain⟨j,hj,rfl⟩:=N9 hx;rw[(PG o.nodup hj).2];have:=Ub n _ o.nodup λy hy=>o.lt hy;omega
theorem DomTree.path(h:DomTree S r n P t)(o:Ordered S r n P){x:Nat}(hx:x<n)(hp:Bv t x≠-2):Ep t (x:Int)≠[]/\(∀ w:Int,w∈Ep t (x:Int)↔∃ z:Nat,w=(z:Int)/\UpTo (Bv t) x z) /\
  ∀ p:Int->Bool,((Ep t (x:Int)).find? p=none/\∀ z:Nat,UpTo (Bv t) x z->p (z:Int)=false)\/∃ f:Nat,(Ep t (x:Int)).find? p=some (f:Int)/\UpTo (Bv t) x f/\p (f:Int)=true/\∀ z:Nat,UpTo (Bv t) x z->p (z:Int)=true->UpTo (Bv t) f z:=by
 have hm:=(o.mem x).2 (h.inv.rc x hx hp);obtain⟨q,h1,h2,h3⟩:=h.up n x hx hp (o.pos_lt hm)
 have e:Ep t x=q:=by unfold Ep;rw[h.len,h1];rfl
 rw[e];refine⟨λe=>?_,h2,h3⟩;have:=(h2 _).2 ⟨x,rfl,.refl _⟩;rw[e]at this
 cases this
theorem DomTree.nopath(h:DomTree S r n P t){x:Nat}(hx:x<n)(hp:Bv t x = -2):Ep t (x:Int)=[]:=by
 rw[pathD_nil]
 cases hl:t.length with
 | zero=>rfl
 | succ k=>
  unfold upD;rw[if_pos ⟨by omega,by rw[h.len];omega⟩,Ap,show t.getD x 0=Bv t x from rfl,hp]
  cases k with
  | zero=>rfl
  | succ k =>   rfl
theorem DomTree.right(h:DomTree S r n P t)(o:Ordered S r n P):M6 t=true:=by
 unfold M6;rw[A1]
 constructor
 ·refine all_range.2 λx hx=>?_;rw[h.len]at hx;unfold pe
  by_cases hp:Bv t x = -2
  ·rw[show t.getD x 0=Bv t x from rfl,hp];rfl
  ·rw[Da (h.path o hx hp).1];simp
 ·apply F9
  have key:∀ k,k<=n->topsK t k=if r<k then 1 else 0:=by
   intro k
   induction k with
   | zero=>intro _;rfl
   | succ k ih=>
    intro hk;rw[GU]
    have hr:t.getD k 0 = -1↔k=r:=by
     constructor
     ·intro he;rcases h.inv.kind k (by omega) with h1|h1|⟨z,hz⟩
      ·rw[show t.getD k 0=Bv t k from rfl]at he;omega
      ·exact h1
      ·rw[show t.getD k 0=Bv t k from rfl]at he;omega
     ·rintro rfl;exact h.inv.top
    by_cases hkr:k=r
    ·grind
    ·grind
  rw[h.len,key n (zzL8 _),if_pos o.hr]
theorem DomTree.meet(h:DomTree S r n P t)(o:Ordered S r n P){a b:Nat}(ha:a<n)(hb:b<n)(hpa:Bv t a≠-2)(hpb:Bv t b≠-2):∃ m:Nat,Ru t (a:Int) (b:Int)=(m:Int)/\MeetAt (Bv t) a b m/\m<n/\Bv t m≠-2:=by
 have rd:Ready S r n P t _:=⟨h.inv,h.len,λx hx=>by rw[GX]at hx;exact h.full x (o.lt hx) ((o.mem x).1 hx)⟩;obtain⟨c,hc1,hc2,hc3⟩:=h.inv.meets (rd.inj o) dw _ a b (zzL8 _) ha hb hpa hpb;refine⟨c,?_,hc1,hc2,hc3⟩;unfold Ru;rw[if_pos (h.right o)];obtain⟨hca,hcb⟩:=(hc1 c).1 (.refl _)
 have hin:∀ z:Nat,(Ep t _).contains z=true↔UpTo (Bv t) b z:=λz=>by
  rw[zzL65,(h.path o hb hpb).2.1]
  constructor
  ·grind
  ·grind
 rcases(h.path o ha hpa).2.2 λx=>(Ep t b).contains x with⟨_,h2⟩|⟨f,h1,h2,h3,h4⟩
 ·grind
 ·rw[h1];have hfc:=h4 c hca ((hin c).2 hcb);have hcf:=(hc1 f).2 ⟨h2,(hin f).1 h3⟩;rw[h.inv.antisymm hcf hfc hc2 hc3]
  rfl
theorem DomTree.meet_none(h:DomTree S r n P t)(o:Ordered S r n P){a b:Nat}(ha:a<n)(hb:b<n)(hp:Bv t a = -2\/Bv t b = -2):Ru t (a:Int) (b:Int) = -2:=by
 unfold Ru;rw[if_pos (h.right o)];rcases hp with hp|hp
 ·rw[h.nopath ha hp];rfl
 ·rw[h.nopath hb hp]
  have:(Ep t a).find? (λx=>[].contains x)=none:=List.find?_eq_none.2 λx _=>by simp
  rw[this];rfl
theorem DomTree.over(h:DomTree S r n P t)(o:Ordered S r n P){a b:Nat}(ha:a<n)(hb:b<n):MZ t (a:Int) (b:Int)=true↔Bv t b≠-2/\UpTo (Bv t) b a:=by
 unfold MZ;rw[A1,zzL47,zzL86]
 by_cases hpa:Bv t a = -2
 ·rw[h.meet_none o ha hb (.inl hpa)]
  constructor
  ·omega
  ·rintro⟨h1,h2⟩;exact absurd hpa (h.inv.anc h2 hb h1).2.1
 ·by_cases hpb:Bv t b = -2
  ·rw[h.meet_none o ha hb (.inr hpb)]
   constructor
   ·omega
   ·grind
  ·obtain⟨m,hm1,hm2,hm3,hm4⟩:=h.meet o ha hb hpa hpb;rw[hm1]
   constructor
   ·rintro⟨h1,_⟩;have h1:=LN h1;subst h1;exact⟨hpb,((hm2 _).1 (.refl _)).2⟩
   ·rintro⟨_,h2⟩;have:=(hm2 a).2 ⟨.refl _,h2⟩;have h3:=((hm2 m).1 (.refl _)).1;rw[h.inv.antisymm h3 this ha hpa];exact⟨rfl,by omega⟩
theorem DomTree.over_dom(h:DomTree S r n P t)(o:Ordered S r n P){a b:Nat}(ha:a<n)(hb:b<n):MZ t (a:Int) (b:Int)=true↔Rc S r b/\¬ Av S r a b:=by
 rw[h.over o ha hb]
 constructor
 ·rintro⟨h1,h2⟩;exact⟨h.inv.rc b hb h1,(h.exact_ b hb h1 a).1 h2⟩
 ·rintro⟨h1,h2⟩;have:=h.full b hb h1;exact⟨this,(h.exact_ b hb this a).2 h2⟩
end
section
variable {L:List (List Int)} (hm:N1 L=true) {r:Nat} (hr:r<L.length)
include hm hr
theorem mV:∃ P,Ord (sN L) r (r::P)/\Ordered (sN L) r L.length P/\DomTree (sN L) r L.length P (CO L r):=by
 obtain⟨O,hO⟩:=Ord.exist (Zd hm) hr;obtain⟨P,rfl,o⟩:=hO.ordered hr (Zd hm);obtain⟨J,_,hJ⟩:=vj o;have hd:=NG o hJ;refine⟨P,hO,o,?_⟩;rw[<- hd.eq hm hr o];exact hd
end
theorem KK{X:Type}(n:Nat)(p:Nat->Bool)(f:Int->Option (LR Int X))(yes no:X)(hn:∀ i:Nat,i<n->p i=true->f (i:Int)=some (.next ((i:Int)+1)))
  (hf:∀ i:Nat,i<n->p i=false->f (i:Int)=some (.done no)) (he:f (n:Int)=some (.done yes)):Ad f (0:Int)=some (bif (List.range n).all p then yes else no):=by
 have hg:∀ i,i<(List.range n).length->(List.range n).getD i 0=i:=λi hi=>by grind
 have:=G6 (List.range n) 0 p f yes no (λi hi hp=>by grind) (λi hi hp=>by grind) (by simpa using he) n 0 (by simp);rw[show(0:Int)=(0:Nat) from rfl,this,L1]
theorem wq{n:Nat}{p:Nat->Bool}(h:(List.range n).all p=true):∀ i,i<n->p i=true:=λi hi=>zzL29.1 h i (by simpa using hi)
def Sn(L:List (List Int)):List Bool:=IX (sN L) L.length ((List.replicate L.length false).set 0 true) L.length
def Jw(l:List Int)(p:Bh):Bool:=decide (p.From=l)&&((p.Args.length:Int)==(l.length:Int))
def Mb(L:List (List Int))(b:Ab)(i:Nat):Bool:=(Sn L).getD i false&&!((b.End.Kind==1 || b.End.Kind==3)&&(b.End.Arg !=0))&&b.Phis.all (Jw ((Cd L).getD i []))
def Fk(f:TFunc):Bool:=O2 f&&(List.range f.Blocks.length).all λi=>Mb (Bm f) (f.Blocks.getD i default) i
theorem Pe(f:TFunc):(Bm f).length=f.Blocks.length:=by simp[Bm]
theorem d7(L:List (List Int)):(Sn L).length=L.length:=by rw[Sn,Yn];simp
theorem tD{a b c d:Bool}{x:Option (LR Int (Unit ⊕ Bool))}:(bif (bif (!a) then true else(bif (bif b then true else c) then d else false)) then some (LR.done (Sum.inr false)) else x)=bif (a&&!((b || c)&&d)) then x else some (LR.done (Sum.inr false)):=by
 grind
theorem uF {f : TFunc} (hf : OkF f) : J8 f = some (Fk f) := by
  have hmax : f.Blocks.length ≤ maxLen := by have := hf.blocks; have : (64 : Nat) ≤ maxLen := by decide
                                             omega
  unfold J8 Fk; rw [QZ f hmax, Aj]
  cases hs : O2 f with
  | false => rfl
  | true =>
    have hm := Rl hs; have hlen := Pe f; obtain ⟨h1, h2⟩ := Ua hm
    have hpos : 0 < (Bm f).length := by have := (shape_iff.1 hs).1.1; omega
    simp only [Af, Hi]; have hr := uC hm hpos; rw [show (((0 : Nat) : Int)) = 0 from rfl] at hr; rw [hr, Aj]
    show ((Ad (E7 f (J0 (Bm f), 0) (Sn (Bm f))) 0).bind _) = _
    have hphi : ∀ i, i < f.Blocks.length → Ad _ (0 : Int) = some _ := fun i hi => by
      have hmem := Ai (d := (default : Ab)) hi; have hB := hf.block _ hmem
      have hpl : (J0 (Bm f)).Pred.length = f.Blocks.length := by rw [← hlen]; exact Py _
      have hpi : As (i : Int) (J0 (Bm f)).Pred.length := Ag (by omega)
      have key : ∀ j, j < (f.Blocks.getD i default).Phis.length → E6 f (J0 (Bm f), 0) (i : Int) (j : Int) = some (bif Jw ((Cd (Bm f)).getD i []) _ then .next ((j : Int) + 1) else .done (.inr false)) := fun j hj => by
        have hp := RO hf hmem (Ai (d := (default : Bh)) hj); unfold E6
        have hd : decide ((j : Int) < ((f.Blocks.getD i default).Phis.length : Int)) = true := by simpa using hj
        have hi1 := ge ((f.Blocks.getD i default).Phis.getD j default).From ((J0 (Bm f)).Pred.getD i []) (by omega); simp only [Cp, hd, Af, Aa (Ag hj), Aa hpi, hi1, Aj]; rw [Aa (fun _ => Ag hj), Aa (fun _ => hpi), A0 hj (by have := hB.phis; omega)]; unfold Jw
        show (bif (bif (!decide (((f.Blocks.getD i default).Phis.getD j default).From = (Cd (Bm f)).getD i [])) then true else ((((f.Blocks.getD i default).Phis.getD j default).Args.length : Int) != (((Cd (Bm f)).getD i []).length : Int))) then _ else _) = _
        cases decide (((f.Blocks.getD i default).Phis.getD j default).From = (Cd (Bm f)).getD i []) with
        | false => rfl
        | true =>
          grind
      have := G6 (f.Blocks.getD i default).Phis (default : Bh) (Jw ((Cd (Bm f)).getD i [])) (E6 f (J0 (Bm f), 0) (i : Int)) (.inl ()) (.inr false) (fun j hj hp => by rw [key j hj, hp]; rfl) (fun j hj hp => by rw [key j hj, hp]; rfl) (by unfold E6; simp) (f.Blocks.getD i default).Phis.length 0 (by omega); rw [L1] at this; exact this
    have hrl := d7 (Bm f)
    have key : ∀ i, i < f.Blocks.length → E7 f (J0 (Bm f), 0) (Sn (Bm f)) (i : Int) = some (bif Mb (Bm f) (f.Blocks.getD i default) i then .next ((i : Int) + 1) else .done (.inr false)) := fun i hi => by
      unfold E7
      have hd : decide ((i : Int) < (f.Blocks.length : Int)) = true := by simpa using hi
      simp only [hd, Af, Aa (Ag hi), Aa (Ag (show i < (Sn (Bm f)).length by omega)), Cp, tD, hphi i hi, Aj, A0 hi (by have := hf.blocks; omega)]; unfold Mb
      cases ((Sn (Bm f)).getD i false && !(((f.Blocks.getD i default).End.Kind == 1 || (f.Blocks.getD i default).End.Kind == 3) && ((f.Blocks.getD i default).End.Arg != 0))) with
      | false => rfl
      | true => grind
    rw [KK f.Blocks.length (fun i => Mb (Bm f) (f.Blocks.getD i default) i) _ (.inl ()) (.inr false) (fun i hi hp => by rw [key i hi, hp]; rfl) (fun i hi hp => by rw [key i hi, hp]; rfl) (by unfold E7; simp)]
    cases (List.range f.Blocks.length).all _ <;> rfl
theorem YL{f:TFunc}(h:Fk f=true):j8 f:=λb hb p hp=>by
 simp only[Fk,A1]at h;obtain⟨i,hi,rfl⟩:=N9 hb;have h1:=wq h.2 i hi;rw[Am _ _ _ hi]at h1;simp only[Mb,A1]at h1;have h2:=zzL29.1 h1.2 p hp;simp only[Jw,A1,Ds,zzL47]at h2;rw[h2.1];omega
def Uo(l:List Ce)(i:Nat):Bool:=valS (l.getD i default).V&&(Ns l (l.getD i default).V==(i:Int))
def Oh(l:List Ce)(u:Db):Bool:=!decide (Ns l u.V<0)
def defOf(l:List Ce)(v:Int):Ce:=l.getD (Ns l v).toNat default
def FD(l:List Ce)(u:Db):Bool:=((defOf l u.V).Shape.1==u.Shape.1)&&(((defOf l u.V).Shape.2==u.Shape.2)&&true)
def FC(l:List Ce)(t:List Int)(u:Db):Bool:=
 (decide ((defOf l u.V).Block<0) || ((defOf l u.V).Block==u.Block&&decide ((defOf l u.V).At<u.At))) || (!((defOf l u.V).Block==u.Block)&&!(Ru t (defOf l u.V).Block u.Block !=(defOf l u.V).Block))
def Er(f:TFunc):List Int:=ST (J0 (Bm f)) 0
def SY(f:TFunc)(l:Int):Int:=
 bif !Fk f then 5 else bif !U2 f l then 6 else bif !(List.range (Bi f).length).all (Uo (Bi f)) then 7 else bif !(B7 f).all (Oh (Bi f)) then 7 else
 bif !(B7 f).all (FD (Bi f)) then 6 else bif !(B7 f).all (FC (Bi f) (Er f)) then 7 else 0
def Gc(f:TFunc)(l:Int):Int:=bif decide (l<0) || decide (2<l) then 1 else bif !Qd f then 4 else SY f l
theorem cy{l:List Ce}{v:Int}(h:¬ Ns l v<0):As (Ns l v) l.length:=by
 unfold Ns at h ⊢
 cases hx:l.findIdx? _ with
 | none=>grind
 | some i=>
  obtain⟨hi,_⟩:=List.findIdx?_eq_some_iff_getElem.1 hx;exact Ag hi
theorem eQ{f:TFunc}(h:O2 f=true):(Er f).length<=1000:=by
 have h1:=(Ua (Rl h)).1;unfold Er ST
 split
 ·rw[YO];show(Bm f).length<=1000;omega
 ·simp
theorem te(a b c:Bool)(m q x:Int):(Option.bind (α:=Unit ⊕ Int) (bif (bif a then true else(bif b then c else false)) then some (.inl ()) else((bif (b==false) then some m else some 0).bind λx31=>(bif (bif b then true else(x31 !=q)) then some (.inr 7) else some (.inl ())))) (λx32=>match x32 with | .inl _=>some (LR.next x) | .inr r34=>some (.done (.inr r34)))) =
  (some (bif (a || (b&&c)) || (!b&&!(m !=q)) then .next x else .done (.inr 7)):Option (LR Int (Unit ⊕ Int))):=by
 grind
theorem uH {f : TFunc} (hf : OkF f) (l : Int) (hm : Gs f = some (Qd f)) : Cz f l = some (Gc f l) := by
  unfold Cz Gc; rw [show (bif decide (l < (0 : Int)) then true else decide ((2 : Int) < l)) = (decide (l < 0) || decide (2 < l)) by cases decide (l < (0 : Int)) <;> rfl]
  cases (decide (l < 0) || decide (2 < l)) with
  | true => rfl
  | false =>
  simp only [Aq, hm, Aj]
  cases Qd f with
  | false => rfl
  | true =>
  simp only [Dj, Aq, uF hf, Aj, SY]
  cases hs : Fk f with
  | false => rfl
  | true =>
  simp only [Dj, Aq, uG hf, Aj]
  cases ht : U2 f l with
  | false => rfl
  | true =>
  simp only [Dj, Aq, xL hf, Aj]; have hdl := lV hf; have hul := LH hf
  have hL1 : Ad (S := Int) (X := (Unit ⊕ Int)) (E5 (Bi f)) (0 : Int) = some (bif (List.range (Bi f).length).all (Uo (Bi f)) then .inl () else .inr 7) := by
    have key : ∀ i, i < (Bi f).length → E5 (Bi f) (i : Int) = some (bif Uo (Bi f) i then .next ((i : Int) + 1) else .done (.inr 7)) := fun i hi => by
      unfold E5 Uo
      have hd : decide ((i : Int) < ((Bi f).length : Int)) = true := by simpa using hi
      simp only [hd, Af, Aa (Ag hi), Cp, EE, Aj, Aa (fun _ => Ag hi), ak (Bi f) _ (by omega), A0 hi (by omega)]
      cases valS ((Bi f).getD i default).V with
      | false => rfl
      | true =>
        grind
    exact KK _ _ _ _ _ (fun i hi hp => by rw [key i hi, hp]; rfl) (fun i hi hp => by rw [key i hi, hp]; rfl) (by unfold E5; simp)
  rw [hL1, Aj]
  cases (List.range (Bi f).length).all (Uo (Bi f)) with
  | false => rfl
  | true =>
  simp only [Af, Dj, Aq, xP hf (YL hs), Aj]
  have hL2 : Ad (S := Int) (X := (Unit ⊕ Int)) (Do (Bi f) (B7 f)) (0 : Int) = some (bif (B7 f).all (Oh (Bi f)) then .inl () else .inr 7) := by
    have key : ∀ i, i < (B7 f).length → Do (Bi f) (B7 f) (i : Int) = some (bif Oh (Bi f) ((B7 f).getD i default) then .next ((i : Int) + 1) else .done (.inr 7)) := fun i hi => by
      unfold Do Oh
      have hd : decide ((i : Int) < ((B7 f).length : Int)) = true := by simpa using hi
      simp only [hd, Af, Aa (Ag hi), Cp, ak (Bi f) _ (by omega), Aj, A0 hi (by omega)]
      cases decide (Ns (Bi f) ((B7 f).getD i default).V < 0) <;> rfl
    have := G6 (B7 f) default (Oh (Bi f)) (Do (Bi f) (B7 f)) (.inl ()) (.inr 7) (fun i hi hp => by rw [key i hi, hp]; rfl) (fun i hi hp => by rw [key i hi, hp]; rfl) (by unfold Do; simp) (B7 f).length 0 (by omega); rw [L1] at this; exact this
  rw [hL2, Aj]
  cases hF : (B7 f).all (Oh (Bi f)) with
  | false => rfl
  | true =>
  have hfound : ∀ i, i < (B7 f).length → As (Ns (Bi f) ((B7 f).getD i default).V) (Bi f).length := fun i hi => by
    have := zzL29.1 hF _ (Ai (d := (default : Db)) hi); simp only [Oh, Rn, TF] at this; exact cy this
  simp only [Af, Dj, Aq]
  have hL3 : Ad (S := Int) (X := (Unit ⊕ Int)) (Dp (Bi f) (B7 f)) (0 : Int) = some (bif (B7 f).all (FD (Bi f)) then .inl () else .inr 6) := by
    have key : ∀ i, i < (B7 f).length → Dp (Bi f) (B7 f) (i : Int) = some (bif FD (Bi f) ((B7 f).getD i default) then .next ((i : Int) + 1) else .done (.inr 6)) := fun i hi => by
      unfold Dp FD defOf
      have hd : decide ((i : Int) < ((B7 f).length : Int)) = true := by simpa using hi
      simp only [hd, Af, Aa (Ag hi), Cp, ak (Bi f) _ (by omega), Aj, Aa (hfound i hi), A0 hi (by omega)]
      cases ((((Bi f).getD (Ns (Bi f) ((B7 f).getD i default).V).toNat default).Shape.1 == ((B7 f).getD i default).Shape.1) && ((((Bi f).getD (Ns (Bi f) ((B7 f).getD i default).V).toNat default).Shape.2 == ((B7 f).getD i default).Shape.2) && true)) <;> rfl
    have := G6 (B7 f) default (FD (Bi f)) (Dp (Bi f) (B7 f)) (.inl ()) (.inr 6) (fun i hi hp => by rw [key i hi, hp]; rfl) (fun i hi hp => by rw [key i hi, hp]; rfl) (by unfold Dp; simp) (B7 f).length 0 (by omega); rw [L1] at this; exact this
  rw [hL3, Aj]
  cases (B7 f).all (FD (Bi f)) with
  | false => rfl
  | true =>
  have hsB : O2 f = true := by simp only [Fk, A1] at hs; exact hs.1
  have hmax : f.Blocks.length ≤ maxLen := by have := hf.blocks; have : (64 : Nat) ≤ maxLen := by decide
                                             omega
  simp only [Af, Dj, Aq, QZ f hmax, hsB, Aj]; rw [gh _ (HX (Rl hsB)).1 0, Aj]; have htl := eQ hsB
  have hL4 : Ad (S := Int) (X := (Unit ⊕ Int)) (Cu (Bi f) (B7 f) (Er f)) (0 : Int) = some (bif (B7 f).all (FC (Bi f) (Er f)) then .inl () else .inr 7) := by
    have key : ∀ i, i < (B7 f).length → Cu (Bi f) (B7 f) (Er f) (i : Int) = some (bif FC (Bi f) (Er f) ((B7 f).getD i default) then .next ((i : Int) + 1) else .done (.inr 7)) := fun i hi => by
      unfold Cu FC defOf
      have hd : decide ((i : Int) < ((B7 f).length : Int)) = true := by simpa using hi
      simp only [hd, Af, Aa (Ag hi), Cp, ak (Bi f) _ (by omega), Aj, Aa (hfound i hi), A0 hi (by omega), xN (Er f) htl]; exact te _ _ _ _ _ _
    have := G6 (B7 f) default (FC (Bi f) (Er f)) (Cu (Bi f) (B7 f) (Er f)) (.inl ()) (.inr 7) (fun i hi hp => by rw [key i hi, hp]; rfl) (fun i hi hp => by rw [key i hi, hp]; rfl) (by unfold Cu; simp) (B7 f).length 0 (by omega); rw [L1] at this; exact this
  show ((Ad (Cu (Bi f) (B7 f) (Er f)) 0).bind _) = _
  rw [hL4, Aj]
  cases (B7 f).all (FC (Bi f) (Er f)) <;> rfl
theorem XQ{α S:Type}(l:List α)(d:α)(g:S->α->S)(f:S×Int->Option (LR (S×Int) S))(hn:∀(s:S) (i:Nat),i<l.length->f (s,(i:Int))=some (.next (g s (l.getD i d),(i:Int)+1)))
  (hd:∀ s:S,f (s,(l.length:Int))=some (.done s)):∀(k i:Nat) (s:S),i+k=l.length->Ad f (s,(i:Int))=some ((l.drop i).foldl g s)
 | 0,i,s,h=>by
  obtain rfl:i=l.length:=by omega
  rw[Ak (hd s)]
  simp
 | k+1,i,s,h=>by
  have hi:i<l.length:=by omega
  have hdr:l.drop i=l.getD i d::l.drop (i+1):=by rw[ee hi,Am _ _ _ hi]
  rw[Ar (hn s i hi),show((i:Int)+1)=((i+1:Nat):Int) by omega,XQ l d g f hn hd k (i+1) _ (by omega),hdr,Zf]
theorem R8{α S:Type}(l:List α)(d:α)(g:S->α->S)(f:S×Int->Option (LR (S×Int) S))(hn:∀(s:S) (i:Nat),i<l.length->f (s,(i:Int))=some (.next (g s (l.getD i d),(i:Int)+1)))
  (hd:∀ s:S,f (s,(l.length:Int))=some (.done s)) (s:S):Ad f (s,(0:Int))=some (l.foldl g s):=by
 have:=XQ l d g f hn hd l.length 0 s (by omega);rw[L1]at this;exact this
def grow(n d:Int):Int:=bif decide (n<d) then d else n
def Nb(f:TFunc):Int:=f.Blocks.foldl (λn b=>b.Ops.foldl (λn o=>grow n o.Dst) (b.Phis.foldl (λn p=>grow n p.Dst) n)) (f.Params.length:Int)
theorem LI{i n:Nat}(h:i<n)(hn:n<=maxLen):w64 ((i:Int)+1)=(i:Int)+1:=A0 h (by rw[T9]at hn;omega)
theorem xM{f:TFunc}(hf:US f):K4 f=some (Nb f):=by
 have h1:∀(i:Nat),i<f.Blocks.length->∀ n:Int,Ad (Iq f (i:Int)) (n,(0:Int))=some ((f.Blocks.getD i default).Phis.foldl (λn p=>grow n p.Dst) n):=λi hi n=>by
  have hB:=hf.block _ (Ai (d:=(default:Ab)) hi);refine R8 (f.Blocks.getD i default).Phis (default:Bh) _ _ (λs j hj=>?_) (λs=>?_) n
  ·unfold Iq grow
   have hd:decide ((j:Int)<((f.Blocks.getD i default).Phis.length:Int))=true:=by simpa using hj
   simp only[Aa (Ag hi),Cp,hd,Af,Aa (Ag hj),LI hj hB.1]
   cases decide (s<((f.Blocks.getD i default).Phis.getD j default).Dst)<;>rfl
  ·unfold Iq;simp[Aa (Ag hi)]
 have h2:∀(i:Nat),i<f.Blocks.length->∀ n:Int,Ad (Ir f (i:Int)) (n,(0:Int))=some ((f.Blocks.getD i default).Ops.foldl (λn p=>grow n p.Dst) n):=λi hi n=>by
  have hB:=hf.block _ (Ai (d:=(default:Ab)) hi);refine R8 (f.Blocks.getD i default).Ops (default:A2) _ _ (λs j hj=>?_) (λs=>?_) n
  ·unfold Ir grow
   have hd:decide ((j:Int)<((f.Blocks.getD i default).Ops.length:Int))=true:=by simpa using hj
   simp only[Aa (Ag hi),Cp,hd,Af,Aa (Ag hj),LI hj hB.2.1]
   cases decide (s<((f.Blocks.getD i default).Ops.getD j default).Dst)<;>rfl
  ·unfold Ir;simp[Aa (Ag hi)]
 unfold K4 Nb
 rw[R8 f.Blocks (default:Ab) (λn b=>b.Ops.foldl (λn o=>grow n o.Dst) (b.Phis.foldl (λn p=>grow n p.Dst) n)) (It f) (λs i hi=>by
  unfold It
  have hd:decide ((i:Int)<(f.Blocks.length:Int))=true:=by simpa using hi
  simp only[hd,Af,h1 i hi,h2 i hi,Aj,LI hi hf.blocks]) (λs=>by unfold It;simp)]
 rfl
def Sm(f:TFunc):Prop:=US f/\Cx f=some true
theorem kH{f:TFunc}(h:Sm f)(hm:Qd f=true):OkF f:=by
 obtain⟨sm,h1,h2⟩:=NF f h.1;rw[h.2]at h1;exact(h2 (OI h1).symm hm).1
theorem lp{f:TFunc}(hf:US f):∃ b,E1 f=some b/\(b=true->Sm f):=by
 obtain⟨x,hx⟩:∃ x,Ad (B0 f) ((0:Int),(0:Int))=some x:=by
  refine Ug f.Blocks.length (B0 f) (λn i hi=>.inl ?_) (λn=>?_) f.Blocks.length 0 0 (by omega)
  ·unfold B0
   have hd:decide ((i:Int)<(f.Blocks.length:Int))=true:=by simpa using hi
   simp only[hd,Af,Aa (Ag hi),La hi hf.blocks];exact⟨_,rfl⟩
  ·unfold B0;exact⟨n,by simp⟩
 obtain⟨sm,h1⟩:=SP f hf;unfold E1;rw[hx,Aj,h1,Aj];refine⟨_,rfl,λhb=>⟨hf,?_⟩⟩
 cases sm with
 | true=>exact h1
 | false=>cases hb
theorem BN{f:TFunc}(h:Sm f)(l:Int):Cz f l=some (Gc f l):=by
 have hm:=kC f h.1
 cases hb:Qd f with
 | true=>exact uH (kH h hb) l hm
 | false=>
  unfold Cz Gc;rw[show(bif decide (l<(0:Int)) then true else decide ((2:Int)<l))=(decide (l<0) || decide (2<l)) by cases decide (l<(0:Int))<;>rfl]
  cases(decide (l<0) || decide (2<l)) with
  | true=>rfl
  | false=>simp only[Aq,hm,hb,Aj,L0,Af]
structure zK(f:TFunc)(s:List (Int×(Int×Int))):Prop where
 none:Gc f 2≠0->s.length=0
 len:Gc f 2=0->s.length=(Bi f).length
 get:Gc f 2=0->∀ d∈Bi f,Mh ((0:Int),(0:Int)) s d.V=d.Shape
 has:Gc f 2=0->∀ v,Kg s v=true->∃ d∈Bi f,d.V=v
theorem Aao{f:TFunc}(hf:US f)(h0:f.Params.length<=64)(hb:∀ b∈f.Blocks,b.End.To.length<=64/\(∀ p∈b.Phis,p.From.length<=64/\p.Args.length<=64)/\∀ o∈b.Ops,o.Args.length<=64)(he:f8 f<=20000):Sm f:=
 ⟨hf,by rw[eM f hf h0 hb,F9 he]⟩
def vi(f:TFunc):Int:=
 bif !(List.range (Bi f).length).all (Uo (Bi f)) then 7 else bif !(B7 f).all (Oh (Bi f)) then 7 else
 bif !(B7 f).all (FD (Bi f)) then 6 else bif !(B7 f).all (FC (Bi f) (Er f)) then 7 else 0
theorem Pu{f:TFunc}{l:Int}(h0:0<=l)(h2:l<=2):Gc f l=0↔Qd f=true/\Fk f=true/\U2 f l=true/\vi f=0:=by
 unfold Gc SY;rw[Da (show ¬ l<0 by omega),Da (show ¬ 2<l by omega)]
 have e:(bif !(List.range _).all _ then 7 else bif !(B7 f).all _ then 7 else
  bif !(B7 f).all _ then 6 else bif !(B7 f).all _ then 7 else 0)=vi f:=rfl
 rw[e]
 cases Qd f<;>cases Fk f<;>cases U2 f l<;>simp
theorem pC{o:A2}(h:Ju o=true):1<=o.Lanes:=by
 simp only[Ju,A1]at h;have:=shape_lanes h.1.1;omega
theorem dn{l m:Int}(hm:ID l=m)(o:A2):Rh l o=true↔Ju o=true/\o.Kind<=m/\(l<2->o.Lanes<=1):=by
 unfold Rh
 by_cases a:m<o.Kind<;>by_cases b:l<2<;>by_cases c:1<o.Lanes<;>cases Ju o<;>simp[ b]<;>omega
theorem uu{α:Type}(l:List α)(g:α->Nat):(l.map λa=>g a+1).sum=l.length+(l.map g).sum:=by
 induction l with
 | nil=>rfl
 | cons a l ih=>grind
theorem qX(a b:Int):w64 (a+w64 b)=w64 (a+b):=by rw[Int.add_comm,Vz,Int.add_comm]
theorem Aar(f:TFunc)(hf:US f):Vq f=some (sizeW f):=by
 have hl:=DY f.Blocks default (λb=>b.Phis.length+b.Ops.length) id (Qq f) (λn i hi=>?_) (λn=>?_) _ 0 f.Blocks.length (Hq _)
 ·unfold Vq;rw[JG (by have:=hf.blocks;rw[T9]at this;omega),show((0:Nat):Int)=0 from rfl]at hl;rw[hl,  sizeW,Ry,show Uz=(λb=>(b.Phis.length+b.Ops.length)+1) from rfl,uu]
  rfl
 ·have e1:decide (i<(f.Blocks.length:Int))=true:=F9 (by omega);unfold Qq;simp only[e1,Af,Aa (Ag hi),Cp,La hi hf.blocks,qX,Vz];rw[show n+((f.Blocks.getD i default).Phis.length+(f.Blocks.getD i default).Ops.length)=((n+((f.Blocks.getD i default).Phis.length+(f.Blocks.getD i default).Ops.length):Nat):Int) by omega]
 ·have e1:decide (f.Blocks.length<(f.Blocks.length:Int))=false:=by simp
  unfold Qq;simp only[e1,Aq,id]
theorem HP{α:Type}(l:List α)(d:α)(p:α->Bool)(f:Int->Option (LR Int (Unit ⊕ Bool)))(hn:∀ i:Nat,i<l.length->f i=bif p (l.getD i d) then some (.next ((i:Int)+1)) else some (.done (.inr false)))
  (he:f l.length=some (.done (.inl ()))):Ad f 0=some (bif l.all p then .inl () else .inr false):=by
 have:=G6 l d p f _ _ (λi hi hp=>by rw[hn i hi,hp];rfl) (λi hi hp=>by rw[hn i hi,hp];rfl) he _ 0 (Hq _)
 simpa using this
theorem mA(x:Int):(bif decide (x<0) then true else decide (2147483647<x)) = !numB x:=by
 unfold numB
 by_cases h1:x<0
 ·grind
 ·grind
theorem YR(l:List Int)(h:l.length<=maxLen):Dt l=some (l.all numB):=by
 have hl:=HP l 0 numB (Kq l) (λi hi=>?_) ?_
 ·unfold Dt;rw[hl]
  cases l.all _<;>rfl
 ·have e1:decide ((i:Int)<l.length)=true:=F9 (by omega);unfold Kq;simp only[e1, Aa (Ag hi),Cp,mA,La hi h]
  cases numB _<;>simp
 ·unfold Kq
  simp
theorem EL(l:List Int)(h:l.length<=maxLen):Iy l=some (listB l):=by
 unfold Iy;rw[YR l h]
 by_cases h1:l.length<=64
 ·have e1:decide ((l.length:Int)<=64)=true:=F9 (by omega);rw[e1];simp[listB,h1]
 ·have e1:decide ((l.length:Int)<=64)=false:=Da (by omega);rw[e1];simp[listB,h1]
theorem EH{l:List Int}(h:l.length<=10):l.length<=maxLen:=by rw[T9];omega
theorem qg(p:Bh)(h1:p.From.length<=maxLen)(h2:p.Args.length<=maxLen):Qs p=some (AJ p):=by
 unfold Qs AJ;rw[YR _ (EH (by simp)),EL _ h1,EL _ h2];simp only[FP,List.all_nil,TE]
 cases numB p.Bits<;>cases numB p.Dst<;>cases listB p.From<;>cases listB p.Args<;>rfl
theorem u4(o:A2)(h1:o.Args.length<=maxLen):Sl o=some (bH o):=by
 unfold Sl bH;rw[YR _ (EH (by simp)),EL _ h1];simp only[FP,List.all_nil,TE]
 cases numB o.Kind<;>cases numB o.Bits<;>cases numB o.Lanes<;>cases numB o.Dst<;>cases listB o.Args<;>rfl
theorem qe(e:Jo)(h1:e.To.length<=maxLen):Qr e=some (VJ e):=by
 unfold Qr VJ;rw[YR _ (EH (by simp)),EL _ h1];simp only[FP,List.all_nil,TE]
 cases numB e.Kind<;>cases numB e.Arg<;>cases listB e.To<;>rfl
theorem RI{X:Type}(b:Bool)(x y:X):(bif !b then x else y)=bif b then y else x:=by cases b<;>rfl
theorem mZ(l:List Bh)(hl:l.length<=maxLen)(h:∀ p∈l,p.From.length<=maxLen/\p.Args.length<=maxLen):J5 l=some (l.all AJ):=by
 have hl':=HP l (default:Bh) AJ (Hs l) (λi hi=>?_) ?_
 ·unfold J5;rw[hl']
  cases l.all AJ<;>rfl
 ·have e1:decide ((i:Int)<(l.length:Int))=true:=F9 (by omega);have:=h _ (Ai (d:=(default:Bh)) hi);unfold Hs;simp only[e1,Af,Aa (Ag hi),Cp,qg _ this.1 this.2,Aj,RI,La hi hl,Int.natCast_add,Int.natCast_one]
 ·unfold Hs
  simp
theorem qf(l:List A2)(hl:l.length<=maxLen)(h:∀ o∈l,o.Args.length<=maxLen):Kp l=some (l.all bH):=by
 have hl':=HP l (default:A2) bH (Ih l) (λi hi=>?_) ?_
 ·unfold Kp;rw[hl']
  cases l.all bH<;>rfl
 ·have e1:decide ((i:Int)<(l.length:Int))=true:=F9 (by omega);have:=h _ (Ai (d:=(default:A2)) hi);unfold Ih;simp only[e1,Af,Aa (Ag hi),Cp,u4 _ this,Aj,RI,La hi hl,Int.natCast_add,Int.natCast_one]
 ·unfold Ih
  simp
theorem iI(b:Ab)(h1:b.Phis.length<=maxLen)(h2:b.Ops.length<=maxLen)(h3:b.End.To.length<=maxLen)(h4:∀ p∈b.Phis,p.From.length<=maxLen/\p.Args.length<=maxLen)(h5:∀ o∈b.Ops,o.Args.length<=maxLen):Oc b=some (blockB b):=by
 unfold Oc blockB;rw[mZ _ h1 h4,qf _ h2 h5,qe _ h3]
 cases b.Phis.all AJ<;>cases b.Ops.all bH<;>cases VJ b.End<;>rfl
theorem eX(f:TFunc)(hf:US f):Ig f.Blocks=some (f.Blocks.all blockB):=by
 have hl':=HP f.Blocks (default:Ab) blockB (Gg f.Blocks) (λi hi=>?_) ?_
 ·unfold Ig;rw[hl']
  cases f.Blocks.all blockB<;>rfl
 ·have e1:decide ((i:Int)<(f.Blocks.length:Int))=true:=F9 (by omega);have hm:=Ai (d:=(default:Ab)) hi;have q:=hf.block _ hm;unfold Gg;simp only[e1,Af,Aa (Ag hi),Cp,iI _ q.1 q.2.1 q.2.2 (hf.phi _ hm) (λo ho=>(hf.op _ hm o ho).1),Aj,RI,La hi hf.blocks,Int.natCast_add,Int.natCast_one]
 ·unfold Gg
  simp
theorem Aaq(f:TFunc)(hf:US f):Ui f=some (Qd f):=by
 unfold Ui Qd;rw[Aar f hf,YR _ hf.params,YR _ (EH (by simp)),eX f hf];simp only[FP,List.all_nil,TE,listB]
 have d1:∀ n:Nat,decide ((n:Int)<1) = !decide (1<=n):=λn=>by by_cases h:1<=n<;>simp[h]<;>omega
 have d2:∀ n:Nat,decide ((64:Int)<(n:Int)) = !decide (n<=64):=λn=>by by_cases h:n<=64<;>simp[h]<;>omega
 have d3:∀ n:Nat,decide ((16:Int)<(n:Int)) = !decide (n<=16):=λn=>by by_cases h:n<=16<;>simp[h]<;>omega
 have d4:∀ n:Int,decide ((512:Int)<n) = !decide (n<=512):=λn=>by by_cases h:n<=512<;>simp[h]<;>omega
 simp only[d1,d2,d3,d4]
 have himp:decide (f.Params.length<=16)=true->decide (f.Params.length<=64)=true:=λh=>by simp at h ⊢;omega
 revert himp
 generalize decide (1<=f.Blocks.length)=c1
 generalize decide (f.Blocks.length<=64)=c2
 generalize decide (f.Params.length<=16)=c3
 generalize decide (f.Params.length<=64)=c4
 generalize f.Params.all numB=c6
 generalize numB f.Ret=c7
 generalize f.Blocks.all blockB=c8
 cases c3 with
 | true=>
  intro h;obtain rfl:=h rfl;simp only[Dj,Va,Af,Aj,Aq]
  generalize decide (sizeW f<=512)=c5
  cases c1<;>cases c2<;>cases c6<;>cases c7<;>cases c8<;>cases c5<;>rfl
 | false=>
  intro _
  cases c1<;>cases c2<;>rfl
inductive Tp (t:List Int):Nat->Nat->Nat->Prop
 | top {x:Nat} (hx:x<t.length) (h:t.getD x 0 = -1):Tp t x x 0
 | up {x y r k:Nat} (hx:x<t.length) (h:t.getD x 0=(y:Int)) (hk:Tp t y r k):Tp t x r (k+1)
section
variable {t:List Int}
theorem Tp.lt{x r k:Nat}(h:Tp t x r k):x<t.length:=by cases h<;>assumption
theorem Tp.tops{x r k:Nat}(h:Tp t x r k):r<t.length/\t.getD r 0 = -1:=by
 induction h with
 | top hx h=>exact⟨hx,h⟩
 | up _ _ _ ih=>exact ih
theorem Tp.det{x r k r' k':Nat}(h:Tp t x r k)(h':Tp t x r' k'):r=r'/\k=k':=by
 induction h generalizing k' with
 | top hx h=>cases h' with
  | top=>exact⟨rfl,rfl⟩
  | up _ h2 _=>omega
 | up hx h1 _ ih=>cases h' with
  | top _ h2=>omega
  | up _ h2 k2=>
   grind
theorem Tp.upTo{x r k:Nat}(h:Tp t x r k):UpTo (Bv t) x r:=by
 induction h with
 | top=>exact .refl _
 | up _ h _ ih=>exact .up h ih
theorem Tp.on{x r k z:Nat}(h:Tp t x r k)(hz:UpTo (Bv t) x z):∃ j,j<=k/\Tp t z r j/\(j=k->z=x):=by
 induction hz generalizing k with
 | refl x=>grind
 | up hp _ ih=>
  cases h with
  | top _ h2=>have :=hp.symm.trans h2;omega
  | up _ h2 k2=>
   have :=hp.symm.trans h2
   cases LN this
   obtain⟨j,h1,h3,_⟩:=ih k2;exact⟨j,by omega,h3,λe=>by omega⟩
theorem Tp.anti{x r k z:Nat}(h:Tp t x r k)(h1:UpTo (Bv t) x z)(h2:UpTo (Bv t) z x):z=x:=by
 obtain⟨j,j1,j2,j3⟩:=h.on h1;obtain⟨i,i1,i2,i3⟩:=j2.on h2;have:=h.det i2;exact j3 (by omega)
theorem Tp.list{x r k:Nat}(h:Tp t x r k):∃ l:List Nat,l.length=k+1/\l.Nodup/\∀ y∈l,y<t.length/\∃ j,j<=k/\Tp t y r j:=by
 induction h with
 | top hx h=>exact⟨[_],rfl,by simp,λy hy=>by rw[zzL25.1 hy];exact⟨hx,0,zzL8 _,.top hx h⟩⟩
 | @up x y r k hx h hk ih=>
  obtain⟨l,h1,h2,h3⟩:=ih;refine⟨x::l,by simp[h1],zzL116.2 ⟨λhm=>?_,h2⟩,λz hz=>?_⟩
  ·obtain⟨_,j,hj,hj2⟩:=h3 _ hm;have:=(Tp.up hx h hk).det hj2;omega
  ·rcases zzL28.1 hz with rfl|hz
   ·exact⟨hx,k+1,zzL8 _,.up hx h hk⟩
   ·grind
theorem Tp.short{x r k:Nat}(h:Tp t x r k):k<t.length:=by
 obtain⟨l,h1,h2,h3⟩:=h.list;have:=Ub _ l h2 λy hy=>(h3 y hy).1;omega
theorem Tp.upD{x r k:Nat}(h:Tp t x r k):∀ m,k<m->∃ q,upD t m (x:Int)=some q/\(∀ w:Int,w∈q↔∃ z:Nat,w=(z:Int)/\UpTo (Bv t) x z) /\
  ∀ p:Int->Bool,(q.find? p=none/\∀ z:Nat,UpTo (Bv t) x z->p (z:Int)=false)\/∃ f:Nat,q.find? p=some (f:Int)/\UpTo (Bv t) x f/\p (f:Int)=true/\∀ z:Nat,UpTo (Bv t) x z->p (z:Int)=true->UpTo (Bv t) f z:=by
 induction h with
 | @top x hx h=>
  intro m hm;obtain⟨m,rfl⟩:∃ i,m=i+1:=⟨m-1,by omega⟩
  have htop:∀ z,UpTo (Bv t) x z↔z=x:=λz=>OV λp hp=>by have:_=_:=hp.symm.trans h;omega
  unfold Go.Proofs.YtlnbjgmjaioagaaGreat.upD;rw[if_pos ⟨by omega,by omega⟩,Ap,if_pos h];refine⟨_,rfl,λw=>?_,λp=>?_⟩
  ·grind
  ·grind
 | @up x y r k hx h hk ih=>
  intro m hm;obtain⟨m,rfl⟩:∃ i,m=i+1:=⟨m-1,by omega⟩;unfold Go.Proofs.YtlnbjgmjaioagaaGreat.upD;rw[if_pos ⟨by omega,by omega⟩,Ap,if_neg (by omega),h];obtain⟨q,hq1,hq2,hq3⟩:=ih m (by omega);rw[hq1];refine⟨(x:Int)::q,rfl,λw=>?_,λp=>?_⟩
  ·rw[zzL28,hq2 w]
   constructor
   ·rintro(rfl|⟨y,rfl,hy⟩)
    ·exact⟨x,rfl,.refl _⟩
    ·exact⟨y,rfl,.up h hy⟩
   ·rintro⟨y,rfl,hy⟩;rcases(anc_up h).1 hy with rfl|hy
    ·exact .inl rfl
    ·exact .inr ⟨y,rfl,hy⟩
  ·cases hpp:p (x:Int) with
   | true=>exact .inr ⟨x,by simp[List.find?,hpp],.refl _,hpp,λy hy _=>hy⟩
   | false=>
    have hf:((x:Int)::q).find? p=q.find? p:=by simp[List.find?,hpp]
    rw[hf];rcases hq3 p with⟨e1,e2⟩|⟨f,e1,e2,e3,e4⟩
    ·refine .inl ⟨e1,λy hy=>?_⟩;rcases(anc_up h).1 hy with rfl|hy
     ·exact hpp
     ·exact e2 y hy
    ·refine .inr ⟨f,e1,.up h e2,e3,λy hy hpy=>?_⟩;rcases(anc_up h).1 hy with rfl|hy
     ·rw[hpp]at hpy;cases hpy
     ·exact e4 y hy hpy
theorem xi:∀ m (a:Int) q,upD t m a=some q->∃ x r k:Nat,a=(x:Int)/\k<m/\Tp t x r k:=by
 intro m
 induction m with
 | zero=>intro a q h;cases h
 | succ m ih=>
  intro a q h;unfold Go.Proofs.YtlnbjgmjaioagaaGreat.upD at h
  by_cases ha:0<=a/\a<t.length
  ·rw[if_pos ha]at h;have e :=Lb ha.1
   by_cases h1:t.getD a.toNat 0 = -1
   ·exact⟨a.toNat,a.toNat,0,e.symm,by omega,.top (by omega) h1⟩
   ·rw[if_neg h1]at h
    cases hu:Go.Proofs.YtlnbjgmjaioagaaGreat.upD t m _ with
    | none=>rw[hu]at h;cases h
    | some q'=>
     obtain⟨y,r,k,e1,e2,e3⟩:=ih _ _ hu;exact⟨a.toNat,r,k+1,e.symm,by omega,.up (by omega) e1 e3⟩
  ·grind
theorem pathD_tp{a:Int}:Ep t a≠[]↔∃ x r k:Nat,a=(x:Int)/\Tp t x r k:=by
 constructor
 ·intro h
  cases hu:upD t _ a with
  | none=>exact absurd (pathD_nil.2 hu) h
  | some q=>obtain⟨x,r,k,e1,_,e2⟩:=xi _ _ _ hu;exact⟨x,r,k,e1,e2⟩
 ·rintro⟨x,r,k,rfl,h⟩ e;obtain⟨q,hq,_⟩:=h.upD _ h.short;rw[pathD_nil.1 e]at hq;cases hq
theorem Tp.path{x r k:Nat}(h:Tp t x r k):(∀ w:Int,w∈Ep t (x:Int)↔∃ z:Nat,w=(z:Int)/\UpTo (Bv t) x z) /\
  ∀ p:Int->Bool,((Ep t (x:Int)).find? p=none/\∀ z:Nat,UpTo (Bv t) x z->p (z:Int)=false)\/∃ f:Nat,(Ep t (x:Int)).find? p=some (f:Int)/\UpTo (Bv t) x f/\p (f:Int)=true/\∀ z:Nat,UpTo (Bv t) x z->p (z:Int)=true->UpTo (Bv t) f z:=by
 obtain⟨q,h1,h2,h3⟩:=h.upD _ h.short
 have e:Ep t x=q:=by unfold Ep;rw[h1];rfl
 rw[e];exact⟨h2,h3⟩
theorem BH{α:Type}{l:List α}{i j:Nat}{x d:α}(hi:i<l.length):(l.set i x).getD j d=if j=i then x else l.getD j d:=by
 grind
theorem uJ{x r k:Nat}(h:Tp t x r k):∀ l:List Bool,l.length=t.length->∃ l',Ad (Lg t) ((x:Int),l)=some l'/\l'.length=t.length/\∀ z,z<t.length->(l'.getD z false=true↔l.getD z false=true\/UpTo (Bv t) x z):=by
 induction h with
 | @top x hx h=>
  intro l hl
  have hs:Lg t (x,l)=some (.next (-1,l.set x true)):=by
   unfold Lg
   have hb:((x:Int)!=-1)=true:=by rw[zzL86];omega
   simp only[hb,Af,Ap,h];rw[Ac (Ff (by omega)),Ac (Ff hx)]
  have hd:Lg t (-1,l.set x true)=some (.done (l.set x true)):=by
   rfl
  refine⟨l.set x _,by rw[Ar hs,Ak hd],by simp[hl],λz hz=>?_⟩;rw[BH (by omega)]
  have htop:UpTo (Bv t) x z↔z=x:=OV λp hp=>by have :=hp.symm.trans h;omega
  rw[htop]
  by_cases e:z=x
  ·simp[e]
  ·simp[e]
 | @up x y r k hx h hk ih=>
  intro l hl
  have hs:Lg t (x,l)=some (.next (y,l.set x true)):=by
   unfold Lg
   have hb:(x !=(-1:Int))=true:=by rw[zzL86];omega
   simp only[hb,Af,Ap,h];rw[Ac (Ff (by omega)),Ac (Ff hx)]
  obtain⟨l',e1,e2,e3⟩:=ih (l.set x _) (by simp[hl]);refine⟨l',by rw[Ar hs,e1],e2,λz hz=>?_⟩;rw[e3 z hz,BH (by omega),anc_up (par:=Bv t) h]
  by_cases e:z=x
  ·simp[e]
  ·simp[e]
theorem uK{b r k:Nat}(h:Tp t b r k)(l:List Bool)(hl:l.length=t.length):l.getD r false=true->∃ c:Nat,Ad (Jj t l) (b:Int)=some (c:Int)/\UpTo (Bv t) b c/\l.getD c false=true/\∀ z,UpTo (Bv t) b z->l.getD z false=true->UpTo (Bv t) c z:=by
 induction h with
 | @top x hx h=>
  intro hr
  have hd:Jj t l x=some (.done x):=by
   unfold Jj;rw[Ac (Ff (by omega)),Ap,hr]
   rfl
  exact⟨x,Ak hd,.refl _,hr,λz hz _=>hz⟩
 | @up x y r k hx h hk ih=>
  intro hr
  cases hx2:l.getD x _ with
  | true=>
   have hd:Jj t l x=some (.done x):=by
    unfold Jj;rw[Ac (Ff (by omega)),Ap,hx2]
    rfl
   exact⟨x,Ak hd,.refl _,hx2,λz hz _=>hz⟩
  | false=>
   have hs:Jj t l x=some (.next y):=by
    unfold Jj;rw[Ac (Ff (by omega)),Ap,hx2,L0,Af,Ac (Ff hx),h]
   obtain⟨c,e1,e2,e3,e4⟩:=ih hr;refine⟨c,by rw[Ar hs,e1],.up h e2,e3,λz hz hlz=>?_⟩;rcases(anc_up  h).1 hz with rfl|hz
   ·grind
   ·exact e4 z hz hlz
theorem MR(ht:t.length<=1000){a b r k m:Nat}(ha:Tp t a r k)(hb:Tp t b r m):∃ c:Nat,Sb t (a:Int) (b:Int)=some (c:Int)/\MeetAt (Bv t) a b c:=by
 unfold Sb
 have hroom:1000<=room:=by decide
 rw[Ac ⟨by omega,by omega,by omega⟩,Ap];obtain⟨l',h1,h2,h3⟩:=uJ ha (List.replicate t.length _) (by simp);rw[h1,Aj]
 have h3':∀ z,z<t.length->(l'.getD z false=true↔UpTo (Bv t) a z):=λz hz=>by grind
 obtain⟨c,e1,e2,e3,e4⟩:=uK hb l' h2 ((h3' r ha.tops.1).2 ha.upTo)
 have hc:c<t.length:=by grind
 refine⟨c,by rw[e1];rfl,λw=>⟨λhw=>⟨((h3' c hc).1 e3).trans hw,e2.trans hw⟩,λ⟨hw1,hw2⟩=>?_⟩⟩;obtain⟨j,_,hj,_⟩:=ha.on hw1;exact e4 w hw2 ((h3' w hj.lt).2 hw1)
theorem pS(hR:M6 t=true){a b r k m:Nat}(ha:Tp t a r k)(hb:Tp t b r m):∃ c:Nat,Ru t (a:Int) (b:Int)=(c:Int)/\MeetAt (Bv t) a b c:=by
 unfold Ru;rw[if_pos hR]
 have hcon:∀ z:Nat,(Ep t b).contains z=true↔UpTo (Bv t) b z:=λz=>by
  rw[zzL65,hb.path.1]
  constructor
  ·grind
  ·grind
 rcases ha.path.2 (λx=>(Ep t _).contains x) with⟨e1,e2⟩|⟨f,e1,e2,e3,e4⟩
 ·have:=e2 r ha.upTo;rw[(hcon r).2 hb.upTo]at this
  cases this
 ·exact⟨f,by rw[e1];rfl,λw=>⟨λhw=>⟨e2.trans hw,((hcon f).1 e3).trans hw⟩,λ⟨hw1,hw2⟩=>e4 w hw1 ((hcon w).2 hw2)⟩⟩
theorem MeetAt.same{a b r k c d:Nat}(ha:Tp t a r k)(hc:MeetAt (Bv t) a b c)(hd:MeetAt (Bv t) a b d):c=d:=by
 obtain⟨j,_,hj,_⟩:=ha.on ((hc c).1 (.refl _)).1;exact(hj.anti ((hc d).2 ((hd d).1 (.refl _))) ((hd c).2 ((hc c).1 (.refl _)))).symm
end
theorem m_index(t:List Int)(v:Int)(ht:t.length<=1000):(∃ r:Nat,r<t.length/\t.getD r 0=v/\(∀ i,i<r->t.getD i 0≠v)/\Ej t v=some (r:Int))\/((∀ i,i<t.length->t.getD i 0≠v)/\Ej t v=some (-1)):=by
 have key:∀ k i:Nat,i+k=t.length->(∀ j,j<i->t.getD j 0≠v)->
   (∃ r:Nat,r<t.length/\t.getD r 0=v/\(∀ i,i<r->t.getD i 0≠v)/\Ad (Ci t v) (i:Int)=some (.inr (r:Int)))\/((∀ i,i<t.length->t.getD i 0≠v)/\Ad (Ci t v) (i:Int)=some (.inl ())):=by
  intro k
  induction k with
  | zero=>
   intro i hi hj
   obtain rfl:i=t.length:=by omega
   refine .inr ⟨hj,Ak ?_⟩;unfold Ci;rw[Dk];rfl
  | succ k ih=>
   intro i hi hj
   by_cases e:v=t.getD i 0
   ·refine .inl ⟨i,by omega,e.symm,hj,Ak ?_⟩;unfold Ci;have hb:((v:Int)==t.getD i 0)=true:=zzL47.2 e;simp only[B5 (show i<t.length by omega),Af,Ap,hb];rw[Ac (Ff (by omega))]
   ·have hs:Ci t v (i:Int)=some (.next ((i+1:Nat):Int)):=by
     unfold Ci;have hb:((v:Int)==t.getD i 0)=false:=zzL35.2 e;simp only[B5 (show i<t.length by omega),Af,Ap,hb,Aq];rw[Ac (Ff (by omega)),w1 (by omega)]
    rw[Ar hs]
    exact ih (i+1) (by omega) λj hj2=>by
     by_cases ej:j=i
     ·subst ej;exact λh=>e h.symm
     ·exact hj j (by omega)
 have h0:=key t.length 0 (by omega) (λj hj=>absurd hj (V1 _));unfold Ej;rcases h0 with⟨r,h1,h2,h3,h4⟩|⟨h1,h2⟩
 ·exact .inl ⟨r,h1,h2,h3,by rw[show((0:Int))=((0:Nat):Int) from rfl,h4];rfl⟩
 ·exact .inr ⟨h1,by rw[show((0:Int))=((0:Nat):Int) from rfl,h2];rfl⟩
section
variable {t:List Int}
structure EX(t:List Int)(r f:Nat)(w:List Int):Prop where
 len:w.length=t.length
 old:∀ y,y<t.length->w.getD y 0≠0->(w.getD y 0<=(f:Int))/\∃ k,Tp t y r k
structure ng(t:List Int)(r f x:Nat)(w:List Int):Prop where
 len:w.length=t.length
 hx:x<t.length
 old:∀ y,y<t.length->w.getD y 0≠0->w.getD y 0<=(f:Int)/\(∃ k,Tp t y r k)\/w.getD y 0=((f+1:Nat):Int)/\∀ r' k,Tp t x r' k->∃ j,k<j/\Tp t y r' j
 fwd:∀ r' k,Tp t x r' k->∃ j,k<=j/\Tp t f r' j
 back:∀ r' k,Tp t f r' k->∃ j,Tp t x r' j
def YS(w:List Int):Nat:=w.countP λz=>z==0
theorem me{w:List Int}{x:Nat}{v:Int}(hx:x<w.length)(h0:w.getD x 0=0)(hv:v≠0):YS (w.set x v)<YS w:=by
 unfold YS;rw[List.countP_set hx];rw[Am _ _ _ hx]at h0;have hp:0<w.countP λz=>z==0:=List.countP_pos_iff.2 ⟨w[x],LM hx,by simp[h0]⟩;have hb :=zzL35.2 hv;simp only[h0,Va,L7,hb,JI,H5];omega
theorem leads_loop(ht:t.length<=1000){r:Nat}(hr:r<t.length)(htop:t.getD r 0 = -1){f:Nat}(hf:f<t.length):∀(m x:Nat) (w:List Int),YS w<=m->ng t r f x w->
  (∃ w',Ad (Dm t (f:Int) (r:Int)) ((x:Int),w)=some (.inl w')/\EX t r (f+1) w'/\∃ k,Tp t f r k) \/
  ∃ b w',Ad (Dm t (f:Int) (r:Int)) ((x:Int),w)=some (.inr (b,w'))/\w'.length=t.length/\(b=true->EX t r (f+1) w'/\∃ k,Tp t f r k)/\(b=false->∀ k,¬ Tp t f r k):=by
 intro m
 induction m with
 | zero=>
  intro x w hz hw;exact go 0 (λx w hz=>absurd hz (V1 _)) x w hz hw
 | succ m ih=>
  intro x w hz hw;exact go (m+1) (λx w hz=>ih x w (Nat.le_of_lt_succ hz)) x w hz hw
where
 go (m:Nat) (ih:∀(x:Nat) (w:List Int),YS w<m->ng t r f x w->
  (∃ w',Ad (Dm t (f:Int) (r:Int)) ((x:Int),w)=some (.inl w')/\EX t r (f+1) w'/\∃ k,Tp t f r k) \/
  ∃ b w',Ad (Dm t (f:Int) (r:Int)) ((x:Int),w)=some (.inr (b,w'))/\w'.length=t.length/\(b=true->EX t r (f+1) w'/\∃ k,Tp t f r k)/\(b=false->∀ k,¬ Tp t f r k)) (x:Nat) (w:List Int) (hz:YS w<=m) (hw:ng t r f x w) :
  (∃ w',Ad (Dm t (f:Int) (r:Int)) ((x:Int),w)=some (.inl w')/\EX t r (f+1) w'/\∃ k,Tp t f r k) \/
  ∃ b w',Ad (Dm t (f:Int) (r:Int)) ((x:Int),w)=some (.inr (b,w'))/\w'.length=t.length/\(b=true->EX t r (f+1) w'/\∃ k,Tp t f r k)/\(b=false->∀ k,¬ Tp t f r k):=by
  have hxl:=hw.hx
  have told:∀ k,Tp t x r k->EX t r (f+1) w/\∃ k,Tp t f r k:=λk hk=>by
   obtain⟨j,_,hj⟩:=hw.fwd _ _ hk;refine⟨⟨hw.len,λy hy hy0=>?_⟩,j,hj⟩;rcases hw.old y hy hy0 with⟨h1,h2⟩|⟨h1,h2⟩
   ·exact⟨by omega,h2⟩
   ·obtain⟨i,_,hi⟩:=h2 _ _ hk;exact⟨by omega,i,hi⟩
  by_cases hxr:x=r
  ·subst hxr;refine .inl ⟨w,Ak ?_,told 0 (.top hr htop)⟩;unfold Dm
   have hb:((x:Int)!=(x:Int))=false:=by simp
   simp only[hb,Aq]
  ·have hb:((x:Int)!=(r:Int))=true:=by rw[zzL86];omega
   have hin:As (x:Int) w.length:=Ff (by rw[hw.len];exact hxl)
   by_cases hw0:w.getD x 0=0
   ·have hb0:((w.getD x 0:Int)!=0)=false:=by rw[hw0];rfl
    by_cases hpl:0<=t.getD x 0/\t.getD x 0<(t.length:Int)
    ·have hwf:w64 ((f:Int)+1)=((f+1:Nat):Int):=w1 (by omega)
     have hs:Dm t (f:Int) (r:Int) ((x:Int),w)=some (.next (t.getD x 0,w.set x ((f+1:Nat):Int))):=by
      unfold Dm M0;simp only[hb,Af,Ap,hb0,Aq];rw[Ac hin,Ac (Ff hxl),F9 hpl.1,F9 hpl.2,Af,Aj,Dj,Aq,Ac hin,Ac (Ff hxl),hwf]
     rw[Ar hs];obtain⟨y,hy⟩:∃ y:Nat,t.getD x 0=(y:Int):=⟨(t.getD x 0).toNat,(Lb hpl.1).symm⟩;rw[hy]at hpl ⊢
     have hyl:y<t.length:=by omega
     have hst:∀ r' k,Tp t y r' k->Tp t x r' (k+1):=λr' k hk=>.up hxl hy hk
     have hset:∀ z,z<t.length->(w.set x ((f+1:Nat):Int)).getD z 0=if z=x then((f+1:Nat):Int) else w.getD z 0:=λz _=>BH (by rw[hw.len];exact hxl)
     have hW:ng t r f y (w.set x ((f+1:Nat):Int)):=by
      refine⟨by simp[hw.len],hyl,λz hzl hz0=>?_,λr' k hk=>?_,λr' k hk=>?_⟩
      ·rw[hset z hzl]at hz0 ⊢
       by_cases e:z=x
       ·subst e;rw[if_pos rfl];exact .inr ⟨rfl,λr' k hk=>⟨k+1,by omega,hst r' k hk⟩⟩
       ·rw[if_neg e]at hz0 ⊢;rcases hw.old z hzl hz0 with h1|⟨h1,h2⟩
        ·exact .inl h1
        ·refine .inr ⟨h1,λr' k hk=>?_⟩;obtain⟨j,hj1,hj2⟩:=h2 _ _ (hst r' k hk);exact⟨j,by omega,hj2⟩
      ·obtain⟨j,hj1,hj2⟩:=hw.fwd _ _ (hst r' k hk);exact⟨j,by omega,hj2⟩
      ·obtain⟨j,hj⟩:=hw.back _ _ hk
       cases hj with
       | top _ h2=>omega
       | up _ h2 h3=>
        have:=hy.symm.trans h2
        cases LN this
        exact⟨_,h3⟩
     have hzz:=me (x:=x) (v:=((f+1:Nat):Int)) (by rw[hw.len];exact hxl) hw0 (by omega);exact ih y _ (by omega) hW
    ·refine .inr ⟨false,w,Ak ?_,hw.len,⟨λh=>(by cases h),λ_ k hk=>?_⟩⟩
     ·unfold Dm M0;simp only[hb,Af,Ap,hb0,Aq];rw[Ac hin,Ac (Ff hxl)]
      have:(bif decide ((0:Int)<=t.getD x 0) then decide (t.getD x 0<(t.length:Int)) else false)=false:=by
       cases h1:decide ((0:Int)<=t.getD x 0) with
       | false=>rfl
       | true=>rw[Af];exact Da λh2=>hpl ⟨LK h1,h2⟩
      rw[this,Aj]
      rfl
     ·obtain⟨j,hj⟩:=hw.back _ _ hk
      cases hj with
      | top=>exact hxr rfl
      | up _ h2 h3=>have:=h3.lt;exact hpl ⟨by omega,by omega⟩
   ·have hb0:((w.getD x 0:Int)!=0)=true:=by rw[zzL86];exact hw0
    have hwf:w64 ((f:Int)+1)=((f+1:Nat):Int):=w1 (by omega);refine .inr ⟨w.getD x 0 !=((f+1:Nat):Int),w,Ak ?_,hw.len,⟨λh=>?_,λh k hk=>?_⟩⟩
    ·unfold Dm;simp only[hb,Af,Ap,hb0];rw[Ac hin,Ac hin,hwf]
    ·rcases hw.old x hxl hw0 with⟨_,k,hk⟩|⟨h1,_⟩
     ·exact told k hk
     ·rw[h1]at h;simp at h
    ·have he:w.getD x 0=((f+1:Nat):Int):=by simpa using h
     obtain⟨j,hj⟩:=hw.back _ _ hk;rcases hw.old x hxl hw0 with⟨h1,_⟩|⟨_,h2⟩
     ·omega
     ·obtain⟨i,hi1,hi2⟩:=h2 _ _ hj;have:=hj.det hi2;omega
end
section
variable {t:List Int}
theorem uB(ht:t.length<=1000){r:Nat}(hr:r<t.length)(htop:t.getD r 0 = -1){f:Nat}(hf:f<t.length){w:List Int}(hw:EX t r f w) :
  ∃ b w',Vs t w (f:Int) (r:Int)=some (b,w')/\w'.length=t.length/\(b=true->EX t r (f+1) w'/\∃ k,Tp t f r k)/\(b=false->∀ k,¬ Tp t f r k):=by
 unfold Vs;have hW:ng t r f f w:=⟨hw.len,hf,λy hy h0=>.inl (hw.old y hy h0),λr' k hk=>⟨k,zzL8 _,hk⟩,λr' k hk=>⟨k,hk⟩⟩;rcases leads_loop ht hr htop hf _ f w (zzL8 _) hW with⟨w',e1,e2⟩|⟨b,w',e1,e2,e3,e4⟩
 ·exact⟨true,w',by rw[e1];rfl,e2.1.len,λ_=>e2,λh=>by cases h⟩
 ·grind
def WN(t:List Int)(r:Nat):Prop:=∀ f,f<t.length->t.getD f 0≠-2->∃ k,Tp t f r k
open Classical in
theorem dF(ht:t.length<=1000){r:Nat}(hr:r<t.length)(htop:t.getD r 0 = -1):∀(k f:Nat) (w:List Int),f+k=t.length->EX t r f w->(∀ y,y<f->t.getD y 0≠-2->∃ k,Tp t y r k)->
  Ad (Gx t (r:Int)) ((f:Int),w)=some (if WN t r then .inl () else .inr false):=by
 intro k
 induction k with
 | zero=>
  intro f w hk hw hd
  obtain rfl:f=t.length:=by omega
  apply Ak
  unfold Gx;simp only[Dk,Aq];rw[if_pos (show WN t r from hd)]
 | succ k ih=>
  intro f w hk hw hd
  have hf:f<t.length:=by omega
  by_cases h2:t.getD f 0 = -2
  ·have hb:((t.getD f 0:Int)!=(-2))=false:=by rw[h2];rfl
   have hs:Gx t (r:Int) ((f:Int),w)=some (.next (((f+1:Nat):Int),w)):=by
    unfold Gx;simp only[B5 hf,Af,Ap,hb,show(false==true)=false from rfl,Aq,Aj];rw[Ac (Ff hf),Ac (λh=>by cases h),w1 (by omega)]
   rw[Ar hs];refine ih (f+1) w (by omega) ⟨hw.len,λy hy h0=>?_⟩ λy hy hy2=>?_
   ·obtain⟨e1,e2⟩:=hw.old y hy h0;exact⟨by omega,e2⟩
   ·by_cases e:y=f
    ·subst e;exact absurd h2 hy2
    ·exact hd y (by omega) hy2
  ·have hb:((t.getD f 0:Int)!=(-2))=true:=by rw[zzL86];exact h2
   obtain⟨b,w',e1,e2,e3,e4⟩:=uB ht hr htop hf hw
   cases b with
   | false=>
    rw[if_neg (λhA:WN t r=>by obtain⟨k,hk⟩:=hA f hf h2;exact e4 rfl k hk)]
    apply Ak
    unfold Gx;simp only[B5 hf,Af,Ap,hb,show(true==true)=true from rfl,e1,Aj];rw[Ac (Ff hf),Ac (λ_=>by rw[hw.len,e2])]
    rfl
   | true=>
    have hs:Gx t (r:Int) ((f:Int),w)=some (.next (((f+1:Nat):Int),w')):=by
     unfold Gx;simp only[B5 hf,Af,Ap,hb,show(true==true)=true from rfl,e1,Aj];rw[Ac (Ff hf),Ac (λ_=>by rw[hw.len,e2]),w1 (by omega)]
     rfl
    rw[Ar hs];obtain⟨e5,e6⟩:=e3 rfl;refine ih (f+1) w' (by omega) e5 λy hy hy2=>?_
    by_cases e:y=f
    ·subst e;exact e6
    ·exact hd y (by omega) hy2
theorem qU:topsK t t.length=1↔∃ r,r<t.length/\t.getD r 0 = -1/\∀ x,x<t.length->t.getD x 0 = -1->x=r:=by
 have key:∀ n,(topsK t n=0↔∀ x,x<n->t.getD x 0≠-1)/\(topsK t n=1↔∃ r,r<n/\t.getD r 0 = -1/\∀ x,x<n->t.getD x 0 = -1->x=r):=by
  intro n
  induction n with
  | zero=>exact⟨⟨λ_ x hx=>absurd hx (V1 _),λ_=>rfl⟩,⟨λh=>by simp[topsK]at h,λ⟨r,h,_⟩=>absurd h (V1 _)⟩⟩
  | succ n ih=>
   rw[GU]
   by_cases e:t.getD n 0 = -1
   ·rw[if_pos e];refine⟨⟨λh=>by omega,λh=>absurd e (h n (by omega))⟩,⟨λh=>⟨n,by omega,e,λx hx hx1=>?_⟩,λ⟨r,h1,h2,h3⟩=>?_⟩⟩
    ·by_cases ex:x=n
     ·exact ex
     ·grind
    ·have:=ih.1.2 λx hx hx1=>by
      grind
     omega
   ·grind
 exact(key _).2
theorem rightD_iff:M6 t=true↔∃ r,r<t.length/\t.getD r 0 = -1/\WN t r:=by
 unfold M6;rw[A1,all_range,Ds,qU]
 constructor
 ·rintro⟨h1,r,h2,h3,h4⟩;refine⟨r,h2,h3,λf hf hf2=>?_⟩;have:=h1 f hf;unfold pe at this;rw[JL,Ds,Rn,TF]at this;rcases this with h|h
  ·exact absurd h hf2
  ·obtain⟨x,r',k,e,hk⟩:=pathD_tp.1 h
   cases LN e
   have:=h4 _ hk.tops.1 hk.tops.2;subst this;exact⟨k,hk⟩
 ·rintro⟨r,h2,h3,h4⟩;refine⟨λf hf=>?_,r,h2,h3,λx hx hx1=>?_⟩
  ·unfold pe;rw[JL,Ds,Rn,TF]
   by_cases e:t.getD f 0 = -2
   ·exact .inl e
   ·obtain⟨k,hk⟩:=h4 f hf e;exact .inr (pathD_tp.2 ⟨f,r,k,rfl,hk⟩)
  ·obtain⟨k,hk⟩:=h4 x hx (by omega);exact((hk.det (.top hx hx1)).1).symm
theorem YG(hR:M6 t=true):∃ r,WN t r:=by obtain⟨r,_,_,h⟩:=rightD_iff.1 hR;exact⟨r,h⟩
theorem pK(ht:t.length<=1000):Tw t=some (M6 t):=by
 unfold Tw
 have hroom:1000<=room:=by decide
 rcases m_index t _ ht with⟨r,h1,h2,h3,h4⟩|⟨h1,h2⟩
 ·rw[h4,Aj,Da (by omega),Aq,Ac ⟨by omega,by omega,by omega⟩,Ap];have hl:=dF ht h1 h2 t.length 0 (List.replicate t.length 0) (by omega) ⟨by simp,λy hy h0=>absurd JC h0⟩ (λy hy=>absurd hy (V1 _));rw[show(((0:Nat):Int))=0 from rfl]at hl;rw[hl,Aj]
  by_cases hA:WN t r
  ·rw[if_pos hA,rightD_iff.2 ⟨r,h1,h2,hA⟩]
  ·rw[if_neg hA]
   have :=Bool.eq_false_iff.2 λhR=>by
    obtain⟨r',g1,g2,g3⟩:=rightD_iff.1 hR;obtain⟨k,hk⟩:=g3 r h1 (by omega);have:=(hk.det (.top h1 h2)).1;subst this;exact hA g3
   rw[this]
 ·rw[h2]
  have :=Bool.eq_false_iff.2 λhR=>by
   obtain⟨r',g1,g2,g3⟩:=rightD_iff.1 hR;exact h1 r' g1 g2
  rw[this]
  rfl
def GI(t:List Int)(a:Int):Bool:=decide (0<=a)&&decide (a<(t.length:Int))&&decide (t.getD a.toNat 0≠-2)
theorem QM(hR:M6 t=true){a:Int}:GI t a=true↔∃ x k r:Nat,a=(x:Int)/\Tp t x r k:=by
 unfold GI;rw[A1,A1,Ds,Ds,Ds]
 constructor
 ·rintro⟨⟨h1,h2⟩,h3⟩;obtain⟨r,hA⟩:=YG hR;obtain⟨k,hk⟩:=hA _ (by omega) h3;exact⟨a.toNat,k,r,(Lb h1).symm,hk⟩
 ·rintro⟨x,k,r,rfl,h⟩;rw[Ap]
  cases h with
  | top _ h2=>omega
  | up _ h2 _=>omega
theorem gb(a:Int):Nw t a=some (GI t a):=by
 unfold Nw M0 GI;rw[Aj]
 cases h1:decide (0<=a) with
 | false=>rfl
 | true=>
  rw[Af,Hi]
  cases h2:decide (a<t.length) with
  | false=>rfl
  | true=>
   rw[Ac (λ_=>⟨LK h1,LK h2⟩),Af,Hi]
   congr 1
   rw[Xh,zzL86,Ds]
theorem uA(ht:t.length<=1000)(a b:Int):Vr t a b=some (M6 t&&GI t a&&GI t b):=by
 unfold Vr;rw[pK ht]
 cases M6 t with
 | false=>rfl
 | true=>
  simp only[  gb, Hi]
  cases GI t a with
  | false=>rfl
  | true=>grind
theorem lu{a b:Int}(h:(M6 t&&GI t a&&GI t b)=false):Ru t a b = -2:=by
 unfold Ru
 by_cases hR:M6 t=true
 ·rw[if_pos hR];rw[hR]at h
  have hno:∀ c,GI t c=false->Ep t c=[]:=λc hc=>by
   by_cases e:Ep t c=[]
   ·exact e
   ·obtain⟨x,r,k,e1,e2⟩:=pathD_tp.1 e;rw[(QM hR).2 ⟨x,k,r,e1,e2⟩]at hc;cases hc
  cases ha:GI t a with
  | false=>rw[hno a ha];rfl
  | true=>
   rw[ha]at h;rw[hno b h]
   have:((Ep t a).find? λx=>[].contains x)=none:=List.find?_eq_none.2 λx _=>by simp
   rw[this]
   rfl
 ·rw[if_neg hR]
theorem VR(ht:t.length<=1000){a b:Int}(h:(M6 t&&GI t a&&GI t b)=true):Sb t a b=some (Ru t a b)/\0<=Ru t a b:=by
 rw[A1,A1]at h;obtain⟨⟨hR,ha⟩,hb⟩:=h;obtain⟨x,k,r,rfl,hx⟩:=(QM hR).1 ha;obtain⟨y,m,r',rfl,hy⟩:=(QM hR).1 hb;obtain⟨rr,hA⟩:=YG hR
 have top:∀{x r k},Tp t x r k->r=rr:=λ{x r k} h=>by
  obtain⟨i,hi⟩:=hA r h.tops.1 (by rw[h.tops.2];omega);exact((Tp.top h.tops.1 h.tops.2).det hi).1
 obtain rfl:=top hx;obtain rfl:=top hy;obtain⟨c,h1,h2⟩:=MR ht hx hy;obtain⟨d,h3,h4⟩:=pS hR hx hy;have:=h2.same hx h4;subst this;exact⟨by rw[h1,h3],by omega⟩
theorem xJ(ht:t.length<=1000)(a b:Int):X4 t a b=some (MZ t a b):=by
 unfold X4 MZ;rw[uA ht]
 cases h:(M6 t&&GI t a&&GI t b) with
 | false=>
  rw[lu h]
  have:(-2==a&&(-2 !=-2))=false:=by simp
  rw[this]
  rfl
 | true=>
  obtain⟨h1,h2⟩:=VR ht h;simp only[show(true==true)=true from rfl,Af,h1,Aj]
  have:(Ru t a b !=-2)=true:=by rw[zzL86];omega
  rw[this,TE]
end
theorem uP:∀ n:Fin 65,R9 (Fl 1) (Fl ((n.val:Nat):Int))=some (0,((n.val:Nat):Int)):=by decide +kernel
theorem ly{n:Nat}(h:n<=64):R9 (Fl 1) (Fl (n:Int))=some (0,(n:Int)):=uP ⟨n,by omega⟩
theorem eF{v:Int}{n:Nat}(hn:n<=64):∀(m i:Nat) (l:List Int),n-i<=m->1<=i->i<=n->l.length=n->(∀ j,j<i->l.getD j 0=v)->Ad C8 ((i:Int),l)=some (List.replicate n v):=by
 intro m
 induction m with
 | zero=>
  intro i l hm h1 h2 hl hv
  obtain rfl:i=n:=by omega
  exact fin l hl hv
 | succ m ih=>
  intro i l hm h1 h2 hl hv
  by_cases e:i=n
  ·grind
  ·have hs:C8 ((i:Int),l)=some (.next (((i+Nat.min i (n-i):Nat):Int),f6 l i (Nat.min i (n-i)) (λj=>l.getD (0+j) 0))):=by
    unfold C8;simp only[hl,B5 (show i<n by omega),Af,Ap,Hq,LO];have hc:(0:Int)<=(i:Int)/\i<=n:=⟨by omega,h2⟩;have hmn:Nat.min i (n-i)<=i:=Nat.min_le_left _ _;rw[Ac hc,Ac hc,Em (by omega) (by omega),Int.natCast_add]
   rw[Ar hs];have hmn:Nat.min i (n-i)<=i/\Nat.min i (n-i)<=n-i:=⟨Nat.min_le_left _ _,Nat.min_le_right _ _⟩;have hge:1<=Nat.min i (n-i):=Nat.le_min.2 ⟨h1,by omega⟩;refine ih _ _ (by omega) (by omega) (by omega) (by rw[<- Jt];exact hl) λj hj=>?_;rw[QA _ _ _ _ _ _ (by omega)]
   by_cases hji:i<=j/\j<i+Nat.min i (n-i)
   ·grind
   ·grind
where
 fin {v:Int} {i:Nat} (l:List Int) (hl:l.length=i) (hv:∀ j,j<i->l.getD j 0=v):Ad C8 ((i:Int),l)=some (List.replicate i v):=by
  apply Ak
  unfold C8;simp only[hl,Dk,Aq]
  congr 2
  refine NO (by simp[hl]) λj h1 h2=>?_;rw[<- Am _ _ 0 h1,hv j (by omega)]
  simp
theorem pN{v:Int}{n:Nat}(h1:1<=n)(hn:n<=64):Iv [v] (n:Int)=some (List.replicate n v):=by
 have hroom:64<=room:=by decide
 unfold Iv;rw[Da (by omega),Aq,Aj]
 show Option.bind (R9 (Fl 1) _) _=_
 rw[ly hn,Aj];have e1:decide (0<0)=false:=rfl;have e2:decide (9223372036854775807<(n:Int))=false:=Da (by omega);simp only[ e2,Aq];have ew:w64 n=n:=Em (by omega) (by omega);rw[ew,Ac ⟨by omega,by omega,by omega⟩,Ap,S3,LO];have em:Nat.min [v].length n=1:=Nat.min_eq_left h1;rw[em,eF hn n 1 _ (by omega) (zzL8 _) h1 (by rw[<- Jt];simp) (λj hj=>?_)]
 ·rfl
 ·rw[QA _ _ _ _ _ _ (by simp;omega),if_pos ⟨by omega,by omega⟩]
  have:j-0=0:=by omega
  rw[this];rfl
section
variable {S:Nat->List Nat} {r n:Nat} {P:List Nat}
theorem Inv.tp{at_:Nat->Nat}{t:List Int}(h:Inv S r n at_ (Bv t))(hl:t.length=n):∀ m x,at_ x<=m->x<n->Bv t x≠-2->∃ k,Tp t x r k:=by
 intro m
 induction m with
 | zero=>
  intro x hm hx hp;rcases h.kind x hx with h1|h1|⟨z,hz⟩
  ·exact absurd h1 hp
  ·subst h1;exact⟨0,.top (by omega) h.top⟩
  ·obtain⟨_,_,h3,_⟩:=h.up x hx z hz;omega
 | succ m ih=>
  intro x hm hx hp;rcases h.kind x hx with h1|h1|⟨z,hz⟩
  ·exact absurd h1 hp
  ·subst h1;exact⟨0,.top (by omega) h.top⟩
  ·obtain⟨z1,z2,z3,_⟩:=h.up x hx z hz;obtain⟨k,hk⟩:=ih z (by omega) z1 z2;exact⟨k+1,.up (by omega) hz hk⟩
def HJ(t l:List Int)(i:Nat)(v:Int):Prop:=
 (v = -2/\∀ j,j<i->Bv t (l.getD j 0).toNat = -2) \/
 ∃ z:Nat,v=(z:Int)/\z<t.length/\Bv t z≠-2/\(∀ w,UpTo (Bv t) z w↔∀ j,j<i->Bv t (l.getD j 0).toNat≠-2->UpTo (Bv t) (l.getD j 0).toNat w)
theorem ap{at_:Nat->Nat}{t l:List Int}(ht:t.length<=64)(hll:l.length<=64)(h:Inv S r n at_ (Bv t))(hl:t.length=n)(hin:∀ x∈l,0<=x/\x<(n:Int)):∀(k i:Nat) (v:Int),i+k=l.length->HJ t l i v->
  ∃ v',Ad (Fs t l) (v,(i:Int))=some v'/\HJ t l l.length v':=by
 intro k
 induction k with
 | zero=>
  intro i v hi hv
  obtain rfl:i=l.length:=by omega
  refine⟨v,Ak ?_,hv⟩;unfold Fs;simp only[Dk,Aq]
 | succ k ih=>
  intro i v hi hv
  have hil:i<l.length:=by omega
  obtain⟨x0,x1⟩:=hin _ (Ai (d:=0) hil);have hxe:(((l.getD i 0).toNat:Nat):Int)=l.getD i 0:=Lb x0;have hxin:As (l.getD i 0) t.length:=zk x0 (by omega)
  have next:∀ v',Fs t l (v,(i:Int))=some (.next (v',((i+1:Nat):Int)))->HJ t l (i+1) v'->∃ v',Ad (Fs t l) (v,(i:Int))=some v'/\HJ t l l.length v':=λv' hs hv'=>by
   rw[Ar hs];exact ih (i+1) v' (by omega) hv'
  by_cases hp:Bv t (l.getD i 0).toNat = -2
  ·have hb:((t.getD (l.getD i 0).toNat 0:Int)==-2)=true:=zzL47.2 hp;refine next v ?_ ?_
   ·unfold Fs;simp only[B5 hil,Af,Ap,hb];rw[Ac (Ff hil),Ac hxin,Aj,w1 (by omega)]
   ·have hstep:∀ w,(∀ j,j<i->Bv t (l.getD j 0).toNat≠-2->UpTo (Bv t) (l.getD j 0).toNat w)↔∀ j,j<i+1->Bv t (l.getD j 0).toNat≠-2->UpTo (Bv t) (l.getD j 0).toNat w:=λw=>by
     refine⟨λhj j hj1 hj2=>?_,λhj j hj1=>hj j (by omega)⟩
     by_cases e:j=i
     ·subst e;exact absurd hp hj2
     ·exact hj j (by omega) hj2
    rcases hv with⟨h1,h2⟩|⟨z,h1,h2,h3,h4⟩
    ·refine .inl ⟨h1,λj hj=>?_⟩
     by_cases e:j=i
     ·subst e;exact hp
     ·exact h2 j (by omega)
    ·exact .inr ⟨z,h1,h2,h3,λw=>by rw[h4 w,hstep w]⟩
  ·have hb:((t.getD (l.getD i 0).toNat 0:Int)==-2)=false:=zzL35.2 hp;rcases hv with⟨h1,h2⟩|⟨z,h1,h2,h3,h4⟩
   ·subst h1;refine next (l.getD i 0) ?_ (.inr ⟨(l.getD i 0).toNat,hxe.symm,by omega,hp,λw=>⟨λhw j hj hj2=>?_,λhw=>hw i (by omega) hp⟩⟩)
    ·unfold Fs;simp only[B5 hil,Af,Ap,hb,Aq,show((-2:Int)==-2)=true from rfl];rw[Ac (Ff hil),Ac hxin,Aj,w1 (by omega)]
    ·by_cases e:j=i
     ·subst e;exact hw
     ·exact absurd (h2 j (by omega)) hj2
   ·subst h1;have hb2:((z:Int)==-2)=false:=zzL35.2 (by omega);obtain⟨k1,hk1⟩:=h.tp hl _ z (zzL8 _) (by omega) h3;obtain⟨k2,hk2⟩:=h.tp hl _ (l.getD i 0).toNat (zzL8 _) (by omega) hp;obtain⟨c,c1,c2⟩:=MR (by omega) hk1 hk2;have hcz:=(c2 c).1 (.refl _);obtain⟨jc,_,hjc,_⟩:=hk1.on hcz.1
    have hcp:Bv t c≠-2:=by
     show t.getD c 0≠-2
     cases hjc with
     | top _ h=>omega
     | up _ h _=>omega
    refine next (c:Int) ?_ (.inr ⟨c,rfl,hjc.lt,hcp,λw=>?_⟩)
    ·rw[hxe]at c1;unfold Fs;simp only[B5 hil,Af,Ap,hb,Aq,hb2,c1,Aj];rw[Ac (Ff hil),Ac hxin,Aj,w1 (by omega)]
    ·rw[c2 w,h4 w];refine⟨λ⟨a1,a2⟩ j hj hj2=>?_,λha=>⟨λj hj=>ha j (by omega),ha i (by omega) hp⟩⟩
     by_cases e:j=i
     ·subst e;exact a2
     ·exact a1 j (by omega) hj2
theorem lk{at_:Nat->Nat}{t l:List Int}(ht:t.length<=64)(hll:l.length<=64)(h:Inv S r n at_ (Bv t))(hl:t.length=n)(hin:∀ x∈l,0<=x/\x<(n:Int)) :
  ∃ v,M1 t l=some v/\HJ t l l.length v:=by
 obtain⟨v,h1,h2⟩:=ap ht hll h hl hin l.length 0 _ (by omega) (.inl ⟨rfl,λj hj=>absurd hj (V1 _)⟩);refine⟨v,?_,h2⟩;unfold M1;rw[show((0:Int))=(0:Nat) from rfl,h1]
 rfl
end
section
variable {L:List (List Int)} (hm:N1 L=true) {r:Nat} {P:List Nat}
include hm
theorem qN{p y:Nat}(hp:p<L.length):y∈sN L p↔Y5 L p y=true:=by
 rw[o5];obtain⟨_,_,h3⟩:=mayS_iff.1 hm
 constructor
 ·intro h;obtain⟨x,hx,rfl⟩:=zzL21.1 h;have:=ar (h3 p hp) hx;rw[Lb this.1];exact hx
 ·intro h;exact zzL21.2 ⟨_,h,Ap y⟩
theorem CF{y:Nat}(hy:y<L.length){x:Int}:x∈(Cd L).getD y []↔∃ p:Nat,x=(p:Int)/\p<L.length/\y∈sN L p:=by
 rw[ED hy];unfold Kh;rw[RC]
 constructor
 ·rintro⟨k,h1,h2,h3⟩;exact⟨k,h1,h2,(qN hm h2).2 h3⟩
 ·rintro⟨k,h1,h2,h3⟩;exact⟨k,h1,h2,(qN hm h2).1 h3⟩
theorem ao(o:Ordered (sN L) r L.length P){t:List Int}{i:Nat}(h:Ready (sN L) r L.length P t i)(hi:i<P.length) :
  M1 t ((Cd L).getD (P.getD i 0) [])=some (Ps (sN L) L.length t (P.getD i 0):Int):=by
 obtain⟨hL1,hL64,_⟩:=mayS_iff.1 hm;have hyn:P.getD i 0<L.length:=o.lt (Lm _ (Wy hi))
 have hlen:((Cd L).getD (P.getD i 0) []).length<=64:=by
  rw[ED hyn];have:=Ym L L.length (P.getD i 0);omega
 obtain⟨v,h1,h2⟩:=lk (by rw[h.len];exact hL64) hlen h.inv h.len λx hx=>by
  obtain⟨p,rfl,hp,_⟩:=(CF hm hyn).1 hx;omega
 rw[h1];have hb:=h.best o hi
 have mem:∀ p,p<L.length->P.getD i 0∈sN L p->∃ j,j<((Cd L).getD (P.getD i 0) []).length/\(((Cd L).getD (P.getD i 0) []).getD j 0).toNat=p:=λp hp hy=>by
  obtain⟨j,hj,e⟩:=N9 ((CF hm hyn).2 ⟨p,rfl,hp,hy⟩);exact⟨j,hj,by rw[Am _ _ _ hj,e,Ap]⟩
 have mem':∀ j,j<((Cd L).getD (P.getD i 0) []).length->(((Cd L).getD (P.getD i 0) []).getD j 0).toNat<L.length/\P.getD i 0∈sN L (((Cd L).getD (P.getD i 0) []).getD j 0).toNat:=λj hj=>by
  obtain⟨p,e,hp,hy⟩:=(CF hm hyn).1 (Ai (d:=(0:Int)) hj);rw[e,Ap];exact⟨hp,hy⟩
 rcases h2 with⟨rfl,h3⟩|⟨z,rfl,hz,hz2,h4⟩
 ·obtain⟨p,hp,hyp,hp2,_⟩:=hb.fwd;obtain⟨j,hj,e⟩:=mem p hp hyp;exact absurd (by rw[<- e];exact h3 j hj) hp2
 ·have hbest:fB (sN L) L.length (Bv t) (P.getD i 0) z:=λw=>by
   rw[h4 w];refine⟨λha p hp hyp hp2=>?_,λha j hj hj2=>?_⟩
   ·obtain⟨j,hj,e⟩:=mem p hp hyp;have:=ha j hj (by rw[e];exact hp2);rwa[e]at this
   ·grind
  rw[h.best_eq o hi (by rw[<- h.len];exact hz) hz2 hbest]
end
theorem da{P:List Nat}{i:Nat}(h:i<P.length):(Wp P).getD i 0=((P.getD i 0:Nat):Int):=by
 unfold Wp;rw[Am _ _ _ (by simpa using h),Am _ _ _ h,List.getElem_map]
 rfl
theorem eJ{t:List Int}{x:Nat}{v:Int}(hx:x<t.length)(h:t.getD x 0=v):t.set x v=t:=by
 subst h;rw[Am _ _ _ hx];exact List.set_getElem_self hx
section
variable {L:List (List Int)} (hm:N1 L=true) {r:Nat} {P:List Nat} (o:Ordered (sN L) r L.length P)
include hm o
theorem iC{t0:List Int}(h:Ready (sN L) r L.length P t0 0):∀(k i:Nat) (b:Bool),i+k=P.length->
  ∃ b',Ad (E4 (J0 L) (Wp (r::P))) (b,(i:Int),AK (sN L) L.length P t0 i)=some (b',AK (sN L) L.length P t0 P.length) /\
   (b'=false↔b=false/\∀ j,i<=j->j<P.length->Bv (AK (sN L) L.length P t0 j) (P.getD j 0)=(Ps (sN L) L.length (AK (sN L) L.length P t0 j) (P.getD j 0):Int)):=by
 have hP64:P.length<=64:=by
  have h1:=Ub L.length (r::P) o.nodup λx hx=>o.lt hx;have h2:=(mayS_iff.1 hm).2.1;simp at h1;omega
 have hdl:(Wp (r::P)).drop (1:Int).toNat=Wp P:=rfl
 have hlen:(Wp P).length=P.length:=by simp[Wp]
 intro k
 induction k with
 | zero=>
  intro i b hi
  obtain rfl:i=P.length:=by omega
  refine⟨b,Ak ?_,λh=>⟨h,λj h1 h2=>by omega⟩,λh=>h.1⟩;unfold E4;simp only[hdl,hlen,Dk,Aq]
 | succ k ih=>
  intro i b hi
  have hil:i<P.length:=by omega
  have rd:=h.round o i (by omega);have hma:=ao hm o rd hil;have hyn:P.getD i 0<L.length:=o.lt (Lm _ (Wy hil))
  have hyt:P.getD i 0<(AK (sN L) L.length P t0 i).length:=by rw[rd.len];exact hyn
  have hpred:(J0 L).Pred=Cd L:=rfl
  by_cases he:Bv (AK (sN L) L.length P t0 i) (P.getD i 0)=(Ps (sN L) L.length (AK (sN L) L.length P t0 i) (P.getD i 0):Int)
  ·have hb:((Ps (sN L) L.length (AK (sN L) L.length P t0 i) (P.getD i 0):Int)!=(AK (sN L) L.length P t0 i).getD (P.getD i 0) 0)=false:=by
    have:(AK (sN L) L.length P t0 i).getD (P.getD i 0) 0=_:=he;rw[this];simp
   have hnx:AK (sN L) L.length P t0 (i+1)=AK (sN L) L.length P t0 i:=eJ hyt he
   have hs:E4 (J0 L) (Wp (r::P)) (b,(i:Int),AK (sN L) L.length P t0 i)=some (.next (b,((i+1:Nat):Int),AK (sN L) L.length P t0 (i+1))):=by
    unfold E4;simp only[hdl,hlen,B5 hil,Af,Ap,da hil,hpred,hma,Aj,hb,Aq];rw[Ac (Ff hil),Ac (Ff (by rw[Py];exact hyn)),Ac (Ff hyt),Aj,w1 (by omega),hnx]
   obtain⟨b',e1,e2⟩:=ih (i+1) b (by omega);refine⟨b',by rw[Ar hs,e1],λh=>?_,λ⟨h1,h2⟩=>e2.2 ⟨h1,λj hj=>h2 j (by omega)⟩⟩;obtain⟨h1,h2⟩:=e2.1 h;refine⟨h1,λj hj1 hj2=>?_⟩
   by_cases e:j=i
   ·subst e;exact he
   ·exact h2 j (by omega) hj2
  ·have hb:((Ps (sN L) L.length (AK (sN L) L.length P t0 i) (P.getD i 0):Int)!=(AK (sN L) L.length P t0 i).getD (P.getD i 0) 0)=true:=by
    rw[zzL86];exact λe=>he e.symm
   have hs:E4 (J0 L) (Wp (r::P)) (b,(i:Int),AK (sN L) L.length P t0 i)=some (.next (true,((i+1:Nat):Int),AK (sN L) L.length P t0 (i+1))):=by
    unfold E4;simp only[hdl,hlen,B5 hil,Af,Ap,da hil,hpred,hma,Aj,hb];rw[Ac (Ff hil),Ac (Ff (by rw[Py];exact hyn)),Ac (Ff hyt),Ac (Ff hyt),Aj,w1 (by omega)]
    rfl
   obtain⟨b',e1,e2⟩:=ih (i+1) true (by omega);refine⟨b',by rw[Ar hs,e1],λh=>?_,λ⟨h1,h2⟩=>absurd (h2 i (zzL8 _) hil) he⟩;obtain⟨h1,_⟩:=e2.1 h;cases h1
theorem mQ{t0:List Int}(h:Ready (sN L) r L.length P t0 0):∃ b,Ad (E4 (J0 L) (Wp (r::P))) (false,(0:Int),t0)=some (b,AK (sN L) L.length P t0 P.length)/\(b=false↔AW (sN L) L.length P t0):=by
 obtain⟨b,e1,e2⟩:=iC hm o h P.length 0 _ (by omega);refine⟨b,e1,e2.trans ⟨λ⟨_,h2⟩=>?_,λhs=>⟨rfl,λj _ hj=>?_⟩⟩⟩
 ·have key:∀ j,j<=P.length->AK (sN L) L.length P t0 j=t0:=by
   intro j
   induction j with
   | zero=>intro _;rfl
   | succ j ih=>
    intro hj;have ih':=ih (by omega);have rd:=h.round o j (by omega)
    have hyn:P.getD j 0<(AK (sN L) L.length P t0 j).length:=by rw[rd.len];exact o.lt (Lm _ (Wy (by omega)))
    have:AK _ _ P t0 (j+1)=AK _ _ P t0 j:=eJ hyn (h2 j (Xj _) (by omega));rw[this,ih']
  intro i hi;have:=h2 i (Xj _) hi;rwa[key i (by omega)]at this
 ·rw[CN o h.len hs j (by omega)];exact hs j hj
open Classical in
theorem kK(j:Nat):Ht (J0 L) (Wp (r::P),UV (sN L) L.length P (Jm L.length r) j)=some (if AW (sN L) L.length P (UV (sN L) L.length P (Jm L.length r) j) then .done (UV (sN L) L.length P (Jm L.length r) (j+1)) else .next (Wp (r::P),UV (sN L) L.length P (Jm L.length r) (j+1))):=by
 obtain⟨b,e1,e2⟩:=mQ hm o (Ready.rounds o j);have hL2:V9 (J0 L) (Wp (r::P))=E4 (J0 L) (Wp (r::P)):=rfl
 have hlen:(0:Int)<=1/\(1:Int)<=((Wp (r::P)).length:Int):=by simp[Wp];omega
 unfold Ht;simp only[hL2,e1,Aj];rw[Ac hlen]
 cases b with
 | false=>rw[if_pos (e2.1 rfl)];rfl
 | true=>rw[if_neg (λh=>by have:=e2.2 h;cases this)];rfl
theorem eR:∃ J,AW (sN L) L.length P (UV (sN L) L.length P (Jm L.length r) J)/\Ad (Ht (J0 L)) (Wp (r::P),Jm L.length r)=some (UV (sN L) L.length P (Jm L.length r) J):=by
 obtain⟨J,h1,h2⟩:=vj o;refine⟨J,h2,?_⟩
 have key:∀ d j,j+d=J->Ad (Ht (J0 L)) (Wp (r::P),UV (sN L) L.length P (Jm L.length r) j)=some (UV (sN L) L.length P (Jm L.length r) J):=by
  intro d
  induction d with
  | zero=>
   intro j hj
   obtain rfl:j=J:=by omega
   have hF:=kK hm o j;rw[if_pos h2]at hF;rw[Ak hF];have:UV _ _ P _ (j+1)=UV _ _ P _ j:=CN o (Ready.rounds o j).len h2 _ (zzL8 _);rw[this]
  | succ d ih=>
   intro j hj;have hF:=kK hm o j;rw[if_neg (h1 j (by omega))]at hF;rw[Ar hF];exact ih _ (by omega)
 exact key J 0 (by omega)
end
theorem xK(g:TGraph)(r:Int)(h1:Fits g.Succ)(h2:Fits g.Pred):Uj g r=some (ST g r):=by
 unfold ST
 by_cases hc:ER g=true/\0<=r/\r<g.Succ.length
 ·rw[if_pos hc];obtain⟨hG,h0,hlt⟩:=hc;obtain⟨hm,hg⟩:=jp hG;obtain⟨hL1,hL64,_⟩:=mayS_iff.1 hm
  have hr:r.toNat<g.Succ.length:=by omega
  obtain⟨O,hO⟩:=Ord.exist (Zd hm) hr;have hord:=(am g h1 trivial r).1 hG h0 hlt O hO;obtain⟨P,rfl,o⟩:=hO.ordered hr (Zd hm);obtain⟨J,hJ,hl⟩:=eR hm o;have ht:=(NG o hJ).eq hm hr o;rw[ht]at hl;have hlen:(((Wp (r.toNat::P)).length:Int)==0)=false:=zzL35.2 (by simp[Wp];omega)
  have hlen2:(0:Int)<=1/\(1:Int)<=(Wp (r.toNat::P)).length:=by simp[Wp];omega
  have hL2:V9 g _=E4 g (Wp (r.toNat::P)):=rfl
  have hst:(Tc (Ht g (Wp (r.toNat::P),Jm g.Succ.length r.toNat)) (Ht g))=some (CO g.Succ r.toNat):=by
   rw[NE,hg];exact hl
  unfold Uj;rw[hord,Aj,  pN hL1 hL64,Aj,Ac (zk h0 (by simpa using hlt)),Ac hlen2]
  have:(Ht g (Wp (r.toNat::P),Jm g.Succ.length r.toNat))=(Ad (E4 g (Wp (r.toNat::P))) (false,0,(List.replicate g.Succ.length (-2)).set r.toNat (-1))).bind (λx22=>(match x22 with|(b10,l11)=>(bif b10 then(some (.next (Wp (r.toNat::P),l11))) else(some (.done l11))))):=by
   unfold Ht Jm;simp only[hL2];rw[Ac hlen2]
  rw[this]at hst;refine Eq.trans ?_ (Bn (λx =>x.bind λx42=>some x42) hst)
  rfl
 ·rw[if_neg hc];unfold Uj
  have:(ER g&&(decide (0<=r)&&decide (r<g.Succ.length)))=false:=by
   grind
  rw[(am g h1 trivial r).2 this]
  rfl
theorem wr{α:Type}(l:List α)(d:α)(p:α->Bool){X:Type}(f:Int->Option (LR Int X))(yes no:X)(hl:l.length<9223372036854775808)(hk:∀ i:Nat,i<l.length->f i=some (bif p (l.getD i d) then .next (w64 ((i:Int)+1)) else .done no))
  (he:f l.length=some (.done yes)):Ad f (0:Int)=some (bif l.all p then yes else no):=by
 have:=G6 l d p f yes no (λi hi hp=>by rw[hk i hi,hp,Af,A0 hi hl]) (λi hi hp=>by grind) he l.length 0 (by omega);rwa[L1]at this
theorem w9(f:TFunc)(hf:US f)(l:Int)(t:List Int)(u:List Bg):Kn f l t u=some (bif Qd f then 0 else 4,f,l,t,u):=by
 unfold Kn Nv;rw[Aaq f hf]
 cases Qd f<;>rfl
theorem lU(phis:List Bh)(l:List Int)(h1:phis.length<9223372036854775808)(h2:l.length<4611686018427387904):Pn phis l=some (phis.all (Jw l)):=by
 unfold Pn
 rw[wr _ _ (Jw l) _ (.inl ()) _ h1 (λi hi=>by
  unfold Px
  have hd:decide ((i:Int)<phis.length)=true:=by simpa using hi
  simp only[hd, Aa (Ag hi),Cp,PD _ _ h2, Jw]
  cases decide ((phis.getD i _).From=l) with
  | false=>rfl
  | true=>
   grind) (by unfold Px;simp)]
 cases phis.all _<;>rfl
def fe(e:Jo):Bool:=!((e.Kind==1 || e.Kind==3)&&(e.Arg !=0))
theorem lN{n:Nat}(e:Jo)(hk:M9 e n=true):Pm e=some (fe e):=by
 have h4 :=by
  have:=(A1 _ _▸hk).1;unfold BL at this;simp only[A1,Ds]at this;omega
 unfold Pm fe
 have:e.Kind=0\/e.Kind=1\/e.Kind=2\/e.Kind=3:=by omega
 rcases this with h|h|h|h<;>rw[h]<;>cases hb:(e.Arg==0)<;>simp[hb,bne]
theorem gr{L:List (List Int)}(hm:N1 L=true){P:List Nat}(h0:0<L.length)(o:Ord (sN L) 0 P):decide (P.length<L.length) = !(List.range L.length).all λi=>(Sn L).getD i false:=by
 have hin:∀ x∈P,x<L.length:=λx hx=>(by obtain⟨Q,rfl,oo⟩:=o.ordered h0 (Zd hm);exact oo.lt hx)
 have hr:∀ z,(Sn L).getD z _=true↔z∈P:=λz=>by
  rw[o.mem z];exact IY (Zd hm) h0 z
 cases ha:(List.range _).all _ with
 | true=>
  have:=((List.perm_ext_iff_of_nodup o.nodup List.nodup_range).2 λi=>⟨λh=>zzL85.2 (hin i h),λh=>(hr i).1 (zzL29.1 ha i h)⟩).length_eq;rw[Xg]at this
  simp;omega
 | false=>
  obtain⟨i,hi,hni⟩:∃ i,i<L.length/\i∉P:=bS λhc=>by
   grind
  have :=Ub L.length _ (zzL116.2 ⟨hni,o.nodup⟩) (λx hx=>by grind);simp at this ⊢;omega
theorem oV {f : TFunc} (hf : OkF f) (l : Int) (t : List Int) (u : List Bg) : ∃ t', Ja f l t u = some (bif Fk f then 0 else 5, f, l, t', u) ∧ (Fk f = true → t' = Er f) := by
  have hmax : f.Blocks.length ≤ maxLen := by have := hf.blocks; have : (64 : Nat) ≤ maxLen := by decide
                                             omega
  unfold Ja; rw [zy f hmax, Aj]
  cases hs : O2 f with
  | false => exact ⟨t, by unfold Fk; rw [hs]; rfl, fun h => by unfold Fk at h; rw [hs] at h; cases h⟩
  | true =>
    have hm := Rl hs; have hlen := Pe f
    have hpos : 0 < (Bm f).length := by have := (shape_iff.1 hs).1.1; omega
    obtain ⟨h1, h2⟩ := HX hm; obtain ⟨P, hP⟩ := Ord.exist (Zd hm) hpos; have ho := (am (J0 (Bm f)) h1 trivial 0).1 (dW hm) (by omega) (by show (0 : Int) < ((Bm f).length : Int); omega) P hP; have hfull := gr hm hpos hP; simp only [Af,  show ((0 : Int) != 0) = false from rfl, Aq, ho, Aj, show (false == false) = true from rfl]
    have e1 : decide (((Wp P).length : Int) < (f.Blocks.length : Int)) = decide (P.length < (Bm f).length) := by
      rw [hlen]; apply zzL74.2; simp [Wp]
    rw [e1, hfull]
    have hsd : Fk f = (((List.range f.Blocks.length).all fun i => (Sn (Bm f)).getD i false) && (List.range f.Blocks.length).all fun i => fe (f.Blocks.getD i default).End && (f.Blocks.getD i default).Phis.all (Jw ((Cd (Bm f)).getD i []))) := by
      unfold Fk; rw [hs, Hi]
      have : ∀ (n : Nat) (p q : Nat → Bool), ((List.range n).all fun i => p i && q i) = ((List.range n).all p && (List.range n).all q) := fun n p q => by
        grind
      rw [← this]
      congr 1
      funext i
      show (_ && _ && _) = _
      rw [Bool.and_assoc]
      rfl
    rw [hlen]; rw [hsd]
    cases hr : (List.range f.Blocks.length).all _ with
    | false => exact ⟨t, rfl, fun h => by cases h⟩
    | true =>
      refine ⟨Er f, ?_, fun _ => rfl⟩; rw [Dj, Aq, xK _ 0 h1 h2, Aj, Hi]; have hp := T0 hm
      have hpl : (J0 (Bm f)).Pred.length = f.Blocks.length := by rw [← hlen]; exact Py _
      have key : Ad (Df f l u (J0 (Bm f), 0) (Er f)) (0 : Int) = some (bif (List.range f.Blocks.length).all (fun i => fe (f.Blocks.getD i default).End && (f.Blocks.getD i default).Phis.all (Jw ((Cd (Bm f)).getD i []))) then .inl () else .inr ((5 : Int), f, l, Er f, u)) := by
        have hk : ∀ i : Nat, i < f.Blocks.length → Df f l u (J0 (Bm f), 0) (Er f) (i : Int) = some (bif (fe (f.Blocks.getD i default).End && (f.Blocks.getD i default).Phis.all (Jw ((Cd (Bm f)).getD i []))) then .next ((i : Int) + 1) else .done (.inr ((5 : Int), f, l, Er f, u))) := fun i hi => by
          have hB := hf.block _ (Ai (d := (default : Ab)) hi); have hpi : As (i : Int) (J0 (Bm f)).Pred.length := Ag (by omega); have hpg : ((J0 (Bm f)).Pred.getD i []).length ≤ 64 := hp.2 _ (Ai (by rw [Py]; omega)); unfold Df
          have hd : decide ((i : Int) < (f.Blocks.length : Int)) = true := by simpa using hi
          simp only [hd, Af, Aa (Ag hi), Aa hpi, Cp, lU (f.Blocks.getD i default).Phis ((J0 (Bm f)).Pred.getD i []) (by have := hB.phis; omega) (by omega), Aj]; have ha  := lN (n := f.Blocks.length) (f.Blocks.getD i default).End ((shape_iff.1 hs).2 i hi); rw [ha, A0 hi (by have := hf.blocks; omega)]
          show _ = some (bif (fe (f.Blocks.getD i default).End && (f.Blocks.getD i default).Phis.all (Jw ((J0 (Bm f)).Pred.getD i []))) then _ else _)
          cases (f.Blocks.getD i default).Phis.all _ <;> cases fe (f.Blocks.getD i default).End <;> rfl
        exact KK _ _ _ _ _ (fun i hi hp => by rw [hk i hi, hp]; rfl) (fun i hi hp => by rw [hk i hi, hp]; rfl) (by unfold Df; simp)
      show ((Ad (Df f l u (J0 (Bm f), 0) (Er f)) (0 : Int)).bind _) = _
      rw [key, Aj]
      cases (List.range f.Blocks.length).all _ <;> rfl
theorem wz(o:A2)(l:Int)(h0:0<=l)(h2:l<=2)(hk:Ju o=true):Tv o l=some (!decide (ID l<o.Kind)&&!(decide (l<2)&&decide (1<o.Lanes))):=by
 have hl:=pC hk
 have hK :=by
  simp only[Ju,A1]at hk;have:=hk.1.2.1.1.1;unfold gQ at this;simp only[A1,Ds]at this;omega
 unfold Tv ID
 have:l=0\/l=1\/l=2:=by omega
 rcases this with rfl|rfl|rfl
 ·have ha:decide (o.Kind<=17) = !decide (17<o.Kind):=by grind
  have hb:(o.Lanes==1) = !decide (1<o.Lanes):=by grind
  show some _=some (!decide (17<o.Kind)&&!(true&&decide _))
  rw[ha,hb]
  cases decide (17<o.Kind)<;>cases decide (1<o.Lanes)<;>rfl
 ·have ha:decide (o.Kind<=20) = !decide (20<o.Kind):=by grind
  have hb:(o.Lanes==1) = !decide (1<o.Lanes):=by grind
  show some _=some (!decide (20<o.Kind)&&!(true&&decide _))
  rw[ha,hb]
  cases decide (20<o.Kind)<;>cases decide (1<o.Lanes)<;>rfl
 ·grind
theorem lT(o:A2)(ho:bx o)(f:TFunc)(l:Int)(h0:0<=l)(h2:l<=2)(t:List Int)(u:List Bg):Ie o f l t u=some (Rh l o,f,l,t,u):=by
 unfold Ie Rh;rw[QQ o ho,Aj]
 cases hk:Ju o with
 | false=>rfl
 | true=>
  rw[show(true==true)=true from rfl,Af,wz o l h0 h2 hk,Aj,Af,Hi]
theorem tE(b:Ab){f:TFunc}(hf:OkF f)(hb:b∈f.Blocks)(l:Int)(h0:0<=l)(h2:l<=2)(t:List Int)(u:List Bg):Md b.Ops f l t u=some (b.Ops.all (Rh l),f,l,t,u):=by
 have hB:=hf.block b hb
 have key:∀ k i ,i+k=b.Ops.length->Ad (G7 b.Ops) (i,f.Params,f.Ret,f.Blocks,l,t,u)=some (bif (b.Ops.drop i).all (Rh l) then .inl (f.Params,f.Ret,f.Blocks,l,t,u) else .inr (false,f,l,t,u)):=by
  intro k
  induction k with
  | zero=>
   intro i h
   obtain rfl:i=b.Ops.length:=by omega
   rw[Ak (x:=.inl (f.Params,f.Ret,f.Blocks,l,t,u)) (by unfold G7;simp)]
   simp
  | succ k ih=>
   intro i h
   have hi:i<b.Ops.length:=by omega
   have hd:decide (i<(b.Ops.length:Int))=true:=by simpa using hi
   have hdr:b.Ops.drop i=b.Ops.getD i default::b.Ops.drop (i+1):=by simp_all
   have hx:=lT (b.Ops.getD i default) (mE hf hb (Ai hi)) f l h0 h2 t u;rw[hdr,FP]
   cases ho:Rh l _ with
   | true=>
    rw[ho]at hx
    rw[Ar (s':=(((i+1:Nat):Int),f.Params,f.Ret,f.Blocks,l,t,u)) (by
     unfold G7;simp only[hd, Aa (Ag hi),Cp,hx,   A0 hi (by have:=hB.ops;omega)]
     rfl),ih _ (by omega),Hi]
   | false=>
    rw[ho]at hx
    rw[Ak (x:=.inr (false,f,l,t,u)) (by
     unfold G7
     simp only[hd,Af,Aa (Ag hi),Cp,hx,Aj,L0])]
    rfl
 unfold Md;rw[show(0:Int)=(0:Nat) from rfl,key b.Ops.length 0 (by omega),L1]
 cases b.Ops.all _<;>rfl
theorem oO(b:Ab)(h:b.Phis.length<9223372036854775808):Lo b.Phis=some (b.Phis.all λp=>widthB p.Bits):=by
 unfold Lo
 rw[wr _ _ (λp=>widthB _) _ (.inl ()) _ h (λi hi=>by
  unfold Me Sa
  have hd:decide (i<(b.Phis.length:Int))=true:=by simpa using hi
  simp only[hd, Aa (Ag hi),Cp,Xf]
  cases widthB _<;>rfl) (by unfold Me;simp)]
 cases b.Phis.all _<;>rfl
theorem oN(p:List Int)(h:p.length<9223372036854775808):Pl p=some (p.all widthB):=by
 unfold Pl
 rw[wr p 0 widthB _ (.inl ()) _ h (λi hi=>by
  unfold Pw
  have hd:decide (i<(p.length:Int))=true:=by simpa using hi
  simp only[hd, Aa (Ag hi),Cp,Xf]
  cases widthB _<;>rfl) (by unfold Pw;simp)]
 cases p.all _<;>rfl
theorem ZT(b:Ab){f:TFunc}(hf:OkF f)(hb:b∈f.Blocks)(l:Int)(h0:0<=l)(h2:l<=2)(t:List Int)(u:List Bg):Gd b f l t u=some (Js l b,f,l,t,u):=by
 unfold Gd Js;rw[oO b (by have:=(hf.block b hb).phis;omega), tE b hf hb l h0 h2 t u]
 cases(b.Phis.all _)<;>rfl
theorem tQ{f:TFunc}(hf:OkF f)(l:Int)(h0:0<=l)(h2:l<=2)(t:List Int)(u:List Bg):J3 f l t u=some (bif U2 f l then 0 else 6,f,l,t,u):=by
 have key:∀ k i ,i+k=f.Blocks.length->Ad (E3 f.Blocks) (i,f.Params,f.Ret,f.Blocks,l,t,u)=some (bif (f.Blocks.drop i).all (Js l) then .inl (f.Params,f.Ret,f.Blocks,l,t,u) else .inr (false,f,l,t,u)):=by
  intro k
  induction k with
  | zero=>
   intro i h
   obtain rfl:i=f.Blocks.length:=by omega
   rw[Ak (x:=.inl (f.Params,f.Ret,f.Blocks,l,t,u)) (by unfold E3;simp)]
   simp
  | succ k ih=>
   intro i h
   have hi:i<f.Blocks.length:=by omega
   have hd:decide ((i:Int)<f.Blocks.length)=true:=by simpa using hi
   have hdr:f.Blocks.drop i=f.Blocks.getD i default::f.Blocks.drop (i+1):=by simp_all
   have hx:=ZT (f.Blocks.getD i default) hf (Ai hi) l h0 h2 t u;rw[hdr,FP]
   cases ho:Js l _ with
   | true=>
    rw[ho]at hx
    rw[Ar (s':=(((i+1:Nat):Int),f.Params,f.Ret,f.Blocks,l,t,u)) (by
     unfold E3;simp only[hd, Aa (Ag hi),Cp,hx,   A0 hi (by have:=hf.blocks;omega)]
     rfl),ih _ (by omega),Hi]
   | false=>
    rw[ho]at hx
    rw[Ak (x:=.inr (false,f,l,t,u)) (by
     unfold E3
     simp only[hd,Af,Aa (Ag hi),Cp,hx,Aj,L0])]
    rfl
 have hall:J2 f.Blocks f l t u=some (f.Blocks.all (Js l),f,l,t,u):=by
  unfold J2;rw[show(0:Int)=(0:Nat) from rfl,key f.Blocks.length 0 (by omega),L1]
  cases f.Blocks.all _<;>rfl
 unfold J3 U2 Nv;rw[oN _ (by have:=hf.few;omega), hall,Xf]
 cases f.Params.all _<;>cases widthB f.Ret<;>cases f.Blocks.all _<;>rfl
def vU(d:Ce):L8:=bif decide (d.Block<0) then⟨0,-1⟩ else⟨d.Block,d.At⟩
def SW(d:Ce):Ax:=⟨d.Shape,vU d⟩
def dv(l:List Ce):List (Int×Ax):=l.map λd=>(d.V,SW d)
def VH(acc:List (Int×Ax))(v:Int):Bool:=(Kg acc v || decide (v<1)) || decide (1023<v)
def Ll:List (Int×Ax)->List Ce->Bool×List (Int×Ax)
 | acc,[]=>(true,acc)
 | acc,d::ds=>bif VH acc d.V then(false,acc) else Ll (Ow acc d.V (SW d)) ds
theorem KD:∀(a b:List Ce) (acc:List (Int×Ax)),Ll acc (a++b)=bif (Ll acc a).1 then Ll (Ll acc a).2 b else Ll acc a
 | [],b,acc=>rfl
 | d::a,b,acc=>by
  rw[GY];simp only[Ll]
  cases VH acc d.V with
  | true=>rfl
  | false =>  exact KD a b _
theorem RD{V:Type}(k:Int):∀ l:List (Int×V),Kg l k=l.any λq=>k==q.1
 | []=>rfl
 | (a,b)::l=>by rw[List.any_cons,<- RD k l];rfl
theorem KP{V:Type}(k:Int)(v:V):∀{l:List (Int×V)},Kg l k=false->Ow l k v=l++[(k,v)]
 | [],_=>rfl
 | (a,b)::l,h=>by
  simp only[Kg,bT]at h;simp only[Ow,h.1,Aq,KP k v h.2,GY]
theorem cY(v:Int)(s:Int×Int)(p:L8)(f:TFunc)(l:Int)(t:List Int)(vs:List (Int×Ax))(u:List Bg) :
  Ge v s p f l t vs u=some (bif VH vs v then(false,f,l,t,u,vs) else(true,f,l,t,u,Ow vs v ⟨s,p⟩)):=by
 unfold Ge VH
 cases Kg vs v<;>cases decide (v<1)<;>cases decide (1023<v)<;>rfl
def ul(f:TFunc)(l:Int)(t:List Int)(u:List Bg)(r:Bool×List (Int×Ax)):(List Int×Int×List Ab×Int×List Int×List Bg×List (Int×Ax)) ⊕ (Bool×TFunc×Int×List Int×List Bg×List (Int×Ax)):=
 bif r.1 then .inl (f.Params,f.Ret,f.Blocks,l,t,u,r.2) else .inr (false,f,l,t,u,r.2)
theorem w7(b:Ab)(h:b.Phis.length<9223372036854775808)(i:Nat)(f:TFunc)(l:Int)(t:List Int)(u:List Bg):∀(k j:Nat) (vs:List (Int×Ax)),j+k=b.Phis.length->
  Ad (Dl (i:Int) b) ((j:Int),f.Params,f.Ret,f.Blocks,l,t,u,vs)=some (ul f l t u (Ll vs ((List.range' j k).flatMap λ(k:Nat)=>[(⟨(b.Phis.getD k default).Dst,i,-1,((b.Phis.getD k default).Bits,1)⟩:Ce)]))):=by
 intro k
 induction k with
 | zero=>
  intro j vs hj
  obtain rfl:j=b.Phis.length:=by omega
  rw[Ak (x:=.inl (f.Params,f.Ret,f.Blocks,l,t,u,vs)) (by unfold Dl;simp)]
  rfl
 | succ k ih=>
  intro j vs hj
  have hi:j<b.Phis.length:=by omega
  have hd:decide (j<(b.Phis.length:Int))=true:=by simpa using hi
  have hx:=cY (b.Phis.getD j default).Dst ((b.Phis.getD j default).Bits,1) ⟨(i:Int),-1⟩ f l t vs u
  have hat:vU ⟨(b.Phis.getD j default).Dst,i,-1,((b.Phis.getD j default).Bits,1)⟩=⟨i,-1⟩:=by   rfl
  rw[CX,LL,List.singleton_append];simp only[Ll]
  cases hb:VH vs _ with
  | true=>
   rw[hb]at hx
   rw[Ak  (by
    unfold Dl D8;simp only[hd, Aa (Ag hi),Cp,Aj];rw[ hx]
    rfl)]
   rfl
  | false=>
   rw[hb]at hx
   rw[Ar (s':=(((j+1:Nat):Int),f.Params,f.Ret,f.Blocks,l,t,u,Ow vs _ _)) (by
    unfold Dl D8;simp only[hd, Aa (Ag hi),Cp,Aj];rw[ hx,A0 hi h]
    rfl),ih _ _ (by omega)]
   unfold SW
   rfl
theorem zY{f0:TFunc}(hf:OkF f0){b:Ab}(hb:b∈f0.Blocks)(i:Nat)(f:TFunc)(l:Int)(t:List Int)(u:List Bg):∀(k j:Nat) (vs:List (Int×Ax)),j+k=b.Ops.length->
  Ad (Cj (i:Int) b) ((j:Int),f.Params,f.Ret,f.Blocks,l,t,u,vs)=some (ul f l t u (Ll vs ((List.range' j k).flatMap λ(k:Nat)=>bif decide (0<(Pv (b.Ops.getD k default)).1) then[(⟨(b.Ops.getD k default).Dst,i,k,Pv (b.Ops.getD k default)⟩:Ce)] else[]))):=by
 have hB:=hf.block b hb;intro k
 induction k with
 | zero=>
  intro j vs hj
  obtain rfl:j=b.Ops.length:=by omega
  rw[Ak (x:=.inl (f.Params,f.Ret,f.Blocks,l,t,u,vs)) (by unfold Cj;simp)]
  rfl
 | succ k ih=>
  intro j vs hj
  have hi:j<b.Ops.length:=by omega
  have hd:decide ((j:Int)<(b.Ops.length:Int))=true:=by simpa using hi
  have hg:Qv _=some (Pv (b.Ops.getD j default)):=gV _ (mE hf hb (Ai hi));have hx:=cY (b.Ops.getD j default).Dst (Pv (b.Ops.getD j default)) (⟨(i:Int),(j:Int)⟩:L8) f l t vs u
  have hat:vU (⟨(b.Ops.getD j default).Dst,i,j,Pv (b.Ops.getD j default)⟩:Ce)=⟨(i:Int),(j:Int)⟩:=by unfold vU; rfl
  rw[CX,LL]
  cases hp:decide (0<(Pv _).1) with
  | false=>
   rw[Aq,V2,<- ih (j+1) vs (by omega),Ar (s':=(((j+1:Nat):Int),f.Params,f.Ret,f.Blocks,l,t,u,vs)) (by
    unfold Cj;simp only[hd,Af,Aa (Ag hi),Cp,hg,Aj,hp];rw[A0 hi (by have:=hB.ops;omega)]
    rfl)]
  | true=>
   rw[Af,List.singleton_append];simp only[Ll]
   cases hb:VH vs _ with
   | true=>
    rw[hb]at hx
    rw[Ak  (by
     unfold Cj;simp only[hd,Af,Aa (Ag hi),Cp,hg,Aj,hp];rw[show(true==true)=true from rfl,Af, hx]
     rfl)]
    rfl
   | false=>
    rw[hb]at hx
    rw[Ar (s':=(((j+1:Nat):Int),f.Params,f.Ret,f.Blocks,l,t,u,Ow vs _ _)) (by
     unfold Cj;simp only[hd,Af,Aa (Ag hi),Cp,hg,Aj,hp];rw[show(true==true)=true from rfl,Af, hx,A0 hi (by have:=hB.ops;omega)]
     rfl),ih (j+1) _ (by omega)]
    unfold SW
    rfl
theorem cZ{f:TFunc}(hf:OkF f){b:Ab}(hb:b∈f.Blocks)(i:Nat)(l:Int)(t:List Int)(u:List Bg)(vs:List (Int×Ax)) :
  Gz (i:Int) b f l t vs u=some ((Ll vs (Ue b i)).1,f,l,t,u,(Ll vs (Ue b i)).2):=by
 unfold Gz Ue;rw[show 0=((0:Nat):Int) from rfl,w7 b (by have:=(hf.block b hb).phis;omega) i f l t u b.Phis.length 0 vs (by omega),Aj,KD];rw[show(List.range' 0 _).flatMap _=Vm b i by rw[Vm,P9]];unfold ul
 cases h1:(Ll vs _).1 with
 | false=>grind
 | true=>
  simp only[Af];rw[zY hf hb i f l t u b.Ops.length 0 _ (by omega)];rw[show(List.range' 0 _).flatMap _=GE b i by rw[GE,P9]];unfold ul;cases h2:(Ll _ _).1<;>rfl
theorem XV{l:List Ce}{i:Nat}(hi:i<l.length):Uo l i=true↔valS (l.getD i default).V=true/\∀ j,j<i->(l.getD j default).V≠(l.getD i default).V:=by
 unfold Uo;rw[A1];refine and_congr Iff.rfl ?_;unfold Ns
 cases hx:l.findIdx? _ with
 | none=>
  rw[List.findIdx?_eq_none_iff]at hx;have:=hx _ (Ai (d:=default) hi);simp at this
 | some j=>
  obtain⟨hj,h1,h2⟩:=List.findIdx?_eq_some_iff_getElem.1 hx;simp only[zzL47]
  constructor
  ·grind
  ·intro h
   have hv:(l.getD j default).V=(l.getD i default).V:=by grind
   rcases Nat.lt_trichotomy j i with hlt|rfl|hgt
   ·grind
   ·rfl
   ·grind
theorem uL(l:List Ce)(v:Int):Kg (dv l) v=l.any λd=>v==d.V:=by
 rw[RD,dv,List.any_map];rfl
theorem QE:∀(ds pre:List Ce),(Ll (dv pre) ds).1=(List.range' pre.length ds.length).all (Uo (pre++ds))/\((Ll (dv pre) ds).1=true->(Ll (dv pre) ds).2=dv (pre++ds))
 | [],pre=>by simp[Ll]
 | d::ds,pre=>by
  have hi:pre.length<(pre++d::ds).length:=by simp
  have hg:(pre++d::ds).getD pre.length default=d:=by simp[List.getD]
  have hj:∀ j,j<pre.length->(pre++d::ds).getD j default=pre.getD j default:=λj h=>by grind
  have hok:Uo (pre++d::ds) pre.length = !VH (dv pre) d.V:=by
   rw[Xh,XV hi,hg];unfold VH valS;rw[uL];simp only[Rn,bT,TF,List.any_eq_false,zzL47,A1,Ds]
   constructor
   ·rintro⟨⟨h1,h2⟩,h3⟩;refine⟨⟨λx hx he=>?_,by omega⟩,by omega⟩;obtain⟨j,hjl,rfl⟩:=N9 hx;have:=h3 j hjl;rw[hj j hjl,Am _ _ _ hjl]at this;exact this he.symm
   ·grind
  rw[R0,CX,FP,hok];simp only[Ll]
  cases hb:VH _ d.V with
  | true=>grind
  | false=>
   have hn :=by
    unfold VH at hb;simp only[bT]at hb;exact hb.1.1
   have hs:Ow (dv pre) d.V (SW d)=dv (pre++[d]):=by rw[KP _ _ hn,dv,dv,JK];rfl
   have:=QE ds (pre++[d]);rw[Du,U9]at this;rw[ hs,L0];exact this
def pv(f:TFunc)(n:Nat):List (Int×Ax):=(List.range n).map λ(j:Nat)=>((j:Int)+1,⟨(f.Params.getD j 0,1),⟨0,-1⟩⟩)
theorem Aai(f:TFunc):pv f f.Params.length=dv (Th f):=by
 unfold pv dv Th
 induction List.range _ with
 | nil=>rfl
 | cons a l ih=>rw[Cb, ih];rfl
theorem oU{f:TFunc}(hf:OkF f):∀(k i:Nat),i+k=f.Params.length->Ad (Gf f) ((i:Int),pv f i)=some (pv f f.Params.length):=by
 intro k
 induction k with
 | zero=>
  intro i h
  obtain rfl:i=f.Params.length:=by omega
  exact Ak (by unfold Gf;simp)
 | succ k ih=>
  intro i h
  have hi:i<f.Params.length:=by omega
  have hd:decide ((i:Int)<(f.Params.length:Int))=true:=by simpa using hi
  have hn:Kg (pv f i) ((i:Int)+1)=false:=by
   rw[RD,pv,List.any_map,List.any_eq_false];intro j hj;have:=zzL85.1 hj
   simp;omega
  have hs:Ow (pv f i) ((i:Int)+1) ⟨(f.Params.getD i 0,1),⟨0,-1⟩⟩=pv f (i+1):=by
   rw[KP _ _ hn,pv,pv,FN,JK];rfl
  rw[Ar  (by
   unfold Gf D8;simp only[hd,Af,Aa (Ag hi),Cp,Aj,A0 hi (by have:=hf.few;omega),hs]
   rfl)]
  exact ih (i+1) (by omega)
theorem oP{f:TFunc}(hf:OkF f)(l:Int)(t:List Int)(u:List Bg):∀(k i:Nat) (vs:List (Int×Ax)),i+k=f.Blocks.length->
  Ad (D7 f) ((i:Int),vs,f.Params,f.Ret,f.Blocks,l,t,u)=some (bif (Ll vs ((List.range' i k).flatMap λi=>Ue (f.Blocks.getD i default) i)).1 then .inl ((Ll vs ((List.range' i k).flatMap λi=>Ue (f.Blocks.getD i default) i)).2,f.Params,f.Ret,f.Blocks,l,t,u) else
   .inr (7,f,l,t,u,(Ll vs ((List.range' i k).flatMap λi=>Ue (f.Blocks.getD i default) i)).2)):=by
 intro k
 induction k with
 | zero=>
  intro i vs h
  obtain rfl:i=f.Blocks.length:=by omega
  rw[Ak (x:=.inl (vs,f.Params,f.Ret,f.Blocks,l,t,u)) (by unfold D7;simp)]
  rfl
 | succ k ih=>
  intro i vs h
  have hi:i<f.Blocks.length:=by omega
  have hd:decide (i<(f.Blocks.length:Int))=true:=by simpa using hi
  have hx:=cZ hf (Ai (d:=default) hi) i l t u vs;rw[CX,LL,KD]
  cases hb:(Ll vs _).1 with
  | false=>
   rw[hb]at hx
   rw[Ak  (by
    unfold D7;simp only[hd, Aa (Ag hi),Cp];rw[ hx]
    rfl),Aq,hb]
   rfl
  | true=>
   rw[hb]at hx
   rw[Ar (s':=(((i+1:Nat):Int),(Ll vs _).2,f.Params,f.Ret,f.Blocks,l,t,u)) (by
    unfold D7;simp only[hd, Aa (Ag hi),Cp];rw[ hx,A0 hi (by have:=hf.blocks;omega)]
    rfl),ih _ _ (by omega),Af]
theorem okP{f:TFunc}(hf:OkF f):∀ i,i<f.Params.length->Uo (Bi f) i=true:=λi hi=>by
 have hl:=DR f
 have hg:∀ j,j<f.Params.length->(Bi f).getD j default=⟨j+1,-1,0,(f.Params.getD j 0,1)⟩:=λj hj=>by
  have e:Th f=(List.range f.Params.length).map λi=>⟨(i:Int)+1,-1,0,(f.Params.getD i 0,1)⟩:=by
   unfold Th
   induction List.range _ with
   | nil=>rfl
   | cons a l ih=>grind
  rw[Bi,List.getD,V0 (by omega),e];simp[hj]
 have hle:i<(Bi f).length:=by rw[Bi,Du];omega
 rw[XV hle,hg i hi];refine⟨?_,λj hj=>?_⟩
 ·have:=hf.few;simp only[valS,A1,Ds];omega
 ·grind
theorem lQ{f:TFunc}(hf:OkF f)(l:Int)(t:List Int)(u:List Bg):∃ vs,Ib f l t u=some (bif (List.range (Bi f).length).all (Uo (Bi f)) then 0 else 7,f,l,t,u,vs)/\((List.range (Bi f).length).all (Uo (Bi f))=true->vs=dv (Bi f)):=by
 have hsp:=QE ((List.range f.Blocks.length).flatMap λi=>Ue (f.Blocks.getD i default) i) (Th f)
 have hall:(List.range (Bi f).length).all (Uo (Bi f))=(Ll (dv (Th f)) ((List.range f.Blocks.length).flatMap λi=>Ue (f.Blocks.getD i default) i)).1:=by
  rw[hsp.1]
  show(List.range _).all _=(List.range' _ _).all (Uo (Bi f))
  have hs:List.range (Bi f).length=List.range (Th f).length++List.range' (Th f).length ((List.range f.Blocks.length).flatMap λi=>Ue (f.Blocks.getD i default) i).length:=by
   rw[P9,P9,Bi,Du];have:=List.range'_append_1 (s:=0) (m:=(Th f).length) (n:=((List.range f.Blocks.length).flatMap λi=>Ue (f.Blocks.getD i default) i).length);rw[Hq]at this;exact this.symm
  rw[hs,List.all_append];have :=zzL29.2 λi hi=>okP hf i (by rw[<- DR f];exact zzL85.1 hi);rw[this,Hi]
 unfold Ib;have hp:=oU hf f.Params.length 0 (by omega);have e0:pv f 0=[]:=rfl;rw[e0,show(((0:Nat):Int))=0 from rfl]at hp;rw[hp,Aj,Aai];have hb:=oP hf l t u f.Blocks.length 0 (dv (Th f)) (by omega);rw[show(((0:Nat):Int))=0 from rfl,<- P9]at hb;rw[hb, hall];refine⟨(Ll _ _).2,?_,hsp.2⟩
 cases(Ll _ _).1<;>rfl
theorem DZ{β S X:Type}(B:Nat)(mk:Int->List β->S)(out:List β->X)(n:Nat)(E:Nat->List β)(f:S->Option (LR S X))(hn:∀(acc:List β) (i:Nat),i<n->(acc++E i).length<=B->f (mk i acc)=some (.next (mk ((i:Int)+1) (acc++E i))))
  (hd:∀ acc:List β,f (mk n acc)=some (.done (out acc))):∀(k i:Nat) (acc:List β),i+k=n->(acc++(List.range' i k).flatMap E).length<=B->Ad f (mk i acc)=some (out (acc++(List.range' i k).flatMap E))
 | 0,i,acc,h,_=>by
  obtain rfl:i=n:=by omega
  rw[Ak (hd acc)]
  simp
 | k+1,i,acc,h,hB=>by
  have hi:i<n:=by omega
  rw[CX,LL,<- U9]at hB ⊢;rw[Ar (hn acc i hi (by grind)),show(i+1)=((i+1:Nat):Int) by omega,DZ B mk out n E f hn hd k _ _ (by omega) hB]
theorem dV{β γ:Type}(h:β->γ)(n:Nat)(g:Nat->β):(List.range' 0 n).flatMap (λj=>[h (g j)])=((List.range n).flatMap λj=>[g j]).map h:=by
 rw[List.map_flatMap,P9];rfl
theorem RA{β γ:Type}(h:β->γ)(n:Nat)(g:Nat->List β):(List.range' 0 n).flatMap (λj=>(g j).map h)=((List.range n).flatMap g).map h:=by
 rw[List.map_flatMap,P9]
def Tb(f:TFunc)(b:Int):Int:=((f.Blocks.getD b.toNat default).Ops.length:Int)
def Jx(f:TFunc)(u:Db):Bg:=⟨u.V,u.Shape,⟨u.Block,bif u.At==1000 then Tb f u.Block else u.At⟩⟩
theorem jX(f:TFunc)(l:Int)(t:List Int)(vs:List (Int×Ax))(v:Int)(s:Int×Int)(p:L8)(u:List Bg)(h:(u++[(⟨v,s,p⟩:Bg)]).length<=10000000):Es v s p f l t vs u=some (f,l,t,u++[⟨v,s,p⟩]):=by
 unfold Es;rw[Ac (by rw[Du]at h;rw[JE];omega)]
theorem oS(f:TFunc)(l:Int)(t:List Int)(vs:List (Int×Ax))(b:Int)(hb:As b f.Blocks.length)(u:List Bg):Gq b f l t vs u=some (⟨b,Tb f b⟩,f,l,t,u):=by
 unfold Gq;rw[Ac hb];rfl
section
variable {f:TFunc} (hf:OkF f) (l:Int) (t:List Int) (vs:List (Int×Ax))
include hf
theorem w6(i k:Nat)(hi:i<f.Blocks.length)(hk:k<(f.Blocks.getD i default).Phis.length)(hfit:((f.Blocks.getD i default).Phis.getD k default).Args.length<=((f.Blocks.getD i default).Phis.getD k default).From.length)
  (hin:∀ x∈((f.Blocks.getD i default).Phis.getD k default).From,As x f.Blocks.length) (u:List Bg) (hB:(u++(Pf ((f.Blocks.getD i default).Phis.getD k default)).map (Jx f)).length<=10000000) :
  Ad (D2 f vs (i:Int) (k:Int)) ((0:Int),f.Params,f.Ret,f.Blocks,l,t,u)=some (f.Params,f.Ret,f.Blocks,l,t,u++(Pf ((f.Blocks.getD i default).Phis.getD k default)).map (Jx f)):=by
 have hlen:=RO hf (Ai  hi) (Ai (d:=default) hk)
 generalize hp:(f.Blocks.getD i _).Phis.getD k _=p at *
 have e:=dV (Jx f) p.Args.length λj=>⟨p.Args.getD j 0,p.From.getD j 0,1000,(p.Bits,1)⟩
 have:=DZ _ (λj u=>(j,f.Params,f.Ret,f.Blocks,l,t,u)) (λu=>(f.Params,f.Ret,f.Blocks,l,t,u)) _ (λj=>[Jx f _]) (D2 f vs i k) (λacc j hj hacc=>by
  unfold D2 D8
  have hd:decide (j<(p.Args.length:Int))=true:=by simpa using hj
  have hjf:j<p.From.length:=by omega
  simp only[Cp,hp,hd,Af,Aa (Ag hj),Aj,Aa (Ag hjf)];rw[ oS f l t vs _ (hin _ (Ai hjf)),Aj];have eu:Jx f ⟨p.Args.getD j 0,p.From.getD j 0,1000,(p.Bits,1)⟩=⟨p.Args.getD j 0,(p.Bits,1),⟨p.From.getD j 0,Tb f _⟩⟩:=rfl;rw[eu]at hacc ⊢
  rw[jX f l t vs _ _ _ acc hacc,Aj,A0 hj (by omega)]) (λacc=>by unfold D2;simp only[Cp,hp,show decide (p.Args.length<(p.Args.length:Int))=false by simp,Aq]) p.Args.length 0 u (by omega) (by rw[e];exact hB)
 rw[e]at this;exact this
theorem tO(i:Nat)(hi:i<f.Blocks.length)(hfit:∀ p∈(f.Blocks.getD i default).Phis,p.Args.length<=p.From.length/\∀ x∈p.From,As x f.Blocks.length)(u:List Bg)(hB:(u++(Oj (f.Blocks.getD i default)).map (Jx f)).length<=10000000) :
  Ad (D3 f vs (i:Int)) ((0:Int),f.Params,f.Ret,f.Blocks,l,t,u)=some (f.Params,f.Ret,f.Blocks,l,t,u++(Oj (f.Blocks.getD i default)).map (Jx f)):=by
 have hBk:=hf.block _ (Ai (d:=default) hi);have e:=RA (Jx f) (f.Blocks.getD i default).Phis.length λk=>Pf ((f.Blocks.getD i default).Phis.getD k default)
 have:=DZ _ (λj u=>(j,f.Params,f.Ret,f.Blocks,l,t,u)) (λu=>(f.Params,f.Ret,f.Blocks,l,t,u)) _ _ (D3 f vs i) (λacc k hk hacc=>by
  have hq:=hfit _ (Ai (d:=default) hk);have h1:=w6 hf l t vs i k hi hk hq.1 hq.2 acc hacc;unfold D3
  have hd:decide ((k:Int)<(f.Blocks.getD i default).Phis.length)=true:=by simpa using hk
  simp only[Cp,hd,Af,Aa (Ag hk),h1,Aj,A0 hk (by have:=hBk.phis;omega)]) (λacc=>by unfold D3;simp) (f.Blocks.getD i default).Phis.length 0 u (by omega) (by rw[e];exact hB)
 rw[e]at this;exact this
theorem zX(i k:Nat)(hi:i<f.Blocks.length)(hk:k<(f.Blocks.getD i default).Ops.length)(u:List Bg)(hB:(u++(So ((f.Blocks.getD i default).Ops.getD k default) i k).map (Jx f)).length<=10000000) :
  Ad (D4 f vs (i:Int) (k:Int) (Jg ((f.Blocks.getD i default).Ops.getD k default))) ((0:Int),f.Params,f.Ret,f.Blocks,l,t,u)=some (f.Params,f.Ret,f.Blocks,l,t,u++(So ((f.Blocks.getD i default).Ops.getD k default) i k).map (Jx f)):=by
 have hBk:=hf.block _ (Ai (d:=default) hi);have hlen:=Yq (XY hf (Ai  hi) (Ai (d:=default) hk));have hk512:=hBk.ops
 generalize hp:(f.Blocks.getD i _).Ops.getD k _=o at *
 have e:=dV (Jx f) (Jg o).length λj=>⟨o.Args.getD j 0,i,k,(Jg o).getD j (0,0)⟩
 have:=DZ _ (λj u=>(j,f.Params,f.Ret,f.Blocks,l,t,u)) (λu=>(f.Params,f.Ret,f.Blocks,l,t,u)) _ (λj=>[Jx f _]) (D4 f vs i k (Jg o)) (λacc j hj hacc=>by
  have hkk:((k:Int)==1000)=false:=by simp;omega
  have eu:Jx f ⟨o.Args.getD j 0,i,k,(Jg o).getD j (0,0)⟩=⟨o.Args.getD j 0,(Jg o).getD j (0,0),⟨i,k⟩⟩:=by unfold Jx;simp only[hkk,Aq]
  rw[eu]at hacc ⊢;unfold D4
  have hd:decide (j<((Jg o).length:Int))=true:=by simpa using hj
  have hja:j<o.Args.length:=by omega
  simp only[Cp,hp,hd,Af,Aa (Ag hj),Aa (Ag hja)]
  rw[ jX f l t vs _ _ _ acc hacc,Aj,A0 hj (by omega)]) (λacc=>by unfold D4;simp) (Jg o).length 0 u (by omega) (by rw[e];exact hB)
 rw[e]at this;exact this
theorem w5(i:Nat)(hi:i<f.Blocks.length)(u:List Bg)(hB:(u++(U3 (f.Blocks.getD i default) i).map (Jx f)).length<=10000000) :
  Ad (D5 f vs (i:Int)) ((0:Int),f.Params,f.Ret,f.Blocks,l,t,u)=some (f.Params,f.Ret,f.Blocks,l,t,u++(U3 (f.Blocks.getD i default) i).map (Jx f)):=by
 have hmem:=Ai (d:=default) hi;have hBk:=hf.block _ hmem;have e:=RA (Jx f) (f.Blocks.getD i default).Ops.length λk=>So ((f.Blocks.getD i default).Ops.getD k default) i k
 have:=DZ _ (λj u=>(j,f.Params,f.Ret,f.Blocks,l,t,u)) (λu=>(f.Params,f.Ret,f.Blocks,l,t,u)) _ _ (D5 f vs i) (λacc k hk hacc=>by
  have h1:=zX hf l t vs i k hi hk acc hacc;have ht:Qw _=some (Jg ((f.Blocks.getD i _).Ops.getD k default)):=gX _ (mE hf hmem (Ai hk));unfold D5
  have hd:decide (k<((f.Blocks.getD i default).Ops.length:Int))=true:=by simpa using hk
  simp only[Cp,hd,Af,Aa (Ag hk),ht,h1,Aj,A0 hk (by have:=hBk.ops;omega)]) (λacc=>by unfold D5;simp) (f.Blocks.getD i default).Ops.length 0 u (by omega) (by rw[e];exact hB)
 rw[e]at this;exact this
theorem lO (hfit : ∀ b ∈ f.Blocks, ∀ p ∈ b.Phis, p.Args.length ≤ p.From.length ∧ ∀ x ∈ p.From, As x f.Blocks.length) : Ia f l t vs [] = some (f, l, t, (B7 f).map (Jx f)) := by
  have e := RA (Jx f) f.Blocks.length fun (i : Nat) => NH f (f.Blocks.getD i default) i; have hul := LH hf
  have := DZ 10000000 (fun j u => (j, f.Params, f.Ret, f.Blocks, l, t, u)) (fun u => (f.Params, f.Ret, f.Blocks, l, t, u)) f.Blocks.length (fun (i : Nat) => (NH f (f.Blocks.getD i default) i).map (Jx f)) (D6 f vs) (fun acc i hi hacc => by
    have hmem := Ai (d := (default : Ab)) hi; unfold NH at hacc ⊢; rw [JK, JK, ← U9, ← U9] at hacc ⊢; have l1 := hacc; simp only [Du, L5] at l1; have h1 := tO hf l t vs i hi (hfit _ hmem) acc (by simp only [Du, L5]; omega); have h2 := w5 hf l t vs i hi (acc ++ (Oj (f.Blocks.getD i default)).map (Jx f)) (by simp only [Du, L5]; omega); have hinb : As (i : Int) f.Blocks.length := Ag hi; unfold D6 D8
    have hd : decide ((i : Int) < (f.Blocks.length : Int)) = true := by simpa using hi
    simp only [hd, Af, Aa (Ag hi), h1, Aj, h2, Cp]; have hF : (⟨f.Params, f.Ret, f.Blocks⟩ : TFunc) = f := rfl; have hw : w64 ((i : Int) + 1) = (i : Int) + 1 := A0 hi (by have := hf.blocks; omega); unfold EK at hacc ⊢
    cases hz : ((f.Blocks.getD i default).End.Kind == 0) with
    | true =>
      have hz2 : ((f.Blocks.getD i default).End.Kind == 2) = false := by have : (f.Blocks.getD i default).End.Kind = 0 := by simpa using hz
                                                                         rw [this]; rfl
      rw [hz, hz2] at hacc; simp only [Af, Aq, hz2, List.append_nil, Cb, Ix] at hacc ⊢; rw [hF, oS f l t vs _ hinb, Aj]; simp only; rw [jX f l t vs _ _ _ _ (show (_ ++ [(⟨_, _, ⟨(i : Int), Tb f (i : Int)⟩⟩ : Bg)]).length ≤ 10000000 from hacc), Aj, Aj, hw]
      rfl
    | false =>
      rw [hz] at hacc
      cases hz2 : ((f.Blocks.getD i default).End.Kind == 2) with
      | true =>
        rw [hz2] at hacc; simp only [Af, Aq, V2, Cb, Ix] at hacc ⊢; rw [hF, oS f l t vs _ hinb, Aj]; simp only; rw [jX f l t vs _ _ _ _ (show (_ ++ [(⟨_, _, ⟨(i : Int), Tb f (i : Int)⟩⟩ : Bg)]).length ≤ 10000000 from hacc), Aj, Aj, hw]
        rfl
      | false =>
        simp only [Aq, V2, Ix, List.append_nil, Aj, hw]) (fun acc => by unfold D6; simp) f.Blocks.length 0 [] (by omega) (by rw [e]; simpa [B7] using (by omega : (B7 f).length ≤ 10000000))
  rw [e, V2] at this; unfold Ia; rw [show (0 : Int) = ((0 : Nat) : Int) from rfl]
  show ((Ad (D6 f vs) (((0 : Nat) : Int), f.Params, f.Ret, f.Blocks, l, t, [])).bind _) = _
  rw [this, Aj]
  rfl
end
theorem s4{σ X:Type}(mk:Int->σ)(U:List Bg)(p:Bg->Bool)(f:σ->Option (LR σ X))(yes no:X)(hk:∀ i:Nat,i<U.length->f (mk i)=some (bif p (U.getD i default) then .next (mk ((i:Int)+1)) else .done no))(he:f (mk U.length)=some (.done yes)) :
  ∀ k i:Nat,i+k=U.length->Ad f (mk i)=some (bif (U.drop i).all p then yes else no)
 | 0,i,h=>by
  obtain rfl:i=U.length:=by omega
  rw[Ak he]
  simp
 | k+1,i,h=>by
  have hi:i<U.length:=by omega
  have hdr:U.drop i=U.getD i default::U.drop (i+1):=by simp_all
  have hx:=hk i hi;rw[hdr,FP]
  cases hp:p _ with
  | true=>
   rw[hp]at hx;rw[Ar hx,show((i:Int)+1)=(i+1:Nat) by omega,s4 mk U p f yes no hk he k _ (by omega),Hi]
  | false=>
   rw[hp]at hx;rw[Ak hx]
   rfl
theorem QI(d:Ce)(l:List Ce)(v:Int):Ns (d::l) v=bif d.V==v then 0 else bif decide (Ns l v<0) then -1 else Ns l v+1:=by
 unfold Ns;rw[List.findIdx?_cons]
 cases d.V==v with
 | true=>rfl
 | false=>
  grind
theorem RE(v:Int):∀ l:List Ce,Kg (dv l) v = !decide (Ns l v<0)
 | []=>rfl
 | d::l=>by
  rw[QI]
  show((v==d.V) || Kg (dv l) v)=_
  rw[RE v l,show(v==d.V)=(d.V==v) by grind]
  cases d.V==v with
  | true=>rfl
  | false=>
   grind
theorem GM(v:Int):∀ l:List Ce,¬ Ns l v<0->Mh (default:Ax) (dv l) v=SW (defOf l v)
 | [],h=>absurd (show -1<0 by decide) h
 | d::l,h=>by
  unfold defOf;rw[QI]at h ⊢
  show(bif v==d.V then SW d else Mh _ (dv l) v)=_
  rw[show(v==d.V)=(d.V==v) by grind]
  cases hb:d.V==v with
  | true=>rfl
  | false=>
   rw[hb]at h
   by_cases hn:Ns l v<0
   ·simp[hn]at h
   ·have hz :=Da hn;simp only[Aq,hz];rw[GM v l hn,show(Ns l v+1).toNat=(Ns l v).toNat+1 by omega]
    rfl
def m7(f:TFunc)(d:Ce):Prop:=d.Block = -1\/(As d.Block f.Blocks.length/\d.At<Tb f d.Block/\d.At<1000)
def vM(f:TFunc)(u:Db):Prop:=As u.Block f.Blocks.length/\0<=u.At
theorem td{f:TFunc}(hf:OkF f):∀ d∈Bi f,m7 f d:=λd hd=>by
 rcases zzL14.1 hd with h|h
 ·obtain⟨i,_,hi⟩:=zzL76.1 h;rw[zzL25.1 hi];exact .inl rfl
 ·obtain⟨i,hi,h⟩:=zzL76.1 h
  have hi :=by simpa using hi
  have hB:=hf.block _ (Ai (d:=default) hi);have ho:Tb f i=(f.Blocks.getD i default).Ops.length:=rfl;rcases zzL14.1 h with h|h
  ·obtain⟨k,hk,h⟩:=zzL76.1 h;rw[zzL25.1 h];refine .inr ⟨Ag hi,?_,?_⟩
   ·grind
   ·grind
  ·obtain⟨k,hk,h⟩:=zzL76.1 h
   have hk:k<(f.Blocks.getD i default).Ops.length:=by simpa using hk
   cases hg:decide (0<(Pv _).1) with
   | false=>rw[hg]at h;cases h
   | true=>
    rw[hg]at h;rw[zzL25.1 h];refine .inr ⟨Ag hi,?_,?_⟩
    ·grind
    ·show(k:Int)<1000;have:=hB.ops;omega
theorem u1{f:TFunc}(hfit:∀ b∈f.Blocks,∀ p∈b.Phis,p.Args.length<=p.From.length/\∀ x∈p.From,As x f.Blocks.length):∀ u∈B7 f,vM f u:=λu hu=>by
 obtain⟨i,hi,h⟩:=zzL76.1 hu
 have hi :=by simpa using hi
 have hmem:=Ai (d:=default) hi;rcases zzL14.1 h with h|h
 ·rcases zzL14.1 h with h|h
  ·obtain⟨k,hk,h⟩:=zzL76.1 h
   have hk :=by simpa using hk
   obtain⟨j,hj,h⟩:=zzL76.1 h;have hj:=zzL85.1 hj;have hq:=hfit _ hmem _ (Ai (d:=default) hk);rw[zzL25.1 h];exact⟨hq.2 _ (Ai (by omega)),by grind⟩
  ·obtain⟨k,hk,h⟩:=zzL76.1 h;obtain⟨j,hj,h⟩:=zzL76.1 h;rw[zzL25.1 h];exact⟨Ag hi,by grind⟩
 ·unfold EK at h
  have:u=⟨(f.Blocks.getD i default).End.Arg,i,1000,(f.Ret,1)⟩\/u=⟨(f.Blocks.getD i default).End.Arg,i,1000,(1,1)⟩:=by
   grind
  rcases this with rfl|rfl<;>exact⟨Ag hi,by grind⟩
theorem xD{f:TFunc}(h:Fk f=true):∀ b∈f.Blocks,∀ p∈b.Phis,p.Args.length<=p.From.length/\∀ x∈p.From,As x f.Blocks.length:=λb hb p hp=>by
 have hs :=by simp only[Fk,A1]at h;exact h.1
 refine⟨YL h b hb p hp,λx hx=>?_⟩;obtain⟨i,hi,rfl⟩:=N9 hb;simp only[Fk,A1]at h;have h1:=wq h.2 i hi;simp only[Mb,A1,zzL29]at h1;rw[Am _ _ _ hi]at h1;have h2:=h1.2 p hp;simp only[Jw,A1,Ds]at h2;rw[h2.1]at hx;obtain⟨q,rfl,hq,_⟩:=(CF  (Rl hs)  (by rw[Pe];exact hi)).1 hx;exact Ag (by rw[Pe]at hq;exact hq)
theorem gw{f:TFunc}(h:Fk f=true){b:Int}(hb:As b f.Blocks.length):MZ (Er f) 0 b=true:=by
 have hs :=by simp only[Fk,A1]at h;exact h.1
 have hm:=Rl hs;have hlen:=Pe f
 have hpos:0<(Bm f).length:=by have:=(shape_iff.1 hs).1.1;omega
 obtain⟨P,hP,o,ht⟩:=mV hm hpos
 have e:Er f=CO (Bm f) 0:=by
  unfold Er ST;rw[if_pos ⟨dW hm,Int.le_refl _,by show(0:Int)<(Bm f).length;omega⟩]
  rfl
 obtain⟨k,rfl⟩:∃ k:Nat,b=k:=⟨b.toNat,(Lb hb.1).symm⟩
 have hk:k<f.Blocks.length:=by have:=hb.2;omega
 simp only[Fk,A1]at h;have h1:=wq h.2 k hk;simp only[Mb,A1]at h1;have hr :=(IY (Zd hm) hpos k).1 h1.1.1;rw[e];refine(ht.over_dom o hpos (by omega)).2 ⟨rc_iff.2 hr,λha=>?_⟩;exact(av_iff.1 ha).1 rfl
theorem AY{l:List Db}{g:Db->Bg}{p:Bg->Bool}{q:Db->Bool}(h:∀ u∈l,p (g u)=q u):(l.map g).all p=l.all q:=by
 grind
def tj(vs:List (Int×Ax))(u:Bg):Bool:=((Mh (default:Ax) vs u.v).shape.1==u.shape.1)&&(((Mh (default:Ax) vs u.v).shape.2==u.shape.2)&&true)
def GA(vs:List (Int×Ax))(t:List Int)(u:Bg):Bool:=bif (Mh (default:Ax) vs u.v).place.block==u.place.block then decide ((Mh (default:Ax) vs u.v).place.at_<u.place.at_) else MZ t (Mh (default:Ax) vs u.v).place.block u.place.block
theorem nv{f:TFunc}(hs:Fk f=true){D:List Ce}(hD:∀ d∈D,m7 f d){u:Db}(hu:vM f u)(hfd:Oh D u=true):GA (dv D) (Er f) (Jx f u)=FC D (Er f) u:=by
 have hF:¬ Ns D u.V<0:=by simpa [Oh] using hfd
 have hin:=cy hF;have hd:m7 f (defOf D u.V):=hD _ (by unfold defOf;exact Ai (by have:=hin.1;have:=hin.2;omega));have hg:Mh (default:Ax) (dv D) (Jx f u).v=SW (defOf D u.V):=GM u.V D hF;unfold GA FC;rw[hg]
 generalize defOf D u.V=d at *
 have hub:=hu.1.1
 have hul:0<=Tb f u.Block:=by unfold Tb;omega
 have hat:∀ a:Int,a<0\/(a<Tb f u.Block/\a<1000)->decide (a<(Jx f u).place.at_)=decide (a<u.At)\/a<0:=λa ha=>by
  rcases ha with ha|ha
  ·exact .inr ha
  ·refine .inl ?_
   show decide (a<bif u.At==1000 then Tb f u.Block else u.At)=_
   by_cases h:u.At=1000
   ·rw[h];simp only[show((1000:Int)==1000)=true from rfl,Af];rw[F9 ha.1,F9 ha.2]
   ·have:(u.At==1000)=false:=by simpa using h
    rw[this];rfl
 have hpos:0<=(Jx f u).place.at_:=by
  show 0<=bif u.At==1000 then Tb f u.Block else u.At
  cases u.At==1000
  ·exact hu.2
  ·exact hul
 have hblk:(Jx f u).place.block=u.Block:=rfl;rw[hblk];rcases hd with hd|⟨hd1,hd2,hd3⟩
 ·have e:(SW d).place=⟨0,-1⟩:=by show vU d=_;unfold vU;rw[hd];rfl
  rw[e,hd,F9 (show(-1:Int)<0 by decide)];rw[Bool.true_or,Bool.true_or,gw hs hu.1,F9 (show(-1:Int)<(Jx f u).place.at_ by omega)]
  cases(0:Int)==u.Block<;>rfl
 ·have hn:¬ d.Block<0:=by have:=hd1.1;omega
  have e:(SW d).place=⟨d.Block,d.At⟩:=by show vU d=_;unfold vU;rw[Da hn];rfl
  rw[e,Da hn,Bool.false_or]
  cases hb:d.Block==u.Block with
  | true=>
   have hbe:d.Block=u.Block:=by simpa using hb
   simp only[Af,Hi,Dj,CZ,Bool.or_false];rcases hat d.At (.inr ⟨by rw[<- hbe];exact hd2,hd3⟩) with h|h
   ·exact h
   ·rw[F9 (by omega),F9 (by have:=hu.2;omega)]
  | false=>
   simp only[Aq,CZ,Bool.false_or,L0,Hi];unfold MZ
   by_cases hm:Ru (Er f) d.Block u.Block=d.Block
   ·rw[hm]
    have:(d.Block !=-2)=true:=by simp;omega
    simp[this]
   ·have:(Ru (Er f) d.Block u.Block==d.Block)=false:=by simpa using hm
    simp[this,bne]
section
variable {f:TFunc} (l:Int) (vs:List (Int×Ax))
def mw(f:TFunc)(l:Int)(U:List Bg)(i:Int):Int×List Int×Int×List Ab×Int×List Int×List Bg:=(i,f.Params,f.Ret,f.Blocks,l,Er f,U)
def mz(f:TFunc)(l:Int)(U:List Bg):List Int×Int×List Ab×Int×List Int×List Bg:=(f.Params,f.Ret,f.Blocks,l,Er f,U)
theorem tR(U:List Bg)(hU:U.length<9223372036854775808):Ad (Fo vs (f,l,Er f,U)) (mw f l U 0)=some (bif U.all (λu=>Kg vs u.v) then .inl (mz f l U) else .inr (mz f l U)):=by
 have:=s4 (mw f l U) U (λu=>Kg vs u.v) (Fo vs (f,l,Er f,U)) _ _ (λi hi=>by
  unfold Fo mw Lv
  have hd:decide (i<(U.length:Int))=true:=by simpa using hi
  simp only[hd, Aa (Ag hi),Cp, A0 hi hU]
  cases Kg vs _<;>rfl) (by unfold Fo mw;simp;rfl) U.length 0 (by omega)
 exact this
theorem tX(U:List Bg)(hU:U.length<9223372036854775808):Ad (Fp vs U) (mw f l U 0)=some (bif U.all (tj vs) then .inl (mz f l U) else .inr (mz f l U)):=by
 have:=s4 (mw f l U) U (tj vs) (Fp vs U) _ _ (λi hi=>by
  unfold Fp mw Nu
  have hd:decide (i<(U.length:Int))=true:=by simpa using hi
  simp only[hd, Aa (Ag hi),Cp, A0 hi hU];unfold tj
  cases(((Mh _ vs _).shape.1==(U.getD i _).shape.1)&&(((Mh _ vs _).shape.2==(U.getD i _).shape.2)&&true))<;>rfl) (by unfold Fp mw;simp;rfl) U.length 0 (by omega)
 exact this
theorem tY(htl:(Er f).length<=1000)(U:List Bg)(hU:U.length<9223372036854775808):Ad (Fq vs U) (mw f l U 0)=some (bif U.all (GA vs (Er f)) then .inl (mz f l U) else .inr (mz f l U)):=by
 have:=s4 (mw f l U) U (GA vs _) (Fq vs U) _ _ (λi hi=>by
  have hx:Ic (U.getD i default) f l (Er f) vs U=some (GA vs (Er f) (U.getD i default),f,l,Er f,U):=by
   unfold Ic GA;rw[xJ htl]
   cases(Mh _ vs _).place.block==(U.getD i _).place.block<;>rfl
  unfold Fq mw
  have hd:decide ((i:Int)<U.length)=true:=by simpa using hi
  simp only[hd, Aa (Ag hi),Cp];rw[ hx, A0 hi hU]
  cases GA vs _ _<;>rfl) (by unfold Fq mw;simp;rfl) U.length 0 (by omega)
 exact this
end
def eU(f:TFunc):Int:=bif !(B7 f).all (Oh (Bi f)) then 7 else bif !(B7 f).all (FD (Bi f)) then 6 else bif !(B7 f).all (FC (Bi f) (Er f)) then 7 else 0
theorem xA{f:TFunc}(hf:OkF f)(hs:Fk f=true)(l:Int):∃ U,Ko f l (Er f) (dv (Bi f)) []=some (eU f,f,l,Er f,U):=by
 have hfit:=xD hs;have hul:=LH hf
 have hsB :=by simp only[Fk,A1]at hs;exact hs.1
 refine⟨(B7 f).map (Jx f),?_⟩
 have hU:((B7 f).map (Jx f)).length<9223372036854775808:=by grind
 have h1:=tR (f:=f) l (dv (Bi f)) _ hU;have h2:=tX (f:=f) l (dv (Bi f)) _ hU;have h3:=tY  l (dv (Bi f)) (eQ hsB) _ hU;rw[AY (q:=Oh _) (λu _=>RE u.V _)]at h1;unfold Ko eU Tc;rw[lO hf l _ _ hfit,Aj];rw[show(Ad _ ((0:Int),f.Params,f.Ret,f.Blocks,l,Er f,(B7 f).map _))=_ from h1,Aj];have fin:∀ e ,Ad P2 (e,f.Params,f.Ret,f.Blocks,l,Er f,(B7 f).map (Jx f))=some _:=λe=>Ak rfl
 cases hfd:(B7 f).all _ with
 | false=>simp only[Aq,L0,Af,mz,Aj,fin]
 | true=>
  have hmf:=zzL29.1 hfd
  rw[AY (q:=FD _) (λu hu=>by
   have:=hmf u hu;simp only[Oh,Rn,TF]at this;have hg:Mh _ _ (Jx f u).v=SW _:=GM u.V _ this;unfold tj FD
   rw[hg];rfl)]at h2
  rw[AY  (λu hu=>nv hs (td hf) (u1 hfit u hu) (hmf u hu))]at h3;simp only[Af,Dj, mz];rw[show(Ad _ ((0:Int),f.Params,f.Ret,f.Blocks,l,Er f,(B7 f).map _))=_ from h2,Aj]
  cases(B7 f).all _ with
  | false=>simp only[Aq,L0,Af,mz,Aj,fin]
  | true=>
   simp only[Af,Dj, mz];rw[show(Ad _ ((0:Int),f.Params,f.Ret,f.Blocks,l,Er f,(B7 f).map _))=_ from h3]
   cases(B7 f).all _ with
   | false=>simp only[Aq,L0,Af,mz,Aj,fin]
   | true=>simp only[Af,Dj,Aq,mz,Aj]
theorem tZ{f:TFunc}(h:Sm f)(l:Int)(h0:0<=l)(h2:l<=2):∃ t u vs,J4 f l [] []=some (Gc f l,f,l,t,u,vs)/\(Gc f l=0->vs=dv (Bi f)):=by
 have hc:Gc f l=bif !Qd f then 4 else SY f l:=by
  unfold Gc;rw[Da (by omega),Da (by omega)];rfl
 rw[hc];unfold J4;rw[w9 f h.1,Aj]
 cases hm:Qd f with
 | false=>simp_all
 | true=>
  have hf:=kH h hm;simp only[    SY];obtain⟨t',hsh,hst⟩:=oV hf l [] [];rw[hsh,Aj]
  cases hs:Fk f with
  | false=>simp_all
  | true=>
   obtain rfl:=hst hs;rw[tQ hf l h0 h2,Aj]
   cases U2 f l with
   | false=>simp_all
   | true=>
    obtain⟨vs,hd,hv⟩:=lQ hf l _ [];rw[hd,Aj]
    cases hdd:(List.range _).all _ with
    | false=>grind
    | true=>
     obtain rfl:=hv hdd;obtain⟨U,hu⟩:=xA hf hs l;rw[hu];refine⟨Er f,U,dv _,?_,λ_=>rfl⟩
     show(bif eU f !=0 then some _ else some _)=some (eU f,f,l,Er f,U,dv _)
     cases hz:eU f !=0 with
     | true=>rfl
     | false=>
      grind
theorem tG(f:TFunc)(l:Int)(h:Sm f):Sk f l=some (Gc f l):=by
 unfold Sk
 by_cases h0:l<0
 · unfold Gc;rw[F9 h0];rfl
 ·by_cases h2:2<l
  · unfold Gc;rw[Da h0,F9 h2];rfl
  ·obtain⟨t,u,vs,hw,_⟩:=tZ h l (by omega) (by omega);rw[Da h0,Da h2,hw];rfl
abbrev bA(f:TFunc)(i:Nat):Ab:=f.Blocks.getD i default
def C2(f:TFunc)(i:Nat)(k:Nat):Int:=(bA f i).End.To.getD k 0
def HI(f:TFunc)(i:Nat):List Int:=(Cd (Bm f)).getD i []
structure Rt(f:TFunc):Prop where
 lo:1<=f.Blocks.length
 hi:f.Blocks.length<=64
 to:∀ i,i<f.Blocks.length->∀ k,k<(bA f i).End.To.length->0<C2 f i k/\C2 f i k<f.Blocks.length
 one:∀ i,i<f.Blocks.length->(bA f i).End.Kind=1->(bA f i).End.To.length=1
 two:∀ i,i<f.Blocks.length->(bA f i).End.Kind=2->(bA f i).End.To.length=2
 may:N1 (Bm f)=true
 ok:OkF f
theorem CI{f:TFunc}(h:Sm f)(hc:Gc f 2=0):Rt f:=by
 have hz:=(Pu (f:=f) (l:=2) (by omega) (by omega)).1 hc
 have hs:O2 f=true:=by
  have:=hz.2.1;unfold Fk at this;rw[A1]at this;exact this.1
 obtain⟨⟨h1,h2⟩,h3⟩:=shape_iff.1 hs
 have hw:∀ i,i<f.Blocks.length->(((bA f i).End.To.length:Nat):Int)=U5 (bA f i).End.Kind:=λi hi=>by
  have:=h3 i hi;unfold M9 BL at this;simp only[A1,Ds]at this;exact this.1.2
 refine⟨h1,h2,λi hi k hk=>?_,λi hi hk=>?_,λi hi hk=>?_,Rl hs,kH h hz.1⟩
 ·exact toB_iff.1 (ZW (h3 i hi)) _ (Ai (d:=0) hk)
 ·have:=hw i hi;rw[hk,show U5 1=1 from rfl]at this;omega
 ·have:=hw i hi;rw[hk,show U5 2=2 from rfl]at this;omega
theorem kD{f:TFunc}{i:Nat}(hi:i<f.Blocks.length):(Bm f).getD i []=JD (bA f i).End.To:=by
 unfold Bm;rw[Sj hi];rfl
theorem py(f:TFunc):(Cd (Bm f)).length=f.Blocks.length:=by rw[Py,Pe]
theorem Yl{f:TFunc}(R:Rt f){y:Nat}(hy:y<f.Blocks.length){x:Int}:x∈HI f y↔∃ p:Nat,x=(p:Int)/\p<f.Blocks.length/\(y:Int)∈(bA f p).End.To:=by
 unfold HI;have hl:=Pe f;rw[CF R.may (by omega)]
 constructor
 ·rintro⟨p,h1,h2,h3⟩;rw[pT R.may (by omega),kD (by omega),(EF _).2]at h3;exact⟨p,h1,by omega,h3⟩
 ·rintro⟨p,h1,h2,h3⟩;exact⟨p,h1,by omega,by rw[pT R.may (by omega),kD (by omega),(EF _).2];exact h3⟩
theorem pz{f:TFunc}(R:Rt f)(i:Nat):(HI f i).length<=64:=by
 unfold HI
 by_cases hi:i<(Cd (Bm f)).length
 ·exact(T0 R.may).2 _ (Ai hi)
 ·rw[ed,List.getElem?_eq_none (by omega)];simp
def Nk(f:TFunc)(a x:Int):Bool:=((bA f x.toNat).End.Kind==1)&&decide ((bA f x.toNat).Phis.length=0)&&decide (HI f x.toNat=[a])
theorem tF{f:TFunc}(R:Rt f)(a x:Int)(hx:As x f.Blocks.length):Gh x f.Blocks (Cd (Bm f)) a=some (bif Nk f a x then(x,C2 f x.toNat 0,true) else(-1,-1,false)):=by
 have hxn:x.toNat<f.Blocks.length:=by have:=hx.1;have:=hx.2;omega
 unfold Gh Nk;rw[Aa hx]
 have hlen:As x (Cd (Bm f)).length:=by rw[py];exact hx
 rw[Aa (λ_=>hlen)]
 by_cases hk:(bA f x.toNat).End.Kind=1
 ·have hk':((f.Blocks.getD x.toNat default).End.Kind !=1)=false:=by simpa using hk
  have hto:=R.one _ hxn hk
  by_cases hp:(bA f x.toNat).Phis.length=0
  ·have hp':decide ((0:Int)<((f.Blocks.getD x.toNat default).Phis.length:Int))=false:=by rw[show(f.Blocks.getD x.toNat default).Phis.length=0 from hp];rfl
   rw[hk',Aq,hp',show((false:Bool)==false)=true from rfl,Af,PD _ _ (by simp),Aj,Aq]
   have e1:((bA f x.toNat).End.Kind==1)=true:=by simpa using hk
   rw[e1,F9 hp,Hi,Hi];unfold HI C2
   cases decide ((Cd (Bm f)).getD x.toNat []=[a]) with
   | true=>rw[Dj,Aq,Aa (show As (0:Int) (f.Blocks.getD x.toNat default).End.To.length from⟨by omega,by rw[show(f.Blocks.getD x.toNat default).End.To.length=1 from hto];omega⟩)];rfl
   | false=>rfl
  ·have hp':decide ((0:Int)<((f.Blocks.getD x.toNat default).Phis.length:Int))=true:=F9 (by have:(f.Blocks.getD x.toNat default).Phis.length≠0:=hp;omega);rw[hk',Aq,hp',show((true:Bool)==false)=false from rfl,Aq,Aj,Af,Af,Da hp,Bool.and_false,CZ,Aq]
 ·have hk':((f.Blocks.getD x.toNat default).End.Kind !=1)=true:=by simpa using hk
  have e1:((bA f x.toNat).End.Kind==1)=false:=by simpa using hk
  rw[hk',Af,show((true:Bool)==false)=false from rfl,Aq,Aj,Af,Af,e1,CZ,CZ,Aq]
def zH:THammock:=⟨0,0,0,0⟩
def lM(f:TFunc)(a:Int)(x y:Int):Bool:=Nk f a x&&Nk f a y&&(C2 f x.toNat 0==C2 f y.toNat 0)&&!(C2 f x.toNat 0==a)
def WU(f:TFunc)(a:Int)(x y:Int):Bool:=Nk f a x&&(C2 f x.toNat 0==y)&&!(y==a)
def Zq(f:TFunc)(i:Nat):Option THammock:=
 bif ((bA f i).End.Kind==2)&&!(C2 f i 0==C2 f i 1) then
  bif lM f i (C2 f i 0) (C2 f i 1) then some ⟨i,C2 f i 0,C2 f i 1,C2 f (C2 f i 0).toNat 0⟩ else
  bif WU f i (C2 f i 0) (C2 f i 1) then some ⟨i,C2 f i 0,-1,C2 f i 1⟩ else
  bif WU f i (C2 f i 1) (C2 f i 0) then some ⟨i,-1,C2 f i 1,C2 f i 0⟩ else none
 else none
section
variable {f:TFunc} (R:Rt f) {a:Int} {i:Nat} (hi:i<f.Blocks.length) (hk:(bA f i).End.Kind=2)
include R hi hk
theorem P7(k:Nat)(hk2:k<2):As (C2 f i k) f.Blocks.length:=by
 have:=R.to i hi k (by rw[R.two i hi hk];exact hk2);exact⟨by omega,this.2⟩
theorem tI:Nd i (bA f i).End.To f.Blocks (Cd (Bm f)) i f.Blocks (Cd (Bm f)) i =
  some (bif lM f i (C2 f i 0) (C2 f i 1) then(⟨i,C2 f i 0,C2 f i 1,C2 f (C2 f i 0).toNat 0⟩,true) else(zH,false)):=by
 have h2:=R.two i hi hk;unfold Nd;rw[Aa (show As (0:Int) (bA f i).End.To.length from⟨by omega,by omega⟩)];have e0:=tF R i (C2 f i 0) (P7 R hi hk 0 (by omega));have e1:=tF R i (C2 f i 1) (P7 R hi hk 1 (by omega));have g0:(bA f i).End.To.getD (0:Int).toNat 0=C2 f i 0:=rfl;have g1:(bA f i).End.To.getD (1:Int).toNat 0=C2 f i 1:=rfl;rw[g0,g1,e0,Aj,Aa (show As (1:Int) (bA f i).End.To.length from⟨by omega,by omega⟩),e1,Aj];unfold lM
 cases Nk f i (C2 f i 0) with
 | false=>rfl
 | true=>
  cases Nk f i (C2 f i 1) with
  | false=>rfl
  | true=>
   simp only[Af,Dj,Aq,Hi,bne]
   cases(C2 f (C2 f i 0).toNat 0==C2 f (C2 f i 1).toNat 0) with
   | false=>rfl
   | true=>cases(C2 f (C2 f i 0).toNat 0==(i:Int))<;>rfl
theorem tJ:Kt i (bA f i).End.To f.Blocks (Cd (Bm f)) i =
  some (bif WU f i (C2 f i 0) (C2 f i 1) then(⟨i,C2 f i 0,-1,C2 f i 1⟩,true) else(zH,false)):=by
 have h2:=R.two i hi hk;unfold Kt;rw[Aa (show As (0:Int) (bA f i).End.To.length from⟨by omega,by omega⟩)];have e0:=tF R i (C2 f i 0) (P7 R hi hk 0 (by omega));have g0:(bA f i).End.To.getD (0:Int).toNat 0=C2 f i 0:=rfl;have g1:(bA f i).End.To.getD (1:Int).toNat 0=C2 f i 1:=rfl;rw[g0,g1,e0,Aj,Aa (show As (1:Int) (bA f i).End.To.length from⟨by omega,by omega⟩),Kv,Aj];unfold WU
 cases Nk f i (C2 f i 0) with
 | false=>rfl
 | true=>
  simp only[Af,Dj,Aq,Hi,bne]
  cases h:(C2 f (C2 f i 0).toNat 0==C2 f i 1) with
  | false=>rfl
  | true=>
   have h':C2 f (C2 f i 0).toNat 0=C2 f i 1:=by simpa using h
   rw[h']
   cases(C2 f i 1==(i:Int))<;>rfl
theorem tK:Ku i (bA f i).End.To f.Blocks (Cd (Bm f)) i =
  some (bif WU f i (C2 f i 1) (C2 f i 0) then(⟨i,-1,C2 f i 1,C2 f i 0⟩,true) else(zH,false)):=by
 have h2:=R.two i hi hk;unfold Ku;rw[Aa (show As (0:Int) (bA f i).End.To.length from⟨by omega,by omega⟩)];have e1:=tF R i (C2 f i 1) (P7 R hi hk 1 (by omega));have g0:(bA f i).End.To.getD (0:Int).toNat 0=C2 f i 0:=rfl;have g1:(bA f i).End.To.getD (1:Int).toNat 0=C2 f i 1:=rfl;rw[g0,g1,Kv,Aj,Aa (show As (1:Int) (bA f i).End.To.length from⟨by omega,by omega⟩),e1,Aj];unfold WU
 cases Nk f i (C2 f i 1) with
 | false=>rfl
 | true=>
  simp only[Af,Dj,Aq,Hi,bne];rw[show(C2 f i 0==C2 f (C2 f i 1).toNat 0)=(C2 f (C2 f i 1).toNat 0==C2 f i 0) by rw[Xh,zzL47,zzL47];exact U6]
  cases(C2 f (C2 f i 1).toNat 0==C2 f i 0) with
  | false=>rfl
  | true=>cases(C2 f i 0==(i:Int))<;>rfl
end
def cL(f:TFunc):List THammock:=(List.range f.Blocks.length).flatMap λi=>(Zq f i).toList
theorem YN{α:Type}(o:Option α):o.toList.length<=1:=by cases o<;>simp
theorem nw{f:TFunc}(R:Rt f){i:Nat}(hi:i<f.Blocks.length)(l:List THammock)(hl:l.length<=0+i*1)(c:Int) :
  Jr f (J0 (Bm f),c) (l,(i:Int))=some (.next (l++(Zq f i).toList,(i:Int)+1)):=by
 have hroom:(1000:Nat)<=room:=by decide
 have hi64:=R.hi;unfold Jr Zq;have hg:f.Blocks.getD (i:Int).toNat default=bA f i:=rfl;simp only[hg,B5 hi,Af,Aa (Ag hi),w1 (show i<4611686018427387904 by omega)]
 have hap:∀ h:THammock,l.length+([h]:List THammock).length<=room:=λh=>by simp;omega
 have ie:((i+1:Nat):Int)=(i:Int)+1:=by omega
 by_cases hk:(bA f i).End.Kind=2
 ·have hk':((bA f i).End.Kind !=2)=false:=by simpa using hk
  have hk2:((bA f i).End.Kind==2)=true:=by simpa using hk
  have h2:=R.two i hi hk;have i0:As (0:Int) (bA f i).End.To.length:=⟨by omega,by omega⟩;have i1:As (1:Int) (bA f i).End.To.length:=⟨by omega,by omega⟩;simp only[hk',hk2,Aa (λ_=>i0),Aa (λ_=>i1),Aq,Hi];have g0:(bA f i).End.To.getD (0:Int).toNat 0=C2 f i 0:=rfl;have g1:(bA f i).End.To.getD (1:Int).toNat 0=C2 f i 1:=rfl;rw[g0,g1]
  cases(C2 f i 0==C2 f i 1) with
  | true=>simp[ie]
  | false=>
   have hpred:(J0 (Bm f)).Pred=Cd (Bm f):=rfl;simp only[Aq,L0,Af,S8,Aj,hpred,tI R hi hk,tJ R hi hk,tK R hi hk]
   cases lM f i (C2 f i 0) (C2 f i 1) with
   | true=>simp only[Af];rw[Ac (hap _)];simp[ie]
   | false=>
    simp only[Aq]
    cases WU f i (C2 f i 0) (C2 f i 1) with
    | true=>simp only[Af];rw[Ac (hap _)];simp[ie]
    | false=>
     simp only[Aq]
     cases WU f i (C2 f i 1) (C2 f i 0) with
     | true=>simp only[Af];rw[Ac (hap _)];simp[ie]
     | false=>simp[ie]
 ·have hk':((bA f i).End.Kind !=2)=true:=by simpa using hk
  have hk2:((bA f i).End.Kind==2)=false:=by simpa using hk
  simp only[hk',hk2,Af,CZ,Aq];rw[Aa (λh=>by cases h),Aa (λh=>by cases h)];simp[ie]
theorem zu{f:TFunc}(h:Sm f):Li f=some (bif Gc f 2==0 then cL f else[]):=by
 have hmax:f.Blocks.length<=maxLen:=h.1.blocks;unfold Li;rw[tG f 2 h,Aj]
 by_cases hc:Gc f 2=0
 ·have R:=CI h hc
  have hs:O2 f=true:=by
   have:=((Pu (f:=f) (l:=2) (by omega) (by omega)).1 hc).2.1;unfold Fk at this;rw[A1]at this;exact this.1
  rw[hc,show((0:Int)!=0)=false from rfl,show((0:Int)==0)=true from rfl,Aq,Af,zy f hmax,hs,Af,Aj];have hL:=Lu f.Blocks.length 0 1 (λi=>(Zq f i).toList) (λi _=>YN _) (Jr f (J0 (Bm f),0)) (λacc i hi ha=>nw R hi acc ha 0)
   (λacc=>by unfold Jr;simp only[Dk,Aq]) f.Blocks.length 0 [] (by omega) (by simp)
  have hL':Ad (Jr f (J0 (Bm f),0)) (([]:List THammock),(0:Int))=_:=hL;rw[hL',Aj];unfold Tc cL;rw[P9];rfl
 ·have e1:((Gc f 2)!=0)=true:=by simpa using hc
  have e2:((Gc f 2)==0)=false:=by simpa using hc
  rw[e1,e2,Af,Aq]
  rfl
theorem loop_first{X:Type}(f:Int->Option (LR Int X))(p:Nat->Bool)(out:Nat->X)(no:X)(n:Nat)(hn:∀ i,i<n->p i=false->f (i:Int)=some (.next (((i+1:Nat):Int))))
  (hf:∀ i,i<n->p i=true->f (i:Int)=some (.done (out i))) (he:f (n:Int)=some (.done no)) :
  (∃ i,i<n/\p i=true/\Ad f (0:Int)=some (out i))\/((∀ i,i<n->p i=false)/\Ad f (0:Int)=some no):=by
 suffices h:∀ k i,i+k=n->(∀ j,j<i->p j=false)->(∃ i',i'<n/\p i'=true/\Ad f (i:Int)=some (out i'))\/((∀ i,i<n->p i=false)/\Ad f (i:Int)=some no) from
  h n 0 (by omega) (λj hj=>absurd hj (V1 _))
 intro k
 induction k with
 | zero=>
  intro i hi hj
  obtain rfl:i=n:=by omega
  exact .inr ⟨hj,Ak he⟩
 | succ k ih=>
  intro i hi hj
  cases hp:p i with
  | true=>exact .inl ⟨i,by omega,hp,Ak (hf i (by omega) hp)⟩
  | false=>
   rw[Ar (hn i (by omega) hp)];refine ih (i+1) (by omega) λj hj2=>?_
   by_cases e:j=i
   ·subst e;exact hp
   ·exact hj j (by omega)
theorem gD{f:TFunc}{i:Nat}{h:THammock}(hh:Zq f i=some h):h.At=i:=by
 unfold Zq at hh
 revert hh
 cases(((bA f i).End.Kind==2)&&!(C2 f i 0==C2 f i 1))<;>cases lM f i (C2 f i 0) (C2 f i 1)<;>cases WU f i (C2 f i 0) (C2 f i 1)<;>cases WU f i (C2 f i 1) (C2 f i 0)<;>intro hh<;>cases hh<;>rfl
theorem mem_all{f:TFunc}{h:THammock}:h∈cL f↔∃ i,i<f.Blocks.length/\Zq f i=some h:=by
 unfold cL;rw[zzL76]
 constructor
 ·rintro⟨i,h1,h2⟩;exact⟨i,zzL85.1 h1,by simpa using h2⟩
 ·rintro⟨i,h1,h2⟩;exact⟨i,zzL85.2 h1,by simpa using h2⟩
theorem s5{f:TFunc}:(cL f).length<=f.Blocks.length:=by
 unfold cL;have:=Jh 1 (λi=>(Zq f i).toList) (List.range f.Blocks.length) (λi _=>YN _)
 simpa using this
def rT(f:TFunc)(h:THammock):Bool:=decide (As h.At f.Blocks.length)&&decide (Zq f h.At.toNat=some h)
theorem is_mem{f:TFunc}{h:THammock}:rT f h=true↔h∈cL f:=by
 unfold rT;rw[mem_all,A1,Ds,Ds]
 constructor
 ·rintro⟨h1,h2⟩;exact⟨_,by have:=h1.1;have:=h1.2;omega,h2⟩
 ·rintro⟨i,h1,h2⟩;have:=gD h2;exact⟨by rw[this];exact Ag h1,by rw[this,Ap];exact h2⟩
def XB(f:TFunc)(a:Int):THammock×Bool:=if As a f.Blocks.length then(match Zq f a.toNat with|some h=>(h,true)|none=>(zH,false)) else(zH,false)
theorem la{f:TFunc}{h:THammock}(hh:rT f h=true):XB f h.At=(h,true):=by
 unfold rT at hh;rw[A1,Ds,Ds]at hh;unfold XB;rw[if_pos hh.1,hh.2]
theorem lZ{f:TFunc}{a:Int}(hh:∀ h,rT f h=true->h.At≠a):XB f a=(zH,false):=by
 unfold XB
 split
 ·rename_i hin
  cases ho:Zq f a.toNat with
  | none=>rfl
  | some h=>
   have e:=gD ho;have:((a.toNat:Nat):Int)=a:=Lb hin.1;exact absurd (e.trans this) (hh h (is_mem.2 (mem_all.2 ⟨_,by have:=hin.1;have:=hin.2;omega,ho⟩)))
 ·rfl
def Xm(f:TFunc):Bool:=Gc f 2==0
def allHR(f:TFunc):List THammock:=bif Xm f then cL f else[]
def O9(f:TFunc)(h:THammock):Bool:=Xm f&&rT f h
def Xw(f:TFunc)(a:Int):THammock×Bool:=bif Xm f then XB f a else(zH,false)
theorem isHR_mem{f:TFunc}{h:THammock}:O9 f h=true↔h∈allHR f:=by
 unfold O9 allHR
 cases Xm f with
 | true=>rw[Hi];exact is_mem
 | false=>simp
theorem xI{f:TFunc}(h:Sm f):Li f=some (allHR f):=zu h
theorem lG{f:TFunc}:(allHR f).length<=f.Blocks.length:=by
 unfold allHR;cases Xm f
 ·simp
 ·exact s5
theorem uq{f:TFunc}(h:Sm f):(allHR f).length<4611686018427387904:=by
 by_cases hc:Xm f=true
 ·have:=(CI h (by simpa [Xm] using hc)).hi;have:=lG (f:=f);omega
 ·unfold allHR;rw[Bool.eq_false_iff.2 hc];simp
theorem o6(v x:THammock):((v.At==x.At)&&((v.Then==x.Then)&&((v.Else==x.Else)&&((v.Join==x.Join)&&true))))=decide (v=x):=by
 cases v;cases x
 rw[Xh];simp[THammock.mk.injEq]
theorem Abl{f:TFunc}(h:Sm f)(v:THammock):Tx f v=some (O9 f v):=by
 unfold Tx Dn Eb;rw[xI h,Aj];have hn:=uq h
 rcases loop_first (m_slices_Index_api_Hammock_api_Hammock_L1 (allHR f) v) (λi=>decide (v=(allHR f).getD i default)) (λi=>.inr (i:Int)) (.inl ()) (allHR f).length (λi hi hp=>by
   unfold m_slices_Index_api_Hammock_api_Hammock_L1
   simp only[B5 hi,Af,Ap,Aa (Ag hi),o6,hp,Aq,w1 (show i<4611686018427387904 by omega)]) (λi hi hp=>by
   unfold m_slices_Index_api_Hammock_api_Hammock_L1
   simp only[B5 hi,Af,Ap,Aa (Ag hi),o6,hp]) (by unfold m_slices_Index_api_Hammock_api_Hammock_L1;simp only[Dk,Aq]) with⟨i,hi,hp,hl⟩|⟨hp,hl⟩
 ·rw[hl];have hm:O9 f v=true:=isHR_mem.2 (by rw[Ds]at hp;rw[hp];exact Ai hi);rw[hm]
  simp
 ·rw[hl]
  have hm:O9 f v=false:=by
   rw[Bool.eq_false_iff];intro hm;obtain⟨i,hi,he⟩:=N9 (isHR_mem.1 hm);have:=hp i hi;rw[Am _ _ _ hi,he]at this;simp at this
  rw[hm];rfl
def Mu(f:TFunc)(x:Int):List A2:=bif x !=-1 then(bA f x.toNat).Ops else[]
def IU(f:TFunc)(h:THammock):List A2:=Mu f h.Then++Mu f h.Else
theorem ZY {f : TFunc} (R : Rt f) {i : Nat} (hi : i < f.Blocks.length) {h : THammock} (hh : Zq f i = some h) :
    (bA f i).End.Kind = 2 ∧ C2 f i 0 ≠ C2 f i 1 ∧ As h.Join f.Blocks.length ∧ h.Join ≠ i ∧
    ((h.Then = C2 f i 0 ∧ h.Else = C2 f i 1 ∧ Nk f i h.Then = true ∧ Nk f i h.Else = true ∧ C2 f h.Then.toNat 0 = h.Join ∧ C2 f h.Else.toNat 0 = h.Join) ∨
     (h.Then = C2 f i 0 ∧ h.Else = -1 ∧ h.Join = C2 f i 1 ∧ Nk f i h.Then = true ∧ C2 f h.Then.toNat 0 = h.Join) ∨
     (h.Then = -1 ∧ h.Else = C2 f i 1 ∧ h.Join = C2 f i 0 ∧ Nk f i h.Else = true ∧ C2 f h.Else.toNat 0 = h.Join)) := by
  unfold Zq at hh
  cases hk : (((bA f i).End.Kind == 2) && !(C2 f i 0 == C2 f i 1)) with
  | false => rw [hk] at hh; cases hh
  | true =>
    rw [hk, Af] at hh; simp only [A1, zzL47, Rn, zzL35] at hk; obtain ⟨hk1, hk2⟩ := hk; have t0 := P7 R hi hk1 0 (by omega); have t1 := P7 R hi hk1 1 (by omega)
    have hb : ∀ x, As x f.Blocks.length → Nk f i x = true → As (C2 f x.toNat 0) f.Blocks.length := fun x hx hm => by
      have hxn : x.toNat < f.Blocks.length := by have := hx.1; have := hx.2; omega
      unfold Nk at hm; simp only [A1, zzL47] at hm; have := R.to _ hxn 0 (by rw [R.one _ hxn hm.1.1]; omega); exact ⟨by omega, this.2⟩
    refine ⟨hk1, hk2, ?_⟩
    cases h1 : lM f i (C2 f i 0) (C2 f i 1) with
    | true =>
      rw [h1, Af] at hh; cases hh; unfold lM at h1; simp only [A1, zzL47, Rn, zzL35] at h1; obtain ⟨⟨⟨a1, a2⟩, a3⟩, a4⟩ := h1; exact ⟨hb _ t0 a1, a4, .inl ⟨rfl, rfl, a1, a2, rfl, a3.symm⟩⟩
    | false =>
      rw [h1, Aq] at hh
      cases h2 : WU f i (C2 f i 0) (C2 f i 1) with
      | true =>
        rw [h2, Af] at hh; cases hh; unfold WU at h2; simp only [A1, zzL47, Rn, zzL35] at h2; obtain ⟨⟨a1, a3⟩, a4⟩ := h2; exact ⟨t1, a4, .inr (.inl ⟨rfl, rfl, rfl, a1, a3⟩)⟩
      | false =>
        rw [h2, Aq] at hh
        cases h3 : WU f i (C2 f i 1) (C2 f i 0) with
        | true =>
          rw [h3, Af] at hh; cases hh; unfold WU at h3; simp only [A1, zzL47, Rn, zzL35] at h3; obtain ⟨⟨a1, a3⟩, a4⟩ := h3; exact ⟨t0, a4, .inr (.inr ⟨rfl, rfl, rfl, a1, a3⟩)⟩
        | false => rw [h3] at hh; cases hh
theorem DV{f:TFunc}(R:Rt f){i:Nat}(hi:i<f.Blocks.length){h:THammock}(hh:Zq f i=some h):(h.Then = -1\/As h.Then f.Blocks.length)/\(h.Else = -1\/As h.Else f.Blocks.length):=by
 obtain⟨hk,_,_,_,hc⟩:=ZY R hi hh;have t0:=P7 R hi hk 0 (by omega);have t1:=P7 R hi hk 1 (by omega);rcases hc with⟨a,b,_⟩|⟨a,b,_⟩|⟨a,b,_⟩
 ·exact⟨.inr (a▸t0),.inr (b▸t1)⟩
 ·exact⟨.inr (a▸t0),.inl b⟩
 ·exact⟨.inl a,.inr (b▸t1)⟩
theorem H4{f:TFunc}(R:Rt f){x:Int}(hx:x = -1\/As x f.Blocks.length):(Mu f x).length<=512:=by
 unfold Mu
 by_cases e:x = -1
 ·subst e;exact Xj _
 ·rcases hx with hx|hx
  ·exact absurd hx e
  ·rw[show(x !=-1)=true by simpa using e,Af];exact(R.ok.block _ (Ai (by have:=hx.1;have:=hx.2;omega))).ops
theorem cX{f:TFunc}(R:Rt f)(h:THammock){k:Nat}(hk:k<2)(x:Int)(he:([h.Then,h.Else]:List Int).getD k 0=x)(hx:x = -1\/As x f.Blocks.length)(l:List A2)(hl:l.length<=512) :
  D9 f h (l,(k:Int))=some (.next (l++Mu f x,((k+1:Nat):Int))):=by
 have hroom:(2000:Nat)<=room:=by decide
 unfold D9;have hlen:=H4 R hx;simp only[Ap,he,B5 (show k<([h.Then,h.Else]:List Int).length from hk),Af,Aa (Ag (show k<([h.Then,h.Else]:List Int).length from hk)),w1 (show k<4611686018427387904 by omega)];unfold Mu at hlen ⊢
 by_cases e:x = -1
 ·subst e;rw[show((-1:Int)!=-1)=false from rfl,Aq,Aq,Aj,List.append_nil]
 ·have e':(x !=-1)=true:=by simpa using e
  rw[e']at hlen ⊢;rcases hx with hx|hx
  ·exact absurd hx e
  ·rw[Af]at hlen;rw[Af,Aa hx,Af,Aa (show l.length+(bA f x.toNat).Ops.length<=room by omega),Aj]
theorem zw{f:TFunc}(h:Sm f)(v:THammock):Ks f v=some (bif O9 f v then(IU f v,true) else([],false)):=by
 unfold Ks;rw[Abl h,Aj]
 cases hi:O9 f v with
 | false=>rfl
 | true=>
  rw[Dj,Aq,Af];unfold O9 at hi;rw[A1]at hi;have R:=CI h (by simpa [Xm] using hi.1);obtain⟨i,hin,ho⟩:=mem_all.1 (is_mem.1 hi.2);obtain⟨h1,h2⟩:=DV R hin ho;have s0:=cX R v (k:=0) (by omega) v.Then rfl h1 [] (by simp);have s1:=cX R v (k:=1) (by omega) v.Else rfl h2 ([]++Mu f v.Then) (by rw[V2];exact H4 R h1)
  have hL:Ad (D9 f v) (([]:List A2),(0:Int))=some (IU f v):=by
   have e0:Ad (D9 f v) (([]:List A2),(0:Int))=_:=Ar s0;rw[e0];have e1:Ad (D9 f v) ([]++Mu f v.Then,((0+1:Nat):Int))=_:=Ar s1;rw[e1];refine Ak ?_;unfold D9 IU;rw[V2];rfl
  rw[hL];rfl
theorem t8(l:List A2)(hl:l.length<4611686018427387904):C9 l=some (l.any λo=>o.Lanes !=1):=by
 unfold C9 Gm
 rcases loop_first (m_slices_IndexFunc_api_Op_api_Op_L1 l) (λi=>(l.getD i default).Lanes !=1) (λi=>.inr (i:Int)) (.inl ()) l.length (λi hi hp=>by
   unfold m_slices_IndexFunc_api_Op_api_Op_L1
   simp only[B5 hi,Af,Ap,Aa (Ag hi),Mf,Aj,hp,Aq,w1 (show i<4611686018427387904 by omega)]) (λi hi hp=>by
   unfold m_slices_IndexFunc_api_Op_api_Op_L1
   simp only[B5 hi,Af,Ap,Aa (Ag hi),Mf,Aj,hp]) (by unfold m_slices_IndexFunc_api_Op_api_Op_L1;simp only[Dk,Aq]) with⟨i,hi,hp,hl⟩|⟨hp,hl⟩
 ·rw[hl,List.any_eq_true.2 ⟨_,Ai hi,hp⟩]
  simp
 ·rw[hl]
  have:(l.any λo=>o.Lanes !=1)=false:=by
   rw[Bool.eq_false_iff];intro h;obtain⟨o,ho,hb⟩:=List.any_eq_true.1 h;obtain⟨i,hi,he⟩:=N9 ho;have:=hp i hi;rw[Am _ _ _ hi,he,hb]at this
   cases this
  rw[this];rfl
def EA(f:TFunc)(v:THammock):Bool:=O9 f v&&(IU f v).all λo=>o.Lanes==1
theorem pq{f:TFunc}(h:Sm f){v:THammock}(hi:O9 f v=true):(IU f v).length<=1024:=by
 unfold O9 at hi;rw[A1]at hi;have R:=CI h (by simpa [Xm] using hi.1);obtain⟨i,hin,ho⟩:=mem_all.1 (is_mem.1 hi.2);obtain⟨h1,h2⟩:=DV R hin ho;have:=H4 R h1;have:=H4 R h2;unfold IU;rw[Du];omega
theorem pI{f:TFunc}(h:Sm f)(v:THammock):Od f v=some (EA f v):=by
 unfold Od EA;rw[zw h,Aj]
 cases hi:O9 f v with
 | false=>rfl
 | true=>
  have hl:=pq h hi;simp only[Af,show((true:Bool)==true)=true from rfl,t8 _ (show(IU f v).length<4611686018427387904 by omega),Aj,Hi]
  congr 1
  rw[List.not_any_eq_all_not]
  congr 1
  funext o
  simp[bne]
theorem uW(l:List Int)(a:Int):(bif ((l.length:Int)==1) then(l.getD (0:Int).toNat 0==a) else false)=decide (l=[a]):=by
 rcases l with _|⟨x,_|⟨y,l⟩⟩
 ·rfl
 ·rw[Xh];simp
 ·simp only[R0];rw[show((((l.length+1+1:Nat)):Int)==1)=false by simp;omega,Aq]
  simp
theorem pP{f:TFunc}(R:Rt f)(a t x j:Int)(ht:As t f.Blocks.length) :
  F7 f (J0 (Bm f)) a t x j=some (bif x==-1 then t==j else(x==t)&&(Nk f a x&&(C2 f x.toNat 0==j))):=by
 unfold F7
 cases hx:(x==-1) with
 | true=>rfl
 | false=>
  rw[Aq,Aq]
  by_cases e:x=t
  ·subst e;have hp:(J0 (Bm f)).Pred=Cd (Bm f):=rfl
   have hpl:As x (Cd (Bm f)).length:=by rw[py];exact ht
   have hxn:x.toNat<f.Blocks.length:=by have:=ht.1;have:=ht.2;omega
   have eb:f.Blocks.getD x.toNat default=bA f x.toNat:=rfl;have ep:(Cd (Bm f)).getD x.toNat []=HI f x.toNat:=rfl;rw[show(x !=x)=false by simp,Aq,show(x==x)=true by simp,Hi,hp,eb,ep,Aa ht,Aa hpl,Aa (λ_=>hpl),uW]
   have c0:∀ q:Bool,((((HI f x.toNat).length:Int)==1)==true)=true->As (0:Int) (HI f x.toNat).length:=λ_ hq=>by
    have:((HI f x.toNat).length:Int)=1:=by simpa using hq
    exact⟨by omega,by omega⟩
   rw[Aa (c0 true)]
   have e2:(((((bA f x.toNat).Phis.length:Int):Int)==0))=decide ((bA f x.toNat).Phis.length=0):=by rw[Xh];simp
   rw[e2]
   have e3:(bif (bif decide (HI f x.toNat=[a]) then decide ((bA f x.toNat).Phis.length=0) else false) then((bA f x.toNat).End.Kind==1) else false)=Nk f a x:=by
    unfold Nk
    cases decide (HI f x.toNat=[a])<;>cases decide ((bA f x.toNat).Phis.length=0)<;>cases((bA f x.toNat).End.Kind==1)<;>rfl
   rw[e3,Aa (λhq=>by
    have hm:Nk f a x=true:=by simpa using hq
    unfold Nk at hm;simp only[A1,zzL47]at hm
    exact⟨by omega,by rw[R.one _ hxn hm.1.1];omega⟩)]
   cases Nk f a x<;>rfl
  ·rw[show(x !=t)=true by simpa using e,Af,show(x==t)=false by simpa using e,CZ]
def eK(f:TFunc)(a t x j:Int):Bool:=bif x==-1 then t==j else(x==t)&&(Nk f a x&&(C2 f x.toNat 0==j))
def zl(f:TFunc)(h:THammock):Bool:=
 decide (As h.At f.Blocks.length)&&decide (As h.Join f.Blocks.length)&&!(h.At==h.Join)&&!((h.Then==-1)&&(h.Else==-1)) &&
 (((bA f h.At.toNat).End.Kind==2)&&!(C2 f h.At.toNat 0==C2 f h.At.toNat 1))&&(eK f h.At (C2 f h.At.toNat 0) h.Then h.Join&&eK f h.At (C2 f h.At.toNat 1) h.Else h.Join)
theorem pL{f:TFunc}(h:Sm f)(v:THammock):Jv f v=some (Xm f&&zl f v):=by
 have hmax:f.Blocks.length<=maxLen:=h.1.blocks;unfold Jv;rw[BN h 2,Aj]
 cases hc:Xm f with
 | false=>
  have:(Gc f 2 !=0)=true:=by unfold Xm at hc;simpa using hc
  rw[this,Af,CZ]
 | true=>
  have hc0:Gc f 2=0:=by simpa [Xm] using hc
  have R:=CI h hc0
  have hs:O2 f=true:=by
   have:=((Pu (f:=f) (l:=2) (by omega) (by omega)).1 hc0).2.1;unfold Fk at this;rw[A1]at this;exact this.1
  rw[hc0,show((0:Int)!=0)=false from rfl,Aq,Hi];unfold zl
  have e1:(bif (bif (bif (decide (v.At<0)) then true else(decide ((f.Blocks.length:Int)<=v.At))) then true else(decide (v.Join<0))) then true else(decide ((f.Blocks.length:Int)<=v.Join))) = !(decide (As v.At f.Blocks.length)&&decide (As v.Join f.Blocks.length)):=by
   simp only[WT];rw[Xh];simp only[JL,Ds,Rn,Bool.and_eq_false_iff,TF];unfold As;omega
  rw[e1]
  by_cases hA:As v.At f.Blocks.length
  ·by_cases hJ:As v.Join f.Blocks.length
   ·rw[F9 hA,F9 hJ]
    have hAn:v.At.toNat<f.Blocks.length:=by have:=hA.1;have:=hA.2;omega
    cases hAJ:(v.At==v.Join) with
    | true=>rfl
    | false=>
     have e2:(bif (v.Then==-1) then(v.Else==-1) else false)=((v.Then==-1)&&(v.Else==-1)):=by cases(v.Then==-1)<;>rfl
     rw[e2]
     cases hTE:((v.Then==-1)&&(v.Else==-1)) with
     | true=>rfl
     | false=>
      have eb:f.Blocks.getD v.At.toNat default=bA f v.At.toNat:=rfl;simp only[Hi,Dj,L0,Aq,Aa hA,eb]
      by_cases hk:(bA f v.At.toNat).End.Kind=2
      ·have h2:=R.two _ hAn hk;have i0:As (0:Int) (bA f v.At.toNat).End.To.length:=⟨by omega,by omega⟩;have i1:As (1:Int) (bA f v.At.toNat).End.To.length:=⟨by omega,by omega⟩;have g0:(bA f v.At.toNat).End.To.getD (0:Int).toNat 0=C2 f v.At.toNat 0:=rfl;have g1:(bA f v.At.toNat).End.To.getD (1:Int).toNat 0=C2 f v.At.toNat 1:=rfl;rw[Aa (λ_=>i0),Aa (λ_=>i1),g0,g1,show((bA f v.At.toNat).End.Kind !=2)=false by simpa using hk,show((bA f v.At.toNat).End.Kind==2)=true by simpa using hk,Aq,Hi]
       cases(C2 f v.At.toNat 0==C2 f v.At.toNat 1) with
       | true=>rfl
       | false=>
        rw[Aq,QZ f hmax,hs,Af,Aj,Aa i0]
        show((F7 f (J0 (Bm f)) v.At (C2 f v.At.toNat 0) v.Then v.Join).bind _)=_
        rw[pP R _ _ _ _ (P7 R hAn hk 0 (by omega)),Aj,Aa (λ_=>i1),pP R _ _ _ _ (P7 R hAn hk 1 (by omega))];unfold eK
        cases(bif v.Then==-1 then C2 f v.At.toNat 0==v.Join else(v.Then==C2 f v.At.toNat 0)&&(Nk f v.At v.Then&&(C2 f v.Then.toNat 0==v.Join)))<;>rfl
      ·have e5:((bA f v.At.toNat).End.Kind !=2)=true:=by simpa using hk
       have e6:((bA f v.At.toNat).End.Kind==2)=false:=by simpa using hk
       rw[e5,e6,Af,Aa (λh=>by cases h),Aa (λh=>by cases h)]
       rfl
   ·rw[F9 hA,Da hJ];rfl
  ·rw[Da hA];rfl
theorem pV{f:TFunc}(R:Rt f){a:Int}{x:Int}(hx:As x f.Blocks.length)(hm:Nk f a x=true){p:Nat}(hp:p<f.Blocks.length){k:Nat}(hk:k<(bA f p).End.To.length)(ht:C2 f p k=x):(p:Int)=a:=by
 have hxn:x.toNat<f.Blocks.length:=by have:=hx.1;have:=hx.2;omega
 unfold Nk at hm;simp only[A1,Ds]at hm;have:(p:Int)∈HI f x.toNat:=(Yl R hxn).2 ⟨p,rfl,hp,by rw[Lb hx.1,<- ht];exact Ai hk⟩;rw[hm.2]at this
 simpa using this
theorem Pb{f:TFunc}{a x:Int}(hm:Nk f a x=true):(bA f x.toNat).End.Kind=1:=by
 unfold Nk at hm;simp only[A1,zzL47]at hm;exact hm.1.1
theorem xH{f:TFunc}(R:Rt f)(v:THammock):zl f v=rT f v:=by
 rw[Xh]
 constructor
 ·intro h;unfold zl at h;simp only[A1,Ds,Rn,zzL35,zzL47]at h;obtain⟨⟨⟨⟨⟨hA,hJ⟩,hAJ⟩,hTE⟩,hk,hne⟩,h1,h2⟩:=h
  have hAn:v.At.toNat<f.Blocks.length:=by have:=hA.1;have:=hA.2;omega
  have hAc:((v.At.toNat:Nat):Int)=v.At:=Lb hA.1;have t0:=P7 R hAn hk 0 (by omega);have t1:=P7 R hAn hk 1 (by omega);unfold rT;rw[A1,Ds,Ds];refine⟨hA,?_⟩;unfold Zq;rw[show((bA f v.At.toNat).End.Kind==2)=true by simpa using hk,show(C2 f v.At.toNat 0==C2 f v.At.toNat 1)=false by simpa using hne,Hi,L0,Af,hAc]
  have hno:∀ x y:Int,As x f.Blocks.length->As y f.Blocks.length->Nk f v.At y=true->C2 f y.toNat 0=x->Nk f v.At x=true->False:=λx y hx hy my hyx mx=>by
   have hyn:y.toNat<f.Blocks.length:=by have:=hy.1;have:=hy.2;omega
   have:=pV R hx mx hyn (k:=0) (by rw[R.one _ hyn (Pb my)];omega) hyx
   have e:v.At.toNat=y.toNat:=by omega
   have:=Pb my;rw[<- e,hk]at this;exact absurd this (by decide)
  unfold eK at h1 h2
  by_cases eT:v.Then = -1
  ·have eE:v.Else≠-1:=λe=>by rw[eT,e]at hTE;cases hTE
   rw[show(v.Then==-1)=true by simpa using eT,Af,zzL47]at h1;rw[show(v.Else==-1)=false by simpa using eE,Aq,A1,A1,zzL47,zzL47]at h2;obtain⟨b1,b2,b3⟩:=h2;have b2':=b2;rw[b1]at b2 b3
   have hm0:Nk f v.At (C2 f v.At.toNat 0)=false:=by
    rw[Bool.eq_false_iff];exact λhm=>hno _ _ t0 t1 b2 (by rw[b3,h1]) hm
   have c1:lM f v.At (C2 f v.At.toNat 0) (C2 f v.At.toNat 1)=false:=by unfold lM;rw[hm0];rfl
   have c2:WU f v.At (C2 f v.At.toNat 0) (C2 f v.At.toNat 1)=false:=by unfold WU;rw[hm0];rfl
   have c3:WU f v.At (C2 f v.At.toNat 1) (C2 f v.At.toNat 0)=true:=by
    unfold WU;rw[b2,b3,h1]
    simp;exact λe=>hAJ e.symm
   rw[c1,c2,c3,Aq,Aq,Af]
   cases v;simp_all
  ·rw[show(v.Then==-1)=false by simpa using eT,Aq,A1,A1,zzL47,zzL47]at h1;obtain⟨a1,a2,a3⟩:=h1;rw[a1]at a2 a3
   by_cases eE:v.Else = -1
   ·rw[show(v.Else==-1)=true by simpa using eE,Af,zzL47]at h2
    have hm1:Nk f v.At (C2 f v.At.toNat 1)=false:=by
     rw[Bool.eq_false_iff];exact λhm=>hno _ _ t1 t0 a2 (by rw[a3,h2]) hm
    have c1:lM f v.At (C2 f v.At.toNat 0) (C2 f v.At.toNat 1)=false:=by unfold lM;rw[hm1,Bool.and_false];rfl
    have c2:WU f v.At (C2 f v.At.toNat 0) (C2 f v.At.toNat 1)=true:=by
     unfold WU;rw[a2,a3,h2]
     simp;exact λe=>hAJ e.symm
    rw[c1,c2,Aq,Af]
    cases v;simp_all
   ·rw[show(v.Else==-1)=false by simpa using eE,Aq,A1,A1,zzL47,zzL47]at h2;obtain⟨b1,b2,b3⟩:=h2;rw[b1]at b2 b3
    have c1:lM f v.At (C2 f v.At.toNat 0) (C2 f v.At.toNat 1)=true:=by
     unfold lM;rw[a2,b2,a3,b3]
     simp;exact λe=>hAJ e.symm
    rw[c1,Af]
    cases v;simp_all
 ·intro h;unfold rT at h;rw[A1,Ds,Ds]at h;obtain⟨hA,ho⟩:=h
  have hAn:v.At.toNat<f.Blocks.length:=by have:=hA.1;have:=hA.2;omega
  have hAc:((v.At.toNat:Nat):Int)=v.At:=Lb hA.1;obtain⟨hk,hne,hJ,hAJ,hc⟩:=ZY R hAn ho;have t0:=P7 R hAn hk 0 (by omega);have t1:=P7 R hAn hk 1 (by omega);rw[hAc]at hAJ hc
  have n0:C2 f v.At.toNat 0≠-1:=by have:=t0.1;omega
  have n1:C2 f v.At.toNat 1≠-1:=by have:=t1.1;omega
  unfold zl;simp only[A1,Ds,Rn,zzL35,zzL47];refine⟨⟨⟨⟨⟨hA,hJ⟩,λe=>hAJ e.symm⟩,?_⟩,hk,hne⟩,?_⟩
  ·rcases hc with⟨a,b,_⟩|⟨a,b,_⟩|⟨a,b,_⟩
   ·rw[a];simp[n0]
   ·rw[a];simp[n0]
   ·rw[b];simp[n1]
  ·unfold eK;rcases hc with⟨a,b,c,d,e,g⟩|⟨a,b,c,d,e⟩|⟨a,b,c,d,e⟩
   ·rw[<- a,<- b];rw[show(v.Then==-1)=false by rw[a];simpa using n0,show(v.Else==-1)=false by rw[b];simpa using n1,c,d,e,g]
    simp
   ·rw[<- a,b,<- c];rw[show(v.Then==-1)=false by rw[a];simpa using n0,d,e]
    simp
   ·rw[a,<- b,<- c];rw[show(v.Else==-1)=false by rw[b];simpa using n1,d,e]
    simp
theorem uD{f:TFunc}(h:Sm f)(v:THammock):Jv f v=some (O9 f v):=by
 rw[pL h];unfold O9
 cases hc:Xm f with
 | false=>rfl
 | true=>rw[xH (CI h (by simpa [Xm] using hc))]
def mv(f:TFunc)(a:Int)(s:Nat):Int:=bif (s:Int)==2 then -1 else C2 f a.toNat 0
def mu(f:TFunc)(a:Int)(s:Nat):Int:=bif (s:Int)==1 then -1 else C2 f a.toNat 1
theorem th{f:TFunc}(R:Rt f){a:Int}(hA:As a f.Blocks.length)(hk:(bA f a.toNat).End.Kind=2)(hc:Xm f=true)(h:Sm f)(s:Nat)(hs:s<3) :
  (∃ j,j<f.Blocks.length/\O9 f ⟨a,mv f a s,mu f a s,(j:Int)⟩=true/\Ad (m_lockstepref14_Find_L1 f a (s:Int)) (0:Int)=some (.inr (⟨a,mv f a s,mu f a s,(j:Int)⟩,true))) \/
  ((∀ j,j<f.Blocks.length->O9 f ⟨a,mv f a s,mu f a s,(j:Int)⟩=false)/\Ad (m_lockstepref14_Find_L1 f a (s:Int)) (0:Int)=some (.inl ())):=by
 have hAn:a.toNat<f.Blocks.length:=by have:=hA.1;have:=hA.2;omega
 have h2:=R.two _ hAn hk;have i0:As (0:Int) (bA f a.toNat).End.To.length:=⟨by omega,by omega⟩;have i1:As (1:Int) (bA f a.toNat).End.To.length:=⟨by omega,by omega⟩;have hhi:=R.hi
 have key:∀ j:Nat,j<f.Blocks.length->m_lockstepref14_Find_L1 f a (s:Int) (j:Int)=bif O9 f ⟨a,mv f a s,mu f a s,(j:Int)⟩ then some (.done (.inr (⟨a,mv f a s,mu f a s,(j:Int)⟩,true))) else some (.next (((j+1:Nat):Int))):=λj hj=>by
  unfold m_lockstepref14_Find_L1;have eb:f.Blocks.getD a.toNat default=bA f a.toNat:=rfl;have g0:(bA f a.toNat).End.To.getD (0:Int).toNat 0=C2 f a.toNat 0:=rfl;have g1:(bA f a.toNat).End.To.getD (1:Int).toNat 0=C2 f a.toNat 1:=rfl;simp only[eb,B5 hj,Af,Aa i0,Aa i1,g0,g1]
  have eE:(bif ((s:Int)==1) then(some (-1:Int)) else(some (C2 f a.toNat 1)))=some (mu f a s):=by unfold mu;cases((s:Int)==1)<;>rfl
  have eT:(bif ((s:Int)==2) then(some (-1:Int)) else(some (C2 f a.toNat 0)))=some (mv f a s):=by unfold mv;cases((s:Int)==2)<;>rfl
  rw[eE,Aj,eT,Aj,uD h,Aj,w1 (show j<4611686018427387904 by omega)]
 rcases loop_first (m_lockstepref14_Find_L1 f a (s:Int)) (λj=>O9 f ⟨a,mv f a s,mu f a s,(j:Int)⟩) (λj=>.inr (⟨a,mv f a s,mu f a s,(j:Int)⟩,true)) (.inl ()) f.Blocks.length
  (λj hj hp=>by rw[key j hj,hp];rfl) (λj hj hp=>by rw[key j hj,hp];rfl) (by unfold m_lockstepref14_Find_L1;simp only[Dk,Aq]) with⟨j,hj,hp,hl⟩|⟨hp,hl⟩
 ·exact .inl ⟨j,hj,hp,hl⟩
 ·exact .inr ⟨hp,hl⟩
theorem cz{f:TFunc}{v:THammock}(hv:O9 f v=true):Xw f v.At=(v,true):=by
 unfold O9 at hv;rw[A1]at hv;unfold Xw;rw[hv.1,Af,la hv.2]
theorem BE{f:TFunc}{a:Int}(hn:∀ v,O9 f v=true->v.At≠a):Xw f a=(zH,false):=by
 unfold Xw
 cases hc:Xm f with
 | false=>rfl
 | true=>
  rw[Af];exact lZ λv hv=>hn v (by unfold O9;rw[hc,hv];rfl)
theorem QO{f:TFunc}(R:Rt f){v:THammock}(hv:O9 f v=true):(bA f v.At.toNat).End.Kind=2/\As v.At f.Blocks.length/\As v.Join f.Blocks.length/\∃ s,s<3/\v.Then=mv f v.At s/\v.Else=mu f v.At s:=by
 unfold O9 rT at hv;simp only[A1,Ds]at hv;obtain⟨hc,hA,ho⟩:=hv
 have hAn:v.At.toNat<f.Blocks.length:=by have:=hA.1;have:=hA.2;omega
 obtain⟨hk,hne,hJ,hAJ,hcs⟩:=ZY R hAn ho;refine⟨hk,hA,hJ,?_⟩;rcases hcs with⟨a,b,_⟩|⟨a,b,_⟩|⟨a,b,_⟩
 ·exact⟨0,by omega,a,b⟩
 ·exact⟨1,by omega,a,b⟩
 ·exact⟨2,by omega,a,b⟩
theorem ll{f:TFunc}(h:Sm f)(a:Int):K6 f a=some (Xw f a):=by
 unfold K6;rw[BN h 2,Aj]
 cases hc:Xm f with
 | false=>
  have e:(Gc f 2 !=0)=true:=by unfold Xm at hc;simpa using hc
  rw[e];simp only[Af];rw[Aa (λh=>by cases h)];unfold Xw;rw[hc];rfl
 | true=>
  have hc0:Gc f 2=0:=by simpa [Xm] using hc
  have R:=CI h hc0
  have e0:(bif (bif (Gc f 2 !=0) then true else(decide (a<0))) then true else(decide ((f.Blocks.length:Int)<=a))) = !decide (As a f.Blocks.length):=by
   rw[hc0,show((0:Int)!=0)=false from rfl];simp only[WT,Bool.false_or];rw[Xh];simp only[JL,Ds,Rn,TF];unfold As;omega
  rw[e0]
  by_cases hA:As a f.Blocks.length
  ·rw[F9 hA,Dj,Aq,Aa (λ_=>hA)];have eb:f.Blocks.getD a.toNat default=bA f a.toNat:=rfl;rw[eb]
   by_cases hk:(bA f a.toNat).End.Kind=2
   ·rw[show((bA f a.toNat).End.Kind !=2)=false by simpa using hk,Aq,Aa hA];have hin:=th R hA hk hc h
    have step:∀ s:Nat,s<3->(∃ v,O9 f v=true/\v.At=a/\Bw f a (s:Int)=some (.done (.inr (v,true))))\/((∀ j:Nat,j<f.Blocks.length->O9 f ⟨a,mv f a s,mu f a s,(j:Int)⟩=false)/\Bw f a (s:Int)=some (.next (((s+1:Nat):Int)))):=λs hs=>by
     unfold Bw;have hd:decide ((s:Int)<3)=true:=F9 (by omega);rw[hd,Af];rcases hin s hs with⟨j,hj,hp,hl⟩|⟨hp,hl⟩
     ·exact .inl ⟨_,hp,rfl,by rw[hl];rfl⟩
     ·refine .inr ⟨hp,?_⟩;rw[hl,Aj,w1 (show s<4611686018427387904 by omega)]
    have fin:∀ v,O9 f v=true->v.At=a->Ad (Bw f a) (0:Int)=some (.inr (v,true))->(Ad (Bw f a) (0:Int)).bind (λx18=>(match x18 with|(.inl _)=>(some ((⟨(0:Int),(0:Int),(0:Int),(0:Int)⟩:THammock),false))|(.inr r20)=>(some r20)))=some (Xw f a):=λv hv e hl=>by
     rw[hl,<- e,cz hv];rfl
    rcases step 0 (by omega) with⟨v,h1,h2,h3⟩|⟨p0,n0⟩
    ·exact fin v h1 h2 (Ak h3)
    ·have n0':Ad (Bw f a) (0:Int)=Ad (Bw f a) ((1:Nat):Int):=Ar n0;rcases step 1 (by omega) with⟨v,h1,h2,h3⟩|⟨p1,n1⟩
     ·exact fin v h1 h2 (by rw[n0'];exact Ak h3)
     ·have n1':=Ar n1;rcases step 2 (by omega) with⟨v,h1,h2,h3⟩|⟨p2,n2⟩
      ·exact fin v h1 h2 (by rw[n0',n1'];exact Ak h3)
      ·have n2':=Ar n2
       have hend:Ad (Bw f a) (0:Int)=some (.inl ()):=by
        rw[n0',n1',n2'];refine Ak ?_;unfold Bw;rfl
       rw[hend,BE]
       ·rfl
       ·intro v hv e;obtain⟨_,_,hJ,s,hs,eT,eE⟩:=QO R hv
        have hj:v.Join.toNat<f.Blocks.length:=by have:=hJ.1;have:=hJ.2;omega
        have ev:v=⟨a,mv f a s,mu f a s,((v.Join.toNat:Nat):Int)⟩:=by
         rw[Lb hJ.1,<- e,<- eT,<- eE]
        rw[ev]at hv
        have hcs:s=0\/s=1\/s=2:=by omega
        rcases hcs with rfl|rfl|rfl
        ·rw[p0 _ hj]at hv;cases hv
        ·rw[p1 _ hj]at hv;cases hv
        ·rw[p2 _ hj]at hv;cases hv
   ·rw[show((bA f a.toNat).End.Kind !=2)=true by simpa using hk,Af,BE]
    ·rfl
    ·intro v hv e;obtain⟨hk2,_⟩:=QO R hv;rw[e]at hk2;exact hk hk2
  ·rw[Da hA,L0];simp only[Af];rw[Aa (λh=>by cases h),BE]
   ·rfl
   ·intro v hv e;obtain⟨_,hA2,_⟩:=QO R hv;rw[e]at hA2;exact hA hA2
def lone(e:Jo)(b r:Int):TFunc:=⟨[b],r,[⟨[],[],e⟩]⟩
theorem Abr{α:Type}(l:List α):(l.map λ_=>1).sum=l.length:=by induction l with|nil=>rfl|cons a l ih=>simp[ih];omega
theorem eS{f:TFunc}(h:U2 f 2=true){b:Ab}(hb:b∈f.Blocks){o:A2}(ho:o∈b.Ops):Ju o=true:=by
 simp only[U2,Js,A1,zzL29]at h;have:=(h.1.2 b hb).2 o ho;rw[dn  rfl]at this;exact this.1
theorem tn(n d:Int):n<=grow n d/\d<=grow n d:=by
 unfold grow
 by_cases h:n<d
 ·grind
 ·grind
theorem KF{α:Type}(v:α->Int):∀(l:List α) (n:Int),n<=l.foldl (λn a=>grow n (v a)) n/\∀ a∈l,v a<=l.foldl (λn a=>grow n (v a)) n
 | [],n=>by simp
 | a::l,n=>by
  obtain⟨h1,h2⟩:=KF v l (grow n (v a));have h3:=tn n (v a);rw[Zf];refine⟨by omega,λx hx=>?_⟩;rcases zzL28.1 hx with rfl|hx
  ·omega
  ·exact h2 x hx
theorem BM:∀(l:List Ab) (n:Int),n<=l.foldl (λn b=>b.Ops.foldl (λn o=>grow n o.Dst) (b.Phis.foldl (λn p=>grow n p.Dst) n)) n /\
  ∀ b∈l,(∀ p∈b.Phis,p.Dst<=l.foldl (λn b=>b.Ops.foldl (λn o=>grow n o.Dst) (b.Phis.foldl (λn p=>grow n p.Dst) n)) n)/\∀ o∈b.Ops,o.Dst<=l.foldl (λn b=>b.Ops.foldl (λn o=>grow n o.Dst) (b.Phis.foldl (λn p=>grow n p.Dst) n)) n
 | [],n=>by simp
 | b::l,n=>by
  obtain⟨p1,p2⟩:=KF (λp =>p.Dst) b.Phis n;obtain⟨q1,q2⟩:=KF (λo =>o.Dst) b.Ops (b.Phis.foldl (λn p=>grow n p.Dst) n);obtain⟨h1,h2⟩:=BM l (b.Ops.foldl (λn o=>grow n o.Dst) (b.Phis.foldl (λn p=>grow n p.Dst) n));rw[Zf];refine⟨by omega,λx hx=>?_⟩;rcases zzL28.1 hx with rfl|hx
  ·grind
  ·exact h2 x hx
end
end Go.Proofs.YtlnbjgmjaioagaaGreat
