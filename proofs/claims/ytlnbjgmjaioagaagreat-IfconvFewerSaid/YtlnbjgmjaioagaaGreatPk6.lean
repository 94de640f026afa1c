/-
  The machine, the program's functions and the laws' arithmetic: part 6 of 6.
-/
import Derived.Test.YtlnbjgmjaioagaaGreatPk5
set_option linter.unusedSectionVars false
set_option linter.unusedVariables false
set_option linter.unusedSimpArgs false
namespace Go.Proofs.YtlnbjgmjaioagaaGreat
noncomputable section
open Go Go.RowKit
theorem dP{α σ S X:Type}(l:List α)(d:α)(mk:Nat->σ->S)(P:Nat->σ->Prop)(g:σ->α->σ)(out:σ->X)(f:S->Option (LR S X))
  (hn:∀ i s,i<l.length->P i s->f (mk i s)=some (.next (mk (i+1) (g s (l.getD i d))))/\P (i+1) (g s (l.getD i d)))
  (hd:∀ s,P l.length s->f (mk l.length s)=some (.done (out s))):∀(k i:Nat) (s:σ),i+k=l.length->P i s->Ad f (mk i s)=some (out ((l.drop i).foldl g s))/\P l.length ((l.drop i).foldl g s)
 | 0,i,s,h,hP=>by
  obtain rfl:i=l.length:=by omega
  rw[Ak (hd s hP)]
  simpa using hP
 | k+1,i,s,h,hP=>by
  have hi:i<l.length:=by omega
  obtain⟨h1,h2⟩:=hn i s hi hP;obtain⟨h3,h4⟩:=dP l d mk P g out f hn hd k _ _ (by omega) h2
  have hdr:l.drop i=l.getD i d::l.drop (i+1):=by simp_all
  rw[Aq h1,h3,hdr];exact⟨rfl,h4⟩
theorem T7{α σ S X:Type}(l:List α)(d:α)(mk:Nat->σ->S)(P:Nat->σ->Prop)(g:σ->α->σ)(out:σ->X)(f:S->Option (LR S X))
  (hn:∀ i s,i<l.length->P i s->f (mk i s)=some (.next (mk (i+1) (g s (l.getD i d))))/\P (i+1) (g s (l.getD i d)))
  (hd:∀ s,P l.length s->f (mk l.length s)=some (.done (out s))) (s:σ) (hP:P 0 s):Ad f (mk 0 s)=some (out (l.foldl g s))/\P l.length (l.foldl g s):=
 dP l d mk P g out f hn hd l.length 0 s (by omega) hP
abbrev Pt:=List A2×Int
def S5(s:Pt)(k b m:Int)(az:List Int):Pt:=(s.1++[⟨k,b,1,w64 (s.2+1),az,m⟩],w64 (s.2+1))
def GF(o:A2)(g:Int)(s:Pt):A2×Pt:=
 bif o.Kind==16 then(⟨18,o.Bits,o.Lanes,o.Dst,[g,o.Args.getD 0 0,w64 (s.2+1)],o.Imm⟩,S5 s 0 o.Bits 0 []) else
 bif o.Kind==17 then(⟨19,o.Bits,o.Lanes,o.Dst,[g,o.Args.getD 0 0,o.Args.getD 1 0],o.Imm⟩,s) else
 bif o.Kind==4 then(⟨20,o.Bits,o.Lanes,o.Dst,[g,o.Args.getD 0 0,o.Args.getD 1 0,w64 (s.2+1)],o.Imm⟩,S5 s 0 o.Bits 0 []) else
 bif o.Kind==18 || (o.Kind==19 || o.Kind==20) then(⟨o.Kind,o.Bits,o.Lanes,o.Dst,w64 (s.2+1)::o.Args.drop 1,o.Imm⟩,S5 s 5 1 0 [o.Args.getD 0 0,g]) else(o,s)
def IR(g:Int)(s:Pt)(o:A2):Pt:=((GF o g s).2.1++[(GF o g s).1],(GF o g s).2.2)
def Tj(ops:List A2)(g:Int)(s:Pt):Pt:=ops.foldl (IR g) s
theorem PN(s:Pt)(k b m:Int)(az:List Int):(S5 s k b m az).1.length=s.1.length+1:=by simp[S5]
theorem dD(o:A2)(g:Int)(s:Pt):(GF o g s).2.1.length<=s.1.length+1:=by
 unfold GF
 cases o.Kind==16<;>cases o.Kind==17<;>cases o.Kind==4<;>cases o.Kind==18 || (o.Kind==19 || o.Kind==20)<;>simp[S5]
theorem d6(g:Int)(s:Pt)(o:A2):(IR g s o).1.length<=s.1.length+2:=by
 have:=dD o g s;simp[IR];omega
theorem YL(ops:List A2)(g:Int):∀ s:Pt,(Tj ops g s).1.length<=s.1.length+2*ops.length:=by
 unfold Tj
 induction ops with
 | nil =>  simp
 | cons o l ih=>
  intro s;have h1:=ih (IR g s o);have h2:=d6 g s o;simp only[Ze,Rz];omega
theorem grd_cases(o:A2)(g:Int)(s:Pt) :
  (o.Kind=16/\GF o g s=(⟨18,o.Bits,o.Lanes,o.Dst,[g,o.Args.getD 0 0,w64 (s.2+1)],o.Imm⟩,S5 s 0 o.Bits 0 []))\/(o.Kind=17/\GF o g s=(⟨19,o.Bits,o.Lanes,o.Dst,[g,o.Args.getD 0 0,o.Args.getD 1 0],o.Imm⟩,s)) \/
  (o.Kind=4/\GF o g s=(⟨20,o.Bits,o.Lanes,o.Dst,[g,o.Args.getD 0 0,o.Args.getD 1 0,w64 (s.2+1)],o.Imm⟩,S5 s 0 o.Bits 0 [])) \/
  ((o.Kind=18\/o.Kind=19\/o.Kind=20)/\GF o g s=(⟨o.Kind,o.Bits,o.Lanes,o.Dst,w64 (s.2+1)::o.Args.drop 1,o.Imm⟩,S5 s 5 1 0 [o.Args.getD 0 0,g])) \/
  ((o.Kind≠16/\o.Kind≠17/\o.Kind≠4/\o.Kind≠18/\o.Kind≠19/\o.Kind≠20)/\GF o g s=(o,s)):=by
 unfold GF
 by_cases h1:o.Kind=16
 ·grind
 by_cases h2:o.Kind=17
 ·grind
 by_cases h3:o.Kind=4
 ·grind
 rw[ show(o.Kind==17)=false by simpa using h2]
 by_cases h4:o.Kind=18\/o.Kind=19\/o.Kind=20
 ·grind
 ·grind
def ZM(o:A2):Prop:=((o.Kind=16\/o.Kind=18\/o.Kind=19\/o.Kind=20)->1<=o.Args.length)/\((o.Kind=17\/o.Kind=4)->2<=o.Args.length)/\o.Args.length<=64
theorem s4{o:A2}(h:Jr o=true)(hl:o.Args.length<=64):ZM o:=by
 simp only[Jr,A1]at h;have hn:=h.1.2.2;refine⟨λhk=>?_,λhk=>?_,hl⟩
 ·rcases hk with e|e|e|e<;>rw[e]at hn<;>simp[Rd]at hn<;>omega
 ·rcases hk with e|e<;>rw[e]at hn<;>simp[Rd]at hn<;>omega
theorem DL(d b m:Int)(az:List Int)(f:TFunc)(h:THammock)(s:Pt)(hl:s.1.length<=1000000) :
  Ce d b m az f h s.1 s.2=some (w64 (s.2+1),f,h,(S5 s d b m az).1,(S5 s d b m az).2):=by
 have hroom:1000001<=room:=by decide
 unfold Ce S5;rw[Ac (by grind)]
theorem lP{o:A2}(ha:ZM o)(g:Int)(f:TFunc)(h:THammock)(s:Pt)(hl:s.1.length<=1000000) :
  Ig o g f h s.1 s.2=some ((GF o g s).1,f,h,(GF o g s).2.1,(GF o g s).2.2):=by
 have hroom:(1000001:Nat)<=room:=by decide
 obtain⟨a1,a2,a3⟩:=ha;unfold Ig GF
 by_cases h16:o.Kind=16
 ·have hi:As (0:Int) o.Args.length:=⟨by omega,by grind⟩;rw[h16,show((16:Int)==16)=true from rfl,Af,Af,Aa hi,DL _ _ _ _ _ _ _ hl]
  rfl
 ·rw[show(o.Kind==16)=false by simpa using h16,Ar,Ar]
  by_cases h17:o.Kind=17
  ·have hi:As (0:Int) o.Args.length:=⟨by omega,by omega⟩;have hj:As (1:Int) o.Args.length:=⟨by omega,by omega⟩;rw[h17,show((17:Int)==17)=true from rfl,Af,Af,Aa hi,Aa hj]
   rfl
  ·rw[show(o.Kind==17)=false by simpa using h17,Ar,Ar]
   by_cases h4:o.Kind=4
   ·have hi:As (0:Int) o.Args.length:=⟨by omega,by omega⟩;have hj:As (1:Int) o.Args.length:=⟨by omega,by omega⟩;rw[h4,show((4:Int)==4)=true from rfl,Af,Af,Aa hi,Aa hj,DL _ _ _ _ _ _ _ hl]
    rfl
   ·rw[show(o.Kind==4)=false by simpa using h4,Ar]
    have e:(bif (o.Kind==18) then some (o.Kind==18) else bif (o.Kind==19) then some (o.Kind==19) else some (o.Kind==20))=some (o.Kind==18 || (o.Kind==19 || o.Kind==20)):=by
     grind
    rw[e,Aj]
    cases hb:(o.Kind==18 || (o.Kind==19 || o.Kind==20)) with
    | false=>rfl
    | true=>
     simp only[JI,zzL46]at hb;have hi:As (0:Int) o.Args.length:=⟨by omega,by omega⟩;rw[Af,Af,Aa hi,DL _ _ _ _ _ _ _ hl];simp only[Aj];rw[Ac (by omega),Ac (by simp;omega)]
     rfl
theorem ca{ops:List A2}(ho:∀ o∈ops,ZM o)(hn:ops.length<=100000)(g:Int)(f:TFunc)(h:THammock)(s:Pt)(hl:s.1.length<=100000) :
  Ef ops g f h s.1 s.2=some (f,h,(Tj ops g s).1,(Tj ops g s).2):=by
 have hroom:1000001<=room:=by decide
 have key:=T7 ops default (λi t=>((i:Int),f.Params,f.Ret,f.Blocks,h.At,h.Then,h.Else,h.Join,t.1,t.2)) (λi t=>t.1.length<=s.1.length+2*i) (IR g) (λt=>(f.Params,f.Ret,f.Blocks,h.At,h.Then,h.Else,h.Join,t.1,t.2)) (Gz ops g)
  (λi t hi hP=>by
   have h2:=d6 g t (ops.getD i default);refine⟨?_,by omega⟩;have h3:=dD (ops.getD i default) g t;unfold Gz;simp only[B4 hi, Aa (Ag hi),Ap,w1 (show i<4611686018427387904 by omega)];rw[  lP (ho _ (Ai hi)) g f h t (by omega),Aj];rw[Ac (by grind)]
   rfl)
  (λt _=>by unfold Gz;simp only[Dh,Ar]) s (by omega)
 unfold Ef;rw[show(0,f.Params,f.Ret,f.Blocks,h.At,h.Then,h.Else,h.Join,s.1,s.2)=(((0:Nat):Int),f.Params,f.Ret,f.Blocks,h.At,h.Then,h.Else,h.Join,s.1,s.2) from rfl,key.1]
 rfl
def Fk(h:THammock)(x:Int):Int:=bif x==-1 then h.At else x
structure Hm(f:TFunc)(h:THammock):Prop where
 R:Rt f
 at_:As h.At f.Blocks.length
 kind:(bA f h.At.toNat).End.Kind=2
 sides:(h.Then = -1\/As h.Then f.Blocks.length)/\(h.Else = -1\/As h.Else f.Blocks.length)
 join:As h.Join f.Blocks.length
 jne:h.Join≠h.At
 thenJ:Fk h h.Then∈HF f h.Join.toNat
 elseJ:Fk h h.Else∈HF f h.Join.toNat
 apart:Fk h h.Then≠Fk h h.Else
 atJ:h.At∈HF f h.Join.toNat->Fk h h.Then=h.At\/Fk h h.Else=h.At
 tne:h.Then≠h.At/\h.Else≠h.At/\h.Then≠h.Join/\h.Else≠h.Join
 mid:(h.Then≠-1->Nh f h.At h.Then=true/\Dr f h.Then.toNat 0=h.Join)/\(h.Else≠-1->Nh f h.At h.Else=true/\Dr f h.Else.toNat 0=h.Join)
 to:(h.Then≠-1->Dr f h.At.toNat 0=h.Then)/\(h.Then = -1->Dr f h.At.toNat 0=h.Join)/\(h.Else≠-1->Dr f h.At.toNat 1=h.Else)/\(h.Else = -1->Dr f h.At.toNat 1=h.Join)
 one:h.Then≠-1\/h.Else≠-1
theorem vV{f:TFunc}(hs:Sm f){h:THammock}(hi:O7 f h=true):Hm f h:=by
 have hi':=hi;unfold O7 at hi';rw[A1]at hi';have R:=CH hs (by simpa [Xl] using hi'.1);obtain⟨i,hin,ho⟩:=mem_all.1 (is_mem.1 hi'.2);have ea:=f9 ho;obtain⟨hk,hne,hJ,hJA,hcs⟩:=ZX R hin ho;have hsd:=DT R hin ho;have e2:=R.two i hin hk
 have ei:h.At.toNat=i:=by rw[ea];simp
 have hJn:h.Join.toNat<f.Blocks.length:=by have:=hJ.1;have:=hJ.2;omega
 have hJc:((h.Join.toNat:Nat):Int)=h.Join:=K9 hJ.1
 have mpos:∀ x,Nh f i x=true->As x f.Blocks.length->x≠i/\x≠h.Join:=λx hm hx=>by
  have hk1:=O9 hm
  constructor
  ·rintro rfl;rw[show((i:Int)).toNat=i by simp,hk]at hk1;cases hk1
  ·rintro rfl
   have hp:HF f h.Join.toNat=[(i:Int)]:=by
    unfold Nh at hm;simp only[A1,Dq]at hm;exact hm.2
   rcases hcs with⟨a1,a2,a3,a4,a5,a6⟩|⟨a1,a2,a3,a4,a5⟩|⟨a1,a2,a3,a4,a5⟩
   all_goals
    have hx0:=hx.1
   ·have h1:As h.Then f.Blocks.length:=hsd.1.resolve_left λe=>by rw[e]at a1;have:=P5 R hin hk 0 (by omega);rw[<- a1]at this;exact absurd this.1 (by omega)
    have hin2:h.Then∈HF f h.Join.toNat:=(Yk R hJn).2 ⟨h.Then.toNat,(K9 h1.1).symm,(by have:=h1.1;have:=h1.2;omega),by rw[hJc,<- a5];exact Ai (by rw[R.one _ (by have:=h1.1;have:=h1.2;omega) (O9 a3)];omega)⟩
    have h2:As h.Else f.Blocks.length:=hsd.2.resolve_left λe=>by rw[e]at a2;have:=P5 R hin hk 1 (by omega);rw[<- a2]at this;exact absurd this.1 (by omega)
    have hin3:h.Else∈HF f h.Join.toNat:=(Yk R hJn).2 ⟨h.Else.toNat,(K9 h2.1).symm,(by have:=h2.1;have:=h2.2;omega),by rw[hJc,<- a6];exact Ai (by rw[R.one _ (by have:=h2.1;have:=h2.2;omega) (O9 a4)];omega)⟩;rw[hp]at hin2 hin3;simp only[zzL24]at hin2 hin3;exact hne (by rw[<- a1,<- a2,hin2,hin3])
   ·have h1:As h.Then f.Blocks.length:=hsd.1.resolve_left λe=>by rw[e]at a1;have:=P5 R hin hk 0 (by omega);rw[<- a1]at this;exact absurd this.1 (by omega)
    have hin2:h.Then∈HF f h.Join.toNat:=(Yk R hJn).2 ⟨h.Then.toNat,(K9 h1.1).symm,(by have:=h1.1;have:=h1.2;omega),by rw[hJc,<- a5];exact Ai (by rw[R.one _ (by have:=h1.1;have:=h1.2;omega) (O9 a4)];omega)⟩;rw[hp]at hin2;simp only[zzL24]at hin2;have:=O9 a4;rw[hin2,show((i:Int)).toNat=i by simp,hk]at this
    cases this
   ·have h2:As h.Else f.Blocks.length:=hsd.2.resolve_left λe=>by rw[e]at a2;have:=P5 R hin hk 1 (by omega);rw[<- a2]at this;exact absurd this.1 (by omega)
    have hin3:h.Else∈HF f h.Join.toNat:=(Yk R hJn).2 ⟨h.Else.toNat,(K9 h2.1).symm,(by have:=h2.1;have:=h2.2;omega),by rw[hJc,<- a5];exact Ai (by rw[R.one _ (by have:=h2.1;have:=h2.2;omega) (O9 a4)];omega)⟩;rw[hp]at hin3;simp only[zzL24]at hin3;have:=O9 a4;rw[hin3,show((i:Int)).toNat=i by simp,hk]at this
    cases this
 have t0:=P5 R hin hk 0 (by omega);have t1:=P5 R hin hk 1 (by omega);have here:∀ k,k<2->Dr f i k=h.Join->(i:Int)∈HF f h.Join.toNat:=λk hk2 e=>(Yk R hJn).2 ⟨i,rfl,hin,by rw[hJc,<- e];exact Ai (by rw[e2];exact hk2)⟩;have there:∀ x,As x f.Blocks.length->Nh f i x=true->Dr f x.toNat 0=h.Join->x∈HF f h.Join.toNat:=λx hx hm e=>(Yk R hJn).2 ⟨x.toNat,(K9 hx.1).symm,(by have:=hx.1;have:=hx.2;omega),by rw[hJc,<- e];exact Ai (by rw[R.one _ (by have:=hx.1;have:=hx.2;omega) (O9 hm)];omega)⟩
 have pos:∀ x,As x f.Blocks.length->x≠-1:=λx hx e=>by have:=hx.1;omega
 have ce:∀ x,As x f.Blocks.length->Fk h x=x:=λx hx=>by unfold Fk;rw[show(x==-1)=false by simpa using pos x hx];rfl
 have cm:Fk h (-1)=i:=by unfold Fk;rw[ea];rfl
 have at_to:h.At∈HF f h.Join.toNat->h.Join=Dr f i 0\/h.Join=Dr f i 1:=λhm=>by
  obtain⟨p,hp,hpn,hto⟩:=(Yk R hJn).1 hm
  obtain rfl:p=i:=by omega
  rw[hJc]at hto;obtain⟨k,hk3,hk4⟩:=N6 hto
  have hk5:Dr f p k=h.Join:=by unfold Dr;rw[An _ _ _ hk3];exact hk4
  rw[e2]at hk3
  have:k=0\/k=1:=by omega
  rcases this with rfl|rfl
  ·exact .inl hk5.symm
  ·exact .inr hk5.symm
 rw[<- ei]at hk
 have hA:As h.At f.Blocks.length:=by rw[ea];exact Ag hin
 rcases hcs with⟨a1,a2,a3,a4,a5,a6⟩|⟨a1,a2,a3,a4,a5⟩|⟨a1,a2,a3,a4,a5⟩
 ·have i1:As h.Then f.Blocks.length:=by rw[a1];exact t0
  have i2:As h.Else f.Blocks.length:=by rw[a2];exact t1
  obtain⟨m1,m2⟩:=mpos _ a3 i1;obtain⟨m3,m4⟩:=mpos _ a4 i2;refine⟨R,hA,hk,hsd,hJ,by rw[ea];exact hJA,by rw[ce _ i1];exact there _ i1 a3 a5,by rw[ce _ i2];exact there _ i2 a4 a6,by rw[ce _ i1,ce _ i2,a1,a2];exact hne,λhm=>?_,⟨by rw[ea];exact m1,by rw[ea];exact m3,m2,m4⟩,by rw[ea];exact⟨λ_=>⟨a3,a5⟩,λ_=>⟨a4,a6⟩⟩,?_,.inl (pos _ i1)⟩
  ·rcases at_to hm with e|e
   ·exact absurd (by rw[e,a1]) m2
   ·exact absurd (by rw[e,a2]) m4
  ·rw[ei];exact⟨λ_=>a1.symm,λe=>absurd e (pos _ i1),λ_=>a2.symm,λe=>absurd e (pos _ i2)⟩
 ·have i1:As h.Then f.Blocks.length:=by rw[a1];exact t0
  obtain⟨m1,m2⟩:=mpos _ a4 i1;refine⟨R,hA,hk,hsd,hJ,by rw[ea];exact hJA,by rw[ce _ i1];exact there _ i1 a4 a5,by rw[a2,cm];exact here 1 (by omega) a3.symm,by rw[ce _ i1,a2,cm];exact m1,λ_=>.inr (by rw[a2,cm,ea]),⟨by rw[ea];exact m1,by rw[a2,ea];omega,m2,by rw[a2];exact λe=>pos _ hJ e.symm⟩,by rw[ea];exact⟨λ_=>⟨a4,a5⟩,λe=>absurd a2 e⟩,?_,.inl (pos _ i1)⟩;rw[ei];exact⟨λ_=>a1.symm,λe=>absurd e (pos _ i1),λe=>absurd a2 e,λ_=>a3.symm⟩
 ·have i2:As h.Else f.Blocks.length:=by rw[a2];exact t1
  obtain⟨m3,m4⟩:=mpos _ a4 i2;refine⟨R,hA,hk,hsd,hJ,by rw[ea];exact hJA,by rw[a1,cm];exact here 0 (by omega) a3.symm,by rw[ce _ i2];exact there _ i2 a4 a5,by rw[ce _ i2,a1,cm];exact λe=>m3 e.symm,λ_=>.inl (by rw[a1,cm,ea]),⟨by rw[a1,ea];omega,by rw[ea];exact m3,by rw[a1];exact λe=>pos _ hJ e.symm,m4⟩,by rw[ea];exact⟨λe=>absurd a1 e,λ_=>⟨a4,a5⟩⟩,?_,.inr (pos _ i2)⟩;rw[ei];exact⟨λe=>absurd a1 e,λ_=>a3.symm,λ_=>a2.symm,λe=>absurd e (pos _ i2)⟩
theorem tm{a b:Nat}(h:a+b<4000000):w64 (Xf .u64 (Fj (w64 ((a:Int)+(b:Int)))) (1:Int))=(((a+b) / 2:Nat):Int):=by
 have e:(a+b)=((a+b:Nat):Int):=by omega
 rw[e,Em (n:=(a+b:Nat)) (by omega) (by omega),So (by omega) (by omega)];unfold Xf;rw[show(1:Int).toNat=1 from rfl,show min 1 _=1 from rfl, Int.fdiv_eq_ediv_of_nonneg _ (by omega),Em (by omega) (by omega)];omega
theorem pM{l:List Int}(hs:l.Pairwise (·<·))(hl:l.length<=1000)(x:Int):∃(i:Nat) (b:Bool),Eu l x=some ((i:Int),b)/\i<=l.length/\(∀ k,k<i->l.getD k 0<x)/\∀ k,i<=k->k<l.length->x<=l.getD k 0:=by
 have hmono:∀ i j,i<j->j<l.length->l.getD i 0<l.getD j 0:=λi j hij hj=>by
  rw[An _ _ _ hj,An _ _ _ (by omega)];exact zzL108.1 hs i j (by omega) hj hij
 have key:∀ d (a b:Nat),b-a<=d->a<=b->b<=l.length->(∀ k,k<a->l.getD k 0<x)->(∀ k,b<=k->k<l.length->x<=l.getD k 0)->
   ∃ i:Nat,Ad (B1 l x) ((a:Int),(b:Int))=some (i:Int)/\i<=l.length/\(∀ k,k<i->l.getD k 0<x)/\∀ k,i<=k->k<l.length->x<=l.getD k 0:=by
  intro d
  induction d with
  | zero=>
   intro a b h1 h2 h3 h4 h5
   obtain rfl:a=b:=by omega
   refine⟨a,Ak ?_,h3,h4,h5⟩;unfold B1;simp only[Dh,Ar]
  | succ d ih=>
   intro a b h1 h2 h3 h4 h5
   by_cases hab:a<b
   ·have hm:(a+b) / 2<l.length:=by omega
    have e:B1 l x ((a:Int),(b:Int))=some (.next (bif decide (l.getD ((a+b) / 2) 0<x) then((((a+b) / 2+1:Nat):Int),(b:Int)) else((a:Int),(((a+b) / 2:Nat):Int)))):=by
     unfold B1 Ug Pl;simp only[B4 hab,Af,tm (show a+b<4000000 by omega),Aa (Ag hm),Ap,Aj,bne_self_eq_false,w1 (show(a+b) / 2<4611686018427387904 by omega)]
     cases decide (l.getD ((a+b) / 2) 0<x)<;>rfl
    rw[Aq e]
    by_cases hx:l.getD ((a+b) / 2) 0<x
    ·rw[F6 hx,Af];refine ih _ _ (by omega) (by omega) h3 (λk hk=>?_) h5;rcases zzL118 k ((a+b) / 2) with h6|h6
     ·exact Int.lt_trans (hmono k _ h6 hm) hx
     ·obtain rfl:k=(a+b) / 2:=by omega
      exact hx
    ·rw[Dl hx,Ar];refine ih _ _ (by omega) (by omega) (by omega) h4 (λk hk hkl=>?_);rcases zzL118 ((a+b) / 2) k with h6|h6
     ·have:=hmono _ k h6 hkl;omega
     ·obtain rfl:k=(a+b) / 2:=by omega
      omega
   ·exact ih a b (by omega) h2 h3 h4 h5
 obtain⟨i,h1,h2,h3,h4⟩:=key l.length 0 l.length (by omega) (by omega) (zzL8 _) (λk hk=>by omega) (λk hk hk2=>by omega);have h1':Ad (B1 l x) ((0:Int),(l.length:Int))=some (i:Int):=h1;unfold Eu Mb;rw[h1',Aj]
 have hin:(decide ((i:Int)<(l.length:Int)))=true->As (i:Int) l.length:=λh=>by have:=LH h;exact⟨by omega,this⟩
 rw[Aa (λh=>hin (by simpa using h)),Aa (λh=>hin (by simp at h;simpa using h.1))];simp only[bne_self_eq_false];refine⟨i,(bif decide ((i:Int)<(l.length:Int)) then(bif (l.getD (i:Int).toNat 0==x) then true else(bif false then false else false)) else false),?_,h2,h3,h4⟩
 have e:∀ b:Bool,(bif b then some false else some false)=some false:=λb=>by cases b<;>rfl
 rw[e,Aj];simp only[Bool.and_false,show((false:Bool)==true)=false from rfl,Ar,Aj]
def DK(p:Bf)(x:Int):Int:=match p.From.findIdx? (λy=>y==x) with|some i=>p.Args.getD i 0|none=>0
theorem oK{p:Bf}(hs:p.From.Pairwise (·<·)){i:Nat}(hi:i<p.From.length):DK p (p.From.getD i 0)=p.Args.getD i 0:=by
 have hfi:p.From.findIdx? (λy=>y==p.From.getD i 0)=some i:=by
  rw[List.findIdx?_eq_some_iff_getElem];rw[An _ _ _ hi];refine⟨hi,by simp,λj hj=>?_⟩;have:=zzL108.1 hs j i (by omega) hi hj
  simp;omega
 unfold DK;rw[hfi]
theorem zu{p:Bf}(hs:p.From.Pairwise (·<·))(hl:p.From.length<=1000)(ha:p.Args.length=p.From.length){x:Int}(hx:x∈p.From):Sv p x=some (DK p x):=by
 unfold Sv
 rcases m_index _ x hl with⟨r,h1,h2,_,h3⟩|⟨h1,_⟩
 ·rw[h3,Aj,Aa (by rw[ha];exact Ag h1),Ap,<- h2,oK hs h1]
 ·obtain⟨i,hi,he⟩:=N6 hx;exact absurd (by grind) (h1 i hi)
def Ru(h:THammock)(x:Int):Int:=(λy:Int=>bif (h.Else !=-1)&&decide (h.Else<x) then y-1 else y) (bif (h.Then !=-1)&&decide (h.Then<x) then x-1 else x)
def lu(h:THammock)(p:Bf):Bf:=⟨p.Bits,p.Dst,p.From.map (Ru h),p.Args⟩
def RC(h:THammock)(b:Ab):Ab:=⟨b.Phis.map (lu h),b.Ops,⟨b.End.Kind,b.End.Arg,b.End.To.map (Ru h)⟩⟩
theorem DJ(a b:Bool):(bif a then b else false)=(a&&b):=by cases a<;>rfl
theorem ZQ{α:Type}(b:Bool)(x y:α):(bif b then some x else some y)=some (bif b then x else y):=by cases b<;>rfl
theorem tM{h:THammock}{x:Int}(hx:0<=x/\x<1000000):Nb x h=some (Ru h x):=by
 unfold Nb Ru;rw[DJ,DJ,ZQ,Aj,Em (n:=x-1) (by omega) (by omega)]
 generalize hz:(bif ((h.Then !=-1)&&decide (h.Then<x)) then x-1 else x)=z
 have hz2:-1<=z/\z<1000000:=by grind
 rw[Em  (by omega) (by omega),ZQ]
 rfl
theorem dB{α β:Type}(F:α->β):∀(l:List α) (k:Nat) (s:List β),s.length=k+l.length->(l.foldl (λ(t:Nat×List β) b=>(t.1+1,t.2.set t.1 (F b))) (k,s)).2=s.take k++l.map F
 | [],k,s,h=>by simp at h;simp[<- h]
 | b::l,k,s,h=>by
  simp only[Rz]at h;rw[Ze,dB F l _ _ (by simp;omega)]
  have e:(s.set k (F b)).take (k+1)=s.take k++[F b]:=by
   rw[List.take_add_one,List.take_set_of_le (by omega)];simp[ show k<s.length by omega]
  rw[e,U8];rfl
theorem dQ{α β X:Type}(l:List α)(d:α)(F:α->β)(out:List β->X)(f:Int×List β->Option (LR (Int×List β) X))(hn:∀(i:Nat) (s:List β),i<l.length->s.length=l.length->f ((i:Int),s)=some (.next (((i+1:Nat):Int),s.set i (F (l.getD i d)))))
  (hd:∀ s,f ((l.length:Int),s)=some (.done (out s))) (s:List β) (hs:s.length=l.length):Ad f ((0:Int),s)=some (out (l.map F)):=by
 have key:=T7 l d (λi t=>((i:Int),t.2)) (λi t=>t.1=i/\t.2.length=l.length) (λt b=>(t.1+1,t.2.set t.1 (F b))) _ f
  (λi t hi hP=>by grind) (λt _=>hd t.2) (0,s) ⟨rfl,hs⟩
 have:=key.1;rw[dB F l 0 s (by omega)]at this
 simpa using this
theorem PR{l:List Int}{h:THammock}(hl:l.length<=100000)(hx:∀ x∈l,0<=x/\x<1000000):Ku l h=some (l.map (Ru h)):=by
 have hroom:1000001<=room:=by decide
 unfold Ku
 rw[Aa (by omega),dQ l 0 _ id _ (λi s hi hs=>by
  unfold Nv;simp only[B4 hi,Af,Aa (Ag hi),Ap,tM (hx _ (Ai hi)),Aj,w1 (show i<4611686018427387904 by omega)]
  rw[Aa (by rw[hs];exact Ag hi)]) (λs=>by unfold Nv;simp only[Dh];rfl) _ (by simp)]
 rfl
def vE(b:Ab):Prop:=b.Phis.length<=100000/\(∀ p∈b.Phis,p.From.length<=100000/\∀ x∈p.From,0<=x/\x<1000000)/\b.End.To.length<=100000/\∀ x∈b.End.To,0<=x/\x<1000000
theorem tJ{b:Ab}(hb:vE b)(h:THammock):Qs b h=some (RC h b):=by
 have hroom:1000001<=room:=by decide
 obtain⟨b1,b2,b3,b4⟩:=hb;unfold Qs
 rw[Aa (by omega),dQ _ _ (lu h) id _ (λi s hi hs=>by
  unfold Qt;have hm:=b2 _ (Ai (d:=default) hi);simp only[B4 hi, Aa (Ag hi),Ap,PR hm.1 hm.2,Aj,w1 (show i<4611686018427387904 by omega)];rw[Aa (by rw[hs];exact Ag hi)]
  rfl) (λs=>by unfold Qt;simp only[Dh];rfl) _ (by simp), PR b3 b4]
 rfl
def jj(h:THammock)(p:Bf)(k:Nat):Bool:=((k:Int)==h.At) || (((k:Int)!=Fk h h.Then)&&(((k:Int)!=Fk h h.Else)&&p.From.contains (k:Int)))
def BE(n:Nat)(h:THammock)(p:Bf):List Int:=((List.range n).filter (jj h p)).map Int.ofNat
def dE(n:Nat)(h:THammock)(p:Bf)(v:Int):Bf:=⟨p.Bits,p.Dst,BE n h p,(BE n h p).map λx=>bif x==h.At then v else DK p x⟩
theorem XD{α β:Type}(c:α->Bool)(F:α->β):∀(l:List α) (s:List α×List β),l.foldl (λs b=>bif c b then(s.1++[b],s.2++[F b]) else s) s=(s.1++l.filter c,s.2++(l.filter c).map F)
 | [],s=>by simp
 | b::l,s=>by
  rw[Ze,XD c F l];cases h:c b<;>simp[h]
theorem lQ{n:Nat}{h:THammock}{p:Bf}(hs:p.From.Pairwise (·<·))(hl:p.From.length<=1000)(ha:p.Args.length=p.From.length)(hin:∀ x∈p.From,As x n)(hA:As h.At n)(hat:h.At∈p.From->Fk h h.Then=h.At\/Fk h h.Else=h.At)(v:Int) :
  Od p (Fk h h.Then) (Fk h h.Else) h.At v=some (dE n h p v):=by
 have hroom:(1000001:Nat)<=room:=by decide
 have key:=T7 p.From (0:Int) (λi (t:List Int×List Int)=>((i:Int),t.1,t.2)) (λi t=>t.1.length<=i/\t.2.length<=i) (λs b=>bif (b !=Fk h h.Then)&&(b !=Fk h h.Else) then(s.1++[b],s.2++[DK p b]) else s) (λt=>(t.1,t.2)) (Ln p (Fk h h.Then) (Fk h h.Else))
  (λi t hi hP=>by
   unfold Ln;simp only[B4 hi,Af,Aa (Ag hi),Ap,w1 (show i<4611686018427387904 by omega),DJ];rw[oK hs hi]
   cases((p.From.getD i 0 !=Fk h h.Then)&&(p.From.getD i 0 !=Fk h h.Else)) with
   | false=>exact⟨rfl,by simp only[Ar];omega⟩
   | true=>
    simp only[Af];rw[Ac (by simp;omega),Aa (by rw[ha];exact Ag hi),Ac (by simp;omega)]
    exact⟨rfl,by simp;omega⟩)
  (λt _=>by unfold Ln;simp only[Dh,Ar]) ([],[]) (by simp)
 rw[XD]at key;simp only[V2]at key;obtain⟨L,hL⟩:∃ L,L=p.From.filter λb=>(b !=Fk h h.Then)&&(b !=Fk h h.Else):=⟨_,rfl⟩;rw[<- hL]at key
 have hLs:L.Pairwise (·<·):=by rw[hL];exact hs.filter _
 have hLl:L.length<=1000:=by rw[hL];exact P8 (List.length_filter_le ..) hl
 have hLm:∀ x,x∈L↔x∈p.From/\x≠Fk h h.Then/\x≠Fk h h.Else:=λx=>by rw[hL,zzL95];simp
 have hLa:h.At∉L:=λhm=>by
  obtain⟨h1,h2,h3⟩:=(hLm _).1 hm;rcases hat h1 with e|e
  ·exact h2 e.symm
  ·exact h3 e.symm
 unfold Od;rw[show((0:Int),([]:List Int),([]:List Int))=(((0:Nat):Int),[],[]) from rfl,key.1];obtain⟨i,b,hb,hi,hlt,hge⟩:=pM hLs hLl h.At
 have hI:∀ M:List Int,M.length=L.length->∀ z,CR M (i:Int) [z]=some (M.take i++[z]++M.drop i,M.take i++[z]++M.drop i,[z]):=λM hM z=>by
  unfold CR;rw[Ac ⟨by omega,by omega,by simp,by simp;omega⟩,Ap]
 simp only[Aj,hb,hI L rfl,hI (L.map (DK p)) (by simp)];rw[Ac (show 1=[h.At].length from rfl),Ac (show 1=[v].length from rfl)]
 have hF:L.take i++[h.At]++L.drop i=BE n h p:=by
  have hgt:∀ y∈L.drop i,h.At<y:=λy hy=>by
   obtain⟨k,hk,rfl⟩:=N6 hy;rw[List.getElem_drop];rw[CX]at hk;have h1:=hge (i+k) (by omega) (by omega);rw[An _ _ _ (show i+k<L.length by omega)]at h1;have h2:L[i+k]≠h.At:=λe=>hLa (e▸LJ _);omega
  have hlt':∀ y∈L.take i,y<h.At:=λy hy=>by
   obtain⟨k,hk,rfl⟩:=N6 hy;rw[List.getElem_take];rw[JG]at hk;have h1:=hlt k (by omega);rwa[An _ _ _ (show k<L.length by omega)]at h1
  refine GS ?_ (BB _ _) λx=>?_
  ·grind
  ·unfold BE;rw[QZ]
   have hx:x∈L.take i++[h.At]++L.drop i↔x=h.At\/x∈L:=by
    conv=>rhs;rw[<- List.take_append_drop i L]
    simp only[zzL13,zzL24]
    constructor
    ·rintro((h1|h1)|h1)
     ·exact .inr (.inl h1)
     ·exact .inl h1
     ·exact .inr (.inr h1)
    ·rintro(h1|h1|h1)
     ·exact .inl (.inr h1)
     ·exact .inl (.inl h1)
     ·exact .inr h1
   rw[hx]
   constructor
   ·intro h1
    have hxn:As x n:=by
     rcases h1 with rfl|h1
     ·exact hA
     ·exact hin x ((hLm x).1 h1).1
    refine⟨x.toNat,(K9 hxn.1).symm,(by have:=hxn.1;have:=hxn.2;omega),?_⟩;unfold jj;rw[K9 hxn.1];rcases h1 with rfl|h1
    ·simp
    ·obtain⟨h2,h3,h4⟩:=(hLm x).1 h1;simp[h2,h3,h4]
   ·rintro⟨k,rfl,hk,h1⟩;unfold jj at h1;simp only[JI,zzL46,A1,zzL85,zzL63,ne_eq]at h1;rcases h1 with h1|⟨h1,h2,h3⟩
    ·exact .inl h1
    ·exact .inr ((hLm _).2 ⟨h3,h1,h2⟩)
 have hG:(L.map (DK p)).take i++[v]++(L.map (DK p)).drop i=(BE n h p).map λx=>bif x==h.At then v else DK p x:=by
  rw[<- hF,JH,JH,<- List.map_take,<- List.map_drop]
  have e:∀ M:List Int,(∀ x∈M,x∈L)->M.map (DK p)=M.map λx=>bif x==h.At then v else DK p x:=λM hM=>bV λx hx=>by
   have:(x==h.At)=false:=by simp;exact λe=>hLa (e▸hM x hx)
   rw[this];rfl
  rw[e _ (λx hx=>List.mem_of_mem_take hx),e _ (λx hx=>List.mem_of_mem_drop hx)]
  simp
 rw[hF,hG]
 rfl
set_option linter.unusedSectionVars false
theorem wv(k:Int):Vu k=some (YC k):=by
 unfold Vu YC
 have e:(bif (k==4) then some (k==4) else bif (k==16) then some (k==16) else bif (k==17) then some (k==17) else bif (k==18) then some (k==18) else bif (k==19) then some (k==19) else some (k==20))=some (k==4 || k==16 || k==17 || k==18 || k==19 || k==20):=by
  grind
 rw[e, MM]
 cases(k==4 || k==16 || k==17 || k==18 || k==19 || k==20)<;>simp
def VG(l:List A2):Bool:=l.any λo=>!YC o.Kind
theorem ww(l:List A2)(hl:l.length<4611686018427387904):Cl l=some (VG l):=by
 unfold Cl E8 VG
 have hk:∀ i,i<l.length->m_slices_IndexFunc_api_Op_api_Op_v2_L1 l i=bif !YC (l.getD i default).Kind then some (.done (.inr i)) else some (.next ((i+1:Nat))):=λi hi=>by
  unfold m_slices_IndexFunc_api_Op_api_Op_v2_L1 Ou;simp only[B4 hi,Af,Ap,Aa (Ag hi),wv,Aj,w1 (show i<4611686018427387904 by omega)]
 rcases loop_first (m_slices_IndexFunc_api_Op_api_Op_v2_L1 l) (λi=>!YC _) _ (.inl ()) _ (λi hi hp=>by rw[hk i hi,hp];rfl) (λi hi hp=>by rw[hk i hi,hp];rfl)
  (by unfold m_slices_IndexFunc_api_Op_api_Op_v2_L1;simp only[Dh,Ar]) with⟨i,hi,hp,hl⟩|⟨hp,hl⟩
 ·rw[hl,List.any_eq_true.2 ⟨_,Ai hi,hp⟩]
  simp
 ·rw[hl]
  have:(l.any λo=>!YC o.Kind)=false:=by
   rw[Bool.eq_false_iff];intro h;obtain⟨o,ho,hb⟩:=List.any_eq_true.1 h;obtain⟨i,hi,he⟩:=N6 ho;have:=hp i hi;rw[An _ _ _ hi,he,hb]at this
   cases this
  rw[this];rfl
def bO(f:TFunc)(h:THammock):Pt:=Tj (Mp f h.Then) (bA f h.At.toNat).End.Arg ((bA f h.At.toNat).Ops,M8 f)
def WI(f:TFunc)(h:THammock):Pt:=bif VG (Mp f h.Else) then S5 (S5 (bO f h) 0 1 1 []) 7 1 0 [(bA f h.At.toNat).End.Arg,(S5 (bO f h) 0 1 1 []).2] else bO f h
def lx(f:TFunc)(h:THammock):Int:=bif VG (Mp f h.Else) then(WI f h).2 else 0
def PF(f:TFunc)(h:THammock):Pt:=Tj (Mp f h.Else) (lx f h) (WI f h)
section
variable {f:TFunc} {h:THammock} (H:Hm f h)
include H
theorem pp(hc:Xl f=true){x:Int}(hx:x = -1\/As x f.Blocks.length):∀ o∈Mp f x,ZM o:=by
 intro o ho;unfold Mp at ho;rcases hx with rfl|hx
 ·cases ho
 ·rw[show(x !=-1)=true by grind]at ho;have hm:bA f x.toNat∈f.Blocks:=Ai (by have:=hx.1;have:=hx.2;omega);exact s4 (eS ((Pq   (by omega) (by omega)).1 (by simpa [Xl] using hc)).2.2.1 hm ho) (XX H.R.ok hm ho)
theorem ZO:(bA f h.At.toNat).Ops.length<=512:=by
 have:=(H.R.ok.block _ (Ai  (i:=h.At.toNat) (d:=default) (by have:=H.at_.1;have:=H.at_.2;omega))).ops;exact this
theorem kC:(bO f h).1.length<=2000:=by
 have h1:=YL (Mp f h.Then) (bA f h.At.toNat).End.Arg ((bA f h.At.toNat).Ops,M8 f);have h2:=Iw H.R H.sides.1;have h3:=ZO H;unfold bO;simp only at h1;omega
theorem kD:(WI f h).1.length<=2002:=by
 have:=kC H;unfold WI
 cases VG _ with
 | false=>rw[Ar];omega
 | true=>rw[Af,PN,PN];omega
theorem kE:(PF f h).1.length<=4000:=by
 have h1:=YL (Mp f h.Else) (lx f h) (WI f h);have h2:=Iw H.R H.sides.2;have h3:=kD H;unfold PF;omega
theorem WU{x:Int}(hx:x = -1\/As x f.Blocks.length)(s:List A2)(l:Int):Fq x f h s l=some (Mp f x):=by
 unfold Fq Mp;rcases hx with rfl|hx
 ·rfl
 ·have e:(x==-1)=false:=by have:=hx.1;simp;omega
  rw[e, Aa hx,show(x !=-1)=true by simpa using e]
  rfl
theorem fp(hc:Xl f=true):Hu (bA f h.At.toNat).End.Arg f h (bA f h.At.toNat).Ops (M8 f)=some (f,h,(PF f h).1,(PF f h).2):=by
 have l1:=Iw H.R H.sides.1;have l2:=Iw H.R H.sides.2;have k1:=kC H;have k2:=kD H;unfold Hu;rw[WU H H.sides.1,Aj,ca (pp H hc H.sides.1) (by omega) _ _ _ ((bA f h.At.toNat).Ops,M8 f) (by have:=ZO H;simp only;omega),Aj];simp only;rw[show Tj (Mp f h.Then) (bA f h.At.toNat).End.Arg ((bA f h.At.toNat).Ops,M8 f)=bO f h from rfl,WU H H.sides.2,Aj,ww _ (by omega),Aj];have e:∀ z ,z=(lx f h,f.Params,f.Ret,f.Blocks,h.At,h.Then,h.Else,h.Join,(WI f h).1,(WI f h).2)->
   (Option.bind (some z) λx17=>(match x17 with|(i4,l5,i6,l7,i8,i9,i10,i11,l12,i13)=>((Ef (Mp f h.Else) i4 (⟨l5,i6,l7⟩:TFunc) _ l12 i13).bind _)))=some (f,h,(PF f h).1,(PF f h).2):=λz hz=>by
  subst hz;simp only[Aj];rw[  ca (pp H hc H.sides.2) (by omega) _ _ _ (WI f h) (by omega),Aj]
  rfl
 cases hg:VG (Mp f h.Else) with
 | false=>
  rw[Ar];refine e _ ?_;unfold lx WI;rw[hg];rfl
 | true=>
  rw[Af,DL _ _ _ _ _ _ _ (by omega),Aj];simp only;rw[DL _ _ _ _ _ _ _ (by rw[PN];omega),Aj];refine e _ ?_;unfold lx WI;rw[hg];rfl
end
def OK(f:TFunc)(h:THammock)(s:List Bf×Pt)(p:Bf):List Bf×Pt:=
 bif DK p (Fk h h.Then)==DK p (Fk h h.Else) then(s.1++[dE f.Blocks.length h p (DK p (Fk h h.Then))],s.2) else
  (s.1++[dE f.Blocks.length h p (w64 (s.2.2+1))],S5 s.2 13 p.Bits 0 [(bA f h.At.toNat).End.Arg,DK p (Fk h h.Then),DK p (Fk h h.Else)])
def FF(f:TFunc)(h:THammock):List Bf×Pt:=(bA f h.Join.toNat).Phis.foldl (OK f h) ([],PF f h)
theorem j5(f:TFunc)(h:THammock)(s:List Bf×Pt)(p:Bf):(OK f h s p).1.length=s.1.length+1/\(OK f h s p).2.1.length<=s.2.1.length+1:=by
 unfold OK
 cases DK p _==DK p _<;>simp[S5]
section
variable {f:TFunc} {h:THammock} (H:Hm f h)
include H
theorem YB(hc:Xl f=true){i:Nat}(hi:i<f.Blocks.length){p:Bf}(hp:p∈(bA f i).Phis):p.From=HF f i/\p.From.Pairwise (·<·)/\p.From.length<=64/\p.Args.length=p.From.length/\∀ x∈p.From,As x f.Blocks.length:=by
 have hsh:=((Pq  (l:=2) (by omega) (by omega)).1 (by simpa [Xl] using hc)).2.1;unfold Fi at hsh;rw[A1]at hsh;have hb:=zzL28.1 hsh.2 i (by simpa using hi);unfold L6 at hb;rw[A1]at hb;have hp2:=zzL28.1 hb.2 p hp;simp only[Jt,A1,Dq]at hp2;have e:p.From=HF f i:=hp2.1;refine⟨e,?_,by rw[e];exact px H.R i,by grind,λx hx=>?_⟩
 ·rw[e];unfold HF;rw[EB (by rw[Pc];exact hi)];exact BB _ _
 ·rw[e]at hx;obtain⟨q,rfl,hq,_⟩:=(Yk H.R hi).1 hx;exact Ag hq
theorem Xy:h.Join.toNat<f.Blocks.length:=by have:=H.join.1;have:=H.join.2;omega
theorem Rh{i:Nat}(hi:i<f.Blocks.length):(bA f i).Phis.length<=512:=(H.R.ok.block _ (Ai   hi)).phis
theorem jU(s:List A2)(l x:Int):G6 x f h s l=some (Fk h x):=by
 unfold G6 Fk
 cases x==-1<;>rfl
theorem oO(b c v w:Int)(s:Pt)(hs:s.1.length<=1000000):I6 b c v w f h s.1 s.2=some (bif v==w then(v,f,h,s.1,s.2) else(w64 (s.2+1),f,h,(S5 s 13 b 0 [c,v,w]).1,(S5 s 13 b 0 [c,v,w]).2)):=by
 unfold I6
 cases v==w with
 | true=>rfl
 | false=>rw[ DL _ _ _ _ _ _ _ hs];rfl
theorem zU(hc:Xl f=true):Lo (bA f h.At.toNat).End.Arg f h (PF f h).1 (PF f h).2=some ((FF f h).1,f,h,(FF f h).2.1,(FF f h).2.2):=by
 have hroom:(1000001:Nat)<=room:=by decide
 have hJ:=Xy H;have hpl:=Rh H hJ;have hsl:=kE H;unfold Lo;rw[jU H,Aj,jU H,Aj,Aa H.join];have key:=T7 (bA f h.Join.toNat).Phis (default:Bf) (λi t=>(t.1,(i:Int),f.Params,f.Ret,f.Blocks,h.At,h.Then,h.Else,h.Join,t.2.1,t.2.2)) (λi t=>t.1.length=i/\t.2.1.length<=4000+i) (OK f h)
  (λt=>(t.1,f.Params,f.Ret,f.Blocks,h.At,h.Then,h.Else,h.Join,t.2.1,t.2.2)) (I8 _ f h (Fk h h.Then) (Fk h h.Else)) (λi t hi hP=>by
   obtain⟨g1,g2⟩:=j5 f h t ((bA f h.Join.toNat).Phis.getD i default);refine⟨?_,by omega,by omega⟩;obtain⟨p1,p2,p3,p4,p5⟩:=YB H hc hJ (Ai (d:=(default:Bf)) hi);unfold I8;have eb:f.Blocks.getD h.Join.toNat default=bA f _:=rfl;simp only[eb,B4 hi,Af,Aa (Ag hi),Ap,w1 (show i<4611686018427387904 by omega)]
   revert p1 p2 p3 p4 p5 g1
   generalize (bA f _).Phis.getD i default=p
   intro g1 p1 p2 p3 p4 p5;rw[zu p2 (by omega) p4 (by rw[p1];exact H.thenJ),Aj,zu p2 (by omega) p4 (by rw[p1];exact H.elseJ),Aj,oO H _ _ _ _ t.2 (by omega),Aj];unfold OK;have hI:=λv=>lQ  (h:=h) p2 (by omega) p4 p5 H.at_ (λhm=>H.atJ (p1▸hm)) v
   cases(DK p _==DK p _) with
   | true=>
    simp only[Af];rw[hI,Aj,Ac (by simp;omega)]
   | false=>
    simp only[Ar]
    rw[hI,Aj,Ac (by simp;omega)]) (λt _=>by
   unfold I8;have eb:f.Blocks.getD _ default=bA f h.Join.toNat:=rfl
   simp only[eb,Dh,Ar]) ([],PF f h) (by simp;omega)
 have k1:=key.1;rw[show([],(0:Int),f.Params,f.Ret,f.Blocks,h.At,h.Then,h.Else,h.Join,(PF f h).1,(PF f h).2)=([],((0:Nat):Int),f.Params,f.Ret,f.Blocks,h.At,h.Then,h.Else,h.Join,(PF f h).1,(PF f h).2) from rfl,k1]
 rfl
theorem IQ(hc:Xl f=true):(FF f h).1.length=(bA f h.Join.toNat).Phis.length/\(FF f h).2.1.length<=4000+(bA f h.Join.toNat).Phis.length:=by
 have key:∀(l:List _) (s:List _×Pt),(l.foldl (OK f h) s).1.length=s.1.length+l.length/\(l.foldl (OK f h) s).2.1.length<=s.2.1.length+l.length:=λl=>by
  induction l with
  | nil =>  simp
  | cons p l ih=>
   intro s;obtain⟨g1,g2⟩:=j5 f h s p;obtain⟨k1,k2⟩:=ih (OK f h s p);simp only[Ze,Rz];omega
 have hsl:=kE H;obtain⟨k1,k2⟩:=key (bA f h.Join.toNat).Phis ([],PF f h);unfold FF;simp only[List.length_nil]at k1 k2;omega
end
theorem jf(n d:Int):(if n<d then d else n)=grow n d:=by
 unfold grow
 by_cases h:n<d<;>simp[h]
theorem wy(f:TFunc)(h:Sm f):Tt f=some (M8 f):=by
 have hf:=h.1
 have h1:∀(i:Nat),i<f.Blocks.length->∀ n ,Ad (Pg f i) _=some ((f.Blocks.getD i _).Phis.foldl (λn p=>grow n p.Dst) n):=λi hi n=>by
  have hB:=hf.block _ (Ai (d:=default) hi);refine R6 _ default _ _ (λs j hj=>?_) (λs=>?_) n
  ·unfold Pg
   have hd:decide ((j:Int)<(f.Blocks.getD i default).Phis.length)=true:=by simpa using hj
   simp only[Co,hd,Af,Aa (Ag hj),LF hj hB.1,jf]
  ·unfold Pg
   simp
 have h2:∀(i:Nat),i<f.Blocks.length->∀ n ,Ad (Ph f i) _=some ((f.Blocks.getD i _).Ops.foldl (λn p=>grow n p.Dst) n):=λi hi n=>by
  have hB:=hf.block _ (Ai (d:=default) hi);refine R6 _ default _ _ (λs j hj=>?_) (λs=>?_) n
  ·unfold Ph
   have hd:decide (j<((f.Blocks.getD i default).Ops.length:Int))=true:=by simpa using hj
   simp only[Co,hd,Af,Aa (Ag hj),LF hj hB.2.1,jf]
  ·unfold Ph
   simp
 unfold Tt M8
 rw[R6 f.Blocks default (λn b=>b.Ops.foldl (λn o=>grow n o.Dst) (b.Phis.foldl (λn p=>grow n p.Dst) n)) _ (λs i hi=>by
  unfold S7
  have hd:decide (i<(f.Blocks.length:Int))=true:=by simpa using hi
  simp only[hd,Af,Aa (Ag hi),h1 i hi,h2 i hi,Aj,LF hi hf.blocks]) (λs=>by unfold S7;simp)]
 rfl
def Om(h:THammock)(x:Nat):Bool:=((x:Int)!=h.Then)&&((x:Int)!=h.Else)
def Wx(f:TFunc)(h:THammock)(x:Nat):Ab:=
 bif (x:Int)==h.At then⟨(bA f h.At.toNat).Phis,(FF f h).2.1,⟨1,0,[h.Join]⟩⟩ else bif (x:Int)==h.Join then⟨(FF f h).1,(bA f h.Join.toNat).Ops,(bA f h.Join.toNat).End⟩ else bA f x
def Wa(f:TFunc)(h:THammock):TFunc:=⟨f.Params,f.Ret,((List.range f.Blocks.length).filter (Om h)).map λx=>RC h (Wx f h x)⟩
theorem XE{α β:Type}(c:α->Bool)(F:α->β):∀(l:List α) (s:List β),l.foldl (λs b=>bif c b then s++[F b] else s) s=s++(l.filter c).map F
 | [],s=>by simp
 | b::l,s=>by
  rw[Ze,XE c F l];cases h:c b<;>simp[h]
section
variable {f:TFunc} {h:THammock} (H:Hm f h) (hc:Xl f=true)
include H hc
theorem SP{i:Nat}(hi:i<f.Blocks.length):(bA f i).End.To.length<=2/\∀ x∈(bA f i).End.To,0<=x/\x<1000000:=by
 have hsh:=((Pq  (l:=2) (by omega) (by omega)).1 (by simpa [Xl] using hc)).2.1;unfold Fi at hsh;rw[A1]at hsh;have h3:=(shape_iff.1 hsh.1).2 i hi
 constructor
 ·unfold M6 BK at h3;simp only[A1,Dq]at h3;have h4:((bA f i).End.To.length:Nat)=U4 (bA f i).End.Kind:=h3.1.2
  have h5:∀ k ,([0,1,2,0]:List Int).getD k 0<=2:=λk=>by
   match k with
   | 0=>decide
   | 1=>decide
   | 2=>decide
   | 3=>decide
   | k+4=>simp
  have h5:U4 (bA f i).End.Kind<=2:=h5 _;omega
 ·intro x hx;obtain⟨k,hk,rfl⟩:=N6 hx;have h4:=H.R.to i hi k hk;unfold Dr at h4;rw[An _ _ _ hk]at h4;have:=H.R.hi;omega
theorem gE{p:Bf}(v:Int):(dE f.Blocks.length h p v).From.length<=64/\∀ x∈(dE f.Blocks.length h p v).From,0<=x/\x<1000000:=by
 have hn:=H.R.hi
 show(BE _ h p).length<=64/\∀ x∈BE _ h p,_
 unfold BE
 constructor
 ·grind
 ·grind
theorem xd:∀ p∈(FF f h).1,p.From.length<=64/\∀ x∈p.From,0<=x/\x<1000000:=by
 have key:∀(l:List _) (s:List _×Pt),(∀ p∈s.1,p.From.length<=64/\∀ x∈p.From,0<=x/\x<1000000)->∀ p∈(l.foldl (OK f h) s).1,p.From.length<=64/\∀ x∈p.From,0<=x/\x<1000000:=λl=>by
  induction l with
  | nil=>intro s hs;exact hs
  | cons q l ih=>
   intro s hs;refine ih _ λp hp=>?_;unfold OK at hp
   cases hb:DK q _==DK q _ with
   | true=>
    rw[hb]at hp;rcases zzL13.1 hp with h1|h1
    ·exact hs p h1
    ·rw[zzL24.1 h1];exact gE H hc _
   | false=>
    rw[hb]at hp;rcases zzL13.1 hp with h1|h1
    ·exact hs p h1
    ·rw[zzL24.1 h1];exact gE H hc _
 exact key _ _ (λp hp=>by cases hp)
theorem fj{x:Nat}(hx:x<f.Blocks.length):vE (Wx f h x):=by
 have hJ:=Xy H
 have hA:h.At.toNat<f.Blocks.length:=by  have:=H.at_.2;omega
 have hn:=H.R.hi
 have ph:∀ i,i<f.Blocks.length->(bA f i).Phis.length<=100000/\∀ p∈(bA f i).Phis,p.From.length<=100000/\∀ x∈p.From,0<=x/\x<1000000:=λi hi=>⟨by have:=Rh H hi;omega,λp hp=>by
  obtain⟨_,_,p3,_,p5⟩:=YB H hc hi hp
  exact⟨by omega,λx hx=>by have:=p5 x hx;exact⟨this.1,by have:=this.2;omega⟩⟩⟩
 unfold Wx
 cases x==h.At with
 | true=>
  rw[Af]
  exact⟨(ph _ hA).1,(ph _ hA).2,by simp,λy hy=>by
   simp only[zzL24]at hy
   have:=H.join.1; omega⟩
 | false=>
  rw[Ar]
  cases x==h.Join with
  | true=>
   obtain⟨t1,t2⟩:=SP H hc hJ;exact⟨by have:=(IQ H hc).1;have:=Rh H hJ;show(FF f h).1.length<=_;omega,λp hp=>by obtain⟨g1,g2⟩:=xd H hc p hp;exact⟨by omega,g2⟩,by grind,t2⟩
  | false=>
   rw[Ar];obtain⟨t1,t2⟩:=SP H hc hx;exact⟨(ph _ hx).1,(ph _ hx).2,by omega,t2⟩
theorem um{x:Nat}:((f.Blocks.set h.Join.toNat ⟨(FF f h).1,(f.Blocks.getD h.Join.toNat default).Ops,⟨(f.Blocks.getD h.Join.toNat default).End.Kind,(f.Blocks.getD h.Join.toNat default).End.Arg,(f.Blocks.getD h.Join.toNat default).End.To⟩⟩).set h.At.toNat ⟨(f.Blocks.getD h.At.toNat default).Phis,(FF f h).2.1,⟨1,0,[h.Join]⟩⟩).getD x default=Wx f h x:=by
 have hJ:=Xy H
 have hA:h.At.toNat<f.Blocks.length:=by  have:=H.at_.2;omega
 rw[BF (by simpa using hA),BF hJ];unfold Wx;have a0:=H.at_.1;have j0:=H.join.1
 by_cases h1:x=h.At.toNat
 ·grind
 ·have e:(x==h.At)=false:=by simp;omega
  rw[if_neg h1,e]
  by_cases h2:x=h.Join.toNat
  ·have e:(x==h.Join)=true:=by simp;omega
   rw[if_pos h2,e];rfl
  ·grind
omit H hc in
theorem rgd{n i:Nat}(hi:i<n):(List.range n).getD i 0=i:=by simp[hi]
theorem oR:I7 ⟨f,h,[],M8 f⟩=some (Wa f h,⟨f,h,(FF f h).2.1,(FF f h).2.2⟩):=by
 have hroom:1000001<=room:=by decide
 have hn:=H.R.hi;have hA :=H.at_;have hal:=ZO H;unfold I7 Fa Cv;have eA:f.Blocks.getD h.At.toNat default=bA f _:=rfl;rw[Aa hA,eA,Ac (show[].length+(bA f _).Ops.length<=room by grind),Aj,V2];rw[  fp H hc,Aj];rw[zU H hc,Aj];rw[Ac (show f.Blocks.length<=room by omega),Aj,Aa H.join,Aa (by simpa using hA)];unfold S9;have key:=T7 (List.range f.Blocks.length) _ (λi t=>((i:Int),t)) (λi t=>t.length<=i) (λt x=>bif Om h x then t++[RC h _] else t) id
  (Gy ⟨f,h,[],M8 f⟩ ((FF f h).1,f,h,(FF f h).2.1,(FF f h).2.2) f.Blocks) (λi t hi hP=>by
   rw[Xh]at hi;rw[rgd hi];unfold Gy;simp only[D0,B4 hi, Aa (Ag hi),Ap,um H hc,tJ (fj H hc hi),Aj,w1 (show i<4611686018427387904 by omega),DJ];unfold Om
   cases((i !=h.Then)&&(i !=h.Else)) with
   | false=>grind
   | true=>
    rw[Ac (by simp;omega)]
    exact⟨rfl,by simp;omega⟩) (λt _=>by
   unfold Gy;simp only[D0,Xh,Dh]
   rfl) [] (by simp)
 have k1:=key.1;rw[XE]at k1;rw[show(0,[])=(((0:Nat):Int),[]) from rfl,k1]
 rfl
end
def gh(f:TFunc)(h:THammock):TFunc×Int:=
 bif DY f h then(bif decide (1023<(FF f h).2.2) || !Qb (Wa f h) then(⟨[],0,[]⟩,4) else(Wa f h,0)) else(⟨[],0,[]⟩,10)
def AR(o:A2):Prop:=o.Args.length<=1000000/\0<=o.Imm/\o.Imm<18446744073709551616
theorem DH{s:Pt}(hs:∀ o∈s.1,AR o){k b m:Int}{az:List Int}(hm:0<=m/\m<18446744073709551616)(ha:az.length<=1000000):∀ o∈(S5 s k b m az).1,AR o:=λo ho=>by
 rcases zzL13.1 ho with h1|h1
 ·exact hs o h1
 ·rw[zzL24.1 h1];exact⟨ha,hm⟩
theorem ud{s:Pt}(hs:∀ o∈s.1,AR o){o:A2}(ho:AR o)(g:Int):∀ x∈(IR g s o).1,AR x:=λx hx=>by
 have h0:(0:Int)<=0/\(0:Int)<18446744073709551616:=by omega
 have hd:(o.Args.drop 1).length<=999999:=by have:=ho.1;simp;omega
 rcases zzL13.1 hx with h1|h1
 ·rcases grd_cases o g s with⟨_,e⟩|⟨_,e⟩|⟨_,e⟩|⟨_,e⟩|⟨_,e⟩<;>rw[e]at h1
  ·exact DH hs h0 (by simp) x h1
  ·exact hs x h1
  ·exact DH hs h0 (by simp) x h1
  ·exact DH hs h0 (by simp) x h1
  ·exact hs x h1
 ·rw[zzL24.1 h1];rcases grd_cases o g s with⟨_,e⟩|⟨_,e⟩|⟨_,e⟩|⟨_,e⟩|⟨_,e⟩<;>rw[e]
  ·exact⟨by simp,ho.2⟩
  ·exact⟨by simp,ho.2⟩
  ·exact⟨by simp,ho.2⟩
  ·exact⟨by grind,ho.2⟩
  ·exact ho
theorem SL(g:Int):∀(ops:List A2) (s:Pt),(∀ o∈s.1,AR o)->(∀ o∈ops,AR o)->∀ x∈(Tj ops g s).1,AR x
 | [],s,hs,_=>hs
 | o::l,s,hs,ho=>SL g l _ (ud hs (ho o (zzL38 ..)) g) λx hx=>ho x (Lj _ hx)
section
variable {f:TFunc} {h:THammock} (H:Hm f h) (hc:Xl f=true) (hf:US f)
include H hc hf
theorem bH{i:Nat}(hi:i<f.Blocks.length):∀ o∈(bA f i).Ops,AR o:=λo ho=>by
 have hm:bA f i∈f.Blocks:=Ai hi;have h1:=hf.op _ hm o ho;have h2:=XX H.R.ok hm ho;exact⟨by omega,h1.2⟩
theorem jx{x:Int}(hx:x = -1\/As x f.Blocks.length):∀ o∈Mp f x,AR o:=λo ho=>by
 unfold Mp at ho;rcases hx with rfl|hx
 ·cases ho
 ·rw[show(x !=-1)=true by grind]at ho;exact bH H hc hf (by have:=hx.1;have:=hx.2;omega) o ho
theorem xZ:∀ o∈(FF f h).2.1,AR o:=by
 have hA:h.At.toNat<f.Blocks.length:=by have:=H.at_.1;have:=H.at_.2;omega
 have h1:∀ o∈(bO f h).1,AR o:=SL _ _ _ (bH H hc hf hA) (jx H hc hf H.sides.1)
 have h2:∀ o∈(WI f h).1,AR o:=by
  unfold WI
  cases VG _ with
  | false=>exact h1
  | true=>exact DH (DH h1 (by omega) (by simp)) (by omega) (by simp)
 have h3:∀ o∈(PF f h).1,AR o:=SL _ _ _ h2 (jx H hc hf H.sides.2)
 have key:∀(l:List _) (s:List _×Pt),(∀ o∈s.2.1,AR o)->∀ o∈(l.foldl (OK f h) s).2.1,AR o:=λl=>by
  induction l with
  | nil=>intro s hs;exact hs
  | cons q l ih=>
   intro s hs;refine ih _ ?_;unfold OK
   cases DK q _==DK q _ with
   | true=>exact hs
   | false=>exact DH hs (by omega) (by simp)
 exact key _ _ h3
theorem pu:∀ p∈(FF f h).1,p.Args.length<=64:=by
 have key:∀(l:List _) (s:List _×Pt),(∀ p∈s.1,p.Args.length<=64)->∀ p∈(l.foldl (OK f h) s).1,p.Args.length<=64:=λl=>by
  have hl:∀ q v,(dE _ h q v).Args.length<=64:=λq v=>by
   have:=(gE H hc (p:=q) v).1
   show((BE _ h q).map _).length<=64
   rw[L1];exact this
  induction l with
  | nil=>intro s hs;exact hs
  | cons q l ih=>
   intro s hs;refine ih _ λp hp=>?_;unfold OK at hp;cases hb:DK q _==DK q _<;>rw[hb]at hp<;>simp only[Af,Ar]at hp
   all_goals
    grind
 exact key _ _ (λp hp=>by cases hp)
theorem pU:US (Wa f h):=by
 have hmx:(1000001:Nat)<=maxLen:=by decide
 have hn:=H.R.hi;have hJ:=Xy H
 have hA:h.At.toNat<f.Blocks.length:=by have:=H.at_.1;have:=H.at_.2;omega
 have hb:∀ b∈(Wa f h).Blocks,∃ x,x<f.Blocks.length/\b=RC h (Wx f h x):=λb hb=>by
  obtain⟨x,hx,rfl⟩:=zzL21.1 hb;exact⟨x,by grind,rfl⟩
 refine⟨hf.params,?_,λb hb'=>?_,λb hb' p hp=>?_,λb hb' o ho=>?_⟩
 ·show(List.map _ _).length<=_
  rw[L1];have:=List.length_filter_le (Om h) (List.range f.Blocks.length);rw[Xh]at this;omega
 ·obtain⟨x,hx,rfl⟩:=hb b hb';obtain⟨b1,_,b3,_⟩:=fj H hc hx;refine⟨?_,?_,?_⟩
  ·show((Wx f h x).Phis.map _).length<=_
   rw[L1];omega
  ·unfold Wx
   cases(x:Int)==h.At with
   | true=>
    have:=(IQ H hc).2;have:=Rh H hJ
    show(FF f h).2.1.length<=_
    omega
   | false=>
    rw[Ar]
    cases(x:Int)==h.Join with
    | true =>  exact(hf.block _ (Ai hJ)).2.1
    | false=>exact(hf.block _ (Ai hx)).2.1
  ·show((Wx f h x).End.To.map _).length<=_
   rw[L1];omega
 ·obtain⟨x,hx,rfl⟩:=hb b hb';obtain⟨q,hq,rfl⟩:=zzL21.1 (hp);obtain⟨_,b2,_,_⟩:=fj H hc hx;have h1:=(b2 q hq).1;refine⟨by show(q.From.map _).length<=_;rw[L1];omega,?_⟩
  show q.Args.length<=_
  have ph:∀ i,i<f.Blocks.length->∀ q∈(bA f i).Phis,q.Args.length<=maxLen:=λi hi q hq=>(hf.phi _ (Ai hi) q hq).2
  revert hq
  unfold Wx
  cases(x:Int)==h.At with
  | true=>exact λhq=>ph _ hA q hq
  | false=>
   rw[Ar]
   cases(x:Int)==h.Join with
   | true=>exact λhq=>by have:=pu H hc hf q hq;omega
   | false=>exact λhq=>ph _ hx q hq
 ·obtain⟨x,hx,rfl⟩:=hb b hb';have ho':o∈(Wx f h x).Ops:=ho;have fin:AR o->o.Args.length<=maxLen/\0<=o.Imm/\o.Imm<18446744073709551616:=λh1=>⟨by have:=h1.1;omega,h1.2⟩;refine fin ?_
  revert ho'
  unfold Wx
  cases(x:Int)==h.At with
  | true=>exact λho'=>xZ H hc hf o ho'
  | false=>
   rw[Ar]
   cases(x:Int)==h.Join with
   | true=>exact λho'=>bH H hc hf hJ o ho'
   | false=>exact λho'=>bH H hc hf hx o ho'
end
theorem tz{f:TFunc}(hs:Sm f)(h:THammock):H0 f h=some (gh f h):=by
 unfold H0 gh;rw[pG hs,Aj]
 cases hm:DY f h with
 | false=>rfl
 | true=>
  have hi :=by unfold DY at hm;rw[A1]at hm;exact hm.1
  have hc :=by unfold O7 at hi;rw[A1]at hi;exact hi.1
  have H:=vV hs hi;rw[Dt, wy f hs,Aj,oR H hc,Aj, Aao _ (pU H hc hs.1)]
  cases decide (1023<(FF f h).2.2) with
  | true=>rfl
  | false=>
   grind
theorem ZW{α:Type}(v:α->Int)(B:Int):∀(l:List α) (n:Int),n<=B->(∀ a∈l,v a<=B)->l.foldl (λn a=>grow n (v a)) n<=B
 | [],n,h,_=>h
 | a::l,n,h,hl=>ZW v B l _ (by
   have:=hl a (zzL38 ..)
   show(bif decide _ then v a else n)<=B
   by_cases hd:n<v a
   ·grind
   ·grind) λx hx=>hl x (Lj _ hx)
theorem tv{f:TFunc}{B:Int}(h0:(f.Params.length:Int)<=B)(hb:∀ b∈f.Blocks,(∀ p∈b.Phis,p.Dst<=B)/\∀ o∈b.Ops,o.Dst<=B):M8 f<=B:=by
 have key:∀(l:List Ab) (n:Int),n<=B->(∀ b∈l,(∀ p∈b.Phis,p.Dst<=B)/\∀ o∈b.Ops,o.Dst<=B)->l.foldl _ n<=B:=λl=>by
  induction l with
  | nil=>intro n h _;exact h
  | cons b l ih=>
   intro n h hl;obtain⟨h1,h2⟩:=hl b (zzL38 ..);exact ih _ (ZW _ _ _ _ (ZW _ _ _ _ h h1) h2) λx hx=>hl x (Lj _ hx)
 exact key _ _ h0 hb
theorem dG{f:TFunc}(hf:OkF f):0<=M8 f/\M8 f<=2147483647:=by
 constructor
 ·have:=(BL f.Blocks f.Params.length).1;unfold M8;omega
 ·refine tv (by have:=hf.few;omega) λb hb=>?_;obtain⟨h1,h2,_⟩:=blockB_iff.1 (hf.block b hb).may
  constructor
  ·intro p hp;have:=h1 p hp;simp only[AG,numB,A1,Dq]at this;omega
  ·intro o ho;have:=h2 o ho;simp only[bG,numB,A1,Dq]at this;omega
theorem Wv{s:Pt}(h:0<=s.2/\s.2<=4000000000)(k b m:Int)(az:List Int):(S5 s k b m az).2=s.2+1:=Em (by omega) (by omega)
theorem YD{s:Pt}(h:0<=s.2/\s.2<=4000000000)(g:Int)(o:A2):s.2<=(IR g s o).2/\(IR g s o).2<=s.2+1:=by
 unfold IR;rcases grd_cases o g s with⟨_,e⟩|⟨_,e⟩|⟨_,e⟩|⟨_,e⟩|⟨_,e⟩<;>rw[e]<;>simp only[Wv h]<;>omega
theorem GR(g:Int):∀(ops:List A2) {s:Pt},0<=s.2/\s.2+ops.length<=4000000000->s.2<=(Tj ops g s).2/\(Tj ops g s).2<=s.2+ops.length
 | [],s,h=>by simp[Tj]
 | o::l,s,h=>by
  simp only[Rz]at h ⊢;have h1:=YD (s:=s) (by omega) g o;have h2:=GR g l (s:=IR g s o) (by omega)
  show _<=(Tj l g _).2/\(Tj l g _).2<=_
  omega
section
variable {f:TFunc} {h:THammock} (H:Hm f h)
include H
theorem SJ:M8 f<=(bO f h).2/\0<=(bO f h).2/\(bO f h).2<=2147485000:=by
 have h1:=Iw H.R H.sides.1;have h2:=dG H.R.ok;have:=GR (bA f h.At.toNat).End.Arg (Mp f h.Then) (s:=((bA f h.At.toNat).Ops,M8 f)) (by  omega);unfold bO;omega
theorem eI:(bO f h).2<=(WI f h).2/\(WI f h).2<=(bO f h).2+2:=by
 obtain⟨_,h1,h2⟩:=SJ H;unfold WI
 cases VG _ with
 | false=>rw[Ar];omega
 | true=>
  have e:=Wv (s:=bO f h) (by omega) 0 1 1 [];rw[Af,Wv (by omega)];omega
theorem qM:M8 f<=(PF f h).2/\(PF f h).2<=2147490000:=by
 obtain⟨h0,h1,h2⟩:=SJ H;obtain⟨h3,h4⟩:=eI H;have h5:=Iw H.R H.sides.2;have:=GR (lx f h) (Mp f h.Else) (s:=WI f h) (by omega);unfold PF;omega
theorem LB:(h.Then = -1\/0<=h.Then)/\(h.Else = -1\/0<=h.Else):=⟨H.sides.1.imp id (·.1),H.sides.2.imp id (·.1)⟩
end
structure Nar(f:TFunc):Prop where
 inf:US f
 blocks:f.Blocks.length<=16
 params:f.Params.length<=64
 to:∀ b∈f.Blocks,b.End.To.length<=2
 phi:∀ b∈f.Blocks,∀ p∈b.Phis,p.From.length<=16/\p.Args.length<=16
 op:∀ b∈f.Blocks,∀ o∈b.Ops,o.Args.length<=16
 size:Rx f<=512
theorem xS{f:TFunc}(h:Nar f):Sm f:=by
 refine Aam h.inf h.params (λb hb=>⟨by have:=h.to b hb;omega,λp hp=>by have:=h.phi b hb p hp;omega,λo ho=>by have:=h.op b hb o ho;omega⟩) ?_
 have hB:∀ b∈f.Blocks,VK b<=33*Uy b:=λb hb=>by
  have h1:(b.Phis.map cq).sum<=b.Phis.length*33:=bP _ _ _ λp hp=>by have:=h.phi b hb p hp;unfold cq;omega
  have h2:(b.Ops.map cp).sum<=b.Ops.length*33:=bP _ _ _ λo ho=>by have:=h.op b hb o ho;unfold cp;omega
  have h3:=h.to b hb;unfold VK Uy;omega
 have hS:∀ l:List _,(∀ b∈l,VK b<=33*Uy b)->(l.map VK).sum<=33*(l.map Uy).sum:=λl=>by
  induction l with
  | nil =>  simp
  | cons b l ih=>
   grind
 have h1:=hS _ hB;have h2:=h.size;have h3:=h.params;unfold Rx at h2;unfold f6;omega
theorem pV{k n:Int}(hn:n<=16):Rd k n<=16:=by
 unfold Rd
 cases k==0<;>cases(k==13 || k==18 || k==19)<;>cases(k==14 || k==15 || k==16 || k==22)<;>cases k==20<;>cases k==21<;>simp only[Af,Ar]<;>omega
theorem pP{o:A2}(h:Jr o=true):o.Args.length<=16:=by
 simp only[Jr,A1,zzL46]at h;have h2:=pV (k:=o.Kind) (n:=o.Lanes) (by rcases shape_lanes h.1.1 with e|e|e|e|e<;>omega);omega
theorem xR{f:TFunc}(hs:Sm f)(h16:Qb f=true->f.Blocks.length<=16)(hc:Xl f=true):Nar f:=by
 have hz:=(Pq (f:=f) (l:=2) (by omega) (by omega)).1 (by simpa [Xl] using hc);have R:=CH hs (by simpa [Xl] using hc);have hn:=h16 hz.1;obtain⟨sm,hsm,hp⟩:=NC f hs.1;rw[hs.2]at hsm;obtain⟨_,hsz,_⟩:=hp (OI hsm).symm hz.1
 have hi:∀ b∈f.Blocks,∃ i,i<f.Blocks.length/\bA f i=b:=λb hb=>by
  obtain⟨i,hi,he⟩:=N6 hb;exact⟨i,hi,by grind⟩
 have hsh:=hz.2.1;unfold Fi at hsh;rw[A1]at hsh;refine⟨hs.1,hn,by have:=R.ok.few;omega,λb hb=>?_,λb hb p hp=>?_,λb hb o ho=>pP (eS hz.2.2.1 hb ho),hsz⟩
 ·obtain⟨i,hi',rfl⟩:=hi b hb;have h3:=(shape_iff.1 hsh.1).2 i hi';unfold M6 BK at h3;simp only[A1,Dq]at h3;have h4:(((bA f i).End.To.length:Nat):Int)=U4 (bA f i).End.Kind:=h3.1.2
  have h5:∀ k:Nat,([0,1,2,0]:List Int).getD k 0<=2:=λk=>by
   grind
  have h5:U4 (bA f i).End.Kind<=2:=h5 _;omega
 ·obtain⟨i,hi',rfl⟩:=hi b hb;have hb2:=zzL28.1 hsh.2 i (by simpa using hi');unfold L6 at hb2;rw[A1]at hb2;have hp2:=zzL28.1 hb2.2 p hp;simp only[Jt,A1,Dq,zzL46]at hp2;have e :=hp2.1
  have hl:(HF f i).length<=f.Blocks.length:=by
   unfold HF;rw[EB (by rw[Pc];exact hi')];unfold Kf;rw[L1];have:=List.length_filter_le (λk=>Y3 (Bu f) k i) (List.range (Bu f).length);rw[Xh]at this;rw[Pc]at this ⊢;exact this
  have h2:(p.Args.length:Int)=((HF f i).length:Int):=hp2.2;rw[e];omega
section
variable {f:TFunc} {h:THammock} (H:Hm f h) (hc:Xl f=true) (hN:Nar f)
include H hc hN
theorem LA(g:Int):∀(ops:List A2) (s:Pt),(∀ o∈s.1,o.Args.length<=16)->(∀ o∈ops,o.Args.length<=16)->∀ x∈(Tj ops g s).1,x.Args.length<=16
 | [],s,hs,_=>hs
 | o::l,s,hs,ho=>LA g l _ (λx hx=>by
   have h0:=ho o (zzL38 ..)
   have ha:∀ k b m az,az.length<=16->∀ y∈(S5 s k b m az).1,y.Args.length<=16:=λk b m az hz y hy=>by
    rcases zzL13.1 hy with h1|h1
    ·exact hs y h1
    ·grind
   rcases zzL13.1 hx with h1|h1
   ·rcases grd_cases o g s with⟨_,e⟩|⟨_,e⟩|⟨_,e⟩|⟨_,e⟩|⟨_,e⟩<;>rw[e]at h1
    ·grind
    ·exact hs x h1
    ·grind
    ·grind
    ·exact hs x h1
   ·rw[zzL24.1 h1];rcases grd_cases o g s with⟨_,e⟩|⟨_,e⟩|⟨_,e⟩|⟨_,e⟩|⟨_,e⟩<;>rw[e]
    ·simp
    ·simp
    ·simp
    ·grind
    ·exact h0) λx hx=>ho x (Lj _ hx)
theorem pr:∀ o∈(FF f h).2.1,o.Args.length<=16:=by
 have hA:h.At.toNat<f.Blocks.length:=by have:=H.at_.1;have:=H.at_.2;omega
 have hb:∀ i,i<f.Blocks.length->∀ o∈(bA f i).Ops,o.Args.length<=16:=λi hi o ho=>hN.op _ (Ai hi) o ho
 have hX:∀ x:Int,(x = -1\/As x f.Blocks.length)->∀ o∈Mp f x,o.Args.length<=16:=λx hx o ho=>by
  unfold Mp at ho;rcases hx with rfl|hx
  ·cases ho
  ·rw[show(x !=-1)=true by grind]at ho;exact hb _ (by  have:=hx.2;omega) o ho
 have ha:∀(s:Pt),(∀ o∈s.1,o.Args.length<=16)->∀ k b m az,az.length<=16->∀ y∈(S5 s k b m az).1,y.Args.length<=16:=λs hs k b m az hz y hy=>by
  rcases zzL13.1 hy with h1|h1
  ·exact hs y h1
  ·grind
 have h1:∀ o∈(bO f h).1,o.Args.length<=16:=LA H hc hN _ _ _ (hb _ hA) (hX _ H.sides.1)
 have h2:∀ o∈(WI f h).1,o.Args.length<=16:=by
  unfold WI
  cases VG (Mp f h.Else) with
  | false=>exact h1
  | true=>grind
 have h3:∀ o∈(PF f h).1,o.Args.length<=16:=LA H hc hN _ _ _ h2 (hX _ H.sides.2)
 have key:∀(l:List Bf) (s:List Bf×Pt),(∀ o∈s.2.1,o.Args.length<=16)->∀ o∈(l.foldl (OK f h) s).2.1,o.Args.length<=16:=λl=>by
  induction l with
  | nil=>intro s hs;exact hs
  | cons q l ih=>
   intro s hs;refine ih _ ?_;unfold OK
   cases DK q (Fk h h.Then)==DK q (Fk h h.Else) with
   | true=>exact hs
   | false=>grind
 exact key _ _ h3
theorem xE{p:Bf}(v:Int):(dE f.Blocks.length h p v).From.length<=16/\(dE f.Blocks.length h p v).Args.length<=16:=by
 have hn:=hN.blocks
 have:(BE f.Blocks.length h p).length<=16:=by
  unfold BE;rw[L1];have:=List.length_filter_le (jj h p) (List.range f.Blocks.length);rw[Xh]at this;omega
 exact⟨this,by show(List.map _ _).length<=16;rw[L1];exact this⟩
theorem xc:∀ p∈(FF f h).1,p.From.length<=16/\p.Args.length<=16:=by
 have key:∀(l:List _) (s:List _×Pt),(∀ p∈s.1,p.From.length<=16/\p.Args.length<=16)->∀ p∈(l.foldl (OK f h) s).1,p.From.length<=16/\p.Args.length<=16:=λl=>by
  induction l with
  | nil=>intro s hs;exact hs
  | cons q l ih=>
   intro s hs;refine ih _ λp hp=>?_;unfold OK at hp;cases hb:DK q _==DK q _<;>rw[hb]at hp<;>simp only[Af,Ar]at hp
   all_goals
    rcases zzL13.1 hp with h1|h1
    ·exact hs p h1
    ·rw[zzL24.1 h1];exact xE H hc hN _
 exact key _ _ (λp hp=>by cases hp)
theorem uL{b:Ab}(hb:b∈(Wa f h).Blocks):∃ x,x<f.Blocks.length/\Om h x=true/\b=RC h (Wx f h x):=by
 obtain⟨x,hx,rfl⟩:=zzL21.1 hb;exact⟨x,by grind,(zzL95.1 hx).2,rfl⟩
theorem uK:(Wa f h).Blocks.length<f.Blocks.length:=by
 show(List.map _ _).length<_
 rw[L1]
 obtain⟨x,hx,hk⟩:∃ x,x<f.Blocks.length/\Om h x=false:=by
  rcases H.one with e|e
  ·have q:=H.sides.1.resolve_left e;refine⟨h.Then.toNat,by have:=q.1;have:=q.2;omega,?_⟩;unfold Om;rw[K9 q.1];simp
  ·have q:=H.sides.2.resolve_left e;refine⟨h.Else.toNat,by have:=q.1;have:=q.2;omega,?_⟩;unfold Om;rw[K9 q.1];simp
 have h1:(List.filter (Om h) _).length≠(List.range _).length:=λe=>by
  have:=List.length_filter_eq_length_iff.1 e x (by simpa using hx);rw[hk]at this;cases this
 have h2:=List.length_filter_le (Om h) (List.range f.Blocks.length);rw[Xh]at h1 h2;omega
theorem uM(hm:Qb (Wa f h)=true):Nar (Wa f h):=by
 have hJ:=Xy H
 have hA:h.At.toNat<f.Blocks.length:=by have:=H.at_.1;have:=H.at_.2;omega
 have hin:=pU H hc hN.inf;have hlen:=uK H hc hN;have hbl:=hN.blocks
 have hblk:∀ b∈(Wa f h).Blocks,b.End.To.length<=2/\(∀ p∈b.Phis,p.From.length<=16/\p.Args.length<=16)/\(∀ o∈b.Ops,o.Args.length<=16)/\b.Phis.length<=512/\b.Ops.length<=5000:=λb hb=>by
  obtain⟨x,hx,_,rfl⟩:=uL H hc hN hb
  have ph:∀ i,i<f.Blocks.length->∀ p∈((bA f i).Phis.map (lu h)),p.From.length<=16/\p.Args.length<=16:=λi hi p hp=>by
   obtain⟨q,hq,rfl⟩:=zzL21.1 hp;have:=hN.phi _ (Ai hi) q hq;exact⟨by show(q.From.map _).length<=16;rw[L1];exact this.1,this.2⟩
  have pl:∀ i,i<f.Blocks.length->((bA f i).Phis.map (lu h)).length<=512:=λi hi=>by rw[L1];exact Rh H hi
  have ol:∀ i,i<f.Blocks.length->(bA f i).Ops.length<=5000:=λi hi=>by have:=(H.R.ok.block _ (Ai (l:=f.Blocks) (d:=default) hi)).ops;exact P8 this (by omega)
  have tl:∀ i,i<f.Blocks.length->((bA f i).End.To.map (Ru h)).length<=2:=λi hi=>by rw[L1];exact(SP H hc hi).1
  unfold RC Wx
  cases(x:Int)==h.At with
  | true=>
   refine⟨by simp,ph _ hA,pr H hc hN,pl _ hA,?_⟩;have:=(IQ H hc).2;have:=Rh H hJ
   show(FF f h).2.1.length<=_
   omega
  | false=>
   rw[Ar]
   cases(x:Int)==h.Join with
   | true=>
    refine⟨tl _ hJ,λp hp=>?_,λo ho=>hN.op _ (Ai hJ) o ho,?_,ol _ hJ⟩
    ·obtain⟨q,hq,rfl⟩:=zzL21.1 hp;have:=xc H hc hN q hq;exact⟨by show(q.From.map _).length<=16;rw[L1];exact this.1,this.2⟩
    ·show((FF f h).1.map (lu h)).length<=512
     rw[L1,(IQ H hc).1];exact Rh H hJ
   | false=>exact⟨tl _ hx,ph _ hx,λo ho=>hN.op _ (Ai hx) o ho,pl _ hx,ol _ hx⟩
 refine⟨hin,by omega,hN.params,λb hb=>(hblk b hb).1,λb hb=>(hblk b hb).2.1,λb hb=>(hblk b hb).2.2.1,?_⟩
 have hs:Rx (Wa f h)<=(Wa f h).Blocks.length*6000:=bP _ _ _ λb hb=>by
  obtain⟨_,_,_,h1,h2⟩:=hblk b hb;unfold Uy;omega
 unfold Qb at hm;simp only[A1,Dq]at hm;have h5:=hm.1.2;unfold sizeW at h5;rw[JD (by omega)]at h5;omega
end
def T0(v:Nat):List Int:=if h:v<128 then[(v:Int)] else((v % 128+128:Nat):Int)::T0 (v / 128)
theorem bJ{v:Nat}(h:v<128):T0 v=[(v:Int)]:=by rw[T0,dif_pos h]
theorem PD{v:Nat}(h:¬ v<128):T0 v=((v % 128+128:Nat):Int)::T0 (v / 128):=by rw[T0,dif_neg h]
theorem d5(v:Nat):1<=(T0 v).length:=by
 by_cases h:v<128
 ·simp[bJ h]
 ·simp[PD h]
theorem dz:∀(k v:Nat),v<128 ^ (k+1)->(T0 v).length<=k+1
 | k,v,hv=>by
  by_cases h:v<128
  ·simp[bJ h]
  ·cases k with
   | zero=>simp at hv;omega
   | succ k=>
    have:=dz k (v / 128) (by rw[TD (by decide)];rw[Nat.pow_succ]at hv;exact hv);simp[PD h];omega
theorem Pw{v:Nat}(h:v<2 ^ 64):(T0 v).length<=10:=dz 9 v (Nat.lt_trans h (by decide))
def Bytes(b:List Int):Prop:=∀ x∈b,0<=x/\x<256
def flat(l:List Int):List Int:=(l.map λx=>T0 x.toNat).flatten
theorem XC(x:Int)(l:List Int):flat (x::l)=T0 x.toNat++flat l:=rfl
def I64(l:List Int):Prop:=∀ x∈l,-9223372036854775808<=x/\x<9223372036854775808
theorem I64.len{l:List Int}(h:I64 l):(flat l).length<=10*l.length:=by
 induction l with
 | nil=>simp[flat]
 | cons x l ih=>
  have:=ih λy hy=>h y (Lj _ hy);have hx:=h x zzL38;have:=Pw (v:=x.toNat) (by rw[CO];omega);simp[XC];omega
theorem Bytes.app{a b:List Int}(h:Bytes a)(k:Bytes b):Bytes (a++b):=λx hx=>(zzL13.1 hx).elim (h x) (k x)
theorem qJ(l:List Int)(hl:l.length<=1000)(hv:I64 l)(p:Int->Option (List Int))(hp:∀ v:Nat,v<2 ^ 64->p v=some (T0 v))(f:List Int×Int->Option (LR (List Int×Int) (List Int ⊕ List Int)))
  (hf:∀(acc:List Int) (i:Nat),f (acc,i)=(bif (decide ((i:Int)<(l.length:Int))) then(Aw (As i l.length) (bif (decide (((l.getD ((i:Int)).toNat (0:Int)):Int)<(0:Int))) then(some (.done (.inr ([]:List Int)))) else(Aw (As i l.length) ((p (Fj (l.getD ((i:Int)).toNat (0:Int)))).bind λx7=>(Aw (acc.length+x7.length<=room) (some (.next ((acc++x7),(w64 ((i:Int)+(1:Int))))))))))) else(some (.done (.inl acc))))) :
  ∀(r pre acc:List Int),l=pre++r->acc.length<=10*(pre.length+1)->Ad f (acc,(pre.length:Int))=some (if ∃ x∈r,x<0 then .inr [] else .inl (acc++flat r)):=by
 intro r
 induction r with
 | nil=>
  intro pre acc hlr ha
  have hlen:l.length=pre.length:=by rw[hlr];simp
  have h1:decide ((pre.length:Int)<(l.length:Int))=false:=by simp;omega
  rw[Ak (x:=Sum.inl acc) (by rw[hf,h1];rfl)];simp[flat]
 | cons x r ih=>
  intro pre acc hlr ha
  have hlen:l.length=pre.length+(r.length+1):=by rw[hlr];simp
  have hx:l.getD pre.length 0=x:=by rw[hlr,List.getD,U7 (by omega)];simp
  have hxb:=hv x (by rw[hlr];simp)
  have h1:decide ((pre.length:Int)<(l.length:Int))=true:=by simp;omega
  have e:=hf acc pre.length;rw[h1,Af,Aa (p:=As _ _) ⟨by omega,by omega⟩,Co,hx]at e
  by_cases hneg:x<0
  ·rw[F6 hneg,Af]at e;rw[Ak e,if_pos ⟨x,zzL38,hneg⟩]
  ·have hput:=Pw (v:=x.toNat) (by rw[CO];omega)
   rw[Dl hneg,Ar,Aa (p:=As _ _) ⟨by omega,by omega⟩,So (by omega) (by omega),show p x=some (T0 x.toNat) by rw[<- hp x.toNat (by rw[CO];omega)];congr 1;omega,
    Aj,Aa (by simp only[room];omega),Em (by omega) (by omega)]at e
   have:=ih (pre++[x]) (acc++T0 x.toNat) (by simp[hlr]) (by simp;omega);rw[Aq e,show((pre.length:Int)+1)=((pre++[x]).length:Int) by simp,this]
   have hiff:(∃ y∈x::r,y<0)↔∃ y∈r,y<0:=by
    simp only[zzL27]
    constructor
    ·rintro⟨y,rfl|hy,h⟩
     ·omega
     ·exact⟨y,hy,h⟩
    ·rintro⟨y,hy,h⟩;exact⟨y,.inr hy,h⟩
   simp only[hiff,XC,U8]
def xf(l:List Int):List Int:=open Classical in if ∃ x∈l,x<0 then[] else T0 l.length++flat l
theorem good31.i64{l:List Int}(h:good31 l):I64 l:=λx hx=>by have:=h x hx;omega
def WH(l:List Int):List Int:=T0 l.length++flat l
theorem Bytes.drop{b:List Int}(h:Bytes b)(k:Nat):Bytes (b.drop k):=λx hx=>h x (List.mem_of_mem_drop hx)
structure wY(S:Type) where
 left:S->List Int
 bad:S->Int
 good:S->Prop
structure Reads{S α:Type}(V:wY S)(m:S->Option (α×S))(E:α->List Int)(P:α->Prop):Prop where
 sticky:∀ s,V.good s->V.bad s≠0->∃ a s',m s=some (a,s')/\V.bad s'=V.bad s/\V.good s'
 any:∀ s,V.good s->V.bad s=0->∃ a s',m s=some (a,s')/\V.good s'/\(V.bad s'=0->P a/\V.left s=E a++V.left s')
 whole:∀ s a more,V.good s->V.bad s=0->P a->V.left s=E a++more->∃ s',m s=some (a,s')/\V.bad s'=0/\V.left s'=more/\V.good s'
 cut:∀ s a c,V.good s->V.bad s=0->P a->c<(E a).length->V.left s=(E a).take c->∃ a' s',m s=some (a',s')/\V.bad s'=2/\V.good s'
theorem Reads.map{S α β:Type}{V:wY S}{m:S->Option (α×S)}{E:α->List Int}{P:α->Prop}{F:β->List Int}{Q:β->Prop}(h:Reads V m E P)(f:α->β)(g:β->α)
  (hfg:∀ b,Q b->f (g b)=b) (hP:∀ b,Q b->P (g b)) (hQ:∀ a,P a->Q (f a)) (hE:∀ a,P a->F (f a)=E a) :
  Reads V (λs=>(m s).bind λx=>some (f x.1,x.2)) F Q where
 sticky s hs hb:=by
  obtain⟨a,s',e,hb',hg⟩:=h.sticky s hs hb;exact⟨f a,s',by simp only[e,Aj],hb',hg⟩
 any s hs hb:=by
  obtain⟨a,s',e,hg,hd⟩:=h.any s hs hb;exact⟨f a,s',by simp only[e,Aj],hg,λht=>⟨hQ a (hd ht).1,by rw[hE a (hd ht).1];exact(hd ht).2⟩⟩
 whole s b more hs hb hp hl:=by
  have hFg:F b=E (g b):=by rw[<- hE (g b) (hP b hp),hfg b hp]
  obtain⟨s',e,hb',hl',hg⟩:=h.whole s (g b) more hs hb (hP b hp) (by rw[hl,hFg]);exact⟨s',by simp only[e,Aj,hfg b hp],hb',hl',hg⟩
 cut s b c hs hb hp hc hl:=by
  have hFg:F b=E (g b):=by rw[<- hE (g b) (hP b hp),hfg b hp]
  obtain⟨a',s',e,hb',hg⟩:=h.cut s (g b) c hs hb (hP b hp) (by rw[<- hFg];exact hc) (by rw[hl,hFg]);exact⟨f a',s',by simp only[e,Aj],hb',hg⟩
def Um(n:Int):List Int:=T0 n.toNat
def du(p:Bf):List Int:=Um p.Bits++(Um p.Dst++(WH p.From++WH p.Args))
def xY(o:A2):List Int:=Um o.Kind++(Um o.Bits++(Um o.Lanes++(Um o.Dst++(WH o.Args++Um o.Imm))))
def oc(e:Jm):List Int:=Um e.Kind++(Um e.Arg++WH e.To)
def ID{α:Type}(E:α->List Int)(l:List α):List Int:=Um l.length++(l.map E).flatten
def GA(b:Ab):List Int:=ID du b.Phis++(ID xY b.Ops++oc b.End)
def MJ(f:TFunc):List Int:=WH f.Params++(Um f.Ret++ID GA f.Blocks)
section
variable {S:Type} {V:wY S} {num wide:S->Option (Int×S)} {list list':S->Option (List Int×S)}
end
theorem Mm{n:Int}(h:eW n):(Um n).length<=10:=Pw (by rw[CO];have:=h.2;have:=h.1;omega)
theorem CF{l:List Int}(h:listB l=true):(WH l).length<=650:=by
 obtain⟨h1,h2⟩:=listB_iff.1 h;have q1:(T0 l.length).length<=10:=Pw (by rw[CO];omega)
 have q2:(flat l).length<=l.length*10:=QG l (λx=>T0 x.toNat) 10 λx hx=>by
  have:=h1 x hx;exact Pw (by rw[CO];omega)
 rw[WH,Du];omega
theorem pt{p:Bf}(h:AG p=true):(du p).length<=1320:=by
 simp only[AG,A1]at h;have q1:=Mm (E0 h.1.1.1);have q2:=Mm (E0 h.1.1.2);have q3:=CF h.1.2;have q4:=CF h.2;simp only[du,Du];omega
theorem uV{o:A2}(h:bG o=true)(hi:eW o.Imm):(xY o).length<=700:=by
 simp only[bG,A1]at h;have q1:=Mm (E0 h.1.1.1.1);have q2:=Mm (E0 h.1.1.1.2);have q3:=Mm (E0 h.1.1.2);have q4:=Mm (E0 h.1.2);have q5:=CF h.2;have q6:=Mm hi;simp only[xY,Du];omega
theorem od{e:Jm}(h:VJ e=true):(oc e).length<=670:=by
 simp only[VJ,A1]at h;have q1:=Mm (E0 h.1.1);have q2:=Mm (E0 h.1.2);have q3:=CF h.2;simp only[oc,Du];omega
theorem KK{α:Type}{E:α->List Int}{l:List α}(n B:Nat)(hl:l.length<=n)(hn:n<=1000)(h:∀ a∈l,(E a).length<=B):(ID E l).length<=10+n*B:=by
 have q1:(Um (l.length:Int)).length<=10:=Mm ⟨by omega,by omega⟩;have q2:=QG l E B h;have q3:l.length*B<=n*B:=Hg _ hl;simp only[ID,Du];omega
theorem fk{b:Ab}(h:OkB b):(GA b).length<=1040000:=by
 obtain⟨h1,h2,h3⟩:=blockB_iff.1 h.may;have q1:=KK (E:=du) 512 1320 h.phis (by omega) λp hp=>pt (h1 p hp);have q2:=KK (E:=xY) 512 700 h.ops (by omega) λo ho=>uV (h2 o ho) (h.imm o ho);have q3:=od h3;simp only[GA,Du];omega
theorem la{f:TFunc}(h:OkF f):(MJ f).length<=66600000:=by
 have q1:=CF h.params;have q2:=Mm (E0 h.ret);have q3:=KK (E:=GA) 64 1040000 h.blocks (by omega) λb hb=>fk (h.block b hb);simp only[MJ,Du];omega
theorem Aaj{v:Nat}(hv:v<2 ^ 64){rec:Int->Option (List Int)}(hr:¬ v<128->rec ((v / 128:Nat):Int)=some (T0 (v / 128))):Hy rec v=some (T0 v):=by
 unfold Hy
 by_cases h:v<128
 ·have h1:decide ((v:Int)<128)=true:=by simp;omega
  have h3:u1 (v:Int)=(v:Int):=qa (by omega) (by omega);simp only[h1,Af,h3,bJ h]
 ·have h1:decide ((v:Int)<128)=false:=by simp;omega
  have h2:Fj (Int.tdiv v 128)=((v / 128:Nat):Int):=by
   rw[Int.tdiv_eq_ediv_of_nonneg (by omega),show((v:Int) / 128)=((v / 128:Nat):Int) by omega];exact So (by omega) (by rw[CO]at hv;omega)
  have h3:u1 (Fj ((Int.tmod v 128)+128))=((v % 128+128:Nat):Int):=by
   rw[Int.tmod_eq_emod_of_nonneg (by omega),show((v:Int) % 128+128)=((v % 128+128:Nat):Int) by omega,So (by omega) (by omega),qa (by omega) (by omega)]
  have:=Pw hv;rw[PD h]at this;simp only[Rz]at this;simp only[h1,Ar,h2,h3,hr h,Aj];rw[Aa (by simp[room];omega),Aa (.inr (d5 _)),PD h]
  rfl
theorem eH:∀(n v:Nat),v<2 ^ 64->v<n->Hz n v=some (T0 v)
 | 0,v,_,h=>by omega
 | n+1,v,hv,h=>Aaj hv λh'=>eH n (v / 128) (by omega) (by omega)
theorem PE{v:Nat}(hv:v<2 ^ 64):Et v=some (T0 v):=tj (v+1) λm hm=>eH m v hv (by omega)
theorem ul(l:List Int)(hl:l.length<=1000)(hv:I64 l):C0 l=some (xf l):=by
 have hput:=Pw (v:=l.length) (by rw[CO];omega);unfold C0;rw[So (by omega) (by omega),PE (by rw[CO];omega),Aj];have:=qJ l hl hv Et (λv h=>PE h) (Ra l) (λacc i=>rfl) l [] (T0 l.length) rfl (by simpa using hput);rw[show(([]:List Int).length:Int)=0 from rfl]at this;rw[this];unfold xf
 split<;>rfl
theorem Mq(b:List Int)(n:Int)(hn:eW n)(hb:b.length<=2000000000):Bb b n=some (b++Um n):=by
 have hl:=Mm hn;unfold Bb
 have e:(n:Int)=(n.toNat:Int):=by have:=hn.1;omega
 rw[So hn.1 (by have:=hn.2;omega),e,PE (by rw[CO];have:=hn.2;omega),Aj];rw[<- e];exact Aa (by show b.length+(Um n).length<=room;simp only[room];omega)
theorem CG(l:List Int)(h:listB l=true):C0 l=some (WH l):=by
 obtain⟨h1,h2⟩:=listB_iff.1 h;rw[ul l (by omega) h1.i64];unfold xf;rw[if_neg (by rintro⟨x,hx,h⟩;have:=h1 x hx;omega)]
 rfl
theorem gz(f:TFunc)(hf:US f)(hs:Qb f=true->OkF f):Ja f=some (bif Qb f then MJ f else[]):=by
 unfold Ja;rw[kA f hf,Aj]
 cases hm:Qb f with
 | false=>rfl
 | true=>
  have ok:=hs hm;have hlenF:=la ok
  have h3:=Vp f.Blocks (default:Ab) GA 1000000000 (G2 f) (λout i hi hle=>by
   have hmem:=Ai (d:=(default:Ab)) hi;have okb:=ok.block _ hmem;obtain⟨b1,b2,b3⟩:=blockB_iff.1 okb.may
   have e0:decide ((i:Int)<(f.Blocks.length:Int))=true:=by simpa using hi
   have hI:As (i:Int) f.Blocks.length:=Ag hi
   have l1:=Vp (f.Blocks.getD i default).Phis (default:Bf) du 1000000000 (G0 f i) (λout j hj hle=>by
     have hp:=b1 _ (Ai (d:=(default:Bf)) hj);have hp':=hp;simp only[AG,A1]at hp
     have q0:decide ((j:Int)<((f.Blocks.getD i default).Phis.length:Int))=true:=by simpa using hj
     simp only[du,Du]at hle;unfold G0;simp only[Aa hI,Co,q0,Af,Aa (Ag hj)]
     rw[Mq _ _ (E0 hp.1.1.1) (by omega),Aj,Mq _ _ (E0 hp.1.1.2) (by simp only[Du];omega),Aj,CG _ hp.1.2,Aj,
      Aa (by simp only[Du,room];omega),CG _ hp.2,Aj,Aa (by simp only[Du,room];omega),A0 hj (by have:=okb.phis;omega)]
     simp only[du,U8]
     rfl) (λout=>by
     unfold G0;simp only[Aa hI,Co]
     simp)
   have l2:=Vp (f.Blocks.getD i default).Ops (default:A2) xY 1000000000 (G1 f i) (λout j hj hle=>by
     have hp:=b2 _ (Ai (d:=(default:A2)) hj);have hi6:=okb.imm _ (Ai (d:=(default:A2)) hj);simp only[bG,A1]at hp
     have q0:decide ((j:Int)<((f.Blocks.getD i default).Ops.length:Int))=true:=by simpa using hj
     simp only[xY,Du]at hle
     have e6:((f.Blocks.getD i default).Ops.getD j default).Imm=(((f.Blocks.getD i default).Ops.getD j default).Imm.toNat:Int):=by have:=hi6.1;omega
     have hput:=PE (v:=((f.Blocks.getD i default).Ops.getD j default).Imm.toNat) (by rw[CO];have:=hi6.2;omega);rw[<- e6]at hput;unfold G1;simp only[Aa hI,Co,q0,Af,Aa (Ag hj)]
     rw[Mq _ _ (E0 hp.1.1.1.1) (by omega),Aj,Mq _ _ (E0 hp.1.1.1.2) (by simp only[Du];omega),Aj,
      Mq _ _ (E0 hp.1.1.2) (by simp only[Du];omega),Aj,Mq _ _ (E0 hp.1.2) (by simp only[Du];omega),Aj,CG _ hp.2,Aj,
      Aa (by simp only[Du,room];omega),hput,Aj,Aa (by simp only[Um]at hle;simp only[Du,room,Um];omega),A0 hj (by have:=okb.ops;omega)]
     simp only[xY,U8,Um]
     rfl) (λout=>by
     unfold G1;simp only[Aa hI,Co]
     simp)
   simp only[VJ,A1]at b3;have hle':=hle;simp only[GA,ID,oc,Du]at hle;have h1:=l1 _ 0 (out++Um ((f.Blocks.getD i default).Phis.length:Int)) (Hp _) (by simp only[Mv,Du];omega);have h2:=l2 _ 0 (out++Um ((f.Blocks.getD i default).Phis.length:Int)++((f.Blocks.getD i default).Phis.map du).flatten++Um ((f.Blocks.getD i default).Ops.length:Int)) (Hp _) (by simp only[Mv,Du];omega);rw[show((0:Nat):Int)=0 from rfl,Mv]at h1 h2;unfold G2;simp only[e0,Af,Aa hI,Co]
   rw[Mq _ _ ⟨by omega,by have:=okb.phis;omega⟩ (by omega),Aj,h1,Aj,Mq _ _ ⟨by omega,by have:=okb.ops;omega⟩ (by simp only[Du];omega),Aj,h2,Aj,
    Mq _ _ (E0 b3.1.1) (by simp only[Du];omega),Aj,Mq _ _ (E0 b3.1.2) (by simp only[Du];omega),Aj,CG _ b3.2,Aj,
    Aa (by simp only[Du,room];omega),A0 hi (by have:=ok.blocks;omega)]
   simp only[GA,ID,oc,U8]
   rfl) (λout=>by
   unfold G2
   simp)
  have hlF:=hlenF;simp only[MJ,ID,Du]at hlF;have h4:=h3 _ 0 (WH f.Params++Um f.Ret++Um (f.Blocks.length:Int)) (Hp _) (by simp only[Mv,Du];omega);rw[show((0:Nat):Int)=0 from rfl,Mv]at h4;rw[Dt,Ar,Af,CG _ ok.params,Aj,Mq _ _ (E0 ok.ret) (by omega),Aj,Mq _ _ ⟨by omega,by have:=ok.blocks;omega⟩ (by simp only[Du];omega),Aj,h4,Aj];simp only[MJ,ID,U8]
set_option maxRecDepth 100000
theorem lg:m_locksteplaw15_awake=some true:=by kernel_rfl
section
variable {f:TFunc} {h:THammock} (H:Hm f h)
include H
theorem mT:h.Then≠-1->h.Else≠-1->h.Then≠h.Else:=λh1 h2 e=>H.apart (by
 grind)
theorem GJ:∀ m:Nat,(((((List.range m).filter (Om h)).length:Nat):Int))=Ru h (m:Int)
 | 0=>by
  have h1:=(LB H).1;have h2:=(LB H).2;unfold Ru
  have ez:∀ y:Int,(y = -1\/0<=y)->((y !=-1)&&decide (y<((0:Nat):Int)))=false:=λy hy=>by
   grind
  simp only[ez _ h1,ez _ h2]
  rfl
 | m+1=>by
  have ih:=GJ m;have h1:=(LB H).1;have h2:=(LB H).2;have h3:=mT H;rw[FM,FL,Du]
  have ec:∀ y:Int,(y = -1\/0<=y)->((y !=-1)&&decide (y<((m+1:Nat):Int)))=(((y !=-1)&&decide (y<(m:Int))) || ((m:Int)==y)):=λy hy=>by
   grind
  unfold Ru at ih ⊢;simp only[ec _ h1,ec _ h2]at ih ⊢
  generalize hTT:((h.Then !=-1)&&decide (h.Then<(m:Int)))=T at ih ⊢
  generalize hEE:((h.Else !=-1)&&decide (h.Else<(m:Int)))=E at ih ⊢
  cases hT:(m:Int)==h.Then with
  | true=>
   have eT:=eq_of_beq hT
   have k1:Om h m=false:=by unfold Om bne;rw[hT];rfl
   have e1:T=false:=by grind
   have e2:((m:Int)==h.Else)=false:=by
    grind
   subst e1;rw[e2];simp only[List.filter_cons,k1,JF,H3,List.filter_nil,List.length_nil,Bool.or_true,Bool.or_false,Af,Ar]at ih ⊢
   cases E<;>simp only[Af,Ar]at ih ⊢<;>omega
  | false=>
   cases hE:(m:Int)==h.Else with
   | true=>
    have eE:=eq_of_beq hE
    have k1:Om h m=false:=by unfold Om bne;rw[hE];simp
    have e1:E=false:=by grind
    subst e1;simp only[List.filter_cons,k1,JF,H3,List.filter_nil,List.length_nil,Bool.or_true,Bool.or_false,Af,Ar]at ih ⊢
    cases T<;>simp only[Af,Ar]at ih ⊢<;>omega
   | false=>
    have k1:Om h m=true:=by unfold Om bne;rw[hT,hE];rfl
    simp only[List.filter_cons,k1,L3,List.filter_nil,FK,Bool.or_false]at ih ⊢
    cases T<;>cases E<;>simp only[Af,Ar]at ih ⊢<;>omega
theorem lv:(((Wa f h).Blocks.length:Nat):Int)=Ru h (f.Blocks.length:Int):=by
 show(((List.map _ _).length:Nat):Int)=_
 rw[L1];exact GJ H _
theorem xQ{x:Nat}(hx:x<f.Blocks.length)(hk:Om h x=true):As (Ru h (x:Int)) (Wa f h).Blocks.length/\(Wa f h).Blocks.getD (Ru h (x:Int)).toNat default=RC h (Wx f h x):=by
 have e:List.range f.Blocks.length=List.range x++(x::List.range' (x+1) (f.Blocks.length-x-1)):=by
  rw[P7,P7,(CW ..).symm,show f.Blocks.length-x-1+1=f.Blocks.length-x by omega];have:=List.range'_append (s:=0) (m:=x) (n:=f.Blocks.length-x) (step:=1);simp only[Nat.one_mul,Hp]at this;rw[this];congr 1;omega
 have hc:=GJ H x;rw[<- hc]
 have eB:(Wa f h).Blocks=((List.range x).filter (Om h)).map (λx=>RC h (Wx f h x))++(RC h (Wx f h x)::((List.range' (x+1) (f.Blocks.length-x-1)).filter (Om h)).map λx=>RC h (Wx f h x)):=by
  show List.map _ _=_
  rw[e,FL,List.filter_cons,hk,if_pos rfl,JH,Ch]
 rw[eB]
 constructor
 ·refine Ag ?_;rw[Du,L1,Rz];omega
 ·simp[List.getD]
theorem s5:Om h h.At.toNat=true:=by
 unfold Om;rw[K9 H.at_.1];simp only[A1,zzL85];exact⟨λe=>H.tne.1 e.symm,λe=>H.tne.2.1 e.symm⟩
def IM(f:TFunc)(o:A2):Bool:=(o.Dst==0) || decide (o.Dst<=M8 f)
def cntO(f:TFunc)(l:List A2):Nat:=(l.filter (IM f)).length
omit H in
theorem DN{s:Pt}(hs:M8 f<=s.2)(h0:0<=s.2/\s.2<=4000000000)(k b m:Int)(az:List Int):cntO f (S5 s k b m az).1=cntO f s.1:=by
 unfold cntO S5;rw[FL,Du]
 have:IM f ⟨k,b,1,w64 (s.2+1),az,m⟩=false:=by
  unfold IM;rw[Em (by omega) (by omega)]
  simp;omega
 simp[List.filter_cons,this]
omit H in
theorem ta{s:Pt}(hs:M8 f<=s.2)(h0:0<=s.2/\s.2<=4000000000){o:A2}(ho:IM f o=true)(g:Int):cntO f (IR g s o).1=cntO f s.1+1:=by
 have key:∀(l:List A2) (x:A2),x.Dst=o.Dst->cntO f (l++[x])=cntO f l+1:=λl x hx=>by
  unfold cntO;rw[FL,Du]
  have:IM f x=true:=by unfold IM at ho ⊢;rw[hx];exact ho
  simp[List.filter_cons,this]
 unfold IR;rcases grd_cases o g s with⟨_,e⟩|⟨_,e⟩|⟨_,e⟩|⟨_,e⟩|⟨_,e⟩<;>rw[e]
 ·refine(key _ _ ?_).trans (Bl (·+1) (DN hs h0 _ _ _ _))
  rfl
 ·refine key _ _ ?_
  rfl
 ·refine(key _ _ ?_).trans (Bl (·+1) (DN hs h0 _ _ _ _))
  rfl
 ·refine(key _ _ ?_).trans (Bl (·+1) (DN hs h0 _ _ _ _))
  rfl
 ·refine key _ _ ?_
  rfl
omit H in
theorem PV(g:Int):∀(ops:List A2) {s:Pt},M8 f<=s.2->0<=s.2/\s.2+ops.length<=4000000000->(∀ o∈ops,IM f o=true)->cntO f (Tj ops g s).1=cntO f s.1+ops.length
 | [],s,_,_,_=>rfl
 | o::l,s,h1,h2,h3=>by
  simp only[Rz]at h2 ⊢;have h4:=YD (s:=s) (by omega) g o;have h5:=PV g l (s:=IR g s o) (by omega) (by omega) λx hx=>h3 x (Lj _ hx);have h6:=ta h1 (by omega) (h3 o (zzL38 ..)) g
  show cntO f (Tj l g (IR g s o)).1=_
  omega
theorem jv{i:Nat}(hi:i<f.Blocks.length):∀ o∈(bA f i).Ops,IM f o=true:=λo ho=>by
 have h1:=(BL _ f.Params.length).2 (bA f i) (Ai hi);have h2:=h1.2 o ho;unfold IM;rw[F6 (show o.Dst<=M8 f from h2),Bool.or_true]
theorem vd{x:Int}(hx:x = -1\/As x f.Blocks.length):∀ o∈Mp f x,IM f o=true:=λo ho=>by
 unfold Mp at ho;rcases hx with rfl|hx
 ·cases ho
 ·rw[show(x !=-1)=true by grind]at ho;exact jv H (by have:=hx.1;have:=hx.2;omega) o ho
theorem ua(hc:Xl f=true):cntO f (FF f h).2.1=(bA f h.At.toNat).Ops.length+(IP f h).length:=by
 have hA:h.At.toNat<f.Blocks.length:=by have:=H.at_.1;have:=H.at_.2;omega
 have hb:=dG H.R.ok;have l1:=Iw H.R H.sides.1;have l2:=Iw H.R H.sides.2
 have h0:cntO f (bA f h.At.toNat).Ops=(bA f h.At.toNat).Ops.length:=by
  unfold cntO;rw[List.filter_eq_self.2 (jv H hA)]
 have h1:cntO f (bO f h).1=(bA f h.At.toNat).Ops.length+(Mp f h.Then).length:=by
  unfold bO;rw[PV _ _ (Int.le_refl _) (by simp only;omega) (vd H H.sides.1),h0]
 obtain⟨k0,k1,k2⟩:=SJ H
 have h2:cntO f (WI f h).1=cntO f (bO f h).1:=by
  unfold WI
  cases VG (Mp f h.Else) with
  | false=>rfl
  | true=>
   have e:=Wv (s:=bO f h) (by omega) 0 1 1 [];rw[Af,DN (by omega) (by omega),DN k0 (by omega)]
 obtain⟨k3,k4⟩:=eI H
 have h3:cntO f (PF f h).1=cntO f (WI f h).1+(Mp f h.Else).length:=by
  unfold PF;exact PV _ _ (by omega) (by omega) (vd H H.sides.2)
 obtain⟨k5,k6⟩:=qM H
 have key:∀(l:List Bf) (s:List Bf×Pt),M8 f<=s.2.2->0<=s.2.2/\s.2.2+l.length<=4000000000->cntO f (l.foldl (OK f h) s).2.1=cntO f s.2.1:=λl=>by
  induction l with
  | nil=>intro s _ _;rfl
  | cons q l ih=>
   intro s g1 g2;simp only[Rz]at g2;rw[Ze]
   have hq:cntO f (OK f h s q).2.1=cntO f s.2.1/\s.2.2<=(OK f h s q).2.2/\(OK f h s q).2.2<=s.2.2+1:=by
    have e:=Wv (s:=s.2) (by omega) 13 q.Bits 0 [(bA f h.At.toNat).End.Arg,DK q (Fk h h.Then),DK q (Fk h h.Else)];unfold OK
    cases DK q (Fk h h.Then)==DK q (Fk h h.Else) with
    | true=>grind
    | false=>exact⟨DN g1 (by omega) _ _ _ _,by simp only[Ar];omega,by simp only[Ar];omega⟩
   rw[ih _ (by omega) (by omega)];exact hq.1
 have hpl:=Rh H (Xy H);have h4:=key (bA f h.Join.toNat).Phis ([],PF f h) k5 (by simp only;omega)
 show cntO f ((bA f h.Join.toNat).Phis.foldl (OK f h) ([],PF f h)).2.1=_
 rw[h4,h3,h2,h1];unfold IP;rw[Du];omega
end
theorem fewer15(f:TFunc)(a:Int)(hf:US f)(ha:0<=a/\a<256):I9 f a=some true:=by
 unfold I9;rw[lg,Aj,Dt,Ar];obtain⟨b,hb,hsm⟩:=ln hf;rw[hb,Aj]
 cases b with
 | false=>rfl
 | true=>
  obtain⟨hs,h16⟩:=hsm rfl;rw[Dt,show((false:Bool)==false)=true from rfl,Af,BM hs,Aj,Ar]
  cases hck:(F9 f 2 !=0) with
  | true=>rfl
  | false=>
   have hc:Xl f=true:=by unfold Xl;unfold bne at hck;simpa using hck
   have R:=CH hs (by simpa [Xl] using hc);have hlo:=R.lo;have hhi:=R.hi;rw[Ar,Aa (by omega),lj hs,Aj]
   obtain⟨i,hi,hie⟩:∃ i:Nat,i<f.Blocks.length/\Int.tmod (w64 a) (f.Blocks.length:Int)=(i:Int):=by
    rw[Em (by omega) (by omega),Int.tmod_eq_emod_of_nonneg ha.1];have h1:=Int.emod_nonneg a (show(f.Blocks.length:Int)≠0 by omega);have h2:=Int.emod_lt_of_pos a (show(0:Int)<f.Blocks.length by omega);exact⟨(a % (f.Blocks.length:Int)).toNat,by omega,by omega⟩
   rw[hie]
   have e:Xv f (i:Int)=(match BH f i with|some v=>(v,true)|none=>(zH,false)):=by
    unfold Xv XA;rw[hc,Af,if_pos (Ag hi),Ap]
    try cases BH f i<;>rfl
   rw[e]
   cases ho:BH f i with
   | none=>rfl
   | some h=>
    have hm:h∈allHR f:=by unfold allHR;rw[hc];exact mem_all.2 ⟨i,hi,ho⟩
    have hiv:=isHR_mem.2 hm;have H:=vV hs hiv;simp only[Dt,Ar,tz hs,Aj];unfold gh
    cases hmr:DY f h with
    | false=>rfl
    | true=>
     rw[Af]
     cases hbd:(decide (1023<(FF f h).2.2) || !Qb (Wa f h)) with
     | true=>rfl
     | false=>
      simp only[bU,Bool.not_eq_false']at hbd;have hN:=uM H hc (xR hs h16 hc) hbd.2
      have hA:h.At.toNat<f.Blocks.length:=by have:=H.at_.1;have:=H.at_.2;omega
      have hAc:((h.At.toNat:Nat):Int)=h.At:=K9 H.at_.1;obtain⟨q1,q2⟩:=xQ H hA (s5 H);rw[hAc]at q1 q2;have hcnt:=lv H;have hT0:=(LB H).1;have hE0:=(LB H).2;have hT1:h.Then≠-1->h.Then<f.Blocks.length:=λe=>(H.sides.1.resolve_left e).2;have hE1:h.Else≠-1->h.Else<f.Blocks.length:=λe=>(H.sides.2.resolve_left e).2
      have eT:decide ((0:Int)<=h.Then)=(h.Then !=-1):=by
       rcases hT0 with e|e
       ·rw[e];rfl
       ·rw[F6 e];symm;simp;omega
      have eE:decide ((0:Int)<=h.Else)=(h.Else !=-1):=by
       rcases hE0 with e|e
       ·rw[e];rfl
       ·rw[F6 e];symm;simp;omega
      have hmv:Ru h (f.Blocks.length:Int)=(f.Blocks.length:Int)-(bif (h.Then !=-1) then 1 else 0)-(bif (h.Else !=-1) then 1 else 0):=by
       unfold Ru
       have e1:((h.Then !=-1)&&decide (h.Then<(f.Blocks.length:Int)))=(h.Then !=-1):=by
        cases hh:(h.Then !=-1) with
        | false=>rfl
        | true=>rw[F6 (hT1 (by simpa using hh))];rfl
       have e2:((h.Else !=-1)&&decide (h.Else<(f.Blocks.length:Int)))=(h.Else !=-1):=by
        cases hh:(h.Else !=-1) with
        | false=>rfl
        | true=>rw[F6 (hE1 (by simpa using hh))];rfl
       simp only[e1,e2]
       cases(h.Then !=-1)<;>cases(h.Else !=-1)<;>simp only[Af,Ar]<;>omega
      simp only[Ar,show((0:Int)!=0)=false from rfl,eT,eE]
      have g1:(bif (h.Then !=-1) then some (w64 ((0:Int)+1)) else some 0)=some (bif (h.Then !=-1) then(1:Int) else 0):=by cases(h.Then !=-1)<;>rfl
      rw[g1,Aj]
      have g2:(bif (h.Else !=-1) then some (w64 ((bif (h.Then !=-1) then(1:Int) else 0)+1)) else some (bif (h.Then !=-1) then(1:Int) else 0))=some ((bif (h.Then !=-1) then(1:Int) else 0)+(bif (h.Else !=-1) then(1:Int) else 0)):=by cases(h.Then !=-1)<;>cases(h.Else !=-1)<;>rfl
      rw[g2,Aj]
      have g3:w64 ((f.Blocks.length:Int)-((bif (h.Then !=-1) then(1:Int) else 0)+(bif (h.Else !=-1) then(1:Int) else 0)))=Ru h (f.Blocks.length:Int):=by
       rw[hmv]
       have:(f.Blocks.length:Int)-((bif (h.Then !=-1) then(1:Int) else 0)+(bif (h.Else !=-1) then(1:Int) else 0))=(f.Blocks.length:Int)-(bif (h.Then !=-1) then 1 else 0)-(bif (h.Else !=-1) then 1 else 0):=by omega
       rw[this];exact Em (by cases(h.Then !=-1)<;>cases(h.Else !=-1)<;>simp only[Af,Ar]<;>omega) (by cases(h.Then !=-1)<;>cases(h.Else !=-1)<;>simp only[Af,Ar]<;>omega)
      rw[g3,hcnt,bne_self_eq_false,show((false:Bool)==false)=true from rfl,Af,gz _ hN.inf (λhm=>kF (xS hN) hm),hbd.2,Af,Aj,Ar]
      have hlen:0<(MJ (Wa f h)).length:=by
       unfold MJ WH;have:=d5 (Wa f h).Params.length;simp only[Du];omega
      have g4:(((MJ (Wa f h)).length:Int)==0)=false:=by simp;intro e;rw[e]at hlen;simp at hlen
      rw[g4,Ar]
      have g5:(bif (bif (h.Then !=-1) then decide (h.Then<h.At) else false) then some (w64 (h.At-1)) else some h.At)=some (bif (h.Then !=-1)&&decide (h.Then<h.At) then h.At-1 else h.At):=by
       rw[DJ,Em (n:=h.At-1) (by have:=H.at_.1;omega) (by have:=H.at_.2;omega),ZQ]
      rw[g5,Aj]
      have g6:(bif (bif (h.Else !=-1) then decide (h.Else<h.At) else false) then some (w64 ((bif (h.Then !=-1)&&decide (h.Then<h.At) then h.At-1 else h.At)-1)) else some (bif (h.Then !=-1)&&decide (h.Then<h.At) then h.At-1 else h.At))=some (Ru h h.At):=by
       have hz:-1<=(bif (h.Then !=-1)&&decide (h.Then<h.At) then h.At-1 else h.At)/\(bif (h.Then !=-1)&&decide (h.Then<h.At) then h.At-1 else h.At)<1000000:=by
        have a1:=H.at_.1;have a2:=H.at_.2
        cases((h.Then !=-1)&&decide (h.Then<h.At))<;>simp only[Af,Ar]<;>omega
       rw[DJ,Em (by omega) (by omega),ZQ]
       rfl
      rw[g6,Aj]
      have hpo:(FF f h).2.1.length<=5000:=by
       have h1:=(IQ H hc).2;have h2:=Rh H (Xy H);omega
      have eblk:RC h (Wx f h h.At.toNat)=⟨(bA f h.At.toNat).Phis.map (lu h),(FF f h).2.1,⟨1,0,[Ru h h.Join]⟩⟩:=by
       unfold Wx;rw[hAc,U9]
       rfl
      rw[eblk]at q2
      have key:=T7 (FF f h).2.1 (default:A2) (λk (t:Int)=>(t,(k:Int))) (λk t=>0<=t/\t<=k) (λt o=>bif IM f o then t+1 else t) id (Eg f (Wa f h,0) (Ru h h.At)) (λk t hk hP=>by
        have hL:=xK hf;unfold Eg;simp only[Aa q1,q2,B4 hk,Af,Aa (Ag hk),Ap,hL,w1 (show k<4611686018427387904 by omega)];rw[Aa (λ_=>q1),Aa (λ_=>Ag hk)];unfold IM;have hw:w64 (t+1)=t+1:=Em (by omega) (by omega)
        cases((FF f h).2.1.getD k default).Dst==0 with
        | true=>
         simp only[show((true:Bool)==false)=false from rfl,Ar,Aj,Af,Bool.true_or,hw];exact⟨trivial,by omega⟩
        | false=>
         grind) (λt _=>by
        unfold Eg;simp only[Aa q1,q2,Dh,Ar]
        rfl) 0 (by omega)
      have k1:=key.1
      have ef:∀(l:List A2) (t:Int),l.foldl (λt o=>bif IM f o then t+1 else t) t=t+(cntO f l:Int):=λl=>by
       induction l with
       | nil=>intro t;simp[cntO]
       | cons o l ih=>
        intro t;rw[Ze,ih];unfold cntO
        cases ho:IM f o with
        | false=>simp[ho]
        | true=>simp[ho];omega
      rw[ef,ua H hc]at k1;simp only[id,Int.zero_add]at k1;rw[show((0:Int),(0:Int))=((0:Int),((0:Nat):Int)) from rfl,k1,Aj,Aa H.at_,pK hs hiv,Aj];have l1:=Iw H.R H.sides.1;have l2:=Iw H.R H.sides.2;have l3:=ZO H;have eA:f.Blocks.getD h.At.toNat default=bA f h.At.toNat:=rfl
      have g7:((((bA f h.At.toNat).Ops.length+(IP f h).length:Nat):Int)==w64 (((bA f h.At.toNat).Ops.length:Int)+((IP f h).length:Int)))=true:=by
       have:(IP f h).length=(Mp f h.Then).length+(Mp f h.Else).length:=by unfold IP;rw[Du]
       rw[Em (by omega) (by omega)];simp
      rw[eA,g7,Aa (λ_=>q1),q2,Af]
      rfl
end
end Go.Proofs.YtlnbjgmjaioagaaGreat
