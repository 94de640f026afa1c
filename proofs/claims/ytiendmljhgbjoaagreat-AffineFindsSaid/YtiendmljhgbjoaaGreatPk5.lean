/-
  The machine, the program's functions and the laws' arithmetic: part 5 of 6.
-/
import Derived.Test.YtiendmljhgbjoaaGreatPk4
import Derived.Lib.RowBridge
set_option linter.unusedSectionVars false
set_option linter.unusedVariables false
set_option linter.unusedSimpArgs false
namespace Go.Proofs.YtiendmljhgbjoaaGreat
noncomputable section
open Go Go.RowKit
set_option maxRecDepth 100000
theorem kinds(k:Int):k=0\/k=1\/k=2\/k=3\/k=4\/k=5\/k=6\/k=7\/k=8\/k=9\/k=10\/k=11\/k=12\/k=13\/k=14\/k=15\/k=16\/k=17\/k=18\/k=19\/k=20\/k=21\/k=22\/(k<0\/22<k):=by omega
theorem e9{k:Int}(h:k<0\/22<k):(k==0)=false/\(k==1)=false/\(k==2)=false/\(k==3)=false/\(k==4)=false/\(k==5)=false/\(k==6)=false/\(k==7)=false/\(k==8)=false/\(k==9)=false/\(k==10)=false/\(k==11)=false/\(k==12)=false /\
  (k==13)=false/\(k==14)=false/\(k==15)=false/\(k==16)=false/\(k==17)=false/\(k==18)=false/\(k==19)=false/\(k==20)=false/\(k==21)=false/\(k==22)=false:=by
 simp only[zzL20,ne_eq];omega
def widthB(b:Int):Bool:=b==1 || b==8 || b==16 || b==32 || b==64
def W5(b n:Int):Bool:=widthB b&&(n==1 || ((n==2 || n==4 || n==8 || n==16)&&decide (8<=b)&&decide (b*n<=128)))
theorem width_cases{b:Int}(h:widthB b=true):b=1\/b=8\/b=16\/b=32\/b=64:=by simp[widthB]at h;omega
theorem U2{b n:Int}(h:W5 b n=true):widthB b=true:=by simp[W5]at h;exact h.1
theorem R0{b n:Int}(h:W5 b n=true):n=1\/n=2\/n=4\/n=8\/n=16:=by simp[W5]at h;omega
theorem We(b:Int):K4 b=some (widthB b):=by
 unfold K4 widthB
 by_cases h1:b=1
 ·subst h1;rfl
 by_cases h2:b=8
 ·subst h2;rfl
 by_cases h3:b=16
 ·subst h3;rfl
 by_cases h4:b=32
 ·subst h4;rfl
 by_cases h5:b=64
 ·subst h5;rfl
 have e1:(b==1)=false:=by simpa using h1
 have e2:(b==8)=false:=by simpa using h2
 have e3:(b==16)=false:=by simpa using h3
 have e4:(b==32)=false:=by simpa using h4
 have e5:(b==64)=false:=by simpa using h5
 simp[e1,e2,e3,e4,e5]
theorem Rw(b:Int):C3 b=some (widthB b):=by
 unfold C3 widthB
 cases(b==1)<;>cases(b==8)<;>cases(b==16)<;>cases(b==32)<;>rfl
theorem eU(b n:Int):Sy b n=some (W5 b n):=by
 unfold Sy;simp only[We,Ai]
 by_cases hn:n=1\/n=2\/n=4\/n=8\/n=16
 ·cases hw:widthB b with
  | false=>rcases hn with rfl|rfl|rfl|rfl|rfl<;>simp[W5,hw]
  | true=>
   rcases width_cases hw with rfl|rfl|rfl|rfl|rfl<;>rcases hn with rfl|rfl|rfl|rfl|rfl<;>rfl
 ·have e1:(n==1)=false:=by simp;omega
  have e2:(n==2)=false:=by simp;omega
  have e3:(n==4)=false:=by simp;omega
  have e4:(n==8)=false:=by simp;omega
  have e5:(n==16)=false:=by simp;omega
  simp[W5,e1,e2,e3,e4,e5]
theorem kM(b n:Int):J1 b n=some (W5 b n):=by
 unfold J1;simp only[Rw,Ai]
 cases hw:widthB b with
 | false=>simp[W5,hw]
 | true=>
  by_cases hn:n=1\/n=2\/n=4\/n=8\/n=16
  ·rcases width_cases hw with rfl|rfl|rfl|rfl|rfl<;>rcases hn with rfl|rfl|rfl|rfl|rfl<;>rfl
  ·have e1:(n==1)=false:=by simp;omega
   have e2:(n==2)=false:=by simp;omega
   have e3:(n==4)=false:=by simp;omega
   have e4:(n==8)=false:=by simp;omega
   have e5:(n==16)=false:=by simp;omega
   simp[W5,e1,e2,e3,e4,e5]
theorem oO{v b:Int}(hv:0<=v/\v<18446744073709551616)(hb:widthB b=true):Xa v b=some (v % 2 ^ b.toNat):=by
 unfold Xa;simp only[We,hb,Ai,Ds,Ao]
 have key:∀ j:Nat,j<64->HG .u64 (EU .u64 v (j:Int)) (j:Int)=(v*2 ^ j % 18446744073709551616) / 2 ^ j:=λj hj=>by
  simp only[HG,EU,Ej,IntKind.bits];rw[Nat.min_eq_left (by omega),mh,show IntKind.u64.wrap (v*2 ^ j)=v*2 ^ j % 18446744073709551616 from BD _]
 rcases width_cases hb with rfl|rfl|rfl|rfl|rfl
 ·have:=key 63 (by decide);simp only[show w64 (64-1)=((63:Nat):Int) from rfl,this];rw[Ae (by decide),Ae (by decide)];congr 1;simp only[show((1:Int).toNat)=1 from rfl];omega
 ·have:=key 56 (by decide);simp only[show w64 (64-8)=((56:Nat):Int) from rfl,this];rw[Ae (by decide),Ae (by decide)];congr 1;simp only[show((8:Int).toNat)=8 from rfl];omega
 ·have:=key 48 (by decide);simp only[show w64 (64-16)=((48:Nat):Int) from rfl,this];rw[Ae (by decide),Ae (by decide)];congr 1;simp only[show((16:Int).toNat)=16 from rfl];omega
 ·have:=key 32 (by decide);simp only[show w64 (64-32)=((32:Nat):Int) from rfl,this];rw[Ae (by decide),Ae (by decide)];congr 1;simp only[show((32:Int).toNat)=32 from rfl];omega
 ·have:=key 0 (by decide);simp only[show w64 (64-64)=((0:Nat):Int) from rfl,this];rw[Ae (by decide),Ae (by decide)];congr 1;simp only[show((64:Int).toNat)=64 from rfl];omega
theorem rU{v b:Int}(hv:0<=v/\v<18446744073709551616)(hb:widthB b=true):Ld v b=some (v % 2 ^ b.toNat):=by
 unfold Ld;simp only[Rw,hb,Ai,Ds,Ao];rcases width_cases hb with rfl|rfl|rfl|rfl|rfl
 ·rw[show((1:Int)==64)=false from rfl,Ao,Ae (by decide),Ae (by decide),show EU .u64 (1:Int) (Cl 1)=2 ^ (1:Int).toNat from rfl,Int.tmod_eq_emod_of_nonneg hv.1]
 ·rw[show((8:Int)==64)=false from rfl,Ao,Ae (by decide),Ae (by decide),show EU .u64 (1:Int) (Cl 8)=2 ^ (8:Int).toNat from rfl,Int.tmod_eq_emod_of_nonneg hv.1]
 ·rw[show((16:Int)==64)=false from rfl,Ao,Ae (by decide),Ae (by decide),show EU .u64 (1:Int) (Cl 16)=2 ^ (16:Int).toNat from rfl,Int.tmod_eq_emod_of_nonneg hv.1]
 ·rw[show((32:Int)==64)=false from rfl,Ao,Ae (by decide),Ae (by decide),show EU .u64 (1:Int) (Cl 32)=2 ^ (32:Int).toNat from rfl,Int.tmod_eq_emod_of_nonneg hv.1]
 ·rw[show((64:Int)==64)=true from rfl,Ac]
  congr 1
  simp only[show((64:Int).toNat)=64 from rfl];omega
theorem YB{i:Int}(h:0<=i/\i<18446744073709551616):Na i=some (widthB i):=by
 unfold Na
 by_cases hi:i<=64
 ·have:w64 i=i:=Jr (by omega) (by omega);simp[hi,this,We]
 ·have:widthB i=false:=by simp[widthB];omega
  simp[hi,this]
def hY(k:Int):Bool:=decide (0<=k)&&decide (k<=22)
def N0(k n:Int):Int:=
 bif k==0 then 0 else bif k==13 || k==18 || k==19 then 3 else bif k==14 || k==15 || k==16 || k==22 then 1 else bif k==20 then 4 else bif k==21 then n else 2
def sfitS(k b n:Int):Bool:=
 bif k==16 || k==17 then decide (8<=b) else bif k==18 || k==19 then decide (8<=b)&&n==1 else
 bif k==4 || k==10 || k==11 || k==12 || k==14 || k==15 || k==20 then n==1 else bif k==21 || k==22 then decide (1<n) else true
def ifitS(k b n i:Int):Bool:=
 bif k==0 then i % 2 ^ b.toNat==i else bif k==14 then widthB i&&decide (i<b) else bif k==15 then widthB i&&decide (b<i) else bif k==22 then decide (i<n) else i==0
def valS(v:Int):Bool:=decide (1<=v)&&decide (v<=1023)
def dstS(k d:Int):Bool:=bif k==17 || k==19 then d==0 else valS d
def K7(o:Cn):Bool:=W5 o.Bits o.Lanes&&(hY o.Kind&&sfitS o.Kind o.Bits o.Lanes&&ifitS o.Kind o.Bits o.Lanes o.Imm&&((o.Args.length:Int)==N0 o.Kind o.Lanes))&&(o.Args.all valS&&dstS o.Kind o.Dst)
def DC(o:Cn)(i:Nat):Int×Int:=
 bif o.Kind==13 || o.Kind==20 then(bif Nat.beq i 0 then(1,1) else(o.Bits,o.Lanes)) else bif o.Kind==14 || o.Kind==15 then(w64 o.Imm,1) else
 bif o.Kind==16 || o.Kind==17 then(bif Nat.beq i 0 then(64,1) else(o.Bits,o.Lanes)) else
 bif o.Kind==18 || o.Kind==19 then(bif Nat.beq i 1 then(64,1) else bif Nat.beq i 0 then(1,1) else(o.Bits,o.Lanes)) else bif o.Kind==21 then(o.Bits,1) else(o.Bits,o.Lanes)
def Rf(o:Cn):List (Int×Int):=(List.range (N0 o.Kind o.Lanes).toNat).map (DC o)
def O2(k b n:Int):Int×Int:=bif k==17 || k==19 then(0,0) else bif k==10 || k==11 || k==12 then(1,1) else bif k==22 then(b,1) else(b,n)
theorem GC{k:Int}(h:k<0\/22<k):hY k=false:=by simp[hY];omega
theorem bf(k:Int):Rm k=some (hY k):=by unfold Rm hY;cases decide ((0:Int)<=k)<;>rfl
theorem W4(v:Int):M9 v=some (valS v):=by unfold M9 valS;cases decide ((1:Int)<=v)<;>rfl
theorem CI(v:Int):Fm v=some (valS v):=by
 unfold Fm valS
 have e1:decide ((0:Int)<v)=decide (1<=v):=by congr 1
 have e2:decide (v<(1024:Int))=decide (v<=1023):=by apply zzL60.2;omega
 rw[e1,e2]
 cases decide ((1:Int)<=v)<;>rfl
theorem OQ(o:Cn):Np o=some (sfitS o.Kind o.Bits o.Lanes):=by
 obtain⟨k,b,n,d,args,i⟩:=o;rcases kinds k with rfl|rfl|rfl|rfl|rfl|rfl|rfl|rfl|rfl|rfl|rfl|rfl|rfl|rfl|rfl|rfl|rfl|rfl|rfl|rfl|rfl|rfl|rfl|h
 any_goals rfl
 ·show some (bif decide (8<=b) then n==1 else false)=some (decide (8<=b)&&n==1);cases decide (8<=b)<;>rfl
 ·show some (bif decide (8<=b) then n==1 else false)=some (decide (8<=b)&&n==1);cases decide (8<=b)<;>rfl
 ·unfold Np sfitS;simp[e9 h]
theorem OP(o:Cn):Py o=some (O2 o.Kind o.Bits o.Lanes):=by
 obtain⟨k,b,n,d,args,i⟩:=o;rcases kinds k with rfl|rfl|rfl|rfl|rfl|rfl|rfl|rfl|rfl|rfl|rfl|rfl|rfl|rfl|rfl|rfl|rfl|rfl|rfl|rfl|rfl|rfl|rfl|h
 any_goals rfl
 unfold Py O2;simp[e9 h]
theorem YA(o:Cn)(hw:widthB o.Bits=true)(hn:0<=o.Lanes/\o.Lanes<=16)(hi:0<=o.Imm/\o.Imm<18446744073709551616):Pz o=some (ifitS o.Kind o.Bits o.Lanes o.Imm):=by
 unfold Pz ifitS
 have hb:Cl o.Bits=o.Bits:=by apply NF<;>(rcases width_cases hw with h|h|h|h|h<;>omega)
 have hl:Cl o.Lanes=o.Lanes:=by apply NF<;>omega
 rw[oO hi hw,YB hi,hb,hl]
 cases(o.Kind==0)<;>cases(o.Kind==14)<;>cases(o.Kind==15)<;>cases(o.Kind==22)<;>cases widthB o.Imm<;>rfl
set_option maxHeartbeats 2000000 in
theorem nt (o : Cn) (hs : W5 o.Bits o.Lanes = true) (hk : hY o.Kind = true) (hi : 0 ≤ o.Imm ∧ o.Imm < 18446744073709551616) : F5 o = some (sfitS o.Kind o.Bits o.Lanes && ifitS o.Kind o.Bits o.Lanes o.Imm) := by
  have hw := U2 hs; have hl := R0 hs; obtain ⟨k, b, n, d, args, i⟩ := o; simp only at hs hk hi hw hl ⊢
  have hb : Cl b = b := by apply NF <;> (rcases width_cases hw with h | h | h | h | h <;> omega)
  have hn : Cl n = n := by apply NF <;> omega
  have hb8 : decide (b < 8) = !decide (8 ≤ b) := by rw [← decide_not]; apply zzL60.2; omega
  have hn2 : decide (n < 2) = !decide (1 < n) := by rw [← decide_not]; apply zzL60.2; omega
  have h14 : (bif decide (i < b) then widthB (w64 i) else false) = (widthB i && decide (i < b)) := by
    by_cases h : i < b
    · have : w64 i = i := Jr (by omega) (by rcases width_cases hw with h | h | h | h | h <;> omega); simp [h, this]
    · simp [h]
  have h15 : (bif (bif decide (b < i) then decide (i ≤ 64) else false) then widthB (w64 i) else false) = (widthB i && decide (b < i)) := by
    by_cases h : i ≤ 64
    · have : w64 i = i := Jr (by omega) (by omega)
      by_cases h2 : b < i <;> simp [h, this, h2]
    · have : widthB i = false := by simp [widthB]; omega
      simp [h, this]
  have hc := rU (v := i) hi hw; rcases kinds k with rfl | rfl | rfl | rfl | rfl | rfl | rfl | rfl | rfl | rfl | rfl | rfl | rfl | rfl | rfl | rfl | rfl | rfl | rfl | rfl | rfl | rfl | rfl | h
  case inl => unfold F5; simp [hc, sfitS, ifitS]
  all_goals first
    | (rw [GC h] at hk; cases hk)
    | (unfold F5 sfitS ifitS
       simp only [hb8]
       generalize decide (8 ≤ b) = u at *
       clear hc h14 h15 hb8 hw hs; rcases hl with rfl | rfl | rfl | rfl | rfl <;> cases u <;> simp_all
       done)
    | (unfold F5 sfitS ifitS
       rw [hb]; simp only [Rw]; clear hc hs
       generalize decide (i < b) = p at *
       generalize decide (b < i) = q at *
       generalize decide (i ≤ 64) = r at *
       generalize widthB (w64 i) = s at *
       rcases hl with rfl | rfl | rfl | rfl | rfl <;> cases p <;> cases q <;> cases r <;> cases s <;> simp_all
       done)
theorem Hh{α X:Type}(l:List α)(d:α)(p:α->Bool)(f:Int->Option (LR Int X))(yes no:X)(hn:∀ i:Nat,i<l.length->p (l.getD i d)=true->f i=some (.next ((i:Int)+1)))
  (hf:∀ i:Nat,i<l.length->p (l.getD i d)=false->f i=some (.done no)) (he:f l.length=some (.done yes)):∀(k i:Nat),i+k=l.length->Ad f i=some (bif (l.drop i).all p then yes else no)
 | 0,i,h=>by
  obtain rfl:i=l.length:=by omega
  rw[Ah he]
  simp
 | k+1,i,h=>by
  have hi:i<l.length:=by omega
  have hd:l.drop i=l.getD i d::l.drop (i+1):=by rw[P7 hi,Ab _ _ _ hi]
  cases hp:p (l.getD i d) with
  | true=>
   rw[Ar (hn i hi hp)];have:=Hh l d p f yes no hn hf he k (i+1) (by omega);rw[show((i:Int)+1)=((i+1:Nat):Int) by omega,this,hd,Yl,hp,Hx]
  | false=>
   rw[Ah (hf i hi hp),hd,Yl,hp,FB,Ao]
theorem OU{α X:Type}(n:Nat)(g:Nat->α)(f:List α×Int->Option (LR (List α×Int) X))(out:List α->X)(hn:∀(l:List α) (i:Nat),i<n->l.length=i->f (l,(i:Int))=some (.next (l++[g i],(i:Int)+1)))
  (he:∀ l:List α,l.length=n->f (l,(n:Int))=some (.done (out l))):∀(k i:Nat) (l:List α),i+k=n->l=(List.range i).map g->Ad f (l,(i:Int))=some (out ((List.range n).map g))
 | 0,i,l,h,hl=>by
  obtain rfl:i=n:=by omega
  subst hl;exact Ah (he _ (by simp))
 | k+1,i,l,h,hl=>by
  subst hl;rw[Ar (hn _ i (by omega) (by simp)),show((i:Int)+1)=((i+1:Nat):Int) by omega];exact OU n g f out hn he k (i+1) _ (by omega) (by simp[DY])
theorem iD{α X:Type}[BEq α][LawfulBEq α](l m:List α)(d:α)(f:Int->Option (LR Int X))(yes no:X)(hlen:l.length=m.length)(hn:∀ i:Nat,i<l.length->(l.getD i d==m.getD i d)=true->f i=some (.next ((i:Int)+1)))
  (hf:∀ i:Nat,i<l.length->(l.getD i d==m.getD i d)=false->f i=some (.done no)) (he:f l.length=some (.done yes)):∀(k i:Nat),i+k=l.length->Ad f i=some (bif l.drop i==m.drop i then yes else no)
 | 0,i,h=>by
  obtain rfl:i=l.length:=by omega
  rw[Ah he];rw[List.drop_length,hlen,List.drop_length]
  simp
 | k+1,i,h=>by
  have hi:i<l.length:=by omega
  have hd:l.drop i=l.getD i d::l.drop (i+1):=by rw[P7 hi,Ab _ _ _ hi]
  have hd':m.drop i=m.getD i d::m.drop (i+1):=by rw[P7 (by omega),Ab _ _ _ (by omega)]
  cases hp:(l.getD i d==m.getD i d) with
  | true=>
   rw[Ar (hn i hi hp)];have:=iD l m d f yes no hlen hn hf he k (i+1) (by omega);rw[show((i:Int)+1)=((i+1:Nat):Int) by omega,this,hd,hd',List.cons_beq_cons,hp,Hx]
  | false=>
   rw[Ah (hf i hi hp),hd,hd',List.cons_beq_cons,hp,FB,Ao]
theorem GH{α:Type}(l:List α)(d:α)(wt:α->Nat)(C:Nat)(f:Int×Int->Option (LR (Int×Int) Int))
  (hn:∀(n i:Nat),i<l.length->n<=C->∃ m:Nat,f ((n:Int),(i:Int))=some (.next ((m:Int),((i+1:Nat):Int)))/\(n+wt (l.getD i d)<=C->m=n+wt (l.getD i d))/\(m<=C->n+wt (l.getD i d)<=C))
  (hd:∀(n i:Nat),i<=l.length->(i=l.length\/C<n)->f ((n:Int),(i:Int))=some (.done (n:Int))) :
  ∀(k i n:Nat),i+k=l.length->∃ m:Nat,Ad f ((n:Int),(i:Int))=some (m:Int)/\(n+((l.drop i).map wt).sum<=C->m=n+((l.drop i).map wt).sum)/\(m<=C->n+((l.drop i).map wt).sum<=C)
 | 0,i,n,h=>by
  obtain rfl:i=l.length:=by omega
  refine⟨n,Ah (hd n _ (zzL7 _) (.inl rfl)),?_,?_⟩
  ·simp
  ·simp
 | k+1,i,n,h=>by
  have hi:i<l.length:=by omega
  have hdr:l.drop i=l.getD i d::l.drop (i+1):=by rw[P7 hi,Ab _ _ _ hi]
  by_cases hC:n<=C
  ·obtain⟨m,h1,h2,h3⟩:=hn n i hi hC;obtain⟨m',h4,h5,h6⟩:=GH l d wt C f hn hd k (i+1) m (by omega);refine⟨m',by rw[Ar h1];exact h4,λhle=>?_,λhle=>?_⟩
   ·rw[hdr,Cu,Vs]at hle ⊢;have:=h2 (by omega);subst this;rw[h5 (by omega)];omega
   ·rw[hdr,Cu,Vs];have h7:=h6 hle;have h8:=h3 (by omega);have:=h2 h8;omega
  ·refine⟨n,Ah (hd n i (by omega) (.inr (by omega))),λhle=>by omega,λhle=>by omega⟩
theorem Ti{X:Type}(N:Nat)(f:Int×Int->Option (LR (Int×Int) X))(hn:∀(n:Int) (i:Nat),i<N->(∃ m:Int,f (n,(i:Int))=some (.next (m,((i+1:Nat):Int))))\/∃ x,f (n,(i:Int))=some (.done x))(hd:∀ n:Int,∃ x,f (n,(N:Int))=some (.done x)) :
  ∀(k i:Nat) (n:Int),i+k=N->∃ x,Ad f (n,(i:Int))=some x
 | 0,i,n,h=>by
  obtain rfl:i=N:=by omega
  obtain⟨x,hx⟩:=hd n;exact⟨x,Ah hx⟩
 | k+1,i,n,h=>by
  rcases hn n i (by omega) with⟨m,hm⟩|⟨x,hx⟩
  ·obtain⟨x,hx⟩:=Ti N f hn hd k (i+1) m (by omega);exact⟨x,by rw[Ar hm];exact hx⟩
  ·exact⟨x,Ah hx⟩
theorem IK{α X:Type}(l:List α)(d:α)(wt:α->Nat)(out:Int->X)(f:Int×Int->Option (LR (Int×Int) X))
  (hn:∀(n i:Nat),i<l.length->f (w64 n,(i:Int))=some (.next (w64 ((n+wt (l.getD i d):Nat):Int),((i+1:Nat):Int)))) (hd:∀ n:Int,f (n,(l.length:Int))=some (.done (out n))) :
  ∀(k i n:Nat),i+k=l.length->Ad f (w64 n,(i:Int))=some (out (w64 ((n+((l.drop i).map wt).sum:Nat):Int)))
 | 0,i,n,h=>by
  obtain rfl:i=l.length:=by omega
  rw[Ah (hd _)]
  simp
 | k+1,i,n,h=>by
  have hi:i<l.length:=by omega
  have hdr:l.drop i=l.getD i d::l.drop (i+1):=by rw[P7 hi,Ab _ _ _ hi]
  rw[Ar (hn n i hi),IK l d wt out f hn hd k (i+1) _ (by omega),hdr,Cu,Vs,T8]
theorem HJ(a b:Int):w64 (w64 a+b)=w64 (a+b):=by
 show IntKind.i64.wrap (IntKind.i64.wrap a+b)=IntKind.i64.wrap (a+b)
 simp only[IntKind.wrap,IntKind.bits,IntKind.signed]
 simp
 split<;>split<;>omega
theorem getD_mem{α:Type}{l:List α}{i:Nat}{d:α}(h:i<l.length):l.getD i d∈l:=by rw[Ab _ _ _ h];exact DV h
theorem Aq{i n:Nat}(h:i<n):Bd (i:Int) n:=⟨by omega,by exact_mod_cast h⟩
theorem A4{i n:Nat}(h:i<n)(hn:n<9223372036854775808):w64 ((i:Int)+1)=(i:Int)+1:=Jr (by omega) (by omega)
def mt(l:List Int):Prop:=∀ x∈l,0<=x/\x<=2147483647
theorem F3{S X:Type}(f:S->Option (LR S X))(T:Nat->S)(x:X):∀(n:Nat),(∀ i,i<n->f (T i)=some (.next (T (i+1))))->f (T n)=some (.done x)->Ad f (T 0)=some x:=by
 suffices h:∀(k i n:Nat),i+k=n->(∀ j,i<=j->j<n->f (T j)=some (.next (T (j+1))))->f (T n)=some (.done x)->Ad f (T i)=some x from
  λn h1 h2=>h n 0 n (by omega) (λj _ hj=>h1 j hj) h2
 intro k
 induction k with
 | zero=>
  intro i n hi _ h2
  have hin:n=i:=by omega
  subst hin;exact Ah h2
 | succ k ih=>intro i n hi h1 h2;rw[Ar (h1 i (zzL7 _) (by omega))];exact ih (i+1) n (by omega) (λj hj hj'=>h1 j (by omega) hj') h2
theorem SZ{S X:Type}(f:S->Option (LR S X))(T:Nat->S):∀(n:Nat),(∀ i,i<n->f (T i)=some (.next (T (i+1))))->Ad f (T 0)=Ad f (T n):=by
 intro n
 induction n with
 | zero=>intro _;rfl
 | succ n ih=>intro h;rw[ih (λi hi=>h i (by omega)),Ar (h n (by omega))]
theorem Ij{S X:Type}(f:S->Option (LR S X))(T:Nat->S)(p:Nat->Bool)(yes no:X)(n:Nat)(hn:∀ i,i<n->p i=true->f (T i)=some (.next (T (i+1))))(hf:∀ i,i<n->p i=false->f (T i)=some (.done no))
  (he:f (T n)=some (.done yes)):Ad f (T 0)=some (bif (List.range n).all p then yes else no):=by
 cases hall:(List.range n).all p with
 | true=>
  rw[Ac];exact F3 f T yes n (λi hi=>hn i hi (zzL32.1 hall i (zzL44.2 hi))) he
 | false=>
  rw[Ao]
  have hex:∃ i,i<n/\p i=false:=by
   have:¬ ∀ i∈List.range n,p i=true:=λh=>by rw[zzL32.2 h]at hall;cases hall
   simpa using this
  let P:Nat->Prop:=λm=>m<n/\p m=false
  obtain⟨m,hm⟩:=hex
  have key:∀ m,m<n->p m=false->∃ k,k<n/\p k=false/\∀ j,j<k->p j=true:=by
   intro m
   induction m using Nat.strongRecOn with
   | ind m ih=>
    intro h1 h2
    by_cases h:∃ j,j<m/\p j=false
    ·obtain⟨j,hj,hpj⟩:=h;exact ih j hj (by omega) hpj
    ·refine⟨m,h1,h2,λj hj=>?_⟩
     cases hpj:p j with
     | true=>rfl
     | false=>exact(h ⟨j,hj,hpj⟩).elim
  obtain⟨k,hk,hpk,hlt⟩:=key m hm.1 hm.2;rw[SZ f T k (λi hi=>hn i (by omega) (hlt i hi))];exact Ah (hf k hk hpk)
theorem all_range{n:Nat}{p:Nat->Bool}:(List.range n).all p=true↔∀ i,i<n->p i=true:=by
 rw[zzL32];exact⟨λh i hi=>h i (zzL44.2 hi),λh i hi=>h i (zzL44.1 hi)⟩
theorem Ap(i:Nat):((i:Int)).toNat=i:=Ej i
theorem w1{i:Nat}(h:i<4611686018427387904):w64 ((i:Int)+1)=((i+1:Nat):Int):=by rw[Jr (by omega) (by omega)];omega
theorem C5{i n:Nat}(h:i<n):decide (((i:Nat):Int)<((n:Nat):Int))=true:=by simpa using h
theorem Fe{n:Nat}:decide (((n:Nat):Int)<((n:Nat):Int))=false:=by simp
theorem Er{i n:Nat}(h:i<n):Bd ((i:Nat):Int) n:=Aq h
theorem wN{x:Int}{n:Nat}(h0:0<=x)(h1:x<n):Bd x n:=⟨h0,h1⟩
structure ZY(o:Cn):Prop where
 imm:0<=o.Imm/\o.Imm<18446744073709551616
 args:o.Args.length<=200
theorem fJ(x:Int×Int)(n:Int)(h:n=2\/n=4\/n=8\/n=16):Cp [x] n=some (List.replicate n.toNat x):=by
 let d:Int×Int:=(0,0)
 rcases h with rfl|rfl|rfl|rfl
 ·have e:Cp [x] 2=(Ad Dq (1,[x,d])).bind some:=by kernel_rfl
  rw[e,Ar (s':=(2,[x,x])) (by kernel_rfl),Ah (x:=[x,x]) (by kernel_rfl)]
  rfl
 ·have e:Cp [x] 4=(Ad Dq (1,[x,d,d,d])).bind some:=by kernel_rfl
  rw[e,Ar (s':=(2,[x,x,d,d])) (by kernel_rfl),Ar (s':=(4,[x,x,x,x])) (by kernel_rfl),Ah (x:=[x,x,x,x]) (by kernel_rfl)]
  rfl
 ·have e:Cp [x] 8=(Ad Dq (1,[x,d,d,d,d,d,d,d])).bind some:=by kernel_rfl
  rw[e,Ar (s':=(2,[x,x,d,d,d,d,d,d])) (by kernel_rfl),Ar (s':=(4,[x,x,x,x,d,d,d,d])) (by kernel_rfl),Ar (s':=(8,[x,x,x,x,x,x,x,x])) (by kernel_rfl),
   Ah (x:=[x,x,x,x,x,x,x,x]) (by kernel_rfl)]
  rfl
 ·have e:Cp [x] 16=(Ad Dq (1,[x,d,d,d,d,d,d,d,d,d,d,d,d,d,d,d])).bind some:=by kernel_rfl
  rw[e,Ar (s':=(2,[x,x,d,d,d,d,d,d,d,d,d,d,d,d,d,d])) (by kernel_rfl),Ar (s':=(4,[x,x,x,x,d,d,d,d,d,d,d,d,d,d,d,d])) (by kernel_rfl),
   Ar (s':=(8,[x,x,x,x,x,x,x,x,d,d,d,d,d,d,d,d])) (by kernel_rfl),Ar (s':=(16,List.replicate 16 x)) (by kernel_rfl),Ah (x:=List.replicate 16 x) (by kernel_rfl)]
  rfl
theorem m8(l:List (Int×Int)):Iz l=some l:=rfl
theorem OR(o:Cn)(hs:W5 o.Bits o.Lanes=true)(hk:hY o.Kind=true)(hf:sfitS o.Kind o.Bits o.Lanes=true):P0 o=some (Rf o):=by
 have hl:=R0 hs;obtain⟨k,b,n,d,args,i⟩:=o;simp only at hs hk hf hl ⊢;rcases kinds k with rfl|rfl|rfl|rfl|rfl|rfl|rfl|rfl|rfl|rfl|rfl|rfl|rfl|rfl|rfl|rfl|rfl|rfl|rfl|rfl|rfl|rfl|rfl|h
 case inr.inr.inr.inr.inr.inr.inr.inr.inr.inr.inr.inr.inr.inr.inr.inr.inr.inr.inr.inr.inr.inl=>
  have h1:n≠1:=by rintro rfl;simp[sfitS]at hf
  have h4:n=2\/n=4\/n=8\/n=16:=by omega
  unfold P0;rw[show(((21:Int))==21)=true from rfl];simp only[fJ _ _ h4,m8,Ai];rcases h4 with rfl|rfl|rfl|rfl<;>rfl
 all_goals first
  | rfl
  | (rw[GC h]at hk;cases hk)
  | (rcases hl with rfl|rfl|rfl|rfl|rfl<;>first|rfl|(simp[sfitS]at hf))
theorem XY(o:Cn)(hs:W5 o.Bits o.Lanes=true)(hk:hY o.Kind=true)(hf:sfitS o.Kind o.Bits o.Lanes=true)(hl:o.Args.length<=200):Pw o=some (((o.Args.length:Int)==N0 o.Kind o.Lanes)&&o.Args.all valS):=by
 unfold Pw;rw[OR o hs hk hf]
 have hn:0<=N0 o.Kind o.Lanes:=by
  have:=R0 hs;unfold N0
  cases(o.Kind==0)<;>cases(o.Kind==13 || o.Kind==18 || o.Kind==19)<;>cases(o.Kind==14 || o.Kind==15 || o.Kind==16 || o.Kind==22)<;>cases(o.Kind==20)<;>cases(o.Kind==21)<;>simp<;>omega
 have hlen:((Rf o).length:Int)=N0 o.Kind o.Lanes:=by simp[Rf];omega
 simp only[Ai,hlen]
 by_cases he:(o.Args.length:Int)=N0 o.Kind o.Lanes
 ·have e1:((o.Args.length:Int)==N0 o.Kind o.Lanes)=true:=by simpa using he
  have e2:((o.Args.length:Int)!=N0 o.Kind o.Lanes)=false:=by simpa using he
  rw[e1,e2,Ao]
  have hloop:=Hh o.Args (0:Int) valS (Ko o) (.inl ()) (.inr false) (λi hi hp=>by
    unfold Ko
    have:decide ((i:Int)<(o.Args.length:Int))=true:=by simpa using hi
    simp only[this,Ac,Ae (Aq hi),Ej,W4,Ai,hp,Ds,Ao,A4 hi (by omega)]) (λi hi hp=>by
    unfold Ko
    have:decide ((i:Int)<(o.Args.length:Int))=true:=by simpa using hi
    simp only[this,Ac,Ae (Aq hi),Ej,W4,Ai,hp,Mt]) (by
    unfold Ko
    simp) o.Args.length 0 (by omega)
  rw[show(0:Int)=((0:Nat):Int) from rfl,hloop,Hw]
  cases o.Args.all valS<;>rfl
 ·have e1:((o.Args.length:Int)==N0 o.Kind o.Lanes)=false:=by simpa using he
  have e2:((o.Args.length:Int)!=N0 o.Kind o.Lanes)=true:=by simpa using he
  rw[e1,e2];rfl
theorem OJ{k b n:Int}(hs:W5 b n=true):((O2 k b n).1==0)=(k==17 || k==19):=by
 have hb:(b==0)=false:=by
  have:=width_cases (U2 hs);simp;omega
 unfold O2
 cases(k==17 || k==19)<;>cases(k==10 || k==11 || k==12)<;>cases(k==22)<;>simp_all
theorem XZ(o:Cn)(hs:W5 o.Bits o.Lanes=true):Px o=some (dstS o.Kind o.Dst):=by
 unfold Px;simp only[OP,Ai,OJ hs,W4,dstS]
 cases(o.Kind==17 || o.Kind==19)<;>rfl
theorem OO(o:Cn)(ho:ZY o):Qz o=some (K7 o):=by
 unfold Qz K7;simp only[bf,eU,OQ,Ai]
 cases hs:W5 o.Bits o.Lanes with
 | false=>cases hY o.Kind<;>rfl
 | true=>
  have hl:=R0 hs
  cases hk:hY o.Kind with
  | false=>rfl
  | true=>
   rw[YA o (U2 hs) (by omega) ho.imm];simp only[XZ o hs]
   cases hf:sfitS o.Kind o.Bits o.Lanes with
   | false=>rfl
   | true=>
    rw[XY o hs hk hf ho.args]
    generalize ifitS o.Kind o.Bits o.Lanes o.Imm=p
    generalize ((o.Args.length:Int)==N0 o.Kind o.Lanes)=q
    generalize o.Args.all valS=r
    generalize dstS o.Kind o.Dst=s
    cases p<;>cases q<;>cases r<;>cases s<;>rfl
theorem nr(o:Cn):Kp o=some (bif hY o.Kind then N0 o.Kind o.Lanes else -1):=by
 obtain⟨k,b,n,d,args,i⟩:=o;rcases kinds k with rfl|rfl|rfl|rfl|rfl|rfl|rfl|rfl|rfl|rfl|rfl|rfl|rfl|rfl|rfl|rfl|rfl|rfl|rfl|rfl|rfl|rfl|rfl|h
 any_goals rfl
 unfold Kp;simp[e9 h,GC h]
theorem YV(o:Cn)(ho:ZY o):G4 o=some (K7 o):=by
 unfold G4 K7;simp only[kM,Ai]
 cases hs:W5 o.Bits o.Lanes with
 | false=>rfl
 | true=>
  simp only[nr,Ds,Ss,Ac,Ao,Ai]
  cases hk:hY o.Kind with
  | false=>
   have:((-1:Int)!=(o.Args.length:Int))=true:=by simp
   simp[this]
  | true=>
   simp only[Ac];rw[nt o hs hk ho.imm]
   by_cases he:(o.Args.length:Int)=N0 o.Kind o.Lanes
   ·have e1:((o.Args.length:Int)==N0 o.Kind o.Lanes)=true:=by simpa using he
    have e2:(N0 o.Kind o.Lanes !=(o.Args.length:Int))=false:=by simpa using he.symm
    rw[e1,e2]
    have hloop:=Hh o.Args (0:Int) valS (Gs o) (.inl ()) (.inr false) (λi hi hp=>by
      unfold Gs
      have:decide ((i:Int)<(o.Args.length:Int))=true:=by simpa using hi
      simp only[this,Ac,Ae (Aq hi),Ej,CI,Ai,hp,Ds,Ao,A4 hi (by have:=ho.args;omega)]) (λi hi hp=>by
      unfold Gs
      have:decide ((i:Int)<(o.Args.length:Int))=true:=by simpa using hi
      simp only[this,Ac,Ae (Aq hi),Ej,CI,Ai,hp,Mt]) (by
      unfold Gs
      simp) o.Args.length 0 (by omega)
    rw[show(0:Int)=((0:Nat):Int) from rfl,hloop,Hw];simp only[CI,Ai,dstS]
    generalize sfitS o.Kind o.Bits o.Lanes=p
    generalize ifitS o.Kind o.Bits o.Lanes o.Imm=q
    generalize o.Args.all valS=r
    cases p<;>cases q<;>cases r<;>cases(o.Kind==17)<;>cases(o.Kind==19)<;>rfl
   ·have e1:((o.Args.length:Int)==N0 o.Kind o.Lanes)=false:=by simpa using he
    have e2:(N0 o.Kind o.Lanes !=(o.Args.length:Int))=true:=by simpa using Ne.symm he
    rw[e1,e2]
    cases sfitS o.Kind o.Bits o.Lanes<;>cases ifitS o.Kind o.Bits o.Lanes o.Imm<;>rfl
theorem CB{o:Cn}(h:K7 o=true):W5 o.Bits o.Lanes=true/\hY o.Kind=true/\sfitS o.Kind o.Bits o.Lanes=true/\ifitS o.Kind o.Bits o.Lanes o.Imm=true/\(o.Args.length:Int)=N0 o.Kind o.Lanes/\o.Args.all valS=true/\dstS o.Kind o.Dst=true:=by
 simp only[K7,Bc,zzL71]at h;exact⟨h.1.1,h.1.2.1.1.1,h.1.2.1.1.2,h.1.2.1.2,h.1.2.2,h.2.1,h.2.2⟩
theorem eV(o:Cn)(ho:ZY o):Pv o=some (bif K7 o then Rf o else[]):=by
 unfold Pv;rw[OO o ho];simp only[Ai]
 cases hm:K7 o with
 | false=>rfl
 | true=>
  obtain⟨h1,h2,h3,_⟩:=CB hm;simp only[OR o h1 h2 h3,Ai]
  rfl
theorem eT(o:Cn)(ho:ZY o):Pu o=some (bif K7 o then O2 o.Kind o.Bits o.Lanes else(0,0)):=by
 unfold Pu;rw[OO o ho];simp only[Ai,OP]
 cases K7 o<;>rfl
theorem kL(o:Cn)(ho:ZY o):Hj o=some (bif K7 o then O2 o.Kind o.Bits o.Lanes else(0,0)):=by
 unfold Hj;rw[YV o ho];simp only[Ai]
 cases hm:K7 o with
 | false=>rfl
 | true=>
  obtain⟨_,h2,_⟩:=CB hm;obtain⟨k,b,n,d,args,i⟩:=o;simp only at h2 ⊢;rcases kinds k with rfl|rfl|rfl|rfl|rfl|rfl|rfl|rfl|rfl|rfl|rfl|rfl|rfl|rfl|rfl|rfl|rfl|rfl|rfl|rfl|rfl|rfl|rfl|h
  any_goals rfl
  rw[GC h]at h2;cases h2
theorem kN(o:Cn)(ho:ZY o):Hk o=some (bif K7 o then Rf o else[]):=by
 unfold Hk;rw[YV o ho];simp only[Ai]
 cases hm:K7 o with
 | false=>rfl
 | true=>
  obtain⟨h1,h2,h3,h4,h5,_⟩:=CB hm
  have hloop:=OU (X:=List (Int×Int)) o.Args.length (DC o) (H3 o) id (λl i hi hl=>by
   unfold H3
   have e0:decide ((i:Int)<(o.Args.length:Int))=true:=by simpa using hi
   have e1:((i:Int)==0)=Nat.beq i 0:=by cases i<;>rfl
   have e2:((i:Int)==1)=Nat.beq i 1:=by
    rcases i with _|_|i
    ·rfl
    ·rfl
    ·have:¬ (((i+1+1:Nat):Int)=1):=by omega
     simp only[Nat.beq]
     simpa using this
   have hr:l.length+([DC o i]:List (Int×Int)).length<=room:=by have:=ho.args;simp[room];omega
   simp only[e0,e1,e2,Ac];have e3:w64 ((i:Int)+1)=(i:Int)+1:=A4 hi (by have:=ho.args;omega);simp only[e3]
   have key:∀(x:Option (Int×Int)),x=some (DC o i)->(x.bind λx23=>Bf (l.length+([(x23.1,x23.2)]:List (Int×Int)).length<=room) (some (LR.next (l++([(x23.1,x23.2)]:List (Int×Int)),(i:Int)+1))))=(some (LR.next (l++[DC o i],(i:Int)+1)):Option (LR (List (Int×Int)×Int) (List (Int×Int)))):=by
    rintro x rfl;exact Ae hr
   refine key _ ?_;clear key hr;obtain⟨k,b,n,d,args,im⟩:=o;simp only at h2 ⊢;rcases kinds k with rfl|rfl|rfl|rfl|rfl|rfl|rfl|rfl|rfl|rfl|rfl|rfl|rfl|rfl|rfl|rfl|rfl|rfl|rfl|rfl|rfl|rfl|rfl|h
   all_goals first
    | rfl
    | (rw[GC h]at h2;cases h2)
    | (rcases i with _|_|i<;>rfl)) (λl hl=>by
   unfold H3
   simp) o.Args.length 0 [] (by omega) rfl
  rw[show(0:Int)=((0:Nat):Int) from rfl];simp only[Ds,Ao,hloop,Ai,id];rw[Rf,<- h5]
  rfl
def numB(n:Int):Bool:=decide (0<=n)&&decide (n<=2147483647)
def listB(l:List Int):Bool:=l.all numB&&decide (l.length<=64)
def GU(p:Ig):Bool:=numB p.Bits&&numB p.Dst&&listB p.From&&listB p.Args
def et(o:Cn):Bool:=numB o.Kind&&numB o.Bits&&numB o.Lanes&&numB o.Dst&&listB o.Args
def eK(e:N6):Bool:=numB e.Kind&&numB e.Arg&&listB e.To
def blockB(b:An):Bool:=b.Phis.all GU&&b.Ops.all et&&eK b.End
def sizeB(b:An):Nat:=b.Phis.length+b.Ops.length+1
def U3(f:TFunc):Nat:=(f.Blocks.map sizeB).sum
def sizeW(f:TFunc):Int:=w64 (U3 f)
def Vf(f:TFunc):Bool:=decide (1<=f.Blocks.length)&&decide (f.Blocks.length<=64)&&decide (f.Params.length<=16)&&listB f.Params&&numB f.Ret&&decide (sizeW f<=512)&&f.Blocks.all blockB
def jl(p:Ig):Nat:=1+p.From.length+p.Args.length
def XT(o:Cn):Nat:=1+o.Args.length
def jj(b:An):Nat:=1+b.End.To.length+(b.Phis.map jl).sum+(b.Ops.map XT).sum
def jk(f:TFunc):Nat:=f.Params.length+(f.Blocks.map jj).sum
theorem Lm:maxLen=9223372036854775807:=rfl
structure dZ(f:TFunc):Prop where
 params:f.Params.length<=maxLen
 blocks:f.Blocks.length<=maxLen
 block:∀ b∈f.Blocks,b.Phis.length<=maxLen/\b.Ops.length<=maxLen/\b.End.To.length<=maxLen
 phi:∀ b∈f.Blocks,∀ p∈b.Phis,p.From.length<=maxLen/\p.Args.length<=maxLen
 op:∀ b∈f.Blocks,∀ o∈b.Ops,o.Args.length<=maxLen/\0<=o.Imm/\o.Imm<18446744073709551616
theorem inF{f:TFunc}(h:okTFunc f):dZ f:=
 ⟨h.1.2,h.2.2.1.2,λb hb=>⟨(h.2.2.1.1 b hb).1.2,(h.2.2.1.1 b hb).2.1.2,(h.2.2.1.1 b hb).2.2.1.2.2.1.2⟩,λb hb p hp=>⟨((h.2.2.1.1 b hb).1.1 p hp).2.2.1.2,((h.2.2.1.1 b hb).1.1 p hp).2.2.2.1.2⟩,
  λb hb o ho=>⟨((h.2.2.1.1 b hb).2.1.1 o ho).2.2.2.2.1.2,uh ((h.2.2.1.1 b hb).2.1.1 o ho).2.2.2.2.2.1⟩⟩
theorem NE{n:Nat}(h:n<9223372036854775808):w64 (n:Int)=n:=Jr (by omega) (by omega)
theorem Ls{i n:Nat}(h:i<n)(hn:n<=maxLen):w64 ((i:Int)+1)=((i+1:Nat):Int):=by rw[Lm]at hn;rw[show((i:Int)+1)=((i+1:Nat):Int) by omega,NE (by omega)]
theorem QN(f:TFunc)(hf:dZ f):∃ b,Di f=some b:=by
 have h3:∃ x,Ad (Cr f) ((f.Params.length:Int),((0:Nat):Int))=some x:=by
  refine Ti f.Blocks.length (Cr f) (λn i hi=>?_) (λn=>?_) f.Blocks.length 0 _ (G8 _)
  ·have hmem:=getD_mem (d:=(default:An)) hi;obtain⟨b1,b2,_⟩:=hf.block _ hmem;have hI:Bd (i:Int) f.Blocks.length:=Aq hi;unfold Cr
   cases hc:(bif decide ((i:Int)<(f.Blocks.length:Int)) then decide (n<=20000) else false) with
   | false=>right;simp only[hc,Ao];exact⟨_,rfl⟩
   | true=>
    left
    simp only[hc,Ac,Ae hI]
    obtain⟨x1,h1⟩:=Ti (f.Blocks.getD i default).Phis.length (Dd f i) (λn j hj=>by
      unfold Dd;simp only[Ae hI,Ej]
      cases hc:(bif decide ((j:Int)<((f.Blocks.getD i default).Phis.length:Int)) then decide (n<=20000) else false) with
      | false=>right;exact⟨_,rfl⟩
      | true=>left;simp only[Ac,Ae (Aq hj),Ls hj b1];exact⟨_,rfl⟩) (λn=>by
      unfold Dd;simp only[Ae hI,Ej]
      have:decide (((f.Blocks.getD i default).Phis.length:Int)<((f.Blocks.getD i default).Phis.length:Int))=false:=by simp
      simp only[this,Ao];exact⟨_,rfl⟩) _ 0 (w64 (w64 (n+1)+((f.Blocks.getD i default).End.To.length:Int))) (G8 _)
    obtain⟨x2,h2⟩:=Ti (f.Blocks.getD i default).Ops.length (De f i) (λn j hj=>by
      unfold De;simp only[Ae hI,Ej]
      cases hc:(bif decide ((j:Int)<((f.Blocks.getD i default).Ops.length:Int)) then decide (n<=20000) else false) with
      | false=>right;exact⟨_,rfl⟩
      | true=>left;simp only[Ac,Ae (Aq hj),Ls hj b2];exact⟨_,rfl⟩) (λn=>by
      unfold De;simp only[Ae hI,Ej]
      have:decide (((f.Blocks.getD i default).Ops.length:Int)<((f.Blocks.getD i default).Ops.length:Int))=false:=by simp
      simp only[this,Ao];exact⟨_,rfl⟩) _ 0 x1 (G8 _)
    rw[show((0:Nat):Int)=0 from rfl]at h1 h2;simp only[Ej,h1,h2,Ai,Ls hi hf.blocks];exact⟨_,rfl⟩
  ·unfold Cr
   have:decide ((f.Blocks.length:Int)<(f.Blocks.length:Int))=false:=by simp
   simp only[this,Ao];exact⟨_,rfl⟩
 obtain⟨x,hx⟩:=h3;unfold Di;rw[show((0:Nat):Int)=0 from rfl]at hx;rw[hx];exact⟨_,rfl⟩
theorem cp(f:TFunc)(hf:dZ f)(h0:f.Params.length<=64)(hb:∀ b∈f.Blocks,b.End.To.length<=64/\(∀ p∈b.Phis,p.From.length<=64/\p.Args.length<=64)/\∀ o∈b.Ops,o.Args.length<=64):Di f=some (decide (jk f<=20000)):=by
 have h3:=GH f.Blocks (default:An) jj 20000 (Cr f) (λn i hi hn=>by
   have hmem:=getD_mem (d:=(default:An)) hi;obtain⟨b1,b2,b3⟩:=hf.block _ hmem;obtain⟨hTo,hPh,hOp⟩:=hb _ hmem;have hI1:Bd (i:Int) f.Blocks.length:=Aq hi
   have l1:=GH (f.Blocks.getD i default).Phis (default:Ig) jl 20000 (Dd f i) (λn j hj hn=>by
     have hm:=getD_mem (d:=(default:Ig)) hj;obtain⟨p1,p2⟩:=hPh _ hm
     have e1:decide ((j:Int)<((f.Blocks.getD i default).Phis.length:Int))=true:=by simpa using hj
     have e2:decide ((n:Int)<=20000)=true:=by simp;omega
     refine⟨n+jl ((f.Blocks.getD i default).Phis.getD j default),?_,λ_=>rfl,λh=>h⟩;unfold Dd;simp only[Ae hI1,Ej,e1,e2,Ac,Ae (Aq hj),Ls hj b1]
     congr 3
     rw[Jr (n:=(n:Int)+1) (by omega) (by omega),Jr (n:=(n:Int)+1+_) (by omega) (by omega),Jr (by omega) (by omega)];simp only[jl]
     omega) (λn j hj hd=>by
     unfold Dd;simp only[Ae hI1,Ej]
     have:(bif decide ((j:Int)<((f.Blocks.getD i default).Phis.length:Int)) then decide ((n:Int)<=20000) else false)=false:=by
      rcases hd with rfl|h
      ·simp
      ·simp;omega
     rw[this];rfl)
   have l2:=GH (f.Blocks.getD i default).Ops (default:Cn) XT 20000 (De f i) (λn j hj hn=>by
     have hm:=getD_mem (d:=(default:Cn)) hj;have p1:=hOp _ hm
     have e1:decide ((j:Int)<((f.Blocks.getD i default).Ops.length:Int))=true:=by simpa using hj
     have e2:decide ((n:Int)<=20000)=true:=by simp;omega
     refine⟨n+XT ((f.Blocks.getD i default).Ops.getD j default),?_,λ_=>rfl,λh=>h⟩;unfold De;simp only[Ae hI1,Ej,e1,e2,Ac,Ae (Aq hj),Ls hj b2]
     congr 3
     rw[Jr (n:=(n:Int)+1) (by omega) (by omega),Jr (by omega) (by omega)];simp only[XT]
     omega) (λn j hj hd=>by
     unfold De;simp only[Ae hI1,Ej]
     have:(bif decide ((j:Int)<((f.Blocks.getD i default).Ops.length:Int)) then decide ((n:Int)<=20000) else false)=false:=by
      rcases hd with rfl|h
      ·simp
      ·simp;omega
     rw[this];rfl)
   have e1:decide ((i:Int)<(f.Blocks.length:Int))=true:=by simpa using hi
   have e2:decide ((n:Int)<=20000)=true:=by simp;omega
   obtain⟨m1,q1,q2,q3⟩:=l1 _ 0 (n+1+(f.Blocks.getD i default).End.To.length) (G8 _);obtain⟨m2,q4,q5,q6⟩:=l2 _ 0 m1 (G8 _);rw[Hw]at q2 q3 q5 q6;refine⟨m2,?_,λhle=>?_,λhle=>?_⟩
   ·unfold Cr;simp only[e1,e2,Ac,Ae hI1,Ej,Ls hi hf.blocks];rw[Jr (n:=(n:Int)+1) (by omega) (by omega),Jr (by omega) (by omega),show(n:Int)+1+((f.Blocks.getD i default).End.To.length:Int)=((n+1+(f.Blocks.getD i default).End.To.length:Nat):Int) by omega];rw[show((0:Nat):Int)=0 from rfl]at q1 q4;rw[q1,Ai,q4,Ai]
   ·simp only[jj]at hle ⊢;have:=q2 (by omega);rw[q5 (by omega)];omega
   ·simp only[jj];have h6:=q6 hle;have h3:=q3 (by omega);have:=q2 h3
    omega) (λn i hi hd=>by
   unfold Cr
   have:(bif decide ((i:Int)<(f.Blocks.length:Int)) then decide ((n:Int)<=20000) else false)=false:=by
    rcases hd with rfl|h
    ·simp
    ·simp;omega
   simp only[this,Ao]) f.Blocks.length 0 f.Params.length (G8 _)
 obtain⟨m,h1,h2,h4⟩:=h3;rw[Hw]at h2 h4;unfold Di;rw[show((0:Nat):Int)=0 from rfl]at h1;rw[h1,Ai]
 congr 1
 apply zzL60.2
 simp only[jk]
 constructor
 ·intro h;exact h4 (by omega)
 ·intro h;have:=h2 h;omega
theorem Uz(n:Int):Bv n=some (numB n):=by unfold Bv numB;cases decide ((0:Int)<=n)<;>rfl
theorem Rx(l:List Int)(h:l.length<=maxLen):Dx l=some (listB l):=by
 unfold Dx;rw[Lm]at h
 have hloop:=Hh l (0:Int) numB (F6 l) (.inl ()) (.inr false) (λi hi hp=>by
   unfold F6
   have:decide ((i:Int)<(l.length:Int))=true:=by simpa using hi
   simp only[this,Ac,Ae (Aq hi),Ej,Uz,Ai,hp,Ds,Ao,A4 hi (by omega)]) (λi hi hp=>by
   unfold F6
   have:decide ((i:Int)<(l.length:Int))=true:=by simpa using hi
   simp only[this,Ac,Ae (Aq hi),Ej,Uz,Ai,hp,Mt]) (by
   unfold F6
   simp) l.length 0 (by omega)
 rw[show(0:Int)=((0:Nat):Int) from rfl,hloop,Hw];unfold listB
 have e:decide ((l.length:Int)<=64)=decide (l.length<=64):=by apply zzL60.2;omega
 cases l.all numB
 ·rfl
 ·simp[e]
theorem n7(f:TFunc)(hf:dZ f):Kq f=some (sizeW f):=by
 unfold Kq
 have hl:=IK f.Blocks (default:An) sizeB id (Iq f) (λn i hi=>by
   have e1:decide ((i:Int)<(f.Blocks.length:Int))=true:=by simpa using hi
   unfold Iq;simp only[e1,Ac,Ae (Aq hi),Ej,Ls hi hf.blocks]
   congr 3
   rw[HJ,HJ,Int.add_assoc (w64 _),HJ];unfold sizeB
   congr 1
   omega) (λn=>by
   unfold Iq
   simp) f.Blocks.length 0 0 (G8 _)
 rw[Hw]at hl;rw[show w64 ((0:Nat):Int)=0 from rfl,show((0:Nat):Int)=0 from rfl]at hl;rw[hl];simp[U3,sizeW]
theorem ri(f:TFunc)(hf:dZ f):I6 f=some (Vf f):=by
 have hloop:Ad (Fc f) ((0:Nat):Int)=some (bif (f.Blocks.drop 0).all blockB then .inl () else .inr false):=by
  have step:∀ i:Nat,i<f.Blocks.length->Fc f (i:Int)=bif blockB (f.Blocks.getD i default) then some (.next ((i:Int)+1)) else some (.done (.inr false)):=λi hi=>by
   have hmem:=getD_mem (d:=(default:An)) hi;obtain⟨b1,b2,b3⟩:=hf.block _ hmem;have hPh:=hf.phi _ hmem;have hOp:=hf.op _ hmem;have hM:=Lm
   have e0:decide ((i:Int)<(f.Blocks.length:Int))=true:=by simpa using hi
   have l1:=Hh (f.Blocks.getD i default).Phis (default:Ig) GU (Gt f i) (.inl ()) (.inr false) (λj hj hp=>by
     obtain⟨p1,p2⟩:=hPh _ (getD_mem (d:=(default:Ig)) hj)
     have e1:decide ((j:Int)<((f.Blocks.getD i default).Phis.length:Int))=true:=by simpa using hj
     unfold Gt;simp only[e1,Ac,Ej,Ae (Aq hj),Uz,Ai,Rx _ p1,Rx _ p2,A4 hj (by omega)]
     revert hp
     unfold GU
     cases numB ((f.Blocks.getD i default).Phis.getD j default).Bits<;>cases numB ((f.Blocks.getD i default).Phis.getD j default).Dst<;>cases listB ((f.Blocks.getD i default).Phis.getD j default).From<;>cases listB ((f.Blocks.getD i default).Phis.getD j default).Args<;>simp) (λj hj hp=>by
     obtain⟨p1,p2⟩:=hPh _ (getD_mem (d:=(default:Ig)) hj)
     have e1:decide ((j:Int)<((f.Blocks.getD i default).Phis.length:Int))=true:=by simpa using hj
     unfold Gt;simp only[e1,Ac,Ej,Ae (Aq hj),Uz,Ai,Rx _ p1,Rx _ p2,A4 hj (by omega)]
     revert hp
     unfold GU
     cases numB ((f.Blocks.getD i default).Phis.getD j default).Bits<;>cases numB ((f.Blocks.getD i default).Phis.getD j default).Dst<;>cases listB ((f.Blocks.getD i default).Phis.getD j default).From<;>cases listB ((f.Blocks.getD i default).Phis.getD j default).Args<;>simp) (by
     unfold Gt
     simp) _ 0 (G8 _)
   have l2:=Hh (f.Blocks.getD i default).Ops (default:Cn) et (Gu f i) (.inl ()) (.inr false) (λj hj hp=>by
     obtain⟨p1,_⟩:=hOp _ (getD_mem (d:=(default:Cn)) hj)
     have e1:decide ((j:Int)<((f.Blocks.getD i default).Ops.length:Int))=true:=by simpa using hj
     unfold Gu;simp only[e1,Ac,Ej,Ae (Aq hj),Uz,Ai,Rx _ p1,A4 hj (by omega)]
     revert hp
     unfold et
     cases numB ((f.Blocks.getD i default).Ops.getD j default).Kind<;>cases numB ((f.Blocks.getD i default).Ops.getD j default).Bits<;>cases numB ((f.Blocks.getD i default).Ops.getD j default).Lanes<;>cases numB ((f.Blocks.getD i default).Ops.getD j default).Dst<;>cases listB ((f.Blocks.getD i default).Ops.getD j default).Args<;>simp) (λj hj hp=>by
     obtain⟨p1,_⟩:=hOp _ (getD_mem (d:=(default:Cn)) hj)
     have e1:decide ((j:Int)<((f.Blocks.getD i default).Ops.length:Int))=true:=by simpa using hj
     unfold Gu;simp only[e1,Ac,Ej,Ae (Aq hj),Uz,Ai,Rx _ p1,A4 hj (by omega)]
     revert hp
     unfold et
     cases numB ((f.Blocks.getD i default).Ops.getD j default).Kind<;>cases numB ((f.Blocks.getD i default).Ops.getD j default).Bits<;>cases numB ((f.Blocks.getD i default).Ops.getD j default).Lanes<;>cases numB ((f.Blocks.getD i default).Ops.getD j default).Dst<;>cases listB ((f.Blocks.getD i default).Ops.getD j default).Args<;>simp) (by
     unfold Gu
     simp) _ 0 (G8 _)
   rw[show((0:Nat):Int)=0 from rfl,Hw]at l1 l2;unfold Fc;simp only[e0,Ac,Ae (Aq hi),l1,Ai];unfold blockB
   cases(f.Blocks.getD i default).Phis.all GU with
   | false=>rfl
   | true=>
    simp only[Ac,l2,Ai,Ej,Uz,Rx _ b3,A4 hi (by have:=hf.blocks;omega)]
    cases(f.Blocks.getD i default).Ops.all et with
    | false=>rfl
    | true=>
     unfold eK
     cases numB (f.Blocks.getD i default).End.Kind<;>cases numB (f.Blocks.getD i default).End.Arg<;>cases listB (f.Blocks.getD i default).End.To<;>rfl
  exact Hh f.Blocks (default:An) blockB (Fc f) (.inl ()) (.inr false) (λi hi hp=>by rw[step i hi,hp];rfl) (λi hi hp=>by rw[step i hi,hp];rfl) (by
   unfold Fc
   simp) _ 0 (G8 _)
 rw[show((0:Nat):Int)=0 from rfl,Hw]at hloop;unfold I6 Vf;simp only[Rx _ hf.params,Uz,n7 f hf,hloop]
 have e1:((f.Blocks.length:Int)==0) = !decide (1<=f.Blocks.length):=by
  rw[<- decide_not]
  by_cases h:f.Blocks.length=0
  ·simp[h]
  ·have h1:((f.Blocks.length:Int)==0)=false:=by simpa using h
   rw[h1];symm;apply Cm;omega
 have e2:decide ((64:Int)<(f.Blocks.length:Int)) = !decide (f.Blocks.length<=64):=by rw[<- decide_not];apply zzL60.2;omega
 have e3:decide ((16:Int)<(f.Params.length:Int)) = !decide (f.Params.length<=16):=by rw[<- decide_not];apply zzL60.2;omega
 have e4:decide ((512:Int)<sizeW f) = !decide (sizeW f<=512):=by rw[<- decide_not];apply zzL60.2;omega
 rw[e1,e2,e3]
 generalize decide (1<=f.Blocks.length)=p1
 generalize decide (f.Blocks.length<=64)=p2
 generalize decide (f.Params.length<=16)=p3
 generalize listB f.Params=p4
 generalize numB f.Ret=p5
 cases p1 with
 | false=>simp
 | true=>cases p2 with
  | false=>simp
  | true=>cases p3 with
   | false=>simp
   | true=>cases p4 with
    | false=>simp
    | true=>cases p5 with
     | false=>simp
     | true=>
      simp only[Ds,Bool.or_self,Ac,Ao,Ss,Ai,e4]
      cases decide (sizeW f<=512) with
      | false=>simp
      | true=>cases f.Blocks.all blockB<;>simp
theorem nO{n:Int}:numB n=true↔0<=n/\n<=2147483647:=by simp[numB]
theorem listB_iff{l:List Int}:listB l=true↔mt l/\l.length<=64:=by
 simp[listB,mt,nO]
def wu(n:Int):Prop:=0<=n/\n<18446744073709551616
structure zB(b:An):Prop where
 may:blockB b=true
 phis:b.Phis.length<=512
 ops:b.Ops.length<=512
 imm:∀ o∈b.Ops,wu o.Imm
structure OkF(f:TFunc):Prop where
 params:listB f.Params=true
 few:f.Params.length<=16
 ret:numB f.Ret=true
 blocks:f.Blocks.length<=64
 block:∀ b∈f.Blocks,zB b
theorem blockB_iff{b:An}:blockB b=true↔(∀ p∈b.Phis,GU p=true)/\(∀ o∈b.Ops,et o=true)/\eK b.End=true:=by
 simp[blockB,and_assoc]
theorem uf{α:Type}(l:List α)(g:α->Nat)(B:Nat)(h:∀ a∈l,g a<=B):(l.map g).sum<=l.length*B:=by
 induction l with
 | nil=>simp
 | cons a l ih=>
  have h1:=h a (by simp);have h2:=ih (λb hb=>h b (by simp[hb]));rw[Cu,Vs,U4,Fg];omega
theorem oC{α:Type}(l:List α)(g k:α->Nat)(h:∀ a∈l,g a<=k a):(l.map g).sum<=(l.map k).sum:=by
 induction l with
 | nil=>simp
 | cons a l ih=>
  have h1:=h a (by simp);have h2:=ih (λb hb=>h b (by simp[hb]));rw[Cu,Vs,Cu,Vs];omega
theorem OT{α:Type}(l:List α)(g:α->Nat)(h:∀ a∈l,1<=g a):l.length<=(l.map g).sum:=by
 induction l with
 | nil=>simp
 | cons a l ih=>
  have h1:=h a (by simp);have h2:=ih (λb hb=>h b (by simp[hb]));rw[Cu,Vs,U4];omega
theorem ee{α:Type}{l:List α}{a:α}(g:α->Nat)(h:a∈l):g a<=(l.map g).sum:=by
 induction l with
 | nil=>cases h
 | cons b l ih=>
  rw[Cu,Vs];rcases zzL26.1 h with rfl|h
  ·omega
  ·have:=ih h;omega
theorem OkF.size{f:TFunc}(h:OkF f):U3 f<=65600/\sizeW f=U3 f:=by
 have:U3 f<=f.Blocks.length*1025:=uf _ _ _ λb hb=>by
  have h1:=(h.block b hb).phis;have h2:=(h.block b hb).ops;simp only[sizeB];omega
 have h2:=h.blocks
 have h3:U3 f<=65600:=by omega
 exact⟨h3,NE (by omega)⟩
theorem IQ{f:TFunc}(h:Vf f=true):1<=f.Blocks.length/\f.Blocks.length<=64/\f.Params.length<=16/\listB f.Params=true/\numB f.Ret=true/\sizeW f<=512/\∀ b∈f.Blocks,blockB b=true:=by
 simp only[Vf,Bc,Ff,zzL32]at h;exact⟨h.1.1.1.1.1.1,h.1.1.1.1.1.2,h.1.1.1.1.2,h.1.1.1.2,h.1.1.2,h.1.2,h.2⟩
theorem j5{f:TFunc}(h:Vf f=true):f.Params.length<=64/\∀ b∈f.Blocks,b.End.To.length<=64/\(∀ p∈b.Phis,p.From.length<=64/\p.Args.length<=64)/\∀ o∈b.Ops,o.Args.length<=64:=by
 obtain⟨_,_,h3,_,_,_,h7⟩:=IQ h;refine⟨by omega,λb hb=>?_⟩;obtain⟨q1,q2,q3⟩:=blockB_iff.1 (h7 b hb);simp only[eK,Bc]at q3;refine⟨(listB_iff.1 q3.2).2,λp hp=>?_,λo ho=>?_⟩
 ·have:=q1 p hp;simp only[GU,Bc]at this;exact⟨(listB_iff.1 this.1.2).2,(listB_iff.1 this.2).2⟩
 ·have:=q2 o ho;simp only[et,Bc]at this;exact(listB_iff.1 this.2).2
theorem uP{f:TFunc}(hf:dZ f)(h:Vf f=true)(hs:jk f<=20000):OkF f/\U3 f<=512:=by
 obtain⟨h1,h2,h3,h4,h5,h6,h7⟩:=IQ h
 have hle:U3 f<=jk f:=by
  have:U3 f<=(f.Blocks.map jj).sum:=oC _ _ _ λb hb=>by
   have q1:b.Phis.length<=(b.Phis.map jl).sum:=OT _ _ λp hp=>by simp only[jl];omega
   have q2:b.Ops.length<=(b.Ops.map XT).sum:=OT _ _ λp hp=>by simp only[XT];omega
   simp only[sizeB,jj];omega
  simp only[jk];omega
 have hw:sizeW f=U3 f:=NE (by omega)
 have h512:U3 f<=512:=by omega
 refine⟨⟨h4,h3,h5,h2,λb hb=>?_⟩,h512⟩;have hb512:sizeB b<=U3 f:=ee sizeB hb;simp only[sizeB]at hb512;exact⟨h7 b hb,by omega,by omega,λo ho=>(hf.op b hb o ho).2⟩
theorem cq(f:TFunc)(hf:dZ f):∃ sm,Di f=some sm/\(sm=true->Vf f=true->OkF f/\U3 f<=512/\1<=f.Blocks.length):=by
 obtain⟨sm,h⟩:=QN f hf;refine⟨sm,h,λh1 h2=>?_⟩;obtain⟨q1,q2⟩:=j5 h2;rw[cp f hf q1 q2]at h;subst h1;obtain⟨r1,r2⟩:=uP hf h2 (by simpa using OI h);exact⟨r1,r2,(IQ h2).1⟩
def MU(l:Int):Int:=bif l==0 then 17 else bif l==1 then 20 else 22
def Nt(l:Int)(o:Cn):Bool:=K7 o&&!decide (MU l<o.Kind)&&!(decide (l<2)&&decide (1<o.Lanes))
def Hs(l:Int)(b:An):Bool:=(b.Phis.all λp=>widthB p.Bits)&&b.Ops.all (Nt l)
def T3(f:TFunc)(l:Int):Bool:=f.Params.all widthB&&f.Blocks.all (Hs l)&&widthB f.Ret
theorem rM{m a b c:Bool}{x:Int}:(bif (bif (bif (!m) then true else a) then true else(bif b then c else false)) then(some (LR.done (Sum.inr false))) else some (LR.next x):Option (LR Int (Unit ⊕ Bool)))=some (bif (m&&!a&&!(b&&c)) then .next x else .done (.inr false)):=by
 cases m<;>cases a<;>cases b<;>cases c<;>rfl
theorem kD{f:TFunc}(hf:OkF f){b:An}(hb:b∈f.Blocks){o:Cn}(ho:o∈b.Ops):ZY o:=by
 have h1:=hf.block b hb;have h2:=(blockB_iff.1 h1.may).2.1 o ho;simp only[et,Bc]at h2;exact⟨⟨(h1.imm o ho).1,(h1.imm o ho).2⟩,by have:=(listB_iff.1 h2.2).2;omega⟩
theorem qv{f:TFunc}(hf:OkF f)(l:Int):J5 f l=some (T3 f l):=by
 have hp:=Hh f.Params (0:Int) widthB (Fv f) (.inl ()) (.inr false) (λi hi hp=>by
   unfold Fv
   have:decide ((i:Int)<(f.Params.length:Int))=true:=by simpa using hi
   simp only[this,Ac,Ae (Aq hi),Ej,Rw,Ai,hp,Ds,Ao,A4 hi (by have:=hf.few;omega)]) (λi hi hp=>by
   unfold Fv
   have:decide ((i:Int)<(f.Params.length:Int))=true:=by simpa using hi
   simp only[this,Ac,Ae (Aq hi),Ej,Rw,Ai,hp,Mt]) (by
   unfold Fv;simp) f.Params.length 0 (by omega)
 have hb:=Hh f.Blocks (default:An) (Hs l) (Fx f l) (.inl ()) (.inr false)
 have hphi:∀ i:Nat,i<f.Blocks.length->Ad (Eg f (i:Int)) (0:Int)=some (bif ((f.Blocks.getD i default).Phis.all λp=>widthB p.Bits) then .inl () else .inr false):=λi hi=>by
  have hB:=hf.block _ (getD_mem (d:=(default:An)) hi)
  have:=Hh (f.Blocks.getD i default).Phis (default:Ig) (λp=>widthB p.Bits) (Eg f (i:Int)) (.inl ()) (.inr false) (λj hj hp=>by
   unfold Eg
   have:decide ((j:Int)<((f.Blocks.getD i default).Phis.length:Int))=true:=by simpa using hj
   simp only[Ae (Aq hi),Ej,this,Ac,Ae (Aq hj),Rw,Ai,hp,Ds,Ao,A4 hj (by have:=hB.phis;omega)]) (λj hj hp=>by
   unfold Eg
   have:decide ((j:Int)<((f.Blocks.getD i default).Phis.length:Int))=true:=by simpa using hj
   simp only[Ae (Aq hi),Ej,this,Ac,Ae (Aq hj),Rw,Ai,hp,Mt]) (by
   unfold Eg;simp[Ae (Aq hi)]) (f.Blocks.getD i default).Phis.length 0 (by omega)
  rw[show(0:Int)=((0:Nat):Int) from rfl,this,Hw]
 have hops:∀ i:Nat,i<f.Blocks.length->Ad (Eh f l (i:Int)) (0:Int)=some (bif (f.Blocks.getD i default).Ops.all (Nt l) then .inl () else .inr false):=λi hi=>by
  have hmem:=getD_mem (d:=(default:An)) hi;have hB:=hf.block _ hmem
  have key:∀(j:Nat),j<(f.Blocks.getD i default).Ops.length->Eh f l (i:Int) (j:Int)=some (bif Nt l ((f.Blocks.getD i default).Ops.getD j default) then .next ((j:Int)+1) else .done (.inr false)):=λj hj=>by
   unfold Eh
   have hd:decide ((j:Int)<((f.Blocks.getD i default).Ops.length:Int))=true:=by simpa using hj
   have hok:=kD hf hmem (getD_mem (d:=(default:Cn)) hj);simp only[Ae (Aq hi),Ej,hd,Ac,Ae (Aq hj),A4 hj (by have:=hB.ops;omega)];unfold Nt MU;cases h1:(l==1)<;>cases h0:(l==0)<;>simp only[Ac,Ao,Ai,YV _ hok,rM]
  have:=Hh (f.Blocks.getD i default).Ops (default:Cn) (Nt l) (Eh f l (i:Int)) (.inl ()) (.inr false) (λj hj hp=>by rw[key j hj,hp];rfl) (λj hj hp=>by rw[key j hj,hp];rfl) (by
   unfold Eh;simp[Ae (Aq hi)]) (f.Blocks.getD i default).Ops.length 0 (by omega)
  rw[show(0:Int)=((0:Nat):Int) from rfl,this,Hw]
 have hb':=hb (λi hi hp=>by
   unfold Fx
   have:decide ((i:Int)<(f.Blocks.length:Int))=true:=by simpa using hi
   simp only[Hs,Bc]at hp
   simp only[this,Ac,hphi i hi,hops i hi,hp.1,hp.2,Ai,A4 hi (by have:=hf.blocks;omega)]) (λi hi hp=>by
   unfold Fx
   have:decide ((i:Int)<(f.Blocks.length:Int))=true:=by simpa using hi
   simp only[Hs]at hp;simp only[this,Ac,hphi i hi,hops i hi,Ai]
   cases h1:((f.Blocks.getD i default).Phis.all λp=>widthB p.Bits) with
   | false=>rfl
   | true=>rw[h1,Hx]at hp;simp only[Ac,hp,Ao,Ai]) (by
   unfold Fx;simp) f.Blocks.length 0 (by omega)
 unfold J5 T3;rw[show(0:Int)=((0:Nat):Int) from rfl,hp,hb',Hw,Hw]
 cases f.Params.all widthB<;>cases f.Blocks.all (Hs l)<;>simp[Rw]
theorem HC:room=1099511627776:=rfl
theorem Mj{β:Type}(n A C:Nat)(E:Nat->List β)(hE:∀ i,i<n->(E i).length<=C)(f:List β×Int->Option (LR (List β×Int) (List β)))
  (hn:∀(acc:List β) (i:Nat),i<n->acc.length<=A+i*C->f (acc,(i:Int))=some (.next (acc++E i,(i:Int)+1)))
  (hd:∀ acc:List β,f (acc,(n:Int))=some (.done acc)):∀(k i:Nat) (acc:List β),i+k=n->acc.length<=A+i*C->Ad f (acc,(i:Int))=some (acc++(List.range' i k).flatMap E)
 | 0,i,acc,h,_=>by
  obtain rfl:i=n:=by omega
  rw[Ah (hd acc)]
  simp
 | k+1,i,acc,h,hA=>by
  have hi:i<n:=by omega
  have h1:=hE i hi
  have h2:acc.length+C<=A+(i+1)*C:=by rw[Fg];omega
  rw[Ar (hn acc i hi hA),show((i:Int)+1)=((i+1:Nat):Int) by omega,Mj n A C E hE f hn hd k (i+1) _ (by omega) (by rw[F1];omega),DU,R7,Qa]
theorem Kg{β:Type}(C:Nat)(E:Nat->List β):∀ l:List Nat,(∀ i∈l,(E i).length<=C)->(l.flatMap E).length<=l.length*C
 | [],_=>by simp
 | a::l,h=>by
  have h1:=h a (by simp);have h2:=Kg C E l (λi hi=>h i (by simp[hi]));rw[R7,F1,U4,Fg];omega
def He(l:List TDef)(v:Int):Int:=match l.findIdx? (λd=>d.V==v) with|some i=>(i:Int)|none=>-1
theorem IM(l:List TDef)(v:Int)(hl:l.length<=1000000):Dy l v=some (He l v):=by
 have key:∀(k i:Nat),i+k=l.length->Ad (Ga l v) (i:Int)=some (match(l.drop i).findIdx? (λd=>d.V==v) with|some j=>.inr ((i+j:Nat):Int)|none=>.inl ()):=by
  intro k
  induction k with
  | zero=>
   intro i h
   obtain rfl:i=l.length:=by omega
   rw[Ah (x:=.inl ()) (by unfold Ga;simp)]
   simp
  | succ k ih=>
   intro i h
   have hi:i<l.length:=by omega
   have hdr:l.drop i=l.getD i default::l.drop (i+1):=by rw[P7 hi,Ab _ _ _ hi]
   have hd:decide ((i:Int)<(l.length:Int))=true:=by simpa using hi
   rw[hdr,List.findIdx?_cons]
   cases hb:(l.getD i default).V==v with
   | true=>
    rw[Ah (x:=.inr (i:Int)) (by unfold Ga;simp only[hd,Ac,Ae (Aq hi),Ej,hb])]
    simp
   | false=>
    rw[Ar (s':=((i+1:Nat):Int)) (by unfold Ga;simp only[hd,Ac,Ae (Aq hi),Ej,hb,Ao,A4 hi (by omega)];rfl),ih (i+1) (by omega)]
    cases(l.drop (i+1)).findIdx? (λd=>d.V==v) with
    | none=>simp
    | some j=>simp;omega
 unfold Dy He;rw[show(0:Int)=((0:Nat):Int) from rfl,key l.length 0 (by omega),Hw]
 cases l.findIdx? (λd=>d.V==v) with
 | none=>rfl
 | some j=>simp
def H4(o:Cn):Int×Int:=bif K7 o then O2 o.Kind o.Bits o.Lanes else(0,0)
def Gj(o:Cn):List (Int×Int):=bif K7 o then Rf o else[]
def Oc(f:TFunc):List TDef:=(List.range f.Params.length).flatMap λ(i:Nat)=>[⟨(i:Int)+1,-1,0,(f.Params.getD i 0,1)⟩]
def Po(b:An)(i:Nat):List TDef:=(List.range b.Phis.length).flatMap λ(k:Nat)=>[⟨(b.Phis.getD k default).Dst,i,-1,((b.Phis.getD k default).Bits,1)⟩]
def Ws(b:An)(i:Nat):List TDef:=(List.range b.Ops.length).flatMap λ(k:Nat)=>bif decide (0<(H4 (b.Ops.getD k default)).1) then[⟨(b.Ops.getD k default).Dst,i,k,H4 (b.Ops.getD k default)⟩] else[]
def Ny(b:An)(i:Nat):List TDef:=Po b i++Ws b i
def defsF(f:TFunc):List TDef:=Oc f++(List.range f.Blocks.length).flatMap λi=>Ny (f.Blocks.getD i default) i
theorem KM(b:An)(i:Nat):(Po b i).length<=b.Phis.length:=by
 have:=Kg 1 (λ(k:Nat)=>[(⟨(b.Phis.getD k default).Dst,i,-1,((b.Phis.getD k default).Bits,1)⟩:TDef)]) (List.range b.Phis.length) (λ_ _=>zzL7 _)
 simpa [Po] using this
theorem eJ(b:An)(i:Nat):(Ws b i).length<=b.Ops.length:=by
 have:=Kg 1 (λ(k:Nat)=>bif decide (0<(H4 (b.Ops.getD k default)).1) then[(⟨(b.Ops.getD k default).Dst,i,k,H4 (b.Ops.getD k default)⟩:TDef)] else[]) (List.range b.Ops.length) (λk _=>by cases decide (0<(H4 (b.Ops.getD k default)).1)<;>simp)
 simpa [Ws] using this
theorem UH{f:TFunc}(hf:OkF f){i:Nat}(hi:i<f.Blocks.length):(Ny (f.Blocks.getD i default) i).length<=1024:=by
 have hB:=hf.block _ (getD_mem (d:=(default:An)) hi);have h1:=KM (f.Blocks.getD i default) i;have h2:=eJ (f.Blocks.getD i default) i;have h3:=hB.phis;have h4:=hB.ops;rw[Ny,F1];omega
theorem BT(f:TFunc):(Oc f).length=f.Params.length:=by
 have h:∀ l:List Nat,(l.map λ_=>1).sum=l.length:=λl=>by induction l with|nil=>rfl|cons a l ih=>simp[ih];omega
 simp[Oc,List.length_flatMap,h]
theorem UI{f:TFunc}(hf:OkF f):(defsF f).length<=100000:=by
 have h1:=Kg 1024 (λi=>Ny (f.Blocks.getD i default) i) (List.range f.Blocks.length) (λi hi=>UH hf (by simpa using hi));have h2:=BT f;have h3:=hf.few;have h4:=hf.blocks;rw[DT]at h1;have:f.Blocks.length*1024<=64*1024:=Dz _ h4;rw[defsF,F1];omega
theorem eZ{f:TFunc}(hf:OkF f):H7 f=some (defsF f):=by
 have hp:=Mj f.Params.length 0 1 (λ(i:Nat)=>[(⟨(i:Int)+1,-1,0,(f.Params.getD i 0,1)⟩:TDef)]) (λ_ _=>zzL7 _) (Iu f) (λacc i hi hA=>by
   unfold Iu
   have hd:decide ((i:Int)<(f.Params.length:Int))=true:=by simpa using hi
   have hr:acc.length+([(⟨(i:Int)+1,(-1:Int),(0:Int),((f.Params.getD i 0),(1:Int))⟩:TDef)]:List (TDef)).length<=room:=by have:=hf.few;rw[HC];simp;omega
   simp only[hd,Ac,Ae (Aq hi),Ej,A4 hi (by have:=hf.few;omega),Ae hr]) (λacc=>by unfold Iu;simp) f.Params.length 0 [] (by omega) (by simp)
 have hphi:∀(i:Nat),i<f.Blocks.length->∀ acc:List TDef,acc.length<=100000->Ad (F8 f (i:Int)) (acc,(0:Int))=some (acc++Po (f.Blocks.getD i default) i):=λi hi acc hacc=>by
  have hB:=hf.block _ (getD_mem (d:=(default:An)) hi)
  have:=Mj (f.Blocks.getD i default).Phis.length 100000 1 (λ(k:Nat)=>[(⟨((f.Blocks.getD i default).Phis.getD k default).Dst,i,-1,(((f.Blocks.getD i default).Phis.getD k default).Bits,1)⟩:TDef)]) (λ_ _=>zzL7 _) (F8 f (i:Int)) (λacc k hk hA=>by
   unfold F8
   have hd:decide ((k:Int)<((f.Blocks.getD i default).Phis.length:Int))=true:=by simpa using hk
   have hr:∀ x:TDef,acc.length+([x]:List TDef).length<=room:=λx=>by have:=hB.phis;rw[HC];simp;omega
   simp only[Ej,hd,Ac,Ae (Aq hk),A4 hk (by have:=hB.phis;omega),Ae (hr _)]) (λacc=>by unfold F8;simp) (f.Blocks.getD i default).Phis.length 0 acc (by omega) (by omega)
  rw[show(0:Int)=((0:Nat):Int) from rfl,this,Po,P8]
 have hop:∀(i:Nat),i<f.Blocks.length->∀ acc:List TDef,acc.length<=100000->Ad (F9 f (i:Int)) (acc,(0:Int))=some (acc++Ws (f.Blocks.getD i default) i):=λi hi acc hacc=>by
  have hmem:=getD_mem (d:=(default:An)) hi;have hB:=hf.block _ hmem
  have:=Mj (f.Blocks.getD i default).Ops.length 100000 1 (λ(k:Nat)=>bif decide (0<(H4 ((f.Blocks.getD i default).Ops.getD k default)).1) then[(⟨((f.Blocks.getD i default).Ops.getD k default).Dst,i,k,H4 ((f.Blocks.getD i default).Ops.getD k default)⟩:TDef)] else[]) (λk _=>by cases decide (0<(H4 ((f.Blocks.getD i default).Ops.getD k default)).1)<;>simp) (F9 f (i:Int)) (λacc k hk hA=>by
   unfold F9;have hok:=kD hf hmem (getD_mem (d:=(default:Cn)) hk)
   have hd:decide ((k:Int)<((f.Blocks.getD i default).Ops.length:Int))=true:=by simpa using hk
   have hr:∀ x:TDef,acc.length+([x]:List TDef).length<=room:=λx=>by have:=hB.ops;rw[HC];simp;omega
   have hg:Hj ((f.Blocks.getD i default).Ops.getD k default)=some (H4 ((f.Blocks.getD i default).Ops.getD k default)):=kL _ hok;simp only[Ej,hd,Ac,Ae (Aq hk),hg,Ai,A4 hk (by have:=hB.ops;omega),Ae (hr _)]
   cases decide (0<(H4 ((f.Blocks.getD i default).Ops.getD k default)).1)<;>simp) (λacc=>by unfold F9;simp) (f.Blocks.getD i default).Ops.length 0 acc (by omega) (by omega)
  rw[show(0:Int)=((0:Nat):Int) from rfl,this,Ws,P8]
 have hb:=Mj f.Blocks.length 16 1024 (λi=>Ny (f.Blocks.getD i default) i) (λi hi=>UH hf hi) (Iv f) (λacc i hi hA=>by
   unfold Iv
   have hd:decide ((i:Int)<(f.Blocks.length:Int))=true:=by simpa using hi
   have hB:=hf.block _ (getD_mem (d:=(default:An)) hi);have h64:=hf.blocks;have h1:i*1024<=64*1024:=Dz _ (by omega);have h2:=KM (f.Blocks.getD i default) i;have h3:=hB.phis
   simp only[hd,Ac,Ae (Aq hi),hphi i hi acc (by omega),Ai,hop i hi (acc++Po (f.Blocks.getD i default) i) (by rw[F1];omega),A4 hi (by omega),Ny,Qa]) (λacc=>by unfold Iv;simp) f.Blocks.length 0 (Oc f) (by omega) (by have:=BT f;have:=hf.few;omega)
 unfold H7;rw[show(0:Int)=((0:Nat):Int) from rfl,hp,Ai,U5]
 have e:(List.range' 0 f.Params.length).flatMap (λ(i:Nat)=>[(⟨(i:Int)+1,-1,0,(f.Params.getD i 0,1)⟩:TDef)])=Oc f:=by rw[Oc,P8]
 rw[e,hb,Ai,defsF,P8]
def Mf(p:Ig):List Da:=(List.range p.Args.length).flatMap λ(j:Nat)=>[⟨p.Args.getD j 0,p.From.getD j 0,1000,(p.Bits,1)⟩]
def Ms(b:An):List Da:=(List.range b.Phis.length).flatMap λ(k:Nat)=>Mf (b.Phis.getD k default)
def Ox(o:Cn)(i k:Nat):List Da:=(List.range (Gj o).length).flatMap λ(j:Nat)=>[⟨o.Args.getD j 0,i,k,(Gj o).getD j (0,0)⟩]
def Sf(b:An)(i:Nat):List Da:=(List.range b.Ops.length).flatMap λ(k:Nat)=>Ox (b.Ops.getD k default) i k
def X1(f:TFunc)(b:An)(i:Nat):List Da:=(bif b.End.Kind==0 then[⟨b.End.Arg,i,1000,(f.Ret,1)⟩] else[])++(bif b.End.Kind==2 then[⟨b.End.Arg,i,1000,(1,1)⟩] else[])
def DQ(f:TFunc)(b:An)(i:Nat):List Da:=Ms b++Sf b i++X1 f b i
def Bw(f:TFunc):List Da:=(List.range f.Blocks.length).flatMap λ(i:Nat)=>DQ f (f.Blocks.getD i default) i
theorem Xz{o:Cn}(h:o.Args.length<=64):(Gj o).length<=64/\(Gj o).length<=o.Args.length:=by
 unfold Gj
 cases hm:K7 o with
 | false=>simp
 | true=>
  simp only[Ac]
  have:((o.Args.length:Int)==N0 o.Kind o.Lanes)=true:=by
   simp only[K7,Bc]at hm;exact hm.1.2.2
  have h2:(o.Args.length:Int)=N0 o.Kind o.Lanes:=by simpa using this
  have h3:(Rf o).length=o.Args.length:=by rw[Rf,T7,DT,<- h2,Ej]
  omega
theorem PM{f:TFunc}(hf:OkF f){b:An}(hb:b∈f.Blocks){p:Ig}(hp:p∈b.Phis):p.From.length<=64/\p.Args.length<=64:=by
 have:=(blockB_iff.1 (hf.block b hb).may).1 p hp;simp only[GU,Bc]at this;exact⟨(listB_iff.1 this.1.2).2,(listB_iff.1 this.2).2⟩
theorem iN{f:TFunc}(hf:OkF f){b:An}(hb:b∈f.Blocks){o:Cn}(ho:o∈b.Ops):o.Args.length<=64:=by
 have:=(blockB_iff.1 (hf.block b hb).may).2.1 o ho;simp only[et,Bc]at this;exact(listB_iff.1 this.2).2
theorem HI(p:Ig):(Mf p).length<=p.Args.length:=by
 have:=Kg 1 (λ(j:Nat)=>[(⟨p.Args.getD j 0,p.From.getD j 0,1000,(p.Bits,1)⟩:Da)]) (List.range p.Args.length) (λ_ _=>zzL7 _)
 simpa [Mf] using this
theorem LK(o:Cn)(i k:Nat):(Ox o i k).length<=(Gj o).length:=by
 have:=Kg 1 (λ(j:Nat)=>[(⟨o.Args.getD j 0,i,k,(Gj o).getD j (0,0)⟩:Da)]) (List.range (Gj o).length) (λ_ _=>zzL7 _)
 simpa [Ox] using this
theorem LL{f:TFunc}(hf:OkF f){b:An}(hb:b∈f.Blocks):(Ms b).length<=32768:=by
 have:=Kg 64 (λ(k:Nat)=>Mf (b.Phis.getD k default)) (List.range b.Phis.length) (λk hk=>by
  have h1:=HI (b.Phis.getD k default);have h2:=(PM hf hb (getD_mem (d:=(default:Ig)) (by simpa using hk))).2
  omega)
 have h3:=(hf.block b hb).phis;rw[DT]at this;have h4:b.Phis.length*64<=512*64:=Dz _ h3;rw[Ms];omega
theorem QU{f:TFunc}(hf:OkF f){b:An}(hb:b∈f.Blocks)(i:Nat):(Sf b i).length<=32768:=by
 have:=Kg 64 (λ(k:Nat)=>Ox (b.Ops.getD k default) i k) (List.range b.Ops.length) (λk hk=>by
  have h1:=LK (b.Ops.getD k default) i k;have h2:=(Xz (iN hf hb (getD_mem (d:=(default:Cn)) (by simpa using hk)))).1
  omega)
 have h3:=(hf.block b hb).ops;rw[DT]at this;have h4:b.Ops.length*64<=512*64:=Dz _ h3;rw[Sf];omega
theorem dA(f:TFunc)(b:An)(i:Nat):(X1 f b i).length<=2:=by
 unfold X1
 cases b.End.Kind==0<;>cases b.End.Kind==2<;>simp
theorem VZ{f:TFunc}(hf:OkF f){i:Nat}(hi:i<f.Blocks.length):(DQ f (f.Blocks.getD i default) i).length<=70000:=by
 have hmem:=getD_mem (d:=(default:An)) hi;have h1:=LL hf hmem;have h2:=QU hf hmem i;have h3:=dA f (f.Blocks.getD i default) i;rw[DQ,F1,F1];omega
theorem JK{f:TFunc}(hf:OkF f):(Bw f).length<=4480000:=by
 have h1:=Kg 70000 (λ(i:Nat)=>DQ f (f.Blocks.getD i default) i) (List.range f.Blocks.length) (λi hi=>VZ hf (by simpa using hi));have h4:=hf.blocks;rw[DT]at h1;have:f.Blocks.length*70000<=64*70000:=Dz _ h4;rw[Bw];omega
def iR(f:TFunc):Prop:=∀ b∈f.Blocks,∀ p∈b.Phis,p.Args.length<=p.From.length
theorem uN{f:TFunc}(hf:OkF f)(hp:iR f):Ku f=some (Bw f):=by
 have hbig:∀{n:Nat},n<=100000000->∀ x:Da,n+([x]:List Da).length<=room:=λ{n} h x=>by rw[HC];simp;omega
 have h1:∀(i:Nat),i<f.Blocks.length->∀(k:Nat),k<(f.Blocks.getD i default).Phis.length->∀ acc:List Da,acc.length<=50000000->Ad (Gb f (i:Int) (k:Int)) (acc,(0:Int))=some (acc++Mf ((f.Blocks.getD i default).Phis.getD k default)):=λi hi k hk acc hacc=>by
  have hmem:=getD_mem (d:=(default:An)) hi;have hpm:=getD_mem (d:=(default:Ig)) hk;have hlen:=PM hf hmem hpm;have hfit:=hp _ hmem _ hpm
  have:=Mj ((f.Blocks.getD i default).Phis.getD k default).Args.length 50000000 1 (λ(j:Nat)=>[(⟨((f.Blocks.getD i default).Phis.getD k default).Args.getD j 0,((f.Blocks.getD i default).Phis.getD k default).From.getD j 0,1000,(((f.Blocks.getD i default).Phis.getD k default).Bits,1)⟩:Da)]) (λ_ _=>zzL7 _) (Gb f (i:Int) (k:Int)) (λacc j hj hA=>by
   unfold Gb
   have hd:decide ((j:Int)<(((f.Blocks.getD i default).Phis.getD k default).Args.length:Int))=true:=by simpa using hj
   simp only[Ej,hd,Ac,Ae (Aq hj),Ae (Aq (Nat.lt_of_lt_of_le hj hfit)),A4 hj (by omega),Ae (hbig (n:=acc.length) (by omega) _)]) (λacc=>by unfold Gb;simp) ((f.Blocks.getD i default).Phis.getD k default).Args.length 0 acc (by omega) (by omega)
  rw[show(0:Int)=((0:Nat):Int) from rfl,this,Mf,P8]
 have h2:∀(i:Nat),i<f.Blocks.length->∀ acc:List Da,acc.length<=40000000->Ad (Gc f (i:Int)) (acc,(0:Int))=some (acc++Ms (f.Blocks.getD i default)):=λi hi acc hacc=>by
  have hmem:=getD_mem (d:=(default:An)) hi;have hB:=hf.block _ hmem
  have:=Mj (f.Blocks.getD i default).Phis.length 40000000 64 (λ(k:Nat)=>Mf ((f.Blocks.getD i default).Phis.getD k default)) (λk hk=>by have:=HI ((f.Blocks.getD i default).Phis.getD k default);have:=(PM hf hmem (getD_mem (d:=(default:Ig)) hk)).2;omega) (Gc f (i:Int)) (λacc k hk hA=>by
   unfold Gc
   have hd:decide ((k:Int)<((f.Blocks.getD i default).Phis.length:Int))=true:=by simpa using hk
   have h5:=hB.phis;have h6:k*64<=512*64:=Dz _ (by omega)
   simp only[Ej,hd,Ac,Ae (Aq hk),h1 i hi k hk acc (by omega),Ai,A4 hk (by omega)]) (λacc=>by unfold Gc;simp) (f.Blocks.getD i default).Phis.length 0 acc (by omega) (by omega)
  rw[show(0:Int)=((0:Nat):Int) from rfl,this,Ms,P8]
 have h3:∀(i:Nat),i<f.Blocks.length->∀(k:Nat),k<(f.Blocks.getD i default).Ops.length->∀ acc:List Da,acc.length<=50000000->Ad (Ge f (i:Int) (k:Int) (Gj ((f.Blocks.getD i default).Ops.getD k default))) (acc,(0:Int))=some (acc++Ox ((f.Blocks.getD i default).Ops.getD k default) i k):=λi hi k hk acc hacc=>by
  have hmem:=getD_mem (d:=(default:An)) hi;have hom:=getD_mem (d:=(default:Cn)) hk;have hlen:=Xz (iN hf hmem hom)
  have:=Mj (Gj ((f.Blocks.getD i default).Ops.getD k default)).length 50000000 1 (λ(j:Nat)=>[(⟨((f.Blocks.getD i default).Ops.getD k default).Args.getD j 0,i,k,(Gj ((f.Blocks.getD i default).Ops.getD k default)).getD j (0,0)⟩:Da)]) (λ_ _=>zzL7 _) (Ge f (i:Int) (k:Int) (Gj ((f.Blocks.getD i default).Ops.getD k default))) (λacc j hj hA=>by
   unfold Ge
   have hd:decide ((j:Int)<((Gj ((f.Blocks.getD i default).Ops.getD k default)).length:Int))=true:=by simpa using hj
   simp only[Ej,hd,Ac,Ae (Aq hk),Ae (Aq hj),Ae (Aq (Nat.lt_of_lt_of_le hj hlen.2)),A4 hj (by omega),Ae (hbig (n:=acc.length) (by omega) _)]) (λacc=>by unfold Ge;simp) (Gj ((f.Blocks.getD i default).Ops.getD k default)).length 0 acc (by omega) (by omega)
  rw[show(0:Int)=((0:Nat):Int) from rfl,this,Ox,P8]
 have h4:∀(i:Nat),i<f.Blocks.length->∀ acc:List Da,acc.length<=40000000->Ad (Gf f (i:Int)) (acc,(0:Int))=some (acc++Sf (f.Blocks.getD i default) i):=λi hi acc hacc=>by
  have hmem:=getD_mem (d:=(default:An)) hi;have hB:=hf.block _ hmem
  have:=Mj (f.Blocks.getD i default).Ops.length 40000000 64 (λ(k:Nat)=>Ox ((f.Blocks.getD i default).Ops.getD k default) i k) (λk hk=>by have:=LK ((f.Blocks.getD i default).Ops.getD k default) i k;have:=(Xz (iN hf hmem (getD_mem (d:=(default:Cn)) hk))).1;omega) (Gf f (i:Int)) (λacc k hk hA=>by
   unfold Gf
   have hd:decide ((k:Int)<((f.Blocks.getD i default).Ops.length:Int))=true:=by simpa using hk
   have h5:=hB.ops;have h6:k*64<=512*64:=Dz _ (by omega);have ht:Hk ((f.Blocks.getD i default).Ops.getD k default)=some (Gj ((f.Blocks.getD i default).Ops.getD k default)):=kN _ (kD hf hmem (getD_mem (d:=(default:Cn)) hk))
   simp only[Ej,hd,Ac,Ae (Aq hk),ht,Ai,h3 i hi k hk acc (by omega),A4 hk (by omega)]) (λacc=>by unfold Gf;simp) (f.Blocks.getD i default).Ops.length 0 acc (by omega) (by omega)
  rw[show(0:Int)=((0:Nat):Int) from rfl,this,Sf,P8]
 have hb:=Mj f.Blocks.length 0 70000 (λ(i:Nat)=>DQ f (f.Blocks.getD i default) i) (λi hi=>VZ hf hi) (Iw f) (λacc i hi hA=>by
   unfold Iw
   have hd:decide ((i:Int)<(f.Blocks.length:Int))=true:=by simpa using hi
   have hmem:=getD_mem (d:=(default:An)) hi;have h64:=hf.blocks;have q1:i*70000<=64*70000:=Dz _ (by omega);have q2:=LL hf hmem;have q3:=QU hf hmem i;have e1:=h4 i hi (acc++Ms (f.Blocks.getD i default)) (by rw[F1];omega)
   have l1:(acc++Ms (f.Blocks.getD i default)++Sf (f.Blocks.getD i default) i).length<=50000000:=by rw[F1,F1];omega
   simp only[hd,Ac,Ae (Aq hi),h2 i hi acc (by omega),Ai,e1,Ej,Ae (hbig (n:=(acc++Ms (f.Blocks.getD i default)++Sf (f.Blocks.getD i default) i).length) (by omega) _),DQ,X1]
   cases(f.Blocks.getD i default).End.Kind==0 with
   | true=>
    simp only[Ac,Ai]
    cases(f.Blocks.getD i default).End.Kind==2 with
    | true=>rw[Ae (by rw[F1];have:=hbig (n:=(acc++Ms (f.Blocks.getD i default)++Sf (f.Blocks.getD i default) i).length+1) (by omega) (default:Da);simpa using this)];simp[A4 hi (by omega:f.Blocks.length<9223372036854775808)]
    | false=>simp[A4 hi (by omega:f.Blocks.length<9223372036854775808)]
   | false=>
    simp only[Ao,Ai]
    cases(f.Blocks.getD i default).End.Kind==2 with
    | true=>rw[Ac,Ae (hbig (n:=(acc++Ms (f.Blocks.getD i default)++Sf (f.Blocks.getD i default) i).length) (by omega) _)];simp[A4 hi (by omega:f.Blocks.length<9223372036854775808)]
    | false=>simp[A4 hi (by omega:f.Blocks.length<9223372036854775808)]) (λacc=>by unfold Iw;simp) f.Blocks.length 0 [] (by omega) (by simp)
 unfold Ku;rw[show(0:Int)=((0:Nat):Int) from rfl,hb,Ai,Bw,P8,U5]
def cE(n:Nat)(l:List Int)(i:Nat):Bool:=decide ((if i=0 then(-1:Int) else l.getD (i-1) 0)<l.getD i 0)&&(decide (0<=l.getD i 0)&&decide (l.getD i 0<n))
def iH(n:Nat)(l:List Int):Bool:=(List.range l.length).all (cE n l)
def Nq(L:List (List Int)):Bool:=decide (1<=L.length)&&decide (L.length<=64)&&(List.range L.length).all λi=>iH L.length (L.getD i [])
def Zs(L:List (List Int))(k i:Nat):Bool:=(L.getD k []).contains (i:Int)
def K5(L:List (List Int))(m i:Nat):List Int:=((List.range m).filter λk=>Zs L k i).map Int.ofNat
def Em(L:List (List Int)):List (List Int):=(List.range L.length).map (K5 L L.length)
theorem V2(a n:Int):Kc a n=some (decide (0<=a)&&decide (a<n)):=by
 unfold Kc
 cases decide ((0:Int)<=a)<;>rfl
theorem UW(n:Nat):Ma (n:Int)=some (decide (1<=n)&&decide (n<=64)):=by
 unfold Ma
 have h1:decide ((1:Int)<=(n:Int))=decide (1<=n):=by apply zzL60.2;omega
 have h2:decide ((n:Int)<=(64:Int))=decide (n<=64):=by apply zzL60.2;omega
 rw[h1,h2]
 cases decide (1<=n)<;>rfl
theorem QP(L:List (List Int))(i:Nat)(hl:(L.getD i []).length<4611686018427387904) :
  Ad (D3 L (i:Int)) ((-1:Int),(0:Int))=some (bif iH L.length (L.getD i []) then .inl () else .inr false):=by
 refine Ij (D3 L (i:Int)) (λj=>((if j=0 then(-1:Int) else(L.getD i []).getD (j-1) 0),((j:Nat):Int))) (cE L.length (L.getD i [])) (.inl ()) (.inr false) _ (λj hj hp=>?_) (λj hj hp=>?_) ?_
 ·unfold cE at hp;simp only[Bc,Ff]at hp;obtain⟨h1,h2,h3⟩:=hp
  show D3 L (i:Int) (_,_)=_
  unfold D3;simp only[Ap,C5 hj,Ac,V2];rw[Aa (Er hj)]
  have e1:decide ((L.getD i []).getD j 0<=(if j=0 then(-1:Int) else(L.getD i []).getD (j-1) 0))=false:=by simpa using h1
  simp only[e1,B4 h2,B4 h3,BI,Ss,Ac,Ao,Ai,Ds];rw[w1 (show j<4611686018427387904 by omega)]
  simp
 ·show D3 L (i:Int) (_,_)=_
  unfold D3;simp only[Ap,C5 hj,Ac,V2];rw[Aa (Er hj)]
  cases h1:decide ((L.getD i []).getD j 0<=(if j=0 then(-1:Int) else(L.getD i []).getD (j-1) 0)) with
  | true=>simp only[Ac,show((true==false)=false) from rfl,Ao,Ai]
  | false=>
   have h1':decide ((if j=0 then(-1:Int) else(L.getD i []).getD (j-1) 0)<(L.getD i []).getD j 0)=true:=by simpa using h1
   unfold cE at hp;rw[h1',Hx]at hp;simp only[Ss,Ac,Ao,Ai,hp,Mt]
 ·show D3 L (i:Int) (_,_)=_
  unfold D3;simp only[Ap,Fe,Ao]
def Fits(L:List (List Int)):Prop:=L.length<4611686018427387904/\∀ l∈L,l.length<4611686018427387904
theorem Fits.at{L:List (List Int)}(h:Fits L)(i:Nat):(L.getD i []).length<4611686018427387904:=by
 by_cases hi:i<L.length
 ·exact h.2 _ (getD_mem hi)
 ·rw[Sq,List.getElem?_eq_none (by omega)];simp
theorem j4(L:List (List Int))(h:Fits L):Ow L=some (Nq L):=by
 unfold Ow;rw[UW,Ai];unfold Nq
 cases hc:(decide (1<=L.length)&&decide (L.length<=64)) with
 | false=>rfl
 | true=>
  simp only[Ds,Ao,Hx];have:=Ij (D4 L) (λj=>((j:Nat):Int)) (λi=>iH L.length (L.getD i [])) (.inl ()) (.inr false) L.length (λj hj hp=>?_) (λj hj hp=>?_) ?_
  ·rw[show Ad (D4 L) (0:Int)=_ from this]
   cases(List.range L.length).all λi=>iH L.length (L.getD i [])<;>rfl
  ·show D4 L (j:Int)=_
   unfold D4;simp only[C5 hj,Ac];rw[Aa (Er hj),QP L j (h.at j),hp];simp only[Ac,Ai,w1 (show j<4611686018427387904 by have:=h.1;omega)]
  ·show D4 L (j:Int)=_
   unfold D4;simp only[C5 hj,Ac];rw[Aa (Er hj),QP L j (h.at j),hp]
   rfl
  ·show D4 L _=_
   unfold D4;simp only[Fe,Ao]
theorem Rj{α:Type}{n i:Nat}{g:Nat->α}{d:α}(h:i<n):((List.range n).map g).getD i d=g i:=by simp[List.getD,h]
theorem AY{α:Type}{n i:Nat}{g:Nat->α}{x:α}:((List.range n).map g).set i x=(List.range n).map λj=>if j=i then x else g j:=by
 apply List.ext_getElem?
 intro j;rw[List.getElem?_set]
 by_cases hj:j<n
 ·by_cases hij:i=j
  ·subst hij;simp[hj]
  ·simp[hij,hj,Ne.symm hij]
 ·simp[hj];intro h;omega
theorem Hm{α:Type}{n:Nat}{g h:Nat->α}(H:∀ i,i<n->g i=h i):(List.range n).map g=(List.range n).map h:=ZD λi hi=>H i (zzL44.1 hi)
theorem mayS_iff{L:List (List Int)}:Nq L=true↔1<=L.length/\L.length<=64/\∀ i,i<L.length->iH L.length (L.getD i [])=true:=by
 unfold Nq;rw[Bc,Bc,all_range];simp only[Ff];exact⟨λ⟨⟨a,b⟩,c⟩=>⟨a,b,c⟩,λ⟨a,b,c⟩=>⟨⟨a,b⟩,c⟩⟩
theorem okL_iff{n:Nat}{l:List Int}:iH n l=true↔∀ i,i<l.length->(0<=l.getD i 0/\l.getD i 0<n)/\(0<i->l.getD (i-1) 0<l.getD i 0):=by
 unfold iH;rw[all_range];unfold cE;simp only[Bc,Ff]
 constructor
 ·intro h i hi;obtain⟨h1,h2,h3⟩:=h i hi;refine⟨⟨h2,h3⟩,λhp=>?_⟩;rwa[if_neg (by omega)]at h1
 ·intro h i hi;obtain⟨⟨h2,h3⟩,h1⟩:=h i hi;refine⟨?_,h2,h3⟩
  by_cases hz:i=0
  ·rw[if_pos hz];omega
  ·rw[if_neg hz];exact h1 (by omega)
section
variable {n:Nat} {l:List Int} (h:iH n l=true)
include h
theorem Zz{i:Nat}(hi:i<l.length):0<=l.getD i 0/\l.getD i 0<n:=(okL_iff.1 h i hi).1
theorem nR{i j:Nat}(hij:i<j)(hj:j<l.length):l.getD i 0<l.getD j 0:=by
 induction j with
 | zero=>omega
 | succ j ih=>
  have h1:=(okL_iff.1 h (j+1) hj).2 (by omega);rw[show j+1-1=j by omega]at h1
  by_cases he:i=j
  ·rw[he];exact h1
  ·exact Int.lt_trans (ih (by omega) (by omega)) h1
theorem uQ{i:Nat}(hi:i<l.length):(i:Int)<=l.getD i 0:=by
 induction i with
 | zero=>exact(Zz h hi).1
 | succ i ih=>
  have:=nR h (show i<i+1 by omega) hi;have:=ih (by omega);omega
theorem CF:l.length<=n:=by
 by_cases hz:l.length=0
 ·omega
 ·have h1:=uQ h (show l.length-1<l.length by omega);have h2:=(Zz h (show l.length-1<l.length by omega)).2;omega
theorem iJ{x:Int}(hx:x∈l):0<=x/\x<n:=by
 obtain⟨i,hi,rfl⟩:=P9 hx;have:=Zz h hi;rwa[Ab _ _ _ hi]at this
end
theorem uR{n:Nat}{l:List Int}(h1:∀ x∈l,0<=x/\x<n)(h2:l.Pairwise (·<·)):iH n l=true:=by
 rw[okL_iff];intro i hi;rw[Ab _ _ _ hi];refine⟨h1 _ (DV hi),λhp=>?_⟩;rw[Ab _ _ _ (show i-1<l.length by omega)];exact(zzL105.1 h2) _ _ _ _ (by omega)
theorem S8{L:List (List Int)}(h:Nq L=true):L.length<=64/\∀ l∈L,l.length<=64:=by
 obtain⟨h1,h2,h3⟩:=mayS_iff.1 h;refine⟨h2,λl hl=>?_⟩;obtain⟨i,hi,rfl⟩:=P9 hl;have:=CF (h3 i hi);rw[Ab _ _ _ hi]at this;omega
theorem qg{L:List (List Int)}(h:L.length<=1000/\∀ l∈L,l.length<=1000):Fits L:=⟨by omega,λl hl=>by have:=h.2 l hl;omega⟩
theorem AM(L:List (List Int))(k i:Nat):K5 L (k+1) i=K5 L k i++(if Zs L k i=true then[(k:Int)] else[]):=by
 unfold K5;rw[DY,JS,BH]
 congr 1
 cases hg:Zs L k i<;>simp[hg]
theorem Xt(L:List (List Int))(k i:Nat):(K5 L k i).length<=k:=by
 unfold K5;rw[T7];have:=List.length_filter_le (λk=>Zs L k i) (List.range k)
 simpa using this
theorem UN{l:List Int}{j:Nat}(hj:j<l.length):l.take (j+1)=l.take j++[l.getD j 0]:=by
 rw[Ab _ _ _ hj,dF hj]
def Vb(L:List (List Int))(k j i:Nat):Bool:=((L.getD k []).take j).contains (i:Int)
def Ni(L:List (List Int))(k j:Nat):List (List Int):=(List.range L.length).map λi=>K5 L k i++(if Vb L k j i=true then[(k:Int)] else[])
theorem bQ(L:List (List Int))(h:Nq L=true)(k j:Nat)(hk:k<L.length)(hj:j<(L.getD k []).length) :
  (Ni L k j).set ((L.getD k []).getD j 0).toNat ((Ni L k j).getD ((L.getD k []).getD j 0).toNat []++[(k:Int)])=Ni L k (j+1):=by
 obtain⟨h1,h2,h3⟩:=mayS_iff.1 h;have hok:=h3 k hk;obtain⟨a0,a1⟩:=Zz hok hj;unfold Ni;rw[Rj (by omega),AY]
 apply Hm
 intro i hi
 have hnot:Vb L k j ((L.getD k []).getD j 0).toNat=false:=by
  unfold Vb;rw[Yk a0]
  cases hc:((L.getD k []).take j).contains ((L.getD k []).getD j 0) with
  | false=>rfl
  | true=>
   rw[zzL68]at hc;obtain⟨m,hm,he⟩:=P9 hc
   have hm':m<j:=by simp at hm;omega
   rw[List.getElem_take]at he;have:=nR hok hm' hj;rw[Ab _ _ _ (show m<(L.getD k []).length by omega),he]at this;omega
 by_cases hi2:i=((L.getD k []).getD j 0).toNat
 ·rw[if_pos hi2,hnot]
  have:Vb L k (j+1) i=true:=by
   unfold Vb;rw[UN hj,zzL68,hi2,Yk a0]
   simp
  rw[this,hi2]
  simp
 ·rw[if_neg hi2]
  have:Vb L k (j+1) i=Vb L k j i:=by
   unfold Vb;rw[UN hj,Qm,zzL68,zzL68,zzL14]
   constructor
   ·rintro(hm|hm)
    ·exact hm
    ·simp only[zzL18]at hm;exact(hi2 (by omega)).elim
   ·exact .inl
  rw[this]
theorem bs(L:List (List Int))(h:Nq L=true):M8 L=some (Em L):=by
 obtain⟨h1,h2,h3⟩:=mayS_iff.1 h
 have hroom:(1000:Nat)<=room:=by decide
 unfold M8;rw[Aa ⟨by omega,Int.le_refl _,by omega⟩,Ap]
 have inner:∀ k,k<L.length->Ad (Gq L (k:Int)) ((0:Int),Ni L k 0)=some (Ni L k (L.getD k []).length):=λk hk=>by
  have hok:=h3 k hk;refine F3 (Gq L (k:Int)) (λj=>(((j:Nat):Int),Ni L k j)) (Ni L k (L.getD k []).length) (L.getD k []).length (λj hj=>?_) ?_
  ·obtain⟨a0,a1⟩:=Zz hok hj
   have hlen:(Ni L k j).length=L.length:=by simp[Ni]
   have hl64:=CF hok
   show Gq L (k:Int) (_,_)=_
   unfold Gq;simp only[Ap,C5 hj,Ac];have hb:Bd ((L.getD k []).getD j 0) (Ni L k j).length:=⟨a0,by rw[hlen];exact a1⟩
   have hrow:((Ni L k j).getD ((L.getD k []).getD j 0).toNat []).length<=k+1:=by
    unfold Ni;rw[Rj (by omega),F1];have:=Xt L k ((L.getD k []).getD j 0).toNat
    split
    ·rw[T6];omega
    ·rw[List.length_nil];omega
   rw[Aa (Er hj),Aa hb,Aa hb,Aa (by simp only[T6];omega),Aa hb,bQ L h k j hk hj,w1 (by omega)]
  ·show Gq L (k:Int) (_,_)=_
   unfold Gq;simp only[Ap,Fe,Ao]
 have r0:∀ k,Ni L k 0=(List.range L.length).map (K5 L k):=λk=>by
  unfold Ni
  apply Hm
  intro i _;simp[Vb]
 have r1:∀ k,Ni L k (L.getD k []).length=(List.range L.length).map (K5 L (k+1)):=λk=>by
  unfold Ni
  apply Hm
  intro i _;rw[AM];unfold Vb Zs;rw[DW]
 have:Ad (Gr L) ((0:Int),(List.range L.length).map (K5 L 0))=some (Em L):=F3 (Gr L) (λk=>(((k:Nat):Int),(List.range L.length).map (K5 L k))) (Em L) L.length (λk hk=>?_) ?_
 ·have e0:(List.replicate L.length ([]:List Int))=(List.range L.length).map (K5 L 0):=by
   apply List.ext_getElem?
   intro i
   by_cases hi:i<L.length<;>simp[hi,List.getElem?_replicate,K5]
  rw[e0,this];rfl
 ·show Gr L (_,_)=_
  unfold Gr;simp only[C5 hk,Ac];rw[Aa (Er hk),<- r0,inner k hk,r1,w1 (by omega)]
  rfl
 ·show Gr L (_,_)=_
  unfold Gr;simp only[Fe,Ao]
  rfl
theorem Um{α:Type}[DecidableEq α]{a b:List α}{d:α}(h:a.length=b.length):((List.range a.length).all λi=>decide (a.getD i d=b.getD i d))=decide (a=b):=by
 rw[Qm,all_range,Ff]
 constructor
 ·intro hall
  apply DX h
  intro i h1 h2;have:=HN (hall i h1);rwa[Ab _ _ _ h1,Ab _ _ _ h2]at this
 ·rintro rfl i _
  simp
theorem GF{a b:Nat}:(((a:Nat):Int)!=(b:Int))=decide (a≠b):=by
 rw[Qm,zzL80,Ff];omega
theorem XW{a b:Int}:(a !=b) = !decide (a=b):=by
 rw[Qm]
 simp
theorem YD(a b:List Int)(hb:b.length<4611686018427387904):Gz a b=some (decide (a=b)):=by
 unfold Gz;rw[GF]
 by_cases hl:a.length=b.length
 ·rw[Cm (by simpa using hl),Ao];have:Ad (B2 a b) (0:Int)=_:=Ij (B2 a b) (λj=>((j:Nat):Int)) (λi=>decide (a.getD i 0=b.getD i 0)) (.inl ()) (.inr false) a.length (λj hj hp=>?_) (λj hj hp=>?_) ?_
  ·rw[this,Um hl]
   cases decide (a=b)<;>rfl
  ·show B2 a b (j:Int)=_
   unfold B2;simp only[Ap,C5 hj,Ac];rw[Aa (Er hj),Aa (Er (by omega)),XW,hp,w1 (by omega)]
   rfl
  ·show B2 a b (j:Int)=_
   unfold B2;simp only[Ap,C5 hj,Ac];rw[Aa (Er hj),Aa (Er (by omega)),XW,hp]
   rfl
  ·show B2 a b _=_
   unfold B2;simp only[Fe,Ao]
 ·rw[B4 (by simpa using hl),Ac,Cm (λh=>hl (by rw[h]))]
theorem ea(a b:List Int)(ha:a.length<4611686018427387904):E7 a b=some (decide (a=b)):=by
 unfold E7;rw[GF]
 by_cases hl:a.length=b.length
 ·rw[Cm (by simpa using hl),Ao];have:Ad (B9 a b) (0:Int)=_:=Ij (B9 a b) (λj=>((j:Nat):Int)) (λi=>decide (a.getD i 0=b.getD i 0)) (.inl ()) (.inr false) a.length (λj hj hp=>?_) (λj hj hp=>?_) ?_
  ·rw[this,Um hl]
   cases decide (a=b)<;>rfl
  ·show B9 a b (j:Int)=_
   unfold B9;simp only[Ap,C5 hj,Ac];rw[Aa (Er hj),Aa (Er (by omega)),XW,hp,w1 (by omega)]
   rfl
  ·show B9 a b (j:Int)=_
   unfold B9;simp only[Ap,C5 hj,Ac];rw[Aa (Er hj),Aa (Er (by omega)),XW,hp]
   rfl
  ·show B9 a b _=_
   unfold B9;simp only[Fe,Ao]
 ·rw[B4 (by simpa using hl),Ac,Cm (λh=>hl (by rw[h]))]
theorem bt(a b:List (List Int))(hb:Fits b):D5 a b=some (decide (a=b)):=by
 unfold D5;rw[GF]
 by_cases hl:a.length=b.length
 ·rw[Cm (by simpa using hl),Ao];have hb1:=hb.1;have:Ad (A2 a b) (0:Int)=_:=Ij (A2 a b) (λj=>((j:Nat):Int)) (λi=>decide (a.getD i []=b.getD i [])) (.inl ()) (.inr false) a.length (λj hj hp=>?_) (λj hj hp=>?_) ?_
  ·rw[this,Um hl]
   cases decide (a=b)<;>rfl
  ·show A2 a b (j:Int)=_
   unfold A2;simp only[Ap,C5 hj,Ac];rw[Aa (Er hj),Aa (Er (by omega)),YD _ _ (hb.at j),hp,w1 (by omega)]
   rfl
  ·show A2 a b (j:Int)=_
   unfold A2;simp only[Ap,C5 hj,Ac];rw[Aa (Er hj),Aa (Er (by omega)),YD _ _ (hb.at j),hp]
   rfl
  ·show A2 a b _=_
   unfold A2;simp only[Fe,Ao]
 ·rw[B4 (by simpa using hl),Ac,Cm (λh=>hl (by rw[h]))]
theorem Rb(L:List (List Int)):(Em L).length=L.length:=by simp[Em]
theorem VM{L:List (List Int)}{i:Nat}(hi:i<L.length):(Em L).getD i []=K5 L L.length i:=by unfold Em;rw[Rj hi]
theorem Xu{L:List (List Int)}(h:Nq L=true):(Em L).length<=64/\∀ l∈Em L,l.length<=64:=by
 obtain⟨h1,_⟩:=S8 h;refine⟨by rw[Rb];exact h1,λl hl=>?_⟩;obtain⟨i,hi,rfl⟩:=zzL29.1 hl;have:=Xt L L.length i;omega
theorem Tz{L:List (List Int)}(h:L.length<=64/\∀ l∈L,l.length<=64):Fits L:=qg ⟨by omega,λl hl=>by have:=h.2 l hl;omega⟩
def CS(g:TGraph):Bool:=Nq g.Succ&&decide (g.Pred=Em g.Succ)
theorem sk(g:TGraph)(h:Fits g.Succ):Ur g=some (CS g):=by
 unfold Ur CS;rw[j4 _ h,Ai]
 cases hm:Nq g.Succ with
 | false=>rfl
 | true=>
  simp only[Ss,Ac,bs _ hm,Ai,bt _ _ (Tz (Xu hm)),Hx]
def Jw(L:List (List Int)):TGraph:=⟨L,Em L⟩
def g0:TGraph:=⟨[],[]⟩
theorem bz{L:List (List Int)}(h:Nq L=true):CS (Jw L)=true:=by simp[CS,Jw,h]
theorem nG(l:List Int)(x:Int)(h:l.length<4611686018427387904):G5 l x=some (l.contains x):=by
 unfold G5;have:Ad (Co l x) (0:Int)=_:=Ij (Co l x) (λj=>((j:Nat):Int)) (λi=>!decide (l.getD i 0=x)) (.inl ()) (.inr true) l.length (λj hj hp=>?_) (λj hj hp=>?_) ?_
 ·rw[this]
  have e:l.contains x = !((List.range l.length).all λi=>!decide (l.getD i 0=x)):=by
   rw[Qm,zzL68,R6,<- Bool.not_eq_true,all_range]
   constructor
   ·intro hx hall;obtain⟨i,hi,rfl⟩:=P9 hx;have:=hall i hi;rw[Ab _ _ _ hi]at this;simp at this
   ·intro hall
    by_cases hx:x∈l
    ·exact hx
    ·refine(hall λi hi=>?_).elim;rw[Ab _ _ _ hi];simp only[R6,LN];rintro rfl;exact hx (DV hi)
  rw[e]
  cases(List.range l.length).all λi=>!decide (l.getD i 0=x)<;>rfl
 ·show Co l x (j:Int)=_
  unfold Co;simp only[Ap,C5 hj,Ac]
  have:(l.getD j 0==x)=false:=by simpa using hp
  rw[Aa (Er hj),this,w1 (by omega)]
  rfl
 ·show Co l x (j:Int)=_
  unfold Co;simp only[Ap,C5 hj,Ac]
  have:(l.getD j 0==x)=true:=by simpa using hp
  rw[Aa (Er hj),this]
  rfl
 ·show Co l x _=_
  unfold Co;simp only[Fe,Ao]
theorem VV{X:Type}(a b:List (List Int))(f:Int->Option (LR Int (Unit ⊕ Bool)))(ha:Fits a)(hl:a.length=b.length)
  (hn:∀ i:Nat,i<a.length->f (i:Int)=(E7 (a.getD i []) (b.getD i [])).bind λx=>bif (!x) then some (.done (.inr false)) else some (.next (w64 ((i:Int)+1)))) (he:f (a.length:Int)=some (.done (.inl ()))) :
  Ad f (0:Int)=some (bif decide (a=b) then .inl () else .inr false):=by
 have ha1:=ha.1;have:Ad f (0:Int)=_:=Ij f (λj=>((j:Nat):Int)) (λi=>decide (a.getD i []=b.getD i [])) (.inl ()) (.inr false) a.length (λj hj hp=>?_) (λj hj hp=>?_) he
 ·rw[this,Um hl]
 ·rw[hn j hj,ea _ _ (ha.at j),hp,w1 (by omega)];rfl
 ·rw[hn j hj,ea _ _ (ha.at j),hp];rfl
theorem uM(a b:TGraph)(h1:Fits a.Succ)(h2:Fits a.Pred):Kr a b=some (decide (a=b)):=by
 have e:decide (a=b)=(decide (a.Succ=b.Succ)&&decide (a.Pred=b.Pred)):=by
  cases a;cases b
  rw[Qm]
  simp
 rw[e];unfold Kr;rw[GF,GF]
 by_cases hs:a.Succ.length=b.Succ.length
 ·by_cases hp:a.Pred.length=b.Pred.length
  ·rw[Cm (by simpa using hs),Ao,Cm (by simpa using hp),Ao]
   have s1:=VV (X:=Unit) a.Succ b.Succ (Ir a b) h1 hs (λi hi=>by
    unfold Ir;simp only[Ap,C5 hi,Ac]
    rw[Aa (Er hi),Aa (Er (by omega))]) (by
    unfold Ir
    simp only[Fe,Ao])
   have s2:=VV (X:=Unit) a.Pred b.Pred (It a b) h2 hp (λi hi=>by
    unfold It;simp only[Ap,C5 hi,Ac]
    rw[Aa (Er hi),Aa (Er (by omega))]) (by
    unfold It
    simp only[Fe,Ao])
   rw[s1]
   cases decide (a.Succ=b.Succ) with
   | false=>rfl
   | true=>
    simp only[Ac,Ai,Hx];rw[s2]
    cases decide (a.Pred=b.Pred)<;>rfl
  ·rw[B4 (show a.Pred.length≠b.Pred.length from hp),Cm (p:=a.Pred=b.Pred) (λh=>hp (by rw[h]))]
   cases decide (a.Succ.length≠b.Succ.length)<;>simp
 ·rw[B4 (show a.Succ.length≠b.Succ.length from hs),Cm (p:=a.Succ=b.Succ) (λh=>hs (by rw[h]))]
  simp
theorem Mp{R:Type}{c:Bool}{q:Prop}[Decidable q]{k:Option R}(h:q):Bf (c=true->q) k=k:=Aa λ_=>h
theorem qY{R:Type}{q:Prop}[Decidable q]{k:Option R}:Bf (false=true->q) k=k:=Aa (by intro h;cases h)
def gk(n:Nat)(l:List Int)(j:Nat):Bool:=
 bif (bif decide (l.getD j 0<0) then true else decide ((n:Int)<=l.getD j 0)) then true else(bif decide ((0:Int)<(j:Int)) then decide (l.getD j 0<=l.getD (j-1) 0) else false)
theorem mN(n:Nat)(l:List Int)(j:Nat):gk n l j = !cE n l j:=by
 unfold gk cE
 by_cases h0:l.getD j 0<0
 ·have h1:decide (0<=l.getD j 0)=false:=by simpa using h0
  rw[B4 h0,h1];simp
 ·have h1:decide (0<=l.getD j 0)=true:=by simpa using h0
  rw[Cm h0,h1]
  by_cases h2:(n:Int)<=l.getD j 0
  ·have h3:decide (l.getD j 0<(n:Int))=false:=by simpa using h2
   rw[B4 h2,h3];simp
  ·have h3:decide (l.getD j 0<(n:Int))=true:=by simpa using h2
   rw[Cm h2,h3]
   by_cases hj:j=0
   ·subst hj;have h4:decide ((-1:Int)<l.getD 0 0)=true:=B4 (by omega);rw[if_pos rfl,h4];simp
   ·rw[if_neg hj,B4 (show(0:Int)<(j:Int) by omega)]
    by_cases h5:l.getD j 0<=l.getD (j-1) 0
    ·rw[B4 h5,Cm (show ¬ l.getD (j-1) 0<l.getD j 0 by omega)];rfl
    ·rw[Cm h5,B4 (show l.getD (j-1) 0<l.getD j 0 by omega)];rfl
theorem LD(L:List (List Int))(i:Nat)(hi:i<L.length)(hl:(L.getD i []).length<4611686018427387904) :
  Ad (Ca L (i:Int)) (0:Int)=some (bif iH L.length (L.getD i []) then .inl () else .inr (g0,5)):=by
 have hw:∀ j:Nat,j<(L.getD i []).length->0<j->w64 ((j:Int)-1)=((j-1:Nat):Int):=λj hj hp=>by rw[Jr (by omega) (by omega)];omega
 have step:∀ j,j<(L.getD i []).length->Ca L (i:Int) (j:Int)=bif gk L.length (L.getD i []) j then some (.done (.inr (g0,5))) else some (.next (((j+1:Nat):Int))):=λj hj=>by
  unfold Ca;simp only[Ap,C5 hj,Ac];rw[Aa (Er hi),Aa (Er hi),Aa (Er hj),Mp (Er hi),Mp (Er hj),Mp (Er hi),Mp (Er hj),Mp (Er hi),w1 (by omega)]
  by_cases hz:j=0
  ·subst hz
   have:decide ((0:Int)<((0:Nat):Int))=false:=by decide
   unfold gk;rw[this];simp only[Ao];rw[show((false==true)=false) from rfl,Bool.and_false,qY]
   rfl
  ·rw[hw j hj (by omega),Mp (Er (by omega)),Ap]
   rfl
 have:=Ij (Ca L (i:Int)) (λj=>((j:Nat):Int)) (cE L.length (L.getD i [])) (.inl ()) (.inr (g0,5)) (L.getD i []).length (λj hj hp=>?_) (λj hj hp=>?_) ?_
 ·exact this
 ·show Ca L (i:Int) (j:Int)=_
  rw[step j hj,mN,hp];rfl
 ·show Ca L (i:Int) (j:Int)=_
  rw[step j hj,mN,hp];rfl
 ·show Ca L (i:Int) _=_
  unfold Ca;simp only[Ap,Fe,Ao];rw[Aa (Er hi)]
theorem TL(L:List (List Int))(h:Nq L=true):Ad (Cz L) ((0:Int),List.replicate L.length ([]:List Int))=some (Em L):=by
 obtain⟨h1,h2,h3⟩:=mayS_iff.1 h
 have hroom:(1000:Nat)<=room:=by decide
 have hfit:=Tz (S8 h)
 let R:Nat->Nat->List (List Int):=λi k=>(List.range L.length).map λj=>if j<i then K5 L L.length j else if j=i then K5 L k i else[]
 have inner:∀ i,i<L.length->Ad (Dl L (i:Int)) ((0:Int),R i 0)=some (R i L.length):=λi hi=>by
  refine F3 (Dl L (i:Int)) (λk=>(((k:Nat):Int),R i k)) (R i L.length) L.length (λk hk=>?_) ?_
  ·show Dl L (i:Int) (_,_)=_
   have hlen:(R i k).length=L.length:=by simp[R]
   have hat:(R i k).getD i []=K5 L k i:=by simp only[R];rw[Rj hi];simp
   unfold Dl;simp only[Ap,C5 hk,Ac];rw[Aa (Er hk),nG _ _ (hfit.at k),Ai,w1 (by omega)];have hg:Zs L k i=(L.getD k []).contains (i:Int):=rfl;rw[<- hg,hat]
   have hs:(if Zs L k i=true then(R i k).set i (K5 L k i++[(k:Int)]) else R i k)=R i (k+1):=by
    split
    ·rename_i hgo
     simp only[R];rw[AY]
     apply Hm
     intro j hj
     by_cases hji:j=i
     ·subst hji;simp[AM,hgo]
     ·simp[hji]
    ·rename_i hgo
     simp only[R]
     apply Hm
     intro j hj
     by_cases hji:j=i
     ·subst hji;simp[AM,hgo]
     ·simp[hji]
   rw[<- hs]
   cases hgo:Zs L k i with
   | false=>rfl
   | true=>
    have:=Xt L k i;simp only[Ac];rw[Aa (by rw[hlen];exact Er hi),Aa (by rw[hlen];exact Er hi),Aa (by rw[T6];omega),Aa (by rw[hlen];exact Er hi)]
    rfl
  ·show Dl L (i:Int) (_,_)=_
   unfold Dl;simp only[Fe,Ao]
 have:Ad (Cz L) ((0:Int),R 0 0)=some (Em L):=F3 (Cz L) (λi=>(((i:Nat):Int),R i 0)) (Em L) L.length (λi hi=>?_) ?_
 ·have e0:List.replicate L.length ([]:List Int)=R 0 0:=by
   simp only[R]
   apply List.ext_getElem?
   intro j
   by_cases hj:j<L.length<;>simp[hj,List.getElem?_replicate,K5]
  rw[e0,this]
 ·show Cz L (_,_)=_
  unfold Cz;simp only[C5 hi,Ac];rw[inner i hi,w1 (by omega)];simp only[Ai]
  congr 3
  simp only[R]
  apply Hm
  intro j hj
  by_cases h4:j<i
  ·simp[h4,show j<i+1 by omega]
  ·by_cases h5:j=i
   ·subst h5;simp
   ·simp[h4,h5,show ¬ j<i+1 by omega];intro h6;simp[K5]
 ·show Cz L (_,_)=_
  unfold Cz;simp only[Fe,Ao]
  congr 2
  simp only[R,Em]
  apply Hm
  intro j hj;simp[hj]
theorem OW(L:List (List Int))(h:Fits L):H6 L=some (bif Nq L then(Jw L,0) else(g0,5)):=by
 have hroom:(1000:Nat)<=room:=by decide
 unfold H6
 have hc:(bif ((L.length:Int)==(0:Int)) then true else decide ((64:Int)<(L.length:Int))) = !(decide (1<=L.length)&&decide (L.length<=64)):=by
  by_cases h0:L.length=0
  ·rw[h0];rfl
  ·rw[show((L.length:Int)==0)=false by simp only[zzL20];omega,B4 (show 1<=L.length by omega)]
   by_cases h1:L.length<=64
   ·rw[B4 h1,Cm (show ¬ (64:Int)<(L.length:Int) by omega)];rfl
   ·rw[Cm h1,B4 (show(64:Int)<(L.length:Int) by omega)];rfl
 rw[hc];have hm:Nq L=((decide (1<=L.length)&&decide (L.length<=64))&&(List.range L.length).all λi=>iH L.length (L.getD i [])):=rfl
 cases hb:(decide (1<=L.length)&&decide (L.length<=64)) with
 | false=>rw[hm,hb];rfl
 | true=>
  simp only[Ds,Ao];have hb':=hb;simp only[Bc,Ff]at hb';have:Ad (Cb L) (0:Int)=_:=Ij (Cb L) (λj=>((j:Nat):Int)) (λi=>iH L.length (L.getD i [])) (.inl ()) (.inr (g0,5)) L.length (λj hj hp=>?_) (λj hj hp=>?_) ?_
  ·rw[this]
   cases hall:(List.range L.length).all λi=>iH L.length (L.getD i []) with
   | false=>rw[hm,hb,hall];rfl
   | true=>
    have hmay:Nq L=true:=by rw[hm,hb,hall];rfl
    rw[hmay];simp only[Ac,Ai];rw[Aa ⟨by omega,Int.le_refl _,by omega⟩,Ap,TL L hmay]
    rfl
  ·show Cb L (j:Int)=_
   unfold Cb;simp only[C5 hj,Ac];rw[LD L j hj (h.at j),hp,w1 (by omega)]
   rfl
  ·show Cb L (j:Int)=_
   unfold Cb;simp only[C5 hj,Ac];rw[LD L j hj (h.at j),hp]
   rfl
  ·show Cb L _=_
   unfold Cb;simp only[Fe,Ao]
theorem GA{L:List (List Int)}(h:Nq L=true):Fits (Jw L).Succ/\Fits (Jw L).Pred:=⟨Tz (S8 h),Tz (Xu h)⟩
theorem jy(g:TGraph)(h:Fits g.Succ):Lg g=some (CS g):=by
 unfold Lg CS;rw[OW _ h,Ai]
 cases hm:Nq g.Succ with
 | false=>rfl
 | true=>
  simp only[Ac,Ss,Hx];rw[uM _ _ (GA hm).1 (GA hm).2];simp only[Ai]
  congr 1
  apply zzL60.2
  cases g with
  | mk s p=>
   simp only[Jw,TGraph.mk.injEq,true_and];exact Si
noncomputable section
def upd(s:Nat->Bool)(y:Nat):Nat->Bool:=λz=>decide (z=y) || s z
theorem upd_true{s:Nat->Bool}{y z:Nat}:upd s y z=true↔z=y\/s z=true:=by simp[upd]
theorem upd_false{s:Nat->Bool}{y z:Nat}:upd s y z=false↔z≠y/\s z=false:=by simp[upd]
inductive VL (S:Nat->List Nat):(Nat->Bool)->List Nat->(Nat->Bool)->List Nat->Prop
 | nil (s:Nat->Bool):VL S s [] s []
 | skip {s s':Nat->Bool} {y:Nat} {l o:List Nat} (h:s y=true) (t:VL S s l s' o):VL S s (y::l) s' o
 | step {s s1 s2:Nat->Bool} {y:Nat} {l o1 o2:List Nat} (h:s y=false) (a:VL S (upd s y) (S y) s1 o1) (b:VL S s1 l s2 o2):VL S s (y::l) s2 (o1++y::o2)
inductive Rch (S:Nat->List Nat):Nat->Nat->Prop
 | refl (x:Nat):Rch S x x
 | head {x y z:Nat} (h:y∈S x) (t:Rch S y z):Rch S x z
theorem Rch.tail{S:Nat->List Nat}{x y z:Nat}(h:Rch S x y)(hz:z∈S y):Rch S x z:=by
 induction h with
 | refl x=>exact .head hz (.refl _)
 | head h _ ih=>exact .head h (ih hz)
theorem Rch.trans{S:Nat->List Nat}{x y z:Nat}(h:Rch S x y)(k:Rch S y z):Rch S x z:=by
 induction h with
 | refl x=>exact k
 | head h _ ih=>exact .head h (ih k)
variable {S:Nat->List Nat} {s s':Nat->Bool} {l o:List Nat}
theorem VL.seen(h:VL S s l s' o)(z:Nat):s' z=true↔s z=true\/z∈o:=by
 induction h with
 | nil s=>simp
 | skip h _ ih=>exact ih
 | @step s s1 s2 y l o1 o2 h a b iha ihb=>
  rw[ihb,iha,upd_true];simp only[zzL14,zzL26]
  constructor
  ·rintro((( rfl|h1)|h1)|h1)
   ·exact .inr (.inr (.inl rfl))
   ·exact .inl h1
   ·exact .inr (.inl h1)
   ·exact .inr (.inr (.inr h1))
  ·rintro(h1|h1|rfl|h1)
   ·exact .inl (.inl (.inr h1))
   ·exact .inl (.inr h1)
   ·exact .inl (.inl (.inl rfl))
   ·exact .inr h1
theorem VL.fresh(h:VL S s l s' o){z:Nat}(hz:z∈o):s z=false:=by
 induction h with
 | nil s=>cases hz
 | skip h _ ih=>exact ih hz
 | @step s s1 s2 y l o1 o2 h a b iha ihb=>
  rcases zzL14.1 hz with h1|h1
  ·exact(upd_false.1 (iha h1)).2
  ·rcases zzL26.1 h1 with rfl|h1
   ·exact h
   ·have:=ihb h1
    cases hs:s z with
    | false=>rfl
    | true=>rw[(a.seen z).2 (.inl (upd_true.2 (.inr hs)))]at this;cases this
theorem VL.nodup(h:VL S s l s' o):o.Nodup:=by
 induction h with
 | nil s=>exact List.nodup_nil
 | skip h _ ih=>exact ih
 | @step s s1 s2 y l o1 o2 h a b iha ihb=>
  rw[List.nodup_append];refine⟨iha,zzL82.2 ⟨λhy=>?_,ihb⟩,λu hu v hv=>?_⟩
  ·have:=b.fresh hy;rw[(a.seen y).2 (.inl (upd_true.2 (.inl rfl)))]at this
   cases this
  ·rintro rfl;rcases zzL26.1 hv with rfl|hv
   ·have:=a.fresh hu;rw[upd_true.2 (.inl rfl)]at this
    cases this
   ·have:=b.fresh hv;rw[(a.seen u).2 (.inr hu)]at this
    cases this
theorem VL.rch(h:VL S s l s' o){z:Nat}(hz:z∈o):∃ y∈l,Rch S y z:=by
 induction h with
 | nil s=>cases hz
 | skip h _ ih=>obtain⟨y,hy,hr⟩:=ih hz;exact⟨y,zzL21 _ hy,hr⟩
 | @step s s1 s2 y l o1 o2 h a b iha ihb=>
  rcases zzL14.1 hz with h1|h1
  ·obtain⟨u,hu,hr⟩:=iha h1;exact⟨y,zzL38 ..,.head hu hr⟩
  ·rcases zzL26.1 h1 with rfl|h1
   ·exact⟨z,zzL38 ..,.refl z⟩
   ·obtain⟨u,hu,hr⟩:=ihb h1;exact⟨u,zzL21 _ hu,hr⟩
theorem VL.closed(h:VL S s l s' o):(∀ y∈l,s' y=true)/\∀ z∈o,∀ y∈S z,s' y=true:=by
 induction h with
 | nil s=>exact⟨(λ_ h=>by cases h),(λ_ h=>by cases h)⟩
 | @skip s s' y l o h t ih=>
  refine⟨λu hu=>?_,ih.2⟩;rcases zzL26.1 hu with rfl|hu
  ·exact(t.seen u).2 (.inl h)
  ·exact ih.1 u hu
 | @step s s1 s2 y l o1 o2 h a b iha ihb=>
  refine⟨λu hu=>?_,λz hz u hu=>?_⟩
  ·rcases zzL26.1 hu with rfl|hu
   ·exact(b.seen u).2 (.inl ((a.seen u).2 (.inl (upd_true.2 (.inl rfl)))))
   ·exact ihb.1 u hu
  ·rcases zzL14.1 hz with h1|h1
   ·exact(b.seen u).2 (.inl (iha.2 z h1 u hu))
   ·rcases zzL26.1 h1 with rfl|h1
    ·exact(b.seen u).2 (.inl (iha.1 u hu))
    ·exact ihb.2 z h1 u hu
theorem VL.above(h:VL S s l s' o)(hf:∀ z,∀ y∈S z,z<y){b:Nat}(hb:∀ y∈l,b<y):∀ z∈o,b<z:=by
 induction h generalizing b with
 | nil s=>intro z hz;cases hz
 | skip h _ ih=>exact ih (λy hy=>hb y (zzL21 _ hy))
 | @step s s1 s2 y l o1 o2 h a c iha ihb=>
  intro z hz;have hy:=hb y (zzL38 ..);rcases zzL14.1 hz with h1|h1
  ·exact iha (λu hu=>Nat.lt_trans hy (hf y u hu)) z h1
  ·rcases zzL26.1 h1 with rfl|h1
   ·exact hy
   ·exact ihb (λu hu=>hb u (zzL21 _ hu)) z h1
theorem VL.ahead(h:VL S s l s' o)(hf:∀ z,∀ y∈S z,z<y):∀ z∈o,∀ y∈S z,s y=true\/∃ A B,o=A++z::B/\y∈A:=by
 induction h with
 | nil s=>intro z hz;cases hz
 | skip h _ ih=>exact ih
 | @step s s1 s2 y l o1 o2 h a c iha ihb=>
  intro z hz u hu;rcases zzL14.1 hz with h1|h1
  ·have hzy:y<z:=a.above hf (λv hv=>hf y v hv) z h1;have hzu:=hf z u hu;rcases iha z h1 u hu with h2|⟨A,B,rfl,hA⟩
   ·rcases upd_true.1 h2 with rfl|h2
    ·omega
    ·exact .inl h2
   ·exact .inr ⟨A,B++y::o2,by simp,hA⟩
  ·rcases zzL26.1 h1 with rfl|h1z
   ·have hzu:=hf z u hu;rcases(a.seen u).1 (a.closed.1 u hu) with h2|h2
    ·rcases upd_true.1 h2 with rfl|h2
     ·omega
     ·exact .inl h2
    ·exact .inr ⟨o1,o2,rfl,h2⟩
   ·rcases ihb z h1z u hu with h2|⟨A,B,rfl,hA⟩
    ·rcases(a.seen u).1 h2 with h3|h3
     ·rcases upd_true.1 h3 with rfl|h3
      ·obtain⟨P,Q,rfl⟩:=List.append_of_mem h1z;exact .inr ⟨o1++u::P,Q,by simp,by simp⟩
      ·exact .inl h3
     ·obtain⟨P,Q,rfl⟩:=List.append_of_mem h1z;exact .inr ⟨o1++y::P,Q,by simp,by simp[h3]⟩
    ·exact .inr ⟨o1++y::A,B,by simp,by simp[hA]⟩
def ZV(n:Nat)(s:Nat->Bool):Nat:=((List.range n).filter λz=>!s z).length
theorem BS{n:Nat}{s:Nat->Bool}{y:Nat}(hy:y<n)(h:s y=false):ZV n (upd s y)+1=ZV n s:=by
 unfold ZV
 induction n with
 | zero=>omega
 | succ n ih=>
  rw[DY,JS,JS,F1,F1]
  by_cases hyn:y=n
  ·subst hyn
   have e:(List.range y).filter (λz=>!upd s y z)=(List.range y).filter (λz=>!s z):=by
    apply List.filter_congr
    intro z hz;have:=zzL44.1 hz;simp[upd,show z≠y by omega]
   rw[e];simp[upd,h]
  ·have:=ih (by omega)
   have e:([n].filter λz=>!upd s y z).length=([n].filter λz=>!s z).length:=by
    simp only[List.filter_cons,List.filter_nil,upd];simp[Ne.symm hyn]
   omega
theorem bP{n:Nat}{s s':Nat->Bool}(h:∀ z,s z=true->s' z=true):ZV n s'<=ZV n s:=by
 unfold ZV
 apply List.Sublist.length_le
 have:(List.range n).filter (λz=>!s' z)=((List.range n).filter λz=>!s z).filter λz=>!s' z:=by
  rw[List.filter_filter]
  apply List.filter_congr
  intro z _
  cases hs:s z with
  | false=>simp
  | true=>simp[h z hs]
 rw[this];exact List.filter_sublist
theorem VL.exist{n:Nat}(hS:∀ z,z<n->∀ y∈S z,y<n):∀(m:Nat) (s:Nat->Bool),ZV n s<=m->∀ l:List Nat,(∀ y∈l,y<n)->∃ s' o,VL S s l s' o:=by
 intro m
 induction m with
 | zero=>
  intro s hm l
  induction l with
  | nil=>intro _;exact⟨s,[],.nil s⟩
  | cons y l ih=>
   intro hl;obtain⟨s',o,h⟩:=ih (λz hz=>hl z (zzL21 _ hz))
   cases hy:s y with
   | true=>exact⟨s',o,.skip hy h⟩
   | false=>have:=BS (hl y (zzL38 ..)) hy;omega
 | succ m ih=>
  intro s hm l
  induction l generalizing s with
  | nil=>intro _;exact⟨s,[],.nil s⟩
  | cons y l ihl=>
   intro hl
   cases hy:s y with
   | true=>
    obtain⟨s',o,h⟩:=ihl s hm (λz hz=>hl z (zzL21 _ hz));exact⟨s',o,.skip hy h⟩
   | false=>
    have hyn:=hl y (zzL38 ..);have:=BS hyn hy;obtain⟨s1,o1,h1⟩:=ih (upd s y) (by omega) (S y) (hS y hyn);have h2:ZV n s1<=ZV n s:=bP λz hz=>(h1.seen z).2 (.inl (upd_true.2 (.inr hz)));obtain⟨s2,o2,h3⟩:=ihl s1 (by omega) (λz hz=>hl z (zzL21 _ hz));exact⟨s2,_,.step hy h1 h3⟩
def one(r:Nat):Nat->Bool:=λz=>decide (z=r)
def Ord(S:Nat->List Nat)(r:Nat)(L:List Nat):Prop:=∃ s' o,VL S (one r) (S r) s' o/\L=r::o.reverse
theorem Ord.exist{n:Nat}(hS:∀ z,z<n->∀ y∈S z,y<n){r:Nat}(hr:r<n):∃ L,Ord S r L:=by
 obtain⟨s',o,h⟩:=VL.exist hS _ (one r) (zzL7 _) (S r) (hS r hr);exact⟨_,s',o,h,rfl⟩
theorem Ord.mem{r:Nat}{L:List Nat}(h:Ord S r L)(z:Nat):z∈L↔Rch S r z:=by
 obtain⟨s',o,h,rfl⟩:=h
 have hs:∀ z,s' z=true↔z=r\/z∈o:=λz=>by rw[h.seen];simp[one]
 have hc:∀ x,s' x=true->∀ y∈S x,s' y=true:=λx hx y hy=>by
  rcases(hs x).1 hx with rfl|hx
  ·exact h.closed.1 y hy
  ·exact h.closed.2 x hx y hy
 simp only[zzL26,zzL102];rw[<- hs z]
 constructor
 ·intro hz;rcases(hs z).1 hz with rfl|hz
  ·exact .refl _
  ·obtain⟨y,hy,hr⟩:=h.rch hz;exact .head hy hr
 ·intro hr
  have key:∀ x z,Rch S x z->s' x=true->s' z=true:=by
   intro x z hxz
   induction hxz with
   | refl x=>exact id
   | head hy _ ih=>exact λhx=>ih (hc _ hx _ hy)
  exact key r z hr ((hs r).2 (.inl rfl))
theorem Ord.nodup{r:Nat}{L:List Nat}(h:Ord S r L):L.Nodup:=by
 obtain⟨s',o,h,rfl⟩:=h;refine zzL82.2 ⟨λhr=>?_,(List.reverse_perm o).nodup_iff.2 h.nodup⟩;have:=h.fresh (zzL102.1 hr);simp[one]at this
theorem Ord.fwd{r:Nat}{L:List Nat}(h:Ord S r L)(hf:∀ z,∀ y∈S z,z<y):∀ z∈L,∀ y∈S z,∃ A B,L=A++z::B/\y∈B:=by
 obtain⟨s',o,h,rfl⟩:=h;intro z hz y hy;have hzy:=hf z y hy;rcases zzL26.1 hz with rfl|hz
 ·refine⟨[],o.reverse,rfl,?_⟩;rcases(h.seen y).1 (h.closed.1 y hy) with h1|h1
  ·simp[one]at h1;omega
  ·exact zzL102.2 h1
 ·have hz:=zzL102.1 hz;have hrz:r<z:=h.above hf (λv hv=>hf r v hv) z hz;rcases h.ahead hf z hz y hy with h1|⟨A,B,rfl,hA⟩
  ·simp[one]at h1;omega
  ·exact⟨r::B.reverse,A.reverse,by simp,zzL102.2 hA⟩
end
theorem jz(l:List Int)(hl:l.length<4611686018427387904):Fy l=some l.reverse:=by
 unfold Fy
 by_cases h0:l.length=0
 ·obtain rfl:l=[]:=zzL112.1 h0
  have:Ad Bq ((0:Int),(w64 ((([]:List Int).length:Int)-1)),([]:List Int))=some []:=by
   apply Ah
   unfold Bq;rw[Jr (by simp) (by simp)]
   rfl
  rw[this];rfl
 ·have hw:w64 ((l.length:Int)-1)=((l.length-1:Nat):Int):=by rw[Jr (by omega) (by omega)];omega
  rw[hw]
  let C:Nat->List Int:=λk=>(List.range l.length).map λi=>if i<k\/l.length-1-k<i then l.getD (l.length-1-i) 0 else l.getD i 0
  have hC:∀ k i,i<l.length->(C k).getD i 0=if i<k\/l.length-1-k<i then l.getD (l.length-1-i) 0 else l.getD i 0:=λk i hi=>by simp only[C];rw[Rj hi]
  have hlen:∀ k,(C k).length=l.length:=λk=>by simp[C]
  have:=F3 Bq (λk=>(((k:Nat):Int),((l.length-1-k:Nat):Int),C k)) l.reverse (l.length / 2) (λk hk=>?_) ?_
  ·have e0:C 0=l:=by
    apply DX (by simp[C])
    intro i h1 h2;have:=hC 0 i h2;rw[Ab _ _ _ h1,Ab _ _ _ h2]at this;rw[this,if_neg (by omega)]
   have this':Ad Bq ((0:Int),((l.length-1:Nat):Int),l)=some l.reverse:=by
    have h2:=this;simp only[e0]at h2;exact h2
   rw[this'];rfl
  ·show Bq (_,_,_)=_
   unfold Bq
   have hlt:k<l.length-1-k:=by omega
   simp only[C5 hlt,Ac,Ap];rw[Aa (Er (by rw[hlen];omega)),Aa (Er (by rw[hlen];omega)),Aa (Er (by rw[hlen];omega)),Aa (Er (by rw[hlen];omega))];rw[w1 (by omega),show w64 (((l.length-1-k:Nat):Int)-1)=((l.length-1-(k+1):Nat):Int) by rw[Jr (by omega) (by omega)];omega]
   congr 4
   rw[hC k _ (by omega),hC k _ (by omega),if_neg (by omega),if_neg (by omega)];simp only[C];rw[AY,AY]
   apply Hm
   intro i hi
   by_cases h1:i=k
   ·subst h1;rw[if_neg (by omega),if_pos rfl,if_pos (by omega)]
   ·by_cases h2:i=l.length-1-k
    ·subst h2;rw[if_pos rfl,if_pos (by omega)]
     congr 1;omega
    ·rw[if_neg h2,if_neg h1]
     by_cases h3:i<k\/l.length-1-k<i
     ·rw[if_pos h3,if_pos (by omega)]
     ·rw[if_neg h3,if_neg (by omega)]
  ·show Bq (_,_,_)=_
   unfold Bq;have hd:decide (((l.length / 2:Nat):Int)<((l.length-1-l.length / 2:Nat):Int))=false:=Cm (by omega);simp only[hd,Ao]
   congr 2
   apply DX (by simp[C])
   intro i h1 h2
   have h3:i<l.length:=by simpa [C] using h1
   have:=hC (l.length / 2) i h3;rw[Ab _ _ _ h1]at this;rw[this,List.getElem_reverse]
   split
   ·rw[Ab _ _ _ (by omega)]
   ·rw[Ab _ _ _ h3]
    congr 1;omega
theorem top{st:List Int}{a:Int}(h:st.length<4611686018427387904):(st++[a]).getD (w64 (((st++[a]).length:Int)-1)).toNat 0=a:=by
 have:w64 (((st++[a]).length:Int)-1)=((st.length:Nat):Int):=by rw[F1,T6,Jr (by omega) (by omega)];omega
 rw[this,Ap];simp[List.getD]
theorem wr{st:List Int}{a:Int}(h:st.length<4611686018427387904):w64 (((st++[a]).length:Int)-1)=((st.length:Nat):Int):=by
 rw[F1,T6,Jr (by omega) (by omega)];omega
theorem pJ{g:TGraph}{R:List Bool}{st T:List Int}{a:Nat}(hst:st.length<64)(ha:a<g.Succ.length)(h64:g.Succ.length<=64)(ht:T.getD a 0=((g.Succ.getD a []).length:Int)) :
  Jl g R (st++[(a:Int)]) T=some (.done (.inl T)):=by
 unfold Jl;simp only[top (st:=st) (a:=(a:Int)) (by omega),Ap];rw[Aa (Er (by omega)),Aa (Er ha),ht,Fe,Ao]
theorem gX{g:TGraph}{R:List Bool}{st T:List Int}{a t y:Nat}(hst:st.length<64)(ha:a<g.Succ.length)(h64:g.Succ.length<=64)(ht:T.getD a 0=(t:Int))(htl:t<(g.Succ.getD a []).length)(htm:t<64)
  (hy:(g.Succ.getD a []).getD t 0=(y:Int)) (hyn:y<g.Succ.length) :
  Jl g R (st++[(a:Int)]) T=bif R.getD y false then some (.next (Fz 64 (0:Int) T a ((t+1:Nat):Int))) else some (.done (.inr (Fz 64 false R y true,Fz 64 (0:Int) T a ((t+1:Nat):Int),(st++[(a:Int)])++[(y:Int)]))):=by
 have hroom:(1000:Nat)<=room:=by decide
 unfold Jl;simp only[top (st:=st) (a:=(a:Int)) (by omega),Ap,ht,hy];rw[Aa (Er (by omega)),Aa (Er ha),C5 htl,Ac,Aa (Er ha),Aa (Er (by omega)),Aa (Er htl),Aa (Er (by omega)),Aa (Er (by omega)),Aa (Er (by omega)),w1 (by omega)]
 cases R.getD y false with
 | true=>rfl
 | false=>
  simp only[Mt,Ac,Ao];rw[Aa (Er (by omega)),Aa (by rw[F1,T6,T6];omega)]
theorem gW{g:TGraph}{R:List Bool}{st T Lf:List Int}{a:Nat}(hst:st.length<64)(hLf:Lf.length<64) :
  Ec g (R,T,st++[(a:Int)],Lf)=(Ad (Jl g R (st++[(a:Int)])) T).bind λx=>match x with
   | .inl T'=>if st=[] then some (.done (Lf++[(a:Int)]).reverse) else some (.next (R,T',st,Lf++[(a:Int)]))
   | .inr (R',T',st')=>some (.next (R',T',st',Lf)):=by
 have hroom:(1000:Nat)<=room:=by decide
 unfold Ec;simp only
 have hb:Bd (w64 (((st++[(a:Int)]).length:Int)-1)) (st++[(a:Int)]).length:=by rw[wr (by omega)];exact Er (by simp)
 rw[Aa hb]
 congr 1
 funext x
 cases x with
 | inr y=>obtain⟨R',T',st'⟩:=y;rfl
 | inl T'=>
  simp only[top (st:=st) (a:=(a:Int)) (by omega)];rw[wr (by omega),Ap,Aa (by rw[T6];omega),Aa ⟨by omega,by simp⟩];have e:(st++[(a:Int)]).take st.length=st:=List.take_left' rfl;rw[e]
  cases st with
  | nil=>
   rw[if_pos rfl]
   have:decide ((0:Int)<(([]:List Int).length:Int))=false:=by decide
   rw[this,Ao,jz _ (by simp;omega)];simp only[Ai];rw[Aa (by simp)]
  | cons b st'=>
   rw[if_neg (by simp)];have:decide ((0:Int)<((b::st').length:Int))=true:=B4 (by simp<;>omega);rw[this,Ac]
theorem eY{S X:Type}{f:S->Option (LR S X)}{a b:S}(h:f a=f b):Ad f a=Ad f b:=by
 cases hb:f b with
 | none=>rw[EO (h.trans hb),EO hb]
 | some r=>cases r with
  | done x=>rw[Ah (h.trans hb),Ah hb]
  | next s=>rw[Ar (h.trans hb),Ar hb]
theorem LI{S X:Type}{f:S->Option (LR S X)}{s:S}:Vq (f s) f=Ad f s:=by
 unfold Vq
 cases hb:f s with
 | none=>rw[EO hb];rfl
 | some r=>cases r with
  | done x=>rw[Ah hb];rfl
  | next s'=>rw[Ar hb];rfl
def sN(L:List (List Int))(k:Nat):List Nat:=(L.getD k []).map Int.toNat
def RelS(R:List Bool)(s:Nat->Bool):Prop:=∀ z,z<64->R.getD z false=s z
theorem S5{α:Type}{d:α}{l:List α}{i:Nat}{x:α}{k:Nat}(hk:k<64):(Fz 64 d l i x).getD k d=if k=i then x else l.getD k d:=by
 rw[Lr hk]
 by_cases h:k=i
 ·subst h;simp
 ·have:Nat.beq k i=false:=by cases hb:Nat.beq k i with|false=>rfl|true=>exact absurd (Cq hb) h
  rw[this,if_neg h];rfl
theorem RelS.set{R:List Bool}{s:Nat->Bool}(h:RelS R s){y:Nat}:RelS (Fz 64 false R y true) (upd s y):=λz hz=>by
 rw[S5 hz,h z hz]
 by_cases hzy:z=y
 ·simp[upd,hzy]
 ·simp[upd,hzy]
def Vi(o:List Nat):List Int:=o.map Int.ofNat
theorem e8{g:TGraph}(hm:Nq g.Succ=true){s s':Nat->Bool}{l o:List Nat}(hv:VL (sN g.Succ) s l s' o) :
  ∀(R:List Bool) (T st Lf:List Int) (a t:Nat),RelS R s->a<g.Succ.length->l=(sN g.Succ a).drop t->T.getD a 0=(t:Int)->t<=(sN g.Succ a).length->s a=true->(∀ z,z<64->s z=false->T.getD z 0=0)->
   Lf.length+ZV 64 s+st.length+1<=64->
   ∃(R':List Bool) (T':List Int),RelS R' s'/\(∀ z,z<64->s' z=false->T'.getD z 0=0)/\(∀ z,z<64->s z=true->z≠a->T'.getD z 0=T.getD z 0)/\Lf.length+o.length+ZV 64 s'+st.length+1<=64 /\
    Ad (Ec g) (R,T,st++[(a:Int)],Lf)=if st=[] then some (Lf++Vi o++[(a:Int)]).reverse else Ad (Ec g) (R',T',st,Lf++Vi o++[(a:Int)]):=by
 obtain⟨hL1,hL64,hLok⟩:=mayS_iff.1 hm
 have hlenS:∀ a,(sN g.Succ a).length=(g.Succ.getD a []).length:=λa=>by simp[sN]
 have hdrop:∀(a t y:Nat) (l':List Nat),a<g.Succ.length->y::l'=(sN g.Succ a).drop t->t<(g.Succ.getD a []).length/\(g.Succ.getD a []).getD t 0=(y:Int)/\y<g.Succ.length/\l'=(sN g.Succ a).drop (t+1):=λa t y l' ha he=>by
  have ht:t<(sN g.Succ a).length:=by
   rcases zzL136 t (sN g.Succ a).length with h|h
   ·exact h
   ·rw[List.drop_eq_nil_of_le h]at he;cases he
  rw[P7 ht]at he;simp only[Dv]at he;obtain⟨h1,h2⟩:=he
  have ht':t<(g.Succ.getD a []).length:=by rw[<- hlenS];exact ht
  obtain⟨b0,b1⟩:=Zz (hLok a ha) ht'
  have h3:(sN g.Succ a)[t]=((g.Succ.getD a []).getD t 0).toNat:=by rw[Ab _ _ _ ht'];simp[sN]
  exact⟨ht',by omega,by omega,h2⟩
 induction hv with
 | nil s=>
  intro R T st Lf a t hR ha hl hT htl hsa hz hc
  have ht:t=(g.Succ.getD a []).length:=by
   have:=Ce List.length hl;simp at this;rw[hlenS]at htl this;omega
  refine⟨R,T,hR,hz,λ_ _ _ _=>rfl,by simpa using hc,?_⟩
  have hF:Ec g (R,T,st++[(a:Int)],Lf)=if st=[] then some (.done (Lf++[(a:Int)]).reverse) else some (.next (R,T,st,Lf++[(a:Int)])):=by
   rw[gW (by omega) (by omega),Ah (pJ (by omega) ha hL64 (by rw[hT,ht]))]
   rfl
  by_cases hst:st=[]
  ·rw[if_pos hst]at hF ⊢;rw[Ah hF];simp[Vi]
  ·rw[if_neg hst]at hF ⊢;rw[Ar hF];simp[Vi]
 | @skip s s' y l o h tl ih=>
  intro R T st Lf a t hR ha hl hT htl hsa hz hc;obtain⟨h1,h2,h3,h4⟩:=hdrop a t y l ha hl;have hb:=CF (hLok a ha);have hs:=gX (g:=g) (R:=R) (st:=st) (T:=T) (a:=a) (t:=t) (y:=y) (by omega) ha hL64 hT h1 (by omega) h2 h3;rw[hR y (by omega),h,Ac]at hs;obtain⟨R',T',a1,a2,a3,a4,a5⟩:=ih R (Fz 64 (0:Int) T a ((t+1:Nat):Int)) st Lf a (t+1) hR ha h4 (by rw[S5 (by omega),if_pos rfl]) (by rw[hlenS];omega) hsa
   (λz hz1 hz2=>by rw[S5 hz1,if_neg (by rintro rfl;rw[hsa]at hz2;cases hz2)];exact hz z hz1 hz2) hc
  refine⟨R',T',a1,a2,λz hz1 hz2 hz3=>by rw[a3 z hz1 hz2 hz3,S5 hz1,if_neg hz3],a4,?_⟩;rw[<- a5]
  apply eY
  rw[gW (by omega) (by omega),gW (by omega) (by omega),Ar hs]
 | @step s s1 s2 y l o1 o2 h tl tr ih1 ih2=>
  intro R T st Lf a t hR ha hl hT htl hsa hz hc;obtain⟨h1,h2,h3,h4⟩:=hdrop a t y l ha hl;have hb:=CF (hLok a ha)
  have hay:y≠a:=by rintro rfl;rw[hsa]at h;cases h
  have hs:=gX (g:=g) (R:=R) (st:=st) (T:=T) (a:=a) (t:=t) (y:=y) (by omega) ha hL64 hT h1 (by omega) h2 h3;rw[hR y (by omega),h,Ao]at hs;have hcu:=BS (n:=64) (show y<64 by omega) h
  have hF:Ec g (R,T,st++[(a:Int)],Lf)=some (.next (Fz 64 false R y true,Fz 64 (0:Int) T a ((t+1:Nat):Int),(st++[(a:Int)])++[(y:Int)],Lf)):=by
   rw[gW (by omega) (by omega),Ah hs]
   rfl
  obtain⟨R1,T1,b1,b2,b3,b4,b5⟩:=ih1 (Fz 64 false R y true) (Fz 64 (0:Int) T a ((t+1:Nat):Int)) (st++[(a:Int)]) Lf y 0 hR.set h3 (by simp)
   (by rw[S5 (by omega),if_neg hay];exact hz y (by omega) h) (Qo _) (upd_true.2 (.inl rfl))
   (λz hz1 hz2=>by
    obtain⟨c1,c2⟩:=upd_false.1 hz2;rw[S5 hz1,if_neg (by rintro rfl;rw[hsa]at c2;cases c2)]
    exact hz z hz1 c2) (by rw[F1,T6];omega)
  rw[if_neg (by simp)]at b5
  have hTa:T1.getD a 0=((t+1:Nat):Int):=by rw[b3 a (by omega) (upd_true.2 (.inr hsa)) (Ne.symm hay),S5 (by omega),if_pos rfl]
  rw[F1,T6]at b4;obtain⟨R2,T2,c1,c2,c3,c4,c5⟩:=ih2 R1 T1 st (Lf++Vi o1++[(y:Int)]) a (t+1) b1 ha h4 hTa (by rw[hlenS];omega) ((tl.seen a).2 (.inl (upd_true.2 (.inr hsa)))) b2
   (by simp only[F1,T6,Vi,T7];omega)
  refine⟨R2,T2,c1,c2,λz hz1 hz2 hz3=>?_,?_,?_⟩
  ·rw[c3 z hz1 ((tl.seen z).2 (.inl (upd_true.2 (.inr hz2)))) hz3,b3 z hz1 (upd_true.2 (.inr hz2)) (by rintro rfl;rw[h]at hz2;cases hz2),S5 hz1,if_neg hz3]
  ·simp only[F1,T6,Vi,T7,U4]at c4 ⊢;omega
  ·rw[Ar hF,b5,c5]
   have e:Lf++Vi o1++[(y:Int)]++Vi o2++[(a:Int)]=Lf++Vi (o1++y::o2)++[(a:Int)]:=by simp[Vi]
   rw[e]
theorem Yj{L:List (List Int)}(h:Nq L=true):∀ z,z<L.length->∀ y∈sN L z,y<L.length:=λz hz y hy=>by
 obtain⟨_,_,h3⟩:=mayS_iff.1 h;obtain⟨x,hx,rfl⟩:=zzL29.1 hy;have:=iJ (h3 z hz) hx;omega
theorem qZ{r:Nat}(hr:r<64):ZV 64 (one r)=63:=by
 have h:=BS (n:=64) (s:=λ_=>false) hr rfl
 have e:upd (λ_=>false) r=one r:=by funext z;simp[upd,one]
 rw[e]at h
 have:ZV 64 (λ_=>false)=64:=by decide
 omega
theorem Tw{α:Type}{n z:Nat}{d:α}:(List.replicate n d).getD z d=d:=by rw[Sq,List.getElem?_replicate];split<;>rfl
theorem YE(g:TGraph)(h:Fits g.Succ)(hP:True)(r:Int) :
  (CS g=true->0<=r->r<(g.Succ.length:Int)->∀ L,Ord (sN g.Succ) r.toNat L->K3 g r=some (Vi L)) /\
  ((CS g&&(decide (0<=r)&&decide (r<(g.Succ.length:Int))))=false->K3 g r=some []):=by
 refine⟨λhm h0 h1 L hL=>?_,λhf=>?_⟩
 ·have hms:Nq g.Succ=true:=by unfold CS at hm;exact(Bc _ _▸hm).1
  obtain⟨hL1,hL64,hLok⟩:=mayS_iff.1 hms;obtain⟨s',o,hv,rfl⟩:=hL;have hrn:((r.toNat:Nat):Int)=r:=Yk h0
  have hr:r.toNat<g.Succ.length:=by omega
  obtain⟨R',T',_,_,_,_,hmain⟩:=e8 hms hv (Fz 64 false (List.replicate 64 false) r.toNat true) (List.replicate 64 (0:Int)) [] [] r.toNat 0
   (λz hz=>by rw[S5 hz,Tw];by_cases hzr:z=r.toNat<;>simp[one,hzr]) hr (by simp) Tw (Qo _) (by simp[one])
   (λz hz _=>Tw) (by rw[qZ (by omega)];simp)
  rw[if_pos rfl,hrn]at hmain;unfold K3;rw[sk _ h,hm,Ai];simp only[Ds,Ss,Ac,Ao,V2,B4 h0,B4 h1,BI,Ai];rw[Aa ⟨h0,by omega⟩];have hF:∀ X,Ad (Ec g) (Fz 64 false (List.replicate 64 false) r.toNat true,List.replicate 64 (0:Int),[]++[r],[])=some X->
    (Vq (Ec g (Fz 64 false (List.replicate 64 false) r.toNat true,List.replicate 64 (0:Int),[r],[])) (Ec g)).bind (λx=>some x)=some X:=λX hX=>by
   rw[LI];rw[U5]at hX;rw[hX];rfl
  refine(hF _ hmain).trans ?_;simp only[U5,List.reverse_append,Vi,Cu,List.map_reverse,List.reverse_cons,List.reverse_nil]
  simp
  omega
 ·unfold K3;rw[sk _ h,Ai]
  cases hm:CS g with
  | false=>rfl
  | true=>
   rw[hm,Hx]at hf;simp only[Ds,Ss,Ac,Ao,V2,hf,Ai,Mt]
   rfl
def RelN(n:Nat)(R:List Bool)(s:Nat->Bool):Prop:=R.length=n/\∀ z,z<n->R.getD z false=s z
theorem RelN.set{n:Nat}{R:List Bool}{s:Nat->Bool}(h:RelN n R s){y:Nat}(hy:y<n):RelN n (R.set y true) (upd s y):=by
 refine⟨by rw[G1];exact h.1,λz hz=>?_⟩;rw[Sq,List.getElem?_set]
 by_cases hzy:y=z
 ·subst hzy;simp[upd,h.1,hy]
 ·rw[if_neg hzy,<- Sq,h.2 z hz];simp[upd,Ne.symm hzy]
theorem Q0:∀(n:Nat) (l:List Nat),l.Nodup->(∀ x∈l,x<n)->l.length<=n
 | 0,l,_,h=>by
  cases l with
  | nil=>simp
  | cons x l=>have:=h x (zzL38 ..);omega
 | n+1,l,hd,h=>by
  by_cases hn:n∈l
  ·have h1:=Q0 n (l.erase n) (hd.erase n) λx hx=>by
    have h2:=(hd.mem_erase_iff).1 hx;have:=h x h2.2;have:=h2.1;omega
   rw[List.length_erase_of_mem hn]at h1;omega
  ·have h1:=Q0 n l hd λx hx=>by
    have:=h x hx
    have:x≠n:=by rintro rfl;exact hn hx
    omega
   omega
theorem QO:∀{a b:List Int},a.Pairwise (·<·)->b.Pairwise (·<·)->(∀ x,x∈a↔x∈b)->a=b
 | [],[],_,_,_=>rfl
 | [],y::b,_,_,h=>by have:=(h y).2 (zzL38 ..);cases this
 | x::a,[],_,_,h=>by have:=(h x).1 (zzL38 ..);cases this
 | x::a,y::b,ha,hb,h=>by
  have ha':=zzL104.1 ha;have hb':=zzL104.1 hb
  have hxy:x=y:=by
   rcases zzL26.1 ((h x).1 (zzL38 ..)) with h1|h1
   ·exact h1
   ·rcases zzL26.1 ((h y).2 (zzL38 ..)) with h2|h2
    ·exact h2.symm
    ·have:=ha'.1 y h2;have:=hb'.1 x h1;omega
  subst hxy
  congr 1
  refine QO ha'.2 hb'.2 λz=>⟨λhz=>?_,λhz=>?_⟩
  ·rcases zzL26.1 ((h z).1 (zzL21 _ hz)) with rfl|h1
   ·have:=ha'.1 z hz;omega
   ·exact h1
  ·rcases zzL26.1 ((h z).2 (zzL21 _ hz)) with rfl|h1
   ·have:=hb'.1 z hz;omega
   ·exact h1
theorem bZ(p:Nat->Bool)(n:Nat):(((List.range n).filter p).map Int.ofNat).Pairwise (·<·):=by
 rw[List.pairwise_map];have:=(List.pairwise_lt_range (n:=n)).filter p
 exact this.imp λh=>by simpa using h
theorem b6{p:Nat->Bool}{n:Nat}{x:Int}:x∈((List.range n).filter p).map Int.ofNat↔∃ k:Nat,x=(k:Int)/\k<n/\p k=true:=by
 simp only[zzL29,zzL64,zzL44]
 constructor
 ·rintro⟨k,⟨h1,h2⟩,rfl⟩;exact⟨k,rfl,h1,h2⟩
 ·rintro⟨k,rfl,h1,h2⟩;exact⟨k,⟨h1,h2⟩,rfl⟩
theorem mr{L:List (List Int)}{k i:Nat}:Zs L k i=true↔(i:Int)∈L.getD k []:=by unfold Zs;rw[zzL68]
theorem mP{b:Bool}{α:Type}{x:α}:(bif b then x else x)=x:=by cases b<;>rfl
def mk(o:List Bool)(l:List Nat):List Bool:=l.foldl (λo y=>o.set y true) o
theorem eg(l:List Nat):∀ o:List Bool,(mk o l).length=o.length:=by
 induction l with
 | nil=>intro o;rfl
 | cons y l ih=>intro o;show(mk (o.set y true) l).length=_;rw[ih,G1]
theorem mk_at{n:Nat}(l:List Nat):∀(o:List Bool),o.length=n->(∀ y∈l,y<n)->∀ z,(mk o l).getD z false=true↔o.getD z false=true\/z∈l:=by
 induction l with
 | nil=>intro o _ _ z;simp[mk]
 | cons y l ih=>
  intro o ho hl z
  show(mk (o.set y true) l).getD z false=true↔_
  rw[ih (o.set y true) (by rw[G1];exact ho) (λu hu=>hl u (zzL21 _ hu)) z];have hy:=hl y (zzL38 ..)
  have e:(o.set y true).getD z false=true↔o.getD z false=true\/z=y:=by
   rw[Sq,List.getElem?_set,Sq]
   by_cases h:y=z
   ·subst h;simp[ho,hy]
   ·simp[h,Ne.symm h]
  rw[e,zzL26]
  constructor
  ·rintro((h|h)|h)
   ·exact .inl h
   ·exact .inr (.inl h)
   ·exact .inr (.inr h)
  ·rintro(h|h|h)
   ·exact .inl (.inl h)
   ·exact .inl (.inr h)
   ·exact .inr h
def sw(S:Nat->List Nat)(o:List Bool):Nat->List Bool
 | 0=>o
 | i+1=>if(sw S o i).getD i false=true then mk (sw S o i) (S i) else sw S o i
def GY(S:Nat->List Nat)(n:Nat)(o:List Bool):Nat->List Bool
 | 0=>o
 | j+1=>sw S (GY S n o j) n
section
variable {S:Nat->List Nat} {n:Nat} (hS:∀ z,z<n->∀ y∈S z,y<n)
theorem Vr(o:List Bool):∀ i,(sw S o i).length=o.length:=by
 intro i
 induction i with
 | zero=>rfl
 | succ i ih=>unfold sw;split;rw[eg,ih];exact ih
theorem Xv(o:List Bool):∀ j,(GY S n o j).length=o.length:=by
 intro j
 induction j with
 | zero=>rfl
 | succ j ih=>unfold GY;rw[Vr,ih]
include hS
theorem ND{o:List Bool}(ho:o.length=n):∀ i,i<=n->∀ z,o.getD z false=true->(sw S o i).getD z false=true:=by
 intro i
 induction i with
 | zero=>intro _ z h;exact h
 | succ i ih=>
  intro hi z h;unfold sw
  split
  ·exact(mk_at (n:=n) _ _ (by rw[Vr];exact ho) (hS i (by omega)) z).2 (.inl (ih (by omega) z h))
  ·exact ih (by omega) z h
theorem oD{o:List Bool}{r:Nat}(ho:o.length=n)(h:∀ z,o.getD z false=true->Rch S r z):∀ i,i<=n->∀ z,(sw S o i).getD z false=true->Rch S r z:=by
 intro i
 induction i with
 | zero=>intro _ z hz;exact h z hz
 | succ i ih=>
  intro hi z hz;unfold sw at hz
  split at hz
  ·rename_i hsi
   rcases(mk_at (n:=n) _ _ (by rw[Vr];exact ho) (hS i (by omega)) z).1 hz with h1|h1
   ·exact ih (by omega) z h1
   ·exact(ih (by omega) i hsi).tail h1
  ·exact ih (by omega) z hz
theorem rq{o:List Bool}(ho:o.length=n):∀ i,i<=n->∀ j,j<i->o.getD j false=true->∀ y∈S j,(sw S o i).getD y false=true:=by
 intro i
 induction i with
 | zero=>intro _ j hj;omega
 | succ i ih=>
  intro hi j hj hoj y hy;unfold sw
  by_cases hji:j=i
  ·subst hji;have h1:=ND hS ho j (by omega) j hoj;rw[if_pos h1];exact(mk_at (n:=n) _ _ (by rw[Vr];exact ho) (hS j (by omega)) y).2 (.inr hy)
  ·have h1:=ih (by omega) j (by omega) hoj y hy
   split
   ·exact(mk_at (n:=n) _ _ (by rw[Vr];exact ho) (hS i (by omega)) y).2 (.inl h1)
   ·exact h1
theorem kZ{o:List Bool}(ho:o.length=n)(hc:∀ j,j<n->o.getD j false=true->∀ y∈S j,o.getD y false=true):∀ i,i<=n->∀ z,(sw S o i).getD z false=true->o.getD z false=true:=by
 intro i
 induction i with
 | zero=>intro _ z h;exact h
 | succ i ih=>
  intro hi z hz;unfold sw at hz
  split at hz
  ·rename_i hsi
   rcases(mk_at (n:=n) _ _ (by rw[Vr];exact ho) (hS i (by omega)) z).1 hz with h1|h1
   ·exact ih (by omega) z h1
   ·exact hc i (by omega) (ih (by omega) i hsi) z h1
  ·exact ih (by omega) z hz
theorem GZ{r:Nat}(hr:r<n)(z:Nat):(GY S n ((List.replicate n false).set r true) n).getD z false=true↔Rch S r z:=by
 let o0:=(List.replicate n false).set r true
 have ho0:o0.length=n:=by simp[o0]
 have hat0:∀ z,o0.getD z false=true↔z=r:=λz=>by
  show((List.replicate n false).set r true).getD z false=true↔z=r
  rw[Sq,List.getElem?_set]
  by_cases h:r=z
  ·subst h;simp[hr]
  ·rw[if_neg h,<- Sq,Tw];simp[Ne.symm h]
 have hlen:∀ j,(GY S n o0 j).length=n:=λj=>by rw[Xv,ho0]
 have hsound:∀ j z,(GY S n o0 j).getD z false=true->Rch S r z:=by
  intro j
  induction j with
  | zero=>intro z hz;rw[(hat0 z).1 hz];exact .refl _
  | succ j ih=>intro z hz;exact oD hS (hlen j) ih n (zzL7 _) z hz
 have hmono:∀ j,∀ z,o0.getD z false=true->(GY S n o0 j).getD z false=true:=by
  intro j
  induction j with
  | zero=>intro z h;exact h
  | succ j ih=>intro z h;exact ND hS (hlen j) n (zzL7 _) z (ih z h)
 let C:Nat->Prop:=λj=>∀ i,i<n->(GY S n o0 j).getD i false=true->∀ y∈S i,(GY S n o0 j).getD y false=true
 have key:∀ j,C j\/ZV n (λz=>(GY S n o0 j).getD z false)+j+1<=n:=by
  intro j
  induction j with
  | zero=>
   refine .inr ?_;have h1:=BS (n:=n) (s:=λ_=>false) hr rfl
   have e:upd (λ_=>false) r=λz=>(GY S n o0 0).getD z false:=by
    funext z
    rw[Qm,upd_true]
    show _↔o0.getD z false=true
    rw[hat0]
    simp
   rw[e]at h1
   have hcl:ZV n (λ_=>false)=n:=by
    unfold ZV;rw[List.filter_eq_self.2 (by simp)]
    simp
   omega
  | succ j ih=>
   by_cases hc:C j
   ·refine .inl λi hi h y hy=>?_;have h1:=kZ hS (hlen j) hc n (zzL7 _) i h;exact ND hS (hlen j) n (zzL7 _) y (hc i hi h1 y hy)
   ·rcases ih with ih|ih
    ·exact(hc ih).elim
    ·refine .inr ?_
     have hex:∃ i,i<n/\(GY S n o0 j).getD i false=true/\∃ y,y∈S i/\(GY S n o0 j).getD y false=false:=by
      simp only[C]at hc;simp only[Classical.not_forall]at hc;obtain⟨i,hi,h1,y,hy,h2⟩:=hc;exact⟨i,hi,h1,y,hy,by simpa using h2⟩
     obtain⟨i,hi,h1,y,hy,h2⟩:=hex;have h3:=rq hS (hlen j) n (zzL7 _) i hi h1 y hy;have hyn:=hS i hi y hy;have h4:=BS (n:=n) (s:=λz=>(GY S n o0 j).getD z false) hyn h2
     have h5:ZV n (λz=>(GY S n o0 (j+1)).getD z false)<=ZV n (upd (λz=>(GY S n o0 j).getD z false) y):=bP λz hz=>by
      rcases upd_true.1 hz with rfl|hz
      ·exact h3
      ·exact ND hS (hlen j) n (zzL7 _) z hz
     omega
 have hC:C n:=by
  rcases key n with h|h
  ·exact h
  ·omega
 constructor
 ·exact hsound n z
 ·intro hrch
  have hlt:∀ x z,Rch S x z->x<n->z<n/\((GY S n o0 n).getD x false=true->(GY S n o0 n).getD z false=true):=by
   intro x z hxz
   induction hxz with
   | refl x=>exact λhx=>⟨hx,id⟩
   | @head x y z hy _ ih=>
    intro hx;have:=ih (hS x hx y hy);exact⟨this.1,λh=>this.2 (hC x hx h y hy)⟩
  exact(hlt r z hrch hr).2 (hmono n r ((hat0 r).2 rfl))
end
theorem qs{L:List (List Int)}(hm:Nq L=true){r:Nat}(hr:r<L.length) :
  Dj (Jw L) (r:Int) (-1:Int)=some (GY (sN L) L.length ((List.replicate L.length false).set r true) L.length):=by
 obtain⟨h1,h2,h3⟩:=mayS_iff.1 hm
 have hroom:(1000:Nat)<=room:=by decide
 have hS:=Yj hm;have hgs:(Jw L).Succ=L:=rfl
 have hlenS:∀ a,(sN L a).length=(L.getD a []).length:=λa=>by simp[sN]
 have hin:∀(o:List Bool) (i:Nat),o.length=L.length->i<L.length->Ad (A1 (Jw L) (-1) (i:Int)) ((0:Int),o)=some (if o.getD i false=true then mk o (sN L i) else o):=λo i ho hi=>by
  have hb:=CF (h3 i hi)
  by_cases hoi:o.getD i false=true
  ·rw[if_pos hoi];have hmi:∀ k,(mk o ((sN L i).take k)).getD i false=true:=λk=>(mk_at (n:=L.length) _ _ ho (λy hy=>hS i hi y (List.mem_of_mem_take hy)) i).2 (.inl hoi)
   have hml:∀ k,(mk o ((sN L i).take k)).length=L.length:=λk=>by rw[eg,ho]
   refine F3 (A1 (Jw L) (-1) (i:Int)) (λk=>(((k:Nat):Int),mk o ((sN L i).take k))) _ (L.getD i []).length (λk hk=>?_) ?_
   ·show A1 (Jw L) (-1) (i:Int) (_,_)=_
    unfold A1;obtain⟨a0,a1⟩:=Zz (h3 i hi) hk;simp only[hgs,Ap,hmi];rw[Aa (Er (by rw[hml];exact hi)),Mp (Er hi),Ac,C5 hk,Ac,Aa (Er hi),Aa (Er hk)]
    have hne:((L.getD i []).getD k 0 !=(-1:Int))=true:=by rw[zzL80];omega
    rw[hne,Ac,Aa (Er hi),Aa (Er hk),Aa ⟨a0,by rw[hml];exact a1⟩,w1 (by omega)]
    have e:mk o ((sN L i).take (k+1))=(mk o ((sN L i).take k)).set ((L.getD i []).getD k 0).toNat true:=by
     have hk':k<(sN L i).length:=by rw[hlenS];exact hk
     rw[dF hk'];unfold mk;rw[List.foldl_append]
     have:(sN L i)[k]=((L.getD i []).getD k 0).toNat:=by rw[Ab _ _ _ hk];simp[sN]
     rw[this]
     rfl
    rw[e]
    rfl
   ·show A1 (Jw L) (-1) (i:Int) (_,_)=_
    unfold A1;simp only[hgs,Ap,hmi];rw[Aa (Er (by rw[hml];exact hi)),Mp (Er hi),Ac,Fe,Ao]
    have:(sN L i).take (L.getD i []).length=sN L i:=by rw[<- hlenS];exact DW ..
    rw[this]
  ·have hof:o.getD i false=false:=by simpa using hoi
   rw[if_neg hoi]
   apply Ah
   unfold A1;simp only[hgs,Ap,hof];rw[Aa (Er (by rw[ho];exact hi)),Mp (Er hi),Ao,Ao]
 have hsw:∀ o:List Bool,o.length=L.length->Ad (A9 (Jw L) (-1)) ((0:Int),o)=some (sw (sN L) o L.length):=λo ho=>by
  refine F3 (A9 (Jw L) (-1)) (λi=>(((i:Nat):Int),sw (sN L) o i)) _ L.length (λi hi=>?_) ?_
  ·show A9 (Jw L) (-1) (_,_)=_
   unfold A9
   have hl:(sw (sN L) o i).length=L.length:=by rw[Vr,ho]
   simp only[hl,C5 hi,Ac];rw[hin _ i hl hi,w1 (by omega)]
   rfl
  ·show A9 (Jw L) (-1) (_,_)=_
   unfold A9
   have hl:(sw (sN L) o L.length).length=L.length:=by rw[Vr,ho]
   simp only[hl,Fe,Ao]
 unfold Dj;simp only[hgs,Ap];rw[Aa ⟨by omega,Int.le_refl _,by omega⟩]
 have hne:((r:Int)==(-1:Int))=false:=by rw[zzL20];omega
 rw[hne,Ao,Aa (Er (by simpa using hr))]
 have hl0:((List.replicate L.length false).set r true).length=L.length:=by simp
 have:Ad (Ba (Jw L) (-1)) ((0:Int),(List.replicate L.length false).set r true)=some (GY (sN L) L.length ((List.replicate L.length false).set r true) L.length):=by
  refine F3 (Ba (Jw L) (-1)) (λj=>(((j:Nat):Int),GY (sN L) L.length ((List.replicate L.length false).set r true) j)) _ L.length (λj hj=>?_) ?_
  ·show Ba (Jw L) (-1) (_,_)=_
   unfold Ba
   have hl:(GY (sN L) L.length ((List.replicate L.length false).set r true) j).length=L.length:=by rw[Xv,hl0]
   simp only[hl,C5 hj,Ac];rw[hsw _ hl,w1 (by omega)]
   rfl
  ·show Ba (Jw L) (-1) (_,_)=_
   unfold Ba
   have hl:(GY (sN L) L.length ((List.replicate L.length false).set r true) L.length).length=L.length:=by rw[Xv,hl0]
   simp only[hl,Fe,Ao]
 rw[this]
 rfl
def pos:List Nat->Nat->Nat
 | [],_=>0
 | x::l,z=>if x=z then 0 else pos l z+1
theorem PV(x:Nat)(l:List Nat)(z:Nat):pos (x::l) z=if x=z then 0 else pos l z+1:=rfl
theorem rP{A l:List Nat}{z:Nat}(h:z∉A):pos (A++l) z=A.length+pos l z:=by
 induction A with
 | nil=>simp
 | cons x A ih=>
  have h1:x≠z:=λe=>h (by rw[e];exact zzL38 ..);have h2:z∉A:=λe=>h (zzL21 _ e);rw[BG,PV,if_neg h1,ih h2,U4];omega
theorem MY{P:List Nat}(hd:P.Nodup){i:Nat}(hi:i<P.length):P[i]∉P.take i/\pos P P[i]=i:=by
 have e:P=P.take i++P[i]::P.drop (i+1):=by rw[<- P7 hi,List.take_append_drop]
 have hn:P[i]∉P.take i:=by
  rw[e]at hd;have:=(List.nodup_append.1 hd).2.2;exact λhm=>this _ hm _ (zzL38 ..) rfl
 refine⟨hn,?_⟩
 have h2:pos (P.take i++P[i]::P.drop (i+1)) P[i]=i:=by
  rw[rP hn]
  have:pos (P[i]::P.drop (i+1)) P[i]=0:=by rw[PV,if_pos rfl]
  rw[this,EY];omega
 rw[<- e]at h2;exact h2
theorem lz{n:Nat}{p:Nat->Bool}:(List.range (n+1)).all p=((List.range n).all p&&p n):=by
 rw[DY,List.all_append];simp
theorem bR(d:Array Int)(hs:∀ i j,i<=j->j<d.size->d[i]!<=d[j]!):∀ m,m<=d.size->(∀ x∈Lib.compactUpTo d m,∃ j,j<m/\x=d[j]!)/\(∀ j,j<m->d[j]!∈Lib.compactUpTo d m)/\(Lib.compactUpTo d m).Pairwise (·<·):=by
 intro m
 induction m with
 | zero=>intro _;exact⟨(λx hx=>by simp[Lib.compactUpTo]at hx),(λj hj=>by omega),by simp[Lib.compactUpTo]⟩
 | succ m ih=>
  intro hm;obtain⟨h1,h2,h3⟩:=ih (by omega);rw[Lib.compactUpTo_succ]
  cases hk:Lib.keeps d m with
  | true=>
   rw[if_pos rfl];refine⟨λx hx=>?_,λj hj=>?_,?_⟩
   ·rcases zzL14.1 hx with h|h
    ·obtain⟨j,hj,he⟩:=h1 x h;exact⟨j,by omega,he⟩
    ·exact⟨m,by omega,by simpa using h⟩
   ·by_cases hjm:j=m
    ·subst hjm;simp
    ·exact zzL14.2 (.inl (h2 j (by omega)))
   ·rw[zzL128];refine⟨h3,List.pairwise_singleton _ _,λx hx y hy=>?_⟩;obtain⟨j,hj,rfl⟩:=h1 x hx
    have hy':y=d[m]!:=by simpa using hy
    subst hy'
    have hk':m=0\/d[m]!≠d[m-1]!:=by simpa [Lib.keeps] using hk
    rcases hk' with h0|h0
    ·omega
    ·have a1:=hs j (m-1) (by omega) (by omega);have a2:=hs (m-1) m (by omega) (by omega);omega
  | false=>
   have hk':m≠0/\d[m]! = d[m-1]!:=by
    have:¬ (m=0\/d[m]!≠d[m-1]!):=by
     intro h
     have:Lib.keeps d m=true:=by simpa [Lib.keeps] using h
     rw[hk]at this;cases this
    exact⟨λh=>this (.inl h),Classical.not_not.1 λh=>this (.inr h)⟩
   simp only[HM,Hy,List.append_nil];refine⟨λx hx=>by obtain⟨j,hj,he⟩:=h1 x hx;exact⟨j,by omega,he⟩,λj hj=>?_,h3⟩
   by_cases hjm:j=m
   ·subst hjm;rw[hk'.2];exact h2 _ (by omega)
   ·exact h2 j (by omega)
def LF(l:List Int):List Int:=Lib.compact (l.mergeSort λx y=>decide (x<=y))
theorem VS(l:List Int):(LF l).Pairwise (·<·)/\∀ x,x∈LF l↔x∈l:=by
 unfold LF Lib.compact;have hp:(l.mergeSort λx y=>decide (x<=y)).Pairwise (λa b=>decide (a<=b)=true):=List.pairwise_mergeSort (λa b c h1 h2=>by simp at *;omega) (λa b=>by simp;omega) l;have hm:∀ x,x∈(l.mergeSort λx y=>decide (x<=y))↔x∈l:=λx=>List.mem_mergeSort
 generalize l.mergeSort (λx y=>decide (x<=y))=z at hp hm ⊢
 have hz:∀ j,j<z.length->z.toArray[j]! = z.getD j 0:=λj hj=>by simp[List.getD,hj]
 obtain⟨h1,h2,h3⟩:=bR z.toArray (λi j hij hj=>by
  have hj':j<z.length:=by simpa using hj
  rw[hz i (by omega),hz j hj']
  by_cases he:i=j
  ·rw[he];exact Int.le_refl _
  ·have:=(zzL105.1 hp) i j (by omega) hj' (by omega);rw[Ab _ _ _ (by omega),Ab _ _ _ hj']
   simpa using this) z.length (by simp)
 refine⟨h3,λx=>?_⟩;rw[<- hm x]
 constructor
 ·intro hx;obtain⟨j,hj,rfl⟩:=h1 x hx;rw[hz j hj];exact getD_mem hj
 ·intro hx;obtain⟨j,hj,rfl⟩:=P9 hx;have:=h2 j hj;rwa[hz j hj,Ab _ _ _ hj]at this
def oF(n:Nat)(l:List Int):Bool:=(List.range l.length).all λi=>decide (0<l.getD i 0)&&decide (l.getD i 0<(n:Int))
def LM(k:Int):Int:=([0,1,2,0]:List Int).getD k.toNat 0
def GD(e:N6):Bool:=(decide (0<=e.Kind)&&decide (e.Kind<=3))&&decide ((e.To.length:Int)=LM e.Kind)
def Oe(e:N6)(n:Nat):Bool:=GD e&&oF n e.To
theorem toB_iff{n:Nat}{l:List Int}:oF n l=true↔∀ x∈l,0<x/\x<n:=by
 unfold oF;rw[all_range];simp only[Bc,Ff]
 constructor
 ·intro h x hx;obtain⟨i,hi,rfl⟩:=P9 hx;have:=h i hi;rwa[Ab _ _ _ hi]at this
 ·intro h i hi;exact h _ (getD_mem hi)
theorem mf(e:N6)(n:Nat)(hl:e.To.length<4611686018427387904):Ad (Dc e (n:Int)) (0:Int)=some (bif oF n e.To then .inl () else .inr false):=by
 have step:∀ j:Nat,j<e.To.length->Dc e (n:Int) (j:Int)=bif (decide (0<e.To.getD j 0)&&decide (e.To.getD j 0<(n:Int))) then some (.next (((j+1:Nat):Int))) else some (.done (.inr false)):=λj hj=>by
  unfold Dc;simp only[Ap,C5 hj,Ac,V2,w1 (show j<4611686018427387904 by omega)];rw[Aa (Er hj)]
  by_cases h0:e.To.getD j 0=0
  ·rw[h0];rfl
  ·have:(e.To.getD j 0==0)=false:=by rw[zzL20];exact h0
   rw[this];simp only[Ss,Ac,Ao,Ai]
   have e1:decide (0<e.To.getD j 0)=decide (0<=e.To.getD j 0):=by apply zzL60.2;omega
   rw[e1]
   cases(decide (0<=e.To.getD j 0)&&decide (e.To.getD j 0<(n:Int)))<;>rfl
 have:=Ij (Dc e (n:Int)) (λj=>((j:Nat):Int)) (λi=>decide (0<e.To.getD i 0)&&decide (e.To.getD i 0<(n:Int))) (.inl ()) (.inr false) e.To.length (λj hj hp=>?_) (λj hj hp=>?_) ?_
 ·exact this
 ·show Dc e (n:Int) (j:Int)=_
  rw[step j hj,hp];rfl
 ·show Dc e (n:Int) (j:Int)=_
  rw[step j hj,hp];rfl
 ·show Dc e (n:Int) _=_
  unfold Dc;simp only[Fe,Ao]
theorem FY(e:N6)(n:Nat)(w:Int)(hw:0<=w/\w<=2) :
  (bif ((e.To.length:Int)!=w) then(some false) else((Ad (Dc e (n:Int)) (0:Int)).bind (λx10=>(match x10 with|(.inl _)=>(some true)|(.inr r12)=>(some r12)))))=some (decide ((e.To.length:Int)=w)&&oF n e.To):=by
 by_cases h:(e.To.length:Int)=w
 ·rw[show((e.To.length:Int)!=w)=false by simpa using h,Ao,mf e n (by omega),B4 h]
  cases oF n e.To<;>rfl
 ·rw[show((e.To.length:Int)!=w)=true by simpa using h,Ac,Cm h];rfl
theorem jv(e:N6)(n:Nat):Ov e (n:Int)=some (Oe e n):=by
 unfold Ov Oe GD
 by_cases h0:e.Kind=0
 ·rw[h0];exact FY e n 0 (by omega)
 by_cases h1:e.Kind=1
 ·rw[h1];exact FY e n 1 (by omega)
 by_cases h2:e.Kind=2
 ·rw[h2];exact FY e n 2 (by omega)
 by_cases h3:e.Kind=3
 ·rw[h3];exact FY e n 0 (by omega)
 have e0:(e.Kind==0)=false:=by rw[zzL20];exact h0
 have e1:(e.Kind==1)=false:=by rw[zzL20];exact h1
 have e2:(e.Kind==2)=false:=by rw[zzL20];exact h2
 have e3:(e.Kind==3)=false:=by rw[zzL20];exact h3
 rw[e0,e1,e2,e3]
 have:(decide (0<=e.Kind)&&decide (e.Kind<=3))=false:=by
  by_cases h:0<=e.Kind
  ·rw[Cm (show ¬ e.Kind<=3 by omega)];simp
  ·rw[Cm h];rfl
 rw[this]
 rfl
theorem mj{e:N6}{n:Nat}(h:Oe e n=true):e.To.length<=2:=by
 unfold Oe GD at h;simp only[Bc,Ff]at h;obtain⟨⟨⟨h0,h1⟩,h2⟩,_⟩:=h
 have:LM e.Kind<=2:=by
  have:e.Kind=0\/e.Kind=1\/e.Kind=2\/e.Kind=3:=by omega
  rcases this with h|h|h|h<;>rw[h]<;>decide
 omega
theorem g6{e:N6}{n:Nat}(h:Oe e n=true):oF n e.To=true:=by unfold Oe at h;exact(Bc _ _▸h).2
def Bt(f:TFunc)(i:Nat):N6:=(f.Blocks.getD i (default:An)).End
def Ct(f:TFunc):List (List Int):=(List.range f.Blocks.length).map λi=>LF (Bt f i).To
def N8(f:TFunc):Bool:=(decide (1<=f.Blocks.length)&&decide (f.Blocks.length<=64))&&(List.range f.Blocks.length).all λi=>Oe (Bt f i) f.Blocks.length
theorem shape_iff{f:TFunc}:N8 f=true↔(1<=f.Blocks.length/\f.Blocks.length<=64)/\∀ i,i<f.Blocks.length->Oe (Bt f i) f.Blocks.length=true:=by
 unfold N8;rw[Bc,Bc,all_range];simp only[Ff]
theorem rg{f:TFunc}{i:Nat}(h:Oe (Bt f i) f.Blocks.length=true):iH f.Blocks.length (LF (Bt f i).To)=true:=by
 obtain⟨h1,h2⟩:=VS (Bt f i).To;exact uR (λx hx=>by have:=(toB_iff.1 (g6 h)) x ((h2 x).1 hx);omega) h1
theorem Ry{f:TFunc}(h:N8 f=true):Nq (Ct f)=true:=by
 obtain⟨⟨h1,h2⟩,h3⟩:=shape_iff.1 h
 have hl:(Ct f).length=f.Blocks.length:=by simp[Ct]
 refine mayS_iff.2 ⟨by omega,by omega,λi hi=>?_⟩;rw[hl]at hi ⊢;unfold Ct;rw[Rj hi];exact rg (h3 i hi)
theorem yU(f:TFunc)(hf:f.Blocks.length<=maxLen):W9 f=some (bif N8 f then(Jw (Ct f),0) else(g0,5)):=by
 have hroom:(1000:Nat)<=room:=by decide
 unfold W9;rw[UW,Ai];have hsh:N8 f=((decide (1<=f.Blocks.length)&&decide (f.Blocks.length<=64))&&(List.range f.Blocks.length).all λi=>Oe (Bt f i) f.Blocks.length):=rfl
 cases hc:(decide (1<=f.Blocks.length)&&decide (f.Blocks.length<=64)) with
 | false=>rw[hsh,hc];rfl
 | true=>
  have hc':=hc;simp only[Bc,Ff]at hc';simp only[Ds,Ao];rw[Aa ⟨by omega,Int.le_refl _,by omega⟩,Ap]
  let U:Nat->List (List Int):=λi=>(List.range f.Blocks.length).map λj=>if j<i then LF (Bt f j).To else[]
  have e0:List.replicate f.Blocks.length ([]:List Int)=U 0:=by
   simp only[U]
   apply List.ext_getElem?
   intro j
   by_cases hj:j<f.Blocks.length<;>simp[hj,List.getElem?_replicate]
  have eN:U f.Blocks.length=Ct f:=by
   simp only[U,Ct]
   apply Hm
   intro j hj;rw[if_pos hj]
  rw[e0]
  have hstep:∀ i:Nat,i<f.Blocks.length->H2 f ((i:Int),U i)=bif Oe (Bt f i) f.Blocks.length then some (.next (((i+1:Nat):Int),U (i+1))) else some (.done (.inr (g0,5))):=λi hi=>by
   unfold H2;simp only[C5 hi,Ac,Ap];rw[Aa (Er hi)];have he:(⟨(f.Blocks.getD i (default:An)).End.Kind,(f.Blocks.getD i (default:An)).End.Arg,(f.Blocks.getD i (default:An)).End.To⟩:N6)=Bt f i:=rfl;rw[he,jv,Ai]
   cases hfit:Oe (Bt f i) f.Blocks.length with
   | false=>rfl
   | true=>
    have hl2:=mj hfit;simp only[Ds,Ao,Ac]
    have hx:HK (f.Blocks.getD i (default:An)).End.To=some (LF (Bt f i).To):=by
     unfold HK;rw[hZ,Aa (by show(Bt f i).To.length<=_;omega)]
     rfl
    rw[hx,Ai,Aa (Er (by simp[U];omega)),w1 (by omega)]
    congr 3
    simp only[U];rw[AY]
    apply Hm
    intro j hj
    by_cases h1:j=i
    ·subst h1;rw[if_pos rfl,if_pos (by omega)]
    ·rw[if_neg h1]
     by_cases h2:j<i
     ·rw[if_pos h2,if_pos (by omega)]
     ·rw[if_neg h2,if_neg (by omega)]
  have:=Ij (H2 f) (λi=>(((i:Nat):Int),U i)) (λi=>Oe (Bt f i) f.Blocks.length) (.inl (U f.Blocks.length)) (.inr (g0,5)) f.Blocks.length (λi hi hp=>?_) (λi hi hp=>?_) ?_
  ·rw[show Ad (H2 f) ((0:Int),U 0)=_ from this,hsh,hc,eN,Hx]
   cases hall:(List.range f.Blocks.length).all λi=>Oe (Bt f i) f.Blocks.length with
   | false=>rfl
   | true=>
    simp only[Ac,Ai];rw[bs _ (Ry (by rw[hsh,hc,hall];rfl))]
    rfl
  ·show H2 f (_,_)=_
   rw[hstep i hi,hp];rfl
  ·show H2 f (_,_)=_
   rw[hstep i hi,hp];rfl
  ·show H2 f (_,_)=_
   unfold H2;simp only[Fe,Ao]
def HA(l:List Int)(k:Nat):List Int:=((List.range k).filter λz:Nat=>decide (1<=z)&&l.contains (z:Int)).map Int.ofNat
theorem nu{n:Nat}{l:List Int}(h:oF n l=true):HA l n=LF l:=by
 obtain⟨h1,h2⟩:=VS l;refine QO (bZ _ _) h1 λx=>?_;rw[h2 x];unfold HA;rw[b6]
 constructor
 ·rintro⟨k,rfl,_,hk⟩;simp only[Bc]at hk;exact zzL68.1 hk.2
 ·intro hx;have:=(toB_iff.1 h) x hx;refine⟨x.toNat,by omega,by omega,?_⟩;rw[Yk (by omega),zzL68.2 hx,B4 (by omega)]
  rfl
theorem kP(f:TFunc)(i:Nat)(hl:(Bt f i).To.length<4611686018427387904):Ad (Cw f (i:Int)) (0:Int)=some (bif oF f.Blocks.length (Bt f i).To then .inl () else .inr (g0,5)):=by
 have hE:(f.Blocks.getD i (default:An)).End=Bt f i:=rfl
 have step:∀ j:Nat,j<(Bt f i).To.length->Cw f (i:Int) (j:Int)=bif (decide (0<(Bt f i).To.getD j 0)&&decide ((Bt f i).To.getD j 0<(f.Blocks.length:Int))) then some (.next (((j+1:Nat):Int))) else some (.done (.inr (g0,5))):=λj hj=>by
  unfold Cw;simp only[Ap,hE,C5 hj,Ac,w1 (show j<4611686018427387904 by omega)];rw[Aa (Er hj),Mp (Er hj)]
  by_cases h0:(Bt f i).To.getD j 0<=0
  ·rw[B4 h0,Cm (show ¬ 0<(Bt f i).To.getD j 0 by omega)];rfl
  ·rw[Cm h0,B4 (show 0<(Bt f i).To.getD j 0 by omega)]
   by_cases h1:(f.Blocks.length:Int)<=(Bt f i).To.getD j 0
   ·rw[B4 h1,Cm (show ¬ (Bt f i).To.getD j 0<(f.Blocks.length:Int) by omega)];rfl
   ·rw[Cm h1,B4 (show(Bt f i).To.getD j 0<(f.Blocks.length:Int) by omega)];rfl
 have:=Ij (Cw f (i:Int)) (λj=>((j:Nat):Int)) (λk=>decide (0<(Bt f i).To.getD k 0)&&decide ((Bt f i).To.getD k 0<(f.Blocks.length:Int))) (.inl ()) (.inr (g0,5)) (Bt f i).To.length (λj hj hp=>?_) (λj hj hp=>?_) ?_
 ·exact this
 ·show Cw f (i:Int) (j:Int)=_
  rw[step j hj,hp];rfl
 ·show Cw f (i:Int) (j:Int)=_
  rw[step j hj,hp];rfl
 ·show Cw f (i:Int) _=_
  unfold Cw;simp only[Ap,hE,Fe,Ao]
theorem kQ(f:TFunc)(i:Nat)(hn:1<=f.Blocks.length/\f.Blocks.length<=64)(hl:(Bt f i).To.length<4611686018427387904):Ad (Cx f (i:Int)) (([]:List Int),(1:Int))=some (HA (Bt f i).To f.Blocks.length):=by
 have hroom:(1000:Nat)<=room:=by decide
 have hE:(f.Blocks.getD i (default:An)).End=Bt f i:=rfl
 have e0:HA (Bt f i).To 1=[]:=by unfold HA;simp
 have key:=F3 (Cx f (i:Int)) (λk=>(HA (Bt f i).To (k+1),((k+1:Nat):Int))) (HA (Bt f i).To f.Blocks.length) (f.Blocks.length-1) (λk hk=>?_) ?_
 ·rw[show Ad (Cx f (i:Int)) (([]:List Int),(1:Int))=Ad (Cx f (i:Int)) (HA (Bt f i).To 1,(1:Int)) by rw[e0]];exact key
 ·show Cx f (i:Int) (_,_)=_
  unfold Cx
  have hlen:(HA (Bt f i).To (k+1)).length<=k+1:=by
   unfold HA;rw[T7];have:=List.length_filter_le (λz:Nat=>decide (1<=z)&&(Bt f i).To.contains ((z:Nat):Int)) (List.range (k+1))
   simpa using this
  simp only[Ap,hE,C5 (show k+1<f.Blocks.length by omega),Ac];rw[nG _ _ hl,Ai,w1 (by omega)]
  have hs:HA (Bt f i).To (k+1+1)=HA (Bt f i).To (k+1)++(if(Bt f i).To.contains (((k+1:Nat)):Int)=true then[((k+1:Nat):Int)] else[]):=by
   unfold HA;rw[DY,JS,BH]
   congr 1
   cases hg:(Bt f i).To.contains (((k+1:Nat)):Int) with
   | true=>rw[List.filter_cons,hg];simp
   | false=>rw[List.filter_cons,hg];simp
  rw[hs]
  cases hg:(Bt f i).To.contains (((k+1:Nat)):Int) with
  | true=>
   rw[Ac,Aa (by rw[T6];omega)]
   rfl
  | false=>rw[Ao];simp
 ·show Cx f (i:Int) (_,_)=_
  unfold Cx;simp only[show f.Blocks.length-1+1=f.Blocks.length by omega,Fe,Ao]
theorem bv(f:TFunc)(hf:f.Blocks.length<=maxLen):Jo f=some (bif N8 f then(Jw (Ct f),0) else(g0,5)):=by
 have hroom:(1000:Nat)<=room:=by decide
 unfold Jo
 have hc:(bif ((f.Blocks.length:Int)==(0:Int)) then true else decide ((64:Int)<(f.Blocks.length:Int))) = !(decide (1<=f.Blocks.length)&&decide (f.Blocks.length<=64)):=by
  by_cases h0:f.Blocks.length=0
  ·rw[h0];rfl
  ·rw[show((f.Blocks.length:Int)==0)=false by simp only[zzL20];omega,B4 (show 1<=f.Blocks.length by omega)]
   by_cases h1:f.Blocks.length<=64
   ·rw[B4 h1,Cm (show ¬ (64:Int)<(f.Blocks.length:Int) by omega)];rfl
   ·rw[Cm h1,B4 (show(64:Int)<(f.Blocks.length:Int) by omega)];rfl
 rw[hc];have hsh:N8 f=((decide (1<=f.Blocks.length)&&decide (f.Blocks.length<=64))&&(List.range f.Blocks.length).all λi=>Oe (Bt f i) f.Blocks.length):=rfl
 cases hb:(decide (1<=f.Blocks.length)&&decide (f.Blocks.length<=64)) with
 | false=>rw[hsh,hb];rfl
 | true=>
  have hb':=hb;simp only[Bc,Ff]at hb';simp only[Ds,Ao]
  let U:Nat->List (List Int):=λi=>(List.range i).map λj=>HA (Bt f j).To f.Blocks.length
  have hstep:∀ i:Nat,i<f.Blocks.length->Cy f (U i,(i:Int))=bif Oe (Bt f i) f.Blocks.length then some (.next (U (i+1),((i+1:Nat):Int))) else some (.done (.inr (g0,5))):=λi hi=>by
   unfold Cy;have hE:(f.Blocks.getD i (default:An)).End=Bt f i:=rfl;simp only[C5 hi,Ac,Ap,hE];rw[Aa (Er hi),w1 (by omega)]
   by_cases hk:0<=(Bt f i).Kind/\(Bt f i).Kind<=3
   ·rw[Cm (show ¬ (Bt f i).Kind<0 by omega),Cm (show ¬ (3:Int)<(Bt f i).Kind by omega)];simp only[Ao];rw[Mp (show Bd (Bt f i).Kind ([(0:Int),1,2,0]:List Int).length from⟨hk.1,by show(Bt f i).Kind<4;omega⟩)];have hw:([(0:Int),1,2,0]:List Int).getD (Bt f i).Kind.toNat 0=LM (Bt f i).Kind:=rfl;rw[hw]
    have hkb:GD (Bt f i)=decide (((Bt f i).To.length:Int)=LM (Bt f i).Kind):=by
     unfold GD;rw[B4 hk.1,B4 hk.2];rfl
    unfold Oe;rw[hkb]
    by_cases hl:((Bt f i).To.length:Int)=LM (Bt f i).Kind
    ·have hw2:LM (Bt f i).Kind<=2:=by
      have:(Bt f i).Kind=0\/(Bt f i).Kind=1\/(Bt f i).Kind=2\/(Bt f i).Kind=3:=by omega
      rcases this with h|h|h|h<;>rw[h]<;>decide
     rw[show(((Bt f i).To.length:Int)!=LM (Bt f i).Kind)=false by simpa using hl,B4 hl,Ao,kP f i (by omega),Hx]
     cases htb:oF f.Blocks.length (Bt f i).To with
     | false=>rfl
     | true=>
      simp only[Ac,Ai];rw[kQ f i hb' (by omega)];simp only[Ai];rw[Aa (by simp only[U,T7,DT,T6];omega)]
      congr 3
      simp only[U];rw[DY,BH]
      rfl
    ·rw[show(((Bt f i).To.length:Int)!=LM (Bt f i).Kind)=true by simpa using hl,Cm hl];rfl
   ·have hbad:(bif decide ((Bt f i).Kind<0) then true else decide ((3:Int)<(Bt f i).Kind))=true:=by
     by_cases h0:(Bt f i).Kind<0
     ·rw[B4 h0];rfl
     ·rw[Cm h0,B4 (show(3:Int)<(Bt f i).Kind by omega)];rfl
    have hkb:GD (Bt f i)=false:=by
     unfold GD
     by_cases h0:0<=(Bt f i).Kind
     ·rw[Cm (show ¬ (Bt f i).Kind<=3 by omega)];simp
     ·rw[Cm h0];simp
    simp only[hbad];rw[Aa (by intro h;cases h)];unfold Oe;rw[hkb]
    rfl
  have:=Ij (Cy f) (λi=>(U i,((i:Nat):Int))) (λi=>Oe (Bt f i) f.Blocks.length) (.inl (U f.Blocks.length)) (.inr (g0,5)) f.Blocks.length (λi hi hp=>?_) (λi hi hp=>?_) ?_
  ·rw[show Ad (Cy f) (([]:List (List Int)),(0:Int))=_ from this,hsh,hb,Hx]
   cases hall:(List.range f.Blocks.length).all λi=>Oe (Bt f i) f.Blocks.length with
   | false=>rfl
   | true=>
    have hshape:N8 f=true:=by rw[hsh,hb,hall];rfl
    have hm:=Ry hshape
    have hU:U f.Blocks.length=Ct f:=by
     simp only[U,Ct]
     apply Hm
     intro j hj;exact nu (g6 ((shape_iff.1 hshape).2 j hj))
    simp only[Ac,Ai];rw[hU,OW _ (Tz (S8 hm)),hm]
    rfl
  ·show Cy f (_,_)=_
   rw[hstep i hi,hp];rfl
  ·show Cy f (_,_)=_
   rw[hstep i hi,hp];rfl
  ·show Cy f (_,_)=_
   unfold Cy;simp only[Fe,Ao]
inductive Rc (S:Nat->List Nat) (r:Nat):Nat->Prop
 | root:Rc S r r
 | step {x y:Nat} (h:Rc S r x) (hy:y∈S x):Rc S r y
inductive Av (S:Nat->List Nat) (r z:Nat):Nat->Prop
 | root (h:r≠z):Av S r z r
 | step {x y:Nat} (h:Av S r z x) (hy:y∈S x) (hz:y≠z):Av S r z y
inductive AvN (S:Nat->List Nat) (r z:Nat):Nat->Nat->Prop
 | root (h:r≠z) (k:Nat):AvN S r z k r
 | step {k x y:Nat} (h:AvN S r z k x) (hy:y∈S x) (hz:y≠z):AvN S r z (k+1) y
section
variable {S:Nat->List Nat} {r:Nat}
theorem rc_iff{x:Nat}:Rc S r x↔Rch S r x:=by
 constructor
 ·intro h
  induction h with
  | root=>exact .refl _
  | step _ hy ih=>exact ih.tail hy
 ·intro h
  have key:∀ a b,Rch S a b->Rc S r a->Rc S r b:=by
   intro a b hab
   induction hab with
   | refl x=>exact id
   | head hy _ ih=>exact λha=>ih (.step ha hy)
  exact key _ _ h .root
def wo(S:Nat->List Nat)(z:Nat):Nat->List Nat:=λx=>(S x).filter λy=>decide (y≠z)
theorem av_iff{z x:Nat}:Av S r z x↔r≠z/\Rch (wo S z) r x:=by
 constructor
 ·intro h
  induction h with
  | root h=>exact⟨h,.refl _⟩
  | step _ hy hz ih=>exact⟨ih.1,ih.2.tail (zzL64.2 ⟨hy,by simpa using hz⟩)⟩
 ·rintro⟨hr,h⟩
  have key:∀ a b,Rch (wo S z) a b->Av S r z a->Av S r z b:=by
   intro a b hab
   induction hab with
   | refl x=>exact id
   | head hy _ ih=>
    obtain⟨h1,h2⟩:=zzL64.1 hy;exact λha=>ih (.step ha h1 (by simpa using h2))
  exact key _ _ h (.root hr)
theorem Av.rc{z x:Nat}(h:Av S r z x):Rc S r x:=by
 induction h with
 | root _=>exact .root
 | step _ hy _ ih=>exact .step ih hy
theorem Av.ne{z x:Nat}(h:Av S r z x):x≠z:=by
 cases h with
 | root h=>exact h
 | step _ _ hz=>exact hz
theorem AvN.av{z k x:Nat}(h:AvN S r z k x):Av S r z x:=by
 induction h with
 | root h=>exact .root h
 | step _ hy hz ih=>exact .step ih hy hz
theorem AvN.up{z k x:Nat}(h:AvN S r z k x):AvN S r z (k+1) x:=by
 induction h with
 | root h k=>exact .root h _
 | step _ hy hz ih=>exact .step ih hy hz
theorem AvN.mono{z k m x:Nat}(h:AvN S r z k x)(hm:k<=m):AvN S r z m x:=by
 obtain⟨d,rfl⟩:=Nat.exists_eq_add_of_le hm;clear hm
 induction d with
 | zero=>exact h
 | succ d ih=>exact ih.up
theorem Av.avn{z x:Nat}(h:Av S r z x):∃ k,AvN S r z k x:=by
 induction h with
 | root h=>exact⟨0,.root h 0⟩
 | step _ hy hz ih=>obtain⟨k,hk⟩:=ih;exact⟨k+1,.step hk hy hz⟩
theorem AvN.via {z k x : Nat} (h : AvN S r z k x) (y : Nat) : AvN S r y k x ∨ AvN S r z k y := by
  induction h with
  | root h k => by_cases hy : r = y
                · subst hy; exact .inr (.root h _)
                · exact .inl (.root hy _)
  | @step k x w h hy hz ih =>
    rcases ih with h1 | h1
    · by_cases hw : w = y
      · subst hw; exact .inr (.step h hy hz)
      · exact .inl (.step h1 hy hw)
    · exact .inr h1.up
theorem jT(n:Nat):∃ K,∀ z,z<n->∀ x,x<n->Av S r z x->AvN S r z K x:=by
 have one:∀ z m,∃ K,∀ x,x<m->Av S r z x->AvN S r z K x:=by
  intro z m
  induction m with
  | zero=>exact⟨0,λx hx=>absurd hx (Qb x)⟩
  | succ m ih=>
   obtain⟨K,hK⟩:=ih
   by_cases h:Av S r z m
   ·obtain⟨k,hk⟩:=h.avn;refine⟨max K k,λx hx ha=>?_⟩;rcases zzL121.1 hx with h1|rfl
    ·exact(hK x h1 ha).mono (Nat.le_max_left ..)
    ·exact hk.mono (Nat.le_max_right ..)
   ·refine⟨K,λx hx ha=>?_⟩;rcases zzL121.1 hx with h1|rfl
    ·exact hK x h1 ha
    ·exact absurd ha h
 have two:∀ m,∃ K,∀ z,z<m->∀ x,x<n->Av S r z x->AvN S r z K x:=by
  intro m
  induction m with
  | zero=>exact⟨0,λx hx=>absurd hx (Qb x)⟩
  | succ m ih=>
   obtain⟨K,hK⟩:=ih;obtain⟨k,hk⟩:=one m n;refine⟨max K k,λz hz x hx ha=>?_⟩;rcases zzL121.1 hz with h1|rfl
   ·exact(hK z h1 x hx ha).mono (Nat.le_max_left ..)
   ·exact(hk x hx ha).mono (Nat.le_max_right ..)
 exact two n
end
inductive UpTo (par:Nat->Int):Nat->Nat->Prop
 | refl (x:Nat):UpTo par x x
 | up {x y z:Nat} (h:par x=(y:Int)) (t:UpTo par y z):UpTo par x z
inductive Fw (S:Nat->List Nat) (at_:Nat->Nat) (u:Nat):Nat->Prop
 | refl:Fw S at_ u u
 | step {v w:Nat} (h:Fw S at_ u v) (hw:w∈S v) (hl:at_ v<at_ w):Fw S at_ u w
section
variable {S:Nat->List Nat} {at_:Nat->Nat} {par:Nat->Int}
theorem Fw.le{u w:Nat}(h:Fw S at_ u w):at_ u<=at_ w:=by
 induction h with
 | refl=>exact zzL7 _
 | step _ _ hl ih=>omega
theorem Fw.trans{u v w:Nat}(h:Fw S at_ u v)(k:Fw S at_ v w):Fw S at_ u w:=by
 induction k with
 | refl=>exact h
 | step _ hw hl ih=>exact .step ih hw hl
theorem Fw.av{r d u w:Nat}(h:Fw S at_ u w)(ha:Av S r d u)(hd:at_ d<at_ u):Av S r d w:=by
 induction h with
 | refl=>exact ha
 | @step v w h hw hl ih=>exact .step ih hw (by rintro rfl;have:=h.le;omega)
theorem UpTo.trans{x y z:Nat}(h:UpTo par x y)(k:UpTo par y z):UpTo par x z:=by
 induction h with
 | refl x=>exact k
 | up h _ ih=>exact .up h (ih k)
theorem anc_up{x p z:Nat}(h:par x=(p:Int)):UpTo par x z↔z=x\/UpTo par p z:=by
 constructor
 ·intro k
  cases k with
  | refl=>exact .inl rfl
  | up h' t=>rw[h]at h';cases DZ h';exact .inr t
 ·rintro(rfl|k)
  ·exact .refl _
  ·exact .up h k
theorem MM{x z:Nat}(h:∀ p:Nat,par x≠(p:Int)):UpTo par x z↔z=x:=by
 constructor
 ·intro k
  cases k with
  | refl=>rfl
  | up h' t=>exact absurd h' (h _)
 ·rintro rfl;exact .refl _
structure Inv(S:Nat->List Nat)(r n:Nat)(at_:Nat->Nat)(par:Nat->Int):Prop where
 top:par r = -1
 kind:∀ x,x<n->par x = -2\/x=r\/∃ z:Nat,par x=(z:Int)
 up:∀ x,x<n->∀ z:Nat,par x=(z:Int)->z<n/\par z≠-2/\at_ z<at_ x/\Fw S at_ z x
 rc:∀ x,x<n->par x≠-2->Rc S r x
 all:∀ x,x<n->par x≠-2->∀ d,¬ UpTo par x d->Av S r d x
end
section
variable {S:Nat->List Nat} {at_:Nat->Nat} {par:Nat->Int} {r n:Nat}
theorem Inv.anc(h:Inv S r n at_ par){x z:Nat}(k:UpTo par x z)(hx:x<n)(hp:par x≠-2):z<n/\par z≠-2/\at_ z<=at_ x/\Fw S at_ z x:=by
 induction k with
 | refl x=>exact⟨hx,hp,zzL7 _,.refl⟩
 | @up x y z hxy t ih=>
  obtain⟨h1,h2,h3,h4⟩:=h.up x hx y hxy;obtain⟨i1,i2,i3,i4⟩:=ih h1 h2;exact⟨i1,i2,by omega,i4.trans h4⟩
theorem Inv.root_anc(h:Inv S r n at_ par){z:Nat}:UpTo par r z↔z=r:=MM λp hp=>by rw[h.top]at hp;omega
theorem Inv.strict(h:Inv S r n at_ par){x z:Nat}(k:UpTo par x z)(hx:x<n)(hp:par x≠-2):z=x\/at_ z<at_ x:=by
 cases k with
 | refl=>exact .inl rfl
 | up hxy t=>
  obtain⟨h1,h2,h3,h4⟩:=h.up x hx _ hxy;obtain⟨i1,i2,i3,i4⟩:=h.anc t h1 h2;exact .inr (by omega)
theorem Inv.antisymm(h:Inv S r n at_ par){x z:Nat}(k:UpTo par x z)(m:UpTo par z x)(hx:x<n)(hp:par x≠-2):z=x:=by
 rcases h.strict k hx hp with rfl|h1
 ·rfl
 ·obtain⟨i1,i2,i3,i4⟩:=h.anc k hx hp;have:=(h.anc m i1 i2).2.2.1;omega
def MeetAt(par:Nat->Int)(a b m:Nat):Prop:=∀ w,UpTo par m w↔UpTo par a w/\UpTo par b w
theorem UX{a:Nat}:MeetAt par a a a:=λw=>by simp
theorem j7{a b m:Nat}(h:MeetAt par a b m):MeetAt par b a m:=λw=>by rw[h w];exact And.comm
theorem Inv.meet_left(h:Inv S r n at_ par)(hinj:∀ x y,x<n->y<n->par x≠-2->par y≠-2->at_ x=at_ y->x=y){a b p m:Nat}(ha:a<n)(hpa:par a≠-2)(hb:b<n)(hpb:par b≠-2)(hab:a≠b)(hl:at_ b<=at_ a)(hp:par a=(p:Int))(k:MeetAt par p b m):MeetAt par a b m:=λw=>by
 rw[k w]
 constructor
 ·rintro⟨h1,h2⟩;exact⟨.up hp h1,h2⟩
 ·rintro⟨h1,h2⟩;rcases(anc_up hp).1 h1 with rfl|h1
  ·exfalso
   rcases h.strict h2 hb hpb with h3|h3
   ·exact hab h3
   ·omega
  ·exact⟨h1,h2⟩
end
section
variable {S:Nat->List Nat} {at_:Nat->Nat} {par:Nat->Int} {r n:Nat}
def P6(par:Nat->Int)(y:Nat)(v:Int):Nat->Int:=λx=>if x=y then v else par x
def dX(S:Nat->List Nat)(n:Nat)(par:Nat->Int)(y z:Nat):Prop:=∀ w,UpTo par z w↔∀ p,p<n->y∈S p->par p≠-2->UpTo par p w
theorem KJ{y:Nat}{v:Int}{x z:Nat}(k:UpTo par x z)(hy:¬ UpTo par x y):UpTo (P6 par y v) x z:=by
 induction k with
 | refl x=>exact .refl _
 | @up x q z h t ih=>
  have hxy:x≠y:=by rintro rfl;exact hy (.refl _)
  refine .up (y:=q) ?_ (ih λk=>hy (.up h k));unfold P6;rw[if_neg hxy];exact h
theorem ay{y:Nat}{v:Int}{x:Nat}(k:UpTo par x y):UpTo (P6 par y v) x y:=by
 induction k with
 | refl x=>exact .refl _
 | @up x q z h t ih=>
  by_cases hxy:x=z
  ·subst hxy;exact .refl _
  ·refine .up (y:=q) ?_ ih;unfold P6;rw[if_neg hxy];exact h
theorem anc_upd_inv{y:Nat}{v:Int}{x w:Nat}(k:UpTo (P6 par y v) x w):UpTo par x w\/(UpTo par x y/\UpTo (P6 par y v) y w):=by
 induction k with
 | refl x=>exact .inl (.refl _)
 | @up x q w h t ih=>
  by_cases hxy:x=y
  ·subst hxy;exact .inr ⟨.refl _,.up h t⟩
  ·unfold P6 at h;rw[if_neg hxy]at h;rcases ih with h1|⟨h1,h2⟩
   ·exact .inl (.up h h1)
   ·exact .inr ⟨.up h h1,h2⟩
theorem low_or{y:Nat}{v:Int}{x d:Nat}(k:UpTo par x y)(hd:UpTo par x d):UpTo par y d\/UpTo (P6 par y v) x d:=by
 induction k with
 | refl x=>exact .inl hd
 | @up x q y hq t ih=>
  by_cases e:x=y
  ·subst e;exact .inl hd
  ·rcases(anc_up hq).1 hd with rfl|k
   ·exact .inr (.refl _)
   ·rcases ih k with h1|h1
    ·exact .inl h1
    ·exact .inr (.up (y:=q) (by unfold P6;rw[if_neg e];exact hq) h1)
structure Better(S:Nat->List Nat)(r n:Nat)(at_:Nat->Nat)(par:Nat->Int)(y z:Nat):Prop where
 inv:Inv S r n at_ par
 hy:y<n
 hr:y≠r
 hz:z<n
 best:dX S n par y z
 fwd:∃ p,p<n/\y∈S p/\par p≠-2/\at_ p<at_ y
variable {y z:Nat}
theorem Better.zlt(h:Better S r n at_ par y z):UpTo par z z/\par z≠-2/\at_ z<at_ y/\Fw S at_ z y:=by
 obtain⟨p,hp,hyp,hpp,hl⟩:=h.fwd;obtain⟨h1,h2,h3,h4⟩:=h.inv.anc ((h.best z).1 (.refl _) p hp hyp hpp) hp hpp;exact⟨.refl _,h2,by omega,.step h4 hyp hl⟩
theorem Better.above(h:Better S r n at_ par y z){w:Nat}:UpTo (P6 par y z) z w↔UpTo par z w:=by
 obtain⟨_,h2,h3,_⟩:=h.zlt
 have hn:¬ UpTo par z y:=λk=>by have:=(h.inv.anc k h.hz h2).2.2.1;omega
 constructor
 ·intro k;rcases anc_upd_inv k with h1|⟨h1,_⟩
  ·exact h1
  ·exact absurd h1 hn
 ·intro k;exact KJ k hn
theorem Better.here(h:Better S r n at_ par y z){w:Nat}:UpTo (P6 par y z) y w↔w=y\/UpTo par z w:=by
 rw[anc_up (p:=z) (by simp[P6]),h.above]
theorem Better.av_here(h:Better S r n at_ par y z){d:Nat}(hd:¬ UpTo (P6 par y z) y d):Av S r d y:=by
 rw[h.here]at hd;have h1:¬ ∀ p,p<n->y∈S p->par p≠-2->UpTo par p d:=λhh=>hd (.inr ((h.best d).2 hh));simp only[Classical.not_forall]at h1;obtain⟨p,hp,hyp,hpp,hnp⟩:=h1;exact .step (h.inv.all p hp hpp d hnp) hyp λe=>hd (.inl e.symm)
theorem Better.inv'(h:Better S r n at_ par y z):Inv S r n at_ (P6 par y z):=by
 obtain⟨hzz,hz2,hzl,hzf⟩:=h.zlt;obtain⟨p,hp,hyp,hpp,hl⟩:=h.fwd
 have hne:∀ x,P6 par y z x≠-2->x=y\/par x≠-2:=λx hx=>by
  by_cases e:x=y
  ·exact .inl e
  ·unfold P6 at hx;rw[if_neg e]at hx;exact .inr hx
 have hyv:P6 par y z y=(z:Int):=by simp[P6]
 have hyo:∀ x,x≠y->P6 par y z x=par x:=λx e=>by unfold P6;rw[if_neg e]
 refine⟨by rw[hyo _ (Ne.symm h.hr)];exact h.inv.top,λx hx=>?_,λx hx w hw=>?_,λx hx hxp=>?_,λx hx hxp d hd=>?_⟩
 ·by_cases e:x=y
  ·subst e;exact .inr (.inr ⟨z,hyv⟩)
  ·rw[hyo x e];exact h.inv.kind x hx
 ·have hzn:∀ w,par w≠-2->P6 par y z w≠-2:=λw hw=>by
   by_cases e:w=y
   ·subst e;rw[hyv];omega
   ·rw[hyo w e];exact hw
  by_cases e:x=y
  ·subst e;rw[hyv]at hw
   cases DZ hw
   exact⟨h.hz,hzn _ hz2,hzl,hzf⟩
  ·rw[hyo x e]at hw;obtain⟨h1,h2,h3,h4⟩:=h.inv.up x hx w hw;exact⟨h1,hzn _ h2,h3,h4⟩
 ·rcases hne x hxp with rfl|h1
  ·exact .step (h.inv.rc p hp hpp) hyp
  ·exact h.inv.rc x hx h1
 ·by_cases e:x=y
  ·subst e;exact h.av_here hd
  ·rw[hyo x e]at hxp
   by_cases hxd:UpTo par x d
   ·
    by_cases hxy:UpTo par x y
    ·have hyd:¬ UpTo (P6 par y z) y d:=λk=>hd ((ay hxy).trans k);have hav:=h.av_here hyd;have hf:=(h.inv.anc hxy hx hxp).2.2.2
     have hdy:UpTo par y d:=by
      rcases low_or (v:=(z:Int)) hxy hxd with h1|h1
      ·exact h1
      ·exact absurd h1 hd
     by_cases hpy:par y = -2
     ·
      have:d=y:=by
       refine(MM (par:=par) λp hp=>?_).1 hdy;rw[hpy]at hp;omega
      subst this;exact absurd (.refl _) hyd
     ·rcases h.inv.strict hdy h.hy hpy with rfl|hlt
      ·exact absurd (.refl _) hyd
      ·exact hf.av hav hlt
    ·exact absurd (KJ hxd hxy) hd
   ·exact h.inv.all x hx hxp d hxd
end
section
variable {S:Nat->List Nat} {at_:Nat->Nat} {par:Nat->Int} {r n:Nat}
def QB(S:Nat->List Nat)(r n:Nat)(par:Nat->Int)(b:Nat->Nat):Prop:=∀ x,x<n->par x≠-2->∀ z,AvN S r z (b x) x->¬ UpTo par x z
def dY(S:Nat->List Nat)(r n:Nat)(par:Nat->Int):Prop:=∀ x,x<n->Rc S r x->par x≠-2
def gV(S:Nat->List Nat)(r n:Nat)(par:Nat->Int):Prop:=∀ x,x<n->par x≠-2->∀ d,UpTo par x d↔¬ Av S r d x
theorem rS(h:Inv S r n at_ par):QB S r n par λ_=>0:=λx hx hp z hz k=>by
 cases hz with
 | root hr _=>exact hr (h.root_anc.1 k).symm
theorem iS(hS:∀ x,x<n->∀ w∈S x,w<n)(hr:r<n){x:Nat}(h:Rc S r x):x<n:=by
 induction h with
 | root=>exact hr
 | step _ hy ih=>exact hS _ ih _ hy
theorem Better.qb{y z k:Nat}{b:Nat->Nat}(h:Better S r n at_ par y z)(hS:∀ x,x<n->∀ w∈S x,w<n)(hrn:r<n)(full:dY S r n par)(hb:∀ x,x<n->k<=b x/\b x<=k+1)(q:QB S r n par b) :
  QB S r n (P6 par y z) λx=>if x=y then k+1 else b x:=by
 have here:∀ w,AvN S r w (k+1) y->¬ UpTo (P6 par y z) y w:=λw hw hu=>by
  rcases h.here.1 hu with rfl|hu
  ·exact hw.av.ne rfl
  ·cases hw with
   | root hr _=>exact h.hr rfl
   | @step _ p _ hp hyp hne=>
    have hpn:=iS hS hrn hp.av.rc;have hpp:=full p hpn hp.av.rc;exact q p hpn hpp w (hp.mono (hb p hpn).1) ((h.best w).1 hu p hpn hyp hpp)
 intro x hx hxp w hw hu
 dsimp only at hw
 by_cases e:x=y
 ·subst e;rw[if_pos rfl]at hw;exact here w hw hu
 ·rw[if_neg e]at hw;unfold P6 at hxp;rw[if_neg e]at hxp;rcases anc_upd_inv hu with h1|⟨h1,h2⟩
  ·exact q x hx hxp w hw h1
  ·rcases hw.via y with h3|h3
   ·exact q x hx hxp y h3 h1
   ·exact here w (h3.mono (hb x hx).2) h2
theorem mg(h:Inv S r n at_ par){K:Nat}(hK:∀ z,z<n->∀ x,x<n->Av S r z x->AvN S r z K x)(q:QB S r n par λ_=>K):gV S r n par:=λx hx hp d=>by
 constructor
 ·intro hu ha;exact q x hx hp d (hK d (h.anc hu hx hp).1 x hx ha) hu
 ·intro ha;exact QY λhn=>ha (h.all x hx hp d hn)
theorem Better.same{y z:Nat}(h:Better S r n at_ par y z)(hS:∀ x,x<n->∀ w∈S x,w<n)(hrn:r<n)(full:dY S r n par)(hy2:par y≠-2)(ex:gV S r n par):par y=(z:Int):=by
 obtain⟨hzz,hz2,hzl,hzf⟩:=h.zlt;rcases h.inv.kind y h.hy with h1|h1|⟨q,hq⟩
 ·exact absurd h1 hy2
 ·exact absurd h1 h.hr
 ·obtain⟨q1,q2,q3,q4⟩:=h.inv.up y h.hy q hq
  have key:∀ w,UpTo par z w↔UpTo par q w:=λw=>by
   rw[h.best w]
   constructor
   ·intro hall
    have hwy:¬ Av S r w y:=λha=>by
     cases ha with
     | root _=>exact h.hr rfl
     | @step p _ hp hyp hne=>
      have hpn:=iS hS hrn hp.rc;have hpp:=full p hpn hp.rc;exact(ex p hpn hpp w).1 (hall p hpn hyp hpp) hp
    rcases(anc_up hq).1 ((ex y h.hy hy2 w).2 hwy) with rfl|hu
    ·have:=(h.inv.anc ((h.best _).2 hall) h.hz hz2).2.2.1;omega
    ·exact hu
   ·intro hu p hp hyp hpp;have hwy:UpTo par y w:=.up hq hu;refine(ex p hp hpp w).2 λha=>?_
    have hne:y≠w:=by rintro rfl;have:=(h.inv.anc hu q1 q2).2.2.1;omega
    exact(ex y h.hy hy2 w).1 hwy (.step ha hyp hne)
  have:=h.inv.antisymm ((key q).2 (.refl _)) ((key z).1 (.refl _)) h.hz hz2;rw[hq,this]
theorem jn(h:Inv S r n at_ par)(hS:∀ x,x<n->∀ w∈S x,w<n)(hrn:r<n)(full:dY S r n par)(fix:∀ y,y<n->y≠r->Rc S r y->∃ z:Nat,par y=(z:Int)/\dX S n par y z):gV S r n par:=λx hx hp d=>by
 constructor
 ·intro hu ha
  induction ha with
  | root hne=>exact hne (h.root_anc.1 hu).symm
  | @step p y hp' hyp hne ih=>
   have hpn:=iS hS hrn hp'.rc;have hpp:=full p hpn hp'.rc
   by_cases e:y=r
   ·subst e;exact hne (h.root_anc.1 hu).symm
   ·obtain⟨z,hz,hb⟩:=fix y hx e (.step hp'.rc hyp);rcases(anc_up hz).1 hu with rfl|hu
    ·exact hne rfl
    ·exact ih hpn hpp ((hb d).1 hu p hpn hyp hpp)
 ·intro ha;exact QY λhn=>ha (h.all x hx hp d hn)
end
def Bu(t:List Int):Nat->Int:=λx=>t.getD x 0
theorem cT{t:List Int}{y:Nat}{v:Int}(hy:y<t.length):Bu (t.set y v)=P6 (Bu t) y v:=by
 funext x
 unfold Bu P6
 by_cases e:x=y
 ·subst e;simp[List.getD,hy]
 ·simp[List.getD,e,Ne.symm e]
open Classical in
def O1(S:Nat->List Nat)(n:Nat)(t:List Int)(y:Nat):Nat:=if h:∃ z,z<n/\dX S n (Bu t) y z then Classical.choose h else 0
def Za(S:Nat->List Nat)(n:Nat)(P:List Nat)(t:List Int):Nat->List Int
 | 0=>t
 | i+1=>(Za S n P t i).set (P.getD i 0) (O1 S n (Za S n P t i) (P.getD i 0):Int)
def NA(S:Nat->List Nat)(n:Nat)(P:List Nat)(t:List Int):Nat->List Int
 | 0=>t
 | j+1=>Za S n P (NA S n P t j) P.length
def Hv(n r:Nat):List Int:=(List.replicate n (-2:Int)).set r (-1)
structure Ordered(S:Nat->List Nat)(r n:Nat)(P:List Nat):Prop where
 hr:r<n
 hS:∀ x,x<n->∀ w∈S x,w<n
 nodup:(r::P).Nodup
 mem:∀ x,x∈r::P↔Rc S r x
 fwd:∀ i,i<P.length->∃ p,p∈r::P.take i/\P.getD i 0∈S p
section
variable {S:Nat->List Nat} {r n:Nat} {P:List Nat}
theorem Ordered.lt(o:Ordered S r n P){x:Nat}(h:x∈r::P):x<n:=iS o.hS o.hr ((o.mem x).1 h)
theorem S7{i:Nat}(hi:i<P.length):P.getD i 0∈P:=by rw[Ab _ _ _ hi];exact DV hi
theorem Ordered.at_lt(o:Ordered S r n P){i:Nat}(hi:i<P.length){p:Nat}(hp:p∈r::P.take i):pos (r::P) p<pos (r::P) (P.getD i 0):=by
 have hd:=o.nodup
 have h1:pos (r::P) (P.getD i 0)=i+1:=by
  have:=(MY hd (i:=i+1) (by simpa using hi)).2;rw[Ab _ _ _ hi]
  simpa using this
 rw[h1];obtain⟨j,hj,rfl⟩:=P9 hp
 have hj':j<i+1:=by simp at hj;omega
 have hjl:j<(r::P).length:=by simp;omega
 have e:(r::P.take i)[j]=(r::P)[j]:=by
  cases j with
  | zero=>rfl
  | succ j=>simp
 rw[e,(MY hd hjl).2];exact hj'
theorem yS(o:Ordered S r n P):Inv S r n (pos (r::P)) (Bu (Hv n r))/\(Hv n r).length=n/\Bu (Hv n r) r≠-2:=by
 have hlen:(Hv n r).length=n:=by simp[Hv]
 have hr:=o.hr
 have at_:∀ x,x<n->Bu (Hv n r) x=if x=r then -1 else -2:=λx hx=>by
  unfold Bu Hv
  by_cases e:x=r
  ·subst e;simp[List.getD,hx]
  ·simp[List.getD,hx,e,Ne.symm e]
 have hno:∀ x,x<n->∀ p:Nat,Bu (Hv n r) x≠(p:Int):=λx hx p hp=>by rw[at_ x hx]at hp;split at hp<;>omega
 refine⟨⟨by rw[at_ r hr,if_pos rfl],λx hx=>?_,λx hx z hz=>absurd hz (hno x hx z),λx hx hp=>?_,λx hx hp d hd=>?_⟩,hlen,by rw[at_ r hr,if_pos rfl];omega⟩
 ·by_cases e:x=r
  ·exact .inr (.inl e)
  ·exact .inl (by rw[at_ x hx,if_neg e])
 ·by_cases e:x=r
  ·subst e;exact .root
  ·exact absurd (by rw[at_ x hx,if_neg e]) hp
 ·by_cases e:x=r
  ·subst e;exact .root (λe=>hd (by rw[e];exact .refl _))
  ·exact absurd (by rw[at_ x hx,if_neg e]) hp
structure Ready(S:Nat->List Nat)(r n:Nat)(P:List Nat)(t:List Int)(i:Nat):Prop where
 inv:Inv S r n (pos (r::P)) (Bu t)
 len:t.length=n
 done:∀ x∈r::P.take i,Bu t x≠-2
theorem Inv.meets{at_:Nat->Nat}{par:Nat->Int}(h:Inv S r n at_ par)(hinj:∀ x y,x<n->y<n->par x≠-2->par y≠-2->at_ x=at_ y->x=y)(hr:at_ r=0):∀ m a b,at_ a+at_ b<=m->a<n->b<n->par a≠-2->par b≠-2->∃ c,MeetAt par a b c/\c<n/\par c≠-2:=by
 intro m
 induction m with
 | zero=>
  intro a b hm ha hb hpa hpb;have:a=b:=hinj a b ha hb hpa hpb (by omega);subst this;exact⟨a,UX,ha,hpa⟩
 | succ m ih=>
  have go:∀ a b,at_ a+at_ b<=m+1->a<n->b<n->par a≠-2->par b≠-2->at_ b<=at_ a->∃ c,MeetAt par a b c/\c<n/\par c≠-2:=λa b hm ha hb hpa hpb hl=>by
   by_cases e:a=b
   ·subst e;exact⟨a,UX,ha,hpa⟩
   ·rcases h.kind a ha with h1|h1|⟨p,hp⟩
    ·exact absurd h1 hpa
    ·subst h1;exact absurd (hinj a b ha hb hpa hpb (by omega)) e
    ·obtain⟨p1,p2,p3,p4⟩:=h.up a ha p hp;obtain⟨c,hc,hc2⟩:=ih p b (by omega) p1 hb p2 hpb;exact⟨c,h.meet_left hinj ha hpa hb hpb e hl hp hc,hc2⟩
  intro a b hm ha hb hpa hpb;rcases Nat.le_total (at_ b) (at_ a) with hl|hl
  ·exact go a b hm ha hb hpa hpb hl
  ·obtain⟨c,hc,hc2⟩:=go b a (by omega) hb ha hpb hpa hl;exact⟨c,j7 hc,hc2⟩
theorem Ready.inj(o:Ordered S r n P){t:List Int}{i:Nat}(h:Ready S r n P t i):∀ x y,x<n->y<n->Bu t x≠-2->Bu t y≠-2->pos (r::P) x=pos (r::P) y->x=y:=λx y hx hy hpx hpy he=>by
 have hm:∀ x,x<n->Bu t x≠-2->x∈r::P:=λx hx hp=>(o.mem x).2 (h.inv.rc x hx hp)
 have back:∀ x∈r::P,(r::P).getD (pos (r::P) x) 0=x:=λx hx=>by
  obtain⟨j,hj,rfl⟩:=P9 hx;rw[(MY o.nodup hj).2,Ab _ _ _ hj]
 rw[<- back x (hm x hx hpx),<- back y (hm y hy hpy),he]
theorem cV:pos (r::P) r=0:=by rw[PV,if_pos rfl]
theorem Ready.meetAll(o:Ordered S r n P){t:List Int}{i:Nat}(h:Ready S r n P t i):∀ l:List Nat,(∀ p∈l,p<n/\Bu t p≠-2)->l≠[]->∃ z,z<n/\Bu t z≠-2/\∀ w,UpTo (Bu t) z w↔∀ p∈l,UpTo (Bu t) p w:=by
 intro l
 induction l with
 | nil=>intro _ hn;exact absurd rfl hn
 | cons p l ih=>
  intro hl _;obtain⟨hp1,hp2⟩:=hl p (zzL38 ..)
  by_cases hl0:l=[]
  ·subst hl0;exact⟨p,hp1,hp2,λw=>by simp⟩
  ·obtain⟨z,hz1,hz2,hz3⟩:=ih (λq hq=>hl q (zzL21 _ hq)) hl0;obtain⟨c,hc1,hc2,hc3⟩:=h.inv.meets (h.inj o) cV _ p z (zzL7 _) hp1 hz1 hp2 hz2;exact⟨c,hc2,hc3,λw=>by rw[hc1 w,hz3 w];simp⟩
theorem Ready.best(o:Ordered S r n P){t:List Int}{i:Nat}(h:Ready S r n P t i)(hi:i<P.length):Better S r n (pos (r::P)) (Bu t) (P.getD i 0) (O1 S n t (P.getD i 0)):=by
 have hy:=S7 hi;have hyr:P.getD i 0≠r:=λe=>(zzL82.1 o.nodup).1 (e▸hy);have hyn:=o.lt (zzL21 _ hy);obtain⟨p,hp,hyp⟩:=o.fwd i hi;have hp2:=h.done p hp
 have hpP:p∈r::P:=by
  rcases zzL26.1 hp with rfl|hp
  ·exact zzL38 ..
  ·exact zzL21 _ (List.mem_of_mem_take hp)
 have hpn:=o.lt hpP
 have hex:∃ z,z<n/\dX S n (Bu t) (P.getD i 0) z:=by
  classical
  obtain⟨z,hz1,hz2,hz3⟩:=h.meetAll o ((List.range n).filter λp=>decide (P.getD i 0∈S p/\Bu t p≠-2)) (λp hp=>by
   obtain⟨h1,h2⟩:=zzL64.1 hp
   exact⟨zzL44.1 h1,(HN h2).2⟩) (λe=>by
   have:p∈(List.range n).filter λp=>decide (P.getD i 0∈S p/\Bu t p≠-2):=zzL64.2 ⟨zzL44.2 hpn,B4 ⟨hyp,hp2⟩⟩
   rw[e]at this;cases this)
  refine⟨z,hz1,λw=>?_⟩;rw[hz3 w]
  constructor
  ·intro k p hp hyp hpp;exact k p (zzL64.2 ⟨zzL44.2 hp,B4 ⟨hyp,hpp⟩⟩)
  ·intro k p hp;obtain⟨h1,h2⟩:=zzL64.1 hp;exact k p (zzL44.1 h1) (HN h2).1 (HN h2).2
 have hb:O1 S n t (P.getD i 0)<n/\dX S n (Bu t) (P.getD i 0) (O1 S n t (P.getD i 0)):=by
  unfold O1;rw[dif_pos hex];exact Classical.choose_spec hex
 exact⟨h.inv,hyn,hyr,hb.1,hb.2,p,hpn,hyp,hp2,o.at_lt hi hp⟩
theorem Ready.best_eq(o:Ordered S r n P){t:List Int}{i:Nat}(h:Ready S r n P t i)(hi:i<P.length){z:Nat}(hz:z<n)(hz2:Bu t z≠-2)(hb:dX S n (Bu t) (P.getD i 0) z):z=O1 S n t (P.getD i 0):=by
 have b:=h.best o hi;exact(h.inv.antisymm ((hb _).2 ((b.best _).1 (.refl _))) ((b.best _).2 ((hb _).1 (.refl _))) hz hz2).symm
theorem Ready.next(o:Ordered S r n P){t:List Int}{i:Nat}(h:Ready S r n P t i)(hi:i<P.length):Ready S r n P (t.set (P.getD i 0) (O1 S n t (P.getD i 0):Int)) (i+1):=by
 have b:=h.best o hi;have e:=cT (t:=t) (y:=P.getD i 0) (v:=(O1 S n t (P.getD i 0):Int)) (by rw[h.len];exact b.hy);refine⟨by rw[e];exact b.inv',by rw[G1];exact h.len,λx hx=>?_⟩;rw[e];unfold P6
 split
 ·omega
 ·rename_i hne
  refine h.done x ?_;rcases zzL26.1 hx with rfl|hx
  ·exact zzL38 ..
  ·rw[dF hi]at hx;rcases zzL14.1 hx with hx|hx
   ·exact zzL21 _ hx
   ·rw[zzL18,<- Ab _ _ 0 hi]at hx;exact absurd hx hne
theorem Ready.more(o:Ordered S r n P){t:List Int}(h:Ready S r n P t P.length)(i:Nat):Ready S r n P t i:=
 ⟨h.inv,h.len,λx hx=>h.done x (by
  rw[DW];rcases zzL26.1 hx with rfl|hx
  ·exact zzL38 ..
  ·exact zzL21 _ (List.mem_of_mem_take hx))⟩
theorem Ready.full(o:Ordered S r n P){t:List Int}(h:Ready S r n P t P.length):dY S r n (Bu t):=λx hx hr=>h.done x (by rw[DW];exact(o.mem x).2 hr)
theorem Ready.round(o:Ordered S r n P){t:List Int}(h:Ready S r n P t 0):∀ i,i<=P.length->Ready S r n P (Za S n P t i) i:=by
 intro i
 induction i with
 | zero=>intro _;exact h
 | succ i ih=>intro hi;exact(ih (by omega)).next o (by omega)
theorem ub(o:Ordered S r n P):Ready S r n P (Hv n r) 0:=by
 obtain⟨h1,h2,h3⟩:=yS o;exact⟨h1,h2,λx hx=>by simp at hx;subst hx;exact h3⟩
theorem Ready.rounds(o:Ordered S r n P):∀ j,Ready S r n P (NA S n P (Hv n r) j) 0:=by
 intro j
 induction j with
 | zero=>exact ub o
 | succ j ih=>exact((ih.round o) P.length (zzL7 _)).more o 0
theorem Ready.rounds'(o:Ordered S r n P)(j:Nat):Ready S r n P (NA S n P (Hv n r) (j+1)) P.length:=(Ready.rounds o j).round o P.length (zzL7 _)
theorem nk(o:Ordered S r n P){t:List Int}{k:Nat}(h:Ready S r n P t P.length)(q:QB S r n (Bu t) λ_=>k):QB S r n (Bu (Za S n P t P.length)) λ_=>k+1:=by
 have key:∀ i,i<=P.length->QB S r n (Bu (Za S n P t i)) (λx=>if x∈P.take i then k+1 else k)/\dY S r n (Bu (Za S n P t i)):=by
  intro i
  induction i with
  | zero=>intro _;exact⟨by simpa [Za] using q,h.full o⟩
  | succ i ih=>
   intro hi;obtain⟨q1,f1⟩:=ih (by omega);have rd:=(h.more o 0).round o i (by omega);have b:=rd.best o (by omega);have e:=cT (t:=Za S n P t i) (y:=P.getD i 0) (v:=(O1 S n (Za S n P t i) (P.getD i 0):Int)) (by rw[rd.len];exact b.hy)
   constructor
   ·show QB S r n (Bu ((Za S n P t i).set _ _)) _
    rw[e];have:=b.qb (k:=k) o.hS o.hr f1 (λx _=>by split<;>omega) q1;intro x hx hp z hz;refine this x hx hp z ?_
    dsimp only at hz ⊢
    rw[dF (by omega:i<P.length)]at hz
    by_cases e1:x=P.getD i 0
    ·rw[if_pos e1];rwa[if_pos (zzL14.2 (.inr (zzL18.2 (by rw[e1,Ab _ _ _ (by omega:i<P.length)]))))]at hz
    ·rw[if_neg e1]
     by_cases e2:x∈P.take i
     ·rw[if_pos e2];rwa[if_pos (zzL14.2 (.inl e2))]at hz
     ·rw[if_neg e2]
      rwa[if_neg (λhm=>by
       rcases zzL14.1 hm with hm|hm
       ·exact e2 hm
       ·rw[zzL18,<- Ab _ _ 0 (by omega:i<P.length)]at hm;exact e1 hm)]at hz
   ·show dY S r n (Bu ((Za S n P t i).set _ _))
    rw[e];intro x hx hr;unfold P6
    split
    ·omega
    ·exact f1 x hx hr
 have q1:=(key P.length (zzL7 _)).1;rw[DW]at q1;have rd:=(h.more o 0).round o P.length (zzL7 _);intro x hx hp z hz;refine q1 x hx hp z ?_
 dsimp only at hz ⊢
 by_cases e:x∈P
 ·rw[if_pos e];exact hz
 ·rw[if_neg e]
  have hxr:x=r:=by
   rcases zzL26.1 ((o.mem x).2 (rd.inv.rc x hx hp)) with h1|h1
   ·exact h1
   ·exact absurd h1 e
  subst hxr;exact .root hz.av.ne k
def X7(S:Nat->List Nat)(n:Nat)(P:List Nat)(t:List Int):Prop:=∀ i,i<P.length->Bu t (P.getD i 0)=(O1 S n t (P.getD i 0):Int)
theorem BA{t:List Int}(o:Ordered S r n P)(hl:t.length=n)(h:X7 S n P t):∀ i,i<=P.length->Za S n P t i=t:=by
 intro i
 induction i with
 | zero=>intro _;rfl
 | succ i ih=>
  intro hi;unfold Za;rw[ih (by omega),<- h i (by omega)]
  have hlt:P.getD i 0<t.length:=by rw[hl];exact o.lt (zzL21 _ (S7 (by omega)))
  unfold Bu;rw[Ab _ _ _ hlt];exact List.set_getElem_self hlt
theorem sv(o:Ordered S r n P):∃ J,(∀ j,j<J->¬ X7 S n P (NA S n P (Hv n r) j))/\X7 S n P (NA S n P (Hv n r) J):=by
 obtain⟨K,hK⟩:=jT (S:=S) (r:=r) n
 have hq:∀ k,QB S r n (Bu (NA S n P (Hv n r) (k+1))) λ_=>k:=by
  intro k
  induction k with
  | zero=>exact rS (Ready.rounds' o 0).inv
  | succ k ih=>exact nk o (Ready.rounds' o k) ih
 have hst:X7 S n P (NA S n P (Hv n r) (K+1)):=λi hi=>by
  have rd:=Ready.rounds' o K;exact((rd.more o i).best o hi).same o.hS o.hr (rd.full o) (rd.done _ (zzL21 _ (by rw[DW];exact S7 hi))) (mg rd.inv hK (hq K))
 have key:∀ m,(∃ J,J<=m/\X7 S n P (NA S n P (Hv n r) J))->∃ J,(∀ j,j<J->¬ X7 S n P (NA S n P (Hv n r) j))/\X7 S n P (NA S n P (Hv n r) J):=by
  intro m
  induction m with
  | zero=>rintro⟨J,hJ,h⟩;exact⟨J,λj hj=>by omega,h⟩
  | succ m ih=>
   rintro⟨J,hJ,h⟩
   by_cases hm:∃ J,J<=m/\X7 S n P (NA S n P (Hv n r) J)
   ·exact ih hm
   ·exact⟨J,λj hj hs=>hm ⟨j,by omega,hs⟩,h⟩
 exact key (K+1) ⟨K+1,zzL7 _,hst⟩
structure DomTree(S:Nat->List Nat)(r n:Nat)(P:List Nat)(t:List Int):Prop where
 inv:Inv S r n (pos (r::P)) (Bu t)
 len:t.length=n
 full:dY S r n (Bu t)
 exact_:gV S r n (Bu t)
theorem LJ(o:Ordered S r n P){j:Nat}(h:X7 S n P (NA S n P (Hv n r) j)):DomTree S r n P (NA S n P (Hv n r) j):=by
 have rd:=Ready.rounds o j
 have hall:Ready S r n P (NA S n P (Hv n r) j) P.length:=by
  have:=rd.round o P.length (zzL7 _);rwa[BA o rd.len h P.length (zzL7 _)]at this
 refine⟨rd.inv,rd.len,hall.full o,jn rd.inv o.hS o.hr (hall.full o) λy hy hne hr=>?_⟩
 have hm:y∈P:=by
  rcases zzL26.1 ((o.mem y).2 hr) with h1|h1
  ·exact absurd h1 hne
  ·exact h1
 obtain⟨i,hi,rfl⟩:=P9 hm;have b:=(hall.more o i).best o hi;rw[Ab _ _ _ hi]at b;have hs:=h i hi;rw[Ab _ _ _ hi]at hs;exact⟨_,hs,b.best⟩
end
section
variable {S:Nat->List Nat} {s s':Nat->Bool} {l o:List Nat}
theorem VL.before(h:VL S s l s' o):∀ A z B,o=A++z::B->z∈l\/∃ p∈B,z∈S p:=by
 induction h with
 | nil s=>intro A z B e;simp at e
 | skip h _ ih=>
  intro A z B e;rcases ih A z B e with h1|h1
  ·exact .inl (zzL21 _ h1)
  ·exact .inr h1
 | @step s s1 s2 y l o1 o2 h a b iha ihb=>
  intro A z B e;rcases List.append_eq_append_iff.1 e with⟨C,hC1,hC2⟩|⟨C,hC1,hC2⟩
  ·
   cases C with
   | nil=>
    simp at hC2;obtain⟨rfl,rfl⟩:=hC2;exact .inl (zzL38 ..)
   | cons c C=>
    simp at hC2;obtain⟨rfl,hC2⟩:=hC2;rcases ihb C z B hC2 with h1|h1
    ·exact .inl (zzL21 _ h1)
    ·exact .inr h1
  ·cases C with
   | nil=>
    simp at hC2;obtain⟨rfl,rfl⟩:=hC2;exact .inl (zzL38 ..)
   | cons c C=>
    simp at hC2;obtain⟨rfl,rfl⟩:=hC2;rcases iha A z C hC1 with h1|⟨p,hp,hz⟩
    ·exact .inr ⟨y,by simp,h1⟩
    ·exact .inr ⟨p,by simp[hp],hz⟩
theorem Ord.ordered{n r:Nat}{L:List Nat}(hr:r<n)(hS:∀ x,x<n->∀ w∈S x,w<n)(h:Ord S r L):∃ P,L=r::P/\Ordered S r n P:=by
 have h1:=h.nodup;have h2:=h.mem;obtain⟨s',o,hv,rfl⟩:=h;refine⟨o.reverse,rfl,hr,hS,h1,λx=>by rw[h2 x,rc_iff],λi hi=>?_⟩
 have hi':i<o.length:=by simpa using hi
 have e:o.reverse=o.reverse.take i++o.reverse[i]::o.reverse.drop (i+1):=by rw[<- P7 hi,List.take_append_drop]
 have e2:o=(o.reverse.drop (i+1)).reverse++o.reverse[i]::(o.reverse.take i).reverse:=by
  have:=Ce List.reverse e;rw[List.reverse_reverse]at this;rw[List.reverse_append,List.reverse_cons]at this
  simpa using this
 rw[Ab _ _ _ hi];rcases hv.before _ _ _ e2 with h3|⟨p,hp,hz⟩
 ·exact⟨r,zzL38 ..,h3⟩
 ·exact⟨p,zzL21 _ (zzL102.1 hp),hz⟩
end
def fV(S:Nat->List Nat)(w:Int):Nat->List Nat:=λx=>(S x).filter λy=>decide ((y:Int)≠w)
theorem oN(S:Nat->List Nat):fV S (-1)=S:=by
 funext x
 unfold fV;exact List.filter_eq_self.2 λy _=>B4 (by omega)
theorem sA(S:Nat->List Nat)(z:Nat):fV S (z:Int)=wo S z:=by
 funext x
 unfold fV wo
 congr 1
 funext y
 exact zzL60.2 ⟨λh e=>h (by rw[e]),λh e=>h (DZ e)⟩
def L5(L:List (List Int))(r:Nat)(w:Int):List Bool:=if(r:Int)=w then List.replicate L.length false else GY (fV (sN L) w) L.length ((List.replicate L.length false).set r true) L.length
theorem PX(L:List (List Int))(r:Nat)(w:Int):(L5 L r w).length=L.length:=by
 unfold L5
 split
 ·simp
 ·rw[Xv];simp
theorem bu{L:List (List Int)}(hm:Nq L=true){r:Nat}(hr:r<L.length)(w:Int) :
  Dj (Jw L) (r:Int) w=some (L5 L r w):=by
 obtain⟨h1,h2,h3⟩:=mayS_iff.1 hm
 have hroom:(1000:Nat)<=room:=by decide
 have hS:=Yj hm;have hSw:∀ z,z<L.length->∀ y∈fV (sN L) w z,y<L.length:=λz hz y hy=>hS z hz y (zzL64.1 hy).1;have hgs:(Jw L).Succ=L:=rfl
 have hlenS:∀ a,(sN L a).length=(L.getD a []).length:=λa=>by simp[sN]
 let fl:List Nat->List Nat:=λl=>l.filter λy=>decide ((y:Int)≠w)
 have hin:∀(o:List Bool) (i:Nat),o.length=L.length->i<L.length->Ad (A1 (Jw L) w (i:Int)) ((0:Int),o)=some (if o.getD i false=true then mk o (fV (sN L) w i) else o):=λo i ho hi=>by
  have hb:=CF (h3 i hi)
  by_cases hoi:o.getD i false=true
  ·rw[if_pos hoi];have hmi:∀ k,(mk o (fl ((sN L i).take k))).getD i false=true:=λk=>(mk_at (n:=L.length) _ _ ho (λy hy=>hS i hi y (List.mem_of_mem_take (zzL64.1 hy).1)) i).2 (.inl hoi)
   have hml:∀ k,(mk o (fl ((sN L i).take k))).length=L.length:=λk=>by rw[eg,ho]
   refine F3 (A1 (Jw L) w (i:Int)) (λk=>(((k:Nat):Int),mk o (fl ((sN L i).take k)))) _ (L.getD i []).length (λk hk=>?_) ?_
   ·show A1 (Jw L) w (i:Int) (_,_)=_
    unfold A1;obtain⟨a0,a1⟩:=Zz (h3 i hi) hk;simp only[hgs,Ap,hmi];rw[Aa (Er (by rw[hml];exact hi)),Mp (Er hi),Ac,C5 hk,Ac,Aa (Er hi),Aa (Er hk)]
    have hk':k<(sN L i).length:=by rw[hlenS];exact hk
    have hsk:(sN L i)[k]=((L.getD i []).getD k 0).toNat:=by rw[Ab _ _ _ hk];simp[sN]
    have hski:(((sN L i)[k]:Nat):Int)=(L.getD i []).getD k 0:=by rw[hsk];exact Yk a0
    have e:mk o (fl ((sN L i).take (k+1)))=if(L.getD i []).getD k 0=w then mk o (fl ((sN L i).take k)) else(mk o (fl ((sN L i).take k))).set ((L.getD i []).getD k 0).toNat true:=by
     rw[dF hk']
     show mk o (List.filter _ (_++[_]))=_
     rw[JS]
     by_cases hw:(L.getD i []).getD k 0=w
     ·rw[if_pos hw]
      have:List.filter (λy:Nat=>decide ((y:Int)≠w)) [(sN L i)[k]]=[]:=by rw[List.filter_cons,hski,hw];simp
      rw[this,List.append_nil]
     ·rw[if_neg hw]
      have:List.filter (λy:Nat=>decide ((y:Int)≠w)) [(sN L i)[k]]=[(sN L i)[k]]:=by rw[List.filter_cons,hski,if_pos (B4 hw)];rfl
      rw[this];unfold mk;rw[List.foldl_append,hsk]
      rfl
    by_cases hw:(L.getD i []).getD k 0=w
    ·have hne:((L.getD i []).getD k 0 !=w)=false:=by rw[hw];simp
     rw[hne,Ao,Ai,w1 (by omega),e,if_pos hw]
    ·have hne:((L.getD i []).getD k 0 !=w)=true:=by rw[zzL80];exact hw
     rw[hne,Ac,Aa (Er hi),Aa (Er hk),Aa ⟨a0,by rw[hml];exact a1⟩,w1 (by omega),e,if_neg hw]
     rfl
   ·show A1 (Jw L) w (i:Int) (_,_)=_
    unfold A1;simp only[hgs,Ap,hmi];rw[Aa (Er (by rw[hml];exact hi)),Mp (Er hi),Ac,Fe,Ao]
    have:(sN L i).take (L.getD i []).length=sN L i:=by rw[<- hlenS];exact DW ..
    rw[this]
    rfl
  ·have hof:o.getD i false=false:=by simpa using hoi
   rw[if_neg hoi]
   apply Ah
   unfold A1;simp only[hgs,Ap,hof];rw[Aa (Er (by rw[ho];exact hi)),Mp (Er hi),Ao,Ao]
 have hsw:∀ o:List Bool,o.length=L.length->Ad (A9 (Jw L) w) ((0:Int),o)=some (sw (fV (sN L) w) o L.length):=λo ho=>by
  refine F3 (A9 (Jw L) w) (λi=>(((i:Nat):Int),sw (fV (sN L) w) o i)) _ L.length (λi hi=>?_) ?_
  ·show A9 (Jw L) w (_,_)=_
   unfold A9
   have hl:(sw (fV (sN L) w) o i).length=L.length:=by rw[Vr,ho]
   simp only[hl,C5 hi,Ac];rw[hin _ i hl hi,w1 (by omega)]
   rfl
  ·show A9 (Jw L) w (_,_)=_
   unfold A9
   have hl:(sw (fV (sN L) w) o L.length).length=L.length:=by rw[Vr,ho]
   simp only[hl,Fe,Ao]
 unfold Dj;simp only[hgs,Ap];rw[Aa ⟨by omega,Int.le_refl _,by omega⟩];unfold L5
 by_cases hrw:(r:Int)=w
 ·rw[if_pos hrw]
  have:((r:Int)==w)=true:=by simpa using hrw
  rw[this,Ac]
 ·rw[if_neg hrw]
  have hne:((r:Int)==w)=false:=by rw[zzL20];exact hrw
  rw[hne,Ao,Aa (Er (by simpa using hr))]
  have hl0:((List.replicate L.length false).set r true).length=L.length:=by simp
  have:Ad (Ba (Jw L) w) ((0:Int),(List.replicate L.length false).set r true)=some (GY (fV (sN L) w) L.length ((List.replicate L.length false).set r true) L.length):=by
   refine F3 (Ba (Jw L) w) (λj=>(((j:Nat):Int),GY (fV (sN L) w) L.length ((List.replicate L.length false).set r true) j)) _ L.length (λj hj=>?_) ?_
   ·show Ba (Jw L) w (_,_)=_
    unfold Ba
    have hl:(GY (fV (sN L) w) L.length ((List.replicate L.length false).set r true) j).length=L.length:=by rw[Xv,hl0]
    simp only[hl,C5 hj,Ac];rw[hsw _ hl,w1 (by omega)]
    rfl
   ·show Ba (Jw L) w (_,_)=_
    unfold Ba
    have hl:(GY (fV (sN L) w) L.length ((List.replicate L.length false).set r true) L.length).length=L.length:=by rw[Xv,hl0]
    simp only[hl,Fe,Ao]
  rw[this]
  rfl
theorem nq{L:List (List Int)}(hm:Nq L=true){r:Nat}(hr:r<L.length){b:Nat}:(L5 L r (-1)).getD b false=true↔Rc (sN L) r b:=by
 unfold L5;rw[if_neg (by omega),oN,GZ (Yj hm) hr b,rc_iff]
theorem fG{L:List (List Int)}(hm:Nq L=true){r:Nat}(hr:r<L.length){a b:Nat}(hb:b<L.length):(L5 L r (a:Int)).getD b false=true↔Av (sN L) r a b:=by
 unfold L5;rw[av_iff]
 by_cases h:r=a
 ·subst h;rw[if_pos rfl,Tw]
  simp
 ·rw[if_neg (by omega),sA,GZ (S:=wo (sN L) a) (λz hz y hy=>Yj hm z hz y (zzL64.1 hy).1) hr b];simp[h]
def Oj(L:List (List Int))(r a b:Nat):Bool:=(L5 L r (-1)).getD b false&&!(L5 L r (a:Int)).getD b false
theorem cS{L:List (List Int)}(hm:Nq L=true){r a b:Nat}(hr:r<L.length)(hb:b<L.length):Oj L r a b=true↔Rc (sN L) r b/\¬ Av (sN L) r a b:=by
 unfold Oj;rw[Bc,R6,<- Bool.not_eq_true,nq hm hr,fG hm hr hb]
def PC(L:List (List Int))(r a b:Nat):Bool:=(List.range L.length).all λc=>decide (c=b) || !Oj L r c b || Oj L r c a
def Tv(L:List (List Int))(r b:Nat):Nat->Int
 | 0=>-2
 | a+1=>if a≠b/\Oj L r a b=true/\PC L r a b=true then(a:Int) else Tv L r b a
def X0(L:List (List Int))(r b:Nat):Int:=if b=r then -1 else Tv L r b L.length
def BB(L:List (List Int))(r:Nat):List Int:=(List.range L.length).map (X0 L r)
theorem VY(L:List (List Int))(r:Nat):(BB L r).length=L.length:=by simp[BB]
theorem oI{L:List (List Int)}{r b:Nat}(hb:b<L.length):(BB L r).getD b 0=X0 L r b:=by unfold BB;rw[Rj hb]
theorem pick_cases(L:List (List Int))(r b:Nat):∀ m,(Tv L r b m = -2/\∀ a,a<m->¬ (a≠b/\Oj L r a b=true/\PC L r a b=true))\/∃ a,a<m/\Tv L r b m=(a:Int)/\a≠b/\Oj L r a b=true/\PC L r a b=true:=by
 intro m
 induction m with
 | zero=>exact .inl ⟨rfl,λa ha=>absurd ha (Qb a)⟩
 | succ m ih=>
  unfold Tv
  by_cases h:m≠b/\Oj L r m b=true/\PC L r m b=true
  ·rw[if_pos h];exact .inr ⟨m,by omega,rfl,h⟩
  ·rw[if_neg h];rcases ih with⟨h1,h2⟩|⟨a,h1,h2⟩
   ·refine .inl ⟨h1,λa ha=>?_⟩;rcases zzL121.1 ha with h3|rfl
    ·exact h2 a h3
    ·exact h
   ·exact .inr ⟨a,by omega,h2⟩
theorem DomTree.eq{L:List (List Int)}(hm:Nq L=true){r:Nat}(hr:r<L.length){P t:List _}(o:Ordered (sN L) r L.length P)(h:DomTree (sN L) r L.length P t):t=BB L r:=by
 refine DX (by rw[h.len,VY]) λb h1 h2=>?_
 have hb:b<L.length:=by rw[<- h.len];exact h1
 rw[<- Ab _ _ 0 h1,<- Ab _ _ 0 h2,oI hb]
 show Bu t b=_
 have hov:∀ a b,b<L.length->Bu t b≠-2->(Oj L r a b=true↔UpTo (Bu t) b a):=λa b hb hp=>by
  rw[cS hm hr hb,h.exact_ b hb hp];exact⟨λk=>k.2,λk=>⟨h.inv.rc b hb hp,k⟩⟩
 unfold X0
 by_cases hbr:b=r
 ·subst hbr;rw[if_pos rfl];exact h.inv.top
 ·rw[if_neg hbr];rcases h.inv.kind b hb with hk|hk|⟨z,hz⟩
  ·
   have hn:¬ Rc (sN L) r b:=λk=>h.full b hb k hk;rcases pick_cases L r b L.length with⟨h3,_⟩|⟨a,_,_,_,h6,_⟩
   ·rw[hk,h3]
   ·exact absurd ((cS hm hr hb).1 h6).1 hn
  ·exact absurd hk hbr
  ·obtain⟨z1,z2,z3,z4⟩:=h.inv.up b hb z hz
   have hp:Bu t b≠-2:=by omega
   have hzo:Oj L r z b=true:=(hov z b hb hp).2 (.up hz (.refl _))
   have hzb:z≠b:=by rintro rfl;omega
   have hnear:PC L r z b=true:=all_range.2 λc hc=>by
    by_cases e:c=b
    ·simp[e]
    ·cases ho:Oj L r c b with
     | false=>simp
     | true=>
      have:=(hov c b hb hp).1 ho;rcases(anc_up hz).1 this with h3|h3
      ·exact absurd h3 e
      ·rw[(hov c z z1 z2).2 h3];simp
   rcases pick_cases L r b L.length with⟨_,h3⟩|⟨a,h3,h4,h5,h6,h7⟩
   ·exact absurd ⟨hzb,hzo,hnear⟩ (h3 z z1)
   ·rw[h4,hz];have haU:=(hov a b hb hp).1 h6
    have ha1:UpTo (Bu t) z a:=by
     rcases(anc_up hz).1 haU with h8|h8
     ·exact absurd h8 h5
     ·exact h8
    have hap:=(h.inv.anc ha1 z1 z2).2.1
    have hza:UpTo (Bu t) a z:=by
     have:=all_range.1 h7 z z1;simp only[hzo,hzb,decide_false,Ds,JU]at this;exact(hov z a h3 hap).1 this
    rw[h.inv.antisymm ha1 hza z1 z2]
theorem iE{g:TGraph}(h:CS g=true):Nq g.Succ=true/\g=Jw g.Succ:=by
 unfold CS at h;rw[Bc]at h;refine⟨h.1,?_⟩;obtain⟨s,p⟩:=g;have:=HN h.2;simp only at this;unfold Jw;rw[this]
theorem FU{a b:Nat}:(((a:Nat):Int)==(b:Int))=decide (a=b):=by
 by_cases h:a=b
 ·subst h;simp
 ·rw[zzL20.2 (by omega)];simp[h]
theorem gp{a b:Nat}:(((a:Nat):Int)!=(b:Int)) = !decide (a=b):=by
 unfold bne;rw[FU]
section
variable {L:List (List Int)} (hm:Nq L=true) {r:Nat} (hr:r<L.length)
def QH(L:List (List Int))(r a k:Nat):List Bool:=(List.range L.length).map λb=>if b<k then Oj L r a b else false
def QG(L:List (List Int))(r a:Nat):List Bool:=(List.range L.length).map λb=>Oj L r a b
def kF(L:List (List Int))(r:Nat):List (List Bool):=(List.range L.length).map λa=>QG L r a
theorem iP:(kF L r).length=L.length:=by simp[kF]
theorem nh{a:Nat}(ha:a<L.length):(kF L r).getD a []=QG L r a:=by unfold kF;rw[Rj ha]
theorem ck{a:Nat}:(QG L r a).length=L.length:=by simp[QG]
theorem YW{a b:Nat}(hb:b<L.length):(QG L r a).getD b false=Oj L r a b:=by unfold QG;rw[Rj hb]
include hm hr
omit hr in
theorem ru(a:Nat)(l5:List (List Bool))(hl5:l5.length=L.length)(ha:a<L.length):Ad (Dm (Jw L) (L5 L r (-1)) (a:Int) l5 (L5 L r (a:Int))) ((0:Int),List.replicate L.length false)=some (QG L r a):=by
 obtain⟨h1,h2,h3⟩:=mayS_iff.1 hm;have hgs:(Jw L).Succ=L:=rfl
 have e0:List.replicate L.length false=QH L r a 0:=by
  refine DX (by simp[QH]) λi h1 h2=>by simp[QH]
 have e1:QG L r a=QH L r a L.length:=by
  unfold QG QH
  exact Hm λi hi=>by rw[if_pos hi]
 have hlen:∀ k,(QH L r a k).length=L.length:=λk=>by simp[QH]
 rw[e0];refine F3 (Dm (Jw L) (L5 L r (-1)) (a:Int) l5 (L5 L r (a:Int))) (λk=>(((k:Nat):Int),QH L r a k)) _ L.length (λk hk=>?_) ?_
 ·show Dm (Jw L) _ _ _ _ (_,_)=_
  unfold Dm;simp only[hgs,Ap,C5 hk,Ac];rw[Aa (Er (by rw[hl5];exact ha)),Aa (Er (by rw[PX];exact hk)),Aa (λ_=>Er (by rw[PX];exact hk)),Aa (Er (by rw[hlen];exact hk)),w1 (by omega)]
  have:(QH L r a k).set k (bif (L5 L r (-1)).getD k false then !(L5 L r (a:Int)).getD k false else false)=QH L r a (k+1):=by
   unfold QH;rw[AY];refine Hm λi hi=>?_
   by_cases e:i=k
   ·subst e;rw[if_pos rfl,if_pos (by omega)];unfold Oj
    cases(L5 L r (-1)).getD i false<;>rfl
   ·rw[if_neg e]
    by_cases e2:i<k
    ·rw[if_pos e2,if_pos (by omega)]
    ·rw[if_neg e2,if_neg (by omega)]
  rw[this]
 ·show Dm (Jw L) _ _ _ _ (_,_)=_
  unfold Dm;simp only[hgs,Fe,Ao];rw[e1]
theorem rv:Ad (Dn (Jw L) (r:Int) (L5 L r (-1))) ((0:Int),List.replicate L.length ([]:List Bool))=some (kF L r):=by
 obtain⟨h1,h2,h3⟩:=mayS_iff.1 hm;have hgs:(Jw L).Succ=L:=rfl
 have hroom:(1000:Nat)<=room:=by decide
 let M:Nat->List (List Bool):=λk=>(List.range L.length).map λa=>if a<k then QG L r a else[]
 have hM:∀ k,(M k).length=L.length:=λk=>by simp[M]
 have e0:List.replicate L.length ([]:List Bool)=M 0:=by
  refine DX (by simp[M]) λi h1 h2=>by simp[M]
 have e1:kF L r=M L.length:=Hm λi hi=>by rw[if_pos hi]
 rw[e0];refine F3 (Dn (Jw L) (r:Int) (L5 L r (-1))) (λk=>(((k:Nat):Int),M k)) _ L.length (λk hk=>?_) ?_
 ·show Dn (Jw L) _ _ (_,_)=_
  unfold Dn;simp only[hgs,Ap,C5 hk,Ac];rw[Aa ⟨by omega,Int.le_refl _,by omega⟩,Aa (Er (by rw[hM];exact hk)),bu hm hr,Ai,ru hm k (M k) (hM k) hk,Ai,w1 (by omega)]
  have:(M k).set k (QG L r k)=M (k+1):=by
   show((List.range L.length).map _).set k _=_
   rw[AY];refine Hm λi hi=>?_
   by_cases e:i=k
   ·subst e;rw[if_pos rfl,if_pos (by omega)]
   ·rw[if_neg e]
    by_cases e2:i<k
    ·rw[if_pos e2,if_pos (by omega)]
    ·rw[if_neg e2,if_neg (by omega)]
  rw[this]
 ·show Dn (Jw L) _ _ (_,_)=_
  unfold Dn;simp only[hgs,Fe,Ao];rw[e1]
omit hr in
theorem rx(a b:Nat)(ha:a<L.length)(hb:b<L.length):Ad (Do (Jw L) (kF L r) (b:Int) (a:Int)) (true,(0:Int))=some (PC L r a b):=by
 obtain⟨h1,h2,h3⟩:=mayS_iff.1 hm;have hgs:(Jw L).Succ=L:=rfl
 let N:Nat->Bool:=λk=>(List.range k).all λc=>decide (c=b) || !Oj L r c b || Oj L r c a
 refine F3 (Do (Jw L) (kF L r) (b:Int) (a:Int)) (λk=>(N k,((k:Nat):Int))) _ L.length (λk hk=>?_) ?_
 ·show Do (Jw L) _ _ _ (_,_)=_
  unfold Do;simp only[hgs,Ap,C5 hk,Ac,nh hk,iP,ck,YW hb,YW ha];rw[Aa (λ_=>Er hk),Aa (λ_=>Er hb),Aa (λ_=>Er hk),Aa (λ_=>Er ha),w1 (by omega),FU]
  have:(bif N k then(bif (bif decide (k=b) then true else !Oj L r k b) then true else Oj L r k a) else false)=N (k+1):=by
   show _=(List.range (k+1)).all _
   rw[lz]
   show _=(N k&&_)
   cases N k<;>cases decide (k=b)<;>cases Oj L r k b<;>rfl
  rw[this]
 ·show Do (Jw L) _ _ _ (_,_)=_
  unfold Do;simp only[hgs,Fe,Ao]
  rfl
def Ql(L:List (List Int))(r b:Nat)(x:Int):List Int:=(List.range L.length).map λj=>if j<b then X0 L r j else if j=b then x else 0
omit hm hr in
theorem JI{b:Nat}{x:Int}:(Ql L r b x).length=L.length:=by simp[Ql]
omit hm hr in
theorem JJ{b:Nat}{x y:Int}:(Ql L r b x).set b y=Ql L r b y:=by
 unfold Ql;rw[AY];refine Hm λi hi=>?_
 by_cases e:i=b
 ·subst e;rw[if_pos rfl,if_neg (by omega),if_pos rfl]
 ·rw[if_neg e,if_neg e,if_neg e]
omit hm hr in
theorem QS{b:Nat}:Ql L r b (X0 L r b)=Ql L r (b+1) 0:=by
 unfold Ql;refine Hm λi hi=>?_
 by_cases e:i<b
 ·rw[if_pos e,if_pos (by omega)]
 ·rw[if_neg e]
  by_cases e2:i=b
  ·subst e2;rw[if_pos rfl,if_pos (by omega)]
  ·rw[if_neg e2,if_neg (by omega)];split<;>rfl
omit hr in
theorem ry(b:Nat)(hb:b<L.length)(hbr:b≠r):Ad (Cc (Jw L) (r:Int) (kF L r) (b:Int)) ((0:Int),Ql L r b (-2))=some (Ql L r b (Tv L r b L.length)):=by
 obtain⟨h1,h2,h3⟩:=mayS_iff.1 hm;have hgs:(Jw L).Succ=L:=rfl;refine F3 (Cc (Jw L) (r:Int) (kF L r) (b:Int)) (λk=>(((k:Nat):Int),Ql L r b (Tv L r b k))) _ L.length (λk hk=>?_) ?_
 ·show Cc (Jw L) _ _ _ (_,_)=_
  unfold Cc
  have hne:decide (b=r)=false:=by simp[hbr]
  simp only[hgs,Ap,C5 hk,Ac,nh hk,iP,ck,YW hb,FU,gp,hne,Mt];rw[Aa (λ_=>Er hk),Aa (λ_=>Er hb),rx hm k b hk hb]
  by_cases hkb:k=b
  ·have e:Tv L r b (k+1)=Tv L r b k:=by show(if _ then _ else _)=_;rw[if_neg (λh=>h.1 hkb)]
   rw[B4 hkb,Ac,Ac,Ai,w1 (by omega),e]
  ·rw[Cm hkb,Ao]
   cases ho:Oj L r k b with
   | false=>
    have e:Tv L r b (k+1)=Tv L r b k:=by show(if _ then _ else _)=_;rw[if_neg (λh=>by rw[ho]at h;exact absurd h.2.1 (by decide))]
    rw[Mt,Ac,Ai,w1 (by omega),e]
   | true=>
    rw[Ds,Ao,Ai]
    cases hn:PC L r k b with
    | false=>
     have e:Tv L r b (k+1)=Tv L r b k:=by show(if _ then _ else _)=_;rw[if_neg (λh=>by rw[hn]at h;exact absurd h.2.2 (by decide))]
     rw[Ao,Ai,w1 (by omega),e]
    | true=>
     have e:Tv L r b (k+1)=(k:Int):=by show(if _ then _ else _)=_;rw[if_pos ⟨hkb,ho,hn⟩]
     rw[Ac,Aa (Er (by rw[JI];exact hb)),Ai,w1 (by omega),e,JJ]
 ·show Cc (Jw L) _ _ _ (_,_)=_
  unfold Cc;simp only[hgs,Fe,Ao]
omit hr in
theorem rz:Ad (Dp (Jw L) (r:Int) (kF L r)) ((0:Int),List.replicate L.length (0:Int))=some (BB L r):=by
 obtain⟨h1,h2,h3⟩:=mayS_iff.1 hm;have hgs:(Jw L).Succ=L:=rfl
 have e0:List.replicate L.length (0:Int)=Ql L r 0 0:=by
  refine DX (by simp[Ql]) λi h1 h2=>by simp[Ql]
 have e1:BB L r=Ql L r L.length 0:=Hm λi hi=>by rw[if_pos hi]
 rw[e0];refine F3 (Dp (Jw L) (r:Int) (kF L r)) (λk=>(((k:Nat):Int),Ql L r k 0)) _ L.length (λk hk=>?_) ?_
 ·show Dp (Jw L) _ _ (_,_)=_
  unfold Dp;simp only[hgs,Ap,C5 hk,Ac];rw[Aa (Er (by rw[JI];exact hk)),FU,JJ,JJ]
  by_cases hkr:k=r
  ·rw[B4 hkr,Ac,Aa (Er (by rw[JI];exact hk)),Ai]
   have hd:Ad (Cc (Jw L) (r:Int) (kF L r) (k:Int)) ((0:Int),Ql L r k (-1))=some (Ql L r k (-1)):=by
    apply Ah
    unfold Cc;simp only[gp,B4 hkr,Ds,mP,Ao]
   rw[hd,Ai,w1 (by omega)]
   have:X0 L r k = -1:=by unfold X0;rw[if_pos hkr]
   rw[<- this,QS]
  ·rw[Cm hkr,Ao,Ai,ry hm k hk hkr,Ai,w1 (by omega)]
   have:X0 L r k=Tv L r k L.length:=by unfold X0;rw[if_neg hkr]
   rw[<- this,QS]
 ·show Dp (Jw L) _ _ (_,_)=_
  unfold Dp;simp only[hgs,Fe,Ao];rw[e1]
end
def QR(g:TGraph)(r:Int):List Int:=if CS g=true/\0<=r/\r<(g.Succ.length:Int) then BB g.Succ r.toNat else[]
theorem ed(g:TGraph)(h:Fits g.Succ)(r:Int):Kt g r=some (QR g r):=by
 have hroom:(1000:Nat)<=room:=by decide
 unfold Kt QR;rw[jy g h,Ai]
 cases hmg:CS g with
 | false=>
  rw[if_neg (λh=>by exact absurd h.1 (by decide))]
  rfl
 | true=>
  rw[Ds,Ao]
  by_cases h0:r<0
  ·rw[B4 h0,Ac,if_neg (by omega)]
   rfl
  ·rw[Cm h0,Ao]
   by_cases h1:(g.Succ.length:Int)<=r
   ·rw[B4 h1,Ac,if_neg (by omega)]
   ·rw[Cm h1,Ao,if_pos ⟨rfl,by omega,by omega⟩];obtain⟨hms,hg⟩:=iE hmg;obtain⟨hl1,hl2,hl3⟩:=mayS_iff.1 hms;obtain⟨q,rfl⟩:∃ q:Nat,r=(q:Int):=⟨r.toNat,by omega⟩
    have hq:q<g.Succ.length:=by omega
    rw[hg];have hgs:(Jw g.Succ).Succ=g.Succ:=rfl;simp only[hgs,Ap];rw[bu hms hq,Ai,Aa ⟨by omega,Int.le_refl _,by omega⟩,rv hms hq,Ai,Aa ⟨by omega,Int.le_refl _,by omega⟩,rz hms,Ai]
def upD(t:List Int):Nat->Int->Option (List Int)
 | 0,_=>none
 | k+1,a=>if 0<=a/\a<(t.length:Int) then(if t.getD a.toNat 0 = -1 then some [a] else(upD t k (t.getD a.toNat 0)).map λl=>a::l) else none
def C1(t:List Int)(a:Int):List Int:=(upD t t.length a).getD []
def yX(l:List Int):Option (List Int)->Unit ⊕ List Int
 | none=>.inl ()
 | some q=>.inr (l++q)
theorem kG(t:List Int)(ht:t.length<=1000):∀(k:Nat) (a:Int) (l:List Int),l.length+k=t.length->Ad (C0 t) (a,l)=some (yX l (upD t k a)):=by
 have hroom:(2000:Nat)<=room:=by decide
 intro k
 induction k with
 | zero=>
  intro a l hl
  apply Ah
  unfold C0;have:decide ((l.length:Int)<(t.length:Int))=false:=Cm (by omega);simp only[this,Ao]
  rfl
 | succ k ih=>
  intro a l hl;have hlt:decide ((l.length:Int)<(t.length:Int))=true:=B4 (by omega);unfold upD
  by_cases h0:0<=a
  ·by_cases h1:a<(t.length:Int)
   ·have hin:Bd a t.length:=⟨h0,h1⟩;rw[if_pos ⟨h0,h1⟩]
    by_cases ht1:t.getD a.toNat 0 = -1
    ·rw[if_pos ht1]
     apply Ah
     unfold C0;simp only[hlt,B4 h0,B4 h1,Ac];rw[Aa (by simp;omega),Aa hin,ht1]
     rfl
    ·rw[if_neg ht1]
     have hs:C0 t (a,l)=some (.next (t.getD a.toNat 0,l++[a])):=by
      unfold C0;have hb:(t.getD a.toNat 0==(-1:Int))=false:=zzL20.2 ht1;simp only[hlt,B4 h0,B4 h1,Ac];rw[Aa (by simp;omega),Aa hin,hb,Ao,Aa hin]
     rw[Ar hs,ih _ (l++[a]) (by simp;omega)]
     cases upD t k (t.getD a.toNat 0) with
     | none=>rfl
     | some q=>show some (Sum.inr ((l++[a])++q))=some (Sum.inr (l++a::q));simp
   ·rw[if_neg (by omega)]
    apply Ah
    unfold C0;simp only[hlt,B4 h0,Cm h1,Ac,Ao]
    rfl
  ·rw[if_neg (by omega)]
   apply Ah
   unfold C0;simp only[hlt,Cm h0,Ac,Ao]
   rfl
theorem eb(t:List Int)(ht:t.length<=1000)(a:Int):F7 t a=some (C1 t a):=by
 unfold F7 C1;rw[kG t ht t.length a [] (by simp),Ai]
 cases upD t t.length a with
 | none=>rfl
 | some q=>rfl
theorem ic(t:List Int):∀ k a q,upD t k a=some q->q.length<=k/\1<=q.length:=by
 intro k
 induction k with
 | zero=>intro a q h;cases h
 | succ k ih=>
  intro a q h;unfold upD at h
  split at h
  ·split at h
   ·cases h;simp
   ·cases hu:upD t k (t.getD a.toNat 0) with
    | none=>rw[hu]at h;cases h
    | some q'=>rw[hu]at h;cases h;have:=ih _ _ hu;simp;omega
  ·cases h
theorem VJ(t:List Int)(a:Int):(C1 t a).length<=t.length:=by
 unfold C1
 cases h:upD t t.length a with
 | none=>simp
 | some q=>exact(ic t _ _ _ h).1
theorem pathD_nil{t:List Int}{a:Int}:C1 t a=[]↔upD t t.length a=none:=by
 unfold C1
 cases h:upD t t.length a with
 | none=>simp
 | some q=>have:=(ic t _ _ _ h).2;simp;intro e;subst e;simp at this
def topsK(t:List Int)(k:Nat):Nat:=((List.range k).filter λa=>decide (t.getD a 0 = -1)).length
def k5(t:List Int)(a:Nat):Bool:=decide (t.getD a 0 = -2) || !decide (C1 t (a:Int)=[])
def Lq(t:List Int):Bool:=(List.range t.length).all (k5 t)&&decide (topsK t t.length=1)
theorem EW(t:List Int)(k:Nat):topsK t (k+1)=topsK t k+if t.getD k 0 = -1 then 1 else 0:=by
 unfold topsK;rw[DY,JS,F1]
 by_cases h:t.getD k 0 = -1
 ·rw[if_pos h]
  have:List.filter (λa=>decide (t.getD a 0 = -1)) [k]=[k]:=by rw[List.filter_cons,if_pos (B4 h)];rfl
  rw[this];rfl
 ·rw[if_neg h]
  have:List.filter (λa=>decide (t.getD a 0 = -1)) [k]=[]:=by rw[List.filter_cons,if_neg (by simpa using h)];rfl
  rw[this];rfl
theorem oG(t:List Int)(k:Nat):topsK t k<=k:=by
 unfold topsK;exact R8 (List.length_filter_le ..) (by simp)
theorem nD{l:List Int}:(((l.length:Nat):Int)==(0:Int))=decide (l=[]):=by
 cases l with
 | nil=>rfl
 | cons x l=>simp;omega
theorem fO(t:List Int)(ht:t.length<=1000):Ad (B7 t) ((0:Int),(0:Int))=some (bif (List.range t.length).all (k5 t) then .inl ((topsK t t.length:Nat):Int) else .inr false):=by
 have body:∀ k,k<t.length->B7 t (((topsK t k:Nat):Int),(k:Int))=some (bif k5 t k then .next (((topsK t (k+1):Nat):Int),((k+1:Nat):Int)) else .done (.inr false)):=λk hk=>by
  have hle:=oG t k;unfold B7;simp only[Ap,C5 hk,Ac];rw[Aa (Er hk)]
  have e1:(bif (t.getD k 0==(-1:Int)) then some (w64 (((topsK t k:Nat):Int)+1)) else some ((topsK t k:Nat):Int))=some ((topsK t (k+1):Nat):Int):=by
   rw[EW]
   by_cases h:t.getD k 0 = -1
   ·rw[if_pos h,zzL71.2 h,Ac,w1 (by omega)]
   ·rw[if_neg h,zzL20.2 h,Ao];rfl
  rw[e1,Ai]
  by_cases h2:t.getD k 0 = -2
  ·have hb:(t.getD k 0 !=(-2:Int))=false:=by rw[h2];rfl
   have ho:k5 t k=true:=by unfold k5;rw[B4 h2];rfl
   rw[hb,show(false==true)=false from rfl,Ao,Ai,Ao,Ao,Aa (Er hk),w1 (by omega),ho,Ac]
  ·have hb:(t.getD k 0 !=(-2:Int))=true:=zzL80.2 h2
   have ho:k5 t k = !decide (C1 t (k:Int)=[]):=by unfold k5;rw[Cm h2];rfl
   rw[hb,show(true==true)=true from rfl,Ac,eb t ht,Ai,Ac,nD,Aa (Er hk),w1 (by omega),ho]
   cases decide (C1 t (k:Int)=[])<;>rfl
 have:=Ij (B7 t) (λk=>(((topsK t k:Nat):Int),((k:Nat):Int))) (k5 t) (.inl ((topsK t t.length:Nat):Int)) (.inr false) t.length (λi hi hp=>by
   show B7 t _=_;rw[body i hi,hp,Ac]) (λi hi hp=>by
   show B7 t _=_;rw[body i hi,hp,Ao]) (by
   show B7 t _=_
   unfold B7
   simp only[Fe,Ao])
 exact this
theorem qt(t:List Int)(ht:t.length<=1000):J2 t=some (Lq t):=by
 unfold J2 Lq;rw[fO t ht,Ai]
 cases(List.range t.length).all (k5 t) with
 | false=>rfl
 | true=>
  rw[Ac,Hx]
  show some (((topsK t t.length:Nat):Int)==(1:Int))=_
  have:(1:Int)=((1:Nat):Int):=rfl;rw[this,FU]
theorem find_first(p:Int->Bool):∀ l:List Int,(∃ n,n<l.length/\(∀ i,i<n->p (l.getD i 0)=false)/\p (l.getD n 0)=true/\l.find? p=some (l.getD n 0))\/((∀ i,i<l.length->p (l.getD i 0)=false)/\l.find? p=none):=by
 intro l
 induction l with
 | nil=>exact .inr ⟨λi hi=>absurd hi (Qb i),rfl⟩
 | cons x l ih=>
  cases hx:p x with
  | true=>exact .inl ⟨0,by simp,λi hi=>absurd hi (Qb i),by simpa using hx,by simp[List.find?,hx]⟩
  | false=>
   rcases ih with⟨n,h1,h2,h3,h4⟩|⟨h1,h2⟩
   ·refine .inl ⟨n+1,by simpa using h1,λi hi=>?_,by simpa using h3,by simp[List.find?,hx,h4]⟩
    cases i with
    | zero=>simpa using hx
    | succ i=>simpa using h2 i (by omega)
   ·refine .inr ⟨λi hi=>?_,by simp only[List.find?,hx];exact h2⟩
    cases i with
    | zero=>simpa using hx
    | succ i=>simpa using h1 i (by simpa using hi)
def P1(t:List Int)(a b:Int):Int:=if Lq t=true then((C1 t a).find? λx=>(C1 t b).contains x).getD (-2) else -2
def Tu(t:List Int)(a b:Int):Bool:=P1 t a b==a&&P1 t a b !=-2
theorem uL(t:List Int)(ht:t.length<=1000)(a b:Int):Ks t a b=some (P1 t a b):=by
 unfold Ks P1;rw[qt t ht,Ai]
 cases Lq t with
 | false=>rfl
 | true=>
  rw[Ds,Ao,eb t ht,Ai,eb t ht,Ai,if_pos rfl];have hp:=VJ t a;have hq:=VJ t b
  have body:∀ k,k<(C1 t a).length->Bj (C1 t a) (C1 t b) (k:Int)=some (bif (C1 t b).contains ((C1 t a).getD k 0) then .done (.inr ((C1 t a).getD k 0)) else .next ((k+1:Nat):Int)):=λk hk=>by
   unfold Bj;simp only[Ap,C5 hk,Ac];rw[Aa (Er hk),nG _ _ (by omega),Ai,w1 (by omega),Aa (Er hk)]
   cases(C1 t b).contains ((C1 t a).getD k 0)<;>rfl
  rcases find_first (λx=>(C1 t b).contains x) (C1 t a) with⟨n,h1,h2,h3,h4⟩|⟨h1,h2⟩
  ·have:=F3 (Bj (C1 t a) (C1 t b)) (λk=>((k:Nat):Int)) (.inr ((C1 t a).getD n 0)) n (λk hk=>by
    show Bj _ _ _=_;rw[body k (by omega),h2 k hk,Ao]) (by
    show Bj _ _ _=_;rw[body n h1,h3,Ac])
   have e:Ad (Bj (C1 t a) (C1 t b)) (0:Int)=_:=this;rw[e,Ai,h4]
   rfl
  ·have:=F3 (Bj (C1 t a) (C1 t b)) (λk=>((k:Nat):Int)) (.inl ()) (C1 t a).length (λk hk=>by
    show Bj _ _ _=_;rw[body k hk,h1 k hk,Ao]) (by
    show Bj _ _ _=_
    unfold Bj
    simp only[Fe,Ao])
   have e:Ad (Bj (C1 t a) (C1 t b)) (0:Int)=_:=this;rw[e,Ai,h2]
   rfl
section
variable {S:Nat->List Nat} {r n:Nat} {P:List Nat} {t:List Int}
theorem DomTree.up(h:DomTree S r n P t):∀ k x,x<n->Bu t x≠-2->pos (r::P) x<k->∃ q,upD t k (x:Int)=some q/\(∀ w:Int,w∈q↔∃ z:Nat,w=(z:Int)/\UpTo (Bu t) x z) /\
  ∀ p:Int->Bool,(q.find? p=none/\∀ z:Nat,UpTo (Bu t) x z->p (z:Int)=false)\/∃ f:Nat,q.find? p=some (f:Int)/\UpTo (Bu t) x f/\p (f:Int)=true/\∀ z:Nat,UpTo (Bu t) x z->p (z:Int)=true->UpTo (Bu t) f z:=by
 intro k
 induction k with
 | zero=>intro x _ _ hk;exact absurd hk (Qb _)
 | succ k ih=>
  intro x hx hp hk
  have hxt:(0:Int)<=(x:Int)/\(x:Int)<(t.length:Int):=by rw[h.len];omega
  unfold upD;rw[if_pos hxt,Ap];have hpx:t.getD x 0=Bu t x:=rfl;rw[hpx];rcases h.inv.kind x hx with h1|rfl|⟨z,hz⟩
  ·exact absurd h1 hp
  ·rw[if_pos h.inv.top];refine⟨_,rfl,λw=>?_,λp=>?_⟩
   ·rw[zzL18]
    constructor
    ·rintro rfl;exact⟨x,rfl,.refl _⟩
    ·rintro⟨z,rfl,hz⟩;rw[h.inv.root_anc.1 hz]
   ·cases hpp:p (x:Int) with
    | false=>exact .inl ⟨by simp[List.find?,hpp],λz hz=>by rw[h.inv.root_anc.1 hz];exact hpp⟩
    | true=>exact .inr ⟨x,by simp[List.find?,hpp],.refl _,hpp,λz hz _=>hz⟩
  ·obtain⟨z1,z2,z3,z4⟩:=h.inv.up x hx z hz;rw[hz,if_neg (by omega)];obtain⟨q,hq1,hq2,hq3⟩:=ih z z1 z2 (by omega);rw[hq1];refine⟨(x:Int)::q,rfl,λw=>?_,λp=>?_⟩
   ·rw[zzL26,hq2 w]
    constructor
    ·rintro(rfl|⟨y,rfl,hy⟩)
     ·exact⟨x,rfl,.refl _⟩
     ·exact⟨y,rfl,.up hz hy⟩
    ·rintro⟨y,rfl,hy⟩;rcases(anc_up hz).1 hy with rfl|hy
     ·exact .inl rfl
     ·exact .inr ⟨y,rfl,hy⟩
   ·cases hpp:p (x:Int) with
    | true=>exact .inr ⟨x,by simp[List.find?,hpp],.refl _,hpp,λy hy _=>hy⟩
    | false=>
     have hf:((x:Int)::q).find? p=q.find? p:=by simp[List.find?,hpp]
     rw[hf];rcases hq3 p with⟨e1,e2⟩|⟨f,e1,e2,e3,e4⟩
     ·refine .inl ⟨e1,λy hy=>?_⟩;rcases(anc_up hz).1 hy with rfl|hy
      ·exact hpp
      ·exact e2 y hy
     ·refine .inr ⟨f,e1,.up hz e2,e3,λy hy hpy=>?_⟩;rcases(anc_up hz).1 hy with rfl|hy
      ·rw[hpp]at hpy;cases hpy
      ·exact e4 y hy hpy
theorem Ordered.pos_lt(o:Ordered S r n P){x:Nat}(hx:x∈r::P):pos (r::P) x<n:=by
 obtain⟨j,hj,rfl⟩:=P9 hx;rw[(MY o.nodup hj).2];have:=Q0 n (r::P) o.nodup λy hy=>o.lt hy;omega
theorem DomTree.path(h:DomTree S r n P t)(o:Ordered S r n P){x:Nat}(hx:x<n)(hp:Bu t x≠-2):C1 t (x:Int)≠[]/\(∀ w:Int,w∈C1 t (x:Int)↔∃ z:Nat,w=(z:Int)/\UpTo (Bu t) x z) /\
  ∀ p:Int->Bool,((C1 t (x:Int)).find? p=none/\∀ z:Nat,UpTo (Bu t) x z->p (z:Int)=false)\/∃ f:Nat,(C1 t (x:Int)).find? p=some (f:Int)/\UpTo (Bu t) x f/\p (f:Int)=true/\∀ z:Nat,UpTo (Bu t) x z->p (z:Int)=true->UpTo (Bu t) f z:=by
 have hm:=(o.mem x).2 (h.inv.rc x hx hp);obtain⟨q,h1,h2,h3⟩:=h.up n x hx hp (o.pos_lt hm)
 have e:C1 t (x:Int)=q:=by unfold C1;rw[h.len,h1];rfl
 rw[e];refine⟨λe=>?_,h2,h3⟩;have:=(h2 (x:Int)).2 ⟨x,rfl,.refl _⟩;rw[e]at this
 cases this
theorem DomTree.nopath(h:DomTree S r n P t){x:Nat}(hx:x<n)(hp:Bu t x = -2):C1 t (x:Int)=[]:=by
 rw[pathD_nil]
 cases hl:t.length with
 | zero=>rfl
 | succ k=>
  unfold upD;rw[if_pos ⟨by omega,by rw[h.len];omega⟩,Ap,show t.getD x 0=Bu t x from rfl,hp,if_neg (by omega)]
  cases k with
  | zero=>rfl
  | succ k=>unfold upD;rw[if_neg (by omega)];rfl
theorem DomTree.right(h:DomTree S r n P t)(o:Ordered S r n P):Lq t=true:=by
 unfold Lq;rw[Bc]
 constructor
 ·refine all_range.2 λx hx=>?_;rw[h.len]at hx;unfold k5
  by_cases hp:Bu t x = -2
  ·rw[show t.getD x 0=Bu t x from rfl,hp];rfl
  ·rw[Cm (h.path o hx hp).1];simp
 ·apply B4
  have key:∀ k,k<=n->topsK t k=if r<k then 1 else 0:=by
   intro k
   induction k with
   | zero=>intro _;rfl
   | succ k ih=>
    intro hk;rw[EW,ih (by omega)]
    have hr:t.getD k 0 = -1↔k=r:=by
     constructor
     ·intro he;rcases h.inv.kind k (by omega) with h1|h1|⟨z,hz⟩
      ·rw[show t.getD k 0=Bu t k from rfl,h1]at he;omega
      ·exact h1
      ·rw[show t.getD k 0=Bu t k from rfl,hz]at he;omega
     ·rintro rfl;exact h.inv.top
    by_cases hkr:k=r
    ·subst hkr;rw[if_neg (by omega),if_pos (hr.2 rfl),if_pos (by omega)]
    ·rw[if_neg (λe=>hkr (hr.1 e))]
     by_cases h2:r<k
     ·rw[if_pos h2,if_pos (by omega)]
     ·rw[if_neg h2,if_neg (by omega)]
  rw[h.len,key n (zzL7 _),if_pos o.hr]
theorem DomTree.meet(h:DomTree S r n P t)(o:Ordered S r n P){a b:Nat}(ha:a<n)(hb:b<n)(hpa:Bu t a≠-2)(hpb:Bu t b≠-2):∃ m:Nat,P1 t (a:Int) (b:Int)=(m:Int)/\MeetAt (Bu t) a b m/\m<n/\Bu t m≠-2:=by
 have rd:Ready S r n P t P.length:=⟨h.inv,h.len,λx hx=>by rw[DW]at hx;exact h.full x (o.lt hx) ((o.mem x).1 hx)⟩;obtain⟨c,hc1,hc2,hc3⟩:=h.inv.meets (rd.inj o) cV _ a b (zzL7 _) ha hb hpa hpb;refine⟨c,?_,hc1,hc2,hc3⟩;unfold P1;rw[if_pos (h.right o)];obtain⟨hca,hcb⟩:=(hc1 c).1 (.refl _)
 have hin:∀ z:Nat,(C1 t (b:Int)).contains (z:Int)=true↔UpTo (Bu t) b z:=λz=>by
  rw[zzL68,(h.path o hb hpb).2.1]
  constructor
  ·rintro⟨y,hy,hu⟩;cases DZ hy;exact hu
  ·intro hu;exact⟨z,rfl,hu⟩
 rcases(h.path o ha hpa).2.2 λx=>(C1 t (b:Int)).contains x with⟨_,h2⟩|⟨f,h1,h2,h3,h4⟩
 ·have:=h2 c hca;rw[(hin c).2 hcb]at this
  cases this
 ·rw[h1];have hfc:=h4 c hca ((hin c).2 hcb);have hcf:=(hc1 f).2 ⟨h2,(hin f).1 h3⟩;rw[h.inv.antisymm hcf hfc hc2 hc3]
  rfl
theorem DomTree.meet_none(h:DomTree S r n P t)(o:Ordered S r n P){a b:Nat}(ha:a<n)(hb:b<n)(hp:Bu t a = -2\/Bu t b = -2):P1 t (a:Int) (b:Int) = -2:=by
 unfold P1;rw[if_pos (h.right o)];rcases hp with hp|hp
 ·rw[h.nopath ha hp];rfl
 ·rw[h.nopath hb hp]
  have:(C1 t (a:Int)).find? (λx=>([]:List Int).contains x)=none:=List.find?_eq_none.2 λx _=>by simp
  rw[this];rfl
theorem DomTree.over(h:DomTree S r n P t)(o:Ordered S r n P){a b:Nat}(ha:a<n)(hb:b<n):Tu t (a:Int) (b:Int)=true↔Bu t b≠-2/\UpTo (Bu t) b a:=by
 unfold Tu;rw[Bc,zzL71,zzL80]
 by_cases hpa:Bu t a = -2
 ·rw[h.meet_none o ha hb (.inl hpa)]
  constructor
  ·rintro⟨h1,_⟩;omega
  ·rintro⟨h1,h2⟩;exact absurd hpa (h.inv.anc h2 hb h1).2.1
 ·by_cases hpb:Bu t b = -2
  ·rw[h.meet_none o ha hb (.inr hpb)]
   constructor
   ·rintro⟨h1,_⟩;omega
   ·rintro⟨h1,_⟩;exact absurd hpb h1
  ·obtain⟨m,hm1,hm2,hm3,hm4⟩:=h.meet o ha hb hpa hpb;rw[hm1]
   constructor
   ·rintro⟨h1,_⟩;have h1:=DZ h1;subst h1;exact⟨hpb,((hm2 _).1 (.refl _)).2⟩
   ·rintro⟨_,h2⟩;have:=(hm2 a).2 ⟨.refl _,h2⟩;have h3:=((hm2 m).1 (.refl _)).1;rw[h.inv.antisymm h3 this ha hpa];exact⟨rfl,by omega⟩
theorem DomTree.over_dom(h:DomTree S r n P t)(o:Ordered S r n P){a b:Nat}(ha:a<n)(hb:b<n):Tu t (a:Int) (b:Int)=true↔Rc S r b/\¬ Av S r a b:=by
 rw[h.over o ha hb]
 constructor
 ·rintro⟨h1,h2⟩;exact⟨h.inv.rc b hb h1,(h.exact_ b hb h1 a).1 h2⟩
 ·rintro⟨h1,h2⟩;have:=h.full b hb h1;exact⟨this,(h.exact_ b hb this a).2 h2⟩
end
section
variable {L:List (List Int)} (hm:Nq L=true) {r:Nat} (hr:r<L.length)
include hm hr
theorem ka:∃ P,Ord (sN L) r (r::P)/\Ordered (sN L) r L.length P/\DomTree (sN L) r L.length P (BB L r):=by
 obtain⟨O,hO⟩:=Ord.exist (Yj hm) hr;obtain⟨P,rfl,o⟩:=hO.ordered hr (Yj hm);obtain⟨J,_,hJ⟩:=sv o;have hd:=LJ o hJ;refine⟨P,hO,o,?_⟩;rw[<- hd.eq hm hr o];exact hd
end
theorem IL{X:Type}(n:Nat)(p:Nat->Bool)(f:Int->Option (LR Int X))(yes no:X)(hn:∀ i:Nat,i<n->p i=true->f (i:Int)=some (.next ((i:Int)+1)))
  (hf:∀ i:Nat,i<n->p i=false->f (i:Int)=some (.done no)) (he:f (n:Int)=some (.done yes)):Ad f (0:Int)=some (bif (List.range n).all p then yes else no):=by
 have hg:∀ i,i<(List.range n).length->(List.range n).getD i 0=i:=λi hi=>by rw[Ab _ _ _ hi];simp
 have:=Hh (List.range n) 0 p f yes no (λi hi hp=>by rw[hg i hi]at hp;exact hn i (by simpa using hi) hp) (λi hi hp=>by rw[hg i hi]at hp;exact hf i (by simpa using hi) hp) (by simpa using he) n 0 (by simp);rw[show(0:Int)=((0:Nat):Int) from rfl,this,Hw]
theorem lx{n:Nat}{p:Nat->Bool}(h:(List.range n).all p=true):∀ i,i<n->p i=true:=λi hi=>zzL32.1 h i (by simpa using hi)
def Nu(L:List (List Int)):List Bool:=GY (sN L) L.length ((List.replicate L.length false).set 0 true) L.length
def Hq(l:List Int)(p:Ig):Bool:=decide (p.From=l)&&((p.Args.length:Int)==(l.length:Int))
def Mz(L:List (List Int))(b:An)(i:Nat):Bool:=(Nu L).getD i false&&!((b.End.Kind==1 || b.End.Kind==3)&&(b.End.Arg !=0))&&b.Phis.all (Hq ((Em L).getD i []))
def Ia(f:TFunc):Bool:=N8 f&&(List.range f.Blocks.length).all λi=>Mz (Ct f) (f.Blocks.getD i default) i
theorem AP(f:TFunc):(Ct f).length=f.Blocks.length:=by simp[Ct]
theorem cX(L:List (List Int)):(Nu L).length=L.length:=by rw[Nu,Xv];simp
theorem qN{a b c d:Bool}{x:Option (LR Int (Unit ⊕ Bool))}:(bif (bif (!a) then true else(bif (bif b then true else c) then d else false)) then some (LR.done (Sum.inr false)) else x)=bif (a&&!((b || c)&&d)) then x else some (LR.done (Sum.inr false)):=by
 cases a<;>cases b<;>cases c<;>cases d<;>rfl
theorem qu {f : TFunc} (hf : OkF f) : J4 f = some (Ia f) := by
  have hmax : f.Blocks.length ≤ maxLen := by have := hf.blocks; have : (64 : Nat) ≤ maxLen := by decide
                                             omega
  unfold J4 Ia; rw [bv f hmax, Ai]
  cases hs : N8 f with
  | false => rfl
  | true =>
    have hm := Ry hs; have hlen := AP f; obtain ⟨h1, h2⟩ := S8 hm
    have hpos : 0 < (Ct f).length := by have := (shape_iff.1 hs).1.1; omega
    simp only [Ac, Hx]; rw [show (((0 : Int) != 0)) = false from rfl, Ao]; have hr := qs hm hpos; rw [show (((0 : Nat) : Int)) = 0 from rfl] at hr; rw [hr, Ai]
    show ((Ad (Fu f (Jw (Ct f), 0) (Nu (Ct f))) 0).bind _) = _
    have hphi : ∀ i, i < f.Blocks.length → Ad (Ef f (Jw (Ct f), 0) (i : Int)) (0 : Int) = some (bif (f.Blocks.getD i default).Phis.all (Hq ((Em (Ct f)).getD i [])) then .inl () else .inr false) := fun i hi => by
      have hmem := getD_mem (d := (default : An)) hi; have hB := hf.block _ hmem
      have hpl : (Jw (Ct f)).Pred.length = f.Blocks.length := by rw [← hlen]; exact Rb _
      have hpi : Bd (i : Int) (Jw (Ct f)).Pred.length := Aq (by omega)
      have key : ∀ j, j < (f.Blocks.getD i default).Phis.length → Ef f (Jw (Ct f), 0) (i : Int) (j : Int) = some (bif Hq ((Em (Ct f)).getD i []) ((f.Blocks.getD i default).Phis.getD j default) then .next ((j : Int) + 1) else .done (.inr false)) := fun j hj => by
        have hp := PM hf hmem (getD_mem (d := (default : Ig)) hj); unfold Ef
        have hd : decide ((j : Int) < ((f.Blocks.getD i default).Phis.length : Int)) = true := by simpa using hj
        have hi1 := ea ((f.Blocks.getD i default).Phis.getD j default).From ((Jw (Ct f)).Pred.getD i []) (by omega); simp only [Ej, hd, Ac, Ae (Aq hj), Ae hpi, hi1, Ai]; rw [Ae (fun _ => Aq hj), Ae (fun _ => hpi), A4 hj (by have := hB.phis; omega)]; unfold Hq
        show (bif (bif (!decide (((f.Blocks.getD i default).Phis.getD j default).From = (Em (Ct f)).getD i [])) then true else ((((f.Blocks.getD i default).Phis.getD j default).Args.length : Int) != (((Em (Ct f)).getD i []).length : Int))) then _ else _) = _
        cases decide (((f.Blocks.getD i default).Phis.getD j default).From = (Em (Ct f)).getD i []) with
        | false => rfl
        | true =>
          simp only [Ds, Ao, Hx, bne]
          cases ((((f.Blocks.getD i default).Phis.getD j default).Args.length : Int) == (((Em (Ct f)).getD i []).length : Int)) <;> rfl
      have := Hh (f.Blocks.getD i default).Phis (default : Ig) (Hq ((Em (Ct f)).getD i [])) (Ef f (Jw (Ct f), 0) (i : Int)) (.inl ()) (.inr false) (fun j hj hp => by rw [key j hj, hp]; rfl) (fun j hj hp => by rw [key j hj, hp]; rfl) (by unfold Ef; simp) (f.Blocks.getD i default).Phis.length 0 (by omega); rw [Hw] at this; exact this
    have hrl := cX (Ct f)
    have key : ∀ i, i < f.Blocks.length → Fu f (Jw (Ct f), 0) (Nu (Ct f)) (i : Int) = some (bif Mz (Ct f) (f.Blocks.getD i default) i then .next ((i : Int) + 1) else .done (.inr false)) := fun i hi => by
      unfold Fu
      have hd : decide ((i : Int) < (f.Blocks.length : Int)) = true := by simpa using hi
      simp only [hd, Ac, Ae (Aq hi), Ae (Aq (show i < (Nu (Ct f)).length by omega)), Ej, qN, hphi i hi, Ai, A4 hi (by have := hf.blocks; omega)]; unfold Mz
      cases ((Nu (Ct f)).getD i false && !(((f.Blocks.getD i default).End.Kind == 1 || (f.Blocks.getD i default).End.Kind == 3) && ((f.Blocks.getD i default).End.Arg != 0))) with
      | false => rfl
      | true => cases (f.Blocks.getD i default).Phis.all (Hq ((Em (Ct f)).getD i [])) <;> rfl
    rw [IL f.Blocks.length (fun i => Mz (Ct f) (f.Blocks.getD i default) i) _ (.inl ()) (.inr false) (fun i hi hp => by rw [key i hi, hp]; rfl) (fun i hi hp => by rw [key i hi, hp]; rfl) (by unfold Fu; simp)]
    cases (List.range f.Blocks.length).all (fun i => Mz (Ct f) (f.Blocks.getD i default) i) <;> rfl
theorem VW{f:TFunc}(h:Ia f=true):iR f:=λb hb p hp=>by
 simp only[Ia,Bc]at h;obtain⟨i,hi,rfl⟩:=P9 hb;have h1:=lx h.2 i hi;rw[Ab _ _ _ hi]at h1;simp only[Mz,Bc]at h1;have h2:=zzL32.1 h1.2 p hp;simp only[Hq,Bc,Ff,zzL71]at h2;rw[h2.1];omega
def Nb(l:List TDef)(i:Nat):Bool:=valS (l.getD i default).V&&(He l (l.getD i default).V==(i:Int))
def Kw(l:List TDef)(u:Da):Bool:=!decide (He l u.V<0)
def defOf(l:List TDef)(v:Int):TDef:=l.getD (He l v).toNat default
def Ut(l:List TDef)(u:Da):Bool:=((defOf l u.V).Shape.1==u.Shape.1)&&(((defOf l u.V).Shape.2==u.Shape.2)&&true)
def Tn(l:List TDef)(t:List Int)(u:Da):Bool:=
 (decide ((defOf l u.V).Block<0) || ((defOf l u.V).Block==u.Block&&decide ((defOf l u.V).At<u.At))) || (!((defOf l u.V).Block==u.Block)&&!(P1 t (defOf l u.V).Block u.Block !=(defOf l u.V).Block))
def Ch(f:TFunc):List Int:=QR (Jw (Ct f)) 0
def QW(f:TFunc)(l:Int):Int:=
 bif !Ia f then 5 else bif !T3 f l then 6 else bif !(List.range (defsF f).length).all (Nb (defsF f)) then 7 else bif !(Bw f).all (Kw (defsF f)) then 7 else
 bif !(Bw f).all (Ut (defsF f)) then 6 else bif !(Bw f).all (Tn (defsF f) (Ch f)) then 7 else 0
def Gi(f:TFunc)(l:Int):Int:=bif decide (l<0) || decide (2<l) then 1 else bif !Vf f then 4 else QW f l
theorem V0{l:List TDef}{v:Int}(h:¬ He l v<0):Bd (He l v) l.length:=by
 unfold He at h ⊢
 cases hx:l.findIdx? (λd=>d.V==v) with
 | none=>rw[hx]at h;exact absurd (by decide) h
 | some i=>
  obtain⟨hi,_⟩:=List.findIdx?_eq_some_iff_getElem.1 hx;exact Aq hi
theorem cy{f:TFunc}(h:N8 f=true):(Ch f).length<=1000:=by
 have h1:=(S8 (Ry h)).1;unfold Ch QR
 split
 ·rw[VY];show(Ct f).length<=1000;omega
 ·simp
theorem qc(a b c:Bool)(m q x:Int):(Option.bind (α:=Unit ⊕ Int) (bif (bif a then true else(bif b then c else false)) then some (.inl ()) else((bif (b==false) then some m else some 0).bind λx31=>(bif (bif b then true else(x31 !=q)) then some (.inr 7) else some (.inl ())))) (λx32=>match x32 with | .inl _=>some (LR.next x) | .inr r34=>some (.done (.inr r34)))) =
  (some (bif (a || (b&&c)) || (!b&&!(m !=q)) then .next x else .done (.inr 7)):Option (LR Int (Unit ⊕ Int))):=by
 cases h:(m !=q)<;>cases a<;>cases b<;>cases c<;>simp[h]
theorem qw {f : TFunc} (hf : OkF f) (l : Int) (hm : I6 f = some (Vf f)) : Fn f l = some (Gi f l) := by
  unfold Fn Gi; rw [show (bif decide (l < (0 : Int)) then true else decide ((2 : Int) < l)) = (decide (l < 0) || decide (2 < l)) by cases decide (l < (0 : Int)) <;> rfl]
  cases (decide (l < 0) || decide (2 < l)) with
  | true => rfl
  | false =>
  simp only [Ao, hm, Ai]
  cases Vf f with
  | false => rfl
  | true =>
  simp only [Ds, Ao, qu hf, Ai, QW]
  cases hs : Ia f with
  | false => rfl
  | true =>
  simp only [Ds, Ao, qv hf, Ai]
  cases ht : T3 f l with
  | false => rfl
  | true =>
  simp only [Ds, Ao, eZ hf, Ai]; have hdl := UI hf; have hul := JK hf
  have hL1 : Ad (S := Int) (X := (Unit ⊕ Int)) (Fs (defsF f)) (0 : Int) = some (bif (List.range (defsF f).length).all (Nb (defsF f)) then .inl () else .inr 7) := by
    have key : ∀ i, i < (defsF f).length → Fs (defsF f) (i : Int) = some (bif Nb (defsF f) i then .next ((i : Int) + 1) else .done (.inr 7)) := fun i hi => by
      unfold Fs Nb
      have hd : decide ((i : Int) < ((defsF f).length : Int)) = true := by simpa using hi
      simp only [hd, Ac, Ae (Aq hi), Ej, CI, Ai, Ae (fun _ => Aq hi), IM (defsF f) _ (by omega), A4 hi (by omega)]
      cases valS ((defsF f).getD i default).V with
      | false => rfl
      | true =>
        simp only [Ds, Ai, Hx]
        show (bif (He (defsF f) ((defsF f).getD i default).V != (i : Int)) then _ else _) = _
        simp only [bne]
        cases (He (defsF f) ((defsF f).getD i default).V == (i : Int)) <;> rfl
    exact IL _ _ _ _ _ (fun i hi hp => by rw [key i hi, hp]; rfl) (fun i hi hp => by rw [key i hi, hp]; rfl) (by unfold Fs; simp)
  rw [hL1, Ai]
  cases (List.range (defsF f).length).all (Nb (defsF f)) with
  | false => rfl
  | true =>
  simp only [Ac, Ds, Ao, uN hf (VW hs), Ai]
  have hL2 : Ad (S := Int) (X := (Unit ⊕ Int)) (Ed (defsF f) (Bw f)) (0 : Int) = some (bif (Bw f).all (Kw (defsF f)) then .inl () else .inr 7) := by
    have key : ∀ i, i < (Bw f).length → Ed (defsF f) (Bw f) (i : Int) = some (bif Kw (defsF f) ((Bw f).getD i default) then .next ((i : Int) + 1) else .done (.inr 7)) := fun i hi => by
      unfold Ed Kw
      have hd : decide ((i : Int) < ((Bw f).length : Int)) = true := by simpa using hi
      simp only [hd, Ac, Ae (Aq hi), Ej, IM (defsF f) _ (by omega), Ai, A4 hi (by omega)]
      cases decide (He (defsF f) ((Bw f).getD i default).V < 0) <;> rfl
    have := Hh (Bw f) default (Kw (defsF f)) (Ed (defsF f) (Bw f)) (.inl ()) (.inr 7) (fun i hi hp => by rw [key i hi, hp]; rfl) (fun i hi hp => by rw [key i hi, hp]; rfl) (by unfold Ed; simp) (Bw f).length 0 (by omega); rw [Hw] at this; exact this
  rw [hL2, Ai]
  cases hF : (Bw f).all (Kw (defsF f)) with
  | false => rfl
  | true =>
  have hfound : ∀ i, i < (Bw f).length → Bd (He (defsF f) ((Bw f).getD i default).V) (defsF f).length := fun i hi => by
    have := zzL32.1 hF _ (getD_mem (d := (default : Da)) hi); simp only [Kw, R6, LN] at this; exact V0 this
  simp only [Ac, Ds, Ao]
  have hL3 : Ad (S := Int) (X := (Unit ⊕ Int)) (Ee (defsF f) (Bw f)) (0 : Int) = some (bif (Bw f).all (Ut (defsF f)) then .inl () else .inr 6) := by
    have key : ∀ i, i < (Bw f).length → Ee (defsF f) (Bw f) (i : Int) = some (bif Ut (defsF f) ((Bw f).getD i default) then .next ((i : Int) + 1) else .done (.inr 6)) := fun i hi => by
      unfold Ee Ut defOf
      have hd : decide ((i : Int) < ((Bw f).length : Int)) = true := by simpa using hi
      simp only [hd, Ac, Ae (Aq hi), Ej, IM (defsF f) _ (by omega), Ai, Ae (hfound i hi), A4 hi (by omega)]
      cases ((((defsF f).getD (He (defsF f) ((Bw f).getD i default).V).toNat default).Shape.1 == ((Bw f).getD i default).Shape.1) && ((((defsF f).getD (He (defsF f) ((Bw f).getD i default).V).toNat default).Shape.2 == ((Bw f).getD i default).Shape.2) && true)) <;> rfl
    have := Hh (Bw f) default (Ut (defsF f)) (Ee (defsF f) (Bw f)) (.inl ()) (.inr 6) (fun i hi hp => by rw [key i hi, hp]; rfl) (fun i hi hp => by rw [key i hi, hp]; rfl) (by unfold Ee; simp) (Bw f).length 0 (by omega); rw [Hw] at this; exact this
  rw [hL3, Ai]
  cases (Bw f).all (Ut (defsF f)) with
  | false => rfl
  | true =>
  have hsB : N8 f = true := by simp only [Ia, Bc] at hs; exact hs.1
  have hmax : f.Blocks.length ≤ maxLen := by have := hf.blocks; have : (64 : Nat) ≤ maxLen := by decide
                                             omega
  simp only [Ac, Ds, Ao, bv f hmax, hsB, Ai]; rw [ed _ (GA (Ry hsB)).1 0, Ai]; have htl := cy hsB
  have hL4 : Ad (S := Int) (X := (Unit ⊕ Int)) (Df (defsF f) (Bw f) (Ch f)) (0 : Int) = some (bif (Bw f).all (Tn (defsF f) (Ch f)) then .inl () else .inr 7) := by
    have key : ∀ i, i < (Bw f).length → Df (defsF f) (Bw f) (Ch f) (i : Int) = some (bif Tn (defsF f) (Ch f) ((Bw f).getD i default) then .next ((i : Int) + 1) else .done (.inr 7)) := fun i hi => by
      unfold Df Tn defOf
      have hd : decide ((i : Int) < ((Bw f).length : Int)) = true := by simpa using hi
      simp only [hd, Ac, Ae (Aq hi), Ej, IM (defsF f) _ (by omega), Ai, Ae (hfound i hi), A4 hi (by omega), uL (Ch f) htl]; exact qc _ _ _ _ _ _
    have := Hh (Bw f) default (Tn (defsF f) (Ch f)) (Df (defsF f) (Bw f) (Ch f)) (.inl ()) (.inr 7) (fun i hi hp => by rw [key i hi, hp]; rfl) (fun i hi hp => by rw [key i hi, hp]; rfl) (by unfold Df; simp) (Bw f).length 0 (by omega); rw [Hw] at this; exact this
  show ((Ad (Df (defsF f) (Bw f) (Ch f)) 0).bind _) = _
  rw [hL4, Ai]
  cases (Bw f).all (Tn (defsF f) (Ch f)) <;> rfl
def grow(n d:Int):Int:=bif decide (n<d) then d else n
def Sm(f:TFunc):Prop:=dZ f/\Di f=some true
theorem cn{f:TFunc}(h:Sm f)(hm:Vf f=true):OkF f:=by
 obtain⟨sm,h1,h2⟩:=cq f h.1;rw[h.2]at h1;exact(h2 (OI h1).symm hm).1
theorem j0{f:TFunc}(hf:dZ f):∃ b,J3 f=some b/\(b=true->Sm f):=by
 obtain⟨x,hx⟩:∃ x,Ad (Ft f) ((0:Int),(0:Int))=some x:=by
  refine Ti f.Blocks.length (Ft f) (λn i hi=>.inl ?_) (λn=>?_) f.Blocks.length 0 0 (by omega)
  ·unfold Ft
   have hd:decide ((i:Int)<(f.Blocks.length:Int))=true:=by simpa using hi
   simp only[hd,Ac,Ae (Aq hi),Ls hi hf.blocks];exact⟨_,rfl⟩
  ·unfold Ft;exact⟨n,by simp⟩
 obtain⟨sm,h1⟩:=QN f hf;unfold J3;rw[hx,Ai,h1,Ai];refine⟨_,rfl,λhb=>⟨hf,?_⟩⟩
 cases sm with
 | true=>exact h1
 | false=>cases hb
theorem KT{f:TFunc}(h:Sm f)(l:Int):Fn f l=some (Gi f l):=by
 have hm:=ri f h.1
 cases hb:Vf f with
 | true=>exact qw (cn h hb) l hm
 | false=>
  unfold Fn Gi;rw[show(bif decide (l<(0:Int)) then true else decide ((2:Int)<l))=(decide (l<0) || decide (2<l)) by cases decide (l<(0:Int))<;>rfl]
  cases(decide (l<0) || decide (2<l)) with
  | true=>rfl
  | false=>simp only[Ao,hm,hb,Ai,Mt,Ac]
structure li(f:TFunc)(s:List (Int×(Int×Int))):Prop where
 none:Gi f 2≠0->s.length=0
 len:Gi f 2=0->s.length=(defsF f).length
 get:Gi f 2=0->∀ d∈defsF f,mget ((0:Int),(0:Int)) s d.V=d.Shape
 has:Gi f 2=0->∀ v,C7 s v=true->∃ d∈defsF f,d.V=v
theorem wq{f:TFunc}(hf:dZ f)(h0:f.Params.length<=64)(hb:∀ b∈f.Blocks,b.End.To.length<=64/\(∀ p∈b.Phis,p.From.length<=64/\p.Args.length<=64)/\∀ o∈b.Ops,o.Args.length<=64)(he:jk f<=20000):Sm f:=
 ⟨hf,by rw[cp f hf h0 hb,B4 he]⟩
def VP(f:TFunc):Int:=
 bif !(List.range (defsF f).length).all (Nb (defsF f)) then 7 else bif !(Bw f).all (Kw (defsF f)) then 7 else
 bif !(Bw f).all (Ut (defsF f)) then 6 else bif !(Bw f).all (Tn (defsF f) (Ch f)) then 7 else 0
theorem EJ{f:TFunc}{l:Int}(h0:0<=l)(h2:l<=2):Gi f l=0↔Vf f=true/\Ia f=true/\T3 f l=true/\VP f=0:=by
 unfold Gi QW;rw[Cm (show ¬ l<0 by omega),Cm (show ¬ 2<l by omega)]
 show _↔_/\_/\_/\VP f=0
 have e:(bif !(List.range (defsF f).length).all (Nb (defsF f)) then(7:Int) else bif !(Bw f).all (Kw (defsF f)) then 7 else
  bif !(Bw f).all (Ut (defsF f)) then 6 else bif !(Bw f).all (Tn (defsF f) (Ch f)) then 7 else 0)=VP f:=rfl
 rw[e]
 cases Vf f<;>cases Ia f<;>cases T3 f l<;>simp
theorem m9{o:Cn}(h:K7 o=true):1<=o.Lanes:=by
 simp only[K7,Bc]at h;have:=R0 h.1.1;omega
theorem rp{α:Type}(l:List α)(g:α->Nat):(l.map λa=>g a+1).sum=l.length+(l.map g).sum:=by
 induction l with
 | nil=>rfl
 | cons a l ih=>simp only[Cu,Vs,ih,U4];omega
theorem oL(a b:Int):w64 (a+w64 b)=w64 (a+b):=by rw[Int.add_comm,HJ,Int.add_comm]
theorem wv(f:TFunc)(hf:dZ f):Uo f=some (sizeW f):=by
 have hl:=IK f.Blocks (default:An) (λb=>b.Phis.length+b.Ops.length) id (Pr f) (λn i hi=>?_) (λn=>?_) f.Blocks.length 0 f.Blocks.length (G8 _)
 ·unfold Uo;rw[NE (by have:=hf.blocks;rw[Lm]at this;omega),show((0:Nat):Int)=0 from rfl]at hl;rw[hl,Ai,Hw,sizeW,U3,show(sizeB:An->Nat)=(λb=>(b.Phis.length+b.Ops.length)+1) from rfl,rp]
  rfl
 ·have e1:decide ((i:Int)<(f.Blocks.length:Int))=true:=B4 (by omega);unfold Pr;simp only[e1,Ac,Ae (Aq hi),Ej,Ls hi hf.blocks,oL,HJ];rw[show(n:Int)+(((f.Blocks.getD i default).Phis.length:Int)+((f.Blocks.getD i default).Ops.length:Int))=((n+((f.Blocks.getD i default).Phis.length+(f.Blocks.getD i default).Ops.length):Nat):Int) by omega]
 ·have e1:decide ((f.Blocks.length:Int)<(f.Blocks.length:Int))=false:=by simp
  unfold Pr;simp only[e1,Ao,id]
theorem FR{α:Type}(l:List α)(d:α)(p:α->Bool)(f:Int->Option (LR Int (Unit ⊕ Bool)))(hn:∀ i:Nat,i<l.length->f i=bif p (l.getD i d) then some (.next ((i:Int)+1)) else some (.done (.inr false)))
  (he:f l.length=some (.done (.inl ()))):Ad f 0=some (bif l.all p then .inl () else .inr false):=by
 have:=Hh l d p f (.inl ()) (.inr false) (λi hi hp=>by rw[hn i hi,hp];rfl) (λi hi hp=>by rw[hn i hi,hp];rfl) he l.length 0 (G8 _)
 simpa using this
theorem j9(x:Int):(bif decide (x<0) then true else decide (2147483647<x)) = !numB x:=by
 unfold numB
 by_cases h1:x<0
 ·have:¬ 0<=x:=by omega
  simp[h1,this]
 ·by_cases h2:2147483647<x
  ·have:¬ x<=2147483647:=by omega
   simp[h1,h2,this]
  ·have h3:0<=x:=by omega
   have h4:x<=2147483647:=by omega
   simp[h1,h2,h3,h4]
theorem WB(l:List Int)(h:l.length<=maxLen):Ep l=some (l.all numB):=by
 have hl:=FR l 0 numB (Kn l) (λi hi=>?_) ?_
 ·unfold Ep;rw[hl]
  cases l.all numB<;>rfl
 ·have e1:decide ((i:Int)<(l.length:Int))=true:=B4 (by omega);unfold Kn;simp only[e1,Ac,Ae (Aq hi),Ej,j9,Ls hi h]
  cases numB (l.getD i 0)<;>simp
 ·unfold Kn
  simp
theorem CO(l:List Int)(h:l.length<=maxLen):Iy l=some (listB l):=by
 unfold Iy;rw[WB l h]
 by_cases h1:l.length<=64
 ·have e1:decide ((l.length:Int)<=64)=true:=B4 (by omega);rw[e1];simp[listB,h1]
 ·have e1:decide ((l.length:Int)<=64)=false:=Cm (by omega);rw[e1];simp[listB,h1]
theorem CM{l:List Int}(h:l.length<=10):l.length<=maxLen:=by rw[Lm];omega
theorem oR(p:Ig)(h1:p.From.length<=maxLen)(h2:p.Args.length<=maxLen):Pt p=some (GU p):=by
 unfold Pt GU;rw[WB _ (CM (by simp)),CO _ h1,CO _ h2];simp only[Yl,List.all_nil,JV]
 cases numB p.Bits<;>cases numB p.Dst<;>cases listB p.From<;>cases listB p.Args<;>rfl
theorem sB(o:Cn)(h1:o.Args.length<=maxLen):Rl o=some (et o):=by
 unfold Rl et;rw[WB _ (CM (by simp)),CO _ h1];simp only[Yl,List.all_nil,JV]
 cases numB o.Kind<;>cases numB o.Bits<;>cases numB o.Lanes<;>cases numB o.Dst<;>cases listB o.Args<;>rfl
theorem oP(e:N6)(h1:e.To.length<=maxLen):Ps e=some (eK e):=by
 unfold Ps eK;rw[WB _ (CM (by simp)),CO _ h1];simp only[Yl,List.all_nil,JV]
 cases numB e.Kind<;>cases numB e.Arg<;>cases listB e.To<;>rfl
theorem PD{X:Type}(b:Bool)(x y:X):(bif !b then x else y)=bif b then y else x:=by cases b<;>rfl
theorem kh(l:List Ig)(hl:l.length<=maxLen)(h:∀ p∈l,p.From.length<=maxLen/\p.Args.length<=maxLen):J0 l=some (l.all GU):=by
 have hl':=FR l (default:Ig) GU (H0 l) (λi hi=>?_) ?_
 ·unfold J0;rw[hl']
  cases l.all GU<;>rfl
 ·have e1:decide ((i:Int)<(l.length:Int))=true:=B4 (by omega);have:=h _ (getD_mem (d:=(default:Ig)) hi);unfold H0;simp only[e1,Ac,Ae (Aq hi),Ej,oR _ this.1 this.2,Ai,PD,Ls hi hl,Int.natCast_add,Int.natCast_one]
 ·unfold H0
  simp
theorem oQ(l:List Cn)(hl:l.length<=maxLen)(h:∀ o∈l,o.Args.length<=maxLen):Km l=some (l.all et):=by
 have hl':=FR l (default:Cn) et (Ip l) (λi hi=>?_) ?_
 ·unfold Km;rw[hl']
  cases l.all et<;>rfl
 ·have e1:decide ((i:Int)<(l.length:Int))=true:=B4 (by omega);have:=h _ (getD_mem (d:=(default:Cn)) hi);unfold Ip;simp only[e1,Ac,Ae (Aq hi),Ej,sB _ this,Ai,PD,Ls hi hl,Int.natCast_add,Int.natCast_one]
 ·unfold Ip
  simp
theorem fX(b:An)(h1:b.Phis.length<=maxLen)(h2:b.Ops.length<=maxLen)(h3:b.End.To.length<=maxLen)(h4:∀ p∈b.Phis,p.From.length<=maxLen/\p.Args.length<=maxLen)(h5:∀ o∈b.Ops,o.Args.length<=maxLen):Nn b=some (blockB b):=by
 unfold Nn blockB;rw[kh _ h1 h4,oQ _ h2 h5,oP _ h3]
 cases b.Phis.all GU<;>cases b.Ops.all et<;>cases eK b.End<;>rfl
theorem dB(f:TFunc)(hf:dZ f):Io f.Blocks=some (f.Blocks.all blockB):=by
 have hl':=FR f.Blocks (default:An) blockB (Gp f.Blocks) (λi hi=>?_) ?_
 ·unfold Io;rw[hl']
  cases f.Blocks.all blockB<;>rfl
 ·have e1:decide ((i:Int)<(f.Blocks.length:Int))=true:=B4 (by omega);have hm:=getD_mem (d:=(default:An)) hi;have q:=hf.block _ hm;unfold Gp;simp only[e1,Ac,Ae (Aq hi),Ej,fX _ q.1 q.2.1 q.2.2 (hf.phi _ hm) (λo ho=>(hf.op _ hm o ho).1),Ai,PD,Ls hi hf.blocks,Int.natCast_add,Int.natCast_one]
 ·unfold Gp
  simp
theorem yY(f:TFunc)(hf:dZ f):W7 f=some (Vf f):=by
 unfold W7 Vf;rw[wv f hf,WB _ hf.params,WB _ (CM (by simp)),dB f hf];simp only[Yl,List.all_nil,JV,listB]
 have d1:∀ n:Nat,decide ((n:Int)<1) = !decide (1<=n):=λn=>by by_cases h:1<=n<;>simp[h]<;>omega
 have d2:∀ n:Nat,decide ((64:Int)<(n:Int)) = !decide (n<=64):=λn=>by by_cases h:n<=64<;>simp[h]<;>omega
 have d3:∀ n:Nat,decide ((16:Int)<(n:Int)) = !decide (n<=16):=λn=>by by_cases h:n<=16<;>simp[h]<;>omega
 have d4:∀ n:Int,decide ((512:Int)<n) = !decide (n<=512):=λn=>by by_cases h:n<=512<;>simp[h]<;>omega
 simp only[d1,d2,d3,d4]
 have himp:decide (f.Params.length<=16)=true->decide (f.Params.length<=64)=true:=λh=>by simp at h ⊢;omega
 revert himp
 generalize decide (1<=f.Blocks.length)=c1
 generalize decide (f.Blocks.length<=64)=c2
 generalize decide (f.Params.length<=16)=c3
 generalize decide (f.Params.length<=64)=c4
 generalize f.Params.all numB=c6
 generalize numB f.Ret=c7
 generalize f.Blocks.all blockB=c8
 cases c3 with
 | true=>
  intro h;obtain rfl:=h rfl;simp only[Ds,Ss,Ac,Ai,Ao]
  generalize decide (sizeW f<=512)=c5
  cases c1<;>cases c2<;>cases c6<;>cases c7<;>cases c8<;>cases c5<;>rfl
 | false=>
  intro _
  cases c1<;>cases c2<;>rfl
inductive Tp (t:List Int):Nat->Nat->Nat->Prop
 | top {x:Nat} (hx:x<t.length) (h:t.getD x 0 = -1):Tp t x x 0
 | up {x y r k:Nat} (hx:x<t.length) (h:t.getD x 0=(y:Int)) (hk:Tp t y r k):Tp t x r (k+1)
section
variable {t:List Int}
theorem Tp.lt{x r k:Nat}(h:Tp t x r k):x<t.length:=by cases h<;>assumption
theorem Tp.tops{x r k:Nat}(h:Tp t x r k):r<t.length/\t.getD r 0 = -1:=by
 induction h with
 | top hx h=>exact⟨hx,h⟩
 | up _ _ _ ih=>exact ih
theorem Tp.det{x r k r' k':Nat}(h:Tp t x r k)(h':Tp t x r' k'):r=r'/\k=k':=by
 induction h generalizing k' with
 | top hx h=>cases h' with
  | top=>exact⟨rfl,rfl⟩
  | up _ h2 _=>omega
 | up hx h1 _ ih=>cases h' with
  | top _ h2=>omega
  | up _ h2 k2=>
   have:_=_:=h1.symm.trans h2
   cases DZ this
   obtain⟨e1,e2⟩:=ih k2;exact⟨e1,by omega⟩
theorem Tp.upTo{x r k:Nat}(h:Tp t x r k):UpTo (Bu t) x r:=by
 induction h with
 | top=>exact .refl _
 | up _ h _ ih=>exact .up h ih
theorem Tp.on{x r k z:Nat}(h:Tp t x r k)(hz:UpTo (Bu t) x z):∃ j,j<=k/\Tp t z r j/\(j=k->z=x):=by
 induction hz generalizing k with
 | refl x=>exact⟨k,zzL7 _,h,λ_=>rfl⟩
 | up hp _ ih=>
  cases h with
  | top _ h2=>have:_=_:=hp.symm.trans h2;omega
  | up _ h2 k2=>
   have:_=_:=hp.symm.trans h2
   cases DZ this
   obtain⟨j,h1,h3,_⟩:=ih k2;exact⟨j,by omega,h3,λe=>by omega⟩
theorem Tp.anti{x r k z:Nat}(h:Tp t x r k)(h1:UpTo (Bu t) x z)(h2:UpTo (Bu t) z x):z=x:=by
 obtain⟨j,j1,j2,j3⟩:=h.on h1;obtain⟨i,i1,i2,i3⟩:=j2.on h2;have:=h.det i2;exact j3 (by omega)
theorem Tp.list{x r k:Nat}(h:Tp t x r k):∃ l:List Nat,l.length=k+1/\l.Nodup/\∀ y∈l,y<t.length/\∃ j,j<=k/\Tp t y r j:=by
 induction h with
 | top hx h=>exact⟨[_],rfl,by simp,λy hy=>by rw[zzL18.1 hy];exact⟨hx,0,zzL7 _,.top hx h⟩⟩
 | @up x y r k hx h hk ih=>
  obtain⟨l,h1,h2,h3⟩:=ih;refine⟨x::l,by simp[h1],zzL82.2 ⟨λhm=>?_,h2⟩,λz hz=>?_⟩
  ·obtain⟨_,j,hj,hj2⟩:=h3 _ hm;have:=(Tp.up hx h hk).det hj2;omega
  ·rcases zzL26.1 hz with rfl|hz
   ·exact⟨hx,k+1,zzL7 _,.up hx h hk⟩
   ·obtain⟨e1,j,e2,e3⟩:=h3 z hz;exact⟨e1,j,by omega,e3⟩
theorem Tp.short{x r k:Nat}(h:Tp t x r k):k<t.length:=by
 obtain⟨l,h1,h2,h3⟩:=h.list;have:=Q0 t.length l h2 λy hy=>(h3 y hy).1;omega
theorem Tp.upD{x r k:Nat}(h:Tp t x r k):∀ m,k<m->∃ q,upD t m (x:Int)=some q/\(∀ w:Int,w∈q↔∃ z:Nat,w=(z:Int)/\UpTo (Bu t) x z) /\
  ∀ p:Int->Bool,(q.find? p=none/\∀ z:Nat,UpTo (Bu t) x z->p (z:Int)=false)\/∃ f:Nat,q.find? p=some (f:Int)/\UpTo (Bu t) x f/\p (f:Int)=true/\∀ z:Nat,UpTo (Bu t) x z->p (z:Int)=true->UpTo (Bu t) f z:=by
 induction h with
 | @top x hx h=>
  intro m hm;obtain⟨m,rfl⟩:∃ i,m=i+1:=⟨m-1,by omega⟩
  have htop:∀ z,UpTo (Bu t) x z↔z=x:=λz=>MM λp hp=>by have:_=_:=hp.symm.trans h;omega
  unfold Go.Proofs.YtiendmljhgbjoaaGreat.upD;rw[if_pos ⟨by omega,by omega⟩,Ap,if_pos h];refine⟨_,rfl,λw=>?_,λp=>?_⟩
  ·rw[zzL18]
   constructor
   ·rintro rfl;exact⟨x,rfl,.refl _⟩
   ·rintro⟨z,rfl,hz⟩;rw[(htop z).1 hz]
  ·cases hpp:p (x:Int) with
   | false=>exact .inl ⟨by simp[List.find?,hpp],λz hz=>by rw[(htop z).1 hz];exact hpp⟩
   | true=>exact .inr ⟨x,by simp[List.find?,hpp],.refl _,hpp,λz hz _=>hz⟩
 | @up x y r k hx h hk ih=>
  intro m hm;obtain⟨m,rfl⟩:∃ i,m=i+1:=⟨m-1,by omega⟩;unfold Go.Proofs.YtiendmljhgbjoaaGreat.upD;rw[if_pos ⟨by omega,by omega⟩,Ap,if_neg (by omega),h];obtain⟨q,hq1,hq2,hq3⟩:=ih m (by omega);rw[hq1];refine⟨(x:Int)::q,rfl,λw=>?_,λp=>?_⟩
  ·rw[zzL26,hq2 w]
   constructor
   ·rintro(rfl|⟨y,rfl,hy⟩)
    ·exact⟨x,rfl,.refl _⟩
    ·exact⟨y,rfl,.up h hy⟩
   ·rintro⟨y,rfl,hy⟩;rcases(anc_up h).1 hy with rfl|hy
    ·exact .inl rfl
    ·exact .inr ⟨y,rfl,hy⟩
  ·cases hpp:p (x:Int) with
   | true=>exact .inr ⟨x,by simp[List.find?,hpp],.refl _,hpp,λy hy _=>hy⟩
   | false=>
    have hf:((x:Int)::q).find? p=q.find? p:=by simp[List.find?,hpp]
    rw[hf];rcases hq3 p with⟨e1,e2⟩|⟨f,e1,e2,e3,e4⟩
    ·refine .inl ⟨e1,λy hy=>?_⟩;rcases(anc_up h).1 hy with rfl|hy
     ·exact hpp
     ·exact e2 y hy
    ·refine .inr ⟨f,e1,.up h e2,e3,λy hy hpy=>?_⟩;rcases(anc_up h).1 hy with rfl|hy
     ·rw[hpp]at hpy;cases hpy
     ·exact e4 y hy hpy
theorem ug:∀ m (a:Int) q,upD t m a=some q->∃ x r k:Nat,a=(x:Int)/\k<m/\Tp t x r k:=by
 intro m
 induction m with
 | zero=>intro a q h;cases h
 | succ m ih=>
  intro a q h;unfold Go.Proofs.YtiendmljhgbjoaaGreat.upD at h
  by_cases ha:0<=a/\a<(t.length:Int)
  ·rw[if_pos ha]at h;have e:((a.toNat:Nat):Int)=a:=Yk ha.1
   by_cases h1:t.getD a.toNat 0 = -1
   ·exact⟨a.toNat,a.toNat,0,e.symm,by omega,.top (by omega) h1⟩
   ·rw[if_neg h1]at h
    cases hu:Go.Proofs.YtiendmljhgbjoaaGreat.upD t m (t.getD a.toNat 0) with
    | none=>rw[hu]at h;cases h
    | some q'=>
     obtain⟨y,r,k,e1,e2,e3⟩:=ih _ _ hu;exact⟨a.toNat,r,k+1,e.symm,by omega,.up (by omega) e1 e3⟩
  ·rw[if_neg ha]at h;cases h
theorem pathD_tp{a:Int}:C1 t a≠[]↔∃ x r k:Nat,a=(x:Int)/\Tp t x r k:=by
 constructor
 ·intro h
  cases hu:upD t t.length a with
  | none=>exact absurd (pathD_nil.2 hu) h
  | some q=>obtain⟨x,r,k,e1,_,e2⟩:=ug _ _ _ hu;exact⟨x,r,k,e1,e2⟩
 ·rintro⟨x,r,k,rfl,h⟩ e;obtain⟨q,hq,_⟩:=h.upD t.length h.short;rw[pathD_nil.1 e]at hq;cases hq
theorem Tp.path{x r k:Nat}(h:Tp t x r k):(∀ w:Int,w∈C1 t (x:Int)↔∃ z:Nat,w=(z:Int)/\UpTo (Bu t) x z) /\
  ∀ p:Int->Bool,((C1 t (x:Int)).find? p=none/\∀ z:Nat,UpTo (Bu t) x z->p (z:Int)=false)\/∃ f:Nat,(C1 t (x:Int)).find? p=some (f:Int)/\UpTo (Bu t) x f/\p (f:Int)=true/\∀ z:Nat,UpTo (Bu t) x z->p (z:Int)=true->UpTo (Bu t) f z:=by
 obtain⟨q,h1,h2,h3⟩:=h.upD t.length h.short
 have e:C1 t (x:Int)=q:=by unfold C1;rw[h1];rfl
 rw[e];exact⟨h2,h3⟩
theorem OH{α:Type}{l:List α}{i j:Nat}{x d:α}(hi:i<l.length):(l.set i x).getD j d=if j=i then x else l.getD j d:=by
 by_cases h:j=i
 ·subst h;simp[List.getD,hi]
 ·simp[List.getD,h,Ne.symm h]
theorem qz{x r k:Nat}(h:Tp t x r k):∀ l:List Bool,l.length=t.length->∃ l',Ad (Jg t) ((x:Int),l)=some l'/\l'.length=t.length/\∀ z,z<t.length->(l'.getD z false=true↔l.getD z false=true\/UpTo (Bu t) x z):=by
 induction h with
 | @top x hx h=>
  intro l hl
  have hs:Jg t ((x:Int),l)=some (.next (-1,l.set x true)):=by
   unfold Jg
   have hb:((x:Int)!=(-1:Int))=true:=by rw[zzL80];omega
   simp only[hb,Ac,Ap,h];rw[Aa (Er (by omega)),Aa (Er hx)]
  have hd:Jg t (-1,l.set x true)=some (.done (l.set x true)):=by
   unfold Jg
   rfl
  refine⟨l.set x true,by rw[Ar hs,Ah hd],by simp[hl],λz hz=>?_⟩;rw[OH (by omega)]
  have htop:UpTo (Bu t) x z↔z=x:=MM λp hp=>by have:_=_:=hp.symm.trans h;omega
  rw[htop]
  by_cases e:z=x
  ·simp[e]
  ·simp[e]
 | @up x y r k hx h hk ih=>
  intro l hl
  have hs:Jg t ((x:Int),l)=some (.next ((y:Int),l.set x true)):=by
   unfold Jg
   have hb:((x:Int)!=(-1:Int))=true:=by rw[zzL80];omega
   simp only[hb,Ac,Ap,h];rw[Aa (Er (by omega)),Aa (Er hx)]
  obtain⟨l',e1,e2,e3⟩:=ih (l.set x true) (by simp[hl]);refine⟨l',by rw[Ar hs,e1],e2,λz hz=>?_⟩;rw[e3 z hz,OH (by omega),anc_up (par:=Bu t) h]
  by_cases e:z=x
  ·simp[e]
  ·simp[e]
theorem q8{b r k:Nat}(h:Tp t b r k)(l:List Bool)(hl:l.length=t.length):l.getD r false=true->∃ c:Nat,Ad (Jh t l) (b:Int)=some (c:Int)/\UpTo (Bu t) b c/\l.getD c false=true/\∀ z,UpTo (Bu t) b z->l.getD z false=true->UpTo (Bu t) c z:=by
 induction h with
 | @top x hx h=>
  intro hr
  have hd:Jh t l (x:Int)=some (.done (x:Int)):=by
   unfold Jh;rw[Aa (Er (by omega)),Ap,hr]
   rfl
  exact⟨x,Ah hd,.refl _,hr,λz hz _=>hz⟩
 | @up x y r k hx h hk ih=>
  intro hr
  cases hx2:l.getD x false with
  | true=>
   have hd:Jh t l (x:Int)=some (.done (x:Int)):=by
    unfold Jh;rw[Aa (Er (by omega)),Ap,hx2]
    rfl
   exact⟨x,Ah hd,.refl _,hx2,λz hz _=>hz⟩
  | false=>
   have hs:Jh t l (x:Int)=some (.next (y:Int)):=by
    unfold Jh;rw[Aa (Er (by omega)),Ap,hx2,Mt,Ac,Aa (Er hx),h]
   obtain⟨c,e1,e2,e3,e4⟩:=ih hr;refine⟨c,by rw[Ar hs,e1],.up h e2,e3,λz hz hlz=>?_⟩;rcases(anc_up (par:=Bu t) h).1 hz with rfl|hz
   ·rw[hx2]at hlz;cases hlz
   ·exact e4 z hz hlz
theorem KU(ht:t.length<=1000){a b r k m:Nat}(ha:Tp t a r k)(hb:Tp t b r m):∃ c:Nat,Qy t (a:Int) (b:Int)=some (c:Int)/\MeetAt (Bu t) a b c:=by
 unfold Qy
 have hroom:(1000:Nat)<=room:=by decide
 rw[Aa ⟨by omega,by omega,by omega⟩,Ap];obtain⟨l',h1,h2,h3⟩:=qz ha (List.replicate t.length false) (by simp);rw[h1,Ai]
 have h3':∀ z,z<t.length->(l'.getD z false=true↔UpTo (Bu t) a z):=λz hz=>by rw[h3 z hz,Tw];simp
 obtain⟨c,e1,e2,e3,e4⟩:=q8 hb l' h2 ((h3' r ha.tops.1).2 ha.upTo)
 have hc:c<t.length:=by obtain⟨j,_,hj,_⟩:=hb.on e2;exact hj.lt
 refine⟨c,by rw[e1];rfl,λw=>⟨λhw=>⟨((h3' c hc).1 e3).trans hw,e2.trans hw⟩,λ⟨hw1,hw2⟩=>?_⟩⟩;obtain⟨j,_,hj,_⟩:=ha.on hw1;exact e4 w hw2 ((h3' w hj.lt).2 hw1)
theorem nL(hR:Lq t=true){a b r k m:Nat}(ha:Tp t a r k)(hb:Tp t b r m):∃ c:Nat,P1 t (a:Int) (b:Int)=(c:Int)/\MeetAt (Bu t) a b c:=by
 unfold P1;rw[if_pos hR]
 have hcon:∀ z:Nat,(C1 t (b:Int)).contains (z:Int)=true↔UpTo (Bu t) b z:=λz=>by
  rw[zzL68,hb.path.1]
  constructor
  ·rintro⟨y,e,hy⟩;cases DZ e;exact hy
  ·intro hz;exact⟨z,rfl,hz⟩
 rcases ha.path.2 (λx=>(C1 t (b:Int)).contains x) with⟨e1,e2⟩|⟨f,e1,e2,e3,e4⟩
 ·have:=e2 r ha.upTo;rw[(hcon r).2 hb.upTo]at this
  cases this
 ·exact⟨f,by rw[e1];rfl,λw=>⟨λhw=>⟨e2.trans hw,((hcon f).1 e3).trans hw⟩,λ⟨hw1,hw2⟩=>e4 w hw1 ((hcon w).2 hw2)⟩⟩
theorem MeetAt.same{a b r k c d:Nat}(ha:Tp t a r k)(hc:MeetAt (Bu t) a b c)(hd:MeetAt (Bu t) a b d):c=d:=by
 obtain⟨j,_,hj,_⟩:=ha.on ((hc c).1 (.refl _)).1;exact(hj.anti ((hc d).2 ((hd d).1 (.refl _))) ((hd c).2 ((hc c).1 (.refl _)))).symm
end
theorem m_index(t:List Int)(v:Int)(ht:t.length<=1000):(∃ r:Nat,r<t.length/\t.getD r 0=v/\(∀ i,i<r->t.getD i 0≠v)/\G0 t v=some (r:Int))\/((∀ i,i<t.length->t.getD i 0≠v)/\G0 t v=some (-1)):=by
 have key:∀ k i:Nat,i+k=t.length->(∀ j,j<i->t.getD j 0≠v)->
   (∃ r:Nat,r<t.length/\t.getD r 0=v/\(∀ i,i<r->t.getD i 0≠v)/\Ad (C4 t v) (i:Int)=some (.inr (r:Int)))\/((∀ i,i<t.length->t.getD i 0≠v)/\Ad (C4 t v) (i:Int)=some (.inl ())):=by
  intro k
  induction k with
  | zero=>
   intro i hi hj
   obtain rfl:i=t.length:=by omega
   refine .inr ⟨hj,Ah ?_⟩;unfold C4;rw[Fe];rfl
  | succ k ih=>
   intro i hi hj
   by_cases e:v=t.getD i 0
   ·refine .inl ⟨i,by omega,e.symm,hj,Ah ?_⟩;unfold C4;have hb:((v:Int)==t.getD i 0)=true:=zzL71.2 e;simp only[C5 (show i<t.length by omega),Ac,Ap,hb];rw[Aa (Er (by omega))]
   ·have hs:C4 t v (i:Int)=some (.next ((i+1:Nat):Int)):=by
     unfold C4;have hb:((v:Int)==t.getD i 0)=false:=zzL20.2 e;simp only[C5 (show i<t.length by omega),Ac,Ap,hb,Ao];rw[Aa (Er (by omega)),w1 (by omega)]
    rw[Ar hs]
    exact ih (i+1) (by omega) λj hj2=>by
     by_cases ej:j=i
     ·subst ej;exact λh=>e h.symm
     ·exact hj j (by omega)
 have h0:=key t.length 0 (by omega) (λj hj=>absurd hj (Qb _));unfold G0;rcases h0 with⟨r,h1,h2,h3,h4⟩|⟨h1,h2⟩
 ·exact .inl ⟨r,h1,h2,h3,by rw[show((0:Int))=((0:Nat):Int) from rfl,h4];rfl⟩
 ·exact .inr ⟨h1,by rw[show((0:Int))=((0:Nat):Int) from rfl,h2];rfl⟩
section
variable {t:List Int}
structure CZ(t:List Int)(r f:Nat)(w:List Int):Prop where
 len:w.length=t.length
 old:∀ y,y<t.length->w.getD y 0≠0->(w.getD y 0<=(f:Int))/\∃ k,Tp t y r k
structure lk(t:List Int)(r f x:Nat)(w:List Int):Prop where
 len:w.length=t.length
 hx:x<t.length
 old:∀ y,y<t.length->w.getD y 0≠0->w.getD y 0<=(f:Int)/\(∃ k,Tp t y r k)\/w.getD y 0=((f+1:Nat):Int)/\∀ r' k,Tp t x r' k->∃ j,k<j/\Tp t y r' j
 fwd:∀ r' k,Tp t x r' k->∃ j,k<=j/\Tp t f r' j
 back:∀ r' k,Tp t f r' k->∃ j,Tp t x r' j
def WD(w:List Int):Nat:=w.countP λz=>z==0
theorem kq{w:List Int}{x:Nat}{v:Int}(hx:x<w.length)(h0:w.getD x 0=0)(hv:v≠0):WD (w.set x v)<WD w:=by
 unfold WD;rw[List.countP_set hx];rw[Ab _ _ _ hx]at h0;have hp:0<w.countP λz=>z==0:=List.countP_pos_iff.2 ⟨w[x],DV hx,by simp[h0]⟩;have hb:(v==0)=false:=zzL20.2 hv;simp only[h0,Ss,Lt,hb,HM,Hy];omega
theorem leads_loop(ht:t.length<=1000){r:Nat}(hr:r<t.length)(htop:t.getD r 0 = -1){f:Nat}(hf:f<t.length):∀(m x:Nat) (w:List Int),WD w<=m->lk t r f x w->
  (∃ w',Ad (Ea t (f:Int) (r:Int)) ((x:Int),w)=some (.inl w')/\CZ t r (f+1) w'/\∃ k,Tp t f r k) \/
  ∃ b w',Ad (Ea t (f:Int) (r:Int)) ((x:Int),w)=some (.inr (b,w'))/\w'.length=t.length/\(b=true->CZ t r (f+1) w'/\∃ k,Tp t f r k)/\(b=false->∀ k,¬ Tp t f r k):=by
 intro m
 induction m with
 | zero=>
  intro x w hz hw;exact go 0 (λx w hz=>absurd hz (Qb _)) x w hz hw
 | succ m ih=>
  intro x w hz hw;exact go (m+1) (λx w hz=>ih x w (Nat.le_of_lt_succ hz)) x w hz hw
where
 go (m:Nat) (ih:∀(x:Nat) (w:List Int),WD w<m->lk t r f x w->
  (∃ w',Ad (Ea t (f:Int) (r:Int)) ((x:Int),w)=some (.inl w')/\CZ t r (f+1) w'/\∃ k,Tp t f r k) \/
  ∃ b w',Ad (Ea t (f:Int) (r:Int)) ((x:Int),w)=some (.inr (b,w'))/\w'.length=t.length/\(b=true->CZ t r (f+1) w'/\∃ k,Tp t f r k)/\(b=false->∀ k,¬ Tp t f r k)) (x:Nat) (w:List Int) (hz:WD w<=m) (hw:lk t r f x w) :
  (∃ w',Ad (Ea t (f:Int) (r:Int)) ((x:Int),w)=some (.inl w')/\CZ t r (f+1) w'/\∃ k,Tp t f r k) \/
  ∃ b w',Ad (Ea t (f:Int) (r:Int)) ((x:Int),w)=some (.inr (b,w'))/\w'.length=t.length/\(b=true->CZ t r (f+1) w'/\∃ k,Tp t f r k)/\(b=false->∀ k,¬ Tp t f r k):=by
  have hxl:=hw.hx
  have told:∀ k,Tp t x r k->CZ t r (f+1) w/\∃ k,Tp t f r k:=λk hk=>by
   obtain⟨j,_,hj⟩:=hw.fwd _ _ hk;refine⟨⟨hw.len,λy hy hy0=>?_⟩,j,hj⟩;rcases hw.old y hy hy0 with⟨h1,h2⟩|⟨h1,h2⟩
   ·exact⟨by omega,h2⟩
   ·obtain⟨i,_,hi⟩:=h2 _ _ hk;exact⟨by omega,i,hi⟩
  by_cases hxr:x=r
  ·subst hxr;refine .inl ⟨w,Ah ?_,told 0 (.top hr htop)⟩;unfold Ea
   have hb:((x:Int)!=(x:Int))=false:=by simp
   simp only[hb,Ao]
  ·have hb:((x:Int)!=(r:Int))=true:=by rw[zzL80];omega
   have hin:Bd (x:Int) w.length:=Er (by rw[hw.len];exact hxl)
   by_cases hw0:w.getD x 0=0
   ·have hb0:((w.getD x 0:Int)!=0)=false:=by rw[hw0];rfl
    by_cases hpl:0<=t.getD x 0/\t.getD x 0<(t.length:Int)
    ·have hwf:w64 ((f:Int)+1)=((f+1:Nat):Int):=w1 (by omega)
     have hs:Ea t (f:Int) (r:Int) ((x:Int),w)=some (.next (t.getD x 0,w.set x ((f+1:Nat):Int))):=by
      unfold Ea Mk;simp only[hb,Ac,Ap,hb0,Ao];rw[Aa hin,Aa (Er hxl),B4 hpl.1,B4 hpl.2,Ac,Ai,Ds,Ao,Aa hin,Aa (Er hxl),hwf]
     rw[Ar hs];obtain⟨y,hy⟩:∃ y:Nat,t.getD x 0=(y:Int):=⟨(t.getD x 0).toNat,(Yk hpl.1).symm⟩;rw[hy]at hpl ⊢
     have hyl:y<t.length:=by omega
     have hst:∀ r' k,Tp t y r' k->Tp t x r' (k+1):=λr' k hk=>.up hxl hy hk
     have hset:∀ z,z<t.length->(w.set x ((f+1:Nat):Int)).getD z 0=if z=x then((f+1:Nat):Int) else w.getD z 0:=λz _=>OH (by rw[hw.len];exact hxl)
     have hW:lk t r f y (w.set x ((f+1:Nat):Int)):=by
      refine⟨by simp[hw.len],hyl,λz hzl hz0=>?_,λr' k hk=>?_,λr' k hk=>?_⟩
      ·rw[hset z hzl]at hz0 ⊢
       by_cases e:z=x
       ·subst e;rw[if_pos rfl];exact .inr ⟨rfl,λr' k hk=>⟨k+1,by omega,hst r' k hk⟩⟩
       ·rw[if_neg e]at hz0 ⊢;rcases hw.old z hzl hz0 with h1|⟨h1,h2⟩
        ·exact .inl h1
        ·refine .inr ⟨h1,λr' k hk=>?_⟩;obtain⟨j,hj1,hj2⟩:=h2 _ _ (hst r' k hk);exact⟨j,by omega,hj2⟩
      ·obtain⟨j,hj1,hj2⟩:=hw.fwd _ _ (hst r' k hk);exact⟨j,by omega,hj2⟩
      ·obtain⟨j,hj⟩:=hw.back _ _ hk
       cases hj with
       | top _ h2=>omega
       | up _ h2 h3=>
        have:=hy.symm.trans h2
        cases DZ this
        exact⟨_,h3⟩
     have hzz:=kq (x:=x) (v:=((f+1:Nat):Int)) (by rw[hw.len];exact hxl) hw0 (by omega);exact ih y _ (by omega) hW
    ·refine .inr ⟨false,w,Ah ?_,hw.len,⟨λh=>(by cases h),λ_ k hk=>?_⟩⟩
     ·unfold Ea Mk;simp only[hb,Ac,Ap,hb0,Ao];rw[Aa hin,Aa (Er hxl)]
      have:(bif decide ((0:Int)<=t.getD x 0) then decide (t.getD x 0<(t.length:Int)) else false)=false:=by
       cases h1:decide ((0:Int)<=t.getD x 0) with
       | false=>rfl
       | true=>rw[Ac];exact Cm λh2=>hpl ⟨HN h1,h2⟩
      rw[this,Ai]
      rfl
     ·obtain⟨j,hj⟩:=hw.back _ _ hk
      cases hj with
      | top=>exact hxr rfl
      | up _ h2 h3=>have:=h3.lt;exact hpl ⟨by omega,by omega⟩
   ·have hb0:((w.getD x 0:Int)!=0)=true:=by rw[zzL80];exact hw0
    have hwf:w64 ((f:Int)+1)=((f+1:Nat):Int):=w1 (by omega);refine .inr ⟨w.getD x 0 !=((f+1:Nat):Int),w,Ah ?_,hw.len,⟨λh=>?_,λh k hk=>?_⟩⟩
    ·unfold Ea;simp only[hb,Ac,Ap,hb0];rw[Aa hin,Aa hin,hwf]
    ·rcases hw.old x hxl hw0 with⟨_,k,hk⟩|⟨h1,_⟩
     ·exact told k hk
     ·rw[h1]at h;simp at h
    ·have he:w.getD x 0=((f+1:Nat):Int):=by simpa using h
     obtain⟨j,hj⟩:=hw.back _ _ hk;rcases hw.old x hxl hw0 with⟨h1,_⟩|⟨_,h2⟩
     ·omega
     ·obtain⟨i,hi1,hi2⟩:=h2 _ _ hj;have:=hj.det hi2;omega
end
section
variable {t:List Int}
theorem qr(ht:t.length<=1000){r:Nat}(hr:r<t.length)(htop:t.getD r 0 = -1){f:Nat}(hf:f<t.length){w:List Int}(hw:CZ t r f w) :
  ∃ b w',Uq t w (f:Int) (r:Int)=some (b,w')/\w'.length=t.length/\(b=true->CZ t r (f+1) w'/\∃ k,Tp t f r k)/\(b=false->∀ k,¬ Tp t f r k):=by
 unfold Uq;have hW:lk t r f f w:=⟨hw.len,hf,λy hy h0=>.inl (hw.old y hy h0),λr' k hk=>⟨k,zzL7 _,hk⟩,λr' k hk=>⟨k,hk⟩⟩;rcases leads_loop ht hr htop hf _ f w (zzL7 _) hW with⟨w',e1,e2⟩|⟨b,w',e1,e2,e3,e4⟩
 ·exact⟨true,w',by rw[e1];rfl,e2.1.len,λ_=>e2,λh=>by cases h⟩
 ·exact⟨b,w',by rw[e1];rfl,e2,e3,e4⟩
def TV(t:List Int)(r:Nat):Prop:=∀ f,f<t.length->t.getD f 0≠-2->∃ k,Tp t f r k
open Classical in
theorem be(ht:t.length<=1000){r:Nat}(hr:r<t.length)(htop:t.getD r 0 = -1):∀(k f:Nat) (w:List Int),f+k=t.length->CZ t r f w->(∀ y,y<f->t.getD y 0≠-2->∃ k,Tp t y r k)->
  Ad (G6 t (r:Int)) ((f:Int),w)=some (if TV t r then .inl () else .inr false):=by
 intro k
 induction k with
 | zero=>
  intro f w hk hw hd
  obtain rfl:f=t.length:=by omega
  apply Ah
  unfold G6;simp only[Fe,Ao];rw[if_pos (show TV t r from hd)]
 | succ k ih=>
  intro f w hk hw hd
  have hf:f<t.length:=by omega
  by_cases h2:t.getD f 0 = -2
  ·have hb:((t.getD f 0:Int)!=(-2))=false:=by rw[h2];rfl
   have hs:G6 t (r:Int) ((f:Int),w)=some (.next (((f+1:Nat):Int),w)):=by
    unfold G6;simp only[C5 hf,Ac,Ap,hb,show(false==true)=false from rfl,Ao,Ai];rw[Aa (Er hf),Aa (λh=>by cases h),w1 (by omega)]
   rw[Ar hs];refine ih (f+1) w (by omega) ⟨hw.len,λy hy h0=>?_⟩ λy hy hy2=>?_
   ·obtain⟨e1,e2⟩:=hw.old y hy h0;exact⟨by omega,e2⟩
   ·by_cases e:y=f
    ·subst e;exact absurd h2 hy2
    ·exact hd y (by omega) hy2
  ·have hb:((t.getD f 0:Int)!=(-2))=true:=by rw[zzL80];exact h2
   obtain⟨b,w',e1,e2,e3,e4⟩:=qr ht hr htop hf hw
   cases b with
   | false=>
    rw[if_neg (λhA:TV t r=>by obtain⟨k,hk⟩:=hA f hf h2;exact e4 rfl k hk)]
    apply Ah
    unfold G6;simp only[C5 hf,Ac,Ap,hb,show(true==true)=true from rfl,e1,Ai];rw[Aa (Er hf),Aa (λ_=>by rw[hw.len,e2])]
    rfl
   | true=>
    have hs:G6 t (r:Int) ((f:Int),w)=some (.next (((f+1:Nat):Int),w')):=by
     unfold G6;simp only[C5 hf,Ac,Ap,hb,show(true==true)=true from rfl,e1,Ai];rw[Aa (Er hf),Aa (λ_=>by rw[hw.len,e2]),w1 (by omega)]
     rfl
    rw[Ar hs];obtain⟨e5,e6⟩:=e3 rfl;refine ih (f+1) w' (by omega) e5 λy hy hy2=>?_
    by_cases e:y=f
    ·subst e;exact e6
    ·exact hd y (by omega) hy2
theorem oH:topsK t t.length=1↔∃ r,r<t.length/\t.getD r 0 = -1/\∀ x,x<t.length->t.getD x 0 = -1->x=r:=by
 have key:∀ n,(topsK t n=0↔∀ x,x<n->t.getD x 0≠-1)/\(topsK t n=1↔∃ r,r<n/\t.getD r 0 = -1/\∀ x,x<n->t.getD x 0 = -1->x=r):=by
  intro n
  induction n with
  | zero=>exact⟨⟨λ_ x hx=>absurd hx (Qb _),λ_=>rfl⟩,⟨λh=>by simp[topsK]at h,λ⟨r,h,_⟩=>absurd h (Qb _)⟩⟩
  | succ n ih=>
   rw[EW]
   by_cases e:t.getD n 0 = -1
   ·rw[if_pos e];refine⟨⟨λh=>by omega,λh=>absurd e (h n (by omega))⟩,⟨λh=>⟨n,by omega,e,λx hx hx1=>?_⟩,λ⟨r,h1,h2,h3⟩=>?_⟩⟩
    ·by_cases ex:x=n
     ·exact ex
     ·exact absurd hx1 (ih.1.1 (by omega) x (by omega))
    ·have:=ih.1.2 λx hx hx1=>by
      have:=h3 x (by omega) hx1;have:=h3 n (by omega) e;omega
     omega
   ·rw[if_neg e,Qn];refine⟨⟨λh x hx=>?_,λh=>ih.1.2 λx hx=>h x (by omega)⟩,⟨λh=>?_,λ⟨r,h1,h2,h3⟩=>?_⟩⟩
    ·by_cases ex:x=n
     ·subst ex;exact e
     ·exact ih.1.1 h x (by omega)
    ·obtain⟨r,h1,h2,h3⟩:=ih.2.1 h;refine⟨r,by omega,h2,λx hx hx1=>?_⟩
     by_cases ex:x=n
     ·subst ex;exact absurd hx1 e
     ·exact h3 x (by omega) hx1
    ·refine ih.2.2 ⟨r,?_,h2,λx hx hx1=>h3 x (by omega) hx1⟩
     by_cases ex:r=n
     ·subst ex;exact absurd h2 e
     ·omega
 exact(key _).2
theorem rightD_iff:Lq t=true↔∃ r,r<t.length/\t.getD r 0 = -1/\TV t r:=by
 unfold Lq;rw[Bc,all_range,Ff,oH]
 constructor
 ·rintro⟨h1,r,h2,h3,h4⟩;refine⟨r,h2,h3,λf hf hf2=>?_⟩;have:=h1 f hf;unfold k5 at this;rw[Wh,Ff,R6,LN]at this;rcases this with h|h
  ·exact absurd h hf2
  ·obtain⟨x,r',k,e,hk⟩:=pathD_tp.1 h
   cases DZ e
   have:=h4 _ hk.tops.1 hk.tops.2;subst this;exact⟨k,hk⟩
 ·rintro⟨r,h2,h3,h4⟩;refine⟨λf hf=>?_,r,h2,h3,λx hx hx1=>?_⟩
  ·unfold k5;rw[Wh,Ff,R6,LN]
   by_cases e:t.getD f 0 = -2
   ·exact .inl e
   ·obtain⟨k,hk⟩:=h4 f hf e;exact .inr (pathD_tp.2 ⟨f,r,k,rfl,hk⟩)
  ·obtain⟨k,hk⟩:=h4 x hx (by omega);exact((hk.det (.top hx hx1)).1).symm
theorem VR(hR:Lq t=true):∃ r,TV t r:=by obtain⟨r,_,_,h⟩:=rightD_iff.1 hR;exact⟨r,h⟩
theorem nH(ht:t.length<=1000):Sx t=some (Lq t):=by
 unfold Sx
 have hroom:(1000:Nat)<=room:=by decide
 rcases m_index t (-1) ht with⟨r,h1,h2,h3,h4⟩|⟨h1,h2⟩
 ·rw[h4,Ai,show decide ((r:Int)<0)=false from Cm (by omega),Ao,Aa ⟨by omega,by omega,by omega⟩,Ap];have hl:=be ht h1 h2 t.length 0 (List.replicate t.length 0) (by omega) ⟨by simp,λy hy h0=>absurd Tw h0⟩ (λy hy=>absurd hy (Qb _));rw[show(((0:Nat):Int))=0 from rfl]at hl;rw[hl,Ai]
  by_cases hA:TV t r
  ·rw[if_pos hA,rightD_iff.2 ⟨r,h1,h2,hA⟩]
  ·rw[if_neg hA]
   have:Lq t=false:=Bool.eq_false_iff.2 λhR=>by
    obtain⟨r',g1,g2,g3⟩:=rightD_iff.1 hR;obtain⟨k,hk⟩:=g3 r h1 (by omega);have:=(hk.det (.top h1 h2)).1;subst this;exact hA g3
   rw[this]
 ·rw[h2,Ai]
  have:Lq t=false:=Bool.eq_false_iff.2 λhR=>by
   obtain⟨r',g1,g2,g3⟩:=rightD_iff.1 hR;exact h1 r' g1 g2
  rw[this]
  rfl
def EL(t:List Int)(a:Int):Bool:=decide (0<=a)&&decide (a<(t.length:Int))&&decide (t.getD a.toNat 0≠-2)
theorem OK(hR:Lq t=true){a:Int}:EL t a=true↔∃ x k r:Nat,a=(x:Int)/\Tp t x r k:=by
 unfold EL;rw[Bc,Bc,Ff,Ff,Ff]
 constructor
 ·rintro⟨⟨h1,h2⟩,h3⟩;obtain⟨r,hA⟩:=VR hR;obtain⟨k,hk⟩:=hA a.toNat (by omega) h3;exact⟨a.toNat,k,r,(Yk h1).symm,hk⟩
 ·rintro⟨x,k,r,rfl,h⟩;have:=h.lt;refine⟨⟨by omega,by omega⟩,?_⟩;rw[Ap]
  cases h with
  | top _ h2=>omega
  | up _ h2 _=>omega
theorem OV(a:Int):M7 t a=some (EL t a):=by
 unfold M7 Mk EL;rw[Ai]
 cases h1:decide ((0:Int)<=a) with
 | false=>rfl
 | true=>
  rw[Ac,Hx]
  cases h2:decide (a<(t.length:Int)) with
  | false=>rfl
  | true=>
   rw[Aa (λ_=>⟨HN h1,HN h2⟩),Ac,Hx]
   congr 1
   rw[Qm,zzL80,Ff]
theorem qq(ht:t.length<=1000)(a b:Int):Up t a b=some (Lq t&&EL t a&&EL t b):=by
 unfold Up;rw[nH ht,Ai]
 cases Lq t with
 | false=>rfl
 | true=>
  simp only[show(true==true)=true from rfl,Ac,OV,Ai,Hx]
  cases EL t a with
  | false=>rfl
  | true=>simp only[show(true==true)=true from rfl,Ac,OV,Ai,Hx]
theorem j6{a b:Int}(h:(Lq t&&EL t a&&EL t b)=false):P1 t a b = -2:=by
 unfold P1
 by_cases hR:Lq t=true
 ·rw[if_pos hR];rw[hR,Hx]at h
  have hno:∀ c,EL t c=false->C1 t c=[]:=λc hc=>by
   by_cases e:C1 t c=[]
   ·exact e
   ·obtain⟨x,r,k,e1,e2⟩:=pathD_tp.1 e;rw[(OK hR).2 ⟨x,k,r,e1,e2⟩]at hc;cases hc
  cases ha:EL t a with
  | false=>rw[hno a ha];rfl
  | true=>
   rw[ha,Hx]at h;rw[hno b h]
   have:((C1 t a).find? λx=>([]:List Int).contains x)=none:=List.find?_eq_none.2 λx _=>by simp
   rw[this]
   rfl
 ·rw[if_neg hR]
theorem TA(ht:t.length<=1000){a b:Int}(h:(Lq t&&EL t a&&EL t b)=true):Qy t a b=some (P1 t a b)/\0<=P1 t a b:=by
 rw[Bc,Bc]at h;obtain⟨⟨hR,ha⟩,hb⟩:=h;obtain⟨x,k,r,rfl,hx⟩:=(OK hR).1 ha;obtain⟨y,m,r',rfl,hy⟩:=(OK hR).1 hb;obtain⟨rr,hA⟩:=VR hR
 have top:∀{x r k},Tp t x r k->r=rr:=λ{x r k} h=>by
  obtain⟨i,hi⟩:=hA r h.tops.1 (by rw[h.tops.2];omega);exact((Tp.top h.tops.1 h.tops.2).det hi).1
 obtain rfl:=top hx;obtain rfl:=top hy;obtain⟨c,h1,h2⟩:=KU ht hx hy;obtain⟨d,h3,h4⟩:=nL hR hx hy;have:=h2.same hx h4;subst this;exact⟨by rw[h1,h3],by omega⟩
theorem uJ(ht:t.length<=1000)(a b:Int):W8 t a b=some (Tu t a b):=by
 unfold W8 Tu;rw[qq ht,Ai]
 cases h:(Lq t&&EL t a&&EL t b) with
 | false=>
  rw[j6 h]
  have:((-2:Int)==a&&((-2:Int)!=-2))=false:=by simp
  rw[this]
  rfl
 | true=>
  obtain⟨h1,h2⟩:=TA ht h;simp only[show(true==true)=true from rfl,Ac,h1,Ai]
  have:(P1 t a b !=-2)=true:=by rw[zzL80];omega
  rw[this,JV]
end
theorem rF:∀ n:Fin 65,Qw (Cl 1) (Cl ((n.val:Nat):Int))=some (0,((n.val:Nat):Int)):=by decide +kernel
theorem j8{n:Nat}(h:n<=64):Qw (Cl 1) (Cl (n:Int))=some (0,(n:Int)):=rF ⟨n,by omega⟩
theorem cj{v:Int}{n:Nat}(hn:n<=64):∀(m i:Nat) (l:List Int),n-i<=m->1<=i->i<=n->l.length=n->(∀ j,j<i->l.getD j 0=v)->Ad Dr ((i:Int),l)=some (List.replicate n v):=by
 intro m
 induction m with
 | zero=>
  intro i l hm h1 h2 hl hv
  obtain rfl:i=n:=by omega
  exact fin l hl hv
 | succ m ih=>
  intro i l hm h1 h2 hl hv
  by_cases e:i=n
  ·subst e;exact fin l hl hv
  ·have hs:Dr ((i:Int),l)=some (.next (((i+Nat.min i (n-i):Nat):Int),eI l i (Nat.min i (n-i)) (λj=>l.getD (0+j) 0))):=by
    unfold Dr;simp only[hl,C5 (show i<n by omega),Ac,Ap,G8,BJ];have hc:(0:Int)<=(i:Int)/\i<=n:=⟨by omega,h2⟩;have hmn:Nat.min i (n-i)<=i:=Nat.min_le_left _ _;rw[Aa hc,Aa hc,Jr (by omega) (by omega),Int.natCast_add]
   rw[Ar hs];have hmn:Nat.min i (n-i)<=i/\Nat.min i (n-i)<=n-i:=⟨Nat.min_le_left _ _,Nat.min_le_right _ _⟩;have hge:1<=Nat.min i (n-i):=Nat.le_min.2 ⟨h1,by omega⟩;refine ih _ _ (by omega) (by omega) (by omega) (by rw[<- Jn];exact hl) λj hj=>?_;rw[NW _ _ _ _ _ _ (by omega)]
   by_cases hji:i<=j/\j<i+Nat.min i (n-i)
   ·rw[if_pos hji,G8];exact hv _ (by omega)
   ·rw[if_neg hji];exact hv _ (by omega)
where
 fin {v:Int} {i:Nat} (l:List Int) (hl:l.length=i) (hv:∀ j,j<i->l.getD j 0=v):Ad Dr ((i:Int),l)=some (List.replicate i v):=by
  apply Ah
  unfold Dr;simp only[hl,Fe,Ao]
  congr 2
  refine DX (by simp[hl]) λj h1 h2=>?_;rw[<- Ab _ _ 0 h1,hv j (by omega)]
  simp
theorem nI{v:Int}{n:Nat}(h1:1<=n)(hn:n<=64):Ix [v] (n:Int)=some (List.replicate n v):=by
 have hroom:(64:Nat)<=room:=by decide
 unfold Ix;rw[show decide ((n:Int)<0)=false from Cm (by omega),Ao,Ai]
 show Option.bind (Qw (Cl 1) (Cl (n:Int))) _=_
 rw[j8 hn,Ai];have e1:decide ((0:Int)<(0:Int))=false:=rfl;have e2:decide ((9223372036854775807:Int)<(n:Int))=false:=Cm (by omega);simp only[e1,e2,Ao,Ai];have ew:w64 (n:Int)=(n:Int):=Jr (by omega) (by omega);rw[ew,Aa ⟨by omega,by omega,by omega⟩,Ap,T5,BJ];have em:Nat.min [v].length n=1:=Nat.min_eq_left h1;rw[em,cj hn n 1 _ (by omega) (zzL7 _) h1 (by rw[<- Jn];simp) (λj hj=>?_)]
 ·rfl
 ·rw[NW _ _ _ _ _ _ (by simp;omega),if_pos ⟨by omega,by omega⟩]
  have:j-0=0:=by omega
  rw[this];rfl
section
variable {S:Nat->List Nat} {r n:Nat} {P:List Nat}
theorem Inv.tp{at_:Nat->Nat}{t:List Int}(h:Inv S r n at_ (Bu t))(hl:t.length=n):∀ m x,at_ x<=m->x<n->Bu t x≠-2->∃ k,Tp t x r k:=by
 intro m
 induction m with
 | zero=>
  intro x hm hx hp;rcases h.kind x hx with h1|h1|⟨z,hz⟩
  ·exact absurd h1 hp
  ·subst h1;exact⟨0,.top (by omega) h.top⟩
  ·obtain⟨_,_,h3,_⟩:=h.up x hx z hz;omega
 | succ m ih=>
  intro x hm hx hp;rcases h.kind x hx with h1|h1|⟨z,hz⟩
  ·exact absurd h1 hp
  ·subst h1;exact⟨0,.top (by omega) h.top⟩
  ·obtain⟨z1,z2,z3,_⟩:=h.up x hx z hz;obtain⟨k,hk⟩:=ih z (by omega) z1 z2;exact⟨k+1,.up (by omega) hz hk⟩
def FJ(t l:List Int)(i:Nat)(v:Int):Prop:=
 (v = -2/\∀ j,j<i->Bu t (l.getD j 0).toNat = -2) \/
 ∃ z:Nat,v=(z:Int)/\z<t.length/\Bu t z≠-2/\(∀ w,UpTo (Bu t) z w↔∀ j,j<i->Bu t (l.getD j 0).toNat≠-2->UpTo (Bu t) (l.getD j 0).toNat w)
theorem YG{at_:Nat->Nat}{t l:List Int}(ht:t.length<=64)(hll:l.length<=64)(h:Inv S r n at_ (Bu t))(hl:t.length=n)(hin:∀ x∈l,0<=x/\x<(n:Int)):∀(k i:Nat) (v:Int),i+k=l.length->FJ t l i v->
  ∃ v',Ad (F4 t l) (v,(i:Int))=some v'/\FJ t l l.length v':=by
 intro k
 induction k with
 | zero=>
  intro i v hi hv
  obtain rfl:i=l.length:=by omega
  refine⟨v,Ah ?_,hv⟩;unfold F4;simp only[Fe,Ao]
 | succ k ih=>
  intro i v hi hv
  have hil:i<l.length:=by omega
  obtain⟨x0,x1⟩:=hin _ (getD_mem (d:=0) hil);have hxe:(((l.getD i 0).toNat:Nat):Int)=l.getD i 0:=Yk x0;have hxin:Bd (l.getD i 0) t.length:=wN x0 (by omega)
  have next:∀ v',F4 t l (v,(i:Int))=some (.next (v',((i+1:Nat):Int)))->FJ t l (i+1) v'->∃ v',Ad (F4 t l) (v,(i:Int))=some v'/\FJ t l l.length v':=λv' hs hv'=>by
   rw[Ar hs];exact ih (i+1) v' (by omega) hv'
  by_cases hp:Bu t (l.getD i 0).toNat = -2
  ·have hb:((t.getD (l.getD i 0).toNat 0:Int)==-2)=true:=zzL71.2 hp;refine next v ?_ ?_
   ·unfold F4;simp only[C5 hil,Ac,Ap,hb];rw[Aa (Er hil),Aa hxin,Ai,w1 (by omega)]
   ·have hstep:∀ w,(∀ j,j<i->Bu t (l.getD j 0).toNat≠-2->UpTo (Bu t) (l.getD j 0).toNat w)↔∀ j,j<i+1->Bu t (l.getD j 0).toNat≠-2->UpTo (Bu t) (l.getD j 0).toNat w:=λw=>by
     refine⟨λhj j hj1 hj2=>?_,λhj j hj1=>hj j (by omega)⟩
     by_cases e:j=i
     ·subst e;exact absurd hp hj2
     ·exact hj j (by omega) hj2
    rcases hv with⟨h1,h2⟩|⟨z,h1,h2,h3,h4⟩
    ·refine .inl ⟨h1,λj hj=>?_⟩
     by_cases e:j=i
     ·subst e;exact hp
     ·exact h2 j (by omega)
    ·exact .inr ⟨z,h1,h2,h3,λw=>by rw[h4 w,hstep w]⟩
  ·have hb:((t.getD (l.getD i 0).toNat 0:Int)==-2)=false:=zzL20.2 hp;rcases hv with⟨h1,h2⟩|⟨z,h1,h2,h3,h4⟩
   ·subst h1;refine next (l.getD i 0) ?_ (.inr ⟨(l.getD i 0).toNat,hxe.symm,by omega,hp,λw=>⟨λhw j hj hj2=>?_,λhw=>hw i (by omega) hp⟩⟩)
    ·unfold F4;simp only[C5 hil,Ac,Ap,hb,Ao,show((-2:Int)==-2)=true from rfl];rw[Aa (Er hil),Aa hxin,Ai,w1 (by omega)]
    ·by_cases e:j=i
     ·subst e;exact hw
     ·exact absurd (h2 j (by omega)) hj2
   ·subst h1;have hb2:((z:Int)==-2)=false:=zzL20.2 (by omega);obtain⟨k1,hk1⟩:=h.tp hl _ z (zzL7 _) (by omega) h3;obtain⟨k2,hk2⟩:=h.tp hl _ (l.getD i 0).toNat (zzL7 _) (by omega) hp;obtain⟨c,c1,c2⟩:=KU (by omega) hk1 hk2;have hcz:=(c2 c).1 (.refl _);obtain⟨jc,_,hjc,_⟩:=hk1.on hcz.1
    have hcp:Bu t c≠-2:=by
     show t.getD c 0≠-2
     cases hjc with
     | top _ h=>omega
     | up _ h _=>omega
    refine next (c:Int) ?_ (.inr ⟨c,rfl,hjc.lt,hcp,λw=>?_⟩)
    ·rw[hxe]at c1;unfold F4;simp only[C5 hil,Ac,Ap,hb,Ao,hb2,c1,Ai];rw[Aa (Er hil),Aa hxin,Ai,w1 (by omega)]
    ·rw[c2 w,h4 w];refine⟨λ⟨a1,a2⟩ j hj hj2=>?_,λha=>⟨λj hj=>ha j (by omega),ha i (by omega) hp⟩⟩
     by_cases e:j=i
     ·subst e;exact a2
     ·exact a1 j (by omega) hj2
theorem jx{at_:Nat->Nat}{t l:List Int}(ht:t.length<=64)(hll:l.length<=64)(h:Inv S r n at_ (Bu t))(hl:t.length=n)(hin:∀ x∈l,0<=x/\x<(n:Int)) :
  ∃ v,Ml t l=some v/\FJ t l l.length v:=by
 obtain⟨v,h1,h2⟩:=YG ht hll h hl hin l.length 0 (-2) (by omega) (.inl ⟨rfl,λj hj=>absurd hj (Qb _)⟩);refine⟨v,?_,h2⟩;unfold Ml;rw[show((0:Int))=((0:Nat):Int) from rfl,h1]
 rfl
end
section
variable {L:List (List Int)} (hm:Nq L=true) {r:Nat} {P:List Nat}
include hm
theorem n9{p y:Nat}(hp:p<L.length):y∈sN L p↔Zs L p y=true:=by
 rw[mr];obtain⟨_,_,h3⟩:=mayS_iff.1 hm
 constructor
 ·intro h;obtain⟨x,hx,rfl⟩:=zzL29.1 h;have:=iJ (h3 p hp) hx;rw[Yk this.1];exact hx
 ·intro h;exact zzL29.2 ⟨_,h,Ap y⟩
theorem GV{y:Nat}(hy:y<L.length){x:Int}:x∈(Em L).getD y []↔∃ p:Nat,x=(p:Int)/\p<L.length/\y∈sN L p:=by
 rw[VM hy];unfold K5;rw[b6]
 constructor
 ·rintro⟨k,h1,h2,h3⟩;exact⟨k,h1,h2,(n9 hm h2).2 h3⟩
 ·rintro⟨k,h1,h2,h3⟩;exact⟨k,h1,h2,(n9 hm h2).1 h3⟩
theorem YF(o:Ordered (sN L) r L.length P){t:List Int}{i:Nat}(h:Ready (sN L) r L.length P t i)(hi:i<P.length) :
  Ml t ((Em L).getD (P.getD i 0) [])=some (O1 (sN L) L.length t (P.getD i 0):Int):=by
 obtain⟨hL1,hL64,_⟩:=mayS_iff.1 hm;have hyn:P.getD i 0<L.length:=o.lt (zzL21 _ (S7 hi))
 have hlen:((Em L).getD (P.getD i 0) []).length<=64:=by
  rw[VM hyn];have:=Xt L L.length (P.getD i 0);omega
 obtain⟨v,h1,h2⟩:=jx (by rw[h.len];exact hL64) hlen h.inv h.len λx hx=>by
  obtain⟨p,rfl,hp,_⟩:=(GV hm hyn).1 hx;omega
 rw[h1];have hb:=h.best o hi
 have mem:∀ p,p<L.length->P.getD i 0∈sN L p->∃ j,j<((Em L).getD (P.getD i 0) []).length/\(((Em L).getD (P.getD i 0) []).getD j 0).toNat=p:=λp hp hy=>by
  obtain⟨j,hj,e⟩:=P9 ((GV hm hyn).2 ⟨p,rfl,hp,hy⟩);exact⟨j,hj,by rw[Ab _ _ _ hj,e,Ap]⟩
 have mem':∀ j,j<((Em L).getD (P.getD i 0) []).length->(((Em L).getD (P.getD i 0) []).getD j 0).toNat<L.length/\P.getD i 0∈sN L (((Em L).getD (P.getD i 0) []).getD j 0).toNat:=λj hj=>by
  obtain⟨p,e,hp,hy⟩:=(GV hm hyn).1 (getD_mem (d:=(0:Int)) hj);rw[e,Ap];exact⟨hp,hy⟩
 rcases h2 with⟨rfl,h3⟩|⟨z,rfl,hz,hz2,h4⟩
 ·obtain⟨p,hp,hyp,hp2,_⟩:=hb.fwd;obtain⟨j,hj,e⟩:=mem p hp hyp;exact absurd (by rw[<- e];exact h3 j hj) hp2
 ·have hbest:dX (sN L) L.length (Bu t) (P.getD i 0) z:=λw=>by
   rw[h4 w];refine⟨λha p hp hyp hp2=>?_,λha j hj hj2=>?_⟩
   ·obtain⟨j,hj,e⟩:=mem p hp hyp;have:=ha j hj (by rw[e];exact hp2);rwa[e]at this
   ·obtain⟨q1,q2⟩:=mem' j hj;exact ha _ q1 q2 hj2
  rw[h.best_eq o hi (by rw[<- h.len];exact hz) hz2 hbest]
end
theorem cD{P:List Nat}{i:Nat}(h:i<P.length):(Vi P).getD i 0=((P.getD i 0:Nat):Int):=by
 unfold Vi;rw[Ab _ _ _ (by simpa using h),Ab _ _ _ h,List.getElem_map]
 rfl
theorem cm{t:List Int}{x:Nat}{v:Int}(hx:x<t.length)(h:t.getD x 0=v):t.set x v=t:=by
 subst h;rw[Ab _ _ _ hx];exact List.set_getElem_self hx
section
variable {L:List (List Int)} (hm:Nq L=true) {r:Nat} {P:List Nat} (o:Ordered (sN L) r L.length P)
include hm o
theorem fP{t0:List Int}(h:Ready (sN L) r L.length P t0 0):∀(k i:Nat) (b:Bool),i+k=P.length->
  ∃ b',Ad (Fq (Jw L) (Vi (r::P))) (b,(i:Int),Za (sN L) L.length P t0 i)=some (b',Za (sN L) L.length P t0 P.length) /\
   (b'=false↔b=false/\∀ j,i<=j->j<P.length->Bu (Za (sN L) L.length P t0 j) (P.getD j 0)=(O1 (sN L) L.length (Za (sN L) L.length P t0 j) (P.getD j 0):Int)):=by
 have hP64:P.length<=64:=by
  have h1:=Q0 L.length (r::P) o.nodup λx hx=>o.lt hx;have h2:=(mayS_iff.1 hm).2.1;simp at h1;omega
 have hdl:(Vi (r::P)).drop (1:Int).toNat=Vi P:=rfl
 have hlen:(Vi P).length=P.length:=by simp[Vi]
 intro k
 induction k with
 | zero=>
  intro i b hi
  obtain rfl:i=P.length:=by omega
  refine⟨b,Ah ?_,λh=>⟨h,λj h1 h2=>by omega⟩,λh=>h.1⟩;unfold Fq;simp only[hdl,hlen,Fe,Ao]
 | succ k ih=>
  intro i b hi
  have hil:i<P.length:=by omega
  have rd:=h.round o i (by omega);have hma:=YF hm o rd hil;have hyn:P.getD i 0<L.length:=o.lt (zzL21 _ (S7 hil))
  have hyt:P.getD i 0<(Za (sN L) L.length P t0 i).length:=by rw[rd.len];exact hyn
  have hpred:(Jw L).Pred=Em L:=rfl
  by_cases he:Bu (Za (sN L) L.length P t0 i) (P.getD i 0)=(O1 (sN L) L.length (Za (sN L) L.length P t0 i) (P.getD i 0):Int)
  ·have hb:((O1 (sN L) L.length (Za (sN L) L.length P t0 i) (P.getD i 0):Int)!=(Za (sN L) L.length P t0 i).getD (P.getD i 0) 0)=false:=by
    have:(Za (sN L) L.length P t0 i).getD (P.getD i 0) 0=_:=he;rw[this];simp
   have hnx:Za (sN L) L.length P t0 (i+1)=Za (sN L) L.length P t0 i:=cm hyt he
   have hs:Fq (Jw L) (Vi (r::P)) (b,(i:Int),Za (sN L) L.length P t0 i)=some (.next (b,((i+1:Nat):Int),Za (sN L) L.length P t0 (i+1))):=by
    unfold Fq;simp only[hdl,hlen,C5 hil,Ac,Ap,cD hil,hpred,hma,Ai,hb,Ao];rw[Aa (Er hil),Aa (Er (by rw[Rb];exact hyn)),Aa (Er hyt),Ai,w1 (by omega),hnx]
   obtain⟨b',e1,e2⟩:=ih (i+1) b (by omega);refine⟨b',by rw[Ar hs,e1],λh=>?_,λ⟨h1,h2⟩=>e2.2 ⟨h1,λj hj=>h2 j (by omega)⟩⟩;obtain⟨h1,h2⟩:=e2.1 h;refine⟨h1,λj hj1 hj2=>?_⟩
   by_cases e:j=i
   ·subst e;exact he
   ·exact h2 j (by omega) hj2
  ·have hb:((O1 (sN L) L.length (Za (sN L) L.length P t0 i) (P.getD i 0):Int)!=(Za (sN L) L.length P t0 i).getD (P.getD i 0) 0)=true:=by
    rw[zzL80];exact λe=>he e.symm
   have hs:Fq (Jw L) (Vi (r::P)) (b,(i:Int),Za (sN L) L.length P t0 i)=some (.next (true,((i+1:Nat):Int),Za (sN L) L.length P t0 (i+1))):=by
    unfold Fq;simp only[hdl,hlen,C5 hil,Ac,Ap,cD hil,hpred,hma,Ai,hb];rw[Aa (Er hil),Aa (Er (by rw[Rb];exact hyn)),Aa (Er hyt),Aa (Er hyt),Ai,w1 (by omega)]
    rfl
   obtain⟨b',e1,e2⟩:=ih (i+1) true (by omega);refine⟨b',by rw[Ar hs,e1],λh=>?_,λ⟨h1,h2⟩=>absurd (h2 i (zzL7 _) hil) he⟩;obtain⟨h1,_⟩:=e2.1 h;cases h1
theorem kV{t0:List Int}(h:Ready (sN L) r L.length P t0 0):∃ b,Ad (Fq (Jw L) (Vi (r::P))) (false,(0:Int),t0)=some (b,Za (sN L) L.length P t0 P.length)/\(b=false↔X7 (sN L) L.length P t0):=by
 obtain⟨b,e1,e2⟩:=fP hm o h P.length 0 false (by omega);refine⟨b,e1,e2.trans ⟨λ⟨_,h2⟩=>?_,λhs=>⟨rfl,λj _ hj=>?_⟩⟩⟩
 ·have key:∀ j,j<=P.length->Za (sN L) L.length P t0 j=t0:=by
   intro j
   induction j with
   | zero=>intro _;rfl
   | succ j ih=>
    intro hj;have ih':=ih (by omega);have rd:=h.round o j (by omega)
    have hyn:P.getD j 0<(Za (sN L) L.length P t0 j).length:=by rw[rd.len];exact o.lt (zzL21 _ (S7 (by omega)))
    have:Za (sN L) L.length P t0 (j+1)=Za (sN L) L.length P t0 j:=cm hyn (h2 j (Qo _) (by omega));rw[this,ih']
  intro i hi;have:=h2 i (Qo _) hi;rwa[key i (by omega)]at this
 ·rw[BA o h.len hs j (by omega)];exact hs j hj
open Classical in
theorem ib(j:Nat):H1 (Jw L) (Vi (r::P),NA (sN L) L.length P (Hv L.length r) j)=some (if X7 (sN L) L.length P (NA (sN L) L.length P (Hv L.length r) j) then .done (NA (sN L) L.length P (Hv L.length r) (j+1)) else .next (Vi (r::P),NA (sN L) L.length P (Hv L.length r) (j+1))):=by
 obtain⟨b,e1,e2⟩:=kV hm o (Ready.rounds o j);have hL2:Ve (Jw L) (Vi (r::P))=Fq (Jw L) (Vi (r::P)):=rfl
 have hlen:(0:Int)<=1/\(1:Int)<=((Vi (r::P)).length:Int):=by simp[Vi];omega
 unfold H1;simp only[hL2,e1,Ai];rw[Aa hlen]
 cases b with
 | false=>rw[if_pos (e2.1 rfl)];rfl
 | true=>rw[if_neg (λh=>by have:=e2.2 h;cases this)];rfl
theorem cz:∃ J,X7 (sN L) L.length P (NA (sN L) L.length P (Hv L.length r) J)/\Ad (H1 (Jw L)) (Vi (r::P),Hv L.length r)=some (NA (sN L) L.length P (Hv L.length r) J):=by
 obtain⟨J,h1,h2⟩:=sv o;refine⟨J,h2,?_⟩
 have key:∀ d j,j+d=J->Ad (H1 (Jw L)) (Vi (r::P),NA (sN L) L.length P (Hv L.length r) j)=some (NA (sN L) L.length P (Hv L.length r) J):=by
  intro d
  induction d with
  | zero=>
   intro j hj
   obtain rfl:j=J:=by omega
   have hF:=ib hm o j;rw[if_pos h2]at hF;rw[Ah hF];have:NA (sN L) L.length P (Hv L.length r) (j+1)=NA (sN L) L.length P (Hv L.length r) j:=BA o (Ready.rounds o j).len h2 P.length (zzL7 _);rw[this]
  | succ d ih=>
   intro j hj;have hF:=ib hm o j;rw[if_neg (h1 j (by omega))]at hF;rw[Ar hF];exact ih (j+1) (by omega)
 exact key J 0 (by omega)
end
theorem uK(g:TGraph)(r:Int)(h1:Fits g.Succ)(h2:Fits g.Pred):Tk g r=some (QR g r):=by
 unfold QR
 by_cases hc:CS g=true/\0<=r/\r<(g.Succ.length:Int)
 ·rw[if_pos hc];obtain⟨hG,h0,hlt⟩:=hc;obtain⟨hm,hg⟩:=iE hG;obtain⟨hL1,hL64,_⟩:=mayS_iff.1 hm
  have hr:r.toNat<g.Succ.length:=by omega
  have hrn:((r.toNat:Nat):Int)=r:=Yk h0;obtain⟨O,hO⟩:=Ord.exist (Yj hm) hr;have hord:=(YE g h1 trivial r).1 hG h0 hlt O hO;obtain⟨P,rfl,o⟩:=hO.ordered hr (Yj hm);obtain⟨J,hJ,hl⟩:=cz hm o;have ht:=(LJ o hJ).eq hm hr o;rw[ht]at hl;have hlen:(((Vi (r.toNat::P)).length:Int)==0)=false:=zzL20.2 (by simp[Vi];omega)
  have hlen2:(0:Int)<=1/\(1:Int)<=((Vi (r.toNat::P)).length:Int):=by simp[Vi];omega
  have hL2:Ve g (Vi (r.toNat::P))=Fq g (Vi (r.toNat::P)):=rfl
  have hst:(Vq (H1 g (Vi (r.toNat::P),Hv g.Succ.length r.toNat)) (H1 g))=some (BB g.Succ r.toNat):=by
   rw[LI,hg];exact hl
  unfold Tk;rw[hord,Ai,hlen,Ao,nI hL1 hL64,Ai,Aa (wN h0 (by simpa using hlt)),Aa hlen2]
  have:(H1 g (Vi (r.toNat::P),Hv g.Succ.length r.toNat))=(Ad (Fq g (Vi (r.toNat::P))) (false,0,(List.replicate g.Succ.length (-2:Int)).set r.toNat (-1))).bind (λx22=>(match x22 with|(b10,l11)=>(bif b10 then(some (.next (Vi (r.toNat::P),l11))) else(some (.done l11))))):=by
   unfold H1 Hv;simp only[hL2];rw[Aa hlen2]
  rw[this]at hst;refine Eq.trans ?_ (Ce (λx:Option (List Int)=>x.bind λx42=>some x42) hst)
  rfl
 ·rw[if_neg hc];unfold Tk
  have:(CS g&&(decide (0<=r)&&decide (r<(g.Succ.length:Int))))=false:=by
   rw[Bool.eq_false_iff];intro h;rw[Bc,Bc,Ff,Ff]at h;exact hc h
  rw[(YE g h1 trivial r).2 this,Ai]
  rfl
end
end Go.Proofs.YtiendmljhgbjoaaGreat
