/-
  The machine, the program's functions and the laws' arithmetic: part 5 of 6.
-/
import Derived.Test.YtmkiepobhjiabaaGreatPk4
import Derived.Lib.RowBridge
import Derived.OpenShut
import Derived.ShutString
set_option linter.unusedVariables false
set_option linter.unusedSimpArgs false
namespace Go.Proofs.YtmkiepobhjiabaaGreat
noncomputable section
open Go Go.RowKit
set_option maxRecDepth 100000
theorem kinds(k:Int):k=0\/k=1\/k=2\/k=3\/k=4\/k=5\/k=6\/k=7\/k=8\/k=9\/k=10\/k=11\/k=12\/k=13\/k=14\/k=15\/k=16\/k=17\/k=18\/k=19\/k=20\/k=21\/k=22\/(k<0\/22<k):=by omega
theorem out_ne{k:Int}(h:k<0\/22<k):(k==0)=false/\(k==1)=false/\(k==2)=false/\(k==3)=false/\(k==4)=false/\(k==5)=false/\(k==6)=false/\(k==7)=false/\(k==8)=false/\(k==9)=false/\(k==10)=false/\(k==11)=false/\(k==12)=false /\
  (k==13)=false/\(k==14)=false/\(k==15)=false/\(k==16)=false/\(k==17)=false/\(k==18)=false/\(k==19)=false/\(k==20)=false/\(k==21)=false/\(k==22)=false:=by
 simp only[zzL34,ne_eq];omega
def widthB(b:Int):Bool:=b==1 || b==8 || b==16 || b==32 || b==64
def Ut(b n:Int):Bool:=widthB b&&(n==1 || ((n==2 || n==4 || n==8 || n==16)&&decide (8<=b)&&decide (b*n<=128)))
theorem width_cases{b:Int}(h:widthB b=true):b=1\/b=8\/b=16\/b=32\/b=64:=by simp[widthB]at h;omega
theorem Yc{b n:Int}(h:Ut b n=true):widthB b=true:=by simp[Ut]at h;exact h.1
theorem Qb{b n:Int}(h:Ut b n=true):n=1\/n=2\/n=4\/n=8\/n=16:=by simp[Ut]at h;omega
theorem T7(b:Int):Jm b=some (widthB b):=by
 unfold Jm widthB
 by_cases h1:b=1
 ·subst h1;rfl
 by_cases h2:b=8
 ·subst h2;rfl
 by_cases h3:b=16
 ·subst h3;rfl
 by_cases h4:b=32
 ·subst h4;rfl
 by_cases h5:b=64
 ·subst h5;rfl
 have e1:(b==1)=false:=by simpa using h1
 have e2:(b==8)=false:=by simpa using h2
 have e3:(b==16)=false:=by simpa using h3
 have e4:(b==32)=false:=by simpa using h4
 have e5:(b==64)=false:=by simpa using h5
 simp[e1,e2,e3,e4,e5]
theorem P8(b:Int):Ch b=some (widthB b):=by
 unfold Ch widthB
 cases(b==1)<;>cases(b==8)<;>cases(b==16)<;>cases(b==32)<;>rfl
theorem kind_Shape(b n:Int):Oy b n=some (Ut b n):=by
 unfold Oy;simp only[T7,An]
 by_cases hn:n=1\/n=2\/n=4\/n=8\/n=16
 ·cases hw:widthB b with
  | false=>rcases hn with rfl|rfl|rfl|rfl|rfl<;>simp[Ut,hw]
  | true=>
   rcases width_cases hw with rfl|rfl|rfl|rfl|rfl<;>rcases hn with rfl|rfl|rfl|rfl|rfl<;>rfl
 ·have e1:(n==1)=false:=by simp;omega
  have e2:(n==2)=false:=by simp;omega
  have e3:(n==4)=false:=by simp;omega
  have e4:(n==8)=false:=by simp;omega
  have e5:(n==16)=false:=by simp;omega
  simp[Ut,e1,e2,e3,e4,e5]
theorem ref_Shape(b n:Int):Hi b n=some (Ut b n):=by
 unfold Hi;simp only[P8,An]
 cases hw:widthB b with
 | false=>simp[Ut,hw]
 | true=>
  by_cases hn:n=1\/n=2\/n=4\/n=8\/n=16
  ·rcases width_cases hw with rfl|rfl|rfl|rfl|rfl<;>rcases hn with rfl|rfl|rfl|rfl|rfl<;>rfl
  ·have e1:(n==1)=false:=by simp;omega
   have e2:(n==2)=false:=by simp;omega
   have e3:(n==4)=false:=by simp;omega
   have e4:(n==8)=false:=by simp;omega
   have e5:(n==16)=false:=by simp;omega
   simp[Ut,e1,e2,e3,e4,e5]
theorem word_Cut{v b:Int}(hv:0<=v/\v<18446744073709551616)(hb:widthB b=true):Rn v b=some (v % 2 ^ b.toNat):=by
 unfold Rn;simp only[T7,hb,An,Df,Ar]
 have key:∀ j:Nat,j<64->shrV .u64 (shlV .u64 v (j:Int)) (j:Int)=(v*2 ^ j % 18446744073709551616) / 2 ^ j:=fun j hj=>by
  simp only[shrV,shlV,Eo,IntKind.bits];rw[Nat.min_eq_left (by omega),fdiv_pow,show IntKind.u64.wrap (v*2 ^ j)=v*2 ^ j % 18446744073709551616 from wu64_mod _]
 rcases width_cases hb with rfl|rfl|rfl|rfl|rfl
 ·have:=key 63 (by decide);simp only[show w64 (64-1)=((63:Nat):Int) from rfl,this];rw[Ac (by decide),Ac (by decide)];congr 1;simp only[show((1:Int).toNat)=1 from rfl];omega
 ·have:=key 56 (by decide);simp only[show w64 (64-8)=((56:Nat):Int) from rfl,this];rw[Ac (by decide),Ac (by decide)];congr 1;simp only[show((8:Int).toNat)=8 from rfl];omega
 ·have:=key 48 (by decide);simp only[show w64 (64-16)=((48:Nat):Int) from rfl,this];rw[Ac (by decide),Ac (by decide)];congr 1;simp only[show((16:Int).toNat)=16 from rfl];omega
 ·have:=key 32 (by decide);simp only[show w64 (64-32)=((32:Nat):Int) from rfl,this];rw[Ac (by decide),Ac (by decide)];congr 1;simp only[show((32:Int).toNat)=32 from rfl];omega
 ·have:=key 0 (by decide);simp only[show w64 (64-64)=((0:Nat):Int) from rfl,this];rw[Ac (by decide),Ac (by decide)];congr 1;simp only[show((64:Int).toNat)=64 from rfl];omega
theorem ref_Cut{v b:Int}(hv:0<=v/\v<18446744073709551616)(hb:widthB b=true):Iz v b=some (v % 2 ^ b.toNat):=by
 unfold Iz;simp only[P8,hb,An,Df,Ar];rcases width_cases hb with rfl|rfl|rfl|rfl|rfl
 ·rw[show((1:Int)==64)=false from rfl,Ar,Ac (by decide),Ac (by decide),show shlV .u64 (1:Int) (Io 1)=2 ^ (1:Int).toNat from rfl,Int.tmod_eq_emod_of_nonneg hv.1]
 ·rw[show((8:Int)==64)=false from rfl,Ar,Ac (by decide),Ac (by decide),show shlV .u64 (1:Int) (Io 8)=2 ^ (8:Int).toNat from rfl,Int.tmod_eq_emod_of_nonneg hv.1]
 ·rw[show((16:Int)==64)=false from rfl,Ar,Ac (by decide),Ac (by decide),show shlV .u64 (1:Int) (Io 16)=2 ^ (16:Int).toNat from rfl,Int.tmod_eq_emod_of_nonneg hv.1]
 ·rw[show((32:Int)==64)=false from rfl,Ar,Ac (by decide),Ac (by decide),show shlV .u64 (1:Int) (Io 32)=2 ^ (32:Int).toNat from rfl,Int.tmod_eq_emod_of_nonneg hv.1]
 ·rw[show((64:Int)==64)=true from rfl,Af]
  congr 1
  simp only[show((64:Int).toNat)=64 from rfl];omega
theorem kind_isWidth{i:Int}(h:0<=i/\i<18446744073709551616):Kx i=some (widthB i):=by
 unfold Kx
 by_cases hi:i<=64
 ·have:w64 i=i:=Jy (by omega) (by omega);simp[hi,this,T7]
 ·have:widthB i=false:=by simp[widthB];omega
  simp[hi,this]
def isK(k:Int):Bool:=decide (0<=k)&&decide (k<=22)
def Ns(k n:Int):Int:=
 bif k==0 then 0 else bif k==13 || k==18 || k==19 then 3 else bif k==14 || k==15 || k==16 || k==22 then 1 else bif k==20 then 4 else bif k==21 then n else 2
def sfitS(k b n:Int):Bool:=
 bif k==16 || k==17 then decide (8<=b) else bif k==18 || k==19 then decide (8<=b)&&n==1 else
 bif k==4 || k==10 || k==11 || k==12 || k==14 || k==15 || k==20 then n==1 else bif k==21 || k==22 then decide (1<n) else true
def ifitS(k b n i:Int):Bool:=
 bif k==0 then i % 2 ^ b.toNat==i else bif k==14 then widthB i&&decide (i<b) else bif k==15 then widthB i&&decide (b<i) else bif k==22 then decide (i<n) else i==0
def valS(v:Int):Bool:=decide (1<=v)&&decide (v<=1023)
def dstS(k d:Int):Bool:=bif k==17 || k==19 then d==0 else valS d
def La(o:Dp):Bool:=Ut o.Bits o.Lanes&&(isK o.Kind&&sfitS o.Kind o.Bits o.Lanes&&ifitS o.Kind o.Bits o.Lanes o.Imm&&((o.Args.length:Int)==Ns o.Kind o.Lanes))&&(o.Args.all valS&&dstS o.Kind o.Dst)
def elemS(o:Dp)(i:Nat):Int×Int:=
 bif o.Kind==13 || o.Kind==20 then(bif Nat.beq i 0 then(1,1) else(o.Bits,o.Lanes)) else bif o.Kind==14 || o.Kind==15 then(w64 o.Imm,1) else
 bif o.Kind==16 || o.Kind==17 then(bif Nat.beq i 0 then(64,1) else(o.Bits,o.Lanes)) else
 bif o.Kind==18 || o.Kind==19 then(bif Nat.beq i 1 then(64,1) else bif Nat.beq i 0 then(1,1) else(o.Bits,o.Lanes)) else bif o.Kind==21 then(o.Bits,1) else(o.Bits,o.Lanes)
def Vh(o:Dp):List (Int×Int):=(List.range (Ns o.Kind o.Lanes).toNat).map (elemS o)
def givesS(k b n:Int):Int×Int:=bif k==17 || k==19 then(0,0) else bif k==10 || k==11 || k==12 then(1,1) else bif k==22 then(b,1) else(b,n)
theorem isK_out{k:Int}(h:k<0\/22<k):isK k=false:=by simp[isK];omega
theorem kind_isKind(k:Int):Nq k=some (isK k):=by unfold Nq isK;cases decide ((0:Int)<=k)<;>rfl
theorem Us(v:Int):Kw v=some (valS v):=by unfold Kw valS;cases decide ((1:Int)<=v)<;>rfl
theorem Y9(v:Int):Es v=some (valS v):=by
 unfold Es valS
 have e1:decide ((0:Int)<v)=decide (1<=v):=by congr 1
 have e2:decide (v<(1024:Int))=decide (v<=1023):=by apply zzL60.2;omega
 rw[e1,e2]
 cases decide ((1:Int)<=v)<;>rfl
theorem kind_shapeFits(o:Dp):Ky o=some (sfitS o.Kind o.Bits o.Lanes):=by
 obtain⟨k,b,n,d,args,i⟩:=o;rcases kinds k with rfl|rfl|rfl|rfl|rfl|rfl|rfl|rfl|rfl|rfl|rfl|rfl|rfl|rfl|rfl|rfl|rfl|rfl|rfl|rfl|rfl|rfl|rfl|h
 any_goals rfl
 ·show some (bif decide (8<=b) then n==1 else false)=some (decide (8<=b)&&n==1);cases decide (8<=b)<;>rfl
 ·show some (bif decide (8<=b) then n==1 else false)=some (decide (8<=b)&&n==1);cases decide (8<=b)<;>rfl
 ·unfold Ky sfitS;simp[out_ne h]
theorem kind_gives(o:Dp):Mz o=some (givesS o.Kind o.Bits o.Lanes):=by
 obtain⟨k,b,n,d,args,i⟩:=o;rcases kinds k with rfl|rfl|rfl|rfl|rfl|rfl|rfl|rfl|rfl|rfl|rfl|rfl|rfl|rfl|rfl|rfl|rfl|rfl|rfl|rfl|rfl|rfl|rfl|h
 any_goals rfl
 unfold Mz givesS;simp[out_ne h]
theorem kind_immFits(o:Dp)(hw:widthB o.Bits=true)(hn:0<=o.Lanes/\o.Lanes<=16)(hi:0<=o.Imm/\o.Imm<18446744073709551616):Mi o=some (ifitS o.Kind o.Bits o.Lanes o.Imm):=by
 unfold Mi ifitS
 have hb:Io o.Bits=o.Bits:=by apply wu64_of<;>(rcases width_cases hw with h|h|h|h|h<;>omega)
 have hl:Io o.Lanes=o.Lanes:=by apply wu64_of<;>omega
 rw[word_Cut hi hw,kind_isWidth hi,hb,hl]
 cases(o.Kind==0)<;>cases(o.Kind==14)<;>cases(o.Kind==15)<;>cases(o.Kind==22)<;>cases widthB o.Imm<;>rfl
set_option maxHeartbeats 2000000 in
theorem ref_Fits (o : Dp) (hs : Ut o.Bits o.Lanes = true) (hk : isK o.Kind = true) (hi : 0 ≤ o.Imm ∧ o.Imm < 18446744073709551616) : Fe o = some (sfitS o.Kind o.Bits o.Lanes && ifitS o.Kind o.Bits o.Lanes o.Imm) := by
  have hw := Yc hs; have hl := Qb hs; obtain ⟨k, b, n, d, args, i⟩ := o; simp only at hs hk hi hw hl ⊢
  have hb : Io b = b := by apply wu64_of <;> (rcases width_cases hw with h | h | h | h | h <;> omega)
  have hn : Io n = n := by apply wu64_of <;> omega
  have hb8 : decide (b < 8) = !decide (8 ≤ b) := by rw [← decide_not]; apply zzL60.2; omega
  have hn2 : decide (n < 2) = !decide (1 < n) := by rw [← decide_not]; apply zzL60.2; omega
  have h14 : (bif decide (i < b) then widthB (w64 i) else false) = (widthB i && decide (i < b)) := by
    by_cases h : i < b
    · have : w64 i = i := Jy (by omega) (by rcases width_cases hw with h | h | h | h | h <;> omega); simp [h, this]
    · simp [h]
  have h15 : (bif (bif decide (b < i) then decide (i ≤ 64) else false) then widthB (w64 i) else false) = (widthB i && decide (b < i)) := by
    by_cases h : i ≤ 64
    · have : w64 i = i := Jy (by omega) (by omega)
      by_cases h2 : b < i <;> simp [h, this, h2]
    · have : widthB i = false := by simp [widthB]; omega
      simp [h, this]
  have hc := ref_Cut (v := i) hi hw; rcases kinds k with rfl | rfl | rfl | rfl | rfl | rfl | rfl | rfl | rfl | rfl | rfl | rfl | rfl | rfl | rfl | rfl | rfl | rfl | rfl | rfl | rfl | rfl | rfl | h
  case inl => unfold Fe; simp [hc, sfitS, ifitS]
  all_goals first
    | (rw [isK_out h] at hk; cases hk)
    | (unfold Fe sfitS ifitS
       simp only [hb8]
       generalize decide (8 ≤ b) = u at *
       clear hc h14 h15 hb8 hw hs; rcases hl with rfl | rfl | rfl | rfl | rfl <;> cases u <;> simp_all
       done)
    | (unfold Fe sfitS ifitS
       rw [hb]; simp only [P8]; clear hc hs
       generalize decide (i < b) = p at *
       generalize decide (b < i) = q at *
       generalize decide (i ≤ 64) = r at *
       generalize widthB (w64 i) = s at *
       rcases hl with rfl | rfl | rfl | rfl | rfl <;> cases p <;> cases q <;> cases r <;> cases s <;> simp_all
       done)
theorem Hc{α X:Type}(l:List α)(d:α)(p:α->Bool)(f:Int->Option (LR Int X))(yes no:X)(hn:∀ i:Nat,i<l.length->p (l.getD i d)=true->f i=some (.next ((i:Int)+1)))
  (hf:∀ i:Nat,i<l.length->p (l.getD i d)=false->f i=some (.done no)) (he:f l.length=some (.done yes)):∀(k i:Nat),i+k=l.length->Ag f i=some (bif (l.drop i).all p then yes else no)
 | 0,i,h=>by
  obtain rfl:i=l.length:=by omega
  rw[Ao he]
  simp
 | k+1,i,h=>by
  have hi:i<l.length:=by omega
  have hd:l.drop i=l.getD i d::l.drop (i+1):=by rw[Ym hi,Ai _ _ _ hi]
  cases hp:p (l.getD i d) with
  | true=>
   rw[Ay (hn i hi hp)];have:=Hc l d p f yes no hn hf he k (i+1) (by omega);rw[show((i:Int)+1)=((i+1:Nat):Int) by omega,this,hd,V9,hp,F8]
  | false=>
   rw[Ao (hf i hi hp),hd,V9,hp,Vj,Ar]
theorem loop_build{α X:Type}(n:Nat)(g:Nat->α)(f:List α×Int->Option (LR (List α×Int) X))(out:List α->X)(hn:∀(l:List α) (i:Nat),i<n->l.length=i->f (l,(i:Int))=some (.next (l++[g i],(i:Int)+1)))
  (he:∀ l:List α,l.length=n->f (l,(n:Int))=some (.done (out l))):∀(k i:Nat) (l:List α),i+k=n->l=(List.range i).map g->Ag f (l,(i:Int))=some (out ((List.range n).map g))
 | 0,i,l,h,hl=>by
  obtain rfl:i=n:=by omega
  subst hl;exact Ao (he _ (by simp))
 | k+1,i,l,h,hl=>by
  subst hl;rw[Ay (hn _ i (by omega) (by simp)),show((i:Int)+1)=((i+1:Nat):Int) by omega];exact loop_build n g f out hn he k (i+1) _ (by omega) (by simp[Aac])
theorem loop_sum{α:Type}(l:List α)(d:α)(wt:α->Nat)(C:Nat)(f:Int×Int->Option (LR (Int×Int) Int))
  (hn:∀(n i:Nat),i<l.length->n<=C->∃ m:Nat,f ((n:Int),(i:Int))=some (.next ((m:Int),((i+1:Nat):Int)))/\(n+wt (l.getD i d)<=C->m=n+wt (l.getD i d))/\(m<=C->n+wt (l.getD i d)<=C))
  (hd:∀(n i:Nat),i<=l.length->(i=l.length\/C<n)->f ((n:Int),(i:Int))=some (.done (n:Int))) :
  ∀(k i n:Nat),i+k=l.length->∃ m:Nat,Ag f ((n:Int),(i:Int))=some (m:Int)/\(n+((l.drop i).map wt).sum<=C->m=n+((l.drop i).map wt).sum)/\(m<=C->n+((l.drop i).map wt).sum<=C)
 | 0,i,n,h=>by
  obtain rfl:i=l.length:=by omega
  refine⟨n,Ao (hd n _ (zzL9 _) (.inl rfl)),?_,?_⟩
  ·simp
  ·simp
 | k+1,i,n,h=>by
  have hi:i<l.length:=by omega
  have hdr:l.drop i=l.getD i d::l.drop (i+1):=by rw[Ym hi,Ai _ _ _ hi]
  by_cases hC:n<=C
  ·obtain⟨m,h1,h2,h3⟩:=hn n i hi hC;obtain⟨m',h4,h5,h6⟩:=loop_sum l d wt C f hn hd k (i+1) m (by omega);refine⟨m',by rw[Ay h1];exact h4,fun hle=>?_,fun hle=>?_⟩
   ·rw[hdr,Cm,Vk]at hle ⊢;have:=h2 (by omega);subst this;rw[h5 (by omega)];omega
   ·rw[hdr,Cm,Vk];have h7:=h6 hle;have h8:=h3 (by omega);have:=h2 h8;omega
  ·refine⟨n,Ao (hd n i (by omega) (.inr (by omega))),fun hle=>by omega,fun hle=>by omega⟩
theorem Rj{X:Type}(N:Nat)(f:Int×Int->Option (LR (Int×Int) X))(hn:∀(n:Int) (i:Nat),i<N->(∃ m:Int,f (n,(i:Int))=some (.next (m,((i+1:Nat):Int))))\/∃ x,f (n,(i:Int))=some (.done x))(hd:∀ n:Int,∃ x,f (n,(N:Int))=some (.done x)) :
  ∀(k i:Nat) (n:Int),i+k=N->∃ x,Ag f (n,(i:Int))=some x
 | 0,i,n,h=>by
  obtain rfl:i=N:=by omega
  obtain⟨x,hx⟩:=hd n;exact⟨x,Ao hx⟩
 | k+1,i,n,h=>by
  rcases hn n i (by omega) with⟨m,hm⟩|⟨x,hx⟩
  ·obtain⟨x,hx⟩:=Rj N f hn hd k (i+1) m (by omega);exact⟨x,by rw[Ay hm];exact hx⟩
  ·exact⟨x,Ao hx⟩
theorem loop_addw{α X:Type}(l:List α)(d:α)(wt:α->Nat)(out:Int->X)(f:Int×Int->Option (LR (Int×Int) X))
  (hn:∀(n i:Nat),i<l.length->f (w64 n,(i:Int))=some (.next (w64 ((n+wt (l.getD i d):Nat):Int),((i+1:Nat):Int)))) (hd:∀ n:Int,f (n,(l.length:Int))=some (.done (out n))) :
  ∀(k i n:Nat),i+k=l.length->Ag f (w64 n,(i:Int))=some (out (w64 ((n+((l.drop i).map wt).sum:Nat):Int)))
 | 0,i,n,h=>by
  obtain rfl:i=l.length:=by omega
  rw[Ao (hd _)]
  simp
 | k+1,i,n,h=>by
  have hi:i<l.length:=by omega
  have hdr:l.drop i=l.getD i d::l.drop (i+1):=by rw[Ym hi,Ai _ _ _ hi]
  rw[Ay (hn n i hi),loop_addw l d wt out f hn hd k (i+1) _ (by omega),hdr,Cm,Vk,Nx]
theorem w64_add(a b:Int):w64 (w64 a+b)=w64 (a+b):=by
 show IntKind.i64.wrap (IntKind.i64.wrap a+b)=IntKind.i64.wrap (a+b)
 simp only[IntKind.wrap,IntKind.bits,IntKind.signed]
 simp
 split<;>split<;>omega
theorem Aw{α:Type}{l:List α}{i:Nat}{d:α}(h:i<l.length):l.getD i d∈l:=by rw[Ai _ _ _ h];exact V8 h
theorem Ap{i n:Nat}(h:i<n):A5 (i:Int) n:=⟨by omega,by exact_mod_cast h⟩
theorem A8{i n:Nat}(h:i<n)(hn:n<9223372036854775808):w64 ((i:Int)+1)=(i:Int)+1:=Jy (by omega) (by omega)
def good31(l:List Int):Prop:=∀ x∈l,0<=x/\x<=2147483647
theorem Gg{S X:Type}(f:S->Option (LR S X))(T:Nat->S)(x:X):∀(n:Nat),(∀ i,i<n->f (T i)=some (.next (T (i+1))))->f (T n)=some (.done x)->Ag f (T 0)=some x:=by
 suffices h:∀(k i n:Nat),i+k=n->(∀ j,i<=j->j<n->f (T j)=some (.next (T (j+1))))->f (T n)=some (.done x)->Ag f (T i)=some x from
  fun n h1 h2=>h n 0 n (by omega) (fun j _ hj=>h1 j hj) h2
 intro k
 induction k with
 | zero=>
  intro i n hi _ h2
  have hin:n=i:=by omega
  subst hin;exact Ao h2
 | succ k ih=>intro i n hi h1 h2;rw[Ay (h1 i (zzL9 _) (by omega))];exact ih (i+1) n (by omega) (fun j hj hj'=>h1 j (by omega) hj') h2
theorem loop_seq_part{S X:Type}(f:S->Option (LR S X))(T:Nat->S):∀(n:Nat),(∀ i,i<n->f (T i)=some (.next (T (i+1))))->Ag f (T 0)=Ag f (T n):=by
 intro n
 induction n with
 | zero=>intro _;rfl
 | succ n ih=>intro h;rw[ih (fun i hi=>h i (by omega)),Ay (h n (by omega))]
theorem Iq{S X:Type}(f:S->Option (LR S X))(T:Nat->S)(p:Nat->Bool)(yes no:X)(n:Nat)(hn:∀ i,i<n->p i=true->f (T i)=some (.next (T (i+1))))(hf:∀ i,i<n->p i=false->f (T i)=some (.done no))
  (he:f (T n)=some (.done yes)):Ag f (T 0)=some (bif (List.range n).all p then yes else no):=by
 cases hall:(List.range n).all p with
 | true=>
  rw[Af];exact Gg f T yes n (fun i hi=>hn i hi (zzL30.1 hall i (zzL52.2 hi))) he
 | false=>
  rw[Ar]
  have hex:∃ i,i<n/\p i=false:=by
   have:¬ ∀ i∈List.range n,p i=true:=fun h=>by rw[zzL30.2 h]at hall;cases hall
   simpa using this
  let P:Nat->Prop:=fun m=>m<n/\p m=false
  obtain⟨m,hm⟩:=hex
  have key:∀ m,m<n->p m=false->∃ k,k<n/\p k=false/\∀ j,j<k->p j=true:=by
   intro m
   induction m using Nat.strongRecOn with
   | ind m ih=>
    intro h1 h2
    by_cases h:∃ j,j<m/\p j=false
    ·obtain⟨j,hj,hpj⟩:=h;exact ih j hj (by omega) hpj
    ·refine⟨m,h1,h2,fun j hj=>?_⟩
     cases hpj:p j with
     | true=>rfl
     | false=>exact(h ⟨j,hj,hpj⟩).elim
  obtain⟨k,hk,hpk,hlt⟩:=key m hm.1 hm.2;rw[loop_seq_part f T k (fun i hi=>hn i (by omega) (hlt i hi))];exact Ao (hf k hk hpk)
theorem all_range{n:Nat}{p:Nat->Bool}:(List.range n).all p=true↔∀ i,i<n->p i=true:=by
 rw[zzL30];exact⟨fun h i hi=>h i (zzL52.2 hi),fun h i hi=>h i (zzL52.1 hi)⟩
theorem Au(i:Nat):((i:Int)).toNat=i:=Eo i
theorem w1{i:Nat}(h:i<4611686018427387904):w64 ((i:Int)+1)=((i+1:Nat):Int):=by rw[Jy (by omega) (by omega)];omega
theorem De{i n:Nat}(h:i<n):decide (((i:Nat):Int)<((n:Nat):Int))=true:=by simpa using h
theorem Gf{n:Nat}:decide (((n:Nat):Int)<((n:Nat):Int))=false:=by simp
theorem Gc{i n:Nat}(h:i<n):A5 ((i:Nat):Int) n:=Ap h
theorem inbz{x:Int}{n:Nat}(h0:0<=x)(h1:x<n):A5 x n:=⟨h0,h1⟩
structure OpOk(o:Dp):Prop where
 imm:0<=o.Imm/\o.Imm<18446744073709551616
 args:o.Args.length<=200
theorem repeat_one(x:Int×Int)(n:Int)(h:n=2\/n=4\/n=8\/n=16):Bw [x] n=some (List.replicate n.toNat x):=by
 let d:Int×Int:=(0,0)
 rcases h with rfl|rfl|rfl|rfl
 ·have e:Bw [x] 2=(Ag Cs (1,[x,d])).bind some:=by kernel_rfl
  rw[e,Ay (s':=(2,[x,x])) (by kernel_rfl),Ao (x:=[x,x]) (by kernel_rfl)]
  rfl
 ·have e:Bw [x] 4=(Ag Cs (1,[x,d,d,d])).bind some:=by kernel_rfl
  rw[e,Ay (s':=(2,[x,x,d,d])) (by kernel_rfl),Ay (s':=(4,[x,x,x,x])) (by kernel_rfl),Ao (x:=[x,x,x,x]) (by kernel_rfl)]
  rfl
 ·have e:Bw [x] 8=(Ag Cs (1,[x,d,d,d,d,d,d,d])).bind some:=by kernel_rfl
  rw[e,Ay (s':=(2,[x,x,d,d,d,d,d,d])) (by kernel_rfl),Ay (s':=(4,[x,x,x,x,d,d,d,d])) (by kernel_rfl),Ay (s':=(8,[x,x,x,x,x,x,x,x])) (by kernel_rfl),
   Ao (x:=[x,x,x,x,x,x,x,x]) (by kernel_rfl)]
  rfl
 ·have e:Bw [x] 16=(Ag Cs (1,[x,d,d,d,d,d,d,d,d,d,d,d,d,d,d,d])).bind some:=by kernel_rfl
  rw[e,Ay (s':=(2,[x,x,d,d,d,d,d,d,d,d,d,d,d,d,d,d])) (by kernel_rfl),Ay (s':=(4,[x,x,x,x,d,d,d,d,d,d,d,d,d,d,d,d])) (by kernel_rfl),
   Ay (s':=(8,[x,x,x,x,x,x,x,x,d,d,d,d,d,d,d,d])) (by kernel_rfl),Ay (s':=(16,List.replicate 16 x)) (by kernel_rfl),Ao (x:=List.replicate 16 x) (by kernel_rfl)]
  rfl
theorem kind_row(l:List (Int×Int)):Hw l=some l:=rfl
theorem kind_takes(o:Dp)(hs:Ut o.Bits o.Lanes=true)(hk:isK o.Kind=true)(hf:sfitS o.Kind o.Bits o.Lanes=true):M0 o=some (Vh o):=by
 have hl:=Qb hs;obtain⟨k,b,n,d,args,i⟩:=o;simp only at hs hk hf hl ⊢;rcases kinds k with rfl|rfl|rfl|rfl|rfl|rfl|rfl|rfl|rfl|rfl|rfl|rfl|rfl|rfl|rfl|rfl|rfl|rfl|rfl|rfl|rfl|rfl|rfl|h
 case inr.inr.inr.inr.inr.inr.inr.inr.inr.inr.inr.inr.inr.inr.inr.inr.inr.inr.inr.inr.inr.inl=>
  have h1:n≠1:=by rintro rfl;simp[sfitS]at hf
  have h4:n=2\/n=4\/n=8\/n=16:=by omega
  unfold M0;rw[show(((21:Int))==21)=true from rfl];simp only[repeat_one _ _ h4,kind_row,An];rcases h4 with rfl|rfl|rfl|rfl<;>rfl
 all_goals first
  | rfl
  | (rw[isK_out h]at hk;cases hk)
  | (rcases hl with rfl|rfl|rfl|rfl|rfl<;>first|rfl|(simp[sfitS]at hf))
theorem kind_argsFit(o:Dp)(hs:Ut o.Bits o.Lanes=true)(hk:isK o.Kind=true)(hf:sfitS o.Kind o.Bits o.Lanes=true)(hl:o.Args.length<=200):Mg o=some (((o.Args.length:Int)==Ns o.Kind o.Lanes)&&o.Args.all valS):=by
 unfold Mg;rw[kind_takes o hs hk hf]
 have hn:0<=Ns o.Kind o.Lanes:=by
  have:=Qb hs;unfold Ns
  cases(o.Kind==0)<;>cases(o.Kind==13 || o.Kind==18 || o.Kind==19)<;>cases(o.Kind==14 || o.Kind==15 || o.Kind==16 || o.Kind==22)<;>cases(o.Kind==20)<;>cases(o.Kind==21)<;>simp<;>omega
 have hlen:((Vh o).length:Int)=Ns o.Kind o.Lanes:=by simp[Vh];omega
 simp only[An,hlen]
 by_cases he:(o.Args.length:Int)=Ns o.Kind o.Lanes
 ·have e1:((o.Args.length:Int)==Ns o.Kind o.Lanes)=true:=by simpa using he
  have e2:((o.Args.length:Int)!=Ns o.Kind o.Lanes)=false:=by simpa using he
  rw[e1,e2,Ar]
  have hloop:=Hc o.Args (0:Int) valS (Iu o) (.inl ()) (.inr false) (fun i hi hp=>by
    unfold Iu
    have:decide ((i:Int)<(o.Args.length:Int))=true:=by simpa using hi
    simp only[this,Af,Ac (Ap hi),Eo,Us,An,hp,Df,Ar,A8 hi (by omega)]) (fun i hi hp=>by
    unfold Iu
    have:decide ((i:Int)<(o.Args.length:Int))=true:=by simpa using hi
    simp only[this,Af,Ac (Ap hi),Eo,Us,An,hp,L2]) (by
    unfold Iu
    simp) o.Args.length 0 (by omega)
  rw[show(0:Int)=((0:Nat):Int) from rfl,hloop,Kk]
  cases o.Args.all valS<;>rfl
 ·have e1:((o.Args.length:Int)==Ns o.Kind o.Lanes)=false:=by simpa using he
  have e2:((o.Args.length:Int)!=Ns o.Kind o.Lanes)=true:=by simpa using he
  rw[e1,e2];rfl
theorem gives_zero{k b n:Int}(hs:Ut b n=true):((givesS k b n).1==0)=(k==17 || k==19):=by
 have hb:(b==0)=false:=by
  have:=width_cases (Yc hs);simp;omega
 unfold givesS
 cases(k==17 || k==19)<;>cases(k==10 || k==11 || k==12)<;>cases(k==22)<;>simp_all
theorem kind_dstFits(o:Dp)(hs:Ut o.Bits o.Lanes=true):Mh o=some (dstS o.Kind o.Dst):=by
 unfold Mh;simp only[kind_gives,An,gives_zero hs,Us,dstS]
 cases(o.Kind==17 || o.Kind==19)<;>rfl
theorem kind_May(o:Dp)(ho:OpOk o):N9 o=some (La o):=by
 unfold N9 La;simp only[kind_isKind,kind_Shape,kind_shapeFits,An]
 cases hs:Ut o.Bits o.Lanes with
 | false=>cases isK o.Kind<;>rfl
 | true=>
  have hl:=Qb hs
  cases hk:isK o.Kind with
  | false=>rfl
  | true=>
   rw[kind_immFits o (Yc hs) (by omega) ho.imm];simp only[kind_dstFits o hs]
   cases hf:sfitS o.Kind o.Bits o.Lanes with
   | false=>rfl
   | true=>
    rw[kind_argsFit o hs hk hf ho.args]
    generalize ifitS o.Kind o.Bits o.Lanes o.Imm=p
    generalize ((o.Args.length:Int)==Ns o.Kind o.Lanes)=q
    generalize o.Args.all valS=r
    generalize dstS o.Kind o.Dst=s
    cases p<;>cases q<;>cases r<;>cases s<;>rfl
theorem ref_Args(o:Dp):Ie o=some (bif isK o.Kind then Ns o.Kind o.Lanes else -1):=by
 obtain⟨k,b,n,d,args,i⟩:=o;rcases kinds k with rfl|rfl|rfl|rfl|rfl|rfl|rfl|rfl|rfl|rfl|rfl|rfl|rfl|rfl|rfl|rfl|rfl|rfl|rfl|rfl|rfl|rfl|rfl|h
 any_goals rfl
 unfold Ie;simp[out_ne h,isK_out h]
theorem ref_May(o:Dp)(ho:OpOk o):Fx o=some (La o):=by
 unfold Fx La;simp only[ref_Shape,An]
 cases hs:Ut o.Bits o.Lanes with
 | false=>rfl
 | true=>
  simp only[ref_Args,Df,Qo,Af,Ar,An]
  cases hk:isK o.Kind with
  | false=>
   have:((-1:Int)!=(o.Args.length:Int))=true:=by simp
   simp[this]
  | true=>
   simp only[Af];rw[ref_Fits o hs hk ho.imm]
   by_cases he:(o.Args.length:Int)=Ns o.Kind o.Lanes
   ·have e1:((o.Args.length:Int)==Ns o.Kind o.Lanes)=true:=by simpa using he
    have e2:(Ns o.Kind o.Lanes !=(o.Args.length:Int))=false:=by simpa using he.symm
    rw[e1,e2]
    have hloop:=Hc o.Args (0:Int) valS (Fo o) (.inl ()) (.inr false) (fun i hi hp=>by
      unfold Fo
      have:decide ((i:Int)<(o.Args.length:Int))=true:=by simpa using hi
      simp only[this,Af,Ac (Ap hi),Eo,Y9,An,hp,Df,Ar,A8 hi (by have:=ho.args;omega)]) (fun i hi hp=>by
      unfold Fo
      have:decide ((i:Int)<(o.Args.length:Int))=true:=by simpa using hi
      simp only[this,Af,Ac (Ap hi),Eo,Y9,An,hp,L2]) (by
      unfold Fo
      simp) o.Args.length 0 (by omega)
    rw[show(0:Int)=((0:Nat):Int) from rfl,hloop,Kk];simp only[Y9,An,dstS]
    generalize sfitS o.Kind o.Bits o.Lanes=p
    generalize ifitS o.Kind o.Bits o.Lanes o.Imm=q
    generalize o.Args.all valS=r
    cases p<;>cases q<;>cases r<;>cases(o.Kind==17)<;>cases(o.Kind==19)<;>rfl
   ·have e1:((o.Args.length:Int)==Ns o.Kind o.Lanes)=false:=by simpa using he
    have e2:(Ns o.Kind o.Lanes !=(o.Args.length:Int))=true:=by simpa using Ne.symm he
    rw[e1,e2]
    cases sfitS o.Kind o.Bits o.Lanes<;>cases ifitS o.Kind o.Bits o.Lanes o.Imm<;>rfl
theorem may_all{o:Dp}(h:La o=true):Ut o.Bits o.Lanes=true/\isK o.Kind=true/\sfitS o.Kind o.Bits o.Lanes=true/\ifitS o.Kind o.Bits o.Lanes o.Imm=true/\(o.Args.length:Int)=Ns o.Kind o.Lanes/\o.Args.all valS=true/\dstS o.Kind o.Dst=true:=by
 simp only[La,Bc,zzL71]at h;exact⟨h.1.1,h.1.2.1.1.1,h.1.2.1.1.2,h.1.2.1.2,h.1.2.2,h.2.1,h.2.2⟩
theorem kind_Takes(o:Dp)(ho:OpOk o):My o=some (bif La o then Vh o else[]):=by
 unfold My;rw[kind_May o ho];simp only[An]
 cases hm:La o with
 | false=>rfl
 | true=>
  obtain⟨h1,h2,h3,_⟩:=may_all hm;simp only[kind_takes o h1 h2 h3,An]
  rfl
theorem kind_Gives(o:Dp)(ho:OpOk o):Mx o=some (bif La o then givesS o.Kind o.Bits o.Lanes else(0,0)):=by
 unfold Mx;rw[kind_May o ho];simp only[An,kind_gives]
 cases La o<;>rfl
theorem ref_Gives(o:Dp)(ho:OpOk o):F4 o=some (bif La o then givesS o.Kind o.Bits o.Lanes else(0,0)):=by
 unfold F4;rw[ref_May o ho];simp only[An]
 cases hm:La o with
 | false=>rfl
 | true=>
  obtain⟨_,h2,_⟩:=may_all hm;obtain⟨k,b,n,d,args,i⟩:=o;simp only at h2 ⊢;rcases kinds k with rfl|rfl|rfl|rfl|rfl|rfl|rfl|rfl|rfl|rfl|rfl|rfl|rfl|rfl|rfl|rfl|rfl|rfl|rfl|rfl|rfl|rfl|rfl|h
  any_goals rfl
  rw[isK_out h]at h2;cases h2
theorem ref_Takes(o:Dp)(ho:OpOk o):F5 o=some (bif La o then Vh o else[]):=by
 unfold F5;rw[ref_May o ho];simp only[An]
 cases hm:La o with
 | false=>rfl
 | true=>
  obtain⟨h1,h2,h3,h4,h5,_⟩:=may_all hm
  have hloop:=loop_build (X:=List (Int×Int)) o.Args.length (elemS o) (F7 o) id (fun l i hi hl=>by
   unfold F7
   have e0:decide ((i:Int)<(o.Args.length:Int))=true:=by simpa using hi
   have e1:((i:Int)==0)=Nat.beq i 0:=by cases i<;>rfl
   have e2:((i:Int)==1)=Nat.beq i 1:=by
    rcases i with _|_|i
    ·rfl
    ·rfl
    ·have:¬ (((i+1+1:Nat):Int)=1):=by omega
     simp only[Nat.beq]
     simpa using this
   have hr:l.length+([elemS o i]:List (Int×Int)).length<=room:=by have:=ho.args;simp[room];omega
   simp only[e0,e1,e2,Af];have e3:w64 ((i:Int)+1)=(i:Int)+1:=A8 hi (by have:=ho.args;omega);simp only[e3]
   have key:∀(x:Option (Int×Int)),x=some (elemS o i)->(x.bind fun x23=>A7 (l.length+([(x23.1,x23.2)]:List (Int×Int)).length<=room) (some (LR.next (l++([(x23.1,x23.2)]:List (Int×Int)),(i:Int)+1))))=(some (LR.next (l++[elemS o i],(i:Int)+1)):Option (LR (List (Int×Int)×Int) (List (Int×Int)))):=by
    rintro x rfl;exact Ac hr
   refine key _ ?_;clear key hr;obtain⟨k,b,n,d,args,im⟩:=o;simp only at h2 ⊢;rcases kinds k with rfl|rfl|rfl|rfl|rfl|rfl|rfl|rfl|rfl|rfl|rfl|rfl|rfl|rfl|rfl|rfl|rfl|rfl|rfl|rfl|rfl|rfl|rfl|h
   all_goals first
    | rfl
    | (rw[isK_out h]at h2;cases h2)
    | (rcases i with _|_|i<;>rfl)) (fun l hl=>by
   unfold F7
   simp) o.Args.length 0 [] (by omega) rfl
  rw[show(0:Int)=((0:Nat):Int) from rfl];simp only[Df,Ar,hloop,An,id];rw[Vh,<- h5]
  rfl
theorem wf_u64{n:Int}(h:(Lit.int .u64 n).wf=true):0<=n/\n<18446744073709551616:=by simp[Lit.wf,IntKind.min,IntKind.max,IntKind.bits,IntKind.signed]at h;omega
abbrev Iall(w:World):Nat->Nat->Prop:=fun b o=>∃ u,w.cell? ⟨b,o,none⟩=some u
structure CRep(w:World)(cs:List Value)(avs:List AV):Prop where
 len:cs.length=avs.length
 one:∀ j,j<avs.length->(cs.getD j undef).oneCell'=true
 rep:∀ j,j<avs.length->RepV (Iall w) w (cs.getD j undef) (avs.getD j .any)
structure Opens(P:Program)(t:TypeId){α:Type}(e:α->List AV)(ok:α->Prop):Prop where
 get:∀{H:Type} {enc:TypeId×Value->H} {w:World} {base:Nat} {spare:Nat->Bool} {held:Bool} {fuel:Nat} {cs:List Value} {x:DataW H×List MemPlace},
  DataW.trod enc P w base spare held fuel t cs=some x->∃ a,ok a/\CRep w cs (e a)
theorem crep_one{w:World}{v:Value}{x:AV}(h1:v.oneCell'=true)(h:RepV (Iall w) w v x):CRep w [v] [x]:=
 ⟨rfl,fun j hj=>(by
   have hj0:j=0:=by simpa using hj
   subst hj0
   exact h1),fun j hj=>(by
   have hj0:j=0:=by simpa using hj
   subst hj0
   exact h)⟩
theorem opens_int{P:Program}{t:TypeId}{k:IntKind}{e:Int->List AV}(ht:P.underlying t=some (.int k))(he:∀ n,e n=[.int k n]):Opens P t e (fun n=>(Lit.int k n).wf=true):=by
 refine⟨?_⟩;intro H enc w base spare held fuel cs x h;obtain⟨n,rfl,rfl,hw⟩:=DataW.trod_int ht h;exact⟨n,hw,by rw[he];exact crep_one rfl (.int _ _)⟩
theorem cells?_get{w:World}{base:Nat}{a:Addr}{n:Nat}{cs:List Value}(h:w.cells? base a n=some cs):cs.length=n/\∀ i,i<n->w.cell? (a.add i)=some (cs.getD i undef):=by
 unfold World.cells? at h
 split at h
 ·have hl:=mapM_some_length h;simp at hl;refine⟨hl,fun i hi=>?_⟩;have:=mapM_some_get h i i (by simp[hi]);rw[this];simp[List.getD,show i<cs.length by omega]
 ·cases h
theorem So{P:Program}{t el:TypeId}{α:Type}{e:α->List AV}{ok:α->Prop}{sz:Nat}{d:α}{e':List α->List AV}(ht:P.underlying t=some (.slice el))(hs:P.cellsOf el=sz)(h1:1<=sz)(he:Opens P el e ok)(hlen:∀ a,(e a).length=sz)
  (he':∀ l,e' l=[AV.list sz e d l .none]):Opens P t e' (fun l=>(∀ a∈l,ok a)/\l.length<=maxLen):=by
 refine⟨?_⟩;intro H enc w base spare held fuel cs x h;rcases DataW.trod_slice ht h with⟨rfl,rfl⟩|⟨a,len,cap,elems,rest,n,_,rfl,rfl,hb,hl,hm,hlen2,hel,_⟩
 ·exact⟨[],⟨by simp,by simp⟩,by rw[he'];exact crep_one rfl (.slice none 0 0 sz _ (fun _=>undef) (zzL9 _) (by simp) (fun h=>by simp at h) (fun _=>rfl) (fun j hj=>by simp at hj) (fun i hi=>by simp at hi) (fun i c hi=>by simp at hi))⟩
 ·have each:∀ i:Fin len,∃ b,ok b/\∃ cs,w.cells? base (a.add (i.1*sz)) sz=some cs/\CRep w cs (e b):=fun⟨i,hi⟩=>by
   have:=hel i hi;rw[hs,R9 (by omega),zzL116]at this;obtain⟨cs,hcs,htr⟩:=this;obtain⟨b,hb,hr⟩:=he.get htr;exact⟨b,hb,cs,hcs,hr⟩
  let f:Fin len->α:=fun i=>(each i).choose
  have hf:∀ i,ok (f i)/\∃ cs,w.cells? base (a.add (i.1*sz)) sz=some cs/\CRep w cs (e (f i)):=fun i=>(each i).choose_spec
  have hlf:(List.ofFn f).length=len:=by simp
  refine⟨List.ofFn f,⟨fun b hb=>?_,by simp;omega⟩,?_⟩
  ·obtain⟨i,rfl⟩:=List.mem_ofFn.1 hb;exact(hf i).1
  rw[he'];refine crep_one rfl ?_
  have hcell0:∀ i (hi:i<len),∀ c,c<sz->∃ u,w.cell? ((a.add (i*sz)).add c)=some u/\u.oneCell'=true/\RepV (Iall w) w u ((e (f ⟨i,hi⟩)).getD c .any):=fun i hi c hc=>by
   obtain⟨_,cs,hcs,hr⟩:=hf ⟨i,hi⟩;obtain⟨hl,hg⟩:=cells?_get hcs;exact⟨_,hg c hc,hr.one c (by rw[hlen];exact hc),hr.rep c (by rw[hlen];exact hc)⟩
  have hspot:0<len->a.spot=none:=fun hp=>by
   obtain⟨u,hu,_⟩:=hcell0 0 hp 0 h1;have h2:=World.cell?_spot hu
   simpa [Addr.add] using h2
  have hcell:∀ i (hi:i<len),∀ c,c<sz->∃ u,w.cell? ⟨a.block,a.off+(i*sz+c),none⟩=some u/\u.oneCell'=true/\RepV (Iall w) w u ((e (f ⟨i,hi⟩)).getD c .any):=fun i hi c hc=>by
   obtain⟨u,hu,h1,h2⟩:=hcell0 i hi c hc;have hsp:=hspot (by omega);rw[Lp hsp,Of]at hu;exact⟨u,by rw[<- Nx];exact hu,h1,h2⟩
  have hdm:∀ j,j<len*sz->∃ i c,i<len/\c<sz/\j=i*sz+c:=fun j hj=>by
   refine⟨j / sz,j % sz,(zzL108 (by omega)).2 hj,Vn _ (by omega),?_⟩;rw[Vl];exact(Yk j sz).symm
  unfold AV.list;rw[hlf];refine .slice (some a) len cap sz _ (fun j=>(w.cell? ⟨a.block,a.off+j,none⟩).getD undef) hl hm (fun hp=>⟨a,rfl,hspot hp,fun j hj=>?_,fun j hj=>?_⟩) (fun h=>by cases h) (fun j hj=>?_) (fun i hi=>hlen _) (fun i c hi hc=>?_)
  ·obtain⟨i,c,hi,hc,rfl⟩:=hdm j hj;obtain⟨u,hu,_⟩:=hcell i hi c hc;exact⟨u,hu⟩
  ·obtain⟨i,c,hi,hc,rfl⟩:=hdm j hj;obtain⟨u,hu,_⟩:=hcell i hi c hc;rw[hu];rfl
  ·obtain⟨i,c,hi,hc,rfl⟩:=hdm j hj;obtain⟨u,hu,h1,_⟩:=hcell i hi c hc;simp only[hu];exact h1
  ·obtain⟨u,hu,_,h2⟩:=hcell i hi c hc
   have e1:(List.ofFn f).getD i d=f ⟨i,hi⟩:=by simp[List.getD,hi]
   rw[e1,hu];exact h2
structure OpensF(P:Program)(fs:List Field)(off N:Nat){α:Type}(e:α->List AV)(ok:α->Prop):Prop where
 get:∀{H:Type} {enc:TypeId×Value->H} {w:World} {base:Nat} {spare:Nat->Bool} {held:Bool} {n:Nat} {cs:List Value},cs.length=N->
  (∀ f∈fs,∃ x,DataW.trod enc P w base spare held n f.type ((cs.drop f.offset).take (P.cellsOf f.type))=some x)->∃ a,ok a/\CRep w (cs.drop off) (e a)
theorem Po{P:Program}{N:Nat}:OpensF P [] N N (fun _:Unit=>[]) (fun _=>True):=by
 refine⟨?_⟩;intro H enc w base spare held n cs hN _;rw[List.drop_eq_nil_of_le (by omega)];exact⟨(),trivial,rfl,(fun j hj=>by simp at hj),(fun j hj=>by simp at hj)⟩
theorem B4{P:Program}{f:Field}{fs:List Field}{off sz N:Nat}{α β:Type}{e:α->List AV}{ok:α->Prop}{e':β->List AV}{ok':β->Prop}(hoff:f.offset=off)(hsz:P.cellsOf f.type=sz)(hle:off+sz<=N)
  (h:Opens P f.type e ok) (h':OpensF P fs (off+sz) N e' ok'):OpensF P (f::fs) off N (fun p:α×β=>e p.1++e' p.2) (fun p=>ok p.1/\ok' p.2):=by
 refine⟨?_⟩;intro H enc w base spare held n cs hN hall;obtain⟨x,hx⟩:=hall f (by simp);rw[hoff,hsz]at hx;obtain⟨a,ha,hr⟩:=h.get hx;obtain⟨b,hb,hr'⟩:=h'.get hN (fun g hg=>hall g (by simp[hg]))
 have hl:(e a).length=sz:=by rw[<- hr.len];simp;omega
 have hl':(e' b).length=N-(off+sz):=by rw[<- hr'.len];simp;omega
 have hsplit:cs.drop off=(cs.drop off).take sz++cs.drop (off+sz):=by rw[<- List.drop_drop];exact(List.take_append_drop sz _).symm
 have hl2:((cs.drop off).take sz).length=sz:=by simp;omega
 refine⟨(a,b),⟨ha,hb⟩,?_,fun j hj=>?_,fun j hj=>?_⟩
 ·simp[hl,hl'];omega
 ·rw[hsplit];replace hj:j<(e a++e' b).length:=hj
  show _
  by_cases hlt:j<sz
  ·have:=hr.one j (by omega);rwa[List.getD,Pf (by omega)]
  ·have:=hr'.one (j-sz) (by simp at hj;omega);rwa[List.getD,T8 (by omega),hl2]
 ·rw[hsplit];replace hj:j<(e a++e' b).length:=hj
  show RepV (Iall w) w _ ((e a++e' b).getD j .any)
  by_cases hlt:j<sz
  ·have:=hr.rep j (by omega);rwa[List.getD,Pf (by omega),List.getD,Pf (by omega)]
  ·have:=hr'.rep (j-sz) (by simp at hj;omega);rwa[List.getD,T8 (by omega),hl2,List.getD,T8 (by omega),hl]
theorem M4{P:Program}{t:TypeId}{fs:Array Field}{N:Nat}{α:Type}{e:α->List AV}{ok:α->Prop}(ht:P.underlying t=some (.struct fs))(hN:P.cellsOf t=N)(h:OpensF P fs.toList 0 N e ok):Opens P t e ok:=by
 refine⟨?_⟩;intro H enc w base spare held fuel cs x hx;obtain⟨xs,n,_,_,hl,hxl,hall⟩:=DataW.trod_struct ht hx
 have:=h.get (n:=n) (hl.trans hN) (enc:=enc) (w:=w) (base:=base) (spare:=spare) (held:=held) (fun f hf=>by
  obtain⟨i,hi,rfl⟩:=List.mem_iff_getElem.1 hf
  have hi':i<fs.size:=by simpa using hi
  have:=hall i fs.toList[i] (by simp[hi']);rw[R9 (by omega)]at this
  exact⟨_,this⟩)
 simpa using this
theorem Opens.to{P:Program}{t:TypeId}{α β:Type}{e:α->List AV}{ok:α->Prop}(h:Opens P t e ok){e':β->List AV}{ok':β->Prop}(g:α->β)(he:∀ a,e' (g a)=e a)(hok:∀ a,ok a->ok' (g a)):Opens P t e' ok':=by
 refine⟨?_⟩;intro H enc w base spare held fuel cs x hx;obtain⟨a,ha,hr⟩:=h.get hx;exact⟨g a,hok a ha,by rw[he];exact hr⟩
theorem arg_agg{P:Program}{t:TypeId}{α:Type}{e:α->List AV}{ok:α->Prop}(h:Opens P t e ok){H:Type}{enc:TypeId×Value->H}{w:World}{base:Nat}{spare:Nat->Bool}{held:Bool}{cs:Array Value}{d:DataW H}{ps:List MemPlace}
  (hd:DataW.Trod enc P w base spare held t (.agg cs) d ps):∃ a,ok a/\RepV (Iall w) w (.agg cs) (.agg (e a)):=by
 obtain⟨fuel,hf⟩:=hd;obtain⟨a,ha,hr⟩:=h.get hf;have e1:(Value.agg cs).cells.toList=cs.toList:=rfl;rw[e1]at hr
 have e2:∀ j,cs.toList.getD j undef=cs.getD j undef:=fun j=>by simp[Nd,List.getD]
 refine⟨a,ha,.agg _ _ (by simpa using hr.len) (fun j hj=>?_) (fun j hj=>?_)⟩
 ·rw[<- e2];exact hr.one j hj
 ·rw[<- e2];exact hr.rep j hj
def Rq(n:Int):Prop:=(Lit.int .i64 n).wf=true
theorem op_3:Opens Tryz.prog 3 As Rq:=opens_int Tryz.underlying3 (fun _=>rfl)
def okLI64(l:List (Int)):Prop:=(∀ a∈l,Rq a)/\l.length<=maxLen
theorem op_22:Opens Tryz.prog 22 J6 okLI64:=So (d:=(0:Int)) Tryz.underlying22 (by kernel_rfl) (by decide) op_3 (fun _=>rfl) (fun _=>rfl)
def okTPhi(a:H1):Prop:=Rq a.Bits/\Rq a.Dst/\okLI64 a.From/\okLI64 a.Args/\True
theorem op_59:Opens Tryz.prog 59 Xe okTPhi:=Opens.to (M4 (N:=4) Tryz.underlying59 (by kernel_rfl) (B4 (off:=0) (sz:=1) (N:=4) rfl (by kernel_rfl) (by decide) op_3 (B4 (off:=1) (sz:=1) (N:=4) rfl (by kernel_rfl) (by decide) op_3 (B4 (off:=2) (sz:=1) (N:=4) rfl (by kernel_rfl) (by decide) op_22 (B4 (off:=3) (sz:=1) (N:=4) rfl (by kernel_rfl) (by decide) op_22 Po))))) (fun p=>⟨p.1,p.2.1,p.2.2.1,p.2.2.2.1⟩) (fun _=>rfl) (fun _ h=>h)
def okLTPhi(l:List (H1)):Prop:=(∀ a∈l,okTPhi a)/\l.length<=maxLen
theorem op_49:Opens Tryz.prog 49 eLTPhi okLTPhi:=So (d:=(default:H1)) Tryz.underlying49 (by kernel_rfl) (by decide) op_59 (fun _=>rfl) (fun _=>rfl)
def okU64(n:Int):Prop:=(Lit.int .u64 n).wf=true
theorem op_55:Opens Tryz.prog 55 eU64 okU64:=opens_int Tryz.underlying55 (fun _=>rfl)
def okTOp(a:Dp):Prop:=Rq a.Kind/\Rq a.Bits/\Rq a.Lanes/\Rq a.Dst/\okLI64 a.Args/\okU64 a.Imm/\True
theorem op_57:Opens Tryz.prog 57 P1 okTOp:=Opens.to (M4 (N:=6) Tryz.underlying57 (by kernel_rfl) (B4 (off:=0) (sz:=1) (N:=6) rfl (by kernel_rfl) (by decide) op_3 (B4 (off:=1) (sz:=1) (N:=6) rfl (by kernel_rfl) (by decide) op_3 (B4 (off:=2) (sz:=1) (N:=6) rfl (by kernel_rfl) (by decide) op_3 (B4 (off:=3) (sz:=1) (N:=6) rfl (by kernel_rfl) (by decide) op_3 (B4 (off:=4) (sz:=1) (N:=6) rfl (by kernel_rfl) (by decide) op_22 (B4 (off:=5) (sz:=1) (N:=6) rfl (by kernel_rfl) (by decide) op_55 Po))))))) (fun p=>⟨p.1,p.2.1,p.2.2.1,p.2.2.2.1,p.2.2.2.2.1,p.2.2.2.2.2.1⟩) (fun _=>rfl) (fun _ h=>h)
def okLTOp(l:List (Dp)):Prop:=(∀ a∈l,okTOp a)/\l.length<=maxLen
theorem op_33:Opens Tryz.prog 33 eLTOp okLTOp:=So (d:=(default:Dp)) Tryz.underlying33 (by kernel_rfl) (by decide) op_57 (fun _=>rfl) (fun _=>rfl)
def okTEnd(a:Lo):Prop:=Rq a.Kind/\Rq a.Arg/\okLI64 a.To/\True
theorem op_51:Opens Tryz.prog 51 eTEnd okTEnd:=Opens.to (M4 (N:=3) Tryz.underlying51 (by kernel_rfl) (B4 (off:=0) (sz:=1) (N:=3) rfl (by kernel_rfl) (by decide) op_3 (B4 (off:=1) (sz:=1) (N:=3) rfl (by kernel_rfl) (by decide) op_3 (B4 (off:=2) (sz:=1) (N:=3) rfl (by kernel_rfl) (by decide) op_22 Po)))) (fun p=>⟨p.1,p.2.1,p.2.2.1⟩) (fun _=>rfl) (fun _ h=>h)
def okTBlock(a:Ah):Prop:=okLTPhi a.Phis/\okLTOp a.Ops/\okTEnd a.End/\True
theorem op_53:Opens Tryz.prog 53 Ip okTBlock:=Opens.to (M4 (N:=5) Tryz.underlying53 (by kernel_rfl) (B4 (off:=0) (sz:=1) (N:=5) rfl (by kernel_rfl) (by decide) op_49 (B4 (off:=1) (sz:=1) (N:=5) rfl (by kernel_rfl) (by decide) op_33 (B4 (off:=2) (sz:=3) (N:=5) rfl (by kernel_rfl) (by decide) op_51 Po)))) (fun p=>⟨p.1,p.2.1,p.2.2.1⟩) (fun _=>rfl) (fun _ h=>h)
def okLTBlock(l:List (Ah)):Prop:=(∀ a∈l,okTBlock a)/\l.length<=maxLen
theorem op_23:Opens Tryz.prog 23 eLTBlock okLTBlock:=So (d:=(default:Ah)) Tryz.underlying23 (by kernel_rfl) (by decide) op_53 (fun _=>rfl) (fun _=>rfl)
def okTFunc(a:TFunc):Prop:=okLI64 a.Params/\Rq a.Ret/\okLTBlock a.Blocks/\True
theorem op_25:Opens Tryz.prog 25 eTFunc okTFunc:=Opens.to (M4 (N:=3) Tryz.underlying25 (by kernel_rfl) (B4 (off:=0) (sz:=1) (N:=3) rfl (by kernel_rfl) (by decide) op_22 (B4 (off:=1) (sz:=1) (N:=3) rfl (by kernel_rfl) (by decide) op_3 (B4 (off:=2) (sz:=1) (N:=3) rfl (by kernel_rfl) (by decide) op_23 Po)))) (fun p=>⟨p.1,p.2.1,p.2.2.1⟩) (fun _=>rfl) (fun _ h=>h)
def okTHammock(a:THammock):Prop:=Rq a.At/\Rq a.Then/\Rq a.Else/\Rq a.Join/\True
theorem op_27:Opens Tryz.prog 27 eTHammock okTHammock:=Opens.to (M4 (N:=4) Tryz.underlying27 (by kernel_rfl) (B4 (off:=0) (sz:=1) (N:=4) rfl (by kernel_rfl) (by decide) op_3 (B4 (off:=1) (sz:=1) (N:=4) rfl (by kernel_rfl) (by decide) op_3 (B4 (off:=2) (sz:=1) (N:=4) rfl (by kernel_rfl) (by decide) op_3 (B4 (off:=3) (sz:=1) (N:=4) rfl (by kernel_rfl) (by decide) op_3 Po))))) (fun p=>⟨p.1,p.2.1,p.2.2.1,p.2.2.2.1⟩) (fun _=>rfl) (fun _ h=>h)
def numB(n:Int):Bool:=decide (0<=n)&&decide (n<=2147483647)
def listB(l:List Int):Bool:=l.all numB&&decide (l.length<=64)
def phiB(p:H1):Bool:=numB p.Bits&&numB p.Dst&&listB p.From&&listB p.Args
def opB(o:Dp):Bool:=numB o.Kind&&numB o.Bits&&numB o.Lanes&&numB o.Dst&&listB o.Args
def endB(e:Lo):Bool:=numB e.Kind&&numB e.Arg&&listB e.To
def blockB(b:Ah):Bool:=b.Phis.all phiB&&b.Ops.all opB&&endB b.End
def sizeB(b:Ah):Nat:=b.Phis.length+b.Ops.length+1
def Su(f:TFunc):Nat:=(f.Blocks.map sizeB).sum
def sizeW(f:TFunc):Int:=w64 (Su f)
def Tu(f:TFunc):Bool:=decide (1<=f.Blocks.length)&&decide (f.Blocks.length<=64)&&decide (f.Params.length<=16)&&listB f.Params&&numB f.Ret&&decide (sizeW f<=512)&&f.Blocks.all blockB
def entP(p:H1):Nat:=1+p.From.length+p.Args.length
def entO(o:Dp):Nat:=1+o.Args.length
def entB(b:Ah):Nat:=1+b.End.To.length+(b.Phis.map entP).sum+(b.Ops.map entO).sum
def entF(f:TFunc):Nat:=f.Params.length+(f.Blocks.map entB).sum
theorem Tt:maxLen=9223372036854775807:=rfl
structure InF(f:TFunc):Prop where
 params:f.Params.length<=maxLen
 blocks:f.Blocks.length<=maxLen
 block:∀ b∈f.Blocks,b.Phis.length<=maxLen/\b.Ops.length<=maxLen/\b.End.To.length<=maxLen
 phi:∀ b∈f.Blocks,∀ p∈b.Phis,p.From.length<=maxLen/\p.Args.length<=maxLen
 op:∀ b∈f.Blocks,∀ o∈b.Ops,o.Args.length<=maxLen/\0<=o.Imm/\o.Imm<18446744073709551616
theorem inF{f:TFunc}(h:okTFunc f):InF f:=
 ⟨h.1.2,h.2.2.1.2,fun b hb=>⟨(h.2.2.1.1 b hb).1.2,(h.2.2.1.1 b hb).2.1.2,(h.2.2.1.1 b hb).2.2.1.2.2.1.2⟩,fun b hb p hp=>⟨((h.2.2.1.1 b hb).1.1 p hp).2.2.1.2,((h.2.2.1.1 b hb).1.1 p hp).2.2.2.1.2⟩,
  fun b hb o ho=>⟨((h.2.2.1.1 b hb).2.1.1 o ho).2.2.2.2.1.2,wf_u64 ((h.2.2.1.1 b hb).2.1.1 o ho).2.2.2.2.2.1⟩⟩
theorem w64_nat{n:Nat}(h:n<9223372036854775808):w64 (n:Int)=n:=Jy (by omega) (by omega)
theorem K4{i n:Nat}(h:i<n)(hn:n<=maxLen):w64 ((i:Int)+1)=((i+1:Nat):Int):=by rw[Tt]at hn;rw[show((i:Int)+1)=((i+1:Nat):Int) by omega,w64_nat (by omega)]
theorem small_some(f:TFunc)(hf:InF f):∃ b,C2 f=some b:=by
 have h3:∃ x,Ag (B0 f) ((f.Params.length:Int),((0:Nat):Int))=some x:=by
  refine Rj f.Blocks.length (B0 f) (fun n i hi=>?_) (fun n=>?_) f.Blocks.length 0 _ (G3 _)
  ·have hmem:=Aw (d:=(default:Ah)) hi;obtain⟨b1,b2,_⟩:=hf.block _ hmem;have hI:A5 (i:Int) f.Blocks.length:=Ap hi;unfold B0
   cases hc:(bif decide ((i:Int)<(f.Blocks.length:Int)) then decide (n<=20000) else false) with
   | false=>right;simp only[hc,Ar];exact⟨_,rfl⟩
   | true=>
    left
    simp only[hc,Af,Ac hI]
    obtain⟨x1,h1⟩:=Rj (f.Blocks.getD i default).Phis.length (Cn f i) (fun n j hj=>by
      unfold Cn;simp only[Ac hI,Eo]
      cases hc:(bif decide ((j:Int)<((f.Blocks.getD i default).Phis.length:Int)) then decide (n<=20000) else false) with
      | false=>right;exact⟨_,rfl⟩
      | true=>left;simp only[Af,Ac (Ap hj),K4 hj b1];exact⟨_,rfl⟩) (fun n=>by
      unfold Cn;simp only[Ac hI,Eo]
      have:decide (((f.Blocks.getD i default).Phis.length:Int)<((f.Blocks.getD i default).Phis.length:Int))=false:=by simp
      simp only[this,Ar];exact⟨_,rfl⟩) _ 0 (w64 (w64 (n+1)+((f.Blocks.getD i default).End.To.length:Int))) (G3 _)
    obtain⟨x2,h2⟩:=Rj (f.Blocks.getD i default).Ops.length (Co f i) (fun n j hj=>by
      unfold Co;simp only[Ac hI,Eo]
      cases hc:(bif decide ((j:Int)<((f.Blocks.getD i default).Ops.length:Int)) then decide (n<=20000) else false) with
      | false=>right;exact⟨_,rfl⟩
      | true=>left;simp only[Af,Ac (Ap hj),K4 hj b2];exact⟨_,rfl⟩) (fun n=>by
      unfold Co;simp only[Ac hI,Eo]
      have:decide (((f.Blocks.getD i default).Ops.length:Int)<((f.Blocks.getD i default).Ops.length:Int))=false:=by simp
      simp only[this,Ar];exact⟨_,rfl⟩) _ 0 x1 (G3 _)
    rw[show((0:Nat):Int)=0 from rfl]at h1 h2;simp only[Eo,h1,h2,An,K4 hi hf.blocks];exact⟨_,rfl⟩
  ·unfold B0
   have:decide ((f.Blocks.length:Int)<(f.Blocks.length:Int))=false:=by simp
   simp only[this,Ar];exact⟨_,rfl⟩
 obtain⟨x,hx⟩:=h3;unfold C2;rw[show((0:Nat):Int)=0 from rfl]at hx;rw[hx];exact⟨_,rfl⟩
theorem small_eq(f:TFunc)(hf:InF f)(h0:f.Params.length<=64)(hb:∀ b∈f.Blocks,b.End.To.length<=64/\(∀ p∈b.Phis,p.From.length<=64/\p.Args.length<=64)/\∀ o∈b.Ops,o.Args.length<=64):C2 f=some (decide (entF f<=20000)):=by
 have h3:=loop_sum f.Blocks (default:Ah) entB 20000 (B0 f) (fun n i hi hn=>by
   have hmem:=Aw (d:=(default:Ah)) hi;obtain⟨b1,b2,b3⟩:=hf.block _ hmem;obtain⟨hTo,hPh,hOp⟩:=hb _ hmem;have hI1:A5 (i:Int) f.Blocks.length:=Ap hi
   have l1:=loop_sum (f.Blocks.getD i default).Phis (default:H1) entP 20000 (Cn f i) (fun n j hj hn=>by
     have hm:=Aw (d:=(default:H1)) hj;obtain⟨p1,p2⟩:=hPh _ hm
     have e1:decide ((j:Int)<((f.Blocks.getD i default).Phis.length:Int))=true:=by simpa using hj
     have e2:decide ((n:Int)<=20000)=true:=by simp;omega
     refine⟨n+entP ((f.Blocks.getD i default).Phis.getD j default),?_,fun _=>rfl,fun h=>h⟩;unfold Cn;simp only[Ac hI1,Eo,e1,e2,Af,Ac (Ap hj),K4 hj b1]
     congr 3
     rw[Jy (n:=(n:Int)+1) (by omega) (by omega),Jy (n:=(n:Int)+1+_) (by omega) (by omega),Jy (by omega) (by omega)];simp only[entP]
     omega) (fun n j hj hd=>by
     unfold Cn;simp only[Ac hI1,Eo]
     have:(bif decide ((j:Int)<((f.Blocks.getD i default).Phis.length:Int)) then decide ((n:Int)<=20000) else false)=false:=by
      rcases hd with rfl|h
      ·simp
      ·simp;omega
     rw[this];rfl)
   have l2:=loop_sum (f.Blocks.getD i default).Ops (default:Dp) entO 20000 (Co f i) (fun n j hj hn=>by
     have hm:=Aw (d:=(default:Dp)) hj;have p1:=hOp _ hm
     have e1:decide ((j:Int)<((f.Blocks.getD i default).Ops.length:Int))=true:=by simpa using hj
     have e2:decide ((n:Int)<=20000)=true:=by simp;omega
     refine⟨n+entO ((f.Blocks.getD i default).Ops.getD j default),?_,fun _=>rfl,fun h=>h⟩;unfold Co;simp only[Ac hI1,Eo,e1,e2,Af,Ac (Ap hj),K4 hj b2]
     congr 3
     rw[Jy (n:=(n:Int)+1) (by omega) (by omega),Jy (by omega) (by omega)];simp only[entO]
     omega) (fun n j hj hd=>by
     unfold Co;simp only[Ac hI1,Eo]
     have:(bif decide ((j:Int)<((f.Blocks.getD i default).Ops.length:Int)) then decide ((n:Int)<=20000) else false)=false:=by
      rcases hd with rfl|h
      ·simp
      ·simp;omega
     rw[this];rfl)
   have e1:decide ((i:Int)<(f.Blocks.length:Int))=true:=by simpa using hi
   have e2:decide ((n:Int)<=20000)=true:=by simp;omega
   obtain⟨m1,q1,q2,q3⟩:=l1 _ 0 (n+1+(f.Blocks.getD i default).End.To.length) (G3 _);obtain⟨m2,q4,q5,q6⟩:=l2 _ 0 m1 (G3 _);rw[Kk]at q2 q3 q5 q6;refine⟨m2,?_,fun hle=>?_,fun hle=>?_⟩
   ·unfold B0;simp only[e1,e2,Af,Ac hI1,Eo,K4 hi hf.blocks];rw[Jy (n:=(n:Int)+1) (by omega) (by omega),Jy (by omega) (by omega),show(n:Int)+1+((f.Blocks.getD i default).End.To.length:Int)=((n+1+(f.Blocks.getD i default).End.To.length:Nat):Int) by omega];rw[show((0:Nat):Int)=0 from rfl]at q1 q4;rw[q1,An,q4,An]
   ·simp only[entB]at hle ⊢;have:=q2 (by omega);rw[q5 (by omega)];omega
   ·simp only[entB];have h6:=q6 hle;have h3:=q3 (by omega);have:=q2 h3
    omega) (fun n i hi hd=>by
   unfold B0
   have:(bif decide ((i:Int)<(f.Blocks.length:Int)) then decide ((n:Int)<=20000) else false)=false:=by
    rcases hd with rfl|h
    ·simp
    ·simp;omega
   simp only[this,Ar]) f.Blocks.length 0 f.Params.length (G3 _)
 obtain⟨m,h1,h2,h4⟩:=h3;rw[Kk]at h2 h4;unfold C2;rw[show((0:Nat):Int)=0 from rfl]at h1;rw[h1,An]
 congr 1
 apply zzL60.2
 simp only[entF]
 constructor
 ·intro h;exact h4 (by omega)
 ·intro h;have:=h2 h;omega
theorem Sq(n:Int):Be n=some (numB n):=by unfold Be numB;cases decide ((0:Int)<=n)<;>rfl
theorem P9(l:List Int)(h:l.length<=maxLen):Dc l=some (listB l):=by
 unfold Dc;rw[Tt]at h
 have hloop:=Hc l (0:Int) numB (E0 l) (.inl ()) (.inr false) (fun i hi hp=>by
   unfold E0
   have:decide ((i:Int)<(l.length:Int))=true:=by simpa using hi
   simp only[this,Af,Ac (Ap hi),Eo,Sq,An,hp,Df,Ar,A8 hi (by omega)]) (fun i hi hp=>by
   unfold E0
   have:decide ((i:Int)<(l.length:Int))=true:=by simpa using hi
   simp only[this,Af,Ac (Ap hi),Eo,Sq,An,hp,L2]) (by
   unfold E0
   simp) l.length 0 (by omega)
 rw[show(0:Int)=((0:Nat):Int) from rfl,hloop,Kk];unfold listB
 have e:decide ((l.length:Int)<=64)=decide (l.length<=64):=by apply zzL60.2;omega
 cases l.all numB
 ·rfl
 ·simp[e]
theorem rsize_eq(f:TFunc)(hf:InF f):Ig f=some (sizeW f):=by
 unfold Ig
 have hl:=loop_addw f.Blocks (default:Ah) sizeB id (Gn f) (fun n i hi=>by
   have e1:decide ((i:Int)<(f.Blocks.length:Int))=true:=by simpa using hi
   unfold Gn;simp only[e1,Af,Ac (Ap hi),Eo,K4 hi hf.blocks]
   congr 3
   rw[w64_add,w64_add,Int.add_assoc (w64 _),w64_add];unfold sizeB
   congr 1
   omega) (fun n=>by
   unfold Gn
   simp) f.Blocks.length 0 0 (G3 _)
 rw[Kk]at hl;rw[show w64 ((0:Nat):Int)=0 from rfl,show((0:Nat):Int)=0 from rfl]at hl;rw[hl];simp[Su,sizeW]
theorem rmay_eq(f:TFunc)(hf:InF f):G4 f=some (Tu f):=by
 have hloop:Ag (Eb f) ((0:Nat):Int)=some (bif (f.Blocks.drop 0).all blockB then .inl () else .inr false):=by
  have step:∀ i:Nat,i<f.Blocks.length->Eb f (i:Int)=bif blockB (f.Blocks.getD i default) then some (.next ((i:Int)+1)) else some (.done (.inr false)):=fun i hi=>by
   have hmem:=Aw (d:=(default:Ah)) hi;obtain⟨b1,b2,b3⟩:=hf.block _ hmem;have hPh:=hf.phi _ hmem;have hOp:=hf.op _ hmem;have hM:=Tt
   have e0:decide ((i:Int)<(f.Blocks.length:Int))=true:=by simpa using hi
   have l1:=Hc (f.Blocks.getD i default).Phis (default:H1) phiB (Fp f i) (.inl ()) (.inr false) (fun j hj hp=>by
     obtain⟨p1,p2⟩:=hPh _ (Aw (d:=(default:H1)) hj)
     have e1:decide ((j:Int)<((f.Blocks.getD i default).Phis.length:Int))=true:=by simpa using hj
     unfold Fp;simp only[e1,Af,Eo,Ac (Ap hj),Sq,An,P9 _ p1,P9 _ p2,A8 hj (by omega)]
     revert hp
     unfold phiB
     cases numB ((f.Blocks.getD i default).Phis.getD j default).Bits<;>cases numB ((f.Blocks.getD i default).Phis.getD j default).Dst<;>cases listB ((f.Blocks.getD i default).Phis.getD j default).From<;>cases listB ((f.Blocks.getD i default).Phis.getD j default).Args<;>simp) (fun j hj hp=>by
     obtain⟨p1,p2⟩:=hPh _ (Aw (d:=(default:H1)) hj)
     have e1:decide ((j:Int)<((f.Blocks.getD i default).Phis.length:Int))=true:=by simpa using hj
     unfold Fp;simp only[e1,Af,Eo,Ac (Ap hj),Sq,An,P9 _ p1,P9 _ p2,A8 hj (by omega)]
     revert hp
     unfold phiB
     cases numB ((f.Blocks.getD i default).Phis.getD j default).Bits<;>cases numB ((f.Blocks.getD i default).Phis.getD j default).Dst<;>cases listB ((f.Blocks.getD i default).Phis.getD j default).From<;>cases listB ((f.Blocks.getD i default).Phis.getD j default).Args<;>simp) (by
     unfold Fp
     simp) _ 0 (G3 _)
   have l2:=Hc (f.Blocks.getD i default).Ops (default:Dp) opB (Fq f i) (.inl ()) (.inr false) (fun j hj hp=>by
     obtain⟨p1,_⟩:=hOp _ (Aw (d:=(default:Dp)) hj)
     have e1:decide ((j:Int)<((f.Blocks.getD i default).Ops.length:Int))=true:=by simpa using hj
     unfold Fq;simp only[e1,Af,Eo,Ac (Ap hj),Sq,An,P9 _ p1,A8 hj (by omega)]
     revert hp
     unfold opB
     cases numB ((f.Blocks.getD i default).Ops.getD j default).Kind<;>cases numB ((f.Blocks.getD i default).Ops.getD j default).Bits<;>cases numB ((f.Blocks.getD i default).Ops.getD j default).Lanes<;>cases numB ((f.Blocks.getD i default).Ops.getD j default).Dst<;>cases listB ((f.Blocks.getD i default).Ops.getD j default).Args<;>simp) (fun j hj hp=>by
     obtain⟨p1,_⟩:=hOp _ (Aw (d:=(default:Dp)) hj)
     have e1:decide ((j:Int)<((f.Blocks.getD i default).Ops.length:Int))=true:=by simpa using hj
     unfold Fq;simp only[e1,Af,Eo,Ac (Ap hj),Sq,An,P9 _ p1,A8 hj (by omega)]
     revert hp
     unfold opB
     cases numB ((f.Blocks.getD i default).Ops.getD j default).Kind<;>cases numB ((f.Blocks.getD i default).Ops.getD j default).Bits<;>cases numB ((f.Blocks.getD i default).Ops.getD j default).Lanes<;>cases numB ((f.Blocks.getD i default).Ops.getD j default).Dst<;>cases listB ((f.Blocks.getD i default).Ops.getD j default).Args<;>simp) (by
     unfold Fq
     simp) _ 0 (G3 _)
   rw[show((0:Nat):Int)=0 from rfl,Kk]at l1 l2;unfold Eb;simp only[e0,Af,Ac (Ap hi),l1,An];unfold blockB
   cases(f.Blocks.getD i default).Phis.all phiB with
   | false=>rfl
   | true=>
    simp only[Af,l2,An,Eo,Sq,P9 _ b3,A8 hi (by have:=hf.blocks;omega)]
    cases(f.Blocks.getD i default).Ops.all opB with
    | false=>rfl
    | true=>
     unfold endB
     cases numB (f.Blocks.getD i default).End.Kind<;>cases numB (f.Blocks.getD i default).End.Arg<;>cases listB (f.Blocks.getD i default).End.To<;>rfl
  exact Hc f.Blocks (default:Ah) blockB (Eb f) (.inl ()) (.inr false) (fun i hi hp=>by rw[step i hi,hp];rfl) (fun i hi hp=>by rw[step i hi,hp];rfl) (by
   unfold Eb
   simp) _ 0 (G3 _)
 rw[show((0:Nat):Int)=0 from rfl,Kk]at hloop;unfold G4 Tu;simp only[P9 _ hf.params,Sq,rsize_eq f hf,hloop]
 have e1:((f.Blocks.length:Int)==0) = !decide (1<=f.Blocks.length):=by
  rw[<- decide_not]
  by_cases h:f.Blocks.length=0
  ·simp[h]
  ·have h1:((f.Blocks.length:Int)==0)=false:=by simpa using h
   rw[h1];symm;apply C0;omega
 have e2:decide ((64:Int)<(f.Blocks.length:Int)) = !decide (f.Blocks.length<=64):=by rw[<- decide_not];apply zzL60.2;omega
 have e3:decide ((16:Int)<(f.Params.length:Int)) = !decide (f.Params.length<=16):=by rw[<- decide_not];apply zzL60.2;omega
 have e4:decide ((512:Int)<sizeW f) = !decide (sizeW f<=512):=by rw[<- decide_not];apply zzL60.2;omega
 rw[e1,e2,e3]
 generalize decide (1<=f.Blocks.length)=p1
 generalize decide (f.Blocks.length<=64)=p2
 generalize decide (f.Params.length<=16)=p3
 generalize listB f.Params=p4
 generalize numB f.Ret=p5
 cases p1 with
 | false=>simp
 | true=>cases p2 with
  | false=>simp
  | true=>cases p3 with
   | false=>simp
   | true=>cases p4 with
    | false=>simp
    | true=>cases p5 with
     | false=>simp
     | true=>
      simp only[Df,Bool.or_self,Af,Ar,Qo,An,e4]
      cases decide (sizeW f<=512) with
      | false=>simp
      | true=>cases f.Blocks.all blockB<;>simp
theorem numB_iff{n:Int}:numB n=true↔0<=n/\n<=2147483647:=by simp[numB]
theorem listB_iff{l:List Int}:listB l=true↔good31 l/\l.length<=64:=by
 simp[listB,good31,numB_iff]
def wideP(n:Int):Prop:=0<=n/\n<18446744073709551616
structure OkB(b:Ah):Prop where
 may:blockB b=true
 phis:b.Phis.length<=512
 ops:b.Ops.length<=512
 imm:∀ o∈b.Ops,wideP o.Imm
structure OkF(f:TFunc):Prop where
 params:listB f.Params=true
 few:f.Params.length<=16
 ret:numB f.Ret=true
 blocks:f.Blocks.length<=64
 block:∀ b∈f.Blocks,OkB b
theorem blockB_iff{b:Ah}:blockB b=true↔(∀ p∈b.Phis,phiB p=true)/\(∀ o∈b.Ops,opB o=true)/\endB b.End=true:=by
 simp[blockB,and_assoc]
theorem sum_le{α:Type}(l:List α)(g:α->Nat)(B:Nat)(h:∀ a∈l,g a<=B):(l.map g).sum<=l.length*B:=by
 induction l with
 | nil=>simp
 | cons a l ih=>
  have h1:=h a (by simp);have h2:=ih (fun b hb=>h b (by simp[hb]));rw[Cm,Vk,Yo,Ey];omega
theorem sum_mono{α:Type}(l:List α)(g k:α->Nat)(h:∀ a∈l,g a<=k a):(l.map g).sum<=(l.map k).sum:=by
 induction l with
 | nil=>simp
 | cons a l ih=>
  have h1:=h a (by simp);have h2:=ih (fun b hb=>h b (by simp[hb]));rw[Cm,Vk,Cm,Vk];omega
theorem len_le_sum{α:Type}(l:List α)(g:α->Nat)(h:∀ a∈l,1<=g a):l.length<=(l.map g).sum:=by
 induction l with
 | nil=>simp
 | cons a l ih=>
  have h1:=h a (by simp);have h2:=ih (fun b hb=>h b (by simp[hb]));rw[Cm,Vk,Yo];omega
theorem mem_le_sum{α:Type}{l:List α}{a:α}(g:α->Nat)(h:a∈l):g a<=(l.map g).sum:=by
 induction l with
 | nil=>cases h
 | cons b l ih=>
  rw[Cm,Vk];rcases zzL29.1 h with rfl|h
  ·omega
  ·have:=ih h;omega
theorem OkF.size{f:TFunc}(h:OkF f):Su f<=65600/\sizeW f=Su f:=by
 have:Su f<=f.Blocks.length*1025:=sum_le _ _ _ fun b hb=>by
  have h1:=(h.block b hb).phis;have h2:=(h.block b hb).ops;simp only[sizeB];omega
 have h2:=h.blocks
 have h3:Su f<=65600:=by omega
 exact⟨h3,w64_nat (by omega)⟩
theorem may_parts{f:TFunc}(h:Tu f=true):1<=f.Blocks.length/\f.Blocks.length<=64/\f.Params.length<=16/\listB f.Params=true/\numB f.Ret=true/\sizeW f<=512/\∀ b∈f.Blocks,blockB b=true:=by
 simp only[Tu,Bc,Jd,zzL30]at h;exact⟨h.1.1.1.1.1.1,h.1.1.1.1.1.2,h.1.1.1.1.2,h.1.1.1.2,h.1.1.2,h.1.2,h.2⟩
theorem may_lists{f:TFunc}(h:Tu f=true):f.Params.length<=64/\∀ b∈f.Blocks,b.End.To.length<=64/\(∀ p∈b.Phis,p.From.length<=64/\p.Args.length<=64)/\∀ o∈b.Ops,o.Args.length<=64:=by
 obtain⟨_,_,h3,_,_,_,h7⟩:=may_parts h;refine⟨by omega,fun b hb=>?_⟩;obtain⟨q1,q2,q3⟩:=blockB_iff.1 (h7 b hb);simp only[endB,Bc]at q3;refine⟨(listB_iff.1 q3.2).2,fun p hp=>?_,fun o ho=>?_⟩
 ·have:=q1 p hp;simp only[phiB,Bc]at this;exact⟨(listB_iff.1 this.1.2).2,(listB_iff.1 this.2).2⟩
 ·have:=q2 o ho;simp only[opB,Bc]at this;exact(listB_iff.1 this.2).2
theorem may_ok{f:TFunc}(hf:InF f)(h:Tu f=true)(hs:entF f<=20000):OkF f/\Su f<=512:=by
 obtain⟨h1,h2,h3,h4,h5,h6,h7⟩:=may_parts h
 have hle:Su f<=entF f:=by
  have:Su f<=(f.Blocks.map entB).sum:=sum_mono _ _ _ fun b hb=>by
   have q1:b.Phis.length<=(b.Phis.map entP).sum:=len_le_sum _ _ fun p hp=>by simp only[entP];omega
   have q2:b.Ops.length<=(b.Ops.map entO).sum:=len_le_sum _ _ fun p hp=>by simp only[entO];omega
   simp only[sizeB,entB];omega
  simp only[entF];omega
 have hw:sizeW f=Su f:=w64_nat (by omega)
 have h512:Su f<=512:=by omega
 refine⟨⟨h4,h3,h5,h2,fun b hb=>?_⟩,h512⟩;have hb512:sizeB b<=Su f:=mem_le_sum sizeB hb;simp only[sizeB]at hb512;exact⟨h7 b hb,by omega,by omega,fun o ho=>(hf.op b hb o ho).2⟩
theorem small_parts(f:TFunc)(hf:InF f):∃ sm,C2 f=some sm/\(sm=true->Tu f=true->OkF f/\Su f<=512/\1<=f.Blocks.length):=by
 obtain⟨sm,h⟩:=small_some f hf;refine⟨sm,h,fun h1 h2=>?_⟩;obtain⟨q1,q2⟩:=may_lists h2;rw[small_eq f hf q1 q2]at h;subst h1;obtain⟨r1,r2⟩:=may_ok hf h2 (by simpa using OI h);exact⟨r1,r2,(may_parts h2).1⟩
def levMost(l:Int):Int:=bif l==0 then 17 else bif l==1 then 20 else 22
def M3(l:Int)(o:Dp):Bool:=La o&&!decide (levMost l<o.Kind)&&!(decide (l<2)&&decide (1<o.Lanes))
def Hq(l:Int)(b:Ah):Bool:=(b.Phis.all fun p=>widthB p.Bits)&&b.Ops.all (M3 l)
def Te(f:TFunc)(l:Int):Bool:=f.Params.all widthB&&f.Blocks.all (Hq l)&&widthB f.Ret
theorem opT_aux{m a b c:Bool}{x:Int}:(bif (bif (bif (!m) then true else a) then true else(bif b then c else false)) then(some (LR.done (Sum.inr false))) else some (LR.next x):Option (LR Int (Unit ⊕ Bool)))=some (bif (m&&!a&&!(b&&c)) then .next x else .done (.inr false)):=by
 cases m<;>cases a<;>cases b<;>cases c<;>rfl
theorem opOk{f:TFunc}(hf:OkF f){b:Ah}(hb:b∈f.Blocks){o:Dp}(ho:o∈b.Ops):OpOk o:=by
 have h1:=hf.block b hb;have h2:=(blockB_iff.1 h1.may).2.1 o ho;simp only[opB,Bc]at h2;exact⟨⟨(h1.imm o ho).1,(h1.imm o ho).2⟩,by have:=(listB_iff.1 h2.2).2;omega⟩
theorem m_typed{f:TFunc}(hf:OkF f)(l:Int):Hm f l=some (Te f l):=by
 have hp:=Hc f.Params (0:Int) widthB (Ek f) (.inl ()) (.inr false) (fun i hi hp=>by
   unfold Ek
   have:decide ((i:Int)<(f.Params.length:Int))=true:=by simpa using hi
   simp only[this,Af,Ac (Ap hi),Eo,P8,An,hp,Df,Ar,A8 hi (by have:=hf.few;omega)]) (fun i hi hp=>by
   unfold Ek
   have:decide ((i:Int)<(f.Params.length:Int))=true:=by simpa using hi
   simp only[this,Af,Ac (Ap hi),Eo,P8,An,hp,L2]) (by
   unfold Ek;simp) f.Params.length 0 (by omega)
 have hb:=Hc f.Blocks (default:Ah) (Hq l) (El f l) (.inl ()) (.inr false)
 have hphi:∀ i:Nat,i<f.Blocks.length->Ag (Dm f (i:Int)) (0:Int)=some (bif ((f.Blocks.getD i default).Phis.all fun p=>widthB p.Bits) then .inl () else .inr false):=fun i hi=>by
  have hB:=hf.block _ (Aw (d:=(default:Ah)) hi)
  have:=Hc (f.Blocks.getD i default).Phis (default:H1) (fun p=>widthB p.Bits) (Dm f (i:Int)) (.inl ()) (.inr false) (fun j hj hp=>by
   unfold Dm
   have:decide ((j:Int)<((f.Blocks.getD i default).Phis.length:Int))=true:=by simpa using hj
   simp only[Ac (Ap hi),Eo,this,Af,Ac (Ap hj),P8,An,hp,Df,Ar,A8 hj (by have:=hB.phis;omega)]) (fun j hj hp=>by
   unfold Dm
   have:decide ((j:Int)<((f.Blocks.getD i default).Phis.length:Int))=true:=by simpa using hj
   simp only[Ac (Ap hi),Eo,this,Af,Ac (Ap hj),P8,An,hp,L2]) (by
   unfold Dm;simp[Ac (Ap hi)]) (f.Blocks.getD i default).Phis.length 0 (by omega)
  rw[show(0:Int)=((0:Nat):Int) from rfl,this,Kk]
 have hops:∀ i:Nat,i<f.Blocks.length->Ag (Dn f l (i:Int)) (0:Int)=some (bif (f.Blocks.getD i default).Ops.all (M3 l) then .inl () else .inr false):=fun i hi=>by
  have hmem:=Aw (d:=(default:Ah)) hi;have hB:=hf.block _ hmem
  have key:∀(j:Nat),j<(f.Blocks.getD i default).Ops.length->Dn f l (i:Int) (j:Int)=some (bif M3 l ((f.Blocks.getD i default).Ops.getD j default) then .next ((j:Int)+1) else .done (.inr false)):=fun j hj=>by
   unfold Dn
   have hd:decide ((j:Int)<((f.Blocks.getD i default).Ops.length:Int))=true:=by simpa using hj
   have hok:=opOk hf hmem (Aw (d:=(default:Dp)) hj);simp only[Ac (Ap hi),Eo,hd,Af,Ac (Ap hj),A8 hj (by have:=hB.ops;omega)];unfold M3 levMost;cases h1:(l==1)<;>cases h0:(l==0)<;>simp only[Af,Ar,An,ref_May _ hok,opT_aux]
  have:=Hc (f.Blocks.getD i default).Ops (default:Dp) (M3 l) (Dn f l (i:Int)) (.inl ()) (.inr false) (fun j hj hp=>by rw[key j hj,hp];rfl) (fun j hj hp=>by rw[key j hj,hp];rfl) (by
   unfold Dn;simp[Ac (Ap hi)]) (f.Blocks.getD i default).Ops.length 0 (by omega)
  rw[show(0:Int)=((0:Nat):Int) from rfl,this,Kk]
 have hb':=hb (fun i hi hp=>by
   unfold El
   have:decide ((i:Int)<(f.Blocks.length:Int))=true:=by simpa using hi
   simp only[Hq,Bc]at hp
   simp only[this,Af,hphi i hi,hops i hi,hp.1,hp.2,An,A8 hi (by have:=hf.blocks;omega)]) (fun i hi hp=>by
   unfold El
   have:decide ((i:Int)<(f.Blocks.length:Int))=true:=by simpa using hi
   simp only[Hq]at hp;simp only[this,Af,hphi i hi,hops i hi,An]
   cases h1:((f.Blocks.getD i default).Phis.all fun p=>widthB p.Bits) with
   | false=>rfl
   | true=>rw[h1,F8]at hp;simp only[Af,hp,Ar,An]) (by
   unfold El;simp) f.Blocks.length 0 (by omega)
 unfold Hm Te;rw[show(0:Int)=((0:Nat):Int) from rfl,hp,hb',Kk,Kk]
 cases f.Params.all widthB<;>cases f.Blocks.all (Hq l)<;>simp[P8]
theorem room_is:room=1099511627776:=rfl
theorem Kq{β:Type}(n A C:Nat)(E:Nat->List β)(hE:∀ i,i<n->(E i).length<=C)(f:List β×Int->Option (LR (List β×Int) (List β)))
  (hn:∀(acc:List β) (i:Nat),i<n->acc.length<=A+i*C->f (acc,(i:Int))=some (.next (acc++E i,(i:Int)+1)))
  (hd:∀ acc:List β,f (acc,(n:Int))=some (.done acc)):∀(k i:Nat) (acc:List β),i+k=n->acc.length<=A+i*C->Ag f (acc,(i:Int))=some (acc++(List.range' i k).flatMap E)
 | 0,i,acc,h,_=>by
  obtain rfl:i=n:=by omega
  rw[Ao (hd acc)]
  simp
 | k+1,i,acc,h,hA=>by
  have hi:i<n:=by omega
  have h1:=hE i hi
  have h2:acc.length+C<=A+(i+1)*C:=by rw[Ey];omega
  rw[Ay (hn acc i hi hA),show((i:Int)+1)=((i+1:Nat):Int) by omega,Kq n A C E hE f hn hd k (i+1) _ (by omega) (by rw[Fh];omega),Yn,zzL95,zzL112]
theorem I8{β:Type}(C:Nat)(E:Nat->List β):∀ l:List Nat,(∀ i∈l,(E i).length<=C)->(l.flatMap E).length<=l.length*C
 | [],_=>by simp
 | a::l,h=>by
  have h1:=h a (by simp);have h2:=I8 C E l (fun i hi=>h i (by simp[hi]));rw[zzL95,Fh,Yo,Ey];omega
def Kn(l:List Bv)(v:Int):Int:=match l.findIdx? (fun d=>d.V==v) with|some i=>(i:Int)|none=>-1
theorem m_find(l:List Bv)(v:Int)(hl:l.length<=1000000):D8 l v=some (Kn l v):=by
 have key:∀(k i:Nat),i+k=l.length->Ag (E3 l v) (i:Int)=some (match(l.drop i).findIdx? (fun d=>d.V==v) with|some j=>.inr ((i+j:Nat):Int)|none=>.inl ()):=by
  intro k
  induction k with
  | zero=>
   intro i h
   obtain rfl:i=l.length:=by omega
   rw[Ao (x:=.inl ()) (by unfold E3;simp)]
   simp
  | succ k ih=>
   intro i h
   have hi:i<l.length:=by omega
   have hdr:l.drop i=l.getD i default::l.drop (i+1):=by rw[Ym hi,Ai _ _ _ hi]
   have hd:decide ((i:Int)<(l.length:Int))=true:=by simpa using hi
   rw[hdr,List.findIdx?_cons]
   cases hb:(l.getD i default).V==v with
   | true=>
    rw[Ao (x:=.inr (i:Int)) (by unfold E3;simp only[hd,Af,Ac (Ap hi),Eo,hb])]
    simp
   | false=>
    rw[Ay (s':=((i+1:Nat):Int)) (by unfold E3;simp only[hd,Af,Ac (Ap hi),Eo,hb,Ar,A8 hi (by omega)];rfl),ih (i+1) (by omega)]
    cases(l.drop (i+1)).findIdx? (fun d=>d.V==v) with
    | none=>simp
    | some j=>simp;omega
 unfold D8 Kn;rw[show(0:Int)=((0:Nat):Int) from rfl,key l.length 0 (by omega),Kk]
 cases l.findIdx? (fun d=>d.V==v) with
 | none=>rfl
 | some j=>simp
def Kp(o:Dp):Int×Int:=bif La o then givesS o.Kind o.Bits o.Lanes else(0,0)
def Im(o:Dp):List (Int×Int):=bif La o then Vh o else[]
def Ob(f:TFunc):List Bv:=(List.range f.Params.length).flatMap fun(i:Nat)=>[⟨(i:Int)+1,-1,0,(f.Params.getD i 0,1)⟩]
def Pw(b:Ah)(i:Nat):List Bv:=(List.range b.Phis.length).flatMap fun(k:Nat)=>[⟨(b.Phis.getD k default).Dst,i,-1,((b.Phis.getD k default).Bits,1)⟩]
def Xd(b:Ah)(i:Nat):List Bv:=(List.range b.Ops.length).flatMap fun(k:Nat)=>bif decide (0<(Kp (b.Ops.getD k default)).1) then[⟨(b.Ops.getD k default).Dst,i,k,Kp (b.Ops.getD k default)⟩] else[]
def Nl(b:Ah)(i:Nat):List Bv:=Pw b i++Xd b i
def A2(f:TFunc):List Bv:=Ob f++(List.range f.Blocks.length).flatMap fun i=>Nl (f.Blocks.getD i default) i
theorem defsPhi_len(b:Ah)(i:Nat):(Pw b i).length<=b.Phis.length:=by
 have:=I8 1 (fun(k:Nat)=>[(⟨(b.Phis.getD k default).Dst,i,-1,((b.Phis.getD k default).Bits,1)⟩:Bv)]) (List.range b.Phis.length) (fun _ _=>zzL9 _)
 simpa [Pw] using this
theorem defsOp_len(b:Ah)(i:Nat):(Xd b i).length<=b.Ops.length:=by
 have:=I8 1 (fun(k:Nat)=>bif decide (0<(Kp (b.Ops.getD k default)).1) then[(⟨(b.Ops.getD k default).Dst,i,k,Kp (b.Ops.getD k default)⟩:Bv)] else[]) (List.range b.Ops.length) (fun k _=>by cases decide (0<(Kp (b.Ops.getD k default)).1)<;>simp)
 simpa [Xd] using this
theorem defsB_len{f:TFunc}(hf:OkF f){i:Nat}(hi:i<f.Blocks.length):(Nl (f.Blocks.getD i default) i).length<=1024:=by
 have hB:=hf.block _ (Aw (d:=(default:Ah)) hi);have h1:=defsPhi_len (f.Blocks.getD i default) i;have h2:=defsOp_len (f.Blocks.getD i default) i;have h3:=hB.phis;have h4:=hB.ops;rw[Nl,Fh];omega
theorem Yx(f:TFunc):(Ob f).length=f.Params.length:=by
 have h:∀ l:List Nat,(l.map fun _=>1).sum=l.length:=fun l=>by induction l with|nil=>rfl|cons a l ih=>simp[ih];omega
 simp[Ob,List.length_flatMap,h]
theorem defsF_len{f:TFunc}(hf:OkF f):(A2 f).length<=100000:=by
 have h1:=I8 1024 (fun i=>Nl (f.Blocks.getD i default) i) (List.range f.Blocks.length) (fun i hi=>defsB_len hf (by simpa using hi));have h2:=Yx f;have h3:=hf.few;have h4:=hf.blocks;rw[zzL113]at h1;have:f.Blocks.length*1024<=64*1024:=E9 _ h4;rw[A2,Fh];omega
theorem m_defs{f:TFunc}(hf:OkF f):Ik f=some (A2 f):=by
 have hp:=Kq f.Params.length 0 1 (fun(i:Nat)=>[(⟨(i:Int)+1,-1,0,(f.Params.getD i 0,1)⟩:Bv)]) (fun _ _=>zzL9 _) (Gs f) (fun acc i hi hA=>by
   unfold Gs
   have hd:decide ((i:Int)<(f.Params.length:Int))=true:=by simpa using hi
   have hr:acc.length+([(⟨(i:Int)+1,(-1:Int),(0:Int),((f.Params.getD i 0),(1:Int))⟩:Bv)]:List (Bv)).length<=room:=by have:=hf.few;rw[room_is];simp;omega
   simp only[hd,Af,Ac (Ap hi),Eo,A8 hi (by have:=hf.few;omega),Ac hr]) (fun acc=>by unfold Gs;simp) f.Params.length 0 [] (by omega) (by simp)
 have hphi:∀(i:Nat),i<f.Blocks.length->∀ acc:List Bv,acc.length<=100000->Ag (E1 f (i:Int)) (acc,(0:Int))=some (acc++Pw (f.Blocks.getD i default) i):=fun i hi acc hacc=>by
  have hB:=hf.block _ (Aw (d:=(default:Ah)) hi)
  have:=Kq (f.Blocks.getD i default).Phis.length 100000 1 (fun(k:Nat)=>[(⟨((f.Blocks.getD i default).Phis.getD k default).Dst,i,-1,(((f.Blocks.getD i default).Phis.getD k default).Bits,1)⟩:Bv)]) (fun _ _=>zzL9 _) (E1 f (i:Int)) (fun acc k hk hA=>by
   unfold E1
   have hd:decide ((k:Int)<((f.Blocks.getD i default).Phis.length:Int))=true:=by simpa using hk
   have hr:∀ x:Bv,acc.length+([x]:List Bv).length<=room:=fun x=>by have:=hB.phis;rw[room_is];simp;omega
   simp only[Eo,hd,Af,Ac (Ap hk),A8 hk (by have:=hB.phis;omega),Ac (hr _)]) (fun acc=>by unfold E1;simp) (f.Blocks.getD i default).Phis.length 0 acc (by omega) (by omega)
  rw[show(0:Int)=((0:Nat):Int) from rfl,this,Pw,Pg]
 have hop:∀(i:Nat),i<f.Blocks.length->∀ acc:List Bv,acc.length<=100000->Ag (E2 f (i:Int)) (acc,(0:Int))=some (acc++Xd (f.Blocks.getD i default) i):=fun i hi acc hacc=>by
  have hmem:=Aw (d:=(default:Ah)) hi;have hB:=hf.block _ hmem
  have:=Kq (f.Blocks.getD i default).Ops.length 100000 1 (fun(k:Nat)=>bif decide (0<(Kp ((f.Blocks.getD i default).Ops.getD k default)).1) then[(⟨((f.Blocks.getD i default).Ops.getD k default).Dst,i,k,Kp ((f.Blocks.getD i default).Ops.getD k default)⟩:Bv)] else[]) (fun k _=>by cases decide (0<(Kp ((f.Blocks.getD i default).Ops.getD k default)).1)<;>simp) (E2 f (i:Int)) (fun acc k hk hA=>by
   unfold E2;have hok:=opOk hf hmem (Aw (d:=(default:Dp)) hk)
   have hd:decide ((k:Int)<((f.Blocks.getD i default).Ops.length:Int))=true:=by simpa using hk
   have hr:∀ x:Bv,acc.length+([x]:List Bv).length<=room:=fun x=>by have:=hB.ops;rw[room_is];simp;omega
   have hg:F4 ((f.Blocks.getD i default).Ops.getD k default)=some (Kp ((f.Blocks.getD i default).Ops.getD k default)):=ref_Gives _ hok;simp only[Eo,hd,Af,Ac (Ap hk),hg,An,A8 hk (by have:=hB.ops;omega),Ac (hr _)]
   cases decide (0<(Kp ((f.Blocks.getD i default).Ops.getD k default)).1)<;>simp) (fun acc=>by unfold E2;simp) (f.Blocks.getD i default).Ops.length 0 acc (by omega) (by omega)
  rw[show(0:Int)=((0:Nat):Int) from rfl,this,Xd,Pg]
 have hb:=Kq f.Blocks.length 16 1024 (fun i=>Nl (f.Blocks.getD i default) i) (fun i hi=>defsB_len hf hi) (Gt f) (fun acc i hi hA=>by
   unfold Gt
   have hd:decide ((i:Int)<(f.Blocks.length:Int))=true:=by simpa using hi
   have hB:=hf.block _ (Aw (d:=(default:Ah)) hi);have h64:=hf.blocks;have h1:i*1024<=64*1024:=E9 _ (by omega);have h2:=defsPhi_len (f.Blocks.getD i default) i;have h3:=hB.phis
   simp only[hd,Af,Ac (Ap hi),hphi i hi acc (by omega),An,hop i hi (acc++Pw (f.Blocks.getD i default) i) (by rw[Fh];omega),A8 hi (by omega),Nl,zzL112]) (fun acc=>by unfold Gt;simp) f.Blocks.length 0 (Ob f) (by omega) (by have:=Yx f;have:=hf.few;omega)
 unfold Ik;rw[show(0:Int)=((0:Nat):Int) from rfl,hp,An,Sx]
 have e:(List.range' 0 f.Params.length).flatMap (fun(i:Nat)=>[(⟨(i:Int)+1,-1,0,(f.Params.getD i 0,1)⟩:Bv)])=Ob f:=by rw[Ob,Pg]
 rw[e,hb,An,A2,Pg]
def Mt(p:H1):List Ck:=(List.range p.Args.length).flatMap fun(j:Nat)=>[⟨p.Args.getD j 0,p.From.getD j 0,1000,(p.Bits,1)⟩]
def M6(b:Ah):List Ck:=(List.range b.Phis.length).flatMap fun(k:Nat)=>Mt (b.Phis.getD k default)
def O8(o:Dp)(i k:Nat):List Ck:=(List.range (Im o).length).flatMap fun(j:Nat)=>[⟨o.Args.getD j 0,i,k,(Im o).getD j (0,0)⟩]
def R5(b:Ah)(i:Nat):List Ck:=(List.range b.Ops.length).flatMap fun(k:Nat)=>O8 (b.Ops.getD k default) i k
def Zd(f:TFunc)(b:Ah)(i:Nat):List Ck:=(bif b.End.Kind==0 then[⟨b.End.Arg,i,1000,(f.Ret,1)⟩] else[])++(bif b.End.Kind==2 then[⟨b.End.Arg,i,1000,(1,1)⟩] else[])
def usesB(f:TFunc)(b:Ah)(i:Nat):List Ck:=M6 b++R5 b i++Zd f b i
def B5(f:TFunc):List Ck:=(List.range f.Blocks.length).flatMap fun(i:Nat)=>usesB f (f.Blocks.getD i default) i
theorem Vg{o:Dp}(h:o.Args.length<=64):(Im o).length<=64/\(Im o).length<=o.Args.length:=by
 unfold Im
 cases hm:La o with
 | false=>simp
 | true=>
  simp only[Af]
  have:((o.Args.length:Int)==Ns o.Kind o.Lanes)=true:=by
   simp only[La,Bc]at hm;exact hm.1.2.2
  have h2:(o.Args.length:Int)=Ns o.Kind o.Lanes:=by simpa using this
  have h3:(Vh o).length=o.Args.length:=by rw[Vh,T9,zzL113,<- h2,Eo]
  omega
theorem ok_phi{f:TFunc}(hf:OkF f){b:Ah}(hb:b∈f.Blocks){p:H1}(hp:p∈b.Phis):p.From.length<=64/\p.Args.length<=64:=by
 have:=(blockB_iff.1 (hf.block b hb).may).1 p hp;simp only[phiB,Bc]at this;exact⟨(listB_iff.1 this.1.2).2,(listB_iff.1 this.2).2⟩
theorem ok_op{f:TFunc}(hf:OkF f){b:Ah}(hb:b∈f.Blocks){o:Dp}(ho:o∈b.Ops):o.Args.length<=64:=by
 have:=(blockB_iff.1 (hf.block b hb).may).2.1 o ho;simp only[opB,Bc]at this;exact(listB_iff.1 this.2).2
theorem usesPhi1_len(p:H1):(Mt p).length<=p.Args.length:=by
 have:=I8 1 (fun(j:Nat)=>[(⟨p.Args.getD j 0,p.From.getD j 0,1000,(p.Bits,1)⟩:Ck)]) (List.range p.Args.length) (fun _ _=>zzL9 _)
 simpa [Mt] using this
theorem usesOp1_len(o:Dp)(i k:Nat):(O8 o i k).length<=(Im o).length:=by
 have:=I8 1 (fun(j:Nat)=>[(⟨o.Args.getD j 0,i,k,(Im o).getD j (0,0)⟩:Ck)]) (List.range (Im o).length) (fun _ _=>zzL9 _)
 simpa [O8] using this
theorem usesPhi_len{f:TFunc}(hf:OkF f){b:Ah}(hb:b∈f.Blocks):(M6 b).length<=32768:=by
 have:=I8 64 (fun(k:Nat)=>Mt (b.Phis.getD k default)) (List.range b.Phis.length) (fun k hk=>by
  have h1:=usesPhi1_len (b.Phis.getD k default);have h2:=(ok_phi hf hb (Aw (d:=(default:H1)) (by simpa using hk))).2
  omega)
 have h3:=(hf.block b hb).phis;rw[zzL113]at this;have h4:b.Phis.length*64<=512*64:=E9 _ h3;rw[M6];omega
theorem usesOp_len{f:TFunc}(hf:OkF f){b:Ah}(hb:b∈f.Blocks)(i:Nat):(R5 b i).length<=32768:=by
 have:=I8 64 (fun(k:Nat)=>O8 (b.Ops.getD k default) i k) (List.range b.Ops.length) (fun k hk=>by
  have h1:=usesOp1_len (b.Ops.getD k default) i k;have h2:=(Vg (ok_op hf hb (Aw (d:=(default:Dp)) (by simpa using hk)))).1
  omega)
 have h3:=(hf.block b hb).ops;rw[zzL113]at this;have h4:b.Ops.length*64<=512*64:=E9 _ h3;rw[R5];omega
theorem usesEnd_len(f:TFunc)(b:Ah)(i:Nat):(Zd f b i).length<=2:=by
 unfold Zd
 cases b.End.Kind==0<;>cases b.End.Kind==2<;>simp
theorem usesB_len{f:TFunc}(hf:OkF f){i:Nat}(hi:i<f.Blocks.length):(usesB f (f.Blocks.getD i default) i).length<=70000:=by
 have hmem:=Aw (d:=(default:Ah)) hi;have h1:=usesPhi_len hf hmem;have h2:=usesOp_len hf hmem i;have h3:=usesEnd_len f (f.Blocks.getD i default) i;rw[usesB,Fh,Fh];omega
theorem usesF_len{f:TFunc}(hf:OkF f):(B5 f).length<=4480000:=by
 have h1:=I8 70000 (fun(i:Nat)=>usesB f (f.Blocks.getD i default) i) (List.range f.Blocks.length) (fun i hi=>usesB_len hf (by simpa using hi));have h4:=hf.blocks;rw[zzL113]at h1;have:f.Blocks.length*70000<=64*70000:=E9 _ h4;rw[B5];omega
def phisFit(f:TFunc):Prop:=∀ b∈f.Blocks,∀ p∈b.Phis,p.Args.length<=p.From.length
theorem m_uses{f:TFunc}(hf:OkF f)(hp:phisFit f):Il f=some (B5 f):=by
 have hbig:∀{n:Nat},n<=100000000->∀ x:Ck,n+([x]:List Ck).length<=room:=fun{n} h x=>by rw[room_is];simp;omega
 have h1:∀(i:Nat),i<f.Blocks.length->∀(k:Nat),k<(f.Blocks.getD i default).Phis.length->∀ acc:List Ck,acc.length<=50000000->Ag (E4 f (i:Int) (k:Int)) (acc,(0:Int))=some (acc++Mt ((f.Blocks.getD i default).Phis.getD k default)):=fun i hi k hk acc hacc=>by
  have hmem:=Aw (d:=(default:Ah)) hi;have hpm:=Aw (d:=(default:H1)) hk;have hlen:=ok_phi hf hmem hpm;have hfit:=hp _ hmem _ hpm
  have:=Kq ((f.Blocks.getD i default).Phis.getD k default).Args.length 50000000 1 (fun(j:Nat)=>[(⟨((f.Blocks.getD i default).Phis.getD k default).Args.getD j 0,((f.Blocks.getD i default).Phis.getD k default).From.getD j 0,1000,(((f.Blocks.getD i default).Phis.getD k default).Bits,1)⟩:Ck)]) (fun _ _=>zzL9 _) (E4 f (i:Int) (k:Int)) (fun acc j hj hA=>by
   unfold E4
   have hd:decide ((j:Int)<(((f.Blocks.getD i default).Phis.getD k default).Args.length:Int))=true:=by simpa using hj
   simp only[Eo,hd,Af,Ac (Ap hj),Ac (Ap (Nat.lt_of_lt_of_le hj hfit)),A8 hj (by omega),Ac (hbig (n:=acc.length) (by omega) _)]) (fun acc=>by unfold E4;simp) ((f.Blocks.getD i default).Phis.getD k default).Args.length 0 acc (by omega) (by omega)
  rw[show(0:Int)=((0:Nat):Int) from rfl,this,Mt,Pg]
 have h2:∀(i:Nat),i<f.Blocks.length->∀ acc:List Ck,acc.length<=40000000->Ag (E5 f (i:Int)) (acc,(0:Int))=some (acc++M6 (f.Blocks.getD i default)):=fun i hi acc hacc=>by
  have hmem:=Aw (d:=(default:Ah)) hi;have hB:=hf.block _ hmem
  have:=Kq (f.Blocks.getD i default).Phis.length 40000000 64 (fun(k:Nat)=>Mt ((f.Blocks.getD i default).Phis.getD k default)) (fun k hk=>by have:=usesPhi1_len ((f.Blocks.getD i default).Phis.getD k default);have:=(ok_phi hf hmem (Aw (d:=(default:H1)) hk)).2;omega) (E5 f (i:Int)) (fun acc k hk hA=>by
   unfold E5
   have hd:decide ((k:Int)<((f.Blocks.getD i default).Phis.length:Int))=true:=by simpa using hk
   have h5:=hB.phis;have h6:k*64<=512*64:=E9 _ (by omega)
   simp only[Eo,hd,Af,Ac (Ap hk),h1 i hi k hk acc (by omega),An,A8 hk (by omega)]) (fun acc=>by unfold E5;simp) (f.Blocks.getD i default).Phis.length 0 acc (by omega) (by omega)
  rw[show(0:Int)=((0:Nat):Int) from rfl,this,M6,Pg]
 have h3:∀(i:Nat),i<f.Blocks.length->∀(k:Nat),k<(f.Blocks.getD i default).Ops.length->∀ acc:List Ck,acc.length<=50000000->Ag (E6 f (i:Int) (k:Int) (Im ((f.Blocks.getD i default).Ops.getD k default))) (acc,(0:Int))=some (acc++O8 ((f.Blocks.getD i default).Ops.getD k default) i k):=fun i hi k hk acc hacc=>by
  have hmem:=Aw (d:=(default:Ah)) hi;have hom:=Aw (d:=(default:Dp)) hk;have hlen:=Vg (ok_op hf hmem hom)
  have:=Kq (Im ((f.Blocks.getD i default).Ops.getD k default)).length 50000000 1 (fun(j:Nat)=>[(⟨((f.Blocks.getD i default).Ops.getD k default).Args.getD j 0,i,k,(Im ((f.Blocks.getD i default).Ops.getD k default)).getD j (0,0)⟩:Ck)]) (fun _ _=>zzL9 _) (E6 f (i:Int) (k:Int) (Im ((f.Blocks.getD i default).Ops.getD k default))) (fun acc j hj hA=>by
   unfold E6
   have hd:decide ((j:Int)<((Im ((f.Blocks.getD i default).Ops.getD k default)).length:Int))=true:=by simpa using hj
   simp only[Eo,hd,Af,Ac (Ap hk),Ac (Ap hj),Ac (Ap (Nat.lt_of_lt_of_le hj hlen.2)),A8 hj (by omega),Ac (hbig (n:=acc.length) (by omega) _)]) (fun acc=>by unfold E6;simp) (Im ((f.Blocks.getD i default).Ops.getD k default)).length 0 acc (by omega) (by omega)
  rw[show(0:Int)=((0:Nat):Int) from rfl,this,O8,Pg]
 have h4:∀(i:Nat),i<f.Blocks.length->∀ acc:List Ck,acc.length<=40000000->Ag (E7 f (i:Int)) (acc,(0:Int))=some (acc++R5 (f.Blocks.getD i default) i):=fun i hi acc hacc=>by
  have hmem:=Aw (d:=(default:Ah)) hi;have hB:=hf.block _ hmem
  have:=Kq (f.Blocks.getD i default).Ops.length 40000000 64 (fun(k:Nat)=>O8 ((f.Blocks.getD i default).Ops.getD k default) i k) (fun k hk=>by have:=usesOp1_len ((f.Blocks.getD i default).Ops.getD k default) i k;have:=(Vg (ok_op hf hmem (Aw (d:=(default:Dp)) hk))).1;omega) (E7 f (i:Int)) (fun acc k hk hA=>by
   unfold E7
   have hd:decide ((k:Int)<((f.Blocks.getD i default).Ops.length:Int))=true:=by simpa using hk
   have h5:=hB.ops;have h6:k*64<=512*64:=E9 _ (by omega);have ht:F5 ((f.Blocks.getD i default).Ops.getD k default)=some (Im ((f.Blocks.getD i default).Ops.getD k default)):=ref_Takes _ (opOk hf hmem (Aw (d:=(default:Dp)) hk))
   simp only[Eo,hd,Af,Ac (Ap hk),ht,An,h3 i hi k hk acc (by omega),A8 hk (by omega)]) (fun acc=>by unfold E7;simp) (f.Blocks.getD i default).Ops.length 0 acc (by omega) (by omega)
  rw[show(0:Int)=((0:Nat):Int) from rfl,this,R5,Pg]
 have hb:=Kq f.Blocks.length 0 70000 (fun(i:Nat)=>usesB f (f.Blocks.getD i default) i) (fun i hi=>usesB_len hf hi) (Gu f) (fun acc i hi hA=>by
   unfold Gu
   have hd:decide ((i:Int)<(f.Blocks.length:Int))=true:=by simpa using hi
   have hmem:=Aw (d:=(default:Ah)) hi;have h64:=hf.blocks;have q1:i*70000<=64*70000:=E9 _ (by omega);have q2:=usesPhi_len hf hmem;have q3:=usesOp_len hf hmem i;have e1:=h4 i hi (acc++M6 (f.Blocks.getD i default)) (by rw[Fh];omega)
   have l1:(acc++M6 (f.Blocks.getD i default)++R5 (f.Blocks.getD i default) i).length<=50000000:=by rw[Fh,Fh];omega
   simp only[hd,Af,Ac (Ap hi),h2 i hi acc (by omega),An,e1,Eo,Ac (hbig (n:=(acc++M6 (f.Blocks.getD i default)++R5 (f.Blocks.getD i default) i).length) (by omega) _),usesB,Zd]
   cases(f.Blocks.getD i default).End.Kind==0 with
   | true=>
    simp only[Af,An]
    cases(f.Blocks.getD i default).End.Kind==2 with
    | true=>rw[Ac (by rw[Fh];have:=hbig (n:=(acc++M6 (f.Blocks.getD i default)++R5 (f.Blocks.getD i default) i).length+1) (by omega) (default:Ck);simpa using this)];simp[A8 hi (by omega:f.Blocks.length<9223372036854775808)]
    | false=>simp[A8 hi (by omega:f.Blocks.length<9223372036854775808)]
   | false=>
    simp only[Ar,An]
    cases(f.Blocks.getD i default).End.Kind==2 with
    | true=>rw[Af,Ac (hbig (n:=(acc++M6 (f.Blocks.getD i default)++R5 (f.Blocks.getD i default) i).length) (by omega) _)];simp[A8 hi (by omega:f.Blocks.length<9223372036854775808)]
    | false=>simp[A8 hi (by omega:f.Blocks.length<9223372036854775808)]) (fun acc=>by unfold Gu;simp) f.Blocks.length 0 [] (by omega) (by simp)
 unfold Il;rw[show(0:Int)=((0:Nat):Int) from rfl,hb,An,B5,Pg,Sx]
def okAt(n:Nat)(l:List Int)(i:Nat):Bool:=decide ((if i=0 then(-1:Int) else l.getD (i-1) 0)<l.getD i 0)&&(decide (0<=l.getD i 0)&&decide (l.getD i 0<n))
def okL(n:Nat)(l:List Int):Bool:=(List.range l.length).all (okAt n l)
def Lt(L:List (List Int)):Bool:=decide (1<=L.length)&&decide (L.length<=64)&&(List.range L.length).all fun i=>okL L.length (L.getD i [])
def Xi(L:List (List Int))(k i:Nat):Bool:=(L.getD k []).contains (i:Int)
def Ki(L:List (List Int))(m i:Nat):List Int:=((List.range m).filter fun k=>Xi L k i).map Int.ofNat
def Ct(L:List (List Int)):List (List Int):=(List.range L.length).map (Ki L L.length)
theorem Ts(a n:Int):Iv a n=some (decide (0<=a)&&decide (a<n)):=by
 unfold Iv
 cases decide ((0:Int)<=a)<;>rfl
theorem m_isCount(n:Nat):J2 (n:Int)=some (decide (1<=n)&&decide (n<=64)):=by
 unfold J2
 have h1:decide ((1:Int)<=(n:Int))=decide (1<=n):=by apply zzL60.2;omega
 have h2:decide ((n:Int)<=(64:Int))=decide (n<=64):=by apply zzL60.2;omega
 rw[h1,h2]
 cases decide (1<=n)<;>rfl
theorem succMay_L1(L:List (List Int))(i:Nat)(hl:(L.getD i []).length<4611686018427387904) :
  Ag (Dh L (i:Int)) ((-1:Int),(0:Int))=some (bif okL L.length (L.getD i []) then .inl () else .inr false):=by
 refine Iq (Dh L (i:Int)) (fun j=>((if j=0 then(-1:Int) else(L.getD i []).getD (j-1) 0),((j:Nat):Int))) (okAt L.length (L.getD i [])) (.inl ()) (.inr false) _ (fun j hj hp=>?_) (fun j hj hp=>?_) ?_
 ·unfold okAt at hp;simp only[Bc,Jd]at hp;obtain⟨h1,h2,h3⟩:=hp
  show Dh L (i:Int) (_,_)=_
  unfold Dh;simp only[Au,De hj,Af,Ts];rw[Ad (Gc hj)]
  have e1:decide ((L.getD i []).getD j 0<=(if j=0 then(-1:Int) else(L.getD i []).getD (j-1) 0))=false:=by simpa using h1
  simp only[e1,B2 h2,B2 h3,zzL133,Qo,Af,Ar,An,Df];rw[w1 (show j<4611686018427387904 by omega)]
  simp
 ·show Dh L (i:Int) (_,_)=_
  unfold Dh;simp only[Au,De hj,Af,Ts];rw[Ad (Gc hj)]
  cases h1:decide ((L.getD i []).getD j 0<=(if j=0 then(-1:Int) else(L.getD i []).getD (j-1) 0)) with
  | true=>simp only[Af,show((true==false)=false) from rfl,Ar,An]
  | false=>
   have h1':decide ((if j=0 then(-1:Int) else(L.getD i []).getD (j-1) 0)<(L.getD i []).getD j 0)=true:=by simpa using h1
   unfold okAt at hp;rw[h1',F8]at hp;simp only[Qo,Af,Ar,An,hp,L2]
 ·show Dh L (i:Int) (_,_)=_
  unfold Dh;simp only[Au,Gf,Ar]
def Fits(L:List (List Int)):Prop:=L.length<4611686018427387904/\∀ l∈L,l.length<4611686018427387904
theorem Fits.at{L:List (List Int)}(h:Fits L)(i:Nat):(L.getD i []).length<4611686018427387904:=by
 by_cases hi:i<L.length
 ·exact h.2 _ (Aw hi)
 ·rw[R8,zzL107 (by omega)];simp
theorem m_succMay(L:List (List Int))(h:Fits L):J3 L=some (Lt L):=by
 unfold J3;rw[m_isCount,An];unfold Lt
 cases hc:(decide (1<=L.length)&&decide (L.length<=64)) with
 | false=>rfl
 | true=>
  simp only[Df,Ar,F8];have:=Iq (Di L) (fun j=>((j:Nat):Int)) (fun i=>okL L.length (L.getD i [])) (.inl ()) (.inr false) L.length (fun j hj hp=>?_) (fun j hj hp=>?_) ?_
  ·rw[show Ag (Di L) (0:Int)=_ from this]
   cases(List.range L.length).all fun i=>okL L.length (L.getD i [])<;>rfl
  ·show Di L (j:Int)=_
   unfold Di;simp only[De hj,Af];rw[Ad (Gc hj),succMay_L1 L j (h.at j),hp];simp only[Af,An,w1 (show j<4611686018427387904 by have:=h.1;omega)]
  ·show Di L (j:Int)=_
   unfold Di;simp only[De hj,Af];rw[Ad (Gc hj),succMay_L1 L j (h.at j),hp]
   rfl
  ·show Di L _=_
   unfold Di;simp only[Gf,Ar]
theorem Qt{α:Type}{n i:Nat}{g:Nat->α}{d:α}(h:i<n):((List.range n).map g).getD i d=g i:=by simp[List.getD,h]
theorem Yb{α:Type}{n i:Nat}{g:Nat->α}{x:α}:((List.range n).map g).set i x=(List.range n).map fun j=>if j=i then x else g j:=by
 apply List.ext_getElem?
 intro j;rw[List.getElem?_set]
 by_cases hj:j<n
 ·by_cases hij:i=j
  ·subst hij;simp[hj]
  ·simp[hij,hj,Ne.symm hij]
 ·simp[hj];intro h;omega
theorem Hn{α:Type}{n:Nat}{g h:Nat->α}(H:∀ i,i<n->g i=h i):(List.range n).map g=(List.range n).map h:=zzL135 fun i hi=>H i (zzL52.1 hi)
theorem mayS_iff{L:List (List Int)}:Lt L=true↔1<=L.length/\L.length<=64/\∀ i,i<L.length->okL L.length (L.getD i [])=true:=by
 unfold Lt;rw[Bc,Bc,all_range];simp only[Jd];exact⟨fun⟨⟨a,b⟩,c⟩=>⟨a,b,c⟩,fun⟨a,b,c⟩=>⟨⟨a,b⟩,c⟩⟩
theorem okL_iff{n:Nat}{l:List Int}:okL n l=true↔∀ i,i<l.length->(0<=l.getD i 0/\l.getD i 0<n)/\(0<i->l.getD (i-1) 0<l.getD i 0):=by
 unfold okL;rw[all_range];unfold okAt;simp only[Bc,Jd]
 constructor
 ·intro h i hi;obtain⟨h1,h2,h3⟩:=h i hi;refine⟨⟨h2,h3⟩,fun hp=>?_⟩;rwa[if_neg (by omega)]at h1
 ·intro h i hi;obtain⟨⟨h2,h3⟩,h1⟩:=h i hi;refine⟨?_,h2,h3⟩
  by_cases hz:i=0
  ·rw[if_pos hz];omega
  ·rw[if_neg hz];exact h1 (by omega)
section
variable {n:Nat} {l:List Int} (h:okL n l=true)
include h
theorem Xq{i:Nat}(hi:i<l.length):0<=l.getD i 0/\l.getD i 0<n:=(okL_iff.1 h i hi).1
theorem okL_lt{i j:Nat}(hij:i<j)(hj:j<l.length):l.getD i 0<l.getD j 0:=by
 induction j with
 | zero=>omega
 | succ j ih=>
  have h1:=(okL_iff.1 h (j+1) hj).2 (by omega);rw[show j+1-1=j by omega]at h1
  by_cases he:i=j
  ·rw[he];exact h1
  ·exact Int.lt_trans (ih (by omega) (by omega)) h1
theorem okL_ge{i:Nat}(hi:i<l.length):(i:Int)<=l.getD i 0:=by
 induction i with
 | zero=>exact(Xq h hi).1
 | succ i ih=>
  have:=okL_lt h (show i<i+1 by omega) hi;have:=ih (by omega);omega
theorem Y7:l.length<=n:=by
 by_cases hz:l.length=0
 ·omega
 ·have h1:=okL_ge h (show l.length-1<l.length by omega);have h2:=(Xq h (show l.length-1<l.length by omega)).2;omega
theorem okL_mem{x:Int}(hx:x∈l):0<=x/\x<n:=by
 obtain⟨i,hi,rfl⟩:=Qn hx;have:=Xq h hi;rwa[Ai _ _ _ hi]at this
end
theorem okL_of{n:Nat}{l:List Int}(h1:∀ x∈l,0<=x/\x<n)(h2:l.Pairwise (·<·)):okL n l=true:=by
 rw[okL_iff];intro i hi;rw[Ai _ _ _ hi];refine⟨h1 _ (V8 hi),fun hp=>?_⟩;rw[Ai _ _ _ (show i-1<l.length by omega)];exact(List.pairwise_iff_getElem.1 h2) _ _ _ _ (by omega)
theorem Re{L:List (List Int)}(h:Lt L=true):L.length<=64/\∀ l∈L,l.length<=64:=by
 obtain⟨h1,h2,h3⟩:=mayS_iff.1 h;refine⟨h2,fun l hl=>?_⟩;obtain⟨i,hi,rfl⟩:=Qn hl;have:=Y7 (h3 i hi);rw[Ai _ _ _ hi]at this;omega
theorem fits_of{L:List (List Int)}(h:L.length<=1000/\∀ l∈L,l.length<=1000):Fits L:=⟨by omega,fun l hl=>by have:=h.2 l hl;omega⟩
theorem X3(L:List (List Int))(k i:Nat):Ki L (k+1) i=Ki L k i++(if Xi L k i=true then[(k:Int)] else[]):=by
 unfold Ki;rw[Aac,zzL120,zzL96]
 congr 1
 cases hg:Xi L k i<;>simp[hg]
theorem Vc(L:List (List Int))(k i:Nat):(Ki L k i).length<=k:=by
 unfold Ki;rw[T9];have:=List.length_filter_le (fun k=>Xi L k i) (List.range k)
 simpa using this
theorem getD_take{l:List Int}{j:Nat}(hj:j<l.length):l.take (j+1)=l.take j++[l.getD j 0]:=by
 rw[Ai _ _ _ hj,zzL82 hj]
def S2(L:List (List Int))(k j i:Nat):Bool:=((L.getD k []).take j).contains (i:Int)
def Mr(L:List (List Int))(k j:Nat):List (List Int):=(List.range L.length).map fun i=>Ki L k i++(if S2 L k j i=true then[(k:Int)] else[])
theorem comers_step(L:List (List Int))(h:Lt L=true)(k j:Nat)(hk:k<L.length)(hj:j<(L.getD k []).length) :
  (Mr L k j).set ((L.getD k []).getD j 0).toNat ((Mr L k j).getD ((L.getD k []).getD j 0).toNat []++[(k:Int)])=Mr L k (j+1):=by
 obtain⟨h1,h2,h3⟩:=mayS_iff.1 h;have hok:=h3 k hk;obtain⟨a0,a1⟩:=Xq hok hj;unfold Mr;rw[Qt (by omega),Yb]
 apply Hn
 intro i hi
 have hnot:S2 L k j ((L.getD k []).getD j 0).toNat=false:=by
  unfold S2;rw[V7 a0]
  cases hc:((L.getD k []).take j).contains ((L.getD k []).getD j 0) with
  | false=>rfl
  | true=>
   rw[zzL68]at hc;obtain⟨m,hm,he⟩:=Qn hc
   have hm':m<j:=by simp at hm;omega
   rw[List.getElem_take]at he;have:=okL_lt hok hm' hj;rw[Ai _ _ _ (show m<(L.getD k []).length by omega),he]at this;omega
 by_cases hi2:i=((L.getD k []).getD j 0).toNat
 ·rw[if_pos hi2,hnot]
  have:S2 L k (j+1) i=true:=by
   unfold S2;rw[getD_take hj,zzL68,hi2,V7 a0]
   simp
  rw[this,hi2]
  simp
 ·rw[if_neg hi2]
  have:S2 L k (j+1) i=S2 L k j i:=by
   unfold S2;rw[getD_take hj,Nw,zzL68,zzL68,zzL17]
   constructor
   ·rintro(hm|hm)
    ·exact hm
    ·simp only[zzL19]at hm;exact(hi2 (by omega)).elim
   ·exact .inl
  rw[this]
theorem m_comers(L:List (List Int))(h:Lt L=true):Jk L=some (Ct L):=by
 obtain⟨h1,h2,h3⟩:=mayS_iff.1 h
 have hroom:(1000:Nat)<=room:=by decide
 unfold Jk;rw[Ad ⟨by omega,Int.le_refl _,by omega⟩,Au]
 have inner:∀ k,k<L.length->Ag (F0 L (k:Int)) ((0:Int),Mr L k 0)=some (Mr L k (L.getD k []).length):=fun k hk=>by
  have hok:=h3 k hk;refine Gg (F0 L (k:Int)) (fun j=>(((j:Nat):Int),Mr L k j)) (Mr L k (L.getD k []).length) (L.getD k []).length (fun j hj=>?_) ?_
  ·obtain⟨a0,a1⟩:=Xq hok hj
   have hlen:(Mr L k j).length=L.length:=by simp[Mr]
   have hl64:=Y7 hok
   show F0 L (k:Int) (_,_)=_
   unfold F0;simp only[Au,De hj,Af];have hb:A5 ((L.getD k []).getD j 0) (Mr L k j).length:=⟨a0,by rw[hlen];exact a1⟩
   have hrow:((Mr L k j).getD ((L.getD k []).getD j 0).toNat []).length<=k+1:=by
    unfold Mr;rw[Qt (by omega),Fh];have:=Vc L k ((L.getD k []).getD j 0).toNat
    split
    ·rw[Sv];omega
    ·rw[List.length_nil];omega
   rw[Ad (Gc hj),Ad hb,Ad hb,Ad (by simp only[Sv];omega),Ad hb,comers_step L h k j hk hj,w1 (by omega)]
  ·show F0 L (k:Int) (_,_)=_
   unfold F0;simp only[Au,Gf,Ar]
 have r0:∀ k,Mr L k 0=(List.range L.length).map (Ki L k):=fun k=>by
  unfold Mr
  apply Hn
  intro i _;simp[S2]
 have r1:∀ k,Mr L k (L.getD k []).length=(List.range L.length).map (Ki L (k+1)):=fun k=>by
  unfold Mr
  apply Hn
  intro i _;rw[X3];unfold S2 Xi;rw[zzL90]
 have:Ag (F1 L) ((0:Int),(List.range L.length).map (Ki L 0))=some (Ct L):=Gg (F1 L) (fun k=>(((k:Nat):Int),(List.range L.length).map (Ki L k))) (Ct L) L.length (fun k hk=>?_) ?_
 ·have e0:(List.replicate L.length ([]:List Int))=(List.range L.length).map (Ki L 0):=by
   apply List.ext_getElem?
   intro i
   by_cases hi:i<L.length<;>simp[hi,List.getElem?_replicate,Ki]
  rw[e0,this];rfl
 ·show F1 L (_,_)=_
  unfold F1;simp only[De hk,Af];rw[Ad (Gc hk),<- r0,inner k hk,r1,w1 (by omega)]
  rfl
 ·show F1 L (_,_)=_
  unfold F1;simp only[Gf,Ar]
  rfl
theorem Si{α:Type}[DecidableEq α]{a b:List α}{d:α}(h:a.length=b.length):((List.range a.length).all fun i=>decide (a.getD i d=b.getD i d))=decide (a=b):=by
 rw[Nw,all_range,Jd]
 constructor
 ·intro hall
  apply Yi h
  intro i h1 h2;have:=zzL94 (hall i h1);rwa[Ai _ _ _ h1,Ai _ _ _ h2]at this
 ·rintro rfl i _
  simp
theorem lens_ne{a b:Nat}:(((a:Nat):Int)!=(b:Int))=decide (a≠b):=by
 rw[Nw,zzL101,Jd];omega
theorem int_ne{a b:Int}:(a !=b) = !decide (a=b):=by
 rw[Nw]
 simp
theorem m_equal(a b:List Int)(hb:b.length<4611686018427387904):Ec a b=some (decide (a=b)):=by
 unfold Ec;rw[lens_ne]
 by_cases hl:a.length=b.length
 ·rw[C0 (by simpa using hl),Ar];have:Ag (Bf a b) (0:Int)=_:=Iq (Bf a b) (fun j=>((j:Nat):Int)) (fun i=>decide (a.getD i 0=b.getD i 0)) (.inl ()) (.inr false) a.length (fun j hj hp=>?_) (fun j hj hp=>?_) ?_
  ·rw[this,Si hl]
   cases decide (a=b)<;>rfl
  ·show Bf a b (j:Int)=_
   unfold Bf;simp only[Au,De hj,Af];rw[Ad (Gc hj),Ad (Gc (by omega)),int_ne,hp,w1 (by omega)]
   rfl
  ·show Bf a b (j:Int)=_
   unfold Bf;simp only[Au,De hj,Af];rw[Ad (Gc hj),Ad (Gc (by omega)),int_ne,hp]
   rfl
  ·show Bf a b _=_
   unfold Bf;simp only[Gf,Ar]
 ·rw[B2 (by simpa using hl),Af,C0 (fun h=>hl (by rw[h]))]
theorem m_ints(a b:List Int)(ha:a.length<4611686018427387904):D7 a b=some (decide (a=b)):=by
 unfold D7;rw[lens_ne]
 by_cases hl:a.length=b.length
 ·rw[C0 (by simpa using hl),Ar];have:Ag (Bq a b) (0:Int)=_:=Iq (Bq a b) (fun j=>((j:Nat):Int)) (fun i=>decide (a.getD i 0=b.getD i 0)) (.inl ()) (.inr false) a.length (fun j hj hp=>?_) (fun j hj hp=>?_) ?_
  ·rw[this,Si hl]
   cases decide (a=b)<;>rfl
  ·show Bq a b (j:Int)=_
   unfold Bq;simp only[Au,De hj,Af];rw[Ad (Gc hj),Ad (Gc (by omega)),int_ne,hp,w1 (by omega)]
   rfl
  ·show Bq a b (j:Int)=_
   unfold Bq;simp only[Au,De hj,Af];rw[Ad (Gc hj),Ad (Gc (by omega)),int_ne,hp]
   rfl
  ·show Bq a b _=_
   unfold Bq;simp only[Gf,Ar]
 ·rw[B2 (by simpa using hl),Af,C0 (fun h=>hl (by rw[h]))]
theorem m_equalFunc(a b:List (List Int))(hb:Fits b):Cy a b=some (decide (a=b)):=by
 unfold Cy;rw[lens_ne]
 by_cases hl:a.length=b.length
 ·rw[C0 (by simpa using hl),Ar];have hb1:=hb.1;have:Ag (Az a b) (0:Int)=_:=Iq (Az a b) (fun j=>((j:Nat):Int)) (fun i=>decide (a.getD i []=b.getD i [])) (.inl ()) (.inr false) a.length (fun j hj hp=>?_) (fun j hj hp=>?_) ?_
  ·rw[this,Si hl]
   cases decide (a=b)<;>rfl
  ·show Az a b (j:Int)=_
   unfold Az;simp only[Au,De hj,Af];rw[Ad (Gc hj),Ad (Gc (by omega)),m_equal _ _ (hb.at j),hp,w1 (by omega)]
   rfl
  ·show Az a b (j:Int)=_
   unfold Az;simp only[Au,De hj,Af];rw[Ad (Gc hj),Ad (Gc (by omega)),m_equal _ _ (hb.at j),hp]
   rfl
  ·show Az a b _=_
   unfold Az;simp only[Gf,Ar]
 ·rw[B2 (by simpa using hl),Af,C0 (fun h=>hl (by rw[h]))]
theorem Oa(L:List (List Int)):(Ct L).length=L.length:=by simp[Ct]
theorem predOf_at{L:List (List Int)}{i:Nat}(hi:i<L.length):(Ct L).getD i []=Ki L L.length i:=by unfold Ct;rw[Qt hi]
theorem Vd{L:List (List Int)}(h:Lt L=true):(Ct L).length<=64/\∀ l∈Ct L,l.length<=64:=by
 obtain⟨h1,_⟩:=Re h;refine⟨by rw[Oa];exact h1,fun l hl=>?_⟩;obtain⟨i,hi,rfl⟩:=zzL27.1 hl;have:=Vc L L.length i;omega
theorem R3{L:List (List Int)}(h:L.length<=64/\∀ l∈L,l.length<=64):Fits L:=fits_of ⟨by omega,fun l hl=>by have:=h.2 l hl;omega⟩
def Uw(g:TGraph):Bool:=Lt g.Succ&&decide (g.Pred=Ct g.Succ)
theorem m_may(g:TGraph)(h:Fits g.Succ):Lb g=some (Uw g):=by
 unfold Lb Uw;rw[m_succMay _ h,An]
 cases hm:Lt g.Succ with
 | false=>rfl
 | true=>
  simp only[Qo,Af,m_comers _ hm,An,m_equalFunc _ _ (R3 (Vd hm)),F8]
def I7(L:List (List Int)):TGraph:=⟨L,Ct L⟩
def g0:TGraph:=⟨[],[]⟩
theorem mayG_gOf{L:List (List Int)}(h:Lt L=true):Uw (I7 L)=true:=by simp[Uw,I7,h]
theorem m_has(l:List Int)(x:Int)(h:l.length<4611686018427387904):Fy l x=some (l.contains x):=by
 unfold Fy;have:Ag (B1 l x) (0:Int)=_:=Iq (B1 l x) (fun j=>((j:Nat):Int)) (fun i=>!decide (l.getD i 0=x)) (.inl ()) (.inr true) l.length (fun j hj hp=>?_) (fun j hj hp=>?_) ?_
 ·rw[this]
  have e:l.contains x = !((List.range l.length).all fun i=>!decide (l.getD i 0=x)):=by
   rw[Nw,zzL68,Ph,<- Bool.not_eq_true,all_range]
   constructor
   ·intro hx hall;obtain⟨i,hi,rfl⟩:=Qn hx;have:=hall i hi;rw[Ai _ _ _ hi]at this;simp at this
   ·intro hall
    by_cases hx:x∈l
    ·exact hx
    ·refine(hall fun i hi=>?_).elim;rw[Ai _ _ _ hi];simp only[Ph,zzL92];rintro rfl;exact hx (V8 hi)
  rw[e]
  cases(List.range l.length).all fun i=>!decide (l.getD i 0=x)<;>rfl
 ·show B1 l x (j:Int)=_
  unfold B1;simp only[Au,De hj,Af]
  have:(l.getD j 0==x)=false:=by simpa using hp
  rw[Ad (Gc hj),this,w1 (by omega)]
  rfl
 ·show B1 l x (j:Int)=_
  unfold B1;simp only[Au,De hj,Af]
  have:(l.getD j 0==x)=true:=by simpa using hp
  rw[Ad (Gc hj),this]
  rfl
 ·show B1 l x _=_
  unfold B1;simp only[Gf,Ar]
theorem same_loop{X:Type}(a b:List (List Int))(f:Int->Option (LR Int (Unit ⊕ Bool)))(ha:Fits a)(hl:a.length=b.length)
  (hn:∀ i:Nat,i<a.length->f (i:Int)=(D7 (a.getD i []) (b.getD i [])).bind fun x=>bif (!x) then some (.done (.inr false)) else some (.next (w64 ((i:Int)+1)))) (he:f (a.length:Int)=some (.done (.inl ()))) :
  Ag f (0:Int)=some (bif decide (a=b) then .inl () else .inr false):=by
 have ha1:=ha.1;have:Ag f (0:Int)=_:=Iq f (fun j=>((j:Nat):Int)) (fun i=>decide (a.getD i []=b.getD i [])) (.inl ()) (.inr false) a.length (fun j hj hp=>?_) (fun j hj hp=>?_) he
 ·rw[this,Si hl]
 ·rw[hn j hj,m_ints _ _ (ha.at j),hp,w1 (by omega)];rfl
 ·rw[hn j hj,m_ints _ _ (ha.at j),hp];rfl
theorem m_same(a b:TGraph)(h1:Fits a.Succ)(h2:Fits a.Pred):Ih a b=some (decide (a=b)):=by
 have e:decide (a=b)=(decide (a.Succ=b.Succ)&&decide (a.Pred=b.Pred)):=by
  cases a;cases b
  rw[Nw]
  simp
 rw[e];unfold Ih;rw[lens_ne,lens_ne]
 by_cases hs:a.Succ.length=b.Succ.length
 ·by_cases hp:a.Pred.length=b.Pred.length
  ·rw[C0 (by simpa using hs),Ar,C0 (by simpa using hp),Ar]
   have s1:=same_loop (X:=Unit) a.Succ b.Succ (Gq a b) h1 hs (fun i hi=>by
    unfold Gq;simp only[Au,De hi,Af]
    rw[Ad (Gc hi),Ad (Gc (by omega))]) (by
    unfold Gq
    simp only[Gf,Ar])
   have s2:=same_loop (X:=Unit) a.Pred b.Pred (Gr a b) h2 hp (fun i hi=>by
    unfold Gr;simp only[Au,De hi,Af]
    rw[Ad (Gc hi),Ad (Gc (by omega))]) (by
    unfold Gr
    simp only[Gf,Ar])
   rw[s1]
   cases decide (a.Succ=b.Succ) with
   | false=>rfl
   | true=>
    simp only[Af,An,F8];rw[s2]
    cases decide (a.Pred=b.Pred)<;>rfl
  ·rw[B2 (show a.Pred.length≠b.Pred.length from hp),C0 (p:=a.Pred=b.Pred) (fun h=>hp (by rw[h]))]
   cases decide (a.Succ.length≠b.Succ.length)<;>simp
 ·rw[B2 (show a.Succ.length≠b.Succ.length from hs),C0 (p:=a.Succ=b.Succ) (fun h=>hs (by rw[h]))]
  simp
theorem L0{R:Type}{c:Bool}{q:Prop}[Decidable q]{k:Option R}(h:q):A7 (c=true->q) k=k:=Ad fun _=>h
theorem chk_off{R:Type}{q:Prop}[Decidable q]{k:Option R}:A7 (false=true->q) k=k:=Ad (by intro h;cases h)
def badAt(n:Nat)(l:List Int)(j:Nat):Bool:=
 bif (bif decide (l.getD j 0<0) then true else decide ((n:Int)<=l.getD j 0)) then true else(bif decide ((0:Int)<(j:Int)) then decide (l.getD j 0<=l.getD (j-1) 0) else false)
theorem bad_ok(n:Nat)(l:List Int)(j:Nat):badAt n l j = !okAt n l j:=by
 unfold badAt okAt
 by_cases h0:l.getD j 0<0
 ·have h1:decide (0<=l.getD j 0)=false:=by simpa using h0
  rw[B2 h0,h1];simp
 ·have h1:decide (0<=l.getD j 0)=true:=by simpa using h0
  rw[C0 h0,h1]
  by_cases h2:(n:Int)<=l.getD j 0
  ·have h3:decide (l.getD j 0<(n:Int))=false:=by simpa using h2
   rw[B2 h2,h3];simp
  ·have h3:decide (l.getD j 0<(n:Int))=true:=by simpa using h2
   rw[C0 h2,h3]
   by_cases hj:j=0
   ·subst hj;have h4:decide ((-1:Int)<l.getD 0 0)=true:=B2 (by omega);rw[if_pos rfl,h4];simp
   ·rw[if_neg hj,B2 (show(0:Int)<(j:Int) by omega)]
    by_cases h5:l.getD j 0<=l.getD (j-1) 0
    ·rw[B2 h5,C0 (show ¬ l.getD (j-1) 0<l.getD j 0 by omega)];rfl
    ·rw[C0 h5,B2 (show l.getD (j-1) 0<l.getD j 0 by omega)];rfl
theorem ref_make_L1(L:List (List Int))(i:Nat)(hi:i<L.length)(hl:(L.getD i []).length<4611686018427387904) :
  Ag (Br L (i:Int)) (0:Int)=some (bif okL L.length (L.getD i []) then .inl () else .inr (g0,5)):=by
 have hw:∀ j:Nat,j<(L.getD i []).length->0<j->w64 ((j:Int)-1)=((j-1:Nat):Int):=fun j hj hp=>by rw[Jy (by omega) (by omega)];omega
 have step:∀ j,j<(L.getD i []).length->Br L (i:Int) (j:Int)=bif badAt L.length (L.getD i []) j then some (.done (.inr (g0,5))) else some (.next (((j+1:Nat):Int))):=fun j hj=>by
  unfold Br;simp only[Au,De hj,Af];rw[Ad (Gc hi),Ad (Gc hi),Ad (Gc hj),L0 (Gc hi),L0 (Gc hj),L0 (Gc hi),L0 (Gc hj),L0 (Gc hi),w1 (by omega)]
  by_cases hz:j=0
  ·subst hz
   have:decide ((0:Int)<((0:Nat):Int))=false:=by decide
   unfold badAt;rw[this];simp only[Ar];rw[show((false==true)=false) from rfl,Bool.and_false,chk_off]
   rfl
  ·rw[hw j hj (by omega),L0 (Gc (by omega)),Au]
   rfl
 have:=Iq (Br L (i:Int)) (fun j=>((j:Nat):Int)) (okAt L.length (L.getD i [])) (.inl ()) (.inr (g0,5)) (L.getD i []).length (fun j hj hp=>?_) (fun j hj hp=>?_) ?_
 ·exact this
 ·show Br L (i:Int) (j:Int)=_
  rw[step j hj,bad_ok,hp];rfl
 ·show Br L (i:Int) (j:Int)=_
  rw[step j hj,bad_ok,hp];rfl
 ·show Br L (i:Int) _=_
  unfold Br;simp only[Au,Gf,Ar];rw[Ad (Gc hi)]
theorem ref_make_rows(L:List (List Int))(h:Lt L=true):Ag (B8 L) ((0:Int),List.replicate L.length ([]:List Int))=some (Ct L):=by
 obtain⟨h1,h2,h3⟩:=mayS_iff.1 h
 have hroom:(1000:Nat)<=room:=by decide
 have hfit:=R3 (Re h)
 let R:Nat->Nat->List (List Int):=fun i k=>(List.range L.length).map fun j=>if j<i then Ki L L.length j else if j=i then Ki L k i else[]
 have inner:∀ i,i<L.length->Ag (C4 L (i:Int)) ((0:Int),R i 0)=some (R i L.length):=fun i hi=>by
  refine Gg (C4 L (i:Int)) (fun k=>(((k:Nat):Int),R i k)) (R i L.length) L.length (fun k hk=>?_) ?_
  ·show C4 L (i:Int) (_,_)=_
   have hlen:(R i k).length=L.length:=by simp[R]
   have hat:(R i k).getD i []=Ki L k i:=by simp only[R];rw[Qt hi];simp
   unfold C4;simp only[Au,De hk,Af];rw[Ad (Gc hk),m_has _ _ (hfit.at k),An,w1 (by omega)];have hg:Xi L k i=(L.getD k []).contains (i:Int):=rfl;rw[<- hg,hat]
   have hs:(if Xi L k i=true then(R i k).set i (Ki L k i++[(k:Int)]) else R i k)=R i (k+1):=by
    split
    ·rename_i hgo
     simp only[R];rw[Yb]
     apply Hn
     intro j hj
     by_cases hji:j=i
     ·subst hji;simp[X3,hgo]
     ·simp[hji]
    ·rename_i hgo
     simp only[R]
     apply Hn
     intro j hj
     by_cases hji:j=i
     ·subst hji;simp[X3,hgo]
     ·simp[hji]
   rw[<- hs]
   cases hgo:Xi L k i with
   | false=>rfl
   | true=>
    have:=Vc L k i;simp only[Af];rw[Ad (by rw[hlen];exact Gc hi),Ad (by rw[hlen];exact Gc hi),Ad (by rw[Sv];omega),Ad (by rw[hlen];exact Gc hi)]
    rfl
  ·show C4 L (i:Int) (_,_)=_
   unfold C4;simp only[Gf,Ar]
 have:Ag (B8 L) ((0:Int),R 0 0)=some (Ct L):=Gg (B8 L) (fun i=>(((i:Nat):Int),R i 0)) (Ct L) L.length (fun i hi=>?_) ?_
 ·have e0:List.replicate L.length ([]:List Int)=R 0 0:=by
   simp only[R]
   apply List.ext_getElem?
   intro j
   by_cases hj:j<L.length<;>simp[hj,List.getElem?_replicate,Ki]
  rw[e0,this]
 ·show B8 L (_,_)=_
  unfold B8;simp only[De hi,Af];rw[inner i hi,w1 (by omega)];simp only[An]
  congr 3
  simp only[R]
  apply Hn
  intro j hj
  by_cases h4:j<i
  ·simp[h4,show j<i+1 by omega]
  ·by_cases h5:j=i
   ·subst h5;simp
   ·simp[h4,h5,show ¬ j<i+1 by omega];intro h6;simp[Ki]
 ·show B8 L (_,_)=_
  unfold B8;simp only[Gf,Ar]
  congr 2
  simp only[R,Ct]
  apply Hn
  intro j hj;simp[hj]
theorem m_ref_make(L:List (List Int))(h:Fits L):Gp L=some (bif Lt L then(I7 L,0) else(g0,5)):=by
 have hroom:(1000:Nat)<=room:=by decide
 unfold Gp
 have hc:(bif ((L.length:Int)==(0:Int)) then true else decide ((64:Int)<(L.length:Int))) = !(decide (1<=L.length)&&decide (L.length<=64)):=by
  by_cases h0:L.length=0
  ·rw[h0];rfl
  ·rw[show((L.length:Int)==0)=false by simp only[zzL34];omega,B2 (show 1<=L.length by omega)]
   by_cases h1:L.length<=64
   ·rw[B2 h1,C0 (show ¬ (64:Int)<(L.length:Int) by omega)];rfl
   ·rw[C0 h1,B2 (show(64:Int)<(L.length:Int) by omega)];rfl
 rw[hc];have hm:Lt L=((decide (1<=L.length)&&decide (L.length<=64))&&(List.range L.length).all fun i=>okL L.length (L.getD i [])):=rfl
 cases hb:(decide (1<=L.length)&&decide (L.length<=64)) with
 | false=>rw[hm,hb];rfl
 | true=>
  simp only[Df,Ar];have hb':=hb;simp only[Bc,Jd]at hb';have:Ag (Bs L) (0:Int)=_:=Iq (Bs L) (fun j=>((j:Nat):Int)) (fun i=>okL L.length (L.getD i [])) (.inl ()) (.inr (g0,5)) L.length (fun j hj hp=>?_) (fun j hj hp=>?_) ?_
  ·rw[this]
   cases hall:(List.range L.length).all fun i=>okL L.length (L.getD i []) with
   | false=>rw[hm,hb,hall];rfl
   | true=>
    have hmay:Lt L=true:=by rw[hm,hb,hall];rfl
    rw[hmay];simp only[Af,An];rw[Ad ⟨by omega,Int.le_refl _,by omega⟩,Au,ref_make_rows L hmay]
    rfl
  ·show Bs L (j:Int)=_
   unfold Bs;simp only[De hj,Af];rw[ref_make_L1 L j hj (h.at j),hp,w1 (by omega)]
   rfl
  ·show Bs L (j:Int)=_
   unfold Bs;simp only[De hj,Af];rw[ref_make_L1 L j hj (h.at j),hp]
   rfl
  ·show Bs L _=_
   unfold Bs;simp only[Gf,Ar]
theorem gOf_fits{L:List (List Int)}(h:Lt L=true):Fits (I7 L).Succ/\Fits (I7 L).Pred:=⟨R3 (Re h),R3 (Vd h)⟩
theorem m_ref_may(g:TGraph)(h:Fits g.Succ):I4 g=some (Uw g):=by
 unfold I4 Uw;rw[m_ref_make _ h,An]
 cases hm:Lt g.Succ with
 | false=>rfl
 | true=>
  simp only[Af,Qo,F8];rw[m_same _ _ (gOf_fits hm).1 (gOf_fits hm).2];simp only[An]
  congr 1
  apply zzL60.2
  cases g with
  | mk s p=>
   simp only[I7,TGraph.mk.injEq,true_and];exact Ps
noncomputable section
def upd(s:Nat->Bool)(y:Nat):Nat->Bool:=fun z=>decide (z=y) || s z
theorem upd_true{s:Nat->Bool}{y z:Nat}:upd s y z=true↔z=y\/s z=true:=by simp[upd]
theorem upd_false{s:Nat->Bool}{y z:Nat}:upd s y z=false↔z≠y/\s z=false:=by simp[upd]
inductive VL (S:Nat->List Nat):(Nat->Bool)->List Nat->(Nat->Bool)->List Nat->Prop
 | nil (s:Nat->Bool):VL S s [] s []
 | skip {s s':Nat->Bool} {y:Nat} {l o:List Nat} (h:s y=true) (t:VL S s l s' o):VL S s (y::l) s' o
 | step {s s1 s2:Nat->Bool} {y:Nat} {l o1 o2:List Nat} (h:s y=false) (a:VL S (upd s y) (S y) s1 o1) (b:VL S s1 l s2 o2):VL S s (y::l) s2 (o1++y::o2)
inductive Rch (S:Nat->List Nat):Nat->Nat->Prop
 | refl (x:Nat):Rch S x x
 | head {x y z:Nat} (h:y∈S x) (t:Rch S y z):Rch S x z
theorem Rch.tail{S:Nat->List Nat}{x y z:Nat}(h:Rch S x y)(hz:z∈S y):Rch S x z:=by
 induction h with
 | refl x=>exact .head hz (.refl _)
 | head h _ ih=>exact .head h (ih hz)
theorem Rch.trans{S:Nat->List Nat}{x y z:Nat}(h:Rch S x y)(k:Rch S y z):Rch S x z:=by
 induction h with
 | refl x=>exact k
 | head h _ ih=>exact .head h (ih k)
variable {S:Nat->List Nat} {s s':Nat->Bool} {l o:List Nat}
theorem VL.seen(h:VL S s l s' o)(z:Nat):s' z=true↔s z=true\/z∈o:=by
 induction h with
 | nil s=>simp
 | skip h _ ih=>exact ih
 | @step s s1 s2 y l o1 o2 h a b iha ihb=>
  rw[ihb,iha,upd_true];simp only[zzL17,zzL29]
  constructor
  ·rintro((( rfl|h1)|h1)|h1)
   ·exact .inr (.inr (.inl rfl))
   ·exact .inl h1
   ·exact .inr (.inl h1)
   ·exact .inr (.inr (.inr h1))
  ·rintro(h1|h1|rfl|h1)
   ·exact .inl (.inl (.inr h1))
   ·exact .inl (.inr h1)
   ·exact .inl (.inl (.inl rfl))
   ·exact .inr h1
theorem VL.fresh(h:VL S s l s' o){z:Nat}(hz:z∈o):s z=false:=by
 induction h with
 | nil s=>cases hz
 | skip h _ ih=>exact ih hz
 | @step s s1 s2 y l o1 o2 h a b iha ihb=>
  rcases zzL17.1 hz with h1|h1
  ·exact(upd_false.1 (iha h1)).2
  ·rcases zzL29.1 h1 with rfl|h1
   ·exact h
   ·have:=ihb h1
    cases hs:s z with
    | false=>rfl
    | true=>rw[(a.seen z).2 (.inl (upd_true.2 (.inr hs)))]at this;cases this
theorem VL.nodup(h:VL S s l s' o):o.Nodup:=by
 induction h with
 | nil s=>exact List.nodup_nil
 | skip h _ ih=>exact ih
 | @step s s1 s2 y l o1 o2 h a b iha ihb=>
  rw[List.nodup_append];refine⟨iha,zzL98.2 ⟨fun hy=>?_,ihb⟩,fun u hu v hv=>?_⟩
  ·have:=b.fresh hy;rw[(a.seen y).2 (.inl (upd_true.2 (.inl rfl)))]at this
   cases this
  ·rintro rfl;rcases zzL29.1 hv with rfl|hv
   ·have:=a.fresh hu;rw[upd_true.2 (.inl rfl)]at this
    cases this
   ·have:=b.fresh hv;rw[(a.seen u).2 (.inr hu)]at this
    cases this
theorem VL.rch(h:VL S s l s' o){z:Nat}(hz:z∈o):∃ y∈l,Rch S y z:=by
 induction h with
 | nil s=>cases hz
 | skip h _ ih=>obtain⟨y,hy,hr⟩:=ih hz;exact⟨y,zzL18 _ hy,hr⟩
 | @step s s1 s2 y l o1 o2 h a b iha ihb=>
  rcases zzL17.1 hz with h1|h1
  ·obtain⟨u,hu,hr⟩:=iha h1;exact⟨y,zzL38 ..,.head hu hr⟩
  ·rcases zzL29.1 h1 with rfl|h1
   ·exact⟨z,zzL38 ..,.refl z⟩
   ·obtain⟨u,hu,hr⟩:=ihb h1;exact⟨u,zzL18 _ hu,hr⟩
theorem VL.closed(h:VL S s l s' o):(∀ y∈l,s' y=true)/\∀ z∈o,∀ y∈S z,s' y=true:=by
 induction h with
 | nil s=>exact⟨(fun _ h=>by cases h),(fun _ h=>by cases h)⟩
 | @skip s s' y l o h t ih=>
  refine⟨fun u hu=>?_,ih.2⟩;rcases zzL29.1 hu with rfl|hu
  ·exact(t.seen u).2 (.inl h)
  ·exact ih.1 u hu
 | @step s s1 s2 y l o1 o2 h a b iha ihb=>
  refine⟨fun u hu=>?_,fun z hz u hu=>?_⟩
  ·rcases zzL29.1 hu with rfl|hu
   ·exact(b.seen u).2 (.inl ((a.seen u).2 (.inl (upd_true.2 (.inl rfl)))))
   ·exact ihb.1 u hu
  ·rcases zzL17.1 hz with h1|h1
   ·exact(b.seen u).2 (.inl (iha.2 z h1 u hu))
   ·rcases zzL29.1 h1 with rfl|h1
    ·exact(b.seen u).2 (.inl (iha.1 u hu))
    ·exact ihb.2 z h1 u hu
theorem VL.above(h:VL S s l s' o)(hf:∀ z,∀ y∈S z,z<y){b:Nat}(hb:∀ y∈l,b<y):∀ z∈o,b<z:=by
 induction h generalizing b with
 | nil s=>intro z hz;cases hz
 | skip h _ ih=>exact ih (fun y hy=>hb y (zzL18 _ hy))
 | @step s s1 s2 y l o1 o2 h a c iha ihb=>
  intro z hz;have hy:=hb y (zzL38 ..);rcases zzL17.1 hz with h1|h1
  ·exact iha (fun u hu=>Nat.lt_trans hy (hf y u hu)) z h1
  ·rcases zzL29.1 h1 with rfl|h1
   ·exact hy
   ·exact ihb (fun u hu=>hb u (zzL18 _ hu)) z h1
theorem VL.ahead(h:VL S s l s' o)(hf:∀ z,∀ y∈S z,z<y):∀ z∈o,∀ y∈S z,s y=true\/∃ A B,o=A++z::B/\y∈A:=by
 induction h with
 | nil s=>intro z hz;cases hz
 | skip h _ ih=>exact ih
 | @step s s1 s2 y l o1 o2 h a c iha ihb=>
  intro z hz u hu;rcases zzL17.1 hz with h1|h1
  ·have hzy:y<z:=a.above hf (fun v hv=>hf y v hv) z h1;have hzu:=hf z u hu;rcases iha z h1 u hu with h2|⟨A,B,rfl,hA⟩
   ·rcases upd_true.1 h2 with rfl|h2
    ·omega
    ·exact .inl h2
   ·exact .inr ⟨A,B++y::o2,by simp,hA⟩
  ·rcases zzL29.1 h1 with rfl|h1z
   ·have hzu:=hf z u hu;rcases(a.seen u).1 (a.closed.1 u hu) with h2|h2
    ·rcases upd_true.1 h2 with rfl|h2
     ·omega
     ·exact .inl h2
    ·exact .inr ⟨o1,o2,rfl,h2⟩
   ·rcases ihb z h1z u hu with h2|⟨A,B,rfl,hA⟩
    ·rcases(a.seen u).1 h2 with h3|h3
     ·rcases upd_true.1 h3 with rfl|h3
      ·obtain⟨P,Q,rfl⟩:=List.append_of_mem h1z;exact .inr ⟨o1++u::P,Q,by simp,by simp⟩
      ·exact .inl h3
     ·obtain⟨P,Q,rfl⟩:=List.append_of_mem h1z;exact .inr ⟨o1++y::P,Q,by simp,by simp[h3]⟩
    ·exact .inr ⟨o1++y::A,B,by simp,by simp[hA]⟩
def cnt(n:Nat)(s:Nat->Bool):Nat:=((List.range n).filter fun z=>!s z).length
theorem Yw{n:Nat}{s:Nat->Bool}{y:Nat}(hy:y<n)(h:s y=false):cnt n (upd s y)+1=cnt n s:=by
 unfold cnt
 induction n with
 | zero=>omega
 | succ n ih=>
  rw[Aac,zzL120,zzL120,Fh,Fh]
  by_cases hyn:y=n
  ·subst hyn
   have e:(List.range y).filter (fun z=>!upd s y z)=(List.range y).filter (fun z=>!s z):=by
    apply List.filter_congr
    intro z hz;have:=zzL52.1 hz;simp[upd,show z≠y by omega]
   rw[e];simp[upd,h]
  ·have:=ih (by omega)
   have e:([n].filter fun z=>!upd s y z).length=([n].filter fun z=>!s z).length:=by
    simp only[List.filter_cons,List.filter_nil,upd];simp[Ne.symm hyn]
   omega
theorem cnt_mono{n:Nat}{s s':Nat->Bool}(h:∀ z,s z=true->s' z=true):cnt n s'<=cnt n s:=by
 unfold cnt
 apply List.Sublist.length_le
 have:(List.range n).filter (fun z=>!s' z)=((List.range n).filter fun z=>!s z).filter fun z=>!s' z:=by
  rw[List.filter_filter]
  apply List.filter_congr
  intro z _
  cases hs:s z with
  | false=>simp
  | true=>simp[h z hs]
 rw[this];exact List.filter_sublist
theorem VL.exist{n:Nat}(hS:∀ z,z<n->∀ y∈S z,y<n):∀(m:Nat) (s:Nat->Bool),cnt n s<=m->∀ l:List Nat,(∀ y∈l,y<n)->∃ s' o,VL S s l s' o:=by
 intro m
 induction m with
 | zero=>
  intro s hm l
  induction l with
  | nil=>intro _;exact⟨s,[],.nil s⟩
  | cons y l ih=>
   intro hl;obtain⟨s',o,h⟩:=ih (fun z hz=>hl z (zzL18 _ hz))
   cases hy:s y with
   | true=>exact⟨s',o,.skip hy h⟩
   | false=>have:=Yw (hl y (zzL38 ..)) hy;omega
 | succ m ih=>
  intro s hm l
  induction l generalizing s with
  | nil=>intro _;exact⟨s,[],.nil s⟩
  | cons y l ihl=>
   intro hl
   cases hy:s y with
   | true=>
    obtain⟨s',o,h⟩:=ihl s hm (fun z hz=>hl z (zzL18 _ hz));exact⟨s',o,.skip hy h⟩
   | false=>
    have hyn:=hl y (zzL38 ..);have:=Yw hyn hy;obtain⟨s1,o1,h1⟩:=ih (upd s y) (by omega) (S y) (hS y hyn);have h2:cnt n s1<=cnt n s:=cnt_mono fun z hz=>(h1.seen z).2 (.inl (upd_true.2 (.inr hz)));obtain⟨s2,o2,h3⟩:=ihl s1 (by omega) (fun z hz=>hl z (zzL18 _ hz));exact⟨s2,_,.step hy h1 h3⟩
def one(r:Nat):Nat->Bool:=fun z=>decide (z=r)
def Ord(S:Nat->List Nat)(r:Nat)(L:List Nat):Prop:=∃ s' o,VL S (one r) (S r) s' o/\L=r::o.reverse
theorem Ord.exist{n:Nat}(hS:∀ z,z<n->∀ y∈S z,y<n){r:Nat}(hr:r<n):∃ L,Ord S r L:=by
 obtain⟨s',o,h⟩:=VL.exist hS _ (one r) (zzL9 _) (S r) (hS r hr);exact⟨_,s',o,h,rfl⟩
theorem Ord.mem{r:Nat}{L:List Nat}(h:Ord S r L)(z:Nat):z∈L↔Rch S r z:=by
 obtain⟨s',o,h,rfl⟩:=h
 have hs:∀ z,s' z=true↔z=r\/z∈o:=fun z=>by rw[h.seen];simp[one]
 have hc:∀ x,s' x=true->∀ y∈S x,s' y=true:=fun x hx y hy=>by
  rcases(hs x).1 hx with rfl|hx
  ·exact h.closed.1 y hy
  ·exact h.closed.2 x hx y hy
 simp only[zzL29,zzL125];rw[<- hs z]
 constructor
 ·intro hz;rcases(hs z).1 hz with rfl|hz
  ·exact .refl _
  ·obtain⟨y,hy,hr⟩:=h.rch hz;exact .head hy hr
 ·intro hr
  have key:∀ x z,Rch S x z->s' x=true->s' z=true:=by
   intro x z hxz
   induction hxz with
   | refl x=>exact id
   | head hy _ ih=>exact fun hx=>ih (hc _ hx _ hy)
  exact key r z hr ((hs r).2 (.inl rfl))
theorem Ord.nodup{r:Nat}{L:List Nat}(h:Ord S r L):L.Nodup:=by
 obtain⟨s',o,h,rfl⟩:=h;refine zzL98.2 ⟨fun hr=>?_,(List.reverse_perm o).nodup_iff.2 h.nodup⟩;have:=h.fresh (zzL125.1 hr);simp[one]at this
theorem Ord.fwd{r:Nat}{L:List Nat}(h:Ord S r L)(hf:∀ z,∀ y∈S z,z<y):∀ z∈L,∀ y∈S z,∃ A B,L=A++z::B/\y∈B:=by
 obtain⟨s',o,h,rfl⟩:=h;intro z hz y hy;have hzy:=hf z y hy;rcases zzL29.1 hz with rfl|hz
 ·refine⟨[],o.reverse,rfl,?_⟩;rcases(h.seen y).1 (h.closed.1 y hy) with h1|h1
  ·simp[one]at h1;omega
  ·exact zzL125.2 h1
 ·have hz:=zzL125.1 hz;have hrz:r<z:=h.above hf (fun v hv=>hf r v hv) z hz;rcases h.ahead hf z hz y hy with h1|⟨A,B,rfl,hA⟩
  ·simp[one]at h1;omega
  ·exact⟨r::B.reverse,A.reverse,by simp,zzL125.2 hA⟩
end
theorem m_reverse(l:List Int)(hl:l.length<4611686018427387904):Em l=some l.reverse:=by
 unfold Em
 by_cases h0:l.length=0
 ·obtain rfl:l=[]:=zzL128.1 h0
  have:Ag Bd ((0:Int),(w64 ((([]:List Int).length:Int)-1)),([]:List Int))=some []:=by
   apply Ao
   unfold Bd;rw[Jy (by simp) (by simp)]
   rfl
  rw[this];rfl
 ·have hw:w64 ((l.length:Int)-1)=((l.length-1:Nat):Int):=by rw[Jy (by omega) (by omega)];omega
  rw[hw]
  let C:Nat->List Int:=fun k=>(List.range l.length).map fun i=>if i<k\/l.length-1-k<i then l.getD (l.length-1-i) 0 else l.getD i 0
  have hC:∀ k i,i<l.length->(C k).getD i 0=if i<k\/l.length-1-k<i then l.getD (l.length-1-i) 0 else l.getD i 0:=fun k i hi=>by simp only[C];rw[Qt hi]
  have hlen:∀ k,(C k).length=l.length:=fun k=>by simp[C]
  have:=Gg Bd (fun k=>(((k:Nat):Int),((l.length-1-k:Nat):Int),C k)) l.reverse (l.length / 2) (fun k hk=>?_) ?_
  ·have e0:C 0=l:=by
    apply Yi (by simp[C])
    intro i h1 h2;have:=hC 0 i h2;rw[Ai _ _ _ h1,Ai _ _ _ h2]at this;rw[this,if_neg (by omega)]
   have this':Ag Bd ((0:Int),((l.length-1:Nat):Int),l)=some l.reverse:=by
    have h2:=this;simp only[e0]at h2;exact h2
   rw[this'];rfl
  ·show Bd (_,_,_)=_
   unfold Bd
   have hlt:k<l.length-1-k:=by omega
   simp only[De hlt,Af,Au];rw[Ad (Gc (by rw[hlen];omega)),Ad (Gc (by rw[hlen];omega)),Ad (Gc (by rw[hlen];omega)),Ad (Gc (by rw[hlen];omega))];rw[w1 (by omega),show w64 (((l.length-1-k:Nat):Int)-1)=((l.length-1-(k+1):Nat):Int) by rw[Jy (by omega) (by omega)];omega]
   congr 4
   rw[hC k _ (by omega),hC k _ (by omega),if_neg (by omega),if_neg (by omega)];simp only[C];rw[Yb,Yb]
   apply Hn
   intro i hi
   by_cases h1:i=k
   ·subst h1;rw[if_neg (by omega),if_pos rfl,if_pos (by omega)]
   ·by_cases h2:i=l.length-1-k
    ·subst h2;rw[if_pos rfl,if_pos (by omega)]
     congr 1;omega
    ·rw[if_neg h2,if_neg h1]
     by_cases h3:i<k\/l.length-1-k<i
     ·rw[if_pos h3,if_pos (by omega)]
     ·rw[if_neg h3,if_neg (by omega)]
  ·show Bd (_,_,_)=_
   unfold Bd;have hd:decide (((l.length / 2:Nat):Int)<((l.length-1-l.length / 2:Nat):Int))=false:=C0 (by omega);simp only[hd,Ar]
   congr 2
   apply Yi (by simp[C])
   intro i h1 h2
   have h3:i<l.length:=by simpa [C] using h1
   have:=hC (l.length / 2) i h3;rw[Ai _ _ _ h1]at this;rw[this,List.getElem_reverse]
   split
   ·rw[Ai _ _ _ (by omega)]
   ·rw[Ai _ _ _ h3]
    congr 1;omega
theorem top{st:List Int}{a:Int}(h:st.length<4611686018427387904):(st++[a]).getD (w64 (((st++[a]).length:Int)-1)).toNat 0=a:=by
 have:w64 (((st++[a]).length:Int)-1)=((st.length:Nat):Int):=by rw[Fh,Sv,Jy (by omega) (by omega)];omega
 rw[this,Au];simp[List.getD]
theorem topi{st:List Int}{a:Int}(h:st.length<4611686018427387904):w64 (((st++[a]).length:Int)-1)=((st.length:Nat):Int):=by
 rw[Fh,Sv,Jy (by omega) (by omega)];omega
theorem L2_done{g:TGraph}{R:List Bool}{st T:List Int}{a:Nat}(hst:st.length<64)(ha:a<g.Succ.length)(h64:g.Succ.length<=64)(ht:T.getD a 0=((g.Succ.getD a []).length:Int)) :
  Ht g R (st++[(a:Int)]) T=some (.done (.inl T)):=by
 unfold Ht;simp only[top (st:=st) (a:=(a:Int)) (by omega),Au];rw[Ad (Gc (by omega)),Ad (Gc ha),ht,Gf,Ar]
theorem L2_step{g:TGraph}{R:List Bool}{st T:List Int}{a t y:Nat}(hst:st.length<64)(ha:a<g.Succ.length)(h64:g.Succ.length<=64)(ht:T.getD a 0=(t:Int))(htl:t<(g.Succ.getD a []).length)(htm:t<64)
  (hy:(g.Succ.getD a []).getD t 0=(y:Int)) (hyn:y<g.Succ.length) :
  Ht g R (st++[(a:Int)]) T=bif R.getD y false then some (.next (Nv 64 (0:Int) T a ((t+1:Nat):Int))) else some (.done (.inr (Nv 64 false R y true,Nv 64 (0:Int) T a ((t+1:Nat):Int),(st++[(a:Int)])++[(y:Int)]))):=by
 have hroom:(1000:Nat)<=room:=by decide
 unfold Ht;simp only[top (st:=st) (a:=(a:Int)) (by omega),Au,ht,hy];rw[Ad (Gc (by omega)),Ad (Gc ha),De htl,Af,Ad (Gc ha),Ad (Gc (by omega)),Ad (Gc htl),Ad (Gc (by omega)),Ad (Gc (by omega)),Ad (Gc (by omega)),w1 (by omega)]
 cases R.getD y false with
 | true=>rfl
 | false=>
  simp only[L2,Af,Ar];rw[Ad (Gc (by omega)),Ad (by rw[Fh,Sv,Sv];omega)]
theorem F3_eq{g:TGraph}{R:List Bool}{st T Lf:List Int}{a:Nat}(hst:st.length<64)(hLf:Lf.length<64) :
  D1 g (R,T,st++[(a:Int)],Lf)=(Ag (Ht g R (st++[(a:Int)])) T).bind fun x=>match x with
   | .inl T'=>if st=[] then some (.done (Lf++[(a:Int)]).reverse) else some (.next (R,T',st,Lf++[(a:Int)]))
   | .inr (R',T',st')=>some (.next (R',T',st',Lf)):=by
 have hroom:(1000:Nat)<=room:=by decide
 unfold D1;simp only
 have hb:A5 (w64 (((st++[(a:Int)]).length:Int)-1)) (st++[(a:Int)]).length:=by rw[topi (by omega)];exact Gc (by simp)
 rw[Ad hb]
 congr 1
 funext x
 cases x with
 | inr y=>obtain⟨R',T',st'⟩:=y;rfl
 | inl T'=>
  simp only[top (st:=st) (a:=(a:Int)) (by omega)];rw[topi (by omega),Au,Ad (by rw[Sv];omega),Ad ⟨by omega,by simp⟩];have e:(st++[(a:Int)]).take st.length=st:=List.take_left' rfl;rw[e]
  cases st with
  | nil=>
   rw[if_pos rfl]
   have:decide ((0:Int)<(([]:List Int).length:Int))=false:=by decide
   rw[this,Ar,m_reverse _ (by simp;omega)];simp only[An];rw[Ad (by simp)]
  | cons b st'=>
   rw[if_neg (by simp)];have:decide ((0:Int)<((b::st').length:Int))=true:=B2 (by simp<;>omega);rw[this,Af]
theorem loopO_from{S X:Type}{f:S->Option (LR S X)}{a b:S}(h:f a=f b):Ag f a=Ag f b:=by
 cases hb:f b with
 | none=>rw[loopO_none (h.trans hb),loopO_none hb]
 | some r=>cases r with
  | done x=>rw[Ao (h.trans hb),Ao hb]
  | next s=>rw[Ay (h.trans hb),Ay hb]
theorem scopeO_from{S X:Type}{f:S->Option (LR S X)}{s:S}:Pq (f s) f=Ag f s:=by
 unfold Pq
 cases hb:f s with
 | none=>rw[loopO_none hb];rfl
 | some r=>cases r with
  | done x=>rw[Ao hb];rfl
  | next s'=>rw[Ay hb];rfl
def sN(L:List (List Int))(k:Nat):List Nat:=(L.getD k []).map Int.toNat
def RelS(R:List Bool)(s:Nat->Bool):Prop:=∀ z,z<64->R.getD z false=s z
theorem Q0{α:Type}{d:α}{l:List α}{i:Nat}{x:α}{k:Nat}(hk:k<64):(Nv 64 d l i x).getD k d=if k=i then x else l.getD k d:=by
 rw[setN_getD hk]
 by_cases h:k=i
 ·subst h;simp
 ·have:Nat.beq k i=false:=by cases hb:Nat.beq k i with|false=>rfl|true=>exact absurd (B6 hb) h
  rw[this,if_neg h];rfl
theorem RelS.set{R:List Bool}{s:Nat->Bool}(h:RelS R s){y:Nat}:RelS (Nv 64 false R y true) (upd s y):=fun z hz=>by
 rw[Q0 hz,h z hz]
 by_cases hzy:z=y
 ·simp[upd,hzy]
 ·simp[upd,hzy]
def S4(o:List Nat):List Int:=o.map Int.ofNat
theorem order_main{g:TGraph}(hm:Lt g.Succ=true){s s':Nat->Bool}{l o:List Nat}(hv:VL (sN g.Succ) s l s' o) :
  ∀(R:List Bool) (T st Lf:List Int) (a t:Nat),RelS R s->a<g.Succ.length->l=(sN g.Succ a).drop t->T.getD a 0=(t:Int)->t<=(sN g.Succ a).length->s a=true->(∀ z,z<64->s z=false->T.getD z 0=0)->
   Lf.length+cnt 64 s+st.length+1<=64->
   ∃(R':List Bool) (T':List Int),RelS R' s'/\(∀ z,z<64->s' z=false->T'.getD z 0=0)/\(∀ z,z<64->s z=true->z≠a->T'.getD z 0=T.getD z 0)/\Lf.length+o.length+cnt 64 s'+st.length+1<=64 /\
    Ag (D1 g) (R,T,st++[(a:Int)],Lf)=if st=[] then some (Lf++S4 o++[(a:Int)]).reverse else Ag (D1 g) (R',T',st,Lf++S4 o++[(a:Int)]):=by
 obtain⟨hL1,hL64,hLok⟩:=mayS_iff.1 hm
 have hlenS:∀ a,(sN g.Succ a).length=(g.Succ.getD a []).length:=fun a=>by simp[sN]
 have hdrop:∀(a t y:Nat) (l':List Nat),a<g.Succ.length->y::l'=(sN g.Succ a).drop t->t<(g.Succ.getD a []).length/\(g.Succ.getD a []).getD t 0=(y:Int)/\y<g.Succ.length/\l'=(sN g.Succ a).drop (t+1):=fun a t y l' ha he=>by
  have ht:t<(sN g.Succ a).length:=by
   rcases zzL136 t (sN g.Succ a).length with h|h
   ·exact h
   ·rw[List.drop_eq_nil_of_le h]at he;cases he
  rw[Ym ht]at he;simp only[D5]at he;obtain⟨h1,h2⟩:=he
  have ht':t<(g.Succ.getD a []).length:=by rw[<- hlenS];exact ht
  obtain⟨b0,b1⟩:=Xq (hLok a ha) ht'
  have h3:(sN g.Succ a)[t]=((g.Succ.getD a []).getD t 0).toNat:=by rw[Ai _ _ _ ht'];simp[sN]
  exact⟨ht',by omega,by omega,h2⟩
 induction hv with
 | nil s=>
  intro R T st Lf a t hR ha hl hT htl hsa hz hc
  have ht:t=(g.Succ.getD a []).length:=by
   have:=Cl List.length hl;simp at this;rw[hlenS]at htl this;omega
  refine⟨R,T,hR,hz,fun _ _ _ _=>rfl,by simpa using hc,?_⟩
  have hF:D1 g (R,T,st++[(a:Int)],Lf)=if st=[] then some (.done (Lf++[(a:Int)]).reverse) else some (.next (R,T,st,Lf++[(a:Int)])):=by
   rw[F3_eq (by omega) (by omega),Ao (L2_done (by omega) ha hL64 (by rw[hT,ht]))]
   rfl
  by_cases hst:st=[]
  ·rw[if_pos hst]at hF ⊢;rw[Ao hF];simp[S4]
  ·rw[if_neg hst]at hF ⊢;rw[Ay hF];simp[S4]
 | @skip s s' y l o h tl ih=>
  intro R T st Lf a t hR ha hl hT htl hsa hz hc;obtain⟨h1,h2,h3,h4⟩:=hdrop a t y l ha hl;have hb:=Y7 (hLok a ha);have hs:=L2_step (g:=g) (R:=R) (st:=st) (T:=T) (a:=a) (t:=t) (y:=y) (by omega) ha hL64 hT h1 (by omega) h2 h3;rw[hR y (by omega),h,Af]at hs;obtain⟨R',T',a1,a2,a3,a4,a5⟩:=ih R (Nv 64 (0:Int) T a ((t+1:Nat):Int)) st Lf a (t+1) hR ha h4 (by rw[Q0 (by omega),if_pos rfl]) (by rw[hlenS];omega) hsa
   (fun z hz1 hz2=>by rw[Q0 hz1,if_neg (by rintro rfl;rw[hsa]at hz2;cases hz2)];exact hz z hz1 hz2) hc
  refine⟨R',T',a1,a2,fun z hz1 hz2 hz3=>by rw[a3 z hz1 hz2 hz3,Q0 hz1,if_neg hz3],a4,?_⟩;rw[<- a5]
  apply loopO_from
  rw[F3_eq (by omega) (by omega),F3_eq (by omega) (by omega),Ay hs]
 | @step s s1 s2 y l o1 o2 h tl tr ih1 ih2=>
  intro R T st Lf a t hR ha hl hT htl hsa hz hc;obtain⟨h1,h2,h3,h4⟩:=hdrop a t y l ha hl;have hb:=Y7 (hLok a ha)
  have hay:y≠a:=by rintro rfl;rw[hsa]at h;cases h
  have hs:=L2_step (g:=g) (R:=R) (st:=st) (T:=T) (a:=a) (t:=t) (y:=y) (by omega) ha hL64 hT h1 (by omega) h2 h3;rw[hR y (by omega),h,Ar]at hs;have hcu:=Yw (n:=64) (show y<64 by omega) h
  have hF:D1 g (R,T,st++[(a:Int)],Lf)=some (.next (Nv 64 false R y true,Nv 64 (0:Int) T a ((t+1:Nat):Int),(st++[(a:Int)])++[(y:Int)],Lf)):=by
   rw[F3_eq (by omega) (by omega),Ao hs]
   rfl
  obtain⟨R1,T1,b1,b2,b3,b4,b5⟩:=ih1 (Nv 64 false R y true) (Nv 64 (0:Int) T a ((t+1:Nat):Int)) (st++[(a:Int)]) Lf y 0 hR.set h3 (by simp)
   (by rw[Q0 (by omega),if_neg hay];exact hz y (by omega) h) (Qe _) (upd_true.2 (.inl rfl))
   (fun z hz1 hz2=>by
    obtain⟨c1,c2⟩:=upd_false.1 hz2;rw[Q0 hz1,if_neg (by rintro rfl;rw[hsa]at c2;cases c2)]
    exact hz z hz1 c2) (by rw[Fh,Sv];omega)
  rw[if_neg (by simp)]at b5
  have hTa:T1.getD a 0=((t+1:Nat):Int):=by rw[b3 a (by omega) (upd_true.2 (.inr hsa)) (Ne.symm hay),Q0 (by omega),if_pos rfl]
  rw[Fh,Sv]at b4;obtain⟨R2,T2,c1,c2,c3,c4,c5⟩:=ih2 R1 T1 st (Lf++S4 o1++[(y:Int)]) a (t+1) b1 ha h4 hTa (by rw[hlenS];omega) ((tl.seen a).2 (.inl (upd_true.2 (.inr hsa)))) b2
   (by simp only[Fh,Sv,S4,T9];omega)
  refine⟨R2,T2,c1,c2,fun z hz1 hz2 hz3=>?_,?_,?_⟩
  ·rw[c3 z hz1 ((tl.seen z).2 (.inl (upd_true.2 (.inr hz2)))) hz3,b3 z hz1 (upd_true.2 (.inr hz2)) (by rintro rfl;rw[h]at hz2;cases hz2),Q0 hz1,if_neg hz3]
  ·simp only[Fh,Sv,S4,T9,Yo]at c4 ⊢;omega
  ·rw[Ay hF,b5,c5]
   have e:Lf++S4 o1++[(y:Int)]++S4 o2++[(a:Int)]=Lf++S4 (o1++y::o2)++[(a:Int)]:=by simp[S4]
   rw[e]
theorem V3{L:List (List Int)}(h:Lt L=true):∀ z,z<L.length->∀ y∈sN L z,y<L.length:=fun z hz y hy=>by
 obtain⟨_,_,h3⟩:=mayS_iff.1 h;obtain⟨x,hx,rfl⟩:=zzL27.1 hy;have:=okL_mem (h3 z hz) hx;omega
theorem cnt_one{r:Nat}(hr:r<64):cnt 64 (one r)=63:=by
 have h:=Yw (n:=64) (s:=fun _=>false) hr rfl
 have e:upd (fun _=>false) r=one r:=by funext z;simp[upd,one]
 rw[e]at h
 have:cnt 64 (fun _=>false)=64:=by decide
 omega
theorem Ry{α:Type}{n z:Nat}{d:α}:(List.replicate n d).getD z d=d:=by rw[R8,List.getElem?_replicate];split<;>rfl
theorem m_order(g:TGraph)(h:Fits g.Succ)(hP:True)(r:Int) :
  (Uw g=true->0<=r->r<(g.Succ.length:Int)->∀ L,Ord (sN g.Succ) r.toNat L->H5 g r=some (S4 L)) /\
  ((Uw g&&(decide (0<=r)&&decide (r<(g.Succ.length:Int))))=false->H5 g r=some []):=by
 refine⟨fun hm h0 h1 L hL=>?_,fun hf=>?_⟩
 ·have hms:Lt g.Succ=true:=by unfold Uw at hm;exact(Bc _ _▸hm).1
  obtain⟨hL1,hL64,hLok⟩:=mayS_iff.1 hms;obtain⟨s',o,hv,rfl⟩:=hL;have hrn:((r.toNat:Nat):Int)=r:=V7 h0
  have hr:r.toNat<g.Succ.length:=by omega
  obtain⟨R',T',_,_,_,_,hmain⟩:=order_main hms hv (Nv 64 false (List.replicate 64 false) r.toNat true) (List.replicate 64 (0:Int)) [] [] r.toNat 0
   (fun z hz=>by rw[Q0 hz,Ry];by_cases hzr:z=r.toNat<;>simp[one,hzr]) hr (by simp) Ry (Qe _) (by simp[one])
   (fun z hz _=>Ry) (by rw[cnt_one (by omega)];simp)
  rw[if_pos rfl,hrn]at hmain;unfold H5;rw[m_may _ h,hm,An];simp only[Df,Qo,Af,Ar,Ts,B2 h0,B2 h1,zzL133,An];rw[Ad ⟨h0,by omega⟩];have hF:∀ X,Ag (D1 g) (Nv 64 false (List.replicate 64 false) r.toNat true,List.replicate 64 (0:Int),[]++[r],[])=some X->
    (Pq (D1 g (Nv 64 false (List.replicate 64 false) r.toNat true,List.replicate 64 (0:Int),[r],[])) (D1 g)).bind (fun x=>some x)=some X:=fun X hX=>by
   rw[scopeO_from];rw[Sx]at hX;rw[hX];rfl
  refine(hF _ hmain).trans ?_;simp only[Sx,List.reverse_append,S4,Cm,List.map_reverse,List.reverse_cons,List.reverse_nil]
  simp
  omega
 ·unfold H5;rw[m_may _ h,An]
  cases hm:Uw g with
  | false=>rfl
  | true=>
   rw[hm,F8]at hf;simp only[Df,Qo,Af,Ar,Ts,hf,An,L2]
   rfl
def RelN(n:Nat)(R:List Bool)(s:Nat->Bool):Prop:=R.length=n/\∀ z,z<n->R.getD z false=s z
theorem RelN.set{n:Nat}{R:List Bool}{s:Nat->Bool}(h:RelN n R s){y:Nat}(hy:y<n):RelN n (R.set y true) (upd s y):=by
 refine⟨by rw[G2];exact h.1,fun z hz=>?_⟩;rw[R8,List.getElem?_set]
 by_cases hzy:y=z
 ·subst hzy;simp[upd,h.1,hy]
 ·rw[if_neg hzy,<- R8,h.2 z hz];simp[upd,Ne.symm hzy]
theorem Pm:∀(n:Nat) (l:List Nat),l.Nodup->(∀ x∈l,x<n)->l.length<=n
 | 0,l,_,h=>by
  cases l with
  | nil=>simp
  | cons x l=>have:=h x (zzL38 ..);omega
 | n+1,l,hd,h=>by
  by_cases hn:n∈l
  ·have h1:=Pm n (l.erase n) (hd.erase n) fun x hx=>by
    have h2:=(hd.mem_erase_iff).1 hx;have:=h x h2.2;have:=h2.1;omega
   rw[List.length_erase_of_mem hn]at h1;omega
  ·have h1:=Pm n l hd fun x hx=>by
    have:=h x hx
    have:x≠n:=by rintro rfl;exact hn hx
    omega
   omega
theorem sorted_ext:∀{a b:List Int},a.Pairwise (·<·)->b.Pairwise (·<·)->(∀ x,x∈a↔x∈b)->a=b
 | [],[],_,_,_=>rfl
 | [],y::b,_,_,h=>by have:=(h y).2 (zzL38 ..);cases this
 | x::a,[],_,_,h=>by have:=(h x).1 (zzL38 ..);cases this
 | x::a,y::b,ha,hb,h=>by
  have ha':=zzL109.1 ha;have hb':=zzL109.1 hb
  have hxy:x=y:=by
   rcases zzL29.1 ((h x).1 (zzL38 ..)) with h1|h1
   ·exact h1
   ·rcases zzL29.1 ((h y).2 (zzL38 ..)) with h2|h2
    ·exact h2.symm
    ·have:=ha'.1 y h2;have:=hb'.1 x h1;omega
  subst hxy
  congr 1
  refine sorted_ext ha'.2 hb'.2 fun z=>⟨fun hz=>?_,fun hz=>?_⟩
  ·rcases zzL29.1 ((h z).1 (zzL18 _ hz)) with rfl|h1
   ·have:=ha'.1 z hz;omega
   ·exact h1
  ·rcases zzL29.1 ((h z).2 (zzL18 _ hz)) with rfl|h1
   ·have:=hb'.1 z hz;omega
   ·exact h1
theorem filt_sorted(p:Nat->Bool)(n:Nat):(((List.range n).filter p).map Int.ofNat).Pairwise (·<·):=by
 rw[List.pairwise_map];have:=(List.pairwise_lt_range (n:=n)).filter p
 exact this.imp fun h=>by simpa using h
theorem mem_filt{p:Nat->Bool}{n:Nat}{x:Int}:x∈((List.range n).filter p).map Int.ofNat↔∃ k:Nat,x=(k:Int)/\k<n/\p k=true:=by
 simp only[zzL27,zzL76,zzL52]
 constructor
 ·rintro⟨k,⟨h1,h2⟩,rfl⟩;exact⟨k,rfl,h1,h2⟩
 ·rintro⟨k,rfl,h1,h2⟩;exact⟨k,⟨h1,h2⟩,rfl⟩
theorem goes_iff{L:List (List Int)}{k i:Nat}:Xi L k i=true↔(i:Int)∈L.getD k []:=by unfold Xi;rw[zzL68]
theorem bif_same{b:Bool}{α:Type}{x:α}:(bif b then x else x)=x:=by cases b<;>rfl
def mk(o:List Bool)(l:List Nat):List Bool:=l.foldl (fun o y=>o.set y true) o
theorem mk_len(l:List Nat):∀ o:List Bool,(mk o l).length=o.length:=by
 induction l with
 | nil=>intro o;rfl
 | cons y l ih=>intro o;show(mk (o.set y true) l).length=_;rw[ih,G2]
theorem mk_at{n:Nat}(l:List Nat):∀(o:List Bool),o.length=n->(∀ y∈l,y<n)->∀ z,(mk o l).getD z false=true↔o.getD z false=true\/z∈l:=by
 induction l with
 | nil=>intro o _ _ z;simp[mk]
 | cons y l ih=>
  intro o ho hl z
  show(mk (o.set y true) l).getD z false=true↔_
  rw[ih (o.set y true) (by rw[G2];exact ho) (fun u hu=>hl u (zzL18 _ hu)) z];have hy:=hl y (zzL38 ..)
  have e:(o.set y true).getD z false=true↔o.getD z false=true\/z=y:=by
   rw[R8,List.getElem?_set,R8]
   by_cases h:y=z
   ·subst h;simp[ho,hy]
   ·simp[h,Ne.symm h]
  rw[e,zzL29]
  constructor
  ·rintro((h|h)|h)
   ·exact .inl h
   ·exact .inr (.inl h)
   ·exact .inr (.inr h)
  ·rintro(h|h|h)
   ·exact .inl (.inl h)
   ·exact .inl (.inr h)
   ·exact .inr h
def sw(S:Nat->List Nat)(o:List Bool):Nat->List Bool
 | 0=>o
 | i+1=>if(sw S o i).getD i false=true then mk (sw S o i) (S i) else sw S o i
def rds(S:Nat->List Nat)(n:Nat)(o:List Bool):Nat->List Bool
 | 0=>o
 | j+1=>sw S (rds S n o j) n
section
variable {S:Nat->List Nat} {n:Nat} (hS:∀ z,z<n->∀ y∈S z,y<n)
theorem Td(o:List Bool):∀ i,(sw S o i).length=o.length:=by
 intro i
 induction i with
 | zero=>rfl
 | succ i ih=>unfold sw;split;rw[mk_len,ih];exact ih
theorem Ve(o:List Bool):∀ j,(rds S n o j).length=o.length:=by
 intro j
 induction j with
 | zero=>rfl
 | succ j ih=>unfold rds;rw[Td,ih]
include hS
theorem sw_mono{o:List Bool}(ho:o.length=n):∀ i,i<=n->∀ z,o.getD z false=true->(sw S o i).getD z false=true:=by
 intro i
 induction i with
 | zero=>intro _ z h;exact h
 | succ i ih=>
  intro hi z h;unfold sw
  split
  ·exact(mk_at (n:=n) _ _ (by rw[Td];exact ho) (hS i (by omega)) z).2 (.inl (ih (by omega) z h))
  ·exact ih (by omega) z h
theorem sw_sound{o:List Bool}{r:Nat}(ho:o.length=n)(h:∀ z,o.getD z false=true->Rch S r z):∀ i,i<=n->∀ z,(sw S o i).getD z false=true->Rch S r z:=by
 intro i
 induction i with
 | zero=>intro _ z hz;exact h z hz
 | succ i ih=>
  intro hi z hz;unfold sw at hz
  split at hz
  ·rename_i hsi
   rcases(mk_at (n:=n) _ _ (by rw[Td];exact ho) (hS i (by omega)) z).1 hz with h1|h1
   ·exact ih (by omega) z h1
   ·exact(ih (by omega) i hsi).tail h1
  ·exact ih (by omega) z hz
theorem sw_step{o:List Bool}(ho:o.length=n):∀ i,i<=n->∀ j,j<i->o.getD j false=true->∀ y∈S j,(sw S o i).getD y false=true:=by
 intro i
 induction i with
 | zero=>intro _ j hj;omega
 | succ i ih=>
  intro hi j hj hoj y hy;unfold sw
  by_cases hji:j=i
  ·subst hji;have h1:=sw_mono hS ho j (by omega) j hoj;rw[if_pos h1];exact(mk_at (n:=n) _ _ (by rw[Td];exact ho) (hS j (by omega)) y).2 (.inr hy)
  ·have h1:=ih (by omega) j (by omega) hoj y hy
   split
   ·exact(mk_at (n:=n) _ _ (by rw[Td];exact ho) (hS i (by omega)) y).2 (.inl h1)
   ·exact h1
theorem sw_closed{o:List Bool}(ho:o.length=n)(hc:∀ j,j<n->o.getD j false=true->∀ y∈S j,o.getD y false=true):∀ i,i<=n->∀ z,(sw S o i).getD z false=true->o.getD z false=true:=by
 intro i
 induction i with
 | zero=>intro _ z h;exact h
 | succ i ih=>
  intro hi z hz;unfold sw at hz
  split at hz
  ·rename_i hsi
   rcases(mk_at (n:=n) _ _ (by rw[Td];exact ho) (hS i (by omega)) z).1 hz with h1|h1
   ·exact ih (by omega) z h1
   ·exact hc i (by omega) (ih (by omega) i hsi) z h1
  ·exact ih (by omega) z hz
theorem rds_spec{r:Nat}(hr:r<n)(z:Nat):(rds S n ((List.replicate n false).set r true) n).getD z false=true↔Rch S r z:=by
 let o0:=(List.replicate n false).set r true
 have ho0:o0.length=n:=by simp[o0]
 have hat0:∀ z,o0.getD z false=true↔z=r:=fun z=>by
  show((List.replicate n false).set r true).getD z false=true↔z=r
  rw[R8,List.getElem?_set]
  by_cases h:r=z
  ·subst h;simp[hr]
  ·rw[if_neg h,<- R8,Ry];simp[Ne.symm h]
 have hlen:∀ j,(rds S n o0 j).length=n:=fun j=>by rw[Ve,ho0]
 have hsound:∀ j z,(rds S n o0 j).getD z false=true->Rch S r z:=by
  intro j
  induction j with
  | zero=>intro z hz;rw[(hat0 z).1 hz];exact .refl _
  | succ j ih=>intro z hz;exact sw_sound hS (hlen j) ih n (zzL9 _) z hz
 have hmono:∀ j,∀ z,o0.getD z false=true->(rds S n o0 j).getD z false=true:=by
  intro j
  induction j with
  | zero=>intro z h;exact h
  | succ j ih=>intro z h;exact sw_mono hS (hlen j) n (zzL9 _) z (ih z h)
 let C:Nat->Prop:=fun j=>∀ i,i<n->(rds S n o0 j).getD i false=true->∀ y∈S i,(rds S n o0 j).getD y false=true
 have key:∀ j,C j\/cnt n (fun z=>(rds S n o0 j).getD z false)+j+1<=n:=by
  intro j
  induction j with
  | zero=>
   refine .inr ?_;have h1:=Yw (n:=n) (s:=fun _=>false) hr rfl
   have e:upd (fun _=>false) r=fun z=>(rds S n o0 0).getD z false:=by
    funext z
    rw[Nw,upd_true]
    show _↔o0.getD z false=true
    rw[hat0]
    simp
   rw[e]at h1
   have hcl:cnt n (fun _=>false)=n:=by
    unfold cnt;rw[List.filter_eq_self.2 (by simp)]
    simp
   omega
  | succ j ih=>
   by_cases hc:C j
   ·refine .inl fun i hi h y hy=>?_;have h1:=sw_closed hS (hlen j) hc n (zzL9 _) i h;exact sw_mono hS (hlen j) n (zzL9 _) y (hc i hi h1 y hy)
   ·rcases ih with ih|ih
    ·exact(hc ih).elim
    ·refine .inr ?_
     have hex:∃ i,i<n/\(rds S n o0 j).getD i false=true/\∃ y,y∈S i/\(rds S n o0 j).getD y false=false:=by
      simp only[C]at hc;simp only[Classical.not_forall]at hc;obtain⟨i,hi,h1,y,hy,h2⟩:=hc;exact⟨i,hi,h1,y,hy,by simpa using h2⟩
     obtain⟨i,hi,h1,y,hy,h2⟩:=hex;have h3:=sw_step hS (hlen j) n (zzL9 _) i hi h1 y hy;have hyn:=hS i hi y hy;have h4:=Yw (n:=n) (s:=fun z=>(rds S n o0 j).getD z false) hyn h2
     have h5:cnt n (fun z=>(rds S n o0 (j+1)).getD z false)<=cnt n (upd (fun z=>(rds S n o0 j).getD z false) y):=cnt_mono fun z hz=>by
      rcases upd_true.1 hz with rfl|hz
      ·exact h3
      ·exact sw_mono hS (hlen j) n (zzL9 _) z hz
     omega
 have hC:C n:=by
  rcases key n with h|h
  ·exact h
  ·omega
 constructor
 ·exact hsound n z
 ·intro hrch
  have hlt:∀ x z,Rch S x z->x<n->z<n/\((rds S n o0 n).getD x false=true->(rds S n o0 n).getD z false=true):=by
   intro x z hxz
   induction hxz with
   | refl x=>exact fun hx=>⟨hx,id⟩
   | @head x y z hy _ ih=>
    intro hx;have:=ih (hS x hx y hy);exact⟨this.1,fun h=>this.2 (hC x hx h y hy)⟩
  exact(hlt r z hrch hr).2 (hmono n r ((hat0 r).2 rfl))
end
theorem m_reach{L:List (List Int)}(hm:Lt L=true){r:Nat}(hr:r<L.length) :
  C3 (I7 L) (r:Int) (-1:Int)=some (rds (sN L) L.length ((List.replicate L.length false).set r true) L.length):=by
 obtain⟨h1,h2,h3⟩:=mayS_iff.1 hm
 have hroom:(1000:Nat)<=room:=by decide
 have hS:=V3 hm;have hgs:(I7 L).Succ=L:=rfl
 have hlenS:∀ a,(sN L a).length=(L.getD a []).length:=fun a=>by simp[sN]
 have hin:∀(o:List Bool) (i:Nat),o.length=L.length->i<L.length->Ag (A1 (I7 L) (-1) (i:Int)) ((0:Int),o)=some (if o.getD i false=true then mk o (sN L i) else o):=fun o i ho hi=>by
  have hb:=Y7 (h3 i hi)
  by_cases hoi:o.getD i false=true
  ·rw[if_pos hoi];have hmi:∀ k,(mk o ((sN L i).take k)).getD i false=true:=fun k=>(mk_at (n:=L.length) _ _ ho (fun y hy=>hS i hi y (List.mem_of_mem_take hy)) i).2 (.inl hoi)
   have hml:∀ k,(mk o ((sN L i).take k)).length=L.length:=fun k=>by rw[mk_len,ho]
   refine Gg (A1 (I7 L) (-1) (i:Int)) (fun k=>(((k:Nat):Int),mk o ((sN L i).take k))) _ (L.getD i []).length (fun k hk=>?_) ?_
   ·show A1 (I7 L) (-1) (i:Int) (_,_)=_
    unfold A1;obtain⟨a0,a1⟩:=Xq (h3 i hi) hk;simp only[hgs,Au,hmi];rw[Ad (Gc (by rw[hml];exact hi)),L0 (Gc hi),Af,De hk,Af,Ad (Gc hi),Ad (Gc hk)]
    have hne:((L.getD i []).getD k 0 !=(-1:Int))=true:=by rw[zzL101];omega
    rw[hne,Af,Ad (Gc hi),Ad (Gc hk),Ad ⟨a0,by rw[hml];exact a1⟩,w1 (by omega)]
    have e:mk o ((sN L i).take (k+1))=(mk o ((sN L i).take k)).set ((L.getD i []).getD k 0).toNat true:=by
     have hk':k<(sN L i).length:=by rw[hlenS];exact hk
     rw[zzL82 hk'];unfold mk;rw[List.foldl_append]
     have:(sN L i)[k]=((L.getD i []).getD k 0).toNat:=by rw[Ai _ _ _ hk];simp[sN]
     rw[this]
     rfl
    rw[e]
    rfl
   ·show A1 (I7 L) (-1) (i:Int) (_,_)=_
    unfold A1;simp only[hgs,Au,hmi];rw[Ad (Gc (by rw[hml];exact hi)),L0 (Gc hi),Af,Gf,Ar]
    have:(sN L i).take (L.getD i []).length=sN L i:=by rw[<- hlenS];exact zzL90 ..
    rw[this]
  ·have hof:o.getD i false=false:=by simpa using hoi
   rw[if_neg hoi]
   apply Ao
   unfold A1;simp only[hgs,Au,hof];rw[Ad (Gc (by rw[ho];exact hi)),L0 (Gc hi),Ar,Ar]
 have hsw:∀ o:List Bool,o.length=L.length->Ag (A3 (I7 L) (-1)) ((0:Int),o)=some (sw (sN L) o L.length):=fun o ho=>by
  refine Gg (A3 (I7 L) (-1)) (fun i=>(((i:Nat):Int),sw (sN L) o i)) _ L.length (fun i hi=>?_) ?_
  ·show A3 (I7 L) (-1) (_,_)=_
   unfold A3
   have hl:(sw (sN L) o i).length=L.length:=by rw[Td,ho]
   simp only[hl,De hi,Af];rw[hin _ i hl hi,w1 (by omega)]
   rfl
  ·show A3 (I7 L) (-1) (_,_)=_
   unfold A3
   have hl:(sw (sN L) o L.length).length=L.length:=by rw[Td,ho]
   simp only[hl,Gf,Ar]
 unfold C3;simp only[hgs,Au];rw[Ad ⟨by omega,Int.le_refl _,by omega⟩]
 have hne:((r:Int)==(-1:Int))=false:=by rw[zzL34];omega
 rw[hne,Ar,Ad (Gc (by simpa using hr))]
 have hl0:((List.replicate L.length false).set r true).length=L.length:=by simp
 have:Ag (A4 (I7 L) (-1)) ((0:Int),(List.replicate L.length false).set r true)=some (rds (sN L) L.length ((List.replicate L.length false).set r true) L.length):=by
  refine Gg (A4 (I7 L) (-1)) (fun j=>(((j:Nat):Int),rds (sN L) L.length ((List.replicate L.length false).set r true) j)) _ L.length (fun j hj=>?_) ?_
  ·show A4 (I7 L) (-1) (_,_)=_
   unfold A4
   have hl:(rds (sN L) L.length ((List.replicate L.length false).set r true) j).length=L.length:=by rw[Ve,hl0]
   simp only[hl,De hj,Af];rw[hsw _ hl,w1 (by omega)]
   rfl
  ·show A4 (I7 L) (-1) (_,_)=_
   unfold A4
   have hl:(rds (sN L) L.length ((List.replicate L.length false).set r true) L.length).length=L.length:=by rw[Ve,hl0]
   simp only[hl,Gf,Ar]
 rw[this]
 rfl
def pos:List Nat->Nat->Nat
 | [],_=>0
 | x::l,z=>if x=z then 0 else pos l z+1
theorem pos_cons(x:Nat)(l:List Nat)(z:Nat):pos (x::l) z=if x=z then 0 else pos l z+1:=rfl
theorem pos_app{A l:List Nat}{z:Nat}(h:z∉A):pos (A++l) z=A.length+pos l z:=by
 induction A with
 | nil=>simp
 | cons x A ih=>
  have h1:x≠z:=fun e=>h (by rw[e];exact zzL38 ..);have h2:z∉A:=fun e=>h (zzL18 _ e);rw[zzL91,pos_cons,if_neg h1,ih h2,Yo];omega
theorem pos_get{P:List Nat}(hd:P.Nodup){i:Nat}(hi:i<P.length):P[i]∉P.take i/\pos P P[i]=i:=by
 have e:P=P.take i++P[i]::P.drop (i+1):=by rw[<- Ym hi,List.take_append_drop]
 have hn:P[i]∉P.take i:=by
  rw[e]at hd;have:=(List.nodup_append.1 hd).2.2;exact fun hm=>this _ hm _ (zzL38 ..) rfl
 refine⟨hn,?_⟩
 have h2:pos (P.take i++P[i]::P.drop (i+1)) P[i]=i:=by
  rw[pos_app hn]
  have:pos (P[i]::P.drop (i+1)) P[i]=0:=by rw[pos_cons,if_pos rfl]
  rw[this,Sw];omega
 rw[<- e]at h2;exact h2
theorem all_succ{n:Nat}{p:Nat->Bool}:(List.range (n+1)).all p=((List.range n).all p&&p n):=by
 rw[Aac,List.all_append];simp
theorem compact_inv(d:Array Int)(hs:∀ i j,i<=j->j<d.size->d[i]!<=d[j]!):∀ m,m<=d.size->(∀ x∈Lib.compactUpTo d m,∃ j,j<m/\x=d[j]!)/\(∀ j,j<m->d[j]!∈Lib.compactUpTo d m)/\(Lib.compactUpTo d m).Pairwise (·<·):=by
 intro m
 induction m with
 | zero=>intro _;exact⟨(fun x hx=>by simp[Lib.compactUpTo]at hx),(fun j hj=>by omega),by simp[Lib.compactUpTo]⟩
 | succ m ih=>
  intro hm;obtain⟨h1,h2,h3⟩:=ih (by omega);rw[Lib.compactUpTo_succ]
  cases hk:Lib.keeps d m with
  | true=>
   rw[if_pos rfl];refine⟨fun x hx=>?_,fun j hj=>?_,?_⟩
   ·rcases zzL17.1 hx with h|h
    ·obtain⟨j,hj,he⟩:=h1 x h;exact⟨j,by omega,he⟩
    ·exact⟨m,by omega,by simpa using h⟩
   ·by_cases hjm:j=m
    ·subst hjm;simp
    ·exact zzL17.2 (.inl (h2 j (by omega)))
   ·rw[zzL132];refine⟨h3,List.pairwise_singleton _ _,fun x hx y hy=>?_⟩;obtain⟨j,hj,rfl⟩:=h1 x hx
    have hy':y=d[m]!:=by simpa using hy
    subst hy'
    have hk':m=0\/d[m]!≠d[m-1]!:=by simpa [Lib.keeps] using hk
    rcases hk' with h0|h0
    ·omega
    ·have a1:=hs j (m-1) (by omega) (by omega);have a2:=hs (m-1) m (by omega) (by omega);omega
  | false=>
   have hk':m≠0/\d[m]! = d[m-1]!:=by
    have:¬ (m=0\/d[m]!≠d[m-1]!):=by
     intro h
     have:Lib.keeps d m=true:=by simpa [Lib.keeps] using h
     rw[hk]at this;cases this
    exact⟨fun h=>this (.inl h),Classical.not_not.1 fun h=>this (.inr h)⟩
   simp only[zzL105,Gw,List.append_nil];refine⟨fun x hx=>by obtain⟨j,hj,he⟩:=h1 x hx;exact⟨j,by omega,he⟩,fun j hj=>?_,h3⟩
   by_cases hjm:j=m
   ·subst hjm;rw[hk'.2];exact h2 _ (by omega)
   ·exact h2 j (by omega)
def riseL(l:List Int):List Int:=Lib.compact (l.mergeSort fun x y=>decide (x<=y))
theorem rise_spec(l:List Int):(riseL l).Pairwise (·<·)/\∀ x,x∈riseL l↔x∈l:=by
 unfold riseL Lib.compact;have hp:(l.mergeSort fun x y=>decide (x<=y)).Pairwise (fun a b=>decide (a<=b)=true):=List.pairwise_mergeSort (fun a b c h1 h2=>by simp at *;omega) (fun a b=>by simp;omega) l;have hm:∀ x,x∈(l.mergeSort fun x y=>decide (x<=y))↔x∈l:=fun x=>List.mem_mergeSort
 generalize l.mergeSort (fun x y=>decide (x<=y))=z at hp hm ⊢
 have hz:∀ j,j<z.length->z.toArray[j]! = z.getD j 0:=fun j hj=>by simp[List.getD,hj]
 obtain⟨h1,h2,h3⟩:=compact_inv z.toArray (fun i j hij hj=>by
  have hj':j<z.length:=by simpa using hj
  rw[hz i (by omega),hz j hj']
  by_cases he:i=j
  ·rw[he];exact Int.le_refl _
  ·have:=(List.pairwise_iff_getElem.1 hp) i j (by omega) hj' (by omega);rw[Ai _ _ _ (by omega),Ai _ _ _ hj']
   simpa using this) z.length (by simp)
 refine⟨h3,fun x=>?_⟩;rw[<- hm x]
 constructor
 ·intro hx;obtain⟨j,hj,rfl⟩:=h1 x hx;rw[hz j hj];exact Aw hj
 ·intro hx;obtain⟨j,hj,rfl⟩:=Qn hx;have:=h2 j hj;rwa[hz j hj,Ai _ _ _ hj]at this
def toB(n:Nat)(l:List Int):Bool:=(List.range l.length).all fun i=>decide (0<l.getD i 0)&&decide (l.getD i 0<(n:Int))
def Yg(k:Int):Int:=([0,1,2,0]:List Int).getD k.toNat 0
def Zt(e:Lo):Bool:=(decide (0<=e.Kind)&&decide (e.Kind<=3))&&decide ((e.To.length:Int)=Yg e.Kind)
def Na(e:Lo)(n:Nat):Bool:=Zt e&&toB n e.To
theorem toB_iff{n:Nat}{l:List Int}:toB n l=true↔∀ x∈l,0<x/\x<n:=by
 unfold toB;rw[all_range];simp only[Bc,Jd]
 constructor
 ·intro h x hx;obtain⟨i,hi,rfl⟩:=Qn hx;have:=h i hi;rwa[Ai _ _ _ hi]at this
 ·intro h i hi;exact h _ (Aw hi)
theorem end_loop(e:Lo)(n:Nat)(hl:e.To.length<4611686018427387904):Ag (Cx e (n:Int)) (0:Int)=some (bif toB n e.To then .inl () else .inr false):=by
 have step:∀ j:Nat,j<e.To.length->Cx e (n:Int) (j:Int)=bif (decide (0<e.To.getD j 0)&&decide (e.To.getD j 0<(n:Int))) then some (.next (((j+1:Nat):Int))) else some (.done (.inr false)):=fun j hj=>by
  unfold Cx;simp only[Au,De hj,Af,Ts,w1 (show j<4611686018427387904 by omega)];rw[Ad (Gc hj)]
  by_cases h0:e.To.getD j 0=0
  ·rw[h0];rfl
  ·have:(e.To.getD j 0==0)=false:=by rw[zzL34];exact h0
   rw[this];simp only[Qo,Af,Ar,An]
   have e1:decide (0<e.To.getD j 0)=decide (0<=e.To.getD j 0):=by apply zzL60.2;omega
   rw[e1]
   cases(decide (0<=e.To.getD j 0)&&decide (e.To.getD j 0<(n:Int)))<;>rfl
 have:=Iq (Cx e (n:Int)) (fun j=>((j:Nat):Int)) (fun i=>decide (0<e.To.getD i 0)&&decide (e.To.getD i 0<(n:Int))) (.inl ()) (.inr false) e.To.length (fun j hj hp=>?_) (fun j hj hp=>?_) ?_
 ·exact this
 ·show Cx e (n:Int) (j:Int)=_
  rw[step j hj,hp];rfl
 ·show Cx e (n:Int) (j:Int)=_
  rw[step j hj,hp];rfl
 ·show Cx e (n:Int) _=_
  unfold Cx;simp only[Gf,Ar]
theorem end_tail(e:Lo)(n:Nat)(w:Int)(hw:0<=w/\w<=2) :
  (bif ((e.To.length:Int)!=w) then(some false) else((Ag (Cx e (n:Int)) (0:Int)).bind (fun x10=>(match x10 with|(.inl _)=>(some true)|(.inr r12)=>(some r12)))))=some (decide ((e.To.length:Int)=w)&&toB n e.To):=by
 by_cases h:(e.To.length:Int)=w
 ·rw[show((e.To.length:Int)!=w)=false by simpa using h,Ar,end_loop e n (by omega),B2 h]
  cases toB n e.To<;>rfl
 ·rw[show((e.To.length:Int)!=w)=true by simpa using h,Af,C0 h];rfl
theorem m_endFits(e:Lo)(n:Nat):Ls e (n:Int)=some (Na e n):=by
 unfold Ls Na Zt
 by_cases h0:e.Kind=0
 ·rw[h0];exact end_tail e n 0 (by omega)
 by_cases h1:e.Kind=1
 ·rw[h1];exact end_tail e n 1 (by omega)
 by_cases h2:e.Kind=2
 ·rw[h2];exact end_tail e n 2 (by omega)
 by_cases h3:e.Kind=3
 ·rw[h3];exact end_tail e n 0 (by omega)
 have e0:(e.Kind==0)=false:=by rw[zzL34];exact h0
 have e1:(e.Kind==1)=false:=by rw[zzL34];exact h1
 have e2:(e.Kind==2)=false:=by rw[zzL34];exact h2
 have e3:(e.Kind==3)=false:=by rw[zzL34];exact h3
 rw[e0,e1,e2,e3]
 have:(decide (0<=e.Kind)&&decide (e.Kind<=3))=false:=by
  by_cases h:0<=e.Kind
  ·rw[C0 (show ¬ e.Kind<=3 by omega)];simp
  ·rw[C0 h];rfl
 rw[this]
 rfl
theorem fits_len{e:Lo}{n:Nat}(h:Na e n=true):e.To.length<=2:=by
 unfold Na Zt at h;simp only[Bc,Jd]at h;obtain⟨⟨⟨h0,h1⟩,h2⟩,_⟩:=h
 have:Yg e.Kind<=2:=by
  have:e.Kind=0\/e.Kind=1\/e.Kind=2\/e.Kind=3:=by omega
  rcases this with h|h|h|h<;>rw[h]<;>decide
 omega
theorem fits_to{e:Lo}{n:Nat}(h:Na e n=true):toB n e.To=true:=by unfold Na at h;exact(Bc _ _▸h).2
def Bi(f:TFunc)(i:Nat):Lo:=(f.Blocks.getD i (default:Ah)).End
def Bl(f:TFunc):List (List Int):=(List.range f.Blocks.length).map fun i=>riseL (Bi f i).To
def Ln(f:TFunc):Bool:=(decide (1<=f.Blocks.length)&&decide (f.Blocks.length<=64))&&(List.range f.Blocks.length).all fun i=>Na (Bi f i) f.Blocks.length
theorem shape_iff{f:TFunc}:Ln f=true↔(1<=f.Blocks.length/\f.Blocks.length<=64)/\∀ i,i<f.Blocks.length->Na (Bi f i) f.Blocks.length=true:=by
 unfold Ln;rw[Bc,Bc,all_range];simp only[Jd]
theorem rise_ok{f:TFunc}{i:Nat}(h:Na (Bi f i) f.Blocks.length=true):okL f.Blocks.length (riseL (Bi f i).To)=true:=by
 obtain⟨h1,h2⟩:=rise_spec (Bi f i).To;exact okL_of (fun x hx=>by have:=(toB_iff.1 (fits_to h)) x ((h2 x).1 hx);omega) h1
theorem O4{f:TFunc}(h:Ln f=true):Lt (Bl f)=true:=by
 obtain⟨⟨h1,h2⟩,h3⟩:=shape_iff.1 h
 have hl:(Bl f).length=f.Blocks.length:=by simp[Bl]
 refine mayS_iff.2 ⟨by omega,by omega,fun i hi=>?_⟩;rw[hl]at hi ⊢;unfold Bl;rw[Qt hi];exact rise_ok (h3 i hi)
theorem m_of(f:TFunc)(hf:f.Blocks.length<=maxLen):N8 f=some (bif Ln f then(I7 (Bl f),0) else(g0,5)):=by
 have hroom:(1000:Nat)<=room:=by decide
 unfold N8;rw[m_isCount,An];have hsh:Ln f=((decide (1<=f.Blocks.length)&&decide (f.Blocks.length<=64))&&(List.range f.Blocks.length).all fun i=>Na (Bi f i) f.Blocks.length):=rfl
 cases hc:(decide (1<=f.Blocks.length)&&decide (f.Blocks.length<=64)) with
 | false=>rw[hsh,hc];rfl
 | true=>
  have hc':=hc;simp only[Bc,Jd]at hc';simp only[Df,Ar];rw[Ad ⟨by omega,Int.le_refl _,by omega⟩,Au]
  let U:Nat->List (List Int):=fun i=>(List.range f.Blocks.length).map fun j=>if j<i then riseL (Bi f j).To else[]
  have e0:List.replicate f.Blocks.length ([]:List Int)=U 0:=by
   simp only[U]
   apply List.ext_getElem?
   intro j
   by_cases hj:j<f.Blocks.length<;>simp[hj,List.getElem?_replicate]
  have eN:U f.Blocks.length=Bl f:=by
   simp only[U,Bl]
   apply Hn
   intro j hj;rw[if_pos hj]
  rw[e0]
  have hstep:∀ i:Nat,i<f.Blocks.length->Gz f ((i:Int),U i)=bif Na (Bi f i) f.Blocks.length then some (.next (((i+1:Nat):Int),U (i+1))) else some (.done (.inr (g0,5))):=fun i hi=>by
   unfold Gz;simp only[De hi,Af,Au];rw[Ad (Gc hi)];have he:(⟨(f.Blocks.getD i (default:Ah)).End.Kind,(f.Blocks.getD i (default:Ah)).End.Arg,(f.Blocks.getD i (default:Ah)).End.To⟩:Lo)=Bi f i:=rfl;rw[he,m_endFits,An]
   cases hfit:Na (Bi f i) f.Blocks.length with
   | false=>rfl
   | true=>
    have hl2:=fits_len hfit;simp only[Df,Ar,Af]
    have hx:x_rising (f.Blocks.getD i (default:Ah)).End.To=some (riseL (Bi f i).To):=by
     unfold x_rising;rw[isoI_eq,Ad (by show(Bi f i).To.length<=_;omega)]
     rfl
    rw[hx,An,Ad (Gc (by simp[U];omega)),w1 (by omega)]
    congr 3
    simp only[U];rw[Yb]
    apply Hn
    intro j hj
    by_cases h1:j=i
    ·subst h1;rw[if_pos rfl,if_pos (by omega)]
    ·rw[if_neg h1]
     by_cases h2:j<i
     ·rw[if_pos h2,if_pos (by omega)]
     ·rw[if_neg h2,if_neg (by omega)]
  have:=Iq (Gz f) (fun i=>(((i:Nat):Int),U i)) (fun i=>Na (Bi f i) f.Blocks.length) (.inl (U f.Blocks.length)) (.inr (g0,5)) f.Blocks.length (fun i hi hp=>?_) (fun i hi hp=>?_) ?_
  ·rw[show Ag (Gz f) ((0:Int),U 0)=_ from this,hsh,hc,eN,F8]
   cases hall:(List.range f.Blocks.length).all fun i=>Na (Bi f i) f.Blocks.length with
   | false=>rfl
   | true=>
    simp only[Af,An];rw[m_comers _ (O4 (by rw[hsh,hc,hall];rfl))]
    rfl
  ·show Gz f (_,_)=_
   rw[hstep i hi,hp];rfl
  ·show Gz f (_,_)=_
   rw[hstep i hi,hp];rfl
  ·show Gz f (_,_)=_
   unfold Gz;simp only[Gf,Ar]
def refL(l:List Int)(k:Nat):List Int:=((List.range k).filter fun z:Nat=>decide (1<=z)&&l.contains (z:Int)).map Int.ofNat
theorem ref_rise{n:Nat}{l:List Int}(h:toB n l=true):refL l n=riseL l:=by
 obtain⟨h1,h2⟩:=rise_spec l;refine sorted_ext (filt_sorted _ _) h1 fun x=>?_;rw[h2 x];unfold refL;rw[mem_filt]
 constructor
 ·rintro⟨k,rfl,_,hk⟩;simp only[Bc]at hk;exact zzL68.1 hk.2
 ·intro hx;have:=(toB_iff.1 h) x hx;refine⟨x.toNat,by omega,by omega,?_⟩;rw[V7 (by omega),zzL68.2 hx,B2 (by omega)]
  rfl
theorem ref_of_L1(f:TFunc)(i:Nat)(hl:(Bi f i).To.length<4611686018427387904):Ag (Cb f (i:Int)) (0:Int)=some (bif toB f.Blocks.length (Bi f i).To then .inl () else .inr (g0,5)):=by
 have hE:(f.Blocks.getD i (default:Ah)).End=Bi f i:=rfl
 have step:∀ j:Nat,j<(Bi f i).To.length->Cb f (i:Int) (j:Int)=bif (decide (0<(Bi f i).To.getD j 0)&&decide ((Bi f i).To.getD j 0<(f.Blocks.length:Int))) then some (.next (((j+1:Nat):Int))) else some (.done (.inr (g0,5))):=fun j hj=>by
  unfold Cb;simp only[Au,hE,De hj,Af,w1 (show j<4611686018427387904 by omega)];rw[Ad (Gc hj),L0 (Gc hj)]
  by_cases h0:(Bi f i).To.getD j 0<=0
  ·rw[B2 h0,C0 (show ¬ 0<(Bi f i).To.getD j 0 by omega)];rfl
  ·rw[C0 h0,B2 (show 0<(Bi f i).To.getD j 0 by omega)]
   by_cases h1:(f.Blocks.length:Int)<=(Bi f i).To.getD j 0
   ·rw[B2 h1,C0 (show ¬ (Bi f i).To.getD j 0<(f.Blocks.length:Int) by omega)];rfl
   ·rw[C0 h1,B2 (show(Bi f i).To.getD j 0<(f.Blocks.length:Int) by omega)];rfl
 have:=Iq (Cb f (i:Int)) (fun j=>((j:Nat):Int)) (fun k=>decide (0<(Bi f i).To.getD k 0)&&decide ((Bi f i).To.getD k 0<(f.Blocks.length:Int))) (.inl ()) (.inr (g0,5)) (Bi f i).To.length (fun j hj hp=>?_) (fun j hj hp=>?_) ?_
 ·exact this
 ·show Cb f (i:Int) (j:Int)=_
  rw[step j hj,hp];rfl
 ·show Cb f (i:Int) (j:Int)=_
  rw[step j hj,hp];rfl
 ·show Cb f (i:Int) _=_
  unfold Cb;simp only[Au,hE,Gf,Ar]
theorem ref_of_L2(f:TFunc)(i:Nat)(hn:1<=f.Blocks.length/\f.Blocks.length<=64)(hl:(Bi f i).To.length<4611686018427387904):Ag (Cc f (i:Int)) (([]:List Int),(1:Int))=some (refL (Bi f i).To f.Blocks.length):=by
 have hroom:(1000:Nat)<=room:=by decide
 have hE:(f.Blocks.getD i (default:Ah)).End=Bi f i:=rfl
 have e0:refL (Bi f i).To 1=[]:=by unfold refL;simp
 have key:=Gg (Cc f (i:Int)) (fun k=>(refL (Bi f i).To (k+1),((k+1:Nat):Int))) (refL (Bi f i).To f.Blocks.length) (f.Blocks.length-1) (fun k hk=>?_) ?_
 ·rw[show Ag (Cc f (i:Int)) (([]:List Int),(1:Int))=Ag (Cc f (i:Int)) (refL (Bi f i).To 1,(1:Int)) by rw[e0]];exact key
 ·show Cc f (i:Int) (_,_)=_
  unfold Cc
  have hlen:(refL (Bi f i).To (k+1)).length<=k+1:=by
   unfold refL;rw[T9];have:=List.length_filter_le (fun z:Nat=>decide (1<=z)&&(Bi f i).To.contains ((z:Nat):Int)) (List.range (k+1))
   simpa using this
  simp only[Au,hE,De (show k+1<f.Blocks.length by omega),Af];rw[m_has _ _ hl,An,w1 (by omega)]
  have hs:refL (Bi f i).To (k+1+1)=refL (Bi f i).To (k+1)++(if(Bi f i).To.contains (((k+1:Nat)):Int)=true then[((k+1:Nat):Int)] else[]):=by
   unfold refL;rw[Aac,zzL120,zzL96]
   congr 1
   cases hg:(Bi f i).To.contains (((k+1:Nat)):Int) with
   | true=>rw[List.filter_cons,hg];simp
   | false=>rw[List.filter_cons,hg];simp
  rw[hs]
  cases hg:(Bi f i).To.contains (((k+1:Nat)):Int) with
  | true=>
   rw[Af,Ad (by rw[Sv];omega)]
   rfl
  | false=>rw[Ar];simp
 ·show Cc f (i:Int) (_,_)=_
  unfold Cc;simp only[show f.Blocks.length-1+1=f.Blocks.length by omega,Gf,Ar]
theorem m_ref_of(f:TFunc)(hf:f.Blocks.length<=maxLen):Hx f=some (bif Ln f then(I7 (Bl f),0) else(g0,5)):=by
 have hroom:(1000:Nat)<=room:=by decide
 unfold Hx
 have hc:(bif ((f.Blocks.length:Int)==(0:Int)) then true else decide ((64:Int)<(f.Blocks.length:Int))) = !(decide (1<=f.Blocks.length)&&decide (f.Blocks.length<=64)):=by
  by_cases h0:f.Blocks.length=0
  ·rw[h0];rfl
  ·rw[show((f.Blocks.length:Int)==0)=false by simp only[zzL34];omega,B2 (show 1<=f.Blocks.length by omega)]
   by_cases h1:f.Blocks.length<=64
   ·rw[B2 h1,C0 (show ¬ (64:Int)<(f.Blocks.length:Int) by omega)];rfl
   ·rw[C0 h1,B2 (show(64:Int)<(f.Blocks.length:Int) by omega)];rfl
 rw[hc];have hsh:Ln f=((decide (1<=f.Blocks.length)&&decide (f.Blocks.length<=64))&&(List.range f.Blocks.length).all fun i=>Na (Bi f i) f.Blocks.length):=rfl
 cases hb:(decide (1<=f.Blocks.length)&&decide (f.Blocks.length<=64)) with
 | false=>rw[hsh,hb];rfl
 | true=>
  have hb':=hb;simp only[Bc,Jd]at hb';simp only[Df,Ar]
  let U:Nat->List (List Int):=fun i=>(List.range i).map fun j=>refL (Bi f j).To f.Blocks.length
  have hstep:∀ i:Nat,i<f.Blocks.length->Cd f (U i,(i:Int))=bif Na (Bi f i) f.Blocks.length then some (.next (U (i+1),((i+1:Nat):Int))) else some (.done (.inr (g0,5))):=fun i hi=>by
   unfold Cd;have hE:(f.Blocks.getD i (default:Ah)).End=Bi f i:=rfl;simp only[De hi,Af,Au,hE];rw[Ad (Gc hi),w1 (by omega)]
   by_cases hk:0<=(Bi f i).Kind/\(Bi f i).Kind<=3
   ·rw[C0 (show ¬ (Bi f i).Kind<0 by omega),C0 (show ¬ (3:Int)<(Bi f i).Kind by omega)];simp only[Ar];rw[L0 (show A5 (Bi f i).Kind ([(0:Int),1,2,0]:List Int).length from⟨hk.1,by show(Bi f i).Kind<4;omega⟩)];have hw:([(0:Int),1,2,0]:List Int).getD (Bi f i).Kind.toNat 0=Yg (Bi f i).Kind:=rfl;rw[hw]
    have hkb:Zt (Bi f i)=decide (((Bi f i).To.length:Int)=Yg (Bi f i).Kind):=by
     unfold Zt;rw[B2 hk.1,B2 hk.2];rfl
    unfold Na;rw[hkb]
    by_cases hl:((Bi f i).To.length:Int)=Yg (Bi f i).Kind
    ·have hw2:Yg (Bi f i).Kind<=2:=by
      have:(Bi f i).Kind=0\/(Bi f i).Kind=1\/(Bi f i).Kind=2\/(Bi f i).Kind=3:=by omega
      rcases this with h|h|h|h<;>rw[h]<;>decide
     rw[show(((Bi f i).To.length:Int)!=Yg (Bi f i).Kind)=false by simpa using hl,B2 hl,Ar,ref_of_L1 f i (by omega),F8]
     cases htb:toB f.Blocks.length (Bi f i).To with
     | false=>rfl
     | true=>
      simp only[Af,An];rw[ref_of_L2 f i hb' (by omega)];simp only[An];rw[Ad (by simp only[U,T9,zzL113,Sv];omega)]
      congr 3
      simp only[U];rw[Aac,zzL96]
      rfl
    ·rw[show(((Bi f i).To.length:Int)!=Yg (Bi f i).Kind)=true by simpa using hl,C0 hl];rfl
   ·have hbad:(bif decide ((Bi f i).Kind<0) then true else decide ((3:Int)<(Bi f i).Kind))=true:=by
     by_cases h0:(Bi f i).Kind<0
     ·rw[B2 h0];rfl
     ·rw[C0 h0,B2 (show(3:Int)<(Bi f i).Kind by omega)];rfl
    have hkb:Zt (Bi f i)=false:=by
     unfold Zt
     by_cases h0:0<=(Bi f i).Kind
     ·rw[C0 (show ¬ (Bi f i).Kind<=3 by omega)];simp
     ·rw[C0 h0];simp
    simp only[hbad];rw[Ad (by intro h;cases h)];unfold Na;rw[hkb]
    rfl
  have:=Iq (Cd f) (fun i=>(U i,((i:Nat):Int))) (fun i=>Na (Bi f i) f.Blocks.length) (.inl (U f.Blocks.length)) (.inr (g0,5)) f.Blocks.length (fun i hi hp=>?_) (fun i hi hp=>?_) ?_
  ·rw[show Ag (Cd f) (([]:List (List Int)),(0:Int))=_ from this,hsh,hb,F8]
   cases hall:(List.range f.Blocks.length).all fun i=>Na (Bi f i) f.Blocks.length with
   | false=>rfl
   | true=>
    have hshape:Ln f=true:=by rw[hsh,hb,hall];rfl
    have hm:=O4 hshape
    have hU:U f.Blocks.length=Bl f:=by
     simp only[U,Bl]
     apply Hn
     intro j hj;exact ref_rise (fits_to ((shape_iff.1 hshape).2 j hj))
    simp only[Af,An];rw[hU,m_ref_make _ (R3 (Re hm)),hm]
    rfl
  ·show Cd f (_,_)=_
   rw[hstep i hi,hp];rfl
  ·show Cd f (_,_)=_
   rw[hstep i hi,hp];rfl
  ·show Cd f (_,_)=_
   unfold Cd;simp only[Gf,Ar]
inductive Rc (S:Nat->List Nat) (r:Nat):Nat->Prop
 | root:Rc S r r
 | step {x y:Nat} (h:Rc S r x) (hy:y∈S x):Rc S r y
inductive Av (S:Nat->List Nat) (r z:Nat):Nat->Prop
 | root (h:r≠z):Av S r z r
 | step {x y:Nat} (h:Av S r z x) (hy:y∈S x) (hz:y≠z):Av S r z y
inductive AvN (S:Nat->List Nat) (r z:Nat):Nat->Nat->Prop
 | root (h:r≠z) (k:Nat):AvN S r z k r
 | step {k x y:Nat} (h:AvN S r z k x) (hy:y∈S x) (hz:y≠z):AvN S r z (k+1) y
section
variable {S:Nat->List Nat} {r:Nat}
theorem rc_iff{x:Nat}:Rc S r x↔Rch S r x:=by
 constructor
 ·intro h
  induction h with
  | root=>exact .refl _
  | step _ hy ih=>exact ih.tail hy
 ·intro h
  have key:∀ a b,Rch S a b->Rc S r a->Rc S r b:=by
   intro a b hab
   induction hab with
   | refl x=>exact id
   | head hy _ ih=>exact fun ha=>ih (.step ha hy)
  exact key _ _ h .root
def wo(S:Nat->List Nat)(z:Nat):Nat->List Nat:=fun x=>(S x).filter fun y=>decide (y≠z)
theorem av_iff{z x:Nat}:Av S r z x↔r≠z/\Rch (wo S z) r x:=by
 constructor
 ·intro h
  induction h with
  | root h=>exact⟨h,.refl _⟩
  | step _ hy hz ih=>exact⟨ih.1,ih.2.tail (zzL76.2 ⟨hy,by simpa using hz⟩)⟩
 ·rintro⟨hr,h⟩
  have key:∀ a b,Rch (wo S z) a b->Av S r z a->Av S r z b:=by
   intro a b hab
   induction hab with
   | refl x=>exact id
   | head hy _ ih=>
    obtain⟨h1,h2⟩:=zzL76.1 hy;exact fun ha=>ih (.step ha h1 (by simpa using h2))
  exact key _ _ h (.root hr)
theorem Av.rc{z x:Nat}(h:Av S r z x):Rc S r x:=by
 induction h with
 | root _=>exact .root
 | step _ hy _ ih=>exact .step ih hy
theorem Av.ne{z x:Nat}(h:Av S r z x):x≠z:=by
 cases h with
 | root h=>exact h
 | step _ _ hz=>exact hz
theorem AvN.av{z k x:Nat}(h:AvN S r z k x):Av S r z x:=by
 induction h with
 | root h=>exact .root h
 | step _ hy hz ih=>exact .step ih hy hz
theorem AvN.up{z k x:Nat}(h:AvN S r z k x):AvN S r z (k+1) x:=by
 induction h with
 | root h k=>exact .root h _
 | step _ hy hz ih=>exact .step ih hy hz
theorem AvN.mono{z k m x:Nat}(h:AvN S r z k x)(hm:k<=m):AvN S r z m x:=by
 obtain⟨d,rfl⟩:=Nat.exists_eq_add_of_le hm;clear hm
 induction d with
 | zero=>exact h
 | succ d ih=>exact ih.up
theorem Av.avn{z x:Nat}(h:Av S r z x):∃ k,AvN S r z k x:=by
 induction h with
 | root h=>exact⟨0,.root h 0⟩
 | step _ hy hz ih=>obtain⟨k,hk⟩:=ih;exact⟨k+1,.step hk hy hz⟩
theorem AvN.via {z k x : Nat} (h : AvN S r z k x) (y : Nat) : AvN S r y k x ∨ AvN S r z k y := by
  induction h with
  | root h k => by_cases hy : r = y
                · subst hy; exact .inr (.root h _)
                · exact .inl (.root hy _)
  | @step k x w h hy hz ih =>
    rcases ih with h1 | h1
    · by_cases hw : w = y
      · subst hw; exact .inr (.step h hy hz)
      · exact .inl (.step h1 hy hw)
    · exact .inr h1.up
theorem avn_bound(n:Nat):∃ K,∀ z,z<n->∀ x,x<n->Av S r z x->AvN S r z K x:=by
 have one:∀ z m,∃ K,∀ x,x<m->Av S r z x->AvN S r z K x:=by
  intro z m
  induction m with
  | zero=>exact⟨0,fun x hx=>absurd hx (Qp x)⟩
  | succ m ih=>
   obtain⟨K,hK⟩:=ih
   by_cases h:Av S r z m
   ·obtain⟨k,hk⟩:=h.avn;refine⟨max K k,fun x hx ha=>?_⟩;rcases zzL126.1 hx with h1|rfl
    ·exact(hK x h1 ha).mono (Nat.le_max_left ..)
    ·exact hk.mono (Nat.le_max_right ..)
   ·refine⟨K,fun x hx ha=>?_⟩;rcases zzL126.1 hx with h1|rfl
    ·exact hK x h1 ha
    ·exact absurd ha h
 have two:∀ m,∃ K,∀ z,z<m->∀ x,x<n->Av S r z x->AvN S r z K x:=by
  intro m
  induction m with
  | zero=>exact⟨0,fun x hx=>absurd hx (Qp x)⟩
  | succ m ih=>
   obtain⟨K,hK⟩:=ih;obtain⟨k,hk⟩:=one m n;refine⟨max K k,fun z hz x hx ha=>?_⟩;rcases zzL126.1 hz with h1|rfl
   ·exact(hK z h1 x hx ha).mono (Nat.le_max_left ..)
   ·exact(hk x hx ha).mono (Nat.le_max_right ..)
 exact two n
end
inductive UpTo (par:Nat->Int):Nat->Nat->Prop
 | refl (x:Nat):UpTo par x x
 | up {x y z:Nat} (h:par x=(y:Int)) (t:UpTo par y z):UpTo par x z
inductive Fw (S:Nat->List Nat) (at_:Nat->Nat) (u:Nat):Nat->Prop
 | refl:Fw S at_ u u
 | step {v w:Nat} (h:Fw S at_ u v) (hw:w∈S v) (hl:at_ v<at_ w):Fw S at_ u w
section
variable {S:Nat->List Nat} {at_:Nat->Nat} {par:Nat->Int}
theorem Fw.le{u w:Nat}(h:Fw S at_ u w):at_ u<=at_ w:=by
 induction h with
 | refl=>exact zzL9 _
 | step _ _ hl ih=>omega
theorem Fw.trans{u v w:Nat}(h:Fw S at_ u v)(k:Fw S at_ v w):Fw S at_ u w:=by
 induction k with
 | refl=>exact h
 | step _ hw hl ih=>exact .step ih hw hl
theorem Fw.av{r d u w:Nat}(h:Fw S at_ u w)(ha:Av S r d u)(hd:at_ d<at_ u):Av S r d w:=by
 induction h with
 | refl=>exact ha
 | @step v w h hw hl ih=>exact .step ih hw (by rintro rfl;have:=h.le;omega)
theorem UpTo.trans{x y z:Nat}(h:UpTo par x y)(k:UpTo par y z):UpTo par x z:=by
 induction h with
 | refl x=>exact k
 | up h _ ih=>exact .up h (ih k)
theorem anc_up{x p z:Nat}(h:par x=(p:Int)):UpTo par x z↔z=x\/UpTo par p z:=by
 constructor
 ·intro k
  cases k with
  | refl=>exact .inl rfl
  | up h' t=>rw[h]at h';cases Tg h';exact .inr t
 ·rintro(rfl|k)
  ·exact .refl _
  ·exact .up h k
theorem anc_top{x z:Nat}(h:∀ p:Nat,par x≠(p:Int)):UpTo par x z↔z=x:=by
 constructor
 ·intro k
  cases k with
  | refl=>rfl
  | up h' t=>exact absurd h' (h _)
 ·rintro rfl;exact .refl _
structure Inv(S:Nat->List Nat)(r n:Nat)(at_:Nat->Nat)(par:Nat->Int):Prop where
 top:par r = -1
 kind:∀ x,x<n->par x = -2\/x=r\/∃ z:Nat,par x=(z:Int)
 up:∀ x,x<n->∀ z:Nat,par x=(z:Int)->z<n/\par z≠-2/\at_ z<at_ x/\Fw S at_ z x
 rc:∀ x,x<n->par x≠-2->Rc S r x
 all:∀ x,x<n->par x≠-2->∀ d,¬ UpTo par x d->Av S r d x
end
section
variable {S:Nat->List Nat} {at_:Nat->Nat} {par:Nat->Int} {r n:Nat}
theorem Inv.anc(h:Inv S r n at_ par){x z:Nat}(k:UpTo par x z)(hx:x<n)(hp:par x≠-2):z<n/\par z≠-2/\at_ z<=at_ x/\Fw S at_ z x:=by
 induction k with
 | refl x=>exact⟨hx,hp,zzL9 _,.refl⟩
 | @up x y z hxy t ih=>
  obtain⟨h1,h2,h3,h4⟩:=h.up x hx y hxy;obtain⟨i1,i2,i3,i4⟩:=ih h1 h2;exact⟨i1,i2,by omega,i4.trans h4⟩
theorem Inv.root_anc(h:Inv S r n at_ par){z:Nat}:UpTo par r z↔z=r:=anc_top fun p hp=>by rw[h.top]at hp;omega
theorem Inv.strict(h:Inv S r n at_ par){x z:Nat}(k:UpTo par x z)(hx:x<n)(hp:par x≠-2):z=x\/at_ z<at_ x:=by
 cases k with
 | refl=>exact .inl rfl
 | up hxy t=>
  obtain⟨h1,h2,h3,h4⟩:=h.up x hx _ hxy;obtain⟨i1,i2,i3,i4⟩:=h.anc t h1 h2;exact .inr (by omega)
theorem Inv.antisymm(h:Inv S r n at_ par){x z:Nat}(k:UpTo par x z)(m:UpTo par z x)(hx:x<n)(hp:par x≠-2):z=x:=by
 rcases h.strict k hx hp with rfl|h1
 ·rfl
 ·obtain⟨i1,i2,i3,i4⟩:=h.anc k hx hp;have:=(h.anc m i1 i2).2.2.1;omega
def MeetAt(par:Nat->Int)(a b m:Nat):Prop:=∀ w,UpTo par m w↔UpTo par a w/\UpTo par b w
theorem meet_self{a:Nat}:MeetAt par a a a:=fun w=>by simp
theorem meet_swap{a b m:Nat}(h:MeetAt par a b m):MeetAt par b a m:=fun w=>by rw[h w];exact And.comm
theorem Inv.meet_left(h:Inv S r n at_ par)(hinj:∀ x y,x<n->y<n->par x≠-2->par y≠-2->at_ x=at_ y->x=y){a b p m:Nat}(ha:a<n)(hpa:par a≠-2)(hb:b<n)(hpb:par b≠-2)(hab:a≠b)(hl:at_ b<=at_ a)(hp:par a=(p:Int))(k:MeetAt par p b m):MeetAt par a b m:=fun w=>by
 rw[k w]
 constructor
 ·rintro⟨h1,h2⟩;exact⟨.up hp h1,h2⟩
 ·rintro⟨h1,h2⟩;rcases(anc_up hp).1 h1 with rfl|h1
  ·exfalso
   rcases h.strict h2 hb hpb with h3|h3
   ·exact hab h3
   ·omega
  ·exact⟨h1,h2⟩
end
section
variable {S:Nat->List Nat} {at_:Nat->Nat} {par:Nat->Int} {r n:Nat}
def O7(par:Nat->Int)(y:Nat)(v:Int):Nat->Int:=fun x=>if x=y then v else par x
def Best(S:Nat->List Nat)(n:Nat)(par:Nat->Int)(y z:Nat):Prop:=∀ w,UpTo par z w↔∀ p,p<n->y∈S p->par p≠-2->UpTo par p w
theorem anc_upd_far{y:Nat}{v:Int}{x z:Nat}(k:UpTo par x z)(hy:¬ UpTo par x y):UpTo (O7 par y v) x z:=by
 induction k with
 | refl x=>exact .refl _
 | @up x q z h t ih=>
  have hxy:x≠y:=by rintro rfl;exact hy (.refl _)
  refine .up (y:=q) ?_ (ih fun k=>hy (.up h k));unfold O7;rw[if_neg hxy];exact h
theorem anc_upd_low{y:Nat}{v:Int}{x:Nat}(k:UpTo par x y):UpTo (O7 par y v) x y:=by
 induction k with
 | refl x=>exact .refl _
 | @up x q z h t ih=>
  by_cases hxy:x=z
  ·subst hxy;exact .refl _
  ·refine .up (y:=q) ?_ ih;unfold O7;rw[if_neg hxy];exact h
theorem anc_upd_inv{y:Nat}{v:Int}{x w:Nat}(k:UpTo (O7 par y v) x w):UpTo par x w\/(UpTo par x y/\UpTo (O7 par y v) y w):=by
 induction k with
 | refl x=>exact .inl (.refl _)
 | @up x q w h t ih=>
  by_cases hxy:x=y
  ·subst hxy;exact .inr ⟨.refl _,.up h t⟩
  ·unfold O7 at h;rw[if_neg hxy]at h;rcases ih with h1|⟨h1,h2⟩
   ·exact .inl (.up h h1)
   ·exact .inr ⟨.up h h1,h2⟩
theorem low_or{y:Nat}{v:Int}{x d:Nat}(k:UpTo par x y)(hd:UpTo par x d):UpTo par y d\/UpTo (O7 par y v) x d:=by
 induction k with
 | refl x=>exact .inl hd
 | @up x q y hq t ih=>
  by_cases e:x=y
  ·subst e;exact .inl hd
  ·rcases(anc_up hq).1 hd with rfl|k
   ·exact .inr (.refl _)
   ·rcases ih k with h1|h1
    ·exact .inl h1
    ·exact .inr (.up (y:=q) (by unfold O7;rw[if_neg e];exact hq) h1)
structure Better(S:Nat->List Nat)(r n:Nat)(at_:Nat->Nat)(par:Nat->Int)(y z:Nat):Prop where
 inv:Inv S r n at_ par
 hy:y<n
 hr:y≠r
 hz:z<n
 best:Best S n par y z
 fwd:∃ p,p<n/\y∈S p/\par p≠-2/\at_ p<at_ y
variable {y z:Nat}
theorem Better.zlt(h:Better S r n at_ par y z):UpTo par z z/\par z≠-2/\at_ z<at_ y/\Fw S at_ z y:=by
 obtain⟨p,hp,hyp,hpp,hl⟩:=h.fwd;obtain⟨h1,h2,h3,h4⟩:=h.inv.anc ((h.best z).1 (.refl _) p hp hyp hpp) hp hpp;exact⟨.refl _,h2,by omega,.step h4 hyp hl⟩
theorem Better.above(h:Better S r n at_ par y z){w:Nat}:UpTo (O7 par y z) z w↔UpTo par z w:=by
 obtain⟨_,h2,h3,_⟩:=h.zlt
 have hn:¬ UpTo par z y:=fun k=>by have:=(h.inv.anc k h.hz h2).2.2.1;omega
 constructor
 ·intro k;rcases anc_upd_inv k with h1|⟨h1,_⟩
  ·exact h1
  ·exact absurd h1 hn
 ·intro k;exact anc_upd_far k hn
theorem Better.here(h:Better S r n at_ par y z){w:Nat}:UpTo (O7 par y z) y w↔w=y\/UpTo par z w:=by
 rw[anc_up (p:=z) (by simp[O7]),h.above]
theorem Better.av_here(h:Better S r n at_ par y z){d:Nat}(hd:¬ UpTo (O7 par y z) y d):Av S r d y:=by
 rw[h.here]at hd;have h1:¬ ∀ p,p<n->y∈S p->par p≠-2->UpTo par p d:=fun hh=>hd (.inr ((h.best d).2 hh));simp only[Classical.not_forall]at h1;obtain⟨p,hp,hyp,hpp,hnp⟩:=h1;exact .step (h.inv.all p hp hpp d hnp) hyp fun e=>hd (.inl e.symm)
theorem Better.inv'(h:Better S r n at_ par y z):Inv S r n at_ (O7 par y z):=by
 obtain⟨hzz,hz2,hzl,hzf⟩:=h.zlt;obtain⟨p,hp,hyp,hpp,hl⟩:=h.fwd
 have hne:∀ x,O7 par y z x≠-2->x=y\/par x≠-2:=fun x hx=>by
  by_cases e:x=y
  ·exact .inl e
  ·unfold O7 at hx;rw[if_neg e]at hx;exact .inr hx
 have hyv:O7 par y z y=(z:Int):=by simp[O7]
 have hyo:∀ x,x≠y->O7 par y z x=par x:=fun x e=>by unfold O7;rw[if_neg e]
 refine⟨by rw[hyo _ (Ne.symm h.hr)];exact h.inv.top,fun x hx=>?_,fun x hx w hw=>?_,fun x hx hxp=>?_,fun x hx hxp d hd=>?_⟩
 ·by_cases e:x=y
  ·subst e;exact .inr (.inr ⟨z,hyv⟩)
  ·rw[hyo x e];exact h.inv.kind x hx
 ·have hzn:∀ w,par w≠-2->O7 par y z w≠-2:=fun w hw=>by
   by_cases e:w=y
   ·subst e;rw[hyv];omega
   ·rw[hyo w e];exact hw
  by_cases e:x=y
  ·subst e;rw[hyv]at hw
   cases Tg hw
   exact⟨h.hz,hzn _ hz2,hzl,hzf⟩
  ·rw[hyo x e]at hw;obtain⟨h1,h2,h3,h4⟩:=h.inv.up x hx w hw;exact⟨h1,hzn _ h2,h3,h4⟩
 ·rcases hne x hxp with rfl|h1
  ·exact .step (h.inv.rc p hp hpp) hyp
  ·exact h.inv.rc x hx h1
 ·by_cases e:x=y
  ·subst e;exact h.av_here hd
  ·rw[hyo x e]at hxp
   by_cases hxd:UpTo par x d
   ·
    by_cases hxy:UpTo par x y
    ·have hyd:¬ UpTo (O7 par y z) y d:=fun k=>hd ((anc_upd_low hxy).trans k);have hav:=h.av_here hyd;have hf:=(h.inv.anc hxy hx hxp).2.2.2
     have hdy:UpTo par y d:=by
      rcases low_or (v:=(z:Int)) hxy hxd with h1|h1
      ·exact h1
      ·exact absurd h1 hd
     by_cases hpy:par y = -2
     ·
      have:d=y:=by
       refine(anc_top (par:=par) fun p hp=>?_).1 hdy;rw[hpy]at hp;omega
      subst this;exact absurd (.refl _) hyd
     ·rcases h.inv.strict hdy h.hy hpy with rfl|hlt
      ·exact absurd (.refl _) hyd
      ·exact hf.av hav hlt
    ·exact absurd (anc_upd_far hxd hxy) hd
   ·exact h.inv.all x hx hxp d hxd
end
section
variable {S:Nat->List Nat} {at_:Nat->Nat} {par:Nat->Int} {r n:Nat}
def QB(S:Nat->List Nat)(r n:Nat)(par:Nat->Int)(b:Nat->Nat):Prop:=∀ x,x<n->par x≠-2->∀ z,AvN S r z (b x) x->¬ UpTo par x z
def Full(S:Nat->List Nat)(r n:Nat)(par:Nat->Int):Prop:=∀ x,x<n->Rc S r x->par x≠-2
def Exact(S:Nat->List Nat)(r n:Nat)(par:Nat->Int):Prop:=∀ x,x<n->par x≠-2->∀ d,UpTo par x d↔¬ Av S r d x
theorem qb_zero(h:Inv S r n at_ par):QB S r n par fun _=>0:=fun x hx hp z hz k=>by
 cases hz with
 | root hr _=>exact hr (h.root_anc.1 k).symm
theorem rc_lt(hS:∀ x,x<n->∀ w∈S x,w<n)(hr:r<n){x:Nat}(h:Rc S r x):x<n:=by
 induction h with
 | root=>exact hr
 | step _ hy ih=>exact hS _ ih _ hy
theorem Better.qb{y z k:Nat}{b:Nat->Nat}(h:Better S r n at_ par y z)(hS:∀ x,x<n->∀ w∈S x,w<n)(hrn:r<n)(full:Full S r n par)(hb:∀ x,x<n->k<=b x/\b x<=k+1)(q:QB S r n par b) :
  QB S r n (O7 par y z) fun x=>if x=y then k+1 else b x:=by
 have here:∀ w,AvN S r w (k+1) y->¬ UpTo (O7 par y z) y w:=fun w hw hu=>by
  rcases h.here.1 hu with rfl|hu
  ·exact hw.av.ne rfl
  ·cases hw with
   | root hr _=>exact h.hr rfl
   | @step _ p _ hp hyp hne=>
    have hpn:=rc_lt hS hrn hp.av.rc;have hpp:=full p hpn hp.av.rc;exact q p hpn hpp w (hp.mono (hb p hpn).1) ((h.best w).1 hu p hpn hyp hpp)
 intro x hx hxp w hw hu
 dsimp only at hw
 by_cases e:x=y
 ·subst e;rw[if_pos rfl]at hw;exact here w hw hu
 ·rw[if_neg e]at hw;unfold O7 at hxp;rw[if_neg e]at hxp;rcases anc_upd_inv hu with h1|⟨h1,h2⟩
  ·exact q x hx hxp w hw h1
  ·rcases hw.via y with h3|h3
   ·exact q x hx hxp y h3 h1
   ·exact here w (h3.mono (hb x hx).2) h2
theorem exact_of(h:Inv S r n at_ par){K:Nat}(hK:∀ z,z<n->∀ x,x<n->Av S r z x->AvN S r z K x)(q:QB S r n par fun _=>K):Exact S r n par:=fun x hx hp d=>by
 constructor
 ·intro hu ha;exact q x hx hp d (hK d (h.anc hu hx hp).1 x hx ha) hu
 ·intro ha;exact zzL110 fun hn=>ha (h.all x hx hp d hn)
theorem Better.same{y z:Nat}(h:Better S r n at_ par y z)(hS:∀ x,x<n->∀ w∈S x,w<n)(hrn:r<n)(full:Full S r n par)(hy2:par y≠-2)(ex:Exact S r n par):par y=(z:Int):=by
 obtain⟨hzz,hz2,hzl,hzf⟩:=h.zlt;rcases h.inv.kind y h.hy with h1|h1|⟨q,hq⟩
 ·exact absurd h1 hy2
 ·exact absurd h1 h.hr
 ·obtain⟨q1,q2,q3,q4⟩:=h.inv.up y h.hy q hq
  have key:∀ w,UpTo par z w↔UpTo par q w:=fun w=>by
   rw[h.best w]
   constructor
   ·intro hall
    have hwy:¬ Av S r w y:=fun ha=>by
     cases ha with
     | root _=>exact h.hr rfl
     | @step p _ hp hyp hne=>
      have hpn:=rc_lt hS hrn hp.rc;have hpp:=full p hpn hp.rc;exact(ex p hpn hpp w).1 (hall p hpn hyp hpp) hp
    rcases(anc_up hq).1 ((ex y h.hy hy2 w).2 hwy) with rfl|hu
    ·have:=(h.inv.anc ((h.best _).2 hall) h.hz hz2).2.2.1;omega
    ·exact hu
   ·intro hu p hp hyp hpp;have hwy:UpTo par y w:=.up hq hu;refine(ex p hp hpp w).2 fun ha=>?_
    have hne:y≠w:=by rintro rfl;have:=(h.inv.anc hu q1 q2).2.2.1;omega
    exact(ex y h.hy hy2 w).1 hwy (.step ha hyp hne)
  have:=h.inv.antisymm ((key q).2 (.refl _)) ((key z).1 (.refl _)) h.hz hz2;rw[hq,this]
theorem exact_fix(h:Inv S r n at_ par)(hS:∀ x,x<n->∀ w∈S x,w<n)(hrn:r<n)(full:Full S r n par)(fix:∀ y,y<n->y≠r->Rc S r y->∃ z:Nat,par y=(z:Int)/\Best S n par y z):Exact S r n par:=fun x hx hp d=>by
 constructor
 ·intro hu ha
  induction ha with
  | root hne=>exact hne (h.root_anc.1 hu).symm
  | @step p y hp' hyp hne ih=>
   have hpn:=rc_lt hS hrn hp'.rc;have hpp:=full p hpn hp'.rc
   by_cases e:y=r
   ·subst e;exact hne (h.root_anc.1 hu).symm
   ·obtain⟨z,hz,hb⟩:=fix y hx e (.step hp'.rc hyp);rcases(anc_up hz).1 hu with rfl|hu
    ·exact hne rfl
    ·exact ih hpn hpp ((hb d).1 hu p hpn hyp hpp)
 ·intro ha;exact zzL110 fun hn=>ha (h.all x hx hp d hn)
end
def Bk(t:List Int):Nat->Int:=fun x=>t.getD x 0
theorem parL_set{t:List Int}{y:Nat}{v:Int}(hy:y<t.length):Bk (t.set y v)=O7 (Bk t) y v:=by
 funext x
 unfold Bk O7
 by_cases e:x=y
 ·subst e;simp[List.getD,hy]
 ·simp[List.getD,e,Ne.symm e]
open Classical in
def N2(S:Nat->List Nat)(n:Nat)(t:List Int)(y:Nat):Nat:=if h:∃ z,z<n/\Best S n (Bk t) y z then Classical.choose h else 0
def Wx(S:Nat->List Nat)(n:Nat)(P:List Nat)(t:List Int):Nat->List Int
 | 0=>t
 | i+1=>(Wx S n P t i).set (P.getD i 0) (N2 S n (Wx S n P t i) (P.getD i 0):Int)
def rnR(S:Nat->List Nat)(n:Nat)(P:List Nat)(t:List Int):Nat->List Int
 | 0=>t
 | j+1=>Wx S n P (rnR S n P t j) P.length
def H0(n r:Nat):List Int:=(List.replicate n (-2:Int)).set r (-1)
structure Ordered(S:Nat->List Nat)(r n:Nat)(P:List Nat):Prop where
 hr:r<n
 hS:∀ x,x<n->∀ w∈S x,w<n
 nodup:(r::P).Nodup
 mem:∀ x,x∈r::P↔Rc S r x
 fwd:∀ i,i<P.length->∃ p,p∈r::P.take i/\P.getD i 0∈S p
section
variable {S:Nat->List Nat} {r n:Nat} {P:List Nat}
theorem Ordered.lt(o:Ordered S r n P){x:Nat}(h:x∈r::P):x<n:=rc_lt o.hS o.hr ((o.mem x).1 h)
theorem Rd{i:Nat}(hi:i<P.length):P.getD i 0∈P:=by rw[Ai _ _ _ hi];exact V8 hi
theorem Ordered.at_lt(o:Ordered S r n P){i:Nat}(hi:i<P.length){p:Nat}(hp:p∈r::P.take i):pos (r::P) p<pos (r::P) (P.getD i 0):=by
 have hd:=o.nodup
 have h1:pos (r::P) (P.getD i 0)=i+1:=by
  have:=(pos_get hd (i:=i+1) (by simpa using hi)).2;rw[Ai _ _ _ hi]
  simpa using this
 rw[h1];obtain⟨j,hj,rfl⟩:=Qn hp
 have hj':j<i+1:=by simp at hj;omega
 have hjl:j<(r::P).length:=by simp;omega
 have e:(r::P.take i)[j]=(r::P)[j]:=by
  cases j with
  | zero=>rfl
  | succ j=>simp
 rw[e,(pos_get hd hjl).2];exact hj'
theorem inv0(o:Ordered S r n P):Inv S r n (pos (r::P)) (Bk (H0 n r))/\(H0 n r).length=n/\Bk (H0 n r) r≠-2:=by
 have hlen:(H0 n r).length=n:=by simp[H0]
 have hr:=o.hr
 have at_:∀ x,x<n->Bk (H0 n r) x=if x=r then -1 else -2:=fun x hx=>by
  unfold Bk H0
  by_cases e:x=r
  ·subst e;simp[List.getD,hx]
  ·simp[List.getD,hx,e,Ne.symm e]
 have hno:∀ x,x<n->∀ p:Nat,Bk (H0 n r) x≠(p:Int):=fun x hx p hp=>by rw[at_ x hx]at hp;split at hp<;>omega
 refine⟨⟨by rw[at_ r hr,if_pos rfl],fun x hx=>?_,fun x hx z hz=>absurd hz (hno x hx z),fun x hx hp=>?_,fun x hx hp d hd=>?_⟩,hlen,by rw[at_ r hr,if_pos rfl];omega⟩
 ·by_cases e:x=r
  ·exact .inr (.inl e)
  ·exact .inl (by rw[at_ x hx,if_neg e])
 ·by_cases e:x=r
  ·subst e;exact .root
  ·exact absurd (by rw[at_ x hx,if_neg e]) hp
 ·by_cases e:x=r
  ·subst e;exact .root (fun e=>hd (by rw[e];exact .refl _))
  ·exact absurd (by rw[at_ x hx,if_neg e]) hp
structure Ready(S:Nat->List Nat)(r n:Nat)(P:List Nat)(t:List Int)(i:Nat):Prop where
 inv:Inv S r n (pos (r::P)) (Bk t)
 len:t.length=n
 done:∀ x∈r::P.take i,Bk t x≠-2
theorem Inv.meets{at_:Nat->Nat}{par:Nat->Int}(h:Inv S r n at_ par)(hinj:∀ x y,x<n->y<n->par x≠-2->par y≠-2->at_ x=at_ y->x=y)(hr:at_ r=0):∀ m a b,at_ a+at_ b<=m->a<n->b<n->par a≠-2->par b≠-2->∃ c,MeetAt par a b c/\c<n/\par c≠-2:=by
 intro m
 induction m with
 | zero=>
  intro a b hm ha hb hpa hpb;have:a=b:=hinj a b ha hb hpa hpb (by omega);subst this;exact⟨a,meet_self,ha,hpa⟩
 | succ m ih=>
  have go:∀ a b,at_ a+at_ b<=m+1->a<n->b<n->par a≠-2->par b≠-2->at_ b<=at_ a->∃ c,MeetAt par a b c/\c<n/\par c≠-2:=fun a b hm ha hb hpa hpb hl=>by
   by_cases e:a=b
   ·subst e;exact⟨a,meet_self,ha,hpa⟩
   ·rcases h.kind a ha with h1|h1|⟨p,hp⟩
    ·exact absurd h1 hpa
    ·subst h1;exact absurd (hinj a b ha hb hpa hpb (by omega)) e
    ·obtain⟨p1,p2,p3,p4⟩:=h.up a ha p hp;obtain⟨c,hc,hc2⟩:=ih p b (by omega) p1 hb p2 hpb;exact⟨c,h.meet_left hinj ha hpa hb hpb e hl hp hc,hc2⟩
  intro a b hm ha hb hpa hpb;rcases Nat.le_total (at_ b) (at_ a) with hl|hl
  ·exact go a b hm ha hb hpa hpb hl
  ·obtain⟨c,hc,hc2⟩:=go b a (by omega) hb ha hpb hpa hl;exact⟨c,meet_swap hc,hc2⟩
theorem Ready.inj(o:Ordered S r n P){t:List Int}{i:Nat}(h:Ready S r n P t i):∀ x y,x<n->y<n->Bk t x≠-2->Bk t y≠-2->pos (r::P) x=pos (r::P) y->x=y:=fun x y hx hy hpx hpy he=>by
 have hm:∀ x,x<n->Bk t x≠-2->x∈r::P:=fun x hx hp=>(o.mem x).2 (h.inv.rc x hx hp)
 have back:∀ x∈r::P,(r::P).getD (pos (r::P) x) 0=x:=fun x hx=>by
  obtain⟨j,hj,rfl⟩:=Qn hx;rw[(pos_get o.nodup hj).2,Ai _ _ _ hj]
 rw[<- back x (hm x hx hpx),<- back y (hm y hy hpy),he]
theorem pos_root:pos (r::P) r=0:=by rw[pos_cons,if_pos rfl]
theorem Ready.meetAll(o:Ordered S r n P){t:List Int}{i:Nat}(h:Ready S r n P t i):∀ l:List Nat,(∀ p∈l,p<n/\Bk t p≠-2)->l≠[]->∃ z,z<n/\Bk t z≠-2/\∀ w,UpTo (Bk t) z w↔∀ p∈l,UpTo (Bk t) p w:=by
 intro l
 induction l with
 | nil=>intro _ hn;exact absurd rfl hn
 | cons p l ih=>
  intro hl _;obtain⟨hp1,hp2⟩:=hl p (zzL38 ..)
  by_cases hl0:l=[]
  ·subst hl0;exact⟨p,hp1,hp2,fun w=>by simp⟩
  ·obtain⟨z,hz1,hz2,hz3⟩:=ih (fun q hq=>hl q (zzL18 _ hq)) hl0;obtain⟨c,hc1,hc2,hc3⟩:=h.inv.meets (h.inj o) pos_root _ p z (zzL9 _) hp1 hz1 hp2 hz2;exact⟨c,hc2,hc3,fun w=>by rw[hc1 w,hz3 w];simp⟩
theorem Ready.best(o:Ordered S r n P){t:List Int}{i:Nat}(h:Ready S r n P t i)(hi:i<P.length):Better S r n (pos (r::P)) (Bk t) (P.getD i 0) (N2 S n t (P.getD i 0)):=by
 have hy:=Rd hi;have hyr:P.getD i 0≠r:=fun e=>(zzL98.1 o.nodup).1 (e▸hy);have hyn:=o.lt (zzL18 _ hy);obtain⟨p,hp,hyp⟩:=o.fwd i hi;have hp2:=h.done p hp
 have hpP:p∈r::P:=by
  rcases zzL29.1 hp with rfl|hp
  ·exact zzL38 ..
  ·exact zzL18 _ (List.mem_of_mem_take hp)
 have hpn:=o.lt hpP
 have hex:∃ z,z<n/\Best S n (Bk t) (P.getD i 0) z:=by
  classical
  obtain⟨z,hz1,hz2,hz3⟩:=h.meetAll o ((List.range n).filter fun p=>decide (P.getD i 0∈S p/\Bk t p≠-2)) (fun p hp=>by
   obtain⟨h1,h2⟩:=zzL76.1 hp
   exact⟨zzL52.1 h1,(zzL94 h2).2⟩) (fun e=>by
   have:p∈(List.range n).filter fun p=>decide (P.getD i 0∈S p/\Bk t p≠-2):=zzL76.2 ⟨zzL52.2 hpn,B2 ⟨hyp,hp2⟩⟩
   rw[e]at this;cases this)
  refine⟨z,hz1,fun w=>?_⟩;rw[hz3 w]
  constructor
  ·intro k p hp hyp hpp;exact k p (zzL76.2 ⟨zzL52.2 hp,B2 ⟨hyp,hpp⟩⟩)
  ·intro k p hp;obtain⟨h1,h2⟩:=zzL76.1 hp;exact k p (zzL52.1 h1) (zzL94 h2).1 (zzL94 h2).2
 have hb:N2 S n t (P.getD i 0)<n/\Best S n (Bk t) (P.getD i 0) (N2 S n t (P.getD i 0)):=by
  unfold N2;rw[dif_pos hex];exact Classical.choose_spec hex
 exact⟨h.inv,hyn,hyr,hb.1,hb.2,p,hpn,hyp,hp2,o.at_lt hi hp⟩
theorem Ready.best_eq(o:Ordered S r n P){t:List Int}{i:Nat}(h:Ready S r n P t i)(hi:i<P.length){z:Nat}(hz:z<n)(hz2:Bk t z≠-2)(hb:Best S n (Bk t) (P.getD i 0) z):z=N2 S n t (P.getD i 0):=by
 have b:=h.best o hi;exact(h.inv.antisymm ((hb _).2 ((b.best _).1 (.refl _))) ((b.best _).2 ((hb _).1 (.refl _))) hz hz2).symm
theorem Ready.next(o:Ordered S r n P){t:List Int}{i:Nat}(h:Ready S r n P t i)(hi:i<P.length):Ready S r n P (t.set (P.getD i 0) (N2 S n t (P.getD i 0):Int)) (i+1):=by
 have b:=h.best o hi;have e:=parL_set (t:=t) (y:=P.getD i 0) (v:=(N2 S n t (P.getD i 0):Int)) (by rw[h.len];exact b.hy);refine⟨by rw[e];exact b.inv',by rw[G2];exact h.len,fun x hx=>?_⟩;rw[e];unfold O7
 split
 ·omega
 ·rename_i hne
  refine h.done x ?_;rcases zzL29.1 hx with rfl|hx
  ·exact zzL38 ..
  ·rw[zzL82 hi]at hx;rcases zzL17.1 hx with hx|hx
   ·exact zzL18 _ hx
   ·rw[zzL19,<- Ai _ _ 0 hi]at hx;exact absurd hx hne
theorem Ready.more(o:Ordered S r n P){t:List Int}(h:Ready S r n P t P.length)(i:Nat):Ready S r n P t i:=
 ⟨h.inv,h.len,fun x hx=>h.done x (by
  rw[zzL90];rcases zzL29.1 hx with rfl|hx
  ·exact zzL38 ..
  ·exact zzL18 _ (List.mem_of_mem_take hx))⟩
theorem Ready.full(o:Ordered S r n P){t:List Int}(h:Ready S r n P t P.length):Full S r n (Bk t):=fun x hx hr=>h.done x (by rw[zzL90];exact(o.mem x).2 hr)
theorem Ready.round(o:Ordered S r n P){t:List Int}(h:Ready S r n P t 0):∀ i,i<=P.length->Ready S r n P (Wx S n P t i) i:=by
 intro i
 induction i with
 | zero=>intro _;exact h
 | succ i ih=>intro hi;exact(ih (by omega)).next o (by omega)
theorem ready0(o:Ordered S r n P):Ready S r n P (H0 n r) 0:=by
 obtain⟨h1,h2,h3⟩:=inv0 o;exact⟨h1,h2,fun x hx=>by simp at hx;subst hx;exact h3⟩
theorem Ready.rounds(o:Ordered S r n P):∀ j,Ready S r n P (rnR S n P (H0 n r) j) 0:=by
 intro j
 induction j with
 | zero=>exact ready0 o
 | succ j ih=>exact((ih.round o) P.length (zzL9 _)).more o 0
theorem Ready.rounds'(o:Ordered S r n P)(j:Nat):Ready S r n P (rnR S n P (H0 n r) (j+1)) P.length:=(Ready.rounds o j).round o P.length (zzL9 _)
theorem qb_round(o:Ordered S r n P){t:List Int}{k:Nat}(h:Ready S r n P t P.length)(q:QB S r n (Bk t) fun _=>k):QB S r n (Bk (Wx S n P t P.length)) fun _=>k+1:=by
 have key:∀ i,i<=P.length->QB S r n (Bk (Wx S n P t i)) (fun x=>if x∈P.take i then k+1 else k)/\Full S r n (Bk (Wx S n P t i)):=by
  intro i
  induction i with
  | zero=>intro _;exact⟨by simpa [Wx] using q,h.full o⟩
  | succ i ih=>
   intro hi;obtain⟨q1,f1⟩:=ih (by omega);have rd:=(h.more o 0).round o i (by omega);have b:=rd.best o (by omega);have e:=parL_set (t:=Wx S n P t i) (y:=P.getD i 0) (v:=(N2 S n (Wx S n P t i) (P.getD i 0):Int)) (by rw[rd.len];exact b.hy)
   constructor
   ·show QB S r n (Bk ((Wx S n P t i).set _ _)) _
    rw[e];have:=b.qb (k:=k) o.hS o.hr f1 (fun x _=>by split<;>omega) q1;intro x hx hp z hz;refine this x hx hp z ?_
    dsimp only at hz ⊢
    rw[zzL82 (by omega:i<P.length)]at hz
    by_cases e1:x=P.getD i 0
    ·rw[if_pos e1];rwa[if_pos (zzL17.2 (.inr (zzL19.2 (by rw[e1,Ai _ _ _ (by omega:i<P.length)]))))]at hz
    ·rw[if_neg e1]
     by_cases e2:x∈P.take i
     ·rw[if_pos e2];rwa[if_pos (zzL17.2 (.inl e2))]at hz
     ·rw[if_neg e2]
      rwa[if_neg (fun hm=>by
       rcases zzL17.1 hm with hm|hm
       ·exact e2 hm
       ·rw[zzL19,<- Ai _ _ 0 (by omega:i<P.length)]at hm;exact e1 hm)]at hz
   ·show Full S r n (Bk ((Wx S n P t i).set _ _))
    rw[e];intro x hx hr;unfold O7
    split
    ·omega
    ·exact f1 x hx hr
 have q1:=(key P.length (zzL9 _)).1;rw[zzL90]at q1;have rd:=(h.more o 0).round o P.length (zzL9 _);intro x hx hp z hz;refine q1 x hx hp z ?_
 dsimp only at hz ⊢
 by_cases e:x∈P
 ·rw[if_pos e];exact hz
 ·rw[if_neg e]
  have hxr:x=r:=by
   rcases zzL29.1 ((o.mem x).2 (rd.inv.rc x hx hp)) with h1|h1
   ·exact h1
   ·exact absurd h1 e
  subst hxr;exact .root hz.av.ne k
def Vq(S:Nat->List Nat)(n:Nat)(P:List Nat)(t:List Int):Prop:=∀ i,i<P.length->Bk t (P.getD i 0)=(N2 S n t (P.getD i 0):Int)
theorem Yd{t:List Int}(o:Ordered S r n P)(hl:t.length=n)(h:Vq S n P t):∀ i,i<=P.length->Wx S n P t i=t:=by
 intro i
 induction i with
 | zero=>intro _;rfl
 | succ i ih=>
  intro hi;unfold Wx;rw[ih (by omega),<- h i (by omega)]
  have hlt:P.getD i 0<t.length:=by rw[hl];exact o.lt (zzL18 _ (Rd (by omega)))
  unfold Bk;rw[Ai _ _ _ hlt];exact List.set_getElem_self hlt
theorem stops(o:Ordered S r n P):∃ J,(∀ j,j<J->¬ Vq S n P (rnR S n P (H0 n r) j))/\Vq S n P (rnR S n P (H0 n r) J):=by
 obtain⟨K,hK⟩:=avn_bound (S:=S) (r:=r) n
 have hq:∀ k,QB S r n (Bk (rnR S n P (H0 n r) (k+1))) fun _=>k:=by
  intro k
  induction k with
  | zero=>exact qb_zero (Ready.rounds' o 0).inv
  | succ k ih=>exact qb_round o (Ready.rounds' o k) ih
 have hst:Vq S n P (rnR S n P (H0 n r) (K+1)):=fun i hi=>by
  have rd:=Ready.rounds' o K;exact((rd.more o i).best o hi).same o.hS o.hr (rd.full o) (rd.done _ (zzL18 _ (by rw[zzL90];exact Rd hi))) (exact_of rd.inv hK (hq K))
 have key:∀ m,(∃ J,J<=m/\Vq S n P (rnR S n P (H0 n r) J))->∃ J,(∀ j,j<J->¬ Vq S n P (rnR S n P (H0 n r) j))/\Vq S n P (rnR S n P (H0 n r) J):=by
  intro m
  induction m with
  | zero=>rintro⟨J,hJ,h⟩;exact⟨J,fun j hj=>by omega,h⟩
  | succ m ih=>
   rintro⟨J,hJ,h⟩
   by_cases hm:∃ J,J<=m/\Vq S n P (rnR S n P (H0 n r) J)
   ·exact ih hm
   ·exact⟨J,fun j hj hs=>hm ⟨j,by omega,hs⟩,h⟩
 exact key (K+1) ⟨K+1,zzL9 _,hst⟩
structure DomTree(S:Nat->List Nat)(r n:Nat)(P:List Nat)(t:List Int):Prop where
 inv:Inv S r n (pos (r::P)) (Bk t)
 len:t.length=n
 full:Full S r n (Bk t)
 exact_:Exact S r n (Bk t)
theorem still_exact(o:Ordered S r n P){j:Nat}(h:Vq S n P (rnR S n P (H0 n r) j)):DomTree S r n P (rnR S n P (H0 n r) j):=by
 have rd:=Ready.rounds o j
 have hall:Ready S r n P (rnR S n P (H0 n r) j) P.length:=by
  have:=rd.round o P.length (zzL9 _);rwa[Yd o rd.len h P.length (zzL9 _)]at this
 refine⟨rd.inv,rd.len,hall.full o,exact_fix rd.inv o.hS o.hr (hall.full o) fun y hy hne hr=>?_⟩
 have hm:y∈P:=by
  rcases zzL29.1 ((o.mem y).2 hr) with h1|h1
  ·exact absurd h1 hne
  ·exact h1
 obtain⟨i,hi,rfl⟩:=Qn hm;have b:=(hall.more o i).best o hi;rw[Ai _ _ _ hi]at b;have hs:=h i hi;rw[Ai _ _ _ hi]at hs;exact⟨_,hs,b.best⟩
end
section
variable {S:Nat->List Nat} {s s':Nat->Bool} {l o:List Nat}
theorem VL.before(h:VL S s l s' o):∀ A z B,o=A++z::B->z∈l\/∃ p∈B,z∈S p:=by
 induction h with
 | nil s=>intro A z B e;simp at e
 | skip h _ ih=>
  intro A z B e;rcases ih A z B e with h1|h1
  ·exact .inl (zzL18 _ h1)
  ·exact .inr h1
 | @step s s1 s2 y l o1 o2 h a b iha ihb=>
  intro A z B e;rcases List.append_eq_append_iff.1 e with⟨C,hC1,hC2⟩|⟨C,hC1,hC2⟩
  ·
   cases C with
   | nil=>
    simp at hC2;obtain⟨rfl,rfl⟩:=hC2;exact .inl (zzL38 ..)
   | cons c C=>
    simp at hC2;obtain⟨rfl,hC2⟩:=hC2;rcases ihb C z B hC2 with h1|h1
    ·exact .inl (zzL18 _ h1)
    ·exact .inr h1
  ·cases C with
   | nil=>
    simp at hC2;obtain⟨rfl,rfl⟩:=hC2;exact .inl (zzL38 ..)
   | cons c C=>
    simp at hC2;obtain⟨rfl,rfl⟩:=hC2;rcases iha A z C hC1 with h1|⟨p,hp,hz⟩
    ·exact .inr ⟨y,by simp,h1⟩
    ·exact .inr ⟨p,by simp[hp],hz⟩
theorem Ord.ordered{n r:Nat}{L:List Nat}(hr:r<n)(hS:∀ x,x<n->∀ w∈S x,w<n)(h:Ord S r L):∃ P,L=r::P/\Ordered S r n P:=by
 have h1:=h.nodup;have h2:=h.mem;obtain⟨s',o,hv,rfl⟩:=h;refine⟨o.reverse,rfl,hr,hS,h1,fun x=>by rw[h2 x,rc_iff],fun i hi=>?_⟩
 have hi':i<o.length:=by simpa using hi
 have e:o.reverse=o.reverse.take i++o.reverse[i]::o.reverse.drop (i+1):=by rw[<- Ym hi,List.take_append_drop]
 have e2:o=(o.reverse.drop (i+1)).reverse++o.reverse[i]::(o.reverse.take i).reverse:=by
  have:=Cl List.reverse e;rw[List.reverse_reverse]at this;rw[List.reverse_append,List.reverse_cons]at this
  simpa using this
 rw[Ai _ _ _ hi];rcases hv.before _ _ _ e2 with h3|⟨p,hp,hz⟩
 ·exact⟨r,zzL38 ..,h3⟩
 ·exact⟨p,zzL18 _ (zzL125.1 hp),hz⟩
end
def woI(S:Nat->List Nat)(w:Int):Nat->List Nat:=fun x=>(S x).filter fun y=>decide ((y:Int)≠w)
theorem woI_none(S:Nat->List Nat):woI S (-1)=S:=by
 funext x
 unfold woI;exact List.filter_eq_self.2 fun y _=>B2 (by omega)
theorem woI_nat(S:Nat->List Nat)(z:Nat):woI S (z:Int)=wo S z:=by
 funext x
 unfold woI wo
 congr 1
 funext y
 exact zzL60.2 ⟨fun h e=>h (by rw[e]),fun h e=>h (Tg e)⟩
def K1(L:List (List Int))(r:Nat)(w:Int):List Bool:=if(r:Int)=w then List.replicate L.length false else rds (woI (sN L) w) L.length ((List.replicate L.length false).set r true) L.length
theorem reachW_len(L:List (List Int))(r:Nat)(w:Int):(K1 L r w).length=L.length:=by
 unfold K1
 split
 ·simp
 ·rw[Ve];simp
theorem m_reachW{L:List (List Int)}(hm:Lt L=true){r:Nat}(hr:r<L.length)(w:Int) :
  C3 (I7 L) (r:Int) w=some (K1 L r w):=by
 obtain⟨h1,h2,h3⟩:=mayS_iff.1 hm
 have hroom:(1000:Nat)<=room:=by decide
 have hS:=V3 hm;have hSw:∀ z,z<L.length->∀ y∈woI (sN L) w z,y<L.length:=fun z hz y hy=>hS z hz y (zzL76.1 hy).1;have hgs:(I7 L).Succ=L:=rfl
 have hlenS:∀ a,(sN L a).length=(L.getD a []).length:=fun a=>by simp[sN]
 let fl:List Nat->List Nat:=fun l=>l.filter fun y=>decide ((y:Int)≠w)
 have hin:∀(o:List Bool) (i:Nat),o.length=L.length->i<L.length->Ag (A1 (I7 L) w (i:Int)) ((0:Int),o)=some (if o.getD i false=true then mk o (woI (sN L) w i) else o):=fun o i ho hi=>by
  have hb:=Y7 (h3 i hi)
  by_cases hoi:o.getD i false=true
  ·rw[if_pos hoi];have hmi:∀ k,(mk o (fl ((sN L i).take k))).getD i false=true:=fun k=>(mk_at (n:=L.length) _ _ ho (fun y hy=>hS i hi y (List.mem_of_mem_take (zzL76.1 hy).1)) i).2 (.inl hoi)
   have hml:∀ k,(mk o (fl ((sN L i).take k))).length=L.length:=fun k=>by rw[mk_len,ho]
   refine Gg (A1 (I7 L) w (i:Int)) (fun k=>(((k:Nat):Int),mk o (fl ((sN L i).take k)))) _ (L.getD i []).length (fun k hk=>?_) ?_
   ·show A1 (I7 L) w (i:Int) (_,_)=_
    unfold A1;obtain⟨a0,a1⟩:=Xq (h3 i hi) hk;simp only[hgs,Au,hmi];rw[Ad (Gc (by rw[hml];exact hi)),L0 (Gc hi),Af,De hk,Af,Ad (Gc hi),Ad (Gc hk)]
    have hk':k<(sN L i).length:=by rw[hlenS];exact hk
    have hsk:(sN L i)[k]=((L.getD i []).getD k 0).toNat:=by rw[Ai _ _ _ hk];simp[sN]
    have hski:(((sN L i)[k]:Nat):Int)=(L.getD i []).getD k 0:=by rw[hsk];exact V7 a0
    have e:mk o (fl ((sN L i).take (k+1)))=if(L.getD i []).getD k 0=w then mk o (fl ((sN L i).take k)) else(mk o (fl ((sN L i).take k))).set ((L.getD i []).getD k 0).toNat true:=by
     rw[zzL82 hk']
     show mk o (List.filter _ (_++[_]))=_
     rw[zzL120]
     by_cases hw:(L.getD i []).getD k 0=w
     ·rw[if_pos hw]
      have:List.filter (fun y:Nat=>decide ((y:Int)≠w)) [(sN L i)[k]]=[]:=by rw[List.filter_cons,hski,hw];simp
      rw[this,List.append_nil]
     ·rw[if_neg hw]
      have:List.filter (fun y:Nat=>decide ((y:Int)≠w)) [(sN L i)[k]]=[(sN L i)[k]]:=by rw[List.filter_cons,hski,if_pos (B2 hw)];rfl
      rw[this];unfold mk;rw[List.foldl_append,hsk]
      rfl
    by_cases hw:(L.getD i []).getD k 0=w
    ·have hne:((L.getD i []).getD k 0 !=w)=false:=by rw[hw];simp
     rw[hne,Ar,An,w1 (by omega),e,if_pos hw]
    ·have hne:((L.getD i []).getD k 0 !=w)=true:=by rw[zzL101];exact hw
     rw[hne,Af,Ad (Gc hi),Ad (Gc hk),Ad ⟨a0,by rw[hml];exact a1⟩,w1 (by omega),e,if_neg hw]
     rfl
   ·show A1 (I7 L) w (i:Int) (_,_)=_
    unfold A1;simp only[hgs,Au,hmi];rw[Ad (Gc (by rw[hml];exact hi)),L0 (Gc hi),Af,Gf,Ar]
    have:(sN L i).take (L.getD i []).length=sN L i:=by rw[<- hlenS];exact zzL90 ..
    rw[this]
    rfl
  ·have hof:o.getD i false=false:=by simpa using hoi
   rw[if_neg hoi]
   apply Ao
   unfold A1;simp only[hgs,Au,hof];rw[Ad (Gc (by rw[ho];exact hi)),L0 (Gc hi),Ar,Ar]
 have hsw:∀ o:List Bool,o.length=L.length->Ag (A3 (I7 L) w) ((0:Int),o)=some (sw (woI (sN L) w) o L.length):=fun o ho=>by
  refine Gg (A3 (I7 L) w) (fun i=>(((i:Nat):Int),sw (woI (sN L) w) o i)) _ L.length (fun i hi=>?_) ?_
  ·show A3 (I7 L) w (_,_)=_
   unfold A3
   have hl:(sw (woI (sN L) w) o i).length=L.length:=by rw[Td,ho]
   simp only[hl,De hi,Af];rw[hin _ i hl hi,w1 (by omega)]
   rfl
  ·show A3 (I7 L) w (_,_)=_
   unfold A3
   have hl:(sw (woI (sN L) w) o L.length).length=L.length:=by rw[Td,ho]
   simp only[hl,Gf,Ar]
 unfold C3;simp only[hgs,Au];rw[Ad ⟨by omega,Int.le_refl _,by omega⟩];unfold K1
 by_cases hrw:(r:Int)=w
 ·rw[if_pos hrw]
  have:((r:Int)==w)=true:=by simpa using hrw
  rw[this,Af]
 ·rw[if_neg hrw]
  have hne:((r:Int)==w)=false:=by rw[zzL34];exact hrw
  rw[hne,Ar,Ad (Gc (by simpa using hr))]
  have hl0:((List.replicate L.length false).set r true).length=L.length:=by simp
  have:Ag (A4 (I7 L) w) ((0:Int),(List.replicate L.length false).set r true)=some (rds (woI (sN L) w) L.length ((List.replicate L.length false).set r true) L.length):=by
   refine Gg (A4 (I7 L) w) (fun j=>(((j:Nat):Int),rds (woI (sN L) w) L.length ((List.replicate L.length false).set r true) j)) _ L.length (fun j hj=>?_) ?_
   ·show A4 (I7 L) w (_,_)=_
    unfold A4
    have hl:(rds (woI (sN L) w) L.length ((List.replicate L.length false).set r true) j).length=L.length:=by rw[Ve,hl0]
    simp only[hl,De hj,Af];rw[hsw _ hl,w1 (by omega)]
    rfl
   ·show A4 (I7 L) w (_,_)=_
    unfold A4
    have hl:(rds (woI (sN L) w) L.length ((List.replicate L.length false).set r true) L.length).length=L.length:=by rw[Ve,hl0]
    simp only[hl,Gf,Ar]
  rw[this]
  rfl
theorem reach_at{L:List (List Int)}(hm:Lt L=true){r:Nat}(hr:r<L.length){b:Nat}:(K1 L r (-1)).getD b false=true↔Rc (sN L) r b:=by
 unfold K1;rw[if_neg (by omega),woI_none,rds_spec (V3 hm) hr b,rc_iff]
theorem reachWo_at{L:List (List Int)}(hm:Lt L=true){r:Nat}(hr:r<L.length){a b:Nat}(hb:b<L.length):(K1 L r (a:Int)).getD b false=true↔Av (sN L) r a b:=by
 unfold K1;rw[av_iff]
 by_cases h:r=a
 ·subst h;rw[if_pos rfl,Ry]
  simp
 ·rw[if_neg (by omega),woI_nat,rds_spec (S:=wo (sN L) a) (fun z hz y hy=>V3 hm z hz y (zzL76.1 hy).1) hr b];simp[h]
def Nu(L:List (List Int))(r a b:Nat):Bool:=(K1 L r (-1)).getD b false&&!(K1 L r (a:Int)).getD b false
theorem over_iff{L:List (List Int)}(hm:Lt L=true){r a b:Nat}(hr:r<L.length)(hb:b<L.length):Nu L r a b=true↔Rc (sN L) r b/\¬ Av (sN L) r a b:=by
 unfold Nu;rw[Bc,Ph,<- Bool.not_eq_true,reach_at hm hr,reachWo_at hm hr hb]
def nearB(L:List (List Int))(r a b:Nat):Bool:=(List.range L.length).all fun c=>decide (c=b) || !Nu L r c b || Nu L r c a
def Rx(L:List (List Int))(r b:Nat):Nat->Int
 | 0=>-2
 | a+1=>if a≠b/\Nu L r a b=true/\nearB L r a b=true then(a:Int) else Rx L r b a
def Vi(L:List (List Int))(r b:Nat):Int:=if b=r then -1 else Rx L r b L.length
def V4(L:List (List Int))(r:Nat):List Int:=(List.range L.length).map (Vi L r)
theorem treeD_len(L:List (List Int))(r:Nat):(V4 L r).length=L.length:=by simp[V4]
theorem treeD_at{L:List (List Int)}{r b:Nat}(hb:b<L.length):(V4 L r).getD b 0=Vi L r b:=by unfold V4;rw[Qt hb]
theorem pick_cases(L:List (List Int))(r b:Nat):∀ m,(Rx L r b m = -2/\∀ a,a<m->¬ (a≠b/\Nu L r a b=true/\nearB L r a b=true))\/∃ a,a<m/\Rx L r b m=(a:Int)/\a≠b/\Nu L r a b=true/\nearB L r a b=true:=by
 intro m
 induction m with
 | zero=>exact .inl ⟨rfl,fun a ha=>absurd ha (Qp a)⟩
 | succ m ih=>
  unfold Rx
  by_cases h:m≠b/\Nu L r m b=true/\nearB L r m b=true
  ·rw[if_pos h];exact .inr ⟨m,by omega,rfl,h⟩
  ·rw[if_neg h];rcases ih with⟨h1,h2⟩|⟨a,h1,h2⟩
   ·refine .inl ⟨h1,fun a ha=>?_⟩;rcases zzL126.1 ha with h3|rfl
    ·exact h2 a h3
    ·exact h
   ·exact .inr ⟨a,by omega,h2⟩
theorem DomTree.eq{L:List (List Int)}(hm:Lt L=true){r:Nat}(hr:r<L.length){P t:List _}(o:Ordered (sN L) r L.length P)(h:DomTree (sN L) r L.length P t):t=V4 L r:=by
 refine Yi (by rw[h.len,treeD_len]) fun b h1 h2=>?_
 have hb:b<L.length:=by rw[<- h.len];exact h1
 rw[<- Ai _ _ 0 h1,<- Ai _ _ 0 h2,treeD_at hb]
 show Bk t b=_
 have hov:∀ a b,b<L.length->Bk t b≠-2->(Nu L r a b=true↔UpTo (Bk t) b a):=fun a b hb hp=>by
  rw[over_iff hm hr hb,h.exact_ b hb hp];exact⟨fun k=>k.2,fun k=>⟨h.inv.rc b hb hp,k⟩⟩
 unfold Vi
 by_cases hbr:b=r
 ·subst hbr;rw[if_pos rfl];exact h.inv.top
 ·rw[if_neg hbr];rcases h.inv.kind b hb with hk|hk|⟨z,hz⟩
  ·
   have hn:¬ Rc (sN L) r b:=fun k=>h.full b hb k hk;rcases pick_cases L r b L.length with⟨h3,_⟩|⟨a,_,_,_,h6,_⟩
   ·rw[hk,h3]
   ·exact absurd ((over_iff hm hr hb).1 h6).1 hn
  ·exact absurd hk hbr
  ·obtain⟨z1,z2,z3,z4⟩:=h.inv.up b hb z hz
   have hp:Bk t b≠-2:=by omega
   have hzo:Nu L r z b=true:=(hov z b hb hp).2 (.up hz (.refl _))
   have hzb:z≠b:=by rintro rfl;omega
   have hnear:nearB L r z b=true:=all_range.2 fun c hc=>by
    by_cases e:c=b
    ·simp[e]
    ·cases ho:Nu L r c b with
     | false=>simp
     | true=>
      have:=(hov c b hb hp).1 ho;rcases(anc_up hz).1 this with h3|h3
      ·exact absurd h3 e
      ·rw[(hov c z z1 z2).2 h3];simp
   rcases pick_cases L r b L.length with⟨_,h3⟩|⟨a,h3,h4,h5,h6,h7⟩
   ·exact absurd ⟨hzb,hzo,hnear⟩ (h3 z z1)
   ·rw[h4,hz];have haU:=(hov a b hb hp).1 h6
    have ha1:UpTo (Bk t) z a:=by
     rcases(anc_up hz).1 haU with h8|h8
     ·exact absurd h8 h5
     ·exact h8
    have hap:=(h.inv.anc ha1 z1 z2).2.1
    have hza:UpTo (Bk t) a z:=by
     have:=all_range.1 h7 z z1;simp only[hzo,hzb,decide_false,Df,zzL140]at this;exact(hov z a h3 hap).1 this
    rw[h.inv.antisymm ha1 hza z1 z2]
theorem mayG_eq{g:TGraph}(h:Uw g=true):Lt g.Succ=true/\g=I7 g.Succ:=by
 unfold Uw at h;rw[Bc]at h;refine⟨h.1,?_⟩;obtain⟨s,p⟩:=g;have:=zzL94 h.2;simp only at this;unfold I7;rw[this]
theorem beq_nat{a b:Nat}:(((a:Nat):Int)==(b:Int))=decide (a=b):=by
 by_cases h:a=b
 ·subst h;simp
 ·rw[zzL34.2 (by omega)];simp[h]
theorem bne_nat{a b:Nat}:(((a:Nat):Int)!=(b:Int)) = !decide (a=b):=by
 unfold bne;rw[beq_nat]
section
variable {L:List (List Int)} (hm:Lt L=true) {r:Nat} (hr:r<L.length)
def rowK(L:List (List Int))(r a k:Nat):List Bool:=(List.range L.length).map fun b=>if b<k then Nu L r a b else false
def rowD(L:List (List Int))(r a:Nat):List Bool:=(List.range L.length).map fun b=>Nu L r a b
def ovM(L:List (List Int))(r:Nat):List (List Bool):=(List.range L.length).map fun a=>rowD L r a
theorem ovM_len:(ovM L r).length=L.length:=by simp[ovM]
theorem ovM_at{a:Nat}(ha:a<L.length):(ovM L r).getD a []=rowD L r a:=by unfold ovM;rw[Qt ha]
theorem rowD_len{a:Nat}:(rowD L r a).length=L.length:=by simp[rowD]
theorem rowD_at{a b:Nat}(hb:b<L.length):(rowD L r a).getD b false=Nu L r a b:=by unfold rowD;rw[Qt hb]
include hm hr
omit hr in
theorem tree_L1(a:Nat)(l5:List (List Bool))(hl5:l5.length=L.length)(ha:a<L.length):Ag (C5 (I7 L) (K1 L r (-1)) (a:Int) l5 (K1 L r (a:Int))) ((0:Int),List.replicate L.length false)=some (rowD L r a):=by
 obtain⟨h1,h2,h3⟩:=mayS_iff.1 hm;have hgs:(I7 L).Succ=L:=rfl
 have e0:List.replicate L.length false=rowK L r a 0:=by
  refine Yi (by simp[rowK]) fun i h1 h2=>by simp[rowK]
 have e1:rowD L r a=rowK L r a L.length:=by
  unfold rowD rowK
  exact Hn fun i hi=>by rw[if_pos hi]
 have hlen:∀ k,(rowK L r a k).length=L.length:=fun k=>by simp[rowK]
 rw[e0];refine Gg (C5 (I7 L) (K1 L r (-1)) (a:Int) l5 (K1 L r (a:Int))) (fun k=>(((k:Nat):Int),rowK L r a k)) _ L.length (fun k hk=>?_) ?_
 ·show C5 (I7 L) _ _ _ _ (_,_)=_
  unfold C5;simp only[hgs,Au,De hk,Af];rw[Ad (Gc (by rw[hl5];exact ha)),Ad (Gc (by rw[reachW_len];exact hk)),Ad (fun _=>Gc (by rw[reachW_len];exact hk)),Ad (Gc (by rw[hlen];exact hk)),w1 (by omega)]
  have:(rowK L r a k).set k (bif (K1 L r (-1)).getD k false then !(K1 L r (a:Int)).getD k false else false)=rowK L r a (k+1):=by
   unfold rowK;rw[Yb];refine Hn fun i hi=>?_
   by_cases e:i=k
   ·subst e;rw[if_pos rfl,if_pos (by omega)];unfold Nu
    cases(K1 L r (-1)).getD i false<;>rfl
   ·rw[if_neg e]
    by_cases e2:i<k
    ·rw[if_pos e2,if_pos (by omega)]
    ·rw[if_neg e2,if_neg (by omega)]
  rw[this]
 ·show C5 (I7 L) _ _ _ _ (_,_)=_
  unfold C5;simp only[hgs,Gf,Ar];rw[e1]
theorem tree_L2:Ag (C6 (I7 L) (r:Int) (K1 L r (-1))) ((0:Int),List.replicate L.length ([]:List Bool))=some (ovM L r):=by
 obtain⟨h1,h2,h3⟩:=mayS_iff.1 hm;have hgs:(I7 L).Succ=L:=rfl
 have hroom:(1000:Nat)<=room:=by decide
 let M:Nat->List (List Bool):=fun k=>(List.range L.length).map fun a=>if a<k then rowD L r a else[]
 have hM:∀ k,(M k).length=L.length:=fun k=>by simp[M]
 have e0:List.replicate L.length ([]:List Bool)=M 0:=by
  refine Yi (by simp[M]) fun i h1 h2=>by simp[M]
 have e1:ovM L r=M L.length:=Hn fun i hi=>by rw[if_pos hi]
 rw[e0];refine Gg (C6 (I7 L) (r:Int) (K1 L r (-1))) (fun k=>(((k:Nat):Int),M k)) _ L.length (fun k hk=>?_) ?_
 ·show C6 (I7 L) _ _ (_,_)=_
  unfold C6;simp only[hgs,Au,De hk,Af];rw[Ad ⟨by omega,Int.le_refl _,by omega⟩,Ad (Gc (by rw[hM];exact hk)),m_reachW hm hr,An,tree_L1 hm k (M k) (hM k) hk,An,w1 (by omega)]
  have:(M k).set k (rowD L r k)=M (k+1):=by
   show((List.range L.length).map _).set k _=_
   rw[Yb];refine Hn fun i hi=>?_
   by_cases e:i=k
   ·subst e;rw[if_pos rfl,if_pos (by omega)]
   ·rw[if_neg e]
    by_cases e2:i<k
    ·rw[if_pos e2,if_pos (by omega)]
    ·rw[if_neg e2,if_neg (by omega)]
  rw[this]
 ·show C6 (I7 L) _ _ (_,_)=_
  unfold C6;simp only[hgs,Gf,Ar];rw[e1]
omit hr in
theorem tree_L3(a b:Nat)(ha:a<L.length)(hb:b<L.length):Ag (C7 (I7 L) (ovM L r) (b:Int) (a:Int)) (true,(0:Int))=some (nearB L r a b):=by
 obtain⟨h1,h2,h3⟩:=mayS_iff.1 hm;have hgs:(I7 L).Succ=L:=rfl
 let N:Nat->Bool:=fun k=>(List.range k).all fun c=>decide (c=b) || !Nu L r c b || Nu L r c a
 refine Gg (C7 (I7 L) (ovM L r) (b:Int) (a:Int)) (fun k=>(N k,((k:Nat):Int))) _ L.length (fun k hk=>?_) ?_
 ·show C7 (I7 L) _ _ _ (_,_)=_
  unfold C7;simp only[hgs,Au,De hk,Af,ovM_at hk,ovM_len,rowD_len,rowD_at hb,rowD_at ha];rw[Ad (fun _=>Gc hk),Ad (fun _=>Gc hb),Ad (fun _=>Gc hk),Ad (fun _=>Gc ha),w1 (by omega),beq_nat]
  have:(bif N k then(bif (bif decide (k=b) then true else !Nu L r k b) then true else Nu L r k a) else false)=N (k+1):=by
   show _=(List.range (k+1)).all _
   rw[all_succ]
   show _=(N k&&_)
   cases N k<;>cases decide (k=b)<;>cases Nu L r k b<;>rfl
  rw[this]
 ·show C7 (I7 L) _ _ _ (_,_)=_
  unfold C7;simp only[hgs,Gf,Ar]
  rfl
def Pe(L:List (List Int))(r b:Nat)(x:Int):List Int:=(List.range L.length).map fun j=>if j<b then Vi L r j else if j=b then x else 0
omit hm hr in
theorem treeK_len{b:Nat}{x:Int}:(Pe L r b x).length=L.length:=by simp[Pe]
omit hm hr in
theorem treeK_set{b:Nat}{x y:Int}:(Pe L r b x).set b y=Pe L r b y:=by
 unfold Pe;rw[Yb];refine Hn fun i hi=>?_
 by_cases e:i=b
 ·subst e;rw[if_pos rfl,if_neg (by omega),if_pos rfl]
 ·rw[if_neg e,if_neg e,if_neg e]
omit hm hr in
theorem treeK_next{b:Nat}:Pe L r b (Vi L r b)=Pe L r (b+1) 0:=by
 unfold Pe;refine Hn fun i hi=>?_
 by_cases e:i<b
 ·rw[if_pos e,if_pos (by omega)]
 ·rw[if_neg e]
  by_cases e2:i=b
  ·subst e2;rw[if_pos rfl,if_pos (by omega)]
  ·rw[if_neg e2,if_neg (by omega)];split<;>rfl
omit hr in
theorem tree_L4(b:Nat)(hb:b<L.length)(hbr:b≠r):Ag (Bt (I7 L) (r:Int) (ovM L r) (b:Int)) ((0:Int),Pe L r b (-2))=some (Pe L r b (Rx L r b L.length)):=by
 obtain⟨h1,h2,h3⟩:=mayS_iff.1 hm;have hgs:(I7 L).Succ=L:=rfl;refine Gg (Bt (I7 L) (r:Int) (ovM L r) (b:Int)) (fun k=>(((k:Nat):Int),Pe L r b (Rx L r b k))) _ L.length (fun k hk=>?_) ?_
 ·show Bt (I7 L) _ _ _ (_,_)=_
  unfold Bt
  have hne:decide (b=r)=false:=by simp[hbr]
  simp only[hgs,Au,De hk,Af,ovM_at hk,ovM_len,rowD_len,rowD_at hb,beq_nat,bne_nat,hne,L2];rw[Ad (fun _=>Gc hk),Ad (fun _=>Gc hb),tree_L3 hm k b hk hb]
  by_cases hkb:k=b
  ·have e:Rx L r b (k+1)=Rx L r b k:=by show(if _ then _ else _)=_;rw[if_neg (fun h=>h.1 hkb)]
   rw[B2 hkb,Af,Af,An,w1 (by omega),e]
  ·rw[C0 hkb,Ar]
   cases ho:Nu L r k b with
   | false=>
    have e:Rx L r b (k+1)=Rx L r b k:=by show(if _ then _ else _)=_;rw[if_neg (fun h=>by rw[ho]at h;exact absurd h.2.1 (by decide))]
    rw[L2,Af,An,w1 (by omega),e]
   | true=>
    rw[Df,Ar,An]
    cases hn:nearB L r k b with
    | false=>
     have e:Rx L r b (k+1)=Rx L r b k:=by show(if _ then _ else _)=_;rw[if_neg (fun h=>by rw[hn]at h;exact absurd h.2.2 (by decide))]
     rw[Ar,An,w1 (by omega),e]
    | true=>
     have e:Rx L r b (k+1)=(k:Int):=by show(if _ then _ else _)=_;rw[if_pos ⟨hkb,ho,hn⟩]
     rw[Af,Ad (Gc (by rw[treeK_len];exact hb)),An,w1 (by omega),e,treeK_set]
 ·show Bt (I7 L) _ _ _ (_,_)=_
  unfold Bt;simp only[hgs,Gf,Ar]
omit hr in
theorem tree_L5:Ag (C8 (I7 L) (r:Int) (ovM L r)) ((0:Int),List.replicate L.length (0:Int))=some (V4 L r):=by
 obtain⟨h1,h2,h3⟩:=mayS_iff.1 hm;have hgs:(I7 L).Succ=L:=rfl
 have e0:List.replicate L.length (0:Int)=Pe L r 0 0:=by
  refine Yi (by simp[Pe]) fun i h1 h2=>by simp[Pe]
 have e1:V4 L r=Pe L r L.length 0:=Hn fun i hi=>by rw[if_pos hi]
 rw[e0];refine Gg (C8 (I7 L) (r:Int) (ovM L r)) (fun k=>(((k:Nat):Int),Pe L r k 0)) _ L.length (fun k hk=>?_) ?_
 ·show C8 (I7 L) _ _ (_,_)=_
  unfold C8;simp only[hgs,Au,De hk,Af];rw[Ad (Gc (by rw[treeK_len];exact hk)),beq_nat,treeK_set,treeK_set]
  by_cases hkr:k=r
  ·rw[B2 hkr,Af,Ad (Gc (by rw[treeK_len];exact hk)),An]
   have hd:Ag (Bt (I7 L) (r:Int) (ovM L r) (k:Int)) ((0:Int),Pe L r k (-1))=some (Pe L r k (-1)):=by
    apply Ao
    unfold Bt;simp only[bne_nat,B2 hkr,Df,bif_same,Ar]
   rw[hd,An,w1 (by omega)]
   have:Vi L r k = -1:=by unfold Vi;rw[if_pos hkr]
   rw[<- this,treeK_next]
  ·rw[C0 hkr,Ar,An,tree_L4 hm k hk hkr,An,w1 (by omega)]
   have:Vi L r k=Rx L r k L.length:=by unfold Vi;rw[if_neg hkr]
   rw[<- this,treeK_next]
 ·show C8 (I7 L) _ _ (_,_)=_
  unfold C8;simp only[hgs,Gf,Ar];rw[e1]
end
def treeG(g:TGraph)(r:Int):List Int:=if Uw g=true/\0<=r/\r<(g.Succ.length:Int) then V4 g.Succ r.toNat else[]
theorem m_ref_tree(g:TGraph)(h:Fits g.Succ)(r:Int):Ij g r=some (treeG g r):=by
 have hroom:(1000:Nat)<=room:=by decide
 unfold Ij treeG;rw[m_ref_may g h,An]
 cases hmg:Uw g with
 | false=>
  rw[if_neg (fun h=>by exact absurd h.1 (by decide))]
  rfl
 | true=>
  rw[Df,Ar]
  by_cases h0:r<0
  ·rw[B2 h0,Af,if_neg (by omega)]
   rfl
  ·rw[C0 h0,Ar]
   by_cases h1:(g.Succ.length:Int)<=r
   ·rw[B2 h1,Af,if_neg (by omega)]
   ·rw[C0 h1,Ar,if_pos ⟨rfl,by omega,by omega⟩];obtain⟨hms,hg⟩:=mayG_eq hmg;obtain⟨hl1,hl2,hl3⟩:=mayS_iff.1 hms;obtain⟨q,rfl⟩:∃ q:Nat,r=(q:Int):=⟨r.toNat,by omega⟩
    have hq:q<g.Succ.length:=by omega
    rw[hg];have hgs:(I7 g.Succ).Succ=g.Succ:=rfl;simp only[hgs,Au];rw[m_reachW hms hq,An,Ad ⟨by omega,Int.le_refl _,by omega⟩,tree_L2 hms hq,An,Ad ⟨by omega,Int.le_refl _,by omega⟩,tree_L5 hms,An]
def upD(t:List Int):Nat->Int->Option (List Int)
 | 0,_=>none
 | k+1,a=>if 0<=a/\a<(t.length:Int) then(if t.getD a.toNat 0 = -1 then some [a] else(upD t k (t.getD a.toNat 0)).map fun l=>a::l) else none
def Ee(t:List Int)(a:Int):List Int:=(upD t t.length a).getD []
def sumO(l:List Int):Option (List Int)->Unit ⊕ List Int
 | none=>.inl ()
 | some q=>.inr (l++q)
theorem path_loop(t:List Int)(ht:t.length<=1000):∀(k:Nat) (a:Int) (l:List Int),l.length+k=t.length->Ag (B9 t) (a,l)=some (sumO l (upD t k a)):=by
 have hroom:(2000:Nat)<=room:=by decide
 intro k
 induction k with
 | zero=>
  intro a l hl
  apply Ao
  unfold B9;have:decide ((l.length:Int)<(t.length:Int))=false:=C0 (by omega);simp only[this,Ar]
  rfl
 | succ k ih=>
  intro a l hl;have hlt:decide ((l.length:Int)<(t.length:Int))=true:=B2 (by omega);unfold upD
  by_cases h0:0<=a
  ·by_cases h1:a<(t.length:Int)
   ·have hin:A5 a t.length:=⟨h0,h1⟩;rw[if_pos ⟨h0,h1⟩]
    by_cases ht1:t.getD a.toNat 0 = -1
    ·rw[if_pos ht1]
     apply Ao
     unfold B9;simp only[hlt,B2 h0,B2 h1,Af];rw[Ad (by simp;omega),Ad hin,ht1]
     rfl
    ·rw[if_neg ht1]
     have hs:B9 t (a,l)=some (.next (t.getD a.toNat 0,l++[a])):=by
      unfold B9;have hb:(t.getD a.toNat 0==(-1:Int))=false:=zzL34.2 ht1;simp only[hlt,B2 h0,B2 h1,Af];rw[Ad (by simp;omega),Ad hin,hb,Ar,Ad hin]
     rw[Ay hs,ih _ (l++[a]) (by simp;omega)]
     cases upD t k (t.getD a.toNat 0) with
     | none=>rfl
     | some q=>show some (Sum.inr ((l++[a])++q))=some (Sum.inr (l++a::q));simp
   ·rw[if_neg (by omega)]
    apply Ao
    unfold B9;simp only[hlt,B2 h0,C0 h1,Af,Ar]
    rfl
  ·rw[if_neg (by omega)]
   apply Ao
   unfold B9;simp only[hlt,C0 h0,Af,Ar]
   rfl
theorem m_path(t:List Int)(ht:t.length<=1000)(a:Int):Ff t a=some (Ee t a):=by
 unfold Ff Ee;rw[path_loop t ht t.length a [] (by simp),An]
 cases upD t t.length a with
 | none=>rfl
 | some q=>rfl
theorem upD_len(t:List Int):∀ k a q,upD t k a=some q->q.length<=k/\1<=q.length:=by
 intro k
 induction k with
 | zero=>intro a q h;cases h
 | succ k ih=>
  intro a q h;unfold upD at h
  split at h
  ·split at h
   ·cases h;simp
   ·cases hu:upD t k (t.getD a.toNat 0) with
    | none=>rw[hu]at h;cases h
    | some q'=>rw[hu]at h;cases h;have:=ih _ _ hu;simp;omega
  ·cases h
theorem pathD_len(t:List Int)(a:Int):(Ee t a).length<=t.length:=by
 unfold Ee
 cases h:upD t t.length a with
 | none=>simp
 | some q=>exact(upD_len t _ _ _ h).1
theorem pathD_nil{t:List Int}{a:Int}:Ee t a=[]↔upD t t.length a=none:=by
 unfold Ee
 cases h:upD t t.length a with
 | none=>simp
 | some q=>have:=(upD_len t _ _ _ h).2;simp;intro e;subst e;simp at this
def topsK(t:List Int)(k:Nat):Nat:=((List.range k).filter fun a=>decide (t.getD a 0 = -1)).length
def okR(t:List Int)(a:Nat):Bool:=decide (t.getD a 0 = -2) || !decide (Ee t (a:Int)=[])
def K3(t:List Int):Bool:=(List.range t.length).all (okR t)&&decide (topsK t t.length=1)
theorem topsK_succ(t:List Int)(k:Nat):topsK t (k+1)=topsK t k+if t.getD k 0 = -1 then 1 else 0:=by
 unfold topsK;rw[Aac,zzL120,Fh]
 by_cases h:t.getD k 0 = -1
 ·rw[if_pos h]
  have:List.filter (fun a=>decide (t.getD a 0 = -1)) [k]=[k]:=by rw[List.filter_cons,if_pos (B2 h)];rfl
  rw[this];rfl
 ·rw[if_neg h]
  have:List.filter (fun a=>decide (t.getD a 0 = -1)) [k]=[]:=by rw[List.filter_cons,if_neg (by simpa using h)];rfl
  rw[this];rfl
theorem topsK_le(t:List Int)(k:Nat):topsK t k<=k:=by
 unfold topsK;exact Qd (List.length_filter_le ..) (by simp)
theorem len_zero{l:List Int}:(((l.length:Nat):Int)==(0:Int))=decide (l=[]):=by
 cases l with
 | nil=>rfl
 | cons x l=>simp;omega
theorem right_loop(t:List Int)(ht:t.length<=1000):Ag (Bj t) ((0:Int),(0:Int))=some (bif (List.range t.length).all (okR t) then .inl ((topsK t t.length:Nat):Int) else .inr false):=by
 have body:∀ k,k<t.length->Bj t (((topsK t k:Nat):Int),(k:Int))=some (bif okR t k then .next (((topsK t (k+1):Nat):Int),((k+1:Nat):Int)) else .done (.inr false)):=fun k hk=>by
  have hle:=topsK_le t k;unfold Bj;simp only[Au,De hk,Af];rw[Ad (Gc hk)]
  have e1:(bif (t.getD k 0==(-1:Int)) then some (w64 (((topsK t k:Nat):Int)+1)) else some ((topsK t k:Nat):Int))=some ((topsK t (k+1):Nat):Int):=by
   rw[topsK_succ]
   by_cases h:t.getD k 0 = -1
   ·rw[if_pos h,zzL71.2 h,Af,w1 (by omega)]
   ·rw[if_neg h,zzL34.2 h,Ar];rfl
  rw[e1,An]
  by_cases h2:t.getD k 0 = -2
  ·have hb:(t.getD k 0 !=(-2:Int))=false:=by rw[h2];rfl
   have ho:okR t k=true:=by unfold okR;rw[B2 h2];rfl
   rw[hb,show(false==true)=false from rfl,Ar,An,Ar,Ar,Ad (Gc hk),w1 (by omega),ho,Af]
  ·have hb:(t.getD k 0 !=(-2:Int))=true:=zzL101.2 h2
   have ho:okR t k = !decide (Ee t (k:Int)=[]):=by unfold okR;rw[C0 h2];rfl
   rw[hb,show(true==true)=true from rfl,Af,m_path t ht,An,Af,len_zero,Ad (Gc hk),w1 (by omega),ho]
   cases decide (Ee t (k:Int)=[])<;>rfl
 have:=Iq (Bj t) (fun k=>(((topsK t k:Nat):Int),((k:Nat):Int))) (okR t) (.inl ((topsK t t.length:Nat):Int)) (.inr false) t.length (fun i hi hp=>by
   show Bj t _=_;rw[body i hi,hp,Af]) (fun i hi hp=>by
   show Bj t _=_;rw[body i hi,hp,Ar]) (by
   show Bj t _=_
   unfold Bj
   simp only[Gf,Ar])
 exact this
theorem m_right(t:List Int)(ht:t.length<=1000):Hj t=some (K3 t):=by
 unfold Hj K3;rw[right_loop t ht,An]
 cases(List.range t.length).all (okR t) with
 | false=>rfl
 | true=>
  rw[Af,F8]
  show some (((topsK t t.length:Nat):Int)==(1:Int))=_
  have:(1:Int)=((1:Nat):Int):=rfl;rw[this,beq_nat]
theorem find_first(p:Int->Bool):∀ l:List Int,(∃ n,n<l.length/\(∀ i,i<n->p (l.getD i 0)=false)/\p (l.getD n 0)=true/\l.find? p=some (l.getD n 0))\/((∀ i,i<l.length->p (l.getD i 0)=false)/\l.find? p=none):=by
 intro l
 induction l with
 | nil=>exact .inr ⟨fun i hi=>absurd hi (Qp i),rfl⟩
 | cons x l ih=>
  cases hx:p x with
  | true=>exact .inl ⟨0,by simp,fun i hi=>absurd hi (Qp i),by simpa using hx,by simp[List.find?,hx]⟩
  | false=>
   rcases ih with⟨n,h1,h2,h3,h4⟩|⟨h1,h2⟩
   ·refine .inl ⟨n+1,by simpa using h1,fun i hi=>?_,by simpa using h3,by simp[List.find?,hx,h4]⟩
    cases i with
    | zero=>simpa using hx
    | succ i=>simpa using h2 i (by omega)
   ·refine .inr ⟨fun i hi=>?_,by simp only[List.find?,hx];exact h2⟩
    cases i with
    | zero=>simpa using hx
    | succ i=>simpa using h1 i (by simpa using hi)
def Pc(t:List Int)(a b:Int):Int:=if K3 t=true then((Ee t a).find? fun x=>(Ee t b).contains x).getD (-2) else -2
def X2(t:List Int)(a b:Int):Bool:=Pc t a b==a&&Pc t a b !=-2
theorem m_meet(t:List Int)(ht:t.length<=1000)(a b:Int):Ii t a b=some (Pc t a b):=by
 unfold Ii Pc;rw[m_right t ht,An]
 cases K3 t with
 | false=>rfl
 | true=>
  rw[Df,Ar,m_path t ht,An,m_path t ht,An,if_pos rfl];have hp:=pathD_len t a;have hq:=pathD_len t b
  have body:∀ k,k<(Ee t a).length->Ba (Ee t a) (Ee t b) (k:Int)=some (bif (Ee t b).contains ((Ee t a).getD k 0) then .done (.inr ((Ee t a).getD k 0)) else .next ((k+1:Nat):Int)):=fun k hk=>by
   unfold Ba;simp only[Au,De hk,Af];rw[Ad (Gc hk),m_has _ _ (by omega),An,w1 (by omega),Ad (Gc hk)]
   cases(Ee t b).contains ((Ee t a).getD k 0)<;>rfl
  rcases find_first (fun x=>(Ee t b).contains x) (Ee t a) with⟨n,h1,h2,h3,h4⟩|⟨h1,h2⟩
  ·have:=Gg (Ba (Ee t a) (Ee t b)) (fun k=>((k:Nat):Int)) (.inr ((Ee t a).getD n 0)) n (fun k hk=>by
    show Ba _ _ _=_;rw[body k (by omega),h2 k hk,Ar]) (by
    show Ba _ _ _=_;rw[body n h1,h3,Af])
   have e:Ag (Ba (Ee t a) (Ee t b)) (0:Int)=_:=this;rw[e,An,h4]
   rfl
  ·have:=Gg (Ba (Ee t a) (Ee t b)) (fun k=>((k:Nat):Int)) (.inl ()) (Ee t a).length (fun k hk=>by
    show Ba _ _ _=_;rw[body k hk,h1 k hk,Ar]) (by
    show Ba _ _ _=_
    unfold Ba
    simp only[Gf,Ar])
   have e:Ag (Ba (Ee t a) (Ee t b)) (0:Int)=_:=this;rw[e,An,h2]
   rfl
section
variable {S:Nat->List Nat} {r n:Nat} {P:List Nat} {t:List Int}
theorem DomTree.up(h:DomTree S r n P t):∀ k x,x<n->Bk t x≠-2->pos (r::P) x<k->∃ q,upD t k (x:Int)=some q/\(∀ w:Int,w∈q↔∃ z:Nat,w=(z:Int)/\UpTo (Bk t) x z) /\
  ∀ p:Int->Bool,(q.find? p=none/\∀ z:Nat,UpTo (Bk t) x z->p (z:Int)=false)\/∃ f:Nat,q.find? p=some (f:Int)/\UpTo (Bk t) x f/\p (f:Int)=true/\∀ z:Nat,UpTo (Bk t) x z->p (z:Int)=true->UpTo (Bk t) f z:=by
 intro k
 induction k with
 | zero=>intro x _ _ hk;exact absurd hk (Qp _)
 | succ k ih=>
  intro x hx hp hk
  have hxt:(0:Int)<=(x:Int)/\(x:Int)<(t.length:Int):=by rw[h.len];omega
  unfold upD;rw[if_pos hxt,Au];have hpx:t.getD x 0=Bk t x:=rfl;rw[hpx];rcases h.inv.kind x hx with h1|rfl|⟨z,hz⟩
  ·exact absurd h1 hp
  ·rw[if_pos h.inv.top];refine⟨_,rfl,fun w=>?_,fun p=>?_⟩
   ·rw[zzL19]
    constructor
    ·rintro rfl;exact⟨x,rfl,.refl _⟩
    ·rintro⟨z,rfl,hz⟩;rw[h.inv.root_anc.1 hz]
   ·cases hpp:p (x:Int) with
    | false=>exact .inl ⟨by simp[List.find?,hpp],fun z hz=>by rw[h.inv.root_anc.1 hz];exact hpp⟩
    | true=>exact .inr ⟨x,by simp[List.find?,hpp],.refl _,hpp,fun z hz _=>hz⟩
  ·obtain⟨z1,z2,z3,z4⟩:=h.inv.up x hx z hz;rw[hz,if_neg (by omega)];obtain⟨q,hq1,hq2,hq3⟩:=ih z z1 z2 (by omega);rw[hq1];refine⟨(x:Int)::q,rfl,fun w=>?_,fun p=>?_⟩
   ·rw[zzL29,hq2 w]
    constructor
    ·rintro(rfl|⟨y,rfl,hy⟩)
     ·exact⟨x,rfl,.refl _⟩
     ·exact⟨y,rfl,.up hz hy⟩
    ·rintro⟨y,rfl,hy⟩;rcases(anc_up hz).1 hy with rfl|hy
     ·exact .inl rfl
     ·exact .inr ⟨y,rfl,hy⟩
   ·cases hpp:p (x:Int) with
    | true=>exact .inr ⟨x,by simp[List.find?,hpp],.refl _,hpp,fun y hy _=>hy⟩
    | false=>
     have hf:((x:Int)::q).find? p=q.find? p:=by simp[List.find?,hpp]
     rw[hf];rcases hq3 p with⟨e1,e2⟩|⟨f,e1,e2,e3,e4⟩
     ·refine .inl ⟨e1,fun y hy=>?_⟩;rcases(anc_up hz).1 hy with rfl|hy
      ·exact hpp
      ·exact e2 y hy
     ·refine .inr ⟨f,e1,.up hz e2,e3,fun y hy hpy=>?_⟩;rcases(anc_up hz).1 hy with rfl|hy
      ·rw[hpp]at hpy;cases hpy
      ·exact e4 y hy hpy
theorem Ordered.pos_lt(o:Ordered S r n P){x:Nat}(hx:x∈r::P):pos (r::P) x<n:=by
 obtain⟨j,hj,rfl⟩:=Qn hx;rw[(pos_get o.nodup hj).2];have:=Pm n (r::P) o.nodup fun y hy=>o.lt hy;omega
theorem DomTree.path(h:DomTree S r n P t)(o:Ordered S r n P){x:Nat}(hx:x<n)(hp:Bk t x≠-2):Ee t (x:Int)≠[]/\(∀ w:Int,w∈Ee t (x:Int)↔∃ z:Nat,w=(z:Int)/\UpTo (Bk t) x z) /\
  ∀ p:Int->Bool,((Ee t (x:Int)).find? p=none/\∀ z:Nat,UpTo (Bk t) x z->p (z:Int)=false)\/∃ f:Nat,(Ee t (x:Int)).find? p=some (f:Int)/\UpTo (Bk t) x f/\p (f:Int)=true/\∀ z:Nat,UpTo (Bk t) x z->p (z:Int)=true->UpTo (Bk t) f z:=by
 have hm:=(o.mem x).2 (h.inv.rc x hx hp);obtain⟨q,h1,h2,h3⟩:=h.up n x hx hp (o.pos_lt hm)
 have e:Ee t (x:Int)=q:=by unfold Ee;rw[h.len,h1];rfl
 rw[e];refine⟨fun e=>?_,h2,h3⟩;have:=(h2 (x:Int)).2 ⟨x,rfl,.refl _⟩;rw[e]at this
 cases this
theorem DomTree.nopath(h:DomTree S r n P t){x:Nat}(hx:x<n)(hp:Bk t x = -2):Ee t (x:Int)=[]:=by
 rw[pathD_nil]
 cases hl:t.length with
 | zero=>rfl
 | succ k=>
  unfold upD;rw[if_pos ⟨by omega,by rw[h.len];omega⟩,Au,show t.getD x 0=Bk t x from rfl,hp,if_neg (by omega)]
  cases k with
  | zero=>rfl
  | succ k=>unfold upD;rw[if_neg (by omega)];rfl
theorem DomTree.right(h:DomTree S r n P t)(o:Ordered S r n P):K3 t=true:=by
 unfold K3;rw[Bc]
 constructor
 ·refine all_range.2 fun x hx=>?_;rw[h.len]at hx;unfold okR
  by_cases hp:Bk t x = -2
  ·rw[show t.getD x 0=Bk t x from rfl,hp];rfl
  ·rw[C0 (h.path o hx hp).1];simp
 ·apply B2
  have key:∀ k,k<=n->topsK t k=if r<k then 1 else 0:=by
   intro k
   induction k with
   | zero=>intro _;rfl
   | succ k ih=>
    intro hk;rw[topsK_succ,ih (by omega)]
    have hr:t.getD k 0 = -1↔k=r:=by
     constructor
     ·intro he;rcases h.inv.kind k (by omega) with h1|h1|⟨z,hz⟩
      ·rw[show t.getD k 0=Bk t k from rfl,h1]at he;omega
      ·exact h1
      ·rw[show t.getD k 0=Bk t k from rfl,hz]at he;omega
     ·rintro rfl;exact h.inv.top
    by_cases hkr:k=r
    ·subst hkr;rw[if_neg (by omega),if_pos (hr.2 rfl),if_pos (by omega)]
    ·rw[if_neg (fun e=>hkr (hr.1 e))]
     by_cases h2:r<k
     ·rw[if_pos h2,if_pos (by omega)]
     ·rw[if_neg h2,if_neg (by omega)]
  rw[h.len,key n (zzL9 _),if_pos o.hr]
theorem DomTree.meet(h:DomTree S r n P t)(o:Ordered S r n P){a b:Nat}(ha:a<n)(hb:b<n)(hpa:Bk t a≠-2)(hpb:Bk t b≠-2):∃ m:Nat,Pc t (a:Int) (b:Int)=(m:Int)/\MeetAt (Bk t) a b m/\m<n/\Bk t m≠-2:=by
 have rd:Ready S r n P t P.length:=⟨h.inv,h.len,fun x hx=>by rw[zzL90]at hx;exact h.full x (o.lt hx) ((o.mem x).1 hx)⟩;obtain⟨c,hc1,hc2,hc3⟩:=h.inv.meets (rd.inj o) pos_root _ a b (zzL9 _) ha hb hpa hpb;refine⟨c,?_,hc1,hc2,hc3⟩;unfold Pc;rw[if_pos (h.right o)];obtain⟨hca,hcb⟩:=(hc1 c).1 (.refl _)
 have hin:∀ z:Nat,(Ee t (b:Int)).contains (z:Int)=true↔UpTo (Bk t) b z:=fun z=>by
  rw[zzL68,(h.path o hb hpb).2.1]
  constructor
  ·rintro⟨y,hy,hu⟩;cases Tg hy;exact hu
  ·intro hu;exact⟨z,rfl,hu⟩
 rcases(h.path o ha hpa).2.2 fun x=>(Ee t (b:Int)).contains x with⟨_,h2⟩|⟨f,h1,h2,h3,h4⟩
 ·have:=h2 c hca;rw[(hin c).2 hcb]at this
  cases this
 ·rw[h1];have hfc:=h4 c hca ((hin c).2 hcb);have hcf:=(hc1 f).2 ⟨h2,(hin f).1 h3⟩;rw[h.inv.antisymm hcf hfc hc2 hc3]
  rfl
theorem DomTree.meet_none(h:DomTree S r n P t)(o:Ordered S r n P){a b:Nat}(ha:a<n)(hb:b<n)(hp:Bk t a = -2\/Bk t b = -2):Pc t (a:Int) (b:Int) = -2:=by
 unfold Pc;rw[if_pos (h.right o)];rcases hp with hp|hp
 ·rw[h.nopath ha hp];rfl
 ·rw[h.nopath hb hp]
  have:(Ee t (a:Int)).find? (fun x=>([]:List Int).contains x)=none:=List.find?_eq_none.2 fun x _=>by simp
  rw[this];rfl
theorem DomTree.over(h:DomTree S r n P t)(o:Ordered S r n P){a b:Nat}(ha:a<n)(hb:b<n):X2 t (a:Int) (b:Int)=true↔Bk t b≠-2/\UpTo (Bk t) b a:=by
 unfold X2;rw[Bc,zzL71,zzL101]
 by_cases hpa:Bk t a = -2
 ·rw[h.meet_none o ha hb (.inl hpa)]
  constructor
  ·rintro⟨h1,_⟩;omega
  ·rintro⟨h1,h2⟩;exact absurd hpa (h.inv.anc h2 hb h1).2.1
 ·by_cases hpb:Bk t b = -2
  ·rw[h.meet_none o ha hb (.inr hpb)]
   constructor
   ·rintro⟨h1,_⟩;omega
   ·rintro⟨h1,_⟩;exact absurd hpb h1
  ·obtain⟨m,hm1,hm2,hm3,hm4⟩:=h.meet o ha hb hpa hpb;rw[hm1]
   constructor
   ·rintro⟨h1,_⟩;have h1:=Tg h1;subst h1;exact⟨hpb,((hm2 _).1 (.refl _)).2⟩
   ·rintro⟨_,h2⟩;have:=(hm2 a).2 ⟨.refl _,h2⟩;have h3:=((hm2 m).1 (.refl _)).1;rw[h.inv.antisymm h3 this ha hpa];exact⟨rfl,by omega⟩
theorem DomTree.over_dom(h:DomTree S r n P t)(o:Ordered S r n P){a b:Nat}(ha:a<n)(hb:b<n):X2 t (a:Int) (b:Int)=true↔Rc S r b/\¬ Av S r a b:=by
 rw[h.over o ha hb]
 constructor
 ·rintro⟨h1,h2⟩;exact⟨h.inv.rc b hb h1,(h.exact_ b hb h1 a).1 h2⟩
 ·rintro⟨h1,h2⟩;have:=h.full b hb h1;exact⟨this,(h.exact_ b hb this a).2 h2⟩
end
section
variable {L:List (List Int)} (hm:Lt L=true) {r:Nat} (hr:r<L.length)
include hm hr
theorem treeD_dom:∃ P,Ord (sN L) r (r::P)/\Ordered (sN L) r L.length P/\DomTree (sN L) r L.length P (V4 L r):=by
 obtain⟨O,hO⟩:=Ord.exist (V3 hm) hr;obtain⟨P,rfl,o⟩:=hO.ordered hr (V3 hm);obtain⟨J,_,hJ⟩:=stops o;have hd:=still_exact o hJ;refine⟨P,hO,o,?_⟩;rw[<- hd.eq hm hr o];exact hd
end
theorem loop_allN{X:Type}(n:Nat)(p:Nat->Bool)(f:Int->Option (LR Int X))(yes no:X)(hn:∀ i:Nat,i<n->p i=true->f (i:Int)=some (.next ((i:Int)+1)))
  (hf:∀ i:Nat,i<n->p i=false->f (i:Int)=some (.done no)) (he:f (n:Int)=some (.done yes)):Ag f (0:Int)=some (bif (List.range n).all p then yes else no):=by
 have hg:∀ i,i<(List.range n).length->(List.range n).getD i 0=i:=fun i hi=>by rw[Ai _ _ _ hi];simp
 have:=Hc (List.range n) 0 p f yes no (fun i hi hp=>by rw[hg i hi]at hp;exact hn i (by simpa using hi) hp) (fun i hi hp=>by rw[hg i hi]at hp;exact hf i (by simpa using hi) hp) (by simpa using he) n 0 (by simp);rw[show(0:Int)=((0:Nat):Int) from rfl,this,Kk]
theorem allN{n:Nat}{p:Nat->Bool}(h:(List.range n).all p=true):∀ i,i<n->p i=true:=fun i hi=>zzL30.1 h i (by simpa using hi)
def M5(L:List (List Int)):List Bool:=rds (sN L) L.length ((List.replicate L.length false).set 0 true) L.length
def Hp(l:List Int)(p:H1):Bool:=decide (p.From=l)&&((p.Args.length:Int)==(l.length:Int))
def Mb(L:List (List Int))(b:Ah)(i:Nat):Bool:=(M5 L).getD i false&&!((b.End.Kind==1 || b.End.Kind==3)&&(b.End.Arg !=0))&&b.Phis.all (Hp ((Ct L).getD i []))
def G8(f:TFunc):Bool:=Ln f&&(List.range f.Blocks.length).all fun i=>Mb (Bl f) (f.Blocks.getD i default) i
theorem T4(f:TFunc):(Bl f).length=f.Blocks.length:=by simp[Bl]
theorem reachB0_len(L:List (List Int)):(M5 L).length=L.length:=by rw[M5,Ve];simp
theorem bsh_aux{a b c d:Bool}{x:Option (LR Int (Unit ⊕ Bool))}:(bif (bif (!a) then true else(bif (bif b then true else c) then d else false)) then some (LR.done (Sum.inr false)) else x)=bif (a&&!((b || c)&&d)) then x else some (LR.done (Sum.inr false)):=by
 cases a<;>cases b<;>cases c<;>cases d<;>rfl
theorem m_shape {f : TFunc} (hf : OkF f) : Hl f = some (G8 f) := by
  have hmax : f.Blocks.length ≤ maxLen := by have := hf.blocks; have : (64 : Nat) ≤ maxLen := by decide
                                             omega
  unfold Hl G8; rw [m_ref_of f hmax, An]
  cases hs : Ln f with
  | false => rfl
  | true =>
    have hm := O4 hs; have hlen := T4 f; obtain ⟨h1, h2⟩ := Re hm
    have hpos : 0 < (Bl f).length := by have := (shape_iff.1 hs).1.1; omega
    simp only [Af, F8]; rw [show (((0 : Int) != 0)) = false from rfl, Ar]; have hr := m_reach hm hpos; rw [show (((0 : Nat) : Int)) = 0 from rfl] at hr; rw [hr, An]
    show ((Ag (Ej f (I7 (Bl f), 0) (M5 (Bl f))) 0).bind _) = _
    have hphi : ∀ i, i < f.Blocks.length → Ag (Dl f (I7 (Bl f), 0) (i : Int)) (0 : Int) = some (bif (f.Blocks.getD i default).Phis.all (Hp ((Ct (Bl f)).getD i [])) then .inl () else .inr false) := fun i hi => by
      have hmem := Aw (d := (default : Ah)) hi; have hB := hf.block _ hmem
      have hpl : (I7 (Bl f)).Pred.length = f.Blocks.length := by rw [← hlen]; exact Oa _
      have hpi : A5 (i : Int) (I7 (Bl f)).Pred.length := Ap (by omega)
      have key : ∀ j, j < (f.Blocks.getD i default).Phis.length → Dl f (I7 (Bl f), 0) (i : Int) (j : Int) = some (bif Hp ((Ct (Bl f)).getD i []) ((f.Blocks.getD i default).Phis.getD j default) then .next ((j : Int) + 1) else .done (.inr false)) := fun j hj => by
        have hp := ok_phi hf hmem (Aw (d := (default : H1)) hj); unfold Dl
        have hd : decide ((j : Int) < ((f.Blocks.getD i default).Phis.length : Int)) = true := by simpa using hj
        have hi1 := m_ints ((f.Blocks.getD i default).Phis.getD j default).From ((I7 (Bl f)).Pred.getD i []) (by omega); simp only [Eo, hd, Af, Ac (Ap hj), Ac hpi, hi1, An]; rw [Ac (fun _ => Ap hj), Ac (fun _ => hpi), A8 hj (by have := hB.phis; omega)]; unfold Hp
        show (bif (bif (!decide (((f.Blocks.getD i default).Phis.getD j default).From = (Ct (Bl f)).getD i [])) then true else ((((f.Blocks.getD i default).Phis.getD j default).Args.length : Int) != (((Ct (Bl f)).getD i []).length : Int))) then _ else _) = _
        cases decide (((f.Blocks.getD i default).Phis.getD j default).From = (Ct (Bl f)).getD i []) with
        | false => rfl
        | true =>
          simp only [Df, Ar, F8, bne]
          cases ((((f.Blocks.getD i default).Phis.getD j default).Args.length : Int) == (((Ct (Bl f)).getD i []).length : Int)) <;> rfl
      have := Hc (f.Blocks.getD i default).Phis (default : H1) (Hp ((Ct (Bl f)).getD i [])) (Dl f (I7 (Bl f), 0) (i : Int)) (.inl ()) (.inr false) (fun j hj hp => by rw [key j hj, hp]; rfl) (fun j hj hp => by rw [key j hj, hp]; rfl) (by unfold Dl; simp) (f.Blocks.getD i default).Phis.length 0 (by omega); rw [Kk] at this; exact this
    have hrl := reachB0_len (Bl f)
    have key : ∀ i, i < f.Blocks.length → Ej f (I7 (Bl f), 0) (M5 (Bl f)) (i : Int) = some (bif Mb (Bl f) (f.Blocks.getD i default) i then .next ((i : Int) + 1) else .done (.inr false)) := fun i hi => by
      unfold Ej
      have hd : decide ((i : Int) < (f.Blocks.length : Int)) = true := by simpa using hi
      simp only [hd, Af, Ac (Ap hi), Ac (Ap (show i < (M5 (Bl f)).length by omega)), Eo, bsh_aux, hphi i hi, An, A8 hi (by have := hf.blocks; omega)]; unfold Mb
      cases ((M5 (Bl f)).getD i false && !(((f.Blocks.getD i default).End.Kind == 1 || (f.Blocks.getD i default).End.Kind == 3) && ((f.Blocks.getD i default).End.Arg != 0))) with
      | false => rfl
      | true => cases (f.Blocks.getD i default).Phis.all (Hp ((Ct (Bl f)).getD i [])) <;> rfl
    rw [loop_allN f.Blocks.length (fun i => Mb (Bl f) (f.Blocks.getD i default) i) _ (.inl ()) (.inr false) (fun i hi hp => by rw [key i hi, hp]; rfl) (fun i hi hp => by rw [key i hi, hp]; rfl) (by unfold Ej; simp)]
    cases (List.range f.Blocks.length).all (fun i => Mb (Bl f) (f.Blocks.getD i default) i) <;> rfl
theorem shape_fit{f:TFunc}(h:G8 f=true):phisFit f:=fun b hb p hp=>by
 simp only[G8,Bc]at h;obtain⟨i,hi,rfl⟩:=Qn hb;have h1:=allN h.2 i hi;rw[Ai _ _ _ hi]at h1;simp only[Mb,Bc]at h1;have h2:=zzL30.1 h1.2 p hp;simp only[Hp,Bc,Jd,zzL71]at h2;rw[h2.1];omega
def O1(l:List Bv)(i:Nat):Bool:=valS (l.getD i default).V&&(Kn l (l.getD i default).V==(i:Int))
def Li(l:List Bv)(u:Ck):Bool:=!decide (Kn l u.V<0)
def defOf(l:List Bv)(v:Int):Bv:=l.getD (Kn l v).toNat default
def Vu(l:List Bv)(u:Ck):Bool:=((defOf l u.V).Shape.1==u.Shape.1)&&(((defOf l u.V).Shape.2==u.Shape.2)&&true)
def Tv(l:List Bv)(t:List Int)(u:Ck):Bool:=
 (decide ((defOf l u.V).Block<0) || ((defOf l u.V).Block==u.Block&&decide ((defOf l u.V).At<u.At))) || (!((defOf l u.V).Block==u.Block)&&!(Pc t (defOf l u.V).Block u.Block !=(defOf l u.V).Block))
def Da(f:TFunc):List Int:=treeG (I7 (Bl f)) 0
def wrongD(f:TFunc)(l:Int):Int:=
 bif !G8 f then 5 else bif !Te f l then 6 else bif !(List.range (A2 f).length).all (O1 (A2 f)) then 7 else bif !(B5 f).all (Li (A2 f)) then 7 else
 bif !(B5 f).all (Vu (A2 f)) then 6 else bif !(B5 f).all (Tv (A2 f) (Da f)) then 7 else 0
def Hr(f:TFunc)(l:Int):Int:=bif decide (l<0) || decide (2<l) then 1 else bif !Tu f then 4 else wrongD f l
theorem findD_in{l:List Bv}{v:Int}(h:¬ Kn l v<0):A5 (Kn l v) l.length:=by
 unfold Kn at h ⊢
 cases hx:l.findIdx? (fun d=>d.V==v) with
 | none=>rw[hx]at h;exact absurd (by decide) h
 | some i=>
  obtain⟨hi,_⟩:=List.findIdx?_eq_some_iff_getElem.1 hx;exact Ap hi
theorem tree_len{f:TFunc}(h:Ln f=true):(Da f).length<=1000:=by
 have h1:=(Re (O4 h)).1;unfold Da treeG
 split
 ·rw[treeD_len];show(Bl f).length<=1000;omega
 ·simp
theorem dom_aux(a b c:Bool)(m q x:Int):(Option.bind (α:=Unit ⊕ Int) (bif (bif a then true else(bif b then c else false)) then some (.inl ()) else((bif (b==false) then some m else some 0).bind fun x31=>(bif (bif b then true else(x31 !=q)) then some (.inr 7) else some (.inl ())))) (fun x32=>match x32 with | .inl _=>some (LR.next x) | .inr r34=>some (.done (.inr r34)))) =
  (some (bif (a || (b&&c)) || (!b&&!(m !=q)) then .next x else .done (.inr 7)):Option (LR Int (Unit ⊕ Int))):=by
 cases h:(m !=q)<;>cases a<;>cases b<;>cases c<;>simp[h]
theorem m_wrong {f : TFunc} (hf : OkF f) (l : Int) (hm : G4 f = some (Tu f)) : Et f l = some (Hr f l) := by
  unfold Et Hr; rw [show (bif decide (l < (0 : Int)) then true else decide ((2 : Int) < l)) = (decide (l < 0) || decide (2 < l)) by cases decide (l < (0 : Int)) <;> rfl]
  cases (decide (l < 0) || decide (2 < l)) with
  | true => rfl
  | false =>
  simp only [Ar, hm, An]
  cases Tu f with
  | false => rfl
  | true =>
  simp only [Df, Ar, m_shape hf, An, wrongD]
  cases hs : G8 f with
  | false => rfl
  | true =>
  simp only [Df, Ar, m_typed hf, An]
  cases ht : Te f l with
  | false => rfl
  | true =>
  simp only [Df, Ar, m_defs hf, An]; have hdl := defsF_len hf; have hul := usesF_len hf
  have hL1 : Ag (S := Int) (X := (Unit ⊕ Int)) (Eh (A2 f)) (0 : Int) = some (bif (List.range (A2 f).length).all (O1 (A2 f)) then .inl () else .inr 7) := by
    have key : ∀ i, i < (A2 f).length → Eh (A2 f) (i : Int) = some (bif O1 (A2 f) i then .next ((i : Int) + 1) else .done (.inr 7)) := fun i hi => by
      unfold Eh O1
      have hd : decide ((i : Int) < ((A2 f).length : Int)) = true := by simpa using hi
      simp only [hd, Af, Ac (Ap hi), Eo, Y9, An, Ac (fun _ => Ap hi), m_find (A2 f) _ (by omega), A8 hi (by omega)]
      cases valS ((A2 f).getD i default).V with
      | false => rfl
      | true =>
        simp only [Df, An, F8]
        show (bif (Kn (A2 f) ((A2 f).getD i default).V != (i : Int)) then _ else _) = _
        simp only [bne]
        cases (Kn (A2 f) ((A2 f).getD i default).V == (i : Int)) <;> rfl
    exact loop_allN _ _ _ _ _ (fun i hi hp => by rw [key i hi, hp]; rfl) (fun i hi hp => by rw [key i hi, hp]; rfl) (by unfold Eh; simp)
  rw [hL1, An]
  cases (List.range (A2 f).length).all (O1 (A2 f)) with
  | false => rfl
  | true =>
  simp only [Af, Df, Ar, m_uses hf (shape_fit hs), An]
  have hL2 : Ag (S := Int) (X := (Unit ⊕ Int)) (Dj (A2 f) (B5 f)) (0 : Int) = some (bif (B5 f).all (Li (A2 f)) then .inl () else .inr 7) := by
    have key : ∀ i, i < (B5 f).length → Dj (A2 f) (B5 f) (i : Int) = some (bif Li (A2 f) ((B5 f).getD i default) then .next ((i : Int) + 1) else .done (.inr 7)) := fun i hi => by
      unfold Dj Li
      have hd : decide ((i : Int) < ((B5 f).length : Int)) = true := by simpa using hi
      simp only [hd, Af, Ac (Ap hi), Eo, m_find (A2 f) _ (by omega), An, A8 hi (by omega)]
      cases decide (Kn (A2 f) ((B5 f).getD i default).V < 0) <;> rfl
    have := Hc (B5 f) default (Li (A2 f)) (Dj (A2 f) (B5 f)) (.inl ()) (.inr 7) (fun i hi hp => by rw [key i hi, hp]; rfl) (fun i hi hp => by rw [key i hi, hp]; rfl) (by unfold Dj; simp) (B5 f).length 0 (by omega); rw [Kk] at this; exact this
  rw [hL2, An]
  cases hF : (B5 f).all (Li (A2 f)) with
  | false => rfl
  | true =>
  have hfound : ∀ i, i < (B5 f).length → A5 (Kn (A2 f) ((B5 f).getD i default).V) (A2 f).length := fun i hi => by
    have := zzL30.1 hF _ (Aw (d := (default : Ck)) hi); simp only [Li, Ph, zzL92] at this; exact findD_in this
  simp only [Af, Df, Ar]
  have hL3 : Ag (S := Int) (X := (Unit ⊕ Int)) (Dk (A2 f) (B5 f)) (0 : Int) = some (bif (B5 f).all (Vu (A2 f)) then .inl () else .inr 6) := by
    have key : ∀ i, i < (B5 f).length → Dk (A2 f) (B5 f) (i : Int) = some (bif Vu (A2 f) ((B5 f).getD i default) then .next ((i : Int) + 1) else .done (.inr 6)) := fun i hi => by
      unfold Dk Vu defOf
      have hd : decide ((i : Int) < ((B5 f).length : Int)) = true := by simpa using hi
      simp only [hd, Af, Ac (Ap hi), Eo, m_find (A2 f) _ (by omega), An, Ac (hfound i hi), A8 hi (by omega)]
      cases ((((A2 f).getD (Kn (A2 f) ((B5 f).getD i default).V).toNat default).Shape.1 == ((B5 f).getD i default).Shape.1) && ((((A2 f).getD (Kn (A2 f) ((B5 f).getD i default).V).toNat default).Shape.2 == ((B5 f).getD i default).Shape.2) && true)) <;> rfl
    have := Hc (B5 f) default (Vu (A2 f)) (Dk (A2 f) (B5 f)) (.inl ()) (.inr 6) (fun i hi hp => by rw [key i hi, hp]; rfl) (fun i hi hp => by rw [key i hi, hp]; rfl) (by unfold Dk; simp) (B5 f).length 0 (by omega); rw [Kk] at this; exact this
  rw [hL3, An]
  cases (B5 f).all (Vu (A2 f)) with
  | false => rfl
  | true =>
  have hsB : Ln f = true := by simp only [G8, Bc] at hs; exact hs.1
  have hmax : f.Blocks.length ≤ maxLen := by have := hf.blocks; have : (64 : Nat) ≤ maxLen := by decide
                                             omega
  simp only [Af, Df, Ar, m_ref_of f hmax, hsB, An]; rw [m_ref_tree _ (gOf_fits (O4 hsB)).1 0, An]; have htl := tree_len hsB
  have hL4 : Ag (S := Int) (X := (Unit ⊕ Int)) (Cp (A2 f) (B5 f) (Da f)) (0 : Int) = some (bif (B5 f).all (Tv (A2 f) (Da f)) then .inl () else .inr 7) := by
    have key : ∀ i, i < (B5 f).length → Cp (A2 f) (B5 f) (Da f) (i : Int) = some (bif Tv (A2 f) (Da f) ((B5 f).getD i default) then .next ((i : Int) + 1) else .done (.inr 7)) := fun i hi => by
      unfold Cp Tv defOf
      have hd : decide ((i : Int) < ((B5 f).length : Int)) = true := by simpa using hi
      simp only [hd, Af, Ac (Ap hi), Eo, m_find (A2 f) _ (by omega), An, Ac (hfound i hi), A8 hi (by omega), m_meet (Da f) htl]; exact dom_aux _ _ _ _ _ _
    have := Hc (B5 f) default (Tv (A2 f) (Da f)) (Cp (A2 f) (B5 f) (Da f)) (.inl ()) (.inr 7) (fun i hi hp => by rw [key i hi, hp]; rfl) (fun i hi hp => by rw [key i hi, hp]; rfl) (by unfold Cp; simp) (B5 f).length 0 (by omega); rw [Kk] at this; exact this
  show ((Ag (Cp (A2 f) (B5 f) (Da f)) 0).bind _) = _
  rw [hL4, An]
  cases (B5 f).all (Tv (A2 f) (Da f)) <;> rfl
def grow(n d:Int):Int:=bif decide (n<d) then d else n
def Sm(f:TFunc):Prop:=InF f/\C2 f=some true
theorem sm_ok{f:TFunc}(h:Sm f)(hm:Tu f=true):OkF f:=by
 obtain⟨sm,h1,h2⟩:=small_parts f h.1;rw[h.2]at h1;exact(h2 (OI h1).symm hm).1
theorem m_small11{f:TFunc}(hf:InF f):∃ b,Hk f=some b/\(b=true->Sm f):=by
 obtain⟨x,hx⟩:∃ x,Ag (Ei f) ((0:Int),(0:Int))=some x:=by
  refine Rj f.Blocks.length (Ei f) (fun n i hi=>.inl ?_) (fun n=>?_) f.Blocks.length 0 0 (by omega)
  ·unfold Ei
   have hd:decide ((i:Int)<(f.Blocks.length:Int))=true:=by simpa using hi
   simp only[hd,Af,Ac (Ap hi),K4 hi hf.blocks];exact⟨_,rfl⟩
  ·unfold Ei;exact⟨n,by simp⟩
 obtain⟨sm,h1⟩:=small_some f hf;unfold Hk;rw[hx,An,h1,An];refine⟨_,rfl,fun hb=>⟨hf,?_⟩⟩
 cases sm with
 | true=>exact h1
 | false=>cases hb
theorem m_check_ref{f:TFunc}(h:Sm f)(l:Int):Et f l=some (Hr f l):=by
 have hm:=rmay_eq f h.1
 cases hb:Tu f with
 | true=>exact m_wrong (sm_ok h hb) l hm
 | false=>
  unfold Et Hr;rw[show(bif decide (l<(0:Int)) then true else decide ((2:Int)<l))=(decide (l<0) || decide (2<l)) by cases decide (l<(0:Int))<;>rfl]
  cases(decide (l<0) || decide (2<l)) with
  | true=>rfl
  | false=>simp only[Ar,hm,hb,An,L2,Af]
structure ShapesOf(f:TFunc)(s:List (Int×(Int×Int))):Prop where
 none:Hr f 2≠0->s.length=0
 len:Hr f 2=0->s.length=(A2 f).length
 get:Hr f 2=0->∀ d∈A2 f,Hy ((0:Int),(0:Int)) s d.V=d.Shape
 has:Hr f 2=0->∀ v,Gb s v=true->∃ d∈A2 f,d.V=v
def restD(f:TFunc):Int:=
 bif !(List.range (A2 f).length).all (O1 (A2 f)) then 7 else bif !(B5 f).all (Li (A2 f)) then 7 else
 bif !(B5 f).all (Vu (A2 f)) then 6 else bif !(B5 f).all (Tv (A2 f) (Da f)) then 7 else 0
theorem Uj{f:TFunc}{l:Int}(h0:0<=l)(h2:l<=2):Hr f l=0↔Tu f=true/\G8 f=true/\Te f l=true/\restD f=0:=by
 unfold Hr wrongD;rw[C0 (show ¬ l<0 by omega),C0 (show ¬ 2<l by omega)]
 show _↔_/\_/\_/\restD f=0
 have e:(bif !(List.range (A2 f).length).all (O1 (A2 f)) then(7:Int) else bif !(B5 f).all (Li (A2 f)) then 7 else
  bif !(B5 f).all (Vu (A2 f)) then 6 else bif !(B5 f).all (Tv (A2 f) (Da f)) then 7 else 0)=restD f:=rfl
 rw[e]
 cases Tu f<;>cases G8 f<;>cases Te f l<;>simp
theorem lanes_of{o:Dp}(h:La o=true):1<=o.Lanes:=by
 simp only[La,Bc]at h;have:=Qb h.1.1;omega
theorem opTyped_iff{l m:Int}(hm:levMost l=m)(o:Dp):M3 l o=true↔La o=true/\o.Kind<=m/\(l<2->o.Lanes<=1):=by
 unfold M3;rw[hm]
 by_cases a:m<o.Kind<;>by_cases b:l<2<;>by_cases c:1<o.Lanes<;>cases La o<;>simp[a,b,c]<;>omega
theorem sum_suc{α:Type}(l:List α)(g:α->Nat):(l.map fun a=>g a+1).sum=l.length+(l.map g).sum:=by
 induction l with
 | nil=>rfl
 | cons a l ih=>simp only[Cm,Vk,ih,Yo];omega
theorem w64_plus(a b:Int):w64 (a+w64 b)=w64 (a+b):=by rw[Int.add_comm,w64_add,Int.add_comm]
theorem xsize(f:TFunc)(hf:InF f):P4 f=some (sizeW f):=by
 have hl:=loop_addw f.Blocks (default:Ah) (fun b=>b.Phis.length+b.Ops.length) id (Md f) (fun n i hi=>?_) (fun n=>?_) f.Blocks.length 0 f.Blocks.length (G3 _)
 ·unfold P4;rw[w64_nat (by have:=hf.blocks;rw[Tt]at this;omega),show((0:Nat):Int)=0 from rfl]at hl;rw[hl,An,Kk,sizeW,Su,show(sizeB:Ah->Nat)=(fun b=>(b.Phis.length+b.Ops.length)+1) from rfl,sum_suc]
  rfl
 ·have e1:decide ((i:Int)<(f.Blocks.length:Int))=true:=B2 (by omega);unfold Md;simp only[e1,Af,Ac (Ap hi),Eo,K4 hi hf.blocks,w64_plus,w64_add];rw[show(n:Int)+(((f.Blocks.getD i default).Phis.length:Int)+((f.Blocks.getD i default).Ops.length:Int))=((n+((f.Blocks.getD i default).Phis.length+(f.Blocks.getD i default).Ops.length):Nat):Int) by omega]
 ·have e1:decide ((f.Blocks.length:Int)<(f.Blocks.length:Int))=false:=by simp
  unfold Md;simp only[e1,Ar,id]
theorem all_loop{α:Type}(l:List α)(d:α)(p:α->Bool)(f:Int->Option (LR Int (Unit ⊕ Bool)))(hn:∀ i:Nat,i<l.length->f i=bif p (l.getD i d) then some (.next ((i:Int)+1)) else some (.done (.inr false)))
  (he:f l.length=some (.done (.inl ()))):Ag f 0=some (bif l.all p then .inl () else .inr false):=by
 have:=Hc l d p f (.inl ()) (.inr false) (fun i hi hp=>by rw[hn i hi,hp];rfl) (fun i hi hp=>by rw[hn i hi,hp];rfl) he l.length 0 (G3 _)
 simpa using this
theorem numB_cond(x:Int):(bif decide (x<0) then true else decide (2147483647<x)) = !numB x:=by
 unfold numB
 by_cases h1:x<0
 ·have:¬ 0<=x:=by omega
  simp[h1,this]
 ·by_cases h2:2147483647<x
  ·have:¬ x<=2147483647:=by omega
   simp[h1,h2,this]
  ·have h3:0<=x:=by omega
   have h4:x<=2147483647:=by omega
   simp[h1,h2,h3,h4]
theorem xfits(l:List Int)(h:l.length<=maxLen):D3 l=some (l.all numB):=by
 have hl:=all_loop l 0 numB (Ib l) (fun i hi=>?_) ?_
 ·unfold D3;rw[hl]
  cases l.all numB<;>rfl
 ·have e1:decide ((i:Int)<(l.length:Int))=true:=B2 (by omega);unfold Ib;simp only[e1,Af,Ac (Ap hi),Eo,numB_cond,K4 hi h]
  cases numB (l.getD i 0)<;>simp
 ·unfold Ib
  simp
theorem Ze(l:List Int)(h:l.length<=maxLen):G5 l=some (listB l):=by
 unfold G5;rw[xfits l h]
 by_cases h1:l.length<=64
 ·have e1:decide ((l.length:Int)<=64)=true:=B2 (by omega);rw[e1];simp[listB,h1]
 ·have e1:decide ((l.length:Int)<=64)=false:=C0 (by omega);rw[e1];simp[listB,h1]
theorem Zb{l:List Int}(h:l.length<=10):l.length<=maxLen:=by rw[Tt];omega
theorem xphiFits(p:H1)(h1:p.From.length<=maxLen)(h2:p.Args.length<=maxLen):Mf p=some (phiB p):=by
 unfold Mf phiB;rw[xfits _ (Zb (by simp)),Ze _ h1,Ze _ h2];simp only[V9,List.all_nil,zzL141]
 cases numB p.Bits<;>cases numB p.Dst<;>cases listB p.From<;>cases listB p.Args<;>rfl
theorem xopFits(o:Dp)(h1:o.Args.length<=maxLen):Np o=some (opB o):=by
 unfold Np opB;rw[xfits _ (Zb (by simp)),Ze _ h1];simp only[V9,List.all_nil,zzL141]
 cases numB o.Kind<;>cases numB o.Bits<;>cases numB o.Lanes<;>cases numB o.Dst<;>cases listB o.Args<;>rfl
theorem xendFits(e:Lo)(h1:e.To.length<=maxLen):Me e=some (endB e):=by
 unfold Me endB;rw[xfits _ (Zb (by simp)),Ze _ h1];simp only[V9,List.all_nil,zzL141]
 cases numB e.Kind<;>cases numB e.Arg<;>cases listB e.To<;>rfl
theorem not_cond{X:Type}(b:Bool)(x y:X):(bif !b then x else y)=bif b then y else x:=by cases b<;>rfl
theorem xphis_fit(l:List H1)(hl:l.length<=maxLen)(h:∀ p∈l,p.From.length<=maxLen/\p.Args.length<=maxLen):Hh l=some (l.all phiB):=by
 have hl':=all_loop l (default:H1) phiB (F6 l) (fun i hi=>?_) ?_
 ·unfold Hh;rw[hl']
  cases l.all phiB<;>rfl
 ·have e1:decide ((i:Int)<(l.length:Int))=true:=B2 (by omega);have:=h _ (Aw (d:=(default:H1)) hi);unfold F6;simp only[e1,Af,Ac (Ap hi),Eo,xphiFits _ this.1 this.2,An,not_cond,K4 hi hl,Int.natCast_add,Int.natCast_one]
 ·unfold F6
  simp
theorem xops_fit(l:List Dp)(hl:l.length<=maxLen)(h:∀ o∈l,o.Args.length<=maxLen):Ia l=some (l.all opB):=by
 have hl':=all_loop l (default:Dp) opB (Gm l) (fun i hi=>?_) ?_
 ·unfold Ia;rw[hl']
  cases l.all opB<;>rfl
 ·have e1:decide ((i:Int)<(l.length:Int))=true:=B2 (by omega);have:=h _ (Aw (d:=(default:Dp)) hi);unfold Gm;simp only[e1,Af,Ac (Ap hi),Eo,xopFits _ this,An,not_cond,K4 hi hl,Int.natCast_add,Int.natCast_one]
 ·unfold Gm
  simp
theorem xblockFits(b:Ah)(h1:b.Phis.length<=maxLen)(h2:b.Ops.length<=maxLen)(h3:b.End.To.length<=maxLen)(h4:∀ p∈b.Phis,p.From.length<=maxLen/\p.Args.length<=maxLen)(h5:∀ o∈b.Ops,o.Args.length<=maxLen):Kt b=some (blockB b):=by
 unfold Kt blockB;rw[xphis_fit _ h1 h4,xops_fit _ h2 h5,xendFits _ h3]
 cases b.Phis.all phiB<;>cases b.Ops.all opB<;>cases endB b.End<;>rfl
theorem xblocks_fit(f:TFunc)(hf:InF f):Gl f.Blocks=some (f.Blocks.all blockB):=by
 have hl':=all_loop f.Blocks (default:Ah) blockB (Fd f.Blocks) (fun i hi=>?_) ?_
 ·unfold Gl;rw[hl']
  cases f.Blocks.all blockB<;>rfl
 ·have e1:decide ((i:Int)<(f.Blocks.length:Int))=true:=B2 (by omega);have hm:=Aw (d:=(default:Ah)) hi;have q:=hf.block _ hm;unfold Fd;simp only[e1,Af,Ac (Ap hi),Eo,xblockFits _ q.1 q.2.1 q.2.2 (hf.phi _ hm) (fun o ho=>(hf.op _ hm o ho).1),An,not_cond,K4 hi hf.blocks,Int.natCast_add,Int.natCast_one]
 ·unfold Fd
  simp
theorem xmay(f:TFunc)(hf:InF f):Rk f=some (Tu f):=by
 unfold Rk Tu;rw[xsize f hf,xfits _ hf.params,xfits _ (Zb (by simp)),xblocks_fit f hf];simp only[V9,List.all_nil,zzL141,listB]
 have d1:∀ n:Nat,decide ((n:Int)<1) = !decide (1<=n):=fun n=>by by_cases h:1<=n<;>simp[h]<;>omega
 have d2:∀ n:Nat,decide ((64:Int)<(n:Int)) = !decide (n<=64):=fun n=>by by_cases h:n<=64<;>simp[h]<;>omega
 have d3:∀ n:Nat,decide ((16:Int)<(n:Int)) = !decide (n<=16):=fun n=>by by_cases h:n<=16<;>simp[h]<;>omega
 have d4:∀ n:Int,decide ((512:Int)<n) = !decide (n<=512):=fun n=>by by_cases h:n<=512<;>simp[h]<;>omega
 simp only[d1,d2,d3,d4]
 have himp:decide (f.Params.length<=16)=true->decide (f.Params.length<=64)=true:=fun h=>by simp at h ⊢;omega
 revert himp
 generalize decide (1<=f.Blocks.length)=c1
 generalize decide (f.Blocks.length<=64)=c2
 generalize decide (f.Params.length<=16)=c3
 generalize decide (f.Params.length<=64)=c4
 generalize f.Params.all numB=c6
 generalize numB f.Ret=c7
 generalize f.Blocks.all blockB=c8
 cases c3 with
 | true=>
  intro h;obtain rfl:=h rfl;simp only[Df,Qo,Af,An,Ar]
  generalize decide (sizeW f<=512)=c5
  cases c1<;>cases c2<;>cases c6<;>cases c7<;>cases c8<;>cases c5<;>rfl
 | false=>
  intro _
  cases c1<;>cases c2<;>rfl
inductive Tp (t:List Int):Nat->Nat->Nat->Prop
 | top {x:Nat} (hx:x<t.length) (h:t.getD x 0 = -1):Tp t x x 0
 | up {x y r k:Nat} (hx:x<t.length) (h:t.getD x 0=(y:Int)) (hk:Tp t y r k):Tp t x r (k+1)
section
variable {t:List Int}
theorem Tp.lt{x r k:Nat}(h:Tp t x r k):x<t.length:=by cases h<;>assumption
theorem Tp.tops{x r k:Nat}(h:Tp t x r k):r<t.length/\t.getD r 0 = -1:=by
 induction h with
 | top hx h=>exact⟨hx,h⟩
 | up _ _ _ ih=>exact ih
theorem Tp.det{x r k r' k':Nat}(h:Tp t x r k)(h':Tp t x r' k'):r=r'/\k=k':=by
 induction h generalizing k' with
 | top hx h=>cases h' with
  | top=>exact⟨rfl,rfl⟩
  | up _ h2 _=>omega
 | up hx h1 _ ih=>cases h' with
  | top _ h2=>omega
  | up _ h2 k2=>
   have:_=_:=h1.symm.trans h2
   cases Tg this
   obtain⟨e1,e2⟩:=ih k2;exact⟨e1,by omega⟩
theorem Tp.upTo{x r k:Nat}(h:Tp t x r k):UpTo (Bk t) x r:=by
 induction h with
 | top=>exact .refl _
 | up _ h _ ih=>exact .up h ih
theorem Tp.on{x r k z:Nat}(h:Tp t x r k)(hz:UpTo (Bk t) x z):∃ j,j<=k/\Tp t z r j/\(j=k->z=x):=by
 induction hz generalizing k with
 | refl x=>exact⟨k,zzL9 _,h,fun _=>rfl⟩
 | up hp _ ih=>
  cases h with
  | top _ h2=>have:_=_:=hp.symm.trans h2;omega
  | up _ h2 k2=>
   have:_=_:=hp.symm.trans h2
   cases Tg this
   obtain⟨j,h1,h3,_⟩:=ih k2;exact⟨j,by omega,h3,fun e=>by omega⟩
theorem Tp.anti{x r k z:Nat}(h:Tp t x r k)(h1:UpTo (Bk t) x z)(h2:UpTo (Bk t) z x):z=x:=by
 obtain⟨j,j1,j2,j3⟩:=h.on h1;obtain⟨i,i1,i2,i3⟩:=j2.on h2;have:=h.det i2;exact j3 (by omega)
theorem Tp.list{x r k:Nat}(h:Tp t x r k):∃ l:List Nat,l.length=k+1/\l.Nodup/\∀ y∈l,y<t.length/\∃ j,j<=k/\Tp t y r j:=by
 induction h with
 | top hx h=>exact⟨[_],rfl,by simp,fun y hy=>by rw[zzL19.1 hy];exact⟨hx,0,zzL9 _,.top hx h⟩⟩
 | @up x y r k hx h hk ih=>
  obtain⟨l,h1,h2,h3⟩:=ih;refine⟨x::l,by simp[h1],zzL98.2 ⟨fun hm=>?_,h2⟩,fun z hz=>?_⟩
  ·obtain⟨_,j,hj,hj2⟩:=h3 _ hm;have:=(Tp.up hx h hk).det hj2;omega
  ·rcases zzL29.1 hz with rfl|hz
   ·exact⟨hx,k+1,zzL9 _,.up hx h hk⟩
   ·obtain⟨e1,j,e2,e3⟩:=h3 z hz;exact⟨e1,j,by omega,e3⟩
theorem Tp.short{x r k:Nat}(h:Tp t x r k):k<t.length:=by
 obtain⟨l,h1,h2,h3⟩:=h.list;have:=Pm t.length l h2 fun y hy=>(h3 y hy).1;omega
theorem Tp.upD{x r k:Nat}(h:Tp t x r k):∀ m,k<m->∃ q,upD t m (x:Int)=some q/\(∀ w:Int,w∈q↔∃ z:Nat,w=(z:Int)/\UpTo (Bk t) x z) /\
  ∀ p:Int->Bool,(q.find? p=none/\∀ z:Nat,UpTo (Bk t) x z->p (z:Int)=false)\/∃ f:Nat,q.find? p=some (f:Int)/\UpTo (Bk t) x f/\p (f:Int)=true/\∀ z:Nat,UpTo (Bk t) x z->p (z:Int)=true->UpTo (Bk t) f z:=by
 induction h with
 | @top x hx h=>
  intro m hm;obtain⟨m,rfl⟩:∃ i,m=i+1:=⟨m-1,by omega⟩
  have htop:∀ z,UpTo (Bk t) x z↔z=x:=fun z=>anc_top fun p hp=>by have:_=_:=hp.symm.trans h;omega
  unfold Go.Proofs.YtmkiepobhjiabaaGreat.upD;rw[if_pos ⟨by omega,by omega⟩,Au,if_pos h];refine⟨_,rfl,fun w=>?_,fun p=>?_⟩
  ·rw[zzL19]
   constructor
   ·rintro rfl;exact⟨x,rfl,.refl _⟩
   ·rintro⟨z,rfl,hz⟩;rw[(htop z).1 hz]
  ·cases hpp:p (x:Int) with
   | false=>exact .inl ⟨by simp[List.find?,hpp],fun z hz=>by rw[(htop z).1 hz];exact hpp⟩
   | true=>exact .inr ⟨x,by simp[List.find?,hpp],.refl _,hpp,fun z hz _=>hz⟩
 | @up x y r k hx h hk ih=>
  intro m hm;obtain⟨m,rfl⟩:∃ i,m=i+1:=⟨m-1,by omega⟩;unfold Go.Proofs.YtmkiepobhjiabaaGreat.upD;rw[if_pos ⟨by omega,by omega⟩,Au,if_neg (by omega),h];obtain⟨q,hq1,hq2,hq3⟩:=ih m (by omega);rw[hq1];refine⟨(x:Int)::q,rfl,fun w=>?_,fun p=>?_⟩
  ·rw[zzL29,hq2 w]
   constructor
   ·rintro(rfl|⟨y,rfl,hy⟩)
    ·exact⟨x,rfl,.refl _⟩
    ·exact⟨y,rfl,.up h hy⟩
   ·rintro⟨y,rfl,hy⟩;rcases(anc_up h).1 hy with rfl|hy
    ·exact .inl rfl
    ·exact .inr ⟨y,rfl,hy⟩
  ·cases hpp:p (x:Int) with
   | true=>exact .inr ⟨x,by simp[List.find?,hpp],.refl _,hpp,fun y hy _=>hy⟩
   | false=>
    have hf:((x:Int)::q).find? p=q.find? p:=by simp[List.find?,hpp]
    rw[hf];rcases hq3 p with⟨e1,e2⟩|⟨f,e1,e2,e3,e4⟩
    ·refine .inl ⟨e1,fun y hy=>?_⟩;rcases(anc_up h).1 hy with rfl|hy
     ·exact hpp
     ·exact e2 y hy
    ·refine .inr ⟨f,e1,.up h e2,e3,fun y hy hpy=>?_⟩;rcases(anc_up h).1 hy with rfl|hy
     ·rw[hpp]at hpy;cases hpy
     ·exact e4 y hy hpy
theorem upD_tp:∀ m (a:Int) q,upD t m a=some q->∃ x r k:Nat,a=(x:Int)/\k<m/\Tp t x r k:=by
 intro m
 induction m with
 | zero=>intro a q h;cases h
 | succ m ih=>
  intro a q h;unfold Go.Proofs.YtmkiepobhjiabaaGreat.upD at h
  by_cases ha:0<=a/\a<(t.length:Int)
  ·rw[if_pos ha]at h;have e:((a.toNat:Nat):Int)=a:=V7 ha.1
   by_cases h1:t.getD a.toNat 0 = -1
   ·exact⟨a.toNat,a.toNat,0,e.symm,by omega,.top (by omega) h1⟩
   ·rw[if_neg h1]at h
    cases hu:Go.Proofs.YtmkiepobhjiabaaGreat.upD t m (t.getD a.toNat 0) with
    | none=>rw[hu]at h;cases h
    | some q'=>
     obtain⟨y,r,k,e1,e2,e3⟩:=ih _ _ hu;exact⟨a.toNat,r,k+1,e.symm,by omega,.up (by omega) e1 e3⟩
  ·rw[if_neg ha]at h;cases h
theorem pathD_tp{a:Int}:Ee t a≠[]↔∃ x r k:Nat,a=(x:Int)/\Tp t x r k:=by
 constructor
 ·intro h
  cases hu:upD t t.length a with
  | none=>exact absurd (pathD_nil.2 hu) h
  | some q=>obtain⟨x,r,k,e1,_,e2⟩:=upD_tp _ _ _ hu;exact⟨x,r,k,e1,e2⟩
 ·rintro⟨x,r,k,rfl,h⟩ e;obtain⟨q,hq,_⟩:=h.upD t.length h.short;rw[pathD_nil.1 e]at hq;cases hq
theorem Tp.path{x r k:Nat}(h:Tp t x r k):(∀ w:Int,w∈Ee t (x:Int)↔∃ z:Nat,w=(z:Int)/\UpTo (Bk t) x z) /\
  ∀ p:Int->Bool,((Ee t (x:Int)).find? p=none/\∀ z:Nat,UpTo (Bk t) x z->p (z:Int)=false)\/∃ f:Nat,(Ee t (x:Int)).find? p=some (f:Int)/\UpTo (Bk t) x f/\p (f:Int)=true/\∀ z:Nat,UpTo (Bk t) x z->p (z:Int)=true->UpTo (Bk t) f z:=by
 obtain⟨q,h1,h2,h3⟩:=h.upD t.length h.short
 have e:Ee t (x:Int)=q:=by unfold Ee;rw[h1];rfl
 rw[e];exact⟨h2,h3⟩
theorem getD_set{α:Type}{l:List α}{i j:Nat}{x d:α}(hi:i<l.length):(l.set i x).getD j d=if j=i then x else l.getD j d:=by
 by_cases h:j=i
 ·subst h;simp[List.getD,hi]
 ·simp[List.getD,h,Ne.symm h]
theorem meet_L1{x r k:Nat}(h:Tp t x r k):∀ l:List Bool,l.length=t.length->∃ l',Ag (H3 t) ((x:Int),l)=some l'/\l'.length=t.length/\∀ z,z<t.length->(l'.getD z false=true↔l.getD z false=true\/UpTo (Bk t) x z):=by
 induction h with
 | @top x hx h=>
  intro l hl
  have hs:H3 t ((x:Int),l)=some (.next (-1,l.set x true)):=by
   unfold H3
   have hb:((x:Int)!=(-1:Int))=true:=by rw[zzL101];omega
   simp only[hb,Af,Au,h];rw[Ad (Gc (by omega)),Ad (Gc hx)]
  have hd:H3 t (-1,l.set x true)=some (.done (l.set x true)):=by
   unfold H3
   rfl
  refine⟨l.set x true,by rw[Ay hs,Ao hd],by simp[hl],fun z hz=>?_⟩;rw[getD_set (by omega)]
  have htop:UpTo (Bk t) x z↔z=x:=anc_top fun p hp=>by have:_=_:=hp.symm.trans h;omega
  rw[htop]
  by_cases e:z=x
  ·simp[e]
  ·simp[e]
 | @up x y r k hx h hk ih=>
  intro l hl
  have hs:H3 t ((x:Int),l)=some (.next ((y:Int),l.set x true)):=by
   unfold H3
   have hb:((x:Int)!=(-1:Int))=true:=by rw[zzL101];omega
   simp only[hb,Af,Au,h];rw[Ad (Gc (by omega)),Ad (Gc hx)]
  obtain⟨l',e1,e2,e3⟩:=ih (l.set x true) (by simp[hl]);refine⟨l',by rw[Ay hs,e1],e2,fun z hz=>?_⟩;rw[e3 z hz,getD_set (by omega),anc_up (par:=Bk t) h]
  by_cases e:z=x
  ·simp[e]
  ·simp[e]
theorem meet_L2{b r k:Nat}(h:Tp t b r k)(l:List Bool)(hl:l.length=t.length):l.getD r false=true->∃ c:Nat,Ag (H4 t l) (b:Int)=some (c:Int)/\UpTo (Bk t) b c/\l.getD c false=true/\∀ z,UpTo (Bk t) b z->l.getD z false=true->UpTo (Bk t) c z:=by
 induction h with
 | @top x hx h=>
  intro hr
  have hd:H4 t l (x:Int)=some (.done (x:Int)):=by
   unfold H4;rw[Ad (Gc (by omega)),Au,hr]
   rfl
  exact⟨x,Ao hd,.refl _,hr,fun z hz _=>hz⟩
 | @up x y r k hx h hk ih=>
  intro hr
  cases hx2:l.getD x false with
  | true=>
   have hd:H4 t l (x:Int)=some (.done (x:Int)):=by
    unfold H4;rw[Ad (Gc (by omega)),Au,hx2]
    rfl
   exact⟨x,Ao hd,.refl _,hx2,fun z hz _=>hz⟩
  | false=>
   have hs:H4 t l (x:Int)=some (.next (y:Int)):=by
    unfold H4;rw[Ad (Gc (by omega)),Au,hx2,L2,Af,Ad (Gc hx),h]
   obtain⟨c,e1,e2,e3,e4⟩:=ih hr;refine⟨c,by rw[Ay hs,e1],.up h e2,e3,fun z hz hlz=>?_⟩;rcases(anc_up (par:=Bk t) h).1 hz with rfl|hz
   ·rw[hx2]at hlz;cases hlz
   ·exact e4 z hz hlz
theorem m_meet_prog(ht:t.length<=1000){a b r k m:Nat}(ha:Tp t a r k)(hb:Tp t b r m):∃ c:Nat,N7 t (a:Int) (b:Int)=some (c:Int)/\MeetAt (Bk t) a b c:=by
 unfold N7
 have hroom:(1000:Nat)<=room:=by decide
 rw[Ad ⟨by omega,by omega,by omega⟩,Au];obtain⟨l',h1,h2,h3⟩:=meet_L1 ha (List.replicate t.length false) (by simp);rw[h1,An]
 have h3':∀ z,z<t.length->(l'.getD z false=true↔UpTo (Bk t) a z):=fun z hz=>by rw[h3 z hz,Ry];simp
 obtain⟨c,e1,e2,e3,e4⟩:=meet_L2 hb l' h2 ((h3' r ha.tops.1).2 ha.upTo)
 have hc:c<t.length:=by obtain⟨j,_,hj,_⟩:=hb.on e2;exact hj.lt
 refine⟨c,by rw[e1];rfl,fun w=>⟨fun hw=>⟨((h3' c hc).1 e3).trans hw,e2.trans hw⟩,fun⟨hw1,hw2⟩=>?_⟩⟩;obtain⟨j,_,hj,_⟩:=ha.on hw1;exact e4 w hw2 ((h3' w hj.lt).2 hw1)
theorem meetD_at(hR:K3 t=true){a b r k m:Nat}(ha:Tp t a r k)(hb:Tp t b r m):∃ c:Nat,Pc t (a:Int) (b:Int)=(c:Int)/\MeetAt (Bk t) a b c:=by
 unfold Pc;rw[if_pos hR]
 have hcon:∀ z:Nat,(Ee t (b:Int)).contains (z:Int)=true↔UpTo (Bk t) b z:=fun z=>by
  rw[zzL68,hb.path.1]
  constructor
  ·rintro⟨y,e,hy⟩;cases Tg e;exact hy
  ·intro hz;exact⟨z,rfl,hz⟩
 rcases ha.path.2 (fun x=>(Ee t (b:Int)).contains x) with⟨e1,e2⟩|⟨f,e1,e2,e3,e4⟩
 ·have:=e2 r ha.upTo;rw[(hcon r).2 hb.upTo]at this
  cases this
 ·exact⟨f,by rw[e1];rfl,fun w=>⟨fun hw=>⟨e2.trans hw,((hcon f).1 e3).trans hw⟩,fun⟨hw1,hw2⟩=>e4 w hw1 ((hcon w).2 hw2)⟩⟩
theorem MeetAt.same{a b r k c d:Nat}(ha:Tp t a r k)(hc:MeetAt (Bk t) a b c)(hd:MeetAt (Bk t) a b d):c=d:=by
 obtain⟨j,_,hj,_⟩:=ha.on ((hc c).1 (.refl _)).1;exact(hj.anti ((hc d).2 ((hd d).1 (.refl _))) ((hd c).2 ((hc c).1 (.refl _)))).symm
end
theorem m_index(t:List Int)(v:Int)(ht:t.length<=1000):(∃ r:Nat,r<t.length/\t.getD r 0=v/\(∀ i,i<r->t.getD i 0≠v)/\Fs t v=some (r:Int))\/((∀ i,i<t.length->t.getD i 0≠v)/\Fs t v=some (-1)):=by
 have key:∀ k i:Nat,i+k=t.length->(∀ j,j<i->t.getD j 0≠v)->
   (∃ r:Nat,r<t.length/\t.getD r 0=v/\(∀ i,i<r->t.getD i 0≠v)/\Ag (Cf t v) (i:Int)=some (.inr (r:Int)))\/((∀ i,i<t.length->t.getD i 0≠v)/\Ag (Cf t v) (i:Int)=some (.inl ())):=by
  intro k
  induction k with
  | zero=>
   intro i hi hj
   obtain rfl:i=t.length:=by omega
   refine .inr ⟨hj,Ao ?_⟩;unfold Cf;rw[Gf];rfl
  | succ k ih=>
   intro i hi hj
   by_cases e:v=t.getD i 0
   ·refine .inl ⟨i,by omega,e.symm,hj,Ao ?_⟩;unfold Cf;have hb:((v:Int)==t.getD i 0)=true:=zzL71.2 e;simp only[De (show i<t.length by omega),Af,Au,hb];rw[Ad (Gc (by omega))]
   ·have hs:Cf t v (i:Int)=some (.next ((i+1:Nat):Int)):=by
     unfold Cf;have hb:((v:Int)==t.getD i 0)=false:=zzL34.2 e;simp only[De (show i<t.length by omega),Af,Au,hb,Ar];rw[Ad (Gc (by omega)),w1 (by omega)]
    rw[Ay hs]
    exact ih (i+1) (by omega) fun j hj2=>by
     by_cases ej:j=i
     ·subst ej;exact fun h=>e h.symm
     ·exact hj j (by omega)
 have h0:=key t.length 0 (by omega) (fun j hj=>absurd hj (Qp _));unfold Fs;rcases h0 with⟨r,h1,h2,h3,h4⟩|⟨h1,h2⟩
 ·exact .inl ⟨r,h1,h2,h3,by rw[show((0:Int))=((0:Nat):Int) from rfl,h4];rfl⟩
 ·exact .inr ⟨h1,by rw[show((0:Int))=((0:Nat):Int) from rfl,h2];rfl⟩
section
variable {t:List Int}
structure Zp(t:List Int)(r f:Nat)(w:List Int):Prop where
 len:w.length=t.length
 old:∀ y,y<t.length->w.getD y 0≠0->(w.getD y 0<=(f:Int))/\∃ k,Tp t y r k
structure Walk(t:List Int)(r f x:Nat)(w:List Int):Prop where
 len:w.length=t.length
 hx:x<t.length
 old:∀ y,y<t.length->w.getD y 0≠0->w.getD y 0<=(f:Int)/\(∃ k,Tp t y r k)\/w.getD y 0=((f+1:Nat):Int)/\∀ r' k,Tp t x r' k->∃ j,k<j/\Tp t y r' j
 fwd:∀ r' k,Tp t x r' k->∃ j,k<=j/\Tp t f r' j
 back:∀ r' k,Tp t f r' k->∃ j,Tp t x r' j
def zeros(w:List Int):Nat:=w.countP fun z=>z==0
theorem zeros_set{w:List Int}{x:Nat}{v:Int}(hx:x<w.length)(h0:w.getD x 0=0)(hv:v≠0):zeros (w.set x v)<zeros w:=by
 unfold zeros;rw[List.countP_set hx];rw[Ai _ _ _ hx]at h0;have hp:0<w.countP fun z=>z==0:=List.countP_pos_iff.2 ⟨w[x],V8 hx,by simp[h0]⟩;have hb:(v==0)=false:=zzL34.2 hv;simp only[h0,Qo,K6,hb,zzL105,Gw];omega
theorem leads_loop(ht:t.length<=1000){r:Nat}(hr:r<t.length)(htop:t.getD r 0 = -1){f:Nat}(hf:f<t.length):∀(m x:Nat) (w:List Int),zeros w<=m->Walk t r f x w->
  (∃ w',Ag (D0 t (f:Int) (r:Int)) ((x:Int),w)=some (.inl w')/\Zp t r (f+1) w'/\∃ k,Tp t f r k) \/
  ∃ b w',Ag (D0 t (f:Int) (r:Int)) ((x:Int),w)=some (.inr (b,w'))/\w'.length=t.length/\(b=true->Zp t r (f+1) w'/\∃ k,Tp t f r k)/\(b=false->∀ k,¬ Tp t f r k):=by
 intro m
 induction m with
 | zero=>
  intro x w hz hw;exact go 0 (fun x w hz=>absurd hz (Qp _)) x w hz hw
 | succ m ih=>
  intro x w hz hw;exact go (m+1) (fun x w hz=>ih x w (Nat.le_of_lt_succ hz)) x w hz hw
where
 go (m:Nat) (ih:∀(x:Nat) (w:List Int),zeros w<m->Walk t r f x w->
  (∃ w',Ag (D0 t (f:Int) (r:Int)) ((x:Int),w)=some (.inl w')/\Zp t r (f+1) w'/\∃ k,Tp t f r k) \/
  ∃ b w',Ag (D0 t (f:Int) (r:Int)) ((x:Int),w)=some (.inr (b,w'))/\w'.length=t.length/\(b=true->Zp t r (f+1) w'/\∃ k,Tp t f r k)/\(b=false->∀ k,¬ Tp t f r k)) (x:Nat) (w:List Int) (hz:zeros w<=m) (hw:Walk t r f x w) :
  (∃ w',Ag (D0 t (f:Int) (r:Int)) ((x:Int),w)=some (.inl w')/\Zp t r (f+1) w'/\∃ k,Tp t f r k) \/
  ∃ b w',Ag (D0 t (f:Int) (r:Int)) ((x:Int),w)=some (.inr (b,w'))/\w'.length=t.length/\(b=true->Zp t r (f+1) w'/\∃ k,Tp t f r k)/\(b=false->∀ k,¬ Tp t f r k):=by
  have hxl:=hw.hx
  have told:∀ k,Tp t x r k->Zp t r (f+1) w/\∃ k,Tp t f r k:=fun k hk=>by
   obtain⟨j,_,hj⟩:=hw.fwd _ _ hk;refine⟨⟨hw.len,fun y hy hy0=>?_⟩,j,hj⟩;rcases hw.old y hy hy0 with⟨h1,h2⟩|⟨h1,h2⟩
   ·exact⟨by omega,h2⟩
   ·obtain⟨i,_,hi⟩:=h2 _ _ hk;exact⟨by omega,i,hi⟩
  by_cases hxr:x=r
  ·subst hxr;refine .inl ⟨w,Ao ?_,told 0 (.top hr htop)⟩;unfold D0
   have hb:((x:Int)!=(x:Int))=false:=by simp
   simp only[hb,Ar]
  ·have hb:((x:Int)!=(r:Int))=true:=by rw[zzL101];omega
   have hin:A5 (x:Int) w.length:=Gc (by rw[hw.len];exact hxl)
   by_cases hw0:w.getD x 0=0
   ·have hb0:((w.getD x 0:Int)!=0)=false:=by rw[hw0];rfl
    by_cases hpl:0<=t.getD x 0/\t.getD x 0<(t.length:Int)
    ·have hwf:w64 ((f:Int)+1)=((f+1:Nat):Int):=w1 (by omega)
     have hs:D0 t (f:Int) (r:Int) ((x:Int),w)=some (.next (t.getD x 0,w.set x ((f+1:Nat):Int))):=by
      unfold D0 Kg;simp only[hb,Af,Au,hb0,Ar];rw[Ad hin,Ad (Gc hxl),B2 hpl.1,B2 hpl.2,Af,An,Df,Ar,Ad hin,Ad (Gc hxl),hwf]
     rw[Ay hs];obtain⟨y,hy⟩:∃ y:Nat,t.getD x 0=(y:Int):=⟨(t.getD x 0).toNat,(V7 hpl.1).symm⟩;rw[hy]at hpl ⊢
     have hyl:y<t.length:=by omega
     have hst:∀ r' k,Tp t y r' k->Tp t x r' (k+1):=fun r' k hk=>.up hxl hy hk
     have hset:∀ z,z<t.length->(w.set x ((f+1:Nat):Int)).getD z 0=if z=x then((f+1:Nat):Int) else w.getD z 0:=fun z _=>getD_set (by rw[hw.len];exact hxl)
     have hW:Walk t r f y (w.set x ((f+1:Nat):Int)):=by
      refine⟨by simp[hw.len],hyl,fun z hzl hz0=>?_,fun r' k hk=>?_,fun r' k hk=>?_⟩
      ·rw[hset z hzl]at hz0 ⊢
       by_cases e:z=x
       ·subst e;rw[if_pos rfl];exact .inr ⟨rfl,fun r' k hk=>⟨k+1,by omega,hst r' k hk⟩⟩
       ·rw[if_neg e]at hz0 ⊢;rcases hw.old z hzl hz0 with h1|⟨h1,h2⟩
        ·exact .inl h1
        ·refine .inr ⟨h1,fun r' k hk=>?_⟩;obtain⟨j,hj1,hj2⟩:=h2 _ _ (hst r' k hk);exact⟨j,by omega,hj2⟩
      ·obtain⟨j,hj1,hj2⟩:=hw.fwd _ _ (hst r' k hk);exact⟨j,by omega,hj2⟩
      ·obtain⟨j,hj⟩:=hw.back _ _ hk
       cases hj with
       | top _ h2=>omega
       | up _ h2 h3=>
        have:=hy.symm.trans h2
        cases Tg this
        exact⟨_,h3⟩
     have hzz:=zeros_set (x:=x) (v:=((f+1:Nat):Int)) (by rw[hw.len];exact hxl) hw0 (by omega);exact ih y _ (by omega) hW
    ·refine .inr ⟨false,w,Ao ?_,hw.len,⟨fun h=>(by cases h),fun _ k hk=>?_⟩⟩
     ·unfold D0 Kg;simp only[hb,Af,Au,hb0,Ar];rw[Ad hin,Ad (Gc hxl)]
      have:(bif decide ((0:Int)<=t.getD x 0) then decide (t.getD x 0<(t.length:Int)) else false)=false:=by
       cases h1:decide ((0:Int)<=t.getD x 0) with
       | false=>rfl
       | true=>rw[Af];exact C0 fun h2=>hpl ⟨zzL94 h1,h2⟩
      rw[this,An]
      rfl
     ·obtain⟨j,hj⟩:=hw.back _ _ hk
      cases hj with
      | top=>exact hxr rfl
      | up _ h2 h3=>have:=h3.lt;exact hpl ⟨by omega,by omega⟩
   ·have hb0:((w.getD x 0:Int)!=0)=true:=by rw[zzL101];exact hw0
    have hwf:w64 ((f:Int)+1)=((f+1:Nat):Int):=w1 (by omega);refine .inr ⟨w.getD x 0 !=((f+1:Nat):Int),w,Ao ?_,hw.len,⟨fun h=>?_,fun h k hk=>?_⟩⟩
    ·unfold D0;simp only[hb,Af,Au,hb0];rw[Ad hin,Ad hin,hwf]
    ·rcases hw.old x hxl hw0 with⟨_,k,hk⟩|⟨h1,_⟩
     ·exact told k hk
     ·rw[h1]at h;simp at h
    ·have he:w.getD x 0=((f+1:Nat):Int):=by simpa using h
     obtain⟨j,hj⟩:=hw.back _ _ hk;rcases hw.old x hxl hw0 with⟨h1,_⟩|⟨_,h2⟩
     ·omega
     ·obtain⟨i,hi1,hi2⟩:=h2 _ _ hj;have:=hj.det hi2;omega
end
section
variable {t:List Int}
theorem m_leads(ht:t.length<=1000){r:Nat}(hr:r<t.length)(htop:t.getD r 0 = -1){f:Nat}(hf:f<t.length){w:List Int}(hw:Zp t r f w) :
  ∃ b w',P6 t w (f:Int) (r:Int)=some (b,w')/\w'.length=t.length/\(b=true->Zp t r (f+1) w'/\∃ k,Tp t f r k)/\(b=false->∀ k,¬ Tp t f r k):=by
 unfold P6;have hW:Walk t r f f w:=⟨hw.len,hf,fun y hy h0=>.inl (hw.old y hy h0),fun r' k hk=>⟨k,zzL9 _,hk⟩,fun r' k hk=>⟨k,hk⟩⟩;rcases leads_loop ht hr htop hf _ f w (zzL9 _) hW with⟨w',e1,e2⟩|⟨b,w',e1,e2,e3,e4⟩
 ·exact⟨true,w',by rw[e1];rfl,e2.1.len,fun _=>e2,fun h=>by cases h⟩
 ·exact⟨b,w',by rw[e1];rfl,e2,e3,e4⟩
def AllUp(t:List Int)(r:Nat):Prop:=∀ f,f<t.length->t.getD f 0≠-2->∃ k,Tp t f r k
open Classical in
theorem isTree_loop(ht:t.length<=1000){r:Nat}(hr:r<t.length)(htop:t.getD r 0 = -1):∀(k f:Nat) (w:List Int),f+k=t.length->Zp t r f w->(∀ y,y<f->t.getD y 0≠-2->∃ k,Tp t y r k)->
  Ag (F9 t (r:Int)) ((f:Int),w)=some (if AllUp t r then .inl () else .inr false):=by
 intro k
 induction k with
 | zero=>
  intro f w hk hw hd
  obtain rfl:f=t.length:=by omega
  apply Ao
  unfold F9;simp only[Gf,Ar];rw[if_pos (show AllUp t r from hd)]
 | succ k ih=>
  intro f w hk hw hd
  have hf:f<t.length:=by omega
  by_cases h2:t.getD f 0 = -2
  ·have hb:((t.getD f 0:Int)!=(-2))=false:=by rw[h2];rfl
   have hs:F9 t (r:Int) ((f:Int),w)=some (.next (((f+1:Nat):Int),w)):=by
    unfold F9;simp only[De hf,Af,Au,hb,show(false==true)=false from rfl,Ar,An];rw[Ad (Gc hf),Ad (fun h=>by cases h),w1 (by omega)]
   rw[Ay hs];refine ih (f+1) w (by omega) ⟨hw.len,fun y hy h0=>?_⟩ fun y hy hy2=>?_
   ·obtain⟨e1,e2⟩:=hw.old y hy h0;exact⟨by omega,e2⟩
   ·by_cases e:y=f
    ·subst e;exact absurd h2 hy2
    ·exact hd y (by omega) hy2
  ·have hb:((t.getD f 0:Int)!=(-2))=true:=by rw[zzL101];exact h2
   obtain⟨b,w',e1,e2,e3,e4⟩:=m_leads ht hr htop hf hw
   cases b with
   | false=>
    rw[if_neg (fun hA:AllUp t r=>by obtain⟨k,hk⟩:=hA f hf h2;exact e4 rfl k hk)]
    apply Ao
    unfold F9;simp only[De hf,Af,Au,hb,show(true==true)=true from rfl,e1,An];rw[Ad (Gc hf),Ad (fun _=>by rw[hw.len,e2])]
    rfl
   | true=>
    have hs:F9 t (r:Int) ((f:Int),w)=some (.next (((f+1:Nat):Int),w')):=by
     unfold F9;simp only[De hf,Af,Au,hb,show(true==true)=true from rfl,e1,An];rw[Ad (Gc hf),Ad (fun _=>by rw[hw.len,e2]),w1 (by omega)]
     rfl
    rw[Ay hs];obtain⟨e5,e6⟩:=e3 rfl;refine ih (f+1) w' (by omega) e5 fun y hy hy2=>?_
    by_cases e:y=f
    ·subst e;exact e6
    ·exact hd y (by omega) hy2
theorem tops_one:topsK t t.length=1↔∃ r,r<t.length/\t.getD r 0 = -1/\∀ x,x<t.length->t.getD x 0 = -1->x=r:=by
 have key:∀ n,(topsK t n=0↔∀ x,x<n->t.getD x 0≠-1)/\(topsK t n=1↔∃ r,r<n/\t.getD r 0 = -1/\∀ x,x<n->t.getD x 0 = -1->x=r):=by
  intro n
  induction n with
  | zero=>exact⟨⟨fun _ x hx=>absurd hx (Qp _),fun _=>rfl⟩,⟨fun h=>by simp[topsK]at h,fun⟨r,h,_⟩=>absurd h (Qp _)⟩⟩
  | succ n ih=>
   rw[topsK_succ]
   by_cases e:t.getD n 0 = -1
   ·rw[if_pos e];refine⟨⟨fun h=>by omega,fun h=>absurd e (h n (by omega))⟩,⟨fun h=>⟨n,by omega,e,fun x hx hx1=>?_⟩,fun⟨r,h1,h2,h3⟩=>?_⟩⟩
    ·by_cases ex:x=n
     ·exact ex
     ·exact absurd hx1 (ih.1.1 (by omega) x (by omega))
    ·have:=ih.1.2 fun x hx hx1=>by
      have:=h3 x (by omega) hx1;have:=h3 n (by omega) e;omega
     omega
   ·rw[if_neg e,Pi];refine⟨⟨fun h x hx=>?_,fun h=>ih.1.2 fun x hx=>h x (by omega)⟩,⟨fun h=>?_,fun⟨r,h1,h2,h3⟩=>?_⟩⟩
    ·by_cases ex:x=n
     ·subst ex;exact e
     ·exact ih.1.1 h x (by omega)
    ·obtain⟨r,h1,h2,h3⟩:=ih.2.1 h;refine⟨r,by omega,h2,fun x hx hx1=>?_⟩
     by_cases ex:x=n
     ·subst ex;exact absurd hx1 e
     ·exact h3 x (by omega) hx1
    ·refine ih.2.2 ⟨r,?_,h2,fun x hx hx1=>h3 x (by omega) hx1⟩
     by_cases ex:r=n
     ·subst ex;exact absurd h2 e
     ·omega
 exact(key _).2
theorem rightD_iff:K3 t=true↔∃ r,r<t.length/\t.getD r 0 = -1/\AllUp t r:=by
 unfold K3;rw[Bc,all_range,Jd,tops_one]
 constructor
 ·rintro⟨h1,r,h2,h3,h4⟩;refine⟨r,h2,h3,fun f hf hf2=>?_⟩;have:=h1 f hf;unfold okR at this;rw[zzL97,Jd,Ph,zzL92]at this;rcases this with h|h
  ·exact absurd h hf2
  ·obtain⟨x,r',k,e,hk⟩:=pathD_tp.1 h
   cases Tg e
   have:=h4 _ hk.tops.1 hk.tops.2;subst this;exact⟨k,hk⟩
 ·rintro⟨r,h2,h3,h4⟩;refine⟨fun f hf=>?_,r,h2,h3,fun x hx hx1=>?_⟩
  ·unfold okR;rw[zzL97,Jd,Ph,zzL92]
   by_cases e:t.getD f 0 = -2
   ·exact .inl e
   ·obtain⟨k,hk⟩:=h4 f hf e;exact .inr (pathD_tp.2 ⟨f,r,k,rfl,hk⟩)
  ·obtain⟨k,hk⟩:=h4 x hx (by omega);exact((hk.det (.top hx hx1)).1).symm
theorem rightD_at(hR:K3 t=true):∃ r,AllUp t r:=by obtain⟨r,_,_,h⟩:=rightD_iff.1 hR;exact⟨r,h⟩
theorem m_isTree(ht:t.length<=1000):Ow t=some (K3 t):=by
 unfold Ow
 have hroom:(1000:Nat)<=room:=by decide
 rcases m_index t (-1) ht with⟨r,h1,h2,h3,h4⟩|⟨h1,h2⟩
 ·rw[h4,An,show decide ((r:Int)<0)=false from C0 (by omega),Ar,Ad ⟨by omega,by omega,by omega⟩,Au];have hl:=isTree_loop ht h1 h2 t.length 0 (List.replicate t.length 0) (by omega) ⟨by simp,fun y hy h0=>absurd Ry h0⟩ (fun y hy=>absurd hy (Qp _));rw[show(((0:Nat):Int))=0 from rfl]at hl;rw[hl,An]
  by_cases hA:AllUp t r
  ·rw[if_pos hA,rightD_iff.2 ⟨r,h1,h2,hA⟩]
  ·rw[if_neg hA]
   have:K3 t=false:=Bool.eq_false_iff.2 fun hR=>by
    obtain⟨r',g1,g2,g3⟩:=rightD_iff.1 hR;obtain⟨k,hk⟩:=g3 r h1 (by omega);have:=(hk.det (.top h1 h2)).1;subst this;exact hA g3
   rw[this]
 ·rw[h2,An]
  have:K3 t=false:=Bool.eq_false_iff.2 fun hR=>by
   obtain⟨r',g1,g2,g3⟩:=rightD_iff.1 hR;exact h1 r' g1 g2
  rw[this]
  rfl
def hasB(t:List Int)(a:Int):Bool:=decide (0<=a)&&decide (a<(t.length:Int))&&decide (t.getD a.toNat 0≠-2)
theorem hasB_iff(hR:K3 t=true){a:Int}:hasB t a=true↔∃ x k r:Nat,a=(x:Int)/\Tp t x r k:=by
 unfold hasB;rw[Bc,Bc,Jd,Jd,Jd]
 constructor
 ·rintro⟨⟨h1,h2⟩,h3⟩;obtain⟨r,hA⟩:=rightD_at hR;obtain⟨k,hk⟩:=hA a.toNat (by omega) h3;exact⟨a.toNat,k,r,(V7 h1).symm,hk⟩
 ·rintro⟨x,k,r,rfl,h⟩;have:=h.lt;refine⟨⟨by omega,by omega⟩,?_⟩;rw[Au]
  cases h with
  | top _ h2=>omega
  | up _ h2 _=>omega
theorem m_hasEntry(a:Int):Ku t a=some (hasB t a):=by
 unfold Ku Kg hasB;rw[An]
 cases h1:decide ((0:Int)<=a) with
 | false=>rfl
 | true=>
  rw[Af,F8]
  cases h2:decide (a<(t.length:Int)) with
  | false=>rfl
  | true=>
   rw[Ad (fun _=>⟨zzL94 h1,zzL94 h2⟩),Af,F8]
   congr 1
   rw[Nw,zzL101,Jd]
theorem m_areIn(ht:t.length<=1000)(a b:Int):P5 t a b=some (K3 t&&hasB t a&&hasB t b):=by
 unfold P5;rw[m_isTree ht,An]
 cases K3 t with
 | false=>rfl
 | true=>
  simp only[show(true==true)=true from rfl,Af,m_hasEntry,An,F8]
  cases hasB t a with
  | false=>rfl
  | true=>simp only[show(true==true)=true from rfl,Af,m_hasEntry,An,F8]
theorem meetD_out{a b:Int}(h:(K3 t&&hasB t a&&hasB t b)=false):Pc t a b = -2:=by
 unfold Pc
 by_cases hR:K3 t=true
 ·rw[if_pos hR];rw[hR,F8]at h
  have hno:∀ c,hasB t c=false->Ee t c=[]:=fun c hc=>by
   by_cases e:Ee t c=[]
   ·exact e
   ·obtain⟨x,r,k,e1,e2⟩:=pathD_tp.1 e;rw[(hasB_iff hR).2 ⟨x,k,r,e1,e2⟩]at hc;cases hc
  cases ha:hasB t a with
  | false=>rw[hno a ha];rfl
  | true=>
   rw[ha,F8]at h;rw[hno b h]
   have:((Ee t a).find? fun x=>([]:List Int).contains x)=none:=List.find?_eq_none.2 fun x _=>by simp
   rw[this]
   rfl
 ·rw[if_neg hR]
theorem meet_prog_doc(ht:t.length<=1000){a b:Int}(h:(K3 t&&hasB t a&&hasB t b)=true):N7 t a b=some (Pc t a b)/\0<=Pc t a b:=by
 rw[Bc,Bc]at h;obtain⟨⟨hR,ha⟩,hb⟩:=h;obtain⟨x,k,r,rfl,hx⟩:=(hasB_iff hR).1 ha;obtain⟨y,m,r',rfl,hy⟩:=(hasB_iff hR).1 hb;obtain⟨rr,hA⟩:=rightD_at hR
 have top:∀{x r k},Tp t x r k->r=rr:=fun{x r k} h=>by
  obtain⟨i,hi⟩:=hA r h.tops.1 (by rw[h.tops.2];omega);exact((Tp.top h.tops.1 h.tops.2).det hi).1
 obtain rfl:=top hx;obtain rfl:=top hy;obtain⟨c,h1,h2⟩:=m_meet_prog ht hx hy;obtain⟨d,h3,h4⟩:=meetD_at hR hx hy;have:=h2.same hx h4;subst this;exact⟨by rw[h1,h3],by omega⟩
theorem m_Over(ht:t.length<=1000)(a b:Int):Pl t a b=some (X2 t a b):=by
 unfold Pl X2;rw[m_areIn ht,An]
 cases h:(K3 t&&hasB t a&&hasB t b) with
 | false=>
  rw[meetD_out h]
  have:((-2:Int)==a&&((-2:Int)!=-2))=false:=by simp
  rw[this]
  rfl
 | true=>
  obtain⟨h1,h2⟩:=meet_prog_doc ht h;simp only[show(true==true)=true from rfl,Af,h1,An]
  have:(Pc t a b !=-2)=true:=by rw[zzL101];omega
  rw[this,zzL141]
end
theorem mul_fin:∀ n:Fin 65,N5 (Io 1) (Io ((n.val:Nat):Int))=some (0,((n.val:Nat):Int)):=by decide +kernel
theorem mul_small{n:Nat}(h:n<=64):N5 (Io 1) (Io (n:Int))=some (0,(n:Int)):=mul_fin ⟨n,by omega⟩
theorem repeat_loop{v:Int}{n:Nat}(hn:n<=64):∀(m i:Nat) (l:List Int),n-i<=m->1<=i->i<=n->l.length=n->(∀ j,j<i->l.getD j 0=v)->Ag Cz ((i:Int),l)=some (List.replicate n v):=by
 intro m
 induction m with
 | zero=>
  intro i l hm h1 h2 hl hv
  obtain rfl:i=n:=by omega
  exact fin l hl hv
 | succ m ih=>
  intro i l hm h1 h2 hl hv
  by_cases e:i=n
  ·subst e;exact fin l hl hv
  ·have hs:Cz ((i:Int),l)=some (.next (((i+Nat.min i (n-i):Nat):Int),cpL l i (Nat.min i (n-i)) (fun j=>l.getD (0+j) 0))):=by
    unfold Cz;simp only[hl,De (show i<n by omega),Af,Au,G3,Yl];have hc:(0:Int)<=(i:Int)/\i<=n:=⟨by omega,h2⟩;have hmn:Nat.min i (n-i)<=i:=Nat.min_le_left _ _;rw[Ad hc,Ad hc,Jy (by omega) (by omega),Int.natCast_add]
   rw[Ay hs];have hmn:Nat.min i (n-i)<=i/\Nat.min i (n-i)<=n-i:=⟨Nat.min_le_left _ _,Nat.min_le_right _ _⟩;have hge:1<=Nat.min i (n-i):=Nat.le_min.2 ⟨h1,by omega⟩;refine ih _ _ (by omega) (by omega) (by omega) (by rw[<- Jf];exact hl) fun j hj=>?_;rw[cpL_getD _ _ _ _ _ _ (by omega)]
   by_cases hji:i<=j/\j<i+Nat.min i (n-i)
   ·rw[if_pos hji,G3];exact hv _ (by omega)
   ·rw[if_neg hji];exact hv _ (by omega)
where
 fin {v:Int} {i:Nat} (l:List Int) (hl:l.length=i) (hv:∀ j,j<i->l.getD j 0=v):Ag Cz ((i:Int),l)=some (List.replicate i v):=by
  apply Ao
  unfold Cz;simp only[hl,Gf,Ar]
  congr 2
  refine Yi (by simp[hl]) fun j h1 h2=>?_;rw[<- Ai _ _ 0 h1,hv j (by omega)]
  simp
theorem m_repeat{v:Int}{n:Nat}(h1:1<=n)(hn:n<=64):Gv [v] (n:Int)=some (List.replicate n v):=by
 have hroom:(64:Nat)<=room:=by decide
 unfold Gv;rw[show decide ((n:Int)<0)=false from C0 (by omega),Ar,An]
 show Option.bind (N5 (Io 1) (Io (n:Int))) _=_
 rw[mul_small hn,An];have e1:decide ((0:Int)<(0:Int))=false:=rfl;have e2:decide ((9223372036854775807:Int)<(n:Int))=false:=C0 (by omega);simp only[e1,e2,Ar,An];have ew:w64 (n:Int)=(n:Int):=Jy (by omega) (by omega);rw[ew,Ad ⟨by omega,by omega,by omega⟩,Au,Qm,Yl];have em:Nat.min [v].length n=1:=Nat.min_eq_left h1;rw[em,repeat_loop hn n 1 _ (by omega) (zzL9 _) h1 (by rw[<- Jf];simp) (fun j hj=>?_)]
 ·rfl
 ·rw[cpL_getD _ _ _ _ _ _ (by simp;omega),if_pos ⟨by omega,by omega⟩]
  have:j-0=0:=by omega
  rw[this];rfl
section
variable {S:Nat->List Nat} {r n:Nat} {P:List Nat}
theorem Inv.tp{at_:Nat->Nat}{t:List Int}(h:Inv S r n at_ (Bk t))(hl:t.length=n):∀ m x,at_ x<=m->x<n->Bk t x≠-2->∃ k,Tp t x r k:=by
 intro m
 induction m with
 | zero=>
  intro x hm hx hp;rcases h.kind x hx with h1|h1|⟨z,hz⟩
  ·exact absurd h1 hp
  ·subst h1;exact⟨0,.top (by omega) h.top⟩
  ·obtain⟨_,_,h3,_⟩:=h.up x hx z hz;omega
 | succ m ih=>
  intro x hm hx hp;rcases h.kind x hx with h1|h1|⟨z,hz⟩
  ·exact absurd h1 hp
  ·subst h1;exact⟨0,.top (by omega) h.top⟩
  ·obtain⟨z1,z2,z3,_⟩:=h.up x hx z hz;obtain⟨k,hk⟩:=ih z (by omega) z1 z2;exact⟨k+1,.up (by omega) hz hk⟩
def AllMeet(t l:List Int)(i:Nat)(v:Int):Prop:=
 (v = -2/\∀ j,j<i->Bk t (l.getD j 0).toNat = -2) \/
 ∃ z:Nat,v=(z:Int)/\z<t.length/\Bk t z≠-2/\(∀ w,UpTo (Bk t) z w↔∀ j,j<i->Bk t (l.getD j 0).toNat≠-2->UpTo (Bk t) (l.getD j 0).toNat w)
theorem meetAll_loop{at_:Nat->Nat}{t l:List Int}(ht:t.length<=64)(hll:l.length<=64)(h:Inv S r n at_ (Bk t))(hl:t.length=n)(hin:∀ x∈l,0<=x/\x<(n:Int)):∀(k i:Nat) (v:Int),i+k=l.length->AllMeet t l i v->
  ∃ v',Ag (Fn t l) (v,(i:Int))=some v'/\AllMeet t l l.length v':=by
 intro k
 induction k with
 | zero=>
  intro i v hi hv
  obtain rfl:i=l.length:=by omega
  refine⟨v,Ao ?_,hv⟩;unfold Fn;simp only[Gf,Ar]
 | succ k ih=>
  intro i v hi hv
  have hil:i<l.length:=by omega
  obtain⟨x0,x1⟩:=hin _ (Aw (d:=0) hil);have hxe:(((l.getD i 0).toNat:Nat):Int)=l.getD i 0:=V7 x0;have hxin:A5 (l.getD i 0) t.length:=inbz x0 (by omega)
  have next:∀ v',Fn t l (v,(i:Int))=some (.next (v',((i+1:Nat):Int)))->AllMeet t l (i+1) v'->∃ v',Ag (Fn t l) (v,(i:Int))=some v'/\AllMeet t l l.length v':=fun v' hs hv'=>by
   rw[Ay hs];exact ih (i+1) v' (by omega) hv'
  by_cases hp:Bk t (l.getD i 0).toNat = -2
  ·have hb:((t.getD (l.getD i 0).toNat 0:Int)==-2)=true:=zzL71.2 hp;refine next v ?_ ?_
   ·unfold Fn;simp only[De hil,Af,Au,hb];rw[Ad (Gc hil),Ad hxin,An,w1 (by omega)]
   ·have hstep:∀ w,(∀ j,j<i->Bk t (l.getD j 0).toNat≠-2->UpTo (Bk t) (l.getD j 0).toNat w)↔∀ j,j<i+1->Bk t (l.getD j 0).toNat≠-2->UpTo (Bk t) (l.getD j 0).toNat w:=fun w=>by
     refine⟨fun hj j hj1 hj2=>?_,fun hj j hj1=>hj j (by omega)⟩
     by_cases e:j=i
     ·subst e;exact absurd hp hj2
     ·exact hj j (by omega) hj2
    rcases hv with⟨h1,h2⟩|⟨z,h1,h2,h3,h4⟩
    ·refine .inl ⟨h1,fun j hj=>?_⟩
     by_cases e:j=i
     ·subst e;exact hp
     ·exact h2 j (by omega)
    ·exact .inr ⟨z,h1,h2,h3,fun w=>by rw[h4 w,hstep w]⟩
  ·have hb:((t.getD (l.getD i 0).toNat 0:Int)==-2)=false:=zzL34.2 hp;rcases hv with⟨h1,h2⟩|⟨z,h1,h2,h3,h4⟩
   ·subst h1;refine next (l.getD i 0) ?_ (.inr ⟨(l.getD i 0).toNat,hxe.symm,by omega,hp,fun w=>⟨fun hw j hj hj2=>?_,fun hw=>hw i (by omega) hp⟩⟩)
    ·unfold Fn;simp only[De hil,Af,Au,hb,Ar,show((-2:Int)==-2)=true from rfl];rw[Ad (Gc hil),Ad hxin,An,w1 (by omega)]
    ·by_cases e:j=i
     ·subst e;exact hw
     ·exact absurd (h2 j (by omega)) hj2
   ·subst h1;have hb2:((z:Int)==-2)=false:=zzL34.2 (by omega);obtain⟨k1,hk1⟩:=h.tp hl _ z (zzL9 _) (by omega) h3;obtain⟨k2,hk2⟩:=h.tp hl _ (l.getD i 0).toNat (zzL9 _) (by omega) hp;obtain⟨c,c1,c2⟩:=m_meet_prog (by omega) hk1 hk2;have hcz:=(c2 c).1 (.refl _);obtain⟨jc,_,hjc,_⟩:=hk1.on hcz.1
    have hcp:Bk t c≠-2:=by
     show t.getD c 0≠-2
     cases hjc with
     | top _ h=>omega
     | up _ h _=>omega
    refine next (c:Int) ?_ (.inr ⟨c,rfl,hjc.lt,hcp,fun w=>?_⟩)
    ·rw[hxe]at c1;unfold Fn;simp only[De hil,Af,Au,hb,Ar,hb2,c1,An];rw[Ad (Gc hil),Ad hxin,An,w1 (by omega)]
    ·rw[c2 w,h4 w];refine⟨fun⟨a1,a2⟩ j hj hj2=>?_,fun ha=>⟨fun j hj=>ha j (by omega),ha i (by omega) hp⟩⟩
     by_cases e:j=i
     ·subst e;exact a2
     ·exact a1 j (by omega) hj2
theorem m_meetAll{at_:Nat->Nat}{t l:List Int}(ht:t.length<=64)(hll:l.length<=64)(h:Inv S r n at_ (Bk t))(hl:t.length=n)(hin:∀ x∈l,0<=x/\x<(n:Int)) :
  ∃ v,Kh t l=some v/\AllMeet t l l.length v:=by
 obtain⟨v,h1,h2⟩:=meetAll_loop ht hll h hl hin l.length 0 (-2) (by omega) (.inl ⟨rfl,fun j hj=>absurd hj (Qp _)⟩);refine⟨v,?_,h2⟩;unfold Kh;rw[show((0:Int))=((0:Nat):Int) from rfl,h1]
 rfl
end
section
variable {L:List (List Int)} (hm:Lt L=true) {r:Nat} {P:List Nat}
include hm
theorem sN_iff{p y:Nat}(hp:p<L.length):y∈sN L p↔Xi L p y=true:=by
 rw[goes_iff];obtain⟨_,_,h3⟩:=mayS_iff.1 hm
 constructor
 ·intro h;obtain⟨x,hx,rfl⟩:=zzL27.1 h;have:=okL_mem (h3 p hp) hx;rw[V7 this.1];exact hx
 ·intro h;exact zzL27.2 ⟨_,h,Au y⟩
theorem pred_mem{y:Nat}(hy:y<L.length){x:Int}:x∈(Ct L).getD y []↔∃ p:Nat,x=(p:Int)/\p<L.length/\y∈sN L p:=by
 rw[predOf_at hy];unfold Ki;rw[mem_filt]
 constructor
 ·rintro⟨k,h1,h2,h3⟩;exact⟨k,h1,h2,(sN_iff hm h2).2 h3⟩
 ·rintro⟨k,h1,h2,h3⟩;exact⟨k,h1,h2,(sN_iff hm h2).1 h3⟩
theorem meetAll_best(o:Ordered (sN L) r L.length P){t:List Int}{i:Nat}(h:Ready (sN L) r L.length P t i)(hi:i<P.length) :
  Kh t ((Ct L).getD (P.getD i 0) [])=some (N2 (sN L) L.length t (P.getD i 0):Int):=by
 obtain⟨hL1,hL64,_⟩:=mayS_iff.1 hm;have hyn:P.getD i 0<L.length:=o.lt (zzL18 _ (Rd hi))
 have hlen:((Ct L).getD (P.getD i 0) []).length<=64:=by
  rw[predOf_at hyn];have:=Vc L L.length (P.getD i 0);omega
 obtain⟨v,h1,h2⟩:=m_meetAll (by rw[h.len];exact hL64) hlen h.inv h.len fun x hx=>by
  obtain⟨p,rfl,hp,_⟩:=(pred_mem hm hyn).1 hx;omega
 rw[h1];have hb:=h.best o hi
 have mem:∀ p,p<L.length->P.getD i 0∈sN L p->∃ j,j<((Ct L).getD (P.getD i 0) []).length/\(((Ct L).getD (P.getD i 0) []).getD j 0).toNat=p:=fun p hp hy=>by
  obtain⟨j,hj,e⟩:=Qn ((pred_mem hm hyn).2 ⟨p,rfl,hp,hy⟩);exact⟨j,hj,by rw[Ai _ _ _ hj,e,Au]⟩
 have mem':∀ j,j<((Ct L).getD (P.getD i 0) []).length->(((Ct L).getD (P.getD i 0) []).getD j 0).toNat<L.length/\P.getD i 0∈sN L (((Ct L).getD (P.getD i 0) []).getD j 0).toNat:=fun j hj=>by
  obtain⟨p,e,hp,hy⟩:=(pred_mem hm hyn).1 (Aw (d:=(0:Int)) hj);rw[e,Au];exact⟨hp,hy⟩
 rcases h2 with⟨rfl,h3⟩|⟨z,rfl,hz,hz2,h4⟩
 ·obtain⟨p,hp,hyp,hp2,_⟩:=hb.fwd;obtain⟨j,hj,e⟩:=mem p hp hyp;exact absurd (by rw[<- e];exact h3 j hj) hp2
 ·have hbest:Best (sN L) L.length (Bk t) (P.getD i 0) z:=fun w=>by
   rw[h4 w];refine⟨fun ha p hp hyp hp2=>?_,fun ha j hj hj2=>?_⟩
   ·obtain⟨j,hj,e⟩:=mem p hp hyp;have:=ha j hj (by rw[e];exact hp2);rwa[e]at this
   ·obtain⟨q1,q2⟩:=mem' j hj;exact ha _ q1 q2 hj2
  rw[h.best_eq o hi (by rw[<- h.len];exact hz) hz2 hbest]
end
end
end Go.Proofs.YtmkiepobhjiabaaGreat
