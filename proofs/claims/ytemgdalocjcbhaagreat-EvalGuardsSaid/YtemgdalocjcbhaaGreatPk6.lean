/-
  The machine, the program's functions and the laws' arithmetic: part 6 of 6.
-/
import Derived.Test.YtemgdalocjcbhaaGreatPk5
import Derived.OpenShut
import Derived.ShutString
set_option linter.unusedVariables false
set_option linter.unusedSimpArgs false
namespace Go.Proofs.YtemgdalocjcbhaaGreat
noncomputable section
open Go Go.RowKit
set_option maxRecDepth 100000
def wdM(w:Int):Prop:=w=1∨w=8∨w=16∨w=32∨w=64
def u64(x:Int):Prop:=0≤x∧x<18446744073709551616
theorem Ye(x:Int):u64 (Cc x):=by rw[wu64_mod];unfold u64;omega
theorem wd_pow{w:Int}(h:wdM w):(0:Int)<2 ^ w.toNat∧(2:Int) ^ w.toNat≤18446744073709551616:=by rcases h with rfl|rfl|rfl|rfl|rfl<;>decide
theorem u64_mod{w:Int}(h:wdM w)(x:Int):0≤x % 2 ^ w.toNat∧x % 2 ^ w.toNat<2 ^ w.toNat:=by
 have:=(wd_pow h).1;exact⟨Int.emod_nonneg _ (by omega),Int.emod_lt_of_pos _ this⟩
theorem u64_of{w x:Int}(h:wdM w)(h0:0≤x)(h1:x<2 ^ w.toNat):u64 x:=⟨h0,Int.lt_of_lt_of_le h1 (wd_pow h).2⟩
theorem shsh{v:Int}{a:Nat}{p q:Int}(hp:(2:Int) ^ min ((a:Int).toNat) 64=p)(hq:∀ v:Int,v*p % 18446744073709551616 / p=v % q)(h0:0≤p):J9 .u64 (N3 .u64 v (a:Int)) (a:Int)=v % q:=by
 have e1:N3 .u64 v (a:Int)=v*p % 18446744073709551616:=by
  show IntKind.u64.wrap (v*2 ^ min ((a:Int).toNat) 64)=_
  rw[hp];exact wu64_mod _
 have e2:∀ x:Int,J9 .u64 x (a:Int)=x.fdiv p:=fun x=>by
  show x.fdiv (2 ^ min ((a:Int).toNat) 64)=_
  rw[hp]
 rw[e1,e2,Int.fdiv_eq_ediv_of_nonneg _ h0,hq]
theorem c_May{w:Int}(h:wdM w):Cx w=some true:=by rcases h with rfl|rfl|rfl|rfl|rfl<;>rfl
theorem c_Cut{v w:Int}(hw:wdM w)(h:u64 v):C8 v w=some (v % 2 ^ w.toNat):=by
 rcases hw with rfl|rfl|rfl|rfl|rfl
 ·rw[show C8 v 1=some (J9 .u64 (N3 .u64 v ((63:Nat):Int)) ((63:Nat):Int)) by kernel_rfl,shsh (p:=9223372036854775808) (q:=2) (by decide) (fun v=>by omega) (by decide)];rfl
 ·rw[show C8 v 8=some (J9 .u64 (N3 .u64 v ((56:Nat):Int)) ((56:Nat):Int)) by kernel_rfl,shsh (p:=72057594037927936) (q:=256) (by decide) (fun v=>by omega) (by decide)];rfl
 ·rw[show C8 v 16=some (J9 .u64 (N3 .u64 v ((48:Nat):Int)) ((48:Nat):Int)) by kernel_rfl,shsh (p:=281474976710656) (q:=65536) (by decide) (fun v=>by omega) (by decide)];rfl
 ·rw[show C8 v 32=some (J9 .u64 (N3 .u64 v ((32:Nat):Int)) ((32:Nat):Int)) by kernel_rfl,shsh (p:=4294967296) (q:=4294967296) (by decide) (fun v=>by omega) (by decide)];rfl
 ·rw[show C8 v 64=some (J9 .u64 (N3 .u64 v ((0:Nat):Int)) ((0:Nat):Int)) by kernel_rfl,shsh (p:=1) (q:=18446744073709551616) (by decide) (fun v=>by omega) (by decide)];rfl
theorem Aat{op:BinOp}{x y:Int}:u64 (Fp op .u64 x y):=by
 unfold Fp
 split<;>first|exact Ye _|exact⟨Int.le_refl _,by decide⟩
theorem shl_u64{x y:Int}:u64 (N3 .u64 x y):=Ye _
theorem shr_u64{x y:Int}(h:u64 x):u64 (J9 .u64 x y):=by
 unfold J9;have h2:(0:Int)<2 ^ min y.toNat IntKind.u64.bits:=Int.pow_pos (by decide);rw[Int.fdiv_eq_ediv_of_nonneg _ (Int.le_of_lt h2)];exact⟨Int.ediv_nonneg h.1 (Int.le_of_lt h2),Int.lt_of_le_of_lt (Int.ediv_le_self _ h.1) h.2⟩
theorem Yd(b:Bool):∃ z,Fj b=some z∧u64 z:=by cases b<;>exact⟨_,rfl,by unfold u64;decide⟩
theorem c_Signed{v w:Int}(hw:wdM w):∃ z,Jw v w=some z:=by
 rcases hw with rfl|rfl|rfl|rfl|rfl
 ·exact⟨J9 .i64 (Au (N3 .u64 v 63)) 63,by kernel_rfl⟩
 ·exact⟨J9 .i64 (Au (N3 .u64 v 56)) 56,by kernel_rfl⟩
 ·exact⟨J9 .i64 (Au (N3 .u64 v 48)) 48,by kernel_rfl⟩
 ·exact⟨J9 .i64 (Au (N3 .u64 v 32)) 32,by kernel_rfl⟩
 ·exact⟨J9 .i64 (Au (N3 .u64 v 0)) 0,by kernel_rfl⟩
theorem c_apply{k w x y:Int}(hk:1≤k∧k≤12)(hw:wdM w)(hx:u64 x)(hy:u64 y)(h4:k=4→y≠0):∃ z,Dy k w x y=some z∧u64 z:=by
 obtain⟨k1,k2⟩:=hk
 have hc:k=1∨k=2∨k=3∨k=4∨k=5∨k=6∨k=7∨k=8∨k=9∨k=10∨k=11∨k=12:=by omega
 rcases hc with rfl|rfl|rfl|rfl|rfl|rfl|rfl|rfl|rfl|rfl|rfl|rfl
 ·exact⟨Cc (x+y),by kernel_rfl,Ye _⟩
 ·exact⟨Cc (x-y),by kernel_rfl,Ye _⟩
 ·exact⟨Cc (x*y),by kernel_rfl,Ye _⟩
 ·refine⟨Cc (Int.tdiv x y),?_,Ye _⟩;rw[show Dy 4 w x y=(Ia x y).bind fun x2=>some x2 by kernel_rfl];unfold Ia;rw[Du (h4 rfl)];rfl
 ·exact⟨Fp .and .u64 x y,by kernel_rfl,Aat⟩
 ·exact⟨Fp .or .u64 x y,by kernel_rfl,Aat⟩
 ·exact⟨Fp .xor .u64 x y,by kernel_rfl,Aat⟩
 ·rw[show Dy 8 w x y=(Ib x y w).bind fun x2=>some x2.1 by kernel_rfl];unfold Ib;rw[Du hy.1]
  cases decide (Cc w≤y)
  ·exact⟨_,rfl,shl_u64⟩
  ·exact⟨_,rfl,show u64 0 from⟨Int.le_refl _,by decide⟩⟩
 ·rw[show Dy 9 w x y=(Ic x y w).bind fun x2=>some x2.1 by kernel_rfl];unfold Ic;rw[Du hy.1]
  cases decide (Cc w≤y)
  ·exact⟨_,rfl,shr_u64 hx⟩
  ·exact⟨_,rfl,show u64 0 from⟨Int.le_refl _,by decide⟩⟩
 ·rw[show Dy 10 w x y=((Fj ((x:Int)==y)).bind fun x1=>some x1).bind fun x2=>some x2 by kernel_rfl];obtain⟨z,h1,h2⟩:=Yd ((x:Int)==y);rw[h1];exact⟨z,rfl,h2⟩
 ·rw[show Dy 11 w x y=((Fj (decide (x<y))).bind fun x1=>some x1).bind fun x2=>some x2 by kernel_rfl];obtain⟨z,h1,h2⟩:=Yd (decide (x<y));rw[h1];exact⟨z,rfl,h2⟩
 ·rw[show Dy 12 w x y=(Gw x y w).bind fun x2=>some x2.1 by kernel_rfl];unfold Gw;obtain⟨p,hp⟩:=c_Signed (v:=x) hw;obtain⟨q,hq⟩:=c_Signed (v:=y) hw;rw[hp,hq];obtain⟨z,h1,h2⟩:=Yd (decide (p<q));simp only[Option.bind_some,h1];exact⟨z,rfl,h2⟩
theorem c_Two{k w:Int}(hk:1≤k∧k≤12)(hw:wdM w):Ot k w=some true:=by
 unfold Ot;rw[decide_eq_true hk.1,decide_eq_true hk.2,c_May hw]
 rfl
theorem c_Do{k w a b:Int}(hk:1≤k∧k≤12)(hw:wdM w)(ha:u64 a)(hb:u64 b) :
  ∃ v e,Mm k w a b=some (v,e)∧0≤v∧v<2 ^ w.toNat∧(e=0∧(k=4→b % 2 ^ w.toNat≠0)∨e=8∧v=0∧k=4∧b % 2 ^ w.toNat=0):=by
 unfold Mm;rw[c_Two hk hw,c_Cut hw ha,c_Cut hw hb];simp only[Option.bind_some,Bool.not_true,cond_false];have hp:=(wd_pow hw).1;obtain⟨x0,x1⟩:=u64_mod hw a;obtain⟨y0,y1⟩:=u64_mod hw b
 by_cases h4:k=4∧b % 2 ^ w.toNat=0
 ·rw[h4.1,h4.2];exact⟨0,8,rfl,Int.le_refl _,hp,.inr ⟨rfl,rfl,rfl,rfl⟩⟩
 ·have hg:(bif ((k:Int)==(4:Int)) then((b % 2 ^ w.toNat:Int)==(0:Int)) else false)=false:=by
   cases hk4:((k:Int)==(4:Int)) with
   | false=>rfl
   | true=>
    rw[cond_true,beq_eq_false_iff_ne];exact fun h=>h4 ⟨by simpa using hk4,h⟩
  rw[hg,cond_false];obtain⟨z,h1,h2⟩:=c_apply hk hw (u64_of hw x0 x1) (u64_of hw y0 y1) (fun h h'=>h4 ⟨h,h'⟩);rw[h1,Option.bind_some,c_Cut hw h2];obtain⟨z0,z1⟩:=u64_mod hw z;exact⟨_,0,rfl,z0,z1,.inl ⟨rfl,fun h h'=>h4 ⟨h,h'⟩⟩⟩
abbrev Vs:=List (List Int)
abbrev OR:=List Int×Int×Int×Int×List Ab×Vs×List Int
def I5(x:List Int×Int)(V:Vs)(F S:Int)(B:List Int)(T:List Ab):OR:=(x.1,x.2,F,S,T,V,B)
def memR(V:Vs)(B:List Int)(x:OR):Option OR:=An (V.length=x.2.2.2.2.2.1.length) (An (B.length=x.2.2.2.2.2.2.length) (some x))
def opM(o:Ci)(V:Vs)(F S:Int)(B:List Int)(T:List Ab):Option OR:=
 bif decide (o.Kind=0) then(J0 o).bind fun x=>some (I5 x V F S B T) else
 bif decide (o.Kind=13) then(E1 o V F S B T).bind fun x=>some (I5 x V F S B T) else
 bif decide (o.Kind=14) then(Dw o V F S B T).bind fun x=>some (I5 x V F S B T) else
 bif decide (o.Kind=15) then(Df o V F S B T).bind fun x=>some (I5 x V F S B T) else
 bif decide (o.Kind=16) then(Cd o V F S B T).bind (memR V B) else
 bif decide (o.Kind=17) then(B5 o V F S B T).bind (memR V B) else
 bif decide (o.Kind=18) then(C1 o V F S B T).bind (memR V B) else
 bif decide (o.Kind=19) then(Cf o V F S B T).bind (memR V B) else
 bif decide (o.Kind=20) then(Cg o 4 V F S B T).bind fun x=>some (I5 x V F S B T) else
 bif decide (o.Kind=21) then(Fv o V F S B T).bind fun x=>some (I5 x V F S B T) else
 bif decide (o.Kind=22) then(Gg o V F S B T).bind fun x=>some (I5 x V F S B T) else
 bif decide (o.Kind=1) then(Ah o 1 V F S B T).bind fun x=>some (I5 x V F S B T) else
 bif decide (o.Kind=2) then(Ah o 2 V F S B T).bind fun x=>some (I5 x V F S B T) else
 bif decide (o.Kind=3) then(Ah o 3 V F S B T).bind fun x=>some (I5 x V F S B T) else
 bif decide (o.Kind=4) then(Ah o 4 V F S B T).bind fun x=>some (I5 x V F S B T) else
 bif decide (o.Kind=5) then(Ah o 5 V F S B T).bind fun x=>some (I5 x V F S B T) else
 bif decide (o.Kind=6) then(Ah o 6 V F S B T).bind fun x=>some (I5 x V F S B T) else
 bif decide (o.Kind=7) then(Ah o 7 V F S B T).bind fun x=>some (I5 x V F S B T) else
 bif decide (o.Kind=8) then(Ah o 8 V F S B T).bind fun x=>some (I5 x V F S B T) else
 bif decide (o.Kind=9) then(Ah o 9 V F S B T).bind fun x=>some (I5 x V F S B T) else
 bif decide (o.Kind=10) then(Ah o 10 V F S B T).bind fun x=>some (I5 x V F S B T) else
 bif decide (o.Kind=11) then(Ah o 11 V F S B T).bind fun x=>some (I5 x V F S B T) else
 bif decide (o.Kind=12) then(Ah o 12 V F S B T).bind fun x=>some (I5 x V F S B T) else none
abbrev DR:=Int×Int×Int×List Ab×Vs×List Int
def doG:List Ci→Vs→Int→Int→List Int→List Ab→Option DR
 | [],V,F,S,B,T=>some (0,F,S,T,V,B)
 | o::l,V,F,S,B,T=>
  bif S==F then some (9,F,S,T,V,B) else
  (opM o V F (Au (S+1)) B T).bind fun x=>
   bif x.2.1 !=0 then some (x.2.1,x.2.2.1,x.2.2.2.1,x.2.2.2.2.1,x.2.2.2.2.2.1,x.2.2.2.2.2.2)
   else An (Aw o.Dst x.2.2.2.2.2.1.length) (doG l (x.2.2.2.2.2.1.set o.Dst.toNat x.1) x.2.2.1 x.2.2.2.1 x.2.2.2.2.2.2 x.2.2.2.2.1)
theorem chk_T{R:Type}[Decidable True]{k:Option R}:An True k=k:=if_pos trivial
theorem doL{ops:List Ci}{i:Nat}(hi:i<ops.length)(hn:ops.length<4611686018427387904)(F S:Int)(T:List Ab)(V:Vs)(B:List Int) :
  Cm ops ((i:Int),F,S,T,V,B)=bif S==F then some (.done (.inr (9,F,S,T,V,B))) else
   (opM (ops.getD i default) V F (Au (S+1)) B T).bind fun x=>
    bif x.2.1 !=0 then some (.done (.inr (x.2.1,x.2.2.1,x.2.2.2.1,x.2.2.2.2.1,x.2.2.2.2.2.1,x.2.2.2.2.2.2)))
    else An (Aw (ops.getD i default).Dst x.2.2.2.2.2.1.length) (some (.next (((i+1:Nat):Int),x.2.2.1,x.2.2.2.1,x.2.2.2.2.1,x.2.2.2.2.2.1.set (ops.getD i default).Dst.toNat x.1,x.2.2.2.2.2.2))):=by
 unfold Cm Cw
 cases hSF:((S:Int)==F) with
 | true=>simp only[hSF,R2 hi,cond_true,Option.bind_some,chk_T,Bool.not_false]
 | false=>
  simp only[hSF,R2 hi,cond_true,cond_false,Option.bind_some,Bool.not_true,Am (Hh hi),Dj,w1 (Nat.lt_of_lt_of_le hi (Nat.le_of_lt hn))]
  rfl
theorem doAll_go{ops:List Ci}(hn:ops.length<4611686018427387904):∀(k i:Nat) (V:Vs) (F S:Int) (B:List Int) (T:List Ab),i+k=ops.length→
  ((Ao (Cm ops) ((i:Int),F,S,T,V,B)).bind fun x=>match x with | .inl y=>some ((0:Int),y) | .inr r=>some r)=doG (ops.drop i) V F S B T
 | 0,i,V,F,S,B,T,h=>by
  obtain rfl:i=ops.length:=by omega
  rw[List.drop_length,Cv (x:=.inl (F,S,T,V,B)) (by unfold Cm;simp only[Yj,cond_false])]
  rfl
 | k+1,i,V,F,S,B,T,h=>by
  have hi:i<ops.length:=by omega
  have hd:ops.drop i=ops.getD i default::ops.drop (i+1):=by rw[List.drop_eq_getElem_cons hi,Fm _ _ _ hi]
  rw[hd,doG];have hs:=doL hi hn F S T V B
  cases hSF:((S:Int)==F) with
  | true=>
   rw[hSF,cond_true]at hs;rw[Cv hs,cond_true];rfl
  | false=>
   rw[hSF,cond_false]at hs;rw[cond_false]
   cases ho:opM (ops.getD i default) V F (Au (S+1)) B T with
   | none=>rw[ho]at hs;rw[Wk hs];rfl
   | some x=>
    rw[ho]at hs;simp only[Option.bind_some]at hs ⊢
    cases he:((x.2.1:Int)!=0) with
    | true=>rw[he,cond_true]at hs;rw[Cv hs,cond_true];rfl
    | false=>
     rw[he,cond_false]at hs;rw[cond_false]
     by_cases hc:Aw (ops.getD i default).Dst x.2.2.2.2.2.1.length
     ·rw[Am hc]at hs ⊢;rw[Ge hs,doAll_go hn k (i+1) _ _ _ _ _ (by omega)]
     ·rw[An,if_neg hc]at hs ⊢;rw[Wk hs];rfl
theorem doAll_eq{ops:List Ci}(hn:ops.length<4611686018427387904)(V:Vs)(F S:Int)(B:List Int)(T:List Ab):Da ops V F S B T=doG ops V F S B T:=by
 have:=doAll_go hn ops.length 0 V F S B T (by omega);rw[List.drop_zero]at this;rw[← this];unfold Da
 congr 1
 funext x
 rcases x with⟨a,b,c,d,e⟩|r<;>rfl
abbrev RR:=J4×Int×Int×List Ab×Vs×List Int
abbrev ST:=Int×Int×Int×List Ab×Vs×List Int
def blG(bs:List Ai)(at_:Int)(V:Vs)(F S:Int)(B:List Int)(T:List Ab):Option (LR ST RR):=
 An (Aw at_ bs.length) ((doG (bs.getD at_.toNat default).Ops V F S B T).bind fun x=>
  An (V.length=x.2.2.2.2.1.length) (An (B.length=x.2.2.2.2.2.length) (
  bif x.1 !=0 then some (.done (⟨x.1,0,x.2.2.1⟩,x.2.1,x.2.2.1,x.2.2.2.1,x.2.2.2.2.1,x.2.2.2.2.2))
  else bif x.2.2.1==x.2.1 then some (.done (⟨9,0,x.2.2.1⟩,x.2.1,x.2.2.1,x.2.2.2.1,x.2.2.2.2.1,x.2.2.2.2.2))
  else bif (bs.getD at_.toNat default).End.Kind==0 then
   (Az (bs.getD at_.toNat default).End.Arg x.2.2.2.2.1 x.2.1 (Au (x.2.2.1+1)) x.2.2.2.2.2 x.2.2.2.1).bind fun v=>
    some (.done (⟨0,v,Au (x.2.2.1+1)⟩,x.2.1,Au (x.2.2.1+1),x.2.2.2.1,x.2.2.2.2.1,x.2.2.2.2.2))
  else bif (bs.getD at_.toNat default).End.Kind==3 then some (.done (⟨8,0,Au (x.2.2.1+1)⟩,x.2.1,Au (x.2.2.1+1),x.2.2.2.1,x.2.2.2.2.1,x.2.2.2.2.2))
  else(Ex (bs.getD at_.toNat default).End x.2.2.2.2.1 x.2.1 (Au (x.2.2.1+1)) x.2.2.2.2.2 x.2.2.2.1).bind fun to=>
   An (Aw to bs.length) ((Eg (bs.getD to.toNat default).Phis at_ x.2.2.2.2.1 x.2.1 (Au (x.2.2.1+1)) x.2.2.2.2.2 x.2.2.2.1).bind fun y=>
    An (x.2.2.2.2.1.length=y.2.2.2.1.length) (An (x.2.2.2.2.2.length=y.2.2.2.2.length) (some (.next (to,y.1,y.2.1,y.2.2.1,y.2.2.2.1,y.2.2.2.2))))))))
theorem run_F{bs:List Ai}(hb:∀ b∈bs,b.Ops.length<4611686018427387904)(at_ F S:Int)(T:List Ab)(V:Vs)(B:List Int):Bl bs (at_,F,S,T,V,B)=blG bs at_ V F S B T:=by
 unfold Bl blG
 by_cases hi:Aw at_ bs.length
 ·have hm:(bs.getD at_.toNat default)∈bs:=Od (by have:=hi.1;have:=hi.2;omega);simp only[Am hi,doAll_eq (hb _ hm)]
  congr 1
  funext x
  congr 2
  cases(x.1 !=0)
  ·unfold Cw
   cases(x.2.2.1==x.2.1)
   ·simp only[cond_false,Option.bind_some,Bool.not_true]
    rfl
   ·simp only[cond_false,cond_true,Option.bind_some,Bool.not_false]
    rfl
  ·rfl
 ·simp only[An,if_neg hi]
theorem run_eq{bs:List Ai}(V:Vs)(F S:Int)(B:List Int)(T:List Ab):Ew bs V F S B T=Ao (Bl bs) (0,F,S,T,V,B):=by
 have e:Ew bs V F S B T=(In (Bl bs (0,F,S,T,V,B)) (Bl bs)).bind some:=rfl;rw[e,scopeO_self]
 cases Ao (Bl bs) (0,F,S,T,V,B)<;>rfl
def Xh(B:List Int):Prop:=∀ x∈B,0≤x∧x<256
def byV:Nat→Int→List Int
 | 0,_=>[]
 | s+1,v=>v % 256::byV s (v / 256)
def nmV:List Int→Int
 | []=>0
 | b::l=>b+256*nmV l
def tch(w:Bool):Nat→List Int→List Ab
 | _,[]=>[]
 | a,b::l=>⟨w,(a:Int),b⟩::tch w (a+1) l
def Wq:List Int→Nat→List Int→List Int
 | B,_,[]=>B
 | B,a,b::l=>Wq (B.set a b) (a+1) l
def Ut(B:List Int)(a s:Nat):List Int:=(B.drop a).take s
theorem byV_len(s:Nat)(v:Int):(byV s v).length=s:=by induction s generalizing v with|zero=>rfl|succ s ih=>simp[byV,ih]
theorem tch_len(w:Bool)(a:Nat)(l:List Int):(tch w a l).length=l.length:=by induction l generalizing a with|nil=>rfl|cons b l ih=>simp[tch,ih]
theorem Nc(B:List Int)(a:Nat)(l:List Int):(Wq B a l).length=B.length:=by induction l generalizing B a with|nil=>rfl|cons b l ih=>simp[Wq,ih]
theorem putB_ok{B:List Int}{a:Nat}{l:List Int}(hB:Xh B)(hl:Xh l):Xh (Wq B a l):=by
 induction l generalizing B a with
 | nil=>exact hB
 | cons b l ih=>
  refine ih (fun x hx=>?_) fun x hx=>hl x (List.mem_cons_of_mem _ hx);rcases List.mem_or_eq_of_mem_set hx with h|h
  ·exact hB x h
  ·rw[h];exact hl b (List.mem_cons_self ..)
theorem subB_len{B:List Int}{a s:Nat}(h:a+s≤B.length):(Ut B a s).length=s:=by simp[Ut];omega
theorem subB_zero(B:List Int)(a:Nat):Ut B a 0=[]:=by simp[Ut]
theorem subB_succ{B:List Int}{a s:Nat}(h:a<B.length):Ut B a (s+1)=B.getD a 0::Ut B (a+1) s:=by
 unfold Ut;rw[List.drop_eq_getElem_cons h,List.take_succ_cons,Fm _ _ _ h]
theorem Aac{B:List Int}(hB:Xh B)(i:Nat):0≤B.getD i 0∧B.getD i 0<256:=by
 by_cases h:i<B.length
 ·exact hB _ (Od h)
 ·simp[List.getD,h]
theorem pow256(n:Nat):(0:Int)<256 ^ n:=Int.pow_pos (by decide)
def thB(N:Nat)(a n:Int):Bool:=decide (1≤n)&&decide (a+n≤N)
theorem Aad{B:List Int}{T:List Ab}{a n:Int}(ha:0≤a)(hB:B.length<4611686018427387904):Fc a n B T=some (thB B.length a n,T,B):=by
 unfold Fc thB
 by_cases h1:n<1
 ·rw[show decide (n<(1:Int))=true from decide_eq_true (by omega),cond_true,cond_true];rw[show decide (1≤n)=false from decide_eq_false (by omega),Bool.false_and]
 ·rw[show decide (n<(1:Int))=false from decide_eq_false (by omega),cond_false,show decide (1≤n)=true from decide_eq_true (by omega),Bool.true_and]
  by_cases h2:(B.length:Int)<n
  ·rw[show decide ((B.length:Int)<n)=true from decide_eq_true (by omega),cond_true];rw[show decide (a+n≤(B.length:Int))=false from decide_eq_false (by omega)]
  ·rw[show decide ((B.length:Int)<n)=false from decide_eq_false (by omega),cond_false];rw[w64_of (by omega) (by omega),N4 (by omega) (by omega)];rw[show decide (a≤(B.length:Int)-n)=decide (a+n≤(B.length:Int)) from decide_eq_decide.2 (by omega)]
theorem or_put{v b:Int}{i:Nat}(h0:0≤v)(h1:v<256 ^ i)(hb:0≤b)(hb':b<256)(hi:i<8):Fp .or .u64 v (N3 .u64 (Cc b) (Au (8*(i:Int))))=v+256 ^ i*b:=by
 have e1:(256:Int) ^ i=((2 ^ (8*i):Nat):Int):=by rw[Nat.pow_mul];exact(Int.natCast_pow 256 i).symm
 obtain⟨V,rfl⟩:∃ V:Nat,v=V:=⟨v.toNat,by omega⟩;obtain⟨C,rfl⟩:∃ C:Nat,b=C:=⟨b.toNat,by omega⟩;rw[e1]at h1 ⊢;have h1:V<2 ^ (8*i):=Int.ofNat_lt.1 h1;have hC:C<256:=Int.ofNat_lt.1 hb'
 have hp:2 ^ (8*i)*256≤2 ^ 64:=by
  have:2 ^ (8*i)*2 ^ 8=2 ^ (8*i+8):=by rw[Nat.pow_add]
  have h2:(2:Nat) ^ (8*i+8)≤2 ^ 64:=Nat.pow_le_pow_right (by decide) (by omega);omega
 have hlt:V+C*2 ^ (8*i)<2 ^ 64:=by
  have:C*2 ^ (8*i)≤255*2 ^ (8*i):=Nat.mul_le_mul_right _ (by omega);omega
 rw[w64_of (by omega) (by omega),N4 (by omega) (by omega)]
 have e2:N3 .u64 (C:Int) (8*(i:Int))=((C*2 ^ (8*i):Nat):Int):=by
  unfold N3
  have:(8*(i:Int)).toNat=8*i:=by omega
  rw[this,show min (8*i) IntKind.u64.bits=8*i by simp[IntKind.bits];omega]
  have e3:(C:Int)*2 ^ (8*i)=((C*2 ^ (8*i):Nat):Int):=by rw[Int.natCast_mul,Int.natCast_pow];rfl
  rw[e3];exact uwrap_of .u64 rfl (by simp[IntKind.bits];omega)
 rw[or_add .u64 rfl (8*i) h1 (by simpa [IntKind.bits] using hlt) e2];rw[Int.natCast_add,Int.natCast_mul,Int.mul_comm]
theorem rd_loop{B:List Int}(hB:Xh B)(hL:B.length<4611686018427387904){s:Nat}(hs:s≤8):∀(k i cur:Nat) (v:Int) (t:List Ab),i+k=s→cur+k≤B.length→0≤v→v<256 ^ i→t.length+k≤room→
  Ao (Dc (s:Int) B) ((cur:Int),v,(i:Int),t)=some (v+256 ^ i*nmV (Ut B cur k),t++tch false cur (Ut B cur k))
 | 0,i,cur,v,t,hi,hc,h0,h1,hr=>by
  obtain rfl:i=s:=by omega
  refine Cv ?_;unfold Dc;simp only;rw[Yj,cond_false,subB_zero];simp[nmV,tch]
 | k+1,i,cur,v,t,hi,hc,h0,h1,hr=>by
  obtain⟨b0,b1⟩:=Aac hB cur
  have step:Dc (s:Int) B ((cur:Int),v,(i:Int),t)=some (.next (((cur+1:Nat):Int),v+256 ^ i*B.getD cur 0,((i+1:Nat):Int),t++[⟨false,(cur:Int),B.getD cur 0⟩])):=by
   unfold Dc;simp only;rw[R2 (by omega),cond_true,Du (inb (by omega)),Du (by simp;omega),Du (by rw[w64_of (by omega) (by omega)];omega),Dj,or_put h0 h1 b0 b1 (by omega),w1 (by omega),N4 (by omega) (by omega)]
   rfl
  rw[Ge step,rd_loop hB hL hs k (i+1) (cur+1) _ _ (by omega) (by omega) (by have:=Int.mul_nonneg (Int.le_of_lt (pow256 i)) b0;omega) (by
   rw[Int.pow_succ];have:256 ^ i*B.getD cur 0≤256 ^ i*255:=Int.mul_le_mul_of_nonneg_left (by omega) (Int.le_of_lt (pow256 i))
   omega) (by simp;omega),subB_succ (by omega)]
  simp only[nmV,tch,Int.pow_succ,List.append_assoc,List.singleton_append];rw[Int.mul_add,Int.add_assoc,Int.mul_assoc]
theorem m_readOne{B:List Int}{T:List Ab}(hB:Xh B)(hL:B.length<4611686018427387904){s cur:Nat}(hs:s≤8)(hc:cur+s≤B.length)(hr:T.length+s≤room) :
  Fh (cur:Int) (s:Int) B T=some (nmV (Ut B cur s),T++tch false cur (Ut B cur s),B):=by
 unfold Fh;have:=rd_loop hB hL hs s 0 cur 0 T (by omega) hc (by decide) (by decide) hr;rw[show((0:Nat):Int)=0 from rfl]at this;rw[this]
 simp
theorem shr8{v:Int}:J9 .u64 v (8:Int)=v / 256:=by
 unfold J9
 have:min (8:Int).toNat IntKind.u64.bits=8:=by decide
 rw[this,fdiv_pow]
 rfl
theorem wr_loop{s:Nat}(hs:s≤8):∀(k i cur:Nat) (v:Int) (t:List Ab) (B:List Int),i+k=s→cur+k≤B.length→B.length<4611686018427387904→t.length+k≤room→
  Ao (Cz (s:Int)) ((cur:Int),v,(i:Int),t,B)=some (t++tch true cur (byV k v),Wq B cur (byV k v))
 | 0,i,cur,v,t,B,hi,hc,hL,hr=>by
  obtain rfl:i=s:=by omega
  refine Cv ?_;unfold Cz;simp only;rw[Yj,cond_false];simp[byV,tch,Wq]
 | k+1,i,cur,v,t,B,hi,hc,hL,hr=>by
  have step:Cz (s:Int) ((cur:Int),v,(i:Int),t,B)=some (.next (((cur+1:Nat):Int),v / 256,((i+1:Nat):Int),t++[⟨true,(cur:Int),v % 256⟩],B.set cur (v % 256))):=by
   unfold Cz;simp only;rw[R2 (by omega),cond_true,Du (inb (by omega)),Du (by simp;omega),Dj,shr8,wu8_mod,w1 (by omega),N4 (by omega) (by omega)]
   rfl
  rw[Ge step,wr_loop hs k (i+1) (cur+1) _ _ _ (by omega) (by simp;omega) (by simpa using hL) (by simp;omega)];simp[byV,tch,Wq]
theorem m_writeOne{B:List Int}{T:List Ab}{v:Int}(hL:B.length<4611686018427387904){s cur:Nat}(hs:s≤8)(hc:cur+s≤B.length)(hr:T.length+s≤room) :
  Ey (cur:Int) (s:Int) v B T=some (T++tch true cur (byV s v),Wq B cur (byV s v)):=by
 unfold Ey;have:=wr_loop hs s 0 cur v T B (by omega) hc hL hr;rw[show((0:Nat):Int)=0 from rfl]at this;rw[this]
 rfl
def rdM(B:List Int)(s:Nat):Nat→Nat→List Int×Bool×List Ab
 | 0,_=>([],true,[])
 | n+1,cur=>if cur+s≤B.length then(nmV (Ut B cur s)::(rdM B s n (cur+s)).1,(rdM B s n (cur+s)).2.1,tch false cur (Ut B cur s)++(rdM B s n (cur+s)).2.2) else([],false,[])
def Zs(s:Nat):List Int→Nat→List Int→Bool×List Ab×List Int
 | [],_,B=>(true,[],B)
 | v::l,cur,B=>if cur+s≤B.length then((Zs s l (cur+s) (Wq B cur (byV s v))).1,tch true cur (byV s v)++(Zs s l (cur+s) (Wq B cur (byV s v))).2.1,(Zs s l (cur+s) (Wq B cur (byV s v))).2.2) else(false,[],B)
theorem wrM_len{s:Nat}(l:List Int)(cur:Nat)(B:List Int):(Zs s l cur B).2.1.length≤l.length*s∧(Zs s l cur B).2.2.length=B.length:=by
 induction l generalizing cur B with
 | nil=>simp[Zs]
 | cons v l ih=>
  unfold Zs
  split
  ·have:=ih (cur+s) (Wq B cur (byV s v));rw[Nc]at this;simp[tch_len,byV_len,Nat.succ_mul];omega
  ·simp
def wdB(bits:Int):Bool:=bits==8 || bits==16 || bits==32 || bits==64
def Aa7(bits n:Int):Bool:=wdB bits&&decide (0≤n)&&decide (n≤16)
theorem wdB_cases{bits:Int}(h:wdB bits=true):bits=8∨bits=16∨bits=32∨bits=64:=by
 simp only[wdB,Bool.or_eq_true,beq_iff_eq]at h;omega
theorem m_bytesOf(bits:Int):G2 bits=some (bif wdB bits then bits / 8 else 0):=by
 by_cases h:wdB bits=true
 ·rw[h,cond_true];rcases wdB_cases h with rfl|rfl|rfl|rfl<;>decide
 ·have h':wdB bits=false:=by simpa using h
  rw[h',cond_false];simp only[wdB,Bool.or_eq_false_iff]at h';obtain⟨⟨⟨h1,h2⟩,h3⟩,h4⟩:=h';unfold G2;rw[h1,cond_false,h2,cond_false,h3,cond_false,h4]
  rfl
theorem wd_s{bits:Int}(h:wdB bits=true):∃ s:Nat,bits / 8=(s:Int)∧1≤s∧s≤8∧bits=8*(s:Int)∧Au (Int.tdiv bits 8)=(s:Int):=by
 rcases wdB_cases h with rfl|rfl|rfl|rfl
 ·exact⟨1,by decide,by decide,by decide,by decide,by decide⟩
 ·exact⟨2,by decide,by decide,by decide,by decide,by decide⟩
 ·exact⟨4,by decide,by decide,by decide,by decide,by decide⟩
 ·exact⟨8,by decide,by decide,by decide,by decide,by decide⟩
theorem Aaf{N s cur:Nat}(hs:1≤s):thB N (cur:Int) (s:Int)=decide (cur+s≤N):=by
 unfold thB;rw[show decide (1≤(s:Int))=true from decide_eq_true (by omega),Bool.true_and];exact decide_eq_decide.2 (by omega)
theorem rd_all{B:List Int}(hB:Xh B)(hL:B.length<4611686018427387904){s:Nat}(hs:s≤8)(hs1:1≤s){N:Nat}(hN:N≤16):∀(k i cur:Nat) (done:List Int) (t:List Ab),i+k=N→done.length=i→t.length+k*8≤room→
  Ao (Di (N:Int) (s:Int)) ((cur:Int),(i:Int),done++List.replicate k 0,t,B) =
   some (if(rdM B s k cur).2.1=true then .inl (done++(rdM B s k cur).1,t++(rdM B s k cur).2.2,B) else .inr (t++(rdM B s k cur).2.2,B))
 | 0,i,cur,done,t,hi,hd,hr=>by
  obtain rfl:i=N:=by omega
  refine Cv ?_;unfold Di;simp only;rw[List.length_replicate,Dj,Yj,cond_false];simp[rdM]
 | k+1,i,cur,done,t,hi,hd,hr=>by
  by_cases hc:cur+s≤B.length
  ·have step:Di (N:Int) (s:Int) ((cur:Int),(i:Int),done++List.replicate (k+1) 0,t,B)=some (.next (((cur+s:Nat):Int),((i+1:Nat):Int),(done++[nmV (Ut B cur s)])++List.replicate k 0,t++tch false cur (Ut B cur s),B)):=by
    unfold Di;simp only;rw[List.length_replicate,Dj,R2 (by omega),cond_true,Aad (by omega) hL,Option.bind_some,Du rfl,Aaf hs1];simp only;rw[show decide (cur+s≤B.length)=true from decide_eq_true (by omega),Bool.not_true,cond_false,m_readOne hB hL hs hc (by omega),Option.bind_some,Du rfl,Du (inb (by simp;omega)),w1 (by omega),N4 (n:=(s:Int)) (by omega) (by omega),N4 (by omega) (by omega),Dj]
    have e:(done++List.replicate (k+1) (0:Int)).set i (nmV (Ut B cur s))=(done++[nmV (Ut B cur s)])++List.replicate k 0:=by
     rw[List.replicate_succ,List.set_append_right _ _ (by omega),hd,Nat.sub_self,List.set_cons_zero,List.append_assoc];rfl
    rw[e]
    simp
   rw[Ge step,rd_all hB hL hs hs1 hN k (i+1) (cur+s) _ _ (by omega) (by simp[hd]) (by simp[tch_len,subB_len hc];omega)];rw[rdM,if_pos hc];simp only[List.append_assoc,List.singleton_append]
  ·rw[rdM,if_neg hc];refine Cv ?_;unfold Di;simp only;rw[List.length_replicate,Dj,R2 (by omega),cond_true,Aad (by omega) hL,Option.bind_some,Du rfl,Aaf hs1];simp only;rw[show decide (cur+s≤B.length)=false from decide_eq_false (by omega),Bool.not_false,cond_true]
   simp
def RD(a bits n:Int)(B:List Int)(T:List Ab):List Int×Int×List Ab×List Int:=
 if Aa7 bits n=true then(if(rdM B (bits / 8).toNat n.toNat a.toNat).2.1=true then((rdM B (bits / 8).toNat n.toNat a.toNat).1,0,T++(rdM B (bits / 8).toNat n.toNat a.toNat).2.2,B) else([],8,T++(rdM B (bits / 8).toNat n.toNat a.toNat).2.2,B)) else([],1,T,B)
theorem may_bad{bits n:Int}:(bif bif (bif wdB bits then bits / 8 else 0)==0 then true else decide (n<0) then true else decide (16<n)) = !Aa7 bits n:=by
 unfold Aa7
 cases h:wdB bits with
 | false=>rfl
 | true=>
  obtain⟨s,h1,h2,h3,_⟩:=wd_s h;rw[cond_true,h1,show((s:Int)==0)=false by simp;omega,cond_false,Bool.true_and]
  by_cases h4:n<0
  ·rw[decide_eq_true h4,cond_true,decide_eq_false (show ¬ (0≤n) by omega)];rfl
  ·rw[decide_eq_false h4,cond_false,decide_eq_true (show 0≤n by omega),Bool.true_and]
   by_cases h5:16<n
   ·rw[decide_eq_true h5,decide_eq_false (show ¬ n≤16 by omega)];rfl
   ·rw[decide_eq_false h5,decide_eq_true (show n≤16 by omega)];rfl
theorem m_Read{a bits n:Int}{B:List Int}{T:List Ab}(ha:0≤a)(hB:Xh B)(hL:B.length<4611686018427387904)(hr:T.length+128≤room):H8 a bits n B T=some (RD a bits n B T):=by
 unfold H8 RD;rw[m_bytesOf,Option.bind_some,may_bad]
 cases hm:Aa7 bits n with
 | false=>simp[In]
 | true=>
  simp only[Aa7,Bool.and_eq_true,decide_eq_true_iff]at hm;obtain⟨⟨hw,h0⟩,h1⟩:=hm;obtain⟨s,h2,h3,h4,h5,h6⟩:=wd_s hw;obtain⟨N,rfl⟩:∃ N:Nat,n=N:=⟨n.toNat,by omega⟩;obtain⟨A,rfl⟩:∃ A:Nat,a=A:=⟨a.toNat,by omega⟩;rw[Bool.not_true,cond_false,hw,cond_true,h2,Du ⟨h0,Int.le_refl _,by have:room=1099511627776:=rfl;omega⟩,Dj,Dj,Dj];have:=rd_all hB hL h4 h3 (N:=N) (by omega) N 0 A [] T (by omega) rfl (by omega);rw[List.nil_append,show((0:Nat):Int)=0 from rfl]at this;rw[this]
  by_cases hk:(rdM B s N A).2.1=true
  ·rw[if_pos hk,if_pos hk];rfl
  ·rw[if_neg hk,if_neg hk,Option.bind_some]
   show(In (some (.next _)) _).bind _=_
   unfold In;rw[Option.bind_some];simp only;rw[Cv (x:=(([]:List Int),(8:Int),T++(rdM B s N A).2.2,B)) rfl]
   rfl
theorem wr_all{s:Nat}(hs:s≤8)(hs1:1≤s){L:List Int}(hN:L.length≤16):∀(k i cur:Nat) (t:List Ab) (B:List Int),i+k=L.length→B.length<4611686018427387904→t.length+k*8≤room→
  Ao (C6 L (s:Int)) ((cur:Int),(i:Int),t,B) =
   some (if(Zs s (L.drop i) cur B).1=true then .inl (t++(Zs s (L.drop i) cur B).2.1,(Zs s (L.drop i) cur B).2.2) else .inr (t++(Zs s (L.drop i) cur B).2.1,(Zs s (L.drop i) cur B).2.2))
 | 0,i,cur,t,B,hi,hL,hr=>by
  obtain rfl:i=L.length:=by omega
  refine Cv ?_;unfold C6;simp only;rw[Yj,cond_false,List.drop_length];simp[Zs]
 | k+1,i,cur,t,B,hi,hL,hr=>by
  have hd:L.drop i=L.getD i 0::L.drop (i+1):=by rw[List.drop_eq_getElem_cons (by omega),Fm _ _ _ (by omega)]
  by_cases hc:cur+s≤B.length
  ·have step:C6 L (s:Int) ((cur:Int),(i:Int),t,B)=some (.next (((cur+s:Nat):Int),((i+1:Nat):Int),t++tch true cur (byV s (L.getD i 0)),Wq B cur (byV s (L.getD i 0)))):=by
    unfold C6;simp only;rw[R2 (by omega),cond_true,Du (inb (by omega)),Aad (by omega) hL,Option.bind_some,Du rfl,Aaf hs1];simp only;rw[show decide (cur+s≤B.length)=true from decide_eq_true (by omega),Bool.not_true,cond_false,Dj,m_writeOne hL hs hc (by omega),Option.bind_some,Du (by rw[Nc]),w1 (by omega),N4 (n:=(s:Int)) (by omega) (by omega),N4 (by omega) (by omega)]
    simp
   rw[Ge step,wr_all hs hs1 hN k (i+1) (cur+s) _ _ (by omega) (by rw[Nc];exact hL) (by simp[tch_len,byV_len];omega)];rw[hd,Zs,if_pos hc];simp only[List.append_assoc]
  ·rw[hd,Zs,if_neg hc];refine Cv ?_;unfold C6;simp only;rw[R2 (by omega),cond_true,Du (inb (by omega)),Aad (by omega) hL,Option.bind_some,Du rfl,Aaf hs1];simp only;rw[show decide (cur+s≤B.length)=false from decide_eq_false (by omega),Bool.not_false,cond_true]
   simp
def WR(a bits:Int)(L:List Int)(B:List Int)(T:List Ab):Int×List Ab×List Int:=
 if Aa7 bits L.length=true then(if(Zs (bits / 8).toNat L a.toNat B).1=true then 0 else 8,T++(Zs (bits / 8).toNat L a.toNat B).2.1,(Zs (bits / 8).toNat L a.toNat B).2.2) else(1,T,B)
theorem may_badW{bits:Int}{n:Nat}:(bif (bif wdB bits then bits / 8 else 0)==0 then true else decide (16<(n:Int))) = !Aa7 bits n:=by
 rw[← may_bad,show decide ((n:Int)<0)=false from decide_eq_false (by omega)]
 cases(bif wdB bits then bits / 8 else 0)==0<;>rfl
theorem m_Write{a bits:Int}{L B:List Int}{T:List Ab}(ha:0≤a)(hL:B.length<4611686018427387904)(hr:T.length+128≤room):Gv a bits L B T=some (WR a bits L B T):=by
 unfold Gv WR;rw[m_bytesOf,Option.bind_some,may_badW]
 cases hm:Aa7 bits L.length with
 | false=>simp[In]
 | true=>
  simp only[Aa7,Bool.and_eq_true,decide_eq_true_iff]at hm;obtain⟨⟨hw,h0⟩,h1⟩:=hm;obtain⟨s,h2,h3,h4,h5,h6⟩:=wd_s hw;obtain⟨A,rfl⟩:∃ A:Nat,a=A:=⟨a.toNat,by omega⟩;rw[Bool.not_true,cond_false,hw,cond_true,h2,Dj,Dj];have:=wr_all h4 h3 (L:=L) (by omega) L.length 0 A T B (by omega) hL (by omega);rw[List.drop_zero,show((0:Nat):Int)=0 from rfl]at this;rw[this]
  by_cases hk:(Zs s L A B).1=true
  ·rw[if_pos hk,if_pos rfl,if_pos hk];rfl
  ·rw[if_neg hk,if_pos rfl,if_neg hk,Option.bind_some]
   show(In (some (.next _)) _).bind _=_
   unfold In;rw[Option.bind_some];simp only;rw[Cv (x:=((8:Int),T++(Zs s L A B).2.1,(Zs s L A B).2.2)) rfl]
   rfl
structure Slot(V:Vs)(v:Int)(l:List Int):Prop where
 lo:0≤v
 hi:v<V.length
 is:V.getD v.toNat []=l
theorem Slot.inb{V:Vs}{v:Int}{l:List Int}(h:Slot V v l):Aw v V.length:=⟨h.lo,h.hi⟩
theorem Aav{V:Vs}{v:Int}{a:Int}{l:List Int}(h:Slot V v (a::l))(F S:Int)(B:List Int)(T:List Ab):Az v V F S B T=some a:=by
 unfold Az;rw[Am h.inb,h.is,Am (show Aw (0:Int) (a::l).length from⟨Int.le_refl _,by simp⟩)]
 rfl
theorem c_isSo{V:Vs}{v:Int}{a:Int}{l:List Int}(h:Slot V v (a::l))(F S:Int)(B:List Int)(T:List Ab):B1 v V F S B T=some (a==1):=by
 unfold B1;rw[Aav h];rfl
def Arg(o:Ci)(i:Nat)(v:Int):Prop:=i<o.Args.length∧o.Args.getD i 0=v
theorem Arg.inb{o:Ci}{i:Nat}{v:Int}(h:Arg o i v):Aw (i:Int) o.Args.length:=Hh h.1
theorem Arg.g{o:Ci}{i:Nat}{v:Int}(h:Arg o i v):o.Args.getD ((i:Nat):Int).toNat 0=v:=by rw[Dj];exact h.2
section
variable {o:Ci} {V:Vs} {F S:Int} {B:List Int} {T:List Ab}
theorem dk{a b:Int}(h:o.Kind=a)(hne:a≠b):decide (o.Kind=b)=false:=decide_eq_false (by rw[h];exact hne)
theorem dk_t{a:Int}(h:o.Kind=a):decide (o.Kind=a)=true:=decide_eq_true h
structure Ww(B:List Int)(T:List Ab):Prop where
 by_:Xh B
 len:B.length<4611686018427387904
 room:T.length+128≤room
theorem RD_len{a bits n:Int}{B:List Int}{T:List Ab}:(RD a bits n B T).2.2.2=B:=by
 unfold RD;split
 ·split<;>rfl
 ·rfl
theorem WR_len{a bits:Int}{L B:List Int}{T:List Ab}:(WR a bits L B T).2.2.length=B.length:=by
 unfold WR;split
 ·exact(wrM_len L a.toNat B).2
 ·rfl
theorem c_load{c a:Int}{l:List Int}(h0:Arg o 0 c)(s0:Slot V c (a::l))(ha:0≤a)(hm:Ww B T) :
  Cd o V F S B T=some ((RD a o.Bits o.Lanes B T).1,(RD a o.Bits o.Lanes B T).2.1,F,S,(RD a o.Bits o.Lanes B T).2.2.1,V,B):=by
 unfold Cd;have e0:=h0.g;have i0:=h0.inb;simp only[Int.cast_ofNat_Int]at e0 i0;rw[Am i0,e0,Aav s0,Option.bind_some,m_Read ha hm.by_ hm.len hm.room,Option.bind_some,RD_len,Am rfl]
theorem c_store{c p a:Int}{l L:List Int}(h0:Arg o 0 c)(h1:Arg o 1 p)(s0:Slot V c (a::l))(s1:Slot V p L)(ha:0≤a)(hm:Ww B T) :
  B5 o V F S B T=some ([],(WR a o.Bits L B T).1,F,S,(WR a o.Bits L B T).2.1,V,(WR a o.Bits L B T).2.2):=by
 unfold B5;have e0:=h0.g;have i0:=h0.inb;have e1:=h1.g;have i1:=h1.inb;simp only[Int.cast_ofNat_Int]at e0 i0 e1 i1;rw[Am i0,e0,Aav s0,Option.bind_some,Am i1,e1,Am s1.inb,s1.is,m_Write ha hm.len hm.room,Option.bind_some,Am WR_len.symm]
theorem U8{l:List Int}{e F' S':Int}{T':List Ab}{V':Vs}{B':List Int}(h1:V.length=V'.length)(h2:B.length=B'.length):memR V B (l,e,F',S',T',V',B')=some (l,e,F',S',T',V',B'):=by unfold memR;rw[Am h1,Am h2]
theorem op_load{c a:Int}{l:List Int}(hk:o.Kind=16)(h0:Arg o 0 c)(s0:Slot V c (a::l))(ha:0≤a)(hm:Ww B T) :
  opM o V F S B T=some ((RD a o.Bits o.Lanes B T).1,(RD a o.Bits o.Lanes B T).2.1,F,S,(RD a o.Bits o.Lanes B T).2.2.1,V,B):=by
 unfold opM;rw[dk hk (by decide),dk hk (by decide),dk hk (by decide),dk hk (by decide),dk_t hk,cond_true];simp only[cond_false];rw[c_load h0 s0 ha hm,Option.bind_some,U8 rfl rfl]
theorem op_store{c p a:Int}{l L:List Int}(hk:o.Kind=17)(h0:Arg o 0 c)(h1:Arg o 1 p)(s0:Slot V c (a::l))(s1:Slot V p L)(ha:0≤a)(hm:Ww B T) :
  opM o V F S B T=some ([],(WR a o.Bits L B T).1,F,S,(WR a o.Bits L B T).2.1,V,(WR a o.Bits L B T).2.2):=by
 unfold opM;rw[dk hk (by decide),dk hk (by decide),dk hk (by decide),dk hk (by decide),dk hk (by decide),dk_t hk,cond_true];simp only[cond_false];rw[c_store h0 h1 s0 s1 ha hm,Option.bind_some,U8 rfl WR_len.symm]
def doD(k w a b:Int):Int×Int:=(Mm k w a b).getD (0,1)
def twoR(k w:Int)(A C:List Int):List Int×Int:=
 bif (List.range A.length).all (fun i=>(doD k w (A.getD i 0) (C.getD i 0)).2==0) then((List.range A.length).map (fun i=>(doD k w (A.getD i 0) (C.getD i 0)).1),0) else([],8)
theorem set_fill{f:Nat→Int}{n i:Nat}(h:i<n):((List.range i).map f++List.replicate (n-i) (0:Int)).set i (f i)=(List.range (i+1)).map f++List.replicate (n-(i+1)) 0:=by
 obtain⟨m,hm⟩:∃ m,n-i=m+1:=⟨n-i-1,by omega⟩
 have hm':n-(i+1)=m:=by omega
 rw[hm,hm',List.replicate_succ,List.set_append_right _ _ (by simp),List.range_succ,List.map_append,List.append_assoc]
 simp
theorem c_two {p q : Int} {A C : List Int} {k : Int} (hk : 1 ≤ k ∧ k ≤ 12) (hw : wdM o.Bits) (h0 : Arg o 0 p) (h1 : Arg o 1 q) (s0 : Slot V p A) (s1 : Slot V q C) (hl : C.length = A.length) (hr : A.length ≤ 64)
    (hA : ∀ x ∈ A, u64 x) (hC : ∀ x ∈ C, u64 x) : Ah o k V F S B T = some (twoR k o.Bits A C) := by
  have e0 := h0.g; have i0 := h0.inb; have e1 := h1.g; have i1 := h1.inb; simp only [Int.cast_ofNat_Int] at e0 i0 e1 i1; unfold Ah
  have hroom : ((A.length : Int)) ≤ (room : Int) := by have : (64 : Nat) ≤ room := by decide
                                                       omega
  rw [Am i0, e0, Am s0.inb, Am i1, e1, Am s1.inb, s0.is, Am ⟨by omega, by omega, hroom⟩]
  have hdo : ∀ i, i < A.length → ∃ v e, Mm k o.Bits (A.getD i 0) (C.getD i 0) = some (v, e) ∧ (e = 0 ∨ e = 8) := fun i hi => by
    obtain ⟨v, e, h1, _, _, h2⟩ := c_Do hk hw (hA _ (Od hi)) (hC _ (Od (i := i) (by omega))); exact ⟨v, e, h1, by rcases h2 with ⟨h, _⟩ | ⟨h, _⟩ <;> simp [h]⟩
  have hL := loop_find (B4 o k V) (fun i => ((i : Int), (List.range i).map (fun i => (doD k o.Bits (A.getD i 0) (C.getD i 0)).1) ++ List.replicate (A.length - i) (0 : Int)))
    (fun i => (doD k o.Bits (A.getD i 0) (C.getD i 0)).2 == 0) (.inl ((List.range A.length).map (fun i => (doD k o.Bits (A.getD i 0) (C.getD i 0)).1))) (.inr ([], 8)) A.length
    (fun i hi hp => by
      obtain ⟨v, e, hd, he⟩ := hdo i hi
      have hD : doD k o.Bits (A.getD i 0) (C.getD i 0) = (v, e) := by unfold doD; rw [hd]; rfl
      rw [hD] at hp
      have he0 : e = 0 := by simpa using hp
      subst he0; unfold B4; simp only [e0, e1, s0.is, s1.is, Dj, List.length_replicate, R2 hi, cond_true, Am (Hh hi), Am (Hh (show i < C.length by omega)), hd, Option.bind_some, w1 (show i < 4611686018427387904 by omega)]; rw [show ((0 : Int) != 0) = false from rfl, cond_false, Am (Hh (by simp; omega))]; have := set_fill (f := fun i => (doD k o.Bits (A.getD i 0) (C.getD i 0)).1) hi; simp only [hD] at this
      rw [this])
    (fun i hi hp => by
      obtain ⟨v, e, hd, he⟩ := hdo i hi
      have hD : doD k o.Bits (A.getD i 0) (C.getD i 0) = (v, e) := by unfold doD; rw [hd]; rfl
      rw [hD] at hp
      have he8 : e = 8 := by
        rcases he with rfl | rfl
        · simp at hp
        · rfl
      subst he8; unfold B4; simp only [e0, e1, s0.is, s1.is, Dj, List.length_replicate, R2 hi, cond_true, Am (Hh hi), Am (Hh (show i < C.length by omega)), hd, Option.bind_some]
      rw [show ((8 : Int) != 0) = true from rfl, cond_true])
    (by
      unfold B4
      simp only [e0, s0.is, Dj, List.length_replicate, Yj, cond_false, Nat.sub_self, List.replicate_zero, List.append_nil])
  simp only [List.range_zero, List.map_nil, List.nil_append, Nat.sub_zero] at hL; have hL' : Ao (B4 o k V) ((0 : Int), List.replicate A.length (0 : Int)) = _ := hL; rw [Dj, hL']; unfold twoR
  cases (List.range A.length).all (fun i => (doD k o.Bits (A.getD i 0) (C.getD i 0)).2 == 0) <;> rfl
theorem op_two{p q:Int}{A C:List Int}(hk:1≤o.Kind∧o.Kind≤12)(hw:wdM o.Bits)(h0:Arg o 0 p)(h1:Arg o 1 q)(s0:Slot V p A)(s1:Slot V q C)(hl:C.length=A.length)(hr:A.length≤64)
  (hA:∀ x∈A,u64 x) (hC:∀ x∈C,u64 x):opM o V F S B T=some (I5 (twoR o.Kind o.Bits A C) V F S B T):=by
 obtain⟨k1,k2⟩:=hk
 have hc:o.Kind=1∨o.Kind=2∨o.Kind=3∨o.Kind=4∨o.Kind=5∨o.Kind=6∨o.Kind=7∨o.Kind=8∨o.Kind=9∨o.Kind=10∨o.Kind=11∨o.Kind=12:=by omega
 have key:=fun k (hk:1≤k∧k≤12)=>c_two (F:=F) (S:=S) (B:=B) (T:=T) hk hw h0 h1 s0 s1 hl hr hA hC;unfold opM;rcases hc with h|h|h|h|h|h|h|h|h|h|h|h<;>rw[h] <;>
  simp only[Int.reduceEq,decide_false,decide_true,cond_false,cond_true]<;>rw[key _ (by decide)]<;>rfl
end
theorem room_is:room=1099511627776:=rfl
theorem m_New_ok{b:List Int}(h:b.length≤4096):K8 b=some ((true,⟨b,[]⟩),0):=by
 unfold K8 Bx;rw[decide_eq_false (by omega),cond_false,Du (by rw[room_is];omega)]
 rfl
theorem m_Bytes{B:List Int}{T:List Ab}(h:B.length≤room):Eb B T=some (B,T,B):=by
 unfold Eb Bx;rw[Du h];rfl
theorem m_Trace{B:List Int}{T:List Ab}(h:T.length≤room):Ec B T=some (T,T,B):=by
 unfold Ec B8;rw[Du (by simpa using h)];rfl
section
variable {o:Ci} {V:Vs} {F S:Int} {B:List Int} {T:List Ab}
def Y0(o:Ci):Ci:=⟨o.Kind,o.Bits,o.Lanes,o.Dst,o.Args.drop 1,o.Imm⟩
theorem Arg.tail{i:Nat}{v:Int}(h:Arg o (i+1) v):Arg (Y0 o) i v:=by
 obtain⟨h1,h2⟩:=h;refine⟨by simp[Y0];omega,?_⟩;rw[← h2];simp[Y0,List.getD]
theorem last_ix{n:Nat}(h:0<n)(hn:n<4611686018427387904):Au ((n:Int)-1)=((n-1:Nat):Int):=by rw[w64_of (by omega) (by omega)];omega
theorem op_pload{g d c a q:Int}{l l' x:List Int}(hk:o.Kind=18)(hn:o.Args.length=3)(h0:Arg o 0 g)(h1:Arg o 1 c)(h2:Arg o 2 d)(s0:Slot V g (q::l'))(s1:Slot V c (a::l))(s2:Slot V d x)(ha:0≤a)(hm:Ww B T) :
  opM o V F S B T=some (bif q==1 then((RD a o.Bits o.Lanes B T).1,(RD a o.Bits o.Lanes B T).2.1,F,S,(RD a o.Bits o.Lanes B T).2.2.1,V,B) else(x,0,F,S,T,V,B)):=by
 unfold opM;rw[dk hk (by decide),dk hk (by decide),dk hk (by decide),dk hk (by decide),dk hk (by decide),dk hk (by decide),dk_t hk,cond_true];simp only[cond_false];unfold C1;have e0:=h0.g;have i0:=h0.inb;have e2:=h2.g;have i2:=h2.inb;simp only[Int.cast_ofNat_Int]at e0 i0;rw[Am i0,e0,c_isSo s0,Option.bind_some]
 cases(q==1)
 ·rw[Bool.not_false,cond_true,last_ix (by omega) (by omega),hn,show((3-1:Nat):Int)=((2:Nat):Int) from rfl,e2,← hn,Am i2,Am s2.inb,s2.is,Option.bind_some,U8 rfl rfl];rfl
 ·rw[Bool.not_true,cond_false,Am (by omega)]
  show((Cd (Y0 o) V F S B T).bind fun x6=>An (V.length=x6.2.2.2.2.2.1.length) (An (B.length=x6.2.2.2.2.2.2.length) (some x6))).bind (memR V B)=_
  rw[c_load h1.tail s1 ha hm,Option.bind_some,Am rfl,Am rfl,Option.bind_some,U8 rfl rfl];rfl
theorem op_pstore{g c p a q:Int}{l l' L:List Int}(hk:o.Kind=19)(hn:o.Args.length=3)(h0:Arg o 0 g)(h1:Arg o 1 c)(h2:Arg o 2 p)(s0:Slot V g (q::l'))(s1:Slot V c (a::l))(s2:Slot V p L)(ha:0≤a)(hm:Ww B T) :
  opM o V F S B T=some (bif q==1 then([],(WR a o.Bits L B T).1,F,S,(WR a o.Bits L B T).2.1,V,(WR a o.Bits L B T).2.2) else(L,0,F,S,T,V,B)):=by
 unfold opM;rw[dk hk (by decide),dk hk (by decide),dk hk (by decide),dk hk (by decide),dk hk (by decide),dk hk (by decide),dk hk (by decide),dk_t hk,cond_true];simp only[cond_false];unfold Cf;have e0:=h0.g;have i0:=h0.inb;have e2:=h2.g;have i2:=h2.inb;simp only[Int.cast_ofNat_Int]at e0 i0;rw[Am i0,e0,c_isSo s0,Option.bind_some]
 cases(q==1)
 ·rw[Bool.not_false,cond_true,last_ix (by omega) (by omega),hn,show((3-1:Nat):Int)=((2:Nat):Int) from rfl,e2,← hn,Am i2,Am s2.inb,s2.is,Option.bind_some,U8 rfl rfl];rfl
 ·rw[Bool.not_true,cond_false,Am (by omega)]
  show((B5 (Y0 o) V F S B T).bind fun x6=>An (V.length=x6.2.2.2.2.2.1.length) (An (B.length=x6.2.2.2.2.2.2.length) (some x6))).bind (memR V B)=_
  rw[c_store h1.tail h2.tail s1 s2 ha hm,Option.bind_some,Am rfl,Am (show B.length=(WR a (Y0 o).Bits L B T).2.2.length from WR_len.symm),Option.bind_some,U8 rfl WR_len.symm];rfl
theorem op_pdiv{g p r d q:Int}{l' A C x:List Int}(hk:o.Kind=20)(hn:o.Args.length=4)(hw:wdM o.Bits)(h0:Arg o 0 g)(h1:Arg o 1 p)(h2:Arg o 2 r)(h3:Arg o 3 d)(s0:Slot V g (q::l'))(s1:Slot V p A)(s2:Slot V r C)(s3:Slot V d x)
  (hl:C.length=A.length) (hr:A.length≤64) (hA:∀ x∈A,u64 x) (hC:∀ x∈C,u64 x) :
  opM o V F S B T=some (I5 (bif q==1 then twoR 4 o.Bits A C else(x,0)) V F S B T):=by
 unfold opM;rw[dk hk (by decide),dk hk (by decide),dk hk (by decide),dk hk (by decide),dk hk (by decide),dk hk (by decide),dk hk (by decide),dk hk (by decide),dk_t hk,cond_true];simp only[cond_false];unfold Cg;have e0:=h0.g;have i0:=h0.inb;have e3:=h3.g;have i3:=h3.inb;simp only[Int.cast_ofNat_Int]at e0 i0;rw[Am i0,e0,c_isSo s0,Option.bind_some]
 cases(q==1)
 ·rw[Bool.not_false,cond_true,last_ix (by omega) (by omega),hn,show((4-1:Nat):Int)=((3:Nat):Int) from rfl,e3,← hn,Am i3,Am s3.inb,s3.is];rfl
 ·rw[Bool.not_true,cond_false,Am (by omega)]
  show((Ah (Y0 o) 4 V F S B T).bind fun x6=>some (x6.1,x6.2)).bind (fun x=>some (I5 x V F S B T))=_
  rw[c_two (o:=Y0 o) (k:=4) (by decide) hw h1.tail h2.tail s1 s2 hl hr hA hC];rfl
end
theorem c_deeds(V:Vs)(F S:Int)(B:List Int)(T:List Ab):D7 V F S B T=some ():=by kernel_rfl
def W1(ps ags:List Int)(i:Nat):List Int:=[ags.getD i 0 % 2 ^ (ps.getD i 0).toNat]
def Ob(f:Ae)(ags:List Int)(n:Nat):Vs:=
 ((f.Blocks.getD 0 default).Phis).foldl (fun V p=>V.set p.Dst.toNat [0]) ([]::((List.range f.Params.length).map (W1 f.Params ags)++List.replicate (n-f.Params.length) []))
theorem set_arg{g:Nat→List Int}{n i:Nat}(h:i<n):(([]:List Int)::((List.range i).map g++List.replicate (n-i) [])).set (i+1) (g i)=[]::((List.range (i+1)).map g++List.replicate (n-(i+1)) []):=by
 obtain⟨m,hm⟩:∃ m,n-i=m+1:=⟨n-i-1,by omega⟩
 have hm':n-(i+1)=m:=by omega
 rw[hm,hm',List.replicate_succ,List.set_cons_succ,List.set_append_right _ _ (by simp),List.range_succ,List.map_append,List.append_assoc]
 simp
theorem foldl_set_len{l:List Hj}{V:Vs}:(l.foldl (fun V p=>V.set p.Dst.toNat [0]) V).length=V.length:=by
 induction l generalizing V with
 | nil=>rfl
 | cons p l ih=>rw[List.foldl_cons,ih,List.length_set]
theorem Aas{f:Ae}(hn:((f.Blocks.getD 0 default).Phis).length<4611686018427387904):∀(k i:Nat) (V:Vs),i+k=((f.Blocks.getD 0 default).Phis).length→(∀ p∈(f.Blocks.getD 0 default).Phis,Aw p.Dst V.length)→
  Ao (Cl f) ((i:Int),V)=some ((((f.Blocks.getD 0 default).Phis).drop i).foldl (fun V p=>V.set p.Dst.toNat [0]) V)
 | 0,i,V,h,_=>by
  obtain rfl:i=((f.Blocks.getD 0 default).Phis).length:=by omega
  rw[List.drop_length];refine Cv ?_;unfold Cl
  show(bif decide _ then _ else _)=_
  rw[show((0:Int)).toNat=0 from rfl,Yj,cond_false];rfl
 | k+1,i,V,h,hp=>by
  have hi:i<((f.Blocks.getD 0 default).Phis).length:=by omega
  have hd:((f.Blocks.getD 0 default).Phis).drop i=((f.Blocks.getD 0 default).Phis).getD i default::((f.Blocks.getD 0 default).Phis).drop (i+1):=by rw[List.drop_eq_getElem_cons hi,Fm _ _ _ hi]
  rw[hd,List.foldl_cons,← Aas hn k (i+1) _ (by omega) (fun p hpp=>by rw[List.length_set];exact hp p hpp)];refine Ge ?_;unfold Cl;simp only[show((0:Int)).toNat=0 from rfl,R2 hi,cond_true,Am (Hh hi),Dj,Fn,Option.bind_some,Am (hp _ (Od hi)),w1 (show i<4611686018427387904 by omega)]
theorem c_begin{f:Ae}{ags:List Int}{n:Nat}(F S:Int)(B:List Int)(T:List Ab)(hl:ags.length=f.Params.length)(hw:∀ w∈f.Params,wdM w)(ha:∀ a∈ags,u64 a)(hn:f.Params.length≤n)(hn':n<4000000)(hb:0<f.Blocks.length)
  (hpl:((f.Blocks.getD 0 default).Phis).length<4611686018427387904) (hp:∀ p∈(f.Blocks.getD 0 default).Phis,Aw p.Dst (n+1)) :
  D2 f ags (List.replicate (n+1) []) F S B T=some (F,S,T,Ob f ags n,B):=by
 have hL:=loop_seq (Ck f ags) (fun i=>((i:Int),([]:List Int)::((List.range i).map (W1 f.Params ags)++List.replicate (n-i) ([]:List Int)))) (([]:List Int)::((List.range f.Params.length).map (W1 f.Params ags)++List.replicate (n-f.Params.length) [])) f.Params.length
  (fun i hi=>by
   unfold Ck;simp only[R2 hi,cond_true,Am (Hh hi),Am (Hh (show i<ags.length by omega)),Dj,c_Cut (hw _ (Od hi)) (ha _ (Od (show i<ags.length by omega))),Fn,Option.bind_some,w1 (show i<4611686018427387904 by omega)];rw[Am (Hh (by simp;omega))];have:=set_arg (g:=W1 f.Params ags) (show i<n by omega);unfold W1 at this ⊢
   rw[this])
  (by
   unfold Ck
   simp only[Yj,cond_false])
 simp only[List.range_zero,List.map_nil,List.nil_append,Nat.sub_zero]at hL
 have hL':Ao (Ck f ags) ((0:Int),List.replicate (n+1) ([]:List Int))=some (([]:List Int)::((List.range f.Params.length).map (W1 f.Params ags)++List.replicate (n-f.Params.length) [])):=by rw[List.replicate_succ];exact hL
 unfold D2;rw[hL',Option.bind_some,Am (show Aw (0:Int) f.Blocks.length from⟨Int.le_refl _,by omega⟩)]
 have h2:=Aas hpl ((f.Blocks.getD 0 default).Phis).length 0 (([]:List Int)::((List.range f.Params.length).map (W1 f.Params ags)++List.replicate (n-f.Params.length) [])) (by omega) (fun p hpp=>by
  have:=hp p hpp;rw[show(([]:List Int)::((List.range f.Params.length).map (W1 f.Params ags)++List.replicate (n-f.Params.length) [])).length=n+1 by simp;omega]
  exact this)
 rw[List.drop_zero]at h2;have h2':Ao (Cl f) ((0:Int),([]:List Int)::((List.range f.Params.length).map (W1 f.Params ags)++List.replicate (n-f.Params.length) []))=some (Ob f ags n):=h2;rw[h2'];rfl
def outR(V:Vs)(B:List Int)(x:RR):Option (J4×Int×List Ab×List Int):=An (V.length=x.2.2.2.2.1.length) (An (B.length=x.2.2.2.2.2.length) (some (x.1,0,x.2.2.2.1,x.2.2.2.2.2)))
theorem beginV_len{f:Ae}{ags:List Int}{n:Nat}(hn:f.Params.length≤n):(Ob f ags n).length=n+1:=by
 unfold Ob;rw[foldl_set_len]
 simp
 omega
theorem c_Run {f : Ae} {ags : List Int} {n : Nat} {F : Int} {B : List Int} {T : List Ab} (hF : 0 ≤ F) (hc : My f 2 = some 0) (hlast : Nx f = some (n : Int)) (hl : ags.length = f.Params.length) (hw : ∀ w ∈ f.Params, wdM w) (ha : ∀ a ∈ ags, u64 a) (hn : f.Params.length ≤ n) (hn' : n < 4000000)
    (hb : 0 < f.Blocks.length) (hpl : ((f.Blocks.getD 0 default).Phis).length < 4611686018427387904) (hp : ∀ p ∈ (f.Blocks.getD 0 default).Phis, Aw p.Dst (n + 1)) :
    D9 f ags F B T = (Ao (Bl f.Blocks) (0, F, 0, T, Ob f ags n, B)).bind (outR (Ob f ags n) B) := by
  have hroom : (((n + 1 : Nat) : Int)) ≤ (room : Int) := by have : (4000001 : Nat) ≤ room := by decide
                                                            omega
  have e1 : (decide (F < 0)) = false := decide_eq_false (by omega)
  have e2 : ((ags.length : Int) != (f.Params.length : Int)) = false := by rw [hl]; simp
  unfold D9; rw [e1, cond_false, e2, show ((false : Bool) == false) = true from rfl, cond_true, hc, Option.bind_some, cond_false, show ((0 : Int) != 0) = false from rfl, cond_false, hlast, Option.bind_some, w1 (show n < 4611686018427387904 by omega), Am ⟨by omega, by omega, hroom⟩, Dj, c_deeds, Option.bind_some, c_begin F 0 B T hl hw ha hn hn' hb hpl hp, Option.bind_some]; rw [Am (show (List.replicate (n + 1) ([] : List Int)).length = (Ob f ags n).length by rw [beginV_len hn, List.length_replicate]), Am rfl]; rw [run_eq]
  rfl
def endG(e:Io)(F S:Int)(V:Vs)(B:List Int)(T:List Ab):Option J4:=
 bif S==F then some ⟨9,0,S⟩ else bif e.Kind==0 then(Az e.Arg V F (Au (S+1)) B T).map fun v=>⟨0,v,Au (S+1)⟩ else bif e.Kind==3 then some ⟨8,0,Au (S+1)⟩ else none
theorem Zx{bs:List Ai}{V V':Vs}{F S S' e:Int}{B B':List Int}{T T':List Ab}{i:Nat}(hi:i<bs.length)(hd:doG (bs.getD i default).Ops V F S B T=some (e,F,S',T',V',B'))(he:e≠0)(hv:V.length=V'.length)(hb:B.length=B'.length) :
  blG bs (i:Int) V F S B T=some (.done (⟨e,0,S'⟩,F,S',T',V',B')):=by
 unfold blG;rw[Am (Hh hi),Dj,hd,Option.bind_some,Am hv,Am hb,show(e !=0)=true by simpa using he,cond_true]
theorem bl_end{bs:List Ai}{V V':Vs}{F S S':Int}{B B':List Int}{T T':List Ab}{i:Nat}{r:J4}(hi:i<bs.length)(hd:doG (bs.getD i default).Ops V F S B T=some (0,F,S',T',V',B'))(hv:V.length=V'.length)(hb:B.length=B'.length)
  (he:endG (bs.getD i default).End F S' V' B' T'=some r):∃ S'',blG bs (i:Int) V F S B T=some (.done (r,F,S'',T',V',B')):=by
 unfold blG;rw[Am (Hh hi),Dj,hd,Option.bind_some,Am hv,Am hb,show((0:Int)!=0)=false from rfl,cond_false];unfold endG at he;simp only
 cases hs:(S'==F) with
 | true=>rw[hs,cond_true]at he;cases he;exact⟨_,rfl⟩
 | false=>
  rw[hs,cond_false]at he
  cases hk:((bs.getD i default).End.Kind==0) with
  | true=>
   rw[hk,cond_true]at he
   cases hm:Az (bs.getD i default).End.Arg V' F (Au (S'+1)) B' T' with
   | none=>rw[hm]at he;cases he
   | some v=>rw[hm]at he;cases he;exact⟨_,rfl⟩
  | false=>
   rw[hk,cond_false]at he
   cases hk3:((bs.getD i default).End.Kind==3) with
   | true=>rw[hk3,cond_true]at he;cases he;exact⟨_,rfl⟩
   | false=>rw[hk3,cond_false]at he;cases he
theorem Rx{bs:List Ai}(hb:∀ b∈bs,b.Ops.length<4611686018427387904){V0 V V':Vs}{F S S'':Int}{B0 B B':List Int}{T T':List Ab}{r:J4}(h:blG bs 0 V F S B T=some (.done (r,F,S'',T',V',B')))(hv:V0.length=V'.length)(hB:B0.length=B'.length) :
  (Ao (Bl bs) (0,F,S,T,V,B)).bind (outR V0 B0)=some (r,0,T',B'):=by
 rw[Cv ((run_F hb 0 F S T V B).trans h),Option.bind_some];unfold outR;rw[Am hv,Am hB]
theorem Qt{o:Ci}{l:List Ci}{V V':Vs}{F S:Int}{B B':List Int}{T T':List Ab}{L:List Int}(hs:S≠F)(ho:opM o V F (Au (S+1)) B T=some (L,0,F,Au (S+1),T',V',B'))(hd:Aw o.Dst V'.length) :
  doG (o::l) V F S B T=doG l (V'.set o.Dst.toNat L) F (Au (S+1)) B' T':=by
 rw[doG,show(S==F)=false by simpa using hs,cond_false,ho,Option.bind_some]
 show(bif ((0:Int)!=0) then _ else _)=_
 rw[show((0:Int)!=0)=false from rfl,cond_false,Am hd]
theorem Z0{o:Ci}{l:List Ci}{V V':Vs}{F S e:Int}{B B':List Int}{T T':List Ab}{L:List Int}(hs:S≠F)(ho:opM o V F (Au (S+1)) B T=some (L,e,F,Au (S+1),T',V',B'))(he:e≠0) :
  doG (o::l) V F S B T=some (e,F,Au (S+1),T',V',B'):=by
 rw[doG,show(S==F)=false by simpa using hs,cond_false,ho,Option.bind_some]
 show(bif (e !=0) then _ else _)=_
 rw[show(e !=0)=true by simpa using he,cond_true]
theorem awake13:m_locksteplaw13_awake=some true:=by kernel_rfl
theorem wd8:wdM 8:=.inr (.inl rfl)
theorem byF{B:List Int}(h:Xh B):L9 B.length (fun i=>eU8 (B.getD i (0:Int))):=byteF_of (fun _=>rfl) h
theorem byE{B:List Int}:I8 B.length (fun i=>eU8 (B.getD i (0:Int)))=B:=bytesF_eq fun _=>rfl
theorem Uv{x:Int}(h:0≤x∧x<256):u64 x:=⟨h.1,by omega⟩
theorem wu_u8{x:Int}(h:0≤x∧x<256):Cc x=x:=N4 h.1 (by omega)
theorem Ms{bs:List Ai}(h:(bs.all fun b=>decide (b.Ops.length<100))=true):∀ b∈bs,b.Ops.length<4611686018427387904:=fun b hb=>by
 have:=List.all_eq_true.1 h b hb;have:=of_decide_eq_true this;omega
theorem wrM_one'{B:List Int}{T:List Ab}{p v:Int}(h:0≤p)(hc:p+1≤B.length):WR p 8 [v] B T=(0,T++[⟨true,p,v % 256⟩],Wq B p.toNat [v % 256]):=by
 obtain⟨n,rfl⟩:=Int.eq_ofNat_of_zero_le h;unfold WR;rw[if_pos (show Aa7 8 (([v]:List Int).length)=true from rfl)]
 show(if(Zs 1 [v] n B).1=true then 0 else 8,T++(Zs 1 [v] n B).2.1,(Zs 1 [v] n B).2.2)=_
 unfold Zs;rw[if_pos (show n+1≤B.length by omega)];rfl
theorem rdM_one{B:List Int}{p:Int}(h:0≤p):RD p 8 1 B []=if p+1≤B.length then([B.getD p.toNat 0],0,[⟨false,p,B.getD p.toNat 0⟩],B) else([],8,[],B):=by
 obtain⟨n,rfl⟩:=Int.eq_ofNat_of_zero_le h;unfold RD;rw[if_pos (show Aa7 8 1=true from rfl)]
 show(if(rdM B 1 1 n).2.1=true then((rdM B 1 1 n).1,0,[]++(rdM B 1 1 n).2.2,B) else([],8,[]++(rdM B 1 1 n).2.2,B))=_
 unfold rdM
 by_cases hc:n+1≤B.length
 ·rw[if_pos hc,if_pos (show((n:Int))+1≤(B.length:Int) by omega),subB_succ (by omega),subB_zero];simp[rdM,nmV,tch]
 ·rw[if_neg hc,if_neg (show ¬ ((n:Int))+1≤(B.length:Int) by omega)];rfl
theorem doD_8{k x v:Int}(hk:1≤k∧k≤12)(hx:0≤x∧x<256)(hv:0≤v∧v<256):∃ z e,doD k 8 x v=(z,e)∧(0≤z∧z<256)∧(e=0∨e=8):=by
 obtain⟨z,e,h1,h2,h3,h4⟩:=c_Do hk wd8 (Uv hx) (Uv hv);refine⟨z,e,by unfold doD;rw[h1];rfl,⟨h2,h3⟩,?_⟩;rcases h4 with⟨h,_⟩|⟨h,_⟩
 ·exact .inl h
 ·exact .inr h
theorem twoR_one{k w x v z e:Int}(h:doD k w x v=(z,e))(he:e=0∨e=8):twoR k w [x] [v]=if e=0 then([z],0) else([],8):=by
 unfold twoR
 show(bif ((doD k w x v).2==0&&true) then([(doD k w x v).1],(0:Int)) else([],8))=_
 rw[h];rcases he with rfl|rfl<;>rfl
def gG1:Ae:=⟨[1,64,8,8],8,[⟨[],Bs,⟨0,6,[]⟩⟩]⟩
def gG2:Ae:=⟨[1,64,8,8],8,[⟨[],Ca,⟨0,6,[]⟩⟩]⟩
theorem four_ws:∀ w∈([1,64,8,8]:List Int),wdM w:=by intro w hw;simp at hw;unfold wdM;omega
theorem Xu{q p u v:Int}(hq:q=0∨q=1)(hp:0≤p∧p<256)(hu:0≤u∧u<256)(hv:0≤v∧v<256):∀ a∈([q,p,u,v]:List Int),u64 a:=by
 intro a ha;simp at ha;unfold u64;omega
def VG(q p u v:Int):Vs:=[[],[q],[p],[u],[v],[],[]]
theorem begin_G1{q p u v:Int}(hq:q=0∨q=1)(hp:0≤p∧p<256)(hu:0≤u∧u<256)(hv:0≤v∧v<256):Ob gG1 [q,p,u,v] 6=VG q p u v:=by
 have e:Ob gG1 [q,p,u,v] 6=[[],[q % 2],[p % 18446744073709551616],[u % 256],[v % 256],[],[]]:=by kernel_rfl
 rw[e,Int.emod_eq_of_lt (a:=q) (by omega) (by omega),Int.emod_eq_of_lt (a:=p) hp.1 (by omega),Int.emod_eq_of_lt hv.1 hv.2,Int.emod_eq_of_lt hu.1 hu.2];rfl
theorem begin_G2{q p u v:Int}(hq:q=0∨q=1)(hp:0≤p∧p<256)(hu:0≤u∧u<256)(hv:0≤v∧v<256):Ob gG2 [q,p,u,v] 6=VG q p u v:=by
 have e:Ob gG2 [q,p,u,v] 6=[[],[q % 2],[p % 18446744073709551616],[u % 256],[v % 256],[],[]]:=by kernel_rfl
 rw[e,Int.emod_eq_of_lt (a:=q) (by omega) (by omega),Int.emod_eq_of_lt (a:=p) hp.1 (by omega),Int.emod_eq_of_lt hv.1 hv.2,Int.emod_eq_of_lt hu.1 hu.2];rfl
def Wr (p v : Int) (B : List Int) : J4 × Int × List Ab × List Int :=
  if p + 1 ≤ B.length then
    (if (doD 4 8 (B.getD p.toNat 0) v).2 = 0 then (⟨0, (doD 4 8 (B.getD p.toNat 0) v).1, 4⟩, 0, [⟨false, p, B.getD p.toNat 0⟩, ⟨true, p, (doD 4 8 (B.getD p.toNat 0) v).1⟩], Wq B p.toNat [(doD 4 8 (B.getD p.toNat 0) v).1])
     else (⟨8, 0, 2⟩, 0, [⟨false, p, B.getD p.toNat 0⟩], B))
  else (⟨8, 0, 1⟩, 0, [], B)
section
variable {B:List Int} {q p u v:Int} (hB:Xh B) (hL:B.length≤4096) (hp:0≤p∧p<256) (hu:0≤u∧u<256) (hv:0≤v∧v<256)
include hB hL hp hu hv
theorem run_G2(hq:q=0∨q=1):D9 gG2 [q,p,u,v] 9 B []=some (Wr p v B):=by
 have hm:Ww B []:=⟨hB,by omega,by decide⟩;rw[c_Run (f:=gG2) (ags:=[q,p,u,v]) (n:=6) (by decide) (by kernel_rfl) (by kernel_rfl) rfl four_ws (Xu hq hp hu hv) (by decide) (by decide) (by decide) (by decide) (fun q hq=>by cases hq),begin_G2 hq hp hu hv];have hld:=op_load (o:=⟨16,8,1,5,[2],0⟩) (V:=VG q p u v) (F:=9) (S:=Au (0+1)) (c:=2) rfl ⟨by decide,rfl⟩ ⟨by decide,by simp[VG],rfl⟩ hp.1 hm
 dsimp only at hld
 rw[rdM_one hp.1]at hld;unfold Wr
 by_cases hc:p+1≤B.length
 ·rw[if_pos hc]at hld ⊢
  dsimp only at hld
  generalize hx:B.getD p.toNat 0=x at hld ⊢
  have hxb:0≤x∧x<256:=by rw[← hx];exact Aac hB _
  obtain⟨z,e,hd,hz,he⟩:=doD_8 (k:=4) (by decide) hxb hv;have h1:=Qt (l:=[⟨4,8,1,6,[5,4],0⟩,⟨17,8,1,0,[2,6],0⟩]) (by decide) hld ⟨by decide,by simp[VG]⟩;have hdv:=op_two (o:=⟨4,8,1,6,[5,4],0⟩) (V:=[[],[q],[p],[u],[v],[x],[]]) (F:=9) (S:=Au (Au (0+1)+1)) (B:=B) (T:=[⟨false,p,x⟩]) (p:=5) (q:=4) (A:=[x]) (C:=[v]) (by decide) wd8 ⟨by decide,rfl⟩ ⟨by decide,rfl⟩ ⟨by decide,by simp,rfl⟩ ⟨by decide,by simp,rfl⟩ rfl (by simp)
   (fun y hy=>by simp at hy;subst hy;exact Uv hxb) (fun y hy=>by simp at hy;subst hy;exact Uv hv)
  dsimp only at hdv
  rw[twoR_one hd he]at hdv;rw[hd];rcases he with rfl|rfl
  ·rw[if_pos rfl]at hdv ⊢;have h2:=Qt (l:=[⟨17,8,1,0,[2,6],0⟩]) (by decide) hdv ⟨by decide,by simp⟩;have hst:=op_store (o:=⟨17,8,1,0,[2,6],0⟩) (V:=[[],[q],[p],[u],[v],[x],[z]]) (F:=9) (S:=Au (Au (Au (0+1)+1)+1)) (B:=B) (T:=[⟨false,p,x⟩]) (c:=2) (p:=6) (L:=[z]) rfl ⟨by decide,rfl⟩ ⟨by decide,rfl⟩ ⟨by decide,by simp,rfl⟩ ⟨by decide,by simp,rfl⟩ hp.1 ⟨hB,by omega,by simp[room]⟩
   dsimp only at hst
   rw[wrM_one' hp.1 hc,Int.emod_eq_of_lt hz.1 hz.2]at hst;have h3:=Qt (l:=[]) (by decide) hst ⟨by decide,by simp⟩;obtain⟨S'',h⟩:=bl_end (bs:=gG2.Blocks) (i:=0) (r:=⟨0,z,4⟩) (by decide) (h1.trans (h2.trans h3)) (by simp[VG]) (Nc ..).symm rfl;exact Rx (Ms rfl) h (by simp[VG]) (Nc ..).symm
  ·rw[if_neg (show ¬ ((8:Int))=0 by decide)]at hdv;rw[if_neg (show ¬ (z,(8:Int)).2=0 by simp)];have h2:=Z0 (l:=[⟨17,8,1,0,[2,6],0⟩]) (by decide) hdv (by decide);have h:=Zx (bs:=gG2.Blocks) (i:=0) (by decide) (h1.trans h2) (by decide) (by simp[VG]) rfl;exact Rx (Ms rfl) h (by simp[VG]) rfl
 ·rw[if_neg hc]at hld ⊢
  dsimp only at hld
  have h:=Zx (bs:=gG2.Blocks) (i:=0) (by decide) (Z0 (l:=[⟨4,8,1,6,[5,4],0⟩,⟨17,8,1,0,[2,6],0⟩]) (by decide) hld (by decide)) (by decide) rfl rfl;exact Rx (Ms rfl) h rfl rfl
theorem run_G1:D9 gG1 [1,p,u,v] 9 B []=some (Wr p v B):=by
 have hm:Ww B []:=⟨hB,by omega,by decide⟩;rw[c_Run (f:=gG1) (ags:=[1,p,u,v]) (n:=6) (by decide) (by kernel_rfl) (by kernel_rfl) rfl four_ws (Xu (.inr rfl) hp hu hv) (by decide) (by decide) (by decide) (by decide) (fun q hq=>by cases hq),begin_G1 (.inr rfl) hp hu hv];have hld:=op_pload (o:=⟨18,8,1,5,[1,2,3],0⟩) (V:=VG 1 p u v) (F:=9) (S:=Au (0+1)) (g:=1) (c:=2) (d:=3) rfl rfl ⟨by decide,rfl⟩ ⟨by decide,rfl⟩ ⟨by decide,rfl⟩ ⟨by decide,by simp[VG],rfl⟩ ⟨by decide,by simp[VG],rfl⟩ ⟨by decide,by simp[VG],rfl⟩ hp.1 hm
 dsimp only at hld
 rw[show((1:Int)==1)=true from rfl,cond_true,rdM_one hp.1]at hld;unfold Wr
 by_cases hc:p+1≤B.length
 ·rw[if_pos hc]at hld ⊢
  dsimp only at hld
  generalize hx:B.getD p.toNat 0=x at hld ⊢
  have hxb:0≤x∧x<256:=by rw[← hx];exact Aac hB _
  obtain⟨z,e,hd,hz,he⟩:=doD_8 (k:=4) (by decide) hxb hv;have h1:=Qt (l:=[⟨20,8,1,6,[1,5,4,5],0⟩,⟨19,8,1,0,[1,2,6],0⟩]) (by decide) hld ⟨by decide,by simp[VG]⟩;have hdv:=op_pdiv (o:=⟨20,8,1,6,[1,5,4,5],0⟩) (V:=[[],[1],[p],[u],[v],[x],[]]) (F:=9) (S:=Au (Au (0+1)+1)) (B:=B) (T:=[⟨false,p,x⟩]) (g:=1) (p:=5) (r:=4) (d:=5) (A:=[x]) (C:=[v]) rfl rfl wd8 ⟨by decide,rfl⟩ ⟨by decide,rfl⟩ ⟨by decide,rfl⟩ ⟨by decide,rfl⟩ ⟨by decide,by simp,rfl⟩ ⟨by decide,by simp,rfl⟩ ⟨by decide,by simp,rfl⟩ ⟨by decide,by simp,rfl⟩ rfl (by simp)
   (fun y hy=>by simp at hy;subst hy;exact Uv hxb) (fun y hy=>by simp at hy;subst hy;exact Uv hv)
  dsimp only at hdv
  rw[show((1:Int)==1)=true from rfl,cond_true,twoR_one hd he]at hdv;rw[hd];rcases he with rfl|rfl
  ·rw[if_pos rfl]at hdv ⊢;have h2:=Qt (l:=[⟨19,8,1,0,[1,2,6],0⟩]) (by decide) hdv ⟨by decide,by simp⟩;have hst:=op_pstore (o:=⟨19,8,1,0,[1,2,6],0⟩) (V:=[[],[1],[p],[u],[v],[x],[z]]) (F:=9) (S:=Au (Au (Au (0+1)+1)+1)) (B:=B) (T:=[⟨false,p,x⟩]) (g:=1) (c:=2) (p:=6) (L:=[z]) rfl rfl ⟨by decide,rfl⟩ ⟨by decide,rfl⟩ ⟨by decide,rfl⟩ ⟨by decide,by simp,rfl⟩ ⟨by decide,by simp,rfl⟩ ⟨by decide,by simp,rfl⟩ hp.1 ⟨hB,by omega,by simp[room]⟩
   dsimp only at hst
   rw[show((1:Int)==1)=true from rfl,cond_true,wrM_one' hp.1 hc,Int.emod_eq_of_lt hz.1 hz.2]at hst;have h3:=Qt (l:=[]) (by decide) hst ⟨by decide,by simp⟩;obtain⟨S'',h⟩:=bl_end (bs:=gG1.Blocks) (i:=0) (r:=⟨0,z,4⟩) (by decide) (h1.trans (h2.trans h3)) (by simp[VG]) (Nc ..).symm rfl;exact Rx (Ms rfl) h (by simp[VG]) (Nc ..).symm
  ·rw[if_neg (show ¬ ((8:Int))=0 by decide)]at hdv;rw[if_neg (show ¬ (z,(8:Int)).2=0 by simp)];have h2:=Z0 (l:=[⟨19,8,1,0,[1,2,6],0⟩]) (by decide) hdv (by decide);have h:=Zx (bs:=gG1.Blocks) (i:=0) (by decide) (h1.trans h2) (by decide) (by simp[VG]) rfl;exact Rx (Ms rfl) h (by simp[VG]) rfl
 ·rw[if_neg hc]at hld ⊢
  dsimp only at hld
  have h:=Zx (bs:=gG1.Blocks) (i:=0) (by decide) (Z0 (l:=[⟨20,8,1,6,[1,5,4,5],0⟩,⟨19,8,1,0,[1,2,6],0⟩]) (by decide) hld (by decide)) (by decide) rfl rfl;exact Rx (Ms rfl) h rfl rfl
theorem run_G0:D9 gG1 [0,p,u,v] 9 B []=some (⟨0,u,4⟩,0,[],B):=by
 have hm:Ww B []:=⟨hB,by omega,by decide⟩;rw[c_Run (f:=gG1) (ags:=[0,p,u,v]) (n:=6) (by decide) (by kernel_rfl) (by kernel_rfl) rfl four_ws (Xu (.inl rfl) hp hu hv) (by decide) (by decide) (by decide) (by decide) (fun q hq=>by cases hq),begin_G1 (.inl rfl) hp hu hv];have hld:=op_pload (o:=⟨18,8,1,5,[1,2,3],0⟩) (V:=VG 0 p u v) (F:=9) (S:=Au (0+1)) (g:=1) (c:=2) (d:=3) rfl rfl ⟨by decide,rfl⟩ ⟨by decide,rfl⟩ ⟨by decide,rfl⟩ ⟨by decide,by simp[VG],rfl⟩ ⟨by decide,by simp[VG],rfl⟩ ⟨by decide,by simp[VG],rfl⟩ hp.1 hm;rw[show((0:Int)==1)=false from rfl,cond_false]at hld;have h1:=Qt (l:=[⟨20,8,1,6,[1,5,4,5],0⟩,⟨19,8,1,0,[1,2,6],0⟩]) (by decide) hld ⟨by decide,by simp[VG]⟩;have hdv:=op_pdiv (o:=⟨20,8,1,6,[1,5,4,5],0⟩) (V:=[[],[0],[p],[u],[v],[u],[]]) (F:=9) (S:=Au (Au (0+1)+1)) (B:=B) (T:=[]) (g:=1) (p:=5) (r:=4) (d:=5) (A:=[u]) (C:=[v]) rfl rfl wd8 ⟨by decide,rfl⟩ ⟨by decide,rfl⟩ ⟨by decide,rfl⟩ ⟨by decide,rfl⟩ ⟨by decide,by simp,rfl⟩ ⟨by decide,by simp,rfl⟩ ⟨by decide,by simp,rfl⟩ ⟨by decide,by simp,rfl⟩ rfl (by simp)
  (fun y hy=>by simp at hy;subst hy;exact Uv hu) (fun y hy=>by simp at hy;subst hy;exact Uv hv)
 rw[show((0:Int)==1)=false from rfl,cond_false]at hdv;have h2:=Qt (l:=[⟨19,8,1,0,[1,2,6],0⟩]) (by decide) hdv ⟨by decide,by simp⟩;have hst:=op_pstore (o:=⟨19,8,1,0,[1,2,6],0⟩) (V:=[[],[0],[p],[u],[v],[u],[u]]) (F:=9) (S:=Au (Au (Au (0+1)+1)+1)) (B:=B) (T:=[]) (g:=1) (c:=2) (p:=6) (L:=[u]) rfl rfl ⟨by decide,rfl⟩ ⟨by decide,rfl⟩ ⟨by decide,rfl⟩ ⟨by decide,by simp,rfl⟩ ⟨by decide,by simp,rfl⟩ ⟨by decide,by simp,rfl⟩ hp.1 hm;rw[show((0:Int)==1)=false from rfl,cond_false]at hst;have h3:=Qt (l:=[]) (by decide) hst ⟨by decide,by simp⟩;obtain⟨S'',h⟩:=bl_end (bs:=gG1.Blocks) (i:=0) (r:=⟨0,u,4⟩) (by decide) (h1.trans (h2.trans h3)) (by simp[VG]) rfl rfl;exact Rx (Ms rfl) h (by simp[VG]) rfl
end
theorem resG_ok{B:List Int}{p v:Int}(hB:Xh B)(hv:0≤v∧v<256):(Wr p v B).2.1=0∧(Wr p v B).2.2.2.length=B.length∧Xh (Wr p v B).2.2.2∧(Wr p v B).2.2.1.length≤2:=by
 unfold Wr;obtain⟨z,e,hd,hz,he⟩:=doD_8 (k:=4) (by decide) (Aac hB p.toNat) hv;rw[hd]
 split
 ·split
  ·exact⟨rfl,Nc ..,putB_ok hB (fun x hx=>by simp at hx;subst hx;exact hz),by simp⟩
  ·exact⟨rfl,rfl,hB,by simp⟩
 ·exact⟨rfl,rfl,hB,by simp⟩
theorem guards13(so:Bool)(h:Int×Int×Int)(b:List Int)(h0:0≤h.1∧h.1<256)(h1:0≤h.2.1∧h.2.1<256)(h2:0≤h.2.2∧h.2.2<256)(hb:Xh b):Dh so h b=some true:=by
 obtain⟨p,u,v⟩:=h
 dsimp only at h0 h1 h2
 unfold Dh;rw[awake13,Option.bind_some,Bool.not_true,cond_false]
 by_cases h256:(256:Int)<b.length
 ·rw[decide_eq_true h256,cond_true]
 ·have hl:b.length≤256:=by omega
  have hroom:(4096:Nat)≤room:=by decide
  rw[decide_eq_false h256,cond_false,m_New_ok (by omega)]
  have hck:E2 gG1 1=some 0:=by kernel_rfl
  have g2:=fun q hq=>run_G2 (q:=q) hb (by omega) h0 h1 h2 hq;have g1:=run_G1 hb (by omega) h0 h1 h2;have g0:=run_G0 hb (by omega) h0 h1 h2;unfold gG1 at hck g1 g0;unfold gG2 at g2;obtain⟨r1,r2,r3,r4⟩:=resG_ok (p:=p) hb h2;have hb0:Aw (0:Int) ([u,v]:List Int).length:=⟨by decide,by simp⟩;have hb1:Aw (1:Int) ([u,v]:List Int).length:=⟨by decide,by simp⟩;simp only[Option.bind_some,cond_true,hck,wu_u8 h0]
  cases so with
  | false=>
   rw[cond_false,Option.bind_some];rw[show((0:Int)!=0)=false from rfl,cond_false,Am hb0,Am hb1];rw[show([u,v]:List Int).getD ((0:Int)).toNat 0=u from rfl,show([u,v]:List Int).getD ((1:Int)).toNat 0=v from rfl,wu_u8 h1,wu_u8 h2];rw[g0,g2 0 (.inl rfl)];simp only[Option.bind_some];rw[chk_T,Am r2.symm,r1,show((0:Int)!=0)=false from rfl,cond_false,cond_false,Bool.not_false,cond_true,Am hb0];rw[show(((0:Int)==0)&&((u==u)&&(((4:Int)==4)&&true)))=true by simp,cond_true,m_Trace (by simp),Option.bind_some,Am rfl];rw[show(((([]:List Ab).length:Int))==0)=true from rfl,cond_true]
   dsimp only
   rw[m_Bytes (by omega),Option.bind_some,Am rfl,Am (byF hb),Am (byF hb),byE,beq_self_eq_true]
  | true=>
   rw[cond_true,Option.bind_some];rw[show((0:Int)!=0)=false from rfl,cond_false,Am hb0,Am hb1];rw[show([u,v]:List Int).getD ((0:Int)).toNat 0=u from rfl,show([u,v]:List Int).getD ((1:Int)).toNat 0=v from rfl,wu_u8 h1,wu_u8 h2];rw[g1,g2 1 (.inr rfl)];simp only[Option.bind_some];rw[Am r2.symm,Am r2.symm,r1,show((0:Int)!=0)=false from rfl,cond_false,cond_false,Bool.not_true,cond_false];rw[show((Wr p v b).1.Code==(Wr p v b).1.Code&&((Wr p v b).1.Value==(Wr p v b).1.Value&&((Wr p v b).1.Steps==(Wr p v b).1.Steps&&true)))=true by simp,cond_true];rw[m_Bytes (by rw[r2];omega)];simp only[Option.bind_some];rw[chk_T,Am (byF r3),chk_T,Am (byF r3),beq_self_eq_true,cond_true,m_Trace (by omega)];simp only[Option.bind_some];rw[chk_T,chk_T,beq_self_eq_true]
inductive OpsRun:Vs→List Ci→Vs→Prop
 | nil {V:Vs}:OpsRun V [] V
 | cons {V V':Vs} {o:Ci} {l:List Ci} {L:List Int} (h:∀ F S,opM o V F S [] []=some (L,0,F,S,[],V,[])) (hd:Aw o.Dst V.length) (t:OpsRun (V.set o.Dst.toNat L) l V'):OpsRun V (o::l) V'
theorem OpsRun.len{V V':Vs}{l:List Ci}(h:OpsRun V l V'):V'.length=V.length:=by
 induction h with
 | nil=>rfl
 | cons _ _ _ ih=>rw[ih,List.length_set]
def Ends(n:Nat)(x:Option RR)(r:J4):Prop:=∃ F S V,x=some (r,F,S,[],V,[])∧V.length=n
theorem wf_u8{n:Int}(h:(Lit.int .u8 n).wf=true):0≤n∧n<256:=by simp[Lit.wf,IntKind.min,IntKind.max,IntKind.bits,IntKind.signed]at h;omega
theorem okWide_array{P:Program}{w:World}{r:Reach}{base:Nat}{t:TypeId}{v:Value}{n:Nat}{e:TypeId}(ht:P.underlying t=some (.array n e))(h:Value.okWide P w r base t v):∃ cs,v = .agg cs∧True:=by
 simp only[Value.okWide,ht]at h;obtain⟨cs,h1,_⟩:=h;exact⟨cs,h1,trivial⟩
abbrev Iall(w:World):Nat→Nat→Prop:=fun b o=>∃ u,w.cell? ⟨b,o,none⟩=some u
structure Aag(w:World)(cs:List Value)(avs:List AV):Prop where
 len:cs.length=avs.length
 one:∀ j,j<avs.length→(cs.getD j undef).oneCell'=true
 rep:∀ j,j<avs.length→RepV (Iall w) w (cs.getD j undef) (avs.getD j .any)
structure Opens(P:Program)(t:TypeId){α:Type}(e:α→List AV)(ok:α→Prop):Prop where
 get:∀{H:Type} {enc:TypeId×Value→H} {w:World} {base:Nat} {spare:Nat→Bool} {held:Bool} {fuel:Nat} {cs:List Value} {x:DataW H×List MemPlace},
  DataW.trod enc P w base spare held fuel t cs=some x→∃ a,ok a∧Aag w cs (e a)
theorem W9{w:World}{v:Value}{x:AV}(h1:v.oneCell'=true)(h:RepV (Iall w) w v x):Aag w [v] [x]:=
 ⟨rfl,fun j hj=>(by
   have hj0:j=0:=by simpa using hj
   subst hj0
   exact h1),fun j hj=>(by
   have hj0:j=0:=by simpa using hj
   subst hj0
   exact h)⟩
theorem opens_int{P:Program}{t:TypeId}{k:IntKind}{e:Int→List AV}(ht:P.underlying t=some (.int k))(he:∀ n,e n=[.int k n]):Opens P t e (fun n=>(Lit.int k n).wf=true):=by
 refine⟨?_⟩;intro H enc w base spare held fuel cs x h;obtain⟨n,rfl,rfl,hw⟩:=DataW.trod_int ht h;exact⟨n,hw,by rw[he];exact W9 rfl (.int _ _)⟩
theorem opens_bool{P:Program}{t:TypeId}{e:Bool→List AV}(ht:P.underlying t=some .bool)(he:∀ n,e n=[.bool n]):Opens P t e (fun _=>True):=by
 refine⟨?_⟩;intro H enc w base spare held fuel cs x h;obtain⟨n,rfl,rfl⟩:=DataW.trod_bool ht h;exact⟨n,trivial,by rw[he];exact W9 rfl (.bool _)⟩
theorem cells?_get{w:World}{base:Nat}{a:Addr}{n:Nat}{cs:List Value}(h:w.cells? base a n=some cs):cs.length=n∧∀ i,i<n→w.cell? (a.add i)=some (cs.getD i undef):=by
 unfold World.cells? at h
 split at h
 ·have hl:=mapM_some_length h;simp at hl;refine⟨hl,fun i hi=>?_⟩;have:=mapM_some_get h i i (by simp[hi]);rw[this];simp[List.getD,show i<cs.length by omega]
 ·cases h
theorem opens_slice{P:Program}{t el:TypeId}{α:Type}{e:α→List AV}{ok:α→Prop}{sz:Nat}{d:α}{e':List α→List AV}(ht:P.underlying t=some (.slice el))(hs:P.cellsOf el=sz)(h1:1≤sz)(he:Opens P el e ok)(hlen:∀ a,(e a).length=sz)
  (he':∀ l,e' l=[AV.list sz e d l .none]):Opens P t e' (fun l=>(∀ a∈l,ok a)∧l.length≤maxLen):=by
 refine⟨?_⟩;intro H enc w base spare held fuel cs x h;rcases DataW.trod_slice ht h with⟨rfl,rfl⟩|⟨a,len,cap,elems,rest,n,_,rfl,rfl,hb,hl,hm,hlen2,hel,_⟩
 ·exact⟨[],⟨by simp,by simp⟩,by rw[he'];exact W9 rfl (.slice none 0 0 sz _ (fun _=>undef) (Nat.le_refl _) (by simp) (fun h=>by simp at h) (fun _=>rfl) (fun j hj=>by simp at hj) (fun i hi=>by simp at hi) (fun i c hi=>by simp at hi))⟩
 ·have each:∀ i:Fin len,∃ b,ok b∧∃ cs,w.cells? base (a.add (i.1*sz)) sz=some cs∧Aag w cs (e b):=fun⟨i,hi⟩=>by
   have:=hel i hi;rw[hs,List.getElem?_eq_getElem (by omega),Option.bind_eq_some_iff]at this;obtain⟨cs,hcs,htr⟩:=this;obtain⟨b,hb,hr⟩:=he.get htr;exact⟨b,hb,cs,hcs,hr⟩
  let f:Fin len→α:=fun i=>(each i).choose
  have hf:∀ i,ok (f i)∧∃ cs,w.cells? base (a.add (i.1*sz)) sz=some cs∧Aag w cs (e (f i)):=fun i=>(each i).choose_spec
  have hlf:(List.ofFn f).length=len:=by simp
  refine⟨List.ofFn f,⟨fun b hb=>?_,by simp;omega⟩,?_⟩
  ·obtain⟨i,rfl⟩:=List.mem_ofFn.1 hb;exact(hf i).1
  rw[he'];refine W9 rfl ?_
  have hcell0:∀ i (hi:i<len),∀ c,c<sz→∃ u,w.cell? ((a.add (i*sz)).add c)=some u∧u.oneCell'=true∧RepV (Iall w) w u ((e (f ⟨i,hi⟩)).getD c .any):=fun i hi c hc=>by
   obtain⟨_,cs,hcs,hr⟩:=hf ⟨i,hi⟩;obtain⟨hl,hg⟩:=cells?_get hcs;exact⟨_,hg c hc,hr.one c (by rw[hlen];exact hc),hr.rep c (by rw[hlen];exact hc)⟩
  have hspot:0<len→a.spot=none:=fun hp=>by
   obtain⟨u,hu,_⟩:=hcell0 0 hp 0 h1;have h2:=World.cell?_spot hu
   simpa [Addr.add] using h2
  have hcell:∀ i (hi:i<len),∀ c,c<sz→∃ u,w.cell? ⟨a.block,a.off+(i*sz+c),none⟩=some u∧u.oneCell'=true∧RepV (Iall w) w u ((e (f ⟨i,hi⟩)).getD c .any):=fun i hi c hc=>by
   obtain⟨u,hu,h1,h2⟩:=hcell0 i hi c hc;have hsp:=hspot (by omega);rw[Gr hsp,Addr.add_lit]at hu;exact⟨u,by rw[← Nat.add_assoc];exact hu,h1,h2⟩
  have hdm:∀ j,j<len*sz→∃ i c,i<len∧c<sz∧j=i*sz+c:=fun j hj=>by
   refine⟨j / sz,j % sz,(Nat.div_lt_iff_lt_mul (by omega)).2 hj,Nat.mod_lt _ (by omega),?_⟩;rw[Nat.mul_comm];exact(Nat.div_add_mod j sz).symm
  unfold AV.list;rw[hlf];refine .slice (some a) len cap sz _ (fun j=>(w.cell? ⟨a.block,a.off+j,none⟩).getD undef) hl hm (fun hp=>⟨a,rfl,hspot hp,fun j hj=>?_,fun j hj=>?_⟩) (fun h=>by cases h) (fun j hj=>?_) (fun i hi=>hlen _) (fun i c hi hc=>?_)
  ·obtain⟨i,c,hi,hc,rfl⟩:=hdm j hj;obtain⟨u,hu,_⟩:=hcell i hi c hc;exact⟨u,hu⟩
  ·obtain⟨i,c,hi,hc,rfl⟩:=hdm j hj;obtain⟨u,hu,_⟩:=hcell i hi c hc;rw[hu];rfl
  ·obtain⟨i,c,hi,hc,rfl⟩:=hdm j hj;obtain⟨u,hu,h1,_⟩:=hcell i hi c hc;simp only[hu];exact h1
  ·obtain⟨u,hu,_,h2⟩:=hcell i hi c hc
   have e1:(List.ofFn f).getD i d=f ⟨i,hi⟩:=by simp[List.getD,hi]
   rw[e1,hu];exact h2
structure OpensF(P:Program)(fs:List Field)(off N:Nat){α:Type}(e:α→List AV)(ok:α→Prop):Prop where
 get:∀{H:Type} {enc:TypeId×Value→H} {w:World} {base:Nat} {spare:Nat→Bool} {held:Bool} {n:Nat} {cs:List Value},cs.length=N→
  (∀ f∈fs,∃ x,DataW.trod enc P w base spare held n f.type ((cs.drop f.offset).take (P.cellsOf f.type))=some x)→∃ a,ok a∧Aag w (cs.drop off) (e a)
theorem Opens.to{P:Program}{t:TypeId}{α β:Type}{e:α→List AV}{ok:α→Prop}(h:Opens P t e ok){e':β→List AV}{ok':β→Prop}(g:α→β)(he:∀ a,e' (g a)=e a)(hok:∀ a,ok a→ok' (g a)):Opens P t e' ok':=by
 refine⟨?_⟩;intro H enc w base spare held fuel cs x hx;obtain⟨a,ha,hr⟩:=h.get hx;exact⟨g a,hok a ha,by rw[he];exact hr⟩
theorem arg_one{P:Program}{t:TypeId}{α:Type}{e:α→List AV}{ok:α→Prop}(h:Opens P t e ok){x:α→AV}(he:∀ a,e a=[x a]){H:Type}{enc:TypeId×Value→H}{w:World}{base:Nat}{spare:Nat→Bool}{held:Bool}{v:Value}{d:DataW H}{ps:List MemPlace}
  (hv:v.cells = #[v]) (hd:DataW.Trod enc P w base spare held t v d ps):∃ a,ok a∧RepV (Iall w) w v (x a):=by
 obtain⟨fuel,hf⟩:=hd;obtain⟨a,ha,hr⟩:=h.get hf;refine⟨a,ha,?_⟩;have:=hr.rep 0 (by simp[he])
 simpa [hv,he] using this
theorem arg_agg{P:Program}{t:TypeId}{α:Type}{e:α→List AV}{ok:α→Prop}(h:Opens P t e ok){H:Type}{enc:TypeId×Value→H}{w:World}{base:Nat}{spare:Nat→Bool}{held:Bool}{cs:Array Value}{d:DataW H}{ps:List MemPlace}
  (hd:DataW.Trod enc P w base spare held t (.agg cs) d ps):∃ a,ok a∧RepV (Iall w) w (.agg cs) (.agg (e a)):=by
 obtain⟨fuel,hf⟩:=hd;obtain⟨a,ha,hr⟩:=h.get hf;have e1:(Value.agg cs).cells.toList=cs.toList:=rfl;rw[e1]at hr
 have e2:∀ j,cs.toList.getD j undef=cs.getD j undef:=fun j=>by simp[Array.getD_eq_getD_getElem?,List.getD]
 refine⟨a,ha,.agg _ _ (by simpa using hr.len) (fun j hj=>?_) (fun j hj=>?_)⟩
 ·rw[← e2];exact hr.one j hj
 ·rw[← e2];exact hr.rep j hj
theorem crep_nil{w:World}:Aag w [] []:=⟨rfl,fun j hj=>by simp at hj,fun j hj=>by simp at hj⟩
theorem crep_cons{w:World}{c:Value}{cs:List Value}{l m:List AV}(h:Aag w [c] l)(k:Aag w cs m):Aag w (c::cs) (l++m):=by
 obtain⟨y,rfl⟩:∃ y,l=[y]:=List.length_eq_one_iff.1 h.len.symm;refine⟨by simp[k.len],fun j hj=>?_,fun j hj=>?_⟩
 ·cases j with
  | zero=>exact h.one 0 (by simp)
  | succ j=>exact k.one j (by simpa using hj)
 ·cases j with
  | zero=>exact h.rep 0 (by simp)
  | succ j=>exact k.rep j (by simpa using hj)
theorem crep_all{w:World}{α:Type}{e:α→List AV}{ok:α→Prop}:∀(cs:List Value),(∀ i (hi:i<cs.length),∃ a,ok a∧Aag w [cs[i]] (e a))→∃ l:List α,l.length=cs.length∧(∀ a∈l,ok a)∧Aag w cs (l.flatMap e)
 | [],_=>⟨[],rfl,by simp,crep_nil⟩
 | c::cs,h=>by
  obtain⟨a,ha,hr⟩:=h 0 (by simp)
  obtain⟨l,hl,hall,hrl⟩:=crep_all cs (fun i hi=>by
   have:=h (i+1) (by simpa using hi)
   simpa using this)
  refine⟨a::l,by simp[hl],fun b hb=>?_,?_⟩
  ·rcases List.mem_cons.1 hb with rfl|hb
   ·exact ha
   ·exact hall b hb
  ·rw[List.flatMap_cons];exact crep_cons hr hrl
theorem opens_array{P:Program}{t el:TypeId}{N:Nat}{α β:Type}{e:α→List AV}{ok:α→Prop}{e':β→List AV}{ok':β→Prop}(ht:P.underlying t=some (.array N el))(htc:P.cellsOf t=N)(hs:P.cellsOf el=1)(he:Opens P el e ok)
  (g:List α→β) (he':∀ l,l.length=N→(∀ a∈l,ok a)→ok' (g l)∧e' (g l)=l.flatMap e):Opens P t e' ok':=by
 refine⟨?_⟩;intro H enc w base spare held fuel cs x h;obtain⟨xs,n,_,_,hcl,hxl,hall⟩:=DataW.trod_array ht h;rw[htc]at hcl
 obtain⟨l,hl,hok,hr⟩:=crep_all (w:=w) (e:=e) (ok:=ok) cs (fun i hi=>by
  have h0:=hall i (by omega);rw[hs,List.getElem?_eq_getElem (by omega),Nat.mul_one]at h0;obtain⟨a,ha,hra⟩:=he.get h0;refine⟨a,ha,?_⟩
  rwa[List.drop_eq_getElem_cons hi,List.take_succ_cons,List.take_zero]at hra)
 obtain⟨h1,h2⟩:=he' l (hl.trans hcl) hok;exact⟨g l,h1,by rw[h2];exact hr⟩
def okU8(n:Int):Prop:=(Lit.int .u8 n).wf=true
theorem op_5:Opens Tryz.prog 5 eU8 okU8:=opens_int Tryz.underlying5 (fun _=>rfl)
def okLU8(l:List (Int)):Prop:=(∀ a∈l,okU8 a)∧l.length≤maxLen
theorem op_27:Opens Tryz.prog 27 eLU8 okLU8:=opens_slice (d:=(0:Int)) Tryz.underlying27 (by kernel_rfl) (by decide) op_5 (fun _=>rfl) (fun _=>rfl)
def okB(n:Bool):Prop:=True
theorem op_4:Opens Tryz.prog 4 eB okB:=opens_bool Tryz.underlying4 (fun _=>rfl)
def okA3U8(p:(Int×Int×Int)):Prop:=okU8 p.1∧okU8 p.2.1∧okU8 p.2.2
theorem op_69:Opens Tryz.prog 69 eA3U8 okA3U8:=opens_array Tryz.underlying69 (by kernel_rfl) (by kernel_rfl) op_5 (fun l=>(l.getD 0 (0:Int),l.getD 1 (0:Int),l.getD 2 (0:Int))) (fun l hl h=>by
 match l,hl,h with
 | [y0,y1,y2],hl,h=>exact⟨⟨h y0 (by simp),h y1 (by simp),h y2 (by simp)⟩,rfl⟩)
end
end Go.Proofs.YtemgdalocjcbhaaGreat
