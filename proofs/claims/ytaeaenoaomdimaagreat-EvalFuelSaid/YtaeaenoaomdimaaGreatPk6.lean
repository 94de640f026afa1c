/-
  The machine, the program's functions and the laws' arithmetic: part 6 of 6.
-/
import Derived.Test.YtaeaenoaomdimaaGreatPk5
set_option linter.unusedSectionVars false
set_option linter.unusedVariables false
set_option linter.unusedSimpArgs false
namespace Go.Proofs.YtaeaenoaomdimaaGreat
noncomputable section
open Go Go.RowKit
set_option maxRecDepth 100000
structure Slot(V:Vs)(v:Int)(l:List Int):Prop where
 lo:0<=v
 hi:v<V.length
 is:V.getD v.toNat []=l
theorem Slot.inb{V:Vs}{v:Int}{l:List Int}(h:Slot V v l):A0 v V.length:=⟨h.lo,h.hi⟩
theorem Uo{V:Vs}{v:Int}{a:Int}{l:List Int}(h:Slot V v (a::l))(F S:Int)(B:List Int)(T:List Ac):Bf v V F S B T=some a:=by
 unfold Bf;rw[Aa h.inb,h.is,Aa (⟨Int.le_refl _,by simp⟩)]
 rfl
theorem KW{V:Vs}{v:Int}{a:Int}{l:List Int}(h:Slot V v (a::l))(F S:Int)(B:List Int)(T:List Ac):D2 v V F S B T=some (a==1):=by
 unfold D2;rw[Uo h];rfl
def Arg(o:C5)(i:Nat)(v:Int):Prop:=i<o.Args.length/\o.Args.getD i 0=v
theorem Arg.inb{o:C5}{i:Nat}{v:Int}(h:Arg o i v):A0 (i:Int) o.Args.length:=Ak h.1
theorem Arg.g{o:C5}{i:Nat}{v:Int}(h:Arg o i v):o.Args.getD ((i:Nat):Int).toNat 0=v:=by  exact h.2
section
variable {o:C5} {V:Vs} {F S:Int} {B:List Int} {T:List Ac}
theorem dk{a b:Int}(h:o.Kind=a)(hne:a≠b):decide (o.Kind=b)=false:=Ct (by rw[h];exact hne)
theorem SL{a:Int}(h:o.Kind=a):decide (o.Kind=a)=true:=Cm h
theorem Aa5{x n:Int}(h:1<=n/\n<=16):Ap [x] n=some (List.replicate n.toNat x):=by
 obtain⟨h1,h2⟩:=h
 have hc:n=1\/n=2\/n=3\/n=4\/n=5\/n=6\/n=7\/n=8\/n=9\/n=10\/n=11\/n=12\/n=13\/n=14\/n=15\/n=16:=by omega
 rcases hc with rfl|rfl|rfl|rfl|rfl|rfl|rfl|rfl|rfl|rfl|rfl|rfl|rfl|rfl|rfl|rfl
 ·exact(show Ap [x] 1=some (List.replicate (Int.toNat 1) x) by kernel_rfl)
 ·exact(show Ap [x] 2=some (List.replicate (Int.toNat 2) x) by kernel_rfl)
 ·exact(show Ap [x] 3=some (List.replicate (Int.toNat 3) x) by kernel_rfl)
 ·exact(show Ap [x] 4=some (List.replicate (Int.toNat 4) x) by kernel_rfl)
 ·exact(show Ap [x] 5=some (List.replicate (Int.toNat 5) x) by kernel_rfl)
 ·exact(show Ap [x] 6=some (List.replicate (Int.toNat 6) x) by kernel_rfl)
 ·exact(show Ap [x] 7=some (List.replicate (Int.toNat 7) x) by kernel_rfl)
 ·exact(show Ap [x] 8=some (List.replicate (Int.toNat 8) x) by kernel_rfl)
 ·exact(show Ap [x] 9=some (List.replicate (Int.toNat 9) x) by kernel_rfl)
 ·exact(show Ap [x] 10=some (List.replicate (Int.toNat 10) x) by kernel_rfl)
 ·exact(show Ap [x] 11=some (List.replicate (Int.toNat 11) x) by kernel_rfl)
 ·exact(show Ap [x] 12=some (List.replicate (Int.toNat 12) x) by kernel_rfl)
 ·exact(show Ap [x] 13=some (List.replicate (Int.toNat 13) x) by kernel_rfl)
 ·exact(show Ap [x] 14=some (List.replicate (Int.toNat 14) x) by kernel_rfl)
 ·exact(show Ap [x] 15=some (List.replicate (Int.toNat 15) x) by kernel_rfl)
 ·exact(show Ap [x] 16=some (List.replicate (Int.toNat 16) x) by kernel_rfl)
theorem qB(hk:o.Kind=0)(hl:1<=o.Lanes/\o.Lanes<=16):GM o V F S B T=some (List.replicate o.Lanes.toNat o.Imm,0,F,S,T,V,B):=by
 unfold GM;rw[SL hk];unfold Pm K8;simp only[As,Aa5 hl]
 rfl
theorem md{c p q:Int}{a:Int}{l x y:List Int}(hk:o.Kind=13)(h0:Arg o 0 c)(h1:Arg o 1 p)(h2:Arg o 2 q)(s0:Slot V c (a::l))(s1:Slot V p x)(s2:Slot V q y) :
  GM o V F S B T=some (bif a==1 then x else y,0,F,S,T,V,B):=by
 unfold GM;rw[dk hk (by decide),SL hk,Af];unfold J2;have e0:=h0.g;have e1:=h1.g;have e2:=h2.g;have i0:=h0.inb;have i1:=h1.inb;have i2:=h2.inb;simp only[Int.cast_ofNat_Int]at e0 e1 e2 i0 i1 i2;rw[Aa i0,e0,KW s0]
 cases(a==1)
 ·rw[ Aa i2,e2,Aa s2.inb,s2.is];rfl
 ·rw[ Aa i1,e1,Aa s1.inb,s1.is];rfl
theorem ur{c a:Int}{l:List Int}(hk:o.Kind=14)(h0:Arg o 0 c)(s0:Slot V c (a::l))(hf:VE (w64 o.Imm))(ht:VE o.Bits)(hlt:w64 o.Imm<o.Bits)(ha:u64 a) :
  GM o V F S B T=some ([a % 2 ^ (w64 o.Imm).toNat],0,F,S,T,V,B):=by
 unfold GM;rw[dk hk (by decide),dk hk (by decide),SL hk, A1];unfold H5 CS;have e0:=h0.g;have i0:=h0.inb;simp only[Int.cast_ofNat_Int]at e0 i0;rw[Aa i0,e0,Uo s0, dc hf];simp only[    dc ht,As,Ct (show ¬ o.Bits<=w64 o.Imm by omega),YV hf ha]
 rfl
theorem qD{c a:Int}{l:List Int}(hk:o.Kind=15)(h0:Arg o 0 c)(s0:Slot V c (a::l))(hf:VE (w64 o.Imm))(ht:VE o.Bits)(hlt:o.Bits<w64 o.Imm)(ha:u64 a) :
  GM o V F S B T=some ([a % 2 ^ o.Bits.toNat],0,F,S,T,V,B):=by
 unfold GM;rw[dk hk (by decide),dk hk (by decide),dk hk (by decide),SL hk,  A1];unfold Gp Yh;have e0:=h0.g;have i0:=h0.inb;simp only[Int.cast_ofNat_Int]at e0 i0;rw[Aa i0,e0,Uo s0, dc hf];simp only[    dc ht,As,Ct (show ¬ w64 o.Imm<=o.Bits by omega),YV ht ha]
 rfl
structure RJ(B:List Int)(T:List Ac):Prop where
 by_:T5 B
 len:B.length<4611686018427387904
 room:T.length+128<=room
theorem xB{a bits n:Int}{B:List Int}{T:List Ac}:(RD a bits n B T).2.2.2=B:=by
 unfold RD;split
 ·split<;>rfl
 ·rfl
theorem WR_len{a bits:Int}{L B:List Int}{T:List Ac}:(WR a bits L B T).2.2.length=B.length:=by
 unfold WR;split
 ·exact(kx L _ B).2
 ·rfl
theorem oz{c a:Int}{l:List Int}(h0:Arg o 0 c)(s0:Slot V c (a::l))(ha:0<=a)(hm:RJ B T) :
  Fa o V F S B T=some ((RD a o.Bits o.Lanes B T).1,(RD a o.Bits o.Lanes B T).2.1,F,S,(RD a o.Bits o.Lanes B T).2.2.1,V,B):=by
 unfold Fa;have e0:=h0.g;have i0:=h0.inb;simp only[Int.cast_ofNat_Int]at e0 i0;rw[Aa i0,e0,Uo s0,As,xo ha hm.by_ hm.len hm.room,As,xB,Aa rfl]
theorem j8{c p a:Int}{l L:List Int}(h0:Arg o 0 c)(h1:Arg o 1 p)(s0:Slot V c (a::l))(s1:Slot V p L)(ha:0<=a)(hm:RJ B T) :
  Em o V F S B T=some ([],(WR a o.Bits L B T).1,F,S,(WR a o.Bits L B T).2.1,V,(WR a o.Bits L B T).2.2):=by
 unfold Em;have e0:=h0.g;have i0:=h0.inb;have e1:=h1.g;have i1:=h1.inb;simp only[Int.cast_ofNat_Int]at e0 i0 e1 i1;rw[Aa i0,e0,Uo s0,As,Aa i1,e1,Aa s1.inb,s1.is,uP ha hm.len hm.room,As,Aa WR_len.symm]
theorem FE{l:List Int}{e F' S':Int}{T':List Ac}{V':Vs}{B':List Int}(h1:V.length=V'.length)(h2:B.length=B'.length):eX V B (l,e,F',S',T',V',B')=some (l,e,F',S',T',V',B'):=by unfold eX;rw[Aa h1,Aa h2]
theorem um{c a:Int}{l:List Int}(hk:o.Kind=16)(h0:Arg o 0 c)(s0:Slot V c (a::l))(ha:0<=a)(hm:RJ B T) :
  GM o V F S B T=some ((RD a o.Bits o.Lanes B T).1,(RD a o.Bits o.Lanes B T).2.1,F,S,(RD a o.Bits o.Lanes B T).2.2.1,V,B):=by
 unfold GM;rw[dk hk (by decide),dk hk (by decide),dk hk (by decide),dk hk (by decide),SL hk,Af];simp only[A1];rw[oz h0 s0 ha hm,As,FE rfl rfl]
theorem qC{c p a:Int}{l L:List Int}(hk:o.Kind=17)(h0:Arg o 0 c)(h1:Arg o 1 p)(s0:Slot V c (a::l))(s1:Slot V p L)(ha:0<=a)(hm:RJ B T) :
  GM o V F S B T=some ([],(WR a o.Bits L B T).1,F,S,(WR a o.Bits L B T).2.1,V,(WR a o.Bits L B T).2.2):=by
 unfold GM;rw[dk hk (by decide),dk hk (by decide),dk hk (by decide),dk hk (by decide),dk hk (by decide),SL hk,Af];simp only[A1];rw[j8 h0 h1 s0 s1 ha hm,As,FE rfl WR_len.symm]
def rz(k w a b:Int):Int×Int:=(Uf k w a b).getD (0,1)
def KE(k w:Int)(A C:List Int):List Int×Int:=
 bif (List.range A.length).all (λi=>(rz k w (A.getD i 0) (C.getD i 0)).2==0) then((List.range A.length).map (λi=>(rz k w (A.getD i 0) (C.getD i 0)).1),0) else([],8)
theorem fV{f:Nat->Int}{n i:Nat}(h:i<n):((List.range i).map f++List.replicate (n-i) (0:Int)).set i (f i)=(List.range (i+1)).map f++List.replicate (n-(i+1)) 0:=by
 obtain⟨m,hm⟩:∃ m,n-i=m+1:=⟨n-i-1,by omega⟩
 have hm':n-(i+1)=m:=by omega
 rw[hm,hm',MU, Zu,GV]
 simp
theorem vt {p q : Int} {A C : List Int} {k : Int} (hk : 1 ≤ k ∧ k ≤ 12) (hw : VE o.Bits) (h0 : Arg o 0 p) (h1 : Arg o 1 q) (s0 : Slot V p A) (s1 : Slot V q C) (hl : C.length = A.length) (hr : A.length ≤ 64)
    (hA : ∀ x ∈ A, u64 x) (hC : ∀ x ∈ C, u64 x) : Ao o k V F S B T = some (KE k o.Bits A C) := by
  have e0 := h0.g; have i0 := h0.inb; have e1 := h1.g; have i1 := h1.inb; simp only [Int.cast_ofNat_Int] at e0 i0 e1 i1; unfold Ao
  have hroom : ((A.length : Int)) ≤ (room : Int) := by have : (64 : Nat) ≤ room := by decide
                                                       omega
  rw [Aa i0, e0, Aa s0.inb, Aa i1, e1, Aa s1.inb, s0.is, Aa ⟨by omega, by omega, hroom⟩]
  have hdo : ∀ i, i < A.length → ∃ v e, Uf k o.Bits (A.getD i 0) (C.getD i 0) = some (v, e) ∧ (e = 0 ∨ e = 8) := fun i hi => by
    obtain ⟨v, e, h1, _, _, h2⟩ := Aab hk hw (hA _ (Aj hi)) (hC _ (Aj (i := i) (by omega))); exact ⟨v, e, h1, by omega⟩
  have hL := Hw (F7 o k V) (fun i => ((i : Int), (List.range i).map _ ++ List.replicate (A.length - i) (0 : Int)))
    (fun i => (rz k o.Bits (A.getD i 0) (C.getD i 0)).2 == 0) (.inl ((List.range A.length).map (fun i => (rz k o.Bits (A.getD i 0) (C.getD i 0)).1))) (.inr ([], 8)) A.length
    (fun i hi hp => by
      obtain ⟨v, e, hd, he⟩ := hdo i hi
      have hD : rz k o.Bits (A.getD i 0) (C.getD i 0) = (v, e) := by unfold rz; rw [hd]; rfl
      rw [hD] at hp
      have he0 : e = 0 := by simpa using hp
      subst he0; unfold F7; simp only [e0, e1, s0.is, s1.is, Aq, K3, B4 hi, Af, Aa (Ak hi), Aa (Ak (show i < C.length by omega)), hd, As, w1 (show i < 4611686018427387904 by omega)]; rw [show ((0 : Int) != 0) = false from rfl, A1, Aa (Ak (by simp; omega))]; have := fV (f := fun i => (rz k o.Bits (A.getD i 0) (C.getD i 0)).1) hi; simp only [hD] at this
      rw [this])
    (fun i hi hp => by
      obtain ⟨v, e, hd, he⟩ := hdo i hi
      have hD : rz k o.Bits (A.getD i 0) (C.getD i 0) = (v, e) := by unfold rz; rw [hd]; rfl
      rw [hD] at hp
      have he8 : e = 8 := by
        grind
      subst he8; unfold F7; simp only [e0, e1, s0.is, s1.is, Aq, K3, B4 hi, Af, Aa (Ak hi), Aa (Ak (show i < C.length by omega)), hd, As]
      rw [show ((8 : Int) != 0) = true from rfl, Af])
    (by
      unfold F7
      simp only [e0, s0.is, Aq, K3, D7, A1, Nat.sub_self, List.replicate_zero, List.append_nil])
  have hL' : Ad _ ((0 : Int), List.replicate A.length (0 : Int)) = _ := hL; rw [Aq, hL']; unfold KE
  cases (List.range A.length).all _ <;> rfl
theorem yI{p q:Int}{A C:List Int}(hk:1<=o.Kind/\o.Kind<=12)(hw:VE o.Bits)(h0:Arg o 0 p)(h1:Arg o 1 q)(s0:Slot V p A)(s1:Slot V q C)(hl:C.length=A.length)(hr:A.length<=64)
  (hA:∀ x∈A,u64 x) (hC:∀ x∈C,u64 x):GM o V F S B T=some (Ot (KE o.Kind o.Bits A C) V F S B T):=by
 have hc:o.Kind=1\/o.Kind=2\/o.Kind=3\/o.Kind=4\/o.Kind=5\/o.Kind=6\/o.Kind=7\/o.Kind=8\/o.Kind=9\/o.Kind=10\/o.Kind=11\/o.Kind=12:=by omega
 have key:=λk (hk:1<=k/\k<=12)=>vt (F:=F) (S:=S) (B:=B) (T:=T) hk hw h0 h1 s0 s1 hl hr hA hC;unfold GM;rcases hc with h|h|h|h|h|h|h|h|h|h|h|h<;>rw[h] <;>
  simp only[Int.reduceEq,decide_false, A1]<;>rw[key _ (by decide)]<;>rfl
end
theorem pc{b:List Int}(h:b.length<=4096):Sc b=some ((true,⟨b,[]⟩),0):=by
 unfold Sc Cz;rw[Ct (by omega), Ab (by rw[Y2];omega)]
 rfl
theorem uO{B:List Int}{T:List Ac}(h:B.length<=room):Mr B T=some (B,T,B):=by
 unfold Mr Cz;rw[Ab h];rfl
theorem kN{B:List Int}{T:List Ac}(h:T.length<=room):Mt B T=some (T,T,B):=by
 unfold Mt Dn;rw[Ab (by simpa using h)];rfl
theorem eQ{l:List Int}(h:l.length<4611686018427387904):Ks l l=some true:=by
 unfold Ks;rw[show((l.length)!=(l.length:Int))=false by simp]
 have:Ad (It l l) 0=some _:=Df _ (λi =>(i:Int)) _ _ (λi hi=>by
  unfold It
  rw[B4 hi,Af,Ab (inb hi),Ab (inb hi),show((l.getD _ 0)!=l.getD _ 0)=false by simp,A1,w1 (by omega)]) (by
  unfold It
  rw[D7,A1])
 rw[this];rfl
theorem TD{l:List Ac}(h:l.length<4611686018427387904):I6 l l=some true:=by
 unfold I6;rw[show((l.length)!=(l.length:Int))=false by simp]
 have:Ad (G3 l l) 0=some _:=Df _ (λi =>(i:Int)) _ _ (λi hi=>by
  unfold G3;rw[B4 hi,Af,Ab (inb hi),Ab (inb hi)];simp only[R3,MZ,Dw,A1]
  rw[w1 (by omega)]) (by
  unfold G3
  rw[D7,A1])
 rw[this];rfl
section
variable {o:C5} {V:Vs} {F S:Int} {B:List Int} {T:List Ac}
def OT(o:C5):C5:=⟨o.Kind,o.Bits,o.Lanes,o.Dst,o.Args.drop 1,o.Imm⟩
theorem Arg.tail{i:Nat}{v:Int}(h:Arg o (i+1) v):Arg (OT o) i v:=by
 obtain⟨h1,h2⟩:=h;refine⟨by simp[OT];omega,?_⟩;rw[<- h2];simp[OT]
theorem bu{n:Nat}(h:0<n)(hn:n<4611686018427387904):w64 ((n:Int)-1)=((n-1:Nat):Int):=by rw[Hg (by omega) (by omega)];omega
theorem fF{g d c a q:Int}{l l' x:List Int}(hk:o.Kind=18)(hn:o.Args.length=3)(h0:Arg o 0 g)(h1:Arg o 1 c)(h2:Arg o 2 d)(s0:Slot V g (q::l'))(s1:Slot V c (a::l))(s2:Slot V d x)(ha:0<=a)(hm:RJ B T) :
  GM o V F S B T=some (bif q==1 then((RD a o.Bits o.Lanes B T).1,(RD a o.Bits o.Lanes B T).2.1,F,S,(RD a o.Bits o.Lanes B T).2.2.1,V,B) else(x,0,F,S,T,V,B)):=by
 unfold GM;rw[dk hk (by decide),dk hk (by decide),dk hk (by decide),dk hk (by decide),dk hk (by decide),dk hk (by decide),SL hk,Af];simp only[A1];unfold H4;have e0:=h0.g;have i0:=h0.inb;have e2:=h2.g;have i2:=h2.inb;simp only[Int.cast_ofNat_Int]at e0 i0;rw[Aa i0,e0,KW s0,As]
 cases(q==1)
 ·rw[K4,Af,bu (by omega) (by omega),hn,show((3-1:Nat):Int)=((2:Nat):Int) from rfl,e2,<- hn,Aa i2,Aa s2.inb,s2.is,As,FE rfl rfl];rfl
 ·rw[Dw,A1,Aa (by omega)]
  show((Fa (OT o) V F S B T).bind λx6=>Aw (V.length=x6.2.2.2.2.2.1.length) (Aw (B.length=x6.2.2.2.2.2.2.length) (some x6))).bind (eX V B)=_
  rw[oz h1.tail s1 ha hm,As,Aa rfl,Aa rfl,As,FE rfl rfl];rfl
theorem aa{g c p a q:Int}{l l' L:List Int}(hk:o.Kind=19)(hn:o.Args.length=3)(h0:Arg o 0 g)(h1:Arg o 1 c)(h2:Arg o 2 p)(s0:Slot V g (q::l'))(s1:Slot V c (a::l))(s2:Slot V p L)(ha:0<=a)(hm:RJ B T) :
  GM o V F S B T=some (bif q==1 then([],(WR a o.Bits L B T).1,F,S,(WR a o.Bits L B T).2.1,V,(WR a o.Bits L B T).2.2) else(L,0,F,S,T,V,B)):=by
 unfold GM;rw[dk hk (by decide),dk hk (by decide),dk hk (by decide),dk hk (by decide),dk hk (by decide),dk hk (by decide),dk hk (by decide),SL hk,Af];simp only[A1];unfold Gm;have e0:=h0.g;have i0:=h0.inb;have e2:=h2.g;have i2:=h2.inb;simp only[Int.cast_ofNat_Int]at e0 i0;rw[Aa i0,e0,KW s0,As]
 cases(q==1)
 ·rw[K4,Af,bu (by omega) (by omega),hn,show((3-1:Nat):Int)=((2:Nat):Int) from rfl,e2,<- hn,Aa i2,Aa s2.inb,s2.is,As,FE rfl rfl];rfl
 ·rw[Dw,A1,Aa (by omega)]
  show((Em (OT o) V F S B T).bind λx6=>Aw (V.length=x6.2.2.2.2.2.1.length) (Aw (B.length=x6.2.2.2.2.2.2.length) (some x6))).bind (eX V B)=_
  rw[j8 h1.tail h2.tail s1 s2 ha hm,As,Aa rfl,Aa (show B.length=(WR a (OT o).Bits L B T).2.2.length from WR_len.symm),As,FE rfl WR_len.symm];rfl
theorem uo{g p r d q:Int}{l' A C x:List Int}(hk:o.Kind=20)(hn:o.Args.length=4)(hw:VE o.Bits)(h0:Arg o 0 g)(h1:Arg o 1 p)(h2:Arg o 2 r)(h3:Arg o 3 d)(s0:Slot V g (q::l'))(s1:Slot V p A)(s2:Slot V r C)(s3:Slot V d x)
  (hl:C.length=A.length) (hr:A.length<=64) (hA:∀ x∈A,u64 x) (hC:∀ x∈C,u64 x) :
  GM o V F S B T=some (Ot (bif q==1 then KE 4 o.Bits A C else(x,0)) V F S B T):=by
 unfold GM;rw[dk hk (by decide),dk hk (by decide),dk hk (by decide),dk hk (by decide),dk hk (by decide),dk hk (by decide),dk hk (by decide),dk hk (by decide),SL hk,Af];simp only[A1];unfold Gn;have e0:=h0.g;have i0:=h0.inb;have e3:=h3.g;have i3:=h3.inb;simp only[Int.cast_ofNat_Int]at e0 i0;rw[Aa i0,e0,KW s0,As]
 cases(q==1)
 ·rw[K4,Af,bu (by omega) (by omega),hn,show((4-1:Nat):Int)=((3:Nat):Int) from rfl,e3,<- hn,Aa i3,Aa s3.inb,s3.is];rfl
 ·rw[Dw,A1,Aa (by omega)]
  show((Ao (OT o) 4 V F S B T).bind λx6=>some (x6.1,x6.2)).bind (λx=>some (Ot x V F S B T))=_
  rw[vt (o:=OT o) (k:=4) (by decide) hw h1.tail h2.tail s1 s2 hl hr hA hC];rfl
theorem yG{c:Int}{A:List Int}(hk:o.Kind=22)(h0:Arg o 0 c)(s0:Slot V c A)(hi:0<=o.Imm/\o.Imm<A.length):GM o V F S B T=some ([A.getD o.Imm.toNat 0],0,F,S,T,V,B):=by
 unfold GM;rw[dk hk (by decide),dk hk (by decide),dk hk (by decide),dk hk (by decide),dk hk (by decide),dk hk (by decide),dk hk (by decide),dk hk (by decide),dk hk (by decide),dk hk (by decide),SL hk];unfold Md;have e0:=h0.g;have i0:=h0.inb;simp only[Int.cast_ofNat_Int]at e0 i0;rw[Aa i0,e0,Aa s0.inb,s0.is,Aa (show A0 _ _ from hi)];rfl
theorem un {g : Nat → Int} (hk : o.Kind = 21) (hs : ∀ i, i < o.Args.length → ∃ l, Slot V (o.Args.getD i 0) (g i :: l)) (hr : o.Args.length ≤ 64) : GM o V F S B T = some ((List.range o.Args.length).map g, 0, F, S, T, V, B) := by
  unfold GM; rw [dk hk (by decide), dk hk (by decide), dk hk (by decide), dk hk (by decide), dk hk (by decide), dk hk (by decide), dk hk (by decide), dk hk (by decide), dk hk (by decide), SL hk]; unfold Lm
  have hroom : ((o.Args.length : Int)) ≤ (room : Int) := by have : 64 ≤ room := by decide
                                                            omega
  have hL := Df (Jg o V F S B T) (fun i => (i, (List.range i).map g ++ List.replicate (o.Args.length - i) 0)) ((List.range o.Args.length).map g) _
    (fun i hi => by
      obtain ⟨l, hs⟩ := hs i hi; unfold Jg; simp only [B4 hi, Af, Aa (Ak hi), Aq, Uo hs, As, w1 (show i < 4611686018427387904 by omega)]
      rw [Aa (Ak (by simp; omega)), fV hi])
    (by
      unfold Jg
      simp only [D7, A1, Nat.sub_self, List.replicate_zero, List.append_nil])
  have hL' : Ad _ ((0 : Int), List.replicate o.Args.length _) = _ := hL; rw [Aa ⟨by omega, by omega, hroom⟩, Aq, hL']; rfl
end
theorem tn(V:Vs)(F S:Int)(B:List Int)(T:List Ac):Ls V F S B T=some ():=by kernel_rfl
def CG(ps ags:List Int)(i:Nat):List Int:=[ags.getD i 0 % 2 ^ (ps.getD i 0).toNat]
def Qo(f:TFunc)(ags:List Int)(n:Nat):Vs:=
 ((f.Blocks.getD 0 default).Phis).foldl (λV p=>V.set p.Dst.toNat [0]) ([]::((List.range f.Params.length).map (CG f.Params ags)++List.replicate (n-f.Params.length) []))
theorem vF{g:Nat->List Int}{n i:Nat}(h:i<n):(([]:List Int)::((List.range i).map g++List.replicate (n-i) [])).set (i+1) (g i)=[]::((List.range (i+1)).map g++List.replicate (n-(i+1)) []):=by
 obtain⟨m,hm⟩:∃ m,n-i=m+1:=⟨n-i-1,by omega⟩
 have hm':n-(i+1)=m:=by omega
 rw[hm,hm',MU,  Zu,GV]
 simp
theorem XL{l:List Ff}{V:Vs}:(l.foldl (λV p=>V.set p.Dst.toNat [0]) V).length=V.length:=by
 induction l generalizing V with
 | nil=>rfl
 | cons p l ih=>grind
theorem SB{f:TFunc}(hn:((f.Blocks.getD 0 default).Phis).length<4611686018427387904):∀(k i:Nat) (V:Vs),i+k=((f.Blocks.getD 0 default).Phis).length->(∀ p∈(f.Blocks.getD 0 default).Phis,A0 p.Dst V.length)->
  Ad (Lt f) ((i:Int),V)=some ((((f.Blocks.getD 0 default).Phis).drop i).foldl (λV p=>V.set p.Dst.toNat [0]) V)
 | 0,i,V,h,_=>by
  obtain rfl:i=((f.Blocks.getD 0 _).Phis).length:=by omega
  rw[List.drop_length];refine An ?_
  show(bif decide _ then _ else _)=_
  rw[show((0:Int)).toNat=0 from rfl,D7];rfl
 | k+1,i,V,h,hp=>by
  have hi:i<((f.Blocks.getD 0 default).Phis).length:=by omega
  have hd:((f.Blocks.getD 0 default).Phis).drop i=((f.Blocks.getD 0 default).Phis).getD i default::((f.Blocks.getD 0 default).Phis).drop (i+1):=by simp_all
  rw[hd,EK,<- SB hn k _ _ (by omega) (λp hpp=>by grind)];refine Au ?_;unfold Lt;simp only[show((0:Int)).toNat=0 from rfl,B4 hi,Af,Aa (Ak hi),Aq,K8,As,Aa (hp _ (Aj hi)),w1 (show i<4611686018427387904 by omega)]
theorem tj{f:TFunc}{ags:List Int}{n:Nat}(F S:Int)(B:List Int)(T:List Ac)(hl:ags.length=f.Params.length)(hw:∀ w∈f.Params,VE w)(ha:∀ a∈ags,u64 a)(hn:f.Params.length<=n)(hn':n<4000000)(hb:0<f.Blocks.length)
  (hpl:((f.Blocks.getD 0 default).Phis).length<4611686018427387904) (hp:∀ p∈(f.Blocks.getD 0 default).Phis,A0 p.Dst (n+1)) :
  Kq f ags (List.replicate (n+1) []) F S B T=some (F,S,T,Qo f ags n,B):=by
 have hL:=Df (F5 f ags) (λi=>((i:Int),([]:List Int)::((List.range i).map (CG f.Params ags)++List.replicate (n-i) _))) ([]::((List.range f.Params.length).map (CG f.Params ags)++List.replicate (n-f.Params.length) [])) f.Params.length
  (λi hi=>by
   unfold F5;simp only[B4 hi,Af,Aa (Ak hi),Aa (Ak (show i<ags.length by omega)),Aq,YV (hw _ (Aj hi)) (ha _ (Aj (show i<ags.length by omega))),K8,As,w1 (show i<4611686018427387904 by omega)];rw[Aa (Ak (by simp;omega))];have:=vF (g:=CG f.Params ags) (show i<n by omega);unfold CG at this ⊢
   rw[this])
  (by
   unfold F5
   simp only[D7,A1])
 have hL':Ad (F5 f ags) ((0:Int),List.replicate (n+1) [])=some ([]::((List.range f.Params.length).map (CG f.Params ags)++List.replicate (n-f.Params.length) [])):=by grind
 unfold Kq;rw[hL',As,Aa (⟨Int.le_refl _,by omega⟩)]
 have h2:=SB hpl ((f.Blocks.getD 0 default).Phis).length 0 ([]::((List.range f.Params.length).map (CG f.Params ags)++List.replicate (n-f.Params.length) [])) (by omega) (λp hpp=>by
  grind)
 have h2':Ad _ ((0:Int),[]::((List.range _).map _++List.replicate _ []))=some _:=h2;rw[h2'];rfl
def Aa1(V:Vs)(B:List Int)(x:RR):Option (PR×Int×List Ac×List Int):=Aw (V.length=x.2.2.2.2.1.length) (Aw (B.length=x.2.2.2.2.2.length) (some (x.1,0,x.2.2.2.1,x.2.2.2.2.2)))
theorem SA{f:TFunc}{ags:List Int}{n:Nat}(hn:f.Params.length<=n):(Qo f ags n).length=n+1:=by
 unfold Qo;rw[XL]
 simp
 omega
theorem Aac {f : TFunc} {ags : List Int} {n : Nat} {F : Int} {B : List Int} {T : List Ac} (hF : 0 ≤ F) (hc : O6 f 2 = some 0) (hlast : Qr f = some (n : Int)) (hl : ags.length = f.Params.length) (hw : ∀ w ∈ f.Params, VE w) (ha : ∀ a ∈ ags, u64 a) (hn : f.Params.length ≤ n) (hn' : n < 4000000)
    (hb : 0 < f.Blocks.length) (hpl : ((f.Blocks.getD 0 default).Phis).length < 4611686018427387904) (hp : ∀ p ∈ (f.Blocks.getD 0 default).Phis, A0 p.Dst (n + 1)) :
    Mc f ags F B T = (Ad (Bn f.Blocks) (0, F, 0, T, Qo f ags n, B)).bind (Aa1 (Qo f ags n) B) := by
  have hroom : (((n + 1 : Nat) : Int)) ≤ (room : Int) := by have : 4000001 ≤ room := by decide
                                                            omega
  have e1 : (decide (F < 0)) = false := Ct (by omega)
  have e2 : (ags.length != (f.Params.length : Int)) = false := by rw [hl]; simp
  unfold Mc; rw [e1, A1, e2, show (false == false) = true from rfl, Af, hc, As,  show ((0 : Int) != 0) = false from rfl,  hlast, As, w1 (show n < 4611686018427387904 by omega), Aa ⟨by omega, by omega, hroom⟩, Aq, tn, As, tj F 0 B T hl hw ha hn hn' hb hpl hp, As]; rw [Aa (show (List.replicate _ _).length = (Qo f ags n).length by rw [SA hn, K3]), Aa rfl]; rw [yP]
  rfl
theorem kB{V:Vs}{F S:Int}{B:List Int}{T:List Ac}:f4 [] V F S B T=some (0,F,S,T,V,B):=rfl
theorem xh{o:C5}{l:List C5}{V V':Vs}{F S:Int}{B B':List Int}{T T':List Ac}{L:List Int}(hs:S≠F)(ho:GM o V F (w64 (S+1)) B T=some (L,0,F,w64 (S+1),T',V',B'))(hd:A0 o.Dst V'.length) :
  f4 (o::l) V F S B T=f4 l (V'.set o.Dst.toNat L) F (w64 (S+1)) B' T':=by
 rw[f4,show(S==F)=false by simpa using hs,A1,ho,As];rw[show((0:Int)!=0)=false from rfl,A1,Aa hd]
theorem t7{o:C5}{l:List C5}{V V':Vs}{F S e:Int}{B B':List Int}{T T':List Ac}{L:List Int}(hs:S≠F)(ho:GM o V F (w64 (S+1)) B T=some (L,e,F,w64 (S+1),T',V',B'))(he:e≠0) :
  f4 (o::l) V F S B T=some (e,F,w64 (S+1),T',V',B'):=by
 rw[f4,show(S==F)=false by simpa using hs,A1,ho,As];rw[show(e !=0)=true by simpa using he,Af]
theorem t8{o:C5}{l:List C5}{V:Vs}{F:Int}{B:List Int}{T:List Ac}:f4 (o::l) V F F B T=some (9,F,F,T,V,B):=by
 rw[f4,show(F==F)=true by simp,Af]
theorem kv{b:Int}(h:widthB b=true):VE b:=width_cases h
def Has(V:Vs)(v n:Int):Prop:=∃ l:List Int,Slot V v l/\(l.length:Int)=n/\∀ x∈l,u64 x
theorem Has.one{V:Vs}{v:Int}(h:Has V v 1):∃ a,Slot V v [a]/\u64 a:=by
 obtain⟨l,h1,h2,h3⟩:=h;rcases l with _|⟨a,_|⟨b,l⟩⟩
 ·cases h2
 ·grind
 ·grind
theorem Has.set{V:Vs}{v n d:Int}{L:List Int}(h:Has V v n)(hd:0<=d)(hne:v≠d):Has (V.set d.toNat L) v n:=by
 obtain⟨l,⟨h1,h2,h3⟩,h4⟩:=h;refine⟨l,⟨h1,by grind,?_⟩,h4⟩;rw[<- h3];simp only[KI];rw[List.getElem?_set_ne (by omega)]
theorem Has.new{V:Vs}{n d:Int}{L:List Int}(hd:A0 d V.length)(hl:(L.length:Int)=n)(hu:∀ x∈L,u64 x):Has (V.set d.toNat L) d n:=by
 have h1:=hd.1;have h2:=hd.2;refine⟨L,⟨h1,by grind,?_⟩,hl,hu⟩;simp only[KI];rw[List.getElem?_set_self (by omega)]
 rfl
theorem jC{w:Bool}{x:Ac}:∀{l:List Int} {a:Nat},x∈f8 w a l->(a:Int)<=x.At/\x.At<(a:Int)+l.length
 | [],a,h=>by cases h
 | b::l,a,h=>by
  rcases zzL28.1 h with rfl|h
  ·grind
  ·have:=jC h;simp only[GU];omega
theorem il{B:List Int}{s:Nat}{x:Ac}:∀{n cur:Nat},x∈(KP B s n cur).2.2->0<=x.At/\x.At<B.length
 | 0,cur,h=>by cases h
 | n+1,cur,h=>by
  unfold KP at h
  split at h
  ·rename_i hc
   rcases zzL15.1 h with h1|h1
   ·have:=jC h1;rw[KD hc]at this;omega
   ·exact il h1
  ·cases h
theorem fM{B:List Int}{s:Nat}(hB:T5 B):∀{n cur:Nat},(KP B s n cur).2.1=true->(KP B s n cur).1.length=n/\∀ x∈(KP B s n cur).1,0<=x/\x<256 ^ s
 | 0,cur,h=>⟨rfl,by intro x hx;cases hx⟩
 | n+1,cur,h=>by
  unfold KP at h ⊢
  split at h
  ·rename_i hc
   rw[if_pos hc];obtain⟨h1,h2⟩:=fM hB   h;refine⟨by simp[h1],λx hx=>?_⟩;rcases zzL28.1 hx with rfl|hx
   ·have:=mX (vM (a:=cur) (s:=s) hB);rwa[KD hc]at this
   ·exact h2 x hx
  ·cases h
theorem qu{s:Nat}{x:Ac}:∀{l:List Int} {cur:Nat} {B:List Int},x∈(MO s l cur B).2.1->0<=x.At/\x.At<B.length
 | [],cur,B,h=>by cases h
 | v::l,cur,B,h=>by
  unfold MO at h
  split at h
  ·rcases zzL15.1 h with h1|h1
   ·have:=jC h1;rw[be]at this;omega
   ·have:=qu h1;rwa[JV]at this
  ·cases h
theorem Aa2{s:Nat}(h:s<=8):(256:Int) ^ s<=18446744073709551616:=by
 have hc:s=0\/s=1\/s=2\/s=3\/s=4\/s=5\/s=6\/s=7\/s=8:=by omega
 rcases hc with rfl|rfl|rfl|rfl|rfl|rfl|rfl|rfl|rfl<;>decide
structure OpD(o:C5)(V:Vs)(B:List Int)(L:List Int)(e:Int)(t:List Ac)(B':List Int):Prop where
 is:∀(F S:Int) (T:List Ac),T.length+128<=room->GM o V F S B T=some (L,e,F,S,T++t,V,B')
 code:e=0\/e=8
 by_:T5 B'
 len:B'.length=B.length
 tl:t.length<=128
 tin:∀ x∈t,0<=x.At/\x.At<B.length
 shape:e=0->o.Kind≠17->o.Kind≠19->(L.length:Int)=(R6 o.Kind o.Bits o.Lanes).2/\∀ x∈L,u64 x
theorem OpD.pure_{o:C5}{V:Vs}{B L:List Int}(hB:T5 B)(h:∀(F S:Int) (T:List Ac),GM o V F S B T=some (L,0,F,S,T,V,B))(hs:o.Kind≠17->o.Kind≠19->(L.length:Int)=(R6 o.Kind o.Bits o.Lanes).2/\∀ x∈L,u64 x):OpD o V B L 0 [] B:=
 ⟨λF S T _=>by rw[h,List.append_nil],.inl rfl,hB,rfl,L3 _,(by intro x hx;cases hx),λ_=>hs⟩
theorem kr{k w:Int}{A C:List Int}(hk:1<=k/\k<=12)(hw:VE w)(hl:C.length=A.length)(hA:∀ x∈A,u64 x)(hC:∀ x∈C,u64 x) :
  ((KE k w A C).2=0\/(KE k w A C).2=8)/\((KE k w A C).2=0->(KE k w A C).1.length=A.length/\∀ x∈(KE k w A C).1,u64 x):=by
 unfold KE
 cases(List.range _).all _ with
 | false=>grind
 | true=>
  refine⟨.inl rfl,λ_=>⟨by simp,λx hx=>?_⟩⟩;obtain⟨i,hi,rfl⟩:=zzL27.1 hx;have hi:=zzL37.1 hi;obtain⟨v,e,h1,h2,h3,_⟩:=Aab hk hw (hA _ (Aj  hi)) (hC _ (Aj  (i:=i) (by omega)));unfold rz;rw[h1];exact ML hw h2 h3
section
variable {o:C5} {V:Vs} {B:List Int} (hB:T5 B) (hBl:B.length<4611686018427387904)
include hB hBl
theorem eJ{a:Int}(hb:cx o.Bits=true)(hn:1<=o.Lanes/\o.Lanes<=16):∃ L e t,(∀ T:List Ac,RD a o.Bits o.Lanes B T=(L,e,T++t,B))/\(e=0\/e=8)/\t.length<=128/\(∀ x∈t,0<=x.At/\x.At<B.length)/\(e=0->(L.length:Int)=o.Lanes/\∀ x∈L,u64 x):=by
 have hm:LI o.Bits o.Lanes=true:=by
  unfold LI;rw[hb,Cm (show 0<=o.Lanes by omega),Cm hn.2];rfl
 obtain⟨s,h1,h2,h3,_⟩:=qr hb
 have hs:(o.Bits / 8).toNat=s:=by rw[h1];exact Aq s
 have hlen:=u5 (B:=B) (s:=s) o.Lanes.toNat a.toNat;have hle:o.Lanes.toNat*s<=16*8:=Nat.mul_le_mul (by omega) h3
 cases hr:(KP B s o.Lanes.toNat _).2.1 with
 | true=>
  obtain⟨g1,g2⟩:=fM hB hr;refine⟨(KP B s _ _).1,0,(KP B s o.Lanes.toNat a.toNat).2.2,λT=>?_,.inl rfl,by omega,λx hx=>il hx,λ_=>⟨by rw[g1];omega,λx hx=>?_⟩⟩
  ·unfold RD;rw[if_pos hm,hs,if_pos hr]
  ·have:=g2 x hx;have:=Aa2 h3;exact⟨by omega,by omega⟩
 | false=>
  refine⟨[],8,(KP B s o.Lanes.toNat a.toNat).2.2,λT=>?_,.inr rfl,by omega,λx hx=>il hx,λh=>by cases h⟩;unfold RD;rw[if_pos hm,hs,if_neg (by rw[hr];simp)]
theorem aw{a:Int}{L:List Int}(hb:cx o.Bits=true)(hn:L.length<=16):∃ e t B',(∀ T:List Ac,WR a o.Bits L B T=(e,T++t,B'))/\(e=0\/e=8)/\T5 B'/\B'.length=B.length/\t.length<=128/\(∀ x∈t,0<=x.At/\x.At<B.length):=by
 have hm:LI o.Bits L.length=true:=by
  unfold LI;rw[hb, Cm (show(L.length:Int)<=16 by omega)];rfl
 obtain⟨s,h1,h2,h3,_⟩:=qr hb
 have hs:(o.Bits / 8).toNat=s:=by rw[h1];exact Aq s
 obtain⟨g1,g2⟩:=kx  L _ B;have hle :=Nat.mul_le_mul hn h3;refine⟨if(MO s L a.toNat B).1=true then 0 else 8,(MO s L a.toNat B).2.1,(MO s L a.toNat B).2.2,λT=>?_,?_,yT L _ hB,g2,by omega,λx hx=>qu hx⟩
 ·unfold WR;rw[if_pos hm,hs]
 ·omega
theorem yH(hm:Js o=true)(hi:u64 o.Imm)(ha:∀ j:Nat,j<o.Args.length->Has V (o.Args.getD j 0) (Dt o j).2):∃ L e t B',OpD o V B L e t B':=by
 obtain⟨hs,hk,hf,hif,hn,_,_⟩:=Vv hm;have hk2:=xm hk;have hw:=kv (Qc hs);have hln:=Qb hs
 have hl16:1<=o.Lanes/\o.Lanes<=16:=by omega
 have arg:∀ j:Nat,j<o.Args.length->Arg o j (o.Args.getD j 0):=λj hj=>⟨hj,rfl⟩
 have wdb:∀{b:Int},widthB b=true->8<=b->cx b=true:=λ{b} h1 h2=>by
  rcases width_cases h1 with rfl|rfl|rfl|rfl|rfl
  ·omega
  all_goals rfl
 have hwb:=Qc hs;have mo:∀ T:List Ac,T.length+128<=room->RJ B T:=λT hT=>⟨hB,hBl,hT⟩
 by_cases k0:o.Kind=0
 ·refine⟨_,_,_,_,.pure_ hB (λF S T=>qB k0 hl16) λ_ _=>⟨?_,λx hx=>?_⟩⟩
  ·rw[k0,K3];show((o.Lanes.toNat:Nat):Int)=o.Lanes;omega
  ·rw[List.eq_of_mem_replicate hx];exact hi
 by_cases k12:o.Kind<=12
 ·have hk':1<=o.Kind/\o.Kind<=12:=by omega
  have hnn:L1 o.Kind o.Lanes=2:=by
   have hc:o.Kind=1\/o.Kind=2\/o.Kind=3\/o.Kind=4\/o.Kind=5\/o.Kind=6\/o.Kind=7\/o.Kind=8\/o.Kind=9\/o.Kind=10\/o.Kind=11\/o.Kind=12:=by omega
   rcases hc with e|e|e|e|e|e|e|e|e|e|e|e<;>rw[e]<;>rfl
  have he:∀ j,(Dt o j).2=o.Lanes:=λj=>by
   unfold Dt
   have hc:o.Kind=1\/o.Kind=2\/o.Kind=3\/o.Kind=4\/o.Kind=5\/o.Kind=6\/o.Kind=7\/o.Kind=8\/o.Kind=9\/o.Kind=10\/o.Kind=11\/o.Kind=12:=by omega
   rcases hc with e|e|e|e|e|e|e|e|e|e|e|e<;>rw[e]<;>rfl
  have h0:=ha 0 (by omega);have h1:=ha 1 (by omega);rw[he]at h0 h1;obtain⟨A,s0,lA,uA⟩:=h0;obtain⟨C,s1,lC,uC⟩:=h1
  have hl:C.length=A.length:=by omega
  obtain⟨g1,g2⟩:=kr hk' hw hl uA uC;refine⟨(KE o.Kind o.Bits A C).1,(KE o.Kind o.Bits A C).2,[],B,⟨λF S T _=>?_,g1,hB,rfl,L3 _,(by intro x hx;cases hx),λh _ _=>?_⟩⟩
  ·rw[yI hk' hw (arg 0 (by omega)) (arg 1 (by omega)) s0 s1 hl (by omega) uA uC,List.append_nil];rfl
  ·obtain⟨g3,g4⟩:=g2 h;refine⟨?_,g4⟩;rw[g3,lA]
   have hc:o.Kind=1\/o.Kind=2\/o.Kind=3\/o.Kind=4\/o.Kind=5\/o.Kind=6\/o.Kind=7\/o.Kind=8\/o.Kind=9\/o.Kind=10\/o.Kind=11\/o.Kind=12:=by omega
   rcases hc with e|e|e|e|e|e|e|e|e|e|e|e<;>rw[e]at hf ⊢<;>first|rfl|(exact(by simpa [sfitS] using hf:o.Lanes=1))
 by_cases k13:o.Kind=13
 ·have hnn:L1 o.Kind o.Lanes=3:=by rw[k13];rfl
  have h0:=ha 0 (by omega);have h1:=ha 1 (by omega);have h2:=ha 2 (by omega);rw[show(Dt o 0).2=1 by unfold Dt;rw[k13];rfl]at h0;rw[show(Dt o 1).2=o.Lanes by unfold Dt;rw[k13];rfl]at h1;rw[show(Dt o 2).2=o.Lanes by unfold Dt;rw[k13];rfl]at h2;obtain⟨c,s0,uc⟩:=h0.one;obtain⟨x,s1,lx,ux⟩:=h1;obtain⟨y,s2,ly,uy⟩:=h2;refine⟨_,_,_,_,.pure_ hB (λF S T=>md k13 (arg 0 (by omega)) (arg 1 (by omega)) (arg 2 (by omega)) s0 s1 s2) λ_ _=>?_⟩;rw[k13]
  show(((bif c==1 then x else y).length:Nat):Int)=o.Lanes/\_
  cases(c==1)
  ·exact⟨ly,uy⟩
  ·exact⟨lx,ux⟩
 by_cases k14:o.Kind=14
 ·have hnn:L1 o.Kind o.Lanes=1:=by rw[k14];rfl
  have h0:=ha 0 (by omega);rw[show(Dt o 0).2=1 by unfold Dt;rw[k14];rfl]at h0;obtain⟨c,s0,uc⟩:=h0.one
  have hi2:widthB o.Imm=true/\o.Imm<o.Bits:=by
   rw[k14]at hif;have:(widthB o.Imm&&decide (o.Imm<o.Bits))=true:=hif
   simpa using this
  have hw64:w64 o.Imm=o.Imm:=by rcases width_cases hi2.1 with e|e|e|e|e<;>rw[e]<;>rfl
  have hL1:o.Lanes=1:=by rw[k14]at hf;simpa [sfitS] using hf
  have hwi:VE (w64 o.Imm):=by rw[hw64];exact kv hi2.1
  refine⟨_,_,_,_,.pure_ hB (λF S T=>ur k14 (arg 0 (by omega)) s0 hwi hw (by rw[hw64];exact hi2.2) uc) λ_ _=>⟨?_,λx hx=>?_⟩⟩
  ·rw[k14];show((1:Nat):Int)=o.Lanes;omega
  ·obtain rfl:x=_:=by simpa using hx
   exact ML hwi (Ub hwi c).1 (Ub hwi c).2
 by_cases k15:o.Kind=15
 ·have hnn:L1 o.Kind o.Lanes=1:=by rw[k15];rfl
  have h0:=ha 0 (by omega);rw[show(Dt o 0).2=1 by unfold Dt;rw[k15];rfl]at h0;obtain⟨c,s0,uc⟩:=h0.one
  have hi2:widthB o.Imm=true/\o.Bits<o.Imm:=by
   rw[k15]at hif;have:(widthB o.Imm&&decide (o.Bits<o.Imm))=true:=hif
   simpa using this
  have hw64:w64 o.Imm=o.Imm:=by rcases width_cases hi2.1 with e|e|e|e|e<;>rw[e]<;>rfl
  have hL1:o.Lanes=1:=by rw[k15]at hf;simpa [sfitS] using hf
  have hwi:VE (w64 o.Imm):=by rw[hw64];exact kv hi2.1
  refine⟨_,_,_,_,.pure_ hB (λF S T=>qD k15 (arg 0 (by omega)) s0 hwi hw (by rw[hw64];exact hi2.2) uc) λ_ _=>⟨?_,λx hx=>?_⟩⟩
  ·rw[k15];show((1:Nat):Int)=o.Lanes;omega
  ·obtain rfl:x=_:=by simpa using hx
   exact ML hw (Ub hw c).1 (Ub hw c).2
 by_cases k16:o.Kind=16
 ·have hnn:L1 o.Kind o.Lanes=1:=by rw[k16];rfl
  have h0:=ha 0 (by omega);rw[show(Dt o 0).2=1 by unfold Dt;rw[k16];rfl]at h0;obtain⟨c,s0,uc⟩:=h0.one;have hb:cx o.Bits=true:=wdb hwb (by rw[k16]at hf;simpa [sfitS] using hf);obtain⟨L,e,t,g1,g2,g3,g4,g5⟩:=eJ hB hBl (o:=o) (a:=c) hb hl16;refine⟨L,e,t,B,⟨λF S T hT=>?_,g2,hB,rfl,g3,g4,λh _ _=>?_⟩⟩
  ·rw[um k16 (arg 0 (by omega)) s0 uc.1 (mo T hT),g1]
  ·rw[k16];exact g5 h
 by_cases k17:o.Kind=17
 ·have hnn:L1 o.Kind o.Lanes=2:=by rw[k17];rfl
  have h0:=ha 0 (by omega);have h1:=ha 1 (by omega);rw[show(Dt o 0).2=1 by unfold Dt;rw[k17];rfl]at h0;rw[show(Dt o 1).2=o.Lanes by unfold Dt;rw[k17];rfl]at h1;obtain⟨c,s0,uc⟩:=h0.one;obtain⟨x,s1,lx,ux⟩:=h1;have hb:cx o.Bits=true:=wdb hwb (by rw[k17]at hf;simpa [sfitS] using hf);obtain⟨e,t,B',g1,g2,g3,g4,g5,g6⟩:=aw hB hBl (o:=o) (a:=c) (L:=x) hb (by omega);refine⟨[],e,t,B',⟨λF S T hT=>?_,g2,g3,g4,g5,g6,λ_ h=>absurd k17 h⟩⟩;rw[qC k17 (arg 0 (by omega)) (arg 1 (by omega)) s0 s1 uc.1 (mo T hT),g1]
 by_cases k18:o.Kind=18
 ·have hnn:L1 o.Kind o.Lanes=3:=by rw[k18];rfl
  have h0:=ha 0 (by omega);have h1:=ha 1 (by omega);have h2:=ha 2 (by omega);rw[show(Dt o 0).2=1 by unfold Dt;rw[k18];rfl]at h0;rw[show(Dt o 1).2=1 by unfold Dt;rw[k18];rfl]at h1;rw[show(Dt o 2).2=o.Lanes by unfold Dt;rw[k18];rfl]at h2;obtain⟨q,s0,uq⟩:=h0.one;obtain⟨c,s1,uc⟩:=h1.one;obtain⟨x,s2,lx,ux⟩:=h2
  have hfb:8<=o.Bits/\o.Lanes=1:=by rw[k18]at hf;simpa [sfitS] using hf
  have hb:cx o.Bits=true:=wdb hwb hfb.1
  cases hq:(q==1) with
  | true=>
   obtain⟨L,e,t,g1,g2,g3,g4,g5⟩:=eJ hB hBl (o:=o) (a:=c) hb hl16;refine⟨L,e,t,B,⟨λF S T hT=>?_,g2,hB,rfl,g3,g4,λh _ _=>?_⟩⟩
   ·rw[fF k18 (by omega) (arg 0 (by omega)) (arg 1 (by omega)) (arg 2 (by omega)) s0 s1 s2 uc.1 (mo T hT),hq,Af,g1]
   ·rw[k18];exact g5 h
  | false=>
   refine⟨x,0,[],B,⟨λF S T hT=>?_,.inl rfl,hB,rfl,L3 _,(by intro x hx;cases hx),λh _ _=>?_⟩⟩
   ·rw[fF k18 (by omega) (arg 0 (by omega)) (arg 1 (by omega)) (arg 2 (by omega)) s0 s1 s2 uc.1 (mo T hT),hq,A1,List.append_nil]
   ·rw[k18];exact⟨lx,ux⟩
 by_cases k19:o.Kind=19
 ·have hnn:L1 o.Kind o.Lanes=3:=by rw[k19];rfl
  have h0:=ha 0 (by omega);have h1:=ha 1 (by omega);have h2:=ha 2 (by omega);rw[show(Dt o 0).2=1 by unfold Dt;rw[k19];rfl]at h0;rw[show(Dt o 1).2=1 by unfold Dt;rw[k19];rfl]at h1;rw[show(Dt o 2).2=o.Lanes by unfold Dt;rw[k19];rfl]at h2;obtain⟨q,s0,uq⟩:=h0.one;obtain⟨c,s1,uc⟩:=h1.one;obtain⟨x,s2,lx,ux⟩:=h2
  have hfb:8<=o.Bits/\o.Lanes=1:=by rw[k19]at hf;simpa [sfitS] using hf
  have hb:cx o.Bits=true:=wdb hwb hfb.1
  cases hq:(q==1) with
  | true=>
   obtain⟨e,t,B',g1,g2,g3,g4,g5,g6⟩:=aw hB hBl (o:=o) (a:=c) (L:=x) hb (by omega);refine⟨[],e,t,B',⟨λF S T hT=>?_,g2,g3,g4,g5,g6,λ_ _ h=>absurd k19 h⟩⟩;rw[aa k19 (by omega) (arg 0 (by omega)) (arg 1 (by omega)) (arg 2 (by omega)) s0 s1 s2 uc.1 (mo T hT),hq,Af,g1]
  | false=>
   refine⟨x,0,[],B,⟨λF S T hT=>?_,.inl rfl,hB,rfl,L3 _,(by intro x hx;cases hx),λ_ _ h=>absurd k19 h⟩⟩;rw[aa k19 (by omega) (arg 0 (by omega)) (arg 1 (by omega)) (arg 2 (by omega)) s0 s1 s2 uc.1 (mo T hT),hq,A1,List.append_nil]
 by_cases k20:o.Kind=20
 ·have hnn:L1 o.Kind o.Lanes=4:=by rw[k20];rfl
  have h0:=ha 0 (by omega);have h1:=ha 1 (by omega);have h2:=ha 2 (by omega);have h3:=ha 3 (by omega);rw[show(Dt o 0).2=1 by unfold Dt;rw[k20];rfl]at h0;rw[show(Dt o 1).2=o.Lanes by unfold Dt;rw[k20];rfl]at h1;rw[show(Dt o 2).2=o.Lanes by unfold Dt;rw[k20];rfl]at h2;rw[show(Dt o 3).2=o.Lanes by unfold Dt;rw[k20];rfl]at h3;obtain⟨q,s0,uq⟩:=h0.one;obtain⟨A,s1,lA,uA⟩:=h1;obtain⟨C,s2,lC,uC⟩:=h2;obtain⟨x,s3,lx,ux⟩:=h3
  have hl:C.length=A.length:=by omega
  have key:=λF S T=>uo (F:=F) (S:=S) (B:=B) (T:=T) k20 (by omega) hw (arg 0 (by omega)) (arg 1 (by omega)) (arg 2 (by omega)) (arg 3 (by omega)) s0 s1 s2 s3 hl (by omega) uA uC
  cases hq:(q==1) with
  | true=>
   obtain⟨g1,g2⟩:=kr (k:=4) (by omega) hw hl uA uC;refine⟨(KE 4 o.Bits A C).1,(KE 4 o.Bits A C).2,[],B,⟨λF S T _=>?_,g1,hB,rfl,L3 _,(by intro x hx;cases hx),λh _ _=>?_⟩⟩
   ·rw[key,hq,List.append_nil];rfl
   ·obtain⟨g3,g4⟩:=g2 h;rw[k20];exact⟨by rw[g3];exact lA,g4⟩
  | false=>
   refine⟨x,0,[],B,⟨λF S T hT=>?_,.inl rfl,hB,rfl,L3 _,(by intro x hx;cases hx),λh _ _=>?_⟩⟩
   ·rw[key,hq,List.append_nil];rfl
   ·rw[k20];exact⟨lx,ux⟩
 by_cases k21:o.Kind=21
 ·have hnn:L1 o.Kind o.Lanes=o.Lanes:=by rw[k21];rfl
  have he:∀ j,(Dt o j).2=1:=λj=>by unfold Dt;rw[k21];rfl
  have hs:∀ i,i<o.Args.length->∃ l,Slot V (o.Args.getD i 0) ((V.getD (o.Args.getD i 0).toNat []).getD 0 0::l)/\u64 ((V.getD (o.Args.getD i 0).toNat []).getD 0 0):=λi hi=>by
   have h:=ha i hi;rw[he]at h;obtain⟨a,s,u⟩:=h.one;exact⟨[],by rw[s.is];exact s,by rw[s.is];exact u⟩
  refine⟨_,_,_,_,.pure_ hB (λF S T=>un (g:=λi=>(V.getD (o.Args.getD i 0).toNat []).getD 0 0) k21 (λi hi=>by obtain⟨l,h1,_⟩:=hs i hi;exact⟨l,h1⟩) (by omega)) λ_ _=>⟨?_,λx hx=>?_⟩⟩
  ·rw[k21,Xm,EJ];show((o.Args.length:Nat):Int)=o.Lanes;omega
  ·obtain⟨i,hi,rfl⟩:=zzL27.1 hx;obtain⟨l,_,h2⟩:=hs i (zzL37.1 hi);exact h2
 have k22:o.Kind=22:=by omega
 have hnn:L1 o.Kind o.Lanes=1:=by rw[k22];rfl
 have h0:=ha 0 (by omega);rw[show(Dt o 0).2=o.Lanes by unfold Dt;rw[k22];rfl]at h0;obtain⟨A,s0,lA,uA⟩:=h0
 have hi2:o.Imm<o.Lanes:=by
  rw[k22]at hif;have:decide (o.Imm<o.Lanes)=true:=hif
  simpa using this
 refine⟨_,_,_,_,.pure_ hB (λF S T=>yG k22 (arg 0 (by omega)) s0 ⟨hi.1,by omega⟩) λ_ _=>⟨?_,λx hx=>?_⟩⟩
 ·rw[k22];rfl
 ·obtain rfl:x=_:=by simpa using hx
  exact uA _ (Aj (d:=0) (by have:=hi.1;omega))
end
theorem kG(n d:Int):(if n<d then d else n)=grow n d:=by
 unfold grow
 by_cases h:n<d<;>simp[h]
theorem xX(f:TFunc)(h:Sm f):Qr f=some (P2 f):=by
 have hf:=h.1
 have h1:∀(i:Nat),i<f.Blocks.length->∀ n ,Ad (Ph f i) _=some ((f.Blocks.getD i _).Phis.foldl (λn p=>grow n p.Dst) n):=λi hi n=>by
  have hB:=hf.block _ (Aj (d:=default) hi);refine HM _ default _ _ (λs j hj=>?_) (λs=>?_) n
  ·unfold Ph
   have hd:decide ((j:Int)<(f.Blocks.getD i default).Phis.length)=true:=by simpa using hj
   simp only[Dq,hd,Af,Aa (Ak hj),jE hj hB.1,kG]
  ·unfold Ph
   simp
 have h2:∀(i:Nat),i<f.Blocks.length->∀ n ,Ad (Pi f i) _=some ((f.Blocks.getD i _).Ops.foldl (λn p=>grow n p.Dst) n):=λi hi n=>by
  have hB:=hf.block _ (Aj (d:=default) hi);refine HM _ default _ _ (λs j hj=>?_) (λs=>?_) n
  ·unfold Pi
   have hd:decide (j<((f.Blocks.getD i default).Ops.length:Int))=true:=by simpa using hj
   simp only[Dq,hd,Af,Aa (Ak hj),jE hj hB.2.1,kG]
  ·unfold Pi
   simp
 unfold Qr P2
 rw[HM f.Blocks default (λn b=>b.Ops.foldl (λn o=>grow n o.Dst) (b.Phis.foldl (λn p=>grow n p.Dst) n)) _ (λs i hi=>by
  unfold Tj
  have hd:decide (i<(f.Blocks.length:Int))=true:=by simpa using hi
  simp only[hd,Af,Aa (Ak hi),h1 i hi,h2 i hi,As,jE hi hf.blocks]) (λs=>by unfold Tj;simp)]
 rfl
theorem h9{f:TFunc}(h:(List.range (A4 f).length).all (P4 (A4 f))=true):((A4 f).map (·.V)).Nodup:=by
 rw[List.nodup_iff_pairwise_ne,List.pairwise_map,zzL95];intro i j hi hj hij he;have:=((LN hj).1 (gn h j hj)).2 i hij;rw[Ag _ _ _ hi,Ag _ _ _ hj]at this;exact this he
structure Ok(f:TFunc):Prop extends Rt f where
 typed:Sk f 2=true
 rest:aj f=0
 shape:G5 f=true
 inf:fw f
theorem Aaq{f:TFunc}(h:Sm f)(hc:Kd f 2=0):Ok f:=
 have hz:=(SG   (by omega) (by omega)).1 hc
 {rt_of h hc with typed:=hz.2.2.1,rest:=hz.2.2.2,shape:=hz.2.1,inf:=h.1 }
section
variable {f:TFunc} (R:Ok f)
include R
theorem UO:(List.range (A4 f).length).all (P4 (A4 f))=true/\(∀ u∈Bw f,Mj (A4 f) u=true)/\(∀ u∈Bw f,Zg (A4 f) u=true)/\∀ u∈Bw f,Zf (A4 f) (D3 f) u=true:=by
 have h:=R.rest;unfold aj at h
 cases h1:(List.range _).all _ with
 | false=>rw[h1]at h;cases h
 | true=>
  grind
theorem bz{b:Ai}(hb:b∈f.Blocks){o:C5}(ho:o∈b.Ops):Js o=true:=qm R.typed hb ho
theorem dr{d e:Ca}(hd:d∈A4 f)(he:e∈A4 f)(hv:d.V=e.V):d=e:=by
 have hn:=h9 (UO R).1;obtain⟨i,hi,rfl⟩:=L2 hd;obtain⟨j,hj,rfl⟩:=L2 he;rw[List.nodup_iff_pairwise_ne, zzL95]at hn;rcases Nat.lt_trichotomy i j with h|h|h
 ·grind
 ·subst h;rfl
 ·grind
theorem def_cases{d:Ca}(hd:d∈A4 f):(∃ i,i<f.Params.length/\d=⟨(i:Int)+1,-1,0,(f.Params.getD i 0,1)⟩) \/
  ∃ i,i<f.Blocks.length/\((∃ k,k<(bA f i).Phis.length/\d=⟨((bA f i).Phis.getD k default).Dst,i,-1,(((bA f i).Phis.getD k default).Bits,1)⟩) \/
   ∃ k,k<(bA f i).Ops.length/\0<(Ib ((bA f i).Ops.getD k default)).1/\d=⟨((bA f i).Ops.getD k default).Dst,i,k,Ib ((bA f i).Ops.getD k default)⟩):=by
 rcases zzL15.1 hd with h|h
 ·obtain⟨i,hi,h⟩:=zzL33.1 h;exact .inl ⟨i,zzL37.1 hi,zzL18.1 h⟩
 ·obtain⟨i,hi,h⟩:=zzL33.1 h;refine .inr ⟨i,zzL37.1 hi,?_⟩;rcases zzL15.1 h with h|h
  ·obtain⟨k,hk,h⟩:=zzL33.1 h;exact .inl ⟨k,zzL37.1 hk,zzL18.1 h⟩
  ·obtain⟨k,hk,h⟩:=zzL33.1 h
   cases hg:decide (0<(Ib _).1) with
   | true=>grind
   | false=>rw[hg]at h;cases h
theorem yF{i k:Nat}(hi:i<f.Blocks.length)(hk:k<(bA f i).Ops.length)(hg:0<(Ib ((bA f i).Ops.getD k default)).1):(⟨((bA f i).Ops.getD k default).Dst,i,k,Ib ((bA f i).Ops.getD k default)⟩:Ca)∈A4 f:=by
 rw[A4,zzL15]
 right
 refine zzL33.2 ⟨i,zzL37.2 hi,?_⟩;rw[Rv,zzL15]
 right
 refine zzL33.2 ⟨k,zzL37.2 hk,?_⟩;rw[Cm hg];exact zzL18.2 rfl
theorem yJ{i k j:Nat}(hi:i<f.Blocks.length)(hk:k<(bA f i).Ops.length)(hj:j<((bA f i).Ops.getD k default).Args.length) :
  (⟨((bA f i).Ops.getD k default).Args.getD j 0,i,k,Dt ((bA f i).Ops.getD k default) j⟩:C0)∈Bw f:=by
 have hm:Js ((bA f i).Ops.getD k default)=true:=bz R (Aj  hi) (Aj  hk);obtain⟨_,_,_,_,hn,_,_⟩:=Vv hm
 have ht:Ij ((bA f i).Ops.getD k default)=Rn ((bA f i).Ops.getD k default):=by unfold Ij;rw[hm];rfl
 have htl:(Rn ((bA f i).Ops.getD k default)).length=((bA f i).Ops.getD k default).Args.length:=by unfold Rn;rw[Xm,EJ];omega
 refine zzL33.2 ⟨i,zzL37.2 hi,?_⟩;unfold EA;rw[zzL15,zzL15];refine .inl (.inr (zzL33.2 ⟨k,zzL37.2 hk,?_⟩));refine zzL33.2 ⟨j,zzL37.2 (by rw[ht,htl];exact hj),?_⟩;rw[ht]
 have:(Rn ((bA f i).Ops.getD k default)).getD j (0,0)=Dt ((bA f i).Ops.getD k default) j:=by
  unfold Rn;rw[Pg (by omega)]
 rw[this];exact zzL18.2 rfl
theorem uz{i k j:Nat}(hi:i<f.Blocks.length)(hk:k<(bA f i).Phis.length)(hj:j<((bA f i).Phis.getD k default).Args.length) :
  (⟨((bA f i).Phis.getD k default).Args.getD j 0,((bA f i).Phis.getD k default).From.getD j 0,1000,(((bA f i).Phis.getD k default).Bits,1)⟩:C0)∈Bw f:=by
 refine zzL33.2 ⟨i,zzL37.2 hi,?_⟩;unfold EA;rw[zzL15,zzL15];refine .inl (.inl (zzL33.2 ⟨k,zzL37.2 hk,?_⟩));exact zzL33.2 ⟨j,zzL37.2 hj,zzL18.2 rfl⟩
theorem kE{i:Nat}(hi:i<f.Blocks.length)(hk:(bA f i).End.Kind=0\/(bA f i).End.Kind=2):∃ b,(⟨(bA f i).End.Arg,i,1000,(b,1)⟩:C0)∈Bw f:=by
 have key:∃ b,⟨(bA f i).End.Arg,i,1000,(b,1)⟩∈V2 f (bA f i) i:=by
  unfold V2;rcases hk with e|e
  ·grind
  ·grind
 obtain⟨b,hb⟩:=key;refine⟨b,zzL33.2 ⟨i,zzL37.2 hi,?_⟩⟩;unfold EA;rw[zzL15];exact .inr hb
theorem yS{u:C0}(hu:u∈Bw f):∃ d∈A4 f,d.V=u.V/\d.Shape.2=u.Shape.2/\(d.Block<0\/(d.Block=u.Block/\d.At<u.At)\/(0<=d.Block/\d.Block≠u.Block/\DN (D3 f) d.Block u.Block=true)):=by
 obtain⟨_,h2,h3,h4⟩:=UO R;have hf:=h2 u hu;have hfit:=h3 u hu;have hdom:=h4 u hu;unfold Mj at hf
 have hneg:¬ Mp (A4 f) u.V<0:=by simpa using hf
 have hin:=SP hneg;have hmem:defOf _ u.V∈A4 f:=Aj (by  have:=hin.2;omega)
 have hV:(defOf (A4 f) u.V).V=u.V:=by
  unfold defOf;unfold Mp at hneg ⊢
  cases hx:(A4 f).findIdx? _ with
  | none=>grind
  | some i=>
   obtain⟨hi,hp,_⟩:=List.findIdx?_eq_some_iff_getElem.1 hx;rw[Aq,Ag _ _ _ hi]
   simpa using hp
 refine⟨_,hmem,hV,?_,?_⟩
 ·unfold Zg at hfit;simp only[Bh,zzL85]at hfit;exact hfit.2.1
 ·unfold Zf at hdom;simp only[PE,Bh,Jo,zzL85,Zs,zzL40]at hdom
  by_cases hb:(defOf (A4 f) u.V).Block<0
  ·exact .inl hb
  ·rcases hdom with(h|h)|⟨h,h'⟩
   ·exact .inl h
   ·exact .inr (.inl h)
   ·refine .inr (.inr ⟨by omega,h,?_⟩)
    have hmt :=by
     rw[bne_eq_false_iff_eq]at h';exact h'
    unfold DN;rw[hmt,Bh];exact⟨by simp,by rw[zzL88];omega⟩
theorem uw{a b:Nat}(ha:a<f.Blocks.length)(hb:b<f.Blocks.length)(h:DN (D3 f) (a:Int) (b:Int)=true):¬ Av (sN (Ch f)) 0 a b:=by
 have hl:=Tc f;obtain⟨P,_,o,t⟩:=ax R.may (r:=0) (by  omega)
 have e:D3 f=Zp (Ch f) 0:=by
  unfold D3 OU;rw[if_pos ⟨TH R.may,Int.le_refl _,by show(0:Int)<(Ch f).length; omega⟩];rfl
 rw[e]at h;exact((t.over_dom o (by omega) (by omega)).1 h).2
end
def BP(V:Vs)(d:Ca):Prop:=Has V d.V d.Shape.2
structure At(f:TFunc)(V:Vs)(W:Nat->Prop)(i:Nat)(k:Int):Prop where
 len:(V.length:Int)=P2 f+1
 lt:i<f.Blocks.length
 par:∀ d∈A4 f,d.Block<0->BP V d
 here:∀ d∈A4 f,d.Block=i->d.At<k->BP V d
 done:∀ d∈A4 f,∀ b:Nat,d.Block=b->W b->b≠i->BP V d
 way:∀ b,¬ W b->b≠i->Av (sN (Ch f)) 0 b i
section
variable {f:TFunc} (R:Ok f) {V:Vs} {W:Nat->Prop} {i:Nat} {k:Int} (h:At f V W i k)
include R h
theorem jz{u:C0}(hu:u∈Bw f)(hb:u.Block=i)(ha:u.At=k):Has V u.V u.Shape.2:=by
 obtain⟨d,hd,hv,hs,hc⟩:=yS R hu
 have key:BP V d:=by
  rcases hc with h1|⟨h1,h2⟩|⟨h0,h1,h2⟩
  ·exact h.par d hd h1
  ·exact h.here d hd (h1.trans hb) (by omega)
  ·have hin:=defs_in R.ok d hd;rcases hin with e|⟨e,_⟩
   ·omega
   ·have hn :=Tw h0
    have hlt:d.Block.toNat<f.Blocks.length:=by have:=e.2;omega
    have hne:d.Block.toNat≠i:=by grind
    refine h.done d hd _ hn.symm ?_ hne
    apply fo
    intro hw;rw[hb,<- hn]at h2;exact uw R hlt h.lt h2 (h.way _ hw hne)
 unfold BP at key;rw[hv,hs]at key;exact key
theorem tX(hk:k=((k.toNat:Nat):Int))(hk2:k.toNat<(bA f i).Ops.length)(j:Nat)(hj:j<((bA f i).Ops.getD k.toNat default).Args.length):Has V (((bA f i).Ops.getD k.toNat default).Args.getD j 0) (Dt ((bA f i).Ops.getD k.toNat default) j).2:=
 jz R h (yJ R h.lt hk2 hj) rfl hk.symm
end
theorem At.mono{f:TFunc}{V:Vs}{W:Nat->Prop}{i:Nat}{k k':Int}(h:At f V W i k)(hk:∀ d∈A4 f,d.Block=i->d.At<k'->d.At<k):At f V W i k':=
 {h with here:=λd hd hb ha=>h.here d hd hb (hk d hd hb ha) }
theorem At.op{f:TFunc}(R:Ok f){V:Vs}{W:Nat->Prop}{i k:Nat}(h:At f V W i (k:Int))(hk:k<(bA f i).Ops.length){L:List Int}
  (hL:((bA f i).Ops.getD k default).Kind≠17->((bA f i).Ops.getD k default).Kind≠19->(L.length:Int)=(R6 ((bA f i).Ops.getD k default).Kind ((bA f i).Ops.getD k default).Bits ((bA f i).Ops.getD k default).Lanes).2/\∀ x∈L,u64 x) :
  A0 ((bA f i).Ops.getD k default).Dst V.length/\At f (V.set ((bA f i).Ops.getD k default).Dst.toNat L) W i ((k+1:Nat):Int):=by
 have hm:Js ((bA f i).Ops.getD k default)=true:=bz R (Aj (d:=default) h.lt) (Aj (d:=default) hk);have hd0:=(Vv hm).2.2.2.2.2.2;have hmk:=(Vv hm).1
 have hg:Ib ((bA f i).Ops.getD k default)=R6 ((bA f i).Ops.getD k default).Kind ((bA f i).Ops.getD k default).Bits ((bA f i).Ops.getD k default).Lanes:=by unfold Ib;rw[hm];rfl
 have hlast:0<=P2 f:=by
  obtain⟨h1,_⟩:=S5 f.Blocks (f.Params.length:Int);unfold P2;omega
 by_cases hst:((bA f i).Ops.getD k default).Kind=17\/((bA f i).Ops.getD k default).Kind=19
 ·
  have hz:((bA f i).Ops.getD k default).Dst=0:=by
   unfold dstS at hd0;rcases hst with e|e<;>rw[e]at hd0<;>simpa using hd0
  have hg0:(Ib ((bA f i).Ops.getD k default)).1=0:=by
   rw[hg];unfold R6;rcases hst with e|e<;>rw[e]<;>rfl
  rw[hz];have keep:∀ d∈A4 f,BP V d->BP (V.set (0:Int).toNat L) d:=λd hd hh=>hh.set (Int.le_refl _) (by have:=X3 R.rest hd;omega);refine⟨⟨Int.le_refl _,by rw[h.len];omega⟩,⟨by rw[Cl];exact h.len,h.lt,λd hd hb=>keep d hd (h.par d hd hb),λd hd hb ha=>keep d hd (h.here d hd hb ?_),λd hd b hb hw hne=>keep d hd (h.done d hd b hb hw hne),h.way⟩⟩;rcases def_cases R hd with⟨i',_,rfl⟩|⟨i',hi',⟨k',_,rfl⟩|⟨k',hk',hgk,rfl⟩⟩
  ·simp only at hb;omega
  ·simp only at ha ⊢;omega
  ·grind
 ·have hgp:0<(Ib ((bA f i).Ops.getD k default)).1:=by
   rw[hg]
   have hb1:0<((bA f i).Ops.getD k default).Bits:=by have:=width_cases (Qc hmk);omega
   unfold R6
   have n17:(((bA f i).Ops.getD k default).Kind==17)=false:=by simp only[zzL40];exact λe=>hst (.inl e)
   have n19:(((bA f i).Ops.getD k default).Kind==19)=false:=by simp only[zzL40];exact λe=>hst (.inr e)
   rw[n17,n19]
   cases(((bA f i).Ops.getD k default).Kind==10 || ((bA f i).Ops.getD k default).Kind==11 || ((bA f i).Ops.getD k default).Kind==12)<;>cases(((bA f i).Ops.getD k default).Kind==22)<;>first|exact hb1|exact(by decide:(0:Int)<1)
  have hdef:=yF R h.lt hk hgp;have hpos:=X3 R.rest hdef;have hlst:=Wz hdef;simp only at hpos hlst;have hin:A0 ((bA f i).Ops.getD k default).Dst V.length:=⟨by omega,by rw[h.len];omega⟩;obtain⟨l1,l2⟩:=hL (λe=>hst (.inl e)) (λe=>hst (.inr e))
  have keep:∀ d∈A4 f,BP V d->BP (V.set ((bA f i).Ops.getD k default).Dst.toNat L) d:=λd hd hh=>by
   by_cases e:d.V=((bA f i).Ops.getD k default).Dst
   ·have:=dr R hd hdef e;subst this;exact Has.new hin (by grind) l2
   ·exact hh.set hin.1 e
  refine⟨hin,⟨by rw[Cl];exact h.len,h.lt,λd hd hb=>keep d hd (h.par d hd hb),λd hd hb ha=>?_,λd hd b hb hw hne=>keep d hd (h.done d hd b hb hw hne),h.way⟩⟩
  by_cases e:d.At<(k:Int)
  ·exact keep d hd (h.here d hd hb e)
  ·have hak:d.At=(k:Int):=by omega
   have hde:d=⟨((bA f i).Ops.getD k default).Dst,i,k,Ib ((bA f i).Ops.getD k default)⟩:=by
    rcases def_cases R hd with⟨i',_,rfl⟩|⟨i',hi',⟨k',_,rfl⟩|⟨k',hk',hgk,rfl⟩⟩
    ·simp only at hb;omega
    ·simp only at hak;omega
    ·grind
   subst hde;exact Has.new hin (by grind) l2
theorem At.all{f:TFunc}(R:Ok f){V:Vs}{W:Nat->Prop}{i:Nat}(h:At f V W i (((bA f i).Ops.length:Nat):Int)):At f V W i 1000:=
 h.mono λd hd hb _=>by
  rcases defs_in R.ok d hd with e|⟨_,e,_⟩
  ·omega
  ·unfold Sg at e;rw[hb]at e;exact e
def JT(p:Ff)(a:Int):Int:=p.Args.getD (p.From.findIdx λx=>x==a) 0
def Wy(phis:List Ff)(a:Int)(V:Vs):Vs:=phis.foldl (λU p=>U.set p.Dst.toNat (V.getD (JT p a).toNat [])) V
theorem EW{a:Int}{V:Vs}:∀{l:List Ff} {U:Vs},(l.foldl (λU p=>U.set p.Dst.toNat (V.getD (JT p a).toNat [])) U).length=U.length
 | [],U=>rfl
 | p::l,U=>by rw[EK,EW,Cl]
theorem HJ{a:Int}{V:Vs}{v n:Int}:∀{l:List Ff} {U:Vs},Has U v n->(∀ p∈l,0<=p.Dst)->(∀ p∈l,p.Dst=v->Has V (JT p a) n)->Has (l.foldl (λU p=>U.set p.Dst.toNat (V.getD (JT p a).toNat [])) U) v n
 | [],U,h,_,_=>h
 | p::l,U,h,hp,hv=>by
  rw[EK];refine HJ ?_ (λq hq=>hp q (by simp[hq])) (λq hq=>hv q (by simp[hq]))
  by_cases e:v=p.Dst
  ·obtain⟨x,s,lx,ux⟩:=hv p (by simp) e.symm;obtain⟨_,s0,_,_⟩:=h;rw[s.is,e];exact Has.new ⟨hp p (by simp),by rw[<- e];exact s0.hi⟩ lx ux
  ·exact h.set (hp p (by simp)) e
theorem YX{a:Int}{V:Vs}{v n:Int}:∀{l:List Ff} {U:Vs},A0 v U.length->(∀ p∈l,0<=p.Dst)->(∀ p∈l,p.Dst=v->Has V (JT p a) n)->(∃ p∈l,p.Dst=v)->Has (l.foldl (λU p=>U.set p.Dst.toNat (V.getD (JT p a).toNat [])) U) v n
 | [],U,_,_,_,h=>by grind
 | p::l,U,hin,hp,hv,h=>by
  rw[EK]
  by_cases e:p.Dst=v
  ·obtain⟨x,s,lx,ux⟩:=hv p (by simp) e;refine HJ ?_ (λq hq=>hp q (by simp[hq])) (λq hq=>hv q (by simp[hq]));rw[s.is,e];exact Has.new hin lx ux
  ·refine YX (by grind) (λq hq=>hp q (by simp[hq])) (λq hq=>hv q (by simp[hq])) ?_;obtain⟨q,hq,he⟩:=h;rcases zzL28.1 hq with rfl|hq
   ·exact absurd he e
   ·exact⟨q,hq,he⟩
theorem UB{f:TFunc}(R:Ok f){j:Nat}(hj:j<f.Blocks.length){p:Ff}(hp:p∈(bA f j).Phis):p.From=prF f j/\p.Args.length=p.From.length:=by
 have hs:=R.shape;unfold G5 at hs;rw[Bh]at hs;have:=gn hs.2 j hj;unfold Nj at this;simp only[Bh,zzL34]at this;have:=this.2 p hp;unfold K1 at this;rw[Bh,Jo,zzL85]at this;refine⟨this.1,?_⟩;rw[this.1];omega
def dA(f:TFunc)(i j:Nat):Prop:=(j:Int)∈(bA f i).End.To
theorem qF{f:TFunc}(R:Ok f){i j:Nat}(hi:i<f.Blocks.length)(hj:j<f.Blocks.length)(hn:dA f i j){p:Ff}(hp:p∈(bA f j).Phis) :
  (p.From.findIdx λx=>x==(i:Int))<p.From.length/\p.From.getD (p.From.findIdx λx=>x==(i:Int)) 0=i:=by
 obtain⟨h1,_⟩:=UB R hj hp
 have hm:(i:Int)∈p.From:=by rw[h1];exact(yM R.toRt hj).2 ⟨i,rfl,hi,hn⟩
 have hlt:(p.From.findIdx λx=>x==(i:Int))<p.From.length:=List.findIdx_lt_length_of_exists ⟨_,hm,by simp⟩;refine⟨hlt,?_⟩;rw[Ag _ _ _ hlt]
 simpa using List.findIdx_getElem (w:=hlt)
theorem MD{f:TFunc}(R:Ok f){V:Vs}{W:Nat->Prop}{i j:Nat}(h:At f V W i 1000)(hj:j<f.Blocks.length)(hn:dA f i j){p:Ff}(hp:p∈(bA f j).Phis):Has V (JT p i) 1:=by
 obtain⟨h1,h2⟩:=qF R h.lt hj hn hp;obtain⟨_,h3⟩:=UB R hj hp;obtain⟨k,hk,rfl⟩:=L2 hp;have e:(bA f j).Phis.getD k default=(bA f j).Phis[k]:=Ag _ _ _ hk;have hu:=uz R hj hk (j:=(((bA f j).Phis[k]).From.findIdx λx=>x==(i:Int))) (by rw[e];omega);rw[e]at hu;have:=jz R h hu h2 rfl;exact this
theorem At.next{f:TFunc}(R:Ok f){V:Vs}{W:Nat->Prop}{i j:Nat}(h:At f V W i 1000)(hj:j<f.Blocks.length)(hn:dA f i j) :
  At f (Wy (bA f j).Phis i V) (λb=>W b\/b=i) j 0:=by
 have hd0:∀ p∈(bA f j).Phis,0<=p.Dst/\A0 p.Dst _:=λp hp=>by
  obtain⟨k,hk,rfl⟩:=L2 hp;have hd:=FI hj hk;have e:(f.Blocks.getD j _).Phis.getD k default=(bA f j).Phis[k]:=Ag _ _ _ hk;rw[e]at hd;have h1:=X3 R.rest hd;have h2:=Wz hd;simp only at h1 h2;exact⟨by omega,by omega,by rw[h.len];omega⟩
 have hphi:∀ p∈(bA f j).Phis,∀ d∈A4 f,p.Dst=d.V->d.Block=j/\d.At = -1/\d.Shape.2=1:=λp hp d hd e=>by
  obtain⟨k,hk,rfl⟩:=L2 hp;have hd':=FI hj hk;have e2:(f.Blocks.getD j _).Phis.getD k default=(bA f j).Phis[k]:=Ag _ _ _ hk;rw[e2]at hd';have:=dr R hd hd' e.symm;subst this;exact⟨rfl,rfl,rfl⟩
 have keep:∀ d∈A4 f,BP V d->BP (Wy _ i V) d:=λd hd hh=>by
  refine HJ hh (λp hp=>(hd0 p hp).1) (λp hp e=>?_);rw[(hphi p hp d hd e).2.2];exact MD R h hj hn hp
 have hl:=Tc f
 have hedge:j∈sN (Ch f) i:=by
  rw[iT R.may (by have:=h.lt;omega),cR h.lt,(Xh _).2];exact hn
 refine⟨by unfold Wy;rw[EW];exact h.len,hj,λd hd hb=>keep d hd (h.par d hd hb),λd hd hb ha=>?_,λd hd b hb hw hne=>?_,λb hw hne=>?_⟩
 ·rcases def_cases R hd with⟨i',_,rfl⟩|⟨i',hi',⟨k',hk',rfl⟩|⟨k',hk',hgk,rfl⟩⟩
  ·simp only at hb;omega
  ·simp only at hb
   have e1:i'=j:=by omega
   subst e1;refine YX (hd0 _ (Aj hk')).2 (λp hp=>(hd0 p hp).1) (λp hp e=>MD R h hj hn hp) ⟨_,Aj  hk',rfl⟩
  ·simp only at ha;omega
 ·by_cases e:b=i
  ·subst e;refine keep d hd (h.here d hd hb ?_);rcases defs_in R.ok d hd with e|⟨_,_,e⟩
   ·omega
   ·exact e
  ·rcases hw with hw|hw
   ·exact keep d hd (h.done d hd b hb hw e)
   ·exact absurd hw e
 ·have h1 :=λhh=>hw (.inl hh);have h2 :=λhh=>hw (.inr hh);exact(h.way b h1 h2).step hedge (λe=>hne e.symm)
theorem ZF{l:List Ff}:∀{U:Vs} {v:Int},(Has U v 1\/(A0 v U.length/\∃ p∈l,p.Dst=v))->(∀ p∈l,0<=p.Dst)->Has (l.foldl (λV p=>V.set p.Dst.toNat [0]) U) v 1:=by
 induction l with
 | nil=>
  grind
 | cons p l ih=>
  intro U v h hp
  have z:∀ x∈[0],u64 x:=by
   intro x hx;obtain rfl:x=0:=(by simpa using hx);exact⟨Int.le_refl _,by decide⟩
  refine ih ?_ (λq hq=>hp q (by simp[hq]))
  by_cases e:v=p.Dst
  ·left
   have hin:A0 v U.length:=by
    rcases h with⟨_,s,_,_⟩|⟨h,_⟩
    ·exact⟨s.lo,s.hi⟩
    ·exact h
   rw[e]at hin ⊢;exact Has.new hin rfl z
  ·rcases h with h|⟨h1,q,hq,he⟩
   ·exact .inl (h.set (hp p (by simp)) e)
   ·grind
theorem oW{f:TFunc}(R:Ok f){ags:List Int}{n:Nat}(hn:P2 f=(n:Int))(hl:ags.length=f.Params.length)(hw:∀ w∈f.Params,VE w):At f (Qo f ags n) (λ_=>False) 0 0:=by
 have hpn:f.Params.length<=n:=by
  obtain⟨h1,_⟩:=S5 f.Blocks (f.Params.length:Int);unfold P2 at hn;omega
 have hlen:(Qo f ags n).length=n+1:=SA hpn
 have hd0:∀ p∈(bA f 0).Phis,0<=p.Dst:=λp hp=>by
  obtain⟨k,hk,rfl⟩:=L2 hp;have hd:=FI R.lo hk;have e:(f.Blocks.getD 0 default).Phis.getD k default=(bA f 0).Phis[k]:=Ag _ _ _ hk;rw[e]at hd;have h1:=X3 R.rest hd;simp only at h1;omega
 have hbase:(([]:List Int)::((List.range f.Params.length).map (CG f.Params ags)++List.replicate (n-f.Params.length) [])).length=n+1:=by simp;omega
 refine⟨by rw[hlen];omega,R.lo,λd hd hb=>?_,λd hd hb ha=>?_,λd hd b hb hw=>hw.elim,λb _ hne=>.root (λe=>hne e.symm)⟩
 ·rcases def_cases R hd with⟨i',hi',rfl⟩|⟨i',hi',⟨k',hk',rfl⟩|⟨k',hk',hgk,rfl⟩⟩
  ·refine ZF (.inl ⟨CG f.Params ags i',⟨by simp only;omega,by rw[hbase];simp only;omega,?_⟩,rfl,λx hx=>?_⟩) hd0
   ·grind
   ·have hwd:=hw _ (Aj (d:=(0:Int)) hi')
    obtain rfl:x=_:=by simpa [CG] using hx
    exact ML hwd (Ub hwd _).1 (Ub hwd _).2
  ·simp only at hb;omega
  ·simp only at hb;omega
 ·rcases def_cases R hd with⟨i',hi',rfl⟩|⟨i',hi',⟨k',hk',rfl⟩|⟨k',hk',hgk,rfl⟩⟩
  ·simp only at hb;omega
  ·simp only at hb
   have e1:i'=0:=by omega
   subst e1;have h1:=X3 R.rest hd;have h2:=Wz hd;simp only at h1 h2;have hin:A0 ((bA f 0).Phis.getD k' default).Dst (([]:List Int)::((List.range f.Params.length).map (CG f.Params ags)++List.replicate (n-f.Params.length) [])).length:=⟨by omega,by rw[hbase];omega⟩;exact ZF (.inr ⟨hin,_,Aj (d:=default) hk',rfl⟩) hd0
  ·simp only at ha;omega
structure Cf where
 i:Nat
 k:Nat
 V:Vs
 B:List Int
structure Out where
 code:Int
 val:Int
 steps:Nat
 t:List Ac
 b:List Int
def Out.push(y:Out)(t:List Ac):Out:=⟨y.code,y.val,y.steps+1,t++y.t,y.b⟩
def qA(o:C5)(V:Vs)(B:List Int):List Int×Int×List Ac×List Int:=
 match GM o V 0 0 B [] with
 | some x=>(x.1,x.2.1,x.2.2.2.2.1,x.2.2.2.2.2.2)
 | none=>([],8,[],B)
theorem OpD.eq{o:C5}{V:Vs}{B L:List Int}{e:Int}{t:List Ac}{B':List Int}(h:OpD o V B L e t B'):qA o V B=(L,e,t,B'):=by
 unfold qA;rw[h.is 0 0 [] (by decide),Vb]
def Uc(e:L6)(V:Vs):Nat:=if e.Kind=2/\¬ (V.getD e.Arg.toNat []).getD 0 0=1 then(e.To.getD 1 0).toNat else(e.To.getD 0 0).toNat
abbrev wJ(bs:List Ai)(c:Cf):C5:=(bs.getD c.i default).Ops.getD c.k default
abbrev sA(bs:List Ai)(c:Cf):L6:=(bs.getD c.i default).End
def GQ(bs:List Ai)(c:Cf):Option Cf×Int×Int×List Ac×List Int:=
 if c.k<(bs.getD c.i default).Ops.length then
  if(qA (wJ bs c) c.V c.B).2.1=0 then(some ⟨c.i,c.k+1,c.V.set (wJ bs c).Dst.toNat (qA (wJ bs c) c.V c.B).1,(qA (wJ bs c) c.V c.B).2.2.2⟩,0,0,(qA (wJ bs c) c.V c.B).2.2.1,(qA (wJ bs c) c.V c.B).2.2.2)
  else(none,8,0,(qA (wJ bs c) c.V c.B).2.2.1,(qA (wJ bs c) c.V c.B).2.2.2)
 else if(sA bs c).Kind=0 then(none,0,(c.V.getD (sA bs c).Arg.toNat []).getD 0 0,[],c.B)
 else if(sA bs c).Kind=3 then(none,8,0,[],c.B)
 else(some ⟨Uc (sA bs c) c.V,0,Wy (bs.getD (Uc (sA bs c) c.V) default).Phis c.i c.V,c.B⟩,0,0,[],c.B)
def Ju(bs:List Ai):Nat->Cf->Out
 | 0,c=>⟨9,0,0,[],c.B⟩
 | n+1,c=>match(GQ bs c).1 with
  | some c'=>(Ju bs n c').push (GQ bs c).2.2.2.1
  | none=>⟨(GQ bs c).2.1,(GQ bs c).2.2.1,1,(GQ bs c).2.2.2.1,(GQ bs c).2.2.2.2⟩
theorem Ul{bs:List Ai}{n:Nat}{c c':Cf}(h:(GQ bs c).1=some c'):Ju bs (n+1) c=(Ju bs n c').push (GQ bs c).2.2.2.1:=by rw[Ju,h]
theorem U1{bs:List Ai}{n:Nat}{c:Cf}(h:(GQ bs c).1=none):Ju bs (n+1) c=⟨(GQ bs c).2.1,(GQ bs c).2.2.1,1,(GQ bs c).2.2.2.1,(GQ bs c).2.2.2.2⟩:=by rw[Ju,h]
theorem stp_code{bs:List Ai}{c:Cf}:(GQ bs c).2.1=0\/(GQ bs c).2.1=8:=by
 unfold GQ
 split
 ·grind
 ·grind
theorem HR{bs:List Ai}:∀(n:Nat) (c:Cf),(Ju bs n c).steps<=n/\((Ju bs n c).code=9->(Ju bs n c).steps=n)
 | 0,c=>⟨zzL8 _,λ_=>rfl⟩
 | n+1,c=>by
  cases h:(GQ bs c).1 with
  | some c'=>
   rw[Ul h];obtain⟨h1,h2⟩:=HR (bs:=bs) n c';exact⟨by show(Ju bs n c').steps+1<=n+1;omega,λe=>by have:=h2 e;show(Ju bs n c').steps+1=n+1;omega⟩
  | none=>
   rw[U1 h];exact⟨by show 1<=n+1;omega,λe=>by rcases stp_code (bs:=bs) (c:=c) with e2|e2<;>(grind)⟩
theorem ao{bs:List Ai}:∀(k n:Nat) (c:Cf),k<=n->
  ((Ju bs n c).steps<=k->(Ju bs n c).code≠9->Ju bs k c=Ju bs n c) /\
  (¬ ((Ju bs n c).steps<=k/\(Ju bs n c).code≠9)->(Ju bs k c).code=9/\(Ju bs k c).steps=k/\∃ r,(Ju bs n c).t=(Ju bs k c).t++r)
 | 0,n,c,_=>by
  constructor
  ·intro h1 h2
   cases n with
   | zero=>rfl
   | succ n=>
    cases h:(GQ bs c).1 with
    | some c'=>rw[Ul h]at h1;exact absurd h1 (Nat.not_succ_le_zero _)
    | none=>rw[U1 h]at h1;exact absurd h1 (Nat.not_succ_le_zero _)
  ·intro _;exact⟨rfl,rfl,_,rfl⟩
 | k+1,n,c,hk=>by
  obtain⟨m,rfl⟩:∃ m,n=m+1:=⟨n-1,by omega⟩
  cases h:(GQ bs c).1 with
  | some c'=>
   rw[Ul h,Ul h];obtain⟨h1,h2⟩:=ao  k m c' (by omega)
   constructor
   ·intro a b;have a':(Ju bs m c').steps+1<=k+1:=a;rw[h1 (by omega) b]
   ·intro a;have a':¬ ((Ju bs m c').steps<=k/\(Ju bs m c').code≠9):=λhh=>a ⟨by show(Ju bs m c').steps+1<=k+1;omega,hh.2⟩;obtain⟨g1,g2,r,g3⟩:=h2 a';exact⟨g1,by show(Ju bs k c').steps+1=k+1;omega,r,by show(GQ bs c).2.2.2.1++(Ju bs m c').t=((GQ bs c).2.2.2.1++(Ju bs k c').t)++r;rw[g3,Zt]⟩
  | none=>
   rw[U1 h,U1 h];refine⟨λ_ _=>rfl,λa=>absurd ⟨by show 1<=k+1;omega,?_⟩ a⟩
   show(GQ bs c).2.1≠9
   rcases stp_code (bs:=bs) (c:=c) with e|e<;>omega
def post(bs:List Ai)(at_:Int)(nV nB:Nat)(x:DR):Option (LR ST RR):=
 Aw (nV=x.2.2.2.2.1.length) (Aw (nB=x.2.2.2.2.2.length) (
  bif x.1 !=0 then some (.done (⟨x.1,0,x.2.2.1⟩,x.2.1,x.2.2.1,x.2.2.2.1,x.2.2.2.2.1,x.2.2.2.2.2))
  else bif x.2.2.1==x.2.1 then some (.done (⟨9,0,x.2.2.1⟩,x.2.1,x.2.2.1,x.2.2.2.1,x.2.2.2.2.1,x.2.2.2.2.2))
  else bif (bs.getD at_.toNat default).End.Kind==0 then
   (Bf (bs.getD at_.toNat default).End.Arg x.2.2.2.2.1 x.2.1 (w64 (x.2.2.1+1)) x.2.2.2.2.2 x.2.2.2.1).bind λv=>
    some (.done (⟨0,v,w64 (x.2.2.1+1)⟩,x.2.1,w64 (x.2.2.1+1),x.2.2.2.1,x.2.2.2.2.1,x.2.2.2.2.2))
  else bif (bs.getD at_.toNat default).End.Kind==3 then some (.done (⟨8,0,w64 (x.2.2.1+1)⟩,x.2.1,w64 (x.2.2.1+1),x.2.2.2.1,x.2.2.2.2.1,x.2.2.2.2.2))
  else(Dl (bs.getD at_.toNat default).End x.2.2.2.2.1 x.2.1 (w64 (x.2.2.1+1)) x.2.2.2.2.2 x.2.2.2.1).bind λto=>
   Aw (A0 to bs.length) ((D1 (bs.getD to.toNat default).Phis at_ x.2.2.2.2.1 x.2.1 (w64 (x.2.2.1+1)) x.2.2.2.2.2 x.2.2.2.1).bind λy=>
    Aw (x.2.2.2.2.1.length=y.2.2.2.1.length) (Aw (x.2.2.2.2.2.length=y.2.2.2.2.length) (some (.next (to,y.1,y.2.1,y.2.2.1,y.2.2.2.1,y.2.2.2.2)))))))
theorem j5(bs:List Ai)(at_:Int)(V:Vs)(F S:Int)(B:List Int)(T:List Ac):blG bs at_ V F S B T=Aw (A0 at_ bs.length) ((f4 (bs.getD at_.toNat default).Ops V F S B T).bind (post bs at_ V.length B.length)):=rfl
def fin(bs:List Ai):LR ST RR->Option RR
 | .next s=>Ad (Bn bs) s
 | .done r=>some r
theorem eP(bs:List Ai)(s:ST):Ad (Bn bs) s=(Bn bs s).bind (fin bs):=by
 rw[<- OP]
 cases Bn bs s with
 | none=>rfl
 | some x=>cases x<;>rfl
structure By(B:List Int):Prop where
 by_:T5 B
 len:B.length<4611686018427387904
theorem ue{f:TFunc}(R:Ok f){V:Vs}{W:Nat->Prop}{i:Nat}(h:At f V W i 1000)(h0:(bA f i).End.Kind≠0)(h3:(bA f i).End.Kind≠3) :
  Uc (bA f i).End V<f.Blocks.length/\dA f i (Uc (bA f i).End V)/\∀(F S:Int) (B:List Int) (T:List Ac),Dl (bA f i).End V F S B T=some ((Uc (bA f i).End V:Nat):Int):=by
 have hk:(bA f i).End.Kind=1\/(bA f i).End.Kind=2:=by
  have hs:=R.shape;unfold G5 at hs;rw[Bh]at hs;have:=(shape_iff.1 hs.1).2 i h.lt;unfold Nm GF at this;simp only[Bh,Jo]at this;have h1:0<=(bA f i).End.Kind/\(bA f i).End.Kind<=3:=this.1.1;omega
 rcases hk with hk|hk
 ·have hl:=R.one i h.lt hk;obtain⟨t1,t2⟩:=R.to i h.lt 0 (by omega)
  have e:Uc (bA f i).End V=(qi f i 0).toNat:=by unfold Uc;rw[if_neg (by rw[hk];simp)];rfl
  have hc:(((qi f i 0).toNat:Nat):Int)=qi f i 0:=Tw (by omega);refine⟨by rw[e];omega,?_,λF S B T=>?_⟩
  ·unfold dA;rw[e,hc];exact Aj (by omega)
  ·rw[e,hc];unfold Dl
   have hk2:((bA f i).End.Kind==2)=false:=by rw[hk];rfl
   simp only[hk2];rw[Aa (show A0 (0:Int) (bA f i).End.To.length from⟨by omega,by omega⟩)]
   rfl
 ·have hl:=R.two i h.lt hk;obtain⟨b,hu⟩:=kE R h.lt (.inr hk);obtain⟨a,sa,ua⟩:=(jz R h hu rfl rfl).one;have sa':Slot V (bA f i).End.Arg [a]:=sa
  have ev:(V.getD (bA f i).End.Arg.toNat []).getD 0 0=a:=by rw[sa'.is];rfl
  have i0:A0 (0:Int) (bA f i).End.To.length:=⟨by omega,by omega⟩;have i1:A0 (1:Int) (bA f i).End.To.length:=⟨by omega,by omega⟩
  by_cases ha:a=1
  ·obtain⟨t1,t2⟩:=R.to i h.lt 0 (by omega)
   have e:Uc (bA f i).End V=(qi f i 0).toNat:=by unfold Uc;rw[if_neg (by rw[ev];exact λhh=>hh.2 ha)];rfl
   have hc:(((qi f i 0).toNat:Nat):Int)=qi f i 0:=Tw (by omega);refine⟨by rw[e];omega,?_,λF S B T=>?_⟩
   ·unfold dA;rw[e,hc];exact Aj (by omega)
   ·rw[e,hc];unfold Dl
    have hk2:((bA f i).End.Kind==2)=true:=by rw[hk];rfl
    rw[hk2,Af,KW sa',As,show(a==1)=true by simpa using ha,Dw,A1,Aa i0]
    rfl
  ·obtain⟨t1,t2⟩:=R.to i h.lt 1 (by omega)
   have e:Uc (bA f i).End V=(qi f i 1).toNat:=by unfold Uc;rw[if_pos ⟨hk,by rw[ev];exact ha⟩];rfl
   have hc:(((qi f i 1).toNat:Nat):Int)=qi f i 1:=Tw (by omega);refine⟨by rw[e];omega,?_,λF S B T=>?_⟩
   ·unfold dA;rw[e,hc];exact Aj (by omega)
   ·rw[e,hc];unfold Dl
    have hk2:((bA f i).End.Kind==2)=true:=by rw[hk];rfl
    rw[hk2,Af,KW sa',As,show(a==1)=false by simpa using ha,K4,Af,Aa i1]
    rfl
theorem my{α:Type}{f:Nat->α}{d:α}{n i:Nat}(h:i<n):((List.range i).map f++List.replicate (n-i) d).set i (f i)=(List.range (i+1)).map f++List.replicate (n-(i+1)) d:=by
 obtain⟨m,hm⟩:∃ m,n-i=m+1:=⟨n-i-1,by omega⟩
 have hm':n-(i+1)=m:=by omega
 rw[hm,hm',MU, Zu,GV]
 simp
theorem xV{f:TFunc}(R:Ok f){V:Vs}{W:Nat->Prop}{i j:Nat}(h:At f V W i 1000)(hj:j<f.Blocks.length)(hn:dA f i j)(F S:Int)(B:List Int)(T:List Ac) :
  D1 (bA f j).Phis (i:Int) V F S B T=some (F,S,T,Wy (bA f j).Phis i V,B):=by
 have hroom:(1000:Nat)<=room:=by decide
 have hB:=R.ok.block _ (Aj (d:=(default:Ai)) hj);have hpl:(bA f j).Phis.length<=512:=hB.phis;have hlenV:=h.len
 have ix:∀ k,k<(bA f j).Phis.length->∃ r:Nat,Dp ((bA f j).Phis.getD k default).From (i:Int)=some (r:Int)/\r<((bA f j).Phis.getD k default).Args.length/\((bA f j).Phis.getD k default).Args.getD r 0=JT ((bA f j).Phis.getD k default) i:=λk hk=>by
  have hp:(bA f j).Phis.getD k default∈(bA f j).Phis:=Aj hk;obtain⟨h1,h2⟩:=qF R h.lt hj hn hp;obtain⟨h3,h4⟩:=UB R hj hp
  have hfl:((bA f j).Phis.getD k default).From.length<=1000:=by rw[h3];have:=qH R.toRt j;omega
  rcases m_index ((bA f j).Phis.getD k default).From (i:Int) hfl with⟨r,g1,g2,g3,g4⟩|⟨g1,_⟩
  ·have e:r=((bA f j).Phis.getD k default).From.findIdx λx=>x==(i:Int):=by
    grind
   exact⟨r,g4,by omega,by unfold JT;rw[e]⟩
  ·exact absurd h2 (g1 _ h1)
 have hav:∀ k,k<(bA f j).Phis.length->A0 (JT ((bA f j).Phis.getD k default) i) V.length:=λk hk=>by
  obtain⟨l,s,_⟩:=MD R h hj hn (Aj (d:=(default:Ff)) hk);exact⟨s.lo,s.hi⟩
 have hL1:=Df (Gw (bA f j).Phis (i:Int) V) (λk=>((k:Int),(List.range k).map (λk=>V.getD (JT ((bA f j).Phis.getD k default) i).toNat [])++List.replicate ((bA f j).Phis.length-k) ([]:List Int)))
  ((List.range (bA f j).Phis.length).map (λk=>V.getD (JT ((bA f j).Phis.getD k default) i).toNat [])) (bA f j).Phis.length
  (λk hk=>by
   obtain⟨r,g1,g2,g3⟩:=ix k hk;unfold Gw;simp only[B4 hk,Af,Aa (Ak hk),Aq,g1,As,Aa (Ak g2),g3,Aa (hav k hk),w1 (show k<4611686018427387904 by omega)];rw[Aa (Ak (by rw[Gq,Xm,EJ,K3];omega))];have:=my (f:=λk=>V.getD (JT ((bA f j).Phis.getD k default) i).toNat []) (d:=([]:List Int)) hk
   rw[this])
  (by
   unfold Gw
   simp only[D7,A1,Nat.sub_self,List.replicate_zero,List.append_nil])
 have hd0:∀ p∈(bA f j).Phis,A0 p.Dst V.length:=λp hp=>by
  obtain⟨k,hk,rfl⟩:=L2 hp;have hd:=FI hj hk;have e:(f.Blocks.getD j default).Phis.getD k default=(bA f j).Phis[k]:=Ag _ _ _ hk;rw[e]at hd;have h1:=X3 R.rest hd;have h2:=Wz hd;simp only at h1 h2;exact⟨by omega,by omega⟩
 have hL2:=Df (Jf (bA f j).Phis _) (λk=>((k:Int),((bA f j).Phis.take k).foldl (λU p=>U.set p.Dst.toNat (V.getD (JT p i).toNat [])) V))
  (Wy (bA f j).Phis i V) (bA f j).Phis.length
  (λk hk=>by
   unfold Jf;have hin:=hd0 _ (Aj (d:=(default:Ff)) hk);simp only[B4 hk,Af,Aa (Ak hk),Aq,w1 (show k<4611686018427387904 by omega)];rw[Aa (Ak (by rw[Xm,EJ];exact hk)),Aa (show A0 ((bA f j).Phis.getD k default).Dst _ by rw[EW];exact hin),Pg hk];rw[UY _ _ (default:Ff) hk,List.foldl_append]
   rfl)
  (by
   unfold Jf;simp only[D7,A1,PB]
   rfl)
 unfold D1;rw[Aa ⟨by omega,by omega,by omega⟩,Aq];have hL1':Ad (Gw (bA f j).Phis (i:Int) V) ((0:Int),List.replicate (bA f j).Phis.length ([]:List Int))=_:=hL1;have hL2':Ad _ ((0:Int),V)=_:=hL2;rw[hL1',As,hL2',As]
theorem JC{bs:List Ai}{x:RR}:(some (LR.done x:LR ST RR)).bind (fin bs)=some x:=rfl
theorem qW{f:TFunc}(R:Ok f):∀(n i k:Nat) (V:Vs) (W:Nat->Prop) (B:List Int) (S F:Nat) (T:List Ac),At f V W i (k:Int)->k<=(bA f i).Ops.length->By B->S+n=F->F<4611686018427387000->T.length+128*n+128<=room->
  ∃(S'':Int) (V'':Vs),((f4 ((bA f i).Ops.drop k) V (F:Int) (S:Int) B T).bind (post f.Blocks (i:Int) V.length B.length)).bind (fin f.Blocks)=some (⟨(Ju f.Blocks n ⟨i,k,V,B⟩).code,(Ju f.Blocks n ⟨i,k,V,B⟩).val,((S+(Ju f.Blocks n ⟨i,k,V,B⟩).steps:Nat):Int)⟩,(F:Int),S'',T++(Ju f.Blocks n ⟨i,k,V,B⟩).t,V'',(Ju f.Blocks n ⟨i,k,V,B⟩).b) /\
   V''.length=V.length/\(Ju f.Blocks n ⟨i,k,V,B⟩).b.length=B.length/\T5 (Ju f.Blocks n ⟨i,k,V,B⟩).b/\(Ju f.Blocks n ⟨i,k,V,B⟩).t.length<=128*n/\∀ x∈(Ju f.Blocks n ⟨i,k,V,B⟩).t,0<=x.At/\x.At<B.length:=by
 intro n
 induction n with
 | zero=>
  intro i k V W B S F T h hk hB hS hF hr
  obtain rfl:S=F:=by omega
  have res:((some ((9:Int),(S:Int),(S:Int),T,V,B):Option DR).bind (post f.Blocks (i:Int) V.length B.length)).bind (fin f.Blocks)=some (⟨9,0,(S:Int)⟩,(S:Int),(S:Int),T,V,B):=by
   rw[As];unfold post;rw[Aa rfl,Aa rfl];rfl
  refine⟨(S:Int),V,?_,rfl,rfl,hB.by_,L3 _,(by intro x hx;cases hx)⟩
  by_cases hlt:k<(bA f i).Ops.length
  ·rw[OY hlt,t8,res];simp[Ju]
  ·obtain rfl:k=(bA f i).Ops.length:=by omega
   rw[List.drop_length,kB,As];unfold post;rw[Aa rfl,Aa rfl];simp only[show((0:Int)!=0)=false from rfl,A1,R3,Af];rw[JC];simp[Ju]
 | succ n ih=>
  intro i k V W B S F T h hk hB hS hF hr;have hw1:w64 ((S:Int)+1)=((S+1:Nat):Int):=w1 (by omega)
  have hSF:(S:Int)≠(F:Int):=by omega
  have hBm:=Aj (d:=(default:Ai)) h.lt
  by_cases hlt:k<(bA f i).Ops.length
  ·have hdr:(bA f i).Ops.drop k=(bA f i).Ops.getD k default::(bA f i).Ops.drop (k+1):=by rw[OY hlt,Ag _ _ _ hlt]
   have hom:=Aj (d:=(default:C5)) hlt;have him:u64 ((bA f i).Ops.getD k default).Imm:=(R.ok.block _ hBm).imm _ hom;obtain⟨L,e,t,B',D⟩:=yH (V:=V) hB.by_ hB.len (bz R hBm hom) him (λj hj=>tX R h (k:=(k:Int)) rfl hlt j hj);have hopV:=D.eq;have his:=D.is (F:Int) (w64 ((S:Int)+1)) T (by omega);rw[hdr];rcases D.code with rfl|rfl
   ·obtain⟨hd,hat⟩:=h.op R hlt (λa b=>D.shape rfl a b)
    have hst:GQ f.Blocks ⟨i,k,V,B⟩=(some ⟨i,k+1,V.set ((bA f i).Ops.getD k default).Dst.toNat L,B'⟩,0,0,t,B'):=by
     unfold GQ;rw[if_pos hlt]
     show(if(qA ((bA f i).Ops.getD k default) V B).2.1=0 then _ else _)=_
     rw[hopV,if_pos rfl]
    rw[Ul (c':=⟨i,k+1,V.set ((bA f i).Ops.getD k default).Dst.toNat L,B'⟩) (by rw[hst]),hst,xh hSF his hd,hw1];obtain⟨S'',V'',g1,g2,g3,g4,g5,g6⟩:=ih i (k+1) _ W B' (S+1) F (T++t) hat (by omega) ⟨D.by_,by rw[D.len];exact hB.len⟩ (by omega) hF (by have:=D.tl;simp only[Gq];omega);rw[Cl,D.len]at g1;rw[Cl]at g2;rw[D.len]at g3 g6;refine⟨S'',V'',?_,g2,g3,g4,?_,?_⟩
    ·rw[g1];simp only[Out.push,Zt];rw[show S+1+(Ju f.Blocks n ⟨i,k+1,V.set ((bA f i).Ops.getD k default).Dst.toNat L,B'⟩).steps=S+((Ju f.Blocks n ⟨i,k+1,V.set ((bA f i).Ops.getD k default).Dst.toNat L,B'⟩).steps+1) by omega]
    ·show(t++_).length<=_
     have:=D.tl;rw[Gq];omega
    ·intro x hx;rcases zzL15.1 hx with hx|hx
     ·exact D.tin x hx
     ·exact g6 x hx
   ·have hst:GQ f.Blocks ⟨i,k,V,B⟩=(none,8,0,t,B'):=by
     unfold GQ;rw[if_pos hlt]
     show(if(qA ((bA f i).Ops.getD k default) V B).2.1=0 then _ else _)=_
     rw[hopV,if_neg (show ¬ ((8:Int)=0) by decide)]
    rw[U1 (by rw[hst]),hst,t7 hSF his (by decide),As];refine⟨((S+1:Nat):Int),V,?_,rfl,D.len,D.by_,by have:=D.tl;show t.length<=_;omega,D.tin⟩;unfold post;rw[Aa rfl,Aa D.len.symm];simp only[show((8:Int)!=0)=true from rfl,Af,hw1];rw[JC]
  ·obtain rfl:k=(bA f i).Ops.length:=by omega
   have h1:=h.all R;rw[List.drop_length,kB,As];unfold post;rw[Aa rfl,Aa rfl]
   have hne:((S:Int)==(F:Int))=false:=by simpa using hSF
   have eb:f.Blocks.getD ((i:Int)).toNat default=bA f i:=rfl;simp only[show((0:Int)!=0)=false from rfl,A1,hne,eb,hw1];have hnl:¬ (bA f i).Ops.length<(f.Blocks.getD i default).Ops.length:=GW _
   by_cases k0:(bA f i).End.Kind=0
   ·obtain⟨b,hu⟩:=kE R h.lt (.inl k0);obtain⟨a,sa,ua⟩:=(jz R h1 hu rfl rfl).one;have sa':Slot V (bA f i).End.Arg [a]:=sa
    have hst:GQ f.Blocks ⟨i,(bA f i).Ops.length,V,B⟩=(none,0,a,[],B):=by
     unfold GQ;rw[if_neg hnl,if_pos (show(sA f.Blocks ⟨i,(bA f i).Ops.length,V,B⟩).Kind=0 from k0)]
     show(none,(0:Int),(V.getD (bA f i).End.Arg.toNat []).getD 0 0,([]:List Ac),B)=_
     rw[sa'.is];rfl
    rw[U1 (by rw[hst]),hst];rw[show((bA f i).End.Kind==0)=true by simpa using k0,Af,Uo sa',As,JC];refine⟨((S+1:Nat):Int),V,?_,rfl,rfl,hB.by_,L3 _,(by intro x hx;cases hx)⟩
    simp
   ·rw[show((bA f i).End.Kind==0)=false by simpa using k0,A1]
    by_cases k3:(bA f i).End.Kind=3
    ·have hst:GQ f.Blocks ⟨i,(bA f i).Ops.length,V,B⟩=(none,8,0,[],B):=by
      unfold GQ;rw[if_neg hnl,if_neg (show ¬ (sA f.Blocks ⟨i,(bA f i).Ops.length,V,B⟩).Kind=0 from k0),if_pos (show(sA f.Blocks ⟨i,(bA f i).Ops.length,V,B⟩).Kind=3 from k3)]
     rw[U1 (by rw[hst]),hst];rw[show((bA f i).End.Kind==3)=true by simpa using k3,Af,JC];refine⟨((S+1:Nat):Int),V,?_,rfl,rfl,hB.by_,L3 _,(by intro x hx;cases hx)⟩
     simp
    ·rw[show((bA f i).End.Kind==3)=false by simpa using k3,A1];obtain⟨n1,n2,n3⟩:=ue R h1 k0 k3
     have hst:GQ f.Blocks ⟨i,(bA f i).Ops.length,V,B⟩=(some ⟨Uc (bA f i).End V,0,Wy (bA f (Uc (bA f i).End V)).Phis i V,B⟩,0,0,[],B):=by
      unfold GQ;rw[if_neg hnl,if_neg (show ¬ (sA f.Blocks ⟨i,(bA f i).Ops.length,V,B⟩).Kind=0 from k0),if_neg (show ¬ (sA f.Blocks ⟨i,(bA f i).Ops.length,V,B⟩).Kind=3 from k3)]
     have hat:=h1.next R n1 n2
     have hcl:(Wy (bA f (Uc (bA f i).End V)).Phis i V).length=V.length:=by unfold Wy;rw[EW]
     obtain⟨S'',V'',g1,g2,g3,g4,g5,g6⟩:=ih (Uc (bA f i).End V) 0 _ _ B (S+1) F T hat (L3 _) hB (by omega) hF (by omega);rw[Ul (c':=⟨Uc (bA f i).End V,0,Wy (bA f (Uc (bA f i).End V)).Phis i V,B⟩) (by rw[hst]),hst];rw[n3,As,Aa (Ak n1),Aq];have hcome:=xV R h1 n1 n2 (F:Int) ((S+1:Nat):Int) B T;have hcome':D1 (f.Blocks.getD (Uc (bA f i).End V) default).Phis (i:Int) V (F:Int) ((S+1:Nat):Int) B T=_:=hcome;rw[hcome',As]
     dsimp only
     rw[Aa hcl.symm,Aa rfl,As]
     show ∃(S'':Int) (V'':Vs),Ad (Bn f.Blocks) (((Uc (bA f i).End V:Nat):Int),(F:Int),((S+1:Nat):Int),T,Wy (bA f (Uc (bA f i).End V)).Phis i V,B)=_/\_
     rw[eP,wM (λb hb=>by have:=(R.ok.block b hb).ops;omega),j5,Aa (Ak n1)];rw[My]at g1;rw[hcl]at g2;refine⟨S'',V'',?_,g2,g3,g4,?_,g6⟩
     ·refine g1.trans ?_;simp only[Out.push,Vb];rw[show S+1+(Ju f.Blocks n ⟨Uc (bA f i).End V,0,Wy (bA f (Uc (bA f i).End V)).Phis i V,B⟩).steps=S+((Ju f.Blocks n ⟨Uc (bA f i).End V,0,Wy (bA f (Uc (bA f i).End V)).Phis i V,B⟩).steps+1) by omega]
     ·show([]++(Ju f.Blocks n _).t).length<=_
      rw[Vb];omega
theorem SQ{α:Type}{v:α->Int}{M:Int}:∀{l:List α} {n:Int},n<=M->(∀ a∈l,v a<=M)->l.foldl (λn a=>grow n (v a)) n<=M
 | [],n,h,_=>h
 | a::l,n,h,hl=>by
  rw[EK];refine SQ ?_ (λb hb=>hl b (by simp[hb]));unfold grow
  cases decide (n<v a)
  ·exact h
  ·exact hl a (by simp)
theorem iJ{f:TFunc}(R:Ok f):P2 f<=1023:=by
 have key:∀(l:List _),(∀ b∈l,b∈f.Blocks)->∀ n ,n<=1023->l.foldl (λn b=>b.Ops.foldl (λn o=>grow n o.Dst) (b.Phis.foldl (λn p=>grow n p.Dst) n)) n<=1023:=by
  intro l
  induction l with
  | nil=>intro _ n h;exact h
  | cons b l ih=>
   intro hb n hn;refine ih (λc hc=>hb c (by simp[hc])) _ ?_;have hbm:=hb b (by simp);obtain⟨i,hi,rfl⟩:=L2 hbm;refine SQ (SQ hn λp hp=>?_) λo ho=>?_
   ·obtain⟨k,hk,rfl⟩:=L2 hp
    have hk':k<(f.Blocks.getD i default).Phis.length:=by grind
    have hd:=FI hi hk';obtain⟨j,hj,he⟩:=L2 hd;have h1:=gn (UO R).1 j hj;unfold P4 at h1;rw[Bh]at h1;rw[Ag _ _ _ hj,he]at h1;have:=h1.1;unfold valS at this;simp only[Bh,Jo]at this
    have e2:((f.Blocks.getD i default).Phis.getD k default)=f.Blocks[i].Phis[k]:=by grind
    rw[e2]at this;exact this.2
   ·have hm:=bz R hbm ho;have hd:=(Vv hm).2.2.2.2.2.2;unfold dstS at hd
    cases hc:(o.Kind==17 || o.Kind==19) with
    | true=>grind
    | false=>
     rw[hc]at hd;have:valS _=true:=hd;unfold valS at this;simp only[Bh,Jo]at this;exact this.2
 exact key _ (λb hb=>hb) _ (by have:=R.ok.few;omega)
theorem pT{f:TFunc}(R:Ok f):∃ n:Nat,P2 f=(n:Int)/\f.Params.length<=n/\n<=1023:=by
 obtain⟨h1,_⟩:=S5 _ _;have h2:f.Params.length<=P2 f:=h1;have:=iJ R;exact⟨(P2 f).toNat,by omega,by omega,by omega⟩
def runD(f:TFunc)(ags:List Int)(F:Nat)(B:List Int):Out:=Ju f.Blocks F ⟨0,0,Qo f ags (P2 f).toNat,B⟩
theorem kl{f:TFunc}(h:Sm f)(hc:Kd f 2=0){ags:List Int}{F:Nat}{B:List Int}{T:List Ac}(hB:By B)(hF:F<4611686018427387000)(hr:T.length+128*F+128<=room)(hl:ags.length=f.Params.length)(ha:∀ a∈ags,u64 a) :
  Mc f ags (F:Int) B T=some (⟨(runD f ags F B).code,(runD f ags F B).val,((runD f ags F B).steps:Int)⟩,0,T++(runD f ags F B).t,(runD f ags F B).b) /\
   (runD f ags F B).b.length=B.length/\T5 (runD f ags F B).b/\(runD f ags F B).t.length<=128*F/\∀ x∈(runD f ags F B).t,0<=x.At/\x.At<B.length:=by
 have R:=Aaq h hc;obtain⟨n,hn,hpn,hn2⟩:=pT R
 have hnt:(P2 f).toNat=n:=by rw[hn];exact Aq n
 have hw :=λw hw=>by
  have:=R.typed;simp only[Sk,Bh,zzL34]at this;exact kv (this.1.1 w hw)
 have hat:=oW R hn hl hw;obtain⟨S'',V'',g1,g2,g3,g4,g5,g6⟩:=qW R F 0 0 _ _ B 0 F T hat (L3 _) hB (by omega) hF hr;unfold runD;rw[hnt];refine⟨?_,g3,g4,g5,g6⟩;have hb0:=Aj (d:=default) R.lo
 rw[Aac  (by omega) (by rw[tk f 2 h,hc]) (by rw[xX f h,hn]) hl hw ha hpn (by omega) R.lo (by have:=(R.ok.block _ hb0).phis;omega) (λp hp=>by
  obtain⟨k,hk,rfl⟩:=L2 hp;have hd:=FI R.lo hk;have e:(f.Blocks.getD 0 _).Phis.getD k default=(f.Blocks.getD 0 _).Phis[k]:=Ag _ _ _ hk;rw[e]at hd;have h1:=X3 R.rest hd;have h2:=Wz hd;simp only at h1 h2
  exact⟨by omega,by omega⟩)]
 rw[eP,wM (λb hb=>by have:=(R.ok.block b hb).ops;omega),j5,Aa (⟨Int.le_refl _,by have:=R.lo;omega⟩)];have g1':((f4 (f.Blocks.getD (0:Int).toNat _).Ops _ _ 0 B T).bind (post _ 0 _ _)).bind _=_:=g1;rw[g1',As];unfold Aa1;rw[Aa g2.symm,Aa g3.symm,H0]
theorem tZ:m_locksteplaw13_awake=some true:=by kernel_rfl
theorem vI(f:TFunc)(c:TCase)(hf:fw f):∃ b,J3 f c=some b/\(b=true->Sm f/\c.Args.length<=40/\c.Mem.length<=4096/\c.Fuel<=500):=by
 obtain⟨b,hb,hs⟩:=mP hf;unfold J3;rw[hb];refine⟨_,rfl,λh=>?_⟩
 cases b with
 | false=>cases h
 | true=>
  grind
theorem vE:(1000000:Nat)<=room:=by decide
theorem xk{F:Nat}{less:Int}(hF:F<=500)(h:0<=less/\less<256):w64 ((F:Int)-(if w64 less<(F:Int) then w64 less else(F:Int)))=((F-min F less.toNat:Nat):Int):=by
 have hl:w64 _=less:=Hg (by omega) (by omega)
 split
 ·rw[Hg (by omega) (by omega)];omega
 ·rw[Hg (by omega) (by omega)];omega
theorem fuel13(f:TFunc)(c:TCase)(less:Int)(hf:fw f)(hA:∀ a∈c.Args,u64 a)(hM:T5 c.Mem)(hl:0<=less/\less<256):La f c less=some true:=by
 have hroom:=vE;unfold La;rw[tZ,As,Dw,A1];obtain⟨b,hb,hsm⟩:=vI f c hf;rw[hb,As]
 cases b with
 | false=>rfl
 | true=>
 obtain⟨h,hAl,hMl,hFu⟩:=hsm rfl;rw[Dw,A1]
 by_cases hF0:c.Fuel<0
 ·rw[Cm hF0];rfl
 rw[Ct hF0,A1,eR h,As]
 by_cases hc:Kd f 2=0
 rotate_left
 ·rw[show(Kd f 2 !=0)=true by simpa using hc];rfl
 rw[hc,show((0:Int)!=0)=false from rfl,A1]
 by_cases hlen:c.Args.length=f.Params.length
 rotate_left
 ·grind
 rw[show((c.Args.length:Int)!=(f.Params.length:Int))=false by rw[hlen];simp,A1];have hB:By c.Mem:=⟨hM,by omega⟩;obtain⟨F,hFe⟩:∃ F:Nat,c.Fuel=(F:Int):=⟨c.Fuel.toNat,by omega⟩
 have hF5:F<=500:=by omega
 have hkF:F-min F less.toNat<=F:=by omega
 rw[hFe,xk hF5 hl,pc hMl,As]
 generalize F-min F less.toNat=k at hkF
 obtain⟨r1,b1,o1,t1,i1⟩:=kl h hc (T:=[]) hB (F:=F) (by omega) (by simp;omega) hlen hA;obtain⟨r2,b2,o2,t2,i2⟩:=kl h hc (T:=[]) hB (F:=k) (by omega) (by simp;omega) hlen hA;obtain⟨s1,s1'⟩:=HR (bs:=f.Blocks) F ⟨0,0,Qo f c.Args (P2 f).toNat,c.Mem⟩;obtain⟨s2,s2'⟩:=HR (bs:=f.Blocks) k ⟨0,0,Qo f c.Args (P2 f).toNat,c.Mem⟩;obtain⟨g1,g2⟩:=ao (bs:=f.Blocks) k F ⟨0,0,Qo f c.Args (P2 f).toNat,c.Mem⟩ hkF;have e1:Ju f.Blocks F ⟨0,0,Qo f c.Args (P2 f).toNat,c.Mem⟩=runD f c.Args F c.Mem:=rfl;have e2:Ju f.Blocks k ⟨0,0,Qo f c.Args (P2 f).toNat,c.Mem⟩=runD f c.Args k c.Mem:=rfl;rw[e1]at s1 s1' g1 g2;rw[e2]at s2 s2' g1 g2
 generalize runD f c.Args F c.Mem=y at *
 generalize runD f c.Args k c.Mem=z at *
 rw[Vb]at r1 r2;simp only[Af,As,r1,r2,Aa b1.symm,Aa b2.symm];rw[Ct (show ¬ ((F:Int)<(y.steps:Int)) by omega),Ct (show ¬ ((k:Int)<(z.steps:Int)) by omega)]
 by_cases hs:y.steps<=k/\y.code≠9
 ·have hz:=g1 hs.1 hs.2;subst hz;rw[Cm (show((z.steps:Int))<=(k:Int) by omega),Af,show(z.code !=9)=true by simpa using hs.2,Af];simp only[R3,NB,MZ,Af];rw[uO (by omega),As,Aa rfl,As,Aa rfl,eQ (show z.b.length<4611686018427387904 by omega)]
  rfl
 ·obtain⟨h1,h2,r,h3⟩:=g2 hs
  have hcond:(bif (decide ((y.steps:Int)<=(k:Int))) then(y.code !=9) else false)=false:=by
   grind
  have hzl:z.t.length<=y.t.length:=by rw[h3,Gq];omega
  rw[hcond,A1,kN (by omega),As,Aa rfl,kN (by omega),As,Aa rfl,h1,h2];simp only[R3,Af];rw[Cm (show((z.t.length:Int))<=(y.t.length:Int) by omega),Af,Aa ⟨by omega,by omega⟩,Aq]
  have htk:y.t.take z.t.length=z.t:=by rw[h3,List.take_left]
  rw[htk,TD (by omega)]
  rfl
end
end Go.Proofs.YtaeaenoaomdimaaGreat
