/-
  The machine, the program's functions and the laws' arithmetic: part 6 of 6.
-/
import Derived.Test.YtaeaenoaomdimaaGreatPk5
set_option linter.unusedSectionVars false
set_option linter.unusedVariables false
set_option linter.unusedSimpArgs false
namespace Go.Proofs.YtaeaenoaomdimaaGreat
noncomputable section
open Go Go.RowKit
def KJ(B:List Int)(s:Nat):Nat->Nat->List Int×Bool×List Ad
 | 0,_=>([],true,[])
 | n+1,cur=>if cur+s<=B.length then(mX (BK B cur s)::(KJ B s n (cur+s)).1,(KJ B s n (cur+s)).2.1,f9 false cur (BK B cur s)++(KJ B s n (cur+s)).2.2) else([],false,[])
def MI(s:Nat):List Int->Nat->List Int->Bool×List Ad×List Int
 | [],_,B=>(true,[],B)
 | v::l,cur,B=>if cur+s<=B.length then((MI s l (cur+s) (LY B cur (dc s v))).1,f9 true cur (dc s v)++(MI s l (cur+s) (LY B cur (dc s v))).2.1,(MI s l (cur+s) (LY B cur (dc s v))).2.2) else(false,[],B)
theorem vC{B:List Int}{s:Nat}(n cur:Nat):(KJ B s n cur).2.2.length<=n*s:=by
 induction n generalizing cur with
 | zero=>simp[KJ]
 | succ n ih=>
  unfold KJ
  split
  ·have:=ih (cur+s);simp[QV,JY ‹_›,Nat.succ_mul];omega
  ·simp
theorem kz{s:Nat}(l:List Int)(cur:Nat)(B:List Int):(MI s l cur B).2.1.length<=l.length*s/\(MI s l cur B).2.2.length=B.length:=by
 induction l generalizing cur B with
 | nil=>simp[MI]
 | cons v l ih=>
  unfold MI
  split
  ·have:=ih (cur+s) (LY B cur (dc s v));rw[JQ]at this;simp[QV,bZ,Nat.succ_mul];omega
  ·simp
theorem yW{s:Nat}(l:List Int)(cur:Nat){B:List Int}(hB:Th B):Th (MI s l cur B).2.2:=by
 induction l generalizing cur B with
 | nil=>simpa [MI] using hB
 | cons v l ih=>
  unfold MI
  split
  ·exact ih _ (u7 hB (xX _ _))
  ·exact hB
def cw(bits:Int):Bool:=bits==8 || bits==16 || bits==32 || bits==64
def LC(bits n:Int):Bool:=cw bits&&decide (0<=n)&&decide (n<=16)
theorem wdB_cases{bits:Int}(h:cw bits=true):bits=8\/bits=16\/bits=32\/bits=64:=by
 simp only[cw,OX,zzL85]at h;omega
theorem ZN(bits:Int):O7 bits=some (bif cw bits then bits / 8 else 0):=by
 by_cases h:cw bits=true
 ·rcases wdB_cases h with rfl|rfl|rfl|rfl<;>decide
 ·have h' :=by simpa using h
  rw[h'];simp only[cw,MM]at h';obtain⟨⟨⟨h1,h2⟩,h3⟩,h4⟩:=h';unfold O7;rw[h1, h2, h3, h4]
  rfl
theorem qp{bits:Int}(h:cw bits=true):∃ s:Nat,bits / 8=(s:Int)/\1<=s/\s<=8/\bits=8*(s:Int)/\w64 (Int.tdiv bits 8)=(s:Int):=by
 rcases wdB_cases h with rfl|rfl|rfl|rfl
 ·exact⟨1,by decide,by decide,by decide,by decide,by decide⟩
 ·exact⟨2,by decide,by decide,by decide,by decide,by decide⟩
 ·exact⟨4,by decide,by decide,by decide,by decide,by decide⟩
 ·exact⟨8,by decide,by decide,by decide,by decide,by decide⟩
theorem QW{N s cur:Nat}(hs:1<=s):thB N (cur:Int) (s:Int)=decide (cur+s<=N):=by
 unfold thB;rw[Cr (by omega)];exact zzL61.2 (by omega)
theorem qI{B:List Int}(hB:Th B)(hL:B.length<4611686018427387904){s:Nat}(hs:s<=8)(hs1:1<=s){N:Nat}(hN:N<=16):∀(k i cur:Nat) (done:List Int) (t:List Ad),i+k=N->done.length=i->t.length+k*8<=room->
  Ac (I5 (N:Int) (s:Int)) ((cur:Int),(i:Int),done++List.replicate k 0,t,B) =
   some (if(KJ B s k cur).2.1=true then .inl (done++(KJ B s k cur).1,t++(KJ B s k cur).2.2,B) else .inr (t++(KJ B s k cur).2.2,B))
 | 0,i,cur,done,t,hi,hd,hr=>by
  obtain rfl:i=N:=by omega
  refine An ?_;unfold I5;simp only;simp[KJ]
 | k+1,i,cur,done,t,hi,hd,hr=>by
  by_cases hc:cur+s<=B.length
  ·have step:I5 (N:Int) (s:Int) ((cur:Int),(i:Int),done++List.replicate (k+1) 0,t,B)=some (.next (((cur+s:Nat):Int),((i+1:Nat):Int),(done++[mX (BK B cur s)])++List.replicate k 0,t++f9 false cur (BK B cur s),B)):=by
    unfold I5;simp only;rw[K1,Aq,B8 (by omega),Af,QR (by omega) hL,Ar,Ab rfl,QW hs1];simp only;rw[Cr (by omega),D3,A2,mN hB hL hs hc (by omega),Ar,Ab rfl,Ab (inb (by simp;omega)),w1 (by omega),Og (n:=(s:Int)) (by omega) (by omega),Og (by omega) (by omega),Aq]
    have e:(done++List.replicate (k+1) (0:Int)).set i (mX (BK B cur s))=(done++[mX (BK B cur s)])++List.replicate k 0:=by
     rw[MN,List.set_append_right _ _ (by omega),hd,Nat.sub_self,List.set_cons_zero,EG];rfl
    rw[e]
    simp
   rw[Au step,qI hB hL hs hs1 hN k (i+1) (cur+s) _ _ (by omega) (by simp[hd]) (by simp[QV,JY hc];omega)];rw[KJ,if_pos hc];simp only[EG,List.singleton_append]
  ·rw[KJ,if_neg hc];refine An ?_;unfold I5;simp only;rw[K1,Aq,B8 (by omega),Af,QR (by omega) hL,Ar,Ab rfl,QW hs1];simp only;rw[C0 (by omega),K2,Af]
   simp
def RD(a bits n:Int)(B:List Int)(T:List Ad):List Int×Int×List Ad×List Int:=
 if LC bits n=true then(if(KJ B (bits / 8).toNat n.toNat a.toNat).2.1=true then((KJ B (bits / 8).toNat n.toNat a.toNat).1,0,T++(KJ B (bits / 8).toNat n.toNat a.toNat).2.2,B) else([],8,T++(KJ B (bits / 8).toNat n.toNat a.toNat).2.2,B)) else([],1,T,B)
theorem kS{bits n:Int}:(bif bif (bif cw bits then bits / 8 else 0)==0 then true else decide (n<0) then true else decide (16<n)) = !LC bits n:=by
 unfold LC
 cases h:cw _ with
 | false=>rfl
 | true=>
  obtain⟨s,h1,h2,h3,_⟩:=qp h;rw[Af,h1,show((s:Int)==0)=false by simp;omega,A2]
  by_cases h4:n<0
  ·grind
  ·grind
theorem xr{a bits n:Int}{B:List Int}{T:List Ad}(ha:0<=a)(hB:Th B)(hL:B.length<4611686018427387904)(hr:T.length+128<=room):Ra a bits n B T=some (RD a bits n B T):=by
 unfold Ra RD;rw[ZN,Ar,kS]
 cases hm:LC _ n with
 | false=>simp[N6]
 | true=>
  simp only[LC,Bg,decide_eq_true_iff]at hm;obtain⟨⟨hw,h0⟩,h1⟩:=hm;obtain⟨s,h2,h3,h4,h5,h6⟩:=qp hw;obtain⟨N,rfl⟩:∃ N:Nat,n=N:=⟨n.toNat,by omega⟩;obtain⟨A,rfl⟩:∃ A:Nat,a=A:=⟨a.toNat,by omega⟩;rw[D3, hw,Af,h2,Ab ⟨h0,Int.le_refl _,by grind⟩,Aq,Aq,Aq];have:=qI hB hL h4 h3 (N:=N) (by omega) N 0 A [] T (by omega) rfl (by omega);rw[Tv,show((0:Nat):Int)=0 from rfl]at this;rw[this]
  by_cases hk:(KJ B s N A).2.1=true
  ·rw[if_pos hk,if_pos hk];rfl
  ·rw[if_neg hk,if_neg hk]
   rfl
theorem qt{s:Nat}(hs:s<=8)(hs1:1<=s){L:List Int}(hN:L.length<=16):∀(k i cur:Nat) (t:List Ad) (B:List Int),i+k=L.length->B.length<4611686018427387904->t.length+k*8<=room->
  Ac (Hx L (s:Int)) ((cur:Int),(i:Int),t,B) =
   some (if(MI s (L.drop i) cur B).1=true then .inl (t++(MI s (L.drop i) cur B).2.1,(MI s (L.drop i) cur B).2.2) else .inr (t++(MI s (L.drop i) cur B).2.1,(MI s (L.drop i) cur B).2.2))
 | 0,i,cur,t,B,hi,hL,hr=>by
  obtain rfl:i=L.length:=by omega
  refine An ?_;unfold Hx;simp[MI]
 | k+1,i,cur,t,B,hi,hL,hr=>by
  have hd:L.drop i=L.getD i 0::L.drop (i+1):=by rw[OQ (by omega),Ag _ _ _ (by omega)]
  by_cases hc:cur+s<=B.length
  ·have step:Hx L (s:Int) ((cur:Int),(i:Int),t,B)=some (.next (((cur+s:Nat):Int),((i+1:Nat):Int),t++f9 true cur (dc s (L.getD i 0)),LY B cur (dc s (L.getD i 0)))):=by
    unfold Hx;simp only;rw[B8 (by omega),Af,Ab (inb (by omega)),QR (by omega) hL,Ar,Ab rfl,QW hs1];simp only;rw[Cr (by omega),D3,A2,Aq,iT hL hs hc (by omega),Ar,Ab (by rw[JQ]),w1 (by omega),Og (n:=(s:Int)) (by omega) (by omega),Og (by omega) (by omega)]
    simp
   rw[Au step,qt hs hs1 hN k (i+1) (cur+s) _ _ (by omega) (by rw[JQ];exact hL) (by simp[QV,bZ];omega)];rw[hd,MI,if_pos hc];simp only[EG]
  ·rw[hd,MI,if_neg hc];refine An ?_;unfold Hx;simp only;rw[B8 (by omega),Af,Ab (inb (by omega)),QR (by omega) hL,Ar,Ab rfl,QW hs1];rw[C0 (by omega),K2,Af]
   simp
def WR(a bits:Int)(L:List Int)(B:List Int)(T:List Ad):Int×List Ad×List Int:=
 if LC bits L.length=true then(if(MI (bits / 8).toNat L a.toNat B).1=true then 0 else 8,T++(MI (bits / 8).toNat L a.toNat B).2.1,(MI (bits / 8).toNat L a.toNat B).2.2) else(1,T,B)
theorem pe{bits:Int}{n:Nat}:(bif (bif cw bits then bits / 8 else 0)==0 then true else decide (16<(n:Int))) = !LC bits n:=by
 rw[<- kS]
 cases(bif cw _ then bits / 8 else 0)==0<;>rfl
theorem uV{a bits:Int}{L B:List Int}{T:List Ad}(ha:0<=a)(hL:B.length<4611686018427387904)(hr:T.length+128<=room):Pp a bits L B T=some (WR a bits L B T):=by
 unfold Pp WR;rw[ZN,Ar,pe]
 cases hm:LC _ _ with
 | false=>simp[N6]
 | true=>
  simp only[LC,Bg,decide_eq_true_iff]at hm;obtain⟨⟨hw,h0⟩,h1⟩:=hm;obtain⟨s,h2,h3,h4,h5,h6⟩:=qp hw;obtain⟨A,rfl⟩:∃ A:Nat,a=A:=⟨a.toNat,by omega⟩;rw[D3, hw,Af,h2,Aq,Aq];have:=qt h4 h3 (L:=L) (by omega) L.length 0 A T B (by omega) hL (by omega);rw[Mw,show((0:Nat):Int)=0 from rfl]at this;rw[this]
  by_cases hk:(MI s L A B).1=true
  ·rw[if_pos hk, if_pos hk];rfl
  ·rw[if_neg hk, if_neg hk,Ar]
   rfl
set_option maxRecDepth 100000
structure Slot(V:Vs)(v:Int)(l:List Int):Prop where
 lo:0<=v
 hi:v<V.length
 is:V.getD v.toNat []=l
theorem Slot.inb{V:Vs}{v:Int}{l:List Int}(h:Slot V v l):A0 v V.length:=⟨h.lo,h.hi⟩
theorem Uo{V:Vs}{v:Int}{a:Int}{l:List Int}(h:Slot V v (a::l))(F S:Int)(B:List Int)(T:List Ad):Be v V F S B T=some a:=by
 unfold Be;rw[Aa h.inb,h.is,Aa (⟨Int.le_refl _,by simp⟩)]
 rfl
theorem KQ{V:Vs}{v:Int}{a:Int}{l:List Int}(h:Slot V v (a::l))(F S:Int)(B:List Int)(T:List Ad):D1 v V F S B T=some (a==1):=by
 unfold D1;rw[Uo h];rfl
def Arg(o:C5)(i:Nat)(v:Int):Prop:=i<o.Args.length/\o.Args.getD i 0=v
theorem Arg.inb{o:C5}{i:Nat}{v:Int}(h:Arg o i v):A0 (i:Int) o.Args.length:=Ak h.1
theorem Arg.g{o:C5}{i:Nat}{v:Int}(h:Arg o i v):o.Args.getD ((i:Nat):Int).toNat 0=v:=by  exact h.2
section
variable {o:C5} {V:Vs} {F S:Int} {B:List Int} {T:List Ad}
theorem dk{a b:Int}(h:o.Kind=a)(hne:a≠b):decide (o.Kind=b)=false:=C0 (by rw[h];exact hne)
theorem SF{a:Int}(h:o.Kind=a):decide (o.Kind=a)=true:=Cr h
theorem Aa6{x n:Int}(h:1<=n/\n<=16):Ap [x] n=some (List.replicate n.toNat x):=by
 obtain⟨h1,h2⟩:=h
 have hc:n=1\/n=2\/n=3\/n=4\/n=5\/n=6\/n=7\/n=8\/n=9\/n=10\/n=11\/n=12\/n=13\/n=14\/n=15\/n=16:=by omega
 rcases hc with rfl|rfl|rfl|rfl|rfl|rfl|rfl|rfl|rfl|rfl|rfl|rfl|rfl|rfl|rfl|rfl
 ·exact(show Ap [x] 1=some (List.replicate (Int.toNat 1) x) by kernel_rfl)
 ·exact(show Ap [x] 2=some (List.replicate (Int.toNat 2) x) by kernel_rfl)
 ·exact(show Ap [x] 3=some (List.replicate (Int.toNat 3) x) by kernel_rfl)
 ·exact(show Ap [x] 4=some (List.replicate (Int.toNat 4) x) by kernel_rfl)
 ·exact(show Ap [x] 5=some (List.replicate (Int.toNat 5) x) by kernel_rfl)
 ·exact(show Ap [x] 6=some (List.replicate (Int.toNat 6) x) by kernel_rfl)
 ·exact(show Ap [x] 7=some (List.replicate (Int.toNat 7) x) by kernel_rfl)
 ·exact(show Ap [x] 8=some (List.replicate (Int.toNat 8) x) by kernel_rfl)
 ·exact(show Ap [x] 9=some (List.replicate (Int.toNat 9) x) by kernel_rfl)
 ·exact(show Ap [x] 10=some (List.replicate (Int.toNat 10) x) by kernel_rfl)
 ·exact(show Ap [x] 11=some (List.replicate (Int.toNat 11) x) by kernel_rfl)
 ·exact(show Ap [x] 12=some (List.replicate (Int.toNat 12) x) by kernel_rfl)
 ·exact(show Ap [x] 13=some (List.replicate (Int.toNat 13) x) by kernel_rfl)
 ·exact(show Ap [x] 14=some (List.replicate (Int.toNat 14) x) by kernel_rfl)
 ·exact(show Ap [x] 15=some (List.replicate (Int.toNat 15) x) by kernel_rfl)
 ·exact(show Ap [x] 16=some (List.replicate (Int.toNat 16) x) by kernel_rfl)
theorem p9(hk:o.Kind=0)(hl:1<=o.Lanes/\o.Lanes<=16):GJ o V F S B T=some (List.replicate o.Lanes.toNat o.Imm,0,F,S,T,V,B):=by
 unfold GJ;rw[SF hk];unfold Pm K7;simp only[Ar,Aa6 hl]
 rfl
theorem me{c p q:Int}{a:Int}{l x y:List Int}(hk:o.Kind=13)(h0:Arg o 0 c)(h1:Arg o 1 p)(h2:Arg o 2 q)(s0:Slot V c (a::l))(s1:Slot V p x)(s2:Slot V q y) :
  GJ o V F S B T=some (bif a==1 then x else y,0,F,S,T,V,B):=by
 unfold GJ;rw[dk hk (by decide),SF hk,Af];unfold J0;have e0:=h0.g;have e1:=h1.g;have e2:=h2.g;have i0:=h0.inb;have i1:=h1.inb;have i2:=h2.inb;simp only[Int.cast_ofNat_Int]at e0 e1 e2 i0 i1 i2;rw[Aa i0,e0,KQ s0]
 cases(a==1)
 ·rw[ Aa i2,e2,Aa s2.inb,s2.is];rfl
 ·rw[ Aa i1,e1,Aa s1.inb,s1.is];rfl
theorem u0{c a:Int}{l:List Int}(hk:o.Kind=14)(h0:Arg o 0 c)(s0:Slot V c (a::l))(hf:UZ (w64 o.Imm))(ht:UZ o.Bits)(hlt:w64 o.Imm<o.Bits)(ha:u64 a) :
  GJ o V F S B T=some ([a % 2 ^ (w64 o.Imm).toNat],0,F,S,T,V,B):=by
 unfold GJ;rw[dk hk (by decide),dk hk (by decide),SF hk, A2];unfold H4 CP;have e0:=h0.g;have i0:=h0.inb;simp only[Int.cast_ofNat_Int]at e0 i0;rw[Aa i0,e0,Uo s0, de hf];simp only[    de ht,Ar,C0 (show ¬ o.Bits<=w64 o.Imm by omega),YS hf ha]
 rfl
theorem qB{c a:Int}{l:List Int}(hk:o.Kind=15)(h0:Arg o 0 c)(s0:Slot V c (a::l))(hf:UZ (w64 o.Imm))(ht:UZ o.Bits)(hlt:o.Bits<w64 o.Imm)(ha:u64 a) :
  GJ o V F S B T=some ([a % 2 ^ o.Bits.toNat],0,F,S,T,V,B):=by
 unfold GJ;rw[dk hk (by decide),dk hk (by decide),dk hk (by decide),SF hk,  A2];unfold Gr Yd;have e0:=h0.g;have i0:=h0.inb;simp only[Int.cast_ofNat_Int]at e0 i0;rw[Aa i0,e0,Uo s0, de hf];simp only[    de ht,Ar,C0 (show ¬ w64 o.Imm<=o.Bits by omega),YS ht ha]
 rfl
structure RA(B:List Int)(T:List Ad):Prop where
 by_:Th B
 len:B.length<4611686018427387904
 room:T.length+128<=room
theorem xG{a bits n:Int}{B:List Int}{T:List Ad}:(RD a bits n B T).2.2.2=B:=by
 unfold RD;split
 ·split<;>rfl
 ·rfl
theorem WR_len{a bits:Int}{L B:List Int}{T:List Ad}:(WR a bits L B T).2.2.length=B.length:=by
 unfold WR;split
 ·exact(kz L _ B).2
 ·rfl
theorem ov{c a:Int}{l:List Int}(h0:Arg o 0 c)(s0:Slot V c (a::l))(ha:0<=a)(hm:RA B T) :
  E9 o V F S B T=some ((RD a o.Bits o.Lanes B T).1,(RD a o.Bits o.Lanes B T).2.1,F,S,(RD a o.Bits o.Lanes B T).2.2.1,V,B):=by
 unfold E9;have e0:=h0.g;have i0:=h0.inb;simp only[Int.cast_ofNat_Int]at e0 i0;rw[Aa i0,e0,Uo s0,Ar,xr ha hm.by_ hm.len hm.room,Ar,xG,Aa rfl]
theorem kC{c p a:Int}{l L:List Int}(h0:Arg o 0 c)(h1:Arg o 1 p)(s0:Slot V c (a::l))(s1:Slot V p L)(ha:0<=a)(hm:RA B T) :
  Em o V F S B T=some ([],(WR a o.Bits L B T).1,F,S,(WR a o.Bits L B T).2.1,V,(WR a o.Bits L B T).2.2):=by
 unfold Em;have e0:=h0.g;have i0:=h0.inb;have e1:=h1.g;have i1:=h1.inb;simp only[Int.cast_ofNat_Int]at e0 i0 e1 i1;rw[Aa i0,e0,Uo s0,Ar,Aa i1,e1,Aa s1.inb,s1.is,uV ha hm.len hm.room,Ar,Aa WR_len.symm]
theorem FA{l:List Int}{e F' S':Int}{T':List Ad}{V':Vs}{B':List Int}(h1:V.length=V'.length)(h2:B.length=B'.length):eX V B (l,e,F',S',T',V',B')=some (l,e,F',S',T',V',B'):=by unfold eX;rw[Aa h1,Aa h2]
theorem uv{c a:Int}{l:List Int}(hk:o.Kind=16)(h0:Arg o 0 c)(s0:Slot V c (a::l))(ha:0<=a)(hm:RA B T) :
  GJ o V F S B T=some ((RD a o.Bits o.Lanes B T).1,(RD a o.Bits o.Lanes B T).2.1,F,S,(RD a o.Bits o.Lanes B T).2.2.1,V,B):=by
 unfold GJ;rw[dk hk (by decide),dk hk (by decide),dk hk (by decide),dk hk (by decide),SF hk,Af];simp only[A2];rw[ov h0 s0 ha hm,Ar,FA rfl rfl]
theorem qA{c p a:Int}{l L:List Int}(hk:o.Kind=17)(h0:Arg o 0 c)(h1:Arg o 1 p)(s0:Slot V c (a::l))(s1:Slot V p L)(ha:0<=a)(hm:RA B T) :
  GJ o V F S B T=some ([],(WR a o.Bits L B T).1,F,S,(WR a o.Bits L B T).2.1,V,(WR a o.Bits L B T).2.2):=by
 unfold GJ;rw[dk hk (by decide),dk hk (by decide),dk hk (by decide),dk hk (by decide),dk hk (by decide),SF hk,Af];simp only[A2];rw[kC h0 h1 s0 s1 ha hm,Ar,FA rfl WR_len.symm]
def sB(k w a b:Int):Int×Int:=(Ug k w a b).getD (0,1)
def JZ(k w:Int)(A C:List Int):List Int×Int:=
 bif (List.range A.length).all (λi=>(sB k w (A.getD i 0) (C.getD i 0)).2==0) then((List.range A.length).map (λi=>(sB k w (A.getD i 0) (C.getD i 0)).1),0) else([],8)
theorem fV{f:Nat->Int}{n i:Nat}(h:i<n):((List.range i).map f++List.replicate (n-i) (0:Int)).set i (f i)=(List.range (i+1)).map f++List.replicate (n-(i+1)) 0:=by
 obtain⟨m,hm⟩:∃ m,n-i=m+1:=⟨n-i-1,by omega⟩
 have hm':n-(i+1)=m:=by omega
 rw[hm,hm',MN, Zr,GR]
 simp
theorem wB {p q : Int} {A C : List Int} {k : Int} (hk : 1 ≤ k ∧ k ≤ 12) (hw : UZ o.Bits) (h0 : Arg o 0 p) (h1 : Arg o 1 q) (s0 : Slot V p A) (s1 : Slot V q C) (hl : C.length = A.length) (hr : A.length ≤ 64)
    (hA : ∀ x ∈ A, u64 x) (hC : ∀ x ∈ C, u64 x) : Ao o k V F S B T = some (JZ k o.Bits A C) := by
  have e0 := h0.g; have i0 := h0.inb; have e1 := h1.g; have i1 := h1.inb; simp only [Int.cast_ofNat_Int] at e0 i0 e1 i1; unfold Ao
  have hroom : ((A.length : Int)) ≤ (room : Int) := by have : (64 : Nat) ≤ room := by decide
                                                       omega
  rw [Aa i0, e0, Aa s0.inb, Aa i1, e1, Aa s1.inb, s0.is, Aa ⟨by omega, by omega, hroom⟩]
  have hdo : ∀ i, i < A.length → ∃ v e, Ug k o.Bits (A.getD i 0) (C.getD i 0) = some (v, e) ∧ (e = 0 ∨ e = 8) := fun i hi => by
    obtain ⟨v, e, h1, _, _, h2⟩ := Aab hk hw (hA _ (Ai hi)) (hC _ (Ai (i := i) (by omega))); exact ⟨v, e, h1, by omega⟩
  have hL := Hv (F8 o k V) (fun i => ((i : Int), (List.range i).map _ ++ List.replicate (A.length - i) (0 : Int)))
    (fun i => (sB k o.Bits (A.getD i 0) (C.getD i 0)).2 == 0) (.inl ((List.range A.length).map (fun i => (sB k o.Bits (A.getD i 0) (C.getD i 0)).1))) (.inr ([], 8)) A.length
    (fun i hi hp => by
      obtain ⟨v, e, hd, he⟩ := hdo i hi
      have hD : sB k o.Bits (A.getD i 0) (C.getD i 0) = (v, e) := by unfold sB; rw [hd]; rfl
      rw [hD] at hp
      have he0 : e = 0 := by simpa using hp
      subst he0; unfold F8; simp only [e0, e1, s0.is, s1.is, Aq, K1, B8 hi, Af, Aa (Ak hi), Aa (Ak (show i < C.length by omega)), hd, Ar, w1 (show i < 4611686018427387904 by omega)]; rw [show ((0 : Int) != 0) = false from rfl, A2, Aa (Ak (by simp; omega))]; have := fV (f := fun i => (sB k o.Bits (A.getD i 0) (C.getD i 0)).1) hi; simp only [hD] at this
      rw [this])
    (fun i hi hp => by
      obtain ⟨v, e, hd, he⟩ := hdo i hi
      have hD : sB k o.Bits (A.getD i 0) (C.getD i 0) = (v, e) := by unfold sB; rw [hd]; rfl
      rw [hD] at hp
      have he8 : e = 8 := by
        grind
      subst he8; unfold F8; simp only [e0, e1, s0.is, s1.is, Aq, K1, B8 hi, Af, Aa (Ak hi), Aa (Ak (show i < C.length by omega)), hd, Ar]
      rw [show ((8 : Int) != 0) = true from rfl, Af])
    (by
      unfold F8
      simp only [e0, s0.is, Aq, K1, Ee, A2, Nat.sub_self, List.replicate_zero, List.append_nil])
  have hL' : Ac _ ((0 : Int), List.replicate A.length (0 : Int)) = _ := hL; rw [Aq, hL']; unfold JZ
  cases (List.range A.length).all _ <;> rfl
theorem yL{p q:Int}{A C:List Int}(hk:1<=o.Kind/\o.Kind<=12)(hw:UZ o.Bits)(h0:Arg o 0 p)(h1:Arg o 1 q)(s0:Slot V p A)(s1:Slot V q C)(hl:C.length=A.length)(hr:A.length<=64)
  (hA:∀ x∈A,u64 x) (hC:∀ x∈C,u64 x):GJ o V F S B T=some (Oq (JZ o.Kind o.Bits A C) V F S B T):=by
 have hc:o.Kind=1\/o.Kind=2\/o.Kind=3\/o.Kind=4\/o.Kind=5\/o.Kind=6\/o.Kind=7\/o.Kind=8\/o.Kind=9\/o.Kind=10\/o.Kind=11\/o.Kind=12:=by omega
 have key:=λk (hk:1<=k/\k<=12)=>wB (F:=F) (S:=S) (B:=B) (T:=T) hk hw h0 h1 s0 s1 hl hr hA hC;unfold GJ;rcases hc with h|h|h|h|h|h|h|h|h|h|h|h<;>rw[h] <;>
  simp only[Int.reduceEq,decide_false, A2]<;>rw[key _ (by decide)]<;>rfl
end
theorem eQ{b:List Int}(h:b.length<=4096):P1 b=some ((true,⟨b,[]⟩),0):=by
 unfold P1 Cy;rw[C0 (by omega), Ab (by rw[FG];omega)]
 rfl
theorem bq{B:List Int}{T:List Ad}(h:B.length<=room):Kf B T=some (B,T,B):=by
 unfold Kf Cy;rw[Ab h];rfl
theorem br{B:List Int}{T:List Ad}(h:T.length<=room):Kg B T=some (T,T,B):=by
 unfold Kg Dn;rw[Ab (by simpa using h)];rfl
section
variable {o:C5} {V:Vs} {F S:Int} {B:List Int} {T:List Ad}
def OL(o:C5):C5:=⟨o.Kind,o.Bits,o.Lanes,o.Dst,o.Args.drop 1,o.Imm⟩
theorem Arg.tail{i:Nat}{v:Int}(h:Arg o (i+1) v):Arg (OL o) i v:=by
 obtain⟨h1,h2⟩:=h;refine⟨by simp[OL];omega,?_⟩;rw[<- h2];simp[OL]
theorem bp{n:Nat}(h:0<n)(hn:n<4611686018427387904):w64 ((n:Int)-1)=((n-1:Nat):Int):=by rw[Ij (by omega) (by omega)];omega
theorem fF{g d c a q:Int}{l l' x:List Int}(hk:o.Kind=18)(hn:o.Args.length=3)(h0:Arg o 0 g)(h1:Arg o 1 c)(h2:Arg o 2 d)(s0:Slot V g (q::l'))(s1:Slot V c (a::l))(s2:Slot V d x)(ha:0<=a)(hm:RA B T) :
  GJ o V F S B T=some (bif q==1 then((RD a o.Bits o.Lanes B T).1,(RD a o.Bits o.Lanes B T).2.1,F,S,(RD a o.Bits o.Lanes B T).2.2.1,V,B) else(x,0,F,S,T,V,B)):=by
 unfold GJ;rw[dk hk (by decide),dk hk (by decide),dk hk (by decide),dk hk (by decide),dk hk (by decide),dk hk (by decide),SF hk,Af];simp only[A2];unfold H3;have e0:=h0.g;have i0:=h0.inb;have e2:=h2.g;have i2:=h2.inb;simp only[Int.cast_ofNat_Int]at e0 i0;rw[Aa i0,e0,KQ s0,Ar]
 cases(q==1)
 ·rw[K2,Af,bp (by omega) (by omega),hn,show((3-1:Nat):Int)=((2:Nat):Int) from rfl,e2,<- hn,Aa i2,Aa s2.inb,s2.is,Ar,FA rfl rfl];rfl
 ·rw[D3,A2,Aa (by omega)]
  show((E9 (OL o) V F S B T).bind λx6=>Aw (V.length=x6.2.2.2.2.2.1.length) (Aw (B.length=x6.2.2.2.2.2.2.length) (some x6))).bind (eX V B)=_
  rw[ov h1.tail s1 ha hm,Ar,Aa rfl,Aa rfl,Ar,FA rfl rfl];rfl
theorem ZX{g c p a q:Int}{l l' L:List Int}(hk:o.Kind=19)(hn:o.Args.length=3)(h0:Arg o 0 g)(h1:Arg o 1 c)(h2:Arg o 2 p)(s0:Slot V g (q::l'))(s1:Slot V c (a::l))(s2:Slot V p L)(ha:0<=a)(hm:RA B T) :
  GJ o V F S B T=some (bif q==1 then([],(WR a o.Bits L B T).1,F,S,(WR a o.Bits L B T).2.1,V,(WR a o.Bits L B T).2.2) else(L,0,F,S,T,V,B)):=by
 unfold GJ;rw[dk hk (by decide),dk hk (by decide),dk hk (by decide),dk hk (by decide),dk hk (by decide),dk hk (by decide),dk hk (by decide),SF hk,Af];simp only[A2];unfold Gp;have e0:=h0.g;have i0:=h0.inb;have e2:=h2.g;have i2:=h2.inb;simp only[Int.cast_ofNat_Int]at e0 i0;rw[Aa i0,e0,KQ s0,Ar]
 cases(q==1)
 ·rw[K2,Af,bp (by omega) (by omega),hn,show((3-1:Nat):Int)=((2:Nat):Int) from rfl,e2,<- hn,Aa i2,Aa s2.inb,s2.is,Ar,FA rfl rfl];rfl
 ·rw[D3,A2,Aa (by omega)]
  show((Em (OL o) V F S B T).bind λx6=>Aw (V.length=x6.2.2.2.2.2.1.length) (Aw (B.length=x6.2.2.2.2.2.2.length) (some x6))).bind (eX V B)=_
  rw[kC h1.tail h2.tail s1 s2 ha hm,Ar,Aa rfl,Aa (show B.length=(WR a (OL o).Bits L B T).2.2.length from WR_len.symm),Ar,FA rfl WR_len.symm];rfl
theorem uz{g p r d q:Int}{l' A C x:List Int}(hk:o.Kind=20)(hn:o.Args.length=4)(hw:UZ o.Bits)(h0:Arg o 0 g)(h1:Arg o 1 p)(h2:Arg o 2 r)(h3:Arg o 3 d)(s0:Slot V g (q::l'))(s1:Slot V p A)(s2:Slot V r C)(s3:Slot V d x)
  (hl:C.length=A.length) (hr:A.length<=64) (hA:∀ x∈A,u64 x) (hC:∀ x∈C,u64 x) :
  GJ o V F S B T=some (Oq (bif q==1 then JZ 4 o.Bits A C else(x,0)) V F S B T):=by
 unfold GJ;rw[dk hk (by decide),dk hk (by decide),dk hk (by decide),dk hk (by decide),dk hk (by decide),dk hk (by decide),dk hk (by decide),dk hk (by decide),SF hk,Af];simp only[A2];unfold Gq;have e0:=h0.g;have i0:=h0.inb;have e3:=h3.g;have i3:=h3.inb;simp only[Int.cast_ofNat_Int]at e0 i0;rw[Aa i0,e0,KQ s0,Ar]
 cases(q==1)
 ·rw[K2,Af,bp (by omega) (by omega),hn,show((4-1:Nat):Int)=((3:Nat):Int) from rfl,e3,<- hn,Aa i3,Aa s3.inb,s3.is];rfl
 ·rw[D3,A2,Aa (by omega)]
  show((Ao (OL o) 4 V F S B T).bind λx6=>some (x6.1,x6.2)).bind (λx=>some (Oq x V F S B T))=_
  rw[wB (o:=OL o) (k:=4) (by decide) hw h1.tail h2.tail s1 s2 hl hr hA hC];rfl
theorem yJ{c:Int}{A:List Int}(hk:o.Kind=22)(h0:Arg o 0 c)(s0:Slot V c A)(hi:0<=o.Imm/\o.Imm<A.length):GJ o V F S B T=some ([A.getD o.Imm.toNat 0],0,F,S,T,V,B):=by
 unfold GJ;rw[dk hk (by decide),dk hk (by decide),dk hk (by decide),dk hk (by decide),dk hk (by decide),dk hk (by decide),dk hk (by decide),dk hk (by decide),dk hk (by decide),dk hk (by decide),SF hk];unfold Me;have e0:=h0.g;have i0:=h0.inb;simp only[Int.cast_ofNat_Int]at e0 i0;rw[Aa i0,e0,Aa s0.inb,s0.is,Aa (show A0 _ _ from hi)];rfl
theorem uw {g : Nat → Int} (hk : o.Kind = 21) (hs : ∀ i, i < o.Args.length → ∃ l, Slot V (o.Args.getD i 0) (g i :: l)) (hr : o.Args.length ≤ 64) : GJ o V F S B T = some ((List.range o.Args.length).map g, 0, F, S, T, V, B) := by
  unfold GJ; rw [dk hk (by decide), dk hk (by decide), dk hk (by decide), dk hk (by decide), dk hk (by decide), dk hk (by decide), dk hk (by decide), dk hk (by decide), dk hk (by decide), SF hk]; unfold Lm
  have hroom : ((o.Args.length : Int)) ≤ (room : Int) := by have : 64 ≤ room := by decide
                                                            omega
  have hL := Dt (Je o V F S B T) (fun i => (i, (List.range i).map g ++ List.replicate (o.Args.length - i) 0)) ((List.range o.Args.length).map g) _
    (fun i hi => by
      obtain ⟨l, hs⟩ := hs i hi; unfold Je; simp only [B8 hi, Af, Aa (Ak hi), Aq, Uo hs, Ar, w1 (show i < 4611686018427387904 by omega)]
      rw [Aa (Ak (by simp; omega)), fV hi])
    (by
      unfold Je
      simp only [Ee, A2, Nat.sub_self, List.replicate_zero, List.append_nil])
  have hL' : Ac _ ((0 : Int), List.replicate o.Args.length _) = _ := hL; rw [Aa ⟨by omega, by omega, hroom⟩, Aq, hL']; rfl
end
theorem tz(V:Vs)(F S:Int)(B:List Int)(T:List Ad):Ls V F S B T=some ():=by kernel_rfl
def CD(ps ags:List Int)(i:Nat):List Int:=[ags.getD i 0 % 2 ^ (ps.getD i 0).toNat]
def Xv(f:TFunc)(ags:List Int)(n:Nat):Vs:=
 ((f.Blocks.getD 0 default).Phis).foldl (λV p=>V.set p.Dst.toNat [0]) ([]::((List.range f.Params.length).map (CD f.Params ags)++List.replicate (n-f.Params.length) []))
theorem vL{g:Nat->List Int}{n i:Nat}(h:i<n):(([]:List Int)::((List.range i).map g++List.replicate (n-i) [])).set (i+1) (g i)=[]::((List.range (i+1)).map g++List.replicate (n-(i+1)) []):=by
 obtain⟨m,hm⟩:∃ m,n-i=m+1:=⟨n-i-1,by omega⟩
 have hm':n-(i+1)=m:=by omega
 rw[hm,hm',MN,  Zr,GR]
 simp
theorem XH{l:List Fe}{V:Vs}:(l.foldl (λV p=>V.set p.Dst.toNat [0]) V).length=V.length:=by
 induction l generalizing V with
 | nil=>rfl
 | cons p l ih=>grind
theorem RT{f:TFunc}(hn:((f.Blocks.getD 0 default).Phis).length<4611686018427387904):∀(k i:Nat) (V:Vs),i+k=((f.Blocks.getD 0 default).Phis).length->(∀ p∈(f.Blocks.getD 0 default).Phis,A0 p.Dst V.length)->
  Ac (Lt f) ((i:Int),V)=some ((((f.Blocks.getD 0 default).Phis).drop i).foldl (λV p=>V.set p.Dst.toNat [0]) V)
 | 0,i,V,h,_=>by
  obtain rfl:i=((f.Blocks.getD 0 _).Phis).length:=by omega
  rw[List.drop_length];refine An ?_
  show(bif decide _ then _ else _)=_
  rw[show((0:Int)).toNat=0 from rfl,Ee];rfl
 | k+1,i,V,h,hp=>by
  have hi:i<((f.Blocks.getD 0 default).Phis).length:=by omega
  have hd:((f.Blocks.getD 0 default).Phis).drop i=((f.Blocks.getD 0 default).Phis).getD i default::((f.Blocks.getD 0 default).Phis).drop (i+1):=by simp_all
  rw[hd,EI,<- RT hn k _ _ (by omega) (λp hpp=>by grind)];refine Au ?_;unfold Lt;simp only[show((0:Int)).toNat=0 from rfl,B8 hi,Af,Aa (Ak hi),Aq,K7,Ar,Aa (hp _ (Ai hi)),w1 (show i<4611686018427387904 by omega)]
theorem tv{f:TFunc}{ags:List Int}{n:Nat}(F S:Int)(B:List Int)(T:List Ad)(hl:ags.length=f.Params.length)(hw:∀ w∈f.Params,UZ w)(ha:∀ a∈ags,u64 a)(hn:f.Params.length<=n)(hn':n<4000000)(hb:0<f.Blocks.length)
  (hpl:((f.Blocks.getD 0 default).Phis).length<4611686018427387904) (hp:∀ p∈(f.Blocks.getD 0 default).Phis,A0 p.Dst (n+1)) :
  Kp f ags (List.replicate (n+1) []) F S B T=some (F,S,T,Xv f ags n,B):=by
 have hL:=Dt (F6 f ags) (λi=>((i:Int),([]:List Int)::((List.range i).map (CD f.Params ags)++List.replicate (n-i) _))) ([]::((List.range f.Params.length).map (CD f.Params ags)++List.replicate (n-f.Params.length) [])) f.Params.length
  (λi hi=>by
   unfold F6;simp only[B8 hi,Af,Aa (Ak hi),Aa (Ak (show i<ags.length by omega)),Aq,YS (hw _ (Ai hi)) (ha _ (Ai (show i<ags.length by omega))),K7,Ar,w1 (show i<4611686018427387904 by omega)];rw[Aa (Ak (by simp;omega))];have:=vL (g:=CD f.Params ags) (show i<n by omega);unfold CD at this ⊢
   rw[this])
  (by
   unfold F6
   simp only[Ee,A2])
 have hL':Ac (F6 f ags) ((0:Int),List.replicate (n+1) [])=some ([]::((List.range f.Params.length).map (CD f.Params ags)++List.replicate (n-f.Params.length) [])):=by grind
 unfold Kp;rw[hL',Ar,Aa (⟨Int.le_refl _,by omega⟩)]
 have h2:=RT hpl ((f.Blocks.getD 0 default).Phis).length 0 ([]::((List.range f.Params.length).map (CD f.Params ags)++List.replicate (n-f.Params.length) [])) (by omega) (λp hpp=>by
  grind)
 have h2':Ac _ ((0:Int),[]::((List.range _).map _++List.replicate _ []))=some _:=h2;rw[h2'];rfl
def Aa2(V:Vs)(B:List Int)(x:RR):Option (PK×Int×List Ad×List Int):=Aw (V.length=x.2.2.2.2.1.length) (Aw (B.length=x.2.2.2.2.2.length) (some (x.1,0,x.2.2.2.1,x.2.2.2.2.2)))
theorem RS{f:TFunc}{ags:List Int}{n:Nat}(hn:f.Params.length<=n):(Xv f ags n).length=n+1:=by
 unfold Xv;rw[XH]
 simp
 omega
theorem Aac {f : TFunc} {ags : List Int} {n : Nat} {F : Int} {B : List Int} {T : List Ad} (hF : 0 ≤ F) (hc : O6 f 2 = some 0) (hlast : Qq f = some (n : Int)) (hl : ags.length = f.Params.length) (hw : ∀ w ∈ f.Params, UZ w) (ha : ∀ a ∈ ags, u64 a) (hn : f.Params.length ≤ n) (hn' : n < 4000000)
    (hb : 0 < f.Blocks.length) (hpl : ((f.Blocks.getD 0 default).Phis).length < 4611686018427387904) (hp : ∀ p ∈ (f.Blocks.getD 0 default).Phis, A0 p.Dst (n + 1)) :
    Jr f ags F B T = (Ac (Bn f.Blocks) (0, F, 0, T, Xv f ags n, B)).bind (Aa2 (Xv f ags n) B) := by
  have hroom : (((n + 1 : Nat) : Int)) ≤ (room : Int) := by have : 4000001 ≤ room := by decide
                                                            omega
  have e1 : (decide (F < 0)) = false := C0 (by omega)
  have e2 : (ags.length != (f.Params.length : Int)) = false := by rw [hl]; simp
  unfold Jr; rw [e1, A2, e2, show (false == false) = true from rfl, Af, hc, Ar,  show ((0 : Int) != 0) = false from rfl,  hlast, Ar, w1 (show n < 4611686018427387904 by omega), Aa ⟨by omega, by omega, hroom⟩, Aq, tz, Ar, tv F 0 B T hl hw ha hn hn' hb hpl hp, Ar]; rw [Aa (show (List.replicate _ _).length = (Xv f ags n).length by rw [RS hn, K1]), Aa rfl]; rw [yS]
  rfl
theorem kF{V:Vs}{F S:Int}{B:List Int}{T:List Ad}:f6 [] V F S B T=some (0,F,S,T,V,B):=rfl
theorem xl{o:C5}{l:List C5}{V V':Vs}{F S:Int}{B B':List Int}{T T':List Ad}{L:List Int}(hs:S≠F)(ho:GJ o V F (w64 (S+1)) B T=some (L,0,F,w64 (S+1),T',V',B'))(hd:A0 o.Dst V'.length) :
  f6 (o::l) V F S B T=f6 l (V'.set o.Dst.toNat L) F (w64 (S+1)) B' T':=by
 rw[f6,show(S==F)=false by simpa using hs,A2,ho,Ar];rw[show((0:Int)!=0)=false from rfl,A2,Aa hd]
theorem uH{o:C5}{l:List C5}{V V':Vs}{F S e:Int}{B B':List Int}{T T':List Ad}{L:List Int}(hs:S≠F)(ho:GJ o V F (w64 (S+1)) B T=some (L,e,F,w64 (S+1),T',V',B'))(he:e≠0) :
  f6 (o::l) V F S B T=some (e,F,w64 (S+1),T',V',B'):=by
 rw[f6,show(S==F)=false by simpa using hs,A2,ho,Ar];rw[show(e !=0)=true by simpa using he,Af]
theorem uI{o:C5}{l:List C5}{V:Vs}{F:Int}{B:List Int}{T:List Ad}:f6 (o::l) V F F B T=some (9,F,F,T,V,B):=by
 rw[f6,show(F==F)=true by simp,Af]
theorem kx{b:Int}(h:widthB b=true):UZ b:=width_cases h
def Has(V:Vs)(v n:Int):Prop:=∃ l:List Int,Slot V v l/\(l.length:Int)=n/\∀ x∈l,u64 x
theorem Has.one{V:Vs}{v:Int}(h:Has V v 1):∃ a,Slot V v [a]/\u64 a:=by
 obtain⟨l,h1,h2,h3⟩:=h;rcases l with _|⟨a,_|⟨b,l⟩⟩
 ·cases h2
 ·grind
 ·grind
theorem Has.set{V:Vs}{v n d:Int}{L:List Int}(h:Has V v n)(hd:0<=d)(hne:v≠d):Has (V.set d.toNat L) v n:=by
 obtain⟨l,⟨h1,h2,h3⟩,h4⟩:=h;refine⟨l,⟨h1,by grind,?_⟩,h4⟩;rw[<- h3];simp only[KD];rw[List.getElem?_set_ne (by omega)]
theorem Has.new{V:Vs}{n d:Int}{L:List Int}(hd:A0 d V.length)(hl:(L.length:Int)=n)(hu:∀ x∈L,u64 x):Has (V.set d.toNat L) d n:=by
 have h1:=hd.1;have h2:=hd.2;refine⟨L,⟨h1,by grind,?_⟩,hl,hu⟩;simp only[KD];rw[List.getElem?_set_self (by omega)]
 rfl
theorem jE{w:Bool}{x:Ad}:∀{l:List Int} {a:Nat},x∈f9 w a l->(a:Int)<=x.At/\x.At<(a:Int)+l.length
 | [],a,h=>by cases h
 | b::l,a,h=>by
  rcases zzL28.1 h with rfl|h
  ·grind
  ·have:=jE h;simp only[GQ];omega
theorem ip{B:List Int}{s:Nat}{x:Ad}:∀{n cur:Nat},x∈(KJ B s n cur).2.2->0<=x.At/\x.At<B.length
 | 0,cur,h=>by cases h
 | n+1,cur,h=>by
  unfold KJ at h
  split at h
  ·rename_i hc
   rcases zzL14.1 h with h1|h1
   ·have:=jE h1;rw[JY hc]at this;omega
   ·exact ip h1
  ·cases h
theorem fM{B:List Int}{s:Nat}(hB:Th B):∀{n cur:Nat},(KJ B s n cur).2.1=true->(KJ B s n cur).1.length=n/\∀ x∈(KJ B s n cur).1,0<=x/\x<256 ^ s
 | 0,cur,h=>⟨rfl,by intro x hx;cases hx⟩
 | n+1,cur,h=>by
  unfold KJ at h ⊢
  split at h
  ·rename_i hc
   rw[if_pos hc];obtain⟨h1,h2⟩:=fM hB   h;refine⟨by simp[h1],λx hx=>?_⟩;rcases zzL28.1 hx with rfl|hx
   ·have:=mY (vS (a:=cur) (s:=s) hB);rwa[JY hc]at this
   ·exact h2 x hx
  ·cases h
theorem qs{s:Nat}{x:Ad}:∀{l:List Int} {cur:Nat} {B:List Int},x∈(MI s l cur B).2.1->0<=x.At/\x.At<B.length
 | [],cur,B,h=>by cases h
 | v::l,cur,B,h=>by
  unfold MI at h
  split at h
  ·rcases zzL14.1 h with h1|h1
   ·have:=jE h1;rw[bZ]at this;omega
   ·have:=qs h1;rwa[JQ]at this
  ·cases h
theorem Aa3{s:Nat}(h:s<=8):(256:Int) ^ s<=18446744073709551616:=by
 have hc:s=0\/s=1\/s=2\/s=3\/s=4\/s=5\/s=6\/s=7\/s=8:=by omega
 rcases hc with rfl|rfl|rfl|rfl|rfl|rfl|rfl|rfl|rfl<;>decide
structure OpD(o:C5)(V:Vs)(B:List Int)(L:List Int)(e:Int)(t:List Ad)(B':List Int):Prop where
 is:∀(F S:Int) (T:List Ad),T.length+128<=room->GJ o V F S B T=some (L,e,F,S,T++t,V,B')
 code:e=0\/e=8
 by_:Th B'
 len:B'.length=B.length
 tl:t.length<=128
 tin:∀ x∈t,0<=x.At/\x.At<B.length
 shape:e=0->o.Kind≠17->o.Kind≠19->(L.length:Int)=(R3 o.Kind o.Bits o.Lanes).2/\∀ x∈L,u64 x
theorem OpD.pure_{o:C5}{V:Vs}{B L:List Int}(hB:Th B)(h:∀(F S:Int) (T:List Ad),GJ o V F S B T=some (L,0,F,S,T,V,B))(hs:o.Kind≠17->o.Kind≠19->(L.length:Int)=(R3 o.Kind o.Bits o.Lanes).2/\∀ x∈L,u64 x):OpD o V B L 0 [] B:=
 ⟨λF S T _=>by rw[h,List.append_nil],.inl rfl,hB,rfl,L6 _,(by intro x hx;cases hx),λ_=>hs⟩
theorem ku{k w:Int}{A C:List Int}(hk:1<=k/\k<=12)(hw:UZ w)(hl:C.length=A.length)(hA:∀ x∈A,u64 x)(hC:∀ x∈C,u64 x) :
  ((JZ k w A C).2=0\/(JZ k w A C).2=8)/\((JZ k w A C).2=0->(JZ k w A C).1.length=A.length/\∀ x∈(JZ k w A C).1,u64 x):=by
 unfold JZ
 cases(List.range _).all _ with
 | false=>grind
 | true=>
  refine⟨.inl rfl,λ_=>⟨by simp,λx hx=>?_⟩⟩;obtain⟨i,hi,rfl⟩:=zzL27.1 hx;have hi:=zzL37.1 hi;obtain⟨v,e,h1,h2,h3,_⟩:=Aab hk hw (hA _ (Ai  hi)) (hC _ (Ai  (i:=i) (by omega)));unfold sB;rw[h1];exact MF hw h2 h3
section
variable {o:C5} {V:Vs} {B:List Int} (hB:Th B) (hBl:B.length<4611686018427387904)
include hB hBl
theorem eJ{a:Int}(hb:cw o.Bits=true)(hn:1<=o.Lanes/\o.Lanes<=16):∃ L e t,(∀ T:List Ad,RD a o.Bits o.Lanes B T=(L,e,T++t,B))/\(e=0\/e=8)/\t.length<=128/\(∀ x∈t,0<=x.At/\x.At<B.length)/\(e=0->(L.length:Int)=o.Lanes/\∀ x∈L,u64 x):=by
 have hm:LC o.Bits o.Lanes=true:=by
  unfold LC;rw[hb,Cr (show 0<=o.Lanes by omega),Cr hn.2];rfl
 obtain⟨s,h1,h2,h3,_⟩:=qp hb
 have hs:(o.Bits / 8).toNat=s:=by rw[h1];exact Aq s
 have hlen:=vC (B:=B) (s:=s) o.Lanes.toNat a.toNat;have hle:o.Lanes.toNat*s<=16*8:=Nat.mul_le_mul (by omega) h3
 cases hr:(KJ B s o.Lanes.toNat _).2.1 with
 | true=>
  obtain⟨g1,g2⟩:=fM hB hr;refine⟨(KJ B s _ _).1,0,(KJ B s o.Lanes.toNat a.toNat).2.2,λT=>?_,.inl rfl,by omega,λx hx=>ip hx,λ_=>⟨by rw[g1];omega,λx hx=>?_⟩⟩
  ·unfold RD;rw[if_pos hm,hs,if_pos hr]
  ·have:=g2 x hx;have:=Aa3 h3;exact⟨by omega,by omega⟩
 | false=>
  refine⟨[],8,(KJ B s o.Lanes.toNat a.toNat).2.2,λT=>?_,.inr rfl,by omega,λx hx=>ip hx,λh=>by cases h⟩;unfold RD;rw[if_pos hm,hs,if_neg (by rw[hr];simp)]
theorem aq{a:Int}{L:List Int}(hb:cw o.Bits=true)(hn:L.length<=16):∃ e t B',(∀ T:List Ad,WR a o.Bits L B T=(e,T++t,B'))/\(e=0\/e=8)/\Th B'/\B'.length=B.length/\t.length<=128/\(∀ x∈t,0<=x.At/\x.At<B.length):=by
 have hm:LC o.Bits L.length=true:=by
  unfold LC;rw[hb, Cr (show(L.length:Int)<=16 by omega)];rfl
 obtain⟨s,h1,h2,h3,_⟩:=qp hb
 have hs:(o.Bits / 8).toNat=s:=by rw[h1];exact Aq s
 obtain⟨g1,g2⟩:=kz  L _ B;have hle :=Nat.mul_le_mul hn h3;refine⟨if(MI s L a.toNat B).1=true then 0 else 8,(MI s L a.toNat B).2.1,(MI s L a.toNat B).2.2,λT=>?_,?_,yW L _ hB,g2,by omega,λx hx=>qs hx⟩
 ·unfold WR;rw[if_pos hm,hs]
 ·omega
theorem yK(hm:Jq o=true)(hi:u64 o.Imm)(ha:∀ j:Nat,j<o.Args.length->Has V (o.Args.getD j 0) (Ds o j).2):∃ L e t B',OpD o V B L e t B':=by
 obtain⟨hs,hk,hf,hif,hn,_,_⟩:=Vt hm;have hk2:=xp hk;have hw:=kx (Qa hs);have hln:=P9 hs
 have hl16:1<=o.Lanes/\o.Lanes<=16:=by omega
 have arg:∀ j:Nat,j<o.Args.length->Arg o j (o.Args.getD j 0):=λj hj=>⟨hj,rfl⟩
 have wdb:∀{b:Int},widthB b=true->8<=b->cw b=true:=λ{b} h1 h2=>by
  rcases width_cases h1 with rfl|rfl|rfl|rfl|rfl
  ·omega
  all_goals rfl
 have hwb:=Qa hs;have mo:∀ T:List Ad,T.length+128<=room->RA B T:=λT hT=>⟨hB,hBl,hT⟩
 by_cases k0:o.Kind=0
 ·refine⟨_,_,_,_,.pure_ hB (λF S T=>p9 k0 hl16) λ_ _=>⟨?_,λx hx=>?_⟩⟩
  ·rw[k0,K1];show((o.Lanes.toNat:Nat):Int)=o.Lanes;omega
  ·rw[List.eq_of_mem_replicate hx];exact hi
 by_cases k12:o.Kind<=12
 ·have hk':1<=o.Kind/\o.Kind<=12:=by omega
  have hnn:L4 o.Kind o.Lanes=2:=by
   have hc:o.Kind=1\/o.Kind=2\/o.Kind=3\/o.Kind=4\/o.Kind=5\/o.Kind=6\/o.Kind=7\/o.Kind=8\/o.Kind=9\/o.Kind=10\/o.Kind=11\/o.Kind=12:=by omega
   rcases hc with e|e|e|e|e|e|e|e|e|e|e|e<;>rw[e]<;>rfl
  have he:∀ j,(Ds o j).2=o.Lanes:=λj=>by
   unfold Ds
   have hc:o.Kind=1\/o.Kind=2\/o.Kind=3\/o.Kind=4\/o.Kind=5\/o.Kind=6\/o.Kind=7\/o.Kind=8\/o.Kind=9\/o.Kind=10\/o.Kind=11\/o.Kind=12:=by omega
   rcases hc with e|e|e|e|e|e|e|e|e|e|e|e<;>rw[e]<;>rfl
  have h0:=ha 0 (by omega);have h1:=ha 1 (by omega);rw[he]at h0 h1;obtain⟨A,s0,lA,uA⟩:=h0;obtain⟨C,s1,lC,uC⟩:=h1
  have hl:C.length=A.length:=by omega
  obtain⟨g1,g2⟩:=ku hk' hw hl uA uC;refine⟨(JZ o.Kind o.Bits A C).1,(JZ o.Kind o.Bits A C).2,[],B,⟨λF S T _=>?_,g1,hB,rfl,L6 _,(by intro x hx;cases hx),λh _ _=>?_⟩⟩
  ·rw[yL hk' hw (arg 0 (by omega)) (arg 1 (by omega)) s0 s1 hl (by omega) uA uC,List.append_nil];rfl
  ·obtain⟨g3,g4⟩:=g2 h;refine⟨?_,g4⟩;rw[g3,lA]
   have hc:o.Kind=1\/o.Kind=2\/o.Kind=3\/o.Kind=4\/o.Kind=5\/o.Kind=6\/o.Kind=7\/o.Kind=8\/o.Kind=9\/o.Kind=10\/o.Kind=11\/o.Kind=12:=by omega
   rcases hc with e|e|e|e|e|e|e|e|e|e|e|e<;>rw[e]at hf ⊢<;>first|rfl|(exact(by simpa [sfitS] using hf:o.Lanes=1))
 by_cases k13:o.Kind=13
 ·have hnn:L4 o.Kind o.Lanes=3:=by rw[k13];rfl
  have h0:=ha 0 (by omega);have h1:=ha 1 (by omega);have h2:=ha 2 (by omega);rw[show(Ds o 0).2=1 by unfold Ds;rw[k13];rfl]at h0;rw[show(Ds o 1).2=o.Lanes by unfold Ds;rw[k13];rfl]at h1;rw[show(Ds o 2).2=o.Lanes by unfold Ds;rw[k13];rfl]at h2;obtain⟨c,s0,uc⟩:=h0.one;obtain⟨x,s1,lx,ux⟩:=h1;obtain⟨y,s2,ly,uy⟩:=h2;refine⟨_,_,_,_,.pure_ hB (λF S T=>me k13 (arg 0 (by omega)) (arg 1 (by omega)) (arg 2 (by omega)) s0 s1 s2) λ_ _=>?_⟩;rw[k13]
  show(((bif c==1 then x else y).length:Nat):Int)=o.Lanes/\_
  cases(c==1)
  ·exact⟨ly,uy⟩
  ·exact⟨lx,ux⟩
 by_cases k14:o.Kind=14
 ·have hnn:L4 o.Kind o.Lanes=1:=by rw[k14];rfl
  have h0:=ha 0 (by omega);rw[show(Ds o 0).2=1 by unfold Ds;rw[k14];rfl]at h0;obtain⟨c,s0,uc⟩:=h0.one
  have hi2:widthB o.Imm=true/\o.Imm<o.Bits:=by
   rw[k14]at hif;have:(widthB o.Imm&&decide (o.Imm<o.Bits))=true:=hif
   simpa using this
  have hw64:w64 o.Imm=o.Imm:=by rcases width_cases hi2.1 with e|e|e|e|e<;>rw[e]<;>rfl
  have hL1:o.Lanes=1:=by rw[k14]at hf;simpa [sfitS] using hf
  have hwi:UZ (w64 o.Imm):=by rw[hw64];exact kx hi2.1
  refine⟨_,_,_,_,.pure_ hB (λF S T=>u0 k14 (arg 0 (by omega)) s0 hwi hw (by rw[hw64];exact hi2.2) uc) λ_ _=>⟨?_,λx hx=>?_⟩⟩
  ·rw[k14];show((1:Nat):Int)=o.Lanes;omega
  ·obtain rfl:x=_:=by simpa using hx
   exact MF hwi (Ua hwi c).1 (Ua hwi c).2
 by_cases k15:o.Kind=15
 ·have hnn:L4 o.Kind o.Lanes=1:=by rw[k15];rfl
  have h0:=ha 0 (by omega);rw[show(Ds o 0).2=1 by unfold Ds;rw[k15];rfl]at h0;obtain⟨c,s0,uc⟩:=h0.one
  have hi2:widthB o.Imm=true/\o.Bits<o.Imm:=by
   rw[k15]at hif;have:(widthB o.Imm&&decide (o.Bits<o.Imm))=true:=hif
   simpa using this
  have hw64:w64 o.Imm=o.Imm:=by rcases width_cases hi2.1 with e|e|e|e|e<;>rw[e]<;>rfl
  have hL1:o.Lanes=1:=by rw[k15]at hf;simpa [sfitS] using hf
  have hwi:UZ (w64 o.Imm):=by rw[hw64];exact kx hi2.1
  refine⟨_,_,_,_,.pure_ hB (λF S T=>qB k15 (arg 0 (by omega)) s0 hwi hw (by rw[hw64];exact hi2.2) uc) λ_ _=>⟨?_,λx hx=>?_⟩⟩
  ·rw[k15];show((1:Nat):Int)=o.Lanes;omega
  ·obtain rfl:x=_:=by simpa using hx
   exact MF hw (Ua hw c).1 (Ua hw c).2
 by_cases k16:o.Kind=16
 ·have hnn:L4 o.Kind o.Lanes=1:=by rw[k16];rfl
  have h0:=ha 0 (by omega);rw[show(Ds o 0).2=1 by unfold Ds;rw[k16];rfl]at h0;obtain⟨c,s0,uc⟩:=h0.one;have hb:cw o.Bits=true:=wdb hwb (by rw[k16]at hf;simpa [sfitS] using hf);obtain⟨L,e,t,g1,g2,g3,g4,g5⟩:=eJ hB hBl (o:=o) (a:=c) hb hl16;refine⟨L,e,t,B,⟨λF S T hT=>?_,g2,hB,rfl,g3,g4,λh _ _=>?_⟩⟩
  ·rw[uv k16 (arg 0 (by omega)) s0 uc.1 (mo T hT),g1]
  ·rw[k16];exact g5 h
 by_cases k17:o.Kind=17
 ·have hnn:L4 o.Kind o.Lanes=2:=by rw[k17];rfl
  have h0:=ha 0 (by omega);have h1:=ha 1 (by omega);rw[show(Ds o 0).2=1 by unfold Ds;rw[k17];rfl]at h0;rw[show(Ds o 1).2=o.Lanes by unfold Ds;rw[k17];rfl]at h1;obtain⟨c,s0,uc⟩:=h0.one;obtain⟨x,s1,lx,ux⟩:=h1;have hb:cw o.Bits=true:=wdb hwb (by rw[k17]at hf;simpa [sfitS] using hf);obtain⟨e,t,B',g1,g2,g3,g4,g5,g6⟩:=aq hB hBl (o:=o) (a:=c) (L:=x) hb (by omega);refine⟨[],e,t,B',⟨λF S T hT=>?_,g2,g3,g4,g5,g6,λ_ h=>absurd k17 h⟩⟩;rw[qA k17 (arg 0 (by omega)) (arg 1 (by omega)) s0 s1 uc.1 (mo T hT),g1]
 by_cases k18:o.Kind=18
 ·have hnn:L4 o.Kind o.Lanes=3:=by rw[k18];rfl
  have h0:=ha 0 (by omega);have h1:=ha 1 (by omega);have h2:=ha 2 (by omega);rw[show(Ds o 0).2=1 by unfold Ds;rw[k18];rfl]at h0;rw[show(Ds o 1).2=1 by unfold Ds;rw[k18];rfl]at h1;rw[show(Ds o 2).2=o.Lanes by unfold Ds;rw[k18];rfl]at h2;obtain⟨q,s0,uq⟩:=h0.one;obtain⟨c,s1,uc⟩:=h1.one;obtain⟨x,s2,lx,ux⟩:=h2
  have hfb:8<=o.Bits/\o.Lanes=1:=by rw[k18]at hf;simpa [sfitS] using hf
  have hb:cw o.Bits=true:=wdb hwb hfb.1
  cases hq:(q==1) with
  | true=>
   obtain⟨L,e,t,g1,g2,g3,g4,g5⟩:=eJ hB hBl (o:=o) (a:=c) hb hl16;refine⟨L,e,t,B,⟨λF S T hT=>?_,g2,hB,rfl,g3,g4,λh _ _=>?_⟩⟩
   ·rw[fF k18 (by omega) (arg 0 (by omega)) (arg 1 (by omega)) (arg 2 (by omega)) s0 s1 s2 uc.1 (mo T hT),hq,Af,g1]
   ·rw[k18];exact g5 h
  | false=>
   refine⟨x,0,[],B,⟨λF S T hT=>?_,.inl rfl,hB,rfl,L6 _,(by intro x hx;cases hx),λh _ _=>?_⟩⟩
   ·rw[fF k18 (by omega) (arg 0 (by omega)) (arg 1 (by omega)) (arg 2 (by omega)) s0 s1 s2 uc.1 (mo T hT),hq,A2,List.append_nil]
   ·rw[k18];exact⟨lx,ux⟩
 by_cases k19:o.Kind=19
 ·have hnn:L4 o.Kind o.Lanes=3:=by rw[k19];rfl
  have h0:=ha 0 (by omega);have h1:=ha 1 (by omega);have h2:=ha 2 (by omega);rw[show(Ds o 0).2=1 by unfold Ds;rw[k19];rfl]at h0;rw[show(Ds o 1).2=1 by unfold Ds;rw[k19];rfl]at h1;rw[show(Ds o 2).2=o.Lanes by unfold Ds;rw[k19];rfl]at h2;obtain⟨q,s0,uq⟩:=h0.one;obtain⟨c,s1,uc⟩:=h1.one;obtain⟨x,s2,lx,ux⟩:=h2
  have hfb:8<=o.Bits/\o.Lanes=1:=by rw[k19]at hf;simpa [sfitS] using hf
  have hb:cw o.Bits=true:=wdb hwb hfb.1
  cases hq:(q==1) with
  | true=>
   obtain⟨e,t,B',g1,g2,g3,g4,g5,g6⟩:=aq hB hBl (o:=o) (a:=c) (L:=x) hb (by omega);refine⟨[],e,t,B',⟨λF S T hT=>?_,g2,g3,g4,g5,g6,λ_ _ h=>absurd k19 h⟩⟩;rw[ZX k19 (by omega) (arg 0 (by omega)) (arg 1 (by omega)) (arg 2 (by omega)) s0 s1 s2 uc.1 (mo T hT),hq,Af,g1]
  | false=>
   refine⟨x,0,[],B,⟨λF S T hT=>?_,.inl rfl,hB,rfl,L6 _,(by intro x hx;cases hx),λ_ _ h=>absurd k19 h⟩⟩;rw[ZX k19 (by omega) (arg 0 (by omega)) (arg 1 (by omega)) (arg 2 (by omega)) s0 s1 s2 uc.1 (mo T hT),hq,A2,List.append_nil]
 by_cases k20:o.Kind=20
 ·have hnn:L4 o.Kind o.Lanes=4:=by rw[k20];rfl
  have h0:=ha 0 (by omega);have h1:=ha 1 (by omega);have h2:=ha 2 (by omega);have h3:=ha 3 (by omega);rw[show(Ds o 0).2=1 by unfold Ds;rw[k20];rfl]at h0;rw[show(Ds o 1).2=o.Lanes by unfold Ds;rw[k20];rfl]at h1;rw[show(Ds o 2).2=o.Lanes by unfold Ds;rw[k20];rfl]at h2;rw[show(Ds o 3).2=o.Lanes by unfold Ds;rw[k20];rfl]at h3;obtain⟨q,s0,uq⟩:=h0.one;obtain⟨A,s1,lA,uA⟩:=h1;obtain⟨C,s2,lC,uC⟩:=h2;obtain⟨x,s3,lx,ux⟩:=h3
  have hl:C.length=A.length:=by omega
  have key:=λF S T=>uz (F:=F) (S:=S) (B:=B) (T:=T) k20 (by omega) hw (arg 0 (by omega)) (arg 1 (by omega)) (arg 2 (by omega)) (arg 3 (by omega)) s0 s1 s2 s3 hl (by omega) uA uC
  cases hq:(q==1) with
  | true=>
   obtain⟨g1,g2⟩:=ku (k:=4) (by omega) hw hl uA uC;refine⟨(JZ 4 o.Bits A C).1,(JZ 4 o.Bits A C).2,[],B,⟨λF S T _=>?_,g1,hB,rfl,L6 _,(by intro x hx;cases hx),λh _ _=>?_⟩⟩
   ·rw[key,hq,List.append_nil];rfl
   ·obtain⟨g3,g4⟩:=g2 h;rw[k20];exact⟨by rw[g3];exact lA,g4⟩
  | false=>
   refine⟨x,0,[],B,⟨λF S T hT=>?_,.inl rfl,hB,rfl,L6 _,(by intro x hx;cases hx),λh _ _=>?_⟩⟩
   ·rw[key,hq,List.append_nil];rfl
   ·rw[k20];exact⟨lx,ux⟩
 by_cases k21:o.Kind=21
 ·have hnn:L4 o.Kind o.Lanes=o.Lanes:=by rw[k21];rfl
  have he:∀ j,(Ds o j).2=1:=λj=>by unfold Ds;rw[k21];rfl
  have hs:∀ i,i<o.Args.length->∃ l,Slot V (o.Args.getD i 0) ((V.getD (o.Args.getD i 0).toNat []).getD 0 0::l)/\u64 ((V.getD (o.Args.getD i 0).toNat []).getD 0 0):=λi hi=>by
   have h:=ha i hi;rw[he]at h;obtain⟨a,s,u⟩:=h.one;exact⟨[],by rw[s.is];exact s,by rw[s.is];exact u⟩
  refine⟨_,_,_,_,.pure_ hB (λF S T=>uw (g:=λi=>(V.getD (o.Args.getD i 0).toNat []).getD 0 0) k21 (λi hi=>by obtain⟨l,h1,_⟩:=hs i hi;exact⟨l,h1⟩) (by omega)) λ_ _=>⟨?_,λx hx=>?_⟩⟩
  ·rw[k21,Xh,EH];show((o.Args.length:Nat):Int)=o.Lanes;omega
  ·obtain⟨i,hi,rfl⟩:=zzL27.1 hx;obtain⟨l,_,h2⟩:=hs i (zzL37.1 hi);exact h2
 have k22:o.Kind=22:=by omega
 have hnn:L4 o.Kind o.Lanes=1:=by rw[k22];rfl
 have h0:=ha 0 (by omega);rw[show(Ds o 0).2=o.Lanes by unfold Ds;rw[k22];rfl]at h0;obtain⟨A,s0,lA,uA⟩:=h0
 have hi2:o.Imm<o.Lanes:=by
  rw[k22]at hif;have:decide (o.Imm<o.Lanes)=true:=hif
  simpa using this
 refine⟨_,_,_,_,.pure_ hB (λF S T=>yJ k22 (arg 0 (by omega)) s0 ⟨hi.1,by omega⟩) λ_ _=>⟨?_,λx hx=>?_⟩⟩
 ·rw[k22];rfl
 ·obtain rfl:x=_:=by simpa using hx
  exact uA _ (Ai (d:=0) (by have:=hi.1;omega))
end
theorem kK(n d:Int):(if n<d then d else n)=grow n d:=by
 unfold grow
 by_cases h:n<d<;>simp[h]
theorem xc(f:TFunc)(h:Sm f):Qq f=some (Ur f):=by
 have hf:=h.1
 have h1:∀(i:Nat),i<f.Blocks.length->∀ n ,Ac (Ph f i) _=some ((f.Blocks.getD i _).Phis.foldl (λn p=>grow n p.Dst) n):=λi hi n=>by
  have hB:=hf.block _ (Ai (d:=default) hi);refine HI _ default _ _ (λs j hj=>?_) (λs=>?_) n
  ·unfold Ph
   have hd:decide ((j:Int)<(f.Blocks.getD i default).Phis.length)=true:=by simpa using hj
   simp only[Dq,hd,Af,Aa (Ak hj),jG hj hB.1,kK]
  ·unfold Ph
   simp
 have h2:∀(i:Nat),i<f.Blocks.length->∀ n ,Ac (Pi f i) _=some ((f.Blocks.getD i _).Ops.foldl (λn p=>grow n p.Dst) n):=λi hi n=>by
  have hB:=hf.block _ (Ai (d:=default) hi);refine HI _ default _ _ (λs j hj=>?_) (λs=>?_) n
  ·unfold Pi
   have hd:decide (j<((f.Blocks.getD i default).Ops.length:Int))=true:=by simpa using hj
   simp only[Dq,hd,Af,Aa (Ak hj),jG hj hB.2.1,kK]
  ·unfold Pi
   simp
 unfold Qq Ur
 rw[HI f.Blocks default (λn b=>b.Ops.foldl (λn o=>grow n o.Dst) (b.Phis.foldl (λn p=>grow n p.Dst) n)) _ (λs i hi=>by
  unfold Tg
  have hd:decide (i<(f.Blocks.length:Int))=true:=by simpa using hi
  simp only[hd,Af,Aa (Ak hi),h1 i hi,h2 i hi,Ar,jG hi hf.blocks]) (λs=>by unfold Tg;simp)]
 rfl
theorem iB{f:TFunc}(h:(List.range (A4 f).length).all (P2 (A4 f))=true):((A4 f).map (·.V)).Nodup:=by
 rw[List.nodup_iff_pairwise_ne,List.pairwise_map,zzL95];intro i j hi hj hij he;have:=((LH hj).1 (gq h j hj)).2 i hij;rw[Ag _ _ _ hi,Ag _ _ _ hj]at this;exact this he
structure Ok(f:TFunc):Prop extends Rt f where
 typed:Sh f 2=true
 rest:af f=0
 shape:G5 f=true
 inf:fw f
theorem Aar{f:TFunc}(h:Sm f)(hc:K4 f 2=0):Ok f:=
 have hz:=(RY   (by omega) (by omega)).1 hc
 {rt_of h hc with typed:=hz.2.2.1,rest:=hz.2.2.2,shape:=hz.2.1,inf:=h.1 }
section
variable {f:TFunc} (R:Ok f)
include R
theorem UH:(List.range (A4 f).length).all (P2 (A4 f))=true/\(∀ u∈Bw f,Mk (A4 f) u=true)/\(∀ u∈Bw f,Ze (A4 f) u=true)/\∀ u∈Bw f,Zd (A4 f) (D2 f) u=true:=by
 have h:=R.rest;unfold af at h
 cases h1:(List.range _).all _ with
 | false=>rw[h1]at h;cases h
 | true=>
  grind
theorem bw{b:Aj}(hb:b∈f.Blocks){o:C5}(ho:o∈b.Ops):Jq o=true:=qk R.typed hb ho
theorem dr{d e:Cb}(hd:d∈A4 f)(he:e∈A4 f)(hv:d.V=e.V):d=e:=by
 have hn:=iB (UH R).1;obtain⟨i,hi,rfl⟩:=L5 hd;obtain⟨j,hj,rfl⟩:=L5 he;rw[List.nodup_iff_pairwise_ne, zzL95]at hn;rcases Nat.lt_trichotomy i j with h|h|h
 ·grind
 ·subst h;rfl
 ·grind
theorem def_cases{d:Cb}(hd:d∈A4 f):(∃ i,i<f.Params.length/\d=⟨(i:Int)+1,-1,0,(f.Params.getD i 0,1)⟩) \/
  ∃ i,i<f.Blocks.length/\((∃ k,k<(bA f i).Phis.length/\d=⟨((bA f i).Phis.getD k default).Dst,i,-1,(((bA f i).Phis.getD k default).Bits,1)⟩) \/
   ∃ k,k<(bA f i).Ops.length/\0<(Ia ((bA f i).Ops.getD k default)).1/\d=⟨((bA f i).Ops.getD k default).Dst,i,k,Ia ((bA f i).Ops.getD k default)⟩):=by
 rcases zzL14.1 hd with h|h
 ·obtain⟨i,hi,h⟩:=zzL33.1 h;exact .inl ⟨i,zzL37.1 hi,zzL18.1 h⟩
 ·obtain⟨i,hi,h⟩:=zzL33.1 h;refine .inr ⟨i,zzL37.1 hi,?_⟩;rcases zzL14.1 h with h|h
  ·obtain⟨k,hk,h⟩:=zzL33.1 h;exact .inl ⟨k,zzL37.1 hk,zzL18.1 h⟩
  ·obtain⟨k,hk,h⟩:=zzL33.1 h
   cases hg:decide (0<(Ia _).1) with
   | true=>grind
   | false=>rw[hg]at h;cases h
theorem yI{i k:Nat}(hi:i<f.Blocks.length)(hk:k<(bA f i).Ops.length)(hg:0<(Ia ((bA f i).Ops.getD k default)).1):(⟨((bA f i).Ops.getD k default).Dst,i,k,Ia ((bA f i).Ops.getD k default)⟩:Cb)∈A4 f:=by
 rw[A4,zzL14]
 right
 refine zzL33.2 ⟨i,zzL37.2 hi,?_⟩;rw[Rs,zzL14]
 right
 refine zzL33.2 ⟨k,zzL37.2 hk,?_⟩;rw[Cr hg];exact zzL18.2 rfl
theorem yM{i k j:Nat}(hi:i<f.Blocks.length)(hk:k<(bA f i).Ops.length)(hj:j<((bA f i).Ops.getD k default).Args.length) :
  (⟨((bA f i).Ops.getD k default).Args.getD j 0,i,k,Ds ((bA f i).Ops.getD k default) j⟩:Cz)∈Bw f:=by
 have hm:Jq ((bA f i).Ops.getD k default)=true:=bw R (Ai  hi) (Ai  hk);obtain⟨_,_,_,_,hn,_,_⟩:=Vt hm
 have ht:Ii ((bA f i).Ops.getD k default)=Rm ((bA f i).Ops.getD k default):=by unfold Ii;rw[hm];rfl
 have htl:(Rm ((bA f i).Ops.getD k default)).length=((bA f i).Ops.getD k default).Args.length:=by unfold Rm;rw[Xh,EH];omega
 refine zzL33.2 ⟨i,zzL37.2 hi,?_⟩;unfold DX;rw[zzL14,zzL14];refine .inl (.inr (zzL33.2 ⟨k,zzL37.2 hk,?_⟩));refine zzL33.2 ⟨j,zzL37.2 (by rw[ht,htl];exact hj),?_⟩;rw[ht]
 have:(Rm ((bA f i).Ops.getD k default)).getD j (0,0)=Ds ((bA f i).Ops.getD k default) j:=by
  unfold Rm;rw[Pg (by omega)]
 rw[this];exact zzL18.2 rfl
theorem u5{i k j:Nat}(hi:i<f.Blocks.length)(hk:k<(bA f i).Phis.length)(hj:j<((bA f i).Phis.getD k default).Args.length) :
  (⟨((bA f i).Phis.getD k default).Args.getD j 0,((bA f i).Phis.getD k default).From.getD j 0,1000,(((bA f i).Phis.getD k default).Bits,1)⟩:Cz)∈Bw f:=by
 refine zzL33.2 ⟨i,zzL37.2 hi,?_⟩;unfold DX;rw[zzL14,zzL14];refine .inl (.inl (zzL33.2 ⟨k,zzL37.2 hk,?_⟩));exact zzL33.2 ⟨j,zzL37.2 hj,zzL18.2 rfl⟩
theorem kI{i:Nat}(hi:i<f.Blocks.length)(hk:(bA f i).End.Kind=0\/(bA f i).End.Kind=2):∃ b,(⟨(bA f i).End.Arg,i,1000,(b,1)⟩:Cz)∈Bw f:=by
 have key:∃ b,⟨(bA f i).End.Arg,i,1000,(b,1)⟩∈V0 f (bA f i) i:=by
  unfold V0;rcases hk with e|e
  ·grind
  ·grind
 obtain⟨b,hb⟩:=key;refine⟨b,zzL33.2 ⟨i,zzL37.2 hi,?_⟩⟩;unfold DX;rw[zzL14];exact .inr hb
theorem yV{u:Cz}(hu:u∈Bw f):∃ d∈A4 f,d.V=u.V/\d.Shape.2=u.Shape.2/\(d.Block<0\/(d.Block=u.Block/\d.At<u.At)\/(0<=d.Block/\d.Block≠u.Block/\DK (D2 f) d.Block u.Block=true)):=by
 obtain⟨_,h2,h3,h4⟩:=UH R;have hf:=h2 u hu;have hfit:=h3 u hu;have hdom:=h4 u hu;unfold Mk at hf
 have hneg:¬ Mp (A4 f) u.V<0:=by simpa using hf
 have hin:=SJ hneg;have hmem:defOf _ u.V∈A4 f:=Ai (by  have:=hin.2;omega)
 have hV:(defOf (A4 f) u.V).V=u.V:=by
  unfold defOf;unfold Mp at hneg ⊢
  cases hx:(A4 f).findIdx? _ with
  | none=>grind
  | some i=>
   obtain⟨hi,hp,_⟩:=List.findIdx?_eq_some_iff_getElem.1 hx;rw[Aq,Ag _ _ _ hi]
   simpa using hp
 refine⟨_,hmem,hV,?_,?_⟩
 ·unfold Ze at hfit;simp only[Bg,zzL85]at hfit;exact hfit.2.1
 ·unfold Zd at hdom;simp only[OX,Bg,Jm,zzL85,Zq,zzL40]at hdom
  by_cases hb:(defOf (A4 f) u.V).Block<0
  ·exact .inl hb
  ·rcases hdom with(h|h)|⟨h,h'⟩
   ·exact .inl h
   ·exact .inr (.inl h)
   ·refine .inr (.inr ⟨by omega,h,?_⟩)
    have hmt :=by
     rw[bne_eq_false_iff_eq]at h';exact h'
    unfold DK;rw[hmt,Bg];exact⟨by simp,by rw[zzL88];omega⟩
theorem u4{a b:Nat}(ha:a<f.Blocks.length)(hb:b<f.Blocks.length)(h:DK (D2 f) (a:Int) (b:Int)=true):¬ Av (sN (Ci f)) 0 a b:=by
 have hl:=S8 f;obtain⟨P,_,o,t⟩:=ar R.may (r:=0) (by  omega)
 have e:D2 f=Zn (Ci f) 0:=by
  unfold D2 OM;rw[if_pos ⟨TA R.may,Int.le_refl _,by show(0:Int)<(Ci f).length; omega⟩];rfl
 rw[e]at h;exact((t.over_dom o (by omega) (by omega)).1 h).2
end
def BM(V:Vs)(d:Cb):Prop:=Has V d.V d.Shape.2
structure At(f:TFunc)(V:Vs)(W:Nat->Prop)(i:Nat)(k:Int):Prop where
 len:(V.length:Int)=Ur f+1
 lt:i<f.Blocks.length
 par:∀ d∈A4 f,d.Block<0->BM V d
 here:∀ d∈A4 f,d.Block=i->d.At<k->BM V d
 done:∀ d∈A4 f,∀ b:Nat,d.Block=b->W b->b≠i->BM V d
 way:∀ b,¬ W b->b≠i->Av (sN (Ci f)) 0 b i
section
variable {f:TFunc} (R:Ok f) {V:Vs} {W:Nat->Prop} {i:Nat} {k:Int} (h:At f V W i k)
include R h
theorem j6{u:Cz}(hu:u∈Bw f)(hb:u.Block=i)(ha:u.At=k):Has V u.V u.Shape.2:=by
 obtain⟨d,hd,hv,hs,hc⟩:=yV R hu
 have key:BM V d:=by
  rcases hc with h1|⟨h1,h2⟩|⟨h0,h1,h2⟩
  ·exact h.par d hd h1
  ·exact h.here d hd (h1.trans hb) (by omega)
  ·have hin:=defs_in R.ok d hd;rcases hin with e|⟨e,_⟩
   ·omega
   ·have hn :=Tu h0
    have hlt:d.Block.toNat<f.Blocks.length:=by have:=e.2;omega
    have hne:d.Block.toNat≠i:=by grind
    refine h.done d hd _ hn.symm ?_ hne
    apply fo
    intro hw;rw[hb,<- hn]at h2;exact u4 R hlt h.lt h2 (h.way _ hw hne)
 unfold BM at key;rw[hv,hs]at key;exact key
theorem tf(hk:k=((k.toNat:Nat):Int))(hk2:k.toNat<(bA f i).Ops.length)(j:Nat)(hj:j<((bA f i).Ops.getD k.toNat default).Args.length):Has V (((bA f i).Ops.getD k.toNat default).Args.getD j 0) (Ds ((bA f i).Ops.getD k.toNat default) j).2:=
 j6 R h (yM R h.lt hk2 hj) rfl hk.symm
end
theorem At.mono{f:TFunc}{V:Vs}{W:Nat->Prop}{i:Nat}{k k':Int}(h:At f V W i k)(hk:∀ d∈A4 f,d.Block=i->d.At<k'->d.At<k):At f V W i k':=
 {h with here:=λd hd hb ha=>h.here d hd hb (hk d hd hb ha) }
theorem At.op{f:TFunc}(R:Ok f){V:Vs}{W:Nat->Prop}{i k:Nat}(h:At f V W i (k:Int))(hk:k<(bA f i).Ops.length){L:List Int}
  (hL:((bA f i).Ops.getD k default).Kind≠17->((bA f i).Ops.getD k default).Kind≠19->(L.length:Int)=(R3 ((bA f i).Ops.getD k default).Kind ((bA f i).Ops.getD k default).Bits ((bA f i).Ops.getD k default).Lanes).2/\∀ x∈L,u64 x) :
  A0 ((bA f i).Ops.getD k default).Dst V.length/\At f (V.set ((bA f i).Ops.getD k default).Dst.toNat L) W i ((k+1:Nat):Int):=by
 have hm:Jq ((bA f i).Ops.getD k default)=true:=bw R (Ai (d:=default) h.lt) (Ai (d:=default) hk);have hd0:=(Vt hm).2.2.2.2.2.2;have hmk:=(Vt hm).1
 have hg:Ia ((bA f i).Ops.getD k default)=R3 ((bA f i).Ops.getD k default).Kind ((bA f i).Ops.getD k default).Bits ((bA f i).Ops.getD k default).Lanes:=by unfold Ia;rw[hm];rfl
 have hlast:0<=Ur f:=by
  obtain⟨h1,_⟩:=S2 f.Blocks (f.Params.length:Int);unfold Ur;omega
 by_cases hst:((bA f i).Ops.getD k default).Kind=17\/((bA f i).Ops.getD k default).Kind=19
 ·
  have hz:((bA f i).Ops.getD k default).Dst=0:=by
   unfold dstS at hd0;rcases hst with e|e<;>rw[e]at hd0<;>simpa using hd0
  have hg0:(Ia ((bA f i).Ops.getD k default)).1=0:=by
   rw[hg];unfold R3;rcases hst with e|e<;>rw[e]<;>rfl
  rw[hz];have keep:∀ d∈A4 f,BM V d->BM (V.set (0:Int).toNat L) d:=λd hd hh=>hh.set (Int.le_refl _) (by have:=Xz R.rest hd;omega);refine⟨⟨Int.le_refl _,by rw[h.len];omega⟩,⟨by rw[Cm];exact h.len,h.lt,λd hd hb=>keep d hd (h.par d hd hb),λd hd hb ha=>keep d hd (h.here d hd hb ?_),λd hd b hb hw hne=>keep d hd (h.done d hd b hb hw hne),h.way⟩⟩;rcases def_cases R hd with⟨i',_,rfl⟩|⟨i',hi',⟨k',_,rfl⟩|⟨k',hk',hgk,rfl⟩⟩
  ·simp only at hb;omega
  ·simp only at ha ⊢;omega
  ·grind
 ·have hgp:0<(Ia ((bA f i).Ops.getD k default)).1:=by
   rw[hg]
   have hb1:0<((bA f i).Ops.getD k default).Bits:=by have:=width_cases (Qa hmk);omega
   unfold R3
   have n17:(((bA f i).Ops.getD k default).Kind==17)=false:=by simp only[zzL40];exact λe=>hst (.inl e)
   have n19:(((bA f i).Ops.getD k default).Kind==19)=false:=by simp only[zzL40];exact λe=>hst (.inr e)
   rw[n17,n19]
   cases(((bA f i).Ops.getD k default).Kind==10 || ((bA f i).Ops.getD k default).Kind==11 || ((bA f i).Ops.getD k default).Kind==12)<;>cases(((bA f i).Ops.getD k default).Kind==22)<;>first|exact hb1|exact(by decide:(0:Int)<1)
  have hdef:=yI R h.lt hk hgp;have hpos:=Xz R.rest hdef;have hlst:=Ww hdef;simp only at hpos hlst;have hin:A0 ((bA f i).Ops.getD k default).Dst V.length:=⟨by omega,by rw[h.len];omega⟩;obtain⟨l1,l2⟩:=hL (λe=>hst (.inl e)) (λe=>hst (.inr e))
  have keep:∀ d∈A4 f,BM V d->BM (V.set ((bA f i).Ops.getD k default).Dst.toNat L) d:=λd hd hh=>by
   by_cases e:d.V=((bA f i).Ops.getD k default).Dst
   ·have:=dr R hd hdef e;subst this;exact Has.new hin (by grind) l2
   ·exact hh.set hin.1 e
  refine⟨hin,⟨by rw[Cm];exact h.len,h.lt,λd hd hb=>keep d hd (h.par d hd hb),λd hd hb ha=>?_,λd hd b hb hw hne=>keep d hd (h.done d hd b hb hw hne),h.way⟩⟩
  by_cases e:d.At<(k:Int)
  ·exact keep d hd (h.here d hd hb e)
  ·have hak:d.At=(k:Int):=by omega
   have hde:d=⟨((bA f i).Ops.getD k default).Dst,i,k,Ia ((bA f i).Ops.getD k default)⟩:=by
    rcases def_cases R hd with⟨i',_,rfl⟩|⟨i',hi',⟨k',_,rfl⟩|⟨k',hk',hgk,rfl⟩⟩
    ·simp only at hb;omega
    ·simp only at hak;omega
    ·grind
   subst hde;exact Has.new hin (by grind) l2
theorem At.all{f:TFunc}(R:Ok f){V:Vs}{W:Nat->Prop}{i:Nat}(h:At f V W i (((bA f i).Ops.length:Nat):Int)):At f V W i 1000:=
 h.mono λd hd hb _=>by
  rcases defs_in R.ok d hd with e|⟨_,e,_⟩
  ·omega
  ·unfold Sd at e;rw[hb]at e;exact e
def JO(p:Fe)(a:Int):Int:=p.Args.getD (p.From.findIdx λx=>x==a) 0
def Wv(phis:List Fe)(a:Int)(V:Vs):Vs:=phis.foldl (λU p=>U.set p.Dst.toNat (V.getD (JO p a).toNat [])) V
theorem ES{a:Int}{V:Vs}:∀{l:List Fe} {U:Vs},(l.foldl (λU p=>U.set p.Dst.toNat (V.getD (JO p a).toNat [])) U).length=U.length
 | [],U=>rfl
 | p::l,U=>by rw[EI,ES,Cm]
theorem HF{a:Int}{V:Vs}{v n:Int}:∀{l:List Fe} {U:Vs},Has U v n->(∀ p∈l,0<=p.Dst)->(∀ p∈l,p.Dst=v->Has V (JO p a) n)->Has (l.foldl (λU p=>U.set p.Dst.toNat (V.getD (JO p a).toNat [])) U) v n
 | [],U,h,_,_=>h
 | p::l,U,h,hp,hv=>by
  rw[EI];refine HF ?_ (λq hq=>hp q (by simp[hq])) (λq hq=>hv q (by simp[hq]))
  by_cases e:v=p.Dst
  ·obtain⟨x,s,lx,ux⟩:=hv p (by simp) e.symm;obtain⟨_,s0,_,_⟩:=h;rw[s.is,e];exact Has.new ⟨hp p (by simp),by rw[<- e];exact s0.hi⟩ lx ux
  ·exact h.set (hp p (by simp)) e
theorem YU{a:Int}{V:Vs}{v n:Int}:∀{l:List Fe} {U:Vs},A0 v U.length->(∀ p∈l,0<=p.Dst)->(∀ p∈l,p.Dst=v->Has V (JO p a) n)->(∃ p∈l,p.Dst=v)->Has (l.foldl (λU p=>U.set p.Dst.toNat (V.getD (JO p a).toNat [])) U) v n
 | [],U,_,_,_,h=>by grind
 | p::l,U,hin,hp,hv,h=>by
  rw[EI]
  by_cases e:p.Dst=v
  ·obtain⟨x,s,lx,ux⟩:=hv p (by simp) e;refine HF ?_ (λq hq=>hp q (by simp[hq])) (λq hq=>hv q (by simp[hq]));rw[s.is,e];exact Has.new hin lx ux
  ·refine YU (by grind) (λq hq=>hp q (by simp[hq])) (λq hq=>hv q (by simp[hq])) ?_;obtain⟨q,hq,he⟩:=h;rcases zzL28.1 hq with rfl|hq
   ·exact absurd he e
   ·exact⟨q,hq,he⟩
theorem TU{f:TFunc}(R:Ok f){j:Nat}(hj:j<f.Blocks.length){p:Fe}(hp:p∈(bA f j).Phis):p.From=prF f j/\p.Args.length=p.From.length:=by
 have hs:=R.shape;unfold G5 at hs;rw[Bg]at hs;have:=gq hs.2 j hj;unfold Nh at this;simp only[Bg,zzL34]at this;have:=this.2 p hp;unfold Kz at this;rw[Bg,Jm,zzL85]at this;refine⟨this.1,?_⟩;rw[this.1];omega
def cz(f:TFunc)(i j:Nat):Prop:=(j:Int)∈(bA f i).End.To
theorem qD{f:TFunc}(R:Ok f){i j:Nat}(hi:i<f.Blocks.length)(hj:j<f.Blocks.length)(hn:cz f i j){p:Fe}(hp:p∈(bA f j).Phis) :
  (p.From.findIdx λx=>x==(i:Int))<p.From.length/\p.From.getD (p.From.findIdx λx=>x==(i:Int)) 0=i:=by
 obtain⟨h1,_⟩:=TU R hj hp
 have hm:(i:Int)∈p.From:=by rw[h1];exact(yP R.toRt hj).2 ⟨i,rfl,hi,hn⟩
 have hlt:(p.From.findIdx λx=>x==(i:Int))<p.From.length:=List.findIdx_lt_length_of_exists ⟨_,hm,by simp⟩;refine⟨hlt,?_⟩;rw[Ag _ _ _ hlt]
 simpa using List.findIdx_getElem (w:=hlt)
theorem LX{f:TFunc}(R:Ok f){V:Vs}{W:Nat->Prop}{i j:Nat}(h:At f V W i 1000)(hj:j<f.Blocks.length)(hn:cz f i j){p:Fe}(hp:p∈(bA f j).Phis):Has V (JO p i) 1:=by
 obtain⟨h1,h2⟩:=qD R h.lt hj hn hp;obtain⟨_,h3⟩:=TU R hj hp;obtain⟨k,hk,rfl⟩:=L5 hp;have e:(bA f j).Phis.getD k default=(bA f j).Phis[k]:=Ag _ _ _ hk;have hu:=u5 R hj hk (j:=(((bA f j).Phis[k]).From.findIdx λx=>x==(i:Int))) (by rw[e];omega);rw[e]at hu;have:=j6 R h hu h2 rfl;exact this
theorem At.next{f:TFunc}(R:Ok f){V:Vs}{W:Nat->Prop}{i j:Nat}(h:At f V W i 1000)(hj:j<f.Blocks.length)(hn:cz f i j) :
  At f (Wv (bA f j).Phis i V) (λb=>W b\/b=i) j 0:=by
 have hd0:∀ p∈(bA f j).Phis,0<=p.Dst/\A0 p.Dst _:=λp hp=>by
  obtain⟨k,hk,rfl⟩:=L5 hp;have hd:=FE hj hk;have e:(f.Blocks.getD j _).Phis.getD k default=(bA f j).Phis[k]:=Ag _ _ _ hk;rw[e]at hd;have h1:=Xz R.rest hd;have h2:=Ww hd;simp only at h1 h2;exact⟨by omega,by omega,by rw[h.len];omega⟩
 have hphi:∀ p∈(bA f j).Phis,∀ d∈A4 f,p.Dst=d.V->d.Block=j/\d.At = -1/\d.Shape.2=1:=λp hp d hd e=>by
  obtain⟨k,hk,rfl⟩:=L5 hp;have hd':=FE hj hk;have e2:(f.Blocks.getD j _).Phis.getD k default=(bA f j).Phis[k]:=Ag _ _ _ hk;rw[e2]at hd';have:=dr R hd hd' e.symm;subst this;exact⟨rfl,rfl,rfl⟩
 have keep:∀ d∈A4 f,BM V d->BM (Wv _ i V) d:=λd hd hh=>by
  refine HF hh (λp hp=>(hd0 p hp).1) (λp hp e=>?_);rw[(hphi p hp d hd e).2.2];exact LX R h hj hn hp
 have hl:=S8 f
 have hedge:j∈sN (Ci f) i:=by
  rw[iV R.may (by have:=h.lt;omega),cP h.lt,(Xc _).2];exact hn
 refine⟨by unfold Wv;rw[ES];exact h.len,hj,λd hd hb=>keep d hd (h.par d hd hb),λd hd hb ha=>?_,λd hd b hb hw hne=>?_,λb hw hne=>?_⟩
 ·rcases def_cases R hd with⟨i',_,rfl⟩|⟨i',hi',⟨k',hk',rfl⟩|⟨k',hk',hgk,rfl⟩⟩
  ·simp only at hb;omega
  ·simp only at hb
   have e1:i'=j:=by omega
   subst e1;refine YU (hd0 _ (Ai hk')).2 (λp hp=>(hd0 p hp).1) (λp hp e=>LX R h hj hn hp) ⟨_,Ai  hk',rfl⟩
  ·simp only at ha;omega
 ·by_cases e:b=i
  ·subst e;refine keep d hd (h.here d hd hb ?_);rcases defs_in R.ok d hd with e|⟨_,_,e⟩
   ·omega
   ·exact e
  ·rcases hw with hw|hw
   ·exact keep d hd (h.done d hd b hb hw e)
   ·exact absurd hw e
 ·have h1 :=λhh=>hw (.inl hh);have h2 :=λhh=>hw (.inr hh);exact(h.way b h1 h2).step hedge (λe=>hne e.symm)
theorem ZC{l:List Fe}:∀{U:Vs} {v:Int},(Has U v 1\/(A0 v U.length/\∃ p∈l,p.Dst=v))->(∀ p∈l,0<=p.Dst)->Has (l.foldl (λV p=>V.set p.Dst.toNat [0]) U) v 1:=by
 induction l with
 | nil=>
  grind
 | cons p l ih=>
  intro U v h hp
  have z:∀ x∈[0],u64 x:=by
   intro x hx;obtain rfl:x=0:=(by simpa using hx);exact⟨Int.le_refl _,by decide⟩
  refine ih ?_ (λq hq=>hp q (by simp[hq]))
  by_cases e:v=p.Dst
  ·left
   have hin:A0 v U.length:=by
    rcases h with⟨_,s,_,_⟩|⟨h,_⟩
    ·exact⟨s.lo,s.hi⟩
    ·exact h
   rw[e]at hin ⊢;exact Has.new hin rfl z
  ·rcases h with h|⟨h1,q,hq,he⟩
   ·exact .inl (h.set (hp p (by simp)) e)
   ·grind
theorem oT{f:TFunc}(R:Ok f){ags:List Int}{n:Nat}(hn:Ur f=(n:Int))(hl:ags.length=f.Params.length)(hw:∀ w∈f.Params,UZ w):At f (Xv f ags n) (λ_=>False) 0 0:=by
 have hpn:f.Params.length<=n:=by
  obtain⟨h1,_⟩:=S2 f.Blocks (f.Params.length:Int);unfold Ur at hn;omega
 have hlen:(Xv f ags n).length=n+1:=RS hpn
 have hd0:∀ p∈(bA f 0).Phis,0<=p.Dst:=λp hp=>by
  obtain⟨k,hk,rfl⟩:=L5 hp;have hd:=FE R.lo hk;have e:(f.Blocks.getD 0 default).Phis.getD k default=(bA f 0).Phis[k]:=Ag _ _ _ hk;rw[e]at hd;have h1:=Xz R.rest hd;simp only at h1;omega
 have hbase:(([]:List Int)::((List.range f.Params.length).map (CD f.Params ags)++List.replicate (n-f.Params.length) [])).length=n+1:=by simp;omega
 refine⟨by rw[hlen];omega,R.lo,λd hd hb=>?_,λd hd hb ha=>?_,λd hd b hb hw=>hw.elim,λb _ hne=>.root (λe=>hne e.symm)⟩
 ·rcases def_cases R hd with⟨i',hi',rfl⟩|⟨i',hi',⟨k',hk',rfl⟩|⟨k',hk',hgk,rfl⟩⟩
  ·refine ZC (.inl ⟨CD f.Params ags i',⟨by simp only;omega,by rw[hbase];simp only;omega,?_⟩,rfl,λx hx=>?_⟩) hd0
   ·grind
   ·have hwd:=hw _ (Ai (d:=(0:Int)) hi')
    obtain rfl:x=_:=by simpa [CD] using hx
    exact MF hwd (Ua hwd _).1 (Ua hwd _).2
  ·simp only at hb;omega
  ·simp only at hb;omega
 ·rcases def_cases R hd with⟨i',hi',rfl⟩|⟨i',hi',⟨k',hk',rfl⟩|⟨k',hk',hgk,rfl⟩⟩
  ·simp only at hb;omega
  ·simp only at hb
   have e1:i'=0:=by omega
   subst e1;have h1:=Xz R.rest hd;have h2:=Ww hd;simp only at h1 h2;have hin:A0 ((bA f 0).Phis.getD k' default).Dst (([]:List Int)::((List.range f.Params.length).map (CD f.Params ags)++List.replicate (n-f.Params.length) [])).length:=⟨by omega,by rw[hbase];omega⟩;exact ZC (.inr ⟨hin,_,Ai (d:=default) hk',rfl⟩) hd0
  ·simp only at ha;omega
structure Cf where
 i:Nat
 k:Nat
 V:Vs
 B:List Int
structure Out where
 code:Int
 val:Int
 steps:Nat
 t:List Ad
 b:List Int
def Out.push(y:Out)(t:List Ad):Out:=⟨y.code,y.val,y.steps+1,t++y.t,y.b⟩
def pz(o:C5)(V:Vs)(B:List Int):List Int×Int×List Ad×List Int:=
 match GJ o V 0 0 B [] with
 | some x=>(x.1,x.2.1,x.2.2.2.2.1,x.2.2.2.2.2.2)
 | none=>([],8,[],B)
theorem OpD.eq{o:C5}{V:Vs}{B L:List Int}{e:Int}{t:List Ad}{B':List Int}(h:OpD o V B L e t B'):pz o V B=(L,e,t,B'):=by
 unfold pz;rw[h.is 0 0 [] (by decide),Tv]
def Ub(e:L8)(V:Vs):Nat:=if e.Kind=2/\¬ (V.getD e.Arg.toNat []).getD 0 0=1 then(e.To.getD 1 0).toNat else(e.To.getD 0 0).toNat
abbrev wL(bs:List Aj)(c:Cf):C5:=(bs.getD c.i default).Ops.getD c.k default
abbrev sD(bs:List Aj)(c:Cf):L8:=(bs.getD c.i default).End
def UR(bs:List Aj)(c:Cf):Option Cf×Int×Int×List Ad×List Int:=
 if c.k<(bs.getD c.i default).Ops.length then
  if(pz (wL bs c) c.V c.B).2.1=0 then(some ⟨c.i,c.k+1,c.V.set (wL bs c).Dst.toNat (pz (wL bs c) c.V c.B).1,(pz (wL bs c) c.V c.B).2.2.2⟩,0,0,(pz (wL bs c) c.V c.B).2.2.1,(pz (wL bs c) c.V c.B).2.2.2)
  else(none,8,0,(pz (wL bs c) c.V c.B).2.2.1,(pz (wL bs c) c.V c.B).2.2.2)
 else if(sD bs c).Kind=0 then(none,0,(c.V.getD (sD bs c).Arg.toNat []).getD 0 0,[],c.B)
 else if(sD bs c).Kind=3 then(none,8,0,[],c.B)
 else(some ⟨Ub (sD bs c) c.V,0,Wv (bs.getD (Ub (sD bs c) c.V) default).Phis c.i c.V,c.B⟩,0,0,[],c.B)
def U1(bs:List Aj):Nat->Cf->Out
 | 0,c=>⟨9,0,0,[],c.B⟩
 | n+1,c=>match(UR bs c).1 with
  | some c'=>(U1 bs n c').push (UR bs c).2.2.2.1
  | none=>⟨(UR bs c).2.1,(UR bs c).2.2.1,1,(UR bs c).2.2.2.1,(UR bs c).2.2.2.2⟩
theorem ak{bs:List Aj}{n:Nat}{c c':Cf}(h:(UR bs c).1=some c'):U1 bs (n+1) c=(U1 bs n c').push (UR bs c).2.2.2.1:=by rw[U1,h]
theorem UM{bs:List Aj}{n:Nat}{c:Cf}(h:(UR bs c).1=none):U1 bs (n+1) c=⟨(UR bs c).2.1,(UR bs c).2.2.1,1,(UR bs c).2.2.2.1,(UR bs c).2.2.2.2⟩:=by rw[U1,h]
def post(bs:List Aj)(at_:Int)(nV nB:Nat)(x:DR):Option (LR ST RR):=
 Aw (nV=x.2.2.2.2.1.length) (Aw (nB=x.2.2.2.2.2.length) (
  bif x.1 !=0 then some (.done (⟨x.1,0,x.2.2.1⟩,x.2.1,x.2.2.1,x.2.2.2.1,x.2.2.2.2.1,x.2.2.2.2.2))
  else bif x.2.2.1==x.2.1 then some (.done (⟨9,0,x.2.2.1⟩,x.2.1,x.2.2.1,x.2.2.2.1,x.2.2.2.2.1,x.2.2.2.2.2))
  else bif (bs.getD at_.toNat default).End.Kind==0 then
   (Be (bs.getD at_.toNat default).End.Arg x.2.2.2.2.1 x.2.1 (w64 (x.2.2.1+1)) x.2.2.2.2.2 x.2.2.2.1).bind λv=>
    some (.done (⟨0,v,w64 (x.2.2.1+1)⟩,x.2.1,w64 (x.2.2.1+1),x.2.2.2.1,x.2.2.2.2.1,x.2.2.2.2.2))
  else bif (bs.getD at_.toNat default).End.Kind==3 then some (.done (⟨8,0,w64 (x.2.2.1+1)⟩,x.2.1,w64 (x.2.2.1+1),x.2.2.2.1,x.2.2.2.2.1,x.2.2.2.2.2))
  else(Dl (bs.getD at_.toNat default).End x.2.2.2.2.1 x.2.1 (w64 (x.2.2.1+1)) x.2.2.2.2.2 x.2.2.2.1).bind λto=>
   Aw (A0 to bs.length) ((D0 (bs.getD to.toNat default).Phis at_ x.2.2.2.2.1 x.2.1 (w64 (x.2.2.1+1)) x.2.2.2.2.2 x.2.2.2.1).bind λy=>
    Aw (x.2.2.2.2.1.length=y.2.2.2.1.length) (Aw (x.2.2.2.2.2.length=y.2.2.2.2.length) (some (.next (to,y.1,y.2.1,y.2.2.1,y.2.2.2.1,y.2.2.2.2)))))))
theorem j9(bs:List Aj)(at_:Int)(V:Vs)(F S:Int)(B:List Int)(T:List Ad):blG bs at_ V F S B T=Aw (A0 at_ bs.length) ((f6 (bs.getD at_.toNat default).Ops V F S B T).bind (post bs at_ V.length B.length)):=rfl
def fin(bs:List Aj):LR ST RR->Option RR
 | .next s=>Ac (Bn bs) s
 | .done r=>some r
theorem eP(bs:List Aj)(s:ST):Ac (Bn bs) s=(Bn bs s).bind (fin bs):=by
 rw[<- OH]
 cases Bn bs s with
 | none=>rfl
 | some x=>cases x<;>rfl
structure By(B:List Int):Prop where
 by_:Th B
 len:B.length<4611686018427387904
theorem uk{f:TFunc}(R:Ok f){V:Vs}{W:Nat->Prop}{i:Nat}(h:At f V W i 1000)(h0:(bA f i).End.Kind≠0)(h3:(bA f i).End.Kind≠3) :
  Ub (bA f i).End V<f.Blocks.length/\cz f i (Ub (bA f i).End V)/\∀(F S:Int) (B:List Int) (T:List Ad),Dl (bA f i).End V F S B T=some ((Ub (bA f i).End V:Nat):Int):=by
 have hk:(bA f i).End.Kind=1\/(bA f i).End.Kind=2:=by
  have hs:=R.shape;unfold G5 at hs;rw[Bg]at hs;have:=(shape_iff.1 hs.1).2 i h.lt;unfold Nk GC at this;simp only[Bg,Jm]at this;have h1:0<=(bA f i).End.Kind/\(bA f i).End.Kind<=3:=this.1.1;omega
 rcases hk with hk|hk
 ·have hl:=R.one i h.lt hk;obtain⟨t1,t2⟩:=R.to i h.lt 0 (by omega)
  have e:Ub (bA f i).End V=(qg f i 0).toNat:=by unfold Ub;rw[if_neg (by rw[hk];simp)];rfl
  have hc:(((qg f i 0).toNat:Nat):Int)=qg f i 0:=Tu (by omega);refine⟨by rw[e];omega,?_,λF S B T=>?_⟩
  ·unfold cz;rw[e,hc];exact Ai (by omega)
  ·rw[e,hc];unfold Dl
   have hk2:((bA f i).End.Kind==2)=false:=by rw[hk];rfl
   simp only[hk2];rw[Aa (show A0 (0:Int) (bA f i).End.To.length from⟨by omega,by omega⟩)]
   rfl
 ·have hl:=R.two i h.lt hk;obtain⟨b,hu⟩:=kI R h.lt (.inr hk);obtain⟨a,sa,ua⟩:=(j6 R h hu rfl rfl).one;have sa':Slot V (bA f i).End.Arg [a]:=sa
  have ev:(V.getD (bA f i).End.Arg.toNat []).getD 0 0=a:=by rw[sa'.is];rfl
  have i0:A0 (0:Int) (bA f i).End.To.length:=⟨by omega,by omega⟩;have i1:A0 (1:Int) (bA f i).End.To.length:=⟨by omega,by omega⟩
  by_cases ha:a=1
  ·obtain⟨t1,t2⟩:=R.to i h.lt 0 (by omega)
   have e:Ub (bA f i).End V=(qg f i 0).toNat:=by unfold Ub;rw[if_neg (by rw[ev];exact λhh=>hh.2 ha)];rfl
   have hc:(((qg f i 0).toNat:Nat):Int)=qg f i 0:=Tu (by omega);refine⟨by rw[e];omega,?_,λF S B T=>?_⟩
   ·unfold cz;rw[e,hc];exact Ai (by omega)
   ·rw[e,hc];unfold Dl
    have hk2:((bA f i).End.Kind==2)=true:=by rw[hk];rfl
    rw[hk2,Af,KQ sa',Ar,show(a==1)=true by simpa using ha,D3,A2,Aa i0]
    rfl
  ·obtain⟨t1,t2⟩:=R.to i h.lt 1 (by omega)
   have e:Ub (bA f i).End V=(qg f i 1).toNat:=by unfold Ub;rw[if_pos ⟨hk,by rw[ev];exact ha⟩];rfl
   have hc:(((qg f i 1).toNat:Nat):Int)=qg f i 1:=Tu (by omega);refine⟨by rw[e];omega,?_,λF S B T=>?_⟩
   ·unfold cz;rw[e,hc];exact Ai (by omega)
   ·rw[e,hc];unfold Dl
    have hk2:((bA f i).End.Kind==2)=true:=by rw[hk];rfl
    rw[hk2,Af,KQ sa',Ar,show(a==1)=false by simpa using ha,K2,Af,Aa i1]
    rfl
theorem mz{α:Type}{f:Nat->α}{d:α}{n i:Nat}(h:i<n):((List.range i).map f++List.replicate (n-i) d).set i (f i)=(List.range (i+1)).map f++List.replicate (n-(i+1)) d:=by
 obtain⟨m,hm⟩:∃ m,n-i=m+1:=⟨n-i-1,by omega⟩
 have hm':n-(i+1)=m:=by omega
 rw[hm,hm',MN, Zr,GR]
 simp
theorem xY{f:TFunc}(R:Ok f){V:Vs}{W:Nat->Prop}{i j:Nat}(h:At f V W i 1000)(hj:j<f.Blocks.length)(hn:cz f i j)(F S:Int)(B:List Int)(T:List Ad) :
  D0 (bA f j).Phis (i:Int) V F S B T=some (F,S,T,Wv (bA f j).Phis i V,B):=by
 have hroom:(1000:Nat)<=room:=by decide
 have hB:=R.ok.block _ (Ai (d:=(default:Aj)) hj);have hpl:(bA f j).Phis.length<=512:=hB.phis;have hlenV:=h.len
 have ix:∀ k,k<(bA f j).Phis.length->∃ r:Nat,Dp ((bA f j).Phis.getD k default).From (i:Int)=some (r:Int)/\r<((bA f j).Phis.getD k default).Args.length/\((bA f j).Phis.getD k default).Args.getD r 0=JO ((bA f j).Phis.getD k default) i:=λk hk=>by
  have hp:(bA f j).Phis.getD k default∈(bA f j).Phis:=Ai hk;obtain⟨h1,h2⟩:=qD R h.lt hj hn hp;obtain⟨h3,h4⟩:=TU R hj hp
  have hfl:((bA f j).Phis.getD k default).From.length<=1000:=by rw[h3];have:=qF R.toRt j;omega
  rcases m_index ((bA f j).Phis.getD k default).From (i:Int) hfl with⟨r,g1,g2,g3,g4⟩|⟨g1,_⟩
  ·have e:r=((bA f j).Phis.getD k default).From.findIdx λx=>x==(i:Int):=by
    grind
   exact⟨r,g4,by omega,by unfold JO;rw[e]⟩
  ·exact absurd h2 (g1 _ h1)
 have hav:∀ k,k<(bA f j).Phis.length->A0 (JO ((bA f j).Phis.getD k default) i) V.length:=λk hk=>by
  obtain⟨l,s,_⟩:=LX R h hj hn (Ai (d:=(default:Fe)) hk);exact⟨s.lo,s.hi⟩
 have hL1:=Dt (Gx (bA f j).Phis (i:Int) V) (λk=>((k:Int),(List.range k).map (λk=>V.getD (JO ((bA f j).Phis.getD k default) i).toNat [])++List.replicate ((bA f j).Phis.length-k) ([]:List Int)))
  ((List.range (bA f j).Phis.length).map (λk=>V.getD (JO ((bA f j).Phis.getD k default) i).toNat [])) (bA f j).Phis.length
  (λk hk=>by
   obtain⟨r,g1,g2,g3⟩:=ix k hk;unfold Gx;simp only[B8 hk,Af,Aa (Ak hk),Aq,g1,Ar,Aa (Ak g2),g3,Aa (hav k hk),w1 (show k<4611686018427387904 by omega)];rw[Aa (Ak (by rw[Gn,Xh,EH,K1];omega))];have:=mz (f:=λk=>V.getD (JO ((bA f j).Phis.getD k default) i).toNat []) (d:=([]:List Int)) hk
   rw[this])
  (by
   unfold Gx
   simp only[Ee,A2,Nat.sub_self,List.replicate_zero,List.append_nil])
 have hd0:∀ p∈(bA f j).Phis,A0 p.Dst V.length:=λp hp=>by
  obtain⟨k,hk,rfl⟩:=L5 hp;have hd:=FE hj hk;have e:(f.Blocks.getD j default).Phis.getD k default=(bA f j).Phis[k]:=Ag _ _ _ hk;rw[e]at hd;have h1:=Xz R.rest hd;have h2:=Ww hd;simp only at h1 h2;exact⟨by omega,by omega⟩
 have hL2:=Dt (Jd (bA f j).Phis _) (λk=>((k:Int),((bA f j).Phis.take k).foldl (λU p=>U.set p.Dst.toNat (V.getD (JO p i).toNat [])) V))
  (Wv (bA f j).Phis i V) (bA f j).Phis.length
  (λk hk=>by
   unfold Jd;have hin:=hd0 _ (Ai (d:=(default:Fe)) hk);simp only[B8 hk,Af,Aa (Ak hk),Aq,w1 (show k<4611686018427387904 by omega)];rw[Aa (Ak (by rw[Xh,EH];exact hk)),Aa (show A0 ((bA f j).Phis.getD k default).Dst _ by rw[ES];exact hin),Pg hk];rw[UT _ _ (default:Fe) hk,List.foldl_append]
   rfl)
  (by
   unfold Jd;simp only[Ee,A2,OU]
   rfl)
 unfold D0;rw[Aa ⟨by omega,by omega,by omega⟩,Aq];have hL1':Ac (Gx (bA f j).Phis (i:Int) V) ((0:Int),List.replicate (bA f j).Phis.length ([]:List Int))=_:=hL1;have hL2':Ac _ ((0:Int),V)=_:=hL2;rw[hL1',Ar,hL2',Ar]
theorem IX{bs:List Aj}{x:RR}:(some (LR.done x:LR ST RR)).bind (fin bs)=some x:=rfl
theorem qU{f:TFunc}(R:Ok f):∀(n i k:Nat) (V:Vs) (W:Nat->Prop) (B:List Int) (S F:Nat) (T:List Ad),At f V W i (k:Int)->k<=(bA f i).Ops.length->By B->S+n=F->F<4611686018427387000->T.length+128*n+128<=room->
  ∃(S'':Int) (V'':Vs),((f6 ((bA f i).Ops.drop k) V (F:Int) (S:Int) B T).bind (post f.Blocks (i:Int) V.length B.length)).bind (fin f.Blocks)=some (⟨(U1 f.Blocks n ⟨i,k,V,B⟩).code,(U1 f.Blocks n ⟨i,k,V,B⟩).val,((S+(U1 f.Blocks n ⟨i,k,V,B⟩).steps:Nat):Int)⟩,(F:Int),S'',T++(U1 f.Blocks n ⟨i,k,V,B⟩).t,V'',(U1 f.Blocks n ⟨i,k,V,B⟩).b) /\
   V''.length=V.length/\(U1 f.Blocks n ⟨i,k,V,B⟩).b.length=B.length/\Th (U1 f.Blocks n ⟨i,k,V,B⟩).b/\(U1 f.Blocks n ⟨i,k,V,B⟩).t.length<=128*n/\∀ x∈(U1 f.Blocks n ⟨i,k,V,B⟩).t,0<=x.At/\x.At<B.length:=by
 intro n
 induction n with
 | zero=>
  intro i k V W B S F T h hk hB hS hF hr
  obtain rfl:S=F:=by omega
  have res:((some ((9:Int),(S:Int),(S:Int),T,V,B):Option DR).bind (post f.Blocks (i:Int) V.length B.length)).bind (fin f.Blocks)=some (⟨9,0,(S:Int)⟩,(S:Int),(S:Int),T,V,B):=by
   rw[Ar];unfold post;rw[Aa rfl,Aa rfl];rfl
  refine⟨(S:Int),V,?_,rfl,rfl,hB.by_,L6 _,(by intro x hx;cases hx)⟩
  by_cases hlt:k<(bA f i).Ops.length
  ·rw[OQ hlt,uI,res];simp[U1]
  ·obtain rfl:k=(bA f i).Ops.length:=by omega
   rw[List.drop_length,kF,Ar];unfold post;rw[Aa rfl,Aa rfl];simp only[show((0:Int)!=0)=false from rfl,A2,Tc,Af];rw[IX];simp[U1]
 | succ n ih=>
  intro i k V W B S F T h hk hB hS hF hr;have hw1:w64 ((S:Int)+1)=((S+1:Nat):Int):=w1 (by omega)
  have hSF:(S:Int)≠(F:Int):=by omega
  have hBm:=Ai (d:=(default:Aj)) h.lt
  by_cases hlt:k<(bA f i).Ops.length
  ·have hdr:(bA f i).Ops.drop k=(bA f i).Ops.getD k default::(bA f i).Ops.drop (k+1):=by rw[OQ hlt,Ag _ _ _ hlt]
   have hom:=Ai (d:=(default:C5)) hlt;have him:u64 ((bA f i).Ops.getD k default).Imm:=(R.ok.block _ hBm).imm _ hom;obtain⟨L,e,t,B',D⟩:=yK (V:=V) hB.by_ hB.len (bw R hBm hom) him (λj hj=>tf R h (k:=(k:Int)) rfl hlt j hj);have hopV:=D.eq;have his:=D.is (F:Int) (w64 ((S:Int)+1)) T (by omega);rw[hdr];rcases D.code with rfl|rfl
   ·obtain⟨hd,hat⟩:=h.op R hlt (λa b=>D.shape rfl a b)
    have hst:UR f.Blocks ⟨i,k,V,B⟩=(some ⟨i,k+1,V.set ((bA f i).Ops.getD k default).Dst.toNat L,B'⟩,0,0,t,B'):=by
     unfold UR;rw[if_pos hlt]
     show(if(pz ((bA f i).Ops.getD k default) V B).2.1=0 then _ else _)=_
     rw[hopV,if_pos rfl]
    rw[ak (c':=⟨i,k+1,V.set ((bA f i).Ops.getD k default).Dst.toNat L,B'⟩) (by rw[hst]),hst,xl hSF his hd,hw1];obtain⟨S'',V'',g1,g2,g3,g4,g5,g6⟩:=ih i (k+1) _ W B' (S+1) F (T++t) hat (by omega) ⟨D.by_,by rw[D.len];exact hB.len⟩ (by omega) hF (by have:=D.tl;simp only[Gn];omega);rw[Cm,D.len]at g1;rw[Cm]at g2;rw[D.len]at g3 g6;refine⟨S'',V'',?_,g2,g3,g4,?_,?_⟩
    ·rw[g1];simp only[Out.push,EG];rw[show S+1+(U1 f.Blocks n ⟨i,k+1,V.set ((bA f i).Ops.getD k default).Dst.toNat L,B'⟩).steps=S+((U1 f.Blocks n ⟨i,k+1,V.set ((bA f i).Ops.getD k default).Dst.toNat L,B'⟩).steps+1) by omega]
    ·show(t++_).length<=_
     have:=D.tl;rw[Gn];omega
    ·intro x hx;rcases zzL14.1 hx with hx|hx
     ·exact D.tin x hx
     ·exact g6 x hx
   ·have hst:UR f.Blocks ⟨i,k,V,B⟩=(none,8,0,t,B'):=by
     unfold UR;rw[if_pos hlt]
     show(if(pz ((bA f i).Ops.getD k default) V B).2.1=0 then _ else _)=_
     rw[hopV,if_neg (show ¬ ((8:Int)=0) by decide)]
    rw[UM (by rw[hst]),hst,uH hSF his (by decide),Ar];refine⟨((S+1:Nat):Int),V,?_,rfl,D.len,D.by_,by have:=D.tl;show t.length<=_;omega,D.tin⟩;unfold post;rw[Aa rfl,Aa D.len.symm];simp only[show((8:Int)!=0)=true from rfl,Af,hw1];rw[IX]
  ·obtain rfl:k=(bA f i).Ops.length:=by omega
   have h1:=h.all R;rw[List.drop_length,kF,Ar];unfold post;rw[Aa rfl,Aa rfl]
   have hne:((S:Int)==(F:Int))=false:=by simpa using hSF
   have eb:f.Blocks.getD ((i:Int)).toNat default=bA f i:=rfl;simp only[show((0:Int)!=0)=false from rfl,A2,hne,eb,hw1];have hnl:¬ (bA f i).Ops.length<(f.Blocks.getD i default).Ops.length:=GS _
   by_cases k0:(bA f i).End.Kind=0
   ·obtain⟨b,hu⟩:=kI R h.lt (.inl k0);obtain⟨a,sa,ua⟩:=(j6 R h1 hu rfl rfl).one;have sa':Slot V (bA f i).End.Arg [a]:=sa
    have hst:UR f.Blocks ⟨i,(bA f i).Ops.length,V,B⟩=(none,0,a,[],B):=by
     unfold UR;rw[if_neg hnl,if_pos (show(sD f.Blocks ⟨i,(bA f i).Ops.length,V,B⟩).Kind=0 from k0)]
     show(none,(0:Int),(V.getD (bA f i).End.Arg.toNat []).getD 0 0,([]:List Ad),B)=_
     rw[sa'.is];rfl
    rw[UM (by rw[hst]),hst];rw[show((bA f i).End.Kind==0)=true by simpa using k0,Af,Uo sa',Ar,IX];refine⟨((S+1:Nat):Int),V,?_,rfl,rfl,hB.by_,L6 _,(by intro x hx;cases hx)⟩
    simp
   ·rw[show((bA f i).End.Kind==0)=false by simpa using k0,A2]
    by_cases k3:(bA f i).End.Kind=3
    ·have hst:UR f.Blocks ⟨i,(bA f i).Ops.length,V,B⟩=(none,8,0,[],B):=by
      unfold UR;rw[if_neg hnl,if_neg (show ¬ (sD f.Blocks ⟨i,(bA f i).Ops.length,V,B⟩).Kind=0 from k0),if_pos (show(sD f.Blocks ⟨i,(bA f i).Ops.length,V,B⟩).Kind=3 from k3)]
     rw[UM (by rw[hst]),hst];rw[show((bA f i).End.Kind==3)=true by simpa using k3,Af,IX];refine⟨((S+1:Nat):Int),V,?_,rfl,rfl,hB.by_,L6 _,(by intro x hx;cases hx)⟩
     simp
    ·rw[show((bA f i).End.Kind==3)=false by simpa using k3,A2];obtain⟨n1,n2,n3⟩:=uk R h1 k0 k3
     have hst:UR f.Blocks ⟨i,(bA f i).Ops.length,V,B⟩=(some ⟨Ub (bA f i).End V,0,Wv (bA f (Ub (bA f i).End V)).Phis i V,B⟩,0,0,[],B):=by
      unfold UR;rw[if_neg hnl,if_neg (show ¬ (sD f.Blocks ⟨i,(bA f i).Ops.length,V,B⟩).Kind=0 from k0),if_neg (show ¬ (sD f.Blocks ⟨i,(bA f i).Ops.length,V,B⟩).Kind=3 from k3)]
     have hat:=h1.next R n1 n2
     have hcl:(Wv (bA f (Ub (bA f i).End V)).Phis i V).length=V.length:=by unfold Wv;rw[ES]
     obtain⟨S'',V'',g1,g2,g3,g4,g5,g6⟩:=ih (Ub (bA f i).End V) 0 _ _ B (S+1) F T hat (L6 _) hB (by omega) hF (by omega);rw[ak (c':=⟨Ub (bA f i).End V,0,Wv (bA f (Ub (bA f i).End V)).Phis i V,B⟩) (by rw[hst]),hst];rw[n3,Ar,Aa (Ak n1),Aq];have hcome:=xY R h1 n1 n2 (F:Int) ((S+1:Nat):Int) B T;have hcome':D0 (f.Blocks.getD (Ub (bA f i).End V) default).Phis (i:Int) V (F:Int) ((S+1:Nat):Int) B T=_:=hcome;rw[hcome',Ar]
     dsimp only
     rw[Aa hcl.symm,Aa rfl,Ar]
     show ∃(S'':Int) (V'':Vs),Ac (Bn f.Blocks) (((Ub (bA f i).End V:Nat):Int),(F:Int),((S+1:Nat):Int),T,Wv (bA f (Ub (bA f i).End V)).Phis i V,B)=_/\_
     rw[eP,wO (λb hb=>by have:=(R.ok.block b hb).ops;omega),j9,Aa (Ak n1)];rw[Mw]at g1;rw[hcl]at g2;refine⟨S'',V'',?_,g2,g3,g4,?_,g6⟩
     ·refine g1.trans ?_;simp only[Out.push,Tv];rw[show S+1+(U1 f.Blocks n ⟨Ub (bA f i).End V,0,Wv (bA f (Ub (bA f i).End V)).Phis i V,B⟩).steps=S+((U1 f.Blocks n ⟨Ub (bA f i).End V,0,Wv (bA f (Ub (bA f i).End V)).Phis i V,B⟩).steps+1) by omega]
     ·show([]++(U1 f.Blocks n _).t).length<=_
      rw[Tv];omega
theorem SK{α:Type}{v:α->Int}{M:Int}:∀{l:List α} {n:Int},n<=M->(∀ a∈l,v a<=M)->l.foldl (λn a=>grow n (v a)) n<=M
 | [],n,h,_=>h
 | a::l,n,h,hl=>by
  rw[EI];refine SK ?_ (λb hb=>hl b (by simp[hb]));unfold grow
  cases decide (n<v a)
  ·exact h
  ·exact hl a (by simp)
theorem iL{f:TFunc}(R:Ok f):Ur f<=1023:=by
 have key:∀(l:List _),(∀ b∈l,b∈f.Blocks)->∀ n ,n<=1023->l.foldl (λn b=>b.Ops.foldl (λn o=>grow n o.Dst) (b.Phis.foldl (λn p=>grow n p.Dst) n)) n<=1023:=by
  intro l
  induction l with
  | nil=>intro _ n h;exact h
  | cons b l ih=>
   intro hb n hn;refine ih (λc hc=>hb c (by simp[hc])) _ ?_;have hbm:=hb b (by simp);obtain⟨i,hi,rfl⟩:=L5 hbm;refine SK (SK hn λp hp=>?_) λo ho=>?_
   ·obtain⟨k,hk,rfl⟩:=L5 hp
    have hk':k<(f.Blocks.getD i default).Phis.length:=by grind
    have hd:=FE hi hk';obtain⟨j,hj,he⟩:=L5 hd;have h1:=gq (UH R).1 j hj;unfold P2 at h1;rw[Bg]at h1;rw[Ag _ _ _ hj,he]at h1;have:=h1.1;unfold valS at this;simp only[Bg,Jm]at this
    have e2:((f.Blocks.getD i default).Phis.getD k default)=f.Blocks[i].Phis[k]:=by grind
    rw[e2]at this;exact this.2
   ·have hm:=bw R hbm ho;have hd:=(Vt hm).2.2.2.2.2.2;unfold dstS at hd
    cases hc:(o.Kind==17 || o.Kind==19) with
    | true=>grind
    | false=>
     rw[hc]at hd;have:valS _=true:=hd;unfold valS at this;simp only[Bg,Jm]at this;exact this.2
 exact key _ (λb hb=>hb) _ (by have:=R.ok.few;omega)
theorem pS{f:TFunc}(R:Ok f):∃ n:Nat,Ur f=(n:Int)/\f.Params.length<=n/\n<=1023:=by
 obtain⟨h1,_⟩:=S2 _ _;have h2:f.Params.length<=Ur f:=h1;have:=iL R;exact⟨(Ur f).toNat,by omega,by omega,by omega⟩
def runD(f:TFunc)(ags:List Int)(F:Nat)(B:List Int):Out:=U1 f.Blocks F ⟨0,0,Xv f ags (Ur f).toNat,B⟩
theorem cQ{f:TFunc}(h:Sm f)(hc:K4 f 2=0){ags:List Int}{F:Nat}{B:List Int}{T:List Ad}(hB:By B)(hF:F<4611686018427387000)(hr:T.length+128*F+128<=room)(hl:ags.length=f.Params.length)(ha:∀ a∈ags,u64 a) :
  Jr f ags (F:Int) B T=some (⟨(runD f ags F B).code,(runD f ags F B).val,((runD f ags F B).steps:Int)⟩,0,T++(runD f ags F B).t,(runD f ags F B).b) /\
   (runD f ags F B).b.length=B.length/\Th (runD f ags F B).b/\(runD f ags F B).t.length<=128*F/\∀ x∈(runD f ags F B).t,0<=x.At/\x.At<B.length:=by
 have R:=Aar h hc;obtain⟨n,hn,hpn,hn2⟩:=pS R
 have hnt:(Ur f).toNat=n:=by rw[hn];exact Aq n
 have hw :=λw hw=>by
  have:=R.typed;simp only[Sh,Bg,zzL34]at this;exact kx (this.1.1 w hw)
 have hat:=oT R hn hl hw;obtain⟨S'',V'',g1,g2,g3,g4,g5,g6⟩:=qU R F 0 0 _ _ B 0 F T hat (L6 _) hB (by omega) hF hr;unfold runD;rw[hnt];refine⟨?_,g3,g4,g5,g6⟩;have hb0:=Ai (d:=default) R.lo
 rw[Aac  (by omega) (by rw[tw f 2 h,hc]) (by rw[xc f h,hn]) hl hw ha hpn (by omega) R.lo (by have:=(R.ok.block _ hb0).phis;omega) (λp hp=>by
  obtain⟨k,hk,rfl⟩:=L5 hp;have hd:=FE R.lo hk;have e:(f.Blocks.getD 0 _).Phis.getD k default=(f.Blocks.getD 0 _).Phis[k]:=Ag _ _ _ hk;rw[e]at hd;have h1:=Xz R.rest hd;have h2:=Ww hd;simp only at h1 h2
  exact⟨by omega,by omega⟩)]
 rw[eP,wO (λb hb=>by have:=(R.ok.block b hb).ops;omega),j9,Aa (⟨Int.le_refl _,by have:=R.lo;omega⟩)];have g1':((f6 (f.Blocks.getD (0:Int).toNat _).Ops _ _ 0 B T).bind (post _ 0 _ _)).bind _=_:=g1;rw[g1',Ar];unfold Aa2;rw[Aa g2.symm,Aa g3.symm,Hz]
theorem th:m_locksteplaw13_awake=some true:=by kernel_rfl
theorem byF{B:List Int}(h:Th B):Wr B.length (λi=>Qi (B.getD i (0:Int))):=oi (λ_=>rfl) h
theorem vO(f:TFunc)(c:TCase)(hf:fw f):∃ b,J1 f c=some b/\(b=true->Sm f/\c.Args.length<=40/\c.Mem.length<=4096/\c.Fuel<=500):=by
 obtain⟨b,hb,hs⟩:=mQ hf;unfold J1;rw[hb];refine⟨_,rfl,λh=>?_⟩
 cases b with
 | false=>cases h
 | true=>
  grind
theorem vK:(1000000:Nat)<=room:=by decide
theorem again13(f:TFunc)(c:TCase)(hf:fw f)(hA:∀ a∈c.Args,u64 a)(hM:Th c.Mem):Kb f c=some true:=by
 have hroom:=vK;unfold Kb;rw[th,Ar,D3,A2];obtain⟨b,hb,hsm⟩:=vO f c hf;rw[hb,Ar]
 cases b with
 | false=>rfl
 | true=>
 obtain⟨h,hAl,hMl,hFu⟩:=hsm rfl;rw[D3,A2]
 by_cases hF0:c.Fuel<0
 ·rw[Cr hF0];rfl
 rw[C0 hF0,A2,eR h,Ar]
 by_cases hc:K4 f 2=0
 rotate_left
 ·grind
 by_cases hlen:c.Args.length=f.Params.length
 rotate_left
 ·grind
 have hB:By c.Mem:=⟨hM,by omega⟩;obtain⟨F,hFe⟩:∃ F:Nat,c.Fuel=(F:Int):=⟨c.Fuel.toNat,by omega⟩
 have hF5:F<=500:=by omega
 rw[hFe,eQ hMl,Ar];obtain⟨r1,b1,o1,t1,i1⟩:=cQ h hc (T:=[]) hB (F:=F) (by omega) (by simp;omega) hlen hA
 generalize runD f c.Args F c.Mem=y at *
 rw[Tv]at r1;have hB2:By y.b:=⟨o1,by omega⟩;obtain⟨r2,b2,o2,t2,i2⟩:=cQ h hc (T:=[]) hB2 (F:=F) (by omega) (by simp;omega) hlen hA;obtain⟨r3,_⟩:=cQ h hc (T:=y.t) hB2 (F:=F) (by omega) (by omega) hlen hA
 generalize runD f c.Args F y.b=z at *
 rw[Tv]at r2;simp only[Af,Ar,r1,Aa b1.symm];rw[bq (by omega),Ar,Aa rfl]
 dsimp only
 rw[br (by omega),Ar,Aa rfl]
 have hL:=Dt (Fu (y.b,y.t,y.b) (y.t,y.t,y.b)) (λk=>((k:Nat):Int)) (.inl ()) y.t.length (λk hk=>by
  unfold Fu;have hi:=i1 _ (Ai (d:=(default:Ad)) hk);simp only[B8 hk,Af,Aa (Ak hk),Aq,w1 (show k<4611686018427387904 by omega)];rw[Og (n:=((y.b.length:Nat):Int)) (by omega) (by omega),C0 (by omega)]
  rfl) (by
  unfold Fu
  simp only[Ee,A2])
 have hL':Ac _ (0:Int)=_:=hL;rw[hL',Ar]
 dsimp only
 rw[eQ (show y.b.length<=4096 by omega),Ar];simp only[Af,r3,r2,Ar,Aa b2.symm,Tc,MU,VH];rw[bq (by omega),Ar,Aa rfl,Aa (byF o2),bq (by omega),Ar,Aa rfl,Aa (byF o2),Tc,Af]
 dsimp only
 rw[br (by rw[Gn];omega),Ar,Aa rfl,br (by omega),Ar,Aa rfl]
 dsimp only
 rw[Ij (by omega) (by omega),Gn]
 simp
end
end Go.Proofs.YtaeaenoaomdimaaGreat
