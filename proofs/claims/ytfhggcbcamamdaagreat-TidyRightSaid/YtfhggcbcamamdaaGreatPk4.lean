/-
  The machine, the program's functions and the laws' arithmetic: part 4 of 6.
-/
import Derived.Test.YtfhggcbcamamdaaGreatPk3
import Derived.OpenShut
import Derived.ShutString
set_option linter.unusedSectionVars false
set_option linter.unusedVariables false
set_option linter.unusedSimpArgs false
namespace Go.Proofs.YtfhggcbcamamdaaGreat
noncomputable section
open Go Go.RowKit
set_option maxRecDepth 100000
set_option maxHeartbeats 2000000
def Gy(a0:TFunc)(i4:Int):Int->Option (LR Int (Unit ⊕ Bool)):=
 λi6=>bif decide (i6<(a0.Blocks.getD i4.toNat default).Phis.length) then Az (A2 i6 (a0.Blocks.getD i4.toNat default).Phis.length) ((Bp ((a0.Blocks.getD i4.toNat default).Phis.getD i6.toNat default).Bits).bind λx8=>(bif (!x8)==false then Bp ((a0.Blocks.getD i4.toNat default).Phis.getD i6.toNat default).Dst else some false).bind λx9=>(bif (bif !x8 then true else !x9)==false then Dq ((a0.Blocks.getD i4.toNat default).Phis.getD i6.toNat default).From else some false).bind λx10=>(bif (bif bif !x8 then true else !x9 then true else !x10)==false then Dq ((a0.Blocks.getD i4.toNat default).Phis.getD i6.toNat default).Args else some false).bind λx11=>bif bif bif bif !x8 then true else !x9 then true else !x10 then true else !x11 then some (.done (.inr false)) else some (.next (w64 (i6+1)))) else some (.done (.inl ()))
def Gz(a0:TFunc)(i4:Int):Int->Option (LR Int (Unit ⊕ Bool)):=
 λi14=>bif decide (i14<(a0.Blocks.getD i4.toNat default).Ops.length) then Az (A2 i14 (a0.Blocks.getD i4.toNat default).Ops.length) ((Bp ((a0.Blocks.getD i4.toNat default).Ops.getD i14.toNat default).Kind).bind λx16=>(bif (!x16)==false then Bp ((a0.Blocks.getD i4.toNat default).Ops.getD i14.toNat default).Bits else some false).bind λx17=>(bif (bif !x16 then true else !x17)==false then Bp ((a0.Blocks.getD i4.toNat default).Ops.getD i14.toNat default).Lanes else some false).bind λx18=>(bif (bif bif !x16 then true else !x17 then true else !x18)==false then Bp ((a0.Blocks.getD i4.toNat default).Ops.getD i14.toNat default).Dst else some false).bind λx19=>(bif (bif bif bif !x16 then true else !x17 then true else !x18 then true else !x19)==false then Dq ((a0.Blocks.getD i4.toNat default).Ops.getD i14.toNat default).Args else some false).bind λx20=>bif bif bif bif bif !x16 then true else !x17 then true else !x18 then true else !x19 then true else !x20 then some (.done (.inr false)) else some (.next (w64 (i14+1)))) else some (.done (.inl ()))
def E4(a0:TFunc):Int->Option (LR Int (Unit ⊕ Bool)):=
 λi4=>bif decide (i4<a0.Blocks.length) then Az (A2 i4 a0.Blocks.length) ((Ac   (Gy a0 i4) 0).bind λx12=>match x12 with | .inl _=>(Ac   (Gz a0 i4) 0).bind λx21=>(match x21 with | .inl _=>(Bp (a0.Blocks.getD i4.toNat default).End.Kind).bind λx23=>(bif (!x23)==false then Bp (a0.Blocks.getD i4.toNat default).End.Arg else some false).bind λx24=>(bif (bif !x23 then true else !x24)==false then Dq (a0.Blocks.getD i4.toNat default).End.To else some false).bind λx25=>bif bif bif !x23 then true else !x24 then true else !x25 then some (.done (.inr false)) else some (.next (w64 (i4+1))) | .inr r26=>some (.done (.inr r26))) | .inr r27=>some (.done (.inr r27))) else some (.done (.inl ()))
def Om(Γ:H3)(a0:TFunc)(r:Bool):Exit->St->Prop:=fK Tryz.prog Γ Tryz.f51.results.toList [] (.bool r) []
def bo(x8:Bool)(x9:Bool):=(bif (!x8) then true else(!x9))
def mp(a0:TFunc):=((a0.Blocks.length:Int)==0)
def mo(a0:TFunc):=(bif (bif (mp a0) then true else(decide ((64:Int)<(a0.Blocks.length:Int)))) then true else(decide ((16:Int)<(a0.Params.length:Int))))
def bp(a0:TFunc)(x1:Bool):=(bif (mo a0) then true else(!x1))
def vC(x23:Bool)(x24:Bool):=((bif (!x23) then true else(!x24))==false)
def Aab(a0:TFunc)(i4:Int):=(a0.Blocks.getD i4.toNat default)
def Aay(a0:TFunc)(i4:Int)(i14:Int):=(((Aab a0 i4).Ops).getD i14.toNat default)
def bn(x16:Bool)(x17:Bool)(x18:Bool):=(bif (bif (!x16) then true else(!x17)) then true else(!x18))
def Aac(a0:TFunc):=((bif (mp a0) then true else(decide ((64:Int)<(a0.Blocks.length:Int))))==false)
def Iu(a0:TFunc):Option Bool:=
 (bif (bif bif (a0.Blocks.length:Int)==0 then true else decide (64<(a0.Blocks.length:Int)) then true else decide (16<(a0.Params.length:Int)))==false then Dq a0.Params else some false).bind λx1=>(bif (bif bif bif a0.Blocks.length==(0:Int) then true else decide (64<(a0.Blocks.length:Int)) then true else decide (16<(a0.Params.length:Int)) then true else !x1)==false then Bp a0.Ret else some false).bind λx2=>(bif (bif bif bif bif a0.Blocks.length==(0:Int) then true else decide (64<(a0.Blocks.length:Int)) then true else decide (16<(a0.Params.length:Int)) then true else !x1 then true else !x2)==false then Ew a0 else some 0).bind λx3=>bif bif bif bif bif bif a0.Blocks.length==(0:Int) then true else decide (64<(a0.Blocks.length:Int)) then true else decide ((16:Int)<a0.Params.length) then true else !x1 then true else !x2 then true else decide (512<x3) then some false else(Ac   (E4 a0) 0).bind λx28=>match x28 with | .inl _=>some true | .inr r30=>some r30
variable{v0:TFunc}{v3:Bool}
theorem BH(h:Iu v0=some v3):sP 51 [(V0 v0)] [] (.bool v3) []:=
 sG Tryz.func51 λΓ q=>Af q [1] [1] (tB h λx1 y1 h=>tB h λx2 y2 h=>tB h λx3 y3 h=>tT q [1,41] [1] [(Z2 x1),(Z2 x2),(UF x3)] (Yt ((mp v0)==false) (ci (Lx (mp v0)) (Yt (Aac v0) (ci (Lx (bif (mp v0) then true else(decide ((64:Int)<(v0.Blocks.length:Int))))) (Mr ((mo v0)==false) (UG (λ(hg:((mo v0)==false)=true)=>(Hp (Bf hg y1))) (gI ((mo v0)==false)) (Lx (mo v0)) (Mr ((bp v0 x1)==false) (c7 (λ(hg:((bp v0 x1)==false)=true)=>(Ci (Bf hg y2))) (gI ((bp v0 x1)==false)) (Lx (bp v0 x1)) (gI ((bif (bp v0 x1) then true else(!x2))==false)) (λ(hg:((bif (bp v0 x1) then true else(!x2))==false)=true)=>(Mx (Bf hg y3))) (gI ((bif (bp v0 x1) then true else(!x2))==false)) (Lx (bif (bp v0 x1) then true else(!x2))))))))))) (gC h (λh=>Af q [2] [] (tS h (Cc []))) λh=>Af q L4 [1] (tL q h L4 [1] (λu i4=>(Cp u [(3,(Z5 i4))] [])) (λu x_=>match x_ with|(.inl _)=>aG Γ (.exit 0) (⟨[],[],[]⟩:St)|(.inr r_)=>aR (Om Γ v0 r_)) (λi4 y h=>Af q [1,3,46] [1] (gC h (λh=>tV q J6 P1 h λh=>Af q L3 P1 (tL q h L3 P1 (λu i6=>(Cp u [(5,(Z5 i6))] [])) (λu x_=>match x_ with|(.inl _)=>aG Γ (.exit 2) (Nf J6 P1 u [] [])|(.inr r_)=>aR (Om Γ v0 r_)) (λi6 y h=>Af q [1,3,4,5,58] P1 (gC h (λh=>tV q Sj [1,4,6] h λh=>tB h λx8 y8 h=>tB h λx9 y9 h=>tB h λx10 y10 h=>tB h λx11 y11 h=>tT q [1,3,4,5,87] P1 [(Z2 x8),(Z2 x9),(Z2 x10),(Z2 x11)] (ci (Ci y8) (Mr ((!x8)==false) (UG (λ(hg:((!x8)==false)=true)=>(Ci (Bf hg y9))) (gI ((!x8)==false)) (Lx (!x8)) (Mr ((bo x8 x9)==false) (UG (λ(hg:((bo x8 x9)==false)=true)=>(Hp (Bf hg y10))) (gI ((bo x8 x9)==false)) (Lx (bo x8 x9)) (Mr ((bif (bo x8 x9) then true else(!x10))==false) (c3 (λ(hg:((bif (bo x8 x9) then true else(!x10))==false)=true)=>(Hp (Bf hg y11))) (gI ((bif (bo x8 x9) then true else(!x10))==false)) (Lx (bif (bo x8 x9) then true else(!x10)))))))))) (gC h (λh=>Af q [2] [] (tS h (gO (Lj (H4 [] (Le.refl _ _)))))) λh=>Af q L3 P1 (tN h))) λh=>tS h (gO (Be (Bi J6 P1 q))))) λx12 h=>(match x12,h with | .inl _,h=>gA (Af q [1,3,4,7] P1 (tL q h [1,3,4,7] P1 (λu i14=>(Cp u [(7,(Z5 i14))] [])) (λu x_=>match x_ with|(.inl _)=>aG Γ (.exit 4) (Nf J6 P1 u [] [])|(.inr r_)=>aR (Om Γ v0 r_)) (λi14 y h=>Af q [1,3,4,7,92] P1 (gC h (λh=>tV q [1,3,4,7,8] [1,4,8] h λh=>tB h λx16 y16 h=>tB h λx17 y17 h=>tB h λx18 y18 h=>tB h λx19 y19 h=>tB h λx20 y20 h=>tT q [1,3,4,7,127] P1 [(Z2 x16),(Z2 x17),(Z2 x18),(Z2 x19),(Z2 x20)] (ci (Ci y16) (Mr ((!x16)==false) (UG (λ(hg:((!x16)==false)=true)=>(Ci (Bf hg y17))) (gI ((!x16)==false)) (Lx (!x16)) (Mr ((bif (!x16) then true else(!x17))==false) (UG (λ(hg:((bif (!x16) then true else(!x17))==false)=true)=>(Ci (Bf hg y18))) (gI ((bif (!x16) then true else(!x17))==false)) (Lx (bif (!x16) then true else(!x17))) (Mr ((bn x16 x17 x18)==false) (UG (λ(hg:((bn x16 x17 x18)==false)=true)=>(Ci (Bf hg y19))) (gI ((bn x16 x17 x18)==false)) (Lx (bn x16 x17 x18)) (Mr ((bif (bn x16 x17 x18) then true else(!x19))==false) (c3 (λ(hg:((bif (bn x16 x17 x18) then true else(!x19))==false)=true)=>(Hp (Bf hg y20))) (gI ((bif (bn x16 x17 x18) then true else(!x19))==false)) (Lx (bif (bn x16 x17 x18) then true else(!x19)))))))))))) (gC h (λh=>Af q [2] [] (tS h (gO (Lj (H4 [] (Le.refl _ _)))))) λh=>Af q [1,3,4,7] P1 (tN h))) λh=>tS h (gO (Be (Bi J6 P1 q))))) λx21 h=>(match x21,h with | .inl _,h=>gA (tB h λx23 y23 h=>tB h λx24 y24 h=>tB h λx25 y25 h=>tT q [1,3,146] [1] [(Z2 x23),(Z2 x24),(Z2 x25)] (ci (Ci y23) (Yt ((!x23)==false) (UG (λ(hg:((!x23)==false)=true)=>(Ci (Bf hg y24))) (gI ((!x23)==false)) (Lx (!x23)) (Yt (vC x23 x24) (c3 (λ(hg:(vC x23 x24)=true)=>(Hp (Bf hg y25))) (gI (vC x23 x24)) (Lx (bif (!x23) then true else(!x24)))))))) (gC h (λh=>Af q [2] [] (tS h (gO (Lj (H4 [] (Le.refl _ _)))))) λh=>Af q L4 [1] (tN h))) | .inr r26,h=>Oz (λst' hk=>tS h (gO (Lj hk)))))) | .inr r27,h=>Oz (λst' hk=>tS h (gO (Lj hk)))))) λh=>tS h (gO (Be (Bi [] [] q))))) λx28 h=>(match x28,h with | .inl _,h=>gA (Af q [2] [] (tS h (Cc []))) | .inr r30,h=>Oz (λst' hk=>tS h (gK hk))))))
def G0(aS:Aw)(aD:Int):Int->Option (LR Int (Unit ⊕ Bool)):=
 λi1=>bif decide (i1<aS.length) then Az (A2 i1 aS.length) (bif aS.getD i1.toNat 0==aD then some (.done (.inr true)) else some (.next (w64 (i1+1)))) else some (.done (.inl ()))
def DU(Γ:H3)(aS:Aw)(aD:Int)(r:Bool):Exit->St->Prop:=fK Tryz.prog Γ Tryz.f32.results.toList [] (.bool r) []
def G9(aS:Aw)(aD:Int):Option Bool:=
 (Ac   (G0 aS aD) 0).bind λx3=>match x3 with | .inl _=>some false | .inr r5=>some r5
variable{v1:Int}{v2:Aw}
theorem Nv(h:G9 v2 v1=some v3):sP 32 [(Z6 v2),(Z5 v1)] [] (.bool v3) []:=
 sG Tryz.func32 λΓ q=>tW q Gn [] Nb [] (tL q h Nb [] (λu i1=>(Cp u [(5,(Z5 i1))] [])) (λu x_=>match x_ with|(.inl _)=>aG Γ (.exit 0) (⟨[],[],[]⟩:St)|(.inr r_)=>aR (DU Γ v2 v1 r_)) (λi1 y h=>Af q [0,1,5,9] [] (gC h (λh=>tV q [0,1,5,17] [] h λh=>gC h (λh=>Af q [4] [] (tS h (gO (Lj (H4 [] (Le.refl _ _)))))) λh=>Af q Nb [] (tN h)) λh=>tS h (gO (Be (Bi [] [] q))))) λx3 h=>(match x3,h with | .inl _,h=>gA (Af q [4] [] (tS h (Cc []))) | .inr r5,h=>Oz (λst' hk=>tS h (gK hk))))
abbrev xB:=(LR Int (Unit ⊕ (TGraph×Int)))
def Ef(a6:N9)(i1:Int):Int->Option xB:=
 λi2=>Az (A2 i1 a6.length) (bif decide (i2<(a6.getD i1.toNat []).length) then Az (A2 i1 a6.length) (Az (A2 i2 (a6.getD i1.toNat []).length) (Az ((decide ((a6.getD i1.toNat []).getD i2.toNat 0<0)==false)=true->A2 i1 a6.length) (Az ((decide ((a6.getD i1.toNat []).getD i2.toNat 0<0)==false)=true->A2 i2 (a6.getD i1.toNat []).length) (Az (((bif decide ((a6.getD i1.toNat []).getD i2.toNat 0<0) then true else decide (a6.length<=(a6.getD i1.toNat []).getD i2.toNat 0))==false&&decide (0<i2)==true)=true->A2 i1 a6.length) (Az (((bif decide ((a6.getD i1.toNat []).getD i2.toNat 0<0) then true else decide (a6.length<=(a6.getD i1.toNat []).getD i2.toNat 0))==false&&decide (0<i2)==true)=true->A2 i2 (a6.getD i1.toNat []).length) (Az (((bif decide ((a6.getD i1.toNat []).getD i2.toNat 0<0) then true else decide (a6.length<=(a6.getD i1.toNat []).getD i2.toNat 0))==false&&decide (0<i2)==true)=true->A2 i1 a6.length) (Az (((bif decide ((a6.getD i1.toNat []).getD i2.toNat 0<0) then true else decide (a6.length<=(a6.getD i1.toNat []).getD i2.toNat 0))==false&&decide (0<i2)==true)=true->A2 (w64 (i2-1)) (a6.getD i1.toNat []).length) (bif bif bif decide ((a6.getD i1.toNat []).getD i2.toNat 0<0) then true else decide (a6.length<=(a6.getD i1.toNat []).getD i2.toNat 0) then true else bif decide (0<i2) then decide ((a6.getD i1.toNat []).getD i2.toNat 0<=(a6.getD i1.toNat []).getD (w64 (i2-1)).toNat 0) else false then some (.done (.inr (⟨[],[]⟩,5))) else some (.next (w64 (i2+1))))))))))) else some (.done (.inl ())))
def Gd(a6:N9):Int->Option xB:=
 λi1=>bif decide (i1<a6.length) then(Ac   (Ef a6 i1) 0).bind λx12=>match x12 with | .inl _=>some (.next (w64 (i1+1))) | .inr r14=>some (.done (.inr r14)) else some (.done (.inl ()))
def Ig(a6:N9)(i18:Int):zk->Option yT6:=
 λ(i21,l22)=>bif decide (i21<a6.length) then Option.bind  (Az (A2 i21 a6.length) ((G9 (a6.getD i21.toNat []) i18).bind λx26=>bif x26 then Az (A2 i18 l22.length) (Az (A2 i18 l22.length) (Az ((l22.getD i18.toNat []).length+[i21].length<=room) (Az (A2 i18 l22.length) (some (l22.set i18.toNat (l22.getD i18.toNat []++[i21])))))) else some l22)) λx31=>some (.next (w64 (i21+1),x31)) else some (.done l22)
def Eg(a6:N9):zk->Option yT6:=
 λ(i18,l19)=>bif decide (i18<a6.length) then(Ac   (Ig a6 i18) (0,l19)).bind λx33=>some (.next (w64 (i18+1),x33)) else some (.done l19)
def R4(Γ:H3)(a6:N9)(r:mR):Exit->St->Prop:=fK Tryz.prog Γ Tryz.f67.results.toList [] (.tuple (rK r.1 r.2)) []
def V4(a6:N9):AV:=(NO a6)
def rV(a6:N9):AV:=(.int .i64 (a6.length:Int))
def rU(a6:N9)(i1:Int)(i2:Int):=((bif (decide (((a6.getD i1.toNat []).getD i2.toNat 0)<0)) then true else(decide ((a6.length:Int)<=((a6.getD i1.toNat []).getD i2.toNat 0))))==false)
def Aad(i2:Int):=((decide ((0:Int)<i2))==true)
def kP(a6:N9)(i1:Int)(i2:Int):=((rU a6 i1 i2)&&(Aad i2))
def kO:List MM:=[Uj,(3,(.int .i64 (5:Int)))]
def YW(l22:N9)(i18:Int)(i21:Int):=((l22.getD i18.toNat [])++([i21]:Aw))
def xX:AV:=Z83
def er(a6:N9):=(List.replicate (a6.length:Int).toNat ([]:Aw))
def MZ:List AV:=[Zx,Zx]
def rX(a6:N9):List MM:=[(0,(V4 a6)),Uj,(4,(rV a6)),(7,(.ptr 7 0))]
def vD(a6:N9)(i1:Int)(i2:Int):=((decide (((a6.getD i1.toNat []).getD i2.toNat 0)<0))==false)
def bq:List AV:=[xL,xL]
def rW(a6:N9)(i18:Int)(i21:Int):List MM:=[(0,(V4 a6)),Uj,(4,(rV a6)),(7,(.ptr 7 0)),(8,(Z5 i18)),(9,(Z5 i21))]
def H2(a6:N9):Option mR:=
 bif bif (a6.length:Int)==0 then true else decide ((64:Int)<a6.length) then some (⟨[],[]⟩,5) else(Ac   (Gd a6) 0).bind λx15=>match x15 with | .inl _=>Az (0<=(a6.length:Int)/\a6.length<=(a6.length:Int)/\a6.length<=(room:Int)) ((Ac   (Eg a6) (0,List.replicate (a6.length:Int).toNat [])).bind λx35=>some (⟨a6,x35⟩,0)) | .inr r37=>some r37
variable{v14:N9}{v16:mR}
theorem Re(h:H2 v14=some v16):sP 67 [(NO v14)] [] (.tuple (rK v16.1 v16.2)) []:=
 sG Tryz.func67 λΓ q=>have hΓ:=q.own;tW q [0,2] [2] [0,2,4] [2] (tU q [0,2,4,17] [2] (c2 (gI (((v14.length:Int)==0)==false)) (Lx ((v14.length:Int)==0))) (gC h (λh=>gR q Cz [2] [(18,(.agg bq))] [] (c1 (show(AVle (.agg MZ) (.agg bq)) from(AVle.agg (.cons Ej (.cons Ej .nil))))) (P6 (⟨kO,[(Pp 56 bq)],[]⟩:St) (tS h (gK (e:=.ret) (H4 [] (show Le Γ _ (⟨kO,[(mX xX)],[]⟩:St) from Le.trans (Bi (st':=⟨kO,[(Pp 56 bq)],[]⟩) Cz [2] q) (I6 (.cons (AVle.refl _) (.cons (AVle.refl _) .nil)) (.row (.cons AVle.untag (.cons AVle.untag .nil)) .nil)))))))) λh=>Af q TN [2] (tL q h TN [2] (λu i1=>(Cp u [(5,(Z5 i1))] [])) (λu x_=>match x_ with|(.inl _)=>aG Γ (.exit 0) (Nf [0,2,4] [2] u [] [])|(.inr r_)=>aR (R4 Γ v14 r_)) (λi1 y h=>Af q [0,2,4,5,21] [2] (gC h (λh=>Af q iV [2] (tL q h iV [2] (λu i2=>(Cp u [(6,(Z5 i2))] [])) (λu x_=>match x_ with|(.inl _)=>aG Γ (.exit 2) (Nf TN [2] u [] [])|(.inr r_)=>aR (R4 Γ v14 r_)) (λi2 y h=>tV q [0,2,4,5,6,30] [2] h λh=>gC h (λh=>tC h λc4_ h=>tC h λc5_ h=>tC h λc6_ h=>tC h λc7_ h=>tC h λc8_ h=>tC h λc9_ h=>tC h λc10_ h=>tC h λc11_ h=>tU q [0,2,4,5,6,73] [2] (fb c4_ c5_ (Mr (vD v14 i1 i2) (ci c6_ (Yt (vD v14 i1 i2) (ci c7_ (Yt (vD v14 i1 i2) (ci (Lx (decide (((v14.getD i1.toNat []).getD i2.toNat 0)<0))) (Mr (rU v14 i1 i2) (Mr (kP v14 i1 i2) (ci c8_ (Yt (kP v14 i1 i2) (ci c9_ (Yt (kP v14 i1 i2) (ci c10_ (LJ (kP v14 i1 i2) (ci c11_ (Yt (kP v14 i1 i2) (c3 (gI (rU v14 i1 i2)) (show((rU v14 i1 i2)=true->((decide ((0:Int)<i2))=true->(kP v14 i1 i2)=true)) from(λhg=>(aT hg))) (Lx (bif (decide (((v14.getD i1.toNat []).getD i2.toNat 0)<0)) then true else(decide ((v14.length:Int)<=((v14.getD i1.toNat []).getD i2.toNat 0))))))))))))))))))))))) (gC h (λh=>gR q Cz [2] [(74,(.agg bq))] [] (c1 (show(AVle (.agg MZ) (.agg bq)) from(AVle.agg (.cons Ej (.cons Ej .nil))))) (P6 (⟨kO,[(Pp 56 bq)],[]⟩:St) (tS h (gO (Lj (H4 [] (show Le Γ _ (⟨kO,[(mX xX)],[]⟩:St) from Le.trans (Bi (st':=⟨kO,[(Pp 56 bq)],[]⟩) Cz [2] q) (I6 (.cons (AVle.refl _) (.cons (AVle.refl _) .nil)) (.row (.cons AVle.untag (.cons AVle.untag .nil)) .nil))))))))) λh=>Af q iV [2] (tN h))) λh=>tS h (gO (Be (Bi TN [2] q)))) λx12 h=>(match x12,h with | .inl _,h=>gA (Af q TN [2] (tN h)) | .inr r14,h=>Oz (λst' hk=>tS h (gO (Lj hk)))))) λh=>tS h (gO (Be (Bi [0,2,4] [2] q))))) λx15 h=>(match x15,h with | .inl _,h=>gA (tV q [0,2,4,7] [2,7,77] h λh=>P6 (⟨(rX v14),[(Pp 56 MZ),(7,.row 56 [(V4 v14),(.vsl 77 (v14.length:Int).toNat)]),(77,.arr 1 22 ((v14.length:Int).toNat) (λi_=>AV.eraseAll (λn_=>Bw n_ [2,7,77]) ((λ_=>[Zx]) i_)))],[]⟩:St) (gLe (Le.trans (I6 (st':=⟨(rX v14),[(Pp 56 MZ),(7,.row 56 [(V4 v14),(.vsl 77 (v14.length:Int).toNat)]),(77,.arr 1 22 ((v14.length:Int).toNat) (Ot 1 Aq (0:Int) (er v14) (λ_=>.exact)))],[]⟩) (TmpsLe.refl _) (.same (.same (.arr cd .nil)))) (Le.trans (Le.trans (cr (r:=77) (b:=70077) Aq (0:Int) (er v14) 3 rfl rfl (N5 ..).symm (λh_=>absurd h_ (by decide))) (Gs (st':=⟨(rX v14),[(Pp 56 MZ),(7,.row 56 [(V4 v14),(.vsl 77 (v14.length:Int).toNat)]),(77,.arr 1 22 ((v14.length:Int).toNat) (Ot 1 Aq (0:Int) (er v14) (Tag.fam 70077)))],[(70077,⟨1,3,Nj (er v14)⟩)]⟩) (by kernel_rfl))) (Gs (Bj (λk_:Nat=>(⟨(rX v14),[(Pp 56 MZ),(nV (V4 v14) k_),(b6 77 k_ (er v14) 70077)],[(70077,⟨1,3,Nj (er v14)⟩)]⟩:St)) (show(v14.length:Int).toNat=(er v14).length from(N5 ..).symm))))) (Af q TE Vd (tL q h TE Vd (λu (i18,l19)=>(Cp u [(8,(Z5 i18))] [(nV (V4 v14) l19.length),(b6 77 l19.length l19 70077)] [(70077,⟨1,3,Nj l19⟩)])) (λu l20=>aG Γ (.exit 4) (Nf [2,7] Vd u [] [(nV (V4 v14) l20.length),(b6 77 l20.length l20 70077)] [(70077,⟨1,3,Nj l20⟩)])) (λ⟨i18,l19⟩ y h=>Af q [0,2,4,7,8,81] Vd (gC h (λh=>Af q SV Vd (tL q h SV Vd (λu (i21,l22)=>(Cp u [(9,(Z5 i21))] [(nV (V4 v14) l22.length),(b6 77 l22.length l22 70077)] [(70077,⟨1,3,Nj l22⟩)])) (λu l23=>aG Γ (.exit 6) (Nf TE Vd u [] [(nV (V4 v14) l23.length),(b6 77 l23.length l23 70077)] [(70077,⟨1,3,Nj l23⟩)])) (λ⟨i21,l22⟩ y h=>Af q [0,2,4,7,8,9,86] Vd (gC h (λh=>tB h λx31 y31 h=>gJ y31 (λl24=>aG Γ .normal (⟨(rW v14 i18 i21),[(Pp 56 MZ),(nV (V4 v14) l24.length),(b6 77 l24.length l24 70077)],[(70077,⟨1,3,Nj l24⟩)]⟩:St)) (λy h=>tC h λc25_ h=>tB h λx26 y26 h=>tT q [0,2,4,7,8,9,94] Vd [(Z2 x26)] (c2 c25_ (Nv y26)) (gC h (λh=>P6 (⟨[(0,(V4 v14)),Uj,(4,(rV v14)),(7,(.ptr 7 0)),(8,(Z5 i18)),(9,(Z5 i21)),(94,(.bool x26))],[(Pp 56 MZ),(nV (V4 v14) l22.length),(b6 77 l22.length l22 70077)],[(70077,⟨1,3,Nj l22⟩)]⟩:St) (tC h λc27_ h=>tC h λc28_ h=>tC h λc29_ h=>tC h λc30_ h=>gLe (Le.trans (jZ (r:=77) (b:=70077) (k:=60077) Aq (0:Int) l22 i18.toNat 3 rfl rfl rfl rfl (Qi c27_) (by kernel_rfl) (.row (by kernel_rfl) (.row (by kernel_rfl) (.here .nil)))) (Gs (st':=⟨[(0,(V4 v14)),Uj,(4,(rV v14)),(7,(.ptr 7 0)),(8,(Z5 i18)),(9,(Z5 i21)),(94,(.bool x26))],[(Pp 56 MZ),(nV (V4 v14) l22.length),(77,.arr 1 22 l22.length (Ot 1 Aq (0:Int) l22 (Hr 70077 i18.toNat 60077))),(60077,.tok 1 3 ((l22.getD i18.toNat []).length))],[(70077,⟨1,3,AS l22 i18.toNat⟩)]⟩) (by kernel_rfl))) (gR q SV qx [(102,(AV.list 1 Aq 0 (l22.getD i18.toNat []) (.own 60077))),(104,(uf i21)),(105,(Vz (YW l22 i18 i21) 60077))] [] (d9_ c28_ (Eq.refl l22.length) (show(AVle (((Ot 1 Aq (0:Int) l22 (Hr 70077 i18.toNat 60077)) i18.toNat).getD 0 .any) (AV.list 1 Aq 0 (l22.getD i18.toNat []) (.own 60077))) from WA) (Br 1 Aq (0:Int) ([i21]:Aw)) (Eq.refl ((l22.getD i18.toNat []).length)) c29_ (Ix 1 60077 Aq (0:Int) (l22.getD i18.toNat []) ([i21]:Aw)) (E2 (l22.getD i18.toNat []) ([i21]:Aw)) c30_ (c1 (Eq.refl l22.length))) (P6 (⟨(rW v14 i18 i21),[(Pp 56 MZ),(nV (V4 v14) l22.length),(77,.arr 1 22 l22.length (λi_=>AV.eraseAll (λn_=>Bw n_ qx) ((Fd (Ot 1 Aq (0:Int) l22 (Hr 70077 i18.toNat 60077)) i18.toNat 0 [(Vz (YW l22 i18 i21) 60077)]) i_))),(60077,.tok 1 3 ((YW l22 i18 i21).length))],[(70077,⟨1,3,AS l22 i18.toNat⟩)]⟩:St) (tS h (gK (Be (Le.trans (Le.trans (Le.trans (pH (r:=77) (b:=70077) (k:=60077) Aq (0:Int) l22 i18.toNat (YW l22 i18 i21) 3 rfl (dp (Qi c27_) rfl rfl) rfl rfl rfl rfl (Qi c27_) (by kernel_rfl) (.row (by kernel_rfl) (.row (by kernel_rfl) (.here (.tok .nil)))) (by rw[hΓ];rfl)) (Gs (st':=⟨(rW v14 i18 i21),[(Pp 56 MZ),(nV (V4 v14) l22.length),(77,.arr 1 22 l22.length (Ot 1 Aq (0:Int) (l22.set i18.toNat (YW l22 i18 i21)) (Tag.fam 70077)))],[(70077,⟨1,3,Nj (l22.set i18.toNat (YW l22 i18 i21))⟩)]⟩) (by kernel_rfl))) (Gs (Bj (λk_:Nat=>(⟨(rW v14 i18 i21),[(Pp 56 MZ),(nV (V4 v14) k_),(77,.arr 1 22 k_ (Ot 1 Aq (0:Int) (l22.set i18.toNat (YW l22 i18 i21)) (Tag.fam 70077)))],[(70077,⟨1,3,Nj (l22.set i18.toNat (YW l22 i18 i21))⟩)]⟩:St)) (show l22.length=(l22.set i18.toNat (YW l22 i18 i21)).length from(Dc ..).symm)))) Io)))))))) λh=>tS h (gK (Be (Bi SV Vd q))))) (gA (Af q SV Vd (tN h)))) λh=>tS h (gO (Be (Bi TE Vd q))))) λx33 h=>gA (Af q TE Vd (tN h)))) λh=>tS h (gO (Be (Bi [2,7] Vd q))))) λx35 h=>gA (Af q Cz [2,77,70077] (P6 (⟨[Uj,(3,L5)],[(2,.row 56 [(V4 v14),(.vsl 77 x35.length)]),(b6 77 x35.length x35 70077)],[(70077,⟨1,3,Nj x35⟩)]⟩:St) (tS h (gK (e:=.ret) (H4 [] (Le.trans (le_freeze (nm:=77) (sz:=1) (n:=x35.length) (e:=22) (f:=(Ot 1 Aq (0:Int) x35 (Tag.fam 70077))) (g:=(λi=>Lc (x35.getD i []))) rfl ⟨rfl,trivial⟩ (λ_ _=>rfl) (by rw[hΓ];rfl)) (Bi (st':=⟨[Uj,(3,L5)],[(2,.row 56 [(V4 v14),(rJ x35 77)]),(77,.tok 1 22 x35.length)],[]⟩) Cz [2,77] q))))))))))) | .inr r37,h=>Oz (λst' hk=>tS h (gK hk))))))
def Fk(a0:TFunc)(i2:Int):Int->Option xB:=
 λi6=>bif decide (i6<(a0.Blocks.getD i2.toNat default).End.To.length) then Az (A2 i6 (a0.Blocks.getD i2.toNat default).End.To.length) (Az ((decide ((a0.Blocks.getD i2.toNat default).End.To.getD i6.toNat 0<=0)==false)=true->A2 i6 (a0.Blocks.getD i2.toNat default).End.To.length) (bif bif decide ((a0.Blocks.getD i2.toNat default).End.To.getD i6.toNat 0<=0) then true else decide (a0.Blocks.length<=(a0.Blocks.getD i2.toNat default).End.To.getD i6.toNat 0) then some (.done (.inr (⟨[],[]⟩,5))) else some (.next (w64 (i6+1))))) else some (.done (.inl ()))
def Hn(a0:TFunc)(i2:Int):(Aw×Int)->Option (LR (Aw×Int) Aw):=
 λ(l11,i12)=>bif decide (i12<a0.Blocks.length) then Option.bind  ((G9 (a0.Blocks.getD i2.toNat default).End.To i12).bind λx15=>bif x15 then Az (l11.length+[i12].length<=room) (some (l11++[i12])) else some l11) λx17=>some (.next (x17,w64 (i12+1))) else some (.done l11)
def Ck(a0:TFunc):(N9×Int)->Option (LR (N9×Int) (N9 ⊕ (TGraph×Int))):=
 λ((l1,i2):(N9×Int))=>(bif (decide (i2<(a0.Blocks.length:Int))) then(Az (A2 i2 a0.Blocks.length) (Az (((bif (decide (((a0.Blocks.getD i2.toNat default).End.Kind:Int)<0)) then true else(decide ((3:Int)<(a0.Blocks.getD i2.toNat default).End.Kind)))==false)=true->(A2 (a0.Blocks.getD i2.toNat default).End.Kind ([(0:Int),(1:Int),(2:Int),(0:Int)]:Aw).length)) (bif (bif (bif (decide (((a0.Blocks.getD i2.toNat default).End.Kind:Int)<0)) then true else(decide ((3:Int)<(a0.Blocks.getD i2.toNat default).End.Kind))) then true else((((a0.Blocks.getD i2.toNat default).End.To).length:Int)!=(([(0:Int),(1:Int),(2:Int),(0:Int)]:Aw).getD ((a0.Blocks.getD i2.toNat default).End.Kind).toNat (0:Int)))) then(some (.done (.inr ((⟨([]:N9),([]:N9)⟩:TGraph),(5:Int))))) else((Ac (Fk a0 i2) (0:Int)).bind (λx9=>(match x9 with|(.inl _)=>((Ac (Hn a0 i2) (([]:Aw),(1:Int))).bind (λx19=>(Az (l1.length+([x19]:N9).length<=room) (some (.next ((l1++([x19]:N9)),(w64 (i2+1))))))))|(.inr r22)=>(some (.done (.inr r22))))))))) else(some (.done (.inl l1))))
def Tm(Γ:H3)(a0:TFunc)(r:mR):Exit->St->Prop:=fK Tryz.prog Γ Tryz.f31.results.toList [] (.tuple (rK r.1 r.2)) []
def e7:AV:=Zx
def GH(a0:TFunc)(i2:Int):=(a0.Blocks.getD i2.toNat default)
def FA:AV:=xL
def vG:AV:=(.agg [e7,e7])
def kQ:=(⟨[Uj,(3,(.int .i64 (5:Int)))],[(mX FA)],[]⟩:St)
def vE(a0:TFunc)(i2:Int)(i6:Int):=(decide ((((GH a0 i2).End.To).getD i6.toNat 0)<=0))
def mt(a0:TFunc):List AV:=[(Z6 a0.Params),(Z5 a0.Ret),(UE a0.Blocks)]
def vF:=(⟨[Uj,(3,(.int .i64 (5:Int)))],[(2,.row 56 [Z83,Z83])],[]⟩:St)
def mr(a0:TFunc)(i2:Int):=(bif (decide (((GH a0 i2).End.Kind:Int)<0)) then true else(decide ((3:Int)<(GH a0 i2).End.Kind)))
def xZ(a0:TFunc):=(⟨[CR,Uj,(4,(.int .i64 (a0.Blocks.length:Int))),(5,(AV.list 1 Lc [] ([]:N9) (.own 5005))),(6,L5)],[(1,.row 25 (mt a0)),(mX e7),(5005,.tok 1 22 (([]:N9).length))],[]⟩:St)
def xY(a0:TFunc)(l1:N9)(i2:Int):=(⟨[CR,Uj,(4,(.int .i64 (a0.Blocks.length:Int))),(5,(rJ l1 5005)),(6,(Z5 i2)),(7,(.ptr 7 0)),(8,(Z96 5008)),(10,ui)],[(1,.row 25 (mt a0)),(mX e7),(7,.row 62 [(.int .i64 (GH a0 i2).End.Kind),(.int .i64 (GH a0 i2).End.Arg),(AV.list 1 Aq 0 (GH a0 i2).End.To .none)]),(5005,.tok 1 22 l1.length),(5008,.tok 1 3 (([]:Aw).length))],[]⟩:St)
def Jg(a0:TFunc):Option mR:=
 bif bif a0.Blocks.length==(0:Int) then true else decide ((64:Int)<a0.Blocks.length) then some (⟨[],[]⟩,5) else(Ac   (Ck a0) ([],0)).bind λx23=>match x23 with | .inl l3=>(H2 l3).bind λx25=>some (x25.1,x25.2) | .inr r26=>some r26
theorem S0(h:Jg v0=some v16):sP 31 [(V0 v0)] [] (.tuple (rK v16.1 v16.2)) []:=
 sG Tryz.func31 λΓ q=>tW q D7 D7 [1,2,4] D7 (tU q [1,2,4,19] D7 (c2 (gI (((v0.Blocks.length:Int)==0)==false)) (Lx ((v0.Blocks.length:Int)==0))) (gC h (λh=>gR q Cz [2] [(20,(.agg [FA,FA]))] [] (c1 (show(AVle vG (.agg [FA,FA])) from(AVle.agg (.cons Ej (.cons Ej .nil))))) (P6 kQ (tS h (gK (e:=.ret) (H4 [] (show Le Γ _ vF from Le.trans (Bi (st':=kQ) Cz [2] q) (I6 (.cons (AVle.refl _) (.cons (AVle.refl _) .nil)) (.row (.cons AVle.untag (.cons AVle.untag .nil)) .nil)))))))) λh=>gR q [1,2,4,5] D7 [(5,FA)] [] (c1 (B1 1 Lc [])) (Af q KR D7 (gLe (st':=(xZ v0)) (Le.trans (Bi (st':=⟨[CR,Uj,(4,(.int .i64 (v0.Blocks.length:Int))),(5,FA),(6,L5)],[(1,.row 25 (mt v0)),(mX e7)],[]⟩) KR D7 q) (Le.trans (Rj (t:=5) (nm:=5005) (sz':=1) (λi=>Lc (([]:N9).getD i [])) 22 rfl rfl (.inl ⟨rfl,rfl⟩) (λh_=>absurd h_ (by decide))) (Bi (st':=(xZ v0)) KR TO q))) (tL q h KR TO (λu (l1,i2)=>(Cp u [(5,(rJ l1 5005)),(6,(Z5 i2))] [(5005,.tok 1 22 l1.length)])) (λu x_=>match x_ with|(.inl l3)=>aG Γ (.exit 0) (Nf Uh [2,5005] u [(5,(rJ l3 5005))] [(5005,.tok 1 22 l3.length)])|(.inr r_)=>aR (Tm Γ v0 r_)) (λ⟨l1,i2⟩ y h=>Af q [1,2,4,5,6,23] TO (gC h (λh=>tV q [1,2,4,5,6,7] Za h λh=>tC h λc5_ h=>gR q [1,2,4,5,6,7,50] Za [(44,(AV.list 1 Aq 0 ([(0:Int),(1:Int),(2:Int),(0:Int)]:Aw) .exact))] [] (Mr ((decide (((GH v0 i2).End.Kind:Int)<0))==false) (ci (Lx (decide (((GH v0 i2).End.Kind:Int)<0))) (Mr ((mr v0 i2)==false) (ci (show(((mr v0 i2)==false)=true->(AVle (.slice 1 4 (λi=>([[L5],[ui],[(.int .i64 (2:Int))],[L5]]:List (List AV)).getD i []) .exact) (AV.list 1 Aq 0 ([(0:Int),(1:Int),(2:Int),(0:Int)]:Aw) .exact))) from(λhg=>@(Br 1 Aq (0:Int) ([(0:Int),(1:Int),(2:Int),(0:Int)]:Aw)))) (Yt ((mr v0 i2)==false) (ci c5_ (Yt ((mr v0 i2)==false) (c1 (Lx (mr v0 i2)))))))))) (gC h (λh=>gR q Cz [2] [(51,(.agg [FA,FA]))] [] (c1 (show(AVle vG (.agg [FA,FA])) from(AVle.agg (.cons Ej (.cons Ej .nil))))) (P6 kQ (tS h (gO (Lj (H4 [] (show Le Γ _ vF from Le.trans (Bi (st':=kQ) Cz [2] q) (I6 (.cons (AVle.refl _) (.cons (AVle.refl _) .nil)) (.row (.cons AVle.untag (.cons AVle.untag .nil)) .nil))))))))) λh=>gR q iF Za [(8,fG)] [] (c1 (B1 1 Aq (0:Int))) (Af q iB Za (tL q h iB Za (λu i6=>(Cp u [(9,(Z5 i6))] [])) (λu x_=>match x_ with|(.inl _)=>aG Γ (.exit 2) (Nf iF Za u [] [])|(.inr r_)=>aR (Tm Γ v0 r_)) (λi6 y h=>Af q [1,2,4,5,6,7,8,9,56] Za (gC h (λh=>tC h λc7_ h=>tC h λc8_ h=>tU q [1,2,4,5,6,7,8,9,73] Za (ci c7_ (Yt ((vE v0 i2 i6)==false) (ci c8_ (Yt ((vE v0 i2 i6)==false) (c1 (Lx (vE v0 i2 i6))))))) (gC h (λh=>gR q Cz [2] [(74,(.agg [FA,FA]))] [] (c1 (show(AVle vG (.agg [FA,FA])) from(AVle.agg (.cons Ej (.cons Ej .nil))))) (P6 kQ (tS h (gO (Lj (H4 [] (show Le Γ _ vF from Le.trans (Bi (st':=kQ) Cz [2] q) (I6 (.cons (AVle.refl _) (.cons (AVle.refl _) .nil)) (.row (.cons AVle.untag (.cons AVle.untag .nil)) .nil))))))))) λh=>Af q iB Za (tN h))) λh=>tS h (gO (Be (Bi iF Za q))))) λx9 h=>(match x9,h with | .inl _,h=>gA (Af q TY Za (gLe (st':=(xY v0 l1 i2)) (Le.trans (Bi (st':=⟨[CR,Uj,(4,(.int .i64 (v0.Blocks.length:Int))),(5,(rJ l1 5005)),(6,(Z5 i2)),(7,(.ptr 7 0)),(8,fG),(10,ui)],[(1,.row 25 (mt v0)),(mX e7),(7,.row 62 [(.int .i64 (GH v0 i2).End.Kind),(.int .i64 (GH v0 i2).End.Arg),(AV.list 1 Aq 0 (GH v0 i2).End.To .none)]),(5005,.tok 1 22 l1.length)],[]⟩) TY Za q) (Le.trans (Rj (t:=8) (nm:=5008) (sz':=1) (λi=>Aq (([]:Aw).getD i 0)) 3 rfl rfl (.inl ⟨rfl,rfl⟩) (λh_=>absurd h_ (by decide))) (Bi (st':=(xY v0 l1 i2)) TY TZ q))) (tL q h TY TZ (λu (l11,i12)=>(Cp u [(8,(Vz l11 5008)),(10,(Z5 i12))] [(Yp 5008 l11.length)])) (λu l13=>aG Γ (.exit 4) (Nf [1,2,4,5,6,8] [1,2,5005,5008] u [(8,(Vz l13 5008))] [(Yp 5008 l13.length)])) (λ⟨l11,i12⟩ y h=>Af q [1,2,4,5,6,7,8,10,77] TZ (gC h (λh=>tB h λx17 y17 h=>gJ y17 (λl14=>aG Γ .normal (⟨[CR,Uj,(4,(.int .i64 (v0.Blocks.length:Int))),(5,(rJ l1 5005)),(6,(Z5 i2)),(7,(.ptr 7 0)),(8,(Vz l14 5008)),(10,(Z5 i12))],[(1,.row 25 (mt v0)),(mX e7),(7,.row 62 [(.int .i64 (GH v0 i2).End.Kind),(.int .i64 (GH v0 i2).End.Arg),(AV.list 1 Aq 0 (GH v0 i2).End.To .none)]),(5005,.tok 1 22 l1.length),(Yp 5008 l14.length)],[]⟩:St)) (λy h=>tB h λx15 y15 h=>tT q [1,2,4,5,6,7,8,10,83] TZ [(Z2 x15)] (c1 (Nv y15)) (gC h (λh=>tC h λc16_ h=>gR q TY TZ (vr 86 i12 87 l11 5008) [] (c5 (Br 1 Aq (0:Int) ([i12]:Aw)) (Eq.refl l11.length) c16_ (Ix 1 5008 Aq (0:Int) l11 ([i12]:Aw)) (E2 l11 ([i12]:Aw))) (tS h (gK (Be Io)))) λh=>tS h (gK (Be (Bi TY TZ q))))) (gA (Af q TY TZ (tN h)))) λh=>tS h (gO (Be (Bi [1,2,4,5,6,8] [1,2,5005,5008] q))))) λx19 h=>gA (tC h λc21_ h=>gR q KR TO [(90,(AV.list 1 Lc [] ([x19]:N9) .exact)),(91,(AV.list 1 Lc [] (l1++([x19]:N9)) (.own 5005)))] [] (c5 (Br 1 Lc [] ([x19]:N9)) (Eq.refl l1.length) c21_ (Ix 1 5005 Lc [] l1 ([x19]:N9)) (E2 l1 ([x19]:N9))) (Af q KR TO (tN h)))))) | .inr r22,h=>Oz (λst' hk=>tS h (gO (Lj hk)))))))) λh=>tS h (gO (Be (Bi Uh [2,5005] q))))) λx23 h=>(match x23,h with | .inl l3,h=>gA (tB h λx25 y25 h=>tT q Cz [2] [(xN x25.1 x25.2)] (c1 (Re y25)) (tS h (Cc []))) | .inr r26,h=>Oz (λst' hk=>tS h (gK hk))))))))
def A3(a4:TGraph)(aaB:Int)(i6:Int):bK->Option bL:=
 λ(i9,l10)=>Az (A2 i6 l10.length) (Az ((l10.getD i6.toNat false==true)=true->A2 i6 a4.Succ.length) (bif bif l10.getD i6.toNat false then decide (i9<(a4.Succ.getD i6.toNat []).length) else false then Option.bind  (Az (A2 i6 a4.Succ.length) (Az (A2 i9 (a4.Succ.getD i6.toNat []).length) (bif (a4.Succ.getD i6.toNat []).getD i9.toNat 0 !=aaB then Az (A2 i6 a4.Succ.length) (Az (A2 i9 (a4.Succ.getD i6.toNat []).length) (Az (A2 ((a4.Succ.getD i6.toNat []).getD i9.toNat 0) l10.length) (some (l10.set ((a4.Succ.getD i6.toNat []).getD i9.toNat 0).toNat true)))) else some l10))) λx20=>some (.next (w64 (i9+1),x20)) else some (.done l10)))
def A4(a4:TGraph)(aaB:Int):bK->Option bL:=
 λ(i6,l7)=>bif decide (i6<l7.length) then(Ac   (A3 a4 aaB i6) (0,l7)).bind λx22=>some (.next (w64 (i6+1),x22)) else some (.done l7)
def A5(a4:TGraph)(aaB:Int):bK->Option bL:=
 λ(i3,l4)=>bif decide (i3<l4.length) then(Ac   (A4 a4 aaB) (0,l4)).bind λx24=>some (.next (w64 (i3+1),x24)) else some (.done l4)
def xd(l10:List Bool)(i6:Int):=((l10.getD i6.toNat false)==true)
def IR(a4:TGraph):=(List.replicate (a4.Succ.length:Int).toNat false)
def kR(a4:TGraph):=(λi=>eB ((IR a4).getD i false))
def rY(a4:TGraph)(i6:Int)(i9:Int):=((a4.Succ.getD i6.toNat []).getD i9.toNat 0)
def Db(a4:TGraph)(a2:Int)(aaB:Int):Option (List Bool):=
 Az (0<=(a4.Succ.length:Int)/\(a4.Succ.length:Int)<=a4.Succ.length/\a4.Succ.length<=(room:Int)) (bif a2==aaB then some (List.replicate (a4.Succ.length:Int).toNat false) else Az (A2 a2 (List.replicate (a4.Succ.length:Int).toNat false).length) ((Ac   (A5 a4 aaB) (0,(List.replicate (a4.Succ.length:Int).toNat false).set a2.toNat true)).bind λx26=>some x26))
variable{v11:Int}{v18:TGraph}{v33:List Bool}
theorem Me(h:Db v18 v1 v11=some v33):sP 96 [(.agg (Xg v18)),(Z5 v1),(Z5 v11)] [] (NN v33 20000) [(Q6 20000 v33.length)]:=
 sG Tryz.func96 λΓ q=>have hΓ:=q.own;gR q GB [3] [(6,(AV.list 1 eB false ([]:List Bool) .exact))] [] (c1 (B1 1 eB false)) (tV q [1,2,3,7] Lw h λh=>by exact gLe (Le.trans (Sn 14 (show ∀ k_,k_<((v18.Succ.length:Int).toNat)->AVleL ((λi_=>AV.eraseAll (λn_=>Bw n_ Lw) ((λ_=>[(.bool false)]) i_)) k_) ((kR v18) k_) from(λk hk=>M5 (e:=eB) (d:=false) (.cons (AVle.refl _) .nil) _ k (M6 hk)))) (R8 (λ(k_:Nat) u=>(Cp u [(Vi 14 k_)] [(14,.arr 1 4 k_ (kR v18))])) (show(v18.Succ.length:Int).toNat=(IR v18).length from(N5 ..).symm))) (Af q [1,2,3,7,17] Lw (gC h (λh=>Af q [6] [14] (P6 (⟨[(6,(.vsl 14 (IR v18).length))],[(14,.arr 1 4 ((IR v18).length) (kR v18))],[]⟩:St) (tS h (gK (e:=.ret) (H4 [(14,20000)] (Le.trans (le_freeze (nm:=14) (sz:=1) (n:=((IR v18).length)) (e:=4) (f:=(kR v18)) (g:=(kR v18)) rfl ⟨rfl,trivial⟩ (λ_ _=>rfl) (by rw[hΓ];rfl)) (Gs (st':=⟨[(6,(NN (IR v18) 14))],[(14,.tok 1 4 ((IR v18).length))],[]⟩) (by kernel_rfl)))))))) λh=>tC h λc2_ h=>tU q [2,3,7] Lw (c2 c2_ (Eq.refl ((IR v18).length))) (gLe (Le.trans (Sn 14 (show ∀ k_,k_<((IR v18).length)->AVleL ((λi_=>AV.eraseAll (λn_=>Bw n_ Lw) ((Fd (kR v18) v1.toNat 0 [(.bool true)]) i_)) k_) ((λi=>eB (((IR v18).set v1.toNat true).getD i false)) k_) from(Bh (Dc ..).symm (λk_ hk_=>(Bj (AV.eraseAll (λn_=>Bw n_ Lw)) ((Fv (λ_ _=>rfl) (Hv c2_) rfl) k_ hk_)).trans rfl)))) (R8 (λ(k_:Nat) u=>(Cp u [(Vi 14 k_)] [(14,.arr 1 4 k_ (λi=>eB (((IR v18).set v1.toNat true).getD i false)))])) (show(IR v18).length=((IR v18).set v1.toNat true).length from(Dc ..).symm))) (Af q TP Lw (tL q h TP Lw (λu (i3,l4)=>(Cp u [(Vi 14 l4.length),(8,(Z5 i3))] [(Z9 14 l4)])) (λu l5=>aG Γ (.exit 0) (⟨[(Vi 14 l5.length)],[(Z9 14 l5)],[]⟩:St)) (λ⟨i3,l4⟩ y h=>Af q [2,3,7,8,25] Lw (gC h (λh=>Af q TF Lw (tL q h TF Lw (λu (i6,l7)=>(Cp u [(Vi 14 l7.length),(9,(Z5 i6))] [(Z9 14 l7)])) (λu l8=>aG Γ (.exit 2) (Nf TP Lw u [(Vi 14 l8.length)] [(Z9 14 l8)])) (λ⟨i6,l7⟩ y h=>Af q [2,3,7,8,9,31] Lw (gC h (λh=>Af q ST Lw (tL q h ST Lw (λu (i9,l10)=>(Cp u [(Vi 14 l10.length),(10,(Z5 i9))] [(Z9 14 l10)])) (λu l11=>aG Γ (.exit 4) (Nf TF Lw u [(Vi 14 l11.length)] [(Z9 14 l11)])) (λ⟨i9,l10⟩ y h=>tC h λc12_ h=>tC h λc13_ h=>tU q [2,3,7,8,9,10,47] Lw (fb c12_ (Eq.refl l10.length) (Yt (xd l10 i6) (ci c13_ (LJ (xd l10 i6) (c1 (Nd (l10.getD i6.toNat false))))))) (gC h (λh=>tB h λx20 y20 h=>gJ y20 (λl14=>aG Γ .normal (⟨[(2,(Z5 v11)),(3,(.ptr 3 0)),(Vi 14 l14.length),(8,(Z5 i3)),(9,(Z5 i6)),(10,(Z5 i9))],[(3,.row 56 [(NO v18.Succ),(NO v18.Pred)]),(Z9 14 l14)],[]⟩:St)) (λy h=>tC h λc15_ h=>tC h λc16_ h=>tU q [2,3,7,8,9,10,59] Lw (c2 c15_ c16_) (gC h (λh=>tC h λc17_ h=>tC h λc18_ h=>tC h λc19_ h=>tU q ST Lw (c4 c17_ c18_ c19_ (Eq.refl l10.length)) (tS h (gK (Be (Le.trans (Le.trans (Sn 14 (show ∀ k_,k_<l10.length->AVleL ((λi_=>AV.eraseAll (λn_=>Bw n_ Lw) ((Fd (λi=>eB (l10.getD i false)) (rY v18 i6 i9).toNat 0 [(.bool true)]) i_)) k_) ((λi=>eB ((l10.set (rY v18 i6 i9).toNat true).getD i false)) k_) from(Bh (Dc ..).symm (λk_ hk_=>(Bj (AV.eraseAll (λn_=>Bw n_ Lw)) ((Fv (λ_ _=>rfl) (Hv c19_) rfl) k_ hk_)).trans rfl)))) (R8 (λ(k_:Nat) u=>(Cp u [(Vi 14 k_)] [(14,.arr 1 4 k_ (λi=>eB ((l10.set (rY v18 i6 i9).toNat true).getD i false)))])) (show l10.length=(l10.set (rY v18 i6 i9).toNat true).length from(Dc ..).symm))) Io))))) λh=>tS h (gK (Be (Bi ST Lw q))))) (gA (Af q ST Lw (tN h)))) λh=>tS h (gO (Be (Bi TF Lw q))))) λx22 h=>gA (Af q TF Lw (tN h)))) λh=>tS h (gO (Be (Bi TP Lw q))))) λx24 h=>gA (Af q TP Lw (tN h)))) λh=>tS h (gO (Be (Bi [7] [14] q))))) λx26 h=>gA (Af q [6] [14] (P6 (⟨[(6,(.vsl 14 x26.length))],[(Z9 14 x26)],[]⟩:St) (tS h (gK (e:=.ret) (H4 [(14,20000)] (Le.trans (le_freeze (nm:=14) (sz:=1) (n:=x26.length) (e:=4) (f:=(λi=>eB (x26.getD i false))) (g:=(λi=>eB (x26.getD i false))) rfl ⟨rfl,trivial⟩ (λ_ _=>rfl) (by rw[hΓ];rfl)) (Gs (st':=⟨[(6,(NN x26 14))],[(Q6 14 x26.length)],[]⟩) (by kernel_rfl))))))))))))))
def Fo(a0:TFunc)(x1:mR)(i3:Int):Int->Option (LR Int (Unit ⊕ Bool)):=
 λi6=>bif decide (i6<(a0.Blocks.getD i3.toNat default).Phis.length) then Az (A2 i6 (a0.Blocks.getD i3.toNat default).Phis.length) (Az (A2 i3 x1.1.Pred.length) ((Ba ((a0.Blocks.getD i3.toNat default).Phis.getD i6.toNat default).From (x1.1.Pred.getD i3.toNat [])).bind λx9=>Az (((!x9)==false)=true->A2 i6 (a0.Blocks.getD i3.toNat default).Phis.length) (Az (((!x9)==false)=true->A2 i3 x1.1.Pred.length) (bif bif !x9 then true else((a0.Blocks.getD i3.toNat default).Phis.getD i6.toNat default).Args.length !=((x1.1.Pred.getD i3.toNat []).length:Int) then some (.done (.inr false)) else some (.next (w64 (i6+1))))))) else some (.done (.inl ()))
def Fp(a0:TFunc)(x1:mR)(x2:List Bool):Int->Option (LR Int (Unit ⊕ Bool)):=
 λi3=>bif decide (i3<a0.Blocks.length) then Az (A2 i3 a0.Blocks.length) (Az (A2 i3 x2.length) (bif bif !x2.getD i3.toNat false then true else bif bif (a0.Blocks.getD i3.toNat default).End.Kind==1 then true else(a0.Blocks.getD i3.toNat default).End.Kind==3 then(a0.Blocks.getD i3.toNat default).End.Arg !=0 else false then some (.done (.inr false)) else(Ac   (Fo a0 x1 i3) 0).bind λx12=>match x12 with | .inl _=>some (.next (w64 (i3+1))) | .inr r14=>some (.done (.inr r14)))) else some (.done (.inl ()))
def Q8(Γ:H3)(a0:TFunc)(r:Bool):Exit->St->Prop:=fK Tryz.prog Γ Tryz.f52.results.toList [] (.bool r) []
def YX(x2:List Bool)(i3:Int):=((!(x2.getD i3.toNat false))==false)
def e8(a0:TFunc)(i3:Int):=((a0.Blocks.getD i3.toNat default).End.Kind:Int)
def xe(x2:List Bool)(i3:Int)(a0:TFunc):=((YX x2 i3)&&((bif ((e8 a0 i3)==1) then true else((e8 a0 i3)==3))==true))
def Jy(a0:TFunc):Option Bool:=
 (Jg a0).bind λx1=>bif x1.2 !=0 then some false else(Db x1.1 0 (-1)).bind λx2=>(Ac   (Fp a0 x1 x2) 0).bind λx15=>match x15 with | .inl _=>some true | .inr r17=>some r17
theorem X9(h:Jy v0=some v3):sP 52 [(V0 v0)] [] (.bool v3) []:=
 sG Tryz.func52 λΓ q=>Af q [1] [1] (tB h λx1 y1 h=>tT q J6 L4 [(xN x1.1 x1.2)] (c1 (S0 y1)) (Af q [1,3,15] L4 (gC h (λh=>Af q [2] [] (tS h (Cc []))) λh=>tB h λx2 y2 h=>tT q KW GA [(xM 17 x2 x2.length)] (c1 (Me y2)) (Af q IM GA (tL q h IM GA (λu i3=>(Cp u [(6,(Z5 i3))] [])) (λu x_=>match x_ with|(.inl _)=>aG Γ (.exit 0) (⟨[],[],[]⟩:St)|(.inr r_)=>aR (Q8 Γ v0 r_)) (λi3 y h=>Af q [1,3,5,6,22] GA (gC h (λh=>tV q TG FX h λh=>tC h λc5_ h=>tU q [1,3,5,6,7,52] FX (ci c5_ (LJ (YX x2 i3) (Yt ((YX x2 i3)&&(((e8 v0 i3)==1)==false)) (UG (gI (YX x2 i3)) (show((YX x2 i3)=true->(((e8 v0 i3)==1)=false->((YX x2 i3)&&(((e8 v0 i3)==1)==false))=true)) from(λhg=>(aF hg))) (gI (YX x2 i3)) (Yt (xe x2 i3 v0) (c3 (gI (YX x2 i3)) (show((YX x2 i3)=true->((bif ((e8 v0 i3)==1) then true else((e8 v0 i3)==3))=true->(xe x2 i3 v0)=true)) from(λhg=>(aT hg))) (Lx (!(x2.getD i3.toNat false))))))))) (gC h (λh=>Af q [2] [] (tS h (gO (Lj (H4 [] (Le.refl _ _)))))) λh=>Af q iK FX (tL q h iK FX (λu i6=>(Cp u [(8,(Z5 i6))] [])) (λu x_=>match x_ with|(.inl _)=>aG Γ (.exit 2) (Nf IM GA u [] [])|(.inr r_)=>aR (Q8 Γ v0 r_)) (λi6 y h=>Af q [1,3,5,6,7,8,57] FX (gC h (λh=>tC h λc7_ h=>tC h λc8_ h=>tB h λx9 y9 h=>tC h λc10_ h=>tC h λc11_ h=>tT q [1,3,5,6,7,8,88] FX [(Z2 x9)] (UG c7_ c8_ (Cl y9) (Yt ((!x9)==false) (ci c10_ (wa ((!x9)==false) (ci c11_ (LJ ((!x9)==false) (c1 (Lx (!x9))))))))) (gC h (λh=>Af q [2] [] (tS h (gO (Lj (H4 [] (Le.refl _ _)))))) λh=>Af q iK FX (tN h))) λh=>tS h (gO (Be (Bi IM GA q))))) λx12 h=>(match x12,h with | .inl _,h=>gA (Af q IM GA (tN h)) | .inr r14,h=>Oz (λst' hk=>tS h (gO (Lj hk))))))) λh=>tS h (gO (Be (Bi [] [] q))))) λx15 h=>(match x15,h with | .inl _,h=>gA (Af q [2] [] (tS h (Cc []))) | .inr r17,h=>Oz (λst' hk=>tS h (gK hk))))))))
def rZ(aI:Int):=(bif (bif (aI==1) then true else(aI==8)) then true else(aI==16))
def Dd(aI:Int):Option Bool:=
 some (bif bif bif bif aI==1 then true else aI==8 then true else aI==16 then true else aI==32 then true else aI==64)
theorem Ey(h:Dd v1=some v3):sP 97 [(Z5 v1)] [] (.bool v3) []:=
 sG Tryz.func97 λΓ q=>Af q [0] [] (tU q [2] [] (c8 (gI ((v1==1)==false)) (Lx (v1==1)) (gI ((bif (v1==1) then true else(v1==8))==false)) (Lx (bif (v1==1) then true else(v1==8))) (gI ((rZ v1)==false)) (Lx (rZ v1)) (gI ((bif (rZ v1) then true else(v1==32))==false)) (Lx (bif (rZ v1) then true else(v1==32)))) (tS h (Cc [])))
def mu(aN:Int):=(bif (aN==2) then true else(aN==4))
def vH(aN:Int):=(bif (bif (mu aN) then true else(aN==8)) then true else(aN==16))
def xf(aN:Int)(aI:Int):=(bif (vH aN) then(decide ((1:Int)<aI)) else false)
def Jw(aI:Int)(aN:Int):Option Bool:=
 (Dd aI).bind λx1=>bif !x1 then some false else bif aN==1 then some true else some (bif bif bif bif bif aN==2 then true else aN==4 then true else aN==8 then true else aN==16 then decide (1<aI) else false then decide (w64 (aI*aN)<=128) else false)
theorem X3(h:Jw v1 v11=some v3):sP 146 [(Z5 v1),(Z5 v11)] [] (.bool v3) []:=
 sG Tryz.func146 λΓ q=>Af q Gn [] (tB h λx1 y1 h=>tT q [0,1,7] [] [(Z2 x1)] (c1 (Ey y1)) (gC h (λh=>Af q [4] [] (tS h (Cc []))) λh=>Af q [0,1,9] [] (gC h (λh=>Af q [4] [] (tS h (Cc []))) λh=>tU q [4] [] (d8_ (gI ((v11==2)==false)) (Lx (v11==2)) (gI ((mu v11)==false)) (Lx (mu v11)) (gI ((bif (mu v11) then true else(v11==8))==false)) (Lx (bif (mu v11) then true else(v11==8))) (gI ((vH v11)==true)) (Nd (vH v11)) (Yt ((xf v11 v1)==true) (c1 (Nd (xf v11 v1))))) (tS h (Cc [])))))
def vI(a1:Bz):List OK:=[(yY a1.Kind a1.Bits a1.Lanes a1.Dst a1.Args a1.Imm)]
def Kk(a1:Bz):Option Int:=
 bif a1.Kind==0 then some 0 else Option.bind  (bif a1.Kind==1 then some (a1.Kind==1) else bif a1.Kind==2 then some (a1.Kind==2) else bif a1.Kind==3 then some (a1.Kind==3) else bif a1.Kind==4 then some (a1.Kind==4) else bif a1.Kind==5 then some (a1.Kind==5) else bif a1.Kind==6 then some (a1.Kind==6) else bif a1.Kind==7 then some (a1.Kind==7) else bif a1.Kind==8 then some (a1.Kind==8) else bif a1.Kind==9 then some (a1.Kind==9) else bif a1.Kind==10 then some (a1.Kind==10) else bif a1.Kind==11 then some (a1.Kind==11) else bif a1.Kind==12 then some (a1.Kind==12) else some (a1.Kind==17)) λx2=>bif x2 then some 2 else Option.bind  (bif a1.Kind==13 then some (a1.Kind==13) else bif a1.Kind==18 then some (a1.Kind==18) else some (a1.Kind==19)) λx5=>bif x5 then some 3 else Option.bind  (bif a1.Kind==14 then some (a1.Kind==14) else bif a1.Kind==15 then some (a1.Kind==15) else bif a1.Kind==16 then some (a1.Kind==16) else some (a1.Kind==22)) λx8=>bif x8 then some 1 else bif a1.Kind==20 then some 4 else bif a1.Kind==21 then some a1.Lanes else some (-1)
variable{v6:Bz}
theorem Zl(h:Kk v6=some v1):sP 147 [(VV v6)] [] (.int .i64 v1) []:=
 sG Tryz.func147 λΓ q=>tW q [1] [1] P1 [1] (Af q [1,4,5] [1] (gC h (λh=>Af q [2] [] (tS h (Cc []))) λh=>tB h λx2 y2 h=>gJ y2 (λb1=>aG Γ .normal (⟨[CR,(4,(Z5 v6.Kind)),(7,(.bool b1))],(vI v6),[]⟩:St)) (λy h=>Af q W6 [1] (gC h (λh=>tS h (gK (Be Io))) λh=>Af q W6 [1] (gC h (λh=>tS h (gK (Be Io))) λh=>Af q W6 [1] (gC h (λh=>tS h (gK (Be Io))) λh=>Af q W6 [1] (gC h (λh=>tS h (gK (Be Io))) λh=>Af q W6 [1] (gC h (λh=>tS h (gK (Be Io))) λh=>Af q W6 [1] (gC h (λh=>tS h (gK (Be Io))) λh=>Af q W6 [1] (gC h (λh=>tS h (gK (Be Io))) λh=>Af q W6 [1] (gC h (λh=>tS h (gK (Be Io))) λh=>Af q W6 [1] (gC h (λh=>tS h (gK (Be Io))) λh=>Af q W6 [1] (gC h (λh=>tS h (gK (Be Io))) λh=>Af q W6 [1] (gC h (λh=>tS h (gK (Be Io))) λh=>Af q W6 [1] (gC h (λh=>tS h (gK (Be Io))) λh=>Af q W6 [1] (tS h (gK (Be Io)))))))))))))))) (gA (gC h (λh=>Af q [2] [] (tS h (Cc []))) λh=>tB h λx5 y5 h=>gJ y5 (λb4=>aG Γ .normal (⟨[CR,(4,(Z5 v6.Kind)),(21,(.bool b4))],(vI v6),[]⟩:St)) (λy h=>Af q [1,4,21] [1] (gC h (λh=>tS h (gK (Be Io))) λh=>Af q [1,4,21] [1] (gC h (λh=>tS h (gK (Be Io))) λh=>Af q [1,4,21] [1] (tS h (gK (Be Io)))))) (gA (gC h (λh=>Af q [2] [] (tS h (Cc []))) λh=>tB h λx8 y8 h=>gJ y8 (λb7=>aG Γ .normal (⟨[CR,(4,(Z5 v6.Kind)),(25,(.bool b7))],(vI v6),[]⟩:St)) (λy h=>Af q [1,4,25] [1] (gC h (λh=>tS h (gK (Be Io))) λh=>Af q [1,4,25] [1] (gC h (λh=>tS h (gK (Be Io))) λh=>Af q [1,4,25] [1] (gC h (λh=>tS h (gK (Be Io))) λh=>Af q [1,4,25] [1] (tS h (gK (Be Io))))))) (gA (gC h (λh=>Af q [2] [] (tS h (Cc []))) λh=>Af q [1,4,30] [1] (gC h (λh=>Af q [2] [] (tS h (Cc []))) λh=>Af q [1,32] [1] (gC h (λh=>Af q [2] [] (tS h (Cc []))) λh=>Af q [2] [] (tS h (Cc []))))))))))))
def Lm(aH:Int)(aI:Int):Option Int:=
 (Dd aI).bind λx1=>bif !x1 then some 0 else bif aI==64 then some aH else Az (0<=Ir aI) (Az (RZ .u64 1 (Ir aI)≠0) (some (Int.tmod aH (RZ .u64 1 (Ir aI)))))
variable{v20:Int}
theorem BG(h:Lm v1 v11=some v20):sP 194 [(.int .u64 v1),(Z5 v11)] [] (.int .u64 v20) []:=
 sG Tryz.func194 λΓ q=>Af q Gn [] (tB h λx1 y1 h=>tT q [0,1,7] [] [(Z2 x1)] (c1 (Ey y1)) (gC h (λh=>Af q [4] [] (tS h (Cc []))) λh=>Af q [0,1,9] [] (gC h (λh=>Af q [4] [] (tS h (Cc []))) λh=>tC h λc2_ h=>tC h λc3_ h=>tU q [4] [] (c2 c2_ c3_) (tS h (Cc [])))))
def AB(Γ:H3)(a1:Bz)(r:Bool):Exit->St->Prop:=fK Tryz.prog Γ Tryz.f148.results.toList [] (.bool r) []
def xg(a1:Bz):=(a1.Kind==15)
def mw(a1:Bz):=((a1.Kind==4)==false)
def vM(a1:Bz):=(decide (a1.Imm<(Ir a1.Bits)))
def vO(a1:Bz):=(bif (a1.Kind==4) then true else(bif (decide ((10:Int)<=a1.Kind)) then(decide (a1.Kind<=12)) else false))
def re(a1:Bz):=(bif (vO a1) then true else(a1.Kind==14))
def my(a1:Bz):=((bif (re a1) then true else(xg a1))==false)
def vN(a1:Bz):=(bif (decide ((16:Int)<=a1.Kind)) then(decide (a1.Kind<=19)) else false)
def mv(a1:Bz):=(bif (vN a1) then(decide (a1.Bits<8)) else false)
def xh(a1:Bz):=(((mv a1)==false)&&((decide ((21:Int)<=a1.Kind))==true))
def vK(a1:Bz):=(bif (decide (((Ir a1.Bits):Int)<a1.Imm)) then(decide (a1.Imm<=64)) else false)
def F8(a1:Bz):Option Bool:=
 Option.bind (α:=Unit ⊕ Bool) (bif bif bif bif bif a1.Kind==4 then true else bif decide (10<=a1.Kind) then decide (a1.Kind<=12) else false then true else a1.Kind==14 then true else a1.Kind==15 then true else bif decide (18<=a1.Kind) then decide (a1.Kind<=20) else false then bif a1.Lanes !=1 then some (.inr false) else some (.inl ()) else some (.inl ())) λx1=>match x1 with | .inl _=>bif bif bif bif decide (16<=a1.Kind) then decide (a1.Kind<=19) else false then decide (a1.Bits<8) else false then true else bif decide (21<=a1.Kind) then decide (a1.Lanes<2) else false then some false else bif a1.Kind==0 then(Lm a1.Imm a1.Bits).bind λx3=>some (x3==a1.Imm) else bif a1.Kind==14 then(bif decide (a1.Imm<Ir a1.Bits)==true then Dd (w64 a1.Imm) else some false).bind λx4=>some (bif decide (a1.Imm<Ir a1.Bits) then x4 else false) else bif a1.Kind==15 then(bif (bif decide (Ir a1.Bits<a1.Imm) then decide (a1.Imm<=64) else false)==true then Dd (w64 a1.Imm) else some false).bind λx5=>some (bif bif decide (Ir a1.Bits<a1.Imm) then decide (a1.Imm<=64) else false then x5 else false) else bif a1.Kind==22 then some (decide (a1.Imm<Ir a1.Lanes)) else some (a1.Imm==0) | .inr r6=>some r6
theorem Zm(h:F8 v6=some v3):sP 148 [(VV v6)] [] (.bool v3) []:=
 sG Tryz.func148 λΓ q=>tW q [1] [1] L4 [1] (tB h λx1 y1 h=>gJ y1 (λx_=>match x_ with|(.inl _)=>aG Γ .normal (⟨[CR,(3,(Z5 v6.Kind))],[(yY v6.Kind v6.Bits v6.Lanes v6.Dst v6.Args v6.Imm)],[]⟩:St)|(.inr r_)=>aR (AB Γ v6 r_)) (λy h=>tU q [1,3,31] [1] (Mr (mw v6) (d8_ (gI ((mw v6)&&((decide ((10:Int)<=v6.Kind))==true))) (gI (mw v6)) (show((mw v6)=true->((decide ((10:Int)<=v6.Kind))=true->((mw v6)&&((decide ((10:Int)<=v6.Kind))==true))=true)) from(λhg=>(aT hg))) (Lx (v6.Kind==4)) (gI ((vO v6)==false)) (Lx (vO v6)) (gI ((re v6)==false)) (Lx (re v6)) (Mr (my v6) (c4 (gI ((my v6)&&((decide ((18:Int)<=v6.Kind))==true))) (gI (my v6)) (show((my v6)=true->((decide ((18:Int)<=v6.Kind))=true->((my v6)&&((decide ((18:Int)<=v6.Kind))==true))=true)) from(λhg=>(aT hg))) (Lx (bif (re v6) then true else(xg v6))))))) (gC h (λh=>Af q [1,3,34] [1] (gC h (λh=>Af q [2] [] (tS h (gK (Lj (H4 [] (Le.refl _ _)))))) λh=>tS h (gK (Be (Bi L4 [1] q))))) λh=>tS h (gK (Be (Bi L4 [1] q))))) (match x1,h with | .inl _,h=>gA (tU q [1,3,54] [1] (fb (gI ((decide ((16:Int)<=v6.Kind))==true)) (Nd (decide ((16:Int)<=v6.Kind))) (Mr ((vN v6)==true) (ci (Nd (vN v6)) (Mr ((mv v6)==false) (Mr (xh v6) (c3 (gI ((mv v6)==false)) (show(((mv v6)==false)=true->((decide ((21:Int)<=v6.Kind))=true->(xh v6)=true)) from(λhg=>(aT hg))) (Lx (mv v6)))))))) (gC h (λh=>Af q [2] [] (tS h (Cc []))) λh=>tW q [1,55] [1] [1,55,56] [1] (gC h (λh=>tB h λx3 y3 h=>tT q [2] [] [⟨[],[],(.int .u64 x3),[],[],[]⟩] (c1 (BG y3)) (tS h (Cc []))) λh=>Af q [1,55,66] [1] (gC h (λh=>tB h λx4 y4 h=>tT q [2] [] [(Z2 x4)] (Yt ((vM v6)==true) (c2 (λ(hg:((vM v6)==true)=true)=>(Ey (Bf hg y4))) (Nd (vM v6)))) (tS h (Cc []))) λh=>Af q [1,55,80] [1] (gC h (λh=>tB h λx5 y5 h=>tT q [2] [] [(Z2 x5)] (Mr ((decide (((Ir v6.Bits):Int)<v6.Imm))==true) (ci (Nd (decide (((Ir v6.Bits):Int)<v6.Imm))) (Yt ((vK v6)==true) (c2 (λ(hg:((vK v6)==true)=true)=>(Ey (Bf hg y5))) (Nd (vK v6)))))) (tS h (Cc []))) λh=>Af q [1,99] [1] (gC h (λh=>Af q [2] [] (tS h (Cc []))) λh=>Af q [2] [] (tS h (Cc [])))))))) | .inr r6,h=>Oz (λst' hk=>tS h (gK hk))))
def Fj(aH:Int):Option Bool:=
 some (bif decide (0<aH) then decide (aH<1024) else false)
theorem Md(h:Fj v1=some v3):sP 55 [(Z5 v1)] [] (.bool v3) []:=
 sG Tryz.func55 λΓ q=>Af q [0] [] (tU q [2] [] (c2 (gI ((decide ((0:Int)<v1))==true)) (Nd (decide ((0:Int)<v1)))) (tS h (Cc [])))
def Gx(a1:Bz):Int->Option (LR Int (Unit ⊕ Bool)):=
 λi4=>bif decide (i4<a1.Args.length) then Az (A2 i4 a1.Args.length) ((Fj (a1.Args.getD i4.toNat 0)).bind λx6=>bif !x6 then some (.done (.inr false)) else some (.next (w64 (i4+1)))) else some (.done (.inl ()))
def DT(Γ:H3)(a1:Bz)(r:Bool):Exit->St->Prop:=fK Tryz.prog Γ Tryz.f98.results.toList [] (.bool r) []
def rf(x1:Bool)(x2:Int)(a1:Bz):=(bif (!x1) then true else(x2 !=(a1.Args.length:Int)))
def G8(a1:Bz):Option Bool:=
 (Jw a1.Bits a1.Lanes).bind λx1=>(bif (!x1)==false then Kk a1 else some 0).bind λx2=>(bif (bif !x1 then true else x2 !=a1.Args.length)==false then F8 a1 else some false).bind λx3=>bif bif bif !x1 then true else x2 !=a1.Args.length then true else !x3 then some false else(Ac   (Gx a1) 0).bind λx7=>match x7 with | .inl _=>bif bif a1.Kind==17 then true else a1.Kind==19 then some (a1.Dst==0) else(Fj a1.Dst).bind λx9=>some x9 | .inr r10=>some r10
theorem Nu(h:G8 v6=some v3):sP 98 [(VV v6)] [] (.bool v3) []:=
 sG Tryz.func98 λΓ q=>Af q [1] [1] (tB h λx1 y1 h=>tB h λx2 y2 h=>tB h λx3 y3 h=>tT q [1,22] [1] [(Z2 x1),(UF x2),(Z2 x3)] (UG (X3 y1) (gI ((!x1)==false)) (λ(hg:((!x1)==false)=true)=>(Zl (Bf hg y2))) (LJ ((!x1)==false) (c5 (Lx (!x1)) (gI ((rf x1 x2 v6)==false)) (λ(hg:((rf x1 x2 v6)==false)=true)=>(Zm (Bf hg y3))) (gI ((rf x1 x2 v6)==false)) (Lx (rf x1 x2 v6))))) (gC h (λh=>Af q [2] [] (tS h (Cc []))) λh=>Af q L4 [1] (tL q h L4 [1] (λu i4=>(Cp u [(3,(Z5 i4))] [])) (λu x_=>match x_ with|(.inl _)=>aG Γ (.exit 0) (Nf [1] [1] u [] [])|(.inr r_)=>aR (DT Γ v6 r_)) (λi4 y h=>Af q [1,3,27] [1] (gC h (λh=>tC h λc5_ h=>tB h λx6 y6 h=>tT q [1,3,36] [1] [(Z2 x6)] (c2 c5_ (Md y6)) (gC h (λh=>Af q [2] [] (tS h (gO (Lj (H4 [] (Le.refl _ _)))))) λh=>Af q L4 [1] (tN h))) λh=>tS h (gO (Be (Bi [1] [1] q))))) λx7 h=>(match x7,h with | .inl _,h=>gA (tU q [1,44] [1] (Mr ((v6.Kind==17)==false) (c1 (Lx (v6.Kind==17)))) (gC h (λh=>Af q [2] [] (tS h (Cc []))) λh=>tB h λx9 y9 h=>tT q [2] [] [(Z2 x9)] (c1 (Md y9)) (tS h (Cc [])))) | .inr r10,h=>Oz (λst' hk=>tS h (gK hk))))))
def Fq(a0:TFunc):Int->Option (LR Int (Unit ⊕ Bool)):=
 λi1=>bif decide (i1<a0.Params.length) then Az (A2 i1 a0.Params.length) ((Dd (a0.Params.getD i1.toNat 0)).bind λx3=>bif !x3 then some (.done (.inr false)) else some (.next (w64 (i1+1)))) else some (.done (.inl ()))
def D5(a0:TFunc)(i6:Int):Int->Option (LR Int (Unit ⊕ Bool)):=
 λi7=>Az (A2 i6 a0.Blocks.length) (bif decide (i7<(a0.Blocks.getD i6.toNat default).Phis.length) then Az (A2 i6 a0.Blocks.length) (Az (A2 i7 (a0.Blocks.getD i6.toNat default).Phis.length) ((Dd ((a0.Blocks.getD i6.toNat default).Phis.getD i7.toNat default).Bits).bind λx11=>bif !x11 then some (.done (.inr false)) else some (.next (w64 (i7+1))))) else some (.done (.inl ())))
def D6(a0:TFunc)(a2:Int)(i6:Int):Int->Option (LR Int (Unit ⊕ Bool)):=
 λi14=>Az (A2 i6 a0.Blocks.length) (bif decide (i14<(a0.Blocks.getD i6.toNat default).Ops.length) then Az (A2 i6 a0.Blocks.length) (Az (A2 i14 (a0.Blocks.getD i6.toNat default).Ops.length) (Option.bind  (bif a2==1 then some 20 else some 22) λx19=>Option.bind  (bif a2==0 then some 17 else some x19) λx22=>(G8 ((a0.Blocks.getD i6.toNat default).Ops.getD i14.toNat default)).bind λx24=>bif bif bif !x24 then true else decide (x22<((a0.Blocks.getD i6.toNat default).Ops.getD i14.toNat default).Kind) then true else bif decide (a2<2) then decide (1<((a0.Blocks.getD i6.toNat default).Ops.getD i14.toNat default).Lanes) else false then some (.done (.inr false)) else some (.next (w64 (i14+1))))) else some (.done (.inl ())))
def Fs(a0:TFunc)(a2:Int):Int->Option (LR Int (Unit ⊕ Bool)):=
 λi6=>bif decide (i6<a0.Blocks.length) then(Ac   (D5 a0 i6) 0).bind λx12=>match x12 with | .inl _=>(Ac   (D6 a0 a2 i6) 0).bind λx25=>(match x25 with | .inl _=>some (.next (w64 (i6+1))) | .inr r27=>some (.done (.inr r27))) | .inr r28=>some (.done (.inr r28)) else some (.done (.inl ()))
def Jr(Γ:H3)(a0:TFunc)(a2:Int)(r:Bool):Exit->St->Prop:=fK Tryz.prog Γ Tryz.f53.results.toList [] (.bool r) []
def e9(a0:TFunc)(i6:Int)(i14:Int):=(((a0.Blocks.getD i6.toNat default).Ops).getD i14.toNat default)
def kS(x24:Bool)(x22:Int)(a0:TFunc)(i6:Int)(i14:Int):=(bif (!x24) then true else(decide (x22<(e9 a0 i6 i14).Kind)))
def Aae(a0:TFunc):List AV:=[(Z6 a0.Params),(Z5 a0.Ret),(UE a0.Blocks)]
def xi(a0:TFunc)(i6:Int)(i14:Int):List OK:=[(Pp 25 (Aae a0)),(9,.row 70 [(.int .i64 (e9 a0 i6 i14).Kind),(.int .i64 (e9 a0 i6 i14).Bits),(.int .i64 (e9 a0 i6 i14).Lanes),(.int .i64 (e9 a0 i6 i14).Dst),(AV.list 1 Aq 0 (e9 a0 i6 i14).Args .none),(.int .u64 (e9 a0 i6 i14).Imm)])]
def Jz(a0:TFunc)(a2:Int):Option Bool:=
 (Ac   (Fq a0) 0).bind λx4=>match x4 with | .inl _=>(Ac   (Fs a0 a2) 0).bind λx29=>(match x29 with | .inl _=>(Dd a0.Ret).bind λx31=>some x31 | .inr r32=>some r32) | .inr r33=>some r33
theorem Ya(h:Jz v0 v1=some v3):sP 53 [(V0 v0),(Z5 v1)] [] (.bool v3) []:=
 sG Tryz.func53 λΓ q=>tW q D7 [2] CQ [2] (tL q h CQ [2] (λu i1=>(Cp u [(5,(Z5 i1))] [])) (λu x_=>match x_ with|(.inl _)=>aG Γ (.exit 0) (Nf D7 [2] u [] [])|(.inr r_)=>aR (Jr Γ v0 v1 r_)) (λi1 y h=>Af q [1,2,5,15] [2] (gC h (λh=>tC h λc2_ h=>tB h λx3 y3 h=>tT q [1,2,5,24] [2] [(Z2 x3)] (c2 c2_ (Ey y3)) (gC h (λh=>Af q [4] [] (tS h (gO (Lj (H4 [] (Le.refl _ _)))))) λh=>Af q CQ [2] (tN h))) λh=>tS h (gO (Be (Bi D7 [2] q))))) λx4 h=>(match x4,h with | .inl _,h=>gA (Af q CJ [2] (tL q h CJ [2] (λu i6=>(Cp u [(6,(Z5 i6))] [])) (λu x_=>match x_ with|(.inl _)=>aG Γ (.exit 2) (Nf [2] [2] u [] [])|(.inr r_)=>aR (Jr Γ v0 v1 r_)) (λi6 y h=>Af q [1,2,6,29] [2] (gC h (λh=>Af q [1,2,6,7] [2] (tL q h [1,2,6,7] [2] (λu i7=>(Cp u [(7,(Z5 i7))] [])) (λu x_=>match x_ with|(.inl _)=>aG Γ (.exit 4) (Nf CJ [2] u [] [])|(.inr r_)=>aR (Jr Γ v0 v1 r_)) (λi7 y h=>tV q [1,2,6,7,40] [2] h λh=>gC h (λh=>tC h λc9_ h=>tC h λc10_ h=>tB h λx11 y11 h=>tT q [1,2,6,7,54] [2] [(Z2 x11)] (c3 c9_ c10_ (Ey y11)) (gC h (λh=>Af q [4] [] (tS h (gO (Lj (H4 [] (Le.refl _ _)))))) λh=>Af q [1,2,6,7] [2] (tN h))) λh=>tS h (gO (Be (Bi CJ [2] q)))) λx12 h=>(match x12,h with | .inl _,h=>gA (Af q [1,2,6,8] [2] (tL q h [1,2,6,8] [2] (λu i14=>(Cp u [(8,(Z5 i14))] [])) (λu x_=>match x_ with|(.inl _)=>aG Γ (.exit 6) (Nf CJ [2] u [] [])|(.inr r_)=>aR (Jr Γ v0 v1 r_)) (λi14 y h=>tV q [1,2,6,8,63] [2] h λh=>gC h (λh=>tC h λc16_ h=>tC h λc17_ h=>tU q [1,2,6,8,9] [2,9] (c2 c16_ c17_) (Af q SU [2,9] (tB h λx19 y19 h=>gJ y19 (λi18=>aG Γ .normal (⟨[(1,(Z5 v1)),Uj,(6,(Z5 i6)),(8,(Z5 i14)),(9,(.ptr 9 0)),(10,(Z5 i18))],(xi v0 i6 i14),[]⟩:St)) (λy h=>Af q [1,2,6,8,9,10,76] [2,9] (gC h (λh=>Af q SU [2,9] (tS h (gK (Be Io)))) λh=>tS h (gK (Be (Bi SU [2,9] q))))) (gA (tB h λx22 y22 h=>gJ y22 (λi21=>aG Γ .normal (⟨[(1,(Z5 v1)),Uj,(6,(Z5 i6)),(8,(Z5 i14)),(9,(.ptr 9 0)),(10,(Z5 i21))],(xi v0 i6 i14),[]⟩:St)) (λy h=>Af q [1,2,6,8,9,10,78] [2,9] (gC h (λh=>Af q SU [2,9] (tS h (gK (Be Io)))) λh=>tS h (gK (Be (Bi SU [2,9] q))))) (gA (tB h λx24 y24 h=>tT q [1,2,6,8,96] [2] [(Z2 x24)] (ci (Nu y24) (Yt ((!x24)==false) (ci (Lx (!x24)) (Mr ((kS x24 x22 v0 i6 i14)==false) (Mr (((kS x24 x22 v0 i6 i14)==false)&&((decide (v1<2))==true)) (c3 (gI ((kS x24 x22 v0 i6 i14)==false)) (show(((kS x24 x22 v0 i6 i14)==false)=true->((decide (v1<2))=true->(((kS x24 x22 v0 i6 i14)==false)&&((decide (v1<2))==true))=true)) from(λhg=>(aT hg))) (Lx (kS x24 x22 v0 i6 i14)))))))) (gC h (λh=>Af q [4] [] (tS h (gO (Lj (H4 [] (Le.refl _ _)))))) λh=>Af q [1,2,6,8] [2] (tN h))))))))) λh=>tS h (gO (Be (Bi CJ [2] q)))) λx25 h=>(match x25,h with | .inl _,h=>gA (Af q CJ [2] (tN h)) | .inr r27,h=>Oz (λst' hk=>tS h (gO (Lj hk)))))) | .inr r28,h=>Oz (λst' hk=>tS h (gO (Lj hk)))))) λh=>tS h (gO (Be (Bi [2] [2] q))))) λx29 h=>(match x29,h with | .inl _,h=>gA (tB h λx31 y31 h=>tT q [4] [] [(Z2 x31)] (c1 (Ey y31)) (tS h (Cc []))) | .inr r32,h=>Oz (λst' hk=>tS h (gK hk))))) | .inr r33,h=>Oz (λst' hk=>tS h (gK hk))))
def Hl(a1:Bz):Option J5:=
 (G8 a1).bind λx1=>bif bif bif !x1 then true else a1.Kind==17 then true else a1.Kind==19 then some (0,0) else bif bif decide (10<=a1.Kind) then decide (a1.Kind<=12) else false then some (1,1) else bif a1.Kind==22 then some (a1.Bits,1) else some (a1.Bits,a1.Lanes)
variable{v19:J5}
theorem X2(h:Hl v6=some v19):sP 99 [(VV v6)] [] (.tuple [(Z5 v19.1),(Z5 v19.2)]) []:=
 sG Tryz.func99 λΓ q=>Af q [1] [1] (tB h λx1 y1 h=>tT q [1,16] [1] [(Z2 x1)] (ci (Nu y1) (Mr ((!x1)==false) (ci (Lx (!x1)) (Mr ((bif (!x1) then true else(v6.Kind==17))==false) (c1 (Lx (bif (!x1) then true else(v6.Kind==17)))))))) (gC h (λh=>Af q Cz [] (tS h (Cc []))) λh=>tU q [1,24] [1] (Mr ((decide ((10:Int)<=v6.Kind))==true) (c1 (Nd (decide ((10:Int)<=v6.Kind))))) (gC h (λh=>Af q Cz [] (tS h (Cc []))) λh=>Af q [1,27] [1] (gC h (λh=>Af q Cz [] (tS h (Cc []))) λh=>Af q Cz [] (tS h (Cc []))))))
open Go Go.RowKit
set_option maxRecDepth 100000
set_option maxHeartbeats 2000000
abbrev uU:=(List Cg×Int)
abbrev uV:=(LR (List Cg×Int) (List Cg))
def Ik(a0:TFunc):uU->Option uV:=
 λ(l1,i2)=>bif decide (i2<a0.Params.length) then Az (A2 i2 a0.Params.length) (Az (l1.length+[(⟨w64 (i2+1),-1,0,(a0.Params.getD i2.toNat 0,1)⟩:Cg)].length<=room) (some (.next (l1++[⟨w64 (i2+1),-1,0,(a0.Params.getD i2.toNat 0,1)⟩],w64 (i2+1))))) else some (.done l1)
def Gf(a0:TFunc)(i9:Int):uU->Option uV:=
 λ(l12,i13)=>bif decide (i13<(a0.Blocks.getD i9.toNat default).Phis.length) then Az (A2 i13 (a0.Blocks.getD i9.toNat default).Phis.length) (Az (A2 i13 (a0.Blocks.getD i9.toNat default).Phis.length) (Az (l12.length+[(⟨((a0.Blocks.getD i9.toNat default).Phis.getD i13.toNat default).Dst,i9,-1,(((a0.Blocks.getD i9.toNat default).Phis.getD i13.toNat default).Bits,1)⟩:Cg)].length<=room) (some (.next (l12++[⟨((a0.Blocks.getD i9.toNat default).Phis.getD i13.toNat default).Dst,i9,-1,(((a0.Blocks.getD i9.toNat default).Phis.getD i13.toNat default).Bits,1)⟩],w64 (i13+1)))))) else some (.done l12)
def Gg(a0:TFunc)(i9:Int):uU->Option uV:=
 λ(l20,i21)=>bif decide (i21<(a0.Blocks.getD i9.toNat default).Ops.length) then Option.bind  (Az (A2 i21 (a0.Blocks.getD i9.toNat default).Ops.length) ((Hl ((a0.Blocks.getD i9.toNat default).Ops.getD i21.toNat default)).bind λx25=>bif decide (0<x25.1) then Az (A2 i21 (a0.Blocks.getD i9.toNat default).Ops.length) (Az (l20.length+[(⟨((a0.Blocks.getD i9.toNat default).Ops.getD i21.toNat default).Dst,i9,i21,(x25.1,x25.2)⟩:Cg)].length<=room) (some (l20++[⟨((a0.Blocks.getD i9.toNat default).Ops.getD i21.toNat default).Dst,i9,i21,(x25.1,x25.2)⟩]))) else some l20)) λx28=>some (.next (x28,w64 (i21+1))) else some (.done l20)
def Il(a0:TFunc):uU->Option uV:=
 λ(l8,i9)=>bif decide (i9<a0.Blocks.length) then Az (A2 i9 a0.Blocks.length) ((Ac   (Gf a0 i9) (l8,0)).bind λx18=>(Ac   (Gg a0 i9) (x18,0)).bind λx30=>some (.next (x30,w64 (i9+1)))) else some (.done l8)
def br(a0:TFunc)(i9:Int):=(a0.Blocks.getD i9.toNat default)
def vP(a0:TFunc):List AV:=[(Z6 a0.Params),(Z5 a0.Ret),(UE a0.Blocks)]
def ri(i2:Int)(a0:TFunc):=([(⟨(w64 (i2+1)),(-1:Int),(0:Int),((a0.Params.getD i2.toNat 0),(1:Int))⟩:Cg)]:List Cg)
def rh(a0:TFunc)(i9:Int)(i21:Int)(x25:J5):=([(⟨(((br a0 i9).Ops).getD i21.toNat default).Dst,i9,i21,(x25.1,x25.2)⟩:Cg)]:List Cg)
def xj(a0:TFunc):=(⟨[CR,(3,(AV.list 5 Pq default ([]:List Cg) (.own 5003))),(4,L5)],[(1,.row 25 (vP a0)),(5003,.tok 5 92 (([]:List Cg).length))],[]⟩:St)
def rg(a0:TFunc)(i9:Int)(i13:Int):=([(⟨(((br a0 i9).Phis).getD i13.toNat default).Dst,i9,(-1:Int),((((br a0 i9).Phis).getD i13.toNat default).Bits,(1:Int))⟩:Cg)]:List Cg)
def Kq(a0:TFunc):Option (List Cg):=
 (Ac   (Ik a0) ([],0)).bind λx6=>(Ac   (Il a0) (x6,0)).bind λx32=>some x32
variable{v34:List Cg}
theorem Zs(h:Kq v0=some v34):sP 54 [(V0 v0)] [] (AV.list 5 Pq default v34 (.own 20000)) [(Li 20000 92 v34.length)]:=
 sG Tryz.func54 λΓ q=>gR q [1] [1] [(2,(AV.list 5 Pq default ([]:List Cg) .exact))] [] (c1 (B1 5 Pq (default:Cg))) (gR q L4 [1] [(3,(AV.list 5 Pq default ([]:List Cg) .exact))] [] (c1 (B1 5 Pq (default:Cg))) (Af q J6 [1] (gLe (st':=(xj v0)) (Le.trans (Bi (st':=⟨[CR,(3,(AV.list 5 Pq default ([]:List Cg) .exact)),(4,L5)],[(1,.row 25 (vP v0))],[]⟩) J6 [1] q) (Le.trans (Rj (t:=3) (nm:=5003) (sz':=5) (λi=>Pq (([]:List Cg).getD i default)) 92 rfl rfl (.inl ⟨rfl,rfl⟩) (λh_=>absurd h_ (by decide))) (Bi (st':=(xj v0)) J6 Nc q))) (tL q h J6 Nc (λu (l1,i2)=>(Cp u [(sL l1),(4,(Z5 i2))] [(Li 5003 92 l1.length)])) (λu l3=>aG Γ (.exit 0) (Nf L4 Nc u [(sL l3)] [(Li 5003 92 l3.length)])) (λ⟨l1,i2⟩ y h=>Af q [1,3,4,15] Nc (gC h (λh=>tC h λc4_ h=>tC h λc5_ h=>gR q J6 Nc (Z53 28 (ri i2 v0) 29 l1) [] (c6 c4_ (Br 5 Pq (default:Cg) (ri i2 v0)) (Eq.refl l1.length) c5_ (Ix 5 5003 Pq (default:Cg) l1 (ri i2 v0)) (E2 l1 (ri i2 v0))) (Af q J6 Nc (tN h))) λh=>tS h (gO (Be (Bi L4 Nc q))))) λx6 h=>gA (Af q KW Nc (tL q h KW Nc (λu (l8,i9)=>(Cp u [(sL l8),(5,(Z5 i9))] [(Li 5003 92 l8.length)])) (λu l10=>aG Γ (.exit 2) (⟨[(sL l10)],[(Li 5003 92 l10.length)],[]⟩:St)) (λ⟨l8,i9⟩ y h=>Af q [1,3,5,34] Nc (gC h (λh=>tV q IM S4 h λh=>Af q TG S4 (tL q h TG S4 (λu (l12,i13)=>(Cp u [(sL l12),(7,(Z5 i13))] [(Li 5003 92 l12.length)])) (λu l14=>aG Γ (.exit 4) (Nf IM S4 u [(sL l14)] [(Li 5003 92 l14.length)])) (λ⟨l12,i13⟩ y h=>Af q [1,3,5,6,7,46] S4 (gC h (λh=>tC h λc15_ h=>tC h λc16_ h=>tC h λc17_ h=>gR q TG S4 (Z53 65 (rg v0 i9 i13) 66 l12) [] (c7 c15_ c16_ (Br 5 Pq (default:Cg) (rg v0 i9 i13)) (Eq.refl l12.length) c17_ (Ix 5 5003 Pq (default:Cg) l12 (rg v0 i9 i13)) (E2 l12 (rg v0 i9 i13))) (Af q TG S4 (tN h))) λh=>tS h (gO (Be (Bi IM S4 q))))) λx18 h=>gA (Af q TH S4 (tL q h TH S4 (λu (l20,i21)=>(Cp u [(sL l20),(8,(Z5 i21))] [(Li 5003 92 l20.length)])) (λu l22=>aG Γ (.exit 6) (Nf KW Nc u [(sL l22)] [(Li 5003 92 l22.length)])) (λ⟨l20,i21⟩ y h=>Af q [1,3,5,6,8,71] S4 (gC h (λh=>tB h λx28 y28 h=>gJ y28 (λl23=>aG Γ .normal (⟨[CR,(sL l23),(5,(Z5 i9)),(6,(.ptr 6 0)),(8,(Z5 i21))],[(1,.row 25 (vP v0)),(6,.row 64 [(AV.list 4 El default (br v0 i9).Phis .none),(AV.list 6 Lh default (br v0 i9).Ops .none),(.int .i64 (br v0 i9).End.Kind),(.int .i64 (br v0 i9).End.Arg),(AV.list 1 Aq 0 (br v0 i9).End.To .none)]),(Li 5003 92 l23.length)],[]⟩:St)) (λy h=>tC h λc24_ h=>tB h λx25 y25 h=>tT q [1,3,5,6,8,9,10] S4 [(Z92 x25.1 x25.2)] (c2 c24_ (X2 y25)) (Af q [1,3,5,6,8,9,10,84] S4 (gC h (λh=>tC h λc26_ h=>tC h λc27_ h=>gR q TH S4 (Z53 98 (rh v0 i9 i21 x25) 99 l20) [] (c6 c26_ (Br 5 Pq (default:Cg) (rh v0 i9 i21 x25)) (Eq.refl l20.length) c27_ (Ix 5 5003 Pq (default:Cg) l20 (rh v0 i9 i21 x25)) (E2 l20 (rh v0 i9 i21 x25))) (tS h (gK (Be Io)))) λh=>tS h (gK (Be (Bi TH S4 q)))))) (gA (Af q TH S4 (tN h)))) λh=>tS h (gO (Be (Bi KW Nc q))))) λx30 h=>gA (Af q KW Nc (tN h)))))) λh=>tS h (gO (Be (Bi [3] [5003] q))))) λx32 h=>gA (Af q [2] [5003] (tS h (Cc bW)))))))))
def Gh(aS:List Cg)(aH:Int):Int->Option (LR Int (Unit ⊕ Int)):=
 λi1=>bif decide (i1<aS.length) then Az (A2 i1 aS.length) (bif (aS.getD i1.toNat default).V==aH then some (.done (.inr i1)) else some (.next (w64 (i1+1)))) else some (.done (.inl ()))
def AF(Γ:H3)(aS:List Cg)(aH:Int)(r:Int):Exit->St->Prop:=fK Tryz.prog Γ Tryz.f56.results.toList [] (.int .i64 r) []
def Ex(aS:List Cg)(aH:Int):Option Int:=
 (Ac   (Gh aS aH) 0).bind λx3=>match x3 with | .inl _=>some (-1) | .inr r5=>some r5
theorem J0(h:Ex v34 v1=some v11):sP 56 [(AV.list 5 Pq default v34 .none),(Z5 v1)] [] (.int .i64 v11) []:=
 sG Tryz.func56 λΓ q=>tW q Gn [] Nb [] (tL q h Nb [] (λu i1=>(Cp u [(5,(Z5 i1))] [])) (λu x_=>match x_ with|(.inl _)=>aG Γ (.exit 0) (⟨[],[],[]⟩:St)|(.inr r_)=>aR (AF Γ v34 v1 r_)) (λi1 y h=>Af q [0,1,5,9] [] (gC h (λh=>tV q [0,1,5,18] [] h λh=>gC h (λh=>Af q [4] [] (tS h (gO (Lj (H4 [] (Le.refl _ _)))))) λh=>Af q Nb [] (tN h)) λh=>tS h (gO (Be (Bi [] [] q))))) λx3 h=>(match x3,h with | .inl _,h=>gA (Af q [4] [] (tS h (Cc []))) | .inr r5,h=>Oz (λst' hk=>tS h (gK hk))))
def Hz(a1:Bz):(List (Int×Int)×Int)->Option (LR (List (Int×Int)×Int) (List (Int×Int))):=
 λ(l2,i3)=>bif decide (i3<a1.Args.length) then Option.bind  (Option.bind  (bif a1.Kind==13 then some (a1.Kind==13) else some (a1.Kind==20)) λx8=>bif x8 then bif i3==0 then some (1,1) else some (a1.Bits,a1.Lanes) else Option.bind  (bif a1.Kind==14 then some (a1.Kind==14) else some (a1.Kind==15)) λx11=>bif x11 then some (w64 a1.Imm,1) else Option.bind  (bif a1.Kind==16 then some (a1.Kind==16) else some (a1.Kind==17)) λx14=>bif x14 then bif i3==0 then some (64,1) else some (a1.Bits,a1.Lanes) else Option.bind  (bif a1.Kind==18 then some (a1.Kind==18) else some (a1.Kind==19)) λx17=>bif x17 then Option.bind  (bif i3==0 then some (1,1) else some (a1.Bits,a1.Lanes)) λx21=>match x21 with|(i19,i20)=>bif i3==1 then some (64,1) else some (i19,i20) else bif a1.Kind==21 then some (a1.Bits,1) else some (a1.Bits,a1.Lanes)) λx23=>match x23 with|(i5,i6)=>Az (l2.length+[(i5,i6)].length<=room) (some (.next (l2++[(i5,i6)],w64 (i3+1)))) else some (.done l2)
def Aaf(a1:Bz):List AV:=[(Z5 a1.Bits),(Z5 a1.Lanes)]
def fA(l2:List KF):AV:=(vu l2 5003)
def kU:AV:=yW
def kT(a1:Bz):List AV:=[(Z5 a1.Kind),(Z5 a1.Bits),(Z5 a1.Lanes),(Z5 a1.Dst),(Z6 a1.Args),(.int .u64 a1.Imm)]
def rj(a1:Bz)(l2:List KF):List OK:=[(1,.row 70 (kT a1)),(5,.row 90 (Aaf a1)),(5003,.tok 2 90 l2.length)]
def xk:List MM:=[CR,(3,(AV.list 2 Bq ((0:Int),(0:Int)) ([]:List J5) (.own 5003))),(4,L5)]
def Hm(a1:Bz):Option qg:=
 (G8 a1).bind λx1=>bif !x1 then some [] else(Ac   (Hz a1) ([],0)).bind λx26=>some x26
variable{v21:List KF}
theorem X4(h:Hm v6=some v21):sP 100 [(VV v6)] [] (vu v21 20000) [(20000,.tok 2 90 v21.length)]:=
 sG Tryz.func100 λΓ q=>gR q [1] [1] [(2,kU)] [] (c1 (B1 2 Bq ((0:Int),(0:Int)))) (gR q L4 [1] [(3,kU)] [] (c1 (B1 2 Bq ((0:Int),(0:Int)))) (tB h λx1 y1 h=>tT q [1,3,8] [1] [(Z2 x1)] (c1 (Nu y1)) (gC h (λh=>gR q [2] [] [(2,kU)] [] (c1 (B1 2 Bq ((0:Int),(0:Int)))) (P6 (⟨[(2,kU)],[],[]⟩:St) (tS h (gK (e:=.ret) (H4 [(6002,20000)] (show Le Γ _ (Z69:St) from Le.trans (Bi (st':=⟨[(2,kU)],[],[]⟩) [2] [] q) (Le.trans (Rj (t:=2) (nm:=6002) (sz':=2) (λi=>Bq (([]:List J5).getD i ((0:Int),(0:Int)))) 90 rfl rfl (.inl ⟨rfl,rfl⟩) (λh_=>absurd h_ (by decide))) (Bi (st':=Z69) [2] [6002] q)))))))) λh=>Af q J6 [1] (gLe (st':=⟨xk,[(1,.row 70 (kT v6)),(5003,.tok 2 90 (([]:List J5).length))],[]⟩) (Le.trans (Bi (st':=⟨[CR,(3,kU),(4,L5)],[(1,.row 70 (kT v6))],[]⟩) J6 [1] q) (Le.trans (Rj (t:=3) (nm:=5003) (sz':=2) (λi=>Bq (([]:List J5).getD i ((0:Int),(0:Int)))) 90 rfl rfl (.inl ⟨rfl,rfl⟩) (λh_=>absurd h_ (by decide))) (Bi (st':=⟨xk,[(1,.row 70 (kT v6)),(5003,.tok 2 90 (([]:List J5).length))],[]⟩) J6 Nc q))) (tL q h J6 Nc (λu (l2,i3)=>(Cp u [(3,(fA l2)),(4,(Z5 i3))] [(5003,.tok 2 90 l2.length)])) (λu l4=>aG Γ (.exit 0) (⟨[(3,(vu l4 5003))],[(5003,.tok 2 90 l4.length)],[]⟩:St)) (λ⟨l2,i3⟩ y h=>Af q [1,3,4,13] Nc (gC h (λh=>Af q L3 Jq (tB h λx23 y23 h=>gJ y23 (λ(i5,i6)=>aG Γ .normal (⟨[CR,(3,(fA l2)),(4,(Z5 i3)),ed],[(1,.row 70 (kT v6)),(5,.row 90 [(Z5 i5),(Z5 i6)]),(5003,.tok 2 90 l2.length)],[]⟩:St)) (λy h=>Af q [1,3,4,5,22] Jq (tB h λx8 y8 h=>gJ y8 (λb7=>aG Γ .normal (⟨[CR,(3,(fA l2)),(4,(Z5 i3)),ed,(22,(Z5 v6.Kind)),(23,(.bool b7))],(rj v6 l2),[]⟩:St)) (λy h=>Af q [1,3,4,5,22,23] Jq (gC h (λh=>tS h (gK (Be Io))) λh=>Af q [1,3,4,5,22,23] Jq (tS h (gK (Be Io))))) (gA (gC h (λh=>Af q [1,3,4,5,27] Jq (gC h (λh=>Af q L3 Jq (tS h (gK (Be Io)))) λh=>tS h (gK (Be (Bi L3 Jq q))))) λh=>tB h λx11 y11 h=>gJ y11 (λb10=>aG Γ .normal (⟨[CR,(3,(fA l2)),(4,(Z5 i3)),ed,(22,(Z5 v6.Kind)),(29,(.bool b10))],(rj v6 l2),[]⟩:St)) (λy h=>Af q [1,3,4,5,22,29] Jq (gC h (λh=>tS h (gK (Be Io))) λh=>Af q [1,3,4,5,22,29] Jq (tS h (gK (Be Io))))) (gA (gC h (λh=>Af q L3 Jq (tS h (gK (Be Io)))) λh=>tB h λx14 y14 h=>gJ y14 (λb13=>aG Γ .normal (⟨[CR,(3,(fA l2)),(4,(Z5 i3)),ed,(22,(Z5 v6.Kind)),(36,(.bool b13))],(rj v6 l2),[]⟩:St)) (λy h=>Af q [1,3,4,5,22,36] Jq (gC h (λh=>tS h (gK (Be Io))) λh=>Af q [1,3,4,5,22,36] Jq (tS h (gK (Be Io))))) (gA (gC h (λh=>Af q [1,3,4,5,40] Jq (gC h (λh=>Af q L3 Jq (tS h (gK (Be Io)))) λh=>tS h (gK (Be (Bi L3 Jq q))))) λh=>tB h λx17 y17 h=>gJ y17 (λb16=>aG Γ .normal (⟨[CR,(3,(fA l2)),(4,(Z5 i3)),ed,(22,(Z5 v6.Kind)),(42,(.bool b16))],(rj v6 l2),[]⟩:St)) (λy h=>Af q [1,3,4,5,22,42] Jq (gC h (λh=>tS h (gK (Be Io))) λh=>Af q [1,3,4,5,22,42] Jq (tS h (gK (Be Io))))) (gA (gC h (λh=>tB h λx21 y21 h=>gJ y21 (λ(i19,i20)=>aG Γ .normal (⟨[CR,(3,(fA l2)),(4,(Z5 i3)),ed],[(1,.row 70 (kT v6)),(5,.row 90 [(Z5 i19),(Z5 i20)]),(5003,.tok 2 90 l2.length)],[]⟩:St)) (λy h=>Af q [1,3,4,5,46] Jq (gC h (λh=>Af q L3 Jq (tS h (gK (Be Io)))) λh=>tS h (gK (Be (Bi L3 Jq q))))) (match x21,h with|⟨i19,i20⟩,h=>gA (Af q [1,3,4,5,49] Jq (gC h (λh=>Af q L3 Jq (tS h (gK (Be Io)))) λh=>tS h (gK (Be (Bi L3 Jq q))))))) λh=>Af q [1,3,4,5,51] Jq (gC h (λh=>Af q L3 Jq (tS h (gK (Be Io)))) λh=>tS h (gK (Be (Bi L3 Jq q)))))))))))))) (match x23,h with|⟨i5,i6⟩,h=>gA (tC h λc25_ h=>gR q J6 Nc [(58,(AV.list 2 Bq ((0:Int),(0:Int)) ([(i5,i6)]:List J5) .exact)),(59,(AV.list 2 Bq ((0:Int),(0:Int)) (l2++([(i5,i6)]:List J5)) (.own 5003)))] [] (c5 (Br 2 Bq ((0:Int),(0:Int)) ([(i5,i6)]:List J5)) (Eq.refl l2.length) c25_ (Ix 2 5003 Bq ((0:Int),(0:Int)) l2 ([(i5,i6)]:List J5)) (E2 l2 ([(i5,i6)]:List J5))) (Af q J6 Nc (tN h)))))) λh=>tS h (gO (Be (Bi [3] [5003] q))))) λx26 h=>gA (Af q [2] [5003] (tS h (Cc bW))))))))
abbrev qi:=(List D2×Int)
abbrev qj:=(LR (List D2×Int) (List D2))
def Gi(a0:TFunc)(i2:Int)(i7:Int):qi->Option qj:=
 λ(l10,i11)=>bif decide (i11<((a0.Blocks.getD i2.toNat default).Phis.getD i7.toNat default).Args.length) then Az (A2 i11 ((a0.Blocks.getD i2.toNat default).Phis.getD i7.toNat default).Args.length) (Az (A2 i11 ((a0.Blocks.getD i2.toNat default).Phis.getD i7.toNat default).From.length) (Az (l10.length+[(⟨((a0.Blocks.getD i2.toNat default).Phis.getD i7.toNat default).Args.getD i11.toNat 0,((a0.Blocks.getD i2.toNat default).Phis.getD i7.toNat default).From.getD i11.toNat 0,1000,(((a0.Blocks.getD i2.toNat default).Phis.getD i7.toNat default).Bits,1)⟩:D2)].length<=room) (some (.next (l10++[⟨((a0.Blocks.getD i2.toNat default).Phis.getD i7.toNat default).Args.getD i11.toNat 0,((a0.Blocks.getD i2.toNat default).Phis.getD i7.toNat default).From.getD i11.toNat 0,1000,(((a0.Blocks.getD i2.toNat default).Phis.getD i7.toNat default).Bits,1)⟩],w64 (i11+1)))))) else some (.done l10)
def Gj(a0:TFunc)(i2:Int):qi->Option qj:=
 λ(l6,i7)=>bif decide (i7<(a0.Blocks.getD i2.toNat default).Phis.length) then Az (A2 i7 (a0.Blocks.getD i2.toNat default).Phis.length) ((Ac   (Gi a0 i2 i7) (l6,0)).bind λx16=>some (.next (x16,w64 (i7+1)))) else some (.done l6)
def Gk(a0:TFunc)(i2:Int)(i21:Int)(x24:List KF):qi->Option qj:=
 λ(l25,i26)=>bif decide (i26<x24.length) then Az (A2 i21 (a0.Blocks.getD i2.toNat default).Ops.length) (Az (A2 i26 ((a0.Blocks.getD i2.toNat default).Ops.getD i21.toNat default).Args.length) (Az (A2 i26 x24.length) (Az (l25.length+[(⟨((a0.Blocks.getD i2.toNat default).Ops.getD i21.toNat default).Args.getD i26.toNat 0,i2,i21,x24.getD i26.toNat (0,0)⟩:D2)].length<=room) (some (.next (l25++[⟨((a0.Blocks.getD i2.toNat default).Ops.getD i21.toNat default).Args.getD i26.toNat 0,i2,i21,x24.getD i26.toNat (0,0)⟩],w64 (i26+1))))))) else some (.done l25)
def Gl(a0:TFunc)(i2:Int):qi->Option qj:=
 λ(l20,i21)=>bif decide (i21<(a0.Blocks.getD i2.toNat default).Ops.length) then Az (A2 i21 (a0.Blocks.getD i2.toNat default).Ops.length) ((Hm ((a0.Blocks.getD i2.toNat default).Ops.getD i21.toNat default)).bind λx24=>(Ac   (Gk a0 i2 i21 x24) (l20,0)).bind λx32=>some (.next (x32,w64 (i21+1)))) else some (.done l20)
def Im(a0:TFunc):qi->Option qj:=
 λ(l1,i2)=>bif decide (i2<a0.Blocks.length) then Option.bind  (Az (A2 i2 a0.Blocks.length) ((Ac   (Gj a0 i2) (l1,0)).bind λx18=>(Ac   (Gl a0 i2) (x18,0)).bind λx34=>Option.bind  (bif (a0.Blocks.getD i2.toNat default).End.Kind==0 then Az (x34.length+[(⟨(a0.Blocks.getD i2.toNat default).End.Arg,i2,1000,(a0.Ret,1)⟩:D2)].length<=room) (some (x34++[⟨(a0.Blocks.getD i2.toNat default).End.Arg,i2,1000,(a0.Ret,1)⟩])) else some x34) λx38=>bif (a0.Blocks.getD i2.toNat default).End.Kind==2 then Az (x38.length+[(⟨(a0.Blocks.getD i2.toNat default).End.Arg,i2,1000,(1,1)⟩:D2)].length<=room) (some (x38++[⟨(a0.Blocks.getD i2.toNat default).End.Arg,i2,1000,(1,1)⟩])) else some x38)) λx41=>some (.next (x41,w64 (i2+1))) else some (.done l1)
def ON(a0:TFunc)(i2:Int):=(a0.Blocks.getD i2.toNat default)
def rq(a0:TFunc):List AV:=[(Z6 a0.Params),(Z5 a0.Ret),(UE a0.Blocks)]
def rp(a0:TFunc)(i2:Int):=([(⟨(ON a0 i2).End.Arg,i2,(1000:Int),(a0.Ret,(1:Int))⟩:D2)]:List D2)
def rm(a0:TFunc)(i2:Int):=([(⟨(ON a0 i2).End.Arg,i2,(1000:Int),((1:Int),(1:Int))⟩:D2)]:List D2)
def xl(a0:TFunc):=(⟨[CR,(3,(AV.list 5 Oy default ([]:List D2) (.own 5003))),(4,L5)],[(1,.row 25 (rq a0)),(5003,.tok 5 96 (([]:List D2).length))],[]⟩:St)
def rl(a0:TFunc)(i2:Int)(i21:Int)(i26:Int)(x24:List KF):=([(⟨(((((ON a0 i2).Ops).getD i21.toNat default).Args).getD i26.toNat 0),i2,i21,(x24.getD i26.toNat ((0:Int),(0:Int)))⟩:D2)]:List D2)
def rk(a0:TFunc)(i2:Int)(i7:Int)(i11:Int):=([(⟨(((((ON a0 i2).Phis).getD i7.toNat default).Args).getD i11.toNat 0),(((((ON a0 i2).Phis).getD i7.toNat default).From).getD i11.toNat 0),(1000:Int),((((ON a0 i2).Phis).getD i7.toNat default).Bits,(1:Int))⟩:D2)]:List D2)
def Kr(a0:TFunc):Option (List D2):=
 (Ac   (Im a0) ([],0)).bind λx43=>some x43
variable{v35:List D2}
theorem Zt(h:Kr v0=some v35):sP 57 [(V0 v0)] [] (AV.list 5 Oy default v35 (.own 20000)) [(Li 20000 96 v35.length)]:=
 sG Tryz.func57 λΓ q=>gR q [1] [1] [(2,(AV.list 5 Oy default ([]:List D2) .exact))] [] (c1 (B1 5 Oy (default:D2))) (gR q L4 [1] [(3,(AV.list 5 Oy default ([]:List D2) .exact))] [] (c1 (B1 5 Oy (default:D2))) (Af q J6 [1] (gLe (st':=(xl v0)) (Le.trans (Bi (st':=⟨[CR,(3,(AV.list 5 Oy default ([]:List D2) .exact)),(4,L5)],[(1,.row 25 (rq v0))],[]⟩) J6 [1] q) (Le.trans (Rj (t:=3) (nm:=5003) (sz':=5) (λi=>Oy (([]:List D2).getD i default)) 96 rfl rfl (.inl ⟨rfl,rfl⟩) (λh_=>absurd h_ (by decide))) (Bi (st':=(xl v0)) J6 Nc q))) (tL q h J6 Nc (λu (l1,i2)=>(Cp u [(mW l1),(4,(Z5 i2))] [(Li 5003 96 l1.length)])) (λu l3=>aG Γ (.exit 0) (⟨[(mW l3)],[(Li 5003 96 l3.length)],[]⟩:St)) (λ⟨l1,i2⟩ y h=>Af q [1,3,4,16] Nc (gC h (λh=>tB h λx41 y41 h=>gJ y41 (λl4=>aG Γ .normal (⟨[CR,(mW l4),(4,(Z5 i2))],[(1,.row 25 (rq v0)),(Li 5003 96 l4.length)],[]⟩:St)) (λy h=>tV q L3 Jq h λh=>Af q Sj Jq (tL q h Sj Jq (λu (l6,i7)=>(Cp u [(mW l6),(6,(Z5 i7))] [(Li 5003 96 l6.length)])) (λu l8=>aG Γ (.exit 2) (Nf L3 Jq u [(mW l8)] [(Li 5003 96 l8.length)])) (λ⟨l6,i7⟩ y h=>Af q [1,3,4,5,6,28] Jq (gC h (λh=>tV q [1,3,4,5,6,7] KS h λh=>Af q bR KS (tL q h bR KS (λu (l10,i11)=>(Cp u [(mW l10),(8,(Z5 i11))] [(Li 5003 96 l10.length)])) (λu l12=>aG Γ (.exit 4) (Nf Sj Jq u [(mW l12)] [(Li 5003 96 l12.length)])) (λ⟨l10,i11⟩ y h=>Af q [1,3,4,5,6,7,8,40] KS (gC h (λh=>tC h λc13_ h=>tC h λc14_ h=>tC h λc15_ h=>gR q bR KS (Z34 58 (rk v0 i2 i7 i11) 59 l10) [] (c7 c13_ c14_ (Br 5 Oy (default:D2) (rk v0 i2 i7 i11)) (Eq.refl l10.length) c15_ (Ix 5 5003 Oy (default:D2) l10 (rk v0 i2 i7 i11)) (E2 l10 (rk v0 i2 i7 i11))) (Af q bR KS (tN h))) λh=>tS h (gO (Be (Bi Sj Jq q))))) λx16 h=>gA (Af q Sj Jq (tN h)))) λh=>tS h (gO (Be (Bi L3 Jq q))))) λx18 h=>gA (Af q TI Jq (tL q h TI Jq (λu (l20,i21)=>(Cp u [(mW l20),(9,(Z5 i21))] [(Li 5003 96 l20.length)])) (λu l22=>aG Γ (.exit 6) (Nf L3 Jq u [(mW l22)] [(Li 5003 96 l22.length)])) (λ⟨l20,i21⟩ y h=>Af q [1,3,4,5,9,64] Jq (gC h (λh=>tC h λc23_ h=>tB h λx24 y24 h=>tT q [1,3,4,5,9,10] YQ [⟨[],[(20000,72)],(vu x24 20000),[(20000,.tok 2 90 x24.length)],[],[]⟩] (c2 c23_ (X4 y24)) (Af q bO YQ (tL q h bO YQ (λu (l25,i26)=>(Cp u [(mW l25),(11,(Z5 i26))] [(Li 5003 96 l25.length)])) (λu l27=>aG Γ (.exit 8) (Nf TI Jq u [(mW l27)] [(Li 5003 96 l27.length)])) (λ⟨l25,i26⟩ y h=>Af q [1,3,4,5,9,10,11,76] YQ (gC h (λh=>tC h λc28_ h=>tC h λc29_ h=>tC h λc30_ h=>tC h λc31_ h=>gR q bO YQ (Z34 96 (rl v0 i2 i21 i26 x24) 97 l25) [] (c8 c28_ c29_ c30_ (Br 5 Oy (default:D2) (rl v0 i2 i21 i26 x24)) (Eq.refl l25.length) c31_ (Ix 5 5003 Oy (default:D2) l25 (rl v0 i2 i21 i26 x24)) (E2 l25 (rl v0 i2 i21 i26 x24))) (Af q bO YQ (tN h))) λh=>tS h (gO (Be (Bi TI Jq q))))) λx32 h=>gA (Af q TI Jq (tN h))))) λh=>tS h (gO (Be (Bi L3 Jq q))))) λx34 h=>gA (tB h λx38 y38 h=>gJ y38 (λl36=>aG Γ .normal (⟨[CR,(mW l36),(4,(Z5 i2)),ed],[(1,.row 25 (rq v0)),(5,.row 64 [(AV.list 4 El default (ON v0 i2).Phis .none),(AV.list 6 Lh default (ON v0 i2).Ops .none),(.int .i64 (ON v0 i2).End.Kind),(.int .i64 (ON v0 i2).End.Arg),(AV.list 1 Aq 0 (ON v0 i2).End.To .none)]),(Li 5003 96 l36.length)],[]⟩:St)) (λy h=>Af q [1,3,4,5,101] Jq (gC h (λh=>tC h λc37_ h=>gR q L3 Jq (Z34 111 (rp v0 i2) 112 x34) [] (c5 (Br 5 Oy (default:D2) (rp v0 i2)) (Eq.refl x34.length) c37_ (Ix 5 5003 Oy (default:D2) x34 (rp v0 i2)) (E2 x34 (rp v0 i2))) (tS h (gK (Be Io)))) λh=>tS h (gK (Be (Bi L3 Jq q))))) (gA (Af q [1,3,4,5,116] Jq (gC h (λh=>tC h λc40_ h=>gR q J6 Nc (Z34 124 (rm v0 i2) 125 x38) [] (c5 (Br 5 Oy (default:D2) (rm v0 i2)) (Eq.refl x38.length) c40_ (Ix 5 5003 Oy (default:D2) x38 (rm v0 i2)) (E2 x38 (rm v0 i2))) (tS h (gK (Be Io)))) λh=>tS h (gK (Be (Bi J6 Nc q))))))))))) (gA (Af q J6 Nc (tN h)))) λh=>tS h (gO (Be (Bi [3] [5003] q))))) λx43 h=>gA (Af q [2] [5003] (tS h (Cc bW)))))))
def Ih(a8:TGraph)(aE:TGraph):Int->Option (LR Int (Unit ⊕ Bool)):=
 λi1=>bif decide (i1<a8.Succ.length) then Az (A2 i1 a8.Succ.length) (Az (A2 i1 aE.Succ.length) ((Ba (a8.Succ.getD i1.toNat []) (aE.Succ.getD i1.toNat [])).bind λx4=>bif !x4 then some (.done (.inr false)) else some (.next (w64 (i1+1))))) else some (.done (.inl ()))
def Ii(a8:TGraph)(aE:TGraph):Int->Option (LR Int (Unit ⊕ Bool)):=
 λi7=>bif decide (i7<a8.Pred.length) then Az (A2 i7 a8.Pred.length) (Az (A2 i7 aE.Pred.length) ((Ba (a8.Pred.getD i7.toNat []) (aE.Pred.getD i7.toNat [])).bind λx10=>bif !x10 then some (.done (.inr false)) else some (.next (w64 (i7+1))))) else some (.done (.inl ()))
def R5(Γ:H3)(a8:TGraph)(aE:TGraph)(r:Bool):Exit->St->Prop:=fK Tryz.prog Γ Tryz.f149.results.toList [] (.bool r) []
def Aag(a8:TGraph)(aE:TGraph):=(((a8.Succ.length:Int)!=(aE.Succ.length:Int))==false)
def Kn(a8:TGraph)(aE:TGraph):Option Bool:=
 bif bif (a8.Succ.length:Int)!=aE.Succ.length then true else(a8.Pred.length:Int)!=aE.Pred.length then some false else(Ac   (Ih a8 aE) 0).bind λx5=>match x5 with | .inl _=>(Ac   (Ii a8 aE) 0).bind λx11=>(match x11 with | .inl _=>some true | .inr r13=>some r13) | .inr r14=>some r14
variable{v36:TGraph}
theorem Zp(h:Kn v18 v36=some v3):sP 149 [(.agg (Xg v18)),(.agg (Xg v36))] [] (.bool v3) []:=
 sG Tryz.func149 λΓ q=>Af q Cz Cz (tU q [2,3,22] Cz (wa (Aag v18 v36) (c1 (Lx ((v18.Succ.length:Int)!=(v36.Succ.length:Int))))) (gC h (λh=>Af q [4] [] (tS h (Cc []))) λh=>Af q CK Cz (tL q h CK Cz (λu i1=>(Cp u [(5,(Z5 i1))] [])) (λu x_=>match x_ with|(.inl _)=>aG Γ (.exit 0) (Nf Cz Cz u [] [])|(.inr r_)=>aR (R5 Γ v18 v36 r_)) (λi1 y h=>Af q [2,3,5,27] Cz (gC h (λh=>tC h λc2_ h=>tC h λc3_ h=>tB h λx4 y4 h=>tT q [2,3,5,41] Cz [(Z2 x4)] (c3 c2_ c3_ (Cl y4)) (gC h (λh=>Af q [4] [] (tS h (gO (Lj (H4 [] (Le.refl _ _)))))) λh=>Af q CK Cz (tN h))) λh=>tS h (gO (Be (Bi Cz Cz q))))) λx5 h=>(match x5,h with | .inl _,h=>gA (Af q [2,3,6] Cz (tL q h [2,3,6] Cz (λu i7=>(Cp u [(6,(Z5 i7))] [])) (λu x_=>match x_ with|(.inl _)=>aG Γ (.exit 2) (⟨[],[],[]⟩:St)|(.inr r_)=>aR (R5 Γ v18 v36 r_)) (λi7 y h=>Af q [2,3,6,46] Cz (gC h (λh=>tC h λc8_ h=>tC h λc9_ h=>tB h λx10 y10 h=>tT q [2,3,6,60] Cz [(Z2 x10)] (c3 c8_ c9_ (Cl y10)) (gC h (λh=>Af q [4] [] (tS h (gO (Lj (H4 [] (Le.refl _ _)))))) λh=>Af q [2,3,6] Cz (tN h))) λh=>tS h (gO (Be (Bi [] [] q))))) λx11 h=>(match x11,h with | .inl _,h=>gA (Af q [4] [] (tS h (Cc []))) | .inr r13,h=>Oz (λst' hk=>tS h (gK hk))))) | .inr r14,h=>Oz (λst' hk=>tS h (gK hk))))))
def Ln(a4:TGraph):Option Bool:=
 (H2 a4.Succ).bind λx1=>(bif (x1.2==0)==true then Kn x1.1 a4 else some false).bind λx2=>some (bif x1.2==0 then x2 else false)
theorem BI(h:Ln v18=some v3):sP 101 [(.agg (Xg v18))] [] (.bool v3) []:=
 sG Tryz.func101 λΓ q=>Af q [1] [1] (tB h λx1 y1 h=>tT q J6 L4 [(xN x1.1 x1.2)] (c1 (Re y1)) (tB h λx2 y2 h=>tT q [2] [] [(Z2 x2)] (Mr ((x1.2==0)==true) (c2 (λ(hg:((x1.2==0)==true)=true)=>(Zp (Bf hg y2))) (Nd (x1.2==0)))) (tS h (Cc []))))
def Dh(a4:TGraph)(x2:List Bool)(i4:Int)(l5:List (List Bool))(x9:List Bool):bK->Option bL:=
 λ(i10,l11)=>bif decide (i10<a4.Succ.length) then Az (A2 i4 l5.length) (Az (A2 i10 x2.length) (Az ((x2.getD i10.toNat false==true)=true->A2 i10 x9.length) (Az (A2 i10 l11.length) (some (.next (w64 (i10+1),l11.set i10.toNat (bif x2.getD i10.toNat false then !x9.getD i10.toNat false else false))))))) else some (.done l11)
def Ij(a4:TGraph)(a2:Int)(x2:List Bool):(Int×List (List Bool))->Option (LR (Int×List (List Bool)) (List (List Bool))):=
 λ(i4,l5)=>bif decide (i4<a4.Succ.length) then Az (0<=(a4.Succ.length:Int)/\a4.Succ.length<=(a4.Succ.length:Int)/\a4.Succ.length<=(room:Int)) (Az (A2 i4 l5.length) ((Db a4 a2 i4).bind λx9=>(Ac   (Dh a4 x2 i4 l5 x9) (0,List.replicate (a4.Succ.length:Int).toNat false)).bind λx17=>some (.next (w64 (i4+1),l5.set i4.toNat x17)))) else some (.done l5)
def Di(a4:TGraph)(l6:List (List Bool))(i22:Int)(i30:Int):(Bool×Int)->Option (LR (Bool×Int) Bool):=
 λ(b36,i37)=>bif decide (i37<a4.Succ.length) then Az ((b36==true&&(i37==i22)==false)=true->A2 i37 l6.length) (Az ((b36==true&&(i37==i22)==false)=true->A2 i22 (l6.getD i37.toNat []).length) (Az ((b36==true&&(bif i37==i22 then true else !(l6.getD i37.toNat []).getD i22.toNat false)==false)=true->A2 i37 l6.length) (Az ((b36==true&&(bif i37==i22 then true else !(l6.getD i37.toNat []).getD i22.toNat false)==false)=true->A2 i30 (l6.getD i37.toNat []).length) (some (.next (bif b36 then bif bif i37==i22 then true else !(l6.getD i37.toNat []).getD i22.toNat false then true else(l6.getD i37.toNat []).getD i30.toNat false else false,w64 (i37+1))))))) else some (.done b36)
def B4(a4:TGraph)(a2:Int)(l6:List (List Bool))(i22:Int):eQ->Option qf:=
 λ(i30,l31)=>bif bif decide (i30<a4.Succ.length) then i22 !=a2 else false then Option.bind  (Az (((i30==i22)==false)=true->A2 i30 l6.length) (Az (((i30==i22)==false)=true->A2 i22 (l6.getD i30.toNat []).length) (bif bif i30==i22 then true else !(l6.getD i30.toNat []).getD i22.toNat false then some l31 else(Ac   (Di a4 l6 i22 i30) (true,0)).bind λx43=>bif x43 then Az (A2 i22 l31.length) (some (l31.set i22.toNat i30)) else some l31))) λx46=>some (.next (w64 (i30+1),x46)) else some (.done l31)
def Dj(a4:TGraph)(a2:Int)(l6:List (List Bool)):eQ->Option qf:=
 λ(i22,l23)=>bif decide (i22<a4.Succ.length) then Az (A2 i22 l23.length) (Option.bind  (bif i22==a2 then Az (A2 i22 (l23.set i22.toNat (-2)).length) (some ((l23.set i22.toNat (-2)).set i22.toNat (-1))) else some (l23.set i22.toNat (-2))) λx28=>(Ac   (B4 a4 a2 l6 i22) (0,x28)).bind λx48=>some (.next (w64 (i22+1),x48))) else some (.done l23)
def P3(a4:TGraph):=(a4.Succ.length:Int)
def fD:=(λn_=>Bw n_ [37,75])
def P2(l5:List (List Bool)):=(λi=>ZK (l5.getD i []))
def OO(a4:TGraph):=(List.replicate (P3 a4).toNat false)
def bs(a4:TGraph):List AV:=[(.vsl 46 (OO a4).length)]
def m8(i30:Int)(i22:Int):=((i30==i22)==false)
def UN(l23:Aw)(i22:Int):=(l23.set i22.toNat (-2:Int))
def kY(l11:List Bool):=(λi=>eB (l11.getD i false))
def kX:=(λn_=>Bw n_ [2,35,37,46])
def OP:=(λn_=>Bw n_ [2,35,37,46,51])
def UM(a4:TGraph):=(λi=>eB ((OO a4).getD i false))
def NA(l11:List Bool)(i10:Int)(x2:List Bool)(x9:List Bool):=(l11.set i10.toNat (bif (x2.getD i10.toNat false) then(!(x9.getD i10.toNat false)) else false))
def fC(l11:List Bool)(i10:Int)(x2:List Bool)(x9:List Bool):=(λi=>eB ((NA l11 i10 x2 x9).getD i false))
def kW(b36:Bool)(i37:Int)(i22:Int):=((b36==true)&&((i37==i22)==false))
def ry:List MM:=[(4,fG)]
def xm(x1:Bool)(a2:Int):=(bif (!x1) then true else(decide (a2<0)))
def P8(a4:TGraph):List AV:=[(NO a4.Succ),(NO a4.Pred)]
def xn:=(Z33:St)
def kV(b36:Bool)(i37:Int)(i22:Int)(x19:List (List Bool)):=((b36==true)&&((bif (i37==i22) then true else(!((x19.getD i37.toNat []).getD i22.toNat false)))==false))
def fB(a2:Int)(a4:TGraph)(x2:List Bool)(l5:List (List Bool))(i4:Int):List MM:=[(1,(Z5 a2)),Uj,(5,(Z5 (P3 a4))),(6,(NN x2 35)),(Vi 37 l5.length),(8,(Z5 i4))]
def rx(a2:Int)(a4:TGraph)(x2:List Bool)(l5:List (List Bool))(i4:Int):List MM:=[(1,(Z5 a2)),Uj,(5,(Z5 (P3 a4))),(6,(NN x2 35)),(Vi 37 l5.length),(8,(.int .i64 (w64 (i4+1))))]
def rv(a2:Int)(a4:TGraph)(x2:List Bool)(l5:List (List Bool))(i4:Int)(x9:List Bool)(i10:Int):List MM:=[(1,(Z5 a2)),Uj,(5,(Z5 (P3 a4))),(6,(NN x2 35)),(Vi 37 l5.length),(8,(Z5 i4)),(9,(NN x9 51)),(10,(Z5 i10))]
def mz(a2:Int)(a4:TGraph)(x2:List Bool)(l5:List (List Bool))(i4:Int)(x9:List Bool):List MM:=[(1,(Z5 a2)),Uj,(5,(Z5 (P3 a4))),(6,(NN x2 35)),(Vi 37 l5.length),(8,(Z5 i4)),(9,(NN x9 51)),(10,L5)]
def ru(a2:Int)(a4:TGraph)(x2:List Bool)(l5:List (List Bool))(i4:Int)(x9:List Bool)(i10:Int):List MM:=[(1,(Z5 a2)),Uj,(5,(Z5 (P3 a4))),(6,(NN x2 35)),(Vi 37 l5.length),(8,(Z5 i4)),(9,(NN x9 51)),(10,(.int .i64 (w64 (i10+1))))]
def xo(a2:Int)(a4:TGraph)(x2:List Bool)(l5:List (List Bool))(i4:Int)(x9:List Bool)(i10:Int):List MM:=[(1,(Z5 a2)),Uj,(5,(Z5 (P3 a4))),(6,(NN x2 35)),(Vi 37 l5.length),(8,(Z5 i4)),(9,(NN x9 51)),(10,(Z5 i10)),(54,(.bool (decide (i10<(P3 a4)))))]
def Kp(a4:TGraph)(a2:Int):Option Aw:=
 (Ln a4).bind λx1=>bif bif bif !x1 then true else decide (a2<0) then true else decide (a4.Succ.length<=a2) then some [] else(Db a4 a2 (-1)).bind λx2=>Az (0<=(a4.Succ.length:Int)/\a4.Succ.length<=(a4.Succ.length:Int)/\a4.Succ.length<=(room:Int)) ((Ac   (Ij a4 a2 x2) (0,List.replicate (a4.Succ.length:Int).toNat [])).bind λx19=>Az (0<=(a4.Succ.length:Int)/\a4.Succ.length<=(a4.Succ.length:Int)/\(a4.Succ.length:Int)<=room) ((Ac   (Dj a4 a2 x19) (0,List.replicate (a4.Succ.length:Int).toNat 0)).bind λx50=>some x50))
theorem Zr(h:Kp v18 v1=some v2):sP 58 (rK v18 v1) [] (Vz v2 20000) [(Yp 20000 v2.length)]:=
 sG Tryz.func58 λΓ q=>have hΓ:=q.own;gR q D7 [2] ry [] (c1 (B1 1 Aq (0:Int))) (tB h λx1 y1 h=>tT q [1,2,29] [2] [(Z2 x1)] (UG (BI y1) (gI ((!x1)==false)) (Lx (!x1)) (LJ ((xm x1 v1)==false) (c1 (Lx (xm x1 v1))))) (gC h (λh=>gR q [4] [] ry [] (c1 (B1 1 Aq (0:Int))) (P6 (⟨ry,[],[]⟩:St) (tS h (gK (e:=.ret) (H4 bT (show Le Γ _ xn from Le.trans (Bi (st':=⟨ry,[],[]⟩) [4] [] q) (Le.trans (Rj (t:=4) (nm:=6004) (sz':=1) (λi=>Aq (([]:Aw).getD i 0)) 3 rfl rfl (.inl ⟨rfl,rfl⟩) (λh_=>absurd h_ (by decide))) (Bi (st':=xn) [4] [6004] q)))))))) λh=>Af q CQ [2] (tB h λx2 y2 h=>tT q [1,2,5,6] [2,35] [(xM 35 x2 x2.length)] (c1 (Me y2)) (tV q iQ KV h λh=>by exact gLe (Le.trans (Sn 37 (show ∀ k_,k_<((P3 v18).toNat)->AVleL ((λi_=>AV.eraseAll (λn_=>Bw n_ KV) ((λ_=>[Zx]) i_)) k_) ((λi=>ZK ((List.replicate (P3 v18).toNat ([]:List Bool)).getD i [])) k_) from(λk hk=>M5 (e:=ZK) (d:=[]) (.cons (λ_ _ _ _ _ hh=>AVle.untag _ _ _ _ _ (Ej _ _ _ _ _ hh)) .nil) _ k (M6 hk)))) (R8 (λ(k_:Nat) u=>(Cp u [(Vi 37 k_)] [(37,.arr 1 81 k_ (λi=>ZK ((List.replicate (P3 v18).toNat ([]:List Bool)).getD i [])))])) (show(P3 v18).toNat=(List.replicate (P3 v18).toNat ([]:List Bool)).length from(N5 ..).symm))) (Af q YO KV (tL q h YO KV (λu (i4,l5)=>(Cp u [(Vi 37 l5.length),(8,(Z5 i4))] [(37,.arr 1 81 l5.length (P2 l5))])) (λu l6=>aG Γ (.exit 0) (Nf [1,5,7] [37] u [(Vi 37 l6.length)] [(37,.arr 1 81 l6.length (λi=>ZK (l6.getD i [])))])) (λ⟨i4,l5⟩ y h=>Af q [1,2,5,6,7,8,40] KV (gC h (λh=>tC h λc7_ h=>tC h λc8_ h=>tU q YO iW (c3 c7_ c8_ (Eq.refl l5.length)) (P6 (⟨(fB v1 v18 x2 l5 i4),[(Pp 56 (P8 v18)),(Q6 35 x2.length),(37,.arr 1 81 l5.length (λi_=>AV.eraseAll kX ((Fd (P2 l5) i4.toNat 0 [(.vsl 46 (P3 v18).toNat)]) i_))),(46,.arr 1 4 ((P3 v18).toNat) (λi_=>AV.eraseAll kX ((λ_=>[(.bool false)]) i_)))],[]⟩:St) (by exact gLe (Le.trans (Le.trans (I6 (st':=⟨(fB v1 v18 x2 l5 i4),[(Pp 56 (P8 v18)),(Q6 35 x2.length),(37,.arr 1 81 l5.length (λi_=>AV.eraseAll kX ((Fd (P2 l5) i4.toNat 0 [(.vsl 46 (P3 v18).toNat)]) i_))),(46,.arr 1 4 ((P3 v18).toNat) (UM v18))],[]⟩) (TmpsLe.refl _) (.same (.same (.same (.arr (λk hk=>M5 (e:=eB) (d:=false) (.cons (AVle.refl _) .nil) _ k (M6 hk)) .nil))))) (Gs (Bj (λk_:Nat=>(⟨(fB v1 v18 x2 l5 i4),[(Pp 56 (P8 v18)),(Q6 35 x2.length),(vt l5.length kX (P2 l5) i4.toNat k_),(46,.arr 1 4 k_ (UM v18))],[]⟩:St)) (show(P3 v18).toNat=(OO v18).length from(N5 ..).symm)))) (I6 (st':=⟨(fB v1 v18 x2 l5 i4),[(Pp 56 (P8 v18)),(Q6 35 x2.length),(37,.arr 1 81 l5.length (Fd (P2 l5) i4.toNat 0 (bs v18))),(46,.arr 1 4 ((OO v18).length) (UM v18))],[]⟩) (TmpsLe.refl _) (.same (.same (.arr (Ms (λ_=>rfl) rfl) (.same .nil)))))) (tB h λx9 y9 h=>tT q [1,2,5,6,7,8,9] UA [(xM 51 x9 x9.length)] (c1 (Me y9)) (P6 (⟨[(1,(Z5 v1)),Uj,(5,(Z5 (P3 v18))),(6,(NN x2 35)),(Vi 37 l5.length),(8,(Z5 i4)),(9,(NN x9 51))],[(Pp 56 (P8 v18)),(Q6 35 x2.length),(37,.arr 1 81 l5.length (λi_=>AV.eraseAll OP ((Fd (P2 l5) i4.toNat 0 (bs v18)) i_))),(46,.arr 1 4 ((OO v18).length) (UM v18)),(Q6 51 x9.length)],[]⟩:St) (gLe (I6 (st':=⟨[(1,(Z5 v1)),Uj,(5,(Z5 (P3 v18))),(6,(NN x2 35)),(Vi 37 l5.length),(8,(Z5 i4)),(9,(NN x9 51))],[(Pp 56 (P8 v18)),(Q6 35 x2.length),(37,.arr 1 81 l5.length (Fd (P2 l5) i4.toNat 0 (bs v18))),(46,.arr 1 4 ((OO v18).length) (UM v18)),(Q6 51 x9.length)],[]⟩) (TmpsLe.refl _) (.same (.same (.arr (Ms (λ_=>rfl) rfl) (.same (.same .nil)))))) (Af q eU UA (P6 (⟨(mz v1 v18 x2 l5 i4 x9),[(Pp 56 (P8 v18)),(Q6 35 x2.length),(37,.arr 1 81 l5.length (λi_=>AV.eraseAll OP ((Fd (P2 l5) i4.toNat 0 (bs v18)) i_))),(46,.arr 1 4 ((OO v18).length) (UM v18)),(Q6 51 x9.length)],[]⟩:St) (gLe (I6 (st':=⟨(mz v1 v18 x2 l5 i4 x9),[(Pp 56 (P8 v18)),(Q6 35 x2.length),(37,.arr 1 81 l5.length (Fd (P2 l5) i4.toNat 0 (bs v18))),(46,.arr 1 4 ((OO v18).length) (UM v18)),(Q6 51 x9.length)],[]⟩) (TmpsLe.refl _) (.same (.same (.arr (Ms (λ_=>rfl) rfl) (.same (.same .nil)))))) (gLe (st':=⟨(mz v1 v18 x2 l5 i4 x9),[(Pp 56 (P8 v18)),(Q6 35 x2.length),(37,.arr 1 81 l5.length (Fd (P2 l5) i4.toNat 0 (bs v18))),(46,.arr 1 4 ((OO v18).length) (UM v18)),(Q6 51 x9.length)],[]⟩) (Le.trans (Le.trans (Bi (st':=⟨(mz v1 v18 x2 l5 i4 x9),[(Pp 56 (P8 v18)),(Q6 35 x2.length),(37,.arr 1 81 l5.length (λi_=>AV.eraseAll OP ((Fd (P2 l5) i4.toNat 0 (bs v18)) i_))),(46,.arr 1 4 ((OO v18).length) (UM v18)),(Q6 51 x9.length)],[]⟩) eU UA q) (I6 (st':=⟨(mz v1 v18 x2 l5 i4 x9),[(Pp 56 (P8 v18)),(Q6 35 x2.length),(37,.arr 1 81 l5.length (Fd (P2 l5) i4.toNat 0 (bs v18))),(46,.arr 1 4 ((OO v18).length) (UM v18)),(Q6 51 x9.length)],[]⟩) (TmpsLe.refl _) (.same (.same (.arr (Ms (λ_=>rfl) rfl) (.same (.same .nil))))))) (Gs (by kernel_rfl))) (tB h λx17 y17 h=>gL0 y17 (λu (i10,l11)=>(Cp u [(10,(Z5 i10))] [(yc l5.length (P2 l5) i4.toNat l11.length),(46,.arr 1 4 l11.length (kY l11))])) (λu l12=>aG Γ (.exit 2) (⟨(fB v1 v18 x2 l5 i4),[(Pp 56 (P8 v18)),(Q6 35 x2.length),(yc l5.length (P2 l5) i4.toNat l12.length),(Z9 46 l12)],[]⟩:St)) (λ⟨i10,l11⟩ y h=>Af q [1,2,5,6,7,8,9,10,54] UA (P6 (⟨(xo v1 v18 x2 l5 i4 x9 i10),[(Pp 56 (P8 v18)),(Q6 35 x2.length),(vt l5.length OP (P2 l5) i4.toNat l11.length),(46,.arr 1 4 l11.length (kY l11)),(Q6 51 x9.length)],[]⟩:St) (gLe (I6 (st':=⟨(xo v1 v18 x2 l5 i4 x9 i10),[(Pp 56 (P8 v18)),(Q6 35 x2.length),(yc l5.length (P2 l5) i4.toNat l11.length),(46,.arr 1 4 l11.length (kY l11)),(Q6 51 x9.length)],[]⟩) (TmpsLe.refl _) (.same (.same (.arr (Ms (λ_=>rfl) rfl) (.same (.same .nil)))))) (gC h (λh=>tC h λc13_ h=>tC h λc14_ h=>tC h λc15_ h=>tC h λc16_ h=>gR q eU UA [(60,(.vsl 46 l11.length))] [] (d4_ c13_ (Eq.refl l5.length) (show(AVle (((Fd (P2 l5) i4.toNat 0 [(.vsl 46 l11.length)]) i4.toNat).getD 0 .any) (.vsl 46 l11.length)) from lP) c14_ (Mr ((x2.getD i10.toNat false)==true) (ci c15_ (Mr ((x2.getD i10.toNat false)==true) (c3 (Nd (x2.getD i10.toNat false)) c16_ (Eq.refl l11.length)))))) (P6 (⟨(rv v1 v18 x2 l5 i4 x9 i10),[(Pp 56 (P8 v18)),(Q6 35 x2.length),(vt l5.length OP (P2 l5) i4.toNat l11.length),(46,.arr 1 4 l11.length (λi_=>AV.eraseAll OP ((Fd (kY l11) i10.toNat 0 [(.bool (bif (x2.getD i10.toNat false) then(!(x9.getD i10.toNat false)) else false))]) i_))),(Q6 51 x9.length)],[]⟩:St) (gLe (Le.trans (Le.trans (I6 (st':=⟨(rv v1 v18 x2 l5 i4 x9 i10),[(Pp 56 (P8 v18)),(Q6 35 x2.length),(vt l5.length OP (P2 l5) i4.toNat l11.length),(46,.arr 1 4 l11.length (fC l11 i10 x2 x9)),(Q6 51 x9.length)],[]⟩) (TmpsLe.refl _) (.same (.same (.same (.arr (Bh (Dc ..).symm (λk_ hk_=>(Bj (AV.eraseAll OP) ((Fv (λ_ _=>rfl) (Hv c16_) rfl) k_ hk_)).trans rfl)) (.same .nil)))))) (Gs (Bj (λk_:Nat=>(⟨(rv v1 v18 x2 l5 i4 x9 i10),[(Pp 56 (P8 v18)),(Q6 35 x2.length),(vt l5.length OP (P2 l5) i4.toNat k_),(46,.arr 1 4 k_ (fC l11 i10 x2 x9)),(Q6 51 x9.length)],[]⟩:St)) (show l11.length=(NA l11 i10 x2 x9).length from(Dc ..).symm)))) (I6 (st':=⟨(rv v1 v18 x2 l5 i4 x9 i10),[(Pp 56 (P8 v18)),(Q6 35 x2.length),(37,.arr 1 81 l5.length (Fd (P2 l5) i4.toNat 0 [(.vsl 46 (NA l11 i10 x2 x9).length)])),(46,.arr 1 4 ((NA l11 i10 x2 x9).length) (fC l11 i10 x2 x9)),(Q6 51 x9.length)],[]⟩) (TmpsLe.refl _) (.same (.same (.arr (Ms (λ_=>rfl) rfl) (.same (.same .nil))))))) (Af q eU UA (P6 (⟨(ru v1 v18 x2 l5 i4 x9 i10),[(Pp 56 (P8 v18)),(Q6 35 x2.length),(37,.arr 1 81 l5.length (λi_=>AV.eraseAll OP ((Fd (P2 l5) i4.toNat 0 [(.vsl 46 (NA l11 i10 x2 x9).length)]) i_))),(46,.arr 1 4 ((NA l11 i10 x2 x9).length) (fC l11 i10 x2 x9)),(Q6 51 x9.length)],[]⟩:St) (tS h (gN (Le.trans (I6 (st':=⟨(ru v1 v18 x2 l5 i4 x9 i10),[(Pp 56 (P8 v18)),(Q6 35 x2.length),(37,.arr 1 81 l5.length (Fd (P2 l5) i4.toNat 0 [(.vsl 46 (NA l11 i10 x2 x9).length)])),(46,.arr 1 4 ((NA l11 i10 x2 x9).length) (fC l11 i10 x2 x9)),(Q6 51 x9.length)],[]⟩) (TmpsLe.refl _) (.same (.same (.arr (Ms (λ_=>rfl) rfl) (.same (.same .nil)))))) (Le.trans (Le.trans (Bi (st':=⟨(ru v1 v18 x2 l5 i4 x9 i10),[(Pp 56 (P8 v18)),(Q6 35 x2.length),(37,.arr 1 81 l5.length (λi_=>AV.eraseAll OP ((Fd (P2 l5) i4.toNat 0 [(.vsl 46 (NA l11 i10 x2 x9).length)]) i_))),(46,.arr 1 4 ((NA l11 i10 x2 x9).length) (fC l11 i10 x2 x9)),(Q6 51 x9.length)],[]⟩) eU UA q) (I6 (st':=⟨(ru v1 v18 x2 l5 i4 x9 i10),[(Pp 56 (P8 v18)),(Q6 35 x2.length),(37,.arr 1 81 l5.length (Fd (P2 l5) i4.toNat 0 [(.vsl 46 (NA l11 i10 x2 x9).length)])),(46,.arr 1 4 ((NA l11 i10 x2 x9).length) (fC l11 i10 x2 x9)),(Q6 51 x9.length)],[]⟩) (TmpsLe.refl _) (.same (.same (.arr (Ms (λ_=>rfl) rfl) (.same (.same .nil))))))) (Gs (by kernel_rfl))))))))))) λh=>tS h (gO (Be (Le.trans (Le.trans (Bi (st':=⟨(fB v1 v18 x2 l5 i4),[(Pp 56 (P8 v18)),(Q6 35 x2.length),(vt l5.length kX (P2 l5) i4.toNat l11.length),(46,.arr 1 4 l11.length (kY l11))],[]⟩) YO iW q) (I6 (st':=⟨(fB v1 v18 x2 l5 i4),[(Pp 56 (P8 v18)),(Q6 35 x2.length),(yc l5.length (P2 l5) i4.toNat l11.length),(46,.arr 1 4 l11.length (kY l11))],[]⟩) (TmpsLe.refl _) (.same (.same (.arr (Ms (λ_=>rfl) rfl) (.same .nil)))))) (Gs (by kernel_rfl))))))))) (gA (Af q YO iW (P6 (⟨(rx v1 v18 x2 l5 i4),[(Pp 56 (P8 v18)),(Q6 35 x2.length),(vt l5.length kX (P2 l5) i4.toNat x17.length),(Z9 46 x17)],[]⟩:St) (tS h (gN (Le.trans (Le.trans (I6 (st':=⟨(rx v1 v18 x2 l5 i4),[(Pp 56 (P8 v18)),(Q6 35 x2.length),(yc l5.length (P2 l5) i4.toNat x17.length),(Z9 46 x17)],[]⟩) (TmpsLe.refl _) (.same (.same (.arr (Ms (λ_=>rfl) rfl) (.same .nil))))) (Le.trans (Le.trans (Le.trans (le_freeze (nm:=46) (sz:=1) (n:=x17.length) (e:=4) (f:=(λi=>eB (x17.getD i false))) (g:=(λi=>eB (x17.getD i false))) rfl trivial (λ_ _=>rfl) (by rw[hΓ];rfl)) (Gs (st':=⟨(rx v1 v18 x2 l5 i4),[(Pp 56 (P8 v18)),(Q6 35 x2.length),(37,.arr 1 81 l5.length (λi_=>AV.frwAll 46 1 x17.length (λi=>eB (x17.getD i false)) ((Fd (P2 l5) i4.toNat 0 [(.vsl 46 x17.length)]) i_))),(Q6 46 x17.length)],[]⟩) (by kernel_rfl))) (I6 (st':=⟨(rx v1 v18 x2 l5 i4),[(Pp 56 (P8 v18)),(Q6 35 x2.length),(37,.arr 1 81 l5.length (λi=>ZK ((l5.set i4.toNat x17).getD i []))),(Q6 46 x17.length)],[]⟩) (TmpsLe.refl _) (.same (.same (.arr (pJ (λ_=>rfl) (λ_=>rfl) rfl) (.same .nil)))))) (Gs (Bj (λk_:Nat=>(⟨[(1,(Z5 v1)),Uj,(5,(Z5 (P3 v18))),(6,(NN x2 35)),(Vi 37 k_),(8,(.int .i64 (w64 (i4+1))))],[(Pp 56 (P8 v18)),(Q6 35 x2.length),(37,.arr 1 81 k_ (λi=>ZK ((l5.set i4.toNat x17).getD i []))),(Q6 46 x17.length)],[]⟩:St)) (show l5.length=(l5.set i4.toNat x17).length from(Dc ..).symm))))) (Bi YO KV q)))))))))))))))))) λh=>tS h (gO (Be (Bi [1,5,7] [37] q))))) λx19 h=>gA (tV q [1,5,7,11] Lg h λh=>by exact gLe (Le.trans (Sn 75 (show ∀ k_,k_<((P3 v18).toNat)->AVleL ((λi_=>AV.eraseAll fD ((λ_=>[L5]) i_)) k_) ((λi=>Aq ((List.replicate (P3 v18).toNat (0:Int)).getD i 0)) k_) from(λk hk=>M5 (e:=Aq) (d:=(0:Int)) (.cons (AVle.refl _) .nil) _ k (M6 hk)))) (R8 (λ(k_:Nat) u=>(Cp u [(11,(.vsl 75 k_))] [(75,.arr 1 3 k_ (λi=>Aq ((List.replicate (P3 v18).toNat (0:Int)).getD i 0)))])) (show(P3 v18).toNat=(List.replicate (P3 v18).toNat (0:Int)).length from(N5 ..).symm))) (Af q MT Lg (tL q h MT Lg (λu (i22,l23)=>(Cp u [(11,(.vsl 75 l23.length)),(12,(Z5 i22))] [(Z4 75 l23)])) (λu l24=>aG Γ (.exit 4) (⟨[(11,(.vsl 75 l24.length))],[(Z4 75 l24)],[]⟩:St)) (λ⟨i22,l23⟩ y h=>Af q [1,5,7,11,12,78] Lg (gC h (λh=>tC h λc25_ h=>tU q MT Lg (c2 c25_ (Eq.refl l23.length)) (gLe (Le.trans (Sn 75 (show ∀ k_,k_<l23.length->AVleL ((λi_=>AV.eraseAll fD ((Fd (λi=>Aq (l23.getD i 0)) i22.toNat 0 [(.int .i64 (-2:Int))]) i_)) k_) ((λi=>Aq ((UN l23 i22).getD i 0)) k_) from(Bh (Dc ..).symm (λk_ hk_=>(Bj (AV.eraseAll fD) ((Fv (λ_ _=>rfl) (Hv c25_) rfl) k_ hk_)).trans rfl)))) (R8 (λ(k_:Nat) u=>(Cp u [(11,(.vsl 75 k_))] [(75,.arr 1 3 k_ (λi=>Aq ((UN l23 i22).getD i 0)))])) (show l23.length=(UN l23 i22).length from(Dc ..).symm))) (tB h λx28 y28 h=>gJ y28 (λl26=>aG Γ .normal (⟨[(1,(Z5 v1)),(5,(Z5 (P3 v18))),(Vi 37 x19.length),(11,(.vsl 75 l26.length)),(12,(Z5 i22))],[(37,.arr 1 81 x19.length (λi=>ZK (x19.getD i []))),(Z4 75 l26)],[]⟩:St)) (λy h=>Af q [1,5,7,11,12,86] Lg (gC h (λh=>tC h λc27_ h=>tU q MT Lg (c2 c27_ (Eq.refl ((UN l23 i22).length))) (tS h (gK (Be (Le.trans (Le.trans (Sn 75 (show ∀ k_,k_<((UN l23 i22).length)->AVleL ((λi_=>AV.eraseAll fD ((Fd (λi=>Aq ((UN l23 i22).getD i 0)) i22.toNat 0 [(.int .i64 (-1:Int))]) i_)) k_) ((λi=>Aq (((UN l23 i22).set i22.toNat (-1:Int)).getD i 0)) k_) from(Bh (Dc ..).symm (λk_ hk_=>(Bj (AV.eraseAll fD) ((Fv (λ_ _=>rfl) (Hv c27_) rfl) k_ hk_)).trans rfl)))) (R8 (λ(k_:Nat) u=>(Cp u [(11,(.vsl 75 k_))] [(75,.arr 1 3 k_ (λi=>Aq (((UN l23 i22).set i22.toNat (-1:Int)).getD i 0)))])) (show(UN l23 i22).length=((UN l23 i22).set i22.toNat (-1:Int)).length from(Dc ..).symm))) Io))))) λh=>tS h (gK (Be (Bi MT Lg q))))) (gA (Af q YL Lg (tL q h YL Lg (λu (i30,l31)=>(Cp u [(11,(.vsl 75 l31.length)),(13,(Z5 i30))] [(Z4 75 l31)])) (λu l32=>aG Γ (.exit 6) (Nf MT Lg u [(11,(.vsl 75 l32.length))] [(Z4 75 l32)])) (λ⟨i30,l31⟩ y h=>tU q [1,5,7,11,12,13,97] Lg (Mr ((decide (i30<(P3 v18)))==true) (c1 (Nd (decide (i30<(P3 v18)))))) (gC h (λh=>tB h λx46 y46 h=>gJ y46 (λl33=>aG Γ .normal (⟨[(1,(Z5 v1)),(5,(Z5 (P3 v18))),(Vi 37 x19.length),(11,(.vsl 75 l33.length)),(12,(Z5 i22)),(13,(Z5 i30))],[(37,.arr 1 81 x19.length (λi=>ZK (x19.getD i []))),(Z4 75 l33)],[]⟩:St)) (λy h=>tC h λc34_ h=>tC h λc35_ h=>tU q [1,5,7,11,12,13,112] Lg (Mr (m8 i30 i22) (UG c34_ (gI (m8 i30 i22)) (show((m8 i30 i22)=true->(x19.length=x19.length)) from(λhg=>rfl)) (Mr (m8 i30 i22) (ci c35_ (Mr (m8 i30 i22) (c1 (Lx (i30==i22)))))))) (gC h (λh=>tS h (gK (Be (Bi YL Lg q)))) λh=>tW q iA Lg kJ Lg (tL q h kJ Lg (λu (b36,i37)=>(Cp u [(14,(.bool b36)),(15,(Z5 i37))] [])) (λu b38=>aG Γ (.exit 8) (Nf iA Lg u [(14,(.bool b38))] [])) (λ⟨b36,i37⟩ y h=>Af q [1,5,7,11,12,13,14,15,115] Lg (gC h (λh=>tC h λc39_ h=>tC h λc40_ h=>tC h λc41_ h=>tC h λc42_ h=>tU q kJ Lg (Yt (b36==true) (Mr (kW b36 i37 i22) (UG c39_ (gI (kW b36 i37 i22)) (show((kW b36 i37 i22)=true->(x19.length=x19.length)) from(λhg=>rfl)) (Mr (kW b36 i37 i22) (ci c40_ (Mr (kW b36 i37 i22) (UG (gI (b36==true)) (show((b36==true)=true->((i37==i22)=false->(kW b36 i37 i22)=true)) from(λhg=>(aF hg))) (gI (b36==true)) (Mr (kV b36 i37 i22 x19) (UG c41_ (gI (kV b36 i37 i22 x19)) (show((kV b36 i37 i22 x19)=true->(x19.length=x19.length)) from(λhg=>rfl)) (Mr (kV b36 i37 i22 x19) (c5 c42_ (gI (kV b36 i37 i22 x19)) (gI (b36==true)) (show((b36==true)=true->((bif (i37==i22) then true else(!((x19.getD i37.toNat []).getD i22.toNat false)))=false->(kV b36 i37 i22 x19)=true)) from(λhg=>(aF hg))) (Nd b36)))))))))))) (Af q kJ Lg (tN h))) λh=>tS h (gO (Be (Bi iA Lg q))))) λx43 h=>gA (Af q [1,5,7,11,12,13,143] Lg (gC h (λh=>tC h λc45_ h=>tU q YL Lg (c2 c45_ (Eq.refl l31.length)) (tS h (gK (Be (Le.trans (Le.trans (Sn 75 (show ∀ k_,k_<l31.length->AVleL ((λi_=>AV.eraseAll fD ((Fd (λi=>Aq (l31.getD i 0)) i22.toNat 0 [(Z5 i30)]) i_)) k_) ((λi=>Aq ((l31.set i22.toNat i30).getD i 0)) k_) from(Bh (Dc ..).symm (λk_ hk_=>(Bj (AV.eraseAll fD) ((Fv (λ_ _=>rfl) (Hv c45_) rfl) k_ hk_)).trans rfl)))) (R8 (λ(k_:Nat) u=>(Cp u [(11,(.vsl 75 k_))] [(75,.arr 1 3 k_ (λi=>Aq ((l31.set i22.toNat i30).getD i 0)))])) (show l31.length=(l31.set i22.toNat i30).length from(Dc ..).symm))) Io))))) λh=>tS h (gK (Be (Bi YL Lg q)))))))) (gA (Af q YL Lg (tN h)))) λh=>tS h (gO (Be (Bi MT Lg q))))) λx48 h=>gA (Af q MT Lg (tN h)))))))) λh=>tS h (gO (Be (Bi [11] [75] q))))) λx50 h=>gA (Af q [4] [75] (P6 (⟨[(4,(.vsl 75 x50.length))],[(Z4 75 x50)],[]⟩:St) (tS h (gK (e:=.ret) (H4 [(75,20000)] (Le.trans (le_freeze (nm:=75) (sz:=1) (n:=x50.length) (e:=3) (f:=(λi=>Aq (x50.getD i 0))) (g:=(λi=>Aq (x50.getD i 0))) rfl ⟨rfl,trivial⟩ (λ_ _=>rfl) (by rw[hΓ];rfl)) (Gs (st':=⟨[(4,(Vz x50 75))],[(Yp 75 x50.length)],[]⟩) (by kernel_rfl)))))))))))))))))
def Cm(a9:Aw):eQ->Option (LR (Int×Aw) (Unit ⊕ Aw)):=
 λ(i1,l2)=>bif bif bif decide ((l2.length:Int)<a9.length) then decide (0<=i1) else false then decide (i1<a9.length) else false then Az (l2.length+[i1].length<=room) (Az (A2 i1 a9.length) (bif a9.getD i1.toNat 0==-1 then some (.done (.inr (l2++[i1]))) else Az (A2 i1 a9.length) (some (.next (a9.getD i1.toNat 0,l2++[i1]))))) else some (.done (.inl ()))
def AE(Γ:H3)(a9:Aw)(a8:Int)(r:Aw):Exit->St->Prop:=fK Tryz.prog Γ Tryz.f103.results.toList [] (Vz r 20000) [(Yp 20000 r.length)]
def kZ:AV:=fG
def xp(l2:Aw)(a9:Aw)(i1:Int):=(bif (decide ((l2.length:Int)<(a9.length:Int))) then(decide ((0:Int)<=i1)) else false)
def xr:=(Z33:St)
def xq(a9:Aw)(a8:Int):=(⟨[(0,(Z6 a9)),(1,(Z5 a8)),(5,(Z96 5005))],[(5005,.tok 1 3 (([]:Aw).length))],[]⟩:St)
def Ge(a9:Aw)(a8:Int):Option Aw:=
 (Ac   (Cm a9) (a8,[])).bind λx6=>match x6 with | .inl _=>some [] | .inr r8=>some r8
variable{v17:Aw}
theorem My(h:Ge v2 v1=some v17):sP 103 [(Z6 v2),(Z5 v1)] [] (Vz v17 20000) [(Yp 20000 v17.length)]:=
 sG Tryz.func103 λΓ q=>gR q Gn [] [(4,kZ)] [] (c1 (B1 1 Aq (0:Int))) (gR q Nb [] [(5,kZ)] [] (c1 (B1 1 Aq (0:Int))) (gLe (st':=(xq v2 v1)) (Le.trans (Bi (st':=⟨[(0,(Z6 v2)),(1,(Z5 v1)),(5,kZ)],[],[]⟩) Nb [] q) (Le.trans (Rj (t:=5) (nm:=5005) (sz':=1) (λi=>Aq (([]:Aw).getD i 0)) 3 rfl rfl (.inl ⟨rfl,rfl⟩) (λh_=>absurd h_ (by decide))) (Bi (st':=(xq v2 v1)) Nb [5005] q))) (tL q h Nb [5005] (λu (i1,l2)=>(Cp u [(1,(Z5 i1)),(5,(Vz l2 5005))] [(Yp 5005 l2.length)])) (λu x_=>match x_ with|(.inl _)=>aG Γ (.exit 0) (⟨[],[],[]⟩:St)|(.inr r_)=>aR (AE Γ v2 v1 r_)) (λ⟨i1,l2⟩ y h=>tU q [0,1,5,20] [5005] (fb (gI ((decide ((l2.length:Int)<(v2.length:Int)))==true)) (Nd (decide ((l2.length:Int)<(v2.length:Int)))) (Yt ((xp l2 v2 i1)==true) (c1 (Nd (xp l2 v2 i1))))) (gC h (λh=>tC h λc3_ h=>gR q Nb [5005] (vr 23 i1 24 l2 5005) [] (c5 (Br 1 Aq (0:Int) ([i1]:Aw)) (Eq.refl l2.length) c3_ (Ix 1 5005 Aq (0:Int) l2 ([i1]:Aw)) (E2 l2 ([i1]:Aw))) (tV q [0,1,5,29] [5005] h λh=>gC h (λh=>Af q [4] [5005] (tS h (gO (Lj (H4 [(5005,20000)] (Le.refl _ _)))))) λh=>tV q Nb [5005] h λh=>tN h)) λh=>tS h (gO (Be (Bi [] [] q))))) λx6 h=>(match x6,h with | .inl _,h=>gA (gR q [4] [] [(4,kZ)] [] (c1 (B1 1 Aq (0:Int))) (P6 (⟨[(4,kZ)],[],[]⟩:St) (tS h (gK (e:=.ret) (H4 bT (show Le Γ _ xr from Le.trans (Bi (st':=⟨[(4,kZ)],[],[]⟩) [4] [] q) (Le.trans (Rj (t:=4) (nm:=6004) (sz':=1) (λi=>Aq (([]:Aw).getD i 0)) 3 rfl rfl (.inl ⟨rfl,rfl⟩) (λh_=>absurd h_ (by decide))) (Bi (st':=xr) [4] [6004] q)))))))) | .inr r8,h=>Oz (λst' hk=>tS h (gK hk))))))
def Bx(a9:Aw):J5->Option (LR (Int×Int) (Int ⊕ Bool)):=
 λ(i1,i2)=>bif decide (i2<a9.length) then Option.bind  (Az (A2 i2 a9.length) (bif a9.getD i2.toNat 0==-1 then some (w64 (i1+1)) else some i1)) λx6=>Az (A2 i2 a9.length) ((bif (a9.getD i2.toNat 0 !=-2)==true then Ge a9 i2 else some []).bind λx9=>bif bif a9.getD i2.toNat 0 !=-2 then(x9.length:Int)==0 else false then some (.done (.inr false)) else some (.next (x6,w64 (i2+1)))) else some (.done (.inl i1))
def Zd(Γ:H3)(a9:Aw)(r:Bool):Exit->St->Prop:=fK Tryz.prog Γ Tryz.f102.results.toList [] (.bool r) []
def rz(a9:Aw)(i2:Int):=((a9.getD i2.toNat 0)!=-2)
def Jx(a9:Aw):Option Bool:=
 (Ac   (Bx a9) (0,0)).bind λx10=>match x10 with | .inl i3=>some (i3==1) | .inr r12=>some r12
theorem X6(h:Jx v2=some v3):sP 102 [(Z6 v2)] [] (.bool v3) []:=
 sG Tryz.func102 λΓ q=>tW q [0] [] Rh [] (Af q S6 [] (tL q h S6 [] (λu (i1,i2)=>(Cp u [(3,(Z5 i1)),(4,(Z5 i2))] [])) (λu x_=>match x_ with|(.inl i3)=>aG Γ (.exit 0) (⟨[(3,(Z5 i3))],[],[]⟩:St)|(.inr r_)=>aR (Zd Γ v2 r_)) (λ⟨i1,i2⟩ y h=>Af q [0,3,4,8] [] (gC h (λh=>tB h λx6 y6 h=>gJ y6 (λi4=>aG Γ .normal (⟨[(0,(Z6 v2)),(3,(Z5 i4)),(4,(Z5 i2))],[],[]⟩:St)) (λy h=>tV q [0,3,4,15] [] h λh=>gC h (λh=>Af q S6 [] (tS h (gK (Be Io)))) λh=>tS h (gK (Be (Bi S6 [] q)))) (gA (tC h λc8_ h=>tB h λx9 y9 h=>tT q [0,3,4,29] [] [⟨[],[],(Z6 x9),[],[],[]⟩] (ci c8_ (Mr ((rz v2 i2)==true) (ci (show(((rz v2 i2)==true)=true->(sP 103 [(Z6 v2),(Z5 i2)] [] (Z6 x9) [])) from(λhg=>(Spec.drop (My (Bf hg y9))))) (Mr ((rz v2 i2)==true) (c1 (Nd (rz v2 i2))))))) (gC h (λh=>Af q [2] [] (tS h (gO (Lj (H4 [] (Le.refl _ _)))))) λh=>Af q S6 [] (tN h))))) λh=>tS h (gO (Be (Bi [3] [] q))))) λx10 h=>(match x10,h with | .inl i3,h=>gA (Af q [2] [] (tS h (Cc []))) | .inr r12,h=>Oz (λst' hk=>tS h (gK hk)))))
def Eh(x2:Aw)(x3:Aw):Int->Option (LR Int (Unit ⊕ Int)):=
 λi4=>bif decide (i4<x2.length) then Az (A2 i4 x2.length) ((G9 x3 (x2.getD i4.toNat 0)).bind λx6=>bif x6 then Az (A2 i4 x2.length) (some (.done (.inr (x2.getD i4.toNat 0)))) else some (.next (w64 (i4+1)))) else some (.done (.inl ()))
def AD(Γ:H3)(a9:Aw)(a8:Int)(aE:Int)(r:Int):Exit->St->Prop:=fK Tryz.prog Γ Tryz.f59.results.toList [] (.int .i64 r) []
def Ko(a9:Aw)(a8:Int)(aE:Int):Option Int:=
 (Jx a9).bind λx1=>bif !x1 then some (-2) else(Ge a9 a8).bind λx2=>(Ge a9 aE).bind λx3=>(Ac   (Eh x2 x3) 0).bind λx8=>match x8 with | .inl _=>some (-2) | .inr r10=>some r10
theorem Zq(h:Ko v2 v1 v11=some v20):sP 59 [(Z6 v2),(Z5 v1),(Z5 v11)] [] (.int .i64 v20) []:=
 sG Tryz.func59 λΓ q=>Af q TT [] (tB h λx1 y1 h=>tT q [0,1,2,12] [] [(Z2 x1)] (c1 (X6 y1)) (gC h (λh=>Af q [6] [] (tS h (Cc []))) λh=>tB h λx2 y2 h=>tT q TU [15] [(xK 15 x2 x2.length)] (c1 (My y2)) (tB h λx3 y3 h=>tT q [7,8] KZ [(xK 18 x3 x3.length)] (c1 (My y3)) (Af q [7,8,9] KZ (tL q h [7,8,9] KZ (λu i4=>(Cp u [(9,(Z5 i4))] [])) (λu x_=>match x_ with|(.inl _)=>aG Γ (.exit 0) (⟨[],[],[]⟩:St)|(.inr r_)=>aR (AD Γ v2 v1 v11 r_)) (λi4 y h=>Af q [7,8,9,22] KZ (gC h (λh=>tC h λc5_ h=>tB h λx6 y6 h=>tT q [7,8,9,30] KZ [(Z2 x6)] (c2 c5_ (Nv y6)) (gC h (λh=>tV q [6] [] h λh=>tS h (gO (Lj (H4 [] (Le.refl _ _))))) λh=>Af q [7,8,9] KZ (tN h))) λh=>tS h (gO (Be (Bi [] [] q))))) λx8 h=>(match x8,h with | .inl _,h=>gA (Af q [6] [] (tS h (Cc []))) | .inr r10,h=>Oz (λst' hk=>tS h (gK hk))))))))
def Fn(x4:List Cg):Int->Option (LR Int (Unit ⊕ Int)):=
 λi5=>bif decide (i5<x4.length) then Az (A2 i5 x4.length) ((Fj (x4.getD i5.toNat default).V).bind λx7=>Az (((!x7)==false)=true->A2 i5 x4.length) ((bif (!x7)==false then Ex x4 (x4.getD i5.toNat default).V else some 0).bind λx9=>bif bif !x7 then true else x9 !=i5 then some (.done (.inr 7)) else some (.next (w64 (i5+1))))) else some (.done (.inl ()))
def D3(x4:List Cg)(x12:List D2):Int->Option (LR Int (Unit ⊕ Int)):=
 λi13=>bif decide (i13<x12.length) then Az (A2 i13 x12.length) ((Ex x4 (x12.getD i13.toNat default).V).bind λx15=>bif decide (x15<0) then some (.done (.inr 7)) else some (.next (w64 (i13+1)))) else some (.done (.inl ()))
def D4(x4:List Cg)(x12:List D2):Int->Option (LR Int (Unit ⊕ Int)):=
 λi18=>bif decide (i18<x12.length) then Az (A2 i18 x12.length) ((Ex x4 (x12.getD i18.toNat default).V).bind λx20=>Az (A2 x20 x4.length) (Az (A2 i18 x12.length) (bif !((x4.getD x20.toNat default).Shape.1==(x12.getD i18.toNat default).Shape.1&&((x4.getD x20.toNat default).Shape.2==(x12.getD i18.toNat default).Shape.2&&true)) then some (.done (.inr 6)) else some (.next (w64 (i18+1)))))) else some (.done (.inl ()))
def C4(x4:List Cg)(x12:List D2)(x26:Aw):Int->Option (LR Int (Unit ⊕ Int)):=
 λi27=>bif decide (i27<x12.length) then Option.bind (α:=Unit ⊕ Int) (Az (A2 i27 x12.length) ((Ex x4 (x12.getD i27.toNat default).V).bind λx29=>Az (A2 x29 x4.length) (bif bif decide ((x4.getD x29.toNat default).Block<0) then true else bif (x4.getD x29.toNat default).Block==(x12.getD i27.toNat default).Block then decide ((x4.getD x29.toNat default).At<(x12.getD i27.toNat default).At) else false then some (.inl ()) else(bif ((x4.getD x29.toNat default).Block==(x12.getD i27.toNat default).Block)==false then Ko x26 (x4.getD x29.toNat default).Block (x12.getD i27.toNat default).Block else some 0).bind λx31=>bif bif (x4.getD x29.toNat default).Block==(x12.getD i27.toNat default).Block then true else x31 !=(x4.getD x29.toNat default).Block then some (.inr 7) else some (.inl ())))) λx32=>match x32 with | .inl _=>some (.next (w64 (i27+1))) | .inr r34=>some (.done (.inr r34)) else some (.done (.inl ()))
def Hi(Γ:H3)(a0:TFunc)(a2:Int)(r:Int):Exit->St->Prop:=fK Tryz.prog Γ Tryz.f21.results.toList [] (.int .i64 r) []
def m9(x4:List Cg)(x29:Int):=((decide (((x4.getD x29.toNat default).Block:Int)<0))==false)
def fE(x4:List Cg)(x29:Int)(x12:List D2)(i27:Int):=(((x4.getD x29.toNat default).Block:Int)==(x12.getD i27.toNat default).Block)
def D9(a0:TFunc)(a2:Int):Option Int:=
 bif bif decide (a2<0) then true else decide (2<a2) then some 1 else(Iu a0).bind λx1=>bif !x1 then some 4 else(Jy a0).bind λx2=>bif !x2 then some 5 else(Jz a0 a2).bind λx3=>bif !x3 then some 6 else(Kq a0).bind λx4=>(Ac   (Fn x4) 0).bind λx10=>match x10 with | .inl _=>(Kr a0).bind λx12=>(Ac   (D3 x4 x12) 0).bind λx16=>(match x16 with | .inl _=>(Ac   (D4 x4 x12) 0).bind λx23=>(match x23 with | .inl _=>(Jg a0).bind λx25=>(Kp x25.1 0).bind λx26=>(Ac   (C4 x4 x12 x26) 0).bind λx35=>(match x35 with | .inl _=>some 0 | .inr r37=>some r37) | .inr r38=>some r38) | .inr r39=>some r39) | .inr r40=>some r40
theorem X7(h:D9 v0 v1=some v11):sP 21 [(V0 v0),(Z5 v1)] [] (.int .i64 v11) []:=
 sG Tryz.func21 λΓ q=>Af q D7 [2] (tU q [1,2,21] [2] (c2 (gI ((decide (v1<0))==false)) (Lx (decide (v1<0)))) (gC h (λh=>Af q [4] [] (tS h (Cc []))) λh=>tB h λx1 y1 h=>tT q [1,2,24] [2] [(Z2 x1)] (c1 (BH y1)) (gC h (λh=>Af q [4] [] (tS h (Cc []))) λh=>tB h λx2 y2 h=>tT q [1,2,27] [2] [(Z2 x2)] (c1 (X9 y2)) (gC h (λh=>Af q [4] [] (tS h (Cc []))) λh=>tB h λx3 y3 h=>tT q [2,31] [2] [(Z2 x3)] (c1 (Ya y3)) (gC h (λh=>Af q [4] [] (tS h (Cc []))) λh=>tB h λx4 y4 h=>tT q Uh CL [⟨[],[(20000,33)],(AV.list 5 Pq default x4 (.own 20000)),[(Li 20000 92 x4.length)],[],[]⟩] (c1 (Zs y4)) (Af q W5 CL (tL q h W5 CL (λu i5=>(Cp u [(6,(Z5 i5))] [])) (λu x_=>match x_ with|(.inl _)=>aG Γ (.exit 0) (Nf Uh CL u [] [])|(.inr r_)=>aR (Hi Γ v0 v1 r_)) (λi5 y h=>Af q [2,5,6,37] CL (gC h (λh=>tC h λc6_ h=>tB h λx7 y7 h=>tC h λc8_ h=>tB h λx9 y9 h=>tT q [2,5,6,57] CL [(Z2 x7),(UF x9)] (fb c6_ (Md y7) (Mr ((!x7)==false) (ci c8_ (LJ ((!x7)==false) (ci (λ(hg:((!x7)==false)=true)=>(J0 (Bf hg y9))) (Mr ((!x7)==false) (c1 (Lx (!x7))))))))) (gC h (λh=>Af q [4] [] (tS h (gO (Lj (H4 [] (Le.refl _ _)))))) λh=>Af q W5 CL (tN h))) λh=>tS h (gO (Be (Bi Uh CL q))))) λx10 h=>(match x10,h with | .inl _,h=>gA (tB h λx12 y12 h=>tT q TV Ui [⟨[],[(20000,59)],(AV.list 5 Oy default x12 (.own 20000)),[(Li 20000 96 x12.length)],[],[]⟩] (c1 (Zt y12)) (Af q [2,5,7,8] Ui (tL q h [2,5,7,8] Ui (λu i13=>(Cp u [(8,(Z5 i13))] [])) (λu x_=>match x_ with|(.inl _)=>aG Γ (.exit 2) (Nf TV Ui u [] [])|(.inr r_)=>aR (Hi Γ v0 v1 r_)) (λi13 y h=>Af q [2,5,7,8,63] Ui (gC h (λh=>tC h λc14_ h=>tB h λx15 y15 h=>tT q [2,5,7,8,73] Ui [(UF x15)] (c2 c14_ (J0 y15)) (gC h (λh=>Af q [4] [] (tS h (gO (Lj (H4 [] (Le.refl _ _)))))) λh=>Af q [2,5,7,8] Ui (tN h))) λh=>tS h (gO (Be (Bi TV Ui q))))) λx16 h=>(match x16,h with | .inl _,h=>gA (Af q [2,5,7,9] Ui (tL q h [2,5,7,9] Ui (λu i18=>(Cp u [(9,(Z5 i18))] [])) (λu x_=>match x_ with|(.inl _)=>aG Γ (.exit 4) (Nf TV Ui u [] [])|(.inr r_)=>aR (Hi Γ v0 v1 r_)) (λi18 y h=>Af q [2,5,7,9,77] Ui (gC h (λh=>tC h λc19_ h=>tB h λx20 y20 h=>tC h λc21_ h=>tC h λc22_ h=>tT q [2,5,7,9,96] Ui [(UF x20)] (c4 c19_ (J0 y20) c21_ c22_) (gC h (λh=>Af q [4] [] (tS h (gO (Lj (H4 [] (Le.refl _ _)))))) λh=>Af q [2,5,7,9] Ui (tN h))) λh=>tS h (gO (Be (Bi TV Ui q))))) λx23 h=>(match x23,h with | .inl _,h=>gA (tB h λx25 y25 h=>tT q [5,7,10] [10,33,59] [(xN x25.1 x25.2)] (c1 (S0 y25)) (tB h λx26 y26 h=>tT q [5,7,12] MW [(xK 103 x26 x26.length)] (c1 (Zr y26)) (Af q TL MW (tL q h TL MW (λu i27=>(Cp u [(13,(Z5 i27))] [])) (λu x_=>match x_ with|(.inl _)=>aG Γ (.exit 6) (⟨[],[],[]⟩:St)|(.inr r_)=>aR (Hi Γ v0 v1 r_)) (λi27 y h=>Af q [5,7,12,13,107] MW (gC h (λh=>tB h λx32 y32 h=>gJ y32 (λx_=>match x_ with|(.inl _)=>aG Γ .normal (⟨[(5,(AV.list 5 Pq default x4 (.own 33))),(7,(AV.list 5 Oy default x12 (.own 59))),(12,(Vz x26 103)),(13,(Z5 i27))],[(Li 33 92 x4.length),(Li 59 96 x12.length),(Yp 103 x26.length)],[]⟩:St)|(.inr r_)=>aR (Hi Γ v0 v1 r_)) (λy h=>tV q [5,7,12,13,14] [14,33,59,103] h λh=>tB h λx29 y29 h=>tC h λc30_ h=>tT q [5,7,12,13,14,15] [14,15,33,59,103] [(UF x29)] (c2 (J0 y29) c30_) (tU q [5,7,12,13,14,15,137] [14,15,33,59,103] (wZ (m9 x4 x29) (LJ ((m9 x4 x29)&&((fE x4 x29 x12 i27)==true)) (c3 (gI (m9 x4 x29)) (show((m9 x4 x29)=true->((fE x4 x29 x12 i27)=true->((m9 x4 x29)&&((fE x4 x29 x12 i27)==true))=true)) from(λhg=>(aT hg))) (Lx (decide (((x4.getD x29.toNat default).Block:Int)<0)))))) (gC h (λh=>tS h (gK (Be (Bi TL MW q)))) λh=>tB h λx31 y31 h=>tT q [5,7,12,13,153] MW [(UF x31)] (wZ ((fE x4 x29 x12 i27)==false) (ci (λ(hg:((fE x4 x29 x12 i27)==false)=true)=>(Zq (Bf hg y31))) (Yt ((fE x4 x29 x12 i27)==false) (c1 (Lx (fE x4 x29 x12 i27)))))) (gC h (λh=>Af q [4] [] (tS h (gK (Lj (H4 [] (Le.refl _ _)))))) λh=>tS h (gK (Be (Bi TL MW q))))))) (match x32,h with | .inl _,h=>gA (Af q TL MW (tN h)) | .inr r34,h=>Oz (λst' hk=>tS h (gO (Lj hk))))) λh=>tS h (gO (Be (Bi [] [] q))))) λx35 h=>(match x35,h with | .inl _,h=>gA (Af q [4] [] (tS h (Cc []))) | .inr r37,h=>Oz (λst' hk=>tS h (gK hk))))))) | .inr r38,h=>Oz (λst' hk=>tS h (gK hk))))) | .inr r39,h=>Oz (λst' hk=>tS h (gK hk)))))) | .inr r40,h=>Oz (λst' hk=>tS h (gK hk))))))))))
open Go Go.RowKit
set_option maxRecDepth 100000
set_option maxHeartbeats 2000000
def Lq(a0:TFunc):Option Bool:=
 (O0 a0 2).bind λx1=>some (x1==0)
theorem Sp(h:Lq v0=some v3):sP 42 [(V0 v0)] [] (.bool v3) []:=
 sG Tryz.func42 λΓ q=>Af q [1] [1] (tB h λx1 y1 h=>tT q [2] [] [(UF x1)] (c1 (AY y1)) (tS h (Cc [])))
def Mi(a0:TFunc)(x1:mR):Int->Option (LR Int (Unit ⊕ ((Bool×VU)×Bool))):=
 λi2=>bif decide (i2<a0.Blocks.length) then Option.bind (α:=Unit ⊕ (Bool×VU)×Bool) (Az (A2 i2 a0.Blocks.length) (bif (a0.Blocks.getD i2.toNat default).End.Kind !=1 then some (.inl ()) else Az (A2 0 (a0.Blocks.getD i2.toNat default).End.To.length) (Az ((((a0.Blocks.getD i2.toNat default).End.To.getD (0:Int).toNat 0 !=i2)==true)=true->A2 ((a0.Blocks.getD i2.toNat default).End.To.getD (0:Int).toNat 0) x1.1.Pred.length) (bif bif (a0.Blocks.getD i2.toNat default).End.To.getD (0:Int).toNat 0 !=i2 then(x1.1.Pred.getD ((a0.Blocks.getD i2.toNat default).End.To.getD (0:Int).toNat 0).toNat []).length==(1:Int) else false then some (.inr ((true,⟨i2,(a0.Blocks.getD i2.toNat default).End.To.getD (0:Int).toNat 0,[]⟩),true)) else some (.inl ()))))) λx6=>match x6 with | .inl _=>some (.next (w64 (i2+1))) | .inr r8=>some (.done (.inr r8)) else some (.done (.inl ()))
abbrev qk:=((Bool×VU)×Bool)
def GF(Γ:H3)(a0:TFunc)(r:qk):Exit->St->Prop:=fK Tryz.prog Γ Tryz.f46.results.toList [] (.tuple [(bif r.1.1 then((.ptr 20000 0):AV) else .nilp),(.bool r.2)]) (bif r.1.1 then(yd 20000 r.1.2.x r.1.2.y) else[])
def vQ(a0:TFunc)(i2:Int):=((((a0.Blocks.getD i2.toNat default).End.To).getD (0:Int).toNat (0:Int))!=i2)
def Ks(a0:TFunc):Option qk:=
 (Tw a0).bind λx1=>(Ac   (Mi a0 x1) 0).bind λx9=>match x9 with | .inl _=>some ((false,default),false) | .inr r11=>some r11
variable{v37:qk}
theorem R3(h:Ks v0=some v37):sP 46 [(V0 v0)] [] (.tuple [(bif v37.1.1 then((.ptr 20000 0):AV) else .nilp),(.bool v37.2)]) (bif v37.1.1 then(yd 20000 v37.1.2.x v37.1.2.y) else[]):=
 sG Tryz.func46 λΓ q=>Af q [1] [1] (tB h λx1 y1 h=>tT q P1 P1 [(xN x1.1 x1.2)] (c1 (LV y1)) (Af q TJ [4] (tL q h TJ [4] (λu i2=>(Cp u [(17,(Z5 i2))] [])) (λu x_=>match x_ with|(.inl _)=>aG Γ (.exit 0) (⟨[],[],[]⟩:St)|(.inr r_)=>aR (GF Γ v0 r_)) (λi2 y h=>Af q [4,15,16,17,18] [4] (gC h (λh=>tB h λx6 y6 h=>gJ y6 (λx_=>match x_ with|(.inl _)=>aG Γ .normal (⟨[ZA,(15,(UE v0.Blocks)),(bh 16 v0.Blocks.length),(17,(Z5 i2))],[(4,.row 56 [(NO x1.1.Succ),(NO x1.1.Pred)])],[]⟩:St)|(.inr r_)=>aR (GF Γ v0 r_)) (λy h=>tV q [4,6,7,15,16,17] [4,7] h λh=>Af q [4,6,7,15,16,17,25] [4,7] (gC h (λh=>tS h (gK (Be (Bi TJ [4] q)))) λh=>tV q [4,6,8,15,16,17] [4] h λh=>tC h λc5_ h=>tU q [4,6,8,15,16,17,42] [4] (Yt ((vQ v0 i2)==true) (ci c5_ (Yt ((vQ v0 i2)==true) (c1 (Nd (vQ v0 i2)))))) (gC h (λh=>Af q Cz [46] (tS h (gK (Lj (H4 [(46,20000)] (Le.refl _ _)))))) λh=>tS h (gK (Be (Bi TJ [4] q)))))) (match x6,h with | .inl _,h=>gA (Af q TJ [4] (tN h)) | .inr r8,h=>Oz (λst' hk=>tS h (gO (Lj hk))))) λh=>tS h (gO (Be (Bi [] [] q))))) λx9 h=>(match x9,h with | .inl _,h=>gA (Af q Cz [] (tS h (Cc []))) | .inr r11,h=>Oz (λst' hk=>tS h (gK hk))))))
def G5(aH:Int)(a3:Int)(a5:Int)(a7:List J5):Option Int:=
 bif Ec a7 aH then some (Fy 0 a7 aH) else some aH
variable{v38:List J5}{v39:Int}
theorem Mf(h:G5 v1 v11 v20 v38=some v39):sP 83 [(.ptr 30000 0),(Z5 v1)] [(Z8 v11 v20 9100002),(9100002,.obj (.map true .i64 (Bu (λ(v_:Int)=>((Z5 v_):AV)) v38)))] (.int .i64 v39) [(Z8 v11 v20 9100002),(9100002,.obj (.map true .i64 (Bu (λ(v_:Int)=>((Z5 v_):AV)) v38)))]:=
 sG Tryz.func83 λΓ q=>Af q Gn S3 (gR q [1,5,6] S3 [(13,(.tuple [(.int .i64 (Fy (0:Int) v38 v1)),(.bool (Ec v38 v1))]))] [] (c1 (show(AVle (.tuple [Fy L5 (Bu (λ(v_:Int)=>((Z5 v_):AV)) v38) v1,.bool (Ec (Bu (λ(v_:Int)=>((Z5 v_):AV)) v38) v1)]) (.tuple [(.int .i64 (Fy (0:Int) v38 v1)),(.bool (Ec v38 v1))])) from(QP (f:=(λ(v_:Int)=>((Z5 v_):AV))) (l:=v38) (AVle.refl _) rfl))) (Af q [1,5,16] S3 (gC h (λh=>Af q [4] S3 (tS h (Cc YI))) λh=>Af q [4] S3 (tS h (Cc YI)))))
def Cu(aa2:List (List Bz)):J5->Option uS:=
 λ(i1,i2)=>bif decide (i2<aa2.length) then Option.bind  (Az (A2 i2 aa2.length) (bif decide (w64 (i1+(aa2.getD i2.toNat []).length)<0) then none else some ())) λx5=>match x5 with|_=>some (.next (w64 (i1+(aa2.getD i2.toNat []).length),w64 (i2+1))) else some (.done i1)
def Cv(aa2:List (List Bz)):(List Bz×Int)->Option (LR (List Bz×Int) (List Bz)):=
 λ(l10,i11)=>bif decide (i11<aa2.length) then Az (A2 i11 aa2.length) (Az (l10.length+(aa2.getD i11.toNat []).length<=room) (some (.next (l10++aa2.getD i11.toNat [],w64 (i11+1))))) else some (.done l10)
def Fg(aa2:List (List Bz)):Option (List Bz):=
 (Ac   (Cu aa2) (0,0)).bind λx7=>(g7 x7).bind λx9=>(Ac   (Cv aa2) (x9,0)).bind λx15=>some x15
variable{v40:List (List Bz)}{v7:List Bz}
theorem Rs(h:Fg v40=some v7):sP 84 [(AV.list 1 WI [] v40 .none)] [] (wB v7 20000) [(20000,.tok 6 70 v7.length)]:=
 sG Tryz.func84 λΓ q=>gR q [0] [] [(2,yZ)] [] (c1 (B1 6 Lh (default:Bz))) (tW q Rh [] SY [] (tL q h SY [] (λu (i1,i2)=>(Cp u [(3,(Z5 i1)),(11,(Z5 i2))] [])) (λu i3=>aG Γ (.exit 0) (Nf Rh [] u [(3,(Z5 i3))] [])) (λ⟨i1,i2⟩ y h=>Af q [0,3,9,10,11,12] [] (gC h (λh=>tB h λx5 y5 h=>gJ y5 (λ_=>aG Γ .normal (⟨[(0,(AV.list 1 WI [] v40 .none)),(3,(.int .i64 (w64 (i1+((v40.getD i2.toNat []).length:Int))))),(9,(AV.list 1 WI [] v40 .none)),(bh 10 v40.length),(11,(Z5 i2))],[],[]⟩:St)) (λy h=>tV q [0,3,5,9,10,11] [] h λh=>tW q SY [] [0,3,9,10,11,20] [] (gC h (λh=>nomatch h) λh=>tS h (gK (Be (Bi SY [] q))))) (gA (Af q SY [] (tN h)))) λh=>tS h (gO (Be (Bi Rh [] q))))) λx7 h=>gA (tB h λx9 y9 h=>tT q [0,6] [24] [⟨[],[(20000,24)],(wB x9 20000),[(20000,.tok 6 70 x9.length)],[],[]⟩] (c1 (qc (e:=Lh) (d:=(default:Bz)) x7 x9 y9)) (Af q bX [24] (tL q h bX [24] (λu (l10,i11)=>(Cp u [(6,(wB l10 24)),(27,(Z5 i11))] [(24,.tok 6 70 l10.length)])) (λu l12=>aG Γ (.exit 2) (⟨[(6,(wB l12 24))],[(24,.tok 6 70 l12.length)],[]⟩:St)) (λ⟨l10,i11⟩ y h=>Af q [6,25,26,27,28] [24] (gC h (λh=>tV q [6,8,25,26,27] [24] h λh=>tC h λc14_ h=>gR q bX [24] [(33,(AV.list 6 Lh default (l10++(v40.getD i11.toNat [])) (.own 24)))] [] (c4 (Eq.refl l10.length) c14_ (Ix 6 24 Lh (default:Bz) l10 (v40.getD i11.toNat [])) (E2 l10 (v40.getD i11.toNat []))) (Af q bX [24] (tN h))) λh=>tS h (gO (Be (Bi [6] [24] q))))) λx15 h=>gA (Af q [2] [24] (tS h (Cc [(24,20000)]))))))))
def Ky(aL:Int)(a3:Int)(a5:Int)(a7:List J5):Option Int:=
 Option.bind  (bif aL==a5 then some a3 else some aL) λx2=>Option.bind  (bif decide (a5<x2) then some (w64 (x2-1)) else some x2) λx5=>some x5
theorem T4(h:Ky v1 v11 v20 v38=some v39):sP 142 [(.ptr 30000 0),(Z5 v1)] [(Z8 v11 v20 9100002),(9100002,.obj (.map true .i64 (Bu (λ(v_:Int)=>((Z5 v_):AV)) v38)))] (.int .i64 v39) [(Z8 v11 v20 9100002),(9100002,.obj (.map true .i64 (Bu (λ(v_:Int)=>((Z5 v_):AV)) v38)))]:=
 sG Tryz.func142 λΓ q=>Af q Gn S3 (tB h λx2 y2 h=>gJ y2 (λi1=>aG Γ .normal (⟨[bz,(1,(Z5 i1))],[(Z8 v11 v20 9100002),(9100002,.obj (.map true .i64 (Bu (λ(v_:Int)=>((Z5 v_):AV)) v38)))],[]⟩:St)) (λy h=>Af q Ym S3 (gC h (λh=>Af q Gn S3 (tS h (gK (Be Io)))) λh=>tS h (gK (Be (Bi Gn S3 q))))) (gA (tB h λx5 y5 h=>gJ y5 (λi4=>aG Γ .normal (⟨[(1,(Z5 i4))],[(Z8 v11 v20 9100002),(9100002,.obj (.map true .i64 (Bu (λ(v_:Int)=>((Z5 v_):AV)) v38)))],[]⟩:St)) (λy h=>Af q [1,20] S3 (gC h (λh=>Af q [1] S3 (tS h (gK (Be Io)))) λh=>tS h (gK (Be (Bi [1] S3 q))))) (gA (Af q [4] S3 (tS h (Cc YI)))))))
def Ji(aP:Bc)(a3:Int)(a5:Int)(a7:List J5):(Int×Aw×Aw)->Option (LR (Int×Aw×Aw) (Aw×Aw)):=
 λ(i1,l2,l3)=>bif decide (i1<aP.From.length) then Az (A2 i1 aP.From.length) ((Ky (aP.From.getD i1.toNat 0) a3 a5 a7).bind λx7=>(Ff l2 x7).bind λx8=>(CA l2 x8.1 [x7]).bind λx9=>Az (1=x9.2.2.length) (Az (A2 i1 aP.Args.length) ((G5 (aP.Args.getD i1.toNat 0) a3 a5 a7).bind λx12=>(CA l3 x8.1 [x12]).bind λx13=>Az (1=x13.2.2.length) (some (.next (w64 (i1+1),x9.2.1,x13.2.1)))))) else some (.done (l2,l3))
def nC(l5:Aw):=(λi=>Aq (l5.getD i 0))
def nB:AV:=fG
def UO(a7:List J5):=(Bu (λ(v_:Int)=>((Z5 v_):AV)) a7)
def vS(aP:Bc):List AV:=[(Z5 aP.Bits),(Z5 aP.Dst),(Z6 aP.From),(Z6 aP.Args)]
def xu(aP:Bc)(a3:Int)(a5:Int)(a7:List J5):=(⟨[bz,(3,(.ptr 3 0)),ZA,(5,(.vsl 36005 ([]:Aw).length)),(6,(.vsl 36006 ([]:Aw).length)),(12,(Z6 aP.From)),(bh 13 aP.From.length),(14,L5)],[(3,.row 67 (vS aP)),(4,.row 67 [L5,L5,Zx,Zx]),(Z8 a3 a5 9100002),(Z73 36005),(Z73 36006),(UQ 9100002 (UO a7))],[]⟩:St)
def Pe(aP:Bc)(a3:Int)(a5:Int)(a7:List J5):Option Bc:=
 (Ac   (Ji aP a3 a5 a7) (0,[],[])).bind λx15=>match x15 with|(l4,l5)=>some ⟨aP.Bits,aP.Dst,l4,l5⟩
variable{v4:Bc}{v41:Bc}
theorem JW(h:Pe v4 v1 v11 v38=some v41):sP 140 [(.ptr 30000 0),(.agg (El v4))] [(Z8 v1 v11 9100002),(9100002,.obj (.map true .i64 (Bu (λ(v_:Int)=>((Z5 v_):AV)) v38)))] (.agg (El v41)) [(Z8 v1 v11 9100002),(9100002,.obj (.map true .i64 (Bu (λ(v_:Int)=>((Z5 v_):AV)) v38)))]:=
 sG Tryz.func140 λΓ q=>have hΓ:=q.own;Af q S6 eV (gR q TK eV [(5,nB),(6,nB)] [] (c2 (B1 1 Aq (0:Int)) (B1 1 Aq (0:Int))) (Af q TX eV (gLe (st':=(xu v4 v1 v11 v38)) (Le.trans (Bi (st':=⟨[bz,(3,(.ptr 3 0)),ZA,(5,nB),(6,nB),(12,(Z6 v4.From)),(bh 13 v4.From.length),(14,L5)],[(3,.row 67 (vS v4)),(4,.row 67 [L5,L5,Zx,Zx]),(Z8 v1 v11 9100002),(UQ 9100002 (UO v38))],[]⟩) TX eV q) (Le.trans (Le.trans (QC (t:=5) (nm:=36005) (sz':=1) (λi=>Aq (([]:Aw).getD i 0)) 3 rfl rfl) (Bi (st':=⟨[bz,(3,(.ptr 3 0)),ZA,(5,(.vsl 36005 ([]:Aw).length)),(6,nB),(12,(Z6 v4.From)),(bh 13 v4.From.length),(14,L5)],[(3,.row 67 (vS v4)),(4,.row 67 [L5,L5,Zx,Zx]),(Z8 v1 v11 9100002),(Z73 36005),(UQ 9100002 (UO v38))],[]⟩) TX [3,4,30000,36005,9100002] q)) (Le.trans (QC (t:=6) (nm:=36006) (sz':=1) (λi=>Aq (([]:Aw).getD i 0)) 3 rfl rfl) (Bi (st':=(xu v4 v1 v11 v38)) TX UC q)))) (tL q h TX UC (λu (i1,l2,l3)=>(Cp u [(Vh 36005 l2.length),(6,(.vsl 36006 l3.length)),(14,(Z5 i1))] [(Z4 36005 l2),(Z4 36006 l3)])) (λu (l4,l5)=>aG Γ (.exit 0) (Nf [3,4,5,6] UC u [(Vh 36005 l4.length),(6,(.vsl 36006 l5.length))] [(Z4 36005 l4),(36006,.arr 1 3 l5.length (nC l5))])) (λ⟨i1,l2,l3⟩ y h=>Af q [0,3,4,5,6,12,13,14,15] UC (gC h (λh=>tV q qo UC h λh=>tB h λx7 y7 h=>tT q qo UC [(yU x7 v1 v11 (UO v38))] (ci (T4 y7) (rkl [(.row 137 (bx v1 v11 9100002)),(.obj (.map true .i64 (UO v38)))])) (tB h λx8 y8 h=>tT q [0,3,4,5,6,7,8,9,12,13,14] UC [⟨[],[],(.tuple [(Z5 x8.1),(.bool x8.2)]),[],[36005],[]⟩] (c3 (Rr y8) (show(EC []) from trivial) (Eq.refl l2.length)) (tB h λx9 y9 h=>tC h λc10_ h=>tC h λc11_ h=>tB h λx12 y12 h=>tB h λx13 y13 h=>tC h λc14_ h=>gR q TX UC [(31,(.vsl 31 1)),(42,(.vsl 42 1))] [⟨qq,[],(.vsl 34000 x9.2.1.length),[(Z4 34000 x9.2.1),(Z4 34002 x9.2.2)],[],[]⟩,(yU x12 v1 v11 (UO v38)),⟨qr,[],(.vsl 34000 x13.2.1.length),[(Z4 34000 x13.2.1),(Z4 34002 x13.2.2)],[],[]⟩] (UG (SI l2 x8.1 [x7] x9 y9 (λi_=>AV.renAll qq ((λi_=>([(Z5 x7)].drop (i_*1)).take 1) i_)) (bE (n:=0) gf rfl)) c11_ (Mf y12) (t8 [(.row 137 (bx v1 v11 9100002)),(.obj (.map true .i64 (UO v38)))] (c1 (SI l3 x8.1 [x12] x13 y13 (λi_=>AV.renAll qr ((λi_=>([(Z5 x12)].drop (i_*1)).take 1) i_)) (bE (n:=0) gf rfl))))) (Af q TX UC (tN h))))) λh=>tS h (gO (Be (Bi [3,4,5,6] UC q))))) λx15 h=>(match x15,h with|⟨l4,l5⟩,h=>gA (tW q [3,4] UC [4] [4,30000,36005,36006,9100002] (P6 (⟨[ZA],[(4,.row 67 [(Z5 v4.Bits),(Z5 v4.Dst),(.vsl 36005 l4.length),(.vsl 36006 l5.length)]),(Z8 v1 v11 9100002),(Z4 36005 l4),(36006,.arr 1 3 l5.length (nC l5)),(UQ 9100002 (UO v38))],[]⟩:St) (tS h (gK (e:=.ret) (H4 YI (Le.trans (Le.trans (le_freeze (nm:=36005) (sz:=1) (n:=l4.length) (e:=3) (f:=(λi=>Aq (l4.getD i 0))) (g:=(λi=>Aq (l4.getD i 0))) rfl ⟨rfl,trivial⟩ (λ_ _=>rfl) (by rw[hΓ];rfl)) (Gs (st':=⟨[ZA],[(4,.row 67 [(Z5 v4.Bits),(Z5 v4.Dst),(Vz l4 36005),(.vsl 36006 l5.length)]),(Z8 v1 v11 9100002),(Yp 36005 l4.length),(36006,.arr 1 3 l5.length (nC l5)),(UQ 9100002 (UO v38))],[]⟩) (by kernel_rfl))) (Le.trans (le_freeze (nm:=36006) (sz:=1) (n:=l5.length) (e:=3) (f:=(nC l5)) (g:=(nC l5)) rfl ⟨rfl,trivial⟩ (λ_ _=>rfl) (by rw[hΓ];rfl)) (Gs (st':=⟨[ZA],[(4,.row 67 [(Z5 v4.Bits),(Z5 v4.Dst),(Vz l4 36005),(Vz l5 36006)]),(Z8 v1 v11 9100002),(Yp 36005 l4.length),(Yp 36006 l5.length),(UQ 9100002 (UO v38))],[]⟩) (by kernel_rfl))))))))))))))
def Qt(aA:Aw)(a3:Int)(a5:Int)(a7:List J5):eQ->Option qf:=
 λ(i2,l3)=>bif decide (i2<aA.length) then Az (A2 i2 aA.length) ((G5 (aA.getD i2.toNat 0) a3 a5 a7).bind λx6=>Az (A2 i2 l3.length) (some (.next (w64 (i2+1),l3.set i2.toNat x6)))) else some (.done l3)
def r9(a7:List J5):=(Bu (λ(v_:Int)=>((Z5 v_):AV)) a7)
def Uw(aA:Aw)(a3:Int)(a5:Int)(a7:List J5):Option Aw:=
 Az (0<=(aA.length:Int)/\(aA.length:Int)<=aA.length/\aA.length<=(room:Int)) ((Ac   (Qt aA a3 a5 a7) (0,List.replicate (aA.length:Int).toNat 0)).bind λx8=>some x8)
theorem bB(h:Uw v2 v1 v11 v38=some v17):sP 141 [(Z6 v2),(.clo 83 nY [])] [(Z8 v1 v11 9100002),(9100002,.obj (.map true .i64 (Bu (λ(v_:Int)=>((Z5 v_):AV)) v38)))] (Vz v17 20000) [(Z8 v1 v11 9100002),(9100002,.obj (.map true .i64 (Bu (λ(v_:Int)=>((Z5 v_):AV)) v38))),(Yp 20000 v17.length)]:=
 sG Tryz.func141 λΓ q=>have hΓ:=q.own;gR q Gn S3 [(4,fG)] [] (c1 (B1 1 Aq (0:Int))) (tV q Nb Sk h λh=>by exact gLe (Le.trans (Sn 10 (show ∀ k_,k_<((v2.length:Int).toNat)->AVleL ((λi_=>AV.eraseAll (λn_=>Bw n_ Sk) ((λ_=>[L5]) i_)) k_) ((λi=>Aq ((List.replicate (v2.length:Int).toNat (0:Int)).getD i 0)) k_) from(λk hk=>M5 (e:=Aq) (d:=(0:Int)) (.cons (AVle.refl _) .nil) _ k (M6 hk)))) (R8 (λ(k_:Nat) u=>(Cp u [(Vh 10 k_)] (Z74 10 k_ v2.length))) (show(v2.length:Int).toNat=(List.replicate (v2.length:Int).toNat (0:Int)).length from(N5 ..).symm))) (Af q MS Sk (tL q h MS Sk (λu (i2,l3)=>(Cp u [(Vh 10 l3.length),(13,(Z5 i2))] [(Z4 10 l3)])) (λu l4=>aG Γ (.exit 0) (Nf [5] Sk u [(Vh 10 l4.length)] [(Z4 10 l4)])) (λ⟨i2,l3⟩ y h=>Af q [1,5,11,12,13,14] Sk (gC h (λh=>tV q [1,5,6,7,11,12,13] Sk h λh=>tB h λx6 y6 h=>tC h λc7_ h=>tT q MS Sk [(yU x6 v1 v11 (r9 v38))] (ci (Mf y6) (t8 [(.row 137 (bx v1 v11 9100002)),(.obj (.map true .i64 (r9 v38)))] (c2 c7_ (Eq.refl l3.length)))) (gLe (Le.trans (Sn 10 (show ∀ k_,k_<l3.length->AVleL ((λi_=>AV.eraseAll (λn_=>Bw n_ Sk) ((Fd (λi=>Aq (l3.getD i 0)) i2.toNat 0 [(Z5 x6)]) i_)) k_) ((λi=>Aq ((l3.set i2.toNat x6).getD i 0)) k_) from(Bh (Dc ..).symm (λk_ hk_=>(Bj (AV.eraseAll (λn_=>Bw n_ Sk)) ((Fv (λ_ _=>rfl) (Hv c7_) rfl) k_ hk_)).trans rfl)))) (R8 (λ(k_:Nat) u=>(Cp u [(Vh 10 k_)] [(10,.arr 1 3 k_ (λi=>Aq ((l3.set i2.toNat x6).getD i 0)))])) (show l3.length=(l3.set i2.toNat x6).length from(Dc ..).symm))) (Af q MS Sk (tN h)))) λh=>tS h (gO (Be (Bi [5] Sk q))))) λx8 h=>gA (Af q [4] Sk (P6 (⟨[(4,(.vsl 10 x8.length))],[(Z4 10 x8),(Z8 v1 v11 9100002),(UQ 9100002 (r9 v38))],[]⟩:St) (tS h (gK (e:=.ret) (H4 u7 (Le.trans (le_freeze (nm:=10) (sz:=1) (n:=x8.length) (e:=3) (f:=(λi=>Aq (x8.getD i 0))) (g:=(λi=>Aq (x8.getD i 0))) rfl ⟨rfl,trivial⟩ (λ_ _=>rfl) (by rw[hΓ];rfl)) (Gs (st':=⟨[(4,(Vz x8 10))],[(Yp 10 x8.length),(Z8 v1 v11 9100002),(UQ 9100002 (r9 v38))],[]⟩) (by kernel_rfl)))))))))))
def M4(aA:Aw)(a3:Int)(a5:Int)(a7:List J5):eQ->Option qf:=
 λ(i2,l3)=>bif decide (i2<aA.length) then Az (A2 i2 aA.length) ((Ky (aA.getD i2.toNat 0) a3 a5 a7).bind λx6=>Az (A2 i2 l3.length) (some (.next (w64 (i2+1),l3.set i2.toNat x6)))) else some (.done l3)
def sA(a7:List J5):=(Bu (λ(v_:Int)=>((Z5 v_):AV)) a7)
def Qu(aA:Aw)(a3:Int)(a5:Int)(a7:List J5):Option Aw:=
 Az (0<=(aA.length:Int)/\(aA.length:Int)<=aA.length/\aA.length<=(room:Int)) ((Ac   (M4 aA a3 a5 a7) (0,List.replicate (aA.length:Int).toNat 0)).bind λx8=>some x8)
theorem NK(h:Qu v2 v1 v11 v38=some v17):sP 141 [(Z6 v2),(.clo 142 nY [])] [(Z8 v1 v11 9100002),(9100002,.obj (.map true .i64 (Bu (λ(v_:Int)=>((Z5 v_):AV)) v38)))] (Vz v17 20000) [(Z8 v1 v11 9100002),(9100002,.obj (.map true .i64 (Bu (λ(v_:Int)=>((Z5 v_):AV)) v38))),(Yp 20000 v17.length)]:=
 sG Tryz.func141 λΓ q=>have hΓ:=q.own;gR q Gn S3 [(4,fG)] [] (c1 (B1 1 Aq (0:Int))) (tV q Nb Sk h λh=>by exact gLe (Le.trans (Sn 10 (show ∀ k_,k_<((v2.length:Int).toNat)->AVleL ((λi_=>AV.eraseAll (λn_=>Bw n_ Sk) ((λ_=>[L5]) i_)) k_) ((λi=>Aq ((List.replicate (v2.length:Int).toNat (0:Int)).getD i 0)) k_) from(λk hk=>M5 (e:=Aq) (d:=(0:Int)) (.cons (AVle.refl _) .nil) _ k (M6 hk)))) (R8 (λ(k_:Nat) u=>(Cp u [(Vh 10 k_)] (Z74 10 k_ v2.length))) (show(v2.length:Int).toNat=(List.replicate (v2.length:Int).toNat (0:Int)).length from(N5 ..).symm))) (Af q MS Sk (tL q h MS Sk (λu (i2,l3)=>(Cp u [(Vh 10 l3.length),(13,(Z5 i2))] [(Z4 10 l3)])) (λu l4=>aG Γ (.exit 0) (Nf [5] Sk u [(Vh 10 l4.length)] [(Z4 10 l4)])) (λ⟨i2,l3⟩ y h=>Af q [1,5,11,12,13,14] Sk (gC h (λh=>tV q [1,5,6,7,11,12,13] Sk h λh=>tB h λx6 y6 h=>tC h λc7_ h=>tT q MS Sk [(yU x6 v1 v11 (sA v38))] (ci (T4 y6) (t8 [(.row 137 (bx v1 v11 9100002)),(.obj (.map true .i64 (sA v38)))] (c2 c7_ (Eq.refl l3.length)))) (gLe (Le.trans (Sn 10 (show ∀ k_,k_<l3.length->AVleL ((λi_=>AV.eraseAll (λn_=>Bw n_ Sk) ((Fd (λi=>Aq (l3.getD i 0)) i2.toNat 0 [(Z5 x6)]) i_)) k_) ((λi=>Aq ((l3.set i2.toNat x6).getD i 0)) k_) from(Bh (Dc ..).symm (λk_ hk_=>(Bj (AV.eraseAll (λn_=>Bw n_ Sk)) ((Fv (λ_ _=>rfl) (Hv c7_) rfl) k_ hk_)).trans rfl)))) (R8 (λ(k_:Nat) u=>(Cp u [(Vh 10 k_)] [(10,.arr 1 3 k_ (λi=>Aq ((l3.set i2.toNat x6).getD i 0)))])) (show l3.length=(l3.set i2.toNat x6).length from(Dc ..).symm))) (Af q MS Sk (tN h)))) λh=>tS h (gO (Be (Bi [5] Sk q))))) λx8 h=>gA (Af q [4] Sk (P6 (⟨[(4,(.vsl 10 x8.length))],[(Z4 10 x8),(Z8 v1 v11 9100002),(UQ 9100002 (sA v38))],[]⟩:St) (tS h (gK (e:=.ret) (H4 u7 (Le.trans (le_freeze (nm:=10) (sz:=1) (n:=x8.length) (e:=3) (f:=(λi=>Aq (x8.getD i 0))) (g:=(λi=>Aq (x8.getD i 0))) rfl ⟨rfl,trivial⟩ (λ_ _=>rfl) (by rw[hΓ];rfl)) (Gs (st':=⟨[(4,(Vz x8 10))],[(Yp 10 x8.length),(Z8 v1 v11 9100002),(UQ 9100002 (sA v38))],[]⟩) (by kernel_rfl)))))))))))
def Kw(a2:Ae)(a3:Int)(a5:Int)(a7:List J5):(Int×List Bc)->Option (LR (Int×List Bc) (List Bc)):=
 λ(i2,l3)=>bif decide (i2<a2.Phis.length) then Az (A2 i2 a2.Phis.length) ((Pe (a2.Phis.getD i2.toNat default) a3 a5 a7).bind λx6=>Az (A2 i2 l3.length) (some (.next (w64 (i2+1),l3.set i2.toNat ⟨x6.Bits,x6.Dst,x6.From,x6.Args⟩)))) else some (.done l3)
def Kx(a2:Ae)(a3:Int)(a5:Int)(a7:List J5):(Int×List Bz)->Option (LR (Int×List Bz) (List Bz)):=
 λ(i11,l12)=>bif decide (i11<a2.Ops.length) then Az (A2 i11 a2.Ops.length) ((Uw (a2.Ops.getD i11.toNat default).Args a3 a5 a7).bind λx15=>Az (A2 i11 l12.length) (some (.next (w64 (i11+1),l12.set i11.toNat ⟨(a2.Ops.getD i11.toNat default).Kind,(a2.Ops.getD i11.toNat default).Bits,(a2.Ops.getD i11.toNat default).Lanes,(a2.Ops.getD i11.toNat default).Dst,x15,(a2.Ops.getD i11.toNat default).Imm⟩)))) else some (.done l12)
def FB(a2:Ae)(i11:Int):=(a2.Ops.getD i11.toNat default)
def nE(x8:List Bc):=(λi=>El (x8.getD i default))
def IU(a7:List J5):=(Bu (λ(v_:Int)=>((Z5 v_):AV)) a7)
def vV(a2:Ae):=(List.replicate (a2.Ops.length:Int).toNat (default:Bz))
def vU(a2:Ae):=(List.replicate (a2.Phis.length:Int).toNat (default:Bc))
def sB(a3:Int)(a5:Int):Own:=(.row 137 (bx a3 a5 9100002))
def vW(l12:List Bz)(i11:Int)(a2:Ae)(x15:Aw):=(l12.set i11.toNat (⟨(FB a2 i11).Kind,(FB a2 i11).Bits,(FB a2 i11).Lanes,(FB a2 i11).Dst,x15,(FB a2 i11).Imm⟩:Bz))
def nD:List AV:=[Zx,Zx,L5,L5,Zx]
def xx(a2:Ae):List AV:=[(xO a2.Phis),(xP a2.Ops),(Z5 a2.End.Kind),(Z5 a2.End.Arg),(Z6 a2.End.To)]
def xy(a2:Ae)(i11:Int)(x15:Aw):List AV:=[(.int .i64 (FB a2 i11).Kind),(.int .i64 (FB a2 i11).Bits),(.int .i64 (FB a2 i11).Lanes),(.int .i64 (FB a2 i11).Dst),(Z6 x15),(.int .u64 (FB a2 i11).Imm)]
def xw(x8:List Bc)(l12:List Bz)(i11:Int)(a2:Ae):List MM:=[bz,(3,(.ptr 3 0)),ZA,(Vh 15 x8.length),(8,(.vsl 34 l12.length)),(9,(Z5 i11)),(10,(.ptr 10 0)),(36,(xP a2.Ops)),(bh 37 a2.Ops.length),(38,(Z5 i11))]
def Kv(a2:Ae)(a3:Int)(a5:Int)(a7:List J5):Option Ae:=
 Az (0<=(a2.Phis.length:Int)/\a2.Phis.length<=(a2.Phis.length:Int)/\a2.Phis.length<=(room:Int)) ((Ac   (Kw a2 a3 a5 a7) (0,List.replicate (a2.Phis.length:Int).toNat default)).bind λx8=>Az (0<=(a2.Ops.length:Int)/\(a2.Ops.length:Int)<=a2.Ops.length/\a2.Ops.length<=(room:Int)) ((Ac   (Kx a2 a3 a5 a7) (0,List.replicate (a2.Ops.length:Int).toNat default)).bind λx17=>(G5 a2.End.Arg a3 a5 a7).bind λx19=>(Qu a2.End.To a3 a5 a7).bind λx20=>some ⟨x8,x17,⟨a2.End.Kind,x19,x20⟩⟩))
variable{v42:Ae}{v9:Ae}
theorem T3(h:Kv v9 v1 v11 v38=some v42):sP 85 [(.ptr 30000 0),(.agg (Cj v9))] [(Z8 v1 v11 9100002),(9100002,.obj (.map true .i64 (Bu (λ(v_:Int)=>((Z5 v_):AV)) v38)))] (.agg (Cj v42)) [(Z8 v1 v11 9100002),(9100002,.obj (.map true .i64 (Bu (λ(v_:Int)=>((Z5 v_):AV)) v38)))]:=
 sG Tryz.func85 λΓ q=>have hΓ:=q.own;Af q S6 eV (tV q bc CN h λh=>by exact gLe (Le.trans (Sn 15 (show ∀ k_,k_<((v9.Phis.length:Int).toNat)->AVleL ((λi_=>AV.eraseAll (λn_=>Bw n_ CN) ((λ_=>[L5,L5,Zx,Zx]) i_)) k_) ((λi=>El ((vU v9).getD i default)) k_) from(λk hk=>M5 (e:=El) (d:=(default:Bc)) (.cons (AVle.refl _) (.cons (AVle.refl _) (.cons (λ_ _ _ _ _ hh=>AVle.untag _ _ _ _ _ (Ej _ _ _ _ _ hh)) (.cons (λ_ _ _ _ _ hh=>AVle.untag _ _ _ _ _ (Ej _ _ _ _ _ hh)) .nil)))) _ k (M6 hk)))) (R8 (λ(k_:Nat) u=>(Cp u [(Vh 15 k_)] [(15,.arr 4 67 k_ (λi=>El ((vU v9).getD i default)))])) (show(v9.Phis.length:Int).toNat=(vU v9).length from(N5 ..).symm))) (Af q kM CN (tL q h kM CN (λu (i2,l3)=>(Cp u [(Vh 15 l3.length),(19,(Z5 i2))] (nT 15 l3))) (λu l4=>aG Γ (.exit 0) (Nf bc CN u [(Vh 15 l4.length)] (nT 15 l4))) (λ⟨i2,l3⟩ y h=>Af q [0,3,4,5,17,18,19,20] CN (gC h (λh=>tV q [0,3,4,5,6,7,17,18,19] [3,4,7,15,30000,9100002] h λh=>tB h λx6 y6 h=>tC h λc7_ h=>tT q kM CN [⟨YI,[],(.agg (El x6)),[(Z8 v1 v11 9100002),(UQ 9100002 (IU v38))],[],S3⟩] (ci (JW y6) (t8 [(sB v1 v11),(.obj (.map true .i64 (IU v38)))] (c2 c7_ (Eq.refl l3.length)))) (gLe (Le.trans (Sn 15 (show ∀ k_,k_<l3.length->AVleL ((λi_=>AV.eraseAll (λn_=>Bw n_ CN) ((Fd (λi=>El (l3.getD i default)) i2.toNat 0 (El x6)) i_)) k_) ((λi=>El ((l3.set i2.toNat (⟨x6.Bits,x6.Dst,x6.From,x6.Args⟩:Bc)).getD i default)) k_) from(Bh (Dc ..).symm (λk_ hk_=>(Bj (AV.eraseAll (λn_=>Bw n_ CN)) ((Fv (λ_ _=>rfl) (Hv c7_) rfl) k_ hk_)).trans rfl)))) (R8 (λ(k_:Nat) u=>(Cp u [(Vh 15 k_)] [(15,.arr 4 67 k_ (λi=>El ((l3.set i2.toNat (⟨x6.Bits,x6.Dst,x6.From,x6.Args⟩:Bc)).getD i default)))])) (show l3.length=(l3.set i2.toNat (⟨x6.Bits,x6.Dst,x6.From,x6.Args⟩:Bc)).length from(Dc ..).symm))) (Af q kM CN (tN h)))) λh=>tS h (gO (Be (Bi bc CN q))))) λx8 h=>gA (tV q iX CI h λh=>by exact gLe (Le.trans (Sn 34 (show ∀ k_,k_<((v9.Ops.length:Int).toNat)->AVleL ((λi_=>AV.eraseAll (λn_=>Bw n_ CI) ((λ_=>[L5,L5,L5,L5,Zx,(.int .u64 (0:Int))]) i_)) k_) ((λi=>Lh ((vV v9).getD i default)) k_) from(λk hk=>M5 (e:=Lh) (d:=(default:Bz)) (.cons (AVle.refl _) (.cons (AVle.refl _) (.cons (AVle.refl _) (.cons (AVle.refl _) (.cons (λ_ _ _ _ _ hh=>AVle.untag _ _ _ _ _ (Ej _ _ _ _ _ hh)) (.cons (AVle.refl _) .nil)))))) _ k (M6 hk)))) (R8 (λ(k_:Nat) u=>(Cp u [(8,(.vsl 34 k_))] [(34,.arr 6 70 k_ (λi=>Lh ((vV v9).getD i default)))])) (show(v9.Ops.length:Int).toNat=(vV v9).length from(N5 ..).symm))) (Af q kK CI (tL q h kK CI (λu (i11,l12)=>(Cp u [(8,(.vsl 34 l12.length)),(38,(Z5 i11))] [(fH 34 l12)])) (λu l13=>aG Γ (.exit 2) (Nf iX CI u [(8,(.vsl 34 l13.length))] [(fH 34 l13)])) (λ⟨i11,l12⟩ y h=>Af q [0,3,4,5,8,36,37,38,39] CI (gC h (λh=>tV q rB qn h λh=>tB h λx15 y15 h=>tT q rB [3,4,10,15,34,47,30000,9100002] [(Z81 47 x15 v1 v11 (IU v38) x15.length)] (ci (bB y15) (rkl [(sB v1 v11),(.obj (.map true .i64 (IU v38)))])) (P6 (⟨(xw x8 l12 i11 v9),[(3,.row 64 (xx v9)),(4,.row 64 nD),(10,.row 70 [(.int .i64 (FB v9 i11).Kind),(.int .i64 (FB v9 i11).Bits),(.int .i64 (FB v9 i11).Lanes),(.int .i64 (FB v9 i11).Dst),(Vz x15 47),(.int .u64 (FB v9 i11).Imm)]),(15,.arr 4 67 x8.length (nE x8)),(fH 34 l12),(Yp 47 x15.length),(Z8 v1 v11 9100002),(UQ 9100002 (IU v38))],[]⟩:St) (gLe (show Le Γ _ (⟨(xw x8 l12 i11 v9),[(3,.row 64 (xx v9)),(4,.row 64 nD),(10,.row 70 (xy v9 i11 x15)),(15,.arr 4 67 x8.length (nE x8)),(fH 34 l12),(Z8 v1 v11 9100002),(UQ 9100002 (IU v38))],[]⟩:St) from Bi rB qn q) (tC h λc16_ h=>tU q kK CI (c2 c16_ (Eq.refl l12.length)) (gLe (Le.trans (Sn 34 (show ∀ k_,k_<l12.length->AVleL ((λi_=>AV.eraseAll (λn_=>Bw n_ CI) ((Fd (λi=>Lh (l12.getD i default)) i11.toNat 0 (xy v9 i11 x15)) i_)) k_) ((λi=>Lh ((vW l12 i11 v9 x15).getD i default)) k_) from(Bh (Dc ..).symm (λk_ hk_=>(Bj (AV.eraseAll (λn_=>Bw n_ CI)) ((Fv (λ_ _=>rfl) (Hv c16_) rfl) k_ hk_)).trans rfl)))) (R8 (λ(k_:Nat) u=>(Cp u [(8,(.vsl 34 k_))] [(34,.arr 6 70 k_ (λi=>Lh ((vW l12 i11 v9 x15).getD i default)))])) (show l12.length=(vW l12 i11 v9 x15).length from(Dc ..).symm))) (Af q kK CI (tN h))))))) λh=>tS h (gO (Be (Bi iX CI q))))) λx17 h=>gA (tB h λx19 y19 h=>tB h λx20 y20 h=>tT q [4,5,8,11] [4,11,15,34,67,30000,9100002] [(yU x19 v1 v11 (IU v38)),(Z81 67 x20 v1 v11 (IU v38) x20.length)] (ci (Mf y19) (t8 [(sB v1 v11),(.obj (.map true .i64 (IU v38)))] (ci (NK y20) (rkl [(sB v1 v11),(.obj (.map true .i64 (IU v38)))])))) (P6 (⟨[ZA,(Vh 15 x8.length),(8,(.vsl 34 x17.length)),(11,(.ptr 11 0))],[(4,.row 64 nD),(11,.row 62 [(Z5 v9.End.Kind),(Z5 x19),(Vz x20 67)]),(15,.arr 4 67 x8.length (nE x8)),(fH 34 x17),(Yp 67 x20.length),(Z8 v1 v11 9100002),(UQ 9100002 (IU v38))],[]⟩:St) (gLe (Le.trans (le_freeze (nm:=15) (sz:=4) (n:=x8.length) (e:=67) (f:=(nE x8)) (g:=(nE x8)) rfl ⟨rfl,trivial⟩ (λ_ _=>rfl) (by rw[hΓ];rfl)) (Gs (st':=⟨[ZA,(5,(AV.list 4 El default x8 (.own 15))),(8,(.vsl 34 x17.length)),(11,(.ptr 11 0))],[(4,.row 64 nD),(11,.row 62 [(Z5 v9.End.Kind),(Z5 x19),(Vz x20 67)]),(15,.tok 4 67 x8.length),(fH 34 x17),(Yp 67 x20.length),(Z8 v1 v11 9100002),(UQ 9100002 (IU v38))],[]⟩) (by kernel_rfl))) (gLe (Le.trans (le_freeze (nm:=34) (sz:=6) (n:=x17.length) (e:=70) (f:=(λi=>Lh (x17.getD i default))) (g:=(λi=>Lh (x17.getD i default))) rfl ⟨rfl,trivial⟩ (λ_ _=>rfl) (by rw[hΓ];rfl)) (Gs (st':=⟨[ZA,(5,(AV.list 4 El default x8 (.own 15))),(8,(wB x17 34)),(11,(.ptr 11 0))],[(4,.row 64 nD),(11,.row 62 [(Z5 v9.End.Kind),(Z5 x19),(Vz x20 67)]),(15,.tok 4 67 x8.length),(34,.tok 6 70 x17.length),(Yp 67 x20.length),(Z8 v1 v11 9100002),(UQ 9100002 (IU v38))],[]⟩) (by kernel_rfl))) (Af q [4] [4,15,34,67,30000,9100002] (tS h (Cc YI)))))))))))))
def G3(a2:TFunc)(a3:Int)(a5:Int):zV->Option zW:=
 λ(i3,l4)=>bif decide (i3<(a2.Blocks.getD a5.toNat default).Phis.length) then Az (A2 i3 (a2.Blocks.getD a5.toNat default).Phis.length) (Az (A2 0 ((a2.Blocks.getD a5.toNat default).Phis.getD i3.toNat default).Args.length) ((G5 (((a2.Blocks.getD a5.toNat default).Phis.getD i3.toNat default).Args.getD (0:Int).toNat 0) a3 a5 l4).bind λx8=>some (.next (w64 (i3+1),Jk l4 ((a2.Blocks.getD a5.toNat default).Phis.getD i3.toNat default).Dst x8)))) else some (.done l4)
abbrev zh:=(LR (Int×List Ae) (List Ae))
def G4(a2:TFunc)(a3:Int)(a5:Int)(l5:List J5)(x11:List Bz):(Int×List Ae)->Option zh:=
 λ(i12,l13)=>bif decide (i12<a2.Blocks.length) then Option.bind  (Az (A2 i12 a2.Blocks.length) (bif i12==a3 then(Kv ⟨(a2.Blocks.getD a3.toNat default).Phis,x11,⟨(a2.Blocks.getD a5.toNat default).End.Kind,(a2.Blocks.getD a5.toNat default).End.Arg,(a2.Blocks.getD a5.toNat default).End.To⟩⟩ a3 a5 l5).bind λx17=>Az (l13.length+[(⟨x17.Phis,x17.Ops,⟨x17.End.Kind,x17.End.Arg,x17.End.To⟩⟩:Ae)].length<=room) (some (l13++[⟨x17.Phis,x17.Ops,⟨x17.End.Kind,x17.End.Arg,x17.End.To⟩⟩])) else bif i12==a5 then some l13 else(Kv (a2.Blocks.getD i12.toNat default) a3 a5 l5).bind λx19=>Az (l13.length+[(⟨x19.Phis,x19.Ops,⟨x19.End.Kind,x19.End.Arg,x19.End.To⟩⟩:Ae)].length<=room) (some (l13++[⟨x19.Phis,x19.Ops,⟨x19.End.Kind,x19.End.Arg,x19.End.To⟩⟩])))) λx21=>some (.next (w64 (i12+1),x21)) else some (.done l13)
def Ze:=(λ(v_:Int)=>((Z5 v_):AV))
def UP(a2:TFunc):AV:=(Z6 a2.Params)
def vZ:AV:=(AV.list 5 Cj default ([]:List Ae) .exact)
def vY:List AV:=[Zx,L5,Zx]
def yB(a2:TFunc)(a5:Int)(i3:Int):=(((a2.Blocks.getD a5.toNat default).Phis).getD i3.toNat default)
def sC(x17:Ae):=([(⟨x17.Phis,x17.Ops,(⟨x17.End.Kind,x17.End.Arg,x17.End.To⟩:On)⟩:Ae)]:List Ae)
def sD(x19:Ae):=([(⟨x19.Phis,x19.Ops,(⟨x19.End.Kind,x19.End.Arg,x19.End.To⟩:On)⟩:Ae)]:List Ae)
def yA(a2:TFunc)(a3:Int)(a5:Int):=([(a2.Blocks.getD a3.toNat default).Ops,(a2.Blocks.getD a5.toNat default).Ops]:List (List Bz))
def xz(a2:TFunc):List MM:=[bz,ZA,ed,(9,(.ptr 9 0)),(68,(UE a2.Blocks)),(bh 69 a2.Blocks.length),(70,L5)]
def vX(a2:TFunc)(a3:Int)(x11:List Bz)(a5:Int):List AV:=[(AV.list 4 El default (a2.Blocks.getD a3.toNat default).Phis .none),(wB x11 57),(.int .i64 (a2.Blocks.getD a5.toNat default).End.Kind),(.int .i64 (a2.Blocks.getD a5.toNat default).End.Arg),(AV.list 1 Aq 0 (a2.Blocks.getD a5.toNat default).End.To .none)]
def yC(a2:TFunc)(a3:Int)(x11:List Bz)(a5:Int)(x9:List J5):=(⟨(xz a2),[(4,.row 25 vY),(5,.row 64 (vX a2 a3 x11 a5)),(9,.row 25 [(UP a2),(Z5 a2.Ret),(AV.list 5 Cj default ([]:List Ae) (.own 5902))]),(29,.obj (.map true .i64 (Bu Ze x9))),(57,.tok 6 70 x11.length),(5902,.tok 5 64 (([]:List Ae).length)),(Z8 a3 a5 29)],[]⟩:St)
abbrev zi:=(TFunc×Int×Int×List (Int×Int))
def Fc(a2:TFunc)(a3:Int)(a5:Int):Option zi:=
 Az (A2 a3 a2.Blocks.length) (Az (A2 a5 a2.Blocks.length) ((Ac   (G3 a2 a3 a5) (0,[])).bind λx9=>(Fg [(a2.Blocks.getD a3.toNat default).Ops,(a2.Blocks.getD a5.toNat default).Ops]).bind λx11=>(Ac   (G4 a2 a3 a5 x9 x11) (0,[])).bind λx23=>some (⟨a2.Params,a2.Ret,x23⟩,a3,a5,x9)))
variable{v43:zi}
theorem Sc(h:Fc v0 v1 v11=some v43):sP 47 [(.ptr 30000 0),(V0 v0)] (yd 30000 v1 v11) (V0 v43.1) [(Z8 v43.2.1 v43.2.2.1 9200002),(9200002,.obj (.map false .i64 (Bu (λ(v_:Int)=>((Z5 v_):AV)) v43.2.2.2)))]:=
 sG Tryz.func47 λΓ q=>Af q S6 [3,4,30000] (tC h λc1_ h=>tC h λc2_ h=>tU q TK [3,4,5,6,30000] (c2 c1_ c2_) (Af q TK MR (gLe (R8 (λ(k_:List mP) u=>Cp u [] [(UQ 29 k_)]) (show[]=(Bu Ze ([]:List J5)) from rfl)) (Af q kL MR (tL q h kL MR (λu (i3,l4)=>(Cp u [(35,(Z5 i3))] [(29,.obj (.map true .i64 (Bu Ze l4)))])) (λu l5=>aG Γ (.exit 0) (Nf TK MR u [] [(29,.obj (.map true .i64 (Bu Ze l5)))])) (λ⟨i3,l4⟩ y h=>Af q [0,3,4,5,6,33,34,35,36] MR (gC h (λh=>tV q [0,3,4,5,6,8,33,34,35] [3,4,5,6,8,29,30000] h λh=>tC h λc7_ h=>tB h λx8 y8 h=>tT q kL MR [⟨hZ,[],(Z5 x8),[(Z8 v1 v11 9100002),(9100002,.obj (.map true .i64 (Bu Ze l4)))],[],[30000,29]⟩] (fb c7_ (Mf y8) (rkl [(.row 137 (bx v1 v11 29)),(.obj (.map true .i64 (Bu Ze l4)))])) (gLe (R8 (λ(k_:List mP) u=>Cp u [] [(UQ 29 k_)]) (show(Jk (Bu Ze l4) (yB v0 v11 i3).Dst (Z5 x8))=(Bu Ze (Jk l4 (yB v0 v11 i3).Dst x8)) from(af (f:=Ze) (l:=l4) (v:=x8) rfl rfl))) (Af q kL MR (tN h)))) λh=>tS h (gO (Be (Bi TK MR q))))) λx9 h=>gA (tB h λx11 y11 h=>gR q bc [3,4,5,29,57,30000] [(56,(AV.list 1 WI [] (yA v0 v1 v11) .exact))] [⟨[],[(20000,57)],(wB x11 20000),[(20000,.tok 6 70 x11.length)],[],[]⟩] (c2 (Br 1 WI [] (yA v0 v1 v11)) (Rs y11)) (gR q [0,3,4,5,9] [3,4,5,9,29,57,30000] [(66,(.agg [(UP v0),(Z5 v0.Ret),vZ]))] [] (c1 (show(AVle (.agg [(UP v0),(Z5 v0.Ret),Zx]) (.agg [(UP v0),(Z5 v0.Ret),vZ])) from(AVle.agg (.cons (AVle.refl _) (.cons (AVle.refl _) (.cons Ej .nil)))))) (Af q MQ qy (gLe (st':=(yC v0 v1 x11 v11 x9)) (Le.trans (Bi (st':=⟨(xz v0),[(4,.row 25 vY),(5,.row 64 (vX v0 v1 x11 v11)),(9,.row 25 [(UP v0),(Z5 v0.Ret),vZ]),(29,.obj (.map true .i64 (Bu Ze x9))),(57,.tok 6 70 x11.length),(Z8 v1 v11 29)],[]⟩) MQ qy q) (Le.trans (AU (r:=9) (j:=2) (nm:=5902) (sz':=5) (λi=>Cj (([]:List Ae).getD i default)) 64 rfl rfl (nl rfl) rfl (.inl ⟨rfl,rfl⟩) (λh_=>absurd h_ (by decide))) (Bi (st':=(yC v0 v1 x11 v11 x9)) MQ TW q))) (tL q h MQ TW (λu (i12,l13)=>(Cp u [(70,(Z5 i12))] [(9,.row 25 [(UP v0),(Z5 v0.Ret),(wA l13 5902)]),(Li 5902 64 l13.length)])) (λu l14=>aG Γ (.exit 2) (Nf [4,9] qz u [] [(9,.row 25 [(UP v0),(Z5 v0.Ret),(wA l14 5902)]),(Li 5902 64 l14.length)])) (λ⟨i12,l13⟩ y h=>Af q [0,4,5,9,68,69,70,71] TW (gC h (λh=>tB h λx21 y21 h=>gJ y21 (λl15=>aG Γ .normal (⟨[bz,ZA,ed,(9,(.ptr 9 0)),(68,(UE v0.Blocks)),(bh 69 v0.Blocks.length),(70,(Z5 i12))],[(4,.row 25 vY),(5,.row 64 (vX v0 v1 x11 v11)),(9,.row 25 [(UP v0),(Z5 v0.Ret),(wA l15 5902)]),(29,.obj (.map true .i64 (Bu Ze x9))),(57,.tok 6 70 x11.length),(Li 5902 64 l15.length),(Z8 v1 v11 29)],[]⟩:St)) (λy h=>tV q [0,4,5,9,10,11,68,69,70] kD h λh=>tW q [0,4,5,9,11,68,69,70,75] kD [0,4,5,9,11,68,69,70,75,84] kD (gC h (λh=>tB h λx17 y17 h=>tC h λc18_ h=>gR q MQ TW (Z56 95 (sC x17) 96 l13 5902) [⟨hZ,[],(.agg (Cj x17)),[(Z8 v1 v11 9100002),(9100002,.obj (.map true .i64 (Bu Ze x9)))],[],[30000,29]⟩] (ci (T3 y17) (t8 [(.row 137 (bx v1 v11 29)),(.obj (.map true .i64 (Bu Ze x9)))] (c5 (Br 5 Cj (default:Ae) (sC x17)) (Eq.refl l13.length) c18_ (Ix 5 5902 Cj (default:Ae) l13 (sC x17)) (E2 l13 (sC x17))))) (tS h (gK (Be Io)))) λh=>Af q [0,4,5,9,11,68,69,70,98] kD (gC h (λh=>tS h (gK (Be (Bi MQ TW q)))) λh=>tB h λx19 y19 h=>tC h λc20_ h=>gR q MQ TW (Z56 81 (sD x19) 82 l13 5902) [⟨hZ,[],(.agg (Cj x19)),[(Z8 v1 v11 9100002),(9100002,.obj (.map true .i64 (Bu Ze x9)))],[],[30000,29]⟩] (ci (T3 y19) (t8 [(.row 137 (bx v1 v11 29)),(.obj (.map true .i64 (Bu Ze x9)))] (c5 (Br 5 Cj (default:Ae) (sD x19)) (Eq.refl l13.length) c20_ (Ix 5 5902 Cj (default:Ae) l13 (sD x19)) (E2 l13 (sD x19))))) (tS h (gK (Be Io)))))) (gA (Af q MQ TW (tN h)))) λh=>tS h (gO (Be (Bi [4,9] qz q))))) λx23 h=>gA (Af q [4] [4,29,5902,30000] (P6 (⟨[ZA],[(4,.row 25 [(UP v0),(Z5 v0.Ret),(wA x23 5902)]),(29,.obj (.map true .i64 (Bu Ze x9))),(Li 5902 64 x23.length),(Z8 v1 v11 29)],[]⟩:St) (tS h (gK (e:=.ret) (H4 [(30000,30000),(29,9200002)] (Le.trans (fw (nm:=29) (.map false .i64 (Bu Ze x9)) rfl (λ_ _ _ _ h_=>QT h_)) (Bi (st':=⟨[ZA],[(4,.row 25 [(UP v0),(Z5 v0.Ret),(wA x23 5902)]),(29,.obj (.map false .i64 (Bu Ze x9))),(Li 5902 64 x23.length),(Z8 v1 v11 29)],[]⟩) [4] [4,29,5902,30000] q)))))))))))))))))
def I4(a2:TFunc):Option TFunc:=
 none
variable{v44:TFunc}
theorem Pu(h:I4 v0=some v44):sP 47 [.nilp,(V0 v0)] [] (V0 v44) []:=
 sG Tryz.func47 λΓ q=>Af q S6 [3,4] (nomatch h)
abbrev mQ:=(Aw×Int×List Ae)
abbrev zj:=(LR (Aw×Int×List Ae) TFunc)
def O2 :mQ->Option zj:=
 λs_=>match s_ with|(l1,i2,l3)=>(Ks ⟨l1,i2,l3⟩).bind λx9=>bif x9.1.1 then bif x9.2 then(Fc ⟨l1,i2,l3⟩ x9.1.2.x x9.1.2.y).bind λx11=>some (.next (x11.1.Params,x11.1.Ret,x11.1.Blocks)) else some (.done ⟨l1,i2,l3⟩) else bif x9.2 then(I4 ⟨l1,i2,l3⟩).bind λx12=>some (.next (x12.Params,x12.Ret,x12.Blocks)) else some (.done ⟨l1,i2,l3⟩)
def ep(Γ:H3)(a0:TFunc)(r:TFunc):Exit->St->Prop:=fK Tryz.prog Γ Tryz.f17.results.toList [] (V0 r) []
def NB:=((.ptr 20000 0):AV)
def ka(x5:qk):List OK:=(yd 20000 x5.1.2.x x5.1.2.y)
def kd(x9:qk):List OK:=(yd 20000 x9.1.2.x x9.1.2.y)
def nF(l1:Aw)(i2:Int)(l3:List Ae):List AV:=[(Z6 l1),(Z5 i2),(UE l3)]
def Tx(a0:TFunc):Option TFunc:=
 (Rv   ((Lq a0).bind λx4=>bif !x4 then some (.done a0) else(Ks a0).bind λx5=>bif x5.1.1 then bif x5.2 then(Fc a0 x5.1.2.x x5.1.2.y).bind λx7=>some (.next (x7.1.Params,x7.1.Ret,x7.1.Blocks)) else some (.done a0) else bif x5.2 then(I4 a0).bind λx8=>some (.next (x8.Params,x8.Ret,x8.Blocks)) else some (.done a0)) O2).bind λx13=>some x13
theorem LY(h:Tx v0=some v44):sP 17 [(V0 v0)] [] (V0 v44) []:=
 sG Tryz.func17 λΓ q=>Af q D7 D7 (tB h λx13 y13 h=>gS y13 (λ(s_:mQ)=>match s_ with|(l1,i2,l3)=>0) (λ(s_:mQ)=>match s_ with|(l1,i2,l3)=>(⟨[CR,Uj],[(1,.row 25 (nF l1 i2 l3)),(2,.row 25 [Zx,L5,Zx])],[]⟩:St)) (λr_=>aR (ep Γ v0 r_)) (λy h=>tB h λx4 y4 h=>tT q [1,2,7] D7 [(Z2 x4)] (c1 (Sp y4)) (gC h (λh=>Af q [2] [2] (tS h (ee (Lj (H4 [] (Le.refl _ _)))))) λh=>tB h λx5 y5 h=>gB h (λhs6 h=>tT q be TS [⟨[],[(20000,11)],(.tuple [(bif true then NB else .nilp),(.bool x5.2)]),(bif true then(ka x5) else[]),[],[]⟩] (c1 (show(sP 46 [(V0 v0)] [] (.tuple [(bif true then NB else .nilp),(.bool x5.2)]) (bif true then(ka x5) else[])) from(eqB (λb_:Bool=>sP 46 [(V0 v0)] [] (.tuple [(bif b_ then NB else .nilp),(.bool x5.2)]) (bif b_ then(ka x5) else[])) hs6 (R3 y5)))) (Af q bZ TS (gC h (λh=>tB h λx7 y7 h=>tT q D7 D7 [⟨[(11,30000)],q8,(V0 x7.1),[(Z8 x7.2.1 x7.2.2.1 9200002),(9200002,.obj (.map false .i64 (Bu (λ(v_:Int)=>((Z5 v_):AV)) x7.2.2.2)))],[],[]⟩] (c1 (Sc y7)) (tS h (fg Io))) λh=>Af q [2] [2] (tS h (ee (Lj (H4 [] (Le.refl _ _)))))))) (λhs6 h=>tT q be D7 [⟨[],[],(.tuple [(bif false then NB else .nilp),(.bool x5.2)]),(bif false then(ka x5) else[]),[],[]⟩] (c1 (show(sP 46 [(V0 v0)] [] (.tuple [(bif false then NB else .nilp),(.bool x5.2)]) (bif false then(ka x5) else[])) from(eqB (λb_:Bool=>sP 46 [(V0 v0)] [] (.tuple [(bif b_ then NB else .nilp),(.bool x5.2)]) (bif b_ then(ka x5) else[])) hs6 (R3 y5)))) (Af q bZ D7 (gC h (λh=>tB h λx8 y8 h=>tT q D7 D7 [(nU x8)] (c1 (Pu y8)) (tS h (fg Io))) λh=>Af q [2] [2] (tS h (ee (Lj (H4 [] (Le.refl _ _)))))))))) (λ⟨l1,i2,l3⟩ y h=>tB h λx9 y9 h=>gB h (λhs10 h=>tT q be TS [⟨[],[(20000,11)],(.tuple [(bif true then NB else .nilp),(.bool x9.2)]),(bif true then(kd x9) else[]),[],[]⟩] (c1 (show(sP 46 [(.agg (nF l1 i2 l3))] [] (.tuple [(bif true then NB else .nilp),(.bool x9.2)]) (bif true then(kd x9) else[])) from(eqB (λb_:Bool=>sP 46 [(.agg (nF l1 i2 l3))] [] (.tuple [(bif b_ then NB else .nilp),(.bool x9.2)]) (bif b_ then(kd x9) else[])) hs10 (R3 y9)))) (Af q bZ TS (gC h (λh=>tB h λx11 y11 h=>tT q D7 D7 [⟨[(11,30000)],q8,(V0 x11.1),[(Z8 x11.2.1 x11.2.2.1 9200002),(9200002,.obj (.map false .i64 (Bu (λ(v_:Int)=>((Z5 v_):AV)) x11.2.2.2)))],[],[]⟩] (c1 (Sc y11)) (tS h (fg Io))) λh=>Af q [2] [2] (tS h (ee (Lj (H4 [] (Le.refl _ _)))))))) (λhs10 h=>tT q be D7 [⟨[],[],(.tuple [(bif false then NB else .nilp),(.bool x9.2)]),(bif false then(kd x9) else[]),[],[]⟩] (c1 (show(sP 46 [(.agg (nF l1 i2 l3))] [] (.tuple [(bif false then NB else .nilp),(.bool x9.2)]) (bif false then(kd x9) else[])) from(eqB (λb_:Bool=>sP 46 [(.agg (nF l1 i2 l3))] [] (.tuple [(bif b_ then NB else .nilp),(.bool x9.2)]) (bif b_ then(kd x9) else[])) hs10 (R3 y9)))) (Af q bZ D7 (gC h (λh=>tB h λx12 y12 h=>tT q D7 D7 [(nU x12)] (c1 (Pu y12)) (tS h (fg Io))) λh=>Af q [2] [2] (tS h (ee (Lj (H4 [] (Le.refl _ _))))))))) (Oz (λst' hk=>tS h (gK hk))))
def Ku(aA:Aw):bK->Option bL:=
 λ(i1,l2)=>bif decide (i1<aA.length) then Az (A2 i1 aA.length) (Az (A2 (aA.getD i1.toNat 0) l2.length) (some (.next (w64 (i1+1),l2.set (aA.getD i1.toNat 0).toNat true)))) else some (.done l2)
def Jh(aA:Aw)(a3:List Bool):Option (List Bool):=
 (Ac   (Ku aA) (0,a3)).bind λx6=>some x6
variable{v45:List Bool}
theorem Sq(h:Jh v2 v33=some v45):sP 81 [(Z6 v2),(.ptr 30000 0)] (yX v33.length v33) (.tuple []) (yX v45.length v45):=
 sG Tryz.func81 λΓ q=>Af q bf IL (tL q h bf IL (λu (i1,l2)=>(Cp u [(7,(Z5 i1))] (yX l2.length l2))) (λu l3=>aG Γ (.exit 0) (⟨[],(yX l3.length l3),[]⟩:St)) (λ⟨i1,l2⟩ y h=>Af q [1,5,6,7,8] IL (gC h (λh=>tV q [1,4,5,6,7] IL h λh=>tC h λc5_ h=>tU q bf IL (c2 c5_ (Eq.refl l2.length)) (gLe (Le.trans (Sn 35000 (show ∀ k_,k_<l2.length->AVleL ((λi_=>AV.eraseAll (λn_=>Bw n_ IL) ((Fd (λi=>eB (l2.getD i false)) (v2.getD i1.toNat 0).toNat 0 [(.bool true)]) i_)) k_) ((λi=>eB ((l2.set (v2.getD i1.toNat 0).toNat true).getD i false)) k_) from(Bh (Dc ..).symm (λk_ hk_=>(Bj (AV.eraseAll (λn_=>Bw n_ IL)) ((Fv (λ_ _=>rfl) (Hv c5_) rfl) k_ hk_)).trans rfl)))) (R8 (λ(k_:Nat) u=>(Cp u [] [(30000,.row 81 [(.vsl 35000 k_)]),(35000,.arr 1 4 k_ (λi=>eB ((l2.set (v2.getD i1.toNat 0).toNat true).getD i false)))])) (show l2.length=(l2.set (v2.getD i1.toNat 0).toNat true).length from(Dc ..).symm))) (Af q bf IL (tN h)))) λh=>tS h (gO (Be (Bi [] IL q))))) λx6 h=>ut (λst' hl7=>tS h (gK (e:=.normal) (H4 [(30000,30000),(35000,35000)] hl7))))
def Mj(a0:TFunc)(i2:Int):bK->Option bL:=
 λ(i7,l8)=>bif decide (i7<(a0.Blocks.getD i2.toNat default).Phis.length) then Az (A2 i7 (a0.Blocks.getD i2.toNat default).Phis.length) ((Jh ((a0.Blocks.getD i2.toNat default).Phis.getD i7.toNat default).Args l8).bind λx11=>Az (l8.length=x11.length) (some (.next (w64 (i7+1),x11)))) else some (.done l8)
def Mk(a0:TFunc)(i2:Int):bK->Option bL:=
 λ(i15,l16)=>bif decide (i15<(a0.Blocks.getD i2.toNat default).Ops.length) then Az (A2 i15 (a0.Blocks.getD i2.toNat default).Ops.length) ((Jh ((a0.Blocks.getD i2.toNat default).Ops.getD i15.toNat default).Args l16).bind λx19=>Az (l16.length=x19.length) (some (.next (w64 (i15+1),x19)))) else some (.done l16)
def Ml(a0:TFunc):bK->Option bL:=
 λ(i2,l3)=>bif decide (i2<a0.Blocks.length) then Option.bind  (Az (A2 i2 a0.Blocks.length) ((Ac   (Mj a0 i2) (0,l3)).bind λx13=>(Ac   (Mk a0 i2) (0,x13)).bind λx21=>bif bif (a0.Blocks.getD i2.toNat default).End.Kind==0 then true else(a0.Blocks.getD i2.toNat default).End.Kind==2 then(Jh [(a0.Blocks.getD i2.toNat default).End.Arg] x21).bind λx23=>Az (x21.length=x23.length) (some x23) else some x21)) λx25=>some (.next (w64 (i2+1),x25)) else some (.done l3)
def sE(a0:TFunc)(i2:Int):=(a0.Blocks.getD i2.toNat default)
def Kt(a0:TFunc):Option (List Bool):=
 Az (0<=(1024:Int)/\1024<=(1024:Int)/\1024<=(room:Int)) ((Ac   (Ml a0) (0,List.replicate (1024:Int).toNat false)).bind λx27=>some x27)
theorem Vu(h:Kt v0=some v33):sP 43 [(V0 v0)] [] (NN v33 20000) [(Q6 20000 v33.length)]:=
 sG Tryz.func43 λΓ q=>have hΓ:=q.own;gR q [1] [1] [(2,(AV.list 1 eB false ([]:List Bool) .exact))] [] (c1 (B1 1 eB false)) (tV q L4 [1,3,11] h λh=>by exact gLe (Le.trans (Sn 11 (show ∀ k_,k_<((1024:Int).toNat)->AVleL ((λi_=>AV.eraseAll (λn_=>Bw n_ [1,3,11]) ((λ_=>[(.bool false)]) i_)) k_) ((λi=>eB ((List.replicate (1024:Int).toNat false).getD i false)) k_) from(λk hk=>M5 (e:=eB) (d:=false) (.cons (AVle.refl _) .nil) _ k (M6 hk)))) (R8 (λ(k_:Nat) u=>(Cp u [] [(3,.row 81 [(.vsl 11 k_)]),(11,.arr 1 4 k_ (λi=>eB ((List.replicate (1024:Int).toNat false).getD i false)))])) (show(1024:Int).toNat=(List.replicate (1024:Int).toNat false).length from(N5 ..).symm))) (tW q J6 [1,3,11] SW CM (tL q h SW CM (λu (i2,l3)=>(Cp u [(16,(Z5 i2))] (vv l3.length l3))) (λu l4=>aG Γ (.exit 0) (Nf [3] CM u [] (vv l4.length l4))) (λ⟨i2,l3⟩ y h=>Af q [3,4,14,15,16,17] CM (gC h (λh=>tB h λx25 y25 h=>gJ y25 (λl5=>aG Γ .normal (⟨[(3,(.ptr 3 0)),(4,(.clo 81 [] [(.ptr 3 0)])),(14,(UE v0.Blocks)),(bh 15 v0.Blocks.length),(16,(Z5 i2))],(vv l5.length l5),[]⟩:St)) (λy h=>tV q eX S5 h λh=>Af q kE S5 (tL q h kE S5 (λu (i7,l8)=>(Cp u [(23,(Z5 i7))] (vv l8.length l8))) (λu l9=>aG Γ (.exit 2) (Nf eX S5 u [] (vv l9.length l9))) (λ⟨i7,l8⟩ y h=>Af q [3,4,6,14,15,16,21,22,23,24] S5 (gC h (λh=>tV q [3,4,6,8,14,15,16,21,22,23] [3,6,8,11] h λh=>tB h λx11 y11 h=>tC h λc12_ h=>tT q kE S5 [(Z93 x11.length x11)] (c1 (Sq y11)) (Af q kE S5 (tN h))) λh=>tS h (gO (Be (Bi eX S5 q))))) λx13 h=>gA (Af q kF S5 (tL q h kF S5 (λu (i15,l16)=>(Cp u [(35,(Z5 i15))] (vv l16.length l16))) (λu l17=>aG Γ (.exit 4) (Nf eX S5 u [] (vv l17.length l17))) (λ⟨i15,l16⟩ y h=>Af q [3,4,6,14,15,16,33,34,35,36] S5 (gC h (λh=>tV q [3,4,6,10,14,15,16,33,34,35] [3,6,10,11] h λh=>tB h λx19 y19 h=>tC h λc20_ h=>tT q kF S5 [(Z93 x19.length x19)] (c1 (Sq y19)) (Af q kF S5 (tN h))) λh=>tS h (gO (Be (Bi eX S5 q))))) λx21 h=>gA (tU q [3,4,6,14,15,16,53] S5 (Yt ((((sE v0 i2).End.Kind:Int)==0)==false) (c1 (Lx (((sE v0 i2).End.Kind:Int)==0)))) (gC h (λh=>tB h λx23 y23 h=>tC h λc24_ h=>gR q SW CM [(58,(AV.list 1 Aq 0 ([(sE v0 i2).End.Arg]:Aw) .exact))] [(Z93 x23.length x23)] (c2 (Br 1 Aq (0:Int) ([(sE v0 i2).End.Arg]:Aw)) (Sq y23)) (tS h (gK (Be Io)))) λh=>tS h (gK (Be (Bi SW CM q))))))))) (gA (Af q SW CM (tN h)))) λh=>tS h (gO (Be (Bi [3] CM q))))) λx27 h=>gA (Af q [2] [11] (P6 (⟨[(2,(.vsl 11 x27.length))],[(Z9 11 x27)],[]⟩:St) (tS h (gK (e:=.ret) (H4 [(11,20000)] (Le.trans (le_freeze (nm:=11) (sz:=1) (n:=x27.length) (e:=4) (f:=(λi=>eB (x27.getD i false))) (g:=(λi=>eB (x27.getD i false))) rfl ⟨rfl,trivial⟩ (λ_ _=>rfl) (by rw[hΓ];rfl)) (Gs (st':=⟨[(2,(NN x27 11))],[(Q6 11 x27.length)],[]⟩) (by kernel_rfl)))))))))))
def kg:AV:=(AV.list 4 El default ([]:List Bc) .exact)
def yD:=(⟨[(2,(.vsl 36002 ([]:List Bc).length))],[(36002,.arr 4 67 (([]:List Bc).length) (λi=>El (([]:List Bc).getD i default)))],[]⟩:St)
def Cn(aJ:List Bc):Option (List Bc):=
 Az (aJ.length<=room) (some aJ)
variable{v46:List Bc}{v5:List Bc}
theorem Pm(h:Cn v5=some v46):sP 87 [(xO v5)] [] (.vsl 20000 v46.length) (nT 20000 v46):=by
 refine KA mix Tryz.func87 (λΓ hq=>?_);unfold Cn at h;refine gR hq [0] [] [(2,kg)] [] (c1 (B1 4 El (default:Bc))) ?_;refine Af hq [0,4] [] ?_;refine yn true v5.length (λhb=>?_) (λhb=>?_)
 ·replace h:=pT (some ([]:List Bc)) (λ(l2:List Bc)=>(Az (l2.length<=room) (some l2))) h (hb rfl) rfl (λh0=>by first|exact h0|simpa [Az,room] using h0);clear hb;refine gR hq [2] [] [(2,kg)] [] (c1 (B1 4 El (default:Bc))) ?_;refine P6 (⟨[(2,kg)],[],[]⟩:St) ?_;cases h;exact gK (e:=.ret) (H4 [(36002,20000)] (show Le Γ _ yD from Le.trans (Bi (st':=⟨[(2,kg)],[],[]⟩) [2] [] hq) (Le.trans (QC (t:=2) (nm:=36002) (sz':=4) (λi=>El (([]:List Bc).getD i default)) 67 rfl rfl) (Bi (st':=yD) [2] [36002] hq))))
 ·clear hb;obtain⟨hc1,h⟩:=Qd h;refine gR hq [2] [7] [(5,kg),(7,.vsl 7 0)] [] (ci (show(AVle (.slice 4 0 (λi=>([]:List (List AV)).getD i []) .exact) kg) from ZE rfl (λi hi=>absurd hi (Wz i))) (c1 hc1)) ?_;obtain rfl:=OI h;exact Cc [(7,20000)]
def Jd(aV:Bc)(a2:List Bool):Option Bool:=
 Az (A2 aV.Dst a2.length) (some !a2.getD aV.Dst.toNat false)
theorem U1(h:Jd v4 v33=some v3):sP 88 [(.agg (El v4)),(.rptr (ZK v33))] [] (.bool v3) []:=
 sG Tryz.func88 λΓ q=>Af q D7 [2] (tV q [3] [] h λh=>tS h (Cc []))
def C6(aJ:List Bc)(aa7:List Bool):Int->Option (LR Int (Unit ⊕ Int)):=
 λi1=>bif decide (i1<aJ.length) then Az (A2 i1 aJ.length) ((Jd (aJ.getD i1.toNat default) aa7).bind λx3=>bif x3 then some (.done (.inr i1)) else some (.next (w64 (i1+1)))) else some (.done (.inl ()))
def Ph(Γ:H3)(aJ:List Bc)(aa7:List Bool)(r:Int):Exit->St->Prop:=fK Tryz.prog Γ Tryz.f143.results.toList [] (.int .i64 r) []
def F2(aJ:List Bc)(aa7:List Bool):Option Int:=
 (Ac   (C6 aJ aa7) 0).bind λx4=>match x4 with | .inl _=>some (-1) | .inr r6=>some r6
theorem O4(h:F2 v5 v33=some v1):sP 143 [(xO v5),(.clo 88 [] [(.rptr (ZK v33))])] [] (.int .i64 v1) []:=
 sG Tryz.func143 λΓ q=>tW q Gn [] IP [] (tL q h IP [] (λu i1=>(Cp u [(8,(Z5 i1))] [])) (λu x_=>match x_ with|(.inl _)=>aG Γ (.exit 0) (⟨[],[],[]⟩:St)|(.inr r_)=>aR (Ph Γ v5 v33 r_)) (λi1 y h=>Af q iT [] (gC h (λh=>Af q iU [] (tC h λc2_ h=>tB h λx3 y3 h=>tT q iG [] [(Z2 x3)] (c2 c2_ (U1 y3)) (gC h (λh=>Af q [4] [] (tS h (gO (Lj (H4 [] (Le.refl _ _)))))) λh=>Af q IP [] (tN h)))) λh=>tS h (gO (Be (Bi [] [] q))))) λx4 h=>(match x4,h with | .inl _,h=>gA (Af q [4] [] (tS h (Cc []))) | .inr r6,h=>Oz (λst' hk=>tS h (gK hk))))
def Cw(aa4:List Bool):(Int×Int×List Bc)->Option (LR (Int×Int×List Bc) (Int×List Bc)):=
 λ(i2,i3,l4)=>bif decide (i3<l4.length) then Option.bind  (Az (A2 i3 l4.length) ((Jd (l4.getD i3.toNat default) aa4).bind λx10=>bif !x10 then Az (A2 i2 l4.length) (some (w64 (i2+1),l4.set i2.toNat ⟨(l4.getD i3.toNat default).Bits,(l4.getD i3.toNat default).Dst,(l4.getD i3.toNat default).From,(l4.getD i3.toNat default).Args⟩)) else some (i2,l4))) λx12=>match x12 with|(i7,l8)=>some (.next (i7,w64 (i3+1),l8)) else some (.done (i2,l4))
def vb(l6:List Bc)(i5:Int):=(NV l6 (0+i5.toNat) (l6.length-(0+i5.toNat)) (λ_=>(default:Bc)))
def va(l4:List Bc)(i2:Int)(i3:Int):=(l4.set i2.toNat (⟨(l4.getD i3.toNat default).Bits,(l4.getD i3.toNat default).Dst,(l4.getD i3.toNat default).From,(l4.getD i3.toNat default).Args⟩:Bc))
abbrev uW:=(Nat×List Bc)
def Dm(aJ:List Bc)(aa4:List Bool):Option uW:=
 (F2 aJ aa4).bind λx1=>bif x1==-1 then some (aJ.length,aJ) else(Ac   (Cw aa4) (x1,w64 (x1+1),aJ)).bind λx14=>match x14 with|(i5,l6)=>Az (0<=i5/\0+i5.toNat<=l6.length) (Az (0<=i5/\0+i5.toNat<=(NV l6 (0+i5.toNat) (l6.length-(0+i5.toNat)) λ_=>default).length) (some (0+i5.toNat,NV l6 (0+i5.toNat) (l6.length-(0+i5.toNat)) λ_=>default)))
variable{v47:uW}
theorem Oo(h:Dm v5 v33=some v47):sP 86 [(.vsl 34000 v5.length),(.clo 88 [] [(.rptr (ZK v33))])] (nT 34000 v5) (.vsub 34000 v47.2.length 0 v47.1) (nT 34000 v47.2):=
 sG Tryz.func86 λΓ q=>gR q Gn [34000] [(4,(AV.list 4 El default ([]:List Bc) .exact))] [] (c1 (B1 4 El (default:Bc))) (tB h λx1 y1 h=>tT q Nb [34000] [⟨[],[],(Z5 x1),[],[34000],[]⟩] (c3 (O4 y1) (show(EC []) from trivial) (Eq.refl v5.length)) (Af q [0,1,5,12] [34000] (gC h (λh=>Af q [4] [34000] (P6 (⟨[(4,(.vsl 34000 v5.length))],(nT 34000 v5),[]⟩:St) (tS h (gK (e:=.ret) (H4 SZ (Le.trans (jY (t:=4) (r:=34000) rfl rfl) (Bi (st':=⟨[(4,(.vsub 34000 v5.length 0 v5.length))],(nT 34000 v5),[]⟩) [4] [34000] q))))))) λh=>Af q W4 [34000] (tL q h W4 [34000] (λu (i2,i3,l4)=>(Cp u [(mY l4.length),(5,(Z5 i2)),(6,(Z5 i3))] (nT 34000 l4))) (λu (i5,l6)=>aG Γ (.exit 0) (⟨[(mY l6.length),(5,(Z5 i5))],(nT 34000 l6),[]⟩:St)) (λ⟨i2,i3,l4⟩ y h=>Af q [0,1,5,6,19] [34000] (gC h (λh=>tB h λx12 y12 h=>gJ y12 (λ(i7,l8)=>aG Γ .normal (⟨[(mY l8.length),(1,(.clo 88 [] [(.rptr (ZK v33))])),(5,(Z5 i7)),(6,(Z5 i3))],(nT 34000 l8),[]⟩:St)) (λy h=>tC h λc9_ h=>tU q [0,1,5,6,7] bg (c2 c9_ (Eq.refl l4.length)) (tB h λx10 y10 h=>tT q [0,1,5,6,7,29] bg [(Z2 x10)] (c1 (U1 y10)) (gC h (λh=>tC h λc11_ h=>tU q W4 [34000] (c2 c11_ (Eq.refl l4.length)) (gLe (Le.trans (Sn 34000 (show ∀ k_,k_<l4.length->AVleL ((λi_=>AV.eraseAll (λn_=>Bw n_ [34000]) ((Fd (λi=>El (l4.getD i default)) i2.toNat 0 (El (l4.getD i3.toNat default))) i_)) k_) ((λi=>El ((va l4 i2 i3).getD i default)) k_) from(Bh (Dc ..).symm (λk_ hk_=>(Bj (AV.eraseAll (λn_=>Bw n_ [34000])) ((Fv (λ_ _=>rfl) (Hv c11_) rfl) k_ hk_)).trans rfl)))) (R8 (λ(k_:Nat) u=>(Cp u [(mY k_)] [(34000,.arr 4 67 k_ (λi=>El ((va l4 i2 i3).getD i default)))])) (show l4.length=(va l4 i2 i3).length from(Dc ..).symm))) (Af q W4 [34000] (tS h (gK (Be Io)))))) λh=>tS h (gK (Be (Bi W4 [34000] q)))))) (match x12,h with|⟨i7,l8⟩,h=>gA (Af q W4 [34000] (tN h)))) λh=>tS h (gO (Be (Bi [0,5] [34000] q))))) λx14 h=>(match x14,h with|⟨i5,l6⟩,h=>gA (tC h λc16_ h=>tU q [0,5] [34000] (c2 c16_ (Eq.refl l6.length)) (gLe (Le.trans (Sn 34000 (show ∀ k_,k_<l6.length->AVleL ((λi_=>AV.eraseAll (λn_=>Bw n_ [34000]) ((WD (λi=>El (l6.getD i default)) (0+i5.toNat) (l6.length-(0+i5.toNat)) (λ_=>[L5,L5,Zx,Zx])) i_)) k_) ((λi=>El ((vb l6 i5).getD i default)) k_) from(oW (e:=El) (d:=(default:Bc)) (l:=l6) (.cons (AVle.refl _) (.cons (AVle.refl _) (.cons (λ_ _ _ _ _ hh=>AVle.untag _ _ _ _ _ (Ej _ _ _ _ _ hh)) (.cons (λ_ _ _ _ _ hh=>AVle.untag _ _ _ _ _ (Ej _ _ _ _ _ hh)) .nil)))) (λ_ _=>rfl)))) (R8 (λ(k_:Nat) u=>(Cp u [(mY k_)] [(34000,.arr 4 67 k_ (λi=>El ((vb l6 i5).getD i default)))])) (show l6.length=(vb l6 i5).length from(Ek ..)))) (tV q [4] [34000] h λh=>tS h (Cc SZ)))))))))
def kh:AV:=yZ
def yE:=(⟨[(2,(.vsl 36002 ([]:List Bz).length))],[(36002,.arr 6 70 (([]:List Bz).length) (λi=>Lh (([]:List Bz).getD i default)))],[]⟩:St)
def C7(aJ:List Bz):Option (List Bz):=
 Az (aJ.length<=room) (some aJ)
variable{v48:List Bz}
theorem Qx(h:C7 v7=some v48):sP 90 [(xP v7)] [] (.vsl 20000 v48.length) [(fH 20000 v48)]:=by
 refine KA mix Tryz.func90 (λΓ hq=>?_);unfold C7 at h;refine gR hq [0] [] [(2,kh)] [] (c1 (B1 6 Lh (default:Bz))) ?_;refine Af hq [0,4] [] ?_;refine yn true v7.length (λhb=>?_) (λhb=>?_)
 ·replace h:=pT (some ([]:List Bz)) (λ(l2:List Bz)=>(Az (l2.length<=room) (some l2))) h (hb rfl) rfl (λh0=>by first|exact h0|simpa [Az,room] using h0);clear hb;refine gR hq [2] [] [(2,kh)] [] (c1 (B1 6 Lh (default:Bz))) ?_;refine P6 (⟨[(2,kh)],[],[]⟩:St) ?_;cases h;exact gK (e:=.ret) (H4 [(36002,20000)] (show Le Γ _ yE from Le.trans (Bi (st':=⟨[(2,kh)],[],[]⟩) [2] [] hq) (Le.trans (QC (t:=2) (nm:=36002) (sz':=6) (λi=>Lh (([]:List Bz).getD i default)) 70 rfl rfl) (Bi (st':=yE) [2] [36002] hq))))
 ·clear hb;obtain⟨hc1,h⟩:=Qd h;refine gR hq [2] [7] [(5,kh),(7,.vsl 7 0)] [] (ci (show(AVle (.slice 6 0 (λi=>([]:List (List AV)).getD i []) .exact) kh) from ZE rfl (λi hi=>absurd hi (Wz i))) (c1 hc1)) ?_;obtain rfl:=OI h;exact Cc [(7,20000)]
def Je(a1:Bz)(a2:List Bool):Option Bool:=
 (Uv a1.Kind).bind λx1=>Az ((x1==true)=true->A2 a1.Dst a2.length) (some (bif x1 then !a2.getD a1.Dst.toNat false else false))
theorem U2(h:Je v6 v33=some v3):sP 91 [(VV v6),(.rptr (ZK v33))] [] (.bool v3) []:=
 sG Tryz.func91 λΓ q=>Af q D7 [2] (tB h λx1 y1 h=>tC h λc2_ h=>tT q [3] [] [(Z2 x1)] (ci (aq y1) (Yt (x1==true) (ci c2_ (Mr (x1==true) (c1 (Nd x1)))))) (tS h (Cc [])))
def Cx(aJ:List Bz)(aa7:List Bool):Int->Option (LR Int (Unit ⊕ Int)):=
 λi1=>bif decide (i1<aJ.length) then Az (A2 i1 aJ.length) ((Je (aJ.getD i1.toNat default) aa7).bind λx3=>bif x3 then some (.done (.inr i1)) else some (.next (w64 (i1+1)))) else some (.done (.inl ()))
def Ow(Γ:H3)(aJ:List Bz)(aa7:List Bool)(r:Int):Exit->St->Prop:=fK Tryz.prog Γ Tryz.f144.results.toList [] (.int .i64 r) []
def Ft(aJ:List Bz)(aa7:List Bool):Option Int:=
 (Ac   (Cx aJ aa7) 0).bind λx4=>match x4 with | .inl _=>some (-1) | .inr r6=>some r6
theorem Oq(h:Ft v7 v33=some v1):sP 144 [(xP v7),(.clo 91 [] [(.rptr (ZK v33))])] [] (.int .i64 v1) []:=
 sG Tryz.func144 λΓ q=>tW q Gn [] IP [] (tL q h IP [] (λu i1=>(Cp u [(8,(Z5 i1))] [])) (λu x_=>match x_ with|(.inl _)=>aG Γ (.exit 0) (⟨[],[],[]⟩:St)|(.inr r_)=>aR (Ow Γ v7 v33 r_)) (λi1 y h=>Af q iT [] (gC h (λh=>Af q iU [] (tC h λc2_ h=>tB h λx3 y3 h=>tT q iG [] [(Z2 x3)] (c2 c2_ (U2 y3)) (gC h (λh=>Af q [4] [] (tS h (gO (Lj (H4 [] (Le.refl _ _)))))) λh=>Af q IP [] (tN h)))) λh=>tS h (gO (Be (Bi [] [] q))))) λx4 h=>(match x4,h with | .inl _,h=>gA (Af q [4] [] (tS h (Cc []))) | .inr r6,h=>Oz (λst' hk=>tS h (gK hk))))
def De(aa4:List Bool):(Int×Int×List Bz)->Option (LR (Int×Int×List Bz) (Int×List Bz)):=
 λ(i2,i3,l4)=>bif decide (i3<l4.length) then Option.bind  (Az (A2 i3 l4.length) ((Je (l4.getD i3.toNat default) aa4).bind λx10=>bif !x10 then Az (A2 i2 l4.length) (some (w64 (i2+1),l4.set i2.toNat ⟨(l4.getD i3.toNat default).Kind,(l4.getD i3.toNat default).Bits,(l4.getD i3.toNat default).Lanes,(l4.getD i3.toNat default).Dst,(l4.getD i3.toNat default).Args,(l4.getD i3.toNat default).Imm⟩)) else some (i2,l4))) λx12=>match x12 with|(i7,l8)=>some (.next (i7,w64 (i3+1),l8)) else some (.done (i2,l4))
def ve(l6:List Bz)(i5:Int):=(NV l6 (0+i5.toNat) (l6.length-(0+i5.toNat)) (λ_=>(default:Bz)))
def vd(l4:List Bz)(i2:Int)(i3:Int):=(l4.set i2.toNat (⟨(l4.getD i3.toNat default).Kind,(l4.getD i3.toNat default).Bits,(l4.getD i3.toNat default).Lanes,(l4.getD i3.toNat default).Dst,(l4.getD i3.toNat default).Args,(l4.getD i3.toNat default).Imm⟩:Bz))
abbrev uX:=(Nat×List Bz)
def D1(aJ:List Bz)(aa4:List Bool):Option uX:=
 (Ft aJ aa4).bind λx1=>bif x1==-1 then some (aJ.length,aJ) else(Ac   (De aa4) (x1,w64 (x1+1),aJ)).bind λx14=>match x14 with|(i5,l6)=>Az (0<=i5/\0+i5.toNat<=l6.length) (Az (0<=i5/\0+i5.toNat<=(NV l6 (0+i5.toNat) (l6.length-(0+i5.toNat)) λ_=>default).length) (some (0+i5.toNat,NV l6 (0+i5.toNat) (l6.length-(0+i5.toNat)) λ_=>default)))
variable{v49:uX}
theorem Pn(h:D1 v7 v33=some v49):sP 89 [(.vsl 34000 v7.length),(.clo 91 [] [(.rptr (ZK v33))])] [(fH 34000 v7)] (.vsub 34000 v49.2.length 0 v49.1) [(fH 34000 v49.2)]:=
 sG Tryz.func89 λΓ q=>gR q Gn [34000] [(4,yZ)] [] (c1 (B1 6 Lh (default:Bz))) (tB h λx1 y1 h=>tT q Nb [34000] [⟨[],[],(Z5 x1),[],[34000],[]⟩] (c3 (Oq y1) (show(EC []) from trivial) (Eq.refl v7.length)) (Af q [0,1,5,12] [34000] (gC h (λh=>Af q [4] [34000] (P6 (⟨[(4,(.vsl 34000 v7.length))],[(fH 34000 v7)],[]⟩:St) (tS h (gK (e:=.ret) (H4 SZ (Le.trans (jY (t:=4) (r:=34000) rfl rfl) (Bi (st':=⟨[(4,(.vsub 34000 v7.length 0 v7.length))],[(fH 34000 v7)],[]⟩) [4] [34000] q))))))) λh=>Af q W4 [34000] (tL q h W4 [34000] (λu (i2,i3,l4)=>(Cp u [(mY l4.length),(5,(Z5 i2)),(6,(Z5 i3))] [(fH 34000 l4)])) (λu (i5,l6)=>aG Γ (.exit 0) (⟨[(mY l6.length),(5,(Z5 i5))],[(fH 34000 l6)],[]⟩:St)) (λ⟨i2,i3,l4⟩ y h=>Af q [0,1,5,6,19] [34000] (gC h (λh=>tB h λx12 y12 h=>gJ y12 (λ(i7,l8)=>aG Γ .normal (⟨[(mY l8.length),(1,(.clo 91 [] [(.rptr (ZK v33))])),(5,(Z5 i7)),(6,(Z5 i3))],[(fH 34000 l8)],[]⟩:St)) (λy h=>tC h λc9_ h=>tU q [0,1,5,6,7] bg (c2 c9_ (Eq.refl l4.length)) (tB h λx10 y10 h=>tT q [0,1,5,6,7,29] bg [(Z2 x10)] (c1 (U2 y10)) (gC h (λh=>tC h λc11_ h=>tU q W4 [34000] (c2 c11_ (Eq.refl l4.length)) (gLe (Le.trans (Sn 34000 (show ∀ k_,k_<l4.length->AVleL ((λi_=>AV.eraseAll (λn_=>Bw n_ [34000]) ((Fd (λi=>Lh (l4.getD i default)) i2.toNat 0 (Lh (l4.getD i3.toNat default))) i_)) k_) ((λi=>Lh ((vd l4 i2 i3).getD i default)) k_) from(Bh (Dc ..).symm (λk_ hk_=>(Bj (AV.eraseAll (λn_=>Bw n_ [34000])) ((Fv (λ_ _=>rfl) (Hv c11_) rfl) k_ hk_)).trans rfl)))) (R8 (λ(k_:Nat) u=>(Cp u [(mY k_)] [(34000,.arr 6 70 k_ (λi=>Lh ((vd l4 i2 i3).getD i default)))])) (show l4.length=(vd l4 i2 i3).length from(Dc ..).symm))) (Af q W4 [34000] (tS h (gK (Be Io)))))) λh=>tS h (gK (Be (Bi W4 [34000] q)))))) (match x12,h with|⟨i7,l8⟩,h=>gA (Af q W4 [34000] (tN h)))) λh=>tS h (gO (Be (Bi [0,5] [34000] q))))) λx14 h=>(match x14,h with|⟨i5,l6⟩,h=>gA (tC h λc16_ h=>tU q [0,5] [34000] (c2 c16_ (Eq.refl l6.length)) (gLe (Le.trans (Sn 34000 (show ∀ k_,k_<l6.length->AVleL ((λi_=>AV.eraseAll (λn_=>Bw n_ [34000]) ((WD (λi=>Lh (l6.getD i default)) (0+i5.toNat) (l6.length-(0+i5.toNat)) (λ_=>[L5,L5,L5,L5,Zx,(.int .u64 (0:Int))])) i_)) k_) ((λi=>Lh ((ve l6 i5).getD i default)) k_) from(oW (e:=Lh) (d:=(default:Bz)) (l:=l6) (.cons (AVle.refl _) (.cons (AVle.refl _) (.cons (AVle.refl _) (.cons (AVle.refl _) (.cons (λ_ _ _ _ _ hh=>AVle.untag _ _ _ _ _ (Ej _ _ _ _ _ hh)) (.cons (AVle.refl _) .nil)))))) (λ_ _=>rfl)))) (R8 (λ(k_:Nat) u=>(Cp u [(mY k_)] [(34000,.arr 6 70 k_ (λi=>Lh ((ve l6 i5).getD i default)))])) (show l6.length=(ve l6 i5).length from(Ek ..)))) (tV q [4] [34000] h λh=>tS h (Cc SZ)))))))))
def Kz(a0:TFunc)(aa5:List Bool):(Int×List Ae)->Option zh:=
 λ(i1,l2)=>bif decide (i1<a0.Blocks.length) then Az (A2 i1 a0.Blocks.length) ((Cn (a0.Blocks.getD i1.toNat default).Phis).bind λx5=>(Dm x5 aa5).bind λx6=>Az (x6.1<=x6.2.length) (Az (x5.length=x6.2.length) ((C7 (a0.Blocks.getD i1.toNat default).Ops).bind λx9=>(D1 x9 aa5).bind λx10=>Az (x10.1<=x10.2.length) (Az (x9.length=x10.2.length) (Az (l2.length+[(⟨x6.2.take x6.1,x10.2.take x10.1,⟨(a0.Blocks.getD i1.toNat default).End.Kind,(a0.Blocks.getD i1.toNat default).End.Arg,(a0.Blocks.getD i1.toNat default).End.To⟩⟩:Ae)].length<=room) (some (.next (w64 (i1+1),l2++[⟨x6.2.take x6.1,x10.2.take x10.1,⟨(a0.Blocks.getD i1.toNat default).End.Kind,(a0.Blocks.getD i1.toNat default).End.Arg,(a0.Blocks.getD i1.toNat default).End.To⟩⟩])))))))) else some (.done l2)
def fF(x10:uX):=(λi=>Lh (x10.2.getD i default))
def GI(a0:TFunc)(i1:Int):=(a0.Blocks.getD i1.toNat default)
def nH(x6:uW):=(λi=>El (x6.2.getD i default))
def nI(a0:TFunc)(i1:Int):AV:=(AV.list 1 Aq 0 (GI a0 i1).End.To .none)
def bt:List AV:=[Zx,L5,Zx]
def kj(a0:TFunc)(l2:List Ae):List AV:=[(Z6 a0.Params),(Z5 a0.Ret),(wA l2 5502)]
def vh(a0:TFunc):List AV:=[(Z6 a0.Params),(Z5 a0.Ret),(AV.list 5 Cj default ([]:List Ae) .exact)]
def yG(a0:TFunc):List AV:=[(Z6 a0.Params),(Z5 a0.Ret),(AV.list 5 Cj default ([]:List Ae) (.own 5502))]
def sF(x6:uW)(x10:uX)(a0:TFunc)(i1:Int):=([(⟨(x6.2.take x6.1),(x10.2.take x10.1),(⟨(GI a0 i1).End.Kind,(GI a0 i1).End.Arg,(GI a0 i1).End.To⟩:On)⟩:Ae)]:List Ae)
def vf(aa5:List Bool)(a0:TFunc):List MM:=[(3,(.rptr (ZK aa5))),ZA,ed,(14,(UE a0.Blocks)),(bh 15 a0.Blocks.length),(16,L5)]
def nG(aa5:List Bool)(a0:TFunc)(i1:Int):List MM:=[(3,(.rptr (ZK aa5))),ZA,ed,(7,(.ptr 7 0)),(14,(UE a0.Blocks)),(bh 15 a0.Blocks.length),(16,(Z5 i1))]
def Jj(a0:TFunc)(aa5:List Bool):Option TFunc:=
 (Ac   (Kz a0 aa5) (0,[])).bind λx14=>some ⟨a0.Params,a0.Ret,x14⟩
theorem Y1(h:Jj v0 v33=some v44):sP 48 [(V0 v0),(AV.list 1 eB false v33 .none)] [] (V0 v44) []:=
 sG Tryz.func48 λΓ q=>have hΓ:=q.own;gR q [2,3,4] [2,4] [(3,(.rptr []))] [] trivial (gR q [2,3,4,5] [2,4,5] [(12,(.agg (vh v0)))] [] (c1 (show(AVle (.agg [(Z6 v0.Params),(Z5 v0.Ret),Zx]) (.agg (vh v0))) from(AVle.agg (.cons (AVle.refl _) (.cons (AVle.refl _) (.cons Ej .nil)))))) (Af q YM [4,5] (gLe (st':=⟨(vf v33 v0),[(4,.row 25 bt),(5,.row 25 (yG v0)),(5502,.tok 5 64 (([]:List Ae).length))],[]⟩) (Le.trans (Bi (st':=⟨(vf v33 v0),[(4,.row 25 bt),(5,.row 25 (vh v0))],[]⟩) YM [4,5] q) (Le.trans (AU (r:=5) (j:=2) (nm:=5502) (sz':=5) (λi=>Cj (([]:List Ae).getD i default)) 64 rfl rfl (nl rfl) rfl (.inl ⟨rfl,rfl⟩) (λh_=>absurd h_ (by decide))) (Bi (st':=⟨(vf v33 v0),[(4,.row 25 bt),(5,.row 25 (yG v0)),(5502,.tok 5 64 (([]:List Ae).length))],[]⟩) YM FY q))) (tL q h YM FY (λu (i1,l2)=>(Cp u [(16,(Z5 i1))] [(5,.row 25 (kj v0 l2)),(Li 5502 64 l2.length)])) (λu l3=>aG Γ (.exit 0) (Nf [4,5] FY u [] [(5,.row 25 [(Z6 v0.Params),(Z5 v0.Ret),(wA l3 5502)]),(Li 5502 64 l3.length)])) (λ⟨i1,l2⟩ y h=>Af q [3,4,5,14,15,16,17] FY (gC h (λh=>tV q iC [4,5,7,5502] h λh=>tB h λx5 y5 h=>tB h λx6 y6 h=>tC h λc7_ h=>tC h λc8_ h=>tT q iC [4,5,7,22,5502] [⟨[],[(20000,22)],(.vsl 20000 x5.length),(nT 20000 x5),[],[]⟩,⟨[(22,34000)],[],(.vsub 34000 x6.2.length 0 x6.1),[(34000,.arr 4 67 x6.2.length (nH x6))],[],[]⟩] (c2 (Pm y5) (Oo y6)) (tB h λx9 y9 h=>tB h λx10 y10 h=>tC h λc11_ h=>tC h λc12_ h=>tT q iC [4,5,7,22,28,5502] [⟨[],[(20000,28)],(.vsl 20000 x9.length),[(fH 20000 x9)],[],[]⟩,⟨[(28,34000)],[],(.vsub 34000 x10.2.length 0 x10.1),[(34000,.arr 6 70 x10.2.length (fF x10))],[],[]⟩] (c2 (Qx y9) (Pn y10)) (P6 (⟨(nG v33 v0 i1),[(4,.row 25 bt),(5,.row 25 (kj v0 l2)),(7,.row 64 [(.vsub 22 x6.2.length 0 x6.1),(.vsub 28 x10.2.length 0 x10.1),(.int .i64 (GI v0 i1).End.Kind),(.int .i64 (GI v0 i1).End.Arg),(nI v0 i1)]),(22,.arr 4 67 x6.2.length (nH x6)),(28,.arr 6 70 x10.2.length (fF x10)),(Li 5502 64 l2.length)],[]⟩:St) (gLe (Le.trans (Le.trans (le_freeze (nm:=22) (sz:=4) (n:=x6.2.length) (e:=67) (f:=(nH x6)) (g:=(nH x6)) rfl ⟨rfl,trivial⟩ (λ_ _=>rfl) (by rw[hΓ];rfl)) (Gs (st':=⟨(nG v33 v0 i1),[(4,.row 25 bt),(5,.row 25 (kj v0 l2)),(7,.row 64 [(.slice 4 (x6.1-0) (λi=>(nH x6) (0+i)) .none),(.vsub 28 x10.2.length 0 x10.1),(.int .i64 (GI v0 i1).End.Kind),(.int .i64 (GI v0 i1).End.Arg),(nI v0 i1)]),(22,.tok 4 67 x6.2.length),(28,.arr 6 70 x10.2.length (fF x10)),(Li 5502 64 l2.length)],[]⟩) (by kernel_rfl))) (I6 (st':=⟨(nG v33 v0 i1),[(4,.row 25 bt),(5,.row 25 (kj v0 l2)),(7,.row 64 [(AV.list 4 El default (x6.2.take x6.1) .none),(.vsub 28 x10.2.length 0 x10.1),(.int .i64 (GI v0 i1).End.Kind),(.int .i64 (GI v0 i1).End.Arg),(nI v0 i1)]),(22,.tok 4 67 x6.2.length),(28,.arr 6 70 x10.2.length (fF x10)),(Li 5502 64 l2.length)],[]⟩) (.cons (AVle.refl _) (.cons (AVle.refl _) (.cons (AVle.refl _) (.cons (AVle.refl _) (.cons (AVle.refl _) (.cons (AVle.refl _) (.cons (AVle.refl _) .nil))))))) (.same (.same (.row (.cons (ny (e:=El) (d:=(default:Bc)) (And.intro trivial c7_).2) (.cons (AVle.refl _) (.cons (AVle.refl _) (.cons (AVle.refl _) (.cons (AVle.refl _) .nil))))) (.same (.same (.same .nil)))))))) (gLe (Le.trans (Le.trans (le_freeze (nm:=28) (sz:=6) (n:=x10.2.length) (e:=70) (f:=(fF x10)) (g:=(fF x10)) rfl ⟨rfl,trivial⟩ (λ_ _=>rfl) (by rw[hΓ];rfl)) (Gs (st':=⟨(nG v33 v0 i1),[(4,.row 25 bt),(5,.row 25 (kj v0 l2)),(7,.row 64 [(AV.list 4 El default (x6.2.take x6.1) .none),(.slice 6 (x10.1-0) (λi=>(fF x10) (0+i)) .none),(.int .i64 (GI v0 i1).End.Kind),(.int .i64 (GI v0 i1).End.Arg),(nI v0 i1)]),(22,.tok 4 67 x6.2.length),(28,.tok 6 70 x10.2.length),(Li 5502 64 l2.length)],[]⟩) (by kernel_rfl))) (I6 (st':=⟨(nG v33 v0 i1),[(4,.row 25 bt),(5,.row 25 (kj v0 l2)),(7,.row 64 [(AV.list 4 El default (x6.2.take x6.1) .none),(AV.list 6 Lh default (x10.2.take x10.1) .none),(.int .i64 (GI v0 i1).End.Kind),(.int .i64 (GI v0 i1).End.Arg),(nI v0 i1)]),(22,.tok 4 67 x6.2.length),(28,.tok 6 70 x10.2.length),(Li 5502 64 l2.length)],[]⟩) (.cons (AVle.refl _) (.cons (AVle.refl _) (.cons (AVle.refl _) (.cons (AVle.refl _) (.cons (AVle.refl _) (.cons (AVle.refl _) (.cons (AVle.refl _) .nil))))))) (.same (.same (.row (.cons (AVle.refl _) (.cons (ny (e:=Lh) (d:=(default:Bz)) (And.intro trivial c11_).2) (.cons (AVle.refl _) (.cons (AVle.refl _) (.cons (AVle.refl _) .nil))))) (.same (.same (.same .nil)))))))) (tC h λc13_ h=>gR q YM FY (Z56 35 (sF x6 x10 v0 i1) 36 l2 5502) [] (c5 (Br 5 Cj (default:Ae) (sF x6 x10 v0 i1)) (Eq.refl l2.length) c13_ (Ix 5 5502 Cj (default:Ae) l2 (sF x6 x10 v0 i1)) (E2 l2 (sF x6 x10 v0 i1))) (Af q YM FY (tN h)))))))) λh=>tS h (gO (Be (Bi [4,5] FY q))))) λx14 h=>gA (Af q [4] [4,5502] (tS h (Cc [])))))))
def Ns :mQ->Option zj:=
 λs_=>match s_ with|(l1,i2,l3)=>(Kt ⟨l1,i2,l3⟩).bind λx9=>(Jj ⟨l1,i2,l3⟩ x9).bind λx10=>(Ha x10).bind λx11=>(Ha ⟨l1,i2,l3⟩).bind λx12=>bif decide (x11<x12) then some (.next (x10.Params,x10.Ret,x10.Blocks)) else some (.done ⟨l1,i2,l3⟩)
def bj(Γ:H3)(a0:TFunc)(r:TFunc):Exit->St->Prop:=fK Tryz.prog Γ Tryz.f18.results.toList [] (V0 r) []
def R9(a0:TFunc):Option TFunc:=
 (Rv   ((Lq a0).bind λx4=>bif !x4 then some (.done a0) else(Kt a0).bind λx5=>(Jj a0 x5).bind λx6=>(Ha x6).bind λx7=>(Ha a0).bind λx8=>bif decide (x7<x8) then some (.next (x6.Params,x6.Ret,x6.Blocks)) else some (.done a0)) Ns).bind λx13=>some x13
theorem HU(h:R9 v0=some v44):sP 18 [(V0 v0)] [] (V0 v44) []:=
 sG Tryz.func18 λΓ q=>Af q D7 D7 (tB h λx13 y13 h=>gS y13 (λ(s_:mQ)=>match s_ with|(l1,i2,l3)=>0) (λ(s_:mQ)=>match s_ with|(l1,i2,l3)=>(⟨[CR,Uj],[(1,.row 25 [(Z6 l1),(Z5 i2),(UE l3)]),(2,.row 25 [Zx,L5,Zx])],[]⟩:St)) (λr_=>aR (bj Γ v0 r_)) (λy h=>tB h λx4 y4 h=>tT q CJ D7 [(Z2 x4)] (c1 (Sp y4)) (gC h (λh=>Af q [2] [2] (tS h (ee (Lj (H4 [] (Le.refl _ _)))))) λh=>tB h λx5 y5 h=>tB h λx6 y6 h=>tT q GB GB [(xM 10 x5 x5.length),(nU x6)] (c2 (Vu y5) (Y1 y6)) (tB h λx7 y7 h=>tB h λx8 y8 h=>tT q [1,2,3,16] GB [(UF x7),(UF x8)] (c2 (Qw y7) (Qw y8)) (gC h (λh=>Af q D7 D7 (tS h (fg Io))) λh=>Af q [2] [2] (tS h (ee (Lj (H4 [] (Le.refl _ _))))))))) (λ⟨l1,i2,l3⟩ y h=>tB h λx9 y9 h=>tB h λx10 y10 h=>tT q GB GB [(xM 10 x9 x9.length),(nU x10)] (c2 (Vu y9) (Y1 y10)) (tB h λx11 y11 h=>tB h λx12 y12 h=>tT q [1,2,3,16] GB [(UF x11),(UF x12)] (c2 (Qw y11) (Qw y12)) (gC h (λh=>Af q D7 D7 (tS h (fg Io))) λh=>Af q [2] [2] (tS h (ee (Lj (H4 [] (Le.refl _ _)))))))) (Oz (λst' hk=>tS h (gK hk))))
def Rp(a0:TFunc):Option TFunc:=
 (Tx a0).bind λx1=>(R9 x1).bind λx2=>some x2
theorem BJ(h:Rp v0=some v44):sP 20 [(V0 v0)] [] (V0 v44) []:=
 sG Tryz.func20 λΓ q=>Af q D7 D7 (tB h λx1 y1 h=>tB h λx2 y2 h=>tT q [2] [2] [(nU x1),(nU x2)] (c2 (LY y1) (HU y2)) (tS h (Cc [])))
def QI(x2:List Bool):(Aw×Int)->Option (LR (Aw×Int) Aw):=
 λ(l3,i4)=>bif decide (i4<x2.length) then Option.bind  (Az (A2 i4 x2.length) (bif x2.getD i4.toNat false then Az (l3.length+[i4].length<=room) (some (l3++[i4])) else some l3)) λx9=>some (.next (x9,w64 (i4+1))) else some (.done l3)
def kl:AV:=fG
def yI:=(⟨[(2,(Z96 6002))],[(6002,.tok 1 3 (([]:Aw).length))],[]⟩:St)
def yH(x2:List Bool):=(⟨[(3,(Z96 5003)),(10,(NN x2 10)),(bh 11 x2.length),(12,L5)],[(Q6 10 x2.length),(5003,.tok 1 3 (([]:Aw).length))],[]⟩:St)
def LQ(a0:TFunc):Option Aw:=
 (Lq a0).bind λx1=>bif !x1 then some [] else(Kt a0).bind λx2=>(Ac   (QI x2) ([],0)).bind λx11=>some x11
theorem ay(h:LQ v0=some v2):sP 14 [(V0 v0)] [] (Vz v2 20000) [(Yp 20000 v2.length)]:=
 sG Tryz.func14 λΓ q=>gR q [1] [1] [(2,kl)] [] (c1 (B1 1 Aq (0:Int))) (tB h λx1 y1 h=>tT q [1,8] [1] [(Z2 x1)] (c1 (Sp y1)) (gC h (λh=>gR q [2] [] [(2,kl)] [] (c1 (B1 1 Aq (0:Int))) (P6 (⟨[(2,kl)],[],[]⟩:St) (tS h (gK (e:=.ret) (H4 [(6002,20000)] (show Le Γ _ yI from Le.trans (Bi (st':=⟨[(2,kl)],[],[]⟩) [2] [] q) (Le.trans (Rj (t:=2) (nm:=6002) (sz':=1) (λi=>Aq (([]:Aw).getD i 0)) 3 rfl rfl (.inl ⟨rfl,rfl⟩) (λh_=>absurd h_ (by decide))) (Bi (st':=yI) [2] [6002] q)))))))) λh=>gR q L4 [1] [(3,kl)] [] (c1 (B1 1 Aq (0:Int))) (tB h λx2 y2 h=>tT q CO [10] [(xM 10 x2 x2.length)] (c1 (Vu y2)) (gLe (st':=(yH x2)) (Le.trans (Bi (st':=⟨[(3,kl),(10,(NN x2 10)),(bh 11 x2.length),(12,L5)],[(Q6 10 x2.length)],[]⟩) CO [10] q) (Le.trans (Rj (t:=3) (nm:=5003) (sz':=1) (λi=>Aq (([]:Aw).getD i 0)) 3 rfl rfl (.inl ⟨rfl,rfl⟩) (λh_=>absurd h_ (by decide))) (Bi (st':=(yH x2)) CO CH q))) (tL q h CO CH (λu (l3,i4)=>(Cp u [(3,(Vz l3 5003)),(12,(Z5 i4))] [(Yp 5003 l3.length)])) (λu l5=>aG Γ (.exit 0) (⟨[(3,(Vz l5 5003))],[(Yp 5003 l5.length)],[]⟩:St)) (λ⟨l3,i4⟩ y h=>Af q [3,10,11,12,13] CH (gC h (λh=>tB h λx9 y9 h=>gJ y9 (λl6=>aG Γ .normal (⟨[(3,(Vz l6 5003)),(10,(NN x2 10)),(bh 11 x2.length),(12,(Z5 i4))],[(Q6 10 x2.length),(Yp 5003 l6.length)],[]⟩:St)) (λy h=>tV q [3,4,5,10,11,12] CH h λh=>Af q [3,4,10,11,12,17] CH (gC h (λh=>tC h λc8_ h=>gR q CO CH (vr 20 i4 21 l3 5003) [] (c5 (Br 1 Aq (0:Int) ([i4]:Aw)) (Eq.refl l3.length) c8_ (Ix 1 5003 Aq (0:Int) l3 ([i4]:Aw)) (E2 l3 ([i4]:Aw))) (tS h (gK (Be Io)))) λh=>tS h (gK (Be (Bi CO CH q))))) (gA (Af q CO CH (tN h)))) λh=>tS h (gO (Be (Bi [3] [5003] q))))) λx11 h=>gA (Af q [2] [5003] (tS h (Cc bW))))))))
def F3:List Bz:=[⟨0,8,1,1,[],7⟩,⟨0,8,1,2,[],8⟩]
def Dg:List Ae:=([(⟨([]:List Bc),F3,(⟨(1:Int),(0:Int),([(1:Int)]:Aw)⟩:On)⟩:Ae),(⟨([(⟨(8:Int),(3:Int),([(0:Int)]:Aw),([(1:Int)]:Aw)⟩:Bc)]:List Bc),([]:List Bz),(⟨(0:Int),(3:Int),([]:Aw)⟩:On)⟩:Ae)]:List Ae)
def GJ:AV:=L5
def bu:AV:=ui
def kn:AV:=Zx
def vi(x4:Bool)(x1:TFunc):=(bif (bif (bif x4 then((x1.Blocks.length:Int)==1) else false) then(((x1.Blocks.getD (0:Int).toNat (default:Ae)).End.Arg:Int)==1) else false) then((((x1.Blocks.getD (0:Int).toNat (default:Ae)).Ops).length:Int)==2) else false)
def Aah(x2:TFunc):=((x2.Blocks.length:Int)==1)
def nJ(x4:Bool)(x1:TFunc)(x2:TFunc):=(bif (vi x4 x1) then(Aah x2) else false)
def OQ:AV:=fG
def yK(x2:TFunc):=((((x2.Blocks.getD (0:Int).toNat (default:Ae)).Ops).length:Int)==1)
def vj(x4:Bool)(x1:TFunc)(x2:TFunc):=((bif (nJ x4 x1 x2) then(yK x2) else false)==true)
def Aaz:=(⟨([]:Aw),(8:Int),Dg⟩:TFunc)
def sI:AV:=(AV.list 5 Cj default Dg .exact)
def yL(x4:Bool)(x1:TFunc):=((bif x4 then((x1.Blocks.length:Int)==1) else false)==true)
def sH:AV:=(AV.list 4 El default ([(⟨(8:Int),(3:Int),([(0:Int)]:Aw),([(1:Int)]:Aw)⟩:Bc)]:List Bc) .exact)
def yJ(x4:Bool)(x1:TFunc):=((bif (bif x4 then((x1.Blocks.length:Int)==1) else false) then(((x1.Blocks.getD (0:Int).toNat (default:Ae)).End.Arg:Int)==1) else false)==true)
def yM:AV:=(.agg [(AV.list 4 El default ([]:List Bc) .exact),(AV.list 6 Lh default F3 .exact),bu,GJ,Z80])
def m_locksteplaw16_awake :Option Bool:=
 ((Tx (⟨([]:Aw),(8:Int),Dg⟩:TFunc)).bind λx1=>((Rp (⟨([]:Aw),(8:Int),Dg⟩:TFunc)).bind λx2=>((LQ (⟨([]:Aw),(8:Int),Dg⟩:TFunc)).bind λx3=>((Ba x3 ([(1:Int),(3:Int)]:Aw)).bind λx4=>(Az (((bif x4 then((x1.Blocks.length:Int)==1) else false)==true)=true->(A2 (0:Int) x1.Blocks.length)) (Az (((bif (bif x4 then((x1.Blocks.length:Int)==1) else false) then(((x1.Blocks.getD (0:Int).toNat (default:Ae)).End.Arg:Int)==1) else false)==true)=true->(A2 (0:Int) x1.Blocks.length)) (Az (((bif (bif (bif (bif x4 then((x1.Blocks.length:Int)==1) else false) then(((x1.Blocks.getD (0:Int).toNat (default:Ae)).End.Arg:Int)==1) else false) then((((x1.Blocks.getD (0:Int).toNat (default:Ae)).Ops).length:Int)==2) else false) then((x2.Blocks.length:Int)==1) else false)==true)=true->(A2 (0:Int) x2.Blocks.length)) ((bif ((bif (bif (bif (bif (bif x4 then((x1.Blocks.length:Int)==1) else false) then(((x1.Blocks.getD (0:Int).toNat (default:Ae)).End.Arg:Int)==1) else false) then((((x1.Blocks.getD (0:Int).toNat (default:Ae)).Ops).length:Int)==2) else false) then((x2.Blocks.length:Int)==1) else false) then((((x2.Blocks.getD (0:Int).toNat (default:Ae)).Ops).length:Int)==1) else false)==true) then R9 (⟨([]:Aw),(8:Int),Dg⟩:TFunc) else some (default:TFunc)).bind λx8=>(some (bif (bif (bif (bif (bif (bif x4 then((x1.Blocks.length:Int)==1) else false) then(((x1.Blocks.getD (0:Int).toNat (default:Ae)).End.Arg:Int)==1) else false) then((((x1.Blocks.getD (0:Int).toNat (default:Ae)).Ops).length:Int)==2) else false) then((x2.Blocks.length:Int)==1) else false) then((((x2.Blocks.getD (0:Int).toNat (default:Ae)).Ops).length:Int)==1) else false) then((x8.Blocks.length:Int)==2) else false))))))))))
theorem X1  (r:Bool) (h:m_locksteplaw16_awake=some r):sP 10 [] [] (.bool r) []:=
 sG Tryz.func10 λΓ q=>Af q [] [] (gR q [1] [1] [(6,(Z97 GJ bu OQ))] [] (c1 (show(AVle (Z97 GJ bu kn) (Z97 GJ bu OQ)) from(AVle.agg (.cons (AVle.refl _) (.cons (AVle.refl _) (.cons (AVle.refl _) (.cons (AVle.refl _) (.cons Ej (.cons (AVle.refl _) .nil))))))))) (gR q D7 D7 [(7,(Z77 GJ bu OQ))] [] (c1 (show(AVle (Z77 GJ bu kn) (Z77 GJ bu OQ)) from(AVle.agg (.cons (AVle.refl _) (.cons (AVle.refl _) (.cons (AVle.refl _) (.cons (AVle.refl _) (.cons Ej (.cons (AVle.refl _) .nil))))))))) (gR q [3] [3] [(10,(AV.list 6 Lh default F3 .exact)),(11,Z80),(13,yM),(14,(AV.list 1 Aq 0 ([(0:Int)]:Aw) .exact)),(15,Z80),(17,sH),(18,(.agg [GJ,(.int .i64 (3:Int)),OQ])),(19,(.agg [sH,yZ,GJ,(.int .i64 (3:Int)),OQ])),(20,sI),(21,(.agg [OQ,(.int .i64 (8:Int)),sI]))] [] (d9_ (Br 6 Lh (default:Bz) F3) (Br 1 Aq (0:Int) ([(1:Int)]:Aw)) (show(AVle (.agg [kn,(AV.list 6 Lh default F3 .exact),bu,GJ,Z80]) yM) from(AVle.agg (.cons Ej (.cons (AVle.refl _) (.cons (AVle.refl _) (.cons (AVle.refl _) (.cons (AVle.refl _) .nil))))))) (Br 1 Aq (0:Int) ([(0:Int)]:Aw)) (Br 1 Aq (0:Int) ([(1:Int)]:Aw)) (Br 4 El (default:Bc) ([(⟨(8:Int),(3:Int),([(0:Int)]:Aw),([(1:Int)]:Aw)⟩:Bc)]:List Bc)) (show(AVle (.agg [GJ,(.int .i64 (3:Int)),kn]) (.agg [GJ,(.int .i64 (3:Int)),OQ])) from(AVle.agg (.cons (AVle.refl _) (.cons (AVle.refl _) (.cons Ej .nil))))) (show(AVle (.agg [sH,kn,GJ,(.int .i64 (3:Int)),OQ]) (.agg [sH,yZ,GJ,(.int .i64 (3:Int)),OQ])) from(AVle.agg (.cons (AVle.refl _) (.cons Ej (.cons (AVle.refl _) (.cons (AVle.refl _) (.cons (AVle.refl _) .nil))))))) (Br 5 Cj (default:Ae) Dg) (c1 (show(AVle (.agg [kn,(.int .i64 (8:Int)),sI]) (.agg [OQ,(.int .i64 (8:Int)),sI])) from(AVle.agg (.cons Ej (.cons (AVle.refl _) (.cons (AVle.refl _) .nil))))))) (tB h λx1 y1 h=>tT q [3,4] [3,4] [(nU x1)] (c1 (LY y1)) (tB h λx2 y2 h=>tT q [3,4,5] [3,4,5] [(nU x2)] (c1 (BJ y2)) (tB h λx3 y3 h=>tB h λx4 y4 h=>tC h λc5_ h=>tC h λc6_ h=>tC h λc7_ h=>tB h λx8 y8 h=>gR q [0] [] [(28,(AV.list 1 Aq 0 ([(1:Int),(3:Int)]:Aw) .exact))] [(xK 27 x3 x3.length),(Z2 x4),(nU x8)] (UG (ay y3) (Br 1 Aq (0:Int) ([(1:Int),(3:Int)]:Aw)) (Cl y4) (Yt (x4==true) (ci (Nd x4) (Mr (yL x4 x1) (ci c5_ (LJ (yL x4 x1) (ci (Nd (bif x4 then((x1.Blocks.length:Int)==1) else false)) (Mr (yJ x4 x1) (ci c6_ (LJ (yJ x4 x1) (ci (Nd (bif (bif x4 then((x1.Blocks.length:Int)==1) else false) then(((x1.Blocks.getD (0:Int).toNat (default:Ae)).End.Arg:Int)==1) else false)) (Yt ((vi x4 x1)==true) (ci (Nd (vi x4 x1)) (Mr ((nJ x4 x1 x2)==true) (ci c7_ (LJ ((nJ x4 x1 x2)==true) (UG (Nd (nJ x4 x1 x2)) (gI (vj x4 x1 x2)) (λ(hg:(vj x4 x1 x2)=true)=>(HU (Bf hg y8))) (Yt (vj x4 x1 x2) (c1 (Nd (bif (nJ x4 x1 x2) then(yK x2) else false))))))))))))))))))))) (tS h (Cc []))))))))
def vk(a8:Bz)(aE:Bz):=(a8.Dst==aE.Dst)
def nK(a8:Bz)(aE:Bz):=(bif (bif (a8.Kind==aE.Kind) then(a8.Bits==aE.Bits) else false) then(a8.Lanes==aE.Lanes) else false)
def Aaj(a8:Bz)(aE:Bz):=((bif (nK a8 aE) then(vk a8 aE) else false)==true)
def Aai(a8:Bz)(aE:Bz):=((bif (a8.Kind==aE.Kind) then(a8.Bits==aE.Bits) else false)==true)
def vl(a8:Bz)(aE:Bz):=(bif (bif (nK a8 aE) then(vk a8 aE) else false) then(a8.Imm==aE.Imm) else false)
def Kl(a8:Bz)(aE:Bz):Option Bool:=
 (bif (bif bif bif bif a8.Kind==aE.Kind then a8.Bits==aE.Bits else false then a8.Lanes==aE.Lanes else false then a8.Dst==aE.Dst else false then a8.Imm==aE.Imm else false)==true then Ba a8.Args aE.Args else some false).bind λx1=>some (bif bif bif bif bif a8.Kind==aE.Kind then a8.Bits==aE.Bits else false then a8.Lanes==aE.Lanes else false then a8.Dst==aE.Dst else false then a8.Imm==aE.Imm else false then x1 else false)
variable{v50:Bz}
theorem Zn(h:Kl v6 v50=some v3):sP 45 [(VV v6),(VV v50)] [] (.bool v3) []:=
 sG Tryz.func45 λΓ q=>Af q Cz Cz (tB h λx1 y1 h=>tT q [4] [] [(Z2 x1)] (LJ ((v6.Kind==v50.Kind)==true) (ci (Nd (v6.Kind==v50.Kind)) (LJ (Aai v6 v50) (ci (Nd (bif (v6.Kind==v50.Kind) then(v6.Bits==v50.Bits) else false)) (LJ ((nK v6 v50)==true) (ci (Nd (nK v6 v50)) (LJ (Aaj v6 v50) (ci (Nd (bif (nK v6 v50) then(vk v6 v50) else false)) (LJ ((vl v6 v50)==true) (c2 (λ(hg:((vl v6 v50)==true)=true)=>(Cl (Bf hg y1))) (Nd (vl v6 v50)))))))))))) (tS h (Cc [])))
def F9(a8:TFunc)(a2:TFunc)(i2:Int):Int->Option (LR Int (Unit ⊕ Bool)):=
 λi6=>bif decide (i6<(a8.Blocks.getD i2.toNat default).Phis.length) then Az (A2 i6 (a8.Blocks.getD i2.toNat default).Phis.length) (Az (A2 i6 (a2.Blocks.getD i2.toNat default).Phis.length) ((bif (bif ((a8.Blocks.getD i2.toNat default).Phis.getD i6.toNat default).Bits !=((a2.Blocks.getD i2.toNat default).Phis.getD i6.toNat default).Bits then true else((a8.Blocks.getD i2.toNat default).Phis.getD i6.toNat default).Dst !=((a2.Blocks.getD i2.toNat default).Phis.getD i6.toNat default).Dst)==false then Ba ((a8.Blocks.getD i2.toNat default).Phis.getD i6.toNat default).From ((a2.Blocks.getD i2.toNat default).Phis.getD i6.toNat default).From else some false).bind λx9=>(bif (bif bif ((a8.Blocks.getD i2.toNat default).Phis.getD i6.toNat default).Bits !=((a2.Blocks.getD i2.toNat default).Phis.getD i6.toNat default).Bits then true else((a8.Blocks.getD i2.toNat default).Phis.getD i6.toNat default).Dst !=((a2.Blocks.getD i2.toNat default).Phis.getD i6.toNat default).Dst then true else !x9)==false then Ba ((a8.Blocks.getD i2.toNat default).Phis.getD i6.toNat default).Args ((a2.Blocks.getD i2.toNat default).Phis.getD i6.toNat default).Args else some false).bind λx10=>bif bif bif bif ((a8.Blocks.getD i2.toNat default).Phis.getD i6.toNat default).Bits !=((a2.Blocks.getD i2.toNat default).Phis.getD i6.toNat default).Bits then true else((a8.Blocks.getD i2.toNat default).Phis.getD i6.toNat default).Dst !=((a2.Blocks.getD i2.toNat default).Phis.getD i6.toNat default).Dst then true else !x9 then true else !x10 then some (.done (.inr false)) else some (.next (w64 (i6+1))))) else some (.done (.inl ()))
def Ga(a8:TFunc)(a2:TFunc)(i2:Int):Int->Option (LR Int (Unit ⊕ Bool)):=
 λi13=>bif decide (i13<(a8.Blocks.getD i2.toNat default).Ops.length) then Az (A2 i13 (a8.Blocks.getD i2.toNat default).Ops.length) (Az (A2 i13 (a2.Blocks.getD i2.toNat default).Ops.length) ((Kl ((a8.Blocks.getD i2.toNat default).Ops.getD i13.toNat default) ((a2.Blocks.getD i2.toNat default).Ops.getD i13.toNat default)).bind λx16=>bif !x16 then some (.done (.inr false)) else some (.next (w64 (i13+1))))) else some (.done (.inl ()))
def Gb(a8:TFunc)(a2:TFunc):Int->Option (LR Int (Unit ⊕ Bool)):=
 λi2=>bif decide (i2<a8.Blocks.length) then Az (A2 i2 a8.Blocks.length) (Az (A2 i2 a2.Blocks.length) ((bif bif bif bif ((a8.Blocks.getD i2.toNat default).Phis.length:Int)!=(a2.Blocks.getD i2.toNat default).Phis.length then true else((a8.Blocks.getD i2.toNat default).Ops.length:Int)!=(a2.Blocks.getD i2.toNat default).Ops.length then true else(a8.Blocks.getD i2.toNat default).End.Kind !=(a2.Blocks.getD i2.toNat default).End.Kind then true else(a8.Blocks.getD i2.toNat default).End.Arg !=(a2.Blocks.getD i2.toNat default).End.Arg==false then Ba (a8.Blocks.getD i2.toNat default).End.To (a2.Blocks.getD i2.toNat default).End.To else some false).bind λx5=>bif bif bif bif bif (a8.Blocks.getD i2.toNat default).Phis.length !=((a2.Blocks.getD i2.toNat default).Phis.length:Int) then true else((a8.Blocks.getD i2.toNat default).Ops.length:Int)!=(a2.Blocks.getD i2.toNat default).Ops.length then true else(a8.Blocks.getD i2.toNat default).End.Kind !=(a2.Blocks.getD i2.toNat default).End.Kind then true else(a8.Blocks.getD i2.toNat default).End.Arg !=(a2.Blocks.getD i2.toNat default).End.Arg then true else !x5 then some (.done (.inr false)) else(Ac   (F9 a8 a2 i2) 0).bind λx11=>match x11 with | .inl _=>(Ac   (Ga a8 a2 i2) 0).bind λx17=>(match x17 with | .inl _=>some (.next (w64 (i2+1))) | .inr r19=>some (.done (.inr r19))) | .inr r20=>some (.done (.inr r20)))) else some (.done (.inl ()))
def Ng(Γ:H3)(a8:TFunc)(a2:TFunc)(r:Bool):Exit->St->Prop:=fK Tryz.prog Γ Tryz.f16.results.toList [] (.bool r) []
def vm(a8:TFunc)(a2:TFunc):=((a8.Ret !=a2.Ret)==false)
def GL(a8:TFunc)(i2:Int):=(a8.Blocks.getD i2.toNat default)
def GK(a2:TFunc)(i2:Int):=(a2.Blocks.getD i2.toNat default)
def kq(a8:TFunc)(i2:Int)(i6:Int)(a2:TFunc):=(bif (((((GL a8 i2).Phis).getD i6.toNat default).Bits:Int)!=(((GK a2 i2).Phis).getD i6.toNat default).Bits) then true else(((((GL a8 i2).Phis).getD i6.toNat default).Dst:Int)!=(((GK a2 i2).Phis).getD i6.toNat default).Dst))
def vo(a8:TFunc)(i2:Int)(i6:Int)(a2:TFunc)(x9:Bool):=((bif (kq a8 i2 i6 a2) then true else(!x9))==false)
def Aan(a8:TFunc)(a2:TFunc)(x1:Bool):=((bif (a8.Ret !=a2.Ret) then true else(!x1))==false)
def sJ(a8:TFunc)(i2:Int)(a2:TFunc):=(bif (bif ((((GL a8 i2).Phis).length:Int)!=(((GK a2 i2).Phis).length:Int)) then true else((((GL a8 i2).Ops).length:Int)!=(((GK a2 i2).Ops).length:Int))) then true else(((GL a8 i2).End.Kind:Int)!=(GK a2 i2).End.Kind))
def yN(a8:TFunc)(i2:Int)(a2:TFunc):=(((GL a8 i2).End.Arg:Int)!=(GK a2 i2).End.Arg)
def vn(a8:TFunc)(i2:Int)(a2:TFunc):=((bif (sJ a8 i2 a2) then true else(yN a8 i2 a2))==false)
def Aal(a8:TFunc)(i2:Int)(a2:TFunc):=(((((GL a8 i2).Phis).length:Int)!=(((GK a2 i2).Phis).length:Int))==false)
def Aam(a8:TFunc)(i2:Int)(i6:Int)(a2:TFunc):=((((((GL a8 i2).Phis).getD i6.toNat default).Bits:Int)!=(((GK a2 i2).Phis).getD i6.toNat default).Bits)==false)
def Aak(a8:TFunc)(i2:Int)(a2:TFunc):=((bif ((((GL a8 i2).Phis).length:Int)!=(((GK a2 i2).Phis).length:Int)) then true else((((GL a8 i2).Ops).length:Int)!=(((GK a2 i2).Ops).length:Int)))==false)
def Km(a8:TFunc)(a2:TFunc):Option Bool:=
 (bif (a8.Ret !=a2.Ret)==false then Ba a8.Params a2.Params else some false).bind λx1=>bif bif bif a8.Ret !=a2.Ret then true else !x1 then true else(a8.Blocks.length:Int)!=a2.Blocks.length then some false else(Ac   (Gb a8 a2) 0).bind λx21=>match x21 with | .inl _=>some true | .inr r23=>some r23
theorem Zo(h:Km v0 v44=some v3):sP 16 [(V0 v0),(V0 v44)] [] (.bool v3) []:=
 sG Tryz.func16 λΓ q=>Af q Cz Cz (tB h λx1 y1 h=>tT q [2,3,33] Cz [(Z2 x1)] (LJ (vm v0 v44) (UG (λ(hg:(vm v0 v44)=true)=>(Cl (Bf hg y1))) (gI (vm v0 v44)) (Lx (v0.Ret !=v44.Ret)) (wa (Aan v0 v44 x1) (c1 (Lx (bif (v0.Ret !=v44.Ret) then true else(!x1))))))) (gC h (λh=>Af q [4] [] (tS h (Cc []))) λh=>Af q CK Cz (tL q h CK Cz (λu i2=>(Cp u [(5,(Z5 i2))] [])) (λu x_=>match x_ with|(.inl _)=>aG Γ (.exit 0) (⟨[],[],[]⟩:St)|(.inr r_)=>aR (Ng Γ v0 v44 r_)) (λi2 y h=>Af q [2,3,5,38] Cz (gC h (λh=>tV q [2,3,5,6] [2,3,6] h λh=>tV q iY Ve h λh=>tB h λx5 y5 h=>tT q [2,3,5,6,7,94] Ve [(Z2 x5)] (wa (Aal v0 i2 v44) (ci (Lx ((((GL v0 i2).Phis).length:Int)!=(((GK v44 i2).Phis).length:Int))) (wa (Aak v0 i2 v44) (ci (Lx (bif ((((GL v0 i2).Phis).length:Int)!=(((GK v44 i2).Phis).length:Int)) then true else((((GL v0 i2).Ops).length:Int)!=(((GK v44 i2).Ops).length:Int)))) (wa ((sJ v0 i2 v44)==false) (ci (Lx (sJ v0 i2 v44)) (wa (vn v0 i2 v44) (c3 (λ(hg:(vn v0 i2 v44)=true)=>(Cl (Bf hg y5))) (gI (vn v0 i2 v44)) (Lx (bif (sJ v0 i2 v44) then true else(yN v0 i2 v44))))))))))) (gC h (λh=>Af q [4] [] (tS h (gO (Lj (H4 [] (Le.refl _ _)))))) λh=>Af q iL Ve (tL q h iL Ve (λu i6=>(Cp u [(8,(Z5 i6))] [])) (λu x_=>match x_ with|(.inl _)=>aG Γ (.exit 2) (Nf iY Ve u [] [])|(.inr r_)=>aR (Ng Γ v0 v44 r_)) (λi6 y h=>Af q [2,3,5,6,7,8,99] Ve (gC h (λh=>tV q [2,3,5,6,7,8,9] [2,3,6,7,9] h λh=>tV q [2,3,5,6,7,8,9,10] [2,3,6,7,9,10] h λh=>tB h λx9 y9 h=>tB h λx10 y10 h=>tT q [2,3,5,6,7,8,139] Ve [(Z2 x9),(Z2 x10)] (LJ (Aam v0 i2 i6 v44) (ci (Lx (((((GL v0 i2).Phis).getD i6.toNat default).Bits:Int)!=(((GK v44 i2).Phis).getD i6.toNat default).Bits)) (LJ ((kq v0 i2 i6 v44)==false) (UG (λ(hg:((kq v0 i2 i6 v44)==false)=true)=>(Cl (Bf hg y9))) (gI ((kq v0 i2 i6 v44)==false)) (Lx (kq v0 i2 i6 v44)) (LJ (vo v0 i2 i6 v44 x9) (c3 (λ(hg:(vo v0 i2 i6 v44 x9)=true)=>(Cl (Bf hg y10))) (gI (vo v0 i2 i6 v44 x9)) (Lx (bif (kq v0 i2 i6 v44) then true else(!x9))))))))) (gC h (λh=>Af q [4] [] (tS h (gO (Lj (H4 [] (Le.refl _ _)))))) λh=>Af q iL Ve (tN h))) λh=>tS h (gO (Be (Bi iY Ve q))))) λx11 h=>(match x11,h with | .inl _,h=>gA (Af q iH Ve (tL q h iH Ve (λu i13=>(Cp u [(11,(Z5 i13))] [])) (λu x_=>match x_ with|(.inl _)=>aG Γ (.exit 4) (Nf CK Cz u [] [])|(.inr r_)=>aR (Ng Γ v0 v44 r_)) (λi13 y h=>Af q [2,3,5,6,7,11,144] Ve (gC h (λh=>tC h λc14_ h=>tC h λc15_ h=>tB h λx16 y16 h=>tT q [2,3,5,6,7,11,158] Ve [(Z2 x16)] (c3 c14_ c15_ (Zn y16)) (gC h (λh=>Af q [4] [] (tS h (gO (Lj (H4 [] (Le.refl _ _)))))) λh=>Af q iH Ve (tN h))) λh=>tS h (gO (Be (Bi CK Cz q))))) λx17 h=>(match x17,h with | .inl _,h=>gA (Af q CK Cz (tN h)) | .inr r19,h=>Oz (λst' hk=>tS h (gO (Lj hk)))))) | .inr r20,h=>Oz (λst' hk=>tS h (gO (Lj hk))))))) λh=>tS h (gO (Be (Bi [] [] q))))) λx21 h=>(match x21,h with | .inl _,h=>gA (Af q [4] [] (tS h (Cc []))) | .inr r23,h=>Oz (λst' hk=>tS h (gK hk))))))
def nN(x5:Int):=((x5==0)==true)
def nM(x5:Int)(x6:Int)(x7:Int):=(bif (x5==0) then(decide (x6<=x7)) else false)
def J3(a0:TFunc)(aO:Int):Option Bool:=
 m_locksteplaw16_awake.bind λx1=>bif !x1 then some false else(Ea a0).bind λx2=>(bif (!x2)==false then D9 a0 aO else some 0).bind λx3=>bif bif !x2 then true else x3 !=0 then some true else(Rp a0).bind λx4=>(O0 x4 aO).bind λx5=>(bif (x5==0)==true then Ew x4 else some 0).bind λx6=>(bif (x5==0)==true then Ew a0 else some 0).bind λx7=>(bif (bif x5==0 then decide (x6<=x7) else false)==true then Rp x4 else some default).bind λx8=>(bif (bif x5==0 then decide (x6<=x7) else false)==true then Km x8 x4 else some false).bind λx9=>some (bif bif x5==0 then decide (x6<=x7) else false then x9 else false)
theorem ok_locksteplaw16_TidyRight(a0:TFunc)(aO:Int)(r:Bool)(h:J3 a0 aO=some r):sP 4 [(V0 a0),(Z5 aO)] [] (.bool r) []:=
 sG Tryz.func4 λΓ q=>Af q D7 [2] (tB h λx1 y1 h=>tT q [1,2,7] [2] [(Z2 x1)] (c1 (X1  x1 y1)) (gC h (λh=>Af q [4] [] (tS h (Cc []))) λh=>tB h λx2 y2 h=>tB h λx3 y3 h=>tT q [1,2,16] [2] [(Z2 x2),(UF x3)] (ci (X8 y2) (Mr ((!x2)==false) (c3 (λ(hg:((!x2)==false)=true)=>(X7 (Bf hg y3))) (gI ((!x2)==false)) (Lx (!x2))))) (gC h (λh=>Af q [4] [] (tS h (Cc []))) λh=>tB h λx4 y4 h=>tT q CQ Uh [(nU x4)] (c1 (BJ y4)) (tB h λx5 y5 h=>tB h λx6 y6 h=>tB h λx7 y7 h=>tB h λx8 y8 h=>tB h λx9 y9 h=>tT q [4] [] [(UF x5),(UF x6),(UF x7),(nU x8),(Z2 x9)] (d5_ (AY y5) (gI (nN x5)) (λ(hg:(nN x5)=true)=>(Mx (Bf hg y6))) (gI (nN x5)) (λ(hg:(nN x5)=true)=>(Mx (Bf hg y7))) (Mr (nN x5) (UG (Nd (x5==0)) (gI ((nM x5 x6 x7)==true)) (λ(hg:((nM x5 x6 x7)==true)=true)=>(BJ (Bf hg y8))) (Mr ((nM x5 x6 x7)==true) (c2 (λ(hg:((nM x5 x6 x7)==true)=true)=>(Zo (Bf hg y9))) (Nd (nM x5 x6 x7))))))) (tS h (Cc []))))))
theorem He{n:Int}(h:-9223372036854775808<=n)(h':n<9223372036854775808):w64 n=n:=by
 show IntKind.i64.wrap n=n
 simp only[IntKind.wrap,IntKind.bits,IntKind.signed]
 simp
 split<;>omega
theorem IE{n:Int}(h:0<=n)(h':n<18446744073709551616):Ir n=n:=by
 show IntKind.u64.wrap n=n
 simp[IntKind.wrap,IntKind.bits,IntKind.signed];omega
theorem qZ(n:Int):Ir n=n % 18446744073709551616:=by
 show IntKind.u64.wrap n=_
 simp[IntKind.wrap,IntKind.bits,IntKind.signed]
theorem Aa{R:Type}{p:Prop}[Decidable p]{k:Option R}(h:p):Az p k=k:=if_pos h
theorem MF{S X:Type}(f:S->Option (LR S X))(s:S):Rv (f s) f=Ac f s:=by
 unfold Rv
 cases h:f s with
 | none=>rw[Option.bind_none,Xr h]
 | some y=>cases y with
  | next s'=>rw[Ap h];rfl
  | done x=>rw[Ak h];rfl
theorem om{x:Int}(j:Nat):x.fdiv (2 ^ j)=x / 2 ^ j:=by rw[Int.fdiv_eq_ediv_of_nonneg _ (by exact Int.le_of_lt (Int.pow_pos (by decide)))]
theorem Ab{α:Type}(l:List α)(i:Nat)(d:α)(h:i<l.length):l.getD i d=l[i]:=by simp[List.getD,h]
theorem kinds(k:Int):k=0\/k=1\/k=2\/k=3\/k=4\/k=5\/k=6\/k=7\/k=8\/k=9\/k=10\/k=11\/k=12\/k=13\/k=14\/k=15\/k=16\/k=17\/k=18\/k=19\/k=20\/k=21\/k=22\/(k<0\/22<k):=by omega
theorem bD{k:Int}(h:k<0\/22<k):(k==0)=false/\(k==1)=false/\(k==2)=false/\(k==3)=false/\(k==4)=false/\(k==5)=false/\(k==6)=false/\(k==7)=false/\(k==8)=false/\(k==9)=false/\(k==10)=false/\(k==11)=false/\(k==12)=false /\
  (k==13)=false/\(k==14)=false/\(k==15)=false/\(k==16)=false/\(k==17)=false/\(k==18)=false/\(k==19)=false/\(k==20)=false/\(k==21)=false/\(k==22)=false:=by
 simp only[zzL30];omega
def widthB(b:Int):Bool:=b==1 || b==8 || b==16 || b==32 || b==64
def Xp(b n:Int):Bool:=widthB b&&(n==1 || ((n==2 || n==4 || n==8 || n==16)&&decide (8<=b)&&decide (b*n<=128)))
theorem width_cases{b:Int}(h:widthB b=true):b=1\/b=8\/b=16\/b=32\/b=64:=by simp[widthB]at h;omega
theorem BV{b n:Int}(h:Xp b n=true):widthB b=true:=by simp[Xp]at h;exact h.1
theorem shape_lanes{b n:Int}(h:Xp b n=true):n=1\/n=2\/n=4\/n=8\/n=16:=by simp[Xp]at h;omega
theorem Wr(b:Int):La b=some (widthB b):=by
 unfold La widthB
 by_cases h1:b=1
 ·subst h1;rfl
 by_cases h2:b=8
 ·subst h2;rfl
 by_cases h3:b=16
 ·subst h3;rfl
 by_cases h4:b=32
 ·subst h4;rfl
 by_cases h5:b=64
 ·subst h5;rfl
 have e1:(b==1)=false:=by simpa using h1
 have e2:(b==8)=false:=by simpa using h2
 have e3:(b==16)=false:=by simpa using h3
 have e4:(b==32)=false:=by simpa using h4
 have e5:(b==64)=false:=by simpa using h5
 simp[e1,e2,e3,e4,e5]
theorem Sd(b:Int):Dd b=some (widthB b):=by
 cases(b==1)<;>cases(b==8)<;>cases(b==16)<;>cases(b==32)<;>rfl
theorem ft(b n:Int):Ta b n=some (Xp b n):=by
 unfold Ta;simp only[Wr,An]
 by_cases hn:n=1\/n=2\/n=4\/n=8\/n=16
 ·cases hw:widthB b with
  | false=>rcases hn with rfl|rfl|rfl|rfl|rfl<;>simp[Xp,hw]
  | true=>
   rcases width_cases hw with rfl|rfl|rfl|rfl|rfl<;>rcases hn with rfl|rfl|rfl|rfl|rfl<;>rfl
 ·have e1:(n==1)=false:=by simp;omega
  have e2:(n==2)=false:=by simp;omega
  have e3:(n==4)=false:=by simp;omega
  have e4:(n==8)=false:=by simp;omega
  have e5:(n==16)=false:=by simp;omega
  simp[Xp,e1,e2,e3,e4,e5]
theorem lw(b n:Int):Jw b n=some (Xp b n):=by
 unfold Jw;simp only[Sd,An]
 cases hw:widthB b with
 | false=>simp[Xp,hw]
 | true=>
  by_cases hn:n=1\/n=2\/n=4\/n=8\/n=16
  ·rcases width_cases hw with rfl|rfl|rfl|rfl|rfl<;>rcases hn with rfl|rfl|rfl|rfl|rfl<;>rfl
  ·have e1:(n==1)=false:=by simp;omega
   have e2:(n==2)=false:=by simp;omega
   have e3:(n==4)=false:=by simp;omega
   have e4:(n==8)=false:=by simp;omega
   have e5:(n==16)=false:=by simp;omega
   simp[Xp,e1,e2,e3,e4,e5]
theorem qY{v b:Int}(hv:0<=v/\v<18446744073709551616)(hb:widthB b=true):Xu v b=some (v % 2 ^ b.toNat):=by
 unfold Xu;simp only[Wr,hb,An,Dr,Ax]
 have key:∀ j:Nat,j<64->Wn .u64 (RZ .u64 v (j:Int)) (j:Int)=(v*2 ^ j % 18446744073709551616) / 2 ^ j:=λj hj=>by
  simp only[Wn,RZ,C8,IntKind.bits];rw[Nat.min_eq_left (by omega),om,show IntKind.u64.wrap (v*2 ^ j)=v*2 ^ j % 18446744073709551616 from qZ _]
 rcases width_cases hb with rfl|rfl|rfl|rfl|rfl
 ·have:=key 63 (by decide);simp only[show w64 (64-1)=((63:Nat):Int) from rfl,this];rw[Aa (by decide),Aa (by decide)];congr 1;simp only[show((1:Int).toNat)=1 from rfl];omega
 ·have:=key 56 (by decide);simp only[show w64 (64-8)=((56:Nat):Int) from rfl,this];rw[Aa (by decide),Aa (by decide)];congr 1;simp only[show((8:Int).toNat)=8 from rfl];omega
 ·have:=key 48 (by decide);simp only[show w64 (64-16)=((48:Nat):Int) from rfl,this];rw[Aa (by decide),Aa (by decide)];congr 1;simp only[show((16:Int).toNat)=16 from rfl];omega
 ·have:=key 32 (by decide);simp only[show w64 (64-32)=((32:Nat):Int) from rfl,this];rw[Aa (by decide),Aa (by decide)];congr 1;simp only[show((32:Int).toNat)=32 from rfl];omega
 ·have:=key 0 (by decide);simp only[show w64 (64-64)=((0:Nat):Int) from rfl,this];rw[Aa (by decide),Aa (by decide)];congr 1;simp only[show((64:Int).toNat)=64 from rfl];omega
theorem tu{v b:Int}(hv:0<=v/\v<18446744073709551616)(hb:widthB b=true):Lm v b=some (v % 2 ^ b.toNat):=by
 unfold Lm;simp only[Sd,hb,An,Dr,Ax];rcases width_cases hb with rfl|rfl|rfl|rfl|rfl
 ·rw[show((1:Int)==64)=false from rfl,Ax,Aa (by decide),Aa (by decide),show RZ .u64 (1:Int) (Ir 1)=2 ^ (1:Int).toNat from rfl,Int.tmod_eq_emod_of_nonneg hv.1]
 ·rw[show((8:Int)==64)=false from rfl,Ax,Aa (by decide),Aa (by decide),show RZ .u64 (1:Int) (Ir 8)=2 ^ (8:Int).toNat from rfl,Int.tmod_eq_emod_of_nonneg hv.1]
 ·rw[show((16:Int)==64)=false from rfl,Ax,Aa (by decide),Aa (by decide),show RZ .u64 (1:Int) (Ir 16)=2 ^ (16:Int).toNat from rfl,Int.tmod_eq_emod_of_nonneg hv.1]
 ·rw[show((32:Int)==64)=false from rfl,Ax,Aa (by decide),Aa (by decide),show RZ .u64 (1:Int) (Ir 32)=2 ^ (32:Int).toNat from rfl,Int.tmod_eq_emod_of_nonneg hv.1]
 ·rw[show((64:Int)==64)=true from rfl,Ah]
  congr 1
  simp only[show((64:Int).toNat)=64 from rfl];omega
theorem ZT{i:Int}(h:0<=i/\i<18446744073709551616):Nr i=some (widthB i):=by
 unfold Nr
 by_cases hi:i<=64
 ·have:w64 i=i:=He (by omega) (by omega);simp[hi,this,Wr]
 ·have:widthB i=false:=by simp[widthB];omega
  simp[hi,this]
def cl(k:Int):Bool:=decide (0<=k)&&decide (k<=22)
def Sb(k n:Int):Int:=
 bif k==0 then 0 else bif k==13 || k==18 || k==19 then 3 else bif k==14 || k==15 || k==16 || k==22 then 1 else bif k==20 then 4 else bif k==21 then n else 2
def sfitS(k b n:Int):Bool:=
 bif k==16 || k==17 then decide (8<=b) else bif k==18 || k==19 then decide (8<=b)&&n==1 else
 bif k==4 || k==10 || k==11 || k==12 || k==14 || k==15 || k==20 then n==1 else bif k==21 || k==22 then decide (1<n) else true
def ifitS(k b n i:Int):Bool:=
 bif k==0 then i % 2 ^ b.toNat==i else bif k==14 then widthB i&&decide (i<b) else bif k==15 then widthB i&&decide (b<i) else bif k==22 then decide (i<n) else i==0
def valS(v:Int):Bool:=decide (1<=v)&&decide (v<=1023)
def dstS(k d:Int):Bool:=bif k==17 || k==19 then d==0 else valS d
def Gr(o:Bz):Bool:=Xp o.Bits o.Lanes&&(cl o.Kind&&sfitS o.Kind o.Bits o.Lanes&&ifitS o.Kind o.Bits o.Lanes o.Imm&&((o.Args.length:Int)==Sb o.Kind o.Lanes))&&(o.Args.all valS&&dstS o.Kind o.Dst)
def PJ(o:Bz)(i:Nat):Int×Int:=
 bif o.Kind==13 || o.Kind==20 then(bif Nat.beq i 0 then(1,1) else(o.Bits,o.Lanes)) else bif o.Kind==14 || o.Kind==15 then(w64 o.Imm,1) else
 bif o.Kind==16 || o.Kind==17 then(bif Nat.beq i 0 then(64,1) else(o.Bits,o.Lanes)) else
 bif o.Kind==18 || o.Kind==19 then(bif Nat.beq i 1 then(64,1) else bif Nat.beq i 0 then(1,1) else(o.Bits,o.Lanes)) else bif o.Kind==21 then(o.Bits,1) else(o.Bits,o.Lanes)
def Rx(o:Bz):List (Int×Int):=(List.range (Sb o.Kind o.Lanes).toNat).map (PJ o)
def Xn(k b n:Int):Int×Int:=bif k==17 || k==19 then(0,0) else bif k==10 || k==11 || k==12 then(1,1) else bif k==22 then(b,1) else(b,n)
def jr(k:Int):Bool:=cl k&&!(k==4 || k==16 || k==17 || k==18 || k==19 || k==20)
theorem wc{k:Int}(h:cl k=true):0<=k/\k<=22:=by simpa [cl] using h
theorem HE{k:Int}(h:k<0\/22<k):cl k=false:=by simp[cl];omega
theorem LN(k:Int):O1 k=some (cl k):=by unfold O1 cl;cases decide ((0:Int)<=k)<;>rfl
theorem Xo(v:Int):Nq v=some (valS v):=by unfold Nq valS;cases decide ((1:Int)<=v)<;>rfl
theorem DN(v:Int):Fj v=some (valS v):=by
 unfold Fj valS
 have e1:decide ((0:Int)<v)=decide (1<=v):=by congr 1
 have e2:decide (v<(1024:Int))=decide (v<=1023):=by apply zzL77.2;omega
 rw[e1,e2]
 cases decide ((1:Int)<=v)<;>rfl
theorem PZ(o:Bz):Oc o=some (sfitS o.Kind o.Bits o.Lanes):=by
 obtain⟨k,b,n,d,args,i⟩:=o;rcases kinds k with rfl|rfl|rfl|rfl|rfl|rfl|rfl|rfl|rfl|rfl|rfl|rfl|rfl|rfl|rfl|rfl|rfl|rfl|rfl|rfl|rfl|rfl|rfl|h
 any_goals rfl
 ·show some (bif decide (8<=b) then n==1 else false)=some (decide (8<=b)&&n==1);cases decide (8<=b)<;>rfl
 ·show some (bif decide (8<=b) then n==1 else false)=some (decide (8<=b)&&n==1);cases decide (8<=b)<;>rfl
 ·unfold Oc sfitS;simp[bD h]
theorem PX(o:Bz):Qq o=some (Xn o.Kind o.Bits o.Lanes):=by
 obtain⟨k,b,n,d,args,i⟩:=o;rcases kinds k with rfl|rfl|rfl|rfl|rfl|rfl|rfl|rfl|rfl|rfl|rfl|rfl|rfl|rfl|rfl|rfl|rfl|rfl|rfl|rfl|rfl|rfl|rfl|h
 any_goals rfl
 unfold Qq Xn;simp[bD h]
theorem ZS(o:Bz)(hw:widthB o.Bits=true)(hn:0<=o.Lanes/\o.Lanes<=16)(hi:0<=o.Imm/\o.Imm<18446744073709551616):Qr o=some (ifitS o.Kind o.Bits o.Lanes o.Imm):=by
 unfold Qr ifitS
 have hb:Ir o.Bits=o.Bits:=by apply IE<;>(rcases width_cases hw with h|h|h|h|h<;>omega)
 have hl:Ir o.Lanes=o.Lanes:=by apply IE<;>omega
 rw[qY hi hw,ZT hi,hb,hl]
 cases(o.Kind==0)<;>cases(o.Kind==14)<;>cases(o.Kind==15)<;>cases(o.Kind==22)<;>cases widthB o.Imm<;>rfl
set_option maxHeartbeats 2000000 in
theorem pu (o : Bz) (hs : Xp o.Bits o.Lanes = true) (hk : cl o.Kind = true) (hi : 0 ≤ o.Imm ∧ o.Imm < 18446744073709551616) : F8 o = some (sfitS o.Kind o.Bits o.Lanes && ifitS o.Kind o.Bits o.Lanes o.Imm) := by
  have hw := BV hs; have hl := shape_lanes hs; obtain ⟨k, b, n, d, args, i⟩ := o; simp only at hs hk hi hw hl ⊢
  have hb : Ir b = b := by apply IE <;> (rcases width_cases hw with h | h | h | h | h <;> omega)
  have hn : Ir n = n := by apply IE <;> omega
  have hb8 : decide (b < 8) = !decide (8 ≤ b) := by rw [← decide_not]; apply zzL77.2; omega
  have hn2 : decide (n < 2) = !decide (1 < n) := by rw [← decide_not]; apply zzL77.2; omega
  have h14 : (bif decide (i < b) then widthB (w64 i) else false) = (widthB i && decide (i < b)) := by
    by_cases h : i < b
    · have : w64 i = i := He (by omega) (by rcases width_cases hw with h | h | h | h | h <;> omega); simp [h, this]
    · simp [h]
  have h15 : (bif (bif decide (b < i) then decide (i ≤ 64) else false) then widthB (w64 i) else false) = (widthB i && decide (b < i)) := by
    by_cases h : i ≤ 64
    · have : w64 i = i := He (by omega) (by omega)
      by_cases h2 : b < i <;> simp [h, this, h2]
    · have : widthB i = false := by simp [widthB]; omega
      simp [h, this]
  have hc := tu (v := i) hi hw; rcases kinds k with rfl | rfl | rfl | rfl | rfl | rfl | rfl | rfl | rfl | rfl | rfl | rfl | rfl | rfl | rfl | rfl | rfl | rfl | rfl | rfl | rfl | rfl | rfl | h
  case inl => unfold F8; simp [hc, sfitS, ifitS]
  all_goals first
    | (rw [HE h] at hk; cases hk)
    | (unfold F8 sfitS ifitS
       simp only [hb8]
       generalize decide (8 ≤ b) = u at *
       clear hc h14 h15 hb8 hw hs; rcases hl with rfl | rfl | rfl | rfl | rfl <;> cases u <;> simp_all
       done)
    | (unfold F8 sfitS ifitS
       rw [hb]; simp only [Sd]; clear hc hs
       generalize decide (i < b) = p at *
       generalize decide (b < i) = q at *
       generalize decide (i ≤ 64) = r at *
       generalize widthB (w64 i) = s at *
       rcases hl with rfl | rfl | rfl | rfl | rfl <;> cases p <;> cases q <;> cases r <;> cases s <;> simp_all
       done)
theorem lO(k:Int):Uv k=some (jr k):=by
 rcases kinds k with rfl|rfl|rfl|rfl|rfl|rfl|rfl|rfl|rfl|rfl|rfl|rfl|rfl|rfl|rfl|rfl|rfl|rfl|rfl|rfl|rfl|rfl|rfl|h
 any_goals rfl
 unfold Uv jr;simp[bD h,LN]
theorem Hj{α X:Type}(l:List α)(d:α)(p:α->Bool)(f:Int->Option (LR Int X))(yes no:X)(hn:∀ i:Nat,i<l.length->p (l.getD i d)=true->f i=some (.next ((i:Int)+1)))
  (hf:∀ i:Nat,i<l.length->p (l.getD i d)=false->f i=some (.done no)) (he:f l.length=some (.done yes)):∀(k i:Nat),i+k=l.length->Ac f i=some (bif (l.drop i).all p then yes else no)
 | 0,i,h=>by
  obtain rfl:i=l.length:=by omega
  rw[Ak he]
  simp
 | k+1,i,h=>by
  have hi:i<l.length:=by omega
  have hd:l.drop i=l.getD i d::l.drop (i+1):=by simp_all
  cases hp:p _ with
  | true=>
   rw[Ap (hn i hi hp)];have:=Hj l d p f yes no hn hf he k (i+1) (by omega);rw[show((i:Int)+1)=(i+1:Nat) by omega,this,hd,Vw,hp,Ld]
  | false=>
   rw[Ak (hf i hi hp),hd,Vw,hp,FU,Ax]
theorem QG{α X:Type}(n:Nat)(g:Nat->α)(f:List α×Int->Option (LR (List α×Int) X))(out:List α->X)(hn:∀(l:List α) (i:Nat),i<n->l.length=i->f (l,(i:Int))=some (.next (l++[g i],(i:Int)+1)))
  (he:∀ l:List α,l.length=n->f (l,(n:Int))=some (.done (out l))):∀(k i:Nat) (l:List α),i+k=n->l=(List.range i).map g->Ac f (l,(i:Int))=some (out ((List.range n).map g))
 | 0,i,l,h,hl=>by
  obtain rfl:i=n:=by omega
  subst hl;exact Ak (he _ (by simp))
 | k+1,i,l,h,hl=>by
  subst hl;rw[Ap (hn _ i (by omega) (by simp))];exact QG n g f out hn he k (i+1) _ (by omega) (by simp[W0])
theorem HI{α X:Type}[BEq α][LawfulBEq α](l m:List α)(d:α)(f:Int->Option (LR Int X))(yes no:X)(hlen:l.length=m.length)(hn:∀ i:Nat,i<l.length->(l.getD i d==m.getD i d)=true->f i=some (.next ((i:Int)+1)))
  (hf:∀ i:Nat,i<l.length->(l.getD i d==m.getD i d)=false->f i=some (.done no)) (he:f l.length=some (.done yes)):∀(k i:Nat),i+k=l.length->Ac f i=some (bif l.drop i==m.drop i then yes else no)
 | 0,i,h=>by
  obtain rfl:i=l.length:=by omega
  rw[Ak he];rw[List.drop_length,hlen]
  simp
 | k+1,i,h=>by
  have hi:i<l.length:=by omega
  have hd:l.drop i=l.getD i d::l.drop (i+1):=by simp_all
  have hd':m.drop i=m.getD i d::m.drop (i+1):=by simp_all
  cases hp:(l.getD i d==m.getD i d) with
  | true=>
   rw[Ap (hn i hi hp)];have:=HI l m d f yes no hlen hn hf he k (i+1) (by omega);rw[show((i:Int)+1)=(i+1:Nat) by omega,this,hd,hd',List.cons_beq_cons,hp,Ld]
  | false=>
   rw[Ak (hf i hi hp),hd,hd',List.cons_beq_cons,hp,FU,Ax]
theorem HJ{α:Type}(l:List α)(d:α)(wt:α->Nat)(C:Nat)(f:Int×Int->Option (LR (Int×Int) Int))
  (hn:∀(n i:Nat),i<l.length->n<=C->∃ m:Nat,f ((n:Int),(i:Int))=some (.next ((m:Int),((i+1:Nat):Int)))/\(n+wt (l.getD i d)<=C->m=n+wt (l.getD i d))/\(m<=C->n+wt (l.getD i d)<=C))
  (hd:∀(n i:Nat),i<=l.length->(i=l.length\/C<n)->f ((n:Int),(i:Int))=some (.done (n:Int))) :
  ∀(k i n:Nat),i+k=l.length->∃ m:Nat,Ac f ((n:Int),(i:Int))=some (m:Int)/\(n+((l.drop i).map wt).sum<=C->m=n+((l.drop i).map wt).sum)/\(m<=C->n+((l.drop i).map wt).sum<=C)
 | 0,i,n,h=>by
  obtain rfl:i=l.length:=by omega
  refine⟨n,Ak (hd n _ (zzL6 _) (.inl rfl)),?_,?_⟩
  ·simp
  ·simp
 | k+1,i,n,h=>by
  have hi:i<l.length:=by omega
  have hdr:l.drop i=l.getD i d::l.drop (i+1):=by rw[SK hi,Ab _ _ _ hi]
  by_cases hC:n<=C
  ·obtain⟨m,h1,h2,h3⟩:=hn n i hi hC;obtain⟨m',h4,h5,h6⟩:=HJ l d wt C f hn hd k (i+1) m (by omega);refine⟨m',by rw[Ap h1];exact h4,λhle=>?_,λhle=>?_⟩
   ·rw[hdr,Cs,SR]at hle ⊢;have:=h2 (by omega);subst this;rw[h5 (by omega)];omega
   ·rw[hdr,Cs,SR];have h7:=h6 hle;have h8:=h3 (by omega);have:=h2 h8;omega
  ·refine⟨n,Ak (hd n i (by omega) (.inr (by omega))),λhle=>by omega,λhle=>by omega⟩
theorem Tt{X:Type}(N:Nat)(f:Int×Int->Option (LR (Int×Int) X))(hn:∀(n:Int) (i:Nat),i<N->(∃ m:Int,f (n,(i:Int))=some (.next (m,((i+1:Nat):Int))))\/∃ x,f (n,(i:Int))=some (.done x))(hd:∀ n:Int,∃ x,f (n,(N:Int))=some (.done x)) :
  ∀(k i:Nat) (n:Int),i+k=N->∃ x,Ac f (n,(i:Int))=some x
 | 0,i,n,h=>by
  obtain rfl:i=N:=by omega
  obtain⟨x,hx⟩:=hd n;exact⟨x,Ak hx⟩
 | k+1,i,n,h=>by
  rcases hn n i (by omega) with⟨m,hm⟩|⟨x,hx⟩
  ·obtain⟨x,hx⟩:=Tt N f hn hd k (i+1) m (by omega);exact⟨x,by rw[Ap hm];exact hx⟩
  ·exact⟨x,Ak hx⟩
theorem DG{α X:Type}(l:List α)(d:α)(wt:α->Nat)(out:Int->X)(f:Int×Int->Option (LR (Int×Int) X))
  (hn:∀(n i:Nat),i<l.length->f (w64 n,(i:Int))=some (.next (w64 ((n+wt (l.getD i d):Nat):Int),((i+1:Nat):Int)))) (hd:∀ n:Int,f (n,(l.length:Int))=some (.done (out n))) :
  ∀(k i n:Nat),i+k=l.length->Ac f (w64 n,(i:Int))=some (out (w64 ((n+((l.drop i).map wt).sum:Nat):Int)))
 | 0,i,n,h=>by
  obtain rfl:i=l.length:=by omega
  rw[Ak (hd _)]
  simp
 | k+1,i,n,h=>by
  have hi:i<l.length:=by omega
  have hdr:l.drop i=l.getD i d::l.drop (i+1):=by simp_all
  rw[Ap (hn n i hi),DG l d wt out f hn hd k _ _ (by omega),hdr,Cs,SR,W1]
theorem U8(a b:Int):w64 (w64 a+b)=w64 (a+b):=by
 simp only[IntKind.wrap,IntKind.bits,IntKind.signed]
 simp
 split<;>split<;>omega
theorem Ag{α:Type}{l:List α}{i:Nat}{d:α}(h:i<l.length):l.getD i d∈l:=by grind
theorem Ai{i n:Nat}(h:i<n):A2 (i:Int) n:=⟨by omega,by exact_mod_cast h⟩
theorem A0{i n:Nat}(h:i<n)(hn:n<9223372036854775808):w64 ((i:Int)+1)=(i:Int)+1:=He (by omega) (by omega)
def o6(l:List Int):Prop:=∀ x∈l,0<=x/\x<=2147483647
theorem Em{S X:Type}(f:S->Option (LR S X))(T:Nat->S)(x:X):∀(n:Nat),(∀ i,i<n->f (T i)=some (.next (T (i+1))))->f (T n)=some (.done x)->Ac f (T 0)=some x:=by
 suffices h:∀(k i n:Nat),i+k=n->(∀ j,i<=j->j<n->f (T j)=some (.next (T (j+1))))->f (T n)=some _->Ac f (T i)=some x from
  λn h1 h2=>h n 0 n (by omega) (λj _ hj=>h1 j hj) h2
 intro k
 induction k with
 | zero=>
  intro i n hi _ h2
  have hin:n=i:=by omega
  subst hin;exact Ak h2
 | succ k ih=>intro i n hi h1 h2;rw[Ap (h1 i (zzL6 _) (by omega))];exact ih _ n (by omega) (λj hj hj'=>h1 j (by omega) hj') h2
theorem UY{S X:Type}(f:S->Option (LR S X))(T:Nat->S):∀(n:Nat),(∀ i,i<n->f (T i)=some (.next (T (i+1))))->Ac f (T 0)=Ac f (T n):=by
 intro n
 induction n with
 | zero=>intro _;rfl
 | succ n ih=>intro h;rw[ih (λi hi=>h i (by omega)),Ap (h n (by omega))]
theorem H6{S X:Type}(f:S->Option (LR S X))(T:Nat->S)(p:Nat->Bool)(yes no:X)(n:Nat)(hn:∀ i,i<n->p i=true->f (T i)=some (.next (T (i+1))))(hf:∀ i,i<n->p i=false->f (T i)=some (.done no))
  (he:f (T n)=some (.done yes)):Ac f (T 0)=some (bif (List.range n).all p then yes else no):=by
 cases hall:(List.range n).all p with
 | true=>
  exact Em f T yes n (λi hi=>hn i hi (zzL26.1 hall i (zzL45.2 hi))) he
 | false=>
  have hex:∃ i,i<n/\p i=false:=by
   grind
  obtain⟨m,hm⟩:=hex
  have key:∀ m,m<n->p m=false->∃ k,k<n/\p k=false/\∀ j,j<k->p j=true:=by
   intro m
   induction m using Nat.strongRecOn with
   | ind m ih=>
    intro h1 h2
    by_cases h:∃ j,j<m/\p j=false
    ·obtain⟨j,hj,hpj⟩:=h;exact ih j hj (by omega) hpj
    ·grind
  obtain⟨k,hk,hpk,hlt⟩:=key m hm.1 hm.2;rw[UY f T k (λi hi=>hn i (by omega) (hlt i hi))];exact Ak (hf k hk hpk)
theorem all_range{n:Nat}{p:Nat->Bool}:(List.range n).all p=true↔∀ i,i<n->p i=true:=by
 grind
theorem Am(i:Nat):((i:Int)).toNat=i:=C8 i
theorem w1{i:Nat}(h:i<4611686018427387904):w64 ((i:Int)+1)=((i+1:Nat):Int):=by rw[He (by omega) (by omega)];omega
theorem B0{i n:Nat}(h:i<n):decide (((i:Nat):Int)<((n:Nat):Int))=true:=by simpa using h
theorem C9{n:Nat}:decide (((n:Nat):Int)<((n:Nat):Int))=false:=by simp
theorem Fz{i n:Nat}(h:i<n):A2 ((i:Nat):Int) n:=Ai h
theorem yp{x:Int}{n:Nat}(h0:0<=x)(h1:x<n):A2 x n:=⟨h0,h1⟩
structure bm(o:Bz):Prop where
 imm:0<=o.Imm/\o.Imm<18446744073709551616
 args:o.Args.length<=200
theorem gn(x:Int×Int)(n:Int)(h:n=2\/n=4\/n=8\/n=16):Cf [x] n=some (List.replicate n.toNat x):=by
 let d:Int×Int:=(0,0)
 rcases h with rfl|rfl|rfl|rfl
 ·have e:Cf [x] 2=(Ac Dk (1,[x,d])).bind some:=by kernel_rfl
  rw[e,Ap (s':=(2,[x,x])) (by kernel_rfl)]
  rfl
 ·have e:Cf [x] 4=(Ac Dk (1,[x,d,d,d])).bind some:=by kernel_rfl
  rw[e,Ap (s':=(2,[x,x,d,d])) (by kernel_rfl),Ap (s':=(4,[x,x,x,x])) (by kernel_rfl)]
  rfl
 ·have e:Cf [x] 8=(Ac Dk (1,[x,d,d,d,d,d,d,d])).bind some:=by kernel_rfl
  rw[e,Ap (s':=(2,[x,x,d,d,d,d,d,d])) (by kernel_rfl),Ap (s':=(4,[x,x,x,x,d,d,d,d])) (by kernel_rfl),Ap (s':=(8,[x,x,x,x,x,x,x,x])) (by kernel_rfl)]
  rfl
 ·have e:Cf [x] 16=(Ac Dk (1,[x,d,d,d,d,d,d,d,d,d,d,d,d,d,d,d])).bind some:=by kernel_rfl
  rw[e,Ap (s':=(2,[x,x,d,d,d,d,d,d,d,d,d,d,d,d,d,d])) (by kernel_rfl),Ap (s':=(4,[x,x,x,x,d,d,d,d,d,d,d,d,d,d,d,d])) (by kernel_rfl),
   Ap (s':=(8,[x,x,x,x,x,x,x,x,d,d,d,d,d,d,d,d])) (by kernel_rfl),Ap (s':=(16,List.replicate 16 x)) (by kernel_rfl)]
  rfl
theorem pF(l:List (Int×Int)):Iq l=some l:=rfl
theorem QA(o:Bz)(hs:Xp o.Bits o.Lanes=true)(hk:cl o.Kind=true)(hf:sfitS o.Kind o.Bits o.Lanes=true):Qs o=some (Rx o):=by
 have hl:=shape_lanes hs;obtain⟨k,b,n,d,args,i⟩:=o;simp only at hs hk hf hl ⊢;rcases kinds k with rfl|rfl|rfl|rfl|rfl|rfl|rfl|rfl|rfl|rfl|rfl|rfl|rfl|rfl|rfl|rfl|rfl|rfl|rfl|rfl|rfl|rfl|rfl|h
 case inr.inr.inr.inr.inr.inr.inr.inr.inr.inr.inr.inr.inr.inr.inr.inr.inr.inr.inr.inr.inr.inl=>
  have h1:n≠1:=by rintro rfl;simp[sfitS]at hf
  have h4:n=2\/n=4\/n=8\/n=16:=by omega
  unfold Qs;simp only[gn _ _ h4,pF];rcases h4 with rfl|rfl|rfl|rfl<;>rfl
 all_goals first
  | rfl
  | (rw[HE h]at hk;cases hk)
  | (rcases hl with rfl|rfl|rfl|rfl|rfl<;>first|rfl|(simp[sfitS]at hf))
theorem ZQ(o:Bz)(hs:Xp o.Bits o.Lanes=true)(hk:cl o.Kind=true)(hf:sfitS o.Kind o.Bits o.Lanes=true)(hl:o.Args.length<=200):Qo o=some (((o.Args.length:Int)==Sb o.Kind o.Lanes)&&o.Args.all valS):=by
 unfold Qo;rw[QA o hs hk hf]
 have hn:0<=Sb o.Kind o.Lanes:=by
  have:=shape_lanes hs;unfold Sb
  cases(o.Kind==0)<;>cases(o.Kind==13 || o.Kind==18 || o.Kind==19)<;>cases(o.Kind==14 || o.Kind==15 || o.Kind==16 || o.Kind==22)<;>cases(o.Kind==20)<;>cases(o.Kind==21)<;>simp<;>omega
 have hlen:(Rx o).length=Sb o.Kind o.Lanes:=by simp[Rx];omega
 simp only[An,hlen]
 by_cases he:o.Args.length=Sb o.Kind o.Lanes
 ·have e1:(o.Args.length==Sb o.Kind o.Lanes)=true:=by simpa using he
  have e2:(o.Args.length !=Sb o.Kind o.Lanes)=false:=by simpa using he
  rw[e1,e2]
  have hloop:=Hj o.Args 0 valS (Kj o) (.inl ()) (.inr false) (λi hi hp=>by
    unfold Kj
    have:decide (i<(o.Args.length:Int))=true:=by simpa using hi
    simp only[this,Ah,Aa (Ai hi),C8,Xo,An,hp,Dr,Ax,A0 hi (by omega)]) (λi hi hp=>by
    unfold Kj
    have:decide (i<(o.Args.length:Int))=true:=by simpa using hi
    simp only[this,Ah,Aa (Ai hi),C8,Xo,An,hp,J1]) (by
    unfold Kj
    simp) o.Args.length 0 (by omega)
  rw[show 0=((0:Nat):Int) from rfl,hloop,N7]
  cases o.Args.all valS<;>rfl
 ·grind
theorem fh{k b n:Int}(hs:Xp b n=true):((Xn k b n).1==0)=(k==17 || k==19):=by
 have hb:(b==0)=false:=by
  have:=width_cases (BV hs);simp;omega
 unfold Xn
 cases(k==17 || k==19)<;>cases(k==10 || k==11 || k==12)<;>cases(k==22)<;>simp_all
theorem ZR(o:Bz)(hs:Xp o.Bits o.Lanes=true):Qp o=some (dstS o.Kind o.Dst):=by
 unfold Qp;simp only[PX,An,fh hs,Xo,dstS]
 cases(o.Kind==17 || o.Kind==19)<;>rfl
theorem PW(o:Bz)(ho:bm o):Ro o=some (Gr o):=by
 unfold Ro Gr;simp only[LN,ft,PZ]
 cases hs:Xp _ _ with
 | false=>cases cl _<;>rfl
 | true=>
  have hl:=shape_lanes hs
  cases hk:cl _ with
  | false=>rfl
  | true=>
   rw[ZS o (BV hs) (by omega) ho.imm];simp only[ZR o hs]
   cases hf:sfitS _ _ _ with
   | false=>rfl
   | true=>
    rw[ZQ o hs hk hf ho.args]
    generalize ifitS _ _ _ _=p
    generalize (o.Args.length==Sb _ _)=q
    generalize o.Args.all _=r
    generalize dstS _ _=s
    cases p<;>cases q<;>cases r<;>cases s<;>rfl
theorem pt(o:Bz):Kk o=some (bif cl o.Kind then Sb o.Kind o.Lanes else -1):=by
 obtain⟨k,b,n,d,args,i⟩:=o;rcases kinds k with rfl|rfl|rfl|rfl|rfl|rfl|rfl|rfl|rfl|rfl|rfl|rfl|rfl|rfl|rfl|rfl|rfl|rfl|rfl|rfl|rfl|rfl|rfl|h
 any_goals rfl
 unfold Kk;simp[bD h,HE h]
theorem bF(o:Bz)(ho:bm o):G8 o=some (Gr o):=by
 unfold G8 Gr;simp only[lw]
 cases hs:Xp o.Bits o.Lanes with
 | false=>rfl
 | true=>
  simp only[pt,Dr,Vc,Ah, An]
  cases hk:cl o.Kind with
  | false=>
   grind
  | true=>
   simp only[Ah];rw[pu o hs hk ho.imm]
   by_cases he:o.Args.length=Sb o.Kind o.Lanes
   ·have e1:(o.Args.length==Sb o.Kind o.Lanes)=true:=by simpa using he
    have e2:(Sb o.Kind o.Lanes !=o.Args.length)=false:=by simpa using he.symm
    rw[e1,e2]
    have hloop:=Hj o.Args 0 valS (Gx o) (.inl ()) (.inr false) (λi hi hp=>by
      unfold Gx
      have:decide (i<(o.Args.length:Int))=true:=by simpa using hi
      simp only[this,Ah,Aa (Ai hi),C8,DN,An,hp,Dr,Ax,A0 hi (by have:=ho.args;omega)]) (λi hi hp=>by
      unfold Gx
      have:decide ((i:Int)<o.Args.length)=true:=by simpa using hi
      simp only[this,Ah,Aa (Ai hi),C8,DN,An,hp,J1]) (by
      unfold Gx
      simp) o.Args.length 0 (by omega)
    rw[show 0=((0:Nat):Int) from rfl,hloop,N7];simp only[DN, dstS]
    generalize sfitS o.Kind o.Bits o.Lanes=p
    generalize ifitS o.Kind o.Bits o.Lanes o.Imm=q
    generalize o.Args.all valS=r
    cases p<;>cases q<;>cases r<;>cases(o.Kind==17)<;>cases(o.Kind==19)<;>rfl
   ·grind
theorem Xv{o:Bz}(h:Gr o=true):Xp o.Bits o.Lanes=true/\cl o.Kind=true/\sfitS o.Kind o.Bits o.Lanes=true/\ifitS o.Kind o.Bits o.Lanes o.Imm=true/\(o.Args.length:Int)=Sb o.Kind o.Lanes/\o.Args.all valS=true/\dstS o.Kind o.Dst=true:=by
 simp only[Gr,A6,zzL63]at h;exact⟨h.1.1,h.1.2.1.1.1,h.1.2.1.1.2,h.1.2.1.2,h.1.2.2,h.2.1,h.2.2⟩
theorem fu(o:Bz)(ho:bm o):Qn o=some (bif Gr o then Rx o else[]):=by
 unfold Qn;rw[PW o ho]
 cases hm:Gr o with
 | false=>rfl
 | true=>
  obtain⟨h1,h2,h3,_⟩:=Xv hm;simp only[QA o h1 h2 h3]
  rfl
theorem fq(o:Bz)(ho:bm o):Qm o=some (bif Gr o then Xn o.Kind o.Bits o.Lanes else(0,0)):=by
 unfold Qm;rw[PW o ho];simp only[ PX]
 cases Gr o<;>rfl
theorem lu(o:Bz)(ho:bm o):Hl o=some (bif Gr o then Xn o.Kind o.Bits o.Lanes else(0,0)):=by
 unfold Hl;rw[bF o ho]
 cases hm:Gr o with
 | false=>rfl
 | true=>
  obtain⟨_,h2,_⟩:=Xv hm;obtain⟨k,b,n,d,args,i⟩:=o;rcases kinds k with rfl|rfl|rfl|rfl|rfl|rfl|rfl|rfl|rfl|rfl|rfl|rfl|rfl|rfl|rfl|rfl|rfl|rfl|rfl|rfl|rfl|rfl|rfl|h
  any_goals rfl
  rw[HE h]at h2;cases h2
theorem lx(o:Bz)(ho:bm o):Hm o=some (bif Gr o then Rx o else[]):=by
 unfold Hm;rw[bF o ho]
 cases hm:Gr o with
 | false=>rfl
 | true=>
  obtain⟨h1,h2,h3,h4,h5,_⟩:=Xv hm
  have hloop:=QG (X:=List (Int×Int)) o.Args.length (PJ o) (Hz o) id (λl i hi hl=>by
   unfold Hz
   have e0:decide ((i:Int)<(o.Args.length:Int))=true:=by simpa using hi
   have e1:((i:Int)==0)=Nat.beq i 0:=by cases i<;>rfl
   have e2:((i:Int)==1)=Nat.beq i 1:=by
    rcases i with _|_|i
    ·rfl
    ·rfl
    ·have:¬ (((i+1+1:Nat):Int)=1):=by omega
     simp only[Nat.beq]
     simpa using this
   have hr:l.length+([PJ o i]:List (Int×Int)).length<=room:=by have:=ho.args;simp[room];omega
   simp only[e0,e1,e2,Ah];have e3 :=A0 hi (by have:=ho.args;omega);simp only[e3]
   have key:∀(x:Option (Int×Int)),x=some (PJ o i)->(x.bind λx23=>Az (l.length+([(x23.1,x23.2)]:List (Int×Int)).length<=room) (some (LR.next (l++([(x23.1,x23.2)]:List (Int×Int)),(i:Int)+1))))=(some (LR.next (l++[PJ o i],(i:Int)+1)):Option (LR _ (List (Int×Int)))):=by
    rintro x rfl;exact Aa hr
   refine key _ ?_;clear key hr;obtain⟨k,b,n,d,args,im⟩:=o;rcases kinds k with rfl|rfl|rfl|rfl|rfl|rfl|rfl|rfl|rfl|rfl|rfl|rfl|rfl|rfl|rfl|rfl|rfl|rfl|rfl|rfl|rfl|rfl|rfl|h
   all_goals first
    | rfl
    | (rw[HE h]at h2;cases h2)
    | (rcases i with _|_|i<;>rfl)) (λl hl=>by
   unfold Hz
   simp) o.Args.length 0 [] (by omega) rfl
  rw[show(0:Int)=((0:Nat):Int) from rfl];simp only[Dr,Ax,hloop,An,id];rw[Rx,<- h5]
  rfl
theorem w9{n:Int}(h:(Lit.int .u64 n).wf=true):0<=n/\n<18446744073709551616:=by simp[Lit.wf,IntKind.min,IntKind.max,IntKind.bits,IntKind.signed]at h;omega
abbrev Iall(w:World):Nat->Nat->Prop:=λb o=>∃ u,w.cell? ⟨b,o,none⟩=some u
structure mg(w:World)(cs:List Value)(avs:List AV):Prop where
 len:cs.length=avs.length
 one:∀ j,j<avs.length->(cs.getD j undef).oneCell'=true
 rep:∀ j,j<avs.length->RepV (Iall w) w (cs.getD j undef) (avs.getD j .any)
structure Opens(P:Program)(t:TypeId){α:Type}(e:α->List AV)(ok:α->Prop):Prop where
 get:∀{H:Type} {enc:TypeId×Value->H} {w:World} {base:Nat} {spare:Nat->Bool} {held:Bool} {fuel:Nat} {cs:List Value} {x:DataW H×List MemPlace},
  DataW.trod enc P w base spare held fuel t cs=some x->∃ a,ok a/\mg w cs (e a)
theorem PC{w:World}{v:Value}{x:AV}(h1:v.oneCell'=true)(h:RepV (Iall w) w v x):mg w [v] [x]:=
 ⟨rfl,λj hj=>(by
   grind),λj hj=>(by
   grind)⟩
theorem XH{P:Program}{t:TypeId}{k:IntKind}{e:Int->List AV}(ht:P.underlying t=some (.int k))(he:∀ n,e n=[.int k n]):Opens P t e (λn=>(Lit.int k n).wf=true):=by
 refine⟨?_⟩;intro H enc w base spare held fuel cs x h;obtain⟨n,rfl,rfl,hw⟩:=DataW.trod_int ht h;exact⟨n,hw,by rw[he];exact PC rfl (.int _ _)⟩
theorem fY{w:World}{base:Nat}{a:Addr}{n:Nat}{cs:List Value}(h:w.cells? base a n=some cs):cs.length=n/\∀ i,i<n->w.cell? (a.add i)=some (cs.getD i undef):=by
 unfold World.cells? at h
 split at h
 ·have hl:=mapM_some_length h;simp at hl;refine⟨hl,λi hi=>?_⟩;have:=mapM_some_get h i i (by simp[hi]);rw[this];simp[ show i<cs.length by omega]
 ·cases h
theorem U3{P:Program}{t el:TypeId}{α:Type}{e:α->List AV}{ok:α->Prop}{sz:Nat}{d:α}{e':List α->List AV}(ht:P.underlying t=some (.slice el))(hs:P.cellsOf el=sz)(h1:1<=sz)(he:Opens P el e ok)(hlen:∀ a,(e a).length=sz)
  (he':∀ l,e' l=[AV.list sz e d l .none]):Opens P t e' (λl=>(∀ a∈l,ok a)/\l.length<=maxLen):=by
 refine⟨?_⟩;intro H enc w base spare held fuel cs x h;rcases DataW.trod_slice ht h with⟨rfl,rfl⟩|⟨a,len,cap,elems,rest,n,_,rfl,rfl,hb,hl,hm,hlen2,hel,_⟩
 ·exact⟨[],⟨by simp,by simp⟩,by rw[he'];exact PC rfl (.slice none 0 0 sz _ (λ_=>undef) (zzL6 _) (by simp) (λh=>by simp at h) (λ_=>rfl) (λj hj=>by simp at hj) (λi hi=>by simp at hi) (λi c hi=>by simp at hi))⟩
 ·have each:∀ i:Fin len,∃ b,ok b/\∃ cs,w.cells? base (a.add (i.1*sz)) sz=some cs/\mg w cs (e b):=λ⟨i,hi⟩=>by
   have:=hel i hi;rw[hs,Py (by omega),zzL109]at this;obtain⟨cs,hcs,htr⟩:=this;obtain⟨b,hb,hr⟩:=he.get htr;exact⟨b,hb,cs,hcs,hr⟩
  let f:Fin len->α:=λi=>(each i).choose
  have hf:∀ i,ok (f i)/\∃ cs,w.cells? base (a.add (i.1*sz)) sz=some cs/\mg w cs (e (f i)):=λi=>(each i).choose_spec
  have hlf:(List.ofFn f).length=len:=by simp
  refine⟨List.ofFn f,⟨λb hb=>?_,by simp;omega⟩,?_⟩
  ·obtain⟨i,rfl⟩:=List.mem_ofFn.1 hb;exact(hf i).1
  rw[he'];refine PC rfl ?_
  have hcell0:∀ i (hi:i<len),∀ c,c<sz->∃ u,w.cell? ((a.add (i*sz)).add c)=some u/\u.oneCell'=true/\RepV (Iall w) w u ((e (f ⟨i,hi⟩)).getD c .any):=λi hi c hc=>by
   obtain⟨_,cs,hcs,hr⟩:=hf ⟨i,hi⟩;obtain⟨hl,hg⟩:=fY hcs;exact⟨_,hg c hc,hr.one c (by rw[hlen];exact hc),hr.rep c (by rw[hlen];exact hc)⟩
  have hspot:0<len->a.spot=none:=λhp=>by
   obtain⟨u,hu,_⟩:=hcell0 0 hp 0 h1;have h2:=World.cell?_spot hu
   simpa [Addr.add] using h2
  have hcell:∀ i (hi:i<len),∀ c,c<sz->∃ u,w.cell? ⟨a.block,a.off+(i*sz+c),none⟩=some u/\u.oneCell'=true/\RepV (Iall w) w u ((e (f ⟨i,hi⟩)).getD c .any):=λi hi c hc=>by
   obtain⟨u,hu,h1,h2⟩:=hcell0 i hi c hc;have hsp:=hspot (by omega);rw[Mg hsp,O6]at hu;exact⟨u,by rw[<- W1];exact hu,h1,h2⟩
  have hdm:∀ j,j<len*sz->∃ i c,i<len/\c<sz/\j=i*sz+c:=λj hj=>by
   refine⟨j / sz,j % sz,(SS (by omega)).2 hj,Nat.mod_lt _ (by omega),?_⟩;rw[CG];exact(IH j sz).symm
  unfold AV.list;rw[hlf];refine .slice (some a) len cap sz _ (λj=>(w.cell? ⟨a.block,a.off+j,none⟩).getD undef) hl hm (λhp=>⟨a,rfl,hspot hp,λj hj=>?_,λj hj=>?_⟩) (λh=>by cases h) (λj hj=>?_) (λi hi=>hlen _) (λi c hi hc=>?_)
  ·obtain⟨i,c,hi,hc,rfl⟩:=hdm j hj;obtain⟨u,hu,_⟩:=hcell i hi c hc;exact⟨u,hu⟩
  ·obtain⟨i,c,hi,hc,rfl⟩:=hdm j hj;obtain⟨u,hu,_⟩:=hcell i hi c hc;rw[hu];rfl
  ·obtain⟨i,c,hi,hc,rfl⟩:=hdm j hj;obtain⟨u,hu,h1,_⟩:=hcell i hi c hc;simp only[hu];exact h1
  ·grind
structure YU(P:Program)(fs:List Field)(off N:Nat){α:Type}(e:α->List AV)(ok:α->Prop):Prop where
 get:∀{H:Type} {enc:TypeId×Value->H} {w:World} {base:Nat} {spare:Nat->Bool} {held:Bool} {n:Nat} {cs:List Value},cs.length=N->
  (∀ f∈fs,∃ x,DataW.trod enc P w base spare held n f.type ((cs.drop f.offset).take (P.cellsOf f.type))=some x)->∃ a,ok a/\mg w (cs.drop off) (e a)
theorem T6{P:Program}{N:Nat}:YU P [] N N (λ_:Unit=>[]) (λ_=>True):=by
 refine⟨?_⟩;intro H enc w base spare held n cs hN _;rw[List.drop_eq_nil_of_le (by omega)];exact⟨(),trivial,rfl,(λj hj=>by simp at hj),(λj hj=>by simp at hj)⟩
theorem Cy{P:Program}{f:Field}{fs:List Field}{off sz N:Nat}{α β:Type}{e:α->List AV}{ok:α->Prop}{e':β->List AV}{ok':β->Prop}(hoff:f.offset=off)(hsz:P.cellsOf f.type=sz)(hle:off+sz<=N)
  (h:Opens P f.type e ok) (h':YU P fs (off+sz) N e' ok'):YU P (f::fs) off N (λp:α×β=>e p.1++e' p.2) (λp=>ok p.1/\ok' p.2):=by
 refine⟨?_⟩;intro H enc w base spare held n cs hN hall;obtain⟨x,hx⟩:=hall f (by simp);rw[hoff,hsz]at hx;obtain⟨a,ha,hr⟩:=h.get hx;obtain⟨b,hb,hr'⟩:=h'.get hN (λg hg=>hall g (by simp[hg]))
 have hl:(e a).length=sz:=by rw[<- hr.len];simp;omega
 have hl':(e' b).length=N-(off+sz):=by rw[<- hr'.len];simp;omega
 have hsplit:cs.drop off=(cs.drop off).take sz++cs.drop (off+sz):=by rw[<- List.drop_drop];exact(List.take_append_drop sz _).symm
 have hl2:((cs.drop off).take sz).length=sz:=by simp;omega
 refine⟨(a,b),⟨ha,hb⟩,?_,λj hj=>?_,λj hj=>?_⟩
 ·simp[hl,hl'];omega
 ·rw[hsplit];replace hj:j<(e a++e' b).length:=hj
  show _
  by_cases hlt:j<sz
  ·have:=hr.one j (by omega);rwa[List.getD,Uf (by omega)]
  ·have:=hr'.one (j-sz) (by simp at hj;omega);rwa[List.getD,Va (by omega),hl2]
 ·rw[hsplit];replace hj:j<(e a++e' b).length:=hj
  show RepV (Iall w) w _ ((e a++e' b).getD j .any)
  by_cases hlt:j<sz
  ·have:=hr.rep j (by omega);rwa[List.getD,Uf (by omega),List.getD,Uf (by omega)]
  ·have:=hr'.rep (j-sz) (by simp at hj;omega);rwa[List.getD,Va (by omega),hl2,List.getD,Va (by omega),hl]
theorem Qy{P:Program}{t:TypeId}{fs:Array Field}{N:Nat}{α:Type}{e:α->List AV}{ok:α->Prop}(ht:P.underlying t=some (.struct fs))(hN:P.cellsOf t=N)(h:YU P fs.toList 0 N e ok):Opens P t e ok:=by
 refine⟨?_⟩;intro H enc w base spare held fuel cs x hx;obtain⟨xs,n,_,_,hl,hxl,hall⟩:=DataW.trod_struct ht hx
 have:=h.get  (hl.trans hN)      (λf hf=>by
  obtain⟨i,hi,rfl⟩:=List.mem_iff_getElem.1 hf
  have hi' :=by simpa using hi
  have:=hall i fs.toList[i] (by simp[hi']);rw[Py (by omega)]at this
  exact⟨_,this⟩)
 simpa using this
theorem Opens.to{P:Program}{t:TypeId}{α β:Type}{e:α->List AV}{ok:α->Prop}(h:Opens P t e ok){e':β->List AV}{ok':β->Prop}(g:α->β)(he:∀ a,e' (g a)=e a)(hok:∀ a,ok a->ok' (g a)):Opens P t e' ok':=by
 refine⟨?_⟩;intro H enc w base spare held fuel cs x hx;obtain⟨a,ha,hr⟩:=h.get hx;exact⟨g a,hok a ha,by rw[he];exact hr⟩
theorem arg_one{P:Program}{t:TypeId}{α:Type}{e:α->List AV}{ok:α->Prop}(h:Opens P t e ok){x:α->AV}(he:∀ a,e a=[x a]){H:Type}{enc:TypeId×Value->H}{w:World}{base:Nat}{spare:Nat->Bool}{held:Bool}{v:Value}{d:DataW H}{ps:List MemPlace}
  (hv:v.cells = #[v]) (hd:DataW.Trod enc P w base spare held t v d ps):∃ a,ok a/\RepV (Iall w) w v (x a):=by
 obtain⟨fuel,hf⟩:=hd;obtain⟨a,ha,hr⟩:=h.get hf;refine⟨a,ha,?_⟩;have:=hr.rep 0 (by simp[he])
 simpa [hv,he] using this
theorem arg_agg{P:Program}{t:TypeId}{α:Type}{e:α->List AV}{ok:α->Prop}(h:Opens P t e ok){H:Type}{enc:TypeId×Value->H}{w:World}{base:Nat}{spare:Nat->Bool}{held:Bool}{cs:Array Value}{d:DataW H}{ps:List MemPlace}
  (hd:DataW.Trod enc P w base spare held t (.agg cs) d ps):∃ a,ok a/\RepV (Iall w) w (.agg cs) (.agg (e a)):=by
 obtain⟨fuel,hf⟩:=hd;obtain⟨a,ha,hr⟩:=h.get hf;have e1:(Value.agg cs).cells.toList=cs.toList:=rfl;rw[e1]at hr
 have e2:∀ j,cs.toList.getD j undef=cs.getD j undef:=λj=>by simp_all
 refine⟨a,ha,.agg _ _ (by simpa using hr.len) (λj hj=>?_) (λj hj=>?_)⟩
 ·rw[<- e2];exact hr.one j hj
 ·rw[<- e2];exact hr.rep j hj
def okI64(n:Int):Prop:=(Lit.int .i64 n).wf=true
theorem op_3:Opens Tryz.prog 3 Aq okI64:=XH Tryz.underlying3 (λ_=>rfl)
def JO(l:List (Int)):Prop:=(∀ a∈l,okI64 a)/\l.length<=maxLen
theorem dh:Opens Tryz.prog 22 Lc JO:=U3 (d:=(0:Int)) Tryz.underlying22 (by kernel_rfl) (by decide) op_3 (λ_=>rfl) (λ_=>rfl)
def pd(a:Bc):Prop:=okI64 a.Bits/\okI64 a.Dst/\JO a.From/\JO a.Args/\True
theorem zH:Opens Tryz.prog 67 El pd:=Opens.to (Qy (N:=4) Tryz.underlying67 (by kernel_rfl) (Cy (off:=0) (sz:=1) (N:=4) rfl (by kernel_rfl) (by decide) op_3 (Cy (off:=1) (sz:=1) (N:=4) rfl (by kernel_rfl) (by decide) op_3 (Cy (off:=2) (sz:=1) (N:=4) rfl (by kernel_rfl) (by decide) dh (Cy (off:=3) (sz:=1) (N:=4) rfl (by kernel_rfl) (by decide) dh T6))))) (λp=>⟨p.1,p.2.1,p.2.2.1,p.2.2.2.1⟩) (λ_=>rfl) (λ_ h=>h)
def je(l:List (Bc)):Prop:=(∀ a∈l,pd a)/\l.length<=maxLen
theorem zD:Opens Tryz.prog 59 wW je:=U3 (d:=(default:Bc)) Tryz.underlying59 (by kernel_rfl) (by decide) zH (λ_=>rfl) (λ_=>rfl)
def u0(n:Int):Prop:=(Lit.int .u64 n).wf=true
theorem zC:Opens Tryz.prog 44 Aao u0:=XH Tryz.underlying44 (λ_=>rfl)
def uz(a:Bz):Prop:=okI64 a.Kind/\okI64 a.Bits/\okI64 a.Lanes/\okI64 a.Dst/\JO a.Args/\u0 a.Imm/\True
theorem zI:Opens Tryz.prog 70 Lh uz:=Opens.to (Qy (N:=6) Tryz.underlying70 (by kernel_rfl) (Cy (off:=0) (sz:=1) (N:=6) rfl (by kernel_rfl) (by decide) op_3 (Cy (off:=1) (sz:=1) (N:=6) rfl (by kernel_rfl) (by decide) op_3 (Cy (off:=2) (sz:=1) (N:=6) rfl (by kernel_rfl) (by decide) op_3 (Cy (off:=3) (sz:=1) (N:=6) rfl (by kernel_rfl) (by decide) op_3 (Cy (off:=4) (sz:=1) (N:=6) rfl (by kernel_rfl) (by decide) dh (Cy (off:=5) (sz:=1) (N:=6) rfl (by kernel_rfl) (by decide) zC T6))))))) (λp=>⟨p.1,p.2.1,p.2.2.1,p.2.2.2.1,p.2.2.2.2.1,p.2.2.2.2.2.1⟩) (λ_=>rfl) (λ_ h=>h)
def pX(l:List (Bz)):Prop:=(∀ a∈l,uz a)/\l.length<=maxLen
theorem zE:Opens Tryz.prog 60 WI pX:=U3 (d:=(default:Bz)) Tryz.underlying60 (by kernel_rfl) (by decide) zI (λ_=>rfl) (λ_=>rfl)
def pc(a:On):Prop:=okI64 a.Kind/\okI64 a.Arg/\JO a.To/\True
theorem zF:Opens Tryz.prog 62 jK pc:=Opens.to (Qy (N:=3) Tryz.underlying62 (by kernel_rfl) (Cy (off:=0) (sz:=1) (N:=3) rfl (by kernel_rfl) (by decide) op_3 (Cy (off:=1) (sz:=1) (N:=3) rfl (by kernel_rfl) (by decide) op_3 (Cy (off:=2) (sz:=1) (N:=3) rfl (by kernel_rfl) (by decide) dh T6)))) (λp=>⟨p.1,p.2.1,p.2.2.1⟩) (λ_=>rfl) (λ_ h=>h)
def dT(a:Ae):Prop:=je a.Phis/\pX a.Ops/\pc a.End/\True
theorem zG:Opens Tryz.prog 64 Cj dT:=Opens.to (Qy (N:=5) Tryz.underlying64 (by kernel_rfl) (Cy (off:=0) (sz:=1) (N:=5) rfl (by kernel_rfl) (by decide) zD (Cy (off:=1) (sz:=1) (N:=5) rfl (by kernel_rfl) (by decide) zE (Cy (off:=2) (sz:=3) (N:=5) rfl (by kernel_rfl) (by decide) zF T6)))) (λp=>⟨p.1,p.2.1,p.2.2.1⟩) (λ_=>rfl) (λ_ h=>h)
def XE(l:List (Ae)):Prop:=(∀ a∈l,dT a)/\l.length<=maxLen
theorem zB:Opens Tryz.prog 23 oe XE:=U3 (d:=(default:Ae)) Tryz.underlying23 (by kernel_rfl) (by decide) zG (λ_=>rfl) (λ_=>rfl)
def okTFunc(a:TFunc):Prop:=JO a.Params/\okI64 a.Ret/\XE a.Blocks/\True
theorem op_25:Opens Tryz.prog 25 eTFunc okTFunc:=Opens.to (Qy (N:=3) Tryz.underlying25 (by kernel_rfl) (Cy (off:=0) (sz:=1) (N:=3) rfl (by kernel_rfl) (by decide) dh (Cy (off:=1) (sz:=1) (N:=3) rfl (by kernel_rfl) (by decide) op_3 (Cy (off:=2) (sz:=1) (N:=3) rfl (by kernel_rfl) (by decide) zB T6)))) (λp=>⟨p.1,p.2.1,p.2.2.1⟩) (λ_=>rfl) (λ_ h=>h)
def numB(n:Int):Bool:=decide (0<=n)&&decide (n<=2147483647)
def listB(l:List Int):Bool:=l.all numB&&decide (l.length<=64)
def FI(p:Bc):Bool:=numB p.Bits&&numB p.Dst&&listB p.From&&listB p.Args
def eg(o:Bz):Bool:=numB o.Kind&&numB o.Bits&&numB o.Lanes&&numB o.Dst&&listB o.Args
def cU(e:On):Bool:=numB e.Kind&&numB e.Arg&&listB e.To
def blockB(b:Ae):Bool:=b.Phis.all FI&&b.Ops.all eg&&cU b.End
def Ez(b:Ae):Nat:=b.Phis.length+b.Ops.length+1
def sizeN(f:TFunc):Nat:=(f.Blocks.map Ez).sum
def sizeW(f:TFunc):Int:=w64 (sizeN f)
def Qv(f:TFunc):Bool:=decide (1<=f.Blocks.length)&&decide (f.Blocks.length<=64)&&decide (f.Params.length<=16)&&listB f.Params&&numB f.Ret&&decide (sizeW f<=512)&&f.Blocks.all blockB
def cW(p:Bc):Nat:=1+p.From.length+p.Args.length
def cV(o:Bz):Nat:=1+o.Args.length
def UT(b:Ae):Nat:=1+b.End.To.length+(b.Phis.map cW).sum+(b.Ops.map cV).sum
def fe(f:TFunc):Nat:=f.Params.length+(f.Blocks.map UT).sum
theorem Od:maxLen=9223372036854775807:=rfl
structure VT(f:TFunc):Prop where
 params:f.Params.length<=maxLen
 blocks:f.Blocks.length<=maxLen
 block:∀ b∈f.Blocks,b.Phis.length<=maxLen/\b.Ops.length<=maxLen/\b.End.To.length<=maxLen
 phi:∀ b∈f.Blocks,∀ p∈b.Phis,p.From.length<=maxLen/\p.Args.length<=maxLen
 op:∀ b∈f.Blocks,∀ o∈b.Ops,o.Args.length<=maxLen/\0<=o.Imm/\o.Imm<18446744073709551616
theorem inF{f:TFunc}(h:okTFunc f):VT f:=
 ⟨h.1.2,h.2.2.1.2,λb hb=>⟨(h.2.2.1.1 b hb).1.2,(h.2.2.1.1 b hb).2.1.2,(h.2.2.1.1 b hb).2.2.1.2.2.1.2⟩,λb hb p hp=>⟨((h.2.2.1.1 b hb).1.1 p hp).2.2.1.2,((h.2.2.1.1 b hb).1.1 p hp).2.2.2.1.2⟩,
  λb hb o ho=>⟨((h.2.2.1.1 b hb).2.1.1 o ho).2.2.2.2.1.2,w9 ((h.2.2.1.1 b hb).2.1.1 o ho).2.2.2.2.2.1⟩⟩
theorem U9{n:Nat}(h:n<9223372036854775808):w64 (n:Int)=n:=He (by omega) (by omega)
theorem K4{i n:Nat}(h:i<n)(hn:n<=maxLen):w64 ((i:Int)+1)=((i+1:Nat):Int):=by rw[Od]at hn;rw[show((i:Int)+1)=(i+1:Nat) by omega,U9 (by omega)]
theorem SA(f:TFunc)(hf:VT f):∃ b,Da f=some b:=by
 have h3:∃ x,Ac (C3 f) (f.Params.length,(0:Nat))=some x:=by
  refine Tt f.Blocks.length _ (λn i hi=>?_) (λn=>?_) _ 0 _ (E8 _)
  ·have hmem:=Ag (d:=default) hi;obtain⟨b1,b2,_⟩:=hf.block _ hmem;have hI :=Ai hi;unfold C3
   cases hc:(bif decide (i<(f.Blocks.length:Int)) then decide (n<=20000) else false) with
   | false=>right;simp only[hc];exact⟨_,rfl⟩
   | true=>
    left
    simp only[hc, Aa hI]
    obtain⟨x1,h1⟩:=Tt (f.Blocks.getD i default).Phis.length (C1 f i) (λn j hj=>by
      unfold C1;simp only[Aa hI,C8]
      cases hc:(bif decide (j<((f.Blocks.getD i default).Phis.length:Int)) then decide (n<=20000) else false) with
      | false=>grind
      | true=>left;simp only[ Aa (Ai hj),K4 hj b1];exact⟨_,rfl⟩) (λn=>by
      unfold C1;simp only[Aa hI,C8]
      have:decide ((f.Blocks.getD i default).Phis.length<((f.Blocks.getD i default).Phis.length:Int))=false:=by simp
      simp only[this];exact⟨_,rfl⟩) _ 0 (w64 (w64 (n+1)+(f.Blocks.getD i default).End.To.length)) (E8 _)
    obtain⟨x2,h2⟩:=Tt (f.Blocks.getD i default).Ops.length (C2 f i) (λn j hj=>by
      unfold C2;simp only[Aa hI,C8]
      cases hc:(bif decide (j<((f.Blocks.getD i default).Ops.length:Int)) then decide (n<=20000) else false) with
      | false=>grind
      | true=>left;simp only[ Aa (Ai hj),K4 hj b2];exact⟨_,rfl⟩) (λn=>by
      unfold C2;simp only[Aa hI,C8]
      have:decide ((f.Blocks.getD i default).Ops.length<((f.Blocks.getD i default).Ops.length:Int))=false:=by simp
      simp only[this];exact⟨_,rfl⟩) _ 0 x1 (E8 _)
    rw[show((0:Nat):Int)=0 from rfl]at h1 h2;simp only[C8,h1,h2,An,K4 hi hf.blocks];exact⟨_,rfl⟩
  ·unfold C3
   have:decide ((f.Blocks.length:Int)<(f.Blocks.length:Int))=false:=by simp
   simp only[this];exact⟨_,rfl⟩
 obtain⟨x,hx⟩:=h3;unfold Da;rw[show((0:Nat):Int)=0 from rfl]at hx;rw[hx];exact⟨_,rfl⟩
theorem eE(f:TFunc)(hf:VT f)(h0:f.Params.length<=64)(hb:∀ b∈f.Blocks,b.End.To.length<=64/\(∀ p∈b.Phis,p.From.length<=64/\p.Args.length<=64)/\∀ o∈b.Ops,o.Args.length<=64):Da f=some (decide (fe f<=20000)):=by
 have h3:=HJ f.Blocks (default:Ae) UT 20000 (C3 f) (λn i hi hn=>by
   have hmem:=Ag (d:=(default:Ae)) hi;obtain⟨b1,b2,b3⟩:=hf.block _ hmem;obtain⟨hTo,hPh,hOp⟩:=hb _ hmem;have hI1:A2 (i:Int) f.Blocks.length:=Ai hi
   have l1:=HJ (f.Blocks.getD i default).Phis (default:Bc) cW 20000 (C1 f i) (λn j hj hn=>by
     have hm:=Ag (d:=(default:Bc)) hj;obtain⟨p1,p2⟩:=hPh _ hm
     have e1:decide ((j:Int)<((f.Blocks.getD i default).Phis.length:Int))=true:=by simpa using hj
     have e2:decide ((n:Int)<=20000)=true:=by simp;omega
     refine⟨n+cW ((f.Blocks.getD i default).Phis.getD j default),?_,λ_=>rfl,λh=>h⟩;unfold C1;simp only[Aa hI1,C8,e1,e2,Ah,Aa (Ai hj),K4 hj b1]
     congr 3
     rw[He (n:=(n:Int)+1) (by omega) (by omega),He (n:=(n:Int)+1+_) (by omega) (by omega),He (by omega) (by omega)];simp only[cW]
     omega) (λn j hj hd=>by
     unfold C1;simp only[Aa hI1,C8]
     have:(bif decide ((j:Int)<((f.Blocks.getD i default).Phis.length:Int)) then decide ((n:Int)<=20000) else false)=false:=by
      rcases hd with rfl|h
      ·simp
      ·simp;omega
     rw[this];rfl)
   have l2:=HJ (f.Blocks.getD i default).Ops (default:Bz) cV 20000 (C2 f i) (λn j hj hn=>by
     have hm:=Ag (d:=(default:Bz)) hj;have p1:=hOp _ hm
     have e1:decide ((j:Int)<((f.Blocks.getD i default).Ops.length:Int))=true:=by simpa using hj
     have e2:decide ((n:Int)<=20000)=true:=by simp;omega
     refine⟨n+cV ((f.Blocks.getD i default).Ops.getD j default),?_,λ_=>rfl,λh=>h⟩;unfold C2;simp only[Aa hI1,C8,e1,e2,Ah,Aa (Ai hj),K4 hj b2]
     congr 3
     rw[He (n:=(n:Int)+1) (by omega) (by omega),He (by omega) (by omega)];simp only[cV]
     omega) (λn j hj hd=>by
     unfold C2;simp only[Aa hI1,C8]
     have:(bif decide ((j:Int)<((f.Blocks.getD i default).Ops.length:Int)) then decide ((n:Int)<=20000) else false)=false:=by
      rcases hd with rfl|h
      ·simp
      ·simp;omega
     rw[this];rfl)
   have e1:decide ((i:Int)<(f.Blocks.length:Int))=true:=by simpa using hi
   have e2:decide ((n:Int)<=20000)=true:=by simp;omega
   obtain⟨m1,q1,q2,q3⟩:=l1 _ 0 (n+1+(f.Blocks.getD i default).End.To.length) (E8 _);obtain⟨m2,q4,q5,q6⟩:=l2 _ 0 m1 (E8 _);rw[N7]at q2 q3 q5 q6;refine⟨m2,?_,λhle=>?_,λhle=>?_⟩
   ·unfold C3;simp only[e1,e2,Ah,Aa hI1,C8,K4 hi hf.blocks];rw[He (n:=(n:Int)+1) (by omega) (by omega),He (by omega) (by omega),show(n:Int)+1+((f.Blocks.getD i default).End.To.length:Int)=((n+1+(f.Blocks.getD i default).End.To.length:Nat):Int) by omega];rw[show((0:Nat):Int)=0 from rfl]at q1 q4;rw[q1,An,q4,An]
   ·simp only[UT]at hle ⊢;have:=q2 (by omega);rw[q5 (by omega)];omega
   ·simp only[UT];have h6:=q6 hle;have h3:=q3 (by omega);have:=q2 h3
    omega) (λn i hi hd=>by
   unfold C3
   have:(bif decide ((i:Int)<(f.Blocks.length:Int)) then decide ((n:Int)<=20000) else false)=false:=by
    rcases hd with rfl|h
    ·simp
    ·simp;omega
   simp only[this,Ax]) f.Blocks.length 0 f.Params.length (E8 _)
 obtain⟨m,h1,h2,h4⟩:=h3;rw[N7]at h2 h4;unfold Da;rw[show((0:Nat):Int)=0 from rfl]at h1;rw[h1,An]
 congr 1
 apply zzL77.2
 simp only[fe]
 constructor
 ·intro h;exact h4 (by omega)
 ·intro h;have:=h2 h;omega
theorem U5(n:Int):Bp n=some (numB n):=by unfold Bp numB;cases decide (0<=n)<;>rfl
theorem Se(l:List Int)(h:l.length<=maxLen):Dq l=some (listB l):=by
 unfold Dq;rw[Od]at h
 have hloop:=Hj l 0 numB (Gc l) (.inl ()) (.inr false) (λi hi hp=>by
   unfold Gc
   have:decide (i<(l.length:Int))=true:=by simpa using hi
   simp only[this,Ah,Aa (Ai hi),C8,U5,An,hp,Dr,Ax,A0 hi (by omega)]) (λi hi hp=>by
   unfold Gc
   have:decide (i<(l.length:Int))=true:=by simpa using hi
   simp only[this,Ah,Aa (Ai hi),C8,U5,An,hp,J1]) (by
   unfold Gc
   simp) l.length 0 (by omega)
 rw[show(0:Int)=(0:Nat) from rfl,hloop,N7];unfold listB
 have e:decide ((l.length:Int)<=64)=decide (l.length<=64):=by grind
 cases l.all _
 ·rfl
 ·simp[e]
theorem eC(f:TFunc)(hf:VT f):Ew f=some (sizeW f):=by
 unfold Ew
 have hl:=DG _ default Ez id (Ie f) (λn i hi=>by
   have e1:decide ((i:Int)<f.Blocks.length)=true:=by simpa using hi
   unfold Ie;simp only[e1,Ah,Aa (Ai hi),C8,K4 hi hf.blocks]
   congr 3
   rw[U8,U8,Int.add_assoc _,U8];unfold Ez
   congr 1
   omega) (λn=>by
   unfold Ie
   simp) _ 0 0 (E8 _)
 rw[show w64 _=0 from rfl,show((0:Nat):Int)=0 from rfl]at hl;rw[hl];simp[sizeN,sizeW]
theorem uA(f:TFunc)(hf:VT f):Iu f=some (Qv f):=by
 have hloop:Ac (E4 f) ((0:Nat):Int)=some (bif (f.Blocks.drop 0).all blockB then .inl () else .inr false):=by
  have step:∀ i:Nat,i<f.Blocks.length->E4 f (i:Int)=bif blockB (f.Blocks.getD i default) then some (.next ((i:Int)+1)) else some (.done (.inr false)):=λi hi=>by
   have hmem:=Ag (d:=(default:Ae)) hi;obtain⟨b1,b2,b3⟩:=hf.block _ hmem;have hPh:=hf.phi _ hmem;have hOp:=hf.op _ hmem;have hM:=Od
   have e0:decide ((i:Int)<(f.Blocks.length:Int))=true:=by simpa using hi
   have l1:=Hj (f.Blocks.getD i default).Phis (default:Bc) FI (Gy f i) (.inl ()) (.inr false) (λj hj hp=>by
     obtain⟨p1,p2⟩:=hPh _ (Ag (d:=(default:Bc)) hj)
     have e1:decide ((j:Int)<((f.Blocks.getD i default).Phis.length:Int))=true:=by simpa using hj
     unfold Gy;simp only[e1,Ah,C8,Aa (Ai hj),U5,An,Se _ p1,Se _ p2,A0 hj (by omega)]
     revert hp
     unfold FI
     cases numB ((f.Blocks.getD i default).Phis.getD j default).Bits<;>cases numB ((f.Blocks.getD i default).Phis.getD j default).Dst<;>cases listB ((f.Blocks.getD i default).Phis.getD j default).From<;>cases listB ((f.Blocks.getD i default).Phis.getD j default).Args<;>simp) (λj hj hp=>by
     obtain⟨p1,p2⟩:=hPh _ (Ag (d:=(default:Bc)) hj)
     have e1:decide ((j:Int)<((f.Blocks.getD i default).Phis.length:Int))=true:=by simpa using hj
     unfold Gy;simp only[e1,Ah,C8,Aa (Ai hj),U5,An,Se _ p1,Se _ p2,A0 hj (by omega)]
     revert hp
     unfold FI
     cases numB ((f.Blocks.getD i default).Phis.getD j default).Bits<;>cases numB ((f.Blocks.getD i default).Phis.getD j default).Dst<;>cases listB ((f.Blocks.getD i default).Phis.getD j default).From<;>cases listB ((f.Blocks.getD i default).Phis.getD j default).Args<;>simp) (by
     unfold Gy
     simp) _ 0 (E8 _)
   have l2:=Hj (f.Blocks.getD i default).Ops (default:Bz) eg (Gz f i) (.inl ()) (.inr false) (λj hj hp=>by
     obtain⟨p1,_⟩:=hOp _ (Ag (d:=(default:Bz)) hj)
     have e1:decide ((j:Int)<((f.Blocks.getD i default).Ops.length:Int))=true:=by simpa using hj
     unfold Gz;simp only[e1,Ah,C8,Aa (Ai hj),U5,An,Se _ p1,A0 hj (by omega)]
     revert hp
     unfold eg
     cases numB ((f.Blocks.getD i default).Ops.getD j default).Kind<;>cases numB ((f.Blocks.getD i default).Ops.getD j default).Bits<;>cases numB ((f.Blocks.getD i default).Ops.getD j default).Lanes<;>cases numB ((f.Blocks.getD i default).Ops.getD j default).Dst<;>cases listB ((f.Blocks.getD i default).Ops.getD j default).Args<;>simp) (λj hj hp=>by
     obtain⟨p1,_⟩:=hOp _ (Ag (d:=(default:Bz)) hj)
     have e1:decide ((j:Int)<((f.Blocks.getD i default).Ops.length:Int))=true:=by simpa using hj
     unfold Gz;simp only[e1,Ah,C8,Aa (Ai hj),U5,An,Se _ p1,A0 hj (by omega)]
     revert hp
     unfold eg
     cases numB ((f.Blocks.getD i default).Ops.getD j default).Kind<;>cases numB ((f.Blocks.getD i default).Ops.getD j default).Bits<;>cases numB ((f.Blocks.getD i default).Ops.getD j default).Lanes<;>cases numB ((f.Blocks.getD i default).Ops.getD j default).Dst<;>cases listB ((f.Blocks.getD i default).Ops.getD j default).Args<;>simp) (by
     unfold Gz
     simp) _ 0 (E8 _)
   rw[show((0:Nat):Int)=0 from rfl,N7]at l1 l2;unfold E4;simp only[e0,Ah,Aa (Ai hi),l1,An];unfold blockB
   cases(f.Blocks.getD i default).Phis.all FI with
   | false=>rfl
   | true=>
    simp only[Ah,l2,An,C8,U5,Se _ b3,A0 hi (by have:=hf.blocks;omega)]
    cases(f.Blocks.getD i default).Ops.all eg with
    | false=>rfl
    | true=>
     unfold cU
     cases numB (f.Blocks.getD i default).End.Kind<;>cases numB (f.Blocks.getD i default).End.Arg<;>cases listB (f.Blocks.getD i default).End.To<;>rfl
  exact Hj f.Blocks (default:Ae) blockB (E4 f) (.inl ()) (.inr false) (λi hi hp=>by rw[step i hi,hp];rfl) (λi hi hp=>by rw[step i hi,hp];rfl) (by
   unfold E4
   simp) _ 0 (E8 _)
 rw[show((0:Nat):Int)=0 from rfl,N7]at hloop;unfold Iu Qv;simp only[Se _ hf.params,U5,eC f hf,hloop]
 have e1:((f.Blocks.length:Int)==0) = !decide (1<=f.Blocks.length):=by
  rw[<- decide_not]
  by_cases h:f.Blocks.length=0
  ·simp[h]
  ·have h1:((f.Blocks.length:Int)==0)=false:=by simpa using h
   rw[h1];symm;apply Cd;omega
 have e2:decide ((64:Int)<(f.Blocks.length:Int)) = !decide (f.Blocks.length<=64):=by rw[<- decide_not];apply zzL77.2;omega
 have e3:decide ((16:Int)<(f.Params.length:Int)) = !decide (f.Params.length<=16):=by rw[<- decide_not];apply zzL77.2;omega
 have e4:decide ((512:Int)<sizeW f) = !decide (sizeW f<=512):=by rw[<- decide_not];apply zzL77.2;omega
 rw[e1,e2,e3]
 generalize decide (1<=f.Blocks.length)=p1
 generalize decide (f.Blocks.length<=64)=p2
 generalize decide (f.Params.length<=16)=p3
 generalize listB f.Params=p4
 generalize numB f.Ret=p5
 cases p1 with
 | false=>simp
 | true=>cases p2 with
  | false=>simp
  | true=>cases p3 with
   | false=>simp
   | true=>cases p4 with
    | false=>simp
    | true=>cases p5 with
     | false=>simp
     | true=>
      simp only[Dr,Bool.or_self,Ah,Ax,Vc,An,e4]
      cases decide (sizeW f<=512) with
      | false=>simp
      | true=>cases f.Blocks.all blockB<;>simp
theorem JC{α:Type}[BEq α](l m:List α):(l.drop 0==m.drop 0)=(l==m):=by simp
theorem ZU{α β:Type}(l:List α)(m:List β):((l.length:Int)!=(m.length:Int)) = !decide (l.length=m.length):=by
 grind
theorem GQ{α:Type}[BEq α][LawfulBEq α][DecidableEq α](x y:α):(x==y)=decide (x=y):=by
 grind
theorem T8(l m:List Int)(hl:l.length<=maxLen):Ba l m=some (decide (l=m)):=by
 unfold Ba;rw[Od]at hl;rw[ZU]
 by_cases he:l.length=m.length
 ·have hloop:=HI l m 0 (B3 l m) (.inl ()) (.inr false) he (λi hi hp=>by
    unfold B3
    have:decide (i<(l.length:Int))=true:=by simpa using hi
    simp only[this,Ah,Aa (Ai hi),Aa (Ai (show i<m.length by omega)),C8,bne,hp,Dr,Ax,A0 hi (by omega)]) (λi hi hp=>by
    unfold B3
    have:decide ((i:Int)<l.length)=true:=by simpa using hi
    simp only[this,Ah,Aa (Ai hi),Aa (Ai (show i<m.length by omega)),C8,bne,hp,J1]) (by
    unfold B3
    simp) l.length 0 (by omega)
  rw[Co he,Dr, show(0:Int)=(0:Nat) from rfl,hloop,JC,GQ]
  cases decide (l=m)<;>rfl
 ·have e3:decide (l=m)=false:=Cd (by rintro rfl;exact he rfl);rw[Cd he,e3];rfl
theorem jo(p q:Bc):(p==q)=((p.Bits==q.Bits)&&(p.Dst==q.Dst)&&decide (p.From=q.From)&&decide (p.Args=q.Args)):=by
 rw[ Wy];obtain⟨a,b,c,d⟩:=p;obtain⟨a',b',c',d'⟩:=q;simp[and_assoc]
theorem k7(x y:Ae):(x==y)=(decide (x.Phis=y.Phis)&&decide (x.Ops=y.Ops)&&((x.End.Kind==y.End.Kind)&&(x.End.Arg==y.End.Arg)&&decide (x.End.To=y.End.To))):=by
 rw[ Wy];obtain⟨p,o,⟨k,a,t⟩⟩:=x;obtain⟨p',o',⟨k',a',t'⟩⟩:=y;simp[and_assoc]
theorem ow(x y:TFunc):decide (x=y)=((x.Ret==y.Ret)&&decide (x.Params=y.Params)&&decide (x.Blocks=y.Blocks)):=by
 rw[Wy];obtain⟨p,r,b⟩:=x;obtain⟨p',r',b'⟩:=y
 constructor
 ·grind
 ·grind
theorem qE(a b:Bz)(h:a.Args.length<=maxLen):Kl a b=some (decide (a=b)):=by
 unfold Kl;rw[T8 _ _ h];obtain⟨k,b1,n,d,ar,i⟩:=a;obtain⟨k',b1',n',d',ar',i'⟩:=b
 have:decide ((⟨k,b1,n,d,ar,i⟩:Bz)=⟨k',b1',n',d',ar',i'⟩)=((k==k')&&(b1==b1')&&(n==n')&&(d==d')&&(i==i')&&decide (ar=ar')):=by
  rw[Wy];simp[and_assoc]
  intros;exact and_comm
 rw[this];simp only
 cases(k==k')<;>cases(b1==b1')<;>cases(n==n')<;>cases(d==d')<;>cases(i==i')<;>rfl
theorem qF(a b:TFunc)(ha:VT a):Km a b=some (decide (a=b)):=by
 have hM:=Od;unfold Km;rw[T8 _ _ ha.params,ow];simp only[ZU]
 by_cases hr:a.Ret=b.Ret
 ·have e1:(a.Ret !=b.Ret)=false:=by simpa using hr
  have e1':(a.Ret==b.Ret)=true:=by simpa using hr
  rw[e1,e1']
  cases hp:decide (a.Params=b.Params) with
  | false=>rfl
  | true=>
   by_cases hlen:a.Blocks.length=b.Blocks.length
   ·have step:∀ i:Nat,i<a.Blocks.length->Gb a b (i:Int)=bif (a.Blocks.getD i default==b.Blocks.getD i default) then some (.next ((i:Int)+1)) else some (.done (.inr false)):=λi hi=>by
     have hmem:=Ag (d:=(default:Ae)) hi;obtain⟨b1,b2,b3⟩:=ha.block _ hmem;have hPh:=ha.phi _ hmem;have hOp:=ha.op _ hmem
     have e0:decide ((i:Int)<(a.Blocks.length:Int))=true:=by simpa using hi
     have hI:A2 (i:Int) b.Blocks.length:=Ai (by omega);rw[k7];unfold Gb;simp only[e0,Ah,Aa (Ai hi),Aa hI,C8,T8 _ _ b3,ZU]
     by_cases hphi:(a.Blocks.getD i default).Phis.length=(b.Blocks.getD i default).Phis.length
     ·by_cases hops:(a.Blocks.getD i default).Ops.length=(b.Blocks.getD i default).Ops.length
      ·rw[Co hphi,Co hops]
       have l1:=HI (a.Blocks.getD i default).Phis (b.Blocks.getD i default).Phis (default:Bc) (F9 a b i) (.inl ()) (.inr false) hphi (λj hj hp=>by
         obtain⟨p1,p2⟩:=hPh _ (Ag (d:=(default:Bc)) hj)
         have q0:decide ((j:Int)<((a.Blocks.getD i default).Phis.length:Int))=true:=by simpa using hj
         rw[jo]at hp;unfold F9;simp only[q0,Ah,C8,Aa (Ai hj),Aa (Ai (show j<(b.Blocks.getD i default).Phis.length by omega)),T8 _ _ p1,T8 _ _ p2,A0 hj (by omega),bne]
         revert hp
         cases(((a.Blocks.getD i default).Phis.getD j default).Bits==((b.Blocks.getD i default).Phis.getD j default).Bits)<;>cases(((a.Blocks.getD i default).Phis.getD j default).Dst==((b.Blocks.getD i default).Phis.getD j default).Dst)<;>cases decide (((a.Blocks.getD i default).Phis.getD j default).From=((b.Blocks.getD i default).Phis.getD j default).From)<;>cases decide (((a.Blocks.getD i default).Phis.getD j default).Args=((b.Blocks.getD i default).Phis.getD j default).Args)<;>simp) (λj hj hp=>by
         obtain⟨p1,p2⟩:=hPh _ (Ag (d:=(default:Bc)) hj)
         have q0:decide ((j:Int)<((a.Blocks.getD i default).Phis.length:Int))=true:=by simpa using hj
         rw[jo]at hp;unfold F9;simp only[q0,Ah,C8,Aa (Ai hj),Aa (Ai (show j<(b.Blocks.getD i default).Phis.length by omega)),T8 _ _ p1,T8 _ _ p2,A0 hj (by omega),bne]
         revert hp
         cases(((a.Blocks.getD i default).Phis.getD j default).Bits==((b.Blocks.getD i default).Phis.getD j default).Bits)<;>cases(((a.Blocks.getD i default).Phis.getD j default).Dst==((b.Blocks.getD i default).Phis.getD j default).Dst)<;>cases decide (((a.Blocks.getD i default).Phis.getD j default).From=((b.Blocks.getD i default).Phis.getD j default).From)<;>cases decide (((a.Blocks.getD i default).Phis.getD j default).Args=((b.Blocks.getD i default).Phis.getD j default).Args)<;>simp) (by
         unfold F9
         simp) _ 0 (E8 _)
       have l2:=HI (a.Blocks.getD i default).Ops (b.Blocks.getD i default).Ops (default:Bz) (Ga a b i) (.inl ()) (.inr false) hops (λj hj hp=>by
         obtain⟨p1,_⟩:=hOp _ (Ag (d:=(default:Bz)) hj)
         have q0:decide ((j:Int)<((a.Blocks.getD i default).Ops.length:Int))=true:=by simpa using hj
         rw[GQ]at hp;unfold Ga
         simp only[q0,Ah,C8,Aa (Ai hj),Aa (Ai (show j<(b.Blocks.getD i default).Ops.length by omega)),qE _ _ p1,A0 hj (by omega),hp,An,Dr,Ax]) (λj hj hp=>by
         obtain⟨p1,_⟩:=hOp _ (Ag (d:=(default:Bz)) hj)
         have q0:decide ((j:Int)<((a.Blocks.getD i default).Ops.length:Int))=true:=by simpa using hj
         rw[GQ]at hp;unfold Ga
         simp only[q0,Ah,C8,Aa (Ai hj),Aa (Ai (show j<(b.Blocks.getD i default).Ops.length by omega)),qE _ _ p1,hp,An,J1,Ah]) (by
         unfold Ga
         simp) _ 0 (E8 _)
       rw[show((0:Nat):Int)=0 from rfl,JC,GQ]at l1 l2;simp only[l1,An,A0 hi (by have:=ha.blocks;omega),bne]
       cases((a.Blocks.getD i default).End.Kind==(b.Blocks.getD i default).End.Kind)<;>cases((a.Blocks.getD i default).End.Arg==(b.Blocks.getD i default).End.Arg)<;>cases decide ((a.Blocks.getD i default).End.To=(b.Blocks.getD i default).End.To)<;>cases decide ((a.Blocks.getD i default).Phis=(b.Blocks.getD i default).Phis)<;>simp only[Dr,J1,Ah,Ax,l2,FV,Bool.and_false,Ld,FU,An]
       all_goals first|rfl|(cases decide ((a.Blocks.getD i default).Ops=(b.Blocks.getD i default).Ops)<;>rfl)
      ·have:decide ((a.Blocks.getD i default).Ops=(b.Blocks.getD i default).Ops)=false:=Cd λh=>hops (by rw[h]);rw[Co hphi,Cd hops,this]
       simp
     ·have:decide ((a.Blocks.getD i default).Phis=(b.Blocks.getD i default).Phis)=false:=Cd λh=>hphi (by rw[h]);rw[Cd hphi,this]
      simp
    have hloop:=HI a.Blocks b.Blocks (default:Ae) (Gb a b) (.inl ()) (.inr false) hlen (λi hi hp=>by rw[step i hi,hp];rfl) (λi hi hp=>by rw[step i hi,hp];rfl) (by
     unfold Gb
     simp) _ 0 (E8 _)
    rw[show((0:Nat):Int)=0 from rfl,JC,GQ]at hloop;rw[Co hlen];simp only[hloop,Dr,Ax,Ah,An,bne,Ld,FV,J1]
    all_goals first|rfl|(cases decide (a.Blocks=b.Blocks)<;>rfl)
   ·have:decide (a.Blocks=b.Blocks)=false:=Cd λh=>hlen (by rw[h]);rw[Cd hlen,this]
    rfl
 ·have e1:(a.Ret !=b.Ret)=true:=by simpa using hr
  have e1':(a.Ret==b.Ret)=false:=by simpa using hr
  rw[e1,e1']
  rfl
theorem pV{n:Int}:numB n=true↔0<=n/\n<=2147483647:=by simp[numB]
theorem listB_iff{l:List Int}:listB l=true↔o6 l/\l.length<=64:=by
 simp[listB,o6,pV]
def zT(n:Int):Prop:=0<=n/\n<18446744073709551616
structure OkB(b:Ae):Prop where
 may:blockB b=true
 phis:b.Phis.length<=512
 ops:b.Ops.length<=512
 imm:∀ o∈b.Ops,zT o.Imm
structure OkF(f:TFunc):Prop where
 params:listB f.Params=true
 few:f.Params.length<=16
 ret:numB f.Ret=true
 blocks:f.Blocks.length<=64
 block:∀ b∈f.Blocks,OkB b
theorem blockB_iff{b:Ae}:blockB b=true↔(∀ p∈b.Phis,FI p=true)/\(∀ o∈b.Ops,eg o=true)/\cU b.End=true:=by
 simp[blockB,and_assoc]
theorem gz{α:Type}(l:List α)(g:α->Nat)(B:Nat)(h:∀ a∈l,g a<=B):(l.map g).sum<=l.length*B:=by
 induction l with
 | nil=>simp
 | cons a l ih=>
  have h1:=h a (by simp);have h2:=ih (λb hb=>h b (by simp[hb]));rw[Cs,SR,EU,Gm];omega
theorem qK{α:Type}(l:List α)(g k:α->Nat)(h:∀ a∈l,g a<=k a):(l.map g).sum<=(l.map k).sum:=by
 induction l with
 | nil=>simp
 | cons a l ih=>
  grind
theorem QE{α:Type}(l:List α)(g:α->Nat)(h:∀ a∈l,1<=g a):l.length<=(l.map g).sum:=by
 induction l with
 | nil=>simp
 | cons a l ih=>
  grind
theorem gD{α:Type}{l:List α}{a:α}(g:α->Nat)(h:a∈l):g a<=(l.map g).sum:=by
 induction l with
 | nil=>cases h
 | cons b l ih=>
  grind
theorem OkF.size{f:TFunc}(h:OkF f):sizeN f<=65600/\sizeW f=sizeN f:=by
 have:sizeN f<=f.Blocks.length*1025:=gz _ _ _ λb hb=>by
  have h1:=(h.block b hb).phis;have h2:=(h.block b hb).ops;simp only[Ez];omega
 have h2:=h.blocks
 have h3:sizeN f<=65600:=by omega
 exact⟨h3,U9 (by omega)⟩
theorem JK{f:TFunc}(h:Qv f=true):1<=f.Blocks.length/\f.Blocks.length<=64/\f.Params.length<=16/\listB f.Params=true/\numB f.Ret=true/\sizeW f<=512/\∀ b∈f.Blocks,blockB b=true:=by
 simp only[Qv,A6,Gq,zzL26]at h;exact⟨h.1.1.1.1.1.1,h.1.1.1.1.1.2,h.1.1.1.1.2,h.1.1.1.2,h.1.1.2,h.1.2,h.2⟩
theorem lc{f:TFunc}(h:Qv f=true):f.Params.length<=64/\∀ b∈f.Blocks,b.End.To.length<=64/\(∀ p∈b.Phis,p.From.length<=64/\p.Args.length<=64)/\∀ o∈b.Ops,o.Args.length<=64:=by
 obtain⟨_,_,h3,_,_,_,h7⟩:=JK h;refine⟨by omega,λb hb=>?_⟩;obtain⟨q1,q2,q3⟩:=blockB_iff.1 (h7 b hb);simp only[cU,A6]at q3;refine⟨(listB_iff.1 q3.2).2,λp hp=>?_,λo ho=>?_⟩
 ·have:=q1 p hp;simp only[FI,A6]at this;exact⟨(listB_iff.1 this.1.2).2,(listB_iff.1 this.2).2⟩
 ·have:=q2 o ho;simp only[eg,A6]at this;exact(listB_iff.1 this.2).2
theorem wq{f:TFunc}(hf:VT f)(h:Qv f=true)(hs:fe f<=20000):OkF f/\sizeN f<=512:=by
 obtain⟨h1,h2,h3,h4,h5,h6,h7⟩:=JK h
 have hle:sizeN f<=fe f:=by
  have:sizeN f<=(f.Blocks.map UT).sum:=qK _ _ _ λb hb=>by
   have q1:b.Phis.length<=(b.Phis.map cW).sum:=QE _ _ λp hp=>by simp only[cW];omega
   have q2:b.Ops.length<=(b.Ops.map cV).sum:=QE _ _ λp hp=>by simp only[cV];omega
   simp only[Ez,UT];omega
  simp only[fe];omega
 have hw:sizeW f=sizeN f:=U9 (by omega)
 have h512:sizeN f<=512:=by omega
 refine⟨⟨h4,h3,h5,h2,λb hb=>?_⟩,h512⟩;have hb512:Ez b<=sizeN f:=gD _ hb;simp only[Ez]at hb512;exact⟨h7 b hb,by omega,by omega,λo ho=>(hf.op b hb o ho).2⟩
theorem MH(f:TFunc)(hf:VT f):∃ sm,Da f=some sm/\(sm=true->Qv f=true->OkF f/\sizeN f<=512/\1<=f.Blocks.length):=by
 obtain⟨sm,h⟩:=SA f hf;refine⟨sm,h,λh1 h2=>?_⟩;obtain⟨q1,q2⟩:=lc h2;rw[eE f hf q1 q2]at h;obtain⟨r1,r2⟩:=wq hf h2 (by grind);exact⟨r1,r2,(JK h2).1⟩
def HH(l:Int):Int:=bif l==0 then 17 else bif l==1 then 20 else 22
def K2(l:Int)(o:Bz):Bool:=Gr o&&!decide (HH l<o.Kind)&&!(decide (l<2)&&decide (1<o.Lanes))
def E9(l:Int)(b:Ae):Bool:=(b.Phis.all λp=>widthB p.Bits)&&b.Ops.all (K2 l)
def M1(f:TFunc)(l:Int):Bool:=f.Params.all widthB&&f.Blocks.all (E9 l)&&widthB f.Ret
theorem th{m a b c:Bool}{x:Int}:(bif (bif (bif (!m) then true else a) then true else(bif b then c else false)) then(some (LR.done (Sum.inr false))) else some (LR.next x):Option (LR Int (Unit ⊕ Bool)))=some (bif (m&&!a&&!(b&&c)) then .next x else .done (.inr false)):=by
 grind
theorem lp{f:TFunc}(hf:OkF f){b:Ae}(hb:b∈f.Blocks){o:Bz}(ho:o∈b.Ops):bm o:=by
 have h1:=hf.block b hb;have h2:=(blockB_iff.1 h1.may).2.1 o ho;simp only[eg,A6]at h2;exact⟨⟨(h1.imm o ho).1,(h1.imm o ho).2⟩,by have:=(listB_iff.1 h2.2).2;omega⟩
theorem tM{f:TFunc}(hf:OkF f)(l:Int):Jz f l=some (M1 f l):=by
 have hp:=Hj f.Params (0:Int) widthB (Fq f) (.inl ()) (.inr false) (λi hi hp=>by
   unfold Fq
   have:decide ((i:Int)<(f.Params.length:Int))=true:=by simpa using hi
   simp only[this,Ah,Aa (Ai hi),C8,Sd,An,hp,Dr,Ax,A0 hi (by have:=hf.few;omega)]) (λi hi hp=>by
   unfold Fq
   have:decide ((i:Int)<(f.Params.length:Int))=true:=by simpa using hi
   simp only[this,Ah,Aa (Ai hi),C8,Sd,An,hp,J1]) (by
   unfold Fq;simp) f.Params.length 0 (by omega)
 have hb:=Hj f.Blocks (default:Ae) (E9 l) (Fs f l) (.inl ()) (.inr false)
 have hphi:∀ i:Nat,i<f.Blocks.length->Ac (D5 f (i:Int)) (0:Int)=some _:=λi hi=>by
  have hB:=hf.block _ (Ag (d:=(default:Ae)) hi)
  have:=Hj (f.Blocks.getD i default).Phis (default:Bc) (λp=>widthB p.Bits) (D5 f (i:Int)) (.inl ()) (.inr false) (λj hj hp=>by
   unfold D5
   have:decide ((j:Int)<((f.Blocks.getD i default).Phis.length:Int))=true:=by simpa using hj
   simp only[Aa (Ai hi),C8,this,Ah,Aa (Ai hj),Sd,An,hp,Dr,Ax,A0 hj (by have:=hB.phis;omega)]) (λj hj hp=>by
   unfold D5
   have:decide ((j:Int)<((f.Blocks.getD i default).Phis.length:Int))=true:=by simpa using hj
   simp only[Aa (Ai hi),C8,this,Ah,Aa (Ai hj),Sd,An,hp,J1]) (by
   unfold D5;simp[Aa (Ai hi)]) (f.Blocks.getD i default).Phis.length 0 (by omega)
  rw[show(0:Int)=((0:Nat):Int) from rfl,this,N7]
 have hops:∀ i:Nat,i<f.Blocks.length->Ac (D6 f l (i:Int)) (0:Int)=some _:=λi hi=>by
  have hmem:=Ag (d:=(default:Ae)) hi;have hB:=hf.block _ hmem
  have key:∀(j:Nat),j<(f.Blocks.getD i default).Ops.length->D6 f l (i:Int) (j:Int)=some (bif K2 l ((f.Blocks.getD i default).Ops.getD j default) then .next ((j:Int)+1) else .done (.inr false)):=λj hj=>by
   unfold D6
   have hd:decide ((j:Int)<((f.Blocks.getD i default).Ops.length:Int))=true:=by simpa using hj
   have hok:=lp hf hmem (Ag (d:=(default:Bz)) hj);simp only[Aa (Ai hi),C8,hd,Ah,Aa (Ai hj),A0 hj (by have:=hB.ops;omega)];unfold K2 HH;cases h1:(l==1)<;>cases h0:(l==0)<;>simp only[Ah,Ax,An,bF _ hok,th]
  have:=Hj (f.Blocks.getD i default).Ops (default:Bz) (K2 l) (D6 f l (i:Int)) (.inl ()) (.inr false) (λj hj hp=>by rw[key j hj,hp];rfl) (λj hj hp=>by rw[key j hj,hp];rfl) (by
   unfold D6;simp[Aa (Ai hi)]) (f.Blocks.getD i default).Ops.length 0 (by omega)
  rw[show(0:Int)=((0:Nat):Int) from rfl,this,N7]
 have hb':=hb (λi hi hp=>by
   unfold Fs
   have:decide ((i:Int)<(f.Blocks.length:Int))=true:=by simpa using hi
   simp only[E9,A6]at hp
   simp only[this,Ah,hphi i hi,hops i hi,hp.1,hp.2,An,A0 hi (by have:=hf.blocks;omega)]) (λi hi hp=>by
   unfold Fs
   have:decide ((i:Int)<(f.Blocks.length:Int))=true:=by simpa using hi
   simp only[E9]at hp;simp only[this,Ah,hphi i hi,hops i hi,An]
   cases h1:((f.Blocks.getD i default).Phis.all λp=>widthB p.Bits) with
   | false=>rfl
   | true=>grind) (by
   unfold Fs;simp) f.Blocks.length 0 (by omega)
 unfold Jz M1;rw[show(0:Int)=((0:Nat):Int) from rfl,hp,hb',N7,N7]
 cases f.Params.all widthB<;>cases f.Blocks.all (E9 l)<;>simp[Sd]
theorem IA:room=1099511627776:=rfl
theorem Mt{β:Type}(n A C:Nat)(E:Nat->List β)(hE:∀ i,i<n->(E i).length<=C)(f:List β×Int->Option (LR (List β×Int) (List β)))
  (hn:∀(acc:List β) (i:Nat),i<n->acc.length<=A+i*C->f (acc,(i:Int))=some (.next (acc++E i,(i:Int)+1)))
  (hd:∀ acc:List β,f (acc,(n:Int))=some (.done acc)):∀(k i:Nat) (acc:List β),i+k=n->acc.length<=A+i*C->Ac f (acc,(i:Int))=some (acc++(List.range' i k).flatMap E)
 | 0,i,acc,h,_=>by
  obtain rfl:i=n:=by omega
  rw[Ak (hd acc)]
  simp
 | k+1,i,acc,h,hA=>by
  have hi:i<n:=by omega
  have h2:acc.length+C<=A+(i+1)*C:=by rw[Gm];omega
  rw[Ap (hn acc i hi hA),show(i+1)=((i+1:Nat):Int) by omega,Mt n A C E hE f hn hd k _ _ (by omega) (by grind),ET,MO,ES]
theorem Kb{β:Type}(C:Nat)(E:Nat->List β):∀ l:List Nat,(∀ i∈l,(E i).length<=C)->(l.flatMap E).length<=l.length*C
 | [],_=>by simp
 | a::l,h=>by
  have h1:=h a (by simp);have h2:=Kb C E l (λi hi=>h i (by simp[hi]));rw[MO,Fh,EU,Gm];omega
def Lo(l:List Cg)(v:Int):Int:=match l.findIdx? (λd=>d.V==v) with|some i=>(i:Int)|none=>-1
theorem ZX(l:List Cg)(v:Int)(hl:l.length<=1000000):Ex l v=some (Lo l v):=by
 have key:∀(k i:Nat),i+k=l.length->Ac (Gh l v) i=some (match(l.drop i).findIdx? (λd=>d.V==v) with|some j=>.inr (i+j:Nat)|none=>.inl ()):=by
  intro k
  induction k with
  | zero=>
   intro i h
   obtain rfl:i=l.length:=by omega
   rw[Ak (x:=.inl ()) (by unfold Gh;simp)]
   simp
  | succ k ih=>
   intro i h
   have hi:i<l.length:=by omega
   have hdr:l.drop i=l.getD i default::l.drop (i+1):=by simp_all
   have hd:decide (i<(l.length:Int))=true:=by simpa using hi
   rw[hdr,List.findIdx?_cons]
   cases hb:(l.getD i _).V==v with
   | true=>
    rw[Ak (x:=.inr i) (by unfold Gh;simp only[hd,Ah,Aa (Ai hi),C8,hb])]
    simp
   | false=>
    rw[Ap (s':=((i+1:Nat):Int)) (by unfold Gh;simp only[hd, Aa (Ai hi),C8,hb, A0 hi (by omega)];rfl),ih _ (by omega)]
    cases(l.drop _).findIdx? _ with
    | none=>simp
    | some j=>simp;omega
 unfold Ex Lo;rw[show 0=((0:Nat):Int) from rfl,key l.length 0 (by omega),N7]
 cases l.findIdx? _ with
 | none=>rfl
 | some j=>simp
def H1(o:Bz):Int×Int:=bif Gr o then Xn o.Kind o.Bits o.Lanes else(0,0)
def Hd(o:Bz):List (Int×Int):=bif Gr o then Rx o else[]
def Ra(f:TFunc):List Cg:=(List.range f.Params.length).flatMap λ(i:Nat)=>[⟨(i:Int)+1,-1,0,(f.Params.getD i 0,1)⟩]
def Rz(b:Ae)(i:Nat):List Cg:=(List.range b.Phis.length).flatMap λ(k:Nat)=>[⟨(b.Phis.getD k default).Dst,i,-1,((b.Phis.getD k default).Bits,1)⟩]
def Xe(b:Ae)(i:Nat):List Cg:=(List.range b.Ops.length).flatMap λ(k:Nat)=>bif decide (0<(H1 (b.Ops.getD k default)).1) then[⟨(b.Ops.getD k default).Dst,i,k,H1 (b.Ops.getD k default)⟩] else[]
def Q9(b:Ae)(i:Nat):List Cg:=Rz b i++Xe b i
def As(f:TFunc):List Cg:=Ra f++(List.range f.Blocks.length).flatMap λi=>Q9 (f.Blocks.getD i default) i
theorem LE(b:Ae)(i:Nat):(Rz b i).length<=b.Phis.length:=by
 have:=Kb 1 (λk=>[(⟨(b.Phis.getD k default).Dst,i,-1,((b.Phis.getD k default).Bits,1)⟩:Cg)]) (List.range b.Phis.length) (λ_ _=>zzL6 _)
 simpa [Rz] using this
theorem fc(b:Ae)(i:Nat):(Xe b i).length<=b.Ops.length:=by
 have:=Kb 1 (λk=>bif decide (0<(H1 (b.Ops.getD k default)).1) then[(⟨(b.Ops.getD k default).Dst,i,k,H1 (b.Ops.getD k default)⟩:Cg)] else[]) (List.range b.Ops.length) (λk _=>by grind)
 simpa [Xe] using this
theorem WG{f:TFunc}(hf:OkF f){i:Nat}(hi:i<f.Blocks.length):(Q9 (f.Blocks.getD i default) i).length<=1024:=by
 have hB:=hf.block _ (Ag (d:=default) hi);have h1:=LE (f.Blocks.getD i default) i;have h2:=fc (f.Blocks.getD i default) i;have h3:=hB.phis;have h4:=hB.ops;rw[Q9,Fh];omega
theorem CY(f:TFunc):(Ra f).length=f.Params.length:=by
 have h:∀ l:List Nat,(l.map λ_=>1).sum=l.length:=λl=>by induction l with|nil=>rfl|cons a l ih=>simp[ih];omega
 simp[Ra, h]
theorem lJ{f:TFunc}(hf:OkF f):(As f).length<=100000:=by
 have h1:=Kb _ _ (List.range _) (λi hi=>WG hf (by simpa using hi));have h2:=CY f;have h3:=hf.few;have h4:=hf.blocks;rw[Vb]at h1;rw[As,Fh];omega
theorem wi{f:TFunc}(hf:OkF f):Kq f=some (As f):=by
 have hp:=Mt f.Params.length 0 1 (λ(i:Nat)=>[(⟨(i:Int)+1,-1,0,(f.Params.getD i 0,1)⟩:Cg)]) (λ_ _=>zzL6 _) (Ik f) (λacc i hi hA=>by
   unfold Ik
   have hd:decide ((i:Int)<(f.Params.length:Int))=true:=by simpa using hi
   have hr:acc.length+([(⟨(i:Int)+1,(-1:Int),(0:Int),((f.Params.getD i 0),(1:Int))⟩:Cg)]:List (Cg)).length<=room:=by have:=hf.few;rw[IA];simp;omega
   simp only[hd,Ah,Aa (Ai hi),C8,A0 hi (by have:=hf.few;omega),Aa hr]) (λacc=>by unfold Ik;simp) f.Params.length 0 [] (by omega) (by simp)
 have hphi:∀(i:Nat),i<f.Blocks.length->∀ acc:List Cg,acc.length<=100000->Ac (Gf f (i:Int)) (acc,(0:Int))=some (acc++Rz (f.Blocks.getD i default) i):=λi hi acc hacc=>by
  have hB:=hf.block _ (Ag (d:=(default:Ae)) hi)
  have:=Mt (f.Blocks.getD i default).Phis.length 100000 1 (λ(k:Nat)=>[(⟨((f.Blocks.getD i default).Phis.getD k default).Dst,i,-1,(((f.Blocks.getD i default).Phis.getD k default).Bits,1)⟩:Cg)]) (λ_ _=>zzL6 _) (Gf f (i:Int)) (λacc k hk hA=>by
   unfold Gf
   have hd:decide ((k:Int)<((f.Blocks.getD i default).Phis.length:Int))=true:=by simpa using hk
   have hr:∀ x:Cg,acc.length+([x]:List Cg).length<=room:=λx=>by have:=hB.phis;rw[IA];simp;omega
   simp only[C8,hd,Ah,Aa (Ai hk),A0 hk (by have:=hB.phis;omega),Aa (hr _)]) (λacc=>by unfold Gf;simp) (f.Blocks.getD i default).Phis.length 0 acc (by omega) (by omega)
  rw[show(0:Int)=((0:Nat):Int) from rfl,this,Rz,Si]
 have hop:∀(i:Nat),i<f.Blocks.length->∀ acc:List Cg,acc.length<=100000->Ac (Gg f (i:Int)) (acc,(0:Int))=some (acc++Xe (f.Blocks.getD i default) i):=λi hi acc hacc=>by
  have hmem:=Ag (d:=(default:Ae)) hi;have hB:=hf.block _ hmem
  have:=Mt (f.Blocks.getD i default).Ops.length 100000 1 (λ(k:Nat)=>bif decide (0<(H1 ((f.Blocks.getD i default).Ops.getD k default)).1) then[(⟨((f.Blocks.getD i default).Ops.getD k default).Dst,i,k,H1 ((f.Blocks.getD i default).Ops.getD k default)⟩:Cg)] else[]) (λk _=>by grind) (Gg f (i:Int)) (λacc k hk hA=>by
   unfold Gg;have hok:=lp hf hmem (Ag (d:=(default:Bz)) hk)
   have hd:decide ((k:Int)<((f.Blocks.getD i default).Ops.length:Int))=true:=by simpa using hk
   have hr:∀ x:Cg,acc.length+([x]:List Cg).length<=room:=λx=>by have:=hB.ops;rw[IA];simp;omega
   have hg:Hl ((f.Blocks.getD i default).Ops.getD k default)=some (H1 ((f.Blocks.getD i default).Ops.getD k default)):=lu _ hok;simp only[C8,hd,Ah,Aa (Ai hk),hg,An,A0 hk (by have:=hB.ops;omega),Aa (hr _)]
   cases decide (0<(H1 ((f.Blocks.getD i default).Ops.getD k default)).1)<;>simp) (λacc=>by unfold Gg;simp) (f.Blocks.getD i default).Ops.length 0 acc (by omega) (by omega)
  rw[show(0:Int)=((0:Nat):Int) from rfl,this,Xe,Si]
 have hb:=Mt f.Blocks.length 16 1024 (λi=>Q9 (f.Blocks.getD i default) i) (λi hi=>WG hf hi) (Il f) (λacc i hi hA=>by
   unfold Il
   have hd:decide ((i:Int)<(f.Blocks.length:Int))=true:=by simpa using hi
   have hB:=hf.block _ (Ag (d:=(default:Ae)) hi);have h64:=hf.blocks;have h2:=LE (f.Blocks.getD i default) i;have h3:=hB.phis
   simp only[hd,Ah,Aa (Ai hi),hphi i hi acc (by omega),An,hop i hi (acc++Rz (f.Blocks.getD i default) i) (by rw[Fh];omega),A0 hi (by omega),Q9,ES]) (λacc=>by unfold Il;simp) f.Blocks.length 0 (Ra f) (by omega) (by have:=CY f;have:=hf.few;omega)
 unfold Kq;rw[show(0:Int)=((0:Nat):Int) from rfl,hp,An,Y7]
 have e:(List.range' 0 f.Params.length).flatMap (λ(i:Nat)=>[(⟨(i:Int)+1,-1,0,(f.Params.getD i 0,1)⟩:Cg)])=Ra f:=by rw[Ra,Si]
 rw[e,hb,An,As,Si]
end
end Go.Proofs.YtfhggcbcamamdaaGreat
