/-
  The machine, the program's functions and the laws' arithmetic: part 4 of 6.
-/
import Derived.Test.YtfhggcbcamamdaaGreatPk3
import Derived.OpenShut
import Derived.ShutString
set_option linter.unusedSectionVars false
set_option linter.unusedVariables false
set_option linter.unusedSimpArgs false
namespace Go.Proofs.YtfhggcbcamamdaaGreat
noncomputable section
open Go Go.RowKit
set_option maxRecDepth 100000
set_option maxHeartbeats 2000000
def Gz(a0:TFunc)(i4:Int):Int->Option (LR Int (Unit ⊕ Bool)):=
 λi6=>bif decide (i6<(a0.Blocks.getD i4.toNat default).Phis.length) then Az (A1 i6 (a0.Blocks.getD i4.toNat default).Phis.length) ((Bo ((a0.Blocks.getD i4.toNat default).Phis.getD i6.toNat default).Bits).bind λx8=>(bif (!x8)==false then Bo ((a0.Blocks.getD i4.toNat default).Phis.getD i6.toNat default).Dst else some false).bind λx9=>(bif (bif !x8 then true else !x9)==false then Dp ((a0.Blocks.getD i4.toNat default).Phis.getD i6.toNat default).From else some false).bind λx10=>(bif (bif bif !x8 then true else !x9 then true else !x10)==false then Dp ((a0.Blocks.getD i4.toNat default).Phis.getD i6.toNat default).Args else some false).bind λx11=>bif bif bif bif !x8 then true else !x9 then true else !x10 then true else !x11 then some (.done (.inr false)) else some (.next (w64 (i6+1)))) else some (.done (.inl ()))
def G0(a0:TFunc)(i4:Int):Int->Option (LR Int (Unit ⊕ Bool)):=
 λi14=>bif decide (i14<(a0.Blocks.getD i4.toNat default).Ops.length) then Az (A1 i14 (a0.Blocks.getD i4.toNat default).Ops.length) ((Bo ((a0.Blocks.getD i4.toNat default).Ops.getD i14.toNat default).Kind).bind λx16=>(bif (!x16)==false then Bo ((a0.Blocks.getD i4.toNat default).Ops.getD i14.toNat default).Bits else some false).bind λx17=>(bif (bif !x16 then true else !x17)==false then Bo ((a0.Blocks.getD i4.toNat default).Ops.getD i14.toNat default).Lanes else some false).bind λx18=>(bif (bif bif !x16 then true else !x17 then true else !x18)==false then Bo ((a0.Blocks.getD i4.toNat default).Ops.getD i14.toNat default).Dst else some false).bind λx19=>(bif (bif bif bif !x16 then true else !x17 then true else !x18 then true else !x19)==false then Dp ((a0.Blocks.getD i4.toNat default).Ops.getD i14.toNat default).Args else some false).bind λx20=>bif bif bif bif bif !x16 then true else !x17 then true else !x18 then true else !x19 then true else !x20 then some (.done (.inr false)) else some (.next (w64 (i14+1)))) else some (.done (.inl ()))
def E2(a0:TFunc):Int->Option (LR Int (Unit ⊕ Bool)):=
 λi4=>bif decide (i4<a0.Blocks.length) then Az (A1 i4 a0.Blocks.length) ((Ac   (Gz a0 i4) 0).bind λx12=>match x12 with | .inl _=>(Ac   (G0 a0 i4) 0).bind λx21=>(match x21 with | .inl _=>(Bo (a0.Blocks.getD i4.toNat default).End.Kind).bind λx23=>(bif (!x23)==false then Bo (a0.Blocks.getD i4.toNat default).End.Arg else some false).bind λx24=>(bif (bif !x23 then true else !x24)==false then Dp (a0.Blocks.getD i4.toNat default).End.To else some false).bind λx25=>bif bif bif !x23 then true else !x24 then true else !x25 then some (.done (.inr false)) else some (.next (w64 (i4+1))) | .inr r26=>some (.done (.inr r26))) | .inr r27=>some (.done (.inr r27))) else some (.done (.inl ()))
def Ot(Γ:H6)(a0:TFunc)(r:Bool):Exit->St->Prop:=fK Tryz.prog Γ Tryz.f51.results.toList [] (.bool r) []
def cE(x8:Bool)(x9:Bool):=(bif (!x8) then true else(!x9))
def nN(a0:TFunc):=((a0.Blocks.length:Int)==0)
def nM(a0:TFunc):=(bif (bif (nN a0) then true else(decide ((64:Int)<(a0.Blocks.length:Int)))) then true else(decide ((16:Int)<(a0.Params.length:Int))))
def cF(a0:TFunc)(x1:Bool):=(bif (nM a0) then true else(!x1))
def vV(x23:Bool)(x24:Bool):=((bif (!x23) then true else(!x24))==false)
def Aad(a0:TFunc)(i4:Int):=(a0.Blocks.getD i4.toNat default)
def Aa1(a0:TFunc)(i4:Int)(i14:Int):=(((Aad a0 i4).Ops).getD i14.toNat default)
def cD(x16:Bool)(x17:Bool)(x18:Bool):=(bif (bif (!x16) then true else(!x17)) then true else(!x18))
def Aae(a0:TFunc):=((bif (nN a0) then true else(decide ((64:Int)<(a0.Blocks.length:Int))))==false)
def I4(a0:TFunc):Option Bool:=
 (bif (bif bif (a0.Blocks.length:Int)==0 then true else decide (64<(a0.Blocks.length:Int)) then true else decide (16<(a0.Params.length:Int)))==false then Dp a0.Params else some false).bind λx1=>(bif (bif bif bif a0.Blocks.length==(0:Int) then true else decide (64<(a0.Blocks.length:Int)) then true else decide (16<(a0.Params.length:Int)) then true else !x1)==false then Bo a0.Ret else some false).bind λx2=>(bif (bif bif bif bif a0.Blocks.length==(0:Int) then true else decide (64<(a0.Blocks.length:Int)) then true else decide (16<(a0.Params.length:Int)) then true else !x1 then true else !x2)==false then Cr a0 else some 0).bind λx3=>bif bif bif bif bif bif a0.Blocks.length==(0:Int) then true else decide (64<(a0.Blocks.length:Int)) then true else decide ((16:Int)<a0.Params.length) then true else !x1 then true else !x2 then true else decide (512<x3) then some false else(Ac   (E2 a0) 0).bind λx28=>match x28 with | .inl _=>some true | .inr r30=>some r30
variable{v0:TFunc}{v3:Bool}
theorem BM(h:I4 v0=some v3):sP 51 [(Vn v0)] [] (.bool v3) []:=
 sG Tryz.func51 λΓ q=>Af q [1] [1] (tB h λx1 y1 h=>tB h λx2 y2 h=>tB h λx3 y3 h=>tT q [1,41] [1] [(Z2 x1),(Z2 x2),(IX x3)] (Yy ((nN v0)==false) (ci (L5 (nN v0)) (Yy (Aae v0) (ci (L5 (bif (nN v0) then true else(decide ((64:Int)<(v0.Blocks.length:Int))))) (Md ((nM v0)==false) (UN (λ(hg:((nM v0)==false)=true)=>(Hr (A9 hg y1))) (gI ((nM v0)==false)) (L5 (nM v0)) (Md ((cF v0 x1)==false) (c7 (λ(hg:((cF v0 x1)==false)=true)=>(Cf (A9 hg y2))) (gI ((cF v0 x1)==false)) (L5 (cF v0 x1)) (gI ((bif (cF v0 x1) then true else(!x2))==false)) (λ(hg:((bif (cF v0 x1) then true else(!x2))==false)=true)=>(Hq (A9 hg y3))) (gI ((bif (cF v0 x1) then true else(!x2))==false)) (L5 (bif (cF v0 x1) then true else(!x2))))))))))) (gC h (λh=>Af q [2] [] (tS h (Ca []))) λh=>Af q La [1] (tL q h La [1] (λu i4=>(Cm u [(3,(Z5 i4))] [])) (λu x_=>match x_ with|(.inl _)=>aG Γ (.exit 0) (⟨[],[],[]⟩:St)|(.inr r_)=>aR (Ot Γ v0 r_)) (λi4 y h=>Af q [1,3,46] [1] (gC h (λh=>tV q H3 P5 h λh=>Af q Jv P5 (tL q h Jv P5 (λu i6=>(Cm u [(5,(Z5 i6))] [])) (λu x_=>match x_ with|(.inl _)=>aG Γ (.exit 2) (Nb H3 P5 u [] [])|(.inr r_)=>aR (Ot Γ v0 r_)) (λi6 y h=>Af q [1,3,4,5,58] P5 (gC h (λh=>tV q Sn [1,4,6] h λh=>tB h λx8 y8 h=>tB h λx9 y9 h=>tB h λx10 y10 h=>tB h λx11 y11 h=>tT q [1,3,4,5,87] P5 [(Z2 x8),(Z2 x9),(Z2 x10),(Z2 x11)] (ci (Cf y8) (Md ((!x8)==false) (UN (λ(hg:((!x8)==false)=true)=>(Cf (A9 hg y9))) (gI ((!x8)==false)) (L5 (!x8)) (Md ((cE x8 x9)==false) (UN (λ(hg:((cE x8 x9)==false)=true)=>(Hr (A9 hg y10))) (gI ((cE x8 x9)==false)) (L5 (cE x8 x9)) (Md ((bif (cE x8 x9) then true else(!x10))==false) (c3 (λ(hg:((bif (cE x8 x9) then true else(!x10))==false)=true)=>(Hr (A9 hg y11))) (gI ((bif (cE x8 x9) then true else(!x10))==false)) (L5 (bif (cE x8 x9) then true else(!x10)))))))))) (gC h (λh=>Af q [2] [] (tS h (gO (Lo (H7 [] (Le.refl _ _)))))) λh=>Af q Jv P5 (tN h))) λh=>tS h (gO (Be (Bg H3 P5 q))))) λx12 h=>(match x12,h with | .inl _,h=>gA (Af q [1,3,4,7] P5 (tL q h [1,3,4,7] P5 (λu i14=>(Cm u [(7,(Z5 i14))] [])) (λu x_=>match x_ with|(.inl _)=>aG Γ (.exit 4) (Nb H3 P5 u [] [])|(.inr r_)=>aR (Ot Γ v0 r_)) (λi14 y h=>Af q [1,3,4,7,92] P5 (gC h (λh=>tV q [1,3,4,7,8] [1,4,8] h λh=>tB h λx16 y16 h=>tB h λx17 y17 h=>tB h λx18 y18 h=>tB h λx19 y19 h=>tB h λx20 y20 h=>tT q [1,3,4,7,127] P5 [(Z2 x16),(Z2 x17),(Z2 x18),(Z2 x19),(Z2 x20)] (ci (Cf y16) (Md ((!x16)==false) (UN (λ(hg:((!x16)==false)=true)=>(Cf (A9 hg y17))) (gI ((!x16)==false)) (L5 (!x16)) (Md ((bif (!x16) then true else(!x17))==false) (UN (λ(hg:((bif (!x16) then true else(!x17))==false)=true)=>(Cf (A9 hg y18))) (gI ((bif (!x16) then true else(!x17))==false)) (L5 (bif (!x16) then true else(!x17))) (Md ((cD x16 x17 x18)==false) (UN (λ(hg:((cD x16 x17 x18)==false)=true)=>(Cf (A9 hg y19))) (gI ((cD x16 x17 x18)==false)) (L5 (cD x16 x17 x18)) (Md ((bif (cD x16 x17 x18) then true else(!x19))==false) (c3 (λ(hg:((bif (cD x16 x17 x18) then true else(!x19))==false)=true)=>(Hr (A9 hg y20))) (gI ((bif (cD x16 x17 x18) then true else(!x19))==false)) (L5 (bif (cD x16 x17 x18) then true else(!x19)))))))))))) (gC h (λh=>Af q [2] [] (tS h (gO (Lo (H7 [] (Le.refl _ _)))))) λh=>Af q [1,3,4,7] P5 (tN h))) λh=>tS h (gO (Be (Bg H3 P5 q))))) λx21 h=>(match x21,h with | .inl _,h=>gA (tB h λx23 y23 h=>tB h λx24 y24 h=>tB h λx25 y25 h=>tT q [1,3,146] [1] [(Z2 x23),(Z2 x24),(Z2 x25)] (ci (Cf y23) (Yy ((!x23)==false) (UN (λ(hg:((!x23)==false)=true)=>(Cf (A9 hg y24))) (gI ((!x23)==false)) (L5 (!x23)) (Yy (vV x23 x24) (c3 (λ(hg:(vV x23 x24)=true)=>(Hr (A9 hg y25))) (gI (vV x23 x24)) (L5 (bif (!x23) then true else(!x24)))))))) (gC h (λh=>Af q [2] [] (tS h (gO (Lo (H7 [] (Le.refl _ _)))))) λh=>Af q La [1] (tN h))) | .inr r26,h=>O3 (λst' hk=>tS h (gO (Lo hk)))))) | .inr r27,h=>O3 (λst' hk=>tS h (gO (Lo hk)))))) λh=>tS h (gO (Be (Bg [] [] q))))) λx28 h=>(match x28,h with | .inl _,h=>gA (Af q [2] [] (tS h (Ca []))) | .inr r30,h=>O3 (λst' hk=>tS h (gK hk))))))
def G1(aQ:Ax)(aD:Int):Int->Option (LR Int (Unit ⊕ Bool)):=
 λi1=>bif decide (i1<aQ.length) then Az (A1 i1 aQ.length) (bif aQ.getD i1.toNat 0==aD then some (.done (.inr true)) else some (.next (w64 (i1+1)))) else some (.done (.inl ()))
def DX(Γ:H6)(aQ:Ax)(aD:Int)(r:Bool):Exit->St->Prop:=fK Tryz.prog Γ Tryz.f32.results.toList [] (.bool r) []
def Ha(aQ:Ax)(aD:Int):Option Bool:=
 (Ac   (G1 aQ aD) 0).bind λx3=>match x3 with | .inl _=>some false | .inr r5=>some r5
variable{v1:Int}{v2:Ax}
theorem N0(h:Ha v2 v1=some v3):sP 32 [(Z6 v2),(Z5 v1)] [] (.bool v3) []:=
 sG Tryz.func32 λΓ q=>tW q Gm [] Nh [] (tL q h Nh [] (λu i1=>(Cm u [(5,(Z5 i1))] [])) (λu x_=>match x_ with|(.inl _)=>aG Γ (.exit 0) (⟨[],[],[]⟩:St)|(.inr r_)=>aR (DX Γ v2 v1 r_)) (λi1 y h=>Af q [0,1,5,9] [] (gC h (λh=>tV q [0,1,5,17] [] h λh=>gC h (λh=>Af q [4] [] (tS h (gO (Lo (H7 [] (Le.refl _ _)))))) λh=>Af q Nh [] (tN h)) λh=>tS h (gO (Be (Bg [] [] q))))) λx3 h=>(match x3,h with | .inl _,h=>gA (Af q [4] [] (tS h (Ca []))) | .inr r5,h=>O3 (λst' hk=>tS h (gK hk))))
abbrev xQ:=(LR Int (Unit ⊕ (TGraph×Int)))
def Ed(a6:Oe)(i1:Int):Int->Option xQ:=
 λi2=>Az (A1 i1 a6.length) (bif decide (i2<(a6.getD i1.toNat []).length) then Az (A1 i1 a6.length) (Az (A1 i2 (a6.getD i1.toNat []).length) (Az ((decide ((a6.getD i1.toNat []).getD i2.toNat 0<0)==false)=true->A1 i1 a6.length) (Az ((decide ((a6.getD i1.toNat []).getD i2.toNat 0<0)==false)=true->A1 i2 (a6.getD i1.toNat []).length) (Az (((bif decide ((a6.getD i1.toNat []).getD i2.toNat 0<0) then true else decide (a6.length<=(a6.getD i1.toNat []).getD i2.toNat 0))==false&&decide (0<i2)==true)=true->A1 i1 a6.length) (Az (((bif decide ((a6.getD i1.toNat []).getD i2.toNat 0<0) then true else decide (a6.length<=(a6.getD i1.toNat []).getD i2.toNat 0))==false&&decide (0<i2)==true)=true->A1 i2 (a6.getD i1.toNat []).length) (Az (((bif decide ((a6.getD i1.toNat []).getD i2.toNat 0<0) then true else decide (a6.length<=(a6.getD i1.toNat []).getD i2.toNat 0))==false&&decide (0<i2)==true)=true->A1 i1 a6.length) (Az (((bif decide ((a6.getD i1.toNat []).getD i2.toNat 0<0) then true else decide (a6.length<=(a6.getD i1.toNat []).getD i2.toNat 0))==false&&decide (0<i2)==true)=true->A1 (w64 (i2-1)) (a6.getD i1.toNat []).length) (bif bif bif decide ((a6.getD i1.toNat []).getD i2.toNat 0<0) then true else decide (a6.length<=(a6.getD i1.toNat []).getD i2.toNat 0) then true else bif decide (0<i2) then decide ((a6.getD i1.toNat []).getD i2.toNat 0<=(a6.getD i1.toNat []).getD (w64 (i2-1)).toNat 0) else false then some (.done (.inr (⟨[],[]⟩,5))) else some (.next (w64 (i2+1))))))))))) else some (.done (.inl ())))
def Gc(a6:Oe):Int->Option xQ:=
 λi1=>bif decide (i1<a6.length) then(Ac   (Ed a6 i1) 0).bind λx12=>match x12 with | .inl _=>some (.next (w64 (i1+1))) | .inr r14=>some (.done (.inr r14)) else some (.done (.inl ()))
def Ik(a6:Oe)(i18:Int):yT5->Option yT6:=
 λ(i21,l22)=>bif decide (i21<a6.length) then Option.bind  (Az (A1 i21 a6.length) ((Ha (a6.getD i21.toNat []) i18).bind λx26=>bif x26 then Az (A1 i18 l22.length) (Az (A1 i18 l22.length) (Az ((l22.getD i18.toNat []).length+[i21].length<=room) (Az (A1 i18 l22.length) (some (l22.set i18.toNat (l22.getD i18.toNat []++[i21])))))) else some l22)) λx31=>some (.next (w64 (i21+1),x31)) else some (.done l22)
def Ee(a6:Oe):yT5->Option yT6:=
 λ(i18,l19)=>bif decide (i18<a6.length) then(Ac   (Ik a6 i18) (0,l19)).bind λx33=>some (.next (w64 (i18+1),x33)) else some (.done l19)
def R8(Γ:H6)(a6:Oe)(r:mp):Exit->St->Prop:=fK Tryz.prog Γ Tryz.f67.results.toList [] (.tuple (rf r.1 r.2)) []
def We(a6:Oe):AV:=(NU a6)
def rx(a6:Oe):AV:=(.int .i64 (a6.length:Int))
def rv(a6:Oe)(i1:Int)(i2:Int):=((bif (decide (((a6.getD i1.toNat []).getD i2.toNat 0)<0)) then true else(decide ((a6.length:Int)<=((a6.getD i1.toNat []).getD i2.toNat 0))))==false)
def Aaf(i2:Int):=((decide ((0:Int)<i2))==true)
def kq(a6:Oe)(i1:Int)(i2:Int):=((rv a6 i1 i2)&&(Aaf i2))
def kn:List MQ:=[Uj,(3,(.int .i64 (5:Int)))]
def ZJ(l22:Oe)(i18:Int)(i21:Int):=((l22.getD i18.toNat [])++([i21]:Ax))
def xo:AV:=Z80
def fI(a6:Oe):=(List.replicate (a6.length:Int).toNat ([]:Ax))
def ND:List AV:=[Z0,Z0]
def rz(a6:Oe):List MQ:=[(0,(We a6)),Uj,(4,(rx a6)),(7,(.ptr 7 0))]
def vW(a6:Oe)(i1:Int)(i2:Int):=((decide (((a6.getD i1.toNat []).getD i2.toNat 0)<0))==false)
def cG:List AV:=[xc,xc]
def ry(a6:Oe)(i18:Int)(i21:Int):List MQ:=[(0,(We a6)),Uj,(4,(rx a6)),(7,(.ptr 7 0)),(8,(Z5 i18)),(9,(Z5 i21))]
def H5(a6:Oe):Option mp:=
 bif bif (a6.length:Int)==0 then true else decide ((64:Int)<a6.length) then some (⟨[],[]⟩,5) else(Ac   (Gc a6) 0).bind λx15=>match x15 with | .inl _=>Az (0<=(a6.length:Int)/\a6.length<=(a6.length:Int)/\a6.length<=(room:Int)) ((Ac   (Ee a6) (0,List.replicate (a6.length:Int).toNat [])).bind λx35=>some (⟨a6,x35⟩,0)) | .inr r37=>some r37
variable{v14:Oe}{v16:mp}
theorem Rj(h:H5 v14=some v16):sP 67 [(NU v14)] [] (.tuple (rf v16.1 v16.2)) []:=
 sG Tryz.func67 λΓ q=>have hΓ:=q.own;tW q [0,2] [2] [0,2,4] [2] (tU q [0,2,4,17] [2] (c2 (gI (((v14.length:Int)==0)==false)) (L5 ((v14.length:Int)==0))) (gC h (λh=>gR q Cy [2] [(18,(.agg cG))] [] (c1 (show(AVle (.agg ND) (.agg cG)) from(AVle.agg (.cons Eh (.cons Eh .nil))))) (Qa (⟨kn,[(Pt 56 cG)],[]⟩:St) (tS h (gK (e:=.ret) (H7 [] (show Le Γ _ (⟨kn,[(mw xo)],[]⟩:St) from Le.trans (Bg (st':=⟨kn,[(Pt 56 cG)],[]⟩) Cy [2] q) (Jc (.cons (AVle.refl _) (.cons (AVle.refl _) .nil)) (.row (.cons AVle.untag (.cons AVle.untag .nil)) .nil)))))))) λh=>Af q TW [2] (tL q h TW [2] (λu i1=>(Cm u [(5,(Z5 i1))] [])) (λu x_=>match x_ with|(.inl _)=>aG Γ (.exit 0) (Nb [0,2,4] [2] u [] [])|(.inr r_)=>aR (R8 Γ v14 r_)) (λi1 y h=>Af q [0,2,4,5,21] [2] (gC h (λh=>Af q iu [2] (tL q h iu [2] (λu i2=>(Cm u [(6,(Z5 i2))] [])) (λu x_=>match x_ with|(.inl _)=>aG Γ (.exit 2) (Nb TW [2] u [] [])|(.inr r_)=>aR (R8 Γ v14 r_)) (λi2 y h=>tV q [0,2,4,5,6,30] [2] h λh=>gC h (λh=>tC h λc4_ h=>tC h λc5_ h=>tC h λc6_ h=>tC h λc7_ h=>tC h λc8_ h=>tC h λc9_ h=>tC h λc10_ h=>tC h λc11_ h=>tU q [0,2,4,5,6,73] [2] (fq c4_ c5_ (Md (vW v14 i1 i2) (ci c6_ (Yy (vW v14 i1 i2) (ci c7_ (Yy (vW v14 i1 i2) (ci (L5 (decide (((v14.getD i1.toNat []).getD i2.toNat 0)<0))) (Md (rv v14 i1 i2) (Md (kq v14 i1 i2) (ci c8_ (Yy (kq v14 i1 i2) (ci c9_ (Yy (kq v14 i1 i2) (ci c10_ (LO (kq v14 i1 i2) (ci c11_ (Yy (kq v14 i1 i2) (c3 (gI (rv v14 i1 i2)) (show((rv v14 i1 i2)=true->((decide ((0:Int)<i2))=true->(kq v14 i1 i2)=true)) from(λhg=>(aT hg))) (L5 (bif (decide (((v14.getD i1.toNat []).getD i2.toNat 0)<0)) then true else(decide ((v14.length:Int)<=((v14.getD i1.toNat []).getD i2.toNat 0))))))))))))))))))))))) (gC h (λh=>gR q Cy [2] [(74,(.agg cG))] [] (c1 (show(AVle (.agg ND) (.agg cG)) from(AVle.agg (.cons Eh (.cons Eh .nil))))) (Qa (⟨kn,[(Pt 56 cG)],[]⟩:St) (tS h (gO (Lo (H7 [] (show Le Γ _ (⟨kn,[(mw xo)],[]⟩:St) from Le.trans (Bg (st':=⟨kn,[(Pt 56 cG)],[]⟩) Cy [2] q) (Jc (.cons (AVle.refl _) (.cons (AVle.refl _) .nil)) (.row (.cons AVle.untag (.cons AVle.untag .nil)) .nil))))))))) λh=>Af q iu [2] (tN h))) λh=>tS h (gO (Be (Bg TW [2] q)))) λx12 h=>(match x12,h with | .inl _,h=>gA (Af q TW [2] (tN h)) | .inr r14,h=>O3 (λst' hk=>tS h (gO (Lo hk)))))) λh=>tS h (gO (Be (Bg [0,2,4] [2] q))))) λx15 h=>(match x15,h with | .inl _,h=>gA (tV q [0,2,4,7] [2,7,77] h λh=>Qa (⟨(rz v14),[(Pt 56 ND),(7,.row 56 [(We v14),(.vsl 77 (v14.length:Int).toNat)]),(77,.arr 1 22 ((v14.length:Int).toNat) (λi_=>AV.eraseAll (λn_=>Bv n_ [2,7,77]) ((λ_=>[Z0]) i_)))],[]⟩:St) (gLe (Le.trans (Jc (st':=⟨(rz v14),[(Pt 56 ND),(7,.row 56 [(We v14),(.vsl 77 (v14.length:Int).toNat)]),(77,.arr 1 22 ((v14.length:Int).toNat) (Ox 1 Aq (0:Int) (fI v14) (λ_=>.exact)))],[]⟩) (TmpsLe.refl _) (.same (.same (.arr dA .nil)))) (Le.trans (Le.trans (dG (r:=77) (b:=70077) Aq (0:Int) (fI v14) 3 rfl rfl (Oa ..).symm (λh_=>absurd h_ (by decide))) (Gt (st':=⟨(rz v14),[(Pt 56 ND),(7,.row 56 [(We v14),(.vsl 77 (v14.length:Int).toNat)]),(77,.arr 1 22 ((v14.length:Int).toNat) (Ox 1 Aq (0:Int) (fI v14) (Tag.fam 70077)))],[(70077,⟨1,3,Nm (fI v14)⟩)]⟩) (by kernel_rfl))) (Gt (Bi (λk_:Nat=>(⟨(rz v14),[(Pt 56 ND),(n6 (We v14) k_),(cP 77 k_ (fI v14) 70077)],[(70077,⟨1,3,Nm (fI v14)⟩)]⟩:St)) (show(v14.length:Int).toNat=(fI v14).length from(Oa ..).symm))))) (Af q TN Vi (tL q h TN Vi (λu (i18,l19)=>(Cm u [(8,(Z5 i18))] [(n6 (We v14) l19.length),(cP 77 l19.length l19 70077)] [(70077,⟨1,3,Nm l19⟩)])) (λu l20=>aG Γ (.exit 4) (Nb [2,7] Vi u [] [(n6 (We v14) l20.length),(cP 77 l20.length l20 70077)] [(70077,⟨1,3,Nm l20⟩)])) (λ⟨i18,l19⟩ y h=>Af q [0,2,4,7,8,81] Vi (gC h (λh=>Af q TE Vi (tL q h TE Vi (λu (i21,l22)=>(Cm u [(9,(Z5 i21))] [(n6 (We v14) l22.length),(cP 77 l22.length l22 70077)] [(70077,⟨1,3,Nm l22⟩)])) (λu l23=>aG Γ (.exit 6) (Nb TN Vi u [] [(n6 (We v14) l23.length),(cP 77 l23.length l23 70077)] [(70077,⟨1,3,Nm l23⟩)])) (λ⟨i21,l22⟩ y h=>Af q [0,2,4,7,8,9,86] Vi (gC h (λh=>tB h λx31 y31 h=>gJ y31 (λl24=>aG Γ .normal (⟨(ry v14 i18 i21),[(Pt 56 ND),(n6 (We v14) l24.length),(cP 77 l24.length l24 70077)],[(70077,⟨1,3,Nm l24⟩)]⟩:St)) (λy h=>tC h λc25_ h=>tB h λx26 y26 h=>tT q [0,2,4,7,8,9,94] Vi [(Z2 x26)] (c2 c25_ (N0 y26)) (gC h (λh=>Qa (⟨[(0,(We v14)),Uj,(4,(rx v14)),(7,(.ptr 7 0)),(8,(Z5 i18)),(9,(Z5 i21)),(94,(.bool x26))],[(Pt 56 ND),(n6 (We v14) l22.length),(cP 77 l22.length l22 70077)],[(70077,⟨1,3,Nm l22⟩)]⟩:St) (tC h λc27_ h=>tC h λc28_ h=>tC h λc29_ h=>tC h λc30_ h=>gLe (Le.trans (jq (r:=77) (b:=70077) (k:=60077) Aq (0:Int) l22 i18.toNat 3 rfl rfl rfl rfl (Qo c27_) (by kernel_rfl) (.row (by kernel_rfl) (.row (by kernel_rfl) (.here .nil)))) (Gt (st':=⟨[(0,(We v14)),Uj,(4,(rx v14)),(7,(.ptr 7 0)),(8,(Z5 i18)),(9,(Z5 i21)),(94,(.bool x26))],[(Pt 56 ND),(n6 (We v14) l22.length),(77,.arr 1 22 l22.length (Ox 1 Aq (0:Int) l22 (Ht 70077 i18.toNat 60077))),(60077,.tok 1 3 ((l22.getD i18.toNat []).length))],[(70077,⟨1,3,AY l22 i18.toNat⟩)]⟩) (by kernel_rfl))) (gR q TE rN [(102,(AV.list 1 Aq 0 (l22.getD i18.toNat []) (.own 60077))),(104,(uy i21)),(105,(Wa (ZJ l22 i18 i21) 60077))] [] (d9_ c28_ (Eq.refl l22.length) (show(AVle (((Ox 1 Aq (0:Int) l22 (Ht 70077 i18.toNat 60077)) i18.toNat).getD 0 .any) (AV.list 1 Aq 0 (l22.getD i18.toNat []) (.own 60077))) from WI) (Bq 1 Aq (0:Int) ([i21]:Ax)) (Eq.refl ((l22.getD i18.toNat []).length)) c29_ (I7 1 60077 Aq (0:Int) (l22.getD i18.toNat []) ([i21]:Ax)) (E0 (l22.getD i18.toNat []) ([i21]:Ax)) c30_ (c1 (Eq.refl l22.length))) (Qa (⟨(ry v14 i18 i21),[(Pt 56 ND),(n6 (We v14) l22.length),(77,.arr 1 22 l22.length (λi_=>AV.eraseAll (λn_=>Bv n_ rN) ((Fa (Ox 1 Aq (0:Int) l22 (Ht 70077 i18.toNat 60077)) i18.toNat 0 [(Wa (ZJ l22 i18 i21) 60077)]) i_))),(60077,.tok 1 3 ((ZJ l22 i18 i21).length))],[(70077,⟨1,3,AY l22 i18.toNat⟩)]⟩:St) (tS h (gK (Be (Le.trans (Le.trans (Le.trans (pd (r:=77) (b:=70077) (k:=60077) Aq (0:Int) l22 i18.toNat (ZJ l22 i18 i21) 3 rfl (eC (Qo c27_) rfl rfl) rfl rfl rfl rfl (Qo c27_) (by kernel_rfl) (.row (by kernel_rfl) (.row (by kernel_rfl) (.here (.tok .nil)))) (by rw[hΓ];rfl)) (Gt (st':=⟨(ry v14 i18 i21),[(Pt 56 ND),(n6 (We v14) l22.length),(77,.arr 1 22 l22.length (Ox 1 Aq (0:Int) (l22.set i18.toNat (ZJ l22 i18 i21)) (Tag.fam 70077)))],[(70077,⟨1,3,Nm (l22.set i18.toNat (ZJ l22 i18 i21))⟩)]⟩) (by kernel_rfl))) (Gt (Bi (λk_:Nat=>(⟨(ry v14 i18 i21),[(Pt 56 ND),(n6 (We v14) k_),(77,.arr 1 22 k_ (Ox 1 Aq (0:Int) (l22.set i18.toNat (ZJ l22 i18 i21)) (Tag.fam 70077)))],[(70077,⟨1,3,Nm (l22.set i18.toNat (ZJ l22 i18 i21))⟩)]⟩:St)) (show l22.length=(l22.set i18.toNat (ZJ l22 i18 i21)).length from(Db ..).symm)))) H8)))))))) λh=>tS h (gK (Be (Bg TE Vi q))))) (gA (Af q TE Vi (tN h)))) λh=>tS h (gO (Be (Bg TN Vi q))))) λx33 h=>gA (Af q TN Vi (tN h)))) λh=>tS h (gO (Be (Bg [2,7] Vi q))))) λx35 h=>gA (Af q Cy [2,77,70077] (Qa (⟨[Uj,(3,L9)],[(2,.row 56 [(We v14),(.vsl 77 x35.length)]),(cP 77 x35.length x35 70077)],[(70077,⟨1,3,Nm x35⟩)]⟩:St) (tS h (gK (e:=.ret) (H7 [] (Le.trans (le_freeze (nm:=77) (sz:=1) (n:=x35.length) (e:=22) (f:=(Ox 1 Aq (0:Int) x35 (Tag.fam 70077))) (g:=(λi=>Li (x35.getD i []))) rfl ⟨rfl,trivial⟩ (λ_ _=>rfl) (by rw[hΓ];rfl)) (Bg (st':=⟨[Uj,(3,L9)],[(2,.row 56 [(We v14),(rg x35 77)]),(77,.tok 1 22 x35.length)],[]⟩) Cy [2,77] q))))))))))) | .inr r37,h=>O3 (λst' hk=>tS h (gK hk))))))
def Fh(a0:TFunc)(i2:Int):Int->Option xQ:=
 λi6=>bif decide (i6<(a0.Blocks.getD i2.toNat default).End.To.length) then Az (A1 i6 (a0.Blocks.getD i2.toNat default).End.To.length) (Az ((decide ((a0.Blocks.getD i2.toNat default).End.To.getD i6.toNat 0<=0)==false)=true->A1 i6 (a0.Blocks.getD i2.toNat default).End.To.length) (bif bif decide ((a0.Blocks.getD i2.toNat default).End.To.getD i6.toNat 0<=0) then true else decide (a0.Blocks.length<=(a0.Blocks.getD i2.toNat default).End.To.getD i6.toNat 0) then some (.done (.inr (⟨[],[]⟩,5))) else some (.next (w64 (i6+1))))) else some (.done (.inl ()))
def Ho(a0:TFunc)(i2:Int):(Ax×Int)->Option (LR (Ax×Int) Ax):=
 λ(l11,i12)=>bif decide (i12<a0.Blocks.length) then Option.bind  ((Ha (a0.Blocks.getD i2.toNat default).End.To i12).bind λx15=>bif x15 then Az (l11.length+[i12].length<=room) (some (l11++[i12])) else some l11) λx17=>some (.next (x17,w64 (i12+1))) else some (.done l11)
def Cj(a0:TFunc):(Oe×Int)->Option (LR (Oe×Int) (Oe ⊕ (TGraph×Int))):=
 λ((l1,i2):(Oe×Int))=>(bif (decide (i2<(a0.Blocks.length:Int))) then(Az (A1 i2 a0.Blocks.length) (Az (((bif (decide (((a0.Blocks.getD i2.toNat default).End.Kind:Int)<0)) then true else(decide ((3:Int)<(a0.Blocks.getD i2.toNat default).End.Kind)))==false)=true->(A1 (a0.Blocks.getD i2.toNat default).End.Kind ([(0:Int),(1:Int),(2:Int),(0:Int)]:Ax).length)) (bif (bif (bif (decide (((a0.Blocks.getD i2.toNat default).End.Kind:Int)<0)) then true else(decide ((3:Int)<(a0.Blocks.getD i2.toNat default).End.Kind))) then true else((((a0.Blocks.getD i2.toNat default).End.To).length:Int)!=(([(0:Int),(1:Int),(2:Int),(0:Int)]:Ax).getD ((a0.Blocks.getD i2.toNat default).End.Kind).toNat (0:Int)))) then(some (.done (.inr ((⟨([]:Oe),([]:Oe)⟩:TGraph),(5:Int))))) else((Ac (Fh a0 i2) (0:Int)).bind (λx9=>(match x9 with|(.inl _)=>((Ac (Ho a0 i2) (([]:Ax),(1:Int))).bind (λx19=>(Az (l1.length+([x19]:Oe).length<=room) (some (.next ((l1++([x19]:Oe)),(w64 (i2+1))))))))|(.inr r22)=>(some (.done (.inr r22))))))))) else(some (.done (.inl l1))))
def Ts(Γ:H6)(a0:TFunc)(r:mp):Exit->St->Prop:=fK Tryz.prog Γ Tryz.f31.results.toList [] (.tuple (rf r.1 r.2)) []
def fJ:AV:=Z0
def GK(a0:TFunc)(i2:Int):=(a0.Blocks.getD i2.toNat default)
def FC:AV:=xc
def vZ:AV:=(.agg [fJ,fJ])
def kr:=(⟨[Uj,(3,(.int .i64 (5:Int)))],[(mw FC)],[]⟩:St)
def vX(a0:TFunc)(i2:Int)(i6:Int):=(decide ((((GK a0 i2).End.To).getD i6.toNat 0)<=0))
def nQ(a0:TFunc):List AV:=[(Z6 a0.Params),(Z5 a0.Ret),(OY a0.Blocks)]
def vY:=(⟨[Uj,(3,(.int .i64 (5:Int)))],[(2,.row 56 [Z80,Z80])],[]⟩:St)
def nP(a0:TFunc)(i2:Int):=(bif (decide (((GK a0 i2).End.Kind:Int)<0)) then true else(decide ((3:Int)<(GK a0 i2).End.Kind)))
def xq(a0:TFunc):=(⟨[AA,Uj,(4,(.int .i64 (a0.Blocks.length:Int))),(5,(AV.list 1 Li [] ([]:Oe) (.own 5005))),(6,L9)],[(1,.row 25 (nQ a0)),(mw fJ),(5005,.tok 1 22 (([]:Oe).length))],[]⟩:St)
def xp(a0:TFunc)(l1:Oe)(i2:Int):=(⟨[AA,Uj,(4,(.int .i64 (a0.Blocks.length:Int))),(5,(rg l1 5005)),(6,(Z5 i2)),(7,(.ptr 7 0)),(8,(Z95 5008)),(10,u1)],[(1,.row 25 (nQ a0)),(mw fJ),(7,.row 62 [(.int .i64 (GK a0 i2).End.Kind),(.int .i64 (GK a0 i2).End.Arg),(AV.list 1 Aq 0 (GK a0 i2).End.To .none)]),(5005,.tok 1 22 l1.length),(5008,.tok 1 3 (([]:Ax).length))],[]⟩:St)
def Jl(a0:TFunc):Option mp:=
 bif bif a0.Blocks.length==(0:Int) then true else decide ((64:Int)<a0.Blocks.length) then some (⟨[],[]⟩,5) else(Ac   (Cj a0) ([],0)).bind λx23=>match x23 with | .inl l3=>(H5 l3).bind λx25=>some (x25.1,x25.2) | .inr r26=>some r26
theorem S2(h:Jl v0=some v16):sP 31 [(Vn v0)] [] (.tuple (rf v16.1 v16.2)) []:=
 sG Tryz.func31 λΓ q=>tW q Ea Ea [1,2,4] Ea (tU q [1,2,4,19] Ea (c2 (gI (((v0.Blocks.length:Int)==0)==false)) (L5 ((v0.Blocks.length:Int)==0))) (gC h (λh=>gR q Cy [2] [(20,(.agg [FC,FC]))] [] (c1 (show(AVle vZ (.agg [FC,FC])) from(AVle.agg (.cons Eh (.cons Eh .nil))))) (Qa kr (tS h (gK (e:=.ret) (H7 [] (show Le Γ _ vY from Le.trans (Bg (st':=kr) Cy [2] q) (Jc (.cons (AVle.refl _) (.cons (AVle.refl _) .nil)) (.row (.cons AVle.untag (.cons AVle.untag .nil)) .nil)))))))) λh=>gR q [1,2,4,5] Ea [(5,FC)] [] (c1 (Bz 1 Li [])) (Af q KW Ea (gLe (st':=(xq v0)) (Le.trans (Bg (st':=⟨[AA,Uj,(4,(.int .i64 (v0.Blocks.length:Int))),(5,FC),(6,L9)],[(1,.row 25 (nQ v0)),(mw fJ)],[]⟩) KW Ea q) (Le.trans (Ro (t:=5) (nm:=5005) (sz':=1) (λi=>Li (([]:Oe).getD i [])) 22 rfl rfl (.inl ⟨rfl,rfl⟩) (λh_=>absurd h_ (by decide))) (Bg (st':=(xq v0)) KW TX q))) (tL q h KW TX (λu (l1,i2)=>(Cm u [(5,(rg l1 5005)),(6,(Z5 i2))] [(5005,.tok 1 22 l1.length)])) (λu x_=>match x_ with|(.inl l3)=>aG Γ (.exit 0) (Nb V8 [2,5005] u [(5,(rg l3 5005))] [(5005,.tok 1 22 l3.length)])|(.inr r_)=>aR (Ts Γ v0 r_)) (λ⟨l1,i2⟩ y h=>Af q [1,2,4,5,6,23] TX (gC h (λh=>tV q [1,2,4,5,6,7] Zf h λh=>tC h λc5_ h=>gR q [1,2,4,5,6,7,50] Zf [(44,(AV.list 1 Aq 0 ([(0:Int),(1:Int),(2:Int),(0:Int)]:Ax) .exact))] [] (Md ((decide (((GK v0 i2).End.Kind:Int)<0))==false) (ci (L5 (decide (((GK v0 i2).End.Kind:Int)<0))) (Md ((nP v0 i2)==false) (ci (show(((nP v0 i2)==false)=true->(AVle (.slice 1 4 (λi=>([[L9],[u1],[(.int .i64 (2:Int))],[L9]]:List (List AV)).getD i []) .exact) (AV.list 1 Aq 0 ([(0:Int),(1:Int),(2:Int),(0:Int)]:Ax) .exact))) from(λhg=>@(Bq 1 Aq (0:Int) ([(0:Int),(1:Int),(2:Int),(0:Int)]:Ax)))) (Yy ((nP v0 i2)==false) (ci c5_ (Yy ((nP v0 i2)==false) (c1 (L5 (nP v0 i2)))))))))) (gC h (λh=>gR q Cy [2] [(51,(.agg [FC,FC]))] [] (c1 (show(AVle vZ (.agg [FC,FC])) from(AVle.agg (.cons Eh (.cons Eh .nil))))) (Qa kr (tS h (gO (Lo (H7 [] (show Le Γ _ vY from Le.trans (Bg (st':=kr) Cy [2] q) (Jc (.cons (AVle.refl _) (.cons (AVle.refl _) .nil)) (.row (.cons AVle.untag (.cons AVle.untag .nil)) .nil))))))))) λh=>gR q iX Zf [(8,fU)] [] (c1 (Bz 1 Aq (0:Int))) (Af q iT Zf (tL q h iT Zf (λu i6=>(Cm u [(9,(Z5 i6))] [])) (λu x_=>match x_ with|(.inl _)=>aG Γ (.exit 2) (Nb iX Zf u [] [])|(.inr r_)=>aR (Ts Γ v0 r_)) (λi6 y h=>Af q [1,2,4,5,6,7,8,9,56] Zf (gC h (λh=>tC h λc7_ h=>tC h λc8_ h=>tU q [1,2,4,5,6,7,8,9,73] Zf (ci c7_ (Yy ((vX v0 i2 i6)==false) (ci c8_ (Yy ((vX v0 i2 i6)==false) (c1 (L5 (vX v0 i2 i6))))))) (gC h (λh=>gR q Cy [2] [(74,(.agg [FC,FC]))] [] (c1 (show(AVle vZ (.agg [FC,FC])) from(AVle.agg (.cons Eh (.cons Eh .nil))))) (Qa kr (tS h (gO (Lo (H7 [] (show Le Γ _ vY from Le.trans (Bg (st':=kr) Cy [2] q) (Jc (.cons (AVle.refl _) (.cons (AVle.refl _) .nil)) (.row (.cons AVle.untag (.cons AVle.untag .nil)) .nil))))))))) λh=>Af q iT Zf (tN h))) λh=>tS h (gO (Be (Bg iX Zf q))))) λx9 h=>(match x9,h with | .inl _,h=>gA (Af q UH Zf (gLe (st':=(xp v0 l1 i2)) (Le.trans (Bg (st':=⟨[AA,Uj,(4,(.int .i64 (v0.Blocks.length:Int))),(5,(rg l1 5005)),(6,(Z5 i2)),(7,(.ptr 7 0)),(8,fU),(10,u1)],[(1,.row 25 (nQ v0)),(mw fJ),(7,.row 62 [(.int .i64 (GK v0 i2).End.Kind),(.int .i64 (GK v0 i2).End.Arg),(AV.list 1 Aq 0 (GK v0 i2).End.To .none)]),(5005,.tok 1 22 l1.length)],[]⟩) UH Zf q) (Le.trans (Ro (t:=8) (nm:=5008) (sz':=1) (λi=>Aq (([]:Ax).getD i 0)) 3 rfl rfl (.inl ⟨rfl,rfl⟩) (λh_=>absurd h_ (by decide))) (Bg (st':=(xp v0 l1 i2)) UH UI q))) (tL q h UH UI (λu (l11,i12)=>(Cm u [(8,(Wa l11 5008)),(10,(Z5 i12))] [(Yu 5008 l11.length)])) (λu l13=>aG Γ (.exit 4) (Nb [1,2,4,5,6,8] [1,2,5005,5008] u [(8,(Wa l13 5008))] [(Yu 5008 l13.length)])) (λ⟨l11,i12⟩ y h=>Af q [1,2,4,5,6,7,8,10,77] UI (gC h (λh=>tB h λx17 y17 h=>gJ y17 (λl14=>aG Γ .normal (⟨[AA,Uj,(4,(.int .i64 (v0.Blocks.length:Int))),(5,(rg l1 5005)),(6,(Z5 i2)),(7,(.ptr 7 0)),(8,(Wa l14 5008)),(10,(Z5 i12))],[(1,.row 25 (nQ v0)),(mw fJ),(7,.row 62 [(.int .i64 (GK v0 i2).End.Kind),(.int .i64 (GK v0 i2).End.Arg),(AV.list 1 Aq 0 (GK v0 i2).End.To .none)]),(5005,.tok 1 22 l1.length),(Yu 5008 l14.length)],[]⟩:St)) (λy h=>tB h λx15 y15 h=>tT q [1,2,4,5,6,7,8,10,83] UI [(Z2 x15)] (c1 (N0 y15)) (gC h (λh=>tC h λc16_ h=>gR q UH UI (wN 86 i12 87 l11 5008) [] (c5 (Bq 1 Aq (0:Int) ([i12]:Ax)) (Eq.refl l11.length) c16_ (I7 1 5008 Aq (0:Int) l11 ([i12]:Ax)) (E0 l11 ([i12]:Ax))) (tS h (gK (Be H8)))) λh=>tS h (gK (Be (Bg UH UI q))))) (gA (Af q UH UI (tN h)))) λh=>tS h (gO (Be (Bg [1,2,4,5,6,8] [1,2,5005,5008] q))))) λx19 h=>gA (tC h λc21_ h=>gR q KW TX [(90,(AV.list 1 Li [] ([x19]:Oe) .exact)),(91,(AV.list 1 Li [] (l1++([x19]:Oe)) (.own 5005)))] [] (c5 (Bq 1 Li [] ([x19]:Oe)) (Eq.refl l1.length) c21_ (I7 1 5005 Li [] l1 ([x19]:Oe)) (E0 l1 ([x19]:Oe))) (Af q KW TX (tN h)))))) | .inr r22,h=>O3 (λst' hk=>tS h (gO (Lo hk)))))))) λh=>tS h (gO (Be (Bg V8 [2,5005] q))))) λx23 h=>(match x23,h with | .inl l3,h=>gA (tB h λx25 y25 h=>tT q Cy [2] [(xe x25.1 x25.2)] (c1 (Rj y25)) (tS h (Ca []))) | .inr r26,h=>O3 (λst' hk=>tS h (gK hk))))))))
def A3(a4:TGraph)(aaB:Int)(i6:Int):bb->Option bc:=
 λ(i9,l10)=>Az (A1 i6 l10.length) (Az ((l10.getD i6.toNat false==true)=true->A1 i6 a4.Succ.length) (bif bif l10.getD i6.toNat false then decide (i9<(a4.Succ.getD i6.toNat []).length) else false then Option.bind  (Az (A1 i6 a4.Succ.length) (Az (A1 i9 (a4.Succ.getD i6.toNat []).length) (bif (a4.Succ.getD i6.toNat []).getD i9.toNat 0 !=aaB then Az (A1 i6 a4.Succ.length) (Az (A1 i9 (a4.Succ.getD i6.toNat []).length) (Az (A1 ((a4.Succ.getD i6.toNat []).getD i9.toNat 0) l10.length) (some (l10.set ((a4.Succ.getD i6.toNat []).getD i9.toNat 0).toNat true)))) else some l10))) λx20=>some (.next (w64 (i9+1),x20)) else some (.done l10)))
def A4(a4:TGraph)(aaB:Int):bb->Option bc:=
 λ(i6,l7)=>bif decide (i6<l7.length) then(Ac   (A3 a4 aaB i6) (0,l7)).bind λx22=>some (.next (w64 (i6+1),x22)) else some (.done l7)
def A5(a4:TGraph)(aaB:Int):bb->Option bc:=
 λ(i3,l4)=>bif decide (i3<l4.length) then(Ac   (A4 a4 aaB) (0,l4)).bind λx24=>some (.next (w64 (i3+1),x24)) else some (.done l4)
def xu(l10:List Bool)(i6:Int):=((l10.getD i6.toNat false)==true)
def IV(a4:TGraph):=(List.replicate (a4.Succ.length:Int).toNat false)
def ks(a4:TGraph):=(λi=>eB ((IV a4).getD i false))
def r9(a4:TGraph)(i6:Int)(i9:Int):=((a4.Succ.getD i6.toNat []).getD i9.toNat 0)
def Da(a4:TGraph)(a2:Int)(aaB:Int):Option (List Bool):=
 Az (0<=(a4.Succ.length:Int)/\(a4.Succ.length:Int)<=a4.Succ.length/\a4.Succ.length<=(room:Int)) (bif a2==aaB then some (List.replicate (a4.Succ.length:Int).toNat false) else Az (A1 a2 (List.replicate (a4.Succ.length:Int).toNat false).length) ((Ac   (A5 a4 aaB) (0,(List.replicate (a4.Succ.length:Int).toNat false).set a2.toNat true)).bind λx26=>some x26))
variable{v11:Int}{v18:TGraph}{v33:List Bool}
theorem Mj(h:Da v18 v1 v11=some v33):sP 96 [(.agg (Xo v18)),(Z5 v1),(Z5 v11)] [] (NT v33 20000) [(Rd 20000 v33.length)]:=
 sG Tryz.func96 λΓ q=>have hΓ:=q.own;gR q GE [3] [(6,(AV.list 1 eB false ([]:List Bool) .exact))] [] (c1 (Bz 1 eB false)) (tV q [1,2,3,7] L4 h λh=>by exact gLe (Le.trans (Sq 14 (show ∀ k_,k_<((v18.Succ.length:Int).toNat)->AVleL ((λi_=>AV.eraseAll (λn_=>Bv n_ L4) ((λ_=>[(.bool false)]) i_)) k_) ((ks v18) k_) from(λk hk=>M9 (e:=eB) (d:=false) (.cons (AVle.refl _) .nil) _ k (Na hk)))) (Sc (λ(k_:Nat) u=>(Cm u [(Vo 14 k_)] [(14,.arr 1 4 k_ (ks v18))])) (show(v18.Succ.length:Int).toNat=(IV v18).length from(Oa ..).symm))) (Af q [1,2,3,7,17] L4 (gC h (λh=>Af q [6] [14] (Qa (⟨[(6,(.vsl 14 (IV v18).length))],[(14,.arr 1 4 ((IV v18).length) (ks v18))],[]⟩:St) (tS h (gK (e:=.ret) (H7 [(14,20000)] (Le.trans (le_freeze (nm:=14) (sz:=1) (n:=((IV v18).length)) (e:=4) (f:=(ks v18)) (g:=(ks v18)) rfl ⟨rfl,trivial⟩ (λ_ _=>rfl) (by rw[hΓ];rfl)) (Gt (st':=⟨[(6,(NT (IV v18) 14))],[(14,.tok 1 4 ((IV v18).length))],[]⟩) (by kernel_rfl)))))))) λh=>tC h λc2_ h=>tU q [2,3,7] L4 (c2 c2_ (Eq.refl ((IV v18).length))) (gLe (Le.trans (Sq 14 (show ∀ k_,k_<((IV v18).length)->AVleL ((λi_=>AV.eraseAll (λn_=>Bv n_ L4) ((Fa (ks v18) v1.toNat 0 [(.bool true)]) i_)) k_) ((λi=>eB (((IV v18).set v1.toNat true).getD i false)) k_) from(Bh (Db ..).symm (λk_ hk_=>(Bi (AV.eraseAll (λn_=>Bv n_ L4)) ((Fs (λ_ _=>rfl) (Hx c2_) rfl) k_ hk_)).trans rfl)))) (Sc (λ(k_:Nat) u=>(Cm u [(Vo 14 k_)] [(14,.arr 1 4 k_ (λi=>eB (((IV v18).set v1.toNat true).getD i false)))])) (show(IV v18).length=((IV v18).set v1.toNat true).length from(Db ..).symm))) (Af q TY L4 (tL q h TY L4 (λu (i3,l4)=>(Cm u [(Vo 14 l4.length),(8,(Z5 i3))] [(Z9 14 l4)])) (λu l5=>aG Γ (.exit 0) (⟨[(Vo 14 l5.length)],[(Z9 14 l5)],[]⟩:St)) (λ⟨i3,l4⟩ y h=>Af q [2,3,7,8,25] L4 (gC h (λh=>Af q TO L4 (tL q h TO L4 (λu (i6,l7)=>(Cm u [(Vo 14 l7.length),(9,(Z5 i6))] [(Z9 14 l7)])) (λu l8=>aG Γ (.exit 2) (Nb TY L4 u [(Vo 14 l8.length)] [(Z9 14 l8)])) (λ⟨i6,l7⟩ y h=>Af q [2,3,7,8,9,31] L4 (gC h (λh=>Af q TC L4 (tL q h TC L4 (λu (i9,l10)=>(Cm u [(Vo 14 l10.length),(10,(Z5 i9))] [(Z9 14 l10)])) (λu l11=>aG Γ (.exit 4) (Nb TO L4 u [(Vo 14 l11.length)] [(Z9 14 l11)])) (λ⟨i9,l10⟩ y h=>tC h λc12_ h=>tC h λc13_ h=>tU q [2,3,7,8,9,10,47] L4 (fq c12_ (Eq.refl l10.length) (Yy (xu l10 i6) (ci c13_ (LO (xu l10 i6) (c1 (Ml (l10.getD i6.toNat false))))))) (gC h (λh=>tB h λx20 y20 h=>gJ y20 (λl14=>aG Γ .normal (⟨[(2,(Z5 v11)),(3,(.ptr 3 0)),(Vo 14 l14.length),(8,(Z5 i3)),(9,(Z5 i6)),(10,(Z5 i9))],[(3,.row 56 [(NU v18.Succ),(NU v18.Pred)]),(Z9 14 l14)],[]⟩:St)) (λy h=>tC h λc15_ h=>tC h λc16_ h=>tU q [2,3,7,8,9,10,59] L4 (c2 c15_ c16_) (gC h (λh=>tC h λc17_ h=>tC h λc18_ h=>tC h λc19_ h=>tU q TC L4 (c4 c17_ c18_ c19_ (Eq.refl l10.length)) (tS h (gK (Be (Le.trans (Le.trans (Sq 14 (show ∀ k_,k_<l10.length->AVleL ((λi_=>AV.eraseAll (λn_=>Bv n_ L4) ((Fa (λi=>eB (l10.getD i false)) (r9 v18 i6 i9).toNat 0 [(.bool true)]) i_)) k_) ((λi=>eB ((l10.set (r9 v18 i6 i9).toNat true).getD i false)) k_) from(Bh (Db ..).symm (λk_ hk_=>(Bi (AV.eraseAll (λn_=>Bv n_ L4)) ((Fs (λ_ _=>rfl) (Hx c19_) rfl) k_ hk_)).trans rfl)))) (Sc (λ(k_:Nat) u=>(Cm u [(Vo 14 k_)] [(14,.arr 1 4 k_ (λi=>eB ((l10.set (r9 v18 i6 i9).toNat true).getD i false)))])) (show l10.length=(l10.set (r9 v18 i6 i9).toNat true).length from(Db ..).symm))) H8))))) λh=>tS h (gK (Be (Bg TC L4 q))))) (gA (Af q TC L4 (tN h)))) λh=>tS h (gO (Be (Bg TO L4 q))))) λx22 h=>gA (Af q TO L4 (tN h)))) λh=>tS h (gO (Be (Bg TY L4 q))))) λx24 h=>gA (Af q TY L4 (tN h)))) λh=>tS h (gO (Be (Bg [7] [14] q))))) λx26 h=>gA (Af q [6] [14] (Qa (⟨[(6,(.vsl 14 x26.length))],[(Z9 14 x26)],[]⟩:St) (tS h (gK (e:=.ret) (H7 [(14,20000)] (Le.trans (le_freeze (nm:=14) (sz:=1) (n:=x26.length) (e:=4) (f:=(λi=>eB (x26.getD i false))) (g:=(λi=>eB (x26.getD i false))) rfl ⟨rfl,trivial⟩ (λ_ _=>rfl) (by rw[hΓ];rfl)) (Gt (st':=⟨[(6,(NT x26 14))],[(Rd 14 x26.length)],[]⟩) (by kernel_rfl))))))))))))))
def Fl(a0:TFunc)(x1:mp)(i3:Int):Int->Option (LR Int (Unit ⊕ Bool)):=
 λi6=>bif decide (i6<(a0.Blocks.getD i3.toNat default).Phis.length) then Az (A1 i6 (a0.Blocks.getD i3.toNat default).Phis.length) (Az (A1 i3 x1.1.Pred.length) ((Bb ((a0.Blocks.getD i3.toNat default).Phis.getD i6.toNat default).From (x1.1.Pred.getD i3.toNat [])).bind λx9=>Az (((!x9)==false)=true->A1 i6 (a0.Blocks.getD i3.toNat default).Phis.length) (Az (((!x9)==false)=true->A1 i3 x1.1.Pred.length) (bif bif !x9 then true else((a0.Blocks.getD i3.toNat default).Phis.getD i6.toNat default).Args.length !=((x1.1.Pred.getD i3.toNat []).length:Int) then some (.done (.inr false)) else some (.next (w64 (i6+1))))))) else some (.done (.inl ()))
def Fm(a0:TFunc)(x1:mp)(x2:List Bool):Int->Option (LR Int (Unit ⊕ Bool)):=
 λi3=>bif decide (i3<a0.Blocks.length) then Az (A1 i3 a0.Blocks.length) (Az (A1 i3 x2.length) (bif bif !x2.getD i3.toNat false then true else bif bif (a0.Blocks.getD i3.toNat default).End.Kind==1 then true else(a0.Blocks.getD i3.toNat default).End.Kind==3 then(a0.Blocks.getD i3.toNat default).End.Arg !=0 else false then some (.done (.inr false)) else(Ac   (Fl a0 x1 i3) 0).bind λx12=>match x12 with | .inl _=>some (.next (w64 (i3+1))) | .inr r14=>some (.done (.inr r14)))) else some (.done (.inl ()))
def Rf(Γ:H6)(a0:TFunc)(r:Bool):Exit->St->Prop:=fK Tryz.prog Γ Tryz.f52.results.toList [] (.bool r) []
def ZK(x2:List Bool)(i3:Int):=((!(x2.getD i3.toNat false))==false)
def fL(a0:TFunc)(i3:Int):=((a0.Blocks.getD i3.toNat default).End.Kind:Int)
def xw(x2:List Bool)(i3:Int)(a0:TFunc):=((ZK x2 i3)&&((bif ((fL a0 i3)==1) then true else((fL a0 i3)==3))==true))
def J4(a0:TFunc):Option Bool:=
 (Jl a0).bind λx1=>bif x1.2 !=0 then some false else(Da x1.1 0 (-1)).bind λx2=>(Ac   (Fm a0 x1 x2) 0).bind λx15=>match x15 with | .inl _=>some true | .inr r17=>some r17
theorem Yf(h:J4 v0=some v3):sP 52 [(Vn v0)] [] (.bool v3) []:=
 sG Tryz.func52 λΓ q=>Af q [1] [1] (tB h λx1 y1 h=>tT q H3 La [(xe x1.1 x1.2)] (c1 (S2 y1)) (Af q [1,3,15] La (gC h (λh=>Af q [2] [] (tS h (Ca []))) λh=>tB h λx2 y2 h=>tT q LC GD [(xd 17 x2 x2.length)] (c1 (Mj y2)) (Af q IP GD (tL q h IP GD (λu i3=>(Cm u [(6,(Z5 i3))] [])) (λu x_=>match x_ with|(.inl _)=>aG Γ (.exit 0) (⟨[],[],[]⟩:St)|(.inr r_)=>aR (Rf Γ v0 r_)) (λi3 y h=>Af q [1,3,5,6,22] GD (gC h (λh=>tV q TP GA h λh=>tC h λc5_ h=>tU q [1,3,5,6,7,52] GA (ci c5_ (LO (ZK x2 i3) (Yy ((ZK x2 i3)&&(((fL v0 i3)==1)==false)) (UN (gI (ZK x2 i3)) (show((ZK x2 i3)=true->(((fL v0 i3)==1)=false->((ZK x2 i3)&&(((fL v0 i3)==1)==false))=true)) from(λhg=>(aF hg))) (gI (ZK x2 i3)) (Yy (xw x2 i3 v0) (c3 (gI (ZK x2 i3)) (show((ZK x2 i3)=true->((bif ((fL v0 i3)==1) then true else((fL v0 i3)==3))=true->(xw x2 i3 v0)=true)) from(λhg=>(aT hg))) (L5 (!(x2.getD i3.toNat false))))))))) (gC h (λh=>Af q [2] [] (tS h (gO (Lo (H7 [] (Le.refl _ _)))))) λh=>Af q ic GA (tL q h ic GA (λu i6=>(Cm u [(8,(Z5 i6))] [])) (λu x_=>match x_ with|(.inl _)=>aG Γ (.exit 2) (Nb IP GD u [] [])|(.inr r_)=>aR (Rf Γ v0 r_)) (λi6 y h=>Af q [1,3,5,6,7,8,57] GA (gC h (λh=>tC h λc7_ h=>tC h λc8_ h=>tB h λx9 y9 h=>tC h λc10_ h=>tC h λc11_ h=>tT q [1,3,5,6,7,8,88] GA [(Z2 x9)] (UN c7_ c8_ (Ck y9) (Yy ((!x9)==false) (ci c10_ (vC ((!x9)==false) (ci c11_ (LO ((!x9)==false) (c1 (L5 (!x9))))))))) (gC h (λh=>Af q [2] [] (tS h (gO (Lo (H7 [] (Le.refl _ _)))))) λh=>Af q ic GA (tN h))) λh=>tS h (gO (Be (Bg IP GD q))))) λx12 h=>(match x12,h with | .inl _,h=>gA (Af q IP GD (tN h)) | .inr r14,h=>O3 (λst' hk=>tS h (gO (Lo hk))))))) λh=>tS h (gO (Be (Bg [] [] q))))) λx15 h=>(match x15,h with | .inl _,h=>gA (Af q [2] [] (tS h (Ca []))) | .inr r17,h=>O3 (λst' hk=>tS h (gK hk))))))))
def sA(aI:Int):=(bif (bif (aI==1) then true else(aI==8)) then true else(aI==16))
def Dc(aI:Int):Option Bool:=
 some (bif bif bif bif aI==1 then true else aI==8 then true else aI==16 then true else aI==32 then true else aI==64)
theorem Ew(h:Dc v1=some v3):sP 97 [(Z5 v1)] [] (.bool v3) []:=
 sG Tryz.func97 λΓ q=>Af q [0] [] (tU q [2] [] (c8 (gI ((v1==1)==false)) (L5 (v1==1)) (gI ((bif (v1==1) then true else(v1==8))==false)) (L5 (bif (v1==1) then true else(v1==8))) (gI ((sA v1)==false)) (L5 (sA v1)) (gI ((bif (sA v1) then true else(v1==32))==false)) (L5 (bif (sA v1) then true else(v1==32)))) (tS h (Ca [])))
def nR(aN:Int):=(bif (aN==2) then true else(aN==4))
def va(aN:Int):=(bif (bif (nR aN) then true else(aN==8)) then true else(aN==16))
def xx(aN:Int)(aI:Int):=(bif (va aN) then(decide ((1:Int)<aI)) else false)
def J2(aI:Int)(aN:Int):Option Bool:=
 (Dc aI).bind λx1=>bif !x1 then some false else bif aN==1 then some true else some (bif bif bif bif bif aN==2 then true else aN==4 then true else aN==8 then true else aN==16 then decide (1<aI) else false then decide (w64 (aI*aN)<=128) else false)
theorem X9(h:J2 v1 v11=some v3):sP 146 [(Z5 v1),(Z5 v11)] [] (.bool v3) []:=
 sG Tryz.func146 λΓ q=>Af q Gm [] (tB h λx1 y1 h=>tT q [0,1,7] [] [(Z2 x1)] (c1 (Ew y1)) (gC h (λh=>Af q [4] [] (tS h (Ca []))) λh=>Af q [0,1,9] [] (gC h (λh=>Af q [4] [] (tS h (Ca []))) λh=>tU q [4] [] (d8_ (gI ((v11==2)==false)) (L5 (v11==2)) (gI ((nR v11)==false)) (L5 (nR v11)) (gI ((bif (nR v11) then true else(v11==8))==false)) (L5 (bif (nR v11) then true else(v11==8))) (gI ((va v11)==true)) (Ml (va v11)) (Yy ((xx v11 v1)==true) (c1 (Ml (xx v11 v1))))) (tS h (Ca [])))))
def vb(a1:TOp):List NR:=[(yo a1.Kind a1.Bits a1.Lanes a1.Dst a1.Args a1.Imm)]
def Kp(a1:TOp):Option Int:=
 bif a1.Kind==0 then some 0 else Option.bind  (bif a1.Kind==1 then some (a1.Kind==1) else bif a1.Kind==2 then some (a1.Kind==2) else bif a1.Kind==3 then some (a1.Kind==3) else bif a1.Kind==4 then some (a1.Kind==4) else bif a1.Kind==5 then some (a1.Kind==5) else bif a1.Kind==6 then some (a1.Kind==6) else bif a1.Kind==7 then some (a1.Kind==7) else bif a1.Kind==8 then some (a1.Kind==8) else bif a1.Kind==9 then some (a1.Kind==9) else bif a1.Kind==10 then some (a1.Kind==10) else bif a1.Kind==11 then some (a1.Kind==11) else bif a1.Kind==12 then some (a1.Kind==12) else some (a1.Kind==17)) λx2=>bif x2 then some 2 else Option.bind  (bif a1.Kind==13 then some (a1.Kind==13) else bif a1.Kind==18 then some (a1.Kind==18) else some (a1.Kind==19)) λx5=>bif x5 then some 3 else Option.bind  (bif a1.Kind==14 then some (a1.Kind==14) else bif a1.Kind==15 then some (a1.Kind==15) else bif a1.Kind==16 then some (a1.Kind==16) else some (a1.Kind==22)) λx8=>bif x8 then some 1 else bif a1.Kind==20 then some 4 else bif a1.Kind==21 then some a1.Lanes else some (-1)
variable{v6:TOp}
theorem Zq(h:Kp v6=some v1):sP 147 [(WD v6)] [] (.int .i64 v1) []:=
 sG Tryz.func147 λΓ q=>tW q [1] [1] P5 [1] (Af q [1,4,5] [1] (gC h (λh=>Af q [2] [] (tS h (Ca []))) λh=>tB h λx2 y2 h=>gJ y2 (λb1=>aG Γ .normal (⟨[AA,(4,(Z5 v6.Kind)),(7,(.bool b1))],(vb v6),[]⟩:St)) (λy h=>Af q Xf [1] (gC h (λh=>tS h (gK (Be H8))) λh=>Af q Xf [1] (gC h (λh=>tS h (gK (Be H8))) λh=>Af q Xf [1] (gC h (λh=>tS h (gK (Be H8))) λh=>Af q Xf [1] (gC h (λh=>tS h (gK (Be H8))) λh=>Af q Xf [1] (gC h (λh=>tS h (gK (Be H8))) λh=>Af q Xf [1] (gC h (λh=>tS h (gK (Be H8))) λh=>Af q Xf [1] (gC h (λh=>tS h (gK (Be H8))) λh=>Af q Xf [1] (gC h (λh=>tS h (gK (Be H8))) λh=>Af q Xf [1] (gC h (λh=>tS h (gK (Be H8))) λh=>Af q Xf [1] (gC h (λh=>tS h (gK (Be H8))) λh=>Af q Xf [1] (gC h (λh=>tS h (gK (Be H8))) λh=>Af q Xf [1] (gC h (λh=>tS h (gK (Be H8))) λh=>Af q Xf [1] (tS h (gK (Be H8)))))))))))))))) (gA (gC h (λh=>Af q [2] [] (tS h (Ca []))) λh=>tB h λx5 y5 h=>gJ y5 (λb4=>aG Γ .normal (⟨[AA,(4,(Z5 v6.Kind)),(21,(.bool b4))],(vb v6),[]⟩:St)) (λy h=>Af q [1,4,21] [1] (gC h (λh=>tS h (gK (Be H8))) λh=>Af q [1,4,21] [1] (gC h (λh=>tS h (gK (Be H8))) λh=>Af q [1,4,21] [1] (tS h (gK (Be H8)))))) (gA (gC h (λh=>Af q [2] [] (tS h (Ca []))) λh=>tB h λx8 y8 h=>gJ y8 (λb7=>aG Γ .normal (⟨[AA,(4,(Z5 v6.Kind)),(25,(.bool b7))],(vb v6),[]⟩:St)) (λy h=>Af q [1,4,25] [1] (gC h (λh=>tS h (gK (Be H8))) λh=>Af q [1,4,25] [1] (gC h (λh=>tS h (gK (Be H8))) λh=>Af q [1,4,25] [1] (gC h (λh=>tS h (gK (Be H8))) λh=>Af q [1,4,25] [1] (tS h (gK (Be H8))))))) (gA (gC h (λh=>Af q [2] [] (tS h (Ca []))) λh=>Af q [1,4,30] [1] (gC h (λh=>Af q [2] [] (tS h (Ca []))) λh=>Af q [1,32] [1] (gC h (λh=>Af q [2] [] (tS h (Ca []))) λh=>Af q [2] [] (tS h (Ca []))))))))))))
def Lq(aH:Int)(aI:Int):Option Int:=
 (Dc aI).bind λx1=>bif !x1 then some 0 else bif aI==64 then some aH else Az (0<=Iy aI) (Az (SJ .u64 1 (Iy aI)≠0) (some (Int.tmod aH (SJ .u64 1 (Iy aI)))))
variable{v20:Int}
theorem BL(h:Lq v1 v11=some v20):sP 194 [(.int .u64 v1),(Z5 v11)] [] (.int .u64 v20) []:=
 sG Tryz.func194 λΓ q=>Af q Gm [] (tB h λx1 y1 h=>tT q [0,1,7] [] [(Z2 x1)] (c1 (Ew y1)) (gC h (λh=>Af q [4] [] (tS h (Ca []))) λh=>Af q [0,1,9] [] (gC h (λh=>Af q [4] [] (tS h (Ca []))) λh=>tC h λc2_ h=>tC h λc3_ h=>tU q [4] [] (c2 c2_ c3_) (tS h (Ca [])))))
def AF(Γ:H6)(a1:TOp)(r:Bool):Exit->St->Prop:=fK Tryz.prog Γ Tryz.f148.results.toList [] (.bool r) []
def xy(a1:TOp):=(a1.Kind==15)
def nT(a1:TOp):=((a1.Kind==4)==false)
def vf(a1:TOp):=(decide (a1.Imm<(Iy a1.Bits)))
def vi(a1:TOp):=(bif (a1.Kind==4) then true else(bif (decide ((10:Int)<=a1.Kind)) then(decide (a1.Kind<=12)) else false))
def sB(a1:TOp):=(bif (vi a1) then true else(a1.Kind==14))
def nU(a1:TOp):=((bif (sB a1) then true else(xy a1))==false)
def vh(a1:TOp):=(bif (decide ((16:Int)<=a1.Kind)) then(decide (a1.Kind<=19)) else false)
def nS(a1:TOp):=(bif (vh a1) then(decide (a1.Bits<8)) else false)
def xz(a1:TOp):=(((nS a1)==false)&&((decide ((21:Int)<=a1.Kind))==true))
def vd(a1:TOp):=(bif (decide (((Iy a1.Bits):Int)<a1.Imm)) then(decide (a1.Imm<=64)) else false)
def F7(a1:TOp):Option Bool:=
 Option.bind (α:=Unit ⊕ Bool) (bif bif bif bif bif a1.Kind==4 then true else bif decide (10<=a1.Kind) then decide (a1.Kind<=12) else false then true else a1.Kind==14 then true else a1.Kind==15 then true else bif decide (18<=a1.Kind) then decide (a1.Kind<=20) else false then bif a1.Lanes !=1 then some (.inr false) else some (.inl ()) else some (.inl ())) λx1=>match x1 with | .inl _=>bif bif bif bif decide (16<=a1.Kind) then decide (a1.Kind<=19) else false then decide (a1.Bits<8) else false then true else bif decide (21<=a1.Kind) then decide (a1.Lanes<2) else false then some false else bif a1.Kind==0 then(Lq a1.Imm a1.Bits).bind λx3=>some (x3==a1.Imm) else bif a1.Kind==14 then(bif decide (a1.Imm<Iy a1.Bits)==true then Dc (w64 a1.Imm) else some false).bind λx4=>some (bif decide (a1.Imm<Iy a1.Bits) then x4 else false) else bif a1.Kind==15 then(bif (bif decide (Iy a1.Bits<a1.Imm) then decide (a1.Imm<=64) else false)==true then Dc (w64 a1.Imm) else some false).bind λx5=>some (bif bif decide (Iy a1.Bits<a1.Imm) then decide (a1.Imm<=64) else false then x5 else false) else bif a1.Kind==22 then some (decide (a1.Imm<Iy a1.Lanes)) else some (a1.Imm==0) | .inr r6=>some r6
theorem Zr(h:F7 v6=some v3):sP 148 [(WD v6)] [] (.bool v3) []:=
 sG Tryz.func148 λΓ q=>tW q [1] [1] La [1] (tB h λx1 y1 h=>gJ y1 (λx_=>match x_ with|(.inl _)=>aG Γ .normal (⟨[AA,(3,(Z5 v6.Kind))],[(yo v6.Kind v6.Bits v6.Lanes v6.Dst v6.Args v6.Imm)],[]⟩:St)|(.inr r_)=>aR (AF Γ v6 r_)) (λy h=>tU q [1,3,31] [1] (Md (nT v6) (d8_ (gI ((nT v6)&&((decide ((10:Int)<=v6.Kind))==true))) (gI (nT v6)) (show((nT v6)=true->((decide ((10:Int)<=v6.Kind))=true->((nT v6)&&((decide ((10:Int)<=v6.Kind))==true))=true)) from(λhg=>(aT hg))) (L5 (v6.Kind==4)) (gI ((vi v6)==false)) (L5 (vi v6)) (gI ((sB v6)==false)) (L5 (sB v6)) (Md (nU v6) (c4 (gI ((nU v6)&&((decide ((18:Int)<=v6.Kind))==true))) (gI (nU v6)) (show((nU v6)=true->((decide ((18:Int)<=v6.Kind))=true->((nU v6)&&((decide ((18:Int)<=v6.Kind))==true))=true)) from(λhg=>(aT hg))) (L5 (bif (sB v6) then true else(xy v6))))))) (gC h (λh=>Af q [1,3,34] [1] (gC h (λh=>Af q [2] [] (tS h (gK (Lo (H7 [] (Le.refl _ _)))))) λh=>tS h (gK (Be (Bg La [1] q))))) λh=>tS h (gK (Be (Bg La [1] q))))) (match x1,h with | .inl _,h=>gA (tU q [1,3,54] [1] (fq (gI ((decide ((16:Int)<=v6.Kind))==true)) (Ml (decide ((16:Int)<=v6.Kind))) (Md ((vh v6)==true) (ci (Ml (vh v6)) (Md ((nS v6)==false) (Md (xz v6) (c3 (gI ((nS v6)==false)) (show(((nS v6)==false)=true->((decide ((21:Int)<=v6.Kind))=true->(xz v6)=true)) from(λhg=>(aT hg))) (L5 (nS v6)))))))) (gC h (λh=>Af q [2] [] (tS h (Ca []))) λh=>tW q [1,55] [1] [1,55,56] [1] (gC h (λh=>tB h λx3 y3 h=>tT q [2] [] [⟨[],[],(.int .u64 x3),[],[],[]⟩] (c1 (BL y3)) (tS h (Ca []))) λh=>Af q [1,55,66] [1] (gC h (λh=>tB h λx4 y4 h=>tT q [2] [] [(Z2 x4)] (Yy ((vf v6)==true) (c2 (λ(hg:((vf v6)==true)=true)=>(Ew (A9 hg y4))) (Ml (vf v6)))) (tS h (Ca []))) λh=>Af q [1,55,80] [1] (gC h (λh=>tB h λx5 y5 h=>tT q [2] [] [(Z2 x5)] (Md ((decide (((Iy v6.Bits):Int)<v6.Imm))==true) (ci (Ml (decide (((Iy v6.Bits):Int)<v6.Imm))) (Yy ((vd v6)==true) (c2 (λ(hg:((vd v6)==true)=true)=>(Ew (A9 hg y5))) (Ml (vd v6)))))) (tS h (Ca []))) λh=>Af q [1,99] [1] (gC h (λh=>Af q [2] [] (tS h (Ca []))) λh=>Af q [2] [] (tS h (Ca [])))))))) | .inr r6,h=>O3 (λst' hk=>tS h (gK hk))))
def Fg(aH:Int):Option Bool:=
 some (bif decide (0<aH) then decide (aH<1024) else false)
theorem Mi(h:Fg v1=some v3):sP 55 [(Z5 v1)] [] (.bool v3) []:=
 sG Tryz.func55 λΓ q=>Af q [0] [] (tU q [2] [] (c2 (gI ((decide ((0:Int)<v1))==true)) (Ml (decide ((0:Int)<v1)))) (tS h (Ca [])))
def Gy(a1:TOp):Int->Option (LR Int (Unit ⊕ Bool)):=
 λi4=>bif decide (i4<a1.Args.length) then Az (A1 i4 a1.Args.length) ((Fg (a1.Args.getD i4.toNat 0)).bind λx6=>bif !x6 then some (.done (.inr false)) else some (.next (w64 (i4+1)))) else some (.done (.inl ()))
def DW(Γ:H6)(a1:TOp)(r:Bool):Exit->St->Prop:=fK Tryz.prog Γ Tryz.f98.results.toList [] (.bool r) []
def sC(x1:Bool)(x2:Int)(a1:TOp):=(bif (!x1) then true else(x2 !=(a1.Args.length:Int)))
def G9(a1:TOp):Option Bool:=
 (J2 a1.Bits a1.Lanes).bind λx1=>(bif (!x1)==false then Kp a1 else some 0).bind λx2=>(bif (bif !x1 then true else x2 !=a1.Args.length)==false then F7 a1 else some false).bind λx3=>bif bif bif !x1 then true else x2 !=a1.Args.length then true else !x3 then some false else(Ac   (Gy a1) 0).bind λx7=>match x7 with | .inl _=>bif bif a1.Kind==17 then true else a1.Kind==19 then some (a1.Dst==0) else(Fg a1.Dst).bind λx9=>some x9 | .inr r10=>some r10
theorem Nz(h:G9 v6=some v3):sP 98 [(WD v6)] [] (.bool v3) []:=
 sG Tryz.func98 λΓ q=>Af q [1] [1] (tB h λx1 y1 h=>tB h λx2 y2 h=>tB h λx3 y3 h=>tT q [1,22] [1] [(Z2 x1),(IX x2),(Z2 x3)] (UN (X9 y1) (gI ((!x1)==false)) (λ(hg:((!x1)==false)=true)=>(Zq (A9 hg y2))) (LO ((!x1)==false) (c5 (L5 (!x1)) (gI ((sC x1 x2 v6)==false)) (λ(hg:((sC x1 x2 v6)==false)=true)=>(Zr (A9 hg y3))) (gI ((sC x1 x2 v6)==false)) (L5 (sC x1 x2 v6))))) (gC h (λh=>Af q [2] [] (tS h (Ca []))) λh=>Af q La [1] (tL q h La [1] (λu i4=>(Cm u [(3,(Z5 i4))] [])) (λu x_=>match x_ with|(.inl _)=>aG Γ (.exit 0) (Nb [1] [1] u [] [])|(.inr r_)=>aR (DW Γ v6 r_)) (λi4 y h=>Af q [1,3,27] [1] (gC h (λh=>tC h λc5_ h=>tB h λx6 y6 h=>tT q [1,3,36] [1] [(Z2 x6)] (c2 c5_ (Mi y6)) (gC h (λh=>Af q [2] [] (tS h (gO (Lo (H7 [] (Le.refl _ _)))))) λh=>Af q La [1] (tN h))) λh=>tS h (gO (Be (Bg [1] [1] q))))) λx7 h=>(match x7,h with | .inl _,h=>gA (tU q [1,44] [1] (Md ((v6.Kind==17)==false) (c1 (L5 (v6.Kind==17)))) (gC h (λh=>Af q [2] [] (tS h (Ca []))) λh=>tB h λx9 y9 h=>tT q [2] [] [(Z2 x9)] (c1 (Mi y9)) (tS h (Ca [])))) | .inr r10,h=>O3 (λst' hk=>tS h (gK hk))))))
def Fn(a0:TFunc):Int->Option (LR Int (Unit ⊕ Bool)):=
 λi1=>bif decide (i1<a0.Params.length) then Az (A1 i1 a0.Params.length) ((Dc (a0.Params.getD i1.toNat 0)).bind λx3=>bif !x3 then some (.done (.inr false)) else some (.next (w64 (i1+1)))) else some (.done (.inl ()))
def D4(a0:TFunc)(i6:Int):Int->Option (LR Int (Unit ⊕ Bool)):=
 λi7=>Az (A1 i6 a0.Blocks.length) (bif decide (i7<(a0.Blocks.getD i6.toNat default).Phis.length) then Az (A1 i6 a0.Blocks.length) (Az (A1 i7 (a0.Blocks.getD i6.toNat default).Phis.length) ((Dc ((a0.Blocks.getD i6.toNat default).Phis.getD i7.toNat default).Bits).bind λx11=>bif !x11 then some (.done (.inr false)) else some (.next (w64 (i7+1))))) else some (.done (.inl ())))
def D5(a0:TFunc)(a2:Int)(i6:Int):Int->Option (LR Int (Unit ⊕ Bool)):=
 λi14=>Az (A1 i6 a0.Blocks.length) (bif decide (i14<(a0.Blocks.getD i6.toNat default).Ops.length) then Az (A1 i6 a0.Blocks.length) (Az (A1 i14 (a0.Blocks.getD i6.toNat default).Ops.length) (Option.bind  (bif a2==1 then some 20 else some 22) λx19=>Option.bind  (bif a2==0 then some 17 else some x19) λx22=>(G9 ((a0.Blocks.getD i6.toNat default).Ops.getD i14.toNat default)).bind λx24=>bif bif bif !x24 then true else decide (x22<((a0.Blocks.getD i6.toNat default).Ops.getD i14.toNat default).Kind) then true else bif decide (a2<2) then decide (1<((a0.Blocks.getD i6.toNat default).Ops.getD i14.toNat default).Lanes) else false then some (.done (.inr false)) else some (.next (w64 (i14+1))))) else some (.done (.inl ())))
def Fo(a0:TFunc)(a2:Int):Int->Option (LR Int (Unit ⊕ Bool)):=
 λi6=>bif decide (i6<a0.Blocks.length) then(Ac   (D4 a0 i6) 0).bind λx12=>match x12 with | .inl _=>(Ac   (D5 a0 a2 i6) 0).bind λx25=>(match x25 with | .inl _=>some (.next (w64 (i6+1))) | .inr r27=>some (.done (.inr r27))) | .inr r28=>some (.done (.inr r28)) else some (.done (.inl ()))
def Jx(Γ:H6)(a0:TFunc)(a2:Int)(r:Bool):Exit->St->Prop:=fK Tryz.prog Γ Tryz.f53.results.toList [] (.bool r) []
def fM(a0:TFunc)(i6:Int)(i14:Int):=(((a0.Blocks.getD i6.toNat default).Ops).getD i14.toNat default)
def ku(x24:Bool)(x22:Int)(a0:TFunc)(i6:Int)(i14:Int):=(bif (!x24) then true else(decide (x22<(fM a0 i6 i14).Kind)))
def Aag(a0:TFunc):List AV:=[(Z6 a0.Params),(Z5 a0.Ret),(OY a0.Blocks)]
def yA(a0:TFunc)(i6:Int)(i14:Int):List NR:=[(Pt 25 (Aag a0)),(9,.row 70 [(.int .i64 (fM a0 i6 i14).Kind),(.int .i64 (fM a0 i6 i14).Bits),(.int .i64 (fM a0 i6 i14).Lanes),(.int .i64 (fM a0 i6 i14).Dst),(AV.list 1 Aq 0 (fM a0 i6 i14).Args .none),(.int .u64 (fM a0 i6 i14).Imm)])]
def J5(a0:TFunc)(a2:Int):Option Bool:=
 (Ac   (Fn a0) 0).bind λx4=>match x4 with | .inl _=>(Ac   (Fo a0 a2) 0).bind λx29=>(match x29 with | .inl _=>(Dc a0.Ret).bind λx31=>some x31 | .inr r32=>some r32) | .inr r33=>some r33
theorem Yg(h:J5 v0 v1=some v3):sP 53 [(Vn v0),(Z5 v1)] [] (.bool v3) []:=
 sG Tryz.func53 λΓ q=>tW q Ea [2] V6 [2] (tL q h V6 [2] (λu i1=>(Cm u [(5,(Z5 i1))] [])) (λu x_=>match x_ with|(.inl _)=>aG Γ (.exit 0) (Nb Ea [2] u [] [])|(.inr r_)=>aR (Jx Γ v0 v1 r_)) (λi1 y h=>Af q [1,2,5,15] [2] (gC h (λh=>tC h λc2_ h=>tB h λx3 y3 h=>tT q [1,2,5,24] [2] [(Z2 x3)] (c2 c2_ (Ew y3)) (gC h (λh=>Af q [4] [] (tS h (gO (Lo (H7 [] (Le.refl _ _)))))) λh=>Af q V6 [2] (tN h))) λh=>tS h (gO (Be (Bg Ea [2] q))))) λx4 h=>(match x4,h with | .inl _,h=>gA (Af q CL [2] (tL q h CL [2] (λu i6=>(Cm u [(6,(Z5 i6))] [])) (λu x_=>match x_ with|(.inl _)=>aG Γ (.exit 2) (Nb [2] [2] u [] [])|(.inr r_)=>aR (Jx Γ v0 v1 r_)) (λi6 y h=>Af q [1,2,6,29] [2] (gC h (λh=>Af q [1,2,6,7] [2] (tL q h [1,2,6,7] [2] (λu i7=>(Cm u [(7,(Z5 i7))] [])) (λu x_=>match x_ with|(.inl _)=>aG Γ (.exit 4) (Nb CL [2] u [] [])|(.inr r_)=>aR (Jx Γ v0 v1 r_)) (λi7 y h=>tV q [1,2,6,7,40] [2] h λh=>gC h (λh=>tC h λc9_ h=>tC h λc10_ h=>tB h λx11 y11 h=>tT q [1,2,6,7,54] [2] [(Z2 x11)] (c3 c9_ c10_ (Ew y11)) (gC h (λh=>Af q [4] [] (tS h (gO (Lo (H7 [] (Le.refl _ _)))))) λh=>Af q [1,2,6,7] [2] (tN h))) λh=>tS h (gO (Be (Bg CL [2] q)))) λx12 h=>(match x12,h with | .inl _,h=>gA (Af q [1,2,6,8] [2] (tL q h [1,2,6,8] [2] (λu i14=>(Cm u [(8,(Z5 i14))] [])) (λu x_=>match x_ with|(.inl _)=>aG Γ (.exit 6) (Nb CL [2] u [] [])|(.inr r_)=>aR (Jx Γ v0 v1 r_)) (λi14 y h=>tV q [1,2,6,8,63] [2] h λh=>gC h (λh=>tC h λc16_ h=>tC h λc17_ h=>tU q [1,2,6,8,9] [2,9] (c2 c16_ c17_) (Af q TD [2,9] (tB h λx19 y19 h=>gJ y19 (λi18=>aG Γ .normal (⟨[(1,(Z5 v1)),Uj,(6,(Z5 i6)),(8,(Z5 i14)),(9,(.ptr 9 0)),(10,(Z5 i18))],(yA v0 i6 i14),[]⟩:St)) (λy h=>Af q [1,2,6,8,9,10,76] [2,9] (gC h (λh=>Af q TD [2,9] (tS h (gK (Be H8)))) λh=>tS h (gK (Be (Bg TD [2,9] q))))) (gA (tB h λx22 y22 h=>gJ y22 (λi21=>aG Γ .normal (⟨[(1,(Z5 v1)),Uj,(6,(Z5 i6)),(8,(Z5 i14)),(9,(.ptr 9 0)),(10,(Z5 i21))],(yA v0 i6 i14),[]⟩:St)) (λy h=>Af q [1,2,6,8,9,10,78] [2,9] (gC h (λh=>Af q TD [2,9] (tS h (gK (Be H8)))) λh=>tS h (gK (Be (Bg TD [2,9] q))))) (gA (tB h λx24 y24 h=>tT q [1,2,6,8,96] [2] [(Z2 x24)] (ci (Nz y24) (Yy ((!x24)==false) (ci (L5 (!x24)) (Md ((ku x24 x22 v0 i6 i14)==false) (Md (((ku x24 x22 v0 i6 i14)==false)&&((decide (v1<2))==true)) (c3 (gI ((ku x24 x22 v0 i6 i14)==false)) (show(((ku x24 x22 v0 i6 i14)==false)=true->((decide (v1<2))=true->(((ku x24 x22 v0 i6 i14)==false)&&((decide (v1<2))==true))=true)) from(λhg=>(aT hg))) (L5 (ku x24 x22 v0 i6 i14)))))))) (gC h (λh=>Af q [4] [] (tS h (gO (Lo (H7 [] (Le.refl _ _)))))) λh=>Af q [1,2,6,8] [2] (tN h))))))))) λh=>tS h (gO (Be (Bg CL [2] q)))) λx25 h=>(match x25,h with | .inl _,h=>gA (Af q CL [2] (tN h)) | .inr r27,h=>O3 (λst' hk=>tS h (gO (Lo hk)))))) | .inr r28,h=>O3 (λst' hk=>tS h (gO (Lo hk)))))) λh=>tS h (gO (Be (Bg [2] [2] q))))) λx29 h=>(match x29,h with | .inl _,h=>gA (tB h λx31 y31 h=>tT q [4] [] [(Z2 x31)] (c1 (Ew y31)) (tS h (Ca []))) | .inr r32,h=>O3 (λst' hk=>tS h (gK hk))))) | .inr r33,h=>O3 (λst' hk=>tS h (gK hk))))
def Hm(a1:TOp):Option J8:=
 (G9 a1).bind λx1=>bif bif bif !x1 then true else a1.Kind==17 then true else a1.Kind==19 then some (0,0) else bif bif decide (10<=a1.Kind) then decide (a1.Kind<=12) else false then some (1,1) else bif a1.Kind==22 then some (a1.Bits,1) else some (a1.Bits,a1.Lanes)
variable{v19:J8}
theorem X8(h:Hm v6=some v19):sP 99 [(WD v6)] [] (.tuple [(Z5 v19.1),(Z5 v19.2)]) []:=
 sG Tryz.func99 λΓ q=>Af q [1] [1] (tB h λx1 y1 h=>tT q [1,16] [1] [(Z2 x1)] (ci (Nz y1) (Md ((!x1)==false) (ci (L5 (!x1)) (Md ((bif (!x1) then true else(v6.Kind==17))==false) (c1 (L5 (bif (!x1) then true else(v6.Kind==17)))))))) (gC h (λh=>Af q Cy [] (tS h (Ca []))) λh=>tU q [1,24] [1] (Md ((decide ((10:Int)<=v6.Kind))==true) (c1 (Ml (decide ((10:Int)<=v6.Kind))))) (gC h (λh=>Af q Cy [] (tS h (Ca []))) λh=>Af q [1,27] [1] (gC h (λh=>Af q Cy [] (tS h (Ca []))) λh=>Af q Cy [] (tS h (Ca []))))))
open Go Go.RowKit
set_option maxRecDepth 100000
set_option maxHeartbeats 2000000
abbrev ul:=(List Cc×Int)
abbrev um:=(LR (List Cc×Int) (List Cc))
def Io(a0:TFunc):ul->Option um:=
 λ(l1,i2)=>bif decide (i2<a0.Params.length) then Az (A1 i2 a0.Params.length) (Az (l1.length+[(⟨w64 (i2+1),-1,0,(a0.Params.getD i2.toNat 0,1)⟩:Cc)].length<=room) (some (.next (l1++[⟨w64 (i2+1),-1,0,(a0.Params.getD i2.toNat 0,1)⟩],w64 (i2+1))))) else some (.done l1)
def Ge(a0:TFunc)(i9:Int):ul->Option um:=
 λ(l12,i13)=>bif decide (i13<(a0.Blocks.getD i9.toNat default).Phis.length) then Az (A1 i13 (a0.Blocks.getD i9.toNat default).Phis.length) (Az (A1 i13 (a0.Blocks.getD i9.toNat default).Phis.length) (Az (l12.length+[(⟨((a0.Blocks.getD i9.toNat default).Phis.getD i13.toNat default).Dst,i9,-1,(((a0.Blocks.getD i9.toNat default).Phis.getD i13.toNat default).Bits,1)⟩:Cc)].length<=room) (some (.next (l12++[⟨((a0.Blocks.getD i9.toNat default).Phis.getD i13.toNat default).Dst,i9,-1,(((a0.Blocks.getD i9.toNat default).Phis.getD i13.toNat default).Bits,1)⟩],w64 (i13+1)))))) else some (.done l12)
def Gf(a0:TFunc)(i9:Int):ul->Option um:=
 λ(l20,i21)=>bif decide (i21<(a0.Blocks.getD i9.toNat default).Ops.length) then Option.bind  (Az (A1 i21 (a0.Blocks.getD i9.toNat default).Ops.length) ((Hm ((a0.Blocks.getD i9.toNat default).Ops.getD i21.toNat default)).bind λx25=>bif decide (0<x25.1) then Az (A1 i21 (a0.Blocks.getD i9.toNat default).Ops.length) (Az (l20.length+[(⟨((a0.Blocks.getD i9.toNat default).Ops.getD i21.toNat default).Dst,i9,i21,(x25.1,x25.2)⟩:Cc)].length<=room) (some (l20++[⟨((a0.Blocks.getD i9.toNat default).Ops.getD i21.toNat default).Dst,i9,i21,(x25.1,x25.2)⟩]))) else some l20)) λx28=>some (.next (x28,w64 (i21+1))) else some (.done l20)
def Ip(a0:TFunc):ul->Option um:=
 λ(l8,i9)=>bif decide (i9<a0.Blocks.length) then Az (A1 i9 a0.Blocks.length) ((Ac   (Ge a0 i9) (l8,0)).bind λx18=>(Ac   (Gf a0 i9) (x18,0)).bind λx30=>some (.next (x30,w64 (i9+1)))) else some (.done l8)
def cH(a0:TFunc)(i9:Int):=(a0.Blocks.getD i9.toNat default)
def vj(a0:TFunc):List AV:=[(Z6 a0.Params),(Z5 a0.Ret),(OY a0.Blocks)]
def sF(i2:Int)(a0:TFunc):=([(⟨(w64 (i2+1)),(-1:Int),(0:Int),((a0.Params.getD i2.toNat 0),(1:Int))⟩:Cc)]:List Cc)
def sE(a0:TFunc)(i9:Int)(i21:Int)(x25:J8):=([(⟨(((cH a0 i9).Ops).getD i21.toNat default).Dst,i9,i21,(x25.1,x25.2)⟩:Cc)]:List Cc)
def yB(a0:TFunc):=(⟨[AA,(3,(AV.list 5 Pu default ([]:List Cc) (.own 5003))),(4,L9)],[(1,.row 25 (vj a0)),(5003,.tok 5 92 (([]:List Cc).length))],[]⟩:St)
def sD(a0:TFunc)(i9:Int)(i13:Int):=([(⟨(((cH a0 i9).Phis).getD i13.toNat default).Dst,i9,(-1:Int),((((cH a0 i9).Phis).getD i13.toNat default).Bits,(1:Int))⟩:Cc)]:List Cc)
def Ku(a0:TFunc):Option (List Cc):=
 (Ac   (Io a0) ([],0)).bind λx6=>(Ac   (Ip a0) (x6,0)).bind λx32=>some x32
variable{v34:List Cc}
theorem Zw(h:Ku v0=some v34):sP 54 [(Vn v0)] [] (AV.list 5 Pu default v34 (.own 20000)) [(Ln 20000 92 v34.length)]:=
 sG Tryz.func54 λΓ q=>gR q [1] [1] [(2,(AV.list 5 Pu default ([]:List Cc) .exact))] [] (c1 (Bz 5 Pu (default:Cc))) (gR q La [1] [(3,(AV.list 5 Pu default ([]:List Cc) .exact))] [] (c1 (Bz 5 Pu (default:Cc))) (Af q H3 [1] (gLe (st':=(yB v0)) (Le.trans (Bg (st':=⟨[AA,(3,(AV.list 5 Pu default ([]:List Cc) .exact)),(4,L9)],[(1,.row 25 (vj v0))],[]⟩) H3 [1] q) (Le.trans (Ro (t:=3) (nm:=5003) (sz':=5) (λi=>Pu (([]:List Cc).getD i default)) 92 rfl rfl (.inl ⟨rfl,rfl⟩) (λh_=>absurd h_ (by decide))) (Bg (st':=(yB v0)) H3 Ni q))) (tL q h H3 Ni (λu (l1,i2)=>(Cm u [(sf l1),(4,(Z5 i2))] [(Ln 5003 92 l1.length)])) (λu l3=>aG Γ (.exit 0) (Nb La Ni u [(sf l3)] [(Ln 5003 92 l3.length)])) (λ⟨l1,i2⟩ y h=>Af q [1,3,4,15] Ni (gC h (λh=>tC h λc4_ h=>tC h λc5_ h=>gR q H3 Ni (Z47 28 (sF i2 v0) 29 l1) [] (c6 c4_ (Bq 5 Pu (default:Cc) (sF i2 v0)) (Eq.refl l1.length) c5_ (I7 5 5003 Pu (default:Cc) l1 (sF i2 v0)) (E0 l1 (sF i2 v0))) (Af q H3 Ni (tN h))) λh=>tS h (gO (Be (Bg La Ni q))))) λx6 h=>gA (Af q LC Ni (tL q h LC Ni (λu (l8,i9)=>(Cm u [(sf l8),(5,(Z5 i9))] [(Ln 5003 92 l8.length)])) (λu l10=>aG Γ (.exit 2) (⟨[(sf l10)],[(Ln 5003 92 l10.length)],[]⟩:St)) (λ⟨l8,i9⟩ y h=>Af q [1,3,5,34] Ni (gC h (λh=>tV q IP S6 h λh=>Af q TP S6 (tL q h TP S6 (λu (l12,i13)=>(Cm u [(sf l12),(7,(Z5 i13))] [(Ln 5003 92 l12.length)])) (λu l14=>aG Γ (.exit 4) (Nb IP S6 u [(sf l14)] [(Ln 5003 92 l14.length)])) (λ⟨l12,i13⟩ y h=>Af q [1,3,5,6,7,46] S6 (gC h (λh=>tC h λc15_ h=>tC h λc16_ h=>tC h λc17_ h=>gR q TP S6 (Z47 65 (sD v0 i9 i13) 66 l12) [] (c7 c15_ c16_ (Bq 5 Pu (default:Cc) (sD v0 i9 i13)) (Eq.refl l12.length) c17_ (I7 5 5003 Pu (default:Cc) l12 (sD v0 i9 i13)) (E0 l12 (sD v0 i9 i13))) (Af q TP S6 (tN h))) λh=>tS h (gO (Be (Bg IP S6 q))))) λx18 h=>gA (Af q TQ S6 (tL q h TQ S6 (λu (l20,i21)=>(Cm u [(sf l20),(8,(Z5 i21))] [(Ln 5003 92 l20.length)])) (λu l22=>aG Γ (.exit 6) (Nb LC Ni u [(sf l22)] [(Ln 5003 92 l22.length)])) (λ⟨l20,i21⟩ y h=>Af q [1,3,5,6,8,71] S6 (gC h (λh=>tB h λx28 y28 h=>gJ y28 (λl23=>aG Γ .normal (⟨[AA,(sf l23),(5,(Z5 i9)),(6,(.ptr 6 0)),(8,(Z5 i21))],[(1,.row 25 (vj v0)),(6,.row 64 [(AV.list 4 Ej default (cH v0 i9).Phis .none),(AV.list 6 Lm default (cH v0 i9).Ops .none),(.int .i64 (cH v0 i9).End.Kind),(.int .i64 (cH v0 i9).End.Arg),(AV.list 1 Aq 0 (cH v0 i9).End.To .none)]),(Ln 5003 92 l23.length)],[]⟩:St)) (λy h=>tC h λc24_ h=>tB h λx25 y25 h=>tT q [1,3,5,6,8,9,10] S6 [(Z93 x25.1 x25.2)] (c2 c24_ (X8 y25)) (Af q [1,3,5,6,8,9,10,84] S6 (gC h (λh=>tC h λc26_ h=>tC h λc27_ h=>gR q TQ S6 (Z47 98 (sE v0 i9 i21 x25) 99 l20) [] (c6 c26_ (Bq 5 Pu (default:Cc) (sE v0 i9 i21 x25)) (Eq.refl l20.length) c27_ (I7 5 5003 Pu (default:Cc) l20 (sE v0 i9 i21 x25)) (E0 l20 (sE v0 i9 i21 x25))) (tS h (gK (Be H8)))) λh=>tS h (gK (Be (Bg TQ S6 q)))))) (gA (Af q TQ S6 (tN h)))) λh=>tS h (gO (Be (Bg LC Ni q))))) λx30 h=>gA (Af q LC Ni (tN h)))))) λh=>tS h (gO (Be (Bg [3] [5003] q))))) λx32 h=>gA (Af q [2] [5003] (tS h (Ca br)))))))))
def Gg(aQ:List Cc)(aH:Int):Int->Option (LR Int (Unit ⊕ Int)):=
 λi1=>bif decide (i1<aQ.length) then Az (A1 i1 aQ.length) (bif (aQ.getD i1.toNat default).V==aH then some (.done (.inr i1)) else some (.next (w64 (i1+1)))) else some (.done (.inl ()))
def AK(Γ:H6)(aQ:List Cc)(aH:Int)(r:Int):Exit->St->Prop:=fK Tryz.prog Γ Tryz.f56.results.toList [] (.int .i64 r) []
def Et(aQ:List Cc)(aH:Int):Option Int:=
 (Ac   (Gg aQ aH) 0).bind λx3=>match x3 with | .inl _=>some (-1) | .inr r5=>some r5
theorem J6(h:Et v34 v1=some v11):sP 56 [(AV.list 5 Pu default v34 .none),(Z5 v1)] [] (.int .i64 v11) []:=
 sG Tryz.func56 λΓ q=>tW q Gm [] Nh [] (tL q h Nh [] (λu i1=>(Cm u [(5,(Z5 i1))] [])) (λu x_=>match x_ with|(.inl _)=>aG Γ (.exit 0) (⟨[],[],[]⟩:St)|(.inr r_)=>aR (AK Γ v34 v1 r_)) (λi1 y h=>Af q [0,1,5,9] [] (gC h (λh=>tV q [0,1,5,18] [] h λh=>gC h (λh=>Af q [4] [] (tS h (gO (Lo (H7 [] (Le.refl _ _)))))) λh=>Af q Nh [] (tN h)) λh=>tS h (gO (Be (Bg [] [] q))))) λx3 h=>(match x3,h with | .inl _,h=>gA (Af q [4] [] (tS h (Ca []))) | .inr r5,h=>O3 (λst' hk=>tS h (gK hk))))
def H1(a1:TOp):(List (Int×Int)×Int)->Option (LR (List (Int×Int)×Int) (List (Int×Int))):=
 λ(l2,i3)=>bif decide (i3<a1.Args.length) then Option.bind  (Option.bind  (bif a1.Kind==13 then some (a1.Kind==13) else some (a1.Kind==20)) λx8=>bif x8 then bif i3==0 then some (1,1) else some (a1.Bits,a1.Lanes) else Option.bind  (bif a1.Kind==14 then some (a1.Kind==14) else some (a1.Kind==15)) λx11=>bif x11 then some (w64 a1.Imm,1) else Option.bind  (bif a1.Kind==16 then some (a1.Kind==16) else some (a1.Kind==17)) λx14=>bif x14 then bif i3==0 then some (64,1) else some (a1.Bits,a1.Lanes) else Option.bind  (bif a1.Kind==18 then some (a1.Kind==18) else some (a1.Kind==19)) λx17=>bif x17 then Option.bind  (bif i3==0 then some (1,1) else some (a1.Bits,a1.Lanes)) λx21=>match x21 with|(i19,i20)=>bif i3==1 then some (64,1) else some (i19,i20) else bif a1.Kind==21 then some (a1.Bits,1) else some (a1.Bits,a1.Lanes)) λx23=>match x23 with|(i5,i6)=>Az (l2.length+[(i5,i6)].length<=room) (some (.next (l2++[(i5,i6)],w64 (i3+1)))) else some (.done l2)
def Aah(a1:TOp):List AV:=[(Z5 a1.Bits),(Z5 a1.Lanes)]
def fN(l2:List KK):AV:=(wP l2 5003)
def kw:AV:=ym
def kv(a1:TOp):List AV:=[(Z5 a1.Kind),(Z5 a1.Bits),(Z5 a1.Lanes),(Z5 a1.Dst),(Z6 a1.Args),(.int .u64 a1.Imm)]
def sH(a1:TOp)(l2:List KK):List NR:=[(1,.row 70 (kv a1)),(5,.row 90 (Aah a1)),(5003,.tok 2 90 l2.length)]
def yC:List MQ:=[AA,(3,(AV.list 2 Bp ((0:Int),(0:Int)) ([]:List J8) (.own 5003))),(4,L9)]
def Hn(a1:TOp):Option qy:=
 (G9 a1).bind λx1=>bif !x1 then some [] else(Ac   (H1 a1) ([],0)).bind λx26=>some x26
variable{v21:List KK}
theorem Ya(h:Hn v6=some v21):sP 100 [(WD v6)] [] (wP v21 20000) [(20000,.tok 2 90 v21.length)]:=
 sG Tryz.func100 λΓ q=>gR q [1] [1] [(2,kw)] [] (c1 (Bz 2 Bp ((0:Int),(0:Int)))) (gR q La [1] [(3,kw)] [] (c1 (Bz 2 Bp ((0:Int),(0:Int)))) (tB h λx1 y1 h=>tT q [1,3,8] [1] [(Z2 x1)] (c1 (Nz y1)) (gC h (λh=>gR q [2] [] [(2,kw)] [] (c1 (Bz 2 Bp ((0:Int),(0:Int)))) (Qa (⟨[(2,kw)],[],[]⟩:St) (tS h (gK (e:=.ret) (H7 [(6002,20000)] (show Le Γ _ (Z67:St) from Le.trans (Bg (st':=⟨[(2,kw)],[],[]⟩) [2] [] q) (Le.trans (Ro (t:=2) (nm:=6002) (sz':=2) (λi=>Bp (([]:List J8).getD i ((0:Int),(0:Int)))) 90 rfl rfl (.inl ⟨rfl,rfl⟩) (λh_=>absurd h_ (by decide))) (Bg (st':=Z67) [2] [6002] q)))))))) λh=>Af q H3 [1] (gLe (st':=⟨yC,[(1,.row 70 (kv v6)),(5003,.tok 2 90 (([]:List J8).length))],[]⟩) (Le.trans (Bg (st':=⟨[AA,(3,kw),(4,L9)],[(1,.row 70 (kv v6))],[]⟩) H3 [1] q) (Le.trans (Ro (t:=3) (nm:=5003) (sz':=2) (λi=>Bp (([]:List J8).getD i ((0:Int),(0:Int)))) 90 rfl rfl (.inl ⟨rfl,rfl⟩) (λh_=>absurd h_ (by decide))) (Bg (st':=⟨yC,[(1,.row 70 (kv v6)),(5003,.tok 2 90 (([]:List J8).length))],[]⟩) H3 Ni q))) (tL q h H3 Ni (λu (l2,i3)=>(Cm u [(3,(fN l2)),(4,(Z5 i3))] [(5003,.tok 2 90 l2.length)])) (λu l4=>aG Γ (.exit 0) (⟨[(3,(wP l4 5003))],[(5003,.tok 2 90 l4.length)],[]⟩:St)) (λ⟨l2,i3⟩ y h=>Af q [1,3,4,13] Ni (gC h (λh=>Af q Jv Jw (tB h λx23 y23 h=>gJ y23 (λ(i5,i6)=>aG Γ .normal (⟨[AA,(3,(fN l2)),(4,(Z5 i3)),fA],[(1,.row 70 (kv v6)),(5,.row 90 [(Z5 i5),(Z5 i6)]),(5003,.tok 2 90 l2.length)],[]⟩:St)) (λy h=>Af q [1,3,4,5,22] Jw (tB h λx8 y8 h=>gJ y8 (λb7=>aG Γ .normal (⟨[AA,(3,(fN l2)),(4,(Z5 i3)),fA,(22,(Z5 v6.Kind)),(23,(.bool b7))],(sH v6 l2),[]⟩:St)) (λy h=>Af q [1,3,4,5,22,23] Jw (gC h (λh=>tS h (gK (Be H8))) λh=>Af q [1,3,4,5,22,23] Jw (tS h (gK (Be H8))))) (gA (gC h (λh=>Af q [1,3,4,5,27] Jw (gC h (λh=>Af q Jv Jw (tS h (gK (Be H8)))) λh=>tS h (gK (Be (Bg Jv Jw q))))) λh=>tB h λx11 y11 h=>gJ y11 (λb10=>aG Γ .normal (⟨[AA,(3,(fN l2)),(4,(Z5 i3)),fA,(22,(Z5 v6.Kind)),(29,(.bool b10))],(sH v6 l2),[]⟩:St)) (λy h=>Af q [1,3,4,5,22,29] Jw (gC h (λh=>tS h (gK (Be H8))) λh=>Af q [1,3,4,5,22,29] Jw (tS h (gK (Be H8))))) (gA (gC h (λh=>Af q Jv Jw (tS h (gK (Be H8)))) λh=>tB h λx14 y14 h=>gJ y14 (λb13=>aG Γ .normal (⟨[AA,(3,(fN l2)),(4,(Z5 i3)),fA,(22,(Z5 v6.Kind)),(36,(.bool b13))],(sH v6 l2),[]⟩:St)) (λy h=>Af q [1,3,4,5,22,36] Jw (gC h (λh=>tS h (gK (Be H8))) λh=>Af q [1,3,4,5,22,36] Jw (tS h (gK (Be H8))))) (gA (gC h (λh=>Af q [1,3,4,5,40] Jw (gC h (λh=>Af q Jv Jw (tS h (gK (Be H8)))) λh=>tS h (gK (Be (Bg Jv Jw q))))) λh=>tB h λx17 y17 h=>gJ y17 (λb16=>aG Γ .normal (⟨[AA,(3,(fN l2)),(4,(Z5 i3)),fA,(22,(Z5 v6.Kind)),(42,(.bool b16))],(sH v6 l2),[]⟩:St)) (λy h=>Af q [1,3,4,5,22,42] Jw (gC h (λh=>tS h (gK (Be H8))) λh=>Af q [1,3,4,5,22,42] Jw (tS h (gK (Be H8))))) (gA (gC h (λh=>tB h λx21 y21 h=>gJ y21 (λ(i19,i20)=>aG Γ .normal (⟨[AA,(3,(fN l2)),(4,(Z5 i3)),fA],[(1,.row 70 (kv v6)),(5,.row 90 [(Z5 i19),(Z5 i20)]),(5003,.tok 2 90 l2.length)],[]⟩:St)) (λy h=>Af q [1,3,4,5,46] Jw (gC h (λh=>Af q Jv Jw (tS h (gK (Be H8)))) λh=>tS h (gK (Be (Bg Jv Jw q))))) (match x21,h with|⟨i19,i20⟩,h=>gA (Af q [1,3,4,5,49] Jw (gC h (λh=>Af q Jv Jw (tS h (gK (Be H8)))) λh=>tS h (gK (Be (Bg Jv Jw q))))))) λh=>Af q [1,3,4,5,51] Jw (gC h (λh=>Af q Jv Jw (tS h (gK (Be H8)))) λh=>tS h (gK (Be (Bg Jv Jw q)))))))))))))) (match x23,h with|⟨i5,i6⟩,h=>gA (tC h λc25_ h=>gR q H3 Ni [(58,(AV.list 2 Bp ((0:Int),(0:Int)) ([(i5,i6)]:List J8) .exact)),(59,(AV.list 2 Bp ((0:Int),(0:Int)) (l2++([(i5,i6)]:List J8)) (.own 5003)))] [] (c5 (Bq 2 Bp ((0:Int),(0:Int)) ([(i5,i6)]:List J8)) (Eq.refl l2.length) c25_ (I7 2 5003 Bp ((0:Int),(0:Int)) l2 ([(i5,i6)]:List J8)) (E0 l2 ([(i5,i6)]:List J8))) (Af q H3 Ni (tN h)))))) λh=>tS h (gO (Be (Bg [3] [5003] q))))) λx26 h=>gA (Af q [2] [5003] (tS h (Ca br))))))))
abbrev q8:=(List D1×Int)
abbrev q9:=(LR (List D1×Int) (List D1))
def Gh(a0:TFunc)(i2:Int)(i7:Int):q8->Option q9:=
 λ(l10,i11)=>bif decide (i11<((a0.Blocks.getD i2.toNat default).Phis.getD i7.toNat default).Args.length) then Az (A1 i11 ((a0.Blocks.getD i2.toNat default).Phis.getD i7.toNat default).Args.length) (Az (A1 i11 ((a0.Blocks.getD i2.toNat default).Phis.getD i7.toNat default).From.length) (Az (l10.length+[(⟨((a0.Blocks.getD i2.toNat default).Phis.getD i7.toNat default).Args.getD i11.toNat 0,((a0.Blocks.getD i2.toNat default).Phis.getD i7.toNat default).From.getD i11.toNat 0,1000,(((a0.Blocks.getD i2.toNat default).Phis.getD i7.toNat default).Bits,1)⟩:D1)].length<=room) (some (.next (l10++[⟨((a0.Blocks.getD i2.toNat default).Phis.getD i7.toNat default).Args.getD i11.toNat 0,((a0.Blocks.getD i2.toNat default).Phis.getD i7.toNat default).From.getD i11.toNat 0,1000,(((a0.Blocks.getD i2.toNat default).Phis.getD i7.toNat default).Bits,1)⟩],w64 (i11+1)))))) else some (.done l10)
def Gi(a0:TFunc)(i2:Int):q8->Option q9:=
 λ(l6,i7)=>bif decide (i7<(a0.Blocks.getD i2.toNat default).Phis.length) then Az (A1 i7 (a0.Blocks.getD i2.toNat default).Phis.length) ((Ac   (Gh a0 i2 i7) (l6,0)).bind λx16=>some (.next (x16,w64 (i7+1)))) else some (.done l6)
def Gj(a0:TFunc)(i2:Int)(i21:Int)(x24:List KK):q8->Option q9:=
 λ(l25,i26)=>bif decide (i26<x24.length) then Az (A1 i21 (a0.Blocks.getD i2.toNat default).Ops.length) (Az (A1 i26 ((a0.Blocks.getD i2.toNat default).Ops.getD i21.toNat default).Args.length) (Az (A1 i26 x24.length) (Az (l25.length+[(⟨((a0.Blocks.getD i2.toNat default).Ops.getD i21.toNat default).Args.getD i26.toNat 0,i2,i21,x24.getD i26.toNat (0,0)⟩:D1)].length<=room) (some (.next (l25++[⟨((a0.Blocks.getD i2.toNat default).Ops.getD i21.toNat default).Args.getD i26.toNat 0,i2,i21,x24.getD i26.toNat (0,0)⟩],w64 (i26+1))))))) else some (.done l25)
def Gk(a0:TFunc)(i2:Int):q8->Option q9:=
 λ(l20,i21)=>bif decide (i21<(a0.Blocks.getD i2.toNat default).Ops.length) then Az (A1 i21 (a0.Blocks.getD i2.toNat default).Ops.length) ((Hn ((a0.Blocks.getD i2.toNat default).Ops.getD i21.toNat default)).bind λx24=>(Ac   (Gj a0 i2 i21 x24) (l20,0)).bind λx32=>some (.next (x32,w64 (i21+1)))) else some (.done l20)
def Iu(a0:TFunc):q8->Option q9:=
 λ(l1,i2)=>bif decide (i2<a0.Blocks.length) then Option.bind  (Az (A1 i2 a0.Blocks.length) ((Ac   (Gi a0 i2) (l1,0)).bind λx18=>(Ac   (Gk a0 i2) (x18,0)).bind λx34=>Option.bind  (bif (a0.Blocks.getD i2.toNat default).End.Kind==0 then Az (x34.length+[(⟨(a0.Blocks.getD i2.toNat default).End.Arg,i2,1000,(a0.Ret,1)⟩:D1)].length<=room) (some (x34++[⟨(a0.Blocks.getD i2.toNat default).End.Arg,i2,1000,(a0.Ret,1)⟩])) else some x34) λx38=>bif (a0.Blocks.getD i2.toNat default).End.Kind==2 then Az (x38.length+[(⟨(a0.Blocks.getD i2.toNat default).End.Arg,i2,1000,(1,1)⟩:D1)].length<=room) (some (x38++[⟨(a0.Blocks.getD i2.toNat default).End.Arg,i2,1000,(1,1)⟩])) else some x38)) λx41=>some (.next (x41,w64 (i2+1))) else some (.done l1)
def OS(a0:TFunc)(i2:Int):=(a0.Blocks.getD i2.toNat default)
def sM(a0:TFunc):List AV:=[(Z6 a0.Params),(Z5 a0.Ret),(OY a0.Blocks)]
def sL(a0:TFunc)(i2:Int):=([(⟨(OS a0 i2).End.Arg,i2,(1000:Int),(a0.Ret,(1:Int))⟩:D1)]:List D1)
def sK(a0:TFunc)(i2:Int):=([(⟨(OS a0 i2).End.Arg,i2,(1000:Int),((1:Int),(1:Int))⟩:D1)]:List D1)
def yD(a0:TFunc):=(⟨[AA,(3,(AV.list 5 O2 default ([]:List D1) (.own 5003))),(4,L9)],[(1,.row 25 (sM a0)),(5003,.tok 5 96 (([]:List D1).length))],[]⟩:St)
def sJ(a0:TFunc)(i2:Int)(i21:Int)(i26:Int)(x24:List KK):=([(⟨(((((OS a0 i2).Ops).getD i21.toNat default).Args).getD i26.toNat 0),i2,i21,(x24.getD i26.toNat ((0:Int),(0:Int)))⟩:D1)]:List D1)
def sI(a0:TFunc)(i2:Int)(i7:Int)(i11:Int):=([(⟨(((((OS a0 i2).Phis).getD i7.toNat default).Args).getD i11.toNat 0),(((((OS a0 i2).Phis).getD i7.toNat default).From).getD i11.toNat 0),(1000:Int),((((OS a0 i2).Phis).getD i7.toNat default).Bits,(1:Int))⟩:D1)]:List D1)
def Kv(a0:TFunc):Option (List D1):=
 (Ac   (Iu a0) ([],0)).bind λx43=>some x43
variable{v35:List D1}
theorem Zx(h:Kv v0=some v35):sP 57 [(Vn v0)] [] (AV.list 5 O2 default v35 (.own 20000)) [(Ln 20000 96 v35.length)]:=
 sG Tryz.func57 λΓ q=>gR q [1] [1] [(2,(AV.list 5 O2 default ([]:List D1) .exact))] [] (c1 (Bz 5 O2 (default:D1))) (gR q La [1] [(3,(AV.list 5 O2 default ([]:List D1) .exact))] [] (c1 (Bz 5 O2 (default:D1))) (Af q H3 [1] (gLe (st':=(yD v0)) (Le.trans (Bg (st':=⟨[AA,(3,(AV.list 5 O2 default ([]:List D1) .exact)),(4,L9)],[(1,.row 25 (sM v0))],[]⟩) H3 [1] q) (Le.trans (Ro (t:=3) (nm:=5003) (sz':=5) (λi=>O2 (([]:List D1).getD i default)) 96 rfl rfl (.inl ⟨rfl,rfl⟩) (λh_=>absurd h_ (by decide))) (Bg (st':=(yD v0)) H3 Ni q))) (tL q h H3 Ni (λu (l1,i2)=>(Cm u [(mv l1),(4,(Z5 i2))] [(Ln 5003 96 l1.length)])) (λu l3=>aG Γ (.exit 0) (⟨[(mv l3)],[(Ln 5003 96 l3.length)],[]⟩:St)) (λ⟨l1,i2⟩ y h=>Af q [1,3,4,16] Ni (gC h (λh=>tB h λx41 y41 h=>gJ y41 (λl4=>aG Γ .normal (⟨[AA,(mv l4),(4,(Z5 i2))],[(1,.row 25 (sM v0)),(Ln 5003 96 l4.length)],[]⟩:St)) (λy h=>tV q Jv Jw h λh=>Af q Sn Jw (tL q h Sn Jw (λu (l6,i7)=>(Cm u [(mv l6),(6,(Z5 i7))] [(Ln 5003 96 l6.length)])) (λu l8=>aG Γ (.exit 2) (Nb Jv Jw u [(mv l8)] [(Ln 5003 96 l8.length)])) (λ⟨l6,i7⟩ y h=>Af q [1,3,4,5,6,28] Jw (gC h (λh=>tV q [1,3,4,5,6,7] KY h λh=>Af q bm KY (tL q h bm KY (λu (l10,i11)=>(Cm u [(mv l10),(8,(Z5 i11))] [(Ln 5003 96 l10.length)])) (λu l12=>aG Γ (.exit 4) (Nb Sn Jw u [(mv l12)] [(Ln 5003 96 l12.length)])) (λ⟨l10,i11⟩ y h=>Af q [1,3,4,5,6,7,8,40] KY (gC h (λh=>tC h λc13_ h=>tC h λc14_ h=>tC h λc15_ h=>gR q bm KY (Z34 58 (sI v0 i2 i7 i11) 59 l10) [] (c7 c13_ c14_ (Bq 5 O2 (default:D1) (sI v0 i2 i7 i11)) (Eq.refl l10.length) c15_ (I7 5 5003 O2 (default:D1) l10 (sI v0 i2 i7 i11)) (E0 l10 (sI v0 i2 i7 i11))) (Af q bm KY (tN h))) λh=>tS h (gO (Be (Bg Sn Jw q))))) λx16 h=>gA (Af q Sn Jw (tN h)))) λh=>tS h (gO (Be (Bg Jv Jw q))))) λx18 h=>gA (Af q TR Jw (tL q h TR Jw (λu (l20,i21)=>(Cm u [(mv l20),(9,(Z5 i21))] [(Ln 5003 96 l20.length)])) (λu l22=>aG Γ (.exit 6) (Nb Jv Jw u [(mv l22)] [(Ln 5003 96 l22.length)])) (λ⟨l20,i21⟩ y h=>Af q [1,3,4,5,9,64] Jw (gC h (λh=>tC h λc23_ h=>tB h λx24 y24 h=>tT q [1,3,4,5,9,10] ZD [⟨[],[(20000,72)],(wP x24 20000),[(20000,.tok 2 90 x24.length)],[],[]⟩] (c2 c23_ (Ya y24)) (Af q bh ZD (tL q h bh ZD (λu (l25,i26)=>(Cm u [(mv l25),(11,(Z5 i26))] [(Ln 5003 96 l25.length)])) (λu l27=>aG Γ (.exit 8) (Nb TR Jw u [(mv l27)] [(Ln 5003 96 l27.length)])) (λ⟨l25,i26⟩ y h=>Af q [1,3,4,5,9,10,11,76] ZD (gC h (λh=>tC h λc28_ h=>tC h λc29_ h=>tC h λc30_ h=>tC h λc31_ h=>gR q bh ZD (Z34 96 (sJ v0 i2 i21 i26 x24) 97 l25) [] (c8 c28_ c29_ c30_ (Bq 5 O2 (default:D1) (sJ v0 i2 i21 i26 x24)) (Eq.refl l25.length) c31_ (I7 5 5003 O2 (default:D1) l25 (sJ v0 i2 i21 i26 x24)) (E0 l25 (sJ v0 i2 i21 i26 x24))) (Af q bh ZD (tN h))) λh=>tS h (gO (Be (Bg TR Jw q))))) λx32 h=>gA (Af q TR Jw (tN h))))) λh=>tS h (gO (Be (Bg Jv Jw q))))) λx34 h=>gA (tB h λx38 y38 h=>gJ y38 (λl36=>aG Γ .normal (⟨[AA,(mv l36),(4,(Z5 i2)),fA],[(1,.row 25 (sM v0)),(5,.row 64 [(AV.list 4 Ej default (OS v0 i2).Phis .none),(AV.list 6 Lm default (OS v0 i2).Ops .none),(.int .i64 (OS v0 i2).End.Kind),(.int .i64 (OS v0 i2).End.Arg),(AV.list 1 Aq 0 (OS v0 i2).End.To .none)]),(Ln 5003 96 l36.length)],[]⟩:St)) (λy h=>Af q [1,3,4,5,101] Jw (gC h (λh=>tC h λc37_ h=>gR q Jv Jw (Z34 111 (sL v0 i2) 112 x34) [] (c5 (Bq 5 O2 (default:D1) (sL v0 i2)) (Eq.refl x34.length) c37_ (I7 5 5003 O2 (default:D1) x34 (sL v0 i2)) (E0 x34 (sL v0 i2))) (tS h (gK (Be H8)))) λh=>tS h (gK (Be (Bg Jv Jw q))))) (gA (Af q [1,3,4,5,116] Jw (gC h (λh=>tC h λc40_ h=>gR q H3 Ni (Z34 124 (sK v0 i2) 125 x38) [] (c5 (Bq 5 O2 (default:D1) (sK v0 i2)) (Eq.refl x38.length) c40_ (I7 5 5003 O2 (default:D1) x38 (sK v0 i2)) (E0 x38 (sK v0 i2))) (tS h (gK (Be H8)))) λh=>tS h (gK (Be (Bg H3 Ni q))))))))))) (gA (Af q H3 Ni (tN h)))) λh=>tS h (gO (Be (Bg [3] [5003] q))))) λx43 h=>gA (Af q [2] [5003] (tS h (Ca br)))))))
def Il(a8:TGraph)(aE:TGraph):Int->Option (LR Int (Unit ⊕ Bool)):=
 λi1=>bif decide (i1<a8.Succ.length) then Az (A1 i1 a8.Succ.length) (Az (A1 i1 aE.Succ.length) ((Bb (a8.Succ.getD i1.toNat []) (aE.Succ.getD i1.toNat [])).bind λx4=>bif !x4 then some (.done (.inr false)) else some (.next (w64 (i1+1))))) else some (.done (.inl ()))
def Im(a8:TGraph)(aE:TGraph):Int->Option (LR Int (Unit ⊕ Bool)):=
 λi7=>bif decide (i7<a8.Pred.length) then Az (A1 i7 a8.Pred.length) (Az (A1 i7 aE.Pred.length) ((Bb (a8.Pred.getD i7.toNat []) (aE.Pred.getD i7.toNat [])).bind λx10=>bif !x10 then some (.done (.inr false)) else some (.next (w64 (i7+1))))) else some (.done (.inl ()))
def R9(Γ:H6)(a8:TGraph)(aE:TGraph)(r:Bool):Exit->St->Prop:=fK Tryz.prog Γ Tryz.f149.results.toList [] (.bool r) []
def Aai(a8:TGraph)(aE:TGraph):=(((a8.Succ.length:Int)!=(aE.Succ.length:Int))==false)
def Kr(a8:TGraph)(aE:TGraph):Option Bool:=
 bif bif (a8.Succ.length:Int)!=aE.Succ.length then true else(a8.Pred.length:Int)!=aE.Pred.length then some false else(Ac   (Il a8 aE) 0).bind λx5=>match x5 with | .inl _=>(Ac   (Im a8 aE) 0).bind λx11=>(match x11 with | .inl _=>some true | .inr r13=>some r13) | .inr r14=>some r14
variable{v36:TGraph}
theorem Zt(h:Kr v18 v36=some v3):sP 149 [(.agg (Xo v18)),(.agg (Xo v36))] [] (.bool v3) []:=
 sG Tryz.func149 λΓ q=>Af q Cy Cy (tU q [2,3,22] Cy (vC (Aai v18 v36) (c1 (L5 ((v18.Succ.length:Int)!=(v36.Succ.length:Int))))) (gC h (λh=>Af q [4] [] (tS h (Ca []))) λh=>Af q CM Cy (tL q h CM Cy (λu i1=>(Cm u [(5,(Z5 i1))] [])) (λu x_=>match x_ with|(.inl _)=>aG Γ (.exit 0) (Nb Cy Cy u [] [])|(.inr r_)=>aR (R9 Γ v18 v36 r_)) (λi1 y h=>Af q [2,3,5,27] Cy (gC h (λh=>tC h λc2_ h=>tC h λc3_ h=>tB h λx4 y4 h=>tT q [2,3,5,41] Cy [(Z2 x4)] (c3 c2_ c3_ (Ck y4)) (gC h (λh=>Af q [4] [] (tS h (gO (Lo (H7 [] (Le.refl _ _)))))) λh=>Af q CM Cy (tN h))) λh=>tS h (gO (Be (Bg Cy Cy q))))) λx5 h=>(match x5,h with | .inl _,h=>gA (Af q [2,3,6] Cy (tL q h [2,3,6] Cy (λu i7=>(Cm u [(6,(Z5 i7))] [])) (λu x_=>match x_ with|(.inl _)=>aG Γ (.exit 2) (⟨[],[],[]⟩:St)|(.inr r_)=>aR (R9 Γ v18 v36 r_)) (λi7 y h=>Af q [2,3,6,46] Cy (gC h (λh=>tC h λc8_ h=>tC h λc9_ h=>tB h λx10 y10 h=>tT q [2,3,6,60] Cy [(Z2 x10)] (c3 c8_ c9_ (Ck y10)) (gC h (λh=>Af q [4] [] (tS h (gO (Lo (H7 [] (Le.refl _ _)))))) λh=>Af q [2,3,6] Cy (tN h))) λh=>tS h (gO (Be (Bg [] [] q))))) λx11 h=>(match x11,h with | .inl _,h=>gA (Af q [4] [] (tS h (Ca []))) | .inr r13,h=>O3 (λst' hk=>tS h (gK hk))))) | .inr r14,h=>O3 (λst' hk=>tS h (gK hk))))))
def Lr(a4:TGraph):Option Bool:=
 (H5 a4.Succ).bind λx1=>(bif (x1.2==0)==true then Kr x1.1 a4 else some false).bind λx2=>some (bif x1.2==0 then x2 else false)
theorem BN(h:Lr v18=some v3):sP 101 [(.agg (Xo v18))] [] (.bool v3) []:=
 sG Tryz.func101 λΓ q=>Af q [1] [1] (tB h λx1 y1 h=>tT q H3 La [(xe x1.1 x1.2)] (c1 (Rj y1)) (tB h λx2 y2 h=>tT q [2] [] [(Z2 x2)] (Md ((x1.2==0)==true) (c2 (λ(hg:((x1.2==0)==true)=true)=>(Zt (A9 hg y2))) (Ml (x1.2==0)))) (tS h (Ca []))))
def Dg(a4:TGraph)(x2:List Bool)(i4:Int)(l5:List (List Bool))(x9:List Bool):bb->Option bc:=
 λ(i10,l11)=>bif decide (i10<a4.Succ.length) then Az (A1 i4 l5.length) (Az (A1 i10 x2.length) (Az ((x2.getD i10.toNat false==true)=true->A1 i10 x9.length) (Az (A1 i10 l11.length) (some (.next (w64 (i10+1),l11.set i10.toNat (bif x2.getD i10.toNat false then !x9.getD i10.toNat false else false))))))) else some (.done l11)
def In(a4:TGraph)(a2:Int)(x2:List Bool):(Int×List (List Bool))->Option (LR (Int×List (List Bool)) (List (List Bool))):=
 λ(i4,l5)=>bif decide (i4<a4.Succ.length) then Az (0<=(a4.Succ.length:Int)/\a4.Succ.length<=(a4.Succ.length:Int)/\a4.Succ.length<=(room:Int)) (Az (A1 i4 l5.length) ((Da a4 a2 i4).bind λx9=>(Ac   (Dg a4 x2 i4 l5 x9) (0,List.replicate (a4.Succ.length:Int).toNat false)).bind λx17=>some (.next (w64 (i4+1),l5.set i4.toNat x17)))) else some (.done l5)
def Dh(a4:TGraph)(l6:List (List Bool))(i22:Int)(i30:Int):(Bool×Int)->Option (LR (Bool×Int) Bool):=
 λ(b36,i37)=>bif decide (i37<a4.Succ.length) then Az ((b36==true&&(i37==i22)==false)=true->A1 i37 l6.length) (Az ((b36==true&&(i37==i22)==false)=true->A1 i22 (l6.getD i37.toNat []).length) (Az ((b36==true&&(bif i37==i22 then true else !(l6.getD i37.toNat []).getD i22.toNat false)==false)=true->A1 i37 l6.length) (Az ((b36==true&&(bif i37==i22 then true else !(l6.getD i37.toNat []).getD i22.toNat false)==false)=true->A1 i30 (l6.getD i37.toNat []).length) (some (.next (bif b36 then bif bif i37==i22 then true else !(l6.getD i37.toNat []).getD i22.toNat false then true else(l6.getD i37.toNat []).getD i30.toNat false else false,w64 (i37+1))))))) else some (.done b36)
def B2(a4:TGraph)(a2:Int)(l6:List (List Bool))(i22:Int):eg->Option qx:=
 λ(i30,l31)=>bif bif decide (i30<a4.Succ.length) then i22 !=a2 else false then Option.bind  (Az (((i30==i22)==false)=true->A1 i30 l6.length) (Az (((i30==i22)==false)=true->A1 i22 (l6.getD i30.toNat []).length) (bif bif i30==i22 then true else !(l6.getD i30.toNat []).getD i22.toNat false then some l31 else(Ac   (Dh a4 l6 i22 i30) (true,0)).bind λx43=>bif x43 then Az (A1 i22 l31.length) (some (l31.set i22.toNat i30)) else some l31))) λx46=>some (.next (w64 (i30+1),x46)) else some (.done l31)
def Di(a4:TGraph)(a2:Int)(l6:List (List Bool)):eg->Option qx:=
 λ(i22,l23)=>bif decide (i22<a4.Succ.length) then Az (A1 i22 l23.length) (Option.bind  (bif i22==a2 then Az (A1 i22 (l23.set i22.toNat (-2)).length) (some ((l23.set i22.toNat (-2)).set i22.toNat (-1))) else some (l23.set i22.toNat (-2))) λx28=>(Ac   (B2 a4 a2 l6 i22) (0,x28)).bind λx48=>some (.next (w64 (i22+1),x48))) else some (.done l23)
def P7(a4:TGraph):=(a4.Succ.length:Int)
def fQ:=(λn_=>Bv n_ [37,75])
def P6(l5:List (List Bool)):=(λi=>aa (l5.getD i []))
def OT(a4:TGraph):=(List.replicate (P7 a4).toNat false)
def cI(a4:TGraph):List AV:=[(.vsl 46 (OT a4).length)]
def nW(i30:Int)(i22:Int):=((i30==i22)==false)
def UV(l23:Ax)(i22:Int):=(l23.set i22.toNat (-2:Int))
def k5(l11:List Bool):=(λi=>eB (l11.getD i false))
def kz:=(λn_=>Bv n_ [2,35,37,46])
def OU:=(λn_=>Bv n_ [2,35,37,46,51])
def UU(a4:TGraph):=(λi=>eB ((OT a4).getD i false))
def NE(l11:List Bool)(i10:Int)(x2:List Bool)(x9:List Bool):=(l11.set i10.toNat (bif (x2.getD i10.toNat false) then(!(x9.getD i10.toNat false)) else false))
def fP(l11:List Bool)(i10:Int)(x2:List Bool)(x9:List Bool):=(λi=>eB ((NE l11 i10 x2 x9).getD i false))
def ky(b36:Bool)(i37:Int)(i22:Int):=((b36==true)&&((i37==i22)==false))
def sS:List MQ:=[(4,fU)]
def yE(x1:Bool)(a2:Int):=(bif (!x1) then true else(decide (a2<0)))
def Qc(a4:TGraph):List AV:=[(NU a4.Succ),(NU a4.Pred)]
def yF:=(Z33:St)
def kx(b36:Bool)(i37:Int)(i22:Int)(x19:List (List Bool)):=((b36==true)&&((bif (i37==i22) then true else(!((x19.getD i37.toNat []).getD i22.toNat false)))==false))
def fO(a2:Int)(a4:TGraph)(x2:List Bool)(l5:List (List Bool))(i4:Int):List MQ:=[(1,(Z5 a2)),Uj,(5,(Z5 (P7 a4))),(6,(NT x2 35)),(Vo 37 l5.length),(8,(Z5 i4))]
def sR(a2:Int)(a4:TGraph)(x2:List Bool)(l5:List (List Bool))(i4:Int):List MQ:=[(1,(Z5 a2)),Uj,(5,(Z5 (P7 a4))),(6,(NT x2 35)),(Vo 37 l5.length),(8,(.int .i64 (w64 (i4+1))))]
def sQ(a2:Int)(a4:TGraph)(x2:List Bool)(l5:List (List Bool))(i4:Int)(x9:List Bool)(i10:Int):List MQ:=[(1,(Z5 a2)),Uj,(5,(Z5 (P7 a4))),(6,(NT x2 35)),(Vo 37 l5.length),(8,(Z5 i4)),(9,(NT x9 51)),(10,(Z5 i10))]
def nV(a2:Int)(a4:TGraph)(x2:List Bool)(l5:List (List Bool))(i4:Int)(x9:List Bool):List MQ:=[(1,(Z5 a2)),Uj,(5,(Z5 (P7 a4))),(6,(NT x2 35)),(Vo 37 l5.length),(8,(Z5 i4)),(9,(NT x9 51)),(10,L9)]
def sO(a2:Int)(a4:TGraph)(x2:List Bool)(l5:List (List Bool))(i4:Int)(x9:List Bool)(i10:Int):List MQ:=[(1,(Z5 a2)),Uj,(5,(Z5 (P7 a4))),(6,(NT x2 35)),(Vo 37 l5.length),(8,(Z5 i4)),(9,(NT x9 51)),(10,(.int .i64 (w64 (i10+1))))]
def yG(a2:Int)(a4:TGraph)(x2:List Bool)(l5:List (List Bool))(i4:Int)(x9:List Bool)(i10:Int):List MQ:=[(1,(Z5 a2)),Uj,(5,(Z5 (P7 a4))),(6,(NT x2 35)),(Vo 37 l5.length),(8,(Z5 i4)),(9,(NT x9 51)),(10,(Z5 i10)),(54,(.bool (decide (i10<(P7 a4)))))]
def Kt(a4:TGraph)(a2:Int):Option Ax:=
 (Lr a4).bind λx1=>bif bif bif !x1 then true else decide (a2<0) then true else decide (a4.Succ.length<=a2) then some [] else(Da a4 a2 (-1)).bind λx2=>Az (0<=(a4.Succ.length:Int)/\a4.Succ.length<=(a4.Succ.length:Int)/\a4.Succ.length<=(room:Int)) ((Ac   (In a4 a2 x2) (0,List.replicate (a4.Succ.length:Int).toNat [])).bind λx19=>Az (0<=(a4.Succ.length:Int)/\a4.Succ.length<=(a4.Succ.length:Int)/\(a4.Succ.length:Int)<=room) ((Ac   (Di a4 a2 x19) (0,List.replicate (a4.Succ.length:Int).toNat 0)).bind λx50=>some x50))
theorem Zv(h:Kt v18 v1=some v2):sP 58 (rf v18 v1) [] (Wa v2 20000) [(Yu 20000 v2.length)]:=
 sG Tryz.func58 λΓ q=>have hΓ:=q.own;gR q Ea [2] sS [] (c1 (Bz 1 Aq (0:Int))) (tB h λx1 y1 h=>tT q [1,2,29] [2] [(Z2 x1)] (UN (BN y1) (gI ((!x1)==false)) (L5 (!x1)) (LO ((yE x1 v1)==false) (c1 (L5 (yE x1 v1))))) (gC h (λh=>gR q [4] [] sS [] (c1 (Bz 1 Aq (0:Int))) (Qa (⟨sS,[],[]⟩:St) (tS h (gK (e:=.ret) (H7 bo (show Le Γ _ yF from Le.trans (Bg (st':=⟨sS,[],[]⟩) [4] [] q) (Le.trans (Ro (t:=4) (nm:=6004) (sz':=1) (λi=>Aq (([]:Ax).getD i 0)) 3 rfl rfl (.inl ⟨rfl,rfl⟩) (λh_=>absurd h_ (by decide))) (Bg (st':=yF) [4] [6004] q)))))))) λh=>Af q V6 [2] (tB h λx2 y2 h=>tT q [1,2,5,6] [2,35] [(xd 35 x2 x2.length)] (c1 (Mj y2)) (tV q il LB h λh=>by exact gLe (Le.trans (Sq 37 (show ∀ k_,k_<((P7 v18).toNat)->AVleL ((λi_=>AV.eraseAll (λn_=>Bv n_ LB) ((λ_=>[Z0]) i_)) k_) ((λi=>aa ((List.replicate (P7 v18).toNat ([]:List Bool)).getD i [])) k_) from(λk hk=>M9 (e:=aa) (d:=[]) (.cons (λ_ _ _ _ _ hh=>AVle.untag _ _ _ _ _ (Eh _ _ _ _ _ hh)) .nil) _ k (Na hk)))) (Sc (λ(k_:Nat) u=>(Cm u [(Vo 37 k_)] [(37,.arr 1 81 k_ (λi=>aa ((List.replicate (P7 v18).toNat ([]:List Bool)).getD i [])))])) (show(P7 v18).toNat=(List.replicate (P7 v18).toNat ([]:List Bool)).length from(Oa ..).symm))) (Af q ZB LB (tL q h ZB LB (λu (i4,l5)=>(Cm u [(Vo 37 l5.length),(8,(Z5 i4))] [(37,.arr 1 81 l5.length (P6 l5))])) (λu l6=>aG Γ (.exit 0) (Nb [1,5,7] [37] u [(Vo 37 l6.length)] [(37,.arr 1 81 l6.length (λi=>aa (l6.getD i [])))])) (λ⟨i4,l5⟩ y h=>Af q [1,2,5,6,7,8,40] LB (gC h (λh=>tC h λc7_ h=>tC h λc8_ h=>tU q ZB iv (c3 c7_ c8_ (Eq.refl l5.length)) (Qa (⟨(fO v1 v18 x2 l5 i4),[(Pt 56 (Qc v18)),(Rd 35 x2.length),(37,.arr 1 81 l5.length (λi_=>AV.eraseAll kz ((Fa (P6 l5) i4.toNat 0 [(.vsl 46 (P7 v18).toNat)]) i_))),(46,.arr 1 4 ((P7 v18).toNat) (λi_=>AV.eraseAll kz ((λ_=>[(.bool false)]) i_)))],[]⟩:St) (by exact gLe (Le.trans (Le.trans (Jc (st':=⟨(fO v1 v18 x2 l5 i4),[(Pt 56 (Qc v18)),(Rd 35 x2.length),(37,.arr 1 81 l5.length (λi_=>AV.eraseAll kz ((Fa (P6 l5) i4.toNat 0 [(.vsl 46 (P7 v18).toNat)]) i_))),(46,.arr 1 4 ((P7 v18).toNat) (UU v18))],[]⟩) (TmpsLe.refl _) (.same (.same (.same (.arr (λk hk=>M9 (e:=eB) (d:=false) (.cons (AVle.refl _) .nil) _ k (Na hk)) .nil))))) (Gt (Bi (λk_:Nat=>(⟨(fO v1 v18 x2 l5 i4),[(Pt 56 (Qc v18)),(Rd 35 x2.length),(wO l5.length kz (P6 l5) i4.toNat k_),(46,.arr 1 4 k_ (UU v18))],[]⟩:St)) (show(P7 v18).toNat=(OT v18).length from(Oa ..).symm)))) (Jc (st':=⟨(fO v1 v18 x2 l5 i4),[(Pt 56 (Qc v18)),(Rd 35 x2.length),(37,.arr 1 81 l5.length (Fa (P6 l5) i4.toNat 0 (cI v18))),(46,.arr 1 4 ((OT v18).length) (UU v18))],[]⟩) (TmpsLe.refl _) (.same (.same (.arr (Mx (λ_=>rfl) rfl) (.same .nil)))))) (tB h λx9 y9 h=>tT q [1,2,5,6,7,8,9] UJ [(xd 51 x9 x9.length)] (c1 (Mj y9)) (Qa (⟨[(1,(Z5 v1)),Uj,(5,(Z5 (P7 v18))),(6,(NT x2 35)),(Vo 37 l5.length),(8,(Z5 i4)),(9,(NT x9 51))],[(Pt 56 (Qc v18)),(Rd 35 x2.length),(37,.arr 1 81 l5.length (λi_=>AV.eraseAll OU ((Fa (P6 l5) i4.toNat 0 (cI v18)) i_))),(46,.arr 1 4 ((OT v18).length) (UU v18)),(Rd 51 x9.length)],[]⟩:St) (gLe (Jc (st':=⟨[(1,(Z5 v1)),Uj,(5,(Z5 (P7 v18))),(6,(NT x2 35)),(Vo 37 l5.length),(8,(Z5 i4)),(9,(NT x9 51))],[(Pt 56 (Qc v18)),(Rd 35 x2.length),(37,.arr 1 81 l5.length (Fa (P6 l5) i4.toNat 0 (cI v18))),(46,.arr 1 4 ((OT v18).length) (UU v18)),(Rd 51 x9.length)],[]⟩) (TmpsLe.refl _) (.same (.same (.arr (Mx (λ_=>rfl) rfl) (.same (.same .nil)))))) (Af q en UJ (Qa (⟨(nV v1 v18 x2 l5 i4 x9),[(Pt 56 (Qc v18)),(Rd 35 x2.length),(37,.arr 1 81 l5.length (λi_=>AV.eraseAll OU ((Fa (P6 l5) i4.toNat 0 (cI v18)) i_))),(46,.arr 1 4 ((OT v18).length) (UU v18)),(Rd 51 x9.length)],[]⟩:St) (gLe (Jc (st':=⟨(nV v1 v18 x2 l5 i4 x9),[(Pt 56 (Qc v18)),(Rd 35 x2.length),(37,.arr 1 81 l5.length (Fa (P6 l5) i4.toNat 0 (cI v18))),(46,.arr 1 4 ((OT v18).length) (UU v18)),(Rd 51 x9.length)],[]⟩) (TmpsLe.refl _) (.same (.same (.arr (Mx (λ_=>rfl) rfl) (.same (.same .nil)))))) (gLe (st':=⟨(nV v1 v18 x2 l5 i4 x9),[(Pt 56 (Qc v18)),(Rd 35 x2.length),(37,.arr 1 81 l5.length (Fa (P6 l5) i4.toNat 0 (cI v18))),(46,.arr 1 4 ((OT v18).length) (UU v18)),(Rd 51 x9.length)],[]⟩) (Le.trans (Le.trans (Bg (st':=⟨(nV v1 v18 x2 l5 i4 x9),[(Pt 56 (Qc v18)),(Rd 35 x2.length),(37,.arr 1 81 l5.length (λi_=>AV.eraseAll OU ((Fa (P6 l5) i4.toNat 0 (cI v18)) i_))),(46,.arr 1 4 ((OT v18).length) (UU v18)),(Rd 51 x9.length)],[]⟩) en UJ q) (Jc (st':=⟨(nV v1 v18 x2 l5 i4 x9),[(Pt 56 (Qc v18)),(Rd 35 x2.length),(37,.arr 1 81 l5.length (Fa (P6 l5) i4.toNat 0 (cI v18))),(46,.arr 1 4 ((OT v18).length) (UU v18)),(Rd 51 x9.length)],[]⟩) (TmpsLe.refl _) (.same (.same (.arr (Mx (λ_=>rfl) rfl) (.same (.same .nil))))))) (Gt (by kernel_rfl))) (tB h λx17 y17 h=>gL0 y17 (λu (i10,l11)=>(Cm u [(10,(Z5 i10))] [(yu l5.length (P6 l5) i4.toNat l11.length),(46,.arr 1 4 l11.length (k5 l11))])) (λu l12=>aG Γ (.exit 2) (⟨(fO v1 v18 x2 l5 i4),[(Pt 56 (Qc v18)),(Rd 35 x2.length),(yu l5.length (P6 l5) i4.toNat l12.length),(Z9 46 l12)],[]⟩:St)) (λ⟨i10,l11⟩ y h=>Af q [1,2,5,6,7,8,9,10,54] UJ (Qa (⟨(yG v1 v18 x2 l5 i4 x9 i10),[(Pt 56 (Qc v18)),(Rd 35 x2.length),(wO l5.length OU (P6 l5) i4.toNat l11.length),(46,.arr 1 4 l11.length (k5 l11)),(Rd 51 x9.length)],[]⟩:St) (gLe (Jc (st':=⟨(yG v1 v18 x2 l5 i4 x9 i10),[(Pt 56 (Qc v18)),(Rd 35 x2.length),(yu l5.length (P6 l5) i4.toNat l11.length),(46,.arr 1 4 l11.length (k5 l11)),(Rd 51 x9.length)],[]⟩) (TmpsLe.refl _) (.same (.same (.arr (Mx (λ_=>rfl) rfl) (.same (.same .nil)))))) (gC h (λh=>tC h λc13_ h=>tC h λc14_ h=>tC h λc15_ h=>tC h λc16_ h=>gR q en UJ [(60,(.vsl 46 l11.length))] [] (d4_ c13_ (Eq.refl l5.length) (show(AVle (((Fa (P6 l5) i4.toNat 0 [(.vsl 46 l11.length)]) i4.toNat).getD 0 .any) (.vsl 46 l11.length)) from lm) c14_ (Md ((x2.getD i10.toNat false)==true) (ci c15_ (Md ((x2.getD i10.toNat false)==true) (c3 (Ml (x2.getD i10.toNat false)) c16_ (Eq.refl l11.length)))))) (Qa (⟨(sQ v1 v18 x2 l5 i4 x9 i10),[(Pt 56 (Qc v18)),(Rd 35 x2.length),(wO l5.length OU (P6 l5) i4.toNat l11.length),(46,.arr 1 4 l11.length (λi_=>AV.eraseAll OU ((Fa (k5 l11) i10.toNat 0 [(.bool (bif (x2.getD i10.toNat false) then(!(x9.getD i10.toNat false)) else false))]) i_))),(Rd 51 x9.length)],[]⟩:St) (gLe (Le.trans (Le.trans (Jc (st':=⟨(sQ v1 v18 x2 l5 i4 x9 i10),[(Pt 56 (Qc v18)),(Rd 35 x2.length),(wO l5.length OU (P6 l5) i4.toNat l11.length),(46,.arr 1 4 l11.length (fP l11 i10 x2 x9)),(Rd 51 x9.length)],[]⟩) (TmpsLe.refl _) (.same (.same (.same (.arr (Bh (Db ..).symm (λk_ hk_=>(Bi (AV.eraseAll OU) ((Fs (λ_ _=>rfl) (Hx c16_) rfl) k_ hk_)).trans rfl)) (.same .nil)))))) (Gt (Bi (λk_:Nat=>(⟨(sQ v1 v18 x2 l5 i4 x9 i10),[(Pt 56 (Qc v18)),(Rd 35 x2.length),(wO l5.length OU (P6 l5) i4.toNat k_),(46,.arr 1 4 k_ (fP l11 i10 x2 x9)),(Rd 51 x9.length)],[]⟩:St)) (show l11.length=(NE l11 i10 x2 x9).length from(Db ..).symm)))) (Jc (st':=⟨(sQ v1 v18 x2 l5 i4 x9 i10),[(Pt 56 (Qc v18)),(Rd 35 x2.length),(37,.arr 1 81 l5.length (Fa (P6 l5) i4.toNat 0 [(.vsl 46 (NE l11 i10 x2 x9).length)])),(46,.arr 1 4 ((NE l11 i10 x2 x9).length) (fP l11 i10 x2 x9)),(Rd 51 x9.length)],[]⟩) (TmpsLe.refl _) (.same (.same (.arr (Mx (λ_=>rfl) rfl) (.same (.same .nil))))))) (Af q en UJ (Qa (⟨(sO v1 v18 x2 l5 i4 x9 i10),[(Pt 56 (Qc v18)),(Rd 35 x2.length),(37,.arr 1 81 l5.length (λi_=>AV.eraseAll OU ((Fa (P6 l5) i4.toNat 0 [(.vsl 46 (NE l11 i10 x2 x9).length)]) i_))),(46,.arr 1 4 ((NE l11 i10 x2 x9).length) (fP l11 i10 x2 x9)),(Rd 51 x9.length)],[]⟩:St) (tS h (gN (Le.trans (Jc (st':=⟨(sO v1 v18 x2 l5 i4 x9 i10),[(Pt 56 (Qc v18)),(Rd 35 x2.length),(37,.arr 1 81 l5.length (Fa (P6 l5) i4.toNat 0 [(.vsl 46 (NE l11 i10 x2 x9).length)])),(46,.arr 1 4 ((NE l11 i10 x2 x9).length) (fP l11 i10 x2 x9)),(Rd 51 x9.length)],[]⟩) (TmpsLe.refl _) (.same (.same (.arr (Mx (λ_=>rfl) rfl) (.same (.same .nil)))))) (Le.trans (Le.trans (Bg (st':=⟨(sO v1 v18 x2 l5 i4 x9 i10),[(Pt 56 (Qc v18)),(Rd 35 x2.length),(37,.arr 1 81 l5.length (λi_=>AV.eraseAll OU ((Fa (P6 l5) i4.toNat 0 [(.vsl 46 (NE l11 i10 x2 x9).length)]) i_))),(46,.arr 1 4 ((NE l11 i10 x2 x9).length) (fP l11 i10 x2 x9)),(Rd 51 x9.length)],[]⟩) en UJ q) (Jc (st':=⟨(sO v1 v18 x2 l5 i4 x9 i10),[(Pt 56 (Qc v18)),(Rd 35 x2.length),(37,.arr 1 81 l5.length (Fa (P6 l5) i4.toNat 0 [(.vsl 46 (NE l11 i10 x2 x9).length)])),(46,.arr 1 4 ((NE l11 i10 x2 x9).length) (fP l11 i10 x2 x9)),(Rd 51 x9.length)],[]⟩) (TmpsLe.refl _) (.same (.same (.arr (Mx (λ_=>rfl) rfl) (.same (.same .nil))))))) (Gt (by kernel_rfl))))))))))) λh=>tS h (gO (Be (Le.trans (Le.trans (Bg (st':=⟨(fO v1 v18 x2 l5 i4),[(Pt 56 (Qc v18)),(Rd 35 x2.length),(wO l5.length kz (P6 l5) i4.toNat l11.length),(46,.arr 1 4 l11.length (k5 l11))],[]⟩) ZB iv q) (Jc (st':=⟨(fO v1 v18 x2 l5 i4),[(Pt 56 (Qc v18)),(Rd 35 x2.length),(yu l5.length (P6 l5) i4.toNat l11.length),(46,.arr 1 4 l11.length (k5 l11))],[]⟩) (TmpsLe.refl _) (.same (.same (.arr (Mx (λ_=>rfl) rfl) (.same .nil)))))) (Gt (by kernel_rfl))))))))) (gA (Af q ZB iv (Qa (⟨(sR v1 v18 x2 l5 i4),[(Pt 56 (Qc v18)),(Rd 35 x2.length),(wO l5.length kz (P6 l5) i4.toNat x17.length),(Z9 46 x17)],[]⟩:St) (tS h (gN (Le.trans (Le.trans (Jc (st':=⟨(sR v1 v18 x2 l5 i4),[(Pt 56 (Qc v18)),(Rd 35 x2.length),(yu l5.length (P6 l5) i4.toNat x17.length),(Z9 46 x17)],[]⟩) (TmpsLe.refl _) (.same (.same (.arr (Mx (λ_=>rfl) rfl) (.same .nil))))) (Le.trans (Le.trans (Le.trans (le_freeze (nm:=46) (sz:=1) (n:=x17.length) (e:=4) (f:=(λi=>eB (x17.getD i false))) (g:=(λi=>eB (x17.getD i false))) rfl trivial (λ_ _=>rfl) (by rw[hΓ];rfl)) (Gt (st':=⟨(sR v1 v18 x2 l5 i4),[(Pt 56 (Qc v18)),(Rd 35 x2.length),(37,.arr 1 81 l5.length (λi_=>AV.frwAll 46 1 x17.length (λi=>eB (x17.getD i false)) ((Fa (P6 l5) i4.toNat 0 [(.vsl 46 x17.length)]) i_))),(Rd 46 x17.length)],[]⟩) (by kernel_rfl))) (Jc (st':=⟨(sR v1 v18 x2 l5 i4),[(Pt 56 (Qc v18)),(Rd 35 x2.length),(37,.arr 1 81 l5.length (λi=>aa ((l5.set i4.toNat x17).getD i []))),(Rd 46 x17.length)],[]⟩) (TmpsLe.refl _) (.same (.same (.arr (pf (λ_=>rfl) (λ_=>rfl) rfl) (.same .nil)))))) (Gt (Bi (λk_:Nat=>(⟨[(1,(Z5 v1)),Uj,(5,(Z5 (P7 v18))),(6,(NT x2 35)),(Vo 37 k_),(8,(.int .i64 (w64 (i4+1))))],[(Pt 56 (Qc v18)),(Rd 35 x2.length),(37,.arr 1 81 k_ (λi=>aa ((l5.set i4.toNat x17).getD i []))),(Rd 46 x17.length)],[]⟩:St)) (show l5.length=(l5.set i4.toNat x17).length from(Db ..).symm))))) (Bg ZB LB q)))))))))))))))))) λh=>tS h (gO (Be (Bg [1,5,7] [37] q))))) λx19 h=>gA (tV q [1,5,7,11] Ll h λh=>by exact gLe (Le.trans (Sq 75 (show ∀ k_,k_<((P7 v18).toNat)->AVleL ((λi_=>AV.eraseAll fQ ((λ_=>[L9]) i_)) k_) ((λi=>Aq ((List.replicate (P7 v18).toNat (0:Int)).getD i 0)) k_) from(λk hk=>M9 (e:=Aq) (d:=(0:Int)) (.cons (AVle.refl _) .nil) _ k (Na hk)))) (Sc (λ(k_:Nat) u=>(Cm u [(11,(.vsl 75 k_))] [(75,.arr 1 3 k_ (λi=>Aq ((List.replicate (P7 v18).toNat (0:Int)).getD i 0)))])) (show(P7 v18).toNat=(List.replicate (P7 v18).toNat (0:Int)).length from(Oa ..).symm))) (Af q MX Ll (tL q h MX Ll (λu (i22,l23)=>(Cm u [(11,(.vsl 75 l23.length)),(12,(Z5 i22))] [(Z4 75 l23)])) (λu l24=>aG Γ (.exit 4) (⟨[(11,(.vsl 75 l24.length))],[(Z4 75 l24)],[]⟩:St)) (λ⟨i22,l23⟩ y h=>Af q [1,5,7,11,12,78] Ll (gC h (λh=>tC h λc25_ h=>tU q MX Ll (c2 c25_ (Eq.refl l23.length)) (gLe (Le.trans (Sq 75 (show ∀ k_,k_<l23.length->AVleL ((λi_=>AV.eraseAll fQ ((Fa (λi=>Aq (l23.getD i 0)) i22.toNat 0 [(.int .i64 (-2:Int))]) i_)) k_) ((λi=>Aq ((UV l23 i22).getD i 0)) k_) from(Bh (Db ..).symm (λk_ hk_=>(Bi (AV.eraseAll fQ) ((Fs (λ_ _=>rfl) (Hx c25_) rfl) k_ hk_)).trans rfl)))) (Sc (λ(k_:Nat) u=>(Cm u [(11,(.vsl 75 k_))] [(75,.arr 1 3 k_ (λi=>Aq ((UV l23 i22).getD i 0)))])) (show l23.length=(UV l23 i22).length from(Db ..).symm))) (tB h λx28 y28 h=>gJ y28 (λl26=>aG Γ .normal (⟨[(1,(Z5 v1)),(5,(Z5 (P7 v18))),(Vo 37 x19.length),(11,(.vsl 75 l26.length)),(12,(Z5 i22))],[(37,.arr 1 81 x19.length (λi=>aa (x19.getD i []))),(Z4 75 l26)],[]⟩:St)) (λy h=>Af q [1,5,7,11,12,86] Ll (gC h (λh=>tC h λc27_ h=>tU q MX Ll (c2 c27_ (Eq.refl ((UV l23 i22).length))) (tS h (gK (Be (Le.trans (Le.trans (Sq 75 (show ∀ k_,k_<((UV l23 i22).length)->AVleL ((λi_=>AV.eraseAll fQ ((Fa (λi=>Aq ((UV l23 i22).getD i 0)) i22.toNat 0 [(.int .i64 (-1:Int))]) i_)) k_) ((λi=>Aq (((UV l23 i22).set i22.toNat (-1:Int)).getD i 0)) k_) from(Bh (Db ..).symm (λk_ hk_=>(Bi (AV.eraseAll fQ) ((Fs (λ_ _=>rfl) (Hx c27_) rfl) k_ hk_)).trans rfl)))) (Sc (λ(k_:Nat) u=>(Cm u [(11,(.vsl 75 k_))] [(75,.arr 1 3 k_ (λi=>Aq (((UV l23 i22).set i22.toNat (-1:Int)).getD i 0)))])) (show(UV l23 i22).length=((UV l23 i22).set i22.toNat (-1:Int)).length from(Db ..).symm))) H8))))) λh=>tS h (gK (Be (Bg MX Ll q))))) (gA (Af q YY Ll (tL q h YY Ll (λu (i30,l31)=>(Cm u [(11,(.vsl 75 l31.length)),(13,(Z5 i30))] [(Z4 75 l31)])) (λu l32=>aG Γ (.exit 6) (Nb MX Ll u [(11,(.vsl 75 l32.length))] [(Z4 75 l32)])) (λ⟨i30,l31⟩ y h=>tU q [1,5,7,11,12,13,97] Ll (Md ((decide (i30<(P7 v18)))==true) (c1 (Ml (decide (i30<(P7 v18)))))) (gC h (λh=>tB h λx46 y46 h=>gJ y46 (λl33=>aG Γ .normal (⟨[(1,(Z5 v1)),(5,(Z5 (P7 v18))),(Vo 37 x19.length),(11,(.vsl 75 l33.length)),(12,(Z5 i22)),(13,(Z5 i30))],[(37,.arr 1 81 x19.length (λi=>aa (x19.getD i []))),(Z4 75 l33)],[]⟩:St)) (λy h=>tC h λc34_ h=>tC h λc35_ h=>tU q [1,5,7,11,12,13,112] Ll (Md (nW i30 i22) (UN c34_ (gI (nW i30 i22)) (show((nW i30 i22)=true->(x19.length=x19.length)) from(λhg=>rfl)) (Md (nW i30 i22) (ci c35_ (Md (nW i30 i22) (c1 (L5 (i30==i22)))))))) (gC h (λh=>tS h (gK (Be (Bg YY Ll q)))) λh=>tW q iS Ll kd Ll (tL q h kd Ll (λu (b36,i37)=>(Cm u [(14,(.bool b36)),(15,(Z5 i37))] [])) (λu b38=>aG Γ (.exit 8) (Nb iS Ll u [(14,(.bool b38))] [])) (λ⟨b36,i37⟩ y h=>Af q [1,5,7,11,12,13,14,15,115] Ll (gC h (λh=>tC h λc39_ h=>tC h λc40_ h=>tC h λc41_ h=>tC h λc42_ h=>tU q kd Ll (Yy (b36==true) (Md (ky b36 i37 i22) (UN c39_ (gI (ky b36 i37 i22)) (show((ky b36 i37 i22)=true->(x19.length=x19.length)) from(λhg=>rfl)) (Md (ky b36 i37 i22) (ci c40_ (Md (ky b36 i37 i22) (UN (gI (b36==true)) (show((b36==true)=true->((i37==i22)=false->(ky b36 i37 i22)=true)) from(λhg=>(aF hg))) (gI (b36==true)) (Md (kx b36 i37 i22 x19) (UN c41_ (gI (kx b36 i37 i22 x19)) (show((kx b36 i37 i22 x19)=true->(x19.length=x19.length)) from(λhg=>rfl)) (Md (kx b36 i37 i22 x19) (c5 c42_ (gI (kx b36 i37 i22 x19)) (gI (b36==true)) (show((b36==true)=true->((bif (i37==i22) then true else(!((x19.getD i37.toNat []).getD i22.toNat false)))=false->(kx b36 i37 i22 x19)=true)) from(λhg=>(aF hg))) (Ml b36)))))))))))) (Af q kd Ll (tN h))) λh=>tS h (gO (Be (Bg iS Ll q))))) λx43 h=>gA (Af q [1,5,7,11,12,13,143] Ll (gC h (λh=>tC h λc45_ h=>tU q YY Ll (c2 c45_ (Eq.refl l31.length)) (tS h (gK (Be (Le.trans (Le.trans (Sq 75 (show ∀ k_,k_<l31.length->AVleL ((λi_=>AV.eraseAll fQ ((Fa (λi=>Aq (l31.getD i 0)) i22.toNat 0 [(Z5 i30)]) i_)) k_) ((λi=>Aq ((l31.set i22.toNat i30).getD i 0)) k_) from(Bh (Db ..).symm (λk_ hk_=>(Bi (AV.eraseAll fQ) ((Fs (λ_ _=>rfl) (Hx c45_) rfl) k_ hk_)).trans rfl)))) (Sc (λ(k_:Nat) u=>(Cm u [(11,(.vsl 75 k_))] [(75,.arr 1 3 k_ (λi=>Aq ((l31.set i22.toNat i30).getD i 0)))])) (show l31.length=(l31.set i22.toNat i30).length from(Db ..).symm))) H8))))) λh=>tS h (gK (Be (Bg YY Ll q)))))))) (gA (Af q YY Ll (tN h)))) λh=>tS h (gO (Be (Bg MX Ll q))))) λx48 h=>gA (Af q MX Ll (tN h)))))))) λh=>tS h (gO (Be (Bg [11] [75] q))))) λx50 h=>gA (Af q [4] [75] (Qa (⟨[(4,(.vsl 75 x50.length))],[(Z4 75 x50)],[]⟩:St) (tS h (gK (e:=.ret) (H7 [(75,20000)] (Le.trans (le_freeze (nm:=75) (sz:=1) (n:=x50.length) (e:=3) (f:=(λi=>Aq (x50.getD i 0))) (g:=(λi=>Aq (x50.getD i 0))) rfl ⟨rfl,trivial⟩ (λ_ _=>rfl) (by rw[hΓ];rfl)) (Gt (st':=⟨[(4,(Wa x50 75))],[(Yu 75 x50.length)],[]⟩) (by kernel_rfl)))))))))))))))))
def Cl(a9:Ax):eg->Option (LR (Int×Ax) (Unit ⊕ Ax)):=
 λ(i1,l2)=>bif bif bif decide ((l2.length:Int)<a9.length) then decide (0<=i1) else false then decide (i1<a9.length) else false then Az (l2.length+[i1].length<=room) (Az (A1 i1 a9.length) (bif a9.getD i1.toNat 0==-1 then some (.done (.inr (l2++[i1]))) else Az (A1 i1 a9.length) (some (.next (a9.getD i1.toNat 0,l2++[i1]))))) else some (.done (.inl ()))
def AJ(Γ:H6)(a9:Ax)(a8:Int)(r:Ax):Exit->St->Prop:=fK Tryz.prog Γ Tryz.f103.results.toList [] (Wa r 20000) [(Yu 20000 r.length)]
def k6:AV:=fU
def yH(l2:Ax)(a9:Ax)(i1:Int):=(bif (decide ((l2.length:Int)<(a9.length:Int))) then(decide ((0:Int)<=i1)) else false)
def yJ:=(Z33:St)
def yI(a9:Ax)(a8:Int):=(⟨[(0,(Z6 a9)),(1,(Z5 a8)),(5,(Z95 5005))],[(5005,.tok 1 3 (([]:Ax).length))],[]⟩:St)
def Gd(a9:Ax)(a8:Int):Option Ax:=
 (Ac   (Cl a9) (a8,[])).bind λx6=>match x6 with | .inl _=>some [] | .inr r8=>some r8
variable{v17:Ax}
theorem M3(h:Gd v2 v1=some v17):sP 103 [(Z6 v2),(Z5 v1)] [] (Wa v17 20000) [(Yu 20000 v17.length)]:=
 sG Tryz.func103 λΓ q=>gR q Gm [] [(4,k6)] [] (c1 (Bz 1 Aq (0:Int))) (gR q Nh [] [(5,k6)] [] (c1 (Bz 1 Aq (0:Int))) (gLe (st':=(yI v2 v1)) (Le.trans (Bg (st':=⟨[(0,(Z6 v2)),(1,(Z5 v1)),(5,k6)],[],[]⟩) Nh [] q) (Le.trans (Ro (t:=5) (nm:=5005) (sz':=1) (λi=>Aq (([]:Ax).getD i 0)) 3 rfl rfl (.inl ⟨rfl,rfl⟩) (λh_=>absurd h_ (by decide))) (Bg (st':=(yI v2 v1)) Nh [5005] q))) (tL q h Nh [5005] (λu (i1,l2)=>(Cm u [(1,(Z5 i1)),(5,(Wa l2 5005))] [(Yu 5005 l2.length)])) (λu x_=>match x_ with|(.inl _)=>aG Γ (.exit 0) (⟨[],[],[]⟩:St)|(.inr r_)=>aR (AJ Γ v2 v1 r_)) (λ⟨i1,l2⟩ y h=>tU q [0,1,5,20] [5005] (fq (gI ((decide ((l2.length:Int)<(v2.length:Int)))==true)) (Ml (decide ((l2.length:Int)<(v2.length:Int)))) (Yy ((yH l2 v2 i1)==true) (c1 (Ml (yH l2 v2 i1))))) (gC h (λh=>tC h λc3_ h=>gR q Nh [5005] (wN 23 i1 24 l2 5005) [] (c5 (Bq 1 Aq (0:Int) ([i1]:Ax)) (Eq.refl l2.length) c3_ (I7 1 5005 Aq (0:Int) l2 ([i1]:Ax)) (E0 l2 ([i1]:Ax))) (tV q [0,1,5,29] [5005] h λh=>gC h (λh=>Af q [4] [5005] (tS h (gO (Lo (H7 [(5005,20000)] (Le.refl _ _)))))) λh=>tV q Nh [5005] h λh=>tN h)) λh=>tS h (gO (Be (Bg [] [] q))))) λx6 h=>(match x6,h with | .inl _,h=>gA (gR q [4] [] [(4,k6)] [] (c1 (Bz 1 Aq (0:Int))) (Qa (⟨[(4,k6)],[],[]⟩:St) (tS h (gK (e:=.ret) (H7 bo (show Le Γ _ yJ from Le.trans (Bg (st':=⟨[(4,k6)],[],[]⟩) [4] [] q) (Le.trans (Ro (t:=4) (nm:=6004) (sz':=1) (λi=>Aq (([]:Ax).getD i 0)) 3 rfl rfl (.inl ⟨rfl,rfl⟩) (λh_=>absurd h_ (by decide))) (Bg (st':=yJ) [4] [6004] q)))))))) | .inr r8,h=>O3 (λst' hk=>tS h (gK hk))))))
def Bw(a9:Ax):J8->Option (LR (Int×Int) (Int ⊕ Bool)):=
 λ(i1,i2)=>bif decide (i2<a9.length) then Option.bind  (Az (A1 i2 a9.length) (bif a9.getD i2.toNat 0==-1 then some (w64 (i1+1)) else some i1)) λx6=>Az (A1 i2 a9.length) ((bif (a9.getD i2.toNat 0 !=-2)==true then Gd a9 i2 else some []).bind λx9=>bif bif a9.getD i2.toNat 0 !=-2 then(x9.length:Int)==0 else false then some (.done (.inr false)) else some (.next (x6,w64 (i2+1)))) else some (.done (.inl i1))
def Zi(Γ:H6)(a9:Ax)(r:Bool):Exit->St->Prop:=fK Tryz.prog Γ Tryz.f102.results.toList [] (.bool r) []
def sT(a9:Ax)(i2:Int):=((a9.getD i2.toNat 0)!=-2)
def J3(a9:Ax):Option Bool:=
 (Ac   (Bw a9) (0,0)).bind λx10=>match x10 with | .inl i3=>some (i3==1) | .inr r12=>some r12
theorem Yc(h:J3 v2=some v3):sP 102 [(Z6 v2)] [] (.bool v3) []:=
 sG Tryz.func102 λΓ q=>tW q [0] [] Rm [] (Af q S8 [] (tL q h S8 [] (λu (i1,i2)=>(Cm u [(3,(Z5 i1)),(4,(Z5 i2))] [])) (λu x_=>match x_ with|(.inl i3)=>aG Γ (.exit 0) (⟨[(3,(Z5 i3))],[],[]⟩:St)|(.inr r_)=>aR (Zi Γ v2 r_)) (λ⟨i1,i2⟩ y h=>Af q [0,3,4,8] [] (gC h (λh=>tB h λx6 y6 h=>gJ y6 (λi4=>aG Γ .normal (⟨[(0,(Z6 v2)),(3,(Z5 i4)),(4,(Z5 i2))],[],[]⟩:St)) (λy h=>tV q [0,3,4,15] [] h λh=>gC h (λh=>Af q S8 [] (tS h (gK (Be H8)))) λh=>tS h (gK (Be (Bg S8 [] q)))) (gA (tC h λc8_ h=>tB h λx9 y9 h=>tT q [0,3,4,29] [] [⟨[],[],(Z6 x9),[],[],[]⟩] (ci c8_ (Md ((sT v2 i2)==true) (ci (show(((sT v2 i2)==true)=true->(sP 103 [(Z6 v2),(Z5 i2)] [] (Z6 x9) [])) from(λhg=>(Spec.drop (M3 (A9 hg y9))))) (Md ((sT v2 i2)==true) (c1 (Ml (sT v2 i2))))))) (gC h (λh=>Af q [2] [] (tS h (gO (Lo (H7 [] (Le.refl _ _)))))) λh=>Af q S8 [] (tN h))))) λh=>tS h (gO (Be (Bg [3] [] q))))) λx10 h=>(match x10,h with | .inl i3,h=>gA (Af q [2] [] (tS h (Ca []))) | .inr r12,h=>O3 (λst' hk=>tS h (gK hk)))))
def Ef(x2:Ax)(x3:Ax):Int->Option (LR Int (Unit ⊕ Int)):=
 λi4=>bif decide (i4<x2.length) then Az (A1 i4 x2.length) ((Ha x3 (x2.getD i4.toNat 0)).bind λx6=>bif x6 then Az (A1 i4 x2.length) (some (.done (.inr (x2.getD i4.toNat 0)))) else some (.next (w64 (i4+1)))) else some (.done (.inl ()))
def AH(Γ:H6)(a9:Ax)(a8:Int)(aE:Int)(r:Int):Exit->St->Prop:=fK Tryz.prog Γ Tryz.f59.results.toList [] (.int .i64 r) []
def Ks(a9:Ax)(a8:Int)(aE:Int):Option Int:=
 (J3 a9).bind λx1=>bif !x1 then some (-2) else(Gd a9 a8).bind λx2=>(Gd a9 aE).bind λx3=>(Ac   (Ef x2 x3) 0).bind λx8=>match x8 with | .inl _=>some (-2) | .inr r10=>some r10
theorem Zu(h:Ks v2 v1 v11=some v20):sP 59 [(Z6 v2),(Z5 v1),(Z5 v11)] [] (.int .i64 v20) []:=
 sG Tryz.func59 λΓ q=>Af q UC [] (tB h λx1 y1 h=>tT q [0,1,2,12] [] [(Z2 x1)] (c1 (Yc y1)) (gC h (λh=>Af q [6] [] (tS h (Ca []))) λh=>tB h λx2 y2 h=>tT q UD [15] [(xZ 15 x2 x2.length)] (c1 (M3 y2)) (tB h λx3 y3 h=>tT q [7,8] LE [(xZ 18 x3 x3.length)] (c1 (M3 y3)) (Af q [7,8,9] LE (tL q h [7,8,9] LE (λu i4=>(Cm u [(9,(Z5 i4))] [])) (λu x_=>match x_ with|(.inl _)=>aG Γ (.exit 0) (⟨[],[],[]⟩:St)|(.inr r_)=>aR (AH Γ v2 v1 v11 r_)) (λi4 y h=>Af q [7,8,9,22] LE (gC h (λh=>tC h λc5_ h=>tB h λx6 y6 h=>tT q [7,8,9,30] LE [(Z2 x6)] (c2 c5_ (N0 y6)) (gC h (λh=>tV q [6] [] h λh=>tS h (gO (Lo (H7 [] (Le.refl _ _))))) λh=>Af q [7,8,9] LE (tN h))) λh=>tS h (gO (Be (Bg [] [] q))))) λx8 h=>(match x8,h with | .inl _,h=>gA (Af q [6] [] (tS h (Ca []))) | .inr r10,h=>O3 (λst' hk=>tS h (gK hk))))))))
def Fk(x4:List Cc):Int->Option (LR Int (Unit ⊕ Int)):=
 λi5=>bif decide (i5<x4.length) then Az (A1 i5 x4.length) ((Fg (x4.getD i5.toNat default).V).bind λx7=>Az (((!x7)==false)=true->A1 i5 x4.length) ((bif (!x7)==false then Et x4 (x4.getD i5.toNat default).V else some 0).bind λx9=>bif bif !x7 then true else x9 !=i5 then some (.done (.inr 7)) else some (.next (w64 (i5+1))))) else some (.done (.inl ()))
def D2(x4:List Cc)(x12:List D1):Int->Option (LR Int (Unit ⊕ Int)):=
 λi13=>bif decide (i13<x12.length) then Az (A1 i13 x12.length) ((Et x4 (x12.getD i13.toNat default).V).bind λx15=>bif decide (x15<0) then some (.done (.inr 7)) else some (.next (w64 (i13+1)))) else some (.done (.inl ()))
def D3(x4:List Cc)(x12:List D1):Int->Option (LR Int (Unit ⊕ Int)):=
 λi18=>bif decide (i18<x12.length) then Az (A1 i18 x12.length) ((Et x4 (x12.getD i18.toNat default).V).bind λx20=>Az (A1 x20 x4.length) (Az (A1 i18 x12.length) (bif !((x4.getD x20.toNat default).Shape.1==(x12.getD i18.toNat default).Shape.1&&((x4.getD x20.toNat default).Shape.2==(x12.getD i18.toNat default).Shape.2&&true)) then some (.done (.inr 6)) else some (.next (w64 (i18+1)))))) else some (.done (.inl ()))
def C3(x4:List Cc)(x12:List D1)(x26:Ax):Int->Option (LR Int (Unit ⊕ Int)):=
 λi27=>bif decide (i27<x12.length) then Option.bind (α:=Unit ⊕ Int) (Az (A1 i27 x12.length) ((Et x4 (x12.getD i27.toNat default).V).bind λx29=>Az (A1 x29 x4.length) (bif bif decide ((x4.getD x29.toNat default).Block<0) then true else bif (x4.getD x29.toNat default).Block==(x12.getD i27.toNat default).Block then decide ((x4.getD x29.toNat default).At<(x12.getD i27.toNat default).At) else false then some (.inl ()) else(bif ((x4.getD x29.toNat default).Block==(x12.getD i27.toNat default).Block)==false then Ks x26 (x4.getD x29.toNat default).Block (x12.getD i27.toNat default).Block else some 0).bind λx31=>bif bif (x4.getD x29.toNat default).Block==(x12.getD i27.toNat default).Block then true else x31 !=(x4.getD x29.toNat default).Block then some (.inr 7) else some (.inl ())))) λx32=>match x32 with | .inl _=>some (.next (w64 (i27+1))) | .inr r34=>some (.done (.inr r34)) else some (.done (.inl ()))
def Hj(Γ:H6)(a0:TFunc)(a2:Int)(r:Int):Exit->St->Prop:=fK Tryz.prog Γ Tryz.f21.results.toList [] (.int .i64 r) []
def nX(x4:List Cc)(x29:Int):=((decide (((x4.getD x29.toNat default).Block:Int)<0))==false)
def fR(x4:List Cc)(x29:Int)(x12:List D1)(i27:Int):=(((x4.getD x29.toNat default).Block:Int)==(x12.getD i27.toNat default).Block)
def D6(a0:TFunc)(a2:Int):Option Int:=
 bif bif decide (a2<0) then true else decide (2<a2) then some 1 else(I4 a0).bind λx1=>bif !x1 then some 4 else(J4 a0).bind λx2=>bif !x2 then some 5 else(J5 a0 a2).bind λx3=>bif !x3 then some 6 else(Ku a0).bind λx4=>(Ac   (Fk x4) 0).bind λx10=>match x10 with | .inl _=>(Kv a0).bind λx12=>(Ac   (D2 x4 x12) 0).bind λx16=>(match x16 with | .inl _=>(Ac   (D3 x4 x12) 0).bind λx23=>(match x23 with | .inl _=>(Jl a0).bind λx25=>(Kt x25.1 0).bind λx26=>(Ac   (C3 x4 x12 x26) 0).bind λx35=>(match x35 with | .inl _=>some 0 | .inr r37=>some r37) | .inr r38=>some r38) | .inr r39=>some r39) | .inr r40=>some r40
theorem Yd(h:D6 v0 v1=some v11):sP 21 [(Vn v0),(Z5 v1)] [] (.int .i64 v11) []:=
 sG Tryz.func21 λΓ q=>Af q Ea [2] (tU q [1,2,21] [2] (c2 (gI ((decide (v1<0))==false)) (L5 (decide (v1<0)))) (gC h (λh=>Af q [4] [] (tS h (Ca []))) λh=>tB h λx1 y1 h=>tT q [1,2,24] [2] [(Z2 x1)] (c1 (BM y1)) (gC h (λh=>Af q [4] [] (tS h (Ca []))) λh=>tB h λx2 y2 h=>tT q [1,2,27] [2] [(Z2 x2)] (c1 (Yf y2)) (gC h (λh=>Af q [4] [] (tS h (Ca []))) λh=>tB h λx3 y3 h=>tT q [2,31] [2] [(Z2 x3)] (c1 (Yg y3)) (gC h (λh=>Af q [4] [] (tS h (Ca []))) λh=>tB h λx4 y4 h=>tT q V8 CO [⟨[],[(20000,33)],(AV.list 5 Pu default x4 (.own 20000)),[(Ln 20000 92 x4.length)],[],[]⟩] (c1 (Zw y4)) (Af q Xe CO (tL q h Xe CO (λu i5=>(Cm u [(6,(Z5 i5))] [])) (λu x_=>match x_ with|(.inl _)=>aG Γ (.exit 0) (Nb V8 CO u [] [])|(.inr r_)=>aR (Hj Γ v0 v1 r_)) (λi5 y h=>Af q [2,5,6,37] CO (gC h (λh=>tC h λc6_ h=>tB h λx7 y7 h=>tC h λc8_ h=>tB h λx9 y9 h=>tT q [2,5,6,57] CO [(Z2 x7),(IX x9)] (fq c6_ (Mi y7) (Md ((!x7)==false) (ci c8_ (LO ((!x7)==false) (ci (λ(hg:((!x7)==false)=true)=>(J6 (A9 hg y9))) (Md ((!x7)==false) (c1 (L5 (!x7))))))))) (gC h (λh=>Af q [4] [] (tS h (gO (Lo (H7 [] (Le.refl _ _)))))) λh=>Af q Xe CO (tN h))) λh=>tS h (gO (Be (Bg V8 CO q))))) λx10 h=>(match x10,h with | .inl _,h=>gA (tB h λx12 y12 h=>tT q UE Ui [⟨[],[(20000,59)],(AV.list 5 O2 default x12 (.own 20000)),[(Ln 20000 96 x12.length)],[],[]⟩] (c1 (Zx y12)) (Af q [2,5,7,8] Ui (tL q h [2,5,7,8] Ui (λu i13=>(Cm u [(8,(Z5 i13))] [])) (λu x_=>match x_ with|(.inl _)=>aG Γ (.exit 2) (Nb UE Ui u [] [])|(.inr r_)=>aR (Hj Γ v0 v1 r_)) (λi13 y h=>Af q [2,5,7,8,63] Ui (gC h (λh=>tC h λc14_ h=>tB h λx15 y15 h=>tT q [2,5,7,8,73] Ui [(IX x15)] (c2 c14_ (J6 y15)) (gC h (λh=>Af q [4] [] (tS h (gO (Lo (H7 [] (Le.refl _ _)))))) λh=>Af q [2,5,7,8] Ui (tN h))) λh=>tS h (gO (Be (Bg UE Ui q))))) λx16 h=>(match x16,h with | .inl _,h=>gA (Af q [2,5,7,9] Ui (tL q h [2,5,7,9] Ui (λu i18=>(Cm u [(9,(Z5 i18))] [])) (λu x_=>match x_ with|(.inl _)=>aG Γ (.exit 4) (Nb UE Ui u [] [])|(.inr r_)=>aR (Hj Γ v0 v1 r_)) (λi18 y h=>Af q [2,5,7,9,77] Ui (gC h (λh=>tC h λc19_ h=>tB h λx20 y20 h=>tC h λc21_ h=>tC h λc22_ h=>tT q [2,5,7,9,96] Ui [(IX x20)] (c4 c19_ (J6 y20) c21_ c22_) (gC h (λh=>Af q [4] [] (tS h (gO (Lo (H7 [] (Le.refl _ _)))))) λh=>Af q [2,5,7,9] Ui (tN h))) λh=>tS h (gO (Be (Bg UE Ui q))))) λx23 h=>(match x23,h with | .inl _,h=>gA (tB h λx25 y25 h=>tT q [5,7,10] [10,33,59] [(xe x25.1 x25.2)] (c1 (S2 y25)) (tB h λx26 y26 h=>tT q [5,7,12] NA [(xZ 103 x26 x26.length)] (c1 (Zv y26)) (Af q TU NA (tL q h TU NA (λu i27=>(Cm u [(13,(Z5 i27))] [])) (λu x_=>match x_ with|(.inl _)=>aG Γ (.exit 6) (⟨[],[],[]⟩:St)|(.inr r_)=>aR (Hj Γ v0 v1 r_)) (λi27 y h=>Af q [5,7,12,13,107] NA (gC h (λh=>tB h λx32 y32 h=>gJ y32 (λx_=>match x_ with|(.inl _)=>aG Γ .normal (⟨[(5,(AV.list 5 Pu default x4 (.own 33))),(7,(AV.list 5 O2 default x12 (.own 59))),(12,(Wa x26 103)),(13,(Z5 i27))],[(Ln 33 92 x4.length),(Ln 59 96 x12.length),(Yu 103 x26.length)],[]⟩:St)|(.inr r_)=>aR (Hj Γ v0 v1 r_)) (λy h=>tV q [5,7,12,13,14] [14,33,59,103] h λh=>tB h λx29 y29 h=>tC h λc30_ h=>tT q [5,7,12,13,14,15] [14,15,33,59,103] [(IX x29)] (c2 (J6 y29) c30_) (tU q [5,7,12,13,14,15,137] [14,15,33,59,103] (ww (nX x4 x29) (LO ((nX x4 x29)&&((fR x4 x29 x12 i27)==true)) (c3 (gI (nX x4 x29)) (show((nX x4 x29)=true->((fR x4 x29 x12 i27)=true->((nX x4 x29)&&((fR x4 x29 x12 i27)==true))=true)) from(λhg=>(aT hg))) (L5 (decide (((x4.getD x29.toNat default).Block:Int)<0)))))) (gC h (λh=>tS h (gK (Be (Bg TU NA q)))) λh=>tB h λx31 y31 h=>tT q [5,7,12,13,153] NA [(IX x31)] (ww ((fR x4 x29 x12 i27)==false) (ci (λ(hg:((fR x4 x29 x12 i27)==false)=true)=>(Zu (A9 hg y31))) (Yy ((fR x4 x29 x12 i27)==false) (c1 (L5 (fR x4 x29 x12 i27)))))) (gC h (λh=>Af q [4] [] (tS h (gK (Lo (H7 [] (Le.refl _ _)))))) λh=>tS h (gK (Be (Bg TU NA q))))))) (match x32,h with | .inl _,h=>gA (Af q TU NA (tN h)) | .inr r34,h=>O3 (λst' hk=>tS h (gO (Lo hk))))) λh=>tS h (gO (Be (Bg [] [] q))))) λx35 h=>(match x35,h with | .inl _,h=>gA (Af q [4] [] (tS h (Ca []))) | .inr r37,h=>O3 (λst' hk=>tS h (gK hk))))))) | .inr r38,h=>O3 (λst' hk=>tS h (gK hk))))) | .inr r39,h=>O3 (λst' hk=>tS h (gK hk)))))) | .inr r40,h=>O3 (λst' hk=>tS h (gK hk))))))))))
open Go Go.RowKit
set_option maxRecDepth 100000
set_option maxHeartbeats 2000000
def Iq(a0:TFunc)(i2:Int):J8->Option nD:=
 λ(i4,i5)=>Az (A1 i2 a0.Blocks.length) (bif decide (i5<(a0.Blocks.getD i2.toNat default).Phis.length) then Option.bind  (Az (A1 i2 a0.Blocks.length) (Az (A1 i5 (a0.Blocks.getD i2.toNat default).Phis.length) (bif decide (i4<((a0.Blocks.getD i2.toNat default).Phis.getD i5.toNat default).Dst) then Az (A1 i2 a0.Blocks.length) (Az (A1 i5 (a0.Blocks.getD i2.toNat default).Phis.length) (some ((a0.Blocks.getD i2.toNat default).Phis.getD i5.toNat default).Dst)) else some i4))) λx13=>some (.next (x13,w64 (i5+1))) else some (.done i4))
def Ir(a0:TFunc)(i2:Int):J8->Option nD:=
 λ(i17,i18)=>Az (A1 i2 a0.Blocks.length) (bif decide (i18<(a0.Blocks.getD i2.toNat default).Ops.length) then Option.bind  (Az (A1 i2 a0.Blocks.length) (Az (A1 i18 (a0.Blocks.getD i2.toNat default).Ops.length) (bif decide (i17<((a0.Blocks.getD i2.toNat default).Ops.getD i18.toNat default).Dst) then Az (A1 i2 a0.Blocks.length) (Az (A1 i18 (a0.Blocks.getD i2.toNat default).Ops.length) (some ((a0.Blocks.getD i2.toNat default).Ops.getD i18.toNat default).Dst)) else some i17))) λx26=>some (.next (x26,w64 (i18+1))) else some (.done i17))
def It(a0:TFunc):J8->Option nD:=
 λ(i1,i2)=>bif decide (i2<a0.Blocks.length) then(Ac   (Iq a0 i2) (i1,0)).bind λx15=>(Ac   (Ir a0 i2) (x15,0)).bind λx28=>some (.next (x28,w64 (i2+1))) else some (.done i1)
def yK(a0:TFunc):List NR:=[(1,.row 25 [(Z6 a0.Params),(Z5 a0.Ret),(OY a0.Blocks)])]
def Eu(a0:TFunc):Option Int:=
 (Ac   (It a0) (a0.Params.length,0)).bind λx30=>some x30
theorem J7(h:Eu v0=some v1):sP 34 [(Vn v0)] [] (.int .i64 v1) []:=
 sG Tryz.func34 λΓ q=>tW q [1] [1] La [1] (Af q H3 [1] (tL q h H3 [1] (λu (i1,i2)=>(Cm u [(3,(Z5 i1)),(4,(Z5 i2))] [])) (λu i3=>aG Γ (.exit 0) (⟨[(3,(Z5 i3))],[],[]⟩:St)) (λ⟨i1,i2⟩ y h=>Af q [1,3,4,14] [1] (gC h (λh=>Af q Jv [1] (tL q h Jv [1] (λu (i4,i5)=>(Cm u [(3,(Z5 i4)),(5,(Z5 i5))] [])) (λu i6=>aG Γ (.exit 2) (Nb H3 [1] u [(3,(Z5 i6))] [])) (λ⟨i4,i5⟩ y h=>tV q [1,3,4,5,25] [1] h λh=>gC h (λh=>tB h λx13 y13 h=>gJ y13 (λi8=>aG Γ .normal (⟨[AA,(3,(Z5 i8)),(4,(Z5 i2)),(5,(Z5 i5))],(yK v0),[]⟩:St)) (λy h=>tC h λc9_ h=>tC h λc10_ h=>tU q [1,3,4,5,39] [1] (c2 c9_ c10_) (gC h (λh=>tC h λc11_ h=>tC h λc12_ h=>tU q Jv [1] (c2 c11_ c12_) (tS h (gK (Be H8)))) λh=>tS h (gK (Be (Bg Jv [1] q))))) (gA (Af q Jv [1] (tN h)))) λh=>tS h (gO (Be (Bg H3 [1] q)))) λx15 h=>gA (Af q IR [1] (tL q h IR [1] (λu (i17,i18)=>(Cm u [(3,(Z5 i17)),(6,(Z5 i18))] [])) (λu i19=>aG Γ (.exit 4) (Nb H3 [1] u [(3,(Z5 i19))] [])) (λ⟨i17,i18⟩ y h=>tV q [1,3,4,6,58] [1] h λh=>gC h (λh=>tB h λx26 y26 h=>gJ y26 (λi21=>aG Γ .normal (⟨[AA,(3,(Z5 i21)),(4,(Z5 i2)),(6,(Z5 i18))],(yK v0),[]⟩:St)) (λy h=>tC h λc22_ h=>tC h λc23_ h=>tU q [1,3,4,6,72] [1] (c2 c22_ c23_) (gC h (λh=>tC h λc24_ h=>tC h λc25_ h=>tU q IR [1] (c2 c24_ c25_) (tS h (gK (Be H8)))) λh=>tS h (gK (Be (Bg IR [1] q))))) (gA (Af q IR [1] (tN h)))) λh=>tS h (gO (Be (Bg H3 [1] q)))) λx28 h=>gA (Af q H3 [1] (tN h)))))) λh=>tS h (gO (Be (Bg [3] [] q))))) λx30 h=>gA (Af q [2] [] (tS h (Ca [])))))
open Go Go.RowKit
set_option maxRecDepth 100000
set_option maxHeartbeats 2000000
def Lw(a0:TFunc):Option Bool:=
 (R5 a0 2).bind λx1=>some (x1==0)
theorem Ss(h:Lw v0=some v3):sP 42 [(Vn v0)] [] (.bool v3) []:=
 sG Tryz.func42 λΓ q=>Af q [1] [1] (tB h λx1 y1 h=>tT q [2] [] [(IX x1)] (c1 (RE y1)) (tS h (Ca [])))
def Mo(a0:TFunc)(x1:mp):Int->Option (LR Int (Unit ⊕ ((Bool×WC)×Bool))):=
 λi2=>bif decide (i2<a0.Blocks.length) then Option.bind (α:=Unit ⊕ (Bool×WC)×Bool) (Az (A1 i2 a0.Blocks.length) (bif (a0.Blocks.getD i2.toNat default).End.Kind !=1 then some (.inl ()) else Az (A1 0 (a0.Blocks.getD i2.toNat default).End.To.length) (Az ((((a0.Blocks.getD i2.toNat default).End.To.getD (0:Int).toNat 0 !=i2)==true)=true->A1 ((a0.Blocks.getD i2.toNat default).End.To.getD (0:Int).toNat 0) x1.1.Pred.length) (bif bif (a0.Blocks.getD i2.toNat default).End.To.getD (0:Int).toNat 0 !=i2 then(x1.1.Pred.getD ((a0.Blocks.getD i2.toNat default).End.To.getD (0:Int).toNat 0).toNat []).length==(1:Int) else false then some (.inr ((true,⟨i2,(a0.Blocks.getD i2.toNat default).End.To.getD (0:Int).toNat 0,[]⟩),true)) else some (.inl ()))))) λx6=>match x6 with | .inl _=>some (.next (w64 (i2+1))) | .inr r8=>some (.done (.inr r8)) else some (.done (.inl ()))
abbrev rA:=((Bool×WC)×Bool)
def GJ(Γ:H6)(a0:TFunc)(r:rA):Exit->St->Prop:=fK Tryz.prog Γ Tryz.f46.results.toList [] (.tuple [(bif r.1.1 then((.ptr 20000 0):AV) else .nilp),(.bool r.2)]) (bif r.1.1 then(yv 20000 r.1.2.x r.1.2.y) else[])
def vk(a0:TFunc)(i2:Int):=((((a0.Blocks.getD i2.toNat default).End.To).getD (0:Int).toNat (0:Int))!=i2)
def Kw(a0:TFunc):Option rA:=
 (Tz a0).bind λx1=>(Ac   (Mo a0 x1) 0).bind λx9=>match x9 with | .inl _=>some ((false,default),false) | .inr r11=>some r11
variable{v37:rA}
theorem R7(h:Kw v0=some v37):sP 46 [(Vn v0)] [] (.tuple [(bif v37.1.1 then((.ptr 20000 0):AV) else .nilp),(.bool v37.2)]) (bif v37.1.1 then(yv 20000 v37.1.2.x v37.1.2.y) else[]):=
 sG Tryz.func46 λΓ q=>Af q [1] [1] (tB h λx1 y1 h=>tT q P5 P5 [(xe x1.1 x1.2)] (c1 (MA y1)) (Af q TS [4] (tL q h TS [4] (λu i2=>(Cm u [(17,(Z5 i2))] [])) (λu x_=>match x_ with|(.inl _)=>aG Γ (.exit 0) (⟨[],[],[]⟩:St)|(.inr r_)=>aR (GJ Γ v0 r_)) (λi2 y h=>Af q [4,15,16,17,18] [4] (gC h (λh=>tB h λx6 y6 h=>gJ y6 (λx_=>match x_ with|(.inl _)=>aG Γ .normal (⟨[ZN,(15,(OY v0.Blocks)),(b8 16 v0.Blocks.length),(17,(Z5 i2))],[(4,.row 56 [(NU x1.1.Succ),(NU x1.1.Pred)])],[]⟩:St)|(.inr r_)=>aR (GJ Γ v0 r_)) (λy h=>tV q [4,6,7,15,16,17] [4,7] h λh=>Af q [4,6,7,15,16,17,25] [4,7] (gC h (λh=>tS h (gK (Be (Bg TS [4] q)))) λh=>tV q [4,6,8,15,16,17] [4] h λh=>tC h λc5_ h=>tU q [4,6,8,15,16,17,42] [4] (Yy ((vk v0 i2)==true) (ci c5_ (Yy ((vk v0 i2)==true) (c1 (Ml (vk v0 i2)))))) (gC h (λh=>Af q Cy [46] (tS h (gK (Lo (H7 [(46,20000)] (Le.refl _ _)))))) λh=>tS h (gK (Be (Bg TS [4] q)))))) (match x6,h with | .inl _,h=>gA (Af q TS [4] (tN h)) | .inr r8,h=>O3 (λst' hk=>tS h (gO (Lo hk))))) λh=>tS h (gO (Be (Bg [] [] q))))) λx9 h=>(match x9,h with | .inl _,h=>gA (Af q Cy [] (tS h (Ca []))) | .inr r11,h=>O3 (λst' hk=>tS h (gK hk))))))
def G6(aH:Int)(a3:Int)(a5:Int)(a7:List J8):Option Int:=
 bif D9 a7 aH then some (Fu 0 a7 aH) else some aH
variable{v38:List J8}{v39:Int}
theorem Mk(h:G6 v1 v11 v20 v38=some v39):sP 83 [(.ptr 30000 0),(Z5 v1)] [(Z8 v11 v20 9100002),(9100002,.obj (.map true .i64 (Bt (λ(v_:Int)=>((Z5 v_):AV)) v38)))] (.int .i64 v39) [(Z8 v11 v20 9100002),(9100002,.obj (.map true .i64 (Bt (λ(v_:Int)=>((Z5 v_):AV)) v38)))]:=
 sG Tryz.func83 λΓ q=>Af q Gm S5 (gR q [1,5,6] S5 [(13,(.tuple [(.int .i64 (Fu (0:Int) v38 v1)),(.bool (D9 v38 v1))]))] [] (c1 (show(AVle (.tuple [Fu L9 (Bt (λ(v_:Int)=>((Z5 v_):AV)) v38) v1,.bool (D9 (Bt (λ(v_:Int)=>((Z5 v_):AV)) v38) v1)]) (.tuple [(.int .i64 (Fu (0:Int) v38 v1)),(.bool (D9 v38 v1))])) from(QZ (f:=(λ(v_:Int)=>((Z5 v_):AV))) (l:=v38) (AVle.refl _) rfl))) (Af q [1,5,16] S5 (gC h (λh=>Af q [4] S5 (tS h (Ca YV))) λh=>Af q [4] S5 (tS h (Ca YV)))))
def Cs(aa2:List (List TOp)):J8->Option nD:=
 λ(i1,i2)=>bif decide (i2<aa2.length) then Option.bind  (Az (A1 i2 aa2.length) (bif decide (w64 (i1+(aa2.getD i2.toNat []).length)<0) then none else some ())) λx5=>match x5 with|_=>some (.next (w64 (i1+(aa2.getD i2.toNat []).length),w64 (i2+1))) else some (.done i1)
def Cu(aa2:List (List TOp)):(List TOp×Int)->Option (LR (List TOp×Int) (List TOp)):=
 λ(l10,i11)=>bif decide (i11<aa2.length) then Az (A1 i11 aa2.length) (Az (l10.length+(aa2.getD i11.toNat []).length<=room) (some (.next (l10++aa2.getD i11.toNat [],w64 (i11+1))))) else some (.done l10)
def Fd(aa2:List (List TOp)):Option (List TOp):=
 (Ac   (Cs aa2) (0,0)).bind λx7=>(iN x7).bind λx9=>(Ac   (Cu aa2) (x9,0)).bind λx15=>some x15
variable{v40:List (List TOp)}{v7:List TOp}
theorem Rx(h:Fd v40=some v7):sP 84 [(AV.list 1 WT [] v40 .none)] [] (wS v7 20000) [(20000,.tok 6 70 v7.length)]:=
 sG Tryz.func84 λΓ q=>gR q [0] [] [(2,yp)] [] (c1 (Bz 6 Lm (default:TOp))) (tW q Rm [] TH [] (tL q h TH [] (λu (i1,i2)=>(Cm u [(3,(Z5 i1)),(11,(Z5 i2))] [])) (λu i3=>aG Γ (.exit 0) (Nb Rm [] u [(3,(Z5 i3))] [])) (λ⟨i1,i2⟩ y h=>Af q [0,3,9,10,11,12] [] (gC h (λh=>tB h λx5 y5 h=>gJ y5 (λ_=>aG Γ .normal (⟨[(0,(AV.list 1 WT [] v40 .none)),(3,(.int .i64 (w64 (i1+((v40.getD i2.toNat []).length:Int))))),(9,(AV.list 1 WT [] v40 .none)),(b8 10 v40.length),(11,(Z5 i2))],[],[]⟩:St)) (λy h=>tV q [0,3,5,9,10,11] [] h λh=>tW q TH [] [0,3,9,10,11,20] [] (gC h (λh=>nomatch h) λh=>tS h (gK (Be (Bg TH [] q))))) (gA (Af q TH [] (tN h)))) λh=>tS h (gO (Be (Bg Rm [] q))))) λx7 h=>gA (tB h λx9 y9 h=>tT q [0,6] [24] [⟨[],[(20000,24)],(wS x9 20000),[(20000,.tok 6 70 x9.length)],[],[]⟩] (c1 (qu (e:=Lm) (d:=(default:TOp)) x7 x9 y9)) (Af q bs [24] (tL q h bs [24] (λu (l10,i11)=>(Cm u [(6,(wS l10 24)),(27,(Z5 i11))] [(24,.tok 6 70 l10.length)])) (λu l12=>aG Γ (.exit 2) (⟨[(6,(wS l12 24))],[(24,.tok 6 70 l12.length)],[]⟩:St)) (λ⟨l10,i11⟩ y h=>Af q [6,25,26,27,28] [24] (gC h (λh=>tV q [6,8,25,26,27] [24] h λh=>tC h λc14_ h=>gR q bs [24] [(33,(AV.list 6 Lm default (l10++(v40.getD i11.toNat [])) (.own 24)))] [] (c4 (Eq.refl l10.length) c14_ (I7 6 24 Lm (default:TOp) l10 (v40.getD i11.toNat [])) (E0 l10 (v40.getD i11.toNat []))) (Af q bs [24] (tN h))) λh=>tS h (gO (Be (Bg [6] [24] q))))) λx15 h=>gA (Af q [2] [24] (tS h (Ca [(24,20000)]))))))))
def K2(aL:Int)(a3:Int)(a5:Int)(a7:List J8):Option Int:=
 Option.bind  (bif aL==a5 then some a3 else some aL) λx2=>Option.bind  (bif decide (a5<x2) then some (w64 (x2-1)) else some x2) λx5=>some x5
theorem T6(h:K2 v1 v11 v20 v38=some v39):sP 142 [(.ptr 30000 0),(Z5 v1)] [(Z8 v11 v20 9100002),(9100002,.obj (.map true .i64 (Bt (λ(v_:Int)=>((Z5 v_):AV)) v38)))] (.int .i64 v39) [(Z8 v11 v20 9100002),(9100002,.obj (.map true .i64 (Bt (λ(v_:Int)=>((Z5 v_):AV)) v38)))]:=
 sG Tryz.func142 λΓ q=>Af q Gm S5 (tB h λx2 y2 h=>gJ y2 (λi1=>aG Γ .normal (⟨[cO,(1,(Z5 i1))],[(Z8 v11 v20 9100002),(9100002,.obj (.map true .i64 (Bt (λ(v_:Int)=>((Z5 v_):AV)) v38)))],[]⟩:St)) (λy h=>Af q Yr S5 (gC h (λh=>Af q Gm S5 (tS h (gK (Be H8)))) λh=>tS h (gK (Be (Bg Gm S5 q))))) (gA (tB h λx5 y5 h=>gJ y5 (λi4=>aG Γ .normal (⟨[(1,(Z5 i4))],[(Z8 v11 v20 9100002),(9100002,.obj (.map true .i64 (Bt (λ(v_:Int)=>((Z5 v_):AV)) v38)))],[]⟩:St)) (λy h=>Af q [1,20] S5 (gC h (λh=>Af q [1] S5 (tS h (gK (Be H8)))) λh=>tS h (gK (Be (Bg [1] S5 q))))) (gA (Af q [4] S5 (tS h (Ca YV)))))))
def Jo(aO:TPhi)(a3:Int)(a5:Int)(a7:List J8):(Int×Ax×Ax)->Option (LR (Int×Ax×Ax) (Ax×Ax)):=
 λ(i1,l2,l3)=>bif decide (i1<aO.From.length) then Az (A1 i1 aO.From.length) ((K2 (aO.From.getD i1.toNat 0) a3 a5 a7).bind λx7=>(Fc l2 x7).bind λx8=>(CD l2 x8.1 [x7]).bind λx9=>Az (1=x9.2.2.length) (Az (A1 i1 aO.Args.length) ((G6 (aO.Args.getD i1.toNat 0) a3 a5 a7).bind λx12=>(CD l3 x8.1 [x12]).bind λx13=>Az (1=x13.2.2.length) (some (.next (w64 (i1+1),x9.2.1,x13.2.1)))))) else some (.done (l2,l3))
def na(l5:Ax):=(λi=>Aq (l5.getD i 0))
def nZ:AV:=fU
def UW(a7:List J8):=(Bt (λ(v_:Int)=>((Z5 v_):AV)) a7)
def vm(aO:TPhi):List AV:=[(Z5 aO.Bits),(Z5 aO.Dst),(Z6 aO.From),(Z6 aO.Args)]
def yL(aO:TPhi)(a3:Int)(a5:Int)(a7:List J8):=(⟨[cO,(3,(.ptr 3 0)),ZN,(5,(.vsl 36005 ([]:Ax).length)),(6,(.vsl 36006 ([]:Ax).length)),(12,(Z6 aO.From)),(b8 13 aO.From.length),(14,L9)],[(3,.row 67 (vm aO)),(4,.row 67 [L9,L9,Z0,Z0]),(Z8 a3 a5 9100002),(Z71 36005),(Z71 36006),(UY 9100002 (UW a7))],[]⟩:St)
def Ph(aO:TPhi)(a3:Int)(a5:Int)(a7:List J8):Option TPhi:=
 (Ac   (Jo aO a3 a5 a7) (0,[],[])).bind λx15=>match x15 with|(l4,l5)=>some ⟨aO.Bits,aO.Dst,l4,l5⟩
variable{v4:TPhi}{v41:TPhi}
theorem KB(h:Ph v4 v1 v11 v38=some v41):sP 140 [(.ptr 30000 0),(.agg (Ej v4))] [(Z8 v1 v11 9100002),(9100002,.obj (.map true .i64 (Bt (λ(v_:Int)=>((Z5 v_):AV)) v38)))] (.agg (Ej v41)) [(Z8 v1 v11 9100002),(9100002,.obj (.map true .i64 (Bt (λ(v_:Int)=>((Z5 v_):AV)) v38)))]:=
 sG Tryz.func140 λΓ q=>have hΓ:=q.own;Af q S8 ep (gR q TT ep [(5,nZ),(6,nZ)] [] (c2 (Bz 1 Aq (0:Int)) (Bz 1 Aq (0:Int))) (Af q UG ep (gLe (st':=(yL v4 v1 v11 v38)) (Le.trans (Bg (st':=⟨[cO,(3,(.ptr 3 0)),ZN,(5,nZ),(6,nZ),(12,(Z6 v4.From)),(b8 13 v4.From.length),(14,L9)],[(3,.row 67 (vm v4)),(4,.row 67 [L9,L9,Z0,Z0]),(Z8 v1 v11 9100002),(UY 9100002 (UW v38))],[]⟩) UG ep q) (Le.trans (Le.trans (QL (t:=5) (nm:=36005) (sz':=1) (λi=>Aq (([]:Ax).getD i 0)) 3 rfl rfl) (Bg (st':=⟨[cO,(3,(.ptr 3 0)),ZN,(5,(.vsl 36005 ([]:Ax).length)),(6,nZ),(12,(Z6 v4.From)),(b8 13 v4.From.length),(14,L9)],[(3,.row 67 (vm v4)),(4,.row 67 [L9,L9,Z0,Z0]),(Z8 v1 v11 9100002),(Z71 36005),(UY 9100002 (UW v38))],[]⟩) UG [3,4,30000,36005,9100002] q)) (Le.trans (QL (t:=6) (nm:=36006) (sz':=1) (λi=>Aq (([]:Ax).getD i 0)) 3 rfl rfl) (Bg (st':=(yL v4 v1 v11 v38)) UG UL q)))) (tL q h UG UL (λu (i1,l2,l3)=>(Cm u [(Vm 36005 l2.length),(6,(.vsl 36006 l3.length)),(14,(Z5 i1))] [(Z4 36005 l2),(Z4 36006 l3)])) (λu (l4,l5)=>aG Γ (.exit 0) (Nb [3,4,5,6] UL u [(Vm 36005 l4.length),(6,(.vsl 36006 l5.length))] [(Z4 36005 l4),(36006,.arr 1 3 l5.length (na l5))])) (λ⟨i1,l2,l3⟩ y h=>Af q [0,3,4,5,6,12,13,14,15] UL (gC h (λh=>tV q rE UL h λh=>tB h λx7 y7 h=>tT q rE UL [(yk x7 v1 v11 (UW v38))] (ci (T6 y7) (rkl [(.row 137 (cN v1 v11 9100002)),(.obj (.map true .i64 (UW v38)))])) (tB h λx8 y8 h=>tT q [0,3,4,5,6,7,8,9,12,13,14] UL [⟨[],[],(.tuple [(Z5 x8.1),(.bool x8.2)]),[],[36005],[]⟩] (c3 (Rw y8) (show(EE []) from trivial) (Eq.refl l2.length)) (tB h λx9 y9 h=>tC h λc10_ h=>tC h λc11_ h=>tB h λx12 y12 h=>tB h λx13 y13 h=>tC h λc14_ h=>gR q UG UL [(31,(.vsl 31 1)),(42,(.vsl 42 1))] [⟨rG,[],(.vsl 34000 x9.2.1.length),[(Z4 34000 x9.2.1),(Z4 34002 x9.2.2)],[],[]⟩,(yk x12 v1 v11 (UW v38)),⟨rH,[],(.vsl 34000 x13.2.1.length),[(Z4 34000 x13.2.1),(Z4 34002 x13.2.2)],[],[]⟩] (UN (SS l2 x8.1 [x7] x9 y9 (λi_=>AV.renAll rG ((λi_=>([(Z5 x7)].drop (i_*1)).take 1) i_)) (bU (n:=0) g6 rfl)) c11_ (Mk y12) (uR [(.row 137 (cN v1 v11 9100002)),(.obj (.map true .i64 (UW v38)))] (c1 (SS l3 x8.1 [x12] x13 y13 (λi_=>AV.renAll rH ((λi_=>([(Z5 x12)].drop (i_*1)).take 1) i_)) (bU (n:=0) g6 rfl))))) (Af q UG UL (tN h))))) λh=>tS h (gO (Be (Bg [3,4,5,6] UL q))))) λx15 h=>(match x15,h with|⟨l4,l5⟩,h=>gA (tW q [3,4] UL [4] [4,30000,36005,36006,9100002] (Qa (⟨[ZN],[(4,.row 67 [(Z5 v4.Bits),(Z5 v4.Dst),(.vsl 36005 l4.length),(.vsl 36006 l5.length)]),(Z8 v1 v11 9100002),(Z4 36005 l4),(36006,.arr 1 3 l5.length (na l5)),(UY 9100002 (UW v38))],[]⟩:St) (tS h (gK (e:=.ret) (H7 YV (Le.trans (Le.trans (le_freeze (nm:=36005) (sz:=1) (n:=l4.length) (e:=3) (f:=(λi=>Aq (l4.getD i 0))) (g:=(λi=>Aq (l4.getD i 0))) rfl ⟨rfl,trivial⟩ (λ_ _=>rfl) (by rw[hΓ];rfl)) (Gt (st':=⟨[ZN],[(4,.row 67 [(Z5 v4.Bits),(Z5 v4.Dst),(Wa l4 36005),(.vsl 36006 l5.length)]),(Z8 v1 v11 9100002),(Yu 36005 l4.length),(36006,.arr 1 3 l5.length (na l5)),(UY 9100002 (UW v38))],[]⟩) (by kernel_rfl))) (Le.trans (le_freeze (nm:=36006) (sz:=1) (n:=l5.length) (e:=3) (f:=(na l5)) (g:=(na l5)) rfl ⟨rfl,trivial⟩ (λ_ _=>rfl) (by rw[hΓ];rfl)) (Gt (st':=⟨[ZN],[(4,.row 67 [(Z5 v4.Bits),(Z5 v4.Dst),(Wa l4 36005),(Wa l5 36006)]),(Z8 v1 v11 9100002),(Yu 36005 l4.length),(Yu 36006 l5.length),(UY 9100002 (UW v38))],[]⟩) (by kernel_rfl))))))))))))))
def Qz(aA:Ax)(a3:Int)(a5:Int)(a7:List J8):eg->Option qx:=
 λ(i2,l3)=>bif decide (i2<aA.length) then Az (A1 i2 aA.length) ((G6 (aA.getD i2.toNat 0) a3 a5 a7).bind λx6=>Az (A1 i2 l3.length) (some (.next (w64 (i2+1),l3.set i2.toNat x6)))) else some (.done l3)
def sU(a7:List J8):=(Bt (λ(v_:Int)=>((Z5 v_):AV)) a7)
def Ux(aA:Ax)(a3:Int)(a5:Int)(a7:List J8):Option Ax:=
 Az (0<=(aA.length:Int)/\(aA.length:Int)<=aA.length/\aA.length<=(room:Int)) ((Ac   (Qz aA a3 a5 a7) (0,List.replicate (aA.length:Int).toNat 0)).bind λx8=>some x8)
theorem bR(h:Ux v2 v1 v11 v38=some v17):sP 141 [(Z6 v2),(.clo 83 OX [])] [(Z8 v1 v11 9100002),(9100002,.obj (.map true .i64 (Bt (λ(v_:Int)=>((Z5 v_):AV)) v38)))] (Wa v17 20000) [(Z8 v1 v11 9100002),(9100002,.obj (.map true .i64 (Bt (λ(v_:Int)=>((Z5 v_):AV)) v38))),(Yu 20000 v17.length)]:=
 sG Tryz.func141 λΓ q=>have hΓ:=q.own;gR q Gm S5 [(4,fU)] [] (c1 (Bz 1 Aq (0:Int))) (tV q Nh So h λh=>by exact gLe (Le.trans (Sq 10 (show ∀ k_,k_<((v2.length:Int).toNat)->AVleL ((λi_=>AV.eraseAll (λn_=>Bv n_ So) ((λ_=>[L9]) i_)) k_) ((λi=>Aq ((List.replicate (v2.length:Int).toNat (0:Int)).getD i 0)) k_) from(λk hk=>M9 (e:=Aq) (d:=(0:Int)) (.cons (AVle.refl _) .nil) _ k (Na hk)))) (Sc (λ(k_:Nat) u=>(Cm u [(Vm 10 k_)] (Z72 10 k_ v2.length))) (show(v2.length:Int).toNat=(List.replicate (v2.length:Int).toNat (0:Int)).length from(Oa ..).symm))) (Af q MW So (tL q h MW So (λu (i2,l3)=>(Cm u [(Vm 10 l3.length),(13,(Z5 i2))] [(Z4 10 l3)])) (λu l4=>aG Γ (.exit 0) (Nb [5] So u [(Vm 10 l4.length)] [(Z4 10 l4)])) (λ⟨i2,l3⟩ y h=>Af q [1,5,11,12,13,14] So (gC h (λh=>tV q [1,5,6,7,11,12,13] So h λh=>tB h λx6 y6 h=>tC h λc7_ h=>tT q MW So [(yk x6 v1 v11 (sU v38))] (ci (Mk y6) (uR [(.row 137 (cN v1 v11 9100002)),(.obj (.map true .i64 (sU v38)))] (c2 c7_ (Eq.refl l3.length)))) (gLe (Le.trans (Sq 10 (show ∀ k_,k_<l3.length->AVleL ((λi_=>AV.eraseAll (λn_=>Bv n_ So) ((Fa (λi=>Aq (l3.getD i 0)) i2.toNat 0 [(Z5 x6)]) i_)) k_) ((λi=>Aq ((l3.set i2.toNat x6).getD i 0)) k_) from(Bh (Db ..).symm (λk_ hk_=>(Bi (AV.eraseAll (λn_=>Bv n_ So)) ((Fs (λ_ _=>rfl) (Hx c7_) rfl) k_ hk_)).trans rfl)))) (Sc (λ(k_:Nat) u=>(Cm u [(Vm 10 k_)] [(10,.arr 1 3 k_ (λi=>Aq ((l3.set i2.toNat x6).getD i 0)))])) (show l3.length=(l3.set i2.toNat x6).length from(Db ..).symm))) (Af q MW So (tN h)))) λh=>tS h (gO (Be (Bg [5] So q))))) λx8 h=>gA (Af q [4] So (Qa (⟨[(4,(.vsl 10 x8.length))],[(Z4 10 x8),(Z8 v1 v11 9100002),(UY 9100002 (sU v38))],[]⟩:St) (tS h (gK (e:=.ret) (H7 vR (Le.trans (le_freeze (nm:=10) (sz:=1) (n:=x8.length) (e:=3) (f:=(λi=>Aq (x8.getD i 0))) (g:=(λi=>Aq (x8.getD i 0))) rfl ⟨rfl,trivial⟩ (λ_ _=>rfl) (by rw[hΓ];rfl)) (Gt (st':=⟨[(4,(Wa x8 10))],[(Yu 10 x8.length),(Z8 v1 v11 9100002),(UY 9100002 (sU v38))],[]⟩) (by kernel_rfl)))))))))))
def M8(aA:Ax)(a3:Int)(a5:Int)(a7:List J8):eg->Option qx:=
 λ(i2,l3)=>bif decide (i2<aA.length) then Az (A1 i2 aA.length) ((K2 (aA.getD i2.toNat 0) a3 a5 a7).bind λx6=>Az (A1 i2 l3.length) (some (.next (w64 (i2+1),l3.set i2.toNat x6)))) else some (.done l3)
def sV(a7:List J8):=(Bt (λ(v_:Int)=>((Z5 v_):AV)) a7)
def Q0(aA:Ax)(a3:Int)(a5:Int)(a7:List J8):Option Ax:=
 Az (0<=(aA.length:Int)/\(aA.length:Int)<=aA.length/\aA.length<=(room:Int)) ((Ac   (M8 aA a3 a5 a7) (0,List.replicate (aA.length:Int).toNat 0)).bind λx8=>some x8)
theorem NP(h:Q0 v2 v1 v11 v38=some v17):sP 141 [(Z6 v2),(.clo 142 OX [])] [(Z8 v1 v11 9100002),(9100002,.obj (.map true .i64 (Bt (λ(v_:Int)=>((Z5 v_):AV)) v38)))] (Wa v17 20000) [(Z8 v1 v11 9100002),(9100002,.obj (.map true .i64 (Bt (λ(v_:Int)=>((Z5 v_):AV)) v38))),(Yu 20000 v17.length)]:=
 sG Tryz.func141 λΓ q=>have hΓ:=q.own;gR q Gm S5 [(4,fU)] [] (c1 (Bz 1 Aq (0:Int))) (tV q Nh So h λh=>by exact gLe (Le.trans (Sq 10 (show ∀ k_,k_<((v2.length:Int).toNat)->AVleL ((λi_=>AV.eraseAll (λn_=>Bv n_ So) ((λ_=>[L9]) i_)) k_) ((λi=>Aq ((List.replicate (v2.length:Int).toNat (0:Int)).getD i 0)) k_) from(λk hk=>M9 (e:=Aq) (d:=(0:Int)) (.cons (AVle.refl _) .nil) _ k (Na hk)))) (Sc (λ(k_:Nat) u=>(Cm u [(Vm 10 k_)] (Z72 10 k_ v2.length))) (show(v2.length:Int).toNat=(List.replicate (v2.length:Int).toNat (0:Int)).length from(Oa ..).symm))) (Af q MW So (tL q h MW So (λu (i2,l3)=>(Cm u [(Vm 10 l3.length),(13,(Z5 i2))] [(Z4 10 l3)])) (λu l4=>aG Γ (.exit 0) (Nb [5] So u [(Vm 10 l4.length)] [(Z4 10 l4)])) (λ⟨i2,l3⟩ y h=>Af q [1,5,11,12,13,14] So (gC h (λh=>tV q [1,5,6,7,11,12,13] So h λh=>tB h λx6 y6 h=>tC h λc7_ h=>tT q MW So [(yk x6 v1 v11 (sV v38))] (ci (T6 y6) (uR [(.row 137 (cN v1 v11 9100002)),(.obj (.map true .i64 (sV v38)))] (c2 c7_ (Eq.refl l3.length)))) (gLe (Le.trans (Sq 10 (show ∀ k_,k_<l3.length->AVleL ((λi_=>AV.eraseAll (λn_=>Bv n_ So) ((Fa (λi=>Aq (l3.getD i 0)) i2.toNat 0 [(Z5 x6)]) i_)) k_) ((λi=>Aq ((l3.set i2.toNat x6).getD i 0)) k_) from(Bh (Db ..).symm (λk_ hk_=>(Bi (AV.eraseAll (λn_=>Bv n_ So)) ((Fs (λ_ _=>rfl) (Hx c7_) rfl) k_ hk_)).trans rfl)))) (Sc (λ(k_:Nat) u=>(Cm u [(Vm 10 k_)] [(10,.arr 1 3 k_ (λi=>Aq ((l3.set i2.toNat x6).getD i 0)))])) (show l3.length=(l3.set i2.toNat x6).length from(Db ..).symm))) (Af q MW So (tN h)))) λh=>tS h (gO (Be (Bg [5] So q))))) λx8 h=>gA (Af q [4] So (Qa (⟨[(4,(.vsl 10 x8.length))],[(Z4 10 x8),(Z8 v1 v11 9100002),(UY 9100002 (sV v38))],[]⟩:St) (tS h (gK (e:=.ret) (H7 vR (Le.trans (le_freeze (nm:=10) (sz:=1) (n:=x8.length) (e:=3) (f:=(λi=>Aq (x8.getD i 0))) (g:=(λi=>Aq (x8.getD i 0))) rfl ⟨rfl,trivial⟩ (λ_ _=>rfl) (by rw[hΓ];rfl)) (Gt (st':=⟨[(4,(Wa x8 10))],[(Yu 10 x8.length),(Z8 v1 v11 9100002),(UY 9100002 (sV v38))],[]⟩) (by kernel_rfl)))))))))))
def K0(a2:Ae)(a3:Int)(a5:Int)(a7:List J8):(Int×List TPhi)->Option (LR (Int×List TPhi) (List TPhi)):=
 λ(i2,l3)=>bif decide (i2<a2.Phis.length) then Az (A1 i2 a2.Phis.length) ((Ph (a2.Phis.getD i2.toNat default) a3 a5 a7).bind λx6=>Az (A1 i2 l3.length) (some (.next (w64 (i2+1),l3.set i2.toNat ⟨x6.Bits,x6.Dst,x6.From,x6.Args⟩)))) else some (.done l3)
def K1(a2:Ae)(a3:Int)(a5:Int)(a7:List J8):(Int×List TOp)->Option (LR (Int×List TOp) (List TOp)):=
 λ(i11,l12)=>bif decide (i11<a2.Ops.length) then Az (A1 i11 a2.Ops.length) ((Ux (a2.Ops.getD i11.toNat default).Args a3 a5 a7).bind λx15=>Az (A1 i11 l12.length) (some (.next (w64 (i11+1),l12.set i11.toNat ⟨(a2.Ops.getD i11.toNat default).Kind,(a2.Ops.getD i11.toNat default).Bits,(a2.Ops.getD i11.toNat default).Lanes,(a2.Ops.getD i11.toNat default).Dst,x15,(a2.Ops.getD i11.toNat default).Imm⟩)))) else some (.done l12)
def FD(a2:Ae)(i11:Int):=(a2.Ops.getD i11.toNat default)
def nd(x8:List TPhi):=(λi=>Ej (x8.getD i default))
def IW(a7:List J8):=(Bt (λ(v_:Int)=>((Z5 v_):AV)) a7)
def vp(a2:Ae):=(List.replicate (a2.Ops.length:Int).toNat (default:TOp))
def vo(a2:Ae):=(List.replicate (a2.Phis.length:Int).toNat (default:TPhi))
def sW(a3:Int)(a5:Int):Own:=(.row 137 (cN a3 a5 9100002))
def vq(l12:List TOp)(i11:Int)(a2:Ae)(x15:Ax):=(l12.set i11.toNat (⟨(FD a2 i11).Kind,(FD a2 i11).Bits,(FD a2 i11).Lanes,(FD a2 i11).Dst,x15,(FD a2 i11).Imm⟩:TOp))
def nb:List AV:=[Z0,Z0,L9,L9,Z0]
def yN(a2:Ae):List AV:=[(xf a2.Phis),(xg a2.Ops),(Z5 a2.End.Kind),(Z5 a2.End.Arg),(Z6 a2.End.To)]
def yO(a2:Ae)(i11:Int)(x15:Ax):List AV:=[(.int .i64 (FD a2 i11).Kind),(.int .i64 (FD a2 i11).Bits),(.int .i64 (FD a2 i11).Lanes),(.int .i64 (FD a2 i11).Dst),(Z6 x15),(.int .u64 (FD a2 i11).Imm)]
def yM(x8:List TPhi)(l12:List TOp)(i11:Int)(a2:Ae):List MQ:=[cO,(3,(.ptr 3 0)),ZN,(Vm 15 x8.length),(8,(.vsl 34 l12.length)),(9,(Z5 i11)),(10,(.ptr 10 0)),(36,(xg a2.Ops)),(b8 37 a2.Ops.length),(38,(Z5 i11))]
def Kz(a2:Ae)(a3:Int)(a5:Int)(a7:List J8):Option Ae:=
 Az (0<=(a2.Phis.length:Int)/\a2.Phis.length<=(a2.Phis.length:Int)/\a2.Phis.length<=(room:Int)) ((Ac   (K0 a2 a3 a5 a7) (0,List.replicate (a2.Phis.length:Int).toNat default)).bind λx8=>Az (0<=(a2.Ops.length:Int)/\(a2.Ops.length:Int)<=a2.Ops.length/\a2.Ops.length<=(room:Int)) ((Ac   (K1 a2 a3 a5 a7) (0,List.replicate (a2.Ops.length:Int).toNat default)).bind λx17=>(G6 a2.End.Arg a3 a5 a7).bind λx19=>(Q0 a2.End.To a3 a5 a7).bind λx20=>some ⟨x8,x17,⟨a2.End.Kind,x19,x20⟩⟩))
variable{v42:Ae}{v9:Ae}
theorem T5(h:Kz v9 v1 v11 v38=some v42):sP 85 [(.ptr 30000 0),(.agg (Cg v9))] [(Z8 v1 v11 9100002),(9100002,.obj (.map true .i64 (Bt (λ(v_:Int)=>((Z5 v_):AV)) v38)))] (.agg (Cg v42)) [(Z8 v1 v11 9100002),(9100002,.obj (.map true .i64 (Bt (λ(v_:Int)=>((Z5 v_):AV)) v38)))]:=
 sG Tryz.func85 λΓ q=>have hΓ:=q.own;Af q S8 ep (tV q bw CQ h λh=>by exact gLe (Le.trans (Sq 15 (show ∀ k_,k_<((v9.Phis.length:Int).toNat)->AVleL ((λi_=>AV.eraseAll (λn_=>Bv n_ CQ) ((λ_=>[L9,L9,Z0,Z0]) i_)) k_) ((λi=>Ej ((vo v9).getD i default)) k_) from(λk hk=>M9 (e:=Ej) (d:=(default:TPhi)) (.cons (AVle.refl _) (.cons (AVle.refl _) (.cons (λ_ _ _ _ _ hh=>AVle.untag _ _ _ _ _ (Eh _ _ _ _ _ hh)) (.cons (λ_ _ _ _ _ hh=>AVle.untag _ _ _ _ _ (Eh _ _ _ _ _ hh)) .nil)))) _ k (Na hk)))) (Sc (λ(k_:Nat) u=>(Cm u [(Vm 15 k_)] [(15,.arr 4 67 k_ (λi=>Ej ((vo v9).getD i default)))])) (show(v9.Phis.length:Int).toNat=(vo v9).length from(Oa ..).symm))) (Af q kj CQ (tL q h kj CQ (λu (i2,l3)=>(Cm u [(Vm 15 l3.length),(19,(Z5 i2))] (nz 15 l3))) (λu l4=>aG Γ (.exit 0) (Nb bw CQ u [(Vm 15 l4.length)] (nz 15 l4))) (λ⟨i2,l3⟩ y h=>Af q [0,3,4,5,17,18,19,20] CQ (gC h (λh=>tV q [0,3,4,5,6,7,17,18,19] [3,4,7,15,30000,9100002] h λh=>tB h λx6 y6 h=>tC h λc7_ h=>tT q kj CQ [⟨YV,[],(.agg (Ej x6)),[(Z8 v1 v11 9100002),(UY 9100002 (IW v38))],[],S5⟩] (ci (KB y6) (uR [(sW v1 v11),(.obj (.map true .i64 (IW v38)))] (c2 c7_ (Eq.refl l3.length)))) (gLe (Le.trans (Sq 15 (show ∀ k_,k_<l3.length->AVleL ((λi_=>AV.eraseAll (λn_=>Bv n_ CQ) ((Fa (λi=>Ej (l3.getD i default)) i2.toNat 0 (Ej x6)) i_)) k_) ((λi=>Ej ((l3.set i2.toNat (⟨x6.Bits,x6.Dst,x6.From,x6.Args⟩:TPhi)).getD i default)) k_) from(Bh (Db ..).symm (λk_ hk_=>(Bi (AV.eraseAll (λn_=>Bv n_ CQ)) ((Fs (λ_ _=>rfl) (Hx c7_) rfl) k_ hk_)).trans rfl)))) (Sc (λ(k_:Nat) u=>(Cm u [(Vm 15 k_)] [(15,.arr 4 67 k_ (λi=>Ej ((l3.set i2.toNat (⟨x6.Bits,x6.Dst,x6.From,x6.Args⟩:TPhi)).getD i default)))])) (show l3.length=(l3.set i2.toNat (⟨x6.Bits,x6.Dst,x6.From,x6.Args⟩:TPhi)).length from(Db ..).symm))) (Af q kj CQ (tN h)))) λh=>tS h (gO (Be (Bg bw CQ q))))) λx8 h=>gA (tV q iw CN h λh=>by exact gLe (Le.trans (Sq 34 (show ∀ k_,k_<((v9.Ops.length:Int).toNat)->AVleL ((λi_=>AV.eraseAll (λn_=>Bv n_ CN) ((λ_=>[L9,L9,L9,L9,Z0,(.int .u64 (0:Int))]) i_)) k_) ((λi=>Lm ((vp v9).getD i default)) k_) from(λk hk=>M9 (e:=Lm) (d:=(default:TOp)) (.cons (AVle.refl _) (.cons (AVle.refl _) (.cons (AVle.refl _) (.cons (AVle.refl _) (.cons (λ_ _ _ _ _ hh=>AVle.untag _ _ _ _ _ (Eh _ _ _ _ _ hh)) (.cons (AVle.refl _) .nil)))))) _ k (Na hk)))) (Sc (λ(k_:Nat) u=>(Cm u [(8,(.vsl 34 k_))] [(34,.arr 6 70 k_ (λi=>Lm ((vp v9).getD i default)))])) (show(v9.Ops.length:Int).toNat=(vp v9).length from(Oa ..).symm))) (Af q kg CN (tL q h kg CN (λu (i11,l12)=>(Cm u [(8,(.vsl 34 l12.length)),(38,(Z5 i11))] [(fV 34 l12)])) (λu l13=>aG Γ (.exit 2) (Nb iw CN u [(8,(.vsl 34 l13.length))] [(fV 34 l13)])) (λ⟨i11,l12⟩ y h=>Af q [0,3,4,5,8,36,37,38,39] CN (gC h (λh=>tV q rT rD h λh=>tB h λx15 y15 h=>tT q rT [3,4,10,15,34,47,30000,9100002] [(Z85 47 x15 v1 v11 (IW v38) x15.length)] (ci (bR y15) (rkl [(sW v1 v11),(.obj (.map true .i64 (IW v38)))])) (Qa (⟨(yM x8 l12 i11 v9),[(3,.row 64 (yN v9)),(4,.row 64 nb),(10,.row 70 [(.int .i64 (FD v9 i11).Kind),(.int .i64 (FD v9 i11).Bits),(.int .i64 (FD v9 i11).Lanes),(.int .i64 (FD v9 i11).Dst),(Wa x15 47),(.int .u64 (FD v9 i11).Imm)]),(15,.arr 4 67 x8.length (nd x8)),(fV 34 l12),(Yu 47 x15.length),(Z8 v1 v11 9100002),(UY 9100002 (IW v38))],[]⟩:St) (gLe (show Le Γ _ (⟨(yM x8 l12 i11 v9),[(3,.row 64 (yN v9)),(4,.row 64 nb),(10,.row 70 (yO v9 i11 x15)),(15,.arr 4 67 x8.length (nd x8)),(fV 34 l12),(Z8 v1 v11 9100002),(UY 9100002 (IW v38))],[]⟩:St) from Bg rT rD q) (tC h λc16_ h=>tU q kg CN (c2 c16_ (Eq.refl l12.length)) (gLe (Le.trans (Sq 34 (show ∀ k_,k_<l12.length->AVleL ((λi_=>AV.eraseAll (λn_=>Bv n_ CN) ((Fa (λi=>Lm (l12.getD i default)) i11.toNat 0 (yO v9 i11 x15)) i_)) k_) ((λi=>Lm ((vq l12 i11 v9 x15).getD i default)) k_) from(Bh (Db ..).symm (λk_ hk_=>(Bi (AV.eraseAll (λn_=>Bv n_ CN)) ((Fs (λ_ _=>rfl) (Hx c16_) rfl) k_ hk_)).trans rfl)))) (Sc (λ(k_:Nat) u=>(Cm u [(8,(.vsl 34 k_))] [(34,.arr 6 70 k_ (λi=>Lm ((vq l12 i11 v9 x15).getD i default)))])) (show l12.length=(vq l12 i11 v9 x15).length from(Db ..).symm))) (Af q kg CN (tN h))))))) λh=>tS h (gO (Be (Bg iw CN q))))) λx17 h=>gA (tB h λx19 y19 h=>tB h λx20 y20 h=>tT q [4,5,8,11] [4,11,15,34,67,30000,9100002] [(yk x19 v1 v11 (IW v38)),(Z85 67 x20 v1 v11 (IW v38) x20.length)] (ci (Mk y19) (uR [(sW v1 v11),(.obj (.map true .i64 (IW v38)))] (ci (NP y20) (rkl [(sW v1 v11),(.obj (.map true .i64 (IW v38)))])))) (Qa (⟨[ZN,(Vm 15 x8.length),(8,(.vsl 34 x17.length)),(11,(.ptr 11 0))],[(4,.row 64 nb),(11,.row 62 [(Z5 v9.End.Kind),(Z5 x19),(Wa x20 67)]),(15,.arr 4 67 x8.length (nd x8)),(fV 34 x17),(Yu 67 x20.length),(Z8 v1 v11 9100002),(UY 9100002 (IW v38))],[]⟩:St) (gLe (Le.trans (le_freeze (nm:=15) (sz:=4) (n:=x8.length) (e:=67) (f:=(nd x8)) (g:=(nd x8)) rfl ⟨rfl,trivial⟩ (λ_ _=>rfl) (by rw[hΓ];rfl)) (Gt (st':=⟨[ZN,(5,(AV.list 4 Ej default x8 (.own 15))),(8,(.vsl 34 x17.length)),(11,(.ptr 11 0))],[(4,.row 64 nb),(11,.row 62 [(Z5 v9.End.Kind),(Z5 x19),(Wa x20 67)]),(15,.tok 4 67 x8.length),(fV 34 x17),(Yu 67 x20.length),(Z8 v1 v11 9100002),(UY 9100002 (IW v38))],[]⟩) (by kernel_rfl))) (gLe (Le.trans (le_freeze (nm:=34) (sz:=6) (n:=x17.length) (e:=70) (f:=(λi=>Lm (x17.getD i default))) (g:=(λi=>Lm (x17.getD i default))) rfl ⟨rfl,trivial⟩ (λ_ _=>rfl) (by rw[hΓ];rfl)) (Gt (st':=⟨[ZN,(5,(AV.list 4 Ej default x8 (.own 15))),(8,(wS x17 34)),(11,(.ptr 11 0))],[(4,.row 64 nb),(11,.row 62 [(Z5 v9.End.Kind),(Z5 x19),(Wa x20 67)]),(15,.tok 4 67 x8.length),(34,.tok 6 70 x17.length),(Yu 67 x20.length),(Z8 v1 v11 9100002),(UY 9100002 (IW v38))],[]⟩) (by kernel_rfl))) (Af q [4] [4,15,34,67,30000,9100002] (tS h (Ca YV)))))))))))))
open Go Go.RowKit
set_option maxRecDepth 100000
set_option maxHeartbeats 2000000
def G4(a2:TFunc)(a3:Int)(a5:Int):zu->Option zw:=
 λ(i3,l4)=>bif decide (i3<(a2.Blocks.getD a5.toNat default).Phis.length) then Az (A1 i3 (a2.Blocks.getD a5.toNat default).Phis.length) (Az (A1 0 ((a2.Blocks.getD a5.toNat default).Phis.getD i3.toNat default).Args.length) ((G6 (((a2.Blocks.getD a5.toNat default).Phis.getD i3.toNat default).Args.getD (0:Int).toNat 0) a3 a5 l4).bind λx8=>some (.next (w64 (i3+1),Jq l4 ((a2.Blocks.getD a5.toNat default).Phis.getD i3.toNat default).Dst x8)))) else some (.done l4)
abbrev z8:=(LR (Int×List Ae) (List Ae))
def G5(a2:TFunc)(a3:Int)(a5:Int)(l5:List J8)(x11:List TOp):(Int×List Ae)->Option z8:=
 λ(i12,l13)=>bif decide (i12<a2.Blocks.length) then Option.bind  (Az (A1 i12 a2.Blocks.length) (bif i12==a3 then(Kz ⟨(a2.Blocks.getD a3.toNat default).Phis,x11,⟨(a2.Blocks.getD a5.toNat default).End.Kind,(a2.Blocks.getD a5.toNat default).End.Arg,(a2.Blocks.getD a5.toNat default).End.To⟩⟩ a3 a5 l5).bind λx17=>Az (l13.length+[(⟨x17.Phis,x17.Ops,⟨x17.End.Kind,x17.End.Arg,x17.End.To⟩⟩:Ae)].length<=room) (some (l13++[⟨x17.Phis,x17.Ops,⟨x17.End.Kind,x17.End.Arg,x17.End.To⟩⟩])) else bif i12==a5 then some l13 else(Kz (a2.Blocks.getD i12.toNat default) a3 a5 l5).bind λx19=>Az (l13.length+[(⟨x19.Phis,x19.Ops,⟨x19.End.Kind,x19.End.Arg,x19.End.To⟩⟩:Ae)].length<=room) (some (l13++[⟨x19.Phis,x19.Ops,⟨x19.End.Kind,x19.End.Arg,x19.End.To⟩⟩])))) λx21=>some (.next (w64 (i12+1),x21)) else some (.done l13)
def Zj:=(λ(v_:Int)=>((Z5 v_):AV))
def UX(a2:TFunc):AV:=(Z6 a2.Params)
def vu:AV:=(AV.list 5 Cg default ([]:List Ae) .exact)
def vt:List AV:=[Z0,L9,Z0]
def yR(a2:TFunc)(a5:Int)(i3:Int):=(((a2.Blocks.getD a5.toNat default).Phis).getD i3.toNat default)
def sX(x17:Ae):=([(⟨x17.Phis,x17.Ops,(⟨x17.End.Kind,x17.End.Arg,x17.End.To⟩:Ou)⟩:Ae)]:List Ae)
def sY(x19:Ae):=([(⟨x19.Phis,x19.Ops,(⟨x19.End.Kind,x19.End.Arg,x19.End.To⟩:Ou)⟩:Ae)]:List Ae)
def yQ(a2:TFunc)(a3:Int)(a5:Int):=([(a2.Blocks.getD a3.toNat default).Ops,(a2.Blocks.getD a5.toNat default).Ops]:List (List TOp))
def yP(a2:TFunc):List MQ:=[cO,ZN,fA,(9,(.ptr 9 0)),(68,(OY a2.Blocks)),(b8 69 a2.Blocks.length),(70,L9)]
def vr(a2:TFunc)(a3:Int)(x11:List TOp)(a5:Int):List AV:=[(AV.list 4 Ej default (a2.Blocks.getD a3.toNat default).Phis .none),(wS x11 57),(.int .i64 (a2.Blocks.getD a5.toNat default).End.Kind),(.int .i64 (a2.Blocks.getD a5.toNat default).End.Arg),(AV.list 1 Aq 0 (a2.Blocks.getD a5.toNat default).End.To .none)]
def yS(a2:TFunc)(a3:Int)(x11:List TOp)(a5:Int)(x9:List J8):=(⟨(yP a2),[(4,.row 25 vt),(5,.row 64 (vr a2 a3 x11 a5)),(9,.row 25 [(UX a2),(Z5 a2.Ret),(AV.list 5 Cg default ([]:List Ae) (.own 5902))]),(29,.obj (.map true .i64 (Bt Zj x9))),(57,.tok 6 70 x11.length),(5902,.tok 5 64 (([]:List Ae).length)),(Z8 a3 a5 29)],[]⟩:St)
abbrev Aaa:=(TFunc×Int×Int×List (Int×Int))
def E9(a2:TFunc)(a3:Int)(a5:Int):Option Aaa:=
 Az (A1 a3 a2.Blocks.length) (Az (A1 a5 a2.Blocks.length) ((Ac   (G4 a2 a3 a5) (0,[])).bind λx9=>(Fd [(a2.Blocks.getD a3.toNat default).Ops,(a2.Blocks.getD a5.toNat default).Ops]).bind λx11=>(Ac   (G5 a2 a3 a5 x9 x11) (0,[])).bind λx23=>some (⟨a2.Params,a2.Ret,x23⟩,a3,a5,x9)))
variable{v43:Aaa}
theorem Sf(h:E9 v0 v1 v11=some v43):sP 47 [(.ptr 30000 0),(Vn v0)] (yv 30000 v1 v11) (Vn v43.1) [(Z8 v43.2.1 v43.2.2.1 9200002),(9200002,.obj (.map false .i64 (Bt (λ(v_:Int)=>((Z5 v_):AV)) v43.2.2.2)))]:=
 sG Tryz.func47 λΓ q=>Af q S8 [3,4,30000] (tC h λc1_ h=>tC h λc2_ h=>tU q TT [3,4,5,6,30000] (c2 c1_ c2_) (Af q TT MV (gLe (Sc (λ(k_:List mn) u=>Cm u [] [(UY 29 k_)]) (show[]=(Bt Zj ([]:List J8)) from rfl)) (Af q kh MV (tL q h kh MV (λu (i3,l4)=>(Cm u [(35,(Z5 i3))] [(29,.obj (.map true .i64 (Bt Zj l4)))])) (λu l5=>aG Γ (.exit 0) (Nb TT MV u [] [(29,.obj (.map true .i64 (Bt Zj l5)))])) (λ⟨i3,l4⟩ y h=>Af q [0,3,4,5,6,33,34,35,36] MV (gC h (λh=>tV q [0,3,4,5,6,8,33,34,35] [3,4,5,6,8,29,30000] h λh=>tC h λc7_ h=>tB h λx8 y8 h=>tT q kh MV [⟨iQ,[],(Z5 x8),[(Z8 v1 v11 9100002),(9100002,.obj (.map true .i64 (Bt Zj l4)))],[],[30000,29]⟩] (fq c7_ (Mk y8) (rkl [(.row 137 (cN v1 v11 29)),(.obj (.map true .i64 (Bt Zj l4)))])) (gLe (Sc (λ(k_:List mn) u=>Cm u [] [(UY 29 k_)]) (show(Jq (Bt Zj l4) (yR v0 v11 i3).Dst (Z5 x8))=(Bt Zj (Jq l4 (yR v0 v11 i3).Dst x8)) from(bD (f:=Zj) (l:=l4) (v:=x8) rfl rfl))) (Af q kh MV (tN h)))) λh=>tS h (gO (Be (Bg TT MV q))))) λx9 h=>gA (tB h λx11 y11 h=>gR q bw [3,4,5,29,57,30000] [(56,(AV.list 1 WT [] (yQ v0 v1 v11) .exact))] [⟨[],[(20000,57)],(wS x11 20000),[(20000,.tok 6 70 x11.length)],[],[]⟩] (c2 (Bq 1 WT [] (yQ v0 v1 v11)) (Rx y11)) (gR q [0,3,4,5,9] [3,4,5,9,29,57,30000] [(66,(.agg [(UX v0),(Z5 v0.Ret),vu]))] [] (c1 (show(AVle (.agg [(UX v0),(Z5 v0.Ret),Z0]) (.agg [(UX v0),(Z5 v0.Ret),vu])) from(AVle.agg (.cons (AVle.refl _) (.cons (AVle.refl _) (.cons Eh .nil)))))) (Af q MU rO (gLe (st':=(yS v0 v1 x11 v11 x9)) (Le.trans (Bg (st':=⟨(yP v0),[(4,.row 25 vt),(5,.row 64 (vr v0 v1 x11 v11)),(9,.row 25 [(UX v0),(Z5 v0.Ret),vu]),(29,.obj (.map true .i64 (Bt Zj x9))),(57,.tok 6 70 x11.length),(Z8 v1 v11 29)],[]⟩) MU rO q) (Le.trans (BA (r:=9) (j:=2) (nm:=5902) (sz':=5) (λi=>Cg (([]:List Ae).getD i default)) 64 rfl rfl (nl rfl) rfl (.inl ⟨rfl,rfl⟩) (λh_=>absurd h_ (by decide))) (Bg (st':=(yS v0 v1 x11 v11 x9)) MU UF q))) (tL q h MU UF (λu (i12,l13)=>(Cm u [(70,(Z5 i12))] [(9,.row 25 [(UX v0),(Z5 v0.Ret),(wR l13 5902)]),(Ln 5902 64 l13.length)])) (λu l14=>aG Γ (.exit 2) (Nb [4,9] rP u [] [(9,.row 25 [(UX v0),(Z5 v0.Ret),(wR l14 5902)]),(Ln 5902 64 l14.length)])) (λ⟨i12,l13⟩ y h=>Af q [0,4,5,9,68,69,70,71] UF (gC h (λh=>tB h λx21 y21 h=>gJ y21 (λl15=>aG Γ .normal (⟨[cO,ZN,fA,(9,(.ptr 9 0)),(68,(OY v0.Blocks)),(b8 69 v0.Blocks.length),(70,(Z5 i12))],[(4,.row 25 vt),(5,.row 64 (vr v0 v1 x11 v11)),(9,.row 25 [(UX v0),(Z5 v0.Ret),(wR l15 5902)]),(29,.obj (.map true .i64 (Bt Zj x9))),(57,.tok 6 70 x11.length),(Ln 5902 64 l15.length),(Z8 v1 v11 29)],[]⟩:St)) (λy h=>tV q [0,4,5,9,10,11,68,69,70] kV h λh=>tW q [0,4,5,9,11,68,69,70,75] kV [0,4,5,9,11,68,69,70,75,84] kV (gC h (λh=>tB h λx17 y17 h=>tC h λc18_ h=>gR q MU UF (Z60 95 (sX x17) 96 l13 5902) [⟨iQ,[],(.agg (Cg x17)),[(Z8 v1 v11 9100002),(9100002,.obj (.map true .i64 (Bt Zj x9)))],[],[30000,29]⟩] (ci (T5 y17) (uR [(.row 137 (cN v1 v11 29)),(.obj (.map true .i64 (Bt Zj x9)))] (c5 (Bq 5 Cg (default:Ae) (sX x17)) (Eq.refl l13.length) c18_ (I7 5 5902 Cg (default:Ae) l13 (sX x17)) (E0 l13 (sX x17))))) (tS h (gK (Be H8)))) λh=>Af q [0,4,5,9,11,68,69,70,98] kV (gC h (λh=>tS h (gK (Be (Bg MU UF q)))) λh=>tB h λx19 y19 h=>tC h λc20_ h=>gR q MU UF (Z60 81 (sY x19) 82 l13 5902) [⟨iQ,[],(.agg (Cg x19)),[(Z8 v1 v11 9100002),(9100002,.obj (.map true .i64 (Bt Zj x9)))],[],[30000,29]⟩] (ci (T5 y19) (uR [(.row 137 (cN v1 v11 29)),(.obj (.map true .i64 (Bt Zj x9)))] (c5 (Bq 5 Cg (default:Ae) (sY x19)) (Eq.refl l13.length) c20_ (I7 5 5902 Cg (default:Ae) l13 (sY x19)) (E0 l13 (sY x19))))) (tS h (gK (Be H8)))))) (gA (Af q MU UF (tN h)))) λh=>tS h (gO (Be (Bg [4,9] rP q))))) λx23 h=>gA (Af q [4] [4,29,5902,30000] (Qa (⟨[ZN],[(4,.row 25 [(UX v0),(Z5 v0.Ret),(wR x23 5902)]),(29,.obj (.map true .i64 (Bt Zj x9))),(Ln 5902 64 x23.length),(Z8 v1 v11 29)],[]⟩:St) (tS h (gK (e:=.ret) (H7 [(30000,30000),(29,9200002)] (Le.trans (gV (nm:=29) (.map false .i64 (Bt Zj x9)) rfl (λ_ _ _ _ h_=>RD h_)) (Bg (st':=⟨[ZN],[(4,.row 25 [(UX v0),(Z5 v0.Ret),(wR x23 5902)]),(29,.obj (.map false .i64 (Bt Zj x9))),(Ln 5902 64 x23.length),(Z8 v1 v11 29)],[]⟩) [4] [4,29,5902,30000] q)))))))))))))))))
def Ja(a2:TFunc):Option TFunc:=
 none
variable{v44:TFunc}
theorem Py(h:Ja v0=some v44):sP 47 [.nilp,(Vn v0)] [] (Vn v44) []:=
 sG Tryz.func47 λΓ q=>Af q S8 [3,4] (nomatch h)
abbrev mo:=(Ax×Int×List Ae)
abbrev Aab:=(LR (Ax×Int×List Ae) TFunc)
def O5 :mo->Option Aab:=
 λs_=>match s_ with|(l1,i2,l3)=>(Kw ⟨l1,i2,l3⟩).bind λx9=>bif x9.1.1 then bif x9.2 then(E9 ⟨l1,i2,l3⟩ x9.1.2.x x9.1.2.y).bind λx11=>some (.next (x11.1.Params,x11.1.Ret,x11.1.Blocks)) else some (.done ⟨l1,i2,l3⟩) else bif x9.2 then(Ja ⟨l1,i2,l3⟩).bind λx12=>some (.next (x12.Params,x12.Ret,x12.Blocks)) else some (.done ⟨l1,i2,l3⟩)
def fH(Γ:H6)(a0:TFunc)(r:TFunc):Exit->St->Prop:=fK Tryz.prog Γ Tryz.f17.results.toList [] (Vn r) []
def NF:=((.ptr 20000 0):AV)
def k7(x5:rA):List NR:=(yv 20000 x5.1.2.x x5.1.2.y)
def k8(x9:rA):List NR:=(yv 20000 x9.1.2.x x9.1.2.y)
def nf(l1:Ax)(i2:Int)(l3:List Ae):List AV:=[(Z6 l1),(Z5 i2),(OY l3)]
def Pp(a0:TFunc):Option TFunc:=
 (Rz   ((Lw a0).bind λx4=>bif !x4 then some (.done a0) else(Kw a0).bind λx5=>bif x5.1.1 then bif x5.2 then(E9 a0 x5.1.2.x x5.1.2.y).bind λx7=>some (.next (x7.1.Params,x7.1.Ret,x7.1.Blocks)) else some (.done a0) else bif x5.2 then(Ja a0).bind λx8=>some (.next (x8.Params,x8.Ret,x8.Blocks)) else some (.done a0)) O5).bind λx13=>some x13
theorem U3(h:Pp v0=some v44):sP 17 [(Vn v0)] [] (Vn v44) []:=
 sG Tryz.func17 λΓ q=>Af q Ea Ea (tB h λx13 y13 h=>gS y13 (λ(s_:mo)=>match s_ with|(l1,i2,l3)=>0) (λ(s_:mo)=>match s_ with|(l1,i2,l3)=>(⟨[AA,Uj],[(1,.row 25 (nf l1 i2 l3)),(2,.row 25 [Z0,L9,Z0])],[]⟩:St)) (λr_=>aR (fH Γ v0 r_)) (λy h=>tB h λx4 y4 h=>tT q [1,2,7] Ea [(Z2 x4)] (c1 (Ss y4)) (gC h (λh=>Af q [2] [2] (tS h (fB (Lo (H7 [] (Le.refl _ _)))))) λh=>tB h λx5 y5 h=>gB h (λhs6 h=>tT q bx UB [⟨[],[(20000,11)],(.tuple [(bif true then NF else .nilp),(.bool x5.2)]),(bif true then(k7 x5) else[]),[],[]⟩] (c1 (show(sP 46 [(Vn v0)] [] (.tuple [(bif true then NF else .nilp),(.bool x5.2)]) (bif true then(k7 x5) else[])) from(eqB (λb_:Bool=>sP 46 [(Vn v0)] [] (.tuple [(bif b_ then NF else .nilp),(.bool x5.2)]) (bif b_ then(k7 x5) else[])) hs6 (R7 y5)))) (Af q bu UB (gC h (λh=>tB h λx7 y7 h=>tT q Ea Ea [⟨[(11,30000)],rQ,(Vn x7.1),[(Z8 x7.2.1 x7.2.2.1 9200002),(9200002,.obj (.map false .i64 (Bt (λ(v_:Int)=>((Z5 v_):AV)) x7.2.2.2)))],[],[]⟩] (c1 (Sf y7)) (tS h (fy H8))) λh=>Af q [2] [2] (tS h (fB (Lo (H7 [] (Le.refl _ _)))))))) (λhs6 h=>tT q bx Ea [⟨[],[],(.tuple [(bif false then NF else .nilp),(.bool x5.2)]),(bif false then(k7 x5) else[]),[],[]⟩] (c1 (show(sP 46 [(Vn v0)] [] (.tuple [(bif false then NF else .nilp),(.bool x5.2)]) (bif false then(k7 x5) else[])) from(eqB (λb_:Bool=>sP 46 [(Vn v0)] [] (.tuple [(bif b_ then NF else .nilp),(.bool x5.2)]) (bif b_ then(k7 x5) else[])) hs6 (R7 y5)))) (Af q bu Ea (gC h (λh=>tB h λx8 y8 h=>tT q Ea Ea [(lL x8)] (c1 (Py y8)) (tS h (fy H8))) λh=>Af q [2] [2] (tS h (fB (Lo (H7 [] (Le.refl _ _)))))))))) (λ⟨l1,i2,l3⟩ y h=>tB h λx9 y9 h=>gB h (λhs10 h=>tT q bx UB [⟨[],[(20000,11)],(.tuple [(bif true then NF else .nilp),(.bool x9.2)]),(bif true then(k8 x9) else[]),[],[]⟩] (c1 (show(sP 46 [(.agg (nf l1 i2 l3))] [] (.tuple [(bif true then NF else .nilp),(.bool x9.2)]) (bif true then(k8 x9) else[])) from(eqB (λb_:Bool=>sP 46 [(.agg (nf l1 i2 l3))] [] (.tuple [(bif b_ then NF else .nilp),(.bool x9.2)]) (bif b_ then(k8 x9) else[])) hs10 (R7 y9)))) (Af q bu UB (gC h (λh=>tB h λx11 y11 h=>tT q Ea Ea [⟨[(11,30000)],rQ,(Vn x11.1),[(Z8 x11.2.1 x11.2.2.1 9200002),(9200002,.obj (.map false .i64 (Bt (λ(v_:Int)=>((Z5 v_):AV)) x11.2.2.2)))],[],[]⟩] (c1 (Sf y11)) (tS h (fy H8))) λh=>Af q [2] [2] (tS h (fB (Lo (H7 [] (Le.refl _ _)))))))) (λhs10 h=>tT q bx Ea [⟨[],[],(.tuple [(bif false then NF else .nilp),(.bool x9.2)]),(bif false then(k8 x9) else[]),[],[]⟩] (c1 (show(sP 46 [(.agg (nf l1 i2 l3))] [] (.tuple [(bif false then NF else .nilp),(.bool x9.2)]) (bif false then(k8 x9) else[])) from(eqB (λb_:Bool=>sP 46 [(.agg (nf l1 i2 l3))] [] (.tuple [(bif b_ then NF else .nilp),(.bool x9.2)]) (bif b_ then(k8 x9) else[])) hs10 (R7 y9)))) (Af q bu Ea (gC h (λh=>tB h λx12 y12 h=>tT q Ea Ea [(lL x12)] (c1 (Py y12)) (tS h (fy H8))) λh=>Af q [2] [2] (tS h (fB (Lo (H7 [] (Le.refl _ _))))))))) (O3 (λst' hk=>tS h (gK hk))))
def Ky(aA:Ax):bb->Option bc:=
 λ(i1,l2)=>bif decide (i1<aA.length) then Az (A1 i1 aA.length) (Az (A1 (aA.getD i1.toNat 0) l2.length) (some (.next (w64 (i1+1),l2.set (aA.getD i1.toNat 0).toNat true)))) else some (.done l2)
def Jm(aA:Ax)(a3:List Bool):Option (List Bool):=
 (Ac   (Ky aA) (0,a3)).bind λx6=>some x6
variable{v45:List Bool}
theorem Su(h:Jm v2 v33=some v45):sP 81 [(Z6 v2),(.ptr 30000 0)] (yn v33.length v33) (.tuple []) (yn v45.length v45):=
 sG Tryz.func81 λΓ q=>Af q bz IM (tL q h bz IM (λu (i1,l2)=>(Cm u [(7,(Z5 i1))] (yn l2.length l2))) (λu l3=>aG Γ (.exit 0) (⟨[],(yn l3.length l3),[]⟩:St)) (λ⟨i1,l2⟩ y h=>Af q [1,5,6,7,8] IM (gC h (λh=>tV q [1,4,5,6,7] IM h λh=>tC h λc5_ h=>tU q bz IM (c2 c5_ (Eq.refl l2.length)) (gLe (Le.trans (Sq 35000 (show ∀ k_,k_<l2.length->AVleL ((λi_=>AV.eraseAll (λn_=>Bv n_ IM) ((Fa (λi=>eB (l2.getD i false)) (v2.getD i1.toNat 0).toNat 0 [(.bool true)]) i_)) k_) ((λi=>eB ((l2.set (v2.getD i1.toNat 0).toNat true).getD i false)) k_) from(Bh (Db ..).symm (λk_ hk_=>(Bi (AV.eraseAll (λn_=>Bv n_ IM)) ((Fs (λ_ _=>rfl) (Hx c5_) rfl) k_ hk_)).trans rfl)))) (Sc (λ(k_:Nat) u=>(Cm u [] [(30000,.row 81 [(.vsl 35000 k_)]),(35000,.arr 1 4 k_ (λi=>eB ((l2.set (v2.getD i1.toNat 0).toNat true).getD i false)))])) (show l2.length=(l2.set (v2.getD i1.toNat 0).toNat true).length from(Db ..).symm))) (Af q bz IM (tN h)))) λh=>tS h (gO (Be (Bg [] IM q))))) λx6 h=>vB (λst' hl7=>tS h (gK (e:=.normal) (H7 [(30000,30000),(35000,35000)] hl7))))
def Mp(a0:TFunc)(i2:Int):bb->Option bc:=
 λ(i7,l8)=>bif decide (i7<(a0.Blocks.getD i2.toNat default).Phis.length) then Az (A1 i7 (a0.Blocks.getD i2.toNat default).Phis.length) ((Jm ((a0.Blocks.getD i2.toNat default).Phis.getD i7.toNat default).Args l8).bind λx11=>Az (l8.length=x11.length) (some (.next (w64 (i7+1),x11)))) else some (.done l8)
def Mq(a0:TFunc)(i2:Int):bb->Option bc:=
 λ(i15,l16)=>bif decide (i15<(a0.Blocks.getD i2.toNat default).Ops.length) then Az (A1 i15 (a0.Blocks.getD i2.toNat default).Ops.length) ((Jm ((a0.Blocks.getD i2.toNat default).Ops.getD i15.toNat default).Args l16).bind λx19=>Az (l16.length=x19.length) (some (.next (w64 (i15+1),x19)))) else some (.done l16)
def Mr(a0:TFunc):bb->Option bc:=
 λ(i2,l3)=>bif decide (i2<a0.Blocks.length) then Option.bind  (Az (A1 i2 a0.Blocks.length) ((Ac   (Mp a0 i2) (0,l3)).bind λx13=>(Ac   (Mq a0 i2) (0,x13)).bind λx21=>bif bif (a0.Blocks.getD i2.toNat default).End.Kind==0 then true else(a0.Blocks.getD i2.toNat default).End.Kind==2 then(Jm [(a0.Blocks.getD i2.toNat default).End.Arg] x21).bind λx23=>Az (x21.length=x23.length) (some x23) else some x21)) λx25=>some (.next (w64 (i2+1),x25)) else some (.done l3)
def sZ(a0:TFunc)(i2:Int):=(a0.Blocks.getD i2.toNat default)
def Kx(a0:TFunc):Option (List Bool):=
 Az (0<=(1024:Int)/\1024<=(1024:Int)/\1024<=(room:Int)) ((Ac   (Mr a0) (0,List.replicate (1024:Int).toNat false)).bind λx27=>some x27)
theorem V3(h:Kx v0=some v33):sP 43 [(Vn v0)] [] (NT v33 20000) [(Rd 20000 v33.length)]:=
 sG Tryz.func43 λΓ q=>have hΓ:=q.own;gR q [1] [1] [(2,(AV.list 1 eB false ([]:List Bool) .exact))] [] (c1 (Bz 1 eB false)) (tV q La [1,3,11] h λh=>by exact gLe (Le.trans (Sq 11 (show ∀ k_,k_<((1024:Int).toNat)->AVleL ((λi_=>AV.eraseAll (λn_=>Bv n_ [1,3,11]) ((λ_=>[(.bool false)]) i_)) k_) ((λi=>eB ((List.replicate (1024:Int).toNat false).getD i false)) k_) from(λk hk=>M9 (e:=eB) (d:=false) (.cons (AVle.refl _) .nil) _ k (Na hk)))) (Sc (λ(k_:Nat) u=>(Cm u [] [(3,.row 81 [(.vsl 11 k_)]),(11,.arr 1 4 k_ (λi=>eB ((List.replicate (1024:Int).toNat false).getD i false)))])) (show(1024:Int).toNat=(List.replicate (1024:Int).toNat false).length from(Oa ..).symm))) (tW q H3 [1,3,11] TF CP (tL q h TF CP (λu (i2,l3)=>(Cm u [(16,(Z5 i2))] (wQ l3.length l3))) (λu l4=>aG Γ (.exit 0) (Nb [3] CP u [] (wQ l4.length l4))) (λ⟨i2,l3⟩ y h=>Af q [3,4,14,15,16,17] CP (gC h (λh=>tB h λx25 y25 h=>gJ y25 (λl5=>aG Γ .normal (⟨[(3,(.ptr 3 0)),(4,(.clo 81 [] [(.ptr 3 0)])),(14,(OY v0.Blocks)),(b8 15 v0.Blocks.length),(16,(Z5 i2))],(wQ l5.length l5),[]⟩:St)) (λy h=>tV q e7 S7 h λh=>Af q kW S7 (tL q h kW S7 (λu (i7,l8)=>(Cm u [(23,(Z5 i7))] (wQ l8.length l8))) (λu l9=>aG Γ (.exit 2) (Nb e7 S7 u [] (wQ l9.length l9))) (λ⟨i7,l8⟩ y h=>Af q [3,4,6,14,15,16,21,22,23,24] S7 (gC h (λh=>tV q [3,4,6,8,14,15,16,21,22,23] [3,6,8,11] h λh=>tB h λx11 y11 h=>tC h λc12_ h=>tT q kW S7 [(Z94 x11.length x11)] (c1 (Su y11)) (Af q kW S7 (tN h))) λh=>tS h (gO (Be (Bg e7 S7 q))))) λx13 h=>gA (Af q kX S7 (tL q h kX S7 (λu (i15,l16)=>(Cm u [(35,(Z5 i15))] (wQ l16.length l16))) (λu l17=>aG Γ (.exit 4) (Nb e7 S7 u [] (wQ l17.length l17))) (λ⟨i15,l16⟩ y h=>Af q [3,4,6,14,15,16,33,34,35,36] S7 (gC h (λh=>tV q [3,4,6,10,14,15,16,33,34,35] [3,6,10,11] h λh=>tB h λx19 y19 h=>tC h λc20_ h=>tT q kX S7 [(Z94 x19.length x19)] (c1 (Su y19)) (Af q kX S7 (tN h))) λh=>tS h (gO (Be (Bg e7 S7 q))))) λx21 h=>gA (tU q [3,4,6,14,15,16,53] S7 (Yy ((((sZ v0 i2).End.Kind:Int)==0)==false) (c1 (L5 (((sZ v0 i2).End.Kind:Int)==0)))) (gC h (λh=>tB h λx23 y23 h=>tC h λc24_ h=>gR q TF CP [(58,(AV.list 1 Aq 0 ([(sZ v0 i2).End.Arg]:Ax) .exact))] [(Z94 x23.length x23)] (c2 (Bq 1 Aq (0:Int) ([(sZ v0 i2).End.Arg]:Ax)) (Su y23)) (tS h (gK (Be H8)))) λh=>tS h (gK (Be (Bg TF CP q))))))))) (gA (Af q TF CP (tN h)))) λh=>tS h (gO (Be (Bg [3] CP q))))) λx27 h=>gA (Af q [2] [11] (Qa (⟨[(2,(.vsl 11 x27.length))],[(Z9 11 x27)],[]⟩:St) (tS h (gK (e:=.ret) (H7 [(11,20000)] (Le.trans (le_freeze (nm:=11) (sz:=1) (n:=x27.length) (e:=4) (f:=(λi=>eB (x27.getD i false))) (g:=(λi=>eB (x27.getD i false))) rfl ⟨rfl,trivial⟩ (λ_ _=>rfl) (by rw[hΓ];rfl)) (Gt (st':=⟨[(2,(NT x27 11))],[(Rd 11 x27.length)],[]⟩) (by kernel_rfl)))))))))))
def k9:AV:=(AV.list 4 Ej default ([]:List TPhi) .exact)
def yT:=(⟨[(2,(.vsl 36002 ([]:List TPhi).length))],[(36002,.arr 4 67 (([]:List TPhi).length) (λi=>Ej (([]:List TPhi).getD i default)))],[]⟩:St)
def Cn(aJ:List TPhi):Option (List TPhi):=
 Az (aJ.length<=room) (some aJ)
variable{v46:List TPhi}{v5:List TPhi}
theorem Pq(h:Cn v5=some v46):sP 87 [(xf v5)] [] (.vsl 20000 v46.length) (nz 20000 v46):=by
 refine KF mix Tryz.func87 (λΓ hq=>?_);unfold Cn at h;refine gR hq [0] [] [(2,k9)] [] (c1 (Bz 4 Ej (default:TPhi))) ?_;refine Af hq [0,4] [] ?_;refine zD true v5.length (λhb=>?_) (λhb=>?_)
 ·replace h:=pp (some ([]:List TPhi)) (λ(l2:List TPhi)=>(Az (l2.length<=room) (some l2))) h (hb rfl) rfl (λh0=>by first|exact h0|simpa [Az,room] using h0);clear hb;refine gR hq [2] [] [(2,k9)] [] (c1 (Bz 4 Ej (default:TPhi))) ?_;refine Qa (⟨[(2,k9)],[],[]⟩:St) ?_;cases h;exact gK (e:=.ret) (H7 [(36002,20000)] (show Le Γ _ yT from Le.trans (Bg (st':=⟨[(2,k9)],[],[]⟩) [2] [] hq) (Le.trans (QL (t:=2) (nm:=36002) (sz':=4) (λi=>Ej (([]:List TPhi).getD i default)) 67 rfl rfl) (Bg (st':=yT) [2] [36002] hq))))
 ·clear hb;obtain⟨hc1,h⟩:=Qh h;refine gR hq [2] [7] [(5,k9),(7,.vsl 7 0)] [] (ci (show(AVle (.slice 4 0 (λi=>([]:List (List AV)).getD i []) .exact) k9) from ZR rfl (λi hi=>absurd hi (Xa i))) (c1 hc1)) ?_;obtain rfl:=OI h;exact Ca [(7,20000)]
def Ji(aV:TPhi)(a2:List Bool):Option Bool:=
 Az (A1 aV.Dst a2.length) (some !a2.getD aV.Dst.toNat false)
theorem U4(h:Ji v4 v33=some v3):sP 88 [(.agg (Ej v4)),(.rptr (aa v33))] [] (.bool v3) []:=
 sG Tryz.func88 λΓ q=>Af q Ea [2] (tV q [3] [] h λh=>tS h (Ca []))
def C6(aJ:List TPhi)(aa7:List Bool):Int->Option (LR Int (Unit ⊕ Int)):=
 λi1=>bif decide (i1<aJ.length) then Az (A1 i1 aJ.length) ((Ji (aJ.getD i1.toNat default) aa7).bind λx3=>bif x3 then some (.done (.inr i1)) else some (.next (w64 (i1+1)))) else some (.done (.inl ()))
def Pk(Γ:H6)(aJ:List TPhi)(aa7:List Bool)(r:Int):Exit->St->Prop:=fK Tryz.prog Γ Tryz.f143.results.toList [] (.int .i64 r) []
def F1(aJ:List TPhi)(aa7:List Bool):Option Int:=
 (Ac   (C6 aJ aa7) 0).bind λx4=>match x4 with | .inl _=>some (-1) | .inr r6=>some r6
theorem O7(h:F1 v5 v33=some v1):sP 143 [(xf v5),(.clo 88 [] [(.rptr (aa v33))])] [] (.int .i64 v1) []:=
 sG Tryz.func143 λΓ q=>tW q Gm [] IQ [] (tL q h IQ [] (λu i1=>(Cm u [(8,(Z5 i1))] [])) (λu x_=>match x_ with|(.inl _)=>aG Γ (.exit 0) (⟨[],[],[]⟩:St)|(.inr r_)=>aR (Pk Γ v5 v33 r_)) (λi1 y h=>Af q iq [] (gC h (λh=>Af q ir [] (tC h λc2_ h=>tB h λx3 y3 h=>tT q iY [] [(Z2 x3)] (c2 c2_ (U4 y3)) (gC h (λh=>Af q [4] [] (tS h (gO (Lo (H7 [] (Le.refl _ _)))))) λh=>Af q IQ [] (tN h)))) λh=>tS h (gO (Be (Bg [] [] q))))) λx4 h=>(match x4,h with | .inl _,h=>gA (Af q [4] [] (tS h (Ca []))) | .inr r6,h=>O3 (λst' hk=>tS h (gK hk))))
def Cv(aa4:List Bool):(Int×Int×List TPhi)->Option (LR (Int×Int×List TPhi) (Int×List TPhi)):=
 λ(i2,i3,l4)=>bif decide (i3<l4.length) then Option.bind  (Az (A1 i3 l4.length) ((Ji (l4.getD i3.toNat default) aa4).bind λx10=>bif !x10 then Az (A1 i2 l4.length) (some (w64 (i2+1),l4.set i2.toNat ⟨(l4.getD i3.toNat default).Bits,(l4.getD i3.toNat default).Dst,(l4.getD i3.toNat default).From,(l4.getD i3.toNat default).Args⟩)) else some (i2,l4))) λx12=>match x12 with|(i7,l8)=>some (.next (i7,w64 (i3+1),l8)) else some (.done (i2,l4))
def wA(l6:List TPhi)(i5:Int):=(OB l6 (0+i5.toNat) (l6.length-(0+i5.toNat)) (λ_=>(default:TPhi)))
def vv(l4:List TPhi)(i2:Int)(i3:Int):=(l4.set i2.toNat (⟨(l4.getD i3.toNat default).Bits,(l4.getD i3.toNat default).Dst,(l4.getD i3.toNat default).From,(l4.getD i3.toNat default).Args⟩:TPhi))
abbrev un:=(Nat×List TPhi)
def Dl(aJ:List TPhi)(aa4:List Bool):Option un:=
 (F1 aJ aa4).bind λx1=>bif x1==-1 then some (aJ.length,aJ) else(Ac   (Cv aa4) (x1,w64 (x1+1),aJ)).bind λx14=>match x14 with|(i5,l6)=>Az (0<=i5/\0+i5.toNat<=l6.length) (Az (0<=i5/\0+i5.toNat<=(OB l6 (0+i5.toNat) (l6.length-(0+i5.toNat)) λ_=>default).length) (some (0+i5.toNat,OB l6 (0+i5.toNat) (l6.length-(0+i5.toNat)) λ_=>default)))
variable{v47:un}
theorem Ov(h:Dl v5 v33=some v47):sP 86 [(.vsl 34000 v5.length),(.clo 88 [] [(.rptr (aa v33))])] (nz 34000 v5) (.vsub 34000 v47.2.length 0 v47.1) (nz 34000 v47.2):=
 sG Tryz.func86 λΓ q=>gR q Gm [34000] [(4,(AV.list 4 Ej default ([]:List TPhi) .exact))] [] (c1 (Bz 4 Ej (default:TPhi))) (tB h λx1 y1 h=>tT q Nh [34000] [⟨[],[],(Z5 x1),[],[34000],[]⟩] (c3 (O7 y1) (show(EE []) from trivial) (Eq.refl v5.length)) (Af q [0,1,5,12] [34000] (gC h (λh=>Af q [4] [34000] (Qa (⟨[(4,(.vsl 34000 v5.length))],(nz 34000 v5),[]⟩:St) (tS h (gK (e:=.ret) (H7 TI (Le.trans (jp (t:=4) (r:=34000) rfl rfl) (Bg (st':=⟨[(4,(.vsub 34000 v5.length 0 v5.length))],(nz 34000 v5),[]⟩) [4] [34000] q))))))) λh=>Af q Xd [34000] (tL q h Xd [34000] (λu (i2,i3,l4)=>(Cm u [(my l4.length),(5,(Z5 i2)),(6,(Z5 i3))] (nz 34000 l4))) (λu (i5,l6)=>aG Γ (.exit 0) (⟨[(my l6.length),(5,(Z5 i5))],(nz 34000 l6),[]⟩:St)) (λ⟨i2,i3,l4⟩ y h=>Af q [0,1,5,6,19] [34000] (gC h (λh=>tB h λx12 y12 h=>gJ y12 (λ(i7,l8)=>aG Γ .normal (⟨[(my l8.length),(1,(.clo 88 [] [(.rptr (aa v33))])),(5,(Z5 i7)),(6,(Z5 i3))],(nz 34000 l8),[]⟩:St)) (λy h=>tC h λc9_ h=>tU q [0,1,5,6,7] b6 (c2 c9_ (Eq.refl l4.length)) (tB h λx10 y10 h=>tT q [0,1,5,6,7,29] b6 [(Z2 x10)] (c1 (U4 y10)) (gC h (λh=>tC h λc11_ h=>tU q Xd [34000] (c2 c11_ (Eq.refl l4.length)) (gLe (Le.trans (Sq 34000 (show ∀ k_,k_<l4.length->AVleL ((λi_=>AV.eraseAll (λn_=>Bv n_ [34000]) ((Fa (λi=>Ej (l4.getD i default)) i2.toNat 0 (Ej (l4.getD i3.toNat default))) i_)) k_) ((λi=>Ej ((vv l4 i2 i3).getD i default)) k_) from(Bh (Db ..).symm (λk_ hk_=>(Bi (AV.eraseAll (λn_=>Bv n_ [34000])) ((Fs (λ_ _=>rfl) (Hx c11_) rfl) k_ hk_)).trans rfl)))) (Sc (λ(k_:Nat) u=>(Cm u [(my k_)] [(34000,.arr 4 67 k_ (λi=>Ej ((vv l4 i2 i3).getD i default)))])) (show l4.length=(vv l4 i2 i3).length from(Db ..).symm))) (Af q Xd [34000] (tS h (gK (Be H8)))))) λh=>tS h (gK (Be (Bg Xd [34000] q)))))) (match x12,h with|⟨i7,l8⟩,h=>gA (Af q Xd [34000] (tN h)))) λh=>tS h (gO (Be (Bg [0,5] [34000] q))))) λx14 h=>(match x14,h with|⟨i5,l6⟩,h=>gA (tC h λc16_ h=>tU q [0,5] [34000] (c2 c16_ (Eq.refl l6.length)) (gLe (Le.trans (Sq 34000 (show ∀ k_,k_<l6.length->AVleL ((λi_=>AV.eraseAll (λn_=>Bv n_ [34000]) ((WL (λi=>Ej (l6.getD i default)) (0+i5.toNat) (l6.length-(0+i5.toNat)) (λ_=>[L9,L9,Z0,Z0])) i_)) k_) ((λi=>Ej ((wA l6 i5).getD i default)) k_) from(o7 (e:=Ej) (d:=(default:TPhi)) (l:=l6) (.cons (AVle.refl _) (.cons (AVle.refl _) (.cons (λ_ _ _ _ _ hh=>AVle.untag _ _ _ _ _ (Eh _ _ _ _ _ hh)) (.cons (λ_ _ _ _ _ hh=>AVle.untag _ _ _ _ _ (Eh _ _ _ _ _ hh)) .nil)))) (λ_ _=>rfl)))) (Sc (λ(k_:Nat) u=>(Cm u [(my k_)] [(34000,.arr 4 67 k_ (λi=>Ej ((wA l6 i5).getD i default)))])) (show l6.length=(wA l6 i5).length from(Ei ..)))) (tV q [4] [34000] h λh=>tS h (Ca TI)))))))))
def lA:AV:=yp
def yU:=(⟨[(2,(.vsl 36002 ([]:List TOp).length))],[(36002,.arr 6 70 (([]:List TOp).length) (λi=>Lm (([]:List TOp).getD i default)))],[]⟩:St)
def C7(aJ:List TOp):Option (List TOp):=
 Az (aJ.length<=room) (some aJ)
variable{v48:List TOp}
theorem Q3(h:C7 v7=some v48):sP 90 [(xg v7)] [] (.vsl 20000 v48.length) [(fV 20000 v48)]:=by
 refine KF mix Tryz.func90 (λΓ hq=>?_);unfold C7 at h;refine gR hq [0] [] [(2,lA)] [] (c1 (Bz 6 Lm (default:TOp))) ?_;refine Af hq [0,4] [] ?_;refine zD true v7.length (λhb=>?_) (λhb=>?_)
 ·replace h:=pp (some ([]:List TOp)) (λ(l2:List TOp)=>(Az (l2.length<=room) (some l2))) h (hb rfl) rfl (λh0=>by first|exact h0|simpa [Az,room] using h0);clear hb;refine gR hq [2] [] [(2,lA)] [] (c1 (Bz 6 Lm (default:TOp))) ?_;refine Qa (⟨[(2,lA)],[],[]⟩:St) ?_;cases h;exact gK (e:=.ret) (H7 [(36002,20000)] (show Le Γ _ yU from Le.trans (Bg (st':=⟨[(2,lA)],[],[]⟩) [2] [] hq) (Le.trans (QL (t:=2) (nm:=36002) (sz':=6) (λi=>Lm (([]:List TOp).getD i default)) 70 rfl rfl) (Bg (st':=yU) [2] [36002] hq))))
 ·clear hb;obtain⟨hc1,h⟩:=Qh h;refine gR hq [2] [7] [(5,lA),(7,.vsl 7 0)] [] (ci (show(AVle (.slice 6 0 (λi=>([]:List (List AV)).getD i []) .exact) lA) from ZR rfl (λi hi=>absurd hi (Xa i))) (c1 hc1)) ?_;obtain rfl:=OI h;exact Ca [(7,20000)]
def Jj(a1:TOp)(a2:List Bool):Option Bool:=
 (Uw a1.Kind).bind λx1=>Az ((x1==true)=true->A1 a1.Dst a2.length) (some (bif x1 then !a2.getD a1.Dst.toNat false else false))
theorem U5(h:Jj v6 v33=some v3):sP 91 [(WD v6),(.rptr (aa v33))] [] (.bool v3) []:=
 sG Tryz.func91 λΓ q=>Af q Ea [2] (tB h λx1 y1 h=>tC h λc2_ h=>tT q [3] [] [(Z2 x1)] (ci (bM y1) (Yy (x1==true) (ci c2_ (Md (x1==true) (c1 (Ml x1)))))) (tS h (Ca [])))
def Cw(aJ:List TOp)(aa7:List Bool):Int->Option (LR Int (Unit ⊕ Int)):=
 λi1=>bif decide (i1<aJ.length) then Az (A1 i1 aJ.length) ((Jj (aJ.getD i1.toNat default) aa7).bind λx3=>bif x3 then some (.done (.inr i1)) else some (.next (w64 (i1+1)))) else some (.done (.inl ()))
def O0(Γ:H6)(aJ:List TOp)(aa7:List Bool)(r:Int):Exit->St->Prop:=fK Tryz.prog Γ Tryz.f144.results.toList [] (.int .i64 r) []
def Fp(aJ:List TOp)(aa7:List Bool):Option Int:=
 (Ac   (Cw aJ aa7) 0).bind λx4=>match x4 with | .inl _=>some (-1) | .inr r6=>some r6
theorem Ow(h:Fp v7 v33=some v1):sP 144 [(xg v7),(.clo 91 [] [(.rptr (aa v33))])] [] (.int .i64 v1) []:=
 sG Tryz.func144 λΓ q=>tW q Gm [] IQ [] (tL q h IQ [] (λu i1=>(Cm u [(8,(Z5 i1))] [])) (λu x_=>match x_ with|(.inl _)=>aG Γ (.exit 0) (⟨[],[],[]⟩:St)|(.inr r_)=>aR (O0 Γ v7 v33 r_)) (λi1 y h=>Af q iq [] (gC h (λh=>Af q ir [] (tC h λc2_ h=>tB h λx3 y3 h=>tT q iY [] [(Z2 x3)] (c2 c2_ (U5 y3)) (gC h (λh=>Af q [4] [] (tS h (gO (Lo (H7 [] (Le.refl _ _)))))) λh=>Af q IQ [] (tN h)))) λh=>tS h (gO (Be (Bg [] [] q))))) λx4 h=>(match x4,h with | .inl _,h=>gA (Af q [4] [] (tS h (Ca []))) | .inr r6,h=>O3 (λst' hk=>tS h (gK hk))))
def Dd(aa4:List Bool):(Int×Int×List TOp)->Option (LR (Int×Int×List TOp) (Int×List TOp)):=
 λ(i2,i3,l4)=>bif decide (i3<l4.length) then Option.bind  (Az (A1 i3 l4.length) ((Jj (l4.getD i3.toNat default) aa4).bind λx10=>bif !x10 then Az (A1 i2 l4.length) (some (w64 (i2+1),l4.set i2.toNat ⟨(l4.getD i3.toNat default).Kind,(l4.getD i3.toNat default).Bits,(l4.getD i3.toNat default).Lanes,(l4.getD i3.toNat default).Dst,(l4.getD i3.toNat default).Args,(l4.getD i3.toNat default).Imm⟩)) else some (i2,l4))) λx12=>match x12 with|(i7,l8)=>some (.next (i7,w64 (i3+1),l8)) else some (.done (i2,l4))
def wC(l6:List TOp)(i5:Int):=(OB l6 (0+i5.toNat) (l6.length-(0+i5.toNat)) (λ_=>(default:TOp)))
def wB(l4:List TOp)(i2:Int)(i3:Int):=(l4.set i2.toNat (⟨(l4.getD i3.toNat default).Kind,(l4.getD i3.toNat default).Bits,(l4.getD i3.toNat default).Lanes,(l4.getD i3.toNat default).Dst,(l4.getD i3.toNat default).Args,(l4.getD i3.toNat default).Imm⟩:TOp))
abbrev uo:=(Nat×List TOp)
def D0(aJ:List TOp)(aa4:List Bool):Option uo:=
 (Fp aJ aa4).bind λx1=>bif x1==-1 then some (aJ.length,aJ) else(Ac   (Dd aa4) (x1,w64 (x1+1),aJ)).bind λx14=>match x14 with|(i5,l6)=>Az (0<=i5/\0+i5.toNat<=l6.length) (Az (0<=i5/\0+i5.toNat<=(OB l6 (0+i5.toNat) (l6.length-(0+i5.toNat)) λ_=>default).length) (some (0+i5.toNat,OB l6 (0+i5.toNat) (l6.length-(0+i5.toNat)) λ_=>default)))
variable{v49:uo}
theorem Pr(h:D0 v7 v33=some v49):sP 89 [(.vsl 34000 v7.length),(.clo 91 [] [(.rptr (aa v33))])] [(fV 34000 v7)] (.vsub 34000 v49.2.length 0 v49.1) [(fV 34000 v49.2)]:=
 sG Tryz.func89 λΓ q=>gR q Gm [34000] [(4,yp)] [] (c1 (Bz 6 Lm (default:TOp))) (tB h λx1 y1 h=>tT q Nh [34000] [⟨[],[],(Z5 x1),[],[34000],[]⟩] (c3 (Ow y1) (show(EE []) from trivial) (Eq.refl v7.length)) (Af q [0,1,5,12] [34000] (gC h (λh=>Af q [4] [34000] (Qa (⟨[(4,(.vsl 34000 v7.length))],[(fV 34000 v7)],[]⟩:St) (tS h (gK (e:=.ret) (H7 TI (Le.trans (jp (t:=4) (r:=34000) rfl rfl) (Bg (st':=⟨[(4,(.vsub 34000 v7.length 0 v7.length))],[(fV 34000 v7)],[]⟩) [4] [34000] q))))))) λh=>Af q Xd [34000] (tL q h Xd [34000] (λu (i2,i3,l4)=>(Cm u [(my l4.length),(5,(Z5 i2)),(6,(Z5 i3))] [(fV 34000 l4)])) (λu (i5,l6)=>aG Γ (.exit 0) (⟨[(my l6.length),(5,(Z5 i5))],[(fV 34000 l6)],[]⟩:St)) (λ⟨i2,i3,l4⟩ y h=>Af q [0,1,5,6,19] [34000] (gC h (λh=>tB h λx12 y12 h=>gJ y12 (λ(i7,l8)=>aG Γ .normal (⟨[(my l8.length),(1,(.clo 91 [] [(.rptr (aa v33))])),(5,(Z5 i7)),(6,(Z5 i3))],[(fV 34000 l8)],[]⟩:St)) (λy h=>tC h λc9_ h=>tU q [0,1,5,6,7] b6 (c2 c9_ (Eq.refl l4.length)) (tB h λx10 y10 h=>tT q [0,1,5,6,7,29] b6 [(Z2 x10)] (c1 (U5 y10)) (gC h (λh=>tC h λc11_ h=>tU q Xd [34000] (c2 c11_ (Eq.refl l4.length)) (gLe (Le.trans (Sq 34000 (show ∀ k_,k_<l4.length->AVleL ((λi_=>AV.eraseAll (λn_=>Bv n_ [34000]) ((Fa (λi=>Lm (l4.getD i default)) i2.toNat 0 (Lm (l4.getD i3.toNat default))) i_)) k_) ((λi=>Lm ((wB l4 i2 i3).getD i default)) k_) from(Bh (Db ..).symm (λk_ hk_=>(Bi (AV.eraseAll (λn_=>Bv n_ [34000])) ((Fs (λ_ _=>rfl) (Hx c11_) rfl) k_ hk_)).trans rfl)))) (Sc (λ(k_:Nat) u=>(Cm u [(my k_)] [(34000,.arr 6 70 k_ (λi=>Lm ((wB l4 i2 i3).getD i default)))])) (show l4.length=(wB l4 i2 i3).length from(Db ..).symm))) (Af q Xd [34000] (tS h (gK (Be H8)))))) λh=>tS h (gK (Be (Bg Xd [34000] q)))))) (match x12,h with|⟨i7,l8⟩,h=>gA (Af q Xd [34000] (tN h)))) λh=>tS h (gO (Be (Bg [0,5] [34000] q))))) λx14 h=>(match x14,h with|⟨i5,l6⟩,h=>gA (tC h λc16_ h=>tU q [0,5] [34000] (c2 c16_ (Eq.refl l6.length)) (gLe (Le.trans (Sq 34000 (show ∀ k_,k_<l6.length->AVleL ((λi_=>AV.eraseAll (λn_=>Bv n_ [34000]) ((WL (λi=>Lm (l6.getD i default)) (0+i5.toNat) (l6.length-(0+i5.toNat)) (λ_=>[L9,L9,L9,L9,Z0,(.int .u64 (0:Int))])) i_)) k_) ((λi=>Lm ((wC l6 i5).getD i default)) k_) from(o7 (e:=Lm) (d:=(default:TOp)) (l:=l6) (.cons (AVle.refl _) (.cons (AVle.refl _) (.cons (AVle.refl _) (.cons (AVle.refl _) (.cons (λ_ _ _ _ _ hh=>AVle.untag _ _ _ _ _ (Eh _ _ _ _ _ hh)) (.cons (AVle.refl _) .nil)))))) (λ_ _=>rfl)))) (Sc (λ(k_:Nat) u=>(Cm u [(my k_)] [(34000,.arr 6 70 k_ (λi=>Lm ((wC l6 i5).getD i default)))])) (show l6.length=(wC l6 i5).length from(Ei ..)))) (tV q [4] [34000] h λh=>tS h (Ca TI)))))))))
def K3(a0:TFunc)(aa5:List Bool):(Int×List Ae)->Option z8:=
 λ(i1,l2)=>bif decide (i1<a0.Blocks.length) then Az (A1 i1 a0.Blocks.length) ((Cn (a0.Blocks.getD i1.toNat default).Phis).bind λx5=>(Dl x5 aa5).bind λx6=>Az (x6.1<=x6.2.length) (Az (x5.length=x6.2.length) ((C7 (a0.Blocks.getD i1.toNat default).Ops).bind λx9=>(D0 x9 aa5).bind λx10=>Az (x10.1<=x10.2.length) (Az (x9.length=x10.2.length) (Az (l2.length+[(⟨x6.2.take x6.1,x10.2.take x10.1,⟨(a0.Blocks.getD i1.toNat default).End.Kind,(a0.Blocks.getD i1.toNat default).End.Arg,(a0.Blocks.getD i1.toNat default).End.To⟩⟩:Ae)].length<=room) (some (.next (w64 (i1+1),l2++[⟨x6.2.take x6.1,x10.2.take x10.1,⟨(a0.Blocks.getD i1.toNat default).End.Kind,(a0.Blocks.getD i1.toNat default).End.Arg,(a0.Blocks.getD i1.toNat default).End.To⟩⟩])))))))) else some (.done l2)
def fS(x10:uo):=(λi=>Lm (x10.2.getD i default))
def GL(a0:TFunc)(i1:Int):=(a0.Blocks.getD i1.toNat default)
def nh(x6:un):=(λi=>Ej (x6.2.getD i default))
def nj(a0:TFunc)(i1:Int):AV:=(AV.list 1 Aq 0 (GL a0 i1).End.To .none)
def cJ:List AV:=[Z0,L9,Z0]
def lB(a0:TFunc)(l2:List Ae):List AV:=[(Z6 a0.Params),(Z5 a0.Ret),(wR l2 5502)]
def wE(a0:TFunc):List AV:=[(Z6 a0.Params),(Z5 a0.Ret),(AV.list 5 Cg default ([]:List Ae) .exact)]
def yW(a0:TFunc):List AV:=[(Z6 a0.Params),(Z5 a0.Ret),(AV.list 5 Cg default ([]:List Ae) (.own 5502))]
def sa(x6:un)(x10:uo)(a0:TFunc)(i1:Int):=([(⟨(x6.2.take x6.1),(x10.2.take x10.1),(⟨(GL a0 i1).End.Kind,(GL a0 i1).End.Arg,(GL a0 i1).End.To⟩:Ou)⟩:Ae)]:List Ae)
def wD(aa5:List Bool)(a0:TFunc):List MQ:=[(3,(.rptr (aa aa5))),ZN,fA,(14,(OY a0.Blocks)),(b8 15 a0.Blocks.length),(16,L9)]
def ng(aa5:List Bool)(a0:TFunc)(i1:Int):List MQ:=[(3,(.rptr (aa aa5))),ZN,fA,(7,(.ptr 7 0)),(14,(OY a0.Blocks)),(b8 15 a0.Blocks.length),(16,(Z5 i1))]
def Jp(a0:TFunc)(aa5:List Bool):Option TFunc:=
 (Ac   (K3 a0 aa5) (0,[])).bind λx14=>some ⟨a0.Params,a0.Ret,x14⟩
theorem Y6(h:Jp v0 v33=some v44):sP 48 [(Vn v0),(AV.list 1 eB false v33 .none)] [] (Vn v44) []:=
 sG Tryz.func48 λΓ q=>have hΓ:=q.own;gR q [2,3,4] [2,4] [(3,(.rptr []))] [] trivial (gR q [2,3,4,5] [2,4,5] [(12,(.agg (wE v0)))] [] (c1 (show(AVle (.agg [(Z6 v0.Params),(Z5 v0.Ret),Z0]) (.agg (wE v0))) from(AVle.agg (.cons (AVle.refl _) (.cons (AVle.refl _) (.cons Eh .nil)))))) (Af q YZ [4,5] (gLe (st':=⟨(wD v33 v0),[(4,.row 25 cJ),(5,.row 25 (yW v0)),(5502,.tok 5 64 (([]:List Ae).length))],[]⟩) (Le.trans (Bg (st':=⟨(wD v33 v0),[(4,.row 25 cJ),(5,.row 25 (wE v0))],[]⟩) YZ [4,5] q) (Le.trans (BA (r:=5) (j:=2) (nm:=5502) (sz':=5) (λi=>Cg (([]:List Ae).getD i default)) 64 rfl rfl (nl rfl) rfl (.inl ⟨rfl,rfl⟩) (λh_=>absurd h_ (by decide))) (Bg (st':=⟨(wD v33 v0),[(4,.row 25 cJ),(5,.row 25 (yW v0)),(5502,.tok 5 64 (([]:List Ae).length))],[]⟩) YZ GB q))) (tL q h YZ GB (λu (i1,l2)=>(Cm u [(16,(Z5 i1))] [(5,.row 25 (lB v0 l2)),(Ln 5502 64 l2.length)])) (λu l3=>aG Γ (.exit 0) (Nb [4,5] GB u [] [(5,.row 25 [(Z6 v0.Params),(Z5 v0.Ret),(wR l3 5502)]),(Ln 5502 64 l3.length)])) (λ⟨i1,l2⟩ y h=>Af q [3,4,5,14,15,16,17] GB (gC h (λh=>tV q iU [4,5,7,5502] h λh=>tB h λx5 y5 h=>tB h λx6 y6 h=>tC h λc7_ h=>tC h λc8_ h=>tT q iU [4,5,7,22,5502] [⟨[],[(20000,22)],(.vsl 20000 x5.length),(nz 20000 x5),[],[]⟩,⟨[(22,34000)],[],(.vsub 34000 x6.2.length 0 x6.1),[(34000,.arr 4 67 x6.2.length (nh x6))],[],[]⟩] (c2 (Pq y5) (Ov y6)) (tB h λx9 y9 h=>tB h λx10 y10 h=>tC h λc11_ h=>tC h λc12_ h=>tT q iU [4,5,7,22,28,5502] [⟨[],[(20000,28)],(.vsl 20000 x9.length),[(fV 20000 x9)],[],[]⟩,⟨[(28,34000)],[],(.vsub 34000 x10.2.length 0 x10.1),[(34000,.arr 6 70 x10.2.length (fS x10))],[],[]⟩] (c2 (Q3 y9) (Pr y10)) (Qa (⟨(ng v33 v0 i1),[(4,.row 25 cJ),(5,.row 25 (lB v0 l2)),(7,.row 64 [(.vsub 22 x6.2.length 0 x6.1),(.vsub 28 x10.2.length 0 x10.1),(.int .i64 (GL v0 i1).End.Kind),(.int .i64 (GL v0 i1).End.Arg),(nj v0 i1)]),(22,.arr 4 67 x6.2.length (nh x6)),(28,.arr 6 70 x10.2.length (fS x10)),(Ln 5502 64 l2.length)],[]⟩:St) (gLe (Le.trans (Le.trans (le_freeze (nm:=22) (sz:=4) (n:=x6.2.length) (e:=67) (f:=(nh x6)) (g:=(nh x6)) rfl ⟨rfl,trivial⟩ (λ_ _=>rfl) (by rw[hΓ];rfl)) (Gt (st':=⟨(ng v33 v0 i1),[(4,.row 25 cJ),(5,.row 25 (lB v0 l2)),(7,.row 64 [(.slice 4 (x6.1-0) (λi=>(nh x6) (0+i)) .none),(.vsub 28 x10.2.length 0 x10.1),(.int .i64 (GL v0 i1).End.Kind),(.int .i64 (GL v0 i1).End.Arg),(nj v0 i1)]),(22,.tok 4 67 x6.2.length),(28,.arr 6 70 x10.2.length (fS x10)),(Ln 5502 64 l2.length)],[]⟩) (by kernel_rfl))) (Jc (st':=⟨(ng v33 v0 i1),[(4,.row 25 cJ),(5,.row 25 (lB v0 l2)),(7,.row 64 [(AV.list 4 Ej default (x6.2.take x6.1) .none),(.vsub 28 x10.2.length 0 x10.1),(.int .i64 (GL v0 i1).End.Kind),(.int .i64 (GL v0 i1).End.Arg),(nj v0 i1)]),(22,.tok 4 67 x6.2.length),(28,.arr 6 70 x10.2.length (fS x10)),(Ln 5502 64 l2.length)],[]⟩) (.cons (AVle.refl _) (.cons (AVle.refl _) (.cons (AVle.refl _) (.cons (AVle.refl _) (.cons (AVle.refl _) (.cons (AVle.refl _) (.cons (AVle.refl _) .nil))))))) (.same (.same (.row (.cons (oP (e:=Ej) (d:=(default:TPhi)) (And.intro trivial c7_).2) (.cons (AVle.refl _) (.cons (AVle.refl _) (.cons (AVle.refl _) (.cons (AVle.refl _) .nil))))) (.same (.same (.same .nil)))))))) (gLe (Le.trans (Le.trans (le_freeze (nm:=28) (sz:=6) (n:=x10.2.length) (e:=70) (f:=(fS x10)) (g:=(fS x10)) rfl ⟨rfl,trivial⟩ (λ_ _=>rfl) (by rw[hΓ];rfl)) (Gt (st':=⟨(ng v33 v0 i1),[(4,.row 25 cJ),(5,.row 25 (lB v0 l2)),(7,.row 64 [(AV.list 4 Ej default (x6.2.take x6.1) .none),(.slice 6 (x10.1-0) (λi=>(fS x10) (0+i)) .none),(.int .i64 (GL v0 i1).End.Kind),(.int .i64 (GL v0 i1).End.Arg),(nj v0 i1)]),(22,.tok 4 67 x6.2.length),(28,.tok 6 70 x10.2.length),(Ln 5502 64 l2.length)],[]⟩) (by kernel_rfl))) (Jc (st':=⟨(ng v33 v0 i1),[(4,.row 25 cJ),(5,.row 25 (lB v0 l2)),(7,.row 64 [(AV.list 4 Ej default (x6.2.take x6.1) .none),(AV.list 6 Lm default (x10.2.take x10.1) .none),(.int .i64 (GL v0 i1).End.Kind),(.int .i64 (GL v0 i1).End.Arg),(nj v0 i1)]),(22,.tok 4 67 x6.2.length),(28,.tok 6 70 x10.2.length),(Ln 5502 64 l2.length)],[]⟩) (.cons (AVle.refl _) (.cons (AVle.refl _) (.cons (AVle.refl _) (.cons (AVle.refl _) (.cons (AVle.refl _) (.cons (AVle.refl _) (.cons (AVle.refl _) .nil))))))) (.same (.same (.row (.cons (AVle.refl _) (.cons (oP (e:=Lm) (d:=(default:TOp)) (And.intro trivial c11_).2) (.cons (AVle.refl _) (.cons (AVle.refl _) (.cons (AVle.refl _) .nil))))) (.same (.same (.same .nil)))))))) (tC h λc13_ h=>gR q YZ GB (Z60 35 (sa x6 x10 v0 i1) 36 l2 5502) [] (c5 (Bq 5 Cg (default:Ae) (sa x6 x10 v0 i1)) (Eq.refl l2.length) c13_ (I7 5 5502 Cg (default:Ae) l2 (sa x6 x10 v0 i1)) (E0 l2 (sa x6 x10 v0 i1))) (Af q YZ GB (tN h)))))))) λh=>tS h (gO (Be (Bg [4,5] GB q))))) λx14 h=>gA (Af q [4] [4,5502] (tS h (Ca [])))))))
def Nx :mo->Option Aab:=
 λs_=>match s_ with|(l1,i2,l3)=>(Kx ⟨l1,i2,l3⟩).bind λx9=>(Jp ⟨l1,i2,l3⟩ x9).bind λx10=>(Hb x10).bind λx11=>(Hb ⟨l1,i2,l3⟩).bind λx12=>bif decide (x11<x12) then some (.next (x10.Params,x10.Ret,x10.Blocks)) else some (.done ⟨l1,i2,l3⟩)
def cB(Γ:H6)(a0:TFunc)(r:TFunc):Exit->St->Prop:=fK Tryz.prog Γ Tryz.f18.results.toList [] (Vn r) []
def Nv(a0:TFunc):Option TFunc:=
 (Rz   ((Lw a0).bind λx4=>bif !x4 then some (.done a0) else(Kx a0).bind λx5=>(Jp a0 x5).bind λx6=>(Hb x6).bind λx7=>(Hb a0).bind λx8=>bif decide (x7<x8) then some (.next (x6.Params,x6.Ret,x6.Blocks)) else some (.done a0)) Nx).bind λx13=>some x13
theorem Te(h:Nv v0=some v44):sP 18 [(Vn v0)] [] (Vn v44) []:=
 sG Tryz.func18 λΓ q=>Af q Ea Ea (tB h λx13 y13 h=>gS y13 (λ(s_:mo)=>match s_ with|(l1,i2,l3)=>0) (λ(s_:mo)=>match s_ with|(l1,i2,l3)=>(⟨[AA,Uj],[(1,.row 25 [(Z6 l1),(Z5 i2),(OY l3)]),(2,.row 25 [Z0,L9,Z0])],[]⟩:St)) (λr_=>aR (cB Γ v0 r_)) (λy h=>tB h λx4 y4 h=>tT q CL Ea [(Z2 x4)] (c1 (Ss y4)) (gC h (λh=>Af q [2] [2] (tS h (fB (Lo (H7 [] (Le.refl _ _)))))) λh=>tB h λx5 y5 h=>tB h λx6 y6 h=>tT q GE GE [(xd 10 x5 x5.length),(lL x6)] (c2 (V3 y5) (Y6 y6)) (tB h λx7 y7 h=>tB h λx8 y8 h=>tT q [1,2,3,16] GE [(IX x7),(IX x8)] (c2 (Q2 y7) (Q2 y8)) (gC h (λh=>Af q Ea Ea (tS h (fy H8))) λh=>Af q [2] [2] (tS h (fB (Lo (H7 [] (Le.refl _ _))))))))) (λ⟨l1,i2,l3⟩ y h=>tB h λx9 y9 h=>tB h λx10 y10 h=>tT q GE GE [(xd 10 x9 x9.length),(lL x10)] (c2 (V3 y9) (Y6 y10)) (tB h λx11 y11 h=>tB h λx12 y12 h=>tT q [1,2,3,16] GE [(IX x11),(IX x12)] (c2 (Q2 y11) (Q2 y12)) (gC h (λh=>Af q Ea Ea (tS h (fy H8))) λh=>Af q [2] [2] (tS h (fB (Lo (H7 [] (Le.refl _ _)))))))) (O3 (λst' hk=>tS h (gK hk))))
def QR(a0:TFunc):Option TFunc:=
 (Pp a0).bind λx1=>(Nv x1).bind λx2=>some x2
theorem dn(h:QR v0=some v44):sP 20 [(Vn v0)] [] (Vn v44) []:=
 sG Tryz.func20 λΓ q=>Af q Ea Ea (tB h λx1 y1 h=>tB h λx2 y2 h=>tT q [2] [2] [(lL x1),(lL x2)] (c2 (U3 y1) (Te y2)) (tS h (Ca [])))
def QS(x2:List Bool):(Ax×Int)->Option (LR (Ax×Int) Ax):=
 λ(l3,i4)=>bif decide (i4<x2.length) then Option.bind  (Az (A1 i4 x2.length) (bif x2.getD i4.toNat false then Az (l3.length+[i4].length<=room) (some (l3++[i4])) else some l3)) λx9=>some (.next (x9,w64 (i4+1))) else some (.done l3)
def lC:AV:=fU
def yY:=(⟨[(2,(Z95 6002))],[(6002,.tok 1 3 (([]:Ax).length))],[]⟩:St)
def yX(x2:List Bool):=(⟨[(3,(Z95 5003)),(10,(NT x2 10)),(b8 11 x2.length),(12,L9)],[(Rd 10 x2.length),(5003,.tok 1 3 (([]:Ax).length))],[]⟩:St)
def LW(a0:TFunc):Option Ax:=
 (Lw a0).bind λx1=>bif !x1 then some [] else(Kx a0).bind λx2=>(Ac   (QS x2) ([],0)).bind λx11=>some x11
theorem bQ(h:LW v0=some v2):sP 14 [(Vn v0)] [] (Wa v2 20000) [(Yu 20000 v2.length)]:=
 sG Tryz.func14 λΓ q=>gR q [1] [1] [(2,lC)] [] (c1 (Bz 1 Aq (0:Int))) (tB h λx1 y1 h=>tT q [1,8] [1] [(Z2 x1)] (c1 (Ss y1)) (gC h (λh=>gR q [2] [] [(2,lC)] [] (c1 (Bz 1 Aq (0:Int))) (Qa (⟨[(2,lC)],[],[]⟩:St) (tS h (gK (e:=.ret) (H7 [(6002,20000)] (show Le Γ _ yY from Le.trans (Bg (st':=⟨[(2,lC)],[],[]⟩) [2] [] q) (Le.trans (Ro (t:=2) (nm:=6002) (sz':=1) (λi=>Aq (([]:Ax).getD i 0)) 3 rfl rfl (.inl ⟨rfl,rfl⟩) (λh_=>absurd h_ (by decide))) (Bg (st':=yY) [2] [6002] q)))))))) λh=>gR q La [1] [(3,lC)] [] (c1 (Bz 1 Aq (0:Int))) (tB h λx2 y2 h=>tT q CR [10] [(xd 10 x2 x2.length)] (c1 (V3 y2)) (gLe (st':=(yX x2)) (Le.trans (Bg (st':=⟨[(3,lC),(10,(NT x2 10)),(b8 11 x2.length),(12,L9)],[(Rd 10 x2.length)],[]⟩) CR [10] q) (Le.trans (Ro (t:=3) (nm:=5003) (sz':=1) (λi=>Aq (([]:Ax).getD i 0)) 3 rfl rfl (.inl ⟨rfl,rfl⟩) (λh_=>absurd h_ (by decide))) (Bg (st':=(yX x2)) CR CK q))) (tL q h CR CK (λu (l3,i4)=>(Cm u [(3,(Wa l3 5003)),(12,(Z5 i4))] [(Yu 5003 l3.length)])) (λu l5=>aG Γ (.exit 0) (⟨[(3,(Wa l5 5003))],[(Yu 5003 l5.length)],[]⟩:St)) (λ⟨l3,i4⟩ y h=>Af q [3,10,11,12,13] CK (gC h (λh=>tB h λx9 y9 h=>gJ y9 (λl6=>aG Γ .normal (⟨[(3,(Wa l6 5003)),(10,(NT x2 10)),(b8 11 x2.length),(12,(Z5 i4))],[(Rd 10 x2.length),(Yu 5003 l6.length)],[]⟩:St)) (λy h=>tV q [3,4,5,10,11,12] CK h λh=>Af q [3,4,10,11,12,17] CK (gC h (λh=>tC h λc8_ h=>gR q CR CK (wN 20 i4 21 l3 5003) [] (c5 (Bq 1 Aq (0:Int) ([i4]:Ax)) (Eq.refl l3.length) c8_ (I7 1 5003 Aq (0:Int) l3 ([i4]:Ax)) (E0 l3 ([i4]:Ax))) (tS h (gK (Be H8)))) λh=>tS h (gK (Be (Bg CR CK q))))) (gA (Af q CR CK (tN h)))) λh=>tS h (gO (Be (Bg [3] [5003] q))))) λx11 h=>gA (Af q [2] [5003] (tS h (Ca br))))))))
def F2:List TOp:=[⟨0,8,1,1,[],7⟩,⟨0,8,1,2,[],8⟩]
def Df:List Ae:=([(⟨([]:List TPhi),F2,(⟨(1:Int),(0:Int),([(1:Int)]:Ax)⟩:Ou)⟩:Ae),(⟨([(⟨(8:Int),(3:Int),([(0:Int)]:Ax),([(1:Int)]:Ax)⟩:TPhi)]:List TPhi),([]:List TOp),(⟨(0:Int),(3:Int),([]:Ax)⟩:Ou)⟩:Ae)]:List Ae)
def GM:AV:=L9
def cK:AV:=u1
def lD:AV:=Z0
def wF(x4:Bool)(x1:TFunc):=(bif (bif (bif x4 then((x1.Blocks.length:Int)==1) else false) then(((x1.Blocks.getD (0:Int).toNat (default:Ae)).End.Arg:Int)==1) else false) then((((x1.Blocks.getD (0:Int).toNat (default:Ae)).Ops).length:Int)==2) else false)
def Aaj(x2:TFunc):=((x2.Blocks.length:Int)==1)
def nk(x4:Bool)(x1:TFunc)(x2:TFunc):=(bif (wF x4 x1) then(Aaj x2) else false)
def OV:AV:=fU
def ya(x2:TFunc):=((((x2.Blocks.getD (0:Int).toNat (default:Ae)).Ops).length:Int)==1)
def wG(x4:Bool)(x1:TFunc)(x2:TFunc):=((bif (nk x4 x1 x2) then(ya x2) else false)==true)
def Aa2:=(⟨([]:Ax),(8:Int),Df⟩:TFunc)
def sc:AV:=(AV.list 5 Cg default Df .exact)
def yb(x4:Bool)(x1:TFunc):=((bif x4 then((x1.Blocks.length:Int)==1) else false)==true)
def sb:AV:=(AV.list 4 Ej default ([(⟨(8:Int),(3:Int),([(0:Int)]:Ax),([(1:Int)]:Ax)⟩:TPhi)]:List TPhi) .exact)
def yZ(x4:Bool)(x1:TFunc):=((bif (bif x4 then((x1.Blocks.length:Int)==1) else false) then(((x1.Blocks.getD (0:Int).toNat (default:Ae)).End.Arg:Int)==1) else false)==true)
def yc:AV:=(.agg [(AV.list 4 Ej default ([]:List TPhi) .exact),(AV.list 6 Lm default F2 .exact),cK,GM,Z84])
def m_locksteplaw16_awake :Option Bool:=
 ((Pp (⟨([]:Ax),(8:Int),Df⟩:TFunc)).bind λx1=>((QR (⟨([]:Ax),(8:Int),Df⟩:TFunc)).bind λx2=>((LW (⟨([]:Ax),(8:Int),Df⟩:TFunc)).bind λx3=>((Bb x3 ([(1:Int),(3:Int)]:Ax)).bind λx4=>(Az (((bif x4 then((x1.Blocks.length:Int)==1) else false)==true)=true->(A1 (0:Int) x1.Blocks.length)) (Az (((bif (bif x4 then((x1.Blocks.length:Int)==1) else false) then(((x1.Blocks.getD (0:Int).toNat (default:Ae)).End.Arg:Int)==1) else false)==true)=true->(A1 (0:Int) x1.Blocks.length)) (Az (((bif (bif (bif (bif x4 then((x1.Blocks.length:Int)==1) else false) then(((x1.Blocks.getD (0:Int).toNat (default:Ae)).End.Arg:Int)==1) else false) then((((x1.Blocks.getD (0:Int).toNat (default:Ae)).Ops).length:Int)==2) else false) then((x2.Blocks.length:Int)==1) else false)==true)=true->(A1 (0:Int) x2.Blocks.length)) ((bif ((bif (bif (bif (bif (bif x4 then((x1.Blocks.length:Int)==1) else false) then(((x1.Blocks.getD (0:Int).toNat (default:Ae)).End.Arg:Int)==1) else false) then((((x1.Blocks.getD (0:Int).toNat (default:Ae)).Ops).length:Int)==2) else false) then((x2.Blocks.length:Int)==1) else false) then((((x2.Blocks.getD (0:Int).toNat (default:Ae)).Ops).length:Int)==1) else false)==true) then Nv (⟨([]:Ax),(8:Int),Df⟩:TFunc) else some (default:TFunc)).bind λx8=>(some (bif (bif (bif (bif (bif (bif x4 then((x1.Blocks.length:Int)==1) else false) then(((x1.Blocks.getD (0:Int).toNat (default:Ae)).End.Arg:Int)==1) else false) then((((x1.Blocks.getD (0:Int).toNat (default:Ae)).Ops).length:Int)==2) else false) then((x2.Blocks.length:Int)==1) else false) then((((x2.Blocks.getD (0:Int).toNat (default:Ae)).Ops).length:Int)==1) else false) then((x8.Blocks.length:Int)==2) else false))))))))))
theorem X7  (r:Bool) (h:m_locksteplaw16_awake=some r):sP 10 [] [] (.bool r) []:=
 sG Tryz.func10 λΓ q=>Af q [] [] (gR q [1] [1] [(6,(Z96 GM cK OV))] [] (c1 (show(AVle (Z96 GM cK lD) (Z96 GM cK OV)) from(AVle.agg (.cons (AVle.refl _) (.cons (AVle.refl _) (.cons (AVle.refl _) (.cons (AVle.refl _) (.cons Eh (.cons (AVle.refl _) .nil))))))))) (gR q Ea Ea [(7,(Z78 GM cK OV))] [] (c1 (show(AVle (Z78 GM cK lD) (Z78 GM cK OV)) from(AVle.agg (.cons (AVle.refl _) (.cons (AVle.refl _) (.cons (AVle.refl _) (.cons (AVle.refl _) (.cons Eh (.cons (AVle.refl _) .nil))))))))) (gR q [3] [3] [(10,(AV.list 6 Lm default F2 .exact)),(11,Z84),(13,yc),(14,(AV.list 1 Aq 0 ([(0:Int)]:Ax) .exact)),(15,Z84),(17,sb),(18,(.agg [GM,(.int .i64 (3:Int)),OV])),(19,(.agg [sb,yp,GM,(.int .i64 (3:Int)),OV])),(20,sc),(21,(.agg [OV,(.int .i64 (8:Int)),sc]))] [] (d9_ (Bq 6 Lm (default:TOp) F2) (Bq 1 Aq (0:Int) ([(1:Int)]:Ax)) (show(AVle (.agg [lD,(AV.list 6 Lm default F2 .exact),cK,GM,Z84]) yc) from(AVle.agg (.cons Eh (.cons (AVle.refl _) (.cons (AVle.refl _) (.cons (AVle.refl _) (.cons (AVle.refl _) .nil))))))) (Bq 1 Aq (0:Int) ([(0:Int)]:Ax)) (Bq 1 Aq (0:Int) ([(1:Int)]:Ax)) (Bq 4 Ej (default:TPhi) ([(⟨(8:Int),(3:Int),([(0:Int)]:Ax),([(1:Int)]:Ax)⟩:TPhi)]:List TPhi)) (show(AVle (.agg [GM,(.int .i64 (3:Int)),lD]) (.agg [GM,(.int .i64 (3:Int)),OV])) from(AVle.agg (.cons (AVle.refl _) (.cons (AVle.refl _) (.cons Eh .nil))))) (show(AVle (.agg [sb,lD,GM,(.int .i64 (3:Int)),OV]) (.agg [sb,yp,GM,(.int .i64 (3:Int)),OV])) from(AVle.agg (.cons (AVle.refl _) (.cons Eh (.cons (AVle.refl _) (.cons (AVle.refl _) (.cons (AVle.refl _) .nil))))))) (Bq 5 Cg (default:Ae) Df) (c1 (show(AVle (.agg [lD,(.int .i64 (8:Int)),sc]) (.agg [OV,(.int .i64 (8:Int)),sc])) from(AVle.agg (.cons Eh (.cons (AVle.refl _) (.cons (AVle.refl _) .nil))))))) (tB h λx1 y1 h=>tT q [3,4] [3,4] [(lL x1)] (c1 (U3 y1)) (tB h λx2 y2 h=>tT q [3,4,5] [3,4,5] [(lL x2)] (c1 (dn y2)) (tB h λx3 y3 h=>tB h λx4 y4 h=>tC h λc5_ h=>tC h λc6_ h=>tC h λc7_ h=>tB h λx8 y8 h=>gR q [0] [] [(28,(AV.list 1 Aq 0 ([(1:Int),(3:Int)]:Ax) .exact))] [(xZ 27 x3 x3.length),(Z2 x4),(lL x8)] (UN (bQ y3) (Bq 1 Aq (0:Int) ([(1:Int),(3:Int)]:Ax)) (Ck y4) (Yy (x4==true) (ci (Ml x4) (Md (yb x4 x1) (ci c5_ (LO (yb x4 x1) (ci (Ml (bif x4 then((x1.Blocks.length:Int)==1) else false)) (Md (yZ x4 x1) (ci c6_ (LO (yZ x4 x1) (ci (Ml (bif (bif x4 then((x1.Blocks.length:Int)==1) else false) then(((x1.Blocks.getD (0:Int).toNat (default:Ae)).End.Arg:Int)==1) else false)) (Yy ((wF x4 x1)==true) (ci (Ml (wF x4 x1)) (Md ((nk x4 x1 x2)==true) (ci c7_ (LO ((nk x4 x1 x2)==true) (UN (Ml (nk x4 x1 x2)) (gI (wG x4 x1 x2)) (λ(hg:(wG x4 x1 x2)=true)=>(Te (A9 hg y8))) (Yy (wG x4 x1 x2) (c1 (Ml (bif (nk x4 x1 x2) then(ya x2) else false))))))))))))))))))))) (tS h (Ca []))))))))
def wH(a8:TOp)(aE:TOp):=(a8.Dst==aE.Dst)
def np(a8:TOp)(aE:TOp):=(bif (bif (a8.Kind==aE.Kind) then(a8.Bits==aE.Bits) else false) then(a8.Lanes==aE.Lanes) else false)
def Aal(a8:TOp)(aE:TOp):=((bif (np a8 aE) then(wH a8 aE) else false)==true)
def Aak(a8:TOp)(aE:TOp):=((bif (a8.Kind==aE.Kind) then(a8.Bits==aE.Bits) else false)==true)
def wI(a8:TOp)(aE:TOp):=(bif (bif (np a8 aE) then(wH a8 aE) else false) then(a8.Imm==aE.Imm) else false)
def Kq(a8:TOp)(aE:TOp):Option Bool:=
 (bif (bif bif bif bif a8.Kind==aE.Kind then a8.Bits==aE.Bits else false then a8.Lanes==aE.Lanes else false then a8.Dst==aE.Dst else false then a8.Imm==aE.Imm else false)==true then Bb a8.Args aE.Args else some false).bind λx1=>some (bif bif bif bif bif a8.Kind==aE.Kind then a8.Bits==aE.Bits else false then a8.Lanes==aE.Lanes else false then a8.Dst==aE.Dst else false then a8.Imm==aE.Imm else false then x1 else false)
variable{v50:TOp}
theorem Zs(h:Kq v6 v50=some v3):sP 45 [(WD v6),(WD v50)] [] (.bool v3) []:=
 sG Tryz.func45 λΓ q=>Af q Cy Cy (tB h λx1 y1 h=>tT q [4] [] [(Z2 x1)] (LO ((v6.Kind==v50.Kind)==true) (ci (Ml (v6.Kind==v50.Kind)) (LO (Aak v6 v50) (ci (Ml (bif (v6.Kind==v50.Kind) then(v6.Bits==v50.Bits) else false)) (LO ((np v6 v50)==true) (ci (Ml (np v6 v50)) (LO (Aal v6 v50) (ci (Ml (bif (np v6 v50) then(wH v6 v50) else false)) (LO ((wI v6 v50)==true) (c2 (λ(hg:((wI v6 v50)==true)=true)=>(Ck (A9 hg y1))) (Ml (wI v6 v50)))))))))))) (tS h (Ca [])))
def F8(a8:TFunc)(a2:TFunc)(i2:Int):Int->Option (LR Int (Unit ⊕ Bool)):=
 λi6=>bif decide (i6<(a8.Blocks.getD i2.toNat default).Phis.length) then Az (A1 i6 (a8.Blocks.getD i2.toNat default).Phis.length) (Az (A1 i6 (a2.Blocks.getD i2.toNat default).Phis.length) ((bif (bif ((a8.Blocks.getD i2.toNat default).Phis.getD i6.toNat default).Bits !=((a2.Blocks.getD i2.toNat default).Phis.getD i6.toNat default).Bits then true else((a8.Blocks.getD i2.toNat default).Phis.getD i6.toNat default).Dst !=((a2.Blocks.getD i2.toNat default).Phis.getD i6.toNat default).Dst)==false then Bb ((a8.Blocks.getD i2.toNat default).Phis.getD i6.toNat default).From ((a2.Blocks.getD i2.toNat default).Phis.getD i6.toNat default).From else some false).bind λx9=>(bif (bif bif ((a8.Blocks.getD i2.toNat default).Phis.getD i6.toNat default).Bits !=((a2.Blocks.getD i2.toNat default).Phis.getD i6.toNat default).Bits then true else((a8.Blocks.getD i2.toNat default).Phis.getD i6.toNat default).Dst !=((a2.Blocks.getD i2.toNat default).Phis.getD i6.toNat default).Dst then true else !x9)==false then Bb ((a8.Blocks.getD i2.toNat default).Phis.getD i6.toNat default).Args ((a2.Blocks.getD i2.toNat default).Phis.getD i6.toNat default).Args else some false).bind λx10=>bif bif bif bif ((a8.Blocks.getD i2.toNat default).Phis.getD i6.toNat default).Bits !=((a2.Blocks.getD i2.toNat default).Phis.getD i6.toNat default).Bits then true else((a8.Blocks.getD i2.toNat default).Phis.getD i6.toNat default).Dst !=((a2.Blocks.getD i2.toNat default).Phis.getD i6.toNat default).Dst then true else !x9 then true else !x10 then some (.done (.inr false)) else some (.next (w64 (i6+1))))) else some (.done (.inl ()))
def F9(a8:TFunc)(a2:TFunc)(i2:Int):Int->Option (LR Int (Unit ⊕ Bool)):=
 λi13=>bif decide (i13<(a8.Blocks.getD i2.toNat default).Ops.length) then Az (A1 i13 (a8.Blocks.getD i2.toNat default).Ops.length) (Az (A1 i13 (a2.Blocks.getD i2.toNat default).Ops.length) ((Kq ((a8.Blocks.getD i2.toNat default).Ops.getD i13.toNat default) ((a2.Blocks.getD i2.toNat default).Ops.getD i13.toNat default)).bind λx16=>bif !x16 then some (.done (.inr false)) else some (.next (w64 (i13+1))))) else some (.done (.inl ()))
def Ga(a8:TFunc)(a2:TFunc):Int->Option (LR Int (Unit ⊕ Bool)):=
 λi2=>bif decide (i2<a8.Blocks.length) then Az (A1 i2 a8.Blocks.length) (Az (A1 i2 a2.Blocks.length) ((bif bif bif bif ((a8.Blocks.getD i2.toNat default).Phis.length:Int)!=(a2.Blocks.getD i2.toNat default).Phis.length then true else((a8.Blocks.getD i2.toNat default).Ops.length:Int)!=(a2.Blocks.getD i2.toNat default).Ops.length then true else(a8.Blocks.getD i2.toNat default).End.Kind !=(a2.Blocks.getD i2.toNat default).End.Kind then true else(a8.Blocks.getD i2.toNat default).End.Arg !=(a2.Blocks.getD i2.toNat default).End.Arg==false then Bb (a8.Blocks.getD i2.toNat default).End.To (a2.Blocks.getD i2.toNat default).End.To else some false).bind λx5=>bif bif bif bif bif (a8.Blocks.getD i2.toNat default).Phis.length !=((a2.Blocks.getD i2.toNat default).Phis.length:Int) then true else((a8.Blocks.getD i2.toNat default).Ops.length:Int)!=(a2.Blocks.getD i2.toNat default).Ops.length then true else(a8.Blocks.getD i2.toNat default).End.Kind !=(a2.Blocks.getD i2.toNat default).End.Kind then true else(a8.Blocks.getD i2.toNat default).End.Arg !=(a2.Blocks.getD i2.toNat default).End.Arg then true else !x5 then some (.done (.inr false)) else(Ac   (F8 a8 a2 i2) 0).bind λx11=>match x11 with | .inl _=>(Ac   (F9 a8 a2 i2) 0).bind λx17=>(match x17 with | .inl _=>some (.next (w64 (i2+1))) | .inr r19=>some (.done (.inr r19))) | .inr r20=>some (.done (.inr r20)))) else some (.done (.inl ()))
def Nj(Γ:H6)(a8:TFunc)(a2:TFunc)(r:Bool):Exit->St->Prop:=fK Tryz.prog Γ Tryz.f16.results.toList [] (.bool r) []
def wJ(a8:TFunc)(a2:TFunc):=((a8.Ret !=a2.Ret)==false)
def GO(a8:TFunc)(i2:Int):=(a8.Blocks.getD i2.toNat default)
def GN(a2:TFunc)(i2:Int):=(a2.Blocks.getD i2.toNat default)
def lE(a8:TFunc)(i2:Int)(i6:Int)(a2:TFunc):=(bif (((((GO a8 i2).Phis).getD i6.toNat default).Bits:Int)!=(((GN a2 i2).Phis).getD i6.toNat default).Bits) then true else(((((GO a8 i2).Phis).getD i6.toNat default).Dst:Int)!=(((GN a2 i2).Phis).getD i6.toNat default).Dst))
def wL(a8:TFunc)(i2:Int)(i6:Int)(a2:TFunc)(x9:Bool):=((bif (lE a8 i2 i6 a2) then true else(!x9))==false)
def Aap(a8:TFunc)(a2:TFunc)(x1:Bool):=((bif (a8.Ret !=a2.Ret) then true else(!x1))==false)
def sd(a8:TFunc)(i2:Int)(a2:TFunc):=(bif (bif ((((GO a8 i2).Phis).length:Int)!=(((GN a2 i2).Phis).length:Int)) then true else((((GO a8 i2).Ops).length:Int)!=(((GN a2 i2).Ops).length:Int))) then true else(((GO a8 i2).End.Kind:Int)!=(GN a2 i2).End.Kind))
def yd(a8:TFunc)(i2:Int)(a2:TFunc):=(((GO a8 i2).End.Arg:Int)!=(GN a2 i2).End.Arg)
def wK(a8:TFunc)(i2:Int)(a2:TFunc):=((bif (sd a8 i2 a2) then true else(yd a8 i2 a2))==false)
def Aan(a8:TFunc)(i2:Int)(a2:TFunc):=(((((GO a8 i2).Phis).length:Int)!=(((GN a2 i2).Phis).length:Int))==false)
def Aao(a8:TFunc)(i2:Int)(i6:Int)(a2:TFunc):=((((((GO a8 i2).Phis).getD i6.toNat default).Bits:Int)!=(((GN a2 i2).Phis).getD i6.toNat default).Bits)==false)
def Aam(a8:TFunc)(i2:Int)(a2:TFunc):=((bif ((((GO a8 i2).Phis).length:Int)!=(((GN a2 i2).Phis).length:Int)) then true else((((GO a8 i2).Ops).length:Int)!=(((GN a2 i2).Ops).length:Int)))==false)
def H4(a8:TFunc)(a2:TFunc):Option Bool:=
 (bif (a8.Ret !=a2.Ret)==false then Bb a8.Params a2.Params else some false).bind λx1=>bif bif bif a8.Ret !=a2.Ret then true else !x1 then true else(a8.Blocks.length:Int)!=a2.Blocks.length then some false else(Ac   (Ga a8 a2) 0).bind λx21=>match x21 with | .inl _=>some true | .inr r23=>some r23
theorem Ri(h:H4 v0 v44=some v3):sP 16 [(Vn v0),(Vn v44)] [] (.bool v3) []:=
 sG Tryz.func16 λΓ q=>Af q Cy Cy (tB h λx1 y1 h=>tT q [2,3,33] Cy [(Z2 x1)] (LO (wJ v0 v44) (UN (λ(hg:(wJ v0 v44)=true)=>(Ck (A9 hg y1))) (gI (wJ v0 v44)) (L5 (v0.Ret !=v44.Ret)) (vC (Aap v0 v44 x1) (c1 (L5 (bif (v0.Ret !=v44.Ret) then true else(!x1))))))) (gC h (λh=>Af q [4] [] (tS h (Ca []))) λh=>Af q CM Cy (tL q h CM Cy (λu i2=>(Cm u [(5,(Z5 i2))] [])) (λu x_=>match x_ with|(.inl _)=>aG Γ (.exit 0) (⟨[],[],[]⟩:St)|(.inr r_)=>aR (Nj Γ v0 v44 r_)) (λi2 y h=>Af q [2,3,5,38] Cy (gC h (λh=>tV q [2,3,5,6] [2,3,6] h λh=>tV q iy Vj h λh=>tB h λx5 y5 h=>tT q [2,3,5,6,7,94] Vj [(Z2 x5)] (vC (Aan v0 i2 v44) (ci (L5 ((((GO v0 i2).Phis).length:Int)!=(((GN v44 i2).Phis).length:Int))) (vC (Aam v0 i2 v44) (ci (L5 (bif ((((GO v0 i2).Phis).length:Int)!=(((GN v44 i2).Phis).length:Int)) then true else((((GO v0 i2).Ops).length:Int)!=(((GN v44 i2).Ops).length:Int)))) (vC ((sd v0 i2 v44)==false) (ci (L5 (sd v0 i2 v44)) (vC (wK v0 i2 v44) (c3 (λ(hg:(wK v0 i2 v44)=true)=>(Ck (A9 hg y5))) (gI (wK v0 i2 v44)) (L5 (bif (sd v0 i2 v44) then true else(yd v0 i2 v44))))))))))) (gC h (λh=>Af q [4] [] (tS h (gO (Lo (H7 [] (Le.refl _ _)))))) λh=>Af q ie Vj (tL q h ie Vj (λu i6=>(Cm u [(8,(Z5 i6))] [])) (λu x_=>match x_ with|(.inl _)=>aG Γ (.exit 2) (Nb iy Vj u [] [])|(.inr r_)=>aR (Nj Γ v0 v44 r_)) (λi6 y h=>Af q [2,3,5,6,7,8,99] Vj (gC h (λh=>tV q [2,3,5,6,7,8,9] [2,3,6,7,9] h λh=>tV q [2,3,5,6,7,8,9,10] [2,3,6,7,9,10] h λh=>tB h λx9 y9 h=>tB h λx10 y10 h=>tT q [2,3,5,6,7,8,139] Vj [(Z2 x9),(Z2 x10)] (LO (Aao v0 i2 i6 v44) (ci (L5 (((((GO v0 i2).Phis).getD i6.toNat default).Bits:Int)!=(((GN v44 i2).Phis).getD i6.toNat default).Bits)) (LO ((lE v0 i2 i6 v44)==false) (UN (λ(hg:((lE v0 i2 i6 v44)==false)=true)=>(Ck (A9 hg y9))) (gI ((lE v0 i2 i6 v44)==false)) (L5 (lE v0 i2 i6 v44)) (LO (wL v0 i2 i6 v44 x9) (c3 (λ(hg:(wL v0 i2 i6 v44 x9)=true)=>(Ck (A9 hg y10))) (gI (wL v0 i2 i6 v44 x9)) (L5 (bif (lE v0 i2 i6 v44) then true else(!x9))))))))) (gC h (λh=>Af q [4] [] (tS h (gO (Lo (H7 [] (Le.refl _ _)))))) λh=>Af q ie Vj (tN h))) λh=>tS h (gO (Be (Bg iy Vj q))))) λx11 h=>(match x11,h with | .inl _,h=>gA (Af q iZ Vj (tL q h iZ Vj (λu i13=>(Cm u [(11,(Z5 i13))] [])) (λu x_=>match x_ with|(.inl _)=>aG Γ (.exit 4) (Nb CM Cy u [] [])|(.inr r_)=>aR (Nj Γ v0 v44 r_)) (λi13 y h=>Af q [2,3,5,6,7,11,144] Vj (gC h (λh=>tC h λc14_ h=>tC h λc15_ h=>tB h λx16 y16 h=>tT q [2,3,5,6,7,11,158] Vj [(Z2 x16)] (c3 c14_ c15_ (Zs y16)) (gC h (λh=>Af q [4] [] (tS h (gO (Lo (H7 [] (Le.refl _ _)))))) λh=>Af q iZ Vj (tN h))) λh=>tS h (gO (Be (Bg CM Cy q))))) λx17 h=>(match x17,h with | .inl _,h=>gA (Af q CM Cy (tN h)) | .inr r19,h=>O3 (λst' hk=>tS h (gO (Lo hk)))))) | .inr r20,h=>O3 (λst' hk=>tS h (gO (Lo hk))))))) λh=>tS h (gO (Be (Bg [] [] q))))) λx21 h=>(match x21,h with | .inl _,h=>gA (Af q [4] [] (tS h (Ca []))) | .inr r23,h=>O3 (λst' hk=>tS h (gK hk))))))
open Go Go.RowKit
set_option maxRecDepth 100000
set_option maxHeartbeats 2000000
def lF(x8:Int)(x9:Int):=(decide (x8<=x9))
def NG(x4:TFunc)(a0:TFunc)(x5:TFunc)(x6:Int)(x7:Int):=(bif (bif (decide ((x4.Blocks.length:Int)<=(a0.Blocks.length:Int))) then((x5.Blocks.length:Int)==(a0.Blocks.length:Int)) else false) then(decide (x6<=x7)) else false)
def lG(x4:TFunc)(a0:TFunc)(x5:TFunc)(x6:Int)(x7:Int)(x8:Int)(x9:Int)(x11:Bool):=(bif (bif (NG x4 a0 x5 x6 x7) then(lF x8 x9) else false) then x11 else false)
def fT(x4:TFunc)(a0:TFunc)(x5:TFunc)(x6:Int)(x7:Int)(x8:Int)(x9:Int)(x11:Bool)(x13:Bool):=(bif (lG x4 a0 x5 x6 x7 x8 x9 x11) then x13 else false)
def Aaq(x4:TFunc)(a0:TFunc):=((decide ((x4.Blocks.length:Int)<=(a0.Blocks.length:Int)))==true)
def lH(x4:TFunc)(a0:TFunc)(x5:TFunc)(x6:Int)(x7:Int)(x8:Int)(x9:Int)(x11:Bool)(x13:Bool)(x14:Int)(x15:Int):=(bif (fT x4 a0 x5 x6 x7 x8 x9 x11 x13) then(decide (x14<=x15)) else false)
def nt(x4:TFunc)(a0:TFunc)(x5:TFunc):=((bif (decide ((x4.Blocks.length:Int)<=(a0.Blocks.length:Int))) then((x5.Blocks.length:Int)==(a0.Blocks.length:Int)) else false)==true)
def Lv(a0:TFunc):Option Bool:=
 m_locksteplaw16_awake.bind λx1=>bif !x1 then some false else(D7 a0).bind λx2=>(bif (!x2)==false then D6 a0 2 else some 0).bind λx3=>bif bif !x2 then true else x3 !=0 then some true else(Pp a0).bind λx4=>(Nv a0).bind λx5=>(bif (bif decide (x4.Blocks.length<=(a0.Blocks.length:Int)) then x5.Blocks.length==(a0.Blocks.length:Int) else false)==true then Cr x4 else some 0).bind λx6=>(bif (bif decide (x4.Blocks.length<=(a0.Blocks.length:Int)) then x5.Blocks.length==(a0.Blocks.length:Int) else false)==true then Cr a0 else some 0).bind λx7=>(bif (bif bif decide (x4.Blocks.length<=(a0.Blocks.length:Int)) then x5.Blocks.length==(a0.Blocks.length:Int) else false then decide (x6<=x7) else false)==true then Cr x5 else some 0).bind λx8=>(bif (bif bif decide (x4.Blocks.length<=(a0.Blocks.length:Int)) then x5.Blocks.length==(a0.Blocks.length:Int) else false then decide (x6<=x7) else false)==true then Cr a0 else some 0).bind λx9=>(bif (bif bif bif decide (x4.Blocks.length<=(a0.Blocks.length:Int)) then x5.Blocks.length==(a0.Blocks.length:Int) else false then decide (x6<=x7) else false then decide (x8<=x9) else false)==true then Pp x4 else some default).bind λx10=>(bif (bif bif bif decide (x4.Blocks.length<=(a0.Blocks.length:Int)) then x5.Blocks.length==(a0.Blocks.length:Int) else false then decide (x6<=x7) else false then decide (x8<=x9) else false)==true then H4 x10 x4 else some false).bind λx11=>(bif (bif bif bif bif decide (x4.Blocks.length<=(a0.Blocks.length:Int)) then x5.Blocks.length==(a0.Blocks.length:Int) else false then decide (x6<=x7) else false then decide (x8<=x9) else false then x11 else false)==true then Nv x5 else some default).bind λx12=>(bif (bif bif bif bif decide (x4.Blocks.length<=(a0.Blocks.length:Int)) then x5.Blocks.length==(a0.Blocks.length:Int) else false then decide (x6<=x7) else false then decide (x8<=x9) else false then x11 else false)==true then H4 x12 x5 else some false).bind λx13=>(bif (bif bif bif bif bif decide (x4.Blocks.length<=(a0.Blocks.length:Int)) then x5.Blocks.length==(a0.Blocks.length:Int) else false then decide (x6<=x7) else false then decide (x8<=x9) else false then x11 else false then x13 else false)==true then Eu x4 else some 0).bind λx14=>(bif (bif bif bif bif bif decide (x4.Blocks.length<=(a0.Blocks.length:Int)) then x5.Blocks.length==(a0.Blocks.length:Int) else false then decide (x6<=x7) else false then decide (x8<=x9) else false then x11 else false then x13 else false)==true then Eu a0 else some 0).bind λx15=>(bif (bif bif bif bif bif bif decide (x4.Blocks.length<=(a0.Blocks.length:Int)) then x5.Blocks.length==(a0.Blocks.length:Int) else false then decide (x6<=x7) else false then decide (x8<=x9) else false then x11 else false then x13 else false then decide (x14<=x15) else false)==true then Eu x5 else some 0).bind λx16=>(bif (bif bif bif bif bif bif decide (x4.Blocks.length<=(a0.Blocks.length:Int)) then(x5.Blocks.length:Int)==a0.Blocks.length else false then decide (x6<=x7) else false then decide (x8<=x9) else false then x11 else false then x13 else false then decide (x14<=x15) else false)==true then Eu a0 else some 0).bind λx17=>some (bif bif bif bif bif bif bif decide ((x4.Blocks.length:Int)<=a0.Blocks.length) then x5.Blocks.length==(a0.Blocks.length:Int) else false then decide (x6<=x7) else false then decide (x8<=x9) else false then x11 else false then x13 else false then decide (x14<=x15) else false then decide (x16<=x17) else false)
theorem ok_locksteplaw16_TidyTwo(a0:TFunc)(r:Bool)(h:Lv a0=some r):sP 7 [(Vn a0)] [] (.bool r) []:=
 sG Tryz.func7 λΓ q=>Af q [1] [1] (tB h λx1 y1 h=>tT q [1,6] [1] [(Z2 x1)] (c1 (X7  x1 y1)) (gC h (λh=>Af q [2] [] (tS h (Ca []))) λh=>tB h λx2 y2 h=>tB h λx3 y3 h=>tT q [1,14] [1] [(Z2 x2),(IX x3)] (c5 (Ye y2) (gI ((!x2)==false)) (λ(hg:((!x2)==false)=true)=>(Yd (A9 hg y3))) (gI ((!x2)==false)) (L5 (!x2))) (gC h (λh=>Af q [2] [] (tS h (Ca []))) λh=>tB h λx4 y4 h=>tT q La La [(lL x4)] (c1 (U3 y4)) (tB h λx5 y5 h=>tT q H3 H3 [(lL x5)] (c1 (Te y5)) (tB h λx6 y6 h=>tB h λx7 y7 h=>tB h λx8 y8 h=>tB h λx9 y9 h=>tB h λx10 y10 h=>tB h λx11 y11 h=>tB h λx12 y12 h=>tB h λx13 y13 h=>tB h λx14 y14 h=>tB h λx15 y15 h=>tB h λx16 y16 h=>tB h λx17 y17 h=>tT q [2] [] [(IX x6),(IX x7),(IX x8),(IX x9),(lL x10),(Z2 x11),(lL x12),(Z2 x13),(IX x14),(IX x15),(IX x16),(IX x17)] (vC (Aaq x4 a0) (d5_ (Ml (decide ((x4.Blocks.length:Int)<=(a0.Blocks.length:Int)))) (gI (nt x4 a0 x5)) (λ(hg:(nt x4 a0 x5)=true)=>(Hq (A9 hg y6))) (gI (nt x4 a0 x5)) (λ(hg:(nt x4 a0 x5)=true)=>(Hq (A9 hg y7))) (Md (nt x4 a0 x5) (d5_ (Ml (bif (decide ((x4.Blocks.length:Int)<=(a0.Blocks.length:Int))) then((x5.Blocks.length:Int)==(a0.Blocks.length:Int)) else false)) (gI ((NG x4 a0 x5 x6 x7)==true)) (λ(hg:((NG x4 a0 x5 x6 x7)==true)=true)=>(Hq (A9 hg y8))) (gI ((NG x4 a0 x5 x6 x7)==true)) (λ(hg:((NG x4 a0 x5 x6 x7)==true)=true)=>(Hq (A9 hg y9))) (Md ((NG x4 a0 x5 x6 x7)==true) (UN (Ml (NG x4 a0 x5 x6 x7)) (gI ((bif (NG x4 a0 x5 x6 x7) then(lF x8 x9) else false)==true)) (λ(hg:((bif (NG x4 a0 x5 x6 x7) then(lF x8 x9) else false)==true)=true)=>(U3 (A9 hg y10))) (Md ((bif (NG x4 a0 x5 x6 x7) then(lF x8 x9) else false)==true) (d4_ (λ(hg:((bif (NG x4 a0 x5 x6 x7) then(lF x8 x9) else false)==true)=true)=>(Ri (A9 hg y11))) (Ml (bif (NG x4 a0 x5 x6 x7) then(lF x8 x9) else false)) (gI ((lG x4 a0 x5 x6 x7 x8 x9 x11)==true)) (λ(hg:((lG x4 a0 x5 x6 x7 x8 x9 x11)==true)=true)=>(Te (A9 hg y12))) (Md ((lG x4 a0 x5 x6 x7 x8 x9 x11)==true) (d6_ (λ(hg:((lG x4 a0 x5 x6 x7 x8 x9 x11)==true)=true)=>(Ri (A9 hg y13))) (Ml (lG x4 a0 x5 x6 x7 x8 x9 x11)) (gI ((fT x4 a0 x5 x6 x7 x8 x9 x11 x13)==true)) (λ(hg:((fT x4 a0 x5 x6 x7 x8 x9 x11 x13)==true)=true)=>(J7 (A9 hg y14))) (gI ((fT x4 a0 x5 x6 x7 x8 x9 x11 x13)==true)) (λ(hg:((fT x4 a0 x5 x6 x7 x8 x9 x11 x13)==true)=true)=>(J7 (A9 hg y15))) (Md ((fT x4 a0 x5 x6 x7 x8 x9 x11 x13)==true) (d5_ (Ml (fT x4 a0 x5 x6 x7 x8 x9 x11 x13)) (gI ((lH x4 a0 x5 x6 x7 x8 x9 x11 x13 x14 x15)==true)) (λ(hg:((lH x4 a0 x5 x6 x7 x8 x9 x11 x13 x14 x15)==true)=true)=>(J7 (A9 hg y16))) (gI ((lH x4 a0 x5 x6 x7 x8 x9 x11 x13 x14 x15)==true)) (λ(hg:((lH x4 a0 x5 x6 x7 x8 x9 x11 x13 x14 x15)==true)=true)=>(J7 (A9 hg y17))) (Md ((lH x4 a0 x5 x6 x7 x8 x9 x11 x13 x14 x15)==true) (c1 (Ml (lH x4 a0 x5 x6 x7 x8 x9 x11 x13 x14 x15)))))))))))))))) (tS h (Ca [])))))))
theorem Hh{n:Int}(h:-9223372036854775808<=n)(h':n<9223372036854775808):w64 n=n:=by
 show IntKind.i64.wrap n=n
 simp only[IntKind.wrap,IntKind.bits,IntKind.signed]
 simp
 split<;>omega
theorem IG{n:Int}(h:0<=n)(h':n<18446744073709551616):Iy n=n:=by
 show IntKind.u64.wrap n=n
 simp[IntKind.wrap,IntKind.bits,IntKind.signed];omega
theorem qs(n:Int):Iy n=n % 18446744073709551616:=by
 show IntKind.u64.wrap n=_
 simp[IntKind.wrap,IntKind.bits,IntKind.signed]
theorem Aa{R:Type}{p:Prop}[Decidable p]{k:Option R}(h:p):Az p k=k:=if_pos h
theorem MJ{S X:Type}(f:S->Option (LR S X))(s:S):Rz (f s) f=Ac f s:=by
 unfold Rz
 cases h:f s with
 | none=>rw[Option.bind_none,Xy h]
 | some y=>cases y with
  | next s'=>rw[Ap h];rfl
  | done x=>rw[Ak h];rfl
theorem pI{x:Int}(j:Nat):x.fdiv (2 ^ j)=x / 2 ^ j:=by rw[Int.fdiv_eq_ediv_of_nonneg _ (by exact Int.le_of_lt (Int.pow_pos (by decide)))]
theorem Ab{α:Type}(l:List α)(i:Nat)(d:α)(h:i<l.length):l.getD i d=l[i]:=by simp[List.getD,h]
theorem kinds(k:Int):k=0\/k=1\/k=2\/k=3\/k=4\/k=5\/k=6\/k=7\/k=8\/k=9\/k=10\/k=11\/k=12\/k=13\/k=14\/k=15\/k=16\/k=17\/k=18\/k=19\/k=20\/k=21\/k=22\/(k<0\/22<k):=by omega
theorem bT{k:Int}(h:k<0\/22<k):(k==0)=false/\(k==1)=false/\(k==2)=false/\(k==3)=false/\(k==4)=false/\(k==5)=false/\(k==6)=false/\(k==7)=false/\(k==8)=false/\(k==9)=false/\(k==10)=false/\(k==11)=false/\(k==12)=false /\
  (k==13)=false/\(k==14)=false/\(k==15)=false/\(k==16)=false/\(k==17)=false/\(k==18)=false/\(k==19)=false/\(k==20)=false/\(k==21)=false/\(k==22)=false:=by
 simp only[zzL30];omega
def widthB(b:Int):Bool:=b==1 || b==8 || b==16 || b==32 || b==64
def Xw(b n:Int):Bool:=widthB b&&(n==1 || ((n==2 || n==4 || n==8 || n==16)&&decide (8<=b)&&decide (b*n<=128)))
theorem width_cases{b:Int}(h:widthB b=true):b=1\/b=8\/b=16\/b=32\/b=64:=by simp[widthB]at h;omega
theorem Vb{b n:Int}(h:Xw b n=true):widthB b=true:=by simp[Xw]at h;exact h.1
theorem shape_lanes{b n:Int}(h:Xw b n=true):n=1\/n=2\/n=4\/n=8\/n=16:=by simp[Xw]at h;omega
theorem W0(b:Int):Lg b=some (widthB b):=by
 unfold Lg widthB
 by_cases h1:b=1
 ·subst h1;rfl
 by_cases h2:b=8
 ·subst h2;rfl
 by_cases h3:b=16
 ·subst h3;rfl
 by_cases h4:b=32
 ·subst h4;rfl
 by_cases h5:b=64
 ·subst h5;rfl
 have e1:(b==1)=false:=by simpa using h1
 have e2:(b==8)=false:=by simpa using h2
 have e3:(b==16)=false:=by simpa using h3
 have e4:(b==32)=false:=by simpa using h4
 have e5:(b==64)=false:=by simpa using h5
 simp[e1,e2,e3,e4,e5]
theorem Sg(b:Int):Dc b=some (widthB b):=by
 cases(b==1)<;>cases(b==8)<;>cases(b==16)<;>cases(b==32)<;>rfl
theorem gP(b n:Int):Tc b n=some (Xw b n):=by
 unfold Tc;simp only[W0,An]
 by_cases hn:n=1\/n=2\/n=4\/n=8\/n=16
 ·cases hw:widthB b with
  | false=>rcases hn with rfl|rfl|rfl|rfl|rfl<;>simp[Xw,hw]
  | true=>
   rcases width_cases hw with rfl|rfl|rfl|rfl|rfl<;>rcases hn with rfl|rfl|rfl|rfl|rfl<;>rfl
 ·have e1:(n==1)=false:=by simp;omega
  have e2:(n==2)=false:=by simp;omega
  have e3:(n==4)=false:=by simp;omega
  have e4:(n==8)=false:=by simp;omega
  have e5:(n==16)=false:=by simp;omega
  simp[Xw,e1,e2,e3,e4,e5]
theorem mT(b n:Int):J2 b n=some (Xw b n):=by
 unfold J2;simp only[Sg,An]
 cases hw:widthB b with
 | false=>simp[Xw,hw]
 | true=>
  by_cases hn:n=1\/n=2\/n=4\/n=8\/n=16
  ·rcases width_cases hw with rfl|rfl|rfl|rfl|rfl<;>rcases hn with rfl|rfl|rfl|rfl|rfl<;>rfl
  ·have e1:(n==1)=false:=by simp;omega
   have e2:(n==2)=false:=by simp;omega
   have e3:(n==4)=false:=by simp;omega
   have e4:(n==8)=false:=by simp;omega
   have e5:(n==16)=false:=by simp;omega
   simp[Xw,e1,e2,e3,e4,e5]
theorem qr{v b:Int}(hv:0<=v/\v<18446744073709551616)(hb:widthB b=true):X1 v b=some (v % 2 ^ b.toNat):=by
 unfold X1;simp only[W0,hb,An,Dq,Aw]
 have key:∀ j:Nat,j<64->Wx .u64 (SJ .u64 v (j:Int)) (j:Int)=(v*2 ^ j % 18446744073709551616) / 2 ^ j:=λj hj=>by
  simp only[Wx,SJ,C5,IntKind.bits];rw[Nat.min_eq_left (by omega),pI,show IntKind.u64.wrap (v*2 ^ j)=v*2 ^ j % 18446744073709551616 from qs _]
 rcases width_cases hb with rfl|rfl|rfl|rfl|rfl
 ·have:=key 63 (by decide);simp only[show w64 (64-1)=((63:Nat):Int) from rfl,this];rw[Aa (by decide),Aa (by decide)];congr 1;simp only[show((1:Int).toNat)=1 from rfl];omega
 ·have:=key 56 (by decide);simp only[show w64 (64-8)=((56:Nat):Int) from rfl,this];rw[Aa (by decide),Aa (by decide)];congr 1;simp only[show((8:Int).toNat)=8 from rfl];omega
 ·have:=key 48 (by decide);simp only[show w64 (64-16)=((48:Nat):Int) from rfl,this];rw[Aa (by decide),Aa (by decide)];congr 1;simp only[show((16:Int).toNat)=16 from rfl];omega
 ·have:=key 32 (by decide);simp only[show w64 (64-32)=((32:Nat):Int) from rfl,this];rw[Aa (by decide),Aa (by decide)];congr 1;simp only[show((32:Int).toNat)=32 from rfl];omega
 ·have:=key 0 (by decide);simp only[show w64 (64-64)=((0:Nat):Int) from rfl,this];rw[Aa (by decide),Aa (by decide)];congr 1;simp only[show((64:Int).toNat)=64 from rfl];omega
theorem uK{v b:Int}(hv:0<=v/\v<18446744073709551616)(hb:widthB b=true):Lq v b=some (v % 2 ^ b.toNat):=by
 unfold Lq;simp only[Sg,hb,An,Dq,Aw];rcases width_cases hb with rfl|rfl|rfl|rfl|rfl
 ·rw[show((1:Int)==64)=false from rfl,Aw,Aa (by decide),Aa (by decide),show SJ .u64 (1:Int) (Iy 1)=2 ^ (1:Int).toNat from rfl,Int.tmod_eq_emod_of_nonneg hv.1]
 ·rw[show((8:Int)==64)=false from rfl,Aw,Aa (by decide),Aa (by decide),show SJ .u64 (1:Int) (Iy 8)=2 ^ (8:Int).toNat from rfl,Int.tmod_eq_emod_of_nonneg hv.1]
 ·rw[show((16:Int)==64)=false from rfl,Aw,Aa (by decide),Aa (by decide),show SJ .u64 (1:Int) (Iy 16)=2 ^ (16:Int).toNat from rfl,Int.tmod_eq_emod_of_nonneg hv.1]
 ·rw[show((32:Int)==64)=false from rfl,Aw,Aa (by decide),Aa (by decide),show SJ .u64 (1:Int) (Iy 32)=2 ^ (32:Int).toNat from rfl,Int.tmod_eq_emod_of_nonneg hv.1]
 ·rw[show((64:Int)==64)=true from rfl,Ah]
  congr 1
  simp only[show((64:Int).toNat)=64 from rfl];omega
theorem an{i:Int}(h:0<=i/\i<18446744073709551616):Nu i=some (widthB i):=by
 unfold Nu
 by_cases hi:i<=64
 ·have:w64 i=i:=Hh (by omega) (by omega);simp[hi,this,W0]
 ·have:widthB i=false:=by simp[widthB];omega
  simp[hi,this]
def gE(k:Int):Bool:=decide (0<=k)&&decide (k<=22)
def Se(k n:Int):Int:=
 bif k==0 then 0 else bif k==13 || k==18 || k==19 then 3 else bif k==14 || k==15 || k==16 || k==22 then 1 else bif k==20 then 4 else bif k==21 then n else 2
def sfitS(k b n:Int):Bool:=
 bif k==16 || k==17 then decide (8<=b) else bif k==18 || k==19 then decide (8<=b)&&n==1 else
 bif k==4 || k==10 || k==11 || k==12 || k==14 || k==15 || k==20 then n==1 else bif k==21 || k==22 then decide (1<n) else true
def ifitS(k b n i:Int):Bool:=
 bif k==0 then i % 2 ^ b.toNat==i else bif k==14 then widthB i&&decide (i<b) else bif k==15 then widthB i&&decide (b<i) else bif k==22 then decide (i<n) else i==0
def valS(v:Int):Bool:=decide (1<=v)&&decide (v<=1023)
def dstS(k d:Int):Bool:=bif k==17 || k==19 then d==0 else valS d
def Gs(o:TOp):Bool:=Xw o.Bits o.Lanes&&(gE o.Kind&&sfitS o.Kind o.Bits o.Lanes&&ifitS o.Kind o.Bits o.Lanes o.Imm&&((o.Args.length:Int)==Se o.Kind o.Lanes))&&(o.Args.all valS&&dstS o.Kind o.Dst)
def PQ(o:TOp)(i:Nat):Int×Int:=
 bif o.Kind==13 || o.Kind==20 then(bif Nat.beq i 0 then(1,1) else(o.Bits,o.Lanes)) else bif o.Kind==14 || o.Kind==15 then(w64 o.Imm,1) else
 bif o.Kind==16 || o.Kind==17 then(bif Nat.beq i 0 then(64,1) else(o.Bits,o.Lanes)) else
 bif o.Kind==18 || o.Kind==19 then(bif Nat.beq i 1 then(64,1) else bif Nat.beq i 0 then(1,1) else(o.Bits,o.Lanes)) else bif o.Kind==21 then(o.Bits,1) else(o.Bits,o.Lanes)
def R3(o:TOp):List (Int×Int):=(List.range (Se o.Kind o.Lanes).toNat).map (PQ o)
def Vr(k b n:Int):Int×Int:=bif k==17 || k==19 then(0,0) else bif k==10 || k==11 || k==12 then(1,1) else bif k==22 then(b,1) else(b,n)
def kD(k:Int):Bool:=gE k&&!(k==4 || k==16 || k==17 || k==18 || k==19 || k==20)
theorem HI{k:Int}(h:k<0\/22<k):gE k=false:=by simp[gE];omega
theorem LT(k:Int):O4 k=some (gE k):=by unfold O4 gE;cases decide ((0:Int)<=k)<;>rfl
theorem Xv(v:Int):Nt v=some (valS v):=by unfold Nt valS;cases decide ((1:Int)<=v)<;>rfl
theorem DP(v:Int):Fg v=some (valS v):=by
 unfold Fg valS
 have e1:decide ((0:Int)<v)=decide (1<=v):=by congr 1
 have e2:decide (v<(1024:Int))=decide (v<=1023):=by apply zzL78.2;omega
 rw[e1,e2]
 cases decide ((1:Int)<=v)<;>rfl
theorem QI(o:TOp):Oh o=some (sfitS o.Kind o.Bits o.Lanes):=by
 obtain⟨k,b,n,d,args,i⟩:=o;rcases kinds k with rfl|rfl|rfl|rfl|rfl|rfl|rfl|rfl|rfl|rfl|rfl|rfl|rfl|rfl|rfl|rfl|rfl|rfl|rfl|rfl|rfl|rfl|rfl|h
 any_goals rfl
 ·show some (bif decide (8<=b) then n==1 else false)=some (decide (8<=b)&&n==1);cases decide (8<=b)<;>rfl
 ·show some (bif decide (8<=b) then n==1 else false)=some (decide (8<=b)&&n==1);cases decide (8<=b)<;>rfl
 ·unfold Oh sfitS;simp[bT h]
theorem QG(o:TOp):Qw o=some (Vr o.Kind o.Bits o.Lanes):=by
 obtain⟨k,b,n,d,args,i⟩:=o;rcases kinds k with rfl|rfl|rfl|rfl|rfl|rfl|rfl|rfl|rfl|rfl|rfl|rfl|rfl|rfl|rfl|rfl|rfl|rfl|rfl|rfl|rfl|rfl|rfl|h
 any_goals rfl
 unfold Qw Vr;simp[bT h]
theorem am(o:TOp)(hw:widthB o.Bits=true)(hn:0<=o.Lanes/\o.Lanes<=16)(hi:0<=o.Imm/\o.Imm<18446744073709551616):Qx o=some (ifitS o.Kind o.Bits o.Lanes o.Imm):=by
 unfold Qx ifitS
 have hb:Iy o.Bits=o.Bits:=by apply IG<;>(rcases width_cases hw with h|h|h|h|h<;>omega)
 have hl:Iy o.Lanes=o.Lanes:=by apply IG<;>omega
 rw[qr hi hw,an hi,hb,hl]
 cases(o.Kind==0)<;>cases(o.Kind==14)<;>cases(o.Kind==15)<;>cases(o.Kind==22)<;>cases widthB o.Imm<;>rfl
set_option maxHeartbeats 2000000 in
theorem qN (o : TOp) (hs : Xw o.Bits o.Lanes = true) (hk : gE o.Kind = true) (hi : 0 ≤ o.Imm ∧ o.Imm < 18446744073709551616) : F7 o = some (sfitS o.Kind o.Bits o.Lanes && ifitS o.Kind o.Bits o.Lanes o.Imm) := by
  have hw := Vb hs; have hl := shape_lanes hs; obtain ⟨k, b, n, d, args, i⟩ := o; simp only at hs hk hi hw hl ⊢
  have hb : Iy b = b := by apply IG <;> (rcases width_cases hw with h | h | h | h | h <;> omega)
  have hn : Iy n = n := by apply IG <;> omega
  have hb8 : decide (b < 8) = !decide (8 ≤ b) := by rw [← decide_not]; apply zzL78.2; omega
  have hn2 : decide (n < 2) = !decide (1 < n) := by rw [← decide_not]; apply zzL78.2; omega
  have h14 : (bif decide (i < b) then widthB (w64 i) else false) = (widthB i && decide (i < b)) := by
    by_cases h : i < b
    · have : w64 i = i := Hh (by omega) (by rcases width_cases hw with h | h | h | h | h <;> omega); simp [h, this]
    · simp [h]
  have h15 : (bif (bif decide (b < i) then decide (i ≤ 64) else false) then widthB (w64 i) else false) = (widthB i && decide (b < i)) := by
    by_cases h : i ≤ 64
    · have : w64 i = i := Hh (by omega) (by omega)
      by_cases h2 : b < i <;> simp [h, this, h2]
    · have : widthB i = false := by simp [widthB]; omega
      simp [h, this]
  have hc := uK (v := i) hi hw; rcases kinds k with rfl | rfl | rfl | rfl | rfl | rfl | rfl | rfl | rfl | rfl | rfl | rfl | rfl | rfl | rfl | rfl | rfl | rfl | rfl | rfl | rfl | rfl | rfl | h
  case inl => unfold F7; simp [hc, sfitS, ifitS]
  all_goals first
    | (rw [HI h] at hk; cases hk)
    | (unfold F7 sfitS ifitS
       simp only [hb8]
       generalize decide (8 ≤ b) = u at *
       clear hc h14 h15 hb8 hw hs; rcases hl with rfl | rfl | rfl | rfl | rfl <;> cases u <;> simp_all
       done)
    | (unfold F7 sfitS ifitS
       rw [hb]; simp only [Sg]; clear hc hs
       generalize decide (i < b) = p at *
       generalize decide (b < i) = q at *
       generalize decide (i ≤ 64) = r at *
       generalize widthB (w64 i) = s at *
       rcases hl with rfl | rfl | rfl | rfl | rfl <;> cases p <;> cases q <;> cases r <;> cases s <;> simp_all
       done)
theorem ll(k:Int):Uw k=some (kD k):=by
 rcases kinds k with rfl|rfl|rfl|rfl|rfl|rfl|rfl|rfl|rfl|rfl|rfl|rfl|rfl|rfl|rfl|rfl|rfl|rfl|rfl|rfl|rfl|rfl|rfl|h
 any_goals rfl
 unfold Uw kD;simp[bT h,LT]
theorem Hk{α X:Type}(l:List α)(d:α)(p:α->Bool)(f:Int->Option (LR Int X))(yes no:X)(hn:∀ i:Nat,i<l.length->p (l.getD i d)=true->f i=some (.next ((i:Int)+1)))
  (hf:∀ i:Nat,i<l.length->p (l.getD i d)=false->f i=some (.done no)) (he:f l.length=some (.done yes)):∀(k i:Nat),i+k=l.length->Ac f i=some (bif (l.drop i).all p then yes else no)
 | 0,i,h=>by
  obtain rfl:i=l.length:=by omega
  rw[Ak he]
  simp
 | k+1,i,h=>by
  have hi:i<l.length:=by omega
  have hd:l.drop i=l.getD i d::l.drop (i+1):=by simp_all
  cases hp:p _ with
  | true=>
   rw[Ap (hn i hi hp)];have:=Hk l d p f yes no hn hf he k (i+1) (by omega);rw[show((i:Int)+1)=(i+1:Nat) by omega,this,hd,V5,hp,Lj]
  | false=>
   rw[Ak (hf i hi hp),hd,V5,hp,FX,Aw]
theorem QP{α X:Type}(n:Nat)(g:Nat->α)(f:List α×Int->Option (LR (List α×Int) X))(out:List α->X)(hn:∀(l:List α) (i:Nat),i<n->l.length=i->f (l,(i:Int))=some (.next (l++[g i],(i:Int)+1)))
  (he:∀ l:List α,l.length=n->f (l,(n:Int))=some (.done (out l))):∀(k i:Nat) (l:List α),i+k=n->l=(List.range i).map g->Ac f (l,(i:Int))=some (out ((List.range n).map g))
 | 0,i,l,h,hl=>by
  obtain rfl:i=n:=by omega
  subst hl;exact Ak (he _ (by simp))
 | k+1,i,l,h,hl=>by
  subst hl;rw[Ap (hn _ i (by omega) (by simp))];exact QP n g f out hn he k (i+1) _ (by omega) (by simp[Xb])
theorem HL{α X:Type}[BEq α][LawfulBEq α](l m:List α)(d:α)(f:Int->Option (LR Int X))(yes no:X)(hlen:l.length=m.length)(hn:∀ i:Nat,i<l.length->(l.getD i d==m.getD i d)=true->f i=some (.next ((i:Int)+1)))
  (hf:∀ i:Nat,i<l.length->(l.getD i d==m.getD i d)=false->f i=some (.done no)) (he:f l.length=some (.done yes)):∀(k i:Nat),i+k=l.length->Ac f i=some (bif l.drop i==m.drop i then yes else no)
 | 0,i,h=>by
  obtain rfl:i=l.length:=by omega
  rw[Ak he];rw[List.drop_length,hlen]
  simp
 | k+1,i,h=>by
  have hi:i<l.length:=by omega
  have hd:l.drop i=l.getD i d::l.drop (i+1):=by simp_all
  have hd':m.drop i=m.getD i d::m.drop (i+1):=by simp_all
  cases hp:(l.getD i d==m.getD i d) with
  | true=>
   rw[Ap (hn i hi hp)];have:=HL l m d f yes no hlen hn hf he k (i+1) (by omega);rw[show((i:Int)+1)=(i+1:Nat) by omega,this,hd,hd',List.cons_beq_cons,hp,Lj]
  | false=>
   rw[Ak (hf i hi hp),hd,hd',List.cons_beq_cons,hp,FX,Aw]
theorem HM{α:Type}(l:List α)(d:α)(wt:α->Nat)(C:Nat)(f:Int×Int->Option (LR (Int×Int) Int))
  (hn:∀(n i:Nat),i<l.length->n<=C->∃ m:Nat,f ((n:Int),(i:Int))=some (.next ((m:Int),((i+1:Nat):Int)))/\(n+wt (l.getD i d)<=C->m=n+wt (l.getD i d))/\(m<=C->n+wt (l.getD i d)<=C))
  (hd:∀(n i:Nat),i<=l.length->(i=l.length\/C<n)->f ((n:Int),(i:Int))=some (.done (n:Int))) :
  ∀(k i n:Nat),i+k=l.length->∃ m:Nat,Ac f ((n:Int),(i:Int))=some (m:Int)/\(n+((l.drop i).map wt).sum<=C->m=n+((l.drop i).map wt).sum)/\(m<=C->n+((l.drop i).map wt).sum<=C)
 | 0,i,n,h=>by
  obtain rfl:i=l.length:=by omega
  refine⟨n,Ak (hd n _ (zzL6 _) (.inl rfl)),?_,?_⟩
  ·simp
  ·simp
 | k+1,i,n,h=>by
  have hi:i<l.length:=by omega
  have hdr:l.drop i=l.getD i d::l.drop (i+1):=by rw[SU hi,Ab _ _ _ hi]
  by_cases hC:n<=C
  ·obtain⟨m,h1,h2,h3⟩:=hn n i hi hC;obtain⟨m',h4,h5,h6⟩:=HM l d wt C f hn hd k (i+1) m (by omega);refine⟨m',by rw[Ap h1];exact h4,λhle=>?_,λhle=>?_⟩
   ·rw[hdr,Cq,TA]at hle ⊢;have:=h2 (by omega);subst this;rw[h5 (by omega)];omega
   ·rw[hdr,Cq,TA];have h7:=h6 hle;have h8:=h3 (by omega);have:=h2 h8;omega
  ·refine⟨n,Ak (hd n i (by omega) (.inr (by omega))),λhle=>by omega,λhle=>by omega⟩
theorem Tw{X:Type}(N:Nat)(f:Int×Int->Option (LR (Int×Int) X))(hn:∀(n:Int) (i:Nat),i<N->(∃ m:Int,f (n,(i:Int))=some (.next (m,((i+1:Nat):Int))))\/∃ x,f (n,(i:Int))=some (.done x))(hd:∀ n:Int,∃ x,f (n,(N:Int))=some (.done x)) :
  ∀(k i:Nat) (n:Int),i+k=N->∃ x,Ac f (n,(i:Int))=some x
 | 0,i,n,h=>by
  obtain rfl:i=N:=by omega
  obtain⟨x,hx⟩:=hd n;exact⟨x,Ak hx⟩
 | k+1,i,n,h=>by
  rcases hn n i (by omega) with⟨m,hm⟩|⟨x,hx⟩
  ·obtain⟨x,hx⟩:=Tw N f hn hd k (i+1) m (by omega);exact⟨x,by rw[Ap hm];exact hx⟩
  ·exact⟨x,Ak hx⟩
theorem DI{α X:Type}(l:List α)(d:α)(wt:α->Nat)(out:Int->X)(f:Int×Int->Option (LR (Int×Int) X))
  (hn:∀(n i:Nat),i<l.length->f (w64 n,(i:Int))=some (.next (w64 ((n+wt (l.getD i d):Nat):Int),((i+1:Nat):Int)))) (hd:∀ n:Int,f (n,(l.length:Int))=some (.done (out n))) :
  ∀(k i n:Nat),i+k=l.length->Ac f (w64 n,(i:Int))=some (out (w64 ((n+((l.drop i).map wt).sum:Nat):Int)))
 | 0,i,n,h=>by
  obtain rfl:i=l.length:=by omega
  rw[Ak (hd _)]
  simp
 | k+1,i,n,h=>by
  have hi:i<l.length:=by omega
  have hdr:l.drop i=l.getD i d::l.drop (i+1):=by simp_all
  rw[Ap (hn n i hi),DI l d wt out f hn hd k _ _ (by omega),hdr,Cq,TA,Xc]
theorem Vc(a b:Int):w64 (w64 a+b)=w64 (a+b):=by
 simp only[IntKind.wrap,IntKind.bits,IntKind.signed]
 simp
 split<;>split<;>omega
theorem Ag{α:Type}{l:List α}{i:Nat}{d:α}(h:i<l.length):l.getD i d∈l:=by grind
theorem Ai{i n:Nat}(h:i<n):A1 (i:Int) n:=⟨by omega,by exact_mod_cast h⟩
theorem A0{i n:Nat}(h:i<n)(hn:n<9223372036854775808):w64 ((i:Int)+1)=(i:Int)+1:=Hh (by omega) (by omega)
def pQ(l:List Int):Prop:=∀ x∈l,0<=x/\x<=2147483647
theorem Ek{S X:Type}(f:S->Option (LR S X))(T:Nat->S)(x:X):∀(n:Nat),(∀ i,i<n->f (T i)=some (.next (T (i+1))))->f (T n)=some (.done x)->Ac f (T 0)=some x:=by
 suffices h:∀(k i n:Nat),i+k=n->(∀ j,i<=j->j<n->f (T j)=some (.next (T (j+1))))->f (T n)=some _->Ac f (T i)=some x from
  λn h1 h2=>h n 0 n (by omega) (λj _ hj=>h1 j hj) h2
 intro k
 induction k with
 | zero=>
  intro i n hi _ h2
  have hin:n=i:=by omega
  subst hin;exact Ak h2
 | succ k ih=>intro i n hi h1 h2;rw[Ap (h1 i (zzL6 _) (by omega))];exact ih _ n (by omega) (λj hj hj'=>h1 j (by omega) hj') h2
theorem VG{S X:Type}(f:S->Option (LR S X))(T:Nat->S):∀(n:Nat),(∀ i,i<n->f (T i)=some (.next (T (i+1))))->Ac f (T 0)=Ac f (T n):=by
 intro n
 induction n with
 | zero=>intro _;rfl
 | succ n ih=>intro h;rw[ih (λi hi=>h i (by omega)),Ap (h n (by omega))]
theorem Ia{S X:Type}(f:S->Option (LR S X))(T:Nat->S)(p:Nat->Bool)(yes no:X)(n:Nat)(hn:∀ i,i<n->p i=true->f (T i)=some (.next (T (i+1))))(hf:∀ i,i<n->p i=false->f (T i)=some (.done no))
  (he:f (T n)=some (.done yes)):Ac f (T 0)=some (bif (List.range n).all p then yes else no):=by
 cases hall:(List.range n).all p with
 | true=>
  exact Ek f T yes n (λi hi=>hn i hi (zzL27.1 hall i (zzL40.2 hi))) he
 | false=>
  have hex:∃ i,i<n/\p i=false:=by
   grind
  obtain⟨m,hm⟩:=hex
  have key:∀ m,m<n->p m=false->∃ k,k<n/\p k=false/\∀ j,j<k->p j=true:=by
   intro m
   induction m using Nat.strongRecOn with
   | ind m ih=>
    intro h1 h2
    by_cases h:∃ j,j<m/\p j=false
    ·obtain⟨j,hj,hpj⟩:=h;exact ih j hj (by omega) hpj
    ·grind
  obtain⟨k,hk,hpk,hlt⟩:=key m hm.1 hm.2;rw[VG f T k (λi hi=>hn i (by omega) (hlt i hi))];exact Ak (hf k hk hpk)
theorem all_range{n:Nat}{p:Nat->Bool}:(List.range n).all p=true↔∀ i,i<n->p i=true:=by
 grind
theorem Am(i:Nat):((i:Int)).toNat=i:=C5 i
theorem w1{i:Nat}(h:i<4611686018427387904):w64 ((i:Int)+1)=((i+1:Nat):Int):=by rw[Hh (by omega) (by omega)];omega
theorem Bx{i n:Nat}(h:i<n):decide (((i:Nat):Int)<((n:Nat):Int))=true:=by simpa using h
theorem C8{n:Nat}:decide (((n:Nat):Int)<((n:Nat):Int))=false:=by simp
theorem Fv{i n:Nat}(h:i<n):A1 ((i:Nat):Int) n:=Ai h
theorem zF{x:Int}{n:Nat}(h0:0<=x)(h1:x<n):A1 x n:=⟨h0,h1⟩
structure cC(o:TOp):Prop where
 imm:0<=o.Imm/\o.Imm<18446744073709551616
 args:o.Args.length<=200
theorem iA(x:Int×Int)(n:Int)(h:n=2\/n=4\/n=8\/n=16):Cd [x] n=some (List.replicate n.toNat x):=by
 let d:Int×Int:=(0,0)
 rcases h with rfl|rfl|rfl|rfl
 ·have e:Cd [x] 2=(Ac Dj (1,[x,d])).bind some:=by kernel_rfl
  rw[e,Ap (s':=(2,[x,x])) (by kernel_rfl)]
  rfl
 ·have e:Cd [x] 4=(Ac Dj (1,[x,d,d,d])).bind some:=by kernel_rfl
  rw[e,Ap (s':=(2,[x,x,d,d])) (by kernel_rfl),Ap (s':=(4,[x,x,x,x])) (by kernel_rfl)]
  rfl
 ·have e:Cd [x] 8=(Ac Dj (1,[x,d,d,d,d,d,d,d])).bind some:=by kernel_rfl
  rw[e,Ap (s':=(2,[x,x,d,d,d,d,d,d])) (by kernel_rfl),Ap (s':=(4,[x,x,x,x,d,d,d,d])) (by kernel_rfl),Ap (s':=(8,[x,x,x,x,x,x,x,x])) (by kernel_rfl)]
  rfl
 ·have e:Cd [x] 16=(Ac Dj (1,[x,d,d,d,d,d,d,d,d,d,d,d,d,d,d,d])).bind some:=by kernel_rfl
  rw[e,Ap (s':=(2,[x,x,d,d,d,d,d,d,d,d,d,d,d,d,d,d])) (by kernel_rfl),Ap (s':=(4,[x,x,x,x,d,d,d,d,d,d,d,d,d,d,d,d])) (by kernel_rfl),
   Ap (s':=(8,[x,x,x,x,x,x,x,x,d,d,d,d,d,d,d,d])) (by kernel_rfl),Ap (s':=(16,List.replicate 16 x)) (by kernel_rfl)]
  rfl
theorem pZ(l:List (Int×Int)):Ix l=some l:=rfl
theorem QJ(o:TOp)(hs:Xw o.Bits o.Lanes=true)(hk:gE o.Kind=true)(hf:sfitS o.Kind o.Bits o.Lanes=true):Qy o=some (R3 o):=by
 have hl:=shape_lanes hs;obtain⟨k,b,n,d,args,i⟩:=o;simp only at hs hk hf hl ⊢;rcases kinds k with rfl|rfl|rfl|rfl|rfl|rfl|rfl|rfl|rfl|rfl|rfl|rfl|rfl|rfl|rfl|rfl|rfl|rfl|rfl|rfl|rfl|rfl|rfl|h
 case inr.inr.inr.inr.inr.inr.inr.inr.inr.inr.inr.inr.inr.inr.inr.inr.inr.inr.inr.inr.inr.inl=>
  have h1:n≠1:=by rintro rfl;simp[sfitS]at hf
  have h4:n=2\/n=4\/n=8\/n=16:=by omega
  unfold Qy;simp only[iA _ _ h4,pZ];rcases h4 with rfl|rfl|rfl|rfl<;>rfl
 all_goals first
  | rfl
  | (rw[HI h]at hk;cases hk)
  | (rcases hl with rfl|rfl|rfl|rfl|rfl<;>first|rfl|(simp[sfitS]at hf))
theorem aj(o:TOp)(hs:Xw o.Bits o.Lanes=true)(hk:gE o.Kind=true)(hf:sfitS o.Kind o.Bits o.Lanes=true)(hl:o.Args.length<=200):Qu o=some (((o.Args.length:Int)==Se o.Kind o.Lanes)&&o.Args.all valS):=by
 unfold Qu;rw[QJ o hs hk hf]
 have hn:0<=Se o.Kind o.Lanes:=by
  have:=shape_lanes hs;unfold Se
  cases(o.Kind==0)<;>cases(o.Kind==13 || o.Kind==18 || o.Kind==19)<;>cases(o.Kind==14 || o.Kind==15 || o.Kind==16 || o.Kind==22)<;>cases(o.Kind==20)<;>cases(o.Kind==21)<;>simp<;>omega
 have hlen:(R3 o).length=Se o.Kind o.Lanes:=by simp[R3];omega
 simp only[An,hlen]
 by_cases he:o.Args.length=Se o.Kind o.Lanes
 ·have e1:(o.Args.length==Se o.Kind o.Lanes)=true:=by simpa using he
  have e2:(o.Args.length !=Se o.Kind o.Lanes)=false:=by simpa using he
  rw[e1,e2]
  have hloop:=Hk o.Args 0 valS (Ko o) (.inl ()) (.inr false) (λi hi hp=>by
    unfold Ko
    have:decide (i<(o.Args.length:Int))=true:=by simpa using hi
    simp only[this,Ah,Aa (Ai hi),C5,Xv,An,hp,Dq,Aw,A0 hi (by omega)]) (λi hi hp=>by
    unfold Ko
    have:decide (i<(o.Args.length:Int))=true:=by simpa using hi
    simp only[this,Ah,Aa (Ai hi),C5,Xv,An,hp,J9]) (by
    unfold Ko
    simp) o.Args.length 0 (by omega)
  rw[show 0=((0:Nat):Int) from rfl,hloop,Oc]
  cases o.Args.all valS<;>rfl
 ·grind
theorem f5{k b n:Int}(hs:Xw b n=true):((Vr k b n).1==0)=(k==17 || k==19):=by
 have hb:(b==0)=false:=by
  have:=width_cases (Vb hs);simp;omega
 unfold Vr
 cases(k==17 || k==19)<;>cases(k==10 || k==11 || k==12)<;>cases(k==22)<;>simp_all
theorem ak(o:TOp)(hs:Xw o.Bits o.Lanes=true):Qv o=some (dstS o.Kind o.Dst):=by
 unfold Qv;simp only[QG,An,f5 hs,Xv,dstS]
 cases(o.Kind==17 || o.Kind==19)<;>rfl
theorem QF(o:TOp)(ho:cC o):Ru o=some (Gs o):=by
 unfold Ru Gs;simp only[LT,gP,QI]
 cases hs:Xw _ _ with
 | false=>cases gE _<;>rfl
 | true=>
  have hl:=shape_lanes hs
  cases hk:gE _ with
  | false=>rfl
  | true=>
   rw[am o (Vb hs) (by omega) ho.imm];simp only[ak o hs]
   cases hf:sfitS _ _ _ with
   | false=>rfl
   | true=>
    rw[aj o hs hk hf ho.args]
    generalize ifitS _ _ _ _=p
    generalize (o.Args.length==Se _ _)=q
    generalize o.Args.all _=r
    generalize dstS _ _=s
    cases p<;>cases q<;>cases r<;>cases s<;>rfl
theorem qM(o:TOp):Kp o=some (bif gE o.Kind then Se o.Kind o.Lanes else -1):=by
 obtain⟨k,b,n,d,args,i⟩:=o;rcases kinds k with rfl|rfl|rfl|rfl|rfl|rfl|rfl|rfl|rfl|rfl|rfl|rfl|rfl|rfl|rfl|rfl|rfl|rfl|rfl|rfl|rfl|rfl|rfl|h
 any_goals rfl
 unfold Kp;simp[bT h,HI h]
theorem bV(o:TOp)(ho:cC o):G9 o=some (Gs o):=by
 unfold G9 Gs;simp only[mT]
 cases hs:Xw o.Bits o.Lanes with
 | false=>rfl
 | true=>
  simp only[qM,Dq,Vg,Ah, An]
  cases hk:gE o.Kind with
  | false=>
   grind
  | true=>
   simp only[Ah];rw[qN o hs hk ho.imm]
   by_cases he:o.Args.length=Se o.Kind o.Lanes
   ·have e1:(o.Args.length==Se o.Kind o.Lanes)=true:=by simpa using he
    have e2:(Se o.Kind o.Lanes !=o.Args.length)=false:=by simpa using he.symm
    rw[e1,e2]
    have hloop:=Hk o.Args 0 valS (Gy o) (.inl ()) (.inr false) (λi hi hp=>by
      unfold Gy
      have:decide (i<(o.Args.length:Int))=true:=by simpa using hi
      simp only[this,Ah,Aa (Ai hi),C5,DP,An,hp,Dq,Aw,A0 hi (by have:=ho.args;omega)]) (λi hi hp=>by
      unfold Gy
      have:decide ((i:Int)<o.Args.length)=true:=by simpa using hi
      simp only[this,Ah,Aa (Ai hi),C5,DP,An,hp,J9]) (by
      unfold Gy
      simp) o.Args.length 0 (by omega)
    rw[show 0=((0:Nat):Int) from rfl,hloop,Oc];simp only[DP, dstS]
    generalize sfitS o.Kind o.Bits o.Lanes=p
    generalize ifitS o.Kind o.Bits o.Lanes o.Imm=q
    generalize o.Args.all valS=r
    cases p<;>cases q<;>cases r<;>cases(o.Kind==17)<;>cases(o.Kind==19)<;>rfl
   ·grind
theorem Uy{o:TOp}(h:Gs o=true):Xw o.Bits o.Lanes=true/\gE o.Kind=true/\sfitS o.Kind o.Bits o.Lanes=true/\ifitS o.Kind o.Bits o.Lanes o.Imm=true/\(o.Args.length:Int)=Se o.Kind o.Lanes/\o.Args.all valS=true/\dstS o.Kind o.Dst=true:=by
 simp only[Gs,A6,zzL63]at h;exact⟨h.1.1,h.1.2.1.1.1,h.1.2.1.1.2,h.1.2.1.2,h.1.2.2,h.2.1,h.2.2⟩
theorem gQ(o:TOp)(ho:cC o):Qt o=some (bif Gs o then R3 o else[]):=by
 unfold Qt;rw[QF o ho]
 cases hm:Gs o with
 | false=>rfl
 | true=>
  obtain⟨h1,h2,h3,_⟩:=Uy hm;simp only[QJ o h1 h2 h3]
  rfl
theorem gM(o:TOp)(ho:cC o):Qs o=some (bif Gs o then Vr o.Kind o.Bits o.Lanes else(0,0)):=by
 unfold Qs;rw[QF o ho];simp only[ QG]
 cases Gs o<;>rfl
theorem mS(o:TOp)(ho:cC o):Hm o=some (bif Gs o then Vr o.Kind o.Bits o.Lanes else(0,0)):=by
 unfold Hm;rw[bV o ho]
 cases hm:Gs o with
 | false=>rfl
 | true=>
  obtain⟨_,h2,_⟩:=Uy hm;obtain⟨k,b,n,d,args,i⟩:=o;rcases kinds k with rfl|rfl|rfl|rfl|rfl|rfl|rfl|rfl|rfl|rfl|rfl|rfl|rfl|rfl|rfl|rfl|rfl|rfl|rfl|rfl|rfl|rfl|rfl|h
  any_goals rfl
  rw[HI h]at h2;cases h2
theorem mU(o:TOp)(ho:cC o):Hn o=some (bif Gs o then R3 o else[]):=by
 unfold Hn;rw[bV o ho]
 cases hm:Gs o with
 | false=>rfl
 | true=>
  obtain⟨h1,h2,h3,h4,h5,_⟩:=Uy hm
  have hloop:=QP (X:=List (Int×Int)) o.Args.length (PQ o) (H1 o) id (λl i hi hl=>by
   unfold H1
   have e0:decide ((i:Int)<(o.Args.length:Int))=true:=by simpa using hi
   have e1:((i:Int)==0)=Nat.beq i 0:=by cases i<;>rfl
   have e2:((i:Int)==1)=Nat.beq i 1:=by
    rcases i with _|_|i
    ·rfl
    ·rfl
    ·have:¬ (((i+1+1:Nat):Int)=1):=by omega
     simp only[Nat.beq]
     simpa using this
   have hr:l.length+([PQ o i]:List (Int×Int)).length<=room:=by have:=ho.args;simp[room];omega
   simp only[e0,e1,e2,Ah];have e3 :=A0 hi (by have:=ho.args;omega);simp only[e3]
   have key:∀(x:Option (Int×Int)),x=some (PQ o i)->(x.bind λx23=>Az (l.length+([(x23.1,x23.2)]:List (Int×Int)).length<=room) (some (LR.next (l++([(x23.1,x23.2)]:List (Int×Int)),(i:Int)+1))))=(some (LR.next (l++[PQ o i],(i:Int)+1)):Option (LR _ (List (Int×Int)))):=by
    rintro x rfl;exact Aa hr
   refine key _ ?_;clear key hr;obtain⟨k,b,n,d,args,im⟩:=o;rcases kinds k with rfl|rfl|rfl|rfl|rfl|rfl|rfl|rfl|rfl|rfl|rfl|rfl|rfl|rfl|rfl|rfl|rfl|rfl|rfl|rfl|rfl|rfl|rfl|h
   all_goals first
    | rfl
    | (rw[HI h]at h2;cases h2)
    | (rcases i with _|_|i<;>rfl)) (λl hl=>by
   unfold H1
   simp) o.Args.length 0 [] (by omega) rfl
  rw[show(0:Int)=((0:Nat):Int) from rfl];simp only[Dq,Aw,hloop,An,id];rw[R3,<- h5]
  rfl
theorem xO{n:Int}(h:(Lit.int .u64 n).wf=true):0<=n/\n<18446744073709551616:=by simp[Lit.wf,IntKind.min,IntKind.max,IntKind.bits,IntKind.signed]at h;omega
abbrev Iall(w:World):Nat->Nat->Prop:=λb o=>∃ u,w.cell? ⟨b,o,none⟩=some u
structure nG(w:World)(cs:List Value)(avs:List AV):Prop where
 len:cs.length=avs.length
 one:∀ j,j<avs.length->(cs.getD j undef).oneCell'=true
 rep:∀ j,j<avs.length->RepV (Iall w) w (cs.getD j undef) (avs.getD j .any)
structure Opens(P:Program)(t:TypeId){α:Type}(e:α->List AV)(ok:α->Prop):Prop where
 get:∀{H:Type} {enc:TypeId×Value->H} {w:World} {base:Nat} {spare:Nat->Bool} {held:Bool} {fuel:Nat} {cs:List Value} {x:DataW H×List MemPlace},
  DataW.trod enc P w base spare held fuel t cs=some x->∃ a,ok a/\nG w cs (e a)
theorem PJ{w:World}{v:Value}{x:AV}(h1:v.oneCell'=true)(h:RepV (Iall w) w v x):nG w [v] [x]:=
 ⟨rfl,λj hj=>(by
   grind),λj hj=>(by
   grind)⟩
theorem XU{P:Program}{t:TypeId}{k:IntKind}{e:Int->List AV}(ht:P.underlying t=some (.int k))(he:∀ n,e n=[.int k n]):Opens P t e (λn=>(Lit.int k n).wf=true):=by
 refine⟨?_⟩;intro H enc w base spare held fuel cs x h;obtain⟨n,rfl,rfl,hw⟩:=DataW.trod_int ht h;exact⟨n,hw,by rw[he];exact PJ rfl (.int _ _)⟩
theorem fo{w:World}{base:Nat}{a:Addr}{n:Nat}{cs:List Value}(h:w.cells? base a n=some cs):cs.length=n/\∀ i,i<n->w.cell? (a.add i)=some (cs.getD i undef):=by
 unfold World.cells? at h
 split at h
 ·have hl:=mapM_some_length h;simp at hl;refine⟨hl,λi hi=>?_⟩;have:=mapM_some_get h i i (by simp[hi]);rw[this];simp[ show i<cs.length by omega]
 ·cases h
theorem U6{P:Program}{t el:TypeId}{α:Type}{e:α->List AV}{ok:α->Prop}{sz:Nat}{d:α}{e':List α->List AV}(ht:P.underlying t=some (.slice el))(hs:P.cellsOf el=sz)(h1:1<=sz)(he:Opens P el e ok)(hlen:∀ a,(e a).length=sz)
  (he':∀ l,e' l=[AV.list sz e d l .none]):Opens P t e' (λl=>(∀ a∈l,ok a)/\l.length<=maxLen):=by
 refine⟨?_⟩;intro H enc w base spare held fuel cs x h;rcases DataW.trod_slice ht h with⟨rfl,rfl⟩|⟨a,len,cap,elems,rest,n,_,rfl,rfl,hb,hl,hm,hlen2,hel,_⟩
 ·exact⟨[],⟨by simp,by simp⟩,by rw[he'];exact PJ rfl (.slice none 0 0 sz _ (λ_=>undef) (zzL6 _) (by simp) (λh=>by simp at h) (λ_=>rfl) (λj hj=>by simp at hj) (λi hi=>by simp at hi) (λi c hi=>by simp at hi))⟩
 ·have each:∀ i:Fin len,∃ b,ok b/\∃ cs,w.cells? base (a.add (i.1*sz)) sz=some cs/\nG w cs (e b):=λ⟨i,hi⟩=>by
   have:=hel i hi;rw[hs,P2 (by omega),zzL108]at this;obtain⟨cs,hcs,htr⟩:=this;obtain⟨b,hb,hr⟩:=he.get htr;exact⟨b,hb,cs,hcs,hr⟩
  let f:Fin len->α:=λi=>(each i).choose
  have hf:∀ i,ok (f i)/\∃ cs,w.cells? base (a.add (i.1*sz)) sz=some cs/\nG w cs (e (f i)):=λi=>(each i).choose_spec
  have hlf:(List.ofFn f).length=len:=by simp
  refine⟨List.ofFn f,⟨λb hb=>?_,by simp;omega⟩,?_⟩
  ·obtain⟨i,rfl⟩:=List.mem_ofFn.1 hb;exact(hf i).1
  rw[he'];refine PJ rfl ?_
  have hcell0:∀ i (hi:i<len),∀ c,c<sz->∃ u,w.cell? ((a.add (i*sz)).add c)=some u/\u.oneCell'=true/\RepV (Iall w) w u ((e (f ⟨i,hi⟩)).getD c .any):=λi hi c hc=>by
   obtain⟨_,cs,hcs,hr⟩:=hf ⟨i,hi⟩;obtain⟨hl,hg⟩:=fo hcs;exact⟨_,hg c hc,hr.one c (by rw[hlen];exact hc),hr.rep c (by rw[hlen];exact hc)⟩
  have hspot:0<len->a.spot=none:=λhp=>by
   obtain⟨u,hu,_⟩:=hcell0 0 hp 0 h1;have h2:=World.cell?_spot hu
   simpa [Addr.add] using h2
  have hcell:∀ i (hi:i<len),∀ c,c<sz->∃ u,w.cell? ⟨a.block,a.off+(i*sz+c),none⟩=some u/\u.oneCell'=true/\RepV (Iall w) w u ((e (f ⟨i,hi⟩)).getD c .any):=λi hi c hc=>by
   obtain⟨u,hu,h1,h2⟩:=hcell0 i hi c hc;have hsp:=hspot (by omega);rw[Mm hsp,O9]at hu;exact⟨u,by rw[<- Xc];exact hu,h1,h2⟩
  have hdm:∀ j,j<len*sz->∃ i c,i<len/\c<sz/\j=i*sz+c:=λj hj=>by
   refine⟨j / sz,j % sz,(TB (by omega)).2 hj,Nat.mod_lt _ (by omega),?_⟩;rw[CJ];exact(IJ j sz).symm
  unfold AV.list;rw[hlf];refine .slice (some a) len cap sz _ (λj=>(w.cell? ⟨a.block,a.off+j,none⟩).getD undef) hl hm (λhp=>⟨a,rfl,hspot hp,λj hj=>?_,λj hj=>?_⟩) (λh=>by cases h) (λj hj=>?_) (λi hi=>hlen _) (λi c hi hc=>?_)
  ·obtain⟨i,c,hi,hc,rfl⟩:=hdm j hj;obtain⟨u,hu,_⟩:=hcell i hi c hc;exact⟨u,hu⟩
  ·obtain⟨i,c,hi,hc,rfl⟩:=hdm j hj;obtain⟨u,hu,_⟩:=hcell i hi c hc;rw[hu];rfl
  ·obtain⟨i,c,hi,hc,rfl⟩:=hdm j hj;obtain⟨u,hu,h1,_⟩:=hcell i hi c hc;simp only[hu];exact h1
  ·grind
structure ZH(P:Program)(fs:List Field)(off N:Nat){α:Type}(e:α->List AV)(ok:α->Prop):Prop where
 get:∀{H:Type} {enc:TypeId×Value->H} {w:World} {base:Nat} {spare:Nat->Bool} {held:Bool} {n:Nat} {cs:List Value},cs.length=N->
  (∀ f∈fs,∃ x,DataW.trod enc P w base spare held n f.type ((cs.drop f.offset).take (P.cellsOf f.type))=some x)->∃ a,ok a/\nG w (cs.drop off) (e a)
theorem T7{P:Program}{N:Nat}:ZH P [] N N (λ_:Unit=>[]) (λ_=>True):=by
 refine⟨?_⟩;intro H enc w base spare held n cs hN _;rw[List.drop_eq_nil_of_le (by omega)];exact⟨(),trivial,rfl,(λj hj=>by simp at hj),(λj hj=>by simp at hj)⟩
theorem Cx{P:Program}{f:Field}{fs:List Field}{off sz N:Nat}{α β:Type}{e:α->List AV}{ok:α->Prop}{e':β->List AV}{ok':β->Prop}(hoff:f.offset=off)(hsz:P.cellsOf f.type=sz)(hle:off+sz<=N)
  (h:Opens P f.type e ok) (h':ZH P fs (off+sz) N e' ok'):ZH P (f::fs) off N (λp:α×β=>e p.1++e' p.2) (λp=>ok p.1/\ok' p.2):=by
 refine⟨?_⟩;intro H enc w base spare held n cs hN hall;obtain⟨x,hx⟩:=hall f (by simp);rw[hoff,hsz]at hx;obtain⟨a,ha,hr⟩:=h.get hx;obtain⟨b,hb,hr'⟩:=h'.get hN (λg hg=>hall g (by simp[hg]))
 have hl:(e a).length=sz:=by rw[<- hr.len];simp;omega
 have hl':(e' b).length=N-(off+sz):=by rw[<- hr'.len];simp;omega
 have hsplit:cs.drop off=(cs.drop off).take sz++cs.drop (off+sz):=by rw[<- List.drop_drop];exact(List.take_append_drop sz _).symm
 have hl2:((cs.drop off).take sz).length=sz:=by simp;omega
 refine⟨(a,b),⟨ha,hb⟩,?_,λj hj=>?_,λj hj=>?_⟩
 ·simp[hl,hl'];omega
 ·rw[hsplit];replace hj:j<(e a++e' b).length:=hj
  show _
  by_cases hlt:j<sz
  ·have:=hr.one j (by omega);rwa[List.getD,Ug (by omega)]
  ·have:=hr'.one (j-sz) (by simp at hj;omega);rwa[List.getD,Ve (by omega),hl2]
 ·rw[hsplit];replace hj:j<(e a++e' b).length:=hj
  show RepV (Iall w) w _ ((e a++e' b).getD j .any)
  by_cases hlt:j<sz
  ·have:=hr.rep j (by omega);rwa[List.getD,Ug (by omega),List.getD,Ug (by omega)]
  ·have:=hr'.rep (j-sz) (by simp at hj;omega);rwa[List.getD,Ve (by omega),hl2,List.getD,Ve (by omega),hl]
theorem Q4{P:Program}{t:TypeId}{fs:Array Field}{N:Nat}{α:Type}{e:α->List AV}{ok:α->Prop}(ht:P.underlying t=some (.struct fs))(hN:P.cellsOf t=N)(h:ZH P fs.toList 0 N e ok):Opens P t e ok:=by
 refine⟨?_⟩;intro H enc w base spare held fuel cs x hx;obtain⟨xs,n,_,_,hl,hxl,hall⟩:=DataW.trod_struct ht hx
 have:=h.get  (hl.trans hN)      (λf hf=>by
  obtain⟨i,hi,rfl⟩:=List.mem_iff_getElem.1 hf
  have hi' :=by simpa using hi
  have:=hall i fs.toList[i] (by simp[hi']);rw[P2 (by omega)]at this
  exact⟨_,this⟩)
 simpa using this
theorem Opens.to{P:Program}{t:TypeId}{α β:Type}{e:α->List AV}{ok:α->Prop}(h:Opens P t e ok){e':β->List AV}{ok':β->Prop}(g:α->β)(he:∀ a,e' (g a)=e a)(hok:∀ a,ok a->ok' (g a)):Opens P t e' ok':=by
 refine⟨?_⟩;intro H enc w base spare held fuel cs x hx;obtain⟨a,ha,hr⟩:=h.get hx;exact⟨g a,hok a ha,by rw[he];exact hr⟩
theorem arg_agg{P:Program}{t:TypeId}{α:Type}{e:α->List AV}{ok:α->Prop}(h:Opens P t e ok){H:Type}{enc:TypeId×Value->H}{w:World}{base:Nat}{spare:Nat->Bool}{held:Bool}{cs:Array Value}{d:DataW H}{ps:List MemPlace}
  (hd:DataW.Trod enc P w base spare held t (.agg cs) d ps):∃ a,ok a/\RepV (Iall w) w (.agg cs) (.agg (e a)):=by
 obtain⟨fuel,hf⟩:=hd;obtain⟨a,ha,hr⟩:=h.get hf;have e1:(Value.agg cs).cells.toList=cs.toList:=rfl;rw[e1]at hr
 have e2:∀ j,cs.toList.getD j undef=cs.getD j undef:=λj=>by simp_all
 refine⟨a,ha,.agg _ _ (by simpa using hr.len) (λj hj=>?_) (λj hj=>?_)⟩
 ·rw[<- e2];exact hr.one j hj
 ·rw[<- e2];exact hr.rep j hj
def BC(n:Int):Prop:=(Lit.int .i64 n).wf=true
theorem VU:Opens Tryz.prog 3 Aq BC:=XU Tryz.underlying3 (λ_=>rfl)
def JT(l:List (Int)):Prop:=(∀ a∈l,BC a)/\l.length<=maxLen
theorem dy:Opens Tryz.prog 22 Li JT:=U6 (d:=(0:Int)) Tryz.underlying22 (by kernel_rfl) (by decide) VU (λ_=>rfl) (λ_=>rfl)
def pz(a:TPhi):Prop:=BC a.Bits/\BC a.Dst/\JT a.From/\JT a.Args/\True
theorem zW:Opens Tryz.prog 67 Ej pz:=Opens.to (Q4 (N:=4) Tryz.underlying67 (by kernel_rfl) (Cx (off:=0) (sz:=1) (N:=4) rfl (by kernel_rfl) (by decide) VU (Cx (off:=1) (sz:=1) (N:=4) rfl (by kernel_rfl) (by decide) VU (Cx (off:=2) (sz:=1) (N:=4) rfl (by kernel_rfl) (by decide) dy (Cx (off:=3) (sz:=1) (N:=4) rfl (by kernel_rfl) (by decide) dy T7))))) (λp=>⟨p.1,p.2.1,p.2.2.1,p.2.2.2.1⟩) (λ_=>rfl) (λ_ h=>h)
def jv(l:List (TPhi)):Prop:=(∀ a∈l,pz a)/\l.length<=maxLen
theorem zS:Opens Tryz.prog 59 wr jv:=U6 (d:=(default:TPhi)) Tryz.underlying59 (by kernel_rfl) (by decide) zW (λ_=>rfl) (λ_=>rfl)
def vK(n:Int):Prop:=(Lit.int .u64 n).wf=true
theorem zR:Opens Tryz.prog 44 Aar vK:=XU Tryz.underlying44 (λ_=>rfl)
def vI(a:TOp):Prop:=BC a.Kind/\BC a.Bits/\BC a.Lanes/\BC a.Dst/\JT a.Args/\vK a.Imm/\True
theorem zX:Opens Tryz.prog 70 Lm vI:=Opens.to (Q4 (N:=6) Tryz.underlying70 (by kernel_rfl) (Cx (off:=0) (sz:=1) (N:=6) rfl (by kernel_rfl) (by decide) VU (Cx (off:=1) (sz:=1) (N:=6) rfl (by kernel_rfl) (by decide) VU (Cx (off:=2) (sz:=1) (N:=6) rfl (by kernel_rfl) (by decide) VU (Cx (off:=3) (sz:=1) (N:=6) rfl (by kernel_rfl) (by decide) VU (Cx (off:=4) (sz:=1) (N:=6) rfl (by kernel_rfl) (by decide) dy (Cx (off:=5) (sz:=1) (N:=6) rfl (by kernel_rfl) (by decide) zR T7))))))) (λp=>⟨p.1,p.2.1,p.2.2.1,p.2.2.2.1,p.2.2.2.2.1,p.2.2.2.2.2.1⟩) (λ_=>rfl) (λ_ h=>h)
def pu(l:List (TOp)):Prop:=(∀ a∈l,vI a)/\l.length<=maxLen
theorem zT:Opens Tryz.prog 60 WT pu:=U6 (d:=(default:TOp)) Tryz.underlying60 (by kernel_rfl) (by decide) zX (λ_=>rfl) (λ_=>rfl)
def py(a:Ou):Prop:=BC a.Kind/\BC a.Arg/\JT a.To/\True
theorem zU:Opens Tryz.prog 62 jZ py:=Opens.to (Q4 (N:=3) Tryz.underlying62 (by kernel_rfl) (Cx (off:=0) (sz:=1) (N:=3) rfl (by kernel_rfl) (by decide) VU (Cx (off:=1) (sz:=1) (N:=3) rfl (by kernel_rfl) (by decide) VU (Cx (off:=2) (sz:=1) (N:=3) rfl (by kernel_rfl) (by decide) dy T7)))) (λp=>⟨p.1,p.2.1,p.2.2.1⟩) (λ_=>rfl) (λ_ h=>h)
def df(a:Ae):Prop:=jv a.Phis/\pu a.Ops/\py a.End/\True
theorem zV:Opens Tryz.prog 64 Cg df:=Opens.to (Q4 (N:=5) Tryz.underlying64 (by kernel_rfl) (Cx (off:=0) (sz:=1) (N:=5) rfl (by kernel_rfl) (by decide) zS (Cx (off:=1) (sz:=1) (N:=5) rfl (by kernel_rfl) (by decide) zT (Cx (off:=2) (sz:=3) (N:=5) rfl (by kernel_rfl) (by decide) zU T7)))) (λp=>⟨p.1,p.2.1,p.2.2.1⟩) (λ_=>rfl) (λ_ h=>h)
def XR(l:List (Ae)):Prop:=(∀ a∈l,df a)/\l.length<=maxLen
theorem zQ:Opens Tryz.prog 23 pE XR:=U6 (d:=(default:Ae)) Tryz.underlying23 (by kernel_rfl) (by decide) zV (λ_=>rfl) (λ_=>rfl)
def okTFunc(a:TFunc):Prop:=JT a.Params/\BC a.Ret/\XR a.Blocks/\True
theorem op_25:Opens Tryz.prog 25 eTFunc okTFunc:=Opens.to (Q4 (N:=3) Tryz.underlying25 (by kernel_rfl) (Cx (off:=0) (sz:=1) (N:=3) rfl (by kernel_rfl) (by decide) dy (Cx (off:=1) (sz:=1) (N:=3) rfl (by kernel_rfl) (by decide) VU (Cx (off:=2) (sz:=1) (N:=3) rfl (by kernel_rfl) (by decide) zQ T7)))) (λp=>⟨p.1,p.2.1,p.2.2.1⟩) (λ_=>rfl) (λ_ h=>h)
def numB(n:Int):Bool:=decide (0<=n)&&decide (n<=2147483647)
def listB(l:List Int):Bool:=l.all numB&&decide (l.length<=64)
def FL(p:TPhi):Bool:=numB p.Bits&&numB p.Dst&&listB p.From&&listB p.Args
def fC(o:TOp):Bool:=numB o.Kind&&numB o.Bits&&numB o.Lanes&&numB o.Dst&&listB o.Args
def cq(e:Ou):Bool:=numB e.Kind&&numB e.Arg&&listB e.To
def blockB(b:Ae):Bool:=b.Phis.all FL&&b.Ops.all fC&&cq b.End
def Ex(b:Ae):Nat:=b.Phis.length+b.Ops.length+1
def sizeN(f:TFunc):Nat:=(f.Blocks.map Ex).sum
def sizeW(f:TFunc):Int:=w64 (sizeN f)
def Q1(f:TFunc):Bool:=decide (1<=f.Blocks.length)&&decide (f.Blocks.length<=64)&&decide (f.Params.length<=16)&&listB f.Params&&numB f.Ret&&decide (sizeW f<=512)&&f.Blocks.all blockB
def cu(p:TPhi):Nat:=1+p.From.length+p.Args.length
def cr(o:TOp):Nat:=1+o.Args.length
def VB(b:Ae):Nat:=1+b.End.To.length+(b.Phis.map cu).sum+(b.Ops.map cr).sum
def fu(f:TFunc):Nat:=f.Params.length+(f.Blocks.map VB).sum
theorem M1:maxLen=9223372036854775807:=rfl
structure UR(f:TFunc):Prop where
 params:f.Params.length<=maxLen
 blocks:f.Blocks.length<=maxLen
 block:∀ b∈f.Blocks,b.Phis.length<=maxLen/\b.Ops.length<=maxLen/\b.End.To.length<=maxLen
 phi:∀ b∈f.Blocks,∀ p∈b.Phis,p.From.length<=maxLen/\p.Args.length<=maxLen
 op:∀ b∈f.Blocks,∀ o∈b.Ops,o.Args.length<=maxLen/\0<=o.Imm/\o.Imm<18446744073709551616
theorem inF{f:TFunc}(h:okTFunc f):UR f:=
 ⟨h.1.2,h.2.2.1.2,λb hb=>⟨(h.2.2.1.1 b hb).1.2,(h.2.2.1.1 b hb).2.1.2,(h.2.2.1.1 b hb).2.2.1.2.2.1.2⟩,λb hb p hp=>⟨((h.2.2.1.1 b hb).1.1 p hp).2.2.1.2,((h.2.2.1.1 b hb).1.1 p hp).2.2.2.1.2⟩,
  λb hb o ho=>⟨((h.2.2.1.1 b hb).2.1.1 o ho).2.2.2.2.1.2,xO ((h.2.2.1.1 b hb).2.1.1 o ho).2.2.2.2.2.1⟩⟩
theorem Vd{n:Nat}(h:n<9223372036854775808):w64 (n:Int)=n:=Hh (by omega) (by omega)
theorem K7{i n:Nat}(h:i<n)(hn:n<=maxLen):w64 ((i:Int)+1)=((i+1:Nat):Int):=by rw[M1]at hn;rw[show((i:Int)+1)=(i+1:Nat) by omega,Vd (by omega)]
theorem SK(f:TFunc)(hf:UR f):∃ b,C9 f=some b:=by
 have h3:∃ x,Ac (C2 f) (f.Params.length,(0:Nat))=some x:=by
  refine Tw f.Blocks.length _ (λn i hi=>?_) (λn=>?_) _ 0 _ (E6 _)
  ·have hmem:=Ag (d:=default) hi;obtain⟨b1,b2,_⟩:=hf.block _ hmem;have hI :=Ai hi;unfold C2
   cases hc:(bif decide (i<(f.Blocks.length:Int)) then decide (n<=20000) else false) with
   | false=>right;simp only[hc];exact⟨_,rfl⟩
   | true=>
    left
    simp only[hc, Aa hI]
    obtain⟨x1,h1⟩:=Tw (f.Blocks.getD i default).Phis.length (C0 f i) (λn j hj=>by
      unfold C0;simp only[Aa hI,C5]
      cases hc:(bif decide (j<((f.Blocks.getD i default).Phis.length:Int)) then decide (n<=20000) else false) with
      | false=>grind
      | true=>left;simp only[ Aa (Ai hj),K7 hj b1];exact⟨_,rfl⟩) (λn=>by
      unfold C0;simp only[Aa hI,C5]
      have:decide ((f.Blocks.getD i default).Phis.length<((f.Blocks.getD i default).Phis.length:Int))=false:=by simp
      simp only[this];exact⟨_,rfl⟩) _ 0 (w64 (w64 (n+1)+(f.Blocks.getD i default).End.To.length)) (E6 _)
    obtain⟨x2,h2⟩:=Tw (f.Blocks.getD i default).Ops.length (C1 f i) (λn j hj=>by
      unfold C1;simp only[Aa hI,C5]
      cases hc:(bif decide (j<((f.Blocks.getD i default).Ops.length:Int)) then decide (n<=20000) else false) with
      | false=>grind
      | true=>left;simp only[ Aa (Ai hj),K7 hj b2];exact⟨_,rfl⟩) (λn=>by
      unfold C1;simp only[Aa hI,C5]
      have:decide ((f.Blocks.getD i default).Ops.length<((f.Blocks.getD i default).Ops.length:Int))=false:=by simp
      simp only[this];exact⟨_,rfl⟩) _ 0 x1 (E6 _)
    rw[show((0:Nat):Int)=0 from rfl]at h1 h2;simp only[C5,h1,h2,An,K7 hi hf.blocks];exact⟨_,rfl⟩
  ·unfold C2
   have:decide ((f.Blocks.length:Int)<(f.Blocks.length:Int))=false:=by simp
   simp only[this];exact⟨_,rfl⟩
 obtain⟨x,hx⟩:=h3;unfold C9;rw[show((0:Nat):Int)=0 from rfl]at hx;rw[hx];exact⟨_,rfl⟩
theorem eR(f:TFunc)(hf:UR f)(h0:f.Params.length<=64)(hb:∀ b∈f.Blocks,b.End.To.length<=64/\(∀ p∈b.Phis,p.From.length<=64/\p.Args.length<=64)/\∀ o∈b.Ops,o.Args.length<=64):C9 f=some (decide (fu f<=20000)):=by
 have h3:=HM f.Blocks (default:Ae) VB 20000 (C2 f) (λn i hi hn=>by
   have hmem:=Ag (d:=(default:Ae)) hi;obtain⟨b1,b2,b3⟩:=hf.block _ hmem;obtain⟨hTo,hPh,hOp⟩:=hb _ hmem;have hI1:A1 (i:Int) f.Blocks.length:=Ai hi
   have l1:=HM (f.Blocks.getD i default).Phis (default:TPhi) cu 20000 (C0 f i) (λn j hj hn=>by
     have hm:=Ag (d:=(default:TPhi)) hj;obtain⟨p1,p2⟩:=hPh _ hm
     have e1:decide ((j:Int)<((f.Blocks.getD i default).Phis.length:Int))=true:=by simpa using hj
     have e2:decide ((n:Int)<=20000)=true:=by simp;omega
     refine⟨n+cu ((f.Blocks.getD i default).Phis.getD j default),?_,λ_=>rfl,λh=>h⟩;unfold C0;simp only[Aa hI1,C5,e1,e2,Ah,Aa (Ai hj),K7 hj b1]
     congr 3
     rw[Hh (n:=(n:Int)+1) (by omega) (by omega),Hh (n:=(n:Int)+1+_) (by omega) (by omega),Hh (by omega) (by omega)];simp only[cu]
     omega) (λn j hj hd=>by
     unfold C0;simp only[Aa hI1,C5]
     have:(bif decide ((j:Int)<((f.Blocks.getD i default).Phis.length:Int)) then decide ((n:Int)<=20000) else false)=false:=by
      rcases hd with rfl|h
      ·simp
      ·simp;omega
     rw[this];rfl)
   have l2:=HM (f.Blocks.getD i default).Ops (default:TOp) cr 20000 (C1 f i) (λn j hj hn=>by
     have hm:=Ag (d:=(default:TOp)) hj;have p1:=hOp _ hm
     have e1:decide ((j:Int)<((f.Blocks.getD i default).Ops.length:Int))=true:=by simpa using hj
     have e2:decide ((n:Int)<=20000)=true:=by simp;omega
     refine⟨n+cr ((f.Blocks.getD i default).Ops.getD j default),?_,λ_=>rfl,λh=>h⟩;unfold C1;simp only[Aa hI1,C5,e1,e2,Ah,Aa (Ai hj),K7 hj b2]
     congr 3
     rw[Hh (n:=(n:Int)+1) (by omega) (by omega),Hh (by omega) (by omega)];simp only[cr]
     omega) (λn j hj hd=>by
     unfold C1;simp only[Aa hI1,C5]
     have:(bif decide ((j:Int)<((f.Blocks.getD i default).Ops.length:Int)) then decide ((n:Int)<=20000) else false)=false:=by
      rcases hd with rfl|h
      ·simp
      ·simp;omega
     rw[this];rfl)
   have e1:decide ((i:Int)<(f.Blocks.length:Int))=true:=by simpa using hi
   have e2:decide ((n:Int)<=20000)=true:=by simp;omega
   obtain⟨m1,q1,q2,q3⟩:=l1 _ 0 (n+1+(f.Blocks.getD i default).End.To.length) (E6 _);obtain⟨m2,q4,q5,q6⟩:=l2 _ 0 m1 (E6 _);rw[Oc]at q2 q3 q5 q6;refine⟨m2,?_,λhle=>?_,λhle=>?_⟩
   ·unfold C2;simp only[e1,e2,Ah,Aa hI1,C5,K7 hi hf.blocks];rw[Hh (n:=(n:Int)+1) (by omega) (by omega),Hh (by omega) (by omega),show(n:Int)+1+((f.Blocks.getD i default).End.To.length:Int)=((n+1+(f.Blocks.getD i default).End.To.length:Nat):Int) by omega];rw[show((0:Nat):Int)=0 from rfl]at q1 q4;rw[q1,An,q4,An]
   ·simp only[VB]at hle ⊢;have:=q2 (by omega);rw[q5 (by omega)];omega
   ·simp only[VB];have h6:=q6 hle;have h3:=q3 (by omega);have:=q2 h3
    omega) (λn i hi hd=>by
   unfold C2
   have:(bif decide ((i:Int)<(f.Blocks.length:Int)) then decide ((n:Int)<=20000) else false)=false:=by
    rcases hd with rfl|h
    ·simp
    ·simp;omega
   simp only[this,Aw]) f.Blocks.length 0 f.Params.length (E6 _)
 obtain⟨m,h1,h2,h4⟩:=h3;rw[Oc]at h2 h4;unfold C9;rw[show((0:Nat):Int)=0 from rfl]at h1;rw[h1,An]
 congr 1
 apply zzL78.2
 simp only[fu]
 constructor
 ·intro h;exact h4 (by omega)
 ·intro h;have:=h2 h;omega
theorem U8(n:Int):Bo n=some (numB n):=by unfold Bo numB;cases decide (0<=n)<;>rfl
theorem Sh(l:List Int)(h:l.length<=maxLen):Dp l=some (listB l):=by
 unfold Dp;rw[M1]at h
 have hloop:=Hk l 0 numB (Gb l) (.inl ()) (.inr false) (λi hi hp=>by
   unfold Gb
   have:decide (i<(l.length:Int))=true:=by simpa using hi
   simp only[this,Ah,Aa (Ai hi),C5,U8,An,hp,Dq,Aw,A0 hi (by omega)]) (λi hi hp=>by
   unfold Gb
   have:decide (i<(l.length:Int))=true:=by simpa using hi
   simp only[this,Ah,Aa (Ai hi),C5,U8,An,hp,J9]) (by
   unfold Gb
   simp) l.length 0 (by omega)
 rw[show(0:Int)=(0:Nat) from rfl,hloop,Oc];unfold listB
 have e:decide ((l.length:Int)<=64)=decide (l.length<=64):=by grind
 cases l.all _
 ·rfl
 ·simp[e]
theorem eP(f:TFunc)(hf:UR f):Cr f=some (sizeW f):=by
 unfold Cr
 have hl:=DI _ default Ex id (Ij f) (λn i hi=>by
   have e1:decide ((i:Int)<f.Blocks.length)=true:=by simpa using hi
   unfold Ij;simp only[e1,Ah,Aa (Ai hi),C5,K7 hi hf.blocks]
   congr 3
   rw[Vc,Vc,Int.add_assoc _,Vc];unfold Ex
   congr 1
   omega) (λn=>by
   unfold Ij
   simp) _ 0 0 (E6 _)
 rw[show w64 _=0 from rfl,show((0:Nat):Int)=0 from rfl]at hl;rw[hl];simp[sizeN,sizeW]
theorem uS(f:TFunc)(hf:UR f):I4 f=some (Q1 f):=by
 have hloop:Ac (E2 f) ((0:Nat):Int)=some (bif (f.Blocks.drop 0).all blockB then .inl () else .inr false):=by
  have step:∀ i:Nat,i<f.Blocks.length->E2 f (i:Int)=bif blockB (f.Blocks.getD i default) then some (.next ((i:Int)+1)) else some (.done (.inr false)):=λi hi=>by
   have hmem:=Ag (d:=(default:Ae)) hi;obtain⟨b1,b2,b3⟩:=hf.block _ hmem;have hPh:=hf.phi _ hmem;have hOp:=hf.op _ hmem;have hM:=M1
   have e0:decide ((i:Int)<(f.Blocks.length:Int))=true:=by simpa using hi
   have l1:=Hk (f.Blocks.getD i default).Phis (default:TPhi) FL (Gz f i) (.inl ()) (.inr false) (λj hj hp=>by
     obtain⟨p1,p2⟩:=hPh _ (Ag (d:=(default:TPhi)) hj)
     have e1:decide ((j:Int)<((f.Blocks.getD i default).Phis.length:Int))=true:=by simpa using hj
     unfold Gz;simp only[e1,Ah,C5,Aa (Ai hj),U8,An,Sh _ p1,Sh _ p2,A0 hj (by omega)]
     revert hp
     unfold FL
     cases numB ((f.Blocks.getD i default).Phis.getD j default).Bits<;>cases numB ((f.Blocks.getD i default).Phis.getD j default).Dst<;>cases listB ((f.Blocks.getD i default).Phis.getD j default).From<;>cases listB ((f.Blocks.getD i default).Phis.getD j default).Args<;>simp) (λj hj hp=>by
     obtain⟨p1,p2⟩:=hPh _ (Ag (d:=(default:TPhi)) hj)
     have e1:decide ((j:Int)<((f.Blocks.getD i default).Phis.length:Int))=true:=by simpa using hj
     unfold Gz;simp only[e1,Ah,C5,Aa (Ai hj),U8,An,Sh _ p1,Sh _ p2,A0 hj (by omega)]
     revert hp
     unfold FL
     cases numB ((f.Blocks.getD i default).Phis.getD j default).Bits<;>cases numB ((f.Blocks.getD i default).Phis.getD j default).Dst<;>cases listB ((f.Blocks.getD i default).Phis.getD j default).From<;>cases listB ((f.Blocks.getD i default).Phis.getD j default).Args<;>simp) (by
     unfold Gz
     simp) _ 0 (E6 _)
   have l2:=Hk (f.Blocks.getD i default).Ops (default:TOp) fC (G0 f i) (.inl ()) (.inr false) (λj hj hp=>by
     obtain⟨p1,_⟩:=hOp _ (Ag (d:=(default:TOp)) hj)
     have e1:decide ((j:Int)<((f.Blocks.getD i default).Ops.length:Int))=true:=by simpa using hj
     unfold G0;simp only[e1,Ah,C5,Aa (Ai hj),U8,An,Sh _ p1,A0 hj (by omega)]
     revert hp
     unfold fC
     cases numB ((f.Blocks.getD i default).Ops.getD j default).Kind<;>cases numB ((f.Blocks.getD i default).Ops.getD j default).Bits<;>cases numB ((f.Blocks.getD i default).Ops.getD j default).Lanes<;>cases numB ((f.Blocks.getD i default).Ops.getD j default).Dst<;>cases listB ((f.Blocks.getD i default).Ops.getD j default).Args<;>simp) (λj hj hp=>by
     obtain⟨p1,_⟩:=hOp _ (Ag (d:=(default:TOp)) hj)
     have e1:decide ((j:Int)<((f.Blocks.getD i default).Ops.length:Int))=true:=by simpa using hj
     unfold G0;simp only[e1,Ah,C5,Aa (Ai hj),U8,An,Sh _ p1,A0 hj (by omega)]
     revert hp
     unfold fC
     cases numB ((f.Blocks.getD i default).Ops.getD j default).Kind<;>cases numB ((f.Blocks.getD i default).Ops.getD j default).Bits<;>cases numB ((f.Blocks.getD i default).Ops.getD j default).Lanes<;>cases numB ((f.Blocks.getD i default).Ops.getD j default).Dst<;>cases listB ((f.Blocks.getD i default).Ops.getD j default).Args<;>simp) (by
     unfold G0
     simp) _ 0 (E6 _)
   rw[show((0:Nat):Int)=0 from rfl,Oc]at l1 l2;unfold E2;simp only[e0,Ah,Aa (Ai hi),l1,An];unfold blockB
   cases(f.Blocks.getD i default).Phis.all FL with
   | false=>rfl
   | true=>
    simp only[Ah,l2,An,C5,U8,Sh _ b3,A0 hi (by have:=hf.blocks;omega)]
    cases(f.Blocks.getD i default).Ops.all fC with
    | false=>rfl
    | true=>
     unfold cq
     cases numB (f.Blocks.getD i default).End.Kind<;>cases numB (f.Blocks.getD i default).End.Arg<;>cases listB (f.Blocks.getD i default).End.To<;>rfl
  exact Hk f.Blocks (default:Ae) blockB (E2 f) (.inl ()) (.inr false) (λi hi hp=>by rw[step i hi,hp];rfl) (λi hi hp=>by rw[step i hi,hp];rfl) (by
   unfold E2
   simp) _ 0 (E6 _)
 rw[show((0:Nat):Int)=0 from rfl,Oc]at hloop;unfold I4 Q1;simp only[Sh _ hf.params,U8,eP f hf,hloop]
 have e1:((f.Blocks.length:Int)==0) = !decide (1<=f.Blocks.length):=by
  rw[<- decide_not]
  by_cases h:f.Blocks.length=0
  ·simp[h]
  ·have h1:((f.Blocks.length:Int)==0)=false:=by simpa using h
   rw[h1];symm;apply Ch;omega
 have e2:decide ((64:Int)<(f.Blocks.length:Int)) = !decide (f.Blocks.length<=64):=by rw[<- decide_not];apply zzL78.2;omega
 have e3:decide ((16:Int)<(f.Params.length:Int)) = !decide (f.Params.length<=16):=by rw[<- decide_not];apply zzL78.2;omega
 have e4:decide ((512:Int)<sizeW f) = !decide (sizeW f<=512):=by rw[<- decide_not];apply zzL78.2;omega
 rw[e1,e2,e3]
 generalize decide (1<=f.Blocks.length)=p1
 generalize decide (f.Blocks.length<=64)=p2
 generalize decide (f.Params.length<=16)=p3
 generalize listB f.Params=p4
 generalize numB f.Ret=p5
 cases p1 with
 | false=>simp
 | true=>cases p2 with
  | false=>simp
  | true=>cases p3 with
   | false=>simp
   | true=>cases p4 with
    | false=>simp
    | true=>cases p5 with
     | false=>simp
     | true=>
      simp only[Dq,Bool.or_self,Ah,Aw,Vg,An,e4]
      cases decide (sizeW f<=512) with
      | false=>simp
      | true=>cases f.Blocks.all blockB<;>simp
theorem JF{α:Type}[BEq α](l m:List α):(l.drop 0==m.drop 0)=(l==m):=by simp
theorem ao{α β:Type}(l:List α)(m:List β):((l.length:Int)!=(m.length:Int)) = !decide (l.length=m.length):=by
 grind
theorem GT{α:Type}[BEq α][LawfulBEq α][DecidableEq α](x y:α):(x==y)=decide (x=y):=by
 grind
theorem T9(l m:List Int)(hl:l.length<=maxLen):Bb l m=some (decide (l=m)):=by
 unfold Bb;rw[M1]at hl;rw[ao]
 by_cases he:l.length=m.length
 ·have hloop:=HL l m 0 (B1 l m) (.inl ()) (.inr false) he (λi hi hp=>by
    unfold B1
    have:decide (i<(l.length:Int))=true:=by simpa using hi
    simp only[this,Ah,Aa (Ai hi),Aa (Ai (show i<m.length by omega)),C5,bne,hp,Dq,Aw,A0 hi (by omega)]) (λi hi hp=>by
    unfold B1
    have:decide ((i:Int)<l.length)=true:=by simpa using hi
    simp only[this,Ah,Aa (Ai hi),Aa (Ai (show i<m.length by omega)),C5,bne,hp,J9]) (by
    unfold B1
    simp) l.length 0 (by omega)
  rw[Ci he,Dq, show(0:Int)=(0:Nat) from rfl,hloop,JF,GT]
  cases decide (l=m)<;>rfl
 ·have e3:decide (l=m)=false:=Ch (by rintro rfl;exact he rfl);rw[Ch he,e3];rfl
theorem kA(p q:TPhi):(p==q)=((p.Bits==q.Bits)&&(p.Dst==q.Dst)&&decide (p.From=q.From)&&decide (p.Args=q.Args)):=by
 rw[ W9];obtain⟨a,b,c,d⟩:=p;obtain⟨a',b',c',d'⟩:=q;simp[and_assoc]
theorem lS(x y:Ae):(x==y)=(decide (x.Phis=y.Phis)&&decide (x.Ops=y.Ops)&&((x.End.Kind==y.End.Kind)&&(x.End.Arg==y.End.Arg)&&decide (x.End.To=y.End.To))):=by
 rw[ W9];obtain⟨p,o,⟨k,a,t⟩⟩:=x;obtain⟨p',o',⟨k',a',t'⟩⟩:=y;simp[and_assoc]
theorem pM(x y:TFunc):decide (x=y)=((x.Ret==y.Ret)&&decide (x.Params=y.Params)&&decide (x.Blocks=y.Blocks)):=by
 rw[W9];obtain⟨p,r,b⟩:=x;obtain⟨p',r',b'⟩:=y
 constructor
 ·grind
 ·grind
theorem qX(a b:TOp)(h:a.Args.length<=maxLen):Kq a b=some (decide (a=b)):=by
 unfold Kq;rw[T9 _ _ h];obtain⟨k,b1,n,d,ar,i⟩:=a;obtain⟨k',b1',n',d',ar',i'⟩:=b
 have:decide ((⟨k,b1,n,d,ar,i⟩:TOp)=⟨k',b1',n',d',ar',i'⟩)=((k==k')&&(b1==b1')&&(n==n')&&(d==d')&&(i==i')&&decide (ar=ar')):=by
  rw[W9];simp[and_assoc]
  intros;exact and_comm
 rw[this];simp only
 cases(k==k')<;>cases(b1==b1')<;>cases(n==n')<;>cases(d==d')<;>cases(i==i')<;>rfl
theorem eO(a b:TFunc)(ha:UR a):H4 a b=some (decide (a=b)):=by
 have hM:=M1;unfold H4;rw[T9 _ _ ha.params,pM];simp only[ao]
 by_cases hr:a.Ret=b.Ret
 ·have e1:(a.Ret !=b.Ret)=false:=by simpa using hr
  have e1':(a.Ret==b.Ret)=true:=by simpa using hr
  rw[e1,e1']
  cases hp:decide (a.Params=b.Params) with
  | false=>rfl
  | true=>
   by_cases hlen:a.Blocks.length=b.Blocks.length
   ·have step:∀ i:Nat,i<a.Blocks.length->Ga a b (i:Int)=bif (a.Blocks.getD i default==b.Blocks.getD i default) then some (.next ((i:Int)+1)) else some (.done (.inr false)):=λi hi=>by
     have hmem:=Ag (d:=(default:Ae)) hi;obtain⟨b1,b2,b3⟩:=ha.block _ hmem;have hPh:=ha.phi _ hmem;have hOp:=ha.op _ hmem
     have e0:decide ((i:Int)<(a.Blocks.length:Int))=true:=by simpa using hi
     have hI:A1 (i:Int) b.Blocks.length:=Ai (by omega);rw[lS];unfold Ga;simp only[e0,Ah,Aa (Ai hi),Aa hI,C5,T9 _ _ b3,ao]
     by_cases hphi:(a.Blocks.getD i default).Phis.length=(b.Blocks.getD i default).Phis.length
     ·by_cases hops:(a.Blocks.getD i default).Ops.length=(b.Blocks.getD i default).Ops.length
      ·rw[Ci hphi,Ci hops]
       have l1:=HL (a.Blocks.getD i default).Phis (b.Blocks.getD i default).Phis (default:TPhi) (F8 a b i) (.inl ()) (.inr false) hphi (λj hj hp=>by
         obtain⟨p1,p2⟩:=hPh _ (Ag (d:=(default:TPhi)) hj)
         have q0:decide ((j:Int)<((a.Blocks.getD i default).Phis.length:Int))=true:=by simpa using hj
         rw[kA]at hp;unfold F8;simp only[q0,Ah,C5,Aa (Ai hj),Aa (Ai (show j<(b.Blocks.getD i default).Phis.length by omega)),T9 _ _ p1,T9 _ _ p2,A0 hj (by omega),bne]
         revert hp
         cases(((a.Blocks.getD i default).Phis.getD j default).Bits==((b.Blocks.getD i default).Phis.getD j default).Bits)<;>cases(((a.Blocks.getD i default).Phis.getD j default).Dst==((b.Blocks.getD i default).Phis.getD j default).Dst)<;>cases decide (((a.Blocks.getD i default).Phis.getD j default).From=((b.Blocks.getD i default).Phis.getD j default).From)<;>cases decide (((a.Blocks.getD i default).Phis.getD j default).Args=((b.Blocks.getD i default).Phis.getD j default).Args)<;>simp) (λj hj hp=>by
         obtain⟨p1,p2⟩:=hPh _ (Ag (d:=(default:TPhi)) hj)
         have q0:decide ((j:Int)<((a.Blocks.getD i default).Phis.length:Int))=true:=by simpa using hj
         rw[kA]at hp;unfold F8;simp only[q0,Ah,C5,Aa (Ai hj),Aa (Ai (show j<(b.Blocks.getD i default).Phis.length by omega)),T9 _ _ p1,T9 _ _ p2,A0 hj (by omega),bne]
         revert hp
         cases(((a.Blocks.getD i default).Phis.getD j default).Bits==((b.Blocks.getD i default).Phis.getD j default).Bits)<;>cases(((a.Blocks.getD i default).Phis.getD j default).Dst==((b.Blocks.getD i default).Phis.getD j default).Dst)<;>cases decide (((a.Blocks.getD i default).Phis.getD j default).From=((b.Blocks.getD i default).Phis.getD j default).From)<;>cases decide (((a.Blocks.getD i default).Phis.getD j default).Args=((b.Blocks.getD i default).Phis.getD j default).Args)<;>simp) (by
         unfold F8
         simp) _ 0 (E6 _)
       have l2:=HL (a.Blocks.getD i default).Ops (b.Blocks.getD i default).Ops (default:TOp) (F9 a b i) (.inl ()) (.inr false) hops (λj hj hp=>by
         obtain⟨p1,_⟩:=hOp _ (Ag (d:=(default:TOp)) hj)
         have q0:decide ((j:Int)<((a.Blocks.getD i default).Ops.length:Int))=true:=by simpa using hj
         rw[GT]at hp;unfold F9
         simp only[q0,Ah,C5,Aa (Ai hj),Aa (Ai (show j<(b.Blocks.getD i default).Ops.length by omega)),qX _ _ p1,A0 hj (by omega),hp,An,Dq,Aw]) (λj hj hp=>by
         obtain⟨p1,_⟩:=hOp _ (Ag (d:=(default:TOp)) hj)
         have q0:decide ((j:Int)<((a.Blocks.getD i default).Ops.length:Int))=true:=by simpa using hj
         rw[GT]at hp;unfold F9
         simp only[q0,Ah,C5,Aa (Ai hj),Aa (Ai (show j<(b.Blocks.getD i default).Ops.length by omega)),qX _ _ p1,hp,An,J9,Ah]) (by
         unfold F9
         simp) _ 0 (E6 _)
       rw[show((0:Nat):Int)=0 from rfl,JF,GT]at l1 l2;simp only[l1,An,A0 hi (by have:=ha.blocks;omega),bne]
       cases((a.Blocks.getD i default).End.Kind==(b.Blocks.getD i default).End.Kind)<;>cases((a.Blocks.getD i default).End.Arg==(b.Blocks.getD i default).End.Arg)<;>cases decide ((a.Blocks.getD i default).End.To=(b.Blocks.getD i default).End.To)<;>cases decide ((a.Blocks.getD i default).Phis=(b.Blocks.getD i default).Phis)<;>simp only[Dq,J9,Ah,Aw,l2,FY,Bool.and_false,Lj,FX,An]
       all_goals first|rfl|(cases decide ((a.Blocks.getD i default).Ops=(b.Blocks.getD i default).Ops)<;>rfl)
      ·have:decide ((a.Blocks.getD i default).Ops=(b.Blocks.getD i default).Ops)=false:=Ch λh=>hops (by rw[h]);rw[Ci hphi,Ch hops,this]
       simp
     ·have:decide ((a.Blocks.getD i default).Phis=(b.Blocks.getD i default).Phis)=false:=Ch λh=>hphi (by rw[h]);rw[Ch hphi,this]
      simp
    have hloop:=HL a.Blocks b.Blocks (default:Ae) (Ga a b) (.inl ()) (.inr false) hlen (λi hi hp=>by rw[step i hi,hp];rfl) (λi hi hp=>by rw[step i hi,hp];rfl) (by
     unfold Ga
     simp) _ 0 (E6 _)
    rw[show((0:Nat):Int)=0 from rfl,JF,GT]at hloop;rw[Ci hlen];simp only[hloop,Dq,Aw,Ah,An,bne,Lj,FY,J9]
    all_goals first|rfl|(cases decide (a.Blocks=b.Blocks)<;>rfl)
   ·have:decide (a.Blocks=b.Blocks)=false:=Ch λh=>hlen (by rw[h]);rw[Ch hlen,this]
    rfl
 ·have e1:(a.Ret !=b.Ret)=true:=by simpa using hr
  have e1':(a.Ret==b.Ret)=false:=by simpa using hr
  rw[e1,e1']
  rfl
theorem pr{n:Int}:numB n=true↔0<=n/\n<=2147483647:=by simp[numB]
theorem listB_iff{l:List Int}:listB l=true↔pQ l/\l.length<=64:=by
 simp[listB,pQ,pr]
def zr(n:Int):Prop:=0<=n/\n<18446744073709551616
structure OkB(b:Ae):Prop where
 may:blockB b=true
 phis:b.Phis.length<=512
 ops:b.Ops.length<=512
 imm:∀ o∈b.Ops,zr o.Imm
structure OkF(f:TFunc):Prop where
 params:listB f.Params=true
 few:f.Params.length<=16
 ret:numB f.Ret=true
 blocks:f.Blocks.length<=64
 block:∀ b∈f.Blocks,OkB b
theorem blockB_iff{b:Ae}:blockB b=true↔(∀ p∈b.Phis,FL p=true)/\(∀ o∈b.Ops,fC o=true)/\cq b.End=true:=by
 simp[blockB,and_assoc]
theorem iJ{α:Type}(l:List α)(g:α->Nat)(B:Nat)(h:∀ a∈l,g a<=B):(l.map g).sum<=l.length*B:=by
 induction l with
 | nil=>simp
 | cons a l ih=>
  have h1:=h a (by simp);have h2:=ih (λb hb=>h b (by simp[hb]));rw[Cq,TA,EW,Gl];omega
theorem qd{α:Type}(l:List α)(g k:α->Nat)(h:∀ a∈l,g a<=k a):(l.map g).sum<=(l.map k).sum:=by
 induction l with
 | nil=>simp
 | cons a l ih=>
  grind
theorem QN{α:Type}(l:List α)(g:α->Nat)(h:∀ a∈l,1<=g a):l.length<=(l.map g).sum:=by
 induction l with
 | nil=>simp
 | cons a l ih=>
  grind
theorem gh{α:Type}{l:List α}{a:α}(g:α->Nat)(h:a∈l):g a<=(l.map g).sum:=by
 induction l with
 | nil=>cases h
 | cons b l ih=>
  grind
theorem OkF.size{f:TFunc}(h:OkF f):sizeN f<=65600/\sizeW f=sizeN f:=by
 have:sizeN f<=f.Blocks.length*1025:=iJ _ _ _ λb hb=>by
  have h1:=(h.block b hb).phis;have h2:=(h.block b hb).ops;simp only[Ex];omega
 have h2:=h.blocks
 have h3:sizeN f<=65600:=by omega
 exact⟨h3,Vd (by omega)⟩
theorem JP{f:TFunc}(h:Q1 f=true):1<=f.Blocks.length/\f.Blocks.length<=64/\f.Params.length<=16/\listB f.Params=true/\numB f.Ret=true/\sizeW f<=512/\∀ b∈f.Blocks,blockB b=true:=by
 simp only[Q1,A6,Gq,zzL27]at h;exact⟨h.1.1.1.1.1.1,h.1.1.1.1.1.2,h.1.1.1.1.2,h.1.1.1.2,h.1.1.2,h.1.2,h.2⟩
theorem mC{f:TFunc}(h:Q1 f=true):f.Params.length<=64/\∀ b∈f.Blocks,b.End.To.length<=64/\(∀ p∈b.Phis,p.From.length<=64/\p.Args.length<=64)/\∀ o∈b.Ops,o.Args.length<=64:=by
 obtain⟨_,_,h3,_,_,_,h7⟩:=JP h;refine⟨by omega,λb hb=>?_⟩;obtain⟨q1,q2,q3⟩:=blockB_iff.1 (h7 b hb);simp only[cq,A6]at q3;refine⟨(listB_iff.1 q3.2).2,λp hp=>?_,λo ho=>?_⟩
 ·have:=q1 p hp;simp only[FL,A6]at this;exact⟨(listB_iff.1 this.1.2).2,(listB_iff.1 this.2).2⟩
 ·have:=q2 o ho;simp only[fC,A6]at this;exact(listB_iff.1 this.2).2
theorem xB{f:TFunc}(hf:UR f)(h:Q1 f=true)(hs:fu f<=20000):OkF f/\sizeN f<=512:=by
 obtain⟨h1,h2,h3,h4,h5,h6,h7⟩:=JP h
 have hle:sizeN f<=fu f:=by
  have:sizeN f<=(f.Blocks.map VB).sum:=qd _ _ _ λb hb=>by
   have q1:b.Phis.length<=(b.Phis.map cu).sum:=QN _ _ λp hp=>by simp only[cu];omega
   have q2:b.Ops.length<=(b.Ops.map cr).sum:=QN _ _ λp hp=>by simp only[cr];omega
   simp only[Ex,VB];omega
  simp only[fu];omega
 have hw:sizeW f=sizeN f:=Vd (by omega)
 have h512:sizeN f<=512:=by omega
 refine⟨⟨h4,h3,h5,h2,λb hb=>?_⟩,h512⟩;have hb512:Ex b<=sizeN f:=gh _ hb;simp only[Ex]at hb512;exact⟨h7 b hb,by omega,by omega,λo ho=>(hf.op b hb o ho).2⟩
theorem ML(f:TFunc)(hf:UR f):∃ sm,C9 f=some sm/\(sm=true->Q1 f=true->OkF f/\sizeN f<=512/\1<=f.Blocks.length):=by
 obtain⟨sm,h⟩:=SK f hf;refine⟨sm,h,λh1 h2=>?_⟩;obtain⟨q1,q2⟩:=mC h2;rw[eR f hf q1 q2]at h;obtain⟨r1,r2⟩:=xB hf h2 (by grind);exact⟨r1,r2,(JP h2).1⟩
def OK(l:Int):Int:=bif l==0 then 17 else bif l==1 then 20 else 22
def Ls(l:Int)(o:TOp):Bool:=Gs o&&!decide (OK l<o.Kind)&&!(decide (l<2)&&decide (1<o.Lanes))
def Fz(l:Int)(b:Ae):Bool:=(b.Phis.all λp=>widthB p.Bits)&&b.Ops.all (Ls l)
def N8(f:TFunc)(l:Int):Bool:=f.Params.all widthB&&f.Blocks.all (Fz l)&&widthB f.Ret
theorem uD{m a b c:Bool}{x:Int}:(bif (bif (bif (!m) then true else a) then true else(bif b then c else false)) then(some (LR.done (Sum.inr false))) else some (LR.next x):Option (LR Int (Unit ⊕ Bool)))=some (bif (m&&!a&&!(b&&c)) then .next x else .done (.inr false)):=by
 grind
theorem mO{f:TFunc}(hf:OkF f){b:Ae}(hb:b∈f.Blocks){o:TOp}(ho:o∈b.Ops):cC o:=by
 have h1:=hf.block b hb;have h2:=(blockB_iff.1 h1.may).2.1 o ho;simp only[fC,A6]at h2;exact⟨⟨(h1.imm o ho).1,(h1.imm o ho).2⟩,by have:=(listB_iff.1 h2.2).2;omega⟩
theorem tn{f:TFunc}(hf:OkF f)(l:Int):J5 f l=some (N8 f l):=by
 have hp:=Hk f.Params (0:Int) widthB (Fn f) (.inl ()) (.inr false) (λi hi hp=>by
   unfold Fn
   have:decide ((i:Int)<(f.Params.length:Int))=true:=by simpa using hi
   simp only[this,Ah,Aa (Ai hi),C5,Sg,An,hp,Dq,Aw,A0 hi (by have:=hf.few;omega)]) (λi hi hp=>by
   unfold Fn
   have:decide ((i:Int)<(f.Params.length:Int))=true:=by simpa using hi
   simp only[this,Ah,Aa (Ai hi),C5,Sg,An,hp,J9]) (by
   unfold Fn;simp) f.Params.length 0 (by omega)
 have hb:=Hk f.Blocks (default:Ae) (Fz l) (Fo f l) (.inl ()) (.inr false)
 have hphi:∀ i:Nat,i<f.Blocks.length->Ac (D4 f (i:Int)) (0:Int)=some _:=λi hi=>by
  have hB:=hf.block _ (Ag (d:=(default:Ae)) hi)
  have:=Hk (f.Blocks.getD i default).Phis (default:TPhi) (λp=>widthB p.Bits) (D4 f (i:Int)) (.inl ()) (.inr false) (λj hj hp=>by
   unfold D4
   have:decide ((j:Int)<((f.Blocks.getD i default).Phis.length:Int))=true:=by simpa using hj
   simp only[Aa (Ai hi),C5,this,Ah,Aa (Ai hj),Sg,An,hp,Dq,Aw,A0 hj (by have:=hB.phis;omega)]) (λj hj hp=>by
   unfold D4
   have:decide ((j:Int)<((f.Blocks.getD i default).Phis.length:Int))=true:=by simpa using hj
   simp only[Aa (Ai hi),C5,this,Ah,Aa (Ai hj),Sg,An,hp,J9]) (by
   unfold D4;simp[Aa (Ai hi)]) (f.Blocks.getD i default).Phis.length 0 (by omega)
  rw[show(0:Int)=((0:Nat):Int) from rfl,this,Oc]
 have hops:∀ i:Nat,i<f.Blocks.length->Ac (D5 f l (i:Int)) (0:Int)=some _:=λi hi=>by
  have hmem:=Ag (d:=(default:Ae)) hi;have hB:=hf.block _ hmem
  have key:∀(j:Nat),j<(f.Blocks.getD i default).Ops.length->D5 f l (i:Int) (j:Int)=some (bif Ls l ((f.Blocks.getD i default).Ops.getD j default) then .next ((j:Int)+1) else .done (.inr false)):=λj hj=>by
   unfold D5
   have hd:decide ((j:Int)<((f.Blocks.getD i default).Ops.length:Int))=true:=by simpa using hj
   have hok:=mO hf hmem (Ag (d:=(default:TOp)) hj);simp only[Aa (Ai hi),C5,hd,Ah,Aa (Ai hj),A0 hj (by have:=hB.ops;omega)];unfold Ls OK;cases h1:(l==1)<;>cases h0:(l==0)<;>simp only[Ah,Aw,An,bV _ hok,uD]
  have:=Hk (f.Blocks.getD i default).Ops (default:TOp) (Ls l) (D5 f l (i:Int)) (.inl ()) (.inr false) (λj hj hp=>by rw[key j hj,hp];rfl) (λj hj hp=>by rw[key j hj,hp];rfl) (by
   unfold D5;simp[Aa (Ai hi)]) (f.Blocks.getD i default).Ops.length 0 (by omega)
  rw[show(0:Int)=((0:Nat):Int) from rfl,this,Oc]
 have hb':=hb (λi hi hp=>by
   unfold Fo
   have:decide ((i:Int)<(f.Blocks.length:Int))=true:=by simpa using hi
   simp only[Fz,A6]at hp
   simp only[this,Ah,hphi i hi,hops i hi,hp.1,hp.2,An,A0 hi (by have:=hf.blocks;omega)]) (λi hi hp=>by
   unfold Fo
   have:decide ((i:Int)<(f.Blocks.length:Int))=true:=by simpa using hi
   simp only[Fz]at hp;simp only[this,Ah,hphi i hi,hops i hi,An]
   cases h1:((f.Blocks.getD i default).Phis.all λp=>widthB p.Bits) with
   | false=>rfl
   | true=>grind) (by
   unfold Fo;simp) f.Blocks.length 0 (by omega)
 unfold J5 N8;rw[show(0:Int)=((0:Nat):Int) from rfl,hp,hb',Oc,Oc]
 cases f.Params.all widthB<;>cases f.Blocks.all (Fz l)<;>simp[Sg]
end
end Go.Proofs.YtfhggcbcamamdaaGreat
