/-
  The machine, the program's functions and the laws' arithmetic: part 4 of 6.
-/
import Derived.Test.YtfhggcbcamamdaaGreatPk3
import Derived.OpenShut
import Derived.ShutString
set_option linter.unusedSectionVars false
set_option linter.unusedVariables false
set_option linter.unusedSimpArgs false
namespace Go.Proofs.YtfhggcbcamamdaaGreat
noncomputable section
open Go Go.RowKit
set_option maxRecDepth 100000
set_option maxHeartbeats 2000000
def Gz(a0:TFunc)(i4:Int):Int->Option (LR Int (Unit ⊕ Bool)):=
 λ(i6:Int)=>(bif (decide (i6<(((a0.Blocks.getD i4.toNat default).Phis).length:Int))) then(Az (A2 i6 ((a0.Blocks.getD i4.toNat default).Phis).length) ((Bp ((((a0.Blocks.getD i4.toNat default).Phis).getD i6.toNat default).Bits)).bind λx8=>((bif ((!x8)==false) then Bp ((((a0.Blocks.getD i4.toNat default).Phis).getD i6.toNat default).Dst) else some false).bind λx9=>((bif ((bif (!x8) then true else(!x9))==false) then Dr ((((a0.Blocks.getD i4.toNat default).Phis).getD i6.toNat default).From) else some false).bind λx10=>((bif ((bif (bif (!x8) then true else(!x9)) then true else(!x10))==false) then Dr ((((a0.Blocks.getD i4.toNat default).Phis).getD i6.toNat default).Args) else some false).bind λx11=>(bif (bif (bif (bif (!x8) then true else(!x9)) then true else(!x10)) then true else(!x11)) then(some (.done (.inr false))) else(some (.next (w64 (i6+1)))))))))) else(some (.done (.inl ()))))
def G0(a0:TFunc)(i4:Int):Int->Option (LR Int (Unit ⊕ Bool)):=
 λ(i14:Int)=>(bif (decide (i14<(((a0.Blocks.getD i4.toNat default).Ops).length:Int))) then(Az (A2 i14 ((a0.Blocks.getD i4.toNat default).Ops).length) ((Bp ((((a0.Blocks.getD i4.toNat default).Ops).getD i14.toNat default).Kind)).bind λx16=>((bif ((!x16)==false) then Bp ((((a0.Blocks.getD i4.toNat default).Ops).getD i14.toNat default).Bits) else some false).bind λx17=>((bif ((bif (!x16) then true else(!x17))==false) then Bp ((((a0.Blocks.getD i4.toNat default).Ops).getD i14.toNat default).Lanes) else some false).bind λx18=>((bif ((bif (bif (!x16) then true else(!x17)) then true else(!x18))==false) then Bp ((((a0.Blocks.getD i4.toNat default).Ops).getD i14.toNat default).Dst) else some false).bind λx19=>((bif ((bif (bif (bif (!x16) then true else(!x17)) then true else(!x18)) then true else(!x19))==false) then Dr ((((a0.Blocks.getD i4.toNat default).Ops).getD i14.toNat default).Args) else some false).bind λx20=>(bif (bif (bif (bif (bif (!x16) then true else(!x17)) then true else(!x18)) then true else(!x19)) then true else(!x20)) then(some (.done (.inr false))) else(some (.next (w64 (i14+1))))))))))) else(some (.done (.inl ()))))
def E4(a0:TFunc):Int->Option (LR Int (Unit ⊕ Bool)):=
 λ(i4:Int)=>(bif (decide (i4<(a0.Blocks.length:Int))) then(Az (A2 i4 a0.Blocks.length) ((Ac (Gz a0 i4) (0:Int)).bind (λx12=>(match x12 with|(.inl _)=>((Ac (G0 a0 i4) (0:Int)).bind (λx21=>(match x21 with|(.inl _)=>((Bp ((a0.Blocks.getD i4.toNat default).End.Kind)).bind λx23=>((bif ((!x23)==false) then Bp ((a0.Blocks.getD i4.toNat default).End.Arg) else some false).bind λx24=>((bif ((bif (!x23) then true else(!x24))==false) then Dr ((a0.Blocks.getD i4.toNat default).End.To) else some false).bind λx25=>(bif (bif (bif (!x23) then true else(!x24)) then true else(!x25)) then(some (.done (.inr false))) else(some (.next (w64 (i4+1))))))))|(.inr r26)=>(some (.done (.inr r26))))))|(.inr r27)=>(some (.done (.inr r27))))))) else(some (.done (.inl ()))))
def On(Γ:H4)(a0:TFunc)(r:Bool):Exit->St->Prop:=fK Tryz.prog Γ Tryz.f51.results.toList [] (.bool r) []
def bq(x8:Bool)(x9:Bool):=(bif (!x8) then true else(!x9))
def mq(a0:TFunc):=((a0.Blocks.length:Int)==0)
def mp(a0:TFunc):=(bif (bif (mq a0) then true else(decide ((64:Int)<(a0.Blocks.length:Int)))) then true else(decide ((16:Int)<(a0.Params.length:Int))))
def br(a0:TFunc)(x1:Bool):=(bif (mp a0) then true else(!x1))
def vI(x23:Bool)(x24:Bool):=((bif (!x23) then true else(!x24))==false)
def Aab(a0:TFunc)(i4:Int):=(a0.Blocks.getD i4.toNat default)
def Aay(a0:TFunc)(i4:Int)(i14:Int):=(((Aab a0 i4).Ops).getD i14.toNat default)
def bp(x16:Bool)(x17:Bool)(x18:Bool):=(bif (bif (!x16) then true else(!x17)) then true else(!x18))
def Aac(a0:TFunc):=((bif (mq a0) then true else(decide ((64:Int)<(a0.Blocks.length:Int))))==false)
def Iv(a0:TFunc):Option Bool:=
 ((bif ((bif (bif ((a0.Blocks.length:Int)==0) then true else(decide ((64:Int)<(a0.Blocks.length:Int)))) then true else(decide ((16:Int)<(a0.Params.length:Int))))==false) then Dr a0.Params else some false).bind λx1=>((bif ((bif (bif (bif ((a0.Blocks.length:Int)==0) then true else(decide ((64:Int)<(a0.Blocks.length:Int)))) then true else(decide ((16:Int)<(a0.Params.length:Int)))) then true else(!x1))==false) then Bp a0.Ret else some false).bind λx2=>((bif ((bif (bif (bif (bif ((a0.Blocks.length:Int)==0) then true else(decide ((64:Int)<(a0.Blocks.length:Int)))) then true else(decide ((16:Int)<(a0.Params.length:Int)))) then true else(!x1)) then true else(!x2))==false) then Ew a0 else some (0:Int)).bind λx3=>(bif (bif (bif (bif (bif (bif ((a0.Blocks.length:Int)==0) then true else(decide ((64:Int)<(a0.Blocks.length:Int)))) then true else(decide ((16:Int)<(a0.Params.length:Int)))) then true else(!x1)) then true else(!x2)) then true else(decide ((512:Int)<x3))) then(some false) else((Ac (E4 a0) (0:Int)).bind (λx28=>(match x28 with|(.inl _)=>(some true)|(.inr r30)=>(some r30))))))))
variable{v0:TFunc}{v3:Bool}
theorem BJ(h:Iv v0=some v3):sP 51 [(V0 v0)] [] (.bool v3) []:=
 sG Tryz.func51 λΓ q=>Af q [1] [1] (tB h λx1 y1 h=>tB h λx2 y2 h=>tB h λx3 y3 h=>tT q [1,41] [1] [(Z2 x1),(Z2 x2),(UI x3)] (Yt ((mq v0)==false) (ci (Ly (mq v0)) (Yt (Aac v0) (ci (Ly (bif (mq v0) then true else(decide ((64:Int)<(v0.Blocks.length:Int))))) (Mt ((mp v0)==false) (UJ (λ(hg:((mp v0)==false)=true)=>(Hq (Bf hg y1))) (gI ((mp v0)==false)) (Ly (mp v0)) (Mt ((br v0 x1)==false) (c7 (λ(hg:((br v0 x1)==false)=true)=>(Ci (Bf hg y2))) (gI ((br v0 x1)==false)) (Ly (br v0 x1)) (gI ((bif (br v0 x1) then true else(!x2))==false)) (λ(hg:((bif (br v0 x1) then true else(!x2))==false)=true)=>(Mz (Bf hg y3))) (gI ((bif (br v0 x1) then true else(!x2))==false)) (Ly (bif (br v0 x1) then true else(!x2))))))))))) (gC h (λh=>Af q [2] [] (tS h (Cd []))) λh=>Af q L5 [1] (tL q h L5 [1] (λu i4=>(Cp u [(3,(Z5 i4))] [])) (λu x_=>match x_ with|(.inl _)=>aG Γ (.exit 0) (⟨[],[],[]⟩:St)|(.inr r_)=>aR (On Γ v0 r_)) (λi4 y h=>Af q [1,3,46] [1] (gC h (λh=>tV q J6 P2 h λh=>Af q L4 P2 (tL q h L4 P2 (λu i6=>(Cp u [(5,(Z5 i6))] [])) (λu x_=>match x_ with|(.inl _)=>aG Γ (.exit 2) (Nh J6 P2 u [] [])|(.inr r_)=>aR (On Γ v0 r_)) (λi6 y h=>Af q [1,3,4,5,58] P2 (gC h (λh=>tV q Sj [1,4,6] h λh=>tB h λx8 y8 h=>tB h λx9 y9 h=>tB h λx10 y10 h=>tB h λx11 y11 h=>tT q [1,3,4,5,87] P2 [(Z2 x8),(Z2 x9),(Z2 x10),(Z2 x11)] (ci (Ci y8) (Mt ((!x8)==false) (UJ (λ(hg:((!x8)==false)=true)=>(Ci (Bf hg y9))) (gI ((!x8)==false)) (Ly (!x8)) (Mt ((bq x8 x9)==false) (UJ (λ(hg:((bq x8 x9)==false)=true)=>(Hq (Bf hg y10))) (gI ((bq x8 x9)==false)) (Ly (bq x8 x9)) (Mt ((bif (bq x8 x9) then true else(!x10))==false) (c3 (λ(hg:((bif (bq x8 x9) then true else(!x10))==false)=true)=>(Hq (Bf hg y11))) (gI ((bif (bq x8 x9) then true else(!x10))==false)) (Ly (bif (bq x8 x9) then true else(!x10)))))))))) (gC h (λh=>Af q [2] [] (tS h (gO (Ll (H5 [] (Le.refl _ _)))))) λh=>Af q L4 P2 (tN h))) λh=>tS h (gO (Be (Bj J6 P2 q))))) λx12 h=>(match x12,h with | .inl _,h=>gA (Af q [1,3,4,7] P2 (tL q h [1,3,4,7] P2 (λu i14=>(Cp u [(7,(Z5 i14))] [])) (λu x_=>match x_ with|(.inl _)=>aG Γ (.exit 4) (Nh J6 P2 u [] [])|(.inr r_)=>aR (On Γ v0 r_)) (λi14 y h=>Af q [1,3,4,7,92] P2 (gC h (λh=>tV q [1,3,4,7,8] [1,4,8] h λh=>tB h λx16 y16 h=>tB h λx17 y17 h=>tB h λx18 y18 h=>tB h λx19 y19 h=>tB h λx20 y20 h=>tT q [1,3,4,7,127] P2 [(Z2 x16),(Z2 x17),(Z2 x18),(Z2 x19),(Z2 x20)] (ci (Ci y16) (Mt ((!x16)==false) (UJ (λ(hg:((!x16)==false)=true)=>(Ci (Bf hg y17))) (gI ((!x16)==false)) (Ly (!x16)) (Mt ((bif (!x16) then true else(!x17))==false) (UJ (λ(hg:((bif (!x16) then true else(!x17))==false)=true)=>(Ci (Bf hg y18))) (gI ((bif (!x16) then true else(!x17))==false)) (Ly (bif (!x16) then true else(!x17))) (Mt ((bp x16 x17 x18)==false) (UJ (λ(hg:((bp x16 x17 x18)==false)=true)=>(Ci (Bf hg y19))) (gI ((bp x16 x17 x18)==false)) (Ly (bp x16 x17 x18)) (Mt ((bif (bp x16 x17 x18) then true else(!x19))==false) (c3 (λ(hg:((bif (bp x16 x17 x18) then true else(!x19))==false)=true)=>(Hq (Bf hg y20))) (gI ((bif (bp x16 x17 x18) then true else(!x19))==false)) (Ly (bif (bp x16 x17 x18) then true else(!x19)))))))))))) (gC h (λh=>Af q [2] [] (tS h (gO (Ll (H5 [] (Le.refl _ _)))))) λh=>Af q [1,3,4,7] P2 (tN h))) λh=>tS h (gO (Be (Bj J6 P2 q))))) λx21 h=>(match x21,h with | .inl _,h=>gA (tB h λx23 y23 h=>tB h λx24 y24 h=>tB h λx25 y25 h=>tT q [1,3,146] [1] [(Z2 x23),(Z2 x24),(Z2 x25)] (ci (Ci y23) (Yt ((!x23)==false) (UJ (λ(hg:((!x23)==false)=true)=>(Ci (Bf hg y24))) (gI ((!x23)==false)) (Ly (!x23)) (Yt (vI x23 x24) (c3 (λ(hg:(vI x23 x24)=true)=>(Hq (Bf hg y25))) (gI (vI x23 x24)) (Ly (bif (!x23) then true else(!x24)))))))) (gC h (λh=>Af q [2] [] (tS h (gO (Ll (H5 [] (Le.refl _ _)))))) λh=>Af q L5 [1] (tN h))) | .inr r26,h=>Oz (λst' hk=>tS h (gO (Ll hk)))))) | .inr r27,h=>Oz (λst' hk=>tS h (gO (Ll hk)))))) λh=>tS h (gO (Be (Bj [] [] q))))) λx28 h=>(match x28,h with | .inl _,h=>gA (Af q [2] [] (tS h (Cd []))) | .inr r30,h=>Oz (λst' hk=>tS h (gK hk))))))
def G1(aS:Ar)(aD:Int):Int->Option (LR Int (Unit ⊕ Bool)):=
 λ(i1:Int)=>(bif (decide (i1<(aS.length:Int))) then(Az (A2 i1 aS.length) (bif ((aS.getD i1.toNat 0)==aD) then(some (.done (.inr true))) else(some (.next (w64 (i1+1)))))) else(some (.done (.inl ()))))
def DX(Γ:H4)(aS:Ar)(aD:Int)(r:Bool):Exit->St->Prop:=fK Tryz.prog Γ Tryz.f32.results.toList [] (.bool r) []
def Ha(aS:Ar)(aD:Int):Option Bool:=
 ((Ac (G1 aS aD) (0:Int)).bind (λx3=>(match x3 with|(.inl _)=>(some false)|(.inr r5)=>(some r5))))
variable{v1:Int}{v2:Ar}
theorem Ny(h:Ha v2 v1=some v3):sP 32 [(Z6 v2),(Z5 v1)] [] (.bool v3) []:=
 sG Tryz.func32 λΓ q=>tW q Gn [] Nd [] (tL q h Nd [] (λu i1=>(Cp u [(5,(Z5 i1))] [])) (λu x_=>match x_ with|(.inl _)=>aG Γ (.exit 0) (⟨[],[],[]⟩:St)|(.inr r_)=>aR (DX Γ v2 v1 r_)) (λi1 y h=>Af q [0,1,5,9] [] (gC h (λh=>tV q [0,1,5,17] [] h λh=>gC h (λh=>Af q [4] [] (tS h (gO (Ll (H5 [] (Le.refl _ _)))))) λh=>Af q Nd [] (tN h)) λh=>tS h (gO (Be (Bj [] [] q))))) λx3 h=>(match x3,h with | .inl _,h=>gA (Af q [4] [] (tS h (Cd []))) | .inr r5,h=>Oz (λst' hk=>tS h (gK hk))))
abbrev xH:=(LR Int (Unit ⊕ (TGraph×Int)))
def Ef(a6:Li)(i1:Int):Int->Option xH:=
 λ(i2:Int)=>(Az (A2 i1 a6.length) (bif (decide (i2<((a6.getD i1.toNat []).length:Int))) then(Az (A2 i1 a6.length) (Az (A2 i2 (a6.getD i1.toNat []).length) (Az (((decide (((a6.getD i1.toNat []).getD i2.toNat 0)<0))==false)=true->(A2 i1 a6.length)) (Az (((decide (((a6.getD i1.toNat []).getD i2.toNat 0)<0))==false)=true->(A2 i2 (a6.getD i1.toNat []).length)) (Az ((((bif (decide (((a6.getD i1.toNat []).getD i2.toNat 0)<0)) then true else(decide ((a6.length:Int)<=((a6.getD i1.toNat []).getD i2.toNat 0))))==false)&&((decide ((0:Int)<i2))==true))=true->(A2 i1 a6.length)) (Az ((((bif (decide (((a6.getD i1.toNat []).getD i2.toNat 0)<0)) then true else(decide ((a6.length:Int)<=((a6.getD i1.toNat []).getD i2.toNat 0))))==false)&&((decide ((0:Int)<i2))==true))=true->(A2 i2 (a6.getD i1.toNat []).length)) (Az ((((bif (decide (((a6.getD i1.toNat []).getD i2.toNat 0)<0)) then true else(decide ((a6.length:Int)<=((a6.getD i1.toNat []).getD i2.toNat 0))))==false)&&((decide ((0:Int)<i2))==true))=true->(A2 i1 a6.length)) (Az ((((bif (decide (((a6.getD i1.toNat []).getD i2.toNat 0)<0)) then true else(decide ((a6.length:Int)<=((a6.getD i1.toNat []).getD i2.toNat 0))))==false)&&((decide ((0:Int)<i2))==true))=true->(A2 (w64 (i2-1)) (a6.getD i1.toNat []).length)) (bif (bif (bif (decide (((a6.getD i1.toNat []).getD i2.toNat 0)<0)) then true else(decide ((a6.length:Int)<=((a6.getD i1.toNat []).getD i2.toNat 0)))) then true else(bif (decide ((0:Int)<i2)) then(decide (((a6.getD i1.toNat []).getD i2.toNat 0)<=((a6.getD i1.toNat []).getD (w64 (i2-1)).toNat (0:Int)))) else false)) then(some (.done (.inr ((⟨([]:Li),([]:Li)⟩:TGraph),(5:Int))))) else(some (.next (w64 (i2+1))))))))))))) else(some (.done (.inl ())))))
def Gd(a6:Li):Int->Option xH:=
 λ(i1:Int)=>(bif (decide (i1<(a6.length:Int))) then((Ac (Ef a6 i1) (0:Int)).bind (λx12=>(match x12 with|(.inl _)=>(some (.next (w64 (i1+1))))|(.inr r14)=>(some (.done (.inr r14)))))) else(some (.done (.inl ()))))
def Ih(a6:Li)(i18:Int):rS->Option yT6:=
 λ((i21,l22):rS)=>(bif (decide (i21<(a6.length:Int))) then(Option.bind (α:=Li) (Az (A2 i21 a6.length) ((Ha (a6.getD i21.toNat []) i18).bind λx26=>(bif x26 then(Az (A2 i18 l22.length) (Az (A2 i18 l22.length) (Az ((l22.getD i18.toNat []).length+([i21]:Ar).length<=room) (Az (A2 i18 l22.length) (some (l22.set i18.toNat ((l22.getD i18.toNat [])++([i21]:Ar)))))))) else(some l22)))) (λx31=>(some (.next ((w64 (i21+1)),x31))))) else(some (.done l22)))
def Eg(a6:Li):rS->Option yT6:=
 λ((i18,l19):rS)=>(bif (decide (i18<(a6.length:Int))) then((Ac (Ih a6 i18) ((0:Int),l19)).bind (λx33=>(some (.next ((w64 (i18+1)),x33))))) else(some (.done l19)))
def R3(Γ:H4)(a6:Li)(r:mT):Exit->St->Prop:=fK Tryz.prog Γ Tryz.f67.results.toList [] (.tuple (rN r.1 r.2)) []
def V4(a6:Li):AV:=(NR a6)
def rZ(a6:Li):AV:=(.int .i64 (a6.length:Int))
def rY(a6:Li)(i1:Int)(i2:Int):=((bif (decide (((a6.getD i1.toNat []).getD i2.toNat 0)<0)) then true else(decide ((a6.length:Int)<=((a6.getD i1.toNat []).getD i2.toNat 0))))==false)
def Aad(i2:Int):=((decide ((0:Int)<i2))==true)
def kR(a6:Li)(i1:Int)(i2:Int):=((rY a6 i1 i2)&&(Aad i2))
def kQ:List MP:=[Uj,(3,(.int .i64 (5:Int)))]
def ZA(l22:Li)(i18:Int)(i21:Int):=((l22.getD i18.toNat [])++([i21]:Ar))
def xh:AV:=Z83
def e8(a6:Li):=(List.replicate (a6.length:Int).toNat ([]:Ar))
def NC:List AV:=[Zz,Zz]
def rf(a6:Li):List MP:=[(0,(V4 a6)),Uj,(4,(rZ a6)),(7,(.ptr 7 0))]
def vK(a6:Li)(i1:Int)(i2:Int):=((decide (((a6.getD i1.toNat []).getD i2.toNat 0)<0))==false)
def bs:List AV:=[xT,xT]
def re(a6:Li)(i18:Int)(i21:Int):List MP:=[(0,(V4 a6)),Uj,(4,(rZ a6)),(7,(.ptr 7 0)),(8,(Z5 i18)),(9,(Z5 i21))]
def H3(a6:Li):Option mT:=
 (bif (bif ((a6.length:Int)==0) then true else(decide ((64:Int)<(a6.length:Int)))) then(some ((⟨([]:Li),([]:Li)⟩:TGraph),(5:Int))) else((Ac (Gd a6) (0:Int)).bind (λx15=>(match x15 with|(.inl _)=>(Az (0<=(a6.length:Int)/\(a6.length:Int)<=(a6.length:Int)/\(a6.length:Int)<=(room:Int)) ((Ac (Eg a6) ((0:Int),(List.replicate (a6.length:Int).toNat ([]:Ar)))).bind (λx35=>(some ((⟨a6,x35⟩:TGraph),(0:Int))))))|(.inr r37)=>(some r37)))))
variable{v14:Li}{v16:mT}
theorem Rd(h:H3 v14=some v16):sP 67 [(NR v14)] [] (.tuple (rN v16.1 v16.2)) []:=
 sG Tryz.func67 λΓ q=>have hΓ:=q.own;tW q [0,2] [2] [0,2,4] [2] (tU q [0,2,4,17] [2] (c2 (gI (((v14.length:Int)==0)==false)) (Ly ((v14.length:Int)==0))) (gC h (λh=>gR q C0 [2] [(18,(.agg bs))] [] (c1 (show(AVle (.agg NC) (.agg bs)) from(AVle.agg (.cons Ej (.cons Ej .nil))))) (P7 (⟨kQ,[(Pq 56 bs)],[]⟩:St) (tS h (gK (e:=.ret) (H5 [] (show Le Γ _ (⟨kQ,[(mZ xh)],[]⟩:St) from Le.trans (Bj (st':=⟨kQ,[(Pq 56 bs)],[]⟩) C0 [2] q) (I7 (.cons (AVle.refl _) (.cons (AVle.refl _) .nil)) (.row (.cons AVle.untag (.cons AVle.untag .nil)) .nil)))))))) λh=>Af q TQ [2] (tL q h TQ [2] (λu i1=>(Cp u [(5,(Z5 i1))] [])) (λu x_=>match x_ with|(.inl _)=>aG Γ (.exit 0) (Nh [0,2,4] [2] u [] [])|(.inr r_)=>aR (R3 Γ v14 r_)) (λi1 y h=>Af q [0,2,4,5,21] [2] (gC h (λh=>Af q iX [2] (tL q h iX [2] (λu i2=>(Cp u [(6,(Z5 i2))] [])) (λu x_=>match x_ with|(.inl _)=>aG Γ (.exit 2) (Nh TQ [2] u [] [])|(.inr r_)=>aR (R3 Γ v14 r_)) (λi2 y h=>tV q [0,2,4,5,6,30] [2] h λh=>gC h (λh=>tC h λc4_ h=>tC h λc5_ h=>tC h λc6_ h=>tC h λc7_ h=>tC h λc8_ h=>tC h λc9_ h=>tC h λc10_ h=>tC h λc11_ h=>tU q [0,2,4,5,6,73] [2] (fe c4_ c5_ (Mt (vK v14 i1 i2) (ci c6_ (Yt (vK v14 i1 i2) (ci c7_ (Yt (vK v14 i1 i2) (ci (Ly (decide (((v14.getD i1.toNat []).getD i2.toNat 0)<0))) (Mt (rY v14 i1 i2) (Mt (kR v14 i1 i2) (ci c8_ (Yt (kR v14 i1 i2) (ci c9_ (Yt (kR v14 i1 i2) (ci c10_ (LM (kR v14 i1 i2) (ci c11_ (Yt (kR v14 i1 i2) (c3 (gI (rY v14 i1 i2)) (show((rY v14 i1 i2)=true->((decide ((0:Int)<i2))=true->(kR v14 i1 i2)=true)) from(λhg=>(aT hg))) (Ly (bif (decide (((v14.getD i1.toNat []).getD i2.toNat 0)<0)) then true else(decide ((v14.length:Int)<=((v14.getD i1.toNat []).getD i2.toNat 0))))))))))))))))))))))) (gC h (λh=>gR q C0 [2] [(74,(.agg bs))] [] (c1 (show(AVle (.agg NC) (.agg bs)) from(AVle.agg (.cons Ej (.cons Ej .nil))))) (P7 (⟨kQ,[(Pq 56 bs)],[]⟩:St) (tS h (gO (Ll (H5 [] (show Le Γ _ (⟨kQ,[(mZ xh)],[]⟩:St) from Le.trans (Bj (st':=⟨kQ,[(Pq 56 bs)],[]⟩) C0 [2] q) (I7 (.cons (AVle.refl _) (.cons (AVle.refl _) .nil)) (.row (.cons AVle.untag (.cons AVle.untag .nil)) .nil))))))))) λh=>Af q iX [2] (tN h))) λh=>tS h (gO (Be (Bj TQ [2] q)))) λx12 h=>(match x12,h with | .inl _,h=>gA (Af q TQ [2] (tN h)) | .inr r14,h=>Oz (λst' hk=>tS h (gO (Ll hk)))))) λh=>tS h (gO (Be (Bj [0,2,4] [2] q))))) λx15 h=>(match x15,h with | .inl _,h=>gA (tV q [0,2,4,7] [2,7,77] h λh=>P7 (⟨(rf v14),[(Pq 56 NC),(7,.row 56 [(V4 v14),(.vsl 77 (v14.length:Int).toNat)]),(77,.arr 1 22 ((v14.length:Int).toNat) (λi_=>AV.eraseAll (λn_=>Bx n_ [2,7,77]) ((λ_=>[Zz]) i_)))],[]⟩:St) (gLe (Le.trans (I7 (st':=⟨(rf v14),[(Pq 56 NC),(7,.row 56 [(V4 v14),(.vsl 77 (v14.length:Int).toNat)]),(77,.arr 1 22 ((v14.length:Int).toNat) (Ot 1 Aq (0:Int) (e8 v14) (λ_=>.exact)))],[]⟩) (TmpsLe.refl _) (.same (.same (.arr cf .nil)))) (Le.trans (Le.trans (cw (r:=77) (b:=70077) Aq (0:Int) (e8 v14) 3 rfl rfl (N7 ..).symm (λh_=>absurd h_ (by decide))) (Gt (st':=⟨(rf v14),[(Pq 56 NC),(7,.row 56 [(V4 v14),(.vsl 77 (v14.length:Int).toNat)]),(77,.arr 1 22 ((v14.length:Int).toNat) (Ot 1 Aq (0:Int) (e8 v14) (Tag.fam 70077)))],[(70077,⟨1,3,Nl (e8 v14)⟩)]⟩) (by kernel_rfl))) (Gt (Bk (λk_:Nat=>(⟨(rf v14),[(Pq 56 NC),(nW (V4 v14) k_),(cA 77 k_ (e8 v14) 70077)],[(70077,⟨1,3,Nl (e8 v14)⟩)]⟩:St)) (show(v14.length:Int).toNat=(e8 v14).length from(N7 ..).symm))))) (Af q TH Vd (tL q h TH Vd (λu (i18,l19)=>(Cp u [(8,(Z5 i18))] [(nW (V4 v14) l19.length),(cA 77 l19.length l19 70077)] [(70077,⟨1,3,Nl l19⟩)])) (λu l20=>aG Γ (.exit 4) (Nh [2,7] Vd u [] [(nW (V4 v14) l20.length),(cA 77 l20.length l20 70077)] [(70077,⟨1,3,Nl l20⟩)])) (λ⟨i18,l19⟩ y h=>Af q [0,2,4,7,8,81] Vd (gC h (λh=>Af q SY Vd (tL q h SY Vd (λu (i21,l22)=>(Cp u [(9,(Z5 i21))] [(nW (V4 v14) l22.length),(cA 77 l22.length l22 70077)] [(70077,⟨1,3,Nl l22⟩)])) (λu l23=>aG Γ (.exit 6) (Nh TH Vd u [] [(nW (V4 v14) l23.length),(cA 77 l23.length l23 70077)] [(70077,⟨1,3,Nl l23⟩)])) (λ⟨i21,l22⟩ y h=>Af q [0,2,4,7,8,9,86] Vd (gC h (λh=>tB h λx31 y31 h=>gJ y31 (λl24=>aG Γ .normal (⟨(re v14 i18 i21),[(Pq 56 NC),(nW (V4 v14) l24.length),(cA 77 l24.length l24 70077)],[(70077,⟨1,3,Nl l24⟩)]⟩:St)) (λy h=>tC h λc25_ h=>tB h λx26 y26 h=>tT q [0,2,4,7,8,9,94] Vd [(Z2 x26)] (c2 c25_ (Ny y26)) (gC h (λh=>P7 (⟨[(0,(V4 v14)),Uj,(4,(rZ v14)),(7,(.ptr 7 0)),(8,(Z5 i18)),(9,(Z5 i21)),(94,(.bool x26))],[(Pq 56 NC),(nW (V4 v14) l22.length),(cA 77 l22.length l22 70077)],[(70077,⟨1,3,Nl l22⟩)]⟩:St) (tC h λc27_ h=>tC h λc28_ h=>tC h λc29_ h=>tC h λc30_ h=>gLe (Le.trans (jb (r:=77) (b:=70077) (k:=60077) Aq (0:Int) l22 i18.toNat 3 rfl rfl rfl rfl (Qi c27_) (by kernel_rfl) (.row (by kernel_rfl) (.row (by kernel_rfl) (.here .nil)))) (Gt (st':=⟨[(0,(V4 v14)),Uj,(4,(rZ v14)),(7,(.ptr 7 0)),(8,(Z5 i18)),(9,(Z5 i21)),(94,(.bool x26))],[(Pq 56 NC),(nW (V4 v14) l22.length),(77,.arr 1 22 l22.length (Ot 1 Aq (0:Int) l22 (Hs 70077 i18.toNat 60077))),(60077,.tok 1 3 ((l22.getD i18.toNat []).length))],[(70077,⟨1,3,AW l22 i18.toNat⟩)]⟩) (by kernel_rfl))) (gR q SY q8 [(102,(AV.list 1 Aq 0 (l22.getD i18.toNat []) (.own 60077))),(104,(ul i21)),(105,(Vz (ZA l22 i18 i21) 60077))] [] (d9_ c28_ (Eq.refl l22.length) (show(AVle (((Ot 1 Aq (0:Int) l22 (Hs 70077 i18.toNat 60077)) i18.toNat).getD 0 .any) (AV.list 1 Aq 0 (l22.getD i18.toNat []) (.own 60077))) from WE) (Br 1 Aq (0:Int) ([i21]:Ar)) (Eq.refl ((l22.getD i18.toNat []).length)) c29_ (Iy 1 60077 Aq (0:Int) (l22.getD i18.toNat []) ([i21]:Ar)) (E2 (l22.getD i18.toNat []) ([i21]:Ar)) c30_ (c1 (Eq.refl l22.length))) (P7 (⟨(re v14 i18 i21),[(Pq 56 NC),(nW (V4 v14) l22.length),(77,.arr 1 22 l22.length (λi_=>AV.eraseAll (λn_=>Bx n_ q8) ((Fd (Ot 1 Aq (0:Int) l22 (Hs 70077 i18.toNat 60077)) i18.toNat 0 [(Vz (ZA l22 i18 i21) 60077)]) i_))),(60077,.tok 1 3 ((ZA l22 i18 i21).length))],[(70077,⟨1,3,AW l22 i18.toNat⟩)]⟩:St) (tS h (gK (Be (Le.trans (Le.trans (Le.trans (pI (r:=77) (b:=70077) (k:=60077) Aq (0:Int) l22 i18.toNat (ZA l22 i18 i21) 3 rfl (dr (Qi c27_) rfl rfl) rfl rfl rfl rfl (Qi c27_) (by kernel_rfl) (.row (by kernel_rfl) (.row (by kernel_rfl) (.here (.tok .nil)))) (by rw[hΓ];rfl)) (Gt (st':=⟨(re v14 i18 i21),[(Pq 56 NC),(nW (V4 v14) l22.length),(77,.arr 1 22 l22.length (Ot 1 Aq (0:Int) (l22.set i18.toNat (ZA l22 i18 i21)) (Tag.fam 70077)))],[(70077,⟨1,3,Nl (l22.set i18.toNat (ZA l22 i18 i21))⟩)]⟩) (by kernel_rfl))) (Gt (Bk (λk_:Nat=>(⟨(re v14 i18 i21),[(Pq 56 NC),(nW (V4 v14) k_),(77,.arr 1 22 k_ (Ot 1 Aq (0:Int) (l22.set i18.toNat (ZA l22 i18 i21)) (Tag.fam 70077)))],[(70077,⟨1,3,Nl (l22.set i18.toNat (ZA l22 i18 i21))⟩)]⟩:St)) (show l22.length=(l22.set i18.toNat (ZA l22 i18 i21)).length from(Dd ..).symm)))) Ip)))))))) λh=>tS h (gK (Be (Bj SY Vd q))))) (gA (Af q SY Vd (tN h)))) λh=>tS h (gO (Be (Bj TH Vd q))))) λx33 h=>gA (Af q TH Vd (tN h)))) λh=>tS h (gO (Be (Bj [2,7] Vd q))))) λx35 h=>gA (Af q C0 [2,77,70077] (P7 (⟨[Uj,(3,L7)],[(2,.row 56 [(V4 v14),(.vsl 77 x35.length)]),(cA 77 x35.length x35 70077)],[(70077,⟨1,3,Nl x35⟩)]⟩:St) (tS h (gK (e:=.ret) (H5 [] (Le.trans (le_freeze (nm:=77) (sz:=1) (n:=x35.length) (e:=22) (f:=(Ot 1 Aq (0:Int) x35 (Tag.fam 70077))) (g:=(λi=>Lc (x35.getD i []))) rfl ⟨rfl,trivial⟩ (λ_ _=>rfl) (by rw[hΓ];rfl)) (Bj (st':=⟨[Uj,(3,L7)],[(2,.row 56 [(V4 v14),(rM x35 77)]),(77,.tok 1 22 x35.length)],[]⟩) C0 [2,77] q))))))))))) | .inr r37,h=>Oz (λst' hk=>tS h (gK hk))))))
def Fk(a0:TFunc)(i2:Int):Int->Option xH:=
 λ(i6:Int)=>(bif (decide (i6<(((a0.Blocks.getD i2.toNat default).End.To).length:Int))) then(Az (A2 i6 ((a0.Blocks.getD i2.toNat default).End.To).length) (Az (((decide ((((a0.Blocks.getD i2.toNat default).End.To).getD i6.toNat 0)<=0))==false)=true->(A2 i6 ((a0.Blocks.getD i2.toNat default).End.To).length)) (bif (bif (decide ((((a0.Blocks.getD i2.toNat default).End.To).getD i6.toNat 0)<=0)) then true else(decide ((a0.Blocks.length:Int)<=(((a0.Blocks.getD i2.toNat default).End.To).getD i6.toNat 0)))) then(some (.done (.inr ((⟨([]:Li),([]:Li)⟩:TGraph),(5:Int))))) else(some (.next (w64 (i6+1))))))) else(some (.done (.inl ()))))
abbrev uZ:=(Ar×Int)
def Ho(a0:TFunc)(i2:Int):uZ->Option (LR (Ar×Int) Ar):=
 λ((l11,i12):uZ)=>(bif (decide (i12<(a0.Blocks.length:Int))) then(Option.bind (α:=Ar) ((Ha ((a0.Blocks.getD i2.toNat default).End.To) i12).bind λx15=>(bif x15 then(Az (l11.length+([i12]:Ar).length<=room) (some (l11++([i12]:Ar)))) else(some l11))) (λx17=>(some (.next (x17,(w64 (i12+1))))))) else(some (.done l11)))
def Ck(a0:TFunc):(Li×Int)->Option (LR (Li×Int) (Li ⊕ (TGraph×Int))):=
 λ((l1,i2):(Li×Int))=>(bif (decide (i2<(a0.Blocks.length:Int))) then(Az (A2 i2 a0.Blocks.length) (Az (((bif (decide (((a0.Blocks.getD i2.toNat default).End.Kind:Int)<0)) then true else(decide ((3:Int)<(a0.Blocks.getD i2.toNat default).End.Kind)))==false)=true->(A2 (a0.Blocks.getD i2.toNat default).End.Kind ([(0:Int),(1:Int),(2:Int),(0:Int)]:Ar).length)) (bif (bif (bif (decide (((a0.Blocks.getD i2.toNat default).End.Kind:Int)<0)) then true else(decide ((3:Int)<(a0.Blocks.getD i2.toNat default).End.Kind))) then true else((((a0.Blocks.getD i2.toNat default).End.To).length:Int)!=(([(0:Int),(1:Int),(2:Int),(0:Int)]:Ar).getD ((a0.Blocks.getD i2.toNat default).End.Kind).toNat (0:Int)))) then(some (.done (.inr ((⟨([]:Li),([]:Li)⟩:TGraph),(5:Int))))) else((Ac (Fk a0 i2) (0:Int)).bind (λx9=>(match x9 with|(.inl _)=>((Ac (Ho a0 i2) (([]:Ar),(1:Int))).bind (λx19=>(Az (l1.length+([x19]:Li).length<=room) (some (.next ((l1++([x19]:Li)),(w64 (i2+1))))))))|(.inr r22)=>(some (.done (.inr r22))))))))) else(some (.done (.inl l1))))
def Tn(Γ:H4)(a0:TFunc)(r:mT):Exit->St->Prop:=fK Tryz.prog Γ Tryz.f31.results.toList [] (.tuple (rN r.1 r.2)) []
def e9:AV:=Zz
def GK(a0:TFunc)(i2:Int):=(a0.Blocks.getD i2.toNat default)
def FD:AV:=xT
def vN:AV:=(.agg [e9,e9])
def kS:=(⟨[Uj,(3,(.int .i64 (5:Int)))],[(mZ FD)],[]⟩:St)
def vL(a0:TFunc)(i2:Int)(i6:Int):=(decide ((((GK a0 i2).End.To).getD i6.toNat 0)<=0))
def mu(a0:TFunc):List AV:=[(Z6 a0.Params),(Z5 a0.Ret),(UH a0.Blocks)]
def vM:=(⟨[Uj,(3,(.int .i64 (5:Int)))],[(2,.row 56 [Z83,Z83])],[]⟩:St)
def mt(a0:TFunc)(i2:Int):=(bif (decide (((GK a0 i2).End.Kind:Int)<0)) then true else(decide ((3:Int)<(GK a0 i2).End.Kind)))
def xj(a0:TFunc):=(⟨[CU,Uj,(4,(.int .i64 (a0.Blocks.length:Int))),(5,(AV.list 1 Lc [] ([]:Li) (.own 5005))),(6,L7)],[(1,.row 25 (mu a0)),(mZ e9),(5005,.tok 1 22 (([]:Li).length))],[]⟩:St)
def xi(a0:TFunc)(l1:Li)(i2:Int):=(⟨[CU,Uj,(4,(.int .i64 (a0.Blocks.length:Int))),(5,(rM l1 5005)),(6,(Z5 i2)),(7,(.ptr 7 0)),(8,(Z96 5008)),(10,uo)],[(1,.row 25 (mu a0)),(mZ e9),(7,.row 62 [(.int .i64 (GK a0 i2).End.Kind),(.int .i64 (GK a0 i2).End.Arg),(AV.list 1 Aq 0 (GK a0 i2).End.To .none)]),(5005,.tok 1 22 l1.length),(5008,.tok 1 3 (([]:Ar).length))],[]⟩:St)
def Jh(a0:TFunc):Option mT:=
 (bif (bif ((a0.Blocks.length:Int)==0) then true else(decide ((64:Int)<(a0.Blocks.length:Int)))) then(some ((⟨([]:Li),([]:Li)⟩:TGraph),(5:Int))) else((Ac (Ck a0) (([]:Li),(0:Int))).bind (λx23=>(match x23 with|(.inl l3)=>((H3 l3).bind λx25=>(some (x25.1,x25.2)))|(.inr r26)=>(some r26)))))
theorem S1(h:Jh v0=some v16):sP 31 [(V0 v0)] [] (.tuple (rN v16.1 v16.2)) []:=
 sG Tryz.func31 λΓ q=>tW q D7 D7 [1,2,4] D7 (tU q [1,2,4,19] D7 (c2 (gI (((v0.Blocks.length:Int)==0)==false)) (Ly ((v0.Blocks.length:Int)==0))) (gC h (λh=>gR q C0 [2] [(20,(.agg [FD,FD]))] [] (c1 (show(AVle vN (.agg [FD,FD])) from(AVle.agg (.cons Ej (.cons Ej .nil))))) (P7 kS (tS h (gK (e:=.ret) (H5 [] (show Le Γ _ vM from Le.trans (Bj (st':=kS) C0 [2] q) (I7 (.cons (AVle.refl _) (.cons (AVle.refl _) .nil)) (.row (.cons AVle.untag (.cons AVle.untag .nil)) .nil)))))))) λh=>gR q [1,2,4,5] D7 [(5,FD)] [] (c1 (B2 1 Lc [])) (Af q KT D7 (gLe (st':=(xj v0)) (Le.trans (Bj (st':=⟨[CU,Uj,(4,(.int .i64 (v0.Blocks.length:Int))),(5,FD),(6,L7)],[(1,.row 25 (mu v0)),(mZ e9)],[]⟩) KT D7 q) (Le.trans (Ri (t:=5) (nm:=5005) (sz':=1) (λi=>Lc (([]:Li).getD i [])) 22 rfl rfl (.inl ⟨rfl,rfl⟩) (λh_=>absurd h_ (by decide))) (Bj (st':=(xj v0)) KT TR q))) (tL q h KT TR (λu (l1,i2)=>(Cp u [(5,(rM l1 5005)),(6,(Z5 i2))] [(5005,.tok 1 22 l1.length)])) (λu x_=>match x_ with|(.inl l3)=>aG Γ (.exit 0) (Nh Uh [2,5005] u [(5,(rM l3 5005))] [(5005,.tok 1 22 l3.length)])|(.inr r_)=>aR (Tn Γ v0 r_)) (λ⟨l1,i2⟩ y h=>Af q [1,2,4,5,6,23] TR (gC h (λh=>tV q [1,2,4,5,6,7] Zb h λh=>tC h λc5_ h=>gR q [1,2,4,5,6,7,50] Zb [(44,(AV.list 1 Aq 0 ([(0:Int),(1:Int),(2:Int),(0:Int)]:Ar) .exact))] [] (Mt ((decide (((GK v0 i2).End.Kind:Int)<0))==false) (ci (Ly (decide (((GK v0 i2).End.Kind:Int)<0))) (Mt ((mt v0 i2)==false) (ci (show(((mt v0 i2)==false)=true->(AVle (.slice 1 4 (λi=>([[L7],[uo],[(.int .i64 (2:Int))],[L7]]:List (List AV)).getD i []) .exact) (AV.list 1 Aq 0 ([(0:Int),(1:Int),(2:Int),(0:Int)]:Ar) .exact))) from(λhg=>@(Br 1 Aq (0:Int) ([(0:Int),(1:Int),(2:Int),(0:Int)]:Ar)))) (Yt ((mt v0 i2)==false) (ci c5_ (Yt ((mt v0 i2)==false) (c1 (Ly (mt v0 i2)))))))))) (gC h (λh=>gR q C0 [2] [(51,(.agg [FD,FD]))] [] (c1 (show(AVle vN (.agg [FD,FD])) from(AVle.agg (.cons Ej (.cons Ej .nil))))) (P7 kS (tS h (gO (Ll (H5 [] (show Le Γ _ vM from Le.trans (Bj (st':=kS) C0 [2] q) (I7 (.cons (AVle.refl _) (.cons (AVle.refl _) .nil)) (.row (.cons AVle.untag (.cons AVle.untag .nil)) .nil))))))))) λh=>gR q iH Zb [(8,fI)] [] (c1 (B2 1 Aq (0:Int))) (Af q iD Zb (tL q h iD Zb (λu i6=>(Cp u [(9,(Z5 i6))] [])) (λu x_=>match x_ with|(.inl _)=>aG Γ (.exit 2) (Nh iH Zb u [] [])|(.inr r_)=>aR (Tn Γ v0 r_)) (λi6 y h=>Af q [1,2,4,5,6,7,8,9,56] Zb (gC h (λh=>tC h λc7_ h=>tC h λc8_ h=>tU q [1,2,4,5,6,7,8,9,73] Zb (ci c7_ (Yt ((vL v0 i2 i6)==false) (ci c8_ (Yt ((vL v0 i2 i6)==false) (c1 (Ly (vL v0 i2 i6))))))) (gC h (λh=>gR q C0 [2] [(74,(.agg [FD,FD]))] [] (c1 (show(AVle vN (.agg [FD,FD])) from(AVle.agg (.cons Ej (.cons Ej .nil))))) (P7 kS (tS h (gO (Ll (H5 [] (show Le Γ _ vM from Le.trans (Bj (st':=kS) C0 [2] q) (I7 (.cons (AVle.refl _) (.cons (AVle.refl _) .nil)) (.row (.cons AVle.untag (.cons AVle.untag .nil)) .nil))))))))) λh=>Af q iD Zb (tN h))) λh=>tS h (gO (Be (Bj iH Zb q))))) λx9 h=>(match x9,h with | .inl _,h=>gA (Af q UB Zb (gLe (st':=(xi v0 l1 i2)) (Le.trans (Bj (st':=⟨[CU,Uj,(4,(.int .i64 (v0.Blocks.length:Int))),(5,(rM l1 5005)),(6,(Z5 i2)),(7,(.ptr 7 0)),(8,fI),(10,uo)],[(1,.row 25 (mu v0)),(mZ e9),(7,.row 62 [(.int .i64 (GK v0 i2).End.Kind),(.int .i64 (GK v0 i2).End.Arg),(AV.list 1 Aq 0 (GK v0 i2).End.To .none)]),(5005,.tok 1 22 l1.length)],[]⟩) UB Zb q) (Le.trans (Ri (t:=8) (nm:=5008) (sz':=1) (λi=>Aq (([]:Ar).getD i 0)) 3 rfl rfl (.inl ⟨rfl,rfl⟩) (λh_=>absurd h_ (by decide))) (Bj (st':=(xi v0 l1 i2)) UB UC q))) (tL q h UB UC (λu (l11,i12)=>(Cp u [(8,(Vz l11 5008)),(10,(Z5 i12))] [(Yp 5008 l11.length)])) (λu l13=>aG Γ (.exit 4) (Nh [1,2,4,5,6,8] [1,2,5005,5008] u [(8,(Vz l13 5008))] [(Yp 5008 l13.length)])) (λ⟨l11,i12⟩ y h=>Af q [1,2,4,5,6,7,8,10,77] UC (gC h (λh=>tB h λx17 y17 h=>gJ y17 (λl14=>aG Γ .normal (⟨[CU,Uj,(4,(.int .i64 (v0.Blocks.length:Int))),(5,(rM l1 5005)),(6,(Z5 i2)),(7,(.ptr 7 0)),(8,(Vz l14 5008)),(10,(Z5 i12))],[(1,.row 25 (mu v0)),(mZ e9),(7,.row 62 [(.int .i64 (GK v0 i2).End.Kind),(.int .i64 (GK v0 i2).End.Arg),(AV.list 1 Aq 0 (GK v0 i2).End.To .none)]),(5005,.tok 1 22 l1.length),(Yp 5008 l14.length)],[]⟩:St)) (λy h=>tB h λx15 y15 h=>tT q [1,2,4,5,6,7,8,10,83] UC [(Z2 x15)] (c1 (Ny y15)) (gC h (λh=>tC h λc16_ h=>gR q UB UC (wC 86 i12 87 l11 5008) [] (c5 (Br 1 Aq (0:Int) ([i12]:Ar)) (Eq.refl l11.length) c16_ (Iy 1 5008 Aq (0:Int) l11 ([i12]:Ar)) (E2 l11 ([i12]:Ar))) (tS h (gK (Be Ip)))) λh=>tS h (gK (Be (Bj UB UC q))))) (gA (Af q UB UC (tN h)))) λh=>tS h (gO (Be (Bj [1,2,4,5,6,8] [1,2,5005,5008] q))))) λx19 h=>gA (tC h λc21_ h=>gR q KT TR [(90,(AV.list 1 Lc [] ([x19]:Li) .exact)),(91,(AV.list 1 Lc [] (l1++([x19]:Li)) (.own 5005)))] [] (c5 (Br 1 Lc [] ([x19]:Li)) (Eq.refl l1.length) c21_ (Iy 1 5005 Lc [] l1 ([x19]:Li)) (E2 l1 ([x19]:Li))) (Af q KT TR (tN h)))))) | .inr r22,h=>Oz (λst' hk=>tS h (gO (Ll hk)))))))) λh=>tS h (gO (Be (Bj Uh [2,5005] q))))) λx23 h=>(match x23,h with | .inl l3,h=>gA (tB h λx25 y25 h=>tT q C0 [2] [(xV x25.1 x25.2)] (c1 (Rd y25)) (tS h (Cd []))) | .inr r26,h=>Oz (λst' hk=>tS h (gK hk))))))))
def A3(a4:TGraph)(aaB:Int)(i6:Int):Zx->Option bN:=
 λ((i9,l10):Zx)=>(Az (A2 i6 l10.length) (Az (((l10.getD i6.toNat false)==true)=true->(A2 i6 a4.Succ.length)) (bif (bif (l10.getD i6.toNat false) then(decide (i9<((a4.Succ.getD i6.toNat []).length:Int))) else false) then(Option.bind (α:=List Bool) (Az (A2 i6 a4.Succ.length) (Az (A2 i9 (a4.Succ.getD i6.toNat []).length) (bif (((a4.Succ.getD i6.toNat []).getD i9.toNat 0)!=aaB) then(Az (A2 i6 a4.Succ.length) (Az (A2 i9 (a4.Succ.getD i6.toNat []).length) (Az (A2 ((a4.Succ.getD i6.toNat []).getD i9.toNat 0) l10.length) (some (l10.set ((a4.Succ.getD i6.toNat []).getD i9.toNat 0).toNat true))))) else(some l10)))) (λx20=>(some (.next ((w64 (i9+1)),x20))))) else(some (.done l10)))))
def A4(a4:TGraph)(aaB:Int):Zx->Option bN:=
 λ((i6,l7):Zx)=>(bif (decide (i6<(l7.length:Int))) then((Ac (A3 a4 aaB i6) ((0:Int),l7)).bind (λx22=>(some (.next ((w64 (i6+1)),x22))))) else(some (.done l7)))
def A5(a4:TGraph)(aaB:Int):Zx->Option bN:=
 λ((i3,l4):Zx)=>(bif (decide (i3<(l4.length:Int))) then((Ac (A4 a4 aaB) ((0:Int),l4)).bind (λx24=>(some (.next ((w64 (i3+1)),x24))))) else(some (.done l4)))
def xl(l10:List Bool)(i6:Int):=((l10.getD i6.toNat false)==true)
def IW(a4:TGraph):=(List.replicate (a4.Succ.length:Int).toNat false)
def kT(a4:TGraph):=(λi=>eB ((IW a4).getD i false))
def rg(a4:TGraph)(i6:Int)(i9:Int):=((a4.Succ.getD i6.toNat []).getD i9.toNat 0)
def Dc(a4:TGraph)(a2:Int)(aaB:Int):Option (List Bool):=
 (Az (0<=(a4.Succ.length:Int)/\(a4.Succ.length:Int)<=(a4.Succ.length:Int)/\(a4.Succ.length:Int)<=(room:Int)) (bif (a2==aaB) then(some (List.replicate (a4.Succ.length:Int).toNat false)) else(Az (A2 a2 (List.replicate (a4.Succ.length:Int).toNat false).length) ((Ac (A5 a4 aaB) ((0:Int),((List.replicate (a4.Succ.length:Int).toNat false).set a2.toNat true))).bind (λx26=>(some x26))))))
variable{v11:Int}{v18:TGraph}{v33:List Bool}
theorem Mg(h:Dc v18 v1 v11=some v33):sP 96 [(.agg (Xg v18)),(Z5 v1),(Z5 v11)] [] (NQ v33 20000) [(Q6 20000 v33.length)]:=
 sG Tryz.func96 λΓ q=>have hΓ:=q.own;gR q GE [3] [(6,(AV.list 1 eB false ([]:List Bool) .exact))] [] (c1 (B2 1 eB false)) (tV q [1,2,3,7] Lx h λh=>by exact gLe (Le.trans (Sn 14 (show ∀ k_,k_<((v18.Succ.length:Int).toNat)->AVleL ((λi_=>AV.eraseAll (λn_=>Bx n_ Lx) ((λ_=>[(.bool false)]) i_)) k_) ((kT v18) k_) from(λk hk=>M7 (e:=eB) (d:=false) (.cons (AVle.refl _) .nil) _ k (M8 hk)))) (R7 (λ(k_:Nat) u=>(Cp u [(Vi 14 k_)] [(14,.arr 1 4 k_ (kT v18))])) (show(v18.Succ.length:Int).toNat=(IW v18).length from(N7 ..).symm))) (Af q [1,2,3,7,17] Lx (gC h (λh=>Af q [6] [14] (P7 (⟨[(6,(.vsl 14 (IW v18).length))],[(14,.arr 1 4 ((IW v18).length) (kT v18))],[]⟩:St) (tS h (gK (e:=.ret) (H5 [(14,20000)] (Le.trans (le_freeze (nm:=14) (sz:=1) (n:=((IW v18).length)) (e:=4) (f:=(kT v18)) (g:=(kT v18)) rfl ⟨rfl,trivial⟩ (λ_ _=>rfl) (by rw[hΓ];rfl)) (Gt (st':=⟨[(6,(NQ (IW v18) 14))],[(14,.tok 1 4 ((IW v18).length))],[]⟩) (by kernel_rfl)))))))) λh=>tC h λc2_ h=>tU q [2,3,7] Lx (c2 c2_ (Eq.refl ((IW v18).length))) (gLe (Le.trans (Sn 14 (show ∀ k_,k_<((IW v18).length)->AVleL ((λi_=>AV.eraseAll (λn_=>Bx n_ Lx) ((Fd (kT v18) v1.toNat 0 [(.bool true)]) i_)) k_) ((λi=>eB (((IW v18).set v1.toNat true).getD i false)) k_) from(Bi (Dd ..).symm (λk_ hk_=>(Bk (AV.eraseAll (λn_=>Bx n_ Lx)) ((Fv (λ_ _=>rfl) (Hw c2_) rfl) k_ hk_)).trans rfl)))) (R7 (λ(k_:Nat) u=>(Cp u [(Vi 14 k_)] [(14,.arr 1 4 k_ (λi=>eB (((IW v18).set v1.toNat true).getD i false)))])) (show(IW v18).length=((IW v18).set v1.toNat true).length from(Dd ..).symm))) (Af q TS Lx (tL q h TS Lx (λu (i3,l4)=>(Cp u [(Vi 14 l4.length),(8,(Z5 i3))] [(Z9 14 l4)])) (λu l5=>aG Γ (.exit 0) (⟨[(Vi 14 l5.length)],[(Z9 14 l5)],[]⟩:St)) (λ⟨i3,l4⟩ y h=>Af q [2,3,7,8,25] Lx (gC h (λh=>Af q TI Lx (tL q h TI Lx (λu (i6,l7)=>(Cp u [(Vi 14 l7.length),(9,(Z5 i6))] [(Z9 14 l7)])) (λu l8=>aG Γ (.exit 2) (Nh TS Lx u [(Vi 14 l8.length)] [(Z9 14 l8)])) (λ⟨i6,l7⟩ y h=>Af q [2,3,7,8,9,31] Lx (gC h (λh=>Af q SW Lx (tL q h SW Lx (λu (i9,l10)=>(Cp u [(Vi 14 l10.length),(10,(Z5 i9))] [(Z9 14 l10)])) (λu l11=>aG Γ (.exit 4) (Nh TI Lx u [(Vi 14 l11.length)] [(Z9 14 l11)])) (λ⟨i9,l10⟩ y h=>tC h λc12_ h=>tC h λc13_ h=>tU q [2,3,7,8,9,10,47] Lx (fe c12_ (Eq.refl l10.length) (Yt (xl l10 i6) (ci c13_ (LM (xl l10 i6) (c1 (Ng (l10.getD i6.toNat false))))))) (gC h (λh=>tB h λx20 y20 h=>gJ y20 (λl14=>aG Γ .normal (⟨[(2,(Z5 v11)),(3,(.ptr 3 0)),(Vi 14 l14.length),(8,(Z5 i3)),(9,(Z5 i6)),(10,(Z5 i9))],[(3,.row 56 [(NR v18.Succ),(NR v18.Pred)]),(Z9 14 l14)],[]⟩:St)) (λy h=>tC h λc15_ h=>tC h λc16_ h=>tU q [2,3,7,8,9,10,59] Lx (c2 c15_ c16_) (gC h (λh=>tC h λc17_ h=>tC h λc18_ h=>tC h λc19_ h=>tU q SW Lx (c4 c17_ c18_ c19_ (Eq.refl l10.length)) (tS h (gK (Be (Le.trans (Le.trans (Sn 14 (show ∀ k_,k_<l10.length->AVleL ((λi_=>AV.eraseAll (λn_=>Bx n_ Lx) ((Fd (λi=>eB (l10.getD i false)) (rg v18 i6 i9).toNat 0 [(.bool true)]) i_)) k_) ((λi=>eB ((l10.set (rg v18 i6 i9).toNat true).getD i false)) k_) from(Bi (Dd ..).symm (λk_ hk_=>(Bk (AV.eraseAll (λn_=>Bx n_ Lx)) ((Fv (λ_ _=>rfl) (Hw c19_) rfl) k_ hk_)).trans rfl)))) (R7 (λ(k_:Nat) u=>(Cp u [(Vi 14 k_)] [(14,.arr 1 4 k_ (λi=>eB ((l10.set (rg v18 i6 i9).toNat true).getD i false)))])) (show l10.length=(l10.set (rg v18 i6 i9).toNat true).length from(Dd ..).symm))) Ip))))) λh=>tS h (gK (Be (Bj SW Lx q))))) (gA (Af q SW Lx (tN h)))) λh=>tS h (gO (Be (Bj TI Lx q))))) λx22 h=>gA (Af q TI Lx (tN h)))) λh=>tS h (gO (Be (Bj TS Lx q))))) λx24 h=>gA (Af q TS Lx (tN h)))) λh=>tS h (gO (Be (Bj [7] [14] q))))) λx26 h=>gA (Af q [6] [14] (P7 (⟨[(6,(.vsl 14 x26.length))],[(Z9 14 x26)],[]⟩:St) (tS h (gK (e:=.ret) (H5 [(14,20000)] (Le.trans (le_freeze (nm:=14) (sz:=1) (n:=x26.length) (e:=4) (f:=(λi=>eB (x26.getD i false))) (g:=(λi=>eB (x26.getD i false))) rfl ⟨rfl,trivial⟩ (λ_ _=>rfl) (by rw[hΓ];rfl)) (Gt (st':=⟨[(6,(NQ x26 14))],[(Q6 14 x26.length)],[]⟩) (by kernel_rfl))))))))))))))
def Fo(a0:TFunc)(x1:mT)(i3:Int):Int->Option (LR Int (Unit ⊕ Bool)):=
 λ(i6:Int)=>(bif (decide (i6<(((a0.Blocks.getD i3.toNat default).Phis).length:Int))) then(Az (A2 i6 ((a0.Blocks.getD i3.toNat default).Phis).length) (Az (A2 i3 x1.1.Pred.length) ((Bb ((((a0.Blocks.getD i3.toNat default).Phis).getD i6.toNat default).From) (x1.1.Pred.getD i3.toNat [])).bind λx9=>(Az (((!x9)==false)=true->(A2 i6 ((a0.Blocks.getD i3.toNat default).Phis).length)) (Az (((!x9)==false)=true->(A2 i3 x1.1.Pred.length)) (bif (bif (!x9) then true else((((((a0.Blocks.getD i3.toNat default).Phis).getD i6.toNat default).Args).length:Int)!=((x1.1.Pred.getD i3.toNat []).length:Int))) then(some (.done (.inr false))) else(some (.next (w64 (i6+1)))))))))) else(some (.done (.inl ()))))
def Fp(a0:TFunc)(x1:mT)(x2:List Bool):Int->Option (LR Int (Unit ⊕ Bool)):=
 λ(i3:Int)=>(bif (decide (i3<(a0.Blocks.length:Int))) then(Az (A2 i3 a0.Blocks.length) (Az (A2 i3 x2.length) (bif (bif (!(x2.getD i3.toNat false)) then true else(bif (bif (((a0.Blocks.getD i3.toNat default).End.Kind:Int)==1) then true else(((a0.Blocks.getD i3.toNat default).End.Kind:Int)==3)) then(((a0.Blocks.getD i3.toNat default).End.Arg:Int)!=0) else false)) then(some (.done (.inr false))) else((Ac (Fo a0 x1 i3) (0:Int)).bind (λx12=>(match x12 with|(.inl _)=>(some (.next (w64 (i3+1))))|(.inr r14)=>(some (.done (.inr r14))))))))) else(some (.done (.inl ()))))
def Q7(Γ:H4)(a0:TFunc)(r:Bool):Exit->St->Prop:=fK Tryz.prog Γ Tryz.f52.results.toList [] (.bool r) []
def ZB(x2:List Bool)(i3:Int):=((!(x2.getD i3.toNat false))==false)
def fA(a0:TFunc)(i3:Int):=((a0.Blocks.getD i3.toNat default).End.Kind:Int)
def xm(x2:List Bool)(i3:Int)(a0:TFunc):=((ZB x2 i3)&&((bif ((fA a0 i3)==1) then true else((fA a0 i3)==3))==true))
def Jz(a0:TFunc):Option Bool:=
 ((Jh a0).bind λx1=>(bif (x1.2 !=0) then(some false) else((Dc x1.1 (0:Int) (-1:Int)).bind λx2=>((Ac (Fp a0 x1 x2) (0:Int)).bind (λx15=>(match x15 with|(.inl _)=>(some true)|(.inr r17)=>(some r17)))))))
theorem X9(h:Jz v0=some v3):sP 52 [(V0 v0)] [] (.bool v3) []:=
 sG Tryz.func52 λΓ q=>Af q [1] [1] (tB h λx1 y1 h=>tT q J6 L5 [(xV x1.1 x1.2)] (c1 (S1 y1)) (Af q [1,3,15] L5 (gC h (λh=>Af q [2] [] (tS h (Cd []))) λh=>tB h λx2 y2 h=>tT q KZ GD [(xU 17 x2 x2.length)] (c1 (Mg y2)) (Af q IR GD (tL q h IR GD (λu i3=>(Cp u [(6,(Z5 i3))] [])) (λu x_=>match x_ with|(.inl _)=>aG Γ (.exit 0) (⟨[],[],[]⟩:St)|(.inr r_)=>aR (Q7 Γ v0 r_)) (λi3 y h=>Af q [1,3,5,6,22] GD (gC h (λh=>tV q TJ GA h λh=>tC h λc5_ h=>tU q [1,3,5,6,7,52] GA (ci c5_ (LM (ZB x2 i3) (Yt ((ZB x2 i3)&&(((fA v0 i3)==1)==false)) (UJ (gI (ZB x2 i3)) (show((ZB x2 i3)=true->(((fA v0 i3)==1)=false->((ZB x2 i3)&&(((fA v0 i3)==1)==false))=true)) from(λhg=>(aF hg))) (gI (ZB x2 i3)) (Yt (xm x2 i3 v0) (c3 (gI (ZB x2 i3)) (show((ZB x2 i3)=true->((bif ((fA v0 i3)==1) then true else((fA v0 i3)==3))=true->(xm x2 i3 v0)=true)) from(λhg=>(aT hg))) (Ly (!(x2.getD i3.toNat false))))))))) (gC h (λh=>Af q [2] [] (tS h (gO (Ll (H5 [] (Le.refl _ _)))))) λh=>Af q iM GA (tL q h iM GA (λu i6=>(Cp u [(8,(Z5 i6))] [])) (λu x_=>match x_ with|(.inl _)=>aG Γ (.exit 2) (Nh IR GD u [] [])|(.inr r_)=>aR (Q7 Γ v0 r_)) (λi6 y h=>Af q [1,3,5,6,7,8,57] GA (gC h (λh=>tC h λc7_ h=>tC h λc8_ h=>tB h λx9 y9 h=>tC h λc10_ h=>tC h λc11_ h=>tT q [1,3,5,6,7,8,88] GA [(Z2 x9)] (UJ c7_ c8_ (Cl y9) (Yt ((!x9)==false) (ci c10_ (wh ((!x9)==false) (ci c11_ (LM ((!x9)==false) (c1 (Ly (!x9))))))))) (gC h (λh=>Af q [2] [] (tS h (gO (Ll (H5 [] (Le.refl _ _)))))) λh=>Af q iM GA (tN h))) λh=>tS h (gO (Be (Bj IR GD q))))) λx12 h=>(match x12,h with | .inl _,h=>gA (Af q IR GD (tN h)) | .inr r14,h=>Oz (λst' hk=>tS h (gO (Ll hk))))))) λh=>tS h (gO (Be (Bj [] [] q))))) λx15 h=>(match x15,h with | .inl _,h=>gA (Af q [2] [] (tS h (Cd []))) | .inr r17,h=>Oz (λst' hk=>tS h (gK hk))))))))
def rh(aI:Int):=(bif (bif (aI==1) then true else(aI==8)) then true else(aI==16))
def De(aI:Int):Option Bool:=
 (some (bif (bif (bif (bif (aI==1) then true else(aI==8)) then true else(aI==16)) then true else(aI==32)) then true else(aI==64)))
theorem Ey(h:De v1=some v3):sP 97 [(Z5 v1)] [] (.bool v3) []:=
 sG Tryz.func97 λΓ q=>Af q [0] [] (tU q [2] [] (c8 (gI ((v1==1)==false)) (Ly (v1==1)) (gI ((bif (v1==1) then true else(v1==8))==false)) (Ly (bif (v1==1) then true else(v1==8))) (gI ((rh v1)==false)) (Ly (rh v1)) (gI ((bif (rh v1) then true else(v1==32))==false)) (Ly (bif (rh v1) then true else(v1==32)))) (tS h (Cd [])))
def mv(aN:Int):=(bif (aN==2) then true else(aN==4))
def vO(aN:Int):=(bif (bif (mv aN) then true else(aN==8)) then true else(aN==16))
def xn(aN:Int)(aI:Int):=(bif (vO aN) then(decide ((1:Int)<aI)) else false)
def Jx(aI:Int)(aN:Int):Option Bool:=
 ((De aI).bind λx1=>(bif (!x1) then(some false) else(bif (aN==1) then(some true) else(some (bif (bif (bif (bif (bif (aN==2) then true else(aN==4)) then true else(aN==8)) then true else(aN==16)) then(decide ((1:Int)<aI)) else false) then(decide (((w64 (aI*aN)):Int)<=128)) else false)))))
theorem X3(h:Jx v1 v11=some v3):sP 146 [(Z5 v1),(Z5 v11)] [] (.bool v3) []:=
 sG Tryz.func146 λΓ q=>Af q Gn [] (tB h λx1 y1 h=>tT q [0,1,7] [] [(Z2 x1)] (c1 (Ey y1)) (gC h (λh=>Af q [4] [] (tS h (Cd []))) λh=>Af q [0,1,9] [] (gC h (λh=>Af q [4] [] (tS h (Cd []))) λh=>tU q [4] [] (d8_ (gI ((v11==2)==false)) (Ly (v11==2)) (gI ((mv v11)==false)) (Ly (mv v11)) (gI ((bif (mv v11) then true else(v11==8))==false)) (Ly (bif (mv v11) then true else(v11==8))) (gI ((vO v11)==true)) (Ng (vO v11)) (Yt ((xn v11 v1)==true) (c1 (Ng (xn v11 v1))))) (tS h (Cd [])))))
def vP(a1:Bv):List ON:=[(yg a1.Kind a1.Bits a1.Lanes a1.Dst a1.Args a1.Imm)]
def Kl(a1:Bv):Option Int:=
 (bif (a1.Kind==0) then(some (0:Int)) else(Option.bind (α:=Bool) (bif (a1.Kind==1) then(some (a1.Kind==1)) else(bif (a1.Kind==2) then(some (a1.Kind==2)) else(bif (a1.Kind==3) then(some (a1.Kind==3)) else(bif (a1.Kind==4) then(some (a1.Kind==4)) else(bif (a1.Kind==5) then(some (a1.Kind==5)) else(bif (a1.Kind==6) then(some (a1.Kind==6)) else(bif (a1.Kind==7) then(some (a1.Kind==7)) else(bif (a1.Kind==8) then(some (a1.Kind==8)) else(bif (a1.Kind==9) then(some (a1.Kind==9)) else(bif (a1.Kind==10) then(some (a1.Kind==10)) else(bif (a1.Kind==11) then(some (a1.Kind==11)) else(bif (a1.Kind==12) then(some (a1.Kind==12)) else(some (a1.Kind==17)))))))))))))) (λx2=>(bif x2 then(some (2:Int)) else(Option.bind (α:=Bool) (bif (a1.Kind==13) then(some (a1.Kind==13)) else(bif (a1.Kind==18) then(some (a1.Kind==18)) else(some (a1.Kind==19)))) (λx5=>(bif x5 then(some (3:Int)) else(Option.bind (α:=Bool) (bif (a1.Kind==14) then(some (a1.Kind==14)) else(bif (a1.Kind==15) then(some (a1.Kind==15)) else(bif (a1.Kind==16) then(some (a1.Kind==16)) else(some (a1.Kind==22))))) (λx8=>(bif x8 then(some (1:Int)) else(bif (a1.Kind==20) then(some (4:Int)) else(bif (a1.Kind==21) then(some a1.Lanes) else(some (-1:Int))))))))))))))
variable{v6:Bv}
theorem Zm(h:Kl v6=some v1):sP 147 [(VZ v6)] [] (.int .i64 v1) []:=
 sG Tryz.func147 λΓ q=>tW q [1] [1] P2 [1] (Af q [1,4,5] [1] (gC h (λh=>Af q [2] [] (tS h (Cd []))) λh=>tB h λx2 y2 h=>gJ y2 (λb1=>aG Γ .normal (⟨[CU,(4,(Z5 v6.Kind)),(7,(.bool b1))],(vP v6),[]⟩:St)) (λy h=>Af q W6 [1] (gC h (λh=>tS h (gK (Be Ip))) λh=>Af q W6 [1] (gC h (λh=>tS h (gK (Be Ip))) λh=>Af q W6 [1] (gC h (λh=>tS h (gK (Be Ip))) λh=>Af q W6 [1] (gC h (λh=>tS h (gK (Be Ip))) λh=>Af q W6 [1] (gC h (λh=>tS h (gK (Be Ip))) λh=>Af q W6 [1] (gC h (λh=>tS h (gK (Be Ip))) λh=>Af q W6 [1] (gC h (λh=>tS h (gK (Be Ip))) λh=>Af q W6 [1] (gC h (λh=>tS h (gK (Be Ip))) λh=>Af q W6 [1] (gC h (λh=>tS h (gK (Be Ip))) λh=>Af q W6 [1] (gC h (λh=>tS h (gK (Be Ip))) λh=>Af q W6 [1] (gC h (λh=>tS h (gK (Be Ip))) λh=>Af q W6 [1] (gC h (λh=>tS h (gK (Be Ip))) λh=>Af q W6 [1] (tS h (gK (Be Ip)))))))))))))))) (gA (gC h (λh=>Af q [2] [] (tS h (Cd []))) λh=>tB h λx5 y5 h=>gJ y5 (λb4=>aG Γ .normal (⟨[CU,(4,(Z5 v6.Kind)),(21,(.bool b4))],(vP v6),[]⟩:St)) (λy h=>Af q [1,4,21] [1] (gC h (λh=>tS h (gK (Be Ip))) λh=>Af q [1,4,21] [1] (gC h (λh=>tS h (gK (Be Ip))) λh=>Af q [1,4,21] [1] (tS h (gK (Be Ip)))))) (gA (gC h (λh=>Af q [2] [] (tS h (Cd []))) λh=>tB h λx8 y8 h=>gJ y8 (λb7=>aG Γ .normal (⟨[CU,(4,(Z5 v6.Kind)),(25,(.bool b7))],(vP v6),[]⟩:St)) (λy h=>Af q [1,4,25] [1] (gC h (λh=>tS h (gK (Be Ip))) λh=>Af q [1,4,25] [1] (gC h (λh=>tS h (gK (Be Ip))) λh=>Af q [1,4,25] [1] (gC h (λh=>tS h (gK (Be Ip))) λh=>Af q [1,4,25] [1] (tS h (gK (Be Ip))))))) (gA (gC h (λh=>Af q [2] [] (tS h (Cd []))) λh=>Af q [1,4,30] [1] (gC h (λh=>Af q [2] [] (tS h (Cd []))) λh=>Af q [1,32] [1] (gC h (λh=>Af q [2] [] (tS h (Cd []))) λh=>Af q [2] [] (tS h (Cd []))))))))))))
def Ln(aH:Int)(aI:Int):Option Int:=
 ((De aI).bind λx1=>(bif (!x1) then(some (0:Int)) else(bif (aI==64) then(some aH) else(Az (0<=(It aI)) (Az ((SC .u64 (1:Int) (It aI))≠0) (some (Int.tmod aH (SC .u64 (1:Int) (It aI)))))))))
variable{v20:Int}
theorem BI(h:Ln v1 v11=some v20):sP 194 [(.int .u64 v1),(Z5 v11)] [] (.int .u64 v20) []:=
 sG Tryz.func194 λΓ q=>Af q Gn [] (tB h λx1 y1 h=>tT q [0,1,7] [] [(Z2 x1)] (c1 (Ey y1)) (gC h (λh=>Af q [4] [] (tS h (Cd []))) λh=>Af q [0,1,9] [] (gC h (λh=>Af q [4] [] (tS h (Cd []))) λh=>tC h λc2_ h=>tC h λc3_ h=>tU q [4] [] (c2 c2_ c3_) (tS h (Cd [])))))
def AD(Γ:H4)(a1:Bv)(r:Bool):Exit->St->Prop:=fK Tryz.prog Γ Tryz.f148.results.toList [] (.bool r) []
def xo(a1:Bv):=(a1.Kind==15)
def my(a1:Bv):=((a1.Kind==4)==false)
def vS(a1:Bv):=(decide (a1.Imm<(It a1.Bits)))
def vU(a1:Bv):=(bif (a1.Kind==4) then true else(bif (decide ((10:Int)<=a1.Kind)) then(decide (a1.Kind<=12)) else false))
def ri(a1:Bv):=(bif (vU a1) then true else(a1.Kind==14))
def mz(a1:Bv):=((bif (ri a1) then true else(xo a1))==false)
def vT(a1:Bv):=(bif (decide ((16:Int)<=a1.Kind)) then(decide (a1.Kind<=19)) else false)
def mw(a1:Bv):=(bif (vT a1) then(decide (a1.Bits<8)) else false)
def xp(a1:Bv):=(((mw a1)==false)&&((decide ((21:Int)<=a1.Kind))==true))
def vQ(a1:Bv):=(bif (decide (((It a1.Bits):Int)<a1.Imm)) then(decide (a1.Imm<=64)) else false)
def F8(a1:Bv):Option Bool:=
 (Option.bind (α:=(Unit ⊕ Bool)) (bif (bif (bif (bif (bif (a1.Kind==4) then true else(bif (decide ((10:Int)<=a1.Kind)) then(decide (a1.Kind<=12)) else false)) then true else(a1.Kind==14)) then true else(a1.Kind==15)) then true else(bif (decide ((18:Int)<=a1.Kind)) then(decide (a1.Kind<=20)) else false)) then(bif (a1.Lanes !=1) then(some (.inr false)) else(some (.inl ()))) else(some (.inl ()))) (λx1=>(match x1 with|(.inl _)=>(bif (bif (bif (bif (decide ((16:Int)<=a1.Kind)) then(decide (a1.Kind<=19)) else false) then(decide (a1.Bits<8)) else false) then true else(bif (decide ((21:Int)<=a1.Kind)) then(decide (a1.Lanes<2)) else false)) then(some false) else(bif (a1.Kind==0) then((Ln a1.Imm a1.Bits).bind λx3=>(some (x3==a1.Imm))) else(bif (a1.Kind==14) then((bif ((decide (a1.Imm<(It a1.Bits)))==true) then De (w64 a1.Imm) else some false).bind λx4=>(some (bif (decide (a1.Imm<(It a1.Bits))) then x4 else false))) else(bif (a1.Kind==15) then((bif ((bif (decide (((It a1.Bits):Int)<a1.Imm)) then(decide (a1.Imm<=64)) else false)==true) then De (w64 a1.Imm) else some false).bind λx5=>(some (bif (bif (decide (((It a1.Bits):Int)<a1.Imm)) then(decide (a1.Imm<=64)) else false) then x5 else false))) else(bif (a1.Kind==22) then(some (decide (a1.Imm<(It a1.Lanes)))) else(some (a1.Imm==0)))))))|(.inr r6)=>(some r6))))
theorem Zn(h:F8 v6=some v3):sP 148 [(VZ v6)] [] (.bool v3) []:=
 sG Tryz.func148 λΓ q=>tW q [1] [1] L5 [1] (tB h λx1 y1 h=>gJ y1 (λx_=>match x_ with|(.inl _)=>aG Γ .normal (⟨[CU,(3,(Z5 v6.Kind))],[(yg v6.Kind v6.Bits v6.Lanes v6.Dst v6.Args v6.Imm)],[]⟩:St)|(.inr r_)=>aR (AD Γ v6 r_)) (λy h=>tU q [1,3,31] [1] (Mt (my v6) (d8_ (gI ((my v6)&&((decide ((10:Int)<=v6.Kind))==true))) (gI (my v6)) (show((my v6)=true->((decide ((10:Int)<=v6.Kind))=true->((my v6)&&((decide ((10:Int)<=v6.Kind))==true))=true)) from(λhg=>(aT hg))) (Ly (v6.Kind==4)) (gI ((vU v6)==false)) (Ly (vU v6)) (gI ((ri v6)==false)) (Ly (ri v6)) (Mt (mz v6) (c4 (gI ((mz v6)&&((decide ((18:Int)<=v6.Kind))==true))) (gI (mz v6)) (show((mz v6)=true->((decide ((18:Int)<=v6.Kind))=true->((mz v6)&&((decide ((18:Int)<=v6.Kind))==true))=true)) from(λhg=>(aT hg))) (Ly (bif (ri v6) then true else(xo v6))))))) (gC h (λh=>Af q [1,3,34] [1] (gC h (λh=>Af q [2] [] (tS h (gK (Ll (H5 [] (Le.refl _ _)))))) λh=>tS h (gK (Be (Bj L5 [1] q))))) λh=>tS h (gK (Be (Bj L5 [1] q))))) (match x1,h with | .inl _,h=>gA (tU q [1,3,54] [1] (fe (gI ((decide ((16:Int)<=v6.Kind))==true)) (Ng (decide ((16:Int)<=v6.Kind))) (Mt ((vT v6)==true) (ci (Ng (vT v6)) (Mt ((mw v6)==false) (Mt (xp v6) (c3 (gI ((mw v6)==false)) (show(((mw v6)==false)=true->((decide ((21:Int)<=v6.Kind))=true->(xp v6)=true)) from(λhg=>(aT hg))) (Ly (mw v6)))))))) (gC h (λh=>Af q [2] [] (tS h (Cd []))) λh=>tW q [1,55] [1] [1,55,56] [1] (gC h (λh=>tB h λx3 y3 h=>tT q [2] [] [⟨[],[],(.int .u64 x3),[],[],[]⟩] (c1 (BI y3)) (tS h (Cd []))) λh=>Af q [1,55,66] [1] (gC h (λh=>tB h λx4 y4 h=>tT q [2] [] [(Z2 x4)] (Yt ((vS v6)==true) (c2 (λ(hg:((vS v6)==true)=true)=>(Ey (Bf hg y4))) (Ng (vS v6)))) (tS h (Cd []))) λh=>Af q [1,55,80] [1] (gC h (λh=>tB h λx5 y5 h=>tT q [2] [] [(Z2 x5)] (Mt ((decide (((It v6.Bits):Int)<v6.Imm))==true) (ci (Ng (decide (((It v6.Bits):Int)<v6.Imm))) (Yt ((vQ v6)==true) (c2 (λ(hg:((vQ v6)==true)=true)=>(Ey (Bf hg y5))) (Ng (vQ v6)))))) (tS h (Cd []))) λh=>Af q [1,99] [1] (gC h (λh=>Af q [2] [] (tS h (Cd []))) λh=>Af q [2] [] (tS h (Cd [])))))))) | .inr r6,h=>Oz (λst' hk=>tS h (gK hk))))
def Fj(aH:Int):Option Bool:=
 (some (bif (decide ((0:Int)<aH)) then(decide (aH<1024)) else false))
theorem Mf(h:Fj v1=some v3):sP 55 [(Z5 v1)] [] (.bool v3) []:=
 sG Tryz.func55 λΓ q=>Af q [0] [] (tU q [2] [] (c2 (gI ((decide ((0:Int)<v1))==true)) (Ng (decide ((0:Int)<v1)))) (tS h (Cd [])))
def Gy(a1:Bv):Int->Option (LR Int (Unit ⊕ Bool)):=
 λ(i4:Int)=>(bif (decide (i4<(a1.Args.length:Int))) then(Az (A2 i4 a1.Args.length) ((Fj (a1.Args.getD i4.toNat 0)).bind λx6=>(bif (!x6) then(some (.done (.inr false))) else(some (.next (w64 (i4+1))))))) else(some (.done (.inl ()))))
def DW(Γ:H4)(a1:Bv)(r:Bool):Exit->St->Prop:=fK Tryz.prog Γ Tryz.f98.results.toList [] (.bool r) []
def rj(x1:Bool)(x2:Int)(a1:Bv):=(bif (!x1) then true else(x2 !=(a1.Args.length:Int)))
def G9(a1:Bv):Option Bool:=
 ((Jx a1.Bits a1.Lanes).bind λx1=>((bif ((!x1)==false) then Kl a1 else some (0:Int)).bind λx2=>((bif ((bif (!x1) then true else(x2 !=(a1.Args.length:Int)))==false) then F8 a1 else some false).bind λx3=>(bif (bif (bif (!x1) then true else(x2 !=(a1.Args.length:Int))) then true else(!x3)) then(some false) else((Ac (Gy a1) (0:Int)).bind (λx7=>(match x7 with|(.inl _)=>(bif (bif (a1.Kind==17) then true else(a1.Kind==19)) then(some (a1.Dst==0)) else((Fj a1.Dst).bind λx9=>(some x9)))|(.inr r10)=>(some r10))))))))
theorem Nx(h:G9 v6=some v3):sP 98 [(VZ v6)] [] (.bool v3) []:=
 sG Tryz.func98 λΓ q=>Af q [1] [1] (tB h λx1 y1 h=>tB h λx2 y2 h=>tB h λx3 y3 h=>tT q [1,22] [1] [(Z2 x1),(UI x2),(Z2 x3)] (UJ (X3 y1) (gI ((!x1)==false)) (λ(hg:((!x1)==false)=true)=>(Zm (Bf hg y2))) (LM ((!x1)==false) (c5 (Ly (!x1)) (gI ((rj x1 x2 v6)==false)) (λ(hg:((rj x1 x2 v6)==false)=true)=>(Zn (Bf hg y3))) (gI ((rj x1 x2 v6)==false)) (Ly (rj x1 x2 v6))))) (gC h (λh=>Af q [2] [] (tS h (Cd []))) λh=>Af q L5 [1] (tL q h L5 [1] (λu i4=>(Cp u [(3,(Z5 i4))] [])) (λu x_=>match x_ with|(.inl _)=>aG Γ (.exit 0) (Nh [1] [1] u [] [])|(.inr r_)=>aR (DW Γ v6 r_)) (λi4 y h=>Af q [1,3,27] [1] (gC h (λh=>tC h λc5_ h=>tB h λx6 y6 h=>tT q [1,3,36] [1] [(Z2 x6)] (c2 c5_ (Mf y6)) (gC h (λh=>Af q [2] [] (tS h (gO (Ll (H5 [] (Le.refl _ _)))))) λh=>Af q L5 [1] (tN h))) λh=>tS h (gO (Be (Bj [1] [1] q))))) λx7 h=>(match x7,h with | .inl _,h=>gA (tU q [1,44] [1] (Mt ((v6.Kind==17)==false) (c1 (Ly (v6.Kind==17)))) (gC h (λh=>Af q [2] [] (tS h (Cd []))) λh=>tB h λx9 y9 h=>tT q [2] [] [(Z2 x9)] (c1 (Mf y9)) (tS h (Cd [])))) | .inr r10,h=>Oz (λst' hk=>tS h (gK hk))))))
def Fq(a0:TFunc):Int->Option (LR Int (Unit ⊕ Bool)):=
 λ(i1:Int)=>(bif (decide (i1<(a0.Params.length:Int))) then(Az (A2 i1 a0.Params.length) ((De (a0.Params.getD i1.toNat 0)).bind λx3=>(bif (!x3) then(some (.done (.inr false))) else(some (.next (w64 (i1+1))))))) else(some (.done (.inl ()))))
def D5(a0:TFunc)(i6:Int):Int->Option (LR Int (Unit ⊕ Bool)):=
 λ(i7:Int)=>(Az (A2 i6 a0.Blocks.length) (bif (decide (i7<(((a0.Blocks.getD i6.toNat default).Phis).length:Int))) then(Az (A2 i6 a0.Blocks.length) (Az (A2 i7 ((a0.Blocks.getD i6.toNat default).Phis).length) ((De ((((a0.Blocks.getD i6.toNat default).Phis).getD i7.toNat default).Bits)).bind λx11=>(bif (!x11) then(some (.done (.inr false))) else(some (.next (w64 (i7+1)))))))) else(some (.done (.inl ())))))
def D6(a0:TFunc)(a2:Int)(i6:Int):Int->Option (LR Int (Unit ⊕ Bool)):=
 λ(i14:Int)=>(Az (A2 i6 a0.Blocks.length) (bif (decide (i14<(((a0.Blocks.getD i6.toNat default).Ops).length:Int))) then(Az (A2 i6 a0.Blocks.length) (Az (A2 i14 ((a0.Blocks.getD i6.toNat default).Ops).length) (Option.bind (α:=Int) (bif (a2==1) then(some (20:Int)) else(some (22:Int))) (λx19=>(Option.bind (α:=Int) (bif (a2==0) then(some (17:Int)) else(some x19)) (λx22=>((G9 (((a0.Blocks.getD i6.toNat default).Ops).getD i14.toNat default)).bind λx24=>(bif (bif (bif (!x24) then true else(decide (x22<(((a0.Blocks.getD i6.toNat default).Ops).getD i14.toNat default).Kind))) then true else(bif (decide (a2<2)) then(decide ((1:Int)<(((a0.Blocks.getD i6.toNat default).Ops).getD i14.toNat default).Lanes)) else false)) then(some (.done (.inr false))) else(some (.next (w64 (i14+1)))))))))))) else(some (.done (.inl ())))))
def Fs(a0:TFunc)(a2:Int):Int->Option (LR Int (Unit ⊕ Bool)):=
 λ(i6:Int)=>(bif (decide (i6<(a0.Blocks.length:Int))) then((Ac (D5 a0 i6) (0:Int)).bind (λx12=>(match x12 with|(.inl _)=>((Ac (D6 a0 a2 i6) (0:Int)).bind (λx25=>(match x25 with|(.inl _)=>(some (.next (w64 (i6+1))))|(.inr r27)=>(some (.done (.inr r27))))))|(.inr r28)=>(some (.done (.inr r28)))))) else(some (.done (.inl ()))))
def Js(Γ:H4)(a0:TFunc)(a2:Int)(r:Bool):Exit->St->Prop:=fK Tryz.prog Γ Tryz.f53.results.toList [] (.bool r) []
def fB(a0:TFunc)(i6:Int)(i14:Int):=(((a0.Blocks.getD i6.toNat default).Ops).getD i14.toNat default)
def kU(x24:Bool)(x22:Int)(a0:TFunc)(i6:Int)(i14:Int):=(bif (!x24) then true else(decide (x22<(fB a0 i6 i14).Kind)))
def Aae(a0:TFunc):List AV:=[(Z6 a0.Params),(Z5 a0.Ret),(UH a0.Blocks)]
def xq(a0:TFunc)(i6:Int)(i14:Int):List ON:=[(Pq 25 (Aae a0)),(9,.row 70 [(.int .i64 (fB a0 i6 i14).Kind),(.int .i64 (fB a0 i6 i14).Bits),(.int .i64 (fB a0 i6 i14).Lanes),(.int .i64 (fB a0 i6 i14).Dst),(AV.list 1 Aq 0 (fB a0 i6 i14).Args .none),(.int .u64 (fB a0 i6 i14).Imm)])]
def J0(a0:TFunc)(a2:Int):Option Bool:=
 ((Ac (Fq a0) (0:Int)).bind (λx4=>(match x4 with|(.inl _)=>((Ac (Fs a0 a2) (0:Int)).bind (λx29=>(match x29 with|(.inl _)=>((De a0.Ret).bind λx31=>(some x31))|(.inr r32)=>(some r32))))|(.inr r33)=>(some r33))))
theorem Ya(h:J0 v0 v1=some v3):sP 53 [(V0 v0),(Z5 v1)] [] (.bool v3) []:=
 sG Tryz.func53 λΓ q=>tW q D7 [2] CT [2] (tL q h CT [2] (λu i1=>(Cp u [(5,(Z5 i1))] [])) (λu x_=>match x_ with|(.inl _)=>aG Γ (.exit 0) (Nh D7 [2] u [] [])|(.inr r_)=>aR (Js Γ v0 v1 r_)) (λi1 y h=>Af q [1,2,5,15] [2] (gC h (λh=>tC h λc2_ h=>tB h λx3 y3 h=>tT q [1,2,5,24] [2] [(Z2 x3)] (c2 c2_ (Ey y3)) (gC h (λh=>Af q [4] [] (tS h (gO (Ll (H5 [] (Le.refl _ _)))))) λh=>Af q CT [2] (tN h))) λh=>tS h (gO (Be (Bj D7 [2] q))))) λx4 h=>(match x4,h with | .inl _,h=>gA (Af q CM [2] (tL q h CM [2] (λu i6=>(Cp u [(6,(Z5 i6))] [])) (λu x_=>match x_ with|(.inl _)=>aG Γ (.exit 2) (Nh [2] [2] u [] [])|(.inr r_)=>aR (Js Γ v0 v1 r_)) (λi6 y h=>Af q [1,2,6,29] [2] (gC h (λh=>Af q [1,2,6,7] [2] (tL q h [1,2,6,7] [2] (λu i7=>(Cp u [(7,(Z5 i7))] [])) (λu x_=>match x_ with|(.inl _)=>aG Γ (.exit 4) (Nh CM [2] u [] [])|(.inr r_)=>aR (Js Γ v0 v1 r_)) (λi7 y h=>tV q [1,2,6,7,40] [2] h λh=>gC h (λh=>tC h λc9_ h=>tC h λc10_ h=>tB h λx11 y11 h=>tT q [1,2,6,7,54] [2] [(Z2 x11)] (c3 c9_ c10_ (Ey y11)) (gC h (λh=>Af q [4] [] (tS h (gO (Ll (H5 [] (Le.refl _ _)))))) λh=>Af q [1,2,6,7] [2] (tN h))) λh=>tS h (gO (Be (Bj CM [2] q)))) λx12 h=>(match x12,h with | .inl _,h=>gA (Af q [1,2,6,8] [2] (tL q h [1,2,6,8] [2] (λu i14=>(Cp u [(8,(Z5 i14))] [])) (λu x_=>match x_ with|(.inl _)=>aG Γ (.exit 6) (Nh CM [2] u [] [])|(.inr r_)=>aR (Js Γ v0 v1 r_)) (λi14 y h=>tV q [1,2,6,8,63] [2] h λh=>gC h (λh=>tC h λc16_ h=>tC h λc17_ h=>tU q [1,2,6,8,9] [2,9] (c2 c16_ c17_) (Af q SX [2,9] (tB h λx19 y19 h=>gJ y19 (λi18=>aG Γ .normal (⟨[(1,(Z5 v1)),Uj,(6,(Z5 i6)),(8,(Z5 i14)),(9,(.ptr 9 0)),(10,(Z5 i18))],(xq v0 i6 i14),[]⟩:St)) (λy h=>Af q [1,2,6,8,9,10,76] [2,9] (gC h (λh=>Af q SX [2,9] (tS h (gK (Be Ip)))) λh=>tS h (gK (Be (Bj SX [2,9] q))))) (gA (tB h λx22 y22 h=>gJ y22 (λi21=>aG Γ .normal (⟨[(1,(Z5 v1)),Uj,(6,(Z5 i6)),(8,(Z5 i14)),(9,(.ptr 9 0)),(10,(Z5 i21))],(xq v0 i6 i14),[]⟩:St)) (λy h=>Af q [1,2,6,8,9,10,78] [2,9] (gC h (λh=>Af q SX [2,9] (tS h (gK (Be Ip)))) λh=>tS h (gK (Be (Bj SX [2,9] q))))) (gA (tB h λx24 y24 h=>tT q [1,2,6,8,96] [2] [(Z2 x24)] (ci (Nx y24) (Yt ((!x24)==false) (ci (Ly (!x24)) (Mt ((kU x24 x22 v0 i6 i14)==false) (Mt (((kU x24 x22 v0 i6 i14)==false)&&((decide (v1<2))==true)) (c3 (gI ((kU x24 x22 v0 i6 i14)==false)) (show(((kU x24 x22 v0 i6 i14)==false)=true->((decide (v1<2))=true->(((kU x24 x22 v0 i6 i14)==false)&&((decide (v1<2))==true))=true)) from(λhg=>(aT hg))) (Ly (kU x24 x22 v0 i6 i14)))))))) (gC h (λh=>Af q [4] [] (tS h (gO (Ll (H5 [] (Le.refl _ _)))))) λh=>Af q [1,2,6,8] [2] (tN h))))))))) λh=>tS h (gO (Be (Bj CM [2] q)))) λx25 h=>(match x25,h with | .inl _,h=>gA (Af q CM [2] (tN h)) | .inr r27,h=>Oz (λst' hk=>tS h (gO (Ll hk)))))) | .inr r28,h=>Oz (λst' hk=>tS h (gO (Ll hk)))))) λh=>tS h (gO (Be (Bj [2] [2] q))))) λx29 h=>(match x29,h with | .inl _,h=>gA (tB h λx31 y31 h=>tT q [4] [] [(Z2 x31)] (c1 (Ey y31)) (tS h (Cd []))) | .inr r32,h=>Oz (λst' hk=>tS h (gK hk))))) | .inr r33,h=>Oz (λst' hk=>tS h (gK hk))))
def Hm(a1:Bv):Option Gq:=
 ((G9 a1).bind λx1=>(bif (bif (bif (!x1) then true else(a1.Kind==17)) then true else(a1.Kind==19)) then(some ((0:Int),(0:Int))) else(bif (bif (decide ((10:Int)<=a1.Kind)) then(decide (a1.Kind<=12)) else false) then(some ((1:Int),(1:Int))) else(bif (a1.Kind==22) then(some (a1.Bits,(1:Int))) else(some (a1.Bits,a1.Lanes))))))
variable{v19:Gq}
theorem X2(h:Hm v6=some v19):sP 99 [(VZ v6)] [] (.tuple [(Z5 v19.1),(Z5 v19.2)]) []:=
 sG Tryz.func99 λΓ q=>Af q [1] [1] (tB h λx1 y1 h=>tT q [1,16] [1] [(Z2 x1)] (ci (Nx y1) (Mt ((!x1)==false) (ci (Ly (!x1)) (Mt ((bif (!x1) then true else(v6.Kind==17))==false) (c1 (Ly (bif (!x1) then true else(v6.Kind==17)))))))) (gC h (λh=>Af q C0 [] (tS h (Cd []))) λh=>tU q [1,24] [1] (Mt ((decide ((10:Int)<=v6.Kind))==true) (c1 (Ng (decide ((10:Int)<=v6.Kind))))) (gC h (λh=>Af q C0 [] (tS h (Cd []))) λh=>Af q [1,27] [1] (gC h (λh=>Af q C0 [] (tS h (Cd []))) λh=>Af q C0 [] (tS h (Cd []))))))
open Go Go.RowKit
set_option maxRecDepth 100000
set_option maxHeartbeats 2000000
abbrev eT:=(List Bz×Int)
abbrev ua:=(LR (List Bz×Int) (List Bz))
def Il(a0:TFunc):eT->Option ua:=
 λ((l1,i2):eT)=>(bif (decide (i2<(a0.Params.length:Int))) then(Az (A2 i2 a0.Params.length) (Az (l1.length+([(⟨(w64 (i2+1)),(-1:Int),(0:Int),((a0.Params.getD i2.toNat 0),(1:Int))⟩:Bz)]:List Bz).length<=room) (some (.next ((l1++([(⟨(w64 (i2+1)),(-1:Int),(0:Int),((a0.Params.getD i2.toNat 0),(1:Int))⟩:Bz)]:List Bz)),(w64 (i2+1))))))) else(some (.done l1)))
def Gf(a0:TFunc)(i9:Int):eT->Option ua:=
 λ((l12,i13):eT)=>(bif (decide (i13<(((a0.Blocks.getD i9.toNat default).Phis).length:Int))) then(Az (A2 i13 ((a0.Blocks.getD i9.toNat default).Phis).length) (Az (A2 i13 ((a0.Blocks.getD i9.toNat default).Phis).length) (Az (l12.length+([(⟨(((a0.Blocks.getD i9.toNat default).Phis).getD i13.toNat default).Dst,i9,(-1:Int),((((a0.Blocks.getD i9.toNat default).Phis).getD i13.toNat default).Bits,(1:Int))⟩:Bz)]:List Bz).length<=room) (some (.next ((l12++([(⟨(((a0.Blocks.getD i9.toNat default).Phis).getD i13.toNat default).Dst,i9,(-1:Int),((((a0.Blocks.getD i9.toNat default).Phis).getD i13.toNat default).Bits,(1:Int))⟩:Bz)]:List Bz)),(w64 (i13+1)))))))) else(some (.done l12)))
def Gg(a0:TFunc)(i9:Int):eT->Option ua:=
 λ((l20,i21):eT)=>(bif (decide (i21<(((a0.Blocks.getD i9.toNat default).Ops).length:Int))) then(Option.bind (α:=List Bz) (Az (A2 i21 ((a0.Blocks.getD i9.toNat default).Ops).length) ((Hm (((a0.Blocks.getD i9.toNat default).Ops).getD i21.toNat default)).bind λx25=>(bif (decide ((0:Int)<x25.1)) then(Az (A2 i21 ((a0.Blocks.getD i9.toNat default).Ops).length) (Az (l20.length+([(⟨(((a0.Blocks.getD i9.toNat default).Ops).getD i21.toNat default).Dst,i9,i21,(x25.1,x25.2)⟩:Bz)]:List Bz).length<=room) (some (l20++([(⟨(((a0.Blocks.getD i9.toNat default).Ops).getD i21.toNat default).Dst,i9,i21,(x25.1,x25.2)⟩:Bz)]:List Bz))))) else(some l20)))) (λx28=>(some (.next (x28,(w64 (i21+1))))))) else(some (.done l20)))
def Im(a0:TFunc):eT->Option ua:=
 λ((l8,i9):eT)=>(bif (decide (i9<(a0.Blocks.length:Int))) then(Az (A2 i9 a0.Blocks.length) ((Ac (Gf a0 i9) (l8,(0:Int))).bind (λx18=>((Ac (Gg a0 i9) (x18,(0:Int))).bind (λx30=>(some (.next (x30,(w64 (i9+1)))))))))) else(some (.done l8)))
def bt(a0:TFunc)(i9:Int):=(a0.Blocks.getD i9.toNat default)
def vV(a0:TFunc):List AV:=[(Z6 a0.Params),(Z5 a0.Ret),(UH a0.Blocks)]
def rm(i2:Int)(a0:TFunc):=([(⟨(w64 (i2+1)),(-1:Int),(0:Int),((a0.Params.getD i2.toNat 0),(1:Int))⟩:Bz)]:List Bz)
def rl(a0:TFunc)(i9:Int)(i21:Int)(x25:Gq):=([(⟨(((bt a0 i9).Ops).getD i21.toNat default).Dst,i9,i21,(x25.1,x25.2)⟩:Bz)]:List Bz)
def xr(a0:TFunc):=(⟨[CU,(3,(AV.list 5 Pr default ([]:List Bz) (.own 5003))),(4,L7)],[(1,.row 25 (vV a0)),(5003,.tok 5 92 (([]:List Bz).length))],[]⟩:St)
def rk(a0:TFunc)(i9:Int)(i13:Int):=([(⟨(((bt a0 i9).Phis).getD i13.toNat default).Dst,i9,(-1:Int),((((bt a0 i9).Phis).getD i13.toNat default).Bits,(1:Int))⟩:Bz)]:List Bz)
def Kq(a0:TFunc):Option (List Bz):=
 ((Ac (Il a0) (([]:List Bz),(0:Int))).bind (λx6=>((Ac (Im a0) (x6,(0:Int))).bind (λx32=>(some x32)))))
variable{v34:List Bz}
theorem Zt(h:Kq v0=some v34):sP 54 [(V0 v0)] [] (AV.list 5 Pr default v34 (.own 20000)) [(Lj 20000 92 v34.length)]:=
 sG Tryz.func54 λΓ q=>gR q [1] [1] [(2,(AV.list 5 Pr default ([]:List Bz) .exact))] [] (c1 (B2 5 Pr (default:Bz))) (gR q L5 [1] [(3,(AV.list 5 Pr default ([]:List Bz) .exact))] [] (c1 (B2 5 Pr (default:Bz))) (Af q J6 [1] (gLe (st':=(xr v0)) (Le.trans (Bj (st':=⟨[CU,(3,(AV.list 5 Pr default ([]:List Bz) .exact)),(4,L7)],[(1,.row 25 (vV v0))],[]⟩) J6 [1] q) (Le.trans (Ri (t:=3) (nm:=5003) (sz':=5) (λi=>Pr (([]:List Bz).getD i default)) 92 rfl rfl (.inl ⟨rfl,rfl⟩) (λh_=>absurd h_ (by decide))) (Bj (st':=(xr v0)) J6 Nf q))) (tL q h J6 Nf (λu (l1,i2)=>(Cp u [(sR l1),(4,(Z5 i2))] [(Lj 5003 92 l1.length)])) (λu l3=>aG Γ (.exit 0) (Nh L5 Nf u [(sR l3)] [(Lj 5003 92 l3.length)])) (λ⟨l1,i2⟩ y h=>Af q [1,3,4,15] Nf (gC h (λh=>tC h λc4_ h=>tC h λc5_ h=>gR q J6 Nf (Z53 28 (rm i2 v0) 29 l1) [] (c6 c4_ (Br 5 Pr (default:Bz) (rm i2 v0)) (Eq.refl l1.length) c5_ (Iy 5 5003 Pr (default:Bz) l1 (rm i2 v0)) (E2 l1 (rm i2 v0))) (Af q J6 Nf (tN h))) λh=>tS h (gO (Be (Bj L5 Nf q))))) λx6 h=>gA (Af q KZ Nf (tL q h KZ Nf (λu (l8,i9)=>(Cp u [(sR l8),(5,(Z5 i9))] [(Lj 5003 92 l8.length)])) (λu l10=>aG Γ (.exit 2) (⟨[(sR l10)],[(Lj 5003 92 l10.length)],[]⟩:St)) (λ⟨l8,i9⟩ y h=>Af q [1,3,5,34] Nf (gC h (λh=>tV q IR S5 h λh=>Af q TJ S5 (tL q h TJ S5 (λu (l12,i13)=>(Cp u [(sR l12),(7,(Z5 i13))] [(Lj 5003 92 l12.length)])) (λu l14=>aG Γ (.exit 4) (Nh IR S5 u [(sR l14)] [(Lj 5003 92 l14.length)])) (λ⟨l12,i13⟩ y h=>Af q [1,3,5,6,7,46] S5 (gC h (λh=>tC h λc15_ h=>tC h λc16_ h=>tC h λc17_ h=>gR q TJ S5 (Z53 65 (rk v0 i9 i13) 66 l12) [] (c7 c15_ c16_ (Br 5 Pr (default:Bz) (rk v0 i9 i13)) (Eq.refl l12.length) c17_ (Iy 5 5003 Pr (default:Bz) l12 (rk v0 i9 i13)) (E2 l12 (rk v0 i9 i13))) (Af q TJ S5 (tN h))) λh=>tS h (gO (Be (Bj IR S5 q))))) λx18 h=>gA (Af q TK S5 (tL q h TK S5 (λu (l20,i21)=>(Cp u [(sR l20),(8,(Z5 i21))] [(Lj 5003 92 l20.length)])) (λu l22=>aG Γ (.exit 6) (Nh KZ Nf u [(sR l22)] [(Lj 5003 92 l22.length)])) (λ⟨l20,i21⟩ y h=>Af q [1,3,5,6,8,71] S5 (gC h (λh=>tB h λx28 y28 h=>gJ y28 (λl23=>aG Γ .normal (⟨[CU,(sR l23),(5,(Z5 i9)),(6,(.ptr 6 0)),(8,(Z5 i21))],[(1,.row 25 (vV v0)),(6,.row 64 [(AV.list 4 El default (bt v0 i9).Phis .none),(AV.list 6 Lh default (bt v0 i9).Ops .none),(.int .i64 (bt v0 i9).End.Kind),(.int .i64 (bt v0 i9).End.Arg),(AV.list 1 Aq 0 (bt v0 i9).End.To .none)]),(Lj 5003 92 l23.length)],[]⟩:St)) (λy h=>tC h λc24_ h=>tB h λx25 y25 h=>tT q [1,3,5,6,8,9,10] S5 [(Z92 x25.1 x25.2)] (c2 c24_ (X2 y25)) (Af q [1,3,5,6,8,9,10,84] S5 (gC h (λh=>tC h λc26_ h=>tC h λc27_ h=>gR q TK S5 (Z53 98 (rl v0 i9 i21 x25) 99 l20) [] (c6 c26_ (Br 5 Pr (default:Bz) (rl v0 i9 i21 x25)) (Eq.refl l20.length) c27_ (Iy 5 5003 Pr (default:Bz) l20 (rl v0 i9 i21 x25)) (E2 l20 (rl v0 i9 i21 x25))) (tS h (gK (Be Ip)))) λh=>tS h (gK (Be (Bj TK S5 q)))))) (gA (Af q TK S5 (tN h)))) λh=>tS h (gO (Be (Bj KZ Nf q))))) λx30 h=>gA (Af q KZ Nf (tN h)))))) λh=>tS h (gO (Be (Bj [3] [5003] q))))) λx32 h=>gA (Af q [2] [5003] (tS h (Cd bY)))))))))
def Gh(aS:List Bz)(aH:Int):Int->Option (LR Int (Unit ⊕ Int)):=
 λ(i1:Int)=>(bif (decide (i1<(aS.length:Int))) then(Az (A2 i1 aS.length) (bif (((aS.getD i1.toNat default).V:Int)==aH) then(some (.done (.inr i1))) else(some (.next (w64 (i1+1)))))) else(some (.done (.inl ()))))
def AH(Γ:H4)(aS:List Bz)(aH:Int)(r:Int):Exit->St->Prop:=fK Tryz.prog Γ Tryz.f56.results.toList [] (.int .i64 r) []
def Ex(aS:List Bz)(aH:Int):Option Int:=
 ((Ac (Gh aS aH) (0:Int)).bind (λx3=>(match x3 with|(.inl _)=>(some (-1:Int))|(.inr r5)=>(some r5))))
theorem J1(h:Ex v34 v1=some v11):sP 56 [(AV.list 5 Pr default v34 .none),(Z5 v1)] [] (.int .i64 v11) []:=
 sG Tryz.func56 λΓ q=>tW q Gn [] Nd [] (tL q h Nd [] (λu i1=>(Cp u [(5,(Z5 i1))] [])) (λu x_=>match x_ with|(.inl _)=>aG Γ (.exit 0) (⟨[],[],[]⟩:St)|(.inr r_)=>aR (AH Γ v34 v1 r_)) (λi1 y h=>Af q [0,1,5,9] [] (gC h (λh=>tV q [0,1,5,18] [] h λh=>gC h (λh=>Af q [4] [] (tS h (gO (Ll (H5 [] (Le.refl _ _)))))) λh=>Af q Nd [] (tN h)) λh=>tS h (gO (Be (Bj [] [] q))))) λx3 h=>(match x3,h with | .inl _,h=>gA (Af q [4] [] (tS h (Cd []))) | .inr r5,h=>Oz (λst' hk=>tS h (gK hk))))
abbrev zt:=(List (Int×Int)×Int)
def H0(a1:Bv):zt->Option (LR (List (Int×Int)×Int) (List (Int×Int))):=
 λ((l2,i3):zt)=>(bif (decide (i3<(a1.Args.length:Int))) then(Option.bind (α:=Gq) (Option.bind (α:=Bool) (bif (a1.Kind==13) then(some (a1.Kind==13)) else(some (a1.Kind==20))) (λx8=>(bif x8 then(bif (i3==0) then(some ((1:Int),(1:Int))) else(some (a1.Bits,a1.Lanes))) else(Option.bind (α:=Bool) (bif (a1.Kind==14) then(some (a1.Kind==14)) else(some (a1.Kind==15))) (λx11=>(bif x11 then(some ((w64 a1.Imm),(1:Int))) else(Option.bind (α:=Bool) (bif (a1.Kind==16) then(some (a1.Kind==16)) else(some (a1.Kind==17))) (λx14=>(bif x14 then(bif (i3==0) then(some ((64:Int),(1:Int))) else(some (a1.Bits,a1.Lanes))) else(Option.bind (α:=Bool) (bif (a1.Kind==18) then(some (a1.Kind==18)) else(some (a1.Kind==19))) (λx17=>(bif x17 then(Option.bind (α:=Gq) (bif (i3==0) then(some ((1:Int),(1:Int))) else(some (a1.Bits,a1.Lanes))) (λx21=>(match x21 with|(i19,i20)=>(bif (i3==1) then(some ((64:Int),(1:Int))) else(some (i19,i20)))))) else(bif (a1.Kind==21) then(some (a1.Bits,(1:Int))) else(some (a1.Bits,a1.Lanes))))))))))))))) (λx23=>(match x23 with|(i5,i6)=>(Az (l2.length+([(i5,i6)]:List Gq).length<=room) (some (.next ((l2++([(i5,i6)]:List Gq)),(w64 (i3+1))))))))) else(some (.done l2)))
def Aaf(a1:Bv):List AV:=[(Z5 a1.Bits),(Z5 a1.Lanes)]
def fC(l2:List KI):AV:=(wE l2 5003)
def kW:AV:=ye
def kV(a1:Bv):List AV:=[(Z5 a1.Kind),(Z5 a1.Bits),(Z5 a1.Lanes),(Z5 a1.Dst),(Z6 a1.Args),(.int .u64 a1.Imm)]
def rp(a1:Bv)(l2:List KI):List ON:=[(1,.row 70 (kV a1)),(5,.row 90 (Aaf a1)),(5003,.tok 2 90 l2.length)]
def xu:List MP:=[CU,(3,(AV.list 2 Bq ((0:Int),(0:Int)) ([]:List Gq) (.own 5003))),(4,L7)]
def Hn(a1:Bv):Option qj:=
 ((G9 a1).bind λx1=>(bif (!x1) then(some ([]:List Gq)) else((Ac (H0 a1) (([]:List Gq),(0:Int))).bind (λx26=>(some x26)))))
variable{v21:List KI}
theorem X4(h:Hn v6=some v21):sP 100 [(VZ v6)] [] (wE v21 20000) [(20000,.tok 2 90 v21.length)]:=
 sG Tryz.func100 λΓ q=>gR q [1] [1] [(2,kW)] [] (c1 (B2 2 Bq ((0:Int),(0:Int)))) (gR q L5 [1] [(3,kW)] [] (c1 (B2 2 Bq ((0:Int),(0:Int)))) (tB h λx1 y1 h=>tT q [1,3,8] [1] [(Z2 x1)] (c1 (Nx y1)) (gC h (λh=>gR q [2] [] [(2,kW)] [] (c1 (B2 2 Bq ((0:Int),(0:Int)))) (P7 (⟨[(2,kW)],[],[]⟩:St) (tS h (gK (e:=.ret) (H5 [(6002,20000)] (show Le Γ _ (Z69:St) from Le.trans (Bj (st':=⟨[(2,kW)],[],[]⟩) [2] [] q) (Le.trans (Ri (t:=2) (nm:=6002) (sz':=2) (λi=>Bq (([]:List Gq).getD i ((0:Int),(0:Int)))) 90 rfl rfl (.inl ⟨rfl,rfl⟩) (λh_=>absurd h_ (by decide))) (Bj (st':=Z69) [2] [6002] q)))))))) λh=>Af q J6 [1] (gLe (st':=⟨xu,[(1,.row 70 (kV v6)),(5003,.tok 2 90 (([]:List Gq).length))],[]⟩) (Le.trans (Bj (st':=⟨[CU,(3,kW),(4,L7)],[(1,.row 70 (kV v6))],[]⟩) J6 [1] q) (Le.trans (Ri (t:=3) (nm:=5003) (sz':=2) (λi=>Bq (([]:List Gq).getD i ((0:Int),(0:Int)))) 90 rfl rfl (.inl ⟨rfl,rfl⟩) (λh_=>absurd h_ (by decide))) (Bj (st':=⟨xu,[(1,.row 70 (kV v6)),(5003,.tok 2 90 (([]:List Gq).length))],[]⟩) J6 Nf q))) (tL q h J6 Nf (λu (l2,i3)=>(Cp u [(3,(fC l2)),(4,(Z5 i3))] [(5003,.tok 2 90 l2.length)])) (λu l4=>aG Γ (.exit 0) (⟨[(3,(wE l4 5003))],[(5003,.tok 2 90 l4.length)],[]⟩:St)) (λ⟨l2,i3⟩ y h=>Af q [1,3,4,13] Nf (gC h (λh=>Af q L4 Jr (tB h λx23 y23 h=>gJ y23 (λ(i5,i6)=>aG Γ .normal (⟨[CU,(3,(fC l2)),(4,(Z5 i3)),eg],[(1,.row 70 (kV v6)),(5,.row 90 [(Z5 i5),(Z5 i6)]),(5003,.tok 2 90 l2.length)],[]⟩:St)) (λy h=>Af q [1,3,4,5,22] Jr (tB h λx8 y8 h=>gJ y8 (λb7=>aG Γ .normal (⟨[CU,(3,(fC l2)),(4,(Z5 i3)),eg,(22,(Z5 v6.Kind)),(23,(.bool b7))],(rp v6 l2),[]⟩:St)) (λy h=>Af q [1,3,4,5,22,23] Jr (gC h (λh=>tS h (gK (Be Ip))) λh=>Af q [1,3,4,5,22,23] Jr (tS h (gK (Be Ip))))) (gA (gC h (λh=>Af q [1,3,4,5,27] Jr (gC h (λh=>Af q L4 Jr (tS h (gK (Be Ip)))) λh=>tS h (gK (Be (Bj L4 Jr q))))) λh=>tB h λx11 y11 h=>gJ y11 (λb10=>aG Γ .normal (⟨[CU,(3,(fC l2)),(4,(Z5 i3)),eg,(22,(Z5 v6.Kind)),(29,(.bool b10))],(rp v6 l2),[]⟩:St)) (λy h=>Af q [1,3,4,5,22,29] Jr (gC h (λh=>tS h (gK (Be Ip))) λh=>Af q [1,3,4,5,22,29] Jr (tS h (gK (Be Ip))))) (gA (gC h (λh=>Af q L4 Jr (tS h (gK (Be Ip)))) λh=>tB h λx14 y14 h=>gJ y14 (λb13=>aG Γ .normal (⟨[CU,(3,(fC l2)),(4,(Z5 i3)),eg,(22,(Z5 v6.Kind)),(36,(.bool b13))],(rp v6 l2),[]⟩:St)) (λy h=>Af q [1,3,4,5,22,36] Jr (gC h (λh=>tS h (gK (Be Ip))) λh=>Af q [1,3,4,5,22,36] Jr (tS h (gK (Be Ip))))) (gA (gC h (λh=>Af q [1,3,4,5,40] Jr (gC h (λh=>Af q L4 Jr (tS h (gK (Be Ip)))) λh=>tS h (gK (Be (Bj L4 Jr q))))) λh=>tB h λx17 y17 h=>gJ y17 (λb16=>aG Γ .normal (⟨[CU,(3,(fC l2)),(4,(Z5 i3)),eg,(22,(Z5 v6.Kind)),(42,(.bool b16))],(rp v6 l2),[]⟩:St)) (λy h=>Af q [1,3,4,5,22,42] Jr (gC h (λh=>tS h (gK (Be Ip))) λh=>Af q [1,3,4,5,22,42] Jr (tS h (gK (Be Ip))))) (gA (gC h (λh=>tB h λx21 y21 h=>gJ y21 (λ(i19,i20)=>aG Γ .normal (⟨[CU,(3,(fC l2)),(4,(Z5 i3)),eg],[(1,.row 70 (kV v6)),(5,.row 90 [(Z5 i19),(Z5 i20)]),(5003,.tok 2 90 l2.length)],[]⟩:St)) (λy h=>Af q [1,3,4,5,46] Jr (gC h (λh=>Af q L4 Jr (tS h (gK (Be Ip)))) λh=>tS h (gK (Be (Bj L4 Jr q))))) (match x21,h with|⟨i19,i20⟩,h=>gA (Af q [1,3,4,5,49] Jr (gC h (λh=>Af q L4 Jr (tS h (gK (Be Ip)))) λh=>tS h (gK (Be (Bj L4 Jr q))))))) λh=>Af q [1,3,4,5,51] Jr (gC h (λh=>Af q L4 Jr (tS h (gK (Be Ip)))) λh=>tS h (gK (Be (Bj L4 Jr q)))))))))))))) (match x23,h with|⟨i5,i6⟩,h=>gA (tC h λc25_ h=>gR q J6 Nf [(58,(AV.list 2 Bq ((0:Int),(0:Int)) ([(i5,i6)]:List Gq) .exact)),(59,(AV.list 2 Bq ((0:Int),(0:Int)) (l2++([(i5,i6)]:List Gq)) (.own 5003)))] [] (c5 (Br 2 Bq ((0:Int),(0:Int)) ([(i5,i6)]:List Gq)) (Eq.refl l2.length) c25_ (Iy 2 5003 Bq ((0:Int),(0:Int)) l2 ([(i5,i6)]:List Gq)) (E2 l2 ([(i5,i6)]:List Gq))) (Af q J6 Nf (tN h)))))) λh=>tS h (gO (Be (Bj [3] [5003] q))))) λx26 h=>gA (Af q [2] [5003] (tS h (Cd bY))))))))
abbrev VV:=(List Cq×Int)
abbrev qm:=(LR (List Cq×Int) (List Cq))
def Gi(a0:TFunc)(i2:Int)(i7:Int):VV->Option qm:=
 λ((l10,i11):VV)=>(bif (decide (i11<(((((a0.Blocks.getD i2.toNat default).Phis).getD i7.toNat default).Args).length:Int))) then(Az (A2 i11 ((((a0.Blocks.getD i2.toNat default).Phis).getD i7.toNat default).Args).length) (Az (A2 i11 ((((a0.Blocks.getD i2.toNat default).Phis).getD i7.toNat default).From).length) (Az (l10.length+([(⟨(((((a0.Blocks.getD i2.toNat default).Phis).getD i7.toNat default).Args).getD i11.toNat 0),(((((a0.Blocks.getD i2.toNat default).Phis).getD i7.toNat default).From).getD i11.toNat 0),(1000:Int),((((a0.Blocks.getD i2.toNat default).Phis).getD i7.toNat default).Bits,(1:Int))⟩:Cq)]:List Cq).length<=room) (some (.next ((l10++([(⟨(((((a0.Blocks.getD i2.toNat default).Phis).getD i7.toNat default).Args).getD i11.toNat 0),(((((a0.Blocks.getD i2.toNat default).Phis).getD i7.toNat default).From).getD i11.toNat 0),(1000:Int),((((a0.Blocks.getD i2.toNat default).Phis).getD i7.toNat default).Bits,(1:Int))⟩:Cq)]:List Cq)),(w64 (i11+1)))))))) else(some (.done l10)))
def Gj(a0:TFunc)(i2:Int):VV->Option qm:=
 λ((l6,i7):VV)=>(bif (decide (i7<(((a0.Blocks.getD i2.toNat default).Phis).length:Int))) then(Az (A2 i7 ((a0.Blocks.getD i2.toNat default).Phis).length) ((Ac (Gi a0 i2 i7) (l6,(0:Int))).bind (λx16=>(some (.next (x16,(w64 (i7+1)))))))) else(some (.done l6)))
def Gk(a0:TFunc)(i2:Int)(i21:Int)(x24:List KI):VV->Option qm:=
 λ((l25,i26):VV)=>(bif (decide (i26<(x24.length:Int))) then(Az (A2 i21 ((a0.Blocks.getD i2.toNat default).Ops).length) (Az (A2 i26 ((((a0.Blocks.getD i2.toNat default).Ops).getD i21.toNat default).Args).length) (Az (A2 i26 x24.length) (Az (l25.length+([(⟨(((((a0.Blocks.getD i2.toNat default).Ops).getD i21.toNat default).Args).getD i26.toNat 0),i2,i21,(x24.getD i26.toNat ((0:Int),(0:Int)))⟩:Cq)]:List Cq).length<=room) (some (.next ((l25++([(⟨(((((a0.Blocks.getD i2.toNat default).Ops).getD i21.toNat default).Args).getD i26.toNat 0),i2,i21,(x24.getD i26.toNat ((0:Int),(0:Int)))⟩:Cq)]:List Cq)),(w64 (i26+1))))))))) else(some (.done l25)))
def Gl(a0:TFunc)(i2:Int):VV->Option qm:=
 λ((l20,i21):VV)=>(bif (decide (i21<(((a0.Blocks.getD i2.toNat default).Ops).length:Int))) then(Az (A2 i21 ((a0.Blocks.getD i2.toNat default).Ops).length) ((Hn (((a0.Blocks.getD i2.toNat default).Ops).getD i21.toNat default)).bind λx24=>((Ac (Gk a0 i2 i21 x24) (l20,(0:Int))).bind (λx32=>(some (.next (x32,(w64 (i21+1))))))))) else(some (.done l20)))
def In(a0:TFunc):VV->Option qm:=
 λ((l1,i2):VV)=>(bif (decide (i2<(a0.Blocks.length:Int))) then(Option.bind (α:=List Cq) (Az (A2 i2 a0.Blocks.length) ((Ac (Gj a0 i2) (l1,(0:Int))).bind (λx18=>((Ac (Gl a0 i2) (x18,(0:Int))).bind (λx34=>(Option.bind (α:=List Cq) (bif (((a0.Blocks.getD i2.toNat default).End.Kind:Int)==0) then(Az (x34.length+([(⟨(a0.Blocks.getD i2.toNat default).End.Arg,i2,(1000:Int),(a0.Ret,(1:Int))⟩:Cq)]:List Cq).length<=room) (some (x34++([(⟨(a0.Blocks.getD i2.toNat default).End.Arg,i2,(1000:Int),(a0.Ret,(1:Int))⟩:Cq)]:List Cq)))) else(some x34)) (λx38=>(bif (((a0.Blocks.getD i2.toNat default).End.Kind:Int)==2) then(Az (x38.length+([(⟨(a0.Blocks.getD i2.toNat default).End.Arg,i2,(1000:Int),((1:Int),(1:Int))⟩:Cq)]:List Cq).length<=room) (some (x38++([(⟨(a0.Blocks.getD i2.toNat default).End.Arg,i2,(1000:Int),((1:Int),(1:Int))⟩:Cq)]:List Cq)))) else(some x38))))))))) (λx41=>(some (.next (x41,(w64 (i2+1))))))) else(some (.done l1)))
def OQ(a0:TFunc)(i2:Int):=(a0.Blocks.getD i2.toNat default)
def ry(a0:TFunc):List AV:=[(Z6 a0.Params),(Z5 a0.Ret),(UH a0.Blocks)]
def rx(a0:TFunc)(i2:Int):=([(⟨(OQ a0 i2).End.Arg,i2,(1000:Int),(a0.Ret,(1:Int))⟩:Cq)]:List Cq)
def rv(a0:TFunc)(i2:Int):=([(⟨(OQ a0 i2).End.Arg,i2,(1000:Int),((1:Int),(1:Int))⟩:Cq)]:List Cq)
def xw(a0:TFunc):=(⟨[CU,(3,(AV.list 5 Oy default ([]:List Cq) (.own 5003))),(4,L7)],[(1,.row 25 (ry a0)),(5003,.tok 5 96 (([]:List Cq).length))],[]⟩:St)
def ru(a0:TFunc)(i2:Int)(i21:Int)(i26:Int)(x24:List KI):=([(⟨(((((OQ a0 i2).Ops).getD i21.toNat default).Args).getD i26.toNat 0),i2,i21,(x24.getD i26.toNat ((0:Int),(0:Int)))⟩:Cq)]:List Cq)
def rq(a0:TFunc)(i2:Int)(i7:Int)(i11:Int):=([(⟨(((((OQ a0 i2).Phis).getD i7.toNat default).Args).getD i11.toNat 0),(((((OQ a0 i2).Phis).getD i7.toNat default).From).getD i11.toNat 0),(1000:Int),((((OQ a0 i2).Phis).getD i7.toNat default).Bits,(1:Int))⟩:Cq)]:List Cq)
def Kr(a0:TFunc):Option (List Cq):=
 ((Ac (In a0) (([]:List Cq),(0:Int))).bind (λx43=>(some x43)))
variable{v35:List Cq}
theorem Zu(h:Kr v0=some v35):sP 57 [(V0 v0)] [] (AV.list 5 Oy default v35 (.own 20000)) [(Lj 20000 96 v35.length)]:=
 sG Tryz.func57 λΓ q=>gR q [1] [1] [(2,(AV.list 5 Oy default ([]:List Cq) .exact))] [] (c1 (B2 5 Oy (default:Cq))) (gR q L5 [1] [(3,(AV.list 5 Oy default ([]:List Cq) .exact))] [] (c1 (B2 5 Oy (default:Cq))) (Af q J6 [1] (gLe (st':=(xw v0)) (Le.trans (Bj (st':=⟨[CU,(3,(AV.list 5 Oy default ([]:List Cq) .exact)),(4,L7)],[(1,.row 25 (ry v0))],[]⟩) J6 [1] q) (Le.trans (Ri (t:=3) (nm:=5003) (sz':=5) (λi=>Oy (([]:List Cq).getD i default)) 96 rfl rfl (.inl ⟨rfl,rfl⟩) (λh_=>absurd h_ (by decide))) (Bj (st':=(xw v0)) J6 Nf q))) (tL q h J6 Nf (λu (l1,i2)=>(Cp u [(mY l1),(4,(Z5 i2))] [(Lj 5003 96 l1.length)])) (λu l3=>aG Γ (.exit 0) (⟨[(mY l3)],[(Lj 5003 96 l3.length)],[]⟩:St)) (λ⟨l1,i2⟩ y h=>Af q [1,3,4,16] Nf (gC h (λh=>tB h λx41 y41 h=>gJ y41 (λl4=>aG Γ .normal (⟨[CU,(mY l4),(4,(Z5 i2))],[(1,.row 25 (ry v0)),(Lj 5003 96 l4.length)],[]⟩:St)) (λy h=>tV q L4 Jr h λh=>Af q Sj Jr (tL q h Sj Jr (λu (l6,i7)=>(Cp u [(mY l6),(6,(Z5 i7))] [(Lj 5003 96 l6.length)])) (λu l8=>aG Γ (.exit 2) (Nh L4 Jr u [(mY l8)] [(Lj 5003 96 l8.length)])) (λ⟨l6,i7⟩ y h=>Af q [1,3,4,5,6,28] Jr (gC h (λh=>tV q [1,3,4,5,6,7] KU h λh=>Af q bT KU (tL q h bT KU (λu (l10,i11)=>(Cp u [(mY l10),(8,(Z5 i11))] [(Lj 5003 96 l10.length)])) (λu l12=>aG Γ (.exit 4) (Nh Sj Jr u [(mY l12)] [(Lj 5003 96 l12.length)])) (λ⟨l10,i11⟩ y h=>Af q [1,3,4,5,6,7,8,40] KU (gC h (λh=>tC h λc13_ h=>tC h λc14_ h=>tC h λc15_ h=>gR q bT KU (Z34 58 (rq v0 i2 i7 i11) 59 l10) [] (c7 c13_ c14_ (Br 5 Oy (default:Cq) (rq v0 i2 i7 i11)) (Eq.refl l10.length) c15_ (Iy 5 5003 Oy (default:Cq) l10 (rq v0 i2 i7 i11)) (E2 l10 (rq v0 i2 i7 i11))) (Af q bT KU (tN h))) λh=>tS h (gO (Be (Bj Sj Jr q))))) λx16 h=>gA (Af q Sj Jr (tN h)))) λh=>tS h (gO (Be (Bj L4 Jr q))))) λx18 h=>gA (Af q TL Jr (tL q h TL Jr (λu (l20,i21)=>(Cp u [(mY l20),(9,(Z5 i21))] [(Lj 5003 96 l20.length)])) (λu l22=>aG Γ (.exit 6) (Nh L4 Jr u [(mY l22)] [(Lj 5003 96 l22.length)])) (λ⟨l20,i21⟩ y h=>Af q [1,3,4,5,9,64] Jr (gC h (λh=>tC h λc23_ h=>tB h λx24 y24 h=>tT q [1,3,4,5,9,10] YU [⟨[],[(20000,72)],(wE x24 20000),[(20000,.tok 2 90 x24.length)],[],[]⟩] (c2 c23_ (X4 y24)) (Af q bQ YU (tL q h bQ YU (λu (l25,i26)=>(Cp u [(mY l25),(11,(Z5 i26))] [(Lj 5003 96 l25.length)])) (λu l27=>aG Γ (.exit 8) (Nh TL Jr u [(mY l27)] [(Lj 5003 96 l27.length)])) (λ⟨l25,i26⟩ y h=>Af q [1,3,4,5,9,10,11,76] YU (gC h (λh=>tC h λc28_ h=>tC h λc29_ h=>tC h λc30_ h=>tC h λc31_ h=>gR q bQ YU (Z34 96 (ru v0 i2 i21 i26 x24) 97 l25) [] (c8 c28_ c29_ c30_ (Br 5 Oy (default:Cq) (ru v0 i2 i21 i26 x24)) (Eq.refl l25.length) c31_ (Iy 5 5003 Oy (default:Cq) l25 (ru v0 i2 i21 i26 x24)) (E2 l25 (ru v0 i2 i21 i26 x24))) (Af q bQ YU (tN h))) λh=>tS h (gO (Be (Bj TL Jr q))))) λx32 h=>gA (Af q TL Jr (tN h))))) λh=>tS h (gO (Be (Bj L4 Jr q))))) λx34 h=>gA (tB h λx38 y38 h=>gJ y38 (λl36=>aG Γ .normal (⟨[CU,(mY l36),(4,(Z5 i2)),eg],[(1,.row 25 (ry v0)),(5,.row 64 [(AV.list 4 El default (OQ v0 i2).Phis .none),(AV.list 6 Lh default (OQ v0 i2).Ops .none),(.int .i64 (OQ v0 i2).End.Kind),(.int .i64 (OQ v0 i2).End.Arg),(AV.list 1 Aq 0 (OQ v0 i2).End.To .none)]),(Lj 5003 96 l36.length)],[]⟩:St)) (λy h=>Af q [1,3,4,5,101] Jr (gC h (λh=>tC h λc37_ h=>gR q L4 Jr (Z34 111 (rx v0 i2) 112 x34) [] (c5 (Br 5 Oy (default:Cq) (rx v0 i2)) (Eq.refl x34.length) c37_ (Iy 5 5003 Oy (default:Cq) x34 (rx v0 i2)) (E2 x34 (rx v0 i2))) (tS h (gK (Be Ip)))) λh=>tS h (gK (Be (Bj L4 Jr q))))) (gA (Af q [1,3,4,5,116] Jr (gC h (λh=>tC h λc40_ h=>gR q J6 Nf (Z34 124 (rv v0 i2) 125 x38) [] (c5 (Br 5 Oy (default:Cq) (rv v0 i2)) (Eq.refl x38.length) c40_ (Iy 5 5003 Oy (default:Cq) x38 (rv v0 i2)) (E2 x38 (rv v0 i2))) (tS h (gK (Be Ip)))) λh=>tS h (gK (Be (Bj J6 Nf q))))))))))) (gA (Af q J6 Nf (tN h)))) λh=>tS h (gO (Be (Bj [3] [5003] q))))) λx43 h=>gA (Af q [2] [5003] (tS h (Cd bY)))))))
def Ii(a8:TGraph)(aE:TGraph):Int->Option (LR Int (Unit ⊕ Bool)):=
 λ(i1:Int)=>(bif (decide (i1<(a8.Succ.length:Int))) then(Az (A2 i1 a8.Succ.length) (Az (A2 i1 aE.Succ.length) ((Bb (a8.Succ.getD i1.toNat []) (aE.Succ.getD i1.toNat [])).bind λx4=>(bif (!x4) then(some (.done (.inr false))) else(some (.next (w64 (i1+1)))))))) else(some (.done (.inl ()))))
def Ij(a8:TGraph)(aE:TGraph):Int->Option (LR Int (Unit ⊕ Bool)):=
 λ(i7:Int)=>(bif (decide (i7<(a8.Pred.length:Int))) then(Az (A2 i7 a8.Pred.length) (Az (A2 i7 aE.Pred.length) ((Bb (a8.Pred.getD i7.toNat []) (aE.Pred.getD i7.toNat [])).bind λx10=>(bif (!x10) then(some (.done (.inr false))) else(some (.next (w64 (i7+1)))))))) else(some (.done (.inl ()))))
def R4(Γ:H4)(a8:TGraph)(aE:TGraph)(r:Bool):Exit->St->Prop:=fK Tryz.prog Γ Tryz.f149.results.toList [] (.bool r) []
def Aag(a8:TGraph)(aE:TGraph):=(((a8.Succ.length:Int)!=(aE.Succ.length:Int))==false)
def Kn(a8:TGraph)(aE:TGraph):Option Bool:=
 (bif (bif ((a8.Succ.length:Int)!=(aE.Succ.length:Int)) then true else((a8.Pred.length:Int)!=(aE.Pred.length:Int))) then(some false) else((Ac (Ii a8 aE) (0:Int)).bind (λx5=>(match x5 with|(.inl _)=>((Ac (Ij a8 aE) (0:Int)).bind (λx11=>(match x11 with|(.inl _)=>(some true)|(.inr r13)=>(some r13))))|(.inr r14)=>(some r14)))))
variable{v36:TGraph}
theorem Zq(h:Kn v18 v36=some v3):sP 149 [(.agg (Xg v18)),(.agg (Xg v36))] [] (.bool v3) []:=
 sG Tryz.func149 λΓ q=>Af q C0 C0 (tU q [2,3,22] C0 (wh (Aag v18 v36) (c1 (Ly ((v18.Succ.length:Int)!=(v36.Succ.length:Int))))) (gC h (λh=>Af q [4] [] (tS h (Cd []))) λh=>Af q CN C0 (tL q h CN C0 (λu i1=>(Cp u [(5,(Z5 i1))] [])) (λu x_=>match x_ with|(.inl _)=>aG Γ (.exit 0) (Nh C0 C0 u [] [])|(.inr r_)=>aR (R4 Γ v18 v36 r_)) (λi1 y h=>Af q [2,3,5,27] C0 (gC h (λh=>tC h λc2_ h=>tC h λc3_ h=>tB h λx4 y4 h=>tT q [2,3,5,41] C0 [(Z2 x4)] (c3 c2_ c3_ (Cl y4)) (gC h (λh=>Af q [4] [] (tS h (gO (Ll (H5 [] (Le.refl _ _)))))) λh=>Af q CN C0 (tN h))) λh=>tS h (gO (Be (Bj C0 C0 q))))) λx5 h=>(match x5,h with | .inl _,h=>gA (Af q [2,3,6] C0 (tL q h [2,3,6] C0 (λu i7=>(Cp u [(6,(Z5 i7))] [])) (λu x_=>match x_ with|(.inl _)=>aG Γ (.exit 2) (⟨[],[],[]⟩:St)|(.inr r_)=>aR (R4 Γ v18 v36 r_)) (λi7 y h=>Af q [2,3,6,46] C0 (gC h (λh=>tC h λc8_ h=>tC h λc9_ h=>tB h λx10 y10 h=>tT q [2,3,6,60] C0 [(Z2 x10)] (c3 c8_ c9_ (Cl y10)) (gC h (λh=>Af q [4] [] (tS h (gO (Ll (H5 [] (Le.refl _ _)))))) λh=>Af q [2,3,6] C0 (tN h))) λh=>tS h (gO (Be (Bj [] [] q))))) λx11 h=>(match x11,h with | .inl _,h=>gA (Af q [4] [] (tS h (Cd []))) | .inr r13,h=>Oz (λst' hk=>tS h (gK hk))))) | .inr r14,h=>Oz (λst' hk=>tS h (gK hk))))))
def Lo(a4:TGraph):Option Bool:=
 ((H3 a4.Succ).bind λx1=>((bif ((x1.2==0)==true) then Kn x1.1 a4 else some false).bind λx2=>(some (bif (x1.2==0) then x2 else false))))
theorem BK(h:Lo v18=some v3):sP 101 [(.agg (Xg v18))] [] (.bool v3) []:=
 sG Tryz.func101 λΓ q=>Af q [1] [1] (tB h λx1 y1 h=>tT q J6 L5 [(xV x1.1 x1.2)] (c1 (Rd y1)) (tB h λx2 y2 h=>tT q [2] [] [(Z2 x2)] (Mt ((x1.2==0)==true) (c2 (λ(hg:((x1.2==0)==true)=true)=>(Zq (Bf hg y2))) (Ng (x1.2==0)))) (tS h (Cd []))))
def Di(a4:TGraph)(x2:List Bool)(i4:Int)(l5:List (List Bool))(x9:List Bool):Zx->Option bN:=
 λ((i10,l11):Zx)=>(bif (decide (i10<(a4.Succ.length:Int))) then(Az (A2 i4 l5.length) (Az (A2 i10 x2.length) (Az (((x2.getD i10.toNat false)==true)=true->(A2 i10 x9.length)) (Az (A2 i10 l11.length) (some (.next ((w64 (i10+1)),(l11.set i10.toNat (bif (x2.getD i10.toNat false) then(!(x9.getD i10.toNat false)) else false))))))))) else(some (.done l11)))
abbrev zu:=(Int×List (List Bool))
def Ik(a4:TGraph)(a2:Int)(x2:List Bool):zu->Option (LR (Int×List (List Bool)) (List (List Bool))):=
 λ((i4,l5):zu)=>(bif (decide (i4<(a4.Succ.length:Int))) then(Az (0<=(a4.Succ.length:Int)/\(a4.Succ.length:Int)<=(a4.Succ.length:Int)/\(a4.Succ.length:Int)<=(room:Int)) (Az (A2 i4 l5.length) ((Dc a4 a2 i4).bind λx9=>((Ac (Di a4 x2 i4 l5 x9) ((0:Int),(List.replicate (a4.Succ.length:Int).toNat false))).bind (λx17=>(some (.next ((w64 (i4+1)),(l5.set i4.toNat x17))))))))) else(some (.done l5)))
def Dj(a4:TGraph)(l6:List (List Bool))(i22:Int)(i30:Int):(Bool×Int)->Option (LR (Bool×Int) Bool):=
 λ((b36,i37):(Bool×Int))=>(bif (decide (i37<(a4.Succ.length:Int))) then(Az (((b36==true)&&((i37==i22)==false))=true->(A2 i37 l6.length)) (Az (((b36==true)&&((i37==i22)==false))=true->(A2 i22 (l6.getD i37.toNat []).length)) (Az (((b36==true)&&((bif (i37==i22) then true else(!((l6.getD i37.toNat []).getD i22.toNat false)))==false))=true->(A2 i37 l6.length)) (Az (((b36==true)&&((bif (i37==i22) then true else(!((l6.getD i37.toNat []).getD i22.toNat false)))==false))=true->(A2 i30 (l6.getD i37.toNat []).length)) (some (.next ((bif b36 then(bif (bif (i37==i22) then true else(!((l6.getD i37.toNat []).getD i22.toNat false))) then true else((l6.getD i37.toNat []).getD i30.toNat false)) else false),(w64 (i37+1))))))))) else(some (.done b36)))
def B5(a4:TGraph)(a2:Int)(l6:List (List Bool))(i22:Int):CD->Option qg:=
 λ((i30,l31):CD)=>(bif (bif (decide (i30<(a4.Succ.length:Int))) then(i22 !=a2) else false) then(Option.bind (α:=Ar) (Az (((i30==i22)==false)=true->(A2 i30 l6.length)) (Az (((i30==i22)==false)=true->(A2 i22 (l6.getD i30.toNat []).length)) (bif (bif (i30==i22) then true else(!((l6.getD i30.toNat []).getD i22.toNat false))) then(some l31) else((Ac (Dj a4 l6 i22 i30) (true,(0:Int))).bind (λx43=>(bif x43 then(Az (A2 i22 l31.length) (some (l31.set i22.toNat i30))) else(some l31))))))) (λx46=>(some (.next ((w64 (i30+1)),x46))))) else(some (.done l31)))
def Dk(a4:TGraph)(a2:Int)(l6:List (List Bool)):CD->Option qg:=
 λ((i22,l23):CD)=>(bif (decide (i22<(a4.Succ.length:Int))) then(Az (A2 i22 l23.length) (Option.bind (α:=Ar) (bif (i22==a2) then(Az (A2 i22 (l23.set i22.toNat (-2:Int)).length) (some ((l23.set i22.toNat (-2:Int)).set i22.toNat (-1:Int)))) else(some (l23.set i22.toNat (-2:Int)))) (λx28=>((Ac (B5 a4 a2 l6 i22) ((0:Int),x28)).bind (λx48=>(some (.next ((w64 (i22+1)),x48)))))))) else(some (.done l23)))
def P4(a4:TGraph):=(a4.Succ.length:Int)
def fF:=(λn_=>Bx n_ [37,75])
def P3(l5:List (List Bool)):=(λi=>ZO (l5.getD i []))
def OR(a4:TGraph):=(List.replicate (P4 a4).toNat false)
def bu(a4:TGraph):List AV:=[(.vsl 46 (OR a4).length)]
def m9(i30:Int)(i22:Int):=((i30==i22)==false)
def UQ(l23:Ar)(i22:Int):=(l23.set i22.toNat (-2:Int))
def ka(l11:List Bool):=(λi=>eB (l11.getD i false))
def kZ:=(λn_=>Bx n_ [2,35,37,46])
def OS:=(λn_=>Bx n_ [2,35,37,46,51])
def UP(a4:TGraph):=(λi=>eB ((OR a4).getD i false))
def ND(l11:List Bool)(i10:Int)(x2:List Bool)(x9:List Bool):=(l11.set i10.toNat (bif (x2.getD i10.toNat false) then(!(x9.getD i10.toNat false)) else false))
def fE(l11:List Bool)(i10:Int)(x2:List Bool)(x9:List Bool):=(λi=>eB ((ND l11 i10 x2 x9).getD i false))
def kY(b36:Bool)(i37:Int)(i22:Int):=((b36==true)&&((i37==i22)==false))
def sB:List MP:=[(4,fI)]
def xx(x1:Bool)(a2:Int):=(bif (!x1) then true else(decide (a2<0)))
def P9(a4:TGraph):List AV:=[(NR a4.Succ),(NR a4.Pred)]
def xy:=(Z33:St)
def kX(b36:Bool)(i37:Int)(i22:Int)(x19:List (List Bool)):=((b36==true)&&((bif (i37==i22) then true else(!((x19.getD i37.toNat []).getD i22.toNat false)))==false))
def fD(a2:Int)(a4:TGraph)(x2:List Bool)(l5:List (List Bool))(i4:Int):List MP:=[(1,(Z5 a2)),Uj,(5,(Z5 (P4 a4))),(6,(NQ x2 35)),(Vi 37 l5.length),(8,(Z5 i4))]
def sA(a2:Int)(a4:TGraph)(x2:List Bool)(l5:List (List Bool))(i4:Int):List MP:=[(1,(Z5 a2)),Uj,(5,(Z5 (P4 a4))),(6,(NQ x2 35)),(Vi 37 l5.length),(8,(.int .i64 (w64 (i4+1))))]
def r9(a2:Int)(a4:TGraph)(x2:List Bool)(l5:List (List Bool))(i4:Int)(x9:List Bool)(i10:Int):List MP:=[(1,(Z5 a2)),Uj,(5,(Z5 (P4 a4))),(6,(NQ x2 35)),(Vi 37 l5.length),(8,(Z5 i4)),(9,(NQ x9 51)),(10,(Z5 i10))]
def m8(a2:Int)(a4:TGraph)(x2:List Bool)(l5:List (List Bool))(i4:Int)(x9:List Bool):List MP:=[(1,(Z5 a2)),Uj,(5,(Z5 (P4 a4))),(6,(NQ x2 35)),(Vi 37 l5.length),(8,(Z5 i4)),(9,(NQ x9 51)),(10,L7)]
def rz(a2:Int)(a4:TGraph)(x2:List Bool)(l5:List (List Bool))(i4:Int)(x9:List Bool)(i10:Int):List MP:=[(1,(Z5 a2)),Uj,(5,(Z5 (P4 a4))),(6,(NQ x2 35)),(Vi 37 l5.length),(8,(Z5 i4)),(9,(NQ x9 51)),(10,(.int .i64 (w64 (i10+1))))]
def xz(a2:Int)(a4:TGraph)(x2:List Bool)(l5:List (List Bool))(i4:Int)(x9:List Bool)(i10:Int):List MP:=[(1,(Z5 a2)),Uj,(5,(Z5 (P4 a4))),(6,(NQ x2 35)),(Vi 37 l5.length),(8,(Z5 i4)),(9,(NQ x9 51)),(10,(Z5 i10)),(54,(.bool (decide (i10<(P4 a4)))))]
def Kp(a4:TGraph)(a2:Int):Option Ar:=
 ((Lo a4).bind λx1=>(bif (bif (bif (!x1) then true else(decide (a2<0))) then true else(decide ((a4.Succ.length:Int)<=a2))) then(some ([]:Ar)) else((Dc a4 a2 (-1:Int)).bind λx2=>(Az (0<=(a4.Succ.length:Int)/\(a4.Succ.length:Int)<=(a4.Succ.length:Int)/\(a4.Succ.length:Int)<=(room:Int)) ((Ac (Ik a4 a2 x2) ((0:Int),(List.replicate (a4.Succ.length:Int).toNat ([]:List Bool)))).bind (λx19=>(Az (0<=(a4.Succ.length:Int)/\(a4.Succ.length:Int)<=(a4.Succ.length:Int)/\(a4.Succ.length:Int)<=(room:Int)) ((Ac (Dk a4 a2 x19) ((0:Int),(List.replicate (a4.Succ.length:Int).toNat (0:Int)))).bind (λx50=>(some x50))))))))))
theorem Zs(h:Kp v18 v1=some v2):sP 58 (rN v18 v1) [] (Vz v2 20000) [(Yp 20000 v2.length)]:=
 sG Tryz.func58 λΓ q=>have hΓ:=q.own;gR q D7 [2] sB [] (c1 (B2 1 Aq (0:Int))) (tB h λx1 y1 h=>tT q [1,2,29] [2] [(Z2 x1)] (UJ (BK y1) (gI ((!x1)==false)) (Ly (!x1)) (LM ((xx x1 v1)==false) (c1 (Ly (xx x1 v1))))) (gC h (λh=>gR q [4] [] sB [] (c1 (B2 1 Aq (0:Int))) (P7 (⟨sB,[],[]⟩:St) (tS h (gK (e:=.ret) (H5 bV (show Le Γ _ xy from Le.trans (Bj (st':=⟨sB,[],[]⟩) [4] [] q) (Le.trans (Ri (t:=4) (nm:=6004) (sz':=1) (λi=>Aq (([]:Ar).getD i 0)) 3 rfl rfl (.inl ⟨rfl,rfl⟩) (λh_=>absurd h_ (by decide))) (Bj (st':=xy) [4] [6004] q)))))))) λh=>Af q CT [2] (tB h λx2 y2 h=>tT q [1,2,5,6] [2,35] [(xU 35 x2 x2.length)] (c1 (Mg y2)) (tV q iS KY h λh=>by exact gLe (Le.trans (Sn 37 (show ∀ k_,k_<((P4 v18).toNat)->AVleL ((λi_=>AV.eraseAll (λn_=>Bx n_ KY) ((λ_=>[Zz]) i_)) k_) ((λi=>ZO ((List.replicate (P4 v18).toNat ([]:List Bool)).getD i [])) k_) from(λk hk=>M7 (e:=ZO) (d:=[]) (.cons (λ_ _ _ _ _ hh=>AVle.untag _ _ _ _ _ (Ej _ _ _ _ _ hh)) .nil) _ k (M8 hk)))) (R7 (λ(k_:Nat) u=>(Cp u [(Vi 37 k_)] [(37,.arr 1 81 k_ (λi=>ZO ((List.replicate (P4 v18).toNat ([]:List Bool)).getD i [])))])) (show(P4 v18).toNat=(List.replicate (P4 v18).toNat ([]:List Bool)).length from(N7 ..).symm))) (Af q YS KY (tL q h YS KY (λu (i4,l5)=>(Cp u [(Vi 37 l5.length),(8,(Z5 i4))] [(37,.arr 1 81 l5.length (P3 l5))])) (λu l6=>aG Γ (.exit 0) (Nh [1,5,7] [37] u [(Vi 37 l6.length)] [(37,.arr 1 81 l6.length (λi=>ZO (l6.getD i [])))])) (λ⟨i4,l5⟩ y h=>Af q [1,2,5,6,7,8,40] KY (gC h (λh=>tC h λc7_ h=>tC h λc8_ h=>tU q YS iY (c3 c7_ c8_ (Eq.refl l5.length)) (P7 (⟨(fD v1 v18 x2 l5 i4),[(Pq 56 (P9 v18)),(Q6 35 x2.length),(37,.arr 1 81 l5.length (λi_=>AV.eraseAll kZ ((Fd (P3 l5) i4.toNat 0 [(.vsl 46 (P4 v18).toNat)]) i_))),(46,.arr 1 4 ((P4 v18).toNat) (λi_=>AV.eraseAll kZ ((λ_=>[(.bool false)]) i_)))],[]⟩:St) (by exact gLe (Le.trans (Le.trans (I7 (st':=⟨(fD v1 v18 x2 l5 i4),[(Pq 56 (P9 v18)),(Q6 35 x2.length),(37,.arr 1 81 l5.length (λi_=>AV.eraseAll kZ ((Fd (P3 l5) i4.toNat 0 [(.vsl 46 (P4 v18).toNat)]) i_))),(46,.arr 1 4 ((P4 v18).toNat) (UP v18))],[]⟩) (TmpsLe.refl _) (.same (.same (.same (.arr (λk hk=>M7 (e:=eB) (d:=false) (.cons (AVle.refl _) .nil) _ k (M8 hk)) .nil))))) (Gt (Bk (λk_:Nat=>(⟨(fD v1 v18 x2 l5 i4),[(Pq 56 (P9 v18)),(Q6 35 x2.length),(wD l5.length kZ (P3 l5) i4.toNat k_),(46,.arr 1 4 k_ (UP v18))],[]⟩:St)) (show(P4 v18).toNat=(OR v18).length from(N7 ..).symm)))) (I7 (st':=⟨(fD v1 v18 x2 l5 i4),[(Pq 56 (P9 v18)),(Q6 35 x2.length),(37,.arr 1 81 l5.length (Fd (P3 l5) i4.toNat 0 (bu v18))),(46,.arr 1 4 ((OR v18).length) (UP v18))],[]⟩) (TmpsLe.refl _) (.same (.same (.arr (Mu (λ_=>rfl) rfl) (.same .nil)))))) (tB h λx9 y9 h=>tT q [1,2,5,6,7,8,9] UD [(xU 51 x9 x9.length)] (c1 (Mg y9)) (P7 (⟨[(1,(Z5 v1)),Uj,(5,(Z5 (P4 v18))),(6,(NQ x2 35)),(Vi 37 l5.length),(8,(Z5 i4)),(9,(NQ x9 51))],[(Pq 56 (P9 v18)),(Q6 35 x2.length),(37,.arr 1 81 l5.length (λi_=>AV.eraseAll OS ((Fd (P3 l5) i4.toNat 0 (bu v18)) i_))),(46,.arr 1 4 ((OR v18).length) (UP v18)),(Q6 51 x9.length)],[]⟩:St) (gLe (I7 (st':=⟨[(1,(Z5 v1)),Uj,(5,(Z5 (P4 v18))),(6,(NQ x2 35)),(Vi 37 l5.length),(8,(Z5 i4)),(9,(NQ x9 51))],[(Pq 56 (P9 v18)),(Q6 35 x2.length),(37,.arr 1 81 l5.length (Fd (P3 l5) i4.toNat 0 (bu v18))),(46,.arr 1 4 ((OR v18).length) (UP v18)),(Q6 51 x9.length)],[]⟩) (TmpsLe.refl _) (.same (.same (.arr (Mu (λ_=>rfl) rfl) (.same (.same .nil)))))) (Af q eW UD (P7 (⟨(m8 v1 v18 x2 l5 i4 x9),[(Pq 56 (P9 v18)),(Q6 35 x2.length),(37,.arr 1 81 l5.length (λi_=>AV.eraseAll OS ((Fd (P3 l5) i4.toNat 0 (bu v18)) i_))),(46,.arr 1 4 ((OR v18).length) (UP v18)),(Q6 51 x9.length)],[]⟩:St) (gLe (I7 (st':=⟨(m8 v1 v18 x2 l5 i4 x9),[(Pq 56 (P9 v18)),(Q6 35 x2.length),(37,.arr 1 81 l5.length (Fd (P3 l5) i4.toNat 0 (bu v18))),(46,.arr 1 4 ((OR v18).length) (UP v18)),(Q6 51 x9.length)],[]⟩) (TmpsLe.refl _) (.same (.same (.arr (Mu (λ_=>rfl) rfl) (.same (.same .nil)))))) (gLe (st':=⟨(m8 v1 v18 x2 l5 i4 x9),[(Pq 56 (P9 v18)),(Q6 35 x2.length),(37,.arr 1 81 l5.length (Fd (P3 l5) i4.toNat 0 (bu v18))),(46,.arr 1 4 ((OR v18).length) (UP v18)),(Q6 51 x9.length)],[]⟩) (Le.trans (Le.trans (Bj (st':=⟨(m8 v1 v18 x2 l5 i4 x9),[(Pq 56 (P9 v18)),(Q6 35 x2.length),(37,.arr 1 81 l5.length (λi_=>AV.eraseAll OS ((Fd (P3 l5) i4.toNat 0 (bu v18)) i_))),(46,.arr 1 4 ((OR v18).length) (UP v18)),(Q6 51 x9.length)],[]⟩) eW UD q) (I7 (st':=⟨(m8 v1 v18 x2 l5 i4 x9),[(Pq 56 (P9 v18)),(Q6 35 x2.length),(37,.arr 1 81 l5.length (Fd (P3 l5) i4.toNat 0 (bu v18))),(46,.arr 1 4 ((OR v18).length) (UP v18)),(Q6 51 x9.length)],[]⟩) (TmpsLe.refl _) (.same (.same (.arr (Mu (λ_=>rfl) rfl) (.same (.same .nil))))))) (Gt (by kernel_rfl))) (tB h λx17 y17 h=>gL0 y17 (λu (i10,l11)=>(Cp u [(10,(Z5 i10))] [(yk l5.length (P3 l5) i4.toNat l11.length),(46,.arr 1 4 l11.length (ka l11))])) (λu l12=>aG Γ (.exit 2) (⟨(fD v1 v18 x2 l5 i4),[(Pq 56 (P9 v18)),(Q6 35 x2.length),(yk l5.length (P3 l5) i4.toNat l12.length),(Z9 46 l12)],[]⟩:St)) (λ⟨i10,l11⟩ y h=>Af q [1,2,5,6,7,8,9,10,54] UD (P7 (⟨(xz v1 v18 x2 l5 i4 x9 i10),[(Pq 56 (P9 v18)),(Q6 35 x2.length),(wD l5.length OS (P3 l5) i4.toNat l11.length),(46,.arr 1 4 l11.length (ka l11)),(Q6 51 x9.length)],[]⟩:St) (gLe (I7 (st':=⟨(xz v1 v18 x2 l5 i4 x9 i10),[(Pq 56 (P9 v18)),(Q6 35 x2.length),(yk l5.length (P3 l5) i4.toNat l11.length),(46,.arr 1 4 l11.length (ka l11)),(Q6 51 x9.length)],[]⟩) (TmpsLe.refl _) (.same (.same (.arr (Mu (λ_=>rfl) rfl) (.same (.same .nil)))))) (gC h (λh=>tC h λc13_ h=>tC h λc14_ h=>tC h λc15_ h=>tC h λc16_ h=>gR q eW UD [(60,(.vsl 46 l11.length))] [] (d4_ c13_ (Eq.refl l5.length) (show(AVle (((Fd (P3 l5) i4.toNat 0 [(.vsl 46 l11.length)]) i4.toNat).getD 0 .any) (.vsl 46 l11.length)) from lR) c14_ (Mt ((x2.getD i10.toNat false)==true) (ci c15_ (Mt ((x2.getD i10.toNat false)==true) (c3 (Ng (x2.getD i10.toNat false)) c16_ (Eq.refl l11.length)))))) (P7 (⟨(r9 v1 v18 x2 l5 i4 x9 i10),[(Pq 56 (P9 v18)),(Q6 35 x2.length),(wD l5.length OS (P3 l5) i4.toNat l11.length),(46,.arr 1 4 l11.length (λi_=>AV.eraseAll OS ((Fd (ka l11) i10.toNat 0 [(.bool (bif (x2.getD i10.toNat false) then(!(x9.getD i10.toNat false)) else false))]) i_))),(Q6 51 x9.length)],[]⟩:St) (gLe (Le.trans (Le.trans (I7 (st':=⟨(r9 v1 v18 x2 l5 i4 x9 i10),[(Pq 56 (P9 v18)),(Q6 35 x2.length),(wD l5.length OS (P3 l5) i4.toNat l11.length),(46,.arr 1 4 l11.length (fE l11 i10 x2 x9)),(Q6 51 x9.length)],[]⟩) (TmpsLe.refl _) (.same (.same (.same (.arr (Bi (Dd ..).symm (λk_ hk_=>(Bk (AV.eraseAll OS) ((Fv (λ_ _=>rfl) (Hw c16_) rfl) k_ hk_)).trans rfl)) (.same .nil)))))) (Gt (Bk (λk_:Nat=>(⟨(r9 v1 v18 x2 l5 i4 x9 i10),[(Pq 56 (P9 v18)),(Q6 35 x2.length),(wD l5.length OS (P3 l5) i4.toNat k_),(46,.arr 1 4 k_ (fE l11 i10 x2 x9)),(Q6 51 x9.length)],[]⟩:St)) (show l11.length=(ND l11 i10 x2 x9).length from(Dd ..).symm)))) (I7 (st':=⟨(r9 v1 v18 x2 l5 i4 x9 i10),[(Pq 56 (P9 v18)),(Q6 35 x2.length),(37,.arr 1 81 l5.length (Fd (P3 l5) i4.toNat 0 [(.vsl 46 (ND l11 i10 x2 x9).length)])),(46,.arr 1 4 ((ND l11 i10 x2 x9).length) (fE l11 i10 x2 x9)),(Q6 51 x9.length)],[]⟩) (TmpsLe.refl _) (.same (.same (.arr (Mu (λ_=>rfl) rfl) (.same (.same .nil))))))) (Af q eW UD (P7 (⟨(rz v1 v18 x2 l5 i4 x9 i10),[(Pq 56 (P9 v18)),(Q6 35 x2.length),(37,.arr 1 81 l5.length (λi_=>AV.eraseAll OS ((Fd (P3 l5) i4.toNat 0 [(.vsl 46 (ND l11 i10 x2 x9).length)]) i_))),(46,.arr 1 4 ((ND l11 i10 x2 x9).length) (fE l11 i10 x2 x9)),(Q6 51 x9.length)],[]⟩:St) (tS h (gN (Le.trans (I7 (st':=⟨(rz v1 v18 x2 l5 i4 x9 i10),[(Pq 56 (P9 v18)),(Q6 35 x2.length),(37,.arr 1 81 l5.length (Fd (P3 l5) i4.toNat 0 [(.vsl 46 (ND l11 i10 x2 x9).length)])),(46,.arr 1 4 ((ND l11 i10 x2 x9).length) (fE l11 i10 x2 x9)),(Q6 51 x9.length)],[]⟩) (TmpsLe.refl _) (.same (.same (.arr (Mu (λ_=>rfl) rfl) (.same (.same .nil)))))) (Le.trans (Le.trans (Bj (st':=⟨(rz v1 v18 x2 l5 i4 x9 i10),[(Pq 56 (P9 v18)),(Q6 35 x2.length),(37,.arr 1 81 l5.length (λi_=>AV.eraseAll OS ((Fd (P3 l5) i4.toNat 0 [(.vsl 46 (ND l11 i10 x2 x9).length)]) i_))),(46,.arr 1 4 ((ND l11 i10 x2 x9).length) (fE l11 i10 x2 x9)),(Q6 51 x9.length)],[]⟩) eW UD q) (I7 (st':=⟨(rz v1 v18 x2 l5 i4 x9 i10),[(Pq 56 (P9 v18)),(Q6 35 x2.length),(37,.arr 1 81 l5.length (Fd (P3 l5) i4.toNat 0 [(.vsl 46 (ND l11 i10 x2 x9).length)])),(46,.arr 1 4 ((ND l11 i10 x2 x9).length) (fE l11 i10 x2 x9)),(Q6 51 x9.length)],[]⟩) (TmpsLe.refl _) (.same (.same (.arr (Mu (λ_=>rfl) rfl) (.same (.same .nil))))))) (Gt (by kernel_rfl))))))))))) λh=>tS h (gO (Be (Le.trans (Le.trans (Bj (st':=⟨(fD v1 v18 x2 l5 i4),[(Pq 56 (P9 v18)),(Q6 35 x2.length),(wD l5.length kZ (P3 l5) i4.toNat l11.length),(46,.arr 1 4 l11.length (ka l11))],[]⟩) YS iY q) (I7 (st':=⟨(fD v1 v18 x2 l5 i4),[(Pq 56 (P9 v18)),(Q6 35 x2.length),(yk l5.length (P3 l5) i4.toNat l11.length),(46,.arr 1 4 l11.length (ka l11))],[]⟩) (TmpsLe.refl _) (.same (.same (.arr (Mu (λ_=>rfl) rfl) (.same .nil)))))) (Gt (by kernel_rfl))))))))) (gA (Af q YS iY (P7 (⟨(sA v1 v18 x2 l5 i4),[(Pq 56 (P9 v18)),(Q6 35 x2.length),(wD l5.length kZ (P3 l5) i4.toNat x17.length),(Z9 46 x17)],[]⟩:St) (tS h (gN (Le.trans (Le.trans (I7 (st':=⟨(sA v1 v18 x2 l5 i4),[(Pq 56 (P9 v18)),(Q6 35 x2.length),(yk l5.length (P3 l5) i4.toNat x17.length),(Z9 46 x17)],[]⟩) (TmpsLe.refl _) (.same (.same (.arr (Mu (λ_=>rfl) rfl) (.same .nil))))) (Le.trans (Le.trans (Le.trans (le_freeze (nm:=46) (sz:=1) (n:=x17.length) (e:=4) (f:=(λi=>eB (x17.getD i false))) (g:=(λi=>eB (x17.getD i false))) rfl trivial (λ_ _=>rfl) (by rw[hΓ];rfl)) (Gt (st':=⟨(sA v1 v18 x2 l5 i4),[(Pq 56 (P9 v18)),(Q6 35 x2.length),(37,.arr 1 81 l5.length (λi_=>AV.frwAll 46 1 x17.length (λi=>eB (x17.getD i false)) ((Fd (P3 l5) i4.toNat 0 [(.vsl 46 x17.length)]) i_))),(Q6 46 x17.length)],[]⟩) (by kernel_rfl))) (I7 (st':=⟨(sA v1 v18 x2 l5 i4),[(Pq 56 (P9 v18)),(Q6 35 x2.length),(37,.arr 1 81 l5.length (λi=>ZO ((l5.set i4.toNat x17).getD i []))),(Q6 46 x17.length)],[]⟩) (TmpsLe.refl _) (.same (.same (.arr (pK (λ_=>rfl) (λ_=>rfl) rfl) (.same .nil)))))) (Gt (Bk (λk_:Nat=>(⟨[(1,(Z5 v1)),Uj,(5,(Z5 (P4 v18))),(6,(NQ x2 35)),(Vi 37 k_),(8,(.int .i64 (w64 (i4+1))))],[(Pq 56 (P9 v18)),(Q6 35 x2.length),(37,.arr 1 81 k_ (λi=>ZO ((l5.set i4.toNat x17).getD i []))),(Q6 46 x17.length)],[]⟩:St)) (show l5.length=(l5.set i4.toNat x17).length from(Dd ..).symm))))) (Bj YS KY q)))))))))))))))))) λh=>tS h (gO (Be (Bj [1,5,7] [37] q))))) λx19 h=>gA (tV q [1,5,7,11] Lg h λh=>by exact gLe (Le.trans (Sn 75 (show ∀ k_,k_<((P4 v18).toNat)->AVleL ((λi_=>AV.eraseAll fF ((λ_=>[L7]) i_)) k_) ((λi=>Aq ((List.replicate (P4 v18).toNat (0:Int)).getD i 0)) k_) from(λk hk=>M7 (e:=Aq) (d:=(0:Int)) (.cons (AVle.refl _) .nil) _ k (M8 hk)))) (R7 (λ(k_:Nat) u=>(Cp u [(11,(.vsl 75 k_))] [(75,.arr 1 3 k_ (λi=>Aq ((List.replicate (P4 v18).toNat (0:Int)).getD i 0)))])) (show(P4 v18).toNat=(List.replicate (P4 v18).toNat (0:Int)).length from(N7 ..).symm))) (Af q MW Lg (tL q h MW Lg (λu (i22,l23)=>(Cp u [(11,(.vsl 75 l23.length)),(12,(Z5 i22))] [(Z4 75 l23)])) (λu l24=>aG Γ (.exit 4) (⟨[(11,(.vsl 75 l24.length))],[(Z4 75 l24)],[]⟩:St)) (λ⟨i22,l23⟩ y h=>Af q [1,5,7,11,12,78] Lg (gC h (λh=>tC h λc25_ h=>tU q MW Lg (c2 c25_ (Eq.refl l23.length)) (gLe (Le.trans (Sn 75 (show ∀ k_,k_<l23.length->AVleL ((λi_=>AV.eraseAll fF ((Fd (λi=>Aq (l23.getD i 0)) i22.toNat 0 [(.int .i64 (-2:Int))]) i_)) k_) ((λi=>Aq ((UQ l23 i22).getD i 0)) k_) from(Bi (Dd ..).symm (λk_ hk_=>(Bk (AV.eraseAll fF) ((Fv (λ_ _=>rfl) (Hw c25_) rfl) k_ hk_)).trans rfl)))) (R7 (λ(k_:Nat) u=>(Cp u [(11,(.vsl 75 k_))] [(75,.arr 1 3 k_ (λi=>Aq ((UQ l23 i22).getD i 0)))])) (show l23.length=(UQ l23 i22).length from(Dd ..).symm))) (tB h λx28 y28 h=>gJ y28 (λl26=>aG Γ .normal (⟨[(1,(Z5 v1)),(5,(Z5 (P4 v18))),(Vi 37 x19.length),(11,(.vsl 75 l26.length)),(12,(Z5 i22))],[(37,.arr 1 81 x19.length (λi=>ZO (x19.getD i []))),(Z4 75 l26)],[]⟩:St)) (λy h=>Af q [1,5,7,11,12,86] Lg (gC h (λh=>tC h λc27_ h=>tU q MW Lg (c2 c27_ (Eq.refl ((UQ l23 i22).length))) (tS h (gK (Be (Le.trans (Le.trans (Sn 75 (show ∀ k_,k_<((UQ l23 i22).length)->AVleL ((λi_=>AV.eraseAll fF ((Fd (λi=>Aq ((UQ l23 i22).getD i 0)) i22.toNat 0 [(.int .i64 (-1:Int))]) i_)) k_) ((λi=>Aq (((UQ l23 i22).set i22.toNat (-1:Int)).getD i 0)) k_) from(Bi (Dd ..).symm (λk_ hk_=>(Bk (AV.eraseAll fF) ((Fv (λ_ _=>rfl) (Hw c27_) rfl) k_ hk_)).trans rfl)))) (R7 (λ(k_:Nat) u=>(Cp u [(11,(.vsl 75 k_))] [(75,.arr 1 3 k_ (λi=>Aq (((UQ l23 i22).set i22.toNat (-1:Int)).getD i 0)))])) (show(UQ l23 i22).length=((UQ l23 i22).set i22.toNat (-1:Int)).length from(Dd ..).symm))) Ip))))) λh=>tS h (gK (Be (Bj MW Lg q))))) (gA (Af q YP Lg (tL q h YP Lg (λu (i30,l31)=>(Cp u [(11,(.vsl 75 l31.length)),(13,(Z5 i30))] [(Z4 75 l31)])) (λu l32=>aG Γ (.exit 6) (Nh MW Lg u [(11,(.vsl 75 l32.length))] [(Z4 75 l32)])) (λ⟨i30,l31⟩ y h=>tU q [1,5,7,11,12,13,97] Lg (Mt ((decide (i30<(P4 v18)))==true) (c1 (Ng (decide (i30<(P4 v18)))))) (gC h (λh=>tB h λx46 y46 h=>gJ y46 (λl33=>aG Γ .normal (⟨[(1,(Z5 v1)),(5,(Z5 (P4 v18))),(Vi 37 x19.length),(11,(.vsl 75 l33.length)),(12,(Z5 i22)),(13,(Z5 i30))],[(37,.arr 1 81 x19.length (λi=>ZO (x19.getD i []))),(Z4 75 l33)],[]⟩:St)) (λy h=>tC h λc34_ h=>tC h λc35_ h=>tU q [1,5,7,11,12,13,112] Lg (Mt (m9 i30 i22) (UJ c34_ (gI (m9 i30 i22)) (show((m9 i30 i22)=true->(x19.length=x19.length)) from(λhg=>rfl)) (Mt (m9 i30 i22) (ci c35_ (Mt (m9 i30 i22) (c1 (Ly (i30==i22)))))))) (gC h (λh=>tS h (gK (Be (Bj YP Lg q)))) λh=>tW q iC Lg kL Lg (tL q h kL Lg (λu (b36,i37)=>(Cp u [(14,(.bool b36)),(15,(Z5 i37))] [])) (λu b38=>aG Γ (.exit 8) (Nh iC Lg u [(14,(.bool b38))] [])) (λ⟨b36,i37⟩ y h=>Af q [1,5,7,11,12,13,14,15,115] Lg (gC h (λh=>tC h λc39_ h=>tC h λc40_ h=>tC h λc41_ h=>tC h λc42_ h=>tU q kL Lg (Yt (b36==true) (Mt (kY b36 i37 i22) (UJ c39_ (gI (kY b36 i37 i22)) (show((kY b36 i37 i22)=true->(x19.length=x19.length)) from(λhg=>rfl)) (Mt (kY b36 i37 i22) (ci c40_ (Mt (kY b36 i37 i22) (UJ (gI (b36==true)) (show((b36==true)=true->((i37==i22)=false->(kY b36 i37 i22)=true)) from(λhg=>(aF hg))) (gI (b36==true)) (Mt (kX b36 i37 i22 x19) (UJ c41_ (gI (kX b36 i37 i22 x19)) (show((kX b36 i37 i22 x19)=true->(x19.length=x19.length)) from(λhg=>rfl)) (Mt (kX b36 i37 i22 x19) (c5 c42_ (gI (kX b36 i37 i22 x19)) (gI (b36==true)) (show((b36==true)=true->((bif (i37==i22) then true else(!((x19.getD i37.toNat []).getD i22.toNat false)))=false->(kX b36 i37 i22 x19)=true)) from(λhg=>(aF hg))) (Ng b36)))))))))))) (Af q kL Lg (tN h))) λh=>tS h (gO (Be (Bj iC Lg q))))) λx43 h=>gA (Af q [1,5,7,11,12,13,143] Lg (gC h (λh=>tC h λc45_ h=>tU q YP Lg (c2 c45_ (Eq.refl l31.length)) (tS h (gK (Be (Le.trans (Le.trans (Sn 75 (show ∀ k_,k_<l31.length->AVleL ((λi_=>AV.eraseAll fF ((Fd (λi=>Aq (l31.getD i 0)) i22.toNat 0 [(Z5 i30)]) i_)) k_) ((λi=>Aq ((l31.set i22.toNat i30).getD i 0)) k_) from(Bi (Dd ..).symm (λk_ hk_=>(Bk (AV.eraseAll fF) ((Fv (λ_ _=>rfl) (Hw c45_) rfl) k_ hk_)).trans rfl)))) (R7 (λ(k_:Nat) u=>(Cp u [(11,(.vsl 75 k_))] [(75,.arr 1 3 k_ (λi=>Aq ((l31.set i22.toNat i30).getD i 0)))])) (show l31.length=(l31.set i22.toNat i30).length from(Dd ..).symm))) Ip))))) λh=>tS h (gK (Be (Bj YP Lg q)))))))) (gA (Af q YP Lg (tN h)))) λh=>tS h (gO (Be (Bj MW Lg q))))) λx48 h=>gA (Af q MW Lg (tN h)))))))) λh=>tS h (gO (Be (Bj [11] [75] q))))) λx50 h=>gA (Af q [4] [75] (P7 (⟨[(4,(.vsl 75 x50.length))],[(Z4 75 x50)],[]⟩:St) (tS h (gK (e:=.ret) (H5 [(75,20000)] (Le.trans (le_freeze (nm:=75) (sz:=1) (n:=x50.length) (e:=3) (f:=(λi=>Aq (x50.getD i 0))) (g:=(λi=>Aq (x50.getD i 0))) rfl ⟨rfl,trivial⟩ (λ_ _=>rfl) (by rw[hΓ];rfl)) (Gt (st':=⟨[(4,(Vz x50 75))],[(Yp 75 x50.length)],[]⟩) (by kernel_rfl)))))))))))))))))
def Cm(a9:Ar):CD->Option (LR (Int×Ar) (Unit ⊕ Ar)):=
 λ((i1,l2):CD)=>(bif (bif (bif (decide ((l2.length:Int)<(a9.length:Int))) then(decide ((0:Int)<=i1)) else false) then(decide (i1<(a9.length:Int))) else false) then(Az (l2.length+([i1]:Ar).length<=room) (Az (A2 i1 a9.length) (bif ((a9.getD i1.toNat 0)==-1) then(some (.done (.inr (l2++([i1]:Ar))))) else(Az (A2 i1 a9.length) (some (.next ((a9.getD i1.toNat 0),(l2++([i1]:Ar))))))))) else(some (.done (.inl ()))))
def AG(Γ:H4)(a9:Ar)(a8:Int)(r:Ar):Exit->St->Prop:=fK Tryz.prog Γ Tryz.f103.results.toList [] (Vz r 20000) [(Yp 20000 r.length)]
def kd:AV:=fI
def yA(l2:Ar)(a9:Ar)(i1:Int):=(bif (decide ((l2.length:Int)<(a9.length:Int))) then(decide ((0:Int)<=i1)) else false)
def yC:=(Z33:St)
def yB(a9:Ar)(a8:Int):=(⟨[(0,(Z6 a9)),(1,(Z5 a8)),(5,(Z96 5005))],[(5005,.tok 1 3 (([]:Ar).length))],[]⟩:St)
def Ge(a9:Ar)(a8:Int):Option Ar:=
 ((Ac (Cm a9) (a8,([]:Ar))).bind (λx6=>(match x6 with|(.inl _)=>(some ([]:Ar))|(.inr r8)=>(some r8))))
variable{v17:Ar}
theorem M0(h:Ge v2 v1=some v17):sP 103 [(Z6 v2),(Z5 v1)] [] (Vz v17 20000) [(Yp 20000 v17.length)]:=
 sG Tryz.func103 λΓ q=>gR q Gn [] [(4,kd)] [] (c1 (B2 1 Aq (0:Int))) (gR q Nd [] [(5,kd)] [] (c1 (B2 1 Aq (0:Int))) (gLe (st':=(yB v2 v1)) (Le.trans (Bj (st':=⟨[(0,(Z6 v2)),(1,(Z5 v1)),(5,kd)],[],[]⟩) Nd [] q) (Le.trans (Ri (t:=5) (nm:=5005) (sz':=1) (λi=>Aq (([]:Ar).getD i 0)) 3 rfl rfl (.inl ⟨rfl,rfl⟩) (λh_=>absurd h_ (by decide))) (Bj (st':=(yB v2 v1)) Nd [5005] q))) (tL q h Nd [5005] (λu (i1,l2)=>(Cp u [(1,(Z5 i1)),(5,(Vz l2 5005))] [(Yp 5005 l2.length)])) (λu x_=>match x_ with|(.inl _)=>aG Γ (.exit 0) (⟨[],[],[]⟩:St)|(.inr r_)=>aR (AG Γ v2 v1 r_)) (λ⟨i1,l2⟩ y h=>tU q [0,1,5,20] [5005] (fe (gI ((decide ((l2.length:Int)<(v2.length:Int)))==true)) (Ng (decide ((l2.length:Int)<(v2.length:Int)))) (Yt ((yA l2 v2 i1)==true) (c1 (Ng (yA l2 v2 i1))))) (gC h (λh=>tC h λc3_ h=>gR q Nd [5005] (wC 23 i1 24 l2 5005) [] (c5 (Br 1 Aq (0:Int) ([i1]:Ar)) (Eq.refl l2.length) c3_ (Iy 1 5005 Aq (0:Int) l2 ([i1]:Ar)) (E2 l2 ([i1]:Ar))) (tV q [0,1,5,29] [5005] h λh=>gC h (λh=>Af q [4] [5005] (tS h (gO (Ll (H5 [(5005,20000)] (Le.refl _ _)))))) λh=>tV q Nd [5005] h λh=>tN h)) λh=>tS h (gO (Be (Bj [] [] q))))) λx6 h=>(match x6,h with | .inl _,h=>gA (gR q [4] [] [(4,kd)] [] (c1 (B2 1 Aq (0:Int))) (P7 (⟨[(4,kd)],[],[]⟩:St) (tS h (gK (e:=.ret) (H5 bV (show Le Γ _ yC from Le.trans (Bj (st':=⟨[(4,kd)],[],[]⟩) [4] [] q) (Le.trans (Ri (t:=4) (nm:=6004) (sz':=1) (λi=>Aq (([]:Ar).getD i 0)) 3 rfl rfl (.inl ⟨rfl,rfl⟩) (λh_=>absurd h_ (by decide))) (Bj (st':=yC) [4] [6004] q)))))))) | .inr r8,h=>Oz (λst' hk=>tS h (gK hk))))))
def B0(a9:Ar):Gq->Option (LR (Int×Int) (Int ⊕ Bool)):=
 λ((i1,i2):Gq)=>(bif (decide (i2<(a9.length:Int))) then(Option.bind (α:=Int) (Az (A2 i2 a9.length) (bif ((a9.getD i2.toNat 0)==-1) then(some (w64 (i1+1))) else(some i1))) (λx6=>(Az (A2 i2 a9.length) ((bif (((a9.getD i2.toNat 0)!=-2)==true) then Ge a9 i2 else some []).bind λx9=>(bif (bif ((a9.getD i2.toNat 0)!=-2) then((x9.length:Int)==0) else false) then(some (.done (.inr false))) else(some (.next (x6,(w64 (i2+1)))))))))) else(some (.done (.inl i1))))
def Ze(Γ:H4)(a9:Ar)(r:Bool):Exit->St->Prop:=fK Tryz.prog Γ Tryz.f102.results.toList [] (.bool r) []
def sC(a9:Ar)(i2:Int):=((a9.getD i2.toNat 0)!=-2)
def Jy(a9:Ar):Option Bool:=
 ((Ac (B0 a9) ((0:Int),(0:Int))).bind (λx10=>(match x10 with|(.inl i3)=>(some (i3==1))|(.inr r12)=>(some r12))))
theorem X6(h:Jy v2=some v3):sP 102 [(Z6 v2)] [] (.bool v3) []:=
 sG Tryz.func102 λΓ q=>tW q [0] [] Rg [] (Af q S7 [] (tL q h S7 [] (λu (i1,i2)=>(Cp u [(3,(Z5 i1)),(4,(Z5 i2))] [])) (λu x_=>match x_ with|(.inl i3)=>aG Γ (.exit 0) (⟨[(3,(Z5 i3))],[],[]⟩:St)|(.inr r_)=>aR (Ze Γ v2 r_)) (λ⟨i1,i2⟩ y h=>Af q [0,3,4,8] [] (gC h (λh=>tB h λx6 y6 h=>gJ y6 (λi4=>aG Γ .normal (⟨[(0,(Z6 v2)),(3,(Z5 i4)),(4,(Z5 i2))],[],[]⟩:St)) (λy h=>tV q [0,3,4,15] [] h λh=>gC h (λh=>Af q S7 [] (tS h (gK (Be Ip)))) λh=>tS h (gK (Be (Bj S7 [] q)))) (gA (tC h λc8_ h=>tB h λx9 y9 h=>tT q [0,3,4,29] [] [⟨[],[],(Z6 x9),[],[],[]⟩] (ci c8_ (Mt ((sC v2 i2)==true) (ci (show(((sC v2 i2)==true)=true->(sP 103 [(Z6 v2),(Z5 i2)] [] (Z6 x9) [])) from(λhg=>(Spec.drop (M0 (Bf hg y9))))) (Mt ((sC v2 i2)==true) (c1 (Ng (sC v2 i2))))))) (gC h (λh=>Af q [2] [] (tS h (gO (Ll (H5 [] (Le.refl _ _)))))) λh=>Af q S7 [] (tN h))))) λh=>tS h (gO (Be (Bj [3] [] q))))) λx10 h=>(match x10,h with | .inl i3,h=>gA (Af q [2] [] (tS h (Cd []))) | .inr r12,h=>Oz (λst' hk=>tS h (gK hk)))))
def Eh(x2:Ar)(x3:Ar):Int->Option (LR Int (Unit ⊕ Int)):=
 λ(i4:Int)=>(bif (decide (i4<(x2.length:Int))) then(Az (A2 i4 x2.length) ((Ha x3 (x2.getD i4.toNat 0)).bind λx6=>(bif x6 then(Az (A2 i4 x2.length) (some (.done (.inr (x2.getD i4.toNat 0))))) else(some (.next (w64 (i4+1))))))) else(some (.done (.inl ()))))
def AF(Γ:H4)(a9:Ar)(a8:Int)(aE:Int)(r:Int):Exit->St->Prop:=fK Tryz.prog Γ Tryz.f59.results.toList [] (.int .i64 r) []
def Ko(a9:Ar)(a8:Int)(aE:Int):Option Int:=
 ((Jy a9).bind λx1=>(bif (!x1) then(some (-2:Int)) else((Ge a9 a8).bind λx2=>((Ge a9 aE).bind λx3=>((Ac (Eh x2 x3) (0:Int)).bind (λx8=>(match x8 with|(.inl _)=>(some (-2:Int))|(.inr r10)=>(some r10))))))))
theorem Zr(h:Ko v2 v1 v11=some v20):sP 59 [(Z6 v2),(Z5 v1),(Z5 v11)] [] (.int .i64 v20) []:=
 sG Tryz.func59 λΓ q=>Af q TW [] (tB h λx1 y1 h=>tT q [0,1,2,12] [] [(Z2 x1)] (c1 (X6 y1)) (gC h (λh=>Af q [6] [] (tS h (Cd []))) λh=>tB h λx2 y2 h=>tT q TX [15] [(xS 15 x2 x2.length)] (c1 (M0 y2)) (tB h λx3 y3 h=>tT q [7,8] LB [(xS 18 x3 x3.length)] (c1 (M0 y3)) (Af q [7,8,9] LB (tL q h [7,8,9] LB (λu i4=>(Cp u [(9,(Z5 i4))] [])) (λu x_=>match x_ with|(.inl _)=>aG Γ (.exit 0) (⟨[],[],[]⟩:St)|(.inr r_)=>aR (AF Γ v2 v1 v11 r_)) (λi4 y h=>Af q [7,8,9,22] LB (gC h (λh=>tC h λc5_ h=>tB h λx6 y6 h=>tT q [7,8,9,30] LB [(Z2 x6)] (c2 c5_ (Ny y6)) (gC h (λh=>tV q [6] [] h λh=>tS h (gO (Ll (H5 [] (Le.refl _ _))))) λh=>Af q [7,8,9] LB (tN h))) λh=>tS h (gO (Be (Bj [] [] q))))) λx8 h=>(match x8,h with | .inl _,h=>gA (Af q [6] [] (tS h (Cd []))) | .inr r10,h=>Oz (λst' hk=>tS h (gK hk))))))))
def Fn(x4:List Bz):Int->Option (LR Int (Unit ⊕ Int)):=
 λ(i5:Int)=>(bif (decide (i5<(x4.length:Int))) then(Az (A2 i5 x4.length) ((Fj ((x4.getD i5.toNat default).V)).bind λx7=>(Az (((!x7)==false)=true->(A2 i5 x4.length)) ((bif ((!x7)==false) then Ex x4 ((x4.getD i5.toNat default).V) else some (0:Int)).bind λx9=>(bif (bif (!x7) then true else(x9 !=i5)) then(some (.done (.inr (7:Int)))) else(some (.next (w64 (i5+1))))))))) else(some (.done (.inl ()))))
def D3(x4:List Bz)(x12:List Cq):Int->Option (LR Int (Unit ⊕ Int)):=
 λ(i13:Int)=>(bif (decide (i13<(x12.length:Int))) then(Az (A2 i13 x12.length) ((Ex x4 ((x12.getD i13.toNat default).V)).bind λx15=>(bif (decide (x15<0)) then(some (.done (.inr (7:Int)))) else(some (.next (w64 (i13+1))))))) else(some (.done (.inl ()))))
def D4(x4:List Bz)(x12:List Cq):Int->Option (LR Int (Unit ⊕ Int)):=
 λ(i18:Int)=>(bif (decide (i18<(x12.length:Int))) then(Az (A2 i18 x12.length) ((Ex x4 ((x12.getD i18.toNat default).V)).bind λx20=>(Az (A2 x20 x4.length) (Az (A2 i18 x12.length) (bif (!((((x4.getD x20.toNat default).Shape.1:Int)==(x12.getD i18.toNat default).Shape.1)&&((((x4.getD x20.toNat default).Shape.2:Int)==(x12.getD i18.toNat default).Shape.2)&&true))) then(some (.done (.inr (6:Int)))) else(some (.next (w64 (i18+1))))))))) else(some (.done (.inl ()))))
def C5(x4:List Bz)(x12:List Cq)(x26:Ar):Int->Option (LR Int (Unit ⊕ Int)):=
 λ(i27:Int)=>(bif (decide (i27<(x12.length:Int))) then(Option.bind (α:=(Unit ⊕ Int)) (Az (A2 i27 x12.length) ((Ex x4 ((x12.getD i27.toNat default).V)).bind λx29=>(Az (A2 x29 x4.length) (bif (bif (decide (((x4.getD x29.toNat default).Block:Int)<0)) then true else(bif (((x4.getD x29.toNat default).Block:Int)==(x12.getD i27.toNat default).Block) then(decide (((x4.getD x29.toNat default).At:Int)<(x12.getD i27.toNat default).At)) else false)) then(some (.inl ())) else((bif ((((x4.getD x29.toNat default).Block:Int)==(x12.getD i27.toNat default).Block)==false) then Ko x26 ((x4.getD x29.toNat default).Block) ((x12.getD i27.toNat default).Block) else some (0:Int)).bind λx31=>(bif (bif (((x4.getD x29.toNat default).Block:Int)==(x12.getD i27.toNat default).Block) then true else(x31 !=(x4.getD x29.toNat default).Block)) then(some (.inr (7:Int))) else(some (.inl ())))))))) (λx32=>(match x32 with|(.inl _)=>(some (.next (w64 (i27+1))))|(.inr r34)=>(some (.done (.inr r34)))))) else(some (.done (.inl ()))))
def Hj(Γ:H4)(a0:TFunc)(a2:Int)(r:Int):Exit->St->Prop:=fK Tryz.prog Γ Tryz.f21.results.toList [] (.int .i64 r) []
def nA(x4:List Bz)(x29:Int):=((decide (((x4.getD x29.toNat default).Block:Int)<0))==false)
def fG(x4:List Bz)(x29:Int)(x12:List Cq)(i27:Int):=(((x4.getD x29.toNat default).Block:Int)==(x12.getD i27.toNat default).Block)
def D9(a0:TFunc)(a2:Int):Option Int:=
 (bif (bif (decide (a2<0)) then true else(decide ((2:Int)<a2))) then(some (1:Int)) else((Iv a0).bind λx1=>(bif (!x1) then(some (4:Int)) else((Jz a0).bind λx2=>(bif (!x2) then(some (5:Int)) else((J0 a0 a2).bind λx3=>(bif (!x3) then(some (6:Int)) else((Kq a0).bind λx4=>((Ac (Fn x4) (0:Int)).bind (λx10=>(match x10 with|(.inl _)=>((Kr a0).bind λx12=>((Ac (D3 x4 x12) (0:Int)).bind (λx16=>(match x16 with|(.inl _)=>((Ac (D4 x4 x12) (0:Int)).bind (λx23=>(match x23 with|(.inl _)=>((Jh a0).bind λx25=>((Kp x25.1 (0:Int)).bind λx26=>((Ac (C5 x4 x12 x26) (0:Int)).bind (λx35=>(match x35 with|(.inl _)=>(some (0:Int))|(.inr r37)=>(some r37))))))|(.inr r38)=>(some r38))))|(.inr r39)=>(some r39)))))|(.inr r40)=>(some r40))))))))))))
theorem X7(h:D9 v0 v1=some v11):sP 21 [(V0 v0),(Z5 v1)] [] (.int .i64 v11) []:=
 sG Tryz.func21 λΓ q=>Af q D7 [2] (tU q [1,2,21] [2] (c2 (gI ((decide (v1<0))==false)) (Ly (decide (v1<0)))) (gC h (λh=>Af q [4] [] (tS h (Cd []))) λh=>tB h λx1 y1 h=>tT q [1,2,24] [2] [(Z2 x1)] (c1 (BJ y1)) (gC h (λh=>Af q [4] [] (tS h (Cd []))) λh=>tB h λx2 y2 h=>tT q [1,2,27] [2] [(Z2 x2)] (c1 (X9 y2)) (gC h (λh=>Af q [4] [] (tS h (Cd []))) λh=>tB h λx3 y3 h=>tT q [2,31] [2] [(Z2 x3)] (c1 (Ya y3)) (gC h (λh=>Af q [4] [] (tS h (Cd []))) λh=>tB h λx4 y4 h=>tT q Uh CO [⟨[],[(20000,33)],(AV.list 5 Pr default x4 (.own 20000)),[(Lj 20000 92 x4.length)],[],[]⟩] (c1 (Zt y4)) (Af q W5 CO (tL q h W5 CO (λu i5=>(Cp u [(6,(Z5 i5))] [])) (λu x_=>match x_ with|(.inl _)=>aG Γ (.exit 0) (Nh Uh CO u [] [])|(.inr r_)=>aR (Hj Γ v0 v1 r_)) (λi5 y h=>Af q [2,5,6,37] CO (gC h (λh=>tC h λc6_ h=>tB h λx7 y7 h=>tC h λc8_ h=>tB h λx9 y9 h=>tT q [2,5,6,57] CO [(Z2 x7),(UI x9)] (fe c6_ (Mf y7) (Mt ((!x7)==false) (ci c8_ (LM ((!x7)==false) (ci (λ(hg:((!x7)==false)=true)=>(J1 (Bf hg y9))) (Mt ((!x7)==false) (c1 (Ly (!x7))))))))) (gC h (λh=>Af q [4] [] (tS h (gO (Ll (H5 [] (Le.refl _ _)))))) λh=>Af q W5 CO (tN h))) λh=>tS h (gO (Be (Bj Uh CO q))))) λx10 h=>(match x10,h with | .inl _,h=>gA (tB h λx12 y12 h=>tT q TY Ui [⟨[],[(20000,59)],(AV.list 5 Oy default x12 (.own 20000)),[(Lj 20000 96 x12.length)],[],[]⟩] (c1 (Zu y12)) (Af q [2,5,7,8] Ui (tL q h [2,5,7,8] Ui (λu i13=>(Cp u [(8,(Z5 i13))] [])) (λu x_=>match x_ with|(.inl _)=>aG Γ (.exit 2) (Nh TY Ui u [] [])|(.inr r_)=>aR (Hj Γ v0 v1 r_)) (λi13 y h=>Af q [2,5,7,8,63] Ui (gC h (λh=>tC h λc14_ h=>tB h λx15 y15 h=>tT q [2,5,7,8,73] Ui [(UI x15)] (c2 c14_ (J1 y15)) (gC h (λh=>Af q [4] [] (tS h (gO (Ll (H5 [] (Le.refl _ _)))))) λh=>Af q [2,5,7,8] Ui (tN h))) λh=>tS h (gO (Be (Bj TY Ui q))))) λx16 h=>(match x16,h with | .inl _,h=>gA (Af q [2,5,7,9] Ui (tL q h [2,5,7,9] Ui (λu i18=>(Cp u [(9,(Z5 i18))] [])) (λu x_=>match x_ with|(.inl _)=>aG Γ (.exit 4) (Nh TY Ui u [] [])|(.inr r_)=>aR (Hj Γ v0 v1 r_)) (λi18 y h=>Af q [2,5,7,9,77] Ui (gC h (λh=>tC h λc19_ h=>tB h λx20 y20 h=>tC h λc21_ h=>tC h λc22_ h=>tT q [2,5,7,9,96] Ui [(UI x20)] (c4 c19_ (J1 y20) c21_ c22_) (gC h (λh=>Af q [4] [] (tS h (gO (Ll (H5 [] (Le.refl _ _)))))) λh=>Af q [2,5,7,9] Ui (tN h))) λh=>tS h (gO (Be (Bj TY Ui q))))) λx23 h=>(match x23,h with | .inl _,h=>gA (tB h λx25 y25 h=>tT q [5,7,10] [10,33,59] [(xV x25.1 x25.2)] (c1 (S1 y25)) (tB h λx26 y26 h=>tT q [5,7,12] MZ [(xS 103 x26 x26.length)] (c1 (Zs y26)) (Af q TO MZ (tL q h TO MZ (λu i27=>(Cp u [(13,(Z5 i27))] [])) (λu x_=>match x_ with|(.inl _)=>aG Γ (.exit 6) (⟨[],[],[]⟩:St)|(.inr r_)=>aR (Hj Γ v0 v1 r_)) (λi27 y h=>Af q [5,7,12,13,107] MZ (gC h (λh=>tB h λx32 y32 h=>gJ y32 (λx_=>match x_ with|(.inl _)=>aG Γ .normal (⟨[(5,(AV.list 5 Pr default x4 (.own 33))),(7,(AV.list 5 Oy default x12 (.own 59))),(12,(Vz x26 103)),(13,(Z5 i27))],[(Lj 33 92 x4.length),(Lj 59 96 x12.length),(Yp 103 x26.length)],[]⟩:St)|(.inr r_)=>aR (Hj Γ v0 v1 r_)) (λy h=>tV q [5,7,12,13,14] [14,33,59,103] h λh=>tB h λx29 y29 h=>tC h λc30_ h=>tT q [5,7,12,13,14,15] [14,15,33,59,103] [(UI x29)] (c2 (J1 y29) c30_) (tU q [5,7,12,13,14,15,137] [14,15,33,59,103] (wg (nA x4 x29) (LM ((nA x4 x29)&&((fG x4 x29 x12 i27)==true)) (c3 (gI (nA x4 x29)) (show((nA x4 x29)=true->((fG x4 x29 x12 i27)=true->((nA x4 x29)&&((fG x4 x29 x12 i27)==true))=true)) from(λhg=>(aT hg))) (Ly (decide (((x4.getD x29.toNat default).Block:Int)<0)))))) (gC h (λh=>tS h (gK (Be (Bj TO MZ q)))) λh=>tB h λx31 y31 h=>tT q [5,7,12,13,153] MZ [(UI x31)] (wg ((fG x4 x29 x12 i27)==false) (ci (λ(hg:((fG x4 x29 x12 i27)==false)=true)=>(Zr (Bf hg y31))) (Yt ((fG x4 x29 x12 i27)==false) (c1 (Ly (fG x4 x29 x12 i27)))))) (gC h (λh=>Af q [4] [] (tS h (gK (Ll (H5 [] (Le.refl _ _)))))) λh=>tS h (gK (Be (Bj TO MZ q))))))) (match x32,h with | .inl _,h=>gA (Af q TO MZ (tN h)) | .inr r34,h=>Oz (λst' hk=>tS h (gO (Ll hk))))) λh=>tS h (gO (Be (Bj [] [] q))))) λx35 h=>(match x35,h with | .inl _,h=>gA (Af q [4] [] (tS h (Cd []))) | .inr r37,h=>Oz (λst' hk=>tS h (gK hk))))))) | .inr r38,h=>Oz (λst' hk=>tS h (gK hk))))) | .inr r39,h=>Oz (λst' hk=>tS h (gK hk)))))) | .inr r40,h=>Oz (λst' hk=>tS h (gK hk))))))))))
open Go Go.RowKit
set_option maxRecDepth 100000
set_option maxHeartbeats 2000000
def Lr(a0:TFunc):Option Bool:=
 ((O0 a0 (2:Int)).bind λx1=>(some (x1==0)))
theorem Sp(h:Lr v0=some v3):sP 42 [(V0 v0)] [] (.bool v3) []:=
 sG Tryz.func42 λΓ q=>Af q [1] [1] (tB h λx1 y1 h=>tT q [2] [] [(UI x1)] (c1 (BA y1)) (tS h (Cd [])))
def Mk(a0:TFunc)(x1:mT):Int->Option (LR Int (Unit ⊕ ((Bool×LD)×Bool))):=
 λ(i2:Int)=>(bif (decide (i2<(a0.Blocks.length:Int))) then(Option.bind (α:=(Unit ⊕ ((Bool×LD)×Bool))) (Az (A2 i2 a0.Blocks.length) (bif (((a0.Blocks.getD i2.toNat default).End.Kind:Int)!=1) then(some (.inl ())) else(Az (A2 (0:Int) ((a0.Blocks.getD i2.toNat default).End.To).length) (Az ((((((a0.Blocks.getD i2.toNat default).End.To).getD (0:Int).toNat (0:Int))!=i2)==true)=true->(A2 (((a0.Blocks.getD i2.toNat default).End.To).getD (0:Int).toNat (0:Int)) x1.1.Pred.length)) (bif (bif ((((a0.Blocks.getD i2.toNat default).End.To).getD (0:Int).toNat (0:Int))!=i2) then(((x1.1.Pred.getD (((a0.Blocks.getD i2.toNat default).End.To).getD (0:Int).toNat (0:Int)).toNat []).length:Int)==1) else false) then(some (.inr ((true,(⟨i2,(((a0.Blocks.getD i2.toNat default).End.To).getD (0:Int).toNat (0:Int)),([]:List Gq)⟩:LD)),true))) else(some (.inl ()))))))) (λx6=>(match x6 with|(.inl _)=>(some (.next (w64 (i2+1))))|(.inr r8)=>(some (.done (.inr r8)))))) else(some (.done (.inl ()))))
abbrev qn:=((Bool×LD)×Bool)
def GJ(Γ:H4)(a0:TFunc)(r:qn):Exit->St->Prop:=fK Tryz.prog Γ Tryz.f46.results.toList [] (.tuple [(bif r.1.1 then((.ptr 20000 0):AV) else .nilp),(.bool r.2)]) (bif r.1.1 then(yl 20000 r.1.2.x r.1.2.y) else[])
def vW(a0:TFunc)(i2:Int):=((((a0.Blocks.getD i2.toNat default).End.To).getD (0:Int).toNat (0:Int))!=i2)
def Ks(a0:TFunc):Option qn:=
 ((Tx a0).bind λx1=>((Ac (Mk a0 x1) (0:Int)).bind (λx9=>(match x9 with|(.inl _)=>(some ((false,(default:LD)),false))|(.inr r11)=>(some r11)))))
variable{v37:qn}
theorem R0(h:Ks v0=some v37):sP 46 [(V0 v0)] [] (.tuple [(bif v37.1.1 then((.ptr 20000 0):AV) else .nilp),(.bool v37.2)]) (bif v37.1.1 then(yl 20000 v37.1.2.x v37.1.2.y) else[]):=
 sG Tryz.func46 λΓ q=>Af q [1] [1] (tB h λx1 y1 h=>tT q P2 P2 [(xV x1.1 x1.2)] (c1 (LY y1)) (Af q TM [4] (tL q h TM [4] (λu i2=>(Cp u [(17,(Z5 i2))] [])) (λu x_=>match x_ with|(.inl _)=>aG Γ (.exit 0) (⟨[],[],[]⟩:St)|(.inr r_)=>aR (GJ Γ v0 r_)) (λi2 y h=>Af q [4,15,16,17,18] [4] (gC h (λh=>tB h λx6 y6 h=>gJ y6 (λx_=>match x_ with|(.inl _)=>aG Γ .normal (⟨[ZE,(15,(UH v0.Blocks)),(bj 16 v0.Blocks.length),(17,(Z5 i2))],[(4,.row 56 [(NR x1.1.Succ),(NR x1.1.Pred)])],[]⟩:St)|(.inr r_)=>aR (GJ Γ v0 r_)) (λy h=>tV q [4,6,7,15,16,17] [4,7] h λh=>Af q [4,6,7,15,16,17,25] [4,7] (gC h (λh=>tS h (gK (Be (Bj TM [4] q)))) λh=>tV q [4,6,8,15,16,17] [4] h λh=>tC h λc5_ h=>tU q [4,6,8,15,16,17,42] [4] (Yt ((vW v0 i2)==true) (ci c5_ (Yt ((vW v0 i2)==true) (c1 (Ng (vW v0 i2)))))) (gC h (λh=>Af q C0 [46] (tS h (gK (Ll (H5 [(46,20000)] (Le.refl _ _)))))) λh=>tS h (gK (Be (Bj TM [4] q)))))) (match x6,h with | .inl _,h=>gA (Af q TM [4] (tN h)) | .inr r8,h=>Oz (λst' hk=>tS h (gO (Ll hk))))) λh=>tS h (gO (Be (Bj [] [] q))))) λx9 h=>(match x9,h with | .inl _,h=>gA (Af q C0 [] (tS h (Cd []))) | .inr r11,h=>Oz (λst' hk=>tS h (gK hk))))))
def G6(aH:Int)(a3:Int)(a5:Int)(a7:List Gq):Option Int:=
 (bif (Ec a7 aH) then(some (Fy (0:Int) a7 aH)) else(some aH))
variable{v38:List Gq}{v39:Int}
theorem Mh(h:G6 v1 v11 v20 v38=some v39):sP 83 [(.ptr 30000 0),(Z5 v1)] [(Z8 v11 v20 9100002),(9100002,.obj (.map true .i64 (Bu (λ(v_:Int)=>((Z5 v_):AV)) v38)))] (.int .i64 v39) [(Z8 v11 v20 9100002),(9100002,.obj (.map true .i64 (Bu (λ(v_:Int)=>((Z5 v_):AV)) v38)))]:=
 sG Tryz.func83 λΓ q=>Af q Gn S4 (gR q [1,5,6] S4 [(13,(.tuple [(.int .i64 (Fy (0:Int) v38 v1)),(.bool (Ec v38 v1))]))] [] (c1 (show(AVle (.tuple [Fy L7 (Bu (λ(v_:Int)=>((Z5 v_):AV)) v38) v1,.bool (Ec (Bu (λ(v_:Int)=>((Z5 v_):AV)) v38) v1)]) (.tuple [(.int .i64 (Fy (0:Int) v38 v1)),(.bool (Ec v38 v1))])) from(QS (f:=(λ(v_:Int)=>((Z5 v_):AV))) (l:=v38) (AVle.refl _) rfl))) (Af q [1,5,16] S4 (gC h (λh=>Af q [4] S4 (tS h (Cd YM))) λh=>Af q [4] S4 (tS h (Cd YM)))))
def Cv(aa2:List (List Bv)):Gq->Option uW:=
 λ((i1,i2):Gq)=>(bif (decide (i2<(aa2.length:Int))) then(Option.bind (α:=Unit) (Az (A2 i2 aa2.length) (bif (decide (((w64 (i1+((aa2.getD i2.toNat []).length:Int))):Int)<0)) then none else(some ()))) (λx5=>(match x5 with|_=>(some (.next ((w64 (i1+((aa2.getD i2.toNat []).length:Int))),(w64 (i2+1)))))))) else(some (.done i1)))
def Cw(aa2:List (List Bv)):(List Bv×Int)->Option (LR (List Bv×Int) (List Bv)):=
 λ((l10,i11):(List Bv×Int))=>(bif (decide (i11<(aa2.length:Int))) then(Az (A2 i11 aa2.length) (Az (l10.length+(aa2.getD i11.toNat []).length<=room) (some (.next ((l10++(aa2.getD i11.toNat [])),(w64 (i11+1))))))) else(some (.done l10)))
def Fg(aa2:List (List Bv)):Option (List Bv):=
 ((Ac (Cv aa2) ((0:Int),(0:Int))).bind (λx7=>((g9 x7).bind λx9=>((Ac (Cw aa2) (x9,(0:Int))).bind (λx15=>(some x15))))))
variable{v40:List (List Bv)}{v7:List Bv}
theorem Rr(h:Fg v40=some v7):sP 84 [(AV.list 1 WM [] v40 .none)] [] (wH v7 20000) [(20000,.tok 6 70 v7.length)]:=
 sG Tryz.func84 λΓ q=>gR q [0] [] [(2,yh)] [] (c1 (B2 6 Lh (default:Bv))) (tW q Rg [] TB [] (tL q h TB [] (λu (i1,i2)=>(Cp u [(3,(Z5 i1)),(11,(Z5 i2))] [])) (λu i3=>aG Γ (.exit 0) (Nh Rg [] u [(3,(Z5 i3))] [])) (λ⟨i1,i2⟩ y h=>Af q [0,3,9,10,11,12] [] (gC h (λh=>tB h λx5 y5 h=>gJ y5 (λ_=>aG Γ .normal (⟨[(0,(AV.list 1 WM [] v40 .none)),(3,(.int .i64 (w64 (i1+((v40.getD i2.toNat []).length:Int))))),(9,(AV.list 1 WM [] v40 .none)),(bj 10 v40.length),(11,(Z5 i2))],[],[]⟩:St)) (λy h=>tV q [0,3,5,9,10,11] [] h λh=>tW q TB [] [0,3,9,10,11,20] [] (gC h (λh=>nomatch h) λh=>tS h (gK (Be (Bj TB [] q))))) (gA (Af q TB [] (tN h)))) λh=>tS h (gO (Be (Bj Rg [] q))))) λx7 h=>gA (tB h λx9 y9 h=>tT q [0,6] [24] [⟨[],[(20000,24)],(wH x9 20000),[(20000,.tok 6 70 x9.length)],[],[]⟩] (c1 (qc (e:=Lh) (d:=(default:Bv)) x7 x9 y9)) (Af q bZ [24] (tL q h bZ [24] (λu (l10,i11)=>(Cp u [(6,(wH l10 24)),(27,(Z5 i11))] [(24,.tok 6 70 l10.length)])) (λu l12=>aG Γ (.exit 2) (⟨[(6,(wH l12 24))],[(24,.tok 6 70 l12.length)],[]⟩:St)) (λ⟨l10,i11⟩ y h=>Af q [6,25,26,27,28] [24] (gC h (λh=>tV q [6,8,25,26,27] [24] h λh=>tC h λc14_ h=>gR q bZ [24] [(33,(AV.list 6 Lh default (l10++(v40.getD i11.toNat [])) (.own 24)))] [] (c4 (Eq.refl l10.length) c14_ (Iy 6 24 Lh (default:Bv) l10 (v40.getD i11.toNat [])) (E2 l10 (v40.getD i11.toNat []))) (Af q bZ [24] (tN h))) λh=>tS h (gO (Be (Bj [6] [24] q))))) λx15 h=>gA (Af q [2] [24] (tS h (Cd [(24,20000)]))))))))
def Ky(aL:Int)(a3:Int)(a5:Int)(a7:List Gq):Option Int:=
 (Option.bind (α:=Int) (bif (aL==a5) then(some a3) else(some aL)) (λx2=>(Option.bind (α:=Int) (bif (decide (a5<x2)) then(some (w64 (x2-1))) else(some x2)) (λx5=>(some x5)))))
theorem T5(h:Ky v1 v11 v20 v38=some v39):sP 142 [(.ptr 30000 0),(Z5 v1)] [(Z8 v11 v20 9100002),(9100002,.obj (.map true .i64 (Bu (λ(v_:Int)=>((Z5 v_):AV)) v38)))] (.int .i64 v39) [(Z8 v11 v20 9100002),(9100002,.obj (.map true .i64 (Bu (λ(v_:Int)=>((Z5 v_):AV)) v38)))]:=
 sG Tryz.func142 λΓ q=>Af q Gn S4 (tB h λx2 y2 h=>gJ y2 (λi1=>aG Γ .normal (⟨[b8,(1,(Z5 i1))],[(Z8 v11 v20 9100002),(9100002,.obj (.map true .i64 (Bu (λ(v_:Int)=>((Z5 v_):AV)) v38)))],[]⟩:St)) (λy h=>Af q Ym S4 (gC h (λh=>Af q Gn S4 (tS h (gK (Be Ip)))) λh=>tS h (gK (Be (Bj Gn S4 q))))) (gA (tB h λx5 y5 h=>gJ y5 (λi4=>aG Γ .normal (⟨[(1,(Z5 i4))],[(Z8 v11 v20 9100002),(9100002,.obj (.map true .i64 (Bu (λ(v_:Int)=>((Z5 v_):AV)) v38)))],[]⟩:St)) (λy h=>Af q [1,20] S4 (gC h (λh=>Af q [1] S4 (tS h (gK (Be Ip)))) λh=>tS h (gK (Be (Bj [1] S4 q))))) (gA (Af q [4] S4 (tS h (Cd YM)))))))
def Jj(aP:A8)(a3:Int)(a5:Int)(a7:List Gq):(Int×Ar×Ar)->Option (LR (Int×Ar×Ar) (Ar×Ar)):=
 λ((i1,l2,l3):(Int×Ar×Ar))=>(bif (decide (i1<(aP.From.length:Int))) then(Az (A2 i1 aP.From.length) ((Ky (aP.From.getD i1.toNat 0) a3 a5 a7).bind λx7=>((Ff l2 x7).bind λx8=>((CC l2 x8.1 [x7]).bind λx9=>(Az (1=x9.2.2.length) (Az (A2 i1 aP.Args.length) ((G6 (aP.Args.getD i1.toNat 0) a3 a5 a7).bind λx12=>((CC l3 x8.1 [x12]).bind λx13=>(Az (1=x13.2.2.length) (some (.next ((w64 (i1+1)),x9.2.1,x13.2.1)))))))))))) else(some (.done (l2,l3))))
def nD(l5:Ar):=(λi=>Aq (l5.getD i 0))
def nC:AV:=fI
def UR(a7:List Gq):=(Bu (λ(v_:Int)=>((Z5 v_):AV)) a7)
def vY(aP:A8):List AV:=[(Z5 aP.Bits),(Z5 aP.Dst),(Z6 aP.From),(Z6 aP.Args)]
def yD(aP:A8)(a3:Int)(a5:Int)(a7:List Gq):=(⟨[b8,(3,(.ptr 3 0)),ZE,(5,(.vsl 36005 ([]:Ar).length)),(6,(.vsl 36006 ([]:Ar).length)),(12,(Z6 aP.From)),(bj 13 aP.From.length),(14,L7)],[(3,.row 67 (vY aP)),(4,.row 67 [L7,L7,Zz,Zz]),(Z8 a3 a5 9100002),(Z73 36005),(Z73 36006),(UT 9100002 (UR a7))],[]⟩:St)
def Pf(aP:A8)(a3:Int)(a5:Int)(a7:List Gq):Option A8:=
 ((Ac (Jj aP a3 a5 a7) ((0:Int),([]:Ar),([]:Ar))).bind (λ(l4,l5)=>(some (⟨aP.Bits,aP.Dst,l4,l5⟩:A8))))
variable{v4:A8}{v41:A8}
theorem JZ(h:Pf v4 v1 v11 v38=some v41):sP 140 [(.ptr 30000 0),(.agg (El v4))] [(Z8 v1 v11 9100002),(9100002,.obj (.map true .i64 (Bu (λ(v_:Int)=>((Z5 v_):AV)) v38)))] (.agg (El v41)) [(Z8 v1 v11 9100002),(9100002,.obj (.map true .i64 (Bu (λ(v_:Int)=>((Z5 v_):AV)) v38)))]:=
 sG Tryz.func140 λΓ q=>have hΓ:=q.own;Af q S7 eX (gR q TN eX [(5,nC),(6,nC)] [] (c2 (B2 1 Aq (0:Int)) (B2 1 Aq (0:Int))) (Af q UA eX (gLe (st':=(yD v4 v1 v11 v38)) (Le.trans (Bj (st':=⟨[b8,(3,(.ptr 3 0)),ZE,(5,nC),(6,nC),(12,(Z6 v4.From)),(bj 13 v4.From.length),(14,L7)],[(3,.row 67 (vY v4)),(4,.row 67 [L7,L7,Zz,Zz]),(Z8 v1 v11 9100002),(UT 9100002 (UR v38))],[]⟩) UA eX q) (Le.trans (Le.trans (QF (t:=5) (nm:=36005) (sz':=1) (λi=>Aq (([]:Ar).getD i 0)) 3 rfl rfl) (Bj (st':=⟨[b8,(3,(.ptr 3 0)),ZE,(5,(.vsl 36005 ([]:Ar).length)),(6,nC),(12,(Z6 v4.From)),(bj 13 v4.From.length),(14,L7)],[(3,.row 67 (vY v4)),(4,.row 67 [L7,L7,Zz,Zz]),(Z8 v1 v11 9100002),(Z73 36005),(UT 9100002 (UR v38))],[]⟩) UA [3,4,30000,36005,9100002] q)) (Le.trans (QF (t:=6) (nm:=36006) (sz':=1) (λi=>Aq (([]:Ar).getD i 0)) 3 rfl rfl) (Bj (st':=(yD v4 v1 v11 v38)) UA UF q)))) (tL q h UA UF (λu (i1,l2,l3)=>(Cp u [(Vh 36005 l2.length),(6,(.vsl 36006 l3.length)),(14,(Z5 i1))] [(Z4 36005 l2),(Z4 36006 l3)])) (λu (l4,l5)=>aG Γ (.exit 0) (Nh [3,4,5,6] UF u [(Vh 36005 l4.length),(6,(.vsl 36006 l5.length))] [(Z4 36005 l4),(36006,.arr 1 3 l5.length (nD l5))])) (λ⟨i1,l2,l3⟩ y h=>Af q [0,3,4,5,6,12,13,14,15] UF (gC h (λh=>tV q qr UF h λh=>tB h λx7 y7 h=>tT q qr UF [(yc x7 v1 v11 (UR v38))] (ci (T5 y7) (rkl [(.row 137 (b6 v1 v11 9100002)),(.obj (.map true .i64 (UR v38)))])) (tB h λx8 y8 h=>tT q [0,3,4,5,6,7,8,9,12,13,14] UF [⟨[],[],(.tuple [(Z5 x8.1),(.bool x8.2)]),[],[36005],[]⟩] (c3 (Rq y8) (show(EF []) from trivial) (Eq.refl l2.length)) (tB h λx9 y9 h=>tC h λc10_ h=>tC h λc11_ h=>tB h λx12 y12 h=>tB h λx13 y13 h=>tC h λc14_ h=>gR q UA UF [(31,(.vsl 31 1)),(42,(.vsl 42 1))] [⟨qt,[],(.vsl 34000 x9.2.1.length),[(Z4 34000 x9.2.1),(Z4 34002 x9.2.2)],[],[]⟩,(yc x12 v1 v11 (UR v38)),⟨qu,[],(.vsl 34000 x13.2.1.length),[(Z4 34000 x13.2.1),(Z4 34002 x13.2.2)],[],[]⟩] (UJ (SL l2 x8.1 [x7] x9 y9 (λi_=>AV.renAll qt ((λi_=>([(Z5 x7)].drop (i_*1)).take 1) i_)) (bH (n:=0) gi rfl)) c11_ (Mh y12) (uD [(.row 137 (b6 v1 v11 9100002)),(.obj (.map true .i64 (UR v38)))] (c1 (SL l3 x8.1 [x12] x13 y13 (λi_=>AV.renAll qu ((λi_=>([(Z5 x12)].drop (i_*1)).take 1) i_)) (bH (n:=0) gi rfl))))) (Af q UA UF (tN h))))) λh=>tS h (gO (Be (Bj [3,4,5,6] UF q))))) λx15 h=>(match x15,h with|⟨l4,l5⟩,h=>gA (tW q [3,4] UF [4] [4,30000,36005,36006,9100002] (P7 (⟨[ZE],[(4,.row 67 [(Z5 v4.Bits),(Z5 v4.Dst),(.vsl 36005 l4.length),(.vsl 36006 l5.length)]),(Z8 v1 v11 9100002),(Z4 36005 l4),(36006,.arr 1 3 l5.length (nD l5)),(UT 9100002 (UR v38))],[]⟩:St) (tS h (gK (e:=.ret) (H5 YM (Le.trans (Le.trans (le_freeze (nm:=36005) (sz:=1) (n:=l4.length) (e:=3) (f:=(λi=>Aq (l4.getD i 0))) (g:=(λi=>Aq (l4.getD i 0))) rfl ⟨rfl,trivial⟩ (λ_ _=>rfl) (by rw[hΓ];rfl)) (Gt (st':=⟨[ZE],[(4,.row 67 [(Z5 v4.Bits),(Z5 v4.Dst),(Vz l4 36005),(.vsl 36006 l5.length)]),(Z8 v1 v11 9100002),(Yp 36005 l4.length),(36006,.arr 1 3 l5.length (nD l5)),(UT 9100002 (UR v38))],[]⟩) (by kernel_rfl))) (Le.trans (le_freeze (nm:=36006) (sz:=1) (n:=l5.length) (e:=3) (f:=(nD l5)) (g:=(nD l5)) rfl ⟨rfl,trivial⟩ (λ_ _=>rfl) (by rw[hΓ];rfl)) (Gt (st':=⟨[ZE],[(4,.row 67 [(Z5 v4.Bits),(Z5 v4.Dst),(Vz l4 36005),(Vz l5 36006)]),(Z8 v1 v11 9100002),(Yp 36005 l4.length),(Yp 36006 l5.length),(UT 9100002 (UR v38))],[]⟩) (by kernel_rfl))))))))))))))
def Qt(aA:Ar)(a3:Int)(a5:Int)(a7:List Gq):CD->Option qg:=
 λ((i2,l3):CD)=>(bif (decide (i2<(aA.length:Int))) then(Az (A2 i2 aA.length) ((G6 (aA.getD i2.toNat 0) a3 a5 a7).bind λx6=>(Az (A2 i2 l3.length) (some (.next ((w64 (i2+1)),(l3.set i2.toNat x6))))))) else(some (.done l3)))
def sD(a7:List Gq):=(Bu (λ(v_:Int)=>((Z5 v_):AV)) a7)
def Uw(aA:Ar)(a3:Int)(a5:Int)(a7:List Gq):Option Ar:=
 (Az (0<=(aA.length:Int)/\(aA.length:Int)<=(aA.length:Int)/\(aA.length:Int)<=(room:Int)) ((Ac (Qt aA a3 a5 a7) ((0:Int),(List.replicate (aA.length:Int).toNat (0:Int)))).bind (λx8=>(some x8))))
theorem bE(h:Uw v2 v1 v11 v38=some v17):sP 141 [(Z6 v2),(.clo 83 nZ [])] [(Z8 v1 v11 9100002),(9100002,.obj (.map true .i64 (Bu (λ(v_:Int)=>((Z5 v_):AV)) v38)))] (Vz v17 20000) [(Z8 v1 v11 9100002),(9100002,.obj (.map true .i64 (Bu (λ(v_:Int)=>((Z5 v_):AV)) v38))),(Yp 20000 v17.length)]:=
 sG Tryz.func141 λΓ q=>have hΓ:=q.own;gR q Gn S4 [(4,fI)] [] (c1 (B2 1 Aq (0:Int))) (tV q Nd Sk h λh=>by exact gLe (Le.trans (Sn 10 (show ∀ k_,k_<((v2.length:Int).toNat)->AVleL ((λi_=>AV.eraseAll (λn_=>Bx n_ Sk) ((λ_=>[L7]) i_)) k_) ((λi=>Aq ((List.replicate (v2.length:Int).toNat (0:Int)).getD i 0)) k_) from(λk hk=>M7 (e:=Aq) (d:=(0:Int)) (.cons (AVle.refl _) .nil) _ k (M8 hk)))) (R7 (λ(k_:Nat) u=>(Cp u [(Vh 10 k_)] (Z74 10 k_ v2.length))) (show(v2.length:Int).toNat=(List.replicate (v2.length:Int).toNat (0:Int)).length from(N7 ..).symm))) (Af q MV Sk (tL q h MV Sk (λu (i2,l3)=>(Cp u [(Vh 10 l3.length),(13,(Z5 i2))] [(Z4 10 l3)])) (λu l4=>aG Γ (.exit 0) (Nh [5] Sk u [(Vh 10 l4.length)] [(Z4 10 l4)])) (λ⟨i2,l3⟩ y h=>Af q [1,5,11,12,13,14] Sk (gC h (λh=>tV q [1,5,6,7,11,12,13] Sk h λh=>tB h λx6 y6 h=>tC h λc7_ h=>tT q MV Sk [(yc x6 v1 v11 (sD v38))] (ci (Mh y6) (uD [(.row 137 (b6 v1 v11 9100002)),(.obj (.map true .i64 (sD v38)))] (c2 c7_ (Eq.refl l3.length)))) (gLe (Le.trans (Sn 10 (show ∀ k_,k_<l3.length->AVleL ((λi_=>AV.eraseAll (λn_=>Bx n_ Sk) ((Fd (λi=>Aq (l3.getD i 0)) i2.toNat 0 [(Z5 x6)]) i_)) k_) ((λi=>Aq ((l3.set i2.toNat x6).getD i 0)) k_) from(Bi (Dd ..).symm (λk_ hk_=>(Bk (AV.eraseAll (λn_=>Bx n_ Sk)) ((Fv (λ_ _=>rfl) (Hw c7_) rfl) k_ hk_)).trans rfl)))) (R7 (λ(k_:Nat) u=>(Cp u [(Vh 10 k_)] [(10,.arr 1 3 k_ (λi=>Aq ((l3.set i2.toNat x6).getD i 0)))])) (show l3.length=(l3.set i2.toNat x6).length from(Dd ..).symm))) (Af q MV Sk (tN h)))) λh=>tS h (gO (Be (Bj [5] Sk q))))) λx8 h=>gA (Af q [4] Sk (P7 (⟨[(4,(.vsl 10 x8.length))],[(Z4 10 x8),(Z8 v1 v11 9100002),(UT 9100002 (sD v38))],[]⟩:St) (tS h (gK (e:=.ret) (H5 vE (Le.trans (le_freeze (nm:=10) (sz:=1) (n:=x8.length) (e:=3) (f:=(λi=>Aq (x8.getD i 0))) (g:=(λi=>Aq (x8.getD i 0))) rfl ⟨rfl,trivial⟩ (λ_ _=>rfl) (by rw[hΓ];rfl)) (Gt (st':=⟨[(4,(Vz x8 10))],[(Yp 10 x8.length),(Z8 v1 v11 9100002),(UT 9100002 (sD v38))],[]⟩) (by kernel_rfl)))))))))))
def M6(aA:Ar)(a3:Int)(a5:Int)(a7:List Gq):CD->Option qg:=
 λ((i2,l3):CD)=>(bif (decide (i2<(aA.length:Int))) then(Az (A2 i2 aA.length) ((Ky (aA.getD i2.toNat 0) a3 a5 a7).bind λx6=>(Az (A2 i2 l3.length) (some (.next ((w64 (i2+1)),(l3.set i2.toNat x6))))))) else(some (.done l3)))
def sE(a7:List Gq):=(Bu (λ(v_:Int)=>((Z5 v_):AV)) a7)
def Qu(aA:Ar)(a3:Int)(a5:Int)(a7:List Gq):Option Ar:=
 (Az (0<=(aA.length:Int)/\(aA.length:Int)<=(aA.length:Int)/\(aA.length:Int)<=(room:Int)) ((Ac (M6 aA a3 a5 a7) ((0:Int),(List.replicate (aA.length:Int).toNat (0:Int)))).bind (λx8=>(some x8))))
theorem NN(h:Qu v2 v1 v11 v38=some v17):sP 141 [(Z6 v2),(.clo 142 nZ [])] [(Z8 v1 v11 9100002),(9100002,.obj (.map true .i64 (Bu (λ(v_:Int)=>((Z5 v_):AV)) v38)))] (Vz v17 20000) [(Z8 v1 v11 9100002),(9100002,.obj (.map true .i64 (Bu (λ(v_:Int)=>((Z5 v_):AV)) v38))),(Yp 20000 v17.length)]:=
 sG Tryz.func141 λΓ q=>have hΓ:=q.own;gR q Gn S4 [(4,fI)] [] (c1 (B2 1 Aq (0:Int))) (tV q Nd Sk h λh=>by exact gLe (Le.trans (Sn 10 (show ∀ k_,k_<((v2.length:Int).toNat)->AVleL ((λi_=>AV.eraseAll (λn_=>Bx n_ Sk) ((λ_=>[L7]) i_)) k_) ((λi=>Aq ((List.replicate (v2.length:Int).toNat (0:Int)).getD i 0)) k_) from(λk hk=>M7 (e:=Aq) (d:=(0:Int)) (.cons (AVle.refl _) .nil) _ k (M8 hk)))) (R7 (λ(k_:Nat) u=>(Cp u [(Vh 10 k_)] (Z74 10 k_ v2.length))) (show(v2.length:Int).toNat=(List.replicate (v2.length:Int).toNat (0:Int)).length from(N7 ..).symm))) (Af q MV Sk (tL q h MV Sk (λu (i2,l3)=>(Cp u [(Vh 10 l3.length),(13,(Z5 i2))] [(Z4 10 l3)])) (λu l4=>aG Γ (.exit 0) (Nh [5] Sk u [(Vh 10 l4.length)] [(Z4 10 l4)])) (λ⟨i2,l3⟩ y h=>Af q [1,5,11,12,13,14] Sk (gC h (λh=>tV q [1,5,6,7,11,12,13] Sk h λh=>tB h λx6 y6 h=>tC h λc7_ h=>tT q MV Sk [(yc x6 v1 v11 (sE v38))] (ci (T5 y6) (uD [(.row 137 (b6 v1 v11 9100002)),(.obj (.map true .i64 (sE v38)))] (c2 c7_ (Eq.refl l3.length)))) (gLe (Le.trans (Sn 10 (show ∀ k_,k_<l3.length->AVleL ((λi_=>AV.eraseAll (λn_=>Bx n_ Sk) ((Fd (λi=>Aq (l3.getD i 0)) i2.toNat 0 [(Z5 x6)]) i_)) k_) ((λi=>Aq ((l3.set i2.toNat x6).getD i 0)) k_) from(Bi (Dd ..).symm (λk_ hk_=>(Bk (AV.eraseAll (λn_=>Bx n_ Sk)) ((Fv (λ_ _=>rfl) (Hw c7_) rfl) k_ hk_)).trans rfl)))) (R7 (λ(k_:Nat) u=>(Cp u [(Vh 10 k_)] [(10,.arr 1 3 k_ (λi=>Aq ((l3.set i2.toNat x6).getD i 0)))])) (show l3.length=(l3.set i2.toNat x6).length from(Dd ..).symm))) (Af q MV Sk (tN h)))) λh=>tS h (gO (Be (Bj [5] Sk q))))) λx8 h=>gA (Af q [4] Sk (P7 (⟨[(4,(.vsl 10 x8.length))],[(Z4 10 x8),(Z8 v1 v11 9100002),(UT 9100002 (sE v38))],[]⟩:St) (tS h (gK (e:=.ret) (H5 vE (Le.trans (le_freeze (nm:=10) (sz:=1) (n:=x8.length) (e:=3) (f:=(λi=>Aq (x8.getD i 0))) (g:=(λi=>Aq (x8.getD i 0))) rfl ⟨rfl,trivial⟩ (λ_ _=>rfl) (by rw[hΓ];rfl)) (Gt (st':=⟨[(4,(Vz x8 10))],[(Yp 10 x8.length),(Z8 v1 v11 9100002),(UT 9100002 (sE v38))],[]⟩) (by kernel_rfl)))))))))))
abbrev xI:=(Int×List A8)
def Kw(a2:Ae)(a3:Int)(a5:Int)(a7:List Gq):xI->Option (LR (Int×List A8) (List A8)):=
 λ((i2,l3):xI)=>(bif (decide (i2<(a2.Phis.length:Int))) then(Az (A2 i2 a2.Phis.length) ((Pf (a2.Phis.getD i2.toNat default) a3 a5 a7).bind λx6=>(Az (A2 i2 l3.length) (some (.next ((w64 (i2+1)),(l3.set i2.toNat (⟨x6.Bits,x6.Dst,x6.From,x6.Args⟩:A8)))))))) else(some (.done l3)))
abbrev xJ:=(Int×List Bv)
def Kx(a2:Ae)(a3:Int)(a5:Int)(a7:List Gq):xJ->Option (LR (Int×List Bv) (List Bv)):=
 λ((i11,l12):xJ)=>(bif (decide (i11<(a2.Ops.length:Int))) then(Az (A2 i11 a2.Ops.length) ((Uw ((a2.Ops.getD i11.toNat default).Args) a3 a5 a7).bind λx15=>(Az (A2 i11 l12.length) (some (.next ((w64 (i11+1)),(l12.set i11.toNat (⟨(a2.Ops.getD i11.toNat default).Kind,(a2.Ops.getD i11.toNat default).Bits,(a2.Ops.getD i11.toNat default).Lanes,(a2.Ops.getD i11.toNat default).Dst,x15,(a2.Ops.getD i11.toNat default).Imm⟩:Bv)))))))) else(some (.done l12)))
def FE(a2:Ae)(i11:Int):=(a2.Ops.getD i11.toNat default)
def nF(x8:List A8):=(λi=>El (x8.getD i default))
def IX(a7:List Gq):=(Bu (λ(v_:Int)=>((Z5 v_):AV)) a7)
def vb(a2:Ae):=(List.replicate (a2.Ops.length:Int).toNat (default:Bv))
def va(a2:Ae):=(List.replicate (a2.Phis.length:Int).toNat (default:A8))
def sF(a3:Int)(a5:Int):Own:=(.row 137 (b6 a3 a5 9100002))
def vd(l12:List Bv)(i11:Int)(a2:Ae)(x15:Ar):=(l12.set i11.toNat (⟨(FE a2 i11).Kind,(FE a2 i11).Bits,(FE a2 i11).Lanes,(FE a2 i11).Dst,x15,(FE a2 i11).Imm⟩:Bv))
def nE:List AV:=[Zz,Zz,L7,L7,Zz]
def yF(a2:Ae):List AV:=[(xW a2.Phis),(xX a2.Ops),(Z5 a2.End.Kind),(Z5 a2.End.Arg),(Z6 a2.End.To)]
def yG(a2:Ae)(i11:Int)(x15:Ar):List AV:=[(.int .i64 (FE a2 i11).Kind),(.int .i64 (FE a2 i11).Bits),(.int .i64 (FE a2 i11).Lanes),(.int .i64 (FE a2 i11).Dst),(Z6 x15),(.int .u64 (FE a2 i11).Imm)]
def yE(x8:List A8)(l12:List Bv)(i11:Int)(a2:Ae):List MP:=[b8,(3,(.ptr 3 0)),ZE,(Vh 15 x8.length),(8,(.vsl 34 l12.length)),(9,(Z5 i11)),(10,(.ptr 10 0)),(36,(xX a2.Ops)),(bj 37 a2.Ops.length),(38,(Z5 i11))]
def Kv(a2:Ae)(a3:Int)(a5:Int)(a7:List Gq):Option Ae:=
 (Az (0<=(a2.Phis.length:Int)/\(a2.Phis.length:Int)<=(a2.Phis.length:Int)/\(a2.Phis.length:Int)<=(room:Int)) ((Ac (Kw a2 a3 a5 a7) ((0:Int),(List.replicate (a2.Phis.length:Int).toNat (default:A8)))).bind (λx8=>(Az (0<=(a2.Ops.length:Int)/\(a2.Ops.length:Int)<=(a2.Ops.length:Int)/\(a2.Ops.length:Int)<=(room:Int)) ((Ac (Kx a2 a3 a5 a7) ((0:Int),(List.replicate (a2.Ops.length:Int).toNat (default:Bv)))).bind (λx17=>((G6 a2.End.Arg a3 a5 a7).bind λx19=>((Qu a2.End.To a3 a5 a7).bind λx20=>(some (⟨x8,x17,(⟨a2.End.Kind,x19,x20⟩:J9)⟩:Ae))))))))))
variable{v42:Ae}{v9:Ae}
theorem T4(h:Kv v9 v1 v11 v38=some v42):sP 85 [(.ptr 30000 0),(.agg (Cj v9))] [(Z8 v1 v11 9100002),(9100002,.obj (.map true .i64 (Bu (λ(v_:Int)=>((Z5 v_):AV)) v38)))] (.agg (Cj v42)) [(Z8 v1 v11 9100002),(9100002,.obj (.map true .i64 (Bu (λ(v_:Int)=>((Z5 v_):AV)) v38)))]:=
 sG Tryz.func85 λΓ q=>have hΓ:=q.own;Af q S7 eX (tV q bf CQ h λh=>by exact gLe (Le.trans (Sn 15 (show ∀ k_,k_<((v9.Phis.length:Int).toNat)->AVleL ((λi_=>AV.eraseAll (λn_=>Bx n_ CQ) ((λ_=>[L7,L7,Zz,Zz]) i_)) k_) ((λi=>El ((va v9).getD i default)) k_) from(λk hk=>M7 (e:=El) (d:=(default:A8)) (.cons (AVle.refl _) (.cons (AVle.refl _) (.cons (λ_ _ _ _ _ hh=>AVle.untag _ _ _ _ _ (Ej _ _ _ _ _ hh)) (.cons (λ_ _ _ _ _ hh=>AVle.untag _ _ _ _ _ (Ej _ _ _ _ _ hh)) .nil)))) _ k (M8 hk)))) (R7 (λ(k_:Nat) u=>(Cp u [(Vh 15 k_)] [(15,.arr 4 67 k_ (λi=>El ((va v9).getD i default)))])) (show(v9.Phis.length:Int).toNat=(va v9).length from(N7 ..).symm))) (Af q kO CQ (tL q h kO CQ (λu (i2,l3)=>(Cp u [(Vh 15 l3.length),(19,(Z5 i2))] (nU 15 l3))) (λu l4=>aG Γ (.exit 0) (Nh bf CQ u [(Vh 15 l4.length)] (nU 15 l4))) (λ⟨i2,l3⟩ y h=>Af q [0,3,4,5,17,18,19,20] CQ (gC h (λh=>tV q [0,3,4,5,6,7,17,18,19] [3,4,7,15,30000,9100002] h λh=>tB h λx6 y6 h=>tC h λc7_ h=>tT q kO CQ [⟨YM,[],(.agg (El x6)),[(Z8 v1 v11 9100002),(UT 9100002 (IX v38))],[],S4⟩] (ci (JZ y6) (uD [(sF v1 v11),(.obj (.map true .i64 (IX v38)))] (c2 c7_ (Eq.refl l3.length)))) (gLe (Le.trans (Sn 15 (show ∀ k_,k_<l3.length->AVleL ((λi_=>AV.eraseAll (λn_=>Bx n_ CQ) ((Fd (λi=>El (l3.getD i default)) i2.toNat 0 (El x6)) i_)) k_) ((λi=>El ((l3.set i2.toNat (⟨x6.Bits,x6.Dst,x6.From,x6.Args⟩:A8)).getD i default)) k_) from(Bi (Dd ..).symm (λk_ hk_=>(Bk (AV.eraseAll (λn_=>Bx n_ CQ)) ((Fv (λ_ _=>rfl) (Hw c7_) rfl) k_ hk_)).trans rfl)))) (R7 (λ(k_:Nat) u=>(Cp u [(Vh 15 k_)] [(15,.arr 4 67 k_ (λi=>El ((l3.set i2.toNat (⟨x6.Bits,x6.Dst,x6.From,x6.Args⟩:A8)).getD i default)))])) (show l3.length=(l3.set i2.toNat (⟨x6.Bits,x6.Dst,x6.From,x6.Args⟩:A8)).length from(Dd ..).symm))) (Af q kO CQ (tN h)))) λh=>tS h (gO (Be (Bj bf CQ q))))) λx8 h=>gA (tV q iZ CL h λh=>by exact gLe (Le.trans (Sn 34 (show ∀ k_,k_<((v9.Ops.length:Int).toNat)->AVleL ((λi_=>AV.eraseAll (λn_=>Bx n_ CL) ((λ_=>[L7,L7,L7,L7,Zz,(.int .u64 (0:Int))]) i_)) k_) ((λi=>Lh ((vb v9).getD i default)) k_) from(λk hk=>M7 (e:=Lh) (d:=(default:Bv)) (.cons (AVle.refl _) (.cons (AVle.refl _) (.cons (AVle.refl _) (.cons (AVle.refl _) (.cons (λ_ _ _ _ _ hh=>AVle.untag _ _ _ _ _ (Ej _ _ _ _ _ hh)) (.cons (AVle.refl _) .nil)))))) _ k (M8 hk)))) (R7 (λ(k_:Nat) u=>(Cp u [(8,(.vsl 34 k_))] [(34,.arr 6 70 k_ (λi=>Lh ((vb v9).getD i default)))])) (show(v9.Ops.length:Int).toNat=(vb v9).length from(N7 ..).symm))) (Af q kM CL (tL q h kM CL (λu (i11,l12)=>(Cp u [(8,(.vsl 34 l12.length)),(38,(Z5 i11))] [(fJ 34 l12)])) (λu l13=>aG Γ (.exit 2) (Nh iZ CL u [(8,(.vsl 34 l13.length))] [(fJ 34 l13)])) (λ⟨i11,l12⟩ y h=>Af q [0,3,4,5,8,36,37,38,39] CL (gC h (λh=>tV q rE qq h λh=>tB h λx15 y15 h=>tT q rE [3,4,10,15,34,47,30000,9100002] [(Z81 47 x15 v1 v11 (IX v38) x15.length)] (ci (bE y15) (rkl [(sF v1 v11),(.obj (.map true .i64 (IX v38)))])) (P7 (⟨(yE x8 l12 i11 v9),[(3,.row 64 (yF v9)),(4,.row 64 nE),(10,.row 70 [(.int .i64 (FE v9 i11).Kind),(.int .i64 (FE v9 i11).Bits),(.int .i64 (FE v9 i11).Lanes),(.int .i64 (FE v9 i11).Dst),(Vz x15 47),(.int .u64 (FE v9 i11).Imm)]),(15,.arr 4 67 x8.length (nF x8)),(fJ 34 l12),(Yp 47 x15.length),(Z8 v1 v11 9100002),(UT 9100002 (IX v38))],[]⟩:St) (gLe (show Le Γ _ (⟨(yE x8 l12 i11 v9),[(3,.row 64 (yF v9)),(4,.row 64 nE),(10,.row 70 (yG v9 i11 x15)),(15,.arr 4 67 x8.length (nF x8)),(fJ 34 l12),(Z8 v1 v11 9100002),(UT 9100002 (IX v38))],[]⟩:St) from Bj rE qq q) (tC h λc16_ h=>tU q kM CL (c2 c16_ (Eq.refl l12.length)) (gLe (Le.trans (Sn 34 (show ∀ k_,k_<l12.length->AVleL ((λi_=>AV.eraseAll (λn_=>Bx n_ CL) ((Fd (λi=>Lh (l12.getD i default)) i11.toNat 0 (yG v9 i11 x15)) i_)) k_) ((λi=>Lh ((vd l12 i11 v9 x15).getD i default)) k_) from(Bi (Dd ..).symm (λk_ hk_=>(Bk (AV.eraseAll (λn_=>Bx n_ CL)) ((Fv (λ_ _=>rfl) (Hw c16_) rfl) k_ hk_)).trans rfl)))) (R7 (λ(k_:Nat) u=>(Cp u [(8,(.vsl 34 k_))] [(34,.arr 6 70 k_ (λi=>Lh ((vd l12 i11 v9 x15).getD i default)))])) (show l12.length=(vd l12 i11 v9 x15).length from(Dd ..).symm))) (Af q kM CL (tN h))))))) λh=>tS h (gO (Be (Bj iZ CL q))))) λx17 h=>gA (tB h λx19 y19 h=>tB h λx20 y20 h=>tT q [4,5,8,11] [4,11,15,34,67,30000,9100002] [(yc x19 v1 v11 (IX v38)),(Z81 67 x20 v1 v11 (IX v38) x20.length)] (ci (Mh y19) (uD [(sF v1 v11),(.obj (.map true .i64 (IX v38)))] (ci (NN y20) (rkl [(sF v1 v11),(.obj (.map true .i64 (IX v38)))])))) (P7 (⟨[ZE,(Vh 15 x8.length),(8,(.vsl 34 x17.length)),(11,(.ptr 11 0))],[(4,.row 64 nE),(11,.row 62 [(Z5 v9.End.Kind),(Z5 x19),(Vz x20 67)]),(15,.arr 4 67 x8.length (nF x8)),(fJ 34 x17),(Yp 67 x20.length),(Z8 v1 v11 9100002),(UT 9100002 (IX v38))],[]⟩:St) (gLe (Le.trans (le_freeze (nm:=15) (sz:=4) (n:=x8.length) (e:=67) (f:=(nF x8)) (g:=(nF x8)) rfl ⟨rfl,trivial⟩ (λ_ _=>rfl) (by rw[hΓ];rfl)) (Gt (st':=⟨[ZE,(5,(AV.list 4 El default x8 (.own 15))),(8,(.vsl 34 x17.length)),(11,(.ptr 11 0))],[(4,.row 64 nE),(11,.row 62 [(Z5 v9.End.Kind),(Z5 x19),(Vz x20 67)]),(15,.tok 4 67 x8.length),(fJ 34 x17),(Yp 67 x20.length),(Z8 v1 v11 9100002),(UT 9100002 (IX v38))],[]⟩) (by kernel_rfl))) (gLe (Le.trans (le_freeze (nm:=34) (sz:=6) (n:=x17.length) (e:=70) (f:=(λi=>Lh (x17.getD i default))) (g:=(λi=>Lh (x17.getD i default))) rfl ⟨rfl,trivial⟩ (λ_ _=>rfl) (by rw[hΓ];rfl)) (Gt (st':=⟨[ZE,(5,(AV.list 4 El default x8 (.own 15))),(8,(wH x17 34)),(11,(.ptr 11 0))],[(4,.row 64 nE),(11,.row 62 [(Z5 v9.End.Kind),(Z5 x19),(Vz x20 67)]),(15,.tok 4 67 x8.length),(34,.tok 6 70 x17.length),(Yp 67 x20.length),(Z8 v1 v11 9100002),(UT 9100002 (IX v38))],[]⟩) (by kernel_rfl))) (Af q [4] [4,15,34,67,30000,9100002] (tS h (Cd YM)))))))))))))
def G4(a2:TFunc)(a3:Int)(a5:Int):qk->Option zj:=
 λ((i3,l4):qk)=>(bif (decide (i3<(((a2.Blocks.getD a5.toNat default).Phis).length:Int))) then(Az (A2 i3 ((a2.Blocks.getD a5.toNat default).Phis).length) (Az (A2 (0:Int) ((((a2.Blocks.getD a5.toNat default).Phis).getD i3.toNat default).Args).length) ((G6 (((((a2.Blocks.getD a5.toNat default).Phis).getD i3.toNat default).Args).getD (0:Int).toNat (0:Int)) a3 a5 l4).bind λx8=>(some (.next ((w64 (i3+1)),(Jl l4 (((a2.Blocks.getD a5.toNat default).Phis).getD i3.toNat default).Dst x8))))))) else(some (.done l4)))
abbrev ub:=(Int×List Ae)
abbrev zw:=(LR (Int×List Ae) (List Ae))
def G5(a2:TFunc)(a3:Int)(a5:Int)(l5:List Gq)(x11:List Bv):ub->Option zw:=
 λ((i12,l13):ub)=>(bif (decide (i12<(a2.Blocks.length:Int))) then(Option.bind (α:=List Ae) (Az (A2 i12 a2.Blocks.length) (bif (i12==a3) then((Kv (⟨(a2.Blocks.getD a3.toNat default).Phis,x11,(⟨(a2.Blocks.getD a5.toNat default).End.Kind,(a2.Blocks.getD a5.toNat default).End.Arg,(a2.Blocks.getD a5.toNat default).End.To⟩:J9)⟩:Ae) a3 a5 l5).bind λx17=>(Az (l13.length+([(⟨x17.Phis,x17.Ops,(⟨x17.End.Kind,x17.End.Arg,x17.End.To⟩:J9)⟩:Ae)]:List Ae).length<=room) (some (l13++([(⟨x17.Phis,x17.Ops,(⟨x17.End.Kind,x17.End.Arg,x17.End.To⟩:J9)⟩:Ae)]:List Ae))))) else(bif (i12==a5) then(some l13) else((Kv (a2.Blocks.getD i12.toNat default) a3 a5 l5).bind λx19=>(Az (l13.length+([(⟨x19.Phis,x19.Ops,(⟨x19.End.Kind,x19.End.Arg,x19.End.To⟩:J9)⟩:Ae)]:List Ae).length<=room) (some (l13++([(⟨x19.Phis,x19.Ops,(⟨x19.End.Kind,x19.End.Arg,x19.End.To⟩:J9)⟩:Ae)]:List Ae)))))))) (λx21=>(some (.next ((w64 (i12+1)),x21))))) else(some (.done l13)))
def Zf:=(λ(v_:Int)=>((Z5 v_):AV))
def US(a2:TFunc):AV:=(Z6 a2.Params)
def vh:AV:=(AV.list 5 Cj default ([]:List Ae) .exact)
def vf:List AV:=[Zz,L7,Zz]
def yJ(a2:TFunc)(a5:Int)(i3:Int):=(((a2.Blocks.getD a5.toNat default).Phis).getD i3.toNat default)
def sH(x17:Ae):=([(⟨x17.Phis,x17.Ops,(⟨x17.End.Kind,x17.End.Arg,x17.End.To⟩:J9)⟩:Ae)]:List Ae)
def sI(x19:Ae):=([(⟨x19.Phis,x19.Ops,(⟨x19.End.Kind,x19.End.Arg,x19.End.To⟩:J9)⟩:Ae)]:List Ae)
def yI(a2:TFunc)(a3:Int)(a5:Int):=([(a2.Blocks.getD a3.toNat default).Ops,(a2.Blocks.getD a5.toNat default).Ops]:List (List Bv))
def yH(a2:TFunc):List MP:=[b8,ZE,eg,(9,(.ptr 9 0)),(68,(UH a2.Blocks)),(bj 69 a2.Blocks.length),(70,L7)]
def ve(a2:TFunc)(a3:Int)(x11:List Bv)(a5:Int):List AV:=[(AV.list 4 El default (a2.Blocks.getD a3.toNat default).Phis .none),(wH x11 57),(.int .i64 (a2.Blocks.getD a5.toNat default).End.Kind),(.int .i64 (a2.Blocks.getD a5.toNat default).End.Arg),(AV.list 1 Aq 0 (a2.Blocks.getD a5.toNat default).End.To .none)]
def yK(a2:TFunc)(a3:Int)(x11:List Bv)(a5:Int)(x9:List Gq):=(⟨(yH a2),[(4,.row 25 vf),(5,.row 64 (ve a2 a3 x11 a5)),(9,.row 25 [(US a2),(Z5 a2.Ret),(AV.list 5 Cj default ([]:List Ae) (.own 5902))]),(29,.obj (.map true .i64 (Bu Zf x9))),(57,.tok 6 70 x11.length),(5902,.tok 5 64 (([]:List Ae).length)),(Z8 a3 a5 29)],[]⟩:St)
abbrev zx:=(TFunc×Int×Int×List (Int×Int))
def Fc(a2:TFunc)(a3:Int)(a5:Int):Option zx:=
 (Az (A2 a3 a2.Blocks.length) (Az (A2 a5 a2.Blocks.length) ((Ac (G4 a2 a3 a5) ((0:Int),([]:List Gq))).bind (λx9=>((Fg ([(a2.Blocks.getD a3.toNat default).Ops,(a2.Blocks.getD a5.toNat default).Ops]:List (List Bv))).bind λx11=>((Ac (G5 a2 a3 a5 x9 x11) ((0:Int),([]:List Ae))).bind (λx23=>(some ((⟨a2.Params,a2.Ret,x23⟩:TFunc),a3,a5,x9)))))))))
variable{v43:zx}
theorem Sc(h:Fc v0 v1 v11=some v43):sP 47 [(.ptr 30000 0),(V0 v0)] (yl 30000 v1 v11) (V0 v43.1) [(Z8 v43.2.1 v43.2.2.1 9200002),(9200002,.obj (.map false .i64 (Bu (λ(v_:Int)=>((Z5 v_):AV)) v43.2.2.2)))]:=
 sG Tryz.func47 λΓ q=>Af q S7 [3,4,30000] (tC h λc1_ h=>tC h λc2_ h=>tU q TN [3,4,5,6,30000] (c2 c1_ c2_) (Af q TN MU (gLe (R7 (λ(k_:List mR) u=>Cp u [] [(UT 29 k_)]) (show[]=(Bu Zf ([]:List Gq)) from rfl)) (Af q kN MU (tL q h kN MU (λu (i3,l4)=>(Cp u [(35,(Z5 i3))] [(29,.obj (.map true .i64 (Bu Zf l4)))])) (λu l5=>aG Γ (.exit 0) (Nh TN MU u [] [(29,.obj (.map true .i64 (Bu Zf l5)))])) (λ⟨i3,l4⟩ y h=>Af q [0,3,4,5,6,33,34,35,36] MU (gC h (λh=>tV q [0,3,4,5,6,8,33,34,35] [3,4,5,6,8,29,30000] h λh=>tC h λc7_ h=>tB h λx8 y8 h=>tT q kN MU [⟨iA,[],(Z5 x8),[(Z8 v1 v11 9100002),(9100002,.obj (.map true .i64 (Bu Zf l4)))],[],[30000,29]⟩] (fe c7_ (Mh y8) (rkl [(.row 137 (b6 v1 v11 29)),(.obj (.map true .i64 (Bu Zf l4)))])) (gLe (R7 (λ(k_:List mR) u=>Cp u [] [(UT 29 k_)]) (show(Jl (Bu Zf l4) (yJ v0 v11 i3).Dst (Z5 x8))=(Bu Zf (Jl l4 (yJ v0 v11 i3).Dst x8)) from(ak (f:=Zf) (l:=l4) (v:=x8) rfl rfl))) (Af q kN MU (tN h)))) λh=>tS h (gO (Be (Bj TN MU q))))) λx9 h=>gA (tB h λx11 y11 h=>gR q bf [3,4,5,29,57,30000] [(56,(AV.list 1 WM [] (yI v0 v1 v11) .exact))] [⟨[],[(20000,57)],(wH x11 20000),[(20000,.tok 6 70 x11.length)],[],[]⟩] (c2 (Br 1 WM [] (yI v0 v1 v11)) (Rr y11)) (gR q [0,3,4,5,9] [3,4,5,9,29,57,30000] [(66,(.agg [(US v0),(Z5 v0.Ret),vh]))] [] (c1 (show(AVle (.agg [(US v0),(Z5 v0.Ret),Zz]) (.agg [(US v0),(Z5 v0.Ret),vh])) from(AVle.agg (.cons (AVle.refl _) (.cons (AVle.refl _) (.cons Ej .nil)))))) (Af q MT q9 (gLe (st':=(yK v0 v1 x11 v11 x9)) (Le.trans (Bj (st':=⟨(yH v0),[(4,.row 25 vf),(5,.row 64 (ve v0 v1 x11 v11)),(9,.row 25 [(US v0),(Z5 v0.Ret),vh]),(29,.obj (.map true .i64 (Bu Zf x9))),(57,.tok 6 70 x11.length),(Z8 v1 v11 29)],[]⟩) MT q9 q) (Le.trans (AX (r:=9) (j:=2) (nm:=5902) (sz':=5) (λi=>Cj (([]:List Ae).getD i default)) 64 rfl rfl (nl rfl) rfl (.inl ⟨rfl,rfl⟩) (λh_=>absurd h_ (by decide))) (Bj (st':=(yK v0 v1 x11 v11 x9)) MT TZ q))) (tL q h MT TZ (λu (i12,l13)=>(Cp u [(70,(Z5 i12))] [(9,.row 25 [(US v0),(Z5 v0.Ret),(wG l13 5902)]),(Lj 5902 64 l13.length)])) (λu l14=>aG Γ (.exit 2) (Nh [4,9] rA u [] [(9,.row 25 [(US v0),(Z5 v0.Ret),(wG l14 5902)]),(Lj 5902 64 l14.length)])) (λ⟨i12,l13⟩ y h=>Af q [0,4,5,9,68,69,70,71] TZ (gC h (λh=>tB h λx21 y21 h=>gJ y21 (λl15=>aG Γ .normal (⟨[b8,ZE,eg,(9,(.ptr 9 0)),(68,(UH v0.Blocks)),(bj 69 v0.Blocks.length),(70,(Z5 i12))],[(4,.row 25 vf),(5,.row 64 (ve v0 v1 x11 v11)),(9,.row 25 [(US v0),(Z5 v0.Ret),(wG l15 5902)]),(29,.obj (.map true .i64 (Bu Zf x9))),(57,.tok 6 70 x11.length),(Lj 5902 64 l15.length),(Z8 v1 v11 29)],[]⟩:St)) (λy h=>tV q [0,4,5,9,10,11,68,69,70] kF h λh=>tW q [0,4,5,9,11,68,69,70,75] kF [0,4,5,9,11,68,69,70,75,84] kF (gC h (λh=>tB h λx17 y17 h=>tC h λc18_ h=>gR q MT TZ (Z56 95 (sH x17) 96 l13 5902) [⟨iA,[],(.agg (Cj x17)),[(Z8 v1 v11 9100002),(9100002,.obj (.map true .i64 (Bu Zf x9)))],[],[30000,29]⟩] (ci (T4 y17) (uD [(.row 137 (b6 v1 v11 29)),(.obj (.map true .i64 (Bu Zf x9)))] (c5 (Br 5 Cj (default:Ae) (sH x17)) (Eq.refl l13.length) c18_ (Iy 5 5902 Cj (default:Ae) l13 (sH x17)) (E2 l13 (sH x17))))) (tS h (gK (Be Ip)))) λh=>Af q [0,4,5,9,11,68,69,70,98] kF (gC h (λh=>tS h (gK (Be (Bj MT TZ q)))) λh=>tB h λx19 y19 h=>tC h λc20_ h=>gR q MT TZ (Z56 81 (sI x19) 82 l13 5902) [⟨iA,[],(.agg (Cj x19)),[(Z8 v1 v11 9100002),(9100002,.obj (.map true .i64 (Bu Zf x9)))],[],[30000,29]⟩] (ci (T4 y19) (uD [(.row 137 (b6 v1 v11 29)),(.obj (.map true .i64 (Bu Zf x9)))] (c5 (Br 5 Cj (default:Ae) (sI x19)) (Eq.refl l13.length) c20_ (Iy 5 5902 Cj (default:Ae) l13 (sI x19)) (E2 l13 (sI x19))))) (tS h (gK (Be Ip)))))) (gA (Af q MT TZ (tN h)))) λh=>tS h (gO (Be (Bj [4,9] rA q))))) λx23 h=>gA (Af q [4] [4,29,5902,30000] (P7 (⟨[ZE],[(4,.row 25 [(US v0),(Z5 v0.Ret),(wG x23 5902)]),(29,.obj (.map true .i64 (Bu Zf x9))),(Lj 5902 64 x23.length),(Z8 v1 v11 29)],[]⟩:St) (tS h (gK (e:=.ret) (H5 [(30000,30000),(29,9200002)] (Le.trans (fy (nm:=29) (.map false .i64 (Bu Zf x9)) rfl (λ_ _ _ _ h_=>QW h_)) (Bj (st':=⟨[ZE],[(4,.row 25 [(US v0),(Z5 v0.Ret),(wG x23 5902)]),(29,.obj (.map false .i64 (Bu Zf x9))),(Lj 5902 64 x23.length),(Z8 v1 v11 29)],[]⟩) [4] [4,29,5902,30000] q)))))))))))))))))
def I5(a2:TFunc):Option TFunc:=
 none
variable{v44:TFunc}
theorem Pv(h:I5 v0=some v44):sP 47 [.nilp,(V0 v0)] [] (V0 v44) []:=
 sG Tryz.func47 λΓ q=>Af q S7 [3,4] (nomatch h)
abbrev VW:=(Ar×Int×List Ae)
abbrev zy:=(LR (Ar×Int×List Ae) TFunc)
def O2 :VW->Option zy:=
 λ(s_:VW)=>match s_ with|(l1,i2,l3)=>((Ks (⟨l1,i2,l3⟩:TFunc)).bind λx9=>(bif x9.1.1 then(bif x9.2 then((Fc (⟨l1,i2,l3⟩:TFunc) x9.1.2.x x9.1.2.y).bind λx11=>(some (.next (x11.1.Params,x11.1.Ret,x11.1.Blocks)))) else(some (.done (⟨l1,i2,l3⟩:TFunc)))) else(bif x9.2 then((I5 (⟨l1,i2,l3⟩:TFunc)).bind λx12=>(some (.next (x12.Params,x12.Ret,x12.Blocks)))) else(some (.done (⟨l1,i2,l3⟩:TFunc))))))
def e7(Γ:H4)(a0:TFunc)(r:TFunc):Exit->St->Prop:=fK Tryz.prog Γ Tryz.f17.results.toList [] (V0 r) []
def NE:=((.ptr 20000 0):AV)
def kg(x5:qn):List ON:=(yl 20000 x5.1.2.x x5.1.2.y)
def kh(x9:qn):List ON:=(yl 20000 x9.1.2.x x9.1.2.y)
def nG(l1:Ar)(i2:Int)(l3:List Ae):List AV:=[(Z6 l1),(Z5 i2),(UH l3)]
def Ty(a0:TFunc):Option TFunc:=
 ((Ru (S:=VW) (X:=TFunc) ((Lr a0).bind λx4=>(bif (!x4) then(some (.done a0)) else((Ks a0).bind λx5=>(bif x5.1.1 then(bif x5.2 then((Fc a0 x5.1.2.x x5.1.2.y).bind λx7=>(some (.next (x7.1.Params,x7.1.Ret,x7.1.Blocks)))) else(some (.done a0))) else(bif x5.2 then((I5 a0).bind λx8=>(some (.next (x8.Params,x8.Ret,x8.Blocks)))) else(some (.done a0))))))) O2).bind (λx13=>(some x13)))
theorem MB(h:Ty v0=some v44):sP 17 [(V0 v0)] [] (V0 v44) []:=
 sG Tryz.func17 λΓ q=>Af q D7 D7 (tB h λx13 y13 h=>gS y13 (λ(s_:VW)=>match s_ with|(l1,i2,l3)=>0) (λ(s_:VW)=>match s_ with|(l1,i2,l3)=>(⟨[CU,Uj],[(1,.row 25 (nG l1 i2 l3)),(2,.row 25 [Zz,L7,Zz])],[]⟩:St)) (λr_=>aR (e7 Γ v0 r_)) (λy h=>tB h λx4 y4 h=>tT q [1,2,7] D7 [(Z2 x4)] (c1 (Sp y4)) (gC h (λh=>Af q [2] [2] (tS h (eh (Ll (H5 [] (Le.refl _ _)))))) λh=>tB h λx5 y5 h=>gB h (λhs6 h=>tT q bg TV [⟨[],[(20000,11)],(.tuple [(bif true then NE else .nilp),(.bool x5.2)]),(bif true then(kg x5) else[]),[],[]⟩] (c1 (show(sP 46 [(V0 v0)] [] (.tuple [(bif true then NE else .nilp),(.bool x5.2)]) (bif true then(kg x5) else[])) from(eqB (λb_:Bool=>sP 46 [(V0 v0)] [] (.tuple [(bif b_ then NE else .nilp),(.bool x5.2)]) (bif b_ then(kg x5) else[])) hs6 (R0 y5)))) (Af q bb TV (gC h (λh=>tB h λx7 y7 h=>tT q D7 D7 [⟨[(11,30000)],rB,(V0 x7.1),[(Z8 x7.2.1 x7.2.2.1 9200002),(9200002,.obj (.map false .i64 (Bu (λ(v_:Int)=>((Z5 v_):AV)) x7.2.2.2)))],[],[]⟩] (c1 (Sc y7)) (tS h (fi Ip))) λh=>Af q [2] [2] (tS h (eh (Ll (H5 [] (Le.refl _ _)))))))) (λhs6 h=>tT q bg D7 [⟨[],[],(.tuple [(bif false then NE else .nilp),(.bool x5.2)]),(bif false then(kg x5) else[]),[],[]⟩] (c1 (show(sP 46 [(V0 v0)] [] (.tuple [(bif false then NE else .nilp),(.bool x5.2)]) (bif false then(kg x5) else[])) from(eqB (λb_:Bool=>sP 46 [(V0 v0)] [] (.tuple [(bif b_ then NE else .nilp),(.bool x5.2)]) (bif b_ then(kg x5) else[])) hs6 (R0 y5)))) (Af q bb D7 (gC h (λh=>tB h λx8 y8 h=>tT q D7 D7 [(nV x8)] (c1 (Pv y8)) (tS h (fi Ip))) λh=>Af q [2] [2] (tS h (eh (Ll (H5 [] (Le.refl _ _)))))))))) (λ⟨l1,i2,l3⟩ y h=>tB h λx9 y9 h=>gB h (λhs10 h=>tT q bg TV [⟨[],[(20000,11)],(.tuple [(bif true then NE else .nilp),(.bool x9.2)]),(bif true then(kh x9) else[]),[],[]⟩] (c1 (show(sP 46 [(.agg (nG l1 i2 l3))] [] (.tuple [(bif true then NE else .nilp),(.bool x9.2)]) (bif true then(kh x9) else[])) from(eqB (λb_:Bool=>sP 46 [(.agg (nG l1 i2 l3))] [] (.tuple [(bif b_ then NE else .nilp),(.bool x9.2)]) (bif b_ then(kh x9) else[])) hs10 (R0 y9)))) (Af q bb TV (gC h (λh=>tB h λx11 y11 h=>tT q D7 D7 [⟨[(11,30000)],rB,(V0 x11.1),[(Z8 x11.2.1 x11.2.2.1 9200002),(9200002,.obj (.map false .i64 (Bu (λ(v_:Int)=>((Z5 v_):AV)) x11.2.2.2)))],[],[]⟩] (c1 (Sc y11)) (tS h (fi Ip))) λh=>Af q [2] [2] (tS h (eh (Ll (H5 [] (Le.refl _ _)))))))) (λhs10 h=>tT q bg D7 [⟨[],[],(.tuple [(bif false then NE else .nilp),(.bool x9.2)]),(bif false then(kh x9) else[]),[],[]⟩] (c1 (show(sP 46 [(.agg (nG l1 i2 l3))] [] (.tuple [(bif false then NE else .nilp),(.bool x9.2)]) (bif false then(kh x9) else[])) from(eqB (λb_:Bool=>sP 46 [(.agg (nG l1 i2 l3))] [] (.tuple [(bif b_ then NE else .nilp),(.bool x9.2)]) (bif b_ then(kh x9) else[])) hs10 (R0 y9)))) (Af q bb D7 (gC h (λh=>tB h λx12 y12 h=>tT q D7 D7 [(nV x12)] (c1 (Pv y12)) (tS h (fi Ip))) λh=>Af q [2] [2] (tS h (eh (Ll (H5 [] (Le.refl _ _))))))))) (Oz (λst' hk=>tS h (gK hk))))
def Ku(aA:Ar):Zx->Option bN:=
 λ((i1,l2):Zx)=>(bif (decide (i1<(aA.length:Int))) then(Az (A2 i1 aA.length) (Az (A2 (aA.getD i1.toNat 0) l2.length) (some (.next ((w64 (i1+1)),(l2.set (aA.getD i1.toNat 0).toNat true)))))) else(some (.done l2)))
def Ji(aA:Ar)(a3:List Bool):Option (List Bool):=
 ((Ac (Ku aA) ((0:Int),a3)).bind (λx6=>(some x6)))
variable{v45:List Bool}
theorem Sq(h:Ji v2 v33=some v45):sP 81 [(Z6 v2),(.ptr 30000 0)] (yf v33.length v33) (.tuple []) (yf v45.length v45):=
 sG Tryz.func81 λΓ q=>Af q bh IQ (tL q h bh IQ (λu (i1,l2)=>(Cp u [(7,(Z5 i1))] (yf l2.length l2))) (λu l3=>aG Γ (.exit 0) (⟨[],(yf l3.length l3),[]⟩:St)) (λ⟨i1,l2⟩ y h=>Af q [1,5,6,7,8] IQ (gC h (λh=>tV q [1,4,5,6,7] IQ h λh=>tC h λc5_ h=>tU q bh IQ (c2 c5_ (Eq.refl l2.length)) (gLe (Le.trans (Sn 35000 (show ∀ k_,k_<l2.length->AVleL ((λi_=>AV.eraseAll (λn_=>Bx n_ IQ) ((Fd (λi=>eB (l2.getD i false)) (v2.getD i1.toNat 0).toNat 0 [(.bool true)]) i_)) k_) ((λi=>eB ((l2.set (v2.getD i1.toNat 0).toNat true).getD i false)) k_) from(Bi (Dd ..).symm (λk_ hk_=>(Bk (AV.eraseAll (λn_=>Bx n_ IQ)) ((Fv (λ_ _=>rfl) (Hw c5_) rfl) k_ hk_)).trans rfl)))) (R7 (λ(k_:Nat) u=>(Cp u [] [(30000,.row 81 [(.vsl 35000 k_)]),(35000,.arr 1 4 k_ (λi=>eB ((l2.set (v2.getD i1.toNat 0).toNat true).getD i false)))])) (show l2.length=(l2.set (v2.getD i1.toNat 0).toNat true).length from(Dd ..).symm))) (Af q bh IQ (tN h)))) λh=>tS h (gO (Be (Bj [] IQ q))))) λx6 h=>uz (λst' hl7=>tS h (gK (e:=.normal) (H5 [(30000,30000),(35000,35000)] hl7))))
def Ml(a0:TFunc)(i2:Int):Zx->Option bN:=
 λ((i7,l8):Zx)=>(bif (decide (i7<(((a0.Blocks.getD i2.toNat default).Phis).length:Int))) then(Az (A2 i7 ((a0.Blocks.getD i2.toNat default).Phis).length) ((Ji ((((a0.Blocks.getD i2.toNat default).Phis).getD i7.toNat default).Args) l8).bind λx11=>(Az (l8.length=x11.length) (some (.next ((w64 (i7+1)),x11)))))) else(some (.done l8)))
def Mm(a0:TFunc)(i2:Int):Zx->Option bN:=
 λ((i15,l16):Zx)=>(bif (decide (i15<(((a0.Blocks.getD i2.toNat default).Ops).length:Int))) then(Az (A2 i15 ((a0.Blocks.getD i2.toNat default).Ops).length) ((Ji ((((a0.Blocks.getD i2.toNat default).Ops).getD i15.toNat default).Args) l16).bind λx19=>(Az (l16.length=x19.length) (some (.next ((w64 (i15+1)),x19)))))) else(some (.done l16)))
def Mn(a0:TFunc):Zx->Option bN:=
 λ((i2,l3):Zx)=>(bif (decide (i2<(a0.Blocks.length:Int))) then(Option.bind (α:=List Bool) (Az (A2 i2 a0.Blocks.length) ((Ac (Ml a0 i2) ((0:Int),l3)).bind (λx13=>((Ac (Mm a0 i2) ((0:Int),x13)).bind (λx21=>(bif (bif (((a0.Blocks.getD i2.toNat default).End.Kind:Int)==0) then true else(((a0.Blocks.getD i2.toNat default).End.Kind:Int)==2)) then((Ji ([(a0.Blocks.getD i2.toNat default).End.Arg]:Ar) x21).bind λx23=>(Az (x21.length=x23.length) (some x23))) else(some x21))))))) (λx25=>(some (.next ((w64 (i2+1)),x25))))) else(some (.done l3)))
def sJ(a0:TFunc)(i2:Int):=(a0.Blocks.getD i2.toNat default)
def Kt(a0:TFunc):Option (List Bool):=
 (Az (0<=(1024:Int)/\(1024:Int)<=1024/\(1024:Int)<=(room:Int)) ((Ac (Mn a0) ((0:Int),(List.replicate (1024:Int).toNat false))).bind (λx27=>(some x27))))
theorem Vu(h:Kt v0=some v33):sP 43 [(V0 v0)] [] (NQ v33 20000) [(Q6 20000 v33.length)]:=
 sG Tryz.func43 λΓ q=>have hΓ:=q.own;gR q [1] [1] [(2,(AV.list 1 eB false ([]:List Bool) .exact))] [] (c1 (B2 1 eB false)) (tV q L5 [1,3,11] h λh=>by exact gLe (Le.trans (Sn 11 (show ∀ k_,k_<((1024:Int).toNat)->AVleL ((λi_=>AV.eraseAll (λn_=>Bx n_ [1,3,11]) ((λ_=>[(.bool false)]) i_)) k_) ((λi=>eB ((List.replicate (1024:Int).toNat false).getD i false)) k_) from(λk hk=>M7 (e:=eB) (d:=false) (.cons (AVle.refl _) .nil) _ k (M8 hk)))) (R7 (λ(k_:Nat) u=>(Cp u [] [(3,.row 81 [(.vsl 11 k_)]),(11,.arr 1 4 k_ (λi=>eB ((List.replicate (1024:Int).toNat false).getD i false)))])) (show(1024:Int).toNat=(List.replicate (1024:Int).toNat false).length from(N7 ..).symm))) (tW q J6 [1,3,11] SZ CP (tL q h SZ CP (λu (i2,l3)=>(Cp u [(16,(Z5 i2))] (wF l3.length l3))) (λu l4=>aG Γ (.exit 0) (Nh [3] CP u [] (wF l4.length l4))) (λ⟨i2,l3⟩ y h=>Af q [3,4,14,15,16,17] CP (gC h (λh=>tB h λx25 y25 h=>gJ y25 (λl5=>aG Γ .normal (⟨[(3,(.ptr 3 0)),(4,(.clo 81 [] [(.ptr 3 0)])),(14,(UH v0.Blocks)),(bj 15 v0.Blocks.length),(16,(Z5 i2))],(wF l5.length l5),[]⟩:St)) (λy h=>tV q eZ S6 h λh=>Af q kG S6 (tL q h kG S6 (λu (i7,l8)=>(Cp u [(23,(Z5 i7))] (wF l8.length l8))) (λu l9=>aG Γ (.exit 2) (Nh eZ S6 u [] (wF l9.length l9))) (λ⟨i7,l8⟩ y h=>Af q [3,4,6,14,15,16,21,22,23,24] S6 (gC h (λh=>tV q [3,4,6,8,14,15,16,21,22,23] [3,6,8,11] h λh=>tB h λx11 y11 h=>tC h λc12_ h=>tT q kG S6 [(Z93 x11.length x11)] (c1 (Sq y11)) (Af q kG S6 (tN h))) λh=>tS h (gO (Be (Bj eZ S6 q))))) λx13 h=>gA (Af q kH S6 (tL q h kH S6 (λu (i15,l16)=>(Cp u [(35,(Z5 i15))] (wF l16.length l16))) (λu l17=>aG Γ (.exit 4) (Nh eZ S6 u [] (wF l17.length l17))) (λ⟨i15,l16⟩ y h=>Af q [3,4,6,14,15,16,33,34,35,36] S6 (gC h (λh=>tV q [3,4,6,10,14,15,16,33,34,35] [3,6,10,11] h λh=>tB h λx19 y19 h=>tC h λc20_ h=>tT q kH S6 [(Z93 x19.length x19)] (c1 (Sq y19)) (Af q kH S6 (tN h))) λh=>tS h (gO (Be (Bj eZ S6 q))))) λx21 h=>gA (tU q [3,4,6,14,15,16,53] S6 (Yt ((((sJ v0 i2).End.Kind:Int)==0)==false) (c1 (Ly (((sJ v0 i2).End.Kind:Int)==0)))) (gC h (λh=>tB h λx23 y23 h=>tC h λc24_ h=>gR q SZ CP [(58,(AV.list 1 Aq 0 ([(sJ v0 i2).End.Arg]:Ar) .exact))] [(Z93 x23.length x23)] (c2 (Br 1 Aq (0:Int) ([(sJ v0 i2).End.Arg]:Ar)) (Sq y23)) (tS h (gK (Be Ip)))) λh=>tS h (gK (Be (Bj SZ CP q))))))))) (gA (Af q SZ CP (tN h)))) λh=>tS h (gO (Be (Bj [3] CP q))))) λx27 h=>gA (Af q [2] [11] (P7 (⟨[(2,(.vsl 11 x27.length))],[(Z9 11 x27)],[]⟩:St) (tS h (gK (e:=.ret) (H5 [(11,20000)] (Le.trans (le_freeze (nm:=11) (sz:=1) (n:=x27.length) (e:=4) (f:=(λi=>eB (x27.getD i false))) (g:=(λi=>eB (x27.getD i false))) rfl ⟨rfl,trivial⟩ (λ_ _=>rfl) (by rw[hΓ];rfl)) (Gt (st':=⟨[(2,(NQ x27 11))],[(Q6 11 x27.length)],[]⟩) (by kernel_rfl)))))))))))
def kj:AV:=(AV.list 4 El default ([]:List A8) .exact)
def yL:=(⟨[(2,(.vsl 36002 ([]:List A8).length))],[(36002,.arr 4 67 (([]:List A8).length) (λi=>El (([]:List A8).getD i default)))],[]⟩:St)
def Cn(aJ:List A8):Option (List A8):=
 (Az (aJ.length<=room) (some aJ))
variable{v46:List A8}{v5:List A8}
theorem Pn(h:Cn v5=some v46):sP 87 [(xW v5)] [] (.vsl 20000 v46.length) (nU 20000 v46):=by
 refine KD mix Tryz.func87 (λΓ hq=>?_);unfold Cn at h;refine gR hq [0] [] [(2,kj)] [] (c1 (B2 4 El (default:A8))) ?_;refine Af hq [0,4] [] ?_;refine yx true v5.length (λhb=>?_) (λhb=>?_)
 ·replace h:=pU (some ([]:List A8)) (λ(l2:List A8)=>(Az (l2.length<=room) (some l2))) h (hb rfl) rfl (λh0=>by first|exact h0|simpa [Az,room] using h0);clear hb;refine gR hq [2] [] [(2,kj)] [] (c1 (B2 4 El (default:A8))) ?_;refine P7 (⟨[(2,kj)],[],[]⟩:St) ?_;cases h;exact gK (e:=.ret) (H5 [(36002,20000)] (show Le Γ _ yL from Le.trans (Bj (st':=⟨[(2,kj)],[],[]⟩) [2] [] hq) (Le.trans (QF (t:=2) (nm:=36002) (sz':=4) (λi=>El (([]:List A8).getD i default)) 67 rfl rfl) (Bj (st':=yL) [2] [36002] hq))))
 ·clear hb;obtain⟨hc1,h⟩:=Qd h;refine gR hq [2] [7] [(5,kj),(7,.vsl 7 0)] [] (ci (show(AVle (.slice 4 0 (λi=>([]:List (List AV)).getD i []) .exact) kj) from ZI rfl (λi hi=>absurd hi (Wz i))) (c1 hc1)) ?_;obtain rfl:=OI h;exact Cd [(7,20000)]
def Je(aV:A8)(a2:List Bool):Option Bool:=
 (Az (A2 aV.Dst a2.length) (some (!(a2.getD (aV.Dst).toNat false))))
theorem U1(h:Je v4 v33=some v3):sP 88 [(.agg (El v4)),(.rptr (ZO v33))] [] (.bool v3) []:=
 sG Tryz.func88 λΓ q=>Af q D7 [2] (tV q [3] [] h λh=>tS h (Cd []))
def C7(aJ:List A8)(aa7:List Bool):Int->Option (LR Int (Unit ⊕ Int)):=
 λ(i1:Int)=>(bif (decide (i1<(aJ.length:Int))) then(Az (A2 i1 aJ.length) ((Je (aJ.getD i1.toNat default) aa7).bind λx3=>(bif x3 then(some (.done (.inr i1))) else(some (.next (w64 (i1+1))))))) else(some (.done (.inl ()))))
def Pi(Γ:H4)(aJ:List A8)(aa7:List Bool)(r:Int):Exit->St->Prop:=fK Tryz.prog Γ Tryz.f143.results.toList [] (.int .i64 r) []
def F2(aJ:List A8)(aa7:List Bool):Option Int:=
 ((Ac (C7 aJ aa7) (0:Int)).bind (λx4=>(match x4 with|(.inl _)=>(some (-1:Int))|(.inr r6)=>(some r6))))
theorem O4(h:F2 v5 v33=some v1):sP 143 [(xW v5),(.clo 88 [] [(.rptr (ZO v33))])] [] (.int .i64 v1) []:=
 sG Tryz.func143 λΓ q=>tW q Gn [] IU [] (tL q h IU [] (λu i1=>(Cp u [(8,(Z5 i1))] [])) (λu x_=>match x_ with|(.inl _)=>aG Γ (.exit 0) (⟨[],[],[]⟩:St)|(.inr r_)=>aR (Pi Γ v5 v33 r_)) (λi1 y h=>Af q iV [] (gC h (λh=>Af q iW [] (tC h λc2_ h=>tB h λx3 y3 h=>tT q iI [] [(Z2 x3)] (c2 c2_ (U1 y3)) (gC h (λh=>Af q [4] [] (tS h (gO (Ll (H5 [] (Le.refl _ _)))))) λh=>Af q IU [] (tN h)))) λh=>tS h (gO (Be (Bj [] [] q))))) λx4 h=>(match x4,h with | .inl _,h=>gA (Af q [4] [] (tS h (Cd []))) | .inr r6,h=>Oz (λst' hk=>tS h (gK hk))))
def Cx(aa4:List Bool):(Int×Int×List A8)->Option (LR (Int×Int×List A8) (Int×List A8)):=
 λ((i2,i3,l4):(Int×Int×List A8))=>(bif (decide (i3<(l4.length:Int))) then(Option.bind (α:=xI) (Az (A2 i3 l4.length) ((Je (l4.getD i3.toNat default) aa4).bind λx10=>(bif (!x10) then(Az (A2 i2 l4.length) (some ((w64 (i2+1)),(l4.set i2.toNat (⟨(l4.getD i3.toNat default).Bits,(l4.getD i3.toNat default).Dst,(l4.getD i3.toNat default).From,(l4.getD i3.toNat default).Args⟩:A8))))) else(some (i2,l4))))) (λ(i7,l8)=>(some (.next (i7,(w64 (i3+1)),l8))))) else(some (.done (i2,l4))))
def vj(l6:List A8)(i5:Int):=(NY l6 (0+i5.toNat) (l6.length-(0+i5.toNat)) (λ_=>(default:A8)))
def vi(l4:List A8)(i2:Int)(i3:Int):=(l4.set i2.toNat (⟨(l4.getD i3.toNat default).Bits,(l4.getD i3.toNat default).Dst,(l4.getD i3.toNat default).From,(l4.getD i3.toNat default).Args⟩:A8))
abbrev uc:=(Nat×List A8)
def Dn(aJ:List A8)(aa4:List Bool):Option uc:=
 ((F2 aJ aa4).bind λx1=>(bif (x1==-1) then(some ((aJ.length:Nat),aJ)) else((Ac (Cx aa4) (x1,(w64 (x1+1)),aJ)).bind (λ(i5,l6)=>(Az (0<=i5/\0+i5.toNat<=l6.length) (Az (0<=i5/\0+i5.toNat<=(NY l6 (0+i5.toNat) (l6.length-(0+i5.toNat)) (λ_=>(default:A8))).length) (some (((0+i5.toNat):Nat),(NY l6 (0+i5.toNat) (l6.length-(0+i5.toNat)) (λ_=>(default:A8)))))))))))
variable{v47:uc}
theorem Oo(h:Dn v5 v33=some v47):sP 86 [(.vsl 34000 v5.length),(.clo 88 [] [(.rptr (ZO v33))])] (nU 34000 v5) (.vsub 34000 v47.2.length 0 v47.1) (nU 34000 v47.2):=
 sG Tryz.func86 λΓ q=>gR q Gn [34000] [(4,(AV.list 4 El default ([]:List A8) .exact))] [] (c1 (B2 4 El (default:A8))) (tB h λx1 y1 h=>tT q Nd [34000] [⟨[],[],(Z5 x1),[],[34000],[]⟩] (c3 (O4 y1) (show(EF []) from trivial) (Eq.refl v5.length)) (Af q [0,1,5,12] [34000] (gC h (λh=>Af q [4] [34000] (P7 (⟨[(4,(.vsl 34000 v5.length))],(nU 34000 v5),[]⟩:St) (tS h (gK (e:=.ret) (H5 TC (Le.trans (ja (t:=4) (r:=34000) rfl rfl) (Bj (st':=⟨[(4,(.vsub 34000 v5.length 0 v5.length))],(nU 34000 v5),[]⟩) [4] [34000] q))))))) λh=>Af q W4 [34000] (tL q h W4 [34000] (λu (i2,i3,l4)=>(Cp u [(ma l4.length),(5,(Z5 i2)),(6,(Z5 i3))] (nU 34000 l4))) (λu (i5,l6)=>aG Γ (.exit 0) (⟨[(ma l6.length),(5,(Z5 i5))],(nU 34000 l6),[]⟩:St)) (λ⟨i2,i3,l4⟩ y h=>Af q [0,1,5,6,19] [34000] (gC h (λh=>tB h λx12 y12 h=>gJ y12 (λ(i7,l8)=>aG Γ .normal (⟨[(ma l8.length),(1,(.clo 88 [] [(.rptr (ZO v33))])),(5,(Z5 i7)),(6,(Z5 i3))],(nU 34000 l8),[]⟩:St)) (λy h=>tC h λc9_ h=>tU q [0,1,5,6,7] bi (c2 c9_ (Eq.refl l4.length)) (tB h λx10 y10 h=>tT q [0,1,5,6,7,29] bi [(Z2 x10)] (c1 (U1 y10)) (gC h (λh=>tC h λc11_ h=>tU q W4 [34000] (c2 c11_ (Eq.refl l4.length)) (gLe (Le.trans (Sn 34000 (show ∀ k_,k_<l4.length->AVleL ((λi_=>AV.eraseAll (λn_=>Bx n_ [34000]) ((Fd (λi=>El (l4.getD i default)) i2.toNat 0 (El (l4.getD i3.toNat default))) i_)) k_) ((λi=>El ((vi l4 i2 i3).getD i default)) k_) from(Bi (Dd ..).symm (λk_ hk_=>(Bk (AV.eraseAll (λn_=>Bx n_ [34000])) ((Fv (λ_ _=>rfl) (Hw c11_) rfl) k_ hk_)).trans rfl)))) (R7 (λ(k_:Nat) u=>(Cp u [(ma k_)] [(34000,.arr 4 67 k_ (λi=>El ((vi l4 i2 i3).getD i default)))])) (show l4.length=(vi l4 i2 i3).length from(Dd ..).symm))) (Af q W4 [34000] (tS h (gK (Be Ip)))))) λh=>tS h (gK (Be (Bj W4 [34000] q)))))) (match x12,h with|⟨i7,l8⟩,h=>gA (Af q W4 [34000] (tN h)))) λh=>tS h (gO (Be (Bj [0,5] [34000] q))))) λx14 h=>(match x14,h with|⟨i5,l6⟩,h=>gA (tC h λc16_ h=>tU q [0,5] [34000] (c2 c16_ (Eq.refl l6.length)) (gLe (Le.trans (Sn 34000 (show ∀ k_,k_<l6.length->AVleL ((λi_=>AV.eraseAll (λn_=>Bx n_ [34000]) ((WH (λi=>El (l6.getD i default)) (0+i5.toNat) (l6.length-(0+i5.toNat)) (λ_=>[L7,L7,Zz,Zz])) i_)) k_) ((λi=>El ((vj l6 i5).getD i default)) k_) from(oX (e:=El) (d:=(default:A8)) (l:=l6) (.cons (AVle.refl _) (.cons (AVle.refl _) (.cons (λ_ _ _ _ _ hh=>AVle.untag _ _ _ _ _ (Ej _ _ _ _ _ hh)) (.cons (λ_ _ _ _ _ hh=>AVle.untag _ _ _ _ _ (Ej _ _ _ _ _ hh)) .nil)))) (λ_ _=>rfl)))) (R7 (λ(k_:Nat) u=>(Cp u [(ma k_)] [(34000,.arr 4 67 k_ (λi=>El ((vj l6 i5).getD i default)))])) (show l6.length=(vj l6 i5).length from(Ek ..)))) (tV q [4] [34000] h λh=>tS h (Cd TC)))))))))
def kl:AV:=yh
def yM:=(⟨[(2,(.vsl 36002 ([]:List Bv).length))],[(36002,.arr 6 70 (([]:List Bv).length) (λi=>Lh (([]:List Bv).getD i default)))],[]⟩:St)
def C8(aJ:List Bv):Option (List Bv):=
 (Az (aJ.length<=room) (some aJ))
variable{v48:List Bv}
theorem Qx(h:C8 v7=some v48):sP 90 [(xX v7)] [] (.vsl 20000 v48.length) [(fJ 20000 v48)]:=by
 refine KD mix Tryz.func90 (λΓ hq=>?_);unfold C8 at h;refine gR hq [0] [] [(2,kl)] [] (c1 (B2 6 Lh (default:Bv))) ?_;refine Af hq [0,4] [] ?_;refine yx true v7.length (λhb=>?_) (λhb=>?_)
 ·replace h:=pU (some ([]:List Bv)) (λ(l2:List Bv)=>(Az (l2.length<=room) (some l2))) h (hb rfl) rfl (λh0=>by first|exact h0|simpa [Az,room] using h0);clear hb;refine gR hq [2] [] [(2,kl)] [] (c1 (B2 6 Lh (default:Bv))) ?_;refine P7 (⟨[(2,kl)],[],[]⟩:St) ?_;cases h;exact gK (e:=.ret) (H5 [(36002,20000)] (show Le Γ _ yM from Le.trans (Bj (st':=⟨[(2,kl)],[],[]⟩) [2] [] hq) (Le.trans (QF (t:=2) (nm:=36002) (sz':=6) (λi=>Lh (([]:List Bv).getD i default)) 70 rfl rfl) (Bj (st':=yM) [2] [36002] hq))))
 ·clear hb;obtain⟨hc1,h⟩:=Qd h;refine gR hq [2] [7] [(5,kl),(7,.vsl 7 0)] [] (ci (show(AVle (.slice 6 0 (λi=>([]:List (List AV)).getD i []) .exact) kl) from ZI rfl (λi hi=>absurd hi (Wz i))) (c1 hc1)) ?_;obtain rfl:=OI h;exact Cd [(7,20000)]
def Jf(a1:Bv)(a2:List Bool):Option Bool:=
 ((Uv a1.Kind).bind λx1=>(Az ((x1==true)=true->(A2 a1.Dst a2.length)) (some (bif x1 then(!(a2.getD (a1.Dst).toNat false)) else false))))
theorem U2(h:Jf v6 v33=some v3):sP 91 [(VZ v6),(.rptr (ZO v33))] [] (.bool v3) []:=
 sG Tryz.func91 λΓ q=>Af q D7 [2] (tB h λx1 y1 h=>tC h λc2_ h=>tT q [3] [] [(Z2 x1)] (ci (ax y1) (Yt (x1==true) (ci c2_ (Mt (x1==true) (c1 (Ng x1)))))) (tS h (Cd [])))
def Cy(aJ:List Bv)(aa7:List Bool):Int->Option (LR Int (Unit ⊕ Int)):=
 λ(i1:Int)=>(bif (decide (i1<(aJ.length:Int))) then(Az (A2 i1 aJ.length) ((Jf (aJ.getD i1.toNat default) aa7).bind λx3=>(bif x3 then(some (.done (.inr i1))) else(some (.next (w64 (i1+1))))))) else(some (.done (.inl ()))))
def Ow(Γ:H4)(aJ:List Bv)(aa7:List Bool)(r:Int):Exit->St->Prop:=fK Tryz.prog Γ Tryz.f144.results.toList [] (.int .i64 r) []
def Ft(aJ:List Bv)(aa7:List Bool):Option Int:=
 ((Ac (Cy aJ aa7) (0:Int)).bind (λx4=>(match x4 with|(.inl _)=>(some (-1:Int))|(.inr r6)=>(some r6))))
theorem Oq(h:Ft v7 v33=some v1):sP 144 [(xX v7),(.clo 91 [] [(.rptr (ZO v33))])] [] (.int .i64 v1) []:=
 sG Tryz.func144 λΓ q=>tW q Gn [] IU [] (tL q h IU [] (λu i1=>(Cp u [(8,(Z5 i1))] [])) (λu x_=>match x_ with|(.inl _)=>aG Γ (.exit 0) (⟨[],[],[]⟩:St)|(.inr r_)=>aR (Ow Γ v7 v33 r_)) (λi1 y h=>Af q iV [] (gC h (λh=>Af q iW [] (tC h λc2_ h=>tB h λx3 y3 h=>tT q iI [] [(Z2 x3)] (c2 c2_ (U2 y3)) (gC h (λh=>Af q [4] [] (tS h (gO (Ll (H5 [] (Le.refl _ _)))))) λh=>Af q IU [] (tN h)))) λh=>tS h (gO (Be (Bj [] [] q))))) λx4 h=>(match x4,h with | .inl _,h=>gA (Af q [4] [] (tS h (Cd []))) | .inr r6,h=>Oz (λst' hk=>tS h (gK hk))))
def Df(aa4:List Bool):(Int×Int×List Bv)->Option (LR (Int×Int×List Bv) (Int×List Bv)):=
 λ((i2,i3,l4):(Int×Int×List Bv))=>(bif (decide (i3<(l4.length:Int))) then(Option.bind (α:=xJ) (Az (A2 i3 l4.length) ((Jf (l4.getD i3.toNat default) aa4).bind λx10=>(bif (!x10) then(Az (A2 i2 l4.length) (some ((w64 (i2+1)),(l4.set i2.toNat (⟨(l4.getD i3.toNat default).Kind,(l4.getD i3.toNat default).Bits,(l4.getD i3.toNat default).Lanes,(l4.getD i3.toNat default).Dst,(l4.getD i3.toNat default).Args,(l4.getD i3.toNat default).Imm⟩:Bv))))) else(some (i2,l4))))) (λ(i7,l8)=>(some (.next (i7,(w64 (i3+1)),l8))))) else(some (.done (i2,l4))))
def vl(l6:List Bv)(i5:Int):=(NY l6 (0+i5.toNat) (l6.length-(0+i5.toNat)) (λ_=>(default:Bv)))
def vk(l4:List Bv)(i2:Int)(i3:Int):=(l4.set i2.toNat (⟨(l4.getD i3.toNat default).Kind,(l4.getD i3.toNat default).Bits,(l4.getD i3.toNat default).Lanes,(l4.getD i3.toNat default).Dst,(l4.getD i3.toNat default).Args,(l4.getD i3.toNat default).Imm⟩:Bv))
abbrev ud:=(Nat×List Bv)
def D2(aJ:List Bv)(aa4:List Bool):Option ud:=
 ((Ft aJ aa4).bind λx1=>(bif (x1==-1) then(some ((aJ.length:Nat),aJ)) else((Ac (Df aa4) (x1,(w64 (x1+1)),aJ)).bind (λ(i5,l6)=>(Az (0<=i5/\0+i5.toNat<=l6.length) (Az (0<=i5/\0+i5.toNat<=(NY l6 (0+i5.toNat) (l6.length-(0+i5.toNat)) (λ_=>(default:Bv))).length) (some (((0+i5.toNat):Nat),(NY l6 (0+i5.toNat) (l6.length-(0+i5.toNat)) (λ_=>(default:Bv)))))))))))
variable{v49:ud}
theorem Po(h:D2 v7 v33=some v49):sP 89 [(.vsl 34000 v7.length),(.clo 91 [] [(.rptr (ZO v33))])] [(fJ 34000 v7)] (.vsub 34000 v49.2.length 0 v49.1) [(fJ 34000 v49.2)]:=
 sG Tryz.func89 λΓ q=>gR q Gn [34000] [(4,yh)] [] (c1 (B2 6 Lh (default:Bv))) (tB h λx1 y1 h=>tT q Nd [34000] [⟨[],[],(Z5 x1),[],[34000],[]⟩] (c3 (Oq y1) (show(EF []) from trivial) (Eq.refl v7.length)) (Af q [0,1,5,12] [34000] (gC h (λh=>Af q [4] [34000] (P7 (⟨[(4,(.vsl 34000 v7.length))],[(fJ 34000 v7)],[]⟩:St) (tS h (gK (e:=.ret) (H5 TC (Le.trans (ja (t:=4) (r:=34000) rfl rfl) (Bj (st':=⟨[(4,(.vsub 34000 v7.length 0 v7.length))],[(fJ 34000 v7)],[]⟩) [4] [34000] q))))))) λh=>Af q W4 [34000] (tL q h W4 [34000] (λu (i2,i3,l4)=>(Cp u [(ma l4.length),(5,(Z5 i2)),(6,(Z5 i3))] [(fJ 34000 l4)])) (λu (i5,l6)=>aG Γ (.exit 0) (⟨[(ma l6.length),(5,(Z5 i5))],[(fJ 34000 l6)],[]⟩:St)) (λ⟨i2,i3,l4⟩ y h=>Af q [0,1,5,6,19] [34000] (gC h (λh=>tB h λx12 y12 h=>gJ y12 (λ(i7,l8)=>aG Γ .normal (⟨[(ma l8.length),(1,(.clo 91 [] [(.rptr (ZO v33))])),(5,(Z5 i7)),(6,(Z5 i3))],[(fJ 34000 l8)],[]⟩:St)) (λy h=>tC h λc9_ h=>tU q [0,1,5,6,7] bi (c2 c9_ (Eq.refl l4.length)) (tB h λx10 y10 h=>tT q [0,1,5,6,7,29] bi [(Z2 x10)] (c1 (U2 y10)) (gC h (λh=>tC h λc11_ h=>tU q W4 [34000] (c2 c11_ (Eq.refl l4.length)) (gLe (Le.trans (Sn 34000 (show ∀ k_,k_<l4.length->AVleL ((λi_=>AV.eraseAll (λn_=>Bx n_ [34000]) ((Fd (λi=>Lh (l4.getD i default)) i2.toNat 0 (Lh (l4.getD i3.toNat default))) i_)) k_) ((λi=>Lh ((vk l4 i2 i3).getD i default)) k_) from(Bi (Dd ..).symm (λk_ hk_=>(Bk (AV.eraseAll (λn_=>Bx n_ [34000])) ((Fv (λ_ _=>rfl) (Hw c11_) rfl) k_ hk_)).trans rfl)))) (R7 (λ(k_:Nat) u=>(Cp u [(ma k_)] [(34000,.arr 6 70 k_ (λi=>Lh ((vk l4 i2 i3).getD i default)))])) (show l4.length=(vk l4 i2 i3).length from(Dd ..).symm))) (Af q W4 [34000] (tS h (gK (Be Ip)))))) λh=>tS h (gK (Be (Bj W4 [34000] q)))))) (match x12,h with|⟨i7,l8⟩,h=>gA (Af q W4 [34000] (tN h)))) λh=>tS h (gO (Be (Bj [0,5] [34000] q))))) λx14 h=>(match x14,h with|⟨i5,l6⟩,h=>gA (tC h λc16_ h=>tU q [0,5] [34000] (c2 c16_ (Eq.refl l6.length)) (gLe (Le.trans (Sn 34000 (show ∀ k_,k_<l6.length->AVleL ((λi_=>AV.eraseAll (λn_=>Bx n_ [34000]) ((WH (λi=>Lh (l6.getD i default)) (0+i5.toNat) (l6.length-(0+i5.toNat)) (λ_=>[L7,L7,L7,L7,Zz,(.int .u64 (0:Int))])) i_)) k_) ((λi=>Lh ((vl l6 i5).getD i default)) k_) from(oX (e:=Lh) (d:=(default:Bv)) (l:=l6) (.cons (AVle.refl _) (.cons (AVle.refl _) (.cons (AVle.refl _) (.cons (AVle.refl _) (.cons (λ_ _ _ _ _ hh=>AVle.untag _ _ _ _ _ (Ej _ _ _ _ _ hh)) (.cons (AVle.refl _) .nil)))))) (λ_ _=>rfl)))) (R7 (λ(k_:Nat) u=>(Cp u [(ma k_)] [(34000,.arr 6 70 k_ (λi=>Lh ((vl l6 i5).getD i default)))])) (show l6.length=(vl l6 i5).length from(Ek ..)))) (tV q [4] [34000] h λh=>tS h (Cd TC)))))))))
def Kz(a0:TFunc)(aa5:List Bool):ub->Option zw:=
 λ((i1,l2):ub)=>(bif (decide (i1<(a0.Blocks.length:Int))) then(Az (A2 i1 a0.Blocks.length) ((Cn ((a0.Blocks.getD i1.toNat default).Phis)).bind λx5=>((Dn x5 aa5).bind λx6=>(Az (x6.1<=x6.2.length) (Az (x5.length=x6.2.length) ((C8 ((a0.Blocks.getD i1.toNat default).Ops)).bind λx9=>((D2 x9 aa5).bind λx10=>(Az (x10.1<=x10.2.length) (Az (x9.length=x10.2.length) (Az (l2.length+([(⟨(x6.2.take x6.1),(x10.2.take x10.1),(⟨(a0.Blocks.getD i1.toNat default).End.Kind,(a0.Blocks.getD i1.toNat default).End.Arg,(a0.Blocks.getD i1.toNat default).End.To⟩:J9)⟩:Ae)]:List Ae).length<=room) (some (.next ((w64 (i1+1)),(l2++([(⟨(x6.2.take x6.1),(x10.2.take x10.1),(⟨(a0.Blocks.getD i1.toNat default).End.Kind,(a0.Blocks.getD i1.toNat default).End.Arg,(a0.Blocks.getD i1.toNat default).End.To⟩:J9)⟩:Ae)]:List Ae))))))))))))))) else(some (.done l2)))
def fH(x10:ud):=(λi=>Lh (x10.2.getD i default))
def GL(a0:TFunc)(i1:Int):=(a0.Blocks.getD i1.toNat default)
def nI(x6:uc):=(λi=>El (x6.2.getD i default))
def nJ(a0:TFunc)(i1:Int):AV:=(AV.list 1 Aq 0 (GL a0 i1).End.To .none)
def bv:List AV:=[Zz,L7,Zz]
def kn(a0:TFunc)(l2:List Ae):List AV:=[(Z6 a0.Params),(Z5 a0.Ret),(wG l2 5502)]
def vn(a0:TFunc):List AV:=[(Z6 a0.Params),(Z5 a0.Ret),(AV.list 5 Cj default ([]:List Ae) .exact)]
def yO(a0:TFunc):List AV:=[(Z6 a0.Params),(Z5 a0.Ret),(AV.list 5 Cj default ([]:List Ae) (.own 5502))]
def sK(x6:uc)(x10:ud)(a0:TFunc)(i1:Int):=([(⟨(x6.2.take x6.1),(x10.2.take x10.1),(⟨(GL a0 i1).End.Kind,(GL a0 i1).End.Arg,(GL a0 i1).End.To⟩:J9)⟩:Ae)]:List Ae)
def vm(aa5:List Bool)(a0:TFunc):List MP:=[(3,(.rptr (ZO aa5))),ZE,eg,(14,(UH a0.Blocks)),(bj 15 a0.Blocks.length),(16,L7)]
def nH(aa5:List Bool)(a0:TFunc)(i1:Int):List MP:=[(3,(.rptr (ZO aa5))),ZE,eg,(7,(.ptr 7 0)),(14,(UH a0.Blocks)),(bj 15 a0.Blocks.length),(16,(Z5 i1))]
def Jk(a0:TFunc)(aa5:List Bool):Option TFunc:=
 ((Ac (Kz a0 aa5) ((0:Int),([]:List Ae))).bind (λx14=>(some (⟨a0.Params,a0.Ret,x14⟩:TFunc))))
theorem Y1(h:Jk v0 v33=some v44):sP 48 [(V0 v0),(AV.list 1 eB false v33 .none)] [] (V0 v44) []:=
 sG Tryz.func48 λΓ q=>have hΓ:=q.own;gR q [2,3,4] [2,4] [(3,(.rptr []))] [] trivial (gR q [2,3,4,5] [2,4,5] [(12,(.agg (vn v0)))] [] (c1 (show(AVle (.agg [(Z6 v0.Params),(Z5 v0.Ret),Zz]) (.agg (vn v0))) from(AVle.agg (.cons (AVle.refl _) (.cons (AVle.refl _) (.cons Ej .nil)))))) (Af q YQ [4,5] (gLe (st':=⟨(vm v33 v0),[(4,.row 25 bv),(5,.row 25 (yO v0)),(5502,.tok 5 64 (([]:List Ae).length))],[]⟩) (Le.trans (Bj (st':=⟨(vm v33 v0),[(4,.row 25 bv),(5,.row 25 (vn v0))],[]⟩) YQ [4,5] q) (Le.trans (AX (r:=5) (j:=2) (nm:=5502) (sz':=5) (λi=>Cj (([]:List Ae).getD i default)) 64 rfl rfl (nl rfl) rfl (.inl ⟨rfl,rfl⟩) (λh_=>absurd h_ (by decide))) (Bj (st':=⟨(vm v33 v0),[(4,.row 25 bv),(5,.row 25 (yO v0)),(5502,.tok 5 64 (([]:List Ae).length))],[]⟩) YQ GB q))) (tL q h YQ GB (λu (i1,l2)=>(Cp u [(16,(Z5 i1))] [(5,.row 25 (kn v0 l2)),(Lj 5502 64 l2.length)])) (λu l3=>aG Γ (.exit 0) (Nh [4,5] GB u [] [(5,.row 25 [(Z6 v0.Params),(Z5 v0.Ret),(wG l3 5502)]),(Lj 5502 64 l3.length)])) (λ⟨i1,l2⟩ y h=>Af q [3,4,5,14,15,16,17] GB (gC h (λh=>tV q iE [4,5,7,5502] h λh=>tB h λx5 y5 h=>tB h λx6 y6 h=>tC h λc7_ h=>tC h λc8_ h=>tT q iE [4,5,7,22,5502] [⟨[],[(20000,22)],(.vsl 20000 x5.length),(nU 20000 x5),[],[]⟩,⟨[(22,34000)],[],(.vsub 34000 x6.2.length 0 x6.1),[(34000,.arr 4 67 x6.2.length (nI x6))],[],[]⟩] (c2 (Pn y5) (Oo y6)) (tB h λx9 y9 h=>tB h λx10 y10 h=>tC h λc11_ h=>tC h λc12_ h=>tT q iE [4,5,7,22,28,5502] [⟨[],[(20000,28)],(.vsl 20000 x9.length),[(fJ 20000 x9)],[],[]⟩,⟨[(28,34000)],[],(.vsub 34000 x10.2.length 0 x10.1),[(34000,.arr 6 70 x10.2.length (fH x10))],[],[]⟩] (c2 (Qx y9) (Po y10)) (P7 (⟨(nH v33 v0 i1),[(4,.row 25 bv),(5,.row 25 (kn v0 l2)),(7,.row 64 [(.vsub 22 x6.2.length 0 x6.1),(.vsub 28 x10.2.length 0 x10.1),(.int .i64 (GL v0 i1).End.Kind),(.int .i64 (GL v0 i1).End.Arg),(nJ v0 i1)]),(22,.arr 4 67 x6.2.length (nI x6)),(28,.arr 6 70 x10.2.length (fH x10)),(Lj 5502 64 l2.length)],[]⟩:St) (gLe (Le.trans (Le.trans (le_freeze (nm:=22) (sz:=4) (n:=x6.2.length) (e:=67) (f:=(nI x6)) (g:=(nI x6)) rfl ⟨rfl,trivial⟩ (λ_ _=>rfl) (by rw[hΓ];rfl)) (Gt (st':=⟨(nH v33 v0 i1),[(4,.row 25 bv),(5,.row 25 (kn v0 l2)),(7,.row 64 [(.slice 4 (x6.1-0) (λi=>(nI x6) (0+i)) .none),(.vsub 28 x10.2.length 0 x10.1),(.int .i64 (GL v0 i1).End.Kind),(.int .i64 (GL v0 i1).End.Arg),(nJ v0 i1)]),(22,.tok 4 67 x6.2.length),(28,.arr 6 70 x10.2.length (fH x10)),(Lj 5502 64 l2.length)],[]⟩) (by kernel_rfl))) (I7 (st':=⟨(nH v33 v0 i1),[(4,.row 25 bv),(5,.row 25 (kn v0 l2)),(7,.row 64 [(AV.list 4 El default (x6.2.take x6.1) .none),(.vsub 28 x10.2.length 0 x10.1),(.int .i64 (GL v0 i1).End.Kind),(.int .i64 (GL v0 i1).End.Arg),(nJ v0 i1)]),(22,.tok 4 67 x6.2.length),(28,.arr 6 70 x10.2.length (fH x10)),(Lj 5502 64 l2.length)],[]⟩) (.cons (AVle.refl _) (.cons (AVle.refl _) (.cons (AVle.refl _) (.cons (AVle.refl _) (.cons (AVle.refl _) (.cons (AVle.refl _) (.cons (AVle.refl _) .nil))))))) (.same (.same (.row (.cons (nz (e:=El) (d:=(default:A8)) (And.intro trivial c7_).2) (.cons (AVle.refl _) (.cons (AVle.refl _) (.cons (AVle.refl _) (.cons (AVle.refl _) .nil))))) (.same (.same (.same .nil)))))))) (gLe (Le.trans (Le.trans (le_freeze (nm:=28) (sz:=6) (n:=x10.2.length) (e:=70) (f:=(fH x10)) (g:=(fH x10)) rfl ⟨rfl,trivial⟩ (λ_ _=>rfl) (by rw[hΓ];rfl)) (Gt (st':=⟨(nH v33 v0 i1),[(4,.row 25 bv),(5,.row 25 (kn v0 l2)),(7,.row 64 [(AV.list 4 El default (x6.2.take x6.1) .none),(.slice 6 (x10.1-0) (λi=>(fH x10) (0+i)) .none),(.int .i64 (GL v0 i1).End.Kind),(.int .i64 (GL v0 i1).End.Arg),(nJ v0 i1)]),(22,.tok 4 67 x6.2.length),(28,.tok 6 70 x10.2.length),(Lj 5502 64 l2.length)],[]⟩) (by kernel_rfl))) (I7 (st':=⟨(nH v33 v0 i1),[(4,.row 25 bv),(5,.row 25 (kn v0 l2)),(7,.row 64 [(AV.list 4 El default (x6.2.take x6.1) .none),(AV.list 6 Lh default (x10.2.take x10.1) .none),(.int .i64 (GL v0 i1).End.Kind),(.int .i64 (GL v0 i1).End.Arg),(nJ v0 i1)]),(22,.tok 4 67 x6.2.length),(28,.tok 6 70 x10.2.length),(Lj 5502 64 l2.length)],[]⟩) (.cons (AVle.refl _) (.cons (AVle.refl _) (.cons (AVle.refl _) (.cons (AVle.refl _) (.cons (AVle.refl _) (.cons (AVle.refl _) (.cons (AVle.refl _) .nil))))))) (.same (.same (.row (.cons (AVle.refl _) (.cons (nz (e:=Lh) (d:=(default:Bv)) (And.intro trivial c11_).2) (.cons (AVle.refl _) (.cons (AVle.refl _) (.cons (AVle.refl _) .nil))))) (.same (.same (.same .nil)))))))) (tC h λc13_ h=>gR q YQ GB (Z56 35 (sK x6 x10 v0 i1) 36 l2 5502) [] (c5 (Br 5 Cj (default:Ae) (sK x6 x10 v0 i1)) (Eq.refl l2.length) c13_ (Iy 5 5502 Cj (default:Ae) l2 (sK x6 x10 v0 i1)) (E2 l2 (sK x6 x10 v0 i1))) (Af q YQ GB (tN h)))))))) λh=>tS h (gO (Be (Bj [4,5] GB q))))) λx14 h=>gA (Af q [4] [4,5502] (tS h (Cd [])))))))
def Nu :VW->Option zy:=
 λ(s_:VW)=>match s_ with|(l1,i2,l3)=>((Kt (⟨l1,i2,l3⟩:TFunc)).bind λx9=>((Jk (⟨l1,i2,l3⟩:TFunc) x9).bind λx10=>((Hb x10).bind λx11=>((Hb (⟨l1,i2,l3⟩:TFunc)).bind λx12=>(bif (decide (x11<x12)) then(some (.next (x10.Params,x10.Ret,x10.Blocks))) else(some (.done (⟨l1,i2,l3⟩:TFunc))))))))
def bn(Γ:H4)(a0:TFunc)(r:TFunc):Exit->St->Prop:=fK Tryz.prog Γ Tryz.f18.results.toList [] (V0 r) []
def R9(a0:TFunc):Option TFunc:=
 ((Ru (S:=VW) (X:=TFunc) ((Lr a0).bind λx4=>(bif (!x4) then(some (.done a0)) else((Kt a0).bind λx5=>((Jk a0 x5).bind λx6=>((Hb x6).bind λx7=>((Hb a0).bind λx8=>(bif (decide (x7<x8)) then(some (.next (x6.Params,x6.Ret,x6.Blocks))) else(some (.done a0))))))))) Nu).bind (λx13=>(some x13)))
theorem HX(h:R9 v0=some v44):sP 18 [(V0 v0)] [] (V0 v44) []:=
 sG Tryz.func18 λΓ q=>Af q D7 D7 (tB h λx13 y13 h=>gS y13 (λ(s_:VW)=>match s_ with|(l1,i2,l3)=>0) (λ(s_:VW)=>match s_ with|(l1,i2,l3)=>(⟨[CU,Uj],[(1,.row 25 [(Z6 l1),(Z5 i2),(UH l3)]),(2,.row 25 [Zz,L7,Zz])],[]⟩:St)) (λr_=>aR (bn Γ v0 r_)) (λy h=>tB h λx4 y4 h=>tT q CM D7 [(Z2 x4)] (c1 (Sp y4)) (gC h (λh=>Af q [2] [2] (tS h (eh (Ll (H5 [] (Le.refl _ _)))))) λh=>tB h λx5 y5 h=>tB h λx6 y6 h=>tT q GE GE [(xU 10 x5 x5.length),(nV x6)] (c2 (Vu y5) (Y1 y6)) (tB h λx7 y7 h=>tB h λx8 y8 h=>tT q [1,2,3,16] GE [(UI x7),(UI x8)] (c2 (Qw y7) (Qw y8)) (gC h (λh=>Af q D7 D7 (tS h (fi Ip))) λh=>Af q [2] [2] (tS h (eh (Ll (H5 [] (Le.refl _ _))))))))) (λ⟨l1,i2,l3⟩ y h=>tB h λx9 y9 h=>tB h λx10 y10 h=>tT q GE GE [(xU 10 x9 x9.length),(nV x10)] (c2 (Vu y9) (Y1 y10)) (tB h λx11 y11 h=>tB h λx12 y12 h=>tT q [1,2,3,16] GE [(UI x11),(UI x12)] (c2 (Qw y11) (Qw y12)) (gC h (λh=>Af q D7 D7 (tS h (fi Ip))) λh=>Af q [2] [2] (tS h (eh (Ll (H5 [] (Le.refl _ _)))))))) (Oz (λst' hk=>tS h (gK hk))))
def Ro(a0:TFunc):Option TFunc:=
 ((Ty a0).bind λx1=>((R9 x1).bind λx2=>(some x2)))
theorem BL(h:Ro v0=some v44):sP 20 [(V0 v0)] [] (V0 v44) []:=
 sG Tryz.func20 λΓ q=>Af q D7 D7 (tB h λx1 y1 h=>tB h λx2 y2 h=>tT q [2] [2] [(nV x1),(nV x2)] (c2 (MB y1) (HX y2)) (tS h (Cd [])))
def QL(x2:List Bool):uZ->Option (LR (Ar×Int) Ar):=
 λ((l3,i4):uZ)=>(bif (decide (i4<(x2.length:Int))) then(Option.bind (α:=Ar) (Az (A2 i4 x2.length) (bif (x2.getD i4.toNat false) then(Az (l3.length+([i4]:Ar).length<=room) (some (l3++([i4]:Ar)))) else(some l3))) (λx9=>(some (.next (x9,(w64 (i4+1))))))) else(some (.done l3)))
def kq:AV:=fI
def yQ:=(⟨[(2,(Z96 6002))],[(6002,.tok 1 3 (([]:Ar).length))],[]⟩:St)
def yP(x2:List Bool):=(⟨[(3,(Z96 5003)),(10,(NQ x2 10)),(bj 11 x2.length),(12,L7)],[(Q6 10 x2.length),(5003,.tok 1 3 (([]:Ar).length))],[]⟩:St)
def LU(a0:TFunc):Option Ar:=
 ((Lr a0).bind λx1=>(bif (!x1) then(some ([]:Ar)) else((Kt a0).bind λx2=>((Ac (QL x2) (([]:Ar),(0:Int))).bind (λx11=>(some x11))))))
theorem bD(h:LU v0=some v2):sP 14 [(V0 v0)] [] (Vz v2 20000) [(Yp 20000 v2.length)]:=
 sG Tryz.func14 λΓ q=>gR q [1] [1] [(2,kq)] [] (c1 (B2 1 Aq (0:Int))) (tB h λx1 y1 h=>tT q [1,8] [1] [(Z2 x1)] (c1 (Sp y1)) (gC h (λh=>gR q [2] [] [(2,kq)] [] (c1 (B2 1 Aq (0:Int))) (P7 (⟨[(2,kq)],[],[]⟩:St) (tS h (gK (e:=.ret) (H5 [(6002,20000)] (show Le Γ _ yQ from Le.trans (Bj (st':=⟨[(2,kq)],[],[]⟩) [2] [] q) (Le.trans (Ri (t:=2) (nm:=6002) (sz':=1) (λi=>Aq (([]:Ar).getD i 0)) 3 rfl rfl (.inl ⟨rfl,rfl⟩) (λh_=>absurd h_ (by decide))) (Bj (st':=yQ) [2] [6002] q)))))))) λh=>gR q L5 [1] [(3,kq)] [] (c1 (B2 1 Aq (0:Int))) (tB h λx2 y2 h=>tT q CR [10] [(xU 10 x2 x2.length)] (c1 (Vu y2)) (gLe (st':=(yP x2)) (Le.trans (Bj (st':=⟨[(3,kq),(10,(NQ x2 10)),(bj 11 x2.length),(12,L7)],[(Q6 10 x2.length)],[]⟩) CR [10] q) (Le.trans (Ri (t:=3) (nm:=5003) (sz':=1) (λi=>Aq (([]:Ar).getD i 0)) 3 rfl rfl (.inl ⟨rfl,rfl⟩) (λh_=>absurd h_ (by decide))) (Bj (st':=(yP x2)) CR CK q))) (tL q h CR CK (λu (l3,i4)=>(Cp u [(3,(Vz l3 5003)),(12,(Z5 i4))] [(Yp 5003 l3.length)])) (λu l5=>aG Γ (.exit 0) (⟨[(3,(Vz l5 5003))],[(Yp 5003 l5.length)],[]⟩:St)) (λ⟨l3,i4⟩ y h=>Af q [3,10,11,12,13] CK (gC h (λh=>tB h λx9 y9 h=>gJ y9 (λl6=>aG Γ .normal (⟨[(3,(Vz l6 5003)),(10,(NQ x2 10)),(bj 11 x2.length),(12,(Z5 i4))],[(Q6 10 x2.length),(Yp 5003 l6.length)],[]⟩:St)) (λy h=>tV q [3,4,5,10,11,12] CK h λh=>Af q [3,4,10,11,12,17] CK (gC h (λh=>tC h λc8_ h=>gR q CR CK (wC 20 i4 21 l3 5003) [] (c5 (Br 1 Aq (0:Int) ([i4]:Ar)) (Eq.refl l3.length) c8_ (Iy 1 5003 Aq (0:Int) l3 ([i4]:Ar)) (E2 l3 ([i4]:Ar))) (tS h (gK (Be Ip)))) λh=>tS h (gK (Be (Bj CR CK q))))) (gA (Af q CR CK (tN h)))) λh=>tS h (gO (Be (Bj [3] [5003] q))))) λx11 h=>gA (Af q [2] [5003] (tS h (Cd bY))))))))
def F3:List Bv:=([(⟨(0:Int),(8:Int),(1:Int),(1:Int),([]:Ar),(7:Int)⟩:Bv),(⟨(0:Int),(8:Int),(1:Int),(2:Int),([]:Ar),(8:Int)⟩:Bv)]:List Bv)
def Dh:List Ae:=([(⟨([]:List A8),F3,(⟨(1:Int),(0:Int),([(1:Int)]:Ar)⟩:J9)⟩:Ae),(⟨([(⟨(8:Int),(3:Int),([(0:Int)]:Ar),([(1:Int)]:Ar)⟩:A8)]:List A8),([]:List Bv),(⟨(0:Int),(3:Int),([]:Ar)⟩:J9)⟩:Ae)]:List Ae)
def GM:AV:=L7
def bw:AV:=uo
def kr:AV:=Zz
def vo(x4:Bool)(x1:TFunc):=(bif (bif (bif x4 then((x1.Blocks.length:Int)==1) else false) then(((x1.Blocks.getD (0:Int).toNat (default:Ae)).End.Arg:Int)==1) else false) then((((x1.Blocks.getD (0:Int).toNat (default:Ae)).Ops).length:Int)==2) else false)
def Aah(x2:TFunc):=((x2.Blocks.length:Int)==1)
def nK(x4:Bool)(x1:TFunc)(x2:TFunc):=(bif (vo x4 x1) then(Aah x2) else false)
def OT:AV:=fI
def yS(x2:TFunc):=((((x2.Blocks.getD (0:Int).toNat (default:Ae)).Ops).length:Int)==1)
def vp(x4:Bool)(x1:TFunc)(x2:TFunc):=((bif (nK x4 x1 x2) then(yS x2) else false)==true)
def Aaz:=(⟨([]:Ar),(8:Int),Dh⟩:TFunc)
def sM:AV:=(AV.list 5 Cj default Dh .exact)
def yT(x4:Bool)(x1:TFunc):=((bif x4 then((x1.Blocks.length:Int)==1) else false)==true)
def sL:AV:=(AV.list 4 El default ([(⟨(8:Int),(3:Int),([(0:Int)]:Ar),([(1:Int)]:Ar)⟩:A8)]:List A8) .exact)
def yR(x4:Bool)(x1:TFunc):=((bif (bif x4 then((x1.Blocks.length:Int)==1) else false) then(((x1.Blocks.getD (0:Int).toNat (default:Ae)).End.Arg:Int)==1) else false)==true)
def yU:AV:=(.agg [(AV.list 4 El default ([]:List A8) .exact),(AV.list 6 Lh default F3 .exact),bw,GM,Z80])
def m_locksteplaw16_awake :Option Bool:=
 ((Ty (⟨([]:Ar),(8:Int),Dh⟩:TFunc)).bind λx1=>((Ro (⟨([]:Ar),(8:Int),Dh⟩:TFunc)).bind λx2=>((LU (⟨([]:Ar),(8:Int),Dh⟩:TFunc)).bind λx3=>((Bb x3 ([(1:Int),(3:Int)]:Ar)).bind λx4=>(Az (((bif x4 then((x1.Blocks.length:Int)==1) else false)==true)=true->(A2 (0:Int) x1.Blocks.length)) (Az (((bif (bif x4 then((x1.Blocks.length:Int)==1) else false) then(((x1.Blocks.getD (0:Int).toNat (default:Ae)).End.Arg:Int)==1) else false)==true)=true->(A2 (0:Int) x1.Blocks.length)) (Az (((bif (bif (bif (bif x4 then((x1.Blocks.length:Int)==1) else false) then(((x1.Blocks.getD (0:Int).toNat (default:Ae)).End.Arg:Int)==1) else false) then((((x1.Blocks.getD (0:Int).toNat (default:Ae)).Ops).length:Int)==2) else false) then((x2.Blocks.length:Int)==1) else false)==true)=true->(A2 (0:Int) x2.Blocks.length)) ((bif ((bif (bif (bif (bif (bif x4 then((x1.Blocks.length:Int)==1) else false) then(((x1.Blocks.getD (0:Int).toNat (default:Ae)).End.Arg:Int)==1) else false) then((((x1.Blocks.getD (0:Int).toNat (default:Ae)).Ops).length:Int)==2) else false) then((x2.Blocks.length:Int)==1) else false) then((((x2.Blocks.getD (0:Int).toNat (default:Ae)).Ops).length:Int)==1) else false)==true) then R9 (⟨([]:Ar),(8:Int),Dh⟩:TFunc) else some (default:TFunc)).bind λx8=>(some (bif (bif (bif (bif (bif (bif x4 then((x1.Blocks.length:Int)==1) else false) then(((x1.Blocks.getD (0:Int).toNat (default:Ae)).End.Arg:Int)==1) else false) then((((x1.Blocks.getD (0:Int).toNat (default:Ae)).Ops).length:Int)==2) else false) then((x2.Blocks.length:Int)==1) else false) then((((x2.Blocks.getD (0:Int).toNat (default:Ae)).Ops).length:Int)==1) else false) then((x8.Blocks.length:Int)==2) else false))))))))))
theorem X1  (r:Bool) (h:m_locksteplaw16_awake=some r):sP 10 [] [] (.bool r) []:=
 sG Tryz.func10 λΓ q=>Af q [] [] (gR q [1] [1] [(6,(Z97 GM bw OT))] [] (c1 (show(AVle (Z97 GM bw kr) (Z97 GM bw OT)) from(AVle.agg (.cons (AVle.refl _) (.cons (AVle.refl _) (.cons (AVle.refl _) (.cons (AVle.refl _) (.cons Ej (.cons (AVle.refl _) .nil))))))))) (gR q D7 D7 [(7,(Z77 GM bw OT))] [] (c1 (show(AVle (Z77 GM bw kr) (Z77 GM bw OT)) from(AVle.agg (.cons (AVle.refl _) (.cons (AVle.refl _) (.cons (AVle.refl _) (.cons (AVle.refl _) (.cons Ej (.cons (AVle.refl _) .nil))))))))) (gR q [3] [3] [(10,(AV.list 6 Lh default F3 .exact)),(11,Z80),(13,yU),(14,(AV.list 1 Aq 0 ([(0:Int)]:Ar) .exact)),(15,Z80),(17,sL),(18,(.agg [GM,(.int .i64 (3:Int)),OT])),(19,(.agg [sL,yh,GM,(.int .i64 (3:Int)),OT])),(20,sM),(21,(.agg [OT,(.int .i64 (8:Int)),sM]))] [] (d9_ (Br 6 Lh (default:Bv) F3) (Br 1 Aq (0:Int) ([(1:Int)]:Ar)) (show(AVle (.agg [kr,(AV.list 6 Lh default F3 .exact),bw,GM,Z80]) yU) from(AVle.agg (.cons Ej (.cons (AVle.refl _) (.cons (AVle.refl _) (.cons (AVle.refl _) (.cons (AVle.refl _) .nil))))))) (Br 1 Aq (0:Int) ([(0:Int)]:Ar)) (Br 1 Aq (0:Int) ([(1:Int)]:Ar)) (Br 4 El (default:A8) ([(⟨(8:Int),(3:Int),([(0:Int)]:Ar),([(1:Int)]:Ar)⟩:A8)]:List A8)) (show(AVle (.agg [GM,(.int .i64 (3:Int)),kr]) (.agg [GM,(.int .i64 (3:Int)),OT])) from(AVle.agg (.cons (AVle.refl _) (.cons (AVle.refl _) (.cons Ej .nil))))) (show(AVle (.agg [sL,kr,GM,(.int .i64 (3:Int)),OT]) (.agg [sL,yh,GM,(.int .i64 (3:Int)),OT])) from(AVle.agg (.cons (AVle.refl _) (.cons Ej (.cons (AVle.refl _) (.cons (AVle.refl _) (.cons (AVle.refl _) .nil))))))) (Br 5 Cj (default:Ae) Dh) (c1 (show(AVle (.agg [kr,(.int .i64 (8:Int)),sM]) (.agg [OT,(.int .i64 (8:Int)),sM])) from(AVle.agg (.cons Ej (.cons (AVle.refl _) (.cons (AVle.refl _) .nil))))))) (tB h λx1 y1 h=>tT q [3,4] [3,4] [(nV x1)] (c1 (MB y1)) (tB h λx2 y2 h=>tT q [3,4,5] [3,4,5] [(nV x2)] (c1 (BL y2)) (tB h λx3 y3 h=>tB h λx4 y4 h=>tC h λc5_ h=>tC h λc6_ h=>tC h λc7_ h=>tB h λx8 y8 h=>gR q [0] [] [(28,(AV.list 1 Aq 0 ([(1:Int),(3:Int)]:Ar) .exact))] [(xS 27 x3 x3.length),(Z2 x4),(nV x8)] (UJ (bD y3) (Br 1 Aq (0:Int) ([(1:Int),(3:Int)]:Ar)) (Cl y4) (Yt (x4==true) (ci (Ng x4) (Mt (yT x4 x1) (ci c5_ (LM (yT x4 x1) (ci (Ng (bif x4 then((x1.Blocks.length:Int)==1) else false)) (Mt (yR x4 x1) (ci c6_ (LM (yR x4 x1) (ci (Ng (bif (bif x4 then((x1.Blocks.length:Int)==1) else false) then(((x1.Blocks.getD (0:Int).toNat (default:Ae)).End.Arg:Int)==1) else false)) (Yt ((vo x4 x1)==true) (ci (Ng (vo x4 x1)) (Mt ((nK x4 x1 x2)==true) (ci c7_ (LM ((nK x4 x1 x2)==true) (UJ (Ng (nK x4 x1 x2)) (gI (vp x4 x1 x2)) (λ(hg:(vp x4 x1 x2)=true)=>(HX (Bf hg y8))) (Yt (vp x4 x1 x2) (c1 (Ng (bif (nK x4 x1 x2) then(yS x2) else false))))))))))))))))))))) (tS h (Cd []))))))))
def vq(a8:Bv)(aE:Bv):=(a8.Dst==aE.Dst)
def nL(a8:Bv)(aE:Bv):=(bif (bif (a8.Kind==aE.Kind) then(a8.Bits==aE.Bits) else false) then(a8.Lanes==aE.Lanes) else false)
def Aaj(a8:Bv)(aE:Bv):=((bif (nL a8 aE) then(vq a8 aE) else false)==true)
def Aai(a8:Bv)(aE:Bv):=((bif (a8.Kind==aE.Kind) then(a8.Bits==aE.Bits) else false)==true)
def vr(a8:Bv)(aE:Bv):=(bif (bif (nL a8 aE) then(vq a8 aE) else false) then(a8.Imm==aE.Imm) else false)
def R8(a8:Bv)(aE:Bv):Option Bool:=
 ((bif ((bif (bif (bif (bif (a8.Kind==aE.Kind) then(a8.Bits==aE.Bits) else false) then(a8.Lanes==aE.Lanes) else false) then(a8.Dst==aE.Dst) else false) then(a8.Imm==aE.Imm) else false)==true) then Bb a8.Args aE.Args else some false).bind λx1=>(some (bif (bif (bif (bif (bif (a8.Kind==aE.Kind) then(a8.Bits==aE.Bits) else false) then(a8.Lanes==aE.Lanes) else false) then(a8.Dst==aE.Dst) else false) then(a8.Imm==aE.Imm) else false) then x1 else false)))
variable{v50:Bv}
theorem Zo(h:R8 v6 v50=some v3):sP 45 [(VZ v6),(VZ v50)] [] (.bool v3) []:=
 sG Tryz.func45 λΓ q=>Af q C0 C0 (tB h λx1 y1 h=>tT q [4] [] [(Z2 x1)] (LM ((v6.Kind==v50.Kind)==true) (ci (Ng (v6.Kind==v50.Kind)) (LM (Aai v6 v50) (ci (Ng (bif (v6.Kind==v50.Kind) then(v6.Bits==v50.Bits) else false)) (LM ((nL v6 v50)==true) (ci (Ng (nL v6 v50)) (LM (Aaj v6 v50) (ci (Ng (bif (nL v6 v50) then(vq v6 v50) else false)) (LM ((vr v6 v50)==true) (c2 (λ(hg:((vr v6 v50)==true)=true)=>(Cl (Bf hg y1))) (Ng (vr v6 v50)))))))))))) (tS h (Cd [])))
def F9(a8:TFunc)(a2:TFunc)(i2:Int):Int->Option (LR Int (Unit ⊕ Bool)):=
 λ(i6:Int)=>(bif (decide (i6<(((a8.Blocks.getD i2.toNat default).Phis).length:Int))) then(Az (A2 i6 ((a8.Blocks.getD i2.toNat default).Phis).length) (Az (A2 i6 ((a2.Blocks.getD i2.toNat default).Phis).length) ((bif ((bif (((((a8.Blocks.getD i2.toNat default).Phis).getD i6.toNat default).Bits:Int)!=(((a2.Blocks.getD i2.toNat default).Phis).getD i6.toNat default).Bits) then true else(((((a8.Blocks.getD i2.toNat default).Phis).getD i6.toNat default).Dst:Int)!=(((a2.Blocks.getD i2.toNat default).Phis).getD i6.toNat default).Dst))==false) then Bb ((((a8.Blocks.getD i2.toNat default).Phis).getD i6.toNat default).From) ((((a2.Blocks.getD i2.toNat default).Phis).getD i6.toNat default).From) else some false).bind λx9=>((bif ((bif (bif (((((a8.Blocks.getD i2.toNat default).Phis).getD i6.toNat default).Bits:Int)!=(((a2.Blocks.getD i2.toNat default).Phis).getD i6.toNat default).Bits) then true else(((((a8.Blocks.getD i2.toNat default).Phis).getD i6.toNat default).Dst:Int)!=(((a2.Blocks.getD i2.toNat default).Phis).getD i6.toNat default).Dst)) then true else(!x9))==false) then Bb ((((a8.Blocks.getD i2.toNat default).Phis).getD i6.toNat default).Args) ((((a2.Blocks.getD i2.toNat default).Phis).getD i6.toNat default).Args) else some false).bind λx10=>(bif (bif (bif (bif (((((a8.Blocks.getD i2.toNat default).Phis).getD i6.toNat default).Bits:Int)!=(((a2.Blocks.getD i2.toNat default).Phis).getD i6.toNat default).Bits) then true else(((((a8.Blocks.getD i2.toNat default).Phis).getD i6.toNat default).Dst:Int)!=(((a2.Blocks.getD i2.toNat default).Phis).getD i6.toNat default).Dst)) then true else(!x9)) then true else(!x10)) then(some (.done (.inr false))) else(some (.next (w64 (i6+1))))))))) else(some (.done (.inl ()))))
def Ga(a8:TFunc)(a2:TFunc)(i2:Int):Int->Option (LR Int (Unit ⊕ Bool)):=
 λ(i13:Int)=>(bif (decide (i13<(((a8.Blocks.getD i2.toNat default).Ops).length:Int))) then(Az (A2 i13 ((a8.Blocks.getD i2.toNat default).Ops).length) (Az (A2 i13 ((a2.Blocks.getD i2.toNat default).Ops).length) ((R8 (((a8.Blocks.getD i2.toNat default).Ops).getD i13.toNat default) (((a2.Blocks.getD i2.toNat default).Ops).getD i13.toNat default)).bind λx16=>(bif (!x16) then(some (.done (.inr false))) else(some (.next (w64 (i13+1)))))))) else(some (.done (.inl ()))))
def Gb(a8:TFunc)(a2:TFunc):Int->Option (LR Int (Unit ⊕ Bool)):=
 λ(i2:Int)=>(bif (decide (i2<(a8.Blocks.length:Int))) then(Az (A2 i2 a8.Blocks.length) (Az (A2 i2 a2.Blocks.length) ((bif ((bif (bif (bif ((((a8.Blocks.getD i2.toNat default).Phis).length:Int)!=(((a2.Blocks.getD i2.toNat default).Phis).length:Int)) then true else((((a8.Blocks.getD i2.toNat default).Ops).length:Int)!=(((a2.Blocks.getD i2.toNat default).Ops).length:Int))) then true else(((a8.Blocks.getD i2.toNat default).End.Kind:Int)!=(a2.Blocks.getD i2.toNat default).End.Kind)) then true else(((a8.Blocks.getD i2.toNat default).End.Arg:Int)!=(a2.Blocks.getD i2.toNat default).End.Arg))==false) then Bb ((a8.Blocks.getD i2.toNat default).End.To) ((a2.Blocks.getD i2.toNat default).End.To) else some false).bind λx5=>(bif (bif (bif (bif (bif ((((a8.Blocks.getD i2.toNat default).Phis).length:Int)!=(((a2.Blocks.getD i2.toNat default).Phis).length:Int)) then true else((((a8.Blocks.getD i2.toNat default).Ops).length:Int)!=(((a2.Blocks.getD i2.toNat default).Ops).length:Int))) then true else(((a8.Blocks.getD i2.toNat default).End.Kind:Int)!=(a2.Blocks.getD i2.toNat default).End.Kind)) then true else(((a8.Blocks.getD i2.toNat default).End.Arg:Int)!=(a2.Blocks.getD i2.toNat default).End.Arg)) then true else(!x5)) then(some (.done (.inr false))) else((Ac (F9 a8 a2 i2) (0:Int)).bind (λx11=>(match x11 with|(.inl _)=>((Ac (Ga a8 a2 i2) (0:Int)).bind (λx17=>(match x17 with|(.inl _)=>(some (.next (w64 (i2+1))))|(.inr r19)=>(some (.done (.inr r19))))))|(.inr r20)=>(some (.done (.inr r20)))))))))) else(some (.done (.inl ()))))
def Ni(Γ:H4)(a8:TFunc)(a2:TFunc)(r:Bool):Exit->St->Prop:=fK Tryz.prog Γ Tryz.f16.results.toList [] (.bool r) []
def vt(a8:TFunc)(a2:TFunc):=((a8.Ret !=a2.Ret)==false)
def GO(a8:TFunc)(i2:Int):=(a8.Blocks.getD i2.toNat default)
def GN(a2:TFunc)(i2:Int):=(a2.Blocks.getD i2.toNat default)
def ks(a8:TFunc)(i2:Int)(i6:Int)(a2:TFunc):=(bif (((((GO a8 i2).Phis).getD i6.toNat default).Bits:Int)!=(((GN a2 i2).Phis).getD i6.toNat default).Bits) then true else(((((GO a8 i2).Phis).getD i6.toNat default).Dst:Int)!=(((GN a2 i2).Phis).getD i6.toNat default).Dst))
def vv(a8:TFunc)(i2:Int)(i6:Int)(a2:TFunc)(x9:Bool):=((bif (ks a8 i2 i6 a2) then true else(!x9))==false)
def Aan(a8:TFunc)(a2:TFunc)(x1:Bool):=((bif (a8.Ret !=a2.Ret) then true else(!x1))==false)
def sO(a8:TFunc)(i2:Int)(a2:TFunc):=(bif (bif ((((GO a8 i2).Phis).length:Int)!=(((GN a2 i2).Phis).length:Int)) then true else((((GO a8 i2).Ops).length:Int)!=(((GN a2 i2).Ops).length:Int))) then true else(((GO a8 i2).End.Kind:Int)!=(GN a2 i2).End.Kind))
def yV(a8:TFunc)(i2:Int)(a2:TFunc):=(((GO a8 i2).End.Arg:Int)!=(GN a2 i2).End.Arg)
def vu(a8:TFunc)(i2:Int)(a2:TFunc):=((bif (sO a8 i2 a2) then true else(yV a8 i2 a2))==false)
def Aal(a8:TFunc)(i2:Int)(a2:TFunc):=(((((GO a8 i2).Phis).length:Int)!=(((GN a2 i2).Phis).length:Int))==false)
def Aam(a8:TFunc)(i2:Int)(i6:Int)(a2:TFunc):=((((((GO a8 i2).Phis).getD i6.toNat default).Bits:Int)!=(((GN a2 i2).Phis).getD i6.toNat default).Bits)==false)
def Aak(a8:TFunc)(i2:Int)(a2:TFunc):=((bif ((((GO a8 i2).Phis).length:Int)!=(((GN a2 i2).Phis).length:Int)) then true else((((GO a8 i2).Ops).length:Int)!=(((GN a2 i2).Ops).length:Int)))==false)
def Km(a8:TFunc)(a2:TFunc):Option Bool:=
 ((bif ((a8.Ret !=a2.Ret)==false) then Bb a8.Params a2.Params else some false).bind λx1=>(bif (bif (bif (a8.Ret !=a2.Ret) then true else(!x1)) then true else((a8.Blocks.length:Int)!=(a2.Blocks.length:Int))) then(some false) else((Ac (Gb a8 a2) (0:Int)).bind (λx21=>(match x21 with|(.inl _)=>(some true)|(.inr r23)=>(some r23))))))
theorem Zp(h:Km v0 v44=some v3):sP 16 [(V0 v0),(V0 v44)] [] (.bool v3) []:=
 sG Tryz.func16 λΓ q=>Af q C0 C0 (tB h λx1 y1 h=>tT q [2,3,33] C0 [(Z2 x1)] (LM (vt v0 v44) (UJ (λ(hg:(vt v0 v44)=true)=>(Cl (Bf hg y1))) (gI (vt v0 v44)) (Ly (v0.Ret !=v44.Ret)) (wh (Aan v0 v44 x1) (c1 (Ly (bif (v0.Ret !=v44.Ret) then true else(!x1))))))) (gC h (λh=>Af q [4] [] (tS h (Cd []))) λh=>Af q CN C0 (tL q h CN C0 (λu i2=>(Cp u [(5,(Z5 i2))] [])) (λu x_=>match x_ with|(.inl _)=>aG Γ (.exit 0) (⟨[],[],[]⟩:St)|(.inr r_)=>aR (Ni Γ v0 v44 r_)) (λi2 y h=>Af q [2,3,5,38] C0 (gC h (λh=>tV q [2,3,5,6] [2,3,6] h λh=>tV q ia Ve h λh=>tB h λx5 y5 h=>tT q [2,3,5,6,7,94] Ve [(Z2 x5)] (wh (Aal v0 i2 v44) (ci (Ly ((((GO v0 i2).Phis).length:Int)!=(((GN v44 i2).Phis).length:Int))) (wh (Aak v0 i2 v44) (ci (Ly (bif ((((GO v0 i2).Phis).length:Int)!=(((GN v44 i2).Phis).length:Int)) then true else((((GO v0 i2).Ops).length:Int)!=(((GN v44 i2).Ops).length:Int)))) (wh ((sO v0 i2 v44)==false) (ci (Ly (sO v0 i2 v44)) (wh (vu v0 i2 v44) (c3 (λ(hg:(vu v0 i2 v44)=true)=>(Cl (Bf hg y5))) (gI (vu v0 i2 v44)) (Ly (bif (sO v0 i2 v44) then true else(yV v0 i2 v44))))))))))) (gC h (λh=>Af q [4] [] (tS h (gO (Ll (H5 [] (Le.refl _ _)))))) λh=>Af q iN Ve (tL q h iN Ve (λu i6=>(Cp u [(8,(Z5 i6))] [])) (λu x_=>match x_ with|(.inl _)=>aG Γ (.exit 2) (Nh ia Ve u [] [])|(.inr r_)=>aR (Ni Γ v0 v44 r_)) (λi6 y h=>Af q [2,3,5,6,7,8,99] Ve (gC h (λh=>tV q [2,3,5,6,7,8,9] [2,3,6,7,9] h λh=>tV q [2,3,5,6,7,8,9,10] [2,3,6,7,9,10] h λh=>tB h λx9 y9 h=>tB h λx10 y10 h=>tT q [2,3,5,6,7,8,139] Ve [(Z2 x9),(Z2 x10)] (LM (Aam v0 i2 i6 v44) (ci (Ly (((((GO v0 i2).Phis).getD i6.toNat default).Bits:Int)!=(((GN v44 i2).Phis).getD i6.toNat default).Bits)) (LM ((ks v0 i2 i6 v44)==false) (UJ (λ(hg:((ks v0 i2 i6 v44)==false)=true)=>(Cl (Bf hg y9))) (gI ((ks v0 i2 i6 v44)==false)) (Ly (ks v0 i2 i6 v44)) (LM (vv v0 i2 i6 v44 x9) (c3 (λ(hg:(vv v0 i2 i6 v44 x9)=true)=>(Cl (Bf hg y10))) (gI (vv v0 i2 i6 v44 x9)) (Ly (bif (ks v0 i2 i6 v44) then true else(!x9))))))))) (gC h (λh=>Af q [4] [] (tS h (gO (Ll (H5 [] (Le.refl _ _)))))) λh=>Af q iN Ve (tN h))) λh=>tS h (gO (Be (Bj ia Ve q))))) λx11 h=>(match x11,h with | .inl _,h=>gA (Af q iJ Ve (tL q h iJ Ve (λu i13=>(Cp u [(11,(Z5 i13))] [])) (λu x_=>match x_ with|(.inl _)=>aG Γ (.exit 4) (Nh CN C0 u [] [])|(.inr r_)=>aR (Ni Γ v0 v44 r_)) (λi13 y h=>Af q [2,3,5,6,7,11,144] Ve (gC h (λh=>tC h λc14_ h=>tC h λc15_ h=>tB h λx16 y16 h=>tT q [2,3,5,6,7,11,158] Ve [(Z2 x16)] (c3 c14_ c15_ (Zo y16)) (gC h (λh=>Af q [4] [] (tS h (gO (Ll (H5 [] (Le.refl _ _)))))) λh=>Af q iJ Ve (tN h))) λh=>tS h (gO (Be (Bj CN C0 q))))) λx17 h=>(match x17,h with | .inl _,h=>gA (Af q CN C0 (tN h)) | .inr r19,h=>Oz (λst' hk=>tS h (gO (Ll hk)))))) | .inr r20,h=>Oz (λst' hk=>tS h (gO (Ll hk))))))) λh=>tS h (gO (Be (Bj [] [] q))))) λx21 h=>(match x21,h with | .inl _,h=>gA (Af q [4] [] (tS h (Cd []))) | .inr r23,h=>Oz (λst' hk=>tS h (gK hk))))))
def nO(x5:Int):=((x5==0)==true)
def nN(x5:Int)(x6:Int)(x7:Int):=(bif (x5==0) then(decide (x6<=x7)) else false)
def J4(a0:TFunc)(aO:Int):Option Bool:=
 (m_locksteplaw16_awake.bind λx1=>(bif (!x1) then(some false) else((Ea a0).bind λx2=>((bif ((!x2)==false) then D9 a0 aO else some (0:Int)).bind λx3=>(bif (bif (!x2) then true else(x3 !=0)) then(some true) else((Ro a0).bind λx4=>((O0 x4 aO).bind λx5=>((bif ((x5==0)==true) then Ew x4 else some (0:Int)).bind λx6=>((bif ((x5==0)==true) then Ew a0 else some (0:Int)).bind λx7=>((bif ((bif (x5==0) then(decide (x6<=x7)) else false)==true) then Ro x4 else some (default:TFunc)).bind λx8=>((bif ((bif (x5==0) then(decide (x6<=x7)) else false)==true) then Km x8 x4 else some false).bind λx9=>(some (bif (bif (x5==0) then(decide (x6<=x7)) else false) then x9 else false)))))))))))))
theorem ok_locksteplaw16_TidyRight(a0:TFunc)(aO:Int)(r:Bool)(h:J4 a0 aO=some r):sP 4 [(V0 a0),(Z5 aO)] [] (.bool r) []:=
 sG Tryz.func4 λΓ q=>Af q D7 [2] (tB h λx1 y1 h=>tT q [1,2,7] [2] [(Z2 x1)] (c1 (X1  x1 y1)) (gC h (λh=>Af q [4] [] (tS h (Cd []))) λh=>tB h λx2 y2 h=>tB h λx3 y3 h=>tT q [1,2,16] [2] [(Z2 x2),(UI x3)] (ci (X8 y2) (Mt ((!x2)==false) (c3 (λ(hg:((!x2)==false)=true)=>(X7 (Bf hg y3))) (gI ((!x2)==false)) (Ly (!x2))))) (gC h (λh=>Af q [4] [] (tS h (Cd []))) λh=>tB h λx4 y4 h=>tT q CT Uh [(nV x4)] (c1 (BL y4)) (tB h λx5 y5 h=>tB h λx6 y6 h=>tB h λx7 y7 h=>tB h λx8 y8 h=>tB h λx9 y9 h=>tT q [4] [] [(UI x5),(UI x6),(UI x7),(nV x8),(Z2 x9)] (d5_ (BA y5) (gI (nO x5)) (λ(hg:(nO x5)=true)=>(Mz (Bf hg y6))) (gI (nO x5)) (λ(hg:(nO x5)=true)=>(Mz (Bf hg y7))) (Mt (nO x5) (UJ (Ng (x5==0)) (gI ((nN x5 x6 x7)==true)) (λ(hg:((nN x5 x6 x7)==true)=true)=>(BL (Bf hg y8))) (Mt ((nN x5 x6 x7)==true) (c2 (λ(hg:((nN x5 x6 x7)==true)=true)=>(Zp (Bf hg y9))) (Ng (nN x5 x6 x7))))))) (tS h (Cd []))))))
theorem Hg{n:Int}(h:-9223372036854775808<=n)(h':n<9223372036854775808):w64 n=n:=by
 show IntKind.i64.wrap n=n
 simp only[IntKind.wrap,IntKind.bits,IntKind.signed]
 simp
 split<;>omega
theorem IH{n:Int}(h:0<=n)(h':n<18446744073709551616):It n=n:=by
 show IntKind.u64.wrap n=n
 simp[IntKind.wrap,IntKind.bits,IntKind.signed];omega
theorem qZ(n:Int):It n=n % 18446744073709551616:=by
 show IntKind.u64.wrap n=_
 simp[IntKind.wrap,IntKind.bits,IntKind.signed]
theorem Aa{R:Type}{p:Prop}[Decidable p]{k:Option R}(h:p):Az p k=k:=if_pos h
theorem MI{S X:Type}(f:S->Option (LR S X))(s:S):Ru (f s) f=Ac f s:=by
 unfold Ru
 cases h:f s with
 | none=>rw[Option.bind_none,Xr h]
 | some y=>cases y with
  | next s'=>rw[Ap h];rfl
  | done x=>rw[Ak h];rfl
theorem oq{x:Int}(j:Nat):x.fdiv (2 ^ j)=x / 2 ^ j:=by rw[Int.fdiv_eq_ediv_of_nonneg _ (by exact Int.le_of_lt (Int.pow_pos (by decide)))]
theorem Ab{α:Type}(l:List α)(i:Nat)(d:α)(h:i<l.length):l.getD i d=l[i]:=by simp[List.getD,h]
theorem kinds(k:Int):k=0\/k=1\/k=2\/k=3\/k=4\/k=5\/k=6\/k=7\/k=8\/k=9\/k=10\/k=11\/k=12\/k=13\/k=14\/k=15\/k=16\/k=17\/k=18\/k=19\/k=20\/k=21\/k=22\/(k<0\/22<k):=by omega
theorem bG{k:Int}(h:k<0\/22<k):(k==0)=false/\(k==1)=false/\(k==2)=false/\(k==3)=false/\(k==4)=false/\(k==5)=false/\(k==6)=false/\(k==7)=false/\(k==8)=false/\(k==9)=false/\(k==10)=false/\(k==11)=false/\(k==12)=false /\
  (k==13)=false/\(k==14)=false/\(k==15)=false/\(k==16)=false/\(k==17)=false/\(k==18)=false/\(k==19)=false/\(k==20)=false/\(k==21)=false/\(k==22)=false:=by
 simp only[zzL30];omega
def widthB(b:Int):Bool:=b==1 || b==8 || b==16 || b==32 || b==64
def Xp(b n:Int):Bool:=widthB b&&(n==1 || ((n==2 || n==4 || n==8 || n==16)&&decide (8<=b)&&decide (b*n<=128)))
theorem width_cases{b:Int}(h:widthB b=true):b=1\/b=8\/b=16\/b=32\/b=64:=by simp[widthB]at h;omega
theorem BX{b n:Int}(h:Xp b n=true):widthB b=true:=by simp[Xp]at h;exact h.1
theorem shape_lanes{b n:Int}(h:Xp b n=true):n=1\/n=2\/n=4\/n=8\/n=16:=by simp[Xp]at h;omega
theorem Ws(b:Int):La b=some (widthB b):=by
 unfold La widthB
 by_cases h1:b=1
 ·subst h1;rfl
 by_cases h2:b=8
 ·subst h2;rfl
 by_cases h3:b=16
 ·subst h3;rfl
 by_cases h4:b=32
 ·subst h4;rfl
 by_cases h5:b=64
 ·subst h5;rfl
 have e1:(b==1)=false:=by simpa using h1
 have e2:(b==8)=false:=by simpa using h2
 have e3:(b==16)=false:=by simpa using h3
 have e4:(b==32)=false:=by simpa using h4
 have e5:(b==64)=false:=by simpa using h5
 simp[e1,e2,e3,e4,e5]
theorem Sd(b:Int):De b=some (widthB b):=by
 cases(b==1)<;>cases(b==8)<;>cases(b==16)<;>cases(b==32)<;>rfl
theorem fw(b n:Int):Tb b n=some (Xp b n):=by
 unfold Tb;simp only[Ws,An]
 by_cases hn:n=1\/n=2\/n=4\/n=8\/n=16
 ·cases hw:widthB b with
  | false=>rcases hn with rfl|rfl|rfl|rfl|rfl<;>simp[Xp,hw]
  | true=>
   rcases width_cases hw with rfl|rfl|rfl|rfl|rfl<;>rcases hn with rfl|rfl|rfl|rfl|rfl<;>rfl
 ·have e1:(n==1)=false:=by simp;omega
  have e2:(n==2)=false:=by simp;omega
  have e3:(n==4)=false:=by simp;omega
  have e4:(n==8)=false:=by simp;omega
  have e5:(n==16)=false:=by simp;omega
  simp[Xp,e1,e2,e3,e4,e5]
theorem ly(b n:Int):Jx b n=some (Xp b n):=by
 unfold Jx;simp only[Sd,An]
 cases hw:widthB b with
 | false=>simp[Xp,hw]
 | true=>
  by_cases hn:n=1\/n=2\/n=4\/n=8\/n=16
  ·rcases width_cases hw with rfl|rfl|rfl|rfl|rfl<;>rcases hn with rfl|rfl|rfl|rfl|rfl<;>rfl
  ·have e1:(n==1)=false:=by simp;omega
   have e2:(n==2)=false:=by simp;omega
   have e3:(n==4)=false:=by simp;omega
   have e4:(n==8)=false:=by simp;omega
   have e5:(n==16)=false:=by simp;omega
   simp[Xp,e1,e2,e3,e4,e5]
theorem qY{v b:Int}(hv:0<=v/\v<18446744073709551616)(hb:widthB b=true):Xu v b=some (v % 2 ^ b.toNat):=by
 unfold Xu;simp only[Ws,hb,An,Ds,Ax]
 have key:∀ j:Nat,j<64->Wo .u64 (SC .u64 v (j:Int)) (j:Int)=(v*2 ^ j % 18446744073709551616) / 2 ^ j:=λj hj=>by
  simp only[Wo,SC,C9,IntKind.bits];rw[Nat.min_eq_left (by omega),oq,show IntKind.u64.wrap (v*2 ^ j)=v*2 ^ j % 18446744073709551616 from qZ _]
 rcases width_cases hb with rfl|rfl|rfl|rfl|rfl
 ·have:=key 63 (by decide);simp only[show w64 (64-1)=((63:Nat):Int) from rfl,this];rw[Aa (by decide),Aa (by decide)];congr 1;simp only[show((1:Int).toNat)=1 from rfl];omega
 ·have:=key 56 (by decide);simp only[show w64 (64-8)=((56:Nat):Int) from rfl,this];rw[Aa (by decide),Aa (by decide)];congr 1;simp only[show((8:Int).toNat)=8 from rfl];omega
 ·have:=key 48 (by decide);simp only[show w64 (64-16)=((48:Nat):Int) from rfl,this];rw[Aa (by decide),Aa (by decide)];congr 1;simp only[show((16:Int).toNat)=16 from rfl];omega
 ·have:=key 32 (by decide);simp only[show w64 (64-32)=((32:Nat):Int) from rfl,this];rw[Aa (by decide),Aa (by decide)];congr 1;simp only[show((32:Int).toNat)=32 from rfl];omega
 ·have:=key 0 (by decide);simp only[show w64 (64-64)=((0:Nat):Int) from rfl,this];rw[Aa (by decide),Aa (by decide)];congr 1;simp only[show((64:Int).toNat)=64 from rfl];omega
theorem tz{v b:Int}(hv:0<=v/\v<18446744073709551616)(hb:widthB b=true):Ln v b=some (v % 2 ^ b.toNat):=by
 unfold Ln;simp only[Sd,hb,An,Ds,Ax];rcases width_cases hb with rfl|rfl|rfl|rfl|rfl
 ·rw[show((1:Int)==64)=false from rfl,Ax,Aa (by decide),Aa (by decide),show SC .u64 (1:Int) (It 1)=2 ^ (1:Int).toNat from rfl,Int.tmod_eq_emod_of_nonneg hv.1]
 ·rw[show((8:Int)==64)=false from rfl,Ax,Aa (by decide),Aa (by decide),show SC .u64 (1:Int) (It 8)=2 ^ (8:Int).toNat from rfl,Int.tmod_eq_emod_of_nonneg hv.1]
 ·rw[show((16:Int)==64)=false from rfl,Ax,Aa (by decide),Aa (by decide),show SC .u64 (1:Int) (It 16)=2 ^ (16:Int).toNat from rfl,Int.tmod_eq_emod_of_nonneg hv.1]
 ·rw[show((32:Int)==64)=false from rfl,Ax,Aa (by decide),Aa (by decide),show SC .u64 (1:Int) (It 32)=2 ^ (32:Int).toNat from rfl,Int.tmod_eq_emod_of_nonneg hv.1]
 ·rw[show((64:Int)==64)=true from rfl,Ah]
  congr 1
  simp only[show((64:Int).toNat)=64 from rfl];omega
theorem ZX{i:Int}(h:0<=i/\i<18446744073709551616):Nt i=some (widthB i):=by
 unfold Nt
 by_cases hi:i<=64
 ·have:w64 i=i:=Hg (by omega) (by omega);simp[hi,this,Ws]
 ·have:widthB i=false:=by simp[widthB];omega
  simp[hi,this]
def cn(k:Int):Bool:=decide (0<=k)&&decide (k<=22)
def Sb(k n:Int):Int:=
 bif k==0 then 0 else bif k==13 || k==18 || k==19 then 3 else bif k==14 || k==15 || k==16 || k==22 then 1 else bif k==20 then 4 else bif k==21 then n else 2
def sfitS(k b n:Int):Bool:=
 bif k==16 || k==17 then decide (8<=b) else bif k==18 || k==19 then decide (8<=b)&&n==1 else
 bif k==4 || k==10 || k==11 || k==12 || k==14 || k==15 || k==20 then n==1 else bif k==21 || k==22 then decide (1<n) else true
def ifitS(k b n i:Int):Bool:=
 bif k==0 then i % 2 ^ b.toNat==i else bif k==14 then widthB i&&decide (i<b) else bif k==15 then widthB i&&decide (b<i) else bif k==22 then decide (i<n) else i==0
def valS(v:Int):Bool:=decide (1<=v)&&decide (v<=1023)
def dstS(k d:Int):Bool:=bif k==17 || k==19 then d==0 else valS d
def Gs(o:Bv):Bool:=Xp o.Bits o.Lanes&&(cn o.Kind&&sfitS o.Kind o.Bits o.Lanes&&ifitS o.Kind o.Bits o.Lanes o.Imm&&((o.Args.length:Int)==Sb o.Kind o.Lanes))&&(o.Args.all valS&&dstS o.Kind o.Dst)
def PM(o:Bv)(i:Nat):Int×Int:=
 bif o.Kind==13 || o.Kind==20 then(bif Nat.beq i 0 then(1,1) else(o.Bits,o.Lanes)) else bif o.Kind==14 || o.Kind==15 then(w64 o.Imm,1) else
 bif o.Kind==16 || o.Kind==17 then(bif Nat.beq i 0 then(64,1) else(o.Bits,o.Lanes)) else
 bif o.Kind==18 || o.Kind==19 then(bif Nat.beq i 1 then(64,1) else bif Nat.beq i 0 then(1,1) else(o.Bits,o.Lanes)) else bif o.Kind==21 then(o.Bits,1) else(o.Bits,o.Lanes)
def Rw(o:Bv):List (Int×Int):=(List.range (Sb o.Kind o.Lanes).toNat).map (PM o)
def Xn(k b n:Int):Int×Int:=bif k==17 || k==19 then(0,0) else bif k==10 || k==11 || k==12 then(1,1) else bif k==22 then(b,1) else(b,n)
def jt(k:Int):Bool:=cn k&&!(k==4 || k==16 || k==17 || k==18 || k==19 || k==20)
theorem wj{k:Int}(h:cn k=true):0<=k/\k<=22:=by simpa [cn] using h
theorem HH{k:Int}(h:k<0\/22<k):cn k=false:=by simp[cn];omega
theorem LQ(k:Int):O1 k=some (cn k):=by unfold O1 cn;cases decide ((0:Int)<=k)<;>rfl
theorem Xo(v:Int):Ns v=some (valS v):=by unfold Ns valS;cases decide ((1:Int)<=v)<;>rfl
theorem DQ(v:Int):Fj v=some (valS v):=by
 unfold Fj valS
 have e1:decide ((0:Int)<v)=decide (1<=v):=by congr 1
 have e2:decide (v<(1024:Int))=decide (v<=1023):=by apply zzL77.2;omega
 rw[e1,e2]
 cases decide ((1:Int)<=v)<;>rfl
theorem QD(o:Bv):Od o=some (sfitS o.Kind o.Bits o.Lanes):=by
 obtain⟨k,b,n,d,args,i⟩:=o;rcases kinds k with rfl|rfl|rfl|rfl|rfl|rfl|rfl|rfl|rfl|rfl|rfl|rfl|rfl|rfl|rfl|rfl|rfl|rfl|rfl|rfl|rfl|rfl|rfl|h
 any_goals rfl
 ·show some (bif decide (8<=b) then n==1 else false)=some (decide (8<=b)&&n==1);cases decide (8<=b)<;>rfl
 ·show some (bif decide (8<=b) then n==1 else false)=some (decide (8<=b)&&n==1);cases decide (8<=b)<;>rfl
 ·unfold Od sfitS;simp[bG h]
theorem QA(o:Bv):Qq o=some (Xn o.Kind o.Bits o.Lanes):=by
 obtain⟨k,b,n,d,args,i⟩:=o;rcases kinds k with rfl|rfl|rfl|rfl|rfl|rfl|rfl|rfl|rfl|rfl|rfl|rfl|rfl|rfl|rfl|rfl|rfl|rfl|rfl|rfl|rfl|rfl|rfl|h
 any_goals rfl
 unfold Qq Xn;simp[bG h]
theorem ZW(o:Bv)(hw:widthB o.Bits=true)(hn:0<=o.Lanes/\o.Lanes<=16)(hi:0<=o.Imm/\o.Imm<18446744073709551616):Qr o=some (ifitS o.Kind o.Bits o.Lanes o.Imm):=by
 unfold Qr ifitS
 have hb:It o.Bits=o.Bits:=by apply IH<;>(rcases width_cases hw with h|h|h|h|h<;>omega)
 have hl:It o.Lanes=o.Lanes:=by apply IH<;>omega
 rw[qY hi hw,ZX hi,hb,hl]
 cases(o.Kind==0)<;>cases(o.Kind==14)<;>cases(o.Kind==15)<;>cases(o.Kind==22)<;>cases widthB o.Imm<;>rfl
set_option maxHeartbeats 2000000 in
theorem pw (o : Bv) (hs : Xp o.Bits o.Lanes = true) (hk : cn o.Kind = true) (hi : 0 ≤ o.Imm ∧ o.Imm < 18446744073709551616) : F8 o = some (sfitS o.Kind o.Bits o.Lanes && ifitS o.Kind o.Bits o.Lanes o.Imm) := by
  have hw := BX hs; have hl := shape_lanes hs; obtain ⟨k, b, n, d, args, i⟩ := o; simp only at hs hk hi hw hl ⊢
  have hb : It b = b := by apply IH <;> (rcases width_cases hw with h | h | h | h | h <;> omega)
  have hn : It n = n := by apply IH <;> omega
  have hb8 : decide (b < 8) = !decide (8 ≤ b) := by rw [← decide_not]; apply zzL77.2; omega
  have hn2 : decide (n < 2) = !decide (1 < n) := by rw [← decide_not]; apply zzL77.2; omega
  have h14 : (bif decide (i < b) then widthB (w64 i) else false) = (widthB i && decide (i < b)) := by
    by_cases h : i < b
    · have : w64 i = i := Hg (by omega) (by rcases width_cases hw with h | h | h | h | h <;> omega); simp [h, this]
    · simp [h]
  have h15 : (bif (bif decide (b < i) then decide (i ≤ 64) else false) then widthB (w64 i) else false) = (widthB i && decide (b < i)) := by
    by_cases h : i ≤ 64
    · have : w64 i = i := Hg (by omega) (by omega)
      by_cases h2 : b < i <;> simp [h, this, h2]
    · have : widthB i = false := by simp [widthB]; omega
      simp [h, this]
  have hc := tz (v := i) hi hw; rcases kinds k with rfl | rfl | rfl | rfl | rfl | rfl | rfl | rfl | rfl | rfl | rfl | rfl | rfl | rfl | rfl | rfl | rfl | rfl | rfl | rfl | rfl | rfl | rfl | h
  case inl => unfold F8; simp [hc, sfitS, ifitS]
  all_goals first
    | (rw [HH h] at hk; cases hk)
    | (unfold F8 sfitS ifitS
       simp only [hb8]
       generalize decide (8 ≤ b) = u at *
       clear hc h14 h15 hb8 hw hs; rcases hl with rfl | rfl | rfl | rfl | rfl <;> cases u <;> simp_all
       done)
    | (unfold F8 sfitS ifitS
       rw [hb]; simp only [Sd]; clear hc hs
       generalize decide (i < b) = p at *
       generalize decide (b < i) = q at *
       generalize decide (i ≤ 64) = r at *
       generalize widthB (w64 i) = s at *
       rcases hl with rfl | rfl | rfl | rfl | rfl <;> cases p <;> cases q <;> cases r <;> cases s <;> simp_all
       done)
theorem lQ(k:Int):Uv k=some (jt k):=by
 rcases kinds k with rfl|rfl|rfl|rfl|rfl|rfl|rfl|rfl|rfl|rfl|rfl|rfl|rfl|rfl|rfl|rfl|rfl|rfl|rfl|rfl|rfl|rfl|rfl|h
 any_goals rfl
 unfold Uv jt;simp[bG h,LQ]
theorem Hk{α X:Type}(l:List α)(d:α)(p:α->Bool)(f:Int->Option (LR Int X))(yes no:X)(hn:∀ i:Nat,i<l.length->p (l.getD i d)=true->f i=some (.next ((i:Int)+1)))
  (hf:∀ i:Nat,i<l.length->p (l.getD i d)=false->f i=some (.done no)) (he:f l.length=some (.done yes)):∀(k i:Nat),i+k=l.length->Ac f i=some (bif (l.drop i).all p then yes else no)
 | 0,i,h=>by
  obtain rfl:i=l.length:=by omega
  rw[Ak he]
  simp
 | k+1,i,h=>by
  have hi:i<l.length:=by omega
  have hd:l.drop i=l.getD i d::l.drop (i+1):=by simp_all
  cases hp:p _ with
  | true=>
   rw[Ap (hn i hi hp)];have:=Hk l d p f yes no hn hf he k (i+1) (by omega);rw[show((i:Int)+1)=(i+1:Nat) by omega,this,hd,Vw,hp,Ld]
  | false=>
   rw[Ak (hf i hi hp),hd,Vw,hp,FX,Ax]
theorem QJ{α X:Type}(n:Nat)(g:Nat->α)(f:List α×Int->Option (LR (List α×Int) X))(out:List α->X)(hn:∀(l:List α) (i:Nat),i<n->l.length=i->f (l,(i:Int))=some (.next (l++[g i],(i:Int)+1)))
  (he:∀ l:List α,l.length=n->f (l,(n:Int))=some (.done (out l))):∀(k i:Nat) (l:List α),i+k=n->l=(List.range i).map g->Ac f (l,(i:Int))=some (out ((List.range n).map g))
 | 0,i,l,h,hl=>by
  obtain rfl:i=n:=by omega
  subst hl;exact Ak (he _ (by simp))
 | k+1,i,l,h,hl=>by
  subst hl;rw[Ap (hn _ i (by omega) (by simp))];exact QJ n g f out hn he k (i+1) _ (by omega) (by simp[W0])
theorem HL{α X:Type}[BEq α][LawfulBEq α](l m:List α)(d:α)(f:Int->Option (LR Int X))(yes no:X)(hlen:l.length=m.length)(hn:∀ i:Nat,i<l.length->(l.getD i d==m.getD i d)=true->f i=some (.next ((i:Int)+1)))
  (hf:∀ i:Nat,i<l.length->(l.getD i d==m.getD i d)=false->f i=some (.done no)) (he:f l.length=some (.done yes)):∀(k i:Nat),i+k=l.length->Ac f i=some (bif l.drop i==m.drop i then yes else no)
 | 0,i,h=>by
  obtain rfl:i=l.length:=by omega
  rw[Ak he];rw[List.drop_length,hlen]
  simp
 | k+1,i,h=>by
  have hi:i<l.length:=by omega
  have hd:l.drop i=l.getD i d::l.drop (i+1):=by simp_all
  have hd':m.drop i=m.getD i d::m.drop (i+1):=by simp_all
  cases hp:(l.getD i d==m.getD i d) with
  | true=>
   rw[Ap (hn i hi hp)];have:=HL l m d f yes no hlen hn hf he k (i+1) (by omega);rw[show((i:Int)+1)=(i+1:Nat) by omega,this,hd,hd',List.cons_beq_cons,hp,Ld]
  | false=>
   rw[Ak (hf i hi hp),hd,hd',List.cons_beq_cons,hp,FX,Ax]
theorem HM{α:Type}(l:List α)(d:α)(wt:α->Nat)(C:Nat)(f:Int×Int->Option (LR (Int×Int) Int))
  (hn:∀(n i:Nat),i<l.length->n<=C->∃ m:Nat,f ((n:Int),(i:Int))=some (.next ((m:Int),((i+1:Nat):Int)))/\(n+wt (l.getD i d)<=C->m=n+wt (l.getD i d))/\(m<=C->n+wt (l.getD i d)<=C))
  (hd:∀(n i:Nat),i<=l.length->(i=l.length\/C<n)->f ((n:Int),(i:Int))=some (.done (n:Int))) :
  ∀(k i n:Nat),i+k=l.length->∃ m:Nat,Ac f ((n:Int),(i:Int))=some (m:Int)/\(n+((l.drop i).map wt).sum<=C->m=n+((l.drop i).map wt).sum)/\(m<=C->n+((l.drop i).map wt).sum<=C)
 | 0,i,n,h=>by
  obtain rfl:i=l.length:=by omega
  refine⟨n,Ak (hd n _ (zzL6 _) (.inl rfl)),?_,?_⟩
  ·simp
  ·simp
 | k+1,i,n,h=>by
  have hi:i<l.length:=by omega
  have hdr:l.drop i=l.getD i d::l.drop (i+1):=by rw[SN hi,Ab _ _ _ hi]
  by_cases hC:n<=C
  ·obtain⟨m,h1,h2,h3⟩:=hn n i hi hC;obtain⟨m',h4,h5,h6⟩:=HM l d wt C f hn hd k (i+1) m (by omega);refine⟨m',by rw[Ap h1];exact h4,λhle=>?_,λhle=>?_⟩
   ·rw[hdr,Cu,SU]at hle ⊢;have:=h2 (by omega);subst this;rw[h5 (by omega)];omega
   ·rw[hdr,Cu,SU];have h7:=h6 hle;have h8:=h3 (by omega);have:=h2 h8;omega
  ·refine⟨n,Ak (hd n i (by omega) (.inr (by omega))),λhle=>by omega,λhle=>by omega⟩
theorem Tu{X:Type}(N:Nat)(f:Int×Int->Option (LR (Int×Int) X))(hn:∀(n:Int) (i:Nat),i<N->(∃ m:Int,f (n,(i:Int))=some (.next (m,((i+1:Nat):Int))))\/∃ x,f (n,(i:Int))=some (.done x))(hd:∀ n:Int,∃ x,f (n,(N:Int))=some (.done x)) :
  ∀(k i:Nat) (n:Int),i+k=N->∃ x,Ac f (n,(i:Int))=some x
 | 0,i,n,h=>by
  obtain rfl:i=N:=by omega
  obtain⟨x,hx⟩:=hd n;exact⟨x,Ak hx⟩
 | k+1,i,n,h=>by
  rcases hn n i (by omega) with⟨m,hm⟩|⟨x,hx⟩
  ·obtain⟨x,hx⟩:=Tu N f hn hd k (i+1) m (by omega);exact⟨x,by rw[Ap hm];exact hx⟩
  ·exact⟨x,Ak hx⟩
theorem DJ{α X:Type}(l:List α)(d:α)(wt:α->Nat)(out:Int->X)(f:Int×Int->Option (LR (Int×Int) X))
  (hn:∀(n i:Nat),i<l.length->f (w64 n,(i:Int))=some (.next (w64 ((n+wt (l.getD i d):Nat):Int),((i+1:Nat):Int)))) (hd:∀ n:Int,f (n,(l.length:Int))=some (.done (out n))) :
  ∀(k i n:Nat),i+k=l.length->Ac f (w64 n,(i:Int))=some (out (w64 ((n+((l.drop i).map wt).sum:Nat):Int)))
 | 0,i,n,h=>by
  obtain rfl:i=l.length:=by omega
  rw[Ak (hd _)]
  simp
 | k+1,i,n,h=>by
  have hi:i<l.length:=by omega
  have hdr:l.drop i=l.getD i d::l.drop (i+1):=by simp_all
  rw[Ap (hn n i hi),DJ l d wt out f hn hd k _ _ (by omega),hdr,Cu,SU,W1]
theorem U8(a b:Int):w64 (w64 a+b)=w64 (a+b):=by
 simp only[IntKind.wrap,IntKind.bits,IntKind.signed]
 simp
 split<;>split<;>omega
theorem Ag{α:Type}{l:List α}{i:Nat}{d:α}(h:i<l.length):l.getD i d∈l:=by grind
theorem Ai{i n:Nat}(h:i<n):A2 (i:Int) n:=⟨by omega,by exact_mod_cast h⟩
theorem A0{i n:Nat}(h:i<n)(hn:n<9223372036854775808):w64 ((i:Int)+1)=(i:Int)+1:=Hg (by omega) (by omega)
def o7(l:List Int):Prop:=∀ x∈l,0<=x/\x<=2147483647
theorem Em{S X:Type}(f:S->Option (LR S X))(T:Nat->S)(x:X):∀(n:Nat),(∀ i,i<n->f (T i)=some (.next (T (i+1))))->f (T n)=some (.done x)->Ac f (T 0)=some x:=by
 suffices h:∀(k i n:Nat),i+k=n->(∀ j,i<=j->j<n->f (T j)=some (.next (T (j+1))))->f (T n)=some _->Ac f (T i)=some x from
  λn h1 h2=>h n 0 n (by omega) (λj _ hj=>h1 j hj) h2
 intro k
 induction k with
 | zero=>
  intro i n hi _ h2
  have hin:n=i:=by omega
  subst hin;exact Ak h2
 | succ k ih=>intro i n hi h1 h2;rw[Ap (h1 i (zzL6 _) (by omega))];exact ih _ n (by omega) (λj hj hj'=>h1 j (by omega) hj') h2
theorem VB{S X:Type}(f:S->Option (LR S X))(T:Nat->S):∀(n:Nat),(∀ i,i<n->f (T i)=some (.next (T (i+1))))->Ac f (T 0)=Ac f (T n):=by
 intro n
 induction n with
 | zero=>intro _;rfl
 | succ n ih=>intro h;rw[ih (λi hi=>h i (by omega)),Ap (h n (by omega))]
theorem H7{S X:Type}(f:S->Option (LR S X))(T:Nat->S)(p:Nat->Bool)(yes no:X)(n:Nat)(hn:∀ i,i<n->p i=true->f (T i)=some (.next (T (i+1))))(hf:∀ i,i<n->p i=false->f (T i)=some (.done no))
  (he:f (T n)=some (.done yes)):Ac f (T 0)=some (bif (List.range n).all p then yes else no):=by
 cases hall:(List.range n).all p with
 | true=>
  exact Em f T yes n (λi hi=>hn i hi (zzL26.1 hall i (zzL45.2 hi))) he
 | false=>
  have hex:∃ i,i<n/\p i=false:=by
   grind
  obtain⟨m,hm⟩:=hex
  have key:∀ m,m<n->p m=false->∃ k,k<n/\p k=false/\∀ j,j<k->p j=true:=by
   intro m
   induction m using Nat.strongRecOn with
   | ind m ih=>
    intro h1 h2
    by_cases h:∃ j,j<m/\p j=false
    ·obtain⟨j,hj,hpj⟩:=h;exact ih j hj (by omega) hpj
    ·grind
  obtain⟨k,hk,hpk,hlt⟩:=key m hm.1 hm.2;rw[VB f T k (λi hi=>hn i (by omega) (hlt i hi))];exact Ak (hf k hk hpk)
theorem all_range{n:Nat}{p:Nat->Bool}:(List.range n).all p=true↔∀ i,i<n->p i=true:=by
 grind
theorem Am(i:Nat):((i:Int)).toNat=i:=C9 i
theorem w1{i:Nat}(h:i<4611686018427387904):w64 ((i:Int)+1)=((i+1:Nat):Int):=by rw[Hg (by omega) (by omega)];omega
theorem B1{i n:Nat}(h:i<n):decide (((i:Nat):Int)<((n:Nat):Int))=true:=by simpa using h
theorem Da{n:Nat}:decide (((n:Nat):Int)<((n:Nat):Int))=false:=by simp
theorem Fz{i n:Nat}(h:i<n):A2 ((i:Nat):Int) n:=Ai h
theorem yz{x:Int}{n:Nat}(h0:0<=x)(h1:x<n):A2 x n:=⟨h0,h1⟩
structure bo(o:Bv):Prop where
 imm:0<=o.Imm/\o.Imm<18446744073709551616
 args:o.Args.length<=200
theorem gq(x:Int×Int)(n:Int)(h:n=2\/n=4\/n=8\/n=16):Cg [x] n=some (List.replicate n.toNat x):=by
 let d:Int×Int:=(0,0)
 rcases h with rfl|rfl|rfl|rfl
 ·have e:Cg [x] 2=(Ac Dl (1,[x,d])).bind some:=by kernel_rfl
  rw[e,Ap (s':=(2,[x,x])) (by kernel_rfl)]
  rfl
 ·have e:Cg [x] 4=(Ac Dl (1,[x,d,d,d])).bind some:=by kernel_rfl
  rw[e,Ap (s':=(2,[x,x,d,d])) (by kernel_rfl),Ap (s':=(4,[x,x,x,x])) (by kernel_rfl)]
  rfl
 ·have e:Cg [x] 8=(Ac Dl (1,[x,d,d,d,d,d,d,d])).bind some:=by kernel_rfl
  rw[e,Ap (s':=(2,[x,x,d,d,d,d,d,d])) (by kernel_rfl),Ap (s':=(4,[x,x,x,x,d,d,d,d])) (by kernel_rfl),Ap (s':=(8,[x,x,x,x,x,x,x,x])) (by kernel_rfl)]
  rfl
 ·have e:Cg [x] 16=(Ac Dl (1,[x,d,d,d,d,d,d,d,d,d,d,d,d,d,d,d])).bind some:=by kernel_rfl
  rw[e,Ap (s':=(2,[x,x,d,d,d,d,d,d,d,d,d,d,d,d,d,d])) (by kernel_rfl),Ap (s':=(4,[x,x,x,x,d,d,d,d,d,d,d,d,d,d,d,d])) (by kernel_rfl),
   Ap (s':=(8,[x,x,x,x,x,x,x,x,d,d,d,d,d,d,d,d])) (by kernel_rfl),Ap (s':=(16,List.replicate 16 x)) (by kernel_rfl)]
  rfl
theorem pG(l:List (Int×Int)):Ir l=some l:=rfl
theorem QE(o:Bv)(hs:Xp o.Bits o.Lanes=true)(hk:cn o.Kind=true)(hf:sfitS o.Kind o.Bits o.Lanes=true):Qs o=some (Rw o):=by
 have hl:=shape_lanes hs;obtain⟨k,b,n,d,args,i⟩:=o;simp only at hs hk hf hl ⊢;rcases kinds k with rfl|rfl|rfl|rfl|rfl|rfl|rfl|rfl|rfl|rfl|rfl|rfl|rfl|rfl|rfl|rfl|rfl|rfl|rfl|rfl|rfl|rfl|rfl|h
 case inr.inr.inr.inr.inr.inr.inr.inr.inr.inr.inr.inr.inr.inr.inr.inr.inr.inr.inr.inr.inr.inl=>
  have h1:n≠1:=by rintro rfl;simp[sfitS]at hf
  have h4:n=2\/n=4\/n=8\/n=16:=by omega
  unfold Qs;simp only[gq _ _ h4,pG];rcases h4 with rfl|rfl|rfl|rfl<;>rfl
 all_goals first
  | rfl
  | (rw[HH h]at hk;cases hk)
  | (rcases hl with rfl|rfl|rfl|rfl|rfl<;>first|rfl|(simp[sfitS]at hf))
theorem ZU(o:Bv)(hs:Xp o.Bits o.Lanes=true)(hk:cn o.Kind=true)(hf:sfitS o.Kind o.Bits o.Lanes=true)(hl:o.Args.length<=200):Qo o=some (((o.Args.length:Int)==Sb o.Kind o.Lanes)&&o.Args.all valS):=by
 unfold Qo;rw[QE o hs hk hf]
 have hn:0<=Sb o.Kind o.Lanes:=by
  have:=shape_lanes hs;unfold Sb
  cases(o.Kind==0)<;>cases(o.Kind==13 || o.Kind==18 || o.Kind==19)<;>cases(o.Kind==14 || o.Kind==15 || o.Kind==16 || o.Kind==22)<;>cases(o.Kind==20)<;>cases(o.Kind==21)<;>simp<;>omega
 have hlen:(Rw o).length=Sb o.Kind o.Lanes:=by simp[Rw];omega
 simp only[An,hlen]
 by_cases he:o.Args.length=Sb o.Kind o.Lanes
 ·have e1:(o.Args.length==Sb o.Kind o.Lanes)=true:=by simpa using he
  have e2:(o.Args.length !=Sb o.Kind o.Lanes)=false:=by simpa using he
  rw[e1,e2]
  have hloop:=Hk o.Args 0 valS (Kk o) (.inl ()) (.inr false) (λi hi hp=>by
    unfold Kk
    have:decide (i<(o.Args.length:Int))=true:=by simpa using hi
    simp only[this,Ah,Aa (Ai hi),C9,Xo,An,hp,Ds,Ax,A0 hi (by omega)]) (λi hi hp=>by
    unfold Kk
    have:decide (i<(o.Args.length:Int))=true:=by simpa using hi
    simp only[this,Ah,Aa (Ai hi),C9,Xo,An,hp,J2]) (by
    unfold Kk
    simp) o.Args.length 0 (by omega)
  rw[show 0=((0:Nat):Int) from rfl,hloop,N9]
  cases o.Args.all valS<;>rfl
 ·grind
theorem fj{k b n:Int}(hs:Xp b n=true):((Xn k b n).1==0)=(k==17 || k==19):=by
 have hb:(b==0)=false:=by
  have:=width_cases (BX hs);simp;omega
 unfold Xn
 cases(k==17 || k==19)<;>cases(k==10 || k==11 || k==12)<;>cases(k==22)<;>simp_all
theorem ZV(o:Bv)(hs:Xp o.Bits o.Lanes=true):Qp o=some (dstS o.Kind o.Dst):=by
 unfold Qp;simp only[QA,An,fj hs,Xo,dstS]
 cases(o.Kind==17 || o.Kind==19)<;>rfl
theorem PZ(o:Bv)(ho:bo o):Rn o=some (Gs o):=by
 unfold Rn Gs;simp only[LQ,fw,QD]
 cases hs:Xp _ _ with
 | false=>cases cn _<;>rfl
 | true=>
  have hl:=shape_lanes hs
  cases hk:cn _ with
  | false=>rfl
  | true=>
   rw[ZW o (BX hs) (by omega) ho.imm];simp only[ZV o hs]
   cases hf:sfitS _ _ _ with
   | false=>rfl
   | true=>
    rw[ZU o hs hk hf ho.args]
    generalize ifitS _ _ _ _=p
    generalize (o.Args.length==Sb _ _)=q
    generalize o.Args.all _=r
    generalize dstS _ _=s
    cases p<;>cases q<;>cases r<;>cases s<;>rfl
theorem pu(o:Bv):Kl o=some (bif cn o.Kind then Sb o.Kind o.Lanes else -1):=by
 obtain⟨k,b,n,d,args,i⟩:=o;rcases kinds k with rfl|rfl|rfl|rfl|rfl|rfl|rfl|rfl|rfl|rfl|rfl|rfl|rfl|rfl|rfl|rfl|rfl|rfl|rfl|rfl|rfl|rfl|rfl|h
 any_goals rfl
 unfold Kl;simp[bG h,HH h]
theorem bI(o:Bv)(ho:bo o):G9 o=some (Gs o):=by
 unfold G9 Gs;simp only[ly]
 cases hs:Xp o.Bits o.Lanes with
 | false=>rfl
 | true=>
  simp only[pu,Ds,Vc,Ah, An]
  cases hk:cn o.Kind with
  | false=>
   grind
  | true=>
   simp only[Ah];rw[pw o hs hk ho.imm]
   by_cases he:o.Args.length=Sb o.Kind o.Lanes
   ·have e1:(o.Args.length==Sb o.Kind o.Lanes)=true:=by simpa using he
    have e2:(Sb o.Kind o.Lanes !=o.Args.length)=false:=by simpa using he.symm
    rw[e1,e2]
    have hloop:=Hk o.Args 0 valS (Gy o) (.inl ()) (.inr false) (λi hi hp=>by
      unfold Gy
      have:decide (i<(o.Args.length:Int))=true:=by simpa using hi
      simp only[this,Ah,Aa (Ai hi),C9,DQ,An,hp,Ds,Ax,A0 hi (by have:=ho.args;omega)]) (λi hi hp=>by
      unfold Gy
      have:decide ((i:Int)<o.Args.length)=true:=by simpa using hi
      simp only[this,Ah,Aa (Ai hi),C9,DQ,An,hp,J2]) (by
      unfold Gy
      simp) o.Args.length 0 (by omega)
    rw[show 0=((0:Nat):Int) from rfl,hloop,N9];simp only[DQ, dstS]
    generalize sfitS o.Kind o.Bits o.Lanes=p
    generalize ifitS o.Kind o.Bits o.Lanes o.Imm=q
    generalize o.Args.all valS=r
    cases p<;>cases q<;>cases r<;>cases(o.Kind==17)<;>cases(o.Kind==19)<;>rfl
   ·grind
theorem Xv{o:Bv}(h:Gs o=true):Xp o.Bits o.Lanes=true/\cn o.Kind=true/\sfitS o.Kind o.Bits o.Lanes=true/\ifitS o.Kind o.Bits o.Lanes o.Imm=true/\(o.Args.length:Int)=Sb o.Kind o.Lanes/\o.Args.all valS=true/\dstS o.Kind o.Dst=true:=by
 simp only[Gs,A6,zzL63]at h;exact⟨h.1.1,h.1.2.1.1.1,h.1.2.1.1.2,h.1.2.1.2,h.1.2.2,h.2.1,h.2.2⟩
theorem fx(o:Bv)(ho:bo o):Qn o=some (bif Gs o then Rw o else[]):=by
 unfold Qn;rw[PZ o ho]
 cases hm:Gs o with
 | false=>rfl
 | true=>
  obtain⟨h1,h2,h3,_⟩:=Xv hm;simp only[QE o h1 h2 h3]
  rfl
theorem fu(o:Bv)(ho:bo o):Qm o=some (bif Gs o then Xn o.Kind o.Bits o.Lanes else(0,0)):=by
 unfold Qm;rw[PZ o ho];simp only[ QA]
 cases Gs o<;>rfl
theorem lx(o:Bv)(ho:bo o):Hm o=some (bif Gs o then Xn o.Kind o.Bits o.Lanes else(0,0)):=by
 unfold Hm;rw[bI o ho]
 cases hm:Gs o with
 | false=>rfl
 | true=>
  obtain⟨_,h2,_⟩:=Xv hm;obtain⟨k,b,n,d,args,i⟩:=o;rcases kinds k with rfl|rfl|rfl|rfl|rfl|rfl|rfl|rfl|rfl|rfl|rfl|rfl|rfl|rfl|rfl|rfl|rfl|rfl|rfl|rfl|rfl|rfl|rfl|h
  any_goals rfl
  rw[HH h]at h2;cases h2
theorem lz(o:Bv)(ho:bo o):Hn o=some (bif Gs o then Rw o else[]):=by
 unfold Hn;rw[bI o ho]
 cases hm:Gs o with
 | false=>rfl
 | true=>
  obtain⟨h1,h2,h3,h4,h5,_⟩:=Xv hm
  have hloop:=QJ (X:=List (Int×Int)) o.Args.length (PM o) (H0 o) id (λl i hi hl=>by
   unfold H0
   have e0:decide ((i:Int)<(o.Args.length:Int))=true:=by simpa using hi
   have e1:((i:Int)==0)=Nat.beq i 0:=by cases i<;>rfl
   have e2:((i:Int)==1)=Nat.beq i 1:=by
    rcases i with _|_|i
    ·rfl
    ·rfl
    ·have:¬ (((i+1+1:Nat):Int)=1):=by omega
     simp only[Nat.beq]
     simpa using this
   have hr:l.length+([PM o i]:List (Int×Int)).length<=room:=by have:=ho.args;simp[room];omega
   simp only[e0,e1,e2,Ah];have e3 :=A0 hi (by have:=ho.args;omega);simp only[e3]
   have key:∀(x:Option (Int×Int)),x=some (PM o i)->(x.bind λx23=>Az (l.length+([(x23.1,x23.2)]:List (Int×Int)).length<=room) (some (LR.next (l++([(x23.1,x23.2)]:List (Int×Int)),(i:Int)+1))))=(some (LR.next (l++[PM o i],(i:Int)+1)):Option (LR _ (List (Int×Int)))):=by
    rintro x rfl;exact Aa hr
   refine key _ ?_;clear key hr;obtain⟨k,b,n,d,args,im⟩:=o;rcases kinds k with rfl|rfl|rfl|rfl|rfl|rfl|rfl|rfl|rfl|rfl|rfl|rfl|rfl|rfl|rfl|rfl|rfl|rfl|rfl|rfl|rfl|rfl|rfl|h
   all_goals first
    | rfl
    | (rw[HH h]at h2;cases h2)
    | (rcases i with _|_|i<;>rfl)) (λl hl=>by
   unfold H0
   simp) o.Args.length 0 [] (by omega) rfl
  rw[show(0:Int)=((0:Nat):Int) from rfl];simp only[Ds,Ax,hloop,An,id];rw[Rw,<- h5]
  rfl
theorem xF{n:Int}(h:(Lit.int .u64 n).wf=true):0<=n/\n<18446744073709551616:=by simp[Lit.wf,IntKind.min,IntKind.max,IntKind.bits,IntKind.signed]at h;omega
abbrev Iall(w:World):Nat->Nat->Prop:=λb o=>∃ u,w.cell? ⟨b,o,none⟩=some u
structure mh(w:World)(cs:List Value)(avs:List AV):Prop where
 len:cs.length=avs.length
 one:∀ j,j<avs.length->(cs.getD j undef).oneCell'=true
 rep:∀ j,j<avs.length->RepV (Iall w) w (cs.getD j undef) (avs.getD j .any)
structure Opens(P:Program)(t:TypeId){α:Type}(e:α->List AV)(ok:α->Prop):Prop where
 get:∀{H:Type} {enc:TypeId×Value->H} {w:World} {base:Nat} {spare:Nat->Bool} {held:Bool} {fuel:Nat} {cs:List Value} {x:DataW H×List MemPlace},
  DataW.trod enc P w base spare held fuel t cs=some x->∃ a,ok a/\mh w cs (e a)
theorem PF{w:World}{v:Value}{x:AV}(h1:v.oneCell'=true)(h:RepV (Iall w) w v x):mh w [v] [x]:=
 ⟨rfl,λj hj=>(by
   grind),λj hj=>(by
   grind)⟩
theorem XL{P:Program}{t:TypeId}{k:IntKind}{e:Int->List AV}(ht:P.underlying t=some (.int k))(he:∀ n,e n=[.int k n]):Opens P t e (λn=>(Lit.int k n).wf=true):=by
 refine⟨?_⟩;intro H enc w base spare held fuel cs x h;obtain⟨n,rfl,rfl,hw⟩:=DataW.trod_int ht h;exact⟨n,hw,by rw[he];exact PF rfl (.int _ _)⟩
theorem fa{w:World}{base:Nat}{a:Addr}{n:Nat}{cs:List Value}(h:w.cells? base a n=some cs):cs.length=n/\∀ i,i<n->w.cell? (a.add i)=some (cs.getD i undef):=by
 unfold World.cells? at h
 split at h
 ·have hl:=mapM_some_length h;simp at hl;refine⟨hl,λi hi=>?_⟩;have:=mapM_some_get h i i (by simp[hi]);rw[this];simp[ show i<cs.length by omega]
 ·cases h
theorem U3{P:Program}{t el:TypeId}{α:Type}{e:α->List AV}{ok:α->Prop}{sz:Nat}{d:α}{e':List α->List AV}(ht:P.underlying t=some (.slice el))(hs:P.cellsOf el=sz)(h1:1<=sz)(he:Opens P el e ok)(hlen:∀ a,(e a).length=sz)
  (he':∀ l,e' l=[AV.list sz e d l .none]):Opens P t e' (λl=>(∀ a∈l,ok a)/\l.length<=maxLen):=by
 refine⟨?_⟩;intro H enc w base spare held fuel cs x h;rcases DataW.trod_slice ht h with⟨rfl,rfl⟩|⟨a,len,cap,elems,rest,n,_,rfl,rfl,hb,hl,hm,hlen2,hel,_⟩
 ·exact⟨[],⟨by simp,by simp⟩,by rw[he'];exact PF rfl (.slice none 0 0 sz _ (λ_=>undef) (zzL6 _) (by simp) (λh=>by simp at h) (λ_=>rfl) (λj hj=>by simp at hj) (λi hi=>by simp at hi) (λi c hi=>by simp at hi))⟩
 ·have each:∀ i:Fin len,∃ b,ok b/\∃ cs,w.cells? base (a.add (i.1*sz)) sz=some cs/\mh w cs (e b):=λ⟨i,hi⟩=>by
   have:=hel i hi;rw[hs,Pz (by omega),zzL109]at this;obtain⟨cs,hcs,htr⟩:=this;obtain⟨b,hb,hr⟩:=he.get htr;exact⟨b,hb,cs,hcs,hr⟩
  let f:Fin len->α:=λi=>(each i).choose
  have hf:∀ i,ok (f i)/\∃ cs,w.cells? base (a.add (i.1*sz)) sz=some cs/\mh w cs (e (f i)):=λi=>(each i).choose_spec
  have hlf:(List.ofFn f).length=len:=by simp
  refine⟨List.ofFn f,⟨λb hb=>?_,by simp;omega⟩,?_⟩
  ·obtain⟨i,rfl⟩:=List.mem_ofFn.1 hb;exact(hf i).1
  rw[he'];refine PF rfl ?_
  have hcell0:∀ i (hi:i<len),∀ c,c<sz->∃ u,w.cell? ((a.add (i*sz)).add c)=some u/\u.oneCell'=true/\RepV (Iall w) w u ((e (f ⟨i,hi⟩)).getD c .any):=λi hi c hc=>by
   obtain⟨_,cs,hcs,hr⟩:=hf ⟨i,hi⟩;obtain⟨hl,hg⟩:=fa hcs;exact⟨_,hg c hc,hr.one c (by rw[hlen];exact hc),hr.rep c (by rw[hlen];exact hc)⟩
  have hspot:0<len->a.spot=none:=λhp=>by
   obtain⟨u,hu,_⟩:=hcell0 0 hp 0 h1;have h2:=World.cell?_spot hu
   simpa [Addr.add] using h2
  have hcell:∀ i (hi:i<len),∀ c,c<sz->∃ u,w.cell? ⟨a.block,a.off+(i*sz+c),none⟩=some u/\u.oneCell'=true/\RepV (Iall w) w u ((e (f ⟨i,hi⟩)).getD c .any):=λi hi c hc=>by
   obtain⟨u,hu,h1,h2⟩:=hcell0 i hi c hc;have hsp:=hspot (by omega);rw[Mi hsp,O7]at hu;exact⟨u,by rw[<- W1];exact hu,h1,h2⟩
  have hdm:∀ j,j<len*sz->∃ i c,i<len/\c<sz/\j=i*sz+c:=λj hj=>by
   refine⟨j / sz,j % sz,(SV (by omega)).2 hj,Nat.mod_lt _ (by omega),?_⟩;rw[CJ];exact(IK j sz).symm
  unfold AV.list;rw[hlf];refine .slice (some a) len cap sz _ (λj=>(w.cell? ⟨a.block,a.off+j,none⟩).getD undef) hl hm (λhp=>⟨a,rfl,hspot hp,λj hj=>?_,λj hj=>?_⟩) (λh=>by cases h) (λj hj=>?_) (λi hi=>hlen _) (λi c hi hc=>?_)
  ·obtain⟨i,c,hi,hc,rfl⟩:=hdm j hj;obtain⟨u,hu,_⟩:=hcell i hi c hc;exact⟨u,hu⟩
  ·obtain⟨i,c,hi,hc,rfl⟩:=hdm j hj;obtain⟨u,hu,_⟩:=hcell i hi c hc;rw[hu];rfl
  ·obtain⟨i,c,hi,hc,rfl⟩:=hdm j hj;obtain⟨u,hu,h1,_⟩:=hcell i hi c hc;simp only[hu];exact h1
  ·grind
structure YY(P:Program)(fs:List Field)(off N:Nat){α:Type}(e:α->List AV)(ok:α->Prop):Prop where
 get:∀{H:Type} {enc:TypeId×Value->H} {w:World} {base:Nat} {spare:Nat->Bool} {held:Bool} {n:Nat} {cs:List Value},cs.length=N->
  (∀ f∈fs,∃ x,DataW.trod enc P w base spare held n f.type ((cs.drop f.offset).take (P.cellsOf f.type))=some x)->∃ a,ok a/\mh w (cs.drop off) (e a)
theorem T7{P:Program}{N:Nat}:YY P [] N N (λ_:Unit=>[]) (λ_=>True):=by
 refine⟨?_⟩;intro H enc w base spare held n cs hN _;rw[List.drop_eq_nil_of_le (by omega)];exact⟨(),trivial,rfl,(λj hj=>by simp at hj),(λj hj=>by simp at hj)⟩
theorem Cz{P:Program}{f:Field}{fs:List Field}{off sz N:Nat}{α β:Type}{e:α->List AV}{ok:α->Prop}{e':β->List AV}{ok':β->Prop}(hoff:f.offset=off)(hsz:P.cellsOf f.type=sz)(hle:off+sz<=N)
  (h:Opens P f.type e ok) (h':YY P fs (off+sz) N e' ok'):YY P (f::fs) off N (λp:α×β=>e p.1++e' p.2) (λp=>ok p.1/\ok' p.2):=by
 refine⟨?_⟩;intro H enc w base spare held n cs hN hall;obtain⟨x,hx⟩:=hall f (by simp);rw[hoff,hsz]at hx;obtain⟨a,ha,hr⟩:=h.get hx;obtain⟨b,hb,hr'⟩:=h'.get hN (λg hg=>hall g (by simp[hg]))
 have hl:(e a).length=sz:=by rw[<- hr.len];simp;omega
 have hl':(e' b).length=N-(off+sz):=by rw[<- hr'.len];simp;omega
 have hsplit:cs.drop off=(cs.drop off).take sz++cs.drop (off+sz):=by rw[<- List.drop_drop];exact(List.take_append_drop sz _).symm
 have hl2:((cs.drop off).take sz).length=sz:=by simp;omega
 refine⟨(a,b),⟨ha,hb⟩,?_,λj hj=>?_,λj hj=>?_⟩
 ·simp[hl,hl'];omega
 ·rw[hsplit];replace hj:j<(e a++e' b).length:=hj
  show _
  by_cases hlt:j<sz
  ·have:=hr.one j (by omega);rwa[List.getD,Uf (by omega)]
  ·have:=hr'.one (j-sz) (by simp at hj;omega);rwa[List.getD,Va (by omega),hl2]
 ·rw[hsplit];replace hj:j<(e a++e' b).length:=hj
  show RepV (Iall w) w _ ((e a++e' b).getD j .any)
  by_cases hlt:j<sz
  ·have:=hr.rep j (by omega);rwa[List.getD,Uf (by omega),List.getD,Uf (by omega)]
  ·have:=hr'.rep (j-sz) (by simp at hj;omega);rwa[List.getD,Va (by omega),hl2,List.getD,Va (by omega),hl]
theorem Qy{P:Program}{t:TypeId}{fs:Array Field}{N:Nat}{α:Type}{e:α->List AV}{ok:α->Prop}(ht:P.underlying t=some (.struct fs))(hN:P.cellsOf t=N)(h:YY P fs.toList 0 N e ok):Opens P t e ok:=by
 refine⟨?_⟩;intro H enc w base spare held fuel cs x hx;obtain⟨xs,n,_,_,hl,hxl,hall⟩:=DataW.trod_struct ht hx
 have:=h.get  (hl.trans hN)      (λf hf=>by
  obtain⟨i,hi,rfl⟩:=List.mem_iff_getElem.1 hf
  have hi' :=by simpa using hi
  have:=hall i fs.toList[i] (by simp[hi']);rw[Pz (by omega)]at this
  exact⟨_,this⟩)
 simpa using this
theorem Opens.to{P:Program}{t:TypeId}{α β:Type}{e:α->List AV}{ok:α->Prop}(h:Opens P t e ok){e':β->List AV}{ok':β->Prop}(g:α->β)(he:∀ a,e' (g a)=e a)(hok:∀ a,ok a->ok' (g a)):Opens P t e' ok':=by
 refine⟨?_⟩;intro H enc w base spare held fuel cs x hx;obtain⟨a,ha,hr⟩:=h.get hx;exact⟨g a,hok a ha,by rw[he];exact hr⟩
theorem arg_one{P:Program}{t:TypeId}{α:Type}{e:α->List AV}{ok:α->Prop}(h:Opens P t e ok){x:α->AV}(he:∀ a,e a=[x a]){H:Type}{enc:TypeId×Value->H}{w:World}{base:Nat}{spare:Nat->Bool}{held:Bool}{v:Value}{d:DataW H}{ps:List MemPlace}
  (hv:v.cells = #[v]) (hd:DataW.Trod enc P w base spare held t v d ps):∃ a,ok a/\RepV (Iall w) w v (x a):=by
 obtain⟨fuel,hf⟩:=hd;obtain⟨a,ha,hr⟩:=h.get hf;refine⟨a,ha,?_⟩;have:=hr.rep 0 (by simp[he])
 simpa [hv,he] using this
theorem arg_agg{P:Program}{t:TypeId}{α:Type}{e:α->List AV}{ok:α->Prop}(h:Opens P t e ok){H:Type}{enc:TypeId×Value->H}{w:World}{base:Nat}{spare:Nat->Bool}{held:Bool}{cs:Array Value}{d:DataW H}{ps:List MemPlace}
  (hd:DataW.Trod enc P w base spare held t (.agg cs) d ps):∃ a,ok a/\RepV (Iall w) w (.agg cs) (.agg (e a)):=by
 obtain⟨fuel,hf⟩:=hd;obtain⟨a,ha,hr⟩:=h.get hf;have e1:(Value.agg cs).cells.toList=cs.toList:=rfl;rw[e1]at hr
 have e2:∀ j,cs.toList.getD j undef=cs.getD j undef:=λj=>by simp_all
 refine⟨a,ha,.agg _ _ (by simpa using hr.len) (λj hj=>?_) (λj hj=>?_)⟩
 ·rw[<- e2];exact hr.one j hj
 ·rw[<- e2];exact hr.rep j hj
def okI64(n:Int):Prop:=(Lit.int .i64 n).wf=true
theorem op_3:Opens Tryz.prog 3 Aq okI64:=XL Tryz.underlying3 (λ_=>rfl)
def JR(l:List (Int)):Prop:=(∀ a∈l,okI64 a)/\l.length<=maxLen
theorem dj:Opens Tryz.prog 22 Lc JR:=U3 (d:=(0:Int)) Tryz.underlying22 (by kernel_rfl) (by decide) op_3 (λ_=>rfl) (λ_=>rfl)
def pe(a:A8):Prop:=okI64 a.Bits/\okI64 a.Dst/\JR a.From/\JR a.Args/\True
theorem zP:Opens Tryz.prog 67 El pe:=Opens.to (Qy (N:=4) Tryz.underlying67 (by kernel_rfl) (Cz (off:=0) (sz:=1) (N:=4) rfl (by kernel_rfl) (by decide) op_3 (Cz (off:=1) (sz:=1) (N:=4) rfl (by kernel_rfl) (by decide) op_3 (Cz (off:=2) (sz:=1) (N:=4) rfl (by kernel_rfl) (by decide) dj (Cz (off:=3) (sz:=1) (N:=4) rfl (by kernel_rfl) (by decide) dj T7))))) (λp=>⟨p.1,p.2.1,p.2.2.1,p.2.2.2.1⟩) (λ_=>rfl) (λ_ h=>h)
def jg(l:List (A8)):Prop:=(∀ a∈l,pe a)/\l.length<=maxLen
theorem zL:Opens Tryz.prog 59 wc jg:=U3 (d:=(default:A8)) Tryz.underlying59 (by kernel_rfl) (by decide) zP (λ_=>rfl) (λ_=>rfl)
def u6(n:Int):Prop:=(Lit.int .u64 n).wf=true
theorem zK:Opens Tryz.prog 44 Aao u6:=XL Tryz.underlying44 (λ_=>rfl)
def u5(a:Bv):Prop:=okI64 a.Kind/\okI64 a.Bits/\okI64 a.Lanes/\okI64 a.Dst/\JR a.Args/\u6 a.Imm/\True
theorem zQ:Opens Tryz.prog 70 Lh u5:=Opens.to (Qy (N:=6) Tryz.underlying70 (by kernel_rfl) (Cz (off:=0) (sz:=1) (N:=6) rfl (by kernel_rfl) (by decide) op_3 (Cz (off:=1) (sz:=1) (N:=6) rfl (by kernel_rfl) (by decide) op_3 (Cz (off:=2) (sz:=1) (N:=6) rfl (by kernel_rfl) (by decide) op_3 (Cz (off:=3) (sz:=1) (N:=6) rfl (by kernel_rfl) (by decide) op_3 (Cz (off:=4) (sz:=1) (N:=6) rfl (by kernel_rfl) (by decide) dj (Cz (off:=5) (sz:=1) (N:=6) rfl (by kernel_rfl) (by decide) zK T7))))))) (λp=>⟨p.1,p.2.1,p.2.2.1,p.2.2.2.1,p.2.2.2.2.1,p.2.2.2.2.2.1⟩) (λ_=>rfl) (λ_ h=>h)
def pY(l:List (Bv)):Prop:=(∀ a∈l,u5 a)/\l.length<=maxLen
theorem zM:Opens Tryz.prog 60 WM pY:=U3 (d:=(default:Bv)) Tryz.underlying60 (by kernel_rfl) (by decide) zQ (λ_=>rfl) (λ_=>rfl)
def pd(a:J9):Prop:=okI64 a.Kind/\okI64 a.Arg/\JR a.To/\True
theorem zN:Opens Tryz.prog 62 jM pd:=Opens.to (Qy (N:=3) Tryz.underlying62 (by kernel_rfl) (Cz (off:=0) (sz:=1) (N:=3) rfl (by kernel_rfl) (by decide) op_3 (Cz (off:=1) (sz:=1) (N:=3) rfl (by kernel_rfl) (by decide) op_3 (Cz (off:=2) (sz:=1) (N:=3) rfl (by kernel_rfl) (by decide) dj T7)))) (λp=>⟨p.1,p.2.1,p.2.2.1⟩) (λ_=>rfl) (λ_ h=>h)
def dV(a:Ae):Prop:=jg a.Phis/\pY a.Ops/\pd a.End/\True
theorem zO:Opens Tryz.prog 64 Cj dV:=Opens.to (Qy (N:=5) Tryz.underlying64 (by kernel_rfl) (Cz (off:=0) (sz:=1) (N:=5) rfl (by kernel_rfl) (by decide) zL (Cz (off:=1) (sz:=1) (N:=5) rfl (by kernel_rfl) (by decide) zM (Cz (off:=2) (sz:=3) (N:=5) rfl (by kernel_rfl) (by decide) zN T7)))) (λp=>⟨p.1,p.2.1,p.2.2.1⟩) (λ_=>rfl) (λ_ h=>h)
def XI(l:List (Ae)):Prop:=(∀ a∈l,dV a)/\l.length<=maxLen
theorem zJ:Opens Tryz.prog 23 oh XI:=U3 (d:=(default:Ae)) Tryz.underlying23 (by kernel_rfl) (by decide) zO (λ_=>rfl) (λ_=>rfl)
def okTFunc(a:TFunc):Prop:=JR a.Params/\okI64 a.Ret/\XI a.Blocks/\True
theorem op_25:Opens Tryz.prog 25 eTFunc okTFunc:=Opens.to (Qy (N:=3) Tryz.underlying25 (by kernel_rfl) (Cz (off:=0) (sz:=1) (N:=3) rfl (by kernel_rfl) (by decide) dj (Cz (off:=1) (sz:=1) (N:=3) rfl (by kernel_rfl) (by decide) op_3 (Cz (off:=2) (sz:=1) (N:=3) rfl (by kernel_rfl) (by decide) zJ T7)))) (λp=>⟨p.1,p.2.1,p.2.2.1⟩) (λ_=>rfl) (λ_ h=>h)
def numB(n:Int):Bool:=decide (0<=n)&&decide (n<=2147483647)
def listB(l:List Int):Bool:=l.all numB&&decide (l.length<=64)
def FL(p:A8):Bool:=numB p.Bits&&numB p.Dst&&listB p.From&&listB p.Args
def ei(o:Bv):Bool:=numB o.Kind&&numB o.Bits&&numB o.Lanes&&numB o.Dst&&listB o.Args
def cW(e:J9):Bool:=numB e.Kind&&numB e.Arg&&listB e.To
def blockB(b:Ae):Bool:=b.Phis.all FL&&b.Ops.all ei&&cW b.End
def Ez(b:Ae):Nat:=b.Phis.length+b.Ops.length+1
def sizeN(f:TFunc):Nat:=(f.Blocks.map Ez).sum
def sizeW(f:TFunc):Int:=w64 (sizeN f)
def Qv(f:TFunc):Bool:=decide (1<=f.Blocks.length)&&decide (f.Blocks.length<=64)&&decide (f.Params.length<=16)&&listB f.Params&&numB f.Ret&&decide (sizeW f<=512)&&f.Blocks.all blockB
def cY(p:A8):Nat:=1+p.From.length+p.Args.length
def cX(o:Bv):Nat:=1+o.Args.length
def UW(b:Ae):Nat:=1+b.End.To.length+(b.Phis.map cY).sum+(b.Ops.map cX).sum
def fg(f:TFunc):Nat:=f.Params.length+(f.Blocks.map UW).sum
theorem Oe:maxLen=9223372036854775807:=rfl
structure VY(f:TFunc):Prop where
 params:f.Params.length<=maxLen
 blocks:f.Blocks.length<=maxLen
 block:∀ b∈f.Blocks,b.Phis.length<=maxLen/\b.Ops.length<=maxLen/\b.End.To.length<=maxLen
 phi:∀ b∈f.Blocks,∀ p∈b.Phis,p.From.length<=maxLen/\p.Args.length<=maxLen
 op:∀ b∈f.Blocks,∀ o∈b.Ops,o.Args.length<=maxLen/\0<=o.Imm/\o.Imm<18446744073709551616
theorem inF{f:TFunc}(h:okTFunc f):VY f:=
 ⟨h.1.2,h.2.2.1.2,λb hb=>⟨(h.2.2.1.1 b hb).1.2,(h.2.2.1.1 b hb).2.1.2,(h.2.2.1.1 b hb).2.2.1.2.2.1.2⟩,λb hb p hp=>⟨((h.2.2.1.1 b hb).1.1 p hp).2.2.1.2,((h.2.2.1.1 b hb).1.1 p hp).2.2.2.1.2⟩,
  λb hb o ho=>⟨((h.2.2.1.1 b hb).2.1.1 o ho).2.2.2.2.1.2,xF ((h.2.2.1.1 b hb).2.1.1 o ho).2.2.2.2.2.1⟩⟩
theorem U9{n:Nat}(h:n<9223372036854775808):w64 (n:Int)=n:=Hg (by omega) (by omega)
theorem K4{i n:Nat}(h:i<n)(hn:n<=maxLen):w64 ((i:Int)+1)=((i+1:Nat):Int):=by rw[Oe]at hn;rw[show((i:Int)+1)=(i+1:Nat) by omega,U9 (by omega)]
theorem SD(f:TFunc)(hf:VY f):∃ b,Db f=some b:=by
 have h3:∃ x,Ac (C4 f) (f.Params.length,(0:Nat))=some x:=by
  refine Tu f.Blocks.length _ (λn i hi=>?_) (λn=>?_) _ 0 _ (E8 _)
  ·have hmem:=Ag (d:=default) hi;obtain⟨b1,b2,_⟩:=hf.block _ hmem;have hI :=Ai hi;unfold C4
   cases hc:(bif decide (i<(f.Blocks.length:Int)) then decide (n<=20000) else false) with
   | false=>right;simp only[hc];exact⟨_,rfl⟩
   | true=>
    left
    simp only[hc, Aa hI]
    obtain⟨x1,h1⟩:=Tu (f.Blocks.getD i default).Phis.length (C2 f i) (λn j hj=>by
      unfold C2;simp only[Aa hI,C9]
      cases hc:(bif decide (j<((f.Blocks.getD i default).Phis.length:Int)) then decide (n<=20000) else false) with
      | false=>grind
      | true=>left;simp only[ Aa (Ai hj),K4 hj b1];exact⟨_,rfl⟩) (λn=>by
      unfold C2;simp only[Aa hI,C9]
      have:decide ((f.Blocks.getD i default).Phis.length<((f.Blocks.getD i default).Phis.length:Int))=false:=by simp
      simp only[this];exact⟨_,rfl⟩) _ 0 (w64 (w64 (n+1)+(f.Blocks.getD i default).End.To.length)) (E8 _)
    obtain⟨x2,h2⟩:=Tu (f.Blocks.getD i default).Ops.length (C3 f i) (λn j hj=>by
      unfold C3;simp only[Aa hI,C9]
      cases hc:(bif decide (j<((f.Blocks.getD i default).Ops.length:Int)) then decide (n<=20000) else false) with
      | false=>grind
      | true=>left;simp only[ Aa (Ai hj),K4 hj b2];exact⟨_,rfl⟩) (λn=>by
      unfold C3;simp only[Aa hI,C9]
      have:decide ((f.Blocks.getD i default).Ops.length<((f.Blocks.getD i default).Ops.length:Int))=false:=by simp
      simp only[this];exact⟨_,rfl⟩) _ 0 x1 (E8 _)
    rw[show((0:Nat):Int)=0 from rfl]at h1 h2;simp only[C9,h1,h2,An,K4 hi hf.blocks];exact⟨_,rfl⟩
  ·unfold C4
   have:decide ((f.Blocks.length:Int)<(f.Blocks.length:Int))=false:=by simp
   simp only[this];exact⟨_,rfl⟩
 obtain⟨x,hx⟩:=h3;unfold Db;rw[show((0:Nat):Int)=0 from rfl]at hx;rw[hx];exact⟨_,rfl⟩
theorem eG(f:TFunc)(hf:VY f)(h0:f.Params.length<=64)(hb:∀ b∈f.Blocks,b.End.To.length<=64/\(∀ p∈b.Phis,p.From.length<=64/\p.Args.length<=64)/\∀ o∈b.Ops,o.Args.length<=64):Db f=some (decide (fg f<=20000)):=by
 have h3:=HM f.Blocks (default:Ae) UW 20000 (C4 f) (λn i hi hn=>by
   have hmem:=Ag (d:=(default:Ae)) hi;obtain⟨b1,b2,b3⟩:=hf.block _ hmem;obtain⟨hTo,hPh,hOp⟩:=hb _ hmem;have hI1:A2 (i:Int) f.Blocks.length:=Ai hi
   have l1:=HM (f.Blocks.getD i default).Phis (default:A8) cY 20000 (C2 f i) (λn j hj hn=>by
     have hm:=Ag (d:=(default:A8)) hj;obtain⟨p1,p2⟩:=hPh _ hm
     have e1:decide ((j:Int)<((f.Blocks.getD i default).Phis.length:Int))=true:=by simpa using hj
     have e2:decide ((n:Int)<=20000)=true:=by simp;omega
     refine⟨n+cY ((f.Blocks.getD i default).Phis.getD j default),?_,λ_=>rfl,λh=>h⟩;unfold C2;simp only[Aa hI1,C9,e1,e2,Ah,Aa (Ai hj),K4 hj b1]
     congr 3
     rw[Hg (n:=(n:Int)+1) (by omega) (by omega),Hg (n:=(n:Int)+1+_) (by omega) (by omega),Hg (by omega) (by omega)];simp only[cY]
     omega) (λn j hj hd=>by
     unfold C2;simp only[Aa hI1,C9]
     have:(bif decide ((j:Int)<((f.Blocks.getD i default).Phis.length:Int)) then decide ((n:Int)<=20000) else false)=false:=by
      rcases hd with rfl|h
      ·simp
      ·simp;omega
     rw[this];rfl)
   have l2:=HM (f.Blocks.getD i default).Ops (default:Bv) cX 20000 (C3 f i) (λn j hj hn=>by
     have hm:=Ag (d:=(default:Bv)) hj;have p1:=hOp _ hm
     have e1:decide ((j:Int)<((f.Blocks.getD i default).Ops.length:Int))=true:=by simpa using hj
     have e2:decide ((n:Int)<=20000)=true:=by simp;omega
     refine⟨n+cX ((f.Blocks.getD i default).Ops.getD j default),?_,λ_=>rfl,λh=>h⟩;unfold C3;simp only[Aa hI1,C9,e1,e2,Ah,Aa (Ai hj),K4 hj b2]
     congr 3
     rw[Hg (n:=(n:Int)+1) (by omega) (by omega),Hg (by omega) (by omega)];simp only[cX]
     omega) (λn j hj hd=>by
     unfold C3;simp only[Aa hI1,C9]
     have:(bif decide ((j:Int)<((f.Blocks.getD i default).Ops.length:Int)) then decide ((n:Int)<=20000) else false)=false:=by
      rcases hd with rfl|h
      ·simp
      ·simp;omega
     rw[this];rfl)
   have e1:decide ((i:Int)<(f.Blocks.length:Int))=true:=by simpa using hi
   have e2:decide ((n:Int)<=20000)=true:=by simp;omega
   obtain⟨m1,q1,q2,q3⟩:=l1 _ 0 (n+1+(f.Blocks.getD i default).End.To.length) (E8 _);obtain⟨m2,q4,q5,q6⟩:=l2 _ 0 m1 (E8 _);rw[N9]at q2 q3 q5 q6;refine⟨m2,?_,λhle=>?_,λhle=>?_⟩
   ·unfold C4;simp only[e1,e2,Ah,Aa hI1,C9,K4 hi hf.blocks];rw[Hg (n:=(n:Int)+1) (by omega) (by omega),Hg (by omega) (by omega),show(n:Int)+1+((f.Blocks.getD i default).End.To.length:Int)=((n+1+(f.Blocks.getD i default).End.To.length:Nat):Int) by omega];rw[show((0:Nat):Int)=0 from rfl]at q1 q4;rw[q1,An,q4,An]
   ·simp only[UW]at hle ⊢;have:=q2 (by omega);rw[q5 (by omega)];omega
   ·simp only[UW];have h6:=q6 hle;have h3:=q3 (by omega);have:=q2 h3
    omega) (λn i hi hd=>by
   unfold C4
   have:(bif decide ((i:Int)<(f.Blocks.length:Int)) then decide ((n:Int)<=20000) else false)=false:=by
    rcases hd with rfl|h
    ·simp
    ·simp;omega
   simp only[this,Ax]) f.Blocks.length 0 f.Params.length (E8 _)
 obtain⟨m,h1,h2,h4⟩:=h3;rw[N9]at h2 h4;unfold Db;rw[show((0:Nat):Int)=0 from rfl]at h1;rw[h1,An]
 congr 1
 apply zzL77.2
 simp only[fg]
 constructor
 ·intro h;exact h4 (by omega)
 ·intro h;have:=h2 h;omega
theorem U5(n:Int):Bp n=some (numB n):=by unfold Bp numB;cases decide (0<=n)<;>rfl
theorem Se(l:List Int)(h:l.length<=maxLen):Dr l=some (listB l):=by
 unfold Dr;rw[Oe]at h
 have hloop:=Hk l 0 numB (Gc l) (.inl ()) (.inr false) (λi hi hp=>by
   unfold Gc
   have:decide (i<(l.length:Int))=true:=by simpa using hi
   simp only[this,Ah,Aa (Ai hi),C9,U5,An,hp,Ds,Ax,A0 hi (by omega)]) (λi hi hp=>by
   unfold Gc
   have:decide (i<(l.length:Int))=true:=by simpa using hi
   simp only[this,Ah,Aa (Ai hi),C9,U5,An,hp,J2]) (by
   unfold Gc
   simp) l.length 0 (by omega)
 rw[show(0:Int)=(0:Nat) from rfl,hloop,N9];unfold listB
 have e:decide ((l.length:Int)<=64)=decide (l.length<=64):=by grind
 cases l.all _
 ·rfl
 ·simp[e]
theorem eE(f:TFunc)(hf:VY f):Ew f=some (sizeW f):=by
 unfold Ew
 have hl:=DJ _ default Ez id (Ig f) (λn i hi=>by
   have e1:decide ((i:Int)<f.Blocks.length)=true:=by simpa using hi
   unfold Ig;simp only[e1,Ah,Aa (Ai hi),C9,K4 hi hf.blocks]
   congr 3
   rw[U8,U8,Int.add_assoc _,U8];unfold Ez
   congr 1
   omega) (λn=>by
   unfold Ig
   simp) _ 0 0 (E8 _)
 rw[show w64 _=0 from rfl,show((0:Nat):Int)=0 from rfl]at hl;rw[hl];simp[sizeN,sizeW]
theorem uE(f:TFunc)(hf:VY f):Iv f=some (Qv f):=by
 have hloop:Ac (E4 f) ((0:Nat):Int)=some (bif (f.Blocks.drop 0).all blockB then .inl () else .inr false):=by
  have step:∀ i:Nat,i<f.Blocks.length->E4 f (i:Int)=bif blockB (f.Blocks.getD i default) then some (.next ((i:Int)+1)) else some (.done (.inr false)):=λi hi=>by
   have hmem:=Ag (d:=(default:Ae)) hi;obtain⟨b1,b2,b3⟩:=hf.block _ hmem;have hPh:=hf.phi _ hmem;have hOp:=hf.op _ hmem;have hM:=Oe
   have e0:decide ((i:Int)<(f.Blocks.length:Int))=true:=by simpa using hi
   have l1:=Hk (f.Blocks.getD i default).Phis (default:A8) FL (Gz f i) (.inl ()) (.inr false) (λj hj hp=>by
     obtain⟨p1,p2⟩:=hPh _ (Ag (d:=(default:A8)) hj)
     have e1:decide ((j:Int)<((f.Blocks.getD i default).Phis.length:Int))=true:=by simpa using hj
     unfold Gz;simp only[e1,Ah,C9,Aa (Ai hj),U5,An,Se _ p1,Se _ p2,A0 hj (by omega)]
     revert hp
     unfold FL
     cases numB ((f.Blocks.getD i default).Phis.getD j default).Bits<;>cases numB ((f.Blocks.getD i default).Phis.getD j default).Dst<;>cases listB ((f.Blocks.getD i default).Phis.getD j default).From<;>cases listB ((f.Blocks.getD i default).Phis.getD j default).Args<;>simp) (λj hj hp=>by
     obtain⟨p1,p2⟩:=hPh _ (Ag (d:=(default:A8)) hj)
     have e1:decide ((j:Int)<((f.Blocks.getD i default).Phis.length:Int))=true:=by simpa using hj
     unfold Gz;simp only[e1,Ah,C9,Aa (Ai hj),U5,An,Se _ p1,Se _ p2,A0 hj (by omega)]
     revert hp
     unfold FL
     cases numB ((f.Blocks.getD i default).Phis.getD j default).Bits<;>cases numB ((f.Blocks.getD i default).Phis.getD j default).Dst<;>cases listB ((f.Blocks.getD i default).Phis.getD j default).From<;>cases listB ((f.Blocks.getD i default).Phis.getD j default).Args<;>simp) (by
     unfold Gz
     simp) _ 0 (E8 _)
   have l2:=Hk (f.Blocks.getD i default).Ops (default:Bv) ei (G0 f i) (.inl ()) (.inr false) (λj hj hp=>by
     obtain⟨p1,_⟩:=hOp _ (Ag (d:=(default:Bv)) hj)
     have e1:decide ((j:Int)<((f.Blocks.getD i default).Ops.length:Int))=true:=by simpa using hj
     unfold G0;simp only[e1,Ah,C9,Aa (Ai hj),U5,An,Se _ p1,A0 hj (by omega)]
     revert hp
     unfold ei
     cases numB ((f.Blocks.getD i default).Ops.getD j default).Kind<;>cases numB ((f.Blocks.getD i default).Ops.getD j default).Bits<;>cases numB ((f.Blocks.getD i default).Ops.getD j default).Lanes<;>cases numB ((f.Blocks.getD i default).Ops.getD j default).Dst<;>cases listB ((f.Blocks.getD i default).Ops.getD j default).Args<;>simp) (λj hj hp=>by
     obtain⟨p1,_⟩:=hOp _ (Ag (d:=(default:Bv)) hj)
     have e1:decide ((j:Int)<((f.Blocks.getD i default).Ops.length:Int))=true:=by simpa using hj
     unfold G0;simp only[e1,Ah,C9,Aa (Ai hj),U5,An,Se _ p1,A0 hj (by omega)]
     revert hp
     unfold ei
     cases numB ((f.Blocks.getD i default).Ops.getD j default).Kind<;>cases numB ((f.Blocks.getD i default).Ops.getD j default).Bits<;>cases numB ((f.Blocks.getD i default).Ops.getD j default).Lanes<;>cases numB ((f.Blocks.getD i default).Ops.getD j default).Dst<;>cases listB ((f.Blocks.getD i default).Ops.getD j default).Args<;>simp) (by
     unfold G0
     simp) _ 0 (E8 _)
   rw[show((0:Nat):Int)=0 from rfl,N9]at l1 l2;unfold E4;simp only[e0,Ah,Aa (Ai hi),l1,An];unfold blockB
   cases(f.Blocks.getD i default).Phis.all FL with
   | false=>rfl
   | true=>
    simp only[Ah,l2,An,C9,U5,Se _ b3,A0 hi (by have:=hf.blocks;omega)]
    cases(f.Blocks.getD i default).Ops.all ei with
    | false=>rfl
    | true=>
     unfold cW
     cases numB (f.Blocks.getD i default).End.Kind<;>cases numB (f.Blocks.getD i default).End.Arg<;>cases listB (f.Blocks.getD i default).End.To<;>rfl
  exact Hk f.Blocks (default:Ae) blockB (E4 f) (.inl ()) (.inr false) (λi hi hp=>by rw[step i hi,hp];rfl) (λi hi hp=>by rw[step i hi,hp];rfl) (by
   unfold E4
   simp) _ 0 (E8 _)
 rw[show((0:Nat):Int)=0 from rfl,N9]at hloop;unfold Iv Qv;simp only[Se _ hf.params,U5,eE f hf,hloop]
 have e1:((f.Blocks.length:Int)==0) = !decide (1<=f.Blocks.length):=by
  rw[<- decide_not]
  by_cases h:f.Blocks.length=0
  ·simp[h]
  ·have h1:((f.Blocks.length:Int)==0)=false:=by simpa using h
   rw[h1];symm;apply Ce;omega
 have e2:decide ((64:Int)<(f.Blocks.length:Int)) = !decide (f.Blocks.length<=64):=by rw[<- decide_not];apply zzL77.2;omega
 have e3:decide ((16:Int)<(f.Params.length:Int)) = !decide (f.Params.length<=16):=by rw[<- decide_not];apply zzL77.2;omega
 have e4:decide ((512:Int)<sizeW f) = !decide (sizeW f<=512):=by rw[<- decide_not];apply zzL77.2;omega
 rw[e1,e2,e3]
 generalize decide (1<=f.Blocks.length)=p1
 generalize decide (f.Blocks.length<=64)=p2
 generalize decide (f.Params.length<=16)=p3
 generalize listB f.Params=p4
 generalize numB f.Ret=p5
 cases p1 with
 | false=>simp
 | true=>cases p2 with
  | false=>simp
  | true=>cases p3 with
   | false=>simp
   | true=>cases p4 with
    | false=>simp
    | true=>cases p5 with
     | false=>simp
     | true=>
      simp only[Ds,Bool.or_self,Ah,Ax,Vc,An,e4]
      cases decide (sizeW f<=512) with
      | false=>simp
      | true=>cases f.Blocks.all blockB<;>simp
theorem JF{α:Type}[BEq α](l m:List α):(l.drop 0==m.drop 0)=(l==m):=by simp
theorem ZY{α β:Type}(l:List α)(m:List β):((l.length:Int)!=(m.length:Int)) = !decide (l.length=m.length):=by
 grind
theorem GT{α:Type}[BEq α][LawfulBEq α][DecidableEq α](x y:α):(x==y)=decide (x=y):=by
 grind
theorem Wk(l m:List Int)(hl:l.length<=maxLen):Bb l m=some (decide (l=m)):=by
 unfold Bb;rw[Oe]at hl;rw[ZY]
 by_cases he:l.length=m.length
 ·have hloop:=HL l m 0 (B4 l m) (.inl ()) (.inr false) he (λi hi hp=>by
    unfold B4
    have:decide (i<(l.length:Int))=true:=by simpa using hi
    simp only[this,Ah,Aa (Ai hi),Aa (Ai (show i<m.length by omega)),C9,bne,hp,Ds,Ax,A0 hi (by omega)]) (λi hi hp=>by
    unfold B4
    have:decide ((i:Int)<l.length)=true:=by simpa using hi
    simp only[this,Ah,Aa (Ai hi),Aa (Ai (show i<m.length by omega)),C9,bne,hp,J2]) (by
    unfold B4
    simp) l.length 0 (by omega)
  rw[Co he,Ds, show(0:Int)=(0:Nat) from rfl,hloop,JF,GT]
  cases decide (l=m)<;>rfl
 ·have e3:decide (l=m)=false:=Ce (by rintro rfl;exact he rfl);rw[Ce he,e3];rfl
theorem jq(p q:A8):(p==q)=((p.Bits==q.Bits)&&(p.Dst==q.Dst)&&decide (p.From=q.From)&&decide (p.Args=q.Args)):=by
 rw[ Y7];obtain⟨a,b,c,d⟩:=p;obtain⟨a',b',c',d'⟩:=q;simp[and_assoc]
theorem k9(x y:Ae):(x==y)=(decide (x.Phis=y.Phis)&&decide (x.Ops=y.Ops)&&((x.End.Kind==y.End.Kind)&&(x.End.Arg==y.End.Arg)&&decide (x.End.To=y.End.To))):=by
 rw[ Y7];obtain⟨p,o,⟨k,a,t⟩⟩:=x;obtain⟨p',o',⟨k',a',t'⟩⟩:=y;simp[and_assoc]
theorem oz(x y:TFunc):decide (x=y)=((x.Ret==y.Ret)&&decide (x.Params=y.Params)&&decide (x.Blocks=y.Blocks)):=by
 rw[Y7];obtain⟨p,r,b⟩:=x;obtain⟨p',r',b'⟩:=y
 constructor
 ·grind
 ·grind
theorem qF(a b:TFunc)(ha:VY a):Km a b=some (decide (a=b)):=by
 have hM:=Oe;unfold Km;rw[Wk _ _ ha.params,oz];simp only[ZY]
 by_cases hr:a.Ret=b.Ret
 ·have e1:(a.Ret !=b.Ret)=false:=by simpa using hr
  have e1':(a.Ret==b.Ret)=true:=by simpa using hr
  rw[e1,e1']
  cases hp:decide (a.Params=b.Params) with
  | false=>rfl
  | true=>
   by_cases hlen:a.Blocks.length=b.Blocks.length
   ·have step:∀ i:Nat,i<a.Blocks.length->Gb a b (i:Int)=bif (a.Blocks.getD i default==b.Blocks.getD i default) then some (.next ((i:Int)+1)) else some (.done (.inr false)):=λi hi=>by
     have hmem:=Ag (d:=(default:Ae)) hi;obtain⟨b1,b2,b3⟩:=ha.block _ hmem;have hPh:=ha.phi _ hmem;have hOp:=ha.op _ hmem
     have e0:decide ((i:Int)<(a.Blocks.length:Int))=true:=by simpa using hi
     have hI:A2 (i:Int) b.Blocks.length:=Ai (by omega);rw[k9];unfold Gb;simp only[e0,Ah,Aa (Ai hi),Aa hI,C9,Wk _ _ b3,ZY]
     by_cases hphi:(a.Blocks.getD i default).Phis.length=(b.Blocks.getD i default).Phis.length
     ·by_cases hops:(a.Blocks.getD i default).Ops.length=(b.Blocks.getD i default).Ops.length
      ·rw[Co hphi,Co hops]
       have l1:=HL (a.Blocks.getD i default).Phis (b.Blocks.getD i default).Phis (default:A8) (F9 a b i) (.inl ()) (.inr false) hphi (λj hj hp=>by
         obtain⟨p1,p2⟩:=hPh _ (Ag (d:=(default:A8)) hj)
         have q0:decide ((j:Int)<((a.Blocks.getD i default).Phis.length:Int))=true:=by simpa using hj
         rw[jq]at hp;unfold F9;simp only[q0,Ah,C9,Aa (Ai hj),Aa (Ai (show j<(b.Blocks.getD i default).Phis.length by omega)),Wk _ _ p1,Wk _ _ p2,A0 hj (by omega),bne]
         revert hp
         cases(((a.Blocks.getD i default).Phis.getD j default).Bits==((b.Blocks.getD i default).Phis.getD j default).Bits)<;>cases(((a.Blocks.getD i default).Phis.getD j default).Dst==((b.Blocks.getD i default).Phis.getD j default).Dst)<;>cases decide (((a.Blocks.getD i default).Phis.getD j default).From=((b.Blocks.getD i default).Phis.getD j default).From)<;>cases decide (((a.Blocks.getD i default).Phis.getD j default).Args=((b.Blocks.getD i default).Phis.getD j default).Args)<;>simp) (λj hj hp=>by
         obtain⟨p1,p2⟩:=hPh _ (Ag (d:=(default:A8)) hj)
         have q0:decide ((j:Int)<((a.Blocks.getD i default).Phis.length:Int))=true:=by simpa using hj
         rw[jq]at hp;unfold F9;simp only[q0,Ah,C9,Aa (Ai hj),Aa (Ai (show j<(b.Blocks.getD i default).Phis.length by omega)),Wk _ _ p1,Wk _ _ p2,A0 hj (by omega),bne]
         revert hp
         cases(((a.Blocks.getD i default).Phis.getD j default).Bits==((b.Blocks.getD i default).Phis.getD j default).Bits)<;>cases(((a.Blocks.getD i default).Phis.getD j default).Dst==((b.Blocks.getD i default).Phis.getD j default).Dst)<;>cases decide (((a.Blocks.getD i default).Phis.getD j default).From=((b.Blocks.getD i default).Phis.getD j default).From)<;>cases decide (((a.Blocks.getD i default).Phis.getD j default).Args=((b.Blocks.getD i default).Phis.getD j default).Args)<;>simp) (by
         unfold F9
         simp) _ 0 (E8 _)
       have l2:=HL (a.Blocks.getD i default).Ops (b.Blocks.getD i default).Ops (default:Bv) (Ga a b i) (.inl ()) (.inr false) hops (λj hj hp=>by
         obtain⟨p1,_⟩:=hOp _ (Ag (d:=(default:Bv)) hj)
         have q0:decide ((j:Int)<((a.Blocks.getD i default).Ops.length:Int))=true:=by simpa using hj
         rw[GT]at hp;unfold Ga
         simp only[q0,Ah,C9,Aa (Ai hj),Aa (Ai (show j<(b.Blocks.getD i default).Ops.length by omega)),rop_eq _ _ p1,A0 hj (by omega),hp,An,Ds,Ax]) (λj hj hp=>by
         obtain⟨p1,_⟩:=hOp _ (Ag (d:=(default:Bv)) hj)
         have q0:decide ((j:Int)<((a.Blocks.getD i default).Ops.length:Int))=true:=by simpa using hj
         rw[GT]at hp;unfold Ga
         simp only[q0,Ah,C9,Aa (Ai hj),Aa (Ai (show j<(b.Blocks.getD i default).Ops.length by omega)),rop_eq _ _ p1,hp,An,J2,Ah]) (by
         unfold Ga
         simp) _ 0 (E8 _)
       rw[show((0:Nat):Int)=0 from rfl,JF,GT]at l1 l2;simp only[l1,An,A0 hi (by have:=ha.blocks;omega),bne]
       cases((a.Blocks.getD i default).End.Kind==(b.Blocks.getD i default).End.Kind)<;>cases((a.Blocks.getD i default).End.Arg==(b.Blocks.getD i default).End.Arg)<;>cases decide ((a.Blocks.getD i default).End.To=(b.Blocks.getD i default).End.To)<;>cases decide ((a.Blocks.getD i default).Phis=(b.Blocks.getD i default).Phis)<;>simp only[Ds,J2,Ah,Ax,l2,FY,Bool.and_false,Ld,FX,An]
       all_goals first|rfl|(cases decide ((a.Blocks.getD i default).Ops=(b.Blocks.getD i default).Ops)<;>rfl)
      ·have:decide ((a.Blocks.getD i default).Ops=(b.Blocks.getD i default).Ops)=false:=Ce λh=>hops (by rw[h]);rw[Co hphi,Ce hops,this]
       simp
     ·have:decide ((a.Blocks.getD i default).Phis=(b.Blocks.getD i default).Phis)=false:=Ce λh=>hphi (by rw[h]);rw[Ce hphi,this]
      simp
    have hloop:=HL a.Blocks b.Blocks (default:Ae) (Gb a b) (.inl ()) (.inr false) hlen (λi hi hp=>by rw[step i hi,hp];rfl) (λi hi hp=>by rw[step i hi,hp];rfl) (by
     unfold Gb
     simp) _ 0 (E8 _)
    rw[show((0:Nat):Int)=0 from rfl,JF,GT]at hloop;rw[Co hlen];simp only[hloop,Ds,Ax,Ah,An,bne,Ld,FY,J2]
    all_goals first|rfl|(cases decide (a.Blocks=b.Blocks)<;>rfl)
   ·have:decide (a.Blocks=b.Blocks)=false:=Ce λh=>hlen (by rw[h]);rw[Ce hlen,this]
    rfl
 ·have e1:(a.Ret !=b.Ret)=true:=by simpa using hr
  have e1':(a.Ret==b.Ret)=false:=by simpa using hr
  rw[e1,e1']
  rfl
theorem pW{n:Int}:numB n=true↔0<=n/\n<=2147483647:=by simp[numB]
theorem listB_iff{l:List Int}:listB l=true↔o7 l/\l.length<=64:=by
 simp[listB,o7,pW]
def zh(n:Int):Prop:=0<=n/\n<18446744073709551616
structure OkB(b:Ae):Prop where
 may:blockB b=true
 phis:b.Phis.length<=512
 ops:b.Ops.length<=512
 imm:∀ o∈b.Ops,zh o.Imm
structure OkF(f:TFunc):Prop where
 params:listB f.Params=true
 few:f.Params.length<=16
 ret:numB f.Ret=true
 blocks:f.Blocks.length<=64
 block:∀ b∈f.Blocks,OkB b
theorem blockB_iff{b:Ae}:blockB b=true↔(∀ p∈b.Phis,FL p=true)/\(∀ o∈b.Ops,ei o=true)/\cW b.End=true:=by
 simp[blockB,and_assoc]
theorem g6{α:Type}(l:List α)(g:α->Nat)(B:Nat)(h:∀ a∈l,g a<=B):(l.map g).sum<=l.length*B:=by
 induction l with
 | nil=>simp
 | cons a l ih=>
  have h1:=h a (by simp);have h2:=ih (λb hb=>h b (by simp[hb]));rw[Cu,SU,EX,Gm];omega
theorem qK{α:Type}(l:List α)(g k:α->Nat)(h:∀ a∈l,g a<=k a):(l.map g).sum<=(l.map k).sum:=by
 induction l with
 | nil=>simp
 | cons a l ih=>
  grind
theorem QH{α:Type}(l:List α)(g:α->Nat)(h:∀ a∈l,1<=g a):l.length<=(l.map g).sum:=by
 induction l with
 | nil=>simp
 | cons a l ih=>
  grind
theorem gG{α:Type}{l:List α}{a:α}(g:α->Nat)(h:a∈l):g a<=(l.map g).sum:=by
 induction l with
 | nil=>cases h
 | cons b l ih=>
  grind
theorem OkF.size{f:TFunc}(h:OkF f):sizeN f<=65600/\sizeW f=sizeN f:=by
 have:sizeN f<=f.Blocks.length*1025:=g6 _ _ _ λb hb=>by
  have h1:=(h.block b hb).phis;have h2:=(h.block b hb).ops;simp only[Ez];omega
 have h2:=h.blocks
 have h3:sizeN f<=65600:=by omega
 exact⟨h3,U9 (by omega)⟩
theorem JN{f:TFunc}(h:Qv f=true):1<=f.Blocks.length/\f.Blocks.length<=64/\f.Params.length<=16/\listB f.Params=true/\numB f.Ret=true/\sizeW f<=512/\∀ b∈f.Blocks,blockB b=true:=by
 simp only[Qv,A6,Gr,zzL26]at h;exact⟨h.1.1.1.1.1.1,h.1.1.1.1.1.2,h.1.1.1.1.2,h.1.1.1.2,h.1.1.2,h.1.2,h.2⟩
theorem lf{f:TFunc}(h:Qv f=true):f.Params.length<=64/\∀ b∈f.Blocks,b.End.To.length<=64/\(∀ p∈b.Phis,p.From.length<=64/\p.Args.length<=64)/\∀ o∈b.Ops,o.Args.length<=64:=by
 obtain⟨_,_,h3,_,_,_,h7⟩:=JN h;refine⟨by omega,λb hb=>?_⟩;obtain⟨q1,q2,q3⟩:=blockB_iff.1 (h7 b hb);simp only[cW,A6]at q3;refine⟨(listB_iff.1 q3.2).2,λp hp=>?_,λo ho=>?_⟩
 ·have:=q1 p hp;simp only[FL,A6]at this;exact⟨(listB_iff.1 this.1.2).2,(listB_iff.1 this.2).2⟩
 ·have:=q2 o ho;simp only[ei,A6]at this;exact(listB_iff.1 this.2).2
theorem wy{f:TFunc}(hf:VY f)(h:Qv f=true)(hs:fg f<=20000):OkF f/\sizeN f<=512:=by
 obtain⟨h1,h2,h3,h4,h5,h6,h7⟩:=JN h
 have hle:sizeN f<=fg f:=by
  have:sizeN f<=(f.Blocks.map UW).sum:=qK _ _ _ λb hb=>by
   have q1:b.Phis.length<=(b.Phis.map cY).sum:=QH _ _ λp hp=>by simp only[cY];omega
   have q2:b.Ops.length<=(b.Ops.map cX).sum:=QH _ _ λp hp=>by simp only[cX];omega
   simp only[Ez,UW];omega
  simp only[fg];omega
 have hw:sizeW f=sizeN f:=U9 (by omega)
 have h512:sizeN f<=512:=by omega
 refine⟨⟨h4,h3,h5,h2,λb hb=>?_⟩,h512⟩;have hb512:Ez b<=sizeN f:=gG _ hb;simp only[Ez]at hb512;exact⟨h7 b hb,by omega,by omega,λo ho=>(hf.op b hb o ho).2⟩
theorem MK(f:TFunc)(hf:VY f):∃ sm,Db f=some sm/\(sm=true->Qv f=true->OkF f/\sizeN f<=512/\1<=f.Blocks.length):=by
 obtain⟨sm,h⟩:=SD f hf;refine⟨sm,h,λh1 h2=>?_⟩;obtain⟨q1,q2⟩:=lf h2;rw[eG f hf q1 q2]at h;obtain⟨r1,r2⟩:=wy hf h2 (by grind);exact⟨r1,r2,(JN h2).1⟩
def HK(l:Int):Int:=bif l==0 then 17 else bif l==1 then 20 else 22
def K2(l:Int)(o:Bv):Bool:=Gs o&&!decide (HK l<o.Kind)&&!(decide (l<2)&&decide (1<o.Lanes))
def E9(l:Int)(b:Ae):Bool:=(b.Phis.all λp=>widthB p.Bits)&&b.Ops.all (K2 l)
def M3(f:TFunc)(l:Int):Bool:=f.Params.all widthB&&f.Blocks.all (E9 l)&&widthB f.Ret
theorem tn{m a b c:Bool}{x:Int}:(bif (bif (bif (!m) then true else a) then true else(bif b then c else false)) then(some (LR.done (Sum.inr false))) else some (LR.next x):Option (LR Int (Unit ⊕ Bool)))=some (bif (m&&!a&&!(b&&c)) then .next x else .done (.inr false)):=by
 grind
theorem lr{f:TFunc}(hf:OkF f){b:Ae}(hb:b∈f.Blocks){o:Bv}(ho:o∈b.Ops):bo o:=by
 have h1:=hf.block b hb;have h2:=(blockB_iff.1 h1.may).2.1 o ho;simp only[ei,A6]at h2;exact⟨⟨(h1.imm o ho).1,(h1.imm o ho).2⟩,by have:=(listB_iff.1 h2.2).2;omega⟩
theorem tR{f:TFunc}(hf:OkF f)(l:Int):J0 f l=some (M3 f l):=by
 have hp:=Hk f.Params (0:Int) widthB (Fq f) (.inl ()) (.inr false) (λi hi hp=>by
   unfold Fq
   have:decide ((i:Int)<(f.Params.length:Int))=true:=by simpa using hi
   simp only[this,Ah,Aa (Ai hi),C9,Sd,An,hp,Ds,Ax,A0 hi (by have:=hf.few;omega)]) (λi hi hp=>by
   unfold Fq
   have:decide ((i:Int)<(f.Params.length:Int))=true:=by simpa using hi
   simp only[this,Ah,Aa (Ai hi),C9,Sd,An,hp,J2]) (by
   unfold Fq;simp) f.Params.length 0 (by omega)
 have hb:=Hk f.Blocks (default:Ae) (E9 l) (Fs f l) (.inl ()) (.inr false)
 have hphi:∀ i:Nat,i<f.Blocks.length->Ac (D5 f (i:Int)) (0:Int)=some _:=λi hi=>by
  have hB:=hf.block _ (Ag (d:=(default:Ae)) hi)
  have:=Hk (f.Blocks.getD i default).Phis (default:A8) (λp=>widthB p.Bits) (D5 f (i:Int)) (.inl ()) (.inr false) (λj hj hp=>by
   unfold D5
   have:decide ((j:Int)<((f.Blocks.getD i default).Phis.length:Int))=true:=by simpa using hj
   simp only[Aa (Ai hi),C9,this,Ah,Aa (Ai hj),Sd,An,hp,Ds,Ax,A0 hj (by have:=hB.phis;omega)]) (λj hj hp=>by
   unfold D5
   have:decide ((j:Int)<((f.Blocks.getD i default).Phis.length:Int))=true:=by simpa using hj
   simp only[Aa (Ai hi),C9,this,Ah,Aa (Ai hj),Sd,An,hp,J2]) (by
   unfold D5;simp[Aa (Ai hi)]) (f.Blocks.getD i default).Phis.length 0 (by omega)
  rw[show(0:Int)=((0:Nat):Int) from rfl,this,N9]
 have hops:∀ i:Nat,i<f.Blocks.length->Ac (D6 f l (i:Int)) (0:Int)=some _:=λi hi=>by
  have hmem:=Ag (d:=(default:Ae)) hi;have hB:=hf.block _ hmem
  have key:∀(j:Nat),j<(f.Blocks.getD i default).Ops.length->D6 f l (i:Int) (j:Int)=some (bif K2 l ((f.Blocks.getD i default).Ops.getD j default) then .next ((j:Int)+1) else .done (.inr false)):=λj hj=>by
   unfold D6
   have hd:decide ((j:Int)<((f.Blocks.getD i default).Ops.length:Int))=true:=by simpa using hj
   have hok:=lr hf hmem (Ag (d:=(default:Bv)) hj);simp only[Aa (Ai hi),C9,hd,Ah,Aa (Ai hj),A0 hj (by have:=hB.ops;omega)];unfold K2 HK;cases h1:(l==1)<;>cases h0:(l==0)<;>simp only[Ah,Ax,An,bI _ hok,tn]
  have:=Hk (f.Blocks.getD i default).Ops (default:Bv) (K2 l) (D6 f l (i:Int)) (.inl ()) (.inr false) (λj hj hp=>by rw[key j hj,hp];rfl) (λj hj hp=>by rw[key j hj,hp];rfl) (by
   unfold D6;simp[Aa (Ai hi)]) (f.Blocks.getD i default).Ops.length 0 (by omega)
  rw[show(0:Int)=((0:Nat):Int) from rfl,this,N9]
 have hb':=hb (λi hi hp=>by
   unfold Fs
   have:decide ((i:Int)<(f.Blocks.length:Int))=true:=by simpa using hi
   simp only[E9,A6]at hp
   simp only[this,Ah,hphi i hi,hops i hi,hp.1,hp.2,An,A0 hi (by have:=hf.blocks;omega)]) (λi hi hp=>by
   unfold Fs
   have:decide ((i:Int)<(f.Blocks.length:Int))=true:=by simpa using hi
   simp only[E9]at hp;simp only[this,Ah,hphi i hi,hops i hi,An]
   cases h1:((f.Blocks.getD i default).Phis.all λp=>widthB p.Bits) with
   | false=>rfl
   | true=>grind) (by
   unfold Fs;simp) f.Blocks.length 0 (by omega)
 unfold J0 M3;rw[show(0:Int)=((0:Nat):Int) from rfl,hp,hb',N9,N9]
 cases f.Params.all widthB<;>cases f.Blocks.all (E9 l)<;>simp[Sd]
end
end Go.Proofs.YtfhggcbcamamdaaGreat
