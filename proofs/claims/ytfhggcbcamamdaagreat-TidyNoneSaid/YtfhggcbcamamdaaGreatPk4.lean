/-
  The machine, the program's functions and the laws' arithmetic: part 4 of 6.
-/
import Derived.Test.YtfhggcbcamamdaaGreatPk3
import Derived.OpenShut
import Derived.ShutString
set_option linter.unusedSectionVars false
set_option linter.unusedVariables false
set_option linter.unusedSimpArgs false
namespace Go.Proofs.YtfhggcbcamamdaaGreat
noncomputable section
open Go Go.RowKit
set_option maxRecDepth 100000
set_option maxHeartbeats 2000000
def Gz(a0:TFunc)(i4:Int):Int->Option (LR Int (Unit ⊕ Bool)):=
 λ(i6:Int)=>(bif (decide (i6<(((a0.Blocks.getD i4.toNat default).Phis).length:Int))) then(A0 (A1 i6 ((a0.Blocks.getD i4.toNat default).Phis).length) ((Bn ((((a0.Blocks.getD i4.toNat default).Phis).getD i6.toNat default).Bits)).bind λx8=>((bif ((!x8)==false) then Bn ((((a0.Blocks.getD i4.toNat default).Phis).getD i6.toNat default).Dst) else some false).bind λx9=>((bif ((bif (!x8) then true else(!x9))==false) then Dq ((((a0.Blocks.getD i4.toNat default).Phis).getD i6.toNat default).From) else some false).bind λx10=>((bif ((bif (bif (!x8) then true else(!x9)) then true else(!x10))==false) then Dq ((((a0.Blocks.getD i4.toNat default).Phis).getD i6.toNat default).Args) else some false).bind λx11=>(bif (bif (bif (bif (!x8) then true else(!x9)) then true else(!x10)) then true else(!x11)) then(some (.done (.inr false))) else(some (.next (w64 (i6+1)))))))))) else(some (.done (.inl ()))))
def G0(a0:TFunc)(i4:Int):Int->Option (LR Int (Unit ⊕ Bool)):=
 λ(i14:Int)=>(bif (decide (i14<(((a0.Blocks.getD i4.toNat default).Ops).length:Int))) then(A0 (A1 i14 ((a0.Blocks.getD i4.toNat default).Ops).length) ((Bn ((((a0.Blocks.getD i4.toNat default).Ops).getD i14.toNat default).Kind)).bind λx16=>((bif ((!x16)==false) then Bn ((((a0.Blocks.getD i4.toNat default).Ops).getD i14.toNat default).Bits) else some false).bind λx17=>((bif ((bif (!x16) then true else(!x17))==false) then Bn ((((a0.Blocks.getD i4.toNat default).Ops).getD i14.toNat default).Lanes) else some false).bind λx18=>((bif ((bif (bif (!x16) then true else(!x17)) then true else(!x18))==false) then Bn ((((a0.Blocks.getD i4.toNat default).Ops).getD i14.toNat default).Dst) else some false).bind λx19=>((bif ((bif (bif (bif (!x16) then true else(!x17)) then true else(!x18)) then true else(!x19))==false) then Dq ((((a0.Blocks.getD i4.toNat default).Ops).getD i14.toNat default).Args) else some false).bind λx20=>(bif (bif (bif (bif (bif (!x16) then true else(!x17)) then true else(!x18)) then true else(!x19)) then true else(!x20)) then(some (.done (.inr false))) else(some (.next (w64 (i14+1))))))))))) else(some (.done (.inl ()))))
def E5(a0:TFunc):Int->Option (LR Int (Unit ⊕ Bool)):=
 λ(i4:Int)=>(bif (decide (i4<(a0.Blocks.length:Int))) then(A0 (A1 i4 a0.Blocks.length) ((Ac (Gz a0 i4) (0:Int)).bind (λx12=>(match x12 with|(.inl _)=>((Ac (G0 a0 i4) (0:Int)).bind (λx21=>(match x21 with|(.inl _)=>((Bn ((a0.Blocks.getD i4.toNat default).End.Kind)).bind λx23=>((bif ((!x23)==false) then Bn ((a0.Blocks.getD i4.toNat default).End.Arg) else some false).bind λx24=>((bif ((bif (!x23) then true else(!x24))==false) then Dq ((a0.Blocks.getD i4.toNat default).End.To) else some false).bind λx25=>(bif (bif (bif (!x23) then true else(!x24)) then true else(!x25)) then(some (.done (.inr false))) else(some (.next (w64 (i4+1))))))))|(.inr r26)=>(some (.done (.inr r26))))))|(.inr r27)=>(some (.done (.inr r27))))))) else(some (.done (.inl ()))))
def Oq(Γ:H5)(a0:TFunc)(r:Bool):Exit->St->Prop:=fK Tryz.prog Γ Tryz.f51.results.toList [] (.bool r) []
def br(x8:Bool)(x9:Bool):=(bif (!x8) then true else(!x9))
def mo(a0:TFunc):=((a0.Blocks.length:Int)==0)
def mn(a0:TFunc):=(bif (bif (mo a0) then true else(decide ((64:Int)<(a0.Blocks.length:Int)))) then true else(decide ((16:Int)<(a0.Params.length:Int))))
def bs(a0:TFunc)(x1:Bool):=(bif (mn a0) then true else(!x1))
def u9(x23:Bool)(x24:Bool):=((bif (!x23) then true else(!x24))==false)
def Aaa(a0:TFunc)(i4:Int):=(a0.Blocks.getD i4.toNat default)
def Aar(a0:TFunc)(i4:Int)(i14:Int):=(((Aaa a0 i4).Ops).getD i14.toNat default)
def bq(x16:Bool)(x17:Bool)(x18:Bool):=(bif (bif (!x16) then true else(!x17)) then true else(!x18))
def Aab(a0:TFunc):=((bif (mo a0) then true else(decide ((64:Int)<(a0.Blocks.length:Int))))==false)
def Iw(a0:TFunc):Option Bool:=
 ((bif ((bif (bif ((a0.Blocks.length:Int)==0) then true else(decide ((64:Int)<(a0.Blocks.length:Int)))) then true else(decide ((16:Int)<(a0.Params.length:Int))))==false) then Dq a0.Params else some false).bind λx1=>((bif ((bif (bif (bif ((a0.Blocks.length:Int)==0) then true else(decide ((64:Int)<(a0.Blocks.length:Int)))) then true else(decide ((16:Int)<(a0.Params.length:Int)))) then true else(!x1))==false) then Bn a0.Ret else some false).bind λx2=>((bif ((bif (bif (bif (bif ((a0.Blocks.length:Int)==0) then true else(decide ((64:Int)<(a0.Blocks.length:Int)))) then true else(decide ((16:Int)<(a0.Params.length:Int)))) then true else(!x1)) then true else(!x2))==false) then Ko a0 else some (0:Int)).bind λx3=>(bif (bif (bif (bif (bif (bif ((a0.Blocks.length:Int)==0) then true else(decide ((64:Int)<(a0.Blocks.length:Int)))) then true else(decide ((16:Int)<(a0.Params.length:Int)))) then true else(!x1)) then true else(!x2)) then true else(decide ((512:Int)<x3))) then(some false) else((Ac (E5 a0) (0:Int)).bind (λx28=>(match x28 with|(.inl _)=>(some true)|(.inr r30)=>(some r30))))))))
variable{v0:TFunc}{v3:Bool}
theorem BL(h:Iw v0=some v3):sP 51 [(W9 v0)] [] (.bool v3) []:=
 sG Tryz.func51 λΓ q=>Af q [1] [1] (tB h λx1 y1 h=>tB h λx2 y2 h=>tB h λx3 y3 h=>tT q [1,41] [1] [(Z2 x1),(Z2 x2),(ZA x3)] (Vm ((mo v0)==false) (ci (Ng (mo v0)) (Vm (Aab v0) (ci (Ng (bif (mo v0) then true else(decide ((64:Int)<(v0.Blocks.length:Int))))) (M4 ((mn v0)==false) (ZM (λ(hg:((mn v0)==false)=true)=>(Ho (Bq hg y1))) (gI ((mn v0)==false)) (Ng (mn v0)) (M4 ((bs v0 x1)==false) (c7 (λ(hg:((bs v0 x1)==false)=true)=>(Cf (Bq hg y2))) (gI ((bs v0 x1)==false)) (Ng (bs v0 x1)) (gI ((bif (bs v0 x1) then true else(!x2))==false)) (λ(hg:((bif (bs v0 x1) then true else(!x2))==false)=true)=>(Zr (Bq hg y3))) (gI ((bif (bs v0 x1) then true else(!x2))==false)) (Ng (bif (bs v0 x1) then true else(!x2))))))))))) (gC h (λh=>Af q [2] [] (tS h (Cc []))) λh=>Af q L7 [1] (tL q h L7 [1] (λu i4=>(Cl u [(3,(Z5 i4))] [])) (λu x_=>match x_ with|(.inl _)=>aG Γ (.exit 0) (⟨[],[],[]⟩:St)|(.inr r_)=>aR (Oq Γ v0 r_)) (λi4 y h=>Af q [1,3,46] [1] (gC h (λh=>tV q J8 P7 h λh=>Af q L6 P7 (tL q h L6 P7 (λu i6=>(Cl u [(5,(Z5 i6))] [])) (λu x_=>match x_ with|(.inl _)=>aG Γ (.exit 2) (Ni J8 P7 u [] [])|(.inr r_)=>aR (Oq Γ v0 r_)) (λi6 y h=>Af q [1,3,4,5,58] P7 (gC h (λh=>tV q So [1,4,6] h λh=>tB h λx8 y8 h=>tB h λx9 y9 h=>tB h λx10 y10 h=>tB h λx11 y11 h=>tT q [1,3,4,5,87] P7 [(Z2 x8),(Z2 x9),(Z2 x10),(Z2 x11)] (ci (Cf y8) (M4 ((!x8)==false) (ZM (λ(hg:((!x8)==false)=true)=>(Cf (Bq hg y9))) (gI ((!x8)==false)) (Ng (!x8)) (M4 ((br x8 x9)==false) (ZM (λ(hg:((br x8 x9)==false)=true)=>(Ho (Bq hg y10))) (gI ((br x8 x9)==false)) (Ng (br x8 x9)) (M4 ((bif (br x8 x9) then true else(!x10))==false) (c3 (λ(hg:((bif (br x8 x9) then true else(!x10))==false)=true)=>(Ho (Bq hg y11))) (gI ((bif (br x8 x9) then true else(!x10))==false)) (Ng (bif (br x8 x9) then true else(!x10)))))))))) (gC h (λh=>Af q [2] [] (tS h (gO (Lm (H6 [] (Le.refl _ _)))))) λh=>Af q L6 P7 (tN h))) λh=>tS h (gO (Bd (Bi J8 P7 q))))) λx12 h=>(match x12,h with | .inl _,h=>gA (Af q [1,3,4,7] P7 (tL q h [1,3,4,7] P7 (λu i14=>(Cl u [(7,(Z5 i14))] [])) (λu x_=>match x_ with|(.inl _)=>aG Γ (.exit 4) (Ni J8 P7 u [] [])|(.inr r_)=>aR (Oq Γ v0 r_)) (λi14 y h=>Af q [1,3,4,7,92] P7 (gC h (λh=>tV q [1,3,4,7,8] [1,4,8] h λh=>tB h λx16 y16 h=>tB h λx17 y17 h=>tB h λx18 y18 h=>tB h λx19 y19 h=>tB h λx20 y20 h=>tT q [1,3,4,7,127] P7 [(Z2 x16),(Z2 x17),(Z2 x18),(Z2 x19),(Z2 x20)] (ci (Cf y16) (M4 ((!x16)==false) (ZM (λ(hg:((!x16)==false)=true)=>(Cf (Bq hg y17))) (gI ((!x16)==false)) (Ng (!x16)) (M4 ((bif (!x16) then true else(!x17))==false) (ZM (λ(hg:((bif (!x16) then true else(!x17))==false)=true)=>(Cf (Bq hg y18))) (gI ((bif (!x16) then true else(!x17))==false)) (Ng (bif (!x16) then true else(!x17))) (M4 ((bq x16 x17 x18)==false) (ZM (λ(hg:((bq x16 x17 x18)==false)=true)=>(Cf (Bq hg y19))) (gI ((bq x16 x17 x18)==false)) (Ng (bq x16 x17 x18)) (M4 ((bif (bq x16 x17 x18) then true else(!x19))==false) (c3 (λ(hg:((bif (bq x16 x17 x18) then true else(!x19))==false)=true)=>(Ho (Bq hg y20))) (gI ((bif (bq x16 x17 x18) then true else(!x19))==false)) (Ng (bif (bq x16 x17 x18) then true else(!x19)))))))))))) (gC h (λh=>Af q [2] [] (tS h (gO (Lm (H6 [] (Le.refl _ _)))))) λh=>Af q [1,3,4,7] P7 (tN h))) λh=>tS h (gO (Bd (Bi J8 P7 q))))) λx21 h=>(match x21,h with | .inl _,h=>gA (tB h λx23 y23 h=>tB h λx24 y24 h=>tB h λx25 y25 h=>tT q [1,3,146] [1] [(Z2 x23),(Z2 x24),(Z2 x25)] (ci (Cf y23) (Vm ((!x23)==false) (ZM (λ(hg:((!x23)==false)=true)=>(Cf (Bq hg y24))) (gI ((!x23)==false)) (Ng (!x23)) (Vm (u9 x23 x24) (c3 (λ(hg:(u9 x23 x24)=true)=>(Ho (Bq hg y25))) (gI (u9 x23 x24)) (Ng (bif (!x23) then true else(!x24)))))))) (gC h (λh=>Af q [2] [] (tS h (gO (Lm (H6 [] (Le.refl _ _)))))) λh=>Af q L7 [1] (tN h))) | .inr r26,h=>O3 (λst' hk=>tS h (gO (Lm hk)))))) | .inr r27,h=>O3 (λst' hk=>tS h (gO (Lm hk)))))) λh=>tS h (gO (Bd (Bi [] [] q))))) λx28 h=>(match x28,h with | .inl _,h=>gA (Af q [2] [] (tS h (Cc []))) | .inr r30,h=>O3 (λst' hk=>tS h (gK hk))))))
def G1(aQ:Ar)(aC:Int):Int->Option (LR Int (Unit ⊕ Bool)):=
 λ(i1:Int)=>(bif (decide (i1<(aQ.length:Int))) then(A0 (A1 i1 aQ.length) (bif ((aQ.getD i1.toNat 0)==aC) then(some (.done (.inr true))) else(some (.next (w64 (i1+1)))))) else(some (.done (.inl ()))))
def DY(Γ:H5)(aQ:Ar)(aC:Int)(r:Bool):Exit->St->Prop:=fK Tryz.prog Γ Tryz.f32.results.toList [] (.bool r) []
def Cj(aQ:Ar)(aC:Int):Option Bool:=
 ((Ac (G1 aQ aC) (0:Int)).bind (λx3=>(match x3 with|(.inl _)=>(some false)|(.inr r5)=>(some r5))))
variable{v1:Int}{v2:Ar}
theorem H3(h:Cj v2 v1=some v3):sP 32 [(Z6 v2),(Z5 v1)] [] (.bool v3) []:=
 sG Tryz.func32 λΓ q=>tW q Gn [] Nd [] (tL q h Nd [] (λu i1=>(Cl u [(5,(Z5 i1))] [])) (λu x_=>match x_ with|(.inl _)=>aG Γ (.exit 0) (⟨[],[],[]⟩:St)|(.inr r_)=>aR (DY Γ v2 v1 r_)) (λi1 y h=>Af q [0,1,5,9] [] (gC h (λh=>tV q [0,1,5,17] [] h λh=>gC h (λh=>Af q [4] [] (tS h (gO (Lm (H6 [] (Le.refl _ _)))))) λh=>Af q Nd [] (tN h)) λh=>tS h (gO (Bd (Bi [] [] q))))) λx3 h=>(match x3,h with | .inl _,h=>gA (Af q [4] [] (tS h (Cc []))) | .inr r5,h=>O3 (λst' hk=>tS h (gK hk))))
abbrev wy:=(LR Int (Unit ⊕ (TGraph×Int)))
def Eh(a6:Lj)(i1:Int):Int->Option wy:=
 λ(i2:Int)=>(A0 (A1 i1 a6.length) (bif (decide (i2<((a6.getD i1.toNat []).length:Int))) then(A0 (A1 i1 a6.length) (A0 (A1 i2 (a6.getD i1.toNat []).length) (A0 (((decide (((a6.getD i1.toNat []).getD i2.toNat 0)<0))==false)=true->(A1 i1 a6.length)) (A0 (((decide (((a6.getD i1.toNat []).getD i2.toNat 0)<0))==false)=true->(A1 i2 (a6.getD i1.toNat []).length)) (A0 ((((bif (decide (((a6.getD i1.toNat []).getD i2.toNat 0)<0)) then true else(decide ((a6.length:Int)<=((a6.getD i1.toNat []).getD i2.toNat 0))))==false)&&((decide ((0:Int)<i2))==true))=true->(A1 i1 a6.length)) (A0 ((((bif (decide (((a6.getD i1.toNat []).getD i2.toNat 0)<0)) then true else(decide ((a6.length:Int)<=((a6.getD i1.toNat []).getD i2.toNat 0))))==false)&&((decide ((0:Int)<i2))==true))=true->(A1 i2 (a6.getD i1.toNat []).length)) (A0 ((((bif (decide (((a6.getD i1.toNat []).getD i2.toNat 0)<0)) then true else(decide ((a6.length:Int)<=((a6.getD i1.toNat []).getD i2.toNat 0))))==false)&&((decide ((0:Int)<i2))==true))=true->(A1 i1 a6.length)) (A0 ((((bif (decide (((a6.getD i1.toNat []).getD i2.toNat 0)<0)) then true else(decide ((a6.length:Int)<=((a6.getD i1.toNat []).getD i2.toNat 0))))==false)&&((decide ((0:Int)<i2))==true))=true->(A1 (w64 (i2-1)) (a6.getD i1.toNat []).length)) (bif (bif (bif (decide (((a6.getD i1.toNat []).getD i2.toNat 0)<0)) then true else(decide ((a6.length:Int)<=((a6.getD i1.toNat []).getD i2.toNat 0)))) then true else(bif (decide ((0:Int)<i2)) then(decide (((a6.getD i1.toNat []).getD i2.toNat 0)<=((a6.getD i1.toNat []).getD (w64 (i2-1)).toNat (0:Int)))) else false)) then(some (.done (.inr ((⟨([]:Lj),([]:Lj)⟩:TGraph),(5:Int))))) else(some (.next (w64 (i2+1))))))))))))) else(some (.done (.inl ())))))
def Gd(a6:Lj):Int->Option wy:=
 λ(i1:Int)=>(bif (decide (i1<(a6.length:Int))) then((Ac (Eh a6 i1) (0:Int)).bind (λx12=>(match x12 with|(.inl _)=>(some (.next (w64 (i1+1))))|(.inr r14)=>(some (.done (.inr r14)))))) else(some (.done (.inl ()))))
def Ii(a6:Lj)(i18:Int):rJ->Option yT6:=
 λ((i21,l22):rJ)=>(bif (decide (i21<(a6.length:Int))) then(Option.bind (α:=Lj) (A0 (A1 i21 a6.length) ((Cj (a6.getD i21.toNat []) i18).bind λx26=>(bif x26 then(A0 (A1 i18 l22.length) (A0 (A1 i18 l22.length) (A0 ((l22.getD i18.toNat []).length+([i21]:Ar).length<=room) (A0 (A1 i18 l22.length) (some (l22.set i18.toNat ((l22.getD i18.toNat [])++([i21]:Ar)))))))) else(some l22)))) (λx31=>(some (.next ((w64 (i21+1)),x31))))) else(some (.done l22)))
def Ei(a6:Lj):rJ->Option yT6:=
 λ((i18,l19):rJ)=>(bif (decide (i18<(a6.length:Int))) then((Ac (Ii a6 i18) ((0:Int),l19)).bind (λx33=>(some (.next ((w64 (i18+1)),x33))))) else(some (.done l19)))
def R6(Γ:H5)(a6:Lj)(r:kB):Exit->St->Prop:=fK Tryz.prog Γ Tryz.f67.results.toList [] (.tuple (sH r.1 r.2)) []
def Wc(a6:Lj):AV:=(NM a6)
def rQ(a6:Lj):AV:=(.int .i64 (a6.length:Int))
def rP(a6:Lj)(i1:Int)(i2:Int):=((bif (decide (((a6.getD i1.toNat []).getD i2.toNat 0)<0)) then true else(decide ((a6.length:Int)<=((a6.getD i1.toNat []).getD i2.toNat 0))))==false)
def Aac(i2:Int):=((decide ((0:Int)<i2))==true)
def kR(a6:Lj)(i1:Int)(i2:Int):=((rP a6 i1 i2)&&(Aac i2))
def kQ:List MK:=[Uk,(3,(.int .i64 (5:Int)))]
def YW(l22:Lj)(i18:Int)(i21:Int):=((l22.getD i18.toNat [])++([i21]:Ar))
def xO:AV:=z6
def er(a6:Lj):=(List.replicate (a6.length:Int).toNat ([]:Ar))
def MX:List AV:=[Z0,Z0]
def rS(a6:Lj):List MK:=[(0,(Wc a6)),Uk,(4,(rQ a6)),(7,(.ptr 7 0))]
def vA(a6:Lj)(i1:Int)(i2:Int):=((decide (((a6.getD i1.toNat []).getD i2.toNat 0)<0))==false)
def bt:List AV:=[xD,xD]
def rR(a6:Lj)(i18:Int)(i21:Int):List MK:=[(0,(Wc a6)),Uk,(4,(rQ a6)),(7,(.ptr 7 0)),(8,(Z5 i18)),(9,(Z5 i21))]
def H2(a6:Lj):Option kB:=
 (bif (bif ((a6.length:Int)==0) then true else(decide ((64:Int)<(a6.length:Int)))) then(some ((⟨([]:Lj),([]:Lj)⟩:TGraph),(5:Int))) else((Ac (Gd a6) (0:Int)).bind (λx15=>(match x15 with|(.inl _)=>(A0 (0<=(a6.length:Int)/\(a6.length:Int)<=(a6.length:Int)/\(a6.length:Int)<=(room:Int)) ((Ac (Ei a6) ((0:Int),(List.replicate (a6.length:Int).toNat ([]:Ar)))).bind (λx35=>(some ((⟨a6,x35⟩:TGraph),(0:Int))))))|(.inr r37)=>(some r37)))))
variable{v14:Lj}{v16:kB}
theorem Rg(h:H2 v14=some v16):sP 67 [(NM v14)] [] (.tuple (sH v16.1 v16.2)) []:=
 sG Tryz.func67 λΓ q=>have hΓ:=q.own;tW q [0,2] [2] [0,2,4] [2] (tU q [0,2,4,17] [2] (c2 (gI (((v14.length:Int)==0)==false)) (Ng ((v14.length:Int)==0))) (gC h (λh=>gR q E0 [2] [(18,(.agg bt))] [] (c1 (show(AVle (.agg MX) (.agg bt)) from(AVle.agg (.cons El (.cons El .nil))))) (Qc (⟨kQ,[(Pu 56 bt)],[]⟩:St) (tS h (gK (e:=.ret) (H6 [] (show Le Γ _ (⟨kQ,[(mX xO)],[]⟩:St) from Le.trans (Bi (st':=⟨kQ,[(Pu 56 bt)],[]⟩) E0 [2] q) (I8 (.cons (AVle.refl _) (.cons (AVle.refl _) .nil)) (.row (.cons AVle.untag (.cons AVle.untag .nil)) .nil)))))))) λh=>Af q TO [2] (tL q h TO [2] (λu i1=>(Cl u [(5,(Z5 i1))] [])) (λu x_=>match x_ with|(.inl _)=>aG Γ (.exit 0) (Ni [0,2,4] [2] u [] [])|(.inr r_)=>aR (R6 Γ v14 r_)) (λi1 y h=>Af q [0,2,4,5,21] [2] (gC h (λh=>Af q iX [2] (tL q h iX [2] (λu i2=>(Cl u [(6,(Z5 i2))] [])) (λu x_=>match x_ with|(.inl _)=>aG Γ (.exit 2) (Ni TO [2] u [] [])|(.inr r_)=>aR (R6 Γ v14 r_)) (λi2 y h=>tV q [0,2,4,5,6,30] [2] h λh=>gC h (λh=>tC h λc4_ h=>tC h λc5_ h=>tC h λc6_ h=>tC h λc7_ h=>tC h λc8_ h=>tC h λc9_ h=>tC h λc10_ h=>tC h λc11_ h=>tU q [0,2,4,5,6,73] [2] (ed c4_ c5_ (M4 (vA v14 i1 i2) (ci c6_ (Vm (vA v14 i1 i2) (ci c7_ (Vm (vA v14 i1 i2) (ci (Ng (decide (((v14.getD i1.toNat []).getD i2.toNat 0)<0))) (M4 (rP v14 i1 i2) (M4 (kR v14 i1 i2) (ci c8_ (Vm (kR v14 i1 i2) (ci c9_ (Vm (kR v14 i1 i2) (ci c10_ (ZR (kR v14 i1 i2) (ci c11_ (Vm (kR v14 i1 i2) (c3 (gI (rP v14 i1 i2)) (show((rP v14 i1 i2)=true->((decide ((0:Int)<i2))=true->(kR v14 i1 i2)=true)) from(λhg=>(aT hg))) (Ng (bif (decide (((v14.getD i1.toNat []).getD i2.toNat 0)<0)) then true else(decide ((v14.length:Int)<=((v14.getD i1.toNat []).getD i2.toNat 0))))))))))))))))))))))) (gC h (λh=>gR q E0 [2] [(74,(.agg bt))] [] (c1 (show(AVle (.agg MX) (.agg bt)) from(AVle.agg (.cons El (.cons El .nil))))) (Qc (⟨kQ,[(Pu 56 bt)],[]⟩:St) (tS h (gO (Lm (H6 [] (show Le Γ _ (⟨kQ,[(mX xO)],[]⟩:St) from Le.trans (Bi (st':=⟨kQ,[(Pu 56 bt)],[]⟩) E0 [2] q) (I8 (.cons (AVle.refl _) (.cons (AVle.refl _) .nil)) (.row (.cons AVle.untag (.cons AVle.untag .nil)) .nil))))))))) λh=>Af q iX [2] (tN h))) λh=>tS h (gO (Bd (Bi TO [2] q)))) λx12 h=>(match x12,h with | .inl _,h=>gA (Af q TO [2] (tN h)) | .inr r14,h=>O3 (λst' hk=>tS h (gO (Lm hk)))))) λh=>tS h (gO (Bd (Bi [0,2,4] [2] q))))) λx15 h=>(match x15,h with | .inl _,h=>gA (tV q [0,2,4,7] [2,7,77] h λh=>Qc (⟨(rS v14),[(Pu 56 MX),(7,.row 56 [(Wc v14),(.vsl 77 (v14.length:Int).toNat)]),(77,.arr 1 22 ((v14.length:Int).toNat) (λi_=>AV.eraseAll (λn_=>Bw n_ [2,7,77]) ((λ_=>[Z0]) i_)))],[]⟩:St) (gLe (Le.trans (I8 (st':=⟨(rS v14),[(Pu 56 MX),(7,.row 56 [(Wc v14),(.vsl 77 (v14.length:Int).toNat)]),(77,.arr 1 22 ((v14.length:Int).toNat) (Ow 1 Ap (0:Int) (er v14) (λ_=>.exact)))],[]⟩) (TmpsLe.refl _) (.same (.same (.arr cf .nil)))) (Le.trans (Le.trans (cu (r:=77) (b:=70077) Ap (0:Int) (er v14) 3 rfl rfl (N9 ..).symm (λh_=>absurd h_ (by decide))) (Gt (st':=⟨(rS v14),[(Pu 56 MX),(7,.row 56 [(Wc v14),(.vsl 77 (v14.length:Int).toNat)]),(77,.arr 1 22 ((v14.length:Int).toNat) (Ow 1 Ap (0:Int) (er v14) (Tag.fam 70077)))],[(70077,⟨1,3,Nm (er v14)⟩)]⟩) (by kernel_rfl))) (Gt (Bg (λk_:Nat=>(⟨(rS v14),[(Pu 56 MX),(nQ (Wc v14) k_),(cB 77 k_ (er v14) 70077)],[(70077,⟨1,3,Nm (er v14)⟩)]⟩:St)) (show(v14.length:Int).toNat=(er v14).length from(N9 ..).symm))))) (Af q TE Vh (tL q h TE Vh (λu (i18,l19)=>(Cl u [(8,(Z5 i18))] [(nQ (Wc v14) l19.length),(cB 77 l19.length l19 70077)] [(70077,⟨1,3,Nm l19⟩)])) (λu l20=>aG Γ (.exit 4) (Ni [2,7] Vh u [] [(nQ (Wc v14) l20.length),(cB 77 l20.length l20 70077)] [(70077,⟨1,3,Nm l20⟩)])) (λ⟨i18,l19⟩ y h=>Af q [0,2,4,7,8,81] Vh (gC h (λh=>Af q SV Vh (tL q h SV Vh (λu (i21,l22)=>(Cl u [(9,(Z5 i21))] [(nQ (Wc v14) l22.length),(cB 77 l22.length l22 70077)] [(70077,⟨1,3,Nm l22⟩)])) (λu l23=>aG Γ (.exit 6) (Ni TE Vh u [] [(nQ (Wc v14) l23.length),(cB 77 l23.length l23 70077)] [(70077,⟨1,3,Nm l23⟩)])) (λ⟨i21,l22⟩ y h=>Af q [0,2,4,7,8,9,86] Vh (gC h (λh=>tB h λx31 y31 h=>gJ y31 (λl24=>aG Γ .normal (⟨(rR v14 i18 i21),[(Pu 56 MX),(nQ (Wc v14) l24.length),(cB 77 l24.length l24 70077)],[(70077,⟨1,3,Nm l24⟩)]⟩:St)) (λy h=>tC h λc25_ h=>tB h λx26 y26 h=>tT q [0,2,4,7,8,9,94] Vh [(Z2 x26)] (c2 c25_ (H3 y26)) (gC h (λh=>Qc (⟨[(0,(Wc v14)),Uk,(4,(rQ v14)),(7,(.ptr 7 0)),(8,(Z5 i18)),(9,(Z5 i21)),(94,(.bool x26))],[(Pu 56 MX),(nQ (Wc v14) l22.length),(cB 77 l22.length l22 70077)],[(70077,⟨1,3,Nm l22⟩)]⟩:St) (tC h λc27_ h=>tC h λc28_ h=>tC h λc29_ h=>tC h λc30_ h=>gLe (Le.trans (jY (r:=77) (b:=70077) (k:=60077) Ap (0:Int) l22 i18.toNat 3 rfl rfl rfl rfl (Qm c27_) (by kernel_rfl) (.row (by kernel_rfl) (.row (by kernel_rfl) (.here .nil)))) (Gt (st':=⟨[(0,(Wc v14)),Uk,(4,(rQ v14)),(7,(.ptr 7 0)),(8,(Z5 i18)),(9,(Z5 i21)),(94,(.bool x26))],[(Pu 56 MX),(nQ (Wc v14) l22.length),(77,.arr 1 22 l22.length (Ow 1 Ap (0:Int) l22 (Hq 70077 i18.toNat 60077))),(60077,.tok 1 3 ((l22.getD i18.toNat []).length))],[(70077,⟨1,3,AY l22 i18.toNat⟩)]⟩) (by kernel_rfl))) (gR q SV qr [(102,(AV.list 1 Ap 0 (l22.getD i18.toNat []) (.own 60077))),(104,(ub i21)),(105,(V8 (YW l22 i18 i21) 60077))] [] (d9_ c28_ (Eq.refl l22.length) (show(AVle (((Ow 1 Ap (0:Int) l22 (Hq 70077 i18.toNat 60077)) i18.toNat).getD 0 .any) (AV.list 1 Ap 0 (l22.getD i18.toNat []) (.own 60077))) from VZ) (Bp 1 Ap (0:Int) ([i21]:Ar)) (Eq.refl ((l22.getD i18.toNat []).length)) c29_ (Iz 1 60077 Ap (0:Int) (l22.getD i18.toNat []) ([i21]:Ar)) (E3 (l22.getD i18.toNat []) ([i21]:Ar)) c30_ (c1 (Eq.refl l22.length))) (Qc (⟨(rR v14 i18 i21),[(Pu 56 MX),(nQ (Wc v14) l22.length),(77,.arr 1 22 l22.length (λi_=>AV.eraseAll (λn_=>Bw n_ qr) ((Fc (Ow 1 Ap (0:Int) l22 (Hq 70077 i18.toNat 60077)) i18.toNat 0 [(V8 (YW l22 i18 i21) 60077)]) i_))),(60077,.tok 1 3 ((YW l22 i18 i21).length))],[(70077,⟨1,3,AY l22 i18.toNat⟩)]⟩:St) (tS h (gK (Bd (Le.trans (Le.trans (Le.trans (o9 (r:=77) (b:=70077) (k:=60077) Ap (0:Int) l22 i18.toNat (YW l22 i18 i21) 3 rfl (dn (Qm c27_) rfl rfl) rfl rfl rfl rfl (Qm c27_) (by kernel_rfl) (.row (by kernel_rfl) (.row (by kernel_rfl) (.here (.tok .nil)))) (by rw[hΓ];rfl)) (Gt (st':=⟨(rR v14 i18 i21),[(Pu 56 MX),(nQ (Wc v14) l22.length),(77,.arr 1 22 l22.length (Ow 1 Ap (0:Int) (l22.set i18.toNat (YW l22 i18 i21)) (Tag.fam 70077)))],[(70077,⟨1,3,Nm (l22.set i18.toNat (YW l22 i18 i21))⟩)]⟩) (by kernel_rfl))) (Gt (Bg (λk_:Nat=>(⟨(rR v14 i18 i21),[(Pu 56 MX),(nQ (Wc v14) k_),(77,.arr 1 22 k_ (Ow 1 Ap (0:Int) (l22.set i18.toNat (YW l22 i18 i21)) (Tag.fam 70077)))],[(70077,⟨1,3,Nm (l22.set i18.toNat (YW l22 i18 i21))⟩)]⟩:St)) (show l22.length=(l22.set i18.toNat (YW l22 i18 i21)).length from(C8 ..).symm)))) Iq)))))))) λh=>tS h (gK (Bd (Bi SV Vh q))))) (gA (Af q SV Vh (tN h)))) λh=>tS h (gO (Bd (Bi TE Vh q))))) λx33 h=>gA (Af q TE Vh (tN h)))) λh=>tS h (gO (Bd (Bi [2,7] Vh q))))) λx35 h=>gA (Af q E0 [2,77,70077] (Qc (⟨[Uk,(3,L9)],[(2,.row 56 [(Wc v14),(.vsl 77 x35.length)]),(cB 77 x35.length x35 70077)],[(70077,⟨1,3,Nm x35⟩)]⟩:St) (tS h (gK (e:=.ret) (H6 [] (Le.trans (le_freeze (nm:=77) (sz:=1) (n:=x35.length) (e:=22) (f:=(Ow 1 Ap (0:Int) x35 (Tag.fam 70077))) (g:=(λi=>Lh (x35.getD i []))) rfl ⟨rfl,trivial⟩ (λ_ _=>rfl) (by rw[hΓ];rfl)) (Bi (st':=⟨[Uk,(3,L9)],[(2,.row 56 [(Wc v14),(rD x35 77)]),(77,.tok 1 22 x35.length)],[]⟩) E0 [2,77] q))))))))))) | .inr r37,h=>O3 (λst' hk=>tS h (gK hk))))))
def Fj(a0:TFunc)(i2:Int):Int->Option wy:=
 λ(i6:Int)=>(bif (decide (i6<(((a0.Blocks.getD i2.toNat default).End.To).length:Int))) then(A0 (A1 i6 ((a0.Blocks.getD i2.toNat default).End.To).length) (A0 (((decide ((((a0.Blocks.getD i2.toNat default).End.To).getD i6.toNat 0)<=0))==false)=true->(A1 i6 ((a0.Blocks.getD i2.toNat default).End.To).length)) (bif (bif (decide ((((a0.Blocks.getD i2.toNat default).End.To).getD i6.toNat 0)<=0)) then true else(decide ((a0.Blocks.length:Int)<=(((a0.Blocks.getD i2.toNat default).End.To).getD i6.toNat 0)))) then(some (.done (.inr ((⟨([]:Lj),([]:Lj)⟩:TGraph),(5:Int))))) else(some (.next (w64 (i6+1))))))) else(some (.done (.inl ()))))
abbrev uP:=(Ar×Int)
def Hm(a0:TFunc)(i2:Int):uP->Option (LR (Ar×Int) Ar):=
 λ((l11,i12):uP)=>(bif (decide (i12<(a0.Blocks.length:Int))) then(Option.bind (α:=Ar) ((Cj ((a0.Blocks.getD i2.toNat default).End.To) i12).bind λx15=>(bif x15 then(A0 (l11.length+([i12]:Ar).length<=room) (some (l11++([i12]:Ar)))) else(some l11))) (λx17=>(some (.next (x17,(w64 (i12+1))))))) else(some (.done l11)))
def Ch(a0:TFunc):(Lj×Int)->Option (LR (Lj×Int) (Lj ⊕ (TGraph×Int))):=
 λ((l1,i2):(Lj×Int))=>(bif (decide (i2<(a0.Blocks.length:Int))) then(A0 (A1 i2 a0.Blocks.length) (A0 (((bif (decide (((a0.Blocks.getD i2.toNat default).End.Kind:Int)<0)) then true else(decide ((3:Int)<(a0.Blocks.getD i2.toNat default).End.Kind)))==false)=true->(A1 (a0.Blocks.getD i2.toNat default).End.Kind ([(0:Int),(1:Int),(2:Int),(0:Int)]:Ar).length)) (bif (bif (bif (decide (((a0.Blocks.getD i2.toNat default).End.Kind:Int)<0)) then true else(decide ((3:Int)<(a0.Blocks.getD i2.toNat default).End.Kind))) then true else((((a0.Blocks.getD i2.toNat default).End.To).length:Int)!=(([(0:Int),(1:Int),(2:Int),(0:Int)]:Ar).getD ((a0.Blocks.getD i2.toNat default).End.Kind).toNat (0:Int)))) then(some (.done (.inr ((⟨([]:Lj),([]:Lj)⟩:TGraph),(5:Int))))) else((Ac (Fj a0 i2) (0:Int)).bind (λx9=>(match x9 with|(.inl _)=>((Ac (Hm a0 i2) (([]:Ar),(1:Int))).bind (λx19=>(A0 (l1.length+([x19]:Lj).length<=room) (some (.next ((l1++([x19]:Lj)),(w64 (i2+1))))))))|(.inr r22)=>(some (.done (.inr r22))))))))) else(some (.done (.inl l1))))
def Tq(Γ:H5)(a0:TFunc)(r:kB):Exit->St->Prop:=fK Tryz.prog Γ Tryz.f31.results.toList [] (.tuple (sH r.1 r.2)) []
def e7:AV:=Z0
def GL(a0:TFunc)(i2:Int):=(a0.Blocks.getD i2.toNat default)
def FE:AV:=xD
def vD:AV:=(.agg [e7,e7])
def kS:=(⟨[Uk,(3,(.int .i64 (5:Int)))],[(mX FE)],[]⟩:St)
def vB(a0:TFunc)(i2:Int)(i6:Int):=(decide ((((GL a0 i2).End.To).getD i6.toNat 0)<=0))
def mr(a0:TFunc):List AV:=[(Z6 a0.Params),(Z5 a0.Ret),(UF a0.Blocks)]
def vC:=(⟨[Uk,(3,(.int .i64 (5:Int)))],[(2,.row 56 [z6,z6])],[]⟩:St)
def mq(a0:TFunc)(i2:Int):=(bif (decide (((GL a0 i2).End.Kind:Int)<0)) then true else(decide ((3:Int)<(GL a0 i2).End.Kind)))
def xQ(a0:TFunc):=(⟨[CT,Uk,(4,(.int .i64 (a0.Blocks.length:Int))),(5,(AV.list 1 Lh [] ([]:Lj) (.own 5005))),(6,L9)],[(1,.row 25 (mr a0)),(mX e7),(5005,.tok 1 22 (([]:Lj).length))],[]⟩:St)
def xP(a0:TFunc)(l1:Lj)(i2:Int):=(⟨[CT,Uk,(4,(.int .i64 (a0.Blocks.length:Int))),(5,(rD l1 5005)),(6,(Z5 i2)),(7,(.ptr 7 0)),(8,(Z95 5008)),(10,ue)],[(1,.row 25 (mr a0)),(mX e7),(7,.row 62 [(.int .i64 (GL a0 i2).End.Kind),(.int .i64 (GL a0 i2).End.Arg),(AV.list 1 Ap 0 (GL a0 i2).End.To .none)]),(5005,.tok 1 22 l1.length),(5008,.tok 1 3 (([]:Ar).length))],[]⟩:St)
def Hs(a0:TFunc):Option kB:=
 (bif (bif ((a0.Blocks.length:Int)==0) then true else(decide ((64:Int)<(a0.Blocks.length:Int)))) then(some ((⟨([]:Lj),([]:Lj)⟩:TGraph),(5:Int))) else((Ac (Ch a0) (([]:Lj),(0:Int))).bind (λx23=>(match x23 with|(.inl l3)=>((H2 l3).bind λx25=>(some (x25.1,x25.2)))|(.inr r26)=>(some r26)))))
theorem Ot(h:Hs v0=some v16):sP 31 [(W9 v0)] [] (.tuple (sH v16.1 v16.2)) []:=
 sG Tryz.func31 λΓ q=>tW q Ee Ee [1,2,4] Ee (tU q [1,2,4,19] Ee (c2 (gI (((v0.Blocks.length:Int)==0)==false)) (Ng ((v0.Blocks.length:Int)==0))) (gC h (λh=>gR q E0 [2] [(20,(.agg [FE,FE]))] [] (c1 (show(AVle vD (.agg [FE,FE])) from(AVle.agg (.cons El (.cons El .nil))))) (Qc kS (tS h (gK (e:=.ret) (H6 [] (show Le Γ _ vC from Le.trans (Bi (st':=kS) E0 [2] q) (I8 (.cons (AVle.refl _) (.cons (AVle.refl _) .nil)) (.row (.cons AVle.untag (.cons AVle.untag .nil)) .nil)))))))) λh=>gR q [1,2,4,5] Ee [(5,FE)] [] (c1 (B0 1 Lh [])) (Af q KO Ee (gLe (st':=(xQ v0)) (Le.trans (Bi (st':=⟨[CT,Uk,(4,(.int .i64 (v0.Blocks.length:Int))),(5,FE),(6,L9)],[(1,.row 25 (mr v0)),(mX e7)],[]⟩) KO Ee q) (Le.trans (Rm (t:=5) (nm:=5005) (sz':=1) (λi=>Lh (([]:Lj).getD i [])) 22 rfl rfl (.inl ⟨rfl,rfl⟩) (λh_=>absurd h_ (by decide))) (Bi (st':=(xQ v0)) KO TP q))) (tL q h KO TP (λu (l1,i2)=>(Cl u [(5,(rD l1 5005)),(6,(Z5 i2))] [(5005,.tok 1 22 l1.length)])) (λu x_=>match x_ with|(.inl l3)=>aG Γ (.exit 0) (Ni V6 [2,5005] u [(5,(rD l3 5005))] [(5005,.tok 1 22 l3.length)])|(.inr r_)=>aR (Tq Γ v0 r_)) (λ⟨l1,i2⟩ y h=>Af q [1,2,4,5,6,23] TP (gC h (λh=>tV q [1,2,4,5,6,7] Zd h λh=>tC h λc5_ h=>gR q [1,2,4,5,6,7,50] Zd [(44,(AV.list 1 Ap 0 ([(0:Int),(1:Int),(2:Int),(0:Int)]:Ar) .exact))] [] (M4 ((decide (((GL v0 i2).End.Kind:Int)<0))==false) (ci (Ng (decide (((GL v0 i2).End.Kind:Int)<0))) (M4 ((mq v0 i2)==false) (ci (show(((mq v0 i2)==false)=true->(AVle (.slice 1 4 (λi=>([[L9],[ue],[(.int .i64 (2:Int))],[L9]]:List (List AV)).getD i []) .exact) (AV.list 1 Ap 0 ([(0:Int),(1:Int),(2:Int),(0:Int)]:Ar) .exact))) from(λhg=>@(Bp 1 Ap (0:Int) ([(0:Int),(1:Int),(2:Int),(0:Int)]:Ar)))) (Vm ((mq v0 i2)==false) (ci c5_ (Vm ((mq v0 i2)==false) (c1 (Ng (mq v0 i2)))))))))) (gC h (λh=>gR q E0 [2] [(51,(.agg [FE,FE]))] [] (c1 (show(AVle vD (.agg [FE,FE])) from(AVle.agg (.cons El (.cons El .nil))))) (Qc kS (tS h (gO (Lm (H6 [] (show Le Γ _ vC from Le.trans (Bi (st':=kS) E0 [2] q) (I8 (.cons (AVle.refl _) (.cons (AVle.refl _) .nil)) (.row (.cons AVle.untag (.cons AVle.untag .nil)) .nil))))))))) λh=>gR q iH Zd [(8,fG)] [] (c1 (B0 1 Ap (0:Int))) (Af q iD Zd (tL q h iD Zd (λu i6=>(Cl u [(9,(Z5 i6))] [])) (λu x_=>match x_ with|(.inl _)=>aG Γ (.exit 2) (Ni iH Zd u [] [])|(.inr r_)=>aR (Tq Γ v0 r_)) (λi6 y h=>Af q [1,2,4,5,6,7,8,9,56] Zd (gC h (λh=>tC h λc7_ h=>tC h λc8_ h=>tU q [1,2,4,5,6,7,8,9,73] Zd (ci c7_ (Vm ((vB v0 i2 i6)==false) (ci c8_ (Vm ((vB v0 i2 i6)==false) (c1 (Ng (vB v0 i2 i6))))))) (gC h (λh=>gR q E0 [2] [(74,(.agg [FE,FE]))] [] (c1 (show(AVle vD (.agg [FE,FE])) from(AVle.agg (.cons El (.cons El .nil))))) (Qc kS (tS h (gO (Lm (H6 [] (show Le Γ _ vC from Le.trans (Bi (st':=kS) E0 [2] q) (I8 (.cons (AVle.refl _) (.cons (AVle.refl _) .nil)) (.row (.cons AVle.untag (.cons AVle.untag .nil)) .nil))))))))) λh=>Af q iD Zd (tN h))) λh=>tS h (gO (Bd (Bi iH Zd q))))) λx9 h=>(match x9,h with | .inl _,h=>gA (Af q TZ Zd (gLe (st':=(xP v0 l1 i2)) (Le.trans (Bi (st':=⟨[CT,Uk,(4,(.int .i64 (v0.Blocks.length:Int))),(5,(rD l1 5005)),(6,(Z5 i2)),(7,(.ptr 7 0)),(8,fG),(10,ue)],[(1,.row 25 (mr v0)),(mX e7),(7,.row 62 [(.int .i64 (GL v0 i2).End.Kind),(.int .i64 (GL v0 i2).End.Arg),(AV.list 1 Ap 0 (GL v0 i2).End.To .none)]),(5005,.tok 1 22 l1.length)],[]⟩) TZ Zd q) (Le.trans (Rm (t:=8) (nm:=5008) (sz':=1) (λi=>Ap (([]:Ar).getD i 0)) 3 rfl rfl (.inl ⟨rfl,rfl⟩) (λh_=>absurd h_ (by decide))) (Bi (st':=(xP v0 l1 i2)) TZ UA q))) (tL q h TZ UA (λu (l11,i12)=>(Cl u [(8,(V8 l11 5008)),(10,(Z5 i12))] [(Yt 5008 l11.length)])) (λu l13=>aG Γ (.exit 4) (Ni [1,2,4,5,6,8] [1,2,5005,5008] u [(8,(V8 l13 5008))] [(Yt 5008 l13.length)])) (λ⟨l11,i12⟩ y h=>Af q [1,2,4,5,6,7,8,10,77] UA (gC h (λh=>tB h λx17 y17 h=>gJ y17 (λl14=>aG Γ .normal (⟨[CT,Uk,(4,(.int .i64 (v0.Blocks.length:Int))),(5,(rD l1 5005)),(6,(Z5 i2)),(7,(.ptr 7 0)),(8,(V8 l14 5008)),(10,(Z5 i12))],[(1,.row 25 (mr v0)),(mX e7),(7,.row 62 [(.int .i64 (GL v0 i2).End.Kind),(.int .i64 (GL v0 i2).End.Arg),(AV.list 1 Ap 0 (GL v0 i2).End.To .none)]),(5005,.tok 1 22 l1.length),(Yt 5008 l14.length)],[]⟩:St)) (λy h=>tB h λx15 y15 h=>tT q [1,2,4,5,6,7,8,10,83] UA [(Z2 x15)] (c1 (H3 y15)) (gC h (λh=>tC h λc16_ h=>gR q TZ UA (vi 86 i12 87 l11 5008) [] (c5 (Bp 1 Ap (0:Int) ([i12]:Ar)) (Eq.refl l11.length) c16_ (Iz 1 5008 Ap (0:Int) l11 ([i12]:Ar)) (E3 l11 ([i12]:Ar))) (tS h (gK (Bd Iq)))) λh=>tS h (gK (Bd (Bi TZ UA q))))) (gA (Af q TZ UA (tN h)))) λh=>tS h (gO (Bd (Bi [1,2,4,5,6,8] [1,2,5005,5008] q))))) λx19 h=>gA (tC h λc21_ h=>gR q KO TP [(90,(AV.list 1 Lh [] ([x19]:Lj) .exact)),(91,(AV.list 1 Lh [] (l1++([x19]:Lj)) (.own 5005)))] [] (c5 (Bp 1 Lh [] ([x19]:Lj)) (Eq.refl l1.length) c21_ (Iz 1 5005 Lh [] l1 ([x19]:Lj)) (E3 l1 ([x19]:Lj))) (Af q KO TP (tN h)))))) | .inr r22,h=>O3 (λst' hk=>tS h (gO (Lm hk)))))))) λh=>tS h (gO (Bd (Bi V6 [2,5005] q))))) λx23 h=>(match x23,h with | .inl l3,h=>gA (tB h λx25 y25 h=>tT q E0 [2] [(vm x25.1 x25.2)] (c1 (Rg y25)) (tS h (Cc []))) | .inr r26,h=>O3 (λst' hk=>tS h (gK hk))))))))
def A2(a4:TGraph)(aaB:Int)(i6:Int):Zz->Option bN:=
 λ((i9,l10):Zz)=>(A0 (A1 i6 l10.length) (A0 (((l10.getD i6.toNat false)==true)=true->(A1 i6 a4.Succ.length)) (bif (bif (l10.getD i6.toNat false) then(decide (i9<((a4.Succ.getD i6.toNat []).length:Int))) else false) then(Option.bind (α:=List Bool) (A0 (A1 i6 a4.Succ.length) (A0 (A1 i9 (a4.Succ.getD i6.toNat []).length) (bif (((a4.Succ.getD i6.toNat []).getD i9.toNat 0)!=aaB) then(A0 (A1 i6 a4.Succ.length) (A0 (A1 i9 (a4.Succ.getD i6.toNat []).length) (A0 (A1 ((a4.Succ.getD i6.toNat []).getD i9.toNat 0) l10.length) (some (l10.set ((a4.Succ.getD i6.toNat []).getD i9.toNat 0).toNat true))))) else(some l10)))) (λx20=>(some (.next ((w64 (i9+1)),x20))))) else(some (.done l10)))))
def A3(a4:TGraph)(aaB:Int):Zz->Option bN:=
 λ((i6,l7):Zz)=>(bif (decide (i6<(l7.length:Int))) then((Ac (A2 a4 aaB i6) ((0:Int),l7)).bind (λx22=>(some (.next ((w64 (i6+1)),x22))))) else(some (.done l7)))
def A4(a4:TGraph)(aaB:Int):Zz->Option bN:=
 λ((i3,l4):Zz)=>(bif (decide (i3<(l4.length:Int))) then((Ac (A3 a4 aaB) ((0:Int),l4)).bind (λx24=>(some (.next ((w64 (i3+1)),x24))))) else(some (.done l4)))
def xS(l10:List Bool)(i6:Int):=((l10.getD i6.toNat false)==true)
def IQ(a4:TGraph):=(List.replicate (a4.Succ.length:Int).toNat false)
def kT(a4:TGraph):=(λi=>eB ((IQ a4).getD i false))
def rT(a4:TGraph)(i6:Int)(i9:Int):=((a4.Succ.getD i6.toNat []).getD i9.toNat 0)
def C7(a4:TGraph)(a2:Int)(aaB:Int):Option (List Bool):=
 (A0 (0<=(a4.Succ.length:Int)/\(a4.Succ.length:Int)<=(a4.Succ.length:Int)/\(a4.Succ.length:Int)<=(room:Int)) (bif (a2==aaB) then(some (List.replicate (a4.Succ.length:Int).toNat false)) else(A0 (A1 a2 (List.replicate (a4.Succ.length:Int).toNat false).length) ((Ac (A4 a4 aaB) ((0:Int),((List.replicate (a4.Succ.length:Int).toNat false).set a2.toNat true))).bind (λx26=>(some x26))))))
variable{v11:Int}{v18:TGraph}{v33:List Bool}
theorem Mi(h:C7 v18 v1 v11=some v33):sP 96 [(.agg (Us v18)),(Z5 v1),(Z5 v11)] [] (NL v33 20000) [(Q9 20000 v33.length)]:=
 sG Tryz.func96 λΓ q=>have hΓ:=q.own;gR q GF [3] [(6,(AV.list 1 eB false ([]:List Bool) .exact))] [] (c1 (B0 1 eB false)) (tV q [1,2,3,7] Lz h λh=>by exact gLe (Le.trans (Sr 14 (show ∀ k_,k_<((v18.Succ.length:Int).toNat)->AVleL ((λi_=>AV.eraseAll (λn_=>Bw n_ Lz) ((λ_=>[(.bool false)]) i_)) k_) ((kT v18) k_) from(λk hk=>M7 (e:=eB) (d:=false) (.cons (AVle.refl _) .nil) _ k (M8 hk)))) (Sa (λ(k_:Nat) u=>(Cl u [(Vl 14 k_)] [(14,.arr 1 4 k_ (kT v18))])) (show(v18.Succ.length:Int).toNat=(IQ v18).length from(N9 ..).symm))) (Af q [1,2,3,7,17] Lz (gC h (λh=>Af q [6] [14] (Qc (⟨[(6,(.vsl 14 (IQ v18).length))],[(14,.arr 1 4 ((IQ v18).length) (kT v18))],[]⟩:St) (tS h (gK (e:=.ret) (H6 [(14,20000)] (Le.trans (le_freeze (nm:=14) (sz:=1) (n:=((IQ v18).length)) (e:=4) (f:=(kT v18)) (g:=(kT v18)) rfl ⟨rfl,trivial⟩ (λ_ _=>rfl) (by rw[hΓ];rfl)) (Gt (st':=⟨[(6,(NL (IQ v18) 14))],[(14,.tok 1 4 ((IQ v18).length))],[]⟩) (by kernel_rfl)))))))) λh=>tC h λc2_ h=>tU q [2,3,7] Lz (c2 c2_ (Eq.refl ((IQ v18).length))) (gLe (Le.trans (Sr 14 (show ∀ k_,k_<((IQ v18).length)->AVleL ((λi_=>AV.eraseAll (λn_=>Bw n_ Lz) ((Fc (kT v18) v1.toNat 0 [(.bool true)]) i_)) k_) ((λi=>eB (((IQ v18).set v1.toNat true).getD i false)) k_) from(Bh (C8 ..).symm (λk_ hk_=>(Bg (AV.eraseAll (λn_=>Bw n_ Lz)) ((Fu (λ_ _=>rfl) (Hv c2_) rfl) k_ hk_)).trans rfl)))) (Sa (λ(k_:Nat) u=>(Cl u [(Vl 14 k_)] [(14,.arr 1 4 k_ (λi=>eB (((IQ v18).set v1.toNat true).getD i false)))])) (show(IQ v18).length=((IQ v18).set v1.toNat true).length from(C8 ..).symm))) (Af q TQ Lz (tL q h TQ Lz (λu (i3,l4)=>(Cl u [(Vl 14 l4.length),(8,(Z5 i3))] [(Z9 14 l4)])) (λu l5=>aG Γ (.exit 0) (⟨[(Vl 14 l5.length)],[(Z9 14 l5)],[]⟩:St)) (λ⟨i3,l4⟩ y h=>Af q [2,3,7,8,25] Lz (gC h (λh=>Af q TF Lz (tL q h TF Lz (λu (i6,l7)=>(Cl u [(Vl 14 l7.length),(9,(Z5 i6))] [(Z9 14 l7)])) (λu l8=>aG Γ (.exit 2) (Ni TQ Lz u [(Vl 14 l8.length)] [(Z9 14 l8)])) (λ⟨i6,l7⟩ y h=>Af q [2,3,7,8,9,31] Lz (gC h (λh=>Af q eW Lz (tL q h eW Lz (λu (i9,l10)=>(Cl u [(Vl 14 l10.length),(10,(Z5 i9))] [(Z9 14 l10)])) (λu l11=>aG Γ (.exit 4) (Ni TF Lz u [(Vl 14 l11.length)] [(Z9 14 l11)])) (λ⟨i9,l10⟩ y h=>tC h λc12_ h=>tC h λc13_ h=>tU q [2,3,7,8,9,10,47] Lz (ed c12_ (Eq.refl l10.length) (Vm (xS l10 i6) (ci c13_ (ZR (xS l10 i6) (c1 (Nh (l10.getD i6.toNat false))))))) (gC h (λh=>tB h λx20 y20 h=>gJ y20 (λl14=>aG Γ .normal (⟨[(2,(Z5 v11)),(3,(.ptr 3 0)),(Vl 14 l14.length),(8,(Z5 i3)),(9,(Z5 i6)),(10,(Z5 i9))],[(3,.row 56 [(NM v18.Succ),(NM v18.Pred)]),(Z9 14 l14)],[]⟩:St)) (λy h=>tC h λc15_ h=>tC h λc16_ h=>tU q [2,3,7,8,9,10,59] Lz (c2 c15_ c16_) (gC h (λh=>tC h λc17_ h=>tC h λc18_ h=>tC h λc19_ h=>tU q eW Lz (c4 c17_ c18_ c19_ (Eq.refl l10.length)) (tS h (gK (Bd (Le.trans (Le.trans (Sr 14 (show ∀ k_,k_<l10.length->AVleL ((λi_=>AV.eraseAll (λn_=>Bw n_ Lz) ((Fc (λi=>eB (l10.getD i false)) (rT v18 i6 i9).toNat 0 [(.bool true)]) i_)) k_) ((λi=>eB ((l10.set (rT v18 i6 i9).toNat true).getD i false)) k_) from(Bh (C8 ..).symm (λk_ hk_=>(Bg (AV.eraseAll (λn_=>Bw n_ Lz)) ((Fu (λ_ _=>rfl) (Hv c19_) rfl) k_ hk_)).trans rfl)))) (Sa (λ(k_:Nat) u=>(Cl u [(Vl 14 k_)] [(14,.arr 1 4 k_ (λi=>eB ((l10.set (rT v18 i6 i9).toNat true).getD i false)))])) (show l10.length=(l10.set (rT v18 i6 i9).toNat true).length from(C8 ..).symm))) Iq))))) λh=>tS h (gK (Bd (Bi eW Lz q))))) (gA (Af q eW Lz (tN h)))) λh=>tS h (gO (Bd (Bi TF Lz q))))) λx22 h=>gA (Af q TF Lz (tN h)))) λh=>tS h (gO (Bd (Bi TQ Lz q))))) λx24 h=>gA (Af q TQ Lz (tN h)))) λh=>tS h (gO (Bd (Bi [7] [14] q))))) λx26 h=>gA (Af q [6] [14] (Qc (⟨[(6,(.vsl 14 x26.length))],[(Z9 14 x26)],[]⟩:St) (tS h (gK (e:=.ret) (H6 [(14,20000)] (Le.trans (le_freeze (nm:=14) (sz:=1) (n:=x26.length) (e:=4) (f:=(λi=>eB (x26.getD i false))) (g:=(λi=>eB (x26.getD i false))) rfl ⟨rfl,trivial⟩ (λ_ _=>rfl) (by rw[hΓ];rfl)) (Gt (st':=⟨[(6,(NL x26 14))],[(Q9 14 x26.length)],[]⟩) (by kernel_rfl))))))))))))))
def Fn(a0:TFunc)(x1:kB)(i3:Int):Int->Option (LR Int (Unit ⊕ Bool)):=
 λ(i6:Int)=>(bif (decide (i6<(((a0.Blocks.getD i3.toNat default).Phis).length:Int))) then(A0 (A1 i6 ((a0.Blocks.getD i3.toNat default).Phis).length) (A0 (A1 i3 x1.1.Pred.length) ((Dp ((((a0.Blocks.getD i3.toNat default).Phis).getD i6.toNat default).From) (x1.1.Pred.getD i3.toNat [])).bind λx9=>(A0 (((!x9)==false)=true->(A1 i6 ((a0.Blocks.getD i3.toNat default).Phis).length)) (A0 (((!x9)==false)=true->(A1 i3 x1.1.Pred.length)) (bif (bif (!x9) then true else((((((a0.Blocks.getD i3.toNat default).Phis).getD i6.toNat default).Args).length:Int)!=((x1.1.Pred.getD i3.toNat []).length:Int))) then(some (.done (.inr false))) else(some (.next (w64 (i6+1)))))))))) else(some (.done (.inl ()))))
def Fo(a0:TFunc)(x1:kB)(x2:List Bool):Int->Option (LR Int (Unit ⊕ Bool)):=
 λ(i3:Int)=>(bif (decide (i3<(a0.Blocks.length:Int))) then(A0 (A1 i3 a0.Blocks.length) (A0 (A1 i3 x2.length) (bif (bif (!(x2.getD i3.toNat false)) then true else(bif (bif (((a0.Blocks.getD i3.toNat default).End.Kind:Int)==1) then true else(((a0.Blocks.getD i3.toNat default).End.Kind:Int)==3)) then(((a0.Blocks.getD i3.toNat default).End.Arg:Int)!=0) else false)) then(some (.done (.inr false))) else((Ac (Fn a0 x1 i3) (0:Int)).bind (λx12=>(match x12 with|(.inl _)=>(some (.next (w64 (i3+1))))|(.inr r14)=>(some (.done (.inr r14))))))))) else(some (.done (.inl ()))))
def Ra(Γ:H5)(a0:TFunc)(r:Bool):Exit->St->Prop:=fK Tryz.prog Γ Tryz.f52.results.toList [] (.bool r) []
def YX(x2:List Bool)(i3:Int):=((!(x2.getD i3.toNat false))==false)
def e8(a0:TFunc)(i3:Int):=((a0.Blocks.getD i3.toNat default).End.Kind:Int)
def xT(x2:List Bool)(i3:Int)(a0:TFunc):=((YX x2 i3)&&((bif ((e8 a0 i3)==1) then true else((e8 a0 i3)==3))==true))
def J0(a0:TFunc):Option Bool:=
 ((Hs a0).bind λx1=>(bif (x1.2 !=0) then(some false) else((C7 x1.1 (0:Int) (-1:Int)).bind λx2=>((Ac (Fo a0 x1 x2) (0:Int)).bind (λx15=>(match x15 with|(.inl _)=>(some true)|(.inr r17)=>(some r17)))))))
theorem Yb(h:J0 v0=some v3):sP 52 [(W9 v0)] [] (.bool v3) []:=
 sG Tryz.func52 λΓ q=>Af q [1] [1] (tB h λx1 y1 h=>tT q J8 L7 [(vm x1.1 x1.2)] (c1 (Ot y1)) (Af q [1,3,15] L7 (gC h (λh=>Af q [2] [] (tS h (Cc []))) λh=>tB h λx2 y2 h=>tT q KT GD [(xE 17 x2 x2.length)] (c1 (Mi y2)) (Af q IL GD (tL q h IL GD (λu i3=>(Cl u [(6,(Z5 i3))] [])) (λu x_=>match x_ with|(.inl _)=>aG Γ (.exit 0) (⟨[],[],[]⟩:St)|(.inr r_)=>aR (Ra Γ v0 r_)) (λi3 y h=>Af q [1,3,5,6,22] GD (gC h (λh=>tV q TG GA h λh=>tC h λc5_ h=>tU q [1,3,5,6,7,52] GA (ci c5_ (ZR (YX x2 i3) (Vm ((YX x2 i3)&&(((e8 v0 i3)==1)==false)) (ZM (gI (YX x2 i3)) (show((YX x2 i3)=true->(((e8 v0 i3)==1)=false->((YX x2 i3)&&(((e8 v0 i3)==1)==false))=true)) from(λhg=>(aF hg))) (gI (YX x2 i3)) (Vm (xT x2 i3 v0) (c3 (gI (YX x2 i3)) (show((YX x2 i3)=true->((bif ((e8 v0 i3)==1) then true else((e8 v0 i3)==3))=true->(xT x2 i3 v0)=true)) from(λhg=>(aT hg))) (Ng (!(x2.getD i3.toNat false))))))))) (gC h (λh=>Af q [2] [] (tS h (gO (Lm (H6 [] (Le.refl _ _)))))) λh=>Af q iM GA (tL q h iM GA (λu i6=>(Cl u [(8,(Z5 i6))] [])) (λu x_=>match x_ with|(.inl _)=>aG Γ (.exit 2) (Ni IL GD u [] [])|(.inr r_)=>aR (Ra Γ v0 r_)) (λi6 y h=>Af q [1,3,5,6,7,8,57] GA (gC h (λh=>tC h λc7_ h=>tC h λc8_ h=>tB h λx9 y9 h=>tC h λc10_ h=>tC h λc11_ h=>tT q [1,3,5,6,7,8,88] GA [(Z2 x9)] (ZM c7_ c8_ (J2 y9) (Vm ((!x9)==false) (ci c10_ (gI6 ((!x9)==false) (ci c11_ (ZR ((!x9)==false) (c1 (Ng (!x9))))))))) (gC h (λh=>Af q [2] [] (tS h (gO (Lm (H6 [] (Le.refl _ _)))))) λh=>Af q iM GA (tN h))) λh=>tS h (gO (Bd (Bi IL GD q))))) λx12 h=>(match x12,h with | .inl _,h=>gA (Af q IL GD (tN h)) | .inr r14,h=>O3 (λst' hk=>tS h (gO (Lm hk))))))) λh=>tS h (gO (Bd (Bi [] [] q))))) λx15 h=>(match x15,h with | .inl _,h=>gA (Af q [2] [] (tS h (Cc []))) | .inr r17,h=>O3 (λst' hk=>tS h (gK hk))))))))
def rU(aE:Int):=(bif (bif (aE==1) then true else(aE==8)) then true else(aE==16))
def Da(aE:Int):Option Bool:=
 (some (bif (bif (bif (bif (aE==1) then true else(aE==8)) then true else(aE==16)) then true else(aE==32)) then true else(aE==64)))
theorem Ez(h:Da v1=some v3):sP 97 [(Z5 v1)] [] (.bool v3) []:=
 sG Tryz.func97 λΓ q=>Af q [0] [] (tU q [2] [] (c8 (gI ((v1==1)==false)) (Ng (v1==1)) (gI ((bif (v1==1) then true else(v1==8))==false)) (Ng (bif (v1==1) then true else(v1==8))) (gI ((rU v1)==false)) (Ng (rU v1)) (gI ((bif (rU v1) then true else(v1==32))==false)) (Ng (bif (rU v1) then true else(v1==32)))) (tS h (Cc [])))
def mt(aN:Int):=(bif (aN==2) then true else(aN==4))
def vE(aN:Int):=(bif (bif (mt aN) then true else(aN==8)) then true else(aN==16))
def xU(aN:Int)(aE:Int):=(bif (vE aN) then(decide ((1:Int)<aE)) else false)
def Jy(aE:Int)(aN:Int):Option Bool:=
 ((Da aE).bind λx1=>(bif (!x1) then(some false) else(bif (aN==1) then(some true) else(some (bif (bif (bif (bif (bif (aN==2) then true else(aN==4)) then true else(aN==8)) then true else(aN==16)) then(decide ((1:Int)<aE)) else false) then(decide (((w64 (aE*aN)):Int)<=128)) else false)))))
theorem X5(h:Jy v1 v11=some v3):sP 146 [(Z5 v1),(Z5 v11)] [] (.bool v3) []:=
 sG Tryz.func146 λΓ q=>Af q Gn [] (tB h λx1 y1 h=>tT q [0,1,7] [] [(Z2 x1)] (c1 (Ez y1)) (gC h (λh=>Af q [4] [] (tS h (Cc []))) λh=>Af q [0,1,9] [] (gC h (λh=>Af q [4] [] (tS h (Cc []))) λh=>tU q [4] [] (d8_ (gI ((v11==2)==false)) (Ng (v11==2)) (gI ((mt v11)==false)) (Ng (mt v11)) (gI ((bif (mt v11) then true else(v11==8))==false)) (Ng (bif (mt v11) then true else(v11==8))) (gI ((vE v11)==true)) (Nh (vE v11)) (Vm ((xU v11 v1)==true) (c1 (Nh (xU v11 v1))))) (tS h (Cc [])))))
def vF(a1:B2):List OJ:=[(yP a1.Kind a1.Bits a1.Lanes a1.Dst a1.Args a1.Imm)]
def Km(a1:B2):Option Int:=
 (bif (a1.Kind==0) then(some (0:Int)) else(Option.bind (α:=Bool) (bif (a1.Kind==1) then(some (a1.Kind==1)) else(bif (a1.Kind==2) then(some (a1.Kind==2)) else(bif (a1.Kind==3) then(some (a1.Kind==3)) else(bif (a1.Kind==4) then(some (a1.Kind==4)) else(bif (a1.Kind==5) then(some (a1.Kind==5)) else(bif (a1.Kind==6) then(some (a1.Kind==6)) else(bif (a1.Kind==7) then(some (a1.Kind==7)) else(bif (a1.Kind==8) then(some (a1.Kind==8)) else(bif (a1.Kind==9) then(some (a1.Kind==9)) else(bif (a1.Kind==10) then(some (a1.Kind==10)) else(bif (a1.Kind==11) then(some (a1.Kind==11)) else(bif (a1.Kind==12) then(some (a1.Kind==12)) else(some (a1.Kind==17)))))))))))))) (λx2=>(bif x2 then(some (2:Int)) else(Option.bind (α:=Bool) (bif (a1.Kind==13) then(some (a1.Kind==13)) else(bif (a1.Kind==18) then(some (a1.Kind==18)) else(some (a1.Kind==19)))) (λx5=>(bif x5 then(some (3:Int)) else(Option.bind (α:=Bool) (bif (a1.Kind==14) then(some (a1.Kind==14)) else(bif (a1.Kind==15) then(some (a1.Kind==15)) else(bif (a1.Kind==16) then(some (a1.Kind==16)) else(some (a1.Kind==22))))) (λx8=>(bif x8 then(some (1:Int)) else(bif (a1.Kind==20) then(some (4:Int)) else(bif (a1.Kind==21) then(some a1.Lanes) else(some (-1:Int))))))))))))))
variable{v6:B2}
theorem Zo(h:Km v6=some v1):sP 147 (fI v6) [] (.int .i64 v1) []:=
 sG Tryz.func147 λΓ q=>tW q [1] [1] P7 [1] (Af q [1,4,5] [1] (gC h (λh=>Af q [2] [] (tS h (Cc []))) λh=>tB h λx2 y2 h=>gJ y2 (λb1=>aG Γ .normal (⟨[CT,(4,(Z5 v6.Kind)),(7,(.bool b1))],(vF v6),[]⟩:St)) (λy h=>Af q W8 [1] (gC h (λh=>tS h (gK (Bd Iq))) λh=>Af q W8 [1] (gC h (λh=>tS h (gK (Bd Iq))) λh=>Af q W8 [1] (gC h (λh=>tS h (gK (Bd Iq))) λh=>Af q W8 [1] (gC h (λh=>tS h (gK (Bd Iq))) λh=>Af q W8 [1] (gC h (λh=>tS h (gK (Bd Iq))) λh=>Af q W8 [1] (gC h (λh=>tS h (gK (Bd Iq))) λh=>Af q W8 [1] (gC h (λh=>tS h (gK (Bd Iq))) λh=>Af q W8 [1] (gC h (λh=>tS h (gK (Bd Iq))) λh=>Af q W8 [1] (gC h (λh=>tS h (gK (Bd Iq))) λh=>Af q W8 [1] (gC h (λh=>tS h (gK (Bd Iq))) λh=>Af q W8 [1] (gC h (λh=>tS h (gK (Bd Iq))) λh=>Af q W8 [1] (gC h (λh=>tS h (gK (Bd Iq))) λh=>Af q W8 [1] (tS h (gK (Bd Iq)))))))))))))))) (gA (gC h (λh=>Af q [2] [] (tS h (Cc []))) λh=>tB h λx5 y5 h=>gJ y5 (λb4=>aG Γ .normal (⟨[CT,(4,(Z5 v6.Kind)),(21,(.bool b4))],(vF v6),[]⟩:St)) (λy h=>Af q [1,4,21] [1] (gC h (λh=>tS h (gK (Bd Iq))) λh=>Af q [1,4,21] [1] (gC h (λh=>tS h (gK (Bd Iq))) λh=>Af q [1,4,21] [1] (tS h (gK (Bd Iq)))))) (gA (gC h (λh=>Af q [2] [] (tS h (Cc []))) λh=>tB h λx8 y8 h=>gJ y8 (λb7=>aG Γ .normal (⟨[CT,(4,(Z5 v6.Kind)),(25,(.bool b7))],(vF v6),[]⟩:St)) (λy h=>Af q [1,4,25] [1] (gC h (λh=>tS h (gK (Bd Iq))) λh=>Af q [1,4,25] [1] (gC h (λh=>tS h (gK (Bd Iq))) λh=>Af q [1,4,25] [1] (gC h (λh=>tS h (gK (Bd Iq))) λh=>Af q [1,4,25] [1] (tS h (gK (Bd Iq))))))) (gA (gC h (λh=>Af q [2] [] (tS h (Cc []))) λh=>Af q [1,4,30] [1] (gC h (λh=>Af q [2] [] (tS h (Cc []))) λh=>Af q [1,32] [1] (gC h (λh=>Af q [2] [] (tS h (Cc []))) λh=>Af q [2] [] (tS h (Cc []))))))))))))
def Lo(aD:Int)(aE:Int):Option Int:=
 ((Da aE).bind λx1=>(bif (!x1) then(some (0:Int)) else(bif (aE==64) then(some aD) else(A0 (0<=(Iu aE)) (A0 ((RY .u64 (1:Int) (Iu aE))≠0) (some (Int.tmod aD (RY .u64 (1:Int) (Iu aE)))))))))
variable{v20:Int}
theorem BK(h:Lo v1 v11=some v20):sP 194 [(.int .u64 v1),(Z5 v11)] [] (.int .u64 v20) []:=
 sG Tryz.func194 λΓ q=>Af q Gn [] (tB h λx1 y1 h=>tT q [0,1,7] [] [(Z2 x1)] (c1 (Ez y1)) (gC h (λh=>Af q [4] [] (tS h (Cc []))) λh=>Af q [0,1,9] [] (gC h (λh=>Af q [4] [] (tS h (Cc []))) λh=>tC h λc2_ h=>tC h λc3_ h=>tU q [4] [] (c2 c2_ c3_) (tS h (Cc [])))))
def AE(Γ:H5)(a1:B2)(r:Bool):Exit->St->Prop:=fK Tryz.prog Γ Tryz.f148.results.toList [] (.bool r) []
def xV(a1:B2):=(a1.Kind==15)
def mv(a1:B2):=((a1.Kind==4)==false)
def vI(a1:B2):=(decide (a1.Imm<(Iu a1.Bits)))
def vL(a1:B2):=(bif (a1.Kind==4) then true else(bif (decide ((10:Int)<=a1.Kind)) then(decide (a1.Kind<=12)) else false))
def rV(a1:B2):=(bif (vL a1) then true else(a1.Kind==14))
def mw(a1:B2):=((bif (rV a1) then true else(xV a1))==false)
def vK(a1:B2):=(bif (decide ((16:Int)<=a1.Kind)) then(decide (a1.Kind<=19)) else false)
def mu(a1:B2):=(bif (vK a1) then(decide (a1.Bits<8)) else false)
def xW(a1:B2):=(((mu a1)==false)&&((decide ((21:Int)<=a1.Kind))==true))
def vG(a1:B2):=(bif (decide (((Iu a1.Bits):Int)<a1.Imm)) then(decide (a1.Imm<=64)) else false)
def Gb(a1:B2):Option Bool:=
 (Option.bind (α:=(Unit ⊕ Bool)) (bif (bif (bif (bif (bif (a1.Kind==4) then true else(bif (decide ((10:Int)<=a1.Kind)) then(decide (a1.Kind<=12)) else false)) then true else(a1.Kind==14)) then true else(a1.Kind==15)) then true else(bif (decide ((18:Int)<=a1.Kind)) then(decide (a1.Kind<=20)) else false)) then(bif (a1.Lanes !=1) then(some (.inr false)) else(some (.inl ()))) else(some (.inl ()))) (λx1=>(match x1 with|(.inl _)=>(bif (bif (bif (bif (decide ((16:Int)<=a1.Kind)) then(decide (a1.Kind<=19)) else false) then(decide (a1.Bits<8)) else false) then true else(bif (decide ((21:Int)<=a1.Kind)) then(decide (a1.Lanes<2)) else false)) then(some false) else(bif (a1.Kind==0) then((Lo a1.Imm a1.Bits).bind λx3=>(some (x3==a1.Imm))) else(bif (a1.Kind==14) then((bif ((decide (a1.Imm<(Iu a1.Bits)))==true) then Da (w64 a1.Imm) else some false).bind λx4=>(some (bif (decide (a1.Imm<(Iu a1.Bits))) then x4 else false))) else(bif (a1.Kind==15) then((bif ((bif (decide (((Iu a1.Bits):Int)<a1.Imm)) then(decide (a1.Imm<=64)) else false)==true) then Da (w64 a1.Imm) else some false).bind λx5=>(some (bif (bif (decide (((Iu a1.Bits):Int)<a1.Imm)) then(decide (a1.Imm<=64)) else false) then x5 else false))) else(bif (a1.Kind==22) then(some (decide (a1.Imm<(Iu a1.Lanes)))) else(some (a1.Imm==0)))))))|(.inr r6)=>(some r6))))
theorem Zp(h:Gb v6=some v3):sP 148 (fI v6) [] (.bool v3) []:=
 sG Tryz.func148 λΓ q=>tW q [1] [1] L7 [1] (tB h λx1 y1 h=>gJ y1 (λx_=>match x_ with|(.inl _)=>aG Γ .normal (⟨[CT,(3,(Z5 v6.Kind))],[(yP v6.Kind v6.Bits v6.Lanes v6.Dst v6.Args v6.Imm)],[]⟩:St)|(.inr r_)=>aR (AE Γ v6 r_)) (λy h=>tU q [1,3,31] [1] (M4 (mv v6) (d8_ (gI ((mv v6)&&((decide ((10:Int)<=v6.Kind))==true))) (gI (mv v6)) (show((mv v6)=true->((decide ((10:Int)<=v6.Kind))=true->((mv v6)&&((decide ((10:Int)<=v6.Kind))==true))=true)) from(λhg=>(aT hg))) (Ng (v6.Kind==4)) (gI ((vL v6)==false)) (Ng (vL v6)) (gI ((rV v6)==false)) (Ng (rV v6)) (M4 (mw v6) (c4 (gI ((mw v6)&&((decide ((18:Int)<=v6.Kind))==true))) (gI (mw v6)) (show((mw v6)=true->((decide ((18:Int)<=v6.Kind))=true->((mw v6)&&((decide ((18:Int)<=v6.Kind))==true))=true)) from(λhg=>(aT hg))) (Ng (bif (rV v6) then true else(xV v6))))))) (gC h (λh=>Af q [1,3,34] [1] (gC h (λh=>Af q [2] [] (tS h (gK (Lm (H6 [] (Le.refl _ _)))))) λh=>tS h (gK (Bd (Bi L7 [1] q))))) λh=>tS h (gK (Bd (Bi L7 [1] q))))) (match x1,h with | .inl _,h=>gA (tU q [1,3,54] [1] (ed (gI ((decide ((16:Int)<=v6.Kind))==true)) (Nh (decide ((16:Int)<=v6.Kind))) (M4 ((vK v6)==true) (ci (Nh (vK v6)) (M4 ((mu v6)==false) (M4 (xW v6) (c3 (gI ((mu v6)==false)) (show(((mu v6)==false)=true->((decide ((21:Int)<=v6.Kind))=true->(xW v6)=true)) from(λhg=>(aT hg))) (Ng (mu v6)))))))) (gC h (λh=>Af q [2] [] (tS h (Cc []))) λh=>tW q [1,55] [1] [1,55,56] [1] (gC h (λh=>tB h λx3 y3 h=>tT q [2] [] [⟨[],[],(.int .u64 x3),[],[],[]⟩] (c1 (BK y3)) (tS h (Cc []))) λh=>Af q [1,55,66] [1] (gC h (λh=>tB h λx4 y4 h=>tT q [2] [] [(Z2 x4)] (Vm ((vI v6)==true) (c2 (λ(hg:((vI v6)==true)=true)=>(Ez (Bq hg y4))) (Nh (vI v6)))) (tS h (Cc []))) λh=>Af q [1,55,80] [1] (gC h (λh=>tB h λx5 y5 h=>tT q [2] [] [(Z2 x5)] (M4 ((decide (((Iu v6.Bits):Int)<v6.Imm))==true) (ci (Nh (decide (((Iu v6.Bits):Int)<v6.Imm))) (Vm ((vG v6)==true) (c2 (λ(hg:((vG v6)==true)=true)=>(Ez (Bq hg y5))) (Nh (vG v6)))))) (tS h (Cc []))) λh=>Af q [1,99] [1] (gC h (λh=>Af q [2] [] (tS h (Cc []))) λh=>Af q [2] [] (tS h (Cc [])))))))) | .inr r6,h=>O3 (λst' hk=>tS h (gK hk))))
def Fi(aD:Int):Option Bool:=
 (some (bif (decide ((0:Int)<aD)) then(decide (aD<1024)) else false))
theorem Mh(h:Fi v1=some v3):sP 55 [(Z5 v1)] [] (.bool v3) []:=
 sG Tryz.func55 λΓ q=>Af q [0] [] (tU q [2] [] (c2 (gI ((decide ((0:Int)<v1))==true)) (Nh (decide ((0:Int)<v1)))) (tS h (Cc [])))
def Gy(a1:B2):Int->Option (LR Int (Unit ⊕ Bool)):=
 λ(i4:Int)=>(bif (decide (i4<(a1.Args.length:Int))) then(A0 (A1 i4 a1.Args.length) ((Fi (a1.Args.getD i4.toNat 0)).bind λx6=>(bif (!x6) then(some (.done (.inr false))) else(some (.next (w64 (i4+1))))))) else(some (.done (.inl ()))))
def DX(Γ:H5)(a1:B2)(r:Bool):Exit->St->Prop:=fK Tryz.prog Γ Tryz.f98.results.toList [] (.bool r) []
def rW(x1:Bool)(x2:Int)(a1:B2):=(bif (!x1) then true else(x2 !=(a1.Args.length:Int)))
def G9(a1:B2):Option Bool:=
 ((Jy a1.Bits a1.Lanes).bind λx1=>((bif ((!x1)==false) then Km a1 else some (0:Int)).bind λx2=>((bif ((bif (!x1) then true else(x2 !=(a1.Args.length:Int)))==false) then Gb a1 else some false).bind λx3=>(bif (bif (bif (!x1) then true else(x2 !=(a1.Args.length:Int))) then true else(!x3)) then(some false) else((Ac (Gy a1) (0:Int)).bind (λx7=>(match x7 with|(.inl _)=>(bif (bif (a1.Kind==17) then true else(a1.Kind==19)) then(some (a1.Dst==0)) else((Fi a1.Dst).bind λx9=>(some x9)))|(.inr r10)=>(some r10))))))))
theorem Nz(h:G9 v6=some v3):sP 98 (fI v6) [] (.bool v3) []:=
 sG Tryz.func98 λΓ q=>Af q [1] [1] (tB h λx1 y1 h=>tB h λx2 y2 h=>tB h λx3 y3 h=>tT q [1,22] [1] [(Z2 x1),(ZA x2),(Z2 x3)] (ZM (X5 y1) (gI ((!x1)==false)) (λ(hg:((!x1)==false)=true)=>(Zo (Bq hg y2))) (ZR ((!x1)==false) (c5 (Ng (!x1)) (gI ((rW x1 x2 v6)==false)) (λ(hg:((rW x1 x2 v6)==false)=true)=>(Zp (Bq hg y3))) (gI ((rW x1 x2 v6)==false)) (Ng (rW x1 x2 v6))))) (gC h (λh=>Af q [2] [] (tS h (Cc []))) λh=>Af q L7 [1] (tL q h L7 [1] (λu i4=>(Cl u [(3,(Z5 i4))] [])) (λu x_=>match x_ with|(.inl _)=>aG Γ (.exit 0) (Ni [1] [1] u [] [])|(.inr r_)=>aR (DX Γ v6 r_)) (λi4 y h=>Af q [1,3,27] [1] (gC h (λh=>tC h λc5_ h=>tB h λx6 y6 h=>tT q [1,3,36] [1] [(Z2 x6)] (c2 c5_ (Mh y6)) (gC h (λh=>Af q [2] [] (tS h (gO (Lm (H6 [] (Le.refl _ _)))))) λh=>Af q L7 [1] (tN h))) λh=>tS h (gO (Bd (Bi [1] [1] q))))) λx7 h=>(match x7,h with | .inl _,h=>gA (tU q [1,44] [1] (M4 ((v6.Kind==17)==false) (c1 (Ng (v6.Kind==17)))) (gC h (λh=>Af q [2] [] (tS h (Cc []))) λh=>tB h λx9 y9 h=>tT q [2] [] [(Z2 x9)] (c1 (Mh y9)) (tS h (Cc [])))) | .inr r10,h=>O3 (λst' hk=>tS h (gK hk))))))
def Fp(a0:TFunc):Int->Option (LR Int (Unit ⊕ Bool)):=
 λ(i1:Int)=>(bif (decide (i1<(a0.Params.length:Int))) then(A0 (A1 i1 a0.Params.length) ((Da (a0.Params.getD i1.toNat 0)).bind λx3=>(bif (!x3) then(some (.done (.inr false))) else(some (.next (w64 (i1+1))))))) else(some (.done (.inl ()))))
def D4(a0:TFunc)(i6:Int):Int->Option (LR Int (Unit ⊕ Bool)):=
 λ(i7:Int)=>(A0 (A1 i6 a0.Blocks.length) (bif (decide (i7<(((a0.Blocks.getD i6.toNat default).Phis).length:Int))) then(A0 (A1 i6 a0.Blocks.length) (A0 (A1 i7 ((a0.Blocks.getD i6.toNat default).Phis).length) ((Da ((((a0.Blocks.getD i6.toNat default).Phis).getD i7.toNat default).Bits)).bind λx11=>(bif (!x11) then(some (.done (.inr false))) else(some (.next (w64 (i7+1)))))))) else(some (.done (.inl ())))))
def D5(a0:TFunc)(a2:Int)(i6:Int):Int->Option (LR Int (Unit ⊕ Bool)):=
 λ(i14:Int)=>(A0 (A1 i6 a0.Blocks.length) (bif (decide (i14<(((a0.Blocks.getD i6.toNat default).Ops).length:Int))) then(A0 (A1 i6 a0.Blocks.length) (A0 (A1 i14 ((a0.Blocks.getD i6.toNat default).Ops).length) (Option.bind (α:=Int) (bif (a2==1) then(some (20:Int)) else(some (22:Int))) (λx19=>(Option.bind (α:=Int) (bif (a2==0) then(some (17:Int)) else(some x19)) (λx22=>((G9 (((a0.Blocks.getD i6.toNat default).Ops).getD i14.toNat default)).bind λx24=>(bif (bif (bif (!x24) then true else(decide (x22<(((a0.Blocks.getD i6.toNat default).Ops).getD i14.toNat default).Kind))) then true else(bif (decide (a2<2)) then(decide ((1:Int)<(((a0.Blocks.getD i6.toNat default).Ops).getD i14.toNat default).Lanes)) else false)) then(some (.done (.inr false))) else(some (.next (w64 (i14+1)))))))))))) else(some (.done (.inl ())))))
def Fq(a0:TFunc)(a2:Int):Int->Option (LR Int (Unit ⊕ Bool)):=
 λ(i6:Int)=>(bif (decide (i6<(a0.Blocks.length:Int))) then((Ac (D4 a0 i6) (0:Int)).bind (λx12=>(match x12 with|(.inl _)=>((Ac (D5 a0 a2 i6) (0:Int)).bind (λx25=>(match x25 with|(.inl _)=>(some (.next (w64 (i6+1))))|(.inr r27)=>(some (.done (.inr r27))))))|(.inr r28)=>(some (.done (.inr r28)))))) else(some (.done (.inl ()))))
def Jt(Γ:H5)(a0:TFunc)(a2:Int)(r:Bool):Exit->St->Prop:=fK Tryz.prog Γ Tryz.f53.results.toList [] (.bool r) []
def e9(a0:TFunc)(i6:Int)(i14:Int):=(((a0.Blocks.getD i6.toNat default).Ops).getD i14.toNat default)
def kU(x24:Bool)(x22:Int)(a0:TFunc)(i6:Int)(i14:Int):=(bif (!x24) then true else(decide (x22<(e9 a0 i6 i14).Kind)))
def Aad(a0:TFunc):List AV:=[(Z6 a0.Params),(Z5 a0.Ret),(UF a0.Blocks)]
def xX(a0:TFunc)(i6:Int)(i14:Int):List OJ:=[(Pu 25 (Aad a0)),(9,.row 70 [(.int .i64 (e9 a0 i6 i14).Kind),(.int .i64 (e9 a0 i6 i14).Bits),(.int .i64 (e9 a0 i6 i14).Lanes),(.int .i64 (e9 a0 i6 i14).Dst),(AV.list 1 Ap 0 (e9 a0 i6 i14).Args .none),(.int .u64 (e9 a0 i6 i14).Imm)])]
def J1(a0:TFunc)(a2:Int):Option Bool:=
 ((Ac (Fp a0) (0:Int)).bind (λx4=>(match x4 with|(.inl _)=>((Ac (Fq a0 a2) (0:Int)).bind (λx29=>(match x29 with|(.inl _)=>((Da a0.Ret).bind λx31=>(some x31))|(.inr r32)=>(some r32))))|(.inr r33)=>(some r33))))
theorem Yc(h:J1 v0 v1=some v3):sP 53 [(W9 v0),(Z5 v1)] [] (.bool v3) []:=
 sG Tryz.func53 λΓ q=>tW q Ee [2] V4 [2] (tL q h V4 [2] (λu i1=>(Cl u [(5,(Z5 i1))] [])) (λu x_=>match x_ with|(.inl _)=>aG Γ (.exit 0) (Ni Ee [2] u [] [])|(.inr r_)=>aR (Jt Γ v0 v1 r_)) (λi1 y h=>Af q [1,2,5,15] [2] (gC h (λh=>tC h λc2_ h=>tB h λx3 y3 h=>tT q [1,2,5,24] [2] [(Z2 x3)] (c2 c2_ (Ez y3)) (gC h (λh=>Af q [4] [] (tS h (gO (Lm (H6 [] (Le.refl _ _)))))) λh=>Af q V4 [2] (tN h))) λh=>tS h (gO (Bd (Bi Ee [2] q))))) λx4 h=>(match x4,h with | .inl _,h=>gA (Af q CN [2] (tL q h CN [2] (λu i6=>(Cl u [(6,(Z5 i6))] [])) (λu x_=>match x_ with|(.inl _)=>aG Γ (.exit 2) (Ni [2] [2] u [] [])|(.inr r_)=>aR (Jt Γ v0 v1 r_)) (λi6 y h=>Af q [1,2,6,29] [2] (gC h (λh=>Af q [1,2,6,7] [2] (tL q h [1,2,6,7] [2] (λu i7=>(Cl u [(7,(Z5 i7))] [])) (λu x_=>match x_ with|(.inl _)=>aG Γ (.exit 4) (Ni CN [2] u [] [])|(.inr r_)=>aR (Jt Γ v0 v1 r_)) (λi7 y h=>tV q [1,2,6,7,40] [2] h λh=>gC h (λh=>tC h λc9_ h=>tC h λc10_ h=>tB h λx11 y11 h=>tT q [1,2,6,7,54] [2] [(Z2 x11)] (c3 c9_ c10_ (Ez y11)) (gC h (λh=>Af q [4] [] (tS h (gO (Lm (H6 [] (Le.refl _ _)))))) λh=>Af q [1,2,6,7] [2] (tN h))) λh=>tS h (gO (Bd (Bi CN [2] q)))) λx12 h=>(match x12,h with | .inl _,h=>gA (Af q [1,2,6,8] [2] (tL q h [1,2,6,8] [2] (λu i14=>(Cl u [(8,(Z5 i14))] [])) (λu x_=>match x_ with|(.inl _)=>aG Γ (.exit 6) (Ni CN [2] u [] [])|(.inr r_)=>aR (Jt Γ v0 v1 r_)) (λi14 y h=>tV q [1,2,6,8,63] [2] h λh=>gC h (λh=>tC h λc16_ h=>tC h λc17_ h=>tU q [1,2,6,8,9] [2,9] (c2 c16_ c17_) (Af q SU [2,9] (tB h λx19 y19 h=>gJ y19 (λi18=>aG Γ .normal (⟨[(1,(Z5 v1)),Uk,(6,(Z5 i6)),(8,(Z5 i14)),(9,(.ptr 9 0)),(10,(Z5 i18))],(xX v0 i6 i14),[]⟩:St)) (λy h=>Af q [1,2,6,8,9,10,76] [2,9] (gC h (λh=>Af q SU [2,9] (tS h (gK (Bd Iq)))) λh=>tS h (gK (Bd (Bi SU [2,9] q))))) (gA (tB h λx22 y22 h=>gJ y22 (λi21=>aG Γ .normal (⟨[(1,(Z5 v1)),Uk,(6,(Z5 i6)),(8,(Z5 i14)),(9,(.ptr 9 0)),(10,(Z5 i21))],(xX v0 i6 i14),[]⟩:St)) (λy h=>Af q [1,2,6,8,9,10,78] [2,9] (gC h (λh=>Af q SU [2,9] (tS h (gK (Bd Iq)))) λh=>tS h (gK (Bd (Bi SU [2,9] q))))) (gA (tB h λx24 y24 h=>tT q [1,2,6,8,96] [2] [(Z2 x24)] (ci (Nz y24) (Vm ((!x24)==false) (ci (Ng (!x24)) (M4 ((kU x24 x22 v0 i6 i14)==false) (M4 (((kU x24 x22 v0 i6 i14)==false)&&((decide (v1<2))==true)) (c3 (gI ((kU x24 x22 v0 i6 i14)==false)) (show(((kU x24 x22 v0 i6 i14)==false)=true->((decide (v1<2))=true->(((kU x24 x22 v0 i6 i14)==false)&&((decide (v1<2))==true))=true)) from(λhg=>(aT hg))) (Ng (kU x24 x22 v0 i6 i14)))))))) (gC h (λh=>Af q [4] [] (tS h (gO (Lm (H6 [] (Le.refl _ _)))))) λh=>Af q [1,2,6,8] [2] (tN h))))))))) λh=>tS h (gO (Bd (Bi CN [2] q)))) λx25 h=>(match x25,h with | .inl _,h=>gA (Af q CN [2] (tN h)) | .inr r27,h=>O3 (λst' hk=>tS h (gO (Lm hk)))))) | .inr r28,h=>O3 (λst' hk=>tS h (gO (Lm hk)))))) λh=>tS h (gO (Bd (Bi [2] [2] q))))) λx29 h=>(match x29,h with | .inl _,h=>gA (tB h λx31 y31 h=>tT q [4] [] [(Z2 x31)] (c1 (Ez y31)) (tS h (Cc []))) | .inr r32,h=>O3 (λst' hk=>tS h (gK hk))))) | .inr r33,h=>O3 (λst' hk=>tS h (gK hk))))
def Hk(a1:B2):Option Gq:=
 ((G9 a1).bind λx1=>(bif (bif (bif (!x1) then true else(a1.Kind==17)) then true else(a1.Kind==19)) then(some ((0:Int),(0:Int))) else(bif (bif (decide ((10:Int)<=a1.Kind)) then(decide (a1.Kind<=12)) else false) then(some ((1:Int),(1:Int))) else(bif (a1.Kind==22) then(some (a1.Bits,(1:Int))) else(some (a1.Bits,a1.Lanes))))))
variable{v19:Gq}
theorem X4(h:Hk v6=some v19):sP 99 (fI v6) [] (.tuple [(Z5 v19.1),(Z5 v19.2)]) []:=
 sG Tryz.func99 λΓ q=>Af q [1] [1] (tB h λx1 y1 h=>tT q [1,16] [1] [(Z2 x1)] (ci (Nz y1) (M4 ((!x1)==false) (ci (Ng (!x1)) (M4 ((bif (!x1) then true else(v6.Kind==17))==false) (c1 (Ng (bif (!x1) then true else(v6.Kind==17)))))))) (gC h (λh=>Af q E0 [] (tS h (Cc []))) λh=>tU q [1,24] [1] (M4 ((decide ((10:Int)<=v6.Kind))==true) (c1 (Nh (decide ((10:Int)<=v6.Kind))))) (gC h (λh=>Af q E0 [] (tS h (Cc []))) λh=>Af q [1,27] [1] (gC h (λh=>Af q E0 [] (tS h (Cc []))) λh=>Af q E0 [] (tS h (Cc []))))))
open Go Go.RowKit
set_option maxRecDepth 100000
set_option maxHeartbeats 2000000
abbrev eP:=(List Bx×Int)
abbrev uQ:=(LR (List Bx×Int) (List Bx))
def Im(a0:TFunc):eP->Option uQ:=
 λ((l1,i2):eP)=>(bif (decide (i2<(a0.Params.length:Int))) then(A0 (A1 i2 a0.Params.length) (A0 (l1.length+([(⟨(w64 (i2+1)),(-1:Int),(0:Int),((a0.Params.getD i2.toNat 0),(1:Int))⟩:Bx)]:List Bx).length<=room) (some (.next ((l1++([(⟨(w64 (i2+1)),(-1:Int),(0:Int),((a0.Params.getD i2.toNat 0),(1:Int))⟩:Bx)]:List Bx)),(w64 (i2+1))))))) else(some (.done l1)))
def Gf(a0:TFunc)(i9:Int):eP->Option uQ:=
 λ((l12,i13):eP)=>(bif (decide (i13<(((a0.Blocks.getD i9.toNat default).Phis).length:Int))) then(A0 (A1 i13 ((a0.Blocks.getD i9.toNat default).Phis).length) (A0 (A1 i13 ((a0.Blocks.getD i9.toNat default).Phis).length) (A0 (l12.length+([(⟨(((a0.Blocks.getD i9.toNat default).Phis).getD i13.toNat default).Dst,i9,(-1:Int),((((a0.Blocks.getD i9.toNat default).Phis).getD i13.toNat default).Bits,(1:Int))⟩:Bx)]:List Bx).length<=room) (some (.next ((l12++([(⟨(((a0.Blocks.getD i9.toNat default).Phis).getD i13.toNat default).Dst,i9,(-1:Int),((((a0.Blocks.getD i9.toNat default).Phis).getD i13.toNat default).Bits,(1:Int))⟩:Bx)]:List Bx)),(w64 (i13+1)))))))) else(some (.done l12)))
def Gg(a0:TFunc)(i9:Int):eP->Option uQ:=
 λ((l20,i21):eP)=>(bif (decide (i21<(((a0.Blocks.getD i9.toNat default).Ops).length:Int))) then(Option.bind (α:=List Bx) (A0 (A1 i21 ((a0.Blocks.getD i9.toNat default).Ops).length) ((Hk (((a0.Blocks.getD i9.toNat default).Ops).getD i21.toNat default)).bind λx25=>(bif (decide ((0:Int)<x25.1)) then(A0 (A1 i21 ((a0.Blocks.getD i9.toNat default).Ops).length) (A0 (l20.length+([(⟨(((a0.Blocks.getD i9.toNat default).Ops).getD i21.toNat default).Dst,i9,i21,(x25.1,x25.2)⟩:Bx)]:List Bx).length<=room) (some (l20++([(⟨(((a0.Blocks.getD i9.toNat default).Ops).getD i21.toNat default).Dst,i9,i21,(x25.1,x25.2)⟩:Bx)]:List Bx))))) else(some l20)))) (λx28=>(some (.next (x28,(w64 (i21+1))))))) else(some (.done l20)))
def In(a0:TFunc):eP->Option uQ:=
 λ((l8,i9):eP)=>(bif (decide (i9<(a0.Blocks.length:Int))) then(A0 (A1 i9 a0.Blocks.length) ((Ac (Gf a0 i9) (l8,(0:Int))).bind (λx18=>((Ac (Gg a0 i9) (x18,(0:Int))).bind (λx30=>(some (.next (x30,(w64 (i9+1)))))))))) else(some (.done l8)))
def bu(a0:TFunc)(i9:Int):=(a0.Blocks.getD i9.toNat default)
def vM(a0:TFunc):List AV:=[(Z6 a0.Params),(Z5 a0.Ret),(UF a0.Blocks)]
def rZ(i2:Int)(a0:TFunc):=([(⟨(w64 (i2+1)),(-1:Int),(0:Int),((a0.Params.getD i2.toNat 0),(1:Int))⟩:Bx)]:List Bx)
def rY(a0:TFunc)(i9:Int)(i21:Int)(x25:Gq):=([(⟨(((bu a0 i9).Ops).getD i21.toNat default).Dst,i9,i21,(x25.1,x25.2)⟩:Bx)]:List Bx)
def xY(a0:TFunc):=(⟨[CT,(3,(AV.list 5 Pv default ([]:List Bx) (.own 5003))),(4,L9)],[(1,.row 25 (vM a0)),(5003,.tok 5 92 (([]:List Bx).length))],[]⟩:St)
def rX(a0:TFunc)(i9:Int)(i13:Int):=([(⟨(((bu a0 i9).Phis).getD i13.toNat default).Dst,i9,(-1:Int),((((bu a0 i9).Phis).getD i13.toNat default).Bits,(1:Int))⟩:Bx)]:List Bx)
def Ks(a0:TFunc):Option (List Bx):=
 ((Ac (Im a0) (([]:List Bx),(0:Int))).bind (λx6=>((Ac (In a0) (x6,(0:Int))).bind (λx32=>(some x32)))))
variable{v34:List Bx}
theorem Zv(h:Ks v0=some v34):sP 54 [(W9 v0)] [] (AV.list 5 Pv default v34 (.own 20000)) [(Ll 20000 92 v34.length)]:=
 sG Tryz.func54 λΓ q=>gR q [1] [1] [(2,(AV.list 5 Pv default ([]:List Bx) .exact))] [] (c1 (B0 5 Pv (default:Bx))) (gR q L7 [1] [(3,(AV.list 5 Pv default ([]:List Bx) .exact))] [] (c1 (B0 5 Pv (default:Bx))) (Af q J8 [1] (gLe (st':=(xY v0)) (Le.trans (Bi (st':=⟨[CT,(3,(AV.list 5 Pv default ([]:List Bx) .exact)),(4,L9)],[(1,.row 25 (vM v0))],[]⟩) J8 [1] q) (Le.trans (Rm (t:=3) (nm:=5003) (sz':=5) (λi=>Pv (([]:List Bx).getD i default)) 92 rfl rfl (.inl ⟨rfl,rfl⟩) (λh_=>absurd h_ (by decide))) (Bi (st':=(xY v0)) J8 Nf q))) (tL q h J8 Nf (λu (l1,i2)=>(Cl u [(sF l1),(4,(Z5 i2))] [(Ll 5003 92 l1.length)])) (λu l3=>aG Γ (.exit 0) (Ni L7 Nf u [(sF l3)] [(Ll 5003 92 l3.length)])) (λ⟨l1,i2⟩ y h=>Af q [1,3,4,15] Nf (gC h (λh=>tC h λc4_ h=>tC h λc5_ h=>gR q J8 Nf (Z47 28 (rZ i2 v0) 29 l1) [] (c6 c4_ (Bp 5 Pv (default:Bx) (rZ i2 v0)) (Eq.refl l1.length) c5_ (Iz 5 5003 Pv (default:Bx) l1 (rZ i2 v0)) (E3 l1 (rZ i2 v0))) (Af q J8 Nf (tN h))) λh=>tS h (gO (Bd (Bi L7 Nf q))))) λx6 h=>gA (Af q KT Nf (tL q h KT Nf (λu (l8,i9)=>(Cl u [(sF l8),(5,(Z5 i9))] [(Ll 5003 92 l8.length)])) (λu l10=>aG Γ (.exit 2) (⟨[(sF l10)],[(Ll 5003 92 l10.length)],[]⟩:St)) (λ⟨l8,i9⟩ y h=>Af q [1,3,5,34] Nf (gC h (λh=>tV q IL S7 h λh=>Af q TG S7 (tL q h TG S7 (λu (l12,i13)=>(Cl u [(sF l12),(7,(Z5 i13))] [(Ll 5003 92 l12.length)])) (λu l14=>aG Γ (.exit 4) (Ni IL S7 u [(sF l14)] [(Ll 5003 92 l14.length)])) (λ⟨l12,i13⟩ y h=>Af q [1,3,5,6,7,46] S7 (gC h (λh=>tC h λc15_ h=>tC h λc16_ h=>tC h λc17_ h=>gR q TG S7 (Z47 65 (rX v0 i9 i13) 66 l12) [] (c7 c15_ c16_ (Bp 5 Pv (default:Bx) (rX v0 i9 i13)) (Eq.refl l12.length) c17_ (Iz 5 5003 Pv (default:Bx) l12 (rX v0 i9 i13)) (E3 l12 (rX v0 i9 i13))) (Af q TG S7 (tN h))) λh=>tS h (gO (Bd (Bi IL S7 q))))) λx18 h=>gA (Af q TH S7 (tL q h TH S7 (λu (l20,i21)=>(Cl u [(sF l20),(8,(Z5 i21))] [(Ll 5003 92 l20.length)])) (λu l22=>aG Γ (.exit 6) (Ni KT Nf u [(sF l22)] [(Ll 5003 92 l22.length)])) (λ⟨l20,i21⟩ y h=>Af q [1,3,5,6,8,71] S7 (gC h (λh=>tB h λx28 y28 h=>gJ y28 (λl23=>aG Γ .normal (⟨[CT,(sF l23),(5,(Z5 i9)),(6,(.ptr 6 0)),(8,(Z5 i21))],[(1,.row 25 (vM v0)),(6,.row 64 [(AV.list 4 Eo default (bu v0 i9).Phis .none),(AV.list 6 J6 default (bu v0 i9).Ops .none),(.int .i64 (bu v0 i9).End.Kind),(.int .i64 (bu v0 i9).End.Arg),(AV.list 1 Ap 0 (bu v0 i9).End.To .none)]),(Ll 5003 92 l23.length)],[]⟩:St)) (λy h=>tC h λc24_ h=>tB h λx25 y25 h=>tT q [1,3,5,6,8,9,10] S7 [(z8 x25.1 x25.2)] (c2 c24_ (X4 y25)) (Af q [1,3,5,6,8,9,10,84] S7 (gC h (λh=>tC h λc26_ h=>tC h λc27_ h=>gR q TH S7 (Z47 98 (rY v0 i9 i21 x25) 99 l20) [] (c6 c26_ (Bp 5 Pv (default:Bx) (rY v0 i9 i21 x25)) (Eq.refl l20.length) c27_ (Iz 5 5003 Pv (default:Bx) l20 (rY v0 i9 i21 x25)) (E3 l20 (rY v0 i9 i21 x25))) (tS h (gK (Bd Iq)))) λh=>tS h (gK (Bd (Bi TH S7 q)))))) (gA (Af q TH S7 (tN h)))) λh=>tS h (gO (Bd (Bi KT Nf q))))) λx30 h=>gA (Af q KT Nf (tN h)))))) λh=>tS h (gO (Bd (Bi [3] [5003] q))))) λx32 h=>gA (Af q [2] [5003] (tS h (Cc bZ)))))))))
def Gh(aQ:List Bx)(aD:Int):Int->Option (LR Int (Unit ⊕ Int)):=
 λ(i1:Int)=>(bif (decide (i1<(aQ.length:Int))) then(A0 (A1 i1 aQ.length) (bif (((aQ.getD i1.toNat default).V:Int)==aD) then(some (.done (.inr i1))) else(some (.next (w64 (i1+1)))))) else(some (.done (.inl ()))))
def AJ(Γ:H5)(aQ:List Bx)(aD:Int)(r:Int):Exit->St->Prop:=fK Tryz.prog Γ Tryz.f56.results.toList [] (.int .i64 r) []
def Ey(aQ:List Bx)(aD:Int):Option Int:=
 ((Ac (Gh aQ aD) (0:Int)).bind (λx3=>(match x3 with|(.inl _)=>(some (-1:Int))|(.inr r5)=>(some r5))))
theorem J3(h:Ey v34 v1=some v11):sP 56 [(AV.list 5 Pv default v34 .none),(Z5 v1)] [] (.int .i64 v11) []:=
 sG Tryz.func56 λΓ q=>tW q Gn [] Nd [] (tL q h Nd [] (λu i1=>(Cl u [(5,(Z5 i1))] [])) (λu x_=>match x_ with|(.inl _)=>aG Γ (.exit 0) (⟨[],[],[]⟩:St)|(.inr r_)=>aR (AJ Γ v34 v1 r_)) (λi1 y h=>Af q [0,1,5,9] [] (gC h (λh=>tV q [0,1,5,18] [] h λh=>gC h (λh=>Af q [4] [] (tS h (gO (Lm (H6 [] (Le.refl _ _)))))) λh=>Af q Nd [] (tN h)) λh=>tS h (gO (Bd (Bi [] [] q))))) λx3 h=>(match x3,h with | .inl _,h=>gA (Af q [4] [] (tS h (Cc []))) | .inr r5,h=>O3 (λst' hk=>tS h (gK hk))))
abbrev zT:=(List (Int×Int)×Int)
def Hz(a1:B2):zT->Option (LR (List (Int×Int)×Int) (List (Int×Int))):=
 λ((l2,i3):zT)=>(bif (decide (i3<(a1.Args.length:Int))) then(Option.bind (α:=Gq) (Option.bind (α:=Bool) (bif (a1.Kind==13) then(some (a1.Kind==13)) else(some (a1.Kind==20))) (λx8=>(bif x8 then(bif (i3==0) then(some ((1:Int),(1:Int))) else(some (a1.Bits,a1.Lanes))) else(Option.bind (α:=Bool) (bif (a1.Kind==14) then(some (a1.Kind==14)) else(some (a1.Kind==15))) (λx11=>(bif x11 then(some ((w64 a1.Imm),(1:Int))) else(Option.bind (α:=Bool) (bif (a1.Kind==16) then(some (a1.Kind==16)) else(some (a1.Kind==17))) (λx14=>(bif x14 then(bif (i3==0) then(some ((64:Int),(1:Int))) else(some (a1.Bits,a1.Lanes))) else(Option.bind (α:=Bool) (bif (a1.Kind==18) then(some (a1.Kind==18)) else(some (a1.Kind==19))) (λx17=>(bif x17 then(Option.bind (α:=Gq) (bif (i3==0) then(some ((1:Int),(1:Int))) else(some (a1.Bits,a1.Lanes))) (λx21=>(match x21 with|(i19,i20)=>(bif (i3==1) then(some ((64:Int),(1:Int))) else(some (i19,i20)))))) else(bif (a1.Kind==21) then(some (a1.Bits,(1:Int))) else(some (a1.Bits,a1.Lanes))))))))))))))) (λx23=>(match x23 with|(i5,i6)=>(A0 (l2.length+([(i5,i6)]:List Gq).length<=room) (some (.next ((l2++([(i5,i6)]:List Gq)),(w64 (i3+1))))))))) else(some (.done l2)))
def Aae(a1:B2):List AV:=[(Z5 a1.Bits),(Z5 a1.Lanes)]
def fA(l2:List KD):AV:=(vl l2 5003)
def kW:AV:=yN
def kV(a1:B2):List AV:=[(Z5 a1.Kind),(Z5 a1.Bits),(Z5 a1.Lanes),(Z5 a1.Dst),(Z6 a1.Args),(.int .u64 a1.Imm)]
def re(a1:B2)(l2:List KD):List OJ:=[(1,.row 70 (kV a1)),(5,.row 90 (Aae a1)),(5003,.tok 2 90 l2.length)]
def xZ:List MK:=[CT,(3,(AV.list 2 Bo ((0:Int),(0:Int)) ([]:List Gq) (.own 5003))),(4,L9)]
def Hl(a1:B2):Option qZ:=
 ((G9 a1).bind λx1=>(bif (!x1) then(some ([]:List Gq)) else((Ac (Hz a1) (([]:List Gq),(0:Int))).bind (λx26=>(some x26)))))
variable{v21:List KD}
theorem X6(h:Hl v6=some v21):sP 100 (fI v6) [] (vl v21 20000) [(20000,.tok 2 90 v21.length)]:=
 sG Tryz.func100 λΓ q=>gR q [1] [1] [(2,kW)] [] (c1 (B0 2 Bo ((0:Int),(0:Int)))) (gR q L7 [1] [(3,kW)] [] (c1 (B0 2 Bo ((0:Int),(0:Int)))) (tB h λx1 y1 h=>tT q [1,3,8] [1] [(Z2 x1)] (c1 (Nz y1)) (gC h (λh=>gR q [2] [] [(2,kW)] [] (c1 (B0 2 Bo ((0:Int),(0:Int)))) (Qc (⟨[(2,kW)],[],[]⟩:St) (tS h (gK (e:=.ret) (H6 [(6002,20000)] (show Le Γ _ (Z67:St) from Le.trans (Bi (st':=⟨[(2,kW)],[],[]⟩) [2] [] q) (Le.trans (Rm (t:=2) (nm:=6002) (sz':=2) (λi=>Bo (([]:List Gq).getD i ((0:Int),(0:Int)))) 90 rfl rfl (.inl ⟨rfl,rfl⟩) (λh_=>absurd h_ (by decide))) (Bi (st':=Z67) [2] [6002] q)))))))) λh=>Af q J8 [1] (gLe (st':=⟨xZ,[(1,.row 70 (kV v6)),(5003,.tok 2 90 (([]:List Gq).length))],[]⟩) (Le.trans (Bi (st':=⟨[CT,(3,kW),(4,L9)],[(1,.row 70 (kV v6))],[]⟩) J8 [1] q) (Le.trans (Rm (t:=3) (nm:=5003) (sz':=2) (λi=>Bo (([]:List Gq).getD i ((0:Int),(0:Int)))) 90 rfl rfl (.inl ⟨rfl,rfl⟩) (λh_=>absurd h_ (by decide))) (Bi (st':=⟨xZ,[(1,.row 70 (kV v6)),(5003,.tok 2 90 (([]:List Gq).length))],[]⟩) J8 Nf q))) (tL q h J8 Nf (λu (l2,i3)=>(Cl u [(3,(fA l2)),(4,(Z5 i3))] [(5003,.tok 2 90 l2.length)])) (λu l4=>aG Γ (.exit 0) (⟨[(3,(vl l4 5003))],[(5003,.tok 2 90 l4.length)],[]⟩:St)) (λ⟨l2,i3⟩ y h=>Af q [1,3,4,13] Nf (gC h (λh=>Af q L6 Js (tB h λx23 y23 h=>gJ y23 (λ(i5,i6)=>aG Γ .normal (⟨[CT,(3,(fA l2)),(4,(Z5 i3)),eZ],[(1,.row 70 (kV v6)),(5,.row 90 [(Z5 i5),(Z5 i6)]),(5003,.tok 2 90 l2.length)],[]⟩:St)) (λy h=>Af q [1,3,4,5,22] Js (tB h λx8 y8 h=>gJ y8 (λb7=>aG Γ .normal (⟨[CT,(3,(fA l2)),(4,(Z5 i3)),eZ,(22,(Z5 v6.Kind)),(23,(.bool b7))],(re v6 l2),[]⟩:St)) (λy h=>Af q [1,3,4,5,22,23] Js (gC h (λh=>tS h (gK (Bd Iq))) λh=>Af q [1,3,4,5,22,23] Js (tS h (gK (Bd Iq))))) (gA (gC h (λh=>Af q [1,3,4,5,27] Js (gC h (λh=>Af q L6 Js (tS h (gK (Bd Iq)))) λh=>tS h (gK (Bd (Bi L6 Js q))))) λh=>tB h λx11 y11 h=>gJ y11 (λb10=>aG Γ .normal (⟨[CT,(3,(fA l2)),(4,(Z5 i3)),eZ,(22,(Z5 v6.Kind)),(29,(.bool b10))],(re v6 l2),[]⟩:St)) (λy h=>Af q [1,3,4,5,22,29] Js (gC h (λh=>tS h (gK (Bd Iq))) λh=>Af q [1,3,4,5,22,29] Js (tS h (gK (Bd Iq))))) (gA (gC h (λh=>Af q L6 Js (tS h (gK (Bd Iq)))) λh=>tB h λx14 y14 h=>gJ y14 (λb13=>aG Γ .normal (⟨[CT,(3,(fA l2)),(4,(Z5 i3)),eZ,(22,(Z5 v6.Kind)),(36,(.bool b13))],(re v6 l2),[]⟩:St)) (λy h=>Af q [1,3,4,5,22,36] Js (gC h (λh=>tS h (gK (Bd Iq))) λh=>Af q [1,3,4,5,22,36] Js (tS h (gK (Bd Iq))))) (gA (gC h (λh=>Af q [1,3,4,5,40] Js (gC h (λh=>Af q L6 Js (tS h (gK (Bd Iq)))) λh=>tS h (gK (Bd (Bi L6 Js q))))) λh=>tB h λx17 y17 h=>gJ y17 (λb16=>aG Γ .normal (⟨[CT,(3,(fA l2)),(4,(Z5 i3)),eZ,(22,(Z5 v6.Kind)),(42,(.bool b16))],(re v6 l2),[]⟩:St)) (λy h=>Af q [1,3,4,5,22,42] Js (gC h (λh=>tS h (gK (Bd Iq))) λh=>Af q [1,3,4,5,22,42] Js (tS h (gK (Bd Iq))))) (gA (gC h (λh=>tB h λx21 y21 h=>gJ y21 (λ(i19,i20)=>aG Γ .normal (⟨[CT,(3,(fA l2)),(4,(Z5 i3)),eZ],[(1,.row 70 (kV v6)),(5,.row 90 [(Z5 i19),(Z5 i20)]),(5003,.tok 2 90 l2.length)],[]⟩:St)) (λy h=>Af q [1,3,4,5,46] Js (gC h (λh=>Af q L6 Js (tS h (gK (Bd Iq)))) λh=>tS h (gK (Bd (Bi L6 Js q))))) (match x21,h with|⟨i19,i20⟩,h=>gA (Af q [1,3,4,5,49] Js (gC h (λh=>Af q L6 Js (tS h (gK (Bd Iq)))) λh=>tS h (gK (Bd (Bi L6 Js q))))))) λh=>Af q [1,3,4,5,51] Js (gC h (λh=>Af q L6 Js (tS h (gK (Bd Iq)))) λh=>tS h (gK (Bd (Bi L6 Js q)))))))))))))) (match x23,h with|⟨i5,i6⟩,h=>gA (tC h λc25_ h=>gR q J8 Nf [(58,(AV.list 2 Bo ((0:Int),(0:Int)) ([(i5,i6)]:List Gq) .exact)),(59,(AV.list 2 Bo ((0:Int),(0:Int)) (l2++([(i5,i6)]:List Gq)) (.own 5003)))] [] (c5 (Bp 2 Bo ((0:Int),(0:Int)) ([(i5,i6)]:List Gq)) (Eq.refl l2.length) c25_ (Iz 2 5003 Bo ((0:Int),(0:Int)) l2 ([(i5,i6)]:List Gq)) (E3 l2 ([(i5,i6)]:List Gq))) (Af q J8 Nf (tN h)))))) λh=>tS h (gO (Bd (Bi [3] [5003] q))))) λx26 h=>gA (Af q [2] [5003] (tS h (Cc bZ))))))))
abbrev VS:=(List Cm×Int)
abbrev qd:=(LR (List Cm×Int) (List Cm))
def Gi(a0:TFunc)(i2:Int)(i7:Int):VS->Option qd:=
 λ((l10,i11):VS)=>(bif (decide (i11<(((((a0.Blocks.getD i2.toNat default).Phis).getD i7.toNat default).Args).length:Int))) then(A0 (A1 i11 ((((a0.Blocks.getD i2.toNat default).Phis).getD i7.toNat default).Args).length) (A0 (A1 i11 ((((a0.Blocks.getD i2.toNat default).Phis).getD i7.toNat default).From).length) (A0 (l10.length+([(⟨(((((a0.Blocks.getD i2.toNat default).Phis).getD i7.toNat default).Args).getD i11.toNat 0),(((((a0.Blocks.getD i2.toNat default).Phis).getD i7.toNat default).From).getD i11.toNat 0),(1000:Int),((((a0.Blocks.getD i2.toNat default).Phis).getD i7.toNat default).Bits,(1:Int))⟩:Cm)]:List Cm).length<=room) (some (.next ((l10++([(⟨(((((a0.Blocks.getD i2.toNat default).Phis).getD i7.toNat default).Args).getD i11.toNat 0),(((((a0.Blocks.getD i2.toNat default).Phis).getD i7.toNat default).From).getD i11.toNat 0),(1000:Int),((((a0.Blocks.getD i2.toNat default).Phis).getD i7.toNat default).Bits,(1:Int))⟩:Cm)]:List Cm)),(w64 (i11+1)))))))) else(some (.done l10)))
def Gj(a0:TFunc)(i2:Int):VS->Option qd:=
 λ((l6,i7):VS)=>(bif (decide (i7<(((a0.Blocks.getD i2.toNat default).Phis).length:Int))) then(A0 (A1 i7 ((a0.Blocks.getD i2.toNat default).Phis).length) ((Ac (Gi a0 i2 i7) (l6,(0:Int))).bind (λx16=>(some (.next (x16,(w64 (i7+1)))))))) else(some (.done l6)))
def Gk(a0:TFunc)(i2:Int)(i21:Int)(x24:List KD):VS->Option qd:=
 λ((l25,i26):VS)=>(bif (decide (i26<(x24.length:Int))) then(A0 (A1 i21 ((a0.Blocks.getD i2.toNat default).Ops).length) (A0 (A1 i26 ((((a0.Blocks.getD i2.toNat default).Ops).getD i21.toNat default).Args).length) (A0 (A1 i26 x24.length) (A0 (l25.length+([(⟨(((((a0.Blocks.getD i2.toNat default).Ops).getD i21.toNat default).Args).getD i26.toNat 0),i2,i21,(x24.getD i26.toNat ((0:Int),(0:Int)))⟩:Cm)]:List Cm).length<=room) (some (.next ((l25++([(⟨(((((a0.Blocks.getD i2.toNat default).Ops).getD i21.toNat default).Args).getD i26.toNat 0),i2,i21,(x24.getD i26.toNat ((0:Int),(0:Int)))⟩:Cm)]:List Cm)),(w64 (i26+1))))))))) else(some (.done l25)))
def Gl(a0:TFunc)(i2:Int):VS->Option qd:=
 λ((l20,i21):VS)=>(bif (decide (i21<(((a0.Blocks.getD i2.toNat default).Ops).length:Int))) then(A0 (A1 i21 ((a0.Blocks.getD i2.toNat default).Ops).length) ((Hl (((a0.Blocks.getD i2.toNat default).Ops).getD i21.toNat default)).bind λx24=>((Ac (Gk a0 i2 i21 x24) (l20,(0:Int))).bind (λx32=>(some (.next (x32,(w64 (i21+1))))))))) else(some (.done l20)))
def Io(a0:TFunc):VS->Option qd:=
 λ((l1,i2):VS)=>(bif (decide (i2<(a0.Blocks.length:Int))) then(Option.bind (α:=List Cm) (A0 (A1 i2 a0.Blocks.length) ((Ac (Gj a0 i2) (l1,(0:Int))).bind (λx18=>((Ac (Gl a0 i2) (x18,(0:Int))).bind (λx34=>(Option.bind (α:=List Cm) (bif (((a0.Blocks.getD i2.toNat default).End.Kind:Int)==0) then(A0 (x34.length+([(⟨(a0.Blocks.getD i2.toNat default).End.Arg,i2,(1000:Int),(a0.Ret,(1:Int))⟩:Cm)]:List Cm).length<=room) (some (x34++([(⟨(a0.Blocks.getD i2.toNat default).End.Arg,i2,(1000:Int),(a0.Ret,(1:Int))⟩:Cm)]:List Cm)))) else(some x34)) (λx38=>(bif (((a0.Blocks.getD i2.toNat default).End.Kind:Int)==2) then(A0 (x38.length+([(⟨(a0.Blocks.getD i2.toNat default).End.Arg,i2,(1000:Int),((1:Int),(1:Int))⟩:Cm)]:List Cm).length<=room) (some (x38++([(⟨(a0.Blocks.getD i2.toNat default).End.Arg,i2,(1000:Int),((1:Int),(1:Int))⟩:Cm)]:List Cm)))) else(some x38))))))))) (λx41=>(some (.next (x41,(w64 (i2+1))))))) else(some (.done l1)))
def OM(a0:TFunc)(i2:Int):=(a0.Blocks.getD i2.toNat default)
def rj(a0:TFunc):List AV:=[(Z6 a0.Params),(Z5 a0.Ret),(UF a0.Blocks)]
def ri(a0:TFunc)(i2:Int):=([(⟨(OM a0 i2).End.Arg,i2,(1000:Int),(a0.Ret,(1:Int))⟩:Cm)]:List Cm)
def rh(a0:TFunc)(i2:Int):=([(⟨(OM a0 i2).End.Arg,i2,(1000:Int),((1:Int),(1:Int))⟩:Cm)]:List Cm)
def xc(a0:TFunc):=(⟨[CT,(3,(AV.list 5 O2 default ([]:List Cm) (.own 5003))),(4,L9)],[(1,.row 25 (rj a0)),(5003,.tok 5 96 (([]:List Cm).length))],[]⟩:St)
def rg(a0:TFunc)(i2:Int)(i21:Int)(i26:Int)(x24:List KD):=([(⟨(((((OM a0 i2).Ops).getD i21.toNat default).Args).getD i26.toNat 0),i2,i21,(x24.getD i26.toNat ((0:Int),(0:Int)))⟩:Cm)]:List Cm)
def rf(a0:TFunc)(i2:Int)(i7:Int)(i11:Int):=([(⟨(((((OM a0 i2).Phis).getD i7.toNat default).Args).getD i11.toNat 0),(((((OM a0 i2).Phis).getD i7.toNat default).From).getD i11.toNat 0),(1000:Int),((((OM a0 i2).Phis).getD i7.toNat default).Bits,(1:Int))⟩:Cm)]:List Cm)
def Kt(a0:TFunc):Option (List Cm):=
 ((Ac (Io a0) (([]:List Cm),(0:Int))).bind (λx43=>(some x43)))
variable{v35:List Cm}
theorem Zw(h:Kt v0=some v35):sP 57 [(W9 v0)] [] (AV.list 5 O2 default v35 (.own 20000)) [(Ll 20000 96 v35.length)]:=
 sG Tryz.func57 λΓ q=>gR q [1] [1] [(2,(AV.list 5 O2 default ([]:List Cm) .exact))] [] (c1 (B0 5 O2 (default:Cm))) (gR q L7 [1] [(3,(AV.list 5 O2 default ([]:List Cm) .exact))] [] (c1 (B0 5 O2 (default:Cm))) (Af q J8 [1] (gLe (st':=(xc v0)) (Le.trans (Bi (st':=⟨[CT,(3,(AV.list 5 O2 default ([]:List Cm) .exact)),(4,L9)],[(1,.row 25 (rj v0))],[]⟩) J8 [1] q) (Le.trans (Rm (t:=3) (nm:=5003) (sz':=5) (λi=>O2 (([]:List Cm).getD i default)) 96 rfl rfl (.inl ⟨rfl,rfl⟩) (λh_=>absurd h_ (by decide))) (Bi (st':=(xc v0)) J8 Nf q))) (tL q h J8 Nf (λu (l1,i2)=>(Cl u [(mW l1),(4,(Z5 i2))] [(Ll 5003 96 l1.length)])) (λu l3=>aG Γ (.exit 0) (⟨[(mW l3)],[(Ll 5003 96 l3.length)],[]⟩:St)) (λ⟨l1,i2⟩ y h=>Af q [1,3,4,16] Nf (gC h (λh=>tB h λx41 y41 h=>gJ y41 (λl4=>aG Γ .normal (⟨[CT,(mW l4),(4,(Z5 i2))],[(1,.row 25 (rj v0)),(Ll 5003 96 l4.length)],[]⟩:St)) (λy h=>tV q L6 Js h λh=>Af q So Js (tL q h So Js (λu (l6,i7)=>(Cl u [(mW l6),(6,(Z5 i7))] [(Ll 5003 96 l6.length)])) (λu l8=>aG Γ (.exit 2) (Ni L6 Js u [(mW l8)] [(Ll 5003 96 l8.length)])) (λ⟨l6,i7⟩ y h=>Af q [1,3,4,5,6,28] Js (gC h (λh=>tV q [1,3,4,5,6,7] KP h λh=>Af q bU KP (tL q h bU KP (λu (l10,i11)=>(Cl u [(mW l10),(8,(Z5 i11))] [(Ll 5003 96 l10.length)])) (λu l12=>aG Γ (.exit 4) (Ni So Js u [(mW l12)] [(Ll 5003 96 l12.length)])) (λ⟨l10,i11⟩ y h=>Af q [1,3,4,5,6,7,8,40] KP (gC h (λh=>tC h λc13_ h=>tC h λc14_ h=>tC h λc15_ h=>gR q bU KP (zx 58 (rf v0 i2 i7 i11) 59 l10) [] (c7 c13_ c14_ (Bp 5 O2 (default:Cm) (rf v0 i2 i7 i11)) (Eq.refl l10.length) c15_ (Iz 5 5003 O2 (default:Cm) l10 (rf v0 i2 i7 i11)) (E3 l10 (rf v0 i2 i7 i11))) (Af q bU KP (tN h))) λh=>tS h (gO (Bd (Bi So Js q))))) λx16 h=>gA (Af q So Js (tN h)))) λh=>tS h (gO (Bd (Bi L6 Js q))))) λx18 h=>gA (Af q TI Js (tL q h TI Js (λu (l20,i21)=>(Cl u [(mW l20),(9,(Z5 i21))] [(Ll 5003 96 l20.length)])) (λu l22=>aG Γ (.exit 6) (Ni L6 Js u [(mW l22)] [(Ll 5003 96 l22.length)])) (λ⟨l20,i21⟩ y h=>Af q [1,3,4,5,9,64] Js (gC h (λh=>tC h λc23_ h=>tB h λx24 y24 h=>tT q [1,3,4,5,9,10] YP [⟨[],[(20000,72)],(vl x24 20000),[(20000,.tok 2 90 x24.length)],[],[]⟩] (c2 c23_ (X6 y24)) (Af q bR YP (tL q h bR YP (λu (l25,i26)=>(Cl u [(mW l25),(11,(Z5 i26))] [(Ll 5003 96 l25.length)])) (λu l27=>aG Γ (.exit 8) (Ni TI Js u [(mW l27)] [(Ll 5003 96 l27.length)])) (λ⟨l25,i26⟩ y h=>Af q [1,3,4,5,9,10,11,76] YP (gC h (λh=>tC h λc28_ h=>tC h λc29_ h=>tC h λc30_ h=>tC h λc31_ h=>gR q bR YP (zx 96 (rg v0 i2 i21 i26 x24) 97 l25) [] (c8 c28_ c29_ c30_ (Bp 5 O2 (default:Cm) (rg v0 i2 i21 i26 x24)) (Eq.refl l25.length) c31_ (Iz 5 5003 O2 (default:Cm) l25 (rg v0 i2 i21 i26 x24)) (E3 l25 (rg v0 i2 i21 i26 x24))) (Af q bR YP (tN h))) λh=>tS h (gO (Bd (Bi TI Js q))))) λx32 h=>gA (Af q TI Js (tN h))))) λh=>tS h (gO (Bd (Bi L6 Js q))))) λx34 h=>gA (tB h λx38 y38 h=>gJ y38 (λl36=>aG Γ .normal (⟨[CT,(mW l36),(4,(Z5 i2)),eZ],[(1,.row 25 (rj v0)),(5,.row 64 [(AV.list 4 Eo default (OM v0 i2).Phis .none),(AV.list 6 J6 default (OM v0 i2).Ops .none),(.int .i64 (OM v0 i2).End.Kind),(.int .i64 (OM v0 i2).End.Arg),(AV.list 1 Ap 0 (OM v0 i2).End.To .none)]),(Ll 5003 96 l36.length)],[]⟩:St)) (λy h=>Af q [1,3,4,5,101] Js (gC h (λh=>tC h λc37_ h=>gR q L6 Js (zx 111 (ri v0 i2) 112 x34) [] (c5 (Bp 5 O2 (default:Cm) (ri v0 i2)) (Eq.refl x34.length) c37_ (Iz 5 5003 O2 (default:Cm) x34 (ri v0 i2)) (E3 x34 (ri v0 i2))) (tS h (gK (Bd Iq)))) λh=>tS h (gK (Bd (Bi L6 Js q))))) (gA (Af q [1,3,4,5,116] Js (gC h (λh=>tC h λc40_ h=>gR q J8 Nf (zx 124 (rh v0 i2) 125 x38) [] (c5 (Bp 5 O2 (default:Cm) (rh v0 i2)) (Eq.refl x38.length) c40_ (Iz 5 5003 O2 (default:Cm) x38 (rh v0 i2)) (E3 x38 (rh v0 i2))) (tS h (gK (Bd Iq)))) λh=>tS h (gK (Bd (Bi J8 Nf q))))))))))) (gA (Af q J8 Nf (tN h)))) λh=>tS h (gO (Bd (Bi [3] [5003] q))))) λx43 h=>gA (Af q [2] [5003] (tS h (Cc bZ)))))))
def Ij(aI:TGraph)(aL:TGraph):Int->Option (LR Int (Unit ⊕ Bool)):=
 λ(i1:Int)=>(bif (decide (i1<(aI.Succ.length:Int))) then(A0 (A1 i1 aI.Succ.length) (A0 (A1 i1 aL.Succ.length) ((Dp (aI.Succ.getD i1.toNat []) (aL.Succ.getD i1.toNat [])).bind λx4=>(bif (!x4) then(some (.done (.inr false))) else(some (.next (w64 (i1+1)))))))) else(some (.done (.inl ()))))
def Ik(aI:TGraph)(aL:TGraph):Int->Option (LR Int (Unit ⊕ Bool)):=
 λ(i7:Int)=>(bif (decide (i7<(aI.Pred.length:Int))) then(A0 (A1 i7 aI.Pred.length) (A0 (A1 i7 aL.Pred.length) ((Dp (aI.Pred.getD i7.toNat []) (aL.Pred.getD i7.toNat [])).bind λx10=>(bif (!x10) then(some (.done (.inr false))) else(some (.next (w64 (i7+1)))))))) else(some (.done (.inl ()))))
def R7(Γ:H5)(aI:TGraph)(aL:TGraph)(r:Bool):Exit->St->Prop:=fK Tryz.prog Γ Tryz.f149.results.toList [] (.bool r) []
def Aaf(aI:TGraph)(aL:TGraph):=(((aI.Succ.length:Int)!=(aL.Succ.length:Int))==false)
def Kp(aI:TGraph)(aL:TGraph):Option Bool:=
 (bif (bif ((aI.Succ.length:Int)!=(aL.Succ.length:Int)) then true else((aI.Pred.length:Int)!=(aL.Pred.length:Int))) then(some false) else((Ac (Ij aI aL) (0:Int)).bind (λx5=>(match x5 with|(.inl _)=>((Ac (Ik aI aL) (0:Int)).bind (λx11=>(match x11 with|(.inl _)=>(some true)|(.inr r13)=>(some r13))))|(.inr r14)=>(some r14)))))
variable{v36:TGraph}
theorem Zs(h:Kp v18 v36=some v3):sP 149 [(.agg (Us v18)),(.agg (Us v36))] [] (.bool v3) []:=
 sG Tryz.func149 λΓ q=>Af q E0 E0 (tU q [2,3,22] E0 (gI6 (Aaf v18 v36) (c1 (Ng ((v18.Succ.length:Int)!=(v36.Succ.length:Int))))) (gC h (λh=>Af q [4] [] (tS h (Cc []))) λh=>Af q [2,3,5] E0 (tL q h [2,3,5] E0 (λu i1=>(Cl u [(5,(Z5 i1))] [])) (λu x_=>match x_ with|(.inl _)=>aG Γ (.exit 0) (Ni E0 E0 u [] [])|(.inr r_)=>aR (R7 Γ v18 v36 r_)) (λi1 y h=>Af q [2,3,5,27] E0 (gC h (λh=>tC h λc2_ h=>tC h λc3_ h=>tB h λx4 y4 h=>tT q [2,3,5,41] E0 [(Z2 x4)] (c3 c2_ c3_ (J2 y4)) (gC h (λh=>Af q [4] [] (tS h (gO (Lm (H6 [] (Le.refl _ _)))))) λh=>Af q [2,3,5] E0 (tN h))) λh=>tS h (gO (Bd (Bi E0 E0 q))))) λx5 h=>(match x5,h with | .inl _,h=>gA (Af q [2,3,6] E0 (tL q h [2,3,6] E0 (λu i7=>(Cl u [(6,(Z5 i7))] [])) (λu x_=>match x_ with|(.inl _)=>aG Γ (.exit 2) (⟨[],[],[]⟩:St)|(.inr r_)=>aR (R7 Γ v18 v36 r_)) (λi7 y h=>Af q [2,3,6,46] E0 (gC h (λh=>tC h λc8_ h=>tC h λc9_ h=>tB h λx10 y10 h=>tT q [2,3,6,60] E0 [(Z2 x10)] (c3 c8_ c9_ (J2 y10)) (gC h (λh=>Af q [4] [] (tS h (gO (Lm (H6 [] (Le.refl _ _)))))) λh=>Af q [2,3,6] E0 (tN h))) λh=>tS h (gO (Bd (Bi [] [] q))))) λx11 h=>(match x11,h with | .inl _,h=>gA (Af q [4] [] (tS h (Cc []))) | .inr r13,h=>O3 (λst' hk=>tS h (gK hk))))) | .inr r14,h=>O3 (λst' hk=>tS h (gK hk))))))
def Lp(a4:TGraph):Option Bool:=
 ((H2 a4.Succ).bind λx1=>((bif ((x1.2==0)==true) then Kp x1.1 a4 else some false).bind λx2=>(some (bif (x1.2==0) then x2 else false))))
theorem BM(h:Lp v18=some v3):sP 101 [(.agg (Us v18))] [] (.bool v3) []:=
 sG Tryz.func101 λΓ q=>Af q [1] [1] (tB h λx1 y1 h=>tT q J8 L7 [(vm x1.1 x1.2)] (c1 (Rg y1)) (tB h λx2 y2 h=>tT q [2] [] [(Z2 x2)] (M4 ((x1.2==0)==true) (c2 (λ(hg:((x1.2==0)==true)=true)=>(Zs (Bq hg y2))) (Nh (x1.2==0)))) (tS h (Cc []))))
def Df(a4:TGraph)(x2:List Bool)(i4:Int)(l5:List (List Bool))(x9:List Bool):Zz->Option bN:=
 λ((i10,l11):Zz)=>(bif (decide (i10<(a4.Succ.length:Int))) then(A0 (A1 i4 l5.length) (A0 (A1 i10 x2.length) (A0 (((x2.getD i10.toNat false)==true)=true->(A1 i10 x9.length)) (A0 (A1 i10 l11.length) (some (.next ((w64 (i10+1)),(l11.set i10.toNat (bif (x2.getD i10.toNat false) then(!(x9.getD i10.toNat false)) else false))))))))) else(some (.done l11)))
abbrev zU:=(Int×List (List Bool))
def Il(a4:TGraph)(a2:Int)(x2:List Bool):zU->Option (LR (Int×List (List Bool)) (List (List Bool))):=
 λ((i4,l5):zU)=>(bif (decide (i4<(a4.Succ.length:Int))) then(A0 (0<=(a4.Succ.length:Int)/\(a4.Succ.length:Int)<=(a4.Succ.length:Int)/\(a4.Succ.length:Int)<=(room:Int)) (A0 (A1 i4 l5.length) ((C7 a4 a2 i4).bind λx9=>((Ac (Df a4 x2 i4 l5 x9) ((0:Int),(List.replicate (a4.Succ.length:Int).toNat false))).bind (λx17=>(some (.next ((w64 (i4+1)),(l5.set i4.toNat x17))))))))) else(some (.done l5)))
def Dg(a4:TGraph)(l6:List (List Bool))(i22:Int)(i30:Int):(Bool×Int)->Option (LR (Bool×Int) Bool):=
 λ((b36,i37):(Bool×Int))=>(bif (decide (i37<(a4.Succ.length:Int))) then(A0 (((b36==true)&&((i37==i22)==false))=true->(A1 i37 l6.length)) (A0 (((b36==true)&&((i37==i22)==false))=true->(A1 i22 (l6.getD i37.toNat []).length)) (A0 (((b36==true)&&((bif (i37==i22) then true else(!((l6.getD i37.toNat []).getD i22.toNat false)))==false))=true->(A1 i37 l6.length)) (A0 (((b36==true)&&((bif (i37==i22) then true else(!((l6.getD i37.toNat []).getD i22.toNat false)))==false))=true->(A1 i30 (l6.getD i37.toNat []).length)) (some (.next ((bif b36 then(bif (bif (i37==i22) then true else(!((l6.getD i37.toNat []).getD i22.toNat false))) then true else((l6.getD i37.toNat []).getD i30.toNat false)) else false),(w64 (i37+1))))))))) else(some (.done b36)))
def B3(a4:TGraph)(a2:Int)(l6:List (List Bool))(i22:Int):CE->Option qW:=
 λ((i30,l31):CE)=>(bif (bif (decide (i30<(a4.Succ.length:Int))) then(i22 !=a2) else false) then(Option.bind (α:=Ar) (A0 (((i30==i22)==false)=true->(A1 i30 l6.length)) (A0 (((i30==i22)==false)=true->(A1 i22 (l6.getD i30.toNat []).length)) (bif (bif (i30==i22) then true else(!((l6.getD i30.toNat []).getD i22.toNat false))) then(some l31) else((Ac (Dg a4 l6 i22 i30) (true,(0:Int))).bind (λx43=>(bif x43 then(A0 (A1 i22 l31.length) (some (l31.set i22.toNat i30))) else(some l31))))))) (λx46=>(some (.next ((w64 (i30+1)),x46))))) else(some (.done l31)))
def Dh(a4:TGraph)(a2:Int)(l6:List (List Bool)):CE->Option qW:=
 λ((i22,l23):CE)=>(bif (decide (i22<(a4.Succ.length:Int))) then(A0 (A1 i22 l23.length) (Option.bind (α:=Ar) (bif (i22==a2) then(A0 (A1 i22 (l23.set i22.toNat (-2:Int)).length) (some ((l23.set i22.toNat (-2:Int)).set i22.toNat (-1:Int)))) else(some (l23.set i22.toNat (-2:Int)))) (λx28=>((Ac (B3 a4 a2 l6 i22) ((0:Int),x28)).bind (λx48=>(some (.next ((w64 (i22+1)),x48)))))))) else(some (.done l23)))
def P9(a4:TGraph):=(a4.Succ.length:Int)
def fD:=(λn_=>Bw n_ [37,75])
def P8(l5:List (List Bool)):=(λi=>ZO (l5.getD i []))
def ON(a4:TGraph):=(List.replicate (P9 a4).toNat false)
def bv(a4:TGraph):List AV:=[(.vsl 46 (ON a4).length)]
def mz(i30:Int)(i22:Int):=((i30==i22)==false)
def UM(l23:Ar)(i22:Int):=(l23.set i22.toNat (-2:Int))
def ka(l11:List Bool):=(λi=>eB (l11.getD i false))
def kZ:=(λn_=>Bw n_ [2,35,37,46])
def OO:=(λn_=>Bw n_ [2,35,37,46,51])
def UL(a4:TGraph):=(λi=>eB ((ON a4).getD i false))
def MY(l11:List Bool)(i10:Int)(x2:List Bool)(x9:List Bool):=(l11.set i10.toNat (bif (x2.getD i10.toNat false) then(!(x9.getD i10.toNat false)) else false))
def fC(l11:List Bool)(i10:Int)(x2:List Bool)(x9:List Bool):=(λi=>eB ((MY l11 i10 x2 x9).getD i false))
def kY(b36:Bool)(i37:Int)(i22:Int):=((b36==true)&&((i37==i22)==false))
def rp:List MK:=[(4,fG)]
def xd(x1:Bool)(a2:Int):=(bif (!x1) then true else(decide (a2<0)))
def Qe(a4:TGraph):List AV:=[(NM a4.Succ),(NM a4.Pred)]
def xe:=(Z33:St)
def kX(b36:Bool)(i37:Int)(i22:Int)(x19:List (List Bool)):=((b36==true)&&((bif (i37==i22) then true else(!((x19.getD i37.toNat []).getD i22.toNat false)))==false))
def fB(a2:Int)(a4:TGraph)(x2:List Bool)(l5:List (List Bool))(i4:Int):List MK:=[(1,(Z5 a2)),Uk,(5,(Z5 (P9 a4))),(6,(NL x2 35)),(Vl 37 l5.length),(8,(Z5 i4))]
def rm(a2:Int)(a4:TGraph)(x2:List Bool)(l5:List (List Bool))(i4:Int):List MK:=[(1,(Z5 a2)),Uk,(5,(Z5 (P9 a4))),(6,(NL x2 35)),(Vl 37 l5.length),(8,(.int .i64 (w64 (i4+1))))]
def rl(a2:Int)(a4:TGraph)(x2:List Bool)(l5:List (List Bool))(i4:Int)(x9:List Bool)(i10:Int):List MK:=[(1,(Z5 a2)),Uk,(5,(Z5 (P9 a4))),(6,(NL x2 35)),(Vl 37 l5.length),(8,(Z5 i4)),(9,(NL x9 51)),(10,(Z5 i10))]
def my(a2:Int)(a4:TGraph)(x2:List Bool)(l5:List (List Bool))(i4:Int)(x9:List Bool):List MK:=[(1,(Z5 a2)),Uk,(5,(Z5 (P9 a4))),(6,(NL x2 35)),(Vl 37 l5.length),(8,(Z5 i4)),(9,(NL x9 51)),(10,L9)]
def rk(a2:Int)(a4:TGraph)(x2:List Bool)(l5:List (List Bool))(i4:Int)(x9:List Bool)(i10:Int):List MK:=[(1,(Z5 a2)),Uk,(5,(Z5 (P9 a4))),(6,(NL x2 35)),(Vl 37 l5.length),(8,(Z5 i4)),(9,(NL x9 51)),(10,(.int .i64 (w64 (i10+1))))]
def xf(a2:Int)(a4:TGraph)(x2:List Bool)(l5:List (List Bool))(i4:Int)(x9:List Bool)(i10:Int):List MK:=[(1,(Z5 a2)),Uk,(5,(Z5 (P9 a4))),(6,(NL x2 35)),(Vl 37 l5.length),(8,(Z5 i4)),(9,(NL x9 51)),(10,(Z5 i10)),(54,(.bool (decide (i10<(P9 a4)))))]
def Kr(a4:TGraph)(a2:Int):Option Ar:=
 ((Lp a4).bind λx1=>(bif (bif (bif (!x1) then true else(decide (a2<0))) then true else(decide ((a4.Succ.length:Int)<=a2))) then(some ([]:Ar)) else((C7 a4 a2 (-1:Int)).bind λx2=>(A0 (0<=(a4.Succ.length:Int)/\(a4.Succ.length:Int)<=(a4.Succ.length:Int)/\(a4.Succ.length:Int)<=(room:Int)) ((Ac (Il a4 a2 x2) ((0:Int),(List.replicate (a4.Succ.length:Int).toNat ([]:List Bool)))).bind (λx19=>(A0 (0<=(a4.Succ.length:Int)/\(a4.Succ.length:Int)<=(a4.Succ.length:Int)/\(a4.Succ.length:Int)<=(room:Int)) ((Ac (Dh a4 a2 x19) ((0:Int),(List.replicate (a4.Succ.length:Int).toNat (0:Int)))).bind (λx50=>(some x50))))))))))
theorem Zu(h:Kr v18 v1=some v2):sP 58 (sH v18 v1) [] (V8 v2 20000) [(Yt 20000 v2.length)]:=
 sG Tryz.func58 λΓ q=>have hΓ:=q.own;gR q Ee [2] rp [] (c1 (B0 1 Ap (0:Int))) (tB h λx1 y1 h=>tT q [1,2,29] [2] [(Z2 x1)] (ZM (BM y1) (gI ((!x1)==false)) (Ng (!x1)) (ZR ((xd x1 v1)==false) (c1 (Ng (xd x1 v1))))) (gC h (λh=>gR q [4] [] rp [] (c1 (B0 1 Ap (0:Int))) (Qc (⟨rp,[],[]⟩:St) (tS h (gK (e:=.ret) (H6 bW (show Le Γ _ xe from Le.trans (Bi (st':=⟨rp,[],[]⟩) [4] [] q) (Le.trans (Rm (t:=4) (nm:=6004) (sz':=1) (λi=>Ap (([]:Ar).getD i 0)) 3 rfl rfl (.inl ⟨rfl,rfl⟩) (λh_=>absurd h_ (by decide))) (Bi (st':=xe) [4] [6004] q)))))))) λh=>Af q V4 [2] (tB h λx2 y2 h=>tT q [1,2,5,6] [2,35] [(xE 35 x2 x2.length)] (c1 (Mi y2)) (tV q iS KS h λh=>by exact gLe (Le.trans (Sr 37 (show ∀ k_,k_<((P9 v18).toNat)->AVleL ((λi_=>AV.eraseAll (λn_=>Bw n_ KS) ((λ_=>[Z0]) i_)) k_) ((λi=>ZO ((List.replicate (P9 v18).toNat ([]:List Bool)).getD i [])) k_) from(λk hk=>M7 (e:=ZO) (d:=[]) (.cons (λ_ _ _ _ _ hh=>AVle.untag _ _ _ _ _ (El _ _ _ _ _ hh)) .nil) _ k (M8 hk)))) (Sa (λ(k_:Nat) u=>(Cl u [(Vl 37 k_)] [(37,.arr 1 81 k_ (λi=>ZO ((List.replicate (P9 v18).toNat ([]:List Bool)).getD i [])))])) (show(P9 v18).toNat=(List.replicate (P9 v18).toNat ([]:List Bool)).length from(N9 ..).symm))) (Af q YN KS (tL q h YN KS (λu (i4,l5)=>(Cl u [(Vl 37 l5.length),(8,(Z5 i4))] [(37,.arr 1 81 l5.length (P8 l5))])) (λu l6=>aG Γ (.exit 0) (Ni [1,5,7] [37] u [(Vl 37 l6.length)] [(37,.arr 1 81 l6.length (λi=>ZO (l6.getD i [])))])) (λ⟨i4,l5⟩ y h=>Af q [1,2,5,6,7,8,40] KS (gC h (λh=>tC h λc7_ h=>tC h λc8_ h=>tU q YN iY (c3 c7_ c8_ (Eq.refl l5.length)) (Qc (⟨(fB v1 v18 x2 l5 i4),[(Pu 56 (Qe v18)),(Q9 35 x2.length),(37,.arr 1 81 l5.length (λi_=>AV.eraseAll kZ ((Fc (P8 l5) i4.toNat 0 [(.vsl 46 (P9 v18).toNat)]) i_))),(46,.arr 1 4 ((P9 v18).toNat) (λi_=>AV.eraseAll kZ ((λ_=>[(.bool false)]) i_)))],[]⟩:St) (by exact gLe (Le.trans (Le.trans (I8 (st':=⟨(fB v1 v18 x2 l5 i4),[(Pu 56 (Qe v18)),(Q9 35 x2.length),(37,.arr 1 81 l5.length (λi_=>AV.eraseAll kZ ((Fc (P8 l5) i4.toNat 0 [(.vsl 46 (P9 v18).toNat)]) i_))),(46,.arr 1 4 ((P9 v18).toNat) (UL v18))],[]⟩) (TmpsLe.refl _) (.same (.same (.same (.arr (λk hk=>M7 (e:=eB) (d:=false) (.cons (AVle.refl _) .nil) _ k (M8 hk)) .nil))))) (Gt (Bg (λk_:Nat=>(⟨(fB v1 v18 x2 l5 i4),[(Pu 56 (Qe v18)),(Q9 35 x2.length),(vj l5.length kZ (P8 l5) i4.toNat k_),(46,.arr 1 4 k_ (UL v18))],[]⟩:St)) (show(P9 v18).toNat=(ON v18).length from(N9 ..).symm)))) (I8 (st':=⟨(fB v1 v18 x2 l5 i4),[(Pu 56 (Qe v18)),(Q9 35 x2.length),(37,.arr 1 81 l5.length (Fc (P8 l5) i4.toNat 0 (bv v18))),(46,.arr 1 4 ((ON v18).length) (UL v18))],[]⟩) (TmpsLe.refl _) (.same (.same (.arr (Mw (λ_=>rfl) rfl) (.same .nil)))))) (tB h λx9 y9 h=>tT q [1,2,5,6,7,8,9] UB [(xE 51 x9 x9.length)] (c1 (Mi y9)) (Qc (⟨[(1,(Z5 v1)),Uk,(5,(Z5 (P9 v18))),(6,(NL x2 35)),(Vl 37 l5.length),(8,(Z5 i4)),(9,(NL x9 51))],[(Pu 56 (Qe v18)),(Q9 35 x2.length),(37,.arr 1 81 l5.length (λi_=>AV.eraseAll OO ((Fc (P8 l5) i4.toNat 0 (bv v18)) i_))),(46,.arr 1 4 ((ON v18).length) (UL v18)),(Q9 51 x9.length)],[]⟩:St) (gLe (I8 (st':=⟨[(1,(Z5 v1)),Uk,(5,(Z5 (P9 v18))),(6,(NL x2 35)),(Vl 37 l5.length),(8,(Z5 i4)),(9,(NL x9 51))],[(Pu 56 (Qe v18)),(Q9 35 x2.length),(37,.arr 1 81 l5.length (Fc (P8 l5) i4.toNat 0 (bv v18))),(46,.arr 1 4 ((ON v18).length) (UL v18)),(Q9 51 x9.length)],[]⟩) (TmpsLe.refl _) (.same (.same (.arr (Mw (λ_=>rfl) rfl) (.same (.same .nil)))))) (Af q eS UB (Qc (⟨(my v1 v18 x2 l5 i4 x9),[(Pu 56 (Qe v18)),(Q9 35 x2.length),(37,.arr 1 81 l5.length (λi_=>AV.eraseAll OO ((Fc (P8 l5) i4.toNat 0 (bv v18)) i_))),(46,.arr 1 4 ((ON v18).length) (UL v18)),(Q9 51 x9.length)],[]⟩:St) (gLe (I8 (st':=⟨(my v1 v18 x2 l5 i4 x9),[(Pu 56 (Qe v18)),(Q9 35 x2.length),(37,.arr 1 81 l5.length (Fc (P8 l5) i4.toNat 0 (bv v18))),(46,.arr 1 4 ((ON v18).length) (UL v18)),(Q9 51 x9.length)],[]⟩) (TmpsLe.refl _) (.same (.same (.arr (Mw (λ_=>rfl) rfl) (.same (.same .nil)))))) (gLe (st':=⟨(my v1 v18 x2 l5 i4 x9),[(Pu 56 (Qe v18)),(Q9 35 x2.length),(37,.arr 1 81 l5.length (Fc (P8 l5) i4.toNat 0 (bv v18))),(46,.arr 1 4 ((ON v18).length) (UL v18)),(Q9 51 x9.length)],[]⟩) (Le.trans (Le.trans (Bi (st':=⟨(my v1 v18 x2 l5 i4 x9),[(Pu 56 (Qe v18)),(Q9 35 x2.length),(37,.arr 1 81 l5.length (λi_=>AV.eraseAll OO ((Fc (P8 l5) i4.toNat 0 (bv v18)) i_))),(46,.arr 1 4 ((ON v18).length) (UL v18)),(Q9 51 x9.length)],[]⟩) eS UB q) (I8 (st':=⟨(my v1 v18 x2 l5 i4 x9),[(Pu 56 (Qe v18)),(Q9 35 x2.length),(37,.arr 1 81 l5.length (Fc (P8 l5) i4.toNat 0 (bv v18))),(46,.arr 1 4 ((ON v18).length) (UL v18)),(Q9 51 x9.length)],[]⟩) (TmpsLe.refl _) (.same (.same (.arr (Mw (λ_=>rfl) rfl) (.same (.same .nil))))))) (Gt (by kernel_rfl))) (tB h λx17 y17 h=>gL0 y17 (λu (i10,l11)=>(Cl u [(10,(Z5 i10))] [(yT l5.length (P8 l5) i4.toNat l11.length),(46,.arr 1 4 l11.length (ka l11))])) (λu l12=>aG Γ (.exit 2) (⟨(fB v1 v18 x2 l5 i4),[(Pu 56 (Qe v18)),(Q9 35 x2.length),(yT l5.length (P8 l5) i4.toNat l12.length),(Z9 46 l12)],[]⟩:St)) (λ⟨i10,l11⟩ y h=>Af q [1,2,5,6,7,8,9,10,54] UB (Qc (⟨(xf v1 v18 x2 l5 i4 x9 i10),[(Pu 56 (Qe v18)),(Q9 35 x2.length),(vj l5.length OO (P8 l5) i4.toNat l11.length),(46,.arr 1 4 l11.length (ka l11)),(Q9 51 x9.length)],[]⟩:St) (gLe (I8 (st':=⟨(xf v1 v18 x2 l5 i4 x9 i10),[(Pu 56 (Qe v18)),(Q9 35 x2.length),(yT l5.length (P8 l5) i4.toNat l11.length),(46,.arr 1 4 l11.length (ka l11)),(Q9 51 x9.length)],[]⟩) (TmpsLe.refl _) (.same (.same (.arr (Mw (λ_=>rfl) rfl) (.same (.same .nil)))))) (gC h (λh=>tC h λc13_ h=>tC h λc14_ h=>tC h λc15_ h=>tC h λc16_ h=>gR q eS UB [(60,(.vsl 46 l11.length))] [] (d4_ c13_ (Eq.refl l5.length) (show(AVle (((Fc (P8 l5) i4.toNat 0 [(.vsl 46 l11.length)]) i4.toNat).getD 0 .any) (.vsl 46 l11.length)) from lR) c14_ (M4 ((x2.getD i10.toNat false)==true) (ci c15_ (M4 ((x2.getD i10.toNat false)==true) (c3 (Nh (x2.getD i10.toNat false)) c16_ (Eq.refl l11.length)))))) (Qc (⟨(rl v1 v18 x2 l5 i4 x9 i10),[(Pu 56 (Qe v18)),(Q9 35 x2.length),(vj l5.length OO (P8 l5) i4.toNat l11.length),(46,.arr 1 4 l11.length (λi_=>AV.eraseAll OO ((Fc (ka l11) i10.toNat 0 [(.bool (bif (x2.getD i10.toNat false) then(!(x9.getD i10.toNat false)) else false))]) i_))),(Q9 51 x9.length)],[]⟩:St) (gLe (Le.trans (Le.trans (I8 (st':=⟨(rl v1 v18 x2 l5 i4 x9 i10),[(Pu 56 (Qe v18)),(Q9 35 x2.length),(vj l5.length OO (P8 l5) i4.toNat l11.length),(46,.arr 1 4 l11.length (fC l11 i10 x2 x9)),(Q9 51 x9.length)],[]⟩) (TmpsLe.refl _) (.same (.same (.same (.arr (Bh (C8 ..).symm (λk_ hk_=>(Bg (AV.eraseAll OO) ((Fu (λ_ _=>rfl) (Hv c16_) rfl) k_ hk_)).trans rfl)) (.same .nil)))))) (Gt (Bg (λk_:Nat=>(⟨(rl v1 v18 x2 l5 i4 x9 i10),[(Pu 56 (Qe v18)),(Q9 35 x2.length),(vj l5.length OO (P8 l5) i4.toNat k_),(46,.arr 1 4 k_ (fC l11 i10 x2 x9)),(Q9 51 x9.length)],[]⟩:St)) (show l11.length=(MY l11 i10 x2 x9).length from(C8 ..).symm)))) (I8 (st':=⟨(rl v1 v18 x2 l5 i4 x9 i10),[(Pu 56 (Qe v18)),(Q9 35 x2.length),(37,.arr 1 81 l5.length (Fc (P8 l5) i4.toNat 0 [(.vsl 46 (MY l11 i10 x2 x9).length)])),(46,.arr 1 4 ((MY l11 i10 x2 x9).length) (fC l11 i10 x2 x9)),(Q9 51 x9.length)],[]⟩) (TmpsLe.refl _) (.same (.same (.arr (Mw (λ_=>rfl) rfl) (.same (.same .nil))))))) (Af q eS UB (Qc (⟨(rk v1 v18 x2 l5 i4 x9 i10),[(Pu 56 (Qe v18)),(Q9 35 x2.length),(37,.arr 1 81 l5.length (λi_=>AV.eraseAll OO ((Fc (P8 l5) i4.toNat 0 [(.vsl 46 (MY l11 i10 x2 x9).length)]) i_))),(46,.arr 1 4 ((MY l11 i10 x2 x9).length) (fC l11 i10 x2 x9)),(Q9 51 x9.length)],[]⟩:St) (tS h (gN (Le.trans (I8 (st':=⟨(rk v1 v18 x2 l5 i4 x9 i10),[(Pu 56 (Qe v18)),(Q9 35 x2.length),(37,.arr 1 81 l5.length (Fc (P8 l5) i4.toNat 0 [(.vsl 46 (MY l11 i10 x2 x9).length)])),(46,.arr 1 4 ((MY l11 i10 x2 x9).length) (fC l11 i10 x2 x9)),(Q9 51 x9.length)],[]⟩) (TmpsLe.refl _) (.same (.same (.arr (Mw (λ_=>rfl) rfl) (.same (.same .nil)))))) (Le.trans (Le.trans (Bi (st':=⟨(rk v1 v18 x2 l5 i4 x9 i10),[(Pu 56 (Qe v18)),(Q9 35 x2.length),(37,.arr 1 81 l5.length (λi_=>AV.eraseAll OO ((Fc (P8 l5) i4.toNat 0 [(.vsl 46 (MY l11 i10 x2 x9).length)]) i_))),(46,.arr 1 4 ((MY l11 i10 x2 x9).length) (fC l11 i10 x2 x9)),(Q9 51 x9.length)],[]⟩) eS UB q) (I8 (st':=⟨(rk v1 v18 x2 l5 i4 x9 i10),[(Pu 56 (Qe v18)),(Q9 35 x2.length),(37,.arr 1 81 l5.length (Fc (P8 l5) i4.toNat 0 [(.vsl 46 (MY l11 i10 x2 x9).length)])),(46,.arr 1 4 ((MY l11 i10 x2 x9).length) (fC l11 i10 x2 x9)),(Q9 51 x9.length)],[]⟩) (TmpsLe.refl _) (.same (.same (.arr (Mw (λ_=>rfl) rfl) (.same (.same .nil))))))) (Gt (by kernel_rfl))))))))))) λh=>tS h (gO (Bd (Le.trans (Le.trans (Bi (st':=⟨(fB v1 v18 x2 l5 i4),[(Pu 56 (Qe v18)),(Q9 35 x2.length),(vj l5.length kZ (P8 l5) i4.toNat l11.length),(46,.arr 1 4 l11.length (ka l11))],[]⟩) YN iY q) (I8 (st':=⟨(fB v1 v18 x2 l5 i4),[(Pu 56 (Qe v18)),(Q9 35 x2.length),(yT l5.length (P8 l5) i4.toNat l11.length),(46,.arr 1 4 l11.length (ka l11))],[]⟩) (TmpsLe.refl _) (.same (.same (.arr (Mw (λ_=>rfl) rfl) (.same .nil)))))) (Gt (by kernel_rfl))))))))) (gA (Af q YN iY (Qc (⟨(rm v1 v18 x2 l5 i4),[(Pu 56 (Qe v18)),(Q9 35 x2.length),(vj l5.length kZ (P8 l5) i4.toNat x17.length),(Z9 46 x17)],[]⟩:St) (tS h (gN (Le.trans (Le.trans (I8 (st':=⟨(rm v1 v18 x2 l5 i4),[(Pu 56 (Qe v18)),(Q9 35 x2.length),(yT l5.length (P8 l5) i4.toNat x17.length),(Z9 46 x17)],[]⟩) (TmpsLe.refl _) (.same (.same (.arr (Mw (λ_=>rfl) rfl) (.same .nil))))) (Le.trans (Le.trans (Le.trans (le_freeze (nm:=46) (sz:=1) (n:=x17.length) (e:=4) (f:=(λi=>eB (x17.getD i false))) (g:=(λi=>eB (x17.getD i false))) rfl trivial (λ_ _=>rfl) (by rw[hΓ];rfl)) (Gt (st':=⟨(rm v1 v18 x2 l5 i4),[(Pu 56 (Qe v18)),(Q9 35 x2.length),(37,.arr 1 81 l5.length (λi_=>AV.frwAll 46 1 x17.length (λi=>eB (x17.getD i false)) ((Fc (P8 l5) i4.toNat 0 [(.vsl 46 x17.length)]) i_))),(Q9 46 x17.length)],[]⟩) (by kernel_rfl))) (I8 (st':=⟨(rm v1 v18 x2 l5 i4),[(Pu 56 (Qe v18)),(Q9 35 x2.length),(37,.arr 1 81 l5.length (λi=>ZO ((l5.set i4.toNat x17).getD i []))),(Q9 46 x17.length)],[]⟩) (TmpsLe.refl _) (.same (.same (.arr (pB (λ_=>rfl) (λ_=>rfl) rfl) (.same .nil)))))) (Gt (Bg (λk_:Nat=>(⟨[(1,(Z5 v1)),Uk,(5,(Z5 (P9 v18))),(6,(NL x2 35)),(Vl 37 k_),(8,(.int .i64 (w64 (i4+1))))],[(Pu 56 (Qe v18)),(Q9 35 x2.length),(37,.arr 1 81 k_ (λi=>ZO ((l5.set i4.toNat x17).getD i []))),(Q9 46 x17.length)],[]⟩:St)) (show l5.length=(l5.set i4.toNat x17).length from(C8 ..).symm))))) (Bi YN KS q)))))))))))))))))) λh=>tS h (gO (Bd (Bi [1,5,7] [37] q))))) λx19 h=>gA (tV q [1,5,7,11] Li h λh=>by exact gLe (Le.trans (Sr 75 (show ∀ k_,k_<((P9 v18).toNat)->AVleL ((λi_=>AV.eraseAll fD ((λ_=>[L9]) i_)) k_) ((λi=>Ap ((List.replicate (P9 v18).toNat (0:Int)).getD i 0)) k_) from(λk hk=>M7 (e:=Ap) (d:=(0:Int)) (.cons (AVle.refl _) .nil) _ k (M8 hk)))) (Sa (λ(k_:Nat) u=>(Cl u [(11,(.vsl 75 k_))] [(75,.arr 1 3 k_ (λi=>Ap ((List.replicate (P9 v18).toNat (0:Int)).getD i 0)))])) (show(P9 v18).toNat=(List.replicate (P9 v18).toNat (0:Int)).length from(N9 ..).symm))) (Af q MR Li (tL q h MR Li (λu (i22,l23)=>(Cl u [(11,(.vsl 75 l23.length)),(12,(Z5 i22))] [(Z4 75 l23)])) (λu l24=>aG Γ (.exit 4) (⟨[(11,(.vsl 75 l24.length))],[(Z4 75 l24)],[]⟩:St)) (λ⟨i22,l23⟩ y h=>Af q [1,5,7,11,12,78] Li (gC h (λh=>tC h λc25_ h=>tU q MR Li (c2 c25_ (Eq.refl l23.length)) (gLe (Le.trans (Sr 75 (show ∀ k_,k_<l23.length->AVleL ((λi_=>AV.eraseAll fD ((Fc (λi=>Ap (l23.getD i 0)) i22.toNat 0 [(.int .i64 (-2:Int))]) i_)) k_) ((λi=>Ap ((UM l23 i22).getD i 0)) k_) from(Bh (C8 ..).symm (λk_ hk_=>(Bg (AV.eraseAll fD) ((Fu (λ_ _=>rfl) (Hv c25_) rfl) k_ hk_)).trans rfl)))) (Sa (λ(k_:Nat) u=>(Cl u [(11,(.vsl 75 k_))] [(75,.arr 1 3 k_ (λi=>Ap ((UM l23 i22).getD i 0)))])) (show l23.length=(UM l23 i22).length from(C8 ..).symm))) (tB h λx28 y28 h=>gJ y28 (λl26=>aG Γ .normal (⟨[(1,(Z5 v1)),(5,(Z5 (P9 v18))),(Vl 37 x19.length),(11,(.vsl 75 l26.length)),(12,(Z5 i22))],[(37,.arr 1 81 x19.length (λi=>ZO (x19.getD i []))),(Z4 75 l26)],[]⟩:St)) (λy h=>Af q [1,5,7,11,12,86] Li (gC h (λh=>tC h λc27_ h=>tU q MR Li (c2 c27_ (Eq.refl ((UM l23 i22).length))) (tS h (gK (Bd (Le.trans (Le.trans (Sr 75 (show ∀ k_,k_<((UM l23 i22).length)->AVleL ((λi_=>AV.eraseAll fD ((Fc (λi=>Ap ((UM l23 i22).getD i 0)) i22.toNat 0 [(.int .i64 (-1:Int))]) i_)) k_) ((λi=>Ap (((UM l23 i22).set i22.toNat (-1:Int)).getD i 0)) k_) from(Bh (C8 ..).symm (λk_ hk_=>(Bg (AV.eraseAll fD) ((Fu (λ_ _=>rfl) (Hv c27_) rfl) k_ hk_)).trans rfl)))) (Sa (λ(k_:Nat) u=>(Cl u [(11,(.vsl 75 k_))] [(75,.arr 1 3 k_ (λi=>Ap (((UM l23 i22).set i22.toNat (-1:Int)).getD i 0)))])) (show(UM l23 i22).length=((UM l23 i22).set i22.toNat (-1:Int)).length from(C8 ..).symm))) Iq))))) λh=>tS h (gK (Bd (Bi MR Li q))))) (gA (Af q YK Li (tL q h YK Li (λu (i30,l31)=>(Cl u [(11,(.vsl 75 l31.length)),(13,(Z5 i30))] [(Z4 75 l31)])) (λu l32=>aG Γ (.exit 6) (Ni MR Li u [(11,(.vsl 75 l32.length))] [(Z4 75 l32)])) (λ⟨i30,l31⟩ y h=>tU q [1,5,7,11,12,13,97] Li (M4 ((decide (i30<(P9 v18)))==true) (c1 (Nh (decide (i30<(P9 v18)))))) (gC h (λh=>tB h λx46 y46 h=>gJ y46 (λl33=>aG Γ .normal (⟨[(1,(Z5 v1)),(5,(Z5 (P9 v18))),(Vl 37 x19.length),(11,(.vsl 75 l33.length)),(12,(Z5 i22)),(13,(Z5 i30))],[(37,.arr 1 81 x19.length (λi=>ZO (x19.getD i []))),(Z4 75 l33)],[]⟩:St)) (λy h=>tC h λc34_ h=>tC h λc35_ h=>tU q [1,5,7,11,12,13,112] Li (M4 (mz i30 i22) (ZM c34_ (gI (mz i30 i22)) (show((mz i30 i22)=true->(x19.length=x19.length)) from(λhg=>rfl)) (M4 (mz i30 i22) (ci c35_ (M4 (mz i30 i22) (c1 (Ng (i30==i22)))))))) (gC h (λh=>tS h (gK (Bd (Bi YK Li q)))) λh=>tW q iC Li kL Li (tL q h kL Li (λu (b36,i37)=>(Cl u [(14,(.bool b36)),(15,(Z5 i37))] [])) (λu b38=>aG Γ (.exit 8) (Ni iC Li u [(14,(.bool b38))] [])) (λ⟨b36,i37⟩ y h=>Af q [1,5,7,11,12,13,14,15,115] Li (gC h (λh=>tC h λc39_ h=>tC h λc40_ h=>tC h λc41_ h=>tC h λc42_ h=>tU q kL Li (Vm (b36==true) (M4 (kY b36 i37 i22) (ZM c39_ (gI (kY b36 i37 i22)) (show((kY b36 i37 i22)=true->(x19.length=x19.length)) from(λhg=>rfl)) (M4 (kY b36 i37 i22) (ci c40_ (M4 (kY b36 i37 i22) (ZM (gI (b36==true)) (show((b36==true)=true->((i37==i22)=false->(kY b36 i37 i22)=true)) from(λhg=>(aF hg))) (gI (b36==true)) (M4 (kX b36 i37 i22 x19) (ZM c41_ (gI (kX b36 i37 i22 x19)) (show((kX b36 i37 i22 x19)=true->(x19.length=x19.length)) from(λhg=>rfl)) (M4 (kX b36 i37 i22 x19) (c5 c42_ (gI (kX b36 i37 i22 x19)) (gI (b36==true)) (show((b36==true)=true->((bif (i37==i22) then true else(!((x19.getD i37.toNat []).getD i22.toNat false)))=false->(kX b36 i37 i22 x19)=true)) from(λhg=>(aF hg))) (Nh b36)))))))))))) (Af q kL Li (tN h))) λh=>tS h (gO (Bd (Bi iC Li q))))) λx43 h=>gA (Af q [1,5,7,11,12,13,143] Li (gC h (λh=>tC h λc45_ h=>tU q YK Li (c2 c45_ (Eq.refl l31.length)) (tS h (gK (Bd (Le.trans (Le.trans (Sr 75 (show ∀ k_,k_<l31.length->AVleL ((λi_=>AV.eraseAll fD ((Fc (λi=>Ap (l31.getD i 0)) i22.toNat 0 [(Z5 i30)]) i_)) k_) ((λi=>Ap ((l31.set i22.toNat i30).getD i 0)) k_) from(Bh (C8 ..).symm (λk_ hk_=>(Bg (AV.eraseAll fD) ((Fu (λ_ _=>rfl) (Hv c45_) rfl) k_ hk_)).trans rfl)))) (Sa (λ(k_:Nat) u=>(Cl u [(11,(.vsl 75 k_))] [(75,.arr 1 3 k_ (λi=>Ap ((l31.set i22.toNat i30).getD i 0)))])) (show l31.length=(l31.set i22.toNat i30).length from(C8 ..).symm))) Iq))))) λh=>tS h (gK (Bd (Bi YK Li q)))))))) (gA (Af q YK Li (tN h)))) λh=>tS h (gO (Bd (Bi MR Li q))))) λx48 h=>gA (Af q MR Li (tN h)))))))) λh=>tS h (gO (Bd (Bi [11] [75] q))))) λx50 h=>gA (Af q [4] [75] (Qc (⟨[(4,(.vsl 75 x50.length))],[(Z4 75 x50)],[]⟩:St) (tS h (gK (e:=.ret) (H6 [(75,20000)] (Le.trans (le_freeze (nm:=75) (sz:=1) (n:=x50.length) (e:=3) (f:=(λi=>Ap (x50.getD i 0))) (g:=(λi=>Ap (x50.getD i 0))) rfl ⟨rfl,trivial⟩ (λ_ _=>rfl) (by rw[hΓ];rfl)) (Gt (st':=⟨[(4,(V8 x50 75))],[(Yt 75 x50.length)],[]⟩) (by kernel_rfl)))))))))))))))))
def Ci(a8:Ar):CE->Option (LR (Int×Ar) (Unit ⊕ Ar)):=
 λ((i1,l2):CE)=>(bif (bif (bif (decide ((l2.length:Int)<(a8.length:Int))) then(decide ((0:Int)<=i1)) else false) then(decide (i1<(a8.length:Int))) else false) then(A0 (l2.length+([i1]:Ar).length<=room) (A0 (A1 i1 a8.length) (bif ((a8.getD i1.toNat 0)==-1) then(some (.done (.inr (l2++([i1]:Ar))))) else(A0 (A1 i1 a8.length) (some (.next ((a8.getD i1.toNat 0),(l2++([i1]:Ar))))))))) else(some (.done (.inl ()))))
def AH(Γ:H5)(a8:Ar)(aI:Int)(r:Ar):Exit->St->Prop:=fK Tryz.prog Γ Tryz.f103.results.toList [] (V8 r 20000) [(Yt 20000 r.length)]
def kd:AV:=fG
def xg(l2:Ar)(a8:Ar)(i1:Int):=(bif (decide ((l2.length:Int)<(a8.length:Int))) then(decide ((0:Int)<=i1)) else false)
def xi:=(Z33:St)
def xh(a8:Ar)(aI:Int):=(⟨[(0,(Z6 a8)),(1,(Z5 aI)),(5,(Z95 5005))],[(5005,.tok 1 3 (([]:Ar).length))],[]⟩:St)
def Ge(a8:Ar)(aI:Int):Option Ar:=
 ((Ac (Ci a8) (aI,([]:Ar))).bind (λx6=>(match x6 with|(.inl _)=>(some ([]:Ar))|(.inr r8)=>(some r8))))
variable{v17:Ar}
theorem M0(h:Ge v2 v1=some v17):sP 103 [(Z6 v2),(Z5 v1)] [] (V8 v17 20000) [(Yt 20000 v17.length)]:=
 sG Tryz.func103 λΓ q=>gR q Gn [] [(4,kd)] [] (c1 (B0 1 Ap (0:Int))) (gR q Nd [] [(5,kd)] [] (c1 (B0 1 Ap (0:Int))) (gLe (st':=(xh v2 v1)) (Le.trans (Bi (st':=⟨[(0,(Z6 v2)),(1,(Z5 v1)),(5,kd)],[],[]⟩) Nd [] q) (Le.trans (Rm (t:=5) (nm:=5005) (sz':=1) (λi=>Ap (([]:Ar).getD i 0)) 3 rfl rfl (.inl ⟨rfl,rfl⟩) (λh_=>absurd h_ (by decide))) (Bi (st':=(xh v2 v1)) Nd [5005] q))) (tL q h Nd [5005] (λu (i1,l2)=>(Cl u [(1,(Z5 i1)),(5,(V8 l2 5005))] [(Yt 5005 l2.length)])) (λu x_=>match x_ with|(.inl _)=>aG Γ (.exit 0) (⟨[],[],[]⟩:St)|(.inr r_)=>aR (AH Γ v2 v1 r_)) (λ⟨i1,l2⟩ y h=>tU q [0,1,5,20] [5005] (ed (gI ((decide ((l2.length:Int)<(v2.length:Int)))==true)) (Nh (decide ((l2.length:Int)<(v2.length:Int)))) (Vm ((xg l2 v2 i1)==true) (c1 (Nh (xg l2 v2 i1))))) (gC h (λh=>tC h λc3_ h=>gR q Nd [5005] (vi 23 i1 24 l2 5005) [] (c5 (Bp 1 Ap (0:Int) ([i1]:Ar)) (Eq.refl l2.length) c3_ (Iz 1 5005 Ap (0:Int) l2 ([i1]:Ar)) (E3 l2 ([i1]:Ar))) (tV q [0,1,5,29] [5005] h λh=>gC h (λh=>Af q [4] [5005] (tS h (gO (Lm (H6 [(5005,20000)] (Le.refl _ _)))))) λh=>tV q Nd [5005] h λh=>tN h)) λh=>tS h (gO (Bd (Bi [] [] q))))) λx6 h=>(match x6,h with | .inl _,h=>gA (gR q [4] [] [(4,kd)] [] (c1 (B0 1 Ap (0:Int))) (Qc (⟨[(4,kd)],[],[]⟩:St) (tS h (gK (e:=.ret) (H6 bW (show Le Γ _ xi from Le.trans (Bi (st':=⟨[(4,kd)],[],[]⟩) [4] [] q) (Le.trans (Rm (t:=4) (nm:=6004) (sz':=1) (λi=>Ap (([]:Ar).getD i 0)) 3 rfl rfl (.inl ⟨rfl,rfl⟩) (λh_=>absurd h_ (by decide))) (Bi (st':=xi) [4] [6004] q)))))))) | .inr r8,h=>O3 (λst' hk=>tS h (gK hk))))))
def Bz(a8:Ar):Gq->Option (LR (Int×Int) (Int ⊕ Bool)):=
 λ((i1,i2):Gq)=>(bif (decide (i2<(a8.length:Int))) then(Option.bind (α:=Int) (A0 (A1 i2 a8.length) (bif ((a8.getD i2.toNat 0)==-1) then(some (w64 (i1+1))) else(some i1))) (λx6=>(A0 (A1 i2 a8.length) ((bif (((a8.getD i2.toNat 0)!=-2)==true) then Ge a8 i2 else some []).bind λx9=>(bif (bif ((a8.getD i2.toNat 0)!=-2) then((x9.length:Int)==0) else false) then(some (.done (.inr false))) else(some (.next (x6,(w64 (i2+1)))))))))) else(some (.done (.inl i1))))
def Zg(Γ:H5)(a8:Ar)(r:Bool):Exit->St->Prop:=fK Tryz.prog Γ Tryz.f102.results.toList [] (.bool r) []
def rq(a8:Ar)(i2:Int):=((a8.getD i2.toNat 0)!=-2)
def Jz(a8:Ar):Option Bool:=
 ((Ac (Bz a8) ((0:Int),(0:Int))).bind (λx10=>(match x10 with|(.inl i3)=>(some (i3==1))|(.inr r12)=>(some r12))))
theorem X8(h:Jz v2=some v3):sP 102 [(Z6 v2)] [] (.bool v3) []:=
 sG Tryz.func102 λΓ q=>tW q [0] [] Rj [] (Af q S9 [] (tL q h S9 [] (λu (i1,i2)=>(Cl u [(3,(Z5 i1)),(4,(Z5 i2))] [])) (λu x_=>match x_ with|(.inl i3)=>aG Γ (.exit 0) (⟨[(3,(Z5 i3))],[],[]⟩:St)|(.inr r_)=>aR (Zg Γ v2 r_)) (λ⟨i1,i2⟩ y h=>Af q [0,3,4,8] [] (gC h (λh=>tB h λx6 y6 h=>gJ y6 (λi4=>aG Γ .normal (⟨[(0,(Z6 v2)),(3,(Z5 i4)),(4,(Z5 i2))],[],[]⟩:St)) (λy h=>tV q [0,3,4,15] [] h λh=>gC h (λh=>Af q S9 [] (tS h (gK (Bd Iq)))) λh=>tS h (gK (Bd (Bi S9 [] q)))) (gA (tC h λc8_ h=>tB h λx9 y9 h=>tT q [0,3,4,29] [] [⟨[],[],(Z6 x9),[],[],[]⟩] (ci c8_ (M4 ((rq v2 i2)==true) (ci (show(((rq v2 i2)==true)=true->(sP 103 [(Z6 v2),(Z5 i2)] [] (Z6 x9) [])) from(λhg=>(Spec.drop (M0 (Bq hg y9))))) (M4 ((rq v2 i2)==true) (c1 (Nh (rq v2 i2))))))) (gC h (λh=>Af q [2] [] (tS h (gO (Lm (H6 [] (Le.refl _ _)))))) λh=>Af q S9 [] (tN h))))) λh=>tS h (gO (Bd (Bi [3] [] q))))) λx10 h=>(match x10,h with | .inl i3,h=>gA (Af q [2] [] (tS h (Cc []))) | .inr r12,h=>O3 (λst' hk=>tS h (gK hk)))))
def Ej(x2:Ar)(x3:Ar):Int->Option (LR Int (Unit ⊕ Int)):=
 λ(i4:Int)=>(bif (decide (i4<(x2.length:Int))) then(A0 (A1 i4 x2.length) ((Cj x3 (x2.getD i4.toNat 0)).bind λx6=>(bif x6 then(A0 (A1 i4 x2.length) (some (.done (.inr (x2.getD i4.toNat 0))))) else(some (.next (w64 (i4+1))))))) else(some (.done (.inl ()))))
def AG(Γ:H5)(a8:Ar)(aI:Int)(aL:Int)(r:Int):Exit->St->Prop:=fK Tryz.prog Γ Tryz.f59.results.toList [] (.int .i64 r) []
def Kq(a8:Ar)(aI:Int)(aL:Int):Option Int:=
 ((Jz a8).bind λx1=>(bif (!x1) then(some (-2:Int)) else((Ge a8 aI).bind λx2=>((Ge a8 aL).bind λx3=>((Ac (Ej x2 x3) (0:Int)).bind (λx8=>(match x8 with|(.inl _)=>(some (-2:Int))|(.inr r10)=>(some r10))))))))
theorem Zt(h:Kq v2 v1 v11=some v20):sP 59 [(Z6 v2),(Z5 v1),(Z5 v11)] [] (.int .i64 v20) []:=
 sG Tryz.func59 λΓ q=>Af q TU [] (tB h λx1 y1 h=>tT q [0,1,2,12] [] [(Z2 x1)] (c1 (X8 y1)) (gC h (λh=>Af q [6] [] (tS h (Cc []))) λh=>tB h λx2 y2 h=>tT q TV [15] [(vk 15 x2 x2.length)] (c1 (M0 y2)) (tB h λx3 y3 h=>tT q [7,8] KV [(vk 18 x3 x3.length)] (c1 (M0 y3)) (Af q [7,8,9] KV (tL q h [7,8,9] KV (λu i4=>(Cl u [(9,(Z5 i4))] [])) (λu x_=>match x_ with|(.inl _)=>aG Γ (.exit 0) (⟨[],[],[]⟩:St)|(.inr r_)=>aR (AG Γ v2 v1 v11 r_)) (λi4 y h=>Af q [7,8,9,22] KV (gC h (λh=>tC h λc5_ h=>tB h λx6 y6 h=>tT q [7,8,9,30] KV [(Z2 x6)] (c2 c5_ (H3 y6)) (gC h (λh=>tV q [6] [] h λh=>tS h (gO (Lm (H6 [] (Le.refl _ _))))) λh=>Af q [7,8,9] KV (tN h))) λh=>tS h (gO (Bd (Bi [] [] q))))) λx8 h=>(match x8,h with | .inl _,h=>gA (Af q [6] [] (tS h (Cc []))) | .inr r10,h=>O3 (λst' hk=>tS h (gK hk))))))))
def Fm(x4:List Bx):Int->Option (LR Int (Unit ⊕ Int)):=
 λ(i5:Int)=>(bif (decide (i5<(x4.length:Int))) then(A0 (A1 i5 x4.length) ((Fi ((x4.getD i5.toNat default).V)).bind λx7=>(A0 (((!x7)==false)=true->(A1 i5 x4.length)) ((bif ((!x7)==false) then Ey x4 ((x4.getD i5.toNat default).V) else some (0:Int)).bind λx9=>(bif (bif (!x7) then true else(x9 !=i5)) then(some (.done (.inr (7:Int)))) else(some (.next (w64 (i5+1))))))))) else(some (.done (.inl ()))))
def D2(x4:List Bx)(x12:List Cm):Int->Option (LR Int (Unit ⊕ Int)):=
 λ(i13:Int)=>(bif (decide (i13<(x12.length:Int))) then(A0 (A1 i13 x12.length) ((Ey x4 ((x12.getD i13.toNat default).V)).bind λx15=>(bif (decide (x15<0)) then(some (.done (.inr (7:Int)))) else(some (.next (w64 (i13+1))))))) else(some (.done (.inl ()))))
def D3(x4:List Bx)(x12:List Cm):Int->Option (LR Int (Unit ⊕ Int)):=
 λ(i18:Int)=>(bif (decide (i18<(x12.length:Int))) then(A0 (A1 i18 x12.length) ((Ey x4 ((x12.getD i18.toNat default).V)).bind λx20=>(A0 (A1 x20 x4.length) (A0 (A1 i18 x12.length) (bif (!((((x4.getD x20.toNat default).Shape.1:Int)==(x12.getD i18.toNat default).Shape.1)&&((((x4.getD x20.toNat default).Shape.2:Int)==(x12.getD i18.toNat default).Shape.2)&&true))) then(some (.done (.inr (6:Int)))) else(some (.next (w64 (i18+1))))))))) else(some (.done (.inl ()))))
def C2(x4:List Bx)(x12:List Cm)(x26:Ar):Int->Option (LR Int (Unit ⊕ Int)):=
 λ(i27:Int)=>(bif (decide (i27<(x12.length:Int))) then(Option.bind (α:=(Unit ⊕ Int)) (A0 (A1 i27 x12.length) ((Ey x4 ((x12.getD i27.toNat default).V)).bind λx29=>(A0 (A1 x29 x4.length) (bif (bif (decide (((x4.getD x29.toNat default).Block:Int)<0)) then true else(bif (((x4.getD x29.toNat default).Block:Int)==(x12.getD i27.toNat default).Block) then(decide (((x4.getD x29.toNat default).At:Int)<(x12.getD i27.toNat default).At)) else false)) then(some (.inl ())) else((bif ((((x4.getD x29.toNat default).Block:Int)==(x12.getD i27.toNat default).Block)==false) then Kq x26 ((x4.getD x29.toNat default).Block) ((x12.getD i27.toNat default).Block) else some (0:Int)).bind λx31=>(bif (bif (((x4.getD x29.toNat default).Block:Int)==(x12.getD i27.toNat default).Block) then true else(x31 !=(x4.getD x29.toNat default).Block)) then(some (.inr (7:Int))) else(some (.inl ())))))))) (λx32=>(match x32 with|(.inl _)=>(some (.next (w64 (i27+1))))|(.inr r34)=>(some (.done (.inr r34)))))) else(some (.done (.inl ()))))
def Hh(Γ:H5)(a0:TFunc)(a2:Int)(r:Int):Exit->St->Prop:=fK Tryz.prog Γ Tryz.f21.results.toList [] (.int .i64 r) []
def m8(x4:List Bx)(x29:Int):=((decide (((x4.getD x29.toNat default).Block:Int)<0))==false)
def fE(x4:List Bx)(x29:Int)(x12:List Cm)(i27:Int):=(((x4.getD x29.toNat default).Block:Int)==(x12.getD i27.toNat default).Block)
def D7(a0:TFunc)(a2:Int):Option Int:=
 (bif (bif (decide (a2<0)) then true else(decide ((2:Int)<a2))) then(some (1:Int)) else((Iw a0).bind λx1=>(bif (!x1) then(some (4:Int)) else((J0 a0).bind λx2=>(bif (!x2) then(some (5:Int)) else((J1 a0 a2).bind λx3=>(bif (!x3) then(some (6:Int)) else((Ks a0).bind λx4=>((Ac (Fm x4) (0:Int)).bind (λx10=>(match x10 with|(.inl _)=>((Kt a0).bind λx12=>((Ac (D2 x4 x12) (0:Int)).bind (λx16=>(match x16 with|(.inl _)=>((Ac (D3 x4 x12) (0:Int)).bind (λx23=>(match x23 with|(.inl _)=>((Hs a0).bind λx25=>((Kr x25.1 (0:Int)).bind λx26=>((Ac (C2 x4 x12 x26) (0:Int)).bind (λx35=>(match x35 with|(.inl _)=>(some (0:Int))|(.inr r37)=>(some r37))))))|(.inr r38)=>(some r38))))|(.inr r39)=>(some r39)))))|(.inr r40)=>(some r40))))))))))))
theorem X9(h:D7 v0 v1=some v11):sP 21 [(W9 v0),(Z5 v1)] [] (.int .i64 v11) []:=
 sG Tryz.func21 λΓ q=>Af q Ee [2] (tU q [1,2,21] [2] (c2 (gI ((decide (v1<0))==false)) (Ng (decide (v1<0)))) (gC h (λh=>Af q [4] [] (tS h (Cc []))) λh=>tB h λx1 y1 h=>tT q [1,2,24] [2] [(Z2 x1)] (c1 (BL y1)) (gC h (λh=>Af q [4] [] (tS h (Cc []))) λh=>tB h λx2 y2 h=>tT q [1,2,27] [2] [(Z2 x2)] (c1 (Yb y2)) (gC h (λh=>Af q [4] [] (tS h (Cc []))) λh=>tB h λx3 y3 h=>tT q [2,31] [2] [(Z2 x3)] (c1 (Yc y3)) (gC h (λh=>Af q [4] [] (tS h (Cc []))) λh=>tB h λx4 y4 h=>tT q V6 CO [⟨[],[(20000,33)],(AV.list 5 Pv default x4 (.own 20000)),[(Ll 20000 92 x4.length)],[],[]⟩] (c1 (Zv y4)) (Af q W7 CO (tL q h W7 CO (λu i5=>(Cl u [(6,(Z5 i5))] [])) (λu x_=>match x_ with|(.inl _)=>aG Γ (.exit 0) (Ni V6 CO u [] [])|(.inr r_)=>aR (Hh Γ v0 v1 r_)) (λi5 y h=>Af q [2,5,6,37] CO (gC h (λh=>tC h λc6_ h=>tB h λx7 y7 h=>tC h λc8_ h=>tB h λx9 y9 h=>tT q [2,5,6,57] CO [(Z2 x7),(ZA x9)] (ed c6_ (Mh y7) (M4 ((!x7)==false) (ci c8_ (ZR ((!x7)==false) (ci (λ(hg:((!x7)==false)=true)=>(J3 (Bq hg y9))) (M4 ((!x7)==false) (c1 (Ng (!x7))))))))) (gC h (λh=>Af q [4] [] (tS h (gO (Lm (H6 [] (Le.refl _ _)))))) λh=>Af q W7 CO (tN h))) λh=>tS h (gO (Bd (Bi V6 CO q))))) λx10 h=>(match x10,h with | .inl _,h=>gA (tB h λx12 y12 h=>tT q TW Uj [⟨[],[(20000,59)],(AV.list 5 O2 default x12 (.own 20000)),[(Ll 20000 96 x12.length)],[],[]⟩] (c1 (Zw y12)) (Af q [2,5,7,8] Uj (tL q h [2,5,7,8] Uj (λu i13=>(Cl u [(8,(Z5 i13))] [])) (λu x_=>match x_ with|(.inl _)=>aG Γ (.exit 2) (Ni TW Uj u [] [])|(.inr r_)=>aR (Hh Γ v0 v1 r_)) (λi13 y h=>Af q [2,5,7,8,63] Uj (gC h (λh=>tC h λc14_ h=>tB h λx15 y15 h=>tT q [2,5,7,8,73] Uj [(ZA x15)] (c2 c14_ (J3 y15)) (gC h (λh=>Af q [4] [] (tS h (gO (Lm (H6 [] (Le.refl _ _)))))) λh=>Af q [2,5,7,8] Uj (tN h))) λh=>tS h (gO (Bd (Bi TW Uj q))))) λx16 h=>(match x16,h with | .inl _,h=>gA (Af q [2,5,7,9] Uj (tL q h [2,5,7,9] Uj (λu i18=>(Cl u [(9,(Z5 i18))] [])) (λu x_=>match x_ with|(.inl _)=>aG Γ (.exit 4) (Ni TW Uj u [] [])|(.inr r_)=>aR (Hh Γ v0 v1 r_)) (λi18 y h=>Af q [2,5,7,9,77] Uj (gC h (λh=>tC h λc19_ h=>tB h λx20 y20 h=>tC h λc21_ h=>tC h λc22_ h=>tT q [2,5,7,9,96] Uj [(ZA x20)] (c4 c19_ (J3 y20) c21_ c22_) (gC h (λh=>Af q [4] [] (tS h (gO (Lm (H6 [] (Le.refl _ _)))))) λh=>Af q [2,5,7,9] Uj (tN h))) λh=>tS h (gO (Bd (Bi TW Uj q))))) λx23 h=>(match x23,h with | .inl _,h=>gA (tB h λx25 y25 h=>tT q [5,7,10] [10,33,59] [(vm x25.1 x25.2)] (c1 (Ot y25)) (tB h λx26 y26 h=>tT q [5,7,12] MU [(vk 103 x26 x26.length)] (c1 (Zu y26)) (Af q TM MU (tL q h TM MU (λu i27=>(Cl u [(13,(Z5 i27))] [])) (λu x_=>match x_ with|(.inl _)=>aG Γ (.exit 6) (⟨[],[],[]⟩:St)|(.inr r_)=>aR (Hh Γ v0 v1 r_)) (λi27 y h=>Af q [5,7,12,13,107] MU (gC h (λh=>tB h λx32 y32 h=>gJ y32 (λx_=>match x_ with|(.inl _)=>aG Γ .normal (⟨[(5,(AV.list 5 Pv default x4 (.own 33))),(7,(AV.list 5 O2 default x12 (.own 59))),(12,(V8 x26 103)),(13,(Z5 i27))],[(Ll 33 92 x4.length),(Ll 59 96 x12.length),(Yt 103 x26.length)],[]⟩:St)|(.inr r_)=>aR (Hh Γ v0 v1 r_)) (λy h=>tV q [5,7,12,13,14] [14,33,59,103] h λh=>tB h λx29 y29 h=>tC h λc30_ h=>tT q [5,7,12,13,14,15] [14,15,33,59,103] [(ZA x29)] (c2 (J3 y29) c30_) (tU q [5,7,12,13,14,15,137] [14,15,33,59,103] (wT (m8 x4 x29) (ZR ((m8 x4 x29)&&((fE x4 x29 x12 i27)==true)) (c3 (gI (m8 x4 x29)) (show((m8 x4 x29)=true->((fE x4 x29 x12 i27)=true->((m8 x4 x29)&&((fE x4 x29 x12 i27)==true))=true)) from(λhg=>(aT hg))) (Ng (decide (((x4.getD x29.toNat default).Block:Int)<0)))))) (gC h (λh=>tS h (gK (Bd (Bi TM MU q)))) λh=>tB h λx31 y31 h=>tT q [5,7,12,13,153] MU [(ZA x31)] (wT ((fE x4 x29 x12 i27)==false) (ci (λ(hg:((fE x4 x29 x12 i27)==false)=true)=>(Zt (Bq hg y31))) (Vm ((fE x4 x29 x12 i27)==false) (c1 (Ng (fE x4 x29 x12 i27)))))) (gC h (λh=>Af q [4] [] (tS h (gK (Lm (H6 [] (Le.refl _ _)))))) λh=>tS h (gK (Bd (Bi TM MU q))))))) (match x32,h with | .inl _,h=>gA (Af q TM MU (tN h)) | .inr r34,h=>O3 (λst' hk=>tS h (gO (Lm hk))))) λh=>tS h (gO (Bd (Bi [] [] q))))) λx35 h=>(match x35,h with | .inl _,h=>gA (Af q [4] [] (tS h (Cc []))) | .inr r37,h=>O3 (λst' hk=>tS h (gK hk))))))) | .inr r38,h=>O3 (λst' hk=>tS h (gK hk))))) | .inr r39,h=>O3 (λst' hk=>tS h (gK hk)))))) | .inr r40,h=>O3 (λst' hk=>tS h (gK hk))))))))))
open Go Go.RowKit
set_option maxRecDepth 100000
set_option maxHeartbeats 2000000
def kg(aJ:Int):=(bif (bif (decide ((0:Int)<=aJ)) then(decide (aJ<=22)) else false) then(aJ !=4) else false)
def Kn(aJ:Int):Option Bool:=
 (some (bif (bif (bif (decide ((0:Int)<=aJ)) then(decide (aJ<=22)) else false) then(aJ !=4) else false) then(bif (decide (aJ<16)) then true else(decide ((20:Int)<aJ))) else false))
theorem Zq(h:Kn v1=some v3):sP 33 [(Z5 v1)] [] (.bool v3) []:=
 sG Tryz.func33 λΓ q=>Af q [0] [] (tU q [2] [] (d4_ (gI ((decide ((0:Int)<=v1))==true)) (Nh (decide ((0:Int)<=v1))) (gI ((bif (decide ((0:Int)<=v1)) then(decide (v1<=22)) else false)==true)) (Nh (bif (decide ((0:Int)<=v1)) then(decide (v1<=22)) else false)) (M4 ((kg v1)==true) (c4 (gI (((kg v1)==true)&&((decide (v1<16))==false))) (gI ((kg v1)==true)) (show(((kg v1)==true)=true->((decide (v1<16))=false->(((kg v1)==true)&&((decide (v1<16))==false))=true)) from(λhg=>(aF hg))) (Nh (kg v1))))) (tS h (Cc [])))
open Go Go.RowKit
set_option maxRecDepth 100000
set_option maxHeartbeats 2000000
def Lt(a0:TFunc):Option Bool:=
 ((R3 a0 (2:Int)).bind λx1=>(some (x1==0)))
theorem Su(h:Lt v0=some v3):sP 42 [(W9 v0)] [] (.bool v3) []:=
 sG Tryz.func42 λΓ q=>Af q [1] [1] (tB h λx1 y1 h=>tT q [2] [] [(ZA x1)] (c1 (QT y1)) (tS h (Cc [])))
def Mm(a0:TFunc)(x1:kB):Int->Option (LR Int (Unit ⊕ ((Bool×KY)×Bool))):=
 λ(i2:Int)=>(bif (decide (i2<(a0.Blocks.length:Int))) then(Option.bind (α:=(Unit ⊕ ((Bool×KY)×Bool))) (A0 (A1 i2 a0.Blocks.length) (bif (((a0.Blocks.getD i2.toNat default).End.Kind:Int)!=1) then(some (.inl ())) else(A0 (A1 (0:Int) ((a0.Blocks.getD i2.toNat default).End.To).length) (A0 ((((((a0.Blocks.getD i2.toNat default).End.To).getD (0:Int).toNat (0:Int))!=i2)==true)=true->(A1 (((a0.Blocks.getD i2.toNat default).End.To).getD (0:Int).toNat (0:Int)) x1.1.Pred.length)) (bif (bif ((((a0.Blocks.getD i2.toNat default).End.To).getD (0:Int).toNat (0:Int))!=i2) then(((x1.1.Pred.getD (((a0.Blocks.getD i2.toNat default).End.To).getD (0:Int).toNat (0:Int)).toNat []).length:Int)==1) else false) then(some (.inr ((true,(⟨i2,(((a0.Blocks.getD i2.toNat default).End.To).getD (0:Int).toNat (0:Int)),([]:List Gq)⟩:KY)),true))) else(some (.inl ()))))))) (λx6=>(match x6 with|(.inl _)=>(some (.next (w64 (i2+1))))|(.inr r8)=>(some (.done (.inr r8)))))) else(some (.done (.inl ()))))
abbrev qe:=((Bool×KY)×Bool)
def GK(Γ:H5)(a0:TFunc)(r:qe):Exit->St->Prop:=fK Tryz.prog Γ Tryz.f46.results.toList [] (.tuple [(bif r.1.1 then((.ptr 20000 0):AV) else .nilp),(.bool r.2)]) (bif r.1.1 then(yU 20000 r.1.2.x r.1.2.y) else[])
def vN(a0:TFunc)(i2:Int):=((((a0.Blocks.getD i2.toNat default).End.To).getD (0:Int).toNat (0:Int))!=i2)
def Ku(a0:TFunc):Option qe:=
 ((Tw a0).bind λx1=>((Ac (Mm a0 x1) (0:Int)).bind (λx9=>(match x9 with|(.inl _)=>(some ((false,(default:KY)),false))|(.inr r11)=>(some r11)))))
variable{v37:qe}
theorem R5(h:Ku v0=some v37):sP 46 [(W9 v0)] [] (.tuple [(bif v37.1.1 then((.ptr 20000 0):AV) else .nilp),(.bool v37.2)]) (bif v37.1.1 then(yU 20000 v37.1.2.x v37.1.2.y) else[]):=
 sG Tryz.func46 λΓ q=>Af q [1] [1] (tB h λx1 y1 h=>tT q P7 P7 [(vm x1.1 x1.2)] (c1 (LQ y1)) (Af q TJ [4] (tL q h TJ [4] (λu i2=>(Cl u [(17,(Z5 i2))] [])) (λu x_=>match x_ with|(.inl _)=>aG Γ (.exit 0) (⟨[],[],[]⟩:St)|(.inr r_)=>aR (GK Γ v0 r_)) (λi2 y h=>Af q [4,15,16,17,18] [4] (gC h (λh=>tB h λx6 y6 h=>gJ y6 (λx_=>match x_ with|(.inl _)=>aG Γ .normal (⟨[ZB,(15,(UF v0.Blocks)),(bm 16 v0.Blocks.length),(17,(Z5 i2))],[(4,.row 56 [(NM x1.1.Succ),(NM x1.1.Pred)])],[]⟩:St)|(.inr r_)=>aR (GK Γ v0 r_)) (λy h=>tV q [4,6,7,15,16,17] [4,7] h λh=>Af q [4,6,7,15,16,17,25] [4,7] (gC h (λh=>tS h (gK (Bd (Bi TJ [4] q)))) λh=>tV q [4,6,8,15,16,17] [4] h λh=>tC h λc5_ h=>tU q [4,6,8,15,16,17,42] [4] (Vm ((vN v0 i2)==true) (ci c5_ (Vm ((vN v0 i2)==true) (c1 (Nh (vN v0 i2)))))) (gC h (λh=>Af q E0 [46] (tS h (gK (Lm (H6 [(46,20000)] (Le.refl _ _)))))) λh=>tS h (gK (Bd (Bi TJ [4] q)))))) (match x6,h with | .inl _,h=>gA (Af q TJ [4] (tN h)) | .inr r8,h=>O3 (λst' hk=>tS h (gO (Lm hk))))) λh=>tS h (gO (Bd (Bi [] [] q))))) λx9 h=>(match x9,h with | .inl _,h=>gA (Af q E0 [] (tS h (Cc []))) | .inr r11,h=>O3 (λst' hk=>tS h (gK hk))))))
def G6(aD:Int)(a3:Int)(a5:Int)(a7:List Gq):Option Int:=
 (bif (Ed a7 aD) then(some (Fx (0:Int) a7 aD)) else(some aD))
variable{v38:List Gq}{v39:Int}
theorem Mj(h:G6 v1 v11 v20 v38=some v39):sP 83 [(.ptr 30000 0),(Z5 v1)] [(Z8 v11 v20 9100002),(9100002,.obj (.map true .i64 (Bu (λ(v_:Int)=>((Z5 v_):AV)) v38)))] (.int .i64 v39) [(Z8 v11 v20 9100002),(9100002,.obj (.map true .i64 (Bu (λ(v_:Int)=>((Z5 v_):AV)) v38)))]:=
 sG Tryz.func83 λΓ q=>Af q Gn S6 (gR q [1,5,6] S6 [(13,(.tuple [(.int .i64 (Fx (0:Int) v38 v1)),(.bool (Ed v38 v1))]))] [] (c1 (show(AVle (.tuple [Fx L9 (Bu (λ(v_:Int)=>((Z5 v_):AV)) v38) v1,.bool (Ed (Bu (λ(v_:Int)=>((Z5 v_):AV)) v38) v1)]) (.tuple [(.int .i64 (Fx (0:Int) v38 v1)),(.bool (Ed v38 v1))])) from(QN (f:=(λ(v_:Int)=>((Z5 v_):AV))) (l:=v38) (AVle.refl _) rfl))) (Af q [1,5,16] S6 (gC h (λh=>Af q [4] S6 (tS h (Cc YH))) λh=>Af q [4] S6 (tS h (Cc YH)))))
def Cr(aa2:List (List B2)):Gq->Option uM:=
 λ((i1,i2):Gq)=>(bif (decide (i2<(aa2.length:Int))) then(Option.bind (α:=Unit) (A0 (A1 i2 aa2.length) (bif (decide (((w64 (i1+((aa2.getD i2.toNat []).length:Int))):Int)<0)) then none else(some ()))) (λx5=>(match x5 with|_=>(some (.next ((w64 (i1+((aa2.getD i2.toNat []).length:Int))),(w64 (i2+1)))))))) else(some (.done i1)))
def Cs(aa2:List (List B2)):(List B2×Int)->Option (LR (List B2×Int) (List B2)):=
 λ((l10,i11):(List B2×Int))=>(bif (decide (i11<(aa2.length:Int))) then(A0 (A1 i11 aa2.length) (A0 (l10.length+(aa2.getD i11.toNat []).length<=room) (some (.next ((l10++(aa2.getD i11.toNat [])),(w64 (i11+1))))))) else(some (.done l10)))
def Ff(aa2:List (List B2)):Option (List B2):=
 ((Ac (Cr aa2) ((0:Int),(0:Int))).bind (λx7=>((g9 x7).bind λx9=>((Ac (Cs aa2) (x9,(0:Int))).bind (λx15=>(some x15))))))
variable{v40:List (List B2)}{v7:List B2}
theorem Rv(h:Ff v40=some v7):sP 84 [(AV.list 1 WH [] v40 .none)] [] (vp v7 20000) [(20000,.tok 6 70 v7.length)]:=
 sG Tryz.func84 λΓ q=>gR q [0] [] [(2,yQ)] [] (c1 (B0 6 J6 (default:B2))) (tW q Rj [] SY [] (tL q h SY [] (λu (i1,i2)=>(Cl u [(3,(Z5 i1)),(11,(Z5 i2))] [])) (λu i3=>aG Γ (.exit 0) (Ni Rj [] u [(3,(Z5 i3))] [])) (λ⟨i1,i2⟩ y h=>Af q [0,3,9,10,11,12] [] (gC h (λh=>tB h λx5 y5 h=>gJ y5 (λ_=>aG Γ .normal (⟨[(0,(AV.list 1 WH [] v40 .none)),(3,(.int .i64 (w64 (i1+((v40.getD i2.toNat []).length:Int))))),(9,(AV.list 1 WH [] v40 .none)),(bm 10 v40.length),(11,(Z5 i2))],[],[]⟩:St)) (λy h=>tV q [0,3,5,9,10,11] [] h λh=>tW q SY [] [0,3,9,10,11,20] [] (gC h (λh=>nomatch h) λh=>tS h (gK (Bd (Bi SY [] q))))) (gA (Af q SY [] (tN h)))) λh=>tS h (gO (Bd (Bi Rj [] q))))) λx7 h=>gA (tB h λx9 y9 h=>tT q [0,6] [24] [⟨[],[(20000,24)],(vp x9 20000),[(20000,.tok 6 70 x9.length)],[],[]⟩] (c1 (qS (e:=J6) (d:=(default:B2)) x7 x9 y9)) (Af q ba [24] (tL q h ba [24] (λu (l10,i11)=>(Cl u [(6,(vp l10 24)),(27,(Z5 i11))] [(24,.tok 6 70 l10.length)])) (λu l12=>aG Γ (.exit 2) (⟨[(6,(vp l12 24))],[(24,.tok 6 70 l12.length)],[]⟩:St)) (λ⟨l10,i11⟩ y h=>Af q [6,25,26,27,28] [24] (gC h (λh=>tV q [6,8,25,26,27] [24] h λh=>tC h λc14_ h=>gR q ba [24] [(33,(AV.list 6 J6 default (l10++(v40.getD i11.toNat [])) (.own 24)))] [] (c4 (Eq.refl l10.length) c14_ (Iz 6 24 J6 (default:B2) l10 (v40.getD i11.toNat [])) (E3 l10 (v40.getD i11.toNat []))) (Af q ba [24] (tN h))) λh=>tS h (gO (Bd (Bi [6] [24] q))))) λx15 h=>gA (Af q [2] [24] (tS h (Cc [(24,20000)]))))))))
def K0(aM:Int)(a3:Int)(a5:Int)(a7:List Gq):Option Int:=
 (Option.bind (α:=Int) (bif (aM==a5) then(some a3) else(some aM)) (λx2=>(Option.bind (α:=Int) (bif (decide (a5<x2)) then(some (w64 (x2-1))) else(some x2)) (λx5=>(some x5)))))
theorem T6(h:K0 v1 v11 v20 v38=some v39):sP 142 [(.ptr 30000 0),(Z5 v1)] [(Z8 v11 v20 9100002),(9100002,.obj (.map true .i64 (Bu (λ(v_:Int)=>((Z5 v_):AV)) v38)))] (.int .i64 v39) [(Z8 v11 v20 9100002),(9100002,.obj (.map true .i64 (Bu (λ(v_:Int)=>((Z5 v_):AV)) v38)))]:=
 sG Tryz.func142 λΓ q=>Af q Gn S6 (tB h λx2 y2 h=>gJ y2 (λi1=>aG Γ .normal (⟨[cA,(1,(Z5 i1))],[(Z8 v11 v20 9100002),(9100002,.obj (.map true .i64 (Bu (λ(v_:Int)=>((Z5 v_):AV)) v38)))],[]⟩:St)) (λy h=>Af q Yo S6 (gC h (λh=>Af q Gn S6 (tS h (gK (Bd Iq)))) λh=>tS h (gK (Bd (Bi Gn S6 q))))) (gA (tB h λx5 y5 h=>gJ y5 (λi4=>aG Γ .normal (⟨[(1,(Z5 i4))],[(Z8 v11 v20 9100002),(9100002,.obj (.map true .i64 (Bu (λ(v_:Int)=>((Z5 v_):AV)) v38)))],[]⟩:St)) (λy h=>Af q [1,20] S6 (gC h (λh=>Af q [1] S6 (tS h (gK (Bd Iq)))) λh=>tS h (gK (Bd (Bi [1] S6 q))))) (gA (Af q [4] S6 (tS h (Cc YH)))))))
def Jk(aO:Ba)(a3:Int)(a5:Int)(a7:List Gq):(Int×Ar×Ar)->Option (LR (Int×Ar×Ar) (Ar×Ar)):=
 λ((i1,l2,l3):(Int×Ar×Ar))=>(bif (decide (i1<(aO.From.length:Int))) then(A0 (A1 i1 aO.From.length) ((K0 (aO.From.getD i1.toNat 0) a3 a5 a7).bind λx7=>((Fe l2 x7).bind λx8=>((CD l2 x8.1 [x7]).bind λx9=>(A0 (1=x9.2.2.length) (A0 (A1 i1 aO.Args.length) ((G6 (aO.Args.getD i1.toNat 0) a3 a5 a7).bind λx12=>((CD l3 x8.1 [x12]).bind λx13=>(A0 (1=x13.2.2.length) (some (.next ((w64 (i1+1)),x9.2.1,x13.2.1)))))))))))) else(some (.done (l2,l3))))
def nB(l5:Ar):=(λi=>Ap (l5.getD i 0))
def nA:AV:=fG
def UN(a7:List Gq):=(Bu (λ(v_:Int)=>((Z5 v_):AV)) a7)
def vP(aO:Ba):List AV:=[(Z5 aO.Bits),(Z5 aO.Dst),(Z6 aO.From),(Z6 aO.Args)]
def xj(aO:Ba)(a3:Int)(a5:Int)(a7:List Gq):=(⟨[cA,(3,(.ptr 3 0)),ZB,(5,(.vsl 36005 ([]:Ar).length)),(6,(.vsl 36006 ([]:Ar).length)),(12,(Z6 aO.From)),(bm 13 aO.From.length),(14,L9)],[(3,.row 67 (vP aO)),(4,.row 67 [L9,L9,Z0,Z0]),(Z8 a3 a5 9100002),(Z71 36005),(Z71 36006),(UP 9100002 (UN a7))],[]⟩:St)
def Pi(aO:Ba)(a3:Int)(a5:Int)(a7:List Gq):Option Ba:=
 ((Ac (Jk aO a3 a5 a7) ((0:Int),([]:Ar),([]:Ar))).bind (λ(l4,l5)=>(some (⟨aO.Bits,aO.Dst,l4,l5⟩:Ba))))
variable{v4:Ba}{v41:Ba}
theorem JU(h:Pi v4 v1 v11 v38=some v41):sP 140 [(.ptr 30000 0),(.agg (Eo v4))] [(Z8 v1 v11 9100002),(9100002,.obj (.map true .i64 (Bu (λ(v_:Int)=>((Z5 v_):AV)) v38)))] (.agg (Eo v41)) [(Z8 v1 v11 9100002),(9100002,.obj (.map true .i64 (Bu (λ(v_:Int)=>((Z5 v_):AV)) v38)))]:=
 sG Tryz.func140 λΓ q=>have hΓ:=q.own;Af q S9 eT (gR q TK eT [(5,nA),(6,nA)] [] (c2 (B0 1 Ap (0:Int)) (B0 1 Ap (0:Int))) (Af q TY eT (gLe (st':=(xj v4 v1 v11 v38)) (Le.trans (Bi (st':=⟨[cA,(3,(.ptr 3 0)),ZB,(5,nA),(6,nA),(12,(Z6 v4.From)),(bm 13 v4.From.length),(14,L9)],[(3,.row 67 (vP v4)),(4,.row 67 [L9,L9,Z0,Z0]),(Z8 v1 v11 9100002),(UP 9100002 (UN v38))],[]⟩) TY eT q) (Le.trans (Le.trans (PZ (t:=5) (nm:=36005) (sz':=1) (λi=>Ap (([]:Ar).getD i 0)) 3 rfl rfl) (Bi (st':=⟨[cA,(3,(.ptr 3 0)),ZB,(5,(.vsl 36005 ([]:Ar).length)),(6,nA),(12,(Z6 v4.From)),(bm 13 v4.From.length),(14,L9)],[(3,.row 67 (vP v4)),(4,.row 67 [L9,L9,Z0,Z0]),(Z8 v1 v11 9100002),(Z71 36005),(UP 9100002 (UN v38))],[]⟩) TY [3,4,30000,36005,9100002] q)) (Le.trans (PZ (t:=6) (nm:=36006) (sz':=1) (λi=>Ap (([]:Ar).getD i 0)) 3 rfl rfl) (Bi (st':=(xj v4 v1 v11 v38)) TY UD q)))) (tL q h TY UD (λu (i1,l2,l3)=>(Cl u [(Vk 36005 l2.length),(6,(.vsl 36006 l3.length)),(14,(Z5 i1))] [(Z4 36005 l2),(Z4 36006 l3)])) (λu (l4,l5)=>aG Γ (.exit 0) (Ni [3,4,5,6] UD u [(Vk 36005 l4.length),(6,(.vsl 36006 l5.length))] [(Z4 36005 l4),(36006,.arr 1 3 l5.length (nB l5))])) (λ⟨i1,l2,l3⟩ y h=>Af q [0,3,4,5,6,12,13,14,15] UD (gC h (λh=>tV q qi UD h λh=>tB h λx7 y7 h=>tT q qi UD [(yL x7 v1 v11 (UN v38))] (ci (T6 y7) (rkl [(.row 137 (b8 v1 v11 9100002)),(.obj (.map true .i64 (UN v38)))])) (tB h λx8 y8 h=>tT q [0,3,4,5,6,7,8,9,12,13,14] UD [⟨[],[],(.tuple [(Z5 x8.1),(.bool x8.2)]),[],[36005],[]⟩] (c3 (Ru y8) (show(EG []) from trivial) (Eq.refl l2.length)) (tB h λx9 y9 h=>tC h λc10_ h=>tC h λc11_ h=>tB h λx12 y12 h=>tB h λx13 y13 h=>tC h λc14_ h=>gR q TY UD [(31,(.vsl 31 1)),(42,(.vsl 42 1))] [⟨qk,[],(.vsl 34000 x9.2.1.length),[(Z4 34000 x9.2.1),(Z4 34002 x9.2.2)],[],[]⟩,(yL x12 v1 v11 (UN v38)),⟨ql,[],(.vsl 34000 x13.2.1.length),[(Z4 34000 x13.2.1),(Z4 34002 x13.2.2)],[],[]⟩] (ZM (SH l2 x8.1 [x7] x9 y9 (λi_=>AV.renAll qk ((λi_=>([(Z5 x7)].drop (i_*1)).take 1) i_)) (bH (n:=0) gh rfl)) c11_ (Mj y12) (tw [(.row 137 (b8 v1 v11 9100002)),(.obj (.map true .i64 (UN v38)))] (c1 (SH l3 x8.1 [x12] x13 y13 (λi_=>AV.renAll ql ((λi_=>([(Z5 x12)].drop (i_*1)).take 1) i_)) (bH (n:=0) gh rfl))))) (Af q TY UD (tN h))))) λh=>tS h (gO (Bd (Bi [3,4,5,6] UD q))))) λx15 h=>(match x15,h with|⟨l4,l5⟩,h=>gA (tW q Yp UD [4] [4,30000,36005,36006,9100002] (Qc (⟨[ZB],[(4,.row 67 [(Z5 v4.Bits),(Z5 v4.Dst),(.vsl 36005 l4.length),(.vsl 36006 l5.length)]),(Z8 v1 v11 9100002),(Z4 36005 l4),(36006,.arr 1 3 l5.length (nB l5)),(UP 9100002 (UN v38))],[]⟩:St) (tS h (gK (e:=.ret) (H6 YH (Le.trans (Le.trans (le_freeze (nm:=36005) (sz:=1) (n:=l4.length) (e:=3) (f:=(λi=>Ap (l4.getD i 0))) (g:=(λi=>Ap (l4.getD i 0))) rfl ⟨rfl,trivial⟩ (λ_ _=>rfl) (by rw[hΓ];rfl)) (Gt (st':=⟨[ZB],[(4,.row 67 [(Z5 v4.Bits),(Z5 v4.Dst),(V8 l4 36005),(.vsl 36006 l5.length)]),(Z8 v1 v11 9100002),(Yt 36005 l4.length),(36006,.arr 1 3 l5.length (nB l5)),(UP 9100002 (UN v38))],[]⟩) (by kernel_rfl))) (Le.trans (le_freeze (nm:=36006) (sz:=1) (n:=l5.length) (e:=3) (f:=(nB l5)) (g:=(nB l5)) rfl ⟨rfl,trivial⟩ (λ_ _=>rfl) (by rw[hΓ];rfl)) (Gt (st':=⟨[ZB],[(4,.row 67 [(Z5 v4.Bits),(Z5 v4.Dst),(V8 l4 36005),(V8 l5 36006)]),(Z8 v1 v11 9100002),(Yt 36005 l4.length),(Yt 36006 l5.length),(UP 9100002 (UN v38))],[]⟩) (by kernel_rfl))))))))))))))
def Qx(a9:Ar)(a3:Int)(a5:Int)(a7:List Gq):CE->Option qW:=
 λ((i2,l3):CE)=>(bif (decide (i2<(a9.length:Int))) then(A0 (A1 i2 a9.length) ((G6 (a9.getD i2.toNat 0) a3 a5 a7).bind λx6=>(A0 (A1 i2 l3.length) (some (.next ((w64 (i2+1)),(l3.set i2.toNat x6))))))) else(some (.done l3)))
def ru(a7:List Gq):=(Bu (λ(v_:Int)=>((Z5 v_):AV)) a7)
def Uz(a9:Ar)(a3:Int)(a5:Int)(a7:List Gq):Option Ar:=
 (A0 (0<=(a9.length:Int)/\(a9.length:Int)<=(a9.length:Int)/\(a9.length:Int)<=(room:Int)) ((Ac (Qx a9 a3 a5 a7) ((0:Int),(List.replicate (a9.length:Int).toNat (0:Int)))).bind (λx8=>(some x8))))
theorem bD(h:Uz v2 v1 v11 v38=some v17):sP 141 [(Z6 v2),(.clo 83 OR [])] [(Z8 v1 v11 9100002),(9100002,.obj (.map true .i64 (Bu (λ(v_:Int)=>((Z5 v_):AV)) v38)))] (V8 v17 20000) [(Z8 v1 v11 9100002),(9100002,.obj (.map true .i64 (Bu (λ(v_:Int)=>((Z5 v_):AV)) v38))),(Yt 20000 v17.length)]:=
 sG Tryz.func141 λΓ q=>have hΓ:=q.own;gR q Gn S6 [(4,fG)] [] (c1 (B0 1 Ap (0:Int))) (tV q Nd Sp h λh=>by exact gLe (Le.trans (Sr 10 (show ∀ k_,k_<((v2.length:Int).toNat)->AVleL ((λi_=>AV.eraseAll (λn_=>Bw n_ Sp) ((λ_=>[L9]) i_)) k_) ((λi=>Ap ((List.replicate (v2.length:Int).toNat (0:Int)).getD i 0)) k_) from(λk hk=>M7 (e:=Ap) (d:=(0:Int)) (.cons (AVle.refl _) .nil) _ k (M8 hk)))) (Sa (λ(k_:Nat) u=>(Cl u [(Vk 10 k_)] (Z72 10 k_ v2.length))) (show(v2.length:Int).toNat=(List.replicate (v2.length:Int).toNat (0:Int)).length from(N9 ..).symm))) (Af q MQ Sp (tL q h MQ Sp (λu (i2,l3)=>(Cl u [(Vk 10 l3.length),(13,(Z5 i2))] [(Z4 10 l3)])) (λu l4=>aG Γ (.exit 0) (Ni [5] Sp u [(Vk 10 l4.length)] [(Z4 10 l4)])) (λ⟨i2,l3⟩ y h=>Af q [1,5,11,12,13,14] Sp (gC h (λh=>tV q [1,5,6,7,11,12,13] Sp h λh=>tB h λx6 y6 h=>tC h λc7_ h=>tT q MQ Sp [(yL x6 v1 v11 (ru v38))] (ci (Mj y6) (tw [(.row 137 (b8 v1 v11 9100002)),(.obj (.map true .i64 (ru v38)))] (c2 c7_ (Eq.refl l3.length)))) (gLe (Le.trans (Sr 10 (show ∀ k_,k_<l3.length->AVleL ((λi_=>AV.eraseAll (λn_=>Bw n_ Sp) ((Fc (λi=>Ap (l3.getD i 0)) i2.toNat 0 [(Z5 x6)]) i_)) k_) ((λi=>Ap ((l3.set i2.toNat x6).getD i 0)) k_) from(Bh (C8 ..).symm (λk_ hk_=>(Bg (AV.eraseAll (λn_=>Bw n_ Sp)) ((Fu (λ_ _=>rfl) (Hv c7_) rfl) k_ hk_)).trans rfl)))) (Sa (λ(k_:Nat) u=>(Cl u [(Vk 10 k_)] [(10,.arr 1 3 k_ (λi=>Ap ((l3.set i2.toNat x6).getD i 0)))])) (show l3.length=(l3.set i2.toNat x6).length from(C8 ..).symm))) (Af q MQ Sp (tN h)))) λh=>tS h (gO (Bd (Bi [5] Sp q))))) λx8 h=>gA (Af q [4] Sp (Qc (⟨[(4,(.vsl 10 x8.length))],[(Z4 10 x8),(Z8 v1 v11 9100002),(UP 9100002 (ru v38))],[]⟩:St) (tS h (gK (e:=.ret) (H6 u4 (Le.trans (le_freeze (nm:=10) (sz:=1) (n:=x8.length) (e:=3) (f:=(λi=>Ap (x8.getD i 0))) (g:=(λi=>Ap (x8.getD i 0))) rfl ⟨rfl,trivial⟩ (λ_ _=>rfl) (by rw[hΓ];rfl)) (Gt (st':=⟨[(4,(V8 x8 10))],[(Yt 10 x8.length),(Z8 v1 v11 9100002),(UP 9100002 (ru v38))],[]⟩) (by kernel_rfl)))))))))))
def M6(a9:Ar)(a3:Int)(a5:Int)(a7:List Gq):CE->Option qW:=
 λ((i2,l3):CE)=>(bif (decide (i2<(a9.length:Int))) then(A0 (A1 i2 a9.length) ((K0 (a9.getD i2.toNat 0) a3 a5 a7).bind λx6=>(A0 (A1 i2 l3.length) (some (.next ((w64 (i2+1)),(l3.set i2.toNat x6))))))) else(some (.done l3)))
def rv(a7:List Gq):=(Bu (λ(v_:Int)=>((Z5 v_):AV)) a7)
def Qy(a9:Ar)(a3:Int)(a5:Int)(a7:List Gq):Option Ar:=
 (A0 (0<=(a9.length:Int)/\(a9.length:Int)<=(a9.length:Int)/\(a9.length:Int)<=(room:Int)) ((Ac (M6 a9 a3 a5 a7) ((0:Int),(List.replicate (a9.length:Int).toNat (0:Int)))).bind (λx8=>(some x8))))
theorem NI(h:Qy v2 v1 v11 v38=some v17):sP 141 [(Z6 v2),(.clo 142 OR [])] [(Z8 v1 v11 9100002),(9100002,.obj (.map true .i64 (Bu (λ(v_:Int)=>((Z5 v_):AV)) v38)))] (V8 v17 20000) [(Z8 v1 v11 9100002),(9100002,.obj (.map true .i64 (Bu (λ(v_:Int)=>((Z5 v_):AV)) v38))),(Yt 20000 v17.length)]:=
 sG Tryz.func141 λΓ q=>have hΓ:=q.own;gR q Gn S6 [(4,fG)] [] (c1 (B0 1 Ap (0:Int))) (tV q Nd Sp h λh=>by exact gLe (Le.trans (Sr 10 (show ∀ k_,k_<((v2.length:Int).toNat)->AVleL ((λi_=>AV.eraseAll (λn_=>Bw n_ Sp) ((λ_=>[L9]) i_)) k_) ((λi=>Ap ((List.replicate (v2.length:Int).toNat (0:Int)).getD i 0)) k_) from(λk hk=>M7 (e:=Ap) (d:=(0:Int)) (.cons (AVle.refl _) .nil) _ k (M8 hk)))) (Sa (λ(k_:Nat) u=>(Cl u [(Vk 10 k_)] (Z72 10 k_ v2.length))) (show(v2.length:Int).toNat=(List.replicate (v2.length:Int).toNat (0:Int)).length from(N9 ..).symm))) (Af q MQ Sp (tL q h MQ Sp (λu (i2,l3)=>(Cl u [(Vk 10 l3.length),(13,(Z5 i2))] [(Z4 10 l3)])) (λu l4=>aG Γ (.exit 0) (Ni [5] Sp u [(Vk 10 l4.length)] [(Z4 10 l4)])) (λ⟨i2,l3⟩ y h=>Af q [1,5,11,12,13,14] Sp (gC h (λh=>tV q [1,5,6,7,11,12,13] Sp h λh=>tB h λx6 y6 h=>tC h λc7_ h=>tT q MQ Sp [(yL x6 v1 v11 (rv v38))] (ci (T6 y6) (tw [(.row 137 (b8 v1 v11 9100002)),(.obj (.map true .i64 (rv v38)))] (c2 c7_ (Eq.refl l3.length)))) (gLe (Le.trans (Sr 10 (show ∀ k_,k_<l3.length->AVleL ((λi_=>AV.eraseAll (λn_=>Bw n_ Sp) ((Fc (λi=>Ap (l3.getD i 0)) i2.toNat 0 [(Z5 x6)]) i_)) k_) ((λi=>Ap ((l3.set i2.toNat x6).getD i 0)) k_) from(Bh (C8 ..).symm (λk_ hk_=>(Bg (AV.eraseAll (λn_=>Bw n_ Sp)) ((Fu (λ_ _=>rfl) (Hv c7_) rfl) k_ hk_)).trans rfl)))) (Sa (λ(k_:Nat) u=>(Cl u [(Vk 10 k_)] [(10,.arr 1 3 k_ (λi=>Ap ((l3.set i2.toNat x6).getD i 0)))])) (show l3.length=(l3.set i2.toNat x6).length from(C8 ..).symm))) (Af q MQ Sp (tN h)))) λh=>tS h (gO (Bd (Bi [5] Sp q))))) λx8 h=>gA (Af q [4] Sp (Qc (⟨[(4,(.vsl 10 x8.length))],[(Z4 10 x8),(Z8 v1 v11 9100002),(UP 9100002 (rv v38))],[]⟩:St) (tS h (gK (e:=.ret) (H6 u4 (Le.trans (le_freeze (nm:=10) (sz:=1) (n:=x8.length) (e:=3) (f:=(λi=>Ap (x8.getD i 0))) (g:=(λi=>Ap (x8.getD i 0))) rfl ⟨rfl,trivial⟩ (λ_ _=>rfl) (by rw[hΓ];rfl)) (Gt (st':=⟨[(4,(V8 x8 10))],[(Yt 10 x8.length),(Z8 v1 v11 9100002),(UP 9100002 (rv v38))],[]⟩) (by kernel_rfl)))))))))))
abbrev wz:=(Int×List Ba)
def Ky(a2:Ae)(a3:Int)(a5:Int)(a7:List Gq):wz->Option (LR (Int×List Ba) (List Ba)):=
 λ((i2,l3):wz)=>(bif (decide (i2<(a2.Phis.length:Int))) then(A0 (A1 i2 a2.Phis.length) ((Pi (a2.Phis.getD i2.toNat default) a3 a5 a7).bind λx6=>(A0 (A1 i2 l3.length) (some (.next ((w64 (i2+1)),(l3.set i2.toNat (⟨x6.Bits,x6.Dst,x6.From,x6.Args⟩:Ba)))))))) else(some (.done l3)))
abbrev w4:=(Int×List B2)
def Kz(a2:Ae)(a3:Int)(a5:Int)(a7:List Gq):w4->Option (LR (Int×List B2) (List B2)):=
 λ((i11,l12):w4)=>(bif (decide (i11<(a2.Ops.length:Int))) then(A0 (A1 i11 a2.Ops.length) ((Uz ((a2.Ops.getD i11.toNat default).Args) a3 a5 a7).bind λx15=>(A0 (A1 i11 l12.length) (some (.next ((w64 (i11+1)),(l12.set i11.toNat (⟨(a2.Ops.getD i11.toNat default).Kind,(a2.Ops.getD i11.toNat default).Bits,(a2.Ops.getD i11.toNat default).Lanes,(a2.Ops.getD i11.toNat default).Dst,x15,(a2.Ops.getD i11.toNat default).Imm⟩:B2)))))))) else(some (.done l12)))
def FF(a2:Ae)(i11:Int):=(a2.Ops.getD i11.toNat default)
def nD(x8:List Ba):=(λi=>Eo (x8.getD i default))
def IR(a7:List Gq):=(Bu (λ(v_:Int)=>((Z5 v_):AV)) a7)
def vS(a2:Ae):=(List.replicate (a2.Ops.length:Int).toNat (default:B2))
def vR(a2:Ae):=(List.replicate (a2.Phis.length:Int).toNat (default:Ba))
def rx(a3:Int)(a5:Int):Own:=(.row 137 (b8 a3 a5 9100002))
def vT(l12:List B2)(i11:Int)(a2:Ae)(x15:Ar):=(l12.set i11.toNat (⟨(FF a2 i11).Kind,(FF a2 i11).Bits,(FF a2 i11).Lanes,(FF a2 i11).Dst,x15,(FF a2 i11).Imm⟩:B2))
def nC:List AV:=[Z0,Z0,L9,L9,Z0]
def xl(a2:Ae):List AV:=[(xF a2.Phis),(xG a2.Ops),(Z5 a2.End.Kind),(Z5 a2.End.Arg),(Z6 a2.End.To)]
def xm(a2:Ae)(i11:Int)(x15:Ar):List AV:=[(.int .i64 (FF a2 i11).Kind),(.int .i64 (FF a2 i11).Bits),(.int .i64 (FF a2 i11).Lanes),(.int .i64 (FF a2 i11).Dst),(Z6 x15),(.int .u64 (FF a2 i11).Imm)]
def xk(x8:List Ba)(l12:List B2)(i11:Int)(a2:Ae):List MK:=[cA,(3,(.ptr 3 0)),ZB,(Vk 15 x8.length),(8,(.vsl 34 l12.length)),(9,(Z5 i11)),(10,(.ptr 10 0)),(36,(xG a2.Ops)),(bm 37 a2.Ops.length),(38,(Z5 i11))]
def Kx(a2:Ae)(a3:Int)(a5:Int)(a7:List Gq):Option Ae:=
 (A0 (0<=(a2.Phis.length:Int)/\(a2.Phis.length:Int)<=(a2.Phis.length:Int)/\(a2.Phis.length:Int)<=(room:Int)) ((Ac (Ky a2 a3 a5 a7) ((0:Int),(List.replicate (a2.Phis.length:Int).toNat (default:Ba)))).bind (λx8=>(A0 (0<=(a2.Ops.length:Int)/\(a2.Ops.length:Int)<=(a2.Ops.length:Int)/\(a2.Ops.length:Int)<=(room:Int)) ((Ac (Kz a2 a3 a5 a7) ((0:Int),(List.replicate (a2.Ops.length:Int).toNat (default:B2)))).bind (λx17=>((G6 a2.End.Arg a3 a5 a7).bind λx19=>((Qy a2.End.To a3 a5 a7).bind λx20=>(some (⟨x8,x17,(⟨a2.End.Kind,x19,x20⟩:Kb)⟩:Ae))))))))))
variable{v42:Ae}{v9:Ae}
theorem T5(h:Kx v9 v1 v11 v38=some v42):sP 85 [(.ptr 30000 0),(.agg (Cg v9))] [(Z8 v1 v11 9100002),(9100002,.obj (.map true .i64 (Bu (λ(v_:Int)=>((Z5 v_):AV)) v38)))] (.agg (Cg v42)) [(Z8 v1 v11 9100002),(9100002,.obj (.map true .i64 (Bu (λ(v_:Int)=>((Z5 v_):AV)) v38)))]:=
 sG Tryz.func85 λΓ q=>have hΓ:=q.own;Af q S9 eT (tV q bg CQ h λh=>by exact gLe (Le.trans (Sr 15 (show ∀ k_,k_<((v9.Phis.length:Int).toNat)->AVleL ((λi_=>AV.eraseAll (λn_=>Bw n_ CQ) ((λ_=>[L9,L9,Z0,Z0]) i_)) k_) ((λi=>Eo ((vR v9).getD i default)) k_) from(λk hk=>M7 (e:=Eo) (d:=(default:Ba)) (.cons (AVle.refl _) (.cons (AVle.refl _) (.cons (λ_ _ _ _ _ hh=>AVle.untag _ _ _ _ _ (El _ _ _ _ _ hh)) (.cons (λ_ _ _ _ _ hh=>AVle.untag _ _ _ _ _ (El _ _ _ _ _ hh)) .nil)))) _ k (M8 hk)))) (Sa (λ(k_:Nat) u=>(Cl u [(Vk 15 k_)] [(15,.arr 4 67 k_ (λi=>Eo ((vR v9).getD i default)))])) (show(v9.Phis.length:Int).toNat=(vR v9).length from(N9 ..).symm))) (Af q kO CQ (tL q h kO CQ (λu (i2,l3)=>(Cl u [(Vk 15 l3.length),(19,(Z5 i2))] (nP 15 l3))) (λu l4=>aG Γ (.exit 0) (Ni bg CQ u [(Vk 15 l4.length)] (nP 15 l4))) (λ⟨i2,l3⟩ y h=>Af q [0,3,4,5,17,18,19,20] CQ (gC h (λh=>tV q [0,3,4,5,6,7,17,18,19] [3,4,7,15,30000,9100002] h λh=>tB h λx6 y6 h=>tC h λc7_ h=>tT q kO CQ [⟨YH,[],(.agg (Eo x6)),[(Z8 v1 v11 9100002),(UP 9100002 (IR v38))],[],S6⟩] (ci (JU y6) (tw [(rx v1 v11),(.obj (.map true .i64 (IR v38)))] (c2 c7_ (Eq.refl l3.length)))) (gLe (Le.trans (Sr 15 (show ∀ k_,k_<l3.length->AVleL ((λi_=>AV.eraseAll (λn_=>Bw n_ CQ) ((Fc (λi=>Eo (l3.getD i default)) i2.toNat 0 (Eo x6)) i_)) k_) ((λi=>Eo ((l3.set i2.toNat (⟨x6.Bits,x6.Dst,x6.From,x6.Args⟩:Ba)).getD i default)) k_) from(Bh (C8 ..).symm (λk_ hk_=>(Bg (AV.eraseAll (λn_=>Bw n_ CQ)) ((Fu (λ_ _=>rfl) (Hv c7_) rfl) k_ hk_)).trans rfl)))) (Sa (λ(k_:Nat) u=>(Cl u [(Vk 15 k_)] [(15,.arr 4 67 k_ (λi=>Eo ((l3.set i2.toNat (⟨x6.Bits,x6.Dst,x6.From,x6.Args⟩:Ba)).getD i default)))])) (show l3.length=(l3.set i2.toNat (⟨x6.Bits,x6.Dst,x6.From,x6.Args⟩:Ba)).length from(C8 ..).symm))) (Af q kO CQ (tN h)))) λh=>tS h (gO (Bd (Bi bg CQ q))))) λx8 h=>gA (tV q iZ CL h λh=>by exact gLe (Le.trans (Sr 34 (show ∀ k_,k_<((v9.Ops.length:Int).toNat)->AVleL ((λi_=>AV.eraseAll (λn_=>Bw n_ CL) ((λ_=>[L9,L9,L9,L9,Z0,(.int .u64 (0:Int))]) i_)) k_) ((λi=>J6 ((vS v9).getD i default)) k_) from(λk hk=>M7 (e:=J6) (d:=(default:B2)) (.cons (AVle.refl _) (.cons (AVle.refl _) (.cons (AVle.refl _) (.cons (AVle.refl _) (.cons (λ_ _ _ _ _ hh=>AVle.untag _ _ _ _ _ (El _ _ _ _ _ hh)) (.cons (AVle.refl _) .nil)))))) _ k (M8 hk)))) (Sa (λ(k_:Nat) u=>(Cl u [(8,(.vsl 34 k_))] [(34,.arr 6 70 k_ (λi=>J6 ((vS v9).getD i default)))])) (show(v9.Ops.length:Int).toNat=(vS v9).length from(N9 ..).symm))) (Af q kM CL (tL q h kM CL (λu (i11,l12)=>(Cl u [(8,(.vsl 34 l12.length)),(38,(Z5 i11))] [(fH 34 l12)])) (λu l13=>aG Γ (.exit 2) (Ni iZ CL u [(8,(.vsl 34 l13.length))] [(fH 34 l13)])) (λ⟨i11,l12⟩ y h=>Af q [0,3,4,5,8,36,37,38,39] CL (gC h (λh=>tV q qx qh h λh=>tB h λx15 y15 h=>tT q qx [3,4,10,15,34,47,30000,9100002] [(Z85 47 x15 v1 v11 (IR v38) x15.length)] (ci (bD y15) (rkl [(rx v1 v11),(.obj (.map true .i64 (IR v38)))])) (Qc (⟨(xk x8 l12 i11 v9),[(3,.row 64 (xl v9)),(4,.row 64 nC),(10,.row 70 [(.int .i64 (FF v9 i11).Kind),(.int .i64 (FF v9 i11).Bits),(.int .i64 (FF v9 i11).Lanes),(.int .i64 (FF v9 i11).Dst),(V8 x15 47),(.int .u64 (FF v9 i11).Imm)]),(15,.arr 4 67 x8.length (nD x8)),(fH 34 l12),(Yt 47 x15.length),(Z8 v1 v11 9100002),(UP 9100002 (IR v38))],[]⟩:St) (gLe (show Le Γ _ (⟨(xk x8 l12 i11 v9),[(3,.row 64 (xl v9)),(4,.row 64 nC),(10,.row 70 (xm v9 i11 x15)),(15,.arr 4 67 x8.length (nD x8)),(fH 34 l12),(Z8 v1 v11 9100002),(UP 9100002 (IR v38))],[]⟩:St) from Bi qx qh q) (tC h λc16_ h=>tU q kM CL (c2 c16_ (Eq.refl l12.length)) (gLe (Le.trans (Sr 34 (show ∀ k_,k_<l12.length->AVleL ((λi_=>AV.eraseAll (λn_=>Bw n_ CL) ((Fc (λi=>J6 (l12.getD i default)) i11.toNat 0 (xm v9 i11 x15)) i_)) k_) ((λi=>J6 ((vT l12 i11 v9 x15).getD i default)) k_) from(Bh (C8 ..).symm (λk_ hk_=>(Bg (AV.eraseAll (λn_=>Bw n_ CL)) ((Fu (λ_ _=>rfl) (Hv c16_) rfl) k_ hk_)).trans rfl)))) (Sa (λ(k_:Nat) u=>(Cl u [(8,(.vsl 34 k_))] [(34,.arr 6 70 k_ (λi=>J6 ((vT l12 i11 v9 x15).getD i default)))])) (show l12.length=(vT l12 i11 v9 x15).length from(C8 ..).symm))) (Af q kM CL (tN h))))))) λh=>tS h (gO (Bd (Bi iZ CL q))))) λx17 h=>gA (tB h λx19 y19 h=>tB h λx20 y20 h=>tT q [4,5,8,11] [4,11,15,34,67,30000,9100002] [(yL x19 v1 v11 (IR v38)),(Z85 67 x20 v1 v11 (IR v38) x20.length)] (ci (Mj y19) (tw [(rx v1 v11),(.obj (.map true .i64 (IR v38)))] (ci (NI y20) (rkl [(rx v1 v11),(.obj (.map true .i64 (IR v38)))])))) (Qc (⟨[ZB,(Vk 15 x8.length),(8,(.vsl 34 x17.length)),(11,(.ptr 11 0))],[(4,.row 64 nC),(11,.row 62 [(Z5 v9.End.Kind),(Z5 x19),(V8 x20 67)]),(15,.arr 4 67 x8.length (nD x8)),(fH 34 x17),(Yt 67 x20.length),(Z8 v1 v11 9100002),(UP 9100002 (IR v38))],[]⟩:St) (gLe (Le.trans (le_freeze (nm:=15) (sz:=4) (n:=x8.length) (e:=67) (f:=(nD x8)) (g:=(nD x8)) rfl ⟨rfl,trivial⟩ (λ_ _=>rfl) (by rw[hΓ];rfl)) (Gt (st':=⟨[ZB,(5,(AV.list 4 Eo default x8 (.own 15))),(8,(.vsl 34 x17.length)),(11,(.ptr 11 0))],[(4,.row 64 nC),(11,.row 62 [(Z5 v9.End.Kind),(Z5 x19),(V8 x20 67)]),(15,.tok 4 67 x8.length),(fH 34 x17),(Yt 67 x20.length),(Z8 v1 v11 9100002),(UP 9100002 (IR v38))],[]⟩) (by kernel_rfl))) (gLe (Le.trans (le_freeze (nm:=34) (sz:=6) (n:=x17.length) (e:=70) (f:=(λi=>J6 (x17.getD i default))) (g:=(λi=>J6 (x17.getD i default))) rfl ⟨rfl,trivial⟩ (λ_ _=>rfl) (by rw[hΓ];rfl)) (Gt (st':=⟨[ZB,(5,(AV.list 4 Eo default x8 (.own 15))),(8,(vp x17 34)),(11,(.ptr 11 0))],[(4,.row 64 nC),(11,.row 62 [(Z5 v9.End.Kind),(Z5 x19),(V8 x20 67)]),(15,.tok 4 67 x8.length),(34,.tok 6 70 x17.length),(Yt 67 x20.length),(Z8 v1 v11 9100002),(UP 9100002 (IR v38))],[]⟩) (by kernel_rfl))) (Af q [4] [4,15,34,67,30000,9100002] (tS h (Cc YH)))))))))))))
open Go Go.RowKit
set_option maxRecDepth 100000
set_option maxHeartbeats 2000000
def G4(a2:TFunc)(a3:Int)(a5:Int):qa->Option zN:=
 λ((i3,l4):qa)=>(bif (decide (i3<(((a2.Blocks.getD a5.toNat default).Phis).length:Int))) then(A0 (A1 i3 ((a2.Blocks.getD a5.toNat default).Phis).length) (A0 (A1 (0:Int) ((((a2.Blocks.getD a5.toNat default).Phis).getD i3.toNat default).Args).length) ((G6 (((((a2.Blocks.getD a5.toNat default).Phis).getD i3.toNat default).Args).getD (0:Int).toNat (0:Int)) a3 a5 l4).bind λx8=>(some (.next ((w64 (i3+1)),(Jm l4 (((a2.Blocks.getD a5.toNat default).Phis).getD i3.toNat default).Dst x8))))))) else(some (.done l4)))
abbrev uR:=(Int×List Ae)
abbrev zV:=(LR (Int×List Ae) (List Ae))
def G5(a2:TFunc)(a3:Int)(a5:Int)(l5:List Gq)(x11:List B2):uR->Option zV:=
 λ((i12,l13):uR)=>(bif (decide (i12<(a2.Blocks.length:Int))) then(Option.bind (α:=List Ae) (A0 (A1 i12 a2.Blocks.length) (bif (i12==a3) then((Kx (⟨(a2.Blocks.getD a3.toNat default).Phis,x11,(⟨(a2.Blocks.getD a5.toNat default).End.Kind,(a2.Blocks.getD a5.toNat default).End.Arg,(a2.Blocks.getD a5.toNat default).End.To⟩:Kb)⟩:Ae) a3 a5 l5).bind λx17=>(A0 (l13.length+([(⟨x17.Phis,x17.Ops,(⟨x17.End.Kind,x17.End.Arg,x17.End.To⟩:Kb)⟩:Ae)]:List Ae).length<=room) (some (l13++([(⟨x17.Phis,x17.Ops,(⟨x17.End.Kind,x17.End.Arg,x17.End.To⟩:Kb)⟩:Ae)]:List Ae))))) else(bif (i12==a5) then(some l13) else((Kx (a2.Blocks.getD i12.toNat default) a3 a5 l5).bind λx19=>(A0 (l13.length+([(⟨x19.Phis,x19.Ops,(⟨x19.End.Kind,x19.End.Arg,x19.End.To⟩:Kb)⟩:Ae)]:List Ae).length<=room) (some (l13++([(⟨x19.Phis,x19.Ops,(⟨x19.End.Kind,x19.End.Arg,x19.End.To⟩:Kb)⟩:Ae)]:List Ae)))))))) (λx21=>(some (.next ((w64 (i12+1)),x21))))) else(some (.done l13)))
def Zh:=(λ(v_:Int)=>((Z5 v_):AV))
def UO(a2:TFunc):AV:=(Z6 a2.Params)
def vW:AV:=(AV.list 5 Cg default ([]:List Ae) .exact)
def vV:List AV:=[Z0,L9,Z0]
def xp(a2:TFunc)(a5:Int)(i3:Int):=(((a2.Blocks.getD a5.toNat default).Phis).getD i3.toNat default)
def ry(x17:Ae):=([(⟨x17.Phis,x17.Ops,(⟨x17.End.Kind,x17.End.Arg,x17.End.To⟩:Kb)⟩:Ae)]:List Ae)
def rz(x19:Ae):=([(⟨x19.Phis,x19.Ops,(⟨x19.End.Kind,x19.End.Arg,x19.End.To⟩:Kb)⟩:Ae)]:List Ae)
def xo(a2:TFunc)(a3:Int)(a5:Int):=([(a2.Blocks.getD a3.toNat default).Ops,(a2.Blocks.getD a5.toNat default).Ops]:List (List B2))
def xn(a2:TFunc):List MK:=[cA,ZB,eZ,(9,(.ptr 9 0)),(68,(UF a2.Blocks)),(bm 69 a2.Blocks.length),(70,L9)]
def vU(a2:TFunc)(a3:Int)(x11:List B2)(a5:Int):List AV:=[(AV.list 4 Eo default (a2.Blocks.getD a3.toNat default).Phis .none),(vp x11 57),(.int .i64 (a2.Blocks.getD a5.toNat default).End.Kind),(.int .i64 (a2.Blocks.getD a5.toNat default).End.Arg),(AV.list 1 Ap 0 (a2.Blocks.getD a5.toNat default).End.To .none)]
def xq(a2:TFunc)(a3:Int)(x11:List B2)(a5:Int)(x9:List Gq):=(⟨(xn a2),[(4,.row 25 vV),(5,.row 64 (vU a2 a3 x11 a5)),(9,.row 25 [(UO a2),(Z5 a2.Ret),(AV.list 5 Cg default ([]:List Ae) (.own 5902))]),(29,.obj (.map true .i64 (Bu Zh x9))),(57,.tok 6 70 x11.length),(5902,.tok 5 64 (([]:List Ae).length)),(Z8 a3 a5 29)],[]⟩:St)
abbrev zW:=(TFunc×Int×Int×List (Int×Int))
def Fb(a2:TFunc)(a3:Int)(a5:Int):Option zW:=
 (A0 (A1 a3 a2.Blocks.length) (A0 (A1 a5 a2.Blocks.length) ((Ac (G4 a2 a3 a5) ((0:Int),([]:List Gq))).bind (λx9=>((Ff ([(a2.Blocks.getD a3.toNat default).Ops,(a2.Blocks.getD a5.toNat default).Ops]:List (List B2))).bind λx11=>((Ac (G5 a2 a3 a5 x9 x11) ((0:Int),([]:List Ae))).bind (λx23=>(some ((⟨a2.Params,a2.Ret,x23⟩:TFunc),a3,a5,x9)))))))))
variable{v43:zW}
theorem Sf(h:Fb v0 v1 v11=some v43):sP 47 [(.ptr 30000 0),(W9 v0)] (yU 30000 v1 v11) (W9 v43.1) [(Z8 v43.2.1 v43.2.2.1 9200002),(9200002,.obj (.map false .i64 (Bu (λ(v_:Int)=>((Z5 v_):AV)) v43.2.2.2)))]:=
 sG Tryz.func47 λΓ q=>Af q S9 [3,4,30000] (tC h λc1_ h=>tC h λc2_ h=>tU q TK [3,4,5,6,30000] (c2 c1_ c2_) (Af q TK MP (gLe (Sa (λ(k_:List mQ) u=>Cl u [] [(UP 29 k_)]) (show[]=(Bu Zh ([]:List Gq)) from rfl)) (Af q kN MP (tL q h kN MP (λu (i3,l4)=>(Cl u [(35,(Z5 i3))] [(29,.obj (.map true .i64 (Bu Zh l4)))])) (λu l5=>aG Γ (.exit 0) (Ni TK MP u [] [(29,.obj (.map true .i64 (Bu Zh l5)))])) (λ⟨i3,l4⟩ y h=>Af q [0,3,4,5,6,33,34,35,36] MP (gC h (λh=>tV q [0,3,4,5,6,8,33,34,35] [3,4,5,6,8,29,30000] h λh=>tC h λc7_ h=>tB h λx8 y8 h=>tT q kN MP [⟨iA,[],(Z5 x8),[(Z8 v1 v11 9100002),(9100002,.obj (.map true .i64 (Bu Zh l4)))],[],[30000,29]⟩] (ed c7_ (Mj y8) (rkl [(.row 137 (b8 v1 v11 29)),(.obj (.map true .i64 (Bu Zh l4)))])) (gLe (Sa (λ(k_:List mQ) u=>Cl u [] [(UP 29 k_)]) (show(Jm (Bu Zh l4) (xp v0 v11 i3).Dst (Z5 x8))=(Bu Zh (Jm l4 (xp v0 v11 i3).Dst x8)) from(ak (f:=Zh) (l:=l4) (v:=x8) rfl rfl))) (Af q kN MP (tN h)))) λh=>tS h (gO (Bd (Bi TK MP q))))) λx9 h=>gA (tB h λx11 y11 h=>gR q bg [3,4,5,29,57,30000] [(56,(AV.list 1 WH [] (xo v0 v1 v11) .exact))] [⟨[],[(20000,57)],(vp x11 20000),[(20000,.tok 6 70 x11.length)],[],[]⟩] (c2 (Bp 1 WH [] (xo v0 v1 v11)) (Rv y11)) (gR q [0,3,4,5,9] [3,4,5,9,29,57,30000] [(66,(.agg [(UO v0),(Z5 v0.Ret),vW]))] [] (c1 (show(AVle (.agg [(UO v0),(Z5 v0.Ret),Z0]) (.agg [(UO v0),(Z5 v0.Ret),vW])) from(AVle.agg (.cons (AVle.refl _) (.cons (AVle.refl _) (.cons El .nil)))))) (Af q MO qs (gLe (st':=(xq v0 v1 x11 v11 x9)) (Le.trans (Bi (st':=⟨(xn v0),[(4,.row 25 vV),(5,.row 64 (vU v0 v1 x11 v11)),(9,.row 25 [(UO v0),(Z5 v0.Ret),vW]),(29,.obj (.map true .i64 (Bu Zh x9))),(57,.tok 6 70 x11.length),(Z8 v1 v11 29)],[]⟩) MO qs q) (Le.trans (AZ (r:=9) (j:=2) (nm:=5902) (sz':=5) (λi=>Cg (([]:List Ae).getD i default)) 64 rfl rfl (nl rfl) rfl (.inl ⟨rfl,rfl⟩) (λh_=>absurd h_ (by decide))) (Bi (st':=(xq v0 v1 x11 v11 x9)) MO TX q))) (tL q h MO TX (λu (i12,l13)=>(Cl u [(70,(Z5 i12))] [(9,.row 25 [(UO v0),(Z5 v0.Ret),(vo l13 5902)]),(Ll 5902 64 l13.length)])) (λu l14=>aG Γ (.exit 2) (Ni [4,9] qt u [] [(9,.row 25 [(UO v0),(Z5 v0.Ret),(vo l14 5902)]),(Ll 5902 64 l14.length)])) (λ⟨i12,l13⟩ y h=>Af q [0,4,5,9,68,69,70,71] TX (gC h (λh=>tB h λx21 y21 h=>gJ y21 (λl15=>aG Γ .normal (⟨[cA,ZB,eZ,(9,(.ptr 9 0)),(68,(UF v0.Blocks)),(bm 69 v0.Blocks.length),(70,(Z5 i12))],[(4,.row 25 vV),(5,.row 64 (vU v0 v1 x11 v11)),(9,.row 25 [(UO v0),(Z5 v0.Ret),(vo l15 5902)]),(29,.obj (.map true .i64 (Bu Zh x9))),(57,.tok 6 70 x11.length),(Ll 5902 64 l15.length),(Z8 v1 v11 29)],[]⟩:St)) (λy h=>tV q [0,4,5,9,10,11,68,69,70] kF h λh=>tW q [0,4,5,9,11,68,69,70,75] kF [0,4,5,9,11,68,69,70,75,84] kF (gC h (λh=>tB h λx17 y17 h=>tC h λc18_ h=>gR q MO TX (Z60 95 (ry x17) 96 l13 5902) [⟨iA,[],(.agg (Cg x17)),[(Z8 v1 v11 9100002),(9100002,.obj (.map true .i64 (Bu Zh x9)))],[],[30000,29]⟩] (ci (T5 y17) (tw [(.row 137 (b8 v1 v11 29)),(.obj (.map true .i64 (Bu Zh x9)))] (c5 (Bp 5 Cg (default:Ae) (ry x17)) (Eq.refl l13.length) c18_ (Iz 5 5902 Cg (default:Ae) l13 (ry x17)) (E3 l13 (ry x17))))) (tS h (gK (Bd Iq)))) λh=>Af q [0,4,5,9,11,68,69,70,98] kF (gC h (λh=>tS h (gK (Bd (Bi MO TX q)))) λh=>tB h λx19 y19 h=>tC h λc20_ h=>gR q MO TX (Z60 81 (rz x19) 82 l13 5902) [⟨iA,[],(.agg (Cg x19)),[(Z8 v1 v11 9100002),(9100002,.obj (.map true .i64 (Bu Zh x9)))],[],[30000,29]⟩] (ci (T5 y19) (tw [(.row 137 (b8 v1 v11 29)),(.obj (.map true .i64 (Bu Zh x9)))] (c5 (Bp 5 Cg (default:Ae) (rz x19)) (Eq.refl l13.length) c20_ (Iz 5 5902 Cg (default:Ae) l13 (rz x19)) (E3 l13 (rz x19))))) (tS h (gK (Bd Iq)))))) (gA (Af q MO TX (tN h)))) λh=>tS h (gO (Bd (Bi [4,9] qt q))))) λx23 h=>gA (Af q [4] [4,29,5902,30000] (Qc (⟨[ZB],[(4,.row 25 [(UO v0),(Z5 v0.Ret),(vo x23 5902)]),(29,.obj (.map true .i64 (Bu Zh x9))),(Ll 5902 64 x23.length),(Z8 v1 v11 29)],[]⟩:St) (tS h (gK (e:=.ret) (H6 [(30000,30000),(29,9200002)] (Le.trans (fw (nm:=29) (.map false .i64 (Bu Zh x9)) rfl (λ_ _ _ _ h_=>QS h_)) (Bi (st':=⟨[ZB],[(4,.row 25 [(UO v0),(Z5 v0.Ret),(vo x23 5902)]),(29,.obj (.map false .i64 (Bu Zh x9))),(Ll 5902 64 x23.length),(Z8 v1 v11 29)],[]⟩) [4] [4,29,5902,30000] q)))))))))))))))))
def I6(a2:TFunc):Option TFunc:=
 none
variable{v44:TFunc}
theorem P0(h:I6 v0=some v44):sP 47 [.nilp,(W9 v0)] [] (W9 v44) []:=
 sG Tryz.func47 λΓ q=>Af q S9 Yp (nomatch h)
abbrev VT:=(Ar×Int×List Ae)
abbrev zX:=(LR (Ar×Int×List Ae) TFunc)
def O5 :VT->Option zX:=
 λ(s_:VT)=>match s_ with|(l1,i2,l3)=>((Ku (⟨l1,i2,l3⟩:TFunc)).bind λx9=>(bif x9.1.1 then(bif x9.2 then((Fb (⟨l1,i2,l3⟩:TFunc) x9.1.2.x x9.1.2.y).bind λx11=>(some (.next (x11.1.Params,x11.1.Ret,x11.1.Blocks)))) else(some (.done (⟨l1,i2,l3⟩:TFunc)))) else(bif x9.2 then((I6 (⟨l1,i2,l3⟩:TFunc)).bind λx12=>(some (.next (x12.Params,x12.Ret,x12.Blocks)))) else(some (.done (⟨l1,i2,l3⟩:TFunc))))))
def ep(Γ:H5)(a0:TFunc)(r:TFunc):Exit->St->Prop:=fK Tryz.prog Γ Tryz.f17.results.toList [] (W9 r) []
def MZ:=((.ptr 20000 0):AV)
def kh(x5:qe):List OJ:=(yU 20000 x5.1.2.x x5.1.2.y)
def kj(x9:qe):List OJ:=(yU 20000 x9.1.2.x x9.1.2.y)
def nE(l1:Ar)(i2:Int)(l3:List Ae):List AV:=[(Z6 l1),(Z5 i2),(UF l3)]
def Ty(a0:TFunc):Option TFunc:=
 ((Rx (S:=VT) (X:=TFunc) ((Lt a0).bind λx4=>(bif (!x4) then(some (.done a0)) else((Ku a0).bind λx5=>(bif x5.1.1 then(bif x5.2 then((Fb a0 x5.1.2.x x5.1.2.y).bind λx7=>(some (.next (x7.1.Params,x7.1.Ret,x7.1.Blocks)))) else(some (.done a0))) else(bif x5.2 then((I6 a0).bind λx8=>(some (.next (x8.Params,x8.Ret,x8.Blocks)))) else(some (.done a0))))))) O5).bind (λx13=>(some x13)))
theorem LV(h:Ty v0=some v44):sP 17 [(W9 v0)] [] (W9 v44) []:=
 sG Tryz.func17 λΓ q=>Af q Ee Ee (tB h λx13 y13 h=>gS y13 (λ(s_:VT)=>match s_ with|(l1,i2,l3)=>0) (λ(s_:VT)=>match s_ with|(l1,i2,l3)=>(⟨[CT,Uk],[(1,.row 25 (nE l1 i2 l3)),(2,.row 25 [Z0,L9,Z0])],[]⟩:St)) (λr_=>aR (ep Γ v0 r_)) (λy h=>tB h λx4 y4 h=>tT q [1,2,7] Ee [(Z2 x4)] (c1 (Su y4)) (gC h (λh=>Af q [2] [2] (tS h (ee (Lm (H6 [] (Le.refl _ _)))))) λh=>tB h λx5 y5 h=>gB h (λhs6 h=>tT q bh TT [⟨[],[(20000,11)],(.tuple [(bif true then MZ else .nilp),(.bool x5.2)]),(bif true then(kh x5) else[]),[],[]⟩] (c1 (show(sP 46 [(W9 v0)] [] (.tuple [(bif true then MZ else .nilp),(.bool x5.2)]) (bif true then(kh x5) else[])) from(eqB (λb_:Bool=>sP 46 [(W9 v0)] [] (.tuple [(bif b_ then MZ else .nilp),(.bool x5.2)]) (bif b_ then(kh x5) else[])) hs6 (R5 y5)))) (Af q bc TT (gC h (λh=>tB h λx7 y7 h=>tT q Ee Ee [⟨[(11,30000)],qu,(W9 x7.1),[(Z8 x7.2.1 x7.2.2.1 9200002),(9200002,.obj (.map false .i64 (Bu (λ(v_:Int)=>((Z5 v_):AV)) x7.2.2.2)))],[],[]⟩] (c1 (Sf y7)) (tS h (fg Iq))) λh=>Af q [2] [2] (tS h (ee (Lm (H6 [] (Le.refl _ _)))))))) (λhs6 h=>tT q bh Ee [⟨[],[],(.tuple [(bif false then MZ else .nilp),(.bool x5.2)]),(bif false then(kh x5) else[]),[],[]⟩] (c1 (show(sP 46 [(W9 v0)] [] (.tuple [(bif false then MZ else .nilp),(.bool x5.2)]) (bif false then(kh x5) else[])) from(eqB (λb_:Bool=>sP 46 [(W9 v0)] [] (.tuple [(bif b_ then MZ else .nilp),(.bool x5.2)]) (bif b_ then(kh x5) else[])) hs6 (R5 y5)))) (Af q bc Ee (gC h (λh=>tB h λx8 y8 h=>tT q Ee Ee [(rE x8)] (c1 (P0 y8)) (tS h (fg Iq))) λh=>Af q [2] [2] (tS h (ee (Lm (H6 [] (Le.refl _ _)))))))))) (λ⟨l1,i2,l3⟩ y h=>tB h λx9 y9 h=>gB h (λhs10 h=>tT q bh TT [⟨[],[(20000,11)],(.tuple [(bif true then MZ else .nilp),(.bool x9.2)]),(bif true then(kj x9) else[]),[],[]⟩] (c1 (show(sP 46 [(.agg (nE l1 i2 l3))] [] (.tuple [(bif true then MZ else .nilp),(.bool x9.2)]) (bif true then(kj x9) else[])) from(eqB (λb_:Bool=>sP 46 [(.agg (nE l1 i2 l3))] [] (.tuple [(bif b_ then MZ else .nilp),(.bool x9.2)]) (bif b_ then(kj x9) else[])) hs10 (R5 y9)))) (Af q bc TT (gC h (λh=>tB h λx11 y11 h=>tT q Ee Ee [⟨[(11,30000)],qu,(W9 x11.1),[(Z8 x11.2.1 x11.2.2.1 9200002),(9200002,.obj (.map false .i64 (Bu (λ(v_:Int)=>((Z5 v_):AV)) x11.2.2.2)))],[],[]⟩] (c1 (Sf y11)) (tS h (fg Iq))) λh=>Af q [2] [2] (tS h (ee (Lm (H6 [] (Le.refl _ _)))))))) (λhs10 h=>tT q bh Ee [⟨[],[],(.tuple [(bif false then MZ else .nilp),(.bool x9.2)]),(bif false then(kj x9) else[]),[],[]⟩] (c1 (show(sP 46 [(.agg (nE l1 i2 l3))] [] (.tuple [(bif false then MZ else .nilp),(.bool x9.2)]) (bif false then(kj x9) else[])) from(eqB (λb_:Bool=>sP 46 [(.agg (nE l1 i2 l3))] [] (.tuple [(bif b_ then MZ else .nilp),(.bool x9.2)]) (bif b_ then(kj x9) else[])) hs10 (R5 y9)))) (Af q bc Ee (gC h (λh=>tB h λx12 y12 h=>tT q Ee Ee [(rE x12)] (c1 (P0 y12)) (tS h (fg Iq))) λh=>Af q [2] [2] (tS h (ee (Lm (H6 [] (Le.refl _ _))))))))) (O3 (λst' hk=>tS h (gK hk))))
def Kw(a9:Ar):Zz->Option bN:=
 λ((i1,l2):Zz)=>(bif (decide (i1<(a9.length:Int))) then(A0 (A1 i1 a9.length) (A0 (A1 (a9.getD i1.toNat 0) l2.length) (some (.next ((w64 (i1+1)),(l2.set (a9.getD i1.toNat 0).toNat true)))))) else(some (.done l2)))
def Jj(a9:Ar)(a3:List Bool):Option (List Bool):=
 ((Ac (Kw a9) ((0:Int),a3)).bind (λx6=>(some x6)))
variable{v45:List Bool}
theorem Sv(h:Jj v2 v33=some v45):sP 81 [(Z6 v2),(.ptr 30000 0)] (yO v33.length v33) (.tuple []) (yO v45.length v45):=
 sG Tryz.func81 λΓ q=>Af q bi IK (tL q h bi IK (λu (i1,l2)=>(Cl u [(7,(Z5 i1))] (yO l2.length l2))) (λu l3=>aG Γ (.exit 0) (⟨[],(yO l3.length l3),[]⟩:St)) (λ⟨i1,l2⟩ y h=>Af q [1,5,6,7,8] IK (gC h (λh=>tV q [1,4,5,6,7] IK h λh=>tC h λc5_ h=>tU q bi IK (c2 c5_ (Eq.refl l2.length)) (gLe (Le.trans (Sr 35000 (show ∀ k_,k_<l2.length->AVleL ((λi_=>AV.eraseAll (λn_=>Bw n_ IK) ((Fc (λi=>eB (l2.getD i false)) (v2.getD i1.toNat 0).toNat 0 [(.bool true)]) i_)) k_) ((λi=>eB ((l2.set (v2.getD i1.toNat 0).toNat true).getD i false)) k_) from(Bh (C8 ..).symm (λk_ hk_=>(Bg (AV.eraseAll (λn_=>Bw n_ IK)) ((Fu (λ_ _=>rfl) (Hv c5_) rfl) k_ hk_)).trans rfl)))) (Sa (λ(k_:Nat) u=>(Cl u [] [(30000,.row 81 [(.vsl 35000 k_)]),(35000,.arr 1 4 k_ (λi=>eB ((l2.set (v2.getD i1.toNat 0).toNat true).getD i false)))])) (show l2.length=(l2.set (v2.getD i1.toNat 0).toNat true).length from(C8 ..).symm))) (Af q bi IK (tN h)))) λh=>tS h (gO (Bd (Bi [] IK q))))) λx6 h=>um (λst' hl7=>tS h (gK (e:=.normal) (H6 [(30000,30000),(35000,35000)] hl7))))
def Mn(a0:TFunc)(i2:Int):Zz->Option bN:=
 λ((i7,l8):Zz)=>(bif (decide (i7<(((a0.Blocks.getD i2.toNat default).Phis).length:Int))) then(A0 (A1 i7 ((a0.Blocks.getD i2.toNat default).Phis).length) ((Jj ((((a0.Blocks.getD i2.toNat default).Phis).getD i7.toNat default).Args) l8).bind λx11=>(A0 (l8.length=x11.length) (some (.next ((w64 (i7+1)),x11)))))) else(some (.done l8)))
def Mo(a0:TFunc)(i2:Int):Zz->Option bN:=
 λ((i15,l16):Zz)=>(bif (decide (i15<(((a0.Blocks.getD i2.toNat default).Ops).length:Int))) then(A0 (A1 i15 ((a0.Blocks.getD i2.toNat default).Ops).length) ((Jj ((((a0.Blocks.getD i2.toNat default).Ops).getD i15.toNat default).Args) l16).bind λx19=>(A0 (l16.length=x19.length) (some (.next ((w64 (i15+1)),x19)))))) else(some (.done l16)))
def Mp(a0:TFunc):Zz->Option bN:=
 λ((i2,l3):Zz)=>(bif (decide (i2<(a0.Blocks.length:Int))) then(Option.bind (α:=List Bool) (A0 (A1 i2 a0.Blocks.length) ((Ac (Mn a0 i2) ((0:Int),l3)).bind (λx13=>((Ac (Mo a0 i2) ((0:Int),x13)).bind (λx21=>(bif (bif (((a0.Blocks.getD i2.toNat default).End.Kind:Int)==0) then true else(((a0.Blocks.getD i2.toNat default).End.Kind:Int)==2)) then((Jj ([(a0.Blocks.getD i2.toNat default).End.Arg]:Ar) x21).bind λx23=>(A0 (x21.length=x23.length) (some x23))) else(some x21))))))) (λx25=>(some (.next ((w64 (i2+1)),x25))))) else(some (.done l3)))
def r9(a0:TFunc)(i2:Int):=(a0.Blocks.getD i2.toNat default)
def Kv(a0:TFunc):Option (List Bool):=
 (A0 (0<=(1024:Int)/\(1024:Int)<=1024/\(1024:Int)<=(room:Int)) ((Ac (Mp a0) ((0:Int),(List.replicate (1024:Int).toNat false))).bind (λx27=>(some x27))))
theorem Vy(h:Kv v0=some v33):sP 43 [(W9 v0)] [] (NL v33 20000) [(Q9 20000 v33.length)]:=
 sG Tryz.func43 λΓ q=>have hΓ:=q.own;gR q [1] [1] [(2,(AV.list 1 eB false ([]:List Bool) .exact))] [] (c1 (B0 1 eB false)) (tV q L7 [1,3,11] h λh=>by exact gLe (Le.trans (Sr 11 (show ∀ k_,k_<((1024:Int).toNat)->AVleL ((λi_=>AV.eraseAll (λn_=>Bw n_ [1,3,11]) ((λ_=>[(.bool false)]) i_)) k_) ((λi=>eB ((List.replicate (1024:Int).toNat false).getD i false)) k_) from(λk hk=>M7 (e:=eB) (d:=false) (.cons (AVle.refl _) .nil) _ k (M8 hk)))) (Sa (λ(k_:Nat) u=>(Cl u [] [(3,.row 81 [(.vsl 11 k_)]),(11,.arr 1 4 k_ (λi=>eB ((List.replicate (1024:Int).toNat false).getD i false)))])) (show(1024:Int).toNat=(List.replicate (1024:Int).toNat false).length from(N9 ..).symm))) (tW q J8 [1,3,11] SW CP (tL q h SW CP (λu (i2,l3)=>(Cl u [(16,(Z5 i2))] (vn l3.length l3))) (λu l4=>aG Γ (.exit 0) (Ni [3] CP u [] (vn l4.length l4))) (λ⟨i2,l3⟩ y h=>Af q [3,4,14,15,16,17] CP (gC h (λh=>tB h λx25 y25 h=>gJ y25 (λl5=>aG Γ .normal (⟨[(3,(.ptr 3 0)),(4,(.clo 81 [] [(.ptr 3 0)])),(14,(UF v0.Blocks)),(bm 15 v0.Blocks.length),(16,(Z5 i2))],(vn l5.length l5),[]⟩:St)) (λy h=>tV q eV S8 h λh=>Af q kG S8 (tL q h kG S8 (λu (i7,l8)=>(Cl u [(23,(Z5 i7))] (vn l8.length l8))) (λu l9=>aG Γ (.exit 2) (Ni eV S8 u [] (vn l9.length l9))) (λ⟨i7,l8⟩ y h=>Af q [3,4,6,14,15,16,21,22,23,24] S8 (gC h (λh=>tV q [3,4,6,8,14,15,16,21,22,23] [3,6,8,11] h λh=>tB h λx11 y11 h=>tC h λc12_ h=>tT q kG S8 [(Z94 x11.length x11)] (c1 (Sv y11)) (Af q kG S8 (tN h))) λh=>tS h (gO (Bd (Bi eV S8 q))))) λx13 h=>gA (Af q kH S8 (tL q h kH S8 (λu (i15,l16)=>(Cl u [(35,(Z5 i15))] (vn l16.length l16))) (λu l17=>aG Γ (.exit 4) (Ni eV S8 u [] (vn l17.length l17))) (λ⟨i15,l16⟩ y h=>Af q [3,4,6,14,15,16,33,34,35,36] S8 (gC h (λh=>tV q [3,4,6,10,14,15,16,33,34,35] [3,6,10,11] h λh=>tB h λx19 y19 h=>tC h λc20_ h=>tT q kH S8 [(Z94 x19.length x19)] (c1 (Sv y19)) (Af q kH S8 (tN h))) λh=>tS h (gO (Bd (Bi eV S8 q))))) λx21 h=>gA (tU q [3,4,6,14,15,16,53] S8 (Vm ((((r9 v0 i2).End.Kind:Int)==0)==false) (c1 (Ng (((r9 v0 i2).End.Kind:Int)==0)))) (gC h (λh=>tB h λx23 y23 h=>tC h λc24_ h=>gR q SW CP [(58,(AV.list 1 Ap 0 ([(r9 v0 i2).End.Arg]:Ar) .exact))] [(Z94 x23.length x23)] (c2 (Bp 1 Ap (0:Int) ([(r9 v0 i2).End.Arg]:Ar)) (Sv y23)) (tS h (gK (Bd Iq)))) λh=>tS h (gK (Bd (Bi SW CP q))))))))) (gA (Af q SW CP (tN h)))) λh=>tS h (gO (Bd (Bi [3] CP q))))) λx27 h=>gA (Af q [2] [11] (Qc (⟨[(2,(.vsl 11 x27.length))],[(Z9 11 x27)],[]⟩:St) (tS h (gK (e:=.ret) (H6 [(11,20000)] (Le.trans (le_freeze (nm:=11) (sz:=1) (n:=x27.length) (e:=4) (f:=(λi=>eB (x27.getD i false))) (g:=(λi=>eB (x27.getD i false))) rfl ⟨rfl,trivial⟩ (λ_ _=>rfl) (by rw[hΓ];rfl)) (Gt (st':=⟨[(2,(NL x27 11))],[(Q9 11 x27.length)],[]⟩) (by kernel_rfl)))))))))))
def kl:AV:=(AV.list 4 Eo default ([]:List Ba) .exact)
def xr:=(⟨[(2,(.vsl 36002 ([]:List Ba).length))],[(36002,.arr 4 67 (([]:List Ba).length) (λi=>Eo (([]:List Ba).getD i default)))],[]⟩:St)
def Ck(aH:List Ba):Option (List Ba):=
 (A0 (aH.length<=room) (some aH))
variable{v46:List Ba}{v5:List Ba}
theorem Pr(h:Ck v5=some v46):sP 87 [(xF v5)] [] (.vsl 20000 v46.length) (nP 20000 v46):=by
 refine JY mix Tryz.func87 (λΓ hq=>?_);unfold Ck at h;refine gR hq [0] [] [(2,kl)] [] (c1 (B0 4 Eo (default:Ba))) ?_;refine Af hq [0,4] [] ?_;refine yf true v5.length (λhb=>?_) (λhb=>?_)
 ·replace h:=pK (some ([]:List Ba)) (λ(l2:List Ba)=>(A0 (l2.length<=room) (some l2))) h (hb rfl) rfl (λh0=>by first|exact h0|simpa [A0,room] using h0);clear hb;refine gR hq [2] [] [(2,kl)] [] (c1 (B0 4 Eo (default:Ba))) ?_;refine Qc (⟨[(2,kl)],[],[]⟩:St) ?_;cases h;exact gK (e:=.ret) (H6 [(36002,20000)] (show Le Γ _ xr from Le.trans (Bi (st':=⟨[(2,kl)],[],[]⟩) [2] [] hq) (Le.trans (PZ (t:=2) (nm:=36002) (sz':=4) (λi=>Eo (([]:List Ba).getD i default)) 67 rfl rfl) (Bi (st':=xr) [2] [36002] hq))))
 ·clear hb;obtain⟨hc1,h⟩:=Qi h;refine gR hq [2] [7] [(5,kl),(7,.vsl 7 0)] [] (ci (show(AVle (.slice 4 0 (λi=>([]:List (List AV)).getD i []) .exact) kl) from ZF rfl (λi hi=>absurd hi (W4 i))) (c1 hc1)) ?_;obtain rfl:=OI h;exact Cc [(7,20000)]
def Jf(aV:Ba)(a2:List Bool):Option Bool:=
 (A0 (A1 aV.Dst a2.length) (some (!(a2.getD (aV.Dst).toNat false))))
theorem U4(h:Jf v4 v33=some v3):sP 88 [(.agg (Eo v4)),(.rptr (ZO v33))] [] (.bool v3) []:=
 sG Tryz.func88 λΓ q=>Af q Ee [2] (tV q [3] [] h λh=>tS h (Cc []))
def C4(aH:List Ba)(aa7:List Bool):Int->Option (LR Int (Unit ⊕ Int)):=
 λ(i1:Int)=>(bif (decide (i1<(aH.length:Int))) then(A0 (A1 i1 aH.length) ((Jf (aH.getD i1.toNat default) aa7).bind λx3=>(bif x3 then(some (.done (.inr i1))) else(some (.next (w64 (i1+1))))))) else(some (.done (.inl ()))))
def Pl(Γ:H5)(aH:List Ba)(aa7:List Bool)(r:Int):Exit->St->Prop:=fK Tryz.prog Γ Tryz.f143.results.toList [] (.int .i64 r) []
def F4(aH:List Ba)(aa7:List Bool):Option Int:=
 ((Ac (C4 aH aa7) (0:Int)).bind (λx4=>(match x4 with|(.inl _)=>(some (-1:Int))|(.inr r6)=>(some r6))))
theorem O7(h:F4 v5 v33=some v1):sP 143 [(xF v5),(.clo 88 [] [(.rptr (ZO v33))])] [] (.int .i64 v1) []:=
 sG Tryz.func143 λΓ q=>tW q Gn [] IM [] (tL q h IM [] (λu i1=>(Cl u [(8,(Z5 i1))] [])) (λu x_=>match x_ with|(.inl _)=>aG Γ (.exit 0) (⟨[],[],[]⟩:St)|(.inr r_)=>aR (Pl Γ v5 v33 r_)) (λi1 y h=>Af q iV [] (gC h (λh=>Af q iW [] (tC h λc2_ h=>tB h λx3 y3 h=>tT q iI [] [(Z2 x3)] (c2 c2_ (U4 y3)) (gC h (λh=>Af q [4] [] (tS h (gO (Lm (H6 [] (Le.refl _ _)))))) λh=>Af q IM [] (tN h)))) λh=>tS h (gO (Bd (Bi [] [] q))))) λx4 h=>(match x4,h with | .inl _,h=>gA (Af q [4] [] (tS h (Cc []))) | .inr r6,h=>O3 (λst' hk=>tS h (gK hk))))
def Cu(aa4:List Bool):(Int×Int×List Ba)->Option (LR (Int×Int×List Ba) (Int×List Ba)):=
 λ((i2,i3,l4):(Int×Int×List Ba))=>(bif (decide (i3<(l4.length:Int))) then(Option.bind (α:=wz) (A0 (A1 i3 l4.length) ((Jf (l4.getD i3.toNat default) aa4).bind λx10=>(bif (!x10) then(A0 (A1 i2 l4.length) (some ((w64 (i2+1)),(l4.set i2.toNat (⟨(l4.getD i3.toNat default).Bits,(l4.getD i3.toNat default).Dst,(l4.getD i3.toNat default).From,(l4.getD i3.toNat default).Args⟩:Ba))))) else(some (i2,l4))))) (λ(i7,l8)=>(some (.next (i7,(w64 (i3+1)),l8))))) else(some (.done (i2,l4))))
def vY(l6:List Ba)(i5:Int):=(NT l6 (0+i5.toNat) (l6.length-(0+i5.toNat)) (λ_=>(default:Ba)))
def vX(l4:List Ba)(i2:Int)(i3:Int):=(l4.set i2.toNat (⟨(l4.getD i3.toNat default).Bits,(l4.getD i3.toNat default).Dst,(l4.getD i3.toNat default).From,(l4.getD i3.toNat default).Args⟩:Ba))
abbrev uS:=(Nat×List Ba)
def Dk(aH:List Ba)(aa4:List Bool):Option uS:=
 ((F4 aH aa4).bind λx1=>(bif (x1==-1) then(some ((aH.length:Nat),aH)) else((Ac (Cu aa4) (x1,(w64 (x1+1)),aH)).bind (λ(i5,l6)=>(A0 (0<=i5/\0+i5.toNat<=l6.length) (A0 (0<=i5/\0+i5.toNat<=(NT l6 (0+i5.toNat) (l6.length-(0+i5.toNat)) (λ_=>(default:Ba))).length) (some (((0+i5.toNat):Nat),(NT l6 (0+i5.toNat) (l6.length-(0+i5.toNat)) (λ_=>(default:Ba)))))))))))
variable{v47:uS}
theorem Ou(h:Dk v5 v33=some v47):sP 86 [(.vsl 34000 v5.length),(.clo 88 [] [(.rptr (ZO v33))])] (nP 34000 v5) (.vsub 34000 v47.2.length 0 v47.1) (nP 34000 v47.2):=
 sG Tryz.func86 λΓ q=>gR q Gn [34000] [(4,(AV.list 4 Eo default ([]:List Ba) .exact))] [] (c1 (B0 4 Eo (default:Ba))) (tB h λx1 y1 h=>tT q Nd [34000] [⟨[],[],(Z5 x1),[],[34000],[]⟩] (c3 (O7 y1) (show(EG []) from trivial) (Eq.refl v5.length)) (Af q [0,1,5,12] [34000] (gC h (λh=>Af q [4] [34000] (Qc (⟨[(4,(.vsl 34000 v5.length))],(nP 34000 v5),[]⟩:St) (tS h (gK (e:=.ret) (H6 SZ (Le.trans (jX (t:=4) (r:=34000) rfl rfl) (Bi (st':=⟨[(4,(.vsub 34000 v5.length 0 v5.length))],(nP 34000 v5),[]⟩) [4] [34000] q))))))) λh=>Af q W6 [34000] (tL q h W6 [34000] (λu (i2,i3,l4)=>(Cl u [(mY l4.length),(5,(Z5 i2)),(6,(Z5 i3))] (nP 34000 l4))) (λu (i5,l6)=>aG Γ (.exit 0) (⟨[(mY l6.length),(5,(Z5 i5))],(nP 34000 l6),[]⟩:St)) (λ⟨i2,i3,l4⟩ y h=>Af q [0,1,5,6,19] [34000] (gC h (λh=>tB h λx12 y12 h=>gJ y12 (λ(i7,l8)=>aG Γ .normal (⟨[(mY l8.length),(1,(.clo 88 [] [(.rptr (ZO v33))])),(5,(Z5 i7)),(6,(Z5 i3))],(nP 34000 l8),[]⟩:St)) (λy h=>tC h λc9_ h=>tU q [0,1,5,6,7] bj (c2 c9_ (Eq.refl l4.length)) (tB h λx10 y10 h=>tT q [0,1,5,6,7,29] bj [(Z2 x10)] (c1 (U4 y10)) (gC h (λh=>tC h λc11_ h=>tU q W6 [34000] (c2 c11_ (Eq.refl l4.length)) (gLe (Le.trans (Sr 34000 (show ∀ k_,k_<l4.length->AVleL ((λi_=>AV.eraseAll (λn_=>Bw n_ [34000]) ((Fc (λi=>Eo (l4.getD i default)) i2.toNat 0 (Eo (l4.getD i3.toNat default))) i_)) k_) ((λi=>Eo ((vX l4 i2 i3).getD i default)) k_) from(Bh (C8 ..).symm (λk_ hk_=>(Bg (AV.eraseAll (λn_=>Bw n_ [34000])) ((Fu (λ_ _=>rfl) (Hv c11_) rfl) k_ hk_)).trans rfl)))) (Sa (λ(k_:Nat) u=>(Cl u [(mY k_)] [(34000,.arr 4 67 k_ (λi=>Eo ((vX l4 i2 i3).getD i default)))])) (show l4.length=(vX l4 i2 i3).length from(C8 ..).symm))) (Af q W6 [34000] (tS h (gK (Bd Iq)))))) λh=>tS h (gK (Bd (Bi W6 [34000] q)))))) (match x12,h with|⟨i7,l8⟩,h=>gA (Af q W6 [34000] (tN h)))) λh=>tS h (gO (Bd (Bi [0,5] [34000] q))))) λx14 h=>(match x14,h with|⟨i5,l6⟩,h=>gA (tC h λc16_ h=>tU q [0,5] [34000] (c2 c16_ (Eq.refl l6.length)) (gLe (Le.trans (Sr 34000 (show ∀ k_,k_<l6.length->AVleL ((λi_=>AV.eraseAll (λn_=>Bw n_ [34000]) ((WC (λi=>Eo (l6.getD i default)) (0+i5.toNat) (l6.length-(0+i5.toNat)) (λ_=>[L9,L9,Z0,Z0])) i_)) k_) ((λi=>Eo ((vY l6 i5).getD i default)) k_) from(oQ (e:=Eo) (d:=(default:Ba)) (l:=l6) (.cons (AVle.refl _) (.cons (AVle.refl _) (.cons (λ_ _ _ _ _ hh=>AVle.untag _ _ _ _ _ (El _ _ _ _ _ hh)) (.cons (λ_ _ _ _ _ hh=>AVle.untag _ _ _ _ _ (El _ _ _ _ _ hh)) .nil)))) (λ_ _=>rfl)))) (Sa (λ(k_:Nat) u=>(Cl u [(mY k_)] [(34000,.arr 4 67 k_ (λi=>Eo ((vY l6 i5).getD i default)))])) (show l6.length=(vY l6 i5).length from(En ..)))) (tV q [4] [34000] h λh=>tS h (Cc SZ)))))))))
def kn:AV:=yQ
def xu:=(⟨[(2,(.vsl 36002 ([]:List B2).length))],[(36002,.arr 6 70 (([]:List B2).length) (λi=>J6 (([]:List B2).getD i default)))],[]⟩:St)
def C5(aH:List B2):Option (List B2):=
 (A0 (aH.length<=room) (some aH))
variable{v48:List B2}
theorem Q1(h:C5 v7=some v48):sP 90 [(xG v7)] [] (.vsl 20000 v48.length) [(fH 20000 v48)]:=by
 refine JY mix Tryz.func90 (λΓ hq=>?_);unfold C5 at h;refine gR hq [0] [] [(2,kn)] [] (c1 (B0 6 J6 (default:B2))) ?_;refine Af hq [0,4] [] ?_;refine yf true v7.length (λhb=>?_) (λhb=>?_)
 ·replace h:=pK (some ([]:List B2)) (λ(l2:List B2)=>(A0 (l2.length<=room) (some l2))) h (hb rfl) rfl (λh0=>by first|exact h0|simpa [A0,room] using h0);clear hb;refine gR hq [2] [] [(2,kn)] [] (c1 (B0 6 J6 (default:B2))) ?_;refine Qc (⟨[(2,kn)],[],[]⟩:St) ?_;cases h;exact gK (e:=.ret) (H6 [(36002,20000)] (show Le Γ _ xu from Le.trans (Bi (st':=⟨[(2,kn)],[],[]⟩) [2] [] hq) (Le.trans (PZ (t:=2) (nm:=36002) (sz':=6) (λi=>J6 (([]:List B2).getD i default)) 70 rfl rfl) (Bi (st':=xu) [2] [36002] hq))))
 ·clear hb;obtain⟨hc1,h⟩:=Qi h;refine gR hq [2] [7] [(5,kn),(7,.vsl 7 0)] [] (ci (show(AVle (.slice 6 0 (λi=>([]:List (List AV)).getD i []) .exact) kn) from ZF rfl (λi hi=>absurd hi (W4 i))) (c1 hc1)) ?_;obtain rfl:=OI h;exact Cc [(7,20000)]
def Jg(a1:B2)(a2:List Bool):Option Bool:=
 ((Uy a1.Kind).bind λx1=>(A0 ((x1==true)=true->(A1 a1.Dst a2.length)) (some (bif x1 then(!(a2.getD (a1.Dst).toNat false)) else false))))
theorem U5(h:Jg v6 v33=some v3):sP 91 [(.agg (J6 v6)),(.rptr (ZO v33))] [] (.bool v3) []:=
 sG Tryz.func91 λΓ q=>Af q Ee [2] (tB h λx1 y1 h=>tC h λc2_ h=>tT q [3] [] [(Z2 x1)] (ci (ax y1) (Vm (x1==true) (ci c2_ (M4 (x1==true) (c1 (Nh x1)))))) (tS h (Cc [])))
def Cv(aH:List B2)(aa7:List Bool):Int->Option (LR Int (Unit ⊕ Int)):=
 λ(i1:Int)=>(bif (decide (i1<(aH.length:Int))) then(A0 (A1 i1 aH.length) ((Jg (aH.getD i1.toNat default) aa7).bind λx3=>(bif x3 then(some (.done (.inr i1))) else(some (.next (w64 (i1+1))))))) else(some (.done (.inl ()))))
def Oz(Γ:H5)(aH:List B2)(aa7:List Bool)(r:Int):Exit->St->Prop:=fK Tryz.prog Γ Tryz.f144.results.toList [] (.int .i64 r) []
def Fs(aH:List B2)(aa7:List Bool):Option Int:=
 ((Ac (Cv aH aa7) (0:Int)).bind (λx4=>(match x4 with|(.inl _)=>(some (-1:Int))|(.inr r6)=>(some r6))))
theorem Ov(h:Fs v7 v33=some v1):sP 144 [(xG v7),(.clo 91 [] [(.rptr (ZO v33))])] [] (.int .i64 v1) []:=
 sG Tryz.func144 λΓ q=>tW q Gn [] IM [] (tL q h IM [] (λu i1=>(Cl u [(8,(Z5 i1))] [])) (λu x_=>match x_ with|(.inl _)=>aG Γ (.exit 0) (⟨[],[],[]⟩:St)|(.inr r_)=>aR (Oz Γ v7 v33 r_)) (λi1 y h=>Af q iV [] (gC h (λh=>Af q iW [] (tC h λc2_ h=>tB h λx3 y3 h=>tT q iI [] [(Z2 x3)] (c2 c2_ (U5 y3)) (gC h (λh=>Af q [4] [] (tS h (gO (Lm (H6 [] (Le.refl _ _)))))) λh=>Af q IM [] (tN h)))) λh=>tS h (gO (Bd (Bi [] [] q))))) λx4 h=>(match x4,h with | .inl _,h=>gA (Af q [4] [] (tS h (Cc []))) | .inr r6,h=>O3 (λst' hk=>tS h (gK hk))))
def Db(aa4:List Bool):(Int×Int×List B2)->Option (LR (Int×Int×List B2) (Int×List B2)):=
 λ((i2,i3,l4):(Int×Int×List B2))=>(bif (decide (i3<(l4.length:Int))) then(Option.bind (α:=w4) (A0 (A1 i3 l4.length) ((Jg (l4.getD i3.toNat default) aa4).bind λx10=>(bif (!x10) then(A0 (A1 i2 l4.length) (some ((w64 (i2+1)),(l4.set i2.toNat (⟨(l4.getD i3.toNat default).Kind,(l4.getD i3.toNat default).Bits,(l4.getD i3.toNat default).Lanes,(l4.getD i3.toNat default).Dst,(l4.getD i3.toNat default).Args,(l4.getD i3.toNat default).Imm⟩:B2))))) else(some (i2,l4))))) (λ(i7,l8)=>(some (.next (i7,(w64 (i3+1)),l8))))) else(some (.done (i2,l4))))
def va(l6:List B2)(i5:Int):=(NT l6 (0+i5.toNat) (l6.length-(0+i5.toNat)) (λ_=>(default:B2)))
def vZ(l4:List B2)(i2:Int)(i3:Int):=(l4.set i2.toNat (⟨(l4.getD i3.toNat default).Kind,(l4.getD i3.toNat default).Bits,(l4.getD i3.toNat default).Lanes,(l4.getD i3.toNat default).Dst,(l4.getD i3.toNat default).Args,(l4.getD i3.toNat default).Imm⟩:B2))
abbrev uT:=(Nat×List B2)
def D1(aH:List B2)(aa4:List Bool):Option uT:=
 ((Fs aH aa4).bind λx1=>(bif (x1==-1) then(some ((aH.length:Nat),aH)) else((Ac (Db aa4) (x1,(w64 (x1+1)),aH)).bind (λ(i5,l6)=>(A0 (0<=i5/\0+i5.toNat<=l6.length) (A0 (0<=i5/\0+i5.toNat<=(NT l6 (0+i5.toNat) (l6.length-(0+i5.toNat)) (λ_=>(default:B2))).length) (some (((0+i5.toNat):Nat),(NT l6 (0+i5.toNat) (l6.length-(0+i5.toNat)) (λ_=>(default:B2)))))))))))
variable{v49:uT}
theorem Ps(h:D1 v7 v33=some v49):sP 89 [(.vsl 34000 v7.length),(.clo 91 [] [(.rptr (ZO v33))])] [(fH 34000 v7)] (.vsub 34000 v49.2.length 0 v49.1) [(fH 34000 v49.2)]:=
 sG Tryz.func89 λΓ q=>gR q Gn [34000] [(4,yQ)] [] (c1 (B0 6 J6 (default:B2))) (tB h λx1 y1 h=>tT q Nd [34000] [⟨[],[],(Z5 x1),[],[34000],[]⟩] (c3 (Ov y1) (show(EG []) from trivial) (Eq.refl v7.length)) (Af q [0,1,5,12] [34000] (gC h (λh=>Af q [4] [34000] (Qc (⟨[(4,(.vsl 34000 v7.length))],[(fH 34000 v7)],[]⟩:St) (tS h (gK (e:=.ret) (H6 SZ (Le.trans (jX (t:=4) (r:=34000) rfl rfl) (Bi (st':=⟨[(4,(.vsub 34000 v7.length 0 v7.length))],[(fH 34000 v7)],[]⟩) [4] [34000] q))))))) λh=>Af q W6 [34000] (tL q h W6 [34000] (λu (i2,i3,l4)=>(Cl u [(mY l4.length),(5,(Z5 i2)),(6,(Z5 i3))] [(fH 34000 l4)])) (λu (i5,l6)=>aG Γ (.exit 0) (⟨[(mY l6.length),(5,(Z5 i5))],[(fH 34000 l6)],[]⟩:St)) (λ⟨i2,i3,l4⟩ y h=>Af q [0,1,5,6,19] [34000] (gC h (λh=>tB h λx12 y12 h=>gJ y12 (λ(i7,l8)=>aG Γ .normal (⟨[(mY l8.length),(1,(.clo 91 [] [(.rptr (ZO v33))])),(5,(Z5 i7)),(6,(Z5 i3))],[(fH 34000 l8)],[]⟩:St)) (λy h=>tC h λc9_ h=>tU q [0,1,5,6,7] bj (c2 c9_ (Eq.refl l4.length)) (tB h λx10 y10 h=>tT q [0,1,5,6,7,29] bj [(Z2 x10)] (c1 (U5 y10)) (gC h (λh=>tC h λc11_ h=>tU q W6 [34000] (c2 c11_ (Eq.refl l4.length)) (gLe (Le.trans (Sr 34000 (show ∀ k_,k_<l4.length->AVleL ((λi_=>AV.eraseAll (λn_=>Bw n_ [34000]) ((Fc (λi=>J6 (l4.getD i default)) i2.toNat 0 (J6 (l4.getD i3.toNat default))) i_)) k_) ((λi=>J6 ((vZ l4 i2 i3).getD i default)) k_) from(Bh (C8 ..).symm (λk_ hk_=>(Bg (AV.eraseAll (λn_=>Bw n_ [34000])) ((Fu (λ_ _=>rfl) (Hv c11_) rfl) k_ hk_)).trans rfl)))) (Sa (λ(k_:Nat) u=>(Cl u [(mY k_)] [(34000,.arr 6 70 k_ (λi=>J6 ((vZ l4 i2 i3).getD i default)))])) (show l4.length=(vZ l4 i2 i3).length from(C8 ..).symm))) (Af q W6 [34000] (tS h (gK (Bd Iq)))))) λh=>tS h (gK (Bd (Bi W6 [34000] q)))))) (match x12,h with|⟨i7,l8⟩,h=>gA (Af q W6 [34000] (tN h)))) λh=>tS h (gO (Bd (Bi [0,5] [34000] q))))) λx14 h=>(match x14,h with|⟨i5,l6⟩,h=>gA (tC h λc16_ h=>tU q [0,5] [34000] (c2 c16_ (Eq.refl l6.length)) (gLe (Le.trans (Sr 34000 (show ∀ k_,k_<l6.length->AVleL ((λi_=>AV.eraseAll (λn_=>Bw n_ [34000]) ((WC (λi=>J6 (l6.getD i default)) (0+i5.toNat) (l6.length-(0+i5.toNat)) (λ_=>[L9,L9,L9,L9,Z0,(.int .u64 (0:Int))])) i_)) k_) ((λi=>J6 ((va l6 i5).getD i default)) k_) from(oQ (e:=J6) (d:=(default:B2)) (l:=l6) (.cons (AVle.refl _) (.cons (AVle.refl _) (.cons (AVle.refl _) (.cons (AVle.refl _) (.cons (λ_ _ _ _ _ hh=>AVle.untag _ _ _ _ _ (El _ _ _ _ _ hh)) (.cons (AVle.refl _) .nil)))))) (λ_ _=>rfl)))) (Sa (λ(k_:Nat) u=>(Cl u [(mY k_)] [(34000,.arr 6 70 k_ (λi=>J6 ((va l6 i5).getD i default)))])) (show l6.length=(va l6 i5).length from(En ..)))) (tV q [4] [34000] h λh=>tS h (Cc SZ)))))))))
def K1(a0:TFunc)(aa5:List Bool):uR->Option zV:=
 λ((i1,l2):uR)=>(bif (decide (i1<(a0.Blocks.length:Int))) then(A0 (A1 i1 a0.Blocks.length) ((Ck ((a0.Blocks.getD i1.toNat default).Phis)).bind λx5=>((Dk x5 aa5).bind λx6=>(A0 (x6.1<=x6.2.length) (A0 (x5.length=x6.2.length) ((C5 ((a0.Blocks.getD i1.toNat default).Ops)).bind λx9=>((D1 x9 aa5).bind λx10=>(A0 (x10.1<=x10.2.length) (A0 (x9.length=x10.2.length) (A0 (l2.length+([(⟨(x6.2.take x6.1),(x10.2.take x10.1),(⟨(a0.Blocks.getD i1.toNat default).End.Kind,(a0.Blocks.getD i1.toNat default).End.Arg,(a0.Blocks.getD i1.toNat default).End.To⟩:Kb)⟩:Ae)]:List Ae).length<=room) (some (.next ((w64 (i1+1)),(l2++([(⟨(x6.2.take x6.1),(x10.2.take x10.1),(⟨(a0.Blocks.getD i1.toNat default).End.Kind,(a0.Blocks.getD i1.toNat default).End.Arg,(a0.Blocks.getD i1.toNat default).End.To⟩:Kb)⟩:Ae)]:List Ae))))))))))))))) else(some (.done l2)))
def fF(x10:uT):=(λi=>J6 (x10.2.getD i default))
def GM(a0:TFunc)(i1:Int):=(a0.Blocks.getD i1.toNat default)
def nG(x6:uS):=(λi=>Eo (x6.2.getD i default))
def nH(a0:TFunc)(i1:Int):AV:=(AV.list 1 Ap 0 (GM a0 i1).End.To .none)
def bw:List AV:=[Z0,L9,Z0]
def kq(a0:TFunc)(l2:List Ae):List AV:=[(Z6 a0.Params),(Z5 a0.Ret),(vo l2 5502)]
def vd(a0:TFunc):List AV:=[(Z6 a0.Params),(Z5 a0.Ret),(AV.list 5 Cg default ([]:List Ae) .exact)]
def xx(a0:TFunc):List AV:=[(Z6 a0.Params),(Z5 a0.Ret),(AV.list 5 Cg default ([]:List Ae) (.own 5502))]
def sA(x6:uS)(x10:uT)(a0:TFunc)(i1:Int):=([(⟨(x6.2.take x6.1),(x10.2.take x10.1),(⟨(GM a0 i1).End.Kind,(GM a0 i1).End.Arg,(GM a0 i1).End.To⟩:Kb)⟩:Ae)]:List Ae)
def vb(aa5:List Bool)(a0:TFunc):List MK:=[(3,(.rptr (ZO aa5))),ZB,eZ,(14,(UF a0.Blocks)),(bm 15 a0.Blocks.length),(16,L9)]
def nF(aa5:List Bool)(a0:TFunc)(i1:Int):List MK:=[(3,(.rptr (ZO aa5))),ZB,eZ,(7,(.ptr 7 0)),(14,(UF a0.Blocks)),(bm 15 a0.Blocks.length),(16,(Z5 i1))]
def Jl(a0:TFunc)(aa5:List Bool):Option TFunc:=
 ((Ac (K1 a0 aa5) ((0:Int),([]:List Ae))).bind (λx14=>(some (⟨a0.Params,a0.Ret,x14⟩:TFunc))))
theorem Y4(h:Jl v0 v33=some v44):sP 48 [(W9 v0),(AV.list 1 eB false v33 .none)] [] (W9 v44) []:=
 sG Tryz.func48 λΓ q=>have hΓ:=q.own;gR q [2,3,4] [2,4] [(3,(.rptr []))] [] trivial (gR q [2,3,4,5] [2,4,5] [(12,(.agg (vd v0)))] [] (c1 (show(AVle (.agg [(Z6 v0.Params),(Z5 v0.Ret),Z0]) (.agg (vd v0))) from(AVle.agg (.cons (AVle.refl _) (.cons (AVle.refl _) (.cons El .nil)))))) (Af q YL [4,5] (gLe (st':=⟨(vb v33 v0),[(4,.row 25 bw),(5,.row 25 (xx v0)),(5502,.tok 5 64 (([]:List Ae).length))],[]⟩) (Le.trans (Bi (st':=⟨(vb v33 v0),[(4,.row 25 bw),(5,.row 25 (vd v0))],[]⟩) YL [4,5] q) (Le.trans (AZ (r:=5) (j:=2) (nm:=5502) (sz':=5) (λi=>Cg (([]:List Ae).getD i default)) 64 rfl rfl (nl rfl) rfl (.inl ⟨rfl,rfl⟩) (λh_=>absurd h_ (by decide))) (Bi (st':=⟨(vb v33 v0),[(4,.row 25 bw),(5,.row 25 (xx v0)),(5502,.tok 5 64 (([]:List Ae).length))],[]⟩) YL GB q))) (tL q h YL GB (λu (i1,l2)=>(Cl u [(16,(Z5 i1))] [(5,.row 25 (kq v0 l2)),(Ll 5502 64 l2.length)])) (λu l3=>aG Γ (.exit 0) (Ni [4,5] GB u [] [(5,.row 25 [(Z6 v0.Params),(Z5 v0.Ret),(vo l3 5502)]),(Ll 5502 64 l3.length)])) (λ⟨i1,l2⟩ y h=>Af q [3,4,5,14,15,16,17] GB (gC h (λh=>tV q iE [4,5,7,5502] h λh=>tB h λx5 y5 h=>tB h λx6 y6 h=>tC h λc7_ h=>tC h λc8_ h=>tT q iE [4,5,7,22,5502] [⟨[],[(20000,22)],(.vsl 20000 x5.length),(nP 20000 x5),[],[]⟩,⟨[(22,34000)],[],(.vsub 34000 x6.2.length 0 x6.1),[(34000,.arr 4 67 x6.2.length (nG x6))],[],[]⟩] (c2 (Pr y5) (Ou y6)) (tB h λx9 y9 h=>tB h λx10 y10 h=>tC h λc11_ h=>tC h λc12_ h=>tT q iE [4,5,7,22,28,5502] [⟨[],[(20000,28)],(.vsl 20000 x9.length),[(fH 20000 x9)],[],[]⟩,⟨[(28,34000)],[],(.vsub 34000 x10.2.length 0 x10.1),[(34000,.arr 6 70 x10.2.length (fF x10))],[],[]⟩] (c2 (Q1 y9) (Ps y10)) (Qc (⟨(nF v33 v0 i1),[(4,.row 25 bw),(5,.row 25 (kq v0 l2)),(7,.row 64 [(.vsub 22 x6.2.length 0 x6.1),(.vsub 28 x10.2.length 0 x10.1),(.int .i64 (GM v0 i1).End.Kind),(.int .i64 (GM v0 i1).End.Arg),(nH v0 i1)]),(22,.arr 4 67 x6.2.length (nG x6)),(28,.arr 6 70 x10.2.length (fF x10)),(Ll 5502 64 l2.length)],[]⟩:St) (gLe (Le.trans (Le.trans (le_freeze (nm:=22) (sz:=4) (n:=x6.2.length) (e:=67) (f:=(nG x6)) (g:=(nG x6)) rfl ⟨rfl,trivial⟩ (λ_ _=>rfl) (by rw[hΓ];rfl)) (Gt (st':=⟨(nF v33 v0 i1),[(4,.row 25 bw),(5,.row 25 (kq v0 l2)),(7,.row 64 [(.slice 4 (x6.1-0) (λi=>(nG x6) (0+i)) .none),(.vsub 28 x10.2.length 0 x10.1),(.int .i64 (GM v0 i1).End.Kind),(.int .i64 (GM v0 i1).End.Arg),(nH v0 i1)]),(22,.tok 4 67 x6.2.length),(28,.arr 6 70 x10.2.length (fF x10)),(Ll 5502 64 l2.length)],[]⟩) (by kernel_rfl))) (I8 (st':=⟨(nF v33 v0 i1),[(4,.row 25 bw),(5,.row 25 (kq v0 l2)),(7,.row 64 [(AV.list 4 Eo default (x6.2.take x6.1) .none),(.vsub 28 x10.2.length 0 x10.1),(.int .i64 (GM v0 i1).End.Kind),(.int .i64 (GM v0 i1).End.Arg),(nH v0 i1)]),(22,.tok 4 67 x6.2.length),(28,.arr 6 70 x10.2.length (fF x10)),(Ll 5502 64 l2.length)],[]⟩) (.cons (AVle.refl _) (.cons (AVle.refl _) (.cons (AVle.refl _) (.cons (AVle.refl _) (.cons (AVle.refl _) (.cons (AVle.refl _) (.cons (AVle.refl _) .nil))))))) (.same (.same (.row (.cons (nq (e:=Eo) (d:=(default:Ba)) (And.intro trivial c7_).2) (.cons (AVle.refl _) (.cons (AVle.refl _) (.cons (AVle.refl _) (.cons (AVle.refl _) .nil))))) (.same (.same (.same .nil)))))))) (gLe (Le.trans (Le.trans (le_freeze (nm:=28) (sz:=6) (n:=x10.2.length) (e:=70) (f:=(fF x10)) (g:=(fF x10)) rfl ⟨rfl,trivial⟩ (λ_ _=>rfl) (by rw[hΓ];rfl)) (Gt (st':=⟨(nF v33 v0 i1),[(4,.row 25 bw),(5,.row 25 (kq v0 l2)),(7,.row 64 [(AV.list 4 Eo default (x6.2.take x6.1) .none),(.slice 6 (x10.1-0) (λi=>(fF x10) (0+i)) .none),(.int .i64 (GM v0 i1).End.Kind),(.int .i64 (GM v0 i1).End.Arg),(nH v0 i1)]),(22,.tok 4 67 x6.2.length),(28,.tok 6 70 x10.2.length),(Ll 5502 64 l2.length)],[]⟩) (by kernel_rfl))) (I8 (st':=⟨(nF v33 v0 i1),[(4,.row 25 bw),(5,.row 25 (kq v0 l2)),(7,.row 64 [(AV.list 4 Eo default (x6.2.take x6.1) .none),(AV.list 6 J6 default (x10.2.take x10.1) .none),(.int .i64 (GM v0 i1).End.Kind),(.int .i64 (GM v0 i1).End.Arg),(nH v0 i1)]),(22,.tok 4 67 x6.2.length),(28,.tok 6 70 x10.2.length),(Ll 5502 64 l2.length)],[]⟩) (.cons (AVle.refl _) (.cons (AVle.refl _) (.cons (AVle.refl _) (.cons (AVle.refl _) (.cons (AVle.refl _) (.cons (AVle.refl _) (.cons (AVle.refl _) .nil))))))) (.same (.same (.row (.cons (AVle.refl _) (.cons (nq (e:=J6) (d:=(default:B2)) (And.intro trivial c11_).2) (.cons (AVle.refl _) (.cons (AVle.refl _) (.cons (AVle.refl _) .nil))))) (.same (.same (.same .nil)))))))) (tC h λc13_ h=>gR q YL GB (Z60 35 (sA x6 x10 v0 i1) 36 l2 5502) [] (c5 (Bp 5 Cg (default:Ae) (sA x6 x10 v0 i1)) (Eq.refl l2.length) c13_ (Iz 5 5502 Cg (default:Ae) l2 (sA x6 x10 v0 i1)) (E3 l2 (sA x6 x10 v0 i1))) (Af q YL GB (tN h)))))))) λh=>tS h (gO (Bd (Bi [4,5] GB q))))) λx14 h=>gA (Af q [4] [4,5502] (tS h (Cc [])))))))
def Nv :VT->Option zX:=
 λ(s_:VT)=>match s_ with|(l1,i2,l3)=>((Kv (⟨l1,i2,l3⟩:TFunc)).bind λx9=>((Jl (⟨l1,i2,l3⟩:TFunc) x9).bind λx10=>((Ha x10).bind λx11=>((Ha (⟨l1,i2,l3⟩:TFunc)).bind λx12=>(bif (decide (x11<x12)) then(some (.next (x10.Params,x10.Ret,x10.Blocks))) else(some (.done (⟨l1,i2,l3⟩:TFunc))))))))
def bo(Γ:H5)(a0:TFunc)(r:TFunc):Exit->St->Prop:=fK Tryz.prog Γ Tryz.f18.results.toList [] (W9 r) []
def Sb(a0:TFunc):Option TFunc:=
 ((Rx (S:=VT) (X:=TFunc) ((Lt a0).bind λx4=>(bif (!x4) then(some (.done a0)) else((Kv a0).bind λx5=>((Jl a0 x5).bind λx6=>((Ha x6).bind λx7=>((Ha a0).bind λx8=>(bif (decide (x7<x8)) then(some (.next (x6.Params,x6.Ret,x6.Blocks))) else(some (.done a0))))))))) Nv).bind (λx13=>(some x13)))
theorem HS(h:Sb v0=some v44):sP 18 [(W9 v0)] [] (W9 v44) []:=
 sG Tryz.func18 λΓ q=>Af q Ee Ee (tB h λx13 y13 h=>gS y13 (λ(s_:VT)=>match s_ with|(l1,i2,l3)=>0) (λ(s_:VT)=>match s_ with|(l1,i2,l3)=>(⟨[CT,Uk],[(1,.row 25 [(Z6 l1),(Z5 i2),(UF l3)]),(2,.row 25 [Z0,L9,Z0])],[]⟩:St)) (λr_=>aR (bo Γ v0 r_)) (λy h=>tB h λx4 y4 h=>tT q CN Ee [(Z2 x4)] (c1 (Su y4)) (gC h (λh=>Af q [2] [2] (tS h (ee (Lm (H6 [] (Le.refl _ _)))))) λh=>tB h λx5 y5 h=>tB h λx6 y6 h=>tT q GF GF [(xE 10 x5 x5.length),(rE x6)] (c2 (Vy y5) (Y4 y6)) (tB h λx7 y7 h=>tB h λx8 y8 h=>tT q [1,2,3,16] GF [(ZA x7),(ZA x8)] (c2 (Q0 y7) (Q0 y8)) (gC h (λh=>Af q Ee Ee (tS h (fg Iq))) λh=>Af q [2] [2] (tS h (ee (Lm (H6 [] (Le.refl _ _))))))))) (λ⟨l1,i2,l3⟩ y h=>tB h λx9 y9 h=>tB h λx10 y10 h=>tT q GF GF [(xE 10 x9 x9.length),(rE x10)] (c2 (Vy y9) (Y4 y10)) (tB h λx11 y11 h=>tB h λx12 y12 h=>tT q [1,2,3,16] GF [(ZA x11),(ZA x12)] (c2 (Q0 y11) (Q0 y12)) (gC h (λh=>Af q Ee Ee (tS h (fg Iq))) λh=>Af q [2] [2] (tS h (ee (Lm (H6 [] (Le.refl _ _)))))))) (O3 (λst' hk=>tS h (gK hk))))
def Tx(a0:TFunc):Option TFunc:=
 ((Ty a0).bind λx1=>((Sb x1).bind λx2=>(some x2)))
theorem LU(h:Tx v0=some v44):sP 20 [(W9 v0)] [] (W9 v44) []:=
 sG Tryz.func20 λΓ q=>Af q Ee Ee (tB h λx1 y1 h=>tB h λx2 y2 h=>tT q [2] [2] [(rE x1),(rE x2)] (c2 (LV y1) (HS y2)) (tS h (Cc [])))
def Nx(x2:List Bool):uP->Option (LR (Ar×Int) Ar):=
 λ((l3,i4):uP)=>(bif (decide (i4<(x2.length:Int))) then(Option.bind (α:=Ar) (A0 (A1 i4 x2.length) (bif (x2.getD i4.toNat false) then(A0 (l3.length+([i4]:Ar).length<=room) (some (l3++([i4]:Ar)))) else(some l3))) (λx9=>(some (.next (x9,(w64 (i4+1))))))) else(some (.done l3)))
def kr:AV:=fG
def xz:=(⟨[(2,(Z95 6002))],[(6002,.tok 1 3 (([]:Ar).length))],[]⟩:St)
def xy(x2:List Bool):=(⟨[(3,(Z95 5003)),(10,(NL x2 10)),(bm 11 x2.length),(12,L9)],[(Q9 10 x2.length),(5003,.tok 1 3 (([]:Ar).length))],[]⟩:St)
def Sc(a0:TFunc):Option Ar:=
 ((Lt a0).bind λx1=>(bif (!x1) then(some ([]:Ar)) else((Kv a0).bind λx2=>((Ac (Nx x2) (([]:Ar),(0:Int))).bind (λx11=>(some x11))))))
theorem HT(h:Sc v0=some v2):sP 14 [(W9 v0)] [] (V8 v2 20000) [(Yt 20000 v2.length)]:=
 sG Tryz.func14 λΓ q=>gR q [1] [1] [(2,kr)] [] (c1 (B0 1 Ap (0:Int))) (tB h λx1 y1 h=>tT q [1,8] [1] [(Z2 x1)] (c1 (Su y1)) (gC h (λh=>gR q [2] [] [(2,kr)] [] (c1 (B0 1 Ap (0:Int))) (Qc (⟨[(2,kr)],[],[]⟩:St) (tS h (gK (e:=.ret) (H6 [(6002,20000)] (show Le Γ _ xz from Le.trans (Bi (st':=⟨[(2,kr)],[],[]⟩) [2] [] q) (Le.trans (Rm (t:=2) (nm:=6002) (sz':=1) (λi=>Ap (([]:Ar).getD i 0)) 3 rfl rfl (.inl ⟨rfl,rfl⟩) (λh_=>absurd h_ (by decide))) (Bi (st':=xz) [2] [6002] q)))))))) λh=>gR q L7 [1] [(3,kr)] [] (c1 (B0 1 Ap (0:Int))) (tB h λx2 y2 h=>tT q CR [10] [(xE 10 x2 x2.length)] (c1 (Vy y2)) (gLe (st':=(xy x2)) (Le.trans (Bi (st':=⟨[(3,kr),(10,(NL x2 10)),(bm 11 x2.length),(12,L9)],[(Q9 10 x2.length)],[]⟩) CR [10] q) (Le.trans (Rm (t:=3) (nm:=5003) (sz':=1) (λi=>Ap (([]:Ar).getD i 0)) 3 rfl rfl (.inl ⟨rfl,rfl⟩) (λh_=>absurd h_ (by decide))) (Bi (st':=(xy x2)) CR CM q))) (tL q h CR CM (λu (l3,i4)=>(Cl u [(3,(V8 l3 5003)),(12,(Z5 i4))] [(Yt 5003 l3.length)])) (λu l5=>aG Γ (.exit 0) (⟨[(3,(V8 l5 5003))],[(Yt 5003 l5.length)],[]⟩:St)) (λ⟨l3,i4⟩ y h=>Af q [3,10,11,12,13] CM (gC h (λh=>tB h λx9 y9 h=>gJ y9 (λl6=>aG Γ .normal (⟨[(3,(V8 l6 5003)),(10,(NL x2 10)),(bm 11 x2.length),(12,(Z5 i4))],[(Q9 10 x2.length),(Yt 5003 l6.length)],[]⟩:St)) (λy h=>tV q [3,4,5,10,11,12] CM h λh=>Af q [3,4,10,11,12,17] CM (gC h (λh=>tC h λc8_ h=>gR q CR CM (vi 20 i4 21 l3 5003) [] (c5 (Bp 1 Ap (0:Int) ([i4]:Ar)) (Eq.refl l3.length) c8_ (Iz 1 5003 Ap (0:Int) l3 ([i4]:Ar)) (E3 l3 ([i4]:Ar))) (tS h (gK (Bd Iq)))) λh=>tS h (gK (Bd (Bi CR CM q))))) (gA (Af q CR CM (tN h)))) λh=>tS h (gO (Bd (Bi [3] [5003] q))))) λx11 h=>gA (Af q [2] [5003] (tS h (Cc bZ))))))))
def F5:List B2:=([(⟨(0:Int),(8:Int),(1:Int),(1:Int),([]:Ar),(7:Int)⟩:B2),(⟨(0:Int),(8:Int),(1:Int),(2:Int),([]:Ar),(8:Int)⟩:B2)]:List B2)
def Dd:List Ae:=([(⟨([]:List Ba),F5,(⟨(1:Int),(0:Int),([(1:Int)]:Ar)⟩:Kb)⟩:Ae),(⟨([(⟨(8:Int),(3:Int),([(0:Int)]:Ar),([(1:Int)]:Ar)⟩:Ba)]:List Ba),([]:List B2),(⟨(0:Int),(3:Int),([]:Ar)⟩:Kb)⟩:Ae)]:List Ae)
def GN:AV:=L9
def bx:AV:=ue
def ks:AV:=Z0
def ve(x4:Bool)(x1:TFunc):=(bif (bif (bif x4 then((x1.Blocks.length:Int)==1) else false) then(((x1.Blocks.getD (0:Int).toNat (default:Ae)).End.Arg:Int)==1) else false) then((((x1.Blocks.getD (0:Int).toNat (default:Ae)).Ops).length:Int)==2) else false)
def Aag(x2:TFunc):=((x2.Blocks.length:Int)==1)
def nI(x4:Bool)(x1:TFunc)(x2:TFunc):=(bif (ve x4 x1) then(Aag x2) else false)
def OP:AV:=fG
def yB(x2:TFunc):=((((x2.Blocks.getD (0:Int).toNat (default:Ae)).Ops).length:Int)==1)
def vf(x4:Bool)(x1:TFunc)(x2:TFunc):=((bif (nI x4 x1 x2) then(yB x2) else false)==true)
def Aas:=(⟨([]:Ar),(8:Int),Dd⟩:TFunc)
def sC:AV:=(AV.list 5 Cg default Dd .exact)
def yC(x4:Bool)(x1:TFunc):=((bif x4 then((x1.Blocks.length:Int)==1) else false)==true)
def sB:AV:=(AV.list 4 Eo default ([(⟨(8:Int),(3:Int),([(0:Int)]:Ar),([(1:Int)]:Ar)⟩:Ba)]:List Ba) .exact)
def yA(x4:Bool)(x1:TFunc):=((bif (bif x4 then((x1.Blocks.length:Int)==1) else false) then(((x1.Blocks.getD (0:Int).toNat (default:Ae)).End.Arg:Int)==1) else false)==true)
def yD:AV:=(.agg [(AV.list 4 Eo default ([]:List Ba) .exact),(AV.list 6 J6 default F5 .exact),bx,GN,z7])
def m_locksteplaw16_awake :Option Bool:=
 ((Ty (⟨([]:Ar),(8:Int),Dd⟩:TFunc)).bind λx1=>((Tx (⟨([]:Ar),(8:Int),Dd⟩:TFunc)).bind λx2=>((Sc (⟨([]:Ar),(8:Int),Dd⟩:TFunc)).bind λx3=>((Dp x3 ([(1:Int),(3:Int)]:Ar)).bind λx4=>(A0 (((bif x4 then((x1.Blocks.length:Int)==1) else false)==true)=true->(A1 (0:Int) x1.Blocks.length)) (A0 (((bif (bif x4 then((x1.Blocks.length:Int)==1) else false) then(((x1.Blocks.getD (0:Int).toNat (default:Ae)).End.Arg:Int)==1) else false)==true)=true->(A1 (0:Int) x1.Blocks.length)) (A0 (((bif (bif (bif (bif x4 then((x1.Blocks.length:Int)==1) else false) then(((x1.Blocks.getD (0:Int).toNat (default:Ae)).End.Arg:Int)==1) else false) then((((x1.Blocks.getD (0:Int).toNat (default:Ae)).Ops).length:Int)==2) else false) then((x2.Blocks.length:Int)==1) else false)==true)=true->(A1 (0:Int) x2.Blocks.length)) ((bif ((bif (bif (bif (bif (bif x4 then((x1.Blocks.length:Int)==1) else false) then(((x1.Blocks.getD (0:Int).toNat (default:Ae)).End.Arg:Int)==1) else false) then((((x1.Blocks.getD (0:Int).toNat (default:Ae)).Ops).length:Int)==2) else false) then((x2.Blocks.length:Int)==1) else false) then((((x2.Blocks.getD (0:Int).toNat (default:Ae)).Ops).length:Int)==1) else false)==true) then Sb (⟨([]:Ar),(8:Int),Dd⟩:TFunc) else some (default:TFunc)).bind λx8=>(some (bif (bif (bif (bif (bif (bif x4 then((x1.Blocks.length:Int)==1) else false) then(((x1.Blocks.getD (0:Int).toNat (default:Ae)).End.Arg:Int)==1) else false) then((((x1.Blocks.getD (0:Int).toNat (default:Ae)).Ops).length:Int)==2) else false) then((x2.Blocks.length:Int)==1) else false) then((((x2.Blocks.getD (0:Int).toNat (default:Ae)).Ops).length:Int)==1) else false) then((x8.Blocks.length:Int)==2) else false))))))))))
theorem X3  (r:Bool) (h:m_locksteplaw16_awake=some r):sP 10 [] [] (.bool r) []:=
 sG Tryz.func10 λΓ q=>Af q [] [] (gR q [1] [1] [(6,(Z96 GN bx OP))] [] (c1 (show(AVle (Z96 GN bx ks) (Z96 GN bx OP)) from(AVle.agg (.cons (AVle.refl _) (.cons (AVle.refl _) (.cons (AVle.refl _) (.cons (AVle.refl _) (.cons El (.cons (AVle.refl _) .nil))))))))) (gR q Ee Ee [(7,(Z78 GN bx OP))] [] (c1 (show(AVle (Z78 GN bx ks) (Z78 GN bx OP)) from(AVle.agg (.cons (AVle.refl _) (.cons (AVle.refl _) (.cons (AVle.refl _) (.cons (AVle.refl _) (.cons El (.cons (AVle.refl _) .nil))))))))) (gR q [3] [3] [(10,(AV.list 6 J6 default F5 .exact)),(11,z7),(13,yD),(14,(AV.list 1 Ap 0 ([(0:Int)]:Ar) .exact)),(15,z7),(17,sB),(18,(.agg [GN,(.int .i64 (3:Int)),OP])),(19,(.agg [sB,yQ,GN,(.int .i64 (3:Int)),OP])),(20,sC),(21,(.agg [OP,(.int .i64 (8:Int)),sC]))] [] (d9_ (Bp 6 J6 (default:B2) F5) (Bp 1 Ap (0:Int) ([(1:Int)]:Ar)) (show(AVle (.agg [ks,(AV.list 6 J6 default F5 .exact),bx,GN,z7]) yD) from(AVle.agg (.cons El (.cons (AVle.refl _) (.cons (AVle.refl _) (.cons (AVle.refl _) (.cons (AVle.refl _) .nil))))))) (Bp 1 Ap (0:Int) ([(0:Int)]:Ar)) (Bp 1 Ap (0:Int) ([(1:Int)]:Ar)) (Bp 4 Eo (default:Ba) ([(⟨(8:Int),(3:Int),([(0:Int)]:Ar),([(1:Int)]:Ar)⟩:Ba)]:List Ba)) (show(AVle (.agg [GN,(.int .i64 (3:Int)),ks]) (.agg [GN,(.int .i64 (3:Int)),OP])) from(AVle.agg (.cons (AVle.refl _) (.cons (AVle.refl _) (.cons El .nil))))) (show(AVle (.agg [sB,ks,GN,(.int .i64 (3:Int)),OP]) (.agg [sB,yQ,GN,(.int .i64 (3:Int)),OP])) from(AVle.agg (.cons (AVle.refl _) (.cons El (.cons (AVle.refl _) (.cons (AVle.refl _) (.cons (AVle.refl _) .nil))))))) (Bp 5 Cg (default:Ae) Dd) (c1 (show(AVle (.agg [ks,(.int .i64 (8:Int)),sC]) (.agg [OP,(.int .i64 (8:Int)),sC])) from(AVle.agg (.cons El (.cons (AVle.refl _) (.cons (AVle.refl _) .nil))))))) (tB h λx1 y1 h=>tT q Yp Yp [(rE x1)] (c1 (LV y1)) (tB h λx2 y2 h=>tT q [3,4,5] [3,4,5] [(rE x2)] (c1 (LU y2)) (tB h λx3 y3 h=>tB h λx4 y4 h=>tC h λc5_ h=>tC h λc6_ h=>tC h λc7_ h=>tB h λx8 y8 h=>gR q [0] [] [(28,(AV.list 1 Ap 0 ([(1:Int),(3:Int)]:Ar) .exact))] [(vk 27 x3 x3.length),(Z2 x4),(rE x8)] (ZM (HT y3) (Bp 1 Ap (0:Int) ([(1:Int),(3:Int)]:Ar)) (J2 y4) (Vm (x4==true) (ci (Nh x4) (M4 (yC x4 x1) (ci c5_ (ZR (yC x4 x1) (ci (Nh (bif x4 then((x1.Blocks.length:Int)==1) else false)) (M4 (yA x4 x1) (ci c6_ (ZR (yA x4 x1) (ci (Nh (bif (bif x4 then((x1.Blocks.length:Int)==1) else false) then(((x1.Blocks.getD (0:Int).toNat (default:Ae)).End.Arg:Int)==1) else false)) (Vm ((ve x4 x1)==true) (ci (Nh (ve x4 x1)) (M4 ((nI x4 x1 x2)==true) (ci c7_ (ZR ((nI x4 x1 x2)==true) (ZM (Nh (nI x4 x1 x2)) (gI (vf x4 x1 x2)) (λ(hg:(vf x4 x1 x2)=true)=>(HS (Bq hg y8))) (Vm (vf x4 x1 x2) (c1 (Nh (bif (nI x4 x1 x2) then(yB x2) else false))))))))))))))))))))) (tS h (Cc []))))))))
open Go Go.RowKit
set_option maxRecDepth 100000
set_option maxHeartbeats 2000000
def Ea(x4:TFunc)(x5:Ar)(i7:Int):Int->Option (LR Int (Unit ⊕ Bool)):=
 λ(i9:Int)=>(bif (decide (i9<(((x4.Blocks.getD i7.toNat default).Phis).length:Int))) then(A0 (A1 i9 ((x4.Blocks.getD i7.toNat default).Phis).length) ((Cj x5 ((((x4.Blocks.getD i7.toNat default).Phis).getD i9.toNat default).Dst)).bind λx11=>(bif (!x11) then(some (.done (.inr false))) else(some (.next (w64 (i9+1))))))) else(some (.done (.inl ()))))
def Eb(x4:TFunc)(x5:Ar)(i7:Int):Int->Option (LR Int (Unit ⊕ Bool)):=
 λ(i14:Int)=>(bif (decide (i14<(((x4.Blocks.getD i7.toNat default).Ops).length:Int))) then(A0 (A1 i14 ((x4.Blocks.getD i7.toNat default).Ops).length) ((Kn ((((x4.Blocks.getD i7.toNat default).Ops).getD i14.toNat default).Kind)).bind λx16=>(A0 ((x16==true)=true->(A1 i14 ((x4.Blocks.getD i7.toNat default).Ops).length)) ((bif (x16==true) then Cj x5 ((((x4.Blocks.getD i7.toNat default).Ops).getD i14.toNat default).Dst) else some false).bind λx18=>(bif (bif x16 then(!x18) else false) then(some (.done (.inr false))) else(some (.next (w64 (i14+1))))))))) else(some (.done (.inl ()))))
def Ec(x4:TFunc)(x5:Ar)(x6:kB):Int->Option (LR Int (Unit ⊕ Bool)):=
 λ(i7:Int)=>(bif (decide (i7<(x4.Blocks.length:Int))) then(A0 (A1 i7 x4.Blocks.length) ((Ac (Ea x4 x5 i7) (0:Int)).bind (λx12=>(match x12 with|(.inl _)=>((Ac (Eb x4 x5 i7) (0:Int)).bind (λx19=>(match x19 with|(.inl _)=>(A0 (((((x4.Blocks.getD i7.toNat default).End.Kind:Int)==1)==true)=true->(A1 (0:Int) ((x4.Blocks.getD i7.toNat default).End.To).length)) (A0 (((bif (((x4.Blocks.getD i7.toNat default).End.Kind:Int)==1) then((((x4.Blocks.getD i7.toNat default).End.To).getD (0:Int).toNat (0:Int))!=i7) else false)==true)=true->(A1 (0:Int) ((x4.Blocks.getD i7.toNat default).End.To).length)) (A0 (((bif (((x4.Blocks.getD i7.toNat default).End.Kind:Int)==1) then((((x4.Blocks.getD i7.toNat default).End.To).getD (0:Int).toNat (0:Int))!=i7) else false)==true)=true->(A1 (((x4.Blocks.getD i7.toNat default).End.To).getD (0:Int).toNat (0:Int)) x6.1.Pred.length)) (bif (bif (bif (((x4.Blocks.getD i7.toNat default).End.Kind:Int)==1) then((((x4.Blocks.getD i7.toNat default).End.To).getD (0:Int).toNat (0:Int))!=i7) else false) then(((x6.1.Pred.getD (((x4.Blocks.getD i7.toNat default).End.To).getD (0:Int).toNat (0:Int)).toNat []).length:Int)==1) else false) then(some (.done (.inr false))) else(some (.next (w64 (i7+1))))))))|(.inr r24)=>(some (.done (.inr r24))))))|(.inr r25)=>(some (.done (.inr r25))))))) else(some (.done (.inl ()))))
def K8(Γ:H5)(a0:TFunc)(r:Bool):Exit->St->Prop:=fK Tryz.prog Γ Tryz.f6.results.toList [] (.bool r) []
def yF(x4:TFunc)(i7:Int):=((((x4.Blocks.getD i7.toNat default).End.Kind:Int)==1)==true)
def sD(x4:TFunc)(i7:Int):=(bif (((x4.Blocks.getD i7.toNat default).End.Kind:Int)==1) then((((x4.Blocks.getD i7.toNat default).End.To).getD (0:Int).toNat (0:Int))!=i7) else false)
def Lc(a0:TFunc):Option Bool:=
 (m_locksteplaw16_awake.bind λx1=>(bif (!x1) then(some false) else((D8 a0).bind λx2=>((bif ((!x2)==false) then D7 a0 (2:Int) else some (0:Int)).bind λx3=>(bif (bif (!x2) then true else(x3 !=0)) then(some true) else((Tx a0).bind λx4=>((Sc x4).bind λx5=>((Hs x4).bind λx6=>(bif (x6.2 !=0) then(some false) else((Ac (Ec x4 x5 x6) (0:Int)).bind (λx26=>(match x26 with|(.inl _)=>(some true)|(.inr r28)=>(some r28)))))))))))))
theorem ok_locksteplaw16_TidyNone(a0:TFunc)(r:Bool)(h:Lc a0=some r):sP 6 [(W9 a0)] [] (.bool r) []:=
 sG Tryz.func6 λΓ q=>Af q [1] [1] (tB h λx1 y1 h=>tT q [1,12] [1] [(Z2 x1)] (c1 (X3  x1 y1)) (gC h (λh=>Af q [2] [] (tS h (Cc []))) λh=>tB h λx2 y2 h=>tB h λx3 y3 h=>tT q [1,20] [1] [(Z2 x2),(ZA x3)] (c5 (Ya y2) (gI ((!x2)==false)) (λ(hg:((!x2)==false)=true)=>(X9 (Bq hg y3))) (gI ((!x2)==false)) (Ng (!x2))) (gC h (λh=>Af q [2] [] (tS h (Cc []))) λh=>tB h λx4 y4 h=>tT q [3] [3] [(rE x4)] (c1 (LU y4)) (tB h λx5 y5 h=>tT q Yp [3,24] [(vk 24 x5 x5.length)] (c1 (HT y5)) (tB h λx6 y6 h=>tT q [3,4,5,6] GE [(vm x6.1 x6.2)] (c1 (Ot y6)) (Af q [3,4,5,31] GE (gC h (λh=>Af q [2] [] (tS h (Cc []))) λh=>Af q [3,4,5,7] GE (tL q h [3,4,5,7] GE (λu i7=>(Cl u [(7,(Z5 i7))] [])) (λu x_=>match x_ with|(.inl _)=>aG Γ (.exit 0) (⟨[],[],[]⟩:St)|(.inr r_)=>aR (K8 Γ a0 r_)) (λi7 y h=>Af q [3,4,5,7,36] GE (gC h (λh=>tV q TL Ui h λh=>Af q iN Ui (tL q h iN Ui (λu i9=>(Cl u [(9,(Z5 i9))] [])) (λu x_=>match x_ with|(.inl _)=>aG Γ (.exit 2) (Ni TL Ui u [] [])|(.inr r_)=>aR (K8 Γ a0 r_)) (λi9 y h=>Af q [3,4,5,7,8,9,48] Ui (gC h (λh=>tC h λc10_ h=>tB h λx11 y11 h=>tT q [3,4,5,7,8,9,59] Ui [(Z2 x11)] (c2 c10_ (H3 y11)) (gC h (λh=>Af q [2] [] (tS h (gO (Lm (H6 [] (Le.refl _ _)))))) λh=>Af q iN Ui (tN h))) λh=>tS h (gO (Bd (Bi TL Ui q))))) λx12 h=>(match x12,h with | .inl _,h=>gA (Af q iJ Ui (tL q h iJ Ui (λu i14=>(Cl u [(10,(Z5 i14))] [])) (λu x_=>match x_ with|(.inl _)=>aG Γ (.exit 4) (Ni TL Ui u [] [])|(.inr r_)=>aR (K8 Γ a0 r_)) (λi14 y h=>Af q [3,4,5,7,8,10,64] Ui (gC h (λh=>tC h λc15_ h=>tB h λx16 y16 h=>tC h λc17_ h=>tB h λx18 y18 h=>tT q [3,4,5,7,8,10,84] Ui [(Z2 x16),(Z2 x18)] (ed c15_ (Zq y16) (Vm (x16==true) (ci c17_ (ZR (x16==true) (c3 (λ(hg:(x16==true)=true)=>(H3 (Bq hg y18))) (gI (x16==true)) (Nh x16)))))) (gC h (λh=>Af q [2] [] (tS h (gO (Lm (H6 [] (Le.refl _ _)))))) λh=>Af q iJ Ui (tN h))) λh=>tS h (gO (Bd (Bi TL Ui q))))) λx19 h=>(match x19,h with | .inl _,h=>gA (tC h λc21_ h=>tC h λc22_ h=>tC h λc23_ h=>tU q [3,4,5,7,110] GE (Vm (yF x4 i7) (ci c21_ (Vm (yF x4 i7) (ci (Nh (((x4.Blocks.getD i7.toNat default).End.Kind:Int)==1)) (ZR ((sD x4 i7)==true) (ci c22_ (Vm ((sD x4 i7)==true) (ci c23_ (Vm ((sD x4 i7)==true) (c1 (Nh (sD x4 i7)))))))))))) (gC h (λh=>Af q [2] [] (tS h (gO (Lm (H6 [] (Le.refl _ _)))))) λh=>Af q [3,4,5,7] GE (tN h))) | .inr r24,h=>O3 (λst' hk=>tS h (gO (Lm hk)))))) | .inr r25,h=>O3 (λst' hk=>tS h (gO (Lm hk)))))) λh=>tS h (gO (Bd (Bi [] [] q))))) λx26 h=>(match x26,h with | .inl _,h=>gA (Af q [2] [] (tS h (Cc []))) | .inr r28,h=>O3 (λst' hk=>tS h (gK hk)))))))))))
theorem He{n:Int}(h:-9223372036854775808<=n)(h':n<9223372036854775808):w64 n=n:=by
 show IntKind.i64.wrap n=n
 simp only[IntKind.wrap,IntKind.bits,IntKind.signed]
 simp
 split<;>omega
theorem ID{n:Int}(h:0<=n)(h':n<18446744073709551616):Iu n=n:=by
 show IntKind.u64.wrap n=n
 simp[IntKind.wrap,IntKind.bits,IntKind.signed];omega
theorem qQ(n:Int):Iu n=n % 18446744073709551616:=by
 show IntKind.u64.wrap n=_
 simp[IntKind.wrap,IntKind.bits,IntKind.signed]
theorem Aa{R:Type}{p:Prop}[Decidable p]{k:Option R}(h:p):A0 p k=k:=if_pos h
theorem MD{S X:Type}(f:S->Option (LR S X))(s:S):Rx (f s) f=Ac f s:=by
 unfold Rx
 cases h:f s with
 | none=>rw[Option.bind_none,Xt h]
 | some y=>cases y with
  | next s'=>rw[Aq h];rfl
  | done x=>rw[Am h];rfl
theorem oa{x:Int}(j:Nat):x.fdiv (2 ^ j)=x / 2 ^ j:=by rw[Int.fdiv_eq_ediv_of_nonneg _ (by exact Int.le_of_lt (Int.pow_pos (by decide)))]
theorem Ab{α:Type}(l:List α)(i:Nat)(d:α)(h:i<l.length):l.getD i d=l[i]:=by simp[List.getD,h]
theorem kinds(k:Int):k=0\/k=1\/k=2\/k=3\/k=4\/k=5\/k=6\/k=7\/k=8\/k=9\/k=10\/k=11\/k=12\/k=13\/k=14\/k=15\/k=16\/k=17\/k=18\/k=19\/k=20\/k=21\/k=22\/(k<0\/22<k):=by omega
theorem bG{k:Int}(h:k<0\/22<k):(k==0)=false/\(k==1)=false/\(k==2)=false/\(k==3)=false/\(k==4)=false/\(k==5)=false/\(k==6)=false/\(k==7)=false/\(k==8)=false/\(k==9)=false/\(k==10)=false/\(k==11)=false/\(k==12)=false /\
  (k==13)=false/\(k==14)=false/\(k==15)=false/\(k==16)=false/\(k==17)=false/\(k==18)=false/\(k==19)=false/\(k==20)=false/\(k==21)=false/\(k==22)=false:=by
 simp only[zzL29];omega
def widthB(b:Int):Bool:=b==1 || b==8 || b==16 || b==32 || b==64
def Xr(b n:Int):Bool:=widthB b&&(n==1 || ((n==2 || n==4 || n==8 || n==16)&&decide (8<=b)&&decide (b*n<=128)))
theorem width_cases{b:Int}(h:widthB b=true):b=1\/b=8\/b=16\/b=32\/b=64:=by simp[widthB]at h;omega
theorem BZ{b n:Int}(h:Xr b n=true):widthB b=true:=by simp[Xr]at h;exact h.1
theorem shape_lanes{b n:Int}(h:Xr b n=true):n=1\/n=2\/n=4\/n=8\/n=16:=by simp[Xr]at h;omega
theorem Wx(b:Int):Ld b=some (widthB b):=by
 unfold Ld widthB
 by_cases h1:b=1
 ·subst h1;rfl
 by_cases h2:b=8
 ·subst h2;rfl
 by_cases h3:b=16
 ·subst h3;rfl
 by_cases h4:b=32
 ·subst h4;rfl
 by_cases h5:b=64
 ·subst h5;rfl
 have e1:(b==1)=false:=by simpa using h1
 have e2:(b==8)=false:=by simpa using h2
 have e3:(b==16)=false:=by simpa using h3
 have e4:(b==32)=false:=by simpa using h4
 have e5:(b==64)=false:=by simpa using h5
 simp[e1,e2,e3,e4,e5]
theorem Sg(b:Int):Da b=some (widthB b):=by
 cases(b==1)<;>cases(b==8)<;>cases(b==16)<;>cases(b==32)<;>rfl
theorem ft(b n:Int):Td b n=some (Xr b n):=by
 unfold Td;simp only[Wx,An]
 by_cases hn:n=1\/n=2\/n=4\/n=8\/n=16
 ·cases hw:widthB b with
  | false=>rcases hn with rfl|rfl|rfl|rfl|rfl<;>simp[Xr,hw]
  | true=>
   rcases width_cases hw with rfl|rfl|rfl|rfl|rfl<;>rcases hn with rfl|rfl|rfl|rfl|rfl<;>rfl
 ·have e1:(n==1)=false:=by simp;omega
  have e2:(n==2)=false:=by simp;omega
  have e3:(n==4)=false:=by simp;omega
  have e4:(n==8)=false:=by simp;omega
  have e5:(n==16)=false:=by simp;omega
  simp[Xr,e1,e2,e3,e4,e5]
theorem ly(b n:Int):Jy b n=some (Xr b n):=by
 unfold Jy;simp only[Sg,An]
 cases hw:widthB b with
 | false=>simp[Xr,hw]
 | true=>
  by_cases hn:n=1\/n=2\/n=4\/n=8\/n=16
  ·rcases width_cases hw with rfl|rfl|rfl|rfl|rfl<;>rcases hn with rfl|rfl|rfl|rfl|rfl<;>rfl
  ·have e1:(n==1)=false:=by simp;omega
   have e2:(n==2)=false:=by simp;omega
   have e3:(n==4)=false:=by simp;omega
   have e4:(n==8)=false:=by simp;omega
   have e5:(n==16)=false:=by simp;omega
   simp[Xr,e1,e2,e3,e4,e5]
theorem qP{v b:Int}(hv:0<=v/\v<18446744073709551616)(hb:widthB b=true):Xw v b=some (v % 2 ^ b.toNat):=by
 unfold Xw;simp only[Wx,hb,An,D6,Au]
 have key:∀ j:Nat,j<64->Wv .u64 (RY .u64 v (j:Int)) (j:Int)=(v*2 ^ j % 18446744073709551616) / 2 ^ j:=λj hj=>by
  simp only[Wv,RY,Dy,IntKind.bits];rw[Nat.min_eq_left (by omega),oa,show IntKind.u64.wrap (v*2 ^ j)=v*2 ^ j % 18446744073709551616 from qQ _]
 rcases width_cases hb with rfl|rfl|rfl|rfl|rfl
 ·have:=key 63 (by decide);simp only[show w64 (64-1)=((63:Nat):Int) from rfl,this];rw[Aa (by decide),Aa (by decide)];congr 1;simp only[show((1:Int).toNat)=1 from rfl];omega
 ·have:=key 56 (by decide);simp only[show w64 (64-8)=((56:Nat):Int) from rfl,this];rw[Aa (by decide),Aa (by decide)];congr 1;simp only[show((8:Int).toNat)=8 from rfl];omega
 ·have:=key 48 (by decide);simp only[show w64 (64-16)=((48:Nat):Int) from rfl,this];rw[Aa (by decide),Aa (by decide)];congr 1;simp only[show((16:Int).toNat)=16 from rfl];omega
 ·have:=key 32 (by decide);simp only[show w64 (64-32)=((32:Nat):Int) from rfl,this];rw[Aa (by decide),Aa (by decide)];congr 1;simp only[show((32:Int).toNat)=32 from rfl];omega
 ·have:=key 0 (by decide);simp only[show w64 (64-64)=((0:Nat):Int) from rfl,this];rw[Aa (by decide),Aa (by decide)];congr 1;simp only[show((64:Int).toNat)=64 from rfl];omega
theorem tk{v b:Int}(hv:0<=v/\v<18446744073709551616)(hb:widthB b=true):Lo v b=some (v % 2 ^ b.toNat):=by
 unfold Lo;simp only[Sg,hb,An,D6,Au];rcases width_cases hb with rfl|rfl|rfl|rfl|rfl
 ·rw[show((1:Int)==64)=false from rfl,Au,Aa (by decide),Aa (by decide),show RY .u64 (1:Int) (Iu 1)=2 ^ (1:Int).toNat from rfl,Int.tmod_eq_emod_of_nonneg hv.1]
 ·rw[show((8:Int)==64)=false from rfl,Au,Aa (by decide),Aa (by decide),show RY .u64 (1:Int) (Iu 8)=2 ^ (8:Int).toNat from rfl,Int.tmod_eq_emod_of_nonneg hv.1]
 ·rw[show((16:Int)==64)=false from rfl,Au,Aa (by decide),Aa (by decide),show RY .u64 (1:Int) (Iu 16)=2 ^ (16:Int).toNat from rfl,Int.tmod_eq_emod_of_nonneg hv.1]
 ·rw[show((32:Int)==64)=false from rfl,Au,Aa (by decide),Aa (by decide),show RY .u64 (1:Int) (Iu 32)=2 ^ (32:Int).toNat from rfl,Int.tmod_eq_emod_of_nonneg hv.1]
 ·rw[show((64:Int)==64)=true from rfl,Ah]
  congr 1
  simp only[show((64:Int).toNat)=64 from rfl];omega
theorem ZY{i:Int}(h:0<=i/\i<18446744073709551616):Nu i=some (widthB i):=by
 unfold Nu
 by_cases hi:i<=64
 ·have:w64 i=i:=He (by omega) (by omega);simp[hi,this,Wx]
 ·have:widthB i=false:=by simp[widthB];omega
  simp[hi,this]
def cm(k:Int):Bool:=decide (0<=k)&&decide (k<=22)
def Se(k n:Int):Int:=
 bif k==0 then 0 else bif k==13 || k==18 || k==19 then 3 else bif k==14 || k==15 || k==16 || k==22 then 1 else bif k==20 then 4 else bif k==21 then n else 2
def sfitS(k b n:Int):Bool:=
 bif k==16 || k==17 then decide (8<=b) else bif k==18 || k==19 then decide (8<=b)&&n==1 else
 bif k==4 || k==10 || k==11 || k==12 || k==14 || k==15 || k==20 then n==1 else bif k==21 || k==22 then decide (1<n) else true
def ifitS(k b n i:Int):Bool:=
 bif k==0 then i % 2 ^ b.toNat==i else bif k==14 then widthB i&&decide (i<b) else bif k==15 then widthB i&&decide (b<i) else bif k==22 then decide (i<n) else i==0
def valS(v:Int):Bool:=decide (1<=v)&&decide (v<=1023)
def dstS(k d:Int):Bool:=bif k==17 || k==19 then d==0 else valS d
def Gs(o:B2):Bool:=Xr o.Bits o.Lanes&&(cm o.Kind&&sfitS o.Kind o.Bits o.Lanes&&ifitS o.Kind o.Bits o.Lanes o.Imm&&((o.Args.length:Int)==Se o.Kind o.Lanes))&&(o.Args.all valS&&dstS o.Kind o.Dst)
def PI(o:B2)(i:Nat):Int×Int:=
 bif o.Kind==13 || o.Kind==20 then(bif Nat.beq i 0 then(1,1) else(o.Bits,o.Lanes)) else bif o.Kind==14 || o.Kind==15 then(w64 o.Imm,1) else
 bif o.Kind==16 || o.Kind==17 then(bif Nat.beq i 0 then(64,1) else(o.Bits,o.Lanes)) else
 bif o.Kind==18 || o.Kind==19 then(bif Nat.beq i 1 then(64,1) else bif Nat.beq i 0 then(1,1) else(o.Bits,o.Lanes)) else bif o.Kind==21 then(o.Bits,1) else(o.Bits,o.Lanes)
def Ry(o:B2):List (Int×Int):=(List.range (Se o.Kind o.Lanes).toNat).map (PI o)
def Xp(k b n:Int):Int×Int:=bif k==17 || k==19 then(0,0) else bif k==10 || k==11 || k==12 then(1,1) else bif k==22 then(b,1) else(b,n)
def LX(k:Int):Bool:=cm k&&!(k==4 || k==16 || k==17 || k==18 || k==19 || k==20)
theorem DG{k:Int}(h:k<0\/22<k):cm k=false:=by simp[cm];omega
theorem LK(k:Int):O4 k=some (cm k):=by unfold O4 cm;cases decide ((0:Int)<=k)<;>rfl
theorem Xq(v:Int):Nt v=some (valS v):=by unfold Nt valS;cases decide ((1:Int)<=v)<;>rfl
theorem DQ(v:Int):Fi v=some (valS v):=by
 unfold Fi valS
 have e1:decide ((0:Int)<v)=decide (1<=v):=by congr 1
 have e2:decide (v<(1024:Int))=decide (v<=1023):=by apply zzL76.2;omega
 rw[e1,e2]
 cases decide ((1:Int)<=v)<;>rfl
theorem PX(o:B2):Of o=some (sfitS o.Kind o.Bits o.Lanes):=by
 obtain⟨k,b,n,d,args,i⟩:=o;rcases kinds k with rfl|rfl|rfl|rfl|rfl|rfl|rfl|rfl|rfl|rfl|rfl|rfl|rfl|rfl|rfl|rfl|rfl|rfl|rfl|rfl|rfl|rfl|rfl|h
 any_goals rfl
 ·show some (bif decide (8<=b) then n==1 else false)=some (decide (8<=b)&&n==1);cases decide (8<=b)<;>rfl
 ·show some (bif decide (8<=b) then n==1 else false)=some (decide (8<=b)&&n==1);cases decide (8<=b)<;>rfl
 ·unfold Of sfitS;simp[bG h]
theorem PW(o:B2):Qu o=some (Xp o.Kind o.Bits o.Lanes):=by
 obtain⟨k,b,n,d,args,i⟩:=o;rcases kinds k with rfl|rfl|rfl|rfl|rfl|rfl|rfl|rfl|rfl|rfl|rfl|rfl|rfl|rfl|rfl|rfl|rfl|rfl|rfl|rfl|rfl|rfl|rfl|h
 any_goals rfl
 unfold Qu Xp;simp[bG h]
theorem ZX(o:B2)(hw:widthB o.Bits=true)(hn:0<=o.Lanes/\o.Lanes<=16)(hi:0<=o.Imm/\o.Imm<18446744073709551616):Qv o=some (ifitS o.Kind o.Bits o.Lanes o.Imm):=by
 unfold Qv ifitS
 have hb:Iu o.Bits=o.Bits:=by apply ID<;>(rcases width_cases hw with h|h|h|h|h<;>omega)
 have hl:Iu o.Lanes=o.Lanes:=by apply ID<;>omega
 rw[qP hi hw,ZY hi,hb,hl]
 cases(o.Kind==0)<;>cases(o.Kind==14)<;>cases(o.Kind==15)<;>cases(o.Kind==22)<;>cases widthB o.Imm<;>rfl
set_option maxHeartbeats 2000000 in
theorem pk (o : B2) (hs : Xr o.Bits o.Lanes = true) (hk : cm o.Kind = true) (hi : 0 ≤ o.Imm ∧ o.Imm < 18446744073709551616) : Gb o = some (sfitS o.Kind o.Bits o.Lanes && ifitS o.Kind o.Bits o.Lanes o.Imm) := by
  have hw := BZ hs; have hl := shape_lanes hs; obtain ⟨k, b, n, d, args, i⟩ := o; simp only at hs hk hi hw hl ⊢
  have hb : Iu b = b := by apply ID <;> (rcases width_cases hw with h | h | h | h | h <;> omega)
  have hn : Iu n = n := by apply ID <;> omega
  have hb8 : decide (b < 8) = !decide (8 ≤ b) := by rw [← decide_not]; apply zzL76.2; omega
  have hn2 : decide (n < 2) = !decide (1 < n) := by rw [← decide_not]; apply zzL76.2; omega
  have h14 : (bif decide (i < b) then widthB (w64 i) else false) = (widthB i && decide (i < b)) := by
    by_cases h : i < b
    · have : w64 i = i := He (by omega) (by rcases width_cases hw with h | h | h | h | h <;> omega); simp [h, this]
    · simp [h]
  have h15 : (bif (bif decide (b < i) then decide (i ≤ 64) else false) then widthB (w64 i) else false) = (widthB i && decide (b < i)) := by
    by_cases h : i ≤ 64
    · have : w64 i = i := He (by omega) (by omega)
      by_cases h2 : b < i <;> simp [h, this, h2]
    · have : widthB i = false := by simp [widthB]; omega
      simp [h, this]
  have hc := tk (v := i) hi hw; rcases kinds k with rfl | rfl | rfl | rfl | rfl | rfl | rfl | rfl | rfl | rfl | rfl | rfl | rfl | rfl | rfl | rfl | rfl | rfl | rfl | rfl | rfl | rfl | rfl | h
  case inl => unfold Gb; simp [hc, sfitS, ifitS]
  all_goals first
    | (rw [DG h] at hk; cases hk)
    | (unfold Gb sfitS ifitS
       simp only [hb8]
       generalize decide (8 ≤ b) = u at *
       clear hc h14 h15 hb8 hw hs; rcases hl with rfl | rfl | rfl | rfl | rfl <;> cases u <;> simp_all
       done)
    | (unfold Gb sfitS ifitS
       rw [hb]; simp only [Sg]; clear hc hs
       generalize decide (i < b) = p at *
       generalize decide (b < i) = q at *
       generalize decide (i ≤ 64) = r at *
       generalize widthB (w64 i) = s at *
       rcases hl with rfl | rfl | rfl | rfl | rfl <;> cases p <;> cases q <;> cases r <;> cases s <;> simp_all
       done)
theorem lP(k:Int):Uy k=some (LX k):=by
 rcases kinds k with rfl|rfl|rfl|rfl|rfl|rfl|rfl|rfl|rfl|rfl|rfl|rfl|rfl|rfl|rfl|rfl|rfl|rfl|rfl|rfl|rfl|rfl|rfl|h
 any_goals rfl
 unfold Uy LX;simp[bG h,LK]
theorem pl(k:Int):Kn k=some (LX k):=by
 rcases kinds k with rfl|rfl|rfl|rfl|rfl|rfl|rfl|rfl|rfl|rfl|rfl|rfl|rfl|rfl|rfl|rfl|rfl|rfl|rfl|rfl|rfl|rfl|rfl|h
 any_goals rfl
 unfold Kn LX
 have:(bif decide ((0:Int)<=k) then decide (k<=22) else false)=cm k:=by unfold cm;cases decide ((0:Int)<=k)<;>rfl
 rw[this,DG h];rfl
theorem Hi{α X:Type}(l:List α)(d:α)(p:α->Bool)(f:Int->Option (LR Int X))(yes no:X)(hn:∀ i:Nat,i<l.length->p (l.getD i d)=true->f i=some (.next ((i:Int)+1)))
  (hf:∀ i:Nat,i<l.length->p (l.getD i d)=false->f i=some (.done no)) (he:f l.length=some (.done yes)):∀(k i:Nat),i+k=l.length->Ac f i=some (bif (l.drop i).all p then yes else no)
 | 0,i,h=>by
  obtain rfl:i=l.length:=by omega
  rw[Am he]
  simp
 | k+1,i,h=>by
  have hi:i<l.length:=by omega
  have hd:l.drop i=l.getD i d::l.drop (i+1):=by simp_all
  cases hp:p _ with
  | true=>
   rw[Aq (hn i hi hp)];have:=Hi l d p f yes no hn hf he k (i+1) (by omega);rw[show((i:Int)+1)=(i+1:Nat) by omega,this,hd,V3,hp,Mu]
  | false=>
   rw[Am (hf i hi hp),hd,V3,hp,SP,Au]
theorem QE{α X:Type}(n:Nat)(g:Nat->α)(f:List α×Int->Option (LR (List α×Int) X))(out:List α->X)(hn:∀(l:List α) (i:Nat),i<n->l.length=i->f (l,(i:Int))=some (.next (l++[g i],(i:Int)+1)))
  (he:∀ l:List α,l.length=n->f (l,(n:Int))=some (.done (out l))):∀(k i:Nat) (l:List α),i+k=n->l=(List.range i).map g->Ac f (l,(i:Int))=some (out ((List.range n).map g))
 | 0,i,l,h,hl=>by
  obtain rfl:i=n:=by omega
  subst hl;exact Am (he _ (by simp))
 | k+1,i,l,h,hl=>by
  subst hl;rw[Aq (hn _ i (by omega) (by simp))];exact QE n g f out hn he k (i+1) _ (by omega) (by simp[Vg])
theorem HH{α:Type}(l:List α)(d:α)(wt:α->Nat)(C:Nat)(f:Int×Int->Option (LR (Int×Int) Int))
  (hn:∀(n i:Nat),i<l.length->n<=C->∃ m:Nat,f ((n:Int),(i:Int))=some (.next ((m:Int),((i+1:Nat):Int)))/\(n+wt (l.getD i d)<=C->m=n+wt (l.getD i d))/\(m<=C->n+wt (l.getD i d)<=C))
  (hd:∀(n i:Nat),i<=l.length->(i=l.length\/C<n)->f ((n:Int),(i:Int))=some (.done (n:Int))) :
  ∀(k i n:Nat),i+k=l.length->∃ m:Nat,Ac f ((n:Int),(i:Int))=some (m:Int)/\(n+((l.drop i).map wt).sum<=C->m=n+((l.drop i).map wt).sum)/\(m<=C->n+((l.drop i).map wt).sum<=C)
 | 0,i,n,h=>by
  obtain rfl:i=l.length:=by omega
  refine⟨n,Am (hd n _ (zzL6 _) (.inl rfl)),?_,?_⟩
  ·simp
  ·simp
 | k+1,i,n,h=>by
  have hi:i<l.length:=by omega
  have hdr:l.drop i=l.getD i d::l.drop (i+1):=by rw[SJ hi,Ab _ _ _ hi]
  by_cases hC:n<=C
  ·obtain⟨m,h1,h2,h3⟩:=hn n i hi hC;obtain⟨m',h4,h5,h6⟩:=HH l d wt C f hn hd k (i+1) m (by omega);refine⟨m',by rw[Aq h1];exact h4,λhle=>?_,λhle=>?_⟩
   ·rw[hdr,Cq,SS]at hle ⊢;have:=h2 (by omega);subst this;rw[h5 (by omega)];omega
   ·rw[hdr,Cq,SS];have h7:=h6 hle;have h8:=h3 (by omega);have:=h2 h8;omega
  ·refine⟨n,Am (hd n i (by omega) (.inr (by omega))),λhle=>by omega,λhle=>by omega⟩
theorem Tt{X:Type}(N:Nat)(f:Int×Int->Option (LR (Int×Int) X))(hn:∀(n:Int) (i:Nat),i<N->(∃ m:Int,f (n,(i:Int))=some (.next (m,((i+1:Nat):Int))))\/∃ x,f (n,(i:Int))=some (.done x))(hd:∀ n:Int,∃ x,f (n,(N:Int))=some (.done x)) :
  ∀(k i:Nat) (n:Int),i+k=N->∃ x,Ac f (n,(i:Int))=some x
 | 0,i,n,h=>by
  obtain rfl:i=N:=by omega
  obtain⟨x,hx⟩:=hd n;exact⟨x,Am hx⟩
 | k+1,i,n,h=>by
  rcases hn n i (by omega) with⟨m,hm⟩|⟨x,hx⟩
  ·obtain⟨x,hx⟩:=Tt N f hn hd k (i+1) m (by omega);exact⟨x,by rw[Aq hm];exact hx⟩
  ·exact⟨x,Am hx⟩
theorem DJ{α X:Type}(l:List α)(d:α)(wt:α->Nat)(out:Int->X)(f:Int×Int->Option (LR (Int×Int) X))
  (hn:∀(n i:Nat),i<l.length->f (w64 n,(i:Int))=some (.next (w64 ((n+wt (l.getD i d):Nat):Int),((i+1:Nat):Int)))) (hd:∀ n:Int,f (n,(l.length:Int))=some (.done (out n))) :
  ∀(k i n:Nat),i+k=l.length->Ac f (w64 n,(i:Int))=some (out (w64 ((n+((l.drop i).map wt).sum:Nat):Int)))
 | 0,i,n,h=>by
  obtain rfl:i=l.length:=by omega
  rw[Am (hd _)]
  simp
 | k+1,i,n,h=>by
  have hi:i<l.length:=by omega
  have hdr:l.drop i=l.getD i d::l.drop (i+1):=by simp_all
  rw[Aq (hn n i hi),DJ l d wt out f hn hd k _ _ (by omega),hdr,Cq,SS,W5]
theorem Vb(a b:Int):w64 (w64 a+b)=w64 (a+b):=by
 simp only[IntKind.wrap,IntKind.bits,IntKind.signed]
 simp
 split<;>split<;>omega
theorem Ag{α:Type}{l:List α}{i:Nat}{d:α}(h:i<l.length):l.getD i d∈l:=by grind
theorem Ai{i n:Nat}(h:i<n):A1 (i:Int) n:=⟨by omega,by exact_mod_cast h⟩
theorem A6{i n:Nat}(h:i<n)(hn:n<9223372036854775808):w64 ((i:Int)+1)=(i:Int)+1:=He (by omega) (by omega)
def oq(l:List Int):Prop:=∀ x∈l,0<=x/\x<=2147483647
theorem De{S X:Type}(f:S->Option (LR S X))(T:Nat->S)(x:X):∀(n:Nat),(∀ i,i<n->f (T i)=some (.next (T (i+1))))->f (T n)=some (.done x)->Ac f (T 0)=some x:=by
 suffices h:∀(k i n:Nat),i+k=n->(∀ j,i<=j->j<n->f (T j)=some (.next (T (j+1))))->f (T n)=some _->Ac f (T i)=some x from
  λn h1 h2=>h n 0 n (by omega) (λj _ hj=>h1 j hj) h2
 intro k
 induction k with
 | zero=>
  intro i n hi _ h2
  have hin:n=i:=by omega
  subst hin;exact Am h2
 | succ k ih=>intro i n hi h1 h2;rw[Aq (h1 i (zzL6 _) (by omega))];exact ih _ n (by omega) (λj hj hj'=>h1 j (by omega) hj') h2
theorem UY{S X:Type}(f:S->Option (LR S X))(T:Nat->S):∀(n:Nat),(∀ i,i<n->f (T i)=some (.next (T (i+1))))->Ac f (T 0)=Ac f (T n):=by
 intro n
 induction n with
 | zero=>intro _;rfl
 | succ n ih=>intro h;rw[ih (λi hi=>h i (by omega)),Aq (h n (by omega))]
theorem H8{S X:Type}(f:S->Option (LR S X))(T:Nat->S)(p:Nat->Bool)(yes no:X)(n:Nat)(hn:∀ i,i<n->p i=true->f (T i)=some (.next (T (i+1))))(hf:∀ i,i<n->p i=false->f (T i)=some (.done no))
  (he:f (T n)=some (.done yes)):Ac f (T 0)=some (bif (List.range n).all p then yes else no):=by
 cases hall:(List.range n).all p with
 | true=>
  exact De f T yes n (λi hi=>hn i hi (zzL27.1 hall i (zzL41.2 hi))) he
 | false=>
  have hex:∃ i,i<n/\p i=false:=by
   grind
  obtain⟨m,hm⟩:=hex
  have key:∀ m,m<n->p m=false->∃ k,k<n/\p k=false/\∀ j,j<k->p j=true:=by
   intro m
   induction m using Nat.strongRecOn with
   | ind m ih=>
    intro h1 h2
    by_cases h:∃ j,j<m/\p j=false
    ·obtain⟨j,hj,hpj⟩:=h;exact ih j hj (by omega) hpj
    ·grind
  obtain⟨k,hk,hpk,hlt⟩:=key m hm.1 hm.2;rw[UY f T k (λi hi=>hn i (by omega) (hlt i hi))];exact Am (hf k hk hpk)
theorem all_range{n:Nat}{p:Nat->Bool}:(List.range n).all p=true↔∀ i,i<n->p i=true:=by
 grind
theorem Ak(i:Nat):((i:Int)).toNat=i:=Dy i
theorem w1{i:Nat}(h:i<4611686018427387904):w64 ((i:Int)+1)=((i+1:Nat):Int):=by rw[He (by omega) (by omega)];omega
theorem Bt{i n:Nat}(h:i<n):decide (((i:Nat):Int)<((n:Nat):Int))=true:=by simpa using h
theorem Co{n:Nat}:decide (((n:Nat):Int)<((n:Nat):Int))=false:=by simp
theorem Fy{i n:Nat}(h:i<n):A1 ((i:Nat):Int) n:=Ai h
theorem yh{x:Int}{n:Nat}(h0:0<=x)(h1:x<n):A1 x n:=⟨h0,h1⟩
structure bp(o:B2):Prop where
 imm:0<=o.Imm/\o.Imm<18446744073709551616
 args:o.Args.length<=200
theorem gp(x:Int×Int)(n:Int)(h:n=2\/n=4\/n=8\/n=16):Cd [x] n=some (List.replicate n.toNat x):=by
 let d:Int×Int:=(0,0)
 rcases h with rfl|rfl|rfl|rfl
 ·have e:Cd [x] 2=(Ac Di (1,[x,d])).bind some:=by kernel_rfl
  rw[e,Aq (s':=(2,[x,x])) (by kernel_rfl)]
  rfl
 ·have e:Cd [x] 4=(Ac Di (1,[x,d,d,d])).bind some:=by kernel_rfl
  rw[e,Aq (s':=(2,[x,x,d,d])) (by kernel_rfl),Aq (s':=(4,[x,x,x,x])) (by kernel_rfl)]
  rfl
 ·have e:Cd [x] 8=(Ac Di (1,[x,d,d,d,d,d,d,d])).bind some:=by kernel_rfl
  rw[e,Aq (s':=(2,[x,x,d,d,d,d,d,d])) (by kernel_rfl),Aq (s':=(4,[x,x,x,x,d,d,d,d])) (by kernel_rfl),Aq (s':=(8,[x,x,x,x,x,x,x,x])) (by kernel_rfl)]
  rfl
 ·have e:Cd [x] 16=(Ac Di (1,[x,d,d,d,d,d,d,d,d,d,d,d,d,d,d,d])).bind some:=by kernel_rfl
  rw[e,Aq (s':=(2,[x,x,d,d,d,d,d,d,d,d,d,d,d,d,d,d])) (by kernel_rfl),Aq (s':=(4,[x,x,x,x,d,d,d,d,d,d,d,d,d,d,d,d])) (by kernel_rfl),
   Aq (s':=(8,[x,x,x,x,x,x,x,x,d,d,d,d,d,d,d,d])) (by kernel_rfl),Aq (s':=(16,List.replicate 16 x)) (by kernel_rfl)]
  rfl
theorem o7(l:List (Int×Int)):It l=some l:=rfl
theorem PY(o:B2)(hs:Xr o.Bits o.Lanes=true)(hk:cm o.Kind=true)(hf:sfitS o.Kind o.Bits o.Lanes=true):Qw o=some (Ry o):=by
 have hl:=shape_lanes hs;obtain⟨k,b,n,d,args,i⟩:=o;simp only at hs hk hf hl ⊢;rcases kinds k with rfl|rfl|rfl|rfl|rfl|rfl|rfl|rfl|rfl|rfl|rfl|rfl|rfl|rfl|rfl|rfl|rfl|rfl|rfl|rfl|rfl|rfl|rfl|h
 case inr.inr.inr.inr.inr.inr.inr.inr.inr.inr.inr.inr.inr.inr.inr.inr.inr.inr.inr.inr.inr.inl=>
  have h1:n≠1:=by rintro rfl;simp[sfitS]at hf
  have h4:n=2\/n=4\/n=8\/n=16:=by omega
  unfold Qw;simp only[gp _ _ h4,o7];rcases h4 with rfl|rfl|rfl|rfl<;>rfl
 all_goals first
  | rfl
  | (rw[DG h]at hk;cases hk)
  | (rcases hl with rfl|rfl|rfl|rfl|rfl<;>first|rfl|(simp[sfitS]at hf))
theorem ZV(o:B2)(hs:Xr o.Bits o.Lanes=true)(hk:cm o.Kind=true)(hf:sfitS o.Kind o.Bits o.Lanes=true)(hl:o.Args.length<=200):Qs o=some (((o.Args.length:Int)==Se o.Kind o.Lanes)&&o.Args.all valS):=by
 unfold Qs;rw[PY o hs hk hf]
 have hn:0<=Se o.Kind o.Lanes:=by
  have:=shape_lanes hs;unfold Se
  cases(o.Kind==0)<;>cases(o.Kind==13 || o.Kind==18 || o.Kind==19)<;>cases(o.Kind==14 || o.Kind==15 || o.Kind==16 || o.Kind==22)<;>cases(o.Kind==20)<;>cases(o.Kind==21)<;>simp<;>omega
 have hlen:(Ry o).length=Se o.Kind o.Lanes:=by simp[Ry];omega
 simp only[An,hlen]
 by_cases he:o.Args.length=Se o.Kind o.Lanes
 ·have e1:(o.Args.length==Se o.Kind o.Lanes)=true:=by simpa using he
  have e2:(o.Args.length !=Se o.Kind o.Lanes)=false:=by simpa using he
  rw[e1,e2]
  have hloop:=Hi o.Args 0 valS (Kl o) (.inl ()) (.inr false) (λi hi hp=>by
    unfold Kl
    have:decide (i<(o.Args.length:Int))=true:=by simpa using hi
    simp only[this,Ah,Aa (Ai hi),Dy,Xq,An,hp,D6,Au,A6 hi (by omega)]) (λi hi hp=>by
    unfold Kl
    have:decide (i<(o.Args.length:Int))=true:=by simpa using hi
    simp only[this,Ah,Aa (Ai hi),Dy,Xq,An,hp,L5]) (by
    unfold Kl
    simp) o.Args.length 0 (by omega)
  rw[show 0=((0:Nat):Int) from rfl,hloop,Ob]
  cases o.Args.all valS<;>rfl
 ·grind
theorem fh{k b n:Int}(hs:Xr b n=true):((Xp k b n).1==0)=(k==17 || k==19):=by
 have hb:(b==0)=false:=by
  have:=width_cases (BZ hs);simp;omega
 unfold Xp
 cases(k==17 || k==19)<;>cases(k==10 || k==11 || k==12)<;>cases(k==22)<;>simp_all
theorem ZW(o:B2)(hs:Xr o.Bits o.Lanes=true):Qt o=some (dstS o.Kind o.Dst):=by
 unfold Qt;simp only[PW,An,fh hs,Xq,dstS]
 cases(o.Kind==17 || o.Kind==19)<;>rfl
theorem PV(o:B2)(ho:bp o):Rr o=some (Gs o):=by
 unfold Rr Gs;simp only[LK,ft,PX]
 cases hs:Xr _ _ with
 | false=>cases cm _<;>rfl
 | true=>
  have hl:=shape_lanes hs
  cases hk:cm _ with
  | false=>rfl
  | true=>
   rw[ZX o (BZ hs) (by omega) ho.imm];simp only[ZW o hs]
   cases hf:sfitS _ _ _ with
   | false=>rfl
   | true=>
    rw[ZV o hs hk hf ho.args]
    generalize ifitS _ _ _ _=p
    generalize (o.Args.length==Se _ _)=q
    generalize o.Args.all _=r
    generalize dstS _ _=s
    cases p<;>cases q<;>cases r<;>cases s<;>rfl
theorem pj(o:B2):Km o=some (bif cm o.Kind then Se o.Kind o.Lanes else -1):=by
 obtain⟨k,b,n,d,args,i⟩:=o;rcases kinds k with rfl|rfl|rfl|rfl|rfl|rfl|rfl|rfl|rfl|rfl|rfl|rfl|rfl|rfl|rfl|rfl|rfl|rfl|rfl|rfl|rfl|rfl|rfl|h
 any_goals rfl
 unfold Km;simp[bG h,DG h]
theorem bI(o:B2)(ho:bp o):G9 o=some (Gs o):=by
 unfold G9 Gs;simp only[ly]
 cases hs:Xr o.Bits o.Lanes with
 | false=>rfl
 | true=>
  simp only[pj,D6,Ve,Ah, An]
  cases hk:cm o.Kind with
  | false=>
   grind
  | true=>
   simp only[Ah];rw[pk o hs hk ho.imm]
   by_cases he:o.Args.length=Se o.Kind o.Lanes
   ·have e1:(o.Args.length==Se o.Kind o.Lanes)=true:=by simpa using he
    have e2:(Se o.Kind o.Lanes !=o.Args.length)=false:=by simpa using he.symm
    rw[e1,e2]
    have hloop:=Hi o.Args 0 valS (Gy o) (.inl ()) (.inr false) (λi hi hp=>by
      unfold Gy
      have:decide (i<(o.Args.length:Int))=true:=by simpa using hi
      simp only[this,Ah,Aa (Ai hi),Dy,DQ,An,hp,D6,Au,A6 hi (by have:=ho.args;omega)]) (λi hi hp=>by
      unfold Gy
      have:decide ((i:Int)<o.Args.length)=true:=by simpa using hi
      simp only[this,Ah,Aa (Ai hi),Dy,DQ,An,hp,L5]) (by
      unfold Gy
      simp) o.Args.length 0 (by omega)
    rw[show 0=((0:Nat):Int) from rfl,hloop,Ob];simp only[DQ, dstS]
    generalize sfitS o.Kind o.Bits o.Lanes=p
    generalize ifitS o.Kind o.Bits o.Lanes o.Imm=q
    generalize o.Args.all valS=r
    cases p<;>cases q<;>cases r<;>cases(o.Kind==17)<;>cases(o.Kind==19)<;>rfl
   ·grind
theorem Xx{o:B2}(h:Gs o=true):Xr o.Bits o.Lanes=true/\cm o.Kind=true/\sfitS o.Kind o.Bits o.Lanes=true/\ifitS o.Kind o.Bits o.Lanes o.Imm=true/\(o.Args.length:Int)=Se o.Kind o.Lanes/\o.Args.all valS=true/\dstS o.Kind o.Dst=true:=by
 simp only[Gs,A5,zzL63]at h;exact⟨h.1.1,h.1.2.1.1.1,h.1.2.1.1.2,h.1.2.1.2,h.1.2.2,h.2.1,h.2.2⟩
theorem fu(o:B2)(ho:bp o):Qr o=some (bif Gs o then Ry o else[]):=by
 unfold Qr;rw[PV o ho]
 cases hm:Gs o with
 | false=>rfl
 | true=>
  obtain⟨h1,h2,h3,_⟩:=Xx hm;simp only[PY o h1 h2 h3]
  rfl
theorem fq(o:B2)(ho:bp o):Qq o=some (bif Gs o then Xp o.Kind o.Bits o.Lanes else(0,0)):=by
 unfold Qq;rw[PV o ho];simp only[ PW]
 cases Gs o<;>rfl
theorem lx(o:B2)(ho:bp o):Hk o=some (bif Gs o then Xp o.Kind o.Bits o.Lanes else(0,0)):=by
 unfold Hk;rw[bI o ho]
 cases hm:Gs o with
 | false=>rfl
 | true=>
  obtain⟨_,h2,_⟩:=Xx hm;obtain⟨k,b,n,d,args,i⟩:=o;rcases kinds k with rfl|rfl|rfl|rfl|rfl|rfl|rfl|rfl|rfl|rfl|rfl|rfl|rfl|rfl|rfl|rfl|rfl|rfl|rfl|rfl|rfl|rfl|rfl|h
  any_goals rfl
  rw[DG h]at h2;cases h2
theorem lz(o:B2)(ho:bp o):Hl o=some (bif Gs o then Ry o else[]):=by
 unfold Hl;rw[bI o ho]
 cases hm:Gs o with
 | false=>rfl
 | true=>
  obtain⟨h1,h2,h3,h4,h5,_⟩:=Xx hm
  have hloop:=QE (X:=List (Int×Int)) o.Args.length (PI o) (Hz o) id (λl i hi hl=>by
   unfold Hz
   have e0:decide ((i:Int)<(o.Args.length:Int))=true:=by simpa using hi
   have e1:((i:Int)==0)=Nat.beq i 0:=by cases i<;>rfl
   have e2:((i:Int)==1)=Nat.beq i 1:=by
    rcases i with _|_|i
    ·rfl
    ·rfl
    ·have:¬ (((i+1+1:Nat):Int)=1):=by omega
     simp only[Nat.beq]
     simpa using this
   have hr:l.length+([PI o i]:List (Int×Int)).length<=room:=by have:=ho.args;simp[room];omega
   simp only[e0,e1,e2,Ah];have e3 :=A6 hi (by have:=ho.args;omega);simp only[e3]
   have key:∀(x:Option (Int×Int)),x=some (PI o i)->(x.bind λx23=>A0 (l.length+([(x23.1,x23.2)]:List (Int×Int)).length<=room) (some (LR.next (l++([(x23.1,x23.2)]:List (Int×Int)),(i:Int)+1))))=(some (LR.next (l++[PI o i],(i:Int)+1)):Option (LR _ (List (Int×Int)))):=by
    rintro x rfl;exact Aa hr
   refine key _ ?_;clear key hr;obtain⟨k,b,n,d,args,im⟩:=o;rcases kinds k with rfl|rfl|rfl|rfl|rfl|rfl|rfl|rfl|rfl|rfl|rfl|rfl|rfl|rfl|rfl|rfl|rfl|rfl|rfl|rfl|rfl|rfl|rfl|h
   all_goals first
    | rfl
    | (rw[DG h]at h2;cases h2)
    | (rcases i with _|_|i<;>rfl)) (λl hl=>by
   unfold Hz
   simp) o.Args.length 0 [] (by omega) rfl
  rw[show(0:Int)=((0:Nat):Int) from rfl];simp only[D6,Au,hloop,An,id];rw[Ry,<- h5]
  rfl
theorem ww{n:Int}(h:(Lit.int .u64 n).wf=true):0<=n/\n<18446744073709551616:=by simp[Lit.wf,IntKind.min,IntKind.max,IntKind.bits,IntKind.signed]at h;omega
abbrev Iall(w:World):Nat->Nat->Prop:=λb o=>∃ u,w.cell? ⟨b,o,none⟩=some u
structure mf(w:World)(cs:List Value)(avs:List AV):Prop where
 len:cs.length=avs.length
 one:∀ j,j<avs.length->(cs.getD j undef).oneCell'=true
 rep:∀ j,j<avs.length->RepV (Iall w) w (cs.getD j undef) (avs.getD j .any)
structure Opens(P:Program)(t:TypeId){α:Type}(e:α->List AV)(ok:α->Prop):Prop where
 get:∀{H:Type} {enc:TypeId×Value->H} {w:World} {base:Nat} {spare:Nat->Bool} {held:Bool} {fuel:Nat} {cs:List Value} {x:DataW H×List MemPlace},
  DataW.trod enc P w base spare held fuel t cs=some x->∃ a,ok a/\mf w cs (e a)
theorem PC{w:World}{v:Value}{x:AV}(h1:v.oneCell'=true)(h:RepV (Iall w) w v x):mf w [v] [x]:=
 ⟨rfl,λj hj=>(by
   grind),λj hj=>(by
   grind)⟩
theorem XG{P:Program}{t:TypeId}{k:IntKind}{e:Int->List AV}(ht:P.underlying t=some (.int k))(he:∀ n,e n=[.int k n]):Opens P t e (λn=>(Lit.int k n).wf=true):=by
 refine⟨?_⟩;intro H enc w base spare held fuel cs x h;obtain⟨n,rfl,rfl,hw⟩:=DataW.trod_int ht h;exact⟨n,hw,by rw[he];exact PC rfl (.int _ _)⟩
theorem fZ{w:World}{base:Nat}{a:Addr}{n:Nat}{cs:List Value}(h:w.cells? base a n=some cs):cs.length=n/\∀ i,i<n->w.cell? (a.add i)=some (cs.getD i undef):=by
 unfold World.cells? at h
 split at h
 ·have hl:=mapM_some_length h;simp at hl;refine⟨hl,λi hi=>?_⟩;have:=mapM_some_get h i i (by simp[hi]);rw[this];simp[ show i<cs.length by omega]
 ·cases h
theorem U6{P:Program}{t el:TypeId}{α:Type}{e:α->List AV}{ok:α->Prop}{sz:Nat}{d:α}{e':List α->List AV}(ht:P.underlying t=some (.slice el))(hs:P.cellsOf el=sz)(h1:1<=sz)(he:Opens P el e ok)(hlen:∀ a,(e a).length=sz)
  (he':∀ l,e' l=[AV.list sz e d l .none]):Opens P t e' (λl=>(∀ a∈l,ok a)/\l.length<=maxLen):=by
 refine⟨?_⟩;intro H enc w base spare held fuel cs x h;rcases DataW.trod_slice ht h with⟨rfl,rfl⟩|⟨a,len,cap,elems,rest,n,_,rfl,rfl,hb,hl,hm,hlen2,hel,_⟩
 ·exact⟨[],⟨by simp,by simp⟩,by rw[he'];exact PC rfl (.slice none 0 0 sz _ (λ_=>undef) (zzL6 _) (by simp) (λh=>by simp at h) (λ_=>rfl) (λj hj=>by simp at hj) (λi hi=>by simp at hi) (λi c hi=>by simp at hi))⟩
 ·have each:∀ i:Fin len,∃ b,ok b/\∃ cs,w.cells? base (a.add (i.1*sz)) sz=some cs/\mf w cs (e b):=λ⟨i,hi⟩=>by
   have:=hel i hi;rw[hs,P4 (by omega),zzL109]at this;obtain⟨cs,hcs,htr⟩:=this;obtain⟨b,hb,hr⟩:=he.get htr;exact⟨b,hb,cs,hcs,hr⟩
  let f:Fin len->α:=λi=>(each i).choose
  have hf:∀ i,ok (f i)/\∃ cs,w.cells? base (a.add (i.1*sz)) sz=some cs/\mf w cs (e (f i)):=λi=>(each i).choose_spec
  have hlf:(List.ofFn f).length=len:=by simp
  refine⟨List.ofFn f,⟨λb hb=>?_,by simp;omega⟩,?_⟩
  ·obtain⟨i,rfl⟩:=List.mem_ofFn.1 hb;exact(hf i).1
  rw[he'];refine PC rfl ?_
  have hcell0:∀ i (hi:i<len),∀ c,c<sz->∃ u,w.cell? ((a.add (i*sz)).add c)=some u/\u.oneCell'=true/\RepV (Iall w) w u ((e (f ⟨i,hi⟩)).getD c .any):=λi hi c hc=>by
   obtain⟨_,cs,hcs,hr⟩:=hf ⟨i,hi⟩;obtain⟨hl,hg⟩:=fZ hcs;exact⟨_,hg c hc,hr.one c (by rw[hlen];exact hc),hr.rep c (by rw[hlen];exact hc)⟩
  have hspot:0<len->a.spot=none:=λhp=>by
   obtain⟨u,hu,_⟩:=hcell0 0 hp 0 h1;have h2:=World.cell?_spot hu
   simpa [Addr.add] using h2
  have hcell:∀ i (hi:i<len),∀ c,c<sz->∃ u,w.cell? ⟨a.block,a.off+(i*sz+c),none⟩=some u/\u.oneCell'=true/\RepV (Iall w) w u ((e (f ⟨i,hi⟩)).getD c .any):=λi hi c hc=>by
   obtain⟨u,hu,h1,h2⟩:=hcell0 i hi c hc;have hsp:=hspot (by omega);rw[Mk hsp,Pa]at hu;exact⟨u,by rw[<- W5];exact hu,h1,h2⟩
  have hdm:∀ j,j<len*sz->∃ i c,i<len/\c<sz/\j=i*sz+c:=λj hj=>by
   refine⟨j / sz,j % sz,(ST (by omega)).2 hj,Nat.mod_lt _ (by omega),?_⟩;rw[CK];exact(IG j sz).symm
  unfold AV.list;rw[hlf];refine .slice (some a) len cap sz _ (λj=>(w.cell? ⟨a.block,a.off+j,none⟩).getD undef) hl hm (λhp=>⟨a,rfl,hspot hp,λj hj=>?_,λj hj=>?_⟩) (λh=>by cases h) (λj hj=>?_) (λi hi=>hlen _) (λi c hi hc=>?_)
  ·obtain⟨i,c,hi,hc,rfl⟩:=hdm j hj;obtain⟨u,hu,_⟩:=hcell i hi c hc;exact⟨u,hu⟩
  ·obtain⟨i,c,hi,hc,rfl⟩:=hdm j hj;obtain⟨u,hu,_⟩:=hcell i hi c hc;rw[hu];rfl
  ·obtain⟨i,c,hi,hc,rfl⟩:=hdm j hj;obtain⟨u,hu,h1,_⟩:=hcell i hi c hc;simp only[hu];exact h1
  ·grind
structure YU(P:Program)(fs:List Field)(off N:Nat){α:Type}(e:α->List AV)(ok:α->Prop):Prop where
 get:∀{H:Type} {enc:TypeId×Value->H} {w:World} {base:Nat} {spare:Nat->Bool} {held:Bool} {n:Nat} {cs:List Value},cs.length=N->
  (∀ f∈fs,∃ x,DataW.trod enc P w base spare held n f.type ((cs.drop f.offset).take (P.cellsOf f.type))=some x)->∃ a,ok a/\mf w (cs.drop off) (e a)
theorem T7{P:Program}{N:Nat}:YU P [] N N (λ_:Unit=>[]) (λ_=>True):=by
 refine⟨?_⟩;intro H enc w base spare held n cs hN _;rw[List.drop_eq_nil_of_le (by omega)];exact⟨(),trivial,rfl,(λj hj=>by simp at hj),(λj hj=>by simp at hj)⟩
theorem Cw{P:Program}{f:Field}{fs:List Field}{off sz N:Nat}{α β:Type}{e:α->List AV}{ok:α->Prop}{e':β->List AV}{ok':β->Prop}(hoff:f.offset=off)(hsz:P.cellsOf f.type=sz)(hle:off+sz<=N)
  (h:Opens P f.type e ok) (h':YU P fs (off+sz) N e' ok'):YU P (f::fs) off N (λp:α×β=>e p.1++e' p.2) (λp=>ok p.1/\ok' p.2):=by
 refine⟨?_⟩;intro H enc w base spare held n cs hN hall;obtain⟨x,hx⟩:=hall f (by simp);rw[hoff,hsz]at hx;obtain⟨a,ha,hr⟩:=h.get hx;obtain⟨b,hb,hr'⟩:=h'.get hN (λg hg=>hall g (by simp[hg]))
 have hl:(e a).length=sz:=by rw[<- hr.len];simp;omega
 have hl':(e' b).length=N-(off+sz):=by rw[<- hr'.len];simp;omega
 have hsplit:cs.drop off=(cs.drop off).take sz++cs.drop (off+sz):=by rw[<- List.drop_drop];exact(List.take_append_drop sz _).symm
 have hl2:((cs.drop off).take sz).length=sz:=by simp;omega
 refine⟨(a,b),⟨ha,hb⟩,?_,λj hj=>?_,λj hj=>?_⟩
 ·simp[hl,hl'];omega
 ·rw[hsplit];replace hj:j<(e a++e' b).length:=hj
  show _
  by_cases hlt:j<sz
  ·have:=hr.one j (by omega);rwa[List.getD,Ug (by omega)]
  ·have:=hr'.one (j-sz) (by simp at hj;omega);rwa[List.getD,Vc (by omega),hl2]
 ·rw[hsplit];replace hj:j<(e a++e' b).length:=hj
  show RepV (Iall w) w _ ((e a++e' b).getD j .any)
  by_cases hlt:j<sz
  ·have:=hr.rep j (by omega);rwa[List.getD,Ug (by omega),List.getD,Ug (by omega)]
  ·have:=hr'.rep (j-sz) (by simp at hj;omega);rwa[List.getD,Vc (by omega),hl2,List.getD,Vc (by omega),hl]
theorem Q2{P:Program}{t:TypeId}{fs:Array Field}{N:Nat}{α:Type}{e:α->List AV}{ok:α->Prop}(ht:P.underlying t=some (.struct fs))(hN:P.cellsOf t=N)(h:YU P fs.toList 0 N e ok):Opens P t e ok:=by
 refine⟨?_⟩;intro H enc w base spare held fuel cs x hx;obtain⟨xs,n,_,_,hl,hxl,hall⟩:=DataW.trod_struct ht hx
 have:=h.get  (hl.trans hN)      (λf hf=>by
  obtain⟨i,hi,rfl⟩:=List.mem_iff_getElem.1 hf
  have hi' :=by simpa using hi
  have:=hall i fs.toList[i] (by simp[hi']);rw[P4 (by omega)]at this
  exact⟨_,this⟩)
 simpa using this
theorem Opens.to{P:Program}{t:TypeId}{α β:Type}{e:α->List AV}{ok:α->Prop}(h:Opens P t e ok){e':β->List AV}{ok':β->Prop}(g:α->β)(he:∀ a,e' (g a)=e a)(hok:∀ a,ok a->ok' (g a)):Opens P t e' ok':=by
 refine⟨?_⟩;intro H enc w base spare held fuel cs x hx;obtain⟨a,ha,hr⟩:=h.get hx;exact⟨g a,hok a ha,by rw[he];exact hr⟩
theorem arg_agg{P:Program}{t:TypeId}{α:Type}{e:α->List AV}{ok:α->Prop}(h:Opens P t e ok){H:Type}{enc:TypeId×Value->H}{w:World}{base:Nat}{spare:Nat->Bool}{held:Bool}{cs:Array Value}{d:DataW H}{ps:List MemPlace}
  (hd:DataW.Trod enc P w base spare held t (.agg cs) d ps):∃ a,ok a/\RepV (Iall w) w (.agg cs) (.agg (e a)):=by
 obtain⟨fuel,hf⟩:=hd;obtain⟨a,ha,hr⟩:=h.get hf;have e1:(Value.agg cs).cells.toList=cs.toList:=rfl;rw[e1]at hr
 have e2:∀ j,cs.toList.getD j undef=cs.getD j undef:=λj=>by simp_all
 refine⟨a,ha,.agg _ _ (by simpa using hr.len) (λj hj=>?_) (λj hj=>?_)⟩
 ·rw[<- e2];exact hr.one j hj
 ·rw[<- e2];exact hr.rep j hj
def BB(n:Int):Prop:=(Lit.int .i64 n).wf=true
theorem VK:Opens Tryz.prog 3 Ap BB:=XG Tryz.underlying3 (λ_=>rfl)
def JM(l:List (Int)):Prop:=(∀ a∈l,BB a)/\l.length<=maxLen
theorem dg:Opens Tryz.prog 22 Lh JM:=U6 (d:=(0:Int)) Tryz.underlying22 (by kernel_rfl) (by decide) VK (λ_=>rfl) (λ_=>rfl)
def pS(a:Ba):Prop:=BB a.Bits/\BB a.Dst/\JM a.From/\JM a.Args/\True
theorem y0:Opens Tryz.prog 67 Eo pS:=Opens.to (Q2 (N:=4) Tryz.underlying67 (by kernel_rfl) (Cw (off:=0) (sz:=1) (N:=4) rfl (by kernel_rfl) (by decide) VK (Cw (off:=1) (sz:=1) (N:=4) rfl (by kernel_rfl) (by decide) VK (Cw (off:=2) (sz:=1) (N:=4) rfl (by kernel_rfl) (by decide) dg (Cw (off:=3) (sz:=1) (N:=4) rfl (by kernel_rfl) (by decide) dg T7))))) (λp=>⟨p.1,p.2.1,p.2.2.1,p.2.2.2.1⟩) (λ_=>rfl) (λ_ h=>h)
def je(l:List (Ba)):Prop:=(∀ a∈l,pS a)/\l.length<=maxLen
theorem yw:Opens Tryz.prog 59 wQ je:=U6 (d:=(default:Ba)) Tryz.underlying59 (by kernel_rfl) (by decide) y0 (λ_=>rfl) (λ_=>rfl)
def uv(n:Int):Prop:=(Lit.int .u64 n).wf=true
theorem yv:Opens Tryz.prog 44 Aah uv:=XG Tryz.underlying44 (λ_=>rfl)
def uu(a:B2):Prop:=BB a.Kind/\BB a.Bits/\BB a.Lanes/\BB a.Dst/\JM a.Args/\uv a.Imm/\True
theorem zA:Opens Tryz.prog 70 J6 uu:=Opens.to (Q2 (N:=6) Tryz.underlying70 (by kernel_rfl) (Cw (off:=0) (sz:=1) (N:=6) rfl (by kernel_rfl) (by decide) VK (Cw (off:=1) (sz:=1) (N:=6) rfl (by kernel_rfl) (by decide) VK (Cw (off:=2) (sz:=1) (N:=6) rfl (by kernel_rfl) (by decide) VK (Cw (off:=3) (sz:=1) (N:=6) rfl (by kernel_rfl) (by decide) VK (Cw (off:=4) (sz:=1) (N:=6) rfl (by kernel_rfl) (by decide) dg (Cw (off:=5) (sz:=1) (N:=6) rfl (by kernel_rfl) (by decide) yv T7))))))) (λp=>⟨p.1,p.2.1,p.2.2.1,p.2.2.2.1,p.2.2.2.2.1,p.2.2.2.2.2.1⟩) (λ_=>rfl) (λ_ h=>h)
def pO(l:List (B2)):Prop:=(∀ a∈l,uu a)/\l.length<=maxLen
theorem yx:Opens Tryz.prog 60 WH pO:=U6 (d:=(default:B2)) Tryz.underlying60 (by kernel_rfl) (by decide) zA (λ_=>rfl) (λ_=>rfl)
def pR(a:Kb):Prop:=BB a.Kind/\BB a.Arg/\JM a.To/\True
theorem yy:Opens Tryz.prog 62 jJ pR:=Opens.to (Q2 (N:=3) Tryz.underlying62 (by kernel_rfl) (Cw (off:=0) (sz:=1) (N:=3) rfl (by kernel_rfl) (by decide) VK (Cw (off:=1) (sz:=1) (N:=3) rfl (by kernel_rfl) (by decide) VK (Cw (off:=2) (sz:=1) (N:=3) rfl (by kernel_rfl) (by decide) dg T7)))) (λp=>⟨p.1,p.2.1,p.2.2.1⟩) (λ_=>rfl) (λ_ h=>h)
def dS(a:Ae):Prop:=je a.Phis/\pO a.Ops/\pR a.End/\True
theorem yz:Opens Tryz.prog 64 Cg dS:=Opens.to (Q2 (N:=5) Tryz.underlying64 (by kernel_rfl) (Cw (off:=0) (sz:=1) (N:=5) rfl (by kernel_rfl) (by decide) yw (Cw (off:=1) (sz:=1) (N:=5) rfl (by kernel_rfl) (by decide) yx (Cw (off:=2) (sz:=3) (N:=5) rfl (by kernel_rfl) (by decide) yy T7)))) (λp=>⟨p.1,p.2.1,p.2.2.1⟩) (λ_=>rfl) (λ_ h=>h)
def XD(l:List (Ae)):Prop:=(∀ a∈l,dS a)/\l.length<=maxLen
theorem yu:Opens Tryz.prog 23 oW XD:=U6 (d:=(default:Ae)) Tryz.underlying23 (by kernel_rfl) (by decide) yz (λ_=>rfl) (λ_=>rfl)
def okTFunc(a:TFunc):Prop:=JM a.Params/\BB a.Ret/\XD a.Blocks/\True
theorem op_25:Opens Tryz.prog 25 eTFunc okTFunc:=Opens.to (Q2 (N:=3) Tryz.underlying25 (by kernel_rfl) (Cw (off:=0) (sz:=1) (N:=3) rfl (by kernel_rfl) (by decide) dg (Cw (off:=1) (sz:=1) (N:=3) rfl (by kernel_rfl) (by decide) VK (Cw (off:=2) (sz:=1) (N:=3) rfl (by kernel_rfl) (by decide) yu T7)))) (λp=>⟨p.1,p.2.1,p.2.2.1⟩) (λ_=>rfl) (λ_ h=>h)
def numB(n:Int):Bool:=decide (0<=n)&&decide (n<=2147483647)
def listB(l:List Int):Bool:=l.all numB&&decide (l.length<=64)
def FN(p:Ba):Bool:=numB p.Bits&&numB p.Dst&&listB p.From&&listB p.Args
def eg(o:B2):Bool:=numB o.Kind&&numB o.Bits&&numB o.Lanes&&numB o.Dst&&listB o.Args
def cW(e:Kb):Bool:=numB e.Kind&&numB e.Arg&&listB e.To
def blockB(b:Ae):Bool:=b.Phis.all FN&&b.Ops.all eg&&cW b.End
def Dm(b:Ae):Nat:=b.Phis.length+b.Ops.length+1
def sizeN(f:TFunc):Nat:=(f.Blocks.map Dm).sum
def sizeW(f:TFunc):Int:=w64 (sizeN f)
def Qz(f:TFunc):Bool:=decide (1<=f.Blocks.length)&&decide (f.Blocks.length<=64)&&decide (f.Params.length<=16)&&listB f.Params&&numB f.Ret&&decide (sizeW f<=512)&&f.Blocks.all blockB
def cY(p:Ba):Nat:=1+p.From.length+p.Args.length
def cX(o:B2):Nat:=1+o.Args.length
def US(b:Ae):Nat:=1+b.End.To.length+(b.Phis.map cY).sum+(b.Ops.map cX).sum
def fe(f:TFunc):Nat:=f.Params.length+(f.Blocks.map US).sum
theorem Px:maxLen=9223372036854775807:=rfl
structure YS(f:TFunc):Prop where
 params:f.Params.length<=maxLen
 blocks:f.Blocks.length<=maxLen
 block:∀ b∈f.Blocks,b.Phis.length<=maxLen/\b.Ops.length<=maxLen/\b.End.To.length<=maxLen
 phi:∀ b∈f.Blocks,∀ p∈b.Phis,p.From.length<=maxLen/\p.Args.length<=maxLen
 op:∀ b∈f.Blocks,∀ o∈b.Ops,o.Args.length<=maxLen/\0<=o.Imm/\o.Imm<18446744073709551616
theorem inF{f:TFunc}(h:okTFunc f):YS f:=
 ⟨h.1.2,h.2.2.1.2,λb hb=>⟨(h.2.2.1.1 b hb).1.2,(h.2.2.1.1 b hb).2.1.2,(h.2.2.1.1 b hb).2.2.1.2.2.1.2⟩,λb hb p hp=>⟨((h.2.2.1.1 b hb).1.1 p hp).2.2.1.2,((h.2.2.1.1 b hb).1.1 p hp).2.2.2.1.2⟩,
  λb hb o ho=>⟨((h.2.2.1.1 b hb).2.1.1 o ho).2.2.2.2.1.2,ww ((h.2.2.1.1 b hb).2.1.1 o ho).2.2.2.2.2.1⟩⟩
theorem Yn{n:Nat}(h:n<9223372036854775808):w64 (n:Int)=n:=He (by omega) (by omega)
theorem K5{i n:Nat}(h:i<n)(hn:n<=maxLen):w64 ((i:Int)+1)=((i+1:Nat):Int):=by rw[Px]at hn;rw[show((i:Int)+1)=(i+1:Nat) by omega,Yn (by omega)]
theorem RZ(f:TFunc)(hf:YS f):∃ b,C6 f=some b:=by
 have h3:∃ x,Ac (C1 f) (f.Params.length,(0:Nat))=some x:=by
  refine Tt f.Blocks.length _ (λn i hi=>?_) (λn=>?_) _ 0 _ (F0 _)
  ·have hmem:=Ag (d:=default) hi;obtain⟨b1,b2,_⟩:=hf.block _ hmem;have hI :=Ai hi;unfold C1
   cases hc:(bif decide (i<(f.Blocks.length:Int)) then decide (n<=20000) else false) with
   | false=>right;simp only[hc];exact⟨_,rfl⟩
   | true=>
    left
    simp only[hc, Aa hI]
    obtain⟨x1,h1⟩:=Tt (f.Blocks.getD i default).Phis.length (Cz f i) (λn j hj=>by
      unfold Cz;simp only[Aa hI,Dy]
      cases hc:(bif decide (j<((f.Blocks.getD i default).Phis.length:Int)) then decide (n<=20000) else false) with
      | false=>grind
      | true=>left;simp only[ Aa (Ai hj),K5 hj b1];exact⟨_,rfl⟩) (λn=>by
      unfold Cz;simp only[Aa hI,Dy]
      have:decide ((f.Blocks.getD i default).Phis.length<((f.Blocks.getD i default).Phis.length:Int))=false:=by simp
      simp only[this];exact⟨_,rfl⟩) _ 0 (w64 (w64 (n+1)+(f.Blocks.getD i default).End.To.length)) (F0 _)
    obtain⟨x2,h2⟩:=Tt (f.Blocks.getD i default).Ops.length (C0 f i) (λn j hj=>by
      unfold C0;simp only[Aa hI,Dy]
      cases hc:(bif decide (j<((f.Blocks.getD i default).Ops.length:Int)) then decide (n<=20000) else false) with
      | false=>grind
      | true=>left;simp only[ Aa (Ai hj),K5 hj b2];exact⟨_,rfl⟩) (λn=>by
      unfold C0;simp only[Aa hI,Dy]
      have:decide ((f.Blocks.getD i default).Ops.length<((f.Blocks.getD i default).Ops.length:Int))=false:=by simp
      simp only[this];exact⟨_,rfl⟩) _ 0 x1 (F0 _)
    rw[show((0:Nat):Int)=0 from rfl]at h1 h2;simp only[Dy,h1,h2,An,K5 hi hf.blocks];exact⟨_,rfl⟩
  ·unfold C1
   have:decide ((f.Blocks.length:Int)<(f.Blocks.length:Int))=false:=by simp
   simp only[this];exact⟨_,rfl⟩
 obtain⟨x,hx⟩:=h3;unfold C6;rw[show((0:Nat):Int)=0 from rfl]at hx;rw[hx];exact⟨_,rfl⟩
theorem eC(f:TFunc)(hf:YS f)(h0:f.Params.length<=64)(hb:∀ b∈f.Blocks,b.End.To.length<=64/\(∀ p∈b.Phis,p.From.length<=64/\p.Args.length<=64)/\∀ o∈b.Ops,o.Args.length<=64):C6 f=some (decide (fe f<=20000)):=by
 have h3:=HH f.Blocks (default:Ae) US 20000 (C1 f) (λn i hi hn=>by
   have hmem:=Ag (d:=(default:Ae)) hi;obtain⟨b1,b2,b3⟩:=hf.block _ hmem;obtain⟨hTo,hPh,hOp⟩:=hb _ hmem;have hI1:A1 (i:Int) f.Blocks.length:=Ai hi
   have l1:=HH (f.Blocks.getD i default).Phis (default:Ba) cY 20000 (Cz f i) (λn j hj hn=>by
     have hm:=Ag (d:=(default:Ba)) hj;obtain⟨p1,p2⟩:=hPh _ hm
     have e1:decide ((j:Int)<((f.Blocks.getD i default).Phis.length:Int))=true:=by simpa using hj
     have e2:decide ((n:Int)<=20000)=true:=by simp;omega
     refine⟨n+cY ((f.Blocks.getD i default).Phis.getD j default),?_,λ_=>rfl,λh=>h⟩;unfold Cz;simp only[Aa hI1,Dy,e1,e2,Ah,Aa (Ai hj),K5 hj b1]
     congr 3
     rw[He (n:=(n:Int)+1) (by omega) (by omega),He (n:=(n:Int)+1+_) (by omega) (by omega),He (by omega) (by omega)];simp only[cY]
     omega) (λn j hj hd=>by
     unfold Cz;simp only[Aa hI1,Dy]
     have:(bif decide ((j:Int)<((f.Blocks.getD i default).Phis.length:Int)) then decide ((n:Int)<=20000) else false)=false:=by
      rcases hd with rfl|h
      ·simp
      ·simp;omega
     rw[this];rfl)
   have l2:=HH (f.Blocks.getD i default).Ops (default:B2) cX 20000 (C0 f i) (λn j hj hn=>by
     have hm:=Ag (d:=(default:B2)) hj;have p1:=hOp _ hm
     have e1:decide ((j:Int)<((f.Blocks.getD i default).Ops.length:Int))=true:=by simpa using hj
     have e2:decide ((n:Int)<=20000)=true:=by simp;omega
     refine⟨n+cX ((f.Blocks.getD i default).Ops.getD j default),?_,λ_=>rfl,λh=>h⟩;unfold C0;simp only[Aa hI1,Dy,e1,e2,Ah,Aa (Ai hj),K5 hj b2]
     congr 3
     rw[He (n:=(n:Int)+1) (by omega) (by omega),He (by omega) (by omega)];simp only[cX]
     omega) (λn j hj hd=>by
     unfold C0;simp only[Aa hI1,Dy]
     have:(bif decide ((j:Int)<((f.Blocks.getD i default).Ops.length:Int)) then decide ((n:Int)<=20000) else false)=false:=by
      rcases hd with rfl|h
      ·simp
      ·simp;omega
     rw[this];rfl)
   have e1:decide ((i:Int)<(f.Blocks.length:Int))=true:=by simpa using hi
   have e2:decide ((n:Int)<=20000)=true:=by simp;omega
   obtain⟨m1,q1,q2,q3⟩:=l1 _ 0 (n+1+(f.Blocks.getD i default).End.To.length) (F0 _);obtain⟨m2,q4,q5,q6⟩:=l2 _ 0 m1 (F0 _);rw[Ob]at q2 q3 q5 q6;refine⟨m2,?_,λhle=>?_,λhle=>?_⟩
   ·unfold C1;simp only[e1,e2,Ah,Aa hI1,Dy,K5 hi hf.blocks];rw[He (n:=(n:Int)+1) (by omega) (by omega),He (by omega) (by omega),show(n:Int)+1+((f.Blocks.getD i default).End.To.length:Int)=((n+1+(f.Blocks.getD i default).End.To.length:Nat):Int) by omega];rw[show((0:Nat):Int)=0 from rfl]at q1 q4;rw[q1,An,q4,An]
   ·simp only[US]at hle ⊢;have:=q2 (by omega);rw[q5 (by omega)];omega
   ·simp only[US];have h6:=q6 hle;have h3:=q3 (by omega);have:=q2 h3
    omega) (λn i hi hd=>by
   unfold C1
   have:(bif decide ((i:Int)<(f.Blocks.length:Int)) then decide ((n:Int)<=20000) else false)=false:=by
    rcases hd with rfl|h
    ·simp
    ·simp;omega
   simp only[this,Au]) f.Blocks.length 0 f.Params.length (F0 _)
 obtain⟨m,h1,h2,h4⟩:=h3;rw[Ob]at h2 h4;unfold C6;rw[show((0:Nat):Int)=0 from rfl]at h1;rw[h1,An]
 congr 1
 apply zzL76.2
 simp only[fe]
 constructor
 ·intro h;exact h4 (by omega)
 ·intro h;have:=h2 h;omega
theorem U8(n:Int):Bn n=some (numB n):=by unfold Bn numB;cases decide (0<=n)<;>rfl
theorem Sh(l:List Int)(h:l.length<=maxLen):Dq l=some (listB l):=by
 unfold Dq;rw[Px]at h
 have hloop:=Hi l 0 numB (Gc l) (.inl ()) (.inr false) (λi hi hp=>by
   unfold Gc
   have:decide (i<(l.length:Int))=true:=by simpa using hi
   simp only[this,Ah,Aa (Ai hi),Dy,U8,An,hp,D6,Au,A6 hi (by omega)]) (λi hi hp=>by
   unfold Gc
   have:decide (i<(l.length:Int))=true:=by simpa using hi
   simp only[this,Ah,Aa (Ai hi),Dy,U8,An,hp,L5]) (by
   unfold Gc
   simp) l.length 0 (by omega)
 rw[show(0:Int)=(0:Nat) from rfl,hloop,Ob];unfold listB
 have e:decide ((l.length:Int)<=64)=decide (l.length<=64):=by grind
 cases l.all _
 ·rfl
 ·simp[e]
theorem px(f:TFunc)(hf:YS f):Ko f=some (sizeW f):=by
 unfold Ko
 have hl:=DJ _ default Dm id (Ih f) (λn i hi=>by
   have e1:decide ((i:Int)<f.Blocks.length)=true:=by simpa using hi
   unfold Ih;simp only[e1,Ah,Aa (Ai hi),Dy,K5 hi hf.blocks]
   congr 3
   rw[Vb,Vb,Int.add_assoc _,Vb];unfold Dm
   congr 1
   omega) (λn=>by
   unfold Ih
   simp) _ 0 0 (F0 _)
 rw[show w64 _=0 from rfl,show((0:Nat):Int)=0 from rfl]at hl;rw[hl];simp[sizeN,sizeW]
theorem tx(f:TFunc)(hf:YS f):Iw f=some (Qz f):=by
 have hloop:Ac (E5 f) ((0:Nat):Int)=some (bif (f.Blocks.drop 0).all blockB then .inl () else .inr false):=by
  have step:∀ i:Nat,i<f.Blocks.length->E5 f (i:Int)=bif blockB (f.Blocks.getD i default) then some (.next ((i:Int)+1)) else some (.done (.inr false)):=λi hi=>by
   have hmem:=Ag (d:=(default:Ae)) hi;obtain⟨b1,b2,b3⟩:=hf.block _ hmem;have hPh:=hf.phi _ hmem;have hOp:=hf.op _ hmem;have hM:=Px
   have e0:decide ((i:Int)<(f.Blocks.length:Int))=true:=by simpa using hi
   have l1:=Hi (f.Blocks.getD i default).Phis (default:Ba) FN (Gz f i) (.inl ()) (.inr false) (λj hj hp=>by
     obtain⟨p1,p2⟩:=hPh _ (Ag (d:=(default:Ba)) hj)
     have e1:decide ((j:Int)<((f.Blocks.getD i default).Phis.length:Int))=true:=by simpa using hj
     unfold Gz;simp only[e1,Ah,Dy,Aa (Ai hj),U8,An,Sh _ p1,Sh _ p2,A6 hj (by omega)]
     revert hp
     unfold FN
     cases numB ((f.Blocks.getD i default).Phis.getD j default).Bits<;>cases numB ((f.Blocks.getD i default).Phis.getD j default).Dst<;>cases listB ((f.Blocks.getD i default).Phis.getD j default).From<;>cases listB ((f.Blocks.getD i default).Phis.getD j default).Args<;>simp) (λj hj hp=>by
     obtain⟨p1,p2⟩:=hPh _ (Ag (d:=(default:Ba)) hj)
     have e1:decide ((j:Int)<((f.Blocks.getD i default).Phis.length:Int))=true:=by simpa using hj
     unfold Gz;simp only[e1,Ah,Dy,Aa (Ai hj),U8,An,Sh _ p1,Sh _ p2,A6 hj (by omega)]
     revert hp
     unfold FN
     cases numB ((f.Blocks.getD i default).Phis.getD j default).Bits<;>cases numB ((f.Blocks.getD i default).Phis.getD j default).Dst<;>cases listB ((f.Blocks.getD i default).Phis.getD j default).From<;>cases listB ((f.Blocks.getD i default).Phis.getD j default).Args<;>simp) (by
     unfold Gz
     simp) _ 0 (F0 _)
   have l2:=Hi (f.Blocks.getD i default).Ops (default:B2) eg (G0 f i) (.inl ()) (.inr false) (λj hj hp=>by
     obtain⟨p1,_⟩:=hOp _ (Ag (d:=(default:B2)) hj)
     have e1:decide ((j:Int)<((f.Blocks.getD i default).Ops.length:Int))=true:=by simpa using hj
     unfold G0;simp only[e1,Ah,Dy,Aa (Ai hj),U8,An,Sh _ p1,A6 hj (by omega)]
     revert hp
     unfold eg
     cases numB ((f.Blocks.getD i default).Ops.getD j default).Kind<;>cases numB ((f.Blocks.getD i default).Ops.getD j default).Bits<;>cases numB ((f.Blocks.getD i default).Ops.getD j default).Lanes<;>cases numB ((f.Blocks.getD i default).Ops.getD j default).Dst<;>cases listB ((f.Blocks.getD i default).Ops.getD j default).Args<;>simp) (λj hj hp=>by
     obtain⟨p1,_⟩:=hOp _ (Ag (d:=(default:B2)) hj)
     have e1:decide ((j:Int)<((f.Blocks.getD i default).Ops.length:Int))=true:=by simpa using hj
     unfold G0;simp only[e1,Ah,Dy,Aa (Ai hj),U8,An,Sh _ p1,A6 hj (by omega)]
     revert hp
     unfold eg
     cases numB ((f.Blocks.getD i default).Ops.getD j default).Kind<;>cases numB ((f.Blocks.getD i default).Ops.getD j default).Bits<;>cases numB ((f.Blocks.getD i default).Ops.getD j default).Lanes<;>cases numB ((f.Blocks.getD i default).Ops.getD j default).Dst<;>cases listB ((f.Blocks.getD i default).Ops.getD j default).Args<;>simp) (by
     unfold G0
     simp) _ 0 (F0 _)
   rw[show((0:Nat):Int)=0 from rfl,Ob]at l1 l2;unfold E5;simp only[e0,Ah,Aa (Ai hi),l1,An];unfold blockB
   cases(f.Blocks.getD i default).Phis.all FN with
   | false=>rfl
   | true=>
    simp only[Ah,l2,An,Dy,U8,Sh _ b3,A6 hi (by have:=hf.blocks;omega)]
    cases(f.Blocks.getD i default).Ops.all eg with
    | false=>rfl
    | true=>
     unfold cW
     cases numB (f.Blocks.getD i default).End.Kind<;>cases numB (f.Blocks.getD i default).End.Arg<;>cases listB (f.Blocks.getD i default).End.To<;>rfl
  exact Hi f.Blocks (default:Ae) blockB (E5 f) (.inl ()) (.inr false) (λi hi hp=>by rw[step i hi,hp];rfl) (λi hi hp=>by rw[step i hi,hp];rfl) (by
   unfold E5
   simp) _ 0 (F0 _)
 rw[show((0:Nat):Int)=0 from rfl,Ob]at hloop;unfold Iw Qz;simp only[Sh _ hf.params,U8,px f hf,hloop]
 have e1:((f.Blocks.length:Int)==0) = !decide (1<=f.Blocks.length):=by
  rw[<- decide_not]
  by_cases h:f.Blocks.length=0
  ·simp[h]
  ·have h1:((f.Blocks.length:Int)==0)=false:=by simpa using h
   rw[h1];symm;apply C9;omega
 have e2:decide ((64:Int)<(f.Blocks.length:Int)) = !decide (f.Blocks.length<=64):=by rw[<- decide_not];apply zzL76.2;omega
 have e3:decide ((16:Int)<(f.Params.length:Int)) = !decide (f.Params.length<=16):=by rw[<- decide_not];apply zzL76.2;omega
 have e4:decide ((512:Int)<sizeW f) = !decide (sizeW f<=512):=by rw[<- decide_not];apply zzL76.2;omega
 rw[e1,e2,e3]
 generalize decide (1<=f.Blocks.length)=p1
 generalize decide (f.Blocks.length<=64)=p2
 generalize decide (f.Params.length<=16)=p3
 generalize listB f.Params=p4
 generalize numB f.Ret=p5
 cases p1 with
 | false=>simp
 | true=>cases p2 with
  | false=>simp
  | true=>cases p3 with
   | false=>simp
   | true=>cases p4 with
    | false=>simp
    | true=>cases p5 with
     | false=>simp
     | true=>
      simp only[D6,Bool.or_self,Ah,Au,Ve,An,e4]
      cases decide (sizeW f<=512) with
      | false=>simp
      | true=>cases f.Blocks.all blockB<;>simp
theorem pM{n:Int}:numB n=true↔0<=n/\n<=2147483647:=by simp[numB]
theorem listB_iff{l:List Int}:listB l=true↔oq l/\l.length<=64:=by
 simp[listB,oq,pM]
def zL(n:Int):Prop:=0<=n/\n<18446744073709551616
structure OkB(b:Ae):Prop where
 may:blockB b=true
 phis:b.Phis.length<=512
 ops:b.Ops.length<=512
 imm:∀ o∈b.Ops,zL o.Imm
structure OkF(f:TFunc):Prop where
 params:listB f.Params=true
 few:f.Params.length<=16
 ret:numB f.Ret=true
 blocks:f.Blocks.length<=64
 block:∀ b∈f.Blocks,OkB b
theorem blockB_iff{b:Ae}:blockB b=true↔(∀ p∈b.Phis,FN p=true)/\(∀ o∈b.Ops,eg o=true)/\cW b.End=true:=by
 simp[blockB,and_assoc]
theorem g5{α:Type}(l:List α)(g:α->Nat)(B:Nat)(h:∀ a∈l,g a<=B):(l.map g).sum<=l.length*B:=by
 induction l with
 | nil=>simp
 | cons a l ih=>
  have h1:=h a (by simp);have h2:=ih (λb hb=>h b (by simp[hb]));rw[Cq,SS,EY,Gm];omega
theorem qB{α:Type}(l:List α)(g k:α->Nat)(h:∀ a∈l,g a<=k a):(l.map g).sum<=(l.map k).sum:=by
 induction l with
 | nil=>simp
 | cons a l ih=>
  grind
theorem QC{α:Type}(l:List α)(g:α->Nat)(h:∀ a∈l,1<=g a):l.length<=(l.map g).sum:=by
 induction l with
 | nil=>simp
 | cons a l ih=>
  grind
theorem gE{α:Type}{l:List α}{a:α}(g:α->Nat)(h:a∈l):g a<=(l.map g).sum:=by
 induction l with
 | nil=>cases h
 | cons b l ih=>
  grind
theorem OkF.size{f:TFunc}(h:OkF f):sizeN f<=65600/\sizeW f=sizeN f:=by
 have:sizeN f<=f.Blocks.length*1025:=g5 _ _ _ λb hb=>by
  have h1:=(h.block b hb).phis;have h2:=(h.block b hb).ops;simp only[Dm];omega
 have h2:=h.blocks
 have h3:sizeN f<=65600:=by omega
 exact⟨h3,Yn (by omega)⟩
theorem JI{f:TFunc}(h:Qz f=true):1<=f.Blocks.length/\f.Blocks.length<=64/\f.Params.length<=16/\listB f.Params=true/\numB f.Ret=true/\sizeW f<=512/\∀ b∈f.Blocks,blockB b=true:=by
 simp only[Qz,A5,Fz,zzL27]at h;exact⟨h.1.1.1.1.1.1,h.1.1.1.1.1.2,h.1.1.1.1.2,h.1.1.1.2,h.1.1.2,h.1.2,h.2⟩
theorem lf{f:TFunc}(h:Qz f=true):f.Params.length<=64/\∀ b∈f.Blocks,b.End.To.length<=64/\(∀ p∈b.Phis,p.From.length<=64/\p.Args.length<=64)/\∀ o∈b.Ops,o.Args.length<=64:=by
 obtain⟨_,_,h3,_,_,_,h7⟩:=JI h;refine⟨by omega,λb hb=>?_⟩;obtain⟨q1,q2,q3⟩:=blockB_iff.1 (h7 b hb);simp only[cW,A5]at q3;refine⟨(listB_iff.1 q3.2).2,λp hp=>?_,λo ho=>?_⟩
 ·have:=q1 p hp;simp only[FN,A5]at this;exact⟨(listB_iff.1 this.1.2).2,(listB_iff.1 this.2).2⟩
 ·have:=q2 o ho;simp only[eg,A5]at this;exact(listB_iff.1 this.2).2
theorem we{f:TFunc}(hf:YS f)(h:Qz f=true)(hs:fe f<=20000):OkF f/\sizeN f<=512:=by
 obtain⟨h1,h2,h3,h4,h5,h6,h7⟩:=JI h
 have hle:sizeN f<=fe f:=by
  have:sizeN f<=(f.Blocks.map US).sum:=qB _ _ _ λb hb=>by
   have q1:b.Phis.length<=(b.Phis.map cY).sum:=QC _ _ λp hp=>by simp only[cY];omega
   have q2:b.Ops.length<=(b.Ops.map cX).sum:=QC _ _ λp hp=>by simp only[cX];omega
   simp only[Dm,US];omega
  simp only[fe];omega
 have hw:sizeW f=sizeN f:=Yn (by omega)
 have h512:sizeN f<=512:=by omega
 refine⟨⟨h4,h3,h5,h2,λb hb=>?_⟩,h512⟩;have hb512:Dm b<=sizeN f:=gE _ hb;simp only[Dm]at hb512;exact⟨h7 b hb,by omega,by omega,λo ho=>(hf.op b hb o ho).2⟩
theorem MF(f:TFunc)(hf:YS f):∃ sm,C6 f=some sm/\(sm=true->Qz f=true->OkF f/\sizeN f<=512/\1<=f.Blocks.length):=by
 obtain⟨sm,h⟩:=RZ f hf;refine⟨sm,h,λh1 h2=>?_⟩;obtain⟨q1,q2⟩:=lf h2;rw[eC f hf q1 q2]at h;obtain⟨r1,r2⟩:=we hf h2 (by grind);exact⟨r1,r2,(JI h2).1⟩
def OA(l:Int):Int:=bif l==0 then 17 else bif l==1 then 20 else 22
def Lq(l:Int)(o:B2):Bool:=Gs o&&!decide (OA l<o.Kind)&&!(decide (l<2)&&decide (1<o.Lanes))
def F2(l:Int)(b:Ae):Bool:=(b.Phis.all λp=>widthB p.Bits)&&b.Ops.all (Lq l)
def N7(f:TFunc)(l:Int):Bool:=f.Params.all widthB&&f.Blocks.all (F2 l)&&widthB f.Ret
theorem tb{m a b c:Bool}{x:Int}:(bif (bif (bif (!m) then true else a) then true else(bif b then c else false)) then(some (LR.done (Sum.inr false))) else some (LR.next x):Option (LR Int (Unit ⊕ Bool)))=some (bif (m&&!a&&!(b&&c)) then .next x else .done (.inr false)):=by
 grind
theorem lr{f:TFunc}(hf:OkF f){b:Ae}(hb:b∈f.Blocks){o:B2}(ho:o∈b.Ops):bp o:=by
 have h1:=hf.block b hb;have h2:=(blockB_iff.1 h1.may).2.1 o ho;simp only[eg,A5]at h2;exact⟨⟨(h1.imm o ho).1,(h1.imm o ho).2⟩,by have:=(listB_iff.1 h2.2).2;omega⟩
theorem tH{f:TFunc}(hf:OkF f)(l:Int):J1 f l=some (N7 f l):=by
 have hp:=Hi f.Params (0:Int) widthB (Fp f) (.inl ()) (.inr false) (λi hi hp=>by
   unfold Fp
   have:decide ((i:Int)<(f.Params.length:Int))=true:=by simpa using hi
   simp only[this,Ah,Aa (Ai hi),Dy,Sg,An,hp,D6,Au,A6 hi (by have:=hf.few;omega)]) (λi hi hp=>by
   unfold Fp
   have:decide ((i:Int)<(f.Params.length:Int))=true:=by simpa using hi
   simp only[this,Ah,Aa (Ai hi),Dy,Sg,An,hp,L5]) (by
   unfold Fp;simp) f.Params.length 0 (by omega)
 have hb:=Hi f.Blocks (default:Ae) (F2 l) (Fq f l) (.inl ()) (.inr false)
 have hphi:∀ i:Nat,i<f.Blocks.length->Ac (D4 f (i:Int)) (0:Int)=some _:=λi hi=>by
  have hB:=hf.block _ (Ag (d:=(default:Ae)) hi)
  have:=Hi (f.Blocks.getD i default).Phis (default:Ba) (λp=>widthB p.Bits) (D4 f (i:Int)) (.inl ()) (.inr false) (λj hj hp=>by
   unfold D4
   have:decide ((j:Int)<((f.Blocks.getD i default).Phis.length:Int))=true:=by simpa using hj
   simp only[Aa (Ai hi),Dy,this,Ah,Aa (Ai hj),Sg,An,hp,D6,Au,A6 hj (by have:=hB.phis;omega)]) (λj hj hp=>by
   unfold D4
   have:decide ((j:Int)<((f.Blocks.getD i default).Phis.length:Int))=true:=by simpa using hj
   simp only[Aa (Ai hi),Dy,this,Ah,Aa (Ai hj),Sg,An,hp,L5]) (by
   unfold D4;simp[Aa (Ai hi)]) (f.Blocks.getD i default).Phis.length 0 (by omega)
  rw[show(0:Int)=((0:Nat):Int) from rfl,this,Ob]
 have hops:∀ i:Nat,i<f.Blocks.length->Ac (D5 f l (i:Int)) (0:Int)=some _:=λi hi=>by
  have hmem:=Ag (d:=(default:Ae)) hi;have hB:=hf.block _ hmem
  have key:∀(j:Nat),j<(f.Blocks.getD i default).Ops.length->D5 f l (i:Int) (j:Int)=some (bif Lq l ((f.Blocks.getD i default).Ops.getD j default) then .next ((j:Int)+1) else .done (.inr false)):=λj hj=>by
   unfold D5
   have hd:decide ((j:Int)<((f.Blocks.getD i default).Ops.length:Int))=true:=by simpa using hj
   have hok:=lr hf hmem (Ag (d:=(default:B2)) hj);simp only[Aa (Ai hi),Dy,hd,Ah,Aa (Ai hj),A6 hj (by have:=hB.ops;omega)];unfold Lq OA;cases h1:(l==1)<;>cases h0:(l==0)<;>simp only[Ah,Au,An,bI _ hok,tb]
  have:=Hi (f.Blocks.getD i default).Ops (default:B2) (Lq l) (D5 f l (i:Int)) (.inl ()) (.inr false) (λj hj hp=>by rw[key j hj,hp];rfl) (λj hj hp=>by rw[key j hj,hp];rfl) (by
   unfold D5;simp[Aa (Ai hi)]) (f.Blocks.getD i default).Ops.length 0 (by omega)
  rw[show(0:Int)=((0:Nat):Int) from rfl,this,Ob]
 have hb':=hb (λi hi hp=>by
   unfold Fq
   have:decide ((i:Int)<(f.Blocks.length:Int))=true:=by simpa using hi
   simp only[F2,A5]at hp
   simp only[this,Ah,hphi i hi,hops i hi,hp.1,hp.2,An,A6 hi (by have:=hf.blocks;omega)]) (λi hi hp=>by
   unfold Fq
   have:decide ((i:Int)<(f.Blocks.length:Int))=true:=by simpa using hi
   simp only[F2]at hp;simp only[this,Ah,hphi i hi,hops i hi,An]
   cases h1:((f.Blocks.getD i default).Phis.all λp=>widthB p.Bits) with
   | false=>rfl
   | true=>grind) (by
   unfold Fq;simp) f.Blocks.length 0 (by omega)
 unfold J1 N7;rw[show(0:Int)=((0:Nat):Int) from rfl,hp,hb',Ob,Ob]
 cases f.Params.all widthB<;>cases f.Blocks.all (F2 l)<;>simp[Sg]
theorem HZ:room=1099511627776:=rfl
theorem Mx{β:Type}(n A C:Nat)(E:Nat->List β)(hE:∀ i,i<n->(E i).length<=C)(f:List β×Int->Option (LR (List β×Int) (List β)))
  (hn:∀(acc:List β) (i:Nat),i<n->acc.length<=A+i*C->f (acc,(i:Int))=some (.next (acc++E i,(i:Int)+1)))
  (hd:∀ acc:List β,f (acc,(n:Int))=some (.done acc)):∀(k i:Nat) (acc:List β),i+k=n->acc.length<=A+i*C->Ac f (acc,(i:Int))=some (acc++(List.range' i k).flatMap E)
 | 0,i,acc,h,_=>by
  obtain rfl:i=n:=by omega
  rw[Am (hd acc)]
  simp
 | k+1,i,acc,h,hA=>by
  have hi:i<n:=by omega
  have h2:acc.length+C<=A+(i+1)*C:=by rw[Gm];omega
  rw[Aq (hn acc i hi hA),show(i+1)=((i+1:Nat):Int) by omega,Mx n A C E hE f hn hd k _ _ (by omega) (by grind),EX,MM,EW]
theorem Ke{β:Type}(C:Nat)(E:Nat->List β):∀ l:List Nat,(∀ i∈l,(E i).length<=C)->(l.flatMap E).length<=l.length*C
 | [],_=>by simp
 | a::l,h=>by
  have h1:=h a (by simp);have h2:=Ke C E l (λi hi=>h i (by simp[hi]));rw[MM,Fg,EY,Gm];omega
def Lr(l:List Bx)(v:Int):Int:=match l.findIdx? (λd=>d.V==v) with|some i=>(i:Int)|none=>-1
theorem ab(l:List Bx)(v:Int)(hl:l.length<=1000000):Ey l v=some (Lr l v):=by
 have key:∀(k i:Nat),i+k=l.length->Ac (Gh l v) i=some (match(l.drop i).findIdx? (λd=>d.V==v) with|some j=>.inr (i+j:Nat)|none=>.inl ()):=by
  intro k
  induction k with
  | zero=>
   intro i h
   obtain rfl:i=l.length:=by omega
   rw[Am (x:=.inl ()) (by unfold Gh;simp)]
   simp
  | succ k ih=>
   intro i h
   have hi:i<l.length:=by omega
   have hdr:l.drop i=l.getD i default::l.drop (i+1):=by simp_all
   have hd:decide (i<(l.length:Int))=true:=by simpa using hi
   rw[hdr,List.findIdx?_cons]
   cases hb:(l.getD i _).V==v with
   | true=>
    rw[Am (x:=.inr i) (by unfold Gh;simp only[hd,Ah,Aa (Ai hi),Dy,hb])]
    simp
   | false=>
    rw[Aq (s':=((i+1:Nat):Int)) (by unfold Gh;simp only[hd, Aa (Ai hi),Dy,hb, A6 hi (by omega)];rfl),ih _ (by omega)]
    cases(l.drop _).findIdx? _ with
    | none=>simp
    | some j=>simp;omega
 unfold Ey Lr;rw[show 0=((0:Nat):Int) from rfl,key l.length 0 (by omega),Ob]
 cases l.findIdx? _ with
 | none=>rfl
 | some j=>simp
def H1(o:B2):Int×Int:=bif Gs o then Xp o.Kind o.Bits o.Lanes else(0,0)
def Hd(o:B2):List (Int×Int):=bif Gs o then Ry o else[]
def Rd(f:TFunc):List Bx:=(List.range f.Params.length).flatMap λ(i:Nat)=>[⟨(i:Int)+1,-1,0,(f.Params.getD i 0,1)⟩]
def R0(b:Ae)(i:Nat):List Bx:=(List.range b.Phis.length).flatMap λ(k:Nat)=>[⟨(b.Phis.getD k default).Dst,i,-1,((b.Phis.getD k default).Bits,1)⟩]
def Xh(b:Ae)(i:Nat):List Bx:=(List.range b.Ops.length).flatMap λ(k:Nat)=>bif decide (0<(H1 (b.Ops.getD k default)).1) then[⟨(b.Ops.getD k default).Dst,i,k,H1 (b.Ops.getD k default)⟩] else[]
def Rb(b:Ae)(i:Nat):List Bx:=R0 b i++Xh b i
def Aw(f:TFunc):List Bx:=Rd f++(List.range f.Blocks.length).flatMap λi=>Rb (f.Blocks.getD i default) i
theorem LC(b:Ae)(i:Nat):(R0 b i).length<=b.Phis.length:=by
 have:=Ke 1 (λk=>[(⟨(b.Phis.getD k default).Dst,i,-1,((b.Phis.getD k default).Bits,1)⟩:Bx)]) (List.range b.Phis.length) (λ_ _=>zzL6 _)
 simpa [R0] using this
theorem fc(b:Ae)(i:Nat):(Xh b i).length<=b.Ops.length:=by
 have:=Ke 1 (λk=>bif decide (0<(H1 (b.Ops.getD k default)).1) then[(⟨(b.Ops.getD k default).Dst,i,k,H1 (b.Ops.getD k default)⟩:Bx)] else[]) (List.range b.Ops.length) (λk _=>by grind)
 simpa [Xh] using this
theorem WF{f:TFunc}(hf:OkF f){i:Nat}(hi:i<f.Blocks.length):(Rb (f.Blocks.getD i default) i).length<=1024:=by
 have hB:=hf.block _ (Ag (d:=default) hi);have h1:=LC (f.Blocks.getD i default) i;have h2:=fc (f.Blocks.getD i default) i;have h3:=hB.phis;have h4:=hB.ops;rw[Rb,Fg];omega
theorem DA(f:TFunc):(Rd f).length=f.Params.length:=by
 have h:∀ l:List Nat,(l.map λ_=>1).sum=l.length:=λl=>by induction l with|nil=>rfl|cons a l ih=>simp[ih];omega
 simp[Rd, h]
theorem lK{f:TFunc}(hf:OkF f):(Aw f).length<=100000:=by
 have h1:=Ke _ _ (List.range _) (λi hi=>WF hf (by simpa using hi));have h2:=DA f;have h3:=hf.few;have h4:=hf.blocks;rw[S4]at h1;rw[Aw,Fg];omega
theorem wZ{f:TFunc}(hf:OkF f):Ks f=some (Aw f):=by
 have hp:=Mx f.Params.length 0 1 (λ(i:Nat)=>[(⟨(i:Int)+1,-1,0,(f.Params.getD i 0,1)⟩:Bx)]) (λ_ _=>zzL6 _) (Im f) (λacc i hi hA=>by
   unfold Im
   have hd:decide ((i:Int)<(f.Params.length:Int))=true:=by simpa using hi
   have hr:acc.length+([(⟨(i:Int)+1,(-1:Int),(0:Int),((f.Params.getD i 0),(1:Int))⟩:Bx)]:List (Bx)).length<=room:=by have:=hf.few;rw[HZ];simp;omega
   simp only[hd,Ah,Aa (Ai hi),Dy,A6 hi (by have:=hf.few;omega),Aa hr]) (λacc=>by unfold Im;simp) f.Params.length 0 [] (by omega) (by simp)
 have hphi:∀(i:Nat),i<f.Blocks.length->∀ acc:List Bx,acc.length<=100000->Ac (Gf f (i:Int)) (acc,(0:Int))=some (acc++R0 (f.Blocks.getD i default) i):=λi hi acc hacc=>by
  have hB:=hf.block _ (Ag (d:=(default:Ae)) hi)
  have:=Mx (f.Blocks.getD i default).Phis.length 100000 1 (λ(k:Nat)=>[(⟨((f.Blocks.getD i default).Phis.getD k default).Dst,i,-1,(((f.Blocks.getD i default).Phis.getD k default).Bits,1)⟩:Bx)]) (λ_ _=>zzL6 _) (Gf f (i:Int)) (λacc k hk hA=>by
   unfold Gf
   have hd:decide ((k:Int)<((f.Blocks.getD i default).Phis.length:Int))=true:=by simpa using hk
   have hr:∀ x:Bx,acc.length+([x]:List Bx).length<=room:=λx=>by have:=hB.phis;rw[HZ];simp;omega
   simp only[Dy,hd,Ah,Aa (Ai hk),A6 hk (by have:=hB.phis;omega),Aa (hr _)]) (λacc=>by unfold Gf;simp) (f.Blocks.getD i default).Phis.length 0 acc (by omega) (by omega)
  rw[show(0:Int)=((0:Nat):Int) from rfl,this,R0,Sn]
 have hop:∀(i:Nat),i<f.Blocks.length->∀ acc:List Bx,acc.length<=100000->Ac (Gg f (i:Int)) (acc,(0:Int))=some (acc++Xh (f.Blocks.getD i default) i):=λi hi acc hacc=>by
  have hmem:=Ag (d:=(default:Ae)) hi;have hB:=hf.block _ hmem
  have:=Mx (f.Blocks.getD i default).Ops.length 100000 1 (λ(k:Nat)=>bif decide (0<(H1 ((f.Blocks.getD i default).Ops.getD k default)).1) then[(⟨((f.Blocks.getD i default).Ops.getD k default).Dst,i,k,H1 ((f.Blocks.getD i default).Ops.getD k default)⟩:Bx)] else[]) (λk _=>by grind) (Gg f (i:Int)) (λacc k hk hA=>by
   unfold Gg;have hok:=lr hf hmem (Ag (d:=(default:B2)) hk)
   have hd:decide ((k:Int)<((f.Blocks.getD i default).Ops.length:Int))=true:=by simpa using hk
   have hr:∀ x:Bx,acc.length+([x]:List Bx).length<=room:=λx=>by have:=hB.ops;rw[HZ];simp;omega
   have hg:Hk ((f.Blocks.getD i default).Ops.getD k default)=some (H1 ((f.Blocks.getD i default).Ops.getD k default)):=lx _ hok;simp only[Dy,hd,Ah,Aa (Ai hk),hg,An,A6 hk (by have:=hB.ops;omega),Aa (hr _)]
   cases decide (0<(H1 ((f.Blocks.getD i default).Ops.getD k default)).1)<;>simp) (λacc=>by unfold Gg;simp) (f.Blocks.getD i default).Ops.length 0 acc (by omega) (by omega)
  rw[show(0:Int)=((0:Nat):Int) from rfl,this,Xh,Sn]
 have hb:=Mx f.Blocks.length 16 1024 (λi=>Rb (f.Blocks.getD i default) i) (λi hi=>WF hf hi) (In f) (λacc i hi hA=>by
   unfold In
   have hd:decide ((i:Int)<(f.Blocks.length:Int))=true:=by simpa using hi
   have hB:=hf.block _ (Ag (d:=(default:Ae)) hi);have h64:=hf.blocks;have h2:=LC (f.Blocks.getD i default) i;have h3:=hB.phis
   simp only[hd,Ah,Aa (Ai hi),hphi i hi acc (by omega),An,hop i hi (acc++R0 (f.Blocks.getD i default) i) (by rw[Fg];omega),A6 hi (by omega),Rb,EW]) (λacc=>by unfold In;simp) f.Blocks.length 0 (Rd f) (by omega) (by have:=DA f;have:=hf.few;omega)
 unfold Ks;rw[show(0:Int)=((0:Nat):Int) from rfl,hp,An,Za]
 have e:(List.range' 0 f.Params.length).flatMap (λ(i:Nat)=>[(⟨(i:Int)+1,-1,0,(f.Params.getD i 0,1)⟩:Bx)])=Rd f:=by rw[Rd,Sn]
 rw[e,hb,An,Aw,Sn]
def N8(p:Ba):List Cm:=(List.range p.Args.length).flatMap λ(j:Nat)=>[⟨p.Args.getD j 0,p.From.getD j 0,1000,(p.Bits,1)⟩]
def M9(b:Ae):List Cm:=(List.range b.Phis.length).flatMap λ(k:Nat)=>N8 (b.Phis.getD k default)
def Q6(o:B2)(i k:Nat):List Cm:=(List.range (Hd o).length).flatMap λ(j:Nat)=>[⟨o.Args.getD j 0,i,k,(Hd o).getD j (0,0)⟩]
def Sy(b:Ae)(i:Nat):List Cm:=(List.range b.Ops.length).flatMap λ(k:Nat)=>Q6 (b.Ops.getD k default) i k
def Ym(f:TFunc)(b:Ae)(i:Nat):List Cm:=(bif b.End.Kind==0 then[⟨b.End.Arg,i,1000,(f.Ret,1)⟩] else[])++(bif b.End.Kind==2 then[⟨b.End.Arg,i,1000,(1,1)⟩] else[])
def IA(f:TFunc)(b:Ae)(i:Nat):List Cm:=M9 b++Sy b i++Ym f b i
def Bf(f:TFunc):List Cm:=(List.range f.Blocks.length).flatMap λ(i:Nat)=>IA f (f.Blocks.getD i default) i
theorem Yk{o:B2}(h:o.Args.length<=64):(Hd o).length<=64/\(Hd o).length<=o.Args.length:=by
 unfold Hd
 cases hm:Gs o with
 | false=>simp
 | true=>
  simp only[Ah]
  have :=by
   simp only[Gs,A5]at hm;exact hm.1.2.2
  have h2 :=by simpa using this
  have h3:(Ry o).length=o.Args.length:=by rw[Ry,Dn,S4,<- h2,Dy]
  omega
theorem QZ{f:TFunc}(hf:OkF f){b:Ae}(hb:b∈f.Blocks){p:Ba}(hp:p∈b.Phis):p.From.length<=64/\p.Args.length<=64:=by
 have:=(blockB_iff.1 (hf.block b hb).may).1 p hp;simp only[FN,A5]at this;exact⟨(listB_iff.1 this.1.2).2,(listB_iff.1 this.2).2⟩
theorem ji{f:TFunc}(hf:OkF f){b:Ae}(hb:b∈f.Blocks){o:B2}(ho:o∈b.Ops):o.Args.length<=64:=by
 have:=(blockB_iff.1 (hf.block b hb).may).2.1 o ho;simp only[eg,A5]at this;exact(listB_iff.1 this.2).2
theorem IB(p:Ba):(N8 p).length<=p.Args.length:=by
 have:=Ke 1 (λj=>[(⟨p.Args.getD j 0,p.From.getD j 0,1000,(p.Bits,1)⟩:Cm)]) (List.range p.Args.length) (λ_ _=>zzL6 _)
 simpa [N8] using this
theorem MI(o:B2)(i k:Nat):(Q6 o i k).length<=(Hd o).length:=by
 have:=Ke 1 (λj=>[(⟨o.Args.getD j 0,i,k,(Hd o).getD j (0,0)⟩:Cm)]) (List.range (Hd o).length) (λ_ _=>zzL6 _)
 simpa [Q6] using this
theorem MJ{f:TFunc}(hf:OkF f){b:Ae}(hb:b∈f.Blocks):(M9 b).length<=32768:=by
 have:=Ke 64 (λk=>N8 (b.Phis.getD k default)) (List.range _) (λk hk=>by
  have h1:=IB (b.Phis.getD k default);have h2:=(QZ hf hb (Ag (d:=default) (by simpa using hk))).2
  omega)
 have h3:=(hf.block b hb).phis;rw[S4]at this;rw[M9];omega
theorem SD{f:TFunc}(hf:OkF f){b:Ae}(hb:b∈f.Blocks)(i:Nat):(Sy b i).length<=32768:=by
 have:=Ke 64 (λk=>Q6 (b.Ops.getD k default) i k) (List.range _) (λk hk=>by
  have h1:=MI (b.Ops.getD k default) i k;have h2:=(Yk (ji hf hb (Ag (d:=default) (by simpa using hk)))).1
  omega)
 have h3:=(hf.block b hb).ops;rw[S4]at this;rw[Sy];omega
theorem eL(f:TFunc)(b:Ae)(i:Nat):(Ym f b i).length<=2:=by
 unfold Ym
 cases b.End.Kind==0<;>cases b.End.Kind==2<;>simp
theorem YA{f:TFunc}(hf:OkF f){i:Nat}(hi:i<f.Blocks.length):(IA f (f.Blocks.getD i default) i).length<=70000:=by
 have hmem:=Ag (d:=default) hi;have h1:=MJ hf hmem;have h2:=SD hf hmem i;have h3:=eL f (f.Blocks.getD i default) i;rw[IA,Fg,Fg];omega
theorem KC{f:TFunc}(hf:OkF f):(Bf f).length<=4480000:=by
 have h1:=Ke _ _ (List.range _) (λi hi=>YA hf (by simpa using hi));have h4:=hf.blocks;rw[S4]at h1;rw[Bf];omega
def jo(f:TFunc):Prop:=∀ b∈f.Blocks,∀ p∈b.Phis,p.Args.length<=p.From.length
theorem wc{f:TFunc}(hf:OkF f)(hp:jo f):Kt f=some (Bf f):=by
 have hbig:∀{n:Nat},n<=100000000->∀ x:Cm,n+([x]:List Cm).length<=room:=λ{n} h x=>by rw[HZ];simp;omega
 have h1:∀(i:Nat),i<f.Blocks.length->∀(k:Nat),k<(f.Blocks.getD i default).Phis.length->∀ acc:List Cm,acc.length<=50000000->Ac (Gi f (i:Int) (k:Int)) (acc,(0:Int))=some (acc++N8 ((f.Blocks.getD i default).Phis.getD k default)):=λi hi k hk acc hacc=>by
  have hmem:=Ag (d:=(default:Ae)) hi;have hpm:=Ag (d:=(default:Ba)) hk;have hlen:=QZ hf hmem hpm;have hfit:=hp _ hmem _ hpm
  have:=Mx ((f.Blocks.getD i default).Phis.getD k default).Args.length 50000000 1 (λ(j:Nat)=>[(⟨((f.Blocks.getD i default).Phis.getD k default).Args.getD j 0,((f.Blocks.getD i default).Phis.getD k default).From.getD j 0,1000,(((f.Blocks.getD i default).Phis.getD k default).Bits,1)⟩:Cm)]) (λ_ _=>zzL6 _) (Gi f (i:Int) (k:Int)) (λacc j hj hA=>by
   unfold Gi
   have hd:decide ((j:Int)<(((f.Blocks.getD i default).Phis.getD k default).Args.length:Int))=true:=by simpa using hj
   simp only[Dy,hd,Ah,Aa (Ai hj),Aa (Ai (Nat.lt_of_lt_of_le hj hfit)),A6 hj (by omega),Aa (hbig (n:=acc.length) (by omega) _)]) (λacc=>by unfold Gi;simp) ((f.Blocks.getD i default).Phis.getD k default).Args.length 0 acc (by omega) (by omega)
  rw[show(0:Int)=((0:Nat):Int) from rfl,this,N8,Sn]
 have h2:∀(i:Nat),i<f.Blocks.length->∀ acc:List Cm,acc.length<=40000000->Ac (Gj f (i:Int)) (acc,(0:Int))=some (acc++M9 (f.Blocks.getD i default)):=λi hi acc hacc=>by
  have hmem:=Ag (d:=(default:Ae)) hi;have hB:=hf.block _ hmem
  have:=Mx (f.Blocks.getD i default).Phis.length 40000000 64 (λ(k:Nat)=>N8 ((f.Blocks.getD i default).Phis.getD k default)) (λk hk=>by have:=IB ((f.Blocks.getD i default).Phis.getD k default);have:=(QZ hf hmem (Ag (d:=(default:Ba)) hk)).2;omega) (Gj f (i:Int)) (λacc k hk hA=>by
   unfold Gj
   have hd:decide ((k:Int)<((f.Blocks.getD i default).Phis.length:Int))=true:=by simpa using hk
   have h5:=hB.phis;have h6:k*64<=512*64:=Fv _ (by omega)
   simp only[Dy,hd,Ah,Aa (Ai hk),h1 i hi k hk acc (by omega),An,A6 hk (by omega)]) (λacc=>by unfold Gj;simp) (f.Blocks.getD i default).Phis.length 0 acc (by omega) (by omega)
  rw[show(0:Int)=((0:Nat):Int) from rfl,this,M9,Sn]
 have h3:∀(i:Nat),i<f.Blocks.length->∀(k:Nat),k<(f.Blocks.getD i default).Ops.length->∀ acc:List Cm,acc.length<=50000000->Ac (Gk f (i:Int) (k:Int) (Hd ((f.Blocks.getD i default).Ops.getD k default))) (acc,(0:Int))=some (acc++Q6 ((f.Blocks.getD i default).Ops.getD k default) i k):=λi hi k hk acc hacc=>by
  have hmem:=Ag (d:=(default:Ae)) hi;have hom:=Ag (d:=(default:B2)) hk;have hlen:=Yk (ji hf hmem hom)
  have:=Mx (Hd ((f.Blocks.getD i default).Ops.getD k default)).length 50000000 1 (λ(j:Nat)=>[(⟨((f.Blocks.getD i default).Ops.getD k default).Args.getD j 0,i,k,(Hd ((f.Blocks.getD i default).Ops.getD k default)).getD j (0,0)⟩:Cm)]) (λ_ _=>zzL6 _) (Gk f (i:Int) (k:Int) (Hd ((f.Blocks.getD i default).Ops.getD k default))) (λacc j hj hA=>by
   unfold Gk
   have hd:decide ((j:Int)<((Hd ((f.Blocks.getD i default).Ops.getD k default)).length:Int))=true:=by simpa using hj
   simp only[Dy,hd,Ah,Aa (Ai hk),Aa (Ai hj),Aa (Ai (Nat.lt_of_lt_of_le hj hlen.2)),A6 hj (by omega),Aa (hbig (n:=acc.length) (by omega) _)]) (λacc=>by unfold Gk;simp) (Hd ((f.Blocks.getD i default).Ops.getD k default)).length 0 acc (by omega) (by omega)
  rw[show(0:Int)=((0:Nat):Int) from rfl,this,Q6,Sn]
 have h4:∀(i:Nat),i<f.Blocks.length->∀ acc:List Cm,acc.length<=40000000->Ac (Gl f (i:Int)) (acc,(0:Int))=some (acc++Sy (f.Blocks.getD i default) i):=λi hi acc hacc=>by
  have hmem:=Ag (d:=(default:Ae)) hi;have hB:=hf.block _ hmem
  have:=Mx (f.Blocks.getD i default).Ops.length 40000000 64 (λ(k:Nat)=>Q6 ((f.Blocks.getD i default).Ops.getD k default) i k) (λk hk=>by have:=MI ((f.Blocks.getD i default).Ops.getD k default) i k;have:=(Yk (ji hf hmem (Ag (d:=(default:B2)) hk))).1;omega) (Gl f (i:Int)) (λacc k hk hA=>by
   unfold Gl
   have hd:decide ((k:Int)<((f.Blocks.getD i default).Ops.length:Int))=true:=by simpa using hk
   have h5:=hB.ops;have h6:k*64<=512*64:=Fv _ (by omega);have ht:Hl ((f.Blocks.getD i default).Ops.getD k default)=some (Hd ((f.Blocks.getD i default).Ops.getD k default)):=lz _ (lr hf hmem (Ag (d:=(default:B2)) hk))
   simp only[Dy,hd,Ah,Aa (Ai hk),ht,An,h3 i hi k hk acc (by omega),A6 hk (by omega)]) (λacc=>by unfold Gl;simp) (f.Blocks.getD i default).Ops.length 0 acc (by omega) (by omega)
  rw[show(0:Int)=((0:Nat):Int) from rfl,this,Sy,Sn]
 have hb:=Mx f.Blocks.length 0 70000 (λ(i:Nat)=>IA f (f.Blocks.getD i default) i) (λi hi=>YA hf hi) (Io f) (λacc i hi hA=>by
   unfold Io
   have hd:decide ((i:Int)<(f.Blocks.length:Int))=true:=by simpa using hi
   have hmem:=Ag (d:=(default:Ae)) hi;have h64:=hf.blocks;have q1:i*70000<=64*70000:=Fv _ (by omega);have q2:=MJ hf hmem;have q3:=SD hf hmem i;have e1:=h4 i hi (acc++M9 (f.Blocks.getD i default)) (by rw[Fg];omega)
   have l1:(acc++M9 (f.Blocks.getD i default)++Sy (f.Blocks.getD i default) i).length<=50000000:=by rw[Fg,Fg];omega
   simp only[hd,Ah,Aa (Ai hi),h2 i hi acc (by omega),An,e1,Dy,Aa (hbig (n:=(acc++M9 (f.Blocks.getD i default)++Sy (f.Blocks.getD i default) i).length) (by omega) _),IA,Ym]
   cases(f.Blocks.getD i default).End.Kind==0 with
   | true=>
    simp only[Ah,An]
    cases(f.Blocks.getD i default).End.Kind==2 with
    | true=>rw[Aa (by rw[Fg];have:=hbig (n:=(acc++M9 (f.Blocks.getD i default)++Sy (f.Blocks.getD i default) i).length+1) (by omega) (default:Cm);simpa using this)];simp[A6 hi (by omega:f.Blocks.length<9223372036854775808)]
    | false=>simp[A6 hi (by omega:f.Blocks.length<9223372036854775808)]
   | false=>
    simp only[Au,An]
    cases(f.Blocks.getD i default).End.Kind==2 with
    | true=>rw[Ah,Aa (hbig (n:=(acc++M9 (f.Blocks.getD i default)++Sy (f.Blocks.getD i default) i).length) (by omega) _)];simp[A6 hi (by omega:f.Blocks.length<9223372036854775808)]
    | false=>simp[A6 hi (by omega:f.Blocks.length<9223372036854775808)]) (λacc=>by unfold Io;simp) f.Blocks.length 0 [] (by omega) (by simp)
 unfold Kt;rw[show(0:Int)=((0:Nat):Int) from rfl,hb,An,Bf,Sn,Za]
end
end Go.Proofs.YtfhggcbcamamdaaGreat
