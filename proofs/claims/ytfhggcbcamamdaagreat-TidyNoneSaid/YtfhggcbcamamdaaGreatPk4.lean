/-
  The machine, the program's functions and the laws' arithmetic: part 4 of 6.
-/
import Derived.Test.YtfhggcbcamamdaaGreatPk3
import Derived.OpenShut
import Derived.ShutString
set_option linter.unusedSectionVars false
set_option linter.unusedVariables false
set_option linter.unusedSimpArgs false
namespace Go.Proofs.YtfhggcbcamamdaaGreat
noncomputable section
open Go Go.RowKit
set_option maxRecDepth 100000
set_option maxHeartbeats 2000000
def Gz(a0:TFunc)(i4:Int):Int->Option (LR Int (Unit ⊕ Bool)):=
 λ(i6:Int)=>(bif (decide (i6<(((a0.Blocks.getD i4.toNat default).Phis).length:Int))) then(A0 (A1 i6 ((a0.Blocks.getD i4.toNat default).Phis).length) ((Bn ((((a0.Blocks.getD i4.toNat default).Phis).getD i6.toNat default).Bits)).bind λx8=>((bif ((!x8)==false) then Bn ((((a0.Blocks.getD i4.toNat default).Phis).getD i6.toNat default).Dst) else some false).bind λx9=>((bif ((bif (!x8) then true else(!x9))==false) then Dq ((((a0.Blocks.getD i4.toNat default).Phis).getD i6.toNat default).From) else some false).bind λx10=>((bif ((bif (bif (!x8) then true else(!x9)) then true else(!x10))==false) then Dq ((((a0.Blocks.getD i4.toNat default).Phis).getD i6.toNat default).Args) else some false).bind λx11=>(bif (bif (bif (bif (!x8) then true else(!x9)) then true else(!x10)) then true else(!x11)) then(some (.done (.inr false))) else(some (.next (w64 (i6+1)))))))))) else(some (.done (.inl ()))))
def G0(a0:TFunc)(i4:Int):Int->Option (LR Int (Unit ⊕ Bool)):=
 λ(i14:Int)=>(bif (decide (i14<(((a0.Blocks.getD i4.toNat default).Ops).length:Int))) then(A0 (A1 i14 ((a0.Blocks.getD i4.toNat default).Ops).length) ((Bn ((((a0.Blocks.getD i4.toNat default).Ops).getD i14.toNat default).Kind)).bind λx16=>((bif ((!x16)==false) then Bn ((((a0.Blocks.getD i4.toNat default).Ops).getD i14.toNat default).Bits) else some false).bind λx17=>((bif ((bif (!x16) then true else(!x17))==false) then Bn ((((a0.Blocks.getD i4.toNat default).Ops).getD i14.toNat default).Lanes) else some false).bind λx18=>((bif ((bif (bif (!x16) then true else(!x17)) then true else(!x18))==false) then Bn ((((a0.Blocks.getD i4.toNat default).Ops).getD i14.toNat default).Dst) else some false).bind λx19=>((bif ((bif (bif (bif (!x16) then true else(!x17)) then true else(!x18)) then true else(!x19))==false) then Dq ((((a0.Blocks.getD i4.toNat default).Ops).getD i14.toNat default).Args) else some false).bind λx20=>(bif (bif (bif (bif (bif (!x16) then true else(!x17)) then true else(!x18)) then true else(!x19)) then true else(!x20)) then(some (.done (.inr false))) else(some (.next (w64 (i14+1))))))))))) else(some (.done (.inl ()))))
def E5(a0:TFunc):Int->Option (LR Int (Unit ⊕ Bool)):=
 λ(i4:Int)=>(bif (decide (i4<(a0.Blocks.length:Int))) then(A0 (A1 i4 a0.Blocks.length) ((Ac (Gz a0 i4) (0:Int)).bind (λx12=>(match x12 with|(.inl _)=>((Ac (G0 a0 i4) (0:Int)).bind (λx21=>(match x21 with|(.inl _)=>((Bn ((a0.Blocks.getD i4.toNat default).End.Kind)).bind λx23=>((bif ((!x23)==false) then Bn ((a0.Blocks.getD i4.toNat default).End.Arg) else some false).bind λx24=>((bif ((bif (!x23) then true else(!x24))==false) then Dq ((a0.Blocks.getD i4.toNat default).End.To) else some false).bind λx25=>(bif (bif (bif (!x23) then true else(!x24)) then true else(!x25)) then(some (.done (.inr false))) else(some (.next (w64 (i4+1))))))))|(.inr r26)=>(some (.done (.inr r26))))))|(.inr r27)=>(some (.done (.inr r27))))))) else(some (.done (.inl ()))))
def Oo(Γ:H5)(a0:TFunc)(r:Bool):Exit->St->Prop:=fK Tryz.prog Γ Tryz.f51.results.toList [] (.bool r) []
def bo(x8:Bool)(x9:Bool):=(bif (!x8) then true else(!x9))
def mn(a0:TFunc):=((a0.Blocks.length:Int)==0)
def ml(a0:TFunc):=(bif (bif (mn a0) then true else(decide ((64:Int)<(a0.Blocks.length:Int)))) then true else(decide ((16:Int)<(a0.Params.length:Int))))
def bp(a0:TFunc)(x1:Bool):=(bif (ml a0) then true else(!x1))
def u6(x23:Bool)(x24:Bool):=((bif (!x23) then true else(!x24))==false)
def Aaa(a0:TFunc)(i4:Int):=(a0.Blocks.getD i4.toNat default)
def Aar(a0:TFunc)(i4:Int)(i14:Int):=(((Aaa a0 i4).Ops).getD i14.toNat default)
def bn(x16:Bool)(x17:Bool)(x18:Bool):=(bif (bif (!x16) then true else(!x17)) then true else(!x18))
def Aab(a0:TFunc):=((bif (mn a0) then true else(decide ((64:Int)<(a0.Blocks.length:Int))))==false)
def Iw(a0:TFunc):Option Bool:=
 ((bif ((bif (bif ((a0.Blocks.length:Int)==0) then true else(decide ((64:Int)<(a0.Blocks.length:Int)))) then true else(decide ((16:Int)<(a0.Params.length:Int))))==false) then Dq a0.Params else some false).bind λx1=>((bif ((bif (bif (bif ((a0.Blocks.length:Int)==0) then true else(decide ((64:Int)<(a0.Blocks.length:Int)))) then true else(decide ((16:Int)<(a0.Params.length:Int)))) then true else(!x1))==false) then Bn a0.Ret else some false).bind λx2=>((bif ((bif (bif (bif (bif ((a0.Blocks.length:Int)==0) then true else(decide ((64:Int)<(a0.Blocks.length:Int)))) then true else(decide ((16:Int)<(a0.Params.length:Int)))) then true else(!x1)) then true else(!x2))==false) then Kn a0 else some (0:Int)).bind λx3=>(bif (bif (bif (bif (bif (bif ((a0.Blocks.length:Int)==0) then true else(decide ((64:Int)<(a0.Blocks.length:Int)))) then true else(decide ((16:Int)<(a0.Params.length:Int)))) then true else(!x1)) then true else(!x2)) then true else(decide ((512:Int)<x3))) then(some false) else((Ac (E5 a0) (0:Int)).bind (λx28=>(match x28 with|(.inl _)=>(some true)|(.inr r30)=>(some r30))))))))
variable{v0:TFunc}{v3:Bool}
theorem BK(h:Iw v0=some v3):sP 51 [(W8 v0)] [] (.bool v3) []:=
 sG Tryz.func51 λΓ q=>Af q [1] [1] (tB h λx1 y1 h=>tB h λx2 y2 h=>tB h λx3 y3 h=>tT q [1,41] [1] [(Z2 x1),(Z2 x2),(YY x3)] (Vl ((mn v0)==false) (ci (Nf (mn v0)) (Vl (Aab v0) (ci (Nf (bif (mn v0) then true else(decide ((64:Int)<(v0.Blocks.length:Int))))) (M3 ((ml v0)==false) (ZK (λ(hg:((ml v0)==false)=true)=>(Ho (Bq hg y1))) (gI ((ml v0)==false)) (Nf (ml v0)) (M3 ((bp v0 x1)==false) (c7 (λ(hg:((bp v0 x1)==false)=true)=>(Cf (Bq hg y2))) (gI ((bp v0 x1)==false)) (Nf (bp v0 x1)) (gI ((bif (bp v0 x1) then true else(!x2))==false)) (λ(hg:((bif (bp v0 x1) then true else(!x2))==false)=true)=>(Zq (Bq hg y3))) (gI ((bif (bp v0 x1) then true else(!x2))==false)) (Nf (bif (bp v0 x1) then true else(!x2))))))))))) (gC h (λh=>Af q [2] [] (tS h (Cc []))) λh=>Af q L6 [1] (tL q h L6 [1] (λu i4=>(Cl u [(3,(Z5 i4))] [])) (λu x_=>match x_ with|(.inl _)=>aG Γ (.exit 0) (⟨[],[],[]⟩:St)|(.inr r_)=>aR (Oo Γ v0 r_)) (λi4 y h=>Af q [1,3,46] [1] (gC h (λh=>tV q J8 P6 h λh=>Af q L5 P6 (tL q h L5 P6 (λu i6=>(Cl u [(5,(Z5 i6))] [])) (λu x_=>match x_ with|(.inl _)=>aG Γ (.exit 2) (Nh J8 P6 u [] [])|(.inr r_)=>aR (Oo Γ v0 r_)) (λi6 y h=>Af q [1,3,4,5,58] P6 (gC h (λh=>tV q So [1,4,6] h λh=>tB h λx8 y8 h=>tB h λx9 y9 h=>tB h λx10 y10 h=>tB h λx11 y11 h=>tT q [1,3,4,5,87] P6 [(Z2 x8),(Z2 x9),(Z2 x10),(Z2 x11)] (ci (Cf y8) (M3 ((!x8)==false) (ZK (λ(hg:((!x8)==false)=true)=>(Cf (Bq hg y9))) (gI ((!x8)==false)) (Nf (!x8)) (M3 ((bo x8 x9)==false) (ZK (λ(hg:((bo x8 x9)==false)=true)=>(Ho (Bq hg y10))) (gI ((bo x8 x9)==false)) (Nf (bo x8 x9)) (M3 ((bif (bo x8 x9) then true else(!x10))==false) (c3 (λ(hg:((bif (bo x8 x9) then true else(!x10))==false)=true)=>(Ho (Bq hg y11))) (gI ((bif (bo x8 x9) then true else(!x10))==false)) (Nf (bif (bo x8 x9) then true else(!x10)))))))))) (gC h (λh=>Af q [2] [] (tS h (gO (Ll (H6 [] (Le.refl _ _)))))) λh=>Af q L5 P6 (tN h))) λh=>tS h (gO (Bd (Bi J8 P6 q))))) λx12 h=>(match x12,h with | .inl _,h=>gA (Af q [1,3,4,7] P6 (tL q h [1,3,4,7] P6 (λu i14=>(Cl u [(7,(Z5 i14))] [])) (λu x_=>match x_ with|(.inl _)=>aG Γ (.exit 4) (Nh J8 P6 u [] [])|(.inr r_)=>aR (Oo Γ v0 r_)) (λi14 y h=>Af q [1,3,4,7,92] P6 (gC h (λh=>tV q [1,3,4,7,8] [1,4,8] h λh=>tB h λx16 y16 h=>tB h λx17 y17 h=>tB h λx18 y18 h=>tB h λx19 y19 h=>tB h λx20 y20 h=>tT q [1,3,4,7,127] P6 [(Z2 x16),(Z2 x17),(Z2 x18),(Z2 x19),(Z2 x20)] (ci (Cf y16) (M3 ((!x16)==false) (ZK (λ(hg:((!x16)==false)=true)=>(Cf (Bq hg y17))) (gI ((!x16)==false)) (Nf (!x16)) (M3 ((bif (!x16) then true else(!x17))==false) (ZK (λ(hg:((bif (!x16) then true else(!x17))==false)=true)=>(Cf (Bq hg y18))) (gI ((bif (!x16) then true else(!x17))==false)) (Nf (bif (!x16) then true else(!x17))) (M3 ((bn x16 x17 x18)==false) (ZK (λ(hg:((bn x16 x17 x18)==false)=true)=>(Cf (Bq hg y19))) (gI ((bn x16 x17 x18)==false)) (Nf (bn x16 x17 x18)) (M3 ((bif (bn x16 x17 x18) then true else(!x19))==false) (c3 (λ(hg:((bif (bn x16 x17 x18) then true else(!x19))==false)=true)=>(Ho (Bq hg y20))) (gI ((bif (bn x16 x17 x18) then true else(!x19))==false)) (Nf (bif (bn x16 x17 x18) then true else(!x19)))))))))))) (gC h (λh=>Af q [2] [] (tS h (gO (Ll (H6 [] (Le.refl _ _)))))) λh=>Af q [1,3,4,7] P6 (tN h))) λh=>tS h (gO (Bd (Bi J8 P6 q))))) λx21 h=>(match x21,h with | .inl _,h=>gA (tB h λx23 y23 h=>tB h λx24 y24 h=>tB h λx25 y25 h=>tT q [1,3,146] [1] [(Z2 x23),(Z2 x24),(Z2 x25)] (ci (Cf y23) (Vl ((!x23)==false) (ZK (λ(hg:((!x23)==false)=true)=>(Cf (Bq hg y24))) (gI ((!x23)==false)) (Nf (!x23)) (Vl (u6 x23 x24) (c3 (λ(hg:(u6 x23 x24)=true)=>(Ho (Bq hg y25))) (gI (u6 x23 x24)) (Nf (bif (!x23) then true else(!x24)))))))) (gC h (λh=>Af q [2] [] (tS h (gO (Ll (H6 [] (Le.refl _ _)))))) λh=>Af q L6 [1] (tN h))) | .inr r26,h=>O2 (λst' hk=>tS h (gO (Ll hk)))))) | .inr r27,h=>O2 (λst' hk=>tS h (gO (Ll hk)))))) λh=>tS h (gO (Bd (Bi [] [] q))))) λx28 h=>(match x28,h with | .inl _,h=>gA (Af q [2] [] (tS h (Cc []))) | .inr r30,h=>O2 (λst' hk=>tS h (gK hk))))))
def G1(aQ:Ar)(aC:Int):Int->Option (LR Int (Unit ⊕ Bool)):=
 λ(i1:Int)=>(bif (decide (i1<(aQ.length:Int))) then(A0 (A1 i1 aQ.length) (bif ((aQ.getD i1.toNat 0)==aC) then(some (.done (.inr true))) else(some (.next (w64 (i1+1)))))) else(some (.done (.inl ()))))
def DW(Γ:H5)(aQ:Ar)(aC:Int)(r:Bool):Exit->St->Prop:=fK Tryz.prog Γ Tryz.f32.results.toList [] (.bool r) []
def Cj(aQ:Ar)(aC:Int):Option Bool:=
 ((Ac (G1 aQ aC) (0:Int)).bind (λx3=>(match x3 with|(.inl _)=>(some false)|(.inr r5)=>(some r5))))
variable{v1:Int}{v2:Ar}
theorem H3(h:Cj v2 v1=some v3):sP 32 [(Z6 v2),(Z5 v1)] [] (.bool v3) []:=
 sG Tryz.func32 λΓ q=>tW q Gn [] Nc [] (tL q h Nc [] (λu i1=>(Cl u [(5,(Z5 i1))] [])) (λu x_=>match x_ with|(.inl _)=>aG Γ (.exit 0) (⟨[],[],[]⟩:St)|(.inr r_)=>aR (DW Γ v2 v1 r_)) (λi1 y h=>Af q [0,1,5,9] [] (gC h (λh=>tV q [0,1,5,17] [] h λh=>gC h (λh=>Af q [4] [] (tS h (gO (Ll (H6 [] (Le.refl _ _)))))) λh=>Af q Nc [] (tN h)) λh=>tS h (gO (Bd (Bi [] [] q))))) λx3 h=>(match x3,h with | .inl _,h=>gA (Af q [4] [] (tS h (Cc []))) | .inr r5,h=>O2 (λst' hk=>tS h (gK hk))))
abbrev ww:=(LR Int (Unit ⊕ (TGraph×Int)))
def Eh(a6:Li)(i1:Int):Int->Option ww:=
 λ(i2:Int)=>(A0 (A1 i1 a6.length) (bif (decide (i2<((a6.getD i1.toNat []).length:Int))) then(A0 (A1 i1 a6.length) (A0 (A1 i2 (a6.getD i1.toNat []).length) (A0 (((decide (((a6.getD i1.toNat []).getD i2.toNat 0)<0))==false)=true->(A1 i1 a6.length)) (A0 (((decide (((a6.getD i1.toNat []).getD i2.toNat 0)<0))==false)=true->(A1 i2 (a6.getD i1.toNat []).length)) (A0 ((((bif (decide (((a6.getD i1.toNat []).getD i2.toNat 0)<0)) then true else(decide ((a6.length:Int)<=((a6.getD i1.toNat []).getD i2.toNat 0))))==false)&&((decide ((0:Int)<i2))==true))=true->(A1 i1 a6.length)) (A0 ((((bif (decide (((a6.getD i1.toNat []).getD i2.toNat 0)<0)) then true else(decide ((a6.length:Int)<=((a6.getD i1.toNat []).getD i2.toNat 0))))==false)&&((decide ((0:Int)<i2))==true))=true->(A1 i2 (a6.getD i1.toNat []).length)) (A0 ((((bif (decide (((a6.getD i1.toNat []).getD i2.toNat 0)<0)) then true else(decide ((a6.length:Int)<=((a6.getD i1.toNat []).getD i2.toNat 0))))==false)&&((decide ((0:Int)<i2))==true))=true->(A1 i1 a6.length)) (A0 ((((bif (decide (((a6.getD i1.toNat []).getD i2.toNat 0)<0)) then true else(decide ((a6.length:Int)<=((a6.getD i1.toNat []).getD i2.toNat 0))))==false)&&((decide ((0:Int)<i2))==true))=true->(A1 (w64 (i2-1)) (a6.getD i1.toNat []).length)) (bif (bif (bif (decide (((a6.getD i1.toNat []).getD i2.toNat 0)<0)) then true else(decide ((a6.length:Int)<=((a6.getD i1.toNat []).getD i2.toNat 0)))) then true else(bif (decide ((0:Int)<i2)) then(decide (((a6.getD i1.toNat []).getD i2.toNat 0)<=((a6.getD i1.toNat []).getD (w64 (i2-1)).toNat (0:Int)))) else false)) then(some (.done (.inr ((⟨([]:Li),([]:Li)⟩:TGraph),(5:Int))))) else(some (.next (w64 (i2+1))))))))))))) else(some (.done (.inl ())))))
def Gd(a6:Li):Int->Option ww:=
 λ(i1:Int)=>(bif (decide (i1<(a6.length:Int))) then((Ac (Eh a6 i1) (0:Int)).bind (λx12=>(match x12 with|(.inl _)=>(some (.next (w64 (i1+1))))|(.inr r14)=>(some (.done (.inr r14)))))) else(some (.done (.inl ()))))
def Ii(a6:Li)(i18:Int):rH->Option yT6:=
 λ((i21,l22):rH)=>(bif (decide (i21<(a6.length:Int))) then(Option.bind (α:=Li) (A0 (A1 i21 a6.length) ((Cj (a6.getD i21.toNat []) i18).bind λx26=>(bif x26 then(A0 (A1 i18 l22.length) (A0 (A1 i18 l22.length) (A0 ((l22.getD i18.toNat []).length+([i21]:Ar).length<=room) (A0 (A1 i18 l22.length) (some (l22.set i18.toNat ((l22.getD i18.toNat [])++([i21]:Ar)))))))) else(some l22)))) (λx31=>(some (.next ((w64 (i21+1)),x31))))) else(some (.done l22)))
def Ei(a6:Li):rH->Option yT6:=
 λ((i18,l19):rH)=>(bif (decide (i18<(a6.length:Int))) then((Ac (Ii a6 i18) ((0:Int),l19)).bind (λx33=>(some (.next ((w64 (i18+1)),x33))))) else(some (.done l19)))
def R5(Γ:H5)(a6:Li)(r:kB):Exit->St->Prop:=fK Tryz.prog Γ Tryz.f67.results.toList [] (.tuple (sE r.1 r.2)) []
def Wb(a6:Li):AV:=(NK a6)
def rO(a6:Li):AV:=(.int .i64 (a6.length:Int))
def rN(a6:Li)(i1:Int)(i2:Int):=((bif (decide (((a6.getD i1.toNat []).getD i2.toNat 0)<0)) then true else(decide ((a6.length:Int)<=((a6.getD i1.toNat []).getD i2.toNat 0))))==false)
def Aac(i2:Int):=((decide ((0:Int)<i2))==true)
def kR(a6:Li)(i1:Int)(i2:Int):=((rN a6 i1 i2)&&(Aac i2))
def kQ:List MI:=[Uk,(3,(.int .i64 (5:Int)))]
def YU(l22:Li)(i18:Int)(i21:Int):=((l22.getD i18.toNat [])++([i21]:Ar))
def xM:AV:=zx
def ek(a6:Li):=(List.replicate (a6.length:Int).toNat ([]:Ar))
def MV:List AV:=[Zz,Zz]
def rQ(a6:Li):List MI:=[(0,(Wb a6)),Uk,(4,(rO a6)),(7,(.ptr 7 0))]
def u7(a6:Li)(i1:Int)(i2:Int):=((decide (((a6.getD i1.toNat []).getD i2.toNat 0)<0))==false)
def bq:List AV:=[xB,xB]
def rP(a6:Li)(i18:Int)(i21:Int):List MI:=[(0,(Wb a6)),Uk,(4,(rO a6)),(7,(.ptr 7 0)),(8,(Z5 i18)),(9,(Z5 i21))]
def H2(a6:Li):Option kB:=
 (bif (bif ((a6.length:Int)==0) then true else(decide ((64:Int)<(a6.length:Int)))) then(some ((⟨([]:Li),([]:Li)⟩:TGraph),(5:Int))) else((Ac (Gd a6) (0:Int)).bind (λx15=>(match x15 with|(.inl _)=>(A0 (0<=(a6.length:Int)/\(a6.length:Int)<=(a6.length:Int)/\(a6.length:Int)<=(room:Int)) ((Ac (Ei a6) ((0:Int),(List.replicate (a6.length:Int).toNat ([]:Ar)))).bind (λx35=>(some ((⟨a6,x35⟩:TGraph),(0:Int))))))|(.inr r37)=>(some r37)))))
variable{v14:Li}{v16:kB}
theorem Rf(h:H2 v14=some v16):sP 67 [(NK v14)] [] (.tuple (sE v16.1 v16.2)) []:=
 sG Tryz.func67 λΓ q=>have hΓ:=q.own;tW q [0,2] [2] [0,2,4] [2] (tU q [0,2,4,17] [2] (c2 (gI (((v14.length:Int)==0)==false)) (Nf ((v14.length:Int)==0))) (gC h (λh=>gR q E0 [2] [(18,(.agg bq))] [] (c1 (show(AVle (.agg MV) (.agg bq)) from(AVle.agg (.cons El (.cons El .nil))))) (Qb (⟨kQ,[(Pt 56 bq)],[]⟩:St) (tS h (gK (e:=.ret) (H6 [] (show Le Γ _ (⟨kQ,[(mW xM)],[]⟩:St) from Le.trans (Bi (st':=⟨kQ,[(Pt 56 bq)],[]⟩) E0 [2] q) (I8 (.cons (AVle.refl _) (.cons (AVle.refl _) .nil)) (.row (.cons AVle.untag (.cons AVle.untag .nil)) .nil)))))))) λh=>Af q TM [2] (tL q h TM [2] (λu i1=>(Cl u [(5,(Z5 i1))] [])) (λu x_=>match x_ with|(.inl _)=>aG Γ (.exit 0) (Nh [0,2,4] [2] u [] [])|(.inr r_)=>aR (R5 Γ v14 r_)) (λi1 y h=>Af q [0,2,4,5,21] [2] (gC h (λh=>Af q iW [2] (tL q h iW [2] (λu i2=>(Cl u [(6,(Z5 i2))] [])) (λu x_=>match x_ with|(.inl _)=>aG Γ (.exit 2) (Nh TM [2] u [] [])|(.inr r_)=>aR (R5 Γ v14 r_)) (λi2 y h=>tV q [0,2,4,5,6,30] [2] h λh=>gC h (λh=>tC h λc4_ h=>tC h λc5_ h=>tC h λc6_ h=>tC h λc7_ h=>tC h λc8_ h=>tC h λc9_ h=>tC h λc10_ h=>tC h λc11_ h=>tU q [0,2,4,5,6,73] [2] (eX c4_ c5_ (M3 (u7 v14 i1 i2) (ci c6_ (Vl (u7 v14 i1 i2) (ci c7_ (Vl (u7 v14 i1 i2) (ci (Nf (decide (((v14.getD i1.toNat []).getD i2.toNat 0)<0))) (M3 (rN v14 i1 i2) (M3 (kR v14 i1 i2) (ci c8_ (Vl (kR v14 i1 i2) (ci c9_ (Vl (kR v14 i1 i2) (ci c10_ (ZP (kR v14 i1 i2) (ci c11_ (Vl (kR v14 i1 i2) (c3 (gI (rN v14 i1 i2)) (show((rN v14 i1 i2)=true->((decide ((0:Int)<i2))=true->(kR v14 i1 i2)=true)) from(λhg=>(aT hg))) (Nf (bif (decide (((v14.getD i1.toNat []).getD i2.toNat 0)<0)) then true else(decide ((v14.length:Int)<=((v14.getD i1.toNat []).getD i2.toNat 0))))))))))))))))))))))) (gC h (λh=>gR q E0 [2] [(74,(.agg bq))] [] (c1 (show(AVle (.agg MV) (.agg bq)) from(AVle.agg (.cons El (.cons El .nil))))) (Qb (⟨kQ,[(Pt 56 bq)],[]⟩:St) (tS h (gO (Ll (H6 [] (show Le Γ _ (⟨kQ,[(mW xM)],[]⟩:St) from Le.trans (Bi (st':=⟨kQ,[(Pt 56 bq)],[]⟩) E0 [2] q) (I8 (.cons (AVle.refl _) (.cons (AVle.refl _) .nil)) (.row (.cons AVle.untag (.cons AVle.untag .nil)) .nil))))))))) λh=>Af q iW [2] (tN h))) λh=>tS h (gO (Bd (Bi TM [2] q)))) λx12 h=>(match x12,h with | .inl _,h=>gA (Af q TM [2] (tN h)) | .inr r14,h=>O2 (λst' hk=>tS h (gO (Ll hk)))))) λh=>tS h (gO (Bd (Bi [0,2,4] [2] q))))) λx15 h=>(match x15,h with | .inl _,h=>gA (tV q [0,2,4,7] [2,7,77] h λh=>Qb (⟨(rQ v14),[(Pt 56 MV),(7,.row 56 [(Wb v14),(.vsl 77 (v14.length:Int).toNat)]),(77,.arr 1 22 ((v14.length:Int).toNat) (λi_=>AV.eraseAll (λn_=>Bw n_ [2,7,77]) ((λ_=>[Zz]) i_)))],[]⟩:St) (gLe (Le.trans (I8 (st':=⟨(rQ v14),[(Pt 56 MV),(7,.row 56 [(Wb v14),(.vsl 77 (v14.length:Int).toNat)]),(77,.arr 1 22 ((v14.length:Int).toNat) (Ov 1 Ap (0:Int) (ek v14) (λ_=>.exact)))],[]⟩) (TmpsLe.refl _) (.same (.same (.arr ca .nil)))) (Le.trans (Le.trans (cp (r:=77) (b:=70077) Ap (0:Int) (ek v14) 3 rfl rfl (N8 ..).symm (λh_=>absurd h_ (by decide))) (Gt (st':=⟨(rQ v14),[(Pt 56 MV),(7,.row 56 [(Wb v14),(.vsl 77 (v14.length:Int).toNat)]),(77,.arr 1 22 ((v14.length:Int).toNat) (Ov 1 Ap (0:Int) (ek v14) (Tag.fam 70077)))],[(70077,⟨1,3,Nl (ek v14)⟩)]⟩) (by kernel_rfl))) (Gt (Bg (λk_:Nat=>(⟨(rQ v14),[(Pt 56 MV),(nP (Wb v14) k_),(b6 77 k_ (ek v14) 70077)],[(70077,⟨1,3,Nl (ek v14)⟩)]⟩:St)) (show(v14.length:Int).toNat=(ek v14).length from(N8 ..).symm))))) (Af q TC Vg (tL q h TC Vg (λu (i18,l19)=>(Cl u [(8,(Z5 i18))] [(nP (Wb v14) l19.length),(b6 77 l19.length l19 70077)] [(70077,⟨1,3,Nl l19⟩)])) (λu l20=>aG Γ (.exit 4) (Nh [2,7] Vg u [] [(nP (Wb v14) l20.length),(b6 77 l20.length l20 70077)] [(70077,⟨1,3,Nl l20⟩)])) (λ⟨i18,l19⟩ y h=>Af q [0,2,4,7,8,81] Vg (gC h (λh=>Af q ST Vg (tL q h ST Vg (λu (i21,l22)=>(Cl u [(9,(Z5 i21))] [(nP (Wb v14) l22.length),(b6 77 l22.length l22 70077)] [(70077,⟨1,3,Nl l22⟩)])) (λu l23=>aG Γ (.exit 6) (Nh TC Vg u [] [(nP (Wb v14) l23.length),(b6 77 l23.length l23 70077)] [(70077,⟨1,3,Nl l23⟩)])) (λ⟨i21,l22⟩ y h=>Af q [0,2,4,7,8,9,86] Vg (gC h (λh=>tB h λx31 y31 h=>gJ y31 (λl24=>aG Γ .normal (⟨(rP v14 i18 i21),[(Pt 56 MV),(nP (Wb v14) l24.length),(b6 77 l24.length l24 70077)],[(70077,⟨1,3,Nl l24⟩)]⟩:St)) (λy h=>tC h λc25_ h=>tB h λx26 y26 h=>tT q [0,2,4,7,8,9,94] Vg [(Z2 x26)] (c2 c25_ (H3 y26)) (gC h (λh=>Qb (⟨[(0,(Wb v14)),Uk,(4,(rO v14)),(7,(.ptr 7 0)),(8,(Z5 i18)),(9,(Z5 i21)),(94,(.bool x26))],[(Pt 56 MV),(nP (Wb v14) l22.length),(b6 77 l22.length l22 70077)],[(70077,⟨1,3,Nl l22⟩)]⟩:St) (tC h λc27_ h=>tC h λc28_ h=>tC h λc29_ h=>tC h λc30_ h=>gLe (Le.trans (jX (r:=77) (b:=70077) (k:=60077) Ap (0:Int) l22 i18.toNat 3 rfl rfl rfl rfl (Ql c27_) (by kernel_rfl) (.row (by kernel_rfl) (.row (by kernel_rfl) (.here .nil)))) (Gt (st':=⟨[(0,(Wb v14)),Uk,(4,(rO v14)),(7,(.ptr 7 0)),(8,(Z5 i18)),(9,(Z5 i21)),(94,(.bool x26))],[(Pt 56 MV),(nP (Wb v14) l22.length),(77,.arr 1 22 l22.length (Ov 1 Ap (0:Int) l22 (Hq 70077 i18.toNat 60077))),(60077,.tok 1 3 ((l22.getD i18.toNat []).length))],[(70077,⟨1,3,AX l22 i18.toNat⟩)]⟩) (by kernel_rfl))) (gR q ST qp [(102,(AV.list 1 Ap 0 (l22.getD i18.toNat []) (.own 60077))),(104,(uZ i21)),(105,(V7 (YU l22 i18 i21) 60077))] [] (d9_ c28_ (Eq.refl l22.length) (show(AVle (((Ov 1 Ap (0:Int) l22 (Hq 70077 i18.toNat 60077)) i18.toNat).getD 0 .any) (AV.list 1 Ap 0 (l22.getD i18.toNat []) (.own 60077))) from VX) (Bp 1 Ap (0:Int) ([i21]:Ar)) (Eq.refl ((l22.getD i18.toNat []).length)) c29_ (Iz 1 60077 Ap (0:Int) (l22.getD i18.toNat []) ([i21]:Ar)) (E3 (l22.getD i18.toNat []) ([i21]:Ar)) c30_ (c1 (Eq.refl l22.length))) (Qb (⟨(rP v14 i18 i21),[(Pt 56 MV),(nP (Wb v14) l22.length),(77,.arr 1 22 l22.length (λi_=>AV.eraseAll (λn_=>Bw n_ qp) ((Fc (Ov 1 Ap (0:Int) l22 (Hq 70077 i18.toNat 60077)) i18.toNat 0 [(V7 (YU l22 i18 i21) 60077)]) i_))),(60077,.tok 1 3 ((YU l22 i18 i21).length))],[(70077,⟨1,3,AX l22 i18.toNat⟩)]⟩:St) (tS h (gK (Bd (Le.trans (Le.trans (Le.trans (o8 (r:=77) (b:=70077) (k:=60077) Ap (0:Int) l22 i18.toNat (YU l22 i18 i21) 3 rfl (dk (Ql c27_) rfl rfl) rfl rfl rfl rfl (Ql c27_) (by kernel_rfl) (.row (by kernel_rfl) (.row (by kernel_rfl) (.here (.tok .nil)))) (by rw[hΓ];rfl)) (Gt (st':=⟨(rP v14 i18 i21),[(Pt 56 MV),(nP (Wb v14) l22.length),(77,.arr 1 22 l22.length (Ov 1 Ap (0:Int) (l22.set i18.toNat (YU l22 i18 i21)) (Tag.fam 70077)))],[(70077,⟨1,3,Nl (l22.set i18.toNat (YU l22 i18 i21))⟩)]⟩) (by kernel_rfl))) (Gt (Bg (λk_:Nat=>(⟨(rP v14 i18 i21),[(Pt 56 MV),(nP (Wb v14) k_),(77,.arr 1 22 k_ (Ov 1 Ap (0:Int) (l22.set i18.toNat (YU l22 i18 i21)) (Tag.fam 70077)))],[(70077,⟨1,3,Nl (l22.set i18.toNat (YU l22 i18 i21))⟩)]⟩:St)) (show l22.length=(l22.set i18.toNat (YU l22 i18 i21)).length from(C8 ..).symm)))) Iq)))))))) λh=>tS h (gK (Bd (Bi ST Vg q))))) (gA (Af q ST Vg (tN h)))) λh=>tS h (gO (Bd (Bi TC Vg q))))) λx33 h=>gA (Af q TC Vg (tN h)))) λh=>tS h (gO (Bd (Bi [2,7] Vg q))))) λx35 h=>gA (Af q E0 [2,77,70077] (Qb (⟨[Uk,(3,L8)],[(2,.row 56 [(Wb v14),(.vsl 77 x35.length)]),(b6 77 x35.length x35 70077)],[(70077,⟨1,3,Nl x35⟩)]⟩:St) (tS h (gK (e:=.ret) (H6 [] (Le.trans (le_freeze (nm:=77) (sz:=1) (n:=x35.length) (e:=22) (f:=(Ov 1 Ap (0:Int) x35 (Tag.fam 70077))) (g:=(λi=>Lg (x35.getD i []))) rfl ⟨rfl,trivial⟩ (λ_ _=>rfl) (by rw[hΓ];rfl)) (Bi (st':=⟨[Uk,(3,L8)],[(2,.row 56 [(Wb v14),(rB x35 77)]),(77,.tok 1 22 x35.length)],[]⟩) E0 [2,77] q))))))))))) | .inr r37,h=>O2 (λst' hk=>tS h (gK hk))))))
def Fj(a0:TFunc)(i2:Int):Int->Option ww:=
 λ(i6:Int)=>(bif (decide (i6<(((a0.Blocks.getD i2.toNat default).End.To).length:Int))) then(A0 (A1 i6 ((a0.Blocks.getD i2.toNat default).End.To).length) (A0 (((decide ((((a0.Blocks.getD i2.toNat default).End.To).getD i6.toNat 0)<=0))==false)=true->(A1 i6 ((a0.Blocks.getD i2.toNat default).End.To).length)) (bif (bif (decide ((((a0.Blocks.getD i2.toNat default).End.To).getD i6.toNat 0)<=0)) then true else(decide ((a0.Blocks.length:Int)<=(((a0.Blocks.getD i2.toNat default).End.To).getD i6.toNat 0)))) then(some (.done (.inr ((⟨([]:Li),([]:Li)⟩:TGraph),(5:Int))))) else(some (.next (w64 (i6+1))))))) else(some (.done (.inl ()))))
abbrev uN:=(Ar×Int)
def Hm(a0:TFunc)(i2:Int):uN->Option (LR (Ar×Int) Ar):=
 λ((l11,i12):uN)=>(bif (decide (i12<(a0.Blocks.length:Int))) then(Option.bind (α:=Ar) ((Cj ((a0.Blocks.getD i2.toNat default).End.To) i12).bind λx15=>(bif x15 then(A0 (l11.length+([i12]:Ar).length<=room) (some (l11++([i12]:Ar)))) else(some l11))) (λx17=>(some (.next (x17,(w64 (i12+1))))))) else(some (.done l11)))
def Ch(a0:TFunc):(Li×Int)->Option (LR (Li×Int) (Li ⊕ (TGraph×Int))):=
 λ((l1,i2):(Li×Int))=>(bif (decide (i2<(a0.Blocks.length:Int))) then(A0 (A1 i2 a0.Blocks.length) (A0 (((bif (decide (((a0.Blocks.getD i2.toNat default).End.Kind:Int)<0)) then true else(decide ((3:Int)<(a0.Blocks.getD i2.toNat default).End.Kind)))==false)=true->(A1 (a0.Blocks.getD i2.toNat default).End.Kind ([(0:Int),(1:Int),(2:Int),(0:Int)]:Ar).length)) (bif (bif (bif (decide (((a0.Blocks.getD i2.toNat default).End.Kind:Int)<0)) then true else(decide ((3:Int)<(a0.Blocks.getD i2.toNat default).End.Kind))) then true else((((a0.Blocks.getD i2.toNat default).End.To).length:Int)!=(([(0:Int),(1:Int),(2:Int),(0:Int)]:Ar).getD ((a0.Blocks.getD i2.toNat default).End.Kind).toNat (0:Int)))) then(some (.done (.inr ((⟨([]:Li),([]:Li)⟩:TGraph),(5:Int))))) else((Ac (Fj a0 i2) (0:Int)).bind (λx9=>(match x9 with|(.inl _)=>((Ac (Hm a0 i2) (([]:Ar),(1:Int))).bind (λx19=>(A0 (l1.length+([x19]:Li).length<=room) (some (.next ((l1++([x19]:Li)),(w64 (i2+1))))))))|(.inr r22)=>(some (.done (.inr r22))))))))) else(some (.done (.inl l1))))
def Tq(Γ:H5)(a0:TFunc)(r:kB):Exit->St->Prop:=fK Tryz.prog Γ Tryz.f31.results.toList [] (.tuple (sE r.1 r.2)) []
def en:AV:=Zz
def GJ(a0:TFunc)(i2:Int):=(a0.Blocks.getD i2.toNat default)
def FC:AV:=xB
def vB:AV:=(.agg [en,en])
def kS:=(⟨[Uk,(3,(.int .i64 (5:Int)))],[(mW FC)],[]⟩:St)
def u9(a0:TFunc)(i2:Int)(i6:Int):=(decide ((((GJ a0 i2).End.To).getD i6.toNat 0)<=0))
def mq(a0:TFunc):List AV:=[(Z6 a0.Params),(Z5 a0.Ret),(UD a0.Blocks)]
def vA:=(⟨[Uk,(3,(.int .i64 (5:Int)))],[(2,.row 56 [zx,zx])],[]⟩:St)
def mp(a0:TFunc)(i2:Int):=(bif (decide (((GJ a0 i2).End.Kind:Int)<0)) then true else(decide ((3:Int)<(GJ a0 i2).End.Kind)))
def xO(a0:TFunc):=(⟨[CS,Uk,(4,(.int .i64 (a0.Blocks.length:Int))),(5,(AV.list 1 Lg [] ([]:Li) (.own 5005))),(6,L8)],[(1,.row 25 (mq a0)),(mW en),(5005,.tok 1 22 (([]:Li).length))],[]⟩:St)
def xN(a0:TFunc)(l1:Li)(i2:Int):=(⟨[CS,Uk,(4,(.int .i64 (a0.Blocks.length:Int))),(5,(rB l1 5005)),(6,(Z5 i2)),(7,(.ptr 7 0)),(8,(z7 5008)),(10,uc)],[(1,.row 25 (mq a0)),(mW en),(7,.row 62 [(.int .i64 (GJ a0 i2).End.Kind),(.int .i64 (GJ a0 i2).End.Arg),(AV.list 1 Ap 0 (GJ a0 i2).End.To .none)]),(5005,.tok 1 22 l1.length),(5008,.tok 1 3 (([]:Ar).length))],[]⟩:St)
def Hs(a0:TFunc):Option kB:=
 (bif (bif ((a0.Blocks.length:Int)==0) then true else(decide ((64:Int)<(a0.Blocks.length:Int)))) then(some ((⟨([]:Li),([]:Li)⟩:TGraph),(5:Int))) else((Ac (Ch a0) (([]:Li),(0:Int))).bind (λx23=>(match x23 with|(.inl l3)=>((H2 l3).bind λx25=>(some (x25.1,x25.2)))|(.inr r26)=>(some r26)))))
theorem Oq(h:Hs v0=some v16):sP 31 [(W8 v0)] [] (.tuple (sE v16.1 v16.2)) []:=
 sG Tryz.func31 λΓ q=>tW q Ee Ee [1,2,4] Ee (tU q [1,2,4,19] Ee (c2 (gI (((v0.Blocks.length:Int)==0)==false)) (Nf ((v0.Blocks.length:Int)==0))) (gC h (λh=>gR q E0 [2] [(20,(.agg [FC,FC]))] [] (c1 (show(AVle vB (.agg [FC,FC])) from(AVle.agg (.cons El (.cons El .nil))))) (Qb kS (tS h (gK (e:=.ret) (H6 [] (show Le Γ _ vA from Le.trans (Bi (st':=kS) E0 [2] q) (I8 (.cons (AVle.refl _) (.cons (AVle.refl _) .nil)) (.row (.cons AVle.untag (.cons AVle.untag .nil)) .nil)))))))) λh=>gR q [1,2,4,5] Ee [(5,FC)] [] (c1 (B0 1 Lg [])) (Af q KN Ee (gLe (st':=(xO v0)) (Le.trans (Bi (st':=⟨[CS,Uk,(4,(.int .i64 (v0.Blocks.length:Int))),(5,FC),(6,L8)],[(1,.row 25 (mq v0)),(mW en)],[]⟩) KN Ee q) (Le.trans (Rl (t:=5) (nm:=5005) (sz':=1) (λi=>Lg (([]:Li).getD i [])) 22 rfl rfl (.inl ⟨rfl,rfl⟩) (λh_=>absurd h_ (by decide))) (Bi (st':=(xO v0)) KN TN q))) (tL q h KN TN (λu (l1,i2)=>(Cl u [(5,(rB l1 5005)),(6,(Z5 i2))] [(5005,.tok 1 22 l1.length)])) (λu x_=>match x_ with|(.inl l3)=>aG Γ (.exit 0) (Nh V5 [2,5005] u [(5,(rB l3 5005))] [(5005,.tok 1 22 l3.length)])|(.inr r_)=>aR (Tq Γ v0 r_)) (λ⟨l1,i2⟩ y h=>Af q [1,2,4,5,6,23] TN (gC h (λh=>tV q [1,2,4,5,6,7] Zc h λh=>tC h λc5_ h=>gR q [1,2,4,5,6,7,50] Zc [(44,(AV.list 1 Ap 0 ([(0:Int),(1:Int),(2:Int),(0:Int)]:Ar) .exact))] [] (M3 ((decide (((GJ v0 i2).End.Kind:Int)<0))==false) (ci (Nf (decide (((GJ v0 i2).End.Kind:Int)<0))) (M3 ((mp v0 i2)==false) (ci (show(((mp v0 i2)==false)=true->(AVle (.slice 1 4 (λi=>([[L8],[uc],[(.int .i64 (2:Int))],[L8]]:List (List AV)).getD i []) .exact) (AV.list 1 Ap 0 ([(0:Int),(1:Int),(2:Int),(0:Int)]:Ar) .exact))) from(λhg=>@(Bp 1 Ap (0:Int) ([(0:Int),(1:Int),(2:Int),(0:Int)]:Ar)))) (Vl ((mp v0 i2)==false) (ci c5_ (Vl ((mp v0 i2)==false) (c1 (Nf (mp v0 i2)))))))))) (gC h (λh=>gR q E0 [2] [(51,(.agg [FC,FC]))] [] (c1 (show(AVle vB (.agg [FC,FC])) from(AVle.agg (.cons El (.cons El .nil))))) (Qb kS (tS h (gO (Ll (H6 [] (show Le Γ _ vA from Le.trans (Bi (st':=kS) E0 [2] q) (I8 (.cons (AVle.refl _) (.cons (AVle.refl _) .nil)) (.row (.cons AVle.untag (.cons AVle.untag .nil)) .nil))))))))) λh=>gR q iG Zc [(8,fD)] [] (c1 (B0 1 Ap (0:Int))) (Af q iC Zc (tL q h iC Zc (λu i6=>(Cl u [(9,(Z5 i6))] [])) (λu x_=>match x_ with|(.inl _)=>aG Γ (.exit 2) (Nh iG Zc u [] [])|(.inr r_)=>aR (Tq Γ v0 r_)) (λi6 y h=>Af q [1,2,4,5,6,7,8,9,56] Zc (gC h (λh=>tC h λc7_ h=>tC h λc8_ h=>tU q [1,2,4,5,6,7,8,9,73] Zc (ci c7_ (Vl ((u9 v0 i2 i6)==false) (ci c8_ (Vl ((u9 v0 i2 i6)==false) (c1 (Nf (u9 v0 i2 i6))))))) (gC h (λh=>gR q E0 [2] [(74,(.agg [FC,FC]))] [] (c1 (show(AVle vB (.agg [FC,FC])) from(AVle.agg (.cons El (.cons El .nil))))) (Qb kS (tS h (gO (Ll (H6 [] (show Le Γ _ vA from Le.trans (Bi (st':=kS) E0 [2] q) (I8 (.cons (AVle.refl _) (.cons (AVle.refl _) .nil)) (.row (.cons AVle.untag (.cons AVle.untag .nil)) .nil))))))))) λh=>Af q iC Zc (tN h))) λh=>tS h (gO (Bd (Bi iG Zc q))))) λx9 h=>(match x9,h with | .inl _,h=>gA (Af q TX Zc (gLe (st':=(xN v0 l1 i2)) (Le.trans (Bi (st':=⟨[CS,Uk,(4,(.int .i64 (v0.Blocks.length:Int))),(5,(rB l1 5005)),(6,(Z5 i2)),(7,(.ptr 7 0)),(8,fD),(10,uc)],[(1,.row 25 (mq v0)),(mW en),(7,.row 62 [(.int .i64 (GJ v0 i2).End.Kind),(.int .i64 (GJ v0 i2).End.Arg),(AV.list 1 Ap 0 (GJ v0 i2).End.To .none)]),(5005,.tok 1 22 l1.length)],[]⟩) TX Zc q) (Le.trans (Rl (t:=8) (nm:=5008) (sz':=1) (λi=>Ap (([]:Ar).getD i 0)) 3 rfl rfl (.inl ⟨rfl,rfl⟩) (λh_=>absurd h_ (by decide))) (Bi (st':=(xN v0 l1 i2)) TX TY q))) (tL q h TX TY (λu (l11,i12)=>(Cl u [(8,(V7 l11 5008)),(10,(Z5 i12))] [(Ys 5008 l11.length)])) (λu l13=>aG Γ (.exit 4) (Nh [1,2,4,5,6,8] [1,2,5005,5008] u [(8,(V7 l13 5008))] [(Ys 5008 l13.length)])) (λ⟨l11,i12⟩ y h=>Af q [1,2,4,5,6,7,8,10,77] TY (gC h (λh=>tB h λx17 y17 h=>gJ y17 (λl14=>aG Γ .normal (⟨[CS,Uk,(4,(.int .i64 (v0.Blocks.length:Int))),(5,(rB l1 5005)),(6,(Z5 i2)),(7,(.ptr 7 0)),(8,(V7 l14 5008)),(10,(Z5 i12))],[(1,.row 25 (mq v0)),(mW en),(7,.row 62 [(.int .i64 (GJ v0 i2).End.Kind),(.int .i64 (GJ v0 i2).End.Arg),(AV.list 1 Ap 0 (GJ v0 i2).End.To .none)]),(5005,.tok 1 22 l1.length),(Ys 5008 l14.length)],[]⟩:St)) (λy h=>tB h λx15 y15 h=>tT q [1,2,4,5,6,7,8,10,83] TY [(Z2 x15)] (c1 (H3 y15)) (gC h (λh=>tC h λc16_ h=>gR q TX TY (vf 86 i12 87 l11 5008) [] (c5 (Bp 1 Ap (0:Int) ([i12]:Ar)) (Eq.refl l11.length) c16_ (Iz 1 5008 Ap (0:Int) l11 ([i12]:Ar)) (E3 l11 ([i12]:Ar))) (tS h (gK (Bd Iq)))) λh=>tS h (gK (Bd (Bi TX TY q))))) (gA (Af q TX TY (tN h)))) λh=>tS h (gO (Bd (Bi [1,2,4,5,6,8] [1,2,5005,5008] q))))) λx19 h=>gA (tC h λc21_ h=>gR q KN TN [(90,(AV.list 1 Lg [] ([x19]:Li) .exact)),(91,(AV.list 1 Lg [] (l1++([x19]:Li)) (.own 5005)))] [] (c5 (Bp 1 Lg [] ([x19]:Li)) (Eq.refl l1.length) c21_ (Iz 1 5005 Lg [] l1 ([x19]:Li)) (E3 l1 ([x19]:Li))) (Af q KN TN (tN h)))))) | .inr r22,h=>O2 (λst' hk=>tS h (gO (Ll hk)))))))) λh=>tS h (gO (Bd (Bi V5 [2,5005] q))))) λx23 h=>(match x23,h with | .inl l3,h=>gA (tB h λx25 y25 h=>tT q E0 [2] [(vk x25.1 x25.2)] (c1 (Rf y25)) (tS h (Cc []))) | .inr r26,h=>O2 (λst' hk=>tS h (gK hk))))))))
def A2(a4:TGraph)(aaB:Int)(i6:Int):Zy->Option bK:=
 λ((i9,l10):Zy)=>(A0 (A1 i6 l10.length) (A0 (((l10.getD i6.toNat false)==true)=true->(A1 i6 a4.Succ.length)) (bif (bif (l10.getD i6.toNat false) then(decide (i9<((a4.Succ.getD i6.toNat []).length:Int))) else false) then(Option.bind (α:=List Bool) (A0 (A1 i6 a4.Succ.length) (A0 (A1 i9 (a4.Succ.getD i6.toNat []).length) (bif (((a4.Succ.getD i6.toNat []).getD i9.toNat 0)!=aaB) then(A0 (A1 i6 a4.Succ.length) (A0 (A1 i9 (a4.Succ.getD i6.toNat []).length) (A0 (A1 ((a4.Succ.getD i6.toNat []).getD i9.toNat 0) l10.length) (some (l10.set ((a4.Succ.getD i6.toNat []).getD i9.toNat 0).toNat true))))) else(some l10)))) (λx20=>(some (.next ((w64 (i9+1)),x20))))) else(some (.done l10)))))
def A3(a4:TGraph)(aaB:Int):Zy->Option bK:=
 λ((i6,l7):Zy)=>(bif (decide (i6<(l7.length:Int))) then((Ac (A2 a4 aaB i6) ((0:Int),l7)).bind (λx22=>(some (.next ((w64 (i6+1)),x22))))) else(some (.done l7)))
def A4(a4:TGraph)(aaB:Int):Zy->Option bK:=
 λ((i3,l4):Zy)=>(bif (decide (i3<(l4.length:Int))) then((Ac (A3 a4 aaB) ((0:Int),l4)).bind (λx24=>(some (.next ((w64 (i3+1)),x24))))) else(some (.done l4)))
def xQ(l10:List Bool)(i6:Int):=((l10.getD i6.toNat false)==true)
def IP(a4:TGraph):=(List.replicate (a4.Succ.length:Int).toNat false)
def kT(a4:TGraph):=(λi=>eB ((IP a4).getD i false))
def rR(a4:TGraph)(i6:Int)(i9:Int):=((a4.Succ.getD i6.toNat []).getD i9.toNat 0)
def C7(a4:TGraph)(a2:Int)(aaB:Int):Option (List Bool):=
 (A0 (0<=(a4.Succ.length:Int)/\(a4.Succ.length:Int)<=(a4.Succ.length:Int)/\(a4.Succ.length:Int)<=(room:Int)) (bif (a2==aaB) then(some (List.replicate (a4.Succ.length:Int).toNat false)) else(A0 (A1 a2 (List.replicate (a4.Succ.length:Int).toNat false).length) ((Ac (A4 a4 aaB) ((0:Int),((List.replicate (a4.Succ.length:Int).toNat false).set a2.toNat true))).bind (λx26=>(some x26))))))
variable{v11:Int}{v18:TGraph}{v33:List Bool}
theorem Mh(h:C7 v18 v1 v11=some v33):sP 96 [(.agg (Us v18)),(Z5 v1),(Z5 v11)] [] (NJ v33 20000) [(Q8 20000 v33.length)]:=
 sG Tryz.func96 λΓ q=>have hΓ:=q.own;gR q GD [3] [(6,(AV.list 1 eB false ([]:List Bool) .exact))] [] (c1 (B0 1 eB false)) (tV q [1,2,3,7] Ly h λh=>by exact gLe (Le.trans (Sr 14 (show ∀ k_,k_<((v18.Succ.length:Int).toNat)->AVleL ((λi_=>AV.eraseAll (λn_=>Bw n_ Ly) ((λ_=>[(.bool false)]) i_)) k_) ((kT v18) k_) from(λk hk=>M6 (e:=eB) (d:=false) (.cons (AVle.refl _) .nil) _ k (M7 hk)))) (R9 (λ(k_:Nat) u=>(Cl u [(Vk 14 k_)] [(14,.arr 1 4 k_ (kT v18))])) (show(v18.Succ.length:Int).toNat=(IP v18).length from(N8 ..).symm))) (Af q [1,2,3,7,17] Ly (gC h (λh=>Af q [6] [14] (Qb (⟨[(6,(.vsl 14 (IP v18).length))],[(14,.arr 1 4 ((IP v18).length) (kT v18))],[]⟩:St) (tS h (gK (e:=.ret) (H6 [(14,20000)] (Le.trans (le_freeze (nm:=14) (sz:=1) (n:=((IP v18).length)) (e:=4) (f:=(kT v18)) (g:=(kT v18)) rfl ⟨rfl,trivial⟩ (λ_ _=>rfl) (by rw[hΓ];rfl)) (Gt (st':=⟨[(6,(NJ (IP v18) 14))],[(14,.tok 1 4 ((IP v18).length))],[]⟩) (by kernel_rfl)))))))) λh=>tC h λc2_ h=>tU q [2,3,7] Ly (c2 c2_ (Eq.refl ((IP v18).length))) (gLe (Le.trans (Sr 14 (show ∀ k_,k_<((IP v18).length)->AVleL ((λi_=>AV.eraseAll (λn_=>Bw n_ Ly) ((Fc (kT v18) v1.toNat 0 [(.bool true)]) i_)) k_) ((λi=>eB (((IP v18).set v1.toNat true).getD i false)) k_) from(Bh (C8 ..).symm (λk_ hk_=>(Bg (AV.eraseAll (λn_=>Bw n_ Ly)) ((Fu (λ_ _=>rfl) (Hv c2_) rfl) k_ hk_)).trans rfl)))) (R9 (λ(k_:Nat) u=>(Cl u [(Vk 14 k_)] [(14,.arr 1 4 k_ (λi=>eB (((IP v18).set v1.toNat true).getD i false)))])) (show(IP v18).length=((IP v18).set v1.toNat true).length from(C8 ..).symm))) (Af q TO Ly (tL q h TO Ly (λu (i3,l4)=>(Cl u [(Vk 14 l4.length),(8,(Z5 i3))] [(Z9 14 l4)])) (λu l5=>aG Γ (.exit 0) (⟨[(Vk 14 l5.length)],[(Z9 14 l5)],[]⟩:St)) (λ⟨i3,l4⟩ y h=>Af q [2,3,7,8,25] Ly (gC h (λh=>Af q TD Ly (tL q h TD Ly (λu (i6,l7)=>(Cl u [(Vk 14 l7.length),(9,(Z5 i6))] [(Z9 14 l7)])) (λu l8=>aG Γ (.exit 2) (Nh TO Ly u [(Vk 14 l8.length)] [(Z9 14 l8)])) (λ⟨i6,l7⟩ y h=>Af q [2,3,7,8,9,31] Ly (gC h (λh=>Af q eT Ly (tL q h eT Ly (λu (i9,l10)=>(Cl u [(Vk 14 l10.length),(10,(Z5 i9))] [(Z9 14 l10)])) (λu l11=>aG Γ (.exit 4) (Nh TD Ly u [(Vk 14 l11.length)] [(Z9 14 l11)])) (λ⟨i9,l10⟩ y h=>tC h λc12_ h=>tC h λc13_ h=>tU q [2,3,7,8,9,10,47] Ly (eX c12_ (Eq.refl l10.length) (Vl (xQ l10 i6) (ci c13_ (ZP (xQ l10 i6) (c1 (Ng (l10.getD i6.toNat false))))))) (gC h (λh=>tB h λx20 y20 h=>gJ y20 (λl14=>aG Γ .normal (⟨[(2,(Z5 v11)),(3,(.ptr 3 0)),(Vk 14 l14.length),(8,(Z5 i3)),(9,(Z5 i6)),(10,(Z5 i9))],[(3,.row 56 [(NK v18.Succ),(NK v18.Pred)]),(Z9 14 l14)],[]⟩:St)) (λy h=>tC h λc15_ h=>tC h λc16_ h=>tU q [2,3,7,8,9,10,59] Ly (c2 c15_ c16_) (gC h (λh=>tC h λc17_ h=>tC h λc18_ h=>tC h λc19_ h=>tU q eT Ly (c4 c17_ c18_ c19_ (Eq.refl l10.length)) (tS h (gK (Bd (Le.trans (Le.trans (Sr 14 (show ∀ k_,k_<l10.length->AVleL ((λi_=>AV.eraseAll (λn_=>Bw n_ Ly) ((Fc (λi=>eB (l10.getD i false)) (rR v18 i6 i9).toNat 0 [(.bool true)]) i_)) k_) ((λi=>eB ((l10.set (rR v18 i6 i9).toNat true).getD i false)) k_) from(Bh (C8 ..).symm (λk_ hk_=>(Bg (AV.eraseAll (λn_=>Bw n_ Ly)) ((Fu (λ_ _=>rfl) (Hv c19_) rfl) k_ hk_)).trans rfl)))) (R9 (λ(k_:Nat) u=>(Cl u [(Vk 14 k_)] [(14,.arr 1 4 k_ (λi=>eB ((l10.set (rR v18 i6 i9).toNat true).getD i false)))])) (show l10.length=(l10.set (rR v18 i6 i9).toNat true).length from(C8 ..).symm))) Iq))))) λh=>tS h (gK (Bd (Bi eT Ly q))))) (gA (Af q eT Ly (tN h)))) λh=>tS h (gO (Bd (Bi TD Ly q))))) λx22 h=>gA (Af q TD Ly (tN h)))) λh=>tS h (gO (Bd (Bi TO Ly q))))) λx24 h=>gA (Af q TO Ly (tN h)))) λh=>tS h (gO (Bd (Bi [7] [14] q))))) λx26 h=>gA (Af q [6] [14] (Qb (⟨[(6,(.vsl 14 x26.length))],[(Z9 14 x26)],[]⟩:St) (tS h (gK (e:=.ret) (H6 [(14,20000)] (Le.trans (le_freeze (nm:=14) (sz:=1) (n:=x26.length) (e:=4) (f:=(λi=>eB (x26.getD i false))) (g:=(λi=>eB (x26.getD i false))) rfl ⟨rfl,trivial⟩ (λ_ _=>rfl) (by rw[hΓ];rfl)) (Gt (st':=⟨[(6,(NJ x26 14))],[(Q8 14 x26.length)],[]⟩) (by kernel_rfl))))))))))))))
def Fn(a0:TFunc)(x1:kB)(i3:Int):Int->Option (LR Int (Unit ⊕ Bool)):=
 λ(i6:Int)=>(bif (decide (i6<(((a0.Blocks.getD i3.toNat default).Phis).length:Int))) then(A0 (A1 i6 ((a0.Blocks.getD i3.toNat default).Phis).length) (A0 (A1 i3 x1.1.Pred.length) ((Dp ((((a0.Blocks.getD i3.toNat default).Phis).getD i6.toNat default).From) (x1.1.Pred.getD i3.toNat [])).bind λx9=>(A0 (((!x9)==false)=true->(A1 i6 ((a0.Blocks.getD i3.toNat default).Phis).length)) (A0 (((!x9)==false)=true->(A1 i3 x1.1.Pred.length)) (bif (bif (!x9) then true else((((((a0.Blocks.getD i3.toNat default).Phis).getD i6.toNat default).Args).length:Int)!=((x1.1.Pred.getD i3.toNat []).length:Int))) then(some (.done (.inr false))) else(some (.next (w64 (i6+1)))))))))) else(some (.done (.inl ()))))
def Fo(a0:TFunc)(x1:kB)(x2:List Bool):Int->Option (LR Int (Unit ⊕ Bool)):=
 λ(i3:Int)=>(bif (decide (i3<(a0.Blocks.length:Int))) then(A0 (A1 i3 a0.Blocks.length) (A0 (A1 i3 x2.length) (bif (bif (!(x2.getD i3.toNat false)) then true else(bif (bif (((a0.Blocks.getD i3.toNat default).End.Kind:Int)==1) then true else(((a0.Blocks.getD i3.toNat default).End.Kind:Int)==3)) then(((a0.Blocks.getD i3.toNat default).End.Arg:Int)!=0) else false)) then(some (.done (.inr false))) else((Ac (Fn a0 x1 i3) (0:Int)).bind (λx12=>(match x12 with|(.inl _)=>(some (.next (w64 (i3+1))))|(.inr r14)=>(some (.done (.inr r14))))))))) else(some (.done (.inl ()))))
def Q9(Γ:H5)(a0:TFunc)(r:Bool):Exit->St->Prop:=fK Tryz.prog Γ Tryz.f52.results.toList [] (.bool r) []
def YV(x2:List Bool)(i3:Int):=((!(x2.getD i3.toNat false))==false)
def ep(a0:TFunc)(i3:Int):=((a0.Blocks.getD i3.toNat default).End.Kind:Int)
def xR(x2:List Bool)(i3:Int)(a0:TFunc):=((YV x2 i3)&&((bif ((ep a0 i3)==1) then true else((ep a0 i3)==3))==true))
def J0(a0:TFunc):Option Bool:=
 ((Hs a0).bind λx1=>(bif (x1.2 !=0) then(some false) else((C7 x1.1 (0:Int) (-1:Int)).bind λx2=>((Ac (Fo a0 x1 x2) (0:Int)).bind (λx15=>(match x15 with|(.inl _)=>(some true)|(.inr r17)=>(some r17)))))))
theorem Ya(h:J0 v0=some v3):sP 52 [(W8 v0)] [] (.bool v3) []:=
 sG Tryz.func52 λΓ q=>Af q [1] [1] (tB h λx1 y1 h=>tT q J8 L6 [(vk x1.1 x1.2)] (c1 (Oq y1)) (Af q [1,3,15] L6 (gC h (λh=>Af q [2] [] (tS h (Cc []))) λh=>tB h λx2 y2 h=>tT q KS GB [(xC 17 x2 x2.length)] (c1 (Mh y2)) (Af q IK GB (tL q h IK GB (λu i3=>(Cl u [(6,(Z5 i3))] [])) (λu x_=>match x_ with|(.inl _)=>aG Γ (.exit 0) (⟨[],[],[]⟩:St)|(.inr r_)=>aR (Q9 Γ v0 r_)) (λi3 y h=>Af q [1,3,5,6,22] GB (gC h (λh=>tV q TE FY h λh=>tC h λc5_ h=>tU q [1,3,5,6,7,52] FY (ci c5_ (ZP (YV x2 i3) (Vl ((YV x2 i3)&&(((ep v0 i3)==1)==false)) (ZK (gI (YV x2 i3)) (show((YV x2 i3)=true->(((ep v0 i3)==1)=false->((YV x2 i3)&&(((ep v0 i3)==1)==false))=true)) from(λhg=>(aF hg))) (gI (YV x2 i3)) (Vl (xR x2 i3 v0) (c3 (gI (YV x2 i3)) (show((YV x2 i3)=true->((bif ((ep v0 i3)==1) then true else((ep v0 i3)==3))=true->(xR x2 i3 v0)=true)) from(λhg=>(aT hg))) (Nf (!(x2.getD i3.toNat false))))))))) (gC h (λh=>Af q [2] [] (tS h (gO (Ll (H6 [] (Le.refl _ _)))))) λh=>Af q iL FY (tL q h iL FY (λu i6=>(Cl u [(8,(Z5 i6))] [])) (λu x_=>match x_ with|(.inl _)=>aG Γ (.exit 2) (Nh IK GB u [] [])|(.inr r_)=>aR (Q9 Γ v0 r_)) (λi6 y h=>Af q [1,3,5,6,7,8,57] FY (gC h (λh=>tC h λc7_ h=>tC h λc8_ h=>tB h λx9 y9 h=>tC h λc10_ h=>tC h λc11_ h=>tT q [1,3,5,6,7,8,88] FY [(Z2 x9)] (ZK c7_ c8_ (J2 y9) (Vl ((!x9)==false) (ci c10_ (gI6 ((!x9)==false) (ci c11_ (ZP ((!x9)==false) (c1 (Nf (!x9))))))))) (gC h (λh=>Af q [2] [] (tS h (gO (Ll (H6 [] (Le.refl _ _)))))) λh=>Af q iL FY (tN h))) λh=>tS h (gO (Bd (Bi IK GB q))))) λx12 h=>(match x12,h with | .inl _,h=>gA (Af q IK GB (tN h)) | .inr r14,h=>O2 (λst' hk=>tS h (gO (Ll hk))))))) λh=>tS h (gO (Bd (Bi [] [] q))))) λx15 h=>(match x15,h with | .inl _,h=>gA (Af q [2] [] (tS h (Cc []))) | .inr r17,h=>O2 (λst' hk=>tS h (gK hk))))))))
def rS(aE:Int):=(bif (bif (aE==1) then true else(aE==8)) then true else(aE==16))
def Da(aE:Int):Option Bool:=
 (some (bif (bif (bif (bif (aE==1) then true else(aE==8)) then true else(aE==16)) then true else(aE==32)) then true else(aE==64)))
theorem Ez(h:Da v1=some v3):sP 97 [(Z5 v1)] [] (.bool v3) []:=
 sG Tryz.func97 λΓ q=>Af q [0] [] (tU q [2] [] (c8 (gI ((v1==1)==false)) (Nf (v1==1)) (gI ((bif (v1==1) then true else(v1==8))==false)) (Nf (bif (v1==1) then true else(v1==8))) (gI ((rS v1)==false)) (Nf (rS v1)) (gI ((bif (rS v1) then true else(v1==32))==false)) (Nf (bif (rS v1) then true else(v1==32)))) (tS h (Cc [])))
def mr(aN:Int):=(bif (aN==2) then true else(aN==4))
def vC(aN:Int):=(bif (bif (mr aN) then true else(aN==8)) then true else(aN==16))
def xS(aN:Int)(aE:Int):=(bif (vC aN) then(decide ((1:Int)<aE)) else false)
def Jy(aE:Int)(aN:Int):Option Bool:=
 ((Da aE).bind λx1=>(bif (!x1) then(some false) else(bif (aN==1) then(some true) else(some (bif (bif (bif (bif (bif (aN==2) then true else(aN==4)) then true else(aN==8)) then true else(aN==16)) then(decide ((1:Int)<aE)) else false) then(decide (((w64 (aE*aN)):Int)<=128)) else false)))))
theorem X4(h:Jy v1 v11=some v3):sP 146 [(Z5 v1),(Z5 v11)] [] (.bool v3) []:=
 sG Tryz.func146 λΓ q=>Af q Gn [] (tB h λx1 y1 h=>tT q [0,1,7] [] [(Z2 x1)] (c1 (Ez y1)) (gC h (λh=>Af q [4] [] (tS h (Cc []))) λh=>Af q [0,1,9] [] (gC h (λh=>Af q [4] [] (tS h (Cc []))) λh=>tU q [4] [] (d8_ (gI ((v11==2)==false)) (Nf (v11==2)) (gI ((mr v11)==false)) (Nf (mr v11)) (gI ((bif (mr v11) then true else(v11==8))==false)) (Nf (bif (mr v11) then true else(v11==8))) (gI ((vC v11)==true)) (Ng (vC v11)) (Vl ((xS v11 v1)==true) (c1 (Ng (xS v11 v1))))) (tS h (Cc [])))))
def vD(a1:B2):List OG:=[(yN a1.Kind a1.Bits a1.Lanes a1.Dst a1.Args a1.Imm)]
def Km(a1:B2):Option Int:=
 (bif (a1.Kind==0) then(some (0:Int)) else(Option.bind (α:=Bool) (bif (a1.Kind==1) then(some (a1.Kind==1)) else(bif (a1.Kind==2) then(some (a1.Kind==2)) else(bif (a1.Kind==3) then(some (a1.Kind==3)) else(bif (a1.Kind==4) then(some (a1.Kind==4)) else(bif (a1.Kind==5) then(some (a1.Kind==5)) else(bif (a1.Kind==6) then(some (a1.Kind==6)) else(bif (a1.Kind==7) then(some (a1.Kind==7)) else(bif (a1.Kind==8) then(some (a1.Kind==8)) else(bif (a1.Kind==9) then(some (a1.Kind==9)) else(bif (a1.Kind==10) then(some (a1.Kind==10)) else(bif (a1.Kind==11) then(some (a1.Kind==11)) else(bif (a1.Kind==12) then(some (a1.Kind==12)) else(some (a1.Kind==17)))))))))))))) (λx2=>(bif x2 then(some (2:Int)) else(Option.bind (α:=Bool) (bif (a1.Kind==13) then(some (a1.Kind==13)) else(bif (a1.Kind==18) then(some (a1.Kind==18)) else(some (a1.Kind==19)))) (λx5=>(bif x5 then(some (3:Int)) else(Option.bind (α:=Bool) (bif (a1.Kind==14) then(some (a1.Kind==14)) else(bif (a1.Kind==15) then(some (a1.Kind==15)) else(bif (a1.Kind==16) then(some (a1.Kind==16)) else(some (a1.Kind==22))))) (λx8=>(bif x8 then(some (1:Int)) else(bif (a1.Kind==20) then(some (4:Int)) else(bif (a1.Kind==21) then(some a1.Lanes) else(some (-1:Int))))))))))))))
variable{v6:B2}
theorem Zn(h:Km v6=some v1):sP 147 (fF v6) [] (.int .i64 v1) []:=
 sG Tryz.func147 λΓ q=>tW q [1] [1] P6 [1] (Af q [1,4,5] [1] (gC h (λh=>Af q [2] [] (tS h (Cc []))) λh=>tB h λx2 y2 h=>gJ y2 (λb1=>aG Γ .normal (⟨[CS,(4,(Z5 v6.Kind)),(7,(.bool b1))],(vD v6),[]⟩:St)) (λy h=>Af q W7 [1] (gC h (λh=>tS h (gK (Bd Iq))) λh=>Af q W7 [1] (gC h (λh=>tS h (gK (Bd Iq))) λh=>Af q W7 [1] (gC h (λh=>tS h (gK (Bd Iq))) λh=>Af q W7 [1] (gC h (λh=>tS h (gK (Bd Iq))) λh=>Af q W7 [1] (gC h (λh=>tS h (gK (Bd Iq))) λh=>Af q W7 [1] (gC h (λh=>tS h (gK (Bd Iq))) λh=>Af q W7 [1] (gC h (λh=>tS h (gK (Bd Iq))) λh=>Af q W7 [1] (gC h (λh=>tS h (gK (Bd Iq))) λh=>Af q W7 [1] (gC h (λh=>tS h (gK (Bd Iq))) λh=>Af q W7 [1] (gC h (λh=>tS h (gK (Bd Iq))) λh=>Af q W7 [1] (gC h (λh=>tS h (gK (Bd Iq))) λh=>Af q W7 [1] (gC h (λh=>tS h (gK (Bd Iq))) λh=>Af q W7 [1] (tS h (gK (Bd Iq)))))))))))))))) (gA (gC h (λh=>Af q [2] [] (tS h (Cc []))) λh=>tB h λx5 y5 h=>gJ y5 (λb4=>aG Γ .normal (⟨[CS,(4,(Z5 v6.Kind)),(21,(.bool b4))],(vD v6),[]⟩:St)) (λy h=>Af q [1,4,21] [1] (gC h (λh=>tS h (gK (Bd Iq))) λh=>Af q [1,4,21] [1] (gC h (λh=>tS h (gK (Bd Iq))) λh=>Af q [1,4,21] [1] (tS h (gK (Bd Iq)))))) (gA (gC h (λh=>Af q [2] [] (tS h (Cc []))) λh=>tB h λx8 y8 h=>gJ y8 (λb7=>aG Γ .normal (⟨[CS,(4,(Z5 v6.Kind)),(25,(.bool b7))],(vD v6),[]⟩:St)) (λy h=>Af q [1,4,25] [1] (gC h (λh=>tS h (gK (Bd Iq))) λh=>Af q [1,4,25] [1] (gC h (λh=>tS h (gK (Bd Iq))) λh=>Af q [1,4,25] [1] (gC h (λh=>tS h (gK (Bd Iq))) λh=>Af q [1,4,25] [1] (tS h (gK (Bd Iq))))))) (gA (gC h (λh=>Af q [2] [] (tS h (Cc []))) λh=>Af q [1,4,30] [1] (gC h (λh=>Af q [2] [] (tS h (Cc []))) λh=>Af q [1,32] [1] (gC h (λh=>Af q [2] [] (tS h (Cc []))) λh=>Af q [2] [] (tS h (Cc []))))))))))))
def Ln(aD:Int)(aE:Int):Option Int:=
 ((Da aE).bind λx1=>(bif (!x1) then(some (0:Int)) else(bif (aE==64) then(some aD) else(A0 (0<=(Iu aE)) (A0 ((RW .u64 (1:Int) (Iu aE))≠0) (some (Int.tmod aD (RW .u64 (1:Int) (Iu aE)))))))))
variable{v20:Int}
theorem BJ(h:Ln v1 v11=some v20):sP 194 [(.int .u64 v1),(Z5 v11)] [] (.int .u64 v20) []:=
 sG Tryz.func194 λΓ q=>Af q Gn [] (tB h λx1 y1 h=>tT q [0,1,7] [] [(Z2 x1)] (c1 (Ez y1)) (gC h (λh=>Af q [4] [] (tS h (Cc []))) λh=>Af q [0,1,9] [] (gC h (λh=>Af q [4] [] (tS h (Cc []))) λh=>tC h λc2_ h=>tC h λc3_ h=>tU q [4] [] (c2 c2_ c3_) (tS h (Cc [])))))
def AD(Γ:H5)(a1:B2)(r:Bool):Exit->St->Prop:=fK Tryz.prog Γ Tryz.f148.results.toList [] (.bool r) []
def xT(a1:B2):=(a1.Kind==15)
def mu(a1:B2):=((a1.Kind==4)==false)
def vG(a1:B2):=(decide (a1.Imm<(Iu a1.Bits)))
def vI(a1:B2):=(bif (a1.Kind==4) then true else(bif (decide ((10:Int)<=a1.Kind)) then(decide (a1.Kind<=12)) else false))
def rT(a1:B2):=(bif (vI a1) then true else(a1.Kind==14))
def mv(a1:B2):=((bif (rT a1) then true else(xT a1))==false)
def vH(a1:B2):=(bif (decide ((16:Int)<=a1.Kind)) then(decide (a1.Kind<=19)) else false)
def mt(a1:B2):=(bif (vH a1) then(decide (a1.Bits<8)) else false)
def xU(a1:B2):=(((mt a1)==false)&&((decide ((21:Int)<=a1.Kind))==true))
def vE(a1:B2):=(bif (decide (((Iu a1.Bits):Int)<a1.Imm)) then(decide (a1.Imm<=64)) else false)
def Gb(a1:B2):Option Bool:=
 (Option.bind (α:=(Unit ⊕ Bool)) (bif (bif (bif (bif (bif (a1.Kind==4) then true else(bif (decide ((10:Int)<=a1.Kind)) then(decide (a1.Kind<=12)) else false)) then true else(a1.Kind==14)) then true else(a1.Kind==15)) then true else(bif (decide ((18:Int)<=a1.Kind)) then(decide (a1.Kind<=20)) else false)) then(bif (a1.Lanes !=1) then(some (.inr false)) else(some (.inl ()))) else(some (.inl ()))) (λx1=>(match x1 with|(.inl _)=>(bif (bif (bif (bif (decide ((16:Int)<=a1.Kind)) then(decide (a1.Kind<=19)) else false) then(decide (a1.Bits<8)) else false) then true else(bif (decide ((21:Int)<=a1.Kind)) then(decide (a1.Lanes<2)) else false)) then(some false) else(bif (a1.Kind==0) then((Ln a1.Imm a1.Bits).bind λx3=>(some (x3==a1.Imm))) else(bif (a1.Kind==14) then((bif ((decide (a1.Imm<(Iu a1.Bits)))==true) then Da (w64 a1.Imm) else some false).bind λx4=>(some (bif (decide (a1.Imm<(Iu a1.Bits))) then x4 else false))) else(bif (a1.Kind==15) then((bif ((bif (decide (((Iu a1.Bits):Int)<a1.Imm)) then(decide (a1.Imm<=64)) else false)==true) then Da (w64 a1.Imm) else some false).bind λx5=>(some (bif (bif (decide (((Iu a1.Bits):Int)<a1.Imm)) then(decide (a1.Imm<=64)) else false) then x5 else false))) else(bif (a1.Kind==22) then(some (decide (a1.Imm<(Iu a1.Lanes)))) else(some (a1.Imm==0)))))))|(.inr r6)=>(some r6))))
theorem Zo(h:Gb v6=some v3):sP 148 (fF v6) [] (.bool v3) []:=
 sG Tryz.func148 λΓ q=>tW q [1] [1] L6 [1] (tB h λx1 y1 h=>gJ y1 (λx_=>match x_ with|(.inl _)=>aG Γ .normal (⟨[CS,(3,(Z5 v6.Kind))],[(yN v6.Kind v6.Bits v6.Lanes v6.Dst v6.Args v6.Imm)],[]⟩:St)|(.inr r_)=>aR (AD Γ v6 r_)) (λy h=>tU q [1,3,31] [1] (M3 (mu v6) (d8_ (gI ((mu v6)&&((decide ((10:Int)<=v6.Kind))==true))) (gI (mu v6)) (show((mu v6)=true->((decide ((10:Int)<=v6.Kind))=true->((mu v6)&&((decide ((10:Int)<=v6.Kind))==true))=true)) from(λhg=>(aT hg))) (Nf (v6.Kind==4)) (gI ((vI v6)==false)) (Nf (vI v6)) (gI ((rT v6)==false)) (Nf (rT v6)) (M3 (mv v6) (c4 (gI ((mv v6)&&((decide ((18:Int)<=v6.Kind))==true))) (gI (mv v6)) (show((mv v6)=true->((decide ((18:Int)<=v6.Kind))=true->((mv v6)&&((decide ((18:Int)<=v6.Kind))==true))=true)) from(λhg=>(aT hg))) (Nf (bif (rT v6) then true else(xT v6))))))) (gC h (λh=>Af q [1,3,34] [1] (gC h (λh=>Af q [2] [] (tS h (gK (Ll (H6 [] (Le.refl _ _)))))) λh=>tS h (gK (Bd (Bi L6 [1] q))))) λh=>tS h (gK (Bd (Bi L6 [1] q))))) (match x1,h with | .inl _,h=>gA (tU q [1,3,54] [1] (eX (gI ((decide ((16:Int)<=v6.Kind))==true)) (Ng (decide ((16:Int)<=v6.Kind))) (M3 ((vH v6)==true) (ci (Ng (vH v6)) (M3 ((mt v6)==false) (M3 (xU v6) (c3 (gI ((mt v6)==false)) (show(((mt v6)==false)=true->((decide ((21:Int)<=v6.Kind))=true->(xU v6)=true)) from(λhg=>(aT hg))) (Nf (mt v6)))))))) (gC h (λh=>Af q [2] [] (tS h (Cc []))) λh=>tW q [1,55] [1] [1,55,56] [1] (gC h (λh=>tB h λx3 y3 h=>tT q [2] [] [⟨[],[],(.int .u64 x3),[],[],[]⟩] (c1 (BJ y3)) (tS h (Cc []))) λh=>Af q [1,55,66] [1] (gC h (λh=>tB h λx4 y4 h=>tT q [2] [] [(Z2 x4)] (Vl ((vG v6)==true) (c2 (λ(hg:((vG v6)==true)=true)=>(Ez (Bq hg y4))) (Ng (vG v6)))) (tS h (Cc []))) λh=>Af q [1,55,80] [1] (gC h (λh=>tB h λx5 y5 h=>tT q [2] [] [(Z2 x5)] (M3 ((decide (((Iu v6.Bits):Int)<v6.Imm))==true) (ci (Ng (decide (((Iu v6.Bits):Int)<v6.Imm))) (Vl ((vE v6)==true) (c2 (λ(hg:((vE v6)==true)=true)=>(Ez (Bq hg y5))) (Ng (vE v6)))))) (tS h (Cc []))) λh=>Af q [1,99] [1] (gC h (λh=>Af q [2] [] (tS h (Cc []))) λh=>Af q [2] [] (tS h (Cc [])))))))) | .inr r6,h=>O2 (λst' hk=>tS h (gK hk))))
def Fi(aD:Int):Option Bool:=
 (some (bif (decide ((0:Int)<aD)) then(decide (aD<1024)) else false))
theorem Mg(h:Fi v1=some v3):sP 55 [(Z5 v1)] [] (.bool v3) []:=
 sG Tryz.func55 λΓ q=>Af q [0] [] (tU q [2] [] (c2 (gI ((decide ((0:Int)<v1))==true)) (Ng (decide ((0:Int)<v1)))) (tS h (Cc [])))
def Gy(a1:B2):Int->Option (LR Int (Unit ⊕ Bool)):=
 λ(i4:Int)=>(bif (decide (i4<(a1.Args.length:Int))) then(A0 (A1 i4 a1.Args.length) ((Fi (a1.Args.getD i4.toNat 0)).bind λx6=>(bif (!x6) then(some (.done (.inr false))) else(some (.next (w64 (i4+1))))))) else(some (.done (.inl ()))))
def DV(Γ:H5)(a1:B2)(r:Bool):Exit->St->Prop:=fK Tryz.prog Γ Tryz.f98.results.toList [] (.bool r) []
def rU(x1:Bool)(x2:Int)(a1:B2):=(bif (!x1) then true else(x2 !=(a1.Args.length:Int)))
def G9(a1:B2):Option Bool:=
 ((Jy a1.Bits a1.Lanes).bind λx1=>((bif ((!x1)==false) then Km a1 else some (0:Int)).bind λx2=>((bif ((bif (!x1) then true else(x2 !=(a1.Args.length:Int)))==false) then Gb a1 else some false).bind λx3=>(bif (bif (bif (!x1) then true else(x2 !=(a1.Args.length:Int))) then true else(!x3)) then(some false) else((Ac (Gy a1) (0:Int)).bind (λx7=>(match x7 with|(.inl _)=>(bif (bif (a1.Kind==17) then true else(a1.Kind==19)) then(some (a1.Dst==0)) else((Fi a1.Dst).bind λx9=>(some x9)))|(.inr r10)=>(some r10))))))))
theorem Ny(h:G9 v6=some v3):sP 98 (fF v6) [] (.bool v3) []:=
 sG Tryz.func98 λΓ q=>Af q [1] [1] (tB h λx1 y1 h=>tB h λx2 y2 h=>tB h λx3 y3 h=>tT q [1,22] [1] [(Z2 x1),(YY x2),(Z2 x3)] (ZK (X4 y1) (gI ((!x1)==false)) (λ(hg:((!x1)==false)=true)=>(Zn (Bq hg y2))) (ZP ((!x1)==false) (c5 (Nf (!x1)) (gI ((rU x1 x2 v6)==false)) (λ(hg:((rU x1 x2 v6)==false)=true)=>(Zo (Bq hg y3))) (gI ((rU x1 x2 v6)==false)) (Nf (rU x1 x2 v6))))) (gC h (λh=>Af q [2] [] (tS h (Cc []))) λh=>Af q L6 [1] (tL q h L6 [1] (λu i4=>(Cl u [(3,(Z5 i4))] [])) (λu x_=>match x_ with|(.inl _)=>aG Γ (.exit 0) (Nh [1] [1] u [] [])|(.inr r_)=>aR (DV Γ v6 r_)) (λi4 y h=>Af q [1,3,27] [1] (gC h (λh=>tC h λc5_ h=>tB h λx6 y6 h=>tT q [1,3,36] [1] [(Z2 x6)] (c2 c5_ (Mg y6)) (gC h (λh=>Af q [2] [] (tS h (gO (Ll (H6 [] (Le.refl _ _)))))) λh=>Af q L6 [1] (tN h))) λh=>tS h (gO (Bd (Bi [1] [1] q))))) λx7 h=>(match x7,h with | .inl _,h=>gA (tU q [1,44] [1] (M3 ((v6.Kind==17)==false) (c1 (Nf (v6.Kind==17)))) (gC h (λh=>Af q [2] [] (tS h (Cc []))) λh=>tB h λx9 y9 h=>tT q [2] [] [(Z2 x9)] (c1 (Mg y9)) (tS h (Cc [])))) | .inr r10,h=>O2 (λst' hk=>tS h (gK hk))))))
def Fp(a0:TFunc):Int->Option (LR Int (Unit ⊕ Bool)):=
 λ(i1:Int)=>(bif (decide (i1<(a0.Params.length:Int))) then(A0 (A1 i1 a0.Params.length) ((Da (a0.Params.getD i1.toNat 0)).bind λx3=>(bif (!x3) then(some (.done (.inr false))) else(some (.next (w64 (i1+1))))))) else(some (.done (.inl ()))))
def D4(a0:TFunc)(i6:Int):Int->Option (LR Int (Unit ⊕ Bool)):=
 λ(i7:Int)=>(A0 (A1 i6 a0.Blocks.length) (bif (decide (i7<(((a0.Blocks.getD i6.toNat default).Phis).length:Int))) then(A0 (A1 i6 a0.Blocks.length) (A0 (A1 i7 ((a0.Blocks.getD i6.toNat default).Phis).length) ((Da ((((a0.Blocks.getD i6.toNat default).Phis).getD i7.toNat default).Bits)).bind λx11=>(bif (!x11) then(some (.done (.inr false))) else(some (.next (w64 (i7+1)))))))) else(some (.done (.inl ())))))
def D5(a0:TFunc)(a2:Int)(i6:Int):Int->Option (LR Int (Unit ⊕ Bool)):=
 λ(i14:Int)=>(A0 (A1 i6 a0.Blocks.length) (bif (decide (i14<(((a0.Blocks.getD i6.toNat default).Ops).length:Int))) then(A0 (A1 i6 a0.Blocks.length) (A0 (A1 i14 ((a0.Blocks.getD i6.toNat default).Ops).length) (Option.bind (α:=Int) (bif (a2==1) then(some (20:Int)) else(some (22:Int))) (λx19=>(Option.bind (α:=Int) (bif (a2==0) then(some (17:Int)) else(some x19)) (λx22=>((G9 (((a0.Blocks.getD i6.toNat default).Ops).getD i14.toNat default)).bind λx24=>(bif (bif (bif (!x24) then true else(decide (x22<(((a0.Blocks.getD i6.toNat default).Ops).getD i14.toNat default).Kind))) then true else(bif (decide (a2<2)) then(decide ((1:Int)<(((a0.Blocks.getD i6.toNat default).Ops).getD i14.toNat default).Lanes)) else false)) then(some (.done (.inr false))) else(some (.next (w64 (i14+1)))))))))))) else(some (.done (.inl ())))))
def Fq(a0:TFunc)(a2:Int):Int->Option (LR Int (Unit ⊕ Bool)):=
 λ(i6:Int)=>(bif (decide (i6<(a0.Blocks.length:Int))) then((Ac (D4 a0 i6) (0:Int)).bind (λx12=>(match x12 with|(.inl _)=>((Ac (D5 a0 a2 i6) (0:Int)).bind (λx25=>(match x25 with|(.inl _)=>(some (.next (w64 (i6+1))))|(.inr r27)=>(some (.done (.inr r27))))))|(.inr r28)=>(some (.done (.inr r28)))))) else(some (.done (.inl ()))))
def Jt(Γ:H5)(a0:TFunc)(a2:Int)(r:Bool):Exit->St->Prop:=fK Tryz.prog Γ Tryz.f53.results.toList [] (.bool r) []
def er(a0:TFunc)(i6:Int)(i14:Int):=(((a0.Blocks.getD i6.toNat default).Ops).getD i14.toNat default)
def kU(x24:Bool)(x22:Int)(a0:TFunc)(i6:Int)(i14:Int):=(bif (!x24) then true else(decide (x22<(er a0 i6 i14).Kind)))
def Aad(a0:TFunc):List AV:=[(Z6 a0.Params),(Z5 a0.Ret),(UD a0.Blocks)]
def xV(a0:TFunc)(i6:Int)(i14:Int):List OG:=[(Pt 25 (Aad a0)),(9,.row 70 [(.int .i64 (er a0 i6 i14).Kind),(.int .i64 (er a0 i6 i14).Bits),(.int .i64 (er a0 i6 i14).Lanes),(.int .i64 (er a0 i6 i14).Dst),(AV.list 1 Ap 0 (er a0 i6 i14).Args .none),(.int .u64 (er a0 i6 i14).Imm)])]
def J1(a0:TFunc)(a2:Int):Option Bool:=
 ((Ac (Fp a0) (0:Int)).bind (λx4=>(match x4 with|(.inl _)=>((Ac (Fq a0 a2) (0:Int)).bind (λx29=>(match x29 with|(.inl _)=>((Da a0.Ret).bind λx31=>(some x31))|(.inr r32)=>(some r32))))|(.inr r33)=>(some r33))))
theorem Yb(h:J1 v0 v1=some v3):sP 53 [(W8 v0),(Z5 v1)] [] (.bool v3) []:=
 sG Tryz.func53 λΓ q=>tW q Ee [2] V3 [2] (tL q h V3 [2] (λu i1=>(Cl u [(5,(Z5 i1))] [])) (λu x_=>match x_ with|(.inl _)=>aG Γ (.exit 0) (Nh Ee [2] u [] [])|(.inr r_)=>aR (Jt Γ v0 v1 r_)) (λi1 y h=>Af q [1,2,5,15] [2] (gC h (λh=>tC h λc2_ h=>tB h λx3 y3 h=>tT q [1,2,5,24] [2] [(Z2 x3)] (c2 c2_ (Ez y3)) (gC h (λh=>Af q [4] [] (tS h (gO (Ll (H6 [] (Le.refl _ _)))))) λh=>Af q V3 [2] (tN h))) λh=>tS h (gO (Bd (Bi Ee [2] q))))) λx4 h=>(match x4,h with | .inl _,h=>gA (Af q CM [2] (tL q h CM [2] (λu i6=>(Cl u [(6,(Z5 i6))] [])) (λu x_=>match x_ with|(.inl _)=>aG Γ (.exit 2) (Nh [2] [2] u [] [])|(.inr r_)=>aR (Jt Γ v0 v1 r_)) (λi6 y h=>Af q [1,2,6,29] [2] (gC h (λh=>Af q [1,2,6,7] [2] (tL q h [1,2,6,7] [2] (λu i7=>(Cl u [(7,(Z5 i7))] [])) (λu x_=>match x_ with|(.inl _)=>aG Γ (.exit 4) (Nh CM [2] u [] [])|(.inr r_)=>aR (Jt Γ v0 v1 r_)) (λi7 y h=>tV q [1,2,6,7,40] [2] h λh=>gC h (λh=>tC h λc9_ h=>tC h λc10_ h=>tB h λx11 y11 h=>tT q [1,2,6,7,54] [2] [(Z2 x11)] (c3 c9_ c10_ (Ez y11)) (gC h (λh=>Af q [4] [] (tS h (gO (Ll (H6 [] (Le.refl _ _)))))) λh=>Af q [1,2,6,7] [2] (tN h))) λh=>tS h (gO (Bd (Bi CM [2] q)))) λx12 h=>(match x12,h with | .inl _,h=>gA (Af q [1,2,6,8] [2] (tL q h [1,2,6,8] [2] (λu i14=>(Cl u [(8,(Z5 i14))] [])) (λu x_=>match x_ with|(.inl _)=>aG Γ (.exit 6) (Nh CM [2] u [] [])|(.inr r_)=>aR (Jt Γ v0 v1 r_)) (λi14 y h=>tV q [1,2,6,8,63] [2] h λh=>gC h (λh=>tC h λc16_ h=>tC h λc17_ h=>tU q [1,2,6,8,9] [2,9] (c2 c16_ c17_) (Af q SS [2,9] (tB h λx19 y19 h=>gJ y19 (λi18=>aG Γ .normal (⟨[(1,(Z5 v1)),Uk,(6,(Z5 i6)),(8,(Z5 i14)),(9,(.ptr 9 0)),(10,(Z5 i18))],(xV v0 i6 i14),[]⟩:St)) (λy h=>Af q [1,2,6,8,9,10,76] [2,9] (gC h (λh=>Af q SS [2,9] (tS h (gK (Bd Iq)))) λh=>tS h (gK (Bd (Bi SS [2,9] q))))) (gA (tB h λx22 y22 h=>gJ y22 (λi21=>aG Γ .normal (⟨[(1,(Z5 v1)),Uk,(6,(Z5 i6)),(8,(Z5 i14)),(9,(.ptr 9 0)),(10,(Z5 i21))],(xV v0 i6 i14),[]⟩:St)) (λy h=>Af q [1,2,6,8,9,10,78] [2,9] (gC h (λh=>Af q SS [2,9] (tS h (gK (Bd Iq)))) λh=>tS h (gK (Bd (Bi SS [2,9] q))))) (gA (tB h λx24 y24 h=>tT q [1,2,6,8,96] [2] [(Z2 x24)] (ci (Ny y24) (Vl ((!x24)==false) (ci (Nf (!x24)) (M3 ((kU x24 x22 v0 i6 i14)==false) (M3 (((kU x24 x22 v0 i6 i14)==false)&&((decide (v1<2))==true)) (c3 (gI ((kU x24 x22 v0 i6 i14)==false)) (show(((kU x24 x22 v0 i6 i14)==false)=true->((decide (v1<2))=true->(((kU x24 x22 v0 i6 i14)==false)&&((decide (v1<2))==true))=true)) from(λhg=>(aT hg))) (Nf (kU x24 x22 v0 i6 i14)))))))) (gC h (λh=>Af q [4] [] (tS h (gO (Ll (H6 [] (Le.refl _ _)))))) λh=>Af q [1,2,6,8] [2] (tN h))))))))) λh=>tS h (gO (Bd (Bi CM [2] q)))) λx25 h=>(match x25,h with | .inl _,h=>gA (Af q CM [2] (tN h)) | .inr r27,h=>O2 (λst' hk=>tS h (gO (Ll hk)))))) | .inr r28,h=>O2 (λst' hk=>tS h (gO (Ll hk)))))) λh=>tS h (gO (Bd (Bi [2] [2] q))))) λx29 h=>(match x29,h with | .inl _,h=>gA (tB h λx31 y31 h=>tT q [4] [] [(Z2 x31)] (c1 (Ez y31)) (tS h (Cc []))) | .inr r32,h=>O2 (λst' hk=>tS h (gK hk))))) | .inr r33,h=>O2 (λst' hk=>tS h (gK hk))))
def Hk(a1:B2):Option Gq:=
 ((G9 a1).bind λx1=>(bif (bif (bif (!x1) then true else(a1.Kind==17)) then true else(a1.Kind==19)) then(some ((0:Int),(0:Int))) else(bif (bif (decide ((10:Int)<=a1.Kind)) then(decide (a1.Kind<=12)) else false) then(some ((1:Int),(1:Int))) else(bif (a1.Kind==22) then(some (a1.Bits,(1:Int))) else(some (a1.Bits,a1.Lanes))))))
variable{v19:Gq}
theorem X3(h:Hk v6=some v19):sP 99 (fF v6) [] (.tuple [(Z5 v19.1),(Z5 v19.2)]) []:=
 sG Tryz.func99 λΓ q=>Af q [1] [1] (tB h λx1 y1 h=>tT q [1,16] [1] [(Z2 x1)] (ci (Ny y1) (M3 ((!x1)==false) (ci (Nf (!x1)) (M3 ((bif (!x1) then true else(v6.Kind==17))==false) (c1 (Nf (bif (!x1) then true else(v6.Kind==17)))))))) (gC h (λh=>Af q E0 [] (tS h (Cc []))) λh=>tU q [1,24] [1] (M3 ((decide ((10:Int)<=v6.Kind))==true) (c1 (Ng (decide ((10:Int)<=v6.Kind))))) (gC h (λh=>Af q E0 [] (tS h (Cc []))) λh=>Af q [1,27] [1] (gC h (λh=>Af q E0 [] (tS h (Cc []))) λh=>Af q E0 [] (tS h (Cc []))))))
open Go Go.RowKit
set_option maxRecDepth 100000
set_option maxHeartbeats 2000000
abbrev eL:=(List Bx×Int)
abbrev uO:=(LR (List Bx×Int) (List Bx))
def Im(a0:TFunc):eL->Option uO:=
 λ((l1,i2):eL)=>(bif (decide (i2<(a0.Params.length:Int))) then(A0 (A1 i2 a0.Params.length) (A0 (l1.length+([(⟨(w64 (i2+1)),(-1:Int),(0:Int),((a0.Params.getD i2.toNat 0),(1:Int))⟩:Bx)]:List Bx).length<=room) (some (.next ((l1++([(⟨(w64 (i2+1)),(-1:Int),(0:Int),((a0.Params.getD i2.toNat 0),(1:Int))⟩:Bx)]:List Bx)),(w64 (i2+1))))))) else(some (.done l1)))
def Gf(a0:TFunc)(i9:Int):eL->Option uO:=
 λ((l12,i13):eL)=>(bif (decide (i13<(((a0.Blocks.getD i9.toNat default).Phis).length:Int))) then(A0 (A1 i13 ((a0.Blocks.getD i9.toNat default).Phis).length) (A0 (A1 i13 ((a0.Blocks.getD i9.toNat default).Phis).length) (A0 (l12.length+([(⟨(((a0.Blocks.getD i9.toNat default).Phis).getD i13.toNat default).Dst,i9,(-1:Int),((((a0.Blocks.getD i9.toNat default).Phis).getD i13.toNat default).Bits,(1:Int))⟩:Bx)]:List Bx).length<=room) (some (.next ((l12++([(⟨(((a0.Blocks.getD i9.toNat default).Phis).getD i13.toNat default).Dst,i9,(-1:Int),((((a0.Blocks.getD i9.toNat default).Phis).getD i13.toNat default).Bits,(1:Int))⟩:Bx)]:List Bx)),(w64 (i13+1)))))))) else(some (.done l12)))
def Gg(a0:TFunc)(i9:Int):eL->Option uO:=
 λ((l20,i21):eL)=>(bif (decide (i21<(((a0.Blocks.getD i9.toNat default).Ops).length:Int))) then(Option.bind (α:=List Bx) (A0 (A1 i21 ((a0.Blocks.getD i9.toNat default).Ops).length) ((Hk (((a0.Blocks.getD i9.toNat default).Ops).getD i21.toNat default)).bind λx25=>(bif (decide ((0:Int)<x25.1)) then(A0 (A1 i21 ((a0.Blocks.getD i9.toNat default).Ops).length) (A0 (l20.length+([(⟨(((a0.Blocks.getD i9.toNat default).Ops).getD i21.toNat default).Dst,i9,i21,(x25.1,x25.2)⟩:Bx)]:List Bx).length<=room) (some (l20++([(⟨(((a0.Blocks.getD i9.toNat default).Ops).getD i21.toNat default).Dst,i9,i21,(x25.1,x25.2)⟩:Bx)]:List Bx))))) else(some l20)))) (λx28=>(some (.next (x28,(w64 (i21+1))))))) else(some (.done l20)))
def In(a0:TFunc):eL->Option uO:=
 λ((l8,i9):eL)=>(bif (decide (i9<(a0.Blocks.length:Int))) then(A0 (A1 i9 a0.Blocks.length) ((Ac (Gf a0 i9) (l8,(0:Int))).bind (λx18=>((Ac (Gg a0 i9) (x18,(0:Int))).bind (λx30=>(some (.next (x30,(w64 (i9+1)))))))))) else(some (.done l8)))
def br(a0:TFunc)(i9:Int):=(a0.Blocks.getD i9.toNat default)
def vK(a0:TFunc):List AV:=[(Z6 a0.Params),(Z5 a0.Ret),(UD a0.Blocks)]
def rX(i2:Int)(a0:TFunc):=([(⟨(w64 (i2+1)),(-1:Int),(0:Int),((a0.Params.getD i2.toNat 0),(1:Int))⟩:Bx)]:List Bx)
def rW(a0:TFunc)(i9:Int)(i21:Int)(x25:Gq):=([(⟨(((br a0 i9).Ops).getD i21.toNat default).Dst,i9,i21,(x25.1,x25.2)⟩:Bx)]:List Bx)
def xW(a0:TFunc):=(⟨[CS,(3,(AV.list 5 Pu default ([]:List Bx) (.own 5003))),(4,L8)],[(1,.row 25 (vK a0)),(5003,.tok 5 92 (([]:List Bx).length))],[]⟩:St)
def rV(a0:TFunc)(i9:Int)(i13:Int):=([(⟨(((br a0 i9).Phis).getD i13.toNat default).Dst,i9,(-1:Int),((((br a0 i9).Phis).getD i13.toNat default).Bits,(1:Int))⟩:Bx)]:List Bx)
def Kr(a0:TFunc):Option (List Bx):=
 ((Ac (Im a0) (([]:List Bx),(0:Int))).bind (λx6=>((Ac (In a0) (x6,(0:Int))).bind (λx32=>(some x32)))))
variable{v34:List Bx}
theorem Zu(h:Kr v0=some v34):sP 54 [(W8 v0)] [] (AV.list 5 Pu default v34 (.own 20000)) [(Lj 20000 92 v34.length)]:=
 sG Tryz.func54 λΓ q=>gR q [1] [1] [(2,(AV.list 5 Pu default ([]:List Bx) .exact))] [] (c1 (B0 5 Pu (default:Bx))) (gR q L6 [1] [(3,(AV.list 5 Pu default ([]:List Bx) .exact))] [] (c1 (B0 5 Pu (default:Bx))) (Af q J8 [1] (gLe (st':=(xW v0)) (Le.trans (Bi (st':=⟨[CS,(3,(AV.list 5 Pu default ([]:List Bx) .exact)),(4,L8)],[(1,.row 25 (vK v0))],[]⟩) J8 [1] q) (Le.trans (Rl (t:=3) (nm:=5003) (sz':=5) (λi=>Pu (([]:List Bx).getD i default)) 92 rfl rfl (.inl ⟨rfl,rfl⟩) (λh_=>absurd h_ (by decide))) (Bi (st':=(xW v0)) J8 Nd q))) (tL q h J8 Nd (λu (l1,i2)=>(Cl u [(sD l1),(4,(Z5 i2))] [(Lj 5003 92 l1.length)])) (λu l3=>aG Γ (.exit 0) (Nh L6 Nd u [(sD l3)] [(Lj 5003 92 l3.length)])) (λ⟨l1,i2⟩ y h=>Af q [1,3,4,15] Nd (gC h (λh=>tC h λc4_ h=>tC h λc5_ h=>gR q J8 Nd (Z47 28 (rX i2 v0) 29 l1) [] (c6 c4_ (Bp 5 Pu (default:Bx) (rX i2 v0)) (Eq.refl l1.length) c5_ (Iz 5 5003 Pu (default:Bx) l1 (rX i2 v0)) (E3 l1 (rX i2 v0))) (Af q J8 Nd (tN h))) λh=>tS h (gO (Bd (Bi L6 Nd q))))) λx6 h=>gA (Af q KS Nd (tL q h KS Nd (λu (l8,i9)=>(Cl u [(sD l8),(5,(Z5 i9))] [(Lj 5003 92 l8.length)])) (λu l10=>aG Γ (.exit 2) (⟨[(sD l10)],[(Lj 5003 92 l10.length)],[]⟩:St)) (λ⟨l8,i9⟩ y h=>Af q [1,3,5,34] Nd (gC h (λh=>tV q IK S7 h λh=>Af q TE S7 (tL q h TE S7 (λu (l12,i13)=>(Cl u [(sD l12),(7,(Z5 i13))] [(Lj 5003 92 l12.length)])) (λu l14=>aG Γ (.exit 4) (Nh IK S7 u [(sD l14)] [(Lj 5003 92 l14.length)])) (λ⟨l12,i13⟩ y h=>Af q [1,3,5,6,7,46] S7 (gC h (λh=>tC h λc15_ h=>tC h λc16_ h=>tC h λc17_ h=>gR q TE S7 (Z47 65 (rV v0 i9 i13) 66 l12) [] (c7 c15_ c16_ (Bp 5 Pu (default:Bx) (rV v0 i9 i13)) (Eq.refl l12.length) c17_ (Iz 5 5003 Pu (default:Bx) l12 (rV v0 i9 i13)) (E3 l12 (rV v0 i9 i13))) (Af q TE S7 (tN h))) λh=>tS h (gO (Bd (Bi IK S7 q))))) λx18 h=>gA (Af q TF S7 (tL q h TF S7 (λu (l20,i21)=>(Cl u [(sD l20),(8,(Z5 i21))] [(Lj 5003 92 l20.length)])) (λu l22=>aG Γ (.exit 6) (Nh KS Nd u [(sD l22)] [(Lj 5003 92 l22.length)])) (λ⟨l20,i21⟩ y h=>Af q [1,3,5,6,8,71] S7 (gC h (λh=>tB h λx28 y28 h=>gJ y28 (λl23=>aG Γ .normal (⟨[CS,(sD l23),(5,(Z5 i9)),(6,(.ptr 6 0)),(8,(Z5 i21))],[(1,.row 25 (vK v0)),(6,.row 64 [(AV.list 4 Eo default (br v0 i9).Phis .none),(AV.list 6 J6 default (br v0 i9).Ops .none),(.int .i64 (br v0 i9).End.Kind),(.int .i64 (br v0 i9).End.Arg),(AV.list 1 Ap 0 (br v0 i9).End.To .none)]),(Lj 5003 92 l23.length)],[]⟩:St)) (λy h=>tC h λc24_ h=>tB h λx25 y25 h=>tT q [1,3,5,6,8,9,10] S7 [(z6 x25.1 x25.2)] (c2 c24_ (X3 y25)) (Af q [1,3,5,6,8,9,10,84] S7 (gC h (λh=>tC h λc26_ h=>tC h λc27_ h=>gR q TF S7 (Z47 98 (rW v0 i9 i21 x25) 99 l20) [] (c6 c26_ (Bp 5 Pu (default:Bx) (rW v0 i9 i21 x25)) (Eq.refl l20.length) c27_ (Iz 5 5003 Pu (default:Bx) l20 (rW v0 i9 i21 x25)) (E3 l20 (rW v0 i9 i21 x25))) (tS h (gK (Bd Iq)))) λh=>tS h (gK (Bd (Bi TF S7 q)))))) (gA (Af q TF S7 (tN h)))) λh=>tS h (gO (Bd (Bi KS Nd q))))) λx30 h=>gA (Af q KS Nd (tN h)))))) λh=>tS h (gO (Bd (Bi [3] [5003] q))))) λx32 h=>gA (Af q [2] [5003] (tS h (Cc bW)))))))))
def Gh(aQ:List Bx)(aD:Int):Int->Option (LR Int (Unit ⊕ Int)):=
 λ(i1:Int)=>(bif (decide (i1<(aQ.length:Int))) then(A0 (A1 i1 aQ.length) (bif (((aQ.getD i1.toNat default).V:Int)==aD) then(some (.done (.inr i1))) else(some (.next (w64 (i1+1)))))) else(some (.done (.inl ()))))
def AH(Γ:H5)(aQ:List Bx)(aD:Int)(r:Int):Exit->St->Prop:=fK Tryz.prog Γ Tryz.f56.results.toList [] (.int .i64 r) []
def Ey(aQ:List Bx)(aD:Int):Option Int:=
 ((Ac (Gh aQ aD) (0:Int)).bind (λx3=>(match x3 with|(.inl _)=>(some (-1:Int))|(.inr r5)=>(some r5))))
theorem J3(h:Ey v34 v1=some v11):sP 56 [(AV.list 5 Pu default v34 .none),(Z5 v1)] [] (.int .i64 v11) []:=
 sG Tryz.func56 λΓ q=>tW q Gn [] Nc [] (tL q h Nc [] (λu i1=>(Cl u [(5,(Z5 i1))] [])) (λu x_=>match x_ with|(.inl _)=>aG Γ (.exit 0) (⟨[],[],[]⟩:St)|(.inr r_)=>aR (AH Γ v34 v1 r_)) (λi1 y h=>Af q [0,1,5,9] [] (gC h (λh=>tV q [0,1,5,18] [] h λh=>gC h (λh=>Af q [4] [] (tS h (gO (Ll (H6 [] (Le.refl _ _)))))) λh=>Af q Nc [] (tN h)) λh=>tS h (gO (Bd (Bi [] [] q))))) λx3 h=>(match x3,h with | .inl _,h=>gA (Af q [4] [] (tS h (Cc []))) | .inr r5,h=>O2 (λst' hk=>tS h (gK hk))))
abbrev zR:=(List (Int×Int)×Int)
def Hz(a1:B2):zR->Option (LR (List (Int×Int)×Int) (List (Int×Int))):=
 λ((l2,i3):zR)=>(bif (decide (i3<(a1.Args.length:Int))) then(Option.bind (α:=Gq) (Option.bind (α:=Bool) (bif (a1.Kind==13) then(some (a1.Kind==13)) else(some (a1.Kind==20))) (λx8=>(bif x8 then(bif (i3==0) then(some ((1:Int),(1:Int))) else(some (a1.Bits,a1.Lanes))) else(Option.bind (α:=Bool) (bif (a1.Kind==14) then(some (a1.Kind==14)) else(some (a1.Kind==15))) (λx11=>(bif x11 then(some ((w64 a1.Imm),(1:Int))) else(Option.bind (α:=Bool) (bif (a1.Kind==16) then(some (a1.Kind==16)) else(some (a1.Kind==17))) (λx14=>(bif x14 then(bif (i3==0) then(some ((64:Int),(1:Int))) else(some (a1.Bits,a1.Lanes))) else(Option.bind (α:=Bool) (bif (a1.Kind==18) then(some (a1.Kind==18)) else(some (a1.Kind==19))) (λx17=>(bif x17 then(Option.bind (α:=Gq) (bif (i3==0) then(some ((1:Int),(1:Int))) else(some (a1.Bits,a1.Lanes))) (λx21=>(match x21 with|(i19,i20)=>(bif (i3==1) then(some ((64:Int),(1:Int))) else(some (i19,i20)))))) else(bif (a1.Kind==21) then(some (a1.Bits,(1:Int))) else(some (a1.Bits,a1.Lanes))))))))))))))) (λx23=>(match x23 with|(i5,i6)=>(A0 (l2.length+([(i5,i6)]:List Gq).length<=room) (some (.next ((l2++([(i5,i6)]:List Gq)),(w64 (i3+1))))))))) else(some (.done l2)))
def Aae(a1:B2):List AV:=[(Z5 a1.Bits),(Z5 a1.Lanes)]
def e7(l2:List KC):AV:=(vj l2 5003)
def kW:AV:=yL
def kV(a1:B2):List AV:=[(Z5 a1.Kind),(Z5 a1.Bits),(Z5 a1.Lanes),(Z5 a1.Dst),(Z6 a1.Args),(.int .u64 a1.Imm)]
def rY(a1:B2)(l2:List KC):List OG:=[(1,.row 70 (kV a1)),(5,.row 90 (Aae a1)),(5003,.tok 2 90 l2.length)]
def xX:List MI:=[CS,(3,(AV.list 2 Bo ((0:Int),(0:Int)) ([]:List Gq) (.own 5003))),(4,L8)]
def Hl(a1:B2):Option qX:=
 ((G9 a1).bind λx1=>(bif (!x1) then(some ([]:List Gq)) else((Ac (Hz a1) (([]:List Gq),(0:Int))).bind (λx26=>(some x26)))))
variable{v21:List KC}
theorem X5(h:Hl v6=some v21):sP 100 (fF v6) [] (vj v21 20000) [(20000,.tok 2 90 v21.length)]:=
 sG Tryz.func100 λΓ q=>gR q [1] [1] [(2,kW)] [] (c1 (B0 2 Bo ((0:Int),(0:Int)))) (gR q L6 [1] [(3,kW)] [] (c1 (B0 2 Bo ((0:Int),(0:Int)))) (tB h λx1 y1 h=>tT q [1,3,8] [1] [(Z2 x1)] (c1 (Ny y1)) (gC h (λh=>gR q [2] [] [(2,kW)] [] (c1 (B0 2 Bo ((0:Int),(0:Int)))) (Qb (⟨[(2,kW)],[],[]⟩:St) (tS h (gK (e:=.ret) (H6 [(6002,20000)] (show Le Γ _ (Z67:St) from Le.trans (Bi (st':=⟨[(2,kW)],[],[]⟩) [2] [] q) (Le.trans (Rl (t:=2) (nm:=6002) (sz':=2) (λi=>Bo (([]:List Gq).getD i ((0:Int),(0:Int)))) 90 rfl rfl (.inl ⟨rfl,rfl⟩) (λh_=>absurd h_ (by decide))) (Bi (st':=Z67) [2] [6002] q)))))))) λh=>Af q J8 [1] (gLe (st':=⟨xX,[(1,.row 70 (kV v6)),(5003,.tok 2 90 (([]:List Gq).length))],[]⟩) (Le.trans (Bi (st':=⟨[CS,(3,kW),(4,L8)],[(1,.row 70 (kV v6))],[]⟩) J8 [1] q) (Le.trans (Rl (t:=3) (nm:=5003) (sz':=2) (λi=>Bo (([]:List Gq).getD i ((0:Int),(0:Int)))) 90 rfl rfl (.inl ⟨rfl,rfl⟩) (λh_=>absurd h_ (by decide))) (Bi (st':=⟨xX,[(1,.row 70 (kV v6)),(5003,.tok 2 90 (([]:List Gq).length))],[]⟩) J8 Nd q))) (tL q h J8 Nd (λu (l2,i3)=>(Cl u [(3,(e7 l2)),(4,(Z5 i3))] [(5003,.tok 2 90 l2.length)])) (λu l4=>aG Γ (.exit 0) (⟨[(3,(vj l4 5003))],[(5003,.tok 2 90 l4.length)],[]⟩:St)) (λ⟨l2,i3⟩ y h=>Af q [1,3,4,13] Nd (gC h (λh=>Af q L5 Js (tB h λx23 y23 h=>gJ y23 (λ(i5,i6)=>aG Γ .normal (⟨[CS,(3,(e7 l2)),(4,(Z5 i3)),eW],[(1,.row 70 (kV v6)),(5,.row 90 [(Z5 i5),(Z5 i6)]),(5003,.tok 2 90 l2.length)],[]⟩:St)) (λy h=>Af q [1,3,4,5,22] Js (tB h λx8 y8 h=>gJ y8 (λb7=>aG Γ .normal (⟨[CS,(3,(e7 l2)),(4,(Z5 i3)),eW,(22,(Z5 v6.Kind)),(23,(.bool b7))],(rY v6 l2),[]⟩:St)) (λy h=>Af q [1,3,4,5,22,23] Js (gC h (λh=>tS h (gK (Bd Iq))) λh=>Af q [1,3,4,5,22,23] Js (tS h (gK (Bd Iq))))) (gA (gC h (λh=>Af q [1,3,4,5,27] Js (gC h (λh=>Af q L5 Js (tS h (gK (Bd Iq)))) λh=>tS h (gK (Bd (Bi L5 Js q))))) λh=>tB h λx11 y11 h=>gJ y11 (λb10=>aG Γ .normal (⟨[CS,(3,(e7 l2)),(4,(Z5 i3)),eW,(22,(Z5 v6.Kind)),(29,(.bool b10))],(rY v6 l2),[]⟩:St)) (λy h=>Af q [1,3,4,5,22,29] Js (gC h (λh=>tS h (gK (Bd Iq))) λh=>Af q [1,3,4,5,22,29] Js (tS h (gK (Bd Iq))))) (gA (gC h (λh=>Af q L5 Js (tS h (gK (Bd Iq)))) λh=>tB h λx14 y14 h=>gJ y14 (λb13=>aG Γ .normal (⟨[CS,(3,(e7 l2)),(4,(Z5 i3)),eW,(22,(Z5 v6.Kind)),(36,(.bool b13))],(rY v6 l2),[]⟩:St)) (λy h=>Af q [1,3,4,5,22,36] Js (gC h (λh=>tS h (gK (Bd Iq))) λh=>Af q [1,3,4,5,22,36] Js (tS h (gK (Bd Iq))))) (gA (gC h (λh=>Af q [1,3,4,5,40] Js (gC h (λh=>Af q L5 Js (tS h (gK (Bd Iq)))) λh=>tS h (gK (Bd (Bi L5 Js q))))) λh=>tB h λx17 y17 h=>gJ y17 (λb16=>aG Γ .normal (⟨[CS,(3,(e7 l2)),(4,(Z5 i3)),eW,(22,(Z5 v6.Kind)),(42,(.bool b16))],(rY v6 l2),[]⟩:St)) (λy h=>Af q [1,3,4,5,22,42] Js (gC h (λh=>tS h (gK (Bd Iq))) λh=>Af q [1,3,4,5,22,42] Js (tS h (gK (Bd Iq))))) (gA (gC h (λh=>tB h λx21 y21 h=>gJ y21 (λ(i19,i20)=>aG Γ .normal (⟨[CS,(3,(e7 l2)),(4,(Z5 i3)),eW],[(1,.row 70 (kV v6)),(5,.row 90 [(Z5 i19),(Z5 i20)]),(5003,.tok 2 90 l2.length)],[]⟩:St)) (λy h=>Af q [1,3,4,5,46] Js (gC h (λh=>Af q L5 Js (tS h (gK (Bd Iq)))) λh=>tS h (gK (Bd (Bi L5 Js q))))) (match x21,h with|⟨i19,i20⟩,h=>gA (Af q [1,3,4,5,49] Js (gC h (λh=>Af q L5 Js (tS h (gK (Bd Iq)))) λh=>tS h (gK (Bd (Bi L5 Js q))))))) λh=>Af q [1,3,4,5,51] Js (gC h (λh=>Af q L5 Js (tS h (gK (Bd Iq)))) λh=>tS h (gK (Bd (Bi L5 Js q)))))))))))))) (match x23,h with|⟨i5,i6⟩,h=>gA (tC h λc25_ h=>gR q J8 Nd [(58,(AV.list 2 Bo ((0:Int),(0:Int)) ([(i5,i6)]:List Gq) .exact)),(59,(AV.list 2 Bo ((0:Int),(0:Int)) (l2++([(i5,i6)]:List Gq)) (.own 5003)))] [] (c5 (Bp 2 Bo ((0:Int),(0:Int)) ([(i5,i6)]:List Gq)) (Eq.refl l2.length) c25_ (Iz 2 5003 Bo ((0:Int),(0:Int)) l2 ([(i5,i6)]:List Gq)) (E3 l2 ([(i5,i6)]:List Gq))) (Af q J8 Nd (tN h)))))) λh=>tS h (gO (Bd (Bi [3] [5003] q))))) λx26 h=>gA (Af q [2] [5003] (tS h (Cc bW))))))))
abbrev VQ:=(List Cm×Int)
abbrev qa:=(LR (List Cm×Int) (List Cm))
def Gi(a0:TFunc)(i2:Int)(i7:Int):VQ->Option qa:=
 λ((l10,i11):VQ)=>(bif (decide (i11<(((((a0.Blocks.getD i2.toNat default).Phis).getD i7.toNat default).Args).length:Int))) then(A0 (A1 i11 ((((a0.Blocks.getD i2.toNat default).Phis).getD i7.toNat default).Args).length) (A0 (A1 i11 ((((a0.Blocks.getD i2.toNat default).Phis).getD i7.toNat default).From).length) (A0 (l10.length+([(⟨(((((a0.Blocks.getD i2.toNat default).Phis).getD i7.toNat default).Args).getD i11.toNat 0),(((((a0.Blocks.getD i2.toNat default).Phis).getD i7.toNat default).From).getD i11.toNat 0),(1000:Int),((((a0.Blocks.getD i2.toNat default).Phis).getD i7.toNat default).Bits,(1:Int))⟩:Cm)]:List Cm).length<=room) (some (.next ((l10++([(⟨(((((a0.Blocks.getD i2.toNat default).Phis).getD i7.toNat default).Args).getD i11.toNat 0),(((((a0.Blocks.getD i2.toNat default).Phis).getD i7.toNat default).From).getD i11.toNat 0),(1000:Int),((((a0.Blocks.getD i2.toNat default).Phis).getD i7.toNat default).Bits,(1:Int))⟩:Cm)]:List Cm)),(w64 (i11+1)))))))) else(some (.done l10)))
def Gj(a0:TFunc)(i2:Int):VQ->Option qa:=
 λ((l6,i7):VQ)=>(bif (decide (i7<(((a0.Blocks.getD i2.toNat default).Phis).length:Int))) then(A0 (A1 i7 ((a0.Blocks.getD i2.toNat default).Phis).length) ((Ac (Gi a0 i2 i7) (l6,(0:Int))).bind (λx16=>(some (.next (x16,(w64 (i7+1)))))))) else(some (.done l6)))
def Gk(a0:TFunc)(i2:Int)(i21:Int)(x24:List KC):VQ->Option qa:=
 λ((l25,i26):VQ)=>(bif (decide (i26<(x24.length:Int))) then(A0 (A1 i21 ((a0.Blocks.getD i2.toNat default).Ops).length) (A0 (A1 i26 ((((a0.Blocks.getD i2.toNat default).Ops).getD i21.toNat default).Args).length) (A0 (A1 i26 x24.length) (A0 (l25.length+([(⟨(((((a0.Blocks.getD i2.toNat default).Ops).getD i21.toNat default).Args).getD i26.toNat 0),i2,i21,(x24.getD i26.toNat ((0:Int),(0:Int)))⟩:Cm)]:List Cm).length<=room) (some (.next ((l25++([(⟨(((((a0.Blocks.getD i2.toNat default).Ops).getD i21.toNat default).Args).getD i26.toNat 0),i2,i21,(x24.getD i26.toNat ((0:Int),(0:Int)))⟩:Cm)]:List Cm)),(w64 (i26+1))))))))) else(some (.done l25)))
def Gl(a0:TFunc)(i2:Int):VQ->Option qa:=
 λ((l20,i21):VQ)=>(bif (decide (i21<(((a0.Blocks.getD i2.toNat default).Ops).length:Int))) then(A0 (A1 i21 ((a0.Blocks.getD i2.toNat default).Ops).length) ((Hl (((a0.Blocks.getD i2.toNat default).Ops).getD i21.toNat default)).bind λx24=>((Ac (Gk a0 i2 i21 x24) (l20,(0:Int))).bind (λx32=>(some (.next (x32,(w64 (i21+1))))))))) else(some (.done l20)))
def Io(a0:TFunc):VQ->Option qa:=
 λ((l1,i2):VQ)=>(bif (decide (i2<(a0.Blocks.length:Int))) then(Option.bind (α:=List Cm) (A0 (A1 i2 a0.Blocks.length) ((Ac (Gj a0 i2) (l1,(0:Int))).bind (λx18=>((Ac (Gl a0 i2) (x18,(0:Int))).bind (λx34=>(Option.bind (α:=List Cm) (bif (((a0.Blocks.getD i2.toNat default).End.Kind:Int)==0) then(A0 (x34.length+([(⟨(a0.Blocks.getD i2.toNat default).End.Arg,i2,(1000:Int),(a0.Ret,(1:Int))⟩:Cm)]:List Cm).length<=room) (some (x34++([(⟨(a0.Blocks.getD i2.toNat default).End.Arg,i2,(1000:Int),(a0.Ret,(1:Int))⟩:Cm)]:List Cm)))) else(some x34)) (λx38=>(bif (((a0.Blocks.getD i2.toNat default).End.Kind:Int)==2) then(A0 (x38.length+([(⟨(a0.Blocks.getD i2.toNat default).End.Arg,i2,(1000:Int),((1:Int),(1:Int))⟩:Cm)]:List Cm).length<=room) (some (x38++([(⟨(a0.Blocks.getD i2.toNat default).End.Arg,i2,(1000:Int),((1:Int),(1:Int))⟩:Cm)]:List Cm)))) else(some x38))))))))) (λx41=>(some (.next (x41,(w64 (i2+1))))))) else(some (.done l1)))
def OK(a0:TFunc)(i2:Int):=(a0.Blocks.getD i2.toNat default)
def rh(a0:TFunc):List AV:=[(Z6 a0.Params),(Z5 a0.Ret),(UD a0.Blocks)]
def rg(a0:TFunc)(i2:Int):=([(⟨(OK a0 i2).End.Arg,i2,(1000:Int),(a0.Ret,(1:Int))⟩:Cm)]:List Cm)
def rf(a0:TFunc)(i2:Int):=([(⟨(OK a0 i2).End.Arg,i2,(1000:Int),((1:Int),(1:Int))⟩:Cm)]:List Cm)
def xY(a0:TFunc):=(⟨[CS,(3,(AV.list 5 O1 default ([]:List Cm) (.own 5003))),(4,L8)],[(1,.row 25 (rh a0)),(5003,.tok 5 96 (([]:List Cm).length))],[]⟩:St)
def re(a0:TFunc)(i2:Int)(i21:Int)(i26:Int)(x24:List KC):=([(⟨(((((OK a0 i2).Ops).getD i21.toNat default).Args).getD i26.toNat 0),i2,i21,(x24.getD i26.toNat ((0:Int),(0:Int)))⟩:Cm)]:List Cm)
def rZ(a0:TFunc)(i2:Int)(i7:Int)(i11:Int):=([(⟨(((((OK a0 i2).Phis).getD i7.toNat default).Args).getD i11.toNat 0),(((((OK a0 i2).Phis).getD i7.toNat default).From).getD i11.toNat 0),(1000:Int),((((OK a0 i2).Phis).getD i7.toNat default).Bits,(1:Int))⟩:Cm)]:List Cm)
def Ks(a0:TFunc):Option (List Cm):=
 ((Ac (Io a0) (([]:List Cm),(0:Int))).bind (λx43=>(some x43)))
variable{v35:List Cm}
theorem Zv(h:Ks v0=some v35):sP 57 [(W8 v0)] [] (AV.list 5 O1 default v35 (.own 20000)) [(Lj 20000 96 v35.length)]:=
 sG Tryz.func57 λΓ q=>gR q [1] [1] [(2,(AV.list 5 O1 default ([]:List Cm) .exact))] [] (c1 (B0 5 O1 (default:Cm))) (gR q L6 [1] [(3,(AV.list 5 O1 default ([]:List Cm) .exact))] [] (c1 (B0 5 O1 (default:Cm))) (Af q J8 [1] (gLe (st':=(xY v0)) (Le.trans (Bi (st':=⟨[CS,(3,(AV.list 5 O1 default ([]:List Cm) .exact)),(4,L8)],[(1,.row 25 (rh v0))],[]⟩) J8 [1] q) (Le.trans (Rl (t:=3) (nm:=5003) (sz':=5) (λi=>O1 (([]:List Cm).getD i default)) 96 rfl rfl (.inl ⟨rfl,rfl⟩) (λh_=>absurd h_ (by decide))) (Bi (st':=(xY v0)) J8 Nd q))) (tL q h J8 Nd (λu (l1,i2)=>(Cl u [(mV l1),(4,(Z5 i2))] [(Lj 5003 96 l1.length)])) (λu l3=>aG Γ (.exit 0) (⟨[(mV l3)],[(Lj 5003 96 l3.length)],[]⟩:St)) (λ⟨l1,i2⟩ y h=>Af q [1,3,4,16] Nd (gC h (λh=>tB h λx41 y41 h=>gJ y41 (λl4=>aG Γ .normal (⟨[CS,(mV l4),(4,(Z5 i2))],[(1,.row 25 (rh v0)),(Lj 5003 96 l4.length)],[]⟩:St)) (λy h=>tV q L5 Js h λh=>Af q So Js (tL q h So Js (λu (l6,i7)=>(Cl u [(mV l6),(6,(Z5 i7))] [(Lj 5003 96 l6.length)])) (λu l8=>aG Γ (.exit 2) (Nh L5 Js u [(mV l8)] [(Lj 5003 96 l8.length)])) (λ⟨l6,i7⟩ y h=>Af q [1,3,4,5,6,28] Js (gC h (λh=>tV q [1,3,4,5,6,7] KO h λh=>Af q bR KO (tL q h bR KO (λu (l10,i11)=>(Cl u [(mV l10),(8,(Z5 i11))] [(Lj 5003 96 l10.length)])) (λu l12=>aG Γ (.exit 4) (Nh So Js u [(mV l12)] [(Lj 5003 96 l12.length)])) (λ⟨l10,i11⟩ y h=>Af q [1,3,4,5,6,7,8,40] KO (gC h (λh=>tC h λc13_ h=>tC h λc14_ h=>tC h λc15_ h=>gR q bR KO (zu 58 (rZ v0 i2 i7 i11) 59 l10) [] (c7 c13_ c14_ (Bp 5 O1 (default:Cm) (rZ v0 i2 i7 i11)) (Eq.refl l10.length) c15_ (Iz 5 5003 O1 (default:Cm) l10 (rZ v0 i2 i7 i11)) (E3 l10 (rZ v0 i2 i7 i11))) (Af q bR KO (tN h))) λh=>tS h (gO (Bd (Bi So Js q))))) λx16 h=>gA (Af q So Js (tN h)))) λh=>tS h (gO (Bd (Bi L5 Js q))))) λx18 h=>gA (Af q TG Js (tL q h TG Js (λu (l20,i21)=>(Cl u [(mV l20),(9,(Z5 i21))] [(Lj 5003 96 l20.length)])) (λu l22=>aG Γ (.exit 6) (Nh L5 Js u [(mV l22)] [(Lj 5003 96 l22.length)])) (λ⟨l20,i21⟩ y h=>Af q [1,3,4,5,9,64] Js (gC h (λh=>tC h λc23_ h=>tB h λx24 y24 h=>tT q [1,3,4,5,9,10] YN [⟨[],[(20000,72)],(vj x24 20000),[(20000,.tok 2 90 x24.length)],[],[]⟩] (c2 c23_ (X5 y24)) (Af q bO YN (tL q h bO YN (λu (l25,i26)=>(Cl u [(mV l25),(11,(Z5 i26))] [(Lj 5003 96 l25.length)])) (λu l27=>aG Γ (.exit 8) (Nh TG Js u [(mV l27)] [(Lj 5003 96 l27.length)])) (λ⟨l25,i26⟩ y h=>Af q [1,3,4,5,9,10,11,76] YN (gC h (λh=>tC h λc28_ h=>tC h λc29_ h=>tC h λc30_ h=>tC h λc31_ h=>gR q bO YN (zu 96 (re v0 i2 i21 i26 x24) 97 l25) [] (c8 c28_ c29_ c30_ (Bp 5 O1 (default:Cm) (re v0 i2 i21 i26 x24)) (Eq.refl l25.length) c31_ (Iz 5 5003 O1 (default:Cm) l25 (re v0 i2 i21 i26 x24)) (E3 l25 (re v0 i2 i21 i26 x24))) (Af q bO YN (tN h))) λh=>tS h (gO (Bd (Bi TG Js q))))) λx32 h=>gA (Af q TG Js (tN h))))) λh=>tS h (gO (Bd (Bi L5 Js q))))) λx34 h=>gA (tB h λx38 y38 h=>gJ y38 (λl36=>aG Γ .normal (⟨[CS,(mV l36),(4,(Z5 i2)),eW],[(1,.row 25 (rh v0)),(5,.row 64 [(AV.list 4 Eo default (OK v0 i2).Phis .none),(AV.list 6 J6 default (OK v0 i2).Ops .none),(.int .i64 (OK v0 i2).End.Kind),(.int .i64 (OK v0 i2).End.Arg),(AV.list 1 Ap 0 (OK v0 i2).End.To .none)]),(Lj 5003 96 l36.length)],[]⟩:St)) (λy h=>Af q [1,3,4,5,101] Js (gC h (λh=>tC h λc37_ h=>gR q L5 Js (zu 111 (rg v0 i2) 112 x34) [] (c5 (Bp 5 O1 (default:Cm) (rg v0 i2)) (Eq.refl x34.length) c37_ (Iz 5 5003 O1 (default:Cm) x34 (rg v0 i2)) (E3 x34 (rg v0 i2))) (tS h (gK (Bd Iq)))) λh=>tS h (gK (Bd (Bi L5 Js q))))) (gA (Af q [1,3,4,5,116] Js (gC h (λh=>tC h λc40_ h=>gR q J8 Nd (zu 124 (rf v0 i2) 125 x38) [] (c5 (Bp 5 O1 (default:Cm) (rf v0 i2)) (Eq.refl x38.length) c40_ (Iz 5 5003 O1 (default:Cm) x38 (rf v0 i2)) (E3 x38 (rf v0 i2))) (tS h (gK (Bd Iq)))) λh=>tS h (gK (Bd (Bi J8 Nd q))))))))))) (gA (Af q J8 Nd (tN h)))) λh=>tS h (gO (Bd (Bi [3] [5003] q))))) λx43 h=>gA (Af q [2] [5003] (tS h (Cc bW)))))))
def Ij(aI:TGraph)(aL:TGraph):Int->Option (LR Int (Unit ⊕ Bool)):=
 λ(i1:Int)=>(bif (decide (i1<(aI.Succ.length:Int))) then(A0 (A1 i1 aI.Succ.length) (A0 (A1 i1 aL.Succ.length) ((Dp (aI.Succ.getD i1.toNat []) (aL.Succ.getD i1.toNat [])).bind λx4=>(bif (!x4) then(some (.done (.inr false))) else(some (.next (w64 (i1+1)))))))) else(some (.done (.inl ()))))
def Ik(aI:TGraph)(aL:TGraph):Int->Option (LR Int (Unit ⊕ Bool)):=
 λ(i7:Int)=>(bif (decide (i7<(aI.Pred.length:Int))) then(A0 (A1 i7 aI.Pred.length) (A0 (A1 i7 aL.Pred.length) ((Dp (aI.Pred.getD i7.toNat []) (aL.Pred.getD i7.toNat [])).bind λx10=>(bif (!x10) then(some (.done (.inr false))) else(some (.next (w64 (i7+1)))))))) else(some (.done (.inl ()))))
def R6(Γ:H5)(aI:TGraph)(aL:TGraph)(r:Bool):Exit->St->Prop:=fK Tryz.prog Γ Tryz.f149.results.toList [] (.bool r) []
def Aaf(aI:TGraph)(aL:TGraph):=(((aI.Succ.length:Int)!=(aL.Succ.length:Int))==false)
def Ko(aI:TGraph)(aL:TGraph):Option Bool:=
 (bif (bif ((aI.Succ.length:Int)!=(aL.Succ.length:Int)) then true else((aI.Pred.length:Int)!=(aL.Pred.length:Int))) then(some false) else((Ac (Ij aI aL) (0:Int)).bind (λx5=>(match x5 with|(.inl _)=>((Ac (Ik aI aL) (0:Int)).bind (λx11=>(match x11 with|(.inl _)=>(some true)|(.inr r13)=>(some r13))))|(.inr r14)=>(some r14)))))
variable{v36:TGraph}
theorem Zr(h:Ko v18 v36=some v3):sP 149 [(.agg (Us v18)),(.agg (Us v36))] [] (.bool v3) []:=
 sG Tryz.func149 λΓ q=>Af q E0 E0 (tU q [2,3,22] E0 (gI6 (Aaf v18 v36) (c1 (Nf ((v18.Succ.length:Int)!=(v36.Succ.length:Int))))) (gC h (λh=>Af q [4] [] (tS h (Cc []))) λh=>Af q [2,3,5] E0 (tL q h [2,3,5] E0 (λu i1=>(Cl u [(5,(Z5 i1))] [])) (λu x_=>match x_ with|(.inl _)=>aG Γ (.exit 0) (Nh E0 E0 u [] [])|(.inr r_)=>aR (R6 Γ v18 v36 r_)) (λi1 y h=>Af q [2,3,5,27] E0 (gC h (λh=>tC h λc2_ h=>tC h λc3_ h=>tB h λx4 y4 h=>tT q [2,3,5,41] E0 [(Z2 x4)] (c3 c2_ c3_ (J2 y4)) (gC h (λh=>Af q [4] [] (tS h (gO (Ll (H6 [] (Le.refl _ _)))))) λh=>Af q [2,3,5] E0 (tN h))) λh=>tS h (gO (Bd (Bi E0 E0 q))))) λx5 h=>(match x5,h with | .inl _,h=>gA (Af q [2,3,6] E0 (tL q h [2,3,6] E0 (λu i7=>(Cl u [(6,(Z5 i7))] [])) (λu x_=>match x_ with|(.inl _)=>aG Γ (.exit 2) (⟨[],[],[]⟩:St)|(.inr r_)=>aR (R6 Γ v18 v36 r_)) (λi7 y h=>Af q [2,3,6,46] E0 (gC h (λh=>tC h λc8_ h=>tC h λc9_ h=>tB h λx10 y10 h=>tT q [2,3,6,60] E0 [(Z2 x10)] (c3 c8_ c9_ (J2 y10)) (gC h (λh=>Af q [4] [] (tS h (gO (Ll (H6 [] (Le.refl _ _)))))) λh=>Af q [2,3,6] E0 (tN h))) λh=>tS h (gO (Bd (Bi [] [] q))))) λx11 h=>(match x11,h with | .inl _,h=>gA (Af q [4] [] (tS h (Cc []))) | .inr r13,h=>O2 (λst' hk=>tS h (gK hk))))) | .inr r14,h=>O2 (λst' hk=>tS h (gK hk))))))
def Lo(a4:TGraph):Option Bool:=
 ((H2 a4.Succ).bind λx1=>((bif ((x1.2==0)==true) then Ko x1.1 a4 else some false).bind λx2=>(some (bif (x1.2==0) then x2 else false))))
theorem BL(h:Lo v18=some v3):sP 101 [(.agg (Us v18))] [] (.bool v3) []:=
 sG Tryz.func101 λΓ q=>Af q [1] [1] (tB h λx1 y1 h=>tT q J8 L6 [(vk x1.1 x1.2)] (c1 (Rf y1)) (tB h λx2 y2 h=>tT q [2] [] [(Z2 x2)] (M3 ((x1.2==0)==true) (c2 (λ(hg:((x1.2==0)==true)=true)=>(Zr (Bq hg y2))) (Ng (x1.2==0)))) (tS h (Cc []))))
def Df(a4:TGraph)(x2:List Bool)(i4:Int)(l5:List (List Bool))(x9:List Bool):Zy->Option bK:=
 λ((i10,l11):Zy)=>(bif (decide (i10<(a4.Succ.length:Int))) then(A0 (A1 i4 l5.length) (A0 (A1 i10 x2.length) (A0 (((x2.getD i10.toNat false)==true)=true->(A1 i10 x9.length)) (A0 (A1 i10 l11.length) (some (.next ((w64 (i10+1)),(l11.set i10.toNat (bif (x2.getD i10.toNat false) then(!(x9.getD i10.toNat false)) else false))))))))) else(some (.done l11)))
abbrev zS:=(Int×List (List Bool))
def Il(a4:TGraph)(a2:Int)(x2:List Bool):zS->Option (LR (Int×List (List Bool)) (List (List Bool))):=
 λ((i4,l5):zS)=>(bif (decide (i4<(a4.Succ.length:Int))) then(A0 (0<=(a4.Succ.length:Int)/\(a4.Succ.length:Int)<=(a4.Succ.length:Int)/\(a4.Succ.length:Int)<=(room:Int)) (A0 (A1 i4 l5.length) ((C7 a4 a2 i4).bind λx9=>((Ac (Df a4 x2 i4 l5 x9) ((0:Int),(List.replicate (a4.Succ.length:Int).toNat false))).bind (λx17=>(some (.next ((w64 (i4+1)),(l5.set i4.toNat x17))))))))) else(some (.done l5)))
def Dg(a4:TGraph)(l6:List (List Bool))(i22:Int)(i30:Int):(Bool×Int)->Option (LR (Bool×Int) Bool):=
 λ((b36,i37):(Bool×Int))=>(bif (decide (i37<(a4.Succ.length:Int))) then(A0 (((b36==true)&&((i37==i22)==false))=true->(A1 i37 l6.length)) (A0 (((b36==true)&&((i37==i22)==false))=true->(A1 i22 (l6.getD i37.toNat []).length)) (A0 (((b36==true)&&((bif (i37==i22) then true else(!((l6.getD i37.toNat []).getD i22.toNat false)))==false))=true->(A1 i37 l6.length)) (A0 (((b36==true)&&((bif (i37==i22) then true else(!((l6.getD i37.toNat []).getD i22.toNat false)))==false))=true->(A1 i30 (l6.getD i37.toNat []).length)) (some (.next ((bif b36 then(bif (bif (i37==i22) then true else(!((l6.getD i37.toNat []).getD i22.toNat false))) then true else((l6.getD i37.toNat []).getD i30.toNat false)) else false),(w64 (i37+1))))))))) else(some (.done b36)))
def B3(a4:TGraph)(a2:Int)(l6:List (List Bool))(i22:Int):CD->Option qU:=
 λ((i30,l31):CD)=>(bif (bif (decide (i30<(a4.Succ.length:Int))) then(i22 !=a2) else false) then(Option.bind (α:=Ar) (A0 (((i30==i22)==false)=true->(A1 i30 l6.length)) (A0 (((i30==i22)==false)=true->(A1 i22 (l6.getD i30.toNat []).length)) (bif (bif (i30==i22) then true else(!((l6.getD i30.toNat []).getD i22.toNat false))) then(some l31) else((Ac (Dg a4 l6 i22 i30) (true,(0:Int))).bind (λx43=>(bif x43 then(A0 (A1 i22 l31.length) (some (l31.set i22.toNat i30))) else(some l31))))))) (λx46=>(some (.next ((w64 (i30+1)),x46))))) else(some (.done l31)))
def Dh(a4:TGraph)(a2:Int)(l6:List (List Bool)):CD->Option qU:=
 λ((i22,l23):CD)=>(bif (decide (i22<(a4.Succ.length:Int))) then(A0 (A1 i22 l23.length) (Option.bind (α:=Ar) (bif (i22==a2) then(A0 (A1 i22 (l23.set i22.toNat (-2:Int)).length) (some ((l23.set i22.toNat (-2:Int)).set i22.toNat (-1:Int)))) else(some (l23.set i22.toNat (-2:Int)))) (λx28=>((Ac (B3 a4 a2 l6 i22) ((0:Int),x28)).bind (λx48=>(some (.next ((w64 (i22+1)),x48)))))))) else(some (.done l23)))
def P8(a4:TGraph):=(a4.Succ.length:Int)
def fA:=(λn_=>Bw n_ [37,75])
def P7(l5:List (List Bool)):=(λi=>ZM (l5.getD i []))
def OL(a4:TGraph):=(List.replicate (P8 a4).toNat false)
def bs(a4:TGraph):List AV:=[(.vsl 46 (OL a4).length)]
def my(i30:Int)(i22:Int):=((i30==i22)==false)
def UK(l23:Ar)(i22:Int):=(l23.set i22.toNat (-2:Int))
def ka(l11:List Bool):=(λi=>eB (l11.getD i false))
def kZ:=(λn_=>Bw n_ [2,35,37,46])
def OM:=(λn_=>Bw n_ [2,35,37,46,51])
def UJ(a4:TGraph):=(λi=>eB ((OL a4).getD i false))
def MW(l11:List Bool)(i10:Int)(x2:List Bool)(x9:List Bool):=(l11.set i10.toNat (bif (x2.getD i10.toNat false) then(!(x9.getD i10.toNat false)) else false))
def e9(l11:List Bool)(i10:Int)(x2:List Bool)(x9:List Bool):=(λi=>eB ((MW l11 i10 x2 x9).getD i false))
def kY(b36:Bool)(i37:Int)(i22:Int):=((b36==true)&&((i37==i22)==false))
def rl:List MI:=[(4,fD)]
def xZ(x1:Bool)(a2:Int):=(bif (!x1) then true else(decide (a2<0)))
def Qd(a4:TGraph):List AV:=[(NK a4.Succ),(NK a4.Pred)]
def xc:=(Z33:St)
def kX(b36:Bool)(i37:Int)(i22:Int)(x19:List (List Bool)):=((b36==true)&&((bif (i37==i22) then true else(!((x19.getD i37.toNat []).getD i22.toNat false)))==false))
def e8(a2:Int)(a4:TGraph)(x2:List Bool)(l5:List (List Bool))(i4:Int):List MI:=[(1,(Z5 a2)),Uk,(5,(Z5 (P8 a4))),(6,(NJ x2 35)),(Vk 37 l5.length),(8,(Z5 i4))]
def rk(a2:Int)(a4:TGraph)(x2:List Bool)(l5:List (List Bool))(i4:Int):List MI:=[(1,(Z5 a2)),Uk,(5,(Z5 (P8 a4))),(6,(NJ x2 35)),(Vk 37 l5.length),(8,(.int .i64 (w64 (i4+1))))]
def rj(a2:Int)(a4:TGraph)(x2:List Bool)(l5:List (List Bool))(i4:Int)(x9:List Bool)(i10:Int):List MI:=[(1,(Z5 a2)),Uk,(5,(Z5 (P8 a4))),(6,(NJ x2 35)),(Vk 37 l5.length),(8,(Z5 i4)),(9,(NJ x9 51)),(10,(Z5 i10))]
def mw(a2:Int)(a4:TGraph)(x2:List Bool)(l5:List (List Bool))(i4:Int)(x9:List Bool):List MI:=[(1,(Z5 a2)),Uk,(5,(Z5 (P8 a4))),(6,(NJ x2 35)),(Vk 37 l5.length),(8,(Z5 i4)),(9,(NJ x9 51)),(10,L8)]
def ri(a2:Int)(a4:TGraph)(x2:List Bool)(l5:List (List Bool))(i4:Int)(x9:List Bool)(i10:Int):List MI:=[(1,(Z5 a2)),Uk,(5,(Z5 (P8 a4))),(6,(NJ x2 35)),(Vk 37 l5.length),(8,(Z5 i4)),(9,(NJ x9 51)),(10,(.int .i64 (w64 (i10+1))))]
def xd(a2:Int)(a4:TGraph)(x2:List Bool)(l5:List (List Bool))(i4:Int)(x9:List Bool)(i10:Int):List MI:=[(1,(Z5 a2)),Uk,(5,(Z5 (P8 a4))),(6,(NJ x2 35)),(Vk 37 l5.length),(8,(Z5 i4)),(9,(NJ x9 51)),(10,(Z5 i10)),(54,(.bool (decide (i10<(P8 a4)))))]
def Kq(a4:TGraph)(a2:Int):Option Ar:=
 ((Lo a4).bind λx1=>(bif (bif (bif (!x1) then true else(decide (a2<0))) then true else(decide ((a4.Succ.length:Int)<=a2))) then(some ([]:Ar)) else((C7 a4 a2 (-1:Int)).bind λx2=>(A0 (0<=(a4.Succ.length:Int)/\(a4.Succ.length:Int)<=(a4.Succ.length:Int)/\(a4.Succ.length:Int)<=(room:Int)) ((Ac (Il a4 a2 x2) ((0:Int),(List.replicate (a4.Succ.length:Int).toNat ([]:List Bool)))).bind (λx19=>(A0 (0<=(a4.Succ.length:Int)/\(a4.Succ.length:Int)<=(a4.Succ.length:Int)/\(a4.Succ.length:Int)<=(room:Int)) ((Ac (Dh a4 a2 x19) ((0:Int),(List.replicate (a4.Succ.length:Int).toNat (0:Int)))).bind (λx50=>(some x50))))))))))
theorem Zt(h:Kq v18 v1=some v2):sP 58 (sE v18 v1) [] (V7 v2 20000) [(Ys 20000 v2.length)]:=
 sG Tryz.func58 λΓ q=>have hΓ:=q.own;gR q Ee [2] rl [] (c1 (B0 1 Ap (0:Int))) (tB h λx1 y1 h=>tT q [1,2,29] [2] [(Z2 x1)] (ZK (BL y1) (gI ((!x1)==false)) (Nf (!x1)) (ZP ((xZ x1 v1)==false) (c1 (Nf (xZ x1 v1))))) (gC h (λh=>gR q [4] [] rl [] (c1 (B0 1 Ap (0:Int))) (Qb (⟨rl,[],[]⟩:St) (tS h (gK (e:=.ret) (H6 bT (show Le Γ _ xc from Le.trans (Bi (st':=⟨rl,[],[]⟩) [4] [] q) (Le.trans (Rl (t:=4) (nm:=6004) (sz':=1) (λi=>Ap (([]:Ar).getD i 0)) 3 rfl rfl (.inl ⟨rfl,rfl⟩) (λh_=>absurd h_ (by decide))) (Bi (st':=xc) [4] [6004] q)))))))) λh=>Af q V3 [2] (tB h λx2 y2 h=>tT q [1,2,5,6] [2,35] [(xC 35 x2 x2.length)] (c1 (Mh y2)) (tV q iR KR h λh=>by exact gLe (Le.trans (Sr 37 (show ∀ k_,k_<((P8 v18).toNat)->AVleL ((λi_=>AV.eraseAll (λn_=>Bw n_ KR) ((λ_=>[Zz]) i_)) k_) ((λi=>ZM ((List.replicate (P8 v18).toNat ([]:List Bool)).getD i [])) k_) from(λk hk=>M6 (e:=ZM) (d:=[]) (.cons (λ_ _ _ _ _ hh=>AVle.untag _ _ _ _ _ (El _ _ _ _ _ hh)) .nil) _ k (M7 hk)))) (R9 (λ(k_:Nat) u=>(Cl u [(Vk 37 k_)] [(37,.arr 1 81 k_ (λi=>ZM ((List.replicate (P8 v18).toNat ([]:List Bool)).getD i [])))])) (show(P8 v18).toNat=(List.replicate (P8 v18).toNat ([]:List Bool)).length from(N8 ..).symm))) (Af q YL KR (tL q h YL KR (λu (i4,l5)=>(Cl u [(Vk 37 l5.length),(8,(Z5 i4))] [(37,.arr 1 81 l5.length (P7 l5))])) (λu l6=>aG Γ (.exit 0) (Nh [1,5,7] [37] u [(Vk 37 l6.length)] [(37,.arr 1 81 l6.length (λi=>ZM (l6.getD i [])))])) (λ⟨i4,l5⟩ y h=>Af q [1,2,5,6,7,8,40] KR (gC h (λh=>tC h λc7_ h=>tC h λc8_ h=>tU q YL iX (c3 c7_ c8_ (Eq.refl l5.length)) (Qb (⟨(e8 v1 v18 x2 l5 i4),[(Pt 56 (Qd v18)),(Q8 35 x2.length),(37,.arr 1 81 l5.length (λi_=>AV.eraseAll kZ ((Fc (P7 l5) i4.toNat 0 [(.vsl 46 (P8 v18).toNat)]) i_))),(46,.arr 1 4 ((P8 v18).toNat) (λi_=>AV.eraseAll kZ ((λ_=>[(.bool false)]) i_)))],[]⟩:St) (by exact gLe (Le.trans (Le.trans (I8 (st':=⟨(e8 v1 v18 x2 l5 i4),[(Pt 56 (Qd v18)),(Q8 35 x2.length),(37,.arr 1 81 l5.length (λi_=>AV.eraseAll kZ ((Fc (P7 l5) i4.toNat 0 [(.vsl 46 (P8 v18).toNat)]) i_))),(46,.arr 1 4 ((P8 v18).toNat) (UJ v18))],[]⟩) (TmpsLe.refl _) (.same (.same (.same (.arr (λk hk=>M6 (e:=eB) (d:=false) (.cons (AVle.refl _) .nil) _ k (M7 hk)) .nil))))) (Gt (Bg (λk_:Nat=>(⟨(e8 v1 v18 x2 l5 i4),[(Pt 56 (Qd v18)),(Q8 35 x2.length),(vh l5.length kZ (P7 l5) i4.toNat k_),(46,.arr 1 4 k_ (UJ v18))],[]⟩:St)) (show(P8 v18).toNat=(OL v18).length from(N8 ..).symm)))) (I8 (st':=⟨(e8 v1 v18 x2 l5 i4),[(Pt 56 (Qd v18)),(Q8 35 x2.length),(37,.arr 1 81 l5.length (Fc (P7 l5) i4.toNat 0 (bs v18))),(46,.arr 1 4 ((OL v18).length) (UJ v18))],[]⟩) (TmpsLe.refl _) (.same (.same (.arr (Mv (λ_=>rfl) rfl) (.same .nil)))))) (tB h λx9 y9 h=>tT q [1,2,5,6,7,8,9] TZ [(xC 51 x9 x9.length)] (c1 (Mh y9)) (Qb (⟨[(1,(Z5 v1)),Uk,(5,(Z5 (P8 v18))),(6,(NJ x2 35)),(Vk 37 l5.length),(8,(Z5 i4)),(9,(NJ x9 51))],[(Pt 56 (Qd v18)),(Q8 35 x2.length),(37,.arr 1 81 l5.length (λi_=>AV.eraseAll OM ((Fc (P7 l5) i4.toNat 0 (bs v18)) i_))),(46,.arr 1 4 ((OL v18).length) (UJ v18)),(Q8 51 x9.length)],[]⟩:St) (gLe (I8 (st':=⟨[(1,(Z5 v1)),Uk,(5,(Z5 (P8 v18))),(6,(NJ x2 35)),(Vk 37 l5.length),(8,(Z5 i4)),(9,(NJ x9 51))],[(Pt 56 (Qd v18)),(Q8 35 x2.length),(37,.arr 1 81 l5.length (Fc (P7 l5) i4.toNat 0 (bs v18))),(46,.arr 1 4 ((OL v18).length) (UJ v18)),(Q8 51 x9.length)],[]⟩) (TmpsLe.refl _) (.same (.same (.arr (Mv (λ_=>rfl) rfl) (.same (.same .nil)))))) (Af q eP TZ (Qb (⟨(mw v1 v18 x2 l5 i4 x9),[(Pt 56 (Qd v18)),(Q8 35 x2.length),(37,.arr 1 81 l5.length (λi_=>AV.eraseAll OM ((Fc (P7 l5) i4.toNat 0 (bs v18)) i_))),(46,.arr 1 4 ((OL v18).length) (UJ v18)),(Q8 51 x9.length)],[]⟩:St) (gLe (I8 (st':=⟨(mw v1 v18 x2 l5 i4 x9),[(Pt 56 (Qd v18)),(Q8 35 x2.length),(37,.arr 1 81 l5.length (Fc (P7 l5) i4.toNat 0 (bs v18))),(46,.arr 1 4 ((OL v18).length) (UJ v18)),(Q8 51 x9.length)],[]⟩) (TmpsLe.refl _) (.same (.same (.arr (Mv (λ_=>rfl) rfl) (.same (.same .nil)))))) (gLe (st':=⟨(mw v1 v18 x2 l5 i4 x9),[(Pt 56 (Qd v18)),(Q8 35 x2.length),(37,.arr 1 81 l5.length (Fc (P7 l5) i4.toNat 0 (bs v18))),(46,.arr 1 4 ((OL v18).length) (UJ v18)),(Q8 51 x9.length)],[]⟩) (Le.trans (Le.trans (Bi (st':=⟨(mw v1 v18 x2 l5 i4 x9),[(Pt 56 (Qd v18)),(Q8 35 x2.length),(37,.arr 1 81 l5.length (λi_=>AV.eraseAll OM ((Fc (P7 l5) i4.toNat 0 (bs v18)) i_))),(46,.arr 1 4 ((OL v18).length) (UJ v18)),(Q8 51 x9.length)],[]⟩) eP TZ q) (I8 (st':=⟨(mw v1 v18 x2 l5 i4 x9),[(Pt 56 (Qd v18)),(Q8 35 x2.length),(37,.arr 1 81 l5.length (Fc (P7 l5) i4.toNat 0 (bs v18))),(46,.arr 1 4 ((OL v18).length) (UJ v18)),(Q8 51 x9.length)],[]⟩) (TmpsLe.refl _) (.same (.same (.arr (Mv (λ_=>rfl) rfl) (.same (.same .nil))))))) (Gt (by kernel_rfl))) (tB h λx17 y17 h=>gL0 y17 (λu (i10,l11)=>(Cl u [(10,(Z5 i10))] [(yR l5.length (P7 l5) i4.toNat l11.length),(46,.arr 1 4 l11.length (ka l11))])) (λu l12=>aG Γ (.exit 2) (⟨(e8 v1 v18 x2 l5 i4),[(Pt 56 (Qd v18)),(Q8 35 x2.length),(yR l5.length (P7 l5) i4.toNat l12.length),(Z9 46 l12)],[]⟩:St)) (λ⟨i10,l11⟩ y h=>Af q [1,2,5,6,7,8,9,10,54] TZ (Qb (⟨(xd v1 v18 x2 l5 i4 x9 i10),[(Pt 56 (Qd v18)),(Q8 35 x2.length),(vh l5.length OM (P7 l5) i4.toNat l11.length),(46,.arr 1 4 l11.length (ka l11)),(Q8 51 x9.length)],[]⟩:St) (gLe (I8 (st':=⟨(xd v1 v18 x2 l5 i4 x9 i10),[(Pt 56 (Qd v18)),(Q8 35 x2.length),(yR l5.length (P7 l5) i4.toNat l11.length),(46,.arr 1 4 l11.length (ka l11)),(Q8 51 x9.length)],[]⟩) (TmpsLe.refl _) (.same (.same (.arr (Mv (λ_=>rfl) rfl) (.same (.same .nil)))))) (gC h (λh=>tC h λc13_ h=>tC h λc14_ h=>tC h λc15_ h=>tC h λc16_ h=>gR q eP TZ [(60,(.vsl 46 l11.length))] [] (z8 c13_ (Eq.refl l5.length) (show(AVle (((Fc (P7 l5) i4.toNat 0 [(.vsl 46 l11.length)]) i4.toNat).getD 0 .any) (.vsl 46 l11.length)) from lQ) c14_ (M3 ((x2.getD i10.toNat false)==true) (ci c15_ (M3 ((x2.getD i10.toNat false)==true) (c3 (Ng (x2.getD i10.toNat false)) c16_ (Eq.refl l11.length)))))) (Qb (⟨(rj v1 v18 x2 l5 i4 x9 i10),[(Pt 56 (Qd v18)),(Q8 35 x2.length),(vh l5.length OM (P7 l5) i4.toNat l11.length),(46,.arr 1 4 l11.length (λi_=>AV.eraseAll OM ((Fc (ka l11) i10.toNat 0 [(.bool (bif (x2.getD i10.toNat false) then(!(x9.getD i10.toNat false)) else false))]) i_))),(Q8 51 x9.length)],[]⟩:St) (gLe (Le.trans (Le.trans (I8 (st':=⟨(rj v1 v18 x2 l5 i4 x9 i10),[(Pt 56 (Qd v18)),(Q8 35 x2.length),(vh l5.length OM (P7 l5) i4.toNat l11.length),(46,.arr 1 4 l11.length (e9 l11 i10 x2 x9)),(Q8 51 x9.length)],[]⟩) (TmpsLe.refl _) (.same (.same (.same (.arr (Bh (C8 ..).symm (λk_ hk_=>(Bg (AV.eraseAll OM) ((Fu (λ_ _=>rfl) (Hv c16_) rfl) k_ hk_)).trans rfl)) (.same .nil)))))) (Gt (Bg (λk_:Nat=>(⟨(rj v1 v18 x2 l5 i4 x9 i10),[(Pt 56 (Qd v18)),(Q8 35 x2.length),(vh l5.length OM (P7 l5) i4.toNat k_),(46,.arr 1 4 k_ (e9 l11 i10 x2 x9)),(Q8 51 x9.length)],[]⟩:St)) (show l11.length=(MW l11 i10 x2 x9).length from(C8 ..).symm)))) (I8 (st':=⟨(rj v1 v18 x2 l5 i4 x9 i10),[(Pt 56 (Qd v18)),(Q8 35 x2.length),(37,.arr 1 81 l5.length (Fc (P7 l5) i4.toNat 0 [(.vsl 46 (MW l11 i10 x2 x9).length)])),(46,.arr 1 4 ((MW l11 i10 x2 x9).length) (e9 l11 i10 x2 x9)),(Q8 51 x9.length)],[]⟩) (TmpsLe.refl _) (.same (.same (.arr (Mv (λ_=>rfl) rfl) (.same (.same .nil))))))) (Af q eP TZ (Qb (⟨(ri v1 v18 x2 l5 i4 x9 i10),[(Pt 56 (Qd v18)),(Q8 35 x2.length),(37,.arr 1 81 l5.length (λi_=>AV.eraseAll OM ((Fc (P7 l5) i4.toNat 0 [(.vsl 46 (MW l11 i10 x2 x9).length)]) i_))),(46,.arr 1 4 ((MW l11 i10 x2 x9).length) (e9 l11 i10 x2 x9)),(Q8 51 x9.length)],[]⟩:St) (tS h (gN (Le.trans (I8 (st':=⟨(ri v1 v18 x2 l5 i4 x9 i10),[(Pt 56 (Qd v18)),(Q8 35 x2.length),(37,.arr 1 81 l5.length (Fc (P7 l5) i4.toNat 0 [(.vsl 46 (MW l11 i10 x2 x9).length)])),(46,.arr 1 4 ((MW l11 i10 x2 x9).length) (e9 l11 i10 x2 x9)),(Q8 51 x9.length)],[]⟩) (TmpsLe.refl _) (.same (.same (.arr (Mv (λ_=>rfl) rfl) (.same (.same .nil)))))) (Le.trans (Le.trans (Bi (st':=⟨(ri v1 v18 x2 l5 i4 x9 i10),[(Pt 56 (Qd v18)),(Q8 35 x2.length),(37,.arr 1 81 l5.length (λi_=>AV.eraseAll OM ((Fc (P7 l5) i4.toNat 0 [(.vsl 46 (MW l11 i10 x2 x9).length)]) i_))),(46,.arr 1 4 ((MW l11 i10 x2 x9).length) (e9 l11 i10 x2 x9)),(Q8 51 x9.length)],[]⟩) eP TZ q) (I8 (st':=⟨(ri v1 v18 x2 l5 i4 x9 i10),[(Pt 56 (Qd v18)),(Q8 35 x2.length),(37,.arr 1 81 l5.length (Fc (P7 l5) i4.toNat 0 [(.vsl 46 (MW l11 i10 x2 x9).length)])),(46,.arr 1 4 ((MW l11 i10 x2 x9).length) (e9 l11 i10 x2 x9)),(Q8 51 x9.length)],[]⟩) (TmpsLe.refl _) (.same (.same (.arr (Mv (λ_=>rfl) rfl) (.same (.same .nil))))))) (Gt (by kernel_rfl))))))))))) λh=>tS h (gO (Bd (Le.trans (Le.trans (Bi (st':=⟨(e8 v1 v18 x2 l5 i4),[(Pt 56 (Qd v18)),(Q8 35 x2.length),(vh l5.length kZ (P7 l5) i4.toNat l11.length),(46,.arr 1 4 l11.length (ka l11))],[]⟩) YL iX q) (I8 (st':=⟨(e8 v1 v18 x2 l5 i4),[(Pt 56 (Qd v18)),(Q8 35 x2.length),(yR l5.length (P7 l5) i4.toNat l11.length),(46,.arr 1 4 l11.length (ka l11))],[]⟩) (TmpsLe.refl _) (.same (.same (.arr (Mv (λ_=>rfl) rfl) (.same .nil)))))) (Gt (by kernel_rfl))))))))) (gA (Af q YL iX (Qb (⟨(rk v1 v18 x2 l5 i4),[(Pt 56 (Qd v18)),(Q8 35 x2.length),(vh l5.length kZ (P7 l5) i4.toNat x17.length),(Z9 46 x17)],[]⟩:St) (tS h (gN (Le.trans (Le.trans (I8 (st':=⟨(rk v1 v18 x2 l5 i4),[(Pt 56 (Qd v18)),(Q8 35 x2.length),(yR l5.length (P7 l5) i4.toNat x17.length),(Z9 46 x17)],[]⟩) (TmpsLe.refl _) (.same (.same (.arr (Mv (λ_=>rfl) rfl) (.same .nil))))) (Le.trans (Le.trans (Le.trans (le_freeze (nm:=46) (sz:=1) (n:=x17.length) (e:=4) (f:=(λi=>eB (x17.getD i false))) (g:=(λi=>eB (x17.getD i false))) rfl trivial (λ_ _=>rfl) (by rw[hΓ];rfl)) (Gt (st':=⟨(rk v1 v18 x2 l5 i4),[(Pt 56 (Qd v18)),(Q8 35 x2.length),(37,.arr 1 81 l5.length (λi_=>AV.frwAll 46 1 x17.length (λi=>eB (x17.getD i false)) ((Fc (P7 l5) i4.toNat 0 [(.vsl 46 x17.length)]) i_))),(Q8 46 x17.length)],[]⟩) (by kernel_rfl))) (I8 (st':=⟨(rk v1 v18 x2 l5 i4),[(Pt 56 (Qd v18)),(Q8 35 x2.length),(37,.arr 1 81 l5.length (λi=>ZM ((l5.set i4.toNat x17).getD i []))),(Q8 46 x17.length)],[]⟩) (TmpsLe.refl _) (.same (.same (.arr (pA (λ_=>rfl) (λ_=>rfl) rfl) (.same .nil)))))) (Gt (Bg (λk_:Nat=>(⟨[(1,(Z5 v1)),Uk,(5,(Z5 (P8 v18))),(6,(NJ x2 35)),(Vk 37 k_),(8,(.int .i64 (w64 (i4+1))))],[(Pt 56 (Qd v18)),(Q8 35 x2.length),(37,.arr 1 81 k_ (λi=>ZM ((l5.set i4.toNat x17).getD i []))),(Q8 46 x17.length)],[]⟩:St)) (show l5.length=(l5.set i4.toNat x17).length from(C8 ..).symm))))) (Bi YL KR q)))))))))))))))))) λh=>tS h (gO (Bd (Bi [1,5,7] [37] q))))) λx19 h=>gA (tV q [1,5,7,11] Lh h λh=>by exact gLe (Le.trans (Sr 75 (show ∀ k_,k_<((P8 v18).toNat)->AVleL ((λi_=>AV.eraseAll fA ((λ_=>[L8]) i_)) k_) ((λi=>Ap ((List.replicate (P8 v18).toNat (0:Int)).getD i 0)) k_) from(λk hk=>M6 (e:=Ap) (d:=(0:Int)) (.cons (AVle.refl _) .nil) _ k (M7 hk)))) (R9 (λ(k_:Nat) u=>(Cl u [(11,(.vsl 75 k_))] [(75,.arr 1 3 k_ (λi=>Ap ((List.replicate (P8 v18).toNat (0:Int)).getD i 0)))])) (show(P8 v18).toNat=(List.replicate (P8 v18).toNat (0:Int)).length from(N8 ..).symm))) (Af q MP Lh (tL q h MP Lh (λu (i22,l23)=>(Cl u [(11,(.vsl 75 l23.length)),(12,(Z5 i22))] [(Z4 75 l23)])) (λu l24=>aG Γ (.exit 4) (⟨[(11,(.vsl 75 l24.length))],[(Z4 75 l24)],[]⟩:St)) (λ⟨i22,l23⟩ y h=>Af q [1,5,7,11,12,78] Lh (gC h (λh=>tC h λc25_ h=>tU q MP Lh (c2 c25_ (Eq.refl l23.length)) (gLe (Le.trans (Sr 75 (show ∀ k_,k_<l23.length->AVleL ((λi_=>AV.eraseAll fA ((Fc (λi=>Ap (l23.getD i 0)) i22.toNat 0 [(.int .i64 (-2:Int))]) i_)) k_) ((λi=>Ap ((UK l23 i22).getD i 0)) k_) from(Bh (C8 ..).symm (λk_ hk_=>(Bg (AV.eraseAll fA) ((Fu (λ_ _=>rfl) (Hv c25_) rfl) k_ hk_)).trans rfl)))) (R9 (λ(k_:Nat) u=>(Cl u [(11,(.vsl 75 k_))] [(75,.arr 1 3 k_ (λi=>Ap ((UK l23 i22).getD i 0)))])) (show l23.length=(UK l23 i22).length from(C8 ..).symm))) (tB h λx28 y28 h=>gJ y28 (λl26=>aG Γ .normal (⟨[(1,(Z5 v1)),(5,(Z5 (P8 v18))),(Vk 37 x19.length),(11,(.vsl 75 l26.length)),(12,(Z5 i22))],[(37,.arr 1 81 x19.length (λi=>ZM (x19.getD i []))),(Z4 75 l26)],[]⟩:St)) (λy h=>Af q [1,5,7,11,12,86] Lh (gC h (λh=>tC h λc27_ h=>tU q MP Lh (c2 c27_ (Eq.refl ((UK l23 i22).length))) (tS h (gK (Bd (Le.trans (Le.trans (Sr 75 (show ∀ k_,k_<((UK l23 i22).length)->AVleL ((λi_=>AV.eraseAll fA ((Fc (λi=>Ap ((UK l23 i22).getD i 0)) i22.toNat 0 [(.int .i64 (-1:Int))]) i_)) k_) ((λi=>Ap (((UK l23 i22).set i22.toNat (-1:Int)).getD i 0)) k_) from(Bh (C8 ..).symm (λk_ hk_=>(Bg (AV.eraseAll fA) ((Fu (λ_ _=>rfl) (Hv c27_) rfl) k_ hk_)).trans rfl)))) (R9 (λ(k_:Nat) u=>(Cl u [(11,(.vsl 75 k_))] [(75,.arr 1 3 k_ (λi=>Ap (((UK l23 i22).set i22.toNat (-1:Int)).getD i 0)))])) (show(UK l23 i22).length=((UK l23 i22).set i22.toNat (-1:Int)).length from(C8 ..).symm))) Iq))))) λh=>tS h (gK (Bd (Bi MP Lh q))))) (gA (Af q YI Lh (tL q h YI Lh (λu (i30,l31)=>(Cl u [(11,(.vsl 75 l31.length)),(13,(Z5 i30))] [(Z4 75 l31)])) (λu l32=>aG Γ (.exit 6) (Nh MP Lh u [(11,(.vsl 75 l32.length))] [(Z4 75 l32)])) (λ⟨i30,l31⟩ y h=>tU q [1,5,7,11,12,13,97] Lh (M3 ((decide (i30<(P8 v18)))==true) (c1 (Ng (decide (i30<(P8 v18)))))) (gC h (λh=>tB h λx46 y46 h=>gJ y46 (λl33=>aG Γ .normal (⟨[(1,(Z5 v1)),(5,(Z5 (P8 v18))),(Vk 37 x19.length),(11,(.vsl 75 l33.length)),(12,(Z5 i22)),(13,(Z5 i30))],[(37,.arr 1 81 x19.length (λi=>ZM (x19.getD i []))),(Z4 75 l33)],[]⟩:St)) (λy h=>tC h λc34_ h=>tC h λc35_ h=>tU q [1,5,7,11,12,13,112] Lh (M3 (my i30 i22) (ZK c34_ (gI (my i30 i22)) (show((my i30 i22)=true->(x19.length=x19.length)) from(λhg=>rfl)) (M3 (my i30 i22) (ci c35_ (M3 (my i30 i22) (c1 (Nf (i30==i22)))))))) (gC h (λh=>tS h (gK (Bd (Bi YI Lh q)))) λh=>tW q iB Lh kL Lh (tL q h kL Lh (λu (b36,i37)=>(Cl u [(14,(.bool b36)),(15,(Z5 i37))] [])) (λu b38=>aG Γ (.exit 8) (Nh iB Lh u [(14,(.bool b38))] [])) (λ⟨b36,i37⟩ y h=>Af q [1,5,7,11,12,13,14,15,115] Lh (gC h (λh=>tC h λc39_ h=>tC h λc40_ h=>tC h λc41_ h=>tC h λc42_ h=>tU q kL Lh (Vl (b36==true) (M3 (kY b36 i37 i22) (ZK c39_ (gI (kY b36 i37 i22)) (show((kY b36 i37 i22)=true->(x19.length=x19.length)) from(λhg=>rfl)) (M3 (kY b36 i37 i22) (ci c40_ (M3 (kY b36 i37 i22) (ZK (gI (b36==true)) (show((b36==true)=true->((i37==i22)=false->(kY b36 i37 i22)=true)) from(λhg=>(aF hg))) (gI (b36==true)) (M3 (kX b36 i37 i22 x19) (ZK c41_ (gI (kX b36 i37 i22 x19)) (show((kX b36 i37 i22 x19)=true->(x19.length=x19.length)) from(λhg=>rfl)) (M3 (kX b36 i37 i22 x19) (c5 c42_ (gI (kX b36 i37 i22 x19)) (gI (b36==true)) (show((b36==true)=true->((bif (i37==i22) then true else(!((x19.getD i37.toNat []).getD i22.toNat false)))=false->(kX b36 i37 i22 x19)=true)) from(λhg=>(aF hg))) (Ng b36)))))))))))) (Af q kL Lh (tN h))) λh=>tS h (gO (Bd (Bi iB Lh q))))) λx43 h=>gA (Af q [1,5,7,11,12,13,143] Lh (gC h (λh=>tC h λc45_ h=>tU q YI Lh (c2 c45_ (Eq.refl l31.length)) (tS h (gK (Bd (Le.trans (Le.trans (Sr 75 (show ∀ k_,k_<l31.length->AVleL ((λi_=>AV.eraseAll fA ((Fc (λi=>Ap (l31.getD i 0)) i22.toNat 0 [(Z5 i30)]) i_)) k_) ((λi=>Ap ((l31.set i22.toNat i30).getD i 0)) k_) from(Bh (C8 ..).symm (λk_ hk_=>(Bg (AV.eraseAll fA) ((Fu (λ_ _=>rfl) (Hv c45_) rfl) k_ hk_)).trans rfl)))) (R9 (λ(k_:Nat) u=>(Cl u [(11,(.vsl 75 k_))] [(75,.arr 1 3 k_ (λi=>Ap ((l31.set i22.toNat i30).getD i 0)))])) (show l31.length=(l31.set i22.toNat i30).length from(C8 ..).symm))) Iq))))) λh=>tS h (gK (Bd (Bi YI Lh q)))))))) (gA (Af q YI Lh (tN h)))) λh=>tS h (gO (Bd (Bi MP Lh q))))) λx48 h=>gA (Af q MP Lh (tN h)))))))) λh=>tS h (gO (Bd (Bi [11] [75] q))))) λx50 h=>gA (Af q [4] [75] (Qb (⟨[(4,(.vsl 75 x50.length))],[(Z4 75 x50)],[]⟩:St) (tS h (gK (e:=.ret) (H6 [(75,20000)] (Le.trans (le_freeze (nm:=75) (sz:=1) (n:=x50.length) (e:=3) (f:=(λi=>Ap (x50.getD i 0))) (g:=(λi=>Ap (x50.getD i 0))) rfl ⟨rfl,trivial⟩ (λ_ _=>rfl) (by rw[hΓ];rfl)) (Gt (st':=⟨[(4,(V7 x50 75))],[(Ys 75 x50.length)],[]⟩) (by kernel_rfl)))))))))))))))))
def Ci(a8:Ar):CD->Option (LR (Int×Ar) (Unit ⊕ Ar)):=
 λ((i1,l2):CD)=>(bif (bif (bif (decide ((l2.length:Int)<(a8.length:Int))) then(decide ((0:Int)<=i1)) else false) then(decide (i1<(a8.length:Int))) else false) then(A0 (l2.length+([i1]:Ar).length<=room) (A0 (A1 i1 a8.length) (bif ((a8.getD i1.toNat 0)==-1) then(some (.done (.inr (l2++([i1]:Ar))))) else(A0 (A1 i1 a8.length) (some (.next ((a8.getD i1.toNat 0),(l2++([i1]:Ar))))))))) else(some (.done (.inl ()))))
def AG(Γ:H5)(a8:Ar)(aI:Int)(r:Ar):Exit->St->Prop:=fK Tryz.prog Γ Tryz.f103.results.toList [] (V7 r 20000) [(Ys 20000 r.length)]
def kd:AV:=fD
def xe(l2:Ar)(a8:Ar)(i1:Int):=(bif (decide ((l2.length:Int)<(a8.length:Int))) then(decide ((0:Int)<=i1)) else false)
def xg:=(Z33:St)
def xf(a8:Ar)(aI:Int):=(⟨[(0,(Z6 a8)),(1,(Z5 aI)),(5,(z7 5005))],[(5005,.tok 1 3 (([]:Ar).length))],[]⟩:St)
def Ge(a8:Ar)(aI:Int):Option Ar:=
 ((Ac (Ci a8) (aI,([]:Ar))).bind (λx6=>(match x6 with|(.inl _)=>(some ([]:Ar))|(.inr r8)=>(some r8))))
variable{v17:Ar}
theorem Mz(h:Ge v2 v1=some v17):sP 103 [(Z6 v2),(Z5 v1)] [] (V7 v17 20000) [(Ys 20000 v17.length)]:=
 sG Tryz.func103 λΓ q=>gR q Gn [] [(4,kd)] [] (c1 (B0 1 Ap (0:Int))) (gR q Nc [] [(5,kd)] [] (c1 (B0 1 Ap (0:Int))) (gLe (st':=(xf v2 v1)) (Le.trans (Bi (st':=⟨[(0,(Z6 v2)),(1,(Z5 v1)),(5,kd)],[],[]⟩) Nc [] q) (Le.trans (Rl (t:=5) (nm:=5005) (sz':=1) (λi=>Ap (([]:Ar).getD i 0)) 3 rfl rfl (.inl ⟨rfl,rfl⟩) (λh_=>absurd h_ (by decide))) (Bi (st':=(xf v2 v1)) Nc [5005] q))) (tL q h Nc [5005] (λu (i1,l2)=>(Cl u [(1,(Z5 i1)),(5,(V7 l2 5005))] [(Ys 5005 l2.length)])) (λu x_=>match x_ with|(.inl _)=>aG Γ (.exit 0) (⟨[],[],[]⟩:St)|(.inr r_)=>aR (AG Γ v2 v1 r_)) (λ⟨i1,l2⟩ y h=>tU q [0,1,5,20] [5005] (eX (gI ((decide ((l2.length:Int)<(v2.length:Int)))==true)) (Ng (decide ((l2.length:Int)<(v2.length:Int)))) (Vl ((xe l2 v2 i1)==true) (c1 (Ng (xe l2 v2 i1))))) (gC h (λh=>tC h λc3_ h=>gR q Nc [5005] (vf 23 i1 24 l2 5005) [] (c5 (Bp 1 Ap (0:Int) ([i1]:Ar)) (Eq.refl l2.length) c3_ (Iz 1 5005 Ap (0:Int) l2 ([i1]:Ar)) (E3 l2 ([i1]:Ar))) (tV q [0,1,5,29] [5005] h λh=>gC h (λh=>Af q [4] [5005] (tS h (gO (Ll (H6 [(5005,20000)] (Le.refl _ _)))))) λh=>tV q Nc [5005] h λh=>tN h)) λh=>tS h (gO (Bd (Bi [] [] q))))) λx6 h=>(match x6,h with | .inl _,h=>gA (gR q [4] [] [(4,kd)] [] (c1 (B0 1 Ap (0:Int))) (Qb (⟨[(4,kd)],[],[]⟩:St) (tS h (gK (e:=.ret) (H6 bT (show Le Γ _ xg from Le.trans (Bi (st':=⟨[(4,kd)],[],[]⟩) [4] [] q) (Le.trans (Rl (t:=4) (nm:=6004) (sz':=1) (λi=>Ap (([]:Ar).getD i 0)) 3 rfl rfl (.inl ⟨rfl,rfl⟩) (λh_=>absurd h_ (by decide))) (Bi (st':=xg) [4] [6004] q)))))))) | .inr r8,h=>O2 (λst' hk=>tS h (gK hk))))))
def Bz(a8:Ar):Gq->Option (LR (Int×Int) (Int ⊕ Bool)):=
 λ((i1,i2):Gq)=>(bif (decide (i2<(a8.length:Int))) then(Option.bind (α:=Int) (A0 (A1 i2 a8.length) (bif ((a8.getD i2.toNat 0)==-1) then(some (w64 (i1+1))) else(some i1))) (λx6=>(A0 (A1 i2 a8.length) ((bif (((a8.getD i2.toNat 0)!=-2)==true) then Ge a8 i2 else some []).bind λx9=>(bif (bif ((a8.getD i2.toNat 0)!=-2) then((x9.length:Int)==0) else false) then(some (.done (.inr false))) else(some (.next (x6,(w64 (i2+1)))))))))) else(some (.done (.inl i1))))
def Zf(Γ:H5)(a8:Ar)(r:Bool):Exit->St->Prop:=fK Tryz.prog Γ Tryz.f102.results.toList [] (.bool r) []
def rm(a8:Ar)(i2:Int):=((a8.getD i2.toNat 0)!=-2)
def Jz(a8:Ar):Option Bool:=
 ((Ac (Bz a8) ((0:Int),(0:Int))).bind (λx10=>(match x10 with|(.inl i3)=>(some (i3==1))|(.inr r12)=>(some r12))))
theorem X7(h:Jz v2=some v3):sP 102 [(Z6 v2)] [] (.bool v3) []:=
 sG Tryz.func102 λΓ q=>tW q [0] [] Ri [] (Af q S9 [] (tL q h S9 [] (λu (i1,i2)=>(Cl u [(3,(Z5 i1)),(4,(Z5 i2))] [])) (λu x_=>match x_ with|(.inl i3)=>aG Γ (.exit 0) (⟨[(3,(Z5 i3))],[],[]⟩:St)|(.inr r_)=>aR (Zf Γ v2 r_)) (λ⟨i1,i2⟩ y h=>Af q [0,3,4,8] [] (gC h (λh=>tB h λx6 y6 h=>gJ y6 (λi4=>aG Γ .normal (⟨[(0,(Z6 v2)),(3,(Z5 i4)),(4,(Z5 i2))],[],[]⟩:St)) (λy h=>tV q [0,3,4,15] [] h λh=>gC h (λh=>Af q S9 [] (tS h (gK (Bd Iq)))) λh=>tS h (gK (Bd (Bi S9 [] q)))) (gA (tC h λc8_ h=>tB h λx9 y9 h=>tT q [0,3,4,29] [] [⟨[],[],(Z6 x9),[],[],[]⟩] (ci c8_ (M3 ((rm v2 i2)==true) (ci (show(((rm v2 i2)==true)=true->(sP 103 [(Z6 v2),(Z5 i2)] [] (Z6 x9) [])) from(λhg=>(Spec.drop (Mz (Bq hg y9))))) (M3 ((rm v2 i2)==true) (c1 (Ng (rm v2 i2))))))) (gC h (λh=>Af q [2] [] (tS h (gO (Ll (H6 [] (Le.refl _ _)))))) λh=>Af q S9 [] (tN h))))) λh=>tS h (gO (Bd (Bi [3] [] q))))) λx10 h=>(match x10,h with | .inl i3,h=>gA (Af q [2] [] (tS h (Cc []))) | .inr r12,h=>O2 (λst' hk=>tS h (gK hk)))))
def Ej(x2:Ar)(x3:Ar):Int->Option (LR Int (Unit ⊕ Int)):=
 λ(i4:Int)=>(bif (decide (i4<(x2.length:Int))) then(A0 (A1 i4 x2.length) ((Cj x3 (x2.getD i4.toNat 0)).bind λx6=>(bif x6 then(A0 (A1 i4 x2.length) (some (.done (.inr (x2.getD i4.toNat 0))))) else(some (.next (w64 (i4+1))))))) else(some (.done (.inl ()))))
def AF(Γ:H5)(a8:Ar)(aI:Int)(aL:Int)(r:Int):Exit->St->Prop:=fK Tryz.prog Γ Tryz.f59.results.toList [] (.int .i64 r) []
def Kp(a8:Ar)(aI:Int)(aL:Int):Option Int:=
 ((Jz a8).bind λx1=>(bif (!x1) then(some (-2:Int)) else((Ge a8 aI).bind λx2=>((Ge a8 aL).bind λx3=>((Ac (Ej x2 x3) (0:Int)).bind (λx8=>(match x8 with|(.inl _)=>(some (-2:Int))|(.inr r10)=>(some r10))))))))
theorem Zs(h:Kp v2 v1 v11=some v20):sP 59 [(Z6 v2),(Z5 v1),(Z5 v11)] [] (.int .i64 v20) []:=
 sG Tryz.func59 λΓ q=>Af q TS [] (tB h λx1 y1 h=>tT q [0,1,2,12] [] [(Z2 x1)] (c1 (X7 y1)) (gC h (λh=>Af q [6] [] (tS h (Cc []))) λh=>tB h λx2 y2 h=>tT q TT [15] [(vi 15 x2 x2.length)] (c1 (Mz y2)) (tB h λx3 y3 h=>tT q [7,8] KU [(vi 18 x3 x3.length)] (c1 (Mz y3)) (Af q [7,8,9] KU (tL q h [7,8,9] KU (λu i4=>(Cl u [(9,(Z5 i4))] [])) (λu x_=>match x_ with|(.inl _)=>aG Γ (.exit 0) (⟨[],[],[]⟩:St)|(.inr r_)=>aR (AF Γ v2 v1 v11 r_)) (λi4 y h=>Af q [7,8,9,22] KU (gC h (λh=>tC h λc5_ h=>tB h λx6 y6 h=>tT q [7,8,9,30] KU [(Z2 x6)] (c2 c5_ (H3 y6)) (gC h (λh=>tV q [6] [] h λh=>tS h (gO (Ll (H6 [] (Le.refl _ _))))) λh=>Af q [7,8,9] KU (tN h))) λh=>tS h (gO (Bd (Bi [] [] q))))) λx8 h=>(match x8,h with | .inl _,h=>gA (Af q [6] [] (tS h (Cc []))) | .inr r10,h=>O2 (λst' hk=>tS h (gK hk))))))))
def Fm(x4:List Bx):Int->Option (LR Int (Unit ⊕ Int)):=
 λ(i5:Int)=>(bif (decide (i5<(x4.length:Int))) then(A0 (A1 i5 x4.length) ((Fi ((x4.getD i5.toNat default).V)).bind λx7=>(A0 (((!x7)==false)=true->(A1 i5 x4.length)) ((bif ((!x7)==false) then Ey x4 ((x4.getD i5.toNat default).V) else some (0:Int)).bind λx9=>(bif (bif (!x7) then true else(x9 !=i5)) then(some (.done (.inr (7:Int)))) else(some (.next (w64 (i5+1))))))))) else(some (.done (.inl ()))))
def D2(x4:List Bx)(x12:List Cm):Int->Option (LR Int (Unit ⊕ Int)):=
 λ(i13:Int)=>(bif (decide (i13<(x12.length:Int))) then(A0 (A1 i13 x12.length) ((Ey x4 ((x12.getD i13.toNat default).V)).bind λx15=>(bif (decide (x15<0)) then(some (.done (.inr (7:Int)))) else(some (.next (w64 (i13+1))))))) else(some (.done (.inl ()))))
def D3(x4:List Bx)(x12:List Cm):Int->Option (LR Int (Unit ⊕ Int)):=
 λ(i18:Int)=>(bif (decide (i18<(x12.length:Int))) then(A0 (A1 i18 x12.length) ((Ey x4 ((x12.getD i18.toNat default).V)).bind λx20=>(A0 (A1 x20 x4.length) (A0 (A1 i18 x12.length) (bif (!((((x4.getD x20.toNat default).Shape.1:Int)==(x12.getD i18.toNat default).Shape.1)&&((((x4.getD x20.toNat default).Shape.2:Int)==(x12.getD i18.toNat default).Shape.2)&&true))) then(some (.done (.inr (6:Int)))) else(some (.next (w64 (i18+1))))))))) else(some (.done (.inl ()))))
def C2(x4:List Bx)(x12:List Cm)(x26:Ar):Int->Option (LR Int (Unit ⊕ Int)):=
 λ(i27:Int)=>(bif (decide (i27<(x12.length:Int))) then(Option.bind (α:=(Unit ⊕ Int)) (A0 (A1 i27 x12.length) ((Ey x4 ((x12.getD i27.toNat default).V)).bind λx29=>(A0 (A1 x29 x4.length) (bif (bif (decide (((x4.getD x29.toNat default).Block:Int)<0)) then true else(bif (((x4.getD x29.toNat default).Block:Int)==(x12.getD i27.toNat default).Block) then(decide (((x4.getD x29.toNat default).At:Int)<(x12.getD i27.toNat default).At)) else false)) then(some (.inl ())) else((bif ((((x4.getD x29.toNat default).Block:Int)==(x12.getD i27.toNat default).Block)==false) then Kp x26 ((x4.getD x29.toNat default).Block) ((x12.getD i27.toNat default).Block) else some (0:Int)).bind λx31=>(bif (bif (((x4.getD x29.toNat default).Block:Int)==(x12.getD i27.toNat default).Block) then true else(x31 !=(x4.getD x29.toNat default).Block)) then(some (.inr (7:Int))) else(some (.inl ())))))))) (λx32=>(match x32 with|(.inl _)=>(some (.next (w64 (i27+1))))|(.inr r34)=>(some (.done (.inr r34)))))) else(some (.done (.inl ()))))
def Hh(Γ:H5)(a0:TFunc)(a2:Int)(r:Int):Exit->St->Prop:=fK Tryz.prog Γ Tryz.f21.results.toList [] (.int .i64 r) []
def mz(x4:List Bx)(x29:Int):=((decide (((x4.getD x29.toNat default).Block:Int)<0))==false)
def fB(x4:List Bx)(x29:Int)(x12:List Cm)(i27:Int):=(((x4.getD x29.toNat default).Block:Int)==(x12.getD i27.toNat default).Block)
def D7(a0:TFunc)(a2:Int):Option Int:=
 (bif (bif (decide (a2<0)) then true else(decide ((2:Int)<a2))) then(some (1:Int)) else((Iw a0).bind λx1=>(bif (!x1) then(some (4:Int)) else((J0 a0).bind λx2=>(bif (!x2) then(some (5:Int)) else((J1 a0 a2).bind λx3=>(bif (!x3) then(some (6:Int)) else((Kr a0).bind λx4=>((Ac (Fm x4) (0:Int)).bind (λx10=>(match x10 with|(.inl _)=>((Ks a0).bind λx12=>((Ac (D2 x4 x12) (0:Int)).bind (λx16=>(match x16 with|(.inl _)=>((Ac (D3 x4 x12) (0:Int)).bind (λx23=>(match x23 with|(.inl _)=>((Hs a0).bind λx25=>((Kq x25.1 (0:Int)).bind λx26=>((Ac (C2 x4 x12 x26) (0:Int)).bind (λx35=>(match x35 with|(.inl _)=>(some (0:Int))|(.inr r37)=>(some r37))))))|(.inr r38)=>(some r38))))|(.inr r39)=>(some r39)))))|(.inr r40)=>(some r40))))))))))))
theorem X8(h:D7 v0 v1=some v11):sP 21 [(W8 v0),(Z5 v1)] [] (.int .i64 v11) []:=
 sG Tryz.func21 λΓ q=>Af q Ee [2] (tU q [1,2,21] [2] (c2 (gI ((decide (v1<0))==false)) (Nf (decide (v1<0)))) (gC h (λh=>Af q [4] [] (tS h (Cc []))) λh=>tB h λx1 y1 h=>tT q [1,2,24] [2] [(Z2 x1)] (c1 (BK y1)) (gC h (λh=>Af q [4] [] (tS h (Cc []))) λh=>tB h λx2 y2 h=>tT q [1,2,27] [2] [(Z2 x2)] (c1 (Ya y2)) (gC h (λh=>Af q [4] [] (tS h (Cc []))) λh=>tB h λx3 y3 h=>tT q [2,31] [2] [(Z2 x3)] (c1 (Yb y3)) (gC h (λh=>Af q [4] [] (tS h (Cc []))) λh=>tB h λx4 y4 h=>tT q V5 CN [⟨[],[(20000,33)],(AV.list 5 Pu default x4 (.own 20000)),[(Lj 20000 92 x4.length)],[],[]⟩] (c1 (Zu y4)) (Af q W6 CN (tL q h W6 CN (λu i5=>(Cl u [(6,(Z5 i5))] [])) (λu x_=>match x_ with|(.inl _)=>aG Γ (.exit 0) (Nh V5 CN u [] [])|(.inr r_)=>aR (Hh Γ v0 v1 r_)) (λi5 y h=>Af q [2,5,6,37] CN (gC h (λh=>tC h λc6_ h=>tB h λx7 y7 h=>tC h λc8_ h=>tB h λx9 y9 h=>tT q [2,5,6,57] CN [(Z2 x7),(YY x9)] (eX c6_ (Mg y7) (M3 ((!x7)==false) (ci c8_ (ZP ((!x7)==false) (ci (λ(hg:((!x7)==false)=true)=>(J3 (Bq hg y9))) (M3 ((!x7)==false) (c1 (Nf (!x7))))))))) (gC h (λh=>Af q [4] [] (tS h (gO (Ll (H6 [] (Le.refl _ _)))))) λh=>Af q W6 CN (tN h))) λh=>tS h (gO (Bd (Bi V5 CN q))))) λx10 h=>(match x10,h with | .inl _,h=>gA (tB h λx12 y12 h=>tT q TU Uj [⟨[],[(20000,59)],(AV.list 5 O1 default x12 (.own 20000)),[(Lj 20000 96 x12.length)],[],[]⟩] (c1 (Zv y12)) (Af q [2,5,7,8] Uj (tL q h [2,5,7,8] Uj (λu i13=>(Cl u [(8,(Z5 i13))] [])) (λu x_=>match x_ with|(.inl _)=>aG Γ (.exit 2) (Nh TU Uj u [] [])|(.inr r_)=>aR (Hh Γ v0 v1 r_)) (λi13 y h=>Af q [2,5,7,8,63] Uj (gC h (λh=>tC h λc14_ h=>tB h λx15 y15 h=>tT q [2,5,7,8,73] Uj [(YY x15)] (c2 c14_ (J3 y15)) (gC h (λh=>Af q [4] [] (tS h (gO (Ll (H6 [] (Le.refl _ _)))))) λh=>Af q [2,5,7,8] Uj (tN h))) λh=>tS h (gO (Bd (Bi TU Uj q))))) λx16 h=>(match x16,h with | .inl _,h=>gA (Af q [2,5,7,9] Uj (tL q h [2,5,7,9] Uj (λu i18=>(Cl u [(9,(Z5 i18))] [])) (λu x_=>match x_ with|(.inl _)=>aG Γ (.exit 4) (Nh TU Uj u [] [])|(.inr r_)=>aR (Hh Γ v0 v1 r_)) (λi18 y h=>Af q [2,5,7,9,77] Uj (gC h (λh=>tC h λc19_ h=>tB h λx20 y20 h=>tC h λc21_ h=>tC h λc22_ h=>tT q [2,5,7,9,96] Uj [(YY x20)] (c4 c19_ (J3 y20) c21_ c22_) (gC h (λh=>Af q [4] [] (tS h (gO (Ll (H6 [] (Le.refl _ _)))))) λh=>Af q [2,5,7,9] Uj (tN h))) λh=>tS h (gO (Bd (Bi TU Uj q))))) λx23 h=>(match x23,h with | .inl _,h=>gA (tB h λx25 y25 h=>tT q [5,7,10] [10,33,59] [(vk x25.1 x25.2)] (c1 (Oq y25)) (tB h λx26 y26 h=>tT q [5,7,12] MS [(vi 103 x26 x26.length)] (c1 (Zt y26)) (Af q TK MS (tL q h TK MS (λu i27=>(Cl u [(13,(Z5 i27))] [])) (λu x_=>match x_ with|(.inl _)=>aG Γ (.exit 6) (⟨[],[],[]⟩:St)|(.inr r_)=>aR (Hh Γ v0 v1 r_)) (λi27 y h=>Af q [5,7,12,13,107] MS (gC h (λh=>tB h λx32 y32 h=>gJ y32 (λx_=>match x_ with|(.inl _)=>aG Γ .normal (⟨[(5,(AV.list 5 Pu default x4 (.own 33))),(7,(AV.list 5 O1 default x12 (.own 59))),(12,(V7 x26 103)),(13,(Z5 i27))],[(Lj 33 92 x4.length),(Lj 59 96 x12.length),(Ys 103 x26.length)],[]⟩:St)|(.inr r_)=>aR (Hh Γ v0 v1 r_)) (λy h=>tV q [5,7,12,13,14] [14,33,59,103] h λh=>tB h λx29 y29 h=>tC h λc30_ h=>tT q [5,7,12,13,14,15] [14,15,33,59,103] [(YY x29)] (c2 (J3 y29) c30_) (tU q [5,7,12,13,14,15,137] [14,15,33,59,103] (wR (mz x4 x29) (ZP ((mz x4 x29)&&((fB x4 x29 x12 i27)==true)) (c3 (gI (mz x4 x29)) (show((mz x4 x29)=true->((fB x4 x29 x12 i27)=true->((mz x4 x29)&&((fB x4 x29 x12 i27)==true))=true)) from(λhg=>(aT hg))) (Nf (decide (((x4.getD x29.toNat default).Block:Int)<0)))))) (gC h (λh=>tS h (gK (Bd (Bi TK MS q)))) λh=>tB h λx31 y31 h=>tT q [5,7,12,13,153] MS [(YY x31)] (wR ((fB x4 x29 x12 i27)==false) (ci (λ(hg:((fB x4 x29 x12 i27)==false)=true)=>(Zs (Bq hg y31))) (Vl ((fB x4 x29 x12 i27)==false) (c1 (Nf (fB x4 x29 x12 i27)))))) (gC h (λh=>Af q [4] [] (tS h (gK (Ll (H6 [] (Le.refl _ _)))))) λh=>tS h (gK (Bd (Bi TK MS q))))))) (match x32,h with | .inl _,h=>gA (Af q TK MS (tN h)) | .inr r34,h=>O2 (λst' hk=>tS h (gO (Ll hk))))) λh=>tS h (gO (Bd (Bi [] [] q))))) λx35 h=>(match x35,h with | .inl _,h=>gA (Af q [4] [] (tS h (Cc []))) | .inr r37,h=>O2 (λst' hk=>tS h (gK hk))))))) | .inr r38,h=>O2 (λst' hk=>tS h (gK hk))))) | .inr r39,h=>O2 (λst' hk=>tS h (gK hk)))))) | .inr r40,h=>O2 (λst' hk=>tS h (gK hk))))))))))
open Go Go.RowKit
set_option maxRecDepth 100000
set_option maxHeartbeats 2000000
def kg(aJ:Int):=(bif (bif (decide ((0:Int)<=aJ)) then(decide (aJ<=22)) else false) then(aJ !=4) else false)
def Sa(aJ:Int):Option Bool:=
 (some (bif (bif (bif (decide ((0:Int)<=aJ)) then(decide (aJ<=22)) else false) then(aJ !=4) else false) then(bif (decide (aJ<16)) then true else(decide ((20:Int)<aJ))) else false))
theorem Zp(h:Sa v1=some v3):sP 33 [(Z5 v1)] [] (.bool v3) []:=
 sG Tryz.func33 λΓ q=>Af q [0] [] (tU q [2] [] (z8 (gI ((decide ((0:Int)<=v1))==true)) (Ng (decide ((0:Int)<=v1))) (gI ((bif (decide ((0:Int)<=v1)) then(decide (v1<=22)) else false)==true)) (Ng (bif (decide ((0:Int)<=v1)) then(decide (v1<=22)) else false)) (M3 ((kg v1)==true) (c4 (gI (((kg v1)==true)&&((decide (v1<16))==false))) (gI ((kg v1)==true)) (show(((kg v1)==true)=true->((decide (v1<16))=false->(((kg v1)==true)&&((decide (v1<16))==false))=true)) from(λhg=>(aF hg))) (Ng (kg v1))))) (tS h (Cc [])))
open Go Go.RowKit
set_option maxRecDepth 100000
set_option maxHeartbeats 2000000
def Ls(a0:TFunc):Option Bool:=
 ((R0 a0 (2:Int)).bind λx1=>(some (x1==0)))
theorem Su(h:Ls v0=some v3):sP 42 [(W8 v0)] [] (.bool v3) []:=
 sG Tryz.func42 λΓ q=>Af q [1] [1] (tB h λx1 y1 h=>tT q [2] [] [(YY x1)] (c1 (QR y1)) (tS h (Cc [])))
def Ml(a0:TFunc)(x1:kB):Int->Option (LR Int (Unit ⊕ ((Bool×KW)×Bool))):=
 λ(i2:Int)=>(bif (decide (i2<(a0.Blocks.length:Int))) then(Option.bind (α:=(Unit ⊕ ((Bool×KW)×Bool))) (A0 (A1 i2 a0.Blocks.length) (bif (((a0.Blocks.getD i2.toNat default).End.Kind:Int)!=1) then(some (.inl ())) else(A0 (A1 (0:Int) ((a0.Blocks.getD i2.toNat default).End.To).length) (A0 ((((((a0.Blocks.getD i2.toNat default).End.To).getD (0:Int).toNat (0:Int))!=i2)==true)=true->(A1 (((a0.Blocks.getD i2.toNat default).End.To).getD (0:Int).toNat (0:Int)) x1.1.Pred.length)) (bif (bif ((((a0.Blocks.getD i2.toNat default).End.To).getD (0:Int).toNat (0:Int))!=i2) then(((x1.1.Pred.getD (((a0.Blocks.getD i2.toNat default).End.To).getD (0:Int).toNat (0:Int)).toNat []).length:Int)==1) else false) then(some (.inr ((true,(⟨i2,(((a0.Blocks.getD i2.toNat default).End.To).getD (0:Int).toNat (0:Int)),([]:List Gq)⟩:KW)),true))) else(some (.inl ()))))))) (λx6=>(match x6 with|(.inl _)=>(some (.next (w64 (i2+1))))|(.inr r8)=>(some (.done (.inr r8)))))) else(some (.done (.inl ()))))
abbrev qc:=((Bool×KW)×Bool)
def GI(Γ:H5)(a0:TFunc)(r:qc):Exit->St->Prop:=fK Tryz.prog Γ Tryz.f46.results.toList [] (.tuple [(bif r.1.1 then((.ptr 20000 0):AV) else .nilp),(.bool r.2)]) (bif r.1.1 then(yS 20000 r.1.2.x r.1.2.y) else[])
def vL(a0:TFunc)(i2:Int):=((((a0.Blocks.getD i2.toNat default).End.To).getD (0:Int).toNat (0:Int))!=i2)
def Kt(a0:TFunc):Option qc:=
 ((Tw a0).bind λx1=>((Ac (Ml a0 x1) (0:Int)).bind (λx9=>(match x9 with|(.inl _)=>(some ((false,(default:KW)),false))|(.inr r11)=>(some r11)))))
variable{v37:qc}
theorem R4(h:Kt v0=some v37):sP 46 [(W8 v0)] [] (.tuple [(bif v37.1.1 then((.ptr 20000 0):AV) else .nilp),(.bool v37.2)]) (bif v37.1.1 then(yS 20000 v37.1.2.x v37.1.2.y) else[]):=
 sG Tryz.func46 λΓ q=>Af q [1] [1] (tB h λx1 y1 h=>tT q P6 P6 [(vk x1.1 x1.2)] (c1 (LP y1)) (Af q TH [4] (tL q h TH [4] (λu i2=>(Cl u [(17,(Z5 i2))] [])) (λu x_=>match x_ with|(.inl _)=>aG Γ (.exit 0) (⟨[],[],[]⟩:St)|(.inr r_)=>aR (GI Γ v0 r_)) (λi2 y h=>Af q [4,15,16,17,18] [4] (gC h (λh=>tB h λx6 y6 h=>gJ y6 (λx_=>match x_ with|(.inl _)=>aG Γ .normal (⟨[YZ,(15,(UD v0.Blocks)),(bh 16 v0.Blocks.length),(17,(Z5 i2))],[(4,.row 56 [(NK x1.1.Succ),(NK x1.1.Pred)])],[]⟩:St)|(.inr r_)=>aR (GI Γ v0 r_)) (λy h=>tV q [4,6,7,15,16,17] [4,7] h λh=>Af q [4,6,7,15,16,17,25] [4,7] (gC h (λh=>tS h (gK (Bd (Bi TH [4] q)))) λh=>tV q [4,6,8,15,16,17] [4] h λh=>tC h λc5_ h=>tU q [4,6,8,15,16,17,42] [4] (Vl ((vL v0 i2)==true) (ci c5_ (Vl ((vL v0 i2)==true) (c1 (Ng (vL v0 i2)))))) (gC h (λh=>Af q E0 [46] (tS h (gK (Ll (H6 [(46,20000)] (Le.refl _ _)))))) λh=>tS h (gK (Bd (Bi TH [4] q)))))) (match x6,h with | .inl _,h=>gA (Af q TH [4] (tN h)) | .inr r8,h=>O2 (λst' hk=>tS h (gO (Ll hk))))) λh=>tS h (gO (Bd (Bi [] [] q))))) λx9 h=>(match x9,h with | .inl _,h=>gA (Af q E0 [] (tS h (Cc []))) | .inr r11,h=>O2 (λst' hk=>tS h (gK hk))))))
def G6(aD:Int)(a3:Int)(a5:Int)(a7:List Gq):Option Int:=
 (bif (Ed a7 aD) then(some (Fx (0:Int) a7 aD)) else(some aD))
variable{v38:List Gq}{v39:Int}
theorem Mi(h:G6 v1 v11 v20 v38=some v39):sP 83 [(.ptr 30000 0),(Z5 v1)] [(Z8 v11 v20 9100002),(9100002,.obj (.map true .i64 (Bu (λ(v_:Int)=>((Z5 v_):AV)) v38)))] (.int .i64 v39) [(Z8 v11 v20 9100002),(9100002,.obj (.map true .i64 (Bu (λ(v_:Int)=>((Z5 v_):AV)) v38)))]:=
 sG Tryz.func83 λΓ q=>Af q Gn S6 (gR q [1,5,6] S6 [(13,(.tuple [(.int .i64 (Fx (0:Int) v38 v1)),(.bool (Ed v38 v1))]))] [] (c1 (show(AVle (.tuple [Fx L8 (Bu (λ(v_:Int)=>((Z5 v_):AV)) v38) v1,.bool (Ed (Bu (λ(v_:Int)=>((Z5 v_):AV)) v38) v1)]) (.tuple [(.int .i64 (Fx (0:Int) v38 v1)),(.bool (Ed v38 v1))])) from(QL (f:=(λ(v_:Int)=>((Z5 v_):AV))) (l:=v38) (AVle.refl _) rfl))) (Af q [1,5,16] S6 (gC h (λh=>Af q [4] S6 (tS h (Cc YF))) λh=>Af q [4] S6 (tS h (Cc YF)))))
def Cr(aa2:List (List B2)):Gq->Option uK:=
 λ((i1,i2):Gq)=>(bif (decide (i2<(aa2.length:Int))) then(Option.bind (α:=Unit) (A0 (A1 i2 aa2.length) (bif (decide (((w64 (i1+((aa2.getD i2.toNat []).length:Int))):Int)<0)) then none else(some ()))) (λx5=>(match x5 with|_=>(some (.next ((w64 (i1+((aa2.getD i2.toNat []).length:Int))),(w64 (i2+1)))))))) else(some (.done i1)))
def Cs(aa2:List (List B2)):(List B2×Int)->Option (LR (List B2×Int) (List B2)):=
 λ((l10,i11):(List B2×Int))=>(bif (decide (i11<(aa2.length:Int))) then(A0 (A1 i11 aa2.length) (A0 (l10.length+(aa2.getD i11.toNat []).length<=room) (some (.next ((l10++(aa2.getD i11.toNat [])),(w64 (i11+1))))))) else(some (.done l10)))
def Ff(aa2:List (List B2)):Option (List B2):=
 ((Ac (Cr aa2) ((0:Int),(0:Int))).bind (λx7=>((g8 x7).bind λx9=>((Ac (Cs aa2) (x9,(0:Int))).bind (λx15=>(some x15))))))
variable{v40:List (List B2)}{v7:List B2}
theorem Ru(h:Ff v40=some v7):sP 84 [(AV.list 1 WF [] v40 .none)] [] (vn v7 20000) [(20000,.tok 6 70 v7.length)]:=
 sG Tryz.func84 λΓ q=>gR q [0] [] [(2,yO)] [] (c1 (B0 6 J6 (default:B2))) (tW q Ri [] SW [] (tL q h SW [] (λu (i1,i2)=>(Cl u [(3,(Z5 i1)),(11,(Z5 i2))] [])) (λu i3=>aG Γ (.exit 0) (Nh Ri [] u [(3,(Z5 i3))] [])) (λ⟨i1,i2⟩ y h=>Af q [0,3,9,10,11,12] [] (gC h (λh=>tB h λx5 y5 h=>gJ y5 (λ_=>aG Γ .normal (⟨[(0,(AV.list 1 WF [] v40 .none)),(3,(.int .i64 (w64 (i1+((v40.getD i2.toNat []).length:Int))))),(9,(AV.list 1 WF [] v40 .none)),(bh 10 v40.length),(11,(Z5 i2))],[],[]⟩:St)) (λy h=>tV q [0,3,5,9,10,11] [] h λh=>tW q SW [] [0,3,9,10,11,20] [] (gC h (λh=>nomatch h) λh=>tS h (gK (Bd (Bi SW [] q))))) (gA (Af q SW [] (tN h)))) λh=>tS h (gO (Bd (Bi Ri [] q))))) λx7 h=>gA (tB h λx9 y9 h=>tT q [0,6] [24] [⟨[],[(20000,24)],(vn x9 20000),[(20000,.tok 6 70 x9.length)],[],[]⟩] (c1 (qQ (e:=J6) (d:=(default:B2)) x7 x9 y9)) (Af q bX [24] (tL q h bX [24] (λu (l10,i11)=>(Cl u [(6,(vn l10 24)),(27,(Z5 i11))] [(24,.tok 6 70 l10.length)])) (λu l12=>aG Γ (.exit 2) (⟨[(6,(vn l12 24))],[(24,.tok 6 70 l12.length)],[]⟩:St)) (λ⟨l10,i11⟩ y h=>Af q [6,25,26,27,28] [24] (gC h (λh=>tV q [6,8,25,26,27] [24] h λh=>tC h λc14_ h=>gR q bX [24] [(33,(AV.list 6 J6 default (l10++(v40.getD i11.toNat [])) (.own 24)))] [] (c4 (Eq.refl l10.length) c14_ (Iz 6 24 J6 (default:B2) l10 (v40.getD i11.toNat [])) (E3 l10 (v40.getD i11.toNat []))) (Af q bX [24] (tN h))) λh=>tS h (gO (Bd (Bi [6] [24] q))))) λx15 h=>gA (Af q [2] [24] (tS h (Cc [(24,20000)]))))))))
def Kz(aM:Int)(a3:Int)(a5:Int)(a7:List Gq):Option Int:=
 (Option.bind (α:=Int) (bif (aM==a5) then(some a3) else(some aM)) (λx2=>(Option.bind (α:=Int) (bif (decide (a5<x2)) then(some (w64 (x2-1))) else(some x2)) (λx5=>(some x5)))))
theorem T6(h:Kz v1 v11 v20 v38=some v39):sP 142 [(.ptr 30000 0),(Z5 v1)] [(Z8 v11 v20 9100002),(9100002,.obj (.map true .i64 (Bu (λ(v_:Int)=>((Z5 v_):AV)) v38)))] (.int .i64 v39) [(Z8 v11 v20 9100002),(9100002,.obj (.map true .i64 (Bu (λ(v_:Int)=>((Z5 v_):AV)) v38)))]:=
 sG Tryz.func142 λΓ q=>Af q Gn S6 (tB h λx2 y2 h=>gJ y2 (λi1=>aG Γ .normal (⟨[bz,(1,(Z5 i1))],[(Z8 v11 v20 9100002),(9100002,.obj (.map true .i64 (Bu (λ(v_:Int)=>((Z5 v_):AV)) v38)))],[]⟩:St)) (λy h=>Af q Yn S6 (gC h (λh=>Af q Gn S6 (tS h (gK (Bd Iq)))) λh=>tS h (gK (Bd (Bi Gn S6 q))))) (gA (tB h λx5 y5 h=>gJ y5 (λi4=>aG Γ .normal (⟨[(1,(Z5 i4))],[(Z8 v11 v20 9100002),(9100002,.obj (.map true .i64 (Bu (λ(v_:Int)=>((Z5 v_):AV)) v38)))],[]⟩:St)) (λy h=>Af q [1,20] S6 (gC h (λh=>Af q [1] S6 (tS h (gK (Bd Iq)))) λh=>tS h (gK (Bd (Bi [1] S6 q))))) (gA (Af q [4] S6 (tS h (Cc YF)))))))
def Jk(aO:Ba)(a3:Int)(a5:Int)(a7:List Gq):(Int×Ar×Ar)->Option (LR (Int×Ar×Ar) (Ar×Ar)):=
 λ((i1,l2,l3):(Int×Ar×Ar))=>(bif (decide (i1<(aO.From.length:Int))) then(A0 (A1 i1 aO.From.length) ((Kz (aO.From.getD i1.toNat 0) a3 a5 a7).bind λx7=>((Fe l2 x7).bind λx8=>((CC l2 x8.1 [x7]).bind λx9=>(A0 (1=x9.2.2.length) (A0 (A1 i1 aO.Args.length) ((G6 (aO.Args.getD i1.toNat 0) a3 a5 a7).bind λx12=>((CC l3 x8.1 [x12]).bind λx13=>(A0 (1=x13.2.2.length) (some (.next ((w64 (i1+1)),x9.2.1,x13.2.1)))))))))))) else(some (.done (l2,l3))))
def nA(l5:Ar):=(λi=>Ap (l5.getD i 0))
def m9:AV:=fD
def UL(a7:List Gq):=(Bu (λ(v_:Int)=>((Z5 v_):AV)) a7)
def vN(aO:Ba):List AV:=[(Z5 aO.Bits),(Z5 aO.Dst),(Z6 aO.From),(Z6 aO.Args)]
def xh(aO:Ba)(a3:Int)(a5:Int)(a7:List Gq):=(⟨[bz,(3,(.ptr 3 0)),YZ,(5,(.vsl 36005 ([]:Ar).length)),(6,(.vsl 36006 ([]:Ar).length)),(12,(Z6 aO.From)),(bh 13 aO.From.length),(14,L8)],[(3,.row 67 (vN aO)),(4,.row 67 [L8,L8,Zz,Zz]),(Z8 a3 a5 9100002),(Z71 36005),(Z71 36006),(UN 9100002 (UL a7))],[]⟩:St)
def Ph(aO:Ba)(a3:Int)(a5:Int)(a7:List Gq):Option Ba:=
 ((Ac (Jk aO a3 a5 a7) ((0:Int),([]:Ar),([]:Ar))).bind (λ(l4,l5)=>(some (⟨aO.Bits,aO.Dst,l4,l5⟩:Ba))))
variable{v4:Ba}{v41:Ba}
theorem JT(h:Ph v4 v1 v11 v38=some v41):sP 140 [(.ptr 30000 0),(.agg (Eo v4))] [(Z8 v1 v11 9100002),(9100002,.obj (.map true .i64 (Bu (λ(v_:Int)=>((Z5 v_):AV)) v38)))] (.agg (Eo v41)) [(Z8 v1 v11 9100002),(9100002,.obj (.map true .i64 (Bu (λ(v_:Int)=>((Z5 v_):AV)) v38)))]:=
 sG Tryz.func140 λΓ q=>have hΓ:=q.own;Af q S9 eQ (gR q TI eQ [(5,m9),(6,m9)] [] (c2 (B0 1 Ap (0:Int)) (B0 1 Ap (0:Int))) (Af q TW eQ (gLe (st':=(xh v4 v1 v11 v38)) (Le.trans (Bi (st':=⟨[bz,(3,(.ptr 3 0)),YZ,(5,m9),(6,m9),(12,(Z6 v4.From)),(bh 13 v4.From.length),(14,L8)],[(3,.row 67 (vN v4)),(4,.row 67 [L8,L8,Zz,Zz]),(Z8 v1 v11 9100002),(UN 9100002 (UL v38))],[]⟩) TW eQ q) (Le.trans (Le.trans (PX (t:=5) (nm:=36005) (sz':=1) (λi=>Ap (([]:Ar).getD i 0)) 3 rfl rfl) (Bi (st':=⟨[bz,(3,(.ptr 3 0)),YZ,(5,(.vsl 36005 ([]:Ar).length)),(6,m9),(12,(Z6 v4.From)),(bh 13 v4.From.length),(14,L8)],[(3,.row 67 (vN v4)),(4,.row 67 [L8,L8,Zz,Zz]),(Z8 v1 v11 9100002),(Z71 36005),(UN 9100002 (UL v38))],[]⟩) TW [3,4,30000,36005,9100002] q)) (Le.trans (PX (t:=6) (nm:=36006) (sz':=1) (λi=>Ap (([]:Ar).getD i 0)) 3 rfl rfl) (Bi (st':=(xh v4 v1 v11 v38)) TW UB q)))) (tL q h TW UB (λu (i1,l2,l3)=>(Cl u [(Vj 36005 l2.length),(6,(.vsl 36006 l3.length)),(14,(Z5 i1))] [(Z4 36005 l2),(Z4 36006 l3)])) (λu (l4,l5)=>aG Γ (.exit 0) (Nh [3,4,5,6] UB u [(Vj 36005 l4.length),(6,(.vsl 36006 l5.length))] [(Z4 36005 l4),(36006,.arr 1 3 l5.length (nA l5))])) (λ⟨i1,l2,l3⟩ y h=>Af q [0,3,4,5,6,12,13,14,15] UB (gC h (λh=>tV q qg UB h λh=>tB h λx7 y7 h=>tT q qg UB [(yJ x7 v1 v11 (UL v38))] (ci (T6 y7) (rkl [(.row 137 (bx v1 v11 9100002)),(.obj (.map true .i64 (UL v38)))])) (tB h λx8 y8 h=>tT q [0,3,4,5,6,7,8,9,12,13,14] UB [⟨[],[],(.tuple [(Z5 x8.1),(.bool x8.2)]),[],[36005],[]⟩] (c3 (Rs y8) (show(EE []) from trivial) (Eq.refl l2.length)) (tB h λx9 y9 h=>tC h λc10_ h=>tC h λc11_ h=>tB h λx12 y12 h=>tB h λx13 y13 h=>tC h λc14_ h=>gR q TW UB [(31,(.vsl 31 1)),(42,(.vsl 42 1))] [⟨qi,[],(.vsl 34000 x9.2.1.length),[(Z4 34000 x9.2.1),(Z4 34002 x9.2.2)],[],[]⟩,(yJ x12 v1 v11 (UL v38)),⟨qj,[],(.vsl 34000 x13.2.1.length),[(Z4 34000 x13.2.1),(Z4 34002 x13.2.2)],[],[]⟩] (ZK (SF l2 x8.1 [x7] x9 y9 (λi_=>AV.renAll qi ((λi_=>([(Z5 x7)].drop (i_*1)).take 1) i_)) (bE (n:=0) gf rfl)) c11_ (Mi y12) (tu [(.row 137 (bx v1 v11 9100002)),(.obj (.map true .i64 (UL v38)))] (c1 (SF l3 x8.1 [x12] x13 y13 (λi_=>AV.renAll qj ((λi_=>([(Z5 x12)].drop (i_*1)).take 1) i_)) (bE (n:=0) gf rfl))))) (Af q TW UB (tN h))))) λh=>tS h (gO (Bd (Bi [3,4,5,6] UB q))))) λx15 h=>(match x15,h with|⟨l4,l5⟩,h=>gA (tW q Yo UB [4] [4,30000,36005,36006,9100002] (Qb (⟨[YZ],[(4,.row 67 [(Z5 v4.Bits),(Z5 v4.Dst),(.vsl 36005 l4.length),(.vsl 36006 l5.length)]),(Z8 v1 v11 9100002),(Z4 36005 l4),(36006,.arr 1 3 l5.length (nA l5)),(UN 9100002 (UL v38))],[]⟩:St) (tS h (gK (e:=.ret) (H6 YF (Le.trans (Le.trans (le_freeze (nm:=36005) (sz:=1) (n:=l4.length) (e:=3) (f:=(λi=>Ap (l4.getD i 0))) (g:=(λi=>Ap (l4.getD i 0))) rfl ⟨rfl,trivial⟩ (λ_ _=>rfl) (by rw[hΓ];rfl)) (Gt (st':=⟨[YZ],[(4,.row 67 [(Z5 v4.Bits),(Z5 v4.Dst),(V7 l4 36005),(.vsl 36006 l5.length)]),(Z8 v1 v11 9100002),(Ys 36005 l4.length),(36006,.arr 1 3 l5.length (nA l5)),(UN 9100002 (UL v38))],[]⟩) (by kernel_rfl))) (Le.trans (le_freeze (nm:=36006) (sz:=1) (n:=l5.length) (e:=3) (f:=(nA l5)) (g:=(nA l5)) rfl ⟨rfl,trivial⟩ (λ_ _=>rfl) (by rw[hΓ];rfl)) (Gt (st':=⟨[YZ],[(4,.row 67 [(Z5 v4.Bits),(Z5 v4.Dst),(V7 l4 36005),(V7 l5 36006)]),(Z8 v1 v11 9100002),(Ys 36005 l4.length),(Ys 36006 l5.length),(UN 9100002 (UL v38))],[]⟩) (by kernel_rfl))))))))))))))
def Qw(a9:Ar)(a3:Int)(a5:Int)(a7:List Gq):CD->Option qU:=
 λ((i2,l3):CD)=>(bif (decide (i2<(a9.length:Int))) then(A0 (A1 i2 a9.length) ((G6 (a9.getD i2.toNat 0) a3 a5 a7).bind λx6=>(A0 (A1 i2 l3.length) (some (.next ((w64 (i2+1)),(l3.set i2.toNat x6))))))) else(some (.done l3)))
def rp(a7:List Gq):=(Bu (λ(v_:Int)=>((Z5 v_):AV)) a7)
def Uy(a9:Ar)(a3:Int)(a5:Int)(a7:List Gq):Option Ar:=
 (A0 (0<=(a9.length:Int)/\(a9.length:Int)<=(a9.length:Int)/\(a9.length:Int)<=(room:Int)) ((Ac (Qw a9 a3 a5 a7) ((0:Int),(List.replicate (a9.length:Int).toNat (0:Int)))).bind (λx8=>(some x8))))
theorem bB(h:Uy v2 v1 v11 v38=some v17):sP 141 [(Z6 v2),(.clo 83 OP [])] [(Z8 v1 v11 9100002),(9100002,.obj (.map true .i64 (Bu (λ(v_:Int)=>((Z5 v_):AV)) v38)))] (V7 v17 20000) [(Z8 v1 v11 9100002),(9100002,.obj (.map true .i64 (Bu (λ(v_:Int)=>((Z5 v_):AV)) v38))),(Ys 20000 v17.length)]:=
 sG Tryz.func141 λΓ q=>have hΓ:=q.own;gR q Gn S6 [(4,fD)] [] (c1 (B0 1 Ap (0:Int))) (tV q Nc Sp h λh=>by exact gLe (Le.trans (Sr 10 (show ∀ k_,k_<((v2.length:Int).toNat)->AVleL ((λi_=>AV.eraseAll (λn_=>Bw n_ Sp) ((λ_=>[L8]) i_)) k_) ((λi=>Ap ((List.replicate (v2.length:Int).toNat (0:Int)).getD i 0)) k_) from(λk hk=>M6 (e:=Ap) (d:=(0:Int)) (.cons (AVle.refl _) .nil) _ k (M7 hk)))) (R9 (λ(k_:Nat) u=>(Cl u [(Vj 10 k_)] (Z72 10 k_ v2.length))) (show(v2.length:Int).toNat=(List.replicate (v2.length:Int).toNat (0:Int)).length from(N8 ..).symm))) (Af q MO Sp (tL q h MO Sp (λu (i2,l3)=>(Cl u [(Vj 10 l3.length),(13,(Z5 i2))] [(Z4 10 l3)])) (λu l4=>aG Γ (.exit 0) (Nh [5] Sp u [(Vj 10 l4.length)] [(Z4 10 l4)])) (λ⟨i2,l3⟩ y h=>Af q [1,5,11,12,13,14] Sp (gC h (λh=>tV q [1,5,6,7,11,12,13] Sp h λh=>tB h λx6 y6 h=>tC h λc7_ h=>tT q MO Sp [(yJ x6 v1 v11 (rp v38))] (ci (Mi y6) (tu [(.row 137 (bx v1 v11 9100002)),(.obj (.map true .i64 (rp v38)))] (c2 c7_ (Eq.refl l3.length)))) (gLe (Le.trans (Sr 10 (show ∀ k_,k_<l3.length->AVleL ((λi_=>AV.eraseAll (λn_=>Bw n_ Sp) ((Fc (λi=>Ap (l3.getD i 0)) i2.toNat 0 [(Z5 x6)]) i_)) k_) ((λi=>Ap ((l3.set i2.toNat x6).getD i 0)) k_) from(Bh (C8 ..).symm (λk_ hk_=>(Bg (AV.eraseAll (λn_=>Bw n_ Sp)) ((Fu (λ_ _=>rfl) (Hv c7_) rfl) k_ hk_)).trans rfl)))) (R9 (λ(k_:Nat) u=>(Cl u [(Vj 10 k_)] [(10,.arr 1 3 k_ (λi=>Ap ((l3.set i2.toNat x6).getD i 0)))])) (show l3.length=(l3.set i2.toNat x6).length from(C8 ..).symm))) (Af q MO Sp (tN h)))) λh=>tS h (gO (Bd (Bi [5] Sp q))))) λx8 h=>gA (Af q [4] Sp (Qb (⟨[(4,(.vsl 10 x8.length))],[(Z4 10 x8),(Z8 v1 v11 9100002),(UN 9100002 (rp v38))],[]⟩:St) (tS h (gK (e:=.ret) (H6 u0 (Le.trans (le_freeze (nm:=10) (sz:=1) (n:=x8.length) (e:=3) (f:=(λi=>Ap (x8.getD i 0))) (g:=(λi=>Ap (x8.getD i 0))) rfl ⟨rfl,trivial⟩ (λ_ _=>rfl) (by rw[hΓ];rfl)) (Gt (st':=⟨[(4,(V7 x8 10))],[(Ys 10 x8.length),(Z8 v1 v11 9100002),(UN 9100002 (rp v38))],[]⟩) (by kernel_rfl)))))))))))
def M5(a9:Ar)(a3:Int)(a5:Int)(a7:List Gq):CD->Option qU:=
 λ((i2,l3):CD)=>(bif (decide (i2<(a9.length:Int))) then(A0 (A1 i2 a9.length) ((Kz (a9.getD i2.toNat 0) a3 a5 a7).bind λx6=>(A0 (A1 i2 l3.length) (some (.next ((w64 (i2+1)),(l3.set i2.toNat x6))))))) else(some (.done l3)))
def rq(a7:List Gq):=(Bu (λ(v_:Int)=>((Z5 v_):AV)) a7)
def Qx(a9:Ar)(a3:Int)(a5:Int)(a7:List Gq):Option Ar:=
 (A0 (0<=(a9.length:Int)/\(a9.length:Int)<=(a9.length:Int)/\(a9.length:Int)<=(room:Int)) ((Ac (M5 a9 a3 a5 a7) ((0:Int),(List.replicate (a9.length:Int).toNat (0:Int)))).bind (λx8=>(some x8))))
theorem NG(h:Qx v2 v1 v11 v38=some v17):sP 141 [(Z6 v2),(.clo 142 OP [])] [(Z8 v1 v11 9100002),(9100002,.obj (.map true .i64 (Bu (λ(v_:Int)=>((Z5 v_):AV)) v38)))] (V7 v17 20000) [(Z8 v1 v11 9100002),(9100002,.obj (.map true .i64 (Bu (λ(v_:Int)=>((Z5 v_):AV)) v38))),(Ys 20000 v17.length)]:=
 sG Tryz.func141 λΓ q=>have hΓ:=q.own;gR q Gn S6 [(4,fD)] [] (c1 (B0 1 Ap (0:Int))) (tV q Nc Sp h λh=>by exact gLe (Le.trans (Sr 10 (show ∀ k_,k_<((v2.length:Int).toNat)->AVleL ((λi_=>AV.eraseAll (λn_=>Bw n_ Sp) ((λ_=>[L8]) i_)) k_) ((λi=>Ap ((List.replicate (v2.length:Int).toNat (0:Int)).getD i 0)) k_) from(λk hk=>M6 (e:=Ap) (d:=(0:Int)) (.cons (AVle.refl _) .nil) _ k (M7 hk)))) (R9 (λ(k_:Nat) u=>(Cl u [(Vj 10 k_)] (Z72 10 k_ v2.length))) (show(v2.length:Int).toNat=(List.replicate (v2.length:Int).toNat (0:Int)).length from(N8 ..).symm))) (Af q MO Sp (tL q h MO Sp (λu (i2,l3)=>(Cl u [(Vj 10 l3.length),(13,(Z5 i2))] [(Z4 10 l3)])) (λu l4=>aG Γ (.exit 0) (Nh [5] Sp u [(Vj 10 l4.length)] [(Z4 10 l4)])) (λ⟨i2,l3⟩ y h=>Af q [1,5,11,12,13,14] Sp (gC h (λh=>tV q [1,5,6,7,11,12,13] Sp h λh=>tB h λx6 y6 h=>tC h λc7_ h=>tT q MO Sp [(yJ x6 v1 v11 (rq v38))] (ci (T6 y6) (tu [(.row 137 (bx v1 v11 9100002)),(.obj (.map true .i64 (rq v38)))] (c2 c7_ (Eq.refl l3.length)))) (gLe (Le.trans (Sr 10 (show ∀ k_,k_<l3.length->AVleL ((λi_=>AV.eraseAll (λn_=>Bw n_ Sp) ((Fc (λi=>Ap (l3.getD i 0)) i2.toNat 0 [(Z5 x6)]) i_)) k_) ((λi=>Ap ((l3.set i2.toNat x6).getD i 0)) k_) from(Bh (C8 ..).symm (λk_ hk_=>(Bg (AV.eraseAll (λn_=>Bw n_ Sp)) ((Fu (λ_ _=>rfl) (Hv c7_) rfl) k_ hk_)).trans rfl)))) (R9 (λ(k_:Nat) u=>(Cl u [(Vj 10 k_)] [(10,.arr 1 3 k_ (λi=>Ap ((l3.set i2.toNat x6).getD i 0)))])) (show l3.length=(l3.set i2.toNat x6).length from(C8 ..).symm))) (Af q MO Sp (tN h)))) λh=>tS h (gO (Bd (Bi [5] Sp q))))) λx8 h=>gA (Af q [4] Sp (Qb (⟨[(4,(.vsl 10 x8.length))],[(Z4 10 x8),(Z8 v1 v11 9100002),(UN 9100002 (rq v38))],[]⟩:St) (tS h (gK (e:=.ret) (H6 u0 (Le.trans (le_freeze (nm:=10) (sz:=1) (n:=x8.length) (e:=3) (f:=(λi=>Ap (x8.getD i 0))) (g:=(λi=>Ap (x8.getD i 0))) rfl ⟨rfl,trivial⟩ (λ_ _=>rfl) (by rw[hΓ];rfl)) (Gt (st':=⟨[(4,(V7 x8 10))],[(Ys 10 x8.length),(Z8 v1 v11 9100002),(UN 9100002 (rq v38))],[]⟩) (by kernel_rfl)))))))))))
abbrev wx:=(Int×List Ba)
def Kx(a2:Ae)(a3:Int)(a5:Int)(a7:List Gq):wx->Option (LR (Int×List Ba) (List Ba)):=
 λ((i2,l3):wx)=>(bif (decide (i2<(a2.Phis.length:Int))) then(A0 (A1 i2 a2.Phis.length) ((Ph (a2.Phis.getD i2.toNat default) a3 a5 a7).bind λx6=>(A0 (A1 i2 l3.length) (some (.next ((w64 (i2+1)),(l3.set i2.toNat (⟨x6.Bits,x6.Dst,x6.From,x6.Args⟩:Ba)))))))) else(some (.done l3)))
abbrev wy:=(Int×List B2)
def Ky(a2:Ae)(a3:Int)(a5:Int)(a7:List Gq):wy->Option (LR (Int×List B2) (List B2)):=
 λ((i11,l12):wy)=>(bif (decide (i11<(a2.Ops.length:Int))) then(A0 (A1 i11 a2.Ops.length) ((Uy ((a2.Ops.getD i11.toNat default).Args) a3 a5 a7).bind λx15=>(A0 (A1 i11 l12.length) (some (.next ((w64 (i11+1)),(l12.set i11.toNat (⟨(a2.Ops.getD i11.toNat default).Kind,(a2.Ops.getD i11.toNat default).Bits,(a2.Ops.getD i11.toNat default).Lanes,(a2.Ops.getD i11.toNat default).Dst,x15,(a2.Ops.getD i11.toNat default).Imm⟩:B2)))))))) else(some (.done l12)))
def FD(a2:Ae)(i11:Int):=(a2.Ops.getD i11.toNat default)
def nC(x8:List Ba):=(λi=>Eo (x8.getD i default))
def IQ(a7:List Gq):=(Bu (λ(v_:Int)=>((Z5 v_):AV)) a7)
def vQ(a2:Ae):=(List.replicate (a2.Ops.length:Int).toNat (default:B2))
def vP(a2:Ae):=(List.replicate (a2.Phis.length:Int).toNat (default:Ba))
def ru(a3:Int)(a5:Int):Own:=(.row 137 (bx a3 a5 9100002))
def vR(l12:List B2)(i11:Int)(a2:Ae)(x15:Ar):=(l12.set i11.toNat (⟨(FD a2 i11).Kind,(FD a2 i11).Bits,(FD a2 i11).Lanes,(FD a2 i11).Dst,x15,(FD a2 i11).Imm⟩:B2))
def nB:List AV:=[Zz,Zz,L8,L8,Zz]
def xj(a2:Ae):List AV:=[(xD a2.Phis),(xE a2.Ops),(Z5 a2.End.Kind),(Z5 a2.End.Arg),(Z6 a2.End.To)]
def xk(a2:Ae)(i11:Int)(x15:Ar):List AV:=[(.int .i64 (FD a2 i11).Kind),(.int .i64 (FD a2 i11).Bits),(.int .i64 (FD a2 i11).Lanes),(.int .i64 (FD a2 i11).Dst),(Z6 x15),(.int .u64 (FD a2 i11).Imm)]
def xi(x8:List Ba)(l12:List B2)(i11:Int)(a2:Ae):List MI:=[bz,(3,(.ptr 3 0)),YZ,(Vj 15 x8.length),(8,(.vsl 34 l12.length)),(9,(Z5 i11)),(10,(.ptr 10 0)),(36,(xE a2.Ops)),(bh 37 a2.Ops.length),(38,(Z5 i11))]
def Kw(a2:Ae)(a3:Int)(a5:Int)(a7:List Gq):Option Ae:=
 (A0 (0<=(a2.Phis.length:Int)/\(a2.Phis.length:Int)<=(a2.Phis.length:Int)/\(a2.Phis.length:Int)<=(room:Int)) ((Ac (Kx a2 a3 a5 a7) ((0:Int),(List.replicate (a2.Phis.length:Int).toNat (default:Ba)))).bind (λx8=>(A0 (0<=(a2.Ops.length:Int)/\(a2.Ops.length:Int)<=(a2.Ops.length:Int)/\(a2.Ops.length:Int)<=(room:Int)) ((Ac (Ky a2 a3 a5 a7) ((0:Int),(List.replicate (a2.Ops.length:Int).toNat (default:B2)))).bind (λx17=>((G6 a2.End.Arg a3 a5 a7).bind λx19=>((Qx a2.End.To a3 a5 a7).bind λx20=>(some (⟨x8,x17,(⟨a2.End.Kind,x19,x20⟩:Kb)⟩:Ae))))))))))
variable{v42:Ae}{v9:Ae}
theorem T5(h:Kw v9 v1 v11 v38=some v42):sP 85 [(.ptr 30000 0),(.agg (Cg v9))] [(Z8 v1 v11 9100002),(9100002,.obj (.map true .i64 (Bu (λ(v_:Int)=>((Z5 v_):AV)) v38)))] (.agg (Cg v42)) [(Z8 v1 v11 9100002),(9100002,.obj (.map true .i64 (Bu (λ(v_:Int)=>((Z5 v_):AV)) v38)))]:=
 sG Tryz.func85 λΓ q=>have hΓ:=q.own;Af q S9 eQ (tV q bc CP h λh=>by exact gLe (Le.trans (Sr 15 (show ∀ k_,k_<((v9.Phis.length:Int).toNat)->AVleL ((λi_=>AV.eraseAll (λn_=>Bw n_ CP) ((λ_=>[L8,L8,Zz,Zz]) i_)) k_) ((λi=>Eo ((vP v9).getD i default)) k_) from(λk hk=>M6 (e:=Eo) (d:=(default:Ba)) (.cons (AVle.refl _) (.cons (AVle.refl _) (.cons (λ_ _ _ _ _ hh=>AVle.untag _ _ _ _ _ (El _ _ _ _ _ hh)) (.cons (λ_ _ _ _ _ hh=>AVle.untag _ _ _ _ _ (El _ _ _ _ _ hh)) .nil)))) _ k (M7 hk)))) (R9 (λ(k_:Nat) u=>(Cl u [(Vj 15 k_)] [(15,.arr 4 67 k_ (λi=>Eo ((vP v9).getD i default)))])) (show(v9.Phis.length:Int).toNat=(vP v9).length from(N8 ..).symm))) (Af q kO CP (tL q h kO CP (λu (i2,l3)=>(Cl u [(Vj 15 l3.length),(19,(Z5 i2))] (nO 15 l3))) (λu l4=>aG Γ (.exit 0) (Nh bc CP u [(Vj 15 l4.length)] (nO 15 l4))) (λ⟨i2,l3⟩ y h=>Af q [0,3,4,5,17,18,19,20] CP (gC h (λh=>tV q [0,3,4,5,6,7,17,18,19] [3,4,7,15,30000,9100002] h λh=>tB h λx6 y6 h=>tC h λc7_ h=>tT q kO CP [⟨YF,[],(.agg (Eo x6)),[(Z8 v1 v11 9100002),(UN 9100002 (IQ v38))],[],S6⟩] (ci (JT y6) (tu [(ru v1 v11),(.obj (.map true .i64 (IQ v38)))] (c2 c7_ (Eq.refl l3.length)))) (gLe (Le.trans (Sr 15 (show ∀ k_,k_<l3.length->AVleL ((λi_=>AV.eraseAll (λn_=>Bw n_ CP) ((Fc (λi=>Eo (l3.getD i default)) i2.toNat 0 (Eo x6)) i_)) k_) ((λi=>Eo ((l3.set i2.toNat (⟨x6.Bits,x6.Dst,x6.From,x6.Args⟩:Ba)).getD i default)) k_) from(Bh (C8 ..).symm (λk_ hk_=>(Bg (AV.eraseAll (λn_=>Bw n_ CP)) ((Fu (λ_ _=>rfl) (Hv c7_) rfl) k_ hk_)).trans rfl)))) (R9 (λ(k_:Nat) u=>(Cl u [(Vj 15 k_)] [(15,.arr 4 67 k_ (λi=>Eo ((l3.set i2.toNat (⟨x6.Bits,x6.Dst,x6.From,x6.Args⟩:Ba)).getD i default)))])) (show l3.length=(l3.set i2.toNat (⟨x6.Bits,x6.Dst,x6.From,x6.Args⟩:Ba)).length from(C8 ..).symm))) (Af q kO CP (tN h)))) λh=>tS h (gO (Bd (Bi bc CP q))))) λx8 h=>gA (tV q iY CK h λh=>by exact gLe (Le.trans (Sr 34 (show ∀ k_,k_<((v9.Ops.length:Int).toNat)->AVleL ((λi_=>AV.eraseAll (λn_=>Bw n_ CK) ((λ_=>[L8,L8,L8,L8,Zz,(.int .u64 (0:Int))]) i_)) k_) ((λi=>J6 ((vQ v9).getD i default)) k_) from(λk hk=>M6 (e:=J6) (d:=(default:B2)) (.cons (AVle.refl _) (.cons (AVle.refl _) (.cons (AVle.refl _) (.cons (AVle.refl _) (.cons (λ_ _ _ _ _ hh=>AVle.untag _ _ _ _ _ (El _ _ _ _ _ hh)) (.cons (AVle.refl _) .nil)))))) _ k (M7 hk)))) (R9 (λ(k_:Nat) u=>(Cl u [(8,(.vsl 34 k_))] [(34,.arr 6 70 k_ (λi=>J6 ((vQ v9).getD i default)))])) (show(v9.Ops.length:Int).toNat=(vQ v9).length from(N8 ..).symm))) (Af q kM CK (tL q h kM CK (λu (i11,l12)=>(Cl u [(8,(.vsl 34 l12.length)),(38,(Z5 i11))] [(fE 34 l12)])) (λu l13=>aG Γ (.exit 2) (Nh iY CK u [(8,(.vsl 34 l13.length))] [(fE 34 l13)])) (λ⟨i11,l12⟩ y h=>Af q [0,3,4,5,8,36,37,38,39] CK (gC h (λh=>tV q qv qf h λh=>tB h λx15 y15 h=>tT q qv [3,4,10,15,34,47,30000,9100002] [(Z85 47 x15 v1 v11 (IQ v38) x15.length)] (ci (bB y15) (rkl [(ru v1 v11),(.obj (.map true .i64 (IQ v38)))])) (Qb (⟨(xi x8 l12 i11 v9),[(3,.row 64 (xj v9)),(4,.row 64 nB),(10,.row 70 [(.int .i64 (FD v9 i11).Kind),(.int .i64 (FD v9 i11).Bits),(.int .i64 (FD v9 i11).Lanes),(.int .i64 (FD v9 i11).Dst),(V7 x15 47),(.int .u64 (FD v9 i11).Imm)]),(15,.arr 4 67 x8.length (nC x8)),(fE 34 l12),(Ys 47 x15.length),(Z8 v1 v11 9100002),(UN 9100002 (IQ v38))],[]⟩:St) (gLe (show Le Γ _ (⟨(xi x8 l12 i11 v9),[(3,.row 64 (xj v9)),(4,.row 64 nB),(10,.row 70 (xk v9 i11 x15)),(15,.arr 4 67 x8.length (nC x8)),(fE 34 l12),(Z8 v1 v11 9100002),(UN 9100002 (IQ v38))],[]⟩:St) from Bi qv qf q) (tC h λc16_ h=>tU q kM CK (c2 c16_ (Eq.refl l12.length)) (gLe (Le.trans (Sr 34 (show ∀ k_,k_<l12.length->AVleL ((λi_=>AV.eraseAll (λn_=>Bw n_ CK) ((Fc (λi=>J6 (l12.getD i default)) i11.toNat 0 (xk v9 i11 x15)) i_)) k_) ((λi=>J6 ((vR l12 i11 v9 x15).getD i default)) k_) from(Bh (C8 ..).symm (λk_ hk_=>(Bg (AV.eraseAll (λn_=>Bw n_ CK)) ((Fu (λ_ _=>rfl) (Hv c16_) rfl) k_ hk_)).trans rfl)))) (R9 (λ(k_:Nat) u=>(Cl u [(8,(.vsl 34 k_))] [(34,.arr 6 70 k_ (λi=>J6 ((vR l12 i11 v9 x15).getD i default)))])) (show l12.length=(vR l12 i11 v9 x15).length from(C8 ..).symm))) (Af q kM CK (tN h))))))) λh=>tS h (gO (Bd (Bi iY CK q))))) λx17 h=>gA (tB h λx19 y19 h=>tB h λx20 y20 h=>tT q [4,5,8,11] [4,11,15,34,67,30000,9100002] [(yJ x19 v1 v11 (IQ v38)),(Z85 67 x20 v1 v11 (IQ v38) x20.length)] (ci (Mi y19) (tu [(ru v1 v11),(.obj (.map true .i64 (IQ v38)))] (ci (NG y20) (rkl [(ru v1 v11),(.obj (.map true .i64 (IQ v38)))])))) (Qb (⟨[YZ,(Vj 15 x8.length),(8,(.vsl 34 x17.length)),(11,(.ptr 11 0))],[(4,.row 64 nB),(11,.row 62 [(Z5 v9.End.Kind),(Z5 x19),(V7 x20 67)]),(15,.arr 4 67 x8.length (nC x8)),(fE 34 x17),(Ys 67 x20.length),(Z8 v1 v11 9100002),(UN 9100002 (IQ v38))],[]⟩:St) (gLe (Le.trans (le_freeze (nm:=15) (sz:=4) (n:=x8.length) (e:=67) (f:=(nC x8)) (g:=(nC x8)) rfl ⟨rfl,trivial⟩ (λ_ _=>rfl) (by rw[hΓ];rfl)) (Gt (st':=⟨[YZ,(5,(AV.list 4 Eo default x8 (.own 15))),(8,(.vsl 34 x17.length)),(11,(.ptr 11 0))],[(4,.row 64 nB),(11,.row 62 [(Z5 v9.End.Kind),(Z5 x19),(V7 x20 67)]),(15,.tok 4 67 x8.length),(fE 34 x17),(Ys 67 x20.length),(Z8 v1 v11 9100002),(UN 9100002 (IQ v38))],[]⟩) (by kernel_rfl))) (gLe (Le.trans (le_freeze (nm:=34) (sz:=6) (n:=x17.length) (e:=70) (f:=(λi=>J6 (x17.getD i default))) (g:=(λi=>J6 (x17.getD i default))) rfl ⟨rfl,trivial⟩ (λ_ _=>rfl) (by rw[hΓ];rfl)) (Gt (st':=⟨[YZ,(5,(AV.list 4 Eo default x8 (.own 15))),(8,(vn x17 34)),(11,(.ptr 11 0))],[(4,.row 64 nB),(11,.row 62 [(Z5 v9.End.Kind),(Z5 x19),(V7 x20 67)]),(15,.tok 4 67 x8.length),(34,.tok 6 70 x17.length),(Ys 67 x20.length),(Z8 v1 v11 9100002),(UN 9100002 (IQ v38))],[]⟩) (by kernel_rfl))) (Af q [4] [4,15,34,67,30000,9100002] (tS h (Cc YF)))))))))))))
open Go Go.RowKit
set_option maxRecDepth 100000
set_option maxHeartbeats 2000000
def G4(a2:TFunc)(a3:Int)(a5:Int):qY->Option zL:=
 λ((i3,l4):qY)=>(bif (decide (i3<(((a2.Blocks.getD a5.toNat default).Phis).length:Int))) then(A0 (A1 i3 ((a2.Blocks.getD a5.toNat default).Phis).length) (A0 (A1 (0:Int) ((((a2.Blocks.getD a5.toNat default).Phis).getD i3.toNat default).Args).length) ((G6 (((((a2.Blocks.getD a5.toNat default).Phis).getD i3.toNat default).Args).getD (0:Int).toNat (0:Int)) a3 a5 l4).bind λx8=>(some (.next ((w64 (i3+1)),(Jm l4 (((a2.Blocks.getD a5.toNat default).Phis).getD i3.toNat default).Dst x8))))))) else(some (.done l4)))
abbrev uP:=(Int×List Ae)
abbrev zT:=(LR (Int×List Ae) (List Ae))
def G5(a2:TFunc)(a3:Int)(a5:Int)(l5:List Gq)(x11:List B2):uP->Option zT:=
 λ((i12,l13):uP)=>(bif (decide (i12<(a2.Blocks.length:Int))) then(Option.bind (α:=List Ae) (A0 (A1 i12 a2.Blocks.length) (bif (i12==a3) then((Kw (⟨(a2.Blocks.getD a3.toNat default).Phis,x11,(⟨(a2.Blocks.getD a5.toNat default).End.Kind,(a2.Blocks.getD a5.toNat default).End.Arg,(a2.Blocks.getD a5.toNat default).End.To⟩:Kb)⟩:Ae) a3 a5 l5).bind λx17=>(A0 (l13.length+([(⟨x17.Phis,x17.Ops,(⟨x17.End.Kind,x17.End.Arg,x17.End.To⟩:Kb)⟩:Ae)]:List Ae).length<=room) (some (l13++([(⟨x17.Phis,x17.Ops,(⟨x17.End.Kind,x17.End.Arg,x17.End.To⟩:Kb)⟩:Ae)]:List Ae))))) else(bif (i12==a5) then(some l13) else((Kw (a2.Blocks.getD i12.toNat default) a3 a5 l5).bind λx19=>(A0 (l13.length+([(⟨x19.Phis,x19.Ops,(⟨x19.End.Kind,x19.End.Arg,x19.End.To⟩:Kb)⟩:Ae)]:List Ae).length<=room) (some (l13++([(⟨x19.Phis,x19.Ops,(⟨x19.End.Kind,x19.End.Arg,x19.End.To⟩:Kb)⟩:Ae)]:List Ae)))))))) (λx21=>(some (.next ((w64 (i12+1)),x21))))) else(some (.done l13)))
def Zg:=(λ(v_:Int)=>((Z5 v_):AV))
def UM(a2:TFunc):AV:=(Z6 a2.Params)
def vU:AV:=(AV.list 5 Cg default ([]:List Ae) .exact)
def vT:List AV:=[Zz,L8,Zz]
def xn(a2:TFunc)(a5:Int)(i3:Int):=(((a2.Blocks.getD a5.toNat default).Phis).getD i3.toNat default)
def rv(x17:Ae):=([(⟨x17.Phis,x17.Ops,(⟨x17.End.Kind,x17.End.Arg,x17.End.To⟩:Kb)⟩:Ae)]:List Ae)
def rx(x19:Ae):=([(⟨x19.Phis,x19.Ops,(⟨x19.End.Kind,x19.End.Arg,x19.End.To⟩:Kb)⟩:Ae)]:List Ae)
def xm(a2:TFunc)(a3:Int)(a5:Int):=([(a2.Blocks.getD a3.toNat default).Ops,(a2.Blocks.getD a5.toNat default).Ops]:List (List B2))
def xl(a2:TFunc):List MI:=[bz,YZ,eW,(9,(.ptr 9 0)),(68,(UD a2.Blocks)),(bh 69 a2.Blocks.length),(70,L8)]
def vS(a2:TFunc)(a3:Int)(x11:List B2)(a5:Int):List AV:=[(AV.list 4 Eo default (a2.Blocks.getD a3.toNat default).Phis .none),(vn x11 57),(.int .i64 (a2.Blocks.getD a5.toNat default).End.Kind),(.int .i64 (a2.Blocks.getD a5.toNat default).End.Arg),(AV.list 1 Ap 0 (a2.Blocks.getD a5.toNat default).End.To .none)]
def xo(a2:TFunc)(a3:Int)(x11:List B2)(a5:Int)(x9:List Gq):=(⟨(xl a2),[(4,.row 25 vT),(5,.row 64 (vS a2 a3 x11 a5)),(9,.row 25 [(UM a2),(Z5 a2.Ret),(AV.list 5 Cg default ([]:List Ae) (.own 5902))]),(29,.obj (.map true .i64 (Bu Zg x9))),(57,.tok 6 70 x11.length),(5902,.tok 5 64 (([]:List Ae).length)),(Z8 a3 a5 29)],[]⟩:St)
abbrev zU:=(TFunc×Int×Int×List (Int×Int))
def Fb(a2:TFunc)(a3:Int)(a5:Int):Option zU:=
 (A0 (A1 a3 a2.Blocks.length) (A0 (A1 a5 a2.Blocks.length) ((Ac (G4 a2 a3 a5) ((0:Int),([]:List Gq))).bind (λx9=>((Ff ([(a2.Blocks.getD a3.toNat default).Ops,(a2.Blocks.getD a5.toNat default).Ops]:List (List B2))).bind λx11=>((Ac (G5 a2 a3 a5 x9 x11) ((0:Int),([]:List Ae))).bind (λx23=>(some ((⟨a2.Params,a2.Ret,x23⟩:TFunc),a3,a5,x9)))))))))
variable{v43:zU}
theorem Sf(h:Fb v0 v1 v11=some v43):sP 47 [(.ptr 30000 0),(W8 v0)] (yS 30000 v1 v11) (W8 v43.1) [(Z8 v43.2.1 v43.2.2.1 9200002),(9200002,.obj (.map false .i64 (Bu (λ(v_:Int)=>((Z5 v_):AV)) v43.2.2.2)))]:=
 sG Tryz.func47 λΓ q=>Af q S9 [3,4,30000] (tC h λc1_ h=>tC h λc2_ h=>tU q TI [3,4,5,6,30000] (c2 c1_ c2_) (Af q TI MN (gLe (R9 (λ(k_:List mP) u=>Cl u [] [(UN 29 k_)]) (show[]=(Bu Zg ([]:List Gq)) from rfl)) (Af q kN MN (tL q h kN MN (λu (i3,l4)=>(Cl u [(35,(Z5 i3))] [(29,.obj (.map true .i64 (Bu Zg l4)))])) (λu l5=>aG Γ (.exit 0) (Nh TI MN u [] [(29,.obj (.map true .i64 (Bu Zg l5)))])) (λ⟨i3,l4⟩ y h=>Af q [0,3,4,5,6,33,34,35,36] MN (gC h (λh=>tV q [0,3,4,5,6,8,33,34,35] [3,4,5,6,8,29,30000] h λh=>tC h λc7_ h=>tB h λx8 y8 h=>tT q kN MN [⟨h9,[],(Z5 x8),[(Z8 v1 v11 9100002),(9100002,.obj (.map true .i64 (Bu Zg l4)))],[],[30000,29]⟩] (eX c7_ (Mi y8) (rkl [(.row 137 (bx v1 v11 29)),(.obj (.map true .i64 (Bu Zg l4)))])) (gLe (R9 (λ(k_:List mP) u=>Cl u [] [(UN 29 k_)]) (show(Jm (Bu Zg l4) (xn v0 v11 i3).Dst (Z5 x8))=(Bu Zg (Jm l4 (xn v0 v11 i3).Dst x8)) from(ai (f:=Zg) (l:=l4) (v:=x8) rfl rfl))) (Af q kN MN (tN h)))) λh=>tS h (gO (Bd (Bi TI MN q))))) λx9 h=>gA (tB h λx11 y11 h=>gR q bc [3,4,5,29,57,30000] [(56,(AV.list 1 WF [] (xm v0 v1 v11) .exact))] [⟨[],[(20000,57)],(vn x11 20000),[(20000,.tok 6 70 x11.length)],[],[]⟩] (c2 (Bp 1 WF [] (xm v0 v1 v11)) (Ru y11)) (gR q [0,3,4,5,9] [3,4,5,9,29,57,30000] [(66,(.agg [(UM v0),(Z5 v0.Ret),vU]))] [] (c1 (show(AVle (.agg [(UM v0),(Z5 v0.Ret),Zz]) (.agg [(UM v0),(Z5 v0.Ret),vU])) from(AVle.agg (.cons (AVle.refl _) (.cons (AVle.refl _) (.cons El .nil)))))) (Af q MM qq (gLe (st':=(xo v0 v1 x11 v11 x9)) (Le.trans (Bi (st':=⟨(xl v0),[(4,.row 25 vT),(5,.row 64 (vS v0 v1 x11 v11)),(9,.row 25 [(UM v0),(Z5 v0.Ret),vU]),(29,.obj (.map true .i64 (Bu Zg x9))),(57,.tok 6 70 x11.length),(Z8 v1 v11 29)],[]⟩) MM qq q) (Le.trans (AY (r:=9) (j:=2) (nm:=5902) (sz':=5) (λi=>Cg (([]:List Ae).getD i default)) 64 rfl rfl (nl rfl) rfl (.inl ⟨rfl,rfl⟩) (λh_=>absurd h_ (by decide))) (Bi (st':=(xo v0 v1 x11 v11 x9)) MM TV q))) (tL q h MM TV (λu (i12,l13)=>(Cl u [(70,(Z5 i12))] [(9,.row 25 [(UM v0),(Z5 v0.Ret),(vm l13 5902)]),(Lj 5902 64 l13.length)])) (λu l14=>aG Γ (.exit 2) (Nh [4,9] qr u [] [(9,.row 25 [(UM v0),(Z5 v0.Ret),(vm l14 5902)]),(Lj 5902 64 l14.length)])) (λ⟨i12,l13⟩ y h=>Af q [0,4,5,9,68,69,70,71] TV (gC h (λh=>tB h λx21 y21 h=>gJ y21 (λl15=>aG Γ .normal (⟨[bz,YZ,eW,(9,(.ptr 9 0)),(68,(UD v0.Blocks)),(bh 69 v0.Blocks.length),(70,(Z5 i12))],[(4,.row 25 vT),(5,.row 64 (vS v0 v1 x11 v11)),(9,.row 25 [(UM v0),(Z5 v0.Ret),(vm l15 5902)]),(29,.obj (.map true .i64 (Bu Zg x9))),(57,.tok 6 70 x11.length),(Lj 5902 64 l15.length),(Z8 v1 v11 29)],[]⟩:St)) (λy h=>tV q [0,4,5,9,10,11,68,69,70] kF h λh=>tW q [0,4,5,9,11,68,69,70,75] kF [0,4,5,9,11,68,69,70,75,84] kF (gC h (λh=>tB h λx17 y17 h=>tC h λc18_ h=>gR q MM TV (Z60 95 (rv x17) 96 l13 5902) [⟨h9,[],(.agg (Cg x17)),[(Z8 v1 v11 9100002),(9100002,.obj (.map true .i64 (Bu Zg x9)))],[],[30000,29]⟩] (ci (T5 y17) (tu [(.row 137 (bx v1 v11 29)),(.obj (.map true .i64 (Bu Zg x9)))] (c5 (Bp 5 Cg (default:Ae) (rv x17)) (Eq.refl l13.length) c18_ (Iz 5 5902 Cg (default:Ae) l13 (rv x17)) (E3 l13 (rv x17))))) (tS h (gK (Bd Iq)))) λh=>Af q [0,4,5,9,11,68,69,70,98] kF (gC h (λh=>tS h (gK (Bd (Bi MM TV q)))) λh=>tB h λx19 y19 h=>tC h λc20_ h=>gR q MM TV (Z60 81 (rx x19) 82 l13 5902) [⟨h9,[],(.agg (Cg x19)),[(Z8 v1 v11 9100002),(9100002,.obj (.map true .i64 (Bu Zg x9)))],[],[30000,29]⟩] (ci (T5 y19) (tu [(.row 137 (bx v1 v11 29)),(.obj (.map true .i64 (Bu Zg x9)))] (c5 (Bp 5 Cg (default:Ae) (rx x19)) (Eq.refl l13.length) c20_ (Iz 5 5902 Cg (default:Ae) l13 (rx x19)) (E3 l13 (rx x19))))) (tS h (gK (Bd Iq)))))) (gA (Af q MM TV (tN h)))) λh=>tS h (gO (Bd (Bi [4,9] qr q))))) λx23 h=>gA (Af q [4] [4,29,5902,30000] (Qb (⟨[YZ],[(4,.row 25 [(UM v0),(Z5 v0.Ret),(vm x23 5902)]),(29,.obj (.map true .i64 (Bu Zg x9))),(Lj 5902 64 x23.length),(Z8 v1 v11 29)],[]⟩:St) (tS h (gK (e:=.ret) (H6 [(30000,30000),(29,9200002)] (Le.trans (ft (nm:=29) (.map false .i64 (Bu Zg x9)) rfl (λ_ _ _ _ h_=>QQ h_)) (Bi (st':=⟨[YZ],[(4,.row 25 [(UM v0),(Z5 v0.Ret),(vm x23 5902)]),(29,.obj (.map false .i64 (Bu Zg x9))),(Lj 5902 64 x23.length),(Z8 v1 v11 29)],[]⟩) [4] [4,29,5902,30000] q)))))))))))))))))
def I6(a2:TFunc):Option TFunc:=
 none
variable{v44:TFunc}
theorem Pz(h:I6 v0=some v44):sP 47 [.nilp,(W8 v0)] [] (W8 v44) []:=
 sG Tryz.func47 λΓ q=>Af q S9 Yo (nomatch h)
abbrev VR:=(Ar×Int×List Ae)
abbrev zV:=(LR (Ar×Int×List Ae) TFunc)
def O4 :VR->Option zV:=
 λ(s_:VR)=>match s_ with|(l1,i2,l3)=>((Kt (⟨l1,i2,l3⟩:TFunc)).bind λx9=>(bif x9.1.1 then(bif x9.2 then((Fb (⟨l1,i2,l3⟩:TFunc) x9.1.2.x x9.1.2.y).bind λx11=>(some (.next (x11.1.Params,x11.1.Ret,x11.1.Blocks)))) else(some (.done (⟨l1,i2,l3⟩:TFunc)))) else(bif x9.2 then((I6 (⟨l1,i2,l3⟩:TFunc)).bind λx12=>(some (.next (x12.Params,x12.Ret,x12.Blocks)))) else(some (.done (⟨l1,i2,l3⟩:TFunc))))))
def ei(Γ:H5)(a0:TFunc)(r:TFunc):Exit->St->Prop:=fK Tryz.prog Γ Tryz.f17.results.toList [] (W8 r) []
def MX:=((.ptr 20000 0):AV)
def kh(x5:qc):List OG:=(yS 20000 x5.1.2.x x5.1.2.y)
def kj(x9:qc):List OG:=(yS 20000 x9.1.2.x x9.1.2.y)
def nD(l1:Ar)(i2:Int)(l3:List Ae):List AV:=[(Z6 l1),(Z5 i2),(UD l3)]
def Ty(a0:TFunc):Option TFunc:=
 ((Rw (S:=VR) (X:=TFunc) ((Ls a0).bind λx4=>(bif (!x4) then(some (.done a0)) else((Kt a0).bind λx5=>(bif x5.1.1 then(bif x5.2 then((Fb a0 x5.1.2.x x5.1.2.y).bind λx7=>(some (.next (x7.1.Params,x7.1.Ret,x7.1.Blocks)))) else(some (.done a0))) else(bif x5.2 then((I6 a0).bind λx8=>(some (.next (x8.Params,x8.Ret,x8.Blocks)))) else(some (.done a0))))))) O4).bind (λx13=>(some x13)))
theorem LU(h:Ty v0=some v44):sP 17 [(W8 v0)] [] (W8 v44) []:=
 sG Tryz.func17 λΓ q=>Af q Ee Ee (tB h λx13 y13 h=>gS y13 (λ(s_:VR)=>match s_ with|(l1,i2,l3)=>0) (λ(s_:VR)=>match s_ with|(l1,i2,l3)=>(⟨[CS,Uk],[(1,.row 25 (nD l1 i2 l3)),(2,.row 25 [Zz,L8,Zz])],[]⟩:St)) (λr_=>aR (ei Γ v0 r_)) (λy h=>tB h λx4 y4 h=>tT q [1,2,7] Ee [(Z2 x4)] (c1 (Su y4)) (gC h (λh=>Af q [2] [2] (tS h (eY (Ll (H6 [] (Le.refl _ _)))))) λh=>tB h λx5 y5 h=>gB h (λhs6 h=>tT q be TR [⟨[],[(20000,11)],(.tuple [(bif true then MX else .nilp),(.bool x5.2)]),(bif true then(kh x5) else[]),[],[]⟩] (c1 (show(sP 46 [(W8 v0)] [] (.tuple [(bif true then MX else .nilp),(.bool x5.2)]) (bif true then(kh x5) else[])) from(eqB (λb_:Bool=>sP 46 [(W8 v0)] [] (.tuple [(bif b_ then MX else .nilp),(.bool x5.2)]) (bif b_ then(kh x5) else[])) hs6 (R4 y5)))) (Af q bZ TR (gC h (λh=>tB h λx7 y7 h=>tT q Ee Ee [⟨[(11,30000)],qs,(W8 x7.1),[(Z8 x7.2.1 x7.2.2.1 9200002),(9200002,.obj (.map false .i64 (Bu (λ(v_:Int)=>((Z5 v_):AV)) x7.2.2.2)))],[],[]⟩] (c1 (Sf y7)) (tS h (fc Iq))) λh=>Af q [2] [2] (tS h (eY (Ll (H6 [] (Le.refl _ _)))))))) (λhs6 h=>tT q be Ee [⟨[],[],(.tuple [(bif false then MX else .nilp),(.bool x5.2)]),(bif false then(kh x5) else[]),[],[]⟩] (c1 (show(sP 46 [(W8 v0)] [] (.tuple [(bif false then MX else .nilp),(.bool x5.2)]) (bif false then(kh x5) else[])) from(eqB (λb_:Bool=>sP 46 [(W8 v0)] [] (.tuple [(bif b_ then MX else .nilp),(.bool x5.2)]) (bif b_ then(kh x5) else[])) hs6 (R4 y5)))) (Af q bZ Ee (gC h (λh=>tB h λx8 y8 h=>tT q Ee Ee [(rC x8)] (c1 (Pz y8)) (tS h (fc Iq))) λh=>Af q [2] [2] (tS h (eY (Ll (H6 [] (Le.refl _ _)))))))))) (λ⟨l1,i2,l3⟩ y h=>tB h λx9 y9 h=>gB h (λhs10 h=>tT q be TR [⟨[],[(20000,11)],(.tuple [(bif true then MX else .nilp),(.bool x9.2)]),(bif true then(kj x9) else[]),[],[]⟩] (c1 (show(sP 46 [(.agg (nD l1 i2 l3))] [] (.tuple [(bif true then MX else .nilp),(.bool x9.2)]) (bif true then(kj x9) else[])) from(eqB (λb_:Bool=>sP 46 [(.agg (nD l1 i2 l3))] [] (.tuple [(bif b_ then MX else .nilp),(.bool x9.2)]) (bif b_ then(kj x9) else[])) hs10 (R4 y9)))) (Af q bZ TR (gC h (λh=>tB h λx11 y11 h=>tT q Ee Ee [⟨[(11,30000)],qs,(W8 x11.1),[(Z8 x11.2.1 x11.2.2.1 9200002),(9200002,.obj (.map false .i64 (Bu (λ(v_:Int)=>((Z5 v_):AV)) x11.2.2.2)))],[],[]⟩] (c1 (Sf y11)) (tS h (fc Iq))) λh=>Af q [2] [2] (tS h (eY (Ll (H6 [] (Le.refl _ _)))))))) (λhs10 h=>tT q be Ee [⟨[],[],(.tuple [(bif false then MX else .nilp),(.bool x9.2)]),(bif false then(kj x9) else[]),[],[]⟩] (c1 (show(sP 46 [(.agg (nD l1 i2 l3))] [] (.tuple [(bif false then MX else .nilp),(.bool x9.2)]) (bif false then(kj x9) else[])) from(eqB (λb_:Bool=>sP 46 [(.agg (nD l1 i2 l3))] [] (.tuple [(bif b_ then MX else .nilp),(.bool x9.2)]) (bif b_ then(kj x9) else[])) hs10 (R4 y9)))) (Af q bZ Ee (gC h (λh=>tB h λx12 y12 h=>tT q Ee Ee [(rC x12)] (c1 (Pz y12)) (tS h (fc Iq))) λh=>Af q [2] [2] (tS h (eY (Ll (H6 [] (Le.refl _ _))))))))) (O2 (λst' hk=>tS h (gK hk))))
def Kv(a9:Ar):Zy->Option bK:=
 λ((i1,l2):Zy)=>(bif (decide (i1<(a9.length:Int))) then(A0 (A1 i1 a9.length) (A0 (A1 (a9.getD i1.toNat 0) l2.length) (some (.next ((w64 (i1+1)),(l2.set (a9.getD i1.toNat 0).toNat true)))))) else(some (.done l2)))
def Jj(a9:Ar)(a3:List Bool):Option (List Bool):=
 ((Ac (Kv a9) ((0:Int),a3)).bind (λx6=>(some x6)))
variable{v45:List Bool}
theorem Sv(h:Jj v2 v33=some v45):sP 81 [(Z6 v2),(.ptr 30000 0)] (yM v33.length v33) (.tuple []) (yM v45.length v45):=
 sG Tryz.func81 λΓ q=>Af q bf IJ (tL q h bf IJ (λu (i1,l2)=>(Cl u [(7,(Z5 i1))] (yM l2.length l2))) (λu l3=>aG Γ (.exit 0) (⟨[],(yM l3.length l3),[]⟩:St)) (λ⟨i1,l2⟩ y h=>Af q [1,5,6,7,8] IJ (gC h (λh=>tV q [1,4,5,6,7] IJ h λh=>tC h λc5_ h=>tU q bf IJ (c2 c5_ (Eq.refl l2.length)) (gLe (Le.trans (Sr 35000 (show ∀ k_,k_<l2.length->AVleL ((λi_=>AV.eraseAll (λn_=>Bw n_ IJ) ((Fc (λi=>eB (l2.getD i false)) (v2.getD i1.toNat 0).toNat 0 [(.bool true)]) i_)) k_) ((λi=>eB ((l2.set (v2.getD i1.toNat 0).toNat true).getD i false)) k_) from(Bh (C8 ..).symm (λk_ hk_=>(Bg (AV.eraseAll (λn_=>Bw n_ IJ)) ((Fu (λ_ _=>rfl) (Hv c5_) rfl) k_ hk_)).trans rfl)))) (R9 (λ(k_:Nat) u=>(Cl u [] [(30000,.row 81 [(.vsl 35000 k_)]),(35000,.arr 1 4 k_ (λi=>eB ((l2.set (v2.getD i1.toNat 0).toNat true).getD i false)))])) (show l2.length=(l2.set (v2.getD i1.toNat 0).toNat true).length from(C8 ..).symm))) (Af q bf IJ (tN h)))) λh=>tS h (gO (Bd (Bi [] IJ q))))) λx6 h=>uk (λst' hl7=>tS h (gK (e:=.normal) (H6 [(30000,30000),(35000,35000)] hl7))))
def Mm(a0:TFunc)(i2:Int):Zy->Option bK:=
 λ((i7,l8):Zy)=>(bif (decide (i7<(((a0.Blocks.getD i2.toNat default).Phis).length:Int))) then(A0 (A1 i7 ((a0.Blocks.getD i2.toNat default).Phis).length) ((Jj ((((a0.Blocks.getD i2.toNat default).Phis).getD i7.toNat default).Args) l8).bind λx11=>(A0 (l8.length=x11.length) (some (.next ((w64 (i7+1)),x11)))))) else(some (.done l8)))
def Mn(a0:TFunc)(i2:Int):Zy->Option bK:=
 λ((i15,l16):Zy)=>(bif (decide (i15<(((a0.Blocks.getD i2.toNat default).Ops).length:Int))) then(A0 (A1 i15 ((a0.Blocks.getD i2.toNat default).Ops).length) ((Jj ((((a0.Blocks.getD i2.toNat default).Ops).getD i15.toNat default).Args) l16).bind λx19=>(A0 (l16.length=x19.length) (some (.next ((w64 (i15+1)),x19)))))) else(some (.done l16)))
def Mo(a0:TFunc):Zy->Option bK:=
 λ((i2,l3):Zy)=>(bif (decide (i2<(a0.Blocks.length:Int))) then(Option.bind (α:=List Bool) (A0 (A1 i2 a0.Blocks.length) ((Ac (Mm a0 i2) ((0:Int),l3)).bind (λx13=>((Ac (Mn a0 i2) ((0:Int),x13)).bind (λx21=>(bif (bif (((a0.Blocks.getD i2.toNat default).End.Kind:Int)==0) then true else(((a0.Blocks.getD i2.toNat default).End.Kind:Int)==2)) then((Jj ([(a0.Blocks.getD i2.toNat default).End.Arg]:Ar) x21).bind λx23=>(A0 (x21.length=x23.length) (some x23))) else(some x21))))))) (λx25=>(some (.next ((w64 (i2+1)),x25))))) else(some (.done l3)))
def ry(a0:TFunc)(i2:Int):=(a0.Blocks.getD i2.toNat default)
def Ku(a0:TFunc):Option (List Bool):=
 (A0 (0<=(1024:Int)/\(1024:Int)<=1024/\(1024:Int)<=(room:Int)) ((Ac (Mo a0) ((0:Int),(List.replicate (1024:Int).toNat false))).bind (λx27=>(some x27))))
theorem Vx(h:Ku v0=some v33):sP 43 [(W8 v0)] [] (NJ v33 20000) [(Q8 20000 v33.length)]:=
 sG Tryz.func43 λΓ q=>have hΓ:=q.own;gR q [1] [1] [(2,(AV.list 1 eB false ([]:List Bool) .exact))] [] (c1 (B0 1 eB false)) (tV q L6 [1,3,11] h λh=>by exact gLe (Le.trans (Sr 11 (show ∀ k_,k_<((1024:Int).toNat)->AVleL ((λi_=>AV.eraseAll (λn_=>Bw n_ [1,3,11]) ((λ_=>[(.bool false)]) i_)) k_) ((λi=>eB ((List.replicate (1024:Int).toNat false).getD i false)) k_) from(λk hk=>M6 (e:=eB) (d:=false) (.cons (AVle.refl _) .nil) _ k (M7 hk)))) (R9 (λ(k_:Nat) u=>(Cl u [] [(3,.row 81 [(.vsl 11 k_)]),(11,.arr 1 4 k_ (λi=>eB ((List.replicate (1024:Int).toNat false).getD i false)))])) (show(1024:Int).toNat=(List.replicate (1024:Int).toNat false).length from(N8 ..).symm))) (tW q J8 [1,3,11] SU CO (tL q h SU CO (λu (i2,l3)=>(Cl u [(16,(Z5 i2))] (vl l3.length l3))) (λu l4=>aG Γ (.exit 0) (Nh [3] CO u [] (vl l4.length l4))) (λ⟨i2,l3⟩ y h=>Af q [3,4,14,15,16,17] CO (gC h (λh=>tB h λx25 y25 h=>gJ y25 (λl5=>aG Γ .normal (⟨[(3,(.ptr 3 0)),(4,(.clo 81 [] [(.ptr 3 0)])),(14,(UD v0.Blocks)),(bh 15 v0.Blocks.length),(16,(Z5 i2))],(vl l5.length l5),[]⟩:St)) (λy h=>tV q eS S8 h λh=>Af q kG S8 (tL q h kG S8 (λu (i7,l8)=>(Cl u [(23,(Z5 i7))] (vl l8.length l8))) (λu l9=>aG Γ (.exit 2) (Nh eS S8 u [] (vl l9.length l9))) (λ⟨i7,l8⟩ y h=>Af q [3,4,6,14,15,16,21,22,23,24] S8 (gC h (λh=>tV q [3,4,6,8,14,15,16,21,22,23] [3,6,8,11] h λh=>tB h λx11 y11 h=>tC h λc12_ h=>tT q kG S8 [(Z94 x11.length x11)] (c1 (Sv y11)) (Af q kG S8 (tN h))) λh=>tS h (gO (Bd (Bi eS S8 q))))) λx13 h=>gA (Af q kH S8 (tL q h kH S8 (λu (i15,l16)=>(Cl u [(35,(Z5 i15))] (vl l16.length l16))) (λu l17=>aG Γ (.exit 4) (Nh eS S8 u [] (vl l17.length l17))) (λ⟨i15,l16⟩ y h=>Af q [3,4,6,14,15,16,33,34,35,36] S8 (gC h (λh=>tV q [3,4,6,10,14,15,16,33,34,35] [3,6,10,11] h λh=>tB h λx19 y19 h=>tC h λc20_ h=>tT q kH S8 [(Z94 x19.length x19)] (c1 (Sv y19)) (Af q kH S8 (tN h))) λh=>tS h (gO (Bd (Bi eS S8 q))))) λx21 h=>gA (tU q [3,4,6,14,15,16,53] S8 (Vl ((((ry v0 i2).End.Kind:Int)==0)==false) (c1 (Nf (((ry v0 i2).End.Kind:Int)==0)))) (gC h (λh=>tB h λx23 y23 h=>tC h λc24_ h=>gR q SU CO [(58,(AV.list 1 Ap 0 ([(ry v0 i2).End.Arg]:Ar) .exact))] [(Z94 x23.length x23)] (c2 (Bp 1 Ap (0:Int) ([(ry v0 i2).End.Arg]:Ar)) (Sv y23)) (tS h (gK (Bd Iq)))) λh=>tS h (gK (Bd (Bi SU CO q))))))))) (gA (Af q SU CO (tN h)))) λh=>tS h (gO (Bd (Bi [3] CO q))))) λx27 h=>gA (Af q [2] [11] (Qb (⟨[(2,(.vsl 11 x27.length))],[(Z9 11 x27)],[]⟩:St) (tS h (gK (e:=.ret) (H6 [(11,20000)] (Le.trans (le_freeze (nm:=11) (sz:=1) (n:=x27.length) (e:=4) (f:=(λi=>eB (x27.getD i false))) (g:=(λi=>eB (x27.getD i false))) rfl ⟨rfl,trivial⟩ (λ_ _=>rfl) (by rw[hΓ];rfl)) (Gt (st':=⟨[(2,(NJ x27 11))],[(Q8 11 x27.length)],[]⟩) (by kernel_rfl)))))))))))
def kl:AV:=(AV.list 4 Eo default ([]:List Ba) .exact)
def xp:=(⟨[(2,(.vsl 36002 ([]:List Ba).length))],[(36002,.arr 4 67 (([]:List Ba).length) (λi=>Eo (([]:List Ba).getD i default)))],[]⟩:St)
def Ck(aH:List Ba):Option (List Ba):=
 (A0 (aH.length<=room) (some aH))
variable{v46:List Ba}{v5:List Ba}
theorem Pq(h:Ck v5=some v46):sP 87 [(xD v5)] [] (.vsl 20000 v46.length) (nO 20000 v46):=by
 refine JX mix Tryz.func87 (λΓ hq=>?_);unfold Ck at h;refine gR hq [0] [] [(2,kl)] [] (c1 (B0 4 Eo (default:Ba))) ?_;refine Af hq [0,4] [] ?_;refine yd true v5.length (λhb=>?_) (λhb=>?_)
 ·replace h:=pJ (some ([]:List Ba)) (λ(l2:List Ba)=>(A0 (l2.length<=room) (some l2))) h (hb rfl) rfl (λh0=>by first|exact h0|simpa [A0,room] using h0);clear hb;refine gR hq [2] [] [(2,kl)] [] (c1 (B0 4 Eo (default:Ba))) ?_;refine Qb (⟨[(2,kl)],[],[]⟩:St) ?_;cases h;exact gK (e:=.ret) (H6 [(36002,20000)] (show Le Γ _ xp from Le.trans (Bi (st':=⟨[(2,kl)],[],[]⟩) [2] [] hq) (Le.trans (PX (t:=2) (nm:=36002) (sz':=4) (λi=>Eo (([]:List Ba).getD i default)) 67 rfl rfl) (Bi (st':=xp) [2] [36002] hq))))
 ·clear hb;obtain⟨hc1,h⟩:=Qh h;refine gR hq [2] [7] [(5,kl),(7,.vsl 7 0)] [] (ci (show(AVle (.slice 4 0 (λi=>([]:List (List AV)).getD i []) .exact) kl) from ZD rfl (λi hi=>absurd hi (W1 i))) (c1 hc1)) ?_;obtain rfl:=OI h;exact Cc [(7,20000)]
def Jf(aV:Ba)(a2:List Bool):Option Bool:=
 (A0 (A1 aV.Dst a2.length) (some (!(a2.getD (aV.Dst).toNat false))))
theorem U3(h:Jf v4 v33=some v3):sP 88 [(.agg (Eo v4)),(.rptr (ZM v33))] [] (.bool v3) []:=
 sG Tryz.func88 λΓ q=>Af q Ee [2] (tV q [3] [] h λh=>tS h (Cc []))
def C4(aH:List Ba)(aa7:List Bool):Int->Option (LR Int (Unit ⊕ Int)):=
 λ(i1:Int)=>(bif (decide (i1<(aH.length:Int))) then(A0 (A1 i1 aH.length) ((Jf (aH.getD i1.toNat default) aa7).bind λx3=>(bif x3 then(some (.done (.inr i1))) else(some (.next (w64 (i1+1))))))) else(some (.done (.inl ()))))
def Pk(Γ:H5)(aH:List Ba)(aa7:List Bool)(r:Int):Exit->St->Prop:=fK Tryz.prog Γ Tryz.f143.results.toList [] (.int .i64 r) []
def F4(aH:List Ba)(aa7:List Bool):Option Int:=
 ((Ac (C4 aH aa7) (0:Int)).bind (λx4=>(match x4 with|(.inl _)=>(some (-1:Int))|(.inr r6)=>(some r6))))
theorem O6(h:F4 v5 v33=some v1):sP 143 [(xD v5),(.clo 88 [] [(.rptr (ZM v33))])] [] (.int .i64 v1) []:=
 sG Tryz.func143 λΓ q=>tW q Gn [] IL [] (tL q h IL [] (λu i1=>(Cl u [(8,(Z5 i1))] [])) (λu x_=>match x_ with|(.inl _)=>aG Γ (.exit 0) (⟨[],[],[]⟩:St)|(.inr r_)=>aR (Pk Γ v5 v33 r_)) (λi1 y h=>Af q iU [] (gC h (λh=>Af q iV [] (tC h λc2_ h=>tB h λx3 y3 h=>tT q iH [] [(Z2 x3)] (c2 c2_ (U3 y3)) (gC h (λh=>Af q [4] [] (tS h (gO (Ll (H6 [] (Le.refl _ _)))))) λh=>Af q IL [] (tN h)))) λh=>tS h (gO (Bd (Bi [] [] q))))) λx4 h=>(match x4,h with | .inl _,h=>gA (Af q [4] [] (tS h (Cc []))) | .inr r6,h=>O2 (λst' hk=>tS h (gK hk))))
def Cu(aa4:List Bool):(Int×Int×List Ba)->Option (LR (Int×Int×List Ba) (Int×List Ba)):=
 λ((i2,i3,l4):(Int×Int×List Ba))=>(bif (decide (i3<(l4.length:Int))) then(Option.bind (α:=wx) (A0 (A1 i3 l4.length) ((Jf (l4.getD i3.toNat default) aa4).bind λx10=>(bif (!x10) then(A0 (A1 i2 l4.length) (some ((w64 (i2+1)),(l4.set i2.toNat (⟨(l4.getD i3.toNat default).Bits,(l4.getD i3.toNat default).Dst,(l4.getD i3.toNat default).From,(l4.getD i3.toNat default).Args⟩:Ba))))) else(some (i2,l4))))) (λ(i7,l8)=>(some (.next (i7,(w64 (i3+1)),l8))))) else(some (.done (i2,l4))))
def vW(l6:List Ba)(i5:Int):=(NR l6 (0+i5.toNat) (l6.length-(0+i5.toNat)) (λ_=>(default:Ba)))
def vV(l4:List Ba)(i2:Int)(i3:Int):=(l4.set i2.toNat (⟨(l4.getD i3.toNat default).Bits,(l4.getD i3.toNat default).Dst,(l4.getD i3.toNat default).From,(l4.getD i3.toNat default).Args⟩:Ba))
abbrev uQ:=(Nat×List Ba)
def Dk(aH:List Ba)(aa4:List Bool):Option uQ:=
 ((F4 aH aa4).bind λx1=>(bif (x1==-1) then(some ((aH.length:Nat),aH)) else((Ac (Cu aa4) (x1,(w64 (x1+1)),aH)).bind (λ(i5,l6)=>(A0 (0<=i5/\0+i5.toNat<=l6.length) (A0 (0<=i5/\0+i5.toNat<=(NR l6 (0+i5.toNat) (l6.length-(0+i5.toNat)) (λ_=>(default:Ba))).length) (some (((0+i5.toNat):Nat),(NR l6 (0+i5.toNat) (l6.length-(0+i5.toNat)) (λ_=>(default:Ba)))))))))))
variable{v47:uQ}
theorem Ot(h:Dk v5 v33=some v47):sP 86 [(.vsl 34000 v5.length),(.clo 88 [] [(.rptr (ZM v33))])] (nO 34000 v5) (.vsub 34000 v47.2.length 0 v47.1) (nO 34000 v47.2):=
 sG Tryz.func86 λΓ q=>gR q Gn [34000] [(4,(AV.list 4 Eo default ([]:List Ba) .exact))] [] (c1 (B0 4 Eo (default:Ba))) (tB h λx1 y1 h=>tT q Nc [34000] [⟨[],[],(Z5 x1),[],[34000],[]⟩] (c3 (O6 y1) (show(EE []) from trivial) (Eq.refl v5.length)) (Af q [0,1,5,12] [34000] (gC h (λh=>Af q [4] [34000] (Qb (⟨[(4,(.vsl 34000 v5.length))],(nO 34000 v5),[]⟩:St) (tS h (gK (e:=.ret) (H6 SX (Le.trans (jW (t:=4) (r:=34000) rfl rfl) (Bi (st':=⟨[(4,(.vsub 34000 v5.length 0 v5.length))],(nO 34000 v5),[]⟩) [4] [34000] q))))))) λh=>Af q W5 [34000] (tL q h W5 [34000] (λu (i2,i3,l4)=>(Cl u [(mX l4.length),(5,(Z5 i2)),(6,(Z5 i3))] (nO 34000 l4))) (λu (i5,l6)=>aG Γ (.exit 0) (⟨[(mX l6.length),(5,(Z5 i5))],(nO 34000 l6),[]⟩:St)) (λ⟨i2,i3,l4⟩ y h=>Af q [0,1,5,6,19] [34000] (gC h (λh=>tB h λx12 y12 h=>gJ y12 (λ(i7,l8)=>aG Γ .normal (⟨[(mX l8.length),(1,(.clo 88 [] [(.rptr (ZM v33))])),(5,(Z5 i7)),(6,(Z5 i3))],(nO 34000 l8),[]⟩:St)) (λy h=>tC h λc9_ h=>tU q [0,1,5,6,7] bg (c2 c9_ (Eq.refl l4.length)) (tB h λx10 y10 h=>tT q [0,1,5,6,7,29] bg [(Z2 x10)] (c1 (U3 y10)) (gC h (λh=>tC h λc11_ h=>tU q W5 [34000] (c2 c11_ (Eq.refl l4.length)) (gLe (Le.trans (Sr 34000 (show ∀ k_,k_<l4.length->AVleL ((λi_=>AV.eraseAll (λn_=>Bw n_ [34000]) ((Fc (λi=>Eo (l4.getD i default)) i2.toNat 0 (Eo (l4.getD i3.toNat default))) i_)) k_) ((λi=>Eo ((vV l4 i2 i3).getD i default)) k_) from(Bh (C8 ..).symm (λk_ hk_=>(Bg (AV.eraseAll (λn_=>Bw n_ [34000])) ((Fu (λ_ _=>rfl) (Hv c11_) rfl) k_ hk_)).trans rfl)))) (R9 (λ(k_:Nat) u=>(Cl u [(mX k_)] [(34000,.arr 4 67 k_ (λi=>Eo ((vV l4 i2 i3).getD i default)))])) (show l4.length=(vV l4 i2 i3).length from(C8 ..).symm))) (Af q W5 [34000] (tS h (gK (Bd Iq)))))) λh=>tS h (gK (Bd (Bi W5 [34000] q)))))) (match x12,h with|⟨i7,l8⟩,h=>gA (Af q W5 [34000] (tN h)))) λh=>tS h (gO (Bd (Bi [0,5] [34000] q))))) λx14 h=>(match x14,h with|⟨i5,l6⟩,h=>gA (tC h λc16_ h=>tU q [0,5] [34000] (c2 c16_ (Eq.refl l6.length)) (gLe (Le.trans (Sr 34000 (show ∀ k_,k_<l6.length->AVleL ((λi_=>AV.eraseAll (λn_=>Bw n_ [34000]) ((WA (λi=>Eo (l6.getD i default)) (0+i5.toNat) (l6.length-(0+i5.toNat)) (λ_=>[L8,L8,Zz,Zz])) i_)) k_) ((λi=>Eo ((vW l6 i5).getD i default)) k_) from(oP (e:=Eo) (d:=(default:Ba)) (l:=l6) (.cons (AVle.refl _) (.cons (AVle.refl _) (.cons (λ_ _ _ _ _ hh=>AVle.untag _ _ _ _ _ (El _ _ _ _ _ hh)) (.cons (λ_ _ _ _ _ hh=>AVle.untag _ _ _ _ _ (El _ _ _ _ _ hh)) .nil)))) (λ_ _=>rfl)))) (R9 (λ(k_:Nat) u=>(Cl u [(mX k_)] [(34000,.arr 4 67 k_ (λi=>Eo ((vW l6 i5).getD i default)))])) (show l6.length=(vW l6 i5).length from(En ..)))) (tV q [4] [34000] h λh=>tS h (Cc SX)))))))))
def kn:AV:=yO
def xq:=(⟨[(2,(.vsl 36002 ([]:List B2).length))],[(36002,.arr 6 70 (([]:List B2).length) (λi=>J6 (([]:List B2).getD i default)))],[]⟩:St)
def C5(aH:List B2):Option (List B2):=
 (A0 (aH.length<=room) (some aH))
variable{v48:List B2}
theorem Q0(h:C5 v7=some v48):sP 90 [(xE v7)] [] (.vsl 20000 v48.length) [(fE 20000 v48)]:=by
 refine JX mix Tryz.func90 (λΓ hq=>?_);unfold C5 at h;refine gR hq [0] [] [(2,kn)] [] (c1 (B0 6 J6 (default:B2))) ?_;refine Af hq [0,4] [] ?_;refine yd true v7.length (λhb=>?_) (λhb=>?_)
 ·replace h:=pJ (some ([]:List B2)) (λ(l2:List B2)=>(A0 (l2.length<=room) (some l2))) h (hb rfl) rfl (λh0=>by first|exact h0|simpa [A0,room] using h0);clear hb;refine gR hq [2] [] [(2,kn)] [] (c1 (B0 6 J6 (default:B2))) ?_;refine Qb (⟨[(2,kn)],[],[]⟩:St) ?_;cases h;exact gK (e:=.ret) (H6 [(36002,20000)] (show Le Γ _ xq from Le.trans (Bi (st':=⟨[(2,kn)],[],[]⟩) [2] [] hq) (Le.trans (PX (t:=2) (nm:=36002) (sz':=6) (λi=>J6 (([]:List B2).getD i default)) 70 rfl rfl) (Bi (st':=xq) [2] [36002] hq))))
 ·clear hb;obtain⟨hc1,h⟩:=Qh h;refine gR hq [2] [7] [(5,kn),(7,.vsl 7 0)] [] (ci (show(AVle (.slice 6 0 (λi=>([]:List (List AV)).getD i []) .exact) kn) from ZD rfl (λi hi=>absurd hi (W1 i))) (c1 hc1)) ?_;obtain rfl:=OI h;exact Cc [(7,20000)]
def Jg(a1:B2)(a2:List Bool):Option Bool:=
 ((LK a1.Kind).bind λx1=>(A0 ((x1==true)=true->(A1 a1.Dst a2.length)) (some (bif x1 then(!(a2.getD (a1.Dst).toNat false)) else false))))
theorem U4(h:Jg v6 v33=some v3):sP 91 [(.agg (J6 v6)),(.rptr (ZM v33))] [] (.bool v3) []:=
 sG Tryz.func91 λΓ q=>Af q Ee [2] (tB h λx1 y1 h=>tC h λc2_ h=>tT q [3] [] [(Z2 x1)] (ci (au y1) (Vl (x1==true) (ci c2_ (M3 (x1==true) (c1 (Ng x1)))))) (tS h (Cc [])))
def Cv(aH:List B2)(aa7:List Bool):Int->Option (LR Int (Unit ⊕ Int)):=
 λ(i1:Int)=>(bif (decide (i1<(aH.length:Int))) then(A0 (A1 i1 aH.length) ((Jg (aH.getD i1.toNat default) aa7).bind λx3=>(bif x3 then(some (.done (.inr i1))) else(some (.next (w64 (i1+1))))))) else(some (.done (.inl ()))))
def Oy(Γ:H5)(aH:List B2)(aa7:List Bool)(r:Int):Exit->St->Prop:=fK Tryz.prog Γ Tryz.f144.results.toList [] (.int .i64 r) []
def Fs(aH:List B2)(aa7:List Bool):Option Int:=
 ((Ac (Cv aH aa7) (0:Int)).bind (λx4=>(match x4 with|(.inl _)=>(some (-1:Int))|(.inr r6)=>(some r6))))
theorem Ou(h:Fs v7 v33=some v1):sP 144 [(xE v7),(.clo 91 [] [(.rptr (ZM v33))])] [] (.int .i64 v1) []:=
 sG Tryz.func144 λΓ q=>tW q Gn [] IL [] (tL q h IL [] (λu i1=>(Cl u [(8,(Z5 i1))] [])) (λu x_=>match x_ with|(.inl _)=>aG Γ (.exit 0) (⟨[],[],[]⟩:St)|(.inr r_)=>aR (Oy Γ v7 v33 r_)) (λi1 y h=>Af q iU [] (gC h (λh=>Af q iV [] (tC h λc2_ h=>tB h λx3 y3 h=>tT q iH [] [(Z2 x3)] (c2 c2_ (U4 y3)) (gC h (λh=>Af q [4] [] (tS h (gO (Ll (H6 [] (Le.refl _ _)))))) λh=>Af q IL [] (tN h)))) λh=>tS h (gO (Bd (Bi [] [] q))))) λx4 h=>(match x4,h with | .inl _,h=>gA (Af q [4] [] (tS h (Cc []))) | .inr r6,h=>O2 (λst' hk=>tS h (gK hk))))
def Db(aa4:List Bool):(Int×Int×List B2)->Option (LR (Int×Int×List B2) (Int×List B2)):=
 λ((i2,i3,l4):(Int×Int×List B2))=>(bif (decide (i3<(l4.length:Int))) then(Option.bind (α:=wy) (A0 (A1 i3 l4.length) ((Jg (l4.getD i3.toNat default) aa4).bind λx10=>(bif (!x10) then(A0 (A1 i2 l4.length) (some ((w64 (i2+1)),(l4.set i2.toNat (⟨(l4.getD i3.toNat default).Kind,(l4.getD i3.toNat default).Bits,(l4.getD i3.toNat default).Lanes,(l4.getD i3.toNat default).Dst,(l4.getD i3.toNat default).Args,(l4.getD i3.toNat default).Imm⟩:B2))))) else(some (i2,l4))))) (λ(i7,l8)=>(some (.next (i7,(w64 (i3+1)),l8))))) else(some (.done (i2,l4))))
def vY(l6:List B2)(i5:Int):=(NR l6 (0+i5.toNat) (l6.length-(0+i5.toNat)) (λ_=>(default:B2)))
def vX(l4:List B2)(i2:Int)(i3:Int):=(l4.set i2.toNat (⟨(l4.getD i3.toNat default).Kind,(l4.getD i3.toNat default).Bits,(l4.getD i3.toNat default).Lanes,(l4.getD i3.toNat default).Dst,(l4.getD i3.toNat default).Args,(l4.getD i3.toNat default).Imm⟩:B2))
abbrev uR:=(Nat×List B2)
def D1(aH:List B2)(aa4:List Bool):Option uR:=
 ((Fs aH aa4).bind λx1=>(bif (x1==-1) then(some ((aH.length:Nat),aH)) else((Ac (Db aa4) (x1,(w64 (x1+1)),aH)).bind (λ(i5,l6)=>(A0 (0<=i5/\0+i5.toNat<=l6.length) (A0 (0<=i5/\0+i5.toNat<=(NR l6 (0+i5.toNat) (l6.length-(0+i5.toNat)) (λ_=>(default:B2))).length) (some (((0+i5.toNat):Nat),(NR l6 (0+i5.toNat) (l6.length-(0+i5.toNat)) (λ_=>(default:B2)))))))))))
variable{v49:uR}
theorem Pr(h:D1 v7 v33=some v49):sP 89 [(.vsl 34000 v7.length),(.clo 91 [] [(.rptr (ZM v33))])] [(fE 34000 v7)] (.vsub 34000 v49.2.length 0 v49.1) [(fE 34000 v49.2)]:=
 sG Tryz.func89 λΓ q=>gR q Gn [34000] [(4,yO)] [] (c1 (B0 6 J6 (default:B2))) (tB h λx1 y1 h=>tT q Nc [34000] [⟨[],[],(Z5 x1),[],[34000],[]⟩] (c3 (Ou y1) (show(EE []) from trivial) (Eq.refl v7.length)) (Af q [0,1,5,12] [34000] (gC h (λh=>Af q [4] [34000] (Qb (⟨[(4,(.vsl 34000 v7.length))],[(fE 34000 v7)],[]⟩:St) (tS h (gK (e:=.ret) (H6 SX (Le.trans (jW (t:=4) (r:=34000) rfl rfl) (Bi (st':=⟨[(4,(.vsub 34000 v7.length 0 v7.length))],[(fE 34000 v7)],[]⟩) [4] [34000] q))))))) λh=>Af q W5 [34000] (tL q h W5 [34000] (λu (i2,i3,l4)=>(Cl u [(mX l4.length),(5,(Z5 i2)),(6,(Z5 i3))] [(fE 34000 l4)])) (λu (i5,l6)=>aG Γ (.exit 0) (⟨[(mX l6.length),(5,(Z5 i5))],[(fE 34000 l6)],[]⟩:St)) (λ⟨i2,i3,l4⟩ y h=>Af q [0,1,5,6,19] [34000] (gC h (λh=>tB h λx12 y12 h=>gJ y12 (λ(i7,l8)=>aG Γ .normal (⟨[(mX l8.length),(1,(.clo 91 [] [(.rptr (ZM v33))])),(5,(Z5 i7)),(6,(Z5 i3))],[(fE 34000 l8)],[]⟩:St)) (λy h=>tC h λc9_ h=>tU q [0,1,5,6,7] bg (c2 c9_ (Eq.refl l4.length)) (tB h λx10 y10 h=>tT q [0,1,5,6,7,29] bg [(Z2 x10)] (c1 (U4 y10)) (gC h (λh=>tC h λc11_ h=>tU q W5 [34000] (c2 c11_ (Eq.refl l4.length)) (gLe (Le.trans (Sr 34000 (show ∀ k_,k_<l4.length->AVleL ((λi_=>AV.eraseAll (λn_=>Bw n_ [34000]) ((Fc (λi=>J6 (l4.getD i default)) i2.toNat 0 (J6 (l4.getD i3.toNat default))) i_)) k_) ((λi=>J6 ((vX l4 i2 i3).getD i default)) k_) from(Bh (C8 ..).symm (λk_ hk_=>(Bg (AV.eraseAll (λn_=>Bw n_ [34000])) ((Fu (λ_ _=>rfl) (Hv c11_) rfl) k_ hk_)).trans rfl)))) (R9 (λ(k_:Nat) u=>(Cl u [(mX k_)] [(34000,.arr 6 70 k_ (λi=>J6 ((vX l4 i2 i3).getD i default)))])) (show l4.length=(vX l4 i2 i3).length from(C8 ..).symm))) (Af q W5 [34000] (tS h (gK (Bd Iq)))))) λh=>tS h (gK (Bd (Bi W5 [34000] q)))))) (match x12,h with|⟨i7,l8⟩,h=>gA (Af q W5 [34000] (tN h)))) λh=>tS h (gO (Bd (Bi [0,5] [34000] q))))) λx14 h=>(match x14,h with|⟨i5,l6⟩,h=>gA (tC h λc16_ h=>tU q [0,5] [34000] (c2 c16_ (Eq.refl l6.length)) (gLe (Le.trans (Sr 34000 (show ∀ k_,k_<l6.length->AVleL ((λi_=>AV.eraseAll (λn_=>Bw n_ [34000]) ((WA (λi=>J6 (l6.getD i default)) (0+i5.toNat) (l6.length-(0+i5.toNat)) (λ_=>[L8,L8,L8,L8,Zz,(.int .u64 (0:Int))])) i_)) k_) ((λi=>J6 ((vY l6 i5).getD i default)) k_) from(oP (e:=J6) (d:=(default:B2)) (l:=l6) (.cons (AVle.refl _) (.cons (AVle.refl _) (.cons (AVle.refl _) (.cons (AVle.refl _) (.cons (λ_ _ _ _ _ hh=>AVle.untag _ _ _ _ _ (El _ _ _ _ _ hh)) (.cons (AVle.refl _) .nil)))))) (λ_ _=>rfl)))) (R9 (λ(k_:Nat) u=>(Cl u [(mX k_)] [(34000,.arr 6 70 k_ (λi=>J6 ((vY l6 i5).getD i default)))])) (show l6.length=(vY l6 i5).length from(En ..)))) (tV q [4] [34000] h λh=>tS h (Cc SX)))))))))
def K0(a0:TFunc)(aa5:List Bool):uP->Option zT:=
 λ((i1,l2):uP)=>(bif (decide (i1<(a0.Blocks.length:Int))) then(A0 (A1 i1 a0.Blocks.length) ((Ck ((a0.Blocks.getD i1.toNat default).Phis)).bind λx5=>((Dk x5 aa5).bind λx6=>(A0 (x6.1<=x6.2.length) (A0 (x5.length=x6.2.length) ((C5 ((a0.Blocks.getD i1.toNat default).Ops)).bind λx9=>((D1 x9 aa5).bind λx10=>(A0 (x10.1<=x10.2.length) (A0 (x9.length=x10.2.length) (A0 (l2.length+([(⟨(x6.2.take x6.1),(x10.2.take x10.1),(⟨(a0.Blocks.getD i1.toNat default).End.Kind,(a0.Blocks.getD i1.toNat default).End.Arg,(a0.Blocks.getD i1.toNat default).End.To⟩:Kb)⟩:Ae)]:List Ae).length<=room) (some (.next ((w64 (i1+1)),(l2++([(⟨(x6.2.take x6.1),(x10.2.take x10.1),(⟨(a0.Blocks.getD i1.toNat default).End.Kind,(a0.Blocks.getD i1.toNat default).End.Arg,(a0.Blocks.getD i1.toNat default).End.To⟩:Kb)⟩:Ae)]:List Ae))))))))))))))) else(some (.done l2)))
def fC(x10:uR):=(λi=>J6 (x10.2.getD i default))
def GK(a0:TFunc)(i1:Int):=(a0.Blocks.getD i1.toNat default)
def nF(x6:uQ):=(λi=>Eo (x6.2.getD i default))
def nG(a0:TFunc)(i1:Int):AV:=(AV.list 1 Ap 0 (GK a0 i1).End.To .none)
def bt:List AV:=[Zz,L8,Zz]
def kq(a0:TFunc)(l2:List Ae):List AV:=[(Z6 a0.Params),(Z5 a0.Ret),(vm l2 5502)]
def va(a0:TFunc):List AV:=[(Z6 a0.Params),(Z5 a0.Ret),(AV.list 5 Cg default ([]:List Ae) .exact)]
def xu(a0:TFunc):List AV:=[(Z6 a0.Params),(Z5 a0.Ret),(AV.list 5 Cg default ([]:List Ae) (.own 5502))]
def rz(x6:uQ)(x10:uR)(a0:TFunc)(i1:Int):=([(⟨(x6.2.take x6.1),(x10.2.take x10.1),(⟨(GK a0 i1).End.Kind,(GK a0 i1).End.Arg,(GK a0 i1).End.To⟩:Kb)⟩:Ae)]:List Ae)
def vZ(aa5:List Bool)(a0:TFunc):List MI:=[(3,(.rptr (ZM aa5))),YZ,eW,(14,(UD a0.Blocks)),(bh 15 a0.Blocks.length),(16,L8)]
def nE(aa5:List Bool)(a0:TFunc)(i1:Int):List MI:=[(3,(.rptr (ZM aa5))),YZ,eW,(7,(.ptr 7 0)),(14,(UD a0.Blocks)),(bh 15 a0.Blocks.length),(16,(Z5 i1))]
def Jl(a0:TFunc)(aa5:List Bool):Option TFunc:=
 ((Ac (K0 a0 aa5) ((0:Int),([]:List Ae))).bind (λx14=>(some (⟨a0.Params,a0.Ret,x14⟩:TFunc))))
theorem Y3(h:Jl v0 v33=some v44):sP 48 [(W8 v0),(AV.list 1 eB false v33 .none)] [] (W8 v44) []:=
 sG Tryz.func48 λΓ q=>have hΓ:=q.own;gR q [2,3,4] [2,4] [(3,(.rptr []))] [] trivial (gR q [2,3,4,5] [2,4,5] [(12,(.agg (va v0)))] [] (c1 (show(AVle (.agg [(Z6 v0.Params),(Z5 v0.Ret),Zz]) (.agg (va v0))) from(AVle.agg (.cons (AVle.refl _) (.cons (AVle.refl _) (.cons El .nil)))))) (Af q YJ [4,5] (gLe (st':=⟨(vZ v33 v0),[(4,.row 25 bt),(5,.row 25 (xu v0)),(5502,.tok 5 64 (([]:List Ae).length))],[]⟩) (Le.trans (Bi (st':=⟨(vZ v33 v0),[(4,.row 25 bt),(5,.row 25 (va v0))],[]⟩) YJ [4,5] q) (Le.trans (AY (r:=5) (j:=2) (nm:=5502) (sz':=5) (λi=>Cg (([]:List Ae).getD i default)) 64 rfl rfl (nl rfl) rfl (.inl ⟨rfl,rfl⟩) (λh_=>absurd h_ (by decide))) (Bi (st':=⟨(vZ v33 v0),[(4,.row 25 bt),(5,.row 25 (xu v0)),(5502,.tok 5 64 (([]:List Ae).length))],[]⟩) YJ FZ q))) (tL q h YJ FZ (λu (i1,l2)=>(Cl u [(16,(Z5 i1))] [(5,.row 25 (kq v0 l2)),(Lj 5502 64 l2.length)])) (λu l3=>aG Γ (.exit 0) (Nh [4,5] FZ u [] [(5,.row 25 [(Z6 v0.Params),(Z5 v0.Ret),(vm l3 5502)]),(Lj 5502 64 l3.length)])) (λ⟨i1,l2⟩ y h=>Af q [3,4,5,14,15,16,17] FZ (gC h (λh=>tV q iD [4,5,7,5502] h λh=>tB h λx5 y5 h=>tB h λx6 y6 h=>tC h λc7_ h=>tC h λc8_ h=>tT q iD [4,5,7,22,5502] [⟨[],[(20000,22)],(.vsl 20000 x5.length),(nO 20000 x5),[],[]⟩,⟨[(22,34000)],[],(.vsub 34000 x6.2.length 0 x6.1),[(34000,.arr 4 67 x6.2.length (nF x6))],[],[]⟩] (c2 (Pq y5) (Ot y6)) (tB h λx9 y9 h=>tB h λx10 y10 h=>tC h λc11_ h=>tC h λc12_ h=>tT q iD [4,5,7,22,28,5502] [⟨[],[(20000,28)],(.vsl 20000 x9.length),[(fE 20000 x9)],[],[]⟩,⟨[(28,34000)],[],(.vsub 34000 x10.2.length 0 x10.1),[(34000,.arr 6 70 x10.2.length (fC x10))],[],[]⟩] (c2 (Q0 y9) (Pr y10)) (Qb (⟨(nE v33 v0 i1),[(4,.row 25 bt),(5,.row 25 (kq v0 l2)),(7,.row 64 [(.vsub 22 x6.2.length 0 x6.1),(.vsub 28 x10.2.length 0 x10.1),(.int .i64 (GK v0 i1).End.Kind),(.int .i64 (GK v0 i1).End.Arg),(nG v0 i1)]),(22,.arr 4 67 x6.2.length (nF x6)),(28,.arr 6 70 x10.2.length (fC x10)),(Lj 5502 64 l2.length)],[]⟩:St) (gLe (Le.trans (Le.trans (le_freeze (nm:=22) (sz:=4) (n:=x6.2.length) (e:=67) (f:=(nF x6)) (g:=(nF x6)) rfl ⟨rfl,trivial⟩ (λ_ _=>rfl) (by rw[hΓ];rfl)) (Gt (st':=⟨(nE v33 v0 i1),[(4,.row 25 bt),(5,.row 25 (kq v0 l2)),(7,.row 64 [(.slice 4 (x6.1-0) (λi=>(nF x6) (0+i)) .none),(.vsub 28 x10.2.length 0 x10.1),(.int .i64 (GK v0 i1).End.Kind),(.int .i64 (GK v0 i1).End.Arg),(nG v0 i1)]),(22,.tok 4 67 x6.2.length),(28,.arr 6 70 x10.2.length (fC x10)),(Lj 5502 64 l2.length)],[]⟩) (by kernel_rfl))) (I8 (st':=⟨(nE v33 v0 i1),[(4,.row 25 bt),(5,.row 25 (kq v0 l2)),(7,.row 64 [(AV.list 4 Eo default (x6.2.take x6.1) .none),(.vsub 28 x10.2.length 0 x10.1),(.int .i64 (GK v0 i1).End.Kind),(.int .i64 (GK v0 i1).End.Arg),(nG v0 i1)]),(22,.tok 4 67 x6.2.length),(28,.arr 6 70 x10.2.length (fC x10)),(Lj 5502 64 l2.length)],[]⟩) (.cons (AVle.refl _) (.cons (AVle.refl _) (.cons (AVle.refl _) (.cons (AVle.refl _) (.cons (AVle.refl _) (.cons (AVle.refl _) (.cons (AVle.refl _) .nil))))))) (.same (.same (.row (.cons (np (e:=Eo) (d:=(default:Ba)) (And.intro trivial c7_).2) (.cons (AVle.refl _) (.cons (AVle.refl _) (.cons (AVle.refl _) (.cons (AVle.refl _) .nil))))) (.same (.same (.same .nil)))))))) (gLe (Le.trans (Le.trans (le_freeze (nm:=28) (sz:=6) (n:=x10.2.length) (e:=70) (f:=(fC x10)) (g:=(fC x10)) rfl ⟨rfl,trivial⟩ (λ_ _=>rfl) (by rw[hΓ];rfl)) (Gt (st':=⟨(nE v33 v0 i1),[(4,.row 25 bt),(5,.row 25 (kq v0 l2)),(7,.row 64 [(AV.list 4 Eo default (x6.2.take x6.1) .none),(.slice 6 (x10.1-0) (λi=>(fC x10) (0+i)) .none),(.int .i64 (GK v0 i1).End.Kind),(.int .i64 (GK v0 i1).End.Arg),(nG v0 i1)]),(22,.tok 4 67 x6.2.length),(28,.tok 6 70 x10.2.length),(Lj 5502 64 l2.length)],[]⟩) (by kernel_rfl))) (I8 (st':=⟨(nE v33 v0 i1),[(4,.row 25 bt),(5,.row 25 (kq v0 l2)),(7,.row 64 [(AV.list 4 Eo default (x6.2.take x6.1) .none),(AV.list 6 J6 default (x10.2.take x10.1) .none),(.int .i64 (GK v0 i1).End.Kind),(.int .i64 (GK v0 i1).End.Arg),(nG v0 i1)]),(22,.tok 4 67 x6.2.length),(28,.tok 6 70 x10.2.length),(Lj 5502 64 l2.length)],[]⟩) (.cons (AVle.refl _) (.cons (AVle.refl _) (.cons (AVle.refl _) (.cons (AVle.refl _) (.cons (AVle.refl _) (.cons (AVle.refl _) (.cons (AVle.refl _) .nil))))))) (.same (.same (.row (.cons (AVle.refl _) (.cons (np (e:=J6) (d:=(default:B2)) (And.intro trivial c11_).2) (.cons (AVle.refl _) (.cons (AVle.refl _) (.cons (AVle.refl _) .nil))))) (.same (.same (.same .nil)))))))) (tC h λc13_ h=>gR q YJ FZ (Z60 35 (rz x6 x10 v0 i1) 36 l2 5502) [] (c5 (Bp 5 Cg (default:Ae) (rz x6 x10 v0 i1)) (Eq.refl l2.length) c13_ (Iz 5 5502 Cg (default:Ae) l2 (rz x6 x10 v0 i1)) (E3 l2 (rz x6 x10 v0 i1))) (Af q YJ FZ (tN h)))))))) λh=>tS h (gO (Bd (Bi [4,5] FZ q))))) λx14 h=>gA (Af q [4] [4,5502] (tS h (Cc [])))))))
def Nu :VR->Option zV:=
 λ(s_:VR)=>match s_ with|(l1,i2,l3)=>((Ku (⟨l1,i2,l3⟩:TFunc)).bind λx9=>((Jl (⟨l1,i2,l3⟩:TFunc) x9).bind λx10=>((Ha x10).bind λx11=>((Ha (⟨l1,i2,l3⟩:TFunc)).bind λx12=>(bif (decide (x11<x12)) then(some (.next (x10.Params,x10.Ret,x10.Blocks))) else(some (.done (⟨l1,i2,l3⟩:TFunc))))))))
def bj(Γ:H5)(a0:TFunc)(r:TFunc):Exit->St->Prop:=fK Tryz.prog Γ Tryz.f18.results.toList [] (W8 r) []
def Sb(a0:TFunc):Option TFunc:=
 ((Rw (S:=VR) (X:=TFunc) ((Ls a0).bind λx4=>(bif (!x4) then(some (.done a0)) else((Ku a0).bind λx5=>((Jl a0 x5).bind λx6=>((Ha x6).bind λx7=>((Ha a0).bind λx8=>(bif (decide (x7<x8)) then(some (.next (x6.Params,x6.Ret,x6.Blocks))) else(some (.done a0))))))))) Nu).bind (λx13=>(some x13)))
theorem HR(h:Sb v0=some v44):sP 18 [(W8 v0)] [] (W8 v44) []:=
 sG Tryz.func18 λΓ q=>Af q Ee Ee (tB h λx13 y13 h=>gS y13 (λ(s_:VR)=>match s_ with|(l1,i2,l3)=>0) (λ(s_:VR)=>match s_ with|(l1,i2,l3)=>(⟨[CS,Uk],[(1,.row 25 [(Z6 l1),(Z5 i2),(UD l3)]),(2,.row 25 [Zz,L8,Zz])],[]⟩:St)) (λr_=>aR (bj Γ v0 r_)) (λy h=>tB h λx4 y4 h=>tT q CM Ee [(Z2 x4)] (c1 (Su y4)) (gC h (λh=>Af q [2] [2] (tS h (eY (Ll (H6 [] (Le.refl _ _)))))) λh=>tB h λx5 y5 h=>tB h λx6 y6 h=>tT q GD GD [(xC 10 x5 x5.length),(rC x6)] (c2 (Vx y5) (Y3 y6)) (tB h λx7 y7 h=>tB h λx8 y8 h=>tT q [1,2,3,16] GD [(YY x7),(YY x8)] (c2 (Qz y7) (Qz y8)) (gC h (λh=>Af q Ee Ee (tS h (fc Iq))) λh=>Af q [2] [2] (tS h (eY (Ll (H6 [] (Le.refl _ _))))))))) (λ⟨l1,i2,l3⟩ y h=>tB h λx9 y9 h=>tB h λx10 y10 h=>tT q GD GD [(xC 10 x9 x9.length),(rC x10)] (c2 (Vx y9) (Y3 y10)) (tB h λx11 y11 h=>tB h λx12 y12 h=>tT q [1,2,3,16] GD [(YY x11),(YY x12)] (c2 (Qz y11) (Qz y12)) (gC h (λh=>Af q Ee Ee (tS h (fc Iq))) λh=>Af q [2] [2] (tS h (eY (Ll (H6 [] (Le.refl _ _)))))))) (O2 (λst' hk=>tS h (gK hk))))
def Tx(a0:TFunc):Option TFunc:=
 ((Ty a0).bind λx1=>((Sb x1).bind λx2=>(some x2)))
theorem LT(h:Tx v0=some v44):sP 20 [(W8 v0)] [] (W8 v44) []:=
 sG Tryz.func20 λΓ q=>Af q Ee Ee (tB h λx1 y1 h=>tB h λx2 y2 h=>tT q [2] [2] [(rC x1),(rC x2)] (c2 (LU y1) (HR y2)) (tS h (Cc [])))
def Nv(x2:List Bool):uN->Option (LR (Ar×Int) Ar):=
 λ((l3,i4):uN)=>(bif (decide (i4<(x2.length:Int))) then(Option.bind (α:=Ar) (A0 (A1 i4 x2.length) (bif (x2.getD i4.toNat false) then(A0 (l3.length+([i4]:Ar).length<=room) (some (l3++([i4]:Ar)))) else(some l3))) (λx9=>(some (.next (x9,(w64 (i4+1))))))) else(some (.done l3)))
def kr:AV:=fD
def xx:=(⟨[(2,(z7 6002))],[(6002,.tok 1 3 (([]:Ar).length))],[]⟩:St)
def xw(x2:List Bool):=(⟨[(3,(z7 5003)),(10,(NJ x2 10)),(bh 11 x2.length),(12,L8)],[(Q8 10 x2.length),(5003,.tok 1 3 (([]:Ar).length))],[]⟩:St)
def Sc(a0:TFunc):Option Ar:=
 ((Ls a0).bind λx1=>(bif (!x1) then(some ([]:Ar)) else((Ku a0).bind λx2=>((Ac (Nv x2) (([]:Ar),(0:Int))).bind (λx11=>(some x11))))))
theorem HS(h:Sc v0=some v2):sP 14 [(W8 v0)] [] (V7 v2 20000) [(Ys 20000 v2.length)]:=
 sG Tryz.func14 λΓ q=>gR q [1] [1] [(2,kr)] [] (c1 (B0 1 Ap (0:Int))) (tB h λx1 y1 h=>tT q [1,8] [1] [(Z2 x1)] (c1 (Su y1)) (gC h (λh=>gR q [2] [] [(2,kr)] [] (c1 (B0 1 Ap (0:Int))) (Qb (⟨[(2,kr)],[],[]⟩:St) (tS h (gK (e:=.ret) (H6 [(6002,20000)] (show Le Γ _ xx from Le.trans (Bi (st':=⟨[(2,kr)],[],[]⟩) [2] [] q) (Le.trans (Rl (t:=2) (nm:=6002) (sz':=1) (λi=>Ap (([]:Ar).getD i 0)) 3 rfl rfl (.inl ⟨rfl,rfl⟩) (λh_=>absurd h_ (by decide))) (Bi (st':=xx) [2] [6002] q)))))))) λh=>gR q L6 [1] [(3,kr)] [] (c1 (B0 1 Ap (0:Int))) (tB h λx2 y2 h=>tT q CQ [10] [(xC 10 x2 x2.length)] (c1 (Vx y2)) (gLe (st':=(xw x2)) (Le.trans (Bi (st':=⟨[(3,kr),(10,(NJ x2 10)),(bh 11 x2.length),(12,L8)],[(Q8 10 x2.length)],[]⟩) CQ [10] q) (Le.trans (Rl (t:=3) (nm:=5003) (sz':=1) (λi=>Ap (([]:Ar).getD i 0)) 3 rfl rfl (.inl ⟨rfl,rfl⟩) (λh_=>absurd h_ (by decide))) (Bi (st':=(xw x2)) CQ CL q))) (tL q h CQ CL (λu (l3,i4)=>(Cl u [(3,(V7 l3 5003)),(12,(Z5 i4))] [(Ys 5003 l3.length)])) (λu l5=>aG Γ (.exit 0) (⟨[(3,(V7 l5 5003))],[(Ys 5003 l5.length)],[]⟩:St)) (λ⟨l3,i4⟩ y h=>Af q [3,10,11,12,13] CL (gC h (λh=>tB h λx9 y9 h=>gJ y9 (λl6=>aG Γ .normal (⟨[(3,(V7 l6 5003)),(10,(NJ x2 10)),(bh 11 x2.length),(12,(Z5 i4))],[(Q8 10 x2.length),(Ys 5003 l6.length)],[]⟩:St)) (λy h=>tV q [3,4,5,10,11,12] CL h λh=>Af q [3,4,10,11,12,17] CL (gC h (λh=>tC h λc8_ h=>gR q CQ CL (vf 20 i4 21 l3 5003) [] (c5 (Bp 1 Ap (0:Int) ([i4]:Ar)) (Eq.refl l3.length) c8_ (Iz 1 5003 Ap (0:Int) l3 ([i4]:Ar)) (E3 l3 ([i4]:Ar))) (tS h (gK (Bd Iq)))) λh=>tS h (gK (Bd (Bi CQ CL q))))) (gA (Af q CQ CL (tN h)))) λh=>tS h (gO (Bd (Bi [3] [5003] q))))) λx11 h=>gA (Af q [2] [5003] (tS h (Cc bW))))))))
def F5:List B2:=([(⟨(0:Int),(8:Int),(1:Int),(1:Int),([]:Ar),(7:Int)⟩:B2),(⟨(0:Int),(8:Int),(1:Int),(2:Int),([]:Ar),(8:Int)⟩:B2)]:List B2)
def Dd:List Ae:=([(⟨([]:List Ba),F5,(⟨(1:Int),(0:Int),([(1:Int)]:Ar)⟩:Kb)⟩:Ae),(⟨([(⟨(8:Int),(3:Int),([(0:Int)]:Ar),([(1:Int)]:Ar)⟩:Ba)]:List Ba),([]:List B2),(⟨(0:Int),(3:Int),([]:Ar)⟩:Kb)⟩:Ae)]:List Ae)
def GL:AV:=L8
def bu:AV:=uc
def ks:AV:=Zz
def vb(x4:Bool)(x1:TFunc):=(bif (bif (bif x4 then((x1.Blocks.length:Int)==1) else false) then(((x1.Blocks.getD (0:Int).toNat (default:Ae)).End.Arg:Int)==1) else false) then((((x1.Blocks.getD (0:Int).toNat (default:Ae)).Ops).length:Int)==2) else false)
def Aag(x2:TFunc):=((x2.Blocks.length:Int)==1)
def nH(x4:Bool)(x1:TFunc)(x2:TFunc):=(bif (vb x4 x1) then(Aag x2) else false)
def ON:AV:=fD
def xz(x2:TFunc):=((((x2.Blocks.getD (0:Int).toNat (default:Ae)).Ops).length:Int)==1)
def vd(x4:Bool)(x1:TFunc)(x2:TFunc):=((bif (nH x4 x1 x2) then(xz x2) else false)==true)
def Aas:=(⟨([]:Ar),(8:Int),Dd⟩:TFunc)
def sA:AV:=(AV.list 5 Cg default Dd .exact)
def yA(x4:Bool)(x1:TFunc):=((bif x4 then((x1.Blocks.length:Int)==1) else false)==true)
def r9:AV:=(AV.list 4 Eo default ([(⟨(8:Int),(3:Int),([(0:Int)]:Ar),([(1:Int)]:Ar)⟩:Ba)]:List Ba) .exact)
def xy(x4:Bool)(x1:TFunc):=((bif (bif x4 then((x1.Blocks.length:Int)==1) else false) then(((x1.Blocks.getD (0:Int).toNat (default:Ae)).End.Arg:Int)==1) else false)==true)
def yB:AV:=(.agg [(AV.list 4 Eo default ([]:List Ba) .exact),(AV.list 6 J6 default F5 .exact),bu,GL,zy])
def m_locksteplaw16_awake :Option Bool:=
 ((Ty (⟨([]:Ar),(8:Int),Dd⟩:TFunc)).bind λx1=>((Tx (⟨([]:Ar),(8:Int),Dd⟩:TFunc)).bind λx2=>((Sc (⟨([]:Ar),(8:Int),Dd⟩:TFunc)).bind λx3=>((Dp x3 ([(1:Int),(3:Int)]:Ar)).bind λx4=>(A0 (((bif x4 then((x1.Blocks.length:Int)==1) else false)==true)=true->(A1 (0:Int) x1.Blocks.length)) (A0 (((bif (bif x4 then((x1.Blocks.length:Int)==1) else false) then(((x1.Blocks.getD (0:Int).toNat (default:Ae)).End.Arg:Int)==1) else false)==true)=true->(A1 (0:Int) x1.Blocks.length)) (A0 (((bif (bif (bif (bif x4 then((x1.Blocks.length:Int)==1) else false) then(((x1.Blocks.getD (0:Int).toNat (default:Ae)).End.Arg:Int)==1) else false) then((((x1.Blocks.getD (0:Int).toNat (default:Ae)).Ops).length:Int)==2) else false) then((x2.Blocks.length:Int)==1) else false)==true)=true->(A1 (0:Int) x2.Blocks.length)) ((bif ((bif (bif (bif (bif (bif x4 then((x1.Blocks.length:Int)==1) else false) then(((x1.Blocks.getD (0:Int).toNat (default:Ae)).End.Arg:Int)==1) else false) then((((x1.Blocks.getD (0:Int).toNat (default:Ae)).Ops).length:Int)==2) else false) then((x2.Blocks.length:Int)==1) else false) then((((x2.Blocks.getD (0:Int).toNat (default:Ae)).Ops).length:Int)==1) else false)==true) then Sb (⟨([]:Ar),(8:Int),Dd⟩:TFunc) else some (default:TFunc)).bind λx8=>(some (bif (bif (bif (bif (bif (bif x4 then((x1.Blocks.length:Int)==1) else false) then(((x1.Blocks.getD (0:Int).toNat (default:Ae)).End.Arg:Int)==1) else false) then((((x1.Blocks.getD (0:Int).toNat (default:Ae)).Ops).length:Int)==2) else false) then((x2.Blocks.length:Int)==1) else false) then((((x2.Blocks.getD (0:Int).toNat (default:Ae)).Ops).length:Int)==1) else false) then((x8.Blocks.length:Int)==2) else false))))))))))
theorem X2  (r:Bool) (h:m_locksteplaw16_awake=some r):sP 10 [] [] (.bool r) []:=
 sG Tryz.func10 λΓ q=>Af q [] [] (gR q [1] [1] [(6,(Z96 GL bu ON))] [] (c1 (show(AVle (Z96 GL bu ks) (Z96 GL bu ON)) from(AVle.agg (.cons (AVle.refl _) (.cons (AVle.refl _) (.cons (AVle.refl _) (.cons (AVle.refl _) (.cons El (.cons (AVle.refl _) .nil))))))))) (gR q Ee Ee [(7,(Z78 GL bu ON))] [] (c1 (show(AVle (Z78 GL bu ks) (Z78 GL bu ON)) from(AVle.agg (.cons (AVle.refl _) (.cons (AVle.refl _) (.cons (AVle.refl _) (.cons (AVle.refl _) (.cons El (.cons (AVle.refl _) .nil))))))))) (gR q [3] [3] [(10,(AV.list 6 J6 default F5 .exact)),(11,zy),(13,yB),(14,(AV.list 1 Ap 0 ([(0:Int)]:Ar) .exact)),(15,zy),(17,r9),(18,(.agg [GL,(.int .i64 (3:Int)),ON])),(19,(.agg [r9,yO,GL,(.int .i64 (3:Int)),ON])),(20,sA),(21,(.agg [ON,(.int .i64 (8:Int)),sA]))] [] (d9_ (Bp 6 J6 (default:B2) F5) (Bp 1 Ap (0:Int) ([(1:Int)]:Ar)) (show(AVle (.agg [ks,(AV.list 6 J6 default F5 .exact),bu,GL,zy]) yB) from(AVle.agg (.cons El (.cons (AVle.refl _) (.cons (AVle.refl _) (.cons (AVle.refl _) (.cons (AVle.refl _) .nil))))))) (Bp 1 Ap (0:Int) ([(0:Int)]:Ar)) (Bp 1 Ap (0:Int) ([(1:Int)]:Ar)) (Bp 4 Eo (default:Ba) ([(⟨(8:Int),(3:Int),([(0:Int)]:Ar),([(1:Int)]:Ar)⟩:Ba)]:List Ba)) (show(AVle (.agg [GL,(.int .i64 (3:Int)),ks]) (.agg [GL,(.int .i64 (3:Int)),ON])) from(AVle.agg (.cons (AVle.refl _) (.cons (AVle.refl _) (.cons El .nil))))) (show(AVle (.agg [r9,ks,GL,(.int .i64 (3:Int)),ON]) (.agg [r9,yO,GL,(.int .i64 (3:Int)),ON])) from(AVle.agg (.cons (AVle.refl _) (.cons El (.cons (AVle.refl _) (.cons (AVle.refl _) (.cons (AVle.refl _) .nil))))))) (Bp 5 Cg (default:Ae) Dd) (c1 (show(AVle (.agg [ks,(.int .i64 (8:Int)),sA]) (.agg [ON,(.int .i64 (8:Int)),sA])) from(AVle.agg (.cons El (.cons (AVle.refl _) (.cons (AVle.refl _) .nil))))))) (tB h λx1 y1 h=>tT q Yo Yo [(rC x1)] (c1 (LU y1)) (tB h λx2 y2 h=>tT q [3,4,5] [3,4,5] [(rC x2)] (c1 (LT y2)) (tB h λx3 y3 h=>tB h λx4 y4 h=>tC h λc5_ h=>tC h λc6_ h=>tC h λc7_ h=>tB h λx8 y8 h=>gR q [0] [] [(28,(AV.list 1 Ap 0 ([(1:Int),(3:Int)]:Ar) .exact))] [(vi 27 x3 x3.length),(Z2 x4),(rC x8)] (ZK (HS y3) (Bp 1 Ap (0:Int) ([(1:Int),(3:Int)]:Ar)) (J2 y4) (Vl (x4==true) (ci (Ng x4) (M3 (yA x4 x1) (ci c5_ (ZP (yA x4 x1) (ci (Ng (bif x4 then((x1.Blocks.length:Int)==1) else false)) (M3 (xy x4 x1) (ci c6_ (ZP (xy x4 x1) (ci (Ng (bif (bif x4 then((x1.Blocks.length:Int)==1) else false) then(((x1.Blocks.getD (0:Int).toNat (default:Ae)).End.Arg:Int)==1) else false)) (Vl ((vb x4 x1)==true) (ci (Ng (vb x4 x1)) (M3 ((nH x4 x1 x2)==true) (ci c7_ (ZP ((nH x4 x1 x2)==true) (ZK (Ng (nH x4 x1 x2)) (gI (vd x4 x1 x2)) (λ(hg:(vd x4 x1 x2)=true)=>(HR (Bq hg y8))) (Vl (vd x4 x1 x2) (c1 (Ng (bif (nH x4 x1 x2) then(xz x2) else false))))))))))))))))))))) (tS h (Cc []))))))))
open Go Go.RowKit
set_option maxRecDepth 100000
set_option maxHeartbeats 2000000
def Ea(x4:TFunc)(x5:Ar)(i7:Int):Int->Option (LR Int (Unit ⊕ Bool)):=
 λ(i9:Int)=>(bif (decide (i9<(((x4.Blocks.getD i7.toNat default).Phis).length:Int))) then(A0 (A1 i9 ((x4.Blocks.getD i7.toNat default).Phis).length) ((Cj x5 ((((x4.Blocks.getD i7.toNat default).Phis).getD i9.toNat default).Dst)).bind λx11=>(bif (!x11) then(some (.done (.inr false))) else(some (.next (w64 (i9+1))))))) else(some (.done (.inl ()))))
def Eb(x4:TFunc)(x5:Ar)(i7:Int):Int->Option (LR Int (Unit ⊕ Bool)):=
 λ(i14:Int)=>(bif (decide (i14<(((x4.Blocks.getD i7.toNat default).Ops).length:Int))) then(A0 (A1 i14 ((x4.Blocks.getD i7.toNat default).Ops).length) ((Sa ((((x4.Blocks.getD i7.toNat default).Ops).getD i14.toNat default).Kind)).bind λx16=>(A0 ((x16==true)=true->(A1 i14 ((x4.Blocks.getD i7.toNat default).Ops).length)) ((bif (x16==true) then Cj x5 ((((x4.Blocks.getD i7.toNat default).Ops).getD i14.toNat default).Dst) else some false).bind λx18=>(bif (bif x16 then(!x18) else false) then(some (.done (.inr false))) else(some (.next (w64 (i14+1))))))))) else(some (.done (.inl ()))))
def Ec(x4:TFunc)(x5:Ar)(x6:kB):Int->Option (LR Int (Unit ⊕ Bool)):=
 λ(i7:Int)=>(bif (decide (i7<(x4.Blocks.length:Int))) then(A0 (A1 i7 x4.Blocks.length) ((Ac (Ea x4 x5 i7) (0:Int)).bind (λx12=>(match x12 with|(.inl _)=>((Ac (Eb x4 x5 i7) (0:Int)).bind (λx19=>(match x19 with|(.inl _)=>(A0 (((((x4.Blocks.getD i7.toNat default).End.Kind:Int)==1)==true)=true->(A1 (0:Int) ((x4.Blocks.getD i7.toNat default).End.To).length)) (A0 (((bif (((x4.Blocks.getD i7.toNat default).End.Kind:Int)==1) then((((x4.Blocks.getD i7.toNat default).End.To).getD (0:Int).toNat (0:Int))!=i7) else false)==true)=true->(A1 (0:Int) ((x4.Blocks.getD i7.toNat default).End.To).length)) (A0 (((bif (((x4.Blocks.getD i7.toNat default).End.Kind:Int)==1) then((((x4.Blocks.getD i7.toNat default).End.To).getD (0:Int).toNat (0:Int))!=i7) else false)==true)=true->(A1 (((x4.Blocks.getD i7.toNat default).End.To).getD (0:Int).toNat (0:Int)) x6.1.Pred.length)) (bif (bif (bif (((x4.Blocks.getD i7.toNat default).End.Kind:Int)==1) then((((x4.Blocks.getD i7.toNat default).End.To).getD (0:Int).toNat (0:Int))!=i7) else false) then(((x6.1.Pred.getD (((x4.Blocks.getD i7.toNat default).End.To).getD (0:Int).toNat (0:Int)).toNat []).length:Int)==1) else false) then(some (.done (.inr false))) else(some (.next (w64 (i7+1))))))))|(.inr r24)=>(some (.done (.inr r24))))))|(.inr r25)=>(some (.done (.inr r25))))))) else(some (.done (.inl ()))))
def K7(Γ:H5)(a0:TFunc)(r:Bool):Exit->St->Prop:=fK Tryz.prog Γ Tryz.f6.results.toList [] (.bool r) []
def yD(x4:TFunc)(i7:Int):=((((x4.Blocks.getD i7.toNat default).End.Kind:Int)==1)==true)
def sB(x4:TFunc)(i7:Int):=(bif (((x4.Blocks.getD i7.toNat default).End.Kind:Int)==1) then((((x4.Blocks.getD i7.toNat default).End.To).getD (0:Int).toNat (0:Int))!=i7) else false)
def Lb(a0:TFunc):Option Bool:=
 (m_locksteplaw16_awake.bind λx1=>(bif (!x1) then(some false) else((D8 a0).bind λx2=>((bif ((!x2)==false) then D7 a0 (2:Int) else some (0:Int)).bind λx3=>(bif (bif (!x2) then true else(x3 !=0)) then(some true) else((Tx a0).bind λx4=>((Sc x4).bind λx5=>((Hs x4).bind λx6=>(bif (x6.2 !=0) then(some false) else((Ac (Ec x4 x5 x6) (0:Int)).bind (λx26=>(match x26 with|(.inl _)=>(some true)|(.inr r28)=>(some r28)))))))))))))
theorem ok_locksteplaw16_TidyNone(a0:TFunc)(r:Bool)(h:Lb a0=some r):sP 6 [(W8 a0)] [] (.bool r) []:=
 sG Tryz.func6 λΓ q=>Af q [1] [1] (tB h λx1 y1 h=>tT q [1,12] [1] [(Z2 x1)] (c1 (X2  x1 y1)) (gC h (λh=>Af q [2] [] (tS h (Cc []))) λh=>tB h λx2 y2 h=>tB h λx3 y3 h=>tT q [1,20] [1] [(Z2 x2),(YY x3)] (c5 (X9 y2) (gI ((!x2)==false)) (λ(hg:((!x2)==false)=true)=>(X8 (Bq hg y3))) (gI ((!x2)==false)) (Nf (!x2))) (gC h (λh=>Af q [2] [] (tS h (Cc []))) λh=>tB h λx4 y4 h=>tT q [3] [3] [(rC x4)] (c1 (LT y4)) (tB h λx5 y5 h=>tT q Yo [3,24] [(vi 24 x5 x5.length)] (c1 (HS y5)) (tB h λx6 y6 h=>tT q [3,4,5,6] GC [(vk x6.1 x6.2)] (c1 (Oq y6)) (Af q [3,4,5,31] GC (gC h (λh=>Af q [2] [] (tS h (Cc []))) λh=>Af q [3,4,5,7] GC (tL q h [3,4,5,7] GC (λu i7=>(Cl u [(7,(Z5 i7))] [])) (λu x_=>match x_ with|(.inl _)=>aG Γ (.exit 0) (⟨[],[],[]⟩:St)|(.inr r_)=>aR (K7 Γ a0 r_)) (λi7 y h=>Af q [3,4,5,7,36] GC (gC h (λh=>tV q TJ Ui h λh=>Af q iM Ui (tL q h iM Ui (λu i9=>(Cl u [(9,(Z5 i9))] [])) (λu x_=>match x_ with|(.inl _)=>aG Γ (.exit 2) (Nh TJ Ui u [] [])|(.inr r_)=>aR (K7 Γ a0 r_)) (λi9 y h=>Af q [3,4,5,7,8,9,48] Ui (gC h (λh=>tC h λc10_ h=>tB h λx11 y11 h=>tT q [3,4,5,7,8,9,59] Ui [(Z2 x11)] (c2 c10_ (H3 y11)) (gC h (λh=>Af q [2] [] (tS h (gO (Ll (H6 [] (Le.refl _ _)))))) λh=>Af q iM Ui (tN h))) λh=>tS h (gO (Bd (Bi TJ Ui q))))) λx12 h=>(match x12,h with | .inl _,h=>gA (Af q iI Ui (tL q h iI Ui (λu i14=>(Cl u [(10,(Z5 i14))] [])) (λu x_=>match x_ with|(.inl _)=>aG Γ (.exit 4) (Nh TJ Ui u [] [])|(.inr r_)=>aR (K7 Γ a0 r_)) (λi14 y h=>Af q [3,4,5,7,8,10,64] Ui (gC h (λh=>tC h λc15_ h=>tB h λx16 y16 h=>tC h λc17_ h=>tB h λx18 y18 h=>tT q [3,4,5,7,8,10,84] Ui [(Z2 x16),(Z2 x18)] (eX c15_ (Zp y16) (Vl (x16==true) (ci c17_ (ZP (x16==true) (c3 (λ(hg:(x16==true)=true)=>(H3 (Bq hg y18))) (gI (x16==true)) (Ng x16)))))) (gC h (λh=>Af q [2] [] (tS h (gO (Ll (H6 [] (Le.refl _ _)))))) λh=>Af q iI Ui (tN h))) λh=>tS h (gO (Bd (Bi TJ Ui q))))) λx19 h=>(match x19,h with | .inl _,h=>gA (tC h λc21_ h=>tC h λc22_ h=>tC h λc23_ h=>tU q [3,4,5,7,110] GC (Vl (yD x4 i7) (ci c21_ (Vl (yD x4 i7) (ci (Ng (((x4.Blocks.getD i7.toNat default).End.Kind:Int)==1)) (ZP ((sB x4 i7)==true) (ci c22_ (Vl ((sB x4 i7)==true) (ci c23_ (Vl ((sB x4 i7)==true) (c1 (Ng (sB x4 i7)))))))))))) (gC h (λh=>Af q [2] [] (tS h (gO (Ll (H6 [] (Le.refl _ _)))))) λh=>Af q [3,4,5,7] GC (tN h))) | .inr r24,h=>O2 (λst' hk=>tS h (gO (Ll hk)))))) | .inr r25,h=>O2 (λst' hk=>tS h (gO (Ll hk)))))) λh=>tS h (gO (Bd (Bi [] [] q))))) λx26 h=>(match x26,h with | .inl _,h=>gA (Af q [2] [] (tS h (Cc []))) | .inr r28,h=>O2 (λst' hk=>tS h (gK hk)))))))))))
theorem He{n:Int}(h:-9223372036854775808<=n)(h':n<9223372036854775808):w64 n=n:=by
 show IntKind.i64.wrap n=n
 simp only[IntKind.wrap,IntKind.bits,IntKind.signed]
 simp
 split<;>omega
theorem IC{n:Int}(h:0<=n)(h':n<18446744073709551616):Iu n=n:=by
 show IntKind.u64.wrap n=n
 simp[IntKind.wrap,IntKind.bits,IntKind.signed];omega
theorem qO(n:Int):Iu n=n % 18446744073709551616:=by
 show IntKind.u64.wrap n=_
 simp[IntKind.wrap,IntKind.bits,IntKind.signed]
theorem Aa{R:Type}{p:Prop}[Decidable p]{k:Option R}(h:p):A0 p k=k:=if_pos h
theorem MB{S X:Type}(f:S->Option (LR S X))(s:S):Rw (f s) f=Ac f s:=by
 unfold Rw
 cases h:f s with
 | none=>rw[Option.bind_none,Xs h]
 | some y=>cases y with
  | next s'=>rw[Aq h];rfl
  | done x=>rw[Am h];rfl
theorem oZ{x:Int}(j:Nat):x.fdiv (2 ^ j)=x / 2 ^ j:=by rw[Int.fdiv_eq_ediv_of_nonneg _ (by exact Int.le_of_lt (Int.pow_pos (by decide)))]
theorem Ab{α:Type}(l:List α)(i:Nat)(d:α)(h:i<l.length):l.getD i d=l[i]:=by simp[List.getD,h]
theorem kinds(k:Int):k=0\/k=1\/k=2\/k=3\/k=4\/k=5\/k=6\/k=7\/k=8\/k=9\/k=10\/k=11\/k=12\/k=13\/k=14\/k=15\/k=16\/k=17\/k=18\/k=19\/k=20\/k=21\/k=22\/(k<0\/22<k):=by omega
theorem gZ{k:Int}(h:k<0\/22<k):(k==0)=false/\(k==1)=false/\(k==2)=false/\(k==3)=false/\(k==4)=false/\(k==5)=false/\(k==6)=false/\(k==7)=false/\(k==8)=false/\(k==9)=false/\(k==10)=false/\(k==11)=false/\(k==12)=false /\
  (k==13)=false/\(k==14)=false/\(k==15)=false/\(k==16)=false/\(k==17)=false/\(k==18)=false/\(k==19)=false/\(k==20)=false/\(k==21)=false/\(k==22)=false:=by
 simp only[zzL29];omega
def widthB(b:Int):Bool:=b==1 || b==8 || b==16 || b==32 || b==64
def Xq(b n:Int):Bool:=widthB b&&(n==1 || ((n==2 || n==4 || n==8 || n==16)&&decide (8<=b)&&decide (b*n<=128)))
theorem width_cases{b:Int}(h:widthB b=true):b=1\/b=8\/b=16\/b=32\/b=64:=by simp[widthB]at h;omega
theorem BX{b n:Int}(h:Xq b n=true):widthB b=true:=by simp[Xq]at h;exact h.1
theorem shape_lanes{b n:Int}(h:Xq b n=true):n=1\/n=2\/n=4\/n=8\/n=16:=by simp[Xq]at h;omega
theorem Ww(b:Int):Lc b=some (widthB b):=by
 unfold Lc widthB
 by_cases h1:b=1
 ·subst h1;rfl
 by_cases h2:b=8
 ·subst h2;rfl
 by_cases h3:b=16
 ·subst h3;rfl
 by_cases h4:b=32
 ·subst h4;rfl
 by_cases h5:b=64
 ·subst h5;rfl
 have e1:(b==1)=false:=by simpa using h1
 have e2:(b==8)=false:=by simpa using h2
 have e3:(b==16)=false:=by simpa using h3
 have e4:(b==32)=false:=by simpa using h4
 have e5:(b==64)=false:=by simpa using h5
 simp[e1,e2,e3,e4,e5]
theorem Sg(b:Int):Da b=some (widthB b):=by
 cases(b==1)<;>cases(b==8)<;>cases(b==16)<;>cases(b==32)<;>rfl
theorem fp(b n:Int):Td b n=some (Xq b n):=by
 unfold Td;simp only[Ww,An]
 by_cases hn:n=1\/n=2\/n=4\/n=8\/n=16
 ·cases hw:widthB b with
  | false=>rcases hn with rfl|rfl|rfl|rfl|rfl<;>simp[Xq,hw]
  | true=>
   rcases width_cases hw with rfl|rfl|rfl|rfl|rfl<;>rcases hn with rfl|rfl|rfl|rfl|rfl<;>rfl
 ·have e1:(n==1)=false:=by simp;omega
  have e2:(n==2)=false:=by simp;omega
  have e3:(n==4)=false:=by simp;omega
  have e4:(n==8)=false:=by simp;omega
  have e5:(n==16)=false:=by simp;omega
  simp[Xq,e1,e2,e3,e4,e5]
theorem lx(b n:Int):Jy b n=some (Xq b n):=by
 unfold Jy;simp only[Sg,An]
 cases hw:widthB b with
 | false=>simp[Xq,hw]
 | true=>
  by_cases hn:n=1\/n=2\/n=4\/n=8\/n=16
  ·rcases width_cases hw with rfl|rfl|rfl|rfl|rfl<;>rcases hn with rfl|rfl|rfl|rfl|rfl<;>rfl
  ·have e1:(n==1)=false:=by simp;omega
   have e2:(n==2)=false:=by simp;omega
   have e3:(n==4)=false:=by simp;omega
   have e4:(n==8)=false:=by simp;omega
   have e5:(n==16)=false:=by simp;omega
   simp[Xq,e1,e2,e3,e4,e5]
theorem qN{v b:Int}(hv:0<=v/\v<18446744073709551616)(hb:widthB b=true):Xv v b=some (v % 2 ^ b.toNat):=by
 unfold Xv;simp only[Ww,hb,An,D6,Au]
 have key:∀ j:Nat,j<64->Wu .u64 (RW .u64 v (j:Int)) (j:Int)=(v*2 ^ j % 18446744073709551616) / 2 ^ j:=λj hj=>by
  simp only[Wu,RW,Dy,IntKind.bits];rw[Nat.min_eq_left (by omega),oZ,show IntKind.u64.wrap (v*2 ^ j)=v*2 ^ j % 18446744073709551616 from qO _]
 rcases width_cases hb with rfl|rfl|rfl|rfl|rfl
 ·have:=key 63 (by decide);simp only[show w64 (64-1)=((63:Nat):Int) from rfl,this];rw[Aa (by decide),Aa (by decide)];congr 1;simp only[show((1:Int).toNat)=1 from rfl];omega
 ·have:=key 56 (by decide);simp only[show w64 (64-8)=((56:Nat):Int) from rfl,this];rw[Aa (by decide),Aa (by decide)];congr 1;simp only[show((8:Int).toNat)=8 from rfl];omega
 ·have:=key 48 (by decide);simp only[show w64 (64-16)=((48:Nat):Int) from rfl,this];rw[Aa (by decide),Aa (by decide)];congr 1;simp only[show((16:Int).toNat)=16 from rfl];omega
 ·have:=key 32 (by decide);simp only[show w64 (64-32)=((32:Nat):Int) from rfl,this];rw[Aa (by decide),Aa (by decide)];congr 1;simp only[show((32:Int).toNat)=32 from rfl];omega
 ·have:=key 0 (by decide);simp only[show w64 (64-64)=((0:Nat):Int) from rfl,this];rw[Aa (by decide),Aa (by decide)];congr 1;simp only[show((64:Int).toNat)=64 from rfl];omega
theorem th{v b:Int}(hv:0<=v/\v<18446744073709551616)(hb:widthB b=true):Ln v b=some (v % 2 ^ b.toNat):=by
 unfold Ln;simp only[Sg,hb,An,D6,Au];rcases width_cases hb with rfl|rfl|rfl|rfl|rfl
 ·rw[show((1:Int)==64)=false from rfl,Au,Aa (by decide),Aa (by decide),show RW .u64 (1:Int) (Iu 1)=2 ^ (1:Int).toNat from rfl,Int.tmod_eq_emod_of_nonneg hv.1]
 ·rw[show((8:Int)==64)=false from rfl,Au,Aa (by decide),Aa (by decide),show RW .u64 (1:Int) (Iu 8)=2 ^ (8:Int).toNat from rfl,Int.tmod_eq_emod_of_nonneg hv.1]
 ·rw[show((16:Int)==64)=false from rfl,Au,Aa (by decide),Aa (by decide),show RW .u64 (1:Int) (Iu 16)=2 ^ (16:Int).toNat from rfl,Int.tmod_eq_emod_of_nonneg hv.1]
 ·rw[show((32:Int)==64)=false from rfl,Au,Aa (by decide),Aa (by decide),show RW .u64 (1:Int) (Iu 32)=2 ^ (32:Int).toNat from rfl,Int.tmod_eq_emod_of_nonneg hv.1]
 ·rw[show((64:Int)==64)=true from rfl,Ah]
  congr 1
  simp only[show((64:Int).toNat)=64 from rfl];omega
theorem ZW{i:Int}(h:0<=i/\i<18446744073709551616):Nt i=some (widthB i):=by
 unfold Nt
 by_cases hi:i<=64
 ·have:w64 i=i:=He (by omega) (by omega);simp[hi,this,Ww]
 ·have:widthB i=false:=by simp[widthB];omega
  simp[hi,this]
def fj(k:Int):Bool:=decide (0<=k)&&decide (k<=22)
def Se(k n:Int):Int:=
 bif k==0 then 0 else bif k==13 || k==18 || k==19 then 3 else bif k==14 || k==15 || k==16 || k==22 then 1 else bif k==20 then 4 else bif k==21 then n else 2
def sfitS(k b n:Int):Bool:=
 bif k==16 || k==17 then decide (8<=b) else bif k==18 || k==19 then decide (8<=b)&&n==1 else
 bif k==4 || k==10 || k==11 || k==12 || k==14 || k==15 || k==20 then n==1 else bif k==21 || k==22 then decide (1<n) else true
def ifitS(k b n i:Int):Bool:=
 bif k==0 then i % 2 ^ b.toNat==i else bif k==14 then widthB i&&decide (i<b) else bif k==15 then widthB i&&decide (b<i) else bif k==22 then decide (i<n) else i==0
def valS(v:Int):Bool:=decide (1<=v)&&decide (v<=1023)
def dstS(k d:Int):Bool:=bif k==17 || k==19 then d==0 else valS d
def Gs(o:B2):Bool:=Xq o.Bits o.Lanes&&(fj o.Kind&&sfitS o.Kind o.Bits o.Lanes&&ifitS o.Kind o.Bits o.Lanes o.Imm&&((o.Args.length:Int)==Se o.Kind o.Lanes))&&(o.Args.all valS&&dstS o.Kind o.Dst)
def PG(o:B2)(i:Nat):Int×Int:=
 bif o.Kind==13 || o.Kind==20 then(bif Nat.beq i 0 then(1,1) else(o.Bits,o.Lanes)) else bif o.Kind==14 || o.Kind==15 then(w64 o.Imm,1) else
 bif o.Kind==16 || o.Kind==17 then(bif Nat.beq i 0 then(64,1) else(o.Bits,o.Lanes)) else
 bif o.Kind==18 || o.Kind==19 then(bif Nat.beq i 1 then(64,1) else bif Nat.beq i 0 then(1,1) else(o.Bits,o.Lanes)) else bif o.Kind==21 then(o.Bits,1) else(o.Bits,o.Lanes)
def Rx(o:B2):List (Int×Int):=(List.range (Se o.Kind o.Lanes).toNat).map (PG o)
def Xo(k b n:Int):Int×Int:=bif k==17 || k==19 then(0,0) else bif k==10 || k==11 || k==12 then(1,1) else bif k==22 then(b,1) else(b,n)
def jp(k:Int):Bool:=fj k&&!(k==4 || k==16 || k==17 || k==18 || k==19 || k==20)
theorem HC{k:Int}(h:k<0\/22<k):fj k=false:=by simp[fj];omega
theorem cm(k:Int):O3 k=some (fj k):=by unfold O3 fj;cases decide ((0:Int)<=k)<;>rfl
theorem Xp(v:Int):Ns v=some (valS v):=by unfold Ns valS;cases decide ((1:Int)<=v)<;>rfl
theorem DO(v:Int):Fi v=some (valS v):=by
 unfold Fi valS
 have e1:decide ((0:Int)<v)=decide (1<=v):=by congr 1
 have e2:decide (v<(1024:Int))=decide (v<=1023):=by apply zzL76.2;omega
 rw[e1,e2]
 cases decide ((1:Int)<=v)<;>rfl
theorem PV(o:B2):Oe o=some (sfitS o.Kind o.Bits o.Lanes):=by
 obtain⟨k,b,n,d,args,i⟩:=o;rcases kinds k with rfl|rfl|rfl|rfl|rfl|rfl|rfl|rfl|rfl|rfl|rfl|rfl|rfl|rfl|rfl|rfl|rfl|rfl|rfl|rfl|rfl|rfl|rfl|h
 any_goals rfl
 ·show some (bif decide (8<=b) then n==1 else false)=some (decide (8<=b)&&n==1);cases decide (8<=b)<;>rfl
 ·show some (bif decide (8<=b) then n==1 else false)=some (decide (8<=b)&&n==1);cases decide (8<=b)<;>rfl
 ·unfold Oe sfitS;simp[gZ h]
theorem PU(o:B2):Qt o=some (Xo o.Kind o.Bits o.Lanes):=by
 obtain⟨k,b,n,d,args,i⟩:=o;rcases kinds k with rfl|rfl|rfl|rfl|rfl|rfl|rfl|rfl|rfl|rfl|rfl|rfl|rfl|rfl|rfl|rfl|rfl|rfl|rfl|rfl|rfl|rfl|rfl|h
 any_goals rfl
 unfold Qt Xo;simp[gZ h]
theorem ZV(o:B2)(hw:widthB o.Bits=true)(hn:0<=o.Lanes/\o.Lanes<=16)(hi:0<=o.Imm/\o.Imm<18446744073709551616):Qu o=some (ifitS o.Kind o.Bits o.Lanes o.Imm):=by
 unfold Qu ifitS
 have hb:Iu o.Bits=o.Bits:=by apply IC<;>(rcases width_cases hw with h|h|h|h|h<;>omega)
 have hl:Iu o.Lanes=o.Lanes:=by apply IC<;>omega
 rw[qN hi hw,ZW hi,hb,hl]
 cases(o.Kind==0)<;>cases(o.Kind==14)<;>cases(o.Kind==15)<;>cases(o.Kind==22)<;>cases widthB o.Imm<;>rfl
set_option maxHeartbeats 2000000 in
theorem pj (o : B2) (hs : Xq o.Bits o.Lanes = true) (hk : fj o.Kind = true) (hi : 0 ≤ o.Imm ∧ o.Imm < 18446744073709551616) : Gb o = some (sfitS o.Kind o.Bits o.Lanes && ifitS o.Kind o.Bits o.Lanes o.Imm) := by
  have hw := BX hs; have hl := shape_lanes hs; obtain ⟨k, b, n, d, args, i⟩ := o; simp only at hs hk hi hw hl ⊢
  have hb : Iu b = b := by apply IC <;> (rcases width_cases hw with h | h | h | h | h <;> omega)
  have hn : Iu n = n := by apply IC <;> omega
  have hb8 : decide (b < 8) = !decide (8 ≤ b) := by rw [← decide_not]; apply zzL76.2; omega
  have hn2 : decide (n < 2) = !decide (1 < n) := by rw [← decide_not]; apply zzL76.2; omega
  have h14 : (bif decide (i < b) then widthB (w64 i) else false) = (widthB i && decide (i < b)) := by
    by_cases h : i < b
    · have : w64 i = i := He (by omega) (by rcases width_cases hw with h | h | h | h | h <;> omega); simp [h, this]
    · simp [h]
  have h15 : (bif (bif decide (b < i) then decide (i ≤ 64) else false) then widthB (w64 i) else false) = (widthB i && decide (b < i)) := by
    by_cases h : i ≤ 64
    · have : w64 i = i := He (by omega) (by omega)
      by_cases h2 : b < i <;> simp [h, this, h2]
    · have : widthB i = false := by simp [widthB]; omega
      simp [h, this]
  have hc := th (v := i) hi hw; rcases kinds k with rfl | rfl | rfl | rfl | rfl | rfl | rfl | rfl | rfl | rfl | rfl | rfl | rfl | rfl | rfl | rfl | rfl | rfl | rfl | rfl | rfl | rfl | rfl | h
  case inl => unfold Gb; simp [hc, sfitS, ifitS]
  all_goals first
    | (rw [HC h] at hk; cases hk)
    | (unfold Gb sfitS ifitS
       simp only [hb8]
       generalize decide (8 ≤ b) = u at *
       clear hc h14 h15 hb8 hw hs; rcases hl with rfl | rfl | rfl | rfl | rfl <;> cases u <;> simp_all
       done)
    | (unfold Gb sfitS ifitS
       rw [hb]; simp only [Sg]; clear hc hs
       generalize decide (i < b) = p at *
       generalize decide (b < i) = q at *
       generalize decide (i ≤ 64) = r at *
       generalize widthB (w64 i) = s at *
       rcases hl with rfl | rfl | rfl | rfl | rfl <;> cases p <;> cases q <;> cases r <;> cases s <;> simp_all
       done)
theorem Hi{α X:Type}(l:List α)(d:α)(p:α->Bool)(f:Int->Option (LR Int X))(yes no:X)(hn:∀ i:Nat,i<l.length->p (l.getD i d)=true->f i=some (.next ((i:Int)+1)))
  (hf:∀ i:Nat,i<l.length->p (l.getD i d)=false->f i=some (.done no)) (he:f l.length=some (.done yes)):∀(k i:Nat),i+k=l.length->Ac f i=some (bif (l.drop i).all p then yes else no)
 | 0,i,h=>by
  obtain rfl:i=l.length:=by omega
  rw[Am he]
  simp
 | k+1,i,h=>by
  have hi:i<l.length:=by omega
  have hd:l.drop i=l.getD i d::l.drop (i+1):=by simp_all
  cases hp:p _ with
  | true=>
   rw[Aq (hn i hi hp)];have:=Hi l d p f yes no hn hf he k (i+1) (by omega);rw[show((i:Int)+1)=(i+1:Nat) by omega,this,hd,V2,hp,Mt]
  | false=>
   rw[Am (hf i hi hp),hd,V2,hp,SN,Au]
theorem QC{α X:Type}(n:Nat)(g:Nat->α)(f:List α×Int->Option (LR (List α×Int) X))(out:List α->X)(hn:∀(l:List α) (i:Nat),i<n->l.length=i->f (l,(i:Int))=some (.next (l++[g i],(i:Int)+1)))
  (he:∀ l:List α,l.length=n->f (l,(n:Int))=some (.done (out l))):∀(k i:Nat) (l:List α),i+k=n->l=(List.range i).map g->Ac f (l,(i:Int))=some (out ((List.range n).map g))
 | 0,i,l,h,hl=>by
  obtain rfl:i=n:=by omega
  subst hl;exact Am (he _ (by simp))
 | k+1,i,l,h,hl=>by
  subst hl;rw[Aq (hn _ i (by omega) (by simp))];exact QC n g f out hn he k (i+1) _ (by omega) (by simp[Vf])
theorem HG{α:Type}(l:List α)(d:α)(wt:α->Nat)(C:Nat)(f:Int×Int->Option (LR (Int×Int) Int))
  (hn:∀(n i:Nat),i<l.length->n<=C->∃ m:Nat,f ((n:Int),(i:Int))=some (.next ((m:Int),((i+1:Nat):Int)))/\(n+wt (l.getD i d)<=C->m=n+wt (l.getD i d))/\(m<=C->n+wt (l.getD i d)<=C))
  (hd:∀(n i:Nat),i<=l.length->(i=l.length\/C<n)->f ((n:Int),(i:Int))=some (.done (n:Int))) :
  ∀(k i n:Nat),i+k=l.length->∃ m:Nat,Ac f ((n:Int),(i:Int))=some (m:Int)/\(n+((l.drop i).map wt).sum<=C->m=n+((l.drop i).map wt).sum)/\(m<=C->n+((l.drop i).map wt).sum<=C)
 | 0,i,n,h=>by
  obtain rfl:i=l.length:=by omega
  refine⟨n,Am (hd n _ (zzL6 _) (.inl rfl)),?_,?_⟩
  ·simp
  ·simp
 | k+1,i,n,h=>by
  have hi:i<l.length:=by omega
  have hdr:l.drop i=l.getD i d::l.drop (i+1):=by rw[SH hi,Ab _ _ _ hi]
  by_cases hC:n<=C
  ·obtain⟨m,h1,h2,h3⟩:=hn n i hi hC;obtain⟨m',h4,h5,h6⟩:=HG l d wt C f hn hd k (i+1) m (by omega);refine⟨m',by rw[Aq h1];exact h4,λhle=>?_,λhle=>?_⟩
   ·rw[hdr,Cq,SQ]at hle ⊢;have:=h2 (by omega);subst this;rw[h5 (by omega)];omega
   ·rw[hdr,Cq,SQ];have h7:=h6 hle;have h8:=h3 (by omega);have:=h2 h8;omega
  ·refine⟨n,Am (hd n i (by omega) (.inr (by omega))),λhle=>by omega,λhle=>by omega⟩
theorem Tt{X:Type}(N:Nat)(f:Int×Int->Option (LR (Int×Int) X))(hn:∀(n:Int) (i:Nat),i<N->(∃ m:Int,f (n,(i:Int))=some (.next (m,((i+1:Nat):Int))))\/∃ x,f (n,(i:Int))=some (.done x))(hd:∀ n:Int,∃ x,f (n,(N:Int))=some (.done x)) :
  ∀(k i:Nat) (n:Int),i+k=N->∃ x,Ac f (n,(i:Int))=some x
 | 0,i,n,h=>by
  obtain rfl:i=N:=by omega
  obtain⟨x,hx⟩:=hd n;exact⟨x,Am hx⟩
 | k+1,i,n,h=>by
  rcases hn n i (by omega) with⟨m,hm⟩|⟨x,hx⟩
  ·obtain⟨x,hx⟩:=Tt N f hn hd k (i+1) m (by omega);exact⟨x,by rw[Aq hm];exact hx⟩
  ·exact⟨x,Am hx⟩
theorem DH{α X:Type}(l:List α)(d:α)(wt:α->Nat)(out:Int->X)(f:Int×Int->Option (LR (Int×Int) X))
  (hn:∀(n i:Nat),i<l.length->f (w64 n,(i:Int))=some (.next (w64 ((n+wt (l.getD i d):Nat):Int),((i+1:Nat):Int)))) (hd:∀ n:Int,f (n,(l.length:Int))=some (.done (out n))) :
  ∀(k i n:Nat),i+k=l.length->Ac f (w64 n,(i:Int))=some (out (w64 ((n+((l.drop i).map wt).sum:Nat):Int)))
 | 0,i,n,h=>by
  obtain rfl:i=l.length:=by omega
  rw[Am (hd _)]
  simp
 | k+1,i,n,h=>by
  have hi:i<l.length:=by omega
  have hdr:l.drop i=l.getD i d::l.drop (i+1):=by simp_all
  rw[Aq (hn n i hi),DH l d wt out f hn hd k _ _ (by omega),hdr,Cq,SQ,W4]
theorem Va(a b:Int):w64 (w64 a+b)=w64 (a+b):=by
 simp only[IntKind.wrap,IntKind.bits,IntKind.signed]
 simp
 split<;>split<;>omega
theorem Ag{α:Type}{l:List α}{i:Nat}{d:α}(h:i<l.length):l.getD i d∈l:=by grind
theorem Ai{i n:Nat}(h:i<n):A1 (i:Int) n:=⟨by omega,by exact_mod_cast h⟩
theorem A6{i n:Nat}(h:i<n)(hn:n<9223372036854775808):w64 ((i:Int)+1)=(i:Int)+1:=He (by omega) (by omega)
def om(l:List Int):Prop:=∀ x∈l,0<=x/\x<=2147483647
theorem De{S X:Type}(f:S->Option (LR S X))(T:Nat->S)(x:X):∀(n:Nat),(∀ i,i<n->f (T i)=some (.next (T (i+1))))->f (T n)=some (.done x)->Ac f (T 0)=some x:=by
 suffices h:∀(k i n:Nat),i+k=n->(∀ j,i<=j->j<n->f (T j)=some (.next (T (j+1))))->f (T n)=some _->Ac f (T i)=some x from
  λn h1 h2=>h n 0 n (by omega) (λj _ hj=>h1 j hj) h2
 intro k
 induction k with
 | zero=>
  intro i n hi _ h2
  have hin:n=i:=by omega
  subst hin;exact Am h2
 | succ k ih=>intro i n hi h1 h2;rw[Aq (h1 i (zzL6 _) (by omega))];exact ih _ n (by omega) (λj hj hj'=>h1 j (by omega) hj') h2
theorem UW{S X:Type}(f:S->Option (LR S X))(T:Nat->S):∀(n:Nat),(∀ i,i<n->f (T i)=some (.next (T (i+1))))->Ac f (T 0)=Ac f (T n):=by
 intro n
 induction n with
 | zero=>intro _;rfl
 | succ n ih=>intro h;rw[ih (λi hi=>h i (by omega)),Aq (h n (by omega))]
theorem H8{S X:Type}(f:S->Option (LR S X))(T:Nat->S)(p:Nat->Bool)(yes no:X)(n:Nat)(hn:∀ i,i<n->p i=true->f (T i)=some (.next (T (i+1))))(hf:∀ i,i<n->p i=false->f (T i)=some (.done no))
  (he:f (T n)=some (.done yes)):Ac f (T 0)=some (bif (List.range n).all p then yes else no):=by
 cases hall:(List.range n).all p with
 | true=>
  exact De f T yes n (λi hi=>hn i hi (zzL27.1 hall i (zzL41.2 hi))) he
 | false=>
  have hex:∃ i,i<n/\p i=false:=by
   grind
  obtain⟨m,hm⟩:=hex
  have key:∀ m,m<n->p m=false->∃ k,k<n/\p k=false/\∀ j,j<k->p j=true:=by
   intro m
   induction m using Nat.strongRecOn with
   | ind m ih=>
    intro h1 h2
    by_cases h:∃ j,j<m/\p j=false
    ·obtain⟨j,hj,hpj⟩:=h;exact ih j hj (by omega) hpj
    ·grind
  obtain⟨k,hk,hpk,hlt⟩:=key m hm.1 hm.2;rw[UW f T k (λi hi=>hn i (by omega) (hlt i hi))];exact Am (hf k hk hpk)
theorem all_range{n:Nat}{p:Nat->Bool}:(List.range n).all p=true↔∀ i,i<n->p i=true:=by
 grind
theorem Ak(i:Nat):((i:Int)).toNat=i:=Dy i
theorem w1{i:Nat}(h:i<4611686018427387904):w64 ((i:Int)+1)=((i+1:Nat):Int):=by rw[He (by omega) (by omega)];omega
theorem Bt{i n:Nat}(h:i<n):decide (((i:Nat):Int)<((n:Nat):Int))=true:=by simpa using h
theorem Co{n:Nat}:decide (((n:Nat):Int)<((n:Nat):Int))=false:=by simp
theorem Fy{i n:Nat}(h:i<n):A1 ((i:Nat):Int) n:=Ai h
theorem yf{x:Int}{n:Nat}(h0:0<=x)(h1:x<n):A1 x n:=⟨h0,h1⟩
structure bm(o:B2):Prop where
 imm:0<=o.Imm/\o.Imm<18446744073709551616
 args:o.Args.length<=200
theorem gn(x:Int×Int)(n:Int)(h:n=2\/n=4\/n=8\/n=16):Cd [x] n=some (List.replicate n.toNat x):=by
 let d:Int×Int:=(0,0)
 rcases h with rfl|rfl|rfl|rfl
 ·have e:Cd [x] 2=(Ac Di (1,[x,d])).bind some:=by kernel_rfl
  rw[e,Aq (s':=(2,[x,x])) (by kernel_rfl)]
  rfl
 ·have e:Cd [x] 4=(Ac Di (1,[x,d,d,d])).bind some:=by kernel_rfl
  rw[e,Aq (s':=(2,[x,x,d,d])) (by kernel_rfl),Aq (s':=(4,[x,x,x,x])) (by kernel_rfl)]
  rfl
 ·have e:Cd [x] 8=(Ac Di (1,[x,d,d,d,d,d,d,d])).bind some:=by kernel_rfl
  rw[e,Aq (s':=(2,[x,x,d,d,d,d,d,d])) (by kernel_rfl),Aq (s':=(4,[x,x,x,x,d,d,d,d])) (by kernel_rfl),Aq (s':=(8,[x,x,x,x,x,x,x,x])) (by kernel_rfl)]
  rfl
 ·have e:Cd [x] 16=(Ac Di (1,[x,d,d,d,d,d,d,d,d,d,d,d,d,d,d,d])).bind some:=by kernel_rfl
  rw[e,Aq (s':=(2,[x,x,d,d,d,d,d,d,d,d,d,d,d,d,d,d])) (by kernel_rfl),Aq (s':=(4,[x,x,x,x,d,d,d,d,d,d,d,d,d,d,d,d])) (by kernel_rfl),
   Aq (s':=(8,[x,x,x,x,x,x,x,x,d,d,d,d,d,d,d,d])) (by kernel_rfl),Aq (s':=(16,List.replicate 16 x)) (by kernel_rfl)]
  rfl
theorem o6(l:List (Int×Int)):It l=some l:=rfl
theorem PW(o:B2)(hs:Xq o.Bits o.Lanes=true)(hk:fj o.Kind=true)(hf:sfitS o.Kind o.Bits o.Lanes=true):Qv o=some (Rx o):=by
 have hl:=shape_lanes hs;obtain⟨k,b,n,d,args,i⟩:=o;simp only at hs hk hf hl ⊢;rcases kinds k with rfl|rfl|rfl|rfl|rfl|rfl|rfl|rfl|rfl|rfl|rfl|rfl|rfl|rfl|rfl|rfl|rfl|rfl|rfl|rfl|rfl|rfl|rfl|h
 case inr.inr.inr.inr.inr.inr.inr.inr.inr.inr.inr.inr.inr.inr.inr.inr.inr.inr.inr.inr.inr.inl=>
  have h1:n≠1:=by rintro rfl;simp[sfitS]at hf
  have h4:n=2\/n=4\/n=8\/n=16:=by omega
  unfold Qv;simp only[gn _ _ h4,o6];rcases h4 with rfl|rfl|rfl|rfl<;>rfl
 all_goals first
  | rfl
  | (rw[HC h]at hk;cases hk)
  | (rcases hl with rfl|rfl|rfl|rfl|rfl<;>first|rfl|(simp[sfitS]at hf))
theorem ZT(o:B2)(hs:Xq o.Bits o.Lanes=true)(hk:fj o.Kind=true)(hf:sfitS o.Kind o.Bits o.Lanes=true)(hl:o.Args.length<=200):Qr o=some (((o.Args.length:Int)==Se o.Kind o.Lanes)&&o.Args.all valS):=by
 unfold Qr;rw[PW o hs hk hf]
 have hn:0<=Se o.Kind o.Lanes:=by
  have:=shape_lanes hs;unfold Se
  cases(o.Kind==0)<;>cases(o.Kind==13 || o.Kind==18 || o.Kind==19)<;>cases(o.Kind==14 || o.Kind==15 || o.Kind==16 || o.Kind==22)<;>cases(o.Kind==20)<;>cases(o.Kind==21)<;>simp<;>omega
 have hlen:(Rx o).length=Se o.Kind o.Lanes:=by simp[Rx];omega
 simp only[An,hlen]
 by_cases he:o.Args.length=Se o.Kind o.Lanes
 ·have e1:(o.Args.length==Se o.Kind o.Lanes)=true:=by simpa using he
  have e2:(o.Args.length !=Se o.Kind o.Lanes)=false:=by simpa using he
  rw[e1,e2]
  have hloop:=Hi o.Args 0 valS (Kl o) (.inl ()) (.inr false) (λi hi hp=>by
    unfold Kl
    have:decide (i<(o.Args.length:Int))=true:=by simpa using hi
    simp only[this,Ah,Aa (Ai hi),Dy,Xp,An,hp,D6,Au,A6 hi (by omega)]) (λi hi hp=>by
    unfold Kl
    have:decide (i<(o.Args.length:Int))=true:=by simpa using hi
    simp only[this,Ah,Aa (Ai hi),Dy,Xp,An,hp,L4]) (by
    unfold Kl
    simp) o.Args.length 0 (by omega)
  rw[show 0=((0:Nat):Int) from rfl,hloop,Oa]
  cases o.Args.all valS<;>rfl
 ·grind
theorem fe{k b n:Int}(hs:Xq b n=true):((Xo k b n).1==0)=(k==17 || k==19):=by
 have hb:(b==0)=false:=by
  have:=width_cases (BX hs);simp;omega
 unfold Xo
 cases(k==17 || k==19)<;>cases(k==10 || k==11 || k==12)<;>cases(k==22)<;>simp_all
theorem ZU(o:B2)(hs:Xq o.Bits o.Lanes=true):Qs o=some (dstS o.Kind o.Dst):=by
 unfold Qs;simp only[PU,An,fe hs,Xp,dstS]
 cases(o.Kind==17 || o.Kind==19)<;>rfl
theorem PT(o:B2)(ho:bm o):Rq o=some (Gs o):=by
 unfold Rq Gs;simp only[cm,fp,PV]
 cases hs:Xq _ _ with
 | false=>cases fj _<;>rfl
 | true=>
  have hl:=shape_lanes hs
  cases hk:fj _ with
  | false=>rfl
  | true=>
   rw[ZV o (BX hs) (by omega) ho.imm];simp only[ZU o hs]
   cases hf:sfitS _ _ _ with
   | false=>rfl
   | true=>
    rw[ZT o hs hk hf ho.args]
    generalize ifitS _ _ _ _=p
    generalize (o.Args.length==Se _ _)=q
    generalize o.Args.all _=r
    generalize dstS _ _=s
    cases p<;>cases q<;>cases r<;>cases s<;>rfl
theorem pi(o:B2):Km o=some (bif fj o.Kind then Se o.Kind o.Lanes else -1):=by
 obtain⟨k,b,n,d,args,i⟩:=o;rcases kinds k with rfl|rfl|rfl|rfl|rfl|rfl|rfl|rfl|rfl|rfl|rfl|rfl|rfl|rfl|rfl|rfl|rfl|rfl|rfl|rfl|rfl|rfl|rfl|h
 any_goals rfl
 unfold Km;simp[gZ h,HC h]
theorem bF(o:B2)(ho:bm o):G9 o=some (Gs o):=by
 unfold G9 Gs;simp only[lx]
 cases hs:Xq o.Bits o.Lanes with
 | false=>rfl
 | true=>
  simp only[pi,D6,Vd,Ah, An]
  cases hk:fj o.Kind with
  | false=>
   grind
  | true=>
   simp only[Ah];rw[pj o hs hk ho.imm]
   by_cases he:o.Args.length=Se o.Kind o.Lanes
   ·have e1:(o.Args.length==Se o.Kind o.Lanes)=true:=by simpa using he
    have e2:(Se o.Kind o.Lanes !=o.Args.length)=false:=by simpa using he.symm
    rw[e1,e2]
    have hloop:=Hi o.Args 0 valS (Gy o) (.inl ()) (.inr false) (λi hi hp=>by
      unfold Gy
      have:decide (i<(o.Args.length:Int))=true:=by simpa using hi
      simp only[this,Ah,Aa (Ai hi),Dy,DO,An,hp,D6,Au,A6 hi (by have:=ho.args;omega)]) (λi hi hp=>by
      unfold Gy
      have:decide ((i:Int)<o.Args.length)=true:=by simpa using hi
      simp only[this,Ah,Aa (Ai hi),Dy,DO,An,hp,L4]) (by
      unfold Gy
      simp) o.Args.length 0 (by omega)
    rw[show 0=((0:Nat):Int) from rfl,hloop,Oa];simp only[DO, dstS]
    generalize sfitS o.Kind o.Bits o.Lanes=p
    generalize ifitS o.Kind o.Bits o.Lanes o.Imm=q
    generalize o.Args.all valS=r
    cases p<;>cases q<;>cases r<;>cases(o.Kind==17)<;>cases(o.Kind==19)<;>rfl
   ·grind
theorem Xw{o:B2}(h:Gs o=true):Xq o.Bits o.Lanes=true/\fj o.Kind=true/\sfitS o.Kind o.Bits o.Lanes=true/\ifitS o.Kind o.Bits o.Lanes o.Imm=true/\(o.Args.length:Int)=Se o.Kind o.Lanes/\o.Args.all valS=true/\dstS o.Kind o.Dst=true:=by
 simp only[Gs,A5,zzL63]at h;exact⟨h.1.1,h.1.2.1.1.1,h.1.2.1.1.2,h.1.2.1.2,h.1.2.2,h.2.1,h.2.2⟩
theorem fq(o:B2)(ho:bm o):Qq o=some (bif Gs o then Rx o else[]):=by
 unfold Qq;rw[PT o ho]
 cases hm:Gs o with
 | false=>rfl
 | true=>
  obtain⟨h1,h2,h3,_⟩:=Xw hm;simp only[PW o h1 h2 h3]
  rfl
theorem fo(o:B2)(ho:bm o):Qp o=some (bif Gs o then Xo o.Kind o.Bits o.Lanes else(0,0)):=by
 unfold Qp;rw[PT o ho];simp only[ PU]
 cases Gs o<;>rfl
theorem lw(o:B2)(ho:bm o):Hk o=some (bif Gs o then Xo o.Kind o.Bits o.Lanes else(0,0)):=by
 unfold Hk;rw[bF o ho]
 cases hm:Gs o with
 | false=>rfl
 | true=>
  obtain⟨_,h2,_⟩:=Xw hm;obtain⟨k,b,n,d,args,i⟩:=o;rcases kinds k with rfl|rfl|rfl|rfl|rfl|rfl|rfl|rfl|rfl|rfl|rfl|rfl|rfl|rfl|rfl|rfl|rfl|rfl|rfl|rfl|rfl|rfl|rfl|h
  any_goals rfl
  rw[HC h]at h2;cases h2
theorem ly(o:B2)(ho:bm o):Hl o=some (bif Gs o then Rx o else[]):=by
 unfold Hl;rw[bF o ho]
 cases hm:Gs o with
 | false=>rfl
 | true=>
  obtain⟨h1,h2,h3,h4,h5,_⟩:=Xw hm
  have hloop:=QC (X:=List (Int×Int)) o.Args.length (PG o) (Hz o) id (λl i hi hl=>by
   unfold Hz
   have e0:decide ((i:Int)<(o.Args.length:Int))=true:=by simpa using hi
   have e1:((i:Int)==0)=Nat.beq i 0:=by cases i<;>rfl
   have e2:((i:Int)==1)=Nat.beq i 1:=by
    rcases i with _|_|i
    ·rfl
    ·rfl
    ·have:¬ (((i+1+1:Nat):Int)=1):=by omega
     simp only[Nat.beq]
     simpa using this
   have hr:l.length+([PG o i]:List (Int×Int)).length<=room:=by have:=ho.args;simp[room];omega
   simp only[e0,e1,e2,Ah];have e3 :=A6 hi (by have:=ho.args;omega);simp only[e3]
   have key:∀(x:Option (Int×Int)),x=some (PG o i)->(x.bind λx23=>A0 (l.length+([(x23.1,x23.2)]:List (Int×Int)).length<=room) (some (LR.next (l++([(x23.1,x23.2)]:List (Int×Int)),(i:Int)+1))))=(some (LR.next (l++[PG o i],(i:Int)+1)):Option (LR _ (List (Int×Int)))):=by
    rintro x rfl;exact Aa hr
   refine key _ ?_;clear key hr;obtain⟨k,b,n,d,args,im⟩:=o;rcases kinds k with rfl|rfl|rfl|rfl|rfl|rfl|rfl|rfl|rfl|rfl|rfl|rfl|rfl|rfl|rfl|rfl|rfl|rfl|rfl|rfl|rfl|rfl|rfl|h
   all_goals first
    | rfl
    | (rw[HC h]at h2;cases h2)
    | (rcases i with _|_|i<;>rfl)) (λl hl=>by
   unfold Hz
   simp) o.Args.length 0 [] (by omega) rfl
  rw[show(0:Int)=((0:Nat):Int) from rfl];simp only[D6,Au,hloop,An,id];rw[Rx,<- h5]
  rfl
theorem wu{n:Int}(h:(Lit.int .u64 n).wf=true):0<=n/\n<18446744073709551616:=by simp[Lit.wf,IntKind.min,IntKind.max,IntKind.bits,IntKind.signed]at h;omega
abbrev Iall(w:World):Nat->Nat->Prop:=λb o=>∃ u,w.cell? ⟨b,o,none⟩=some u
structure me(w:World)(cs:List Value)(avs:List AV):Prop where
 len:cs.length=avs.length
 one:∀ j,j<avs.length->(cs.getD j undef).oneCell'=true
 rep:∀ j,j<avs.length->RepV (Iall w) w (cs.getD j undef) (avs.getD j .any)
structure Opens(P:Program)(t:TypeId){α:Type}(e:α->List AV)(ok:α->Prop):Prop where
 get:∀{H:Type} {enc:TypeId×Value->H} {w:World} {base:Nat} {spare:Nat->Bool} {held:Bool} {fuel:Nat} {cs:List Value} {x:DataW H×List MemPlace},
  DataW.trod enc P w base spare held fuel t cs=some x->∃ a,ok a/\me w cs (e a)
theorem PA{w:World}{v:Value}{x:AV}(h1:v.oneCell'=true)(h:RepV (Iall w) w v x):me w [v] [x]:=
 ⟨rfl,λj hj=>(by
   grind),λj hj=>(by
   grind)⟩
theorem XE{P:Program}{t:TypeId}{k:IntKind}{e:Int->List AV}(ht:P.underlying t=some (.int k))(he:∀ n,e n=[.int k n]):Opens P t e (λn=>(Lit.int k n).wf=true):=by
 refine⟨?_⟩;intro H enc w base spare held fuel cs x h;obtain⟨n,rfl,rfl,hw⟩:=DataW.trod_int ht h;exact⟨n,hw,by rw[he];exact PA rfl (.int _ _)⟩
theorem fW{w:World}{base:Nat}{a:Addr}{n:Nat}{cs:List Value}(h:w.cells? base a n=some cs):cs.length=n/\∀ i,i<n->w.cell? (a.add i)=some (cs.getD i undef):=by
 unfold World.cells? at h
 split at h
 ·have hl:=mapM_some_length h;simp at hl;refine⟨hl,λi hi=>?_⟩;have:=mapM_some_get h i i (by simp[hi]);rw[this];simp[ show i<cs.length by omega]
 ·cases h
theorem U5{P:Program}{t el:TypeId}{α:Type}{e:α->List AV}{ok:α->Prop}{sz:Nat}{d:α}{e':List α->List AV}(ht:P.underlying t=some (.slice el))(hs:P.cellsOf el=sz)(h1:1<=sz)(he:Opens P el e ok)(hlen:∀ a,(e a).length=sz)
  (he':∀ l,e' l=[AV.list sz e d l .none]):Opens P t e' (λl=>(∀ a∈l,ok a)/\l.length<=maxLen):=by
 refine⟨?_⟩;intro H enc w base spare held fuel cs x h;rcases DataW.trod_slice ht h with⟨rfl,rfl⟩|⟨a,len,cap,elems,rest,n,_,rfl,rfl,hb,hl,hm,hlen2,hel,_⟩
 ·exact⟨[],⟨by simp,by simp⟩,by rw[he'];exact PA rfl (.slice none 0 0 sz _ (λ_=>undef) (zzL6 _) (by simp) (λh=>by simp at h) (λ_=>rfl) (λj hj=>by simp at hj) (λi hi=>by simp at hi) (λi c hi=>by simp at hi))⟩
 ·have each:∀ i:Fin len,∃ b,ok b/\∃ cs,w.cells? base (a.add (i.1*sz)) sz=some cs/\me w cs (e b):=λ⟨i,hi⟩=>by
   have:=hel i hi;rw[hs,P3 (by omega),zzL109]at this;obtain⟨cs,hcs,htr⟩:=this;obtain⟨b,hb,hr⟩:=he.get htr;exact⟨b,hb,cs,hcs,hr⟩
  let f:Fin len->α:=λi=>(each i).choose
  have hf:∀ i,ok (f i)/\∃ cs,w.cells? base (a.add (i.1*sz)) sz=some cs/\me w cs (e (f i)):=λi=>(each i).choose_spec
  have hlf:(List.ofFn f).length=len:=by simp
  refine⟨List.ofFn f,⟨λb hb=>?_,by simp;omega⟩,?_⟩
  ·obtain⟨i,rfl⟩:=List.mem_ofFn.1 hb;exact(hf i).1
  rw[he'];refine PA rfl ?_
  have hcell0:∀ i (hi:i<len),∀ c,c<sz->∃ u,w.cell? ((a.add (i*sz)).add c)=some u/\u.oneCell'=true/\RepV (Iall w) w u ((e (f ⟨i,hi⟩)).getD c .any):=λi hi c hc=>by
   obtain⟨_,cs,hcs,hr⟩:=hf ⟨i,hi⟩;obtain⟨hl,hg⟩:=fW hcs;exact⟨_,hg c hc,hr.one c (by rw[hlen];exact hc),hr.rep c (by rw[hlen];exact hc)⟩
  have hspot:0<len->a.spot=none:=λhp=>by
   obtain⟨u,hu,_⟩:=hcell0 0 hp 0 h1;have h2:=World.cell?_spot hu
   simpa [Addr.add] using h2
  have hcell:∀ i (hi:i<len),∀ c,c<sz->∃ u,w.cell? ⟨a.block,a.off+(i*sz+c),none⟩=some u/\u.oneCell'=true/\RepV (Iall w) w u ((e (f ⟨i,hi⟩)).getD c .any):=λi hi c hc=>by
   obtain⟨u,hu,h1,h2⟩:=hcell0 i hi c hc;have hsp:=hspot (by omega);rw[Mj hsp,O9]at hu;exact⟨u,by rw[<- W4];exact hu,h1,h2⟩
  have hdm:∀ j,j<len*sz->∃ i c,i<len/\c<sz/\j=i*sz+c:=λj hj=>by
   refine⟨j / sz,j % sz,(SR (by omega)).2 hj,Nat.mod_lt _ (by omega),?_⟩;rw[CJ];exact(IF j sz).symm
  unfold AV.list;rw[hlf];refine .slice (some a) len cap sz _ (λj=>(w.cell? ⟨a.block,a.off+j,none⟩).getD undef) hl hm (λhp=>⟨a,rfl,hspot hp,λj hj=>?_,λj hj=>?_⟩) (λh=>by cases h) (λj hj=>?_) (λi hi=>hlen _) (λi c hi hc=>?_)
  ·obtain⟨i,c,hi,hc,rfl⟩:=hdm j hj;obtain⟨u,hu,_⟩:=hcell i hi c hc;exact⟨u,hu⟩
  ·obtain⟨i,c,hi,hc,rfl⟩:=hdm j hj;obtain⟨u,hu,_⟩:=hcell i hi c hc;rw[hu];rfl
  ·obtain⟨i,c,hi,hc,rfl⟩:=hdm j hj;obtain⟨u,hu,h1,_⟩:=hcell i hi c hc;simp only[hu];exact h1
  ·grind
structure YS(P:Program)(fs:List Field)(off N:Nat){α:Type}(e:α->List AV)(ok:α->Prop):Prop where
 get:∀{H:Type} {enc:TypeId×Value->H} {w:World} {base:Nat} {spare:Nat->Bool} {held:Bool} {n:Nat} {cs:List Value},cs.length=N->
  (∀ f∈fs,∃ x,DataW.trod enc P w base spare held n f.type ((cs.drop f.offset).take (P.cellsOf f.type))=some x)->∃ a,ok a/\me w (cs.drop off) (e a)
theorem T7{P:Program}{N:Nat}:YS P [] N N (λ_:Unit=>[]) (λ_=>True):=by
 refine⟨?_⟩;intro H enc w base spare held n cs hN _;rw[List.drop_eq_nil_of_le (by omega)];exact⟨(),trivial,rfl,(λj hj=>by simp at hj),(λj hj=>by simp at hj)⟩
theorem Cw{P:Program}{f:Field}{fs:List Field}{off sz N:Nat}{α β:Type}{e:α->List AV}{ok:α->Prop}{e':β->List AV}{ok':β->Prop}(hoff:f.offset=off)(hsz:P.cellsOf f.type=sz)(hle:off+sz<=N)
  (h:Opens P f.type e ok) (h':YS P fs (off+sz) N e' ok'):YS P (f::fs) off N (λp:α×β=>e p.1++e' p.2) (λp=>ok p.1/\ok' p.2):=by
 refine⟨?_⟩;intro H enc w base spare held n cs hN hall;obtain⟨x,hx⟩:=hall f (by simp);rw[hoff,hsz]at hx;obtain⟨a,ha,hr⟩:=h.get hx;obtain⟨b,hb,hr'⟩:=h'.get hN (λg hg=>hall g (by simp[hg]))
 have hl:(e a).length=sz:=by rw[<- hr.len];simp;omega
 have hl':(e' b).length=N-(off+sz):=by rw[<- hr'.len];simp;omega
 have hsplit:cs.drop off=(cs.drop off).take sz++cs.drop (off+sz):=by rw[<- List.drop_drop];exact(List.take_append_drop sz _).symm
 have hl2:((cs.drop off).take sz).length=sz:=by simp;omega
 refine⟨(a,b),⟨ha,hb⟩,?_,λj hj=>?_,λj hj=>?_⟩
 ·simp[hl,hl'];omega
 ·rw[hsplit];replace hj:j<(e a++e' b).length:=hj
  show _
  by_cases hlt:j<sz
  ·have:=hr.one j (by omega);rwa[List.getD,Ug (by omega)]
  ·have:=hr'.one (j-sz) (by simp at hj;omega);rwa[List.getD,Vb (by omega),hl2]
 ·rw[hsplit];replace hj:j<(e a++e' b).length:=hj
  show RepV (Iall w) w _ ((e a++e' b).getD j .any)
  by_cases hlt:j<sz
  ·have:=hr.rep j (by omega);rwa[List.getD,Ug (by omega),List.getD,Ug (by omega)]
  ·have:=hr'.rep (j-sz) (by simp at hj;omega);rwa[List.getD,Vb (by omega),hl2,List.getD,Vb (by omega),hl]
theorem Q1{P:Program}{t:TypeId}{fs:Array Field}{N:Nat}{α:Type}{e:α->List AV}{ok:α->Prop}(ht:P.underlying t=some (.struct fs))(hN:P.cellsOf t=N)(h:YS P fs.toList 0 N e ok):Opens P t e ok:=by
 refine⟨?_⟩;intro H enc w base spare held fuel cs x hx;obtain⟨xs,n,_,_,hl,hxl,hall⟩:=DataW.trod_struct ht hx
 have:=h.get  (hl.trans hN)      (λf hf=>by
  obtain⟨i,hi,rfl⟩:=List.mem_iff_getElem.1 hf
  have hi' :=by simpa using hi
  have:=hall i fs.toList[i] (by simp[hi']);rw[P3 (by omega)]at this
  exact⟨_,this⟩)
 simpa using this
theorem Opens.to{P:Program}{t:TypeId}{α β:Type}{e:α->List AV}{ok:α->Prop}(h:Opens P t e ok){e':β->List AV}{ok':β->Prop}(g:α->β)(he:∀ a,e' (g a)=e a)(hok:∀ a,ok a->ok' (g a)):Opens P t e' ok':=by
 refine⟨?_⟩;intro H enc w base spare held fuel cs x hx;obtain⟨a,ha,hr⟩:=h.get hx;exact⟨g a,hok a ha,by rw[he];exact hr⟩
theorem arg_agg{P:Program}{t:TypeId}{α:Type}{e:α->List AV}{ok:α->Prop}(h:Opens P t e ok){H:Type}{enc:TypeId×Value->H}{w:World}{base:Nat}{spare:Nat->Bool}{held:Bool}{cs:Array Value}{d:DataW H}{ps:List MemPlace}
  (hd:DataW.Trod enc P w base spare held t (.agg cs) d ps):∃ a,ok a/\RepV (Iall w) w (.agg cs) (.agg (e a)):=by
 obtain⟨fuel,hf⟩:=hd;obtain⟨a,ha,hr⟩:=h.get hf;have e1:(Value.agg cs).cells.toList=cs.toList:=rfl;rw[e1]at hr
 have e2:∀ j,cs.toList.getD j undef=cs.getD j undef:=λj=>by simp_all
 refine⟨a,ha,.agg _ _ (by simpa using hr.len) (λj hj=>?_) (λj hj=>?_)⟩
 ·rw[<- e2];exact hr.one j hj
 ·rw[<- e2];exact hr.rep j hj
def BA(n:Int):Prop:=(Lit.int .i64 n).wf=true
theorem VI:Opens Tryz.prog 3 Ap BA:=XE Tryz.underlying3 (λ_=>rfl)
def JL(l:List (Int)):Prop:=(∀ a∈l,BA a)/\l.length<=maxLen
theorem dc:Opens Tryz.prog 22 Lg JL:=U5 (d:=(0:Int)) Tryz.underlying22 (by kernel_rfl) (by decide) VI (λ_=>rfl) (λ_=>rfl)
def pR(a:Ba):Prop:=BA a.Bits/\BA a.Dst/\JL a.From/\JL a.Args/\True
theorem yy:Opens Tryz.prog 67 Eo pR:=Opens.to (Q1 (N:=4) Tryz.underlying67 (by kernel_rfl) (Cw (off:=0) (sz:=1) (N:=4) rfl (by kernel_rfl) (by decide) VI (Cw (off:=1) (sz:=1) (N:=4) rfl (by kernel_rfl) (by decide) VI (Cw (off:=2) (sz:=1) (N:=4) rfl (by kernel_rfl) (by decide) dc (Cw (off:=3) (sz:=1) (N:=4) rfl (by kernel_rfl) (by decide) dc T7))))) (λp=>⟨p.1,p.2.1,p.2.2.1,p.2.2.2.1⟩) (λ_=>rfl) (λ_ h=>h)
def jd(l:List (Ba)):Prop:=(∀ a∈l,pR a)/\l.length<=maxLen
theorem yu:Opens Tryz.prog 59 wO jd:=U5 (d:=(default:Ba)) Tryz.underlying59 (by kernel_rfl) (by decide) yy (λ_=>rfl) (λ_=>rfl)
def ut(n:Int):Prop:=(Lit.int .u64 n).wf=true
theorem yr:Opens Tryz.prog 44 Aah ut:=XE Tryz.underlying44 (λ_=>rfl)
def ur(a:B2):Prop:=BA a.Kind/\BA a.Bits/\BA a.Lanes/\BA a.Dst/\JL a.Args/\ut a.Imm/\True
theorem yz:Opens Tryz.prog 70 J6 ur:=Opens.to (Q1 (N:=6) Tryz.underlying70 (by kernel_rfl) (Cw (off:=0) (sz:=1) (N:=6) rfl (by kernel_rfl) (by decide) VI (Cw (off:=1) (sz:=1) (N:=6) rfl (by kernel_rfl) (by decide) VI (Cw (off:=2) (sz:=1) (N:=6) rfl (by kernel_rfl) (by decide) VI (Cw (off:=3) (sz:=1) (N:=6) rfl (by kernel_rfl) (by decide) VI (Cw (off:=4) (sz:=1) (N:=6) rfl (by kernel_rfl) (by decide) dc (Cw (off:=5) (sz:=1) (N:=6) rfl (by kernel_rfl) (by decide) yr T7))))))) (λp=>⟨p.1,p.2.1,p.2.2.1,p.2.2.2.1,p.2.2.2.2.1,p.2.2.2.2.2.1⟩) (λ_=>rfl) (λ_ h=>h)
def pN(l:List (B2)):Prop:=(∀ a∈l,ur a)/\l.length<=maxLen
theorem yv:Opens Tryz.prog 60 WF pN:=U5 (d:=(default:B2)) Tryz.underlying60 (by kernel_rfl) (by decide) yz (λ_=>rfl) (λ_=>rfl)
def pQ(a:Kb):Prop:=BA a.Kind/\BA a.Arg/\JL a.To/\True
theorem yw:Opens Tryz.prog 62 jI pQ:=Opens.to (Q1 (N:=3) Tryz.underlying62 (by kernel_rfl) (Cw (off:=0) (sz:=1) (N:=3) rfl (by kernel_rfl) (by decide) VI (Cw (off:=1) (sz:=1) (N:=3) rfl (by kernel_rfl) (by decide) VI (Cw (off:=2) (sz:=1) (N:=3) rfl (by kernel_rfl) (by decide) dc T7)))) (λp=>⟨p.1,p.2.1,p.2.2.1⟩) (λ_=>rfl) (λ_ h=>h)
def dP(a:Ae):Prop:=jd a.Phis/\pN a.Ops/\pQ a.End/\True
theorem yx:Opens Tryz.prog 64 Cg dP:=Opens.to (Q1 (N:=5) Tryz.underlying64 (by kernel_rfl) (Cw (off:=0) (sz:=1) (N:=5) rfl (by kernel_rfl) (by decide) yu (Cw (off:=1) (sz:=1) (N:=5) rfl (by kernel_rfl) (by decide) yv (Cw (off:=2) (sz:=3) (N:=5) rfl (by kernel_rfl) (by decide) yw T7)))) (λp=>⟨p.1,p.2.1,p.2.2.1⟩) (λ_=>rfl) (λ_ h=>h)
def XB(l:List (Ae)):Prop:=(∀ a∈l,dP a)/\l.length<=maxLen
theorem yq:Opens Tryz.prog 23 oV XB:=U5 (d:=(default:Ae)) Tryz.underlying23 (by kernel_rfl) (by decide) yx (λ_=>rfl) (λ_=>rfl)
def okTFunc(a:TFunc):Prop:=JL a.Params/\BA a.Ret/\XB a.Blocks/\True
theorem op_25:Opens Tryz.prog 25 eTFunc okTFunc:=Opens.to (Q1 (N:=3) Tryz.underlying25 (by kernel_rfl) (Cw (off:=0) (sz:=1) (N:=3) rfl (by kernel_rfl) (by decide) dc (Cw (off:=1) (sz:=1) (N:=3) rfl (by kernel_rfl) (by decide) VI (Cw (off:=2) (sz:=1) (N:=3) rfl (by kernel_rfl) (by decide) yq T7)))) (λp=>⟨p.1,p.2.1,p.2.2.1⟩) (λ_=>rfl) (λ_ h=>h)
def numB(n:Int):Bool:=decide (0<=n)&&decide (n<=2147483647)
def listB(l:List Int):Bool:=l.all numB&&decide (l.length<=64)
def FL(p:Ba):Bool:=numB p.Bits&&numB p.Dst&&listB p.From&&listB p.Args
def eZ(o:B2):Bool:=numB o.Kind&&numB o.Bits&&numB o.Lanes&&numB o.Dst&&listB o.Args
def cT(e:Kb):Bool:=numB e.Kind&&numB e.Arg&&listB e.To
def blockB(b:Ae):Bool:=b.Phis.all FL&&b.Ops.all eZ&&cT b.End
def Dm(b:Ae):Nat:=b.Phis.length+b.Ops.length+1
def sizeN(f:TFunc):Nat:=(f.Blocks.map Dm).sum
def sizeW(f:TFunc):Int:=w64 (sizeN f)
def Qy(f:TFunc):Bool:=decide (1<=f.Blocks.length)&&decide (f.Blocks.length<=64)&&decide (f.Params.length<=16)&&listB f.Params&&numB f.Ret&&decide (sizeW f<=512)&&f.Blocks.all blockB
def cV(p:Ba):Nat:=1+p.From.length+p.Args.length
def cU(o:B2):Nat:=1+o.Args.length
def UQ(b:Ae):Nat:=1+b.End.To.length+(b.Phis.map cV).sum+(b.Ops.map cU).sum
def fa(f:TFunc):Nat:=f.Params.length+(f.Blocks.map UQ).sum
theorem Pw:maxLen=9223372036854775807:=rfl
structure YQ(f:TFunc):Prop where
 params:f.Params.length<=maxLen
 blocks:f.Blocks.length<=maxLen
 block:∀ b∈f.Blocks,b.Phis.length<=maxLen/\b.Ops.length<=maxLen/\b.End.To.length<=maxLen
 phi:∀ b∈f.Blocks,∀ p∈b.Phis,p.From.length<=maxLen/\p.Args.length<=maxLen
 op:∀ b∈f.Blocks,∀ o∈b.Ops,o.Args.length<=maxLen/\0<=o.Imm/\o.Imm<18446744073709551616
theorem inF{f:TFunc}(h:okTFunc f):YQ f:=
 ⟨h.1.2,h.2.2.1.2,λb hb=>⟨(h.2.2.1.1 b hb).1.2,(h.2.2.1.1 b hb).2.1.2,(h.2.2.1.1 b hb).2.2.1.2.2.1.2⟩,λb hb p hp=>⟨((h.2.2.1.1 b hb).1.1 p hp).2.2.1.2,((h.2.2.1.1 b hb).1.1 p hp).2.2.2.1.2⟩,
  λb hb o ho=>⟨((h.2.2.1.1 b hb).2.1.1 o ho).2.2.2.2.1.2,wu ((h.2.2.1.1 b hb).2.1.1 o ho).2.2.2.2.2.1⟩⟩
theorem Ym{n:Nat}(h:n<9223372036854775808):w64 (n:Int)=n:=He (by omega) (by omega)
theorem K4{i n:Nat}(h:i<n)(hn:n<=maxLen):w64 ((i:Int)+1)=((i+1:Nat):Int):=by rw[Pw]at hn;rw[show((i:Int)+1)=(i+1:Nat) by omega,Ym (by omega)]
theorem RX(f:TFunc)(hf:YQ f):∃ b,C6 f=some b:=by
 have h3:∃ x,Ac (C1 f) (f.Params.length,(0:Nat))=some x:=by
  refine Tt f.Blocks.length _ (λn i hi=>?_) (λn=>?_) _ 0 _ (F0 _)
  ·have hmem:=Ag (d:=default) hi;obtain⟨b1,b2,_⟩:=hf.block _ hmem;have hI :=Ai hi;unfold C1
   cases hc:(bif decide (i<(f.Blocks.length:Int)) then decide (n<=20000) else false) with
   | false=>right;simp only[hc];exact⟨_,rfl⟩
   | true=>
    left
    simp only[hc, Aa hI]
    obtain⟨x1,h1⟩:=Tt (f.Blocks.getD i default).Phis.length (Cz f i) (λn j hj=>by
      unfold Cz;simp only[Aa hI,Dy]
      cases hc:(bif decide (j<((f.Blocks.getD i default).Phis.length:Int)) then decide (n<=20000) else false) with
      | false=>grind
      | true=>left;simp only[ Aa (Ai hj),K4 hj b1];exact⟨_,rfl⟩) (λn=>by
      unfold Cz;simp only[Aa hI,Dy]
      have:decide ((f.Blocks.getD i default).Phis.length<((f.Blocks.getD i default).Phis.length:Int))=false:=by simp
      simp only[this];exact⟨_,rfl⟩) _ 0 (w64 (w64 (n+1)+(f.Blocks.getD i default).End.To.length)) (F0 _)
    obtain⟨x2,h2⟩:=Tt (f.Blocks.getD i default).Ops.length (C0 f i) (λn j hj=>by
      unfold C0;simp only[Aa hI,Dy]
      cases hc:(bif decide (j<((f.Blocks.getD i default).Ops.length:Int)) then decide (n<=20000) else false) with
      | false=>grind
      | true=>left;simp only[ Aa (Ai hj),K4 hj b2];exact⟨_,rfl⟩) (λn=>by
      unfold C0;simp only[Aa hI,Dy]
      have:decide ((f.Blocks.getD i default).Ops.length<((f.Blocks.getD i default).Ops.length:Int))=false:=by simp
      simp only[this];exact⟨_,rfl⟩) _ 0 x1 (F0 _)
    rw[show((0:Nat):Int)=0 from rfl]at h1 h2;simp only[Dy,h1,h2,An,K4 hi hf.blocks];exact⟨_,rfl⟩
  ·unfold C1
   have:decide ((f.Blocks.length:Int)<(f.Blocks.length:Int))=false:=by simp
   simp only[this];exact⟨_,rfl⟩
 obtain⟨x,hx⟩:=h3;unfold C6;rw[show((0:Nat):Int)=0 from rfl]at hx;rw[hx];exact⟨_,rfl⟩
theorem d8(f:TFunc)(hf:YQ f)(h0:f.Params.length<=64)(hb:∀ b∈f.Blocks,b.End.To.length<=64/\(∀ p∈b.Phis,p.From.length<=64/\p.Args.length<=64)/\∀ o∈b.Ops,o.Args.length<=64):C6 f=some (decide (fa f<=20000)):=by
 have h3:=HG f.Blocks (default:Ae) UQ 20000 (C1 f) (λn i hi hn=>by
   have hmem:=Ag (d:=(default:Ae)) hi;obtain⟨b1,b2,b3⟩:=hf.block _ hmem;obtain⟨hTo,hPh,hOp⟩:=hb _ hmem;have hI1:A1 (i:Int) f.Blocks.length:=Ai hi
   have l1:=HG (f.Blocks.getD i default).Phis (default:Ba) cV 20000 (Cz f i) (λn j hj hn=>by
     have hm:=Ag (d:=(default:Ba)) hj;obtain⟨p1,p2⟩:=hPh _ hm
     have e1:decide ((j:Int)<((f.Blocks.getD i default).Phis.length:Int))=true:=by simpa using hj
     have e2:decide ((n:Int)<=20000)=true:=by simp;omega
     refine⟨n+cV ((f.Blocks.getD i default).Phis.getD j default),?_,λ_=>rfl,λh=>h⟩;unfold Cz;simp only[Aa hI1,Dy,e1,e2,Ah,Aa (Ai hj),K4 hj b1]
     congr 3
     rw[He (n:=(n:Int)+1) (by omega) (by omega),He (n:=(n:Int)+1+_) (by omega) (by omega),He (by omega) (by omega)];simp only[cV]
     omega) (λn j hj hd=>by
     unfold Cz;simp only[Aa hI1,Dy]
     have:(bif decide ((j:Int)<((f.Blocks.getD i default).Phis.length:Int)) then decide ((n:Int)<=20000) else false)=false:=by
      rcases hd with rfl|h
      ·simp
      ·simp;omega
     rw[this];rfl)
   have l2:=HG (f.Blocks.getD i default).Ops (default:B2) cU 20000 (C0 f i) (λn j hj hn=>by
     have hm:=Ag (d:=(default:B2)) hj;have p1:=hOp _ hm
     have e1:decide ((j:Int)<((f.Blocks.getD i default).Ops.length:Int))=true:=by simpa using hj
     have e2:decide ((n:Int)<=20000)=true:=by simp;omega
     refine⟨n+cU ((f.Blocks.getD i default).Ops.getD j default),?_,λ_=>rfl,λh=>h⟩;unfold C0;simp only[Aa hI1,Dy,e1,e2,Ah,Aa (Ai hj),K4 hj b2]
     congr 3
     rw[He (n:=(n:Int)+1) (by omega) (by omega),He (by omega) (by omega)];simp only[cU]
     omega) (λn j hj hd=>by
     unfold C0;simp only[Aa hI1,Dy]
     have:(bif decide ((j:Int)<((f.Blocks.getD i default).Ops.length:Int)) then decide ((n:Int)<=20000) else false)=false:=by
      rcases hd with rfl|h
      ·simp
      ·simp;omega
     rw[this];rfl)
   have e1:decide ((i:Int)<(f.Blocks.length:Int))=true:=by simpa using hi
   have e2:decide ((n:Int)<=20000)=true:=by simp;omega
   obtain⟨m1,q1,q2,q3⟩:=l1 _ 0 (n+1+(f.Blocks.getD i default).End.To.length) (F0 _);obtain⟨m2,q4,q5,q6⟩:=l2 _ 0 m1 (F0 _);rw[Oa]at q2 q3 q5 q6;refine⟨m2,?_,λhle=>?_,λhle=>?_⟩
   ·unfold C1;simp only[e1,e2,Ah,Aa hI1,Dy,K4 hi hf.blocks];rw[He (n:=(n:Int)+1) (by omega) (by omega),He (by omega) (by omega),show(n:Int)+1+((f.Blocks.getD i default).End.To.length:Int)=((n+1+(f.Blocks.getD i default).End.To.length:Nat):Int) by omega];rw[show((0:Nat):Int)=0 from rfl]at q1 q4;rw[q1,An,q4,An]
   ·simp only[UQ]at hle ⊢;have:=q2 (by omega);rw[q5 (by omega)];omega
   ·simp only[UQ];have h6:=q6 hle;have h3:=q3 (by omega);have:=q2 h3
    omega) (λn i hi hd=>by
   unfold C1
   have:(bif decide ((i:Int)<(f.Blocks.length:Int)) then decide ((n:Int)<=20000) else false)=false:=by
    rcases hd with rfl|h
    ·simp
    ·simp;omega
   simp only[this,Au]) f.Blocks.length 0 f.Params.length (F0 _)
 obtain⟨m,h1,h2,h4⟩:=h3;rw[Oa]at h2 h4;unfold C6;rw[show((0:Nat):Int)=0 from rfl]at h1;rw[h1,An]
 congr 1
 apply zzL76.2
 simp only[fa]
 constructor
 ·intro h;exact h4 (by omega)
 ·intro h;have:=h2 h;omega
theorem U7(n:Int):Bn n=some (numB n):=by unfold Bn numB;cases decide (0<=n)<;>rfl
theorem Sh(l:List Int)(h:l.length<=maxLen):Dq l=some (listB l):=by
 unfold Dq;rw[Pw]at h
 have hloop:=Hi l 0 numB (Gc l) (.inl ()) (.inr false) (λi hi hp=>by
   unfold Gc
   have:decide (i<(l.length:Int))=true:=by simpa using hi
   simp only[this,Ah,Aa (Ai hi),Dy,U7,An,hp,D6,Au,A6 hi (by omega)]) (λi hi hp=>by
   unfold Gc
   have:decide (i<(l.length:Int))=true:=by simpa using hi
   simp only[this,Ah,Aa (Ai hi),Dy,U7,An,hp,L4]) (by
   unfold Gc
   simp) l.length 0 (by omega)
 rw[show(0:Int)=(0:Nat) from rfl,hloop,Oa];unfold listB
 have e:decide ((l.length:Int)<=64)=decide (l.length<=64):=by grind
 cases l.all _
 ·rfl
 ·simp[e]
theorem pu(f:TFunc)(hf:YQ f):Kn f=some (sizeW f):=by
 unfold Kn
 have hl:=DH _ default Dm id (Ih f) (λn i hi=>by
   have e1:decide ((i:Int)<f.Blocks.length)=true:=by simpa using hi
   unfold Ih;simp only[e1,Ah,Aa (Ai hi),Dy,K4 hi hf.blocks]
   congr 3
   rw[Va,Va,Int.add_assoc _,Va];unfold Dm
   congr 1
   omega) (λn=>by
   unfold Ih
   simp) _ 0 0 (F0 _)
 rw[show w64 _=0 from rfl,show((0:Nat):Int)=0 from rfl]at hl;rw[hl];simp[sizeN,sizeW]
theorem tv(f:TFunc)(hf:YQ f):Iw f=some (Qy f):=by
 have hloop:Ac (E5 f) ((0:Nat):Int)=some (bif (f.Blocks.drop 0).all blockB then .inl () else .inr false):=by
  have step:∀ i:Nat,i<f.Blocks.length->E5 f (i:Int)=bif blockB (f.Blocks.getD i default) then some (.next ((i:Int)+1)) else some (.done (.inr false)):=λi hi=>by
   have hmem:=Ag (d:=(default:Ae)) hi;obtain⟨b1,b2,b3⟩:=hf.block _ hmem;have hPh:=hf.phi _ hmem;have hOp:=hf.op _ hmem;have hM:=Pw
   have e0:decide ((i:Int)<(f.Blocks.length:Int))=true:=by simpa using hi
   have l1:=Hi (f.Blocks.getD i default).Phis (default:Ba) FL (Gz f i) (.inl ()) (.inr false) (λj hj hp=>by
     obtain⟨p1,p2⟩:=hPh _ (Ag (d:=(default:Ba)) hj)
     have e1:decide ((j:Int)<((f.Blocks.getD i default).Phis.length:Int))=true:=by simpa using hj
     unfold Gz;simp only[e1,Ah,Dy,Aa (Ai hj),U7,An,Sh _ p1,Sh _ p2,A6 hj (by omega)]
     revert hp
     unfold FL
     cases numB ((f.Blocks.getD i default).Phis.getD j default).Bits<;>cases numB ((f.Blocks.getD i default).Phis.getD j default).Dst<;>cases listB ((f.Blocks.getD i default).Phis.getD j default).From<;>cases listB ((f.Blocks.getD i default).Phis.getD j default).Args<;>simp) (λj hj hp=>by
     obtain⟨p1,p2⟩:=hPh _ (Ag (d:=(default:Ba)) hj)
     have e1:decide ((j:Int)<((f.Blocks.getD i default).Phis.length:Int))=true:=by simpa using hj
     unfold Gz;simp only[e1,Ah,Dy,Aa (Ai hj),U7,An,Sh _ p1,Sh _ p2,A6 hj (by omega)]
     revert hp
     unfold FL
     cases numB ((f.Blocks.getD i default).Phis.getD j default).Bits<;>cases numB ((f.Blocks.getD i default).Phis.getD j default).Dst<;>cases listB ((f.Blocks.getD i default).Phis.getD j default).From<;>cases listB ((f.Blocks.getD i default).Phis.getD j default).Args<;>simp) (by
     unfold Gz
     simp) _ 0 (F0 _)
   have l2:=Hi (f.Blocks.getD i default).Ops (default:B2) eZ (G0 f i) (.inl ()) (.inr false) (λj hj hp=>by
     obtain⟨p1,_⟩:=hOp _ (Ag (d:=(default:B2)) hj)
     have e1:decide ((j:Int)<((f.Blocks.getD i default).Ops.length:Int))=true:=by simpa using hj
     unfold G0;simp only[e1,Ah,Dy,Aa (Ai hj),U7,An,Sh _ p1,A6 hj (by omega)]
     revert hp
     unfold eZ
     cases numB ((f.Blocks.getD i default).Ops.getD j default).Kind<;>cases numB ((f.Blocks.getD i default).Ops.getD j default).Bits<;>cases numB ((f.Blocks.getD i default).Ops.getD j default).Lanes<;>cases numB ((f.Blocks.getD i default).Ops.getD j default).Dst<;>cases listB ((f.Blocks.getD i default).Ops.getD j default).Args<;>simp) (λj hj hp=>by
     obtain⟨p1,_⟩:=hOp _ (Ag (d:=(default:B2)) hj)
     have e1:decide ((j:Int)<((f.Blocks.getD i default).Ops.length:Int))=true:=by simpa using hj
     unfold G0;simp only[e1,Ah,Dy,Aa (Ai hj),U7,An,Sh _ p1,A6 hj (by omega)]
     revert hp
     unfold eZ
     cases numB ((f.Blocks.getD i default).Ops.getD j default).Kind<;>cases numB ((f.Blocks.getD i default).Ops.getD j default).Bits<;>cases numB ((f.Blocks.getD i default).Ops.getD j default).Lanes<;>cases numB ((f.Blocks.getD i default).Ops.getD j default).Dst<;>cases listB ((f.Blocks.getD i default).Ops.getD j default).Args<;>simp) (by
     unfold G0
     simp) _ 0 (F0 _)
   rw[show((0:Nat):Int)=0 from rfl,Oa]at l1 l2;unfold E5;simp only[e0,Ah,Aa (Ai hi),l1,An];unfold blockB
   cases(f.Blocks.getD i default).Phis.all FL with
   | false=>rfl
   | true=>
    simp only[Ah,l2,An,Dy,U7,Sh _ b3,A6 hi (by have:=hf.blocks;omega)]
    cases(f.Blocks.getD i default).Ops.all eZ with
    | false=>rfl
    | true=>
     unfold cT
     cases numB (f.Blocks.getD i default).End.Kind<;>cases numB (f.Blocks.getD i default).End.Arg<;>cases listB (f.Blocks.getD i default).End.To<;>rfl
  exact Hi f.Blocks (default:Ae) blockB (E5 f) (.inl ()) (.inr false) (λi hi hp=>by rw[step i hi,hp];rfl) (λi hi hp=>by rw[step i hi,hp];rfl) (by
   unfold E5
   simp) _ 0 (F0 _)
 rw[show((0:Nat):Int)=0 from rfl,Oa]at hloop;unfold Iw Qy;simp only[Sh _ hf.params,U7,pu f hf,hloop]
 have e1:((f.Blocks.length:Int)==0) = !decide (1<=f.Blocks.length):=by
  rw[<- decide_not]
  by_cases h:f.Blocks.length=0
  ·simp[h]
  ·have h1:((f.Blocks.length:Int)==0)=false:=by simpa using h
   rw[h1];symm;apply C9;omega
 have e2:decide ((64:Int)<(f.Blocks.length:Int)) = !decide (f.Blocks.length<=64):=by rw[<- decide_not];apply zzL76.2;omega
 have e3:decide ((16:Int)<(f.Params.length:Int)) = !decide (f.Params.length<=16):=by rw[<- decide_not];apply zzL76.2;omega
 have e4:decide ((512:Int)<sizeW f) = !decide (sizeW f<=512):=by rw[<- decide_not];apply zzL76.2;omega
 rw[e1,e2,e3]
 generalize decide (1<=f.Blocks.length)=p1
 generalize decide (f.Blocks.length<=64)=p2
 generalize decide (f.Params.length<=16)=p3
 generalize listB f.Params=p4
 generalize numB f.Ret=p5
 cases p1 with
 | false=>simp
 | true=>cases p2 with
  | false=>simp
  | true=>cases p3 with
   | false=>simp
   | true=>cases p4 with
    | false=>simp
    | true=>cases p5 with
     | false=>simp
     | true=>
      simp only[D6,Bool.or_self,Ah,Au,Vd,An,e4]
      cases decide (sizeW f<=512) with
      | false=>simp
      | true=>cases f.Blocks.all blockB<;>simp
theorem pL{n:Int}:numB n=true↔0<=n/\n<=2147483647:=by simp[numB]
theorem listB_iff{l:List Int}:listB l=true↔om l/\l.length<=64:=by
 simp[listB,om,pL]
def zJ(n:Int):Prop:=0<=n/\n<18446744073709551616
structure OkB(b:Ae):Prop where
 may:blockB b=true
 phis:b.Phis.length<=512
 ops:b.Ops.length<=512
 imm:∀ o∈b.Ops,zJ o.Imm
structure OkF(f:TFunc):Prop where
 params:listB f.Params=true
 few:f.Params.length<=16
 ret:numB f.Ret=true
 blocks:f.Blocks.length<=64
 block:∀ b∈f.Blocks,OkB b
theorem blockB_iff{b:Ae}:blockB b=true↔(∀ p∈b.Phis,FL p=true)/\(∀ o∈b.Ops,eZ o=true)/\cT b.End=true:=by
 simp[blockB,and_assoc]
theorem gz{α:Type}(l:List α)(g:α->Nat)(B:Nat)(h:∀ a∈l,g a<=B):(l.map g).sum<=l.length*B:=by
 induction l with
 | nil=>simp
 | cons a l ih=>
  have h1:=h a (by simp);have h2:=ih (λb hb=>h b (by simp[hb]));rw[Cq,SQ,EW,Gm];omega
theorem p9{α:Type}(l:List α)(g k:α->Nat)(h:∀ a∈l,g a<=k a):(l.map g).sum<=(l.map k).sum:=by
 induction l with
 | nil=>simp
 | cons a l ih=>
  grind
theorem PZ{α:Type}(l:List α)(g:α->Nat)(h:∀ a∈l,1<=g a):l.length<=(l.map g).sum:=by
 induction l with
 | nil=>simp
 | cons a l ih=>
  grind
theorem f9{α:Type}{l:List α}{a:α}(g:α->Nat)(h:a∈l):g a<=(l.map g).sum:=by
 induction l with
 | nil=>cases h
 | cons b l ih=>
  grind
theorem OkF.size{f:TFunc}(h:OkF f):sizeN f<=65600/\sizeW f=sizeN f:=by
 have:sizeN f<=f.Blocks.length*1025:=gz _ _ _ λb hb=>by
  have h1:=(h.block b hb).phis;have h2:=(h.block b hb).ops;simp only[Dm];omega
 have h2:=h.blocks
 have h3:sizeN f<=65600:=by omega
 exact⟨h3,Ym (by omega)⟩
theorem JH{f:TFunc}(h:Qy f=true):1<=f.Blocks.length/\f.Blocks.length<=64/\f.Params.length<=16/\listB f.Params=true/\numB f.Ret=true/\sizeW f<=512/\∀ b∈f.Blocks,blockB b=true:=by
 simp only[Qy,A5,Fz,zzL27]at h;exact⟨h.1.1.1.1.1.1,h.1.1.1.1.1.2,h.1.1.1.1.2,h.1.1.1.2,h.1.1.2,h.1.2,h.2⟩
theorem ld{f:TFunc}(h:Qy f=true):f.Params.length<=64/\∀ b∈f.Blocks,b.End.To.length<=64/\(∀ p∈b.Phis,p.From.length<=64/\p.Args.length<=64)/\∀ o∈b.Ops,o.Args.length<=64:=by
 obtain⟨_,_,h3,_,_,_,h7⟩:=JH h;refine⟨by omega,λb hb=>?_⟩;obtain⟨q1,q2,q3⟩:=blockB_iff.1 (h7 b hb);simp only[cT,A5]at q3;refine⟨(listB_iff.1 q3.2).2,λp hp=>?_,λo ho=>?_⟩
 ·have:=q1 p hp;simp only[FL,A5]at this;exact⟨(listB_iff.1 this.1.2).2,(listB_iff.1 this.2).2⟩
 ·have:=q2 o ho;simp only[eZ,A5]at this;exact(listB_iff.1 this.2).2
theorem wc{f:TFunc}(hf:YQ f)(h:Qy f=true)(hs:fa f<=20000):OkF f/\sizeN f<=512:=by
 obtain⟨h1,h2,h3,h4,h5,h6,h7⟩:=JH h
 have hle:sizeN f<=fa f:=by
  have:sizeN f<=(f.Blocks.map UQ).sum:=p9 _ _ _ λb hb=>by
   have q1:b.Phis.length<=(b.Phis.map cV).sum:=PZ _ _ λp hp=>by simp only[cV];omega
   have q2:b.Ops.length<=(b.Ops.map cU).sum:=PZ _ _ λp hp=>by simp only[cU];omega
   simp only[Dm,UQ];omega
  simp only[fa];omega
 have hw:sizeW f=sizeN f:=Ym (by omega)
 have h512:sizeN f<=512:=by omega
 refine⟨⟨h4,h3,h5,h2,λb hb=>?_⟩,h512⟩;have hb512:Dm b<=sizeN f:=f9 _ hb;simp only[Dm]at hb512;exact⟨h7 b hb,by omega,by omega,λo ho=>(hf.op b hb o ho).2⟩
theorem MD(f:TFunc)(hf:YQ f):∃ sm,C6 f=some sm/\(sm=true->Qy f=true->OkF f/\sizeN f<=512/\1<=f.Blocks.length):=by
 obtain⟨sm,h⟩:=RX f hf;refine⟨sm,h,λh1 h2=>?_⟩;obtain⟨q1,q2⟩:=ld h2;rw[d8 f hf q1 q2]at h;obtain⟨r1,r2⟩:=wc hf h2 (by grind);exact⟨r1,r2,(JH h2).1⟩
def NY(l:Int):Int:=bif l==0 then 17 else bif l==1 then 20 else 22
def Lp(l:Int)(o:B2):Bool:=Gs o&&!decide (NY l<o.Kind)&&!(decide (l<2)&&decide (1<o.Lanes))
def F2(l:Int)(b:Ae):Bool:=(b.Phis.all λp=>widthB p.Bits)&&b.Ops.all (Lp l)
def N6(f:TFunc)(l:Int):Bool:=f.Params.all widthB&&f.Blocks.all (F2 l)&&widthB f.Ret
theorem tZ{m a b c:Bool}{x:Int}:(bif (bif (bif (!m) then true else a) then true else(bif b then c else false)) then(some (LR.done (Sum.inr false))) else some (LR.next x):Option (LR Int (Unit ⊕ Bool)))=some (bif (m&&!a&&!(b&&c)) then .next x else .done (.inr false)):=by
 grind
theorem lq{f:TFunc}(hf:OkF f){b:Ae}(hb:b∈f.Blocks){o:B2}(ho:o∈b.Ops):bm o:=by
 have h1:=hf.block b hb;have h2:=(blockB_iff.1 h1.may).2.1 o ho;simp only[eZ,A5]at h2;exact⟨⟨(h1.imm o ho).1,(h1.imm o ho).2⟩,by have:=(listB_iff.1 h2.2).2;omega⟩
theorem tF{f:TFunc}(hf:OkF f)(l:Int):J1 f l=some (N6 f l):=by
 have hp:=Hi f.Params (0:Int) widthB (Fp f) (.inl ()) (.inr false) (λi hi hp=>by
   unfold Fp
   have:decide ((i:Int)<(f.Params.length:Int))=true:=by simpa using hi
   simp only[this,Ah,Aa (Ai hi),Dy,Sg,An,hp,D6,Au,A6 hi (by have:=hf.few;omega)]) (λi hi hp=>by
   unfold Fp
   have:decide ((i:Int)<(f.Params.length:Int))=true:=by simpa using hi
   simp only[this,Ah,Aa (Ai hi),Dy,Sg,An,hp,L4]) (by
   unfold Fp;simp) f.Params.length 0 (by omega)
 have hb:=Hi f.Blocks (default:Ae) (F2 l) (Fq f l) (.inl ()) (.inr false)
 have hphi:∀ i:Nat,i<f.Blocks.length->Ac (D4 f (i:Int)) (0:Int)=some _:=λi hi=>by
  have hB:=hf.block _ (Ag (d:=(default:Ae)) hi)
  have:=Hi (f.Blocks.getD i default).Phis (default:Ba) (λp=>widthB p.Bits) (D4 f (i:Int)) (.inl ()) (.inr false) (λj hj hp=>by
   unfold D4
   have:decide ((j:Int)<((f.Blocks.getD i default).Phis.length:Int))=true:=by simpa using hj
   simp only[Aa (Ai hi),Dy,this,Ah,Aa (Ai hj),Sg,An,hp,D6,Au,A6 hj (by have:=hB.phis;omega)]) (λj hj hp=>by
   unfold D4
   have:decide ((j:Int)<((f.Blocks.getD i default).Phis.length:Int))=true:=by simpa using hj
   simp only[Aa (Ai hi),Dy,this,Ah,Aa (Ai hj),Sg,An,hp,L4]) (by
   unfold D4;simp[Aa (Ai hi)]) (f.Blocks.getD i default).Phis.length 0 (by omega)
  rw[show(0:Int)=((0:Nat):Int) from rfl,this,Oa]
 have hops:∀ i:Nat,i<f.Blocks.length->Ac (D5 f l (i:Int)) (0:Int)=some _:=λi hi=>by
  have hmem:=Ag (d:=(default:Ae)) hi;have hB:=hf.block _ hmem
  have key:∀(j:Nat),j<(f.Blocks.getD i default).Ops.length->D5 f l (i:Int) (j:Int)=some (bif Lp l ((f.Blocks.getD i default).Ops.getD j default) then .next ((j:Int)+1) else .done (.inr false)):=λj hj=>by
   unfold D5
   have hd:decide ((j:Int)<((f.Blocks.getD i default).Ops.length:Int))=true:=by simpa using hj
   have hok:=lq hf hmem (Ag (d:=(default:B2)) hj);simp only[Aa (Ai hi),Dy,hd,Ah,Aa (Ai hj),A6 hj (by have:=hB.ops;omega)];unfold Lp NY;cases h1:(l==1)<;>cases h0:(l==0)<;>simp only[Ah,Au,An,bF _ hok,tZ]
  have:=Hi (f.Blocks.getD i default).Ops (default:B2) (Lp l) (D5 f l (i:Int)) (.inl ()) (.inr false) (λj hj hp=>by rw[key j hj,hp];rfl) (λj hj hp=>by rw[key j hj,hp];rfl) (by
   unfold D5;simp[Aa (Ai hi)]) (f.Blocks.getD i default).Ops.length 0 (by omega)
  rw[show(0:Int)=((0:Nat):Int) from rfl,this,Oa]
 have hb':=hb (λi hi hp=>by
   unfold Fq
   have:decide ((i:Int)<(f.Blocks.length:Int))=true:=by simpa using hi
   simp only[F2,A5]at hp
   simp only[this,Ah,hphi i hi,hops i hi,hp.1,hp.2,An,A6 hi (by have:=hf.blocks;omega)]) (λi hi hp=>by
   unfold Fq
   have:decide ((i:Int)<(f.Blocks.length:Int))=true:=by simpa using hi
   simp only[F2]at hp;simp only[this,Ah,hphi i hi,hops i hi,An]
   cases h1:((f.Blocks.getD i default).Phis.all λp=>widthB p.Bits) with
   | false=>rfl
   | true=>grind) (by
   unfold Fq;simp) f.Blocks.length 0 (by omega)
 unfold J1 N6;rw[show(0:Int)=((0:Nat):Int) from rfl,hp,hb',Oa,Oa]
 cases f.Params.all widthB<;>cases f.Blocks.all (F2 l)<;>simp[Sg]
theorem HY:room=1099511627776:=rfl
theorem Mw{β:Type}(n A C:Nat)(E:Nat->List β)(hE:∀ i,i<n->(E i).length<=C)(f:List β×Int->Option (LR (List β×Int) (List β)))
  (hn:∀(acc:List β) (i:Nat),i<n->acc.length<=A+i*C->f (acc,(i:Int))=some (.next (acc++E i,(i:Int)+1)))
  (hd:∀ acc:List β,f (acc,(n:Int))=some (.done acc)):∀(k i:Nat) (acc:List β),i+k=n->acc.length<=A+i*C->Ac f (acc,(i:Int))=some (acc++(List.range' i k).flatMap E)
 | 0,i,acc,h,_=>by
  obtain rfl:i=n:=by omega
  rw[Am (hd acc)]
  simp
 | k+1,i,acc,h,hA=>by
  have hi:i<n:=by omega
  have h2:acc.length+C<=A+(i+1)*C:=by rw[Gm];omega
  rw[Aq (hn acc i hi hA),show(i+1)=((i+1:Nat):Int) by omega,Mw n A C E hE f hn hd k _ _ (by omega) (by grind),EV,MK,EU]
theorem Ke{β:Type}(C:Nat)(E:Nat->List β):∀ l:List Nat,(∀ i∈l,(E i).length<=C)->(l.flatMap E).length<=l.length*C
 | [],_=>by simp
 | a::l,h=>by
  have h1:=h a (by simp);have h2:=Ke C E l (λi hi=>h i (by simp[hi]));rw[MK,Fg,EW,Gm];omega
def Lq(l:List Bx)(v:Int):Int:=match l.findIdx? (λd=>d.V==v) with|some i=>(i:Int)|none=>-1
theorem ZZ(l:List Bx)(v:Int)(hl:l.length<=1000000):Ey l v=some (Lq l v):=by
 have key:∀(k i:Nat),i+k=l.length->Ac (Gh l v) i=some (match(l.drop i).findIdx? (λd=>d.V==v) with|some j=>.inr (i+j:Nat)|none=>.inl ()):=by
  intro k
  induction k with
  | zero=>
   intro i h
   obtain rfl:i=l.length:=by omega
   rw[Am (x:=.inl ()) (by unfold Gh;simp)]
   simp
  | succ k ih=>
   intro i h
   have hi:i<l.length:=by omega
   have hdr:l.drop i=l.getD i default::l.drop (i+1):=by simp_all
   have hd:decide (i<(l.length:Int))=true:=by simpa using hi
   rw[hdr,List.findIdx?_cons]
   cases hb:(l.getD i _).V==v with
   | true=>
    rw[Am (x:=.inr i) (by unfold Gh;simp only[hd,Ah,Aa (Ai hi),Dy,hb])]
    simp
   | false=>
    rw[Aq (s':=((i+1:Nat):Int)) (by unfold Gh;simp only[hd, Aa (Ai hi),Dy,hb, A6 hi (by omega)];rfl),ih _ (by omega)]
    cases(l.drop _).findIdx? _ with
    | none=>simp
    | some j=>simp;omega
 unfold Ey Lq;rw[show 0=((0:Nat):Int) from rfl,key l.length 0 (by omega),Oa]
 cases l.findIdx? _ with
 | none=>rfl
 | some j=>simp
def H1(o:B2):Int×Int:=bif Gs o then Xo o.Kind o.Bits o.Lanes else(0,0)
def Hd(o:B2):List (Int×Int):=bif Gs o then Rx o else[]
def Rb(f:TFunc):List Bx:=(List.range f.Params.length).flatMap λ(i:Nat)=>[⟨(i:Int)+1,-1,0,(f.Params.getD i 0,1)⟩]
def Rz(b:Ae)(i:Nat):List Bx:=(List.range b.Phis.length).flatMap λ(k:Nat)=>[⟨(b.Phis.getD k default).Dst,i,-1,((b.Phis.getD k default).Bits,1)⟩]
def Xg(b:Ae)(i:Nat):List Bx:=(List.range b.Ops.length).flatMap λ(k:Nat)=>bif decide (0<(H1 (b.Ops.getD k default)).1) then[⟨(b.Ops.getD k default).Dst,i,k,H1 (b.Ops.getD k default)⟩] else[]
def Ra(b:Ae)(i:Nat):List Bx:=Rz b i++Xg b i
def Aw(f:TFunc):List Bx:=Rb f++(List.range f.Blocks.length).flatMap λi=>Ra (f.Blocks.getD i default) i
theorem LB(b:Ae)(i:Nat):(Rz b i).length<=b.Phis.length:=by
 have:=Ke 1 (λk=>[(⟨(b.Phis.getD k default).Dst,i,-1,((b.Phis.getD k default).Bits,1)⟩:Bx)]) (List.range b.Phis.length) (λ_ _=>zzL6 _)
 simpa [Rz] using this
theorem fZ(b:Ae)(i:Nat):(Xg b i).length<=b.Ops.length:=by
 have:=Ke 1 (λk=>bif decide (0<(H1 (b.Ops.getD k default)).1) then[(⟨(b.Ops.getD k default).Dst,i,k,H1 (b.Ops.getD k default)⟩:Bx)] else[]) (List.range b.Ops.length) (λk _=>by grind)
 simpa [Xg] using this
theorem WD{f:TFunc}(hf:OkF f){i:Nat}(hi:i<f.Blocks.length):(Ra (f.Blocks.getD i default) i).length<=1024:=by
 have hB:=hf.block _ (Ag (d:=default) hi);have h1:=LB (f.Blocks.getD i default) i;have h2:=fZ (f.Blocks.getD i default) i;have h3:=hB.phis;have h4:=hB.ops;rw[Ra,Fg];omega
theorem CZ(f:TFunc):(Rb f).length=f.Params.length:=by
 have h:∀ l:List Nat,(l.map λ_=>1).sum=l.length:=λl=>by induction l with|nil=>rfl|cons a l ih=>simp[ih];omega
 simp[Rb, h]
theorem lK{f:TFunc}(hf:OkF f):(Aw f).length<=100000:=by
 have h1:=Ke _ _ (List.range _) (λi hi=>WD hf (by simpa using hi));have h2:=CZ f;have h3:=hf.few;have h4:=hf.blocks;rw[S4]at h1;rw[Aw,Fg];omega
theorem wX{f:TFunc}(hf:OkF f):Kr f=some (Aw f):=by
 have hp:=Mw f.Params.length 0 1 (λ(i:Nat)=>[(⟨(i:Int)+1,-1,0,(f.Params.getD i 0,1)⟩:Bx)]) (λ_ _=>zzL6 _) (Im f) (λacc i hi hA=>by
   unfold Im
   have hd:decide ((i:Int)<(f.Params.length:Int))=true:=by simpa using hi
   have hr:acc.length+([(⟨(i:Int)+1,(-1:Int),(0:Int),((f.Params.getD i 0),(1:Int))⟩:Bx)]:List (Bx)).length<=room:=by have:=hf.few;rw[HY];simp;omega
   simp only[hd,Ah,Aa (Ai hi),Dy,A6 hi (by have:=hf.few;omega),Aa hr]) (λacc=>by unfold Im;simp) f.Params.length 0 [] (by omega) (by simp)
 have hphi:∀(i:Nat),i<f.Blocks.length->∀ acc:List Bx,acc.length<=100000->Ac (Gf f (i:Int)) (acc,(0:Int))=some (acc++Rz (f.Blocks.getD i default) i):=λi hi acc hacc=>by
  have hB:=hf.block _ (Ag (d:=(default:Ae)) hi)
  have:=Mw (f.Blocks.getD i default).Phis.length 100000 1 (λ(k:Nat)=>[(⟨((f.Blocks.getD i default).Phis.getD k default).Dst,i,-1,(((f.Blocks.getD i default).Phis.getD k default).Bits,1)⟩:Bx)]) (λ_ _=>zzL6 _) (Gf f (i:Int)) (λacc k hk hA=>by
   unfold Gf
   have hd:decide ((k:Int)<((f.Blocks.getD i default).Phis.length:Int))=true:=by simpa using hk
   have hr:∀ x:Bx,acc.length+([x]:List Bx).length<=room:=λx=>by have:=hB.phis;rw[HY];simp;omega
   simp only[Dy,hd,Ah,Aa (Ai hk),A6 hk (by have:=hB.phis;omega),Aa (hr _)]) (λacc=>by unfold Gf;simp) (f.Blocks.getD i default).Phis.length 0 acc (by omega) (by omega)
  rw[show(0:Int)=((0:Nat):Int) from rfl,this,Rz,Sn]
 have hop:∀(i:Nat),i<f.Blocks.length->∀ acc:List Bx,acc.length<=100000->Ac (Gg f (i:Int)) (acc,(0:Int))=some (acc++Xg (f.Blocks.getD i default) i):=λi hi acc hacc=>by
  have hmem:=Ag (d:=(default:Ae)) hi;have hB:=hf.block _ hmem
  have:=Mw (f.Blocks.getD i default).Ops.length 100000 1 (λ(k:Nat)=>bif decide (0<(H1 ((f.Blocks.getD i default).Ops.getD k default)).1) then[(⟨((f.Blocks.getD i default).Ops.getD k default).Dst,i,k,H1 ((f.Blocks.getD i default).Ops.getD k default)⟩:Bx)] else[]) (λk _=>by grind) (Gg f (i:Int)) (λacc k hk hA=>by
   unfold Gg;have hok:=lq hf hmem (Ag (d:=(default:B2)) hk)
   have hd:decide ((k:Int)<((f.Blocks.getD i default).Ops.length:Int))=true:=by simpa using hk
   have hr:∀ x:Bx,acc.length+([x]:List Bx).length<=room:=λx=>by have:=hB.ops;rw[HY];simp;omega
   have hg:Hk ((f.Blocks.getD i default).Ops.getD k default)=some (H1 ((f.Blocks.getD i default).Ops.getD k default)):=lw _ hok;simp only[Dy,hd,Ah,Aa (Ai hk),hg,An,A6 hk (by have:=hB.ops;omega),Aa (hr _)]
   cases decide (0<(H1 ((f.Blocks.getD i default).Ops.getD k default)).1)<;>simp) (λacc=>by unfold Gg;simp) (f.Blocks.getD i default).Ops.length 0 acc (by omega) (by omega)
  rw[show(0:Int)=((0:Nat):Int) from rfl,this,Xg,Sn]
 have hb:=Mw f.Blocks.length 16 1024 (λi=>Ra (f.Blocks.getD i default) i) (λi hi=>WD hf hi) (In f) (λacc i hi hA=>by
   unfold In
   have hd:decide ((i:Int)<(f.Blocks.length:Int))=true:=by simpa using hi
   have hB:=hf.block _ (Ag (d:=(default:Ae)) hi);have h64:=hf.blocks;have h2:=LB (f.Blocks.getD i default) i;have h3:=hB.phis
   simp only[hd,Ah,Aa (Ai hi),hphi i hi acc (by omega),An,hop i hi (acc++Rz (f.Blocks.getD i default) i) (by rw[Fg];omega),A6 hi (by omega),Ra,EU]) (λacc=>by unfold In;simp) f.Blocks.length 0 (Rb f) (by omega) (by have:=CZ f;have:=hf.few;omega)
 unfold Kr;rw[show(0:Int)=((0:Nat):Int) from rfl,hp,An,Y9]
 have e:(List.range' 0 f.Params.length).flatMap (λ(i:Nat)=>[(⟨(i:Int)+1,-1,0,(f.Params.getD i 0,1)⟩:Bx)])=Rb f:=by rw[Rb,Sn]
 rw[e,hb,An,Aw,Sn]
def N7(p:Ba):List Cm:=(List.range p.Args.length).flatMap λ(j:Nat)=>[⟨p.Args.getD j 0,p.From.getD j 0,1000,(p.Bits,1)⟩]
def M8(b:Ae):List Cm:=(List.range b.Phis.length).flatMap λ(k:Nat)=>N7 (b.Phis.getD k default)
def Q5(o:B2)(i k:Nat):List Cm:=(List.range (Hd o).length).flatMap λ(j:Nat)=>[⟨o.Args.getD j 0,i,k,(Hd o).getD j (0,0)⟩]
def Sy(b:Ae)(i:Nat):List Cm:=(List.range b.Ops.length).flatMap λ(k:Nat)=>Q5 (b.Ops.getD k default) i k
def Yl(f:TFunc)(b:Ae)(i:Nat):List Cm:=(bif b.End.Kind==0 then[⟨b.End.Arg,i,1000,(f.Ret,1)⟩] else[])++(bif b.End.Kind==2 then[⟨b.End.Arg,i,1000,(1,1)⟩] else[])
def HZ(f:TFunc)(b:Ae)(i:Nat):List Cm:=M8 b++Sy b i++Yl f b i
def Bf(f:TFunc):List Cm:=(List.range f.Blocks.length).flatMap λ(i:Nat)=>HZ f (f.Blocks.getD i default) i
theorem Yj{o:B2}(h:o.Args.length<=64):(Hd o).length<=64/\(Hd o).length<=o.Args.length:=by
 unfold Hd
 cases hm:Gs o with
 | false=>simp
 | true=>
  simp only[Ah]
  have :=by
   simp only[Gs,A5]at hm;exact hm.1.2.2
  have h2 :=by simpa using this
  have h3:(Rx o).length=o.Args.length:=by rw[Rx,Dn,S4,<- h2,Dy]
  omega
theorem QX{f:TFunc}(hf:OkF f){b:Ae}(hb:b∈f.Blocks){p:Ba}(hp:p∈b.Phis):p.From.length<=64/\p.Args.length<=64:=by
 have:=(blockB_iff.1 (hf.block b hb).may).1 p hp;simp only[FL,A5]at this;exact⟨(listB_iff.1 this.1.2).2,(listB_iff.1 this.2).2⟩
theorem jh{f:TFunc}(hf:OkF f){b:Ae}(hb:b∈f.Blocks){o:B2}(ho:o∈b.Ops):o.Args.length<=64:=by
 have:=(blockB_iff.1 (hf.block b hb).may).2.1 o ho;simp only[eZ,A5]at this;exact(listB_iff.1 this.2).2
theorem IA(p:Ba):(N7 p).length<=p.Args.length:=by
 have:=Ke 1 (λj=>[(⟨p.Args.getD j 0,p.From.getD j 0,1000,(p.Bits,1)⟩:Cm)]) (List.range p.Args.length) (λ_ _=>zzL6 _)
 simpa [N7] using this
theorem MG(o:B2)(i k:Nat):(Q5 o i k).length<=(Hd o).length:=by
 have:=Ke 1 (λj=>[(⟨o.Args.getD j 0,i,k,(Hd o).getD j (0,0)⟩:Cm)]) (List.range (Hd o).length) (λ_ _=>zzL6 _)
 simpa [Q5] using this
theorem MH{f:TFunc}(hf:OkF f){b:Ae}(hb:b∈f.Blocks):(M8 b).length<=32768:=by
 have:=Ke 64 (λk=>N7 (b.Phis.getD k default)) (List.range _) (λk hk=>by
  have h1:=IA (b.Phis.getD k default);have h2:=(QX hf hb (Ag (d:=default) (by simpa using hk))).2
  omega)
 have h3:=(hf.block b hb).phis;rw[S4]at this;rw[M8];omega
theorem SB{f:TFunc}(hf:OkF f){b:Ae}(hb:b∈f.Blocks)(i:Nat):(Sy b i).length<=32768:=by
 have:=Ke 64 (λk=>Q5 (b.Ops.getD k default) i k) (List.range _) (λk hk=>by
  have h1:=MG (b.Ops.getD k default) i k;have h2:=(Yj (jh hf hb (Ag (d:=default) (by simpa using hk)))).1
  omega)
 have h3:=(hf.block b hb).ops;rw[S4]at this;rw[Sy];omega
theorem eI(f:TFunc)(b:Ae)(i:Nat):(Yl f b i).length<=2:=by
 unfold Yl
 cases b.End.Kind==0<;>cases b.End.Kind==2<;>simp
theorem XY{f:TFunc}(hf:OkF f){i:Nat}(hi:i<f.Blocks.length):(HZ f (f.Blocks.getD i default) i).length<=70000:=by
 have hmem:=Ag (d:=default) hi;have h1:=MH hf hmem;have h2:=SB hf hmem i;have h3:=eI f (f.Blocks.getD i default) i;rw[HZ,Fg,Fg];omega
theorem KB{f:TFunc}(hf:OkF f):(Bf f).length<=4480000:=by
 have h1:=Ke _ _ (List.range _) (λi hi=>XY hf (by simpa using hi));have h4:=hf.blocks;rw[S4]at h1;rw[Bf];omega
def jn(f:TFunc):Prop:=∀ b∈f.Blocks,∀ p∈b.Phis,p.Args.length<=p.From.length
theorem wa{f:TFunc}(hf:OkF f)(hp:jn f):Ks f=some (Bf f):=by
 have hbig:∀{n:Nat},n<=100000000->∀ x:Cm,n+([x]:List Cm).length<=room:=λ{n} h x=>by rw[HY];simp;omega
 have h1:∀(i:Nat),i<f.Blocks.length->∀(k:Nat),k<(f.Blocks.getD i default).Phis.length->∀ acc:List Cm,acc.length<=50000000->Ac (Gi f (i:Int) (k:Int)) (acc,(0:Int))=some (acc++N7 ((f.Blocks.getD i default).Phis.getD k default)):=λi hi k hk acc hacc=>by
  have hmem:=Ag (d:=(default:Ae)) hi;have hpm:=Ag (d:=(default:Ba)) hk;have hlen:=QX hf hmem hpm;have hfit:=hp _ hmem _ hpm
  have:=Mw ((f.Blocks.getD i default).Phis.getD k default).Args.length 50000000 1 (λ(j:Nat)=>[(⟨((f.Blocks.getD i default).Phis.getD k default).Args.getD j 0,((f.Blocks.getD i default).Phis.getD k default).From.getD j 0,1000,(((f.Blocks.getD i default).Phis.getD k default).Bits,1)⟩:Cm)]) (λ_ _=>zzL6 _) (Gi f (i:Int) (k:Int)) (λacc j hj hA=>by
   unfold Gi
   have hd:decide ((j:Int)<(((f.Blocks.getD i default).Phis.getD k default).Args.length:Int))=true:=by simpa using hj
   simp only[Dy,hd,Ah,Aa (Ai hj),Aa (Ai (Nat.lt_of_lt_of_le hj hfit)),A6 hj (by omega),Aa (hbig (n:=acc.length) (by omega) _)]) (λacc=>by unfold Gi;simp) ((f.Blocks.getD i default).Phis.getD k default).Args.length 0 acc (by omega) (by omega)
  rw[show(0:Int)=((0:Nat):Int) from rfl,this,N7,Sn]
 have h2:∀(i:Nat),i<f.Blocks.length->∀ acc:List Cm,acc.length<=40000000->Ac (Gj f (i:Int)) (acc,(0:Int))=some (acc++M8 (f.Blocks.getD i default)):=λi hi acc hacc=>by
  have hmem:=Ag (d:=(default:Ae)) hi;have hB:=hf.block _ hmem
  have:=Mw (f.Blocks.getD i default).Phis.length 40000000 64 (λ(k:Nat)=>N7 ((f.Blocks.getD i default).Phis.getD k default)) (λk hk=>by have:=IA ((f.Blocks.getD i default).Phis.getD k default);have:=(QX hf hmem (Ag (d:=(default:Ba)) hk)).2;omega) (Gj f (i:Int)) (λacc k hk hA=>by
   unfold Gj
   have hd:decide ((k:Int)<((f.Blocks.getD i default).Phis.length:Int))=true:=by simpa using hk
   have h5:=hB.phis;have h6:k*64<=512*64:=Fv _ (by omega)
   simp only[Dy,hd,Ah,Aa (Ai hk),h1 i hi k hk acc (by omega),An,A6 hk (by omega)]) (λacc=>by unfold Gj;simp) (f.Blocks.getD i default).Phis.length 0 acc (by omega) (by omega)
  rw[show(0:Int)=((0:Nat):Int) from rfl,this,M8,Sn]
 have h3:∀(i:Nat),i<f.Blocks.length->∀(k:Nat),k<(f.Blocks.getD i default).Ops.length->∀ acc:List Cm,acc.length<=50000000->Ac (Gk f (i:Int) (k:Int) (Hd ((f.Blocks.getD i default).Ops.getD k default))) (acc,(0:Int))=some (acc++Q5 ((f.Blocks.getD i default).Ops.getD k default) i k):=λi hi k hk acc hacc=>by
  have hmem:=Ag (d:=(default:Ae)) hi;have hom:=Ag (d:=(default:B2)) hk;have hlen:=Yj (jh hf hmem hom)
  have:=Mw (Hd ((f.Blocks.getD i default).Ops.getD k default)).length 50000000 1 (λ(j:Nat)=>[(⟨((f.Blocks.getD i default).Ops.getD k default).Args.getD j 0,i,k,(Hd ((f.Blocks.getD i default).Ops.getD k default)).getD j (0,0)⟩:Cm)]) (λ_ _=>zzL6 _) (Gk f (i:Int) (k:Int) (Hd ((f.Blocks.getD i default).Ops.getD k default))) (λacc j hj hA=>by
   unfold Gk
   have hd:decide ((j:Int)<((Hd ((f.Blocks.getD i default).Ops.getD k default)).length:Int))=true:=by simpa using hj
   simp only[Dy,hd,Ah,Aa (Ai hk),Aa (Ai hj),Aa (Ai (Nat.lt_of_lt_of_le hj hlen.2)),A6 hj (by omega),Aa (hbig (n:=acc.length) (by omega) _)]) (λacc=>by unfold Gk;simp) (Hd ((f.Blocks.getD i default).Ops.getD k default)).length 0 acc (by omega) (by omega)
  rw[show(0:Int)=((0:Nat):Int) from rfl,this,Q5,Sn]
 have h4:∀(i:Nat),i<f.Blocks.length->∀ acc:List Cm,acc.length<=40000000->Ac (Gl f (i:Int)) (acc,(0:Int))=some (acc++Sy (f.Blocks.getD i default) i):=λi hi acc hacc=>by
  have hmem:=Ag (d:=(default:Ae)) hi;have hB:=hf.block _ hmem
  have:=Mw (f.Blocks.getD i default).Ops.length 40000000 64 (λ(k:Nat)=>Q5 ((f.Blocks.getD i default).Ops.getD k default) i k) (λk hk=>by have:=MG ((f.Blocks.getD i default).Ops.getD k default) i k;have:=(Yj (jh hf hmem (Ag (d:=(default:B2)) hk))).1;omega) (Gl f (i:Int)) (λacc k hk hA=>by
   unfold Gl
   have hd:decide ((k:Int)<((f.Blocks.getD i default).Ops.length:Int))=true:=by simpa using hk
   have h5:=hB.ops;have h6:k*64<=512*64:=Fv _ (by omega);have ht:Hl ((f.Blocks.getD i default).Ops.getD k default)=some (Hd ((f.Blocks.getD i default).Ops.getD k default)):=ly _ (lq hf hmem (Ag (d:=(default:B2)) hk))
   simp only[Dy,hd,Ah,Aa (Ai hk),ht,An,h3 i hi k hk acc (by omega),A6 hk (by omega)]) (λacc=>by unfold Gl;simp) (f.Blocks.getD i default).Ops.length 0 acc (by omega) (by omega)
  rw[show(0:Int)=((0:Nat):Int) from rfl,this,Sy,Sn]
 have hb:=Mw f.Blocks.length 0 70000 (λ(i:Nat)=>HZ f (f.Blocks.getD i default) i) (λi hi=>XY hf hi) (Io f) (λacc i hi hA=>by
   unfold Io
   have hd:decide ((i:Int)<(f.Blocks.length:Int))=true:=by simpa using hi
   have hmem:=Ag (d:=(default:Ae)) hi;have h64:=hf.blocks;have q1:i*70000<=64*70000:=Fv _ (by omega);have q2:=MH hf hmem;have q3:=SB hf hmem i;have e1:=h4 i hi (acc++M8 (f.Blocks.getD i default)) (by rw[Fg];omega)
   have l1:(acc++M8 (f.Blocks.getD i default)++Sy (f.Blocks.getD i default) i).length<=50000000:=by rw[Fg,Fg];omega
   simp only[hd,Ah,Aa (Ai hi),h2 i hi acc (by omega),An,e1,Dy,Aa (hbig (n:=(acc++M8 (f.Blocks.getD i default)++Sy (f.Blocks.getD i default) i).length) (by omega) _),HZ,Yl]
   cases(f.Blocks.getD i default).End.Kind==0 with
   | true=>
    simp only[Ah,An]
    cases(f.Blocks.getD i default).End.Kind==2 with
    | true=>rw[Aa (by rw[Fg];have:=hbig (n:=(acc++M8 (f.Blocks.getD i default)++Sy (f.Blocks.getD i default) i).length+1) (by omega) (default:Cm);simpa using this)];simp[A6 hi (by omega:f.Blocks.length<9223372036854775808)]
    | false=>simp[A6 hi (by omega:f.Blocks.length<9223372036854775808)]
   | false=>
    simp only[Au,An]
    cases(f.Blocks.getD i default).End.Kind==2 with
    | true=>rw[Ah,Aa (hbig (n:=(acc++M8 (f.Blocks.getD i default)++Sy (f.Blocks.getD i default) i).length) (by omega) _)];simp[A6 hi (by omega:f.Blocks.length<9223372036854775808)]
    | false=>simp[A6 hi (by omega:f.Blocks.length<9223372036854775808)]) (λacc=>by unfold Io;simp) f.Blocks.length 0 [] (by omega) (by simp)
 unfold Ks;rw[show(0:Int)=((0:Nat):Int) from rfl,hb,An,Bf,Sn,Y9]
end
end Go.Proofs.YtfhggcbcamamdaaGreat
