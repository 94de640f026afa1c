/-
  The machine, the program's functions and the laws' arithmetic: part 4 of 5.
-/
import Derived.Test.YtiendmljhgbjoaaGreatPk3
import Derived.Lib.RowBridge
import Derived.OpenShut
import Derived.ShutString
set_option linter.unusedSectionVars false
set_option linter.unusedVariables false
set_option linter.unusedSimpArgs false
namespace Go.Proofs.YtiendmljhgbjoaaGreat
noncomputable section
open Go Go.RowKit
set_option maxRecDepth 100000
set_option maxHeartbeats 2000000
abbrev EN:=(Int×(Int×Int))
abbrev kq:=(LR (List (Int×(Int×Int))) (List (Int×(Int×Int))))
def H0 :List EN->Option kq:=
 λ(l4:List EN)=>(some (.done l4))
def Ge(x1:SX):Nat->List EN->Option kq:=
 λ(n3:Nat) (l4:List EN)=>(some (.next (Eh l4 (x1.2.2.2.2.2.getD n3 ((0:Int),(default:Aj))).1 (((x1.2.2.2.2.2.getD n3 ((0:Int),(default:Aj))).2).shape.1,((x1.2.2.2.2.2.getD n3 ((0:Int),(default:Aj))).2).shape.2))))
def YJ(x1:SX)(n3:Nat):=(x1.2.2.2.2.2.getD n3 ((0:Int),(default:Aj)))
def gD(x1:SX):=(mapE (λ(v_:Aj)=>((O6 v_):AV)) x1.2.2.2.2.2)
def mO(a3:Ab):AV:=(.agg [(Pp a3.Params),(Z7 a3.Ret),(YK a3.Blocks),de,gH,.nilm,(AV.list 5 I6 default ([]:List A7) .exact)])
def mN(a3:Ab):=(⟨[(3,(.ptr 3 0))],[(3,.row 110 [(Pp a3.Params),(Z7 a3.Ret),(YK a3.Blocks),de,gH,.nilm,(AV.list 5 I6 default ([]:List A7) .exact)])],[]⟩:St)
def lf(a3:Ab):=(⟨[(3,(.ptr 3 0))],[(3,.row 110 [(Pp a3.Params),(Z7 a3.Ret),(YK a3.Blocks),de,gH,.nilm,(AV.list 5 I6 default ([]:List A7) (.own 50306))]),(50306,.tok 5 195 (([]:List A7).length))],[]⟩:St)
def Kg(a3:Ab):Option (List (Int×(Int×Int))):=
 ((F1 a3 (2:Int) ([]:A1) ([]:List A7)).bind λx1=>(bif (x1.1 !=0) then(some ([]:List EN)) else((Vk (S:=List EN) (X:=List EN) HL ((mapE (λ(v_:Aj)=>((.agg (Pz v_)):AV)) x1.2.2.2.2.2).length) (Ge x1) H0 ([]:List EN)).bind (λx6=>(some x6)))))
variable{v0:Ab}{v32:List EN}
theorem AF(h:Kg v0=some v32):sP 36 [(.agg (Xy v0))] [] (.omap 20000) [(20000,.obj (.pmap false .i64 (mapE (λ(v_:Gm)=>((BR v_):AV)) v32)))]:=
 sG Tryz.func36 λΓ q=>Ap q [1] [1] (gR q [3] [3] [(8,(mO v0))] [] (c1 (show(AVle (.agg [(Pp v0.Params),(Z7 v0.Ret),(YK v0.Blocks),de,QH,.nilm,QH]) (mO v0)) from(AVle.agg (.cons (AVle.refl _) (.cons (AVle.refl _) (.cons (AVle.refl _) (.cons (AVle.refl _) (.cons Ee (.cons (AVle.refl _) (.cons Ee .nil)))))))))) (Tn (mN v0) (Mm (show Le Γ _ (lf v0) from Le.trans (Du (st':=(mN v0)) [3] [3] q) (Le.trans (N3 (r:=3) (j:=6) (nm:=50306) (sz':=5) (λi=>I6 (([]:List A7).getD i default)) 195 rfl rfl (nl rfl) rfl (.inl ⟨rfl,rfl⟩) (λh_=>absurd h_ (by decide))) (Du (st':=(lf v0)) [3] [3,50306] q))) (Mm (show Le Γ _ (⟨[(3,(.ptr 3 0))],[(3,.row 110 [(Pp v0.Params),(Z7 v0.Ret),(YK v0.Blocks),de,(AV.list 1 Ay 0 ([]:A1) .none),.nilm,(AV.list 5 I6 default ([]:List A7) (.own 50306))]),(50306,.tok 5 195 (([]:List A7).length))],[]⟩:St) from Le.trans (Du (st':=(lf v0)) [3] [3,50306] q) (Kf (.cons (AVle.refl _) .nil) (.row (.cons (AVle.refl _) (.cons (AVle.refl _) (.cons (AVle.refl _) (.cons (AVle.refl _) (.cons AVle.untag (.cons (AVle.refl _) (.cons (AVle.refl _) .nil))))))) (.same .nil)))) (tB h λx1 y1 h=>tT q [3,10] [3,50306,10000305] [⟨[(3,30000),(50306,37006)],[(9200005,10000305)],(Z7 x1.1),(j5 x1.2.1.Params x1.2.1.Ret x1.2.1.Blocks x1.2.2.1 x1.2.2.2.1 9200005 x1.2.2.2.2.1 x1.2.2.2.2.1.length (gD x1)),[],[]⟩] (c1 (Ql y1)) (gC h (λh=>Ap q [2] [] (Tn (⟨[(2,.nilm)],[],[]⟩:St) (tS h (gK (e:=.ret) (Kz [(36002,20000)] (Le.trans (Le.trans (et (t:=2) (nm:=36002) .i64 rfl rfl) (Du (st':=⟨[(2,(.omap 36002))],[(36002,.obj (.map false .i64 (mapE (λ(v_:Gm)=>((BR v_):AV)) ([]:List EN))))],[]⟩) [2] [36002] q)) (mX 36002 false .i64 (f:=(λ(v_:Gm)=>((BR v_):AV))) XK))))))) λh=>gR q [3,4] [3,14,50306,10000305] [(13,(LC x1.2.2.2.2.2.length))] [] (c1 (show(AVle (.int .i64 ((gD x1).length:Int)) (LC x1.2.2.2.2.2.length)) from(fH (f:=(λ(v_:Aj)=>((O6 v_):AV))) (l:=x1.2.2.2.2.2) rfl))) (Mm (Sd (λ(k_:List FW) u=>Fq u [] [(YM 14 k_)]) (show[]=(mapE (λ(v_:Gm)=>((BR v_):AV)) ([]:List EN)) from rfl)) (Ap q [4,17] VI (tB h λx6 y6 h=>mn q y6 [4,17] VI (λu z2 l4=>(Fq u [] [(14,.obj (.map true .i64 (mapE (λ(v_:Gm)=>((BR v_):AV)) l4))),(17,.obj (.miter (.omap 10000305) ((gD x1).length) z2))])) (λu l5=>aG Γ (.exit 0) (W7 [4] [14] u [] [(14,.obj (.map true .i64 (mapE (λ(v_:Gm)=>((BR v_):AV)) l5)))])) 17 18 19 17 10000305 false .i64 (gD x1) [4,17,19] VI (kd:=(λz2 l4 y h hall=>WS false (tS h (gO (Dz (Du [4] [14] q)))))) (kn:=(λz2 l4 n3 y h hin3 hnn3=>WS true (gR q [4,5,6,17] [6,14,17,10000305] [(20,(.tuple [(.int .i64 (YJ x1 n3).1),(.agg (Pz ((YJ x1 n3).2)))]))] [] (c3 (Eq.refl ((gD x1).length)) (show(n3<(gD x1).length) from hin3) (show(AVle (.tuple [.int .i64 ((gD x1).getD n3 (0,.any)).1,((gD x1).getD n3 (0,.any)).2]) (.tuple [(.int .i64 (YJ x1 n3).1),(.agg (Pz ((YJ x1 n3).2)))])) from(fF (f:=(λ(v_:Aj)=>((O6 v_):AV))) (l:=x1.2.2.2.2.2) hin3))) (Ap q [4,17] VI (tS h (gN (Le.trans (Sd (λ(k_:List FW) u=>Fq u [] [(YM 14 k_)]) (show(Eh (mapE (λ(v_:Gm)=>((BR v_):AV)) l4) (YJ x1 n3).1 (.agg [(.int .i64 ((YJ x1 n3).2).shape.1),(.int .i64 ((YJ x1 n3).2).shape.2)]))=(mapE (λ(v_:Gm)=>((BR v_):AV)) (Eh l4 (YJ x1 n3).1 (((YJ x1 n3).2).shape.1,((YJ x1 n3).2).shape.2))) from(Ws (f:=(λ(v_:Gm)=>((BR v_):AV))) (l:=l4) (v:=(((YJ x1 n3).2).shape.1,((YJ x1 n3).2).shape.2)) rfl rfl))) Mx))))))) (ko:=(λl_ hp_=>ge (λst' hl7=>Mm (Le.trans hl7 (mX 14 true .i64 (f:=(λ(v_:Gm)=>((BR v_):AV))) hp_)) (Ap q [2] [14] (Tn (⟨[(2,(.omap 14))],[(14,.obj (.pmap true .i64 (mapE (λ(v_:Gm)=>((BR v_):AV)) x6)))],[]⟩:St) (tS h (gK (e:=.ret) (Kz [(14,20000)] (mr 14 .i64 (mapE (λ(v_:Gm)=>((BR v_):AV)) x6)))))))))))))))))))
abbrev f4:=(Int×List (Int×Ce))
abbrev kr:=(LR (Int×List (Int×Ce)) (List (Int×Ce)))
abbrev Ys:=(Int×Ce)
def G2(a3:Ab)(i1:Int):f4->Option kr:=
 λ((i5,l6):f4)=>(bif (decide (i5<(((a3.Blocks.getD i1.toNat default).Ops).length:Int))) then(Option.bind (α:=List Ys) (Cw (Cd i5 ((a3.Blocks.getD i1.toNat default).Ops).length) (Option.bind (α:=Bool) (bif (((((a3.Blocks.getD i1.toNat default).Ops).getD i5.toNat default).Kind:Int)==0) then(some (((((a3.Blocks.getD i1.toNat default).Ops).getD i5.toNat default).Kind:Int)==0)) else(bif (((((a3.Blocks.getD i1.toNat default).Ops).getD i5.toNat default).Kind:Int)==1) then(some (((((a3.Blocks.getD i1.toNat default).Ops).getD i5.toNat default).Kind:Int)==1)) else(bif (((((a3.Blocks.getD i1.toNat default).Ops).getD i5.toNat default).Kind:Int)==2) then(some (((((a3.Blocks.getD i1.toNat default).Ops).getD i5.toNat default).Kind:Int)==2)) else(bif (((((a3.Blocks.getD i1.toNat default).Ops).getD i5.toNat default).Kind:Int)==3) then(some (((((a3.Blocks.getD i1.toNat default).Ops).getD i5.toNat default).Kind:Int)==3)) else(some (((((a3.Blocks.getD i1.toNat default).Ops).getD i5.toNat default).Kind:Int)==8)))))) (λx11=>(bif x11 then(some (Eh l6 (((a3.Blocks.getD i1.toNat default).Ops).getD i5.toNat default).Dst (((a3.Blocks.getD i1.toNat default).Ops).getD i5.toNat default))) else(some l6))))) (λx13=>(some (.next ((Bd (i5+1)),x13))))) else(some (.done l6)))
def G3(a3:Ab):f4->Option kr:=
 λ((i1,l2):f4)=>(bif (decide (i1<(a3.Blocks.length:Int))) then(Cw (Cd i1 a3.Blocks.length) ((Ai (G2 a3 i1) ((0:Int),l2)).bind (λx15=>(some (.next ((Bd (i1+1)),x15)))))) else(some (.done l2)))
def EZ:=(λ(v_:Ce)=>((Vz v_):AV))
def ZB(a3:Ab)(i1:Int)(i5:Int):=(((a3.Blocks.getD i1.toNat default).Ops).getD i5.toNat default)
abbrev SY:=(List (Int×Ce))
def Lp(a3:Ab):Option SY:=
 ((Ai (G3 a3) ((0:Int),([]:List Ys))).bind (λx17=>(some x17)))
variable{v33:List Ys}
theorem DB(h:Lp v0=some v33):sP 37 [(.agg (Xy v0))] [] (.omap 20000) [(20000,.obj (.map true .i64 (mapE (λ(v_:Ce)=>((Vz v_):AV)) v33)))]:=
 sG Tryz.func37 λΓ q=>tW q [1] [1] [1,3] [1,8] (Mm (Sd (λ(k_:List FW) u=>Fq u [] [(8,.obj (.map true .i64 k_))]) (show[]=(mapE EZ ([]:List Ys)) from rfl)) (Ap q Xo [8] (tL q h Xo [8] (λu (i1,l2)=>(Fq u [(12,(Z7 i1))] [(8,.obj (.map true .i64 (mapE EZ l2)))])) (λu l3=>aG Γ (.exit 0) (W7 [3] [8] u [] [(8,.obj (.map true .i64 (mapE EZ l3)))])) (λ⟨i1,l2⟩ y h=>Ap q [3,10,11,12,13] [8] (gC h (λh=>tV q [3,5,10,11,12] [5,8] h λh=>Ap q PG [8] (tL q h PG [8] (λu (i5,l6)=>(Fq u [(19,(Z7 i5))] [(8,.obj (.map true .i64 (mapE EZ l6)))])) (λu l7=>aG Γ (.exit 2) (W7 Xo [8] u [] [(8,.obj (.map true .i64 (mapE EZ l7)))])) (λ⟨i5,l6⟩ y h=>Ap q [3,10,11,12,17,18,19,20] [8] (gC h (λh=>tB h λx13 y13 h=>gJ y13 (λl8=>aG Γ .normal (⟨[(3,(.omap 8)),(10,(YK v0.Blocks)),(11,(LC v0.Blocks.length)),(12,(Z7 i1)),(17,(AV.list 6 Py default (v0.Blocks.getD i1.toNat default).Ops .none)),(18,(.int .i64 (((v0.Blocks.getD i1.toNat default).Ops).length:Int))),(19,(Z7 i5))],[(8,.obj (.map true .i64 (mapE EZ l8)))],[]⟩:St)) (λy h=>tV q [3,7,10,11,12,17,18,19] L3 h λh=>Ap q [3,7,10,11,12,17,18,19,24] L3 (tB h λx11 y11 h=>gJ y11 (λb10=>aG Γ .normal (⟨[(3,(.omap 8)),(7,(.ptr 7 0)),(10,(YK v0.Blocks)),(11,(LC v0.Blocks.length)),(12,(Z7 i1)),(17,(AV.list 6 Py default (v0.Blocks.getD i1.toNat default).Ops .none)),(18,(.int .i64 (((v0.Blocks.getD i1.toNat default).Ops).length:Int))),(19,(Z7 i5)),(25,(.bool b10))],[(7,.row 43 [(.int .i64 (ZB v0 i1 i5).Kind),(.int .i64 (ZB v0 i1 i5).Bits),(.int .i64 (ZB v0 i1 i5).Lanes),(.int .i64 (ZB v0 i1 i5).Dst),(AV.list 1 Ay 0 (ZB v0 i1 i5).Args .none),(.int .u64 (ZB v0 i1 i5).Imm)]),(8,.obj (.map true .i64 (mapE EZ l6)))],[]⟩:St)) (λy h=>Ap q VC L3 (gC h (λh=>tS h (gK (Dz (Du PD L3 q)))) λh=>Ap q VC L3 (gC h (λh=>tS h (gK (Dz (Du PD L3 q)))) λh=>Ap q VC L3 (gC h (λh=>tS h (gK (Dz (Du PD L3 q)))) λh=>Ap q VC L3 (gC h (λh=>tS h (gK (Dz (Du PD L3 q)))) λh=>Ap q PD L3 (tS h (gK (Dz Mx)))))))) (gA (gC h (λh=>Ap q PG [8] (tS h (gK (Dz (Le.trans (Sd (λ(k_:List FW) u=>Fq u [] [(8,.obj (.map true .i64 k_))]) (show(Eh (mapE EZ l6) (ZB v0 i1 i5).Dst (Vz (ZB v0 i1 i5)))=(mapE EZ (Eh l6 (ZB v0 i1 i5).Dst (ZB v0 i1 i5))) from(Ws (f:=EZ) (l:=l6) (v:=(ZB v0 i1 i5)) rfl rfl))) Mx))))) λh=>tS h (gK (Dz (Du PG [8] q))))))) (gA (Ap q PG [8] (tN h)))) λh=>tS h (gO (Dz (Du Xo [8] q))))) λx15 h=>gA (Ap q Xo [8] (tN h)))) λh=>tS h (gO (Dz (Du [3] [8] q))))) λx17 h=>gA (Ap q [2] [8] (tS h (De [(8,20000)]))))))
def Hn(a6:Aq):Gm->Option mZ:=
 λ((i1,i2):Gm)=>(bif (decide (i2<(a6.Terms.length:Int))) then(Cw (Cd i2 a6.Terms.length) (bif (bif (bif (decide (((a6.Terms.getD i2.toNat default).V:Int)<=i1)) then true else(decide ((1023:Int)<(a6.Terms.getD i2.toNat default).V))) then true else(((a6.Terms.getD i2.toNat default).Scale:Int)==0)) then(some (.done (.inr false))) else(some (.next ((a6.Terms.getD i2.toNat default).V,(Bd (i2+1))))))) else(some (.done (.inl ()))))
def IW(Γ:Gw)(a6:Aq)(r:Bool):Exit->St->Prop:=fK Tryz.prog Γ Tryz.f13.results.toList [] (.bool r) []
def je(a6:Aq)(i2:Int)(i1:Int):=(bif (decide (((a6.Terms.getD i2.toNat default).V:Int)<=i1)) then true else(decide ((1023:Int)<(a6.Terms.getD i2.toNat default).V)))
def Ep(a6:Aq):Option Bool:=
 ((Ai (Hn a6) ((0:Int),(0:Int))).bind (λx4=>(match x4 with|(.inl _)=>(some true)|(.inr r6)=>(some r6))))
variable{v3:Bool}{v34:Aq}
theorem Gu(h:Ep v34=some v3):sP 13 [(Mu v34)] [] (.bool v3) []:=
 sG Tryz.func13 λΓ q=>tW q [1] [1] [1,3] [1] (Ap q KZ [] (tL q h KZ [] (λu (i1,i2)=>(Fq u [(3,(Z7 i1)),(9,(Z7 i2))] [])) (λu x_=>match x_ with|(.inl _)=>aG Γ (.exit 0) (⟨[],[],[]⟩:St)|(.inr r_)=>aR (IW Γ v34 r_)) (λ⟨i1,i2⟩ y h=>Ap q [3,7,8,9,10] [] (gC h (λh=>tV q [3,5,7,8,9] [5] h λh=>tU q [5,7,8,9,26] [5] (Uj ((decide (((v34.Terms.getD i2.toNat default).V:Int)<=i1))==false) (ci (X0 (decide (((v34.Terms.getD i2.toNat default).V:Int)<=i1))) (Uj ((je v34 i2 i1)==false) (c1 (X0 (je v34 i2 i1)))))) (gC h (λh=>Ap q [2] [] (tS h (gO (R4 (Kz [] (Le.refl _ _)))))) λh=>tW q KZ [] KZ [] (tN h))) λh=>tS h (gO (Dz (Du [] [] q))))) λx4 h=>(match x4,h with | .inl _,h=>gA (Ap q [2] [] (tS h (De []))) | .inr r6,h=>Wf (λst' hk=>tS h (gK hk)))))
def Ji(aF:Int)(aH:Int):Option Int:=
 (some (Dt (aF+aH)))
variable{v1:Int}{v11:Int}{v20:Int}
theorem Pa(h:Ji v1 v11=some v20):sP 29 [(J8 v1),(J8 v11)] [] (.int .u64 v20) []:=
 sG Tryz.func29 λΓ q=>tW q Hb [] [4] [] (tS h (De []))
def Cq(aV:List Ah):Option Int:=
 (bif ((aV.length:Int)==0) then(some (1024:Int)) else(Cw (Cd (0:Int) aV.length) (some ((aV.getD (0:Int).toNat (default:Ah)).V))))
variable{v35:List Ah}
theorem Fa(h:Cq v35=some v1):sP 67 [(j7 v35)] [] (.int .i64 v1) []:=
 sG Tryz.func67 λΓ q=>tW q [0] [] [0,5] [] (gC h (λh=>Ap q [2] [] (tS h (De []))) λh=>tV q [2] [] h λh=>tS h (De []))
def C4(aV:List Ah)(a8:Int):Option (Int×List Ah):=
 ((Cq aV).bind λx1=>(bif (x1 !=a8) then(some ((0:Int),aV)) else(Cw (Cd (0:Int) aV.length) (Cw (0<=(1:Int)/\(1:Int)<=(aV.length:Int)) (some ((aV.getD (0:Int).toNat (default:Ah)).Scale,(aV.drop (1:Int).toNat)))))))
variable{v36:(Int×List Ah)}
theorem F7(h:C4 v35 v1=some v36):sP 68 [(j7 v35),(Z7 v1)] [] (.tuple [(J8 v36.1),(j7 v36.2)]) []:=
 sG Tryz.func68 λΓ q=>gR q Hb [] [(5,ZF)] [] (c1 (Iq 2 Dp (default:Ah))) (tB h λx1 y1 h=>tT q [0,9] [] [(VU x1)] (c1 (Fa y1)) (gC h (λh=>Ap q Rm [] (tS h (De []))) λh=>tC h λc2_ h=>tC h λc3_ h=>gR q Rm [] [(16,(AV.list 2 Dp default (v35.drop (1:Int).toNat) .none))] [] (c3 c2_ c3_ (show(AVle (.slice 2 (v35.length-(1:Int).toNat) (λi=>Dp (v35.getD ((1:Int).toNat+i) default)) .none) (AV.list 2 Dp default (v35.drop (1:Int).toNat) .none)) from JH)) (tS h (De []))))
abbrev YE:=(List Ah×List Ah×List Ah)
abbrev ks:=(LR (List Ah×List Ah×List Ah) (List Ah))
def M7 :YE->Option ks:=
 λ((l4,l5,l6):YE)=>(bif (bif (decide ((0:Int)<(l4.length:Int))) then true else(decide ((0:Int)<(l5.length:Int)))) then((Cq l4).bind λx8=>((Cq l5).bind λx9=>((C4 l4 (if x9<x8 then x9 else x8)).bind λx10=>((C4 l5 (if x9<x8 then x9 else x8)).bind λx11=>((Ji x10.1 x11.1).bind λx12=>(bif (x12 !=0) then(Cw (l6.length+([(⟨(if x9<x8 then x9 else x8),x12⟩:Ah)]:List Ah).length<=room) (some (.next (x10.2,x11.2,(l6++([(⟨(if x9<x8 then x9 else x8),x12⟩:Ah)]:List Ah)))))) else(some (.next (x10.2,x11.2,l6))))))))) else(some (.done l6)))
def jg(l4:List Ah):=(decide ((0:Int)<(l4.length:Int)))
def QC:AV:=ZF
def dp(x9:Int)(x8:Int)(x12:Int):=([(⟨(if x9<x8 then x9 else x8),x12⟩:Ah)]:List Ah)
def jf(a6:Aq)(a2:Aq)(x3:Int):=((mR 29 a6.Terms a6.Off a2.Terms a2.Off x3):St)
def L6(a6:Aq)(a2:Aq):Option Aq:=
 ((Ep a6).bind λx1=>((bif ((!x1)==false) then Ep a2 else some false).bind λx2=>(bif (bif (!x1) then true else(!x2)) then(some (⟨([]:List Ah),(0:Int)⟩:Aq)) else((Ji a6.Off a2.Off).bind λx3=>((Ai (S:=YE) (X:=List Ah) M7 (a6.Terms,a2.Terms,([]:List Ah))).bind (λx14=>(some (⟨x14,x3⟩:Aq))))))))
variable{v37:Aq}{v38:Aq}
theorem Yc(h:L6 v34 v37=some v38):sP 28 [(Mu v34),(Mu v37),(.clo 29 [] [])] [] (Mu v38) []:=
 sG Tryz.func28 λΓ q=>Ap q [2,3,4,6] [3,4,6] (tB h λx1 y1 h=>tB h λx2 y2 h=>tT q TE [3,4,6] [(Z2 x1),(Z2 x2)] (c5 (Gu y1) (gI ((!x1)==false)) (λ(hg:((!x1)==false)=true)=>(Gu (Bs hg y2))) (gI ((!x1)==false)) (X0 (!x1))) (gC h (λh=>gR q [6] [6] [(20,(.agg [QC,Vy]))] [] (c1 (show(AVle (.agg Z9) (.agg [QC,Vy])) from(AVle.agg (.cons Ee (.cons (AVle.refl _) .nil))))) (Tn (⟨[PW],[(6,.row 25 [QC,Vy])],[]⟩:St) (tS h (gK (e:=.ret) (Kz [] (show Le Γ _ (⟨[PW],[(6,.row 25 [iJ,Vy])],[]⟩:St) from Le.trans (Du (st':=⟨[PW],[(6,.row 25 [QC,Vy])],[]⟩) [6] [6] q) (Kf (.cons (AVle.refl _) .nil) (.row (.cons AVle.untag (.cons (AVle.refl _) .nil)) .nil)))))))) λh=>tB h λx3 y3 h=>gR q K8 LA [(27,(.agg [QC,(J8 x3)]))] [⟨[],[],(J8 x3),[],[],[]⟩] (c2 (Pa y3) (show(AVle (.agg [QH,(J8 x3)]) (.agg [QC,(J8 x3)])) from(AVle.agg (.cons Ee (.cons (AVle.refl _) .nil))))) (Mm (st':=(jf v34 v37 x3)) (Le.trans (Du (st':=(mU 29 v34.Terms v34.Off v37.Terms v37.Off QC x3)) K8 LA q) (Le.trans (N3 (r:=7) (j:=0) (nm:=5700) (sz':=2) (λi=>Dp (([]:List Ah).getD i default)) 51 rfl rfl (nl rfl) rfl (.inl ⟨rfl,rfl⟩) (λh_=>absurd h_ (by decide))) (Du (st':=(jf v34 v37 x3)) K8 Nt q))) (tL q h K8 Nt (λu (l4,l5,l6)=>(Fq u [] [(3,.row 25 (Z6 l4 v34.Off)),(4,.row 25 (Z6 l5 v37.Off)),(jW l6 x3),(5700,.tok 2 51 l6.length)])) (λu l7=>aG Γ (.exit 0) (W7 Po LB u [] [(jW l7 x3),(5700,.tok 2 51 l7.length)])) (λ⟨l4,l5,l6⟩ y h=>tU q dV Nt (bQ ((jg l4)==false) (c1 (X0 (jg l4)))) (gC h (λh=>tB h λx8 y8 h=>tB h λx9 y9 h=>tT q IJ Nt [(VU x8),(VU x9)] (c2 (Fa y8) (Fa y9)) (Ap q IJ Nt (tB h λx10 y10 h=>tT q dU Nt [(jV x10.1 x10.2)] (c1 (F7 y10)) (tB h λx11 y11 h=>tT q dQ Nt [(jV x11.1 x11.2)] (c1 (F7 y11)) (tB h λx12 y12 h=>tT q dS Nt [⟨[],[],(J8 x12),[],[],[]⟩] (c1 (Pa y12)) (Ap q dP Nt (gC h (λh=>tC h λc13_ h=>gR q K8 Nt (lk (dp x9 x8 x12) l6) [] (c5 (Bu 2 Dp (default:Ah) (dp x9 x8 x12)) (Eq.refl l6.length) c13_ (Th 2 5700 Dp (default:Ah) l6 (dp x9 x8 x12)) (Hz l6 (dp x9 x8 x12))) (tN h)) λh=>tS h (gN (Du K8 Nt q))))))))) λh=>tS h (gO (Dz (Du Po LB q))))) λx14 h=>gA (Ap q [6] [6,5700] (tS h (De [])))))))
def Jc(a6:Aq)(aM:Aq):Option Aq:=
 ((L6 a6 aM).bind λx1=>(some x1))
theorem Si(h:Jc v34 v37=some v38):sP 10 [(Mu v34),(Mu v37)] [] (Mu v38) []:=
 sG Tryz.func10 λΓ q=>Ap q Y0 Y0 (tB h λx1 y1 h=>tT q [4] [4] [(ZG x1)] (c1 (Yc y1)) (tS h (De [])))
def It(aF:Int)(aH:Int):Option Int:=
 (some (Dt (aF-aH)))
theorem Oa(h:It v1 v11=some v20):sP 30 [(J8 v1),(J8 v11)] [] (.int .u64 v20) []:=
 sG Tryz.func30 λΓ q=>tW q Hb [] [4] [] (tS h (De []))
def K2 :YE->Option ks:=
 λ((l4,l5,l6):YE)=>(bif (bif (decide ((0:Int)<(l4.length:Int))) then true else(decide ((0:Int)<(l5.length:Int)))) then((Cq l4).bind λx8=>((Cq l5).bind λx9=>((C4 l4 (if x9<x8 then x9 else x8)).bind λx10=>((C4 l5 (if x9<x8 then x9 else x8)).bind λx11=>((It x10.1 x11.1).bind λx12=>(bif (x12 !=0) then(Cw (l6.length+([(⟨(if x9<x8 then x9 else x8),x12⟩:Ah)]:List Ah).length<=room) (some (.next (x10.2,x11.2,(l6++([(⟨(if x9<x8 then x9 else x8),x12⟩:Ah)]:List Ah)))))) else(some (.next (x10.2,x11.2,l6))))))))) else(some (.done l6)))
def jj(l4:List Ah):=(decide ((0:Int)<(l4.length:Int)))
def QD:AV:=ZF
def dq(x9:Int)(x8:Int)(x12:Int):=([(⟨(if x9<x8 then x9 else x8),x12⟩:Ah)]:List Ah)
def jh(a6:Aq)(a2:Aq)(x3:Int):=((mR 30 a6.Terms a6.Off a2.Terms a2.Off x3):St)
def Jq(a6:Aq)(a2:Aq):Option Aq:=
 ((Ep a6).bind λx1=>((bif ((!x1)==false) then Ep a2 else some false).bind λx2=>(bif (bif (!x1) then true else(!x2)) then(some (⟨([]:List Ah),(0:Int)⟩:Aq)) else((It a6.Off a2.Off).bind λx3=>((Ai (S:=YE) (X:=List Ah) K2 (a6.Terms,a2.Terms,([]:List Ah))).bind (λx14=>(some (⟨x14,x3⟩:Aq))))))))
theorem Ub(h:Jq v34 v37=some v38):sP 28 [(Mu v34),(Mu v37),(.clo 30 [] [])] [] (Mu v38) []:=
 sG Tryz.func28 λΓ q=>Ap q [2,3,4,6] [3,4,6] (tB h λx1 y1 h=>tB h λx2 y2 h=>tT q TE [3,4,6] [(Z2 x1),(Z2 x2)] (c5 (Gu y1) (gI ((!x1)==false)) (λ(hg:((!x1)==false)=true)=>(Gu (Bs hg y2))) (gI ((!x1)==false)) (X0 (!x1))) (gC h (λh=>gR q [6] [6] [(20,(.agg [QD,Vy]))] [] (c1 (show(AVle (.agg Z9) (.agg [QD,Vy])) from(AVle.agg (.cons Ee (.cons (AVle.refl _) .nil))))) (Tn (⟨[PW],[(6,.row 25 [QD,Vy])],[]⟩:St) (tS h (gK (e:=.ret) (Kz [] (show Le Γ _ (⟨[PW],[(6,.row 25 [iJ,Vy])],[]⟩:St) from Le.trans (Du (st':=⟨[PW],[(6,.row 25 [QD,Vy])],[]⟩) [6] [6] q) (Kf (.cons (AVle.refl _) .nil) (.row (.cons AVle.untag (.cons (AVle.refl _) .nil)) .nil)))))))) λh=>tB h λx3 y3 h=>gR q K8 LA [(27,(.agg [QD,(J8 x3)]))] [⟨[],[],(J8 x3),[],[],[]⟩] (c2 (Oa y3) (show(AVle (.agg [QH,(J8 x3)]) (.agg [QD,(J8 x3)])) from(AVle.agg (.cons Ee (.cons (AVle.refl _) .nil))))) (Mm (st':=(jh v34 v37 x3)) (Le.trans (Du (st':=(mU 30 v34.Terms v34.Off v37.Terms v37.Off QD x3)) K8 LA q) (Le.trans (N3 (r:=7) (j:=0) (nm:=5700) (sz':=2) (λi=>Dp (([]:List Ah).getD i default)) 51 rfl rfl (nl rfl) rfl (.inl ⟨rfl,rfl⟩) (λh_=>absurd h_ (by decide))) (Du (st':=(jh v34 v37 x3)) K8 Nt q))) (tL q h K8 Nt (λu (l4,l5,l6)=>(Fq u [] [(3,.row 25 (Z6 l4 v34.Off)),(4,.row 25 (Z6 l5 v37.Off)),(jW l6 x3),(5700,.tok 2 51 l6.length)])) (λu l7=>aG Γ (.exit 0) (W7 Po LB u [] [(jW l7 x3),(5700,.tok 2 51 l7.length)])) (λ⟨l4,l5,l6⟩ y h=>tU q dV Nt (bQ ((jj l4)==false) (c1 (X0 (jj l4)))) (gC h (λh=>tB h λx8 y8 h=>tB h λx9 y9 h=>tT q IJ Nt [(VU x8),(VU x9)] (c2 (Fa y8) (Fa y9)) (Ap q IJ Nt (tB h λx10 y10 h=>tT q dU Nt [(jV x10.1 x10.2)] (c1 (F7 y10)) (tB h λx11 y11 h=>tT q dQ Nt [(jV x11.1 x11.2)] (c1 (F7 y11)) (tB h λx12 y12 h=>tT q dS Nt [⟨[],[],(J8 x12),[],[],[]⟩] (c1 (Oa y12)) (Ap q dP Nt (gC h (λh=>tC h λc13_ h=>gR q K8 Nt (lk (dq x9 x8 x12) l6) [] (c5 (Bu 2 Dp (default:Ah) (dq x9 x8 x12)) (Eq.refl l6.length) c13_ (Th 2 5700 Dp (default:Ah) l6 (dq x9 x8 x12)) (Hz l6 (dq x9 x8 x12))) (tN h)) λh=>tS h (gN (Du K8 Nt q))))))))) λh=>tS h (gO (Dz (Du Po LB q))))) λx14 h=>gA (Ap q [6] [6,5700] (tS h (De [])))))))
def H8(a6:Aq)(aM:Aq):Option Aq:=
 ((Jq a6 aM).bind λx1=>(some x1))
theorem Rb(h:H8 v34 v37=some v38):sP 11 [(Mu v34),(Mu v37)] [] (Mu v38) []:=
 sG Tryz.func11 λΓ q=>Ap q Y0 Y0 (tB h λx1 y1 h=>tT q [4] [4] [(ZG x1)] (c1 (Ub y1)) (tS h (De [])))
def Gc(a6:Aq):Option Bool:=
 (some ((a6.Terms.length:Int)==0))
theorem Js(h:Gc v34=some v3):sP 137 [(Mu v34)] [] (.bool v3) []:=
 sG Tryz.func137 λΓ q=>tW q [1] [1] [2] [] (tS h (De []))
def Iu(aF:Int)(aaA:Int)(aZ:Int):Option Gm:=
 (some ((Dt (aF*aZ)),aZ))
variable{v19:Gm}
theorem Ob(h:Iu v1 v11 v20=some v19):sP 31 [(J8 v1),(J8 v11),Xq] [(TO v20)] (J8 v19.1) [(TO v19.2)]:=
 sG Tryz.func31 λΓ q=>tW q [0,2] [30000] [5] [30000] (tS h (De PK))
abbrev jM:=(List Ah×List Ah×List Ah×Int)
def K3 :jM->Option (LR (List Ah×List Ah×List Ah×Int) (List Ah×Int)):=
 λ((l4,l5,l6,i7):jM)=>(bif (bif (decide ((0:Int)<(l4.length:Int))) then true else(decide ((0:Int)<(l5.length:Int)))) then((Cq l4).bind λx10=>((Cq l5).bind λx11=>((C4 l4 (if x11<x10 then x11 else x10)).bind λx12=>((C4 l5 (if x11<x10 then x11 else x10)).bind λx13=>((Iu x12.1 x13.1 i7).bind λx14=>(bif (x14.1 !=0) then(Cw (l6.length+([(⟨(if x11<x10 then x11 else x10),x14.1⟩:Ah)]:List Ah).length<=room) (some (.next (x12.2,x13.2,(l6++([(⟨(if x11<x10 then x11 else x10),x14.1⟩:Ah)]:List Ah)),x14.2)))) else(some (.next (x12.2,x13.2,l6,x14.2))))))))) else(some (.done (l6,i7))))
def jl(l4:List Ah):=(decide ((0:Int)<(l4.length:Int)))
def QE:AV:=ZF
def dr(x11:Int)(x10:Int)(x14:Gm):=([(⟨(if x11<x10 then x11 else x10),x14.1⟩:Ah)]:List Ah)
def jk(a6:Aq)(a2:Aq)(x3:Gm):=(⟨[(2,(.clo 31 [] [Xq])),(3,(.ptr 3 0)),VV,PW,(7,(.ptr 7 0))],[(3,.row 25 (Z6 a6.Terms a6.Off)),(4,.row 25 (Z6 a2.Terms a2.Off)),(6,.row 25 Z9),(7,.row 25 [(AV.list 2 Dp default ([]:List Ah) (.own 5700)),(J8 x3.1)]),(5700,.tok 2 51 (([]:List Ah).length)),(TO x3.2)],[]⟩:St)
abbrev AN:=(Aq×Int)
def Jr(a6:Aq)(a2:Aq)(aZ:Int):Option AN:=
 ((Ep a6).bind λx1=>((bif ((!x1)==false) then Ep a2 else some false).bind λx2=>(bif (bif (!x1) then true else(!x2)) then(some ((⟨([]:List Ah),(0:Int)⟩:Aq),aZ)) else((Iu a6.Off a2.Off aZ).bind λx3=>((Ai (S:=jM) (X:=(List Ah×Int)) K3 (a6.Terms,a2.Terms,([]:List Ah),x3.2)).bind (λ(l8,i9)=>(some ((⟨l8,x3.1⟩:Aq),i9))))))))
variable{v39:AN}
theorem Uc(h:Jr v34 v37 v1=some v39):sP 28 [(Mu v34),(Mu v37),(.clo 31 [] [Xq])] [(TO v1)] (Mu v39.1) [(TO v39.2)]:=
 sG Tryz.func28 λΓ q=>Ap q [2,3,4,6] [3,4,6,30000] (tB h λx1 y1 h=>tB h λx2 y2 h=>tT q TE [3,4,6,30000] [(Z2 x1),(Z2 x2)] (c5 (Gu y1) (gI ((!x1)==false)) (λ(hg:((!x1)==false)=true)=>(Gu (Bs hg y2))) (gI ((!x1)==false)) (X0 (!x1))) (gC h (λh=>gR q [6] [6,30000] [(20,(.agg [QE,Vy]))] [] (c1 (show(AVle (.agg Z9) (.agg [QE,Vy])) from(AVle.agg (.cons Ee (.cons (AVle.refl _) .nil))))) (Tn (⟨[PW],[(6,.row 25 [QE,Vy]),(TO v1)],[]⟩:St) (tS h (gK (e:=.ret) (Kz PK (show Le Γ _ (⟨[PW],[(6,.row 25 [iJ,Vy]),(TO v1)],[]⟩:St) from Le.trans (Du (st':=⟨[PW],[(6,.row 25 [QE,Vy]),(TO v1)],[]⟩) [6] [6,30000] q) (Kf (.cons (AVle.refl _) .nil) (.row (.cons AVle.untag (.cons (AVle.refl _) .nil)) (.same .nil))))))))) λh=>tB h λx3 y3 h=>gR q K8 [3,4,6,7,30000] [(27,(.agg [QE,(J8 x3.1)]))] [⟨PK,[],(J8 x3.1),[(TO x3.2)],[],[]⟩] (c2 (Ob y3) (show(AVle (.agg [QH,(J8 x3.1)]) (.agg [QE,(J8 x3.1)])) from(AVle.agg (.cons Ee (.cons (AVle.refl _) .nil))))) (Mm (st':=(jk v34 v37 x3)) (Le.trans (Du (st':=⟨[(2,(.clo 31 [] [Xq])),(3,(.ptr 3 0)),VV,PW,(7,(.ptr 7 0))],[(3,.row 25 (Z6 v34.Terms v34.Off)),(4,.row 25 (Z6 v37.Terms v37.Off)),(6,.row 25 Z9),(7,.row 25 [QE,(J8 x3.1)]),(TO x3.2)],[]⟩) K8 [3,4,6,7,30000] q) (Le.trans (N3 (r:=7) (j:=0) (nm:=5700) (sz':=2) (λi=>Dp (([]:List Ah).getD i default)) 51 rfl rfl (nl rfl) rfl (.inl ⟨rfl,rfl⟩) (λh_=>absurd h_ (by decide))) (Du (st':=(jk v34 v37 x3)) K8 Tc q))) (tL q h K8 Tc (λu (l4,l5,l6,i7)=>(Fq u [] [(3,.row 25 (Z6 l4 v34.Off)),(4,.row 25 (Z6 l5 v37.Off)),(jW l6 x3.1),(5700,.tok 2 51 l6.length),(TO i7)])) (λu (l8,i9)=>aG Γ (.exit 0) (W7 Po [6,7,5700,30000] u [] [(jW l8 x3.1),(5700,.tok 2 51 l8.length),(TO i9)])) (λ⟨l4,l5,l6,i7⟩ y h=>tU q dV Tc (bQ ((jl l4)==false) (c1 (X0 (jl l4)))) (gC h (λh=>tB h λx10 y10 h=>tB h λx11 y11 h=>tT q IJ Tc [(VU x10),(VU x11)] (c2 (Fa y10) (Fa y11)) (Ap q IJ Tc (tB h λx12 y12 h=>tT q dU Tc [(jV x12.1 x12.2)] (c1 (F7 y12)) (tB h λx13 y13 h=>tT q dQ Tc [(jV x13.1 x13.2)] (c1 (F7 y13)) (tB h λx14 y14 h=>tT q dS Tc [⟨PK,[],(J8 x14.1),[(TO x14.2)],[],[]⟩] (c1 (Ob y14)) (Ap q dP Tc (gC h (λh=>tC h λc15_ h=>gR q K8 Tc (lk (dr x11 x10 x14) l6) [] (c5 (Bu 2 Dp (default:Ah) (dr x11 x10 x14)) (Eq.refl l6.length) c15_ (Th 2 5700 Dp (default:Ah) l6 (dr x11 x10 x14)) (Hz l6 (dr x11 x10 x14))) (tN h)) λh=>tS h (gN (Du K8 Tc q))))))))) λh=>tS h (gO (Dz (Du Po [6,7,5700,30000] q))))) λx16 h=>(match x16,h with|⟨l8,i9⟩,h=>gA (Ap q [6] [6,5700,30000] (tS h (De PK))))))))
def Ew(a6:Aq)(aI:Int):Option Aq:=
 ((Jr a6 (⟨([]:List Ah),(0:Int)⟩:Aq) aI).bind λx1=>(some x1.1))
theorem Hr(h:Ew v34 v1=some v37):sP 12 [(Mu v34),(J8 v1)] [] (Mu v37) []:=
 sG Tryz.func12 λΓ q=>Ap q Y0 Y0 (tB h λx1 y1 h=>gR q [4] [4] [(6,(.agg [ZF,Vy]))] [⟨[(3,30000)],[],(Mu x1.1),[(TO x1.2)],[],[]⟩] (c2 (show(AVle (.agg Z9) (.agg [ZF,Vy])) from(AVle.agg (.cons Ee (.cons (AVle.refl _) .nil)))) (Uc y1)) (tS h (De [])))
def dt:List AV:=[ZF,Vy]
def Jd(aQ:Int)(aF:Aq)(aH:Aq):Option (Aq×Bool):=
 (bif (aQ==1) then((Jc aF aH).bind λx1=>(some (x1,true))) else(bif (aQ==2) then((H8 aF aH).bind λx2=>(some (x2,true))) else((bif ((aQ==3)==true) then Gc aH else some false).bind λx3=>(bif (bif (aQ==3) then x3 else false) then((Ew aF aH.Off).bind λx4=>(some (x4,true))) else((bif ((aQ==3)==true) then Gc aF else some false).bind λx5=>(bif (bif (aQ==3) then x5 else false) then((Ew aH aF.Off).bind λx6=>(some (x6,true))) else((bif ((aQ==8)==true) then Gc aH else some false).bind λx7=>(bif (bif (bif (aQ==8) then x7 else false) then(decide (aH.Off<64)) else false) then(Cw (0<=aH.Off) ((Ew aF (SL .u64 (1:Int) aH.Off)).bind λx9=>(some (x9,true)))) else(some ((⟨([]:List Ah),(0:Int)⟩:Aq),false))))))))))
variable{v40:(Aq×Bool)}
theorem DA(h:Jd v1 v34 v37=some v40):sP 97 [(Z7 v1),(Mu v34),(Mu v37)] [] (.tuple [(Mu v40.1),(.bool v40.2)]) []:=
 sG Tryz.func97 λΓ q=>tW q [0,4,5,6] Y1 [0,4,5,6,8] Y1 (gC h (λh=>tB h λx1 y1 h=>tT q Po [6] [(ZG x1)] (c1 (Si y1)) (tS h (De []))) λh=>Ap q [0,4,5,6,14] Y1 (gC h (λh=>tB h λx2 y2 h=>tT q Po [6] [(ZG x2)] (c1 (Rb y2)) (tS h (De []))) λh=>tB h λx3 y3 h=>tT q [0,4,5,6,20] Y1 [(Z2 x3)] (c3 (gI ((v1==3)==true)) (λ(hg:((v1==3)==true)=true)=>(Js (Bs hg y3))) (M5 (v1==3))) (gC h (λh=>tB h λx4 y4 h=>tT q Po [6] [(ZG x4)] (c1 (Hr y4)) (tS h (De []))) λh=>tB h λx5 y5 h=>tT q [0,4,5,6,31] Y1 [(Z2 x5)] (c3 (gI ((v1==3)==true)) (λ(hg:((v1==3)==true)=true)=>(Js (Bs hg y5))) (M5 (v1==3))) (gC h (λh=>tB h λx6 y6 h=>tT q Po [6] [(ZG x6)] (c1 (Hr y6)) (tS h (De []))) λh=>tB h λx7 y7 h=>tT q [4,5,6,42] Y1 [(Z2 x7)] (lF (gI ((v1==8)==true)) (λ(hg:((v1==8)==true)=true)=>(Js (Bs hg y7))) (M5 (v1==8)) (Uj ((bif (v1==8) then x7 else false)==true) (c1 (M5 (bif (v1==8) then x7 else false))))) (gC h (λh=>tC h λc8_ h=>tB h λx9 y9 h=>tT q Po [6] [(ZG x9)] (c2 c8_ (Hr y9)) (tS h (De []))) λh=>gR q Po [6] [(59,(.agg dt))] [] (c1 (show(AVle (.agg Z9) (.agg dt)) from(AVle.agg (.cons Ee (.cons (AVle.refl _) .nil))))) (Tn (⟨[PW,(7,(.bool false))],[(6,.row 25 dt)],[]⟩:St) (tS h (gK (e:=.ret) (Kz [] (show Le Γ _ (⟨[PW,(7,(.bool false))],[(6,.row 25 [iJ,Vy])],[]⟩:St) from Le.trans (Du (st':=⟨[PW,(7,(.bool false))],[(6,.row 25 dt)],[]⟩) Po [6] q) (Kf (.cons (AVle.refl _) (.cons (AVle.refl _) .nil)) (.row (.cons AVle.untag (.cons (AVle.refl _) .nil)) .nil))))))))))))
def IZ:=(λ(v_:Aq)=>((Mu v_):AV))
abbrev YF:=(List (Int×Aq))
abbrev SZ:=(Aq×List (Int×Aq))
abbrev dF:=(Aq×Bool×List (Int×Aq))
abbrev FX:=(Int×Aq)
def Br(rec_affine_finder_form:Int->SY->YF->Option SZ)(rec_affine_finder_sum:Int->SY->YF->Option dF)(a8:Int)(a0:List Ys)(a4:List FX):Option SZ:=
 (bif (Bz a4 a8) then(some ((mget (default:Aq) a4 a8),a4)) else((rec_affine_finder_sum a8 a0 a4).bind λx1=>(Option.bind (α:=(List Ah×Int)) (bif (bif (!x1.2.1) then true else(decide ((16:Int)<(x1.1.Terms.length:Int)))) then(some (([(⟨a8,(1:Int)⟩:Ah)]:List Ah),(0:Int))) else(some (x1.1.Terms,x1.1.Off))) (λ(l2,i3)=>(some ((⟨l2,i3⟩:Aq),(Eh x1.2.2 a8 (⟨l2,i3⟩:Aq))))))))
def JA(a0:List Ys)(a8:Int):=(mget (default:Ce) a0 a8)
def VP:=(λ(v_:Aq)=>((Mu v_):AV))
def LJ(a0:List Ys):=(mapE (λ(v_:Ce)=>((Vz v_):AV)) a0)
def VO:AV:=ZF
def jn(a0:List Ys)(a4:List FX):=(⟨[VV,(5,(.bool false))],[(4,.row 25 [VO,Vy]),PT,(YM 9100000 (LJ a0)),(9100001,.obj (.map true .i64 (mapE VP a4)))],[]⟩:St)
def jm(a0:List Ys)(a8:Int)(a4:List FX):=(⟨[VV,(5,(.bool true))],[(4,.row 25 [VO,(.int .u64 (JA a0 a8).Imm)]),PT,(YM 9100000 (LJ a0)),(9100001,.obj (.map true .i64 (mapE VP a4)))],[]⟩:St)
def Cg(rec_affine_finder_form:Int->SY->YF->Option SZ)(rec_affine_finder_sum:Int->SY->YF->Option dF)(a8:Int)(a0:List Ys)(a4:List FX):Option dF:=
 (bif (!(Bz a0 a8)) then(some ((⟨([]:List Ah),(0:Int)⟩:Aq),false,a4)) else(bif (((mget (default:Ce) a0 a8).Kind:Int)==0) then(some ((⟨([]:List Ah),(mget (default:Ce) a0 a8).Imm⟩:Aq),true,a4)) else(Cw (Cd (0:Int) ((mget (default:Ce) a0 a8).Args).length) ((rec_affine_finder_form (((mget (default:Ce) a0 a8).Args).getD (0:Int).toNat (0:Int)) a0 a4).bind λx2=>(Cw (Cd (1:Int) ((mget (default:Ce) a0 a8).Args).length) ((rec_affine_finder_form (((mget (default:Ce) a0 a8).Args).getD (1:Int).toNat (0:Int)) a0 x2.2).bind λx4=>((Jd ((mget (default:Ce) a0 a8).Kind) x2.1 x4.1).bind λx5=>(some (x5.1,x5.2,x4.2)))))))))
mutual
def Bh:Nat->Int->SY->YF->Option SZ
 | 0=>λ_=>λ_=>λ_=>none
 | n+1=>Br (Bh n) (B0 n)
def B0:Nat->Int->SY->YF->Option dF
 | 0=>λ_=>λ_=>λ_=>none
 | n+1=>Cg (Bh n) (B0 n)
end
def Gb(a8:Int)(a0:List Ys)(a4:List FX):Option SZ:=bN λn=>Bh n a8 a0 a4
theorem Qh(n:Nat):(∀(a8:Int) (a0:List Ys) (a4:List FX) (r:SZ),Bh n a8 a0 a4=some r->sP 38 [Xq,(Z7 a8)] [PT,(9100000,.obj (.map true .i64 (mapE (λ(v_:Ce)=>((Vz v_):AV)) a0))),(9100001,.obj (.map true .i64 (mapE (λ(v_:Aq)=>((Mu v_):AV)) a4)))] (Mu r.1) [PT,(9100000,.obj (.map true .i64 (mapE (λ(v_:Ce)=>((Vz v_):AV)) a0))),(9100001,.obj (.map true .i64 (mapE (λ(v_:Aq)=>((Mu v_):AV)) r.2)))])/\(∀(a8:Int) (a0:List Ys) (a4:List FX) (r:dF),B0 n a8 a0 a4=some r->sP 69 [Xq,(Z7 a8)] [PT,(9100000,.obj (.map true .i64 (mapE (λ(v_:Ce)=>((Vz v_):AV)) a0))),(9100001,.obj (.map true .i64 (mapE (λ(v_:Aq)=>((Mu v_):AV)) a4)))] (.tuple [(Mu r.1),(.bool r.2.1)]) [PT,(9100000,.obj (.map true .i64 (mapE (λ(v_:Ce)=>((Vz v_):AV)) a0))),(9100001,.obj (.map true .i64 (mapE (λ(v_:Aq)=>((Mu v_):AV)) r.2.2)))]):=by
 induction n with
 | zero=>exact⟨(λa8 a0 a4 r h=>by cases h),(λa8 a0 a4 r h=>by cases h)⟩
 | succ n ih=>
  obtain⟨ih_affine_finder_form,ih_affine_finder_sum⟩:=ih;refine⟨?_,?_⟩
  ·intro a8 a0 a4 r h;refine Yn mix Tryz.func38 (λΓ hq=>?_);change Br (Bh n) (B0 n) a8 a0 a4=some r at h;unfold Br at h;refine Ap hq [0,1,4] Xn ?_;refine gR hq [0,1,4,5,6] iA [(15,(.tuple [(.agg (RB (mget (default:Aq) a4 a8))),(.bool (Bz a4 a8))]))] [] (c1 (show(AVle (.tuple [mget (.agg [(.slice 0 0 (λ_=>[]) .none),Vy]) (mapE IZ a4) a8,.bool (Bz (mapE IZ a4) a8)]) (.tuple [(.agg (RB (mget (default:Aq) a4 a8))),(.bool (Bz a4 a8))])) from(Wr (f:=IZ) (l:=a4) (AVle.agg (.cons TT (.cons (AVle.refl _) .nil))) rfl))) ?_;refine Ap hq [0,1,4,5,18] iA ?_;refine gC h ?_ ?_<;>intro h
   ·refine Ap hq [4] Xn ?_;cases h;exact De PI
   ·obtain⟨x1,hx1,h⟩:=bind_some h;refine gR hq [0,1,4,7,8] IE [] [⟨PI,[],(.tuple [(Mu x1.1),(.bool x1.2.1)]),[PT,(9100000,.obj (.map true .i64 (mapE (λ(v_:Ce)=>((Vz v_):AV)) a0))),(9100001,.obj (.map true .i64 (mapE IZ x1.2.2)))],[],[]⟩] (c1 (ih_affine_finder_sum a8 a0 a4 x1 hx1)) ?_;obtain⟨x4,hx4,h⟩:=bind_some h;refine gJ hx4 (λ(l2,i3)=>aG Γ .normal (⟨[(0,Xq),(1,(Z7 a8)),VV,(7,(.ptr 7 0))],[(4,.row 25 Z9),(7,.row 25 (Z6 l2 i3)),PT,(9100000,.obj (.map true .i64 (mapE (λ(v_:Ce)=>((Vz v_):AV)) a0))),(9100001,.obj (.map true .i64 (mapE IZ x1.2.2)))],[]⟩:St)) ?_ ?_
    ·clear h hx4;intro y h;refine gR hq [0,1,4,7,33] IE [] [] (ci (gI ((!x1.2.1)==false)) (ci (gI ((!x1.2.1)==false)) (ci (gI ((!x1.2.1)==false)) (c1 (X0 (!x1.2.1)))))) ?_;refine gC h ?_ ?_<;>intro h
     ·refine gR hq [0,1,4,7] IE [(36,(AV.list 2 Dp default ([(⟨a8,(1:Int)⟩:Ah)]:List Ah) .exact))] [] (c1 (Bu 2 Dp (default:Ah) ([(⟨a8,(1:Int)⟩:Ah)]:List Ah))) ?_;cases h;exact gK (Dz (Le.trans (Du (st':=⟨[(0,Xq),(1,(Z7 a8)),VV,(7,(.ptr 7 0))],[(4,.row 25 Z9),(7,.row 25 [(AV.list 2 Dp default ([(⟨a8,(1:Int)⟩:Ah)]:List Ah) .exact),Vy]),PT,(9100000,.obj (.map true .i64 (mapE (λ(v_:Ce)=>((Vz v_):AV)) a0))),(9100001,.obj (.map true .i64 (mapE IZ x1.2.2)))],[]⟩) [0,1,4,7] IE hq) (Kf (.cons (AVle.refl _) (.cons (AVle.refl _) (.cons (AVle.refl _) (.cons (AVle.refl _) .nil)))) (.same (.row (.cons AVle.untag (.cons (AVle.refl _) .nil)) (.same (.same (.same .nil))))))))
     ·cases h;exact gK (Dz (Du [0,1,4,7] IE hq))
    ·clear hx4;rcases x4 with⟨l2,i3⟩;refine gA ?_;refine Ap hq [4,7] IE ?_;refine Mm (Sd (λ(k_:List FW) u=>Fq u [] [(YM 9100001 k_)]) (show(Eh (mapE IZ x1.2.2) a8 (.agg (Z6 l2 i3)))=(mapE IZ (Eh x1.2.2 a8 (⟨l2,i3⟩:Aq))) from(Ws (f:=IZ) (l:=x1.2.2) (v:=(⟨l2,i3⟩:Aq)) rfl rfl))) ?_;refine Ap hq [4] Xn ?_;cases h;exact De PI
  ·intro a8 a0 a4 r h;refine Yn mix Tryz.func69 (λΓ hq=>?_);change Cg (Bh n) (B0 n) a8 a0 a4=some r at h;unfold Cg at h;refine Ap hq [0,1,4] Xn ?_;refine gR hq [0,4,6,7] dN [(14,(.tuple [(Vz (JA a0 a8)),(.bool (Bz a0 a8))]))] [] (c1 (show(AVle (.tuple [mget (.agg [Nv,Nv,Nv,Nv,(.slice 0 0 (λ_=>[]) .none),Vy]) (LJ a0) a8,.bool (Bz (LJ a0) a8)]) (.tuple [(Vz (JA a0 a8)),(.bool (Bz a0 a8))])) from(Wr (f:=(λ(v_:Ce)=>((Vz v_):AV))) (l:=a0) (AVle.agg (.cons (AVle.refl _) (.cons (AVle.refl _) (.cons (AVle.refl _) (.cons (AVle.refl _) (.cons TT (.cons (AVle.refl _) .nil))))))) rfl))) ?_;refine Ap hq [0,4,6,17] dN ?_;refine gC h ?_ ?_<;>intro h
   ·refine gR hq Rm Xn [(20,(.agg [VO,Vy]))] [] (c1 (show(AVle (.agg Z9) (.agg [VO,Vy])) from(AVle.agg (.cons Ee (.cons (AVle.refl _) .nil))))) ?_;refine Tn (jn a0 a4) ?_;cases h;exact gK (e:=.ret) (Kz PI (show Le Γ _ (⟨[VV,(5,(.bool false))],[(4,.row 25 [iJ,Vy]),PT,(YM 9100000 (LJ a0)),(9100001,.obj (.map true .i64 (mapE VP a4)))],[]⟩:St) from Le.trans (Du (st':=(jn a0 a4)) Rm Xn hq) (Kf (.cons (AVle.refl _) (.cons (AVle.refl _) .nil)) (.row (.cons AVle.untag (.cons (AVle.refl _) .nil)) (.same (.same (.same .nil)))))))
   ·refine Ap hq [0,4,6,21] dN ?_;refine gC h ?_ ?_<;>intro h
    ·refine gR hq Rm Xn [(27,(.agg [VO,(.int .u64 (JA a0 a8).Imm)]))] [] (c1 (show(AVle (.agg [QH,(.int .u64 (JA a0 a8).Imm)]) (.agg [VO,(.int .u64 (JA a0 a8).Imm)])) from(AVle.agg (.cons Ee (.cons (AVle.refl _) .nil))))) ?_;refine Tn (jm a0 a8 a4) ?_;cases h;exact gK (e:=.ret) (Kz PI (show Le Γ _ (⟨[VV,(5,(.bool true))],[(4,.row 25 [iJ,(.int .u64 (JA a0 a8).Imm)]),PT,(YM 9100000 (LJ a0)),(9100001,.obj (.map true .i64 (mapE VP a4)))],[]⟩:St) from Le.trans (Du (st':=(jm a0 a8 a4)) Rm Xn hq) (Kf (.cons (AVle.refl _) (.cons (AVle.refl _) .nil)) (.row (.cons AVle.untag (.cons (AVle.refl _) .nil)) (.same (.same (.same .nil)))))))
    ·obtain⟨hc1,h⟩:=M2 h;obtain⟨x2,hx2,h⟩:=bind_some h;obtain⟨hc3,h⟩:=M2 h;obtain⟨x4,hx4,h⟩:=bind_some h;obtain⟨x5,hx5,h⟩:=bind_some h;refine gR hq Rm Xn [] [⟨PI,[],(Mu x2.1),[PT,(YM 9100000 (LJ a0)),(9100001,.obj (.map true .i64 (mapE VP x2.2)))],[],[]⟩,⟨PI,[],(Mu x4.1),[PT,(YM 9100000 (LJ a0)),(9100001,.obj (.map true .i64 (mapE VP x4.2)))],[],[]⟩,⟨[],[],(.tuple [(Mu x5.1),(.bool x5.2)]),[],[],[]⟩] (ci hc1 (ci (ih_affine_finder_form (((JA a0 a8).Args).getD (0:Int).toNat (0:Int)) a0 a4 x2 hx2) (ci hc3 (ci (ih_affine_finder_form (((JA a0 a8).Args).getD (1:Int).toNat (0:Int)) a0 x2.2 x4 hx4) (c1 (DA hx5)))))) ?_;cases h;exact De PI
variable{v41:List FX}{v42:SZ}
theorem Rq(h:Gb v1 v33 v41=some v42):sP 38 [Xq,(Z7 v1)] [PT,(9100000,.obj (.map true .i64 (mapE (λ(v_:Ce)=>((Vz v_):AV)) v33))),(9100001,.obj (.map true .i64 (mapE (λ(v_:Aq)=>((Mu v_):AV)) v41)))] (Mu v42.1) [PT,(9100000,.obj (.map true .i64 (mapE (λ(v_:Ce)=>((Vz v_):AV)) v33))),(9100001,.obj (.map true .i64 (mapE (λ(v_:Aq)=>((Mu v_):AV)) v42.2)))]:=by
 obtain⟨n,hn⟩:=WR h;exact(Qh n).1 v1 v33 v41 v42 hn
def du:List AV:=[ZF,Vy]
def Eu(a3:Ab)(a8:Int):Option AN:=
 ((Kg a3).bind λx1=>(bif (!((((mget ((0:Int),(0:Int)) x1 a8).1:Int)==64)&&((((mget ((0:Int),(0:Int)) x1 a8).2:Int)==1)&&true))) then(some ((⟨([]:List Ah),(0:Int)⟩:Aq),(10:Int))) else((Lp a3).bind λx2=>((Gb a8 x2 ([]:List FX)).bind λx3=>(some (x3.1,(0:Int)))))))
theorem Qi(h:Eu v0 v1=some v39):sP 19 [(.agg (Xy v0)),(Z7 v1)] [] (.tuple [(Mu v39.1),(Z7 v39.2)]) []:=
 sG Tryz.func19 λΓ q=>Ap q [1,2,4] [2,4] (tB h λx1 y1 h=>gR q [1,2,4,12] [2,4] [(10,(.agg (Bp (mget ((0:Int),(0:Int)) x1 v1))))] [⟨[],[(20000,8)],(.omap 20000),[(20000,.obj (.pmap false .i64 (mapE (λ(v_:Gm)=>((BR v_):AV)) x1)))],[],[]⟩] (c2 (AF y1) (show(AVle (mget (.agg [Nv,Nv]) (mapE (λ(v_:Gm)=>((BR v_):AV)) x1) v1) (.agg (Bp (mget ((0:Int),(0:Int)) x1 v1)))) from(BE (f:=(λ(v_:Gm)=>((BR v_):AV))) (l:=x1) (AVle.refl _) rfl))) (gC h (λh=>gR q Rm [4] [(13,(.agg du))] [] (c1 (show(AVle (.agg Z9) (.agg du)) from(AVle.agg (.cons Ee (.cons (AVle.refl _) .nil))))) (Tn (⟨[VV,(5,(LC 10))],[(4,.row 25 du)],[]⟩:St) (tS h (gK (e:=.ret) (Kz [] (show Le Γ _ (⟨[VV,(5,(LC 10))],[(4,.row 25 [iJ,Vy])],[]⟩:St) from Le.trans (Du (st':=⟨[VV,(5,(LC 10))],[(4,.row 25 du)],[]⟩) Rm [4] q) (Kf (.cons (AVle.refl _) (.cons (AVle.refl _) .nil)) (.row (.cons AVle.untag (.cons (AVle.refl _) .nil)) .nil)))))))) λh=>tB h λx2 y2 h=>tT q [1,4,6] [4,6,15,16] [⟨[],[(20000,15)],(.omap 20000),[(20000,.obj (.map true .i64 (mapE (λ(v_:Ce)=>((Vz v_):AV)) x2)))],[],[]⟩] (c1 (DB y2)) (Mm (Sd (λ(k_:List FW) u=>Fq u [] [(YM 16 k_)]) (show[]=(mapE (λ(v_:Aq)=>((Mu v_):AV)) ([]:List FX)) from rfl)) (tB h λx3 y3 h=>tT q Rm [4] [⟨[(6,30000),(15,9100000),(16,9100001)],[],(Mu x3.1),[PT,(9100000,.obj (.map true .i64 (mapE (λ(v_:Ce)=>((Vz v_):AV)) x2))),(9100001,.obj (.map true .i64 (mapE (λ(v_:Aq)=>((Mu v_):AV)) x3.2)))],[],[]⟩] (c1 (Rq y3)) (tS h (De []))))))
def Bo(aN:List Ah)(aP:List Ah):Int->Option (LR Int (Unit ⊕ Bool)):=
 λ(i1:Int)=>(bif (decide (i1<(aN.length:Int))) then(Cw (Cd i1 aN.length) (Cw (Cd i1 aP.length) (bif (!((((aN.getD i1.toNat default).V:Int)==(aP.getD i1.toNat default).V)&&((((aN.getD i1.toNat default).Scale:Int)==(aP.getD i1.toNat default).Scale)&&true))) then(some (.done (.inr false))) else(some (.next (Bd (i1+1))))))) else(some (.done (.inl ()))))
def J9(Γ:Gw)(aN:List Ah)(aP:List Ah)(r:Bool):Exit->St->Prop:=fK Tryz.prog Γ Tryz.f32.results.toList [] (.bool r) []
def Cy(aN:List Ah)(aP:List Ah):Option Bool:=
 (bif ((aN.length:Int)!=(aP.length:Int)) then(some false) else((Ai (Bo aN aP) (0:Int)).bind (λx4=>(match x4 with|(.inl _)=>(some true)|(.inr r6)=>(some r6)))))
variable{v43:List Ah}
theorem J5(h:Cy v35 v43=some v3):sP 32 [(j7 v35),(j7 v43)] [] (.bool v3) []:=
 sG Tryz.func32 λΓ q=>tW q Hb [] AB [] (gC h (λh=>Ap q [4] [] (tS h (De []))) λh=>Ap q IM [] (tL q h IM [] (λu i1=>(Fq u [(13,(Z7 i1))] [])) (λu x_=>match x_ with|(.inl _)=>aG Γ (.exit 0) (⟨[],[],[]⟩:St)|(.inr r_)=>aR (J9 Γ v35 v43 r_)) (λi1 y h=>Ap q [0,1,12,13,14] [] (gC h (λh=>Ap q [0,1,5,12,13] [] (tC h λc2_ h=>tC h λc3_ h=>tU q [0,1,12,13,24] [] (c2 c2_ c3_) (gC h (λh=>Ap q [4] [] (tS h (gO (R4 (Kz [] (Le.refl _ _)))))) λh=>Ap q IM [] (tN h)))) λh=>tS h (gO (Dz (Du [] [] q))))) λx4 h=>(match x4,h with | .inl _,h=>gA (Ap q [4] [] (tS h (De []))) | .inr r6,h=>Wf (λst' hk=>tS h (gK hk)))))
def Gr(a6:Aq)(aM:Aq):Option Bool:=
 ((bif ((a6.Off==aM.Off)==true) then Cy a6.Terms aM.Terms else some false).bind λx1=>(some (bif (a6.Off==aM.Off) then x1 else false)))
theorem Nb(h:Gr v34 v37=some v3):sP 15 [(Mu v34),(Mu v37)] [] (.bool v3) []:=
 sG Tryz.func15 λΓ q=>Ap q Pn Pn (tB h λx1 y1 h=>tT q [4] [] [(Z2 x1)] (jY ((v34.Off==v37.Off)==true) (c2 (λ(hg:((v34.Off==v37.Off)==true)=true)=>(J5 (Bs hg y1))) (M5 (v34.Off==v37.Off)))) (tS h (De [])))
def C0:List Ce:=([(⟨(0:Int),(64:Int),(1:Int),(2:Int),([]:A1),(8:Int)⟩:Ce),(⟨(1:Int),(64:Int),(1:Int),(3:Int),([(1:Int),(2:Int)]:A1),(0:Int)⟩:Ce),(⟨(3:Int),(64:Int),(1:Int),(4:Int),([(2:Int),(3:Int)]:A1),(0:Int)⟩:Ce)]:List Ce)
def lI(x7:Aq):=((x7.Off:Int)==128)
def jp(x8:Aq):=((x8.Terms.length:Int)==1)
def YV:AV:=gH
def iF:AV:=(AV.list 6 Py default C0 .exact)
def dy(x1:AN)(x3:Bool)(x2:AN):=(bif (bif (x1.2==0) then x3 else false) then(x2.2==10) else false)
def BP(x1:AN)(x3:Bool)(x2:AN)(x4:Bool):=(bif (dy x1 x3 x2) then x4 else false)
def VQ(x1:AN)(x3:Bool)(x2:AN)(x4:Bool)(x6:Bool)(x7:Aq):=(bif (bif (BP x1 x3 x2 x4) then x6 else false) then(lI x7) else false)
def dz(x1:AN)(x3:Bool)(x2:AN)(x4:Bool)(x6:Bool)(x7:Aq)(x8:Aq):=((bif (VQ x1 x3 x2 x4 x6 x7) then(jp x8) else false)==true)
def mc:=(⟨([(⟨(1:Int),(8:Int)⟩:Ah)]:List Ah),(64:Int)⟩:Aq)
def jo:=([(⟨([]:List F8),C0,(⟨(0:Int),(4:Int),([]:A1)⟩:Ip)⟩:Ak)]:List Ak)
def jr:AV:=(.agg [(AV.list 4 Wa default ([]:List F8) .exact),iF,Nv,(.int .i64 (4:Int)),YV])
def jq:AV:=(.agg [Nv,(LC 64),YL,de,YV,(.int .u64 (8:Int))])
def m_locksteplaw17_awake :Option Bool:=
 ((Eu (⟨([(64:Int)]:A1),(64:Int),([(⟨([]:List F8),C0,(⟨(0:Int),(4:Int),([]:A1)⟩:Ip)⟩:Ak)]:List Ak)⟩:Ab) (4:Int)).bind λx1=>((Eu (⟨([(64:Int)]:A1),(64:Int),([(⟨([]:List F8),C0,(⟨(0:Int),(4:Int),([]:A1)⟩:Ip)⟩:Ak)]:List Ak)⟩:Ab) (5:Int)).bind λx2=>((bif ((x1.2==0)==true) then Gr x1.1 (⟨([(⟨(1:Int),(8:Int)⟩:Ah)]:List Ah),(64:Int)⟩:Aq) else some false).bind λx3=>((bif ((bif (bif (x1.2==0) then x3 else false) then(x2.2==10) else false)==true) then Ep (⟨([(⟨(1:Int),(8:Int)⟩:Ah)]:List Ah),(64:Int)⟩:Aq) else some false).bind λx4=>((bif ((bif (bif (bif (x1.2==0) then x3 else false) then(x2.2==10) else false) then x4 else false)==true) then H8 (⟨([(⟨(1:Int),(8:Int)⟩:Ah)]:List Ah),(64:Int)⟩:Aq) (⟨([(⟨(1:Int),(8:Int)⟩:Ah)]:List Ah),(64:Int)⟩:Aq) else some (default:Aq)).bind λx5=>((bif ((bif (bif (bif (x1.2==0) then x3 else false) then(x2.2==10) else false) then x4 else false)==true) then Gr x5 (⟨([]:List Ah),(0:Int)⟩:Aq) else some false).bind λx6=>((bif ((bif (bif (bif (bif (x1.2==0) then x3 else false) then(x2.2==10) else false) then x4 else false) then x6 else false)==true) then Jc (⟨([(⟨(1:Int),(8:Int)⟩:Ah)]:List Ah),(64:Int)⟩:Aq) (⟨([(⟨(1:Int),(8:Int)⟩:Ah)]:List Ah),(64:Int)⟩:Aq) else some (default:Aq)).bind λx7=>((bif ((bif (bif (bif (bif (bif (x1.2==0) then x3 else false) then(x2.2==10) else false) then x4 else false) then x6 else false) then((x7.Off:Int)==128) else false)==true) then Ew (⟨([(⟨(1:Int),(8:Int)⟩:Ah)]:List Ah),(64:Int)⟩:Aq) (2:Int) else some (default:Aq)).bind λx8=>((bif ((bif (bif (bif (bif (bif (bif (x1.2==0) then x3 else false) then(x2.2==10) else false) then x4 else false) then x6 else false) then((x7.Off:Int)==128) else false) then((x8.Terms.length:Int)==1) else false)==true) then Ew (⟨([(⟨(1:Int),(8:Int)⟩:Ah)]:List Ah),(64:Int)⟩:Aq) (2:Int) else some (default:Aq)).bind λx9=>(Cw (((bif (bif (bif (bif (bif (bif (x1.2==0) then x3 else false) then(x2.2==10) else false) then x4 else false) then x6 else false) then((x7.Off:Int)==128) else false) then((x8.Terms.length:Int)==1) else false)==true)=true->(Cd (0:Int) x9.Terms.length)) (some (bif (bif (bif (bif (bif (bif (bif (x1.2==0) then x3 else false) then(x2.2==10) else false) then x4 else false) then x6 else false) then((x7.Off:Int)==128) else false) then((x8.Terms.length:Int)==1) else false) then(((x9.Terms.getD (0:Int).toNat (default:Ah)).Scale:Int)==16) else false))))))))))))
theorem Qn  (r:Bool) (h:m_locksteplaw17_awake=some r):sP 9 [] [] (.bool r) []:=
 sG Tryz.func9 λΓ q=>Ap q [] [] (gR q [1] [1] [(7,(AV.list 1 Ay 0 ([(64:Int)]:A1) .exact)),(8,jq),(9,(AV.list 1 Ay 0 ([(1:Int),(2:Int)]:A1) .exact)),(11,(AV.list 1 Ay 0 ([(2:Int),(3:Int)]:A1) .exact)),(13,iF),(14,(.agg [Nv,(.int .i64 (4:Int)),YV])),(15,jr),(16,(AV.list 5 Fg default jo .exact))] [] (c8 (Bu 1 Ay (0:Int) ([(64:Int)]:A1)) (show(AVle (.agg [Nv,(LC 64),YL,de,QH,(.int .u64 (8:Int))]) jq) from(AVle.agg (.cons (AVle.refl _) (.cons (AVle.refl _) (.cons (AVle.refl _) (.cons (AVle.refl _) (.cons Ee (.cons (AVle.refl _) .nil)))))))) (Bu 1 Ay (0:Int) ([(1:Int),(2:Int)]:A1)) (Bu 1 Ay (0:Int) ([(2:Int),(3:Int)]:A1)) (Bu 6 Py (default:Ce) C0) (show(AVle (.agg [Nv,(.int .i64 (4:Int)),QH]) (.agg [Nv,(.int .i64 (4:Int)),YV])) from(AVle.agg (.cons (AVle.refl _) (.cons (AVle.refl _) (.cons Ee .nil))))) (show(AVle (.agg [QH,iF,Nv,(.int .i64 (4:Int)),YV]) jr) from(AVle.agg (.cons Ee (.cons (AVle.refl _) (.cons (AVle.refl _) (.cons (AVle.refl _) (.cons (AVle.refl _) .nil))))))) (Bu 5 Fg (default:Ak) jo)) (tB h λx1 y1 h=>tT q [1,2,3] Xp [⟨[],[],(.tuple [(Mu x1.1),(Z7 x1.2)]),[],[],[]⟩] (c1 (Qi y1)) (tB h λx2 y2 h=>tT q [2,3,5] [2] [⟨[],[],(.tuple [(Mu x2.1),(Z7 x2.2)]),[],[],[]⟩] (c1 (Qi y2)) (gR q [2,3,5,6] [2,6] [(29,(AV.list 2 Dp default ([(⟨(1:Int),(8:Int)⟩:Ah)]:List Ah) .exact))] [] (c1 (Bu 2 Dp (default:Ah) ([(⟨(1:Int),(8:Int)⟩:Ah)]:List Ah))) (tB h λx3 y3 h=>tB h λx4 y4 h=>tB h λx5 y5 h=>tB h λx6 y6 h=>tB h λx7 y7 h=>tB h λx8 y8 h=>tB h λx9 y9 h=>tC h λc10_ h=>gR q [0] [] [(50,(.agg [ZF,Vy]))] [(Z2 x3),(Z2 x4),(ZG x5),(Z2 x6),(ZG x7),(ZG x8),(ZG x9)] (Uj ((x1.2==0)==true) (mg (λ(hg:((x1.2==0)==true)=true)=>(Nb (Bs hg y3))) (M5 (x1.2==0)) (gI ((bif (x1.2==0) then x3 else false)==true)) (M5 (bif (x1.2==0) then x3 else false)) (gI ((dy x1 x3 x2)==true)) (λ(hg:((dy x1 x3 x2)==true)=true)=>(Gu (Bs hg y4))) (M5 (dy x1 x3 x2)) (Uj ((BP x1 x3 x2 x4)==true) (YO (λ(hg:((BP x1 x3 x2 x4)==true)=true)=>(Rb (Bs hg y5))) (show(((BP x1 x3 x2 x4)==true)=true->(AVle (.agg Z9) (.agg [ZF,Vy]))) from(λhg=>(AVle.agg (.cons Ee (.cons (AVle.refl _) .nil))))) (Uj ((BP x1 x3 x2 x4)==true) (YO (λ(hg:((BP x1 x3 x2 x4)==true)=true)=>(Nb (Bs hg y6))) (M5 (BP x1 x3 x2 x4)) (Uj ((bif (BP x1 x3 x2 x4) then x6 else false)==true) (ci (λ(hg:((bif (BP x1 x3 x2 x4) then x6 else false)==true)=true)=>(Si (Bs hg y7))) (Uj ((bif (BP x1 x3 x2 x4) then x6 else false)==true) (lF (M5 (bif (BP x1 x3 x2 x4) then x6 else false)) (gI ((VQ x1 x3 x2 x4 x6 x7)==true)) (λ(hg:((VQ x1 x3 x2 x4 x6 x7)==true)=true)=>(Hr (Bs hg y8))) (bQ ((VQ x1 x3 x2 x4 x6 x7)==true) (lF (M5 (VQ x1 x3 x2 x4 x6 x7)) (gI (dz x1 x3 x2 x4 x6 x7 x8)) (λ(hg:(dz x1 x3 x2 x4 x6 x7 x8)=true)=>(Hr (Bs hg y9))) (Uj (dz x1 x3 x2 x4 x6 x7 x8) (ci c10_ (bQ (dz x1 x3 x2 x4 x6 x7 x8) (c1 (M5 (bif (VQ x1 x3 x2 x4 x6 x7) then(jp x8) else false)))))))))))))))))) (tS h (De [])))))))
open Go Go.RowKit
set_option maxRecDepth 100000
set_option maxHeartbeats 2000000
def B3(a3:Ab)(i2:Int):Gm->Option kl:=
 λ((i5,i6):Gm)=>(Cw (Cd i2 a3.Blocks.length) (bif (bif (decide (i6<(((a3.Blocks.getD i2.toNat default).Phis).length:Int))) then(decide (i5<=20000)) else false) then(Cw (Cd i2 a3.Blocks.length) (Cw (Cd i6 ((a3.Blocks.getD i2.toNat default).Phis).length) (Cw (Cd i2 a3.Blocks.length) (Cw (Cd i6 ((a3.Blocks.getD i2.toNat default).Phis).length) (some (.next ((Bd ((Bd ((Bd (i5+1))+(((((a3.Blocks.getD i2.toNat default).Phis).getD i6.toNat default).From).length:Int)))+(((((a3.Blocks.getD i2.toNat default).Phis).getD i6.toNat default).Args).length:Int))),(Bd (i6+1))))))))) else(some (.done i5))))
def B4(a3:Ab)(i2:Int):Gm->Option kl:=
 λ((i15,i16):Gm)=>(Cw (Cd i2 a3.Blocks.length) (bif (bif (decide (i16<(((a3.Blocks.getD i2.toNat default).Ops).length:Int))) then(decide (i15<=20000)) else false) then(Cw (Cd i2 a3.Blocks.length) (Cw (Cd i16 ((a3.Blocks.getD i2.toNat default).Ops).length) (some (.next ((Bd ((Bd (i15+1))+(((((a3.Blocks.getD i2.toNat default).Ops).getD i16.toNat default).Args).length:Int))),(Bd (i16+1))))))) else(some (.done i15))))
def Bn(a3:Ab):Gm->Option kl:=
 λ((i1,i2):Gm)=>(bif (bif (decide (i2<(a3.Blocks.length:Int))) then(decide (i1<=20000)) else false) then(Cw (Cd i2 a3.Blocks.length) ((Ai (B3 a3 i2) ((Bd ((Bd (i1+1))+(((a3.Blocks.getD i2.toNat default).End.To).length:Int))),(0:Int))).bind (λx13=>((Ai (B4 a3 i2) (x13,(0:Int))).bind (λx21=>(some (.next (x21,(Bd (i2+1)))))))))) else(some (.done i1)))
def Do(a3:Ab):Option Bool:=
 ((Ai (Bn a3) ((a3.Params.length:Int),(0:Int))).bind (λx23=>(some (decide (x23<=20000)))))
def B8(aI:Int)(i2:Int):(List Ce×Int×Int)->Option (LR (List Ce×Int×Int) (List Ce×Int)):=
 λ((l5,i6,i7):(List Ce×Int×Int))=>(bif (decide (i7<(Int.tmod (Bd aI) (60:Int)))) then(Cw (l5.length+([(⟨i2,(64:Int),(1:Int),(Bd ((3:Int)+i7)),([i6,(2:Int)]:A1),(0:Int)⟩:Ce)]:List Ce).length<=room) (some (.next ((l5++([(⟨i2,(64:Int),(1:Int),(Bd ((3:Int)+i7)),([i6,(2:Int)]:A1),(0:Int)⟩:Ce)]:List Ce)),(Bd ((3:Int)+i7)),(Bd (i7+1)))))) else(some (.done (l5,i6))))
def BQ:AV:=Nv
def d5(x13:AN):=((x13.2==0)==true)
def d6(l8:List Ce):AV:=(AV.list 6 Py default l8 (.own 5009))
def QF:AV:=gH
def iI:=([(⟨(1:Int),(1:Int)⟩:Ah)]:List Ah)
def VR(a2:Int):=([(⟨(0:Int),(64:Int),(1:Int),(2:Int),([]:A1),a2⟩:Ce)]:List Ce)
def jt(l8:List Ce)(i9:Int):=([(⟨([]:List F8),l8,(⟨(0:Int),i9,([]:A1)⟩:Ip)⟩:Ak)]:List Ak)
def YX(x3:Int)(i7:Int)(i6:Int):=([(⟨x3,(64:Int),(1:Int),(Bd ((3:Int)+i7)),([i6,(2:Int)]:A1),(0:Int)⟩:Ce)]:List Ce)
def ju(a2:Int)(aa3:Bool)(aI:Int)(x3:Int):=(⟨[(1,(J8 a2)),(2,(.bool aa3)),(7,(.int .i64 (Int.tmod (Bd aI) (60:Int)))),(8,(Z7 x3)),(9,(AV.list 6 Py default (VR a2) (.own 5009))),(10,YL),(11,BQ)],[(5009,.tok 6 43 ((VR a2).length))],[]⟩:St)
def Fk(aI:Int)(a2:Int)(aa3:Bool):Option Bool:=
 (m_locksteplaw17_awake.bind λx1=>(bif (!x1) then(some false) else(Option.bind (α:=Int) (bif aa3 then(some (2:Int)) else(some (1:Int))) (λx3=>((Ai (B8 aI x3) (([(⟨(0:Int),(64:Int),(1:Int),(2:Int),([]:A1),a2⟩:Ce)]:List Ce),(1:Int),(0:Int))).bind (λ(l8,i9)=>((Eu (⟨([(64:Int)]:A1),(64:Int),([(⟨([]:List F8),l8,(⟨(0:Int),i9,([]:A1)⟩:Ip)⟩:Ak)]:List Ak)⟩:Ab) i9).bind λx13=>(Option.bind (α:=Int) (bif aa3 then(some (Dt ((0:Int)-(Dt (a2*(Dt (Int.tmod (Bd aI) (60:Int)))))))) else(some (Dt (a2*(Dt (Int.tmod (Bd aI) (60:Int))))))) (λx15=>((bif ((x13.2==0)==true) then Gr x13.1 (⟨([(⟨(1:Int),(1:Int)⟩:Ah)]:List Ah),x15⟩:Aq) else some false).bind λx17=>(some (bif (x13.2==0) then x17 else false))))))))))))
theorem ok_locksteplaw17_AffineSteps(aI:Int)(a2:Int)(aa3:Bool)(r:Bool)(h:Fk aI a2 aa3=some r):sP 6 [(.int .u8 aI),(J8 a2),(.bool aa3)] [] (.bool r) []:=
 sG Tryz.func6 λΓ q=>Ap q EU [] (tB h λx1 y1 h=>tT q [0,1,2,17] [] [(Z2 x1)] (c1 (Qn  x1 y1)) (gC h (λh=>Ap q [6] [] (tS h (De []))) λh=>tU q [1,2,7] [] (c1 (show((60:Int)≠0) from(by decide))) (Ap q [1,2,7,8] [] (tB h λx3 y3 h=>gJ y3 (λi2=>aG Γ .normal (⟨[(1,(J8 a2)),(2,(.bool aa3)),(7,(.int .i64 (Int.tmod (Bd aI) (60:Int)))),(8,(Z7 i2))],[],[]⟩:St)) (λy h=>Ap q [1,2,7,8,21] [] (gC h (λh=>Ap q [1,2,7,8] [] (tS h (gK (Dz Mx)))) λh=>tS h (gK (Dz (Du [1,2,7,8] [] q))))) (gA (gR q [1,2,7,8,9] [] [(23,(.agg [BQ,(LC 64),YL,de,QF,(J8 a2)])),(24,(AV.list 6 Py default (VR a2) .exact))] [] (c2 (show(AVle (.agg [BQ,(LC 64),YL,de,QH,(J8 a2)]) (.agg [BQ,(LC 64),YL,de,QF,(J8 a2)])) from(AVle.agg (.cons (AVle.refl _) (.cons (AVle.refl _) (.cons (AVle.refl _) (.cons (AVle.refl _) (.cons Ee (.cons (AVle.refl _) .nil)))))))) (Bu 6 Py (default:Ce) (VR a2))) (tW q [1,2,7,8,9,10] [] IG [] (Mm (st':=(ju a2 aa3 aI x3)) (Le.trans (Du (st':=⟨[(1,(J8 a2)),(2,(.bool aa3)),(7,(.int .i64 (Int.tmod (Bd aI) (60:Int)))),(8,(Z7 x3)),(9,(AV.list 6 Py default (VR a2) .exact)),(10,YL),(11,BQ)],[],[]⟩) IG [] q) (Le.trans (RM (t:=9) (nm:=5009) (sz':=6) (λi=>Py ((VR a2).getD i default)) 43 rfl rfl (.inl ⟨rfl,rfl⟩) (λh_=>absurd h_ (by decide))) (Du (st':=(ju a2 aa3 aI x3)) IG [5009] q))) (tL q h IG [5009] (λu (l5,i6,i7)=>(Fq u [(9,(AV.list 6 Py default l5 (.own 5009))),(10,(Z7 i6)),(11,(Z7 i7))] [(5009,.tok 6 43 l5.length)])) (λu (l8,i9)=>aG Γ (.exit 0) (W7 [1,2,7,9,10] [5009] u [(9,(d6 l8)),(10,(Z7 i9))] [(5009,.tok 6 43 l8.length)])) (λ⟨l5,i6,i7⟩ y h=>Ap q [1,2,7,8,9,10,11,27] [5009] (gC h (λh=>tC h λc10_ h=>gR q [1,2,7,8,9,11] [5009] [(35,(AV.list 1 Ay 0 ([i6,(2:Int)]:A1) .exact)),(37,(AV.list 6 Py default (YX x3 i7 i6) .exact)),(38,(AV.list 6 Py default (l5++(YX x3 i7 i6)) (.own 5009)))] [] (c6 (Bu 1 Ay (0:Int) ([i6,(2:Int)]:A1)) (Bu 6 Py (default:Ce) (YX x3 i7 i6)) (Eq.refl l5.length) c10_ (Th 6 5009 Py (default:Ce) l5 (YX x3 i7 i6)) (Hz l5 (YX x3 i7 i6))) (tW q IG [5009] IG [5009] (tN h))) λh=>tS h (gO (Dz (Du [1,2,7,9,10] [5009] q))))) λx11 h=>(match x11,h with|⟨l8,i9⟩,h=>gA (gR q [1,2,7,10,12] [12] [(41,(AV.list 1 Ay 0 ([(64:Int)]:A1) .exact)),(44,(.agg [BQ,(Z7 i9),QF])),(45,(.agg [(AV.list 4 Wa default ([]:List F8) .exact),(d6 l8),BQ,(Z7 i9),QF])),(46,(AV.list 5 Fg default (jt l8 i9) .exact))] [] (c4 (Bu 1 Ay (0:Int) ([(64:Int)]:A1)) (show(AVle (.agg [BQ,(Z7 i9),QH]) (.agg [BQ,(Z7 i9),QF])) from(AVle.agg (.cons (AVle.refl _) (.cons (AVle.refl _) (.cons Ee .nil))))) (show(AVle (.agg [QH,(d6 l8),BQ,(Z7 i9),QF]) (.agg [(AV.list 4 Wa default ([]:List F8) .exact),(d6 l8),BQ,(Z7 i9),QF])) from(AVle.agg (.cons Ee (.cons (AVle.refl _) (.cons (AVle.refl _) (.cons (AVle.refl _) (.cons (AVle.refl _) .nil))))))) (Bu 5 Fg (default:Ak) (jt l8 i9))) (tB h λx13 y13 h=>tT q [1,2,7,13,14] [13] [⟨[],[],(.tuple [(Mu x13.1),(Z7 x13.2)]),[],[],[]⟩] (c1 (Qi y13)) (Ap q [2,13,14,15] [13] (tB h λx15 y15 h=>gJ y15 (λi14=>aG Γ .normal (⟨[(13,(.ptr 13 0)),(14,(Z7 x13.2)),(15,(J8 i14))],[(13,.row 25 (Z6 x13.1.Terms x13.1.Off))],[]⟩:St)) (λy h=>Ap q [13,14,15,58] [13] (gC h (λh=>Ap q PO [13] (tS h (gK (Dz Mx)))) λh=>tS h (gK (Dz (Du PO [13] q))))) (gA (tB h λx17 y17 h=>gR q [6] [] [(66,(AV.list 2 Dp default iI .exact))] [(Z2 x17)] (YO (gI (d5 x13)) (show((d5 x13)=true->(AVle (.slice 2 1 (λi=>([[YL,(.int .u64 (1:Int))]]:List (List AV)).getD i []) .exact) (AV.list 2 Dp default iI .exact))) from(λhg=>@(Bu 2 Dp (default:Ah) iI))) (jY (d5 x13) (c2 (λ(hg:(d5 x13)=true)=>(Nb (Bs hg y17))) (M5 (x13.2==0))))) (tS h (De []))))))))))))))))))
theorem wf_u64{n:Int}(h:(Lit.int .u64 n).wf=true):0<=n/\n<18446744073709551616:=by simp[Lit.wf,IntKind.min,IntKind.max,IntKind.bits,IntKind.signed]at h;omega
theorem wf_u8{n:Int}(h:(Lit.int .u8 n).wf=true):0<=n/\n<256:=by simp[Lit.wf,IntKind.min,IntKind.max,IntKind.bits,IntKind.signed]at h;omega
abbrev Iall(w:World):Nat->Nat->Prop:=λb o=>∃ u,w.cell? ⟨b,o,none⟩=some u
structure iE(w:World)(cs:List Value)(avs:List AV):Prop where
 len:cs.length=avs.length
 one:∀ j,j<avs.length->(cs.getD j undef).oneCell'=true
 rep:∀ j,j<avs.length->RepV (Iall w) w (cs.getD j undef) (avs.getD j .any)
structure FZ(P:Program)(t:TypeId){α:Type}(e:α->List AV)(ok:α->Prop):Prop where
 get:∀{H:Type} {enc:TypeId×Value->H} {w:World} {base:Nat} {spare:Nat->Bool} {held:Bool} {fuel:Nat} {cs:List Value} {x:DataW H×List MemPlace},
  DataW.trod enc P w base spare held fuel t cs=some x->∃ a,ok a/\iE w cs (e a)
theorem MI{w:World}{v:Value}{x:AV}(h1:v.oneCell'=true)(h:RepV (Iall w) w v x):iE w [v] [x]:=
 ⟨rfl,λj hj=>(by
   have hj0:j=0:=by simpa using hj
   subst hj0
   exact h1),λj hj=>(by
   have hj0:j=0:=by simpa using hj
   subst hj0
   exact h)⟩
theorem HI{P:Program}{t:TypeId}{k:IntKind}{e:Int->List AV}(ht:P.underlying t=some (.int k))(he:∀ n,e n=[.int k n]):FZ P t e (λn=>(Lit.int k n).wf=true):=by
 refine⟨?_⟩;intro H enc w base spare held fuel cs x h;obtain⟨n,rfl,rfl,hw⟩:=DataW.trod_int ht h;exact⟨n,hw,by rw[he];exact MI rfl (.int _ _)⟩
theorem RW{P:Program}{t:TypeId}{e:Bool->List AV}(ht:P.underlying t=some .bool)(he:∀ n,e n=[.bool n]):FZ P t e (λ_=>True):=by
 refine⟨?_⟩;intro H enc w base spare held fuel cs x h;obtain⟨n,rfl,rfl⟩:=DataW.trod_bool ht h;exact⟨n,trivial,by rw[he];exact MI rfl (.bool _)⟩
structure lH(P:Program)(fs:List Field)(off N:Nat){α:Type}(e:α->List AV)(ok:α->Prop):Prop where
 get:∀{H:Type} {enc:TypeId×Value->H} {w:World} {base:Nat} {spare:Nat->Bool} {held:Bool} {n:Nat} {cs:List Value},cs.length=N->
  (∀ f∈fs,∃ x,DataW.trod enc P w base spare held n f.type ((cs.drop f.offset).take (P.cellsOf f.type))=some x)->∃ a,ok a/\iE w (cs.drop off) (e a)
theorem arg_one{P:Program}{t:TypeId}{α:Type}{e:α->List AV}{ok:α->Prop}(h:FZ P t e ok){x:α->AV}(he:∀ a,e a=[x a]){H:Type}{enc:TypeId×Value->H}{w:World}{base:Nat}{spare:Nat->Bool}{held:Bool}{v:Value}{d:DataW H}{ps:List MemPlace}
  (hv:v.cells = #[v]) (hd:DataW.Trod enc P w base spare held t v d ps):∃ a,ok a/\RepV (Iall w) w v (x a):=by
 obtain⟨fuel,hf⟩:=hd;obtain⟨a,ha,hr⟩:=h.get hf;refine⟨a,ha,?_⟩;have:=hr.rep 0 (by simp[he])
 simpa [hv,he] using this
def mh(x:Int):List AV:=[(.int .u8 x)]
def okU64(n:Int):Prop:=(Lit.int .u64 n).wf=true
theorem op_23:FZ Tryz.prog 23 lp okU64:=HI Tryz.underlying23 (λ_=>rfl)
def okU8(n:Int):Prop:=(Lit.int .u8 n).wf=true
theorem op_5:FZ Tryz.prog 5 mh okU8:=HI Tryz.underlying5 (λ_=>rfl)
def okB(n:Bool):Prop:=True
theorem op_4:FZ Tryz.prog 4 eB okB:=RW Tryz.underlying4 (λ_=>rfl)
theorem Gv{n:Int}(h:-9223372036854775808<=n)(h':n<9223372036854775808):Bd n=n:=by
 show IntKind.i64.wrap n=n
 simp only[IntKind.wrap,IntKind.bits,IntKind.signed]
 simp
 split<;>omega
theorem Xc{n:Int}(h:0<=n)(h':n<18446744073709551616):Dt n=n:=by
 show IntKind.u64.wrap n=n
 simp[IntKind.wrap,IntKind.bits,IntKind.signed];omega
theorem S5(n:Int):Dt n=n % 18446744073709551616:=by
 show IntKind.u64.wrap n=_
 simp[IntKind.wrap,IntKind.bits,IntKind.signed]
theorem Ar{R:Type}{p:Prop}[Decidable p]{k:Option R}(h:p):Cw p k=k:=if_pos h
theorem bK{x:Int}(j:Nat):x.fdiv (2 ^ j)=x / 2 ^ j:=by rw[Int.fdiv_eq_ediv_of_nonneg _ (by exact Int.le_of_lt (Int.pow_pos (by decide)))]
theorem Aa{α:Type}(l:List α)(i:Nat)(d:α)(h:i<l.length):l.getD i d=l[i]:=by simp[List.getD,h]
theorem kinds(k:Int):k=0\/k=1\/k=2\/k=3\/k=4\/k=5\/k=6\/k=7\/k=8\/k=9\/k=10\/k=11\/k=12\/k=13\/k=14\/k=15\/k=16\/k=17\/k=18\/k=19\/k=20\/k=21\/k=22\/(k<0\/22<k):=by omega
theorem cK{k:Int}(h:k<0\/22<k):(k==0)=false/\(k==1)=false/\(k==2)=false/\(k==3)=false/\(k==4)=false/\(k==5)=false/\(k==6)=false/\(k==7)=false/\(k==8)=false/\(k==9)=false/\(k==10)=false/\(k==11)=false/\(k==12)=false /\
  (k==13)=false/\(k==14)=false/\(k==15)=false/\(k==16)=false/\(k==17)=false/\(k==18)=false/\(k==19)=false/\(k==20)=false/\(k==21)=false/\(k==22)=false:=by
 simp only[zzL24,ne_eq];omega
def Dk(b:Int):Bool:=b==1 || b==8 || b==16 || b==32 || b==64
def Wi(b n:Int):Bool:=Dk b&&(n==1 || ((n==2 || n==4 || n==8 || n==16)&&decide (8<=b)&&decide (b*n<=128)))
theorem width_cases{b:Int}(h:Dk b=true):b=1\/b=8\/b=16\/b=32\/b=64:=by simp[Dk]at h;omega
theorem S1{b n:Int}(h:Wi b n=true):Dk b=true:=by simp[Wi]at h;exact h.1
theorem Og{b n:Int}(h:Wi b n=true):n=1\/n=2\/n=4\/n=8\/n=16:=by simp[Wi]at h;omega
theorem Pj(b:Int):Gt b=some (Dk b):=by
 unfold Gt Dk
 by_cases h1:b=1
 ·subst h1;rfl
 by_cases h2:b=8
 ·subst h2;rfl
 by_cases h3:b=16
 ·subst h3;rfl
 by_cases h4:b=32
 ·subst h4;rfl
 by_cases h5:b=64
 ·subst h5;rfl
 have e1:(b==1)=false:=by simpa using h1
 have e2:(b==8)=false:=by simpa using h2
 have e3:(b==16)=false:=by simpa using h3
 have e4:(b==32)=false:=by simpa using h4
 have e5:(b==64)=false:=by simpa using h5
 simp[e1,e2,e3,e4,e5]
theorem RK(b n:Int):Mp b n=some (Wi b n):=by
 unfold Mp;simp only[Pj,Aw]
 by_cases hn:n=1\/n=2\/n=4\/n=8\/n=16
 ·cases hw:Dk b with
  | false=>rcases hn with rfl|rfl|rfl|rfl|rfl<;>simp[Wi,hw]
  | true=>
   rcases width_cases hw with rfl|rfl|rfl|rfl|rfl<;>rcases hn with rfl|rfl|rfl|rfl|rfl<;>rfl
 ·have e1:(n==1)=false:=by simp;omega
  have e2:(n==2)=false:=by simp;omega
  have e3:(n==4)=false:=by simp;omega
  have e4:(n==8)=false:=by simp;omega
  have e5:(n==16)=false:=by simp;omega
  simp[Wi,e1,e2,e3,e4,e5]
theorem cx{v b:Int}(hv:0<=v/\v<18446744073709551616)(hb:Dk b=true):Qd v b=some (v % 2 ^ b.toNat):=by
 unfold Qd;simp only[Pj,hb,Aw,Fd,A2]
 have key:∀ j:Nat,j<64->W9 .u64 (SL .u64 v (j:Int)) (j:Int)=(v*2 ^ j % 18446744073709551616) / 2 ^ j:=λj hj=>by
  simp only[W9,SL,Dh,IntKind.bits];rw[Nat.min_eq_left (by omega),bK,show IntKind.u64.wrap (v*2 ^ j)=v*2 ^ j % 18446744073709551616 from S5 _]
 rcases width_cases hb with rfl|rfl|rfl|rfl|rfl
 ·have:=key 63 (by decide);simp only[show Bd (64-1)=((63:Nat):Int) from rfl,this];rw[Ar (by decide),Ar (by decide)];congr 1;simp only[show((1:Int).toNat)=1 from rfl];omega
 ·have:=key 56 (by decide);simp only[show Bd (64-8)=((56:Nat):Int) from rfl,this];rw[Ar (by decide),Ar (by decide)];congr 1;simp only[show((8:Int).toNat)=8 from rfl];omega
 ·have:=key 48 (by decide);simp only[show Bd (64-16)=((48:Nat):Int) from rfl,this];rw[Ar (by decide),Ar (by decide)];congr 1;simp only[show((16:Int).toNat)=16 from rfl];omega
 ·have:=key 32 (by decide);simp only[show Bd (64-32)=((32:Nat):Int) from rfl,this];rw[Ar (by decide),Ar (by decide)];congr 1;simp only[show((32:Int).toNat)=32 from rfl];omega
 ·have:=key 0 (by decide);simp only[show Bd (64-64)=((0:Nat):Int) from rfl,this];rw[Ar (by decide),Ar (by decide)];congr 1;simp only[show((64:Int).toNat)=64 from rfl];omega
theorem JU{i:Int}(h:0<=i/\i<18446744073709551616):Ig i=some (Dk i):=by
 unfold Ig
 by_cases hi:i<=64
 ·have:Bd i=i:=Gv (by omega) (by omega);simp[hi,this,Pj]
 ·have:Dk i=false:=by simp[Dk];omega
  simp[hi,this]
def bY(k:Int):Bool:=decide (0<=k)&&decide (k<=22)
def Me(k n:Int):Int:=
 bif k==0 then 0 else bif k==13 || k==18 || k==19 then 3 else bif k==14 || k==15 || k==16 || k==22 then 1 else bif k==20 then 4 else bif k==21 then n else 2
def W8(k b n:Int):Bool:=
 bif k==16 || k==17 then decide (8<=b) else bif k==18 || k==19 then decide (8<=b)&&n==1 else
 bif k==4 || k==10 || k==11 || k==12 || k==14 || k==15 || k==20 then n==1 else bif k==21 || k==22 then decide (1<n) else true
def ifitS(k b n i:Int):Bool:=
 bif k==0 then i % 2 ^ b.toNat==i else bif k==14 then Dk i&&decide (i<b) else bif k==15 then Dk i&&decide (b<i) else bif k==22 then decide (i<n) else i==0
def valS(v:Int):Bool:=decide (1<=v)&&decide (v<=1023)
def dstS(k d:Int):Bool:=bif k==17 || k==19 then d==0 else valS d
def Hm(o:Ce):Bool:=Wi o.Bits o.Lanes&&(bY o.Kind&&W8 o.Kind o.Bits o.Lanes&&ifitS o.Kind o.Bits o.Lanes o.Imm&&((o.Args.length:Int)==Me o.Kind o.Lanes))&&(o.Args.all valS&&dstS o.Kind o.Dst)
def GN(o:Ce)(i:Nat):Int×Int:=
 bif o.Kind==13 || o.Kind==20 then(bif Nat.beq i 0 then(1,1) else(o.Bits,o.Lanes)) else bif o.Kind==14 || o.Kind==15 then(Bd o.Imm,1) else
 bif o.Kind==16 || o.Kind==17 then(bif Nat.beq i 0 then(64,1) else(o.Bits,o.Lanes)) else
 bif o.Kind==18 || o.Kind==19 then(bif Nat.beq i 1 then(64,1) else bif Nat.beq i 0 then(1,1) else(o.Bits,o.Lanes)) else bif o.Kind==21 then(o.Bits,1) else(o.Bits,o.Lanes)
def Ln(o:Ce):List (Int×Int):=(List.range (Me o.Kind o.Lanes).toNat).map (GN o)
def L5(k b n:Int):Int×Int:=bif k==17 || k==19 then(0,0) else bif k==10 || k==11 || k==12 then(1,1) else bif k==22 then(b,1) else(b,n)
theorem ek{k:Int}(h:k<0\/22<k):bY k=false:=by simp[bY];omega
theorem MS(k:Int):Lr k=some (bY k):=by unfold Lr bY;cases decide ((0:Int)<=k)<;>rfl
theorem P7(v:Int):Ie v=some (valS v):=by unfold Ie valS;cases decide ((1:Int)<=v)<;>rfl
theorem CP(o:Ce):Iw o=some (W8 o.Kind o.Bits o.Lanes):=by
 obtain⟨k,b,n,d,args,i⟩:=o;rcases kinds k with rfl|rfl|rfl|rfl|rfl|rfl|rfl|rfl|rfl|rfl|rfl|rfl|rfl|rfl|rfl|rfl|rfl|rfl|rfl|rfl|rfl|rfl|rfl|h
 any_goals rfl
 ·show some (bif decide (8<=b) then n==1 else false)=some (decide (8<=b)&&n==1);cases decide (8<=b)<;>rfl
 ·show some (bif decide (8<=b) then n==1 else false)=some (decide (8<=b)&&n==1);cases decide (8<=b)<;>rfl
 ·unfold Iw W8;simp[cK h]
theorem CO(o:Ce):Ko o=some (L5 o.Kind o.Bits o.Lanes):=by
 obtain⟨k,b,n,d,args,i⟩:=o;rcases kinds k with rfl|rfl|rfl|rfl|rfl|rfl|rfl|rfl|rfl|rfl|rfl|rfl|rfl|rfl|rfl|rfl|rfl|rfl|rfl|rfl|rfl|rfl|rfl|h
 any_goals rfl
 unfold Ko L5;simp[cK h]
theorem JT(o:Ce)(hw:Dk o.Bits=true)(hn:0<=o.Lanes/\o.Lanes<=16)(hi:0<=o.Imm/\o.Imm<18446744073709551616):Kp o=some (ifitS o.Kind o.Bits o.Lanes o.Imm):=by
 unfold Kp ifitS
 have hb:Dt o.Bits=o.Bits:=by apply Xc<;>(rcases width_cases hw with h|h|h|h|h<;>omega)
 have hl:Dt o.Lanes=o.Lanes:=by apply Xc<;>omega
 rw[cx hi hw,JU hi,hb,hl]
 cases(o.Kind==0)<;>cases(o.Kind==14)<;>cases(o.Kind==15)<;>cases(o.Kind==22)<;>cases Dk o.Imm<;>rfl
set_option maxHeartbeats 2000000 in
theorem Se{α X:Type}(l:List α)(d:α)(p:α->Bool)(f:Int->Option (LR Int X))(yes no:X)(hn:∀ i:Nat,i<l.length->p (l.getD i d)=true->f i=some (.next ((i:Int)+1)))
  (hf:∀ i:Nat,i<l.length->p (l.getD i d)=false->f i=some (.done no)) (he:f l.length=some (.done yes)):∀(k i:Nat),i+k=l.length->Ai f i=some (bif (l.drop i).all p then yes else no)
 | 0,i,h=>by
  obtain rfl:i=l.length:=by omega
  rw[Ag he]
  simp
 | k+1,i,h=>by
  have hi:i<l.length:=by omega
  have hd:l.drop i=l.getD i d::l.drop (i+1):=by rw[Nn hi,Aa _ _ _ hi]
  cases hp:p (l.getD i d) with
  | true=>
   rw[An (hn i hi hp)];have:=Se l d p f yes no hn hf he k (i+1) (by omega);rw[show((i:Int)+1)=((i+1:Nat):Int) by omega,this,hd,Ok,hp,G8]
  | false=>
   rw[Ag (hf i hi hp),hd,Ok,hp,Vw,A2]
theorem UI{α X:Type}[BEq α][LawfulBEq α](l m:List α)(d:α)(f:Int->Option (LR Int X))(yes no:X)(hlen:l.length=m.length)(hn:∀ i:Nat,i<l.length->(l.getD i d==m.getD i d)=true->f i=some (.next ((i:Int)+1)))
  (hf:∀ i:Nat,i<l.length->(l.getD i d==m.getD i d)=false->f i=some (.done no)) (he:f l.length=some (.done yes)):∀(k i:Nat),i+k=l.length->Ai f i=some (bif l.drop i==m.drop i then yes else no)
 | 0,i,h=>by
  obtain rfl:i=l.length:=by omega
  rw[Ag he];rw[List.drop_length,hlen,List.drop_length]
  simp
 | k+1,i,h=>by
  have hi:i<l.length:=by omega
  have hd:l.drop i=l.getD i d::l.drop (i+1):=by rw[Nn hi,Aa _ _ _ hi]
  have hd':m.drop i=m.getD i d::m.drop (i+1):=by rw[Nn (by omega),Aa _ _ _ (by omega)]
  cases hp:(l.getD i d==m.getD i d) with
  | true=>
   rw[An (hn i hi hp)];have:=UI l m d f yes no hlen hn hf he k (i+1) (by omega);rw[show((i:Int)+1)=((i+1:Nat):Int) by omega,this,hd,hd',List.cons_beq_cons,hp,G8]
  | false=>
   rw[Ag (hf i hi hp),hd,hd',List.cons_beq_cons,hp,Vw,A2]
theorem Wl{α:Type}(l:List α)(d:α)(wt:α->Nat)(C:Nat)(f:Int×Int->Option (LR (Int×Int) Int))
  (hn:∀(n i:Nat),i<l.length->n<=C->∃ m:Nat,f ((n:Int),(i:Int))=some (.next ((m:Int),((i+1:Nat):Int)))/\(n+wt (l.getD i d)<=C->m=n+wt (l.getD i d))/\(m<=C->n+wt (l.getD i d)<=C))
  (hd:∀(n i:Nat),i<=l.length->(i=l.length\/C<n)->f ((n:Int),(i:Int))=some (.done (n:Int))) :
  ∀(k i n:Nat),i+k=l.length->∃ m:Nat,Ai f ((n:Int),(i:Int))=some (m:Int)/\(n+((l.drop i).map wt).sum<=C->m=n+((l.drop i).map wt).sum)/\(m<=C->n+((l.drop i).map wt).sum<=C)
 | 0,i,n,h=>by
  obtain rfl:i=l.length:=by omega
  refine⟨n,Ag (hd n _ (zzL8 _) (.inl rfl)),?_,?_⟩
  ·simp
  ·simp
 | k+1,i,n,h=>by
  have hi:i<l.length:=by omega
  have hdr:l.drop i=l.getD i d::l.drop (i+1):=by rw[Nn hi,Aa _ _ _ hi]
  by_cases hC:n<=C
  ·obtain⟨m,h1,h2,h3⟩:=hn n i hi hC;obtain⟨m',h4,h5,h6⟩:=Wl l d wt C f hn hd k (i+1) m (by omega);refine⟨m',by rw[An h1];exact h4,λhle=>?_,λhle=>?_⟩
   ·rw[hdr,Bq,U1]at hle ⊢;have:=h2 (by omega);subst this;rw[h5 (by omega)];omega
   ·rw[hdr,Bq,U1];have h7:=h6 hle;have h8:=h3 (by omega);have:=h2 h8;omega
  ·refine⟨n,Ag (hd n i (by omega) (.inr (by omega))),λhle=>by omega,λhle=>by omega⟩
theorem P9{X:Type}(N:Nat)(f:Int×Int->Option (LR (Int×Int) X))(hn:∀(n:Int) (i:Nat),i<N->(∃ m:Int,f (n,(i:Int))=some (.next (m,((i+1:Nat):Int))))\/∃ x,f (n,(i:Int))=some (.done x))(hd:∀ n:Int,∃ x,f (n,(N:Int))=some (.done x)) :
  ∀(k i:Nat) (n:Int),i+k=N->∃ x,Ai f (n,(i:Int))=some x
 | 0,i,n,h=>by
  obtain rfl:i=N:=by omega
  obtain⟨x,hx⟩:=hd n;exact⟨x,Ag hx⟩
 | k+1,i,n,h=>by
  rcases hn n i (by omega) with⟨m,hm⟩|⟨x,hx⟩
  ·obtain⟨x,hx⟩:=P9 N f hn hd k (i+1) m (by omega);exact⟨x,by rw[An hm];exact hx⟩
  ·exact⟨x,Ag hx⟩
theorem GZ{α X:Type}(l:List α)(d:α)(wt:α->Nat)(out:Int->X)(f:Int×Int->Option (LR (Int×Int) X))
  (hn:∀(n i:Nat),i<l.length->f (Bd n,(i:Int))=some (.next (Bd ((n+wt (l.getD i d):Nat):Int),((i+1:Nat):Int)))) (hd:∀ n:Int,f (n,(l.length:Int))=some (.done (out n))) :
  ∀(k i n:Nat),i+k=l.length->Ai f (Bd n,(i:Int))=some (out (Bd ((n+((l.drop i).map wt).sum:Nat):Int)))
 | 0,i,n,h=>by
  obtain rfl:i=l.length:=by omega
  rw[Ag (hd _)]
  simp
 | k+1,i,n,h=>by
  have hi:i<l.length:=by omega
  have hdr:l.drop i=l.getD i d::l.drop (i+1):=by rw[Nn hi,Aa _ _ _ hi]
  rw[An (hn n i hi),GZ l d wt out f hn hd k (i+1) _ (by omega),hdr,Bq,U1,Rk]
theorem UY(a b:Int):Bd (Bd a+b)=Bd (a+b):=by
 show IntKind.i64.wrap (IntKind.i64.wrap a+b)=IntKind.i64.wrap (a+b)
 simp only[IntKind.wrap,IntKind.bits,IntKind.signed]
 simp
 split<;>split<;>omega
theorem getD_mem{α:Type}{l:List α}{i:Nat}{d:α}(h:i<l.length):l.getD i d∈l:=by rw[Aa _ _ _ h];exact Xi h
theorem Bb{i n:Nat}(h:i<n):Cd (i:Int) n:=⟨by omega,by exact_mod_cast h⟩
theorem Dg{i n:Nat}(h:i<n)(hn:n<9223372036854775808):Bd ((i:Int)+1)=(i:Int)+1:=Gv (by omega) (by omega)
def bU(l:List Int):Prop:=∀ x∈l,0<=x/\x<=2147483647
theorem Wk{S X:Type}(f:S->Option (LR S X))(T:Nat->S)(x:X):∀(n:Nat),(∀ i,i<n->f (T i)=some (.next (T (i+1))))->f (T n)=some (.done x)->Ai f (T 0)=some x:=by
 suffices h:∀(k i n:Nat),i+k=n->(∀ j,i<=j->j<n->f (T j)=some (.next (T (j+1))))->f (T n)=some (.done x)->Ai f (T i)=some x from
  λn h1 h2=>h n 0 n (by omega) (λj _ hj=>h1 j hj) h2
 intro k
 induction k with
 | zero=>
  intro i n hi _ h2
  have hin:n=i:=by omega
  subst hin;exact Ag h2
 | succ k ih=>intro i n hi h1 h2;rw[An (h1 i (zzL8 _) (by omega))];exact ih (i+1) n (by omega) (λj hj hj'=>h1 j (by omega) hj') h2
theorem FF{S X:Type}(f:S->Option (LR S X))(T:Nat->S):∀(n:Nat),(∀ i,i<n->f (T i)=some (.next (T (i+1))))->Ai f (T 0)=Ai f (T n):=by
 intro n
 induction n with
 | zero=>intro _;rfl
 | succ n ih=>intro h;rw[ih (λi hi=>h i (by omega)),An (h n (by omega))]
theorem My{S X:Type}(f:S->Option (LR S X))(T:Nat->S)(p:Nat->Bool)(yes no:X)(n:Nat)(hn:∀ i,i<n->p i=true->f (T i)=some (.next (T (i+1))))(hf:∀ i,i<n->p i=false->f (T i)=some (.done no))
  (he:f (T n)=some (.done yes)):Ai f (T 0)=some (bif (List.range n).all p then yes else no):=by
 cases hall:(List.range n).all p with
 | true=>
  rw[Ae];exact Wk f T yes n (λi hi=>hn i hi (zzL25.1 hall i (zzL34.2 hi))) he
 | false=>
  rw[A2]
  have hex:∃ i,i<n/\p i=false:=by
   have:¬ ∀ i∈List.range n,p i=true:=λh=>by rw[zzL25.2 h]at hall;cases hall
   simpa using this
  let P:Nat->Prop:=λm=>m<n/\p m=false
  obtain⟨m,hm⟩:=hex
  have key:∀ m,m<n->p m=false->∃ k,k<n/\p k=false/\∀ j,j<k->p j=true:=by
   intro m
   induction m using Nat.strongRecOn with
   | ind m ih=>
    intro h1 h2
    by_cases h:∃ j,j<m/\p j=false
    ·obtain⟨j,hj,hpj⟩:=h;exact ih j hj (by omega) hpj
    ·refine⟨m,h1,h2,λj hj=>?_⟩
     cases hpj:p j with
     | true=>rfl
     | false=>exact(h ⟨j,hj,hpj⟩).elim
  obtain⟨k,hk,hpk,hlt⟩:=key m hm.1 hm.2;rw[FF f T k (λi hi=>hn i (by omega) (hlt i hi))];exact Ag (hf k hk hpk)
theorem all_range{n:Nat}{p:Nat->Bool}:(List.range n).all p=true↔∀ i,i<n->p i=true:=by
 rw[zzL25];exact⟨λh i hi=>h i (zzL34.2 hi),λh i hi=>h i (zzL34.1 hi)⟩
theorem A6(i:Nat):((i:Int)).toNat=i:=Dh i
theorem w1{i:Nat}(h:i<4611686018427387904):Bd ((i:Int)+1)=((i+1:Nat):Int):=by rw[Gv (by omega) (by omega)];omega
theorem Fv{i n:Nat}(h:i<n):decide (((i:Nat):Int)<((n:Nat):Int))=true:=by simpa using h
theorem Kd{n:Nat}:decide (((n:Nat):Int)<((n:Nat):Int))=false:=by simp
theorem I9{i n:Nat}(h:i<n):Cd ((i:Nat):Int) n:=Bb h
theorem kD{x:Int}{n:Nat}(h0:0<=x)(h1:x<n):Cd x n:=⟨h0,h1⟩
structure YT(o:Ce):Prop where
 imm:0<=o.Imm/\o.Imm<18446744073709551616
 args:o.Args.length<=200
theorem SF(x:Int×Int)(n:Int)(h:n=2\/n=4\/n=8\/n=16):Bm [x] n=some (List.replicate n.toNat x):=by
 let d:Int×Int:=(0,0)
 rcases h with rfl|rfl|rfl|rfl
 ·have e:Bm [x] 2=(Ai B9 (1,[x,d])).bind some:=by kernel_rfl
  rw[e,An (s':=(2,[x,x])) (by kernel_rfl),Ag (x:=[x,x]) (by kernel_rfl)]
  rfl
 ·have e:Bm [x] 4=(Ai B9 (1,[x,d,d,d])).bind some:=by kernel_rfl
  rw[e,An (s':=(2,[x,x,d,d])) (by kernel_rfl),An (s':=(4,[x,x,x,x])) (by kernel_rfl),Ag (x:=[x,x,x,x]) (by kernel_rfl)]
  rfl
 ·have e:Bm [x] 8=(Ai B9 (1,[x,d,d,d,d,d,d,d])).bind some:=by kernel_rfl
  rw[e,An (s':=(2,[x,x,d,d,d,d,d,d])) (by kernel_rfl),An (s':=(4,[x,x,x,x,d,d,d,d])) (by kernel_rfl),An (s':=(8,[x,x,x,x,x,x,x,x])) (by kernel_rfl),
   Ag (x:=[x,x,x,x,x,x,x,x]) (by kernel_rfl)]
  rfl
 ·have e:Bm [x] 16=(Ai B9 (1,[x,d,d,d,d,d,d,d,d,d,d,d,d,d,d,d])).bind some:=by kernel_rfl
  rw[e,An (s':=(2,[x,x,d,d,d,d,d,d,d,d,d,d,d,d,d,d])) (by kernel_rfl),An (s':=(4,[x,x,x,x,d,d,d,d,d,d,d,d,d,d,d,d])) (by kernel_rfl),
   An (s':=(8,[x,x,x,x,x,x,x,x,d,d,d,d,d,d,d,d])) (by kernel_rfl),An (s':=(16,List.replicate 16 x)) (by kernel_rfl),Ag (x:=List.replicate 16 x) (by kernel_rfl)]
  rfl
theorem bc(l:List (Int×Int)):E9 l=some l:=rfl
theorem CQ(o:Ce)(hs:Wi o.Bits o.Lanes=true)(hk:bY o.Kind=true)(hf:W8 o.Kind o.Bits o.Lanes=true):Kq o=some (Ln o):=by
 have hl:=Og hs;obtain⟨k,b,n,d,args,i⟩:=o;simp only at hs hk hf hl ⊢;rcases kinds k with rfl|rfl|rfl|rfl|rfl|rfl|rfl|rfl|rfl|rfl|rfl|rfl|rfl|rfl|rfl|rfl|rfl|rfl|rfl|rfl|rfl|rfl|rfl|h
 case inr.inr.inr.inr.inr.inr.inr.inr.inr.inr.inr.inr.inr.inr.inr.inr.inr.inr.inr.inr.inr.inl=>
  have h1:n≠1:=by rintro rfl;simp[W8]at hf
  have h4:n=2\/n=4\/n=8\/n=16:=by omega
  unfold Kq;rw[show(((21:Int))==21)=true from rfl];simp only[SF _ _ h4,bc,Aw];rcases h4 with rfl|rfl|rfl|rfl<;>rfl
 all_goals first
  | rfl
  | (rw[ek h]at hk;cases hk)
  | (rcases hl with rfl|rfl|rfl|rfl|rfl<;>first|rfl|(simp[W8]at hf))
theorem JR(o:Ce)(hs:Wi o.Bits o.Lanes=true)(hk:bY o.Kind=true)(hf:W8 o.Kind o.Bits o.Lanes=true)(hl:o.Args.length<=200):Km o=some (((o.Args.length:Int)==Me o.Kind o.Lanes)&&o.Args.all valS):=by
 unfold Km;rw[CQ o hs hk hf]
 have hn:0<=Me o.Kind o.Lanes:=by
  have:=Og hs;unfold Me
  cases(o.Kind==0)<;>cases(o.Kind==13 || o.Kind==18 || o.Kind==19)<;>cases(o.Kind==14 || o.Kind==15 || o.Kind==16 || o.Kind==22)<;>cases(o.Kind==20)<;>cases(o.Kind==21)<;>simp<;>omega
 have hlen:((Ln o).length:Int)=Me o.Kind o.Lanes:=by simp[Ln];omega
 simp only[Aw,hlen]
 by_cases he:(o.Args.length:Int)=Me o.Kind o.Lanes
 ·have e1:((o.Args.length:Int)==Me o.Kind o.Lanes)=true:=by simpa using he
  have e2:((o.Args.length:Int)!=Me o.Kind o.Lanes)=false:=by simpa using he
  rw[e1,e2,A2]
  have hloop:=Se o.Args (0:Int) valS (Gj o) (.inl ()) (.inr false) (λi hi hp=>by
    unfold Gj
    have:decide ((i:Int)<(o.Args.length:Int))=true:=by simpa using hi
    simp only[this,Ae,Ar (Bb hi),Dh,P7,Aw,hp,Fd,A2,Dg hi (by omega)]) (λi hi hp=>by
    unfold Gj
    have:decide ((i:Int)<(o.Args.length:Int))=true:=by simpa using hi
    simp only[this,Ae,Ar (Bb hi),Dh,P7,Aw,hp,L2]) (by
    unfold Gj
    simp) o.Args.length 0 (by omega)
  rw[show(0:Int)=((0:Nat):Int) from rfl,hloop,K5]
  cases o.Args.all valS<;>rfl
 ·have e1:((o.Args.length:Int)==Me o.Kind o.Lanes)=false:=by simpa using he
  have e2:((o.Args.length:Int)!=Me o.Kind o.Lanes)=true:=by simpa using he
  rw[e1,e2];rfl
theorem CJ{k b n:Int}(hs:Wi b n=true):((L5 k b n).1==0)=(k==17 || k==19):=by
 have hb:(b==0)=false:=by
  have:=width_cases (S1 hs);simp;omega
 unfold L5
 cases(k==17 || k==19)<;>cases(k==10 || k==11 || k==12)<;>cases(k==22)<;>simp_all
theorem JS(o:Ce)(hs:Wi o.Bits o.Lanes=true):Kn o=some (dstS o.Kind o.Dst):=by
 unfold Kn;simp only[CO,Aw,CJ hs,P7,dstS]
 cases(o.Kind==17 || o.Kind==19)<;>rfl
theorem CN(o:Ce)(ho:YT o):Lh o=some (Hm o):=by
 unfold Lh Hm;simp only[MS,RK,CP,Aw]
 cases hs:Wi o.Bits o.Lanes with
 | false=>cases bY o.Kind<;>rfl
 | true=>
  have hl:=Og hs
  cases hk:bY o.Kind with
  | false=>rfl
  | true=>
   rw[JT o (S1 hs) (by omega) ho.imm];simp only[JS o hs]
   cases hf:W8 o.Kind o.Bits o.Lanes with
   | false=>rfl
   | true=>
    rw[JR o hs hk hf ho.args]
    generalize ifitS o.Kind o.Bits o.Lanes o.Imm=p
    generalize ((o.Args.length:Int)==Me o.Kind o.Lanes)=q
    generalize o.Args.all valS=r
    generalize dstS o.Kind o.Dst=s
    cases p<;>cases q<;>cases r<;>cases s<;>rfl
theorem BD{o:Ce}(h:Hm o=true):Wi o.Bits o.Lanes=true/\bY o.Kind=true/\W8 o.Kind o.Bits o.Lanes=true/\ifitS o.Kind o.Bits o.Lanes o.Imm=true/\(o.Args.length:Int)=Me o.Kind o.Lanes/\o.Args.all valS=true/\dstS o.Kind o.Dst=true:=by
 simp only[Hm,A4,zzL72]at h;exact⟨h.1.1,h.1.2.1.1.1,h.1.2.1.1.2,h.1.2.1.2,h.1.2.2,h.2.1,h.2.2⟩
theorem RL(o:Ce)(ho:YT o):Kl o=some (bif Hm o then Ln o else[]):=by
 unfold Kl;rw[CN o ho];simp only[Aw]
 cases hm:Hm o with
 | false=>rfl
 | true=>
  obtain⟨h1,h2,h3,_⟩:=BD hm;simp only[CQ o h1 h2 h3,Aw]
  rfl
theorem RJ(o:Ce)(ho:YT o):Kk o=some (bif Hm o then L5 o.Kind o.Bits o.Lanes else(0,0)):=by
 unfold Kk;rw[CN o ho];simp only[Aw,CO]
 cases Hm o<;>rfl
def numB(n:Int):Bool:=decide (0<=n)&&decide (n<=2147483647)
def Lv(l:List Int):Bool:=l.all numB&&decide (l.length<=64)
def FR(p:F8):Bool:=numB p.Bits&&numB p.Dst&&Lv p.From&&Lv p.Args
def LG(o:Ce):Bool:=numB o.Kind&&numB o.Bits&&numB o.Lanes&&numB o.Dst&&Lv o.Args
def MJ(e:Ip):Bool:=numB e.Kind&&numB e.Arg&&Lv e.To
def blockB(b:Ak):Bool:=b.Phis.all FR&&b.Ops.all LG&&MJ b.End
def sizeB(b:Ak):Nat:=b.Phis.length+b.Ops.length+1
def Oh(f:Ab):Nat:=(f.Blocks.map sizeB).sum
def sizeW(f:Ab):Int:=Bd (Oh f)
def Qe(f:Ab):Bool:=decide (1<=f.Blocks.length)&&decide (f.Blocks.length<=64)&&decide (f.Params.length<=16)&&Lv f.Params&&numB f.Ret&&decide (sizeW f<=512)&&f.Blocks.all blockB
def WN(p:F8):Nat:=1+p.From.length+p.Args.length
def JO(o:Ce):Nat:=1+o.Args.length
def WL(b:Ak):Nat:=1+b.End.To.length+(b.Phis.map WN).sum+(b.Ops.map JO).sum
def WM(f:Ab):Nat:=f.Params.length+(f.Blocks.map WL).sum
theorem Ix:maxLen=9223372036854775807:=rfl
structure dY(f:Ab):Prop where
 params:f.Params.length<=maxLen
 blocks:f.Blocks.length<=maxLen
 block:∀ b∈f.Blocks,b.Phis.length<=maxLen/\b.Ops.length<=maxLen/\b.End.To.length<=maxLen
 phi:∀ b∈f.Blocks,∀ p∈b.Phis,p.From.length<=maxLen/\p.Args.length<=maxLen
 op:∀ b∈f.Blocks,∀ o∈b.Ops,o.Args.length<=maxLen/\0<=o.Imm/\o.Imm<18446744073709551616
theorem BN{n:Nat}(h:n<9223372036854775808):Bd (n:Int)=n:=Gv (by omega) (by omega)
theorem In{i n:Nat}(h:i<n)(hn:n<=maxLen):Bd ((i:Int)+1)=((i+1:Nat):Int):=by rw[Ix]at hn;rw[show((i:Int)+1)=((i+1:Nat):Int) by omega,BN (by omega)]
theorem SM(f:Ab)(hf:dY f):∃ b,Do f=some b:=by
 have h3:∃ x,Ai (Bn f) ((f.Params.length:Int),((0:Nat):Int))=some x:=by
  refine P9 f.Blocks.length (Bn f) (λn i hi=>?_) (λn=>?_) f.Blocks.length 0 _ (Fs _)
  ·have hmem:=getD_mem (d:=(default:Ak)) hi;obtain⟨b1,b2,_⟩:=hf.block _ hmem;have hI:Cd (i:Int) f.Blocks.length:=Bb hi;unfold Bn
   cases hc:(bif decide ((i:Int)<(f.Blocks.length:Int)) then decide (n<=20000) else false) with
   | false=>right;simp only[hc,A2];exact⟨_,rfl⟩
   | true=>
    left
    simp only[hc,Ae,Ar hI]
    obtain⟨x1,h1⟩:=P9 (f.Blocks.getD i default).Phis.length (B3 f i) (λn j hj=>by
      unfold B3;simp only[Ar hI,Dh]
      cases hc:(bif decide ((j:Int)<((f.Blocks.getD i default).Phis.length:Int)) then decide (n<=20000) else false) with
      | false=>right;exact⟨_,rfl⟩
      | true=>left;simp only[Ae,Ar (Bb hj),In hj b1];exact⟨_,rfl⟩) (λn=>by
      unfold B3;simp only[Ar hI,Dh]
      have:decide (((f.Blocks.getD i default).Phis.length:Int)<((f.Blocks.getD i default).Phis.length:Int))=false:=by simp
      simp only[this,A2];exact⟨_,rfl⟩) _ 0 (Bd (Bd (n+1)+((f.Blocks.getD i default).End.To.length:Int))) (Fs _)
    obtain⟨x2,h2⟩:=P9 (f.Blocks.getD i default).Ops.length (B4 f i) (λn j hj=>by
      unfold B4;simp only[Ar hI,Dh]
      cases hc:(bif decide ((j:Int)<((f.Blocks.getD i default).Ops.length:Int)) then decide (n<=20000) else false) with
      | false=>right;exact⟨_,rfl⟩
      | true=>left;simp only[Ae,Ar (Bb hj),In hj b2];exact⟨_,rfl⟩) (λn=>by
      unfold B4;simp only[Ar hI,Dh]
      have:decide (((f.Blocks.getD i default).Ops.length:Int)<((f.Blocks.getD i default).Ops.length:Int))=false:=by simp
      simp only[this,A2];exact⟨_,rfl⟩) _ 0 x1 (Fs _)
    rw[show((0:Nat):Int)=0 from rfl]at h1 h2;simp only[Dh,h1,h2,Aw,In hi hf.blocks];exact⟨_,rfl⟩
  ·unfold Bn
   have:decide ((f.Blocks.length:Int)<(f.Blocks.length:Int))=false:=by simp
   simp only[this,A2];exact⟨_,rfl⟩
 obtain⟨x,hx⟩:=h3;unfold Do;rw[show((0:Nat):Int)=0 from rfl]at hx;rw[hx];exact⟨_,rfl⟩
theorem OO(f:Ab)(hf:dY f)(h0:f.Params.length<=64)(hb:∀ b∈f.Blocks,b.End.To.length<=64/\(∀ p∈b.Phis,p.From.length<=64/\p.Args.length<=64)/\∀ o∈b.Ops,o.Args.length<=64):Do f=some (decide (WM f<=20000)):=by
 have h3:=Wl f.Blocks (default:Ak) WL 20000 (Bn f) (λn i hi hn=>by
   have hmem:=getD_mem (d:=(default:Ak)) hi;obtain⟨b1,b2,b3⟩:=hf.block _ hmem;obtain⟨hTo,hPh,hOp⟩:=hb _ hmem;have hI1:Cd (i:Int) f.Blocks.length:=Bb hi
   have l1:=Wl (f.Blocks.getD i default).Phis (default:F8) WN 20000 (B3 f i) (λn j hj hn=>by
     have hm:=getD_mem (d:=(default:F8)) hj;obtain⟨p1,p2⟩:=hPh _ hm
     have e1:decide ((j:Int)<((f.Blocks.getD i default).Phis.length:Int))=true:=by simpa using hj
     have e2:decide ((n:Int)<=20000)=true:=by simp;omega
     refine⟨n+WN ((f.Blocks.getD i default).Phis.getD j default),?_,λ_=>rfl,λh=>h⟩;unfold B3;simp only[Ar hI1,Dh,e1,e2,Ae,Ar (Bb hj),In hj b1]
     congr 3
     rw[Gv (n:=(n:Int)+1) (by omega) (by omega),Gv (n:=(n:Int)+1+_) (by omega) (by omega),Gv (by omega) (by omega)];simp only[WN]
     omega) (λn j hj hd=>by
     unfold B3;simp only[Ar hI1,Dh]
     have:(bif decide ((j:Int)<((f.Blocks.getD i default).Phis.length:Int)) then decide ((n:Int)<=20000) else false)=false:=by
      rcases hd with rfl|h
      ·simp
      ·simp;omega
     rw[this];rfl)
   have l2:=Wl (f.Blocks.getD i default).Ops (default:Ce) JO 20000 (B4 f i) (λn j hj hn=>by
     have hm:=getD_mem (d:=(default:Ce)) hj;have p1:=hOp _ hm
     have e1:decide ((j:Int)<((f.Blocks.getD i default).Ops.length:Int))=true:=by simpa using hj
     have e2:decide ((n:Int)<=20000)=true:=by simp;omega
     refine⟨n+JO ((f.Blocks.getD i default).Ops.getD j default),?_,λ_=>rfl,λh=>h⟩;unfold B4;simp only[Ar hI1,Dh,e1,e2,Ae,Ar (Bb hj),In hj b2]
     congr 3
     rw[Gv (n:=(n:Int)+1) (by omega) (by omega),Gv (by omega) (by omega)];simp only[JO]
     omega) (λn j hj hd=>by
     unfold B4;simp only[Ar hI1,Dh]
     have:(bif decide ((j:Int)<((f.Blocks.getD i default).Ops.length:Int)) then decide ((n:Int)<=20000) else false)=false:=by
      rcases hd with rfl|h
      ·simp
      ·simp;omega
     rw[this];rfl)
   have e1:decide ((i:Int)<(f.Blocks.length:Int))=true:=by simpa using hi
   have e2:decide ((n:Int)<=20000)=true:=by simp;omega
   obtain⟨m1,q1,q2,q3⟩:=l1 _ 0 (n+1+(f.Blocks.getD i default).End.To.length) (Fs _);obtain⟨m2,q4,q5,q6⟩:=l2 _ 0 m1 (Fs _);rw[K5]at q2 q3 q5 q6;refine⟨m2,?_,λhle=>?_,λhle=>?_⟩
   ·unfold Bn;simp only[e1,e2,Ae,Ar hI1,Dh,In hi hf.blocks];rw[Gv (n:=(n:Int)+1) (by omega) (by omega),Gv (by omega) (by omega),show(n:Int)+1+((f.Blocks.getD i default).End.To.length:Int)=((n+1+(f.Blocks.getD i default).End.To.length:Nat):Int) by omega];rw[show((0:Nat):Int)=0 from rfl]at q1 q4;rw[q1,Aw,q4,Aw]
   ·simp only[WL]at hle ⊢;have:=q2 (by omega);rw[q5 (by omega)];omega
   ·simp only[WL];have h6:=q6 hle;have h3:=q3 (by omega);have:=q2 h3
    omega) (λn i hi hd=>by
   unfold Bn
   have:(bif decide ((i:Int)<(f.Blocks.length:Int)) then decide ((n:Int)<=20000) else false)=false:=by
    rcases hd with rfl|h
    ·simp
    ·simp;omega
   simp only[this,A2]) f.Blocks.length 0 f.Params.length (Fs _)
 obtain⟨m,h1,h2,h4⟩:=h3;rw[K5]at h2 h4;unfold Do;rw[show((0:Nat):Int)=0 from rfl]at h1;rw[h1,Aw]
 congr 1
 apply zzL105.2
 simp only[WM]
 constructor
 ·intro h;exact h4 (by omega)
 ·intro h;have:=h2 h;omega
theorem bt{n:Int}:numB n=true↔0<=n/\n<=2147483647:=by simp[numB]
theorem listB_iff{l:List Int}:Lv l=true↔bU l/\l.length<=64:=by
 simp[Lv,bU,bt]
def kW(n:Int):Prop:=0<=n/\n<18446744073709551616
structure mb(b:Ak):Prop where
 may:blockB b=true
 phis:b.Phis.length<=512
 ops:b.Ops.length<=512
 imm:∀ o∈b.Ops,kW o.Imm
structure OkF(f:Ab):Prop where
 params:Lv f.Params=true
 few:f.Params.length<=16
 ret:numB f.Ret=true
 blocks:f.Blocks.length<=64
 block:∀ b∈f.Blocks,mb b
theorem blockB_iff{b:Ak}:blockB b=true↔(∀ p∈b.Phis,FR p=true)/\(∀ o∈b.Ops,LG o=true)/\MJ b.End=true:=by
 simp[blockB,and_assoc]
theorem jI{α:Type}(l:List α)(g:α->Nat)(B:Nat)(h:∀ a∈l,g a<=B):(l.map g).sum<=l.length*B:=by
 induction l with
 | nil=>simp
 | cons a l ih=>
  have h1:=h a (by simp);have h2:=ih (λb hb=>h b (by simp[hb]));rw[Bq,U1,Oj,D1];omega
theorem cg{α:Type}(l:List α)(g k:α->Nat)(h:∀ a∈l,g a<=k a):(l.map g).sum<=(l.map k).sum:=by
 induction l with
 | nil=>simp
 | cons a l ih=>
  have h1:=h a (by simp);have h2:=ih (λb hb=>h b (by simp[hb]));rw[Bq,U1,Bq,U1];omega
theorem CS{α:Type}(l:List α)(g:α->Nat)(h:∀ a∈l,1<=g a):l.length<=(l.map g).sum:=by
 induction l with
 | nil=>simp
 | cons a l ih=>
  have h1:=h a (by simp);have h2:=ih (λb hb=>h b (by simp[hb]));rw[Bq,U1,Oj];omega
theorem RP{α:Type}{l:List α}{a:α}(g:α->Nat)(h:a∈l):g a<=(l.map g).sum:=by
 induction l with
 | nil=>cases h
 | cons b l ih=>
  rw[Bq,U1];rcases zzL23.1 h with rfl|h
  ·omega
  ·have:=ih h;omega
theorem OkF.size{f:Ab}(h:OkF f):Oh f<=65600/\sizeW f=Oh f:=by
 have:Oh f<=f.Blocks.length*1025:=jI _ _ _ λb hb=>by
  have h1:=(h.block b hb).phis;have h2:=(h.block b hb).ops;simp only[sizeB];omega
 have h2:=h.blocks
 have h3:Oh f<=65600:=by omega
 exact⟨h3,BN (by omega)⟩
theorem X7{f:Ab}(h:Qe f=true):1<=f.Blocks.length/\f.Blocks.length<=64/\f.Params.length<=16/\Lv f.Params=true/\numB f.Ret=true/\sizeW f<=512/\∀ b∈f.Blocks,blockB b=true:=by
 simp only[Qe,A4,D0,zzL25]at h;exact⟨h.1.1.1.1.1.1,h.1.1.1.1.1.2,h.1.1.1.1.2,h.1.1.1.2,h.1.1.2,h.1.2,h.2⟩
theorem XB{f:Ab}(h:Qe f=true):f.Params.length<=64/\∀ b∈f.Blocks,b.End.To.length<=64/\(∀ p∈b.Phis,p.From.length<=64/\p.Args.length<=64)/\∀ o∈b.Ops,o.Args.length<=64:=by
 obtain⟨_,_,h3,_,_,_,h7⟩:=X7 h;refine⟨by omega,λb hb=>?_⟩;obtain⟨q1,q2,q3⟩:=blockB_iff.1 (h7 b hb);simp only[MJ,A4]at q3;refine⟨(listB_iff.1 q3.2).2,λp hp=>?_,λo ho=>?_⟩
 ·have:=q1 p hp;simp only[FR,A4]at this;exact⟨(listB_iff.1 this.1.2).2,(listB_iff.1 this.2).2⟩
 ·have:=q2 o ho;simp only[LG,A4]at this;exact(listB_iff.1 this.2).2
theorem ip{f:Ab}(hf:dY f)(h:Qe f=true)(hs:WM f<=20000):OkF f/\Oh f<=512:=by
 obtain⟨h1,h2,h3,h4,h5,h6,h7⟩:=X7 h
 have hle:Oh f<=WM f:=by
  have:Oh f<=(f.Blocks.map WL).sum:=cg _ _ _ λb hb=>by
   have q1:b.Phis.length<=(b.Phis.map WN).sum:=CS _ _ λp hp=>by simp only[WN];omega
   have q2:b.Ops.length<=(b.Ops.map JO).sum:=CS _ _ λp hp=>by simp only[JO];omega
   simp only[sizeB,WL];omega
  simp only[WM];omega
 have hw:sizeW f=Oh f:=BN (by omega)
 have h512:Oh f<=512:=by omega
 refine⟨⟨h4,h3,h5,h2,λb hb=>?_⟩,h512⟩;have hb512:sizeB b<=Oh f:=RP sizeB hb;simp only[sizeB]at hb512;exact⟨h7 b hb,by omega,by omega,λo ho=>(hf.op b hb o ho).2⟩
theorem OP(f:Ab)(hf:dY f):∃ sm,Do f=some sm/\(sm=true->Qe f=true->OkF f/\Oh f<=512/\1<=f.Blocks.length):=by
 obtain⟨sm,h⟩:=SM f hf;refine⟨sm,h,λh1 h2=>?_⟩;obtain⟨q1,q2⟩:=XB h2;rw[OO f hf q1 q2]at h;subst h1;obtain⟨r1,r2⟩:=ip hf h2 (by simpa using OI h);exact⟨r1,r2,(X7 h2).1⟩
def JW(l:Int):Int:=bif l==0 then 17 else bif l==1 then 20 else 22
def G0(l:Int)(o:Ce):Bool:=Hm o&&!decide (JW l<o.Kind)&&!(decide (l<2)&&decide (1<o.Lanes))
def He(l:Int)(b:Ak):Bool:=(b.Phis.all λp=>Dk p.Bits)&&b.Ops.all (G0 l)
def O2(f:Ab)(l:Int):Bool:=f.Params.all Dk&&f.Blocks.all (He l)&&Dk f.Ret
theorem i0{f:Ab}(hf:OkF f){b:Ak}(hb:b∈f.Blocks){o:Ce}(ho:o∈b.Ops):YT o:=by
 have h1:=hf.block b hb;have h2:=(blockB_iff.1 h1.may).2.1 o ho;simp only[LG,A4]at h2;exact⟨⟨(h1.imm o ho).1,(h1.imm o ho).2⟩,by have:=(listB_iff.1 h2.2).2;omega⟩
theorem fg:room=1099511627776:=rfl
theorem Jx{β:Type}(C:Nat)(E:Nat->List β):∀ l:List Nat,(∀ i∈l,(E i).length<=C)->(l.flatMap E).length<=l.length*C
 | [],_=>by simp
 | a::l,h=>by
  have h1:=h a (by simp);have h2:=Jx C E l (λi hi=>h i (by simp[hi]));rw[Ta,E6,Oj,D1];omega
def H6(l:List TDef)(v:Int):Int:=match l.findIdx? (λd=>d.V==v) with|some i=>(i:Int)|none=>-1
def Gq(o:Ce):Int×Int:=bif Hm o then L5 o.Kind o.Bits o.Lanes else(0,0)
def Ey(o:Ce):List (Int×Int):=bif Hm o then Ln o else[]
def K1(f:Ab):List TDef:=(List.range f.Params.length).flatMap λ(i:Nat)=>[⟨(i:Int)+1,-1,0,(f.Params.getD i 0,1)⟩]
def Tk(b:Ak)(i:Nat):List TDef:=(List.range b.Phis.length).flatMap λ(k:Nat)=>[⟨(b.Phis.getD k default).Dst,i,-1,((b.Phis.getD k default).Bits,1)⟩]
def Xx(b:Ak)(i:Nat):List TDef:=(List.range b.Ops.length).flatMap λ(k:Nat)=>bif decide (0<(Gq (b.Ops.getD k default)).1) then[⟨(b.Ops.getD k default).Dst,i,k,Gq (b.Ops.getD k default)⟩] else[]
def Jw(b:Ak)(i:Nat):List TDef:=Tk b i++Xx b i
def Au(f:Ab):List TDef:=K1 f++(List.range f.Blocks.length).flatMap λi=>Jw (f.Blocks.getD i default) i
theorem GK(f:Ab):(K1 f).length=f.Params.length:=by
 have h:∀ l:List Nat,(l.map λ_=>1).sum=l.length:=λl=>by induction l with|nil=>rfl|cons a l ih=>simp[ih];omega
 simp[K1,List.length_flatMap,h]
def Kw(p:F8):List Mk:=(List.range p.Args.length).flatMap λ(j:Nat)=>[⟨p.Args.getD j 0,p.From.getD j 0,1000,(p.Bits,1)⟩]
def Qt(b:Ak):List Mk:=(List.range b.Phis.length).flatMap λ(k:Nat)=>Kw (b.Phis.getD k default)
def Ls(o:Ce)(i k:Nat):List Mk:=(List.range (Ey o).length).flatMap λ(j:Nat)=>[⟨o.Args.getD j 0,i,k,(Ey o).getD j (0,0)⟩]
def Qs(b:Ak)(i:Nat):List Mk:=(List.range b.Ops.length).flatMap λ(k:Nat)=>Ls (b.Ops.getD k default) i k
def T7(f:Ab)(b:Ak)(i:Nat):List Mk:=(bif b.End.Kind==0 then[⟨b.End.Arg,i,1000,(f.Ret,1)⟩] else[])++(bif b.End.Kind==2 then[⟨b.End.Arg,i,1000,(1,1)⟩] else[])
def S3(f:Ab)(b:Ak)(i:Nat):List Mk:=Qt b++Qs b i++T7 f b i
def Dy(f:Ab):List Mk:=(List.range f.Blocks.length).flatMap λ(i:Nat)=>S3 f (f.Blocks.getD i default) i
theorem EI{o:Ce}(h:o.Args.length<=64):(Ey o).length<=64/\(Ey o).length<=o.Args.length:=by
 unfold Ey
 cases hm:Hm o with
 | false=>simp
 | true=>
  simp only[Ae]
  have:((o.Args.length:Int)==Me o.Kind o.Lanes)=true:=by
   simp only[Hm,A4]at hm;exact hm.1.2.2
  have h2:(o.Args.length:Int)=Me o.Kind o.Lanes:=by simpa using this
  have h3:(Ln o).length=o.Args.length:=by rw[Ln,Mg,Zx,<- h2,Dh]
  omega
theorem cD{f:Ab}(hf:OkF f){b:Ak}(hb:b∈f.Blocks){p:F8}(hp:p∈b.Phis):p.From.length<=64/\p.Args.length<=64:=by
 have:=(blockB_iff.1 (hf.block b hb).may).1 p hp;simp only[FR,A4]at this;exact⟨(listB_iff.1 this.1.2).2,(listB_iff.1 this.2).2⟩
theorem gq{f:Ab}(hf:OkF f){b:Ak}(hb:b∈f.Blocks){o:Ce}(ho:o∈b.Ops):o.Args.length<=64:=by
 have:=(blockB_iff.1 (hf.block b hb).may).2.1 o ho;simp only[LG,A4]at this;exact(listB_iff.1 this.2).2
theorem KR(p:F8):(Kw p).length<=p.Args.length:=by
 have:=Jx 1 (λ(j:Nat)=>[(⟨p.Args.getD j 0,p.From.getD j 0,1000,(p.Bits,1)⟩:Mk)]) (List.range p.Args.length) (λ_ _=>zzL8 _)
 simpa [Kw] using this
theorem OX(o:Ce)(i k:Nat):(Ls o i k).length<=(Ey o).length:=by
 have:=Jx 1 (λ(j:Nat)=>[(⟨o.Args.getD j 0,i,k,(Ey o).getD j (0,0)⟩:Mk)]) (List.range (Ey o).length) (λ_ _=>zzL8 _)
 simpa [Ls] using this
theorem OY{f:Ab}(hf:OkF f){b:Ak}(hb:b∈f.Blocks):(Qt b).length<=32768:=by
 have:=Jx 64 (λ(k:Nat)=>Kw (b.Phis.getD k default)) (List.range b.Phis.length) (λk hk=>by
  have h1:=KR (b.Phis.getD k default);have h2:=(cD hf hb (getD_mem (d:=(default:F8)) (by simpa using hk))).2
  omega)
 have h3:=(hf.block b hb).phis;rw[Zx]at this;have h4:b.Phis.length*64<=512*64:=Dm _ h3;rw[Qt];omega
theorem SR{f:Ab}(hf:OkF f){b:Ak}(hb:b∈f.Blocks)(i:Nat):(Qs b i).length<=32768:=by
 have:=Jx 64 (λ(k:Nat)=>Ls (b.Ops.getD k default) i k) (List.range b.Ops.length) (λk hk=>by
  have h1:=OX (b.Ops.getD k default) i k;have h2:=(EI (gq hf hb (getD_mem (d:=(default:Ce)) (by simpa using hk)))).1
  omega)
 have h3:=(hf.block b hb).ops;rw[Zx]at this;have h4:b.Ops.length*64<=512*64:=Dm _ h3;rw[Qs];omega
theorem OW(f:Ab)(b:Ak)(i:Nat):(T7 f b i).length<=2:=by
 unfold T7
 cases b.End.Kind==0<;>cases b.End.Kind==2<;>simp
theorem YA{f:Ab}(hf:OkF f){i:Nat}(hi:i<f.Blocks.length):(S3 f (f.Blocks.getD i default) i).length<=70000:=by
 have hmem:=getD_mem (d:=(default:Ak)) hi;have h1:=OY hf hmem;have h2:=SR hf hmem i;have h3:=OW f (f.Blocks.getD i default) i;rw[S3,E6,E6];omega
theorem HX{f:Ab}(hf:OkF f):(Dy f).length<=4480000:=by
 have h1:=Jx 70000 (λ(i:Nat)=>S3 f (f.Blocks.getD i default) i) (List.range f.Blocks.length) (λi hi=>YA hf (by simpa using hi));have h4:=hf.blocks;rw[Zx]at h1;have:f.Blocks.length*70000<=64*70000:=Dm _ h4;rw[Dy];omega
def fS(f:Ab):Prop:=∀ b∈f.Blocks,∀ p∈b.Phis,p.Args.length<=p.From.length
def bv(n:Nat)(l:List Int)(i:Nat):Bool:=decide ((if i=0 then(-1:Int) else l.getD (i-1) 0)<l.getD i 0)&&(decide (0<=l.getD i 0)&&decide (l.getD i 0<n))
def dj(n:Nat)(l:List Int):Bool:=(List.range l.length).all (bv n l)
def Li(L:List (List Int)):Bool:=decide (1<=L.length)&&decide (L.length<=64)&&(List.range L.length).all λi=>dj L.length (L.getD i [])
def Y9(L:List (List Int))(k i:Nat):Bool:=(L.getD k []).contains (i:Int)
def Jt(L:List (List Int))(m i:Nat):List Int:=((List.range m).filter λk=>Y9 L k i).map Int.ofNat
def Fb(L:List (List Int)):List (List Int):=(List.range L.length).map (Jt L L.length)
theorem O8(a n:Int):F6 a n=some (decide (0<=a)&&decide (a<n)):=by
 unfold F6
 cases decide ((0:Int)<=a)<;>rfl
theorem HA(n:Nat):Hp (n:Int)=some (decide (1<=n)&&decide (n<=64)):=by
 unfold Hp
 have h1:decide ((1:Int)<=(n:Int))=decide (1<=n):=by apply zzL105.2;omega
 have h2:decide ((n:Int)<=(64:Int))=decide (n<=64):=by apply zzL105.2;omega
 rw[h1,h2]
 cases decide (1<=n)<;>rfl
theorem EH(L:List (List Int))(i:Nat)(hl:(L.getD i []).length<4611686018427387904) :
  Ai (Cl L (i:Int)) ((-1:Int),(0:Int))=some (bif dj L.length (L.getD i []) then .inl () else .inr false):=by
 refine My (Cl L (i:Int)) (λj=>((if j=0 then(-1:Int) else(L.getD i []).getD (j-1) 0),((j:Nat):Int))) (bv L.length (L.getD i [])) (.inl ()) (.inr false) _ (λj hj hp=>?_) (λj hj hp=>?_) ?_
 ·unfold bv at hp;simp only[A4,D0]at hp;obtain⟨h1,h2,h3⟩:=hp
  show Cl L (i:Int) (_,_)=_
  unfold Cl;simp only[A6,Fv hj,Ae,O8];rw[Ad (I9 hj)]
  have e1:decide ((L.getD i []).getD j 0<=(if j=0 then(-1:Int) else(L.getD i []).getD (j-1) 0))=false:=by simpa using h1
  simp only[e1,Fy h2,Fy h3,S7,Pm,Ae,A2,Aw,Fd];rw[w1 (show j<4611686018427387904 by omega)]
  simp
 ·show Cl L (i:Int) (_,_)=_
  unfold Cl;simp only[A6,Fv hj,Ae,O8];rw[Ad (I9 hj)]
  cases h1:decide ((L.getD i []).getD j 0<=(if j=0 then(-1:Int) else(L.getD i []).getD (j-1) 0)) with
  | true=>simp only[Ae,show((true==false)=false) from rfl,A2,Aw]
  | false=>
   have h1':decide ((if j=0 then(-1:Int) else(L.getD i []).getD (j-1) 0)<(L.getD i []).getD j 0)=true:=by simpa using h1
   unfold bv at hp;rw[h1',G8]at hp;simp only[Pm,Ae,A2,Aw,hp,L2]
 ·show Cl L (i:Int) (_,_)=_
  unfold Cl;simp only[A6,Kd,A2]
def Fits(L:List (List Int)):Prop:=L.length<4611686018427387904/\∀ l∈L,l.length<4611686018427387904
theorem Fits.at{L:List (List Int)}(h:Fits L)(i:Nat):(L.getD i []).length<4611686018427387904:=by
 by_cases hi:i<L.length
 ·exact h.2 _ (getD_mem hi)
 ·rw[Pl,List.getElem?_eq_none (by omega)];simp
theorem XA(L:List (List Int))(h:Fits L):Jm L=some (Li L):=by
 unfold Jm;rw[HA,Aw];unfold Li
 cases hc:(decide (1<=L.length)&&decide (L.length<=64)) with
 | false=>rfl
 | true=>
  simp only[Fd,A2,G8];have:=My (Cm L) (λj=>((j:Nat):Int)) (λi=>dj L.length (L.getD i [])) (.inl ()) (.inr false) L.length (λj hj hp=>?_) (λj hj hp=>?_) ?_
  ·rw[show Ai (Cm L) (0:Int)=_ from this]
   cases(List.range L.length).all λi=>dj L.length (L.getD i [])<;>rfl
  ·show Cm L (j:Int)=_
   unfold Cm;simp only[Fv hj,Ae];rw[Ad (I9 hj),EH L j (h.at j),hp];simp only[Ae,Aw,w1 (show j<4611686018427387904 by have:=h.1;omega)]
  ·show Cm L (j:Int)=_
   unfold Cm;simp only[Fv hj,Ae];rw[Ad (I9 hj),EH L j (h.at j),hp]
   rfl
  ·show Cm L _=_
   unfold Cm;simp only[Kd,A2]
theorem P6{α:Type}{n i:Nat}{g:Nat->α}{d:α}(h:i<n):((List.range n).map g).getD i d=g i:=by simp[List.getD,h]
theorem KO{α:Type}{n i:Nat}{g:Nat->α}{x:α}:((List.range n).map g).set i x=(List.range n).map λj=>if j=i then x else g j:=by
 apply List.ext_getElem?
 intro j;rw[List.getElem?_set]
 by_cases hj:j<n
 ·by_cases hij:i=j
  ·subst hij;simp[hj]
  ·simp[hij,hj,Ha hij]
 ·simp[hj];intro h;omega
theorem O9{α:Type}{n:Nat}{g h:Nat->α}(H:∀ i,i<n->g i=h i):(List.range n).map g=(List.range n).map h:=EP λi hi=>H i (zzL34.1 hi)
theorem mayS_iff{L:List (List Int)}:Li L=true↔1<=L.length/\L.length<=64/\∀ i,i<L.length->dj L.length (L.getD i [])=true:=by
 unfold Li;rw[A4,A4,all_range];simp only[D0];exact⟨λ⟨⟨a,b⟩,c⟩=>⟨a,b,c⟩,λ⟨a,b,c⟩=>⟨⟨a,b⟩,c⟩⟩
theorem okL_iff{n:Nat}{l:List Int}:dj n l=true↔∀ i,i<l.length->(0<=l.getD i 0/\l.getD i 0<n)/\(0<i->l.getD (i-1) 0<l.getD i 0):=by
 unfold dj;rw[all_range];unfold bv;simp only[A4,D0]
 constructor
 ·intro h i hi;obtain⟨h1,h2,h3⟩:=h i hi;refine⟨⟨h2,h3⟩,λhp=>?_⟩;rwa[if_neg (by omega)]at h1
 ·intro h i hi;obtain⟨⟨h2,h3⟩,h1⟩:=h i hi;refine⟨?_,h2,h3⟩
  by_cases hz:i=0
  ·rw[if_pos hz];omega
  ·rw[if_neg hz];exact h1 (by omega)
section
variable {n:Nat} {l:List Int} (h:dj n l=true)
include h
theorem Yb{i:Nat}(hi:i<l.length):0<=l.getD i 0/\l.getD i 0<n:=(okL_iff.1 h i hi).1
theorem bw{i j:Nat}(hij:i<j)(hj:j<l.length):l.getD i 0<l.getD j 0:=by
 induction j with
 | zero=>omega
 | succ j ih=>
  have h1:=(okL_iff.1 h (j+1) hj).2 (by omega);rw[show j+1-1=j by omega]at h1
  by_cases he:i=j
  ·rw[he];exact h1
  ·exact Int.lt_trans (ih (by omega) (by omega)) h1
theorem ir{i:Nat}(hi:i<l.length):(i:Int)<=l.getD i 0:=by
 induction i with
 | zero=>exact(Yb h hi).1
 | succ i ih=>
  have:=bw h (show i<i+1 by omega) hi;have:=ih (by omega);omega
theorem BF:l.length<=n:=by
 by_cases hz:l.length=0
 ·omega
 ·have h1:=ir h (show l.length-1<l.length by omega);have h2:=(Yb h (show l.length-1<l.length by omega)).2;omega
theorem UL{x:Int}(hx:x∈l):0<=x/\x<n:=by
 obtain⟨i,hi,rfl⟩:=K4 hx;have:=Yb h hi;rwa[Aa _ _ _ hi]at this
end
theorem iu{n:Nat}{l:List Int}(h1:∀ x∈l,0<=x/\x<n)(h2:l.Pairwise (·<·)):dj n l=true:=by
 rw[okL_iff];intro i hi;rw[Aa _ _ _ hi];refine⟨h1 _ (Xi hi),λhp=>?_⟩;rw[Aa _ _ _ (show i-1<l.length by omega)];exact(zzL96.1 h2) _ _ _ _ (by omega)
theorem X6{L:List (List Int)}(h:Li L=true):L.length<=64/\∀ l∈L,l.length<=64:=by
 obtain⟨h1,h2,h3⟩:=mayS_iff.1 h;refine⟨h2,λl hl=>?_⟩;obtain⟨i,hi,rfl⟩:=K4 hl;have:=BF (h3 i hi);rw[Aa _ _ _ hi]at this;omega
theorem eZ{L:List (List Int)}(h:L.length<=1000/\∀ l∈L,l.length<=1000):Fits L:=⟨by omega,λl hl=>by have:=h.2 l hl;omega⟩
theorem OB(L:List (List Int))(k i:Nat):Jt L (k+1) i=Jt L k i++(if Y9 L k i=true then[(k:Int)] else[]):=by
 unfold Jt;rw[Vu,KU,Vt]
 congr 1
 cases hg:Y9 L k i<;>simp[hg]
theorem Vj(L:List (List Int))(k i:Nat):(Jt L k i).length<=k:=by
 unfold Jt;rw[Mg];have:=List.length_filter_le (λk=>Y9 L k i) (List.range k)
 simpa using this
theorem GQ{l:List Int}{j:Nat}(hj:j<l.length):l.take (j+1)=l.take j++[l.getD j 0]:=by
 rw[Aa _ _ _ hj,TA hj]
def On(L:List (List Int))(k j i:Nat):Bool:=((L.getD k []).take j).contains (i:Int)
def Il(L:List (List Int))(k j:Nat):List (List Int):=(List.range L.length).map λi=>Jt L k i++(if On L k j i=true then[(k:Int)] else[])
theorem ME(L:List (List Int))(h:Li L=true)(k j:Nat)(hk:k<L.length)(hj:j<(L.getD k []).length) :
  (Il L k j).set ((L.getD k []).getD j 0).toNat ((Il L k j).getD ((L.getD k []).getD j 0).toNat []++[(k:Int)])=Il L k (j+1):=by
 obtain⟨h1,h2,h3⟩:=mayS_iff.1 h;have hok:=h3 k hk;obtain⟨a0,a1⟩:=Yb hok hj;unfold Il;rw[P6 (by omega),KO]
 apply O9
 intro i hi
 have hnot:On L k j ((L.getD k []).getD j 0).toNat=false:=by
  unfold On;rw[Uz a0]
  cases hc:((L.getD k []).take j).contains ((L.getD k []).getD j 0) with
  | false=>rfl
  | true=>
   rw[ET]at hc;obtain⟨m,hm,he⟩:=K4 hc
   have hm':m<j:=by simp at hm;omega
   rw[List.getElem_take]at he;have:=bw hok hm' hj;rw[Aa _ _ _ (show m<(L.getD k []).length by omega),he]at this;omega
 by_cases hi2:i=((L.getD k []).getD j 0).toNat
 ·rw[if_pos hi2,hnot]
  have:On L k (j+1) i=true:=by
   unfold On;rw[GQ hj,ET,hi2,Uz a0]
   simp
  rw[this,hi2]
  simp
 ·rw[if_neg hi2]
  have:On L k (j+1) i=On L k j i:=by
   unfold On;rw[GQ hj,Mh,ET,ET,zzL11]
   constructor
   ·rintro(hm|hm)
    ·exact hm
    ·simp only[zzL14]at hm;exact(hi2 (by omega)).elim
   ·exact .inl
  rw[this]
theorem NB(L:List (List Int))(h:Li L=true):Ic L=some (Fb L):=by
 obtain⟨h1,h2,h3⟩:=mayS_iff.1 h
 have hroom:(1000:Nat)<=room:=by decide
 unfold Ic;rw[Ad ⟨by omega,Int.le_refl _,by omega⟩,A6]
 have inner:∀ k,k<L.length->Ai (D6 L (k:Int)) ((0:Int),Il L k 0)=some (Il L k (L.getD k []).length):=λk hk=>by
  have hok:=h3 k hk;refine Wk (D6 L (k:Int)) (λj=>(((j:Nat):Int),Il L k j)) (Il L k (L.getD k []).length) (L.getD k []).length (λj hj=>?_) ?_
  ·obtain⟨a0,a1⟩:=Yb hok hj
   have hlen:(Il L k j).length=L.length:=by simp[Il]
   have hl64:=BF hok
   show D6 L (k:Int) (_,_)=_
   unfold D6;simp only[A6,Fv hj,Ae];have hb:Cd ((L.getD k []).getD j 0) (Il L k j).length:=⟨a0,by rw[hlen];exact a1⟩
   have hrow:((Il L k j).getD ((L.getD k []).getD j 0).toNat []).length<=k+1:=by
    unfold Il;rw[P6 (by omega),E6];have:=Vj L k ((L.getD k []).getD j 0).toNat
    split
    ·rw[S9];omega
    ·rw[List.length_nil];omega
   rw[Ad (I9 hj),Ad hb,Ad hb,Ad (by simp only[S9];omega),Ad hb,ME L h k j hk hj,w1 (by omega)]
  ·show D6 L (k:Int) (_,_)=_
   unfold D6;simp only[A6,Kd,A2]
 have r0:∀ k,Il L k 0=(List.range L.length).map (Jt L k):=λk=>by
  unfold Il
  apply O9
  intro i _;simp[On]
 have r1:∀ k,Il L k (L.getD k []).length=(List.range L.length).map (Jt L (k+1)):=λk=>by
  unfold Il
  apply O9
  intro i _;rw[OB];unfold On Y9;rw[Vs]
 have:Ai (D7 L) ((0:Int),(List.range L.length).map (Jt L 0))=some (Fb L):=Wk (D7 L) (λk=>(((k:Nat):Int),(List.range L.length).map (Jt L k))) (Fb L) L.length (λk hk=>?_) ?_
 ·have e0:(List.replicate L.length ([]:List Int))=(List.range L.length).map (Jt L 0):=by
   apply List.ext_getElem?
   intro i
   by_cases hi:i<L.length<;>simp[hi,List.getElem?_replicate,Jt]
  rw[e0,this];rfl
 ·show D7 L (_,_)=_
  unfold D7;simp only[Fv hk,Ae];rw[Ad (I9 hk),<- r0,inner k hk,r1,w1 (by omega)]
  rfl
 ·show D7 L (_,_)=_
  unfold D7;simp only[Kd,A2]
  rfl
theorem Zd{α:Type}[DecidableEq α]{a b:List α}{d:α}(h:a.length=b.length):((List.range a.length).all λi=>decide (a.getD i d=b.getD i d))=decide (a=b):=by
 rw[Mh,all_range,D0]
 constructor
 ·intro hall
  apply Yv h
  intro i h1 h2;have:=Xg (hall i h1);rwa[Aa _ _ _ h1,Aa _ _ _ h2]at this
 ·rintro rfl i _
  simp
theorem UH{a b:Nat}:(((a:Nat):Int)!=(b:Int))=decide (a≠b):=by
 rw[Mh,zzL91,D0];omega
theorem bX{a b:Int}:(a !=b) = !decide (a=b):=by
 rw[Mh]
 simp
theorem JX(a b:List Int)(hb:b.length<4611686018427387904):D8 a b=some (decide (a=b)):=by
 unfold D8;rw[UH]
 by_cases hl:a.length=b.length
 ·rw[Gy (by simpa using hl),A2];have:Ai (Bg a b) (0:Int)=_:=My (Bg a b) (λj=>((j:Nat):Int)) (λi=>decide (a.getD i 0=b.getD i 0)) (.inl ()) (.inr false) a.length (λj hj hp=>?_) (λj hj hp=>?_) ?_
  ·rw[this,Zd hl]
   cases decide (a=b)<;>rfl
  ·show Bg a b (j:Int)=_
   unfold Bg;simp only[A6,Fv hj,Ae];rw[Ad (I9 hj),Ad (I9 (by omega)),bX,hp,w1 (by omega)]
   rfl
  ·show Bg a b (j:Int)=_
   unfold Bg;simp only[A6,Fv hj,Ae];rw[Ad (I9 hj),Ad (I9 (by omega)),bX,hp]
   rfl
  ·show Bg a b _=_
   unfold Bg;simp only[Kd,A2]
 ·rw[Fy (by simpa using hl),Ae,Gy (λh=>hl (by rw[h]))]
theorem NC(a b:List (List Int))(hb:Fits b):Co a b=some (decide (a=b)):=by
 unfold Co;rw[UH]
 by_cases hl:a.length=b.length
 ·rw[Gy (by simpa using hl),A2];have hb1:=hb.1;have:Ai (As a b) (0:Int)=_:=My (As a b) (λj=>((j:Nat):Int)) (λi=>decide (a.getD i []=b.getD i [])) (.inl ()) (.inr false) a.length (λj hj hp=>?_) (λj hj hp=>?_) ?_
  ·rw[this,Zd hl]
   cases decide (a=b)<;>rfl
  ·show As a b (j:Int)=_
   unfold As;simp only[A6,Fv hj,Ae];rw[Ad (I9 hj),Ad (I9 (by omega)),JX _ _ (hb.at j),hp,w1 (by omega)]
   rfl
  ·show As a b (j:Int)=_
   unfold As;simp only[A6,Fv hj,Ae];rw[Ad (I9 hj),Ad (I9 (by omega)),JX _ _ (hb.at j),hp]
   rfl
  ·show As a b _=_
   unfold As;simp only[Kd,A2]
 ·rw[Fy (by simpa using hl),Ae,Gy (λh=>hl (by rw[h]))]
theorem Nf(L:List (List Int)):(Fb L).length=L.length:=by simp[Fb]
theorem HM{L:List (List Int)}{i:Nat}(hi:i<L.length):(Fb L).getD i []=Jt L L.length i:=by unfold Fb;rw[P6 hi]
theorem Qo{L:List (List Int)}(h:Li L=true):(Fb L).length<=64/\∀ l∈Fb L,l.length<=64:=by
 obtain⟨h1,_⟩:=X6 h;refine⟨by rw[Nf];exact h1,λl hl=>?_⟩;obtain⟨i,hi,rfl⟩:=zzL22.1 hl;have:=Vj L L.length i;omega
theorem Vo{L:List (List Int)}(h:L.length<=64/\∀ l∈L,l.length<=64):Fits L:=eZ ⟨by omega,λl hl=>by have:=h.2 l hl;omega⟩
def X5(g:Cz):Bool:=Li g.Succ&&decide (g.Pred=Fb g.Succ)
theorem gk(g:Cz)(h:Fits g.Succ):N8 g=some (X5 g):=by
 unfold N8 X5;rw[XA _ h,Aw]
 cases hm:Li g.Succ with
 | false=>rfl
 | true=>
  simp only[Pm,Ae,NB _ hm,Aw,NC _ _ (Vo (Qo hm)),G8]
def Xr(L:List (List Int)):Cz:=⟨L,Fb L⟩
def g0:Cz:=⟨[],[]⟩
theorem NE{L:List (List Int)}(h:Li L=true):X5 (Xr L)=true:=by simp[X5,Xr,h]
theorem bR{L:List (List Int)}(h:Li L=true):Fits (Xr L).Succ/\Fits (Xr L).Pred:=⟨Vo (X6 h),Vo (Qo h)⟩
noncomputable section
def upd(s:Nat->Bool)(y:Nat):Nat->Bool:=λz=>decide (z=y) || s z
theorem upd_true{s:Nat->Bool}{y z:Nat}:upd s y z=true↔z=y\/s z=true:=by simp[upd]
theorem upd_false{s:Nat->Bool}{y z:Nat}:upd s y z=false↔z≠y/\s z=false:=by simp[upd]
inductive VL (S:Nat->List Nat):(Nat->Bool)->List Nat->(Nat->Bool)->List Nat->Prop
 | nil (s:Nat->Bool):VL S s [] s []
 | skip {s s':Nat->Bool} {y:Nat} {l o:List Nat} (h:s y=true) (t:VL S s l s' o):VL S s (y::l) s' o
 | step {s s1 s2:Nat->Bool} {y:Nat} {l o1 o2:List Nat} (h:s y=false) (a:VL S (upd s y) (S y) s1 o1) (b:VL S s1 l s2 o2):VL S s (y::l) s2 (o1++y::o2)
inductive Rch (S:Nat->List Nat):Nat->Nat->Prop
 | refl (x:Nat):Rch S x x
 | head {x y z:Nat} (h:y∈S x) (t:Rch S y z):Rch S x z
theorem Rch.tail{S:Nat->List Nat}{x y z:Nat}(h:Rch S x y)(hz:z∈S y):Rch S x z:=by
 induction h with
 | refl x=>exact .head hz (.refl _)
 | head h _ ih=>exact .head h (ih hz)
theorem Rch.trans{S:Nat->List Nat}{x y z:Nat}(h:Rch S x y)(k:Rch S y z):Rch S x z:=by
 induction h with
 | refl x=>exact k
 | head h _ ih=>exact .head h (ih k)
variable {S:Nat->List Nat} {s s':Nat->Bool} {l o:List Nat}
theorem VL.seen(h:VL S s l s' o)(z:Nat):s' z=true↔s z=true\/z∈o:=by
 induction h with
 | nil s=>simp
 | skip h _ ih=>exact ih
 | @step s s1 s2 y l o1 o2 h a b iha ihb=>
  rw[ihb,iha,upd_true];simp only[zzL11,zzL23]
  constructor
  ·rintro((( rfl|h1)|h1)|h1)
   ·exact .inr (.inr (.inl rfl))
   ·exact .inl h1
   ·exact .inr (.inl h1)
   ·exact .inr (.inr (.inr h1))
  ·rintro(h1|h1|rfl|h1)
   ·exact .inl (.inl (.inr h1))
   ·exact .inl (.inr h1)
   ·exact .inl (.inl (.inl rfl))
   ·exact .inr h1
theorem VL.fresh(h:VL S s l s' o){z:Nat}(hz:z∈o):s z=false:=by
 induction h with
 | nil s=>cases hz
 | skip h _ ih=>exact ih hz
 | @step s s1 s2 y l o1 o2 h a b iha ihb=>
  rcases zzL11.1 hz with h1|h1
  ·exact(upd_false.1 (iha h1)).2
  ·rcases zzL23.1 h1 with rfl|h1
   ·exact h
   ·have:=ihb h1
    cases hs:s z with
    | false=>rfl
    | true=>rw[(a.seen z).2 (.inl (upd_true.2 (.inr hs)))]at this;cases this
theorem VL.nodup(h:VL S s l s' o):o.Nodup:=by
 induction h with
 | nil s=>exact List.nodup_nil
 | skip h _ ih=>exact ih
 | @step s s1 s2 y l o1 o2 h a b iha ihb=>
  rw[List.nodup_append];refine⟨iha,zzL74.2 ⟨λhy=>?_,ihb⟩,λu hu v hv=>?_⟩
  ·have:=b.fresh hy;rw[(a.seen y).2 (.inl (upd_true.2 (.inl rfl)))]at this
   cases this
  ·rintro rfl;rcases zzL23.1 hv with rfl|hv
   ·have:=a.fresh hu;rw[upd_true.2 (.inl rfl)]at this
    cases this
   ·have:=b.fresh hv;rw[(a.seen u).2 (.inr hu)]at this
    cases this
theorem VL.rch(h:VL S s l s' o){z:Nat}(hz:z∈o):∃ y∈l,Rch S y z:=by
 induction h with
 | nil s=>cases hz
 | skip h _ ih=>obtain⟨y,hy,hr⟩:=ih hz;exact⟨y,Em _ hy,hr⟩
 | @step s s1 s2 y l o1 o2 h a b iha ihb=>
  rcases zzL11.1 hz with h1|h1
  ·obtain⟨u,hu,hr⟩:=iha h1;exact⟨y,Io ..,.head hu hr⟩
  ·rcases zzL23.1 h1 with rfl|h1
   ·exact⟨z,Io ..,.refl z⟩
   ·obtain⟨u,hu,hr⟩:=ihb h1;exact⟨u,Em _ hu,hr⟩
theorem VL.closed(h:VL S s l s' o):(∀ y∈l,s' y=true)/\∀ z∈o,∀ y∈S z,s' y=true:=by
 induction h with
 | nil s=>exact⟨(λ_ h=>by cases h),(λ_ h=>by cases h)⟩
 | @skip s s' y l o h t ih=>
  refine⟨λu hu=>?_,ih.2⟩;rcases zzL23.1 hu with rfl|hu
  ·exact(t.seen u).2 (.inl h)
  ·exact ih.1 u hu
 | @step s s1 s2 y l o1 o2 h a b iha ihb=>
  refine⟨λu hu=>?_,λz hz u hu=>?_⟩
  ·rcases zzL23.1 hu with rfl|hu
   ·exact(b.seen u).2 (.inl ((a.seen u).2 (.inl (upd_true.2 (.inl rfl)))))
   ·exact ihb.1 u hu
  ·rcases zzL11.1 hz with h1|h1
   ·exact(b.seen u).2 (.inl (iha.2 z h1 u hu))
   ·rcases zzL23.1 h1 with rfl|h1
    ·exact(b.seen u).2 (.inl (iha.1 u hu))
    ·exact ihb.2 z h1 u hu
theorem VL.above(h:VL S s l s' o)(hf:∀ z,∀ y∈S z,z<y){b:Nat}(hb:∀ y∈l,b<y):∀ z∈o,b<z:=by
 induction h generalizing b with
 | nil s=>intro z hz;cases hz
 | skip h _ ih=>exact ih (λy hy=>hb y (Em _ hy))
 | @step s s1 s2 y l o1 o2 h a c iha ihb=>
  intro z hz;have hy:=hb y (Io ..);rcases zzL11.1 hz with h1|h1
  ·exact iha (λu hu=>Nat.lt_trans hy (hf y u hu)) z h1
  ·rcases zzL23.1 h1 with rfl|h1
   ·exact hy
   ·exact ihb (λu hu=>hb u (Em _ hu)) z h1
theorem VL.ahead(h:VL S s l s' o)(hf:∀ z,∀ y∈S z,z<y):∀ z∈o,∀ y∈S z,s y=true\/∃ A B,o=A++z::B/\y∈A:=by
 induction h with
 | nil s=>intro z hz;cases hz
 | skip h _ ih=>exact ih
 | @step s s1 s2 y l o1 o2 h a c iha ihb=>
  intro z hz u hu;rcases zzL11.1 hz with h1|h1
  ·have hzy:y<z:=a.above hf (λv hv=>hf y v hv) z h1;have hzu:=hf z u hu;rcases iha z h1 u hu with h2|⟨A,B,rfl,hA⟩
   ·rcases upd_true.1 h2 with rfl|h2
    ·omega
    ·exact .inl h2
   ·exact .inr ⟨A,B++y::o2,by simp,hA⟩
  ·rcases zzL23.1 h1 with rfl|h1z
   ·have hzu:=hf z u hu;rcases(a.seen u).1 (a.closed.1 u hu) with h2|h2
    ·rcases upd_true.1 h2 with rfl|h2
     ·omega
     ·exact .inl h2
    ·exact .inr ⟨o1,o2,rfl,h2⟩
   ·rcases ihb z h1z u hu with h2|⟨A,B,rfl,hA⟩
    ·rcases(a.seen u).1 h2 with h3|h3
     ·rcases upd_true.1 h3 with rfl|h3
      ·obtain⟨P,Q,rfl⟩:=List.append_of_mem h1z;exact .inr ⟨o1++u::P,Q,by simp,by simp⟩
      ·exact .inl h3
     ·obtain⟨P,Q,rfl⟩:=List.append_of_mem h1z;exact .inr ⟨o1++y::P,Q,by simp,by simp[h3]⟩
    ·exact .inr ⟨o1++y::A,B,by simp,by simp[hA]⟩
def LF(n:Nat)(s:Nat->Bool):Nat:=((List.range n).filter λz=>!s z).length
theorem Tj{n:Nat}{s:Nat->Bool}{y:Nat}(hy:y<n)(h:s y=false):LF n (upd s y)+1=LF n s:=by
 unfold LF
 induction n with
 | zero=>omega
 | succ n ih=>
  rw[Vu,KU,KU,E6,E6]
  by_cases hyn:y=n
  ·subst hyn
   have e:(List.range y).filter (λz=>!upd s y z)=(List.range y).filter (λz=>!s z):=by
    apply List.filter_congr
    intro z hz;have:=zzL34.1 hz;simp[upd,show z≠y by omega]
   rw[e];simp[upd,h]
  ·have:=ih (by omega)
   have e:([n].filter λz=>!upd s y z).length=([n].filter λz=>!s z).length:=by
    simp only[List.filter_cons,List.filter_nil,upd];simp[Ha hyn]
   omega
theorem MD{n:Nat}{s s':Nat->Bool}(h:∀ z,s z=true->s' z=true):LF n s'<=LF n s:=by
 unfold LF
 apply List.Sublist.length_le
 have:(List.range n).filter (λz=>!s' z)=((List.range n).filter λz=>!s z).filter λz=>!s' z:=by
  rw[List.filter_filter]
  apply List.filter_congr
  intro z _
  cases hs:s z with
  | false=>simp
  | true=>simp[h z hs]
 rw[this];exact List.filter_sublist
theorem VL.exist{n:Nat}(hS:∀ z,z<n->∀ y∈S z,y<n):∀(m:Nat) (s:Nat->Bool),LF n s<=m->∀ l:List Nat,(∀ y∈l,y<n)->∃ s' o,VL S s l s' o:=by
 intro m
 induction m with
 | zero=>
  intro s hm l
  induction l with
  | nil=>intro _;exact⟨s,[],.nil s⟩
  | cons y l ih=>
   intro hl;obtain⟨s',o,h⟩:=ih (λz hz=>hl z (Em _ hz))
   cases hy:s y with
   | true=>exact⟨s',o,.skip hy h⟩
   | false=>have:=Tj (hl y (Io ..)) hy;omega
 | succ m ih=>
  intro s hm l
  induction l generalizing s with
  | nil=>intro _;exact⟨s,[],.nil s⟩
  | cons y l ihl=>
   intro hl
   cases hy:s y with
   | true=>
    obtain⟨s',o,h⟩:=ihl s hm (λz hz=>hl z (Em _ hz));exact⟨s',o,.skip hy h⟩
   | false=>
    have hyn:=hl y (Io ..);have:=Tj hyn hy;obtain⟨s1,o1,h1⟩:=ih (upd s y) (by omega) (S y) (hS y hyn);have h2:LF n s1<=LF n s:=MD λz hz=>(h1.seen z).2 (.inl (upd_true.2 (.inr hz)));obtain⟨s2,o2,h3⟩:=ihl s1 (by omega) (λz hz=>hl z (Em _ hz));exact⟨s2,_,.step hy h1 h3⟩
def one(r:Nat):Nat->Bool:=λz=>decide (z=r)
def Ord(S:Nat->List Nat)(r:Nat)(L:List Nat):Prop:=∃ s' o,VL S (one r) (S r) s' o/\L=r::o.reverse
theorem Ord.exist{n:Nat}(hS:∀ z,z<n->∀ y∈S z,y<n){r:Nat}(hr:r<n):∃ L,Ord S r L:=by
 obtain⟨s',o,h⟩:=VL.exist hS _ (one r) (zzL8 _) (S r) (hS r hr);exact⟨_,s',o,h,rfl⟩
theorem Ord.mem{r:Nat}{L:List Nat}(h:Ord S r L)(z:Nat):z∈L↔Rch S r z:=by
 obtain⟨s',o,h,rfl⟩:=h
 have hs:∀ z,s' z=true↔z=r\/z∈o:=λz=>by rw[h.seen];simp[one]
 have hc:∀ x,s' x=true->∀ y∈S x,s' y=true:=λx hx y hy=>by
  rcases(hs x).1 hx with rfl|hx
  ·exact h.closed.1 y hy
  ·exact h.closed.2 x hx y hy
 simp only[zzL23,zzL94];rw[<- hs z]
 constructor
 ·intro hz;rcases(hs z).1 hz with rfl|hz
  ·exact .refl _
  ·obtain⟨y,hy,hr⟩:=h.rch hz;exact .head hy hr
 ·intro hr
  have key:∀ x z,Rch S x z->s' x=true->s' z=true:=by
   intro x z hxz
   induction hxz with
   | refl x=>exact id
   | head hy _ ih=>exact λhx=>ih (hc _ hx _ hy)
  exact key r z hr ((hs r).2 (.inl rfl))
theorem Ord.nodup{r:Nat}{L:List Nat}(h:Ord S r L):L.Nodup:=by
 obtain⟨s',o,h,rfl⟩:=h;refine zzL74.2 ⟨λhr=>?_,(List.reverse_perm o).nodup_iff.2 h.nodup⟩;have:=h.fresh (zzL94.1 hr);simp[one]at this
theorem Ord.fwd{r:Nat}{L:List Nat}(h:Ord S r L)(hf:∀ z,∀ y∈S z,z<y):∀ z∈L,∀ y∈S z,∃ A B,L=A++z::B/\y∈B:=by
 obtain⟨s',o,h,rfl⟩:=h;intro z hz y hy;have hzy:=hf z y hy;rcases zzL23.1 hz with rfl|hz
 ·refine⟨[],o.reverse,rfl,?_⟩;rcases(h.seen y).1 (h.closed.1 y hy) with h1|h1
  ·simp[one]at h1;omega
  ·exact zzL94.2 h1
 ·have hz:=zzL94.1 hz;have hrz:r<z:=h.above hf (λv hv=>hf r v hv) z hz;rcases h.ahead hf z hz y hy with h1|⟨A,B,rfl,hA⟩
  ·simp[one]at h1;omega
  ·exact⟨r::B.reverse,A.reverse,by simp,zzL94.2 hA⟩
end
theorem WZ(l:List Int)(hl:l.length<4611686018427387904):Ds l=some l.reverse:=by
 unfold Ds
 by_cases h0:l.length=0
 ·obtain rfl:l=[]:=zzL103.1 h0
  have:Ai A9 ((0:Int),(Bd ((([]:List Int).length:Int)-1)),([]:List Int))=some []:=by
   apply Ag
   unfold A9;rw[Gv (by simp) (by simp)]
   rfl
  rw[this];rfl
 ·have hw:Bd ((l.length:Int)-1)=((l.length-1:Nat):Int):=by rw[Gv (by omega) (by omega)];omega
  rw[hw]
  let C:Nat->List Int:=λk=>(List.range l.length).map λi=>if i<k\/l.length-1-k<i then l.getD (l.length-1-i) 0 else l.getD i 0
  have hC:∀ k i,i<l.length->(C k).getD i 0=if i<k\/l.length-1-k<i then l.getD (l.length-1-i) 0 else l.getD i 0:=λk i hi=>by simp only[C];rw[P6 hi]
  have hlen:∀ k,(C k).length=l.length:=λk=>by simp[C]
  have:=Wk A9 (λk=>(((k:Nat):Int),((l.length-1-k:Nat):Int),C k)) l.reverse (l.length / 2) (λk hk=>?_) ?_
  ·have e0:C 0=l:=by
    apply Yv (by simp[C])
    intro i h1 h2;have:=hC 0 i h2;rw[Aa _ _ _ h1,Aa _ _ _ h2]at this;rw[this,if_neg (by omega)]
   have this':Ai A9 ((0:Int),((l.length-1:Nat):Int),l)=some l.reverse:=by
    have h2:=this;simp only[e0]at h2;exact h2
   rw[this'];rfl
  ·show A9 (_,_,_)=_
   unfold A9
   have hlt:k<l.length-1-k:=by omega
   simp only[Fv hlt,Ae,A6];rw[Ad (I9 (by rw[hlen];omega)),Ad (I9 (by rw[hlen];omega)),Ad (I9 (by rw[hlen];omega)),Ad (I9 (by rw[hlen];omega))];rw[w1 (by omega),show Bd (((l.length-1-k:Nat):Int)-1)=((l.length-1-(k+1):Nat):Int) by rw[Gv (by omega) (by omega)];omega]
   congr 4
   rw[hC k _ (by omega),hC k _ (by omega),if_neg (by omega),if_neg (by omega)];simp only[C];rw[KO,KO]
   apply O9
   intro i hi
   by_cases h1:i=k
   ·subst h1;rw[if_neg (by omega),if_pos rfl,if_pos (by omega)]
   ·by_cases h2:i=l.length-1-k
    ·subst h2;rw[if_pos rfl,if_pos (by omega)]
     congr 1;omega
    ·rw[if_neg h2,if_neg h1]
     by_cases h3:i<k\/l.length-1-k<i
     ·rw[if_pos h3,if_pos (by omega)]
     ·rw[if_neg h3,if_neg (by omega)]
  ·show A9 (_,_,_)=_
   unfold A9;have hd:decide (((l.length / 2:Nat):Int)<((l.length-1-l.length / 2:Nat):Int))=false:=Gy (by omega);simp only[hd,A2]
   congr 2
   apply Yv (by simp[C])
   intro i h1 h2
   have h3:i<l.length:=by simpa [C] using h1
   have:=hC (l.length / 2) i h3;rw[Aa _ _ _ h1]at this;rw[this,List.getElem_reverse]
   split
   ·rw[Aa _ _ _ (by omega)]
   ·rw[Aa _ _ _ h3]
    congr 1;omega
theorem top{st:List Int}{a:Int}(h:st.length<4611686018427387904):(st++[a]).getD (Bd (((st++[a]).length:Int)-1)).toNat 0=a:=by
 have:Bd (((st++[a]).length:Int)-1)=((st.length:Nat):Int):=by rw[E6,S9,Gv (by omega) (by omega)];omega
 rw[this,A6];simp[List.getD]
theorem kV{st:List Int}{a:Int}(h:st.length<4611686018427387904):Bd (((st++[a]).length:Int)-1)=((st.length:Nat):Int):=by
 rw[E6,S9,Gv (by omega) (by omega)];omega
theorem dn{g:Cz}{R:List Bool}{st T:List Int}{a:Nat}(hst:st.length<64)(ha:a<g.Succ.length)(h64:g.Succ.length<=64)(ht:T.getD a 0=((g.Succ.getD a []).length:Int)) :
  Ft g R (st++[(a:Int)]) T=some (.done (.inl T)):=by
 unfold Ft;simp only[top (st:=st) (a:=(a:Int)) (by omega),A6];rw[Ad (I9 (by omega)),Ad (I9 ha),ht,Kd,A2]
theorem TL{g:Cz}{R:List Bool}{st T:List Int}{a t y:Nat}(hst:st.length<64)(ha:a<g.Succ.length)(h64:g.Succ.length<=64)(ht:T.getD a 0=(t:Int))(htl:t<(g.Succ.getD a []).length)(htm:t<64)
  (hy:(g.Succ.getD a []).getD t 0=(y:Int)) (hyn:y<g.Succ.length) :
  Ft g R (st++[(a:Int)]) T=bif R.getD y false then some (.next (Ju 64 (0:Int) T a ((t+1:Nat):Int))) else some (.done (.inr (Ju 64 false R y true,Ju 64 (0:Int) T a ((t+1:Nat):Int),(st++[(a:Int)])++[(y:Int)]))):=by
 have hroom:(1000:Nat)<=room:=by decide
 unfold Ft;simp only[top (st:=st) (a:=(a:Int)) (by omega),A6,ht,hy];rw[Ad (I9 (by omega)),Ad (I9 ha),Fv htl,Ae,Ad (I9 ha),Ad (I9 (by omega)),Ad (I9 htl),Ad (I9 (by omega)),Ad (I9 (by omega)),Ad (I9 (by omega)),w1 (by omega)]
 cases R.getD y false with
 | true=>rfl
 | false=>
  simp only[L2,Ae,A2];rw[Ad (I9 (by omega)),Ad (by rw[E6,S9,S9];omega)]
theorem TK{g:Cz}{R:List Bool}{st T Lf:List Int}{a:Nat}(hst:st.length<64)(hLf:Lf.length<64) :
  Ct g (R,T,st++[(a:Int)],Lf)=(Ai (Ft g R (st++[(a:Int)])) T).bind λx=>match x with
   | .inl T'=>if st=[] then some (.done (Lf++[(a:Int)]).reverse) else some (.next (R,T',st,Lf++[(a:Int)]))
   | .inr (R',T',st')=>some (.next (R',T',st',Lf)):=by
 have hroom:(1000:Nat)<=room:=by decide
 unfold Ct;simp only
 have hb:Cd (Bd (((st++[(a:Int)]).length:Int)-1)) (st++[(a:Int)]).length:=by rw[kV (by omega)];exact I9 (by simp)
 rw[Ad hb]
 congr 1
 funext x
 cases x with
 | inr y=>obtain⟨R',T',st'⟩:=y;rfl
 | inl T'=>
  simp only[top (st:=st) (a:=(a:Int)) (by omega)];rw[kV (by omega),A6,Ad (by rw[S9];omega),Ad ⟨by omega,by simp⟩];have e:(st++[(a:Int)]).take st.length=st:=List.take_left' rfl;rw[e]
  cases st with
  | nil=>
   rw[if_pos rfl]
   have:decide ((0:Int)<(([]:List Int).length:Int))=false:=by decide
   rw[this,A2,WZ _ (by simp;omega)];simp only[Aw];rw[Ad (by simp)]
  | cons b st'=>
   rw[if_neg (by simp)];have:decide ((0:Int)<((b::st').length:Int))=true:=Fy (by simp<;>omega);rw[this,Ae]
theorem RO{S X:Type}{f:S->Option (LR S X)}{a b:S}(h:f a=f b):Ai f a=Ai f b:=by
 cases hb:f b with
 | none=>rw[Vh (h.trans hb),Vh hb]
 | some r=>cases r with
  | done x=>rw[Ag (h.trans hb),Ag hb]
  | next s=>rw[An (h.trans hb),An hb]
theorem Zp{S X:Type}{f:S->Option (LR S X)}{s:S}:O1 (f s) f=Ai f s:=by
 unfold O1
 cases hb:f s with
 | none=>rw[Vh hb];rfl
 | some r=>cases r with
  | done x=>rw[Ag hb];rfl
  | next s'=>rw[An hb];rfl
def sN(L:List (List Int))(k:Nat):List Nat:=(L.getD k []).map Int.toNat
def RelS(R:List Bool)(s:Nat->Bool):Prop:=∀ z,z<64->R.getD z false=s z
theorem Mt{α:Type}{d:α}{l:List α}{i:Nat}{x:α}{k:Nat}(hk:k<64):(Ju 64 d l i x).getD k d=if k=i then x else l.getD k d:=by
 rw[HU hk]
 by_cases h:k=i
 ·subst h;simp
 ·have:Nat.beq k i=false:=by cases hb:Nat.beq k i with|false=>rfl|true=>exact absurd (Bt hb) h
  rw[this,if_neg h];rfl
theorem RelS.set{R:List Bool}{s:Nat->Bool}(h:RelS R s){y:Nat}:RelS (Ju 64 false R y true) (upd s y):=λz hz=>by
 rw[Mt hz,h z hz]
 by_cases hzy:z=y
 ·simp[upd,hzy]
 ·simp[upd,hzy]
def Ot(o:List Nat):List Int:=o.map Int.ofNat
theorem RY{g:Cz}(hm:Li g.Succ=true){s s':Nat->Bool}{l o:List Nat}(hv:VL (sN g.Succ) s l s' o) :
  ∀(R:List Bool) (T st Lf:List Int) (a t:Nat),RelS R s->a<g.Succ.length->l=(sN g.Succ a).drop t->T.getD a 0=(t:Int)->t<=(sN g.Succ a).length->s a=true->(∀ z,z<64->s z=false->T.getD z 0=0)->
   Lf.length+LF 64 s+st.length+1<=64->
   ∃(R':List Bool) (T':List Int),RelS R' s'/\(∀ z,z<64->s' z=false->T'.getD z 0=0)/\(∀ z,z<64->s z=true->z≠a->T'.getD z 0=T.getD z 0)/\Lf.length+o.length+LF 64 s'+st.length+1<=64 /\
    Ai (Ct g) (R,T,st++[(a:Int)],Lf)=if st=[] then some (Lf++Ot o++[(a:Int)]).reverse else Ai (Ct g) (R',T',st,Lf++Ot o++[(a:Int)]):=by
 obtain⟨hL1,hL64,hLok⟩:=mayS_iff.1 hm
 have hlenS:∀ a,(sN g.Succ a).length=(g.Succ.getD a []).length:=λa=>by simp[sN]
 have hdrop:∀(a t y:Nat) (l':List Nat),a<g.Succ.length->y::l'=(sN g.Succ a).drop t->t<(g.Succ.getD a []).length/\(g.Succ.getD a []).getD t 0=(y:Int)/\y<g.Succ.length/\l'=(sN g.Succ a).drop (t+1):=λa t y l' ha he=>by
  have ht:t<(sN g.Succ a).length:=by
   rcases zzL136 t (sN g.Succ a).length with h|h
   ·exact h
   ·rw[List.drop_eq_nil_of_le h]at he;cases he
  rw[Nn ht]at he;simp only[Cf]at he;obtain⟨h1,h2⟩:=he
  have ht':t<(g.Succ.getD a []).length:=by rw[<- hlenS];exact ht
  obtain⟨b0,b1⟩:=Yb (hLok a ha) ht'
  have h3:(sN g.Succ a)[t]=((g.Succ.getD a []).getD t 0).toNat:=by rw[Aa _ _ _ ht'];simp[sN]
  exact⟨ht',by omega,by omega,h2⟩
 induction hv with
 | nil s=>
  intro R T st Lf a t hR ha hl hT htl hsa hz hc
  have ht:t=(g.Succ.getD a []).length:=by
   have:=B7 List.length hl;simp at this;rw[hlenS]at htl this;omega
  refine⟨R,T,hR,hz,λ_ _ _ _=>rfl,by simpa using hc,?_⟩
  have hF:Ct g (R,T,st++[(a:Int)],Lf)=if st=[] then some (.done (Lf++[(a:Int)]).reverse) else some (.next (R,T,st,Lf++[(a:Int)])):=by
   rw[TK (by omega) (by omega),Ag (dn (by omega) ha hL64 (by rw[hT,ht]))]
   rfl
  by_cases hst:st=[]
  ·rw[if_pos hst]at hF ⊢;rw[Ag hF];simp[Ot]
  ·rw[if_neg hst]at hF ⊢;rw[An hF];simp[Ot]
 | @skip s s' y l o h tl ih=>
  intro R T st Lf a t hR ha hl hT htl hsa hz hc;obtain⟨h1,h2,h3,h4⟩:=hdrop a t y l ha hl;have hb:=BF (hLok a ha);have hs:=TL (g:=g) (R:=R) (st:=st) (T:=T) (a:=a) (t:=t) (y:=y) (by omega) ha hL64 hT h1 (by omega) h2 h3;rw[hR y (by omega),h,Ae]at hs;obtain⟨R',T',a1,a2,a3,a4,a5⟩:=ih R (Ju 64 (0:Int) T a ((t+1:Nat):Int)) st Lf a (t+1) hR ha h4 (by rw[Mt (by omega),if_pos rfl]) (by rw[hlenS];omega) hsa
   (λz hz1 hz2=>by rw[Mt hz1,if_neg (by rintro rfl;rw[hsa]at hz2;cases hz2)];exact hz z hz1 hz2) hc
  refine⟨R',T',a1,a2,λz hz1 hz2 hz3=>by rw[a3 z hz1 hz2 hz3,Mt hz1,if_neg hz3],a4,?_⟩;rw[<- a5]
  apply RO
  rw[TK (by omega) (by omega),TK (by omega) (by omega),An hs]
 | @step s s1 s2 y l o1 o2 h tl tr ih1 ih2=>
  intro R T st Lf a t hR ha hl hT htl hsa hz hc;obtain⟨h1,h2,h3,h4⟩:=hdrop a t y l ha hl;have hb:=BF (hLok a ha)
  have hay:y≠a:=by rintro rfl;rw[hsa]at h;cases h
  have hs:=TL (g:=g) (R:=R) (st:=st) (T:=T) (a:=a) (t:=t) (y:=y) (by omega) ha hL64 hT h1 (by omega) h2 h3;rw[hR y (by omega),h,A2]at hs;have hcu:=Tj (n:=64) (show y<64 by omega) h
  have hF:Ct g (R,T,st++[(a:Int)],Lf)=some (.next (Ju 64 false R y true,Ju 64 (0:Int) T a ((t+1:Nat):Int),(st++[(a:Int)])++[(y:Int)],Lf)):=by
   rw[TK (by omega) (by omega),Ag hs]
   rfl
  obtain⟨R1,T1,b1,b2,b3,b4,b5⟩:=ih1 (Ju 64 false R y true) (Ju 64 (0:Int) T a ((t+1:Nat):Int)) (st++[(a:Int)]) Lf y 0 hR.set h3 (by simp)
   (by rw[Mt (by omega),if_neg hay];exact hz y (by omega) h) (K7 _) (upd_true.2 (.inl rfl))
   (λz hz1 hz2=>by
    obtain⟨c1,c2⟩:=upd_false.1 hz2;rw[Mt hz1,if_neg (by rintro rfl;rw[hsa]at c2;cases c2)]
    exact hz z hz1 c2) (by rw[E6,S9];omega)
  rw[if_neg (by simp)]at b5
  have hTa:T1.getD a 0=((t+1:Nat):Int):=by rw[b3 a (by omega) (upd_true.2 (.inr hsa)) (Ha hay),Mt (by omega),if_pos rfl]
  rw[E6,S9]at b4;obtain⟨R2,T2,c1,c2,c3,c4,c5⟩:=ih2 R1 T1 st (Lf++Ot o1++[(y:Int)]) a (t+1) b1 ha h4 hTa (by rw[hlenS];omega) ((tl.seen a).2 (.inl (upd_true.2 (.inr hsa)))) b2
   (by simp only[E6,S9,Ot,Mg];omega)
  refine⟨R2,T2,c1,c2,λz hz1 hz2 hz3=>?_,?_,?_⟩
  ·rw[c3 z hz1 ((tl.seen z).2 (.inl (upd_true.2 (.inr hz2)))) hz3,b3 z hz1 (upd_true.2 (.inr hz2)) (by rintro rfl;rw[h]at hz2;cases hz2),Mt hz1,if_neg hz3]
  ·simp only[E6,S9,Ot,Mg,Oj]at c4 ⊢;omega
  ·rw[An hF,b5,c5]
   have e:Lf++Ot o1++[(y:Int)]++Ot o2++[(a:Int)]=Lf++Ot (o1++y::o2)++[(a:Int)]:=by simp[Ot]
   rw[e]
theorem Ut{L:List (List Int)}(h:Li L=true):∀ z,z<L.length->∀ y∈sN L z,y<L.length:=λz hz y hy=>by
 obtain⟨_,_,h3⟩:=mayS_iff.1 h;obtain⟨x,hx,rfl⟩:=zzL22.1 hy;have:=UL (h3 z hz) hx;omega
theorem eW{r:Nat}(hr:r<64):LF 64 (one r)=63:=by
 have h:=Tj (n:=64) (s:=λ_=>false) hr rfl
 have e:upd (λ_=>false) r=one r:=by funext z;simp[upd,one]
 rw[e]at h
 have:LF 64 (λ_=>false)=64:=by decide
 omega
theorem Ng{α:Type}{n z:Nat}{d:α}:(List.replicate n d).getD z d=d:=by rw[Pl,List.getElem?_replicate];split<;>rfl
theorem JY(g:Cz)(h:Fits g.Succ)(hP:True)(r:Int) :
  (X5 g=true->0<=r->r<(g.Succ.length:Int)->∀ L,Ord (sN g.Succ) r.toNat L->Gs g r=some (Ot L)) /\
  ((X5 g&&(decide (0<=r)&&decide (r<(g.Succ.length:Int))))=false->Gs g r=some []):=by
 refine⟨λhm h0 h1 L hL=>?_,λhf=>?_⟩
 ·have hms:Li g.Succ=true:=by unfold X5 at hm;exact(A4 _ _▸hm).1
  obtain⟨hL1,hL64,hLok⟩:=mayS_iff.1 hms;obtain⟨s',o,hv,rfl⟩:=hL;have hrn:((r.toNat:Nat):Int)=r:=Uz h0
  have hr:r.toNat<g.Succ.length:=by omega
  obtain⟨R',T',_,_,_,_,hmain⟩:=RY hms hv (Ju 64 false (List.replicate 64 false) r.toNat true) (List.replicate 64 (0:Int)) [] [] r.toNat 0
   (λz hz=>by rw[Mt hz,Ng];by_cases hzr:z=r.toNat<;>simp[one,hzr]) hr (by simp) Ng (K7 _) (by simp[one])
   (λz hz _=>Ng) (by rw[eW (by omega)];simp)
  rw[if_pos rfl,hrn]at hmain;unfold Gs;rw[gk _ h,hm,Aw];simp only[Fd,Pm,Ae,A2,O8,Fy h0,Fy h1,S7,Aw];rw[Ad ⟨h0,by omega⟩];have hF:∀ X,Ai (Ct g) (Ju 64 false (List.replicate 64 false) r.toNat true,List.replicate 64 (0:Int),[]++[r],[])=some X->
    (O1 (Ct g (Ju 64 false (List.replicate 64 false) r.toNat true,List.replicate 64 (0:Int),[r],[])) (Ct g)).bind (λx=>some x)=some X:=λX hX=>by
   rw[Zp];rw[Tb]at hX;rw[hX];rfl
  refine(hF _ hmain).trans ?_;simp only[Tb,List.reverse_append,Ot,Bq,List.map_reverse,List.reverse_cons,List.reverse_nil]
  simp
  omega
 ·unfold Gs;rw[gk _ h,Aw]
  cases hm:X5 g with
  | false=>rfl
  | true=>
   rw[hm,G8]at hf;simp only[Fd,Pm,Ae,A2,O8,hf,Aw,L2]
   rfl
def RelN(n:Nat)(R:List Bool)(s:Nat->Bool):Prop:=R.length=n/\∀ z,z<n->R.getD z false=s z
theorem RelN.set{n:Nat}{R:List Bool}{s:Nat->Bool}(h:RelN n R s){y:Nat}(hy:y<n):RelN n (R.set y true) (upd s y):=by
 refine⟨by rw[Hv];exact h.1,λz hz=>?_⟩;rw[Pl,List.getElem?_set]
 by_cases hzy:y=z
 ·subst hzy;simp[upd,h.1,hy]
 ·rw[if_neg hzy,<- Pl,h.2 z hz];simp[upd,Ha hzy]
theorem Lj:∀(n:Nat) (l:List Nat),l.Nodup->(∀ x∈l,x<n)->l.length<=n
 | 0,l,_,h=>by
  cases l with
  | nil=>simp
  | cons x l=>have:=h x (Io ..);omega
 | n+1,l,hd,h=>by
  by_cases hn:n∈l
  ·have h1:=Lj n (l.erase n) (hd.erase n) λx hx=>by
    have h2:=(hd.mem_erase_iff).1 hx;have:=h x h2.2;have:=h2.1;omega
   rw[List.length_erase_of_mem hn]at h1;omega
  ·have h1:=Lj n l hd λx hx=>by
    have:=h x hx
    have:x≠n:=by rintro rfl;exact hn hx
    omega
   omega
theorem bq{p:Nat->Bool}{n:Nat}{x:Int}:x∈((List.range n).filter p).map Int.ofNat↔∃ k:Nat,x=(k:Int)/\k<n/\p k=true:=by
 simp only[zzL22,zzL63,zzL34]
 constructor
 ·rintro⟨k,⟨h1,h2⟩,rfl⟩;exact⟨k,rfl,h1,h2⟩
 ·rintro⟨k,rfl,h1,h2⟩;exact⟨k,⟨h1,h2⟩,rfl⟩
theorem bT{L:List (List Int)}{k i:Nat}:Y9 L k i=true↔(i:Int)∈L.getD k []:=by unfold Y9;rw[ET]
def mk(o:List Bool)(l:List Nat):List Bool:=l.foldl (λo y=>o.set y true) o
theorem iq(l:List Nat):∀ o:List Bool,(mk o l).length=o.length:=by
 induction l with
 | nil=>intro o;rfl
 | cons y l ih=>intro o;show(mk (o.set y true) l).length=_;rw[ih,Hv]
theorem mk_at{n:Nat}(l:List Nat):∀(o:List Bool),o.length=n->(∀ y∈l,y<n)->∀ z,(mk o l).getD z false=true↔o.getD z false=true\/z∈l:=by
 induction l with
 | nil=>intro o _ _ z;simp[mk]
 | cons y l ih=>
  intro o ho hl z
  show(mk (o.set y true) l).getD z false=true↔_
  rw[ih (o.set y true) (by rw[Hv];exact ho) (λu hu=>hl u (Em _ hu)) z];have hy:=hl y (Io ..)
  have e:(o.set y true).getD z false=true↔o.getD z false=true\/z=y:=by
   rw[Pl,List.getElem?_set,Pl]
   by_cases h:y=z
   ·subst h;simp[ho,hy]
   ·simp[h,Ha h]
  rw[e,zzL23]
  constructor
  ·rintro((h|h)|h)
   ·exact .inl h
   ·exact .inr (.inl h)
   ·exact .inr (.inr h)
  ·rintro(h|h|h)
   ·exact .inl (.inl h)
   ·exact .inl (.inr h)
   ·exact .inr h
def sw(S:Nat->List Nat)(o:List Bool):Nat->List Bool
 | 0=>o
 | i+1=>if(sw S o i).getD i false=true then mk (sw S o i) (S i) else sw S o i
def HP(S:Nat->List Nat)(n:Nat)(o:List Bool):Nat->List Bool
 | 0=>o
 | j+1=>sw S (HP S n o j) n
section
variable {S:Nat->List Nat} {n:Nat} (hS:∀ z,z<n->∀ y∈S z,y<n)
theorem Yo(o:List Bool):∀ i,(sw S o i).length=o.length:=by
 intro i
 induction i with
 | zero=>rfl
 | succ i ih=>unfold sw;split;rw[iq,ih];exact ih
theorem fX(o:List Bool):∀ j,(HP S n o j).length=o.length:=by
 intro j
 induction j with
 | zero=>rfl
 | succ j ih=>unfold HP;rw[Yo,ih]
include hS
theorem BM{o:List Bool}(ho:o.length=n):∀ i,i<=n->∀ z,o.getD z false=true->(sw S o i).getD z false=true:=by
 intro i
 induction i with
 | zero=>intro _ z h;exact h
 | succ i ih=>
  intro hi z h;unfold sw
  split
  ·exact(mk_at (n:=n) _ _ (by rw[Yo];exact ho) (hS i (by omega)) z).2 (.inl (ih (by omega) z h))
  ·exact ih (by omega) z h
theorem cj{o:List Bool}{r:Nat}(ho:o.length=n)(h:∀ z,o.getD z false=true->Rch S r z):∀ i,i<=n->∀ z,(sw S o i).getD z false=true->Rch S r z:=by
 intro i
 induction i with
 | zero=>intro _ z hz;exact h z hz
 | succ i ih=>
  intro hi z hz;unfold sw at hz
  split at hz
  ·rename_i hsi
   rcases(mk_at (n:=n) _ _ (by rw[Yo];exact ho) (hS i (by omega)) z).1 hz with h1|h1
   ·exact ih (by omega) z h1
   ·exact(ih (by omega) i hsi).tail h1
  ·exact ih (by omega) z hz
theorem fm{o:List Bool}(ho:o.length=n):∀ i,i<=n->∀ j,j<i->o.getD j false=true->∀ y∈S j,(sw S o i).getD y false=true:=by
 intro i
 induction i with
 | zero=>intro _ j hj;omega
 | succ i ih=>
  intro hi j hj hoj y hy;unfold sw
  by_cases hji:j=i
  ·subst hji;have h1:=BM hS ho j (by omega) j hoj;rw[if_pos h1];exact(mk_at (n:=n) _ _ (by rw[Yo];exact ho) (hS j (by omega)) y).2 (.inr hy)
  ·have h1:=ih (by omega) j (by omega) hoj y hy
   split
   ·exact(mk_at (n:=n) _ _ (by rw[Yo];exact ho) (hS i (by omega)) y).2 (.inl h1)
   ·exact h1
theorem XY{o:List Bool}(ho:o.length=n)(hc:∀ j,j<n->o.getD j false=true->∀ y∈S j,o.getD y false=true):∀ i,i<=n->∀ z,(sw S o i).getD z false=true->o.getD z false=true:=by
 intro i
 induction i with
 | zero=>intro _ z h;exact h
 | succ i ih=>
  intro hi z hz;unfold sw at hz
  split at hz
  ·rename_i hsi
   rcases(mk_at (n:=n) _ _ (by rw[Yo];exact ho) (hS i (by omega)) z).1 hz with h1|h1
   ·exact ih (by omega) z h1
   ·exact hc i (by omega) (ih (by omega) i hsi) z h1
  ·exact ih (by omega) z hz
theorem W1{r:Nat}(hr:r<n)(z:Nat):(HP S n ((List.replicate n false).set r true) n).getD z false=true↔Rch S r z:=by
 let o0:=(List.replicate n false).set r true
 have ho0:o0.length=n:=by simp[o0]
 have hat0:∀ z,o0.getD z false=true↔z=r:=λz=>by
  show((List.replicate n false).set r true).getD z false=true↔z=r
  rw[Pl,List.getElem?_set]
  by_cases h:r=z
  ·subst h;simp[hr]
  ·rw[if_neg h,<- Pl,Ng];simp[Ha h]
 have hlen:∀ j,(HP S n o0 j).length=n:=λj=>by rw[fX,ho0]
 have hsound:∀ j z,(HP S n o0 j).getD z false=true->Rch S r z:=by
  intro j
  induction j with
  | zero=>intro z hz;rw[(hat0 z).1 hz];exact .refl _
  | succ j ih=>intro z hz;exact cj hS (hlen j) ih n (zzL8 _) z hz
 have hmono:∀ j,∀ z,o0.getD z false=true->(HP S n o0 j).getD z false=true:=by
  intro j
  induction j with
  | zero=>intro z h;exact h
  | succ j ih=>intro z h;exact BM hS (hlen j) n (zzL8 _) z (ih z h)
 let C:Nat->Prop:=λj=>∀ i,i<n->(HP S n o0 j).getD i false=true->∀ y∈S i,(HP S n o0 j).getD y false=true
 have key:∀ j,C j\/LF n (λz=>(HP S n o0 j).getD z false)+j+1<=n:=by
  intro j
  induction j with
  | zero=>
   refine .inr ?_;have h1:=Tj (n:=n) (s:=λ_=>false) hr rfl
   have e:upd (λ_=>false) r=λz=>(HP S n o0 0).getD z false:=by
    funext z
    rw[Mh,upd_true]
    show _↔o0.getD z false=true
    rw[hat0]
    simp
   rw[e]at h1
   have hcl:LF n (λ_=>false)=n:=by
    unfold LF;rw[List.filter_eq_self.2 (by simp)]
    simp
   omega
  | succ j ih=>
   by_cases hc:C j
   ·refine .inl λi hi h y hy=>?_;have h1:=XY hS (hlen j) hc n (zzL8 _) i h;exact BM hS (hlen j) n (zzL8 _) y (hc i hi h1 y hy)
   ·rcases ih with ih|ih
    ·exact(hc ih).elim
    ·refine .inr ?_
     have hex:∃ i,i<n/\(HP S n o0 j).getD i false=true/\∃ y,y∈S i/\(HP S n o0 j).getD y false=false:=by
      simp only[C]at hc;simp only[Classical.not_forall]at hc;obtain⟨i,hi,h1,y,hy,h2⟩:=hc;exact⟨i,hi,h1,y,hy,by simpa using h2⟩
     obtain⟨i,hi,h1,y,hy,h2⟩:=hex;have h3:=fm hS (hlen j) n (zzL8 _) i hi h1 y hy;have hyn:=hS i hi y hy;have h4:=Tj (n:=n) (s:=λz=>(HP S n o0 j).getD z false) hyn h2
     have h5:LF n (λz=>(HP S n o0 (j+1)).getD z false)<=LF n (upd (λz=>(HP S n o0 j).getD z false) y):=MD λz hz=>by
      rcases upd_true.1 hz with rfl|hz
      ·exact h3
      ·exact BM hS (hlen j) n (zzL8 _) z hz
     omega
 have hC:C n:=by
  rcases key n with h|h
  ·exact h
  ·omega
 constructor
 ·exact hsound n z
 ·intro hrch
  have hlt:∀ x z,Rch S x z->x<n->z<n/\((HP S n o0 n).getD x false=true->(HP S n o0 n).getD z false=true):=by
   intro x z hxz
   induction hxz with
   | refl x=>exact λhx=>⟨hx,id⟩
   | @head x y z hy _ ih=>
    intro hx;have:=ih (hS x hx y hy);exact⟨this.1,λh=>this.2 (hC x hx h y hy)⟩
  exact(hlt r z hrch hr).2 (hmono n r ((hat0 r).2 rfl))
end
def pos:List Nat->Nat->Nat
 | [],_=>0
 | x::l,z=>if x=z then 0 else pos l z+1
theorem DS(x:Nat)(l:List Nat)(z:Nat):pos (x::l) z=if x=z then 0 else pos l z+1:=rfl
theorem fT{A l:List Nat}{z:Nat}(h:z∉A):pos (A++l) z=A.length+pos l z:=by
 induction A with
 | nil=>simp
 | cons x A ih=>
  have h1:x≠z:=λe=>h (by rw[e];exact Io ..);have h2:z∉A:=λe=>h (Em _ e);rw[Xj,DS,if_neg h1,ih h2,Oj];omega
theorem BH{P:List Nat}(hd:P.Nodup){i:Nat}(hi:i<P.length):P[i]∉P.take i/\pos P P[i]=i:=by
 have e:P=P.take i++P[i]::P.drop (i+1):=by rw[<- Nn hi,List.take_append_drop]
 have hn:P[i]∉P.take i:=by
  rw[e]at hd;have:=(List.nodup_append.1 hd).2.2;exact λhm=>this _ hm _ (Io ..) rfl
 refine⟨hn,?_⟩
 have h2:pos (P.take i++P[i]::P.drop (i+1)) P[i]=i:=by
  rw[fT hn]
  have:pos (P[i]::P.drop (i+1)) P[i]=0:=by rw[DS,if_pos rfl]
  rw[this,Vq];omega
 rw[<- e]at h2;exact h2
theorem MF(d:Array Int)(hs:∀ i j,i<=j->j<d.size->d[i]!<=d[j]!):∀ m,m<=d.size->(∀ x∈Lib.compactUpTo d m,∃ j,j<m/\x=d[j]!)/\(∀ j,j<m->d[j]!∈Lib.compactUpTo d m)/\(Lib.compactUpTo d m).Pairwise (·<·):=by
 intro m
 induction m with
 | zero=>intro _;exact⟨(λx hx=>by simp[Lib.compactUpTo]at hx),(λj hj=>by omega),by simp[Lib.compactUpTo]⟩
 | succ m ih=>
  intro hm;obtain⟨h1,h2,h3⟩:=ih (by omega);rw[Lib.compactUpTo_succ]
  cases hk:Lib.keeps d m with
  | true=>
   rw[if_pos rfl];refine⟨λx hx=>?_,λj hj=>?_,?_⟩
   ·rcases zzL11.1 hx with h|h
    ·obtain⟨j,hj,he⟩:=h1 x h;exact⟨j,by omega,he⟩
    ·exact⟨m,by omega,by simpa using h⟩
   ·by_cases hjm:j=m
    ·subst hjm;simp
    ·exact zzL11.2 (.inl (h2 j (by omega)))
   ·rw[zzL127];refine⟨h3,List.pairwise_singleton _ _,λx hx y hy=>?_⟩;obtain⟨j,hj,rfl⟩:=h1 x hx
    have hy':y=d[m]!:=by simpa using hy
    subst hy'
    have hk':m=0\/d[m]!≠d[m-1]!:=by simpa [Lib.keeps] using hk
    rcases hk' with h0|h0
    ·omega
    ·have a1:=hs j (m-1) (by omega) (by omega);have a2:=hs (m-1) m (by omega) (by omega);omega
  | false=>
   have hk':m≠0/\d[m]! = d[m-1]!:=by
    have:¬ (m=0\/d[m]!≠d[m-1]!):=by
     intro h
     have:Lib.keeps d m=true:=by simpa [Lib.keeps] using h
     rw[hk]at this;cases this
    exact⟨λh=>this (.inl h),Classical.not_not.1 λh=>this (.inr h)⟩
   simp only[Xf,En,List.append_nil];refine⟨λx hx=>by obtain⟨j,hj,he⟩:=h1 x hx;exact⟨j,by omega,he⟩,λj hj=>?_,h3⟩
   by_cases hjm:j=m
   ·subst hjm;rw[hk'.2];exact h2 _ (by omega)
   ·exact h2 j (by omega)
def EC(l:List Int):List Int:=Lib.compact (l.mergeSort λx y=>decide (x<=y))
theorem XR(l:List Int):(EC l).Pairwise (·<·)/\∀ x,x∈EC l↔x∈l:=by
 unfold EC Lib.compact;have hp:(l.mergeSort λx y=>decide (x<=y)).Pairwise (λa b=>decide (a<=b)=true):=List.pairwise_mergeSort (λa b c h1 h2=>by simp at *;omega) (λa b=>by simp;omega) l;have hm:∀ x,x∈(l.mergeSort λx y=>decide (x<=y))↔x∈l:=λx=>List.mem_mergeSort
 generalize l.mergeSort (λx y=>decide (x<=y))=z at hp hm ⊢
 have hz:∀ j,j<z.length->z.toArray[j]! = z.getD j 0:=λj hj=>by simp[List.getD,hj]
 obtain⟨h1,h2,h3⟩:=MF z.toArray (λi j hij hj=>by
  have hj':j<z.length:=by simpa using hj
  rw[hz i (by omega),hz j hj']
  by_cases he:i=j
  ·rw[he];exact Int.le_refl _
  ·have:=(zzL96.1 hp) i j (by omega) hj' (by omega);rw[Aa _ _ _ (by omega),Aa _ _ _ hj']
   simpa using this) z.length (by simp)
 refine⟨h3,λx=>?_⟩;rw[<- hm x]
 constructor
 ·intro hx;obtain⟨j,hj,rfl⟩:=h1 x hx;rw[hz j hj];exact getD_mem hj
 ·intro hx;obtain⟨j,hj,rfl⟩:=K4 hx;have:=h2 j hj;rwa[hz j hj,Aa _ _ _ hj]at this
def g7(n:Nat)(l:List Int):Bool:=(List.range l.length).all λi=>decide (0<l.getD i 0)&&decide (l.getD i 0<(n:Int))
def g8(k:Int):Int:=([0,1,2,0]:List Int).getD k.toNat 0
def MR(e:Ip):Bool:=(decide (0<=e.Kind)&&decide (e.Kind<=3))&&decide ((e.To.length:Int)=g8 e.Kind)
def M4(e:Ip)(n:Nat):Bool:=MR e&&g7 n e.To
theorem toB_iff{n:Nat}{l:List Int}:g7 n l=true↔∀ x∈l,0<x/\x<n:=by
 unfold g7;rw[all_range];simp only[A4,D0]
 constructor
 ·intro h x hx;obtain⟨i,hi,rfl⟩:=K4 hx;have:=h i hi;rwa[Aa _ _ _ hi]at this
 ·intro h i hi;exact h _ (getD_mem hi)
theorem bH(e:Ip)(n:Nat)(hl:e.To.length<4611686018427387904):Ai (B2 e (n:Int)) (0:Int)=some (bif g7 n e.To then .inl () else .inr false):=by
 have step:∀ j:Nat,j<e.To.length->B2 e (n:Int) (j:Int)=bif (decide (0<e.To.getD j 0)&&decide (e.To.getD j 0<(n:Int))) then some (.next (((j+1:Nat):Int))) else some (.done (.inr false)):=λj hj=>by
  unfold B2;simp only[A6,Fv hj,Ae,O8,w1 (show j<4611686018427387904 by omega)];rw[Ad (I9 hj)]
  by_cases h0:e.To.getD j 0=0
  ·rw[h0];rfl
  ·have:(e.To.getD j 0==0)=false:=by rw[zzL24];exact h0
   rw[this];simp only[Pm,Ae,A2,Aw]
   have e1:decide (0<e.To.getD j 0)=decide (0<=e.To.getD j 0):=by apply zzL105.2;omega
   rw[e1]
   cases(decide (0<=e.To.getD j 0)&&decide (e.To.getD j 0<(n:Int)))<;>rfl
 have:=My (B2 e (n:Int)) (λj=>((j:Nat):Int)) (λi=>decide (0<e.To.getD i 0)&&decide (e.To.getD i 0<(n:Int))) (.inl ()) (.inr false) e.To.length (λj hj hp=>?_) (λj hj hp=>?_) ?_
 ·exact this
 ·show B2 e (n:Int) (j:Int)=_
  rw[step j hj,hp];rfl
 ·show B2 e (n:Int) (j:Int)=_
  rw[step j hj,hp];rfl
 ·show B2 e (n:Int) _=_
  unfold B2;simp only[Kd,A2]
theorem Wc(e:Ip)(n:Nat)(w:Int)(hw:0<=w/\w<=2) :
  (bif ((e.To.length:Int)!=w) then(some false) else((Ai (B2 e (n:Int)) (0:Int)).bind (λx10=>(match x10 with|(.inl _)=>(some true)|(.inr r12)=>(some r12)))))=some (decide ((e.To.length:Int)=w)&&g7 n e.To):=by
 by_cases h:(e.To.length:Int)=w
 ·rw[show((e.To.length:Int)!=w)=false by simpa using h,A2,bH e n (by omega),Fy h]
  cases g7 n e.To<;>rfl
 ·rw[show((e.To.length:Int)!=w)=true by simpa using h,Ae,Gy h];rfl
theorem WX(e:Ip)(n:Nat):Jl e (n:Int)=some (M4 e n):=by
 unfold Jl M4 MR
 by_cases h0:e.Kind=0
 ·rw[h0];exact Wc e n 0 (by omega)
 by_cases h1:e.Kind=1
 ·rw[h1];exact Wc e n 1 (by omega)
 by_cases h2:e.Kind=2
 ·rw[h2];exact Wc e n 2 (by omega)
 by_cases h3:e.Kind=3
 ·rw[h3];exact Wc e n 0 (by omega)
 have e0:(e.Kind==0)=false:=by rw[zzL24];exact h0
 have e1:(e.Kind==1)=false:=by rw[zzL24];exact h1
 have e2:(e.Kind==2)=false:=by rw[zzL24];exact h2
 have e3:(e.Kind==3)=false:=by rw[zzL24];exact h3
 rw[e0,e1,e2,e3]
 have:(decide (0<=e.Kind)&&decide (e.Kind<=3))=false:=by
  by_cases h:0<=e.Kind
  ·rw[Gy (show ¬ e.Kind<=3 by omega)];simp
  ·rw[Gy h];rfl
 rw[this]
 rfl
theorem bM{e:Ip}{n:Nat}(h:M4 e n=true):e.To.length<=2:=by
 unfold M4 MR at h;simp only[A4,D0]at h;obtain⟨⟨⟨h0,h1⟩,h2⟩,_⟩:=h
 have:g8 e.Kind<=2:=by
  have:e.Kind=0\/e.Kind=1\/e.Kind=2\/e.Kind=3:=by omega
  rcases this with h|h|h|h<;>rw[h]<;>decide
 omega
theorem ea{e:Ip}{n:Nat}(h:M4 e n=true):g7 n e.To=true:=by unfold M4 at h;exact(A4 _ _▸h).2
def M3(f:Ab)(i:Nat):Ip:=(f.Blocks.getD i (default:Ak)).End
def Ei(f:Ab):List (List Int):=(List.range f.Blocks.length).map λi=>EC (M3 f i).To
def Nj(f:Ab):Bool:=(decide (1<=f.Blocks.length)&&decide (f.Blocks.length<=64))&&(List.range f.Blocks.length).all λi=>M4 (M3 f i) f.Blocks.length
theorem shape_iff{f:Ab}:Nj f=true↔(1<=f.Blocks.length/\f.Blocks.length<=64)/\∀ i,i<f.Blocks.length->M4 (M3 f i) f.Blocks.length=true:=by
 unfold Nj;rw[A4,A4,all_range];simp only[D0]
theorem ff{f:Ab}{i:Nat}(h:M4 (M3 f i) f.Blocks.length=true):dj f.Blocks.length (EC (M3 f i).To)=true:=by
 obtain⟨h1,h2⟩:=XR (M3 f i).To;exact iu (λx hx=>by have:=(toB_iff.1 (ea h)) x ((h2 x).1 hx);omega) h1
theorem Su{f:Ab}(h:Nj f=true):Li (Ei f)=true:=by
 obtain⟨⟨h1,h2⟩,h3⟩:=shape_iff.1 h
 have hl:(Ei f).length=f.Blocks.length:=by simp[Ei]
 refine mayS_iff.2 ⟨by omega,by omega,λi hi=>?_⟩;rw[hl]at hi ⊢;unfold Ei;rw[P6 hi];exact ff (h3 i hi)
theorem lu(f:Ab)(hf:f.Blocks.length<=maxLen):Qc f=some (bif Nj f then(Xr (Ei f),0) else(g0,5)):=by
 have hroom:(1000:Nat)<=room:=by decide
 unfold Qc;rw[HA,Aw];have hsh:Nj f=((decide (1<=f.Blocks.length)&&decide (f.Blocks.length<=64))&&(List.range f.Blocks.length).all λi=>M4 (M3 f i) f.Blocks.length):=rfl
 cases hc:(decide (1<=f.Blocks.length)&&decide (f.Blocks.length<=64)) with
 | false=>rw[hsh,hc];rfl
 | true=>
  have hc':=hc;simp only[A4,D0]at hc';simp only[Fd,A2];rw[Ad ⟨by omega,Int.le_refl _,by omega⟩,A6]
  let U:Nat->List (List Int):=λi=>(List.range f.Blocks.length).map λj=>if j<i then EC (M3 f j).To else[]
  have e0:List.replicate f.Blocks.length ([]:List Int)=U 0:=by
   simp only[U]
   apply List.ext_getElem?
   intro j
   by_cases hj:j<f.Blocks.length<;>simp[hj,List.getElem?_replicate]
  have eN:U f.Blocks.length=Ei f:=by
   simp only[U,Ei]
   apply O9
   intro j hj;rw[if_pos hj]
  rw[e0]
  have hstep:∀ i:Nat,i<f.Blocks.length->Et f ((i:Int),U i)=bif M4 (M3 f i) f.Blocks.length then some (.next (((i+1:Nat):Int),U (i+1))) else some (.done (.inr (g0,5))):=λi hi=>by
   unfold Et;simp only[Fv hi,Ae,A6];rw[Ad (I9 hi)];have he:(⟨(f.Blocks.getD i (default:Ak)).End.Kind,(f.Blocks.getD i (default:Ak)).End.Arg,(f.Blocks.getD i (default:Ak)).End.To⟩:Ip)=M3 f i:=rfl;rw[he,WX,Aw]
   cases hfit:M4 (M3 f i) f.Blocks.length with
   | false=>rfl
   | true=>
    have hl2:=bM hfit;simp only[Fd,A2,Ae]
    have hx:Xd (f.Blocks.getD i (default:Ak)).End.To=some (EC (M3 f i).To):=by
     unfold Xd;rw[UD,Ad (by show(M3 f i).To.length<=_;omega)]
     rfl
    rw[hx,Aw,Ad (I9 (by simp[U];omega)),w1 (by omega)]
    congr 3
    simp only[U];rw[KO]
    apply O9
    intro j hj
    by_cases h1:j=i
    ·subst h1;rw[if_pos rfl,if_pos (by omega)]
    ·rw[if_neg h1]
     by_cases h2:j<i
     ·rw[if_pos h2,if_pos (by omega)]
     ·rw[if_neg h2,if_neg (by omega)]
  have:=My (Et f) (λi=>(((i:Nat):Int),U i)) (λi=>M4 (M3 f i) f.Blocks.length) (.inl (U f.Blocks.length)) (.inr (g0,5)) f.Blocks.length (λi hi hp=>?_) (λi hi hp=>?_) ?_
  ·rw[show Ai (Et f) ((0:Int),U 0)=_ from this,hsh,hc,eN,G8]
   cases hall:(List.range f.Blocks.length).all λi=>M4 (M3 f i) f.Blocks.length with
   | false=>rfl
   | true=>
    simp only[Ae,Aw];rw[NB _ (Su (by rw[hsh,hc,hall];rfl))]
    rfl
  ·show Et f (_,_)=_
   rw[hstep i hi,hp];rfl
  ·show Et f (_,_)=_
   rw[hstep i hi,hp];rfl
  ·show Et f (_,_)=_
   unfold Et;simp only[Kd,A2]
inductive Rc (S:Nat->List Nat) (r:Nat):Nat->Prop
 | root:Rc S r r
 | step {x y:Nat} (h:Rc S r x) (hy:y∈S x):Rc S r y
inductive Av (S:Nat->List Nat) (r z:Nat):Nat->Prop
 | root (h:r≠z):Av S r z r
 | step {x y:Nat} (h:Av S r z x) (hy:y∈S x) (hz:y≠z):Av S r z y
inductive AvN (S:Nat->List Nat) (r z:Nat):Nat->Nat->Prop
 | root (h:r≠z) (k:Nat):AvN S r z k r
 | step {k x y:Nat} (h:AvN S r z k x) (hy:y∈S x) (hz:y≠z):AvN S r z (k+1) y
section
variable {S:Nat->List Nat} {r:Nat}
theorem rc_iff{x:Nat}:Rc S r x↔Rch S r x:=by
 constructor
 ·intro h
  induction h with
  | root=>exact .refl _
  | step _ hy ih=>exact ih.tail hy
 ·intro h
  have key:∀ a b,Rch S a b->Rc S r a->Rc S r b:=by
   intro a b hab
   induction hab with
   | refl x=>exact id
   | head hy _ ih=>exact λha=>ih (.step ha hy)
  exact key _ _ h .root
def wo(S:Nat->List Nat)(z:Nat):Nat->List Nat:=λx=>(S x).filter λy=>decide (y≠z)
theorem av_iff{z x:Nat}:Av S r z x↔r≠z/\Rch (wo S z) r x:=by
 constructor
 ·intro h
  induction h with
  | root h=>exact⟨h,.refl _⟩
  | step _ hy hz ih=>exact⟨ih.1,ih.2.tail (zzL63.2 ⟨hy,by simpa using hz⟩)⟩
 ·rintro⟨hr,h⟩
  have key:∀ a b,Rch (wo S z) a b->Av S r z a->Av S r z b:=by
   intro a b hab
   induction hab with
   | refl x=>exact id
   | head hy _ ih=>
    obtain⟨h1,h2⟩:=zzL63.1 hy;exact λha=>ih (.step ha h1 (by simpa using h2))
  exact key _ _ h (.root hr)
theorem Av.rc{z x:Nat}(h:Av S r z x):Rc S r x:=by
 induction h with
 | root _=>exact .root
 | step _ hy _ ih=>exact .step ih hy
theorem Av.ne{z x:Nat}(h:Av S r z x):x≠z:=by
 cases h with
 | root h=>exact h
 | step _ _ hz=>exact hz
theorem AvN.av{z k x:Nat}(h:AvN S r z k x):Av S r z x:=by
 induction h with
 | root h=>exact .root h
 | step _ hy hz ih=>exact .step ih hy hz
theorem AvN.up{z k x:Nat}(h:AvN S r z k x):AvN S r z (k+1) x:=by
 induction h with
 | root h k=>exact .root h _
 | step _ hy hz ih=>exact .step ih hy hz
theorem AvN.mono{z k m x:Nat}(h:AvN S r z k x)(hm:k<=m):AvN S r z m x:=by
 obtain⟨d,rfl⟩:=Nat.exists_eq_add_of_le hm;clear hm
 induction d with
 | zero=>exact h
 | succ d ih=>exact ih.up
theorem Av.avn{z x:Nat}(h:Av S r z x):∃ k,AvN S r z k x:=by
 induction h with
 | root h=>exact⟨0,.root h 0⟩
 | step _ hy hz ih=>obtain⟨k,hk⟩:=ih;exact⟨k+1,.step hk hy hz⟩
theorem AvN.via {z k x : Nat} (h : AvN S r z k x) (y : Nat) : AvN S r y k x ∨ AvN S r z k y := by
  induction h with
  | root h k => by_cases hy : r = y
                · subst hy; exact .inr (.root h _)
                · exact .inl (.root hy _)
  | @step k x w h hy hz ih =>
    rcases ih with h1 | h1
    · by_cases hw : w = y
      · subst hw; exact .inr (.step h hy hz)
      · exact .inl (.step h1 hy hw)
    · exact .inr h1.up
theorem VY(n:Nat):∃ K,∀ z,z<n->∀ x,x<n->Av S r z x->AvN S r z K x:=by
 have one:∀ z m,∃ K,∀ x,x<m->Av S r z x->AvN S r z K x:=by
  intro z m
  induction m with
  | zero=>exact⟨0,λx hx=>absurd hx (Mi x)⟩
  | succ m ih=>
   obtain⟨K,hK⟩:=ih
   by_cases h:Av S r z m
   ·obtain⟨k,hk⟩:=h.avn;refine⟨max K k,λx hx ha=>?_⟩;rcases zzL118.1 hx with h1|rfl
    ·exact(hK x h1 ha).mono (Nat.le_max_left ..)
    ·exact hk.mono (Nat.le_max_right ..)
   ·refine⟨K,λx hx ha=>?_⟩;rcases zzL118.1 hx with h1|rfl
    ·exact hK x h1 ha
    ·exact absurd ha h
 have two:∀ m,∃ K,∀ z,z<m->∀ x,x<n->Av S r z x->AvN S r z K x:=by
  intro m
  induction m with
  | zero=>exact⟨0,λx hx=>absurd hx (Mi x)⟩
  | succ m ih=>
   obtain⟨K,hK⟩:=ih;obtain⟨k,hk⟩:=one m n;refine⟨max K k,λz hz x hx ha=>?_⟩;rcases zzL118.1 hz with h1|rfl
   ·exact(hK z h1 x hx ha).mono (Nat.le_max_left ..)
   ·exact(hk x hx ha).mono (Nat.le_max_right ..)
 exact two n
end
inductive UpTo (par:Nat->Int):Nat->Nat->Prop
 | refl (x:Nat):UpTo par x x
 | up {x y z:Nat} (h:par x=(y:Int)) (t:UpTo par y z):UpTo par x z
inductive Fw (S:Nat->List Nat) (at_:Nat->Nat) (u:Nat):Nat->Prop
 | refl:Fw S at_ u u
 | step {v w:Nat} (h:Fw S at_ u v) (hw:w∈S v) (hl:at_ v<at_ w):Fw S at_ u w
section
variable {S:Nat->List Nat} {at_:Nat->Nat} {par:Nat->Int}
theorem Fw.le{u w:Nat}(h:Fw S at_ u w):at_ u<=at_ w:=by
 induction h with
 | refl=>exact zzL8 _
 | step _ _ hl ih=>omega
theorem Fw.trans{u v w:Nat}(h:Fw S at_ u v)(k:Fw S at_ v w):Fw S at_ u w:=by
 induction k with
 | refl=>exact h
 | step _ hw hl ih=>exact .step ih hw hl
theorem Fw.av{r d u w:Nat}(h:Fw S at_ u w)(ha:Av S r d u)(hd:at_ d<at_ u):Av S r d w:=by
 induction h with
 | refl=>exact ha
 | @step v w h hw hl ih=>exact .step ih hw (by rintro rfl;have:=h.le;omega)
theorem UpTo.trans{x y z:Nat}(h:UpTo par x y)(k:UpTo par y z):UpTo par x z:=by
 induction h with
 | refl x=>exact k
 | up h _ ih=>exact .up h (ih k)
theorem anc_up{x p z:Nat}(h:par x=(p:Int)):UpTo par x z↔z=x\/UpTo par p z:=by
 constructor
 ·intro k
  cases k with
  | refl=>exact .inl rfl
  | up h' t=>rw[h]at h';cases U0 h';exact .inr t
 ·rintro(rfl|k)
  ·exact .refl _
  ·exact .up h k
theorem AR{x z:Nat}(h:∀ p:Nat,par x≠(p:Int)):UpTo par x z↔z=x:=by
 constructor
 ·intro k
  cases k with
  | refl=>rfl
  | up h' t=>exact absurd h' (h _)
 ·rintro rfl;exact .refl _
structure Inv(S:Nat->List Nat)(r n:Nat)(at_:Nat->Nat)(par:Nat->Int):Prop where
 top:par r = -1
 kind:∀ x,x<n->par x = -2\/x=r\/∃ z:Nat,par x=(z:Int)
 up:∀ x,x<n->∀ z:Nat,par x=(z:Int)->z<n/\par z≠-2/\at_ z<at_ x/\Fw S at_ z x
 rc:∀ x,x<n->par x≠-2->Rc S r x
 all:∀ x,x<n->par x≠-2->∀ d,¬ UpTo par x d->Av S r d x
end
section
variable {S:Nat->List Nat} {at_:Nat->Nat} {par:Nat->Int} {r n:Nat}
theorem Inv.anc(h:Inv S r n at_ par){x z:Nat}(k:UpTo par x z)(hx:x<n)(hp:par x≠-2):z<n/\par z≠-2/\at_ z<=at_ x/\Fw S at_ z x:=by
 induction k with
 | refl x=>exact⟨hx,hp,zzL8 _,.refl⟩
 | @up x y z hxy t ih=>
  obtain⟨h1,h2,h3,h4⟩:=h.up x hx y hxy;obtain⟨i1,i2,i3,i4⟩:=ih h1 h2;exact⟨i1,i2,by omega,i4.trans h4⟩
theorem Inv.root_anc(h:Inv S r n at_ par){z:Nat}:UpTo par r z↔z=r:=AR λp hp=>by rw[h.top]at hp;omega
theorem Inv.strict(h:Inv S r n at_ par){x z:Nat}(k:UpTo par x z)(hx:x<n)(hp:par x≠-2):z=x\/at_ z<at_ x:=by
 cases k with
 | refl=>exact .inl rfl
 | up hxy t=>
  obtain⟨h1,h2,h3,h4⟩:=h.up x hx _ hxy;obtain⟨i1,i2,i3,i4⟩:=h.anc t h1 h2;exact .inr (by omega)
theorem Inv.antisymm(h:Inv S r n at_ par){x z:Nat}(k:UpTo par x z)(m:UpTo par z x)(hx:x<n)(hp:par x≠-2):z=x:=by
 rcases h.strict k hx hp with rfl|h1
 ·rfl
 ·obtain⟨i1,i2,i3,i4⟩:=h.anc k hx hp;have:=(h.anc m i1 i2).2.2.1;omega
def MeetAt(par:Nat->Int)(a b m:Nat):Prop:=∀ w,UpTo par m w↔UpTo par a w/\UpTo par b w
theorem HB{a:Nat}:MeetAt par a a a:=λw=>by simp
theorem XD{a b m:Nat}(h:MeetAt par a b m):MeetAt par b a m:=λw=>by rw[h w];exact And.comm
theorem Inv.meet_left(h:Inv S r n at_ par)(hinj:∀ x y,x<n->y<n->par x≠-2->par y≠-2->at_ x=at_ y->x=y){a b p m:Nat}(ha:a<n)(hpa:par a≠-2)(hb:b<n)(hpb:par b≠-2)(hab:a≠b)(hl:at_ b<=at_ a)(hp:par a=(p:Int))(k:MeetAt par p b m):MeetAt par a b m:=λw=>by
 rw[k w]
 constructor
 ·rintro⟨h1,h2⟩;exact⟨.up hp h1,h2⟩
 ·rintro⟨h1,h2⟩;rcases(anc_up hp).1 h1 with rfl|h1
  ·exfalso
   rcases h.strict h2 hb hpb with h3|h3
   ·exact hab h3
   ·omega
  ·exact⟨h1,h2⟩
end
section
variable {S:Nat->List Nat} {at_:Nat->Nat} {par:Nat->Int} {r n:Nat}
def Kv(par:Nat->Int)(y:Nat)(v:Int):Nat->Int:=λx=>if x=y then v else par x
def PX(S:Nat->List Nat)(n:Nat)(par:Nat->Int)(y z:Nat):Prop:=∀ w,UpTo par z w↔∀ p,p<n->y∈S p->par p≠-2->UpTo par p w
theorem Y3{y:Nat}{v:Int}{x z:Nat}(k:UpTo par x z)(hy:¬ UpTo par x y):UpTo (Kv par y v) x z:=by
 induction k with
 | refl x=>exact .refl _
 | @up x q z h t ih=>
  have hxy:x≠y:=by rintro rfl;exact hy (.refl _)
  refine .up (y:=q) ?_ (ih λk=>hy (.up h k));unfold Kv;rw[if_neg hxy];exact h
theorem LO{y:Nat}{v:Int}{x:Nat}(k:UpTo par x y):UpTo (Kv par y v) x y:=by
 induction k with
 | refl x=>exact .refl _
 | @up x q z h t ih=>
  by_cases hxy:x=z
  ·subst hxy;exact .refl _
  ·refine .up (y:=q) ?_ ih;unfold Kv;rw[if_neg hxy];exact h
theorem anc_upd_inv{y:Nat}{v:Int}{x w:Nat}(k:UpTo (Kv par y v) x w):UpTo par x w\/(UpTo par x y/\UpTo (Kv par y v) y w):=by
 induction k with
 | refl x=>exact .inl (.refl _)
 | @up x q w h t ih=>
  by_cases hxy:x=y
  ·subst hxy;exact .inr ⟨.refl _,.up h t⟩
  ·unfold Kv at h;rw[if_neg hxy]at h;rcases ih with h1|⟨h1,h2⟩
   ·exact .inl (.up h h1)
   ·exact .inr ⟨.up h h1,h2⟩
theorem low_or{y:Nat}{v:Int}{x d:Nat}(k:UpTo par x y)(hd:UpTo par x d):UpTo par y d\/UpTo (Kv par y v) x d:=by
 induction k with
 | refl x=>exact .inl hd
 | @up x q y hq t ih=>
  by_cases e:x=y
  ·subst e;exact .inl hd
  ·rcases(anc_up hq).1 hd with rfl|k
   ·exact .inr (.refl _)
   ·rcases ih k with h1|h1
    ·exact .inl h1
    ·exact .inr (.up (y:=q) (by unfold Kv;rw[if_neg e];exact hq) h1)
structure Better(S:Nat->List Nat)(r n:Nat)(at_:Nat->Nat)(par:Nat->Int)(y z:Nat):Prop where
 inv:Inv S r n at_ par
 hy:y<n
 hr:y≠r
 hz:z<n
 best:PX S n par y z
 fwd:∃ p,p<n/\y∈S p/\par p≠-2/\at_ p<at_ y
variable {y z:Nat}
theorem Better.zlt(h:Better S r n at_ par y z):UpTo par z z/\par z≠-2/\at_ z<at_ y/\Fw S at_ z y:=by
 obtain⟨p,hp,hyp,hpp,hl⟩:=h.fwd;obtain⟨h1,h2,h3,h4⟩:=h.inv.anc ((h.best z).1 (.refl _) p hp hyp hpp) hp hpp;exact⟨.refl _,h2,by omega,.step h4 hyp hl⟩
theorem Better.above(h:Better S r n at_ par y z){w:Nat}:UpTo (Kv par y z) z w↔UpTo par z w:=by
 obtain⟨_,h2,h3,_⟩:=h.zlt
 have hn:¬ UpTo par z y:=λk=>by have:=(h.inv.anc k h.hz h2).2.2.1;omega
 constructor
 ·intro k;rcases anc_upd_inv k with h1|⟨h1,_⟩
  ·exact h1
  ·exact absurd h1 hn
 ·intro k;exact Y3 k hn
theorem Better.here(h:Better S r n at_ par y z){w:Nat}:UpTo (Kv par y z) y w↔w=y\/UpTo par z w:=by
 rw[anc_up (p:=z) (by simp[Kv]),h.above]
theorem Better.av_here(h:Better S r n at_ par y z){d:Nat}(hd:¬ UpTo (Kv par y z) y d):Av S r d y:=by
 rw[h.here]at hd;have h1:¬ ∀ p,p<n->y∈S p->par p≠-2->UpTo par p d:=λhh=>hd (.inr ((h.best d).2 hh));simp only[Classical.not_forall]at h1;obtain⟨p,hp,hyp,hpp,hnp⟩:=h1;exact .step (h.inv.all p hp hpp d hnp) hyp λe=>hd (.inl e.symm)
theorem Better.inv'(h:Better S r n at_ par y z):Inv S r n at_ (Kv par y z):=by
 obtain⟨hzz,hz2,hzl,hzf⟩:=h.zlt;obtain⟨p,hp,hyp,hpp,hl⟩:=h.fwd
 have hne:∀ x,Kv par y z x≠-2->x=y\/par x≠-2:=λx hx=>by
  by_cases e:x=y
  ·exact .inl e
  ·unfold Kv at hx;rw[if_neg e]at hx;exact .inr hx
 have hyv:Kv par y z y=(z:Int):=by simp[Kv]
 have hyo:∀ x,x≠y->Kv par y z x=par x:=λx e=>by unfold Kv;rw[if_neg e]
 refine⟨by rw[hyo _ (Ha h.hr)];exact h.inv.top,λx hx=>?_,λx hx w hw=>?_,λx hx hxp=>?_,λx hx hxp d hd=>?_⟩
 ·by_cases e:x=y
  ·subst e;exact .inr (.inr ⟨z,hyv⟩)
  ·rw[hyo x e];exact h.inv.kind x hx
 ·have hzn:∀ w,par w≠-2->Kv par y z w≠-2:=λw hw=>by
   by_cases e:w=y
   ·subst e;rw[hyv];omega
   ·rw[hyo w e];exact hw
  by_cases e:x=y
  ·subst e;rw[hyv]at hw
   cases U0 hw
   exact⟨h.hz,hzn _ hz2,hzl,hzf⟩
  ·rw[hyo x e]at hw;obtain⟨h1,h2,h3,h4⟩:=h.inv.up x hx w hw;exact⟨h1,hzn _ h2,h3,h4⟩
 ·rcases hne x hxp with rfl|h1
  ·exact .step (h.inv.rc p hp hpp) hyp
  ·exact h.inv.rc x hx h1
 ·by_cases e:x=y
  ·subst e;exact h.av_here hd
  ·rw[hyo x e]at hxp
   by_cases hxd:UpTo par x d
   ·
    by_cases hxy:UpTo par x y
    ·have hyd:¬ UpTo (Kv par y z) y d:=λk=>hd ((LO hxy).trans k);have hav:=h.av_here hyd;have hf:=(h.inv.anc hxy hx hxp).2.2.2
     have hdy:UpTo par y d:=by
      rcases low_or (v:=(z:Int)) hxy hxd with h1|h1
      ·exact h1
      ·exact absurd h1 hd
     by_cases hpy:par y = -2
     ·
      have:d=y:=by
       refine(AR (par:=par) λp hp=>?_).1 hdy;rw[hpy]at hp;omega
      subst this;exact absurd (.refl _) hyd
     ·rcases h.inv.strict hdy h.hy hpy with rfl|hlt
      ·exact absurd (.refl _) hyd
      ·exact hf.av hav hlt
    ·exact absurd (Y3 hxd hxy) hd
   ·exact h.inv.all x hx hxp d hxd
end
section
variable {S:Nat->List Nat} {at_:Nat->Nat} {par:Nat->Int} {r n:Nat}
def QB(S:Nat->List Nat)(r n:Nat)(par:Nat->Int)(b:Nat->Nat):Prop:=∀ x,x<n->par x≠-2->∀ z,AvN S r z (b x) x->¬ UpTo par x z
def PY(S:Nat->List Nat)(r n:Nat)(par:Nat->Int):Prop:=∀ x,x<n->Rc S r x->par x≠-2
def TJ(S:Nat->List Nat)(r n:Nat)(par:Nat->Int):Prop:=∀ x,x<n->par x≠-2->∀ d,UpTo par x d↔¬ Av S r d x
theorem fW(h:Inv S r n at_ par):QB S r n par λ_=>0:=λx hx hp z hz k=>by
 cases hz with
 | root hr _=>exact hr (h.root_anc.1 k).symm
theorem US(hS:∀ x,x<n->∀ w∈S x,w<n)(hr:r<n){x:Nat}(h:Rc S r x):x<n:=by
 induction h with
 | root=>exact hr
 | step _ hy ih=>exact hS _ ih _ hy
theorem Better.qb{y z k:Nat}{b:Nat->Nat}(h:Better S r n at_ par y z)(hS:∀ x,x<n->∀ w∈S x,w<n)(hrn:r<n)(full:PY S r n par)(hb:∀ x,x<n->k<=b x/\b x<=k+1)(q:QB S r n par b) :
  QB S r n (Kv par y z) λx=>if x=y then k+1 else b x:=by
 have here:∀ w,AvN S r w (k+1) y->¬ UpTo (Kv par y z) y w:=λw hw hu=>by
  rcases h.here.1 hu with rfl|hu
  ·exact hw.av.ne rfl
  ·cases hw with
   | root hr _=>exact h.hr rfl
   | @step _ p _ hp hyp hne=>
    have hpn:=US hS hrn hp.av.rc;have hpp:=full p hpn hp.av.rc;exact q p hpn hpp w (hp.mono (hb p hpn).1) ((h.best w).1 hu p hpn hyp hpp)
 intro x hx hxp w hw hu
 dsimp only at hw
 by_cases e:x=y
 ·subst e;rw[if_pos rfl]at hw;exact here w hw hu
 ·rw[if_neg e]at hw;unfold Kv at hxp;rw[if_neg e]at hxp;rcases anc_upd_inv hu with h1|⟨h1,h2⟩
  ·exact q x hx hxp w hw h1
  ·rcases hw.via y with h3|h3
   ·exact q x hx hxp y h3 h1
   ·exact here w (h3.mono (hb x hx).2) h2
theorem bI(h:Inv S r n at_ par){K:Nat}(hK:∀ z,z<n->∀ x,x<n->Av S r z x->AvN S r z K x)(q:QB S r n par λ_=>K):TJ S r n par:=λx hx hp d=>by
 constructor
 ·intro hu ha;exact q x hx hp d (hK d (h.anc hu hx hp).1 x hx ha) hu
 ·intro ha;exact PC λhn=>ha (h.all x hx hp d hn)
theorem Better.same{y z:Nat}(h:Better S r n at_ par y z)(hS:∀ x,x<n->∀ w∈S x,w<n)(hrn:r<n)(full:PY S r n par)(hy2:par y≠-2)(ex:TJ S r n par):par y=(z:Int):=by
 obtain⟨hzz,hz2,hzl,hzf⟩:=h.zlt;rcases h.inv.kind y h.hy with h1|h1|⟨q,hq⟩
 ·exact absurd h1 hy2
 ·exact absurd h1 h.hr
 ·obtain⟨q1,q2,q3,q4⟩:=h.inv.up y h.hy q hq
  have key:∀ w,UpTo par z w↔UpTo par q w:=λw=>by
   rw[h.best w]
   constructor
   ·intro hall
    have hwy:¬ Av S r w y:=λha=>by
     cases ha with
     | root _=>exact h.hr rfl
     | @step p _ hp hyp hne=>
      have hpn:=US hS hrn hp.rc;have hpp:=full p hpn hp.rc;exact(ex p hpn hpp w).1 (hall p hpn hyp hpp) hp
    rcases(anc_up hq).1 ((ex y h.hy hy2 w).2 hwy) with rfl|hu
    ·have:=(h.inv.anc ((h.best _).2 hall) h.hz hz2).2.2.1;omega
    ·exact hu
   ·intro hu p hp hyp hpp;have hwy:UpTo par y w:=.up hq hu;refine(ex p hp hpp w).2 λha=>?_
    have hne:y≠w:=by rintro rfl;have:=(h.inv.anc hu q1 q2).2.2.1;omega
    exact(ex y h.hy hy2 w).1 hwy (.step ha hyp hne)
  have:=h.inv.antisymm ((key q).2 (.refl _)) ((key z).1 (.refl _)) h.hz hz2;rw[hq,this]
theorem WP(h:Inv S r n at_ par)(hS:∀ x,x<n->∀ w∈S x,w<n)(hrn:r<n)(full:PY S r n par)(fix:∀ y,y<n->y≠r->Rc S r y->∃ z:Nat,par y=(z:Int)/\PX S n par y z):TJ S r n par:=λx hx hp d=>by
 constructor
 ·intro hu ha
  induction ha with
  | root hne=>exact hne (h.root_anc.1 hu).symm
  | @step p y hp' hyp hne ih=>
   have hpn:=US hS hrn hp'.rc;have hpp:=full p hpn hp'.rc
   by_cases e:y=r
   ·subst e;exact hne (h.root_anc.1 hu).symm
   ·obtain⟨z,hz,hb⟩:=fix y hx e (.step hp'.rc hyp);rcases(anc_up hz).1 hu with rfl|hu
    ·exact hne rfl
    ·exact ih hpn hpp ((hb d).1 hu p hpn hyp hpp)
 ·intro ha;exact PC λhn=>ha (h.all x hx hp d hn)
end
def Bc(t:List Int):Nat->Int:=λx=>t.getD x 0
theorem NX{t:List Int}{y:Nat}{v:Int}(hy:y<t.length):Bc (t.set y v)=Kv (Bc t) y v:=by
 funext x
 unfold Bc Kv
 by_cases e:x=y
 ·subst e;simp[List.getD,hy]
 ·simp[List.getD,e,Ha e]
open Classical in
def Jo(S:Nat->List Nat)(n:Nat)(t:List Int)(y:Nat):Nat:=if h:∃ z,z<n/\PX S n (Bc t) y z then Classical.choose h else 0
def Rw(S:Nat->List Nat)(n:Nat)(P:List Nat)(t:List Int):Nat->List Int
 | 0=>t
 | i+1=>(Rw S n P t i).set (P.getD i 0) (Jo S n (Rw S n P t i) (P.getD i 0):Int)
def BK(S:Nat->List Nat)(n:Nat)(P:List Nat)(t:List Int):Nat->List Int
 | 0=>t
 | j+1=>Rw S n P (BK S n P t j) P.length
def El(n r:Nat):List Int:=(List.replicate n (-2:Int)).set r (-1)
structure Ordered(S:Nat->List Nat)(r n:Nat)(P:List Nat):Prop where
 hr:r<n
 hS:∀ x,x<n->∀ w∈S x,w<n
 nodup:(r::P).Nodup
 mem:∀ x,x∈r::P↔Rc S r x
 fwd:∀ i,i<P.length->∃ p,p∈r::P.take i/\P.getD i 0∈S p
section
variable {S:Nat->List Nat} {r n:Nat} {P:List Nat}
theorem Ordered.lt(o:Ordered S r n P){x:Nat}(h:x∈r::P):x<n:=US o.hS o.hr ((o.mem x).1 h)
theorem Mw{i:Nat}(hi:i<P.length):P.getD i 0∈P:=by rw[Aa _ _ _ hi];exact Xi hi
theorem Ordered.at_lt(o:Ordered S r n P){i:Nat}(hi:i<P.length){p:Nat}(hp:p∈r::P.take i):pos (r::P) p<pos (r::P) (P.getD i 0):=by
 have hd:=o.nodup
 have h1:pos (r::P) (P.getD i 0)=i+1:=by
  have:=(BH hd (i:=i+1) (by simpa using hi)).2;rw[Aa _ _ _ hi]
  simpa using this
 rw[h1];obtain⟨j,hj,rfl⟩:=K4 hp
 have hj':j<i+1:=by simp at hj;omega
 have hjl:j<(r::P).length:=by simp;omega
 have e:(r::P.take i)[j]=(r::P)[j]:=by
  cases j with
  | zero=>rfl
  | succ j=>simp
 rw[e,(BH hd hjl).2];exact hj'
theorem lr(o:Ordered S r n P):Inv S r n (pos (r::P)) (Bc (El n r))/\(El n r).length=n/\Bc (El n r) r≠-2:=by
 have hlen:(El n r).length=n:=by simp[El]
 have hr:=o.hr
 have at_:∀ x,x<n->Bc (El n r) x=if x=r then -1 else -2:=λx hx=>by
  unfold Bc El
  by_cases e:x=r
  ·subst e;simp[List.getD,hx]
  ·simp[List.getD,hx,e,Ha e]
 have hno:∀ x,x<n->∀ p:Nat,Bc (El n r) x≠(p:Int):=λx hx p hp=>by rw[at_ x hx]at hp;split at hp<;>omega
 refine⟨⟨by rw[at_ r hr,if_pos rfl],λx hx=>?_,λx hx z hz=>absurd hz (hno x hx z),λx hx hp=>?_,λx hx hp d hd=>?_⟩,hlen,by rw[at_ r hr,if_pos rfl];omega⟩
 ·by_cases e:x=r
  ·exact .inr (.inl e)
  ·exact .inl (by rw[at_ x hx,if_neg e])
 ·by_cases e:x=r
  ·subst e;exact .root
  ·exact absurd (by rw[at_ x hx,if_neg e]) hp
 ·by_cases e:x=r
  ·subst e;exact .root (λe=>hd (by rw[e];exact .refl _))
  ·exact absurd (by rw[at_ x hx,if_neg e]) hp
structure Ready(S:Nat->List Nat)(r n:Nat)(P:List Nat)(t:List Int)(i:Nat):Prop where
 inv:Inv S r n (pos (r::P)) (Bc t)
 len:t.length=n
 done:∀ x∈r::P.take i,Bc t x≠-2
theorem Inv.meets{at_:Nat->Nat}{par:Nat->Int}(h:Inv S r n at_ par)(hinj:∀ x y,x<n->y<n->par x≠-2->par y≠-2->at_ x=at_ y->x=y)(hr:at_ r=0):∀ m a b,at_ a+at_ b<=m->a<n->b<n->par a≠-2->par b≠-2->∃ c,MeetAt par a b c/\c<n/\par c≠-2:=by
 intro m
 induction m with
 | zero=>
  intro a b hm ha hb hpa hpb;have:a=b:=hinj a b ha hb hpa hpb (by omega);subst this;exact⟨a,HB,ha,hpa⟩
 | succ m ih=>
  have go:∀ a b,at_ a+at_ b<=m+1->a<n->b<n->par a≠-2->par b≠-2->at_ b<=at_ a->∃ c,MeetAt par a b c/\c<n/\par c≠-2:=λa b hm ha hb hpa hpb hl=>by
   by_cases e:a=b
   ·subst e;exact⟨a,HB,ha,hpa⟩
   ·rcases h.kind a ha with h1|h1|⟨p,hp⟩
    ·exact absurd h1 hpa
    ·subst h1;exact absurd (hinj a b ha hb hpa hpb (by omega)) e
    ·obtain⟨p1,p2,p3,p4⟩:=h.up a ha p hp;obtain⟨c,hc,hc2⟩:=ih p b (by omega) p1 hb p2 hpb;exact⟨c,h.meet_left hinj ha hpa hb hpb e hl hp hc,hc2⟩
  intro a b hm ha hb hpa hpb;rcases Nat.le_total (at_ b) (at_ a) with hl|hl
  ·exact go a b hm ha hb hpa hpb hl
  ·obtain⟨c,hc,hc2⟩:=go b a (by omega) hb ha hpb hpa hl;exact⟨c,XD hc,hc2⟩
theorem Ready.inj(o:Ordered S r n P){t:List Int}{i:Nat}(h:Ready S r n P t i):∀ x y,x<n->y<n->Bc t x≠-2->Bc t y≠-2->pos (r::P) x=pos (r::P) y->x=y:=λx y hx hy hpx hpy he=>by
 have hm:∀ x,x<n->Bc t x≠-2->x∈r::P:=λx hx hp=>(o.mem x).2 (h.inv.rc x hx hp)
 have back:∀ x∈r::P,(r::P).getD (pos (r::P) x) 0=x:=λx hx=>by
  obtain⟨j,hj,rfl⟩:=K4 hx;rw[(BH o.nodup hj).2,Aa _ _ _ hj]
 rw[<- back x (hm x hx hpx),<- back y (hm y hy hpy),he]
theorem OA:pos (r::P) r=0:=by rw[DS,if_pos rfl]
theorem Ready.meetAll(o:Ordered S r n P){t:List Int}{i:Nat}(h:Ready S r n P t i):∀ l:List Nat,(∀ p∈l,p<n/\Bc t p≠-2)->l≠[]->∃ z,z<n/\Bc t z≠-2/\∀ w,UpTo (Bc t) z w↔∀ p∈l,UpTo (Bc t) p w:=by
 intro l
 induction l with
 | nil=>intro _ hn;exact absurd rfl hn
 | cons p l ih=>
  intro hl _;obtain⟨hp1,hp2⟩:=hl p (Io ..)
  by_cases hl0:l=[]
  ·subst hl0;exact⟨p,hp1,hp2,λw=>by simp⟩
  ·obtain⟨z,hz1,hz2,hz3⟩:=ih (λq hq=>hl q (Em _ hq)) hl0;obtain⟨c,hc1,hc2,hc3⟩:=h.inv.meets (h.inj o) OA _ p z (zzL8 _) hp1 hz1 hp2 hz2;exact⟨c,hc2,hc3,λw=>by rw[hc1 w,hz3 w];simp⟩
theorem Ready.best(o:Ordered S r n P){t:List Int}{i:Nat}(h:Ready S r n P t i)(hi:i<P.length):Better S r n (pos (r::P)) (Bc t) (P.getD i 0) (Jo S n t (P.getD i 0)):=by
 have hy:=Mw hi;have hyr:P.getD i 0≠r:=λe=>(zzL74.1 o.nodup).1 (e▸hy);have hyn:=o.lt (Em _ hy);obtain⟨p,hp,hyp⟩:=o.fwd i hi;have hp2:=h.done p hp
 have hpP:p∈r::P:=by
  rcases zzL23.1 hp with rfl|hp
  ·exact Io ..
  ·exact Em _ (List.mem_of_mem_take hp)
 have hpn:=o.lt hpP
 have hex:∃ z,z<n/\PX S n (Bc t) (P.getD i 0) z:=by
  classical
  obtain⟨z,hz1,hz2,hz3⟩:=h.meetAll o ((List.range n).filter λp=>decide (P.getD i 0∈S p/\Bc t p≠-2)) (λp hp=>by
   obtain⟨h1,h2⟩:=zzL63.1 hp
   exact⟨zzL34.1 h1,(Xg h2).2⟩) (λe=>by
   have:p∈(List.range n).filter λp=>decide (P.getD i 0∈S p/\Bc t p≠-2):=zzL63.2 ⟨zzL34.2 hpn,Fy ⟨hyp,hp2⟩⟩
   rw[e]at this;cases this)
  refine⟨z,hz1,λw=>?_⟩;rw[hz3 w]
  constructor
  ·intro k p hp hyp hpp;exact k p (zzL63.2 ⟨zzL34.2 hp,Fy ⟨hyp,hpp⟩⟩)
  ·intro k p hp;obtain⟨h1,h2⟩:=zzL63.1 hp;exact k p (zzL34.1 h1) (Xg h2).1 (Xg h2).2
 have hb:Jo S n t (P.getD i 0)<n/\PX S n (Bc t) (P.getD i 0) (Jo S n t (P.getD i 0)):=by
  unfold Jo;rw[dif_pos hex];exact Classical.choose_spec hex
 exact⟨h.inv,hyn,hyr,hb.1,hb.2,p,hpn,hyp,hp2,o.at_lt hi hp⟩
theorem Ready.best_eq(o:Ordered S r n P){t:List Int}{i:Nat}(h:Ready S r n P t i)(hi:i<P.length){z:Nat}(hz:z<n)(hz2:Bc t z≠-2)(hb:PX S n (Bc t) (P.getD i 0) z):z=Jo S n t (P.getD i 0):=by
 have b:=h.best o hi;exact(h.inv.antisymm ((hb _).2 ((b.best _).1 (.refl _))) ((b.best _).2 ((hb _).1 (.refl _))) hz hz2).symm
theorem Ready.next(o:Ordered S r n P){t:List Int}{i:Nat}(h:Ready S r n P t i)(hi:i<P.length):Ready S r n P (t.set (P.getD i 0) (Jo S n t (P.getD i 0):Int)) (i+1):=by
 have b:=h.best o hi;have e:=NX (t:=t) (y:=P.getD i 0) (v:=(Jo S n t (P.getD i 0):Int)) (by rw[h.len];exact b.hy);refine⟨by rw[e];exact b.inv',by rw[Hv];exact h.len,λx hx=>?_⟩;rw[e];unfold Kv
 split
 ·omega
 ·rename_i hne
  refine h.done x ?_;rcases zzL23.1 hx with rfl|hx
  ·exact Io ..
  ·rw[TA hi]at hx;rcases zzL11.1 hx with hx|hx
   ·exact Em _ hx
   ·rw[zzL14,<- Aa _ _ 0 hi]at hx;exact absurd hx hne
theorem Ready.more(o:Ordered S r n P){t:List Int}(h:Ready S r n P t P.length)(i:Nat):Ready S r n P t i:=
 ⟨h.inv,h.len,λx hx=>h.done x (by
  rw[Vs];rcases zzL23.1 hx with rfl|hx
  ·exact Io ..
  ·exact Em _ (List.mem_of_mem_take hx))⟩
theorem Ready.full(o:Ordered S r n P){t:List Int}(h:Ready S r n P t P.length):PY S r n (Bc t):=λx hx hr=>h.done x (by rw[Vs];exact(o.mem x).2 hr)
theorem Ready.round(o:Ordered S r n P){t:List Int}(h:Ready S r n P t 0):∀ i,i<=P.length->Ready S r n P (Rw S n P t i) i:=by
 intro i
 induction i with
 | zero=>intro _;exact h
 | succ i ih=>intro hi;exact(ih (by omega)).next o (by omega)
theorem jC(o:Ordered S r n P):Ready S r n P (El n r) 0:=by
 obtain⟨h1,h2,h3⟩:=lr o;exact⟨h1,h2,λx hx=>by simp at hx;subst hx;exact h3⟩
theorem Ready.rounds(o:Ordered S r n P):∀ j,Ready S r n P (BK S n P (El n r) j) 0:=by
 intro j
 induction j with
 | zero=>exact jC o
 | succ j ih=>exact((ih.round o) P.length (zzL8 _)).more o 0
theorem Ready.rounds'(o:Ordered S r n P)(j:Nat):Ready S r n P (BK S n P (El n r) (j+1)) P.length:=(Ready.rounds o j).round o P.length (zzL8 _)
theorem cN(o:Ordered S r n P){t:List Int}{k:Nat}(h:Ready S r n P t P.length)(q:QB S r n (Bc t) λ_=>k):QB S r n (Bc (Rw S n P t P.length)) λ_=>k+1:=by
 have key:∀ i,i<=P.length->QB S r n (Bc (Rw S n P t i)) (λx=>if x∈P.take i then k+1 else k)/\PY S r n (Bc (Rw S n P t i)):=by
  intro i
  induction i with
  | zero=>intro _;exact⟨by simpa [Rw] using q,h.full o⟩
  | succ i ih=>
   intro hi;obtain⟨q1,f1⟩:=ih (by omega);have rd:=(h.more o 0).round o i (by omega);have b:=rd.best o (by omega);have e:=NX (t:=Rw S n P t i) (y:=P.getD i 0) (v:=(Jo S n (Rw S n P t i) (P.getD i 0):Int)) (by rw[rd.len];exact b.hy)
   constructor
   ·show QB S r n (Bc ((Rw S n P t i).set _ _)) _
    rw[e];have:=b.qb (k:=k) o.hS o.hr f1 (λx _=>by split<;>omega) q1;intro x hx hp z hz;refine this x hx hp z ?_
    dsimp only at hz ⊢
    rw[TA (by omega:i<P.length)]at hz
    by_cases e1:x=P.getD i 0
    ·rw[if_pos e1];rwa[if_pos (zzL11.2 (.inr (zzL14.2 (by rw[e1,Aa _ _ _ (by omega:i<P.length)]))))]at hz
    ·rw[if_neg e1]
     by_cases e2:x∈P.take i
     ·rw[if_pos e2];rwa[if_pos (zzL11.2 (.inl e2))]at hz
     ·rw[if_neg e2]
      rwa[if_neg (λhm=>by
       rcases zzL11.1 hm with hm|hm
       ·exact e2 hm
       ·rw[zzL14,<- Aa _ _ 0 (by omega:i<P.length)]at hm;exact e1 hm)]at hz
   ·show PY S r n (Bc ((Rw S n P t i).set _ _))
    rw[e];intro x hx hr;unfold Kv
    split
    ·omega
    ·exact f1 x hx hr
 have q1:=(key P.length (zzL8 _)).1;rw[Vs]at q1;have rd:=(h.more o 0).round o P.length (zzL8 _);intro x hx hp z hz;refine q1 x hx hp z ?_
 dsimp only at hz ⊢
 by_cases e:x∈P
 ·rw[if_pos e];exact hz
 ·rw[if_neg e]
  have hxr:x=r:=by
   rcases zzL23.1 ((o.mem x).2 (rd.inv.rc x hx hp)) with h1|h1
   ·exact h1
   ·exact absurd h1 e
  subst hxr;exact .root hz.av.ne k
def Qz(S:Nat->List Nat)(n:Nat)(P:List Nat)(t:List Int):Prop:=∀ i,i<P.length->Bc t (P.getD i 0)=(Jo S n t (P.getD i 0):Int)
theorem S2{t:List Int}(o:Ordered S r n P)(hl:t.length=n)(h:Qz S n P t):∀ i,i<=P.length->Rw S n P t i=t:=by
 intro i
 induction i with
 | zero=>intro _;rfl
 | succ i ih=>
  intro hi;unfold Rw;rw[ih (by omega),<- h i (by omega)]
  have hlt:P.getD i 0<t.length:=by rw[hl];exact o.lt (Em _ (Mw (by omega)))
  unfold Bc;rw[Aa _ _ _ hlt];exact List.set_getElem_self hlt
theorem gz(o:Ordered S r n P):∃ J,(∀ j,j<J->¬ Qz S n P (BK S n P (El n r) j))/\Qz S n P (BK S n P (El n r) J):=by
 obtain⟨K,hK⟩:=VY (S:=S) (r:=r) n
 have hq:∀ k,QB S r n (Bc (BK S n P (El n r) (k+1))) λ_=>k:=by
  intro k
  induction k with
  | zero=>exact fW (Ready.rounds' o 0).inv
  | succ k ih=>exact cN o (Ready.rounds' o k) ih
 have hst:Qz S n P (BK S n P (El n r) (K+1)):=λi hi=>by
  have rd:=Ready.rounds' o K;exact((rd.more o i).best o hi).same o.hS o.hr (rd.full o) (rd.done _ (Em _ (by rw[Vs];exact Mw hi))) (bI rd.inv hK (hq K))
 have key:∀ m,(∃ J,J<=m/\Qz S n P (BK S n P (El n r) J))->∃ J,(∀ j,j<J->¬ Qz S n P (BK S n P (El n r) j))/\Qz S n P (BK S n P (El n r) J):=by
  intro m
  induction m with
  | zero=>rintro⟨J,hJ,h⟩;exact⟨J,λj hj=>by omega,h⟩
  | succ m ih=>
   rintro⟨J,hJ,h⟩
   by_cases hm:∃ J,J<=m/\Qz S n P (BK S n P (El n r) J)
   ·exact ih hm
   ·exact⟨J,λj hj hs=>hm ⟨j,by omega,hs⟩,h⟩
 exact key (K+1) ⟨K+1,zzL8 _,hst⟩
structure DomTree(S:Nat->List Nat)(r n:Nat)(P:List Nat)(t:List Int):Prop where
 inv:Inv S r n (pos (r::P)) (Bc t)
 len:t.length=n
 full:PY S r n (Bc t)
 exact_:TJ S r n (Bc t)
theorem Zs(o:Ordered S r n P){j:Nat}(h:Qz S n P (BK S n P (El n r) j)):DomTree S r n P (BK S n P (El n r) j):=by
 have rd:=Ready.rounds o j
 have hall:Ready S r n P (BK S n P (El n r) j) P.length:=by
  have:=rd.round o P.length (zzL8 _);rwa[S2 o rd.len h P.length (zzL8 _)]at this
 refine⟨rd.inv,rd.len,hall.full o,WP rd.inv o.hS o.hr (hall.full o) λy hy hne hr=>?_⟩
 have hm:y∈P:=by
  rcases zzL23.1 ((o.mem y).2 hr) with h1|h1
  ·exact absurd h1 hne
  ·exact h1
 obtain⟨i,hi,rfl⟩:=K4 hm;have b:=(hall.more o i).best o hi;rw[Aa _ _ _ hi]at b;have hs:=h i hi;rw[Aa _ _ _ hi]at hs;exact⟨_,hs,b.best⟩
end
section
variable {S:Nat->List Nat} {s s':Nat->Bool} {l o:List Nat}
theorem VL.before(h:VL S s l s' o):∀ A z B,o=A++z::B->z∈l\/∃ p∈B,z∈S p:=by
 induction h with
 | nil s=>intro A z B e;simp at e
 | skip h _ ih=>
  intro A z B e;rcases ih A z B e with h1|h1
  ·exact .inl (Em _ h1)
  ·exact .inr h1
 | @step s s1 s2 y l o1 o2 h a b iha ihb=>
  intro A z B e;rcases List.append_eq_append_iff.1 e with⟨C,hC1,hC2⟩|⟨C,hC1,hC2⟩
  ·
   cases C with
   | nil=>
    simp at hC2;obtain⟨rfl,rfl⟩:=hC2;exact .inl (Io ..)
   | cons c C=>
    simp at hC2;obtain⟨rfl,hC2⟩:=hC2;rcases ihb C z B hC2 with h1|h1
    ·exact .inl (Em _ h1)
    ·exact .inr h1
  ·cases C with
   | nil=>
    simp at hC2;obtain⟨rfl,rfl⟩:=hC2;exact .inl (Io ..)
   | cons c C=>
    simp at hC2;obtain⟨rfl,rfl⟩:=hC2;rcases iha A z C hC1 with h1|⟨p,hp,hz⟩
    ·exact .inr ⟨y,by simp,h1⟩
    ·exact .inr ⟨p,by simp[hp],hz⟩
theorem Ord.ordered{n r:Nat}{L:List Nat}(hr:r<n)(hS:∀ x,x<n->∀ w∈S x,w<n)(h:Ord S r L):∃ P,L=r::P/\Ordered S r n P:=by
 have h1:=h.nodup;have h2:=h.mem;obtain⟨s',o,hv,rfl⟩:=h;refine⟨o.reverse,rfl,hr,hS,h1,λx=>by rw[h2 x,rc_iff],λi hi=>?_⟩
 have hi':i<o.length:=by simpa using hi
 have e:o.reverse=o.reverse.take i++o.reverse[i]::o.reverse.drop (i+1):=by rw[<- Nn hi,List.take_append_drop]
 have e2:o=(o.reverse.drop (i+1)).reverse++o.reverse[i]::(o.reverse.take i).reverse:=by
  have:=B7 List.reverse e;rw[List.reverse_reverse]at this;rw[List.reverse_append,List.reverse_cons]at this
  simpa using this
 rw[Aa _ _ _ hi];rcases hv.before _ _ _ e2 with h3|⟨p,hp,hz⟩
 ·exact⟨r,Io ..,h3⟩
 ·exact⟨p,Em _ (zzL94.1 hp),hz⟩
end
def kX(S:Nat->List Nat)(w:Int):Nat->List Nat:=λx=>(S x).filter λy=>decide ((y:Int)≠w)
theorem cw(S:Nat->List Nat):kX S (-1)=S:=by
 funext x
 unfold kX;exact List.filter_eq_self.2 λy _=>Fy (by omega)
theorem fq(S:Nat->List Nat)(z:Nat):kX S (z:Int)=wo S z:=by
 funext x
 unfold kX wo
 congr 1
 funext y
 exact zzL105.2 ⟨λh e=>h (by rw[e]),λh e=>h (U0 e)⟩
def Ym(L:List (List Int))(r:Nat)(w:Int):List Bool:=if(r:Int)=w then List.replicate L.length false else HP (kX (sN L) w) L.length ((List.replicate L.length false).set r true) L.length
theorem cO{L:List (List Int)}(hm:Li L=true){r:Nat}(hr:r<L.length){b:Nat}:(Ym L r (-1)).getD b false=true↔Rc (sN L) r b:=by
 unfold Ym;rw[if_neg (by omega),cw,W1 (Ut hm) hr b,rc_iff]
theorem SC{L:List (List Int)}(hm:Li L=true){r:Nat}(hr:r<L.length){a b:Nat}(hb:b<L.length):(Ym L r (a:Int)).getD b false=true↔Av (sN L) r a b:=by
 unfold Ym;rw[av_iff]
 by_cases h:r=a
 ·subst h;rw[if_pos rfl,Ng]
  simp
 ·rw[if_neg (by omega),fq,W1 (S:=wo (sN L) a) (λz hz y hy=>Ut hm z hz y (zzL63.1 hy).1) hr b];simp[h]
def Sq(L:List (List Int))(r a b:Nat):Bool:=(Ym L r (-1)).getD b false&&!(Ym L r (a:Int)).getD b false
theorem NW{L:List (List Int)}(hm:Li L=true){r a b:Nat}(hr:r<L.length)(hb:b<L.length):Sq L r a b=true↔Rc (sN L) r b/\¬ Av (sN L) r a b:=by
 unfold Sq;rw[A4,Oi,<- Bool.not_eq_true,cO hm hr,SC hm hr hb]
def NH(L:List (List Int))(r a b:Nat):Bool:=(List.range L.length).all λc=>decide (c=b) || !Sq L r c b || Sq L r c a
def NZ(L:List (List Int))(r b:Nat):Nat->Int
 | 0=>-2
 | a+1=>if a≠b/\Sq L r a b=true/\NH L r a b=true then(a:Int) else NZ L r b a
def SQ(L:List (List Int))(r b:Nat):Int:=if b=r then -1 else NZ L r b L.length
def Xb(L:List (List Int))(r:Nat):List Int:=(List.range L.length).map (SQ L r)
theorem HW(L:List (List Int))(r:Nat):(Xb L r).length=L.length:=by simp[Xb]
theorem cm{L:List (List Int)}{r b:Nat}(hb:b<L.length):(Xb L r).getD b 0=SQ L r b:=by unfold Xb;rw[P6 hb]
theorem pick_cases(L:List (List Int))(r b:Nat):∀ m,(NZ L r b m = -2/\∀ a,a<m->¬ (a≠b/\Sq L r a b=true/\NH L r a b=true))\/∃ a,a<m/\NZ L r b m=(a:Int)/\a≠b/\Sq L r a b=true/\NH L r a b=true:=by
 intro m
 induction m with
 | zero=>exact .inl ⟨rfl,λa ha=>absurd ha (Mi a)⟩
 | succ m ih=>
  unfold NZ
  by_cases h:m≠b/\Sq L r m b=true/\NH L r m b=true
  ·rw[if_pos h];exact .inr ⟨m,by omega,rfl,h⟩
  ·rw[if_neg h];rcases ih with⟨h1,h2⟩|⟨a,h1,h2⟩
   ·refine .inl ⟨h1,λa ha=>?_⟩;rcases zzL118.1 ha with h3|rfl
    ·exact h2 a h3
    ·exact h
   ·exact .inr ⟨a,by omega,h2⟩
theorem DomTree.eq{L:List (List Int)}(hm:Li L=true){r:Nat}(hr:r<L.length){P t:List _}(o:Ordered (sN L) r L.length P)(h:DomTree (sN L) r L.length P t):t=Xb L r:=by
 refine Yv (by rw[h.len,HW]) λb h1 h2=>?_
 have hb:b<L.length:=by rw[<- h.len];exact h1
 rw[<- Aa _ _ 0 h1,<- Aa _ _ 0 h2,cm hb]
 show Bc t b=_
 have hov:∀ a b,b<L.length->Bc t b≠-2->(Sq L r a b=true↔UpTo (Bc t) b a):=λa b hb hp=>by
  rw[NW hm hr hb,h.exact_ b hb hp];exact⟨λk=>k.2,λk=>⟨h.inv.rc b hb hp,k⟩⟩
 unfold SQ
 by_cases hbr:b=r
 ·subst hbr;rw[if_pos rfl];exact h.inv.top
 ·rw[if_neg hbr];rcases h.inv.kind b hb with hk|hk|⟨z,hz⟩
  ·
   have hn:¬ Rc (sN L) r b:=λk=>h.full b hb k hk;rcases pick_cases L r b L.length with⟨h3,_⟩|⟨a,_,_,_,h6,_⟩
   ·rw[hk,h3]
   ·exact absurd ((NW hm hr hb).1 h6).1 hn
  ·exact absurd hk hbr
  ·obtain⟨z1,z2,z3,z4⟩:=h.inv.up b hb z hz
   have hp:Bc t b≠-2:=by omega
   have hzo:Sq L r z b=true:=(hov z b hb hp).2 (.up hz (.refl _))
   have hzb:z≠b:=by rintro rfl;omega
   have hnear:NH L r z b=true:=all_range.2 λc hc=>by
    by_cases e:c=b
    ·simp[e]
    ·cases ho:Sq L r c b with
     | false=>simp
     | true=>
      have:=(hov c b hb hp).1 ho;rcases(anc_up hz).1 this with h3|h3
      ·exact absurd h3 e
      ·rw[(hov c z z1 z2).2 h3];simp
   rcases pick_cases L r b L.length with⟨_,h3⟩|⟨a,h3,h4,h5,h6,h7⟩
   ·exact absurd ⟨hzb,hzo,hnear⟩ (h3 z z1)
   ·rw[h4,hz];have haU:=(hov a b hb hp).1 h6
    have ha1:UpTo (Bc t) z a:=by
     rcases(anc_up hz).1 haU with h8|h8
     ·exact absurd h8 h5
     ·exact h8
    have hap:=(h.inv.anc ha1 z1 z2).2.1
    have hza:UpTo (Bc t) a z:=by
     have:=all_range.1 h7 z z1;simp only[hzo,hzb,decide_false,Fd,ES]at this;exact(hov z a h3 hap).1 this
    rw[h.inv.antisymm ha1 hza z1 z2]
theorem fC{g:Cz}(h:X5 g=true):Li g.Succ=true/\g=Xr g.Succ:=by
 unfold X5 at h;rw[A4]at h;refine⟨h.1,?_⟩;obtain⟨s,p⟩:=g;have:=Xg h.2;simp only at this;unfold Xr;rw[this]
section
variable {L:List (List Int)} (hm:Li L=true) {r:Nat} (hr:r<L.length)
include hm hr
omit hr in
omit hr in
omit hm hr in
omit hm hr in
omit hm hr in
omit hr in
omit hr in
end
def OU(g:Cz)(r:Int):List Int:=if X5 g=true/\0<=r/\r<(g.Succ.length:Int) then Xb g.Succ r.toNat else[]
def upD(t:List Int):Nat->Int->Option (List Int)
 | 0,_=>none
 | k+1,a=>if 0<=a/\a<(t.length:Int) then(if t.getD a.toNat 0 = -1 then some [a] else(upD t k (t.getD a.toNat 0)).map λl=>a::l) else none
def Ek(t:List Int)(a:Int):List Int:=(upD t t.length a).getD []
theorem fo(t:List Int):∀ k a q,upD t k a=some q->q.length<=k/\1<=q.length:=by
 intro k
 induction k with
 | zero=>intro a q h;cases h
 | succ k ih=>
  intro a q h;unfold upD at h
  split at h
  ·split at h
   ·cases h;simp
   ·cases hu:upD t k (t.getD a.toNat 0) with
    | none=>rw[hu]at h;cases h
    | some q'=>rw[hu]at h;cases h;have:=ih _ _ hu;simp;omega
  ·cases h
theorem pathD_nil{t:List Int}{a:Int}:Ek t a=[]↔upD t t.length a=none:=by
 unfold Ek
 cases h:upD t t.length a with
 | none=>simp
 | some q=>have:=(fo t _ _ _ h).2;simp;intro e;subst e;simp at this
def Xa(t:List Int)(k:Nat):Nat:=((List.range k).filter λa=>decide (t.getD a 0 = -1)).length
def lG(t:List Int)(a:Nat):Bool:=decide (t.getD a 0 = -2) || !decide (Ek t (a:Int)=[])
def Ik(t:List Int):Bool:=(List.range t.length).all (lG t)&&decide (Xa t t.length=1)
theorem EK(t:List Int)(k:Nat):Xa t (k+1)=Xa t k+if t.getD k 0 = -1 then 1 else 0:=by
 unfold Xa;rw[Vu,KU,E6]
 by_cases h:t.getD k 0 = -1
 ·rw[if_pos h]
  have:List.filter (λa=>decide (t.getD a 0 = -1)) [k]=[k]:=by rw[List.filter_cons,if_pos (Fy h)];rfl
  rw[this];rfl
 ·rw[if_neg h]
  have:List.filter (λa=>decide (t.getD a 0 = -1)) [k]=[]:=by rw[List.filter_cons,if_neg (by simpa using h)];rfl
  rw[this];rfl
def Lw(t:List Int)(a b:Int):Int:=if Ik t=true then((Ek t a).find? λx=>(Ek t b).contains x).getD (-2) else -2
def Nd(t:List Int)(a b:Int):Bool:=Lw t a b==a&&Lw t a b !=-2
section
variable {S:Nat->List Nat} {r n:Nat} {P:List Nat} {t:List Int}
theorem DomTree.up(h:DomTree S r n P t):∀ k x,x<n->Bc t x≠-2->pos (r::P) x<k->∃ q,upD t k (x:Int)=some q/\(∀ w:Int,w∈q↔∃ z:Nat,w=(z:Int)/\UpTo (Bc t) x z) /\
  ∀ p:Int->Bool,(q.find? p=none/\∀ z:Nat,UpTo (Bc t) x z->p (z:Int)=false)\/∃ f:Nat,q.find? p=some (f:Int)/\UpTo (Bc t) x f/\p (f:Int)=true/\∀ z:Nat,UpTo (Bc t) x z->p (z:Int)=true->UpTo (Bc t) f z:=by
 intro k
 induction k with
 | zero=>intro x _ _ hk;exact absurd hk (Mi _)
 | succ k ih=>
  intro x hx hp hk
  have hxt:(0:Int)<=(x:Int)/\(x:Int)<(t.length:Int):=by rw[h.len];omega
  unfold upD;rw[if_pos hxt,A6];have hpx:t.getD x 0=Bc t x:=rfl;rw[hpx];rcases h.inv.kind x hx with h1|rfl|⟨z,hz⟩
  ·exact absurd h1 hp
  ·rw[if_pos h.inv.top];refine⟨_,rfl,λw=>?_,λp=>?_⟩
   ·rw[zzL14]
    constructor
    ·rintro rfl;exact⟨x,rfl,.refl _⟩
    ·rintro⟨z,rfl,hz⟩;rw[h.inv.root_anc.1 hz]
   ·cases hpp:p (x:Int) with
    | false=>exact .inl ⟨by simp[List.find?,hpp],λz hz=>by rw[h.inv.root_anc.1 hz];exact hpp⟩
    | true=>exact .inr ⟨x,by simp[List.find?,hpp],.refl _,hpp,λz hz _=>hz⟩
  ·obtain⟨z1,z2,z3,z4⟩:=h.inv.up x hx z hz;rw[hz,if_neg (by omega)];obtain⟨q,hq1,hq2,hq3⟩:=ih z z1 z2 (by omega);rw[hq1];refine⟨(x:Int)::q,rfl,λw=>?_,λp=>?_⟩
   ·rw[zzL23,hq2 w]
    constructor
    ·rintro(rfl|⟨y,rfl,hy⟩)
     ·exact⟨x,rfl,.refl _⟩
     ·exact⟨y,rfl,.up hz hy⟩
    ·rintro⟨y,rfl,hy⟩;rcases(anc_up hz).1 hy with rfl|hy
     ·exact .inl rfl
     ·exact .inr ⟨y,rfl,hy⟩
   ·cases hpp:p (x:Int) with
    | true=>exact .inr ⟨x,by simp[List.find?,hpp],.refl _,hpp,λy hy _=>hy⟩
    | false=>
     have hf:((x:Int)::q).find? p=q.find? p:=by simp[List.find?,hpp]
     rw[hf];rcases hq3 p with⟨e1,e2⟩|⟨f,e1,e2,e3,e4⟩
     ·refine .inl ⟨e1,λy hy=>?_⟩;rcases(anc_up hz).1 hy with rfl|hy
      ·exact hpp
      ·exact e2 y hy
     ·refine .inr ⟨f,e1,.up hz e2,e3,λy hy hpy=>?_⟩;rcases(anc_up hz).1 hy with rfl|hy
      ·rw[hpp]at hpy;cases hpy
      ·exact e4 y hy hpy
theorem Ordered.pos_lt(o:Ordered S r n P){x:Nat}(hx:x∈r::P):pos (r::P) x<n:=by
 obtain⟨j,hj,rfl⟩:=K4 hx;rw[(BH o.nodup hj).2];have:=Lj n (r::P) o.nodup λy hy=>o.lt hy;omega
theorem DomTree.path(h:DomTree S r n P t)(o:Ordered S r n P){x:Nat}(hx:x<n)(hp:Bc t x≠-2):Ek t (x:Int)≠[]/\(∀ w:Int,w∈Ek t (x:Int)↔∃ z:Nat,w=(z:Int)/\UpTo (Bc t) x z) /\
  ∀ p:Int->Bool,((Ek t (x:Int)).find? p=none/\∀ z:Nat,UpTo (Bc t) x z->p (z:Int)=false)\/∃ f:Nat,(Ek t (x:Int)).find? p=some (f:Int)/\UpTo (Bc t) x f/\p (f:Int)=true/\∀ z:Nat,UpTo (Bc t) x z->p (z:Int)=true->UpTo (Bc t) f z:=by
 have hm:=(o.mem x).2 (h.inv.rc x hx hp);obtain⟨q,h1,h2,h3⟩:=h.up n x hx hp (o.pos_lt hm)
 have e:Ek t (x:Int)=q:=by unfold Ek;rw[h.len,h1];rfl
 rw[e];refine⟨λe=>?_,h2,h3⟩;have:=(h2 (x:Int)).2 ⟨x,rfl,.refl _⟩;rw[e]at this
 cases this
theorem DomTree.nopath(h:DomTree S r n P t){x:Nat}(hx:x<n)(hp:Bc t x = -2):Ek t (x:Int)=[]:=by
 rw[pathD_nil]
 cases hl:t.length with
 | zero=>rfl
 | succ k=>
  unfold upD;rw[if_pos ⟨by omega,by rw[h.len];omega⟩,A6,show t.getD x 0=Bc t x from rfl,hp,if_neg (by omega)]
  cases k with
  | zero=>rfl
  | succ k=>unfold upD;rw[if_neg (by omega)];rfl
theorem DomTree.right(h:DomTree S r n P t)(o:Ordered S r n P):Ik t=true:=by
 unfold Ik;rw[A4]
 constructor
 ·refine all_range.2 λx hx=>?_;rw[h.len]at hx;unfold lG
  by_cases hp:Bc t x = -2
  ·rw[show t.getD x 0=Bc t x from rfl,hp];rfl
  ·rw[Gy (h.path o hx hp).1];simp
 ·apply Fy
  have key:∀ k,k<=n->Xa t k=if r<k then 1 else 0:=by
   intro k
   induction k with
   | zero=>intro _;rfl
   | succ k ih=>
    intro hk;rw[EK,ih (by omega)]
    have hr:t.getD k 0 = -1↔k=r:=by
     constructor
     ·intro he;rcases h.inv.kind k (by omega) with h1|h1|⟨z,hz⟩
      ·rw[show t.getD k 0=Bc t k from rfl,h1]at he;omega
      ·exact h1
      ·rw[show t.getD k 0=Bc t k from rfl,hz]at he;omega
     ·rintro rfl;exact h.inv.top
    by_cases hkr:k=r
    ·subst hkr;rw[if_neg (by omega),if_pos (hr.2 rfl),if_pos (by omega)]
    ·rw[if_neg (λe=>hkr (hr.1 e))]
     by_cases h2:r<k
     ·rw[if_pos h2,if_pos (by omega)]
     ·rw[if_neg h2,if_neg (by omega)]
  rw[h.len,key n (zzL8 _),if_pos o.hr]
theorem DomTree.meet(h:DomTree S r n P t)(o:Ordered S r n P){a b:Nat}(ha:a<n)(hb:b<n)(hpa:Bc t a≠-2)(hpb:Bc t b≠-2):∃ m:Nat,Lw t (a:Int) (b:Int)=(m:Int)/\MeetAt (Bc t) a b m/\m<n/\Bc t m≠-2:=by
 have rd:Ready S r n P t P.length:=⟨h.inv,h.len,λx hx=>by rw[Vs]at hx;exact h.full x (o.lt hx) ((o.mem x).1 hx)⟩;obtain⟨c,hc1,hc2,hc3⟩:=h.inv.meets (rd.inj o) OA _ a b (zzL8 _) ha hb hpa hpb;refine⟨c,?_,hc1,hc2,hc3⟩;unfold Lw;rw[if_pos (h.right o)];obtain⟨hca,hcb⟩:=(hc1 c).1 (.refl _)
 have hin:∀ z:Nat,(Ek t (b:Int)).contains (z:Int)=true↔UpTo (Bc t) b z:=λz=>by
  rw[ET,(h.path o hb hpb).2.1]
  constructor
  ·rintro⟨y,hy,hu⟩;cases U0 hy;exact hu
  ·intro hu;exact⟨z,rfl,hu⟩
 rcases(h.path o ha hpa).2.2 λx=>(Ek t (b:Int)).contains x with⟨_,h2⟩|⟨f,h1,h2,h3,h4⟩
 ·have:=h2 c hca;rw[(hin c).2 hcb]at this
  cases this
 ·rw[h1];have hfc:=h4 c hca ((hin c).2 hcb);have hcf:=(hc1 f).2 ⟨h2,(hin f).1 h3⟩;rw[h.inv.antisymm hcf hfc hc2 hc3]
  rfl
theorem DomTree.meet_none(h:DomTree S r n P t)(o:Ordered S r n P){a b:Nat}(ha:a<n)(hb:b<n)(hp:Bc t a = -2\/Bc t b = -2):Lw t (a:Int) (b:Int) = -2:=by
 unfold Lw;rw[if_pos (h.right o)];rcases hp with hp|hp
 ·rw[h.nopath ha hp];rfl
 ·rw[h.nopath hb hp]
  have:(Ek t (a:Int)).find? (λx=>([]:List Int).contains x)=none:=List.find?_eq_none.2 λx _=>by simp
  rw[this];rfl
theorem DomTree.over(h:DomTree S r n P t)(o:Ordered S r n P){a b:Nat}(ha:a<n)(hb:b<n):Nd t (a:Int) (b:Int)=true↔Bc t b≠-2/\UpTo (Bc t) b a:=by
 unfold Nd;rw[A4,zzL72,zzL91]
 by_cases hpa:Bc t a = -2
 ·rw[h.meet_none o ha hb (.inl hpa)]
  constructor
  ·rintro⟨h1,_⟩;omega
  ·rintro⟨h1,h2⟩;exact absurd hpa (h.inv.anc h2 hb h1).2.1
 ·by_cases hpb:Bc t b = -2
  ·rw[h.meet_none o ha hb (.inr hpb)]
   constructor
   ·rintro⟨h1,_⟩;omega
   ·rintro⟨h1,_⟩;exact absurd hpb h1
  ·obtain⟨m,hm1,hm2,hm3,hm4⟩:=h.meet o ha hb hpa hpb;rw[hm1]
   constructor
   ·rintro⟨h1,_⟩;have h1:=U0 h1;subst h1;exact⟨hpb,((hm2 _).1 (.refl _)).2⟩
   ·rintro⟨_,h2⟩;have:=(hm2 a).2 ⟨.refl _,h2⟩;have h3:=((hm2 m).1 (.refl _)).1;rw[h.inv.antisymm h3 this ha hpa];exact⟨rfl,by omega⟩
theorem DomTree.over_dom(h:DomTree S r n P t)(o:Ordered S r n P){a b:Nat}(ha:a<n)(hb:b<n):Nd t (a:Int) (b:Int)=true↔Rc S r b/\¬ Av S r a b:=by
 rw[h.over o ha hb]
 constructor
 ·rintro⟨h1,h2⟩;exact⟨h.inv.rc b hb h1,(h.exact_ b hb h1 a).1 h2⟩
 ·rintro⟨h1,h2⟩;have:=h.full b hb h1;exact⟨this,(h.exact_ b hb this a).2 h2⟩
end
section
variable {L:List (List Int)} (hm:Li L=true) {r:Nat} (hr:r<L.length)
include hm hr
theorem XZ:∃ P,Ord (sN L) r (r::P)/\Ordered (sN L) r L.length P/\DomTree (sN L) r L.length P (Xb L r):=by
 obtain⟨O,hO⟩:=Ord.exist (Ut hm) hr;obtain⟨P,rfl,o⟩:=hO.ordered hr (Ut hm);obtain⟨J,_,hJ⟩:=gz o;have hd:=Zs o hJ;refine⟨P,hO,o,?_⟩;rw[<- hd.eq hm hr o];exact hd
end
theorem WW{X:Type}(n:Nat)(p:Nat->Bool)(f:Int->Option (LR Int X))(yes no:X)(hn:∀ i:Nat,i<n->p i=true->f (i:Int)=some (.next ((i:Int)+1)))
  (hf:∀ i:Nat,i<n->p i=false->f (i:Int)=some (.done no)) (he:f (n:Int)=some (.done yes)):Ai f (0:Int)=some (bif (List.range n).all p then yes else no):=by
 have hg:∀ i,i<(List.range n).length->(List.range n).getD i 0=i:=λi hi=>by rw[Aa _ _ _ hi];simp
 have:=Se (List.range n) 0 p f yes no (λi hi hp=>by rw[hg i hi]at hp;exact hn i (by simpa using hi) hp) (λi hi hp=>by rw[hg i hi]at hp;exact hf i (by simpa using hi) hp) (by simpa using he) n 0 (by simp);rw[show(0:Int)=((0:Nat):Int) from rfl,this,K5]
theorem ZQ{n:Nat}{p:Nat->Bool}(h:(List.range n).all p=true):∀ i,i<n->p i=true:=λi hi=>zzL25.1 h i (by simpa using hi)
def Qp(L:List (List Int)):List Bool:=HP (sN L) L.length ((List.replicate L.length false).set 0 true) L.length
def G6(l:List Int)(p:F8):Bool:=decide (p.From=l)&&((p.Args.length:Int)==(l.length:Int))
def Pv(L:List (List Int))(b:Ak)(i:Nat):Bool:=(Qp L).getD i false&&!((b.End.Kind==1 || b.End.Kind==3)&&(b.End.Arg !=0))&&b.Phis.all (G6 ((Fb L).getD i []))
def F4(f:Ab):Bool:=Nj f&&(List.range f.Blocks.length).all λi=>Pv (Ei f) (f.Blocks.getD i default) i
theorem W6(f:Ab):(Ei f).length=f.Blocks.length:=by simp[Ei]
theorem XW{f:Ab}(h:F4 f=true):fS f:=λb hb p hp=>by
 simp only[F4,A4]at h;obtain⟨i,hi,rfl⟩:=K4 hb;have h1:=ZQ h.2 i hi;rw[Aa _ _ _ hi]at h1;simp only[Pv,A4]at h1;have h2:=zzL25.1 h1.2 p hp;simp only[G6,A4,D0,zzL72]at h2;rw[h2.1];omega
def Kr(l:List TDef)(i:Nat):Bool:=valS (l.getD i default).V&&(H6 l (l.getD i default).V==(i:Int))
def Ks(l:List TDef)(u:Mk):Bool:=!decide (H6 l u.V<0)
def defOf(l:List TDef)(v:Int):TDef:=l.getD (H6 l v).toNat default
def Wu(l:List TDef)(u:Mk):Bool:=((defOf l u.V).Shape.1==u.Shape.1)&&(((defOf l u.V).Shape.2==u.Shape.2)&&true)
def Uo(l:List TDef)(t:List Int)(u:Mk):Bool:=
 (decide ((defOf l u.V).Block<0) || ((defOf l u.V).Block==u.Block&&decide ((defOf l u.V).At<u.At))) || (!((defOf l u.V).Block==u.Block)&&!(Lw t (defOf l u.V).Block u.Block !=(defOf l u.V).Block))
def Bw(f:Ab):List Int:=OU (Xr (Ei f)) 0
def KS(f:Ab)(l:Int):Int:=
 bif !F4 f then 5 else bif !O2 f l then 6 else bif !(List.range (Au f).length).all (Kr (Au f)) then 7 else bif !(Dy f).all (Ks (Au f)) then 7 else
 bif !(Dy f).all (Wu (Au f)) then 6 else bif !(Dy f).all (Uo (Au f) (Bw f)) then 7 else 0
def E7(f:Ab)(l:Int):Int:=bif decide (l<0) || decide (2<l) then 1 else bif !Qe f then 4 else KS f l
theorem MN{l:List TDef}{v:Int}(h:¬ H6 l v<0):Cd (H6 l v) l.length:=by
 unfold H6 at h ⊢
 cases hx:l.findIdx? (λd=>d.V==v) with
 | none=>rw[hx]at h;exact absurd (by decide) h
 | some i=>
  obtain⟨hi,_⟩:=List.findIdx?_eq_some_iff_getElem.1 hx;exact Bb hi
theorem cn{f:Ab}(h:Nj f=true):(Bw f).length<=1000:=by
 have h1:=(X6 (Su h)).1;unfold Bw OU
 split
 ·rw[HW];show(Ei f).length<=1000;omega
 ·simp
def grow(n d:Int):Int:=bif decide (n<d) then d else n
def Sm(f:Ab):Prop:=dY f/\Do f=some true
theorem kU{f:Ab}(h:Sm f)(hm:Qe f=true):OkF f:=by
 obtain⟨sm,h1,h2⟩:=OP f h.1;rw[h.2]at h1;exact(h2 (OI h1).symm hm).1
structure ZC(f:Ab)(s:List (Int×(Int×Int))):Prop where
 none:E7 f 2≠0->s.length=0
 len:E7 f 2=0->s.length=(Au f).length
 get:E7 f 2=0->∀ d∈Au f,mget ((0:Int),(0:Int)) s d.V=d.Shape
 has:E7 f 2=0->∀ v,Bz s v=true->∃ d∈Au f,d.V=v
theorem kT{f:Ab}(hf:dY f)(h0:f.Params.length<=64)(hb:∀ b∈f.Blocks,b.End.To.length<=64/\(∀ p∈b.Phis,p.From.length<=64/\p.Args.length<=64)/\∀ o∈b.Ops,o.Args.length<=64)(he:WM f<=20000):Sm f:=
 ⟨hf,by rw[OO f hf h0 hb,Fy he]⟩
def DZ(f:Ab):Int:=
 bif !(List.range (Au f).length).all (Kr (Au f)) then 7 else bif !(Dy f).all (Ks (Au f)) then 7 else
 bif !(Dy f).all (Wu (Au f)) then 6 else bif !(Dy f).all (Uo (Au f) (Bw f)) then 7 else 0
theorem Mz{f:Ab}{l:Int}(h0:0<=l)(h2:l<=2):E7 f l=0↔Qe f=true/\F4 f=true/\O2 f l=true/\DZ f=0:=by
 unfold E7 KS;rw[Gy (show ¬ l<0 by omega),Gy (show ¬ 2<l by omega)]
 show _↔_/\_/\_/\DZ f=0
 have e:(bif !(List.range (Au f).length).all (Kr (Au f)) then(7:Int) else bif !(Dy f).all (Ks (Au f)) then 7 else
  bif !(Dy f).all (Wu (Au f)) then 6 else bif !(Dy f).all (Uo (Au f) (Bw f)) then 7 else 0)=DZ f:=rfl
 rw[e]
 cases Qe f<;>cases F4 f<;>cases O2 f l<;>simp
theorem be{o:Ce}(h:Hm o=true):1<=o.Lanes:=by
 simp only[Hm,A4]at h;have:=Og h.1.1;omega
theorem fl{α:Type}(l:List α)(g:α->Nat):(l.map λa=>g a+1).sum=l.length+(l.map g).sum:=by
 induction l with
 | nil=>rfl
 | cons a l ih=>simp only[Bq,U1,ih,Oj];omega
theorem cr(a b:Int):Bd (a+Bd b)=Bd (a+b):=by rw[Int.add_comm,UY,Int.add_comm]
theorem kY(f:Ab)(hf:dY f):N5 f=some (sizeW f):=by
 have hl:=GZ f.Blocks (default:Ak) (λb=>b.Phis.length+b.Ops.length) id (Kh f) (λn i hi=>?_) (λn=>?_) f.Blocks.length 0 f.Blocks.length (Fs _)
 ·unfold N5;rw[BN (by have:=hf.blocks;rw[Ix]at this;omega),show((0:Nat):Int)=0 from rfl]at hl;rw[hl,Aw,K5,sizeW,Oh,show(sizeB:Ak->Nat)=(λb=>(b.Phis.length+b.Ops.length)+1) from rfl,fl]
  rfl
 ·have e1:decide ((i:Int)<(f.Blocks.length:Int))=true:=Fy (by omega);unfold Kh;simp only[e1,Ae,Ar (Bb hi),Dh,In hi hf.blocks,cr,UY];rw[show(n:Int)+(((f.Blocks.getD i default).Phis.length:Int)+((f.Blocks.getD i default).Ops.length:Int))=((n+((f.Blocks.getD i default).Phis.length+(f.Blocks.getD i default).Ops.length):Nat):Int) by omega]
 ·have e1:decide ((f.Blocks.length:Int)<(f.Blocks.length:Int))=false:=by simp
  unfold Kh;simp only[e1,A2,id]
theorem V4{α:Type}(l:List α)(d:α)(p:α->Bool)(f:Int->Option (LR Int (Unit ⊕ Bool)))(hn:∀ i:Nat,i<l.length->f i=bif p (l.getD i d) then some (.next ((i:Int)+1)) else some (.done (.inr false)))
  (he:f l.length=some (.done (.inl ()))):Ai f 0=some (bif l.all p then .inl () else .inr false):=by
 have:=Se l d p f (.inl ()) (.inr false) (λi hi hp=>by rw[hn i hi,hp];rfl) (λi hi hp=>by rw[hn i hi,hp];rfl) he l.length 0 (Fs _)
 simpa using this
theorem XG(x:Int):(bif decide (x<0) then true else decide (2147483647<x)) = !numB x:=by
 unfold numB
 by_cases h1:x<0
 ·have:¬ 0<=x:=by omega
  simp[h1,this]
 ·by_cases h2:2147483647<x
  ·have:¬ x<=2147483647:=by omega
   simp[h1,h2,this]
  ·have h3:0<=x:=by omega
   have h4:x<=2147483647:=by omega
   simp[h1,h2,h3,h4]
theorem HZ(l:List Int)(h:l.length<=maxLen):Cx l=some (l.all numB):=by
 have hl:=V4 l 0 numB (Gi l) (λi hi=>?_) ?_
 ·unfold Cx;rw[hl]
  cases l.all numB<;>rfl
 ·have e1:decide ((i:Int)<(l.length:Int))=true:=Fy (by omega);unfold Gi;simp only[e1,Ae,Ar (Bb hi),Dh,XG,In hi h]
  cases numB (l.getD i 0)<;>simp
 ·unfold Gi
  simp
theorem T8(l:List Int)(h:l.length<=maxLen):E8 l=some (Lv l):=by
 unfold E8;rw[HZ l h]
 by_cases h1:l.length<=64
 ·have e1:decide ((l.length:Int)<=64)=true:=Fy (by omega);rw[e1];simp[Lv,h1]
 ·have e1:decide ((l.length:Int)<=64)=false:=Gy (by omega);rw[e1];simp[Lv,h1]
theorem T5{l:List Int}(h:l.length<=10):l.length<=maxLen:=by rw[Ix];omega
theorem dA(p:F8)(h1:p.From.length<=maxLen)(h2:p.Args.length<=maxLen):Kj p=some (FR p):=by
 unfold Kj FR;rw[HZ _ (T5 (by simp)),T8 _ h1,T8 _ h2];simp only[Ok,List.all_nil,Yx]
 cases numB p.Bits<;>cases numB p.Dst<;>cases Lv p.From<;>cases Lv p.Args<;>rfl
theorem ft(o:Ce)(h1:o.Args.length<=maxLen):Lq o=some (LG o):=by
 unfold Lq LG;rw[HZ _ (T5 (by simp)),T8 _ h1];simp only[Ok,List.all_nil,Yx]
 cases numB o.Kind<;>cases numB o.Bits<;>cases numB o.Lanes<;>cases numB o.Dst<;>cases Lv o.Args<;>rfl
theorem cy(e:Ip)(h1:e.To.length<=maxLen):Ki e=some (MJ e):=by
 unfold Ki MJ;rw[HZ _ (T5 (by simp)),T8 _ h1];simp only[Ok,List.all_nil,Yx]
 cases numB e.Kind<;>cases numB e.Arg<;>cases Lv e.To<;>rfl
theorem CZ{X:Type}(b:Bool)(x y:X):(bif !b then x else y)=bif b then y else x:=by cases b<;>rfl
theorem YC(l:List F8)(hl:l.length<=maxLen)(h:∀ p∈l,p.From.length<=maxLen/\p.Args.length<=maxLen):F2 l=some (l.all FR):=by
 have hl':=V4 l (default:F8) FR (Er l) (λi hi=>?_) ?_
 ·unfold F2;rw[hl']
  cases l.all FR<;>rfl
 ·have e1:decide ((i:Int)<(l.length:Int))=true:=Fy (by omega);have:=h _ (getD_mem (d:=(default:F8)) hi);unfold Er;simp only[e1,Ae,Ar (Bb hi),Dh,dA _ this.1 this.2,Aw,CZ,In hi hl,Int.natCast_add,Int.natCast_one]
 ·unfold Er
  simp
theorem c9(l:List Ce)(hl:l.length<=maxLen)(h:∀ o∈l,o.Args.length<=maxLen):Gh l=some (l.all LG):=by
 have hl':=V4 l (default:Ce) LG (E4 l) (λi hi=>?_) ?_
 ·unfold Gh;rw[hl']
  cases l.all LG<;>rfl
 ·have e1:decide ((i:Int)<(l.length:Int))=true:=Fy (by omega);have:=h _ (getD_mem (d:=(default:Ce)) hi);unfold E4;simp only[e1,Ae,Ar (Bb hi),Dh,ft _ this,Aw,CZ,In hi hl,Int.natCast_add,Int.natCast_one]
 ·unfold E4
  simp
theorem ST(b:Ak)(h1:b.Phis.length<=maxLen)(h2:b.Ops.length<=maxLen)(h3:b.End.To.length<=maxLen)(h4:∀ p∈b.Phis,p.From.length<=maxLen/\p.Args.length<=maxLen)(h5:∀ o∈b.Ops,o.Args.length<=maxLen):Iv b=some (blockB b):=by
 unfold Iv blockB;rw[YC _ h1 h4,c9 _ h2 h5,cy _ h3]
 cases b.Phis.all FR<;>cases b.Ops.all LG<;>cases MJ b.End<;>rfl
theorem OZ(f:Ab)(hf:dY f):E3 f.Blocks=some (f.Blocks.all blockB):=by
 have hl':=V4 f.Blocks (default:Ak) blockB (D5 f.Blocks) (λi hi=>?_) ?_
 ·unfold E3;rw[hl']
  cases f.Blocks.all blockB<;>rfl
 ·have e1:decide ((i:Int)<(f.Blocks.length:Int))=true:=Fy (by omega);have hm:=getD_mem (d:=(default:Ak)) hi;have q:=hf.block _ hm;unfold D5;simp only[e1,Ae,Ar (Bb hi),Dh,ST _ q.1 q.2.1 q.2.2 (hf.phi _ hm) (λo ho=>(hf.op _ hm o ho).1),Aw,CZ,In hi hf.blocks,Int.natCast_add,Int.natCast_one]
 ·unfold D5
  simp
theorem lx(f:Ab)(hf:dY f):Qa f=some (Qe f):=by
 unfold Qa Qe;rw[kY f hf,HZ _ hf.params,HZ _ (T5 (by simp)),OZ f hf];simp only[Ok,List.all_nil,Yx,Lv]
 have d1:∀ n:Nat,decide ((n:Int)<1) = !decide (1<=n):=λn=>by by_cases h:1<=n<;>simp[h]<;>omega
 have d2:∀ n:Nat,decide ((64:Int)<(n:Int)) = !decide (n<=64):=λn=>by by_cases h:n<=64<;>simp[h]<;>omega
 have d3:∀ n:Nat,decide ((16:Int)<(n:Int)) = !decide (n<=16):=λn=>by by_cases h:n<=16<;>simp[h]<;>omega
 have d4:∀ n:Int,decide ((512:Int)<n) = !decide (n<=512):=λn=>by by_cases h:n<=512<;>simp[h]<;>omega
 simp only[d1,d2,d3,d4]
 have himp:decide (f.Params.length<=16)=true->decide (f.Params.length<=64)=true:=λh=>by simp at h ⊢;omega
 revert himp
 generalize decide (1<=f.Blocks.length)=c1
 generalize decide (f.Blocks.length<=64)=c2
 generalize decide (f.Params.length<=16)=c3
 generalize decide (f.Params.length<=64)=c4
 generalize f.Params.all numB=c6
 generalize numB f.Ret=c7
 generalize f.Blocks.all blockB=c8
 cases c3 with
 | true=>
  intro h;obtain rfl:=h rfl;simp only[Fd,Pm,Ae,Aw,A2]
  generalize decide (sizeW f<=512)=c5
  cases c1<;>cases c2<;>cases c6<;>cases c7<;>cases c8<;>cases c5<;>rfl
 | false=>
  intro _
  cases c1<;>cases c2<;>rfl
inductive Tp (t:List Int):Nat->Nat->Nat->Prop
 | top {x:Nat} (hx:x<t.length) (h:t.getD x 0 = -1):Tp t x x 0
 | up {x y r k:Nat} (hx:x<t.length) (h:t.getD x 0=(y:Int)) (hk:Tp t y r k):Tp t x r (k+1)
section
variable {t:List Int}
theorem Tp.lt{x r k:Nat}(h:Tp t x r k):x<t.length:=by cases h<;>assumption
theorem Tp.tops{x r k:Nat}(h:Tp t x r k):r<t.length/\t.getD r 0 = -1:=by
 induction h with
 | top hx h=>exact⟨hx,h⟩
 | up _ _ _ ih=>exact ih
theorem Tp.det{x r k r' k':Nat}(h:Tp t x r k)(h':Tp t x r' k'):r=r'/\k=k':=by
 induction h generalizing k' with
 | top hx h=>cases h' with
  | top=>exact⟨rfl,rfl⟩
  | up _ h2 _=>omega
 | up hx h1 _ ih=>cases h' with
  | top _ h2=>omega
  | up _ h2 k2=>
   have:_=_:=h1.symm.trans h2
   cases U0 this
   obtain⟨e1,e2⟩:=ih k2;exact⟨e1,by omega⟩
theorem Tp.upTo{x r k:Nat}(h:Tp t x r k):UpTo (Bc t) x r:=by
 induction h with
 | top=>exact .refl _
 | up _ h _ ih=>exact .up h ih
theorem Tp.on{x r k z:Nat}(h:Tp t x r k)(hz:UpTo (Bc t) x z):∃ j,j<=k/\Tp t z r j/\(j=k->z=x):=by
 induction hz generalizing k with
 | refl x=>exact⟨k,zzL8 _,h,λ_=>rfl⟩
 | up hp _ ih=>
  cases h with
  | top _ h2=>have:_=_:=hp.symm.trans h2;omega
  | up _ h2 k2=>
   have:_=_:=hp.symm.trans h2
   cases U0 this
   obtain⟨j,h1,h3,_⟩:=ih k2;exact⟨j,by omega,h3,λe=>by omega⟩
theorem Tp.anti{x r k z:Nat}(h:Tp t x r k)(h1:UpTo (Bc t) x z)(h2:UpTo (Bc t) z x):z=x:=by
 obtain⟨j,j1,j2,j3⟩:=h.on h1;obtain⟨i,i1,i2,i3⟩:=j2.on h2;have:=h.det i2;exact j3 (by omega)
theorem Tp.list{x r k:Nat}(h:Tp t x r k):∃ l:List Nat,l.length=k+1/\l.Nodup/\∀ y∈l,y<t.length/\∃ j,j<=k/\Tp t y r j:=by
 induction h with
 | top hx h=>exact⟨[_],rfl,by simp,λy hy=>by rw[zzL14.1 hy];exact⟨hx,0,zzL8 _,.top hx h⟩⟩
 | @up x y r k hx h hk ih=>
  obtain⟨l,h1,h2,h3⟩:=ih;refine⟨x::l,by simp[h1],zzL74.2 ⟨λhm=>?_,h2⟩,λz hz=>?_⟩
  ·obtain⟨_,j,hj,hj2⟩:=h3 _ hm;have:=(Tp.up hx h hk).det hj2;omega
  ·rcases zzL23.1 hz with rfl|hz
   ·exact⟨hx,k+1,zzL8 _,.up hx h hk⟩
   ·obtain⟨e1,j,e2,e3⟩:=h3 z hz;exact⟨e1,j,by omega,e3⟩
theorem Tp.short{x r k:Nat}(h:Tp t x r k):k<t.length:=by
 obtain⟨l,h1,h2,h3⟩:=h.list;have:=Lj t.length l h2 λy hy=>(h3 y hy).1;omega
theorem Tp.upD{x r k:Nat}(h:Tp t x r k):∀ m,k<m->∃ q,upD t m (x:Int)=some q/\(∀ w:Int,w∈q↔∃ z:Nat,w=(z:Int)/\UpTo (Bc t) x z) /\
  ∀ p:Int->Bool,(q.find? p=none/\∀ z:Nat,UpTo (Bc t) x z->p (z:Int)=false)\/∃ f:Nat,q.find? p=some (f:Int)/\UpTo (Bc t) x f/\p (f:Int)=true/\∀ z:Nat,UpTo (Bc t) x z->p (z:Int)=true->UpTo (Bc t) f z:=by
 induction h with
 | @top x hx h=>
  intro m hm;obtain⟨m,rfl⟩:∃ i,m=i+1:=⟨m-1,by omega⟩
  have htop:∀ z,UpTo (Bc t) x z↔z=x:=λz=>AR λp hp=>by have:_=_:=hp.symm.trans h;omega
  unfold Go.Proofs.YtiendmljhgbjoaaGreat.upD;rw[if_pos ⟨by omega,by omega⟩,A6,if_pos h];refine⟨_,rfl,λw=>?_,λp=>?_⟩
  ·rw[zzL14]
   constructor
   ·rintro rfl;exact⟨x,rfl,.refl _⟩
   ·rintro⟨z,rfl,hz⟩;rw[(htop z).1 hz]
  ·cases hpp:p (x:Int) with
   | false=>exact .inl ⟨by simp[List.find?,hpp],λz hz=>by rw[(htop z).1 hz];exact hpp⟩
   | true=>exact .inr ⟨x,by simp[List.find?,hpp],.refl _,hpp,λz hz _=>hz⟩
 | @up x y r k hx h hk ih=>
  intro m hm;obtain⟨m,rfl⟩:∃ i,m=i+1:=⟨m-1,by omega⟩;unfold Go.Proofs.YtiendmljhgbjoaaGreat.upD;rw[if_pos ⟨by omega,by omega⟩,A6,if_neg (by omega),h];obtain⟨q,hq1,hq2,hq3⟩:=ih m (by omega);rw[hq1];refine⟨(x:Int)::q,rfl,λw=>?_,λp=>?_⟩
  ·rw[zzL23,hq2 w]
   constructor
   ·rintro(rfl|⟨y,rfl,hy⟩)
    ·exact⟨x,rfl,.refl _⟩
    ·exact⟨y,rfl,.up h hy⟩
   ·rintro⟨y,rfl,hy⟩;rcases(anc_up h).1 hy with rfl|hy
    ·exact .inl rfl
    ·exact .inr ⟨y,rfl,hy⟩
  ·cases hpp:p (x:Int) with
   | true=>exact .inr ⟨x,by simp[List.find?,hpp],.refl _,hpp,λy hy _=>hy⟩
   | false=>
    have hf:((x:Int)::q).find? p=q.find? p:=by simp[List.find?,hpp]
    rw[hf];rcases hq3 p with⟨e1,e2⟩|⟨f,e1,e2,e3,e4⟩
    ·refine .inl ⟨e1,λy hy=>?_⟩;rcases(anc_up h).1 hy with rfl|hy
     ·exact hpp
     ·exact e2 y hy
    ·refine .inr ⟨f,e1,.up h e2,e3,λy hy hpy=>?_⟩;rcases(anc_up h).1 hy with rfl|hy
     ·rw[hpp]at hpy;cases hpy
     ·exact e4 y hy hpy
theorem jJ:∀ m (a:Int) q,upD t m a=some q->∃ x r k:Nat,a=(x:Int)/\k<m/\Tp t x r k:=by
 intro m
 induction m with
 | zero=>intro a q h;cases h
 | succ m ih=>
  intro a q h;unfold Go.Proofs.YtiendmljhgbjoaaGreat.upD at h
  by_cases ha:0<=a/\a<(t.length:Int)
  ·rw[if_pos ha]at h;have e:((a.toNat:Nat):Int)=a:=Uz ha.1
   by_cases h1:t.getD a.toNat 0 = -1
   ·exact⟨a.toNat,a.toNat,0,e.symm,by omega,.top (by omega) h1⟩
   ·rw[if_neg h1]at h
    cases hu:Go.Proofs.YtiendmljhgbjoaaGreat.upD t m (t.getD a.toNat 0) with
    | none=>rw[hu]at h;cases h
    | some q'=>
     obtain⟨y,r,k,e1,e2,e3⟩:=ih _ _ hu;exact⟨a.toNat,r,k+1,e.symm,by omega,.up (by omega) e1 e3⟩
  ·rw[if_neg ha]at h;cases h
theorem pathD_tp{a:Int}:Ek t a≠[]↔∃ x r k:Nat,a=(x:Int)/\Tp t x r k:=by
 constructor
 ·intro h
  cases hu:upD t t.length a with
  | none=>exact absurd (pathD_nil.2 hu) h
  | some q=>obtain⟨x,r,k,e1,_,e2⟩:=jJ _ _ _ hu;exact⟨x,r,k,e1,e2⟩
 ·rintro⟨x,r,k,rfl,h⟩ e;obtain⟨q,hq,_⟩:=h.upD t.length h.short;rw[pathD_nil.1 e]at hq;cases hq
theorem Tp.path{x r k:Nat}(h:Tp t x r k):(∀ w:Int,w∈Ek t (x:Int)↔∃ z:Nat,w=(z:Int)/\UpTo (Bc t) x z) /\
  ∀ p:Int->Bool,((Ek t (x:Int)).find? p=none/\∀ z:Nat,UpTo (Bc t) x z->p (z:Int)=false)\/∃ f:Nat,(Ek t (x:Int)).find? p=some (f:Int)/\UpTo (Bc t) x f/\p (f:Int)=true/\∀ z:Nat,UpTo (Bc t) x z->p (z:Int)=true->UpTo (Bc t) f z:=by
 obtain⟨q,h1,h2,h3⟩:=h.upD t.length h.short
 have e:Ek t (x:Int)=q:=by unfold Ek;rw[h1];rfl
 rw[e];exact⟨h2,h3⟩
theorem CI{α:Type}{l:List α}{i j:Nat}{x d:α}(hi:i<l.length):(l.set i x).getD j d=if j=i then x else l.getD j d:=by
 by_cases h:j=i
 ·subst h;simp[List.getD,hi]
 ·simp[List.getD,h,Ha h]
theorem fD{x r k:Nat}(h:Tp t x r k):∀ l:List Bool,l.length=t.length->∃ l',Ai (Fm t) ((x:Int),l)=some l'/\l'.length=t.length/\∀ z,z<t.length->(l'.getD z false=true↔l.getD z false=true\/UpTo (Bc t) x z):=by
 induction h with
 | @top x hx h=>
  intro l hl
  have hs:Fm t ((x:Int),l)=some (.next (-1,l.set x true)):=by
   unfold Fm
   have hb:((x:Int)!=(-1:Int))=true:=by rw[zzL91];omega
   simp only[hb,Ae,A6,h];rw[Ad (I9 (by omega)),Ad (I9 hx)]
  have hd:Fm t (-1,l.set x true)=some (.done (l.set x true)):=by
   unfold Fm
   rfl
  refine⟨l.set x true,by rw[An hs,Ag hd],by simp[hl],λz hz=>?_⟩;rw[CI (by omega)]
  have htop:UpTo (Bc t) x z↔z=x:=AR λp hp=>by have:_=_:=hp.symm.trans h;omega
  rw[htop]
  by_cases e:z=x
  ·simp[e]
  ·simp[e]
 | @up x y r k hx h hk ih=>
  intro l hl
  have hs:Fm t ((x:Int),l)=some (.next ((y:Int),l.set x true)):=by
   unfold Fm
   have hb:((x:Int)!=(-1:Int))=true:=by rw[zzL91];omega
   simp only[hb,Ae,A6,h];rw[Ad (I9 (by omega)),Ad (I9 hx)]
  obtain⟨l',e1,e2,e3⟩:=ih (l.set x true) (by simp[hl]);refine⟨l',by rw[An hs,e1],e2,λz hz=>?_⟩;rw[e3 z hz,CI (by omega),anc_up (par:=Bc t) h]
  by_cases e:z=x
  ·simp[e]
  ·simp[e]
theorem fE{b r k:Nat}(h:Tp t b r k)(l:List Bool)(hl:l.length=t.length):l.getD r false=true->∃ c:Nat,Ai (Fn t l) (b:Int)=some (c:Int)/\UpTo (Bc t) b c/\l.getD c false=true/\∀ z,UpTo (Bc t) b z->l.getD z false=true->UpTo (Bc t) c z:=by
 induction h with
 | @top x hx h=>
  intro hr
  have hd:Fn t l (x:Int)=some (.done (x:Int)):=by
   unfold Fn;rw[Ad (I9 (by omega)),A6,hr]
   rfl
  exact⟨x,Ag hd,.refl _,hr,λz hz _=>hz⟩
 | @up x y r k hx h hk ih=>
  intro hr
  cases hx2:l.getD x false with
  | true=>
   have hd:Fn t l (x:Int)=some (.done (x:Int)):=by
    unfold Fn;rw[Ad (I9 (by omega)),A6,hx2]
    rfl
   exact⟨x,Ag hd,.refl _,hx2,λz hz _=>hz⟩
  | false=>
   have hs:Fn t l (x:Int)=some (.next (y:Int)):=by
    unfold Fn;rw[Ad (I9 (by omega)),A6,hx2,L2,Ae,Ad (I9 hx),h]
   obtain⟨c,e1,e2,e3,e4⟩:=ih hr;refine⟨c,by rw[An hs,e1],.up h e2,e3,λz hz hlz=>?_⟩;rcases(anc_up (par:=Bc t) h).1 hz with rfl|hz
   ·rw[hx2]at hlz;cases hlz
   ·exact e4 z hz hlz
theorem Ze(ht:t.length<=1000){a b r k m:Nat}(ha:Tp t a r k)(hb:Tp t b r m):∃ c:Nat,Lg t (a:Int) (b:Int)=some (c:Int)/\MeetAt (Bc t) a b c:=by
 unfold Lg
 have hroom:(1000:Nat)<=room:=by decide
 rw[Ad ⟨by omega,by omega,by omega⟩,A6];obtain⟨l',h1,h2,h3⟩:=fD ha (List.replicate t.length false) (by simp);rw[h1,Aw]
 have h3':∀ z,z<t.length->(l'.getD z false=true↔UpTo (Bc t) a z):=λz hz=>by rw[h3 z hz,Ng];simp
 obtain⟨c,e1,e2,e3,e4⟩:=fE hb l' h2 ((h3' r ha.tops.1).2 ha.upTo)
 have hc:c<t.length:=by obtain⟨j,_,hj,_⟩:=hb.on e2;exact hj.lt
 refine⟨c,by rw[e1];rfl,λw=>⟨λhw=>⟨((h3' c hc).1 e3).trans hw,e2.trans hw⟩,λ⟨hw1,hw2⟩=>?_⟩⟩;obtain⟨j,_,hj,_⟩:=ha.on hw1;exact e4 w hw2 ((h3' w hj.lt).2 hw1)
theorem bp(hR:Ik t=true){a b r k m:Nat}(ha:Tp t a r k)(hb:Tp t b r m):∃ c:Nat,Lw t (a:Int) (b:Int)=(c:Int)/\MeetAt (Bc t) a b c:=by
 unfold Lw;rw[if_pos hR]
 have hcon:∀ z:Nat,(Ek t (b:Int)).contains (z:Int)=true↔UpTo (Bc t) b z:=λz=>by
  rw[ET,hb.path.1]
  constructor
  ·rintro⟨y,e,hy⟩;cases U0 e;exact hy
  ·intro hz;exact⟨z,rfl,hz⟩
 rcases ha.path.2 (λx=>(Ek t (b:Int)).contains x) with⟨e1,e2⟩|⟨f,e1,e2,e3,e4⟩
 ·have:=e2 r ha.upTo;rw[(hcon r).2 hb.upTo]at this
  cases this
 ·exact⟨f,by rw[e1];rfl,λw=>⟨λhw=>⟨e2.trans hw,((hcon f).1 e3).trans hw⟩,λ⟨hw1,hw2⟩=>e4 w hw1 ((hcon w).2 hw2)⟩⟩
theorem MeetAt.same{a b r k c d:Nat}(ha:Tp t a r k)(hc:MeetAt (Bc t) a b c)(hd:MeetAt (Bc t) a b d):c=d:=by
 obtain⟨j,_,hj,_⟩:=ha.on ((hc c).1 (.refl _)).1;exact(hj.anti ((hc d).2 ((hd d).1 (.refl _))) ((hd c).2 ((hc c).1 (.refl _)))).symm
end
theorem m_index(t:List Int)(v:Int)(ht:t.length<=1000):(∃ r:Nat,r<t.length/\t.getD r 0=v/\(∀ i,i<r->t.getD i 0≠v)/\D9 t v=some (r:Int))\/((∀ i,i<t.length->t.getD i 0≠v)/\D9 t v=some (-1)):=by
 have key:∀ k i:Nat,i+k=t.length->(∀ j,j<i->t.getD j 0≠v)->
   (∃ r:Nat,r<t.length/\t.getD r 0=v/\(∀ i,i<r->t.getD i 0≠v)/\Ai (Bv t v) (i:Int)=some (.inr (r:Int)))\/((∀ i,i<t.length->t.getD i 0≠v)/\Ai (Bv t v) (i:Int)=some (.inl ())):=by
  intro k
  induction k with
  | zero=>
   intro i hi hj
   obtain rfl:i=t.length:=by omega
   refine .inr ⟨hj,Ag ?_⟩;unfold Bv;rw[Kd];rfl
  | succ k ih=>
   intro i hi hj
   by_cases e:v=t.getD i 0
   ·refine .inl ⟨i,by omega,e.symm,hj,Ag ?_⟩;unfold Bv;have hb:((v:Int)==t.getD i 0)=true:=zzL72.2 e;simp only[Fv (show i<t.length by omega),Ae,A6,hb];rw[Ad (I9 (by omega))]
   ·have hs:Bv t v (i:Int)=some (.next ((i+1:Nat):Int)):=by
     unfold Bv;have hb:((v:Int)==t.getD i 0)=false:=zzL24.2 e;simp only[Fv (show i<t.length by omega),Ae,A6,hb,A2];rw[Ad (I9 (by omega)),w1 (by omega)]
    rw[An hs]
    exact ih (i+1) (by omega) λj hj2=>by
     by_cases ej:j=i
     ·subst ej;exact λh=>e h.symm
     ·exact hj j (by omega)
 have h0:=key t.length 0 (by omega) (λj hj=>absurd hj (Mi _));unfold D9;rcases h0 with⟨r,h1,h2,h3,h4⟩|⟨h1,h2⟩
 ·exact .inl ⟨r,h1,h2,h3,by rw[show((0:Int))=((0:Nat):Int) from rfl,h4];rfl⟩
 ·exact .inr ⟨h1,by rw[show((0:Int))=((0:Nat):Int) from rfl,h2];rfl⟩
section
variable {t:List Int}
structure Ug(t:List Int)(r f:Nat)(w:List Int):Prop where
 len:w.length=t.length
 old:∀ y,y<t.length->w.getD y 0≠0->(w.getD y 0<=(f:Int))/\∃ k,Tp t y r k
structure ZE(t:List Int)(r f x:Nat)(w:List Int):Prop where
 len:w.length=t.length
 hx:x<t.length
 old:∀ y,y<t.length->w.getD y 0≠0->w.getD y 0<=(f:Int)/\(∃ k,Tp t y r k)\/w.getD y 0=((f+1:Nat):Int)/\∀ r' k,Tp t x r' k->∃ j,k<j/\Tp t y r' j
 fwd:∀ r' k,Tp t x r' k->∃ j,k<=j/\Tp t f r' j
 back:∀ r' k,Tp t f r' k->∃ j,Tp t x r' j
def IB(w:List Int):Nat:=w.countP λz=>z==0
theorem YG{w:List Int}{x:Nat}{v:Int}(hx:x<w.length)(h0:w.getD x 0=0)(hv:v≠0):IB (w.set x v)<IB w:=by
 unfold IB;rw[List.countP_set hx];rw[Aa _ _ _ hx]at h0;have hp:0<w.countP λz=>z==0:=List.countP_pos_iff.2 ⟨w[x],Xi hx,by simp[h0]⟩;have hb:(v==0)=false:=zzL24.2 hv;simp only[h0,Pm,G9,hb,Xf,En];omega
theorem leads_loop(ht:t.length<=1000){r:Nat}(hr:r<t.length)(htop:t.getD r 0 = -1){f:Nat}(hf:f<t.length):∀(m x:Nat) (w:List Int),IB w<=m->ZE t r f x w->
  (∃ w',Ai (Cs t (f:Int) (r:Int)) ((x:Int),w)=some (.inl w')/\Ug t r (f+1) w'/\∃ k,Tp t f r k) \/
  ∃ b w',Ai (Cs t (f:Int) (r:Int)) ((x:Int),w)=some (.inr (b,w'))/\w'.length=t.length/\(b=true->Ug t r (f+1) w'/\∃ k,Tp t f r k)/\(b=false->∀ k,¬ Tp t f r k):=by
 intro m
 induction m with
 | zero=>
  intro x w hz hw;exact go 0 (λx w hz=>absurd hz (Mi _)) x w hz hw
 | succ m ih=>
  intro x w hz hw;exact go (m+1) (λx w hz=>ih x w (Nat.le_of_lt_succ hz)) x w hz hw
where
 go (m:Nat) (ih:∀(x:Nat) (w:List Int),IB w<m->ZE t r f x w->
  (∃ w',Ai (Cs t (f:Int) (r:Int)) ((x:Int),w)=some (.inl w')/\Ug t r (f+1) w'/\∃ k,Tp t f r k) \/
  ∃ b w',Ai (Cs t (f:Int) (r:Int)) ((x:Int),w)=some (.inr (b,w'))/\w'.length=t.length/\(b=true->Ug t r (f+1) w'/\∃ k,Tp t f r k)/\(b=false->∀ k,¬ Tp t f r k)) (x:Nat) (w:List Int) (hz:IB w<=m) (hw:ZE t r f x w) :
  (∃ w',Ai (Cs t (f:Int) (r:Int)) ((x:Int),w)=some (.inl w')/\Ug t r (f+1) w'/\∃ k,Tp t f r k) \/
  ∃ b w',Ai (Cs t (f:Int) (r:Int)) ((x:Int),w)=some (.inr (b,w'))/\w'.length=t.length/\(b=true->Ug t r (f+1) w'/\∃ k,Tp t f r k)/\(b=false->∀ k,¬ Tp t f r k):=by
  have hxl:=hw.hx
  have told:∀ k,Tp t x r k->Ug t r (f+1) w/\∃ k,Tp t f r k:=λk hk=>by
   obtain⟨j,_,hj⟩:=hw.fwd _ _ hk;refine⟨⟨hw.len,λy hy hy0=>?_⟩,j,hj⟩;rcases hw.old y hy hy0 with⟨h1,h2⟩|⟨h1,h2⟩
   ·exact⟨by omega,h2⟩
   ·obtain⟨i,_,hi⟩:=h2 _ _ hk;exact⟨by omega,i,hi⟩
  by_cases hxr:x=r
  ·subst hxr;refine .inl ⟨w,Ag ?_,told 0 (.top hr htop)⟩;unfold Cs
   have hb:((x:Int)!=(x:Int))=false:=by simp
   simp only[hb,A2]
  ·have hb:((x:Int)!=(r:Int))=true:=by rw[zzL91];omega
   have hin:Cd (x:Int) w.length:=I9 (by rw[hw.len];exact hxl)
   by_cases hw0:w.getD x 0=0
   ·have hb0:((w.getD x 0:Int)!=0)=false:=by rw[hw0];rfl
    by_cases hpl:0<=t.getD x 0/\t.getD x 0<(t.length:Int)
    ·have hwf:Bd ((f:Int)+1)=((f+1:Nat):Int):=w1 (by omega)
     have hs:Cs t (f:Int) (r:Int) ((x:Int),w)=some (.next (t.getD x 0,w.set x ((f+1:Nat):Int))):=by
      unfold Cs Hw;simp only[hb,Ae,A6,hb0,A2];rw[Ad hin,Ad (I9 hxl),Fy hpl.1,Fy hpl.2,Ae,Aw,Fd,A2,Ad hin,Ad (I9 hxl),hwf]
     rw[An hs];obtain⟨y,hy⟩:∃ y:Nat,t.getD x 0=(y:Int):=⟨(t.getD x 0).toNat,(Uz hpl.1).symm⟩;rw[hy]at hpl ⊢
     have hyl:y<t.length:=by omega
     have hst:∀ r' k,Tp t y r' k->Tp t x r' (k+1):=λr' k hk=>.up hxl hy hk
     have hset:∀ z,z<t.length->(w.set x ((f+1:Nat):Int)).getD z 0=if z=x then((f+1:Nat):Int) else w.getD z 0:=λz _=>CI (by rw[hw.len];exact hxl)
     have hW:ZE t r f y (w.set x ((f+1:Nat):Int)):=by
      refine⟨by simp[hw.len],hyl,λz hzl hz0=>?_,λr' k hk=>?_,λr' k hk=>?_⟩
      ·rw[hset z hzl]at hz0 ⊢
       by_cases e:z=x
       ·subst e;rw[if_pos rfl];exact .inr ⟨rfl,λr' k hk=>⟨k+1,by omega,hst r' k hk⟩⟩
       ·rw[if_neg e]at hz0 ⊢;rcases hw.old z hzl hz0 with h1|⟨h1,h2⟩
        ·exact .inl h1
        ·refine .inr ⟨h1,λr' k hk=>?_⟩;obtain⟨j,hj1,hj2⟩:=h2 _ _ (hst r' k hk);exact⟨j,by omega,hj2⟩
      ·obtain⟨j,hj1,hj2⟩:=hw.fwd _ _ (hst r' k hk);exact⟨j,by omega,hj2⟩
      ·obtain⟨j,hj⟩:=hw.back _ _ hk
       cases hj with
       | top _ h2=>omega
       | up _ h2 h3=>
        have:=hy.symm.trans h2
        cases U0 this
        exact⟨_,h3⟩
     have hzz:=YG (x:=x) (v:=((f+1:Nat):Int)) (by rw[hw.len];exact hxl) hw0 (by omega);exact ih y _ (by omega) hW
    ·refine .inr ⟨false,w,Ag ?_,hw.len,⟨λh=>(by cases h),λ_ k hk=>?_⟩⟩
     ·unfold Cs Hw;simp only[hb,Ae,A6,hb0,A2];rw[Ad hin,Ad (I9 hxl)]
      have:(bif decide ((0:Int)<=t.getD x 0) then decide (t.getD x 0<(t.length:Int)) else false)=false:=by
       cases h1:decide ((0:Int)<=t.getD x 0) with
       | false=>rfl
       | true=>rw[Ae];exact Gy λh2=>hpl ⟨Xg h1,h2⟩
      rw[this,Aw]
      rfl
     ·obtain⟨j,hj⟩:=hw.back _ _ hk
      cases hj with
      | top=>exact hxr rfl
      | up _ h2 h3=>have:=h3.lt;exact hpl ⟨by omega,by omega⟩
   ·have hb0:((w.getD x 0:Int)!=0)=true:=by rw[zzL91];exact hw0
    have hwf:Bd ((f:Int)+1)=((f+1:Nat):Int):=w1 (by omega);refine .inr ⟨w.getD x 0 !=((f+1:Nat):Int),w,Ag ?_,hw.len,⟨λh=>?_,λh k hk=>?_⟩⟩
    ·unfold Cs;simp only[hb,Ae,A6,hb0];rw[Ad hin,Ad hin,hwf]
    ·rcases hw.old x hxl hw0 with⟨_,k,hk⟩|⟨h1,_⟩
     ·exact told k hk
     ·rw[h1]at h;simp at h
    ·have he:w.getD x 0=((f+1:Nat):Int):=by simpa using h
     obtain⟨j,hj⟩:=hw.back _ _ hk;rcases hw.old x hxl hw0 with⟨h1,_⟩|⟨_,h2⟩
     ·omega
     ·obtain⟨i,hi1,hi2⟩:=h2 _ _ hj;have:=hj.det hi2;omega
end
section
variable {t:List Int}
theorem e8(ht:t.length<=1000){r:Nat}(hr:r<t.length)(htop:t.getD r 0 = -1){f:Nat}(hf:f<t.length){w:List Int}(hw:Ug t r f w) :
  ∃ b w',N7 t w (f:Int) (r:Int)=some (b,w')/\w'.length=t.length/\(b=true->Ug t r (f+1) w'/\∃ k,Tp t f r k)/\(b=false->∀ k,¬ Tp t f r k):=by
 unfold N7;have hW:ZE t r f f w:=⟨hw.len,hf,λy hy h0=>.inl (hw.old y hy h0),λr' k hk=>⟨k,zzL8 _,hk⟩,λr' k hk=>⟨k,hk⟩⟩;rcases leads_loop ht hr htop hf _ f w (zzL8 _) hW with⟨w',e1,e2⟩|⟨b,w',e1,e2,e3,e4⟩
 ·exact⟨true,w',by rw[e1];rfl,e2.1.len,λ_=>e2,λh=>by cases h⟩
 ·exact⟨b,w',by rw[e1];rfl,e2,e3,e4⟩
def FY(t:List Int)(r:Nat):Prop:=∀ f,f<t.length->t.getD f 0≠-2->∃ k,Tp t f r k
open Classical in
theorem MQ(ht:t.length<=1000){r:Nat}(hr:r<t.length)(htop:t.getD r 0 = -1):∀(k f:Nat) (w:List Int),f+k=t.length->Ug t r f w->(∀ y,y<f->t.getD y 0≠-2->∃ k,Tp t y r k)->
  Ai (Ec t (r:Int)) ((f:Int),w)=some (if FY t r then .inl () else .inr false):=by
 intro k
 induction k with
 | zero=>
  intro f w hk hw hd
  obtain rfl:f=t.length:=by omega
  apply Ag
  unfold Ec;simp only[Kd,A2];rw[if_pos (show FY t r from hd)]
 | succ k ih=>
  intro f w hk hw hd
  have hf:f<t.length:=by omega
  by_cases h2:t.getD f 0 = -2
  ·have hb:((t.getD f 0:Int)!=(-2))=false:=by rw[h2];rfl
   have hs:Ec t (r:Int) ((f:Int),w)=some (.next (((f+1:Nat):Int),w)):=by
    unfold Ec;simp only[Fv hf,Ae,A6,hb,show(false==true)=false from rfl,A2,Aw];rw[Ad (I9 hf),Ad (λh=>by cases h),w1 (by omega)]
   rw[An hs];refine ih (f+1) w (by omega) ⟨hw.len,λy hy h0=>?_⟩ λy hy hy2=>?_
   ·obtain⟨e1,e2⟩:=hw.old y hy h0;exact⟨by omega,e2⟩
   ·by_cases e:y=f
    ·subst e;exact absurd h2 hy2
    ·exact hd y (by omega) hy2
  ·have hb:((t.getD f 0:Int)!=(-2))=true:=by rw[zzL91];exact h2
   obtain⟨b,w',e1,e2,e3,e4⟩:=e8 ht hr htop hf hw
   cases b with
   | false=>
    rw[if_neg (λhA:FY t r=>by obtain⟨k,hk⟩:=hA f hf h2;exact e4 rfl k hk)]
    apply Ag
    unfold Ec;simp only[Fv hf,Ae,A6,hb,show(true==true)=true from rfl,e1,Aw];rw[Ad (I9 hf),Ad (λ_=>by rw[hw.len,e2])]
    rfl
   | true=>
    have hs:Ec t (r:Int) ((f:Int),w)=some (.next (((f+1:Nat):Int),w')):=by
     unfold Ec;simp only[Fv hf,Ae,A6,hb,show(true==true)=true from rfl,e1,Aw];rw[Ad (I9 hf),Ad (λ_=>by rw[hw.len,e2]),w1 (by omega)]
     rfl
    rw[An hs];obtain⟨e5,e6⟩:=e3 rfl;refine ih (f+1) w' (by omega) e5 λy hy hy2=>?_
    by_cases e:y=f
    ·subst e;exact e6
    ·exact hd y (by omega) hy2
theorem cl:Xa t t.length=1↔∃ r,r<t.length/\t.getD r 0 = -1/\∀ x,x<t.length->t.getD x 0 = -1->x=r:=by
 have key:∀ n,(Xa t n=0↔∀ x,x<n->t.getD x 0≠-1)/\(Xa t n=1↔∃ r,r<n/\t.getD r 0 = -1/\∀ x,x<n->t.getD x 0 = -1->x=r):=by
  intro n
  induction n with
  | zero=>exact⟨⟨λ_ x hx=>absurd hx (Mi _),λ_=>rfl⟩,⟨λh=>by simp[Xa]at h,λ⟨r,h,_⟩=>absurd h (Mi _)⟩⟩
  | succ n ih=>
   rw[EK]
   by_cases e:t.getD n 0 = -1
   ·rw[if_pos e];refine⟨⟨λh=>by omega,λh=>absurd e (h n (by omega))⟩,⟨λh=>⟨n,by omega,e,λx hx hx1=>?_⟩,λ⟨r,h1,h2,h3⟩=>?_⟩⟩
    ·by_cases ex:x=n
     ·exact ex
     ·exact absurd hx1 (ih.1.1 (by omega) x (by omega))
    ·have:=ih.1.2 λx hx hx1=>by
      have:=h3 x (by omega) hx1;have:=h3 n (by omega) e;omega
     omega
   ·rw[if_neg e,K6];refine⟨⟨λh x hx=>?_,λh=>ih.1.2 λx hx=>h x (by omega)⟩,⟨λh=>?_,λ⟨r,h1,h2,h3⟩=>?_⟩⟩
    ·by_cases ex:x=n
     ·subst ex;exact e
     ·exact ih.1.1 h x (by omega)
    ·obtain⟨r,h1,h2,h3⟩:=ih.2.1 h;refine⟨r,by omega,h2,λx hx hx1=>?_⟩
     by_cases ex:x=n
     ·subst ex;exact absurd hx1 e
     ·exact h3 x (by omega) hx1
    ·refine ih.2.2 ⟨r,?_,h2,λx hx hx1=>h3 x (by omega) hx1⟩
     by_cases ex:r=n
     ·subst ex;exact absurd h2 e
     ·omega
 exact(key _).2
theorem rightD_iff:Ik t=true↔∃ r,r<t.length/\t.getD r 0 = -1/\FY t r:=by
 unfold Ik;rw[A4,all_range,D0,cl]
 constructor
 ·rintro⟨h1,r,h2,h3,h4⟩;refine⟨r,h2,h3,λf hf hf2=>?_⟩;have:=h1 f hf;unfold lG at this;rw[Xk,D0,Oi,IC]at this;rcases this with h|h
  ·exact absurd h hf2
  ·obtain⟨x,r',k,e,hk⟩:=pathD_tp.1 h
   cases U0 e
   have:=h4 _ hk.tops.1 hk.tops.2;subst this;exact⟨k,hk⟩
 ·rintro⟨r,h2,h3,h4⟩;refine⟨λf hf=>?_,r,h2,h3,λx hx hx1=>?_⟩
  ·unfold lG;rw[Xk,D0,Oi,IC]
   by_cases e:t.getD f 0 = -2
   ·exact .inl e
   ·obtain⟨k,hk⟩:=h4 f hf e;exact .inr (pathD_tp.2 ⟨f,r,k,rfl,hk⟩)
  ·obtain⟨k,hk⟩:=h4 x hx (by omega);exact((hk.det (.top hx hx1)).1).symm
theorem HR(hR:Ik t=true):∃ r,FY t r:=by obtain⟨r,_,_,h⟩:=rightD_iff.1 hR;exact⟨r,h⟩
theorem bi(ht:t.length<=1000):Mo t=some (Ik t):=by
 unfold Mo
 have hroom:(1000:Nat)<=room:=by decide
 rcases m_index t (-1) ht with⟨r,h1,h2,h3,h4⟩|⟨h1,h2⟩
 ·rw[h4,Aw,show decide ((r:Int)<0)=false from Gy (by omega),A2,Ad ⟨by omega,by omega,by omega⟩,A6];have hl:=MQ ht h1 h2 t.length 0 (List.replicate t.length 0) (by omega) ⟨by simp,λy hy h0=>absurd Ng h0⟩ (λy hy=>absurd hy (Mi _));rw[show(((0:Nat):Int))=0 from rfl]at hl;rw[hl,Aw]
  by_cases hA:FY t r
  ·rw[if_pos hA,rightD_iff.2 ⟨r,h1,h2,hA⟩]
  ·rw[if_neg hA]
   have:Ik t=false:=Bool.eq_false_iff.2 λhR=>by
    obtain⟨r',g1,g2,g3⟩:=rightD_iff.1 hR;obtain⟨k,hk⟩:=g3 r h1 (by omega);have:=(hk.det (.top h1 h2)).1;subst this;exact hA g3
   rw[this]
 ·rw[h2,Aw]
  have:Ik t=false:=Bool.eq_false_iff.2 λhR=>by
   obtain⟨r',g1,g2,g3⟩:=rightD_iff.1 hR;exact h1 r' g1 g2
  rw[this]
  rfl
def Ve(t:List Int)(a:Int):Bool:=decide (0<=a)&&decide (a<(t.length:Int))&&decide (t.getD a.toNat 0≠-2)
theorem CK(hR:Ik t=true){a:Int}:Ve t a=true↔∃ x k r:Nat,a=(x:Int)/\Tp t x r k:=by
 unfold Ve;rw[A4,A4,D0,D0,D0]
 constructor
 ·rintro⟨⟨h1,h2⟩,h3⟩;obtain⟨r,hA⟩:=HR hR;obtain⟨k,hk⟩:=hA a.toNat (by omega) h3;exact⟨a.toNat,k,r,(Uz h1).symm,hk⟩
 ·rintro⟨x,k,r,rfl,h⟩;have:=h.lt;refine⟨⟨by omega,by omega⟩,?_⟩;rw[A6]
  cases h with
  | top _ h2=>omega
  | up _ h2 _=>omega
theorem CT(a:Int):Ib t a=some (Ve t a):=by
 unfold Ib Hw Ve;rw[Aw]
 cases h1:decide ((0:Int)<=a) with
 | false=>rfl
 | true=>
  rw[Ae,G8]
  cases h2:decide (a<(t.length:Int)) with
  | false=>rfl
  | true=>
   rw[Ad (λ_=>⟨Xg h1,Xg h2⟩),Ae,G8]
   congr 1
   rw[Mh,zzL91,D0]
theorem e7(ht:t.length<=1000)(a b:Int):N6 t a b=some (Ik t&&Ve t a&&Ve t b):=by
 unfold N6;rw[bi ht,Aw]
 cases Ik t with
 | false=>rfl
 | true=>
  simp only[show(true==true)=true from rfl,Ae,CT,Aw,G8]
  cases Ve t a with
  | false=>rfl
  | true=>simp only[show(true==true)=true from rfl,Ae,CT,Aw,G8]
theorem XC{a b:Int}(h:(Ik t&&Ve t a&&Ve t b)=false):Lw t a b = -2:=by
 unfold Lw
 by_cases hR:Ik t=true
 ·rw[if_pos hR];rw[hR,G8]at h
  have hno:∀ c,Ve t c=false->Ek t c=[]:=λc hc=>by
   by_cases e:Ek t c=[]
   ·exact e
   ·obtain⟨x,r,k,e1,e2⟩:=pathD_tp.1 e;rw[(CK hR).2 ⟨x,k,r,e1,e2⟩]at hc;cases hc
  cases ha:Ve t a with
  | false=>rw[hno a ha];rfl
  | true=>
   rw[ha,G8]at h;rw[hno b h]
   have:((Ek t a).find? λx=>([]:List Int).contains x)=none:=List.find?_eq_none.2 λx _=>by simp
   rw[this]
   rfl
 ·rw[if_neg hR]
theorem FG(ht:t.length<=1000){a b:Int}(h:(Ik t&&Ve t a&&Ve t b)=true):Lg t a b=some (Lw t a b)/\0<=Lw t a b:=by
 rw[A4,A4]at h;obtain⟨⟨hR,ha⟩,hb⟩:=h;obtain⟨x,k,r,rfl,hx⟩:=(CK hR).1 ha;obtain⟨y,m,r',rfl,hy⟩:=(CK hR).1 hb;obtain⟨rr,hA⟩:=HR hR
 have top:∀{x r k},Tp t x r k->r=rr:=λ{x r k} h=>by
  obtain⟨i,hi⟩:=hA r h.tops.1 (by rw[h.tops.2];omega);exact((Tp.top h.tops.1 h.tops.2).det hi).1
 obtain rfl:=top hx;obtain rfl:=top hy;obtain⟨c,h1,h2⟩:=Ze ht hx hy;obtain⟨d,h3,h4⟩:=bp hR hx hy;have:=h2.same hx h4;subst this;exact⟨by rw[h1,h3],by omega⟩
theorem il(ht:t.length<=1000)(a b:Int):Qb t a b=some (Nd t a b):=by
 unfold Qb Nd;rw[e7 ht,Aw]
 cases h:(Ik t&&Ve t a&&Ve t b) with
 | false=>
  rw[XC h]
  have:((-2:Int)==a&&((-2:Int)!=-2))=false:=by simp
  rw[this]
  rfl
 | true=>
  obtain⟨h1,h2⟩:=FG ht h;simp only[show(true==true)=true from rfl,Ae,h1,Aw]
  have:(Lw t a b !=-2)=true:=by rw[zzL91];omega
  rw[this,Yx]
end
theorem fI:∀ n:Fin 65,Lc (Dt 1) (Dt ((n.val:Nat):Int))=some (0,((n.val:Nat):Int)):=by decide +kernel
theorem XF{n:Nat}(h:n<=64):Lc (Dt 1) (Dt (n:Int))=some (0,(n:Int)):=fI ⟨n,by omega⟩
theorem OL{v:Int}{n:Nat}(hn:n<=64):∀(m i:Nat) (l:List Int),n-i<=m->1<=i->i<=n->l.length=n->(∀ j,j<i->l.getD j 0=v)->Ai Ca ((i:Int),l)=some (List.replicate n v):=by
 intro m
 induction m with
 | zero=>
  intro i l hm h1 h2 hl hv
  obtain rfl:i=n:=by omega
  exact fin l hl hv
 | succ m ih=>
  intro i l hm h1 h2 hl hv
  by_cases e:i=n
  ·subst e;exact fin l hl hv
  ·have hs:Ca ((i:Int),l)=some (.next (((i+Nat.min i (n-i):Nat):Int),QY l i (Nat.min i (n-i)) (λj=>l.getD (0+j) 0))):=by
    unfold Ca;simp only[hl,Fv (show i<n by omega),Ae,A6,Fs,S8];have hc:(0:Int)<=(i:Int)/\i<=n:=⟨by omega,h2⟩;have hmn:Nat.min i (n-i)<=i:=Nat.min_le_left _ _;rw[Ad hc,Ad hc,Gv (by omega) (by omega),Int.natCast_add]
   rw[An hs];have hmn:Nat.min i (n-i)<=i/\Nat.min i (n-i)<=n-i:=⟨Nat.min_le_left _ _,Nat.min_le_right _ _⟩;have hge:1<=Nat.min i (n-i):=Nat.le_min.2 ⟨h1,by omega⟩;refine ih _ _ (by omega) (by omega) (by omega) (by rw[<- Fu];exact hl) λj hj=>?_;rw[CB _ _ _ _ _ _ (by omega)]
   by_cases hji:i<=j/\j<i+Nat.min i (n-i)
   ·rw[if_pos hji,Fs];exact hv _ (by omega)
   ·rw[if_neg hji];exact hv _ (by omega)
where
 fin {v:Int} {i:Nat} (l:List Int) (hl:l.length=i) (hv:∀ j,j<i->l.getD j 0=v):Ai Ca ((i:Int),l)=some (List.replicate i v):=by
  apply Ag
  unfold Ca;simp only[hl,Kd,A2]
  congr 2
  refine Yv (by simp[hl]) λj h1 h2=>?_;rw[<- Aa _ _ 0 h1,hv j (by omega)]
  simp
theorem bj{v:Int}{n:Nat}(h1:1<=n)(hn:n<=64):E5 [v] (n:Int)=some (List.replicate n v):=by
 have hroom:(64:Nat)<=room:=by decide
 unfold E5;rw[show decide ((n:Int)<0)=false from Gy (by omega),A2,Aw]
 show Option.bind (Lc (Dt 1) (Dt (n:Int))) _=_
 rw[XF hn,Aw];have e1:decide ((0:Int)<(0:Int))=false:=rfl;have e2:decide ((9223372036854775807:Int)<(n:Int))=false:=Gy (by omega);simp only[e1,e2,A2,Aw];have ew:Bd (n:Int)=(n:Int):=Gv (by omega) (by omega);rw[ew,Ad ⟨by omega,by omega,by omega⟩,A6,Xe,S8];have em:Nat.min [v].length n=1:=Nat.min_eq_left h1;rw[em,OL hn n 1 _ (by omega) (zzL8 _) h1 (by rw[<- Fu];simp) (λj hj=>?_)]
 ·rfl
 ·rw[CB _ _ _ _ _ _ (by simp;omega),if_pos ⟨by omega,by omega⟩]
  have:j-0=0:=by omega
  rw[this];rfl
section
variable {S:Nat->List Nat} {r n:Nat} {P:List Nat}
theorem Inv.tp{at_:Nat->Nat}{t:List Int}(h:Inv S r n at_ (Bc t))(hl:t.length=n):∀ m x,at_ x<=m->x<n->Bc t x≠-2->∃ k,Tp t x r k:=by
 intro m
 induction m with
 | zero=>
  intro x hm hx hp;rcases h.kind x hx with h1|h1|⟨z,hz⟩
  ·exact absurd h1 hp
  ·subst h1;exact⟨0,.top (by omega) h.top⟩
  ·obtain⟨_,_,h3,_⟩:=h.up x hx z hz;omega
 | succ m ih=>
  intro x hm hx hp;rcases h.kind x hx with h1|h1|⟨z,hz⟩
  ·exact absurd h1 hp
  ·subst h1;exact⟨0,.top (by omega) h.top⟩
  ·obtain⟨z1,z2,z3,_⟩:=h.up x hx z hz;obtain⟨k,hk⟩:=ih z (by omega) z1 z2;exact⟨k+1,.up (by omega) hz hk⟩
def V0(t l:List Int)(i:Nat)(v:Int):Prop:=
 (v = -2/\∀ j,j<i->Bc t (l.getD j 0).toNat = -2) \/
 ∃ z:Nat,v=(z:Int)/\z<t.length/\Bc t z≠-2/\(∀ w,UpTo (Bc t) z w↔∀ j,j<i->Bc t (l.getD j 0).toNat≠-2->UpTo (Bc t) (l.getD j 0).toNat w)
theorem KA{at_:Nat->Nat}{t l:List Int}(ht:t.length<=64)(hll:l.length<=64)(h:Inv S r n at_ (Bc t))(hl:t.length=n)(hin:∀ x∈l,0<=x/\x<(n:Int)):∀(k i:Nat) (v:Int),i+k=l.length->V0 t l i v->
  ∃ v',Ai (Dx t l) (v,(i:Int))=some v'/\V0 t l l.length v':=by
 intro k
 induction k with
 | zero=>
  intro i v hi hv
  obtain rfl:i=l.length:=by omega
  refine⟨v,Ag ?_,hv⟩;unfold Dx;simp only[Kd,A2]
 | succ k ih=>
  intro i v hi hv
  have hil:i<l.length:=by omega
  obtain⟨x0,x1⟩:=hin _ (getD_mem (d:=0) hil);have hxe:(((l.getD i 0).toNat:Nat):Int)=l.getD i 0:=Uz x0;have hxin:Cd (l.getD i 0) t.length:=kD x0 (by omega)
  have next:∀ v',Dx t l (v,(i:Int))=some (.next (v',((i+1:Nat):Int)))->V0 t l (i+1) v'->∃ v',Ai (Dx t l) (v,(i:Int))=some v'/\V0 t l l.length v':=λv' hs hv'=>by
   rw[An hs];exact ih (i+1) v' (by omega) hv'
  by_cases hp:Bc t (l.getD i 0).toNat = -2
  ·have hb:((t.getD (l.getD i 0).toNat 0:Int)==-2)=true:=zzL72.2 hp;refine next v ?_ ?_
   ·unfold Dx;simp only[Fv hil,Ae,A6,hb];rw[Ad (I9 hil),Ad hxin,Aw,w1 (by omega)]
   ·have hstep:∀ w,(∀ j,j<i->Bc t (l.getD j 0).toNat≠-2->UpTo (Bc t) (l.getD j 0).toNat w)↔∀ j,j<i+1->Bc t (l.getD j 0).toNat≠-2->UpTo (Bc t) (l.getD j 0).toNat w:=λw=>by
     refine⟨λhj j hj1 hj2=>?_,λhj j hj1=>hj j (by omega)⟩
     by_cases e:j=i
     ·subst e;exact absurd hp hj2
     ·exact hj j (by omega) hj2
    rcases hv with⟨h1,h2⟩|⟨z,h1,h2,h3,h4⟩
    ·refine .inl ⟨h1,λj hj=>?_⟩
     by_cases e:j=i
     ·subst e;exact hp
     ·exact h2 j (by omega)
    ·exact .inr ⟨z,h1,h2,h3,λw=>by rw[h4 w,hstep w]⟩
  ·have hb:((t.getD (l.getD i 0).toNat 0:Int)==-2)=false:=zzL24.2 hp;rcases hv with⟨h1,h2⟩|⟨z,h1,h2,h3,h4⟩
   ·subst h1;refine next (l.getD i 0) ?_ (.inr ⟨(l.getD i 0).toNat,hxe.symm,by omega,hp,λw=>⟨λhw j hj hj2=>?_,λhw=>hw i (by omega) hp⟩⟩)
    ·unfold Dx;simp only[Fv hil,Ae,A6,hb,A2,show((-2:Int)==-2)=true from rfl];rw[Ad (I9 hil),Ad hxin,Aw,w1 (by omega)]
    ·by_cases e:j=i
     ·subst e;exact hw
     ·exact absurd (h2 j (by omega)) hj2
   ·subst h1;have hb2:((z:Int)==-2)=false:=zzL24.2 (by omega);obtain⟨k1,hk1⟩:=h.tp hl _ z (zzL8 _) (by omega) h3;obtain⟨k2,hk2⟩:=h.tp hl _ (l.getD i 0).toNat (zzL8 _) (by omega) hp;obtain⟨c,c1,c2⟩:=Ze (by omega) hk1 hk2;have hcz:=(c2 c).1 (.refl _);obtain⟨jc,_,hjc,_⟩:=hk1.on hcz.1
    have hcp:Bc t c≠-2:=by
     show t.getD c 0≠-2
     cases hjc with
     | top _ h=>omega
     | up _ h _=>omega
    refine next (c:Int) ?_ (.inr ⟨c,rfl,hjc.lt,hcp,λw=>?_⟩)
    ·rw[hxe]at c1;unfold Dx;simp only[Fv hil,Ae,A6,hb,A2,hb2,c1,Aw];rw[Ad (I9 hil),Ad hxin,Aw,w1 (by omega)]
    ·rw[c2 w,h4 w];refine⟨λ⟨a1,a2⟩ j hj hj2=>?_,λha=>⟨λj hj=>ha j (by omega),ha i (by omega) hp⟩⟩
     by_cases e:j=i
     ·subst e;exact a2
     ·exact a1 j (by omega) hj2
theorem WY{at_:Nat->Nat}{t l:List Int}(ht:t.length<=64)(hll:l.length<=64)(h:Inv S r n at_ (Bc t))(hl:t.length=n)(hin:∀ x∈l,0<=x/\x<(n:Int)) :
  ∃ v,Hx t l=some v/\V0 t l l.length v:=by
 obtain⟨v,h1,h2⟩:=KA ht hll h hl hin l.length 0 (-2) (by omega) (.inl ⟨rfl,λj hj=>absurd hj (Mi _)⟩);refine⟨v,?_,h2⟩;unfold Hx;rw[show((0:Int))=((0:Nat):Int) from rfl,h1]
 rfl
end
section
variable {L:List (List Int)} (hm:Li L=true) {r:Nat} {P:List Nat}
include hm
theorem cX{p y:Nat}(hp:p<L.length):y∈sN L p↔Y9 L p y=true:=by
 rw[bT];obtain⟨_,_,h3⟩:=mayS_iff.1 hm
 constructor
 ·intro h;obtain⟨x,hx,rfl⟩:=zzL22.1 h;have:=UL (h3 p hp) hx;rw[Uz this.1];exact hx
 ·intro h;exact zzL22.2 ⟨_,h,A6 y⟩
theorem W0{y:Nat}(hy:y<L.length){x:Int}:x∈(Fb L).getD y []↔∃ p:Nat,x=(p:Int)/\p<L.length/\y∈sN L p:=by
 rw[HM hy];unfold Jt;rw[bq]
 constructor
 ·rintro⟨k,h1,h2,h3⟩;exact⟨k,h1,h2,(cX hm h2).2 h3⟩
 ·rintro⟨k,h1,h2,h3⟩;exact⟨k,h1,h2,(cX hm h2).1 h3⟩
theorem JZ(o:Ordered (sN L) r L.length P){t:List Int}{i:Nat}(h:Ready (sN L) r L.length P t i)(hi:i<P.length) :
  Hx t ((Fb L).getD (P.getD i 0) [])=some (Jo (sN L) L.length t (P.getD i 0):Int):=by
 obtain⟨hL1,hL64,_⟩:=mayS_iff.1 hm;have hyn:P.getD i 0<L.length:=o.lt (Em _ (Mw hi))
 have hlen:((Fb L).getD (P.getD i 0) []).length<=64:=by
  rw[HM hyn];have:=Vj L L.length (P.getD i 0);omega
 obtain⟨v,h1,h2⟩:=WY (by rw[h.len];exact hL64) hlen h.inv h.len λx hx=>by
  obtain⟨p,rfl,hp,_⟩:=(W0 hm hyn).1 hx;omega
 rw[h1];have hb:=h.best o hi
 have mem:∀ p,p<L.length->P.getD i 0∈sN L p->∃ j,j<((Fb L).getD (P.getD i 0) []).length/\(((Fb L).getD (P.getD i 0) []).getD j 0).toNat=p:=λp hp hy=>by
  obtain⟨j,hj,e⟩:=K4 ((W0 hm hyn).2 ⟨p,rfl,hp,hy⟩);exact⟨j,hj,by rw[Aa _ _ _ hj,e,A6]⟩
 have mem':∀ j,j<((Fb L).getD (P.getD i 0) []).length->(((Fb L).getD (P.getD i 0) []).getD j 0).toNat<L.length/\P.getD i 0∈sN L (((Fb L).getD (P.getD i 0) []).getD j 0).toNat:=λj hj=>by
  obtain⟨p,e,hp,hy⟩:=(W0 hm hyn).1 (getD_mem (d:=(0:Int)) hj);rw[e,A6];exact⟨hp,hy⟩
 rcases h2 with⟨rfl,h3⟩|⟨z,rfl,hz,hz2,h4⟩
 ·obtain⟨p,hp,hyp,hp2,_⟩:=hb.fwd;obtain⟨j,hj,e⟩:=mem p hp hyp;exact absurd (by rw[<- e];exact h3 j hj) hp2
 ·have hbest:PX (sN L) L.length (Bc t) (P.getD i 0) z:=λw=>by
   rw[h4 w];refine⟨λha p hp hyp hp2=>?_,λha j hj hj2=>?_⟩
   ·obtain⟨j,hj,e⟩:=mem p hp hyp;have:=ha j hj (by rw[e];exact hp2);rwa[e]at this
   ·obtain⟨q1,q2⟩:=mem' j hj;exact ha _ q1 q2 hj2
  rw[h.best_eq o hi (by rw[<- h.len];exact hz) hz2 hbest]
end
theorem NL{P:List Nat}{i:Nat}(h:i<P.length):(Ot P).getD i 0=((P.getD i 0:Nat):Int):=by
 unfold Ot;rw[Aa _ _ _ (by simpa using h),Aa _ _ _ h,List.getElem_map]
 rfl
theorem ON{t:List Int}{x:Nat}{v:Int}(hx:x<t.length)(h:t.getD x 0=v):t.set x v=t:=by
 subst h;rw[Aa _ _ _ hx];exact List.set_getElem_self hx
section
variable {L:List (List Int)} (hm:Li L=true) {r:Nat} {P:List Nat} (o:Ordered (sN L) r L.length P)
include hm o
theorem SI{t0:List Int}(h:Ready (sN L) r L.length P t0 0):∀(k i:Nat) (b:Bool),i+k=P.length->
  ∃ b',Ai (Dr (Xr L) (Ot (r::P))) (b,(i:Int),Rw (sN L) L.length P t0 i)=some (b',Rw (sN L) L.length P t0 P.length) /\
   (b'=false↔b=false/\∀ j,i<=j->j<P.length->Bc (Rw (sN L) L.length P t0 j) (P.getD j 0)=(Jo (sN L) L.length (Rw (sN L) L.length P t0 j) (P.getD j 0):Int)):=by
 have hP64:P.length<=64:=by
  have h1:=Lj L.length (r::P) o.nodup λx hx=>o.lt hx;have h2:=(mayS_iff.1 hm).2.1;simp at h1;omega
 have hdl:(Ot (r::P)).drop (1:Int).toNat=Ot P:=rfl
 have hlen:(Ot P).length=P.length:=by simp[Ot]
 intro k
 induction k with
 | zero=>
  intro i b hi
  obtain rfl:i=P.length:=by omega
  refine⟨b,Ag ?_,λh=>⟨h,λj h1 h2=>by omega⟩,λh=>h.1⟩;unfold Dr;simp only[hdl,hlen,Kd,A2]
 | succ k ih=>
  intro i b hi
  have hil:i<P.length:=by omega
  have rd:=h.round o i (by omega);have hma:=JZ hm o rd hil;have hyn:P.getD i 0<L.length:=o.lt (Em _ (Mw hil))
  have hyt:P.getD i 0<(Rw (sN L) L.length P t0 i).length:=by rw[rd.len];exact hyn
  have hpred:(Xr L).Pred=Fb L:=rfl
  by_cases he:Bc (Rw (sN L) L.length P t0 i) (P.getD i 0)=(Jo (sN L) L.length (Rw (sN L) L.length P t0 i) (P.getD i 0):Int)
  ·have hb:((Jo (sN L) L.length (Rw (sN L) L.length P t0 i) (P.getD i 0):Int)!=(Rw (sN L) L.length P t0 i).getD (P.getD i 0) 0)=false:=by
    have:(Rw (sN L) L.length P t0 i).getD (P.getD i 0) 0=_:=he;rw[this];simp
   have hnx:Rw (sN L) L.length P t0 (i+1)=Rw (sN L) L.length P t0 i:=ON hyt he
   have hs:Dr (Xr L) (Ot (r::P)) (b,(i:Int),Rw (sN L) L.length P t0 i)=some (.next (b,((i+1:Nat):Int),Rw (sN L) L.length P t0 (i+1))):=by
    unfold Dr;simp only[hdl,hlen,Fv hil,Ae,A6,NL hil,hpred,hma,Aw,hb,A2];rw[Ad (I9 hil),Ad (I9 (by rw[Nf];exact hyn)),Ad (I9 hyt),Aw,w1 (by omega),hnx]
   obtain⟨b',e1,e2⟩:=ih (i+1) b (by omega);refine⟨b',by rw[An hs,e1],λh=>?_,λ⟨h1,h2⟩=>e2.2 ⟨h1,λj hj=>h2 j (by omega)⟩⟩;obtain⟨h1,h2⟩:=e2.1 h;refine⟨h1,λj hj1 hj2=>?_⟩
   by_cases e:j=i
   ·subst e;exact he
   ·exact h2 j (by omega) hj2
  ·have hb:((Jo (sN L) L.length (Rw (sN L) L.length P t0 i) (P.getD i 0):Int)!=(Rw (sN L) L.length P t0 i).getD (P.getD i 0) 0)=true:=by
    rw[zzL91];exact λe=>he e.symm
   have hs:Dr (Xr L) (Ot (r::P)) (b,(i:Int),Rw (sN L) L.length P t0 i)=some (.next (true,((i+1:Nat):Int),Rw (sN L) L.length P t0 (i+1))):=by
    unfold Dr;simp only[hdl,hlen,Fv hil,Ae,A6,NL hil,hpred,hma,Aw,hb];rw[Ad (I9 hil),Ad (I9 (by rw[Nf];exact hyn)),Ad (I9 hyt),Ad (I9 hyt),Aw,w1 (by omega)]
    rfl
   obtain⟨b',e1,e2⟩:=ih (i+1) true (by omega);refine⟨b',by rw[An hs,e1],λh=>?_,λ⟨h1,h2⟩=>absurd (h2 i (zzL8 _) hil) he⟩;obtain⟨h1,_⟩:=e2.1 h;cases h1
theorem XS{t0:List Int}(h:Ready (sN L) r L.length P t0 0):∃ b,Ai (Dr (Xr L) (Ot (r::P))) (false,(0:Int),t0)=some (b,Rw (sN L) L.length P t0 P.length)/\(b=false↔Qz (sN L) L.length P t0):=by
 obtain⟨b,e1,e2⟩:=SI hm o h P.length 0 false (by omega);refine⟨b,e1,e2.trans ⟨λ⟨_,h2⟩=>?_,λhs=>⟨rfl,λj _ hj=>?_⟩⟩⟩
 ·have key:∀ j,j<=P.length->Rw (sN L) L.length P t0 j=t0:=by
   intro j
   induction j with
   | zero=>intro _;rfl
   | succ j ih=>
    intro hj;have ih':=ih (by omega);have rd:=h.round o j (by omega)
    have hyn:P.getD j 0<(Rw (sN L) L.length P t0 j).length:=by rw[rd.len];exact o.lt (Em _ (Mw (by omega)))
    have:Rw (sN L) L.length P t0 (j+1)=Rw (sN L) L.length P t0 j:=ON hyn (h2 j (K7 _) (by omega));rw[this,ih']
  intro i hi;have:=h2 i (K7 _) hi;rwa[key i (by omega)]at this
 ·rw[S2 o h.len hs j (by omega)];exact hs j hj
open Classical in
theorem UX(j:Nat):Es (Xr L) (Ot (r::P),BK (sN L) L.length P (El L.length r) j)=some (if Qz (sN L) L.length P (BK (sN L) L.length P (El L.length r) j) then .done (BK (sN L) L.length P (El L.length r) (j+1)) else .next (Ot (r::P),BK (sN L) L.length P (El L.length r) (j+1))):=by
 obtain⟨b,e1,e2⟩:=XS hm o (Ready.rounds o j);have hL2:Oo (Xr L) (Ot (r::P))=Dr (Xr L) (Ot (r::P)):=rfl
 have hlen:(0:Int)<=1/\(1:Int)<=((Ot (r::P)).length:Int):=by simp[Ot];omega
 unfold Es;simp only[hL2,e1,Aw];rw[Ad hlen]
 cases b with
 | false=>rw[if_pos (e2.1 rfl)];rfl
 | true=>rw[if_neg (λh=>by have:=e2.2 h;cases this)];rfl
theorem OV:∃ J,Qz (sN L) L.length P (BK (sN L) L.length P (El L.length r) J)/\Ai (Es (Xr L)) (Ot (r::P),El L.length r)=some (BK (sN L) L.length P (El L.length r) J):=by
 obtain⟨J,h1,h2⟩:=gz o;refine⟨J,h2,?_⟩
 have key:∀ d j,j+d=J->Ai (Es (Xr L)) (Ot (r::P),BK (sN L) L.length P (El L.length r) j)=some (BK (sN L) L.length P (El L.length r) J):=by
  intro d
  induction d with
  | zero=>
   intro j hj
   obtain rfl:j=J:=by omega
   have hF:=UX hm o j;rw[if_pos h2]at hF;rw[Ag hF];have:BK (sN L) L.length P (El L.length r) (j+1)=BK (sN L) L.length P (El L.length r) j:=S2 o (Ready.rounds o j).len h2 P.length (zzL8 _);rw[this]
  | succ d ih=>
   intro j hj;have hF:=UX hm o j;rw[if_neg (h1 j (by omega))]at hF;rw[An hF];exact ih (j+1) (by omega)
 exact key J 0 (by omega)
end
theorem im(g:Cz)(r:Int)(h1:Fits g.Succ)(h2:Fits g.Pred):M8 g r=some (OU g r):=by
 unfold OU
 by_cases hc:X5 g=true/\0<=r/\r<(g.Succ.length:Int)
 ·rw[if_pos hc];obtain⟨hG,h0,hlt⟩:=hc;obtain⟨hm,hg⟩:=fC hG;obtain⟨hL1,hL64,_⟩:=mayS_iff.1 hm
  have hr:r.toNat<g.Succ.length:=by omega
  have hrn:((r.toNat:Nat):Int)=r:=Uz h0;obtain⟨O,hO⟩:=Ord.exist (Ut hm) hr;have hord:=(JY g h1 trivial r).1 hG h0 hlt O hO;obtain⟨P,rfl,o⟩:=hO.ordered hr (Ut hm);obtain⟨J,hJ,hl⟩:=OV hm o;have ht:=(Zs o hJ).eq hm hr o;rw[ht]at hl;have hlen:(((Ot (r.toNat::P)).length:Int)==0)=false:=zzL24.2 (by simp[Ot];omega)
  have hlen2:(0:Int)<=1/\(1:Int)<=((Ot (r.toNat::P)).length:Int):=by simp[Ot];omega
  have hL2:Oo g (Ot (r.toNat::P))=Dr g (Ot (r.toNat::P)):=rfl
  have hst:(O1 (Es g (Ot (r.toNat::P),El g.Succ.length r.toNat)) (Es g))=some (Xb g.Succ r.toNat):=by
   rw[Zp,hg];exact hl
  unfold M8;rw[hord,Aw,hlen,A2,bj hL1 hL64,Aw,Ad (kD h0 (by simpa using hlt)),Ad hlen2]
  have:(Es g (Ot (r.toNat::P),El g.Succ.length r.toNat))=(Ai (Dr g (Ot (r.toNat::P))) (false,0,(List.replicate g.Succ.length (-2:Int)).set r.toNat (-1))).bind (λx22=>(match x22 with|(b10,l11)=>(bif b10 then(some (.next (Ot (r.toNat::P),l11))) else(some (.done l11))))):=by
   unfold Es El;simp only[hL2];rw[Ad hlen2]
  rw[this]at hst;refine Eq.trans ?_ (B7 (λx:Option (List Int)=>x.bind λx42=>some x42) hst)
  rfl
 ·rw[if_neg hc];unfold M8
  have:(X5 g&&(decide (0<=r)&&decide (r<(g.Succ.length:Int))))=false:=by
   rw[Bool.eq_false_iff];intro h;rw[A4,A4,D0,D0]at h;exact hc h
  rw[(JY g h1 trivial r).2 this,Aw]
  rfl
theorem iM{α:Type}(l:List α)(d:α)(p:α->Bool){X:Type}(f:Int->Option (LR Int X))(yes no:X)(hl:l.length<9223372036854775808)(hk:∀ i:Nat,i<l.length->f i=some (bif p (l.getD i d) then .next (Bd ((i:Int)+1)) else .done no))
  (he:f l.length=some (.done yes)):Ai f (0:Int)=some (bif l.all p then yes else no):=by
 have:=Se l d p f yes no (λi hi hp=>by rw[hk i hi,hp,Ae,Dg hi hl]) (λi hi hp=>by rw[hk i hi,hp,A2]) he l.length 0 (by omega);rwa[K5]at this
theorem ia(f:Ab)(hf:dY f)(l:Int)(t:List Int)(u:List A7):Gf f l t u=some (bif Qe f then 0 else 4,f,l,t,u):=by
 unfold Gf Ia;rw[lx f hf,Aw]
 cases Qe f<;>rfl
theorem WJ(phis:List F8)(l:List Int)(h1:phis.length<9223372036854775808)(h2:l.length<4611686018427387904):Jk phis l=some (phis.all (G6 l)):=by
 unfold Jk
 rw[iM phis (default:F8) (G6 l) (Hj phis l) (.inl ()) (.inr false) h1 (λi hi=>by
  unfold Hj
  have hd:decide ((i:Int)<(phis.length:Int))=true:=by simpa using hi
  simp only[hd,Ae,Ar (Bb hi),Dh,JX _ _ h2,Aw,G6]
  cases decide ((phis.getD i default).From=l) with
  | false=>rfl
  | true=>
   simp only[Fd,A2,G8,bne]
   cases(((phis.getD i default).Args.length:Int)==(l.length:Int))<;>rfl) (by unfold Hj;simp),Aw]
 cases phis.all (G6 l)<;>rfl
def JF(e:Ip):Bool:=!((e.Kind==1 || e.Kind==3)&&(e.Arg !=0))
theorem WE{n:Nat}(e:Ip)(hk:M4 e n=true):Ho e=some (JF e):=by
 have h4:0<=e.Kind/\e.Kind<=3:=by
  have:=(A4 _ _▸hk:MR e=true/\g7 n e.To=true).1;unfold MR at this;simp only[A4,D0]at this;omega
 unfold Ho JF
 have:e.Kind=0\/e.Kind=1\/e.Kind=2\/e.Kind=3:=by omega
 rcases this with h|h|h|h<;>rw[h]<;>cases hb:(e.Arg==0)<;>simp[hb,bne]
theorem RX{L:List (List Int)}(hm:Li L=true){P:List Nat}(h0:0<L.length)(o:Ord (sN L) 0 P):decide (P.length<L.length) = !(List.range L.length).all λi=>(Qp L).getD i false:=by
 have hin:∀ x∈P,x<L.length:=λx hx=>(by obtain⟨Q,rfl,oo⟩:=o.ordered h0 (Ut hm);exact oo.lt hx)
 have hr:∀ z,(Qp L).getD z false=true↔z∈P:=λz=>by
  rw[o.mem z];exact W1 (Ut hm) h0 z
 have hle:=Lj L.length P o.nodup hin
 cases ha:(List.range L.length).all λi=>(Qp L).getD i false with
 | true=>
  have:=((List.perm_ext_iff_of_nodup o.nodup List.nodup_range).2 λi=>⟨λh=>zzL34.2 (hin i h),λh=>(hr i).1 (zzL25.1 ha i h)⟩:P.Perm (List.range L.length)).length_eq;rw[Zx]at this
  simp;omega
 | false=>
  obtain⟨i,hi,hni⟩:∃ i,i<L.length/\i∉P:=PC λhc=>by
   have:(List.range L.length).all (λi=>(Qp L).getD i false)=true:=zzL25.2 λi hi=>(hr i).2 (PC λhn=>hc ⟨i,by simpa using hi,hn⟩);rw[this]at ha;cases ha
  have:(i::P).length<=L.length:=Lj L.length (i::P) (zzL74.2 ⟨hni,o.nodup⟩) (λx hx=>by rcases zzL23.1 hx with rfl|hx;exact hi;exact hin x hx);simp at this ⊢;omega
theorem au {f : Ab} (hf : OkF f) (l : Int) (t : List Int) (u : List A7) : ∃ t', Fj f l t u = some (bif F4 f then 0 else 5, f, l, t', u) ∧ (F4 f = true → t' = Bw f) := by
  have hmax : f.Blocks.length ≤ maxLen := by have := hf.blocks; have : (64 : Nat) ≤ maxLen := by decide
                                             omega
  unfold Fj; rw [lu f hmax, Aw]
  cases hs : Nj f with
  | false => exact ⟨t, by unfold F4; rw [hs]; rfl, fun h => by unfold F4 at h; rw [hs] at h; cases h⟩
  | true =>
    have hm := Su hs; have hlen := W6 f
    have hpos : 0 < (Ei f).length := by have := (shape_iff.1 hs).1.1; omega
    obtain ⟨h1, h2⟩ := bR hm; obtain ⟨P, hP⟩ := Ord.exist (Ut hm) hpos; have ho := (JY (Xr (Ei f)) h1 trivial 0).1 (NE hm) (by omega) (by show (0 : Int) < ((Ei f).length : Int); omega) P hP; have hfull := RX hm hpos hP; simp only [Ae, show (((0 : Int) != 0) == false) = true from rfl, show ((0 : Int) != 0) = false from rfl, A2, ho, Aw, show (false == false) = true from rfl]
    have e1 : decide (((Ot P).length : Int) < (f.Blocks.length : Int)) = decide (P.length < (Ei f).length) := by
      rw [hlen]; apply zzL105.2; simp [Ot]
    rw [e1, hfull]
    have hsd : F4 f = (((List.range f.Blocks.length).all fun i => (Qp (Ei f)).getD i false) && (List.range f.Blocks.length).all fun i => JF (f.Blocks.getD i default).End && (f.Blocks.getD i default).Phis.all (G6 ((Fb (Ei f)).getD i []))) := by
      unfold F4; rw [hs, G8]
      have : ∀ (n : Nat) (p q : Nat → Bool), ((List.range n).all fun i => p i && q i) = ((List.range n).all p && (List.range n).all q) := fun n p q => by
        rw [Mh, A4, zzL25, zzL25, zzL25]
        constructor
        · intro h; exact ⟨fun x hx => ((A4 _ _).mp (h x hx)).1, fun x hx => ((A4 _ _).mp (h x hx)).2⟩
        · intro h x hx; rw [A4]; exact ⟨h.1 x hx, h.2 x hx⟩
      rw [← this]
      congr 1
      funext i
      show (_ && _ && _) = _
      rw [Bool.and_assoc]
      rfl
    rw [hlen]; rw [hsd]
    cases hr : (List.range f.Blocks.length).all fun i => (Qp (Ei f)).getD i false with
    | false => exact ⟨t, rfl, fun h => by cases h⟩
    | true =>
      refine ⟨Bw f, ?_, fun _ => rfl⟩; rw [Fd, A2, im _ 0 h1 h2, Aw, G8]; have hp := Qo hm
      have hpl : (Xr (Ei f)).Pred.length = f.Blocks.length := by rw [← hlen]; exact Nf _
      have key : Ai (Cj f l u (Xr (Ei f), 0) (Bw f)) (0 : Int) = some (bif (List.range f.Blocks.length).all (fun i => JF (f.Blocks.getD i default).End && (f.Blocks.getD i default).Phis.all (G6 ((Fb (Ei f)).getD i []))) then .inl () else .inr ((5 : Int), f, l, Bw f, u)) := by
        have hk : ∀ i : Nat, i < f.Blocks.length → Cj f l u (Xr (Ei f), 0) (Bw f) (i : Int) = some (bif (JF (f.Blocks.getD i default).End && (f.Blocks.getD i default).Phis.all (G6 ((Fb (Ei f)).getD i []))) then .next ((i : Int) + 1) else .done (.inr ((5 : Int), f, l, Bw f, u))) := fun i hi => by
          have hB := hf.block _ (getD_mem (d := (default : Ak)) hi); have hpi : Cd (i : Int) (Xr (Ei f)).Pred.length := Bb (by omega); have hpg : ((Xr (Ei f)).Pred.getD i []).length ≤ 64 := hp.2 _ (getD_mem (by rw [Nf]; omega)); unfold Cj
          have hd : decide ((i : Int) < (f.Blocks.length : Int)) = true := by simpa using hi
          simp only [hd, Ae, Ar (Bb hi), Ar hpi, Dh, WJ (f.Blocks.getD i default).Phis ((Xr (Ei f)).Pred.getD i []) (by have := hB.phis; omega) (by omega), Aw]; have ha : Ho (⟨(f.Blocks.getD i default).End.Kind, (f.Blocks.getD i default).End.Arg, (f.Blocks.getD i default).End.To⟩ : Ip) = some (JF (f.Blocks.getD i default).End) := WE (n := f.Blocks.length) (f.Blocks.getD i default).End ((shape_iff.1 hs).2 i hi); rw [ha, Dg hi (by have := hf.blocks; omega)]
          show _ = some (bif (JF (f.Blocks.getD i default).End && (f.Blocks.getD i default).Phis.all (G6 ((Xr (Ei f)).Pred.getD i []))) then _ else _)
          cases (f.Blocks.getD i default).Phis.all (G6 ((Xr (Ei f)).Pred.getD i [])) <;> cases JF (f.Blocks.getD i default).End <;> rfl
        exact WW _ _ _ _ _ (fun i hi hp => by rw [hk i hi, hp]; rfl) (fun i hi hp => by rw [hk i hi, hp]; rfl) (by unfold Cj; simp)
      show ((Ai (Cj f l u (Xr (Ei f), 0) (Bw f)) (0 : Int)).bind _) = _
      rw [key, Aw]
      cases (List.range f.Blocks.length).all (fun i => JF (f.Blocks.getD i default).End && (f.Blocks.getD i default).Phis.all (G6 ((Fb (Ei f)).getD i []))) <;> rfl
theorem iR(o:Ce)(l:Int)(h0:0<=l)(h2:l<=2)(hk:Hm o=true):Mn o l=some (!decide (JW l<o.Kind)&&!(decide (l<2)&&decide (1<o.Lanes))):=by
 have hl:=be hk
 have hK:o.Kind<=22:=by
  simp only[Hm,A4]at hk;have:=hk.1.2.1.1.1;unfold bY at this;simp only[A4,D0]at this;omega
 unfold Mn JW
 have:l=0\/l=1\/l=2:=by omega
 rcases this with rfl|rfl|rfl
 ·have ha:decide (o.Kind<=17) = !decide (17<o.Kind):=by rw[Mh];simp
  have hb:(o.Lanes==1) = !decide (1<o.Lanes):=by rw[Mh];simp;omega
  show some (bif decide (o.Kind<=17) then(o.Lanes==1) else false)=some (!decide (17<o.Kind)&&!(true&&decide (1<o.Lanes)))
  rw[ha,hb]
  cases decide (17<o.Kind)<;>cases decide (1<o.Lanes)<;>rfl
 ·have ha:decide (o.Kind<=20) = !decide (20<o.Kind):=by rw[Mh];simp
  have hb:(o.Lanes==1) = !decide (1<o.Lanes):=by rw[Mh];simp;omega
  show some (bif decide (o.Kind<=20) then(o.Lanes==1) else false)=some (!decide (20<o.Kind)&&!(true&&decide (1<o.Lanes)))
  rw[ha,hb]
  cases decide (20<o.Kind)<;>cases decide (1<o.Lanes)<;>rfl
 ·show some true=some (!decide (22<o.Kind)&&!(false&&decide (1<o.Lanes)))
  rw[Gy (by omega)]
  rfl
theorem WI(o:Ce)(ho:YT o)(f:Ab)(l:Int)(h0:0<=l)(h2:l<=2)(t:List Int)(u:List A7):E2 o f l t u=some (G0 l o,f,l,t,u):=by
 unfold E2 G0;rw[CN o ho,Aw]
 cases hk:Hm o with
 | false=>rfl
 | true=>
  rw[show(true==true)=true from rfl,Ae,iR o l h0 h2 hk,Aw,Ae,G8]
theorem eJ(b:Ak){f:Ab}(hf:OkF f)(hb:b∈f.Blocks)(l:Int)(h0:0<=l)(h2:l<=2)(t:List Int)(u:List A7):Hh b.Ops f l t u=some (b.Ops.all (G0 l),f,l,t,u):=by
 have hB:=hf.block b hb
 have key:∀ k i:Nat,i+k=b.Ops.length->Ai (Eg b.Ops) ((i:Int),f.Params,f.Ret,f.Blocks,l,t,u)=some (bif (b.Ops.drop i).all (G0 l) then .inl (f.Params,f.Ret,f.Blocks,l,t,u) else .inr (false,f,l,t,u)):=by
  intro k
  induction k with
  | zero=>
   intro i h
   obtain rfl:i=b.Ops.length:=by omega
   rw[Ag (x:=.inl (f.Params,f.Ret,f.Blocks,l,t,u)) (by unfold Eg;simp)]
   simp
  | succ k ih=>
   intro i h
   have hi:i<b.Ops.length:=by omega
   have hd:decide ((i:Int)<(b.Ops.length:Int))=true:=by simpa using hi
   have hdr:b.Ops.drop i=b.Ops.getD i default::b.Ops.drop (i+1):=by rw[Nn hi,Aa _ _ _ hi]
   have hx:=WI (b.Ops.getD i default) (i0 hf hb (getD_mem hi)) f l h0 h2 t u;rw[hdr,Ok]
   cases ho:G0 l (b.Ops.getD i default) with
   | true=>
    rw[ho]at hx
    rw[An (s':=(((i+1:Nat):Int),f.Params,f.Ret,f.Blocks,l,t,u)) (by
     unfold Eg;simp only[hd,Ae,Ar (Bb hi),Dh,hx,Aw,Fd,A2,Dg hi (by have:=hB.ops;omega)]
     rfl),ih (i+1) (by omega),G8]
   | false=>
    rw[ho]at hx
    rw[Ag (x:=.inr (false,f,l,t,u)) (by
     unfold Eg
     simp only[hd,Ae,Ar (Bb hi),Dh,hx,Aw,L2])]
    rfl
 unfold Hh;rw[show(0:Int)=((0:Nat):Int) from rfl,key b.Ops.length 0 (by omega),K5,Aw]
 cases b.Ops.all (G0 l)<;>rfl
theorem am(b:Ak)(h:b.Phis.length<9223372036854775808):Gz b.Phis=some (b.Phis.all λp=>Dk p.Bits):=by
 unfold Gz
 rw[iM b.Phis (default:F8) (λp=>Dk p.Bits) (Fi b.Phis) (.inl ()) (.inr false) h (λi hi=>by
  unfold Fi Ld
  have hd:decide ((i:Int)<(b.Phis.length:Int))=true:=by simpa using hi
  simp only[hd,Ae,Ar (Bb hi),Dh,Pj,Aw]
  cases Dk (b.Phis.getD i default).Bits<;>rfl) (by unfold Fi;simp),Aw]
 cases b.Phis.all λp=>Dk p.Bits<;>rfl
theorem ak(p:List Int)(h:p.length<9223372036854775808):Jj p=some (p.all Dk):=by
 unfold Jj
 rw[iM p (0:Int) Dk (Hi p) (.inl ()) (.inr false) h (λi hi=>by
  unfold Hi
  have hd:decide ((i:Int)<(p.length:Int))=true:=by simpa using hi
  simp only[hd,Ae,Ar (Bb hi),Dh,Pj,Aw]
  cases Dk (p.getD i 0)<;>rfl) (by unfold Hi;simp),Aw]
 cases p.all Dk<;>rfl
theorem JK(b:Ak){f:Ab}(hf:OkF f)(hb:b∈f.Blocks)(l:Int)(h0:0<=l)(h2:l<=2)(t:List Int)(u:List A7):D2 b f l t u=some (He l b,f,l,t,u):=by
 unfold D2 He;rw[am b (by have:=(hf.block b hb).phis;omega),Aw,eJ b hf hb l h0 h2 t u]
 cases(b.Phis.all λp=>Dk p.Bits)<;>rfl
theorem eP{f:Ab}(hf:OkF f)(l:Int)(h0:0<=l)(h2:l<=2)(t:List Int)(u:List A7):F0 f l t u=some (bif O2 f l then 0 else 6,f,l,t,u):=by
 have key:∀ k i:Nat,i+k=f.Blocks.length->Ai (Dq f.Blocks) ((i:Int),f.Params,f.Ret,f.Blocks,l,t,u)=some (bif (f.Blocks.drop i).all (He l) then .inl (f.Params,f.Ret,f.Blocks,l,t,u) else .inr (false,f,l,t,u)):=by
  intro k
  induction k with
  | zero=>
   intro i h
   obtain rfl:i=f.Blocks.length:=by omega
   rw[Ag (x:=.inl (f.Params,f.Ret,f.Blocks,l,t,u)) (by unfold Dq;simp)]
   simp
  | succ k ih=>
   intro i h
   have hi:i<f.Blocks.length:=by omega
   have hd:decide ((i:Int)<(f.Blocks.length:Int))=true:=by simpa using hi
   have hdr:f.Blocks.drop i=f.Blocks.getD i default::f.Blocks.drop (i+1):=by rw[Nn hi,Aa _ _ _ hi]
   have hx:=JK (f.Blocks.getD i default) hf (getD_mem hi) l h0 h2 t u;rw[hdr,Ok]
   cases ho:He l (f.Blocks.getD i default) with
   | true=>
    rw[ho]at hx
    rw[An (s':=(((i+1:Nat):Int),f.Params,f.Ret,f.Blocks,l,t,u)) (by
     unfold Dq;simp only[hd,Ae,Ar (Bb hi),Dh,hx,Aw,Fd,A2,Dg hi (by have:=hf.blocks;omega)]
     rfl),ih (i+1) (by omega),G8]
   | false=>
    rw[ho]at hx
    rw[Ag (x:=.inr (false,f,l,t,u)) (by
     unfold Dq
     simp only[hd,Ae,Ar (Bb hi),Dh,hx,Aw,L2])]
    rfl
 have hall:Fz f.Blocks f l t u=some (f.Blocks.all (He l),f,l,t,u):=by
  unfold Fz;rw[show(0:Int)=((0:Nat):Int) from rfl,key f.Blocks.length 0 (by omega),K5,Aw]
  cases f.Blocks.all (He l)<;>rfl
 unfold F0 O2 Ia;rw[ak _ (by have:=hf.few;omega),Aw,hall,Pj]
 cases f.Params.all Dk<;>cases Dk f.Ret<;>cases f.Blocks.all (He l)<;>rfl
def eD(d:TDef):G1:=bif decide (d.Block<0) then⟨0,-1⟩ else⟨d.Block,d.At⟩
def AM(d:TDef):Aj:=⟨d.Shape,eD d⟩
def dv(l:List TDef):List (Int×Aj):=l.map λd=>(d.V,AM d)
def FA(acc:List (Int×Aj))(v:Int):Bool:=(Bz acc v || decide (v<1)) || decide (1023<v)
def F3:List (Int×Aj)->List TDef->Bool×List (Int×Aj)
 | acc,[]=>(true,acc)
 | acc,d::ds=>bif FA acc d.V then(false,acc) else F3 (Eh acc d.V (AM d)) ds
theorem Xw:∀(a b:List TDef) (acc:List (Int×Aj)),F3 acc (a++b)=bif (F3 acc a).1 then F3 (F3 acc a).2 b else F3 acc a
 | [],b,acc=>rfl
 | d::a,b,acc=>by
  rw[Xj];simp only[F3]
  cases FA acc d.V with
  | true=>rfl
  | false=>simp only[A2];exact Xw a b _
theorem Sf{V:Type}(k:Int):∀ l:List (Int×V),Bz l k=l.any λq=>k==q.1
 | []=>rfl
 | (a,b)::l=>by rw[List.any_cons,<- Sf k l];rfl
theorem Tw{V:Type}(k:Int)(v:V):∀{l:List (Int×V)},Bz l k=false->Eh l k v=l++[(k,v)]
 | [],_=>rfl
 | (a,b)::l,h=>by
  simp only[Bz,EO]at h;simp only[Eh,h.1,A2,Tw k v h.2,Xj]
theorem LY(v:Int)(s:Int×Int)(p:G1)(f:Ab)(l:Int)(t:List Int)(vs:List (Int×Aj))(u:List A7) :
  D3 v s p f l t vs u=some (bif FA vs v then(false,f,l,t,u,vs) else(true,f,l,t,u,Eh vs v ⟨s,p⟩)):=by
 unfold D3 FA
 cases Bz vs v<;>cases decide (v<1)<;>cases decide (1023<v)<;>rfl
def fb(f:Ab)(l:Int)(t:List Int)(u:List A7)(r:Bool×List (Int×Aj)):(List Int×Int×List Ak×Int×List Int×List A7×List (Int×Aj)) ⊕ (Bool×Ab×Int×List Int×List A7×List (Int×Aj)):=
 bif r.1 then .inl (f.Params,f.Ret,f.Blocks,l,t,u,r.2) else .inr (false,f,l,t,u,r.2)
theorem iV(b:Ak)(h:b.Phis.length<9223372036854775808)(i:Nat)(f:Ab)(l:Int)(t:List Int)(u:List A7):∀(k j:Nat) (vs:List (Int×Aj)),j+k=b.Phis.length->
  Ai (Cr (i:Int) b) ((j:Int),f.Params,f.Ret,f.Blocks,l,t,u,vs)=some (fb f l t u (F3 vs ((List.range' j k).flatMap λ(k:Nat)=>[(⟨(b.Phis.getD k default).Dst,i,-1,((b.Phis.getD k default).Bits,1)⟩:TDef)]))):=by
 intro k
 induction k with
 | zero=>
  intro j vs hj
  obtain rfl:j=b.Phis.length:=by omega
  rw[Ag (x:=.inl (f.Params,f.Ret,f.Blocks,l,t,u,vs)) (by unfold Cr;simp)]
  rfl
 | succ k ih=>
  intro j vs hj
  have hi:j<b.Phis.length:=by omega
  have hd:decide ((j:Int)<(b.Phis.length:Int))=true:=by simpa using hi
  have hx:=LY (b.Phis.getD j default).Dst ((b.Phis.getD j default).Bits,1) (⟨(i:Int),-1⟩:G1) f l t vs u
  have hat:eD (⟨(b.Phis.getD j default).Dst,i,-1,((b.Phis.getD j default).Bits,1)⟩:TDef)=⟨(i:Int),-1⟩:=by unfold eD;rw[Gy (by show ¬ (i:Int)<0;omega)];rfl
  rw[Xh,Ta,List.singleton_append];simp only[F3]
  cases hb:FA vs (b.Phis.getD j default).Dst with
  | true=>
   rw[hb]at hx
   rw[Ag (x:=.inr (false,f,l,t,u,vs)) (by
    unfold Cr Db;simp only[hd,Ae,Ar (Bb hi),Dh,Aw];rw[show(⟨f.Params,f.Ret,f.Blocks⟩:Ab)=f from rfl,hx]
    rfl)]
   rfl
  | false=>
   rw[hb]at hx
   rw[An (s':=(((j+1:Nat):Int),f.Params,f.Ret,f.Blocks,l,t,u,Eh vs (b.Phis.getD j default).Dst ⟨((b.Phis.getD j default).Bits,1),⟨(i:Int),-1⟩⟩)) (by
    unfold Cr Db;simp only[hd,Ae,Ar (Bb hi),Dh,Aw];rw[show(⟨f.Params,f.Ret,f.Blocks⟩:Ab)=f from rfl,hx,Dg hi h]
    rfl),ih (j+1) _ (by omega)]
   unfold AM;rw[hat]
   rfl
theorem j9{f0:Ab}(hf:OkF f0){b:Ak}(hb:b∈f0.Blocks)(i:Nat)(f:Ab)(l:Int)(t:List Int)(u:List A7):∀(k j:Nat) (vs:List (Int×Aj)),j+k=b.Ops.length->
  Ai (Bx (i:Int) b) ((j:Int),f.Params,f.Ret,f.Blocks,l,t,u,vs)=some (fb f l t u (F3 vs ((List.range' j k).flatMap λ(k:Nat)=>bif decide (0<(Gq (b.Ops.getD k default)).1) then[(⟨(b.Ops.getD k default).Dst,i,k,Gq (b.Ops.getD k default)⟩:TDef)] else[]))):=by
 have hB:=hf.block b hb;intro k
 induction k with
 | zero=>
  intro j vs hj
  obtain rfl:j=b.Ops.length:=by omega
  rw[Ag (x:=.inl (f.Params,f.Ret,f.Blocks,l,t,u,vs)) (by unfold Bx;simp)]
  rfl
 | succ k ih=>
  intro j vs hj
  have hi:j<b.Ops.length:=by omega
  have hd:decide ((j:Int)<(b.Ops.length:Int))=true:=by simpa using hi
  have hg:Kk (b.Ops.getD j default)=some (Gq (b.Ops.getD j default)):=RJ _ (i0 hf hb (getD_mem hi));have hx:=LY (b.Ops.getD j default).Dst (Gq (b.Ops.getD j default)) (⟨(i:Int),(j:Int)⟩:G1) f l t vs u
  have hat:eD (⟨(b.Ops.getD j default).Dst,i,j,Gq (b.Ops.getD j default)⟩:TDef)=⟨(i:Int),(j:Int)⟩:=by unfold eD;rw[Gy (by show ¬ (i:Int)<0;omega)];rfl
  rw[Xh,Ta]
  cases hp:decide (0<(Gq (b.Ops.getD j default)).1) with
  | false=>
   rw[A2,Tb,<- ih (j+1) vs (by omega),An (s':=(((j+1:Nat):Int),f.Params,f.Ret,f.Blocks,l,t,u,vs)) (by
    unfold Bx;simp only[hd,Ae,Ar (Bb hi),Dh,hg,Aw,hp];rw[Dg hi (by have:=hB.ops;omega)]
    rfl)]
  | true=>
   rw[Ae,List.singleton_append];simp only[F3]
   cases hb:FA vs (b.Ops.getD j default).Dst with
   | true=>
    rw[hb]at hx
    rw[Ag (x:=.inr (false,f,l,t,u,vs)) (by
     unfold Bx;simp only[hd,Ae,Ar (Bb hi),Dh,hg,Aw,hp];rw[show(true==true)=true from rfl,Ae,show(⟨f.Params,f.Ret,f.Blocks⟩:Ab)=f from rfl,hx]
     rfl)]
    rfl
   | false=>
    rw[hb]at hx
    rw[An (s':=(((j+1:Nat):Int),f.Params,f.Ret,f.Blocks,l,t,u,Eh vs (b.Ops.getD j default).Dst ⟨Gq (b.Ops.getD j default),⟨(i:Int),(j:Int)⟩⟩)) (by
     unfold Bx;simp only[hd,Ae,Ar (Bb hi),Dh,hg,Aw,hp];rw[show(true==true)=true from rfl,Ae,show(⟨f.Params,f.Ret,f.Blocks⟩:Ab)=f from rfl,hx,Dg hi (by have:=hB.ops;omega)]
     rfl),ih (j+1) _ (by omega)]
    unfold AM;rw[hat]
    rfl
theorem LZ{f:Ab}(hf:OkF f){b:Ak}(hb:b∈f.Blocks)(i:Nat)(l:Int)(t:List Int)(u:List A7)(vs:List (Int×Aj)) :
  Ef (i:Int) b f l t vs u=some ((F3 vs (Jw b i)).1,f,l,t,u,(F3 vs (Jw b i)).2):=by
 unfold Ef Jw;rw[show(0:Int)=((0:Nat):Int) from rfl,iV b (by have:=(hf.block b hb).phis;omega) i f l t u b.Phis.length 0 vs (by omega),Aw,Xw];rw[show(List.range' 0 b.Phis.length).flatMap (λ(k:Nat)=>[(⟨(b.Phis.getD k default).Dst,i,-1,((b.Phis.getD k default).Bits,1)⟩:TDef)])=Tk b i by rw[Tk,Zv]];unfold fb
 cases h1:(F3 vs (Tk b i)).1 with
 | false=>simp only[A2];rw[h1]
 | true=>
  simp only[Ae];rw[j9 hf hb i f l t u b.Ops.length 0 _ (by omega),Aw];rw[show(List.range' 0 b.Ops.length).flatMap (λ(k:Nat)=>bif decide (0<(Gq (b.Ops.getD k default)).1) then[(⟨(b.Ops.getD k default).Dst,i,k,Gq (b.Ops.getD k default)⟩:TDef)] else[])=Xx b i by rw[Xx,Zv]];unfold fb;cases h2:(F3 (F3 vs (Tk b i)).2 (Xx b i)).1<;>rfl
theorem Ty{l:List TDef}{i:Nat}(hi:i<l.length):Kr l i=true↔valS (l.getD i default).V=true/\∀ j,j<i->(l.getD j default).V≠(l.getD i default).V:=by
 unfold Kr;rw[A4];refine and_congr Iff.rfl ?_;unfold H6
 cases hx:l.findIdx? (λd=>d.V==(l.getD i default).V) with
 | none=>
  rw[List.findIdx?_eq_none_iff]at hx;have:=hx _ (getD_mem (d:=default) hi);simp at this
 | some j=>
  obtain⟨hj,h1,h2⟩:=List.findIdx?_eq_some_iff_getElem.1 hx;simp only[zzL72,Int.natCast_inj]
  constructor
  ·rintro rfl k hk he;have:=h2 k hk;rw[Aa _ _ _ (by omega:k<l.length)]at he;simp at this;exact this he
  ·intro h
   have hv:(l.getD j default).V=(l.getD i default).V:=by rw[Aa _ _ _ hj];simpa using h1
   rcases Nat.lt_trichotomy j i with hlt|rfl|hgt
   ·exact absurd hv (h j hlt)
   ·rfl
   ·have:=h2 i hgt;rw[<- Aa l i default hi]at this;simp at this
theorem fG(l:List TDef)(v:Int):Bz (dv l) v=l.any λd=>v==d.V:=by
 rw[Sf,dv,List.any_map];rfl
theorem CC:∀(ds pre:List TDef),(F3 (dv pre) ds).1=(List.range' pre.length ds.length).all (Kr (pre++ds))/\((F3 (dv pre) ds).1=true->(F3 (dv pre) ds).2=dv (pre++ds))
 | [],pre=>by simp[F3]
 | d::ds,pre=>by
  have hi:pre.length<(pre++d::ds).length:=by simp
  have hg:(pre++d::ds).getD pre.length default=d:=by simp[List.getD]
  have hj:∀ j,j<pre.length->(pre++d::ds).getD j default=pre.getD j default:=λj h=>by simp[List.getD,Ux h]
  have hok:Kr (pre++d::ds) pre.length = !FA (dv pre) d.V:=by
   rw[Mh,Ty hi,hg];unfold FA valS;rw[fG];simp only[Oi,EO,IC,List.any_eq_false,zzL72,A4,D0]
   constructor
   ·rintro⟨⟨h1,h2⟩,h3⟩;refine⟨⟨λx hx he=>?_,by omega⟩,by omega⟩;obtain⟨j,hjl,rfl⟩:=K4 hx;have:=h3 j hjl;rw[hj j hjl,Aa _ _ _ hjl]at this;exact this he.symm
   ·rintro⟨⟨h1,h2⟩,h3⟩;refine⟨⟨by omega,by omega⟩,λj hjl he=>?_⟩;rw[hj j hjl,Aa _ _ _ hjl]at he;exact h1 _ (Xi hjl) he.symm
  rw[Oj,Xh,Ok,hok];simp only[F3]
  cases hb:FA (dv pre) d.V with
  | true=>exact⟨rfl,λh=>by cases h⟩
  | false=>
   have hn:Bz (dv pre) d.V=false:=by
    unfold FA at hb;simp only[EO]at hb;exact hb.1.1
   have hs:Eh (dv pre) d.V (AM d)=dv (pre++[d]):=by rw[Tw _ _ hn,dv,dv,Vt];rfl
   have:=CC ds (pre++[d]);rw[E6,Zw,List.singleton_append]at this;rw[A2,hs,L2,G8];exact this
def pv(f:Ab)(n:Nat):List (Int×Aj):=(List.range n).map λ(j:Nat)=>((j:Int)+1,⟨(f.Params.getD j 0,1),⟨0,-1⟩⟩)
theorem kN(f:Ab):pv f f.Params.length=dv (K1 f):=by
 unfold pv dv K1;rw[List.map_flatMap]
 induction List.range f.Params.length with
 | nil=>rfl
 | cons a l ih=>rw[Bq,Ta,ih];rfl
theorem ar{f:Ab}(hf:OkF f):∀(k i:Nat),i+k=f.Params.length->Ai (D4 f) ((i:Int),pv f i)=some (pv f f.Params.length):=by
 intro k
 induction k with
 | zero=>
  intro i h
  obtain rfl:i=f.Params.length:=by omega
  exact Ag (by unfold D4;simp)
 | succ k ih=>
  intro i h
  have hi:i<f.Params.length:=by omega
  have hd:decide ((i:Int)<(f.Params.length:Int))=true:=by simpa using hi
  have hn:Bz (pv f i) ((i:Int)+1)=false:=by
   rw[Sf,pv,List.any_map,List.any_eq_false];intro j hj;have:=zzL34.1 hj
   simp;omega
  have hs:Eh (pv f i) ((i:Int)+1) ⟨(f.Params.getD i 0,1),⟨0,-1⟩⟩=pv f (i+1):=by
   rw[Tw _ _ hn,pv,pv,Vu,Vt];rfl
  rw[An (s':=(((i+1:Nat):Int),pv f (i+1))) (by
   unfold D4 Db;simp only[hd,Ae,Ar (Bb hi),Dh,Aw,Dg hi (by have:=hf.few;omega),hs]
   rfl)]
  exact ih (i+1) (by omega)
theorem an{f:Ab}(hf:OkF f)(l:Int)(t:List Int)(u:List A7):∀(k i:Nat) (vs:List (Int×Aj)),i+k=f.Blocks.length->
  Ai (Da f) ((i:Int),vs,f.Params,f.Ret,f.Blocks,l,t,u)=some (bif (F3 vs ((List.range' i k).flatMap λi=>Jw (f.Blocks.getD i default) i)).1 then .inl ((F3 vs ((List.range' i k).flatMap λi=>Jw (f.Blocks.getD i default) i)).2,f.Params,f.Ret,f.Blocks,l,t,u) else
   .inr (7,f,l,t,u,(F3 vs ((List.range' i k).flatMap λi=>Jw (f.Blocks.getD i default) i)).2)):=by
 intro k
 induction k with
 | zero=>
  intro i vs h
  obtain rfl:i=f.Blocks.length:=by omega
  rw[Ag (x:=.inl (vs,f.Params,f.Ret,f.Blocks,l,t,u)) (by unfold Da;simp)]
  rfl
 | succ k ih=>
  intro i vs h
  have hi:i<f.Blocks.length:=by omega
  have hd:decide ((i:Int)<(f.Blocks.length:Int))=true:=by simpa using hi
  have hx:=LZ hf (getD_mem (d:=default) hi) i l t u vs;rw[Xh,Ta,Xw]
  cases hb:(F3 vs (Jw (f.Blocks.getD i default) i)).1 with
  | false=>
   rw[hb]at hx
   rw[Ag (x:=.inr (7,f,l,t,u,(F3 vs (Jw (f.Blocks.getD i default) i)).2)) (by
    unfold Da;simp only[hd,Ae,Ar (Bb hi),Dh];rw[show(⟨f.Params,f.Ret,f.Blocks⟩:Ab)=f from rfl,hx]
    rfl),A2,hb]
   rfl
  | true=>
   rw[hb]at hx
   rw[An (s':=(((i+1:Nat):Int),(F3 vs (Jw (f.Blocks.getD i default) i)).2,f.Params,f.Ret,f.Blocks,l,t,u)) (by
    unfold Da;simp only[hd,Ae,Ar (Bb hi),Dh];rw[show(⟨f.Params,f.Ret,f.Blocks⟩:Ab)=f from rfl,hx,Dg hi (by have:=hf.blocks;omega)]
    rfl),ih (i+1) _ (by omega),Ae]
theorem mt{f:Ab}(hf:OkF f):∀ i,i<f.Params.length->Kr (Au f) i=true:=λi hi=>by
 have hl:=GK f
 have hg:∀ j,j<f.Params.length->(Au f).getD j default=⟨(j:Int)+1,-1,0,(f.Params.getD j 0,1)⟩:=λj hj=>by
  have e:K1 f=(List.range f.Params.length).map λ(i:Nat)=>(⟨(i:Int)+1,-1,0,(f.Params.getD i 0,1)⟩:TDef):=by
   unfold K1
   induction List.range f.Params.length with
   | nil=>rfl
   | cons a l ih=>rw[Bq,Ta,ih];rfl
  rw[Au,List.getD,Ux (by omega),e];simp[hj]
 have hle:i<(Au f).length:=by rw[Au,E6];omega
 rw[Ty hle,hg i hi];refine⟨?_,λj hj=>?_⟩
 ·have:=hf.few;simp only[valS,A4,D0];omega
 ·rw[hg j (by omega)];simp only;omega
theorem WH{f:Ab}(hf:OkF f)(l:Int)(t:List Int)(u:List A7):∃ vs,E0 f l t u=some (bif (List.range (Au f).length).all (Kr (Au f)) then 0 else 7,f,l,t,u,vs)/\((List.range (Au f).length).all (Kr (Au f))=true->vs=dv (Au f)):=by
 have hsp:=CC ((List.range f.Blocks.length).flatMap λi=>Jw (f.Blocks.getD i default) i) (K1 f)
 have hall:(List.range (Au f).length).all (Kr (Au f))=(F3 (dv (K1 f)) ((List.range f.Blocks.length).flatMap λi=>Jw (f.Blocks.getD i default) i)).1:=by
  rw[hsp.1]
  show(List.range (Au f).length).all (Kr (Au f))=(List.range' (K1 f).length _).all (Kr (Au f))
  have hs:List.range (Au f).length=List.range (K1 f).length++List.range' (K1 f).length ((List.range f.Blocks.length).flatMap λi=>Jw (f.Blocks.getD i default) i).length:=by
   rw[Zv,Zv,Au,E6];have:=List.range'_append_1 (s:=0) (m:=(K1 f).length) (n:=((List.range f.Blocks.length).flatMap λi=>Jw (f.Blocks.getD i default) i).length);rw[Fs]at this;exact this.symm
  rw[hs,List.all_append];have:(List.range (K1 f).length).all (Kr (Au f))=true:=zzL25.2 λi hi=>mt hf i (by rw[<- GK f];exact zzL34.1 hi);rw[this,G8]
 unfold E0;have hp:=ar hf f.Params.length 0 (by omega);have e0:pv f 0=[]:=rfl;rw[e0,show(((0:Nat):Int))=0 from rfl]at hp;rw[hp,Aw,kN];have hb:=an hf l t u f.Blocks.length 0 (dv (K1 f)) (by omega);rw[show(((0:Nat):Int))=0 from rfl,<- Zv]at hb;rw[hb,Aw,hall];refine⟨(F3 (dv (K1 f)) ((List.range f.Blocks.length).flatMap λi=>Jw (f.Blocks.getD i default) i)).2,?_,hsp.2⟩
 cases(F3 (dv (K1 f)) ((List.range f.Blocks.length).flatMap λi=>Jw (f.Blocks.getD i default) i)).1<;>rfl
end
end Go.Proofs.YtiendmljhgbjoaaGreat
