/-
  The machine, the program's functions and the laws' arithmetic: part 4 of 5.
-/
import Derived.Test.YtiendmljhgbjoaaGreatPk3
import Derived.Lib.RowBridge
import Derived.OpenShut
import Derived.ShutString
set_option linter.unusedSectionVars false
set_option linter.unusedVariables false
set_option linter.unusedSimpArgs false
namespace Go.Proofs.YtiendmljhgbjoaaGreat
noncomputable section
open Go Go.RowKit
set_option maxRecDepth 100000
set_option maxHeartbeats 2000000
abbrev EQ:=(Int×(Int×Int))
abbrev kv:=(LR (List (Int×(Int×Int))) (List (Int×(Int×Int))))
def H3 :List EQ->Option kv:=
 λ(l4:List EQ)=>(some (.done l4))
def Gh(x1:TB):Nat->List EQ->Option kv:=
 λ(n3:Nat) (l4:List EQ)=>(some (.next (Ei l4 (x1.2.2.2.2.2.getD n3 ((0:Int),(default:Aj))).1 (((x1.2.2.2.2.2.getD n3 ((0:Int),(default:Aj))).2).shape.1,((x1.2.2.2.2.2.getD n3 ((0:Int),(default:Aj))).2).shape.2))))
def YM(x1:TB)(n3:Nat):=(x1.2.2.2.2.2.getD n3 ((0:Int),(default:Aj)))
def f8(x1:TB):=(mapE (λ(v_:Aj)=>((O9 v_):AV)) x1.2.2.2.2.2)
def mV(a4:Ab):AV:=(.agg [(Px a4.Params),(Z7 a4.Ret),(YO a4.Blocks),(.int .i64 (2:Int)),iD,.nilm,(AV.list 5 I7 default ([]:List A6) .exact)])
def mU(a4:Ab):=(⟨[(3,(.ptr 3 0))],[(3,.row 110 [(Px a4.Params),(Z7 a4.Ret),(YO a4.Blocks),(.int .i64 (2:Int)),iD,.nilm,(AV.list 5 I7 default ([]:List A6) .exact)])],[]⟩:St)
def lj(a4:Ab):=(⟨[(3,(.ptr 3 0))],[(3,.row 110 [(Px a4.Params),(Z7 a4.Ret),(YO a4.Blocks),(.int .i64 (2:Int)),iD,.nilm,(AV.list 5 I7 default ([]:List A6) (.own 50306))]),(50306,.tok 5 195 (([]:List A6).length))],[]⟩:St)
def Kh(a4:Ab):Option (List (Int×(Int×Int))):=
 ((F3 a4 (2:Int) ([]:A3) ([]:List A6)).bind λx1=>(bif (x1.1 !=0) then(some ([]:List EQ)) else((Vl (S:=List EQ) (X:=List EQ) HO ((mapE (λ(v_:Aj)=>((.agg (P5 v_)):AV)) x1.2.2.2.2.2).length) (Gh x1) H3 ([]:List EQ)).bind (λx6=>(some x6)))))
variable{v0:Ab}{v32:List EQ}
theorem AH(h:Kh v0=some v32):sP 36 [(.agg (X0 v0))] [] (.omap 20000) [(20000,.obj (.pmap false .i64 (mapE (λ(v_:Gr)=>((BR v_):AV)) v32)))]:=
 sG Tryz.func36 λΓ q=>Ap q [1] [1] (gR q [3] [3] [(8,(mV v0))] [] (c1 (show(AVle (.agg [(Px v0.Params),(Z7 v0.Ret),(YO v0.Blocks),(.int .i64 (2:Int)),YP,.nilm,YP]) (mV v0)) from(AVle.agg (.cons (AVle.refl _) (.cons (AVle.refl _) (.cons (AVle.refl _) (.cons (AVle.refl _) (.cons El (.cons (AVle.refl _) (.cons El .nil)))))))))) (Tn (mU v0) (Mz (show Le Γ _ (lj v0) from Le.trans (Dv (st':=(mU v0)) [3] [3] q) (Le.trans (N6 (r:=3) (j:=6) (nm:=50306) (sz':=5) (λi=>I7 (([]:List A6).getD i default)) 195 rfl rfl (nl rfl) rfl (.inl ⟨rfl,rfl⟩) (λh_=>absurd h_ (by decide))) (Dv (st':=(lj v0)) [3] [3,50306] q))) (Mz (show Le Γ _ (⟨[(3,(.ptr 3 0))],[(3,.row 110 [(Px v0.Params),(Z7 v0.Ret),(YO v0.Blocks),(.int .i64 (2:Int)),(AV.list 1 Ax 0 ([]:A3) .none),.nilm,(AV.list 5 I7 default ([]:List A6) (.own 50306))]),(50306,.tok 5 195 (([]:List A6).length))],[]⟩:St) from Le.trans (Dv (st':=(lj v0)) [3] [3,50306] q) (Kg (.cons (AVle.refl _) .nil) (.row (.cons (AVle.refl _) (.cons (AVle.refl _) (.cons (AVle.refl _) (.cons (AVle.refl _) (.cons AVle.untag (.cons (AVle.refl _) (.cons (AVle.refl _) .nil))))))) (.same .nil)))) (tB h λx1 y1 h=>tT q [3,10] [3,50306,10000305] [⟨[(3,30000),(50306,37006)],[(9200005,10000305)],(Z7 x1.1),(jz x1.2.1.Params x1.2.1.Ret x1.2.1.Blocks x1.2.2.1 x1.2.2.2.1 9200005 x1.2.2.2.2.1 x1.2.2.2.2.1.length (f8 x1)),[],[]⟩] (c1 (Qp y1)) (gC h (λh=>Ap q [2] [] (Tn (⟨[(2,.nilm)],[],[]⟩:St) (tS h (gK (e:=.ret) (K0 [(36002,20000)] (Le.trans (Le.trans (en (t:=2) (nm:=36002) .i64 rfl rfl) (Dv (st':=⟨[(2,(.omap 36002))],[(36002,.obj (.map false .i64 (mapE (λ(v_:Gr)=>((BR v_):AV)) ([]:List EQ))))],[]⟩) [2] [36002] q)) (mf 36002 false .i64 (f:=(λ(v_:Gr)=>((BR v_):AV))) XO))))))) λh=>gR q [3,4] [3,14,50306,10000305] [(13,(QQ x1.2.2.2.2.2.length))] [] (c1 (show(AVle (.int .i64 ((f8 x1).length:Int)) (QQ x1.2.2.2.2.2.length)) from(fF (f:=(λ(v_:Aj)=>((O9 v_):AV))) (l:=x1.2.2.2.2.2) rfl))) (Mz (Sf (λ(k_:List GB) u=>Fo u [] [(YQ 14 k_)]) (show[]=(mapE (λ(v_:Gr)=>((BR v_):AV)) ([]:List EQ)) from rfl)) (Ap q [4,17] VP (tB h λx6 y6 h=>my q y6 [4,17] VP (λu z2 l4=>(Fo u [] [(14,.obj (.map true .i64 (mapE (λ(v_:Gr)=>((BR v_):AV)) l4))),(17,.obj (.miter (.omap 10000305) ((f8 x1).length) z2))])) (λu l5=>aG Γ (.exit 0) (Xt [4] [14] u [] [(14,.obj (.map true .i64 (mapE (λ(v_:Gr)=>((BR v_):AV)) l5)))])) 17 18 19 17 10000305 false .i64 (f8 x1) [4,17,19] VP (kd:=(λz2 l4 y h hall=>WX false (tS h (gO (Ea (Dv [4] [14] q)))))) (kn:=(λz2 l4 n3 y h hin3 hnn3=>WX true (gR q [4,5,6,17] [6,14,17,10000305] [(20,(.tuple [(.int .i64 (YM x1 n3).1),(.agg (P5 ((YM x1 n3).2)))]))] [] (c3 (Eq.refl ((f8 x1).length)) (show(n3<(f8 x1).length) from hin3) (show(AVle (.tuple [.int .i64 ((f8 x1).getD n3 (0,.any)).1,((f8 x1).getD n3 (0,.any)).2]) (.tuple [(.int .i64 (YM x1 n3).1),(.agg (P5 ((YM x1 n3).2)))])) from(fD (f:=(λ(v_:Aj)=>((O9 v_):AV))) (l:=x1.2.2.2.2.2) hin3))) (Ap q [4,17] VP (tS h (gN (Le.trans (Sf (λ(k_:List GB) u=>Fo u [] [(YQ 14 k_)]) (show(Ei (mapE (λ(v_:Gr)=>((BR v_):AV)) l4) (YM x1 n3).1 (.agg [(.int .i64 ((YM x1 n3).2).shape.1),(.int .i64 ((YM x1 n3).2).shape.2)]))=(mapE (λ(v_:Gr)=>((BR v_):AV)) (Ei l4 (YM x1 n3).1 (((YM x1 n3).2).shape.1,((YM x1 n3).2).shape.2))) from(Wq (f:=(λ(v_:Gr)=>((BR v_):AV))) (l:=l4) (v:=(((YM x1 n3).2).shape.1,((YM x1 n3).2).shape.2)) rfl rfl))) Ns))))))) (ko:=(λl_ hp_=>gX (λst' hl7=>Mz (Le.trans hl7 (mf 14 true .i64 (f:=(λ(v_:Gr)=>((BR v_):AV))) hp_)) (Ap q [2] [14] (Tn (⟨[(2,(.omap 14))],[(14,.obj (.pmap true .i64 (mapE (λ(v_:Gr)=>((BR v_):AV)) x6)))],[]⟩:St) (tS h (gK (e:=.ret) (K0 [(14,20000)] (m9 14 .i64 (mapE (λ(v_:Gr)=>((BR v_):AV)) x6)))))))))))))))))))
abbrev fw:=(Int×List (Int×Ds))
abbrev kw:=(LR (Int×List (Int×Ds)) (List (Int×Ds)))
abbrev Yv:=(Int×Ds)
def G4(a4:Ab)(i1:Int):fw->Option kw:=
 λ((i5,l6):fw)=>(bif (decide (i5<(((a4.Blocks.getD i1.toNat default).Ops).length:Int))) then(Option.bind (α:=List Yv) (Cq (B6 i5 ((a4.Blocks.getD i1.toNat default).Ops).length) (Option.bind (α:=Bool) (bif (((((a4.Blocks.getD i1.toNat default).Ops).getD i5.toNat default).Kind:Int)==0) then(some (((((a4.Blocks.getD i1.toNat default).Ops).getD i5.toNat default).Kind:Int)==0)) else(bif (((((a4.Blocks.getD i1.toNat default).Ops).getD i5.toNat default).Kind:Int)==1) then(some (((((a4.Blocks.getD i1.toNat default).Ops).getD i5.toNat default).Kind:Int)==1)) else(bif (((((a4.Blocks.getD i1.toNat default).Ops).getD i5.toNat default).Kind:Int)==2) then(some (((((a4.Blocks.getD i1.toNat default).Ops).getD i5.toNat default).Kind:Int)==2)) else(bif (((((a4.Blocks.getD i1.toNat default).Ops).getD i5.toNat default).Kind:Int)==3) then(some (((((a4.Blocks.getD i1.toNat default).Ops).getD i5.toNat default).Kind:Int)==3)) else(some (((((a4.Blocks.getD i1.toNat default).Ops).getD i5.toNat default).Kind:Int)==8)))))) (λx11=>(bif x11 then(some (Ei l6 (((a4.Blocks.getD i1.toNat default).Ops).getD i5.toNat default).Dst (((a4.Blocks.getD i1.toNat default).Ops).getD i5.toNat default))) else(some l6))))) (λx13=>(some (.next ((Bh (i5+1)),x13))))) else(some (.done l6)))
def G5(a4:Ab):fw->Option kw:=
 λ((i1,l2):fw)=>(bif (decide (i1<(a4.Blocks.length:Int))) then(Cq (B6 i1 a4.Blocks.length) ((Ai (G4 a4 i1) ((0:Int),l2)).bind (λx15=>(some (.next ((Bh (i1+1)),x15)))))) else(some (.done l2)))
def FE:=(λ(v_:Ds)=>((Vw v_):AV))
def ZG(a4:Ab)(i1:Int)(i5:Int):=(((a4.Blocks.getD i1.toNat default).Ops).getD i5.toNat default)
abbrev TC:=(List (Int×Ds))
def Lo(a4:Ab):Option TC:=
 ((Ai (G5 a4) ((0:Int),([]:List Yv))).bind (λx17=>(some x17)))
variable{v33:List Yv}
theorem DF(h:Lo v0=some v33):sP 37 [(.agg (X0 v0))] [] (.omap 20000) [(20000,.obj (.map true .i64 (mapE (λ(v_:Ds)=>((Vw v_):AV)) v33)))]:=
 sG Tryz.func37 λΓ q=>tW q [1] [1] [1,3] [1,8] (Mz (Sf (λ(k_:List GB) u=>Fo u [] [(8,.obj (.map true .i64 k_))]) (show[]=(mapE FE ([]:List Yv)) from rfl)) (Ap q Xp [8] (tL q h Xp [8] (λu (i1,l2)=>(Fo u [(12,(Z7 i1))] [(8,.obj (.map true .i64 (mapE FE l2)))])) (λu l3=>aG Γ (.exit 0) (Xt [3] [8] u [] [(8,.obj (.map true .i64 (mapE FE l3)))])) (λ⟨i1,l2⟩ y h=>Ap q [3,10,11,12,13] [8] (gC h (λh=>tV q [3,5,10,11,12] [5,8] h λh=>Ap q PQ [8] (tL q h PQ [8] (λu (i5,l6)=>(Fo u [(19,(Z7 i5))] [(8,.obj (.map true .i64 (mapE FE l6)))])) (λu l7=>aG Γ (.exit 2) (Xt Xp [8] u [] [(8,.obj (.map true .i64 (mapE FE l7)))])) (λ⟨i5,l6⟩ y h=>Ap q [3,10,11,12,17,18,19,20] [8] (gC h (λh=>tB h λx13 y13 h=>gJ y13 (λl8=>aG Γ .normal (⟨[(3,(.omap 8)),(10,(YO v0.Blocks)),(11,(QQ v0.Blocks.length)),(12,(Z7 i1)),(17,(AV.list 6 MP default (v0.Blocks.getD i1.toNat default).Ops .none)),(18,(.int .i64 (((v0.Blocks.getD i1.toNat default).Ops).length:Int))),(19,(Z7 i5))],[(8,.obj (.map true .i64 (mapE FE l8)))],[]⟩:St)) (λy h=>tV q [3,7,10,11,12,17,18,19] L6 h λh=>Ap q [3,7,10,11,12,17,18,19,24] L6 (tB h λx11 y11 h=>gJ y11 (λb10=>aG Γ .normal (⟨[(3,(.omap 8)),(7,(.ptr 7 0)),(10,(YO v0.Blocks)),(11,(QQ v0.Blocks.length)),(12,(Z7 i1)),(17,(AV.list 6 MP default (v0.Blocks.getD i1.toNat default).Ops .none)),(18,(.int .i64 (((v0.Blocks.getD i1.toNat default).Ops).length:Int))),(19,(Z7 i5)),(25,(.bool b10))],[(7,.row 43 [(.int .i64 (ZG v0 i1 i5).Kind),(.int .i64 (ZG v0 i1 i5).Bits),(.int .i64 (ZG v0 i1 i5).Lanes),(.int .i64 (ZG v0 i1 i5).Dst),(AV.list 1 Ax 0 (ZG v0 i1 i5).Args .none),(.int .u64 (ZG v0 i1 i5).Imm)]),(8,.obj (.map true .i64 (mapE FE l6)))],[]⟩:St)) (λy h=>Ap q VI L6 (gC h (λh=>tS h (gK (Ea (Dv PN L6 q)))) λh=>Ap q VI L6 (gC h (λh=>tS h (gK (Ea (Dv PN L6 q)))) λh=>Ap q VI L6 (gC h (λh=>tS h (gK (Ea (Dv PN L6 q)))) λh=>Ap q VI L6 (gC h (λh=>tS h (gK (Ea (Dv PN L6 q)))) λh=>Ap q PN L6 (tS h (gK (Ea Ns)))))))) (gA (gC h (λh=>Ap q PQ [8] (tS h (gK (Ea (Le.trans (Sf (λ(k_:List GB) u=>Fo u [] [(8,.obj (.map true .i64 k_))]) (show(Ei (mapE FE l6) (ZG v0 i1 i5).Dst (Vw (ZG v0 i1 i5)))=(mapE FE (Ei l6 (ZG v0 i1 i5).Dst (ZG v0 i1 i5))) from(Wq (f:=FE) (l:=l6) (v:=(ZG v0 i1 i5)) rfl rfl))) Ns))))) λh=>tS h (gK (Ea (Dv PQ [8] q))))))) (gA (Ap q PQ [8] (tN h)))) λh=>tS h (gO (Ea (Dv Xp [8] q))))) λx15 h=>gA (Ap q Xp [8] (tN h)))) λh=>tS h (gO (Ea (Dv [3] [8] q))))) λx17 h=>gA (Ap q [2] [8] (tS h (C1 [(8,20000)]))))))
def Hq(a3:TForm):Gr->Option mh:=
 λ((i1,i2):Gr)=>(bif (decide (i2<(a3.Terms.length:Int))) then(Cq (B6 i2 a3.Terms.length) (bif (bif (bif (decide (((a3.Terms.getD i2.toNat default).V:Int)<=i1)) then true else(decide ((1023:Int)<(a3.Terms.getD i2.toNat default).V))) then true else(((a3.Terms.getD i2.toNat default).Scale:Int)==0)) then(some (.done (.inr false))) else(some (.next ((a3.Terms.getD i2.toNat default).V,(Bh (i2+1))))))) else(some (.done (.inl ()))))
def JA(Γ:Gt)(a3:TForm)(r:Bool):Exit->St->Prop:=fK Tryz.prog Γ Tryz.f13.results.toList [] (.bool r) []
def ja(a3:TForm)(i2:Int)(i1:Int):=(bif (decide (((a3.Terms.getD i2.toNat default).V:Int)<=i1)) then true else(decide ((1023:Int)<(a3.Terms.getD i2.toNat default).V)))
def Es(a3:TForm):Option Bool:=
 ((Ai (Hq a3) ((0:Int),(0:Int))).bind (λx4=>(match x4 with|(.inl _)=>(some true)|(.inr r6)=>(some r6))))
variable{v3:Bool}{v34:TForm}
theorem Gy(h:Es v34=some v3):sP 13 [(Mn v34)] [] (.bool v3) []:=
 sG Tryz.func13 λΓ q=>tW q [1] [1] [1,3] [1] (Ap q LH [] (tL q h LH [] (λu (i1,i2)=>(Fo u [(3,(Z7 i1)),(9,(Z7 i2))] [])) (λu x_=>match x_ with|(.inl _)=>aG Γ (.exit 0) (⟨[],[],[]⟩:St)|(.inr r_)=>aR (JA Γ v34 r_)) (λ⟨i1,i2⟩ y h=>Ap q [3,7,8,9,10] [] (gC h (λh=>tV q [3,5,7,8,9] [5] h λh=>tU q [5,7,8,9,26] [5] (Nr ((decide (((v34.Terms.getD i2.toNat default).V:Int)<=i1))==false) (ci (Ua (decide (((v34.Terms.getD i2.toNat default).V:Int)<=i1))) (Nr ((ja v34 i2 i1)==false) (c1 (Ua (ja v34 i2 i1)))))) (gC h (λh=>Ap q [2] [] (tS h (gO (R3 (K0 [] (Le.refl _ _)))))) λh=>tW q LH [] LH [] (tN h))) λh=>tS h (gO (Ea (Dv [] [] q))))) λx4 h=>(match x4,h with | .inl _,h=>gA (Ap q [2] [] (tS h (C1 []))) | .inr r6,h=>Vx (λst' hk=>tS h (gK hk)))))
def Ji(aF:Int)(aH:Int):Option Int:=
 (some (Gq (aF+aH)))
variable{v1:Int}{v11:Int}{v20:Int}
theorem Pf(h:Ji v1 v11=some v20):sP 29 [(Iq v1),(Iq v11)] [] (.int .u64 v20) []:=
 sG Tryz.func29 λΓ q=>tW q Hb [] [4] [] (tS h (C1 []))
def Cm(aW:List Ah):Option Int:=
 (bif ((aW.length:Int)==0) then(some (1024:Int)) else(Cq (B6 (0:Int) aW.length) (some ((aW.getD (0:Int).toNat (default:Ah)).V))))
variable{v35:List Ah}
theorem E8(h:Cm v35=some v1):sP 67 [(Z9 v35)] [] (.int .i64 v1) []:=
 sG Tryz.func67 λΓ q=>tW q [0] [] [0,5] [] (gC h (λh=>Ap q [2] [] (tS h (C1 []))) λh=>tV q [2] [] h λh=>tS h (C1 []))
def C2(aW:List Ah)(a8:Int):Option (Int×List Ah):=
 ((Cm aW).bind λx1=>(bif (x1 !=a8) then(some ((0:Int),aW)) else(Cq (B6 (0:Int) aW.length) (Cq (0<=(1:Int)/\(1:Int)<=(aW.length:Int)) (some ((aW.getD (0:Int).toNat (default:Ah)).Scale,(aW.drop (1:Int).toNat)))))))
variable{v36:(Int×List Ah)}
theorem F9(h:C2 v35 v1=some v36):sP 68 [(Z9 v35),(Z7 v1)] [] (.tuple [(Iq v36.1),(Z9 v36.2)]) []:=
 sG Tryz.func68 λΓ q=>gR q Hb [] [(5,YN)] [] (c1 (Ir 2 Dz (default:Ah))) (tB h λx1 y1 h=>tT q [0,9] [] [(VZ x1)] (c1 (E8 y1)) (gC h (λh=>Ap q Ro [] (tS h (C1 []))) λh=>tC h λc2_ h=>tC h λc3_ h=>gR q Ro [] [(16,(AV.list 2 Dz default (v35.drop (1:Int).toNat) .none))] [] (c3 c2_ c3_ (show(AVle (.slice 2 (v35.length-(1:Int).toNat) (λi=>Dz (v35.getD ((1:Int).toNat+i) default)) .none) (AV.list 2 Dz default (v35.drop (1:Int).toNat) .none)) from JN)) (tS h (C1 []))))
abbrev YH:=(List Ah×List Ah×List Ah)
abbrev kx:=(LR (List Ah×List Ah×List Ah) (List Ah))
def M8 :YH->Option kx:=
 λ((l4,l5,l6):YH)=>(bif (bif (decide ((0:Int)<(l4.length:Int))) then true else(decide ((0:Int)<(l5.length:Int)))) then((Cm l4).bind λx8=>((Cm l5).bind λx9=>((C2 l4 (if x9<x8 then x9 else x8)).bind λx10=>((C2 l5 (if x9<x8 then x9 else x8)).bind λx11=>((Ji x10.1 x11.1).bind λx12=>(bif (x12 !=0) then(Cq (l6.length+([(⟨(if x9<x8 then x9 else x8),x12⟩:Ah)]:List Ah).length<=room) (some (.next (x10.2,x11.2,(l6++([(⟨(if x9<x8 then x9 else x8),x12⟩:Ah)]:List Ah)))))) else(some (.next (x10.2,x11.2,l6))))))))) else(some (.done l6)))
def jd(l4:List Ah):=(decide ((0:Int)<(l4.length:Int)))
def QL:AV:=YN
def dl(x9:Int)(x8:Int)(x12:Int):=([(⟨(if x9<x8 then x9 else x8),x12⟩:Ah)]:List Ah)
def jb(a3:TForm)(a2:TForm)(x3:Int):=((mY 29 a3.Terms a3.Off a2.Terms a2.Off x3):St)
def Ma(a3:TForm)(a2:TForm):Option TForm:=
 ((Es a3).bind λx1=>((bif ((!x1)==false) then Es a2 else some false).bind λx2=>(bif (bif (!x1) then true else(!x2)) then(some (⟨([]:List Ah),(0:Int)⟩:TForm)) else((Ji a3.Off a2.Off).bind λx3=>((Ai (S:=YH) (X:=List Ah) M8 (a3.Terms,a2.Terms,([]:List Ah))).bind (λx14=>(some (⟨x14,x3⟩:TForm))))))))
variable{v37:TForm}{v38:TForm}
theorem Yd(h:Ma v34 v37=some v38):sP 28 [(Mn v34),(Mn v37),(.clo 29 [] [])] [] (Mn v38) []:=
 sG Tryz.func28 λΓ q=>Ap q [2,3,4,6] [3,4,6] (tB h λx1 y1 h=>tB h λx2 y2 h=>tT q TI [3,4,6] [(Z2 x1),(Z2 x2)] (c5 (Gy y1) (gI ((!x1)==false)) (λ(hg:((!x1)==false)=true)=>(Gy (A8 hg y2))) (gI ((!x1)==false)) (Ua (!x1))) (gC h (λh=>gR q [6] [6] [(20,(.agg [QL,U9]))] [] (c1 (show(AVle (.agg Z5) (.agg [QL,U9])) from(AVle.agg (.cons El (.cons (AVle.refl _) .nil))))) (Tn (⟨[QG],[(6,.row 25 [QL,U9])],[]⟩:St) (tS h (gK (e:=.ret) (K0 [] (show Le Γ _ (⟨[QG],[(6,.row 25 [iE,U9])],[]⟩:St) from Le.trans (Dv (st':=⟨[QG],[(6,.row 25 [QL,U9])],[]⟩) [6] [6] q) (Kg (.cons (AVle.refl _) .nil) (.row (.cons AVle.untag (.cons (AVle.refl _) .nil)) .nil)))))))) λh=>tB h λx3 y3 h=>gR q K9 LI [(27,(.agg [QL,(Iq x3)]))] [⟨[],[],(Iq x3),[],[],[]⟩] (c2 (Pf y3) (show(AVle (.agg [YP,(Iq x3)]) (.agg [QL,(Iq x3)])) from(AVle.agg (.cons El (.cons (AVle.refl _) .nil))))) (Mz (st':=(jb v34 v37 x3)) (Le.trans (Dv (st':=(ma 29 v34.Terms v34.Off v37.Terms v37.Off QL x3)) K9 LI q) (Le.trans (N6 (r:=7) (j:=0) (nm:=5700) (sz':=2) (λi=>Dz (([]:List Ah).getD i default)) 51 rfl rfl (nl rfl) rfl (.inl ⟨rfl,rfl⟩) (λh_=>absurd h_ (by decide))) (Dv (st':=(jb v34 v37 x3)) K9 Nw q))) (tL q h K9 Nw (λu (l4,l5,l6)=>(Fo u [] [(3,.row 25 [(Z9 l4),(Iq v34.Off)]),(4,.row 25 [(Z9 l5),(Iq v37.Off)]),(jR l6 x3),(5700,.tok 2 51 l6.length)])) (λu l7=>aG Γ (.exit 0) (Xt Pw LJ u [] [(jR l7 x3),(5700,.tok 2 51 l7.length)])) (λ⟨l4,l5,l6⟩ y h=>tU q dU Nw (MX ((jd l4)==false) (c1 (Ua (jd l4)))) (gC h (λh=>tB h λx8 y8 h=>tB h λx9 y9 h=>tT q IM Nw [(VZ x8),(VZ x9)] (c2 (E8 y8) (E8 y9)) (Ap q IM Nw (tB h λx10 y10 h=>tT q dT Nw [(jT x10.1 x10.2)] (c1 (F9 y10)) (tB h λx11 y11 h=>tT q dP Nw [(jT x11.1 x11.2)] (c1 (F9 y11)) (tB h λx12 y12 h=>tT q dR Nw [⟨[],[],(Iq x12),[],[],[]⟩] (c1 (Pf y12)) (Ap q dO Nw (gC h (λh=>tC h λc13_ h=>gR q K9 Nw (lp (dl x9 x8 x12) l6) [] (c5 (Cp 2 Dz (default:Ah) (dl x9 x8 x12)) (Eq.refl l6.length) c13_ (V4 2 5700 Dz (default:Ah) l6 (dl x9 x8 x12)) (Iu l6 (dl x9 x8 x12))) (tN h)) λh=>tS h (gN (Dv K9 Nw q))))))))) λh=>tS h (gO (Ea (Dv Pw LJ q))))) λx14 h=>gA (Ap q [6] [6,5700] (tS h (C1 [])))))))
def Dy(a3:TForm)(aL:TForm):Option TForm:=
 ((Ma a3 aL).bind λx1=>(some x1))
theorem Fy(h:Dy v34 v37=some v38):sP 10 [(Mn v34),(Mn v37)] [] (Mn v38) []:=
 sG Tryz.func10 λΓ q=>Ap q FC FC (tB h λx1 y1 h=>tT q [4] [4] [(BQ x1)] (c1 (Yd y1)) (tS h (C1 [])))
def Iv(aF:Int)(aH:Int):Option Int:=
 (some (Gq (aF-aH)))
theorem Od(h:Iv v1 v11=some v20):sP 30 [(Iq v1),(Iq v11)] [] (.int .u64 v20) []:=
 sG Tryz.func30 λΓ q=>tW q Hb [] [4] [] (tS h (C1 []))
def K4 :YH->Option kx:=
 λ((l4,l5,l6):YH)=>(bif (bif (decide ((0:Int)<(l4.length:Int))) then true else(decide ((0:Int)<(l5.length:Int)))) then((Cm l4).bind λx8=>((Cm l5).bind λx9=>((C2 l4 (if x9<x8 then x9 else x8)).bind λx10=>((C2 l5 (if x9<x8 then x9 else x8)).bind λx11=>((Iv x10.1 x11.1).bind λx12=>(bif (x12 !=0) then(Cq (l6.length+([(⟨(if x9<x8 then x9 else x8),x12⟩:Ah)]:List Ah).length<=room) (some (.next (x10.2,x11.2,(l6++([(⟨(if x9<x8 then x9 else x8),x12⟩:Ah)]:List Ah)))))) else(some (.next (x10.2,x11.2,l6))))))))) else(some (.done l6)))
def jg(l4:List Ah):=(decide ((0:Int)<(l4.length:Int)))
def QM:AV:=YN
def dm(x9:Int)(x8:Int)(x12:Int):=([(⟨(if x9<x8 then x9 else x8),x12⟩:Ah)]:List Ah)
def je(a3:TForm)(a2:TForm)(x3:Int):=((mY 30 a3.Terms a3.Off a2.Terms a2.Off x3):St)
def Js(a3:TForm)(a2:TForm):Option TForm:=
 ((Es a3).bind λx1=>((bif ((!x1)==false) then Es a2 else some false).bind λx2=>(bif (bif (!x1) then true else(!x2)) then(some (⟨([]:List Ah),(0:Int)⟩:TForm)) else((Iv a3.Off a2.Off).bind λx3=>((Ai (S:=YH) (X:=List Ah) K4 (a3.Terms,a2.Terms,([]:List Ah))).bind (λx14=>(some (⟨x14,x3⟩:TForm))))))))
theorem Ud(h:Js v34 v37=some v38):sP 28 [(Mn v34),(Mn v37),(.clo 30 [] [])] [] (Mn v38) []:=
 sG Tryz.func28 λΓ q=>Ap q [2,3,4,6] [3,4,6] (tB h λx1 y1 h=>tB h λx2 y2 h=>tT q TI [3,4,6] [(Z2 x1),(Z2 x2)] (c5 (Gy y1) (gI ((!x1)==false)) (λ(hg:((!x1)==false)=true)=>(Gy (A8 hg y2))) (gI ((!x1)==false)) (Ua (!x1))) (gC h (λh=>gR q [6] [6] [(20,(.agg [QM,U9]))] [] (c1 (show(AVle (.agg Z5) (.agg [QM,U9])) from(AVle.agg (.cons El (.cons (AVle.refl _) .nil))))) (Tn (⟨[QG],[(6,.row 25 [QM,U9])],[]⟩:St) (tS h (gK (e:=.ret) (K0 [] (show Le Γ _ (⟨[QG],[(6,.row 25 [iE,U9])],[]⟩:St) from Le.trans (Dv (st':=⟨[QG],[(6,.row 25 [QM,U9])],[]⟩) [6] [6] q) (Kg (.cons (AVle.refl _) .nil) (.row (.cons AVle.untag (.cons (AVle.refl _) .nil)) .nil)))))))) λh=>tB h λx3 y3 h=>gR q K9 LI [(27,(.agg [QM,(Iq x3)]))] [⟨[],[],(Iq x3),[],[],[]⟩] (c2 (Od y3) (show(AVle (.agg [YP,(Iq x3)]) (.agg [QM,(Iq x3)])) from(AVle.agg (.cons El (.cons (AVle.refl _) .nil))))) (Mz (st':=(je v34 v37 x3)) (Le.trans (Dv (st':=(ma 30 v34.Terms v34.Off v37.Terms v37.Off QM x3)) K9 LI q) (Le.trans (N6 (r:=7) (j:=0) (nm:=5700) (sz':=2) (λi=>Dz (([]:List Ah).getD i default)) 51 rfl rfl (nl rfl) rfl (.inl ⟨rfl,rfl⟩) (λh_=>absurd h_ (by decide))) (Dv (st':=(je v34 v37 x3)) K9 Nw q))) (tL q h K9 Nw (λu (l4,l5,l6)=>(Fo u [] [(3,.row 25 [(Z9 l4),(Iq v34.Off)]),(4,.row 25 [(Z9 l5),(Iq v37.Off)]),(jR l6 x3),(5700,.tok 2 51 l6.length)])) (λu l7=>aG Γ (.exit 0) (Xt Pw LJ u [] [(jR l7 x3),(5700,.tok 2 51 l7.length)])) (λ⟨l4,l5,l6⟩ y h=>tU q dU Nw (MX ((jg l4)==false) (c1 (Ua (jg l4)))) (gC h (λh=>tB h λx8 y8 h=>tB h λx9 y9 h=>tT q IM Nw [(VZ x8),(VZ x9)] (c2 (E8 y8) (E8 y9)) (Ap q IM Nw (tB h λx10 y10 h=>tT q dT Nw [(jT x10.1 x10.2)] (c1 (F9 y10)) (tB h λx11 y11 h=>tT q dP Nw [(jT x11.1 x11.2)] (c1 (F9 y11)) (tB h λx12 y12 h=>tT q dR Nw [⟨[],[],(Iq x12),[],[],[]⟩] (c1 (Od y12)) (Ap q dO Nw (gC h (λh=>tC h λc13_ h=>gR q K9 Nw (lp (dm x9 x8 x12) l6) [] (c5 (Cp 2 Dz (default:Ah) (dm x9 x8 x12)) (Eq.refl l6.length) c13_ (V4 2 5700 Dz (default:Ah) l6 (dm x9 x8 x12)) (Iu l6 (dm x9 x8 x12))) (tN h)) λh=>tS h (gN (Dv K9 Nw q))))))))) λh=>tS h (gO (Ea (Dv Pw LJ q))))) λx14 h=>gA (Ap q [6] [6,5700] (tS h (C1 [])))))))
def Fv(a3:TForm)(aL:TForm):Option TForm:=
 ((Js a3 aL).bind λx1=>(some x1))
theorem Jo(h:Fv v34 v37=some v38):sP 11 [(Mn v34),(Mn v37)] [] (Mn v38) []:=
 sG Tryz.func11 λΓ q=>Ap q FC FC (tB h λx1 y1 h=>tT q [4] [4] [(BQ x1)] (c1 (Ud y1)) (tS h (C1 [])))
def Gg(a3:TForm):Option Bool:=
 (some ((a3.Terms.length:Int)==0))
theorem Jv(h:Gg v34=some v3):sP 137 [(Mn v34)] [] (.bool v3) []:=
 sG Tryz.func137 λΓ q=>tW q [1] [1] [2] [] (tS h (C1 []))
def Iw(aF:Int)(aaB:Int)(aa0:Int):Option Gr:=
 (some ((Gq (aF*aa0)),aa0))
variable{v19:Gr}
theorem Oe(h:Iw v1 v11 v20=some v19):sP 31 [(Iq v1),(Iq v11),Xr] [(TS v20)] (Iq v19.1) [(TS v19.2)]:=
 sG Tryz.func31 λΓ q=>tW q [0,2] [30000] [5] [30000] (tS h (C1 PU))
abbrev jI:=(List Ah×List Ah×List Ah×Int)
def K5 :jI->Option (LR (List Ah×List Ah×List Ah×Int) (List Ah×Int)):=
 λ((l4,l5,l6,i7):jI)=>(bif (bif (decide ((0:Int)<(l4.length:Int))) then true else(decide ((0:Int)<(l5.length:Int)))) then((Cm l4).bind λx10=>((Cm l5).bind λx11=>((C2 l4 (if x11<x10 then x11 else x10)).bind λx12=>((C2 l5 (if x11<x10 then x11 else x10)).bind λx13=>((Iw x12.1 x13.1 i7).bind λx14=>(bif (x14.1 !=0) then(Cq (l6.length+([(⟨(if x11<x10 then x11 else x10),x14.1⟩:Ah)]:List Ah).length<=room) (some (.next (x12.2,x13.2,(l6++([(⟨(if x11<x10 then x11 else x10),x14.1⟩:Ah)]:List Ah)),x14.2)))) else(some (.next (x12.2,x13.2,l6,x14.2))))))))) else(some (.done (l6,i7))))
def ji(l4:List Ah):=(decide ((0:Int)<(l4.length:Int)))
def QN:AV:=YN
def dn(x11:Int)(x10:Int)(x14:Gr):=([(⟨(if x11<x10 then x11 else x10),x14.1⟩:Ah)]:List Ah)
def jh(a3:TForm)(a2:TForm)(x3:Gr):=(⟨[(2,(.clo 31 [] [Xr])),(3,(.ptr 3 0)),WA,QG,(7,(.ptr 7 0))],[(3,.row 25 [(Z9 a3.Terms),(Iq a3.Off)]),(4,.row 25 [(Z9 a2.Terms),(Iq a2.Off)]),(6,.row 25 Z5),(7,.row 25 [(AV.list 2 Dz default ([]:List Ah) (.own 5700)),(Iq x3.1)]),(5700,.tok 2 51 (([]:List Ah).length)),(TS x3.2)],[]⟩:St)
abbrev ER:=(TForm×Int)
def Jt(a3:TForm)(a2:TForm)(aa0:Int):Option ER:=
 ((Es a3).bind λx1=>((bif ((!x1)==false) then Es a2 else some false).bind λx2=>(bif (bif (!x1) then true else(!x2)) then(some ((⟨([]:List Ah),(0:Int)⟩:TForm),aa0)) else((Iw a3.Off a2.Off aa0).bind λx3=>((Ai (S:=jI) (X:=(List Ah×Int)) K5 (a3.Terms,a2.Terms,([]:List Ah),x3.2)).bind (λ(l8,i9)=>(some ((⟨l8,x3.1⟩:TForm),i9))))))))
variable{v39:ER}
theorem Ue(h:Jt v34 v37 v1=some v39):sP 28 [(Mn v34),(Mn v37),(.clo 31 [] [Xr])] [(TS v1)] (Mn v39.1) [(TS v39.2)]:=
 sG Tryz.func28 λΓ q=>Ap q [2,3,4,6] [3,4,6,30000] (tB h λx1 y1 h=>tB h λx2 y2 h=>tT q TI [3,4,6,30000] [(Z2 x1),(Z2 x2)] (c5 (Gy y1) (gI ((!x1)==false)) (λ(hg:((!x1)==false)=true)=>(Gy (A8 hg y2))) (gI ((!x1)==false)) (Ua (!x1))) (gC h (λh=>gR q [6] [6,30000] [(20,(.agg [QN,U9]))] [] (c1 (show(AVle (.agg Z5) (.agg [QN,U9])) from(AVle.agg (.cons El (.cons (AVle.refl _) .nil))))) (Tn (⟨[QG],[(6,.row 25 [QN,U9]),(TS v1)],[]⟩:St) (tS h (gK (e:=.ret) (K0 PU (show Le Γ _ (⟨[QG],[(6,.row 25 [iE,U9]),(TS v1)],[]⟩:St) from Le.trans (Dv (st':=⟨[QG],[(6,.row 25 [QN,U9]),(TS v1)],[]⟩) [6] [6,30000] q) (Kg (.cons (AVle.refl _) .nil) (.row (.cons AVle.untag (.cons (AVle.refl _) .nil)) (.same .nil))))))))) λh=>tB h λx3 y3 h=>gR q K9 [3,4,6,7,30000] [(27,(.agg [QN,(Iq x3.1)]))] [⟨PU,[],(Iq x3.1),[(TS x3.2)],[],[]⟩] (c2 (Oe y3) (show(AVle (.agg [YP,(Iq x3.1)]) (.agg [QN,(Iq x3.1)])) from(AVle.agg (.cons El (.cons (AVle.refl _) .nil))))) (Mz (st':=(jh v34 v37 x3)) (Le.trans (Dv (st':=⟨[(2,(.clo 31 [] [Xr])),(3,(.ptr 3 0)),WA,QG,(7,(.ptr 7 0))],[(3,.row 25 [(Z9 v34.Terms),(Iq v34.Off)]),(4,.row 25 [(Z9 v37.Terms),(Iq v37.Off)]),(6,.row 25 Z5),(7,.row 25 [QN,(Iq x3.1)]),(TS x3.2)],[]⟩) K9 [3,4,6,7,30000] q) (Le.trans (N6 (r:=7) (j:=0) (nm:=5700) (sz':=2) (λi=>Dz (([]:List Ah).getD i default)) 51 rfl rfl (nl rfl) rfl (.inl ⟨rfl,rfl⟩) (λh_=>absurd h_ (by decide))) (Dv (st':=(jh v34 v37 x3)) K9 Td q))) (tL q h K9 Td (λu (l4,l5,l6,i7)=>(Fo u [] [(3,.row 25 [(Z9 l4),(Iq v34.Off)]),(4,.row 25 [(Z9 l5),(Iq v37.Off)]),(jR l6 x3.1),(5700,.tok 2 51 l6.length),(TS i7)])) (λu (l8,i9)=>aG Γ (.exit 0) (Xt Pw [6,7,5700,30000] u [] [(jR l8 x3.1),(5700,.tok 2 51 l8.length),(TS i9)])) (λ⟨l4,l5,l6,i7⟩ y h=>tU q dU Td (MX ((ji l4)==false) (c1 (Ua (ji l4)))) (gC h (λh=>tB h λx10 y10 h=>tB h λx11 y11 h=>tT q IM Td [(VZ x10),(VZ x11)] (c2 (E8 y10) (E8 y11)) (Ap q IM Td (tB h λx12 y12 h=>tT q dT Td [(jT x12.1 x12.2)] (c1 (F9 y12)) (tB h λx13 y13 h=>tT q dP Td [(jT x13.1 x13.2)] (c1 (F9 y13)) (tB h λx14 y14 h=>tT q dR Td [⟨PU,[],(Iq x14.1),[(TS x14.2)],[],[]⟩] (c1 (Oe y14)) (Ap q dO Td (gC h (λh=>tC h λc15_ h=>gR q K9 Td (lp (dn x11 x10 x14) l6) [] (c5 (Cp 2 Dz (default:Ah) (dn x11 x10 x14)) (Eq.refl l6.length) c15_ (V4 2 5700 Dz (default:Ah) l6 (dn x11 x10 x14)) (Iu l6 (dn x11 x10 x14))) (tN h)) λh=>tS h (gN (Dv K9 Td q))))))))) λh=>tS h (gO (Ea (Dv Pw [6,7,5700,30000] q))))) λx16 h=>(match x16,h with|⟨l8,i9⟩,h=>gA (Ap q [6] [6,5700,30000] (tS h (C1 PU))))))))
def B7(a3:TForm)(aP:Int):Option TForm:=
 ((Jt a3 (⟨([]:List Ah),(0:Int)⟩:TForm) aP).bind λx1=>(some x1.1))
theorem Dd(h:B7 v34 v1=some v37):sP 12 [(Mn v34),(Iq v1)] [] (Mn v37) []:=
 sG Tryz.func12 λΓ q=>Ap q FC FC (tB h λx1 y1 h=>gR q [4] [4] [(6,(.agg [YN,U9]))] [⟨[(3,30000)],[],(Mn x1.1),[(TS x1.2)],[],[]⟩] (c2 (show(AVle (.agg Z5) (.agg [YN,U9])) from(AVle.agg (.cons El (.cons (AVle.refl _) .nil)))) (Ue y1)) (tS h (C1 [])))
def dp:List AV:=[YN,U9]
def Jd(aQ:Int)(aF:TForm)(aH:TForm):Option (TForm×Bool):=
 (bif (aQ==1) then((Dy aF aH).bind λx1=>(some (x1,true))) else(bif (aQ==2) then((Fv aF aH).bind λx2=>(some (x2,true))) else((bif ((aQ==3)==true) then Gg aH else some false).bind λx3=>(bif (bif (aQ==3) then x3 else false) then((B7 aF aH.Off).bind λx4=>(some (x4,true))) else((bif ((aQ==3)==true) then Gg aF else some false).bind λx5=>(bif (bif (aQ==3) then x5 else false) then((B7 aH aF.Off).bind λx6=>(some (x6,true))) else((bif ((aQ==8)==true) then Gg aH else some false).bind λx7=>(bif (bif (bif (aQ==8) then x7 else false) then(decide (aH.Off<64)) else false) then(Cq (0<=aH.Off) ((B7 aF (SQ .u64 (1:Int) aH.Off)).bind λx9=>(some (x9,true)))) else(some ((⟨([]:List Ah),(0:Int)⟩:TForm),false))))))))))
variable{v40:(TForm×Bool)}
theorem DE(h:Jd v1 v34 v37=some v40):sP 97 [(Z7 v1),(Mn v34),(Mn v37)] [] (.tuple [(Mn v40.1),(.bool v40.2)]) []:=
 sG Tryz.func97 λΓ q=>tW q [0,4,5,6] IX [0,4,5,6,8] IX (gC h (λh=>tB h λx1 y1 h=>tT q Pw [6] [(BQ x1)] (c1 (Fy y1)) (tS h (C1 []))) λh=>Ap q [0,4,5,6,14] IX (gC h (λh=>tB h λx2 y2 h=>tT q Pw [6] [(BQ x2)] (c1 (Jo y2)) (tS h (C1 []))) λh=>tB h λx3 y3 h=>tT q [0,4,5,6,20] IX [(Z2 x3)] (c3 (gI ((v1==3)==true)) (λ(hg:((v1==3)==true)=true)=>(Jv (A8 hg y3))) (L8 (v1==3))) (gC h (λh=>tB h λx4 y4 h=>tT q Pw [6] [(BQ x4)] (c1 (Dd y4)) (tS h (C1 []))) λh=>tB h λx5 y5 h=>tT q [0,4,5,6,31] IX [(Z2 x5)] (c3 (gI ((v1==3)==true)) (λ(hg:((v1==3)==true)=true)=>(Jv (A8 hg y5))) (L8 (v1==3))) (gC h (λh=>tB h λx6 y6 h=>tT q Pw [6] [(BQ x6)] (c1 (Dd y6)) (tS h (C1 []))) λh=>tB h λx7 y7 h=>tT q [4,5,6,42] IX [(Z2 x7)] (j6 (gI ((v1==8)==true)) (λ(hg:((v1==8)==true)=true)=>(Jv (A8 hg y7))) (L8 (v1==8)) (Nr ((bif (v1==8) then x7 else false)==true) (c1 (L8 (bif (v1==8) then x7 else false))))) (gC h (λh=>tC h λc8_ h=>tB h λx9 y9 h=>tT q Pw [6] [(BQ x9)] (c2 c8_ (Dd y9)) (tS h (C1 []))) λh=>gR q Pw [6] [(59,(.agg dp))] [] (c1 (show(AVle (.agg Z5) (.agg dp)) from(AVle.agg (.cons El (.cons (AVle.refl _) .nil))))) (Tn (⟨[QG,(7,(.bool false))],[(6,.row 25 dp)],[]⟩:St) (tS h (gK (e:=.ret) (K0 [] (show Le Γ _ (⟨[QG,(7,(.bool false))],[(6,.row 25 [iE,U9])],[]⟩:St) from Le.trans (Dv (st':=⟨[QG,(7,(.bool false))],[(6,.row 25 dp)],[]⟩) Pw [6] q) (Kg (.cons (AVle.refl _) (.cons (AVle.refl _) .nil)) (.row (.cons AVle.untag (.cons (AVle.refl _) .nil)) .nil))))))))))))
def JE:=(λ(v_:TForm)=>((Mn v_):AV))
abbrev YI:=(List (Int×TForm))
abbrev TD:=(TForm×List (Int×TForm))
abbrev dE:=(TForm×Bool×List (Int×TForm))
abbrev GC:=(Int×TForm)
def Br(rec_affine_finder_form:Int->TC->YI->Option TD)(rec_affine_finder_sum:Int->TC->YI->Option dE)(a8:Int)(a0:List Yv)(a5:List GC):Option TD:=
 (bif (Bv a5 a8) then(some ((mget (default:TForm) a5 a8),a5)) else((rec_affine_finder_sum a8 a0 a5).bind λx1=>(Option.bind (α:=(List Ah×Int)) (bif (bif (!x1.2.1) then true else(decide ((16:Int)<(x1.1.Terms.length:Int)))) then(some (([(⟨a8,(1:Int)⟩:Ah)]:List Ah),(0:Int))) else(some (x1.1.Terms,x1.1.Off))) (λ(l2,i3)=>(some ((⟨l2,i3⟩:TForm),(Ei x1.2.2 a8 (⟨l2,i3⟩:TForm))))))))
def JF(a0:List Yv)(a8:Int):=(mget (default:Ds) a0 a8)
def VV:=(λ(v_:TForm)=>((Mn v_):AV))
def LP(a0:List Yv):=(mapE (λ(v_:Ds)=>((Vw v_):AV)) a0)
def VU:AV:=YN
def jk(a0:List Yv)(a5:List GC):=(⟨[WA,(5,(.bool false))],[(4,.row 25 [VU,U9]),QD,(YQ 9100000 (LP a0)),(9100001,.obj (.map true .i64 (mapE VV a5)))],[]⟩:St)
def jj(a0:List Yv)(a8:Int)(a5:List GC):=(⟨[WA,(5,(.bool true))],[(4,.row 25 [VU,(.int .u64 (JF a0 a8).Imm)]),QD,(YQ 9100000 (LP a0)),(9100001,.obj (.map true .i64 (mapE VV a5)))],[]⟩:St)
def Cd(rec_affine_finder_form:Int->TC->YI->Option TD)(rec_affine_finder_sum:Int->TC->YI->Option dE)(a8:Int)(a0:List Yv)(a5:List GC):Option dE:=
 (bif (!(Bv a0 a8)) then(some ((⟨([]:List Ah),(0:Int)⟩:TForm),false,a5)) else(bif (((mget (default:Ds) a0 a8).Kind:Int)==0) then(some ((⟨([]:List Ah),(mget (default:Ds) a0 a8).Imm⟩:TForm),true,a5)) else(Cq (B6 (0:Int) ((mget (default:Ds) a0 a8).Args).length) ((rec_affine_finder_form (((mget (default:Ds) a0 a8).Args).getD (0:Int).toNat (0:Int)) a0 a5).bind λx2=>(Cq (B6 (1:Int) ((mget (default:Ds) a0 a8).Args).length) ((rec_affine_finder_form (((mget (default:Ds) a0 a8).Args).getD (1:Int).toNat (0:Int)) a0 x2.2).bind λx4=>((Jd ((mget (default:Ds) a0 a8).Kind) x2.1 x4.1).bind λx5=>(some (x5.1,x5.2,x4.2)))))))))
mutual
def Bg:Nat->Int->TC->YI->Option TD
 | 0=>λ_=>λ_=>λ_=>none
 | n+1=>Br (Bg n) (Bw n)
def Bw:Nat->Int->TC->YI->Option dE
 | 0=>λ_=>λ_=>λ_=>none
 | n+1=>Cd (Bg n) (Bw n)
end
def Gf(a8:Int)(a0:List Yv)(a5:List GC):Option TD:=bN λn=>Bg n a8 a0 a5
theorem Qm(n:Nat):(∀(a8:Int) (a0:List Yv) (a5:List GC) (r:TD),Bg n a8 a0 a5=some r->sP 38 [Xr,(Z7 a8)] [QD,(9100000,.obj (.map true .i64 (mapE (λ(v_:Ds)=>((Vw v_):AV)) a0))),(9100001,.obj (.map true .i64 (mapE (λ(v_:TForm)=>((Mn v_):AV)) a5)))] (Mn r.1) [QD,(9100000,.obj (.map true .i64 (mapE (λ(v_:Ds)=>((Vw v_):AV)) a0))),(9100001,.obj (.map true .i64 (mapE (λ(v_:TForm)=>((Mn v_):AV)) r.2)))])/\(∀(a8:Int) (a0:List Yv) (a5:List GC) (r:dE),Bw n a8 a0 a5=some r->sP 69 [Xr,(Z7 a8)] [QD,(9100000,.obj (.map true .i64 (mapE (λ(v_:Ds)=>((Vw v_):AV)) a0))),(9100001,.obj (.map true .i64 (mapE (λ(v_:TForm)=>((Mn v_):AV)) a5)))] (.tuple [(Mn r.1),(.bool r.2.1)]) [QD,(9100000,.obj (.map true .i64 (mapE (λ(v_:Ds)=>((Vw v_):AV)) a0))),(9100001,.obj (.map true .i64 (mapE (λ(v_:TForm)=>((Mn v_):AV)) r.2.2)))]):=by
 induction n with
 | zero=>exact⟨(λa8 a0 a5 r h=>by cases h),(λa8 a0 a5 r h=>by cases h)⟩
 | succ n ih=>
  obtain⟨ih_affine_finder_form,ih_affine_finder_sum⟩:=ih;refine⟨?_,?_⟩
  ·intro a8 a0 a5 r h;refine Yp mix Tryz.func38 (λΓ hq=>?_);change Br (Bg n) (Bw n) a8 a0 a5=some r at h;unfold Br at h;refine Ap hq [0,1,4] Xo ?_;refine gR hq [0,1,4,5,6] g9 [(15,(.tuple [(.agg (eTForm (mget (default:TForm) a5 a8))),(.bool (Bv a5 a8))]))] [] (c1 (show(AVle (.tuple [mget (.agg [(.slice 0 0 (λ_=>[]) .none),U9]) (mapE JE a5) a8,.bool (Bv (mapE JE a5) a8)]) (.tuple [(.agg (eTForm (mget (default:TForm) a5 a8))),(.bool (Bv a5 a8))])) from(Wp (f:=JE) (l:=a5) (AVle.agg (.cons TX (.cons (AVle.refl _) .nil))) rfl))) ?_;refine Ap hq [0,1,4,5,18] g9 ?_;refine gC h ?_ ?_<;>intro h
   ·refine Ap hq [4] Xo ?_;cases h;exact C1 PT
   ·obtain⟨x1,hx1,h⟩:=bind_some h;refine gR hq [0,1,4,7,8] II [] [⟨PT,[],(.tuple [(Mn x1.1),(.bool x1.2.1)]),[QD,(9100000,.obj (.map true .i64 (mapE (λ(v_:Ds)=>((Vw v_):AV)) a0))),(9100001,.obj (.map true .i64 (mapE JE x1.2.2)))],[],[]⟩] (c1 (ih_affine_finder_sum a8 a0 a5 x1 hx1)) ?_;obtain⟨x4,hx4,h⟩:=bind_some h;refine gJ hx4 (λ(l2,i3)=>aG Γ .normal (⟨[(0,Xr),(1,(Z7 a8)),WA,(7,(.ptr 7 0))],[(4,.row 25 Z5),(7,.row 25 [(Z9 l2),(Iq i3)]),QD,(9100000,.obj (.map true .i64 (mapE (λ(v_:Ds)=>((Vw v_):AV)) a0))),(9100001,.obj (.map true .i64 (mapE JE x1.2.2)))],[]⟩:St)) ?_ ?_
    ·clear h hx4;intro y h;refine gR hq [0,1,4,7,33] II [] [] (ci (gI ((!x1.2.1)==false)) (ci (gI ((!x1.2.1)==false)) (ci (gI ((!x1.2.1)==false)) (c1 (Ua (!x1.2.1)))))) ?_;refine gC h ?_ ?_<;>intro h
     ·refine gR hq [0,1,4,7] II [(36,(AV.list 2 Dz default ([(⟨a8,(1:Int)⟩:Ah)]:List Ah) .exact))] [] (c1 (Cp 2 Dz (default:Ah) ([(⟨a8,(1:Int)⟩:Ah)]:List Ah))) ?_;cases h;exact gK (Ea (Le.trans (Dv (st':=⟨[(0,Xr),(1,(Z7 a8)),WA,(7,(.ptr 7 0))],[(4,.row 25 Z5),(7,.row 25 [(AV.list 2 Dz default ([(⟨a8,(1:Int)⟩:Ah)]:List Ah) .exact),U9]),QD,(9100000,.obj (.map true .i64 (mapE (λ(v_:Ds)=>((Vw v_):AV)) a0))),(9100001,.obj (.map true .i64 (mapE JE x1.2.2)))],[]⟩) [0,1,4,7] II hq) (Kg (.cons (AVle.refl _) (.cons (AVle.refl _) (.cons (AVle.refl _) (.cons (AVle.refl _) .nil)))) (.same (.row (.cons AVle.untag (.cons (AVle.refl _) .nil)) (.same (.same (.same .nil))))))))
     ·cases h;exact gK (Ea (Dv [0,1,4,7] II hq))
    ·clear hx4;rcases x4 with⟨l2,i3⟩;refine gA ?_;refine Ap hq [4,7] II ?_;refine Mz (Sf (λ(k_:List GB) u=>Fo u [] [(YQ 9100001 k_)]) (show(Ei (mapE JE x1.2.2) a8 (.agg [(Z9 l2),(Iq i3)]))=(mapE JE (Ei x1.2.2 a8 (⟨l2,i3⟩:TForm))) from(Wq (f:=JE) (l:=x1.2.2) (v:=(⟨l2,i3⟩:TForm)) rfl rfl))) ?_;refine Ap hq [4] Xo ?_;cases h;exact C1 PT
  ·intro a8 a0 a5 r h;refine Yp mix Tryz.func69 (λΓ hq=>?_);change Cd (Bg n) (Bw n) a8 a0 a5=some r at h;unfold Cd at h;refine Ap hq [0,1,4] Xo ?_;refine gR hq [0,4,6,7] dM [(14,(.tuple [(Vw (JF a0 a8)),(.bool (Bv a0 a8))]))] [] (c1 (show(AVle (.tuple [mget (.agg [Oq,Oq,Oq,Oq,(.slice 0 0 (λ_=>[]) .none),U9]) (LP a0) a8,.bool (Bv (LP a0) a8)]) (.tuple [(Vw (JF a0 a8)),(.bool (Bv a0 a8))])) from(Wp (f:=(λ(v_:Ds)=>((Vw v_):AV))) (l:=a0) (AVle.agg (.cons (AVle.refl _) (.cons (AVle.refl _) (.cons (AVle.refl _) (.cons (AVle.refl _) (.cons TX (.cons (AVle.refl _) .nil))))))) rfl))) ?_;refine Ap hq [0,4,6,17] dM ?_;refine gC h ?_ ?_<;>intro h
   ·refine gR hq Ro Xo [(20,(.agg [VU,U9]))] [] (c1 (show(AVle (.agg Z5) (.agg [VU,U9])) from(AVle.agg (.cons El (.cons (AVle.refl _) .nil))))) ?_;refine Tn (jk a0 a5) ?_;cases h;exact gK (e:=.ret) (K0 PT (show Le Γ _ (⟨[WA,(5,(.bool false))],[(4,.row 25 [iE,U9]),QD,(YQ 9100000 (LP a0)),(9100001,.obj (.map true .i64 (mapE VV a5)))],[]⟩:St) from Le.trans (Dv (st':=(jk a0 a5)) Ro Xo hq) (Kg (.cons (AVle.refl _) (.cons (AVle.refl _) .nil)) (.row (.cons AVle.untag (.cons (AVle.refl _) .nil)) (.same (.same (.same .nil)))))))
   ·refine Ap hq [0,4,6,21] dM ?_;refine gC h ?_ ?_<;>intro h
    ·refine gR hq Ro Xo [(27,(.agg [VU,(.int .u64 (JF a0 a8).Imm)]))] [] (c1 (show(AVle (.agg [YP,(.int .u64 (JF a0 a8).Imm)]) (.agg [VU,(.int .u64 (JF a0 a8).Imm)])) from(AVle.agg (.cons El (.cons (AVle.refl _) .nil))))) ?_;refine Tn (jj a0 a8 a5) ?_;cases h;exact gK (e:=.ret) (K0 PT (show Le Γ _ (⟨[WA,(5,(.bool true))],[(4,.row 25 [iE,(.int .u64 (JF a0 a8).Imm)]),QD,(YQ 9100000 (LP a0)),(9100001,.obj (.map true .i64 (mapE VV a5)))],[]⟩:St) from Le.trans (Dv (st':=(jj a0 a8 a5)) Ro Xo hq) (Kg (.cons (AVle.refl _) (.cons (AVle.refl _) .nil)) (.row (.cons AVle.untag (.cons (AVle.refl _) .nil)) (.same (.same (.same .nil)))))))
    ·obtain⟨hc1,h⟩:=M4 h;obtain⟨x2,hx2,h⟩:=bind_some h;obtain⟨hc3,h⟩:=M4 h;obtain⟨x4,hx4,h⟩:=bind_some h;obtain⟨x5,hx5,h⟩:=bind_some h;refine gR hq Ro Xo [] [⟨PT,[],(Mn x2.1),[QD,(YQ 9100000 (LP a0)),(9100001,.obj (.map true .i64 (mapE VV x2.2)))],[],[]⟩,⟨PT,[],(Mn x4.1),[QD,(YQ 9100000 (LP a0)),(9100001,.obj (.map true .i64 (mapE VV x4.2)))],[],[]⟩,⟨[],[],(.tuple [(Mn x5.1),(.bool x5.2)]),[],[],[]⟩] (ci hc1 (ci (ih_affine_finder_form (((JF a0 a8).Args).getD (0:Int).toNat (0:Int)) a0 a5 x2 hx2) (ci hc3 (ci (ih_affine_finder_form (((JF a0 a8).Args).getD (1:Int).toNat (0:Int)) a0 x2.2 x4 hx4) (c1 (DE hx5)))))) ?_;cases h;exact C1 PT
variable{v41:List GC}{v42:TD}
theorem Rs(h:Gf v1 v33 v41=some v42):sP 38 [Xr,(Z7 v1)] [QD,(9100000,.obj (.map true .i64 (mapE (λ(v_:Ds)=>((Vw v_):AV)) v33))),(9100001,.obj (.map true .i64 (mapE (λ(v_:TForm)=>((Mn v_):AV)) v41)))] (Mn v42.1) [QD,(9100000,.obj (.map true .i64 (mapE (λ(v_:Ds)=>((Vw v_):AV)) v33))),(9100001,.obj (.map true .i64 (mapE (λ(v_:TForm)=>((Mn v_):AV)) v42.2)))]:=by
 obtain⟨n,hn⟩:=WW h;exact(Qm n).1 v1 v33 v41 v42 hn
def dq:List AV:=[YN,U9]
def Ge(a4:Ab)(a8:Int):Option ER:=
 ((Kh a4).bind λx1=>(bif (!((((mget ((0:Int),(0:Int)) x1 a8).1:Int)==64)&&((((mget ((0:Int),(0:Int)) x1 a8).2:Int)==1)&&true))) then(some ((⟨([]:List Ah),(0:Int)⟩:TForm),(10:Int))) else((Lo a4).bind λx2=>((Gf a8 x2 ([]:List GC)).bind λx3=>(some (x3.1,(0:Int)))))))
theorem Wt(h:Ge v0 v1=some v39):sP 19 [(.agg (X0 v0)),(Z7 v1)] [] (.tuple [(Mn v39.1),(Z7 v39.2)]) []:=
 sG Tryz.func19 λΓ q=>Ap q [1,2,4] [2,4] (tB h λx1 y1 h=>gR q [1,2,4,12] [2,4] [(10,(.agg (Bp (mget ((0:Int),(0:Int)) x1 v1))))] [⟨[],[(20000,8)],(.omap 20000),[(20000,.obj (.pmap false .i64 (mapE (λ(v_:Gr)=>((BR v_):AV)) x1)))],[],[]⟩] (c2 (AH y1) (show(AVle (mget (.agg [Oq,Oq]) (mapE (λ(v_:Gr)=>((BR v_):AV)) x1) v1) (.agg (Bp (mget ((0:Int),(0:Int)) x1 v1)))) from(BE (f:=(λ(v_:Gr)=>((BR v_):AV))) (l:=x1) (AVle.refl _) rfl))) (gC h (λh=>gR q Ro [4] [(13,(.agg dq))] [] (c1 (show(AVle (.agg Z5) (.agg dq)) from(AVle.agg (.cons El (.cons (AVle.refl _) .nil))))) (Tn (⟨[WA,(5,(QQ 10))],[(4,.row 25 dq)],[]⟩:St) (tS h (gK (e:=.ret) (K0 [] (show Le Γ _ (⟨[WA,(5,(QQ 10))],[(4,.row 25 [iE,U9])],[]⟩:St) from Le.trans (Dv (st':=⟨[WA,(5,(QQ 10))],[(4,.row 25 dq)],[]⟩) Ro [4] q) (Kg (.cons (AVle.refl _) (.cons (AVle.refl _) .nil)) (.row (.cons AVle.untag (.cons (AVle.refl _) .nil)) .nil)))))))) λh=>tB h λx2 y2 h=>tT q [1,4,6] [4,6,15,16] [⟨[],[(20000,15)],(.omap 20000),[(20000,.obj (.map true .i64 (mapE (λ(v_:Ds)=>((Vw v_):AV)) x2)))],[],[]⟩] (c1 (DF y2)) (Mz (Sf (λ(k_:List GB) u=>Fo u [] [(YQ 16 k_)]) (show[]=(mapE (λ(v_:TForm)=>((Mn v_):AV)) ([]:List GC)) from rfl)) (tB h λx3 y3 h=>tT q Ro [4] [⟨[(6,30000),(15,9100000),(16,9100001)],[],(Mn x3.1),[QD,(9100000,.obj (.map true .i64 (mapE (λ(v_:Ds)=>((Vw v_):AV)) x2))),(9100001,.obj (.map true .i64 (mapE (λ(v_:TForm)=>((Mn v_):AV)) x3.2)))],[],[]⟩] (c1 (Rs y3)) (tS h (C1 []))))))
def Bo(aM:List Ah)(aO:List Ah):Int->Option (LR Int (Unit ⊕ Bool)):=
 λ(i1:Int)=>(bif (decide (i1<(aM.length:Int))) then(Cq (B6 i1 aM.length) (Cq (B6 i1 aO.length) (bif (!((((aM.getD i1.toNat default).V:Int)==(aO.getD i1.toNat default).V)&&((((aM.getD i1.toNat default).Scale:Int)==(aO.getD i1.toNat default).Scale)&&true))) then(some (.done (.inr false))) else(some (.next (Bh (i1+1))))))) else(some (.done (.inl ()))))
def Ka(Γ:Gt)(aM:List Ah)(aO:List Ah)(r:Bool):Exit->St->Prop:=fK Tryz.prog Γ Tryz.f32.results.toList [] (.bool r) []
def Cv(aM:List Ah)(aO:List Ah):Option Bool:=
 (bif ((aM.length:Int)!=(aO.length:Int)) then(some false) else((Ai (Bo aM aO) (0:Int)).bind (λx4=>(match x4 with|(.inl _)=>(some true)|(.inr r6)=>(some r6)))))
variable{v43:List Ah}
theorem J7(h:Cv v35 v43=some v3):sP 32 [(Z9 v35),(Z9 v43)] [] (.bool v3) []:=
 sG Tryz.func32 λΓ q=>tW q Hb [] AC [] (gC h (λh=>Ap q [4] [] (tS h (C1 []))) λh=>Ap q IR [] (tL q h IR [] (λu i1=>(Fo u [(13,(Z7 i1))] [])) (λu x_=>match x_ with|(.inl _)=>aG Γ (.exit 0) (⟨[],[],[]⟩:St)|(.inr r_)=>aR (Ka Γ v35 v43 r_)) (λi1 y h=>Ap q [0,1,12,13,14] [] (gC h (λh=>Ap q [0,1,5,12,13] [] (tC h λc2_ h=>tC h λc3_ h=>tU q [0,1,12,13,24] [] (c2 c2_ c3_) (gC h (λh=>Ap q [4] [] (tS h (gO (R3 (K0 [] (Le.refl _ _)))))) λh=>Ap q IR [] (tN h)))) λh=>tS h (gO (Ea (Dv [] [] q))))) λx4 h=>(match x4,h with | .inl _,h=>gA (Ap q [4] [] (tS h (C1 []))) | .inr r6,h=>Vx (λst' hk=>tS h (gK hk)))))
def Dc(a3:TForm)(aL:TForm):Option Bool:=
 ((bif ((a3.Off==aL.Off)==true) then Cv a3.Terms aL.Terms else some false).bind λx1=>(some (bif (a3.Off==aL.Off) then x1 else false)))
theorem Ex(h:Dc v34 v37=some v3):sP 15 [(Mn v34),(Mn v37)] [] (.bool v3) []:=
 sG Tryz.func15 λΓ q=>Ap q Pv Pv (tB h λx1 y1 h=>tT q [4] [] [(Z2 x1)] (jU ((v34.Off==v37.Off)==true) (c2 (λ(hg:((v34.Off==v37.Off)==true)=true)=>(J7 (A8 hg y1))) (L8 (v34.Off==v37.Off)))) (tS h (C1 [])))
def Cx:List Ds:=([(⟨(0:Int),(64:Int),(1:Int),(2:Int),([]:A3),(8:Int)⟩:Ds),(⟨(1:Int),(64:Int),(1:Int),(3:Int),([(1:Int),(2:Int)]:A3),(0:Int)⟩:Ds),(⟨(3:Int),(64:Int),(1:Int),(4:Int),([(2:Int),(3:Int)]:A3),(0:Int)⟩:Ds)]:List Ds)
def lK(x7:TForm):=((x7.Off:Int)==128)
def jm(x8:TForm):=((x8.Terms.length:Int)==1)
def YZ:AV:=iD
def iA:AV:=(AV.list 6 MP default Cx .exact)
def dt(x1:ER)(x3:Bool)(x2:ER):=(bif (bif (x1.2==0) then x3 else false) then(x2.2==10) else false)
def BP(x1:ER)(x3:Bool)(x2:ER)(x4:Bool):=(bif (dt x1 x3 x2) then x4 else false)
def VW(x1:ER)(x3:Bool)(x2:ER)(x4:Bool)(x6:Bool)(x7:TForm):=(bif (bif (BP x1 x3 x2 x4) then x6 else false) then(lK x7) else false)
def du(x1:ER)(x3:Bool)(x2:ER)(x4:Bool)(x6:Bool)(x7:TForm)(x8:TForm):=((bif (VW x1 x3 x2 x4 x6 x7) then(jm x8) else false)==true)
def ml:=(⟨([(⟨(1:Int),(8:Int)⟩:Ah)]:List Ah),(64:Int)⟩:TForm)
def jl:=([(⟨([]:List Hc),Cx,(⟨(0:Int),(4:Int),([]:A3)⟩:Jb)⟩:Am)]:List Am)
def jo:AV:=(.agg [(AV.list 4 CH default ([]:List Hc) .exact),iA,Oq,(.int .i64 (4:Int)),YZ])
def jn:AV:=(.agg [Oq,(QQ 64),(.int .i64 (1:Int)),(.int .i64 (2:Int)),YZ,(.int .u64 (8:Int))])
def m_locksteplaw17_awake :Option Bool:=
 ((Ge (⟨([(64:Int)]:A3),(64:Int),([(⟨([]:List Hc),Cx,(⟨(0:Int),(4:Int),([]:A3)⟩:Jb)⟩:Am)]:List Am)⟩:Ab) (4:Int)).bind λx1=>((Ge (⟨([(64:Int)]:A3),(64:Int),([(⟨([]:List Hc),Cx,(⟨(0:Int),(4:Int),([]:A3)⟩:Jb)⟩:Am)]:List Am)⟩:Ab) (5:Int)).bind λx2=>((bif ((x1.2==0)==true) then Dc x1.1 (⟨([(⟨(1:Int),(8:Int)⟩:Ah)]:List Ah),(64:Int)⟩:TForm) else some false).bind λx3=>((bif ((bif (bif (x1.2==0) then x3 else false) then(x2.2==10) else false)==true) then Es (⟨([(⟨(1:Int),(8:Int)⟩:Ah)]:List Ah),(64:Int)⟩:TForm) else some false).bind λx4=>((bif ((bif (bif (bif (x1.2==0) then x3 else false) then(x2.2==10) else false) then x4 else false)==true) then Fv (⟨([(⟨(1:Int),(8:Int)⟩:Ah)]:List Ah),(64:Int)⟩:TForm) (⟨([(⟨(1:Int),(8:Int)⟩:Ah)]:List Ah),(64:Int)⟩:TForm) else some (default:TForm)).bind λx5=>((bif ((bif (bif (bif (x1.2==0) then x3 else false) then(x2.2==10) else false) then x4 else false)==true) then Dc x5 (⟨([]:List Ah),(0:Int)⟩:TForm) else some false).bind λx6=>((bif ((bif (bif (bif (bif (x1.2==0) then x3 else false) then(x2.2==10) else false) then x4 else false) then x6 else false)==true) then Dy (⟨([(⟨(1:Int),(8:Int)⟩:Ah)]:List Ah),(64:Int)⟩:TForm) (⟨([(⟨(1:Int),(8:Int)⟩:Ah)]:List Ah),(64:Int)⟩:TForm) else some (default:TForm)).bind λx7=>((bif ((bif (bif (bif (bif (bif (x1.2==0) then x3 else false) then(x2.2==10) else false) then x4 else false) then x6 else false) then((x7.Off:Int)==128) else false)==true) then B7 (⟨([(⟨(1:Int),(8:Int)⟩:Ah)]:List Ah),(64:Int)⟩:TForm) (2:Int) else some (default:TForm)).bind λx8=>((bif ((bif (bif (bif (bif (bif (bif (x1.2==0) then x3 else false) then(x2.2==10) else false) then x4 else false) then x6 else false) then((x7.Off:Int)==128) else false) then((x8.Terms.length:Int)==1) else false)==true) then B7 (⟨([(⟨(1:Int),(8:Int)⟩:Ah)]:List Ah),(64:Int)⟩:TForm) (2:Int) else some (default:TForm)).bind λx9=>(Cq (((bif (bif (bif (bif (bif (bif (x1.2==0) then x3 else false) then(x2.2==10) else false) then x4 else false) then x6 else false) then((x7.Off:Int)==128) else false) then((x8.Terms.length:Int)==1) else false)==true)=true->(B6 (0:Int) x9.Terms.length)) (some (bif (bif (bif (bif (bif (bif (bif (x1.2==0) then x3 else false) then(x2.2==10) else false) then x4 else false) then x6 else false) then((x7.Off:Int)==128) else false) then((x8.Terms.length:Int)==1) else false) then(((x9.Terms.getD (0:Int).toNat (default:Ah)).Scale:Int)==16) else false))))))))))))
theorem Qr  (r:Bool) (h:m_locksteplaw17_awake=some r):sP 9 [] [] (.bool r) []:=
 sG Tryz.func9 λΓ q=>Ap q [] [] (gR q [1] [1] [(7,(AV.list 1 Ax 0 ([(64:Int)]:A3) .exact)),(8,jn),(9,(AV.list 1 Ax 0 ([(1:Int),(2:Int)]:A3) .exact)),(11,(AV.list 1 Ax 0 ([(2:Int),(3:Int)]:A3) .exact)),(13,iA),(14,(.agg [Oq,(.int .i64 (4:Int)),YZ])),(15,jo),(16,(AV.list 5 Gb default jl .exact))] [] (c8 (Cp 1 Ax (0:Int) ([(64:Int)]:A3)) (show(AVle (.agg [Oq,(QQ 64),(.int .i64 (1:Int)),(.int .i64 (2:Int)),YP,(.int .u64 (8:Int))]) jn) from(AVle.agg (.cons (AVle.refl _) (.cons (AVle.refl _) (.cons (AVle.refl _) (.cons (AVle.refl _) (.cons El (.cons (AVle.refl _) .nil)))))))) (Cp 1 Ax (0:Int) ([(1:Int),(2:Int)]:A3)) (Cp 1 Ax (0:Int) ([(2:Int),(3:Int)]:A3)) (Cp 6 MP (default:Ds) Cx) (show(AVle (.agg [Oq,(.int .i64 (4:Int)),YP]) (.agg [Oq,(.int .i64 (4:Int)),YZ])) from(AVle.agg (.cons (AVle.refl _) (.cons (AVle.refl _) (.cons El .nil))))) (show(AVle (.agg [YP,iA,Oq,(.int .i64 (4:Int)),YZ]) jo) from(AVle.agg (.cons El (.cons (AVle.refl _) (.cons (AVle.refl _) (.cons (AVle.refl _) (.cons (AVle.refl _) .nil))))))) (Cp 5 Gb (default:Am) jl)) (tB h λx1 y1 h=>tT q [1,2,3] Xq [⟨[],[],(.tuple [(Mn x1.1),(Z7 x1.2)]),[],[],[]⟩] (c1 (Wt y1)) (tB h λx2 y2 h=>tT q [2,3,5] [2] [⟨[],[],(.tuple [(Mn x2.1),(Z7 x2.2)]),[],[],[]⟩] (c1 (Wt y2)) (gR q [2,3,5,6] [2,6] [(29,(AV.list 2 Dz default ([(⟨(1:Int),(8:Int)⟩:Ah)]:List Ah) .exact))] [] (c1 (Cp 2 Dz (default:Ah) ([(⟨(1:Int),(8:Int)⟩:Ah)]:List Ah))) (tB h λx3 y3 h=>tB h λx4 y4 h=>tB h λx5 y5 h=>tB h λx6 y6 h=>tB h λx7 y7 h=>tB h λx8 y8 h=>tB h λx9 y9 h=>tC h λc10_ h=>gR q [0] [] [(50,(.agg [YN,U9]))] [(Z2 x3),(Z2 x4),(BQ x5),(Z2 x6),(BQ x7),(BQ x8),(BQ x9)] (Nr ((x1.2==0)==true) (mr (λ(hg:((x1.2==0)==true)=true)=>(Ex (A8 hg y3))) (L8 (x1.2==0)) (gI ((bif (x1.2==0) then x3 else false)==true)) (L8 (bif (x1.2==0) then x3 else false)) (gI ((dt x1 x3 x2)==true)) (λ(hg:((dt x1 x3 x2)==true)=true)=>(Gy (A8 hg y4))) (L8 (dt x1 x3 x2)) (Nr ((BP x1 x3 x2 x4)==true) (UE (λ(hg:((BP x1 x3 x2 x4)==true)=true)=>(Jo (A8 hg y5))) (show(((BP x1 x3 x2 x4)==true)=true->(AVle (.agg Z5) (.agg [YN,U9]))) from(λhg=>(AVle.agg (.cons El (.cons (AVle.refl _) .nil))))) (Nr ((BP x1 x3 x2 x4)==true) (UE (λ(hg:((BP x1 x3 x2 x4)==true)=true)=>(Ex (A8 hg y6))) (L8 (BP x1 x3 x2 x4)) (Nr ((bif (BP x1 x3 x2 x4) then x6 else false)==true) (ci (λ(hg:((bif (BP x1 x3 x2 x4) then x6 else false)==true)=true)=>(Fy (A8 hg y7))) (Nr ((bif (BP x1 x3 x2 x4) then x6 else false)==true) (j6 (L8 (bif (BP x1 x3 x2 x4) then x6 else false)) (gI ((VW x1 x3 x2 x4 x6 x7)==true)) (λ(hg:((VW x1 x3 x2 x4 x6 x7)==true)=true)=>(Dd (A8 hg y8))) (MX ((VW x1 x3 x2 x4 x6 x7)==true) (j6 (L8 (VW x1 x3 x2 x4 x6 x7)) (gI (du x1 x3 x2 x4 x6 x7 x8)) (λ(hg:(du x1 x3 x2 x4 x6 x7 x8)=true)=>(Dd (A8 hg y9))) (Nr (du x1 x3 x2 x4 x6 x7 x8) (ci c10_ (MX (du x1 x3 x2 x4 x6 x7 x8) (c1 (L8 (bif (VW x1 x3 x2 x4 x6 x7) then(jm x8) else false)))))))))))))))))) (tS h (C1 [])))))))
def D6(a3:TForm):Int->Option (LR Int (Unit ⊕ Bool)):=
 λ(i1:Int)=>(bif (decide (i1<(a3.Terms.length:Int))) then(Cq (B6 i1 a3.Terms.length) (Cq (((decide (((a3.Terms.getD i1.toNat default).V:Int)<1))==false)=true->(B6 i1 a3.Terms.length)) (Cq (((bif (decide (((a3.Terms.getD i1.toNat default).V:Int)<1)) then true else(decide ((1023:Int)<(a3.Terms.getD i1.toNat default).V)))==false)=true->(B6 i1 a3.Terms.length)) (Cq ((((bif (bif (decide (((a3.Terms.getD i1.toNat default).V:Int)<1)) then true else(decide ((1023:Int)<(a3.Terms.getD i1.toNat default).V))) then true else(((a3.Terms.getD i1.toNat default).Scale:Int)==0))==false)&&((decide ((0:Int)<i1))==true))=true->(B6 i1 a3.Terms.length)) (Cq ((((bif (bif (decide (((a3.Terms.getD i1.toNat default).V:Int)<1)) then true else(decide ((1023:Int)<(a3.Terms.getD i1.toNat default).V))) then true else(((a3.Terms.getD i1.toNat default).Scale:Int)==0))==false)&&((decide ((0:Int)<i1))==true))=true->(B6 (Bh (i1-1)) a3.Terms.length)) (bif (bif (bif (bif (decide (((a3.Terms.getD i1.toNat default).V:Int)<1)) then true else(decide ((1023:Int)<(a3.Terms.getD i1.toNat default).V))) then true else(((a3.Terms.getD i1.toNat default).Scale:Int)==0)) then true else(bif (decide ((0:Int)<i1)) then(decide (((a3.Terms.getD i1.toNat default).V:Int)<=(a3.Terms.getD (Bh (i1-1)).toNat (default:Ah)).V)) else false)) then(some (.done (.inr false))) else(some (.next (Bh (i1+1)))))))))) else(some (.done (.inl ()))))
def T9(Γ:Gt)(a3:TForm)(r:Bool):Exit->St->Prop:=fK Tryz.prog Γ Tryz.f14.results.toList [] (.bool r) []
def ZA(a3:TForm)(i1:Int):=(bif (bif (decide (((a3.Terms.getD i1.toNat default).V:Int)<1)) then true else(decide ((1023:Int)<(a3.Terms.getD i1.toNat default).V))) then true else(((a3.Terms.getD i1.toNat default).Scale:Int)==0))
def lL(i1:Int):=((decide ((0:Int)<i1))==true)
def dw(a3:TForm)(i1:Int):=(((ZA a3 i1)==false)&&(lL i1))
def jq(a3:TForm)(i1:Int):=((decide (((a3.Terms.getD i1.toNat default).V:Int)<1))==false)
def jp(a3:TForm)(i1:Int):=((bif (decide (((a3.Terms.getD i1.toNat default).V:Int)<1)) then true else(decide ((1023:Int)<(a3.Terms.getD i1.toNat default).V)))==false)
def Fb(a3:TForm):Option Bool:=
 ((Ai (D6 a3) (0:Int)).bind (λx7=>(match x7 with|(.inl _)=>(some true)|(.inr r9)=>(some r9))))
theorem Ly(h:Fb v34=some v3):sP 14 [(Mn v34)] [] (.bool v3) []:=
 sG Tryz.func14 λΓ q=>tW q [1] [1] [1,3] [1] (tL q h [1,3] [1] (λu i1=>(Fo u [(3,(Z7 i1))] [])) (λu x_=>match x_ with|(.inl _)=>aG Γ (.exit 0) (⟨[],[],[]⟩:St)|(.inr r_)=>aR (T9 Γ v34 r_)) (λi1 y h=>Ap q [1,3,8] [1] (gC h (λh=>tC h λc2_ h=>tC h λc3_ h=>tC h λc4_ h=>tC h λc5_ h=>tC h λc6_ h=>tU q [1,3,55] [1] (ci c2_ (MX (jq v34 i1) (ci c3_ (MX (jq v34 i1) (ci (Ua (decide (((v34.Terms.getD i1.toNat default).V:Int)<1))) (MX (jp v34 i1) (ci c4_ (MX (jp v34 i1) (ci (Ua (bif (decide (((v34.Terms.getD i1.toNat default).V:Int)<1)) then true else(decide ((1023:Int)<(v34.Terms.getD i1.toNat default).V)))) (Nr ((ZA v34 i1)==false) (MX (dw v34 i1) (ci c5_ (mt (dw v34 i1) (ci c6_ (jU (dw v34 i1) (c3 (gI ((ZA v34 i1)==false)) (show(((ZA v34 i1)==false)=true->((decide ((0:Int)<i1))=true->(dw v34 i1)=true)) from(λhg=>(aT hg))) (Ua (ZA v34 i1)))))))))))))))))) (gC h (λh=>Ap q [2] [] (tS h (gO (R3 (K0 [] (Le.refl _ _)))))) λh=>Ap q [1,3] [1] (tN h))) λh=>tS h (gO (Ea (Dv [] [] q))))) λx7 h=>(match x7,h with | .inl _,h=>gA (Ap q [2] [] (tS h (C1 []))) | .inr r9,h=>Vx (λst' hk=>tS h (gK hk))))
open Go Go.RowKit
set_option maxRecDepth 100000
set_option maxHeartbeats 2000000
def B1(a4:Ab)(i2:Int):Gr->Option ks:=
 λ((i5,i6):Gr)=>(Cq (B6 i2 a4.Blocks.length) (bif (bif (decide (i6<(((a4.Blocks.getD i2.toNat default).Phis).length:Int))) then(decide (i5<=20000)) else false) then(Cq (B6 i2 a4.Blocks.length) (Cq (B6 i6 ((a4.Blocks.getD i2.toNat default).Phis).length) (Cq (B6 i2 a4.Blocks.length) (Cq (B6 i6 ((a4.Blocks.getD i2.toNat default).Phis).length) (some (.next ((Bh ((Bh ((Bh (i5+1))+(((((a4.Blocks.getD i2.toNat default).Phis).getD i6.toNat default).From).length:Int)))+(((((a4.Blocks.getD i2.toNat default).Phis).getD i6.toNat default).Args).length:Int))),(Bh (i6+1))))))))) else(some (.done i5))))
def B2(a4:Ab)(i2:Int):Gr->Option ks:=
 λ((i15,i16):Gr)=>(Cq (B6 i2 a4.Blocks.length) (bif (bif (decide (i16<(((a4.Blocks.getD i2.toNat default).Ops).length:Int))) then(decide (i15<=20000)) else false) then(Cq (B6 i2 a4.Blocks.length) (Cq (B6 i16 ((a4.Blocks.getD i2.toNat default).Ops).length) (some (.next ((Bh ((Bh (i15+1))+(((((a4.Blocks.getD i2.toNat default).Ops).getD i16.toNat default).Args).length:Int))),(Bh (i16+1))))))) else(some (.done i15))))
def Bn(a4:Ab):Gr->Option ks:=
 λ((i1,i2):Gr)=>(bif (bif (decide (i2<(a4.Blocks.length:Int))) then(decide (i1<=20000)) else false) then(Cq (B6 i2 a4.Blocks.length) ((Ai (B1 a4 i2) ((Bh ((Bh (i1+1))+(((a4.Blocks.getD i2.toNat default).End.To).length:Int))),(0:Int))).bind (λx13=>((Ai (B2 a4 i2) (x13,(0:Int))).bind (λx21=>(some (.next (x21,(Bh (i2+1)))))))))) else(some (.done i1)))
def Dn(a4:Ab):Option Bool:=
 ((Ai (Bn a4) ((a4.Params.length:Int),(0:Int))).bind (λx23=>(some (decide (x23<=20000)))))
def AF(x6:Bool)(x8:Bool):=((bif x6 then x8 else false)==true)
def LQ(x6:Bool)(x8:Bool)(x14:Bool):=(bif (bif x6 then x8 else false) then x14 else false)
def QO(x6:Bool)(x8:Bool)(x14:Bool)(x17:Bool):=(bif (LQ x6 x8 x14) then x17 else false)
def ZC(x6:Bool)(x8:Bool)(x14:Bool)(x17:Bool)(x19:Bool):=((bif (QO x6 x8 x14 x17) then x19 else false)==true)
def lP(a3:TForm):=((decide ((200:Int)<(a3.Terms.length:Int)))==false)
def dy:AV:=(.agg [YN,U9])
def LS(a3:TForm)(a2:TForm):=(bif (decide ((200:Int)<(a3.Terms.length:Int))) then true else(decide ((200:Int)<(a2.Terms.length:Int))))
def Fx(a3:TForm)(a2:TForm)(aa6:Int):Option Bool:=
 (m_locksteplaw17_awake.bind λx1=>(bif (!x1) then(some false) else((bif ((bif (decide ((200:Int)<(a3.Terms.length:Int))) then true else(decide ((200:Int)<(a2.Terms.length:Int))))==false) then Fb a3 else some false).bind λx2=>((bif ((bif (bif (decide ((200:Int)<(a3.Terms.length:Int))) then true else(decide ((200:Int)<(a2.Terms.length:Int)))) then true else(!x2))==false) then Fb a2 else some false).bind λx3=>(bif (bif (bif (bif (decide ((200:Int)<(a3.Terms.length:Int))) then true else(decide ((200:Int)<(a2.Terms.length:Int)))) then true else(!x2)) then true else(!x3)) then(some true) else((Dy a3 a2).bind λx4=>((Dy a2 a3).bind λx5=>((Dc x4 x5).bind λx6=>((bif (x6==true) then Fv a3 a3 else some (default:TForm)).bind λx7=>((bif (x6==true) then Dc x7 (⟨([]:List Ah),(0:Int)⟩:TForm) else some false).bind λx8=>((bif ((bif x6 then x8 else false)==true) then Dy a3 a2 else some (default:TForm)).bind λx9=>((bif ((bif x6 then x8 else false)==true) then B7 x9 aa6 else some (default:TForm)).bind λx10=>((bif ((bif x6 then x8 else false)==true) then B7 a3 aa6 else some (default:TForm)).bind λx11=>((bif ((bif x6 then x8 else false)==true) then B7 a2 aa6 else some (default:TForm)).bind λx12=>((bif ((bif x6 then x8 else false)==true) then Dy x11 x12 else some (default:TForm)).bind λx13=>((bif ((bif x6 then x8 else false)==true) then Dc x10 x13 else some false).bind λx14=>((bif ((bif (bif x6 then x8 else false) then x14 else false)==true) then Dy a3 a2 else some (default:TForm)).bind λx15=>((bif ((bif (bif x6 then x8 else false) then x14 else false)==true) then Fv x15 a2 else some (default:TForm)).bind λx16=>((bif ((bif (bif x6 then x8 else false) then x14 else false)==true) then Dc x16 a3 else some false).bind λx17=>((bif ((bif (bif (bif x6 then x8 else false) then x14 else false) then x17 else false)==true) then B7 a3 (1:Int) else some (default:TForm)).bind λx18=>((bif ((bif (bif (bif x6 then x8 else false) then x14 else false) then x17 else false)==true) then Dc x18 a3 else some false).bind λx19=>((bif ((bif (bif (bif (bif x6 then x8 else false) then x14 else false) then x17 else false) then x19 else false)==true) then B7 a3 (0:Int) else some (default:TForm)).bind λx20=>((bif ((bif (bif (bif (bif x6 then x8 else false) then x14 else false) then x17 else false) then x19 else false)==true) then Dc x20 (⟨([]:List Ah),(0:Int)⟩:TForm) else some false).bind λx21=>(some (bif (bif (bif (bif (bif x6 then x8 else false) then x14 else false) then x17 else false) then x19 else false) then x21 else false)))))))))))))))))))))))))
theorem ok_locksteplaw17_AffineRing(a3:TForm)(a2:TForm)(aa6:Int)(r:Bool)(h:Fx a3 a2 aa6=some r):sP 5 [(Mn a3),(Mn a2),(Iq aa6)] [] (.bool r) []:=
 sG Tryz.func5 λΓ q=>Ap q FC [3,4] (tB h λx1 y1 h=>tT q [2,3,4,8] [3,4] [(Z2 x1)] (c1 (Qr  x1 y1)) (gC h (λh=>Ap q [6] [] (tS h (C1 []))) λh=>tB h λx2 y2 h=>tB h λx3 y3 h=>tT q [2,3,4,28] [3,4] [(Z2 x2),(Z2 x3)] (MX (lP a3) (c9 (Ua (decide ((200:Int)<(a3.Terms.length:Int)))) (gI ((LS a3 a2)==false)) (λ(hg:((LS a3 a2)==false)=true)=>(Ly (A8 hg y2))) (gI ((LS a3 a2)==false)) (Ua (LS a3 a2)) (gI ((bif (LS a3 a2) then true else(!x2))==false)) (λ(hg:((bif (LS a3 a2) then true else(!x2))==false)=true)=>(Ly (A8 hg y3))) (gI ((bif (LS a3 a2) then true else(!x2))==false)) (Ua (bif (LS a3 a2) then true else(!x2))))) (gC h (λh=>Ap q [6] [] (tS h (C1 []))) λh=>tB h λx4 y4 h=>tB h λx5 y5 h=>tB h λx6 y6 h=>tB h λx7 y7 h=>tB h λx8 y8 h=>tB h λx9 y9 h=>tB h λx10 y10 h=>tB h λx11 y11 h=>tB h λx12 y12 h=>tB h λx13 y13 h=>tB h λx14 y14 h=>tB h λx15 y15 h=>tB h λx16 y16 h=>tB h λx17 y17 h=>tB h λx18 y18 h=>tB h λx19 y19 h=>tB h λx20 y20 h=>tB h λx21 y21 h=>gR q [6] [] [(40,dy),(76,dy)] [(BQ x4),(BQ x5),(Z2 x6),(BQ x7),(Z2 x8),(BQ x9),(BQ x10),(BQ x11),(BQ x12),(BQ x13),(Z2 x14),(BQ x15),(BQ x16),(Z2 x17),(BQ x18),(Z2 x19),(BQ x20),(Z2 x21)] (j6 (Fy y4) (Fy y5) (Ex y6) (Nr (x6==true) (UE (λ(hg:(x6==true)=true)=>(Jo (A8 hg y7))) (show((x6==true)=true->(AVle (.agg Z5) dy)) from(λhg=>(AVle.agg (.cons El (.cons (AVle.refl _) .nil))))) (Nr (x6==true) (UE (λ(hg:(x6==true)=true)=>(Ex (A8 hg y8))) (L8 x6) (Nr (AF x6 x8) (ci (λ(hg:(AF x6 x8)=true)=>(Fy (A8 hg y9))) (Nr (AF x6 x8) (ci (λ(hg:(AF x6 x8)=true)=>(Dd (A8 hg y10))) (Nr (AF x6 x8) (ci (λ(hg:(AF x6 x8)=true)=>(Dd (A8 hg y11))) (Nr (AF x6 x8) (ci (λ(hg:(AF x6 x8)=true)=>(Dd (A8 hg y12))) (Nr (AF x6 x8) (ci (λ(hg:(AF x6 x8)=true)=>(Fy (A8 hg y13))) (Nr (AF x6 x8) (UE (λ(hg:(AF x6 x8)=true)=>(Ex (A8 hg y14))) (L8 (bif x6 then x8 else false)) (Nr ((LQ x6 x8 x14)==true) (ci (λ(hg:((LQ x6 x8 x14)==true)=true)=>(Fy (A8 hg y15))) (Nr ((LQ x6 x8 x14)==true) (ci (λ(hg:((LQ x6 x8 x14)==true)=true)=>(Jo (A8 hg y16))) (Nr ((LQ x6 x8 x14)==true) (md (λ(hg:((LQ x6 x8 x14)==true)=true)=>(Ex (A8 hg y17))) (L8 (LQ x6 x8 x14)) (gI ((QO x6 x8 x14 x17)==true)) (λ(hg:((QO x6 x8 x14 x17)==true)=true)=>(Dd (A8 hg y18))) (Nr ((QO x6 x8 x14 x17)==true) (mq (λ(hg:((QO x6 x8 x14 x17)==true)=true)=>(Ex (A8 hg y19))) (L8 (QO x6 x8 x14 x17)) (gI (ZC x6 x8 x14 x17 x19)) (λ(hg:(ZC x6 x8 x14 x17 x19)=true)=>(Dd (A8 hg y20))) (show((ZC x6 x8 x14 x17 x19)=true->(AVle (.agg Z5) dy)) from(λhg=>(AVle.agg (.cons El (.cons (AVle.refl _) .nil))))) (Nr (ZC x6 x8 x14 x17 x19) (c2 (λ(hg:(ZC x6 x8 x14 x17 x19)=true)=>(Ex (A8 hg y21))) (L8 (bif (QO x6 x8 x14 x17) then x19 else false))))))))))))))))))))))))))))) (tS h (C1 [])))))
theorem cr{n:Int}(h:(Lit.int .u64 n).wf=true):0<=n/\n<18446744073709551616:=by simp[Lit.wf,IntKind.min,IntKind.max,IntKind.bits,IntKind.signed]at h;omega
abbrev Iall(w:World):Nat->Nat->Prop:=λb o=>∃ u,w.cell? ⟨b,o,none⟩=some u
structure YU(w:World)(cs:List Value)(avs:List AV):Prop where
 len:cs.length=avs.length
 one:∀ j,j<avs.length->(cs.getD j undef).oneCell'=true
 rep:∀ j,j<avs.length->RepV (Iall w) w (cs.getD j undef) (avs.getD j .any)
structure Opens(P:Program)(t:TypeId){α:Type}(e:α->List AV)(ok:α->Prop):Prop where
 get:∀{H:Type} {enc:TypeId×Value->H} {w:World} {base:Nat} {spare:Nat->Bool} {held:Bool} {fuel:Nat} {cs:List Value} {x:DataW H×List MemPlace},
  DataW.trod enc P w base spare held fuel t cs=some x->∃ a,ok a/\YU w cs (e a)
theorem CD{w:World}{v:Value}{x:AV}(h1:v.oneCell'=true)(h:RepV (Iall w) w v x):YU w [v] [x]:=
 ⟨rfl,λj hj=>(by
   have hj0:j=0:=by simpa using hj
   subst hj0
   exact h1),λj hj=>(by
   have hj0:j=0:=by simpa using hj
   subst hj0
   exact h)⟩
theorem HL{P:Program}{t:TypeId}{k:IntKind}{e:Int->List AV}(ht:P.underlying t=some (.int k))(he:∀ n,e n=[.int k n]):Opens P t e (λn=>(Lit.int k n).wf=true):=by
 refine⟨?_⟩;intro H enc w base spare held fuel cs x h;obtain⟨n,rfl,rfl,hw⟩:=DataW.trod_int ht h;exact⟨n,hw,by rw[he];exact CD rfl (.int _ _)⟩
theorem RE{w:World}{base:Nat}{a:Addr}{n:Nat}{cs:List Value}(h:w.cells? base a n=some cs):cs.length=n/\∀ i,i<n->w.cell? (a.add i)=some (cs.getD i undef):=by
 unfold World.cells? at h
 split at h
 ·have hl:=mapM_some_length h;simp at hl;refine⟨hl,λi hi=>?_⟩;have:=mapM_some_get h i i (by simp[hi]);rw[this];simp[List.getD,show i<cs.length by omega]
 ·cases h
theorem OG{P:Program}{t el:TypeId}{α:Type}{e:α->List AV}{ok:α->Prop}{sz:Nat}{d:α}{e':List α->List AV}(ht:P.underlying t=some (.slice el))(hs:P.cellsOf el=sz)(h1:1<=sz)(he:Opens P el e ok)(hlen:∀ a,(e a).length=sz)
  (he':∀ l,e' l=[AV.list sz e d l .none]):Opens P t e' (λl=>(∀ a∈l,ok a)/\l.length<=maxLen):=by
 refine⟨?_⟩;intro H enc w base spare held fuel cs x h;rcases DataW.trod_slice ht h with⟨rfl,rfl⟩|⟨a,len,cap,elems,rest,n,_,rfl,rfl,hb,hl,hm,hlen2,hel,_⟩
 ·exact⟨[],⟨by simp,by simp⟩,by rw[he'];exact CD rfl (.slice none 0 0 sz _ (λ_=>undef) (zzL7 _) (by simp) (λh=>by simp at h) (λ_=>rfl) (λj hj=>by simp at hj) (λi hi=>by simp at hi) (λi c hi=>by simp at hi))⟩
 ·have each:∀ i:Fin len,∃ b,ok b/\∃ cs,w.cells? base (a.add (i.1*sz)) sz=some cs/\YU w cs (e b):=λ⟨i,hi⟩=>by
   have:=hel i hi;rw[hs,Ol (by omega),zzL105]at this;obtain⟨cs,hcs,htr⟩:=this;obtain⟨b,hb,hr⟩:=he.get htr;exact⟨b,hb,cs,hcs,hr⟩
  let f:Fin len->α:=λi=>(each i).choose
  have hf:∀ i,ok (f i)/\∃ cs,w.cells? base (a.add (i.1*sz)) sz=some cs/\YU w cs (e (f i)):=λi=>(each i).choose_spec
  have hlf:(List.ofFn f).length=len:=by simp
  refine⟨List.ofFn f,⟨λb hb=>?_,by simp;omega⟩,?_⟩
  ·obtain⟨i,rfl⟩:=List.mem_ofFn.1 hb;exact(hf i).1
  rw[he'];refine CD rfl ?_
  have hcell0:∀ i (hi:i<len),∀ c,c<sz->∃ u,w.cell? ((a.add (i*sz)).add c)=some u/\u.oneCell'=true/\RepV (Iall w) w u ((e (f ⟨i,hi⟩)).getD c .any):=λi hi c hc=>by
   obtain⟨_,cs,hcs,hr⟩:=hf ⟨i,hi⟩;obtain⟨hl,hg⟩:=RE hcs;exact⟨_,hg c hc,hr.one c (by rw[hlen];exact hc),hr.rep c (by rw[hlen];exact hc)⟩
  have hspot:0<len->a.spot=none:=λhp=>by
   obtain⟨u,hu,_⟩:=hcell0 0 hp 0 h1;have h2:=World.cell?_spot hu
   simpa [Addr.add] using h2
  have hcell:∀ i (hi:i<len),∀ c,c<sz->∃ u,w.cell? ⟨a.block,a.off+(i*sz+c),none⟩=some u/\u.oneCell'=true/\RepV (Iall w) w u ((e (f ⟨i,hi⟩)).getD c .any):=λi hi c hc=>by
   obtain⟨u,hu,h1,h2⟩:=hcell0 i hi c hc;have hsp:=hspot (by omega);rw[Ho hsp,Jh]at hu;exact⟨u,by rw[<- Pu];exact hu,h1,h2⟩
  have hdm:∀ j,j<len*sz->∃ i c,i<len/\c<sz/\j=i*sz+c:=λj hj=>by
   refine⟨j / sz,j % sz,(EX (by omega)).2 hj,Nat.mod_lt _ (by omega),?_⟩;rw[Tc];exact(Xk j sz).symm
  unfold AV.list;rw[hlf];refine .slice (some a) len cap sz _ (λj=>(w.cell? ⟨a.block,a.off+j,none⟩).getD undef) hl hm (λhp=>⟨a,rfl,hspot hp,λj hj=>?_,λj hj=>?_⟩) (λh=>by cases h) (λj hj=>?_) (λi hi=>hlen _) (λi c hi hc=>?_)
  ·obtain⟨i,c,hi,hc,rfl⟩:=hdm j hj;obtain⟨u,hu,_⟩:=hcell i hi c hc;exact⟨u,hu⟩
  ·obtain⟨i,c,hi,hc,rfl⟩:=hdm j hj;obtain⟨u,hu,_⟩:=hcell i hi c hc;rw[hu];rfl
  ·obtain⟨i,c,hi,hc,rfl⟩:=hdm j hj;obtain⟨u,hu,h1,_⟩:=hcell i hi c hc;simp only[hu];exact h1
  ·obtain⟨u,hu,_,h2⟩:=hcell i hi c hc
   have e1:(List.ofFn f).getD i d=f ⟨i,hi⟩:=by simp[List.getD,hi]
   rw[e1,hu];exact h2
structure JC(P:Program)(fs:List Field)(off N:Nat){α:Type}(e:α->List AV)(ok:α->Prop):Prop where
 get:∀{H:Type} {enc:TypeId×Value->H} {w:World} {base:Nat} {spare:Nat->Bool} {held:Bool} {n:Nat} {cs:List Value},cs.length=N->
  (∀ f∈fs,∃ x,DataW.trod enc P w base spare held n f.type ((cs.drop f.offset).take (P.cellsOf f.type))=some x)->∃ a,ok a/\YU w (cs.drop off) (e a)
theorem DO{P:Program}{N:Nat}:JC P [] N N (λ_:Unit=>[]) (λ_=>True):=by
 refine⟨?_⟩;intro H enc w base spare held n cs hN _;rw[List.drop_eq_nil_of_le (by omega)];exact⟨(),trivial,rfl,(λj hj=>by simp at hj),(λj hj=>by simp at hj)⟩
theorem Og{P:Program}{f:Field}{fs:List Field}{off sz N:Nat}{α β:Type}{e:α->List AV}{ok:α->Prop}{e':β->List AV}{ok':β->Prop}(hoff:f.offset=off)(hsz:P.cellsOf f.type=sz)(hle:off+sz<=N)
  (h:Opens P f.type e ok) (h':JC P fs (off+sz) N e' ok'):JC P (f::fs) off N (λp:α×β=>e p.1++e' p.2) (λp=>ok p.1/\ok' p.2):=by
 refine⟨?_⟩;intro H enc w base spare held n cs hN hall;obtain⟨x,hx⟩:=hall f (by simp);rw[hoff,hsz]at hx;obtain⟨a,ha,hr⟩:=h.get hx;obtain⟨b,hb,hr'⟩:=h'.get hN (λg hg=>hall g (by simp[hg]))
 have hl:(e a).length=sz:=by rw[<- hr.len];simp;omega
 have hl':(e' b).length=N-(off+sz):=by rw[<- hr'.len];simp;omega
 have hsplit:cs.drop off=(cs.drop off).take sz++cs.drop (off+sz):=by rw[<- List.drop_drop];exact(List.take_append_drop sz _).symm
 have hl2:((cs.drop off).take sz).length=sz:=by simp;omega
 refine⟨(a,b),⟨ha,hb⟩,?_,λj hj=>?_,λj hj=>?_⟩
 ·simp[hl,hl'];omega
 ·rw[hsplit];replace hj:j<(e a++e' b).length:=hj
  show _
  by_cases hlt:j<sz
  ·have:=hr.one j (by omega);rwa[List.getD,Pr (by omega)]
  ·have:=hr'.one (j-sz) (by simp at hj;omega);rwa[List.getD,S9 (by omega),hl2]
 ·rw[hsplit];replace hj:j<(e a++e' b).length:=hj
  show RepV (Iall w) w _ ((e a++e' b).getD j .any)
  by_cases hlt:j<sz
  ·have:=hr.rep j (by omega);rwa[List.getD,Pr (by omega),List.getD,Pr (by omega)]
  ·have:=hr'.rep (j-sz) (by simp at hj;omega);rwa[List.getD,S9 (by omega),hl2,List.getD,S9 (by omega),hl]
theorem W0{P:Program}{t:TypeId}{fs:Array Field}{N:Nat}{α:Type}{e:α->List AV}{ok:α->Prop}(ht:P.underlying t=some (.struct fs))(hN:P.cellsOf t=N)(h:JC P fs.toList 0 N e ok):Opens P t e ok:=by
 refine⟨?_⟩;intro H enc w base spare held fuel cs x hx;obtain⟨xs,n,_,_,hl,hxl,hall⟩:=DataW.trod_struct ht hx
 have:=h.get (n:=n) (hl.trans hN) (enc:=enc) (w:=w) (base:=base) (spare:=spare) (held:=held) (λf hf=>by
  obtain⟨i,hi,rfl⟩:=List.mem_iff_getElem.1 hf
  have hi':i<fs.size:=by simpa using hi
  have:=hall i fs.toList[i] (by simp[hi']);rw[Ol (by omega)]at this
  exact⟨_,this⟩)
 simpa using this
theorem Opens.to{P:Program}{t:TypeId}{α β:Type}{e:α->List AV}{ok:α->Prop}(h:Opens P t e ok){e':β->List AV}{ok':β->Prop}(g:α->β)(he:∀ a,e' (g a)=e a)(hok:∀ a,ok a->ok' (g a)):Opens P t e' ok':=by
 refine⟨?_⟩;intro H enc w base spare held fuel cs x hx;obtain⟨a,ha,hr⟩:=h.get hx;exact⟨g a,hok a ha,by rw[he];exact hr⟩
theorem arg_one{P:Program}{t:TypeId}{α:Type}{e:α->List AV}{ok:α->Prop}(h:Opens P t e ok){x:α->AV}(he:∀ a,e a=[x a]){H:Type}{enc:TypeId×Value->H}{w:World}{base:Nat}{spare:Nat->Bool}{held:Bool}{v:Value}{d:DataW H}{ps:List MemPlace}
  (hv:v.cells = #[v]) (hd:DataW.Trod enc P w base spare held t v d ps):∃ a,ok a/\RepV (Iall w) w v (x a):=by
 obtain⟨fuel,hf⟩:=hd;obtain⟨a,ha,hr⟩:=h.get hf;refine⟨a,ha,?_⟩;have:=hr.rep 0 (by simp[he])
 simpa [hv,he] using this
theorem arg_agg{P:Program}{t:TypeId}{α:Type}{e:α->List AV}{ok:α->Prop}(h:Opens P t e ok){H:Type}{enc:TypeId×Value->H}{w:World}{base:Nat}{spare:Nat->Bool}{held:Bool}{cs:Array Value}{d:DataW H}{ps:List MemPlace}
  (hd:DataW.Trod enc P w base spare held t (.agg cs) d ps):∃ a,ok a/\RepV (Iall w) w (.agg cs) (.agg (e a)):=by
 obtain⟨fuel,hf⟩:=hd;obtain⟨a,ha,hr⟩:=h.get hf;have e1:(Value.agg cs).cells.toList=cs.toList:=rfl;rw[e1]at hr
 have e2:∀ j,cs.toList.getD j undef=cs.getD j undef:=λj=>by simp[L3,List.getD]
 refine⟨a,ha,.agg _ _ (by simpa using hr.len) (λj hj=>?_) (λj hj=>?_)⟩
 ·rw[<- e2];exact hr.one j hj
 ·rw[<- e2];exact hr.rep j hj
def gi(n:Int):Prop:=(Lit.int .i64 n).wf=true
theorem mC:Opens Tryz.prog 3 Ax gi:=HL Tryz.underlying3 (λ_=>rfl)
def okU64(n:Int):Prop:=(Lit.int .u64 n).wf=true
theorem op_23:Opens Tryz.prog 23 lu okU64:=HL Tryz.underlying23 (λ_=>rfl)
def UR(a:Ah):Prop:=gi a.V/\okU64 a.Scale/\True
theorem kI:Opens Tryz.prog 51 Dz UR:=Opens.to (W0 (N:=2) Tryz.underlying51 (by kernel_rfl) (Og (off:=0) (sz:=1) (N:=2) rfl (by kernel_rfl) (by decide) mC (Og (off:=1) (sz:=1) (N:=2) rfl (by kernel_rfl) (by decide) op_23 DO))) (λp=>⟨p.1,p.2.1⟩) (λ_=>rfl) (λ_ h=>h)
def NU(l:List (Ah)):Prop:=(∀ a∈l,UR a)/\l.length<=maxLen
theorem kH:Opens Tryz.prog 22 eU NU:=OG (d:=(default:Ah)) Tryz.underlying22 (by kernel_rfl) (by decide) kI (λ_=>rfl) (λ_=>rfl)
def okTForm(a:TForm):Prop:=NU a.Terms/\okU64 a.Off/\True
theorem op_25:Opens Tryz.prog 25 eTForm okTForm:=Opens.to (W0 (N:=2) Tryz.underlying25 (by kernel_rfl) (Og (off:=0) (sz:=1) (N:=2) rfl (by kernel_rfl) (by decide) kH (Og (off:=1) (sz:=1) (N:=2) rfl (by kernel_rfl) (by decide) op_23 DO))) (λp=>⟨p.1,p.2.1⟩) (λ_=>rfl) (λ_ h=>h)
theorem Hn{n:Int}(h:-9223372036854775808<=n)(h':n<9223372036854775808):Bh n=n:=by
 show IntKind.i64.wrap n=n
 simp only[IntKind.wrap,IntKind.bits,IntKind.signed]
 simp
 split<;>omega
theorem LA{n:Int}(h:0<=n)(h':n<18446744073709551616):Gq n=n:=by
 show IntKind.u64.wrap n=n
 simp[IntKind.wrap,IntKind.bits,IntKind.signed];omega
theorem S6(n:Int):Gq n=n % 18446744073709551616:=by
 show IntKind.u64.wrap n=_
 simp[IntKind.wrap,IntKind.bits,IntKind.signed]
theorem Aq{R:Type}{p:Prop}[Decidable p]{k:Option R}(h:p):Cq p k=k:=if_pos h
theorem bL{x:Int}(j:Nat):x.fdiv (2 ^ j)=x / 2 ^ j:=by rw[Int.fdiv_eq_ediv_of_nonneg _ (by exact Int.le_of_lt (Int.pow_pos (by decide)))]
theorem Aa{α:Type}(l:List α)(i:Nat)(d:α)(h:i<l.length):l.getD i d=l[i]:=by simp[List.getD,h]
theorem kinds(k:Int):k=0\/k=1\/k=2\/k=3\/k=4\/k=5\/k=6\/k=7\/k=8\/k=9\/k=10\/k=11\/k=12\/k=13\/k=14\/k=15\/k=16\/k=17\/k=18\/k=19\/k=20\/k=21\/k=22\/(k<0\/22<k):=by omega
theorem cL{k:Int}(h:k<0\/22<k):(k==0)=false/\(k==1)=false/\(k==2)=false/\(k==3)=false/\(k==4)=false/\(k==5)=false/\(k==6)=false/\(k==7)=false/\(k==8)=false/\(k==9)=false/\(k==10)=false/\(k==11)=false/\(k==12)=false /\
  (k==13)=false/\(k==14)=false/\(k==15)=false/\(k==16)=false/\(k==17)=false/\(k==18)=false/\(k==19)=false/\(k==20)=false/\(k==21)=false/\(k==22)=false:=by
 simp only[zzL22,ne_eq];omega
def D9(b:Int):Bool:=b==1 || b==8 || b==16 || b==32 || b==64
def Wg(b n:Int):Bool:=D9 b&&(n==1 || ((n==2 || n==4 || n==8 || n==16)&&decide (8<=b)&&decide (b*n<=128)))
theorem width_cases{b:Int}(h:D9 b=true):b=1\/b=8\/b=16\/b=32\/b=64:=by simp[D9]at h;omega
theorem S2{b n:Int}(h:Wg b n=true):D9 b=true:=by simp[Wg]at h;exact h.1
theorem Ok{b n:Int}(h:Wg b n=true):n=1\/n=2\/n=4\/n=8\/n=16:=by simp[Wg]at h;omega
theorem Po(b:Int):Gx b=some (D9 b):=by
 unfold Gx D9
 by_cases h1:b=1
 ·subst h1;rfl
 by_cases h2:b=8
 ·subst h2;rfl
 by_cases h3:b=16
 ·subst h3;rfl
 by_cases h4:b=32
 ·subst h4;rfl
 by_cases h5:b=64
 ·subst h5;rfl
 have e1:(b==1)=false:=by simpa using h1
 have e2:(b==8)=false:=by simpa using h2
 have e3:(b==16)=false:=by simpa using h3
 have e4:(b==32)=false:=by simpa using h4
 have e5:(b==64)=false:=by simpa using h5
 simp[e1,e2,e3,e4,e5]
theorem RR(b n:Int):Mr b n=some (Wg b n):=by
 unfold Mr;simp only[Po,As]
 by_cases hn:n=1\/n=2\/n=4\/n=8\/n=16
 ·cases hw:D9 b with
  | false=>rcases hn with rfl|rfl|rfl|rfl|rfl<;>simp[Wg,hw]
  | true=>
   rcases width_cases hw with rfl|rfl|rfl|rfl|rfl<;>rcases hn with rfl|rfl|rfl|rfl|rfl<;>rfl
 ·have e1:(n==1)=false:=by simp;omega
  have e2:(n==2)=false:=by simp;omega
  have e3:(n==4)=false:=by simp;omega
  have e4:(n==8)=false:=by simp;omega
  have e5:(n==16)=false:=by simp;omega
  simp[Wg,e1,e2,e3,e4,e5]
theorem cw{v b:Int}(hv:0<=v/\v<18446744073709551616)(hb:D9 b=true):Qj v b=some (v % 2 ^ b.toNat):=by
 unfold Qj;simp only[Po,hb,As,Fd,Ay]
 have key:∀ j:Nat,j<64->W9 .u64 (SQ .u64 v (j:Int)) (j:Int)=(v*2 ^ j % 18446744073709551616) / 2 ^ j:=λj hj=>by
  simp only[W9,SQ,Dg,IntKind.bits];rw[Nat.min_eq_left (by omega),bL,show IntKind.u64.wrap (v*2 ^ j)=v*2 ^ j % 18446744073709551616 from S6 _]
 rcases width_cases hb with rfl|rfl|rfl|rfl|rfl
 ·have:=key 63 (by decide);simp only[show Bh (64-1)=((63:Nat):Int) from rfl,this];rw[Aq (by decide),Aq (by decide)];congr 1;simp only[show((1:Int).toNat)=1 from rfl];omega
 ·have:=key 56 (by decide);simp only[show Bh (64-8)=((56:Nat):Int) from rfl,this];rw[Aq (by decide),Aq (by decide)];congr 1;simp only[show((8:Int).toNat)=8 from rfl];omega
 ·have:=key 48 (by decide);simp only[show Bh (64-16)=((48:Nat):Int) from rfl,this];rw[Aq (by decide),Aq (by decide)];congr 1;simp only[show((16:Int).toNat)=16 from rfl];omega
 ·have:=key 32 (by decide);simp only[show Bh (64-32)=((32:Nat):Int) from rfl,this];rw[Aq (by decide),Aq (by decide)];congr 1;simp only[show((32:Int).toNat)=32 from rfl];omega
 ·have:=key 0 (by decide);simp only[show Bh (64-64)=((0:Nat):Int) from rfl,this];rw[Aq (by decide),Aq (by decide)];congr 1;simp only[show((64:Int).toNat)=64 from rfl];omega
theorem KB{i:Int}(h:0<=i/\i<18446744073709551616):Ii i=some (D9 i):=by
 unfold Ii
 by_cases hi:i<=64
 ·have:Bh i=i:=Hn (by omega) (by omega);simp[hi,this,Po]
 ·have:D9 i=false:=by simp[D9];omega
  simp[hi,this]
def bX(k:Int):Bool:=decide (0<=k)&&decide (k<=22)
def Mi(k n:Int):Int:=
 bif k==0 then 0 else bif k==13 || k==18 || k==19 then 3 else bif k==14 || k==15 || k==16 || k==22 then 1 else bif k==20 then 4 else bif k==21 then n else 2
def W8(k b n:Int):Bool:=
 bif k==16 || k==17 then decide (8<=b) else bif k==18 || k==19 then decide (8<=b)&&n==1 else
 bif k==4 || k==10 || k==11 || k==12 || k==14 || k==15 || k==20 then n==1 else bif k==21 || k==22 then decide (1<n) else true
def ifitS(k b n i:Int):Bool:=
 bif k==0 then i % 2 ^ b.toNat==i else bif k==14 then D9 i&&decide (i<b) else bif k==15 then D9 i&&decide (b<i) else bif k==22 then decide (i<n) else i==0
def valS(v:Int):Bool:=decide (1<=v)&&decide (v<=1023)
def dstS(k d:Int):Bool:=bif k==17 || k==19 then d==0 else valS d
def I8(o:Ds):Bool:=Wg o.Bits o.Lanes&&(bX o.Kind&&W8 o.Kind o.Bits o.Lanes&&ifitS o.Kind o.Bits o.Lanes o.Imm&&((o.Args.length:Int)==Mi o.Kind o.Lanes))&&(o.Args.all valS&&dstS o.Kind o.Dst)
def GQ(o:Ds)(i:Nat):Int×Int:=
 bif o.Kind==13 || o.Kind==20 then(bif Nat.beq i 0 then(1,1) else(o.Bits,o.Lanes)) else bif o.Kind==14 || o.Kind==15 then(Bh o.Imm,1) else
 bif o.Kind==16 || o.Kind==17 then(bif Nat.beq i 0 then(64,1) else(o.Bits,o.Lanes)) else
 bif o.Kind==18 || o.Kind==19 then(bif Nat.beq i 1 then(64,1) else bif Nat.beq i 0 then(1,1) else(o.Bits,o.Lanes)) else bif o.Kind==21 then(o.Bits,1) else(o.Bits,o.Lanes)
def Nm(o:Ds):List (Int×Int):=(List.range (Mi o.Kind o.Lanes).toNat).map (GQ o)
def L9(k b n:Int):Int×Int:=bif k==17 || k==19 then(0,0) else bif k==10 || k==11 || k==12 then(1,1) else bif k==22 then(b,1) else(b,n)
theorem eg{k:Int}(h:k<0\/22<k):bX k=false:=by simp[bX];omega
theorem NB(k:Int):Lq k=some (bX k):=by unfold Lq bX;cases decide ((0:Int)<=k)<;>rfl
theorem Qd(v:Int):Ih v=some (valS v):=by unfold Ih valS;cases decide ((1:Int)<=v)<;>rfl
theorem CT(o:Ds):Iy o=some (W8 o.Kind o.Bits o.Lanes):=by
 obtain⟨k,b,n,d,args,i⟩:=o;rcases kinds k with rfl|rfl|rfl|rfl|rfl|rfl|rfl|rfl|rfl|rfl|rfl|rfl|rfl|rfl|rfl|rfl|rfl|rfl|rfl|rfl|rfl|rfl|rfl|h
 any_goals rfl
 ·show some (bif decide (8<=b) then n==1 else false)=some (decide (8<=b)&&n==1);cases decide (8<=b)<;>rfl
 ·show some (bif decide (8<=b) then n==1 else false)=some (decide (8<=b)&&n==1);cases decide (8<=b)<;>rfl
 ·unfold Iy W8;simp[cL h]
theorem CS(o:Ds):Kp o=some (L9 o.Kind o.Bits o.Lanes):=by
 obtain⟨k,b,n,d,args,i⟩:=o;rcases kinds k with rfl|rfl|rfl|rfl|rfl|rfl|rfl|rfl|rfl|rfl|rfl|rfl|rfl|rfl|rfl|rfl|rfl|rfl|rfl|rfl|rfl|rfl|rfl|h
 any_goals rfl
 unfold Kp L9;simp[cL h]
theorem KA(o:Ds)(hw:D9 o.Bits=true)(hn:0<=o.Lanes/\o.Lanes<=16)(hi:0<=o.Imm/\o.Imm<18446744073709551616):Kq o=some (ifitS o.Kind o.Bits o.Lanes o.Imm):=by
 unfold Kq ifitS
 have hb:Gq o.Bits=o.Bits:=by apply LA<;>(rcases width_cases hw with h|h|h|h|h<;>omega)
 have hl:Gq o.Lanes=o.Lanes:=by apply LA<;>omega
 rw[cw hi hw,KB hi,hb,hl]
 cases(o.Kind==0)<;>cases(o.Kind==14)<;>cases(o.Kind==15)<;>cases(o.Kind==22)<;>cases D9 o.Imm<;>rfl
set_option maxHeartbeats 2000000 in
theorem Sg{α X:Type}(l:List α)(d:α)(p:α->Bool)(f:Int->Option (LR Int X))(yes no:X)(hn:∀ i:Nat,i<l.length->p (l.getD i d)=true->f i=some (.next ((i:Int)+1)))
  (hf:∀ i:Nat,i<l.length->p (l.getD i d)=false->f i=some (.done no)) (he:f l.length=some (.done yes)):∀(k i:Nat),i+k=l.length->Ai f i=some (bif (l.drop i).all p then yes else no)
 | 0,i,h=>by
  obtain rfl:i=l.length:=by omega
  rw[Ag he]
  simp
 | k+1,i,h=>by
  have hi:i<l.length:=by omega
  have hd:l.drop i=l.getD i d::l.drop (i+1):=by rw[Mj hi,Aa _ _ _ hi]
  cases hp:p (l.getD i d) with
  | true=>
   rw[An (hn i hi hp)];have:=Sg l d p f yes no hn hf he k (i+1) (by omega);rw[show((i:Int)+1)=((i+1:Nat):Int) by omega,this,hd,Rm,hp,G0]
  | false=>
   rw[Ag (hf i hi hp),hd,Rm,hp,Xl,Ay]
theorem UO{α X:Type}[BEq α][LawfulBEq α](l m:List α)(d:α)(f:Int->Option (LR Int X))(yes no:X)(hlen:l.length=m.length)(hn:∀ i:Nat,i<l.length->(l.getD i d==m.getD i d)=true->f i=some (.next ((i:Int)+1)))
  (hf:∀ i:Nat,i<l.length->(l.getD i d==m.getD i d)=false->f i=some (.done no)) (he:f l.length=some (.done yes)):∀(k i:Nat),i+k=l.length->Ai f i=some (bif l.drop i==m.drop i then yes else no)
 | 0,i,h=>by
  obtain rfl:i=l.length:=by omega
  rw[Ag he];rw[List.drop_length,hlen,List.drop_length]
  simp
 | k+1,i,h=>by
  have hi:i<l.length:=by omega
  have hd:l.drop i=l.getD i d::l.drop (i+1):=by rw[Mj hi,Aa _ _ _ hi]
  have hd':m.drop i=m.getD i d::m.drop (i+1):=by rw[Mj (by omega),Aa _ _ _ (by omega)]
  cases hp:(l.getD i d==m.getD i d) with
  | true=>
   rw[An (hn i hi hp)];have:=UO l m d f yes no hlen hn hf he k (i+1) (by omega);rw[show((i:Int)+1)=((i+1:Nat):Int) by omega,this,hd,hd',List.cons_beq_cons,hp,G0]
  | false=>
   rw[Ag (hf i hi hp),hd,hd',List.cons_beq_cons,hp,Xl,Ay]
theorem Wj{α:Type}(l:List α)(d:α)(wt:α->Nat)(C:Nat)(f:Int×Int->Option (LR (Int×Int) Int))
  (hn:∀(n i:Nat),i<l.length->n<=C->∃ m:Nat,f ((n:Int),(i:Int))=some (.next ((m:Int),((i+1:Nat):Int)))/\(n+wt (l.getD i d)<=C->m=n+wt (l.getD i d))/\(m<=C->n+wt (l.getD i d)<=C))
  (hd:∀(n i:Nat),i<=l.length->(i=l.length\/C<n)->f ((n:Int),(i:Int))=some (.done (n:Int))) :
  ∀(k i n:Nat),i+k=l.length->∃ m:Nat,Ai f ((n:Int),(i:Int))=some (m:Int)/\(n+((l.drop i).map wt).sum<=C->m=n+((l.drop i).map wt).sum)/\(m<=C->n+((l.drop i).map wt).sum<=C)
 | 0,i,n,h=>by
  obtain rfl:i=l.length:=by omega
  refine⟨n,Ag (hd n _ (zzL7 _) (.inl rfl)),?_,?_⟩
  ·simp
  ·simp
 | k+1,i,n,h=>by
  have hi:i<l.length:=by omega
  have hdr:l.drop i=l.getD i d::l.drop (i+1):=by rw[Mj hi,Aa _ _ _ hi]
  by_cases hC:n<=C
  ·obtain⟨m,h1,h2,h3⟩:=hn n i hi hC;obtain⟨m',h4,h5,h6⟩:=Wj l d wt C f hn hd k (i+1) m (by omega);refine⟨m',by rw[An h1];exact h4,λhle=>?_,λhle=>?_⟩
   ·rw[hdr,Bq,U1]at hle ⊢;have:=h2 (by omega);subst this;rw[h5 (by omega)];omega
   ·rw[hdr,Bq,U1];have h7:=h6 hle;have h8:=h3 (by omega);have:=h2 h8;omega
  ·refine⟨n,Ag (hd n i (by omega) (.inr (by omega))),λhle=>by omega,λhle=>by omega⟩
theorem Qf{X:Type}(N:Nat)(f:Int×Int->Option (LR (Int×Int) X))(hn:∀(n:Int) (i:Nat),i<N->(∃ m:Int,f (n,(i:Int))=some (.next (m,((i+1:Nat):Int))))\/∃ x,f (n,(i:Int))=some (.done x))(hd:∀ n:Int,∃ x,f (n,(N:Int))=some (.done x)) :
  ∀(k i:Nat) (n:Int),i+k=N->∃ x,Ai f (n,(i:Int))=some x
 | 0,i,n,h=>by
  obtain rfl:i=N:=by omega
  obtain⟨x,hx⟩:=hd n;exact⟨x,Ag hx⟩
 | k+1,i,n,h=>by
  rcases hn n i (by omega) with⟨m,hm⟩|⟨x,hx⟩
  ·obtain⟨x,hx⟩:=Qf N f hn hd k (i+1) m (by omega);exact⟨x,by rw[An hm];exact hx⟩
  ·exact⟨x,Ag hx⟩
theorem HC{α X:Type}(l:List α)(d:α)(wt:α->Nat)(out:Int->X)(f:Int×Int->Option (LR (Int×Int) X))
  (hn:∀(n i:Nat),i<l.length->f (Bh n,(i:Int))=some (.next (Bh ((n+wt (l.getD i d):Nat):Int),((i+1:Nat):Int)))) (hd:∀ n:Int,f (n,(l.length:Int))=some (.done (out n))) :
  ∀(k i n:Nat),i+k=l.length->Ai f (Bh n,(i:Int))=some (out (Bh ((n+((l.drop i).map wt).sum:Nat):Int)))
 | 0,i,n,h=>by
  obtain rfl:i=l.length:=by omega
  rw[Ag (hd _)]
  simp
 | k+1,i,n,h=>by
  have hi:i<l.length:=by omega
  have hdr:l.drop i=l.getD i d::l.drop (i+1):=by rw[Mj hi,Aa _ _ _ hi]
  rw[An (hn n i hi),HC l d wt out f hn hd k (i+1) _ (by omega),hdr,Bq,U1,Pu]
theorem VE(a b:Int):Bh (Bh a+b)=Bh (a+b):=by
 show IntKind.i64.wrap (IntKind.i64.wrap a+b)=IntKind.i64.wrap (a+b)
 simp only[IntKind.wrap,IntKind.bits,IntKind.signed]
 simp
 split<;>split<;>omega
theorem getD_mem{α:Type}{l:List α}{i:Nat}{d:α}(h:i<l.length):l.getD i d∈l:=by rw[Aa _ _ _ h];exact Xi h
theorem Bb{i n:Nat}(h:i<n):B6 (i:Int) n:=⟨by omega,by exact_mod_cast h⟩
theorem Da{i n:Nat}(h:i<n)(hn:n<9223372036854775808):Bh ((i:Int)+1)=(i:Int)+1:=Hn (by omega) (by omega)
def bT(l:List Int):Prop:=∀ x∈l,0<=x/\x<=2147483647
theorem Wi{S X:Type}(f:S->Option (LR S X))(T:Nat->S)(x:X):∀(n:Nat),(∀ i,i<n->f (T i)=some (.next (T (i+1))))->f (T n)=some (.done x)->Ai f (T 0)=some x:=by
 suffices h:∀(k i n:Nat),i+k=n->(∀ j,i<=j->j<n->f (T j)=some (.next (T (j+1))))->f (T n)=some (.done x)->Ai f (T i)=some x from
  λn h1 h2=>h n 0 n (by omega) (λj _ hj=>h1 j hj) h2
 intro k
 induction k with
 | zero=>
  intro i n hi _ h2
  have hin:n=i:=by omega
  subst hin;exact Ag h2
 | succ k ih=>intro i n hi h1 h2;rw[An (h1 i (zzL7 _) (by omega))];exact ih (i+1) n (by omega) (λj hj hj'=>h1 j (by omega) hj') h2
theorem FK{S X:Type}(f:S->Option (LR S X))(T:Nat->S):∀(n:Nat),(∀ i,i<n->f (T i)=some (.next (T (i+1))))->Ai f (T 0)=Ai f (T n):=by
 intro n
 induction n with
 | zero=>intro _;rfl
 | succ n ih=>intro h;rw[ih (λi hi=>h i (by omega)),An (h n (by omega))]
theorem M1{S X:Type}(f:S->Option (LR S X))(T:Nat->S)(p:Nat->Bool)(yes no:X)(n:Nat)(hn:∀ i,i<n->p i=true->f (T i)=some (.next (T (i+1))))(hf:∀ i,i<n->p i=false->f (T i)=some (.done no))
  (he:f (T n)=some (.done yes)):Ai f (T 0)=some (bif (List.range n).all p then yes else no):=by
 cases hall:(List.range n).all p with
 | true=>
  rw[Ae];exact Wi f T yes n (λi hi=>hn i hi (zzL27.1 hall i (zzL43.2 hi))) he
 | false=>
  rw[Ay]
  have hex:∃ i,i<n/\p i=false:=by
   have:¬ ∀ i∈List.range n,p i=true:=λh=>by rw[zzL27.2 h]at hall;cases hall
   simpa using this
  let P:Nat->Prop:=λm=>m<n/\p m=false
  obtain⟨m,hm⟩:=hex
  have key:∀ m,m<n->p m=false->∃ k,k<n/\p k=false/\∀ j,j<k->p j=true:=by
   intro m
   induction m using Nat.strongRecOn with
   | ind m ih=>
    intro h1 h2
    by_cases h:∃ j,j<m/\p j=false
    ·obtain⟨j,hj,hpj⟩:=h;exact ih j hj (by omega) hpj
    ·refine⟨m,h1,h2,λj hj=>?_⟩
     cases hpj:p j with
     | true=>rfl
     | false=>exact(h ⟨j,hj,hpj⟩).elim
  obtain⟨k,hk,hpk,hlt⟩:=key m hm.1 hm.2;rw[FK f T k (λi hi=>hn i (by omega) (hlt i hi))];exact Ag (hf k hk hpk)
theorem all_range{n:Nat}{p:Nat->Bool}:(List.range n).all p=true↔∀ i,i<n->p i=true:=by
 rw[zzL27];exact⟨λh i hi=>h i (zzL43.2 hi),λh i hi=>h i (zzL43.1 hi)⟩
theorem A4(i:Nat):((i:Int)).toNat=i:=Dg i
theorem w1{i:Nat}(h:i<4611686018427387904):Bh ((i:Int)+1)=((i+1:Nat):Int):=by rw[Hn (by omega) (by omega)];omega
theorem Fu{i n:Nat}(h:i<n):decide (((i:Nat):Int)<((n:Nat):Int))=true:=by simpa using h
theorem Ke{n:Nat}:decide (((n:Nat):Int)<((n:Nat):Int))=false:=by simp
theorem H6{i n:Nat}(h:i<n):B6 ((i:Nat):Int) n:=Bb h
theorem kB{x:Int}{n:Nat}(h0:0<=x)(h1:x<n):B6 x n:=⟨h0,h1⟩
structure YX(o:Ds):Prop where
 imm:0<=o.Imm/\o.Imm<18446744073709551616
 args:o.Args.length<=200
theorem SK(x:Int×Int)(n:Int)(h:n=2\/n=4\/n=8\/n=16):Bm [x] n=some (List.replicate n.toNat x):=by
 let d:Int×Int:=(0,0)
 rcases h with rfl|rfl|rfl|rfl
 ·have e:Bm [x] 2=(Ai B8 (1,[x,d])).bind some:=by kernel_rfl
  rw[e,An (s':=(2,[x,x])) (by kernel_rfl),Ag (x:=[x,x]) (by kernel_rfl)]
  rfl
 ·have e:Bm [x] 4=(Ai B8 (1,[x,d,d,d])).bind some:=by kernel_rfl
  rw[e,An (s':=(2,[x,x,d,d])) (by kernel_rfl),An (s':=(4,[x,x,x,x])) (by kernel_rfl),Ag (x:=[x,x,x,x]) (by kernel_rfl)]
  rfl
 ·have e:Bm [x] 8=(Ai B8 (1,[x,d,d,d,d,d,d,d])).bind some:=by kernel_rfl
  rw[e,An (s':=(2,[x,x,d,d,d,d,d,d])) (by kernel_rfl),An (s':=(4,[x,x,x,x,d,d,d,d])) (by kernel_rfl),An (s':=(8,[x,x,x,x,x,x,x,x])) (by kernel_rfl),
   Ag (x:=[x,x,x,x,x,x,x,x]) (by kernel_rfl)]
  rfl
 ·have e:Bm [x] 16=(Ai B8 (1,[x,d,d,d,d,d,d,d,d,d,d,d,d,d,d,d])).bind some:=by kernel_rfl
  rw[e,An (s':=(2,[x,x,d,d,d,d,d,d,d,d,d,d,d,d,d,d])) (by kernel_rfl),An (s':=(4,[x,x,x,x,d,d,d,d,d,d,d,d,d,d,d,d])) (by kernel_rfl),
   An (s':=(8,[x,x,x,x,x,x,x,x,d,d,d,d,d,d,d,d])) (by kernel_rfl),An (s':=(16,List.replicate 16 x)) (by kernel_rfl),Ag (x:=List.replicate 16 x) (by kernel_rfl)]
  rfl
theorem bb(l:List (Int×Int)):E7 l=some l:=rfl
theorem CU(o:Ds)(hs:Wg o.Bits o.Lanes=true)(hk:bX o.Kind=true)(hf:W8 o.Kind o.Bits o.Lanes=true):Kr o=some (Nm o):=by
 have hl:=Ok hs;obtain⟨k,b,n,d,args,i⟩:=o;simp only at hs hk hf hl ⊢;rcases kinds k with rfl|rfl|rfl|rfl|rfl|rfl|rfl|rfl|rfl|rfl|rfl|rfl|rfl|rfl|rfl|rfl|rfl|rfl|rfl|rfl|rfl|rfl|rfl|h
 case inr.inr.inr.inr.inr.inr.inr.inr.inr.inr.inr.inr.inr.inr.inr.inr.inr.inr.inr.inr.inr.inl=>
  have h1:n≠1:=by rintro rfl;simp[W8]at hf
  have h4:n=2\/n=4\/n=8\/n=16:=by omega
  unfold Kr;rw[show(((21:Int))==21)=true from rfl];simp only[SK _ _ h4,bb,As];rcases h4 with rfl|rfl|rfl|rfl<;>rfl
 all_goals first
  | rfl
  | (rw[eg h]at hk;cases hk)
  | (rcases hl with rfl|rfl|rfl|rfl|rfl<;>first|rfl|(simp[W8]at hf))
theorem JY(o:Ds)(hs:Wg o.Bits o.Lanes=true)(hk:bX o.Kind=true)(hf:W8 o.Kind o.Bits o.Lanes=true)(hl:o.Args.length<=200):Kn o=some (((o.Args.length:Int)==Mi o.Kind o.Lanes)&&o.Args.all valS):=by
 unfold Kn;rw[CU o hs hk hf]
 have hn:0<=Mi o.Kind o.Lanes:=by
  have:=Ok hs;unfold Mi
  cases(o.Kind==0)<;>cases(o.Kind==13 || o.Kind==18 || o.Kind==19)<;>cases(o.Kind==14 || o.Kind==15 || o.Kind==16 || o.Kind==22)<;>cases(o.Kind==20)<;>cases(o.Kind==21)<;>simp<;>omega
 have hlen:((Nm o).length:Int)=Mi o.Kind o.Lanes:=by simp[Nm];omega
 simp only[As,hlen]
 by_cases he:(o.Args.length:Int)=Mi o.Kind o.Lanes
 ·have e1:((o.Args.length:Int)==Mi o.Kind o.Lanes)=true:=by simpa using he
  have e2:((o.Args.length:Int)!=Mi o.Kind o.Lanes)=false:=by simpa using he
  rw[e1,e2,Ay]
  have hloop:=Sg o.Args (0:Int) valS (Gm o) (.inl ()) (.inr false) (λi hi hp=>by
    unfold Gm
    have:decide ((i:Int)<(o.Args.length:Int))=true:=by simpa using hi
    simp only[this,Ae,Aq (Bb hi),Dg,Qd,As,hp,Fd,Ay,Da hi (by omega)]) (λi hi hp=>by
    unfold Gm
    have:decide ((i:Int)<(o.Args.length:Int))=true:=by simpa using hi
    simp only[this,Ae,Aq (Bb hi),Dg,Qd,As,hp,L5]) (by
    unfold Gm
    simp) o.Args.length 0 (by omega)
  rw[show(0:Int)=((0:Nat):Int) from rfl,hloop,Ky]
  cases o.Args.all valS<;>rfl
 ·have e1:((o.Args.length:Int)==Mi o.Kind o.Lanes)=false:=by simpa using he
  have e2:((o.Args.length:Int)!=Mi o.Kind o.Lanes)=true:=by simpa using he
  rw[e1,e2];rfl
theorem CN{k b n:Int}(hs:Wg b n=true):((L9 k b n).1==0)=(k==17 || k==19):=by
 have hb:(b==0)=false:=by
  have:=width_cases (S2 hs);simp;omega
 unfold L9
 cases(k==17 || k==19)<;>cases(k==10 || k==11 || k==12)<;>cases(k==22)<;>simp_all
theorem JZ(o:Ds)(hs:Wg o.Bits o.Lanes=true):Ko o=some (dstS o.Kind o.Dst):=by
 unfold Ko;simp only[CS,As,CN hs,Qd,dstS]
 cases(o.Kind==17 || o.Kind==19)<;>rfl
theorem CR(o:Ds)(ho:YX o):Li o=some (I8 o):=by
 unfold Li I8;simp only[NB,RR,CT,As]
 cases hs:Wg o.Bits o.Lanes with
 | false=>cases bX o.Kind<;>rfl
 | true=>
  have hl:=Ok hs
  cases hk:bX o.Kind with
  | false=>rfl
  | true=>
   rw[KA o (S2 hs) (by omega) ho.imm];simp only[JZ o hs]
   cases hf:W8 o.Kind o.Bits o.Lanes with
   | false=>rfl
   | true=>
    rw[JY o hs hk hf ho.args]
    generalize ifitS o.Kind o.Bits o.Lanes o.Imm=p
    generalize ((o.Args.length:Int)==Mi o.Kind o.Lanes)=q
    generalize o.Args.all valS=r
    generalize dstS o.Kind o.Dst=s
    cases p<;>cases q<;>cases r<;>cases s<;>rfl
theorem BD{o:Ds}(h:I8 o=true):Wg o.Bits o.Lanes=true/\bX o.Kind=true/\W8 o.Kind o.Bits o.Lanes=true/\ifitS o.Kind o.Bits o.Lanes o.Imm=true/\(o.Args.length:Int)=Mi o.Kind o.Lanes/\o.Args.all valS=true/\dstS o.Kind o.Dst=true:=by
 simp only[I8,A2,zzL70]at h;exact⟨h.1.1,h.1.2.1.1.1,h.1.2.1.1.2,h.1.2.1.2,h.1.2.2,h.2.1,h.2.2⟩
theorem RS(o:Ds)(ho:YX o):Km o=some (bif I8 o then Nm o else[]):=by
 unfold Km;rw[CR o ho];simp only[As]
 cases hm:I8 o with
 | false=>rfl
 | true=>
  obtain⟨h1,h2,h3,_⟩:=BD hm;simp only[CU o h1 h2 h3,As]
  rfl
theorem RQ(o:Ds)(ho:YX o):Kl o=some (bif I8 o then L9 o.Kind o.Bits o.Lanes else(0,0)):=by
 unfold Kl;rw[CR o ho];simp only[As,CS]
 cases I8 o<;>rfl
def numB(n:Int):Bool:=decide (0<=n)&&decide (n<=2147483647)
def Lv(l:List Int):Bool:=l.all numB&&decide (l.length<=64)
def FW(p:Hc):Bool:=numB p.Bits&&numB p.Dst&&Lv p.From&&Lv p.Args
def cF(o:Ds):Bool:=numB o.Kind&&numB o.Bits&&numB o.Lanes&&numB o.Dst&&Lv o.Args
def WP(e:Jb):Bool:=numB e.Kind&&numB e.Arg&&Lv e.To
def blockB(b:Am):Bool:=b.Phis.all FW&&b.Ops.all cF&&WP b.End
def sizeB(b:Am):Nat:=b.Phis.length+b.Ops.length+1
def Pn(f:Ab):Nat:=(f.Blocks.map sizeB).sum
def sizeW(f:Ab):Int:=Bh (Pn f)
def Ub(f:Ab):Bool:=decide (1<=f.Blocks.length)&&decide (f.Blocks.length<=64)&&decide (f.Params.length<=16)&&Lv f.Params&&numB f.Ret&&decide (sizeW f<=512)&&f.Blocks.all blockB
def WS(p:Hc):Nat:=1+p.From.length+p.Args.length
def JV(o:Ds):Nat:=1+o.Args.length
def WQ(b:Am):Nat:=1+b.End.To.length+(b.Phis.map WS).sum+(b.Ops.map JV).sum
def WR(f:Ab):Nat:=f.Params.length+(f.Blocks.map WQ).sum
theorem H0:maxLen=9223372036854775807:=rfl
structure dX(f:Ab):Prop where
 params:f.Params.length<=maxLen
 blocks:f.Blocks.length<=maxLen
 block:∀ b∈f.Blocks,b.Phis.length<=maxLen/\b.Ops.length<=maxLen/\b.End.To.length<=maxLen
 phi:∀ b∈f.Blocks,∀ p∈b.Phis,p.From.length<=maxLen/\p.Args.length<=maxLen
 op:∀ b∈f.Blocks,∀ o∈b.Ops,o.Args.length<=maxLen/\0<=o.Imm/\o.Imm<18446744073709551616
theorem BN{n:Nat}(h:n<9223372036854775808):Bh (n:Int)=n:=Hn (by omega) (by omega)
theorem Ip{i n:Nat}(h:i<n)(hn:n<=maxLen):Bh ((i:Int)+1)=((i+1:Nat):Int):=by rw[H0]at hn;rw[show((i:Int)+1)=((i+1:Nat):Int) by omega,BN (by omega)]
theorem SR(f:Ab)(hf:dX f):∃ b,Dn f=some b:=by
 have h3:∃ x,Ai (Bn f) ((f.Params.length:Int),((0:Nat):Int))=some x:=by
  refine Qf f.Blocks.length (Bn f) (λn i hi=>?_) (λn=>?_) f.Blocks.length 0 _ (Fq _)
  ·have hmem:=getD_mem (d:=(default:Am)) hi;obtain⟨b1,b2,_⟩:=hf.block _ hmem;have hI:B6 (i:Int) f.Blocks.length:=Bb hi;unfold Bn
   cases hc:(bif decide ((i:Int)<(f.Blocks.length:Int)) then decide (n<=20000) else false) with
   | false=>right;simp only[hc,Ay];exact⟨_,rfl⟩
   | true=>
    left
    simp only[hc,Ae,Aq hI]
    obtain⟨x1,h1⟩:=Qf (f.Blocks.getD i default).Phis.length (B1 f i) (λn j hj=>by
      unfold B1;simp only[Aq hI,Dg]
      cases hc:(bif decide ((j:Int)<((f.Blocks.getD i default).Phis.length:Int)) then decide (n<=20000) else false) with
      | false=>right;exact⟨_,rfl⟩
      | true=>left;simp only[Ae,Aq (Bb hj),Ip hj b1];exact⟨_,rfl⟩) (λn=>by
      unfold B1;simp only[Aq hI,Dg]
      have:decide (((f.Blocks.getD i default).Phis.length:Int)<((f.Blocks.getD i default).Phis.length:Int))=false:=by simp
      simp only[this,Ay];exact⟨_,rfl⟩) _ 0 (Bh (Bh (n+1)+((f.Blocks.getD i default).End.To.length:Int))) (Fq _)
    obtain⟨x2,h2⟩:=Qf (f.Blocks.getD i default).Ops.length (B2 f i) (λn j hj=>by
      unfold B2;simp only[Aq hI,Dg]
      cases hc:(bif decide ((j:Int)<((f.Blocks.getD i default).Ops.length:Int)) then decide (n<=20000) else false) with
      | false=>right;exact⟨_,rfl⟩
      | true=>left;simp only[Ae,Aq (Bb hj),Ip hj b2];exact⟨_,rfl⟩) (λn=>by
      unfold B2;simp only[Aq hI,Dg]
      have:decide (((f.Blocks.getD i default).Ops.length:Int)<((f.Blocks.getD i default).Ops.length:Int))=false:=by simp
      simp only[this,Ay];exact⟨_,rfl⟩) _ 0 x1 (Fq _)
    rw[show((0:Nat):Int)=0 from rfl]at h1 h2;simp only[Dg,h1,h2,As,Ip hi hf.blocks];exact⟨_,rfl⟩
  ·unfold Bn
   have:decide ((f.Blocks.length:Int)<(f.Blocks.length:Int))=false:=by simp
   simp only[this,Ay];exact⟨_,rfl⟩
 obtain⟨x,hx⟩:=h3;unfold Dn;rw[show((0:Nat):Int)=0 from rfl]at hx;rw[hx];exact⟨_,rfl⟩
theorem OZ(f:Ab)(hf:dX f)(h0:f.Params.length<=64)(hb:∀ b∈f.Blocks,b.End.To.length<=64/\(∀ p∈b.Phis,p.From.length<=64/\p.Args.length<=64)/\∀ o∈b.Ops,o.Args.length<=64):Dn f=some (decide (WR f<=20000)):=by
 have h3:=Wj f.Blocks (default:Am) WQ 20000 (Bn f) (λn i hi hn=>by
   have hmem:=getD_mem (d:=(default:Am)) hi;obtain⟨b1,b2,b3⟩:=hf.block _ hmem;obtain⟨hTo,hPh,hOp⟩:=hb _ hmem;have hI1:B6 (i:Int) f.Blocks.length:=Bb hi
   have l1:=Wj (f.Blocks.getD i default).Phis (default:Hc) WS 20000 (B1 f i) (λn j hj hn=>by
     have hm:=getD_mem (d:=(default:Hc)) hj;obtain⟨p1,p2⟩:=hPh _ hm
     have e1:decide ((j:Int)<((f.Blocks.getD i default).Phis.length:Int))=true:=by simpa using hj
     have e2:decide ((n:Int)<=20000)=true:=by simp;omega
     refine⟨n+WS ((f.Blocks.getD i default).Phis.getD j default),?_,λ_=>rfl,λh=>h⟩;unfold B1;simp only[Aq hI1,Dg,e1,e2,Ae,Aq (Bb hj),Ip hj b1]
     congr 3
     rw[Hn (n:=(n:Int)+1) (by omega) (by omega),Hn (n:=(n:Int)+1+_) (by omega) (by omega),Hn (by omega) (by omega)];simp only[WS]
     omega) (λn j hj hd=>by
     unfold B1;simp only[Aq hI1,Dg]
     have:(bif decide ((j:Int)<((f.Blocks.getD i default).Phis.length:Int)) then decide ((n:Int)<=20000) else false)=false:=by
      rcases hd with rfl|h
      ·simp
      ·simp;omega
     rw[this];rfl)
   have l2:=Wj (f.Blocks.getD i default).Ops (default:Ds) JV 20000 (B2 f i) (λn j hj hn=>by
     have hm:=getD_mem (d:=(default:Ds)) hj;have p1:=hOp _ hm
     have e1:decide ((j:Int)<((f.Blocks.getD i default).Ops.length:Int))=true:=by simpa using hj
     have e2:decide ((n:Int)<=20000)=true:=by simp;omega
     refine⟨n+JV ((f.Blocks.getD i default).Ops.getD j default),?_,λ_=>rfl,λh=>h⟩;unfold B2;simp only[Aq hI1,Dg,e1,e2,Ae,Aq (Bb hj),Ip hj b2]
     congr 3
     rw[Hn (n:=(n:Int)+1) (by omega) (by omega),Hn (by omega) (by omega)];simp only[JV]
     omega) (λn j hj hd=>by
     unfold B2;simp only[Aq hI1,Dg]
     have:(bif decide ((j:Int)<((f.Blocks.getD i default).Ops.length:Int)) then decide ((n:Int)<=20000) else false)=false:=by
      rcases hd with rfl|h
      ·simp
      ·simp;omega
     rw[this];rfl)
   have e1:decide ((i:Int)<(f.Blocks.length:Int))=true:=by simpa using hi
   have e2:decide ((n:Int)<=20000)=true:=by simp;omega
   obtain⟨m1,q1,q2,q3⟩:=l1 _ 0 (n+1+(f.Blocks.getD i default).End.To.length) (Fq _);obtain⟨m2,q4,q5,q6⟩:=l2 _ 0 m1 (Fq _);rw[Ky]at q2 q3 q5 q6;refine⟨m2,?_,λhle=>?_,λhle=>?_⟩
   ·unfold Bn;simp only[e1,e2,Ae,Aq hI1,Dg,Ip hi hf.blocks];rw[Hn (n:=(n:Int)+1) (by omega) (by omega),Hn (by omega) (by omega),show(n:Int)+1+((f.Blocks.getD i default).End.To.length:Int)=((n+1+(f.Blocks.getD i default).End.To.length:Nat):Int) by omega];rw[show((0:Nat):Int)=0 from rfl]at q1 q4;rw[q1,As,q4,As]
   ·simp only[WQ]at hle ⊢;have:=q2 (by omega);rw[q5 (by omega)];omega
   ·simp only[WQ];have h6:=q6 hle;have h3:=q3 (by omega);have:=q2 h3
    omega) (λn i hi hd=>by
   unfold Bn
   have:(bif decide ((i:Int)<(f.Blocks.length:Int)) then decide ((n:Int)<=20000) else false)=false:=by
    rcases hd with rfl|h
    ·simp
    ·simp;omega
   simp only[this,Ay]) f.Blocks.length 0 f.Params.length (Fq _)
 obtain⟨m,h1,h2,h4⟩:=h3;rw[Ky]at h2 h4;unfold Dn;rw[show((0:Nat):Int)=0 from rfl]at h1;rw[h1,As]
 congr 1
 apply zzL108.2
 simp only[WR]
 constructor
 ·intro h;exact h4 (by omega)
 ·intro h;have:=h2 h;omega
theorem bs{n:Int}:numB n=true↔0<=n/\n<=2147483647:=by simp[numB]
theorem listB_iff{l:List Int}:Lv l=true↔bT l/\l.length<=64:=by
 simp[Lv,bT,bs]
def ka(n:Int):Prop:=0<=n/\n<18446744073709551616
structure mj(b:Am):Prop where
 may:blockB b=true
 phis:b.Phis.length<=512
 ops:b.Ops.length<=512
 imm:∀ o∈b.Ops,ka o.Imm
structure OkF(f:Ab):Prop where
 params:Lv f.Params=true
 few:f.Params.length<=16
 ret:numB f.Ret=true
 blocks:f.Blocks.length<=64
 block:∀ b∈f.Blocks,mj b
theorem blockB_iff{b:Am}:blockB b=true↔(∀ p∈b.Phis,FW p=true)/\(∀ o∈b.Ops,cF o=true)/\WP b.End=true:=by
 simp[blockB,and_assoc]
theorem jC{α:Type}(l:List α)(g:α->Nat)(B:Nat)(h:∀ a∈l,g a<=B):(l.map g).sum<=l.length*B:=by
 induction l with
 | nil=>simp
 | cons a l ih=>
  have h1:=h a (by simp);have h2:=ih (λb hb=>h b (by simp[hb]));rw[Bq,U1,On,Dx];omega
theorem ce{α:Type}(l:List α)(g k:α->Nat)(h:∀ a∈l,g a<=k a):(l.map g).sum<=(l.map k).sum:=by
 induction l with
 | nil=>simp
 | cons a l ih=>
  have h1:=h a (by simp);have h2:=ih (λb hb=>h b (by simp[hb]));rw[Bq,U1,Bq,U1];omega
theorem CW{α:Type}(l:List α)(g:α->Nat)(h:∀ a∈l,1<=g a):l.length<=(l.map g).sum:=by
 induction l with
 | nil=>simp
 | cons a l ih=>
  have h1:=h a (by simp);have h2:=ih (λb hb=>h b (by simp[hb]));rw[Bq,U1,On];omega
theorem RV{α:Type}{l:List α}{a:α}(g:α->Nat)(h:a∈l):g a<=(l.map g).sum:=by
 induction l with
 | nil=>cases h
 | cons b l ih=>
  rw[Bq,U1];rcases zzL23.1 h with rfl|h
  ·omega
  ·have:=ih h;omega
theorem OkF.size{f:Ab}(h:OkF f):Pn f<=65600/\sizeW f=Pn f:=by
 have:Pn f<=f.Blocks.length*1025:=jC _ _ _ λb hb=>by
  have h1:=(h.block b hb).phis;have h2:=(h.block b hb).ops;simp only[sizeB];omega
 have h2:=h.blocks
 have h3:Pn f<=65600:=by omega
 exact⟨h3,BN (by omega)⟩
theorem X8{f:Ab}(h:Ub f=true):1<=f.Blocks.length/\f.Blocks.length<=64/\f.Params.length<=16/\Lv f.Params=true/\numB f.Ret=true/\sizeW f<=512/\∀ b∈f.Blocks,blockB b=true:=by
 simp only[Ub,A2,Dr,zzL27]at h;exact⟨h.1.1.1.1.1.1,h.1.1.1.1.1.2,h.1.1.1.1.2,h.1.1.1.2,h.1.1.2,h.1.2,h.2⟩
theorem XG{f:Ab}(h:Ub f=true):f.Params.length<=64/\∀ b∈f.Blocks,b.End.To.length<=64/\(∀ p∈b.Phis,p.From.length<=64/\p.Args.length<=64)/\∀ o∈b.Ops,o.Args.length<=64:=by
 obtain⟨_,_,h3,_,_,_,h7⟩:=X8 h;refine⟨by omega,λb hb=>?_⟩;obtain⟨q1,q2,q3⟩:=blockB_iff.1 (h7 b hb);simp only[WP,A2]at q3;refine⟨(listB_iff.1 q3.2).2,λp hp=>?_,λo ho=>?_⟩
 ·have:=q1 p hp;simp only[FW,A2]at this;exact⟨(listB_iff.1 this.1.2).2,(listB_iff.1 this.2).2⟩
 ·have:=q2 o ho;simp only[cF,A2]at this;exact(listB_iff.1 this.2).2
theorem ij{f:Ab}(hf:dX f)(h:Ub f=true)(hs:WR f<=20000):OkF f/\Pn f<=512:=by
 obtain⟨h1,h2,h3,h4,h5,h6,h7⟩:=X8 h
 have hle:Pn f<=WR f:=by
  have:Pn f<=(f.Blocks.map WQ).sum:=ce _ _ _ λb hb=>by
   have q1:b.Phis.length<=(b.Phis.map WS).sum:=CW _ _ λp hp=>by simp only[WS];omega
   have q2:b.Ops.length<=(b.Ops.map JV).sum:=CW _ _ λp hp=>by simp only[JV];omega
   simp only[sizeB,WQ];omega
  simp only[WR];omega
 have hw:sizeW f=Pn f:=BN (by omega)
 have h512:Pn f<=512:=by omega
 refine⟨⟨h4,h3,h5,h2,λb hb=>?_⟩,h512⟩;have hb512:sizeB b<=Pn f:=RV sizeB hb;simp only[sizeB]at hb512;exact⟨h7 b hb,by omega,by omega,λo ho=>(hf.op b hb o ho).2⟩
theorem PA(f:Ab)(hf:dX f):∃ sm,Dn f=some sm/\(sm=true->Ub f=true->OkF f/\Pn f<=512/\1<=f.Blocks.length):=by
 obtain⟨sm,h⟩:=SR f hf;refine⟨sm,h,λh1 h2=>?_⟩;obtain⟨q1,q2⟩:=XG h2;rw[OZ f hf q1 q2]at h;subst h1;obtain⟨r1,r2⟩:=ij hf h2 (by simpa using OI h);exact⟨r1,r2,(X8 h2).1⟩
def KD(l:Int):Int:=bif l==0 then 17 else bif l==1 then 20 else 22
def Mt(l:Int)(o:Ds):Bool:=I8 o&&!decide (KD l<o.Kind)&&!(decide (l<2)&&decide (1<o.Lanes))
def Hg(l:Int)(b:Am):Bool:=(b.Phis.all λp=>D9 p.Bits)&&b.Ops.all (Mt l)
def S4(f:Ab)(l:Int):Bool:=f.Params.all D9&&f.Blocks.all (Hg l)&&D9 f.Ret
theorem iu{f:Ab}(hf:OkF f){b:Am}(hb:b∈f.Blocks){o:Ds}(ho:o∈b.Ops):YX o:=by
 have h1:=hf.block b hb;have h2:=(blockB_iff.1 h1.may).2.1 o ho;simp only[cF,A2]at h2;exact⟨⟨(h1.imm o ho).1,(h1.imm o ho).2⟩,by have:=(listB_iff.1 h2.2).2;omega⟩
theorem fe:room=1099511627776:=rfl
theorem Jz{β:Type}(C:Nat)(E:Nat->List β):∀ l:List Nat,(∀ i∈l,(E i).length<=C)->(l.flatMap E).length<=l.length*C
 | [],_=>by simp
 | a::l,h=>by
  have h1:=h a (by simp);have h2:=Jz C E l (λi hi=>h i (by simp[hi]));rw[Xg,E5,On,Dx];omega
def H9(l:List TDef)(v:Int):Int:=match l.findIdx? (λd=>d.V==v) with|some i=>(i:Int)|none=>-1
def H1(o:Ds):Int×Int:=bif I8 o then L9 o.Kind o.Bits o.Lanes else(0,0)
def F0(o:Ds):List (Int×Int):=bif I8 o then Nm o else[]
def K3(f:Ab):List TDef:=(List.range f.Params.length).flatMap λ(i:Nat)=>[⟨(i:Int)+1,-1,0,(f.Params.getD i 0,1)⟩]
def Tk(b:Am)(i:Nat):List TDef:=(List.range b.Phis.length).flatMap λ(k:Nat)=>[⟨(b.Phis.getD k default).Dst,i,-1,((b.Phis.getD k default).Bits,1)⟩]
def CF(b:Am)(i:Nat):List TDef:=(List.range b.Ops.length).flatMap λ(k:Nat)=>bif decide (0<(H1 (b.Ops.getD k default)).1) then[⟨(b.Ops.getD k default).Dst,i,k,H1 (b.Ops.getD k default)⟩] else[]
def Ls(b:Am)(i:Nat):List TDef:=Tk b i++CF b i
def Au(f:Ab):List TDef:=K3 f++(List.range f.Blocks.length).flatMap λi=>Ls (f.Blocks.getD i default) i
theorem GN(f:Ab):(K3 f).length=f.Params.length:=by
 have h:∀ l:List Nat,(l.map λ_=>1).sum=l.length:=λl=>by induction l with|nil=>rfl|cons a l ih=>simp[ih];omega
 simp[K3,List.length_flatMap,h]
def Kx(p:Hc):List Mm:=(List.range p.Args.length).flatMap λ(j:Nat)=>[⟨p.Args.getD j 0,p.From.getD j 0,1000,(p.Bits,1)⟩]
def Qw(b:Am):List Mm:=(List.range b.Phis.length).flatMap λ(k:Nat)=>Kx (b.Phis.getD k default)
def Mx(o:Ds)(i k:Nat):List Mm:=(List.range (F0 o).length).flatMap λ(j:Nat)=>[⟨o.Args.getD j 0,i,k,(F0 o).getD j (0,0)⟩]
def Ys(b:Am)(i:Nat):List Mm:=(List.range b.Ops.length).flatMap λ(k:Nat)=>Mx (b.Ops.getD k default) i k
def T6(f:Ab)(b:Am)(i:Nat):List Mm:=(bif b.End.Kind==0 then[⟨b.End.Arg,i,1000,(f.Ret,1)⟩] else[])++(bif b.End.Kind==2 then[⟨b.End.Arg,i,1000,(1,1)⟩] else[])
def Zu(f:Ab)(b:Am)(i:Nat):List Mm:=Qw b++Ys b i++T6 f b i
def Ee(f:Ab):List Mm:=(List.range f.Blocks.length).flatMap λ(i:Nat)=>Zu f (f.Blocks.getD i default) i
theorem EL{o:Ds}(h:o.Args.length<=64):(F0 o).length<=64/\(F0 o).length<=o.Args.length:=by
 unfold F0
 cases hm:I8 o with
 | false=>simp
 | true=>
  simp only[Ae]
  have:((o.Args.length:Int)==Mi o.Kind o.Lanes)=true:=by
   simp only[I8,A2]at hm;exact hm.1.2.2
  have h2:(o.Args.length:Int)=Mi o.Kind o.Lanes:=by simpa using this
  have h3:(Nm o).length=o.Args.length:=by rw[Nm,Pt,Zy,<- h2,Dg]
  omega
theorem cC{f:Ab}(hf:OkF f){b:Am}(hb:b∈f.Blocks){p:Hc}(hp:p∈b.Phis):p.From.length<=64/\p.Args.length<=64:=by
 have:=(blockB_iff.1 (hf.block b hb).may).1 p hp;simp only[FW,A2]at this;exact⟨(listB_iff.1 this.1.2).2,(listB_iff.1 this.2).2⟩
theorem gj{f:Ab}(hf:OkF f){b:Am}(hb:b∈f.Blocks){o:Ds}(ho:o∈b.Ops):o.Args.length<=64:=by
 have:=(blockB_iff.1 (hf.block b hb).may).2.1 o ho;simp only[cF,A2]at this;exact(listB_iff.1 this.2).2
theorem KY(p:Hc):(Kx p).length<=p.Args.length:=by
 have:=Jz 1 (λ(j:Nat)=>[(⟨p.Args.getD j 0,p.From.getD j 0,1000,(p.Bits,1)⟩:Mm)]) (List.range p.Args.length) (λ_ _=>zzL7 _)
 simpa [Kx] using this
theorem PI(o:Ds)(i k:Nat):(Mx o i k).length<=(F0 o).length:=by
 have:=Jz 1 (λ(j:Nat)=>[(⟨o.Args.getD j 0,i,k,(F0 o).getD j (0,0)⟩:Mm)]) (List.range (F0 o).length) (λ_ _=>zzL7 _)
 simpa [Mx] using this
theorem PJ{f:Ab}(hf:OkF f){b:Am}(hb:b∈f.Blocks):(Qw b).length<=32768:=by
 have:=Jz 64 (λ(k:Nat)=>Kx (b.Phis.getD k default)) (List.range b.Phis.length) (λk hk=>by
  have h1:=KY (b.Phis.getD k default);have h2:=(cC hf hb (getD_mem (d:=(default:Hc)) (by simpa using hk))).2
  omega)
 have h3:=(hf.block b hb).phis;rw[Zy]at this;have h4:b.Phis.length*64<=512*64:=Dk _ h3;rw[Qw];omega
theorem SV{f:Ab}(hf:OkF f){b:Am}(hb:b∈f.Blocks)(i:Nat):(Ys b i).length<=32768:=by
 have:=Jz 64 (λ(k:Nat)=>Mx (b.Ops.getD k default) i k) (List.range b.Ops.length) (λk hk=>by
  have h1:=PI (b.Ops.getD k default) i k;have h2:=(EL (gj hf hb (getD_mem (d:=(default:Ds)) (by simpa using hk)))).1
  omega)
 have h3:=(hf.block b hb).ops;rw[Zy]at this;have h4:b.Ops.length*64<=512*64:=Dk _ h3;rw[Ys];omega
theorem PH(f:Ab)(b:Am)(i:Nat):(T6 f b i).length<=2:=by
 unfold T6
 cases b.End.Kind==0<;>cases b.End.Kind==2<;>simp
theorem YD{f:Ab}(hf:OkF f){i:Nat}(hi:i<f.Blocks.length):(Zu f (f.Blocks.getD i default) i).length<=70000:=by
 have hmem:=getD_mem (d:=(default:Am)) hi;have h1:=PJ hf hmem;have h2:=SV hf hmem i;have h3:=PH f (f.Blocks.getD i default) i;rw[Zu,E5,E5];omega
theorem IC{f:Ab}(hf:OkF f):(Ee f).length<=4480000:=by
 have h1:=Jz 70000 (λ(i:Nat)=>Zu f (f.Blocks.getD i default) i) (List.range f.Blocks.length) (λi hi=>YD hf (by simpa using hi));have h4:=hf.blocks;rw[Zy]at h1;have:f.Blocks.length*70000<=64*70000:=Dk _ h4;rw[Ee];omega
def fQ(f:Ab):Prop:=∀ b∈f.Blocks,∀ p∈b.Phis,p.Args.length<=p.From.length
def bu(n:Nat)(l:List Int)(i:Nat):Bool:=decide ((if i=0 then(-1:Int) else l.getD (i-1) 0)<l.getD i 0)&&(decide (0<=l.getD i 0)&&decide (l.getD i 0<n))
def dg(n:Nat)(l:List Int):Bool:=(List.range l.length).all (bu n l)
def Lj(L:List (List Int)):Bool:=decide (1<=L.length)&&decide (L.length<=64)&&(List.range L.length).all λi=>dg L.length (L.getD i [])
def Zc(L:List (List Int))(k i:Nat):Bool:=(L.getD k []).contains (i:Int)
def Jw(L:List (List Int))(m i:Nat):List Int:=((List.range m).filter λk=>Zc L k i).map Int.ofNat
def E9(L:List (List Int)):List (List Int):=(List.range L.length).map (Jw L L.length)
theorem Pc(a n:Int):F8 a n=some (decide (0<=a)&&decide (a<n)):=by
 unfold F8
 cases decide ((0:Int)<=a)<;>rfl
theorem HD(n:Nat):Hs (n:Int)=some (decide (1<=n)&&decide (n<=64)):=by
 unfold Hs
 have h1:decide ((1:Int)<=(n:Int))=decide (1<=n):=by apply zzL108.2;omega
 have h2:decide ((n:Int)<=(64:Int))=decide (n<=64):=by apply zzL108.2;omega
 rw[h1,h2]
 cases decide (1<=n)<;>rfl
theorem EK(L:List (List Int))(i:Nat)(hl:(L.getD i []).length<4611686018427387904) :
  Ai (Ci L (i:Int)) ((-1:Int),(0:Int))=some (bif dg L.length (L.getD i []) then .inl () else .inr false):=by
 refine M1 (Ci L (i:Int)) (λj=>((if j=0 then(-1:Int) else(L.getD i []).getD (j-1) 0),((j:Nat):Int))) (bu L.length (L.getD i [])) (.inl ()) (.inr false) _ (λj hj hp=>?_) (λj hj hp=>?_) ?_
 ·unfold bu at hp;simp only[A2,Dr]at hp;obtain⟨h1,h2,h3⟩:=hp
  show Ci L (i:Int) (_,_)=_
  unfold Ci;simp only[A4,Fu hj,Ae,Pc];rw[Ad (H6 hj)]
  have e1:decide ((L.getD i []).getD j 0<=(if j=0 then(-1:Int) else(L.getD i []).getD (j-1) 0))=false:=by simpa using h1
  simp only[e1,Ek h2,Ek h3,Qy,Ps,Ae,Ay,As,Fd];rw[w1 (show j<4611686018427387904 by omega)]
  simp
 ·show Ci L (i:Int) (_,_)=_
  unfold Ci;simp only[A4,Fu hj,Ae,Pc];rw[Ad (H6 hj)]
  cases h1:decide ((L.getD i []).getD j 0<=(if j=0 then(-1:Int) else(L.getD i []).getD (j-1) 0)) with
  | true=>simp only[Ae,show((true==false)=false) from rfl,Ay,As]
  | false=>
   have h1':decide ((if j=0 then(-1:Int) else(L.getD i []).getD (j-1) 0)<(L.getD i []).getD j 0)=true:=by simpa using h1
   unfold bu at hp;rw[h1',G0]at hp;simp only[Ps,Ae,Ay,As,hp,L5]
 ·show Ci L (i:Int) (_,_)=_
  unfold Ci;simp only[A4,Ke,Ay]
def Fits(L:List (List Int)):Prop:=L.length<4611686018427387904/\∀ l∈L,l.length<4611686018427387904
theorem Fits.at{L:List (List Int)}(h:Fits L)(i:Nat):(L.getD i []).length<4611686018427387904:=by
 by_cases hi:i<L.length
 ·exact h.2 _ (getD_mem hi)
 ·rw[Pq,List.getElem?_eq_none (by omega)];simp
theorem XF(L:List (List Int))(h:Fits L):Jm L=some (Lj L):=by
 unfold Jm;rw[HD,As];unfold Lj
 cases hc:(decide (1<=L.length)&&decide (L.length<=64)) with
 | false=>rfl
 | true=>
  simp only[Fd,Ay,G0];have:=M1 (Cj L) (λj=>((j:Nat):Int)) (λi=>dg L.length (L.getD i [])) (.inl ()) (.inr false) L.length (λj hj hp=>?_) (λj hj hp=>?_) ?_
  ·rw[show Ai (Cj L) (0:Int)=_ from this]
   cases(List.range L.length).all λi=>dg L.length (L.getD i [])<;>rfl
  ·show Cj L (j:Int)=_
   unfold Cj;simp only[Fu hj,Ae];rw[Ad (H6 hj),EK L j (h.at j),hp];simp only[Ae,As,w1 (show j<4611686018427387904 by have:=h.1;omega)]
  ·show Cj L (j:Int)=_
   unfold Cj;simp only[Fu hj,Ae];rw[Ad (H6 hj),EK L j (h.at j),hp]
   rfl
  ·show Cj L _=_
   unfold Cj;simp only[Ke,Ay]
theorem Qc{α:Type}{n i:Nat}{g:Nat->α}{d:α}(h:i<n):((List.range n).map g).getD i d=g i:=by simp[List.getD,h]
theorem KV{α:Type}{n i:Nat}{g:Nat->α}{x:α}:((List.range n).map g).set i x=(List.range n).map λj=>if j=i then x else g j:=by
 apply List.ext_getElem?
 intro j;rw[List.getElem?_set]
 by_cases hj:j<n
 ·by_cases hij:i=j
  ·subst hij;simp[hj]
  ·simp[hij,hj,G1 hij]
 ·simp[hj];intro h;omega
theorem Pe{α:Type}{n:Nat}{g h:Nat->α}(H:∀ i,i<n->g i=h i):(List.range n).map g=(List.range n).map h:=LC λi hi=>H i (zzL43.1 hi)
theorem mayS_iff{L:List (List Int)}:Lj L=true↔1<=L.length/\L.length<=64/\∀ i,i<L.length->dg L.length (L.getD i [])=true:=by
 unfold Lj;rw[A2,A2,all_range];simp only[Dr];exact⟨λ⟨⟨a,b⟩,c⟩=>⟨a,b,c⟩,λ⟨a,b,c⟩=>⟨⟨a,b⟩,c⟩⟩
theorem okL_iff{n:Nat}{l:List Int}:dg n l=true↔∀ i,i<l.length->(0<=l.getD i 0/\l.getD i 0<n)/\(0<i->l.getD (i-1) 0<l.getD i 0):=by
 unfold dg;rw[all_range];unfold bu;simp only[A2,Dr]
 constructor
 ·intro h i hi;obtain⟨h1,h2,h3⟩:=h i hi;refine⟨⟨h2,h3⟩,λhp=>?_⟩;rwa[if_neg (by omega)]at h1
 ·intro h i hi;obtain⟨⟨h2,h3⟩,h1⟩:=h i hi;refine⟨?_,h2,h3⟩
  by_cases hz:i=0
  ·rw[if_pos hz];omega
  ·rw[if_neg hz];exact h1 (by omega)
section
variable {n:Nat} {l:List Int} (h:dg n l=true)
include h
theorem Yc{i:Nat}(hi:i<l.length):0<=l.getD i 0/\l.getD i 0<n:=(okL_iff.1 h i hi).1
theorem bv{i j:Nat}(hij:i<j)(hj:j<l.length):l.getD i 0<l.getD j 0:=by
 induction j with
 | zero=>omega
 | succ j ih=>
  have h1:=(okL_iff.1 h (j+1) hj).2 (by omega);rw[show j+1-1=j by omega]at h1
  by_cases he:i=j
  ·rw[he];exact h1
  ·exact Int.lt_trans (ih (by omega) (by omega)) h1
theorem il{i:Nat}(hi:i<l.length):(i:Int)<=l.getD i 0:=by
 induction i with
 | zero=>exact(Yc h hi).1
 | succ i ih=>
  have:=bv h (show i<i+1 by omega) hi;have:=ih (by omega);omega
theorem BF:l.length<=n:=by
 by_cases hz:l.length=0
 ·omega
 ·have h1:=il h (show l.length-1<l.length by omega);have h2:=(Yc h (show l.length-1<l.length by omega)).2;omega
theorem UQ{x:Int}(hx:x∈l):0<=x/\x<n:=by
 obtain⟨i,hi,rfl⟩:=K6 hx;have:=Yc h hi;rwa[Aa _ _ _ hi]at this
end
theorem im{n:Nat}{l:List Int}(h1:∀ x∈l,0<=x/\x<n)(h2:l.Pairwise (·<·)):dg n l=true:=by
 rw[okL_iff];intro i hi;rw[Aa _ _ _ hi];refine⟨h1 _ (Xi hi),λhp=>?_⟩;rw[Aa _ _ _ (show i-1<l.length by omega)];exact(zzL99.1 h2) _ _ _ _ (by omega)
theorem X7{L:List (List Int)}(h:Lj L=true):L.length<=64/\∀ l∈L,l.length<=64:=by
 obtain⟨h1,h2,h3⟩:=mayS_iff.1 h;refine⟨h2,λl hl=>?_⟩;obtain⟨i,hi,rfl⟩:=K6 hl;have:=BF (h3 i hi);rw[Aa _ _ _ hi]at this;omega
theorem eW{L:List (List Int)}(h:L.length<=1000/\∀ l∈L,l.length<=1000):Fits L:=⟨by omega,λl hl=>by have:=h.2 l hl;omega⟩
theorem ON(L:List (List Int))(k i:Nat):Jw L (k+1) i=Jw L k i++(if Zc L k i=true then[(k:Int)] else[]):=by
 unfold Jw;rw[Y1,LD,Y0]
 congr 1
 cases hg:Zc L k i<;>simp[hg]
theorem Vk(L:List (List Int))(k i:Nat):(Jw L k i).length<=k:=by
 unfold Jw;rw[Pt];have:=List.length_filter_le (λk=>Zc L k i) (List.range k)
 simpa using this
theorem GT{l:List Int}{j:Nat}(hj:j<l.length):l.take (j+1)=l.take j++[l.getD j 0]:=by
 rw[Aa _ _ _ hj,TE hj]
def Ou(L:List (List Int))(k j i:Nat):Bool:=((L.getD k []).take j).contains (i:Int)
def In(L:List (List Int))(k j:Nat):List (List Int):=(List.range L.length).map λi=>Jw L k i++(if Ou L k j i=true then[(k:Int)] else[])
theorem ML(L:List (List Int))(h:Lj L=true)(k j:Nat)(hk:k<L.length)(hj:j<(L.getD k []).length) :
  (In L k j).set ((L.getD k []).getD j 0).toNat ((In L k j).getD ((L.getD k []).getD j 0).toNat []++[(k:Int)])=In L k (j+1):=by
 obtain⟨h1,h2,h3⟩:=mayS_iff.1 h;have hok:=h3 k hk;obtain⟨a0,a1⟩:=Yc hok hj;unfold In;rw[Qc (by omega),KV]
 apply Pe
 intro i hi
 have hnot:Ou L k j ((L.getD k []).getD j 0).toNat=false:=by
  unfold Ou;rw[Uz a0]
  cases hc:((L.getD k []).take j).contains ((L.getD k []).getD j 0) with
  | false=>rfl
  | true=>
   rw[EY]at hc;obtain⟨m,hm,he⟩:=K6 hc
   have hm':m<j:=by simp at hm;omega
   rw[List.getElem_take]at he;have:=bv hok hm' hj;rw[Aa _ _ _ (show m<(L.getD k []).length by omega),he]at this;omega
 by_cases hi2:i=((L.getD k []).getD j 0).toNat
 ·rw[if_pos hi2,hnot]
  have:Ou L k (j+1) i=true:=by
   unfold Ou;rw[GT hj,EY,hi2,Uz a0]
   simp
  rw[this,hi2]
  simp
 ·rw[if_neg hi2]
  have:Ou L k (j+1) i=Ou L k j i:=by
   unfold Ou;rw[GT hj,L4,EY,EY,zzL11]
   constructor
   ·rintro(hm|hm)
    ·exact hm
    ·simp only[zzL15]at hm;exact(hi2 (by omega)).elim
   ·exact .inl
  rw[this]
theorem NK(L:List (List Int))(h:Lj L=true):Ig L=some (E9 L):=by
 obtain⟨h1,h2,h3⟩:=mayS_iff.1 h
 have hroom:(1000:Nat)<=room:=by decide
 unfold Ig;rw[Ad ⟨by omega,Int.le_refl _,by omega⟩,A4]
 have inner:∀ k,k<L.length->Ai (D4 L (k:Int)) ((0:Int),In L k 0)=some (In L k (L.getD k []).length):=λk hk=>by
  have hok:=h3 k hk;refine Wi (D4 L (k:Int)) (λj=>(((j:Nat):Int),In L k j)) (In L k (L.getD k []).length) (L.getD k []).length (λj hj=>?_) ?_
  ·obtain⟨a0,a1⟩:=Yc hok hj
   have hlen:(In L k j).length=L.length:=by simp[In]
   have hl64:=BF hok
   show D4 L (k:Int) (_,_)=_
   unfold D4;simp only[A4,Fu hj,Ae];have hb:B6 ((L.getD k []).getD j 0) (In L k j).length:=⟨a0,by rw[hlen];exact a1⟩
   have hrow:((In L k j).getD ((L.getD k []).getD j 0).toNat []).length<=k+1:=by
    unfold In;rw[Qc (by omega),E5];have:=Vk L k ((L.getD k []).getD j 0).toNat
    split
    ·rw[Ta];omega
    ·rw[List.length_nil];omega
   rw[Ad (H6 hj),Ad hb,Ad hb,Ad (by simp only[Ta];omega),Ad hb,ML L h k j hk hj,w1 (by omega)]
  ·show D4 L (k:Int) (_,_)=_
   unfold D4;simp only[A4,Ke,Ay]
 have r0:∀ k,In L k 0=(List.range L.length).map (Jw L k):=λk=>by
  unfold In
  apply Pe
  intro i _;simp[Ou]
 have r1:∀ k,In L k (L.getD k []).length=(List.range L.length).map (Jw L (k+1)):=λk=>by
  unfold In
  apply Pe
  intro i _;rw[ON];unfold Ou Zc;rw[Vt]
 have:Ai (D5 L) ((0:Int),(List.range L.length).map (Jw L 0))=some (E9 L):=Wi (D5 L) (λk=>(((k:Nat):Int),(List.range L.length).map (Jw L k))) (E9 L) L.length (λk hk=>?_) ?_
 ·have e0:(List.replicate L.length ([]:List Int))=(List.range L.length).map (Jw L 0):=by
   apply List.ext_getElem?
   intro i
   by_cases hi:i<L.length<;>simp[hi,List.getElem?_replicate,Jw]
  rw[e0,this];rfl
 ·show D5 L (_,_)=_
  unfold D5;simp only[Fu hk,Ae];rw[Ad (H6 hk),<- r0,inner k hk,r1,w1 (by omega)]
  rfl
 ·show D5 L (_,_)=_
  unfold D5;simp only[Ke,Ay]
  rfl
theorem Zg{α:Type}[DecidableEq α]{a b:List α}{d:α}(h:a.length=b.length):((List.range a.length).all λi=>decide (a.getD i d=b.getD i d))=decide (a=b):=by
 rw[L4,all_range,Dr]
 constructor
 ·intro hall
  apply Yy h
  intro i h1 h2;have:=Xf (hall i h1);rwa[Aa _ _ _ h1,Aa _ _ _ h2]at this
 ·rintro rfl i _
  simp
theorem UN{a b:Nat}:(((a:Nat):Int)!=(b:Int))=decide (a≠b):=by
 rw[L4,zzL93,Dr];omega
theorem bW{a b:Int}:(a !=b) = !decide (a=b):=by
 rw[L4]
 simp
theorem KE(a b:List Int)(hb:b.length<4611686018427387904):D7 a b=some (decide (a=b)):=by
 unfold D7;rw[UN]
 by_cases hl:a.length=b.length
 ·rw[Fc (by simpa using hl),Ay];have:Ai (Bf a b) (0:Int)=_:=M1 (Bf a b) (λj=>((j:Nat):Int)) (λi=>decide (a.getD i 0=b.getD i 0)) (.inl ()) (.inr false) a.length (λj hj hp=>?_) (λj hj hp=>?_) ?_
  ·rw[this,Zg hl]
   cases decide (a=b)<;>rfl
  ·show Bf a b (j:Int)=_
   unfold Bf;simp only[A4,Fu hj,Ae];rw[Ad (H6 hj),Ad (H6 (by omega)),bW,hp,w1 (by omega)]
   rfl
  ·show Bf a b (j:Int)=_
   unfold Bf;simp only[A4,Fu hj,Ae];rw[Ad (H6 hj),Ad (H6 (by omega)),bW,hp]
   rfl
  ·show Bf a b _=_
   unfold Bf;simp only[Ke,Ay]
 ·rw[Ek (by simpa using hl),Ae,Fc (λh=>hl (by rw[h]))]
theorem NL(a b:List (List Int))(hb:Fits b):Ck a b=some (decide (a=b)):=by
 unfold Ck;rw[UN]
 by_cases hl:a.length=b.length
 ·rw[Fc (by simpa using hl),Ay];have hb1:=hb.1;have:Ai (Ar a b) (0:Int)=_:=M1 (Ar a b) (λj=>((j:Nat):Int)) (λi=>decide (a.getD i []=b.getD i [])) (.inl ()) (.inr false) a.length (λj hj hp=>?_) (λj hj hp=>?_) ?_
  ·rw[this,Zg hl]
   cases decide (a=b)<;>rfl
  ·show Ar a b (j:Int)=_
   unfold Ar;simp only[A4,Fu hj,Ae];rw[Ad (H6 hj),Ad (H6 (by omega)),KE _ _ (hb.at j),hp,w1 (by omega)]
   rfl
  ·show Ar a b (j:Int)=_
   unfold Ar;simp only[A4,Fu hj,Ae];rw[Ad (H6 hj),Ad (H6 (by omega)),KE _ _ (hb.at j),hp]
   rfl
  ·show Ar a b _=_
   unfold Ar;simp only[Ke,Ay]
 ·rw[Ek (by simpa using hl),Ae,Fc (λh=>hl (by rw[h]))]
theorem Ng(L:List (List Int)):(E9 L).length=L.length:=by simp[E9]
theorem HP{L:List (List Int)}{i:Nat}(hi:i<L.length):(E9 L).getD i []=Jw L L.length i:=by unfold E9;rw[Qc hi]
theorem Qs{L:List (List Int)}(h:Lj L=true):(E9 L).length<=64/\∀ l∈E9 L,l.length<=64:=by
 obtain⟨h1,_⟩:=X7 h;refine⟨by rw[Ng];exact h1,λl hl=>?_⟩;obtain⟨i,hi,rfl⟩:=zzL24.1 hl;have:=Vk L L.length i;omega
theorem Vp{L:List (List Int)}(h:L.length<=64/\∀ l∈L,l.length<=64):Fits L:=eW ⟨by omega,λl hl=>by have:=h.2 l hl;omega⟩
def X6(g:Cw):Bool:=Lj g.Succ&&decide (g.Pred=E9 g.Succ)
theorem ge(g:Cw)(h:Fits g.Succ):Ob g=some (X6 g):=by
 unfold Ob X6;rw[XF _ h,As]
 cases hm:Lj g.Succ with
 | false=>rfl
 | true=>
  simp only[Ps,Ae,NK _ hm,As,NL _ _ (Vp (Qs hm)),G0]
def Xs(L:List (List Int)):Cw:=⟨L,E9 L⟩
def g0:Cw:=⟨[],[]⟩
theorem NN{L:List (List Int)}(h:Lj L=true):X6 (Xs L)=true:=by simp[X6,Xs,h]
theorem bQ{L:List (List Int)}(h:Lj L=true):Fits (Xs L).Succ/\Fits (Xs L).Pred:=⟨Vp (X7 h),Vp (Qs h)⟩
noncomputable section
def upd(s:Nat->Bool)(y:Nat):Nat->Bool:=λz=>decide (z=y) || s z
theorem upd_true{s:Nat->Bool}{y z:Nat}:upd s y z=true↔z=y\/s z=true:=by simp[upd]
theorem upd_false{s:Nat->Bool}{y z:Nat}:upd s y z=false↔z≠y/\s z=false:=by simp[upd]
inductive VL (S:Nat->List Nat):(Nat->Bool)->List Nat->(Nat->Bool)->List Nat->Prop
 | nil (s:Nat->Bool):VL S s [] s []
 | skip {s s':Nat->Bool} {y:Nat} {l o:List Nat} (h:s y=true) (t:VL S s l s' o):VL S s (y::l) s' o
 | step {s s1 s2:Nat->Bool} {y:Nat} {l o1 o2:List Nat} (h:s y=false) (a:VL S (upd s y) (S y) s1 o1) (b:VL S s1 l s2 o2):VL S s (y::l) s2 (o1++y::o2)
inductive Rch (S:Nat->List Nat):Nat->Nat->Prop
 | refl (x:Nat):Rch S x x
 | head {x y z:Nat} (h:y∈S x) (t:Rch S y z):Rch S x z
theorem Rch.tail{S:Nat->List Nat}{x y z:Nat}(h:Rch S x y)(hz:z∈S y):Rch S x z:=by
 induction h with
 | refl x=>exact .head hz (.refl _)
 | head h _ ih=>exact .head h (ih hz)
theorem Rch.trans{S:Nat->List Nat}{x y z:Nat}(h:Rch S x y)(k:Rch S y z):Rch S x z:=by
 induction h with
 | refl x=>exact k
 | head h _ ih=>exact .head h (ih k)
variable {S:Nat->List Nat} {s s':Nat->Bool} {l o:List Nat}
theorem VL.seen(h:VL S s l s' o)(z:Nat):s' z=true↔s z=true\/z∈o:=by
 induction h with
 | nil s=>simp
 | skip h _ ih=>exact ih
 | @step s s1 s2 y l o1 o2 h a b iha ihb=>
  rw[ihb,iha,upd_true];simp only[zzL11,zzL23]
  constructor
  ·rintro((( rfl|h1)|h1)|h1)
   ·exact .inr (.inr (.inl rfl))
   ·exact .inl h1
   ·exact .inr (.inl h1)
   ·exact .inr (.inr (.inr h1))
  ·rintro(h1|h1|rfl|h1)
   ·exact .inl (.inl (.inr h1))
   ·exact .inl (.inr h1)
   ·exact .inl (.inl (.inl rfl))
   ·exact .inr h1
theorem VL.fresh(h:VL S s l s' o){z:Nat}(hz:z∈o):s z=false:=by
 induction h with
 | nil s=>cases hz
 | skip h _ ih=>exact ih hz
 | @step s s1 s2 y l o1 o2 h a b iha ihb=>
  rcases zzL11.1 hz with h1|h1
  ·exact(upd_false.1 (iha h1)).2
  ·rcases zzL23.1 h1 with rfl|h1
   ·exact h
   ·have:=ihb h1
    cases hs:s z with
    | false=>rfl
    | true=>rw[(a.seen z).2 (.inl (upd_true.2 (.inr hs)))]at this;cases this
theorem VL.nodup(h:VL S s l s' o):o.Nodup:=by
 induction h with
 | nil s=>exact List.nodup_nil
 | skip h _ ih=>exact ih
 | @step s s1 s2 y l o1 o2 h a b iha ihb=>
  rw[List.nodup_append];refine⟨iha,zzL73.2 ⟨λhy=>?_,ihb⟩,λu hu v hv=>?_⟩
  ·have:=b.fresh hy;rw[(a.seen y).2 (.inl (upd_true.2 (.inl rfl)))]at this
   cases this
  ·rintro rfl;rcases zzL23.1 hv with rfl|hv
   ·have:=a.fresh hu;rw[upd_true.2 (.inl rfl)]at this
    cases this
   ·have:=b.fresh hv;rw[(a.seen u).2 (.inr hu)]at this
    cases this
theorem VL.rch(h:VL S s l s' o){z:Nat}(hz:z∈o):∃ y∈l,Rch S y z:=by
 induction h with
 | nil s=>cases hz
 | skip h _ ih=>obtain⟨y,hy,hr⟩:=ih hz;exact⟨y,Fp _ hy,hr⟩
 | @step s s1 s2 y l o1 o2 h a b iha ihb=>
  rcases zzL11.1 hz with h1|h1
  ·obtain⟨u,hu,hr⟩:=iha h1;exact⟨y,J5 ..,.head hu hr⟩
  ·rcases zzL23.1 h1 with rfl|h1
   ·exact⟨z,J5 ..,.refl z⟩
   ·obtain⟨u,hu,hr⟩:=ihb h1;exact⟨u,Fp _ hu,hr⟩
theorem VL.closed(h:VL S s l s' o):(∀ y∈l,s' y=true)/\∀ z∈o,∀ y∈S z,s' y=true:=by
 induction h with
 | nil s=>exact⟨(λ_ h=>by cases h),(λ_ h=>by cases h)⟩
 | @skip s s' y l o h t ih=>
  refine⟨λu hu=>?_,ih.2⟩;rcases zzL23.1 hu with rfl|hu
  ·exact(t.seen u).2 (.inl h)
  ·exact ih.1 u hu
 | @step s s1 s2 y l o1 o2 h a b iha ihb=>
  refine⟨λu hu=>?_,λz hz u hu=>?_⟩
  ·rcases zzL23.1 hu with rfl|hu
   ·exact(b.seen u).2 (.inl ((a.seen u).2 (.inl (upd_true.2 (.inl rfl)))))
   ·exact ihb.1 u hu
  ·rcases zzL11.1 hz with h1|h1
   ·exact(b.seen u).2 (.inl (iha.2 z h1 u hu))
   ·rcases zzL23.1 h1 with rfl|h1
    ·exact(b.seen u).2 (.inl (iha.1 u hu))
    ·exact ihb.2 z h1 u hu
theorem VL.above(h:VL S s l s' o)(hf:∀ z,∀ y∈S z,z<y){b:Nat}(hb:∀ y∈l,b<y):∀ z∈o,b<z:=by
 induction h generalizing b with
 | nil s=>intro z hz;cases hz
 | skip h _ ih=>exact ih (λy hy=>hb y (Fp _ hy))
 | @step s s1 s2 y l o1 o2 h a c iha ihb=>
  intro z hz;have hy:=hb y (J5 ..);rcases zzL11.1 hz with h1|h1
  ·exact iha (λu hu=>Nat.lt_trans hy (hf y u hu)) z h1
  ·rcases zzL23.1 h1 with rfl|h1
   ·exact hy
   ·exact ihb (λu hu=>hb u (Fp _ hu)) z h1
theorem VL.ahead(h:VL S s l s' o)(hf:∀ z,∀ y∈S z,z<y):∀ z∈o,∀ y∈S z,s y=true\/∃ A B,o=A++z::B/\y∈A:=by
 induction h with
 | nil s=>intro z hz;cases hz
 | skip h _ ih=>exact ih
 | @step s s1 s2 y l o1 o2 h a c iha ihb=>
  intro z hz u hu;rcases zzL11.1 hz with h1|h1
  ·have hzy:y<z:=a.above hf (λv hv=>hf y v hv) z h1;have hzu:=hf z u hu;rcases iha z h1 u hu with h2|⟨A,B,rfl,hA⟩
   ·rcases upd_true.1 h2 with rfl|h2
    ·omega
    ·exact .inl h2
   ·exact .inr ⟨A,B++y::o2,by simp,hA⟩
  ·rcases zzL23.1 h1 with rfl|h1z
   ·have hzu:=hf z u hu;rcases(a.seen u).1 (a.closed.1 u hu) with h2|h2
    ·rcases upd_true.1 h2 with rfl|h2
     ·omega
     ·exact .inl h2
    ·exact .inr ⟨o1,o2,rfl,h2⟩
   ·rcases ihb z h1z u hu with h2|⟨A,B,rfl,hA⟩
    ·rcases(a.seen u).1 h2 with h3|h3
     ·rcases upd_true.1 h3 with rfl|h3
      ·obtain⟨P,Q,rfl⟩:=List.append_of_mem h1z;exact .inr ⟨o1++u::P,Q,by simp,by simp⟩
      ·exact .inl h3
     ·obtain⟨P,Q,rfl⟩:=List.append_of_mem h1z;exact .inr ⟨o1++y::P,Q,by simp,by simp[h3]⟩
    ·exact .inr ⟨o1++y::A,B,by simp,by simp[hA]⟩
def LM(n:Nat)(s:Nat->Bool):Nat:=((List.range n).filter λz=>!s z).length
theorem Tj{n:Nat}{s:Nat->Bool}{y:Nat}(hy:y<n)(h:s y=false):LM n (upd s y)+1=LM n s:=by
 unfold LM
 induction n with
 | zero=>omega
 | succ n ih=>
  rw[Y1,LD,LD,E5,E5]
  by_cases hyn:y=n
  ·subst hyn
   have e:(List.range y).filter (λz=>!upd s y z)=(List.range y).filter (λz=>!s z):=by
    apply List.filter_congr
    intro z hz;have:=zzL43.1 hz;simp[upd,show z≠y by omega]
   rw[e];simp[upd,h]
  ·have:=ih (by omega)
   have e:([n].filter λz=>!upd s y z).length=([n].filter λz=>!s z).length:=by
    simp only[List.filter_cons,List.filter_nil,upd];simp[G1 hyn]
   omega
theorem MK{n:Nat}{s s':Nat->Bool}(h:∀ z,s z=true->s' z=true):LM n s'<=LM n s:=by
 unfold LM
 apply List.Sublist.length_le
 have:(List.range n).filter (λz=>!s' z)=((List.range n).filter λz=>!s z).filter λz=>!s' z:=by
  rw[List.filter_filter]
  apply List.filter_congr
  intro z _
  cases hs:s z with
  | false=>simp
  | true=>simp[h z hs]
 rw[this];exact List.filter_sublist
theorem VL.exist{n:Nat}(hS:∀ z,z<n->∀ y∈S z,y<n):∀(m:Nat) (s:Nat->Bool),LM n s<=m->∀ l:List Nat,(∀ y∈l,y<n)->∃ s' o,VL S s l s' o:=by
 intro m
 induction m with
 | zero=>
  intro s hm l
  induction l with
  | nil=>intro _;exact⟨s,[],.nil s⟩
  | cons y l ih=>
   intro hl;obtain⟨s',o,h⟩:=ih (λz hz=>hl z (Fp _ hz))
   cases hy:s y with
   | true=>exact⟨s',o,.skip hy h⟩
   | false=>have:=Tj (hl y (J5 ..)) hy;omega
 | succ m ih=>
  intro s hm l
  induction l generalizing s with
  | nil=>intro _;exact⟨s,[],.nil s⟩
  | cons y l ihl=>
   intro hl
   cases hy:s y with
   | true=>
    obtain⟨s',o,h⟩:=ihl s hm (λz hz=>hl z (Fp _ hz));exact⟨s',o,.skip hy h⟩
   | false=>
    have hyn:=hl y (J5 ..);have:=Tj hyn hy;obtain⟨s1,o1,h1⟩:=ih (upd s y) (by omega) (S y) (hS y hyn);have h2:LM n s1<=LM n s:=MK λz hz=>(h1.seen z).2 (.inl (upd_true.2 (.inr hz)));obtain⟨s2,o2,h3⟩:=ihl s1 (by omega) (λz hz=>hl z (Fp _ hz));exact⟨s2,_,.step hy h1 h3⟩
def one(r:Nat):Nat->Bool:=λz=>decide (z=r)
def Ord(S:Nat->List Nat)(r:Nat)(L:List Nat):Prop:=∃ s' o,VL S (one r) (S r) s' o/\L=r::o.reverse
theorem Ord.exist{n:Nat}(hS:∀ z,z<n->∀ y∈S z,y<n){r:Nat}(hr:r<n):∃ L,Ord S r L:=by
 obtain⟨s',o,h⟩:=VL.exist hS _ (one r) (zzL7 _) (S r) (hS r hr);exact⟨_,s',o,h,rfl⟩
theorem Ord.mem{r:Nat}{L:List Nat}(h:Ord S r L)(z:Nat):z∈L↔Rch S r z:=by
 obtain⟨s',o,h,rfl⟩:=h
 have hs:∀ z,s' z=true↔z=r\/z∈o:=λz=>by rw[h.seen];simp[one]
 have hc:∀ x,s' x=true->∀ y∈S x,s' y=true:=λx hx y hy=>by
  rcases(hs x).1 hx with rfl|hx
  ·exact h.closed.1 y hy
  ·exact h.closed.2 x hx y hy
 simp only[zzL23,zzL96];rw[<- hs z]
 constructor
 ·intro hz;rcases(hs z).1 hz with rfl|hz
  ·exact .refl _
  ·obtain⟨y,hy,hr⟩:=h.rch hz;exact .head hy hr
 ·intro hr
  have key:∀ x z,Rch S x z->s' x=true->s' z=true:=by
   intro x z hxz
   induction hxz with
   | refl x=>exact id
   | head hy _ ih=>exact λhx=>ih (hc _ hx _ hy)
  exact key r z hr ((hs r).2 (.inl rfl))
theorem Ord.nodup{r:Nat}{L:List Nat}(h:Ord S r L):L.Nodup:=by
 obtain⟨s',o,h,rfl⟩:=h;refine zzL73.2 ⟨λhr=>?_,(List.reverse_perm o).nodup_iff.2 h.nodup⟩;have:=h.fresh (zzL96.1 hr);simp[one]at this
theorem Ord.fwd{r:Nat}{L:List Nat}(h:Ord S r L)(hf:∀ z,∀ y∈S z,z<y):∀ z∈L,∀ y∈S z,∃ A B,L=A++z::B/\y∈B:=by
 obtain⟨s',o,h,rfl⟩:=h;intro z hz y hy;have hzy:=hf z y hy;rcases zzL23.1 hz with rfl|hz
 ·refine⟨[],o.reverse,rfl,?_⟩;rcases(h.seen y).1 (h.closed.1 y hy) with h1|h1
  ·simp[one]at h1;omega
  ·exact zzL96.2 h1
 ·have hz:=zzL96.1 hz;have hrz:r<z:=h.above hf (λv hv=>hf r v hv) z hz;rcases h.ahead hf z hz y hy with h1|⟨A,B,rfl,hA⟩
  ·simp[one]at h1;omega
  ·exact⟨r::B.reverse,A.reverse,by simp,zzL96.2 hA⟩
end
theorem XE(l:List Int)(hl:l.length<4611686018427387904):Dq l=some l.reverse:=by
 unfold Dq
 by_cases h0:l.length=0
 ·obtain rfl:l=[]:=zzL106.1 h0
  have:Ai A9 ((0:Int),(Bh ((([]:List Int).length:Int)-1)),([]:List Int))=some []:=by
   apply Ag
   unfold A9;rw[Hn (by simp) (by simp)]
   rfl
  rw[this];rfl
 ·have hw:Bh ((l.length:Int)-1)=((l.length-1:Nat):Int):=by rw[Hn (by omega) (by omega)];omega
  rw[hw]
  let C:Nat->List Int:=λk=>(List.range l.length).map λi=>if i<k\/l.length-1-k<i then l.getD (l.length-1-i) 0 else l.getD i 0
  have hC:∀ k i,i<l.length->(C k).getD i 0=if i<k\/l.length-1-k<i then l.getD (l.length-1-i) 0 else l.getD i 0:=λk i hi=>by simp only[C];rw[Qc hi]
  have hlen:∀ k,(C k).length=l.length:=λk=>by simp[C]
  have:=Wi A9 (λk=>(((k:Nat):Int),((l.length-1-k:Nat):Int),C k)) l.reverse (l.length / 2) (λk hk=>?_) ?_
  ·have e0:C 0=l:=by
    apply Yy (by simp[C])
    intro i h1 h2;have:=hC 0 i h2;rw[Aa _ _ _ h1,Aa _ _ _ h2]at this;rw[this,if_neg (by omega)]
   have this':Ai A9 ((0:Int),((l.length-1:Nat):Int),l)=some l.reverse:=by
    have h2:=this;simp only[e0]at h2;exact h2
   rw[this'];rfl
  ·show A9 (_,_,_)=_
   unfold A9
   have hlt:k<l.length-1-k:=by omega
   simp only[Fu hlt,Ae,A4];rw[Ad (H6 (by rw[hlen];omega)),Ad (H6 (by rw[hlen];omega)),Ad (H6 (by rw[hlen];omega)),Ad (H6 (by rw[hlen];omega))];rw[w1 (by omega),show Bh (((l.length-1-k:Nat):Int)-1)=((l.length-1-(k+1):Nat):Int) by rw[Hn (by omega) (by omega)];omega]
   congr 4
   rw[hC k _ (by omega),hC k _ (by omega),if_neg (by omega),if_neg (by omega)];simp only[C];rw[KV,KV]
   apply Pe
   intro i hi
   by_cases h1:i=k
   ·subst h1;rw[if_neg (by omega),if_pos rfl,if_pos (by omega)]
   ·by_cases h2:i=l.length-1-k
    ·subst h2;rw[if_pos rfl,if_pos (by omega)]
     congr 1;omega
    ·rw[if_neg h2,if_neg h1]
     by_cases h3:i<k\/l.length-1-k<i
     ·rw[if_pos h3,if_pos (by omega)]
     ·rw[if_neg h3,if_neg (by omega)]
  ·show A9 (_,_,_)=_
   unfold A9;have hd:decide (((l.length / 2:Nat):Int)<((l.length-1-l.length / 2:Nat):Int))=false:=Fc (by omega);simp only[hd,Ay]
   congr 2
   apply Yy (by simp[C])
   intro i h1 h2
   have h3:i<l.length:=by simpa [C] using h1
   have:=hC (l.length / 2) i h3;rw[Aa _ _ _ h1]at this;rw[this,List.getElem_reverse]
   split
   ·rw[Aa _ _ _ (by omega)]
   ·rw[Aa _ _ _ h3]
    congr 1;omega
theorem top{st:List Int}{a:Int}(h:st.length<4611686018427387904):(st++[a]).getD (Bh (((st++[a]).length:Int)-1)).toNat 0=a:=by
 have:Bh (((st++[a]).length:Int)-1)=((st.length:Nat):Int):=by rw[E5,Ta,Hn (by omega) (by omega)];omega
 rw[this,A4];simp[List.getD]
theorem kZ{st:List Int}{a:Int}(h:st.length<4611686018427387904):Bh (((st++[a]).length:Int)-1)=((st.length:Nat):Int):=by
 rw[E5,Ta,Hn (by omega) (by omega)];omega
theorem dk{g:Cw}{R:List Bool}{st T:List Int}{a:Nat}(hst:st.length<64)(ha:a<g.Succ.length)(h64:g.Succ.length<=64)(ht:T.getD a 0=((g.Succ.getD a []).length:Int)) :
  Fs g R (st++[(a:Int)]) T=some (.done (.inl T)):=by
 unfold Fs;simp only[top (st:=st) (a:=(a:Int)) (by omega),A4];rw[Ad (H6 (by omega)),Ad (H6 ha),ht,Ke,Ay]
theorem TP{g:Cw}{R:List Bool}{st T:List Int}{a t y:Nat}(hst:st.length<64)(ha:a<g.Succ.length)(h64:g.Succ.length<=64)(ht:T.getD a 0=(t:Int))(htl:t<(g.Succ.getD a []).length)(htm:t<64)
  (hy:(g.Succ.getD a []).getD t 0=(y:Int)) (hyn:y<g.Succ.length) :
  Fs g R (st++[(a:Int)]) T=bif R.getD y false then some (.next (Jx 64 (0:Int) T a ((t+1:Nat):Int))) else some (.done (.inr (Jx 64 false R y true,Jx 64 (0:Int) T a ((t+1:Nat):Int),(st++[(a:Int)])++[(y:Int)]))):=by
 have hroom:(1000:Nat)<=room:=by decide
 unfold Fs;simp only[top (st:=st) (a:=(a:Int)) (by omega),A4,ht,hy];rw[Ad (H6 (by omega)),Ad (H6 ha),Fu htl,Ae,Ad (H6 ha),Ad (H6 (by omega)),Ad (H6 htl),Ad (H6 (by omega)),Ad (H6 (by omega)),Ad (H6 (by omega)),w1 (by omega)]
 cases R.getD y false with
 | true=>rfl
 | false=>
  simp only[L5,Ae,Ay];rw[Ad (H6 (by omega)),Ad (by rw[E5,Ta,Ta];omega)]
theorem TO{g:Cw}{R:List Bool}{st T Lf:List Int}{a:Nat}(hst:st.length<64)(hLf:Lf.length<64) :
  Cr g (R,T,st++[(a:Int)],Lf)=(Ai (Fs g R (st++[(a:Int)])) T).bind λx=>match x with
   | .inl T'=>if st=[] then some (.done (Lf++[(a:Int)]).reverse) else some (.next (R,T',st,Lf++[(a:Int)]))
   | .inr (R',T',st')=>some (.next (R',T',st',Lf)):=by
 have hroom:(1000:Nat)<=room:=by decide
 unfold Cr;simp only
 have hb:B6 (Bh (((st++[(a:Int)]).length:Int)-1)) (st++[(a:Int)]).length:=by rw[kZ (by omega)];exact H6 (by simp)
 rw[Ad hb]
 congr 1
 funext x
 cases x with
 | inr y=>obtain⟨R',T',st'⟩:=y;rfl
 | inl T'=>
  simp only[top (st:=st) (a:=(a:Int)) (by omega)];rw[kZ (by omega),A4,Ad (by rw[Ta];omega),Ad ⟨by omega,by simp⟩];have e:(st++[(a:Int)]).take st.length=st:=List.take_left' rfl;rw[e]
  cases st with
  | nil=>
   rw[if_pos rfl]
   have:decide ((0:Int)<(([]:List Int).length:Int))=false:=by decide
   rw[this,Ay,XE _ (by simp;omega)];simp only[As];rw[Ad (by simp)]
  | cons b st'=>
   rw[if_neg (by simp)];have:decide ((0:Int)<((b::st').length:Int))=true:=Ek (by simp<;>omega);rw[this,Ae]
theorem RU{S X:Type}{f:S->Option (LR S X)}{a b:S}(h:f a=f b):Ai f a=Ai f b:=by
 cases hb:f b with
 | none=>rw[Vi (h.trans hb),Vi hb]
 | some r=>cases r with
  | done x=>rw[Ag (h.trans hb),Ag hb]
  | next s=>rw[An (h.trans hb),An hb]
theorem Zs{S X:Type}{f:S->Option (LR S X)}{s:S}:O5 (f s) f=Ai f s:=by
 unfold O5
 cases hb:f s with
 | none=>rw[Vi hb];rfl
 | some r=>cases r with
  | done x=>rw[Ag hb];rfl
  | next s'=>rw[An hb];rfl
def sN(L:List (List Int))(k:Nat):List Nat:=(L.getD k []).map Int.toNat
def RelS(R:List Bool)(s:Nat->Bool):Prop:=∀ z,z<64->R.getD z false=s z
theorem Mw{α:Type}{d:α}{l:List α}{i:Nat}{x:α}{k:Nat}(hk:k<64):(Jx 64 d l i x).getD k d=if k=i then x else l.getD k d:=by
 rw[HZ hk]
 by_cases h:k=i
 ·subst h;simp
 ·have:Nat.beq k i=false:=by cases hb:Nat.beq k i with|false=>rfl|true=>exact absurd (Bs hb) h
  rw[this,if_neg h];rfl
theorem RelS.set{R:List Bool}{s:Nat->Bool}(h:RelS R s){y:Nat}:RelS (Jx 64 false R y true) (upd s y):=λz hz=>by
 rw[Mw hz,h z hz]
 by_cases hzy:z=y
 ·simp[upd,hzy]
 ·simp[upd,hzy]
def Ox(o:List Nat):List Int:=o.map Int.ofNat
theorem SD{g:Cw}(hm:Lj g.Succ=true){s s':Nat->Bool}{l o:List Nat}(hv:VL (sN g.Succ) s l s' o) :
  ∀(R:List Bool) (T st Lf:List Int) (a t:Nat),RelS R s->a<g.Succ.length->l=(sN g.Succ a).drop t->T.getD a 0=(t:Int)->t<=(sN g.Succ a).length->s a=true->(∀ z,z<64->s z=false->T.getD z 0=0)->
   Lf.length+LM 64 s+st.length+1<=64->
   ∃(R':List Bool) (T':List Int),RelS R' s'/\(∀ z,z<64->s' z=false->T'.getD z 0=0)/\(∀ z,z<64->s z=true->z≠a->T'.getD z 0=T.getD z 0)/\Lf.length+o.length+LM 64 s'+st.length+1<=64 /\
    Ai (Cr g) (R,T,st++[(a:Int)],Lf)=if st=[] then some (Lf++Ox o++[(a:Int)]).reverse else Ai (Cr g) (R',T',st,Lf++Ox o++[(a:Int)]):=by
 obtain⟨hL1,hL64,hLok⟩:=mayS_iff.1 hm
 have hlenS:∀ a,(sN g.Succ a).length=(g.Succ.getD a []).length:=λa=>by simp[sN]
 have hdrop:∀(a t y:Nat) (l':List Nat),a<g.Succ.length->y::l'=(sN g.Succ a).drop t->t<(g.Succ.getD a []).length/\(g.Succ.getD a []).getD t 0=(y:Int)/\y<g.Succ.length/\l'=(sN g.Succ a).drop (t+1):=λa t y l' ha he=>by
  have ht:t<(sN g.Succ a).length:=by
   rcases zzL136 t (sN g.Succ a).length with h|h
   ·exact h
   ·rw[List.drop_eq_nil_of_le h]at he;cases he
  rw[Mj ht]at he;simp only[Cc]at he;obtain⟨h1,h2⟩:=he
  have ht':t<(g.Succ.getD a []).length:=by rw[<- hlenS];exact ht
  obtain⟨b0,b1⟩:=Yc (hLok a ha) ht'
  have h3:(sN g.Succ a)[t]=((g.Succ.getD a []).getD t 0).toNat:=by rw[Aa _ _ _ ht'];simp[sN]
  exact⟨ht',by omega,by omega,h2⟩
 induction hv with
 | nil s=>
  intro R T st Lf a t hR ha hl hT htl hsa hz hc
  have ht:t=(g.Succ.getD a []).length:=by
   have:=B5 List.length hl;simp at this;rw[hlenS]at htl this;omega
  refine⟨R,T,hR,hz,λ_ _ _ _=>rfl,by simpa using hc,?_⟩
  have hF:Cr g (R,T,st++[(a:Int)],Lf)=if st=[] then some (.done (Lf++[(a:Int)]).reverse) else some (.next (R,T,st,Lf++[(a:Int)])):=by
   rw[TO (by omega) (by omega),Ag (dk (by omega) ha hL64 (by rw[hT,ht]))]
   rfl
  by_cases hst:st=[]
  ·rw[if_pos hst]at hF ⊢;rw[Ag hF];simp[Ox]
  ·rw[if_neg hst]at hF ⊢;rw[An hF];simp[Ox]
 | @skip s s' y l o h tl ih=>
  intro R T st Lf a t hR ha hl hT htl hsa hz hc;obtain⟨h1,h2,h3,h4⟩:=hdrop a t y l ha hl;have hb:=BF (hLok a ha);have hs:=TP (g:=g) (R:=R) (st:=st) (T:=T) (a:=a) (t:=t) (y:=y) (by omega) ha hL64 hT h1 (by omega) h2 h3;rw[hR y (by omega),h,Ae]at hs;obtain⟨R',T',a1,a2,a3,a4,a5⟩:=ih R (Jx 64 (0:Int) T a ((t+1:Nat):Int)) st Lf a (t+1) hR ha h4 (by rw[Mw (by omega),if_pos rfl]) (by rw[hlenS];omega) hsa
   (λz hz1 hz2=>by rw[Mw hz1,if_neg (by rintro rfl;rw[hsa]at hz2;cases hz2)];exact hz z hz1 hz2) hc
  refine⟨R',T',a1,a2,λz hz1 hz2 hz3=>by rw[a3 z hz1 hz2 hz3,Mw hz1,if_neg hz3],a4,?_⟩;rw[<- a5]
  apply RU
  rw[TO (by omega) (by omega),TO (by omega) (by omega),An hs]
 | @step s s1 s2 y l o1 o2 h tl tr ih1 ih2=>
  intro R T st Lf a t hR ha hl hT htl hsa hz hc;obtain⟨h1,h2,h3,h4⟩:=hdrop a t y l ha hl;have hb:=BF (hLok a ha)
  have hay:y≠a:=by rintro rfl;rw[hsa]at h;cases h
  have hs:=TP (g:=g) (R:=R) (st:=st) (T:=T) (a:=a) (t:=t) (y:=y) (by omega) ha hL64 hT h1 (by omega) h2 h3;rw[hR y (by omega),h,Ay]at hs;have hcu:=Tj (n:=64) (show y<64 by omega) h
  have hF:Cr g (R,T,st++[(a:Int)],Lf)=some (.next (Jx 64 false R y true,Jx 64 (0:Int) T a ((t+1:Nat):Int),(st++[(a:Int)])++[(y:Int)],Lf)):=by
   rw[TO (by omega) (by omega),Ag hs]
   rfl
  obtain⟨R1,T1,b1,b2,b3,b4,b5⟩:=ih1 (Jx 64 false R y true) (Jx 64 (0:Int) T a ((t+1:Nat):Int)) (st++[(a:Int)]) Lf y 0 hR.set h3 (by simp)
   (by rw[Mw (by omega),if_neg hay];exact hz y (by omega) h) (K8 _) (upd_true.2 (.inl rfl))
   (λz hz1 hz2=>by
    obtain⟨c1,c2⟩:=upd_false.1 hz2;rw[Mw hz1,if_neg (by rintro rfl;rw[hsa]at c2;cases c2)]
    exact hz z hz1 c2) (by rw[E5,Ta];omega)
  rw[if_neg (by simp)]at b5
  have hTa:T1.getD a 0=((t+1:Nat):Int):=by rw[b3 a (by omega) (upd_true.2 (.inr hsa)) (G1 hay),Mw (by omega),if_pos rfl]
  rw[E5,Ta]at b4;obtain⟨R2,T2,c1,c2,c3,c4,c5⟩:=ih2 R1 T1 st (Lf++Ox o1++[(y:Int)]) a (t+1) b1 ha h4 hTa (by rw[hlenS];omega) ((tl.seen a).2 (.inl (upd_true.2 (.inr hsa)))) b2
   (by simp only[E5,Ta,Ox,Pt];omega)
  refine⟨R2,T2,c1,c2,λz hz1 hz2 hz3=>?_,?_,?_⟩
  ·rw[c3 z hz1 ((tl.seen z).2 (.inl (upd_true.2 (.inr hz2)))) hz3,b3 z hz1 (upd_true.2 (.inr hz2)) (by rintro rfl;rw[h]at hz2;cases hz2),Mw hz1,if_neg hz3]
  ·simp only[E5,Ta,Ox,Pt,On]at c4 ⊢;omega
  ·rw[An hF,b5,c5]
   have e:Lf++Ox o1++[(y:Int)]++Ox o2++[(a:Int)]=Lf++Ox (o1++y::o2)++[(a:Int)]:=by simp[Ox]
   rw[e]
theorem Uu{L:List (List Int)}(h:Lj L=true):∀ z,z<L.length->∀ y∈sN L z,y<L.length:=λz hz y hy=>by
 obtain⟨_,_,h3⟩:=mayS_iff.1 h;obtain⟨x,hx,rfl⟩:=zzL24.1 hy;have:=UQ (h3 z hz) hx;omega
theorem eS{r:Nat}(hr:r<64):LM 64 (one r)=63:=by
 have h:=Tj (n:=64) (s:=λ_=>false) hr rfl
 have e:upd (λ_=>false) r=one r:=by funext z;simp[upd,one]
 rw[e]at h
 have:LM 64 (λ_=>false)=64:=by decide
 omega
theorem Nh{α:Type}{n z:Nat}{d:α}:(List.replicate n d).getD z d=d:=by rw[Pq,List.getElem?_replicate];split<;>rfl
theorem KF(g:Cw)(h:Fits g.Succ)(hP:True)(r:Int) :
  (X6 g=true->0<=r->r<(g.Succ.length:Int)->∀ L,Ord (sN g.Succ) r.toNat L->Gw g r=some (Ox L)) /\
  ((X6 g&&(decide (0<=r)&&decide (r<(g.Succ.length:Int))))=false->Gw g r=some []):=by
 refine⟨λhm h0 h1 L hL=>?_,λhf=>?_⟩
 ·have hms:Lj g.Succ=true:=by unfold X6 at hm;exact(A2 _ _▸hm).1
  obtain⟨hL1,hL64,hLok⟩:=mayS_iff.1 hms;obtain⟨s',o,hv,rfl⟩:=hL;have hrn:((r.toNat:Nat):Int)=r:=Uz h0
  have hr:r.toNat<g.Succ.length:=by omega
  obtain⟨R',T',_,_,_,_,hmain⟩:=SD hms hv (Jx 64 false (List.replicate 64 false) r.toNat true) (List.replicate 64 (0:Int)) [] [] r.toNat 0
   (λz hz=>by rw[Mw hz,Nh];by_cases hzr:z=r.toNat<;>simp[one,hzr]) hr (by simp) Nh (K8 _) (by simp[one])
   (λz hz _=>Nh) (by rw[eS (by omega)];simp)
  rw[if_pos rfl,hrn]at hmain;unfold Gw;rw[ge _ h,hm,As];simp only[Fd,Ps,Ae,Ay,Pc,Ek h0,Ek h1,Qy,As];rw[Ad ⟨h0,by omega⟩];have hF:∀ X,Ai (Cr g) (Jx 64 false (List.replicate 64 false) r.toNat true,List.replicate 64 (0:Int),[]++[r],[])=some X->
    (O5 (Cr g (Jx 64 false (List.replicate 64 false) r.toNat true,List.replicate 64 (0:Int),[r],[])) (Cr g)).bind (λx=>some x)=some X:=λX hX=>by
   rw[Zs];rw[Tb]at hX;rw[hX];rfl
  refine(hF _ hmain).trans ?_;simp only[Tb,List.reverse_append,Ox,Bq,List.map_reverse,List.reverse_cons,List.reverse_nil]
  simp
  omega
 ·unfold Gw;rw[ge _ h,As]
  cases hm:X6 g with
  | false=>rfl
  | true=>
   rw[hm,G0]at hf;simp only[Fd,Ps,Ae,Ay,Pc,hf,As,L5]
   rfl
def RelN(n:Nat)(R:List Bool)(s:Nat->Bool):Prop:=R.length=n/\∀ z,z<n->R.getD z false=s z
theorem RelN.set{n:Nat}{R:List Bool}{s:Nat->Bool}(h:RelN n R s){y:Nat}(hy:y<n):RelN n (R.set y true) (upd s y):=by
 refine⟨by rw[Hx];exact h.1,λz hz=>?_⟩;rw[Pq,List.getElem?_set]
 by_cases hzy:y=z
 ·subst hzy;simp[upd,h.1,hy]
 ·rw[if_neg hzy,<- Pq,h.2 z hz];simp[upd,G1 hzy]
theorem Lk:∀(n:Nat) (l:List Nat),l.Nodup->(∀ x∈l,x<n)->l.length<=n
 | 0,l,_,h=>by
  cases l with
  | nil=>simp
  | cons x l=>have:=h x (J5 ..);omega
 | n+1,l,hd,h=>by
  by_cases hn:n∈l
  ·have h1:=Lk n (l.erase n) (hd.erase n) λx hx=>by
    have h2:=(hd.mem_erase_iff).1 hx;have:=h x h2.2;have:=h2.1;omega
   rw[List.length_erase_of_mem hn]at h1;omega
  ·have h1:=Lk n l hd λx hx=>by
    have:=h x hx
    have:x≠n:=by rintro rfl;exact hn hx
    omega
   omega
theorem bq{p:Nat->Bool}{n:Nat}{x:Int}:x∈((List.range n).filter p).map Int.ofNat↔∃ k:Nat,x=(k:Int)/\k<n/\p k=true:=by
 simp only[zzL24,zzL64,zzL43]
 constructor
 ·rintro⟨k,⟨h1,h2⟩,rfl⟩;exact⟨k,rfl,h1,h2⟩
 ·rintro⟨k,rfl,h1,h2⟩;exact⟨k,⟨h1,h2⟩,rfl⟩
theorem bS{L:List (List Int)}{k i:Nat}:Zc L k i=true↔(i:Int)∈L.getD k []:=by unfold Zc;rw[EY]
def mk(o:List Bool)(l:List Nat):List Bool:=l.foldl (λo y=>o.set y true) o
theorem ik(l:List Nat):∀ o:List Bool,(mk o l).length=o.length:=by
 induction l with
 | nil=>intro o;rfl
 | cons y l ih=>intro o;show(mk (o.set y true) l).length=_;rw[ih,Hx]
theorem mk_at{n:Nat}(l:List Nat):∀(o:List Bool),o.length=n->(∀ y∈l,y<n)->∀ z,(mk o l).getD z false=true↔o.getD z false=true\/z∈l:=by
 induction l with
 | nil=>intro o _ _ z;simp[mk]
 | cons y l ih=>
  intro o ho hl z
  show(mk (o.set y true) l).getD z false=true↔_
  rw[ih (o.set y true) (by rw[Hx];exact ho) (λu hu=>hl u (Fp _ hu)) z];have hy:=hl y (J5 ..)
  have e:(o.set y true).getD z false=true↔o.getD z false=true\/z=y:=by
   rw[Pq,List.getElem?_set,Pq]
   by_cases h:y=z
   ·subst h;simp[ho,hy]
   ·simp[h,G1 h]
  rw[e,zzL23]
  constructor
  ·rintro((h|h)|h)
   ·exact .inl h
   ·exact .inr (.inl h)
   ·exact .inr (.inr h)
  ·rintro(h|h|h)
   ·exact .inl (.inl h)
   ·exact .inl (.inr h)
   ·exact .inr h
def sw(S:Nat->List Nat)(o:List Bool):Nat->List Bool
 | 0=>o
 | i+1=>if(sw S o i).getD i false=true then mk (sw S o i) (S i) else sw S o i
def HS(S:Nat->List Nat)(n:Nat)(o:List Bool):Nat->List Bool
 | 0=>o
 | j+1=>sw S (HS S n o j) n
section
variable {S:Nat->List Nat} {n:Nat} (hS:∀ z,z<n->∀ y∈S z,y<n)
theorem Yq(o:List Bool):∀ i,(sw S o i).length=o.length:=by
 intro i
 induction i with
 | zero=>rfl
 | succ i ih=>unfold sw;split;rw[ik,ih];exact ih
theorem fV(o:List Bool):∀ j,(HS S n o j).length=o.length:=by
 intro j
 induction j with
 | zero=>rfl
 | succ j ih=>unfold HS;rw[Yq,ih]
include hS
theorem BM{o:List Bool}(ho:o.length=n):∀ i,i<=n->∀ z,o.getD z false=true->(sw S o i).getD z false=true:=by
 intro i
 induction i with
 | zero=>intro _ z h;exact h
 | succ i ih=>
  intro hi z h;unfold sw
  split
  ·exact(mk_at (n:=n) _ _ (by rw[Yq];exact ho) (hS i (by omega)) z).2 (.inl (ih (by omega) z h))
  ·exact ih (by omega) z h
theorem cf{o:List Bool}{r:Nat}(ho:o.length=n)(h:∀ z,o.getD z false=true->Rch S r z):∀ i,i<=n->∀ z,(sw S o i).getD z false=true->Rch S r z:=by
 intro i
 induction i with
 | zero=>intro _ z hz;exact h z hz
 | succ i ih=>
  intro hi z hz;unfold sw at hz
  split at hz
  ·rename_i hsi
   rcases(mk_at (n:=n) _ _ (by rw[Yq];exact ho) (hS i (by omega)) z).1 hz with h1|h1
   ·exact ih (by omega) z h1
   ·exact(ih (by omega) i hsi).tail h1
  ·exact ih (by omega) z hz
theorem fj{o:List Bool}(ho:o.length=n):∀ i,i<=n->∀ j,j<i->o.getD j false=true->∀ y∈S j,(sw S o i).getD y false=true:=by
 intro i
 induction i with
 | zero=>intro _ j hj;omega
 | succ i ih=>
  intro hi j hj hoj y hy;unfold sw
  by_cases hji:j=i
  ·subst hji;have h1:=BM hS ho j (by omega) j hoj;rw[if_pos h1];exact(mk_at (n:=n) _ _ (by rw[Yq];exact ho) (hS j (by omega)) y).2 (.inr hy)
  ·have h1:=ih (by omega) j (by omega) hoj y hy
   split
   ·exact(mk_at (n:=n) _ _ (by rw[Yq];exact ho) (hS i (by omega)) y).2 (.inl h1)
   ·exact h1
theorem YB{o:List Bool}(ho:o.length=n)(hc:∀ j,j<n->o.getD j false=true->∀ y∈S j,o.getD y false=true):∀ i,i<=n->∀ z,(sw S o i).getD z false=true->o.getD z false=true:=by
 intro i
 induction i with
 | zero=>intro _ z h;exact h
 | succ i ih=>
  intro hi z hz;unfold sw at hz
  split at hz
  ·rename_i hsi
   rcases(mk_at (n:=n) _ _ (by rw[Yq];exact ho) (hS i (by omega)) z).1 hz with h1|h1
   ·exact ih (by omega) z h1
   ·exact hc i (by omega) (ih (by omega) i hsi) z h1
  ·exact ih (by omega) z hz
theorem W4{r:Nat}(hr:r<n)(z:Nat):(HS S n ((List.replicate n false).set r true) n).getD z false=true↔Rch S r z:=by
 let o0:=(List.replicate n false).set r true
 have ho0:o0.length=n:=by simp[o0]
 have hat0:∀ z,o0.getD z false=true↔z=r:=λz=>by
  show((List.replicate n false).set r true).getD z false=true↔z=r
  rw[Pq,List.getElem?_set]
  by_cases h:r=z
  ·subst h;simp[hr]
  ·rw[if_neg h,<- Pq,Nh];simp[G1 h]
 have hlen:∀ j,(HS S n o0 j).length=n:=λj=>by rw[fV,ho0]
 have hsound:∀ j z,(HS S n o0 j).getD z false=true->Rch S r z:=by
  intro j
  induction j with
  | zero=>intro z hz;rw[(hat0 z).1 hz];exact .refl _
  | succ j ih=>intro z hz;exact cf hS (hlen j) ih n (zzL7 _) z hz
 have hmono:∀ j,∀ z,o0.getD z false=true->(HS S n o0 j).getD z false=true:=by
  intro j
  induction j with
  | zero=>intro z h;exact h
  | succ j ih=>intro z h;exact BM hS (hlen j) n (zzL7 _) z (ih z h)
 let C:Nat->Prop:=λj=>∀ i,i<n->(HS S n o0 j).getD i false=true->∀ y∈S i,(HS S n o0 j).getD y false=true
 have key:∀ j,C j\/LM n (λz=>(HS S n o0 j).getD z false)+j+1<=n:=by
  intro j
  induction j with
  | zero=>
   refine .inr ?_;have h1:=Tj (n:=n) (s:=λ_=>false) hr rfl
   have e:upd (λ_=>false) r=λz=>(HS S n o0 0).getD z false:=by
    funext z
    rw[L4,upd_true]
    show _↔o0.getD z false=true
    rw[hat0]
    simp
   rw[e]at h1
   have hcl:LM n (λ_=>false)=n:=by
    unfold LM;rw[List.filter_eq_self.2 (by simp)]
    simp
   omega
  | succ j ih=>
   by_cases hc:C j
   ·refine .inl λi hi h y hy=>?_;have h1:=YB hS (hlen j) hc n (zzL7 _) i h;exact BM hS (hlen j) n (zzL7 _) y (hc i hi h1 y hy)
   ·rcases ih with ih|ih
    ·exact(hc ih).elim
    ·refine .inr ?_
     have hex:∃ i,i<n/\(HS S n o0 j).getD i false=true/\∃ y,y∈S i/\(HS S n o0 j).getD y false=false:=by
      simp only[C]at hc;simp only[Classical.not_forall]at hc;obtain⟨i,hi,h1,y,hy,h2⟩:=hc;exact⟨i,hi,h1,y,hy,by simpa using h2⟩
     obtain⟨i,hi,h1,y,hy,h2⟩:=hex;have h3:=fj hS (hlen j) n (zzL7 _) i hi h1 y hy;have hyn:=hS i hi y hy;have h4:=Tj (n:=n) (s:=λz=>(HS S n o0 j).getD z false) hyn h2
     have h5:LM n (λz=>(HS S n o0 (j+1)).getD z false)<=LM n (upd (λz=>(HS S n o0 j).getD z false) y):=MK λz hz=>by
      rcases upd_true.1 hz with rfl|hz
      ·exact h3
      ·exact BM hS (hlen j) n (zzL7 _) z hz
     omega
 have hC:C n:=by
  rcases key n with h|h
  ·exact h
  ·omega
 constructor
 ·exact hsound n z
 ·intro hrch
  have hlt:∀ x z,Rch S x z->x<n->z<n/\((HS S n o0 n).getD x false=true->(HS S n o0 n).getD z false=true):=by
   intro x z hxz
   induction hxz with
   | refl x=>exact λhx=>⟨hx,id⟩
   | @head x y z hy _ ih=>
    intro hx;have:=ih (hS x hx y hy);exact⟨this.1,λh=>this.2 (hC x hx h y hy)⟩
  exact(hlt r z hrch hr).2 (hmono n r ((hat0 r).2 rfl))
end
def pos:List Nat->Nat->Nat
 | [],_=>0
 | x::l,z=>if x=z then 0 else pos l z+1
theorem DW(x:Nat)(l:List Nat)(z:Nat):pos (x::l) z=if x=z then 0 else pos l z+1:=rfl
theorem fR{A l:List Nat}{z:Nat}(h:z∉A):pos (A++l) z=A.length+pos l z:=by
 induction A with
 | nil=>simp
 | cons x A ih=>
  have h1:x≠z:=λe=>h (by rw[e];exact J5 ..);have h2:z∉A:=λe=>h (Fp _ e);rw[Zz,DW,if_neg h1,ih h2,On];omega
theorem BH{P:List Nat}(hd:P.Nodup){i:Nat}(hi:i<P.length):P[i]∉P.take i/\pos P P[i]=i:=by
 have e:P=P.take i++P[i]::P.drop (i+1):=by rw[<- Mj hi,List.take_append_drop]
 have hn:P[i]∉P.take i:=by
  rw[e]at hd;have:=(List.nodup_append.1 hd).2.2;exact λhm=>this _ hm _ (J5 ..) rfl
 refine⟨hn,?_⟩
 have h2:pos (P.take i++P[i]::P.drop (i+1)) P[i]=i:=by
  rw[fR hn]
  have:pos (P[i]::P.drop (i+1)) P[i]=0:=by rw[DW,if_pos rfl]
  rw[this,Vr];omega
 rw[<- e]at h2;exact h2
theorem MM(d:Array Int)(hs:∀ i j,i<=j->j<d.size->d[i]!<=d[j]!):∀ m,m<=d.size->(∀ x∈Lib.compactUpTo d m,∃ j,j<m/\x=d[j]!)/\(∀ j,j<m->d[j]!∈Lib.compactUpTo d m)/\(Lib.compactUpTo d m).Pairwise (·<·):=by
 intro m
 induction m with
 | zero=>intro _;exact⟨(λx hx=>by simp[Lib.compactUpTo]at hx),(λj hj=>by omega),by simp[Lib.compactUpTo]⟩
 | succ m ih=>
  intro hm;obtain⟨h1,h2,h3⟩:=ih (by omega);rw[Lib.compactUpTo_succ]
  cases hk:Lib.keeps d m with
  | true=>
   rw[if_pos rfl];refine⟨λx hx=>?_,λj hj=>?_,?_⟩
   ·rcases zzL11.1 hx with h|h
    ·obtain⟨j,hj,he⟩:=h1 x h;exact⟨j,by omega,he⟩
    ·exact⟨m,by omega,by simpa using h⟩
   ·by_cases hjm:j=m
    ·subst hjm;simp
    ·exact zzL11.2 (.inl (h2 j (by omega)))
   ·rw[zzL126];refine⟨h3,List.pairwise_singleton _ _,λx hx y hy=>?_⟩;obtain⟨j,hj,rfl⟩:=h1 x hx
    have hy':y=d[m]!:=by simpa using hy
    subst hy'
    have hk':m=0\/d[m]!≠d[m-1]!:=by simpa [Lib.keeps] using hk
    rcases hk' with h0|h0
    ·omega
    ·have a1:=hs j (m-1) (by omega) (by omega);have a2:=hs (m-1) m (by omega) (by omega);omega
  | false=>
   have hk':m≠0/\d[m]! = d[m-1]!:=by
    have:¬ (m=0\/d[m]!≠d[m-1]!):=by
     intro h
     have:Lib.keeps d m=true:=by simpa [Lib.keeps] using h
     rw[hk]at this;cases this
    exact⟨λh=>this (.inl h),Classical.not_not.1 λh=>this (.inr h)⟩
   simp only[Xe,Ep,List.append_nil];refine⟨λx hx=>by obtain⟨j,hj,he⟩:=h1 x hx;exact⟨j,by omega,he⟩,λj hj=>?_,h3⟩
   by_cases hjm:j=m
   ·subst hjm;rw[hk'.2];exact h2 _ (by omega)
   ·exact h2 j (by omega)
def EF(l:List Int):List Int:=Lib.compact (l.mergeSort λx y=>decide (x<=y))
theorem XV(l:List Int):(EF l).Pairwise (·<·)/\∀ x,x∈EF l↔x∈l:=by
 unfold EF Lib.compact;have hp:(l.mergeSort λx y=>decide (x<=y)).Pairwise (λa b=>decide (a<=b)=true):=List.pairwise_mergeSort (λa b c h1 h2=>by simp at *;omega) (λa b=>by simp;omega) l;have hm:∀ x,x∈(l.mergeSort λx y=>decide (x<=y))↔x∈l:=λx=>List.mem_mergeSort
 generalize l.mergeSort (λx y=>decide (x<=y))=z at hp hm ⊢
 have hz:∀ j,j<z.length->z.toArray[j]! = z.getD j 0:=λj hj=>by simp[List.getD,hj]
 obtain⟨h1,h2,h3⟩:=MM z.toArray (λi j hij hj=>by
  have hj':j<z.length:=by simpa using hj
  rw[hz i (by omega),hz j hj']
  by_cases he:i=j
  ·rw[he];exact Int.le_refl _
  ·have:=(zzL99.1 hp) i j (by omega) hj' (by omega);rw[Aa _ _ _ (by omega),Aa _ _ _ hj']
   simpa using this) z.length (by simp)
 refine⟨h3,λx=>?_⟩;rw[<- hm x]
 constructor
 ·intro hx;obtain⟨j,hj,rfl⟩:=h1 x hx;rw[hz j hj];exact getD_mem hj
 ·intro hx;obtain⟨j,hj,rfl⟩:=K6 hx;have:=h2 j hj;rwa[hz j hj,Aa _ _ _ hj]at this
def gy(n:Nat)(l:List Int):Bool:=(List.range l.length).all λi=>decide (0<l.getD i 0)&&decide (l.getD i 0<(n:Int))
def gz(k:Int):Int:=([0,1,2,0]:List Int).getD k.toNat 0
def NA(e:Jb):Bool:=(decide (0<=e.Kind)&&decide (e.Kind<=3))&&decide ((e.To.length:Int)=gz e.Kind)
def M6(e:Jb)(n:Nat):Bool:=NA e&&gy n e.To
theorem toB_iff{n:Nat}{l:List Int}:gy n l=true↔∀ x∈l,0<x/\x<n:=by
 unfold gy;rw[all_range];simp only[A2,Dr]
 constructor
 ·intro h x hx;obtain⟨i,hi,rfl⟩:=K6 hx;have:=h i hi;rwa[Aa _ _ _ hi]at this
 ·intro h i hi;exact h _ (getD_mem hi)
theorem bI(e:Jb)(n:Nat)(hl:e.To.length<4611686018427387904):Ai (B0 e (n:Int)) (0:Int)=some (bif gy n e.To then .inl () else .inr false):=by
 have step:∀ j:Nat,j<e.To.length->B0 e (n:Int) (j:Int)=bif (decide (0<e.To.getD j 0)&&decide (e.To.getD j 0<(n:Int))) then some (.next (((j+1:Nat):Int))) else some (.done (.inr false)):=λj hj=>by
  unfold B0;simp only[A4,Fu hj,Ae,Pc,w1 (show j<4611686018427387904 by omega)];rw[Ad (H6 hj)]
  by_cases h0:e.To.getD j 0=0
  ·rw[h0];rfl
  ·have:(e.To.getD j 0==0)=false:=by rw[zzL22];exact h0
   rw[this];simp only[Ps,Ae,Ay,As]
   have e1:decide (0<e.To.getD j 0)=decide (0<=e.To.getD j 0):=by apply zzL108.2;omega
   rw[e1]
   cases(decide (0<=e.To.getD j 0)&&decide (e.To.getD j 0<(n:Int)))<;>rfl
 have:=M1 (B0 e (n:Int)) (λj=>((j:Nat):Int)) (λi=>decide (0<e.To.getD i 0)&&decide (e.To.getD i 0<(n:Int))) (.inl ()) (.inr false) e.To.length (λj hj hp=>?_) (λj hj hp=>?_) ?_
 ·exact this
 ·show B0 e (n:Int) (j:Int)=_
  rw[step j hj,hp];rfl
 ·show B0 e (n:Int) (j:Int)=_
  rw[step j hj,hp];rfl
 ·show B0 e (n:Int) _=_
  unfold B0;simp only[Ke,Ay]
theorem Wa(e:Jb)(n:Nat)(w:Int)(hw:0<=w/\w<=2) :
  (bif ((e.To.length:Int)!=w) then(some false) else((Ai (B0 e (n:Int)) (0:Int)).bind (λx10=>(match x10 with|(.inl _)=>(some true)|(.inr r12)=>(some r12)))))=some (decide ((e.To.length:Int)=w)&&gy n e.To):=by
 by_cases h:(e.To.length:Int)=w
 ·rw[show((e.To.length:Int)!=w)=false by simpa using h,Ay,bI e n (by omega),Ek h]
  cases gy n e.To<;>rfl
 ·rw[show((e.To.length:Int)!=w)=true by simpa using h,Ae,Fc h];rfl
theorem XC(e:Jb)(n:Nat):Jl e (n:Int)=some (M6 e n):=by
 unfold Jl M6 NA
 by_cases h0:e.Kind=0
 ·rw[h0];exact Wa e n 0 (by omega)
 by_cases h1:e.Kind=1
 ·rw[h1];exact Wa e n 1 (by omega)
 by_cases h2:e.Kind=2
 ·rw[h2];exact Wa e n 2 (by omega)
 by_cases h3:e.Kind=3
 ·rw[h3];exact Wa e n 0 (by omega)
 have e0:(e.Kind==0)=false:=by rw[zzL22];exact h0
 have e1:(e.Kind==1)=false:=by rw[zzL22];exact h1
 have e2:(e.Kind==2)=false:=by rw[zzL22];exact h2
 have e3:(e.Kind==3)=false:=by rw[zzL22];exact h3
 rw[e0,e1,e2,e3]
 have:(decide (0<=e.Kind)&&decide (e.Kind<=3))=false:=by
  by_cases h:0<=e.Kind
  ·rw[Fc (show ¬ e.Kind<=3 by omega)];simp
  ·rw[Fc h];rfl
 rw[this]
 rfl
theorem bM{e:Jb}{n:Nat}(h:M6 e n=true):e.To.length<=2:=by
 unfold M6 NA at h;simp only[A2,Dr]at h;obtain⟨⟨⟨h0,h1⟩,h2⟩,_⟩:=h
 have:gz e.Kind<=2:=by
  have:e.Kind=0\/e.Kind=1\/e.Kind=2\/e.Kind=3:=by omega
  rcases this with h|h|h|h<;>rw[h]<;>decide
 omega
theorem eX{e:Jb}{n:Nat}(h:M6 e n=true):gy n e.To=true:=by unfold M6 at h;exact(A2 _ _▸h).2
def M5(f:Ab)(i:Nat):Jb:=(f.Blocks.getD i (default:Am)).End
def Ej(f:Ab):List (List Int):=(List.range f.Blocks.length).map λi=>EF (M5 f i).To
def Nk(f:Ab):Bool:=(decide (1<=f.Blocks.length)&&decide (f.Blocks.length<=64))&&(List.range f.Blocks.length).all λi=>M6 (M5 f i) f.Blocks.length
theorem shape_iff{f:Ab}:Nk f=true↔(1<=f.Blocks.length/\f.Blocks.length<=64)/\∀ i,i<f.Blocks.length->M6 (M5 f i) f.Blocks.length=true:=by
 unfold Nk;rw[A2,A2,all_range];simp only[Dr]
theorem fc{f:Ab}{i:Nat}(h:M6 (M5 f i) f.Blocks.length=true):dg f.Blocks.length (EF (M5 f i).To)=true:=by
 obtain⟨h1,h2⟩:=XV (M5 f i).To;exact im (λx hx=>by have:=(toB_iff.1 (eX h)) x ((h2 x).1 hx);omega) h1
theorem Sv{f:Ab}(h:Nk f=true):Lj (Ej f)=true:=by
 obtain⟨⟨h1,h2⟩,h3⟩:=shape_iff.1 h
 have hl:(Ej f).length=f.Blocks.length:=by simp[Ej]
 refine mayS_iff.2 ⟨by omega,by omega,λi hi=>?_⟩;rw[hl]at hi ⊢;unfold Ej;rw[Qc hi];exact fc (h3 i hi)
theorem mA(f:Ab)(hf:f.Blocks.length<=maxLen):Qi f=some (bif Nk f then(Xs (Ej f),0) else(g0,5)):=by
 have hroom:(1000:Nat)<=room:=by decide
 unfold Qi;rw[HD,As];have hsh:Nk f=((decide (1<=f.Blocks.length)&&decide (f.Blocks.length<=64))&&(List.range f.Blocks.length).all λi=>M6 (M5 f i) f.Blocks.length):=rfl
 cases hc:(decide (1<=f.Blocks.length)&&decide (f.Blocks.length<=64)) with
 | false=>rw[hsh,hc];rfl
 | true=>
  have hc':=hc;simp only[A2,Dr]at hc';simp only[Fd,Ay];rw[Ad ⟨by omega,Int.le_refl _,by omega⟩,A4]
  let U:Nat->List (List Int):=λi=>(List.range f.Blocks.length).map λj=>if j<i then EF (M5 f j).To else[]
  have e0:List.replicate f.Blocks.length ([]:List Int)=U 0:=by
   simp only[U]
   apply List.ext_getElem?
   intro j
   by_cases hj:j<f.Blocks.length<;>simp[hj,List.getElem?_replicate]
  have eN:U f.Blocks.length=Ej f:=by
   simp only[U,Ej]
   apply Pe
   intro j hj;rw[if_pos hj]
  rw[e0]
  have hstep:∀ i:Nat,i<f.Blocks.length->Ew f ((i:Int),U i)=bif M6 (M5 f i) f.Blocks.length then some (.next (((i+1:Nat):Int),U (i+1))) else some (.done (.inr (g0,5))):=λi hi=>by
   unfold Ew;simp only[Fu hi,Ae,A4];rw[Ad (H6 hi)];have he:(⟨(f.Blocks.getD i (default:Am)).End.Kind,(f.Blocks.getD i (default:Am)).End.Arg,(f.Blocks.getD i (default:Am)).End.To⟩:Jb)=M5 f i:=rfl;rw[he,XC,As]
   cases hfit:M6 (M5 f i) f.Blocks.length with
   | false=>rfl
   | true=>
    have hl2:=bM hfit;simp only[Fd,Ay,Ae]
    have hx:Xc (f.Blocks.getD i (default:Am)).End.To=some (EF (M5 f i).To):=by
     unfold Xc;rw[UJ,Ad (by show(M5 f i).To.length<=_;omega)]
     rfl
    rw[hx,As,Ad (H6 (by simp[U];omega)),w1 (by omega)]
    congr 3
    simp only[U];rw[KV]
    apply Pe
    intro j hj
    by_cases h1:j=i
    ·subst h1;rw[if_pos rfl,if_pos (by omega)]
    ·rw[if_neg h1]
     by_cases h2:j<i
     ·rw[if_pos h2,if_pos (by omega)]
     ·rw[if_neg h2,if_neg (by omega)]
  have:=M1 (Ew f) (λi=>(((i:Nat):Int),U i)) (λi=>M6 (M5 f i) f.Blocks.length) (.inl (U f.Blocks.length)) (.inr (g0,5)) f.Blocks.length (λi hi hp=>?_) (λi hi hp=>?_) ?_
  ·rw[show Ai (Ew f) ((0:Int),U 0)=_ from this,hsh,hc,eN,G0]
   cases hall:(List.range f.Blocks.length).all λi=>M6 (M5 f i) f.Blocks.length with
   | false=>rfl
   | true=>
    simp only[Ae,As];rw[NK _ (Sv (by rw[hsh,hc,hall];rfl))]
    rfl
  ·show Ew f (_,_)=_
   rw[hstep i hi,hp];rfl
  ·show Ew f (_,_)=_
   rw[hstep i hi,hp];rfl
  ·show Ew f (_,_)=_
   unfold Ew;simp only[Ke,Ay]
inductive Rc (S:Nat->List Nat) (r:Nat):Nat->Prop
 | root:Rc S r r
 | step {x y:Nat} (h:Rc S r x) (hy:y∈S x):Rc S r y
inductive Av (S:Nat->List Nat) (r z:Nat):Nat->Prop
 | root (h:r≠z):Av S r z r
 | step {x y:Nat} (h:Av S r z x) (hy:y∈S x) (hz:y≠z):Av S r z y
inductive AvN (S:Nat->List Nat) (r z:Nat):Nat->Nat->Prop
 | root (h:r≠z) (k:Nat):AvN S r z k r
 | step {k x y:Nat} (h:AvN S r z k x) (hy:y∈S x) (hz:y≠z):AvN S r z (k+1) y
section
variable {S:Nat->List Nat} {r:Nat}
theorem rc_iff{x:Nat}:Rc S r x↔Rch S r x:=by
 constructor
 ·intro h
  induction h with
  | root=>exact .refl _
  | step _ hy ih=>exact ih.tail hy
 ·intro h
  have key:∀ a b,Rch S a b->Rc S r a->Rc S r b:=by
   intro a b hab
   induction hab with
   | refl x=>exact id
   | head hy _ ih=>exact λha=>ih (.step ha hy)
  exact key _ _ h .root
def wo(S:Nat->List Nat)(z:Nat):Nat->List Nat:=λx=>(S x).filter λy=>decide (y≠z)
theorem av_iff{z x:Nat}:Av S r z x↔r≠z/\Rch (wo S z) r x:=by
 constructor
 ·intro h
  induction h with
  | root h=>exact⟨h,.refl _⟩
  | step _ hy hz ih=>exact⟨ih.1,ih.2.tail (zzL64.2 ⟨hy,by simpa using hz⟩)⟩
 ·rintro⟨hr,h⟩
  have key:∀ a b,Rch (wo S z) a b->Av S r z a->Av S r z b:=by
   intro a b hab
   induction hab with
   | refl x=>exact id
   | head hy _ ih=>
    obtain⟨h1,h2⟩:=zzL64.1 hy;exact λha=>ih (.step ha h1 (by simpa using h2))
  exact key _ _ h (.root hr)
theorem Av.rc{z x:Nat}(h:Av S r z x):Rc S r x:=by
 induction h with
 | root _=>exact .root
 | step _ hy _ ih=>exact .step ih hy
theorem Av.ne{z x:Nat}(h:Av S r z x):x≠z:=by
 cases h with
 | root h=>exact h
 | step _ _ hz=>exact hz
theorem AvN.av{z k x:Nat}(h:AvN S r z k x):Av S r z x:=by
 induction h with
 | root h=>exact .root h
 | step _ hy hz ih=>exact .step ih hy hz
theorem AvN.up{z k x:Nat}(h:AvN S r z k x):AvN S r z (k+1) x:=by
 induction h with
 | root h k=>exact .root h _
 | step _ hy hz ih=>exact .step ih hy hz
theorem AvN.mono{z k m x:Nat}(h:AvN S r z k x)(hm:k<=m):AvN S r z m x:=by
 obtain⟨d,rfl⟩:=Nat.exists_eq_add_of_le hm;clear hm
 induction d with
 | zero=>exact h
 | succ d ih=>exact ih.up
theorem Av.avn{z x:Nat}(h:Av S r z x):∃ k,AvN S r z k x:=by
 induction h with
 | root h=>exact⟨0,.root h 0⟩
 | step _ hy hz ih=>obtain⟨k,hk⟩:=ih;exact⟨k+1,.step hk hy hz⟩
theorem AvN.via {z k x : Nat} (h : AvN S r z k x) (y : Nat) : AvN S r y k x ∨ AvN S r z k y := by
  induction h with
  | root h k => by_cases hy : r = y
                · subst hy; exact .inr (.root h _)
                · exact .inl (.root hy _)
  | @step k x w h hy hz ih =>
    rcases ih with h1 | h1
    · by_cases hw : w = y
      · subst hw; exact .inr (.step h hy hz)
      · exact .inl (.step h1 hy hw)
    · exact .inr h1.up
theorem WD(n:Nat):∃ K,∀ z,z<n->∀ x,x<n->Av S r z x->AvN S r z K x:=by
 have one:∀ z m,∃ K,∀ x,x<m->Av S r z x->AvN S r z K x:=by
  intro z m
  induction m with
  | zero=>exact⟨0,λx hx=>absurd hx (Mk x)⟩
  | succ m ih=>
   obtain⟨K,hK⟩:=ih
   by_cases h:Av S r z m
   ·obtain⟨k,hk⟩:=h.avn;refine⟨max K k,λx hx ha=>?_⟩;rcases zzL117.1 hx with h1|rfl
    ·exact(hK x h1 ha).mono (Nat.le_max_left ..)
    ·exact hk.mono (Nat.le_max_right ..)
   ·refine⟨K,λx hx ha=>?_⟩;rcases zzL117.1 hx with h1|rfl
    ·exact hK x h1 ha
    ·exact absurd ha h
 have two:∀ m,∃ K,∀ z,z<m->∀ x,x<n->Av S r z x->AvN S r z K x:=by
  intro m
  induction m with
  | zero=>exact⟨0,λx hx=>absurd hx (Mk x)⟩
  | succ m ih=>
   obtain⟨K,hK⟩:=ih;obtain⟨k,hk⟩:=one m n;refine⟨max K k,λz hz x hx ha=>?_⟩;rcases zzL117.1 hz with h1|rfl
   ·exact(hK z h1 x hx ha).mono (Nat.le_max_left ..)
   ·exact(hk x hx ha).mono (Nat.le_max_right ..)
 exact two n
end
inductive UpTo (par:Nat->Int):Nat->Nat->Prop
 | refl (x:Nat):UpTo par x x
 | up {x y z:Nat} (h:par x=(y:Int)) (t:UpTo par y z):UpTo par x z
inductive Fw (S:Nat->List Nat) (at_:Nat->Nat) (u:Nat):Nat->Prop
 | refl:Fw S at_ u u
 | step {v w:Nat} (h:Fw S at_ u v) (hw:w∈S v) (hl:at_ v<at_ w):Fw S at_ u w
section
variable {S:Nat->List Nat} {at_:Nat->Nat} {par:Nat->Int}
theorem Fw.le{u w:Nat}(h:Fw S at_ u w):at_ u<=at_ w:=by
 induction h with
 | refl=>exact zzL7 _
 | step _ _ hl ih=>omega
theorem Fw.trans{u v w:Nat}(h:Fw S at_ u v)(k:Fw S at_ v w):Fw S at_ u w:=by
 induction k with
 | refl=>exact h
 | step _ hw hl ih=>exact .step ih hw hl
theorem Fw.av{r d u w:Nat}(h:Fw S at_ u w)(ha:Av S r d u)(hd:at_ d<at_ u):Av S r d w:=by
 induction h with
 | refl=>exact ha
 | @step v w h hw hl ih=>exact .step ih hw (by rintro rfl;have:=h.le;omega)
theorem UpTo.trans{x y z:Nat}(h:UpTo par x y)(k:UpTo par y z):UpTo par x z:=by
 induction h with
 | refl x=>exact k
 | up h _ ih=>exact .up h (ih k)
theorem anc_up{x p z:Nat}(h:par x=(p:Int)):UpTo par x z↔z=x\/UpTo par p z:=by
 constructor
 ·intro k
  cases k with
  | refl=>exact .inl rfl
  | up h' t=>rw[h]at h';cases U0 h';exact .inr t
 ·rintro(rfl|k)
  ·exact .refl _
  ·exact .up h k
theorem AS{x z:Nat}(h:∀ p:Nat,par x≠(p:Int)):UpTo par x z↔z=x:=by
 constructor
 ·intro k
  cases k with
  | refl=>rfl
  | up h' t=>exact absurd h' (h _)
 ·rintro rfl;exact .refl _
structure Inv(S:Nat->List Nat)(r n:Nat)(at_:Nat->Nat)(par:Nat->Int):Prop where
 top:par r = -1
 kind:∀ x,x<n->par x = -2\/x=r\/∃ z:Nat,par x=(z:Int)
 up:∀ x,x<n->∀ z:Nat,par x=(z:Int)->z<n/\par z≠-2/\at_ z<at_ x/\Fw S at_ z x
 rc:∀ x,x<n->par x≠-2->Rc S r x
 all:∀ x,x<n->par x≠-2->∀ d,¬ UpTo par x d->Av S r d x
end
section
variable {S:Nat->List Nat} {at_:Nat->Nat} {par:Nat->Int} {r n:Nat}
theorem Inv.anc(h:Inv S r n at_ par){x z:Nat}(k:UpTo par x z)(hx:x<n)(hp:par x≠-2):z<n/\par z≠-2/\at_ z<=at_ x/\Fw S at_ z x:=by
 induction k with
 | refl x=>exact⟨hx,hp,zzL7 _,.refl⟩
 | @up x y z hxy t ih=>
  obtain⟨h1,h2,h3,h4⟩:=h.up x hx y hxy;obtain⟨i1,i2,i3,i4⟩:=ih h1 h2;exact⟨i1,i2,by omega,i4.trans h4⟩
theorem Inv.root_anc(h:Inv S r n at_ par){z:Nat}:UpTo par r z↔z=r:=AS λp hp=>by rw[h.top]at hp;omega
theorem Inv.strict(h:Inv S r n at_ par){x z:Nat}(k:UpTo par x z)(hx:x<n)(hp:par x≠-2):z=x\/at_ z<at_ x:=by
 cases k with
 | refl=>exact .inl rfl
 | up hxy t=>
  obtain⟨h1,h2,h3,h4⟩:=h.up x hx _ hxy;obtain⟨i1,i2,i3,i4⟩:=h.anc t h1 h2;exact .inr (by omega)
theorem Inv.antisymm(h:Inv S r n at_ par){x z:Nat}(k:UpTo par x z)(m:UpTo par z x)(hx:x<n)(hp:par x≠-2):z=x:=by
 rcases h.strict k hx hp with rfl|h1
 ·rfl
 ·obtain⟨i1,i2,i3,i4⟩:=h.anc k hx hp;have:=(h.anc m i1 i2).2.2.1;omega
def MeetAt(par:Nat->Int)(a b m:Nat):Prop:=∀ w,UpTo par m w↔UpTo par a w/\UpTo par b w
theorem HE{a:Nat}:MeetAt par a a a:=λw=>by simp
theorem XI{a b m:Nat}(h:MeetAt par a b m):MeetAt par b a m:=λw=>by rw[h w];exact And.comm
theorem Inv.meet_left(h:Inv S r n at_ par)(hinj:∀ x y,x<n->y<n->par x≠-2->par y≠-2->at_ x=at_ y->x=y){a b p m:Nat}(ha:a<n)(hpa:par a≠-2)(hb:b<n)(hpb:par b≠-2)(hab:a≠b)(hl:at_ b<=at_ a)(hp:par a=(p:Int))(k:MeetAt par p b m):MeetAt par a b m:=λw=>by
 rw[k w]
 constructor
 ·rintro⟨h1,h2⟩;exact⟨.up hp h1,h2⟩
 ·rintro⟨h1,h2⟩;rcases(anc_up hp).1 h1 with rfl|h1
  ·exfalso
   rcases h.strict h2 hb hpb with h3|h3
   ·exact hab h3
   ·omega
  ·exact⟨h1,h2⟩
end
section
variable {S:Nat->List Nat} {at_:Nat->Nat} {par:Nat->Int} {r n:Nat}
def Kw(par:Nat->Int)(y:Nat)(v:Int):Nat->Int:=λx=>if x=y then v else par x
def QH(S:Nat->List Nat)(n:Nat)(par:Nat->Int)(y z:Nat):Prop:=∀ w,UpTo par z w↔∀ p,p<n->y∈S p->par p≠-2->UpTo par p w
theorem Y6{y:Nat}{v:Int}{x z:Nat}(k:UpTo par x z)(hy:¬ UpTo par x y):UpTo (Kw par y v) x z:=by
 induction k with
 | refl x=>exact .refl _
 | @up x q z h t ih=>
  have hxy:x≠y:=by rintro rfl;exact hy (.refl _)
  refine .up (y:=q) ?_ (ih λk=>hy (.up h k));unfold Kw;rw[if_neg hxy];exact h
theorem LX{y:Nat}{v:Int}{x:Nat}(k:UpTo par x y):UpTo (Kw par y v) x y:=by
 induction k with
 | refl x=>exact .refl _
 | @up x q z h t ih=>
  by_cases hxy:x=z
  ·subst hxy;exact .refl _
  ·refine .up (y:=q) ?_ ih;unfold Kw;rw[if_neg hxy];exact h
theorem anc_upd_inv{y:Nat}{v:Int}{x w:Nat}(k:UpTo (Kw par y v) x w):UpTo par x w\/(UpTo par x y/\UpTo (Kw par y v) y w):=by
 induction k with
 | refl x=>exact .inl (.refl _)
 | @up x q w h t ih=>
  by_cases hxy:x=y
  ·subst hxy;exact .inr ⟨.refl _,.up h t⟩
  ·unfold Kw at h;rw[if_neg hxy]at h;rcases ih with h1|⟨h1,h2⟩
   ·exact .inl (.up h h1)
   ·exact .inr ⟨.up h h1,h2⟩
theorem low_or{y:Nat}{v:Int}{x d:Nat}(k:UpTo par x y)(hd:UpTo par x d):UpTo par y d\/UpTo (Kw par y v) x d:=by
 induction k with
 | refl x=>exact .inl hd
 | @up x q y hq t ih=>
  by_cases e:x=y
  ·subst e;exact .inl hd
  ·rcases(anc_up hq).1 hd with rfl|k
   ·exact .inr (.refl _)
   ·rcases ih k with h1|h1
    ·exact .inl h1
    ·exact .inr (.up (y:=q) (by unfold Kw;rw[if_neg e];exact hq) h1)
structure Better(S:Nat->List Nat)(r n:Nat)(at_:Nat->Nat)(par:Nat->Int)(y z:Nat):Prop where
 inv:Inv S r n at_ par
 hy:y<n
 hr:y≠r
 hz:z<n
 best:QH S n par y z
 fwd:∃ p,p<n/\y∈S p/\par p≠-2/\at_ p<at_ y
variable {y z:Nat}
theorem Better.zlt(h:Better S r n at_ par y z):UpTo par z z/\par z≠-2/\at_ z<at_ y/\Fw S at_ z y:=by
 obtain⟨p,hp,hyp,hpp,hl⟩:=h.fwd;obtain⟨h1,h2,h3,h4⟩:=h.inv.anc ((h.best z).1 (.refl _) p hp hyp hpp) hp hpp;exact⟨.refl _,h2,by omega,.step h4 hyp hl⟩
theorem Better.above(h:Better S r n at_ par y z){w:Nat}:UpTo (Kw par y z) z w↔UpTo par z w:=by
 obtain⟨_,h2,h3,_⟩:=h.zlt
 have hn:¬ UpTo par z y:=λk=>by have:=(h.inv.anc k h.hz h2).2.2.1;omega
 constructor
 ·intro k;rcases anc_upd_inv k with h1|⟨h1,_⟩
  ·exact h1
  ·exact absurd h1 hn
 ·intro k;exact Y6 k hn
theorem Better.here(h:Better S r n at_ par y z){w:Nat}:UpTo (Kw par y z) y w↔w=y\/UpTo par z w:=by
 rw[anc_up (p:=z) (by simp[Kw]),h.above]
theorem Better.av_here(h:Better S r n at_ par y z){d:Nat}(hd:¬ UpTo (Kw par y z) y d):Av S r d y:=by
 rw[h.here]at hd;have h1:¬ ∀ p,p<n->y∈S p->par p≠-2->UpTo par p d:=λhh=>hd (.inr ((h.best d).2 hh));simp only[Classical.not_forall]at h1;obtain⟨p,hp,hyp,hpp,hnp⟩:=h1;exact .step (h.inv.all p hp hpp d hnp) hyp λe=>hd (.inl e.symm)
theorem Better.inv'(h:Better S r n at_ par y z):Inv S r n at_ (Kw par y z):=by
 obtain⟨hzz,hz2,hzl,hzf⟩:=h.zlt;obtain⟨p,hp,hyp,hpp,hl⟩:=h.fwd
 have hne:∀ x,Kw par y z x≠-2->x=y\/par x≠-2:=λx hx=>by
  by_cases e:x=y
  ·exact .inl e
  ·unfold Kw at hx;rw[if_neg e]at hx;exact .inr hx
 have hyv:Kw par y z y=(z:Int):=by simp[Kw]
 have hyo:∀ x,x≠y->Kw par y z x=par x:=λx e=>by unfold Kw;rw[if_neg e]
 refine⟨by rw[hyo _ (G1 h.hr)];exact h.inv.top,λx hx=>?_,λx hx w hw=>?_,λx hx hxp=>?_,λx hx hxp d hd=>?_⟩
 ·by_cases e:x=y
  ·subst e;exact .inr (.inr ⟨z,hyv⟩)
  ·rw[hyo x e];exact h.inv.kind x hx
 ·have hzn:∀ w,par w≠-2->Kw par y z w≠-2:=λw hw=>by
   by_cases e:w=y
   ·subst e;rw[hyv];omega
   ·rw[hyo w e];exact hw
  by_cases e:x=y
  ·subst e;rw[hyv]at hw
   cases U0 hw
   exact⟨h.hz,hzn _ hz2,hzl,hzf⟩
  ·rw[hyo x e]at hw;obtain⟨h1,h2,h3,h4⟩:=h.inv.up x hx w hw;exact⟨h1,hzn _ h2,h3,h4⟩
 ·rcases hne x hxp with rfl|h1
  ·exact .step (h.inv.rc p hp hpp) hyp
  ·exact h.inv.rc x hx h1
 ·by_cases e:x=y
  ·subst e;exact h.av_here hd
  ·rw[hyo x e]at hxp
   by_cases hxd:UpTo par x d
   ·
    by_cases hxy:UpTo par x y
    ·have hyd:¬ UpTo (Kw par y z) y d:=λk=>hd ((LX hxy).trans k);have hav:=h.av_here hyd;have hf:=(h.inv.anc hxy hx hxp).2.2.2
     have hdy:UpTo par y d:=by
      rcases low_or (v:=(z:Int)) hxy hxd with h1|h1
      ·exact h1
      ·exact absurd h1 hd
     by_cases hpy:par y = -2
     ·
      have:d=y:=by
       refine(AS (par:=par) λp hp=>?_).1 hdy;rw[hpy]at hp;omega
      subst this;exact absurd (.refl _) hyd
     ·rcases h.inv.strict hdy h.hy hpy with rfl|hlt
      ·exact absurd (.refl _) hyd
      ·exact hf.av hav hlt
    ·exact absurd (Y6 hxd hxy) hd
   ·exact h.inv.all x hx hxp d hxd
end
section
variable {S:Nat->List Nat} {at_:Nat->Nat} {par:Nat->Int} {r n:Nat}
def QB(S:Nat->List Nat)(r n:Nat)(par:Nat->Int)(b:Nat->Nat):Prop:=∀ x,x<n->par x≠-2->∀ z,AvN S r z (b x) x->¬ UpTo par x z
def QI(S:Nat->List Nat)(r n:Nat)(par:Nat->Int):Prop:=∀ x,x<n->Rc S r x->par x≠-2
def TN(S:Nat->List Nat)(r n:Nat)(par:Nat->Int):Prop:=∀ x,x<n->par x≠-2->∀ d,UpTo par x d↔¬ Av S r d x
theorem fU(h:Inv S r n at_ par):QB S r n par λ_=>0:=λx hx hp z hz k=>by
 cases hz with
 | root hr _=>exact hr (h.root_anc.1 k).symm
theorem UX(hS:∀ x,x<n->∀ w∈S x,w<n)(hr:r<n){x:Nat}(h:Rc S r x):x<n:=by
 induction h with
 | root=>exact hr
 | step _ hy ih=>exact hS _ ih _ hy
theorem Better.qb{y z k:Nat}{b:Nat->Nat}(h:Better S r n at_ par y z)(hS:∀ x,x<n->∀ w∈S x,w<n)(hrn:r<n)(full:QI S r n par)(hb:∀ x,x<n->k<=b x/\b x<=k+1)(q:QB S r n par b) :
  QB S r n (Kw par y z) λx=>if x=y then k+1 else b x:=by
 have here:∀ w,AvN S r w (k+1) y->¬ UpTo (Kw par y z) y w:=λw hw hu=>by
  rcases h.here.1 hu with rfl|hu
  ·exact hw.av.ne rfl
  ·cases hw with
   | root hr _=>exact h.hr rfl
   | @step _ p _ hp hyp hne=>
    have hpn:=UX hS hrn hp.av.rc;have hpp:=full p hpn hp.av.rc;exact q p hpn hpp w (hp.mono (hb p hpn).1) ((h.best w).1 hu p hpn hyp hpp)
 intro x hx hxp w hw hu
 dsimp only at hw
 by_cases e:x=y
 ·subst e;rw[if_pos rfl]at hw;exact here w hw hu
 ·rw[if_neg e]at hw;unfold Kw at hxp;rw[if_neg e]at hxp;rcases anc_upd_inv hu with h1|⟨h1,h2⟩
  ·exact q x hx hxp w hw h1
  ·rcases hw.via y with h3|h3
   ·exact q x hx hxp y h3 h1
   ·exact here w (h3.mono (hb x hx).2) h2
theorem bJ(h:Inv S r n at_ par){K:Nat}(hK:∀ z,z<n->∀ x,x<n->Av S r z x->AvN S r z K x)(q:QB S r n par λ_=>K):TN S r n par:=λx hx hp d=>by
 constructor
 ·intro hu ha;exact q x hx hp d (hK d (h.anc hu hx hp).1 x hx ha) hu
 ·intro ha;exact ES λhn=>ha (h.all x hx hp d hn)
theorem Better.same{y z:Nat}(h:Better S r n at_ par y z)(hS:∀ x,x<n->∀ w∈S x,w<n)(hrn:r<n)(full:QI S r n par)(hy2:par y≠-2)(ex:TN S r n par):par y=(z:Int):=by
 obtain⟨hzz,hz2,hzl,hzf⟩:=h.zlt;rcases h.inv.kind y h.hy with h1|h1|⟨q,hq⟩
 ·exact absurd h1 hy2
 ·exact absurd h1 h.hr
 ·obtain⟨q1,q2,q3,q4⟩:=h.inv.up y h.hy q hq
  have key:∀ w,UpTo par z w↔UpTo par q w:=λw=>by
   rw[h.best w]
   constructor
   ·intro hall
    have hwy:¬ Av S r w y:=λha=>by
     cases ha with
     | root _=>exact h.hr rfl
     | @step p _ hp hyp hne=>
      have hpn:=UX hS hrn hp.rc;have hpp:=full p hpn hp.rc;exact(ex p hpn hpp w).1 (hall p hpn hyp hpp) hp
    rcases(anc_up hq).1 ((ex y h.hy hy2 w).2 hwy) with rfl|hu
    ·have:=(h.inv.anc ((h.best _).2 hall) h.hz hz2).2.2.1;omega
    ·exact hu
   ·intro hu p hp hyp hpp;have hwy:UpTo par y w:=.up hq hu;refine(ex p hp hpp w).2 λha=>?_
    have hne:y≠w:=by rintro rfl;have:=(h.inv.anc hu q1 q2).2.2.1;omega
    exact(ex y h.hy hy2 w).1 hwy (.step ha hyp hne)
  have:=h.inv.antisymm ((key q).2 (.refl _)) ((key z).1 (.refl _)) h.hz hz2;rw[hq,this]
theorem WU(h:Inv S r n at_ par)(hS:∀ x,x<n->∀ w∈S x,w<n)(hrn:r<n)(full:QI S r n par)(fix:∀ y,y<n->y≠r->Rc S r y->∃ z:Nat,par y=(z:Int)/\QH S n par y z):TN S r n par:=λx hx hp d=>by
 constructor
 ·intro hu ha
  induction ha with
  | root hne=>exact hne (h.root_anc.1 hu).symm
  | @step p y hp' hyp hne ih=>
   have hpn:=UX hS hrn hp'.rc;have hpp:=full p hpn hp'.rc
   by_cases e:y=r
   ·subst e;exact hne (h.root_anc.1 hu).symm
   ·obtain⟨z,hz,hb⟩:=fix y hx e (.step hp'.rc hyp);rcases(anc_up hz).1 hu with rfl|hu
    ·exact hne rfl
    ·exact ih hpn hpp ((hb d).1 hu p hpn hyp hpp)
 ·intro ha;exact ES λhn=>ha (h.all x hx hp d hn)
end
def Bc(t:List Int):Nat->Int:=λx=>t.getD x 0
theorem OJ{t:List Int}{y:Nat}{v:Int}(hy:y<t.length):Bc (t.set y v)=Kw (Bc t) y v:=by
 funext x
 unfold Bc Kw
 by_cases e:x=y
 ·subst e;simp[List.getD,hy]
 ·simp[List.getD,e,G1 e]
open Classical in
def Jq(S:Nat->List Nat)(n:Nat)(t:List Int)(y:Nat):Nat:=if h:∃ z,z<n/\QH S n (Bc t) y z then Classical.choose h else 0
def Ry(S:Nat->List Nat)(n:Nat)(P:List Nat)(t:List Int):Nat->List Int
 | 0=>t
 | i+1=>(Ry S n P t i).set (P.getD i 0) (Jq S n (Ry S n P t i) (P.getD i 0):Int)
def BK(S:Nat->List Nat)(n:Nat)(P:List Nat)(t:List Int):Nat->List Int
 | 0=>t
 | j+1=>Ry S n P (BK S n P t j) P.length
def Eo(n r:Nat):List Int:=(List.replicate n (-2:Int)).set r (-1)
structure Ordered(S:Nat->List Nat)(r n:Nat)(P:List Nat):Prop where
 hr:r<n
 hS:∀ x,x<n->∀ w∈S x,w<n
 nodup:(r::P).Nodup
 mem:∀ x,x∈r::P↔Rc S r x
 fwd:∀ i,i<P.length->∃ p,p∈r::P.take i/\P.getD i 0∈S p
section
variable {S:Nat->List Nat} {r n:Nat} {P:List Nat}
theorem Ordered.lt(o:Ordered S r n P){x:Nat}(h:x∈r::P):x<n:=UX o.hS o.hr ((o.mem x).1 h)
theorem M0{i:Nat}(hi:i<P.length):P.getD i 0∈P:=by rw[Aa _ _ _ hi];exact Xi hi
theorem Ordered.at_lt(o:Ordered S r n P){i:Nat}(hi:i<P.length){p:Nat}(hp:p∈r::P.take i):pos (r::P) p<pos (r::P) (P.getD i 0):=by
 have hd:=o.nodup
 have h1:pos (r::P) (P.getD i 0)=i+1:=by
  have:=(BH hd (i:=i+1) (by simpa using hi)).2;rw[Aa _ _ _ hi]
  simpa using this
 rw[h1];obtain⟨j,hj,rfl⟩:=K6 hp
 have hj':j<i+1:=by simp at hj;omega
 have hjl:j<(r::P).length:=by simp;omega
 have e:(r::P.take i)[j]=(r::P)[j]:=by
  cases j with
  | zero=>rfl
  | succ j=>simp
 rw[e,(BH hd hjl).2];exact hj'
theorem lw(o:Ordered S r n P):Inv S r n (pos (r::P)) (Bc (Eo n r))/\(Eo n r).length=n/\Bc (Eo n r) r≠-2:=by
 have hlen:(Eo n r).length=n:=by simp[Eo]
 have hr:=o.hr
 have at_:∀ x,x<n->Bc (Eo n r) x=if x=r then -1 else -2:=λx hx=>by
  unfold Bc Eo
  by_cases e:x=r
  ·subst e;simp[List.getD,hx]
  ·simp[List.getD,hx,e,G1 e]
 have hno:∀ x,x<n->∀ p:Nat,Bc (Eo n r) x≠(p:Int):=λx hx p hp=>by rw[at_ x hx]at hp;split at hp<;>omega
 refine⟨⟨by rw[at_ r hr,if_pos rfl],λx hx=>?_,λx hx z hz=>absurd hz (hno x hx z),λx hx hp=>?_,λx hx hp d hd=>?_⟩,hlen,by rw[at_ r hr,if_pos rfl];omega⟩
 ·by_cases e:x=r
  ·exact .inr (.inl e)
  ·exact .inl (by rw[at_ x hx,if_neg e])
 ·by_cases e:x=r
  ·subst e;exact .root
  ·exact absurd (by rw[at_ x hx,if_neg e]) hp
 ·by_cases e:x=r
  ·subst e;exact .root (λe=>hd (by rw[e];exact .refl _))
  ·exact absurd (by rw[at_ x hx,if_neg e]) hp
structure Ready(S:Nat->List Nat)(r n:Nat)(P:List Nat)(t:List Int)(i:Nat):Prop where
 inv:Inv S r n (pos (r::P)) (Bc t)
 len:t.length=n
 done:∀ x∈r::P.take i,Bc t x≠-2
theorem Inv.meets{at_:Nat->Nat}{par:Nat->Int}(h:Inv S r n at_ par)(hinj:∀ x y,x<n->y<n->par x≠-2->par y≠-2->at_ x=at_ y->x=y)(hr:at_ r=0):∀ m a b,at_ a+at_ b<=m->a<n->b<n->par a≠-2->par b≠-2->∃ c,MeetAt par a b c/\c<n/\par c≠-2:=by
 intro m
 induction m with
 | zero=>
  intro a b hm ha hb hpa hpb;have:a=b:=hinj a b ha hb hpa hpb (by omega);subst this;exact⟨a,HE,ha,hpa⟩
 | succ m ih=>
  have go:∀ a b,at_ a+at_ b<=m+1->a<n->b<n->par a≠-2->par b≠-2->at_ b<=at_ a->∃ c,MeetAt par a b c/\c<n/\par c≠-2:=λa b hm ha hb hpa hpb hl=>by
   by_cases e:a=b
   ·subst e;exact⟨a,HE,ha,hpa⟩
   ·rcases h.kind a ha with h1|h1|⟨p,hp⟩
    ·exact absurd h1 hpa
    ·subst h1;exact absurd (hinj a b ha hb hpa hpb (by omega)) e
    ·obtain⟨p1,p2,p3,p4⟩:=h.up a ha p hp;obtain⟨c,hc,hc2⟩:=ih p b (by omega) p1 hb p2 hpb;exact⟨c,h.meet_left hinj ha hpa hb hpb e hl hp hc,hc2⟩
  intro a b hm ha hb hpa hpb;rcases Nat.le_total (at_ b) (at_ a) with hl|hl
  ·exact go a b hm ha hb hpa hpb hl
  ·obtain⟨c,hc,hc2⟩:=go b a (by omega) hb ha hpb hpa hl;exact⟨c,XI hc,hc2⟩
theorem Ready.inj(o:Ordered S r n P){t:List Int}{i:Nat}(h:Ready S r n P t i):∀ x y,x<n->y<n->Bc t x≠-2->Bc t y≠-2->pos (r::P) x=pos (r::P) y->x=y:=λx y hx hy hpx hpy he=>by
 have hm:∀ x,x<n->Bc t x≠-2->x∈r::P:=λx hx hp=>(o.mem x).2 (h.inv.rc x hx hp)
 have back:∀ x∈r::P,(r::P).getD (pos (r::P) x) 0=x:=λx hx=>by
  obtain⟨j,hj,rfl⟩:=K6 hx;rw[(BH o.nodup hj).2,Aa _ _ _ hj]
 rw[<- back x (hm x hx hpx),<- back y (hm y hy hpy),he]
theorem OM:pos (r::P) r=0:=by rw[DW,if_pos rfl]
theorem Ready.meetAll(o:Ordered S r n P){t:List Int}{i:Nat}(h:Ready S r n P t i):∀ l:List Nat,(∀ p∈l,p<n/\Bc t p≠-2)->l≠[]->∃ z,z<n/\Bc t z≠-2/\∀ w,UpTo (Bc t) z w↔∀ p∈l,UpTo (Bc t) p w:=by
 intro l
 induction l with
 | nil=>intro _ hn;exact absurd rfl hn
 | cons p l ih=>
  intro hl _;obtain⟨hp1,hp2⟩:=hl p (J5 ..)
  by_cases hl0:l=[]
  ·subst hl0;exact⟨p,hp1,hp2,λw=>by simp⟩
  ·obtain⟨z,hz1,hz2,hz3⟩:=ih (λq hq=>hl q (Fp _ hq)) hl0;obtain⟨c,hc1,hc2,hc3⟩:=h.inv.meets (h.inj o) OM _ p z (zzL7 _) hp1 hz1 hp2 hz2;exact⟨c,hc2,hc3,λw=>by rw[hc1 w,hz3 w];simp⟩
theorem Ready.best(o:Ordered S r n P){t:List Int}{i:Nat}(h:Ready S r n P t i)(hi:i<P.length):Better S r n (pos (r::P)) (Bc t) (P.getD i 0) (Jq S n t (P.getD i 0)):=by
 have hy:=M0 hi;have hyr:P.getD i 0≠r:=λe=>(zzL73.1 o.nodup).1 (e▸hy);have hyn:=o.lt (Fp _ hy);obtain⟨p,hp,hyp⟩:=o.fwd i hi;have hp2:=h.done p hp
 have hpP:p∈r::P:=by
  rcases zzL23.1 hp with rfl|hp
  ·exact J5 ..
  ·exact Fp _ (List.mem_of_mem_take hp)
 have hpn:=o.lt hpP
 have hex:∃ z,z<n/\QH S n (Bc t) (P.getD i 0) z:=by
  classical
  obtain⟨z,hz1,hz2,hz3⟩:=h.meetAll o ((List.range n).filter λp=>decide (P.getD i 0∈S p/\Bc t p≠-2)) (λp hp=>by
   obtain⟨h1,h2⟩:=zzL64.1 hp
   exact⟨zzL43.1 h1,(Xf h2).2⟩) (λe=>by
   have:p∈(List.range n).filter λp=>decide (P.getD i 0∈S p/\Bc t p≠-2):=zzL64.2 ⟨zzL43.2 hpn,Ek ⟨hyp,hp2⟩⟩
   rw[e]at this;cases this)
  refine⟨z,hz1,λw=>?_⟩;rw[hz3 w]
  constructor
  ·intro k p hp hyp hpp;exact k p (zzL64.2 ⟨zzL43.2 hp,Ek ⟨hyp,hpp⟩⟩)
  ·intro k p hp;obtain⟨h1,h2⟩:=zzL64.1 hp;exact k p (zzL43.1 h1) (Xf h2).1 (Xf h2).2
 have hb:Jq S n t (P.getD i 0)<n/\QH S n (Bc t) (P.getD i 0) (Jq S n t (P.getD i 0)):=by
  unfold Jq;rw[dif_pos hex];exact Classical.choose_spec hex
 exact⟨h.inv,hyn,hyr,hb.1,hb.2,p,hpn,hyp,hp2,o.at_lt hi hp⟩
theorem Ready.best_eq(o:Ordered S r n P){t:List Int}{i:Nat}(h:Ready S r n P t i)(hi:i<P.length){z:Nat}(hz:z<n)(hz2:Bc t z≠-2)(hb:QH S n (Bc t) (P.getD i 0) z):z=Jq S n t (P.getD i 0):=by
 have b:=h.best o hi;exact(h.inv.antisymm ((hb _).2 ((b.best _).1 (.refl _))) ((b.best _).2 ((hb _).1 (.refl _))) hz hz2).symm
theorem Ready.next(o:Ordered S r n P){t:List Int}{i:Nat}(h:Ready S r n P t i)(hi:i<P.length):Ready S r n P (t.set (P.getD i 0) (Jq S n t (P.getD i 0):Int)) (i+1):=by
 have b:=h.best o hi;have e:=OJ (t:=t) (y:=P.getD i 0) (v:=(Jq S n t (P.getD i 0):Int)) (by rw[h.len];exact b.hy);refine⟨by rw[e];exact b.inv',by rw[Hx];exact h.len,λx hx=>?_⟩;rw[e];unfold Kw
 split
 ·omega
 ·rename_i hne
  refine h.done x ?_;rcases zzL23.1 hx with rfl|hx
  ·exact J5 ..
  ·rw[TE hi]at hx;rcases zzL11.1 hx with hx|hx
   ·exact Fp _ hx
   ·rw[zzL15,<- Aa _ _ 0 hi]at hx;exact absurd hx hne
theorem Ready.more(o:Ordered S r n P){t:List Int}(h:Ready S r n P t P.length)(i:Nat):Ready S r n P t i:=
 ⟨h.inv,h.len,λx hx=>h.done x (by
  rw[Vt];rcases zzL23.1 hx with rfl|hx
  ·exact J5 ..
  ·exact Fp _ (List.mem_of_mem_take hx))⟩
theorem Ready.full(o:Ordered S r n P){t:List Int}(h:Ready S r n P t P.length):QI S r n (Bc t):=λx hx hr=>h.done x (by rw[Vt];exact(o.mem x).2 hr)
theorem Ready.round(o:Ordered S r n P){t:List Int}(h:Ready S r n P t 0):∀ i,i<=P.length->Ready S r n P (Ry S n P t i) i:=by
 intro i
 induction i with
 | zero=>intro _;exact h
 | succ i ih=>intro hi;exact(ih (by omega)).next o (by omega)
theorem iy(o:Ordered S r n P):Ready S r n P (Eo n r) 0:=by
 obtain⟨h1,h2,h3⟩:=lw o;exact⟨h1,h2,λx hx=>by simp at hx;subst hx;exact h3⟩
theorem Ready.rounds(o:Ordered S r n P):∀ j,Ready S r n P (BK S n P (Eo n r) j) 0:=by
 intro j
 induction j with
 | zero=>exact iy o
 | succ j ih=>exact((ih.round o) P.length (zzL7 _)).more o 0
theorem Ready.rounds'(o:Ordered S r n P)(j:Nat):Ready S r n P (BK S n P (Eo n r) (j+1)) P.length:=(Ready.rounds o j).round o P.length (zzL7 _)
theorem cO(o:Ordered S r n P){t:List Int}{k:Nat}(h:Ready S r n P t P.length)(q:QB S r n (Bc t) λ_=>k):QB S r n (Bc (Ry S n P t P.length)) λ_=>k+1:=by
 have key:∀ i,i<=P.length->QB S r n (Bc (Ry S n P t i)) (λx=>if x∈P.take i then k+1 else k)/\QI S r n (Bc (Ry S n P t i)):=by
  intro i
  induction i with
  | zero=>intro _;exact⟨by simpa [Ry] using q,h.full o⟩
  | succ i ih=>
   intro hi;obtain⟨q1,f1⟩:=ih (by omega);have rd:=(h.more o 0).round o i (by omega);have b:=rd.best o (by omega);have e:=OJ (t:=Ry S n P t i) (y:=P.getD i 0) (v:=(Jq S n (Ry S n P t i) (P.getD i 0):Int)) (by rw[rd.len];exact b.hy)
   constructor
   ·show QB S r n (Bc ((Ry S n P t i).set _ _)) _
    rw[e];have:=b.qb (k:=k) o.hS o.hr f1 (λx _=>by split<;>omega) q1;intro x hx hp z hz;refine this x hx hp z ?_
    dsimp only at hz ⊢
    rw[TE (by omega:i<P.length)]at hz
    by_cases e1:x=P.getD i 0
    ·rw[if_pos e1];rwa[if_pos (zzL11.2 (.inr (zzL15.2 (by rw[e1,Aa _ _ _ (by omega:i<P.length)]))))]at hz
    ·rw[if_neg e1]
     by_cases e2:x∈P.take i
     ·rw[if_pos e2];rwa[if_pos (zzL11.2 (.inl e2))]at hz
     ·rw[if_neg e2]
      rwa[if_neg (λhm=>by
       rcases zzL11.1 hm with hm|hm
       ·exact e2 hm
       ·rw[zzL15,<- Aa _ _ 0 (by omega:i<P.length)]at hm;exact e1 hm)]at hz
   ·show QI S r n (Bc ((Ry S n P t i).set _ _))
    rw[e];intro x hx hr;unfold Kw
    split
    ·omega
    ·exact f1 x hx hr
 have q1:=(key P.length (zzL7 _)).1;rw[Vt]at q1;have rd:=(h.more o 0).round o P.length (zzL7 _);intro x hx hp z hz;refine q1 x hx hp z ?_
 dsimp only at hz ⊢
 by_cases e:x∈P
 ·rw[if_pos e];exact hz
 ·rw[if_neg e]
  have hxr:x=r:=by
   rcases zzL23.1 ((o.mem x).2 (rd.inv.rc x hx hp)) with h1|h1
   ·exact h1
   ·exact absurd h1 e
  subst hxr;exact .root hz.av.ne k
def Rd(S:Nat->List Nat)(n:Nat)(P:List Nat)(t:List Int):Prop:=∀ i,i<P.length->Bc t (P.getD i 0)=(Jq S n t (P.getD i 0):Int)
theorem S3{t:List Int}(o:Ordered S r n P)(hl:t.length=n)(h:Rd S n P t):∀ i,i<=P.length->Ry S n P t i=t:=by
 intro i
 induction i with
 | zero=>intro _;rfl
 | succ i ih=>
  intro hi;unfold Ry;rw[ih (by omega),<- h i (by omega)]
  have hlt:P.getD i 0<t.length:=by rw[hl];exact o.lt (Fp _ (M0 (by omega)))
  unfold Bc;rw[Aa _ _ _ hlt];exact List.set_getElem_self hlt
theorem gu(o:Ordered S r n P):∃ J,(∀ j,j<J->¬ Rd S n P (BK S n P (Eo n r) j))/\Rd S n P (BK S n P (Eo n r) J):=by
 obtain⟨K,hK⟩:=WD (S:=S) (r:=r) n
 have hq:∀ k,QB S r n (Bc (BK S n P (Eo n r) (k+1))) λ_=>k:=by
  intro k
  induction k with
  | zero=>exact fU (Ready.rounds' o 0).inv
  | succ k ih=>exact cO o (Ready.rounds' o k) ih
 have hst:Rd S n P (BK S n P (Eo n r) (K+1)):=λi hi=>by
  have rd:=Ready.rounds' o K;exact((rd.more o i).best o hi).same o.hS o.hr (rd.full o) (rd.done _ (Fp _ (by rw[Vt];exact M0 hi))) (bJ rd.inv hK (hq K))
 have key:∀ m,(∃ J,J<=m/\Rd S n P (BK S n P (Eo n r) J))->∃ J,(∀ j,j<J->¬ Rd S n P (BK S n P (Eo n r) j))/\Rd S n P (BK S n P (Eo n r) J):=by
  intro m
  induction m with
  | zero=>rintro⟨J,hJ,h⟩;exact⟨J,λj hj=>by omega,h⟩
  | succ m ih=>
   rintro⟨J,hJ,h⟩
   by_cases hm:∃ J,J<=m/\Rd S n P (BK S n P (Eo n r) J)
   ·exact ih hm
   ·exact⟨J,λj hj hs=>hm ⟨j,by omega,hs⟩,h⟩
 exact key (K+1) ⟨K+1,zzL7 _,hst⟩
structure DomTree(S:Nat->List Nat)(r n:Nat)(P:List Nat)(t:List Int):Prop where
 inv:Inv S r n (pos (r::P)) (Bc t)
 len:t.length=n
 full:QI S r n (Bc t)
 exact_:TN S r n (Bc t)
theorem Zt(o:Ordered S r n P){j:Nat}(h:Rd S n P (BK S n P (Eo n r) j)):DomTree S r n P (BK S n P (Eo n r) j):=by
 have rd:=Ready.rounds o j
 have hall:Ready S r n P (BK S n P (Eo n r) j) P.length:=by
  have:=rd.round o P.length (zzL7 _);rwa[S3 o rd.len h P.length (zzL7 _)]at this
 refine⟨rd.inv,rd.len,hall.full o,WU rd.inv o.hS o.hr (hall.full o) λy hy hne hr=>?_⟩
 have hm:y∈P:=by
  rcases zzL23.1 ((o.mem y).2 hr) with h1|h1
  ·exact absurd h1 hne
  ·exact h1
 obtain⟨i,hi,rfl⟩:=K6 hm;have b:=(hall.more o i).best o hi;rw[Aa _ _ _ hi]at b;have hs:=h i hi;rw[Aa _ _ _ hi]at hs;exact⟨_,hs,b.best⟩
end
section
variable {S:Nat->List Nat} {s s':Nat->Bool} {l o:List Nat}
theorem VL.before(h:VL S s l s' o):∀ A z B,o=A++z::B->z∈l\/∃ p∈B,z∈S p:=by
 induction h with
 | nil s=>intro A z B e;simp at e
 | skip h _ ih=>
  intro A z B e;rcases ih A z B e with h1|h1
  ·exact .inl (Fp _ h1)
  ·exact .inr h1
 | @step s s1 s2 y l o1 o2 h a b iha ihb=>
  intro A z B e;rcases List.append_eq_append_iff.1 e with⟨C,hC1,hC2⟩|⟨C,hC1,hC2⟩
  ·
   cases C with
   | nil=>
    simp at hC2;obtain⟨rfl,rfl⟩:=hC2;exact .inl (J5 ..)
   | cons c C=>
    simp at hC2;obtain⟨rfl,hC2⟩:=hC2;rcases ihb C z B hC2 with h1|h1
    ·exact .inl (Fp _ h1)
    ·exact .inr h1
  ·cases C with
   | nil=>
    simp at hC2;obtain⟨rfl,rfl⟩:=hC2;exact .inl (J5 ..)
   | cons c C=>
    simp at hC2;obtain⟨rfl,rfl⟩:=hC2;rcases iha A z C hC1 with h1|⟨p,hp,hz⟩
    ·exact .inr ⟨y,by simp,h1⟩
    ·exact .inr ⟨p,by simp[hp],hz⟩
theorem Ord.ordered{n r:Nat}{L:List Nat}(hr:r<n)(hS:∀ x,x<n->∀ w∈S x,w<n)(h:Ord S r L):∃ P,L=r::P/\Ordered S r n P:=by
 have h1:=h.nodup;have h2:=h.mem;obtain⟨s',o,hv,rfl⟩:=h;refine⟨o.reverse,rfl,hr,hS,h1,λx=>by rw[h2 x,rc_iff],λi hi=>?_⟩
 have hi':i<o.length:=by simpa using hi
 have e:o.reverse=o.reverse.take i++o.reverse[i]::o.reverse.drop (i+1):=by rw[<- Mj hi,List.take_append_drop]
 have e2:o=(o.reverse.drop (i+1)).reverse++o.reverse[i]::(o.reverse.take i).reverse:=by
  have:=B5 List.reverse e;rw[List.reverse_reverse]at this;rw[List.reverse_append,List.reverse_cons]at this
  simpa using this
 rw[Aa _ _ _ hi];rcases hv.before _ _ _ e2 with h3|⟨p,hp,hz⟩
 ·exact⟨r,J5 ..,h3⟩
 ·exact⟨p,Fp _ (zzL96.1 hp),hz⟩
end
def kg(S:Nat->List Nat)(w:Int):Nat->List Nat:=λx=>(S x).filter λy=>decide ((y:Int)≠w)
theorem cu(S:Nat->List Nat):kg S (-1)=S:=by
 funext x
 unfold kg;exact List.filter_eq_self.2 λy _=>Ek (by omega)
theorem fm(S:Nat->List Nat)(z:Nat):kg S (z:Int)=wo S z:=by
 funext x
 unfold kg wo
 congr 1
 funext y
 exact zzL108.2 ⟨λh e=>h (by rw[e]),λh e=>h (U0 e)⟩
def Yn(L:List (List Int))(r:Nat)(w:Int):List Bool:=if(r:Int)=w then List.replicate L.length false else HS (kg (sN L) w) L.length ((List.replicate L.length false).set r true) L.length
theorem cP{L:List (List Int)}(hm:Lj L=true){r:Nat}(hr:r<L.length){b:Nat}:(Yn L r (-1)).getD b false=true↔Rc (sN L) r b:=by
 unfold Yn;rw[if_neg (by omega),cu,W4 (Uu hm) hr b,rc_iff]
theorem SH{L:List (List Int)}(hm:Lj L=true){r:Nat}(hr:r<L.length){a b:Nat}(hb:b<L.length):(Yn L r (a:Int)).getD b false=true↔Av (sN L) r a b:=by
 unfold Yn;rw[av_iff]
 by_cases h:r=a
 ·subst h;rw[if_pos rfl,Nh]
  simp
 ·rw[if_neg (by omega),fm,W4 (S:=wo (sN L) a) (λz hz y hy=>Uu hm z hz y (zzL64.1 hy).1) hr b];simp[h]
def Sr(L:List (List Int))(r a b:Nat):Bool:=(Yn L r (-1)).getD b false&&!(Yn L r (a:Int)).getD b false
theorem OH{L:List (List Int)}(hm:Lj L=true){r a b:Nat}(hr:r<L.length)(hb:b<L.length):Sr L r a b=true↔Rc (sN L) r b/\¬ Av (sN L) r a b:=by
 unfold Sr;rw[A2,Om,<- Bool.not_eq_true,cP hm hr,SH hm hr hb]
def NQ(L:List (List Int))(r a b:Nat):Bool:=(List.range L.length).all λc=>decide (c=b) || !Sr L r c b || Sr L r c a
def OL(L:List (List Int))(r b:Nat):Nat->Int
 | 0=>-2
 | a+1=>if a≠b/\Sr L r a b=true/\NQ L r a b=true then(a:Int) else OL L r b a
def SU(L:List (List Int))(r b:Nat):Int:=if b=r then -1 else OL L r b L.length
def Xb(L:List (List Int))(r:Nat):List Int:=(List.range L.length).map (SU L r)
theorem IB(L:List (List Int))(r:Nat):(Xb L r).length=L.length:=by simp[Xb]
theorem ck{L:List (List Int)}{r b:Nat}(hb:b<L.length):(Xb L r).getD b 0=SU L r b:=by unfold Xb;rw[Qc hb]
theorem pick_cases(L:List (List Int))(r b:Nat):∀ m,(OL L r b m = -2/\∀ a,a<m->¬ (a≠b/\Sr L r a b=true/\NQ L r a b=true))\/∃ a,a<m/\OL L r b m=(a:Int)/\a≠b/\Sr L r a b=true/\NQ L r a b=true:=by
 intro m
 induction m with
 | zero=>exact .inl ⟨rfl,λa ha=>absurd ha (Mk a)⟩
 | succ m ih=>
  unfold OL
  by_cases h:m≠b/\Sr L r m b=true/\NQ L r m b=true
  ·rw[if_pos h];exact .inr ⟨m,by omega,rfl,h⟩
  ·rw[if_neg h];rcases ih with⟨h1,h2⟩|⟨a,h1,h2⟩
   ·refine .inl ⟨h1,λa ha=>?_⟩;rcases zzL117.1 ha with h3|rfl
    ·exact h2 a h3
    ·exact h
   ·exact .inr ⟨a,by omega,h2⟩
theorem DomTree.eq{L:List (List Int)}(hm:Lj L=true){r:Nat}(hr:r<L.length){P t:List _}(o:Ordered (sN L) r L.length P)(h:DomTree (sN L) r L.length P t):t=Xb L r:=by
 refine Yy (by rw[h.len,IB]) λb h1 h2=>?_
 have hb:b<L.length:=by rw[<- h.len];exact h1
 rw[<- Aa _ _ 0 h1,<- Aa _ _ 0 h2,ck hb]
 show Bc t b=_
 have hov:∀ a b,b<L.length->Bc t b≠-2->(Sr L r a b=true↔UpTo (Bc t) b a):=λa b hb hp=>by
  rw[OH hm hr hb,h.exact_ b hb hp];exact⟨λk=>k.2,λk=>⟨h.inv.rc b hb hp,k⟩⟩
 unfold SU
 by_cases hbr:b=r
 ·subst hbr;rw[if_pos rfl];exact h.inv.top
 ·rw[if_neg hbr];rcases h.inv.kind b hb with hk|hk|⟨z,hz⟩
  ·
   have hn:¬ Rc (sN L) r b:=λk=>h.full b hb k hk;rcases pick_cases L r b L.length with⟨h3,_⟩|⟨a,_,_,_,h6,_⟩
   ·rw[hk,h3]
   ·exact absurd ((OH hm hr hb).1 h6).1 hn
  ·exact absurd hk hbr
  ·obtain⟨z1,z2,z3,z4⟩:=h.inv.up b hb z hz
   have hp:Bc t b≠-2:=by omega
   have hzo:Sr L r z b=true:=(hov z b hb hp).2 (.up hz (.refl _))
   have hzb:z≠b:=by rintro rfl;omega
   have hnear:NQ L r z b=true:=all_range.2 λc hc=>by
    by_cases e:c=b
    ·simp[e]
    ·cases ho:Sr L r c b with
     | false=>simp
     | true=>
      have:=(hov c b hb hp).1 ho;rcases(anc_up hz).1 this with h3|h3
      ·exact absurd h3 e
      ·rw[(hov c z z1 z2).2 h3];simp
   rcases pick_cases L r b L.length with⟨_,h3⟩|⟨a,h3,h4,h5,h6,h7⟩
   ·exact absurd ⟨hzb,hzo,hnear⟩ (h3 z z1)
   ·rw[h4,hz];have haU:=(hov a b hb hp).1 h6
    have ha1:UpTo (Bc t) z a:=by
     rcases(anc_up hz).1 haU with h8|h8
     ·exact absurd h8 h5
     ·exact h8
    have hap:=(h.inv.anc ha1 z1 z2).2.1
    have hza:UpTo (Bc t) a z:=by
     have:=all_range.1 h7 z z1;simp only[hzo,hzb,decide_false,Fd,EW]at this;exact(hov z a h3 hap).1 this
    rw[h.inv.antisymm ha1 hza z1 z2]
theorem e7{g:Cw}(h:X6 g=true):Lj g.Succ=true/\g=Xs g.Succ:=by
 unfold X6 at h;rw[A2]at h;refine⟨h.1,?_⟩;obtain⟨s,p⟩:=g;have:=Xf h.2;simp only at this;unfold Xs;rw[this]
section
variable {L:List (List Int)} (hm:Lj L=true) {r:Nat} (hr:r<L.length)
include hm hr
omit hr in
omit hr in
omit hm hr in
omit hm hr in
omit hm hr in
omit hr in
omit hr in
end
def PF(g:Cw)(r:Int):List Int:=if X6 g=true/\0<=r/\r<(g.Succ.length:Int) then Xb g.Succ r.toNat else[]
def upD(t:List Int):Nat->Int->Option (List Int)
 | 0,_=>none
 | k+1,a=>if 0<=a/\a<(t.length:Int) then(if t.getD a.toNat 0 = -1 then some [a] else(upD t k (t.getD a.toNat 0)).map λl=>a::l) else none
def En(t:List Int)(a:Int):List Int:=(upD t t.length a).getD []
theorem fk(t:List Int):∀ k a q,upD t k a=some q->q.length<=k/\1<=q.length:=by
 intro k
 induction k with
 | zero=>intro a q h;cases h
 | succ k ih=>
  intro a q h;unfold upD at h
  split at h
  ·split at h
   ·cases h;simp
   ·cases hu:upD t k (t.getD a.toNat 0) with
    | none=>rw[hu]at h;cases h
    | some q'=>rw[hu]at h;cases h;have:=ih _ _ hu;simp;omega
  ·cases h
theorem pathD_nil{t:List Int}{a:Int}:En t a=[]↔upD t t.length a=none:=by
 unfold En
 cases h:upD t t.length a with
 | none=>simp
 | some q=>have:=(fk t _ _ _ h).2;simp;intro e;subst e;simp at this
def Xa(t:List Int)(k:Nat):Nat:=((List.range k).filter λa=>decide (t.getD a 0 = -1)).length
def lJ(t:List Int)(a:Nat):Bool:=decide (t.getD a 0 = -2) || !decide (En t (a:Int)=[])
def Im(t:List Int):Bool:=(List.range t.length).all (lJ t)&&decide (Xa t t.length=1)
theorem EN(t:List Int)(k:Nat):Xa t (k+1)=Xa t k+if t.getD k 0 = -1 then 1 else 0:=by
 unfold Xa;rw[Y1,LD,E5]
 by_cases h:t.getD k 0 = -1
 ·rw[if_pos h]
  have:List.filter (λa=>decide (t.getD a 0 = -1)) [k]=[k]:=by rw[List.filter_cons,if_pos (Ek h)];rfl
  rw[this];rfl
 ·rw[if_neg h]
  have:List.filter (λa=>decide (t.getD a 0 = -1)) [k]=[]:=by rw[List.filter_cons,if_neg (by simpa using h)];rfl
  rw[this];rfl
def Lw(t:List Int)(a b:Int):Int:=if Im t=true then((En t a).find? λx=>(En t b).contains x).getD (-2) else -2
def Nf(t:List Int)(a b:Int):Bool:=Lw t a b==a&&Lw t a b !=-2
section
variable {S:Nat->List Nat} {r n:Nat} {P:List Nat} {t:List Int}
theorem DomTree.up(h:DomTree S r n P t):∀ k x,x<n->Bc t x≠-2->pos (r::P) x<k->∃ q,upD t k (x:Int)=some q/\(∀ w:Int,w∈q↔∃ z:Nat,w=(z:Int)/\UpTo (Bc t) x z) /\
  ∀ p:Int->Bool,(q.find? p=none/\∀ z:Nat,UpTo (Bc t) x z->p (z:Int)=false)\/∃ f:Nat,q.find? p=some (f:Int)/\UpTo (Bc t) x f/\p (f:Int)=true/\∀ z:Nat,UpTo (Bc t) x z->p (z:Int)=true->UpTo (Bc t) f z:=by
 intro k
 induction k with
 | zero=>intro x _ _ hk;exact absurd hk (Mk _)
 | succ k ih=>
  intro x hx hp hk
  have hxt:(0:Int)<=(x:Int)/\(x:Int)<(t.length:Int):=by rw[h.len];omega
  unfold upD;rw[if_pos hxt,A4];have hpx:t.getD x 0=Bc t x:=rfl;rw[hpx];rcases h.inv.kind x hx with h1|rfl|⟨z,hz⟩
  ·exact absurd h1 hp
  ·rw[if_pos h.inv.top];refine⟨_,rfl,λw=>?_,λp=>?_⟩
   ·rw[zzL15]
    constructor
    ·rintro rfl;exact⟨x,rfl,.refl _⟩
    ·rintro⟨z,rfl,hz⟩;rw[h.inv.root_anc.1 hz]
   ·cases hpp:p (x:Int) with
    | false=>exact .inl ⟨by simp[List.find?,hpp],λz hz=>by rw[h.inv.root_anc.1 hz];exact hpp⟩
    | true=>exact .inr ⟨x,by simp[List.find?,hpp],.refl _,hpp,λz hz _=>hz⟩
  ·obtain⟨z1,z2,z3,z4⟩:=h.inv.up x hx z hz;rw[hz,if_neg (by omega)];obtain⟨q,hq1,hq2,hq3⟩:=ih z z1 z2 (by omega);rw[hq1];refine⟨(x:Int)::q,rfl,λw=>?_,λp=>?_⟩
   ·rw[zzL23,hq2 w]
    constructor
    ·rintro(rfl|⟨y,rfl,hy⟩)
     ·exact⟨x,rfl,.refl _⟩
     ·exact⟨y,rfl,.up hz hy⟩
    ·rintro⟨y,rfl,hy⟩;rcases(anc_up hz).1 hy with rfl|hy
     ·exact .inl rfl
     ·exact .inr ⟨y,rfl,hy⟩
   ·cases hpp:p (x:Int) with
    | true=>exact .inr ⟨x,by simp[List.find?,hpp],.refl _,hpp,λy hy _=>hy⟩
    | false=>
     have hf:((x:Int)::q).find? p=q.find? p:=by simp[List.find?,hpp]
     rw[hf];rcases hq3 p with⟨e1,e2⟩|⟨f,e1,e2,e3,e4⟩
     ·refine .inl ⟨e1,λy hy=>?_⟩;rcases(anc_up hz).1 hy with rfl|hy
      ·exact hpp
      ·exact e2 y hy
     ·refine .inr ⟨f,e1,.up hz e2,e3,λy hy hpy=>?_⟩;rcases(anc_up hz).1 hy with rfl|hy
      ·rw[hpp]at hpy;cases hpy
      ·exact e4 y hy hpy
theorem Ordered.pos_lt(o:Ordered S r n P){x:Nat}(hx:x∈r::P):pos (r::P) x<n:=by
 obtain⟨j,hj,rfl⟩:=K6 hx;rw[(BH o.nodup hj).2];have:=Lk n (r::P) o.nodup λy hy=>o.lt hy;omega
theorem DomTree.path(h:DomTree S r n P t)(o:Ordered S r n P){x:Nat}(hx:x<n)(hp:Bc t x≠-2):En t (x:Int)≠[]/\(∀ w:Int,w∈En t (x:Int)↔∃ z:Nat,w=(z:Int)/\UpTo (Bc t) x z) /\
  ∀ p:Int->Bool,((En t (x:Int)).find? p=none/\∀ z:Nat,UpTo (Bc t) x z->p (z:Int)=false)\/∃ f:Nat,(En t (x:Int)).find? p=some (f:Int)/\UpTo (Bc t) x f/\p (f:Int)=true/\∀ z:Nat,UpTo (Bc t) x z->p (z:Int)=true->UpTo (Bc t) f z:=by
 have hm:=(o.mem x).2 (h.inv.rc x hx hp);obtain⟨q,h1,h2,h3⟩:=h.up n x hx hp (o.pos_lt hm)
 have e:En t (x:Int)=q:=by unfold En;rw[h.len,h1];rfl
 rw[e];refine⟨λe=>?_,h2,h3⟩;have:=(h2 (x:Int)).2 ⟨x,rfl,.refl _⟩;rw[e]at this
 cases this
theorem DomTree.nopath(h:DomTree S r n P t){x:Nat}(hx:x<n)(hp:Bc t x = -2):En t (x:Int)=[]:=by
 rw[pathD_nil]
 cases hl:t.length with
 | zero=>rfl
 | succ k=>
  unfold upD;rw[if_pos ⟨by omega,by rw[h.len];omega⟩,A4,show t.getD x 0=Bc t x from rfl,hp,if_neg (by omega)]
  cases k with
  | zero=>rfl
  | succ k=>unfold upD;rw[if_neg (by omega)];rfl
theorem DomTree.right(h:DomTree S r n P t)(o:Ordered S r n P):Im t=true:=by
 unfold Im;rw[A2]
 constructor
 ·refine all_range.2 λx hx=>?_;rw[h.len]at hx;unfold lJ
  by_cases hp:Bc t x = -2
  ·rw[show t.getD x 0=Bc t x from rfl,hp];rfl
  ·rw[Fc (h.path o hx hp).1];simp
 ·apply Ek
  have key:∀ k,k<=n->Xa t k=if r<k then 1 else 0:=by
   intro k
   induction k with
   | zero=>intro _;rfl
   | succ k ih=>
    intro hk;rw[EN,ih (by omega)]
    have hr:t.getD k 0 = -1↔k=r:=by
     constructor
     ·intro he;rcases h.inv.kind k (by omega) with h1|h1|⟨z,hz⟩
      ·rw[show t.getD k 0=Bc t k from rfl,h1]at he;omega
      ·exact h1
      ·rw[show t.getD k 0=Bc t k from rfl,hz]at he;omega
     ·rintro rfl;exact h.inv.top
    by_cases hkr:k=r
    ·subst hkr;rw[if_neg (by omega),if_pos (hr.2 rfl),if_pos (by omega)]
    ·rw[if_neg (λe=>hkr (hr.1 e))]
     by_cases h2:r<k
     ·rw[if_pos h2,if_pos (by omega)]
     ·rw[if_neg h2,if_neg (by omega)]
  rw[h.len,key n (zzL7 _),if_pos o.hr]
theorem DomTree.meet(h:DomTree S r n P t)(o:Ordered S r n P){a b:Nat}(ha:a<n)(hb:b<n)(hpa:Bc t a≠-2)(hpb:Bc t b≠-2):∃ m:Nat,Lw t (a:Int) (b:Int)=(m:Int)/\MeetAt (Bc t) a b m/\m<n/\Bc t m≠-2:=by
 have rd:Ready S r n P t P.length:=⟨h.inv,h.len,λx hx=>by rw[Vt]at hx;exact h.full x (o.lt hx) ((o.mem x).1 hx)⟩;obtain⟨c,hc1,hc2,hc3⟩:=h.inv.meets (rd.inj o) OM _ a b (zzL7 _) ha hb hpa hpb;refine⟨c,?_,hc1,hc2,hc3⟩;unfold Lw;rw[if_pos (h.right o)];obtain⟨hca,hcb⟩:=(hc1 c).1 (.refl _)
 have hin:∀ z:Nat,(En t (b:Int)).contains (z:Int)=true↔UpTo (Bc t) b z:=λz=>by
  rw[EY,(h.path o hb hpb).2.1]
  constructor
  ·rintro⟨y,hy,hu⟩;cases U0 hy;exact hu
  ·intro hu;exact⟨z,rfl,hu⟩
 rcases(h.path o ha hpa).2.2 λx=>(En t (b:Int)).contains x with⟨_,h2⟩|⟨f,h1,h2,h3,h4⟩
 ·have:=h2 c hca;rw[(hin c).2 hcb]at this
  cases this
 ·rw[h1];have hfc:=h4 c hca ((hin c).2 hcb);have hcf:=(hc1 f).2 ⟨h2,(hin f).1 h3⟩;rw[h.inv.antisymm hcf hfc hc2 hc3]
  rfl
theorem DomTree.meet_none(h:DomTree S r n P t)(o:Ordered S r n P){a b:Nat}(ha:a<n)(hb:b<n)(hp:Bc t a = -2\/Bc t b = -2):Lw t (a:Int) (b:Int) = -2:=by
 unfold Lw;rw[if_pos (h.right o)];rcases hp with hp|hp
 ·rw[h.nopath ha hp];rfl
 ·rw[h.nopath hb hp]
  have:(En t (a:Int)).find? (λx=>([]:List Int).contains x)=none:=List.find?_eq_none.2 λx _=>by simp
  rw[this];rfl
theorem DomTree.over(h:DomTree S r n P t)(o:Ordered S r n P){a b:Nat}(ha:a<n)(hb:b<n):Nf t (a:Int) (b:Int)=true↔Bc t b≠-2/\UpTo (Bc t) b a:=by
 unfold Nf;rw[A2,zzL70,zzL93]
 by_cases hpa:Bc t a = -2
 ·rw[h.meet_none o ha hb (.inl hpa)]
  constructor
  ·rintro⟨h1,_⟩;omega
  ·rintro⟨h1,h2⟩;exact absurd hpa (h.inv.anc h2 hb h1).2.1
 ·by_cases hpb:Bc t b = -2
  ·rw[h.meet_none o ha hb (.inr hpb)]
   constructor
   ·rintro⟨h1,_⟩;omega
   ·rintro⟨h1,_⟩;exact absurd hpb h1
  ·obtain⟨m,hm1,hm2,hm3,hm4⟩:=h.meet o ha hb hpa hpb;rw[hm1]
   constructor
   ·rintro⟨h1,_⟩;have h1:=U0 h1;subst h1;exact⟨hpb,((hm2 _).1 (.refl _)).2⟩
   ·rintro⟨_,h2⟩;have:=(hm2 a).2 ⟨.refl _,h2⟩;have h3:=((hm2 m).1 (.refl _)).1;rw[h.inv.antisymm h3 this ha hpa];exact⟨rfl,by omega⟩
theorem DomTree.over_dom(h:DomTree S r n P t)(o:Ordered S r n P){a b:Nat}(ha:a<n)(hb:b<n):Nf t (a:Int) (b:Int)=true↔Rc S r b/\¬ Av S r a b:=by
 rw[h.over o ha hb]
 constructor
 ·rintro⟨h1,h2⟩;exact⟨h.inv.rc b hb h1,(h.exact_ b hb h1 a).1 h2⟩
 ·rintro⟨h1,h2⟩;have:=h.full b hb h1;exact⟨this,(h.exact_ b hb this a).2 h2⟩
end
section
variable {L:List (List Int)} (hm:Lj L=true) {r:Nat} (hr:r<L.length)
include hm hr
theorem YC:∃ P,Ord (sN L) r (r::P)/\Ordered (sN L) r L.length P/\DomTree (sN L) r L.length P (Xb L r):=by
 obtain⟨O,hO⟩:=Ord.exist (Uu hm) hr;obtain⟨P,rfl,o⟩:=hO.ordered hr (Uu hm);obtain⟨J,_,hJ⟩:=gu o;have hd:=Zt o hJ;refine⟨P,hO,o,?_⟩;rw[<- hd.eq hm hr o];exact hd
end
theorem XB{X:Type}(n:Nat)(p:Nat->Bool)(f:Int->Option (LR Int X))(yes no:X)(hn:∀ i:Nat,i<n->p i=true->f (i:Int)=some (.next ((i:Int)+1)))
  (hf:∀ i:Nat,i<n->p i=false->f (i:Int)=some (.done no)) (he:f (n:Int)=some (.done yes)):Ai f (0:Int)=some (bif (List.range n).all p then yes else no):=by
 have hg:∀ i,i<(List.range n).length->(List.range n).getD i 0=i:=λi hi=>by rw[Aa _ _ _ hi];simp
 have:=Sg (List.range n) 0 p f yes no (λi hi hp=>by rw[hg i hi]at hp;exact hn i (by simpa using hi) hp) (λi hi hp=>by rw[hg i hi]at hp;exact hf i (by simpa using hi) hp) (by simpa using he) n 0 (by simp);rw[show(0:Int)=((0:Nat):Int) from rfl,this,Ky]
theorem ZT{n:Nat}{p:Nat->Bool}(h:(List.range n).all p=true):∀ i,i<n->p i=true:=λi hi=>zzL27.1 h i (by simpa using hi)
def Qt(L:List (List Int)):List Bool:=HS (sN L) L.length ((List.replicate L.length false).set 0 true) L.length
def G8(l:List Int)(p:Hc):Bool:=decide (p.From=l)&&((p.Args.length:Int)==(l.length:Int))
def P2(L:List (List Int))(b:Am)(i:Nat):Bool:=(Qt L).getD i false&&!((b.End.Kind==1 || b.End.Kind==3)&&(b.End.Arg !=0))&&b.Phis.all (G8 ((E9 L).getD i []))
def F6(f:Ab):Bool:=Nk f&&(List.range f.Blocks.length).all λi=>P2 (Ej f) (f.Blocks.getD i default) i
theorem W7(f:Ab):(Ej f).length=f.Blocks.length:=by simp[Ej]
theorem YA{f:Ab}(h:F6 f=true):fQ f:=λb hb p hp=>by
 simp only[F6,A2]at h;obtain⟨i,hi,rfl⟩:=K6 hb;have h1:=ZT h.2 i hi;rw[Aa _ _ _ hi]at h1;simp only[P2,A2]at h1;have h2:=zzL27.1 h1.2 p hp;simp only[G8,A2,Dr,zzL70]at h2;rw[h2.1];omega
def Ks(l:List TDef)(i:Nat):Bool:=valS (l.getD i default).V&&(H9 l (l.getD i default).V==(i:Int))
def Kt(l:List TDef)(u:Mm):Bool:=!decide (H9 l u.V<0)
def defOf(l:List TDef)(v:Int):TDef:=l.getD (H9 l v).toNat default
def Ws(l:List TDef)(u:Mm):Bool:=((defOf l u.V).Shape.1==u.Shape.1)&&(((defOf l u.V).Shape.2==u.Shape.2)&&true)
def Up(l:List TDef)(t:List Int)(u:Mm):Bool:=
 (decide ((defOf l u.V).Block<0) || ((defOf l u.V).Block==u.Block&&decide ((defOf l u.V).At<u.At))) || (!((defOf l u.V).Block==u.Block)&&!(Lw t (defOf l u.V).Block u.Block !=(defOf l u.V).Block))
def Bx(f:Ab):List Int:=PF (Xs (Ej f)) 0
def KZ(f:Ab)(l:Int):Int:=
 bif !F6 f then 5 else bif !S4 f l then 6 else bif !(List.range (Au f).length).all (Ks (Au f)) then 7 else bif !(Ee f).all (Kt (Au f)) then 7 else
 bif !(Ee f).all (Ws (Au f)) then 6 else bif !(Ee f).all (Up (Au f) (Bx f)) then 7 else 0
def Gv(f:Ab)(l:Int):Int:=bif decide (l<0) || decide (2<l) then 1 else bif !Ub f then 4 else KZ f l
theorem MT{l:List TDef}{v:Int}(h:¬ H9 l v<0):B6 (H9 l v) l.length:=by
 unfold H9 at h ⊢
 cases hx:l.findIdx? (λd=>d.V==v) with
 | none=>rw[hx]at h;exact absurd (by decide) h
 | some i=>
  obtain⟨hi,_⟩:=List.findIdx?_eq_some_iff_getElem.1 hx;exact Bb hi
theorem cl{f:Ab}(h:Nk f=true):(Bx f).length<=1000:=by
 have h1:=(X7 (Sv h)).1;unfold Bx PF
 split
 ·rw[IB];show(Ej f).length<=1000;omega
 ·simp
def grow(n d:Int):Int:=bif decide (n<d) then d else n
def Sm(f:Ab):Prop:=dX f/\Dn f=some true
theorem kY{f:Ab}(h:Sm f)(hm:Ub f=true):OkF f:=by
 obtain⟨sm,h1,h2⟩:=PA f h.1;rw[h.2]at h1;exact(h2 (OI h1).symm hm).1
structure ZH(f:Ab)(s:List (Int×(Int×Int))):Prop where
 none:Gv f 2≠0->s.length=0
 len:Gv f 2=0->s.length=(Au f).length
 get:Gv f 2=0->∀ d∈Au f,mget ((0:Int),(0:Int)) s d.V=d.Shape
 has:Gv f 2=0->∀ v,Bv s v=true->∃ d∈Au f,d.V=v
theorem kX{f:Ab}(hf:dX f)(h0:f.Params.length<=64)(hb:∀ b∈f.Blocks,b.End.To.length<=64/\(∀ p∈b.Phis,p.From.length<=64/\p.Args.length<=64)/\∀ o∈b.Ops,o.Args.length<=64)(he:WR f<=20000):Sm f:=
 ⟨hf,by rw[OZ f hf h0 hb,Ek he]⟩
def HT(f:Ab):Int:=
 bif !(List.range (Au f).length).all (Ks (Au f)) then 7 else bif !(Ee f).all (Kt (Au f)) then 7 else
 bif !(Ee f).all (Ws (Au f)) then 6 else bif !(Ee f).all (Up (Au f) (Bx f)) then 7 else 0
theorem Vc{f:Ab}{l:Int}(h0:0<=l)(h2:l<=2):Gv f l=0↔Ub f=true/\F6 f=true/\S4 f l=true/\HT f=0:=by
 unfold Gv KZ;rw[Fc (show ¬ l<0 by omega),Fc (show ¬ 2<l by omega)]
 show _↔_/\_/\_/\HT f=0
 have e:(bif !(List.range (Au f).length).all (Ks (Au f)) then(7:Int) else bif !(Ee f).all (Kt (Au f)) then 7 else
  bif !(Ee f).all (Ws (Au f)) then 6 else bif !(Ee f).all (Up (Au f) (Bx f)) then 7 else 0)=HT f:=rfl
 rw[e]
 cases Ub f<;>cases F6 f<;>cases S4 f l<;>simp
theorem bc{o:Ds}(h:I8 o=true):1<=o.Lanes:=by
 simp only[I8,A2]at h;have:=Ok h.1.1;omega
theorem fi{α:Type}(l:List α)(g:α->Nat):(l.map λa=>g a+1).sum=l.length+(l.map g).sum:=by
 induction l with
 | nil=>rfl
 | cons a l ih=>simp only[Bq,U1,ih,On];omega
theorem cp(a b:Int):Bh (a+Bh b)=Bh (a+b):=by rw[Int.add_comm,VE,Int.add_comm]
theorem kh(f:Ab)(hf:dX f):N8 f=some (sizeW f):=by
 have hl:=HC f.Blocks (default:Am) (λb=>b.Phis.length+b.Ops.length) id (Ki f) (λn i hi=>?_) (λn=>?_) f.Blocks.length 0 f.Blocks.length (Fq _)
 ·unfold N8;rw[BN (by have:=hf.blocks;rw[H0]at this;omega),show((0:Nat):Int)=0 from rfl]at hl;rw[hl,As,Ky,sizeW,Pn,show(sizeB:Am->Nat)=(λb=>(b.Phis.length+b.Ops.length)+1) from rfl,fi]
  rfl
 ·have e1:decide ((i:Int)<(f.Blocks.length:Int))=true:=Ek (by omega);unfold Ki;simp only[e1,Ae,Aq (Bb hi),Dg,Ip hi hf.blocks,cp,VE];rw[show(n:Int)+(((f.Blocks.getD i default).Phis.length:Int)+((f.Blocks.getD i default).Ops.length:Int))=((n+((f.Blocks.getD i default).Phis.length+(f.Blocks.getD i default).Ops.length):Nat):Int) by omega]
 ·have e1:decide ((f.Blocks.length:Int)<(f.Blocks.length:Int))=false:=by simp
  unfold Ki;simp only[e1,Ay,id]
theorem V2{α:Type}(l:List α)(d:α)(p:α->Bool)(f:Int->Option (LR Int (Unit ⊕ Bool)))(hn:∀ i:Nat,i<l.length->f i=bif p (l.getD i d) then some (.next ((i:Int)+1)) else some (.done (.inr false)))
  (he:f l.length=some (.done (.inl ()))):Ai f 0=some (bif l.all p then .inl () else .inr false):=by
 have:=Sg l d p f (.inl ()) (.inr false) (λi hi hp=>by rw[hn i hi,hp];rfl) (λi hi hp=>by rw[hn i hi,hp];rfl) he l.length 0 (Fq _)
 simpa using this
theorem XK(x:Int):(bif decide (x<0) then true else decide (2147483647<x)) = !numB x:=by
 unfold numB
 by_cases h1:x<0
 ·have:¬ 0<=x:=by omega
  simp[h1,this]
 ·by_cases h2:2147483647<x
  ·have:¬ x<=2147483647:=by omega
   simp[h1,h2,this]
  ·have h3:0<=x:=by omega
   have h4:x<=2147483647:=by omega
   simp[h1,h2,h3,h4]
theorem IE(l:List Int)(h:l.length<=maxLen):Cu l=some (l.all numB):=by
 have hl:=V2 l 0 numB (Gl l) (λi hi=>?_) ?_
 ·unfold Cu;rw[hl]
  cases l.all numB<;>rfl
 ·have e1:decide ((i:Int)<(l.length:Int))=true:=Ek (by omega);unfold Gl;simp only[e1,Ae,Aq (Bb hi),Dg,XK,Ip hi h]
  cases numB (l.getD i 0)<;>simp
 ·unfold Gl
  simp
theorem T7(l:List Int)(h:l.length<=maxLen):E6 l=some (Lv l):=by
 unfold E6;rw[IE l h]
 by_cases h1:l.length<=64
 ·have e1:decide ((l.length:Int)<=64)=true:=Ek (by omega);rw[e1];simp[Lv,h1]
 ·have e1:decide ((l.length:Int)<=64)=false:=Fc (by omega);rw[e1];simp[Lv,h1]
theorem T4{l:List Int}(h:l.length<=10):l.length<=maxLen:=by rw[H0];omega
theorem cz(p:Hc)(h1:p.From.length<=maxLen)(h2:p.Args.length<=maxLen):Kk p=some (FW p):=by
 unfold Kk FW;rw[IE _ (T4 (by simp)),T7 _ h1,T7 _ h2];simp only[Rm,List.all_nil,Y2]
 cases numB p.Bits<;>cases numB p.Dst<;>cases Lv p.From<;>cases Lv p.Args<;>rfl
theorem fo(o:Ds)(h1:o.Args.length<=maxLen):Lp o=some (cF o):=by
 unfold Lp cF;rw[IE _ (T4 (by simp)),T7 _ h1];simp only[Rm,List.all_nil,Y2]
 cases numB o.Kind<;>cases numB o.Bits<;>cases numB o.Lanes<;>cases numB o.Dst<;>cases Lv o.Args<;>rfl
theorem cx(e:Jb)(h1:e.To.length<=maxLen):Kj e=some (WP e):=by
 unfold Kj WP;rw[IE _ (T4 (by simp)),T7 _ h1];simp only[Rm,List.all_nil,Y2]
 cases numB e.Kind<;>cases numB e.Arg<;>cases Lv e.To<;>rfl
theorem DD{X:Type}(b:Bool)(x y:X):(bif !b then x else y)=bif b then y else x:=by cases b<;>rfl
theorem YF(l:List Hc)(hl:l.length<=maxLen)(h:∀ p∈l,p.From.length<=maxLen/\p.Args.length<=maxLen):F4 l=some (l.all FW):=by
 have hl':=V2 l (default:Hc) FW (Et l) (λi hi=>?_) ?_
 ·unfold F4;rw[hl']
  cases l.all FW<;>rfl
 ·have e1:decide ((i:Int)<(l.length:Int))=true:=Ek (by omega);have:=h _ (getD_mem (d:=(default:Hc)) hi);unfold Et;simp only[e1,Ae,Aq (Bb hi),Dg,cz _ this.1 this.2,As,DD,Ip hi hl,Int.natCast_add,Int.natCast_one]
 ·unfold Et
  simp
theorem cy(l:List Ds)(hl:l.length<=maxLen)(h:∀ o∈l,o.Args.length<=maxLen):Gk l=some (l.all cF):=by
 have hl':=V2 l (default:Ds) cF (E3 l) (λi hi=>?_) ?_
 ·unfold Gk;rw[hl']
  cases l.all cF<;>rfl
 ·have e1:decide ((i:Int)<(l.length:Int))=true:=Ek (by omega);have:=h _ (getD_mem (d:=(default:Ds)) hi);unfold E3;simp only[e1,Ae,Aq (Bb hi),Dg,fo _ this,As,DD,Ip hi hl,Int.natCast_add,Int.natCast_one]
 ·unfold E3
  simp
theorem SX(b:Am)(h1:b.Phis.length<=maxLen)(h2:b.Ops.length<=maxLen)(h3:b.End.To.length<=maxLen)(h4:∀ p∈b.Phis,p.From.length<=maxLen/\p.Args.length<=maxLen)(h5:∀ o∈b.Ops,o.Args.length<=maxLen):Ix b=some (blockB b):=by
 unfold Ix blockB;rw[YF _ h1 h4,cy _ h2 h5,cx _ h3]
 cases b.Phis.all FW<;>cases b.Ops.all cF<;>cases WP b.End<;>rfl
theorem PK(f:Ab)(hf:dX f):E2 f.Blocks=some (f.Blocks.all blockB):=by
 have hl':=V2 f.Blocks (default:Am) blockB (D3 f.Blocks) (λi hi=>?_) ?_
 ·unfold E2;rw[hl']
  cases f.Blocks.all blockB<;>rfl
 ·have e1:decide ((i:Int)<(f.Blocks.length:Int))=true:=Ek (by omega);have hm:=getD_mem (d:=(default:Am)) hi;have q:=hf.block _ hm;unfold D3;simp only[e1,Ae,Aq (Bb hi),Dg,SX _ q.1 q.2.1 q.2.2 (hf.phi _ hm) (λo ho=>(hf.op _ hm o ho).1),As,DD,Ip hi hf.blocks,Int.natCast_add,Int.natCast_one]
 ·unfold D3
  simp
theorem mE(f:Ab)(hf:dX f):Qg f=some (Ub f):=by
 unfold Qg Ub;rw[kh f hf,IE _ hf.params,IE _ (T4 (by simp)),PK f hf];simp only[Rm,List.all_nil,Y2,Lv]
 have d1:∀ n:Nat,decide ((n:Int)<1) = !decide (1<=n):=λn=>by by_cases h:1<=n<;>simp[h]<;>omega
 have d2:∀ n:Nat,decide ((64:Int)<(n:Int)) = !decide (n<=64):=λn=>by by_cases h:n<=64<;>simp[h]<;>omega
 have d3:∀ n:Nat,decide ((16:Int)<(n:Int)) = !decide (n<=16):=λn=>by by_cases h:n<=16<;>simp[h]<;>omega
 have d4:∀ n:Int,decide ((512:Int)<n) = !decide (n<=512):=λn=>by by_cases h:n<=512<;>simp[h]<;>omega
 simp only[d1,d2,d3,d4]
 have himp:decide (f.Params.length<=16)=true->decide (f.Params.length<=64)=true:=λh=>by simp at h ⊢;omega
 revert himp
 generalize decide (1<=f.Blocks.length)=c1
 generalize decide (f.Blocks.length<=64)=c2
 generalize decide (f.Params.length<=16)=c3
 generalize decide (f.Params.length<=64)=c4
 generalize f.Params.all numB=c6
 generalize numB f.Ret=c7
 generalize f.Blocks.all blockB=c8
 cases c3 with
 | true=>
  intro h;obtain rfl:=h rfl;simp only[Fd,Ps,Ae,As,Ay]
  generalize decide (sizeW f<=512)=c5
  cases c1<;>cases c2<;>cases c6<;>cases c7<;>cases c8<;>cases c5<;>rfl
 | false=>
  intro _
  cases c1<;>cases c2<;>rfl
inductive Tp (t:List Int):Nat->Nat->Nat->Prop
 | top {x:Nat} (hx:x<t.length) (h:t.getD x 0 = -1):Tp t x x 0
 | up {x y r k:Nat} (hx:x<t.length) (h:t.getD x 0=(y:Int)) (hk:Tp t y r k):Tp t x r (k+1)
section
variable {t:List Int}
theorem Tp.lt{x r k:Nat}(h:Tp t x r k):x<t.length:=by cases h<;>assumption
theorem Tp.tops{x r k:Nat}(h:Tp t x r k):r<t.length/\t.getD r 0 = -1:=by
 induction h with
 | top hx h=>exact⟨hx,h⟩
 | up _ _ _ ih=>exact ih
theorem Tp.det{x r k r' k':Nat}(h:Tp t x r k)(h':Tp t x r' k'):r=r'/\k=k':=by
 induction h generalizing k' with
 | top hx h=>cases h' with
  | top=>exact⟨rfl,rfl⟩
  | up _ h2 _=>omega
 | up hx h1 _ ih=>cases h' with
  | top _ h2=>omega
  | up _ h2 k2=>
   have:_=_:=h1.symm.trans h2
   cases U0 this
   obtain⟨e1,e2⟩:=ih k2;exact⟨e1,by omega⟩
theorem Tp.upTo{x r k:Nat}(h:Tp t x r k):UpTo (Bc t) x r:=by
 induction h with
 | top=>exact .refl _
 | up _ h _ ih=>exact .up h ih
theorem Tp.on{x r k z:Nat}(h:Tp t x r k)(hz:UpTo (Bc t) x z):∃ j,j<=k/\Tp t z r j/\(j=k->z=x):=by
 induction hz generalizing k with
 | refl x=>exact⟨k,zzL7 _,h,λ_=>rfl⟩
 | up hp _ ih=>
  cases h with
  | top _ h2=>have:_=_:=hp.symm.trans h2;omega
  | up _ h2 k2=>
   have:_=_:=hp.symm.trans h2
   cases U0 this
   obtain⟨j,h1,h3,_⟩:=ih k2;exact⟨j,by omega,h3,λe=>by omega⟩
theorem Tp.anti{x r k z:Nat}(h:Tp t x r k)(h1:UpTo (Bc t) x z)(h2:UpTo (Bc t) z x):z=x:=by
 obtain⟨j,j1,j2,j3⟩:=h.on h1;obtain⟨i,i1,i2,i3⟩:=j2.on h2;have:=h.det i2;exact j3 (by omega)
theorem Tp.list{x r k:Nat}(h:Tp t x r k):∃ l:List Nat,l.length=k+1/\l.Nodup/\∀ y∈l,y<t.length/\∃ j,j<=k/\Tp t y r j:=by
 induction h with
 | top hx h=>exact⟨[_],rfl,by simp,λy hy=>by rw[zzL15.1 hy];exact⟨hx,0,zzL7 _,.top hx h⟩⟩
 | @up x y r k hx h hk ih=>
  obtain⟨l,h1,h2,h3⟩:=ih;refine⟨x::l,by simp[h1],zzL73.2 ⟨λhm=>?_,h2⟩,λz hz=>?_⟩
  ·obtain⟨_,j,hj,hj2⟩:=h3 _ hm;have:=(Tp.up hx h hk).det hj2;omega
  ·rcases zzL23.1 hz with rfl|hz
   ·exact⟨hx,k+1,zzL7 _,.up hx h hk⟩
   ·obtain⟨e1,j,e2,e3⟩:=h3 z hz;exact⟨e1,j,by omega,e3⟩
theorem Tp.short{x r k:Nat}(h:Tp t x r k):k<t.length:=by
 obtain⟨l,h1,h2,h3⟩:=h.list;have:=Lk t.length l h2 λy hy=>(h3 y hy).1;omega
theorem Tp.upD{x r k:Nat}(h:Tp t x r k):∀ m,k<m->∃ q,upD t m (x:Int)=some q/\(∀ w:Int,w∈q↔∃ z:Nat,w=(z:Int)/\UpTo (Bc t) x z) /\
  ∀ p:Int->Bool,(q.find? p=none/\∀ z:Nat,UpTo (Bc t) x z->p (z:Int)=false)\/∃ f:Nat,q.find? p=some (f:Int)/\UpTo (Bc t) x f/\p (f:Int)=true/\∀ z:Nat,UpTo (Bc t) x z->p (z:Int)=true->UpTo (Bc t) f z:=by
 induction h with
 | @top x hx h=>
  intro m hm;obtain⟨m,rfl⟩:∃ i,m=i+1:=⟨m-1,by omega⟩
  have htop:∀ z,UpTo (Bc t) x z↔z=x:=λz=>AS λp hp=>by have:_=_:=hp.symm.trans h;omega
  unfold Go.Proofs.YtiendmljhgbjoaaGreat.upD;rw[if_pos ⟨by omega,by omega⟩,A4,if_pos h];refine⟨_,rfl,λw=>?_,λp=>?_⟩
  ·rw[zzL15]
   constructor
   ·rintro rfl;exact⟨x,rfl,.refl _⟩
   ·rintro⟨z,rfl,hz⟩;rw[(htop z).1 hz]
  ·cases hpp:p (x:Int) with
   | false=>exact .inl ⟨by simp[List.find?,hpp],λz hz=>by rw[(htop z).1 hz];exact hpp⟩
   | true=>exact .inr ⟨x,by simp[List.find?,hpp],.refl _,hpp,λz hz _=>hz⟩
 | @up x y r k hx h hk ih=>
  intro m hm;obtain⟨m,rfl⟩:∃ i,m=i+1:=⟨m-1,by omega⟩;unfold Go.Proofs.YtiendmljhgbjoaaGreat.upD;rw[if_pos ⟨by omega,by omega⟩,A4,if_neg (by omega),h];obtain⟨q,hq1,hq2,hq3⟩:=ih m (by omega);rw[hq1];refine⟨(x:Int)::q,rfl,λw=>?_,λp=>?_⟩
  ·rw[zzL23,hq2 w]
   constructor
   ·rintro(rfl|⟨y,rfl,hy⟩)
    ·exact⟨x,rfl,.refl _⟩
    ·exact⟨y,rfl,.up h hy⟩
   ·rintro⟨y,rfl,hy⟩;rcases(anc_up h).1 hy with rfl|hy
    ·exact .inl rfl
    ·exact .inr ⟨y,rfl,hy⟩
  ·cases hpp:p (x:Int) with
   | true=>exact .inr ⟨x,by simp[List.find?,hpp],.refl _,hpp,λy hy _=>hy⟩
   | false=>
    have hf:((x:Int)::q).find? p=q.find? p:=by simp[List.find?,hpp]
    rw[hf];rcases hq3 p with⟨e1,e2⟩|⟨f,e1,e2,e3,e4⟩
    ·refine .inl ⟨e1,λy hy=>?_⟩;rcases(anc_up h).1 hy with rfl|hy
     ·exact hpp
     ·exact e2 y hy
    ·refine .inr ⟨f,e1,.up h e2,e3,λy hy hpy=>?_⟩;rcases(anc_up h).1 hy with rfl|hy
     ·rw[hpp]at hpy;cases hpy
     ·exact e4 y hy hpy
theorem jD:∀ m (a:Int) q,upD t m a=some q->∃ x r k:Nat,a=(x:Int)/\k<m/\Tp t x r k:=by
 intro m
 induction m with
 | zero=>intro a q h;cases h
 | succ m ih=>
  intro a q h;unfold Go.Proofs.YtiendmljhgbjoaaGreat.upD at h
  by_cases ha:0<=a/\a<(t.length:Int)
  ·rw[if_pos ha]at h;have e:((a.toNat:Nat):Int)=a:=Uz ha.1
   by_cases h1:t.getD a.toNat 0 = -1
   ·exact⟨a.toNat,a.toNat,0,e.symm,by omega,.top (by omega) h1⟩
   ·rw[if_neg h1]at h
    cases hu:Go.Proofs.YtiendmljhgbjoaaGreat.upD t m (t.getD a.toNat 0) with
    | none=>rw[hu]at h;cases h
    | some q'=>
     obtain⟨y,r,k,e1,e2,e3⟩:=ih _ _ hu;exact⟨a.toNat,r,k+1,e.symm,by omega,.up (by omega) e1 e3⟩
  ·rw[if_neg ha]at h;cases h
theorem pathD_tp{a:Int}:En t a≠[]↔∃ x r k:Nat,a=(x:Int)/\Tp t x r k:=by
 constructor
 ·intro h
  cases hu:upD t t.length a with
  | none=>exact absurd (pathD_nil.2 hu) h
  | some q=>obtain⟨x,r,k,e1,_,e2⟩:=jD _ _ _ hu;exact⟨x,r,k,e1,e2⟩
 ·rintro⟨x,r,k,rfl,h⟩ e;obtain⟨q,hq,_⟩:=h.upD t.length h.short;rw[pathD_nil.1 e]at hq;cases hq
theorem Tp.path{x r k:Nat}(h:Tp t x r k):(∀ w:Int,w∈En t (x:Int)↔∃ z:Nat,w=(z:Int)/\UpTo (Bc t) x z) /\
  ∀ p:Int->Bool,((En t (x:Int)).find? p=none/\∀ z:Nat,UpTo (Bc t) x z->p (z:Int)=false)\/∃ f:Nat,(En t (x:Int)).find? p=some (f:Int)/\UpTo (Bc t) x f/\p (f:Int)=true/\∀ z:Nat,UpTo (Bc t) x z->p (z:Int)=true->UpTo (Bc t) f z:=by
 obtain⟨q,h1,h2,h3⟩:=h.upD t.length h.short
 have e:En t (x:Int)=q:=by unfold En;rw[h1];rfl
 rw[e];exact⟨h2,h3⟩
theorem CM{α:Type}{l:List α}{i j:Nat}{x d:α}(hi:i<l.length):(l.set i x).getD j d=if j=i then x else l.getD j d:=by
 by_cases h:j=i
 ·subst h;simp[List.getD,hi]
 ·simp[List.getD,h,G1 h]
theorem e9{x r k:Nat}(h:Tp t x r k):∀ l:List Bool,l.length=t.length->∃ l',Ai (Fk t) ((x:Int),l)=some l'/\l'.length=t.length/\∀ z,z<t.length->(l'.getD z false=true↔l.getD z false=true\/UpTo (Bc t) x z):=by
 induction h with
 | @top x hx h=>
  intro l hl
  have hs:Fk t ((x:Int),l)=some (.next (-1,l.set x true)):=by
   unfold Fk
   have hb:((x:Int)!=(-1:Int))=true:=by rw[zzL93];omega
   simp only[hb,Ae,A4,h];rw[Ad (H6 (by omega)),Ad (H6 hx)]
  have hd:Fk t (-1,l.set x true)=some (.done (l.set x true)):=by
   unfold Fk
   rfl
  refine⟨l.set x true,by rw[An hs,Ag hd],by simp[hl],λz hz=>?_⟩;rw[CM (by omega)]
  have htop:UpTo (Bc t) x z↔z=x:=AS λp hp=>by have:_=_:=hp.symm.trans h;omega
  rw[htop]
  by_cases e:z=x
  ·simp[e]
  ·simp[e]
 | @up x y r k hx h hk ih=>
  intro l hl
  have hs:Fk t ((x:Int),l)=some (.next ((y:Int),l.set x true)):=by
   unfold Fk
   have hb:((x:Int)!=(-1:Int))=true:=by rw[zzL93];omega
   simp only[hb,Ae,A4,h];rw[Ad (H6 (by omega)),Ad (H6 hx)]
  obtain⟨l',e1,e2,e3⟩:=ih (l.set x true) (by simp[hl]);refine⟨l',by rw[An hs,e1],e2,λz hz=>?_⟩;rw[e3 z hz,CM (by omega),anc_up (par:=Bc t) h]
  by_cases e:z=x
  ·simp[e]
  ·simp[e]
theorem fC{b r k:Nat}(h:Tp t b r k)(l:List Bool)(hl:l.length=t.length):l.getD r false=true->∃ c:Nat,Ai (Fl t l) (b:Int)=some (c:Int)/\UpTo (Bc t) b c/\l.getD c false=true/\∀ z,UpTo (Bc t) b z->l.getD z false=true->UpTo (Bc t) c z:=by
 induction h with
 | @top x hx h=>
  intro hr
  have hd:Fl t l (x:Int)=some (.done (x:Int)):=by
   unfold Fl;rw[Ad (H6 (by omega)),A4,hr]
   rfl
  exact⟨x,Ag hd,.refl _,hr,λz hz _=>hz⟩
 | @up x y r k hx h hk ih=>
  intro hr
  cases hx2:l.getD x false with
  | true=>
   have hd:Fl t l (x:Int)=some (.done (x:Int)):=by
    unfold Fl;rw[Ad (H6 (by omega)),A4,hx2]
    rfl
   exact⟨x,Ag hd,.refl _,hx2,λz hz _=>hz⟩
  | false=>
   have hs:Fl t l (x:Int)=some (.next (y:Int)):=by
    unfold Fl;rw[Ad (H6 (by omega)),A4,hx2,L5,Ae,Ad (H6 hx),h]
   obtain⟨c,e1,e2,e3,e4⟩:=ih hr;refine⟨c,by rw[An hs,e1],.up h e2,e3,λz hz hlz=>?_⟩;rcases(anc_up (par:=Bc t) h).1 hz with rfl|hz
   ·rw[hx2]at hlz;cases hlz
   ·exact e4 z hz hlz
theorem Zh(ht:t.length<=1000){a b r k m:Nat}(ha:Tp t a r k)(hb:Tp t b r m):∃ c:Nat,Lh t (a:Int) (b:Int)=some (c:Int)/\MeetAt (Bc t) a b c:=by
 unfold Lh
 have hroom:(1000:Nat)<=room:=by decide
 rw[Ad ⟨by omega,by omega,by omega⟩,A4];obtain⟨l',h1,h2,h3⟩:=e9 ha (List.replicate t.length false) (by simp);rw[h1,As]
 have h3':∀ z,z<t.length->(l'.getD z false=true↔UpTo (Bc t) a z):=λz hz=>by rw[h3 z hz,Nh];simp
 obtain⟨c,e1,e2,e3,e4⟩:=fC hb l' h2 ((h3' r ha.tops.1).2 ha.upTo)
 have hc:c<t.length:=by obtain⟨j,_,hj,_⟩:=hb.on e2;exact hj.lt
 refine⟨c,by rw[e1];rfl,λw=>⟨λhw=>⟨((h3' c hc).1 e3).trans hw,e2.trans hw⟩,λ⟨hw1,hw2⟩=>?_⟩⟩;obtain⟨j,_,hj,_⟩:=ha.on hw1;exact e4 w hw2 ((h3' w hj.lt).2 hw1)
theorem bp(hR:Im t=true){a b r k m:Nat}(ha:Tp t a r k)(hb:Tp t b r m):∃ c:Nat,Lw t (a:Int) (b:Int)=(c:Int)/\MeetAt (Bc t) a b c:=by
 unfold Lw;rw[if_pos hR]
 have hcon:∀ z:Nat,(En t (b:Int)).contains (z:Int)=true↔UpTo (Bc t) b z:=λz=>by
  rw[EY,hb.path.1]
  constructor
  ·rintro⟨y,e,hy⟩;cases U0 e;exact hy
  ·intro hz;exact⟨z,rfl,hz⟩
 rcases ha.path.2 (λx=>(En t (b:Int)).contains x) with⟨e1,e2⟩|⟨f,e1,e2,e3,e4⟩
 ·have:=e2 r ha.upTo;rw[(hcon r).2 hb.upTo]at this
  cases this
 ·exact⟨f,by rw[e1];rfl,λw=>⟨λhw=>⟨e2.trans hw,((hcon f).1 e3).trans hw⟩,λ⟨hw1,hw2⟩=>e4 w hw1 ((hcon w).2 hw2)⟩⟩
theorem MeetAt.same{a b r k c d:Nat}(ha:Tp t a r k)(hc:MeetAt (Bc t) a b c)(hd:MeetAt (Bc t) a b d):c=d:=by
 obtain⟨j,_,hj,_⟩:=ha.on ((hc c).1 (.refl _)).1;exact(hj.anti ((hc d).2 ((hd d).1 (.refl _))) ((hd c).2 ((hc c).1 (.refl _)))).symm
end
theorem m_index(t:List Int)(v:Int)(ht:t.length<=1000):(∃ r:Nat,r<t.length/\t.getD r 0=v/\(∀ i,i<r->t.getD i 0≠v)/\D8 t v=some (r:Int))\/((∀ i,i<t.length->t.getD i 0≠v)/\D8 t v=some (-1)):=by
 have key:∀ k i:Nat,i+k=t.length->(∀ j,j<i->t.getD j 0≠v)->
   (∃ r:Nat,r<t.length/\t.getD r 0=v/\(∀ i,i<r->t.getD i 0≠v)/\Ai (Bt t v) (i:Int)=some (.inr (r:Int)))\/((∀ i,i<t.length->t.getD i 0≠v)/\Ai (Bt t v) (i:Int)=some (.inl ())):=by
  intro k
  induction k with
  | zero=>
   intro i hi hj
   obtain rfl:i=t.length:=by omega
   refine .inr ⟨hj,Ag ?_⟩;unfold Bt;rw[Ke];rfl
  | succ k ih=>
   intro i hi hj
   by_cases e:v=t.getD i 0
   ·refine .inl ⟨i,by omega,e.symm,hj,Ag ?_⟩;unfold Bt;have hb:((v:Int)==t.getD i 0)=true:=zzL70.2 e;simp only[Fu (show i<t.length by omega),Ae,A4,hb];rw[Ad (H6 (by omega))]
   ·have hs:Bt t v (i:Int)=some (.next ((i+1:Nat):Int)):=by
     unfold Bt;have hb:((v:Int)==t.getD i 0)=false:=zzL22.2 e;simp only[Fu (show i<t.length by omega),Ae,A4,hb,Ay];rw[Ad (H6 (by omega)),w1 (by omega)]
    rw[An hs]
    exact ih (i+1) (by omega) λj hj2=>by
     by_cases ej:j=i
     ·subst ej;exact λh=>e h.symm
     ·exact hj j (by omega)
 have h0:=key t.length 0 (by omega) (λj hj=>absurd hj (Mk _));unfold D8;rcases h0 with⟨r,h1,h2,h3,h4⟩|⟨h1,h2⟩
 ·exact .inl ⟨r,h1,h2,h3,by rw[show((0:Int))=((0:Nat):Int) from rfl,h4];rfl⟩
 ·exact .inr ⟨h1,by rw[show((0:Int))=((0:Nat):Int) from rfl,h2];rfl⟩
section
variable {t:List Int}
structure Ui(t:List Int)(r f:Nat)(w:List Int):Prop where
 len:w.length=t.length
 old:∀ y,y<t.length->w.getD y 0≠0->(w.getD y 0<=(f:Int))/\∃ k,Tp t y r k
structure ZJ(t:List Int)(r f x:Nat)(w:List Int):Prop where
 len:w.length=t.length
 hx:x<t.length
 old:∀ y,y<t.length->w.getD y 0≠0->w.getD y 0<=(f:Int)/\(∃ k,Tp t y r k)\/w.getD y 0=((f+1:Nat):Int)/\∀ r' k,Tp t x r' k->∃ j,k<j/\Tp t y r' j
 fwd:∀ r' k,Tp t x r' k->∃ j,k<=j/\Tp t f r' j
 back:∀ r' k,Tp t f r' k->∃ j,Tp t x r' j
def IG(w:List Int):Nat:=w.countP λz=>z==0
theorem YJ{w:List Int}{x:Nat}{v:Int}(hx:x<w.length)(h0:w.getD x 0=0)(hv:v≠0):IG (w.set x v)<IG w:=by
 unfold IG;rw[List.countP_set hx];rw[Aa _ _ _ hx]at h0;have hp:0<w.countP λz=>z==0:=List.countP_pos_iff.2 ⟨w[x],Xi hx,by simp[h0]⟩;have hb:(v==0)=false:=zzL22.2 hv;simp only[h0,Ps,Ha,hb,Xe,Ep];omega
theorem leads_loop(ht:t.length<=1000){r:Nat}(hr:r<t.length)(htop:t.getD r 0 = -1){f:Nat}(hf:f<t.length):∀(m x:Nat) (w:List Int),IG w<=m->ZJ t r f x w->
  (∃ w',Ai (Co t (f:Int) (r:Int)) ((x:Int),w)=some (.inl w')/\Ui t r (f+1) w'/\∃ k,Tp t f r k) \/
  ∃ b w',Ai (Co t (f:Int) (r:Int)) ((x:Int),w)=some (.inr (b,w'))/\w'.length=t.length/\(b=true->Ui t r (f+1) w'/\∃ k,Tp t f r k)/\(b=false->∀ k,¬ Tp t f r k):=by
 intro m
 induction m with
 | zero=>
  intro x w hz hw;exact go 0 (λx w hz=>absurd hz (Mk _)) x w hz hw
 | succ m ih=>
  intro x w hz hw;exact go (m+1) (λx w hz=>ih x w (Nat.le_of_lt_succ hz)) x w hz hw
where
 go (m:Nat) (ih:∀(x:Nat) (w:List Int),IG w<m->ZJ t r f x w->
  (∃ w',Ai (Co t (f:Int) (r:Int)) ((x:Int),w)=some (.inl w')/\Ui t r (f+1) w'/\∃ k,Tp t f r k) \/
  ∃ b w',Ai (Co t (f:Int) (r:Int)) ((x:Int),w)=some (.inr (b,w'))/\w'.length=t.length/\(b=true->Ui t r (f+1) w'/\∃ k,Tp t f r k)/\(b=false->∀ k,¬ Tp t f r k)) (x:Nat) (w:List Int) (hz:IG w<=m) (hw:ZJ t r f x w) :
  (∃ w',Ai (Co t (f:Int) (r:Int)) ((x:Int),w)=some (.inl w')/\Ui t r (f+1) w'/\∃ k,Tp t f r k) \/
  ∃ b w',Ai (Co t (f:Int) (r:Int)) ((x:Int),w)=some (.inr (b,w'))/\w'.length=t.length/\(b=true->Ui t r (f+1) w'/\∃ k,Tp t f r k)/\(b=false->∀ k,¬ Tp t f r k):=by
  have hxl:=hw.hx
  have told:∀ k,Tp t x r k->Ui t r (f+1) w/\∃ k,Tp t f r k:=λk hk=>by
   obtain⟨j,_,hj⟩:=hw.fwd _ _ hk;refine⟨⟨hw.len,λy hy hy0=>?_⟩,j,hj⟩;rcases hw.old y hy hy0 with⟨h1,h2⟩|⟨h1,h2⟩
   ·exact⟨by omega,h2⟩
   ·obtain⟨i,_,hi⟩:=h2 _ _ hk;exact⟨by omega,i,hi⟩
  by_cases hxr:x=r
  ·subst hxr;refine .inl ⟨w,Ag ?_,told 0 (.top hr htop)⟩;unfold Co
   have hb:((x:Int)!=(x:Int))=false:=by simp
   simp only[hb,Ay]
  ·have hb:((x:Int)!=(r:Int))=true:=by rw[zzL93];omega
   have hin:B6 (x:Int) w.length:=H6 (by rw[hw.len];exact hxl)
   by_cases hw0:w.getD x 0=0
   ·have hb0:((w.getD x 0:Int)!=0)=false:=by rw[hw0];rfl
    by_cases hpl:0<=t.getD x 0/\t.getD x 0<(t.length:Int)
    ·have hwf:Bh ((f:Int)+1)=((f+1:Nat):Int):=w1 (by omega)
     have hs:Co t (f:Int) (r:Int) ((x:Int),w)=some (.next (t.getD x 0,w.set x ((f+1:Nat):Int))):=by
      unfold Co Hy;simp only[hb,Ae,A4,hb0,Ay];rw[Ad hin,Ad (H6 hxl),Ek hpl.1,Ek hpl.2,Ae,As,Fd,Ay,Ad hin,Ad (H6 hxl),hwf]
     rw[An hs];obtain⟨y,hy⟩:∃ y:Nat,t.getD x 0=(y:Int):=⟨(t.getD x 0).toNat,(Uz hpl.1).symm⟩;rw[hy]at hpl ⊢
     have hyl:y<t.length:=by omega
     have hst:∀ r' k,Tp t y r' k->Tp t x r' (k+1):=λr' k hk=>.up hxl hy hk
     have hset:∀ z,z<t.length->(w.set x ((f+1:Nat):Int)).getD z 0=if z=x then((f+1:Nat):Int) else w.getD z 0:=λz _=>CM (by rw[hw.len];exact hxl)
     have hW:ZJ t r f y (w.set x ((f+1:Nat):Int)):=by
      refine⟨by simp[hw.len],hyl,λz hzl hz0=>?_,λr' k hk=>?_,λr' k hk=>?_⟩
      ·rw[hset z hzl]at hz0 ⊢
       by_cases e:z=x
       ·subst e;rw[if_pos rfl];exact .inr ⟨rfl,λr' k hk=>⟨k+1,by omega,hst r' k hk⟩⟩
       ·rw[if_neg e]at hz0 ⊢;rcases hw.old z hzl hz0 with h1|⟨h1,h2⟩
        ·exact .inl h1
        ·refine .inr ⟨h1,λr' k hk=>?_⟩;obtain⟨j,hj1,hj2⟩:=h2 _ _ (hst r' k hk);exact⟨j,by omega,hj2⟩
      ·obtain⟨j,hj1,hj2⟩:=hw.fwd _ _ (hst r' k hk);exact⟨j,by omega,hj2⟩
      ·obtain⟨j,hj⟩:=hw.back _ _ hk
       cases hj with
       | top _ h2=>omega
       | up _ h2 h3=>
        have:=hy.symm.trans h2
        cases U0 this
        exact⟨_,h3⟩
     have hzz:=YJ (x:=x) (v:=((f+1:Nat):Int)) (by rw[hw.len];exact hxl) hw0 (by omega);exact ih y _ (by omega) hW
    ·refine .inr ⟨false,w,Ag ?_,hw.len,⟨λh=>(by cases h),λ_ k hk=>?_⟩⟩
     ·unfold Co Hy;simp only[hb,Ae,A4,hb0,Ay];rw[Ad hin,Ad (H6 hxl)]
      have:(bif decide ((0:Int)<=t.getD x 0) then decide (t.getD x 0<(t.length:Int)) else false)=false:=by
       cases h1:decide ((0:Int)<=t.getD x 0) with
       | false=>rfl
       | true=>rw[Ae];exact Fc λh2=>hpl ⟨Xf h1,h2⟩
      rw[this,As]
      rfl
     ·obtain⟨j,hj⟩:=hw.back _ _ hk
      cases hj with
      | top=>exact hxr rfl
      | up _ h2 h3=>have:=h3.lt;exact hpl ⟨by omega,by omega⟩
   ·have hb0:((w.getD x 0:Int)!=0)=true:=by rw[zzL93];exact hw0
    have hwf:Bh ((f:Int)+1)=((f+1:Nat):Int):=w1 (by omega);refine .inr ⟨w.getD x 0 !=((f+1:Nat):Int),w,Ag ?_,hw.len,⟨λh=>?_,λh k hk=>?_⟩⟩
    ·unfold Co;simp only[hb,Ae,A4,hb0];rw[Ad hin,Ad hin,hwf]
    ·rcases hw.old x hxl hw0 with⟨_,k,hk⟩|⟨h1,_⟩
     ·exact told k hk
     ·rw[h1]at h;simp at h
    ·have he:w.getD x 0=((f+1:Nat):Int):=by simpa using h
     obtain⟨j,hj⟩:=hw.back _ _ hk;rcases hw.old x hxl hw0 with⟨h1,_⟩|⟨_,h2⟩
     ·omega
     ·obtain⟨i,hi1,hi2⟩:=h2 _ _ hj;have:=hj.det hi2;omega
end
section
variable {t:List Int}
theorem et(ht:t.length<=1000){r:Nat}(hr:r<t.length)(htop:t.getD r 0 = -1){f:Nat}(hf:f<t.length){w:List Int}(hw:Ui t r f w) :
  ∃ b w',Oa t w (f:Int) (r:Int)=some (b,w')/\w'.length=t.length/\(b=true->Ui t r (f+1) w'/\∃ k,Tp t f r k)/\(b=false->∀ k,¬ Tp t f r k):=by
 unfold Oa;have hW:ZJ t r f f w:=⟨hw.len,hf,λy hy h0=>.inl (hw.old y hy h0),λr' k hk=>⟨k,zzL7 _,hk⟩,λr' k hk=>⟨k,hk⟩⟩;rcases leads_loop ht hr htop hf _ f w (zzL7 _) hW with⟨w',e1,e2⟩|⟨b,w',e1,e2,e3,e4⟩
 ·exact⟨true,w',by rw[e1];rfl,e2.1.len,λ_=>e2,λh=>by cases h⟩
 ·exact⟨b,w',by rw[e1];rfl,e2,e3,e4⟩
def GD(t:List Int)(r:Nat):Prop:=∀ f,f<t.length->t.getD f 0≠-2->∃ k,Tp t f r k
open Classical in
theorem MZ(ht:t.length<=1000){r:Nat}(hr:r<t.length)(htop:t.getD r 0 = -1):∀(k f:Nat) (w:List Int),f+k=t.length->Ui t r f w->(∀ y,y<f->t.getD y 0≠-2->∃ k,Tp t y r k)->
  Ai (Ed t (r:Int)) ((f:Int),w)=some (if GD t r then .inl () else .inr false):=by
 intro k
 induction k with
 | zero=>
  intro f w hk hw hd
  obtain rfl:f=t.length:=by omega
  apply Ag
  unfold Ed;simp only[Ke,Ay];rw[if_pos (show GD t r from hd)]
 | succ k ih=>
  intro f w hk hw hd
  have hf:f<t.length:=by omega
  by_cases h2:t.getD f 0 = -2
  ·have hb:((t.getD f 0:Int)!=(-2))=false:=by rw[h2];rfl
   have hs:Ed t (r:Int) ((f:Int),w)=some (.next (((f+1:Nat):Int),w)):=by
    unfold Ed;simp only[Fu hf,Ae,A4,hb,show(false==true)=false from rfl,Ay,As];rw[Ad (H6 hf),Ad (λh=>by cases h),w1 (by omega)]
   rw[An hs];refine ih (f+1) w (by omega) ⟨hw.len,λy hy h0=>?_⟩ λy hy hy2=>?_
   ·obtain⟨e1,e2⟩:=hw.old y hy h0;exact⟨by omega,e2⟩
   ·by_cases e:y=f
    ·subst e;exact absurd h2 hy2
    ·exact hd y (by omega) hy2
  ·have hb:((t.getD f 0:Int)!=(-2))=true:=by rw[zzL93];exact h2
   obtain⟨b,w',e1,e2,e3,e4⟩:=et ht hr htop hf hw
   cases b with
   | false=>
    rw[if_neg (λhA:GD t r=>by obtain⟨k,hk⟩:=hA f hf h2;exact e4 rfl k hk)]
    apply Ag
    unfold Ed;simp only[Fu hf,Ae,A4,hb,show(true==true)=true from rfl,e1,As];rw[Ad (H6 hf),Ad (λ_=>by rw[hw.len,e2])]
    rfl
   | true=>
    have hs:Ed t (r:Int) ((f:Int),w)=some (.next (((f+1:Nat):Int),w')):=by
     unfold Ed;simp only[Fu hf,Ae,A4,hb,show(true==true)=true from rfl,e1,As];rw[Ad (H6 hf),Ad (λ_=>by rw[hw.len,e2]),w1 (by omega)]
     rfl
    rw[An hs];obtain⟨e5,e6⟩:=e3 rfl;refine ih (f+1) w' (by omega) e5 λy hy hy2=>?_
    by_cases e:y=f
    ·subst e;exact e6
    ·exact hd y (by omega) hy2
theorem cj:Xa t t.length=1↔∃ r,r<t.length/\t.getD r 0 = -1/\∀ x,x<t.length->t.getD x 0 = -1->x=r:=by
 have key:∀ n,(Xa t n=0↔∀ x,x<n->t.getD x 0≠-1)/\(Xa t n=1↔∃ r,r<n/\t.getD r 0 = -1/\∀ x,x<n->t.getD x 0 = -1->x=r):=by
  intro n
  induction n with
  | zero=>exact⟨⟨λ_ x hx=>absurd hx (Mk _),λ_=>rfl⟩,⟨λh=>by simp[Xa]at h,λ⟨r,h,_⟩=>absurd h (Mk _)⟩⟩
  | succ n ih=>
   rw[EN]
   by_cases e:t.getD n 0 = -1
   ·rw[if_pos e];refine⟨⟨λh=>by omega,λh=>absurd e (h n (by omega))⟩,⟨λh=>⟨n,by omega,e,λx hx hx1=>?_⟩,λ⟨r,h1,h2,h3⟩=>?_⟩⟩
    ·by_cases ex:x=n
     ·exact ex
     ·exact absurd hx1 (ih.1.1 (by omega) x (by omega))
    ·have:=ih.1.2 λx hx hx1=>by
      have:=h3 x (by omega) hx1;have:=h3 n (by omega) e;omega
     omega
   ·rw[if_neg e,K7];refine⟨⟨λh x hx=>?_,λh=>ih.1.2 λx hx=>h x (by omega)⟩,⟨λh=>?_,λ⟨r,h1,h2,h3⟩=>?_⟩⟩
    ·by_cases ex:x=n
     ·subst ex;exact e
     ·exact ih.1.1 h x (by omega)
    ·obtain⟨r,h1,h2,h3⟩:=ih.2.1 h;refine⟨r,by omega,h2,λx hx hx1=>?_⟩
     by_cases ex:x=n
     ·subst ex;exact absurd hx1 e
     ·exact h3 x (by omega) hx1
    ·refine ih.2.2 ⟨r,?_,h2,λx hx hx1=>h3 x (by omega) hx1⟩
     by_cases ex:r=n
     ·subst ex;exact absurd h2 e
     ·omega
 exact(key _).2
theorem rightD_iff:Im t=true↔∃ r,r<t.length/\t.getD r 0 = -1/\GD t r:=by
 unfold Im;rw[A2,all_range,Dr,cj]
 constructor
 ·rintro⟨h1,r,h2,h3,h4⟩;refine⟨r,h2,h3,λf hf hf2=>?_⟩;have:=h1 f hf;unfold lJ at this;rw[Xj,Dr,Om,IH]at this;rcases this with h|h
  ·exact absurd h hf2
  ·obtain⟨x,r',k,e,hk⟩:=pathD_tp.1 h
   cases U0 e
   have:=h4 _ hk.tops.1 hk.tops.2;subst this;exact⟨k,hk⟩
 ·rintro⟨r,h2,h3,h4⟩;refine⟨λf hf=>?_,r,h2,h3,λx hx hx1=>?_⟩
  ·unfold lJ;rw[Xj,Dr,Om,IH]
   by_cases e:t.getD f 0 = -2
   ·exact .inl e
   ·obtain⟨k,hk⟩:=h4 f hf e;exact .inr (pathD_tp.2 ⟨f,r,k,rfl,hk⟩)
  ·obtain⟨k,hk⟩:=h4 x hx (by omega);exact((hk.det (.top hx hx1)).1).symm
theorem HV(hR:Im t=true):∃ r,GD t r:=by obtain⟨r,_,_,h⟩:=rightD_iff.1 hR;exact⟨r,h⟩
theorem bi(ht:t.length<=1000):Mq t=some (Im t):=by
 unfold Mq
 have hroom:(1000:Nat)<=room:=by decide
 rcases m_index t (-1) ht with⟨r,h1,h2,h3,h4⟩|⟨h1,h2⟩
 ·rw[h4,As,show decide ((r:Int)<0)=false from Fc (by omega),Ay,Ad ⟨by omega,by omega,by omega⟩,A4];have hl:=MZ ht h1 h2 t.length 0 (List.replicate t.length 0) (by omega) ⟨by simp,λy hy h0=>absurd Nh h0⟩ (λy hy=>absurd hy (Mk _));rw[show(((0:Nat):Int))=0 from rfl]at hl;rw[hl,As]
  by_cases hA:GD t r
  ·rw[if_pos hA,rightD_iff.2 ⟨r,h1,h2,hA⟩]
  ·rw[if_neg hA]
   have:Im t=false:=Bool.eq_false_iff.2 λhR=>by
    obtain⟨r',g1,g2,g3⟩:=rightD_iff.1 hR;obtain⟨k,hk⟩:=g3 r h1 (by omega);have:=(hk.det (.top h1 h2)).1;subst this;exact hA g3
   rw[this]
 ·rw[h2,As]
  have:Im t=false:=Bool.eq_false_iff.2 λhR=>by
   obtain⟨r',g1,g2,g3⟩:=rightD_iff.1 hR;exact h1 r' g1 g2
  rw[this]
  rfl
def Vf(t:List Int)(a:Int):Bool:=decide (0<=a)&&decide (a<(t.length:Int))&&decide (t.getD a.toNat 0≠-2)
theorem CO(hR:Im t=true){a:Int}:Vf t a=true↔∃ x k r:Nat,a=(x:Int)/\Tp t x r k:=by
 unfold Vf;rw[A2,A2,Dr,Dr,Dr]
 constructor
 ·rintro⟨⟨h1,h2⟩,h3⟩;obtain⟨r,hA⟩:=HV hR;obtain⟨k,hk⟩:=hA a.toNat (by omega) h3;exact⟨a.toNat,k,r,(Uz h1).symm,hk⟩
 ·rintro⟨x,k,r,rfl,h⟩;have:=h.lt;refine⟨⟨by omega,by omega⟩,?_⟩;rw[A4]
  cases h with
  | top _ h2=>omega
  | up _ h2 _=>omega
theorem CX(a:Int):Ie t a=some (Vf t a):=by
 unfold Ie Hy Vf;rw[As]
 cases h1:decide ((0:Int)<=a) with
 | false=>rfl
 | true=>
  rw[Ae,G0]
  cases h2:decide (a<(t.length:Int)) with
  | false=>rfl
  | true=>
   rw[Ad (λ_=>⟨Xf h1,Xf h2⟩),Ae,G0]
   congr 1
   rw[L4,zzL93,Dr]
theorem er(ht:t.length<=1000)(a b:Int):N9 t a b=some (Im t&&Vf t a&&Vf t b):=by
 unfold N9;rw[bi ht,As]
 cases Im t with
 | false=>rfl
 | true=>
  simp only[show(true==true)=true from rfl,Ae,CX,As,G0]
  cases Vf t a with
  | false=>rfl
  | true=>simp only[show(true==true)=true from rfl,Ae,CX,As,G0]
theorem XH{a b:Int}(h:(Im t&&Vf t a&&Vf t b)=false):Lw t a b = -2:=by
 unfold Lw
 by_cases hR:Im t=true
 ·rw[if_pos hR];rw[hR,G0]at h
  have hno:∀ c,Vf t c=false->En t c=[]:=λc hc=>by
   by_cases e:En t c=[]
   ·exact e
   ·obtain⟨x,r,k,e1,e2⟩:=pathD_tp.1 e;rw[(CO hR).2 ⟨x,k,r,e1,e2⟩]at hc;cases hc
  cases ha:Vf t a with
  | false=>rw[hno a ha];rfl
  | true=>
   rw[ha,G0]at h;rw[hno b h]
   have:((En t a).find? λx=>([]:List Int).contains x)=none:=List.find?_eq_none.2 λx _=>by simp
   rw[this]
   rfl
 ·rw[if_neg hR]
theorem FL(ht:t.length<=1000){a b:Int}(h:(Im t&&Vf t a&&Vf t b)=true):Lh t a b=some (Lw t a b)/\0<=Lw t a b:=by
 rw[A2,A2]at h;obtain⟨⟨hR,ha⟩,hb⟩:=h;obtain⟨x,k,r,rfl,hx⟩:=(CO hR).1 ha;obtain⟨y,m,r',rfl,hy⟩:=(CO hR).1 hb;obtain⟨rr,hA⟩:=HV hR
 have top:∀{x r k},Tp t x r k->r=rr:=λ{x r k} h=>by
  obtain⟨i,hi⟩:=hA r h.tops.1 (by rw[h.tops.2];omega);exact((Tp.top h.tops.1 h.tops.2).det hi).1
 obtain rfl:=top hx;obtain rfl:=top hy;obtain⟨c,h1,h2⟩:=Zh ht hx hy;obtain⟨d,h3,h4⟩:=bp hR hx hy;have:=h2.same hx h4;subst this;exact⟨by rw[h1,h3],by omega⟩
theorem ie(ht:t.length<=1000)(a b:Int):Qh t a b=some (Nf t a b):=by
 unfold Qh Nf;rw[er ht,As]
 cases h:(Im t&&Vf t a&&Vf t b) with
 | false=>
  rw[XH h]
  have:((-2:Int)==a&&((-2:Int)!=-2))=false:=by simp
  rw[this]
  rfl
 | true=>
  obtain⟨h1,h2⟩:=FL ht h;simp only[show(true==true)=true from rfl,Ae,h1,As]
  have:(Lw t a b !=-2)=true:=by rw[zzL93];omega
  rw[this,Y2]
end
theorem fG:∀ n:Fin 65,Ld (Gq 1) (Gq ((n.val:Nat):Int))=some (0,((n.val:Nat):Int)):=by decide +kernel
theorem XJ{n:Nat}(h:n<=64):Ld (Gq 1) (Gq (n:Int))=some (0,(n:Int)):=fG ⟨n,by omega⟩
theorem OV{v:Int}{n:Nat}(hn:n<=64):∀(m i:Nat) (l:List Int),n-i<=m->1<=i->i<=n->l.length=n->(∀ j,j<i->l.getD j 0=v)->Ai B9 ((i:Int),l)=some (List.replicate n v):=by
 intro m
 induction m with
 | zero=>
  intro i l hm h1 h2 hl hv
  obtain rfl:i=n:=by omega
  exact fin l hl hv
 | succ m ih=>
  intro i l hm h1 h2 hl hv
  by_cases e:i=n
  ·subst e;exact fin l hl hv
  ·have hs:B9 ((i:Int),l)=some (.next (((i+Nat.min i (n-i):Nat):Int),RH l i (Nat.min i (n-i)) (λj=>l.getD (0+j) 0))):=by
    unfold B9;simp only[hl,Fu (show i<n by omega),Ae,A4,Fq,S8];have hc:(0:Int)<=(i:Int)/\i<=n:=⟨by omega,h2⟩;have hmn:Nat.min i (n-i)<=i:=Nat.min_le_left _ _;rw[Ad hc,Ad hc,Hn (by omega) (by omega),Int.natCast_add]
   rw[An hs];have hmn:Nat.min i (n-i)<=i/\Nat.min i (n-i)<=n-i:=⟨Nat.min_le_left _ _,Nat.min_le_right _ _⟩;have hge:1<=Nat.min i (n-i):=Nat.le_min.2 ⟨h1,by omega⟩;refine ih _ _ (by omega) (by omega) (by omega) (by rw[<- Ft];exact hl) λj hj=>?_;rw[CC _ _ _ _ _ _ (by omega)]
   by_cases hji:i<=j/\j<i+Nat.min i (n-i)
   ·rw[if_pos hji,Fq];exact hv _ (by omega)
   ·rw[if_neg hji];exact hv _ (by omega)
where
 fin {v:Int} {i:Nat} (l:List Int) (hl:l.length=i) (hv:∀ j,j<i->l.getD j 0=v):Ai B9 ((i:Int),l)=some (List.replicate i v):=by
  apply Ag
  unfold B9;simp only[hl,Ke,Ay]
  congr 2
  refine Yy (by simp[hl]) λj h1 h2=>?_;rw[<- Aa _ _ 0 h1,hv j (by omega)]
  simp
theorem bj{v:Int}{n:Nat}(h1:1<=n)(hn:n<=64):E4 [v] (n:Int)=some (List.replicate n v):=by
 have hroom:(64:Nat)<=room:=by decide
 unfold E4;rw[show decide ((n:Int)<0)=false from Fc (by omega),Ay,As]
 show Option.bind (Ld (Gq 1) (Gq (n:Int))) _=_
 rw[XJ hn,As];have e1:decide ((0:Int)<(0:Int))=false:=rfl;have e2:decide ((9223372036854775807:Int)<(n:Int))=false:=Fc (by omega);simp only[e1,e2,Ay,As];have ew:Bh (n:Int)=(n:Int):=Hn (by omega) (by omega);rw[ew,Ad ⟨by omega,by omega,by omega⟩,A4,Xd,S8];have em:Nat.min [v].length n=1:=Nat.min_eq_left h1;rw[em,OV hn n 1 _ (by omega) (zzL7 _) h1 (by rw[<- Ft];simp) (λj hj=>?_)]
 ·rfl
 ·rw[CC _ _ _ _ _ _ (by simp;omega),if_pos ⟨by omega,by omega⟩]
  have:j-0=0:=by omega
  rw[this];rfl
section
variable {S:Nat->List Nat} {r n:Nat} {P:List Nat}
theorem Inv.tp{at_:Nat->Nat}{t:List Int}(h:Inv S r n at_ (Bc t))(hl:t.length=n):∀ m x,at_ x<=m->x<n->Bc t x≠-2->∃ k,Tp t x r k:=by
 intro m
 induction m with
 | zero=>
  intro x hm hx hp;rcases h.kind x hx with h1|h1|⟨z,hz⟩
  ·exact absurd h1 hp
  ·subst h1;exact⟨0,.top (by omega) h.top⟩
  ·obtain⟨_,_,h3,_⟩:=h.up x hx z hz;omega
 | succ m ih=>
  intro x hm hx hp;rcases h.kind x hx with h1|h1|⟨z,hz⟩
  ·exact absurd h1 hp
  ·subst h1;exact⟨0,.top (by omega) h.top⟩
  ·obtain⟨z1,z2,z3,_⟩:=h.up x hx z hz;obtain⟨k,hk⟩:=ih z (by omega) z1 z2;exact⟨k+1,.up (by omega) hz hk⟩
def Vy(t l:List Int)(i:Nat)(v:Int):Prop:=
 (v = -2/\∀ j,j<i->Bc t (l.getD j 0).toNat = -2) \/
 ∃ z:Nat,v=(z:Int)/\z<t.length/\Bc t z≠-2/\(∀ w,UpTo (Bc t) z w↔∀ j,j<i->Bc t (l.getD j 0).toNat≠-2->UpTo (Bc t) (l.getD j 0).toNat w)
theorem KH{at_:Nat->Nat}{t l:List Int}(ht:t.length<=64)(hll:l.length<=64)(h:Inv S r n at_ (Bc t))(hl:t.length=n)(hin:∀ x∈l,0<=x/\x<(n:Int)):∀(k i:Nat) (v:Int),i+k=l.length->Vy t l i v->
  ∃ v',Ai (Dw t l) (v,(i:Int))=some v'/\Vy t l l.length v':=by
 intro k
 induction k with
 | zero=>
  intro i v hi hv
  obtain rfl:i=l.length:=by omega
  refine⟨v,Ag ?_,hv⟩;unfold Dw;simp only[Ke,Ay]
 | succ k ih=>
  intro i v hi hv
  have hil:i<l.length:=by omega
  obtain⟨x0,x1⟩:=hin _ (getD_mem (d:=0) hil);have hxe:(((l.getD i 0).toNat:Nat):Int)=l.getD i 0:=Uz x0;have hxin:B6 (l.getD i 0) t.length:=kB x0 (by omega)
  have next:∀ v',Dw t l (v,(i:Int))=some (.next (v',((i+1:Nat):Int)))->Vy t l (i+1) v'->∃ v',Ai (Dw t l) (v,(i:Int))=some v'/\Vy t l l.length v':=λv' hs hv'=>by
   rw[An hs];exact ih (i+1) v' (by omega) hv'
  by_cases hp:Bc t (l.getD i 0).toNat = -2
  ·have hb:((t.getD (l.getD i 0).toNat 0:Int)==-2)=true:=zzL70.2 hp;refine next v ?_ ?_
   ·unfold Dw;simp only[Fu hil,Ae,A4,hb];rw[Ad (H6 hil),Ad hxin,As,w1 (by omega)]
   ·have hstep:∀ w,(∀ j,j<i->Bc t (l.getD j 0).toNat≠-2->UpTo (Bc t) (l.getD j 0).toNat w)↔∀ j,j<i+1->Bc t (l.getD j 0).toNat≠-2->UpTo (Bc t) (l.getD j 0).toNat w:=λw=>by
     refine⟨λhj j hj1 hj2=>?_,λhj j hj1=>hj j (by omega)⟩
     by_cases e:j=i
     ·subst e;exact absurd hp hj2
     ·exact hj j (by omega) hj2
    rcases hv with⟨h1,h2⟩|⟨z,h1,h2,h3,h4⟩
    ·refine .inl ⟨h1,λj hj=>?_⟩
     by_cases e:j=i
     ·subst e;exact hp
     ·exact h2 j (by omega)
    ·exact .inr ⟨z,h1,h2,h3,λw=>by rw[h4 w,hstep w]⟩
  ·have hb:((t.getD (l.getD i 0).toNat 0:Int)==-2)=false:=zzL22.2 hp;rcases hv with⟨h1,h2⟩|⟨z,h1,h2,h3,h4⟩
   ·subst h1;refine next (l.getD i 0) ?_ (.inr ⟨(l.getD i 0).toNat,hxe.symm,by omega,hp,λw=>⟨λhw j hj hj2=>?_,λhw=>hw i (by omega) hp⟩⟩)
    ·unfold Dw;simp only[Fu hil,Ae,A4,hb,Ay,show((-2:Int)==-2)=true from rfl];rw[Ad (H6 hil),Ad hxin,As,w1 (by omega)]
    ·by_cases e:j=i
     ·subst e;exact hw
     ·exact absurd (h2 j (by omega)) hj2
   ·subst h1;have hb2:((z:Int)==-2)=false:=zzL22.2 (by omega);obtain⟨k1,hk1⟩:=h.tp hl _ z (zzL7 _) (by omega) h3;obtain⟨k2,hk2⟩:=h.tp hl _ (l.getD i 0).toNat (zzL7 _) (by omega) hp;obtain⟨c,c1,c2⟩:=Zh (by omega) hk1 hk2;have hcz:=(c2 c).1 (.refl _);obtain⟨jc,_,hjc,_⟩:=hk1.on hcz.1
    have hcp:Bc t c≠-2:=by
     show t.getD c 0≠-2
     cases hjc with
     | top _ h=>omega
     | up _ h _=>omega
    refine next (c:Int) ?_ (.inr ⟨c,rfl,hjc.lt,hcp,λw=>?_⟩)
    ·rw[hxe]at c1;unfold Dw;simp only[Fu hil,Ae,A4,hb,Ay,hb2,c1,As];rw[Ad (H6 hil),Ad hxin,As,w1 (by omega)]
    ·rw[c2 w,h4 w];refine⟨λ⟨a1,a2⟩ j hj hj2=>?_,λha=>⟨λj hj=>ha j (by omega),ha i (by omega) hp⟩⟩
     by_cases e:j=i
     ·subst e;exact a2
     ·exact a1 j (by omega) hj2
theorem XD{at_:Nat->Nat}{t l:List Int}(ht:t.length<=64)(hll:l.length<=64)(h:Inv S r n at_ (Bc t))(hl:t.length=n)(hin:∀ x∈l,0<=x/\x<(n:Int)) :
  ∃ v,Hz t l=some v/\Vy t l l.length v:=by
 obtain⟨v,h1,h2⟩:=KH ht hll h hl hin l.length 0 (-2) (by omega) (.inl ⟨rfl,λj hj=>absurd hj (Mk _)⟩);refine⟨v,?_,h2⟩;unfold Hz;rw[show((0:Int))=((0:Nat):Int) from rfl,h1]
 rfl
end
section
variable {L:List (List Int)} (hm:Lj L=true) {r:Nat} {P:List Nat}
include hm
theorem cY{p y:Nat}(hp:p<L.length):y∈sN L p↔Zc L p y=true:=by
 rw[bS];obtain⟨_,_,h3⟩:=mayS_iff.1 hm
 constructor
 ·intro h;obtain⟨x,hx,rfl⟩:=zzL24.1 h;have:=UQ (h3 p hp) hx;rw[Uz this.1];exact hx
 ·intro h;exact zzL24.2 ⟨_,h,A4 y⟩
theorem W1{y:Nat}(hy:y<L.length){x:Int}:x∈(E9 L).getD y []↔∃ p:Nat,x=(p:Int)/\p<L.length/\y∈sN L p:=by
 rw[HP hy];unfold Jw;rw[bq]
 constructor
 ·rintro⟨k,h1,h2,h3⟩;exact⟨k,h1,h2,(cY hm h2).2 h3⟩
 ·rintro⟨k,h1,h2,h3⟩;exact⟨k,h1,h2,(cY hm h2).1 h3⟩
theorem KG(o:Ordered (sN L) r L.length P){t:List Int}{i:Nat}(h:Ready (sN L) r L.length P t i)(hi:i<P.length) :
  Hz t ((E9 L).getD (P.getD i 0) [])=some (Jq (sN L) L.length t (P.getD i 0):Int):=by
 obtain⟨hL1,hL64,_⟩:=mayS_iff.1 hm;have hyn:P.getD i 0<L.length:=o.lt (Fp _ (M0 hi))
 have hlen:((E9 L).getD (P.getD i 0) []).length<=64:=by
  rw[HP hyn];have:=Vk L L.length (P.getD i 0);omega
 obtain⟨v,h1,h2⟩:=XD (by rw[h.len];exact hL64) hlen h.inv h.len λx hx=>by
  obtain⟨p,rfl,hp,_⟩:=(W1 hm hyn).1 hx;omega
 rw[h1];have hb:=h.best o hi
 have mem:∀ p,p<L.length->P.getD i 0∈sN L p->∃ j,j<((E9 L).getD (P.getD i 0) []).length/\(((E9 L).getD (P.getD i 0) []).getD j 0).toNat=p:=λp hp hy=>by
  obtain⟨j,hj,e⟩:=K6 ((W1 hm hyn).2 ⟨p,rfl,hp,hy⟩);exact⟨j,hj,by rw[Aa _ _ _ hj,e,A4]⟩
 have mem':∀ j,j<((E9 L).getD (P.getD i 0) []).length->(((E9 L).getD (P.getD i 0) []).getD j 0).toNat<L.length/\P.getD i 0∈sN L (((E9 L).getD (P.getD i 0) []).getD j 0).toNat:=λj hj=>by
  obtain⟨p,e,hp,hy⟩:=(W1 hm hyn).1 (getD_mem (d:=(0:Int)) hj);rw[e,A4];exact⟨hp,hy⟩
 rcases h2 with⟨rfl,h3⟩|⟨z,rfl,hz,hz2,h4⟩
 ·obtain⟨p,hp,hyp,hp2,_⟩:=hb.fwd;obtain⟨j,hj,e⟩:=mem p hp hyp;exact absurd (by rw[<- e];exact h3 j hj) hp2
 ·have hbest:QH (sN L) L.length (Bc t) (P.getD i 0) z:=λw=>by
   rw[h4 w];refine⟨λha p hp hyp hp2=>?_,λha j hj hj2=>?_⟩
   ·obtain⟨j,hj,e⟩:=mem p hp hyp;have:=ha j hj (by rw[e];exact hp2);rwa[e]at this
   ·obtain⟨q1,q2⟩:=mem' j hj;exact ha _ q1 q2 hj2
  rw[h.best_eq o hi (by rw[<- h.len];exact hz) hz2 hbest]
end
theorem NT{P:List Nat}{i:Nat}(h:i<P.length):(Ox P).getD i 0=((P.getD i 0:Nat):Int):=by
 unfold Ox;rw[Aa _ _ _ (by simpa using h),Aa _ _ _ h,List.getElem_map]
 rfl
theorem OX{t:List Int}{x:Nat}{v:Int}(hx:x<t.length)(h:t.getD x 0=v):t.set x v=t:=by
 subst h;rw[Aa _ _ _ hx];exact List.set_getElem_self hx
section
variable {L:List (List Int)} (hm:Lj L=true) {r:Nat} {P:List Nat} (o:Ordered (sN L) r L.length P)
include hm o
theorem SN{t0:List Int}(h:Ready (sN L) r L.length P t0 0):∀(k i:Nat) (b:Bool),i+k=P.length->
  ∃ b',Ai (Dp (Xs L) (Ox (r::P))) (b,(i:Int),Ry (sN L) L.length P t0 i)=some (b',Ry (sN L) L.length P t0 P.length) /\
   (b'=false↔b=false/\∀ j,i<=j->j<P.length->Bc (Ry (sN L) L.length P t0 j) (P.getD j 0)=(Jq (sN L) L.length (Ry (sN L) L.length P t0 j) (P.getD j 0):Int)):=by
 have hP64:P.length<=64:=by
  have h1:=Lk L.length (r::P) o.nodup λx hx=>o.lt hx;have h2:=(mayS_iff.1 hm).2.1;simp at h1;omega
 have hdl:(Ox (r::P)).drop (1:Int).toNat=Ox P:=rfl
 have hlen:(Ox P).length=P.length:=by simp[Ox]
 intro k
 induction k with
 | zero=>
  intro i b hi
  obtain rfl:i=P.length:=by omega
  refine⟨b,Ag ?_,λh=>⟨h,λj h1 h2=>by omega⟩,λh=>h.1⟩;unfold Dp;simp only[hdl,hlen,Ke,Ay]
 | succ k ih=>
  intro i b hi
  have hil:i<P.length:=by omega
  have rd:=h.round o i (by omega);have hma:=KG hm o rd hil;have hyn:P.getD i 0<L.length:=o.lt (Fp _ (M0 hil))
  have hyt:P.getD i 0<(Ry (sN L) L.length P t0 i).length:=by rw[rd.len];exact hyn
  have hpred:(Xs L).Pred=E9 L:=rfl
  by_cases he:Bc (Ry (sN L) L.length P t0 i) (P.getD i 0)=(Jq (sN L) L.length (Ry (sN L) L.length P t0 i) (P.getD i 0):Int)
  ·have hb:((Jq (sN L) L.length (Ry (sN L) L.length P t0 i) (P.getD i 0):Int)!=(Ry (sN L) L.length P t0 i).getD (P.getD i 0) 0)=false:=by
    have:(Ry (sN L) L.length P t0 i).getD (P.getD i 0) 0=_:=he;rw[this];simp
   have hnx:Ry (sN L) L.length P t0 (i+1)=Ry (sN L) L.length P t0 i:=OX hyt he
   have hs:Dp (Xs L) (Ox (r::P)) (b,(i:Int),Ry (sN L) L.length P t0 i)=some (.next (b,((i+1:Nat):Int),Ry (sN L) L.length P t0 (i+1))):=by
    unfold Dp;simp only[hdl,hlen,Fu hil,Ae,A4,NT hil,hpred,hma,As,hb,Ay];rw[Ad (H6 hil),Ad (H6 (by rw[Ng];exact hyn)),Ad (H6 hyt),As,w1 (by omega),hnx]
   obtain⟨b',e1,e2⟩:=ih (i+1) b (by omega);refine⟨b',by rw[An hs,e1],λh=>?_,λ⟨h1,h2⟩=>e2.2 ⟨h1,λj hj=>h2 j (by omega)⟩⟩;obtain⟨h1,h2⟩:=e2.1 h;refine⟨h1,λj hj1 hj2=>?_⟩
   by_cases e:j=i
   ·subst e;exact he
   ·exact h2 j (by omega) hj2
  ·have hb:((Jq (sN L) L.length (Ry (sN L) L.length P t0 i) (P.getD i 0):Int)!=(Ry (sN L) L.length P t0 i).getD (P.getD i 0) 0)=true:=by
    rw[zzL93];exact λe=>he e.symm
   have hs:Dp (Xs L) (Ox (r::P)) (b,(i:Int),Ry (sN L) L.length P t0 i)=some (.next (true,((i+1:Nat):Int),Ry (sN L) L.length P t0 (i+1))):=by
    unfold Dp;simp only[hdl,hlen,Fu hil,Ae,A4,NT hil,hpred,hma,As,hb];rw[Ad (H6 hil),Ad (H6 (by rw[Ng];exact hyn)),Ad (H6 hyt),Ad (H6 hyt),As,w1 (by omega)]
    rfl
   obtain⟨b',e1,e2⟩:=ih (i+1) true (by omega);refine⟨b',by rw[An hs,e1],λh=>?_,λ⟨h1,h2⟩=>absurd (h2 i (zzL7 _) hil) he⟩;obtain⟨h1,_⟩:=e2.1 h;cases h1
theorem XW{t0:List Int}(h:Ready (sN L) r L.length P t0 0):∃ b,Ai (Dp (Xs L) (Ox (r::P))) (false,(0:Int),t0)=some (b,Ry (sN L) L.length P t0 P.length)/\(b=false↔Rd (sN L) L.length P t0):=by
 obtain⟨b,e1,e2⟩:=SN hm o h P.length 0 false (by omega);refine⟨b,e1,e2.trans ⟨λ⟨_,h2⟩=>?_,λhs=>⟨rfl,λj _ hj=>?_⟩⟩⟩
 ·have key:∀ j,j<=P.length->Ry (sN L) L.length P t0 j=t0:=by
   intro j
   induction j with
   | zero=>intro _;rfl
   | succ j ih=>
    intro hj;have ih':=ih (by omega);have rd:=h.round o j (by omega)
    have hyn:P.getD j 0<(Ry (sN L) L.length P t0 j).length:=by rw[rd.len];exact o.lt (Fp _ (M0 (by omega)))
    have:Ry (sN L) L.length P t0 (j+1)=Ry (sN L) L.length P t0 j:=OX hyn (h2 j (K8 _) (by omega));rw[this,ih']
  intro i hi;have:=h2 i (K8 _) hi;rwa[key i (by omega)]at this
 ·rw[S3 o h.len hs j (by omega)];exact hs j hj
open Classical in
theorem VD(j:Nat):Eu (Xs L) (Ox (r::P),BK (sN L) L.length P (Eo L.length r) j)=some (if Rd (sN L) L.length P (BK (sN L) L.length P (Eo L.length r) j) then .done (BK (sN L) L.length P (Eo L.length r) (j+1)) else .next (Ox (r::P),BK (sN L) L.length P (Eo L.length r) (j+1))):=by
 obtain⟨b,e1,e2⟩:=XW hm o (Ready.rounds o j);have hL2:Ov (Xs L) (Ox (r::P))=Dp (Xs L) (Ox (r::P)):=rfl
 have hlen:(0:Int)<=1/\(1:Int)<=((Ox (r::P)).length:Int):=by simp[Ox];omega
 unfold Eu;simp only[hL2,e1,As];rw[Ad hlen]
 cases b with
 | false=>rw[if_pos (e2.1 rfl)];rfl
 | true=>rw[if_neg (λh=>by have:=e2.2 h;cases this)];rfl
theorem PG:∃ J,Rd (sN L) L.length P (BK (sN L) L.length P (Eo L.length r) J)/\Ai (Eu (Xs L)) (Ox (r::P),Eo L.length r)=some (BK (sN L) L.length P (Eo L.length r) J):=by
 obtain⟨J,h1,h2⟩:=gu o;refine⟨J,h2,?_⟩
 have key:∀ d j,j+d=J->Ai (Eu (Xs L)) (Ox (r::P),BK (sN L) L.length P (Eo L.length r) j)=some (BK (sN L) L.length P (Eo L.length r) J):=by
  intro d
  induction d with
  | zero=>
   intro j hj
   obtain rfl:j=J:=by omega
   have hF:=VD hm o j;rw[if_pos h2]at hF;rw[Ag hF];have:BK (sN L) L.length P (Eo L.length r) (j+1)=BK (sN L) L.length P (Eo L.length r) j:=S3 o (Ready.rounds o j).len h2 P.length (zzL7 _);rw[this]
  | succ d ih=>
   intro j hj;have hF:=VD hm o j;rw[if_neg (h1 j (by omega))]at hF;rw[An hF];exact ih (j+1) (by omega)
 exact key J 0 (by omega)
end
theorem ig(g:Cw)(r:Int)(h1:Fits g.Succ)(h2:Fits g.Pred):M9 g r=some (PF g r):=by
 unfold PF
 by_cases hc:X6 g=true/\0<=r/\r<(g.Succ.length:Int)
 ·rw[if_pos hc];obtain⟨hG,h0,hlt⟩:=hc;obtain⟨hm,hg⟩:=e7 hG;obtain⟨hL1,hL64,_⟩:=mayS_iff.1 hm
  have hr:r.toNat<g.Succ.length:=by omega
  have hrn:((r.toNat:Nat):Int)=r:=Uz h0;obtain⟨O,hO⟩:=Ord.exist (Uu hm) hr;have hord:=(KF g h1 trivial r).1 hG h0 hlt O hO;obtain⟨P,rfl,o⟩:=hO.ordered hr (Uu hm);obtain⟨J,hJ,hl⟩:=PG hm o;have ht:=(Zt o hJ).eq hm hr o;rw[ht]at hl;have hlen:(((Ox (r.toNat::P)).length:Int)==0)=false:=zzL22.2 (by simp[Ox];omega)
  have hlen2:(0:Int)<=1/\(1:Int)<=((Ox (r.toNat::P)).length:Int):=by simp[Ox];omega
  have hL2:Ov g (Ox (r.toNat::P))=Dp g (Ox (r.toNat::P)):=rfl
  have hst:(O5 (Eu g (Ox (r.toNat::P),Eo g.Succ.length r.toNat)) (Eu g))=some (Xb g.Succ r.toNat):=by
   rw[Zs,hg];exact hl
  unfold M9;rw[hord,As,hlen,Ay,bj hL1 hL64,As,Ad (kB h0 (by simpa using hlt)),Ad hlen2]
  have:(Eu g (Ox (r.toNat::P),Eo g.Succ.length r.toNat))=(Ai (Dp g (Ox (r.toNat::P))) (false,0,(List.replicate g.Succ.length (-2:Int)).set r.toNat (-1))).bind (λx22=>(match x22 with|(b10,l11)=>(bif b10 then(some (.next (Ox (r.toNat::P),l11))) else(some (.done l11))))):=by
   unfold Eu Eo;simp only[hL2];rw[Ad hlen2]
  rw[this]at hst;refine Eq.trans ?_ (B5 (λx:Option (List Int)=>x.bind λx42=>some x42) hst)
  rfl
 ·rw[if_neg hc];unfold M9
  have:(X6 g&&(decide (0<=r)&&decide (r<(g.Succ.length:Int))))=false:=by
   rw[Bool.eq_false_iff];intro h;rw[A2,A2,Dr,Dr]at h;exact hc h
  rw[(KF g h1 trivial r).2 this,As]
  rfl
theorem iH{α:Type}(l:List α)(d:α)(p:α->Bool){X:Type}(f:Int->Option (LR Int X))(yes no:X)(hl:l.length<9223372036854775808)(hk:∀ i:Nat,i<l.length->f i=some (bif p (l.getD i d) then .next (Bh ((i:Int)+1)) else .done no))
  (he:f l.length=some (.done yes)):Ai f (0:Int)=some (bif l.all p then yes else no):=by
 have:=Sg l d p f yes no (λi hi hp=>by rw[hk i hi,hp,Ae,Da hi hl]) (λi hi hp=>by rw[hk i hi,hp,Ay]) he l.length 0 (by omega);rwa[Ky]at this
theorem iU(f:Ab)(hf:dX f)(l:Int)(t:List Int)(u:List A6):Gi f l t u=some (bif Ub f then 0 else 4,f,l,t,u):=by
 unfold Gi Ic;rw[mE f hf,As]
 cases Ub f<;>rfl
theorem WO(phis:List Hc)(l:List Int)(h1:phis.length<9223372036854775808)(h2:l.length<4611686018427387904):Jk phis l=some (phis.all (G8 l)):=by
 unfold Jk
 rw[iH phis (default:Hc) (G8 l) (Hk phis l) (.inl ()) (.inr false) h1 (λi hi=>by
  unfold Hk
  have hd:decide ((i:Int)<(phis.length:Int))=true:=by simpa using hi
  simp only[hd,Ae,Aq (Bb hi),Dg,KE _ _ h2,As,G8]
  cases decide ((phis.getD i default).From=l) with
  | false=>rfl
  | true=>
   simp only[Fd,Ay,G0,bne]
   cases(((phis.getD i default).Args.length:Int)==(l.length:Int))<;>rfl) (by unfold Hk;simp),As]
 cases phis.all (G8 l)<;>rfl
def JL(e:Jb):Bool:=!((e.Kind==1 || e.Kind==3)&&(e.Arg !=0))
theorem WJ{n:Nat}(e:Jb)(hk:M6 e n=true):Hr e=some (JL e):=by
 have h4:0<=e.Kind/\e.Kind<=3:=by
  have:=(A2 _ _▸hk:NA e=true/\gy n e.To=true).1;unfold NA at this;simp only[A2,Dr]at this;omega
 unfold Hr JL
 have:e.Kind=0\/e.Kind=1\/e.Kind=2\/e.Kind=3:=by omega
 rcases this with h|h|h|h<;>rw[h]<;>cases hb:(e.Arg==0)<;>simp[hb,bne]
theorem SC{L:List (List Int)}(hm:Lj L=true){P:List Nat}(h0:0<L.length)(o:Ord (sN L) 0 P):decide (P.length<L.length) = !(List.range L.length).all λi=>(Qt L).getD i false:=by
 have hin:∀ x∈P,x<L.length:=λx hx=>(by obtain⟨Q,rfl,oo⟩:=o.ordered h0 (Uu hm);exact oo.lt hx)
 have hr:∀ z,(Qt L).getD z false=true↔z∈P:=λz=>by
  rw[o.mem z];exact W4 (Uu hm) h0 z
 have hle:=Lk L.length P o.nodup hin
 cases ha:(List.range L.length).all λi=>(Qt L).getD i false with
 | true=>
  have:=((List.perm_ext_iff_of_nodup o.nodup List.nodup_range).2 λi=>⟨λh=>zzL43.2 (hin i h),λh=>(hr i).1 (zzL27.1 ha i h)⟩:P.Perm (List.range L.length)).length_eq;rw[Zy]at this
  simp;omega
 | false=>
  obtain⟨i,hi,hni⟩:∃ i,i<L.length/\i∉P:=ES λhc=>by
   have:(List.range L.length).all (λi=>(Qt L).getD i false)=true:=zzL27.2 λi hi=>(hr i).2 (ES λhn=>hc ⟨i,by simpa using hi,hn⟩);rw[this]at ha;cases ha
  have:(i::P).length<=L.length:=Lk L.length (i::P) (zzL73.2 ⟨hni,o.nodup⟩) (λx hx=>by rcases zzL23.1 hx with rfl|hx;exact hi;exact hin x hx);simp at this ⊢;omega
theorem ay {f : Ab} (hf : OkF f) (l : Int) (t : List Int) (u : List A6) : ∃ t', Fi f l t u = some (bif F6 f then 0 else 5, f, l, t', u) ∧ (F6 f = true → t' = Bx f) := by
  have hmax : f.Blocks.length ≤ maxLen := by have := hf.blocks; have : (64 : Nat) ≤ maxLen := by decide
                                             omega
  unfold Fi; rw [mA f hmax, As]
  cases hs : Nk f with
  | false => exact ⟨t, by unfold F6; rw [hs]; rfl, fun h => by unfold F6 at h; rw [hs] at h; cases h⟩
  | true =>
    have hm := Sv hs; have hlen := W7 f
    have hpos : 0 < (Ej f).length := by have := (shape_iff.1 hs).1.1; omega
    obtain ⟨h1, h2⟩ := bQ hm; obtain ⟨P, hP⟩ := Ord.exist (Uu hm) hpos; have ho := (KF (Xs (Ej f)) h1 trivial 0).1 (NN hm) (by omega) (by show (0 : Int) < ((Ej f).length : Int); omega) P hP; have hfull := SC hm hpos hP; simp only [Ae, show (((0 : Int) != 0) == false) = true from rfl, show ((0 : Int) != 0) = false from rfl, Ay, ho, As, show (false == false) = true from rfl]
    have e1 : decide (((Ox P).length : Int) < (f.Blocks.length : Int)) = decide (P.length < (Ej f).length) := by
      rw [hlen]; apply zzL108.2; simp [Ox]
    rw [e1, hfull]
    have hsd : F6 f = (((List.range f.Blocks.length).all fun i => (Qt (Ej f)).getD i false) && (List.range f.Blocks.length).all fun i => JL (f.Blocks.getD i default).End && (f.Blocks.getD i default).Phis.all (G8 ((E9 (Ej f)).getD i []))) := by
      unfold F6; rw [hs, G0]
      have : ∀ (n : Nat) (p q : Nat → Bool), ((List.range n).all fun i => p i && q i) = ((List.range n).all p && (List.range n).all q) := fun n p q => by
        rw [L4, A2, zzL27, zzL27, zzL27]
        constructor
        · intro h; exact ⟨fun x hx => ((A2 _ _).mp (h x hx)).1, fun x hx => ((A2 _ _).mp (h x hx)).2⟩
        · intro h x hx; rw [A2]; exact ⟨h.1 x hx, h.2 x hx⟩
      rw [← this]
      congr 1
      funext i
      show (_ && _ && _) = _
      rw [Bool.and_assoc]
      rfl
    rw [hlen]; rw [hsd]
    cases hr : (List.range f.Blocks.length).all fun i => (Qt (Ej f)).getD i false with
    | false => exact ⟨t, rfl, fun h => by cases h⟩
    | true =>
      refine ⟨Bx f, ?_, fun _ => rfl⟩; rw [Fd, Ay, ig _ 0 h1 h2, As, G0]; have hp := Qs hm
      have hpl : (Xs (Ej f)).Pred.length = f.Blocks.length := by rw [← hlen]; exact Ng _
      have key : Ai (Cg f l u (Xs (Ej f), 0) (Bx f)) (0 : Int) = some (bif (List.range f.Blocks.length).all (fun i => JL (f.Blocks.getD i default).End && (f.Blocks.getD i default).Phis.all (G8 ((E9 (Ej f)).getD i []))) then .inl () else .inr ((5 : Int), f, l, Bx f, u)) := by
        have hk : ∀ i : Nat, i < f.Blocks.length → Cg f l u (Xs (Ej f), 0) (Bx f) (i : Int) = some (bif (JL (f.Blocks.getD i default).End && (f.Blocks.getD i default).Phis.all (G8 ((E9 (Ej f)).getD i []))) then .next ((i : Int) + 1) else .done (.inr ((5 : Int), f, l, Bx f, u))) := fun i hi => by
          have hB := hf.block _ (getD_mem (d := (default : Am)) hi); have hpi : B6 (i : Int) (Xs (Ej f)).Pred.length := Bb (by omega); have hpg : ((Xs (Ej f)).Pred.getD i []).length ≤ 64 := hp.2 _ (getD_mem (by rw [Ng]; omega)); unfold Cg
          have hd : decide ((i : Int) < (f.Blocks.length : Int)) = true := by simpa using hi
          simp only [hd, Ae, Aq (Bb hi), Aq hpi, Dg, WO (f.Blocks.getD i default).Phis ((Xs (Ej f)).Pred.getD i []) (by have := hB.phis; omega) (by omega), As]; have ha : Hr (⟨(f.Blocks.getD i default).End.Kind, (f.Blocks.getD i default).End.Arg, (f.Blocks.getD i default).End.To⟩ : Jb) = some (JL (f.Blocks.getD i default).End) := WJ (n := f.Blocks.length) (f.Blocks.getD i default).End ((shape_iff.1 hs).2 i hi); rw [ha, Da hi (by have := hf.blocks; omega)]
          show _ = some (bif (JL (f.Blocks.getD i default).End && (f.Blocks.getD i default).Phis.all (G8 ((Xs (Ej f)).Pred.getD i []))) then _ else _)
          cases (f.Blocks.getD i default).Phis.all (G8 ((Xs (Ej f)).Pred.getD i [])) <;> cases JL (f.Blocks.getD i default).End <;> rfl
        exact XB _ _ _ _ _ (fun i hi hp => by rw [hk i hi, hp]; rfl) (fun i hi hp => by rw [hk i hi, hp]; rfl) (by unfold Cg; simp)
      show ((Ai (Cg f l u (Xs (Ej f), 0) (Bx f)) (0 : Int)).bind _) = _
      rw [key, As]
      cases (List.range f.Blocks.length).all (fun i => JL (f.Blocks.getD i default).End && (f.Blocks.getD i default).Phis.all (G8 ((E9 (Ej f)).getD i []))) <;> rfl
theorem iM(o:Ds)(l:Int)(h0:0<=l)(h2:l<=2)(hk:I8 o=true):Mp o l=some (!decide (KD l<o.Kind)&&!(decide (l<2)&&decide (1<o.Lanes))):=by
 have hl:=bc hk
 have hK:o.Kind<=22:=by
  simp only[I8,A2]at hk;have:=hk.1.2.1.1.1;unfold bX at this;simp only[A2,Dr]at this;omega
 unfold Mp KD
 have:l=0\/l=1\/l=2:=by omega
 rcases this with rfl|rfl|rfl
 ·have ha:decide (o.Kind<=17) = !decide (17<o.Kind):=by rw[L4];simp
  have hb:(o.Lanes==1) = !decide (1<o.Lanes):=by rw[L4];simp;omega
  show some (bif decide (o.Kind<=17) then(o.Lanes==1) else false)=some (!decide (17<o.Kind)&&!(true&&decide (1<o.Lanes)))
  rw[ha,hb]
  cases decide (17<o.Kind)<;>cases decide (1<o.Lanes)<;>rfl
 ·have ha:decide (o.Kind<=20) = !decide (20<o.Kind):=by rw[L4];simp
  have hb:(o.Lanes==1) = !decide (1<o.Lanes):=by rw[L4];simp;omega
  show some (bif decide (o.Kind<=20) then(o.Lanes==1) else false)=some (!decide (20<o.Kind)&&!(true&&decide (1<o.Lanes)))
  rw[ha,hb]
  cases decide (20<o.Kind)<;>cases decide (1<o.Lanes)<;>rfl
 ·show some true=some (!decide (22<o.Kind)&&!(false&&decide (1<o.Lanes)))
  rw[Fc (by omega)]
  rfl
theorem WN(o:Ds)(ho:YX o)(f:Ab)(l:Int)(h0:0<=l)(h2:l<=2)(t:List Int)(u:List A6):E1 o f l t u=some (Mt l o,f,l,t,u):=by
 unfold E1 Mt;rw[CR o ho,As]
 cases hk:I8 o with
 | false=>rfl
 | true=>
  rw[show(true==true)=true from rfl,Ae,iM o l h0 h2 hk,As,Ae,G0]
theorem eG(b:Am){f:Ab}(hf:OkF f)(hb:b∈f.Blocks)(l:Int)(h0:0<=l)(h2:l<=2)(t:List Int)(u:List A6):Hi b.Ops f l t u=some (b.Ops.all (Mt l),f,l,t,u):=by
 have hB:=hf.block b hb
 have key:∀ k i:Nat,i+k=b.Ops.length->Ai (Eh b.Ops) ((i:Int),f.Params,f.Ret,f.Blocks,l,t,u)=some (bif (b.Ops.drop i).all (Mt l) then .inl (f.Params,f.Ret,f.Blocks,l,t,u) else .inr (false,f,l,t,u)):=by
  intro k
  induction k with
  | zero=>
   intro i h
   obtain rfl:i=b.Ops.length:=by omega
   rw[Ag (x:=.inl (f.Params,f.Ret,f.Blocks,l,t,u)) (by unfold Eh;simp)]
   simp
  | succ k ih=>
   intro i h
   have hi:i<b.Ops.length:=by omega
   have hd:decide ((i:Int)<(b.Ops.length:Int))=true:=by simpa using hi
   have hdr:b.Ops.drop i=b.Ops.getD i default::b.Ops.drop (i+1):=by rw[Mj hi,Aa _ _ _ hi]
   have hx:=WN (b.Ops.getD i default) (iu hf hb (getD_mem hi)) f l h0 h2 t u;rw[hdr,Rm]
   cases ho:Mt l (b.Ops.getD i default) with
   | true=>
    rw[ho]at hx
    rw[An (s':=(((i+1:Nat):Int),f.Params,f.Ret,f.Blocks,l,t,u)) (by
     unfold Eh;simp only[hd,Ae,Aq (Bb hi),Dg,hx,As,Fd,Ay,Da hi (by have:=hB.ops;omega)]
     rfl),ih (i+1) (by omega),G0]
   | false=>
    rw[ho]at hx
    rw[Ag (x:=.inr (false,f,l,t,u)) (by
     unfold Eh
     simp only[hd,Ae,Aq (Bb hi),Dg,hx,As,L5])]
    rfl
 unfold Hi;rw[show(0:Int)=((0:Nat):Int) from rfl,key b.Ops.length 0 (by omega),Ky,As]
 cases b.Ops.all (Mt l)<;>rfl
theorem ap(b:Am)(h:b.Phis.length<9223372036854775808):G2 b.Phis=some (b.Phis.all λp=>D9 p.Bits):=by
 unfold G2
 rw[iH b.Phis (default:Hc) (λp=>D9 p.Bits) (Fh b.Phis) (.inl ()) (.inr false) h (λi hi=>by
  unfold Fh Lg
  have hd:decide ((i:Int)<(b.Phis.length:Int))=true:=by simpa using hi
  simp only[hd,Ae,Aq (Bb hi),Dg,Po,As]
  cases D9 (b.Phis.getD i default).Bits<;>rfl) (by unfold Fh;simp),As]
 cases b.Phis.all λp=>D9 p.Bits<;>rfl
theorem ao(p:List Int)(h:p.length<9223372036854775808):Jj p=some (p.all D9):=by
 unfold Jj
 rw[iH p (0:Int) D9 (Hj p) (.inl ()) (.inr false) h (λi hi=>by
  unfold Hj
  have hd:decide ((i:Int)<(p.length:Int))=true:=by simpa using hi
  simp only[hd,Ae,Aq (Bb hi),Dg,Po,As]
  cases D9 (p.getD i 0)<;>rfl) (by unfold Hj;simp),As]
 cases p.all D9<;>rfl
theorem JQ(b:Am){f:Ab}(hf:OkF f)(hb:b∈f.Blocks)(l:Int)(h0:0<=l)(h2:l<=2)(t:List Int)(u:List A6):D0 b f l t u=some (Hg l b,f,l,t,u):=by
 unfold D0 Hg;rw[ap b (by have:=(hf.block b hb).phis;omega),As,eG b hf hb l h0 h2 t u]
 cases(b.Phis.all λp=>D9 p.Bits)<;>rfl
theorem eK{f:Ab}(hf:OkF f)(l:Int)(h0:0<=l)(h2:l<=2)(t:List Int)(u:List A6):F2 f l t u=some (bif S4 f l then 0 else 6,f,l,t,u):=by
 have key:∀ k i:Nat,i+k=f.Blocks.length->Ai (Do f.Blocks) ((i:Int),f.Params,f.Ret,f.Blocks,l,t,u)=some (bif (f.Blocks.drop i).all (Hg l) then .inl (f.Params,f.Ret,f.Blocks,l,t,u) else .inr (false,f,l,t,u)):=by
  intro k
  induction k with
  | zero=>
   intro i h
   obtain rfl:i=f.Blocks.length:=by omega
   rw[Ag (x:=.inl (f.Params,f.Ret,f.Blocks,l,t,u)) (by unfold Do;simp)]
   simp
  | succ k ih=>
   intro i h
   have hi:i<f.Blocks.length:=by omega
   have hd:decide ((i:Int)<(f.Blocks.length:Int))=true:=by simpa using hi
   have hdr:f.Blocks.drop i=f.Blocks.getD i default::f.Blocks.drop (i+1):=by rw[Mj hi,Aa _ _ _ hi]
   have hx:=JQ (f.Blocks.getD i default) hf (getD_mem hi) l h0 h2 t u;rw[hdr,Rm]
   cases ho:Hg l (f.Blocks.getD i default) with
   | true=>
    rw[ho]at hx
    rw[An (s':=(((i+1:Nat):Int),f.Params,f.Ret,f.Blocks,l,t,u)) (by
     unfold Do;simp only[hd,Ae,Aq (Bb hi),Dg,hx,As,Fd,Ay,Da hi (by have:=hf.blocks;omega)]
     rfl),ih (i+1) (by omega),G0]
   | false=>
    rw[ho]at hx
    rw[Ag (x:=.inr (false,f,l,t,u)) (by
     unfold Do
     simp only[hd,Ae,Aq (Bb hi),Dg,hx,As,L5])]
    rfl
 have hall:F1 f.Blocks f l t u=some (f.Blocks.all (Hg l),f,l,t,u):=by
  unfold F1;rw[show(0:Int)=((0:Nat):Int) from rfl,key f.Blocks.length 0 (by omega),Ky,As]
  cases f.Blocks.all (Hg l)<;>rfl
 unfold F2 S4 Ic;rw[ao _ (by have:=hf.few;omega),As,hall,Po]
 cases f.Params.all D9<;>cases D9 f.Ret<;>cases f.Blocks.all (Hg l)<;>rfl
end
end Go.Proofs.YtiendmljhgbjoaaGreat
