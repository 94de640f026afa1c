/-
  The machine, the program's functions and the laws' arithmetic: part 4 of 5.
-/
import Derived.Test.YtiendmljhgbjoaaGreatPk3
import Derived.Lib.RowBridge
import Derived.OpenShut
import Derived.ShutString
set_option linter.unusedSectionVars false
set_option linter.unusedVariables false
set_option linter.unusedSimpArgs false
namespace Go.Proofs.YtiendmljhgbjoaaGreat
noncomputable section
open Go Go.RowKit
set_option maxRecDepth 100000
set_option maxHeartbeats 2000000
abbrev EP:=(Int×(Int×Int))
abbrev k7:=(LR (List (Int×(Int×Int))) (List (Int×(Int×Int))))
def H3 :List EP->Option k7:=
 λ(l4:List EP)=>(some (.done l4))
def Gh(x1:SZ):Nat->List EP->Option k7:=
 λ(n3:Nat) (l4:List EP)=>(some (.next (Ek l4 (x1.2.2.2.2.2.getD n3 ((0:Int),(default:Ak))).1 (((x1.2.2.2.2.2.getD n3 ((0:Int),(default:Ak))).2).shape.1,((x1.2.2.2.2.2.getD n3 ((0:Int),(default:Ak))).2).shape.2))))
def YQ(x1:SZ)(n3:Nat):=(x1.2.2.2.2.2.getD n3 ((0:Int),(default:Ak)))
def ge(x1:SZ):=(mapE (λ(v_:Ak)=>((Pb v_):AV)) x1.2.2.2.2.2)
def me(a4:Ab):AV:=(.agg [(Z9 a4.Params),(Z6 a4.Ret),(YR a4.Blocks),dj,gi,.nilm,(AV.list 5 Jb default ([]:List A7) .exact)])
def md(a4:Ab):=(⟨[(3,(.ptr 3 0))],[(3,.row 110 [(Z9 a4.Params),(Z6 a4.Ret),(YR a4.Blocks),dj,gi,.nilm,(AV.list 5 Jb default ([]:List A7) .exact)])],[]⟩:St)
def lw(a4:Ab):=(⟨[(3,(.ptr 3 0))],[(3,.row 110 [(Z9 a4.Params),(Z6 a4.Ret),(YR a4.Blocks),dj,gi,.nilm,(AV.list 5 Jb default ([]:List A7) (.own 50306))]),(50306,.tok 5 195 (([]:List A7).length))],[]⟩:St)
def Kk(a4:Ab):Option (List (Int×(Int×Int))):=
 ((F5 a4 (2:Int) ([]:Aw) ([]:List A7)).bind λx1=>(bif (x1.1 !=0) then(some ([]:List EP)) else((Vq (S:=List EP) (X:=List EP) HL ((mapE (λ(v_:Ak)=>((.agg (P0 v_)):AV)) x1.2.2.2.2.2).length) (Gh x1) H3 ([]:List EP)).bind (λx6=>(some x6)))))
variable{v0:Ab}{v32:List EP}
theorem AK(h:Kk v0=some v32):sP 36 [(.agg (X2 v0))] [] (.omap 20000) [(20000,.obj (.pmap false .i64 (mapE (λ(v_:Gq)=>((BV v_):AV)) v32)))]:=
 sG Tryz.func36 λΓ q=>Aq q [1] [1] (gR q [3] [3] [(8,(me v0))] [] (c1 (show(AVle (.agg [(Z9 v0.Params),(Z6 v0.Ret),(YR v0.Blocks),dj,Z5,.nilm,Z5]) (me v0)) from(AVle.agg (.cons (AVle.refl _) (.cons (AVle.refl _) (.cons (AVle.refl _) (.cons (AVle.refl _) (.cons D1 (.cons (AVle.refl _) (.cons D1 .nil)))))))))) (Tt (md v0) (M1 (show Le Γ _ (lw v0) from Le.trans (Dw (st':=(md v0)) [3] [3] q) (Le.trans (N8 (r:=3) (j:=6) (nm:=50306) (sz':=5) (λi=>Jb (([]:List A7).getD i default)) 195 rfl rfl (nl rfl) rfl (.inl ⟨rfl,rfl⟩) (λh_=>absurd h_ (by decide))) (Dw (st':=(lw v0)) [3] [3,50306] q))) (M1 (show Le Γ _ (⟨[(3,(.ptr 3 0))],[(3,.row 110 [(Z9 v0.Params),(Z6 v0.Ret),(YR v0.Blocks),dj,(AV.list 1 Ax 0 ([]:Aw) .none),.nilm,(AV.list 5 Jb default ([]:List A7) (.own 50306))]),(50306,.tok 5 195 (([]:List A7).length))],[]⟩:St) from Le.trans (Dw (st':=(lw v0)) [3] [3,50306] q) (Kj (.cons (AVle.refl _) .nil) (.row (.cons (AVle.refl _) (.cons (AVle.refl _) (.cons (AVle.refl _) (.cons (AVle.refl _) (.cons AVle.untag (.cons (AVle.refl _) (.cons (AVle.refl _) .nil))))))) (.same .nil)))) (tB h λx1 y1 h=>tT q [3,10] [3,50306,10000305] [⟨[(3,30000),(50306,37006)],[(9200005,10000305)],(Z6 x1.1),(kJ x1.2.1.Params x1.2.1.Ret x1.2.1.Blocks x1.2.2.1 x1.2.2.2.1 9200005 x1.2.2.2.2.1 x1.2.2.2.2.1.length (ge x1)),[],[]⟩] (c1 (Ql y1)) (gC h (λh=>Aq q [2] [] (Tt (⟨[(2,.nilm)],[],[]⟩:St) (tS h (gK (e:=.ret) (K3 [(36002,20000)] (Le.trans (Le.trans (fG (t:=2) (nm:=36002) .i64 rfl rfl) (Dw (st':=⟨[(2,(.omap 36002))],[(36002,.obj (.map false .i64 (mapE (λ(v_:Gq)=>((BV v_):AV)) ([]:List EP))))],[]⟩) [2] [36002] q)) (mo 36002 false .i64 (f:=(λ(v_:Gq)=>((BV v_):AV))) XR))))))) λh=>gR q [3,4] [3,14,50306,10000305] [(13,(FA x1.2.2.2.2.2.length))] [] (c1 (show(AVle (.int .i64 ((ge x1).length:Int)) (FA x1.2.2.2.2.2.length)) from(fS (f:=(λ(v_:Ak)=>((Pb v_):AV))) (l:=x1.2.2.2.2.2) rfl))) (M1 (Sf (λ(k_:List FY) u=>Fv u [] [(YS 14 k_)]) (show[]=(mapE (λ(v_:Gq)=>((BV v_):AV)) ([]:List EP)) from rfl)) (Aq q [4,17] VN (tB h λx6 y6 h=>nF q y6 [4,17] VN (λu z2 l4=>(Fv u [] [(14,.obj (.map true .i64 (mapE (λ(v_:Gq)=>((BV v_):AV)) l4))),(17,.obj (.miter (.omap 10000305) ((ge x1).length) z2))])) (λu l5=>aG Γ (.exit 0) (Xv [4] [14] u [] [(14,.obj (.map true .i64 (mapE (λ(v_:Gq)=>((BV v_):AV)) l5)))])) 17 18 19 17 10000305 false .i64 (ge x1) [4,17,19] VN (kd:=(λz2 l4 y h hall=>WZ false (tS h (gO (Ed (Dw [4] [14] q)))))) (kn:=(λz2 l4 n3 y h hin3 hnn3=>WZ true (gR q [4,5,6,17] [6,14,17,10000305] [(20,(.tuple [(.int .i64 (YQ x1 n3).1),(.agg (P0 ((YQ x1 n3).2)))]))] [] (c3 (Eq.refl ((ge x1).length)) (show(n3<(ge x1).length) from hin3) (show(AVle (.tuple [.int .i64 ((ge x1).getD n3 (0,.any)).1,((ge x1).getD n3 (0,.any)).2]) (.tuple [(.int .i64 (YQ x1 n3).1),(.agg (P0 ((YQ x1 n3).2)))])) from(fQ (f:=(λ(v_:Ak)=>((Pb v_):AV))) (l:=x1.2.2.2.2.2) hin3))) (Aq q [4,17] VN (tS h (gN (Le.trans (Sf (λ(k_:List FY) u=>Fv u [] [(YS 14 k_)]) (show(Ek (mapE (λ(v_:Gq)=>((BV v_):AV)) l4) (YQ x1 n3).1 (.agg [(.int .i64 ((YQ x1 n3).2).shape.1),(.int .i64 ((YQ x1 n3).2).shape.2)]))=(mapE (λ(v_:Gq)=>((BV v_):AV)) (Ek l4 (YQ x1 n3).1 (((YQ x1 n3).2).shape.1,((YQ x1 n3).2).shape.2))) from(Wu (f:=(λ(v_:Gq)=>((BV v_):AV))) (l:=l4) (v:=(((YQ x1 n3).2).shape.1,((YQ x1 n3).2).shape.2)) rfl rfl))) Nu))))))) (ko:=(λl_ hp_=>gy (λst' hl7=>M1 (Le.trans hl7 (mo 14 true .i64 (f:=(λ(v_:Gq)=>((BV v_):AV))) hp_)) (Aq q [2] [14] (Tt (⟨[(2,(.omap 14))],[(14,.obj (.pmap true .i64 (mapE (λ(v_:Gq)=>((BV v_):AV)) x6)))],[]⟩:St) (tS h (gK (e:=.ret) (K3 [(14,20000)] (nI 14 .i64 (mapE (λ(v_:Gq)=>((BV v_):AV)) x6)))))))))))))))))))
abbrev gW:=(Int×List (Int×Bv))
abbrev k9:=(LR (Int×List (Int×Bv)) (List (Int×Bv)))
abbrev Yv:=(Int×Bv)
def G5(a4:Ab)(i1:Int):gW->Option k9:=
 λ((i5,l6):gW)=>(bif (decide (i5<(((a4.Blocks.getD i1.toNat default).Ops).length:Int))) then(Option.bind (α:=List Yv) (Cs (B9 i5 ((a4.Blocks.getD i1.toNat default).Ops).length) (Option.bind (α:=Bool) (bif (((((a4.Blocks.getD i1.toNat default).Ops).getD i5.toNat default).Kind:Int)==0) then(some (((((a4.Blocks.getD i1.toNat default).Ops).getD i5.toNat default).Kind:Int)==0)) else(bif (((((a4.Blocks.getD i1.toNat default).Ops).getD i5.toNat default).Kind:Int)==1) then(some (((((a4.Blocks.getD i1.toNat default).Ops).getD i5.toNat default).Kind:Int)==1)) else(bif (((((a4.Blocks.getD i1.toNat default).Ops).getD i5.toNat default).Kind:Int)==2) then(some (((((a4.Blocks.getD i1.toNat default).Ops).getD i5.toNat default).Kind:Int)==2)) else(bif (((((a4.Blocks.getD i1.toNat default).Ops).getD i5.toNat default).Kind:Int)==3) then(some (((((a4.Blocks.getD i1.toNat default).Ops).getD i5.toNat default).Kind:Int)==3)) else(some (((((a4.Blocks.getD i1.toNat default).Ops).getD i5.toNat default).Kind:Int)==8)))))) (λx11=>(bif x11 then(some (Ek l6 (((a4.Blocks.getD i1.toNat default).Ops).getD i5.toNat default).Dst (((a4.Blocks.getD i1.toNat default).Ops).getD i5.toNat default))) else(some l6))))) (λx13=>(some (.next ((Bh (i5+1)),x13))))) else(some (.done l6)))
def G6(a4:Ab):gW->Option k9:=
 λ((i1,l2):gW)=>(bif (decide (i1<(a4.Blocks.length:Int))) then(Cs (B9 i1 a4.Blocks.length) ((Aj (G5 a4 i1) ((0:Int),l2)).bind (λx15=>(some (.next ((Bh (i1+1)),x15)))))) else(some (.done l2)))
def EZ:=(λ(v_:Bv)=>((V0 v_):AV))
def ZK(a4:Ab)(i1:Int)(i5:Int):=(((a4.Blocks.getD i1.toNat default).Ops).getD i5.toNat default)
abbrev TA:=(List (Int×Bv))
def Lt(a4:Ab):Option TA:=
 ((Aj (G6 a4) ((0:Int),([]:List Yv))).bind (λx17=>(some x17)))
variable{v33:List Yv}
theorem DF(h:Lt v0=some v33):sP 37 [(.agg (X2 v0))] [] (.omap 20000) [(20000,.obj (.map true .i64 (mapE (λ(v_:Bv)=>((V0 v_):AV)) v33)))]:=
 sG Tryz.func37 λΓ q=>tW q [1] [1] [1,3] [1,8] (M1 (Sf (λ(k_:List FY) u=>Fv u [] [(8,.obj (.map true .i64 k_))]) (show[]=(mapE EZ ([]:List Yv)) from rfl)) (Aq q Xr [8] (tL q h Xr [8] (λu (i1,l2)=>(Fv u [(12,(Z6 i1))] [(8,.obj (.map true .i64 (mapE EZ l2)))])) (λu l3=>aG Γ (.exit 0) (Xv [3] [8] u [] [(8,.obj (.map true .i64 (mapE EZ l3)))])) (λ⟨i1,l2⟩ y h=>Aq q [3,10,11,12,13] [8] (gC h (λh=>tV q [3,5,10,11,12] [5,8] h λh=>Aq q PN [8] (tL q h PN [8] (λu (i5,l6)=>(Fv u [(19,(Z6 i5))] [(8,.obj (.map true .i64 (mapE EZ l6)))])) (λu l7=>aG Γ (.exit 2) (Xv Xr [8] u [] [(8,.obj (.map true .i64 (mapE EZ l7)))])) (λ⟨i5,l6⟩ y h=>Aq q [3,10,11,12,17,18,19,20] [8] (gC h (λh=>tB h λx13 y13 h=>gJ y13 (λl8=>aG Γ .normal (⟨[(3,(.omap 8)),(10,(YR v0.Blocks)),(11,(FA v0.Blocks.length)),(12,(Z6 i1)),(17,(AV.list 6 AH default (v0.Blocks.getD i1.toNat default).Ops .none)),(18,(.int .i64 (((v0.Blocks.getD i1.toNat default).Ops).length:Int))),(19,(Z6 i5))],[(8,.obj (.map true .i64 (mapE EZ l8)))],[]⟩:St)) (λy h=>tV q [3,7,10,11,12,17,18,19] L8 h λh=>Aq q [3,7,10,11,12,17,18,19,24] L8 (tB h λx11 y11 h=>gJ y11 (λb10=>aG Γ .normal (⟨[(3,(.omap 8)),(7,(.ptr 7 0)),(10,(YR v0.Blocks)),(11,(FA v0.Blocks.length)),(12,(Z6 i1)),(17,(AV.list 6 AH default (v0.Blocks.getD i1.toNat default).Ops .none)),(18,(.int .i64 (((v0.Blocks.getD i1.toNat default).Ops).length:Int))),(19,(Z6 i5)),(25,(.bool b10))],[(7,.row 43 [(.int .i64 (ZK v0 i1 i5).Kind),(.int .i64 (ZK v0 i1 i5).Bits),(.int .i64 (ZK v0 i1 i5).Lanes),(.int .i64 (ZK v0 i1 i5).Dst),(AV.list 1 Ax 0 (ZK v0 i1 i5).Args .none),(.int .u64 (ZK v0 i1 i5).Imm)]),(8,.obj (.map true .i64 (mapE EZ l6)))],[]⟩:St)) (λy h=>Aq q VG L8 (gC h (λh=>tS h (gK (Ed (Dw PK L8 q)))) λh=>Aq q VG L8 (gC h (λh=>tS h (gK (Ed (Dw PK L8 q)))) λh=>Aq q VG L8 (gC h (λh=>tS h (gK (Ed (Dw PK L8 q)))) λh=>Aq q VG L8 (gC h (λh=>tS h (gK (Ed (Dw PK L8 q)))) λh=>Aq q PK L8 (tS h (gK (Ed Nu)))))))) (gA (gC h (λh=>Aq q PN [8] (tS h (gK (Ed (Le.trans (Sf (λ(k_:List FY) u=>Fv u [] [(8,.obj (.map true .i64 k_))]) (show(Ek (mapE EZ l6) (ZK v0 i1 i5).Dst (V0 (ZK v0 i1 i5)))=(mapE EZ (Ek l6 (ZK v0 i1 i5).Dst (ZK v0 i1 i5))) from(Wu (f:=EZ) (l:=l6) (v:=(ZK v0 i1 i5)) rfl rfl))) Nu))))) λh=>tS h (gK (Ed (Dw PN [8] q))))))) (gA (Aq q PN [8] (tN h)))) λh=>tS h (gO (Ed (Dw Xr [8] q))))) λx15 h=>gA (Aq q Xr [8] (tN h)))) λh=>tS h (gO (Ed (Dw [3] [8] q))))) λx17 h=>gA (Aq q [2] [8] (tS h (C3 [(8,20000)]))))))
def Hr(a3:An):Gq->Option mr:=
 λ((i1,i2):Gq)=>(bif (decide (i2<(a3.Terms.length:Int))) then(Cs (B9 i2 a3.Terms.length) (bif (bif (bif (decide (((a3.Terms.getD i2.toNat default).V:Int)<=i1)) then true else(decide ((1023:Int)<(a3.Terms.getD i2.toNat default).V))) then true else(((a3.Terms.getD i2.toNat default).Scale:Int)==0)) then(some (.done (.inr false))) else(some (.next ((a3.Terms.getD i2.toNat default).V,(Bh (i2+1))))))) else(some (.done (.inl ()))))
def IZ(Γ:Gs)(a3:An)(r:Bool):Exit->St->Prop:=fK Tryz.prog Γ Tryz.f13.results.toList [] (.bool r) []
def jr(a3:An)(i2:Int)(i1:Int):=(bif (decide (((a3.Terms.getD i2.toNat default).V:Int)<=i1)) then true else(decide ((1023:Int)<(a3.Terms.getD i2.toNat default).V)))
def Es(a3:An):Option Bool:=
 ((Aj (Hr a3) ((0:Int),(0:Int))).bind (λx4=>(match x4 with|(.inl _)=>(some true)|(.inr r6)=>(some r6))))
variable{v3:Bool}{v34:An}
theorem Gx(h:Es v34=some v3):sP 13 [(M4 v34)] [] (.bool v3) []:=
 sG Tryz.func13 λΓ q=>tW q [1] [1] [1,3] [1] (Aq q LF [] (tL q h LF [] (λu (i1,i2)=>(Fv u [(3,(Z6 i1)),(9,(Z6 i2))] [])) (λu x_=>match x_ with|(.inl _)=>aG Γ (.exit 0) (⟨[],[],[]⟩:St)|(.inr r_)=>aR (IZ Γ v34 r_)) (λ⟨i1,i2⟩ y h=>Aq q [3,7,8,9,10] [] (gC h (λh=>tV q [3,5,7,8,9] [5] h λh=>tU q [5,7,8,9,26] [5] (Tu ((decide (((v34.Terms.getD i2.toNat default).V:Int)<=i1))==false) (ci (Sb (decide (((v34.Terms.getD i2.toNat default).V:Int)<=i1))) (Tu ((jr v34 i2 i1)==false) (c1 (Sb (jr v34 i2 i1)))))) (gC h (λh=>Aq q [2] [] (tS h (gO (R0 (K3 [] (Le.refl _ _)))))) λh=>tW q LF [] LF [] (tN h))) λh=>tS h (gO (Ed (Dw [] [] q))))) λx4 h=>(match x4,h with | .inl _,h=>gA (Aq q [2] [] (tS h (C3 []))) | .inr r6,h=>V1 (λst' hk=>tS h (gK hk)))))
def Jm(aH:Int)(aI:Int):Option Int:=
 (some (Ez (aH+aI)))
variable{v1:Int}{v11:Int}{v20:Int}
theorem Pf(h:Jm v1 v11=some v20):sP 29 [(Ja v1),(Ja v11)] [] (.int .u64 v20) []:=
 sG Tryz.func29 λΓ q=>tW q G0 [] [4] [] (tS h (C3 []))
def Cp(aW:List Ai):Option Int:=
 (bif ((aW.length:Int)==0) then(some (1024:Int)) else(Cs (B9 (0:Int) aW.length) (some ((aW.getD (0:Int).toNat (default:Ai)).V))))
variable{v35:List Ai}
theorem Fe(h:Cp v35=some v1):sP 67 [(Z8 v35)] [] (.int .i64 v1) []:=
 sG Tryz.func67 λΓ q=>tW q [0] [] [0,5] [] (gC h (λh=>Aq q [2] [] (tS h (C3 []))) λh=>tV q [2] [] h λh=>tS h (C3 []))
def C4(aW:List Ai)(a8:Int):Option (Int×List Ai):=
 ((Cp aW).bind λx1=>(bif (x1 !=a8) then(some ((0:Int),aW)) else(Cs (B9 (0:Int) aW.length) (Cs (0<=(1:Int)/\(1:Int)<=(aW.length:Int)) (some ((aW.getD (0:Int).toNat (default:Ai)).Scale,(aW.drop (1:Int).toNat)))))))
variable{v36:(Int×List Ai)}
theorem Gb(h:C4 v35 v1=some v36):sP 68 [(Z8 v35),(Z6 v1)] [] (.tuple [(Ja v36.1),(Z8 v36.2)]) []:=
 sG Tryz.func68 λΓ q=>gR q G0 [] [(5,ZO)] [] (c1 (It 2 D2 (default:Ai))) (tB h λx1 y1 h=>tT q [0,9] [] [(VZ x1)] (c1 (Fe y1)) (gC h (λh=>Aq q Rn [] (tS h (C3 []))) λh=>tC h λc2_ h=>tC h λc3_ h=>gR q Rn [] [(16,(AV.list 2 D2 default (v35.drop (1:Int).toNat) .none))] [] (c3 c2_ c3_ (show(AVle (.slice 2 (v35.length-(1:Int).toNat) (λi=>D2 (v35.getD ((1:Int).toNat+i) default)) .none) (AV.list 2 D2 default (v35.drop (1:Int).toNat) .none)) from JK)) (tS h (C3 []))))
abbrev YL:=(List Ai×List Ai×List Ai)
abbrev lA:=(LR (List Ai×List Ai×List Ai) (List Ai))
def Nc :YL->Option lA:=
 λ((l4,l5,l6):YL)=>(bif (bif (decide ((0:Int)<(l4.length:Int))) then true else(decide ((0:Int)<(l5.length:Int)))) then((Cp l4).bind λx8=>((Cp l5).bind λx9=>((C4 l4 (if x9<x8 then x9 else x8)).bind λx10=>((C4 l5 (if x9<x8 then x9 else x8)).bind λx11=>((Jm x10.1 x11.1).bind λx12=>(bif (x12 !=0) then(Cs (l6.length+([(⟨(if x9<x8 then x9 else x8),x12⟩:Ai)]:List Ai).length<=room) (some (.next (x10.2,x11.2,(l6++([(⟨(if x9<x8 then x9 else x8),x12⟩:Ai)]:List Ai)))))) else(some (.next (x10.2,x11.2,l6))))))))) else(some (.done l6)))
def jt(l4:List Ai):=(decide ((0:Int)<(l4.length:Int)))
def QJ:AV:=ZO
def dw(x9:Int)(x8:Int)(x12:Int):=([(⟨(if x9<x8 then x9 else x8),x12⟩:Ai)]:List Ai)
def js(a3:An)(a2:An)(x3:Int):=((mh 29 a3.Terms a3.Off a2.Terms a2.Off x3):St)
def Mb(a3:An)(a2:An):Option An:=
 ((Es a3).bind λx1=>((bif ((!x1)==false) then Es a2 else some false).bind λx2=>(bif (bif (!x1) then true else(!x2)) then(some (⟨([]:List Ai),(0:Int)⟩:An)) else((Jm a3.Off a2.Off).bind λx3=>((Aj (S:=YL) (X:=List Ai) Nc (a3.Terms,a2.Terms,([]:List Ai))).bind (λx14=>(some (⟨x14,x3⟩:An))))))))
variable{v37:An}{v38:An}
theorem Yf(h:Mb v34 v37=some v38):sP 28 [(M4 v34),(M4 v37),(.clo 29 [] [])] [] (M4 v38) []:=
 sG Tryz.func28 λΓ q=>Aq q [2,3,4,6] [3,4,6] (tB h λx1 y1 h=>tB h λx2 y2 h=>tT q TG [3,4,6] [(Z2 x1),(Z2 x2)] (c5 (Gx y1) (gI ((!x1)==false)) (λ(hg:((!x1)==false)=true)=>(Gx (Br hg y2))) (gI ((!x1)==false)) (Sb (!x1))) (gC h (λh=>gR q [6] [6] [(20,(.agg [QJ,Nz]))] [] (c1 (show(AVle (.agg [Z5,Nz]) (.agg [QJ,Nz])) from(AVle.agg (.cons D1 (.cons (AVle.refl _) .nil))))) (Tt (⟨[QD],[(6,.row 25 [QJ,Nz])],[]⟩:St) (tS h (gK (e:=.ret) (K3 [] (show Le Γ _ (⟨[QD],[(6,.row 25 [iV,Nz])],[]⟩:St) from Le.trans (Dw (st':=⟨[QD],[(6,.row 25 [QJ,Nz])],[]⟩) [6] [6] q) (Kj (.cons (AVle.refl _) .nil) (.row (.cons AVle.untag (.cons (AVle.refl _) .nil)) .nil)))))))) λh=>tB h λx3 y3 h=>gR q Lc LG [(27,(.agg [QJ,(Ja x3)]))] [⟨[],[],(Ja x3),[],[],[]⟩] (c2 (Pf y3) (show(AVle (.agg [Z5,(Ja x3)]) (.agg [QJ,(Ja x3)])) from(AVle.agg (.cons D1 (.cons (AVle.refl _) .nil))))) (M1 (st':=(js v34 v37 x3)) (Le.trans (Dw (st':=(mj 29 v34.Terms v34.Off v37.Terms v37.Off QJ x3)) Lc LG q) (Le.trans (N8 (r:=7) (j:=0) (nm:=5700) (sz':=2) (λi=>D2 (([]:List Ai).getD i default)) 51 rfl rfl (nl rfl) rfl (.inl ⟨rfl,rfl⟩) (λh_=>absurd h_ (by decide))) (Dw (st':=(js v34 v37 x3)) Lc Nx q))) (tL q h Lc Nx (λu (l4,l5,l6)=>(Fv u [] [(3,.row 25 [(Z8 l4),(Ja v34.Off)]),(4,.row 25 [(Z8 l5),(Ja v37.Off)]),(ji l6 x3),(5700,.tok 2 51 l6.length)])) (λu l7=>aG Γ (.exit 0) (Xv Ps LH u [] [(ji l7 x3),(5700,.tok 2 51 l7.length)])) (λ⟨l4,l5,l6⟩ y h=>tU q da Nx (QE ((jt l4)==false) (c1 (Sb (jt l4)))) (gC h (λh=>tB h λx8 y8 h=>tB h λx9 y9 h=>tT q IK Nx [(VZ x8),(VZ x9)] (c2 (Fe y8) (Fe y9)) (Aq q IK Nx (tB h λx10 y10 h=>tT q dZ Nx [(jl x10.1 x10.2)] (c1 (Gb y10)) (tB h λx11 y11 h=>tT q dV Nx [(jl x11.1 x11.2)] (c1 (Gb y11)) (tB h λx12 y12 h=>tT q dX Nx [⟨[],[],(Ja x12),[],[],[]⟩] (c1 (Pf y12)) (Aq q dU Nx (gC h (λh=>tC h λc13_ h=>gR q Lc Nx (ly (dw x9 x8 x12) l6) [] (c5 (Bq 2 D2 (default:Ai) (dw x9 x8 x12)) (Eq.refl l6.length) c13_ (V8 2 5700 D2 (default:Ai) l6 (dw x9 x8 x12)) (Iv l6 (dw x9 x8 x12))) (tN h)) λh=>tS h (gN (Dw Lc Nx q))))))))) λh=>tS h (gO (Ed (Dw Ps LH q))))) λx14 h=>gA (Aq q [6] [6,5700] (tS h (C3 [])))))))
def Jh(a3:An)(aM:An):Option An:=
 ((Mb a3 aM).bind λx1=>(some x1))
theorem Sl(h:Jh v34 v37=some v38):sP 10 [(M4 v34),(M4 v37)] [] (M4 v38) []:=
 sG Tryz.func10 λΓ q=>Aq q IV IV (tB h λx1 y1 h=>tT q [4] [4] [(VY x1)] (c1 (Yf y1)) (tS h (C3 [])))
def Iw(aH:Int)(aI:Int):Option Int:=
 (some (Ez (aH-aI)))
theorem Of(h:Iw v1 v11=some v20):sP 30 [(Ja v1),(Ja v11)] [] (.int .u64 v20) []:=
 sG Tryz.func30 λΓ q=>tW q G0 [] [4] [] (tS h (C3 []))
def K7 :YL->Option lA:=
 λ((l4,l5,l6):YL)=>(bif (bif (decide ((0:Int)<(l4.length:Int))) then true else(decide ((0:Int)<(l5.length:Int)))) then((Cp l4).bind λx8=>((Cp l5).bind λx9=>((C4 l4 (if x9<x8 then x9 else x8)).bind λx10=>((C4 l5 (if x9<x8 then x9 else x8)).bind λx11=>((Iw x10.1 x11.1).bind λx12=>(bif (x12 !=0) then(Cs (l6.length+([(⟨(if x9<x8 then x9 else x8),x12⟩:Ai)]:List Ai).length<=room) (some (.next (x10.2,x11.2,(l6++([(⟨(if x9<x8 then x9 else x8),x12⟩:Ai)]:List Ai)))))) else(some (.next (x10.2,x11.2,l6))))))))) else(some (.done l6)))
def jx(l4:List Ai):=(decide ((0:Int)<(l4.length:Int)))
def QK:AV:=ZO
def dy(x9:Int)(x8:Int)(x12:Int):=([(⟨(if x9<x8 then x9 else x8),x12⟩:Ai)]:List Ai)
def ju(a3:An)(a2:An)(x3:Int):=((mh 30 a3.Terms a3.Off a2.Terms a2.Off x3):St)
def Ju(a3:An)(a2:An):Option An:=
 ((Es a3).bind λx1=>((bif ((!x1)==false) then Es a2 else some false).bind λx2=>(bif (bif (!x1) then true else(!x2)) then(some (⟨([]:List Ai),(0:Int)⟩:An)) else((Iw a3.Off a2.Off).bind λx3=>((Aj (S:=YL) (X:=List Ai) K7 (a3.Terms,a2.Terms,([]:List Ai))).bind (λx14=>(some (⟨x14,x3⟩:An))))))))
theorem Uh(h:Ju v34 v37=some v38):sP 28 [(M4 v34),(M4 v37),(.clo 30 [] [])] [] (M4 v38) []:=
 sG Tryz.func28 λΓ q=>Aq q [2,3,4,6] [3,4,6] (tB h λx1 y1 h=>tB h λx2 y2 h=>tT q TG [3,4,6] [(Z2 x1),(Z2 x2)] (c5 (Gx y1) (gI ((!x1)==false)) (λ(hg:((!x1)==false)=true)=>(Gx (Br hg y2))) (gI ((!x1)==false)) (Sb (!x1))) (gC h (λh=>gR q [6] [6] [(20,(.agg [QK,Nz]))] [] (c1 (show(AVle (.agg [Z5,Nz]) (.agg [QK,Nz])) from(AVle.agg (.cons D1 (.cons (AVle.refl _) .nil))))) (Tt (⟨[QD],[(6,.row 25 [QK,Nz])],[]⟩:St) (tS h (gK (e:=.ret) (K3 [] (show Le Γ _ (⟨[QD],[(6,.row 25 [iV,Nz])],[]⟩:St) from Le.trans (Dw (st':=⟨[QD],[(6,.row 25 [QK,Nz])],[]⟩) [6] [6] q) (Kj (.cons (AVle.refl _) .nil) (.row (.cons AVle.untag (.cons (AVle.refl _) .nil)) .nil)))))))) λh=>tB h λx3 y3 h=>gR q Lc LG [(27,(.agg [QK,(Ja x3)]))] [⟨[],[],(Ja x3),[],[],[]⟩] (c2 (Of y3) (show(AVle (.agg [Z5,(Ja x3)]) (.agg [QK,(Ja x3)])) from(AVle.agg (.cons D1 (.cons (AVle.refl _) .nil))))) (M1 (st':=(ju v34 v37 x3)) (Le.trans (Dw (st':=(mj 30 v34.Terms v34.Off v37.Terms v37.Off QK x3)) Lc LG q) (Le.trans (N8 (r:=7) (j:=0) (nm:=5700) (sz':=2) (λi=>D2 (([]:List Ai).getD i default)) 51 rfl rfl (nl rfl) rfl (.inl ⟨rfl,rfl⟩) (λh_=>absurd h_ (by decide))) (Dw (st':=(ju v34 v37 x3)) Lc Nx q))) (tL q h Lc Nx (λu (l4,l5,l6)=>(Fv u [] [(3,.row 25 [(Z8 l4),(Ja v34.Off)]),(4,.row 25 [(Z8 l5),(Ja v37.Off)]),(ji l6 x3),(5700,.tok 2 51 l6.length)])) (λu l7=>aG Γ (.exit 0) (Xv Ps LH u [] [(ji l7 x3),(5700,.tok 2 51 l7.length)])) (λ⟨l4,l5,l6⟩ y h=>tU q da Nx (QE ((jx l4)==false) (c1 (Sb (jx l4)))) (gC h (λh=>tB h λx8 y8 h=>tB h λx9 y9 h=>tT q IK Nx [(VZ x8),(VZ x9)] (c2 (Fe y8) (Fe y9)) (Aq q IK Nx (tB h λx10 y10 h=>tT q dZ Nx [(jl x10.1 x10.2)] (c1 (Gb y10)) (tB h λx11 y11 h=>tT q dV Nx [(jl x11.1 x11.2)] (c1 (Gb y11)) (tB h λx12 y12 h=>tT q dX Nx [⟨[],[],(Ja x12),[],[],[]⟩] (c1 (Of y12)) (Aq q dU Nx (gC h (λh=>tC h λc13_ h=>gR q Lc Nx (ly (dy x9 x8 x12) l6) [] (c5 (Bq 2 D2 (default:Ai) (dy x9 x8 x12)) (Eq.refl l6.length) c13_ (V8 2 5700 D2 (default:Ai) l6 (dy x9 x8 x12)) (Iv l6 (dy x9 x8 x12))) (tN h)) λh=>tS h (gN (Dw Lc Nx q))))))))) λh=>tS h (gO (Ed (Dw Ps LH q))))) λx14 h=>gA (Aq q [6] [6,5700] (tS h (C3 [])))))))
def Ic(a3:An)(aM:An):Option An:=
 ((Ju a3 aM).bind λx1=>(some x1))
theorem Rd(h:Ic v34 v37=some v38):sP 11 [(M4 v34),(M4 v37)] [] (M4 v38) []:=
 sG Tryz.func11 λΓ q=>Aq q IV IV (tB h λx1 y1 h=>tT q [4] [4] [(VY x1)] (c1 (Uh y1)) (tS h (C3 [])))
def Gg(a3:An):Option Bool:=
 (some ((a3.Terms.length:Int)==0))
theorem Jx(h:Gg v34=some v3):sP 137 [(M4 v34)] [] (.bool v3) []:=
 sG Tryz.func137 λΓ q=>tW q [1] [1] [2] [] (tS h (C3 []))
def Ix(aH:Int)(aaA:Int)(aa0:Int):Option Gq:=
 (some ((Ez (aH*aa0)),aa0))
variable{v19:Gq}
theorem Og(h:Ix v1 v11 v20=some v19):sP 31 [(Ja v1),(Ja v11),Xt] [(TR v20)] (Ja v19.1) [(TR v19.2)]:=
 sG Tryz.func31 λΓ q=>tW q [0,2] [30000] [5] [30000] (tS h (C3 PR))
abbrev jY:=(List Ai×List Ai×List Ai×Int)
def K8 :jY->Option (LR (List Ai×List Ai×List Ai×Int) (List Ai×Int)):=
 λ((l4,l5,l6,i7):jY)=>(bif (bif (decide ((0:Int)<(l4.length:Int))) then true else(decide ((0:Int)<(l5.length:Int)))) then((Cp l4).bind λx10=>((Cp l5).bind λx11=>((C4 l4 (if x11<x10 then x11 else x10)).bind λx12=>((C4 l5 (if x11<x10 then x11 else x10)).bind λx13=>((Ix x12.1 x13.1 i7).bind λx14=>(bif (x14.1 !=0) then(Cs (l6.length+([(⟨(if x11<x10 then x11 else x10),x14.1⟩:Ai)]:List Ai).length<=room) (some (.next (x12.2,x13.2,(l6++([(⟨(if x11<x10 then x11 else x10),x14.1⟩:Ai)]:List Ai)),x14.2)))) else(some (.next (x12.2,x13.2,l6,x14.2))))))))) else(some (.done (l6,i7))))
def jz(l4:List Ai):=(decide ((0:Int)<(l4.length:Int)))
def QL:AV:=ZO
def dz(x11:Int)(x10:Int)(x14:Gq):=([(⟨(if x11<x10 then x11 else x10),x14.1⟩:Ai)]:List Ai)
def jy(a3:An)(a2:An)(x3:Gq):=(⟨[(2,(.clo 31 [] [Xt])),(3,(.ptr 3 0)),WA,QD,(7,(.ptr 7 0))],[(3,.row 25 [(Z8 a3.Terms),(Ja a3.Off)]),(4,.row 25 [(Z8 a2.Terms),(Ja a2.Off)]),(6,.row 25 [Z5,Nz]),(7,.row 25 [(AV.list 2 D2 default ([]:List Ai) (.own 5700)),(Ja x3.1)]),(5700,.tok 2 51 (([]:List Ai).length)),(TR x3.2)],[]⟩:St)
abbrev Xh:=(An×Int)
def Jv(a3:An)(a2:An)(aa0:Int):Option Xh:=
 ((Es a3).bind λx1=>((bif ((!x1)==false) then Es a2 else some false).bind λx2=>(bif (bif (!x1) then true else(!x2)) then(some ((⟨([]:List Ai),(0:Int)⟩:An),aa0)) else((Ix a3.Off a2.Off aa0).bind λx3=>((Aj (S:=jY) (X:=(List Ai×Int)) K8 (a3.Terms,a2.Terms,([]:List Ai),x3.2)).bind (λ(l8,i9)=>(some ((⟨l8,x3.1⟩:An),i9))))))))
variable{v39:Xh}
theorem Ui(h:Jv v34 v37 v1=some v39):sP 28 [(M4 v34),(M4 v37),(.clo 31 [] [Xt])] [(TR v1)] (M4 v39.1) [(TR v39.2)]:=
 sG Tryz.func28 λΓ q=>Aq q [2,3,4,6] [3,4,6,30000] (tB h λx1 y1 h=>tB h λx2 y2 h=>tT q TG [3,4,6,30000] [(Z2 x1),(Z2 x2)] (c5 (Gx y1) (gI ((!x1)==false)) (λ(hg:((!x1)==false)=true)=>(Gx (Br hg y2))) (gI ((!x1)==false)) (Sb (!x1))) (gC h (λh=>gR q [6] [6,30000] [(20,(.agg [QL,Nz]))] [] (c1 (show(AVle (.agg [Z5,Nz]) (.agg [QL,Nz])) from(AVle.agg (.cons D1 (.cons (AVle.refl _) .nil))))) (Tt (⟨[QD],[(6,.row 25 [QL,Nz]),(TR v1)],[]⟩:St) (tS h (gK (e:=.ret) (K3 PR (show Le Γ _ (⟨[QD],[(6,.row 25 [iV,Nz]),(TR v1)],[]⟩:St) from Le.trans (Dw (st':=⟨[QD],[(6,.row 25 [QL,Nz]),(TR v1)],[]⟩) [6] [6,30000] q) (Kj (.cons (AVle.refl _) .nil) (.row (.cons AVle.untag (.cons (AVle.refl _) .nil)) (.same .nil))))))))) λh=>tB h λx3 y3 h=>gR q Lc [3,4,6,7,30000] [(27,(.agg [QL,(Ja x3.1)]))] [⟨PR,[],(Ja x3.1),[(TR x3.2)],[],[]⟩] (c2 (Og y3) (show(AVle (.agg [Z5,(Ja x3.1)]) (.agg [QL,(Ja x3.1)])) from(AVle.agg (.cons D1 (.cons (AVle.refl _) .nil))))) (M1 (st':=(jy v34 v37 x3)) (Le.trans (Dw (st':=⟨[(2,(.clo 31 [] [Xt])),(3,(.ptr 3 0)),WA,QD,(7,(.ptr 7 0))],[(3,.row 25 [(Z8 v34.Terms),(Ja v34.Off)]),(4,.row 25 [(Z8 v37.Terms),(Ja v37.Off)]),(6,.row 25 [Z5,Nz]),(7,.row 25 [QL,(Ja x3.1)]),(TR x3.2)],[]⟩) Lc [3,4,6,7,30000] q) (Le.trans (N8 (r:=7) (j:=0) (nm:=5700) (sz':=2) (λi=>D2 (([]:List Ai).getD i default)) 51 rfl rfl (nl rfl) rfl (.inl ⟨rfl,rfl⟩) (λh_=>absurd h_ (by decide))) (Dw (st':=(jy v34 v37 x3)) Lc Tg q))) (tL q h Lc Tg (λu (l4,l5,l6,i7)=>(Fv u [] [(3,.row 25 [(Z8 l4),(Ja v34.Off)]),(4,.row 25 [(Z8 l5),(Ja v37.Off)]),(ji l6 x3.1),(5700,.tok 2 51 l6.length),(TR i7)])) (λu (l8,i9)=>aG Γ (.exit 0) (Xv Ps [6,7,5700,30000] u [] [(ji l8 x3.1),(5700,.tok 2 51 l8.length),(TR i9)])) (λ⟨l4,l5,l6,i7⟩ y h=>tU q da Tg (QE ((jz l4)==false) (c1 (Sb (jz l4)))) (gC h (λh=>tB h λx10 y10 h=>tB h λx11 y11 h=>tT q IK Tg [(VZ x10),(VZ x11)] (c2 (Fe y10) (Fe y11)) (Aq q IK Tg (tB h λx12 y12 h=>tT q dZ Tg [(jl x12.1 x12.2)] (c1 (Gb y12)) (tB h λx13 y13 h=>tT q dV Tg [(jl x13.1 x13.2)] (c1 (Gb y13)) (tB h λx14 y14 h=>tT q dX Tg [⟨PR,[],(Ja x14.1),[(TR x14.2)],[],[]⟩] (c1 (Og y14)) (Aq q dU Tg (gC h (λh=>tC h λc15_ h=>gR q Lc Tg (ly (dz x11 x10 x14) l6) [] (c5 (Bq 2 D2 (default:Ai) (dz x11 x10 x14)) (Eq.refl l6.length) c15_ (V8 2 5700 D2 (default:Ai) l6 (dz x11 x10 x14)) (Iv l6 (dz x11 x10 x14))) (tN h)) λh=>tS h (gN (Dw Lc Tg q))))))))) λh=>tS h (gO (Ed (Dw Ps [6,7,5700,30000] q))))) λx16 h=>(match x16,h with|⟨l8,i9⟩,h=>gA (Aq q [6] [6,5700,30000] (tS h (C3 PR))))))))
def Dp(a3:An)(aF:Int):Option An:=
 ((Jv a3 (⟨([]:List Ai),(0:Int)⟩:An) aF).bind λx1=>(some x1.1))
theorem Fd(h:Dp v34 v1=some v37):sP 12 [(M4 v34),(Ja v1)] [] (M4 v37) []:=
 sG Tryz.func12 λΓ q=>Aq q IV IV (tB h λx1 y1 h=>gR q [4] [4] [(6,(.agg [ZO,Nz]))] [⟨[(3,30000)],[],(M4 x1.1),[(TR x1.2)],[],[]⟩] (c2 (show(AVle (.agg [Z5,Nz]) (.agg [ZO,Nz])) from(AVle.agg (.cons D1 (.cons (AVle.refl _) .nil)))) (Ui y1)) (tS h (C3 [])))
def d8:List AV:=[ZO,Nz]
def Ji(aQ:Int)(aH:An)(aI:An):Option (An×Bool):=
 (bif (aQ==1) then((Jh aH aI).bind λx1=>(some (x1,true))) else(bif (aQ==2) then((Ic aH aI).bind λx2=>(some (x2,true))) else((bif ((aQ==3)==true) then Gg aI else some false).bind λx3=>(bif (bif (aQ==3) then x3 else false) then((Dp aH aI.Off).bind λx4=>(some (x4,true))) else((bif ((aQ==3)==true) then Gg aH else some false).bind λx5=>(bif (bif (aQ==3) then x5 else false) then((Dp aI aH.Off).bind λx6=>(some (x6,true))) else((bif ((aQ==8)==true) then Gg aI else some false).bind λx7=>(bif (bif (bif (aQ==8) then x7 else false) then(decide (aI.Off<64)) else false) then(Cs (0<=aI.Off) ((Dp aH (FW .u64 (1:Int) aI.Off)).bind λx9=>(some (x9,true)))) else(some ((⟨([]:List Ai),(0:Int)⟩:An),false))))))))))
variable{v40:(An×Bool)}
theorem DE(h:Ji v1 v34 v37=some v40):sP 97 [(Z6 v1),(M4 v34),(M4 v37)] [] (.tuple [(M4 v40.1),(.bool v40.2)]) []:=
 sG Tryz.func97 λΓ q=>tW q [0,4,5,6] IW [0,4,5,6,8] IW (gC h (λh=>tB h λx1 y1 h=>tT q Ps [6] [(VY x1)] (c1 (Sl y1)) (tS h (C3 []))) λh=>Aq q [0,4,5,6,14] IW (gC h (λh=>tB h λx2 y2 h=>tT q Ps [6] [(VY x2)] (c1 (Rd y2)) (tS h (C3 []))) λh=>tB h λx3 y3 h=>tT q [0,4,5,6,20] IW [(Z2 x3)] (c3 (gI ((v1==3)==true)) (λ(hg:((v1==3)==true)=true)=>(Jx (Br hg y3))) (Nt (v1==3))) (gC h (λh=>tB h λx4 y4 h=>tT q Ps [6] [(VY x4)] (c1 (Fd y4)) (tS h (C3 []))) λh=>tB h λx5 y5 h=>tT q [0,4,5,6,31] IW [(Z2 x5)] (c3 (gI ((v1==3)==true)) (λ(hg:((v1==3)==true)=true)=>(Jx (Br hg y5))) (Nt (v1==3))) (gC h (λh=>tB h λx6 y6 h=>tT q Ps [6] [(VY x6)] (c1 (Fd y6)) (tS h (C3 []))) λh=>tB h λx7 y7 h=>tT q [4,5,6,42] IW [(Z2 x7)] (lR (gI ((v1==8)==true)) (λ(hg:((v1==8)==true)=true)=>(Jx (Br hg y7))) (Nt (v1==8)) (Tu ((bif (v1==8) then x7 else false)==true) (c1 (Nt (bif (v1==8) then x7 else false))))) (gC h (λh=>tC h λc8_ h=>tB h λx9 y9 h=>tT q Ps [6] [(VY x9)] (c2 c8_ (Fd y9)) (tS h (C3 []))) λh=>gR q Ps [6] [(59,(.agg d8))] [] (c1 (show(AVle (.agg [Z5,Nz]) (.agg d8)) from(AVle.agg (.cons D1 (.cons (AVle.refl _) .nil))))) (Tt (⟨[QD,(7,(.bool false))],[(6,.row 25 d8)],[]⟩:St) (tS h (gK (e:=.ret) (K3 [] (show Le Γ _ (⟨[QD,(7,(.bool false))],[(6,.row 25 [iV,Nz])],[]⟩:St) from Le.trans (Dw (st':=⟨[QD,(7,(.bool false))],[(6,.row 25 d8)],[]⟩) Ps [6] q) (Kj (.cons (AVle.refl _) (.cons (AVle.refl _) .nil)) (.row (.cons AVle.untag (.cons (AVle.refl _) .nil)) .nil))))))))))))
def JC:=(λ(v_:An)=>((M4 v_):AV))
abbrev YM:=(List (Int×An))
abbrev TB:=(An×List (Int×An))
abbrev dK:=(An×Bool×List (Int×An))
abbrev FZ:=(Int×An)
def Bt(rec_affine_finder_form:Int->TA->YM->Option TB)(rec_affine_finder_sum:Int->TA->YM->Option dK)(a8:Int)(a0:List Yv)(a5:List FZ):Option TB:=
 (bif (B0 a5 a8) then(some ((mget (default:An) a5 a8),a5)) else((rec_affine_finder_sum a8 a0 a5).bind λx1=>(Option.bind (α:=(List Ai×Int)) (bif (bif (!x1.2.1) then true else(decide ((16:Int)<(x1.1.Terms.length:Int)))) then(some (([(⟨a8,(1:Int)⟩:Ai)]:List Ai),(0:Int))) else(some (x1.1.Terms,x1.1.Off))) (λ(l2,i3)=>(some ((⟨l2,i3⟩:An),(Ek x1.2.2 a8 (⟨l2,i3⟩:An))))))))
def JD(a0:List Yv)(a8:Int):=(mget (default:Bv) a0 a8)
def VT:=(λ(v_:An)=>((M4 v_):AV))
def LO(a0:List Yv):=(mapE (λ(v_:Bv)=>((V0 v_):AV)) a0)
def VS:AV:=ZO
def j4(a0:List Yv)(a5:List FZ):=(⟨[WA,(5,(.bool false))],[(4,.row 25 [VS,Nz]),PZ,(YS 9100000 (LO a0)),(9100001,.obj (.map true .i64 (mapE VT a5)))],[]⟩:St)
def j0(a0:List Yv)(a8:Int)(a5:List FZ):=(⟨[WA,(5,(.bool true))],[(4,.row 25 [VS,(.int .u64 (JD a0 a8).Imm)]),PZ,(YS 9100000 (LO a0)),(9100001,.obj (.map true .i64 (mapE VT a5)))],[]⟩:St)
def Cf(rec_affine_finder_form:Int->TA->YM->Option TB)(rec_affine_finder_sum:Int->TA->YM->Option dK)(a8:Int)(a0:List Yv)(a5:List FZ):Option dK:=
 (bif (!(B0 a0 a8)) then(some ((⟨([]:List Ai),(0:Int)⟩:An),false,a5)) else(bif (((mget (default:Bv) a0 a8).Kind:Int)==0) then(some ((⟨([]:List Ai),(mget (default:Bv) a0 a8).Imm⟩:An),true,a5)) else(Cs (B9 (0:Int) ((mget (default:Bv) a0 a8).Args).length) ((rec_affine_finder_form (((mget (default:Bv) a0 a8).Args).getD (0:Int).toNat (0:Int)) a0 a5).bind λx2=>(Cs (B9 (1:Int) ((mget (default:Bv) a0 a8).Args).length) ((rec_affine_finder_form (((mget (default:Bv) a0 a8).Args).getD (1:Int).toNat (0:Int)) a0 x2.2).bind λx4=>((Ji ((mget (default:Bv) a0 a8).Kind) x2.1 x4.1).bind λx5=>(some (x5.1,x5.2,x4.2)))))))))
mutual
def Bg:Nat->Int->TA->YM->Option TB
 | 0=>λ_=>λ_=>λ_=>none
 | n+1=>Bt (Bg n) (B1 n)
def B1:Nat->Int->TA->YM->Option dK
 | 0=>λ_=>λ_=>λ_=>none
 | n+1=>Cf (Bg n) (B1 n)
end
def Gf(a8:Int)(a0:List Yv)(a5:List FZ):Option TB:=bU λn=>Bg n a8 a0 a5
theorem Qi(n:Nat):(∀(a8:Int) (a0:List Yv) (a5:List FZ) (r:TB),Bg n a8 a0 a5=some r->sP 38 [Xt,(Z6 a8)] [PZ,(9100000,.obj (.map true .i64 (mapE (λ(v_:Bv)=>((V0 v_):AV)) a0))),(9100001,.obj (.map true .i64 (mapE (λ(v_:An)=>((M4 v_):AV)) a5)))] (M4 r.1) [PZ,(9100000,.obj (.map true .i64 (mapE (λ(v_:Bv)=>((V0 v_):AV)) a0))),(9100001,.obj (.map true .i64 (mapE (λ(v_:An)=>((M4 v_):AV)) r.2)))])/\(∀(a8:Int) (a0:List Yv) (a5:List FZ) (r:dK),B1 n a8 a0 a5=some r->sP 69 [Xt,(Z6 a8)] [PZ,(9100000,.obj (.map true .i64 (mapE (λ(v_:Bv)=>((V0 v_):AV)) a0))),(9100001,.obj (.map true .i64 (mapE (λ(v_:An)=>((M4 v_):AV)) a5)))] (.tuple [(M4 r.1),(.bool r.2.1)]) [PZ,(9100000,.obj (.map true .i64 (mapE (λ(v_:Bv)=>((V0 v_):AV)) a0))),(9100001,.obj (.map true .i64 (mapE (λ(v_:An)=>((M4 v_):AV)) r.2.2)))]):=by
 induction n with
 | zero=>exact⟨(λa8 a0 a5 r h=>by cases h),(λa8 a0 a5 r h=>by cases h)⟩
 | succ n ih=>
  obtain⟨ih_affine_finder_form,ih_affine_finder_sum⟩:=ih;refine⟨?_,?_⟩
  ·intro a8 a0 a5 r h;refine Yq mix Tryz.func38 (λΓ hq=>?_);change Bt (Bg n) (B1 n) a8 a0 a5=some r at h;unfold Bt at h;refine Aq hq [0,1,4] Xq ?_;refine gR hq [0,1,4,5,6] iM [(15,(.tuple [(.agg (RH (mget (default:An) a5 a8))),(.bool (B0 a5 a8))]))] [] (c1 (show(AVle (.tuple [mget (.agg [(.slice 0 0 (λ_=>[]) .none),Nz]) (mapE JC a5) a8,.bool (B0 (mapE JC a5) a8)]) (.tuple [(.agg (RH (mget (default:An) a5 a8))),(.bool (B0 a5 a8))])) from(Wt (f:=JC) (l:=a5) (AVle.agg (.cons TW (.cons (AVle.refl _) .nil))) rfl))) ?_;refine Aq hq [0,1,4,5,18] iM ?_;refine gC h ?_ ?_<;>intro h
   ·refine Aq hq [4] Xq ?_;cases h;exact C3 PQ
   ·obtain⟨x1,hx1,h⟩:=bind_some h;refine gR hq [0,1,4,7,8] IG [] [⟨PQ,[],(.tuple [(M4 x1.1),(.bool x1.2.1)]),[PZ,(9100000,.obj (.map true .i64 (mapE (λ(v_:Bv)=>((V0 v_):AV)) a0))),(9100001,.obj (.map true .i64 (mapE JC x1.2.2)))],[],[]⟩] (c1 (ih_affine_finder_sum a8 a0 a5 x1 hx1)) ?_;obtain⟨x4,hx4,h⟩:=bind_some h;refine gJ hx4 (λ(l2,i3)=>aG Γ .normal (⟨[(0,Xt),(1,(Z6 a8)),WA,(7,(.ptr 7 0))],[(4,.row 25 [Z5,Nz]),(7,.row 25 [(Z8 l2),(Ja i3)]),PZ,(9100000,.obj (.map true .i64 (mapE (λ(v_:Bv)=>((V0 v_):AV)) a0))),(9100001,.obj (.map true .i64 (mapE JC x1.2.2)))],[]⟩:St)) ?_ ?_
    ·clear h hx4;intro y h;refine gR hq [0,1,4,7,33] IG [] [] (ci (gI ((!x1.2.1)==false)) (ci (gI ((!x1.2.1)==false)) (ci (gI ((!x1.2.1)==false)) (c1 (Sb (!x1.2.1)))))) ?_;refine gC h ?_ ?_<;>intro h
     ·refine gR hq [0,1,4,7] IG [(36,(AV.list 2 D2 default ([(⟨a8,(1:Int)⟩:Ai)]:List Ai) .exact))] [] (c1 (Bq 2 D2 (default:Ai) ([(⟨a8,(1:Int)⟩:Ai)]:List Ai))) ?_;cases h;exact gK (Ed (Le.trans (Dw (st':=⟨[(0,Xt),(1,(Z6 a8)),WA,(7,(.ptr 7 0))],[(4,.row 25 [Z5,Nz]),(7,.row 25 [(AV.list 2 D2 default ([(⟨a8,(1:Int)⟩:Ai)]:List Ai) .exact),Nz]),PZ,(9100000,.obj (.map true .i64 (mapE (λ(v_:Bv)=>((V0 v_):AV)) a0))),(9100001,.obj (.map true .i64 (mapE JC x1.2.2)))],[]⟩) [0,1,4,7] IG hq) (Kj (.cons (AVle.refl _) (.cons (AVle.refl _) (.cons (AVle.refl _) (.cons (AVle.refl _) .nil)))) (.same (.row (.cons AVle.untag (.cons (AVle.refl _) .nil)) (.same (.same (.same .nil))))))))
     ·cases h;exact gK (Ed (Dw [0,1,4,7] IG hq))
    ·clear hx4;rcases x4 with⟨l2,i3⟩;refine gA ?_;refine Aq hq [4,7] IG ?_;refine M1 (Sf (λ(k_:List FY) u=>Fv u [] [(YS 9100001 k_)]) (show(Ek (mapE JC x1.2.2) a8 (.agg [(Z8 l2),(Ja i3)]))=(mapE JC (Ek x1.2.2 a8 (⟨l2,i3⟩:An))) from(Wu (f:=JC) (l:=x1.2.2) (v:=(⟨l2,i3⟩:An)) rfl rfl))) ?_;refine Aq hq [4] Xq ?_;cases h;exact C3 PQ
  ·intro a8 a0 a5 r h;refine Yq mix Tryz.func69 (λΓ hq=>?_);change Cf (Bg n) (B1 n) a8 a0 a5=some r at h;unfold Cf at h;refine Aq hq [0,1,4] Xq ?_;refine gR hq [0,4,6,7] dS [(14,(.tuple [(V0 (JD a0 a8)),(.bool (B0 a0 a8))]))] [] (c1 (show(AVle (.tuple [mget (.agg [N0,N0,N0,N0,(.slice 0 0 (λ_=>[]) .none),Nz]) (LO a0) a8,.bool (B0 (LO a0) a8)]) (.tuple [(V0 (JD a0 a8)),(.bool (B0 a0 a8))])) from(Wt (f:=(λ(v_:Bv)=>((V0 v_):AV))) (l:=a0) (AVle.agg (.cons (AVle.refl _) (.cons (AVle.refl _) (.cons (AVle.refl _) (.cons (AVle.refl _) (.cons TW (.cons (AVle.refl _) .nil))))))) rfl))) ?_;refine Aq hq [0,4,6,17] dS ?_;refine gC h ?_ ?_<;>intro h
   ·refine gR hq Rn Xq [(20,(.agg [VS,Nz]))] [] (c1 (show(AVle (.agg [Z5,Nz]) (.agg [VS,Nz])) from(AVle.agg (.cons D1 (.cons (AVle.refl _) .nil))))) ?_;refine Tt (j4 a0 a5) ?_;cases h;exact gK (e:=.ret) (K3 PQ (show Le Γ _ (⟨[WA,(5,(.bool false))],[(4,.row 25 [iV,Nz]),PZ,(YS 9100000 (LO a0)),(9100001,.obj (.map true .i64 (mapE VT a5)))],[]⟩:St) from Le.trans (Dw (st':=(j4 a0 a5)) Rn Xq hq) (Kj (.cons (AVle.refl _) (.cons (AVle.refl _) .nil)) (.row (.cons AVle.untag (.cons (AVle.refl _) .nil)) (.same (.same (.same .nil)))))))
   ·refine Aq hq [0,4,6,21] dS ?_;refine gC h ?_ ?_<;>intro h
    ·refine gR hq Rn Xq [(27,(.agg [VS,(.int .u64 (JD a0 a8).Imm)]))] [] (c1 (show(AVle (.agg [Z5,(.int .u64 (JD a0 a8).Imm)]) (.agg [VS,(.int .u64 (JD a0 a8).Imm)])) from(AVle.agg (.cons D1 (.cons (AVle.refl _) .nil))))) ?_;refine Tt (j0 a0 a8 a5) ?_;cases h;exact gK (e:=.ret) (K3 PQ (show Le Γ _ (⟨[WA,(5,(.bool true))],[(4,.row 25 [iV,(.int .u64 (JD a0 a8).Imm)]),PZ,(YS 9100000 (LO a0)),(9100001,.obj (.map true .i64 (mapE VT a5)))],[]⟩:St) from Le.trans (Dw (st':=(j0 a0 a8 a5)) Rn Xq hq) (Kj (.cons (AVle.refl _) (.cons (AVle.refl _) .nil)) (.row (.cons AVle.untag (.cons (AVle.refl _) .nil)) (.same (.same (.same .nil)))))))
    ·obtain⟨hc1,h⟩:=M8 h;obtain⟨x2,hx2,h⟩:=bind_some h;obtain⟨hc3,h⟩:=M8 h;obtain⟨x4,hx4,h⟩:=bind_some h;obtain⟨x5,hx5,h⟩:=bind_some h;refine gR hq Rn Xq [] [⟨PQ,[],(M4 x2.1),[PZ,(YS 9100000 (LO a0)),(9100001,.obj (.map true .i64 (mapE VT x2.2)))],[],[]⟩,⟨PQ,[],(M4 x4.1),[PZ,(YS 9100000 (LO a0)),(9100001,.obj (.map true .i64 (mapE VT x4.2)))],[],[]⟩,⟨[],[],(.tuple [(M4 x5.1),(.bool x5.2)]),[],[],[]⟩] (ci hc1 (ci (ih_affine_finder_form (((JD a0 a8).Args).getD (0:Int).toNat (0:Int)) a0 a5 x2 hx2) (ci hc3 (ci (ih_affine_finder_form (((JD a0 a8).Args).getD (1:Int).toNat (0:Int)) a0 x2.2 x4 hx4) (c1 (DE hx5)))))) ?_;cases h;exact C3 PQ
variable{v41:List FZ}{v42:TB}
theorem Rs(h:Gf v1 v33 v41=some v42):sP 38 [Xt,(Z6 v1)] [PZ,(9100000,.obj (.map true .i64 (mapE (λ(v_:Bv)=>((V0 v_):AV)) v33))),(9100001,.obj (.map true .i64 (mapE (λ(v_:An)=>((M4 v_):AV)) v41)))] (M4 v42.1) [PZ,(9100000,.obj (.map true .i64 (mapE (λ(v_:Bv)=>((V0 v_):AV)) v33))),(9100001,.obj (.map true .i64 (mapE (λ(v_:An)=>((M4 v_):AV)) v42.2)))]:=by
 obtain⟨n,hn⟩:=WY h;exact(Qi n).1 v1 v33 v41 v42 hn
def d9:List AV:=[ZO,Nz]
def Dl(a4:Ab)(a8:Int):Option Xh:=
 ((Kk a4).bind λx1=>(bif (!((((mget ((0:Int),(0:Int)) x1 a8).1:Int)==64)&&((((mget ((0:Int),(0:Int)) x1 a8).2:Int)==1)&&true))) then(some ((⟨([]:List Ai),(0:Int)⟩:An),(10:Int))) else((Lt a4).bind λx2=>((Gf a8 x2 ([]:List FZ)).bind λx3=>(some (x3.1,(0:Int)))))))
theorem I6(h:Dl v0 v1=some v39):sP 19 [(.agg (X2 v0)),(Z6 v1)] [] (.tuple [(M4 v39.1),(Z6 v39.2)]) []:=
 sG Tryz.func19 λΓ q=>Aq q [1,2,4] [2,4] (tB h λx1 y1 h=>gR q [1,2,4,12] [2,4] [(10,(.agg (Bp (mget ((0:Int),(0:Int)) x1 v1))))] [⟨[],[(20000,8)],(.omap 20000),[(20000,.obj (.pmap false .i64 (mapE (λ(v_:Gq)=>((BV v_):AV)) x1)))],[],[]⟩] (c2 (AK y1) (show(AVle (mget (.agg [N0,N0]) (mapE (λ(v_:Gq)=>((BV v_):AV)) x1) v1) (.agg (Bp (mget ((0:Int),(0:Int)) x1 v1)))) from(BI (f:=(λ(v_:Gq)=>((BV v_):AV))) (l:=x1) (AVle.refl _) rfl))) (gC h (λh=>gR q Rn [4] [(13,(.agg d9))] [] (c1 (show(AVle (.agg [Z5,Nz]) (.agg d9)) from(AVle.agg (.cons D1 (.cons (AVle.refl _) .nil))))) (Tt (⟨[WA,(5,(FA 10))],[(4,.row 25 d9)],[]⟩:St) (tS h (gK (e:=.ret) (K3 [] (show Le Γ _ (⟨[WA,(5,(FA 10))],[(4,.row 25 [iV,Nz])],[]⟩:St) from Le.trans (Dw (st':=⟨[WA,(5,(FA 10))],[(4,.row 25 d9)],[]⟩) Rn [4] q) (Kj (.cons (AVle.refl _) (.cons (AVle.refl _) .nil)) (.row (.cons AVle.untag (.cons (AVle.refl _) .nil)) .nil)))))))) λh=>tB h λx2 y2 h=>tT q [1,4,6] [4,6,15,16] [⟨[],[(20000,15)],(.omap 20000),[(20000,.obj (.map true .i64 (mapE (λ(v_:Bv)=>((V0 v_):AV)) x2)))],[],[]⟩] (c1 (DF y2)) (M1 (Sf (λ(k_:List FY) u=>Fv u [] [(YS 16 k_)]) (show[]=(mapE (λ(v_:An)=>((M4 v_):AV)) ([]:List FZ)) from rfl)) (tB h λx3 y3 h=>tT q Rn [4] [⟨[(6,30000),(15,9100000),(16,9100001)],[],(M4 x3.1),[PZ,(9100000,.obj (.map true .i64 (mapE (λ(v_:Bv)=>((V0 v_):AV)) x2))),(9100001,.obj (.map true .i64 (mapE (λ(v_:An)=>((M4 v_):AV)) x3.2)))],[],[]⟩] (c1 (Rs y3)) (tS h (C3 []))))))
def Bo(aN:List Ai)(aP:List Ai):Int->Option (LR Int (Unit ⊕ Bool)):=
 λ(i1:Int)=>(bif (decide (i1<(aN.length:Int))) then(Cs (B9 i1 aN.length) (Cs (B9 i1 aP.length) (bif (!((((aN.getD i1.toNat default).V:Int)==(aP.getD i1.toNat default).V)&&((((aN.getD i1.toNat default).Scale:Int)==(aP.getD i1.toNat default).Scale)&&true))) then(some (.done (.inr false))) else(some (.next (Bh (i1+1))))))) else(some (.done (.inl ()))))
def Kd(Γ:Gs)(aN:List Ai)(aP:List Ai)(r:Bool):Exit->St->Prop:=fK Tryz.prog Γ Tryz.f32.results.toList [] (.bool r) []
def Cx(aN:List Ai)(aP:List Ai):Option Bool:=
 (bif ((aN.length:Int)!=(aP.length:Int)) then(some false) else((Aj (Bo aN aP) (0:Int)).bind (λx4=>(match x4 with|(.inl _)=>(some true)|(.inr r6)=>(some r6)))))
variable{v43:List Ai}
theorem Ka(h:Cx v35 v43=some v3):sP 32 [(Z8 v35),(Z8 v43)] [] (.bool v3) []:=
 sG Tryz.func32 λΓ q=>tW q G0 [] AE [] (gC h (λh=>Aq q [4] [] (tS h (C3 []))) λh=>Aq q IP [] (tL q h IP [] (λu i1=>(Fv u [(13,(Z6 i1))] [])) (λu x_=>match x_ with|(.inl _)=>aG Γ (.exit 0) (⟨[],[],[]⟩:St)|(.inr r_)=>aR (Kd Γ v35 v43 r_)) (λi1 y h=>Aq q [0,1,12,13,14] [] (gC h (λh=>Aq q [0,1,5,12,13] [] (tC h λc2_ h=>tC h λc3_ h=>tU q [0,1,12,13,24] [] (c2 c2_ c3_) (gC h (λh=>Aq q [4] [] (tS h (gO (R0 (K3 [] (Le.refl _ _)))))) λh=>Aq q IP [] (tN h)))) λh=>tS h (gO (Ed (Dw [] [] q))))) λx4 h=>(match x4,h with | .inl _,h=>gA (Aq q [4] [] (tS h (C3 []))) | .inr r6,h=>V1 (λst' hk=>tS h (gK hk)))))
def D0(a3:An)(aM:An):Option Bool:=
 ((bif ((a3.Off==aM.Off)==true) then Cx a3.Terms aM.Terms else some false).bind λx1=>(some (bif (a3.Off==aM.Off) then x1 else false)))
theorem G8(h:D0 v34 v37=some v3):sP 15 [(M4 v34),(M4 v37)] [] (.bool v3) []:=
 sG Tryz.func15 λΓ q=>Aq q Pr Pr (tB h λx1 y1 h=>tT q [4] [] [(Z2 x1)] (jm ((v34.Off==v37.Off)==true) (c2 (λ(hg:((v34.Off==v37.Off)==true)=true)=>(Ka (Br hg y1))) (Nt (v34.Off==v37.Off)))) (tS h (C3 [])))
def Cz:List Bv:=([(⟨(0:Int),(64:Int),(1:Int),(2:Int),([]:Aw),(8:Int)⟩:Bv),(⟨(1:Int),(64:Int),(1:Int),(3:Int),([(1:Int),(2:Int)]:Aw),(0:Int)⟩:Bv),(⟨(3:Int),(64:Int),(1:Int),(4:Int),([(2:Int),(3:Int)]:Aw),(0:Int)⟩:Bv)]:List Bv)
def lV(x7:An):=((x7.Off:Int)==128)
def j6(x8:An):=((x8.Terms.length:Int)==1)
def ZE:AV:=gi
def iR:AV:=(AV.list 6 AH default Cz .exact)
def eC(x1:Xh)(x3:Bool)(x2:Xh):=(bif (bif (x1.2==0) then x3 else false) then(x2.2==10) else false)
def BT(x1:Xh)(x3:Bool)(x2:Xh)(x4:Bool):=(bif (eC x1 x3 x2) then x4 else false)
def VU(x1:Xh)(x3:Bool)(x2:Xh)(x4:Bool)(x6:Bool)(x7:An):=(bif (bif (BT x1 x3 x2 x4) then x6 else false) then(lV x7) else false)
def eD(x1:Xh)(x3:Bool)(x2:Xh)(x4:Bool)(x6:Bool)(x7:An)(x8:An):=((bif (VU x1 x3 x2 x4 x6 x7) then(j6 x8) else false)==true)
def mv:=(⟨([(⟨(1:Int),(8:Int)⟩:Ai)]:List Ai),(64:Int)⟩:An)
def j5:=([(⟨([]:List Fy),Cz,(⟨(0:Int),(4:Int),([]:Aw)⟩:H1)⟩:Ag)]:List Ag)
def j8:AV:=(.agg [(AV.list 4 Y9 default ([]:List Fy) .exact),iR,N0,(.int .i64 (4:Int)),ZE])
def j7:AV:=(.agg [N0,(FA 64),YT,dj,ZE,(.int .u64 (8:Int))])
def m_locksteplaw17_awake :Option Bool:=
 ((Dl (⟨([(64:Int)]:Aw),(64:Int),([(⟨([]:List Fy),Cz,(⟨(0:Int),(4:Int),([]:Aw)⟩:H1)⟩:Ag)]:List Ag)⟩:Ab) (4:Int)).bind λx1=>((Dl (⟨([(64:Int)]:Aw),(64:Int),([(⟨([]:List Fy),Cz,(⟨(0:Int),(4:Int),([]:Aw)⟩:H1)⟩:Ag)]:List Ag)⟩:Ab) (5:Int)).bind λx2=>((bif ((x1.2==0)==true) then D0 x1.1 (⟨([(⟨(1:Int),(8:Int)⟩:Ai)]:List Ai),(64:Int)⟩:An) else some false).bind λx3=>((bif ((bif (bif (x1.2==0) then x3 else false) then(x2.2==10) else false)==true) then Es (⟨([(⟨(1:Int),(8:Int)⟩:Ai)]:List Ai),(64:Int)⟩:An) else some false).bind λx4=>((bif ((bif (bif (bif (x1.2==0) then x3 else false) then(x2.2==10) else false) then x4 else false)==true) then Ic (⟨([(⟨(1:Int),(8:Int)⟩:Ai)]:List Ai),(64:Int)⟩:An) (⟨([(⟨(1:Int),(8:Int)⟩:Ai)]:List Ai),(64:Int)⟩:An) else some (default:An)).bind λx5=>((bif ((bif (bif (bif (x1.2==0) then x3 else false) then(x2.2==10) else false) then x4 else false)==true) then D0 x5 (⟨([]:List Ai),(0:Int)⟩:An) else some false).bind λx6=>((bif ((bif (bif (bif (bif (x1.2==0) then x3 else false) then(x2.2==10) else false) then x4 else false) then x6 else false)==true) then Jh (⟨([(⟨(1:Int),(8:Int)⟩:Ai)]:List Ai),(64:Int)⟩:An) (⟨([(⟨(1:Int),(8:Int)⟩:Ai)]:List Ai),(64:Int)⟩:An) else some (default:An)).bind λx7=>((bif ((bif (bif (bif (bif (bif (x1.2==0) then x3 else false) then(x2.2==10) else false) then x4 else false) then x6 else false) then((x7.Off:Int)==128) else false)==true) then Dp (⟨([(⟨(1:Int),(8:Int)⟩:Ai)]:List Ai),(64:Int)⟩:An) (2:Int) else some (default:An)).bind λx8=>((bif ((bif (bif (bif (bif (bif (bif (x1.2==0) then x3 else false) then(x2.2==10) else false) then x4 else false) then x6 else false) then((x7.Off:Int)==128) else false) then((x8.Terms.length:Int)==1) else false)==true) then Dp (⟨([(⟨(1:Int),(8:Int)⟩:Ai)]:List Ai),(64:Int)⟩:An) (2:Int) else some (default:An)).bind λx9=>(Cs (((bif (bif (bif (bif (bif (bif (x1.2==0) then x3 else false) then(x2.2==10) else false) then x4 else false) then x6 else false) then((x7.Off:Int)==128) else false) then((x8.Terms.length:Int)==1) else false)==true)=true->(B9 (0:Int) x9.Terms.length)) (some (bif (bif (bif (bif (bif (bif (bif (x1.2==0) then x3 else false) then(x2.2==10) else false) then x4 else false) then x6 else false) then((x7.Off:Int)==128) else false) then((x8.Terms.length:Int)==1) else false) then(((x9.Terms.getD (0:Int).toNat (default:Ai)).Scale:Int)==16) else false))))))))))))
theorem Qn  (r:Bool) (h:m_locksteplaw17_awake=some r):sP 9 [] [] (.bool r) []:=
 sG Tryz.func9 λΓ q=>Aq q [] [] (gR q [1] [1] [(7,(AV.list 1 Ax 0 ([(64:Int)]:Aw) .exact)),(8,j7),(9,(AV.list 1 Ax 0 ([(1:Int),(2:Int)]:Aw) .exact)),(11,(AV.list 1 Ax 0 ([(2:Int),(3:Int)]:Aw) .exact)),(13,iR),(14,(.agg [N0,(.int .i64 (4:Int)),ZE])),(15,j8),(16,(AV.list 5 Fl default j5 .exact))] [] (c8 (Bq 1 Ax (0:Int) ([(64:Int)]:Aw)) (show(AVle (.agg [N0,(FA 64),YT,dj,Z5,(.int .u64 (8:Int))]) j7) from(AVle.agg (.cons (AVle.refl _) (.cons (AVle.refl _) (.cons (AVle.refl _) (.cons (AVle.refl _) (.cons D1 (.cons (AVle.refl _) .nil)))))))) (Bq 1 Ax (0:Int) ([(1:Int),(2:Int)]:Aw)) (Bq 1 Ax (0:Int) ([(2:Int),(3:Int)]:Aw)) (Bq 6 AH (default:Bv) Cz) (show(AVle (.agg [N0,(.int .i64 (4:Int)),Z5]) (.agg [N0,(.int .i64 (4:Int)),ZE])) from(AVle.agg (.cons (AVle.refl _) (.cons (AVle.refl _) (.cons D1 .nil))))) (show(AVle (.agg [Z5,iR,N0,(.int .i64 (4:Int)),ZE]) j8) from(AVle.agg (.cons D1 (.cons (AVle.refl _) (.cons (AVle.refl _) (.cons (AVle.refl _) (.cons (AVle.refl _) .nil))))))) (Bq 5 Fl (default:Ag) j5)) (tB h λx1 y1 h=>tT q [1,2,3] Xs [(jk x1.1 x1.2)] (c1 (I6 y1)) (tB h λx2 y2 h=>tT q [2,3,5] [2] [(jk x2.1 x2.2)] (c1 (I6 y2)) (gR q [2,3,5,6] [2,6] [(29,(AV.list 2 D2 default ([(⟨(1:Int),(8:Int)⟩:Ai)]:List Ai) .exact))] [] (c1 (Bq 2 D2 (default:Ai) ([(⟨(1:Int),(8:Int)⟩:Ai)]:List Ai))) (tB h λx3 y3 h=>tB h λx4 y4 h=>tB h λx5 y5 h=>tB h λx6 y6 h=>tB h λx7 y7 h=>tB h λx8 y8 h=>tB h λx9 y9 h=>tC h λc10_ h=>gR q [0] [] [(50,(.agg [ZO,Nz]))] [(Z2 x3),(Z2 x4),(VY x5),(Z2 x6),(VY x7),(VY x8),(VY x9)] (Tu ((x1.2==0)==true) (m9 (λ(hg:((x1.2==0)==true)=true)=>(G8 (Br hg y3))) (Nt (x1.2==0)) (gI ((bif (x1.2==0) then x3 else false)==true)) (Nt (bif (x1.2==0) then x3 else false)) (gI ((eC x1 x3 x2)==true)) (λ(hg:((eC x1 x3 x2)==true)=true)=>(Gx (Br hg y4))) (Nt (eC x1 x3 x2)) (Tu ((BT x1 x3 x2 x4)==true) (YV (λ(hg:((BT x1 x3 x2 x4)==true)=true)=>(Rd (Br hg y5))) (show(((BT x1 x3 x2 x4)==true)=true->(AVle (.agg [Z5,Nz]) (.agg [ZO,Nz]))) from(λhg=>(AVle.agg (.cons D1 (.cons (AVle.refl _) .nil))))) (Tu ((BT x1 x3 x2 x4)==true) (YV (λ(hg:((BT x1 x3 x2 x4)==true)=true)=>(G8 (Br hg y6))) (Nt (BT x1 x3 x2 x4)) (Tu ((bif (BT x1 x3 x2 x4) then x6 else false)==true) (ci (λ(hg:((bif (BT x1 x3 x2 x4) then x6 else false)==true)=true)=>(Sl (Br hg y7))) (Tu ((bif (BT x1 x3 x2 x4) then x6 else false)==true) (lR (Nt (bif (BT x1 x3 x2 x4) then x6 else false)) (gI ((VU x1 x3 x2 x4 x6 x7)==true)) (λ(hg:((VU x1 x3 x2 x4 x6 x7)==true)=true)=>(Fd (Br hg y8))) (QE ((VU x1 x3 x2 x4 x6 x7)==true) (lR (Nt (VU x1 x3 x2 x4 x6 x7)) (gI (eD x1 x3 x2 x4 x6 x7 x8)) (λ(hg:(eD x1 x3 x2 x4 x6 x7 x8)=true)=>(Fd (Br hg y9))) (Tu (eD x1 x3 x2 x4 x6 x7 x8) (ci c10_ (QE (eD x1 x3 x2 x4 x6 x7 x8) (c1 (Nt (bif (VU x1 x3 x2 x4 x6 x7) then(j6 x8) else false)))))))))))))))))) (tS h (C3 [])))))))
def D9(a3:An):Int->Option (LR Int (Unit ⊕ Bool)):=
 λ(i1:Int)=>(bif (decide (i1<(a3.Terms.length:Int))) then(Cs (B9 i1 a3.Terms.length) (Cs (((decide (((a3.Terms.getD i1.toNat default).V:Int)<1))==false)=true->(B9 i1 a3.Terms.length)) (Cs (((bif (decide (((a3.Terms.getD i1.toNat default).V:Int)<1)) then true else(decide ((1023:Int)<(a3.Terms.getD i1.toNat default).V)))==false)=true->(B9 i1 a3.Terms.length)) (Cs ((((bif (bif (decide (((a3.Terms.getD i1.toNat default).V:Int)<1)) then true else(decide ((1023:Int)<(a3.Terms.getD i1.toNat default).V))) then true else(((a3.Terms.getD i1.toNat default).Scale:Int)==0))==false)&&((decide ((0:Int)<i1))==true))=true->(B9 i1 a3.Terms.length)) (Cs ((((bif (bif (decide (((a3.Terms.getD i1.toNat default).V:Int)<1)) then true else(decide ((1023:Int)<(a3.Terms.getD i1.toNat default).V))) then true else(((a3.Terms.getD i1.toNat default).Scale:Int)==0))==false)&&((decide ((0:Int)<i1))==true))=true->(B9 (Bh (i1-1)) a3.Terms.length)) (bif (bif (bif (bif (decide (((a3.Terms.getD i1.toNat default).V:Int)<1)) then true else(decide ((1023:Int)<(a3.Terms.getD i1.toNat default).V))) then true else(((a3.Terms.getD i1.toNat default).Scale:Int)==0)) then true else(bif (decide ((0:Int)<i1)) then(decide (((a3.Terms.getD i1.toNat default).V:Int)<=(a3.Terms.getD (Bh (i1-1)).toNat (default:Ai)).V)) else false)) then(some (.done (.inr false))) else(some (.next (Bh (i1+1)))))))))) else(some (.done (.inl ()))))
def Uf(Γ:Gs)(a3:An)(r:Bool):Exit->St->Prop:=fK Tryz.prog Γ Tryz.f14.results.toList [] (.bool r) []
def ZF(a3:An)(i1:Int):=(bif (bif (decide (((a3.Terms.getD i1.toNat default).V:Int)<1)) then true else(decide ((1023:Int)<(a3.Terms.getD i1.toNat default).V))) then true else(((a3.Terms.getD i1.toNat default).Scale:Int)==0))
def lW(i1:Int):=((decide ((0:Int)<i1))==true)
def eE(a3:An)(i1:Int):=(((ZF a3 i1)==false)&&(lW i1))
def kA(a3:An)(i1:Int):=((decide (((a3.Terms.getD i1.toNat default).V:Int)<1))==false)
def j9(a3:An)(i1:Int):=((bif (decide (((a3.Terms.getD i1.toNat default).V:Int)<1)) then true else(decide ((1023:Int)<(a3.Terms.getD i1.toNat default).V)))==false)
def G2(a3:An):Option Bool:=
 ((Aj (D9 a3) (0:Int)).bind (λx7=>(match x7 with|(.inl _)=>(some true)|(.inr r9)=>(some r9))))
theorem Su(h:G2 v34=some v3):sP 14 [(M4 v34)] [] (.bool v3) []:=
 sG Tryz.func14 λΓ q=>tW q [1] [1] [1,3] [1] (tL q h [1,3] [1] (λu i1=>(Fv u [(3,(Z6 i1))] [])) (λu x_=>match x_ with|(.inl _)=>aG Γ (.exit 0) (⟨[],[],[]⟩:St)|(.inr r_)=>aR (Uf Γ v34 r_)) (λi1 y h=>Aq q [1,3,8] [1] (gC h (λh=>tC h λc2_ h=>tC h λc3_ h=>tC h λc4_ h=>tC h λc5_ h=>tC h λc6_ h=>tU q [1,3,55] [1] (ci c2_ (QE (kA v34 i1) (ci c3_ (QE (kA v34 i1) (ci (Sb (decide (((v34.Terms.getD i1.toNat default).V:Int)<1))) (QE (j9 v34 i1) (ci c4_ (QE (j9 v34 i1) (ci (Sb (bif (decide (((v34.Terms.getD i1.toNat default).V:Int)<1)) then true else(decide ((1023:Int)<(v34.Terms.getD i1.toNat default).V)))) (Tu ((ZF v34 i1)==false) (QE (eE v34 i1) (ci c5_ (nB (eE v34 i1) (ci c6_ (jm (eE v34 i1) (c3 (gI ((ZF v34 i1)==false)) (show(((ZF v34 i1)==false)=true->((decide ((0:Int)<i1))=true->(eE v34 i1)=true)) from(λhg=>(aT hg))) (Sb (ZF v34 i1)))))))))))))))))) (gC h (λh=>Aq q [2] [] (tS h (gO (R0 (K3 [] (Le.refl _ _)))))) λh=>Aq q [1,3] [1] (tN h))) λh=>tS h (gO (Ed (Dw [] [] q))))) λx7 h=>(match x7,h with | .inl _,h=>gA (Aq q [2] [] (tS h (C3 []))) | .inr r9,h=>V1 (λst' hk=>tS h (gK hk))))
open Go Go.RowKit
set_option maxRecDepth 100000
set_option maxHeartbeats 2000000
def B4(a4:Ab)(i2:Int):Gq->Option k5:=
 λ((i5,i6):Gq)=>(Cs (B9 i2 a4.Blocks.length) (bif (bif (decide (i6<(((a4.Blocks.getD i2.toNat default).Phis).length:Int))) then(decide (i5<=20000)) else false) then(Cs (B9 i2 a4.Blocks.length) (Cs (B9 i6 ((a4.Blocks.getD i2.toNat default).Phis).length) (Cs (B9 i2 a4.Blocks.length) (Cs (B9 i6 ((a4.Blocks.getD i2.toNat default).Phis).length) (some (.next ((Bh ((Bh ((Bh (i5+1))+(((((a4.Blocks.getD i2.toNat default).Phis).getD i6.toNat default).From).length:Int)))+(((((a4.Blocks.getD i2.toNat default).Phis).getD i6.toNat default).Args).length:Int))),(Bh (i6+1))))))))) else(some (.done i5))))
def B5(a4:Ab)(i2:Int):Gq->Option k5:=
 λ((i15,i16):Gq)=>(Cs (B9 i2 a4.Blocks.length) (bif (bif (decide (i16<(((a4.Blocks.getD i2.toNat default).Ops).length:Int))) then(decide (i15<=20000)) else false) then(Cs (B9 i2 a4.Blocks.length) (Cs (B9 i16 ((a4.Blocks.getD i2.toNat default).Ops).length) (some (.next ((Bh ((Bh (i15+1))+(((((a4.Blocks.getD i2.toNat default).Ops).getD i16.toNat default).Args).length:Int))),(Bh (i16+1))))))) else(some (.done i15))))
def Bn(a4:Ab):Gq->Option k5:=
 λ((i1,i2):Gq)=>(bif (bif (decide (i2<(a4.Blocks.length:Int))) then(decide (i1<=20000)) else false) then(Cs (B9 i2 a4.Blocks.length) ((Aj (B4 a4 i2) ((Bh ((Bh (i1+1))+(((a4.Blocks.getD i2.toNat default).End.To).length:Int))),(0:Int))).bind (λx13=>((Aj (B5 a4 i2) (x13,(0:Int))).bind (λx21=>(some (.next (x21,(Bh (i2+1)))))))))) else(some (.done i1)))
def Do(a4:Ab):Option Bool:=
 ((Aj (Bn a4) ((a4.Params.length:Int),(0:Int))).bind (λx23=>(some (decide (x23<=20000)))))
def BU:AV:=N0
def iU:=(⟨(0:Int),(7:Int),([]:Aw)⟩:H1)
def LP:AV:=gi
def VV(x2:Xh)(x3:Xh)(x4:Xh):=(bif (bif (x2.2 !=0) then true else(x3.2 !=0)) then true else(x4.2 !=0))
def QM(aF:Int)(a2:Int):=([(⟨(0:Int),(64:Int),(1:Int),(2:Int),([]:Aw),aF⟩:Bv),(⟨(0:Int),(64:Int),(1:Int),(3:Int),([]:Aw),(Ez a2)⟩:Bv),(⟨(1:Int),(64:Int),(1:Int),(4:Int),([(1:Int),(2:Int)]:Aw),(0:Int)⟩:Bv),(⟨(3:Int),(64:Int),(1:Int),(5:Int),([(4:Int),(3:Int)]:Aw),(0:Int)⟩:Bv),(⟨(3:Int),(64:Int),(1:Int),(6:Int),([(3:Int),(4:Int)]:Aw),(0:Int)⟩:Bv),(⟨(8:Int),(64:Int),(1:Int),(7:Int),([(4:Int),(3:Int)]:Aw),(0:Int)⟩:Bv)]:List Bv)
def my(aF:Int)(a2:Int):=(⟨([(64:Int)]:Aw),(64:Int),([(⟨([]:List Fy),(QM aF a2),iU⟩:Ag)]:List Ag)⟩:Ab)
def kC(aF:Int)(a2:Int):AV:=(.agg [(AV.list 4 Y9 default ([]:List Fy) .exact),(AV.list 6 AH default (QM aF a2) .exact),BU,(.int .i64 (7:Int)),LP])
def Fc(aF:Int)(a2:Int):Option Bool:=
 (m_locksteplaw17_awake.bind λx1=>(bif (!x1) then(some false) else((Dl (⟨([(64:Int)]:Aw),(64:Int),([(⟨([]:List Fy),([(⟨(0:Int),(64:Int),(1:Int),(2:Int),([]:Aw),aF⟩:Bv),(⟨(0:Int),(64:Int),(1:Int),(3:Int),([]:Aw),(Ez a2)⟩:Bv),(⟨(1:Int),(64:Int),(1:Int),(4:Int),([(1:Int),(2:Int)]:Aw),(0:Int)⟩:Bv),(⟨(3:Int),(64:Int),(1:Int),(5:Int),([(4:Int),(3:Int)]:Aw),(0:Int)⟩:Bv),(⟨(3:Int),(64:Int),(1:Int),(6:Int),([(3:Int),(4:Int)]:Aw),(0:Int)⟩:Bv),(⟨(8:Int),(64:Int),(1:Int),(7:Int),([(4:Int),(3:Int)]:Aw),(0:Int)⟩:Bv)]:List Bv),(⟨(0:Int),(7:Int),([]:Aw)⟩:H1)⟩:Ag)]:List Ag)⟩:Ab) (4:Int)).bind λx2=>((Dl (⟨([(64:Int)]:Aw),(64:Int),([(⟨([]:List Fy),([(⟨(0:Int),(64:Int),(1:Int),(2:Int),([]:Aw),aF⟩:Bv),(⟨(0:Int),(64:Int),(1:Int),(3:Int),([]:Aw),(Ez a2)⟩:Bv),(⟨(1:Int),(64:Int),(1:Int),(4:Int),([(1:Int),(2:Int)]:Aw),(0:Int)⟩:Bv),(⟨(3:Int),(64:Int),(1:Int),(5:Int),([(4:Int),(3:Int)]:Aw),(0:Int)⟩:Bv),(⟨(3:Int),(64:Int),(1:Int),(6:Int),([(3:Int),(4:Int)]:Aw),(0:Int)⟩:Bv),(⟨(8:Int),(64:Int),(1:Int),(7:Int),([(4:Int),(3:Int)]:Aw),(0:Int)⟩:Bv)]:List Bv),(⟨(0:Int),(7:Int),([]:Aw)⟩:H1)⟩:Ag)]:List Ag)⟩:Ab) (5:Int)).bind λx3=>((Dl (⟨([(64:Int)]:Aw),(64:Int),([(⟨([]:List Fy),([(⟨(0:Int),(64:Int),(1:Int),(2:Int),([]:Aw),aF⟩:Bv),(⟨(0:Int),(64:Int),(1:Int),(3:Int),([]:Aw),(Ez a2)⟩:Bv),(⟨(1:Int),(64:Int),(1:Int),(4:Int),([(1:Int),(2:Int)]:Aw),(0:Int)⟩:Bv),(⟨(3:Int),(64:Int),(1:Int),(5:Int),([(4:Int),(3:Int)]:Aw),(0:Int)⟩:Bv),(⟨(3:Int),(64:Int),(1:Int),(6:Int),([(3:Int),(4:Int)]:Aw),(0:Int)⟩:Bv),(⟨(8:Int),(64:Int),(1:Int),(7:Int),([(4:Int),(3:Int)]:Aw),(0:Int)⟩:Bv)]:List Bv),(⟨(0:Int),(7:Int),([]:Aw)⟩:H1)⟩:Ag)]:List Ag)⟩:Ab) (6:Int)).bind λx4=>((Dl (⟨([(64:Int)]:Aw),(64:Int),([(⟨([]:List Fy),([(⟨(0:Int),(64:Int),(1:Int),(2:Int),([]:Aw),aF⟩:Bv),(⟨(0:Int),(64:Int),(1:Int),(3:Int),([]:Aw),(Ez a2)⟩:Bv),(⟨(1:Int),(64:Int),(1:Int),(4:Int),([(1:Int),(2:Int)]:Aw),(0:Int)⟩:Bv),(⟨(3:Int),(64:Int),(1:Int),(5:Int),([(4:Int),(3:Int)]:Aw),(0:Int)⟩:Bv),(⟨(3:Int),(64:Int),(1:Int),(6:Int),([(3:Int),(4:Int)]:Aw),(0:Int)⟩:Bv),(⟨(8:Int),(64:Int),(1:Int),(7:Int),([(4:Int),(3:Int)]:Aw),(0:Int)⟩:Bv)]:List Bv),(⟨(0:Int),(7:Int),([]:Aw)⟩:H1)⟩:Ag)]:List Ag)⟩:Ab) (7:Int)).bind λx5=>((bif ((bif (bif (bif (x2.2 !=0) then true else(x3.2 !=0)) then true else(x4.2 !=0)) then true else(x5.2 !=0))==false) then G2 x2.1 else some false).bind λx6=>(bif (bif (bif (bif (bif (x2.2 !=0) then true else(x3.2 !=0)) then true else(x4.2 !=0)) then true else(x5.2 !=0)) then true else(!x6)) then(some false) else((Dp x2.1 (Ez a2)).bind λx7=>((D0 x3.1 x7).bind λx8=>((bif ((!x8)==false) then D0 x4.1 x3.1 else some false).bind λx9=>(bif (bif (!x8) then true else(!x9)) then(some false) else(bif (decide ((64:Int)<=a2)) then((D0 x5.1 (⟨([(⟨(7:Int),(1:Int)⟩:Ai)]:List Ai),(0:Int)⟩:An)).bind λx10=>(some x10)) else(Cs (0<=(Ez a2)) ((Dp x2.1 (FW .u64 (1:Int) (Ez a2))).bind λx12=>((D0 x5.1 x12).bind λx13=>(some x13)))))))))))))))))
theorem ok_locksteplaw17_AffineScales(aF:Int)(a2:Int)(r:Bool)(h:Fc aF a2=some r):sP 7 [(Ja aF),(.int .u8 a2)] [] (.bool r) []:=
 sG Tryz.func7 λΓ q=>Aq q G0 [] (tB h λx1 y1 h=>tT q [0,1,15] [] [(Z2 x1)] (c1 (Qn  x1 y1)) (gC h (λh=>Aq q [4] [] (tS h (C3 []))) λh=>gR q [1,5] [5] [(16,(AV.list 1 Ax 0 ([(64:Int)]:Aw) .exact)),(18,(.agg [BU,(FA 64),YT,dj,LP,(Ja aF)])),(21,(.agg [BU,(FA 64),YT,(.int .i64 (3:Int)),LP,(.int .u64 (Ez a2))])),(22,(AV.list 1 Ax 0 ([(1:Int),(2:Int)]:Aw) .exact)),(24,(AV.list 1 Ax 0 ([(4:Int),(3:Int)]:Aw) .exact)),(26,(AV.list 1 Ax 0 ([(3:Int),(4:Int)]:Aw) .exact)),(28,(AV.list 1 Ax 0 ([(4:Int),(3:Int)]:Aw) .exact)),(30,(AV.list 6 AH default (QM aF a2) .exact)),(31,(.agg [BU,(.int .i64 (7:Int)),LP])),(32,(kC aF a2)),(33,(AV.list 5 Fl default ([(⟨([]:List Fy),(QM aF a2),iU⟩:Ag)]:List Ag) .exact))] [] (lS (Bq 1 Ax (0:Int) ([(64:Int)]:Aw)) (show(AVle (.agg [BU,(FA 64),YT,dj,Z5,(Ja aF)]) (.agg [BU,(FA 64),YT,dj,LP,(Ja aF)])) from(AVle.agg (.cons (AVle.refl _) (.cons (AVle.refl _) (.cons (AVle.refl _) (.cons (AVle.refl _) (.cons D1 (.cons (AVle.refl _) .nil)))))))) (show(AVle (.agg [BU,(FA 64),YT,(.int .i64 (3:Int)),Z5,(.int .u64 (Ez a2))]) (.agg [BU,(FA 64),YT,(.int .i64 (3:Int)),LP,(.int .u64 (Ez a2))])) from(AVle.agg (.cons (AVle.refl _) (.cons (AVle.refl _) (.cons (AVle.refl _) (.cons (AVle.refl _) (.cons D1 (.cons (AVle.refl _) .nil)))))))) (Bq 1 Ax (0:Int) ([(1:Int),(2:Int)]:Aw)) (Bq 1 Ax (0:Int) ([(4:Int),(3:Int)]:Aw)) (Bq 1 Ax (0:Int) ([(3:Int),(4:Int)]:Aw)) (Bq 1 Ax (0:Int) ([(4:Int),(3:Int)]:Aw)) (Bq 6 AH (default:Bv) (QM aF a2)) (show(AVle (.agg [BU,(.int .i64 (7:Int)),Z5]) (.agg [BU,(.int .i64 (7:Int)),LP])) from(AVle.agg (.cons (AVle.refl _) (.cons (AVle.refl _) (.cons D1 .nil))))) (c2 (show(AVle (.agg [Z5,(AV.list 6 AH default (QM aF a2) .exact),BU,(.int .i64 (7:Int)),LP]) (kC aF a2)) from(AVle.agg (.cons D1 (.cons (AVle.refl _) (.cons (AVle.refl _) (.cons (AVle.refl _) (.cons (AVle.refl _) .nil))))))) (Bq 5 Fl (default:Ag) ([(⟨([]:List Fy),(QM aF a2),iU⟩:Ag)]:List Ag)))) (tB h λx2 y2 h=>tT q [1,5,6,7] [5,6] [(jk x2.1 x2.2)] (c1 (I6 y2)) (tB h λx3 y3 h=>tT q [1,5,6,7,8,9] [5,6,8] [(jk x3.1 x3.2)] (c1 (I6 y3)) (tB h λx4 y4 h=>tT q [1,5,6,7,8,9,10,11] [5,6,8,10] [(jk x4.1 x4.2)] (c1 (I6 y4)) (tB h λx5 y5 h=>tT q [1,6,7,8,9,10,11,12,13] [6,8,10,12] [(jk x5.1 x5.2)] (c1 (I6 y5)) (tB h λx6 y6 h=>tT q [1,6,8,10,12,73] [6,8,10,12] [(Z2 x6)] (lS (gI ((x2.2 !=0)==false)) (Sb (x2.2 !=0)) (gI ((bif (x2.2 !=0) then true else(x3.2 !=0))==false)) (Sb (bif (x2.2 !=0) then true else(x3.2 !=0))) (gI ((VV x2 x3 x4)==false)) (Sb (VV x2 x3 x4)) (gI ((bif (VV x2 x3 x4) then true else(x5.2 !=0))==false)) (λ(hg:((bif (VV x2 x3 x4) then true else(x5.2 !=0))==false)=true)=>(Su (Br hg y6))) (gI ((bif (VV x2 x3 x4) then true else(x5.2 !=0))==false)) (c1 (Sb (bif (VV x2 x3 x4) then true else(x5.2 !=0))))) (gC h (λh=>Aq q [4] [] (tS h (C3 []))) λh=>tB h λx7 y7 h=>tB h λx8 y8 h=>tB h λx9 y9 h=>tT q [1,6,12,86] [6,12] [(VY x7),(Z2 x8),(Z2 x9)] (YV (Fd y7) (G8 y8) (Tu ((!x8)==false) (c3 (λ(hg:((!x8)==false)=true)=>(G8 (Br hg y9))) (gI ((!x8)==false)) (Sb (!x8))))) (gC h (λh=>Aq q [4] [] (tS h (C3 []))) λh=>Aq q [1,6,12,88] [6,12] (gC h (λh=>tB h λx10 y10 h=>gR q [4] [] [(91,(AV.list 2 D2 default ([(⟨(7:Int),(1:Int)⟩:Ai)]:List Ai) .exact))] [(Z2 x10)] (c2 (Bq 2 D2 (default:Ai) ([(⟨(7:Int),(1:Int)⟩:Ai)]:List Ai)) (G8 y10)) (tS h (C3 []))) λh=>tC h λc11_ h=>tB h λx12 y12 h=>tB h λx13 y13 h=>tT q [4] [] [(VY x12),(Z2 x13)] (c3 c11_ (Fd y12) (G8 y13)) (tS h (C3 []))))))))))))
theorem wf_u64{n:Int}(h:(Lit.int .u64 n).wf=true):0<=n/\n<18446744073709551616:=by simp[Lit.wf,IntKind.min,IntKind.max,IntKind.bits,IntKind.signed]at h;omega
theorem wf_u8{n:Int}(h:(Lit.int .u8 n).wf=true):0<=n/\n<256:=by simp[Lit.wf,IntKind.min,IntKind.max,IntKind.bits,IntKind.signed]at h;omega
abbrev Iall(w:World):Nat->Nat->Prop:=λb o=>∃ u,w.cell? ⟨b,o,none⟩=some u
structure iQ(w:World)(cs:List Value)(avs:List AV):Prop where
 len:cs.length=avs.length
 one:∀ j,j<avs.length->(cs.getD j undef).oneCell'=true
 rep:∀ j,j<avs.length->RepV (Iall w) w (cs.getD j undef) (avs.getD j .any)
structure TO(P:Program)(t:TypeId){α:Type}(e:α->List AV)(ok:α->Prop):Prop where
 get:∀{H:Type} {enc:TypeId×Value->H} {w:World} {base:Nat} {spare:Nat->Bool} {held:Bool} {fuel:Nat} {cs:List Value} {x:DataW H×List MemPlace},
  DataW.trod enc P w base spare held fuel t cs=some x->∃ a,ok a/\iQ w cs (e a)
theorem bJ{w:World}{v:Value}{x:AV}(h1:v.oneCell'=true)(h:RepV (Iall w) w v x):iQ w [v] [x]:=
 ⟨rfl,λj hj=>(by
   have hj0:j=0:=by simpa using hj
   subst hj0
   exact h1),λj hj=>(by
   have hj0:j=0:=by simpa using hj
   subst hj0
   exact h)⟩
theorem HI{P:Program}{t:TypeId}{k:IntKind}{e:Int->List AV}(ht:P.underlying t=some (.int k))(he:∀ n,e n=[.int k n]):TO P t e (λn=>(Lit.int k n).wf=true):=by
 refine⟨?_⟩;intro H enc w base spare held fuel cs x h;obtain⟨n,rfl,rfl,hw⟩:=DataW.trod_int ht h;exact⟨n,hw,by rw[he];exact bJ rfl (.int _ _)⟩
structure lU(P:Program)(fs:List Field)(off N:Nat){α:Type}(e:α->List AV)(ok:α->Prop):Prop where
 get:∀{H:Type} {enc:TypeId×Value->H} {w:World} {base:Nat} {spare:Nat->Bool} {held:Bool} {n:Nat} {cs:List Value},cs.length=N->
  (∀ f∈fs,∃ x,DataW.trod enc P w base spare held n f.type ((cs.drop f.offset).take (P.cellsOf f.type))=some x)->∃ a,ok a/\iQ w (cs.drop off) (e a)
theorem arg_one{P:Program}{t:TypeId}{α:Type}{e:α->List AV}{ok:α->Prop}(h:TO P t e ok){x:α->AV}(he:∀ a,e a=[x a]){H:Type}{enc:TypeId×Value->H}{w:World}{base:Nat}{spare:Nat->Bool}{held:Bool}{v:Value}{d:DataW H}{ps:List MemPlace}
  (hv:v.cells = #[v]) (hd:DataW.Trod enc P w base spare held t v d ps):∃ a,ok a/\RepV (Iall w) w v (x a):=by
 obtain⟨fuel,hf⟩:=hd;obtain⟨a,ha,hr⟩:=h.get hf;refine⟨a,ha,?_⟩;have:=hr.rep 0 (by simp[he])
 simpa [hv,he] using this
def nA(x:Int):List AV:=[(.int .u8 x)]
def okU64(n:Int):Prop:=(Lit.int .u64 n).wf=true
theorem op_23:TO Tryz.prog 23 mF okU64:=HI Tryz.underlying23 (λ_=>rfl)
def okU8(n:Int):Prop:=(Lit.int .u8 n).wf=true
theorem op_5:TO Tryz.prog 5 nA okU8:=HI Tryz.underlying5 (λ_=>rfl)
theorem Hp{n:Int}(h:-9223372036854775808<=n)(h':n<9223372036854775808):Bh n=n:=by
 show IntKind.i64.wrap n=n
 simp only[IntKind.wrap,IntKind.bits,IntKind.signed]
 simp
 split<;>omega
theorem Xf{n:Int}(h:0<=n)(h':n<18446744073709551616):Ez n=n:=by
 show IntKind.u64.wrap n=n
 simp[IntKind.wrap,IntKind.bits,IntKind.signed];omega
theorem PF(n:Int):Ez n=n % 18446744073709551616:=by
 show IntKind.u64.wrap n=_
 simp[IntKind.wrap,IntKind.bits,IntKind.signed]
theorem Ar{R:Type}{p:Prop}[Decidable p]{k:Option R}(h:p):Cs p k=k:=if_pos h
theorem bS{x:Int}(j:Nat):x.fdiv (2 ^ j)=x / 2 ^ j:=by rw[Int.fdiv_eq_ediv_of_nonneg _ (by exact Int.le_of_lt (Int.pow_pos (by decide)))]
theorem Aa{α:Type}(l:List α)(i:Nat)(d:α)(h:i<l.length):l.getD i d=l[i]:=by simp[List.getD,h]
theorem kinds(k:Int):k=0\/k=1\/k=2\/k=3\/k=4\/k=5\/k=6\/k=7\/k=8\/k=9\/k=10\/k=11\/k=12\/k=13\/k=14\/k=15\/k=16\/k=17\/k=18\/k=19\/k=20\/k=21\/k=22\/(k<0\/22<k):=by omega
theorem cR{k:Int}(h:k<0\/22<k):(k==0)=false/\(k==1)=false/\(k==2)=false/\(k==3)=false/\(k==4)=false/\(k==5)=false/\(k==6)=false/\(k==7)=false/\(k==8)=false/\(k==9)=false/\(k==10)=false/\(k==11)=false/\(k==12)=false /\
  (k==13)=false/\(k==14)=false/\(k==15)=false/\(k==16)=false/\(k==17)=false/\(k==18)=false/\(k==19)=false/\(k==20)=false/\(k==21)=false/\(k==22)=false:=by
 simp only[zzL23,ne_eq];omega
def Dj(b:Int):Bool:=b==1 || b==8 || b==16 || b==32 || b==64
def Wk(b n:Int):Bool:=Dj b&&(n==1 || ((n==2 || n==4 || n==8 || n==16)&&decide (8<=b)&&decide (b*n<=128)))
theorem width_cases{b:Int}(h:Dj b=true):b=1\/b=8\/b=16\/b=32\/b=64:=by simp[Dj]at h;omega
theorem S5{b n:Int}(h:Wk b n=true):Dj b=true:=by simp[Wk]at h;exact h.1
theorem Ol{b n:Int}(h:Wk b n=true):n=1\/n=2\/n=4\/n=8\/n=16:=by simp[Wk]at h;omega
theorem Pn(b:Int):Gw b=some (Dj b):=by
 unfold Gw Dj
 by_cases h1:b=1
 ·subst h1;rfl
 by_cases h2:b=8
 ·subst h2;rfl
 by_cases h3:b=16
 ·subst h3;rfl
 by_cases h4:b=32
 ·subst h4;rfl
 by_cases h5:b=64
 ·subst h5;rfl
 have e1:(b==1)=false:=by simpa using h1
 have e2:(b==8)=false:=by simpa using h2
 have e3:(b==16)=false:=by simpa using h3
 have e4:(b==32)=false:=by simpa using h4
 have e5:(b==64)=false:=by simpa using h5
 simp[e1,e2,e3,e4,e5]
theorem RQ(b n:Int):Mu b n=some (Wk b n):=by
 unfold Mu;simp only[Pn,Ay]
 by_cases hn:n=1\/n=2\/n=4\/n=8\/n=16
 ·cases hw:Dj b with
  | false=>rcases hn with rfl|rfl|rfl|rfl|rfl<;>simp[Wk,hw]
  | true=>
   rcases width_cases hw with rfl|rfl|rfl|rfl|rfl<;>rcases hn with rfl|rfl|rfl|rfl|rfl<;>rfl
 ·have e1:(n==1)=false:=by simp;omega
  have e2:(n==2)=false:=by simp;omega
  have e3:(n==4)=false:=by simp;omega
  have e4:(n==8)=false:=by simp;omega
  have e5:(n==16)=false:=by simp;omega
  simp[Wk,e1,e2,e3,e4,e5]
theorem dC{v b:Int}(hv:0<=v/\v<18446744073709551616)(hb:Dj b=true):Qe v b=some (v % 2 ^ b.toNat):=by
 unfold Qe;simp only[Pn,hb,Ay,Fi,A0]
 have key:∀ j:Nat,j<64->Xc .u64 (FW .u64 v (j:Int)) (j:Int)=(v*2 ^ j % 18446744073709551616) / 2 ^ j:=λj hj=>by
  simp only[Xc,FW,Dg,IntKind.bits];rw[Nat.min_eq_left (by omega),bS,show IntKind.u64.wrap (v*2 ^ j)=v*2 ^ j % 18446744073709551616 from PF _]
 rcases width_cases hb with rfl|rfl|rfl|rfl|rfl
 ·have:=key 63 (by decide);simp only[show Bh (64-1)=((63:Nat):Int) from rfl,this];rw[Ar (by decide),Ar (by decide)];congr 1;simp only[show((1:Int).toNat)=1 from rfl];omega
 ·have:=key 56 (by decide);simp only[show Bh (64-8)=((56:Nat):Int) from rfl,this];rw[Ar (by decide),Ar (by decide)];congr 1;simp only[show((8:Int).toNat)=8 from rfl];omega
 ·have:=key 48 (by decide);simp only[show Bh (64-16)=((48:Nat):Int) from rfl,this];rw[Ar (by decide),Ar (by decide)];congr 1;simp only[show((16:Int).toNat)=16 from rfl];omega
 ·have:=key 32 (by decide);simp only[show Bh (64-32)=((32:Nat):Int) from rfl,this];rw[Ar (by decide),Ar (by decide)];congr 1;simp only[show((32:Int).toNat)=32 from rfl];omega
 ·have:=key 0 (by decide);simp only[show Bh (64-64)=((0:Nat):Int) from rfl,this];rw[Ar (by decide),Ar (by decide)];congr 1;simp only[show((64:Int).toNat)=64 from rfl];omega
theorem JW{i:Int}(h:0<=i/\i<18446744073709551616):Ik i=some (Dj i):=by
 unfold Ik
 by_cases hi:i<=64
 ·have:Bh i=i:=Hp (by omega) (by omega);simp[hi,this,Pn]
 ·have:Dj i=false:=by simp[Dj];omega
  simp[hi,this]
def bf(k:Int):Bool:=decide (0<=k)&&decide (k<=22)
def Mj(k n:Int):Int:=
 bif k==0 then 0 else bif k==13 || k==18 || k==19 then 3 else bif k==14 || k==15 || k==16 || k==22 then 1 else bif k==20 then 4 else bif k==21 then n else 2
def Xb(k b n:Int):Bool:=
 bif k==16 || k==17 then decide (8<=b) else bif k==18 || k==19 then decide (8<=b)&&n==1 else
 bif k==4 || k==10 || k==11 || k==12 || k==14 || k==15 || k==20 then n==1 else bif k==21 || k==22 then decide (1<n) else true
def ifitS(k b n i:Int):Bool:=
 bif k==0 then i % 2 ^ b.toNat==i else bif k==14 then Dj i&&decide (i<b) else bif k==15 then Dj i&&decide (b<i) else bif k==22 then decide (i<n) else i==0
def valS(v:Int):Bool:=decide (1<=v)&&decide (v<=1023)
def dstS(k d:Int):Bool:=bif k==17 || k==19 then d==0 else valS d
def Hq(o:Bv):Bool:=Wk o.Bits o.Lanes&&(bf o.Kind&&Xb o.Kind o.Bits o.Lanes&&ifitS o.Kind o.Bits o.Lanes o.Imm&&((o.Args.length:Int)==Mj o.Kind o.Lanes))&&(o.Args.all valS&&dstS o.Kind o.Dst)
def GN(o:Bv)(i:Nat):Int×Int:=
 bif o.Kind==13 || o.Kind==20 then(bif Nat.beq i 0 then(1,1) else(o.Bits,o.Lanes)) else bif o.Kind==14 || o.Kind==15 then(Bh o.Imm,1) else
 bif o.Kind==16 || o.Kind==17 then(bif Nat.beq i 0 then(64,1) else(o.Bits,o.Lanes)) else
 bif o.Kind==18 || o.Kind==19 then(bif Nat.beq i 1 then(64,1) else bif Nat.beq i 0 then(1,1) else(o.Bits,o.Lanes)) else bif o.Kind==21 then(o.Bits,1) else(o.Bits,o.Lanes)
def Lr(o:Bv):List (Int×Int):=(List.range (Mj o.Kind o.Lanes).toNat).map (GN o)
def Lg(k b n:Int):Int×Int:=bif k==17 || k==19 then(0,0) else bif k==10 || k==11 || k==12 then(1,1) else bif k==22 then(b,1) else(b,n)
theorem fC{k:Int}(h:k<0\/22<k):bf k=false:=by simp[bf];omega
theorem MY(k:Int):Lv k=some (bf k):=by unfold Lv bf;cases decide ((0:Int)<=k)<;>rfl
theorem P8(v:Int):Ij v=some (valS v):=by unfold Ij valS;cases decide ((1:Int)<=v)<;>rfl
theorem CT(o:Bv):Iz o=some (Xb o.Kind o.Bits o.Lanes):=by
 obtain⟨k,b,n,d,args,i⟩:=o;rcases kinds k with rfl|rfl|rfl|rfl|rfl|rfl|rfl|rfl|rfl|rfl|rfl|rfl|rfl|rfl|rfl|rfl|rfl|rfl|rfl|rfl|rfl|rfl|rfl|h
 any_goals rfl
 ·show some (bif decide (8<=b) then n==1 else false)=some (decide (8<=b)&&n==1);cases decide (8<=b)<;>rfl
 ·show some (bif decide (8<=b) then n==1 else false)=some (decide (8<=b)&&n==1);cases decide (8<=b)<;>rfl
 ·unfold Iz Xb;simp[cR h]
theorem CS(o:Bv):Ks o=some (Lg o.Kind o.Bits o.Lanes):=by
 obtain⟨k,b,n,d,args,i⟩:=o;rcases kinds k with rfl|rfl|rfl|rfl|rfl|rfl|rfl|rfl|rfl|rfl|rfl|rfl|rfl|rfl|rfl|rfl|rfl|rfl|rfl|rfl|rfl|rfl|rfl|h
 any_goals rfl
 unfold Ks Lg;simp[cR h]
theorem JV(o:Bv)(hw:Dj o.Bits=true)(hn:0<=o.Lanes/\o.Lanes<=16)(hi:0<=o.Imm/\o.Imm<18446744073709551616):Kt o=some (ifitS o.Kind o.Bits o.Lanes o.Imm):=by
 unfold Kt ifitS
 have hb:Ez o.Bits=o.Bits:=by apply Xf<;>(rcases width_cases hw with h|h|h|h|h<;>omega)
 have hl:Ez o.Lanes=o.Lanes:=by apply Xf<;>omega
 rw[dC hi hw,JW hi,hb,hl]
 cases(o.Kind==0)<;>cases(o.Kind==14)<;>cases(o.Kind==15)<;>cases(o.Kind==22)<;>cases Dj o.Imm<;>rfl
set_option maxHeartbeats 2000000 in
theorem Sg{α X:Type}(l:List α)(d:α)(p:α->Bool)(f:Int->Option (LR Int X))(yes no:X)(hn:∀ i:Nat,i<l.length->p (l.getD i d)=true->f i=some (.next ((i:Int)+1)))
  (hf:∀ i:Nat,i<l.length->p (l.getD i d)=false->f i=some (.done no)) (he:f l.length=some (.done yes)):∀(k i:Nat),i+k=l.length->Aj f i=some (bif (l.drop i).all p then yes else no)
 | 0,i,h=>by
  obtain rfl:i=l.length:=by omega
  rw[Ah he]
  simp
 | k+1,i,h=>by
  have hi:i<l.length:=by omega
  have hd:l.drop i=l.getD i d::l.drop (i+1):=by rw[Ml hi,Aa _ _ _ hi]
  cases hp:p (l.getD i d) with
  | true=>
   rw[Ao (hn i hi hp)];have:=Sg l d p f yes no hn hf he k (i+1) (by omega);rw[show((i:Int)+1)=((i+1:Nat):Int) by omega,this,hd,Oq,hp,Gz]
  | false=>
   rw[Ah (hf i hi hp),hd,Oq,hp,Ta,A0]
theorem UM{α X:Type}[BEq α][LawfulBEq α](l m:List α)(d:α)(f:Int->Option (LR Int X))(yes no:X)(hlen:l.length=m.length)(hn:∀ i:Nat,i<l.length->(l.getD i d==m.getD i d)=true->f i=some (.next ((i:Int)+1)))
  (hf:∀ i:Nat,i<l.length->(l.getD i d==m.getD i d)=false->f i=some (.done no)) (he:f l.length=some (.done yes)):∀(k i:Nat),i+k=l.length->Aj f i=some (bif l.drop i==m.drop i then yes else no)
 | 0,i,h=>by
  obtain rfl:i=l.length:=by omega
  rw[Ah he];rw[List.drop_length,hlen,List.drop_length]
  simp
 | k+1,i,h=>by
  have hi:i<l.length:=by omega
  have hd:l.drop i=l.getD i d::l.drop (i+1):=by rw[Ml hi,Aa _ _ _ hi]
  have hd':m.drop i=m.getD i d::m.drop (i+1):=by rw[Ml (by omega),Aa _ _ _ (by omega)]
  cases hp:(l.getD i d==m.getD i d) with
  | true=>
   rw[Ao (hn i hi hp)];have:=UM l m d f yes no hlen hn hf he k (i+1) (by omega);rw[show((i:Int)+1)=((i+1:Nat):Int) by omega,this,hd,hd',List.cons_beq_cons,hp,Gz]
  | false=>
   rw[Ah (hf i hi hp),hd,hd',List.cons_beq_cons,hp,Ta,A0]
theorem Wn{α:Type}(l:List α)(d:α)(wt:α->Nat)(C:Nat)(f:Int×Int->Option (LR (Int×Int) Int))
  (hn:∀(n i:Nat),i<l.length->n<=C->∃ m:Nat,f ((n:Int),(i:Int))=some (.next ((m:Int),((i+1:Nat):Int)))/\(n+wt (l.getD i d)<=C->m=n+wt (l.getD i d))/\(m<=C->n+wt (l.getD i d)<=C))
  (hd:∀(n i:Nat),i<=l.length->(i=l.length\/C<n)->f ((n:Int),(i:Int))=some (.done (n:Int))) :
  ∀(k i n:Nat),i+k=l.length->∃ m:Nat,Aj f ((n:Int),(i:Int))=some (m:Int)/\(n+((l.drop i).map wt).sum<=C->m=n+((l.drop i).map wt).sum)/\(m<=C->n+((l.drop i).map wt).sum<=C)
 | 0,i,n,h=>by
  obtain rfl:i=l.length:=by omega
  refine⟨n,Ah (hd n _ (zzL8 _) (.inl rfl)),?_,?_⟩
  ·simp
  ·simp
 | k+1,i,n,h=>by
  have hi:i<l.length:=by omega
  have hdr:l.drop i=l.getD i d::l.drop (i+1):=by rw[Ml hi,Aa _ _ _ hi]
  by_cases hC:n<=C
  ·obtain⟨m,h1,h2,h3⟩:=hn n i hi hC;obtain⟨m',h4,h5,h6⟩:=Wn l d wt C f hn hd k (i+1) m (by omega);refine⟨m',by rw[Ao h1];exact h4,λhle=>?_,λhle=>?_⟩
   ·rw[hdr,Bs,U7]at hle ⊢;have:=h2 (by omega);subst this;rw[h5 (by omega)];omega
   ·rw[hdr,Bs,U7];have h7:=h6 hle;have h8:=h3 (by omega);have:=h2 h8;omega
  ·refine⟨n,Ah (hd n i (by omega) (.inr (by omega))),λhle=>by omega,λhle=>by omega⟩
theorem Qa{X:Type}(N:Nat)(f:Int×Int->Option (LR (Int×Int) X))(hn:∀(n:Int) (i:Nat),i<N->(∃ m:Int,f (n,(i:Int))=some (.next (m,((i+1:Nat):Int))))\/∃ x,f (n,(i:Int))=some (.done x))(hd:∀ n:Int,∃ x,f (n,(N:Int))=some (.done x)) :
  ∀(k i:Nat) (n:Int),i+k=N->∃ x,Aj f (n,(i:Int))=some x
 | 0,i,n,h=>by
  obtain rfl:i=N:=by omega
  obtain⟨x,hx⟩:=hd n;exact⟨x,Ah hx⟩
 | k+1,i,n,h=>by
  rcases hn n i (by omega) with⟨m,hm⟩|⟨x,hx⟩
  ·obtain⟨x,hx⟩:=Qa N f hn hd k (i+1) m (by omega);exact⟨x,by rw[Ao hm];exact hx⟩
  ·exact⟨x,Ah hx⟩
theorem GZ{α X:Type}(l:List α)(d:α)(wt:α->Nat)(out:Int->X)(f:Int×Int->Option (LR (Int×Int) X))
  (hn:∀(n i:Nat),i<l.length->f (Bh n,(i:Int))=some (.next (Bh ((n+wt (l.getD i d):Nat):Int),((i+1:Nat):Int)))) (hd:∀ n:Int,f (n,(l.length:Int))=some (.done (out n))) :
  ∀(k i n:Nat),i+k=l.length->Aj f (Bh n,(i:Int))=some (out (Bh ((n+((l.drop i).map wt).sum:Nat):Int)))
 | 0,i,n,h=>by
  obtain rfl:i=l.length:=by omega
  rw[Ah (hd _)]
  simp
 | k+1,i,n,h=>by
  have hi:i<l.length:=by omega
  have hdr:l.drop i=l.getD i d::l.drop (i+1):=by rw[Ml hi,Aa _ _ _ hi]
  rw[Ao (hn n i hi),GZ l d wt out f hn hd k (i+1) _ (by omega),hdr,Bs,U7,Rl]
theorem VC(a b:Int):Bh (Bh a+b)=Bh (a+b):=by
 show IntKind.i64.wrap (IntKind.i64.wrap a+b)=IntKind.i64.wrap (a+b)
 simp only[IntKind.wrap,IntKind.bits,IntKind.signed]
 simp
 split<;>split<;>omega
theorem getD_mem{α:Type}{l:List α}{i:Nat}{d:α}(h:i<l.length):l.getD i d∈l:=by rw[Aa _ _ _ h];exact Xm h
theorem Bb{i n:Nat}(h:i<n):B9 (i:Int) n:=⟨by omega,by exact_mod_cast h⟩
theorem Dc{i n:Nat}(h:i<n)(hn:n<9223372036854775808):Bh ((i:Int)+1)=(i:Int)+1:=Hp (by omega) (by omega)
def ba(l:List Int):Prop:=∀ x∈l,0<=x/\x<=2147483647
theorem Wm{S X:Type}(f:S->Option (LR S X))(T:Nat->S)(x:X):∀(n:Nat),(∀ i,i<n->f (T i)=some (.next (T (i+1))))->f (T n)=some (.done x)->Aj f (T 0)=some x:=by
 suffices h:∀(k i n:Nat),i+k=n->(∀ j,i<=j->j<n->f (T j)=some (.next (T (j+1))))->f (T n)=some (.done x)->Aj f (T i)=some x from
  λn h1 h2=>h n 0 n (by omega) (λj _ hj=>h1 j hj) h2
 intro k
 induction k with
 | zero=>
  intro i n hi _ h2
  have hin:n=i:=by omega
  subst hin;exact Ah h2
 | succ k ih=>intro i n hi h1 h2;rw[Ao (h1 i (zzL8 _) (by omega))];exact ih (i+1) n (by omega) (λj hj hj'=>h1 j (by omega) hj') h2
theorem FG{S X:Type}(f:S->Option (LR S X))(T:Nat->S):∀(n:Nat),(∀ i,i<n->f (T i)=some (.next (T (i+1))))->Aj f (T 0)=Aj f (T n):=by
 intro n
 induction n with
 | zero=>intro _;rfl
 | succ n ih=>intro h;rw[ih (λi hi=>h i (by omega)),Ao (h n (by omega))]
theorem M3{S X:Type}(f:S->Option (LR S X))(T:Nat->S)(p:Nat->Bool)(yes no:X)(n:Nat)(hn:∀ i,i<n->p i=true->f (T i)=some (.next (T (i+1))))(hf:∀ i,i<n->p i=false->f (T i)=some (.done no))
  (he:f (T n)=some (.done yes)):Aj f (T 0)=some (bif (List.range n).all p then yes else no):=by
 cases hall:(List.range n).all p with
 | true=>
  rw[Ae];exact Wm f T yes n (λi hi=>hn i hi (zzL27.1 hall i (zzL38.2 hi))) he
 | false=>
  rw[A0]
  have hex:∃ i,i<n/\p i=false:=by
   have:¬ ∀ i∈List.range n,p i=true:=λh=>by rw[zzL27.2 h]at hall;cases hall
   simpa using this
  let P:Nat->Prop:=λm=>m<n/\p m=false
  obtain⟨m,hm⟩:=hex
  have key:∀ m,m<n->p m=false->∃ k,k<n/\p k=false/\∀ j,j<k->p j=true:=by
   intro m
   induction m using Nat.strongRecOn with
   | ind m ih=>
    intro h1 h2
    by_cases h:∃ j,j<m/\p j=false
    ·obtain⟨j,hj,hpj⟩:=h;exact ih j hj (by omega) hpj
    ·refine⟨m,h1,h2,λj hj=>?_⟩
     cases hpj:p j with
     | true=>rfl
     | false=>exact(h ⟨j,hj,hpj⟩).elim
  obtain⟨k,hk,hpk,hlt⟩:=key m hm.1 hm.2;rw[FG f T k (λi hi=>hn i (by omega) (hlt i hi))];exact Ah (hf k hk hpk)
theorem all_range{n:Nat}{p:Nat->Bool}:(List.range n).all p=true↔∀ i,i<n->p i=true:=by
 rw[zzL27];exact⟨λh i hi=>h i (zzL38.2 hi),λh i hi=>h i (zzL38.1 hi)⟩
theorem A5(i:Nat):((i:Int)).toNat=i:=Dg i
theorem w1{i:Nat}(h:i<4611686018427387904):Bh ((i:Int)+1)=((i+1:Nat):Int):=by rw[Hp (by omega) (by omega)];omega
theorem F1{i n:Nat}(h:i<n):decide (((i:Nat):Int)<((n:Nat):Int))=true:=by simpa using h
theorem Kh{n:Nat}:decide (((n:Nat):Int)<((n:Nat):Int))=false:=by simp
theorem H6{i n:Nat}(h:i<n):B9 ((i:Nat):Int) n:=Bb h
theorem kQ{x:Int}{n:Nat}(h0:0<=x)(h1:x<n):B9 x n:=⟨h0,h1⟩
structure ZC(o:Bv):Prop where
 imm:0<=o.Imm/\o.Imm<18446744073709551616
 args:o.Args.length<=200
theorem SJ(x:Int×Int)(n:Int)(h:n=2\/n=4\/n=8\/n=16):Bm [x] n=some (List.replicate n.toNat x):=by
 let d:Int×Int:=(0,0)
 rcases h with rfl|rfl|rfl|rfl
 ·have e:Bm [x] 2=(Aj Ca (1,[x,d])).bind some:=by kernel_rfl
  rw[e,Ao (s':=(2,[x,x])) (by kernel_rfl),Ah (x:=[x,x]) (by kernel_rfl)]
  rfl
 ·have e:Bm [x] 4=(Aj Ca (1,[x,d,d,d])).bind some:=by kernel_rfl
  rw[e,Ao (s':=(2,[x,x,d,d])) (by kernel_rfl),Ao (s':=(4,[x,x,x,x])) (by kernel_rfl),Ah (x:=[x,x,x,x]) (by kernel_rfl)]
  rfl
 ·have e:Bm [x] 8=(Aj Ca (1,[x,d,d,d,d,d,d,d])).bind some:=by kernel_rfl
  rw[e,Ao (s':=(2,[x,x,d,d,d,d,d,d])) (by kernel_rfl),Ao (s':=(4,[x,x,x,x,d,d,d,d])) (by kernel_rfl),Ao (s':=(8,[x,x,x,x,x,x,x,x])) (by kernel_rfl),
   Ah (x:=[x,x,x,x,x,x,x,x]) (by kernel_rfl)]
  rfl
 ·have e:Bm [x] 16=(Aj Ca (1,[x,d,d,d,d,d,d,d,d,d,d,d,d,d,d,d])).bind some:=by kernel_rfl
  rw[e,Ao (s':=(2,[x,x,d,d,d,d,d,d,d,d,d,d,d,d,d,d])) (by kernel_rfl),Ao (s':=(4,[x,x,x,x,d,d,d,d,d,d,d,d,d,d,d,d])) (by kernel_rfl),
   Ao (s':=(8,[x,x,x,x,x,x,x,x,d,d,d,d,d,d,d,d])) (by kernel_rfl),Ao (s':=(16,List.replicate 16 x)) (by kernel_rfl),Ah (x:=List.replicate 16 x) (by kernel_rfl)]
  rfl
theorem bj(l:List (Int×Int)):Fb l=some l:=rfl
theorem CU(o:Bv)(hs:Wk o.Bits o.Lanes=true)(hk:bf o.Kind=true)(hf:Xb o.Kind o.Bits o.Lanes=true):Ku o=some (Lr o):=by
 have hl:=Ol hs;obtain⟨k,b,n,d,args,i⟩:=o;simp only at hs hk hf hl ⊢;rcases kinds k with rfl|rfl|rfl|rfl|rfl|rfl|rfl|rfl|rfl|rfl|rfl|rfl|rfl|rfl|rfl|rfl|rfl|rfl|rfl|rfl|rfl|rfl|rfl|h
 case inr.inr.inr.inr.inr.inr.inr.inr.inr.inr.inr.inr.inr.inr.inr.inr.inr.inr.inr.inr.inr.inl=>
  have h1:n≠1:=by rintro rfl;simp[Xb]at hf
  have h4:n=2\/n=4\/n=8\/n=16:=by omega
  unfold Ku;rw[show(((21:Int))==21)=true from rfl];simp only[SJ _ _ h4,bj,Ay];rcases h4 with rfl|rfl|rfl|rfl<;>rfl
 all_goals first
  | rfl
  | (rw[fC h]at hk;cases hk)
  | (rcases hl with rfl|rfl|rfl|rfl|rfl<;>first|rfl|(simp[Xb]at hf))
theorem JT(o:Bv)(hs:Wk o.Bits o.Lanes=true)(hk:bf o.Kind=true)(hf:Xb o.Kind o.Bits o.Lanes=true)(hl:o.Args.length<=200):Kq o=some (((o.Args.length:Int)==Mj o.Kind o.Lanes)&&o.Args.all valS):=by
 unfold Kq;rw[CU o hs hk hf]
 have hn:0<=Mj o.Kind o.Lanes:=by
  have:=Ol hs;unfold Mj
  cases(o.Kind==0)<;>cases(o.Kind==13 || o.Kind==18 || o.Kind==19)<;>cases(o.Kind==14 || o.Kind==15 || o.Kind==16 || o.Kind==22)<;>cases(o.Kind==20)<;>cases(o.Kind==21)<;>simp<;>omega
 have hlen:((Lr o).length:Int)=Mj o.Kind o.Lanes:=by simp[Lr];omega
 simp only[Ay,hlen]
 by_cases he:(o.Args.length:Int)=Mj o.Kind o.Lanes
 ·have e1:((o.Args.length:Int)==Mj o.Kind o.Lanes)=true:=by simpa using he
  have e2:((o.Args.length:Int)!=Mj o.Kind o.Lanes)=false:=by simpa using he
  rw[e1,e2,A0]
  have hloop:=Sg o.Args (0:Int) valS (Gm o) (.inl ()) (.inr false) (λi hi hp=>by
    unfold Gm
    have:decide ((i:Int)<(o.Args.length:Int))=true:=by simpa using hi
    simp only[this,Ae,Ar (Bb hi),Dg,P8,Ay,hp,Fi,A0,Dc hi (by omega)]) (λi hi hp=>by
    unfold Gm
    have:decide ((i:Int)<(o.Args.length:Int))=true:=by simpa using hi
    simp only[this,Ae,Ar (Bb hi),Dg,P8,Ay,hp,L7]) (by
    unfold Gm
    simp) o.Args.length 0 (by omega)
  rw[show(0:Int)=((0:Nat):Int) from rfl,hloop,K1]
  cases o.Args.all valS<;>rfl
 ·have e1:((o.Args.length:Int)==Mj o.Kind o.Lanes)=false:=by simpa using he
  have e2:((o.Args.length:Int)!=Mj o.Kind o.Lanes)=true:=by simpa using he
  rw[e1,e2];rfl
theorem CN{k b n:Int}(hs:Wk b n=true):((Lg k b n).1==0)=(k==17 || k==19):=by
 have hb:(b==0)=false:=by
  have:=width_cases (S5 hs);simp;omega
 unfold Lg
 cases(k==17 || k==19)<;>cases(k==10 || k==11 || k==12)<;>cases(k==22)<;>simp_all
theorem JU(o:Bv)(hs:Wk o.Bits o.Lanes=true):Kr o=some (dstS o.Kind o.Dst):=by
 unfold Kr;simp only[CS,Ay,CN hs,P8,dstS]
 cases(o.Kind==17 || o.Kind==19)<;>rfl
theorem CR(o:Bv)(ho:ZC o):Lm o=some (Hq o):=by
 unfold Lm Hq;simp only[MY,RQ,CT,Ay]
 cases hs:Wk o.Bits o.Lanes with
 | false=>cases bf o.Kind<;>rfl
 | true=>
  have hl:=Ol hs
  cases hk:bf o.Kind with
  | false=>rfl
  | true=>
   rw[JV o (S5 hs) (by omega) ho.imm];simp only[JU o hs]
   cases hf:Xb o.Kind o.Bits o.Lanes with
   | false=>rfl
   | true=>
    rw[JT o hs hk hf ho.args]
    generalize ifitS o.Kind o.Bits o.Lanes o.Imm=p
    generalize ((o.Args.length:Int)==Mj o.Kind o.Lanes)=q
    generalize o.Args.all valS=r
    generalize dstS o.Kind o.Dst=s
    cases p<;>cases q<;>cases r<;>cases s<;>rfl
theorem BH{o:Bv}(h:Hq o=true):Wk o.Bits o.Lanes=true/\bf o.Kind=true/\Xb o.Kind o.Bits o.Lanes=true/\ifitS o.Kind o.Bits o.Lanes o.Imm=true/\(o.Args.length:Int)=Mj o.Kind o.Lanes/\o.Args.all valS=true/\dstS o.Kind o.Dst=true:=by
 simp only[Hq,A4,zzL72]at h;exact⟨h.1.1,h.1.2.1.1.1,h.1.2.1.1.2,h.1.2.1.2,h.1.2.2,h.2.1,h.2.2⟩
theorem RR(o:Bv)(ho:ZC o):Kp o=some (bif Hq o then Lr o else[]):=by
 unfold Kp;rw[CR o ho];simp only[Ay]
 cases hm:Hq o with
 | false=>rfl
 | true=>
  obtain⟨h1,h2,h3,_⟩:=BH hm;simp only[CU o h1 h2 h3,Ay]
  rfl
theorem RP(o:Bv)(ho:ZC o):Ko o=some (bif Hq o then Lg o.Kind o.Bits o.Lanes else(0,0)):=by
 unfold Ko;rw[CR o ho];simp only[Ay,CS]
 cases Hq o<;>rfl
def numB(n:Int):Bool:=decide (0<=n)&&decide (n<=2147483647)
def Lz(l:List Int):Bool:=l.all numB&&decide (l.length<=64)
def FS(p:Fy):Bool:=numB p.Bits&&numB p.Dst&&Lz p.From&&Lz p.Args
def LL(o:Bv):Bool:=numB o.Kind&&numB o.Bits&&numB o.Lanes&&numB o.Dst&&Lz o.Args
def MO(e:H1):Bool:=numB e.Kind&&numB e.Arg&&Lz e.To
def blockB(b:Ag):Bool:=b.Phis.all FS&&b.Ops.all LL&&MO b.End
def sizeB(b:Ag):Nat:=b.Phis.length+b.Ops.length+1
def Om(f:Ab):Nat:=(f.Blocks.map sizeB).sum
def sizeW(f:Ab):Int:=Bh (Om f)
def Qf(f:Ab):Bool:=decide (1<=f.Blocks.length)&&decide (f.Blocks.length<=64)&&decide (f.Params.length<=16)&&Lz f.Params&&numB f.Ret&&decide (sizeW f<=512)&&f.Blocks.all blockB
def WT(p:Fy):Nat:=1+p.From.length+p.Args.length
def JQ(o:Bv):Nat:=1+o.Args.length
def WR(b:Ag):Nat:=1+b.End.To.length+(b.Phis.map WT).sum+(b.Ops.map JQ).sum
def WS(f:Ab):Nat:=f.Params.length+(f.Blocks.map WR).sum
theorem I4:maxLen=9223372036854775807:=rfl
structure de(f:Ab):Prop where
 params:f.Params.length<=maxLen
 blocks:f.Blocks.length<=maxLen
 block:∀ b∈f.Blocks,b.Phis.length<=maxLen/\b.Ops.length<=maxLen/\b.End.To.length<=maxLen
 phi:∀ b∈f.Blocks,∀ p∈b.Phis,p.From.length<=maxLen/\p.Args.length<=maxLen
 op:∀ b∈f.Blocks,∀ o∈b.Ops,o.Args.length<=maxLen/\0<=o.Imm/\o.Imm<18446744073709551616
theorem BR{n:Nat}(h:n<9223372036854775808):Bh (n:Int)=n:=Hp (by omega) (by omega)
theorem Ir{i n:Nat}(h:i<n)(hn:n<=maxLen):Bh ((i:Int)+1)=((i+1:Nat):Int):=by rw[I4]at hn;rw[show((i:Int)+1)=((i+1:Nat):Int) by omega,BR (by omega)]
theorem SP(f:Ab)(hf:de f):∃ b,Do f=some b:=by
 have h3:∃ x,Aj (Bn f) ((f.Params.length:Int),((0:Nat):Int))=some x:=by
  refine Qa f.Blocks.length (Bn f) (λn i hi=>?_) (λn=>?_) f.Blocks.length 0 _ (Fx _)
  ·have hmem:=getD_mem (d:=(default:Ag)) hi;obtain⟨b1,b2,_⟩:=hf.block _ hmem;have hI:B9 (i:Int) f.Blocks.length:=Bb hi;unfold Bn
   cases hc:(bif decide ((i:Int)<(f.Blocks.length:Int)) then decide (n<=20000) else false) with
   | false=>right;simp only[hc,A0];exact⟨_,rfl⟩
   | true=>
    left
    simp only[hc,Ae,Ar hI]
    obtain⟨x1,h1⟩:=Qa (f.Blocks.getD i default).Phis.length (B4 f i) (λn j hj=>by
      unfold B4;simp only[Ar hI,Dg]
      cases hc:(bif decide ((j:Int)<((f.Blocks.getD i default).Phis.length:Int)) then decide (n<=20000) else false) with
      | false=>right;exact⟨_,rfl⟩
      | true=>left;simp only[Ae,Ar (Bb hj),Ir hj b1];exact⟨_,rfl⟩) (λn=>by
      unfold B4;simp only[Ar hI,Dg]
      have:decide (((f.Blocks.getD i default).Phis.length:Int)<((f.Blocks.getD i default).Phis.length:Int))=false:=by simp
      simp only[this,A0];exact⟨_,rfl⟩) _ 0 (Bh (Bh (n+1)+((f.Blocks.getD i default).End.To.length:Int))) (Fx _)
    obtain⟨x2,h2⟩:=Qa (f.Blocks.getD i default).Ops.length (B5 f i) (λn j hj=>by
      unfold B5;simp only[Ar hI,Dg]
      cases hc:(bif decide ((j:Int)<((f.Blocks.getD i default).Ops.length:Int)) then decide (n<=20000) else false) with
      | false=>right;exact⟨_,rfl⟩
      | true=>left;simp only[Ae,Ar (Bb hj),Ir hj b2];exact⟨_,rfl⟩) (λn=>by
      unfold B5;simp only[Ar hI,Dg]
      have:decide (((f.Blocks.getD i default).Ops.length:Int)<((f.Blocks.getD i default).Ops.length:Int))=false:=by simp
      simp only[this,A0];exact⟨_,rfl⟩) _ 0 x1 (Fx _)
    rw[show((0:Nat):Int)=0 from rfl]at h1 h2;simp only[Dg,h1,h2,Ay,Ir hi hf.blocks];exact⟨_,rfl⟩
  ·unfold Bn
   have:decide ((f.Blocks.length:Int)<(f.Blocks.length:Int))=false:=by simp
   simp only[this,A0];exact⟨_,rfl⟩
 obtain⟨x,hx⟩:=h3;unfold Do;rw[show((0:Nat):Int)=0 from rfl]at hx;rw[hx];exact⟨_,rfl⟩
theorem OU(f:Ab)(hf:de f)(h0:f.Params.length<=64)(hb:∀ b∈f.Blocks,b.End.To.length<=64/\(∀ p∈b.Phis,p.From.length<=64/\p.Args.length<=64)/\∀ o∈b.Ops,o.Args.length<=64):Do f=some (decide (WS f<=20000)):=by
 have h3:=Wn f.Blocks (default:Ag) WR 20000 (Bn f) (λn i hi hn=>by
   have hmem:=getD_mem (d:=(default:Ag)) hi;obtain⟨b1,b2,b3⟩:=hf.block _ hmem;obtain⟨hTo,hPh,hOp⟩:=hb _ hmem;have hI1:B9 (i:Int) f.Blocks.length:=Bb hi
   have l1:=Wn (f.Blocks.getD i default).Phis (default:Fy) WT 20000 (B4 f i) (λn j hj hn=>by
     have hm:=getD_mem (d:=(default:Fy)) hj;obtain⟨p1,p2⟩:=hPh _ hm
     have e1:decide ((j:Int)<((f.Blocks.getD i default).Phis.length:Int))=true:=by simpa using hj
     have e2:decide ((n:Int)<=20000)=true:=by simp;omega
     refine⟨n+WT ((f.Blocks.getD i default).Phis.getD j default),?_,λ_=>rfl,λh=>h⟩;unfold B4;simp only[Ar hI1,Dg,e1,e2,Ae,Ar (Bb hj),Ir hj b1]
     congr 3
     rw[Hp (n:=(n:Int)+1) (by omega) (by omega),Hp (n:=(n:Int)+1+_) (by omega) (by omega),Hp (by omega) (by omega)];simp only[WT]
     omega) (λn j hj hd=>by
     unfold B4;simp only[Ar hI1,Dg]
     have:(bif decide ((j:Int)<((f.Blocks.getD i default).Phis.length:Int)) then decide ((n:Int)<=20000) else false)=false:=by
      rcases hd with rfl|h
      ·simp
      ·simp;omega
     rw[this];rfl)
   have l2:=Wn (f.Blocks.getD i default).Ops (default:Bv) JQ 20000 (B5 f i) (λn j hj hn=>by
     have hm:=getD_mem (d:=(default:Bv)) hj;have p1:=hOp _ hm
     have e1:decide ((j:Int)<((f.Blocks.getD i default).Ops.length:Int))=true:=by simpa using hj
     have e2:decide ((n:Int)<=20000)=true:=by simp;omega
     refine⟨n+JQ ((f.Blocks.getD i default).Ops.getD j default),?_,λ_=>rfl,λh=>h⟩;unfold B5;simp only[Ar hI1,Dg,e1,e2,Ae,Ar (Bb hj),Ir hj b2]
     congr 3
     rw[Hp (n:=(n:Int)+1) (by omega) (by omega),Hp (by omega) (by omega)];simp only[JQ]
     omega) (λn j hj hd=>by
     unfold B5;simp only[Ar hI1,Dg]
     have:(bif decide ((j:Int)<((f.Blocks.getD i default).Ops.length:Int)) then decide ((n:Int)<=20000) else false)=false:=by
      rcases hd with rfl|h
      ·simp
      ·simp;omega
     rw[this];rfl)
   have e1:decide ((i:Int)<(f.Blocks.length:Int))=true:=by simpa using hi
   have e2:decide ((n:Int)<=20000)=true:=by simp;omega
   obtain⟨m1,q1,q2,q3⟩:=l1 _ 0 (n+1+(f.Blocks.getD i default).End.To.length) (Fx _);obtain⟨m2,q4,q5,q6⟩:=l2 _ 0 m1 (Fx _);rw[K1]at q2 q3 q5 q6;refine⟨m2,?_,λhle=>?_,λhle=>?_⟩
   ·unfold Bn;simp only[e1,e2,Ae,Ar hI1,Dg,Ir hi hf.blocks];rw[Hp (n:=(n:Int)+1) (by omega) (by omega),Hp (by omega) (by omega),show(n:Int)+1+((f.Blocks.getD i default).End.To.length:Int)=((n+1+(f.Blocks.getD i default).End.To.length:Nat):Int) by omega];rw[show((0:Nat):Int)=0 from rfl]at q1 q4;rw[q1,Ay,q4,Ay]
   ·simp only[WR]at hle ⊢;have:=q2 (by omega);rw[q5 (by omega)];omega
   ·simp only[WR];have h6:=q6 hle;have h3:=q3 (by omega);have:=q2 h3
    omega) (λn i hi hd=>by
   unfold Bn
   have:(bif decide ((i:Int)<(f.Blocks.length:Int)) then decide ((n:Int)<=20000) else false)=false:=by
    rcases hd with rfl|h
    ·simp
    ·simp;omega
   simp only[this,A0]) f.Blocks.length 0 f.Params.length (Fx _)
 obtain⟨m,h1,h2,h4⟩:=h3;rw[K1]at h2 h4;unfold Do;rw[show((0:Nat):Int)=0 from rfl]at h1;rw[h1,Ay]
 congr 1
 apply zzL105.2
 simp only[WS]
 constructor
 ·intro h;exact h4 (by omega)
 ·intro h;have:=h2 h;omega
theorem b8{n:Int}:numB n=true↔0<=n/\n<=2147483647:=by simp[numB]
theorem listB_iff{l:List Int}:Lz l=true↔ba l/\l.length<=64:=by
 simp[Lz,ba,b8]
def ks(n:Int):Prop:=0<=n/\n<18446744073709551616
structure mu(b:Ag):Prop where
 may:blockB b=true
 phis:b.Phis.length<=512
 ops:b.Ops.length<=512
 imm:∀ o∈b.Ops,ks o.Imm
structure OkF(f:Ab):Prop where
 params:Lz f.Params=true
 few:f.Params.length<=16
 ret:numB f.Ret=true
 blocks:f.Blocks.length<=64
 block:∀ b∈f.Blocks,mu b
theorem blockB_iff{b:Ag}:blockB b=true↔(∀ p∈b.Phis,FS p=true)/\(∀ o∈b.Ops,LL o=true)/\MO b.End=true:=by
 simp[blockB,and_assoc]
theorem jU{α:Type}(l:List α)(g:α->Nat)(B:Nat)(h:∀ a∈l,g a<=B):(l.map g).sum<=l.length*B:=by
 induction l with
 | nil=>simp
 | cons a l ih=>
  have h1:=h a (by simp);have h2:=ih (λb hb=>h b (by simp[hb]));rw[Bs,U7,Oo,Dz];omega
theorem cn{α:Type}(l:List α)(g k:α->Nat)(h:∀ a∈l,g a<=k a):(l.map g).sum<=(l.map k).sum:=by
 induction l with
 | nil=>simp
 | cons a l ih=>
  have h1:=h a (by simp);have h2:=ih (λb hb=>h b (by simp[hb]));rw[Bs,U7,Bs,U7];omega
theorem CW{α:Type}(l:List α)(g:α->Nat)(h:∀ a∈l,1<=g a):l.length<=(l.map g).sum:=by
 induction l with
 | nil=>simp
 | cons a l ih=>
  have h1:=h a (by simp);have h2:=ih (λb hb=>h b (by simp[hb]));rw[Bs,U7,Oo];omega
theorem RU{α:Type}{l:List α}{a:α}(g:α->Nat)(h:a∈l):g a<=(l.map g).sum:=by
 induction l with
 | nil=>cases h
 | cons b l ih=>
  rw[Bs,U7];rcases zzL22.1 h with rfl|h
  ·omega
  ·have:=ih h;omega
theorem OkF.size{f:Ab}(h:OkF f):Om f<=65600/\sizeW f=Om f:=by
 have:Om f<=f.Blocks.length*1025:=jU _ _ _ λb hb=>by
  have h1:=(h.block b hb).phis;have h2:=(h.block b hb).ops;simp only[sizeB];omega
 have h2:=h.blocks
 have h3:Om f<=65600:=by omega
 exact⟨h3,BR (by omega)⟩
theorem Ya{f:Ab}(h:Qf f=true):1<=f.Blocks.length/\f.Blocks.length<=64/\f.Params.length<=16/\Lz f.Params=true/\numB f.Ret=true/\sizeW f<=512/\∀ b∈f.Blocks,blockB b=true:=by
 simp only[Qf,A4,Du,zzL27]at h;exact⟨h.1.1.1.1.1.1,h.1.1.1.1.1.2,h.1.1.1.1.2,h.1.1.1.2,h.1.1.2,h.1.2,h.2⟩
theorem XI{f:Ab}(h:Qf f=true):f.Params.length<=64/\∀ b∈f.Blocks,b.End.To.length<=64/\(∀ p∈b.Phis,p.From.length<=64/\p.Args.length<=64)/\∀ o∈b.Ops,o.Args.length<=64:=by
 obtain⟨_,_,h3,_,_,_,h7⟩:=Ya h;refine⟨by omega,λb hb=>?_⟩;obtain⟨q1,q2,q3⟩:=blockB_iff.1 (h7 b hb);simp only[MO,A4]at q3;refine⟨(listB_iff.1 q3.2).2,λp hp=>?_,λo ho=>?_⟩
 ·have:=q1 p hp;simp only[FS,A4]at this;exact⟨(listB_iff.1 this.1.2).2,(listB_iff.1 this.2).2⟩
 ·have:=q2 o ho;simp only[LL,A4]at this;exact(listB_iff.1 this.2).2
theorem jE{f:Ab}(hf:de f)(h:Qf f=true)(hs:WS f<=20000):OkF f/\Om f<=512:=by
 obtain⟨h1,h2,h3,h4,h5,h6,h7⟩:=Ya h
 have hle:Om f<=WS f:=by
  have:Om f<=(f.Blocks.map WR).sum:=cn _ _ _ λb hb=>by
   have q1:b.Phis.length<=(b.Phis.map WT).sum:=CW _ _ λp hp=>by simp only[WT];omega
   have q2:b.Ops.length<=(b.Ops.map JQ).sum:=CW _ _ λp hp=>by simp only[JQ];omega
   simp only[sizeB,WR];omega
  simp only[WS];omega
 have hw:sizeW f=Om f:=BR (by omega)
 have h512:Om f<=512:=by omega
 refine⟨⟨h4,h3,h5,h2,λb hb=>?_⟩,h512⟩;have hb512:sizeB b<=Om f:=RU sizeB hb;simp only[sizeB]at hb512;exact⟨h7 b hb,by omega,by omega,λo ho=>(hf.op b hb o ho).2⟩
theorem OV(f:Ab)(hf:de f):∃ sm,Do f=some sm/\(sm=true->Qf f=true->OkF f/\Om f<=512/\1<=f.Blocks.length):=by
 obtain⟨sm,h⟩:=SP f hf;refine⟨sm,h,λh1 h2=>?_⟩;obtain⟨q1,q2⟩:=XI h2;rw[OU f hf q1 q2]at h;subst h1;obtain⟨r1,r2⟩:=jE hf h2 (by simpa using OI h);exact⟨r1,r2,(Ya h2).1⟩
def JY(l:Int):Int:=bif l==0 then 17 else bif l==1 then 20 else 22
def G3(l:Int)(o:Bv):Bool:=Hq o&&!decide (JY l<o.Kind)&&!(decide (l<2)&&decide (1<o.Lanes))
def Hh(l:Int)(b:Ag):Bool:=(b.Phis.all λp=>Dj p.Bits)&&b.Ops.all (G3 l)
def O7(f:Ab)(l:Int):Bool:=f.Params.all Dj&&f.Blocks.all (Hh l)&&Dj f.Ret
theorem jM{f:Ab}(hf:OkF f){b:Ag}(hb:b∈f.Blocks){o:Bv}(ho:o∈b.Ops):ZC o:=by
 have h1:=hf.block b hb;have h2:=(blockB_iff.1 h1.may).2.1 o ho;simp only[LL,A4]at h2;exact⟨⟨(h1.imm o ho).1,(h1.imm o ho).2⟩,by have:=(listB_iff.1 h2.2).2;omega⟩
theorem fu:room=1099511627776:=rfl
theorem J2{β:Type}(C:Nat)(E:Nat->List β):∀ l:List Nat,(∀ i∈l,(E i).length<=C)->(l.flatMap E).length<=l.length*C
 | [],_=>by simp
 | a::l,h=>by
  have h1:=h a (by simp);have h2:=J2 C E l (λi hi=>h i (by simp[hi]));rw[Te,E8,Oo,Dz];omega
def Ia(l:List TDef)(v:Int):Int:=match l.findIdx? (λd=>d.V==v) with|some i=>(i:Int)|none=>-1
def Gu(o:Bv):Int×Int:=bif Hq o then Lg o.Kind o.Bits o.Lanes else(0,0)
def Ex(o:Bv):List (Int×Int):=bif Hq o then Lr o else[]
def K6(f:Ab):List TDef:=(List.range f.Params.length).flatMap λ(i:Nat)=>[⟨(i:Int)+1,-1,0,(f.Params.getD i 0,1)⟩]
def Tn(b:Ag)(i:Nat):List TDef:=(List.range b.Phis.length).flatMap λ(k:Nat)=>[⟨(b.Phis.getD k default).Dst,i,-1,((b.Phis.getD k default).Bits,1)⟩]
def X1(b:Ag)(i:Nat):List TDef:=(List.range b.Ops.length).flatMap λ(k:Nat)=>bif decide (0<(Gu (b.Ops.getD k default)).1) then[⟨(b.Ops.getD k default).Dst,i,k,Gu (b.Ops.getD k default)⟩] else[]
def J1(b:Ag)(i:Nat):List TDef:=Tn b i++X1 b i
def Au(f:Ab):List TDef:=K6 f++(List.range f.Blocks.length).flatMap λi=>J1 (f.Blocks.getD i default) i
theorem GK(f:Ab):(K6 f).length=f.Params.length:=by
 have h:∀ l:List Nat,(l.map λ_=>1).sum=l.length:=λl=>by induction l with|nil=>rfl|cons a l ih=>simp[ih];omega
 simp[K6,List.length_flatMap,h]
def K0(p:Fy):List Mq:=(List.range p.Args.length).flatMap λ(j:Nat)=>[⟨p.Args.getD j 0,p.From.getD j 0,1000,(p.Bits,1)⟩]
def Qu(b:Ag):List Mq:=(List.range b.Phis.length).flatMap λ(k:Nat)=>K0 (b.Phis.getD k default)
def Lw(o:Bv)(i k:Nat):List Mq:=(List.range (Ex o).length).flatMap λ(j:Nat)=>[⟨o.Args.getD j 0,i,k,(Ex o).getD j (0,0)⟩]
def Qt(b:Ag)(i:Nat):List Mq:=(List.range b.Ops.length).flatMap λ(k:Nat)=>Lw (b.Ops.getD k default) i k
def Uc(f:Ab)(b:Ag)(i:Nat):List Mq:=(bif b.End.Kind==0 then[⟨b.End.Arg,i,1000,(f.Ret,1)⟩] else[])++(bif b.End.Kind==2 then[⟨b.End.Arg,i,1000,(1,1)⟩] else[])
def S7(f:Ab)(b:Ag)(i:Nat):List Mq:=Qu b++Qt b i++Uc f b i
def Dy(f:Ab):List Mq:=(List.range f.Blocks.length).flatMap λ(i:Nat)=>S7 f (f.Blocks.getD i default) i
theorem EK{o:Bv}(h:o.Args.length<=64):(Ex o).length<=64/\(Ex o).length<=o.Args.length:=by
 unfold Ex
 cases hm:Hq o with
 | false=>simp
 | true=>
  simp only[Ae]
  have:((o.Args.length:Int)==Mj o.Kind o.Lanes)=true:=by
   simp only[Hq,A4]at hm;exact hm.1.2.2
  have h2:(o.Args.length:Int)=Mj o.Kind o.Lanes:=by simpa using this
  have h3:(Lr o).length=o.Args.length:=by rw[Lr,Mm,Zz,<- h2,Dg]
  omega
theorem cJ{f:Ab}(hf:OkF f){b:Ag}(hb:b∈f.Blocks){p:Fy}(hp:p∈b.Phis):p.From.length<=64/\p.Args.length<=64:=by
 have:=(blockB_iff.1 (hf.block b hb).may).1 p hp;simp only[FS,A4]at this;exact⟨(listB_iff.1 this.1.2).2,(listB_iff.1 this.2).2⟩
theorem hY{f:Ab}(hf:OkF f){b:Ag}(hb:b∈f.Blocks){o:Bv}(ho:o∈b.Ops):o.Args.length<=64:=by
 have:=(blockB_iff.1 (hf.block b hb).may).2.1 o ho;simp only[LL,A4]at this;exact(listB_iff.1 this.2).2
theorem KW(p:Fy):(K0 p).length<=p.Args.length:=by
 have:=J2 1 (λ(j:Nat)=>[(⟨p.Args.getD j 0,p.From.getD j 0,1000,(p.Bits,1)⟩:Mq)]) (List.range p.Args.length) (λ_ _=>zzL8 _)
 simpa [K0] using this
theorem PD(o:Bv)(i k:Nat):(Lw o i k).length<=(Ex o).length:=by
 have:=J2 1 (λ(j:Nat)=>[(⟨o.Args.getD j 0,i,k,(Ex o).getD j (0,0)⟩:Mq)]) (List.range (Ex o).length) (λ_ _=>zzL8 _)
 simpa [Lw] using this
theorem PE{f:Ab}(hf:OkF f){b:Ag}(hb:b∈f.Blocks):(Qu b).length<=32768:=by
 have:=J2 64 (λ(k:Nat)=>K0 (b.Phis.getD k default)) (List.range b.Phis.length) (λk hk=>by
  have h1:=KW (b.Phis.getD k default);have h2:=(cJ hf hb (getD_mem (d:=(default:Fy)) (by simpa using hk))).2
  omega)
 have h3:=(hf.block b hb).phis;rw[Zz]at this;have h4:b.Phis.length*64<=512*64:=Dm _ h3;rw[Qu];omega
theorem ST{f:Ab}(hf:OkF f){b:Ag}(hb:b∈f.Blocks)(i:Nat):(Qt b i).length<=32768:=by
 have:=J2 64 (λ(k:Nat)=>Lw (b.Ops.getD k default) i k) (List.range b.Ops.length) (λk hk=>by
  have h1:=PD (b.Ops.getD k default) i k;have h2:=(EK (hY hf hb (getD_mem (d:=(default:Bv)) (by simpa using hk)))).1
  omega)
 have h3:=(hf.block b hb).ops;rw[Zz]at this;have h4:b.Ops.length*64<=512*64:=Dm _ h3;rw[Qt];omega
theorem PC(f:Ab)(b:Ag)(i:Nat):(Uc f b i).length<=2:=by
 unfold Uc
 cases b.End.Kind==0<;>cases b.End.Kind==2<;>simp
theorem YH{f:Ab}(hf:OkF f){i:Nat}(hi:i<f.Blocks.length):(S7 f (f.Blocks.getD i default) i).length<=70000:=by
 have hmem:=getD_mem (d:=(default:Ag)) hi;have h1:=PE hf hmem;have h2:=ST hf hmem i;have h3:=PC f (f.Blocks.getD i default) i;rw[S7,E8,E8];omega
theorem HZ{f:Ab}(hf:OkF f):(Dy f).length<=4480000:=by
 have h1:=J2 70000 (λ(i:Nat)=>S7 f (f.Blocks.getD i default) i) (List.range f.Blocks.length) (λi hi=>YH hf (by simpa using hi));have h4:=hf.blocks;rw[Zz]at h1;have:f.Blocks.length*70000<=64*70000:=Dm _ h4;rw[Dy];omega
def fe(f:Ab):Prop:=∀ b∈f.Blocks,∀ p∈b.Phis,p.Args.length<=p.From.length
def cB(n:Nat)(l:List Int)(i:Nat):Bool:=decide ((if i=0 then(-1:Int) else l.getD (i-1) 0)<l.getD i 0)&&(decide (0<=l.getD i 0)&&decide (l.getD i 0<n))
def dp(n:Nat)(l:List Int):Bool:=(List.range l.length).all (cB n l)
def Ln(L:List (List Int)):Bool:=decide (1<=L.length)&&decide (L.length<=64)&&(List.range L.length).all λi=>dp L.length (L.getD i [])
def Zd(L:List (List Int))(k i:Nat):Bool:=(L.getD k []).contains (i:Int)
def Jy(L:List (List Int))(m i:Nat):List Int:=((List.range m).filter λk=>Zd L k i).map Int.ofNat
def Ff(L:List (List Int)):List (List Int):=(List.range L.length).map (Jy L L.length)
theorem Pd(a n:Int):Ga a n=some (decide (0<=a)&&decide (a<n)):=by
 unfold Ga
 cases decide ((0:Int)<=a)<;>rfl
theorem HA(n:Nat):Ht (n:Int)=some (decide (1<=n)&&decide (n<=64)):=by
 unfold Ht
 have h1:decide ((1:Int)<=(n:Int))=decide (1<=n):=by apply zzL105.2;omega
 have h2:decide ((n:Int)<=(64:Int))=decide (n<=64):=by apply zzL105.2;omega
 rw[h1,h2]
 cases decide (1<=n)<;>rfl
theorem EJ(L:List (List Int))(i:Nat)(hl:(L.getD i []).length<4611686018427387904) :
  Aj (Ck L (i:Int)) ((-1:Int),(0:Int))=some (bif dp L.length (L.getD i []) then .inl () else .inr false):=by
 refine M3 (Ck L (i:Int)) (λj=>((if j=0 then(-1:Int) else(L.getD i []).getD (j-1) 0),((j:Nat):Int))) (cB L.length (L.getD i [])) (.inl ()) (.inr false) _ (λj hj hp=>?_) (λj hj hp=>?_) ?_
 ·unfold cB at hp;simp only[A4,Du]at hp;obtain⟨h1,h2,h3⟩:=hp
  show Ck L (i:Int) (_,_)=_
  unfold Ck;simp only[A5,F1 hj,Ae,Pd];rw[Ad (H6 hj)]
  have e1:decide ((L.getD i []).getD j 0<=(if j=0 then(-1:Int) else(L.getD i []).getD (j-1) 0))=false:=by simpa using h1
  simp only[e1,Ey h2,Ey h3,Tb,Pq,Ae,A0,Ay,Fi];rw[w1 (show j<4611686018427387904 by omega)]
  simp
 ·show Ck L (i:Int) (_,_)=_
  unfold Ck;simp only[A5,F1 hj,Ae,Pd];rw[Ad (H6 hj)]
  cases h1:decide ((L.getD i []).getD j 0<=(if j=0 then(-1:Int) else(L.getD i []).getD (j-1) 0)) with
  | true=>simp only[Ae,show((true==false)=false) from rfl,A0,Ay]
  | false=>
   have h1':decide ((if j=0 then(-1:Int) else(L.getD i []).getD (j-1) 0)<(L.getD i []).getD j 0)=true:=by simpa using h1
   unfold cB at hp;rw[h1',Gz]at hp;simp only[Pq,Ae,A0,Ay,hp,L7]
 ·show Ck L (i:Int) (_,_)=_
  unfold Ck;simp only[A5,Kh,A0]
def Fits(L:List (List Int)):Prop:=L.length<4611686018427387904/\∀ l∈L,l.length<4611686018427387904
theorem Fits.at{L:List (List Int)}(h:Fits L)(i:Nat):(L.getD i []).length<4611686018427387904:=by
 by_cases hi:i<L.length
 ·exact h.2 _ (getD_mem hi)
 ·rw[Pp,List.getElem?_eq_none (by omega)];simp
theorem XH(L:List (List Int))(h:Fits L):Jq L=some (Ln L):=by
 unfold Jq;rw[HA,Ay];unfold Ln
 cases hc:(decide (1<=L.length)&&decide (L.length<=64)) with
 | false=>rfl
 | true=>
  simp only[Fi,A0,Gz];have:=M3 (Cl L) (λj=>((j:Nat):Int)) (λi=>dp L.length (L.getD i [])) (.inl ()) (.inr false) L.length (λj hj hp=>?_) (λj hj hp=>?_) ?_
  ·rw[show Aj (Cl L) (0:Int)=_ from this]
   cases(List.range L.length).all λi=>dp L.length (L.getD i [])<;>rfl
  ·show Cl L (j:Int)=_
   unfold Cl;simp only[F1 hj,Ae];rw[Ad (H6 hj),EJ L j (h.at j),hp];simp only[Ae,Ay,w1 (show j<4611686018427387904 by have:=h.1;omega)]
  ·show Cl L (j:Int)=_
   unfold Cl;simp only[F1 hj,Ae];rw[Ad (H6 hj),EJ L j (h.at j),hp]
   rfl
  ·show Cl L _=_
   unfold Cl;simp only[Kh,A0]
theorem P7{α:Type}{n i:Nat}{g:Nat->α}{d:α}(h:i<n):((List.range n).map g).getD i d=g i:=by simp[List.getD,h]
theorem KT{α:Type}{n i:Nat}{g:Nat->α}{x:α}:((List.range n).map g).set i x=(List.range n).map λj=>if j=i then x else g j:=by
 apply List.ext_getElem?
 intro j;rw[List.getElem?_set]
 by_cases hj:j<n
 ·by_cases hij:i=j
  ·subst hij;simp[hj]
  ·simp[hij,hj,Hd hij]
 ·simp[hj];intro h;omega
theorem Pe{α:Type}{n:Nat}{g h:Nat->α}(H:∀ i,i<n->g i=h i):(List.range n).map g=(List.range n).map h:=LA λi hi=>H i (zzL38.1 hi)
theorem mayS_iff{L:List (List Int)}:Ln L=true↔1<=L.length/\L.length<=64/\∀ i,i<L.length->dp L.length (L.getD i [])=true:=by
 unfold Ln;rw[A4,A4,all_range];simp only[Du];exact⟨λ⟨⟨a,b⟩,c⟩=>⟨a,b,c⟩,λ⟨a,b,c⟩=>⟨⟨a,b⟩,c⟩⟩
theorem okL_iff{n:Nat}{l:List Int}:dp n l=true↔∀ i,i<l.length->(0<=l.getD i 0/\l.getD i 0<n)/\(0<i->l.getD (i-1) 0<l.getD i 0):=by
 unfold dp;rw[all_range];unfold cB;simp only[A4,Du]
 constructor
 ·intro h i hi;obtain⟨h1,h2,h3⟩:=h i hi;refine⟨⟨h2,h3⟩,λhp=>?_⟩;rwa[if_neg (by omega)]at h1
 ·intro h i hi;obtain⟨⟨h2,h3⟩,h1⟩:=h i hi;refine⟨?_,h2,h3⟩
  by_cases hz:i=0
  ·rw[if_pos hz];omega
  ·rw[if_neg hz];exact h1 (by omega)
section
variable {n:Nat} {l:List Int} (h:dp n l=true)
include h
theorem Ye{i:Nat}(hi:i<l.length):0<=l.getD i 0/\l.getD i 0<n:=(okL_iff.1 h i hi).1
theorem cC{i j:Nat}(hij:i<j)(hj:j<l.length):l.getD i 0<l.getD j 0:=by
 induction j with
 | zero=>omega
 | succ j ih=>
  have h1:=(okL_iff.1 h (j+1) hj).2 (by omega);rw[show j+1-1=j by omega]at h1
  by_cases he:i=j
  ·rw[he];exact h1
  ·exact Int.lt_trans (ih (by omega) (by omega)) h1
theorem jG{i:Nat}(hi:i<l.length):(i:Int)<=l.getD i 0:=by
 induction i with
 | zero=>exact(Ye h hi).1
 | succ i ih=>
  have:=cC h (show i<i+1 by omega) hi;have:=ih (by omega);omega
theorem BJ:l.length<=n:=by
 by_cases hz:l.length=0
 ·omega
 ·have h1:=jG h (show l.length-1<l.length by omega);have h2:=(Ye h (show l.length-1<l.length by omega)).2;omega
theorem UP{x:Int}(hx:x∈l):0<=x/\x<n:=by
 obtain⟨i,hi,rfl⟩:=K9 hx;have:=Ye h hi;rwa[Aa _ _ _ hi]at this
end
theorem jH{n:Nat}{l:List Int}(h1:∀ x∈l,0<=x/\x<n)(h2:l.Pairwise (·<·)):dp n l=true:=by
 rw[okL_iff];intro i hi;rw[Aa _ _ _ hi];refine⟨h1 _ (Xm hi),λhp=>?_⟩;rw[Aa _ _ _ (show i-1<l.length by omega)];exact(zzL96.1 h2) _ _ _ _ (by omega)
theorem X9{L:List (List Int)}(h:Ln L=true):L.length<=64/\∀ l∈L,l.length<=64:=by
 obtain⟨h1,h2,h3⟩:=mayS_iff.1 h;refine⟨h2,λl hl=>?_⟩;obtain⟨i,hi,rfl⟩:=K9 hl;have:=BJ (h3 i hi);rw[Aa _ _ _ hi]at this;omega
theorem ek{L:List (List Int)}(h:L.length<=1000/\∀ l∈L,l.length<=1000):Fits L:=⟨by omega,λl hl=>by have:=h.2 l hl;omega⟩
theorem OJ(L:List (List Int))(k i:Nat):Jy L (k+1) i=Jy L k i++(if Zd L k i=true then[(k:Int)] else[]):=by
 unfold Jy;rw[Y1,LB,Y0]
 congr 1
 cases hg:Zd L k i<;>simp[hg]
theorem Vp(L:List (List Int))(k i:Nat):(Jy L k i).length<=k:=by
 unfold Jy;rw[Mm];have:=List.length_filter_le (λk=>Zd L k i) (List.range k)
 simpa using this
theorem GQ{l:List Int}{j:Nat}(hj:j<l.length):l.take (j+1)=l.take j++[l.getD j 0]:=by
 rw[Aa _ _ _ hj,TC hj]
def Ov(L:List (List Int))(k j i:Nat):Bool:=((L.getD k []).take j).contains (i:Int)
def Ip(L:List (List Int))(k j:Nat):List (List Int):=(List.range L.length).map λi=>Jy L k i++(if Ov L k j i=true then[(k:Int)] else[])
theorem MK(L:List (List Int))(h:Ln L=true)(k j:Nat)(hk:k<L.length)(hj:j<(L.getD k []).length) :
  (Ip L k j).set ((L.getD k []).getD j 0).toNat ((Ip L k j).getD ((L.getD k []).getD j 0).toNat []++[(k:Int)])=Ip L k (j+1):=by
 obtain⟨h1,h2,h3⟩:=mayS_iff.1 h;have hok:=h3 k hk;obtain⟨a0,a1⟩:=Ye hok hj;unfold Ip;rw[P7 (by omega),KT]
 apply Pe
 intro i hi
 have hnot:Ov L k j ((L.getD k []).getD j 0).toNat=false:=by
  unfold Ov;rw[U5 a0]
  cases hc:((L.getD k []).take j).contains ((L.getD k []).getD j 0) with
  | false=>rfl
  | true=>
   rw[EU]at hc;obtain⟨m,hm,he⟩:=K9 hc
   have hm':m<j:=by simp at hm;omega
   rw[List.getElem_take]at he;have:=cC hok hm' hj;rw[Aa _ _ _ (show m<(L.getD k []).length by omega),he]at this;omega
 by_cases hi2:i=((L.getD k []).getD j 0).toNat
 ·rw[if_pos hi2,hnot]
  have:Ov L k (j+1) i=true:=by
   unfold Ov;rw[GQ hj,EU,hi2,U5 a0]
   simp
  rw[this,hi2]
  simp
 ·rw[if_neg hi2]
  have:Ov L k (j+1) i=Ov L k j i:=by
   unfold Ov;rw[GQ hj,Mn,EU,EU,zzL11]
   constructor
   ·rintro(hm|hm)
    ·exact hm
    ·simp only[zzL14]at hm;exact(hi2 (by omega)).elim
   ·exact .inl
  rw[this]
theorem NH(L:List (List Int))(h:Ln L=true):Ii L=some (Ff L):=by
 obtain⟨h1,h2,h3⟩:=mayS_iff.1 h
 have hroom:(1000:Nat)<=room:=by decide
 unfold Ii;rw[Ad ⟨by omega,Int.le_refl _,by omega⟩,A5]
 have inner:∀ k,k<L.length->Aj (D7 L (k:Int)) ((0:Int),Ip L k 0)=some (Ip L k (L.getD k []).length):=λk hk=>by
  have hok:=h3 k hk;refine Wm (D7 L (k:Int)) (λj=>(((j:Nat):Int),Ip L k j)) (Ip L k (L.getD k []).length) (L.getD k []).length (λj hj=>?_) ?_
  ·obtain⟨a0,a1⟩:=Ye hok hj
   have hlen:(Ip L k j).length=L.length:=by simp[Ip]
   have hl64:=BJ hok
   show D7 L (k:Int) (_,_)=_
   unfold D7;simp only[A5,F1 hj,Ae];have hb:B9 ((L.getD k []).getD j 0) (Ip L k j).length:=⟨a0,by rw[hlen];exact a1⟩
   have hrow:((Ip L k j).getD ((L.getD k []).getD j 0).toNat []).length<=k+1:=by
    unfold Ip;rw[P7 (by omega),E8];have:=Vp L k ((L.getD k []).getD j 0).toNat
    split
    ·rw[Td];omega
    ·rw[List.length_nil];omega
   rw[Ad (H6 hj),Ad hb,Ad hb,Ad (by simp only[Td];omega),Ad hb,MK L h k j hk hj,w1 (by omega)]
  ·show D7 L (k:Int) (_,_)=_
   unfold D7;simp only[A5,Kh,A0]
 have r0:∀ k,Ip L k 0=(List.range L.length).map (Jy L k):=λk=>by
  unfold Ip
  apply Pe
  intro i _;simp[Ov]
 have r1:∀ k,Ip L k (L.getD k []).length=(List.range L.length).map (Jy L (k+1)):=λk=>by
  unfold Ip
  apply Pe
  intro i _;rw[OJ];unfold Ov Zd;rw[Vx]
 have:Aj (D8 L) ((0:Int),(List.range L.length).map (Jy L 0))=some (Ff L):=Wm (D8 L) (λk=>(((k:Nat):Int),(List.range L.length).map (Jy L k))) (Ff L) L.length (λk hk=>?_) ?_
 ·have e0:(List.replicate L.length ([]:List Int))=(List.range L.length).map (Jy L 0):=by
   apply List.ext_getElem?
   intro i
   by_cases hi:i<L.length<;>simp[hi,List.getElem?_replicate,Jy]
  rw[e0,this];rfl
 ·show D8 L (_,_)=_
  unfold D8;simp only[F1 hk,Ae];rw[Ad (H6 hk),<- r0,inner k hk,r1,w1 (by omega)]
  rfl
 ·show D8 L (_,_)=_
  unfold D8;simp only[Kh,A0]
  rfl
theorem Zh{α:Type}[DecidableEq α]{a b:List α}{d:α}(h:a.length=b.length):((List.range a.length).all λi=>decide (a.getD i d=b.getD i d))=decide (a=b):=by
 rw[Mn,all_range,Du]
 constructor
 ·intro hall
  apply Yy h
  intro i h1 h2;have:=Xk (hall i h1);rwa[Aa _ _ _ h1,Aa _ _ _ h2]at this
 ·rintro rfl i _
  simp
theorem UL{a b:Nat}:(((a:Nat):Int)!=(b:Int))=decide (a≠b):=by
 rw[Mn,zzL90,Du];omega
theorem be{a b:Int}:(a !=b) = !decide (a=b):=by
 rw[Mn]
 simp
theorem JZ(a b:List Int)(hb:b.length<4611686018427387904):Ea a b=some (decide (a=b)):=by
 unfold Ea;rw[UL]
 by_cases hl:a.length=b.length
 ·rw[Fh (by simpa using hl),A0];have:Aj (Bf a b) (0:Int)=_:=M3 (Bf a b) (λj=>((j:Nat):Int)) (λi=>decide (a.getD i 0=b.getD i 0)) (.inl ()) (.inr false) a.length (λj hj hp=>?_) (λj hj hp=>?_) ?_
  ·rw[this,Zh hl]
   cases decide (a=b)<;>rfl
  ·show Bf a b (j:Int)=_
   unfold Bf;simp only[A5,F1 hj,Ae];rw[Ad (H6 hj),Ad (H6 (by omega)),be,hp,w1 (by omega)]
   rfl
  ·show Bf a b (j:Int)=_
   unfold Bf;simp only[A5,F1 hj,Ae];rw[Ad (H6 hj),Ad (H6 (by omega)),be,hp]
   rfl
  ·show Bf a b _=_
   unfold Bf;simp only[Kh,A0]
 ·rw[Ey (by simpa using hl),Ae,Fh (λh=>hl (by rw[h]))]
theorem NI(a b:List (List Int))(hb:Fits b):Cm a b=some (decide (a=b)):=by
 unfold Cm;rw[UL]
 by_cases hl:a.length=b.length
 ·rw[Fh (by simpa using hl),A0];have hb1:=hb.1;have:Aj (As a b) (0:Int)=_:=M3 (As a b) (λj=>((j:Nat):Int)) (λi=>decide (a.getD i []=b.getD i [])) (.inl ()) (.inr false) a.length (λj hj hp=>?_) (λj hj hp=>?_) ?_
  ·rw[this,Zh hl]
   cases decide (a=b)<;>rfl
  ·show As a b (j:Int)=_
   unfold As;simp only[A5,F1 hj,Ae];rw[Ad (H6 hj),Ad (H6 (by omega)),JZ _ _ (hb.at j),hp,w1 (by omega)]
   rfl
  ·show As a b (j:Int)=_
   unfold As;simp only[A5,F1 hj,Ae];rw[Ad (H6 hj),Ad (H6 (by omega)),JZ _ _ (hb.at j),hp]
   rfl
  ·show As a b _=_
   unfold As;simp only[Kh,A0]
 ·rw[Ey (by simpa using hl),Ae,Fh (λh=>hl (by rw[h]))]
theorem Nj(L:List (List Int)):(Ff L).length=L.length:=by simp[Ff]
theorem HM{L:List (List Int)}{i:Nat}(hi:i<L.length):(Ff L).getD i []=Jy L L.length i:=by unfold Ff;rw[P7 hi]
theorem Qo{L:List (List Int)}(h:Ln L=true):(Ff L).length<=64/\∀ l∈Ff L,l.length<=64:=by
 obtain⟨h1,_⟩:=X9 h;refine⟨by rw[Nj];exact h1,λl hl=>?_⟩;obtain⟨i,hi,rfl⟩:=zzL24.1 hl;have:=Vp L L.length i;omega
theorem Vt{L:List (List Int)}(h:L.length<=64/\∀ l∈L,l.length<=64):Fits L:=ek ⟨by omega,λl hl=>by have:=h.2 l hl;omega⟩
def X8(g:Cy):Bool:=Ln g.Succ&&decide (g.Pred=Ff g.Succ)
theorem g8(g:Cy)(h:Fits g.Succ):Od g=some (X8 g):=by
 unfold Od X8;rw[XH _ h,Ay]
 cases hm:Ln g.Succ with
 | false=>rfl
 | true=>
  simp only[Pq,Ae,NH _ hm,Ay,NI _ _ (Vt (Qo hm)),Gz]
def Xu(L:List (List Int)):Cy:=⟨L,Ff L⟩
def g0:Cy:=⟨[],[]⟩
theorem NK{L:List (List Int)}(h:Ln L=true):X8 (Xu L)=true:=by simp[X8,Xu,h]
theorem bX{L:List (List Int)}(h:Ln L=true):Fits (Xu L).Succ/\Fits (Xu L).Pred:=⟨Vt (X9 h),Vt (Qo h)⟩
noncomputable section
def upd(s:Nat->Bool)(y:Nat):Nat->Bool:=λz=>decide (z=y) || s z
theorem upd_true{s:Nat->Bool}{y z:Nat}:upd s y z=true↔z=y\/s z=true:=by simp[upd]
theorem upd_false{s:Nat->Bool}{y z:Nat}:upd s y z=false↔z≠y/\s z=false:=by simp[upd]
inductive VL (S:Nat->List Nat):(Nat->Bool)->List Nat->(Nat->Bool)->List Nat->Prop
 | nil (s:Nat->Bool):VL S s [] s []
 | skip {s s':Nat->Bool} {y:Nat} {l o:List Nat} (h:s y=true) (t:VL S s l s' o):VL S s (y::l) s' o
 | step {s s1 s2:Nat->Bool} {y:Nat} {l o1 o2:List Nat} (h:s y=false) (a:VL S (upd s y) (S y) s1 o1) (b:VL S s1 l s2 o2):VL S s (y::l) s2 (o1++y::o2)
inductive Rch (S:Nat->List Nat):Nat->Nat->Prop
 | refl (x:Nat):Rch S x x
 | head {x y z:Nat} (h:y∈S x) (t:Rch S y z):Rch S x z
theorem Rch.tail{S:Nat->List Nat}{x y z:Nat}(h:Rch S x y)(hz:z∈S y):Rch S x z:=by
 induction h with
 | refl x=>exact .head hz (.refl _)
 | head h _ ih=>exact .head h (ih hz)
theorem Rch.trans{S:Nat->List Nat}{x y z:Nat}(h:Rch S x y)(k:Rch S y z):Rch S x z:=by
 induction h with
 | refl x=>exact k
 | head h _ ih=>exact .head h (ih k)
variable {S:Nat->List Nat} {s s':Nat->Bool} {l o:List Nat}
theorem VL.seen(h:VL S s l s' o)(z:Nat):s' z=true↔s z=true\/z∈o:=by
 induction h with
 | nil s=>simp
 | skip h _ ih=>exact ih
 | @step s s1 s2 y l o1 o2 h a b iha ihb=>
  rw[ihb,iha,upd_true];simp only[zzL11,zzL22]
  constructor
  ·rintro((( rfl|h1)|h1)|h1)
   ·exact .inr (.inr (.inl rfl))
   ·exact .inl h1
   ·exact .inr (.inl h1)
   ·exact .inr (.inr (.inr h1))
  ·rintro(h1|h1|rfl|h1)
   ·exact .inl (.inl (.inr h1))
   ·exact .inl (.inr h1)
   ·exact .inl (.inl (.inl rfl))
   ·exact .inr h1
theorem VL.fresh(h:VL S s l s' o){z:Nat}(hz:z∈o):s z=false:=by
 induction h with
 | nil s=>cases hz
 | skip h _ ih=>exact ih hz
 | @step s s1 s2 y l o1 o2 h a b iha ihb=>
  rcases zzL11.1 hz with h1|h1
  ·exact(upd_false.1 (iha h1)).2
  ·rcases zzL22.1 h1 with rfl|h1
   ·exact h
   ·have:=ihb h1
    cases hs:s z with
    | false=>rfl
    | true=>rw[(a.seen z).2 (.inl (upd_true.2 (.inr hs)))]at this;cases this
theorem VL.nodup(h:VL S s l s' o):o.Nodup:=by
 induction h with
 | nil s=>exact List.nodup_nil
 | skip h _ ih=>exact ih
 | @step s s1 s2 y l o1 o2 h a b iha ihb=>
  rw[List.nodup_append];refine⟨iha,zzL74.2 ⟨λhy=>?_,ihb⟩,λu hu v hv=>?_⟩
  ·have:=b.fresh hy;rw[(a.seen y).2 (.inl (upd_true.2 (.inl rfl)))]at this
   cases this
  ·rintro rfl;rcases zzL22.1 hv with rfl|hv
   ·have:=a.fresh hu;rw[upd_true.2 (.inl rfl)]at this
    cases this
   ·have:=b.fresh hv;rw[(a.seen u).2 (.inr hu)]at this
    cases this
theorem VL.rch(h:VL S s l s' o){z:Nat}(hz:z∈o):∃ y∈l,Rch S y z:=by
 induction h with
 | nil s=>cases hz
 | skip h _ ih=>obtain⟨y,hy,hr⟩:=ih hz;exact⟨y,E7 _ hy,hr⟩
 | @step s s1 s2 y l o1 o2 h a b iha ihb=>
  rcases zzL11.1 hz with h1|h1
  ·obtain⟨u,hu,hr⟩:=iha h1;exact⟨y,Jd ..,.head hu hr⟩
  ·rcases zzL22.1 h1 with rfl|h1
   ·exact⟨z,Jd ..,.refl z⟩
   ·obtain⟨u,hu,hr⟩:=ihb h1;exact⟨u,E7 _ hu,hr⟩
theorem VL.closed(h:VL S s l s' o):(∀ y∈l,s' y=true)/\∀ z∈o,∀ y∈S z,s' y=true:=by
 induction h with
 | nil s=>exact⟨(λ_ h=>by cases h),(λ_ h=>by cases h)⟩
 | @skip s s' y l o h t ih=>
  refine⟨λu hu=>?_,ih.2⟩;rcases zzL22.1 hu with rfl|hu
  ·exact(t.seen u).2 (.inl h)
  ·exact ih.1 u hu
 | @step s s1 s2 y l o1 o2 h a b iha ihb=>
  refine⟨λu hu=>?_,λz hz u hu=>?_⟩
  ·rcases zzL22.1 hu with rfl|hu
   ·exact(b.seen u).2 (.inl ((a.seen u).2 (.inl (upd_true.2 (.inl rfl)))))
   ·exact ihb.1 u hu
  ·rcases zzL11.1 hz with h1|h1
   ·exact(b.seen u).2 (.inl (iha.2 z h1 u hu))
   ·rcases zzL22.1 h1 with rfl|h1
    ·exact(b.seen u).2 (.inl (iha.1 u hu))
    ·exact ihb.2 z h1 u hu
theorem VL.above(h:VL S s l s' o)(hf:∀ z,∀ y∈S z,z<y){b:Nat}(hb:∀ y∈l,b<y):∀ z∈o,b<z:=by
 induction h generalizing b with
 | nil s=>intro z hz;cases hz
 | skip h _ ih=>exact ih (λy hy=>hb y (E7 _ hy))
 | @step s s1 s2 y l o1 o2 h a c iha ihb=>
  intro z hz;have hy:=hb y (Jd ..);rcases zzL11.1 hz with h1|h1
  ·exact iha (λu hu=>Nat.lt_trans hy (hf y u hu)) z h1
  ·rcases zzL22.1 h1 with rfl|h1
   ·exact hy
   ·exact ihb (λu hu=>hb u (E7 _ hu)) z h1
theorem VL.ahead(h:VL S s l s' o)(hf:∀ z,∀ y∈S z,z<y):∀ z∈o,∀ y∈S z,s y=true\/∃ A B,o=A++z::B/\y∈A:=by
 induction h with
 | nil s=>intro z hz;cases hz
 | skip h _ ih=>exact ih
 | @step s s1 s2 y l o1 o2 h a c iha ihb=>
  intro z hz u hu;rcases zzL11.1 hz with h1|h1
  ·have hzy:y<z:=a.above hf (λv hv=>hf y v hv) z h1;have hzu:=hf z u hu;rcases iha z h1 u hu with h2|⟨A,B,rfl,hA⟩
   ·rcases upd_true.1 h2 with rfl|h2
    ·omega
    ·exact .inl h2
   ·exact .inr ⟨A,B++y::o2,by simp,hA⟩
  ·rcases zzL22.1 h1 with rfl|h1z
   ·have hzu:=hf z u hu;rcases(a.seen u).1 (a.closed.1 u hu) with h2|h2
    ·rcases upd_true.1 h2 with rfl|h2
     ·omega
     ·exact .inl h2
    ·exact .inr ⟨o1,o2,rfl,h2⟩
   ·rcases ihb z h1z u hu with h2|⟨A,B,rfl,hA⟩
    ·rcases(a.seen u).1 h2 with h3|h3
     ·rcases upd_true.1 h3 with rfl|h3
      ·obtain⟨P,Q,rfl⟩:=List.append_of_mem h1z;exact .inr ⟨o1++u::P,Q,by simp,by simp⟩
      ·exact .inl h3
     ·obtain⟨P,Q,rfl⟩:=List.append_of_mem h1z;exact .inr ⟨o1++y::P,Q,by simp,by simp[h3]⟩
    ·exact .inr ⟨o1++y::A,B,by simp,by simp[hA]⟩
def LK(n:Nat)(s:Nat->Bool):Nat:=((List.range n).filter λz=>!s z).length
theorem Tm{n:Nat}{s:Nat->Bool}{y:Nat}(hy:y<n)(h:s y=false):LK n (upd s y)+1=LK n s:=by
 unfold LK
 induction n with
 | zero=>omega
 | succ n ih=>
  rw[Y1,LB,LB,E8,E8]
  by_cases hyn:y=n
  ·subst hyn
   have e:(List.range y).filter (λz=>!upd s y z)=(List.range y).filter (λz=>!s z):=by
    apply List.filter_congr
    intro z hz;have:=zzL38.1 hz;simp[upd,show z≠y by omega]
   rw[e];simp[upd,h]
  ·have:=ih (by omega)
   have e:([n].filter λz=>!upd s y z).length=([n].filter λz=>!s z).length:=by
    simp only[List.filter_cons,List.filter_nil,upd];simp[Hd hyn]
   omega
theorem MJ{n:Nat}{s s':Nat->Bool}(h:∀ z,s z=true->s' z=true):LK n s'<=LK n s:=by
 unfold LK
 apply List.Sublist.length_le
 have:(List.range n).filter (λz=>!s' z)=((List.range n).filter λz=>!s z).filter λz=>!s' z:=by
  rw[List.filter_filter]
  apply List.filter_congr
  intro z _
  cases hs:s z with
  | false=>simp
  | true=>simp[h z hs]
 rw[this];exact List.filter_sublist
theorem VL.exist{n:Nat}(hS:∀ z,z<n->∀ y∈S z,y<n):∀(m:Nat) (s:Nat->Bool),LK n s<=m->∀ l:List Nat,(∀ y∈l,y<n)->∃ s' o,VL S s l s' o:=by
 intro m
 induction m with
 | zero=>
  intro s hm l
  induction l with
  | nil=>intro _;exact⟨s,[],.nil s⟩
  | cons y l ih=>
   intro hl;obtain⟨s',o,h⟩:=ih (λz hz=>hl z (E7 _ hz))
   cases hy:s y with
   | true=>exact⟨s',o,.skip hy h⟩
   | false=>have:=Tm (hl y (Jd ..)) hy;omega
 | succ m ih=>
  intro s hm l
  induction l generalizing s with
  | nil=>intro _;exact⟨s,[],.nil s⟩
  | cons y l ihl=>
   intro hl
   cases hy:s y with
   | true=>
    obtain⟨s',o,h⟩:=ihl s hm (λz hz=>hl z (E7 _ hz));exact⟨s',o,.skip hy h⟩
   | false=>
    have hyn:=hl y (Jd ..);have:=Tm hyn hy;obtain⟨s1,o1,h1⟩:=ih (upd s y) (by omega) (S y) (hS y hyn);have h2:LK n s1<=LK n s:=MJ λz hz=>(h1.seen z).2 (.inl (upd_true.2 (.inr hz)));obtain⟨s2,o2,h3⟩:=ihl s1 (by omega) (λz hz=>hl z (E7 _ hz));exact⟨s2,_,.step hy h1 h3⟩
def one(r:Nat):Nat->Bool:=λz=>decide (z=r)
def Ord(S:Nat->List Nat)(r:Nat)(L:List Nat):Prop:=∃ s' o,VL S (one r) (S r) s' o/\L=r::o.reverse
theorem Ord.exist{n:Nat}(hS:∀ z,z<n->∀ y∈S z,y<n){r:Nat}(hr:r<n):∃ L,Ord S r L:=by
 obtain⟨s',o,h⟩:=VL.exist hS _ (one r) (zzL8 _) (S r) (hS r hr);exact⟨_,s',o,h,rfl⟩
theorem Ord.mem{r:Nat}{L:List Nat}(h:Ord S r L)(z:Nat):z∈L↔Rch S r z:=by
 obtain⟨s',o,h,rfl⟩:=h
 have hs:∀ z,s' z=true↔z=r\/z∈o:=λz=>by rw[h.seen];simp[one]
 have hc:∀ x,s' x=true->∀ y∈S x,s' y=true:=λx hx y hy=>by
  rcases(hs x).1 hx with rfl|hx
  ·exact h.closed.1 y hy
  ·exact h.closed.2 x hx y hy
 simp only[zzL22,zzL93];rw[<- hs z]
 constructor
 ·intro hz;rcases(hs z).1 hz with rfl|hz
  ·exact .refl _
  ·obtain⟨y,hy,hr⟩:=h.rch hz;exact .head hy hr
 ·intro hr
  have key:∀ x z,Rch S x z->s' x=true->s' z=true:=by
   intro x z hxz
   induction hxz with
   | refl x=>exact id
   | head hy _ ih=>exact λhx=>ih (hc _ hx _ hy)
  exact key r z hr ((hs r).2 (.inl rfl))
theorem Ord.nodup{r:Nat}{L:List Nat}(h:Ord S r L):L.Nodup:=by
 obtain⟨s',o,h,rfl⟩:=h;refine zzL74.2 ⟨λhr=>?_,(List.reverse_perm o).nodup_iff.2 h.nodup⟩;have:=h.fresh (zzL93.1 hr);simp[one]at this
theorem Ord.fwd{r:Nat}{L:List Nat}(h:Ord S r L)(hf:∀ z,∀ y∈S z,z<y):∀ z∈L,∀ y∈S z,∃ A B,L=A++z::B/\y∈B:=by
 obtain⟨s',o,h,rfl⟩:=h;intro z hz y hy;have hzy:=hf z y hy;rcases zzL22.1 hz with rfl|hz
 ·refine⟨[],o.reverse,rfl,?_⟩;rcases(h.seen y).1 (h.closed.1 y hy) with h1|h1
  ·simp[one]at h1;omega
  ·exact zzL93.2 h1
 ·have hz:=zzL93.1 hz;have hrz:r<z:=h.above hf (λv hv=>hf r v hv) z hz;rcases h.ahead hf z hz y hy with h1|⟨A,B,rfl,hA⟩
  ·simp[one]at h1;omega
  ·exact⟨r::B.reverse,A.reverse,by simp,zzL93.2 hA⟩
end
theorem XG(l:List Int)(hl:l.length<4611686018427387904):Ds l=some l.reverse:=by
 unfold Ds
 by_cases h0:l.length=0
 ·obtain rfl:l=[]:=zzL103.1 h0
  have:Aj A9 ((0:Int),(Bh ((([]:List Int).length:Int)-1)),([]:List Int))=some []:=by
   apply Ah
   unfold A9;rw[Hp (by simp) (by simp)]
   rfl
  rw[this];rfl
 ·have hw:Bh ((l.length:Int)-1)=((l.length-1:Nat):Int):=by rw[Hp (by omega) (by omega)];omega
  rw[hw]
  let C:Nat->List Int:=λk=>(List.range l.length).map λi=>if i<k\/l.length-1-k<i then l.getD (l.length-1-i) 0 else l.getD i 0
  have hC:∀ k i,i<l.length->(C k).getD i 0=if i<k\/l.length-1-k<i then l.getD (l.length-1-i) 0 else l.getD i 0:=λk i hi=>by simp only[C];rw[P7 hi]
  have hlen:∀ k,(C k).length=l.length:=λk=>by simp[C]
  have:=Wm A9 (λk=>(((k:Nat):Int),((l.length-1-k:Nat):Int),C k)) l.reverse (l.length / 2) (λk hk=>?_) ?_
  ·have e0:C 0=l:=by
    apply Yy (by simp[C])
    intro i h1 h2;have:=hC 0 i h2;rw[Aa _ _ _ h1,Aa _ _ _ h2]at this;rw[this,if_neg (by omega)]
   have this':Aj A9 ((0:Int),((l.length-1:Nat):Int),l)=some l.reverse:=by
    have h2:=this;simp only[e0]at h2;exact h2
   rw[this'];rfl
  ·show A9 (_,_,_)=_
   unfold A9
   have hlt:k<l.length-1-k:=by omega
   simp only[F1 hlt,Ae,A5];rw[Ad (H6 (by rw[hlen];omega)),Ad (H6 (by rw[hlen];omega)),Ad (H6 (by rw[hlen];omega)),Ad (H6 (by rw[hlen];omega))];rw[w1 (by omega),show Bh (((l.length-1-k:Nat):Int)-1)=((l.length-1-(k+1):Nat):Int) by rw[Hp (by omega) (by omega)];omega]
   congr 4
   rw[hC k _ (by omega),hC k _ (by omega),if_neg (by omega),if_neg (by omega)];simp only[C];rw[KT,KT]
   apply Pe
   intro i hi
   by_cases h1:i=k
   ·subst h1;rw[if_neg (by omega),if_pos rfl,if_pos (by omega)]
   ·by_cases h2:i=l.length-1-k
    ·subst h2;rw[if_pos rfl,if_pos (by omega)]
     congr 1;omega
    ·rw[if_neg h2,if_neg h1]
     by_cases h3:i<k\/l.length-1-k<i
     ·rw[if_pos h3,if_pos (by omega)]
     ·rw[if_neg h3,if_neg (by omega)]
  ·show A9 (_,_,_)=_
   unfold A9;have hd:decide (((l.length / 2:Nat):Int)<((l.length-1-l.length / 2:Nat):Int))=false:=Fh (by omega);simp only[hd,A0]
   congr 2
   apply Yy (by simp[C])
   intro i h1 h2
   have h3:i<l.length:=by simpa [C] using h1
   have:=hC (l.length / 2) i h3;rw[Aa _ _ _ h1]at this;rw[this,List.getElem_reverse]
   split
   ·rw[Aa _ _ _ (by omega)]
   ·rw[Aa _ _ _ h3]
    congr 1;omega
theorem top{st:List Int}{a:Int}(h:st.length<4611686018427387904):(st++[a]).getD (Bh (((st++[a]).length:Int)-1)).toNat 0=a:=by
 have:Bh (((st++[a]).length:Int)-1)=((st.length:Nat):Int):=by rw[E8,Td,Hp (by omega) (by omega)];omega
 rw[this,A5];simp[List.getD]
theorem kr{st:List Int}{a:Int}(h:st.length<4611686018427387904):Bh (((st++[a]).length:Int)-1)=((st.length:Nat):Int):=by
 rw[E8,Td,Hp (by omega) (by omega)];omega
theorem du{g:Cy}{R:List Bool}{st T:List Int}{a:Nat}(hst:st.length<64)(ha:a<g.Succ.length)(h64:g.Succ.length<=64)(ht:T.getD a 0=((g.Succ.getD a []).length:Int)) :
  Fz g R (st++[(a:Int)]) T=some (.done (.inl T)):=by
 unfold Fz;simp only[top (st:=st) (a:=(a:Int)) (by omega),A5];rw[Ad (H6 (by omega)),Ad (H6 ha),ht,Kh,A0]
theorem TN{g:Cy}{R:List Bool}{st T:List Int}{a t y:Nat}(hst:st.length<64)(ha:a<g.Succ.length)(h64:g.Succ.length<=64)(ht:T.getD a 0=(t:Int))(htl:t<(g.Succ.getD a []).length)(htm:t<64)
  (hy:(g.Succ.getD a []).getD t 0=(y:Int)) (hyn:y<g.Succ.length) :
  Fz g R (st++[(a:Int)]) T=bif R.getD y false then some (.next (Jz 64 (0:Int) T a ((t+1:Nat):Int))) else some (.done (.inr (Jz 64 false R y true,Jz 64 (0:Int) T a ((t+1:Nat):Int),(st++[(a:Int)])++[(y:Int)]))):=by
 have hroom:(1000:Nat)<=room:=by decide
 unfold Fz;simp only[top (st:=st) (a:=(a:Int)) (by omega),A5,ht,hy];rw[Ad (H6 (by omega)),Ad (H6 ha),F1 htl,Ae,Ad (H6 ha),Ad (H6 (by omega)),Ad (H6 htl),Ad (H6 (by omega)),Ad (H6 (by omega)),Ad (H6 (by omega)),w1 (by omega)]
 cases R.getD y false with
 | true=>rfl
 | false=>
  simp only[L7,Ae,A0];rw[Ad (H6 (by omega)),Ad (by rw[E8,Td,Td];omega)]
theorem TM{g:Cy}{R:List Bool}{st T Lf:List Int}{a:Nat}(hst:st.length<64)(hLf:Lf.length<64) :
  Ct g (R,T,st++[(a:Int)],Lf)=(Aj (Fz g R (st++[(a:Int)])) T).bind λx=>match x with
   | .inl T'=>if st=[] then some (.done (Lf++[(a:Int)]).reverse) else some (.next (R,T',st,Lf++[(a:Int)]))
   | .inr (R',T',st')=>some (.next (R',T',st',Lf)):=by
 have hroom:(1000:Nat)<=room:=by decide
 unfold Ct;simp only
 have hb:B9 (Bh (((st++[(a:Int)]).length:Int)-1)) (st++[(a:Int)]).length:=by rw[kr (by omega)];exact H6 (by simp)
 rw[Ad hb]
 congr 1
 funext x
 cases x with
 | inr y=>obtain⟨R',T',st'⟩:=y;rfl
 | inl T'=>
  simp only[top (st:=st) (a:=(a:Int)) (by omega)];rw[kr (by omega),A5,Ad (by rw[Td];omega),Ad ⟨by omega,by simp⟩];have e:(st++[(a:Int)]).take st.length=st:=List.take_left' rfl;rw[e]
  cases st with
  | nil=>
   rw[if_pos rfl]
   have:decide ((0:Int)<(([]:List Int).length:Int))=false:=by decide
   rw[this,A0,XG _ (by simp;omega)];simp only[Ay];rw[Ad (by simp)]
  | cons b st'=>
   rw[if_neg (by simp)];have:decide ((0:Int)<((b::st').length:Int))=true:=Ey (by simp<;>omega);rw[this,Ae]
theorem RT{S X:Type}{f:S->Option (LR S X)}{a b:S}(h:f a=f b):Aj f a=Aj f b:=by
 cases hb:f b with
 | none=>rw[Vn (h.trans hb),Vn hb]
 | some r=>cases r with
  | done x=>rw[Ah (h.trans hb),Ah hb]
  | next s=>rw[Ao (h.trans hb),Ao hb]
theorem Zt{S X:Type}{f:S->Option (LR S X)}{s:S}:O6 (f s) f=Aj f s:=by
 unfold O6
 cases hb:f s with
 | none=>rw[Vn hb];rfl
 | some r=>cases r with
  | done x=>rw[Ah hb];rfl
  | next s'=>rw[Ao hb];rfl
def sN(L:List (List Int))(k:Nat):List Nat:=(L.getD k []).map Int.toNat
def RelS(R:List Bool)(s:Nat->Bool):Prop:=∀ z,z<64->R.getD z false=s z
theorem Mz{α:Type}{d:α}{l:List α}{i:Nat}{x:α}{k:Nat}(hk:k<64):(Jz 64 d l i x).getD k d=if k=i then x else l.getD k d:=by
 rw[HW hk]
 by_cases h:k=i
 ·subst h;simp
 ·have:Nat.beq k i=false:=by cases hb:Nat.beq k i with|false=>rfl|true=>exact absurd (Bu hb) h
  rw[this,if_neg h];rfl
theorem RelS.set{R:List Bool}{s:Nat->Bool}(h:RelS R s){y:Nat}:RelS (Jz 64 false R y true) (upd s y):=λz hz=>by
 rw[Mz hz,h z hz]
 by_cases hzy:z=y
 ·simp[upd,hzy]
 ·simp[upd,hzy]
def Oy(o:List Nat):List Int:=o.map Int.ofNat
theorem SC{g:Cy}(hm:Ln g.Succ=true){s s':Nat->Bool}{l o:List Nat}(hv:VL (sN g.Succ) s l s' o) :
  ∀(R:List Bool) (T st Lf:List Int) (a t:Nat),RelS R s->a<g.Succ.length->l=(sN g.Succ a).drop t->T.getD a 0=(t:Int)->t<=(sN g.Succ a).length->s a=true->(∀ z,z<64->s z=false->T.getD z 0=0)->
   Lf.length+LK 64 s+st.length+1<=64->
   ∃(R':List Bool) (T':List Int),RelS R' s'/\(∀ z,z<64->s' z=false->T'.getD z 0=0)/\(∀ z,z<64->s z=true->z≠a->T'.getD z 0=T.getD z 0)/\Lf.length+o.length+LK 64 s'+st.length+1<=64 /\
    Aj (Ct g) (R,T,st++[(a:Int)],Lf)=if st=[] then some (Lf++Oy o++[(a:Int)]).reverse else Aj (Ct g) (R',T',st,Lf++Oy o++[(a:Int)]):=by
 obtain⟨hL1,hL64,hLok⟩:=mayS_iff.1 hm
 have hlenS:∀ a,(sN g.Succ a).length=(g.Succ.getD a []).length:=λa=>by simp[sN]
 have hdrop:∀(a t y:Nat) (l':List Nat),a<g.Succ.length->y::l'=(sN g.Succ a).drop t->t<(g.Succ.getD a []).length/\(g.Succ.getD a []).getD t 0=(y:Int)/\y<g.Succ.length/\l'=(sN g.Succ a).drop (t+1):=λa t y l' ha he=>by
  have ht:t<(sN g.Succ a).length:=by
   rcases zzL136 t (sN g.Succ a).length with h|h
   ·exact h
   ·rw[List.drop_eq_nil_of_le h]at he;cases he
  rw[Ml ht]at he;simp only[Ce]at he;obtain⟨h1,h2⟩:=he
  have ht':t<(g.Succ.getD a []).length:=by rw[<- hlenS];exact ht
  obtain⟨b0,b1⟩:=Ye (hLok a ha) ht'
  have h3:(sN g.Succ a)[t]=((g.Succ.getD a []).getD t 0).toNat:=by rw[Aa _ _ _ ht'];simp[sN]
  exact⟨ht',by omega,by omega,h2⟩
 induction hv with
 | nil s=>
  intro R T st Lf a t hR ha hl hT htl hsa hz hc
  have ht:t=(g.Succ.getD a []).length:=by
   have:=B8 List.length hl;simp at this;rw[hlenS]at htl this;omega
  refine⟨R,T,hR,hz,λ_ _ _ _=>rfl,by simpa using hc,?_⟩
  have hF:Ct g (R,T,st++[(a:Int)],Lf)=if st=[] then some (.done (Lf++[(a:Int)]).reverse) else some (.next (R,T,st,Lf++[(a:Int)])):=by
   rw[TM (by omega) (by omega),Ah (du (by omega) ha hL64 (by rw[hT,ht]))]
   rfl
  by_cases hst:st=[]
  ·rw[if_pos hst]at hF ⊢;rw[Ah hF];simp[Oy]
  ·rw[if_neg hst]at hF ⊢;rw[Ao hF];simp[Oy]
 | @skip s s' y l o h tl ih=>
  intro R T st Lf a t hR ha hl hT htl hsa hz hc;obtain⟨h1,h2,h3,h4⟩:=hdrop a t y l ha hl;have hb:=BJ (hLok a ha);have hs:=TN (g:=g) (R:=R) (st:=st) (T:=T) (a:=a) (t:=t) (y:=y) (by omega) ha hL64 hT h1 (by omega) h2 h3;rw[hR y (by omega),h,Ae]at hs;obtain⟨R',T',a1,a2,a3,a4,a5⟩:=ih R (Jz 64 (0:Int) T a ((t+1:Nat):Int)) st Lf a (t+1) hR ha h4 (by rw[Mz (by omega),if_pos rfl]) (by rw[hlenS];omega) hsa
   (λz hz1 hz2=>by rw[Mz hz1,if_neg (by rintro rfl;rw[hsa]at hz2;cases hz2)];exact hz z hz1 hz2) hc
  refine⟨R',T',a1,a2,λz hz1 hz2 hz3=>by rw[a3 z hz1 hz2 hz3,Mz hz1,if_neg hz3],a4,?_⟩;rw[<- a5]
  apply RT
  rw[TM (by omega) (by omega),TM (by omega) (by omega),Ao hs]
 | @step s s1 s2 y l o1 o2 h tl tr ih1 ih2=>
  intro R T st Lf a t hR ha hl hT htl hsa hz hc;obtain⟨h1,h2,h3,h4⟩:=hdrop a t y l ha hl;have hb:=BJ (hLok a ha)
  have hay:y≠a:=by rintro rfl;rw[hsa]at h;cases h
  have hs:=TN (g:=g) (R:=R) (st:=st) (T:=T) (a:=a) (t:=t) (y:=y) (by omega) ha hL64 hT h1 (by omega) h2 h3;rw[hR y (by omega),h,A0]at hs;have hcu:=Tm (n:=64) (show y<64 by omega) h
  have hF:Ct g (R,T,st++[(a:Int)],Lf)=some (.next (Jz 64 false R y true,Jz 64 (0:Int) T a ((t+1:Nat):Int),(st++[(a:Int)])++[(y:Int)],Lf)):=by
   rw[TM (by omega) (by omega),Ah hs]
   rfl
  obtain⟨R1,T1,b1,b2,b3,b4,b5⟩:=ih1 (Jz 64 false R y true) (Jz 64 (0:Int) T a ((t+1:Nat):Int)) (st++[(a:Int)]) Lf y 0 hR.set h3 (by simp)
   (by rw[Mz (by omega),if_neg hay];exact hz y (by omega) h) (Lb _) (upd_true.2 (.inl rfl))
   (λz hz1 hz2=>by
    obtain⟨c1,c2⟩:=upd_false.1 hz2;rw[Mz hz1,if_neg (by rintro rfl;rw[hsa]at c2;cases c2)]
    exact hz z hz1 c2) (by rw[E8,Td];omega)
  rw[if_neg (by simp)]at b5
  have hTa:T1.getD a 0=((t+1:Nat):Int):=by rw[b3 a (by omega) (upd_true.2 (.inr hsa)) (Hd hay),Mz (by omega),if_pos rfl]
  rw[E8,Td]at b4;obtain⟨R2,T2,c1,c2,c3,c4,c5⟩:=ih2 R1 T1 st (Lf++Oy o1++[(y:Int)]) a (t+1) b1 ha h4 hTa (by rw[hlenS];omega) ((tl.seen a).2 (.inl (upd_true.2 (.inr hsa)))) b2
   (by simp only[E8,Td,Oy,Mm];omega)
  refine⟨R2,T2,c1,c2,λz hz1 hz2 hz3=>?_,?_,?_⟩
  ·rw[c3 z hz1 ((tl.seen z).2 (.inl (upd_true.2 (.inr hz2)))) hz3,b3 z hz1 (upd_true.2 (.inr hz2)) (by rintro rfl;rw[h]at hz2;cases hz2),Mz hz1,if_neg hz3]
  ·simp only[E8,Td,Oy,Mm,Oo]at c4 ⊢;omega
  ·rw[Ao hF,b5,c5]
   have e:Lf++Oy o1++[(y:Int)]++Oy o2++[(a:Int)]=Lf++Oy (o1++y::o2)++[(a:Int)]:=by simp[Oy]
   rw[e]
theorem Uz{L:List (List Int)}(h:Ln L=true):∀ z,z<L.length->∀ y∈sN L z,y<L.length:=λz hz y hy=>by
 obtain⟨_,_,h3⟩:=mayS_iff.1 h;obtain⟨x,hx,rfl⟩:=zzL24.1 hy;have:=UP (h3 z hz) hx;omega
theorem eg{r:Nat}(hr:r<64):LK 64 (one r)=63:=by
 have h:=Tm (n:=64) (s:=λ_=>false) hr rfl
 have e:upd (λ_=>false) r=one r:=by funext z;simp[upd,one]
 rw[e]at h
 have:LK 64 (λ_=>false)=64:=by decide
 omega
theorem Nk{α:Type}{n z:Nat}{d:α}:(List.replicate n d).getD z d=d:=by rw[Pp,List.getElem?_replicate];split<;>rfl
theorem KA(g:Cy)(h:Fits g.Succ)(hP:True)(r:Int) :
  (X8 g=true->0<=r->r<(g.Succ.length:Int)->∀ L,Ord (sN g.Succ) r.toNat L->Gv g r=some (Oy L)) /\
  ((X8 g&&(decide (0<=r)&&decide (r<(g.Succ.length:Int))))=false->Gv g r=some []):=by
 refine⟨λhm h0 h1 L hL=>?_,λhf=>?_⟩
 ·have hms:Ln g.Succ=true:=by unfold X8 at hm;exact(A4 _ _▸hm).1
  obtain⟨hL1,hL64,hLok⟩:=mayS_iff.1 hms;obtain⟨s',o,hv,rfl⟩:=hL;have hrn:((r.toNat:Nat):Int)=r:=U5 h0
  have hr:r.toNat<g.Succ.length:=by omega
  obtain⟨R',T',_,_,_,_,hmain⟩:=SC hms hv (Jz 64 false (List.replicate 64 false) r.toNat true) (List.replicate 64 (0:Int)) [] [] r.toNat 0
   (λz hz=>by rw[Mz hz,Nk];by_cases hzr:z=r.toNat<;>simp[one,hzr]) hr (by simp) Nk (Lb _) (by simp[one])
   (λz hz _=>Nk) (by rw[eg (by omega)];simp)
  rw[if_pos rfl,hrn]at hmain;unfold Gv;rw[g8 _ h,hm,Ay];simp only[Fi,Pq,Ae,A0,Pd,Ey h0,Ey h1,Tb,Ay];rw[Ad ⟨h0,by omega⟩];have hF:∀ X,Aj (Ct g) (Jz 64 false (List.replicate 64 false) r.toNat true,List.replicate 64 (0:Int),[]++[r],[])=some X->
    (O6 (Ct g (Jz 64 false (List.replicate 64 false) r.toNat true,List.replicate 64 (0:Int),[r],[])) (Ct g)).bind (λx=>some x)=some X:=λX hX=>by
   rw[Zt];rw[Tf]at hX;rw[hX];rfl
  refine(hF _ hmain).trans ?_;simp only[Tf,List.reverse_append,Oy,Bs,List.map_reverse,List.reverse_cons,List.reverse_nil]
  simp
  omega
 ·unfold Gv;rw[g8 _ h,Ay]
  cases hm:X8 g with
  | false=>rfl
  | true=>
   rw[hm,Gz]at hf;simp only[Fi,Pq,Ae,A0,Pd,hf,Ay,L7]
   rfl
def RelN(n:Nat)(R:List Bool)(s:Nat->Bool):Prop:=R.length=n/\∀ z,z<n->R.getD z false=s z
theorem RelN.set{n:Nat}{R:List Bool}{s:Nat->Bool}(h:RelN n R s){y:Nat}(hy:y<n):RelN n (R.set y true) (upd s y):=by
 refine⟨by rw[Hy];exact h.1,λz hz=>?_⟩;rw[Pp,List.getElem?_set]
 by_cases hzy:y=z
 ·subst hzy;simp[upd,h.1,hy]
 ·rw[if_neg hzy,<- Pp,h.2 z hz];simp[upd,Hd hzy]
theorem Lo:∀(n:Nat) (l:List Nat),l.Nodup->(∀ x∈l,x<n)->l.length<=n
 | 0,l,_,h=>by
  cases l with
  | nil=>simp
  | cons x l=>have:=h x (Jd ..);omega
 | n+1,l,hd,h=>by
  by_cases hn:n∈l
  ·have h1:=Lo n (l.erase n) (hd.erase n) λx hx=>by
    have h2:=(hd.mem_erase_iff).1 hx;have:=h x h2.2;have:=h2.1;omega
   rw[List.length_erase_of_mem hn]at h1;omega
  ·have h1:=Lo n l hd λx hx=>by
    have:=h x hx
    have:x≠n:=by rintro rfl;exact hn hx
    omega
   omega
theorem bz{p:Nat->Bool}{n:Nat}{x:Int}:x∈((List.range n).filter p).map Int.ofNat↔∃ k:Nat,x=(k:Int)/\k<n/\p k=true:=by
 simp only[zzL24,zzL63,zzL38]
 constructor
 ·rintro⟨k,⟨h1,h2⟩,rfl⟩;exact⟨k,rfl,h1,h2⟩
 ·rintro⟨k,rfl,h1,h2⟩;exact⟨k,⟨h1,h2⟩,rfl⟩
theorem bZ{L:List (List Int)}{k i:Nat}:Zd L k i=true↔(i:Int)∈L.getD k []:=by unfold Zd;rw[EU]
def mk(o:List Bool)(l:List Nat):List Bool:=l.foldl (λo y=>o.set y true) o
theorem jF(l:List Nat):∀ o:List Bool,(mk o l).length=o.length:=by
 induction l with
 | nil=>intro o;rfl
 | cons y l ih=>intro o;show(mk (o.set y true) l).length=_;rw[ih,Hy]
theorem mk_at{n:Nat}(l:List Nat):∀(o:List Bool),o.length=n->(∀ y∈l,y<n)->∀ z,(mk o l).getD z false=true↔o.getD z false=true\/z∈l:=by
 induction l with
 | nil=>intro o _ _ z;simp[mk]
 | cons y l ih=>
  intro o ho hl z
  show(mk (o.set y true) l).getD z false=true↔_
  rw[ih (o.set y true) (by rw[Hy];exact ho) (λu hu=>hl u (E7 _ hu)) z];have hy:=hl y (Jd ..)
  have e:(o.set y true).getD z false=true↔o.getD z false=true\/z=y:=by
   rw[Pp,List.getElem?_set,Pp]
   by_cases h:y=z
   ·subst h;simp[ho,hy]
   ·simp[h,Hd h]
  rw[e,zzL22]
  constructor
  ·rintro((h|h)|h)
   ·exact .inl h
   ·exact .inr (.inl h)
   ·exact .inr (.inr h)
  ·rintro(h|h|h)
   ·exact .inl (.inl h)
   ·exact .inl (.inr h)
   ·exact .inr h
def sw(S:Nat->List Nat)(o:List Bool):Nat->List Bool
 | 0=>o
 | i+1=>if(sw S o i).getD i false=true then mk (sw S o i) (S i) else sw S o i
def HP(S:Nat->List Nat)(n:Nat)(o:List Bool):Nat->List Bool
 | 0=>o
 | j+1=>sw S (HP S n o j) n
section
variable {S:Nat->List Nat} {n:Nat} (hS:∀ z,z<n->∀ y∈S z,y<n)
theorem Yr(o:List Bool):∀ i,(sw S o i).length=o.length:=by
 intro i
 induction i with
 | zero=>rfl
 | succ i ih=>unfold sw;split;rw[jF,ih];exact ih
theorem fj(o:List Bool):∀ j,(HP S n o j).length=o.length:=by
 intro j
 induction j with
 | zero=>rfl
 | succ j ih=>unfold HP;rw[Yr,ih]
include hS
theorem BQ{o:List Bool}(ho:o.length=n):∀ i,i<=n->∀ z,o.getD z false=true->(sw S o i).getD z false=true:=by
 intro i
 induction i with
 | zero=>intro _ z h;exact h
 | succ i ih=>
  intro hi z h;unfold sw
  split
  ·exact(mk_at (n:=n) _ _ (by rw[Yr];exact ho) (hS i (by omega)) z).2 (.inl (ih (by omega) z h))
  ·exact ih (by omega) z h
theorem cp{o:List Bool}{r:Nat}(ho:o.length=n)(h:∀ z,o.getD z false=true->Rch S r z):∀ i,i<=n->∀ z,(sw S o i).getD z false=true->Rch S r z:=by
 intro i
 induction i with
 | zero=>intro _ z hz;exact h z hz
 | succ i ih=>
  intro hi z hz;unfold sw at hz
  split at hz
  ·rename_i hsi
   rcases(mk_at (n:=n) _ _ (by rw[Yr];exact ho) (hS i (by omega)) z).1 hz with h1|h1
   ·exact ih (by omega) z h1
   ·exact(ih (by omega) i hsi).tail h1
  ·exact ih (by omega) z hz
theorem gB{o:List Bool}(ho:o.length=n):∀ i,i<=n->∀ j,j<i->o.getD j false=true->∀ y∈S j,(sw S o i).getD y false=true:=by
 intro i
 induction i with
 | zero=>intro _ j hj;omega
 | succ i ih=>
  intro hi j hj hoj y hy;unfold sw
  by_cases hji:j=i
  ·subst hji;have h1:=BQ hS ho j (by omega) j hoj;rw[if_pos h1];exact(mk_at (n:=n) _ _ (by rw[Yr];exact ho) (hS j (by omega)) y).2 (.inr hy)
  ·have h1:=ih (by omega) j (by omega) hoj y hy
   split
   ·exact(mk_at (n:=n) _ _ (by rw[Yr];exact ho) (hS i (by omega)) y).2 (.inl h1)
   ·exact h1
theorem YF{o:List Bool}(ho:o.length=n)(hc:∀ j,j<n->o.getD j false=true->∀ y∈S j,o.getD y false=true):∀ i,i<=n->∀ z,(sw S o i).getD z false=true->o.getD z false=true:=by
 intro i
 induction i with
 | zero=>intro _ z h;exact h
 | succ i ih=>
  intro hi z hz;unfold sw at hz
  split at hz
  ·rename_i hsi
   rcases(mk_at (n:=n) _ _ (by rw[Yr];exact ho) (hS i (by omega)) z).1 hz with h1|h1
   ·exact ih (by omega) z h1
   ·exact hc i (by omega) (ih (by omega) i hsi) z h1
  ·exact ih (by omega) z hz
theorem W6{r:Nat}(hr:r<n)(z:Nat):(HP S n ((List.replicate n false).set r true) n).getD z false=true↔Rch S r z:=by
 let o0:=(List.replicate n false).set r true
 have ho0:o0.length=n:=by simp[o0]
 have hat0:∀ z,o0.getD z false=true↔z=r:=λz=>by
  show((List.replicate n false).set r true).getD z false=true↔z=r
  rw[Pp,List.getElem?_set]
  by_cases h:r=z
  ·subst h;simp[hr]
  ·rw[if_neg h,<- Pp,Nk];simp[Hd h]
 have hlen:∀ j,(HP S n o0 j).length=n:=λj=>by rw[fj,ho0]
 have hsound:∀ j z,(HP S n o0 j).getD z false=true->Rch S r z:=by
  intro j
  induction j with
  | zero=>intro z hz;rw[(hat0 z).1 hz];exact .refl _
  | succ j ih=>intro z hz;exact cp hS (hlen j) ih n (zzL8 _) z hz
 have hmono:∀ j,∀ z,o0.getD z false=true->(HP S n o0 j).getD z false=true:=by
  intro j
  induction j with
  | zero=>intro z h;exact h
  | succ j ih=>intro z h;exact BQ hS (hlen j) n (zzL8 _) z (ih z h)
 let C:Nat->Prop:=λj=>∀ i,i<n->(HP S n o0 j).getD i false=true->∀ y∈S i,(HP S n o0 j).getD y false=true
 have key:∀ j,C j\/LK n (λz=>(HP S n o0 j).getD z false)+j+1<=n:=by
  intro j
  induction j with
  | zero=>
   refine .inr ?_;have h1:=Tm (n:=n) (s:=λ_=>false) hr rfl
   have e:upd (λ_=>false) r=λz=>(HP S n o0 0).getD z false:=by
    funext z
    rw[Mn,upd_true]
    show _↔o0.getD z false=true
    rw[hat0]
    simp
   rw[e]at h1
   have hcl:LK n (λ_=>false)=n:=by
    unfold LK;rw[List.filter_eq_self.2 (by simp)]
    simp
   omega
  | succ j ih=>
   by_cases hc:C j
   ·refine .inl λi hi h y hy=>?_;have h1:=YF hS (hlen j) hc n (zzL8 _) i h;exact BQ hS (hlen j) n (zzL8 _) y (hc i hi h1 y hy)
   ·rcases ih with ih|ih
    ·exact(hc ih).elim
    ·refine .inr ?_
     have hex:∃ i,i<n/\(HP S n o0 j).getD i false=true/\∃ y,y∈S i/\(HP S n o0 j).getD y false=false:=by
      simp only[C]at hc;simp only[Classical.not_forall]at hc;obtain⟨i,hi,h1,y,hy,h2⟩:=hc;exact⟨i,hi,h1,y,hy,by simpa using h2⟩
     obtain⟨i,hi,h1,y,hy,h2⟩:=hex;have h3:=gB hS (hlen j) n (zzL8 _) i hi h1 y hy;have hyn:=hS i hi y hy;have h4:=Tm (n:=n) (s:=λz=>(HP S n o0 j).getD z false) hyn h2
     have h5:LK n (λz=>(HP S n o0 (j+1)).getD z false)<=LK n (upd (λz=>(HP S n o0 j).getD z false) y):=MJ λz hz=>by
      rcases upd_true.1 hz with rfl|hz
      ·exact h3
      ·exact BQ hS (hlen j) n (zzL8 _) z hz
     omega
 have hC:C n:=by
  rcases key n with h|h
  ·exact h
  ·omega
 constructor
 ·exact hsound n z
 ·intro hrch
  have hlt:∀ x z,Rch S x z->x<n->z<n/\((HP S n o0 n).getD x false=true->(HP S n o0 n).getD z false=true):=by
   intro x z hxz
   induction hxz with
   | refl x=>exact λhx=>⟨hx,id⟩
   | @head x y z hy _ ih=>
    intro hx;have:=ih (hS x hx y hy);exact⟨this.1,λh=>this.2 (hC x hx h y hy)⟩
  exact(hlt r z hrch hr).2 (hmono n r ((hat0 r).2 rfl))
end
def pos:List Nat->Nat->Nat
 | [],_=>0
 | x::l,z=>if x=z then 0 else pos l z+1
theorem DU(x:Nat)(l:List Nat)(z:Nat):pos (x::l) z=if x=z then 0 else pos l z+1:=rfl
theorem ff{A l:List Nat}{z:Nat}(h:z∉A):pos (A++l) z=A.length+pos l z:=by
 induction A with
 | nil=>simp
 | cons x A ih=>
  have h1:x≠z:=λe=>h (by rw[e];exact Jd ..);have h2:z∉A:=λe=>h (E7 _ e);rw[Z0,DU,if_neg h1,ih h2,Oo];omega
theorem BL{P:List Nat}(hd:P.Nodup){i:Nat}(hi:i<P.length):P[i]∉P.take i/\pos P P[i]=i:=by
 have e:P=P.take i++P[i]::P.drop (i+1):=by rw[<- Ml hi,List.take_append_drop]
 have hn:P[i]∉P.take i:=by
  rw[e]at hd;have:=(List.nodup_append.1 hd).2.2;exact λhm=>this _ hm _ (Jd ..) rfl
 refine⟨hn,?_⟩
 have h2:pos (P.take i++P[i]::P.drop (i+1)) P[i]=i:=by
  rw[ff hn]
  have:pos (P[i]::P.drop (i+1)) P[i]=0:=by rw[DU,if_pos rfl]
  rw[this,Vv];omega
 rw[<- e]at h2;exact h2
theorem ML(d:Array Int)(hs:∀ i j,i<=j->j<d.size->d[i]!<=d[j]!):∀ m,m<=d.size->(∀ x∈Lib.compactUpTo d m,∃ j,j<m/\x=d[j]!)/\(∀ j,j<m->d[j]!∈Lib.compactUpTo d m)/\(Lib.compactUpTo d m).Pairwise (·<·):=by
 intro m
 induction m with
 | zero=>intro _;exact⟨(λx hx=>by simp[Lib.compactUpTo]at hx),(λj hj=>by omega),by simp[Lib.compactUpTo]⟩
 | succ m ih=>
  intro hm;obtain⟨h1,h2,h3⟩:=ih (by omega);rw[Lib.compactUpTo_succ]
  cases hk:Lib.keeps d m with
  | true=>
   rw[if_pos rfl];refine⟨λx hx=>?_,λj hj=>?_,?_⟩
   ·rcases zzL11.1 hx with h|h
    ·obtain⟨j,hj,he⟩:=h1 x h;exact⟨j,by omega,he⟩
    ·exact⟨m,by omega,by simpa using h⟩
   ·by_cases hjm:j=m
    ·subst hjm;simp
    ·exact zzL11.2 (.inl (h2 j (by omega)))
   ·rw[zzL126];refine⟨h3,List.pairwise_singleton _ _,λx hx y hy=>?_⟩;obtain⟨j,hj,rfl⟩:=h1 x hx
    have hy':y=d[m]!:=by simpa using hy
    subst hy'
    have hk':m=0\/d[m]!≠d[m-1]!:=by simpa [Lib.keeps] using hk
    rcases hk' with h0|h0
    ·omega
    ·have a1:=hs j (m-1) (by omega) (by omega);have a2:=hs (m-1) m (by omega) (by omega);omega
  | false=>
   have hk':m≠0/\d[m]! = d[m-1]!:=by
    have:¬ (m=0\/d[m]!≠d[m-1]!):=by
     intro h
     have:Lib.keeps d m=true:=by simpa [Lib.keeps] using h
     rw[hk]at this;cases this
    exact⟨λh=>this (.inl h),Classical.not_not.1 λh=>this (.inr h)⟩
   simp only[Xj,Ep,List.append_nil];refine⟨λx hx=>by obtain⟨j,hj,he⟩:=h1 x hx;exact⟨j,by omega,he⟩,λj hj=>?_,h3⟩
   by_cases hjm:j=m
   ·subst hjm;rw[hk'.2];exact h2 _ (by omega)
   ·exact h2 j (by omega)
def EE(l:List Int):List Int:=Lib.compact (l.mergeSort λx y=>decide (x<=y))
theorem XY(l:List Int):(EE l).Pairwise (·<·)/\∀ x,x∈EE l↔x∈l:=by
 unfold EE Lib.compact;have hp:(l.mergeSort λx y=>decide (x<=y)).Pairwise (λa b=>decide (a<=b)=true):=List.pairwise_mergeSort (λa b c h1 h2=>by simp at *;omega) (λa b=>by simp;omega) l;have hm:∀ x,x∈(l.mergeSort λx y=>decide (x<=y))↔x∈l:=λx=>List.mem_mergeSort
 generalize l.mergeSort (λx y=>decide (x<=y))=z at hp hm ⊢
 have hz:∀ j,j<z.length->z.toArray[j]! = z.getD j 0:=λj hj=>by simp[List.getD,hj]
 obtain⟨h1,h2,h3⟩:=ML z.toArray (λi j hij hj=>by
  have hj':j<z.length:=by simpa using hj
  rw[hz i (by omega),hz j hj']
  by_cases he:i=j
  ·rw[he];exact Int.le_refl _
  ·have:=(zzL96.1 hp) i j (by omega) hj' (by omega);rw[Aa _ _ _ (by omega),Aa _ _ _ hj']
   simpa using this) z.length (by simp)
 refine⟨h3,λx=>?_⟩;rw[<- hm x]
 constructor
 ·intro hx;obtain⟨j,hj,rfl⟩:=h1 x hx;rw[hz j hj];exact getD_mem hj
 ·intro hx;obtain⟨j,hj,rfl⟩:=K9 hx;have:=h2 j hj;rwa[hz j hj,Aa _ _ _ hj]at this
def iG(n:Nat)(l:List Int):Bool:=(List.range l.length).all λi=>decide (0<l.getD i 0)&&decide (l.getD i 0<(n:Int))
def iH(k:Int):Int:=([0,1,2,0]:List Int).getD k.toNat 0
def MX(e:H1):Bool:=(decide (0<=e.Kind)&&decide (e.Kind<=3))&&decide ((e.To.length:Int)=iH e.Kind)
def Na(e:H1)(n:Nat):Bool:=MX e&&iG n e.To
theorem toB_iff{n:Nat}{l:List Int}:iG n l=true↔∀ x∈l,0<x/\x<n:=by
 unfold iG;rw[all_range];simp only[A4,Du]
 constructor
 ·intro h x hx;obtain⟨i,hi,rfl⟩:=K9 hx;have:=h i hi;rwa[Aa _ _ _ hi]at this
 ·intro h i hi;exact h _ (getD_mem hi)
theorem bP(e:H1)(n:Nat)(hl:e.To.length<4611686018427387904):Aj (B3 e (n:Int)) (0:Int)=some (bif iG n e.To then .inl () else .inr false):=by
 have step:∀ j:Nat,j<e.To.length->B3 e (n:Int) (j:Int)=bif (decide (0<e.To.getD j 0)&&decide (e.To.getD j 0<(n:Int))) then some (.next (((j+1:Nat):Int))) else some (.done (.inr false)):=λj hj=>by
  unfold B3;simp only[A5,F1 hj,Ae,Pd,w1 (show j<4611686018427387904 by omega)];rw[Ad (H6 hj)]
  by_cases h0:e.To.getD j 0=0
  ·rw[h0];rfl
  ·have:(e.To.getD j 0==0)=false:=by rw[zzL23];exact h0
   rw[this];simp only[Pq,Ae,A0,Ay]
   have e1:decide (0<e.To.getD j 0)=decide (0<=e.To.getD j 0):=by apply zzL105.2;omega
   rw[e1]
   cases(decide (0<=e.To.getD j 0)&&decide (e.To.getD j 0<(n:Int)))<;>rfl
 have:=M3 (B3 e (n:Int)) (λj=>((j:Nat):Int)) (λi=>decide (0<e.To.getD i 0)&&decide (e.To.getD i 0<(n:Int))) (.inl ()) (.inr false) e.To.length (λj hj hp=>?_) (λj hj hp=>?_) ?_
 ·exact this
 ·show B3 e (n:Int) (j:Int)=_
  rw[step j hj,hp];rfl
 ·show B3 e (n:Int) (j:Int)=_
  rw[step j hj,hp];rfl
 ·show B3 e (n:Int) _=_
  unfold B3;simp only[Kh,A0]
theorem Wf(e:H1)(n:Nat)(w:Int)(hw:0<=w/\w<=2) :
  (bif ((e.To.length:Int)!=w) then(some false) else((Aj (B3 e (n:Int)) (0:Int)).bind (λx10=>(match x10 with|(.inl _)=>(some true)|(.inr r12)=>(some r12)))))=some (decide ((e.To.length:Int)=w)&&iG n e.To):=by
 by_cases h:(e.To.length:Int)=w
 ·rw[show((e.To.length:Int)!=w)=false by simpa using h,A0,bP e n (by omega),Ey h]
  cases iG n e.To<;>rfl
 ·rw[show((e.To.length:Int)!=w)=true by simpa using h,Ae,Fh h];rfl
theorem XE(e:H1)(n:Nat):Jp e (n:Int)=some (Na e n):=by
 unfold Jp Na MX
 by_cases h0:e.Kind=0
 ·rw[h0];exact Wf e n 0 (by omega)
 by_cases h1:e.Kind=1
 ·rw[h1];exact Wf e n 1 (by omega)
 by_cases h2:e.Kind=2
 ·rw[h2];exact Wf e n 2 (by omega)
 by_cases h3:e.Kind=3
 ·rw[h3];exact Wf e n 0 (by omega)
 have e0:(e.Kind==0)=false:=by rw[zzL23];exact h0
 have e1:(e.Kind==1)=false:=by rw[zzL23];exact h1
 have e2:(e.Kind==2)=false:=by rw[zzL23];exact h2
 have e3:(e.Kind==3)=false:=by rw[zzL23];exact h3
 rw[e0,e1,e2,e3]
 have:(decide (0<=e.Kind)&&decide (e.Kind<=3))=false:=by
  by_cases h:0<=e.Kind
  ·rw[Fh (show ¬ e.Kind<=3 by omega)];simp
  ·rw[Fh h];rfl
 rw[this]
 rfl
theorem bT{e:H1}{n:Nat}(h:Na e n=true):e.To.length<=2:=by
 unfold Na MX at h;simp only[A4,Du]at h;obtain⟨⟨⟨h0,h1⟩,h2⟩,_⟩:=h
 have:iH e.Kind<=2:=by
  have:e.Kind=0\/e.Kind=1\/e.Kind=2\/e.Kind=3:=by omega
  rcases this with h|h|h|h<;>rw[h]<;>decide
 omega
theorem en{e:H1}{n:Nat}(h:Na e n=true):iG n e.To=true:=by unfold Na at h;exact(A4 _ _▸h).2
def M9(f:Ab)(i:Nat):H1:=(f.Blocks.getD i (default:Ag)).End
def El(f:Ab):List (List Int):=(List.range f.Blocks.length).map λi=>EE (M9 f i).To
def Nn(f:Ab):Bool:=(decide (1<=f.Blocks.length)&&decide (f.Blocks.length<=64))&&(List.range f.Blocks.length).all λi=>Na (M9 f i) f.Blocks.length
theorem shape_iff{f:Ab}:Nn f=true↔(1<=f.Blocks.length/\f.Blocks.length<=64)/\∀ i,i<f.Blocks.length->Na (M9 f i) f.Blocks.length=true:=by
 unfold Nn;rw[A4,A4,all_range];simp only[Du]
theorem ft{f:Ab}{i:Nat}(h:Na (M9 f i) f.Blocks.length=true):dp f.Blocks.length (EE (M9 f i).To)=true:=by
 obtain⟨h1,h2⟩:=XY (M9 f i).To;exact jH (λx hx=>by have:=(toB_iff.1 (en h)) x ((h2 x).1 hx);omega) h1
theorem Sy{f:Ab}(h:Nn f=true):Ln (El f)=true:=by
 obtain⟨⟨h1,h2⟩,h3⟩:=shape_iff.1 h
 have hl:(El f).length=f.Blocks.length:=by simp[El]
 refine mayS_iff.2 ⟨by omega,by omega,λi hi=>?_⟩;rw[hl]at hi ⊢;unfold El;rw[P7 hi];exact ft (h3 i hi)
theorem mJ(f:Ab)(hf:f.Blocks.length<=maxLen):Qd f=some (bif Nn f then(Xu (El f),0) else(g0,5)):=by
 have hroom:(1000:Nat)<=room:=by decide
 unfold Qd;rw[HA,Ay];have hsh:Nn f=((decide (1<=f.Blocks.length)&&decide (f.Blocks.length<=64))&&(List.range f.Blocks.length).all λi=>Na (M9 f i) f.Blocks.length):=rfl
 cases hc:(decide (1<=f.Blocks.length)&&decide (f.Blocks.length<=64)) with
 | false=>rw[hsh,hc];rfl
 | true=>
  have hc':=hc;simp only[A4,Du]at hc';simp only[Fi,A0];rw[Ad ⟨by omega,Int.le_refl _,by omega⟩,A5]
  let U:Nat->List (List Int):=λi=>(List.range f.Blocks.length).map λj=>if j<i then EE (M9 f j).To else[]
  have e0:List.replicate f.Blocks.length ([]:List Int)=U 0:=by
   simp only[U]
   apply List.ext_getElem?
   intro j
   by_cases hj:j<f.Blocks.length<;>simp[hj,List.getElem?_replicate]
  have eN:U f.Blocks.length=El f:=by
   simp only[U,El]
   apply Pe
   intro j hj;rw[if_pos hj]
  rw[e0]
  have hstep:∀ i:Nat,i<f.Blocks.length->Ew f ((i:Int),U i)=bif Na (M9 f i) f.Blocks.length then some (.next (((i+1:Nat):Int),U (i+1))) else some (.done (.inr (g0,5))):=λi hi=>by
   unfold Ew;simp only[F1 hi,Ae,A5];rw[Ad (H6 hi)];have he:(⟨(f.Blocks.getD i (default:Ag)).End.Kind,(f.Blocks.getD i (default:Ag)).End.Arg,(f.Blocks.getD i (default:Ag)).End.To⟩:H1)=M9 f i:=rfl;rw[he,XE,Ay]
   cases hfit:Na (M9 f i) f.Blocks.length with
   | false=>rfl
   | true=>
    have hl2:=bT hfit;simp only[Fi,A0,Ae]
    have hx:Xg (f.Blocks.getD i (default:Ag)).End.To=some (EE (M9 f i).To):=by
     unfold Xg;rw[UH,Ad (by show(M9 f i).To.length<=_;omega)]
     rfl
    rw[hx,Ay,Ad (H6 (by simp[U];omega)),w1 (by omega)]
    congr 3
    simp only[U];rw[KT]
    apply Pe
    intro j hj
    by_cases h1:j=i
    ·subst h1;rw[if_pos rfl,if_pos (by omega)]
    ·rw[if_neg h1]
     by_cases h2:j<i
     ·rw[if_pos h2,if_pos (by omega)]
     ·rw[if_neg h2,if_neg (by omega)]
  have:=M3 (Ew f) (λi=>(((i:Nat):Int),U i)) (λi=>Na (M9 f i) f.Blocks.length) (.inl (U f.Blocks.length)) (.inr (g0,5)) f.Blocks.length (λi hi hp=>?_) (λi hi hp=>?_) ?_
  ·rw[show Aj (Ew f) ((0:Int),U 0)=_ from this,hsh,hc,eN,Gz]
   cases hall:(List.range f.Blocks.length).all λi=>Na (M9 f i) f.Blocks.length with
   | false=>rfl
   | true=>
    simp only[Ae,Ay];rw[NH _ (Sy (by rw[hsh,hc,hall];rfl))]
    rfl
  ·show Ew f (_,_)=_
   rw[hstep i hi,hp];rfl
  ·show Ew f (_,_)=_
   rw[hstep i hi,hp];rfl
  ·show Ew f (_,_)=_
   unfold Ew;simp only[Kh,A0]
inductive Rc (S:Nat->List Nat) (r:Nat):Nat->Prop
 | root:Rc S r r
 | step {x y:Nat} (h:Rc S r x) (hy:y∈S x):Rc S r y
inductive Av (S:Nat->List Nat) (r z:Nat):Nat->Prop
 | root (h:r≠z):Av S r z r
 | step {x y:Nat} (h:Av S r z x) (hy:y∈S x) (hz:y≠z):Av S r z y
inductive AvN (S:Nat->List Nat) (r z:Nat):Nat->Nat->Prop
 | root (h:r≠z) (k:Nat):AvN S r z k r
 | step {k x y:Nat} (h:AvN S r z k x) (hy:y∈S x) (hz:y≠z):AvN S r z (k+1) y
section
variable {S:Nat->List Nat} {r:Nat}
theorem rc_iff{x:Nat}:Rc S r x↔Rch S r x:=by
 constructor
 ·intro h
  induction h with
  | root=>exact .refl _
  | step _ hy ih=>exact ih.tail hy
 ·intro h
  have key:∀ a b,Rch S a b->Rc S r a->Rc S r b:=by
   intro a b hab
   induction hab with
   | refl x=>exact id
   | head hy _ ih=>exact λha=>ih (.step ha hy)
  exact key _ _ h .root
def wo(S:Nat->List Nat)(z:Nat):Nat->List Nat:=λx=>(S x).filter λy=>decide (y≠z)
theorem av_iff{z x:Nat}:Av S r z x↔r≠z/\Rch (wo S z) r x:=by
 constructor
 ·intro h
  induction h with
  | root h=>exact⟨h,.refl _⟩
  | step _ hy hz ih=>exact⟨ih.1,ih.2.tail (zzL63.2 ⟨hy,by simpa using hz⟩)⟩
 ·rintro⟨hr,h⟩
  have key:∀ a b,Rch (wo S z) a b->Av S r z a->Av S r z b:=by
   intro a b hab
   induction hab with
   | refl x=>exact id
   | head hy _ ih=>
    obtain⟨h1,h2⟩:=zzL63.1 hy;exact λha=>ih (.step ha h1 (by simpa using h2))
  exact key _ _ h (.root hr)
theorem Av.rc{z x:Nat}(h:Av S r z x):Rc S r x:=by
 induction h with
 | root _=>exact .root
 | step _ hy _ ih=>exact .step ih hy
theorem Av.ne{z x:Nat}(h:Av S r z x):x≠z:=by
 cases h with
 | root h=>exact h
 | step _ _ hz=>exact hz
theorem AvN.av{z k x:Nat}(h:AvN S r z k x):Av S r z x:=by
 induction h with
 | root h=>exact .root h
 | step _ hy hz ih=>exact .step ih hy hz
theorem AvN.up{z k x:Nat}(h:AvN S r z k x):AvN S r z (k+1) x:=by
 induction h with
 | root h k=>exact .root h _
 | step _ hy hz ih=>exact .step ih hy hz
theorem AvN.mono{z k m x:Nat}(h:AvN S r z k x)(hm:k<=m):AvN S r z m x:=by
 obtain⟨d,rfl⟩:=Nat.exists_eq_add_of_le hm;clear hm
 induction d with
 | zero=>exact h
 | succ d ih=>exact ih.up
theorem Av.avn{z x:Nat}(h:Av S r z x):∃ k,AvN S r z k x:=by
 induction h with
 | root h=>exact⟨0,.root h 0⟩
 | step _ hy hz ih=>obtain⟨k,hk⟩:=ih;exact⟨k+1,.step hk hy hz⟩
theorem AvN.via {z k x : Nat} (h : AvN S r z k x) (y : Nat) : AvN S r y k x ∨ AvN S r z k y := by
  induction h with
  | root h k => by_cases hy : r = y
                · subst hy; exact .inr (.root h _)
                · exact .inl (.root hy _)
  | @step k x w h hy hz ih =>
    rcases ih with h1 | h1
    · by_cases hw : w = y
      · subst hw; exact .inr (.step h hy hz)
      · exact .inl (.step h1 hy hw)
    · exact .inr h1.up
theorem WE(n:Nat):∃ K,∀ z,z<n->∀ x,x<n->Av S r z x->AvN S r z K x:=by
 have one:∀ z m,∃ K,∀ x,x<m->Av S r z x->AvN S r z K x:=by
  intro z m
  induction m with
  | zero=>exact⟨0,λx hx=>absurd hx (Mo x)⟩
  | succ m ih=>
   obtain⟨K,hK⟩:=ih
   by_cases h:Av S r z m
   ·obtain⟨k,hk⟩:=h.avn;refine⟨max K k,λx hx ha=>?_⟩;rcases zzL116.1 hx with h1|rfl
    ·exact(hK x h1 ha).mono (Nat.le_max_left ..)
    ·exact hk.mono (Nat.le_max_right ..)
   ·refine⟨K,λx hx ha=>?_⟩;rcases zzL116.1 hx with h1|rfl
    ·exact hK x h1 ha
    ·exact absurd ha h
 have two:∀ m,∃ K,∀ z,z<m->∀ x,x<n->Av S r z x->AvN S r z K x:=by
  intro m
  induction m with
  | zero=>exact⟨0,λx hx=>absurd hx (Mo x)⟩
  | succ m ih=>
   obtain⟨K,hK⟩:=ih;obtain⟨k,hk⟩:=one m n;refine⟨max K k,λz hz x hx ha=>?_⟩;rcases zzL116.1 hz with h1|rfl
   ·exact(hK z h1 x hx ha).mono (Nat.le_max_left ..)
   ·exact(hk x hx ha).mono (Nat.le_max_right ..)
 exact two n
end
inductive UpTo (par:Nat->Int):Nat->Nat->Prop
 | refl (x:Nat):UpTo par x x
 | up {x y z:Nat} (h:par x=(y:Int)) (t:UpTo par y z):UpTo par x z
inductive Fw (S:Nat->List Nat) (at_:Nat->Nat) (u:Nat):Nat->Prop
 | refl:Fw S at_ u u
 | step {v w:Nat} (h:Fw S at_ u v) (hw:w∈S v) (hl:at_ v<at_ w):Fw S at_ u w
section
variable {S:Nat->List Nat} {at_:Nat->Nat} {par:Nat->Int}
theorem Fw.le{u w:Nat}(h:Fw S at_ u w):at_ u<=at_ w:=by
 induction h with
 | refl=>exact zzL8 _
 | step _ _ hl ih=>omega
theorem Fw.trans{u v w:Nat}(h:Fw S at_ u v)(k:Fw S at_ v w):Fw S at_ u w:=by
 induction k with
 | refl=>exact h
 | step _ hw hl ih=>exact .step ih hw hl
theorem Fw.av{r d u w:Nat}(h:Fw S at_ u w)(ha:Av S r d u)(hd:at_ d<at_ u):Av S r d w:=by
 induction h with
 | refl=>exact ha
 | @step v w h hw hl ih=>exact .step ih hw (by rintro rfl;have:=h.le;omega)
theorem UpTo.trans{x y z:Nat}(h:UpTo par x y)(k:UpTo par y z):UpTo par x z:=by
 induction h with
 | refl x=>exact k
 | up h _ ih=>exact .up h (ih k)
theorem anc_up{x p z:Nat}(h:par x=(p:Int)):UpTo par x z↔z=x\/UpTo par p z:=by
 constructor
 ·intro k
  cases k with
  | refl=>exact .inl rfl
  | up h' t=>rw[h]at h';cases U6 h';exact .inr t
 ·rintro(rfl|k)
  ·exact .refl _
  ·exact .up h k
theorem AX{x z:Nat}(h:∀ p:Nat,par x≠(p:Int)):UpTo par x z↔z=x:=by
 constructor
 ·intro k
  cases k with
  | refl=>rfl
  | up h' t=>exact absurd h' (h _)
 ·rintro rfl;exact .refl _
structure Inv(S:Nat->List Nat)(r n:Nat)(at_:Nat->Nat)(par:Nat->Int):Prop where
 top:par r = -1
 kind:∀ x,x<n->par x = -2\/x=r\/∃ z:Nat,par x=(z:Int)
 up:∀ x,x<n->∀ z:Nat,par x=(z:Int)->z<n/\par z≠-2/\at_ z<at_ x/\Fw S at_ z x
 rc:∀ x,x<n->par x≠-2->Rc S r x
 all:∀ x,x<n->par x≠-2->∀ d,¬ UpTo par x d->Av S r d x
end
section
variable {S:Nat->List Nat} {at_:Nat->Nat} {par:Nat->Int} {r n:Nat}
theorem Inv.anc(h:Inv S r n at_ par){x z:Nat}(k:UpTo par x z)(hx:x<n)(hp:par x≠-2):z<n/\par z≠-2/\at_ z<=at_ x/\Fw S at_ z x:=by
 induction k with
 | refl x=>exact⟨hx,hp,zzL8 _,.refl⟩
 | @up x y z hxy t ih=>
  obtain⟨h1,h2,h3,h4⟩:=h.up x hx y hxy;obtain⟨i1,i2,i3,i4⟩:=ih h1 h2;exact⟨i1,i2,by omega,i4.trans h4⟩
theorem Inv.root_anc(h:Inv S r n at_ par){z:Nat}:UpTo par r z↔z=r:=AX λp hp=>by rw[h.top]at hp;omega
theorem Inv.strict(h:Inv S r n at_ par){x z:Nat}(k:UpTo par x z)(hx:x<n)(hp:par x≠-2):z=x\/at_ z<at_ x:=by
 cases k with
 | refl=>exact .inl rfl
 | up hxy t=>
  obtain⟨h1,h2,h3,h4⟩:=h.up x hx _ hxy;obtain⟨i1,i2,i3,i4⟩:=h.anc t h1 h2;exact .inr (by omega)
theorem Inv.antisymm(h:Inv S r n at_ par){x z:Nat}(k:UpTo par x z)(m:UpTo par z x)(hx:x<n)(hp:par x≠-2):z=x:=by
 rcases h.strict k hx hp with rfl|h1
 ·rfl
 ·obtain⟨i1,i2,i3,i4⟩:=h.anc k hx hp;have:=(h.anc m i1 i2).2.2.1;omega
def MeetAt(par:Nat->Int)(a b m:Nat):Prop:=∀ w,UpTo par m w↔UpTo par a w/\UpTo par b w
theorem HB{a:Nat}:MeetAt par a a a:=λw=>by simp
theorem XK{a b m:Nat}(h:MeetAt par a b m):MeetAt par b a m:=λw=>by rw[h w];exact And.comm
theorem Inv.meet_left(h:Inv S r n at_ par)(hinj:∀ x y,x<n->y<n->par x≠-2->par y≠-2->at_ x=at_ y->x=y){a b p m:Nat}(ha:a<n)(hpa:par a≠-2)(hb:b<n)(hpb:par b≠-2)(hab:a≠b)(hl:at_ b<=at_ a)(hp:par a=(p:Int))(k:MeetAt par p b m):MeetAt par a b m:=λw=>by
 rw[k w]
 constructor
 ·rintro⟨h1,h2⟩;exact⟨.up hp h1,h2⟩
 ·rintro⟨h1,h2⟩;rcases(anc_up hp).1 h1 with rfl|h1
  ·exfalso
   rcases h.strict h2 hb hpb with h3|h3
   ·exact hab h3
   ·omega
  ·exact⟨h1,h2⟩
end
section
variable {S:Nat->List Nat} {at_:Nat->Nat} {par:Nat->Int} {r n:Nat}
def Kz(par:Nat->Int)(y:Nat)(v:Int):Nat->Int:=λx=>if x=y then v else par x
def QF(S:Nat->List Nat)(n:Nat)(par:Nat->Int)(y z:Nat):Prop:=∀ w,UpTo par z w↔∀ p,p<n->y∈S p->par p≠-2->UpTo par p w
theorem Y6{y:Nat}{v:Int}{x z:Nat}(k:UpTo par x z)(hy:¬ UpTo par x y):UpTo (Kz par y v) x z:=by
 induction k with
 | refl x=>exact .refl _
 | @up x q z h t ih=>
  have hxy:x≠y:=by rintro rfl;exact hy (.refl _)
  refine .up (y:=q) ?_ (ih λk=>hy (.up h k));unfold Kz;rw[if_neg hxy];exact h
theorem LV{y:Nat}{v:Int}{x:Nat}(k:UpTo par x y):UpTo (Kz par y v) x y:=by
 induction k with
 | refl x=>exact .refl _
 | @up x q z h t ih=>
  by_cases hxy:x=z
  ·subst hxy;exact .refl _
  ·refine .up (y:=q) ?_ ih;unfold Kz;rw[if_neg hxy];exact h
theorem anc_upd_inv{y:Nat}{v:Int}{x w:Nat}(k:UpTo (Kz par y v) x w):UpTo par x w\/(UpTo par x y/\UpTo (Kz par y v) y w):=by
 induction k with
 | refl x=>exact .inl (.refl _)
 | @up x q w h t ih=>
  by_cases hxy:x=y
  ·subst hxy;exact .inr ⟨.refl _,.up h t⟩
  ·unfold Kz at h;rw[if_neg hxy]at h;rcases ih with h1|⟨h1,h2⟩
   ·exact .inl (.up h h1)
   ·exact .inr ⟨.up h h1,h2⟩
theorem low_or{y:Nat}{v:Int}{x d:Nat}(k:UpTo par x y)(hd:UpTo par x d):UpTo par y d\/UpTo (Kz par y v) x d:=by
 induction k with
 | refl x=>exact .inl hd
 | @up x q y hq t ih=>
  by_cases e:x=y
  ·subst e;exact .inl hd
  ·rcases(anc_up hq).1 hd with rfl|k
   ·exact .inr (.refl _)
   ·rcases ih k with h1|h1
    ·exact .inl h1
    ·exact .inr (.up (y:=q) (by unfold Kz;rw[if_neg e];exact hq) h1)
structure Better(S:Nat->List Nat)(r n:Nat)(at_:Nat->Nat)(par:Nat->Int)(y z:Nat):Prop where
 inv:Inv S r n at_ par
 hy:y<n
 hr:y≠r
 hz:z<n
 best:QF S n par y z
 fwd:∃ p,p<n/\y∈S p/\par p≠-2/\at_ p<at_ y
variable {y z:Nat}
theorem Better.zlt(h:Better S r n at_ par y z):UpTo par z z/\par z≠-2/\at_ z<at_ y/\Fw S at_ z y:=by
 obtain⟨p,hp,hyp,hpp,hl⟩:=h.fwd;obtain⟨h1,h2,h3,h4⟩:=h.inv.anc ((h.best z).1 (.refl _) p hp hyp hpp) hp hpp;exact⟨.refl _,h2,by omega,.step h4 hyp hl⟩
theorem Better.above(h:Better S r n at_ par y z){w:Nat}:UpTo (Kz par y z) z w↔UpTo par z w:=by
 obtain⟨_,h2,h3,_⟩:=h.zlt
 have hn:¬ UpTo par z y:=λk=>by have:=(h.inv.anc k h.hz h2).2.2.1;omega
 constructor
 ·intro k;rcases anc_upd_inv k with h1|⟨h1,_⟩
  ·exact h1
  ·exact absurd h1 hn
 ·intro k;exact Y6 k hn
theorem Better.here(h:Better S r n at_ par y z){w:Nat}:UpTo (Kz par y z) y w↔w=y\/UpTo par z w:=by
 rw[anc_up (p:=z) (by simp[Kz]),h.above]
theorem Better.av_here(h:Better S r n at_ par y z){d:Nat}(hd:¬ UpTo (Kz par y z) y d):Av S r d y:=by
 rw[h.here]at hd;have h1:¬ ∀ p,p<n->y∈S p->par p≠-2->UpTo par p d:=λhh=>hd (.inr ((h.best d).2 hh));simp only[Classical.not_forall]at h1;obtain⟨p,hp,hyp,hpp,hnp⟩:=h1;exact .step (h.inv.all p hp hpp d hnp) hyp λe=>hd (.inl e.symm)
theorem Better.inv'(h:Better S r n at_ par y z):Inv S r n at_ (Kz par y z):=by
 obtain⟨hzz,hz2,hzl,hzf⟩:=h.zlt;obtain⟨p,hp,hyp,hpp,hl⟩:=h.fwd
 have hne:∀ x,Kz par y z x≠-2->x=y\/par x≠-2:=λx hx=>by
  by_cases e:x=y
  ·exact .inl e
  ·unfold Kz at hx;rw[if_neg e]at hx;exact .inr hx
 have hyv:Kz par y z y=(z:Int):=by simp[Kz]
 have hyo:∀ x,x≠y->Kz par y z x=par x:=λx e=>by unfold Kz;rw[if_neg e]
 refine⟨by rw[hyo _ (Hd h.hr)];exact h.inv.top,λx hx=>?_,λx hx w hw=>?_,λx hx hxp=>?_,λx hx hxp d hd=>?_⟩
 ·by_cases e:x=y
  ·subst e;exact .inr (.inr ⟨z,hyv⟩)
  ·rw[hyo x e];exact h.inv.kind x hx
 ·have hzn:∀ w,par w≠-2->Kz par y z w≠-2:=λw hw=>by
   by_cases e:w=y
   ·subst e;rw[hyv];omega
   ·rw[hyo w e];exact hw
  by_cases e:x=y
  ·subst e;rw[hyv]at hw
   cases U6 hw
   exact⟨h.hz,hzn _ hz2,hzl,hzf⟩
  ·rw[hyo x e]at hw;obtain⟨h1,h2,h3,h4⟩:=h.inv.up x hx w hw;exact⟨h1,hzn _ h2,h3,h4⟩
 ·rcases hne x hxp with rfl|h1
  ·exact .step (h.inv.rc p hp hpp) hyp
  ·exact h.inv.rc x hx h1
 ·by_cases e:x=y
  ·subst e;exact h.av_here hd
  ·rw[hyo x e]at hxp
   by_cases hxd:UpTo par x d
   ·
    by_cases hxy:UpTo par x y
    ·have hyd:¬ UpTo (Kz par y z) y d:=λk=>hd ((LV hxy).trans k);have hav:=h.av_here hyd;have hf:=(h.inv.anc hxy hx hxp).2.2.2
     have hdy:UpTo par y d:=by
      rcases low_or (v:=(z:Int)) hxy hxd with h1|h1
      ·exact h1
      ·exact absurd h1 hd
     by_cases hpy:par y = -2
     ·
      have:d=y:=by
       refine(AX (par:=par) λp hp=>?_).1 hdy;rw[hpy]at hp;omega
      subst this;exact absurd (.refl _) hyd
     ·rcases h.inv.strict hdy h.hy hpy with rfl|hlt
      ·exact absurd (.refl _) hyd
      ·exact hf.av hav hlt
    ·exact absurd (Y6 hxd hxy) hd
   ·exact h.inv.all x hx hxp d hxd
end
section
variable {S:Nat->List Nat} {at_:Nat->Nat} {par:Nat->Int} {r n:Nat}
def QB(S:Nat->List Nat)(r n:Nat)(par:Nat->Int)(b:Nat->Nat):Prop:=∀ x,x<n->par x≠-2->∀ z,AvN S r z (b x) x->¬ UpTo par x z
def QG(S:Nat->List Nat)(r n:Nat)(par:Nat->Int):Prop:=∀ x,x<n->Rc S r x->par x≠-2
def TL(S:Nat->List Nat)(r n:Nat)(par:Nat->Int):Prop:=∀ x,x<n->par x≠-2->∀ d,UpTo par x d↔¬ Av S r d x
theorem fi(h:Inv S r n at_ par):QB S r n par λ_=>0:=λx hx hp z hz k=>by
 cases hz with
 | root hr _=>exact hr (h.root_anc.1 k).symm
theorem UV(hS:∀ x,x<n->∀ w∈S x,w<n)(hr:r<n){x:Nat}(h:Rc S r x):x<n:=by
 induction h with
 | root=>exact hr
 | step _ hy ih=>exact hS _ ih _ hy
theorem Better.qb{y z k:Nat}{b:Nat->Nat}(h:Better S r n at_ par y z)(hS:∀ x,x<n->∀ w∈S x,w<n)(hrn:r<n)(full:QG S r n par)(hb:∀ x,x<n->k<=b x/\b x<=k+1)(q:QB S r n par b) :
  QB S r n (Kz par y z) λx=>if x=y then k+1 else b x:=by
 have here:∀ w,AvN S r w (k+1) y->¬ UpTo (Kz par y z) y w:=λw hw hu=>by
  rcases h.here.1 hu with rfl|hu
  ·exact hw.av.ne rfl
  ·cases hw with
   | root hr _=>exact h.hr rfl
   | @step _ p _ hp hyp hne=>
    have hpn:=UV hS hrn hp.av.rc;have hpp:=full p hpn hp.av.rc;exact q p hpn hpp w (hp.mono (hb p hpn).1) ((h.best w).1 hu p hpn hyp hpp)
 intro x hx hxp w hw hu
 dsimp only at hw
 by_cases e:x=y
 ·subst e;rw[if_pos rfl]at hw;exact here w hw hu
 ·rw[if_neg e]at hw;unfold Kz at hxp;rw[if_neg e]at hxp;rcases anc_upd_inv hu with h1|⟨h1,h2⟩
  ·exact q x hx hxp w hw h1
  ·rcases hw.via y with h3|h3
   ·exact q x hx hxp y h3 h1
   ·exact here w (h3.mono (hb x hx).2) h2
theorem bQ(h:Inv S r n at_ par){K:Nat}(hK:∀ z,z<n->∀ x,x<n->Av S r z x->AvN S r z K x)(q:QB S r n par λ_=>K):TL S r n par:=λx hx hp d=>by
 constructor
 ·intro hu ha;exact q x hx hp d (hK d (h.anc hu hx hp).1 x hx ha) hu
 ·intro ha;exact PJ λhn=>ha (h.all x hx hp d hn)
theorem Better.same{y z:Nat}(h:Better S r n at_ par y z)(hS:∀ x,x<n->∀ w∈S x,w<n)(hrn:r<n)(full:QG S r n par)(hy2:par y≠-2)(ex:TL S r n par):par y=(z:Int):=by
 obtain⟨hzz,hz2,hzl,hzf⟩:=h.zlt;rcases h.inv.kind y h.hy with h1|h1|⟨q,hq⟩
 ·exact absurd h1 hy2
 ·exact absurd h1 h.hr
 ·obtain⟨q1,q2,q3,q4⟩:=h.inv.up y h.hy q hq
  have key:∀ w,UpTo par z w↔UpTo par q w:=λw=>by
   rw[h.best w]
   constructor
   ·intro hall
    have hwy:¬ Av S r w y:=λha=>by
     cases ha with
     | root _=>exact h.hr rfl
     | @step p _ hp hyp hne=>
      have hpn:=UV hS hrn hp.rc;have hpp:=full p hpn hp.rc;exact(ex p hpn hpp w).1 (hall p hpn hyp hpp) hp
    rcases(anc_up hq).1 ((ex y h.hy hy2 w).2 hwy) with rfl|hu
    ·have:=(h.inv.anc ((h.best _).2 hall) h.hz hz2).2.2.1;omega
    ·exact hu
   ·intro hu p hp hyp hpp;have hwy:UpTo par y w:=.up hq hu;refine(ex p hp hpp w).2 λha=>?_
    have hne:y≠w:=by rintro rfl;have:=(h.inv.anc hu q1 q2).2.2.1;omega
    exact(ex y h.hy hy2 w).1 hwy (.step ha hyp hne)
  have:=h.inv.antisymm ((key q).2 (.refl _)) ((key z).1 (.refl _)) h.hz hz2;rw[hq,this]
theorem WV(h:Inv S r n at_ par)(hS:∀ x,x<n->∀ w∈S x,w<n)(hrn:r<n)(full:QG S r n par)(fix:∀ y,y<n->y≠r->Rc S r y->∃ z:Nat,par y=(z:Int)/\QF S n par y z):TL S r n par:=λx hx hp d=>by
 constructor
 ·intro hu ha
  induction ha with
  | root hne=>exact hne (h.root_anc.1 hu).symm
  | @step p y hp' hyp hne ih=>
   have hpn:=UV hS hrn hp'.rc;have hpp:=full p hpn hp'.rc
   by_cases e:y=r
   ·subst e;exact hne (h.root_anc.1 hu).symm
   ·obtain⟨z,hz,hb⟩:=fix y hx e (.step hp'.rc hyp);rcases(anc_up hz).1 hu with rfl|hu
    ·exact hne rfl
    ·exact ih hpn hpp ((hb d).1 hu p hpn hyp hpp)
 ·intro ha;exact PJ λhn=>ha (h.all x hx hp d hn)
end
def Bc(t:List Int):Nat->Int:=λx=>t.getD x 0
theorem OD{t:List Int}{y:Nat}{v:Int}(hy:y<t.length):Bc (t.set y v)=Kz (Bc t) y v:=by
 funext x
 unfold Bc Kz
 by_cases e:x=y
 ·subst e;simp[List.getD,hy]
 ·simp[List.getD,e,Hd e]
open Classical in
def Js(S:Nat->List Nat)(n:Nat)(t:List Int)(y:Nat):Nat:=if h:∃ z,z<n/\QF S n (Bc t) y z then Classical.choose h else 0
def Ry(S:Nat->List Nat)(n:Nat)(P:List Nat)(t:List Int):Nat->List Int
 | 0=>t
 | i+1=>(Ry S n P t i).set (P.getD i 0) (Js S n (Ry S n P t i) (P.getD i 0):Int)
def BO(S:Nat->List Nat)(n:Nat)(P:List Nat)(t:List Int):Nat->List Int
 | 0=>t
 | j+1=>Ry S n P (BO S n P t j) P.length
def Eo(n r:Nat):List Int:=(List.replicate n (-2:Int)).set r (-1)
structure Ordered(S:Nat->List Nat)(r n:Nat)(P:List Nat):Prop where
 hr:r<n
 hS:∀ x,x<n->∀ w∈S x,w<n
 nodup:(r::P).Nodup
 mem:∀ x,x∈r::P↔Rc S r x
 fwd:∀ i,i<P.length->∃ p,p∈r::P.take i/\P.getD i 0∈S p
section
variable {S:Nat->List Nat} {r n:Nat} {P:List Nat}
theorem Ordered.lt(o:Ordered S r n P){x:Nat}(h:x∈r::P):x<n:=UV o.hS o.hr ((o.mem x).1 h)
theorem M2{i:Nat}(hi:i<P.length):P.getD i 0∈P:=by rw[Aa _ _ _ hi];exact Xm hi
theorem Ordered.at_lt(o:Ordered S r n P){i:Nat}(hi:i<P.length){p:Nat}(hp:p∈r::P.take i):pos (r::P) p<pos (r::P) (P.getD i 0):=by
 have hd:=o.nodup
 have h1:pos (r::P) (P.getD i 0)=i+1:=by
  have:=(BL hd (i:=i+1) (by simpa using hi)).2;rw[Aa _ _ _ hi]
  simpa using this
 rw[h1];obtain⟨j,hj,rfl⟩:=K9 hp
 have hj':j<i+1:=by simp at hj;omega
 have hjl:j<(r::P).length:=by simp;omega
 have e:(r::P.take i)[j]=(r::P)[j]:=by
  cases j with
  | zero=>rfl
  | succ j=>simp
 rw[e,(BL hd hjl).2];exact hj'
theorem mH(o:Ordered S r n P):Inv S r n (pos (r::P)) (Bc (Eo n r))/\(Eo n r).length=n/\Bc (Eo n r) r≠-2:=by
 have hlen:(Eo n r).length=n:=by simp[Eo]
 have hr:=o.hr
 have at_:∀ x,x<n->Bc (Eo n r) x=if x=r then -1 else -2:=λx hx=>by
  unfold Bc Eo
  by_cases e:x=r
  ·subst e;simp[List.getD,hx]
  ·simp[List.getD,hx,e,Hd e]
 have hno:∀ x,x<n->∀ p:Nat,Bc (Eo n r) x≠(p:Int):=λx hx p hp=>by rw[at_ x hx]at hp;split at hp<;>omega
 refine⟨⟨by rw[at_ r hr,if_pos rfl],λx hx=>?_,λx hx z hz=>absurd hz (hno x hx z),λx hx hp=>?_,λx hx hp d hd=>?_⟩,hlen,by rw[at_ r hr,if_pos rfl];omega⟩
 ·by_cases e:x=r
  ·exact .inr (.inl e)
  ·exact .inl (by rw[at_ x hx,if_neg e])
 ·by_cases e:x=r
  ·subst e;exact .root
  ·exact absurd (by rw[at_ x hx,if_neg e]) hp
 ·by_cases e:x=r
  ·subst e;exact .root (λe=>hd (by rw[e];exact .refl _))
  ·exact absurd (by rw[at_ x hx,if_neg e]) hp
structure Ready(S:Nat->List Nat)(r n:Nat)(P:List Nat)(t:List Int)(i:Nat):Prop where
 inv:Inv S r n (pos (r::P)) (Bc t)
 len:t.length=n
 done:∀ x∈r::P.take i,Bc t x≠-2
theorem Inv.meets{at_:Nat->Nat}{par:Nat->Int}(h:Inv S r n at_ par)(hinj:∀ x y,x<n->y<n->par x≠-2->par y≠-2->at_ x=at_ y->x=y)(hr:at_ r=0):∀ m a b,at_ a+at_ b<=m->a<n->b<n->par a≠-2->par b≠-2->∃ c,MeetAt par a b c/\c<n/\par c≠-2:=by
 intro m
 induction m with
 | zero=>
  intro a b hm ha hb hpa hpb;have:a=b:=hinj a b ha hb hpa hpb (by omega);subst this;exact⟨a,HB,ha,hpa⟩
 | succ m ih=>
  have go:∀ a b,at_ a+at_ b<=m+1->a<n->b<n->par a≠-2->par b≠-2->at_ b<=at_ a->∃ c,MeetAt par a b c/\c<n/\par c≠-2:=λa b hm ha hb hpa hpb hl=>by
   by_cases e:a=b
   ·subst e;exact⟨a,HB,ha,hpa⟩
   ·rcases h.kind a ha with h1|h1|⟨p,hp⟩
    ·exact absurd h1 hpa
    ·subst h1;exact absurd (hinj a b ha hb hpa hpb (by omega)) e
    ·obtain⟨p1,p2,p3,p4⟩:=h.up a ha p hp;obtain⟨c,hc,hc2⟩:=ih p b (by omega) p1 hb p2 hpb;exact⟨c,h.meet_left hinj ha hpa hb hpb e hl hp hc,hc2⟩
  intro a b hm ha hb hpa hpb;rcases Nat.le_total (at_ b) (at_ a) with hl|hl
  ·exact go a b hm ha hb hpa hpb hl
  ·obtain⟨c,hc,hc2⟩:=go b a (by omega) hb ha hpb hpa hl;exact⟨c,XK hc,hc2⟩
theorem Ready.inj(o:Ordered S r n P){t:List Int}{i:Nat}(h:Ready S r n P t i):∀ x y,x<n->y<n->Bc t x≠-2->Bc t y≠-2->pos (r::P) x=pos (r::P) y->x=y:=λx y hx hy hpx hpy he=>by
 have hm:∀ x,x<n->Bc t x≠-2->x∈r::P:=λx hx hp=>(o.mem x).2 (h.inv.rc x hx hp)
 have back:∀ x∈r::P,(r::P).getD (pos (r::P) x) 0=x:=λx hx=>by
  obtain⟨j,hj,rfl⟩:=K9 hx;rw[(BL o.nodup hj).2,Aa _ _ _ hj]
 rw[<- back x (hm x hx hpx),<- back y (hm y hy hpy),he]
theorem OH:pos (r::P) r=0:=by rw[DU,if_pos rfl]
theorem Ready.meetAll(o:Ordered S r n P){t:List Int}{i:Nat}(h:Ready S r n P t i):∀ l:List Nat,(∀ p∈l,p<n/\Bc t p≠-2)->l≠[]->∃ z,z<n/\Bc t z≠-2/\∀ w,UpTo (Bc t) z w↔∀ p∈l,UpTo (Bc t) p w:=by
 intro l
 induction l with
 | nil=>intro _ hn;exact absurd rfl hn
 | cons p l ih=>
  intro hl _;obtain⟨hp1,hp2⟩:=hl p (Jd ..)
  by_cases hl0:l=[]
  ·subst hl0;exact⟨p,hp1,hp2,λw=>by simp⟩
  ·obtain⟨z,hz1,hz2,hz3⟩:=ih (λq hq=>hl q (E7 _ hq)) hl0;obtain⟨c,hc1,hc2,hc3⟩:=h.inv.meets (h.inj o) OH _ p z (zzL8 _) hp1 hz1 hp2 hz2;exact⟨c,hc2,hc3,λw=>by rw[hc1 w,hz3 w];simp⟩
theorem Ready.best(o:Ordered S r n P){t:List Int}{i:Nat}(h:Ready S r n P t i)(hi:i<P.length):Better S r n (pos (r::P)) (Bc t) (P.getD i 0) (Js S n t (P.getD i 0)):=by
 have hy:=M2 hi;have hyr:P.getD i 0≠r:=λe=>(zzL74.1 o.nodup).1 (e▸hy);have hyn:=o.lt (E7 _ hy);obtain⟨p,hp,hyp⟩:=o.fwd i hi;have hp2:=h.done p hp
 have hpP:p∈r::P:=by
  rcases zzL22.1 hp with rfl|hp
  ·exact Jd ..
  ·exact E7 _ (List.mem_of_mem_take hp)
 have hpn:=o.lt hpP
 have hex:∃ z,z<n/\QF S n (Bc t) (P.getD i 0) z:=by
  classical
  obtain⟨z,hz1,hz2,hz3⟩:=h.meetAll o ((List.range n).filter λp=>decide (P.getD i 0∈S p/\Bc t p≠-2)) (λp hp=>by
   obtain⟨h1,h2⟩:=zzL63.1 hp
   exact⟨zzL38.1 h1,(Xk h2).2⟩) (λe=>by
   have:p∈(List.range n).filter λp=>decide (P.getD i 0∈S p/\Bc t p≠-2):=zzL63.2 ⟨zzL38.2 hpn,Ey ⟨hyp,hp2⟩⟩
   rw[e]at this;cases this)
  refine⟨z,hz1,λw=>?_⟩;rw[hz3 w]
  constructor
  ·intro k p hp hyp hpp;exact k p (zzL63.2 ⟨zzL38.2 hp,Ey ⟨hyp,hpp⟩⟩)
  ·intro k p hp;obtain⟨h1,h2⟩:=zzL63.1 hp;exact k p (zzL38.1 h1) (Xk h2).1 (Xk h2).2
 have hb:Js S n t (P.getD i 0)<n/\QF S n (Bc t) (P.getD i 0) (Js S n t (P.getD i 0)):=by
  unfold Js;rw[dif_pos hex];exact Classical.choose_spec hex
 exact⟨h.inv,hyn,hyr,hb.1,hb.2,p,hpn,hyp,hp2,o.at_lt hi hp⟩
theorem Ready.best_eq(o:Ordered S r n P){t:List Int}{i:Nat}(h:Ready S r n P t i)(hi:i<P.length){z:Nat}(hz:z<n)(hz2:Bc t z≠-2)(hb:QF S n (Bc t) (P.getD i 0) z):z=Js S n t (P.getD i 0):=by
 have b:=h.best o hi;exact(h.inv.antisymm ((hb _).2 ((b.best _).1 (.refl _))) ((b.best _).2 ((hb _).1 (.refl _))) hz hz2).symm
theorem Ready.next(o:Ordered S r n P){t:List Int}{i:Nat}(h:Ready S r n P t i)(hi:i<P.length):Ready S r n P (t.set (P.getD i 0) (Js S n t (P.getD i 0):Int)) (i+1):=by
 have b:=h.best o hi;have e:=OD (t:=t) (y:=P.getD i 0) (v:=(Js S n t (P.getD i 0):Int)) (by rw[h.len];exact b.hy);refine⟨by rw[e];exact b.inv',by rw[Hy];exact h.len,λx hx=>?_⟩;rw[e];unfold Kz
 split
 ·omega
 ·rename_i hne
  refine h.done x ?_;rcases zzL22.1 hx with rfl|hx
  ·exact Jd ..
  ·rw[TC hi]at hx;rcases zzL11.1 hx with hx|hx
   ·exact E7 _ hx
   ·rw[zzL14,<- Aa _ _ 0 hi]at hx;exact absurd hx hne
theorem Ready.more(o:Ordered S r n P){t:List Int}(h:Ready S r n P t P.length)(i:Nat):Ready S r n P t i:=
 ⟨h.inv,h.len,λx hx=>h.done x (by
  rw[Vx];rcases zzL22.1 hx with rfl|hx
  ·exact Jd ..
  ·exact E7 _ (List.mem_of_mem_take hx))⟩
theorem Ready.full(o:Ordered S r n P){t:List Int}(h:Ready S r n P t P.length):QG S r n (Bc t):=λx hx hr=>h.done x (by rw[Vx];exact(o.mem x).2 hr)
theorem Ready.round(o:Ordered S r n P){t:List Int}(h:Ready S r n P t 0):∀ i,i<=P.length->Ready S r n P (Ry S n P t i) i:=by
 intro i
 induction i with
 | zero=>intro _;exact h
 | succ i ih=>intro hi;exact(ih (by omega)).next o (by omega)
theorem jP(o:Ordered S r n P):Ready S r n P (Eo n r) 0:=by
 obtain⟨h1,h2,h3⟩:=mH o;exact⟨h1,h2,λx hx=>by simp at hx;subst hx;exact h3⟩
theorem Ready.rounds(o:Ordered S r n P):∀ j,Ready S r n P (BO S n P (Eo n r) j) 0:=by
 intro j
 induction j with
 | zero=>exact jP o
 | succ j ih=>exact((ih.round o) P.length (zzL8 _)).more o 0
theorem Ready.rounds'(o:Ordered S r n P)(j:Nat):Ready S r n P (BO S n P (Eo n r) (j+1)) P.length:=(Ready.rounds o j).round o P.length (zzL8 _)
theorem cV(o:Ordered S r n P){t:List Int}{k:Nat}(h:Ready S r n P t P.length)(q:QB S r n (Bc t) λ_=>k):QB S r n (Bc (Ry S n P t P.length)) λ_=>k+1:=by
 have key:∀ i,i<=P.length->QB S r n (Bc (Ry S n P t i)) (λx=>if x∈P.take i then k+1 else k)/\QG S r n (Bc (Ry S n P t i)):=by
  intro i
  induction i with
  | zero=>intro _;exact⟨by simpa [Ry] using q,h.full o⟩
  | succ i ih=>
   intro hi;obtain⟨q1,f1⟩:=ih (by omega);have rd:=(h.more o 0).round o i (by omega);have b:=rd.best o (by omega);have e:=OD (t:=Ry S n P t i) (y:=P.getD i 0) (v:=(Js S n (Ry S n P t i) (P.getD i 0):Int)) (by rw[rd.len];exact b.hy)
   constructor
   ·show QB S r n (Bc ((Ry S n P t i).set _ _)) _
    rw[e];have:=b.qb (k:=k) o.hS o.hr f1 (λx _=>by split<;>omega) q1;intro x hx hp z hz;refine this x hx hp z ?_
    dsimp only at hz ⊢
    rw[TC (by omega:i<P.length)]at hz
    by_cases e1:x=P.getD i 0
    ·rw[if_pos e1];rwa[if_pos (zzL11.2 (.inr (zzL14.2 (by rw[e1,Aa _ _ _ (by omega:i<P.length)]))))]at hz
    ·rw[if_neg e1]
     by_cases e2:x∈P.take i
     ·rw[if_pos e2];rwa[if_pos (zzL11.2 (.inl e2))]at hz
     ·rw[if_neg e2]
      rwa[if_neg (λhm=>by
       rcases zzL11.1 hm with hm|hm
       ·exact e2 hm
       ·rw[zzL14,<- Aa _ _ 0 (by omega:i<P.length)]at hm;exact e1 hm)]at hz
   ·show QG S r n (Bc ((Ry S n P t i).set _ _))
    rw[e];intro x hx hr;unfold Kz
    split
    ·omega
    ·exact f1 x hx hr
 have q1:=(key P.length (zzL8 _)).1;rw[Vx]at q1;have rd:=(h.more o 0).round o P.length (zzL8 _);intro x hx hp z hz;refine q1 x hx hp z ?_
 dsimp only at hz ⊢
 by_cases e:x∈P
 ·rw[if_pos e];exact hz
 ·rw[if_neg e]
  have hxr:x=r:=by
   rcases zzL22.1 ((o.mem x).2 (rd.inv.rc x hx hp)) with h1|h1
   ·exact h1
   ·exact absurd h1 e
  subst hxr;exact .root hz.av.ne k
def Q0(S:Nat->List Nat)(n:Nat)(P:List Nat)(t:List Int):Prop:=∀ i,i<P.length->Bc t (P.getD i 0)=(Js S n t (P.getD i 0):Int)
theorem S6{t:List Int}(o:Ordered S r n P)(hl:t.length=n)(h:Q0 S n P t):∀ i,i<=P.length->Ry S n P t i=t:=by
 intro i
 induction i with
 | zero=>intro _;rfl
 | succ i ih=>
  intro hi;unfold Ry;rw[ih (by omega),<- h i (by omega)]
  have hlt:P.getD i 0<t.length:=by rw[hl];exact o.lt (E7 _ (M2 (by omega)))
  unfold Bc;rw[Aa _ _ _ hlt];exact List.set_getElem_self hlt
theorem iD(o:Ordered S r n P):∃ J,(∀ j,j<J->¬ Q0 S n P (BO S n P (Eo n r) j))/\Q0 S n P (BO S n P (Eo n r) J):=by
 obtain⟨K,hK⟩:=WE (S:=S) (r:=r) n
 have hq:∀ k,QB S r n (Bc (BO S n P (Eo n r) (k+1))) λ_=>k:=by
  intro k
  induction k with
  | zero=>exact fi (Ready.rounds' o 0).inv
  | succ k ih=>exact cV o (Ready.rounds' o k) ih
 have hst:Q0 S n P (BO S n P (Eo n r) (K+1)):=λi hi=>by
  have rd:=Ready.rounds' o K;exact((rd.more o i).best o hi).same o.hS o.hr (rd.full o) (rd.done _ (E7 _ (by rw[Vx];exact M2 hi))) (bQ rd.inv hK (hq K))
 have key:∀ m,(∃ J,J<=m/\Q0 S n P (BO S n P (Eo n r) J))->∃ J,(∀ j,j<J->¬ Q0 S n P (BO S n P (Eo n r) j))/\Q0 S n P (BO S n P (Eo n r) J):=by
  intro m
  induction m with
  | zero=>rintro⟨J,hJ,h⟩;exact⟨J,λj hj=>by omega,h⟩
  | succ m ih=>
   rintro⟨J,hJ,h⟩
   by_cases hm:∃ J,J<=m/\Q0 S n P (BO S n P (Eo n r) J)
   ·exact ih hm
   ·exact⟨J,λj hj hs=>hm ⟨j,by omega,hs⟩,h⟩
 exact key (K+1) ⟨K+1,zzL8 _,hst⟩
structure DomTree(S:Nat->List Nat)(r n:Nat)(P:List Nat)(t:List Int):Prop where
 inv:Inv S r n (pos (r::P)) (Bc t)
 len:t.length=n
 full:QG S r n (Bc t)
 exact_:TL S r n (Bc t)
theorem Zu(o:Ordered S r n P){j:Nat}(h:Q0 S n P (BO S n P (Eo n r) j)):DomTree S r n P (BO S n P (Eo n r) j):=by
 have rd:=Ready.rounds o j
 have hall:Ready S r n P (BO S n P (Eo n r) j) P.length:=by
  have:=rd.round o P.length (zzL8 _);rwa[S6 o rd.len h P.length (zzL8 _)]at this
 refine⟨rd.inv,rd.len,hall.full o,WV rd.inv o.hS o.hr (hall.full o) λy hy hne hr=>?_⟩
 have hm:y∈P:=by
  rcases zzL22.1 ((o.mem y).2 hr) with h1|h1
  ·exact absurd h1 hne
  ·exact h1
 obtain⟨i,hi,rfl⟩:=K9 hm;have b:=(hall.more o i).best o hi;rw[Aa _ _ _ hi]at b;have hs:=h i hi;rw[Aa _ _ _ hi]at hs;exact⟨_,hs,b.best⟩
end
section
variable {S:Nat->List Nat} {s s':Nat->Bool} {l o:List Nat}
theorem VL.before(h:VL S s l s' o):∀ A z B,o=A++z::B->z∈l\/∃ p∈B,z∈S p:=by
 induction h with
 | nil s=>intro A z B e;simp at e
 | skip h _ ih=>
  intro A z B e;rcases ih A z B e with h1|h1
  ·exact .inl (E7 _ h1)
  ·exact .inr h1
 | @step s s1 s2 y l o1 o2 h a b iha ihb=>
  intro A z B e;rcases List.append_eq_append_iff.1 e with⟨C,hC1,hC2⟩|⟨C,hC1,hC2⟩
  ·
   cases C with
   | nil=>
    simp at hC2;obtain⟨rfl,rfl⟩:=hC2;exact .inl (Jd ..)
   | cons c C=>
    simp at hC2;obtain⟨rfl,hC2⟩:=hC2;rcases ihb C z B hC2 with h1|h1
    ·exact .inl (E7 _ h1)
    ·exact .inr h1
  ·cases C with
   | nil=>
    simp at hC2;obtain⟨rfl,rfl⟩:=hC2;exact .inl (Jd ..)
   | cons c C=>
    simp at hC2;obtain⟨rfl,rfl⟩:=hC2;rcases iha A z C hC1 with h1|⟨p,hp,hz⟩
    ·exact .inr ⟨y,by simp,h1⟩
    ·exact .inr ⟨p,by simp[hp],hz⟩
theorem Ord.ordered{n r:Nat}{L:List Nat}(hr:r<n)(hS:∀ x,x<n->∀ w∈S x,w<n)(h:Ord S r L):∃ P,L=r::P/\Ordered S r n P:=by
 have h1:=h.nodup;have h2:=h.mem;obtain⟨s',o,hv,rfl⟩:=h;refine⟨o.reverse,rfl,hr,hS,h1,λx=>by rw[h2 x,rc_iff],λi hi=>?_⟩
 have hi':i<o.length:=by simpa using hi
 have e:o.reverse=o.reverse.take i++o.reverse[i]::o.reverse.drop (i+1):=by rw[<- Ml hi,List.take_append_drop]
 have e2:o=(o.reverse.drop (i+1)).reverse++o.reverse[i]::(o.reverse.take i).reverse:=by
  have:=B8 List.reverse e;rw[List.reverse_reverse]at this;rw[List.reverse_append,List.reverse_cons]at this
  simpa using this
 rw[Aa _ _ _ hi];rcases hv.before _ _ _ e2 with h3|⟨p,hp,hz⟩
 ·exact⟨r,Jd ..,h3⟩
 ·exact⟨p,E7 _ (zzL93.1 hp),hz⟩
end
def ku(S:Nat->List Nat)(w:Int):Nat->List Nat:=λx=>(S x).filter λy=>decide ((y:Int)≠w)
theorem dB(S:Nat->List Nat):ku S (-1)=S:=by
 funext x
 unfold ku;exact List.filter_eq_self.2 λy _=>Ey (by omega)
theorem gG(S:Nat->List Nat)(z:Nat):ku S (z:Int)=wo S z:=by
 funext x
 unfold ku wo
 congr 1
 funext y
 exact zzL105.2 ⟨λh e=>h (by rw[e]),λh e=>h (U6 e)⟩
def Yp(L:List (List Int))(r:Nat)(w:Int):List Bool:=if(r:Int)=w then List.replicate L.length false else HP (ku (sN L) w) L.length ((List.replicate L.length false).set r true) L.length
theorem cW{L:List (List Int)}(hm:Ln L=true){r:Nat}(hr:r<L.length){b:Nat}:(Yp L r (-1)).getD b false=true↔Rc (sN L) r b:=by
 unfold Yp;rw[if_neg (by omega),dB,W6 (Uz hm) hr b,rc_iff]
theorem SG{L:List (List Int)}(hm:Ln L=true){r:Nat}(hr:r<L.length){a b:Nat}(hb:b<L.length):(Yp L r (a:Int)).getD b false=true↔Av (sN L) r a b:=by
 unfold Yp;rw[av_iff]
 by_cases h:r=a
 ·subst h;rw[if_pos rfl,Nk]
  simp
 ·rw[if_neg (by omega),gG,W6 (S:=wo (sN L) a) (λz hz y hy=>Uz hm z hz y (zzL63.1 hy).1) hr b];simp[h]
def Sv(L:List (List Int))(r a b:Nat):Bool:=(Yp L r (-1)).getD b false&&!(Yp L r (a:Int)).getD b false
theorem OC{L:List (List Int)}(hm:Ln L=true){r a b:Nat}(hr:r<L.length)(hb:b<L.length):Sv L r a b=true↔Rc (sN L) r b/\¬ Av (sN L) r a b:=by
 unfold Sv;rw[A4,On,<- Bool.not_eq_true,cW hm hr,SG hm hr hb]
def NO(L:List (List Int))(r a b:Nat):Bool:=(List.range L.length).all λc=>decide (c=b) || !Sv L r c b || Sv L r c a
def OG(L:List (List Int))(r b:Nat):Nat->Int
 | 0=>-2
 | a+1=>if a≠b/\Sv L r a b=true/\NO L r a b=true then(a:Int) else OG L r b a
def SS(L:List (List Int))(r b:Nat):Int:=if b=r then -1 else OG L r b L.length
def Xe(L:List (List Int))(r:Nat):List Int:=(List.range L.length).map (SS L r)
theorem HY(L:List (List Int))(r:Nat):(Xe L r).length=L.length:=by simp[Xe]
theorem cu{L:List (List Int)}{r b:Nat}(hb:b<L.length):(Xe L r).getD b 0=SS L r b:=by unfold Xe;rw[P7 hb]
theorem pick_cases(L:List (List Int))(r b:Nat):∀ m,(OG L r b m = -2/\∀ a,a<m->¬ (a≠b/\Sv L r a b=true/\NO L r a b=true))\/∃ a,a<m/\OG L r b m=(a:Int)/\a≠b/\Sv L r a b=true/\NO L r a b=true:=by
 intro m
 induction m with
 | zero=>exact .inl ⟨rfl,λa ha=>absurd ha (Mo a)⟩
 | succ m ih=>
  unfold OG
  by_cases h:m≠b/\Sv L r m b=true/\NO L r m b=true
  ·rw[if_pos h];exact .inr ⟨m,by omega,rfl,h⟩
  ·rw[if_neg h];rcases ih with⟨h1,h2⟩|⟨a,h1,h2⟩
   ·refine .inl ⟨h1,λa ha=>?_⟩;rcases zzL116.1 ha with h3|rfl
    ·exact h2 a h3
    ·exact h
   ·exact .inr ⟨a,by omega,h2⟩
theorem DomTree.eq{L:List (List Int)}(hm:Ln L=true){r:Nat}(hr:r<L.length){P t:List _}(o:Ordered (sN L) r L.length P)(h:DomTree (sN L) r L.length P t):t=Xe L r:=by
 refine Yy (by rw[h.len,HY]) λb h1 h2=>?_
 have hb:b<L.length:=by rw[<- h.len];exact h1
 rw[<- Aa _ _ 0 h1,<- Aa _ _ 0 h2,cu hb]
 show Bc t b=_
 have hov:∀ a b,b<L.length->Bc t b≠-2->(Sv L r a b=true↔UpTo (Bc t) b a):=λa b hb hp=>by
  rw[OC hm hr hb,h.exact_ b hb hp];exact⟨λk=>k.2,λk=>⟨h.inv.rc b hb hp,k⟩⟩
 unfold SS
 by_cases hbr:b=r
 ·subst hbr;rw[if_pos rfl];exact h.inv.top
 ·rw[if_neg hbr];rcases h.inv.kind b hb with hk|hk|⟨z,hz⟩
  ·
   have hn:¬ Rc (sN L) r b:=λk=>h.full b hb k hk;rcases pick_cases L r b L.length with⟨h3,_⟩|⟨a,_,_,_,h6,_⟩
   ·rw[hk,h3]
   ·exact absurd ((OC hm hr hb).1 h6).1 hn
  ·exact absurd hk hbr
  ·obtain⟨z1,z2,z3,z4⟩:=h.inv.up b hb z hz
   have hp:Bc t b≠-2:=by omega
   have hzo:Sv L r z b=true:=(hov z b hb hp).2 (.up hz (.refl _))
   have hzb:z≠b:=by rintro rfl;omega
   have hnear:NO L r z b=true:=all_range.2 λc hc=>by
    by_cases e:c=b
    ·simp[e]
    ·cases ho:Sv L r c b with
     | false=>simp
     | true=>
      have:=(hov c b hb hp).1 ho;rcases(anc_up hz).1 this with h3|h3
      ·exact absurd h3 e
      ·rw[(hov c z z1 z2).2 h3];simp
   rcases pick_cases L r b L.length with⟨_,h3⟩|⟨a,h3,h4,h5,h6,h7⟩
   ·exact absurd ⟨hzb,hzo,hnear⟩ (h3 z z1)
   ·rw[h4,hz];have haU:=(hov a b hb hp).1 h6
    have ha1:UpTo (Bc t) z a:=by
     rcases(anc_up hz).1 haU with h8|h8
     ·exact absurd h8 h5
     ·exact h8
    have hap:=(h.inv.anc ha1 z1 z2).2.1
    have hza:UpTo (Bc t) a z:=by
     have:=all_range.1 h7 z z1;simp only[hzo,hzb,decide_false,Fi,ET]at this;exact(hov z a h3 hap).1 this
    rw[h.inv.antisymm ha1 hza z1 z2]
theorem fM{g:Cy}(h:X8 g=true):Ln g.Succ=true/\g=Xu g.Succ:=by
 unfold X8 at h;rw[A4]at h;refine⟨h.1,?_⟩;obtain⟨s,p⟩:=g;have:=Xk h.2;simp only at this;unfold Xu;rw[this]
section
variable {L:List (List Int)} (hm:Ln L=true) {r:Nat} (hr:r<L.length)
include hm hr
omit hr in
omit hr in
omit hm hr in
omit hm hr in
omit hm hr in
omit hr in
omit hr in
end
def PA(g:Cy)(r:Int):List Int:=if X8 g=true/\0<=r/\r<(g.Succ.length:Int) then Xe g.Succ r.toNat else[]
def upD(t:List Int):Nat->Int->Option (List Int)
 | 0,_=>none
 | k+1,a=>if 0<=a/\a<(t.length:Int) then(if t.getD a.toNat 0 = -1 then some [a] else(upD t k (t.getD a.toNat 0)).map λl=>a::l) else none
def En(t:List Int)(a:Int):List Int:=(upD t t.length a).getD []
theorem gD(t:List Int):∀ k a q,upD t k a=some q->q.length<=k/\1<=q.length:=by
 intro k
 induction k with
 | zero=>intro a q h;cases h
 | succ k ih=>
  intro a q h;unfold upD at h
  split at h
  ·split at h
   ·cases h;simp
   ·cases hu:upD t k (t.getD a.toNat 0) with
    | none=>rw[hu]at h;cases h
    | some q'=>rw[hu]at h;cases h;have:=ih _ _ hu;simp;omega
  ·cases h
theorem pathD_nil{t:List Int}{a:Int}:En t a=[]↔upD t t.length a=none:=by
 unfold En
 cases h:upD t t.length a with
 | none=>simp
 | some q=>have:=(gD t _ _ _ h).2;simp;intro e;subst e;simp at this
def Xd(t:List Int)(k:Nat):Nat:=((List.range k).filter λa=>decide (t.getD a 0 = -1)).length
def lT(t:List Int)(a:Nat):Bool:=decide (t.getD a 0 = -2) || !decide (En t (a:Int)=[])
def Io(t:List Int):Bool:=(List.range t.length).all (lT t)&&decide (Xd t t.length=1)
theorem EM(t:List Int)(k:Nat):Xd t (k+1)=Xd t k+if t.getD k 0 = -1 then 1 else 0:=by
 unfold Xd;rw[Y1,LB,E8]
 by_cases h:t.getD k 0 = -1
 ·rw[if_pos h]
  have:List.filter (λa=>decide (t.getD a 0 = -1)) [k]=[k]:=by rw[List.filter_cons,if_pos (Ey h)];rfl
  rw[this];rfl
 ·rw[if_neg h]
  have:List.filter (λa=>decide (t.getD a 0 = -1)) [k]=[]:=by rw[List.filter_cons,if_neg (by simpa using h)];rfl
  rw[this];rfl
def L0(t:List Int)(a b:Int):Int:=if Io t=true then((En t a).find? λx=>(En t b).contains x).getD (-2) else -2
def Ni(t:List Int)(a b:Int):Bool:=L0 t a b==a&&L0 t a b !=-2
section
variable {S:Nat->List Nat} {r n:Nat} {P:List Nat} {t:List Int}
theorem DomTree.up(h:DomTree S r n P t):∀ k x,x<n->Bc t x≠-2->pos (r::P) x<k->∃ q,upD t k (x:Int)=some q/\(∀ w:Int,w∈q↔∃ z:Nat,w=(z:Int)/\UpTo (Bc t) x z) /\
  ∀ p:Int->Bool,(q.find? p=none/\∀ z:Nat,UpTo (Bc t) x z->p (z:Int)=false)\/∃ f:Nat,q.find? p=some (f:Int)/\UpTo (Bc t) x f/\p (f:Int)=true/\∀ z:Nat,UpTo (Bc t) x z->p (z:Int)=true->UpTo (Bc t) f z:=by
 intro k
 induction k with
 | zero=>intro x _ _ hk;exact absurd hk (Mo _)
 | succ k ih=>
  intro x hx hp hk
  have hxt:(0:Int)<=(x:Int)/\(x:Int)<(t.length:Int):=by rw[h.len];omega
  unfold upD;rw[if_pos hxt,A5];have hpx:t.getD x 0=Bc t x:=rfl;rw[hpx];rcases h.inv.kind x hx with h1|rfl|⟨z,hz⟩
  ·exact absurd h1 hp
  ·rw[if_pos h.inv.top];refine⟨_,rfl,λw=>?_,λp=>?_⟩
   ·rw[zzL14]
    constructor
    ·rintro rfl;exact⟨x,rfl,.refl _⟩
    ·rintro⟨z,rfl,hz⟩;rw[h.inv.root_anc.1 hz]
   ·cases hpp:p (x:Int) with
    | false=>exact .inl ⟨by simp[List.find?,hpp],λz hz=>by rw[h.inv.root_anc.1 hz];exact hpp⟩
    | true=>exact .inr ⟨x,by simp[List.find?,hpp],.refl _,hpp,λz hz _=>hz⟩
  ·obtain⟨z1,z2,z3,z4⟩:=h.inv.up x hx z hz;rw[hz,if_neg (by omega)];obtain⟨q,hq1,hq2,hq3⟩:=ih z z1 z2 (by omega);rw[hq1];refine⟨(x:Int)::q,rfl,λw=>?_,λp=>?_⟩
   ·rw[zzL22,hq2 w]
    constructor
    ·rintro(rfl|⟨y,rfl,hy⟩)
     ·exact⟨x,rfl,.refl _⟩
     ·exact⟨y,rfl,.up hz hy⟩
    ·rintro⟨y,rfl,hy⟩;rcases(anc_up hz).1 hy with rfl|hy
     ·exact .inl rfl
     ·exact .inr ⟨y,rfl,hy⟩
   ·cases hpp:p (x:Int) with
    | true=>exact .inr ⟨x,by simp[List.find?,hpp],.refl _,hpp,λy hy _=>hy⟩
    | false=>
     have hf:((x:Int)::q).find? p=q.find? p:=by simp[List.find?,hpp]
     rw[hf];rcases hq3 p with⟨e1,e2⟩|⟨f,e1,e2,e3,e4⟩
     ·refine .inl ⟨e1,λy hy=>?_⟩;rcases(anc_up hz).1 hy with rfl|hy
      ·exact hpp
      ·exact e2 y hy
     ·refine .inr ⟨f,e1,.up hz e2,e3,λy hy hpy=>?_⟩;rcases(anc_up hz).1 hy with rfl|hy
      ·rw[hpp]at hpy;cases hpy
      ·exact e4 y hy hpy
theorem Ordered.pos_lt(o:Ordered S r n P){x:Nat}(hx:x∈r::P):pos (r::P) x<n:=by
 obtain⟨j,hj,rfl⟩:=K9 hx;rw[(BL o.nodup hj).2];have:=Lo n (r::P) o.nodup λy hy=>o.lt hy;omega
theorem DomTree.path(h:DomTree S r n P t)(o:Ordered S r n P){x:Nat}(hx:x<n)(hp:Bc t x≠-2):En t (x:Int)≠[]/\(∀ w:Int,w∈En t (x:Int)↔∃ z:Nat,w=(z:Int)/\UpTo (Bc t) x z) /\
  ∀ p:Int->Bool,((En t (x:Int)).find? p=none/\∀ z:Nat,UpTo (Bc t) x z->p (z:Int)=false)\/∃ f:Nat,(En t (x:Int)).find? p=some (f:Int)/\UpTo (Bc t) x f/\p (f:Int)=true/\∀ z:Nat,UpTo (Bc t) x z->p (z:Int)=true->UpTo (Bc t) f z:=by
 have hm:=(o.mem x).2 (h.inv.rc x hx hp);obtain⟨q,h1,h2,h3⟩:=h.up n x hx hp (o.pos_lt hm)
 have e:En t (x:Int)=q:=by unfold En;rw[h.len,h1];rfl
 rw[e];refine⟨λe=>?_,h2,h3⟩;have:=(h2 (x:Int)).2 ⟨x,rfl,.refl _⟩;rw[e]at this
 cases this
theorem DomTree.nopath(h:DomTree S r n P t){x:Nat}(hx:x<n)(hp:Bc t x = -2):En t (x:Int)=[]:=by
 rw[pathD_nil]
 cases hl:t.length with
 | zero=>rfl
 | succ k=>
  unfold upD;rw[if_pos ⟨by omega,by rw[h.len];omega⟩,A5,show t.getD x 0=Bc t x from rfl,hp,if_neg (by omega)]
  cases k with
  | zero=>rfl
  | succ k=>unfold upD;rw[if_neg (by omega)];rfl
theorem DomTree.right(h:DomTree S r n P t)(o:Ordered S r n P):Io t=true:=by
 unfold Io;rw[A4]
 constructor
 ·refine all_range.2 λx hx=>?_;rw[h.len]at hx;unfold lT
  by_cases hp:Bc t x = -2
  ·rw[show t.getD x 0=Bc t x from rfl,hp];rfl
  ·rw[Fh (h.path o hx hp).1];simp
 ·apply Ey
  have key:∀ k,k<=n->Xd t k=if r<k then 1 else 0:=by
   intro k
   induction k with
   | zero=>intro _;rfl
   | succ k ih=>
    intro hk;rw[EM,ih (by omega)]
    have hr:t.getD k 0 = -1↔k=r:=by
     constructor
     ·intro he;rcases h.inv.kind k (by omega) with h1|h1|⟨z,hz⟩
      ·rw[show t.getD k 0=Bc t k from rfl,h1]at he;omega
      ·exact h1
      ·rw[show t.getD k 0=Bc t k from rfl,hz]at he;omega
     ·rintro rfl;exact h.inv.top
    by_cases hkr:k=r
    ·subst hkr;rw[if_neg (by omega),if_pos (hr.2 rfl),if_pos (by omega)]
    ·rw[if_neg (λe=>hkr (hr.1 e))]
     by_cases h2:r<k
     ·rw[if_pos h2,if_pos (by omega)]
     ·rw[if_neg h2,if_neg (by omega)]
  rw[h.len,key n (zzL8 _),if_pos o.hr]
theorem DomTree.meet(h:DomTree S r n P t)(o:Ordered S r n P){a b:Nat}(ha:a<n)(hb:b<n)(hpa:Bc t a≠-2)(hpb:Bc t b≠-2):∃ m:Nat,L0 t (a:Int) (b:Int)=(m:Int)/\MeetAt (Bc t) a b m/\m<n/\Bc t m≠-2:=by
 have rd:Ready S r n P t P.length:=⟨h.inv,h.len,λx hx=>by rw[Vx]at hx;exact h.full x (o.lt hx) ((o.mem x).1 hx)⟩;obtain⟨c,hc1,hc2,hc3⟩:=h.inv.meets (rd.inj o) OH _ a b (zzL8 _) ha hb hpa hpb;refine⟨c,?_,hc1,hc2,hc3⟩;unfold L0;rw[if_pos (h.right o)];obtain⟨hca,hcb⟩:=(hc1 c).1 (.refl _)
 have hin:∀ z:Nat,(En t (b:Int)).contains (z:Int)=true↔UpTo (Bc t) b z:=λz=>by
  rw[EU,(h.path o hb hpb).2.1]
  constructor
  ·rintro⟨y,hy,hu⟩;cases U6 hy;exact hu
  ·intro hu;exact⟨z,rfl,hu⟩
 rcases(h.path o ha hpa).2.2 λx=>(En t (b:Int)).contains x with⟨_,h2⟩|⟨f,h1,h2,h3,h4⟩
 ·have:=h2 c hca;rw[(hin c).2 hcb]at this
  cases this
 ·rw[h1];have hfc:=h4 c hca ((hin c).2 hcb);have hcf:=(hc1 f).2 ⟨h2,(hin f).1 h3⟩;rw[h.inv.antisymm hcf hfc hc2 hc3]
  rfl
theorem DomTree.meet_none(h:DomTree S r n P t)(o:Ordered S r n P){a b:Nat}(ha:a<n)(hb:b<n)(hp:Bc t a = -2\/Bc t b = -2):L0 t (a:Int) (b:Int) = -2:=by
 unfold L0;rw[if_pos (h.right o)];rcases hp with hp|hp
 ·rw[h.nopath ha hp];rfl
 ·rw[h.nopath hb hp]
  have:(En t (a:Int)).find? (λx=>([]:List Int).contains x)=none:=List.find?_eq_none.2 λx _=>by simp
  rw[this];rfl
theorem DomTree.over(h:DomTree S r n P t)(o:Ordered S r n P){a b:Nat}(ha:a<n)(hb:b<n):Ni t (a:Int) (b:Int)=true↔Bc t b≠-2/\UpTo (Bc t) b a:=by
 unfold Ni;rw[A4,zzL72,zzL90]
 by_cases hpa:Bc t a = -2
 ·rw[h.meet_none o ha hb (.inl hpa)]
  constructor
  ·rintro⟨h1,_⟩;omega
  ·rintro⟨h1,h2⟩;exact absurd hpa (h.inv.anc h2 hb h1).2.1
 ·by_cases hpb:Bc t b = -2
  ·rw[h.meet_none o ha hb (.inr hpb)]
   constructor
   ·rintro⟨h1,_⟩;omega
   ·rintro⟨h1,_⟩;exact absurd hpb h1
  ·obtain⟨m,hm1,hm2,hm3,hm4⟩:=h.meet o ha hb hpa hpb;rw[hm1]
   constructor
   ·rintro⟨h1,_⟩;have h1:=U6 h1;subst h1;exact⟨hpb,((hm2 _).1 (.refl _)).2⟩
   ·rintro⟨_,h2⟩;have:=(hm2 a).2 ⟨.refl _,h2⟩;have h3:=((hm2 m).1 (.refl _)).1;rw[h.inv.antisymm h3 this ha hpa];exact⟨rfl,by omega⟩
theorem DomTree.over_dom(h:DomTree S r n P t)(o:Ordered S r n P){a b:Nat}(ha:a<n)(hb:b<n):Ni t (a:Int) (b:Int)=true↔Rc S r b/\¬ Av S r a b:=by
 rw[h.over o ha hb]
 constructor
 ·rintro⟨h1,h2⟩;exact⟨h.inv.rc b hb h1,(h.exact_ b hb h1 a).1 h2⟩
 ·rintro⟨h1,h2⟩;have:=h.full b hb h1;exact⟨this,(h.exact_ b hb this a).2 h2⟩
end
section
variable {L:List (List Int)} (hm:Ln L=true) {r:Nat} (hr:r<L.length)
include hm hr
theorem YG:∃ P,Ord (sN L) r (r::P)/\Ordered (sN L) r L.length P/\DomTree (sN L) r L.length P (Xe L r):=by
 obtain⟨O,hO⟩:=Ord.exist (Uz hm) hr;obtain⟨P,rfl,o⟩:=hO.ordered hr (Uz hm);obtain⟨J,_,hJ⟩:=iD o;have hd:=Zu o hJ;refine⟨P,hO,o,?_⟩;rw[<- hd.eq hm hr o];exact hd
end
theorem XD{X:Type}(n:Nat)(p:Nat->Bool)(f:Int->Option (LR Int X))(yes no:X)(hn:∀ i:Nat,i<n->p i=true->f (i:Int)=some (.next ((i:Int)+1)))
  (hf:∀ i:Nat,i<n->p i=false->f (i:Int)=some (.done no)) (he:f (n:Int)=some (.done yes)):Aj f (0:Int)=some (bif (List.range n).all p then yes else no):=by
 have hg:∀ i,i<(List.range n).length->(List.range n).getD i 0=i:=λi hi=>by rw[Aa _ _ _ hi];simp
 have:=Sg (List.range n) 0 p f yes no (λi hi hp=>by rw[hg i hi]at hp;exact hn i (by simpa using hi) hp) (λi hi hp=>by rw[hg i hi]at hp;exact hf i (by simpa using hi) hp) (by simpa using he) n 0 (by simp);rw[show(0:Int)=((0:Nat):Int) from rfl,this,K1]
theorem ZY{n:Nat}{p:Nat->Bool}(h:(List.range n).all p=true):∀ i,i<n->p i=true:=λi hi=>zzL27.1 h i (by simpa using hi)
def Qp(L:List (List Int)):List Bool:=HP (sN L) L.length ((List.replicate L.length false).set 0 true) L.length
def Ha(l:List Int)(p:Fy):Bool:=decide (p.From=l)&&((p.Args.length:Int)==(l.length:Int))
def Px(L:List (List Int))(b:Ag)(i:Nat):Bool:=(Qp L).getD i false&&!((b.End.Kind==1 || b.End.Kind==3)&&(b.End.Arg !=0))&&b.Phis.all (Ha ((Ff L).getD i []))
def F8(f:Ab):Bool:=Nn f&&(List.range f.Blocks.length).all λi=>Px (El f) (f.Blocks.getD i default) i
theorem W9(f:Ab):(El f).length=f.Blocks.length:=by simp[El]
theorem YE{f:Ab}(h:F8 f=true):fe f:=λb hb p hp=>by
 simp only[F8,A4]at h;obtain⟨i,hi,rfl⟩:=K9 hb;have h1:=ZY h.2 i hi;rw[Aa _ _ _ hi]at h1;simp only[Px,A4]at h1;have h2:=zzL27.1 h1.2 p hp;simp only[Ha,A4,Du,zzL72]at h2;rw[h2.1];omega
def Kv(l:List TDef)(i:Nat):Bool:=valS (l.getD i default).V&&(Ia l (l.getD i default).V==(i:Int))
def Kw(l:List TDef)(u:Mq):Bool:=!decide (Ia l u.V<0)
def defOf(l:List TDef)(v:Int):TDef:=l.getD (Ia l v).toNat default
def Ww(l:List TDef)(u:Mq):Bool:=((defOf l u.V).Shape.1==u.Shape.1)&&(((defOf l u.V).Shape.2==u.Shape.2)&&true)
def Uu(l:List TDef)(t:List Int)(u:Mq):Bool:=
 (decide ((defOf l u.V).Block<0) || ((defOf l u.V).Block==u.Block&&decide ((defOf l u.V).At<u.At))) || (!((defOf l u.V).Block==u.Block)&&!(L0 t (defOf l u.V).Block u.Block !=(defOf l u.V).Block))
def Bx(f:Ab):List Int:=PA (Xu (El f)) 0
def KY(f:Ab)(l:Int):Int:=
 bif !F8 f then 5 else bif !O7 f l then 6 else bif !(List.range (Au f).length).all (Kv (Au f)) then 7 else bif !(Dy f).all (Kw (Au f)) then 7 else
 bif !(Dy f).all (Ww (Au f)) then 6 else bif !(Dy f).all (Uu (Au f) (Bx f)) then 7 else 0
def E9(f:Ab)(l:Int):Int:=bif decide (l<0) || decide (2<l) then 1 else bif !Qf f then 4 else KY f l
theorem MS{l:List TDef}{v:Int}(h:¬ Ia l v<0):B9 (Ia l v) l.length:=by
 unfold Ia at h ⊢
 cases hx:l.findIdx? (λd=>d.V==v) with
 | none=>rw[hx]at h;exact absurd (by decide) h
 | some i=>
  obtain⟨hi,_⟩:=List.findIdx?_eq_some_iff_getElem.1 hx;exact Bb hi
theorem cw{f:Ab}(h:Nn f=true):(Bx f).length<=1000:=by
 have h1:=(X9 (Sy h)).1;unfold Bx PA
 split
 ·rw[HY];show(El f).length<=1000;omega
 ·simp
def grow(n d:Int):Int:=bif decide (n<d) then d else n
def Sm(f:Ab):Prop:=de f/\Do f=some true
theorem kq{f:Ab}(h:Sm f)(hm:Qf f=true):OkF f:=by
 obtain⟨sm,h1,h2⟩:=OV f h.1;rw[h.2]at h1;exact(h2 (OI h1).symm hm).1
structure ZL(f:Ab)(s:List (Int×(Int×Int))):Prop where
 none:E9 f 2≠0->s.length=0
 len:E9 f 2=0->s.length=(Au f).length
 get:E9 f 2=0->∀ d∈Au f,mget ((0:Int),(0:Int)) s d.V=d.Shape
 has:E9 f 2=0->∀ v,B0 s v=true->∃ d∈Au f,d.V=v
theorem kp{f:Ab}(hf:de f)(h0:f.Params.length<=64)(hb:∀ b∈f.Blocks,b.End.To.length<=64/\(∀ p∈b.Phis,p.From.length<=64/\p.Args.length<=64)/\∀ o∈b.Ops,o.Args.length<=64)(he:WS f<=20000):Sm f:=
 ⟨hf,by rw[OU f hf h0 hb,Ey he]⟩
def EB(f:Ab):Int:=
 bif !(List.range (Au f).length).all (Kv (Au f)) then 7 else bif !(Dy f).all (Kw (Au f)) then 7 else
 bif !(Dy f).all (Ww (Au f)) then 6 else bif !(Dy f).all (Uu (Au f) (Bx f)) then 7 else 0
theorem M5{f:Ab}{l:Int}(h0:0<=l)(h2:l<=2):E9 f l=0↔Qf f=true/\F8 f=true/\O7 f l=true/\EB f=0:=by
 unfold E9 KY;rw[Fh (show ¬ l<0 by omega),Fh (show ¬ 2<l by omega)]
 show _↔_/\_/\_/\EB f=0
 have e:(bif !(List.range (Au f).length).all (Kv (Au f)) then(7:Int) else bif !(Dy f).all (Kw (Au f)) then 7 else
  bif !(Dy f).all (Ww (Au f)) then 6 else bif !(Dy f).all (Uu (Au f) (Bx f)) then 7 else 0)=EB f:=rfl
 rw[e]
 cases Qf f<;>cases F8 f<;>cases O7 f l<;>simp
theorem bn{o:Bv}(h:Hq o=true):1<=o.Lanes:=by
 simp only[Hq,A4]at h;have:=Ol h.1.1;omega
theorem f9{α:Type}(l:List α)(g:α->Nat):(l.map λa=>g a+1).sum=l.length+(l.map g).sum:=by
 induction l with
 | nil=>rfl
 | cons a l ih=>simp only[Bs,U7,ih,Oo];omega
theorem c9(a b:Int):Bh (a+Bh b)=Bh (a+b):=by rw[Int.add_comm,VC,Int.add_comm]
theorem kv(f:Ab)(hf:de f):Oa f=some (sizeW f):=by
 have hl:=GZ f.Blocks (default:Ag) (λb=>b.Phis.length+b.Ops.length) id (Kl f) (λn i hi=>?_) (λn=>?_) f.Blocks.length 0 f.Blocks.length (Fx _)
 ·unfold Oa;rw[BR (by have:=hf.blocks;rw[I4]at this;omega),show((0:Nat):Int)=0 from rfl]at hl;rw[hl,Ay,K1,sizeW,Om,show(sizeB:Ag->Nat)=(λb=>(b.Phis.length+b.Ops.length)+1) from rfl,f9]
  rfl
 ·have e1:decide ((i:Int)<(f.Blocks.length:Int))=true:=Ey (by omega);unfold Kl;simp only[e1,Ae,Ar (Bb hi),Dg,Ir hi hf.blocks,c9,VC];rw[show(n:Int)+(((f.Blocks.getD i default).Phis.length:Int)+((f.Blocks.getD i default).Ops.length:Int))=((n+((f.Blocks.getD i default).Phis.length+(f.Blocks.getD i default).Ops.length):Nat):Int) by omega]
 ·have e1:decide ((f.Blocks.length:Int)<(f.Blocks.length:Int))=false:=by simp
  unfold Kl;simp only[e1,A0,id]
theorem V6{α:Type}(l:List α)(d:α)(p:α->Bool)(f:Int->Option (LR Int (Unit ⊕ Bool)))(hn:∀ i:Nat,i<l.length->f i=bif p (l.getD i d) then some (.next ((i:Int)+1)) else some (.done (.inr false)))
  (he:f l.length=some (.done (.inl ()))):Aj f 0=some (bif l.all p then .inl () else .inr false):=by
 have:=Sg l d p f (.inl ()) (.inr false) (λi hi hp=>by rw[hn i hi,hp];rfl) (λi hi hp=>by rw[hn i hi,hp];rfl) he l.length 0 (Fx _)
 simpa using this
theorem XM(x:Int):(bif decide (x<0) then true else decide (2147483647<x)) = !numB x:=by
 unfold numB
 by_cases h1:x<0
 ·have:¬ 0<=x:=by omega
  simp[h1,this]
 ·by_cases h2:2147483647<x
  ·have:¬ x<=2147483647:=by omega
   simp[h1,h2,this]
  ·have h3:0<=x:=by omega
   have h4:x<=2147483647:=by omega
   simp[h1,h2,h3,h4]
theorem IB(l:List Int)(h:l.length<=maxLen):Cw l=some (l.all numB):=by
 have hl:=V6 l 0 numB (Gl l) (λi hi=>?_) ?_
 ·unfold Cw;rw[hl]
  cases l.all numB<;>rfl
 ·have e1:decide ((i:Int)<(l.length:Int))=true:=Ey (by omega);unfold Gl;simp only[e1,Ae,Ar (Bb hi),Dg,XM,Ir hi h]
  cases numB (l.getD i 0)<;>simp
 ·unfold Gl
  simp
theorem Ud(l:List Int)(h:l.length<=maxLen):Fa l=some (Lz l):=by
 unfold Fa;rw[IB l h]
 by_cases h1:l.length<=64
 ·have e1:decide ((l.length:Int)<=64)=true:=Ey (by omega);rw[e1];simp[Lz,h1]
 ·have e1:decide ((l.length:Int)<=64)=false:=Fh (by omega);rw[e1];simp[Lz,h1]
theorem Ua{l:List Int}(h:l.length<=10):l.length<=maxLen:=by rw[I4];omega
theorem dF(p:Fy)(h1:p.From.length<=maxLen)(h2:p.Args.length<=maxLen):Kn p=some (FS p):=by
 unfold Kn FS;rw[IB _ (Ua (by simp)),Ud _ h1,Ud _ h2];simp only[Oq,List.all_nil,Y2]
 cases numB p.Bits<;>cases numB p.Dst<;>cases Lz p.From<;>cases Lz p.Args<;>rfl
theorem gH(o:Bv)(h1:o.Args.length<=maxLen):Lu o=some (LL o):=by
 unfold Lu LL;rw[IB _ (Ua (by simp)),Ud _ h1];simp only[Oq,List.all_nil,Y2]
 cases numB o.Kind<;>cases numB o.Bits<;>cases numB o.Lanes<;>cases numB o.Dst<;>cases Lz o.Args<;>rfl
theorem dD(e:H1)(h1:e.To.length<=maxLen):Km e=some (MO e):=by
 unfold Km MO;rw[IB _ (Ua (by simp)),Ud _ h1];simp only[Oq,List.all_nil,Y2]
 cases numB e.Kind<;>cases numB e.Arg<;>cases Lz e.To<;>rfl
theorem DD{X:Type}(b:Bool)(x y:X):(bif !b then x else y)=bif b then y else x:=by cases b<;>rfl
theorem YJ(l:List Fy)(hl:l.length<=maxLen)(h:∀ p∈l,p.From.length<=maxLen/\p.Args.length<=maxLen):F6 l=some (l.all FS):=by
 have hl':=V6 l (default:Fy) FS (Et l) (λi hi=>?_) ?_
 ·unfold F6;rw[hl']
  cases l.all FS<;>rfl
 ·have e1:decide ((i:Int)<(l.length:Int))=true:=Ey (by omega);have:=h _ (getD_mem (d:=(default:Fy)) hi);unfold Et;simp only[e1,Ae,Ar (Bb hi),Dg,dF _ this.1 this.2,Ay,DD,Ir hi hl,Int.natCast_add,Int.natCast_one]
 ·unfold Et
  simp
theorem dE(l:List Bv)(hl:l.length<=maxLen)(h:∀ o∈l,o.Args.length<=maxLen):Gk l=some (l.all LL):=by
 have hl':=V6 l (default:Bv) LL (E5 l) (λi hi=>?_) ?_
 ·unfold Gk;rw[hl']
  cases l.all LL<;>rfl
 ·have e1:decide ((i:Int)<(l.length:Int))=true:=Ey (by omega);have:=h _ (getD_mem (d:=(default:Bv)) hi);unfold E5;simp only[e1,Ae,Ar (Bb hi),Dg,gH _ this,Ay,DD,Ir hi hl,Int.natCast_add,Int.natCast_one]
 ·unfold E5
  simp
theorem SV(b:Ag)(h1:b.Phis.length<=maxLen)(h2:b.Ops.length<=maxLen)(h3:b.End.To.length<=maxLen)(h4:∀ p∈b.Phis,p.From.length<=maxLen/\p.Args.length<=maxLen)(h5:∀ o∈b.Ops,o.Args.length<=maxLen):Iy b=some (blockB b):=by
 unfold Iy blockB;rw[YJ _ h1 h4,dE _ h2 h5,dD _ h3]
 cases b.Phis.all FS<;>cases b.Ops.all LL<;>cases MO b.End<;>rfl
theorem PG(f:Ab)(hf:de f):E4 f.Blocks=some (f.Blocks.all blockB):=by
 have hl':=V6 f.Blocks (default:Ag) blockB (D6 f.Blocks) (λi hi=>?_) ?_
 ·unfold E4;rw[hl']
  cases f.Blocks.all blockB<;>rfl
 ·have e1:decide ((i:Int)<(f.Blocks.length:Int))=true:=Ey (by omega);have hm:=getD_mem (d:=(default:Ag)) hi;have q:=hf.block _ hm;unfold D6;simp only[e1,Ae,Ar (Bb hi),Dg,SV _ q.1 q.2.1 q.2.2 (hf.phi _ hm) (λo ho=>(hf.op _ hm o ho).1),Ay,DD,Ir hi hf.blocks,Int.natCast_add,Int.natCast_one]
 ·unfold D6
  simp
theorem mN(f:Ab)(hf:de f):Qb f=some (Qf f):=by
 unfold Qb Qf;rw[kv f hf,IB _ hf.params,IB _ (Ua (by simp)),PG f hf];simp only[Oq,List.all_nil,Y2,Lz]
 have d1:∀ n:Nat,decide ((n:Int)<1) = !decide (1<=n):=λn=>by by_cases h:1<=n<;>simp[h]<;>omega
 have d2:∀ n:Nat,decide ((64:Int)<(n:Int)) = !decide (n<=64):=λn=>by by_cases h:n<=64<;>simp[h]<;>omega
 have d3:∀ n:Nat,decide ((16:Int)<(n:Int)) = !decide (n<=16):=λn=>by by_cases h:n<=16<;>simp[h]<;>omega
 have d4:∀ n:Int,decide ((512:Int)<n) = !decide (n<=512):=λn=>by by_cases h:n<=512<;>simp[h]<;>omega
 simp only[d1,d2,d3,d4]
 have himp:decide (f.Params.length<=16)=true->decide (f.Params.length<=64)=true:=λh=>by simp at h ⊢;omega
 revert himp
 generalize decide (1<=f.Blocks.length)=c1
 generalize decide (f.Blocks.length<=64)=c2
 generalize decide (f.Params.length<=16)=c3
 generalize decide (f.Params.length<=64)=c4
 generalize f.Params.all numB=c6
 generalize numB f.Ret=c7
 generalize f.Blocks.all blockB=c8
 cases c3 with
 | true=>
  intro h;obtain rfl:=h rfl;simp only[Fi,Pq,Ae,Ay,A0]
  generalize decide (sizeW f<=512)=c5
  cases c1<;>cases c2<;>cases c6<;>cases c7<;>cases c8<;>cases c5<;>rfl
 | false=>
  intro _
  cases c1<;>cases c2<;>rfl
inductive Tp (t:List Int):Nat->Nat->Nat->Prop
 | top {x:Nat} (hx:x<t.length) (h:t.getD x 0 = -1):Tp t x x 0
 | up {x y r k:Nat} (hx:x<t.length) (h:t.getD x 0=(y:Int)) (hk:Tp t y r k):Tp t x r (k+1)
section
variable {t:List Int}
theorem Tp.lt{x r k:Nat}(h:Tp t x r k):x<t.length:=by cases h<;>assumption
theorem Tp.tops{x r k:Nat}(h:Tp t x r k):r<t.length/\t.getD r 0 = -1:=by
 induction h with
 | top hx h=>exact⟨hx,h⟩
 | up _ _ _ ih=>exact ih
theorem Tp.det{x r k r' k':Nat}(h:Tp t x r k)(h':Tp t x r' k'):r=r'/\k=k':=by
 induction h generalizing k' with
 | top hx h=>cases h' with
  | top=>exact⟨rfl,rfl⟩
  | up _ h2 _=>omega
 | up hx h1 _ ih=>cases h' with
  | top _ h2=>omega
  | up _ h2 k2=>
   have:_=_:=h1.symm.trans h2
   cases U6 this
   obtain⟨e1,e2⟩:=ih k2;exact⟨e1,by omega⟩
theorem Tp.upTo{x r k:Nat}(h:Tp t x r k):UpTo (Bc t) x r:=by
 induction h with
 | top=>exact .refl _
 | up _ h _ ih=>exact .up h ih
theorem Tp.on{x r k z:Nat}(h:Tp t x r k)(hz:UpTo (Bc t) x z):∃ j,j<=k/\Tp t z r j/\(j=k->z=x):=by
 induction hz generalizing k with
 | refl x=>exact⟨k,zzL8 _,h,λ_=>rfl⟩
 | up hp _ ih=>
  cases h with
  | top _ h2=>have:_=_:=hp.symm.trans h2;omega
  | up _ h2 k2=>
   have:_=_:=hp.symm.trans h2
   cases U6 this
   obtain⟨j,h1,h3,_⟩:=ih k2;exact⟨j,by omega,h3,λe=>by omega⟩
theorem Tp.anti{x r k z:Nat}(h:Tp t x r k)(h1:UpTo (Bc t) x z)(h2:UpTo (Bc t) z x):z=x:=by
 obtain⟨j,j1,j2,j3⟩:=h.on h1;obtain⟨i,i1,i2,i3⟩:=j2.on h2;have:=h.det i2;exact j3 (by omega)
theorem Tp.list{x r k:Nat}(h:Tp t x r k):∃ l:List Nat,l.length=k+1/\l.Nodup/\∀ y∈l,y<t.length/\∃ j,j<=k/\Tp t y r j:=by
 induction h with
 | top hx h=>exact⟨[_],rfl,by simp,λy hy=>by rw[zzL14.1 hy];exact⟨hx,0,zzL8 _,.top hx h⟩⟩
 | @up x y r k hx h hk ih=>
  obtain⟨l,h1,h2,h3⟩:=ih;refine⟨x::l,by simp[h1],zzL74.2 ⟨λhm=>?_,h2⟩,λz hz=>?_⟩
  ·obtain⟨_,j,hj,hj2⟩:=h3 _ hm;have:=(Tp.up hx h hk).det hj2;omega
  ·rcases zzL22.1 hz with rfl|hz
   ·exact⟨hx,k+1,zzL8 _,.up hx h hk⟩
   ·obtain⟨e1,j,e2,e3⟩:=h3 z hz;exact⟨e1,j,by omega,e3⟩
theorem Tp.short{x r k:Nat}(h:Tp t x r k):k<t.length:=by
 obtain⟨l,h1,h2,h3⟩:=h.list;have:=Lo t.length l h2 λy hy=>(h3 y hy).1;omega
theorem Tp.upD{x r k:Nat}(h:Tp t x r k):∀ m,k<m->∃ q,upD t m (x:Int)=some q/\(∀ w:Int,w∈q↔∃ z:Nat,w=(z:Int)/\UpTo (Bc t) x z) /\
  ∀ p:Int->Bool,(q.find? p=none/\∀ z:Nat,UpTo (Bc t) x z->p (z:Int)=false)\/∃ f:Nat,q.find? p=some (f:Int)/\UpTo (Bc t) x f/\p (f:Int)=true/\∀ z:Nat,UpTo (Bc t) x z->p (z:Int)=true->UpTo (Bc t) f z:=by
 induction h with
 | @top x hx h=>
  intro m hm;obtain⟨m,rfl⟩:∃ i,m=i+1:=⟨m-1,by omega⟩
  have htop:∀ z,UpTo (Bc t) x z↔z=x:=λz=>AX λp hp=>by have:_=_:=hp.symm.trans h;omega
  unfold Go.Proofs.YtiendmljhgbjoaaGreat.upD;rw[if_pos ⟨by omega,by omega⟩,A5,if_pos h];refine⟨_,rfl,λw=>?_,λp=>?_⟩
  ·rw[zzL14]
   constructor
   ·rintro rfl;exact⟨x,rfl,.refl _⟩
   ·rintro⟨z,rfl,hz⟩;rw[(htop z).1 hz]
  ·cases hpp:p (x:Int) with
   | false=>exact .inl ⟨by simp[List.find?,hpp],λz hz=>by rw[(htop z).1 hz];exact hpp⟩
   | true=>exact .inr ⟨x,by simp[List.find?,hpp],.refl _,hpp,λz hz _=>hz⟩
 | @up x y r k hx h hk ih=>
  intro m hm;obtain⟨m,rfl⟩:∃ i,m=i+1:=⟨m-1,by omega⟩;unfold Go.Proofs.YtiendmljhgbjoaaGreat.upD;rw[if_pos ⟨by omega,by omega⟩,A5,if_neg (by omega),h];obtain⟨q,hq1,hq2,hq3⟩:=ih m (by omega);rw[hq1];refine⟨(x:Int)::q,rfl,λw=>?_,λp=>?_⟩
  ·rw[zzL22,hq2 w]
   constructor
   ·rintro(rfl|⟨y,rfl,hy⟩)
    ·exact⟨x,rfl,.refl _⟩
    ·exact⟨y,rfl,.up h hy⟩
   ·rintro⟨y,rfl,hy⟩;rcases(anc_up h).1 hy with rfl|hy
    ·exact .inl rfl
    ·exact .inr ⟨y,rfl,hy⟩
  ·cases hpp:p (x:Int) with
   | true=>exact .inr ⟨x,by simp[List.find?,hpp],.refl _,hpp,λy hy _=>hy⟩
   | false=>
    have hf:((x:Int)::q).find? p=q.find? p:=by simp[List.find?,hpp]
    rw[hf];rcases hq3 p with⟨e1,e2⟩|⟨f,e1,e2,e3,e4⟩
    ·refine .inl ⟨e1,λy hy=>?_⟩;rcases(anc_up h).1 hy with rfl|hy
     ·exact hpp
     ·exact e2 y hy
    ·refine .inr ⟨f,e1,.up h e2,e3,λy hy hpy=>?_⟩;rcases(anc_up h).1 hy with rfl|hy
     ·rw[hpp]at hpy;cases hpy
     ·exact e4 y hy hpy
theorem jV:∀ m (a:Int) q,upD t m a=some q->∃ x r k:Nat,a=(x:Int)/\k<m/\Tp t x r k:=by
 intro m
 induction m with
 | zero=>intro a q h;cases h
 | succ m ih=>
  intro a q h;unfold Go.Proofs.YtiendmljhgbjoaaGreat.upD at h
  by_cases ha:0<=a/\a<(t.length:Int)
  ·rw[if_pos ha]at h;have e:((a.toNat:Nat):Int)=a:=U5 ha.1
   by_cases h1:t.getD a.toNat 0 = -1
   ·exact⟨a.toNat,a.toNat,0,e.symm,by omega,.top (by omega) h1⟩
   ·rw[if_neg h1]at h
    cases hu:Go.Proofs.YtiendmljhgbjoaaGreat.upD t m (t.getD a.toNat 0) with
    | none=>rw[hu]at h;cases h
    | some q'=>
     obtain⟨y,r,k,e1,e2,e3⟩:=ih _ _ hu;exact⟨a.toNat,r,k+1,e.symm,by omega,.up (by omega) e1 e3⟩
  ·rw[if_neg ha]at h;cases h
theorem pathD_tp{a:Int}:En t a≠[]↔∃ x r k:Nat,a=(x:Int)/\Tp t x r k:=by
 constructor
 ·intro h
  cases hu:upD t t.length a with
  | none=>exact absurd (pathD_nil.2 hu) h
  | some q=>obtain⟨x,r,k,e1,_,e2⟩:=jV _ _ _ hu;exact⟨x,r,k,e1,e2⟩
 ·rintro⟨x,r,k,rfl,h⟩ e;obtain⟨q,hq,_⟩:=h.upD t.length h.short;rw[pathD_nil.1 e]at hq;cases hq
theorem Tp.path{x r k:Nat}(h:Tp t x r k):(∀ w:Int,w∈En t (x:Int)↔∃ z:Nat,w=(z:Int)/\UpTo (Bc t) x z) /\
  ∀ p:Int->Bool,((En t (x:Int)).find? p=none/\∀ z:Nat,UpTo (Bc t) x z->p (z:Int)=false)\/∃ f:Nat,(En t (x:Int)).find? p=some (f:Int)/\UpTo (Bc t) x f/\p (f:Int)=true/\∀ z:Nat,UpTo (Bc t) x z->p (z:Int)=true->UpTo (Bc t) f z:=by
 obtain⟨q,h1,h2,h3⟩:=h.upD t.length h.short
 have e:En t (x:Int)=q:=by unfold En;rw[h1];rfl
 rw[e];exact⟨h2,h3⟩
theorem CM{α:Type}{l:List α}{i j:Nat}{x d:α}(hi:i<l.length):(l.set i x).getD j d=if j=i then x else l.getD j d:=by
 by_cases h:j=i
 ·subst h;simp[List.getD,hi]
 ·simp[List.getD,h,Hd h]
theorem fO{x r k:Nat}(h:Tp t x r k):∀ l:List Bool,l.length=t.length->∃ l',Aj (Fq t) ((x:Int),l)=some l'/\l'.length=t.length/\∀ z,z<t.length->(l'.getD z false=true↔l.getD z false=true\/UpTo (Bc t) x z):=by
 induction h with
 | @top x hx h=>
  intro l hl
  have hs:Fq t ((x:Int),l)=some (.next (-1,l.set x true)):=by
   unfold Fq
   have hb:((x:Int)!=(-1:Int))=true:=by rw[zzL90];omega
   simp only[hb,Ae,A5,h];rw[Ad (H6 (by omega)),Ad (H6 hx)]
  have hd:Fq t (-1,l.set x true)=some (.done (l.set x true)):=by
   unfold Fq
   rfl
  refine⟨l.set x true,by rw[Ao hs,Ah hd],by simp[hl],λz hz=>?_⟩;rw[CM (by omega)]
  have htop:UpTo (Bc t) x z↔z=x:=AX λp hp=>by have:_=_:=hp.symm.trans h;omega
  rw[htop]
  by_cases e:z=x
  ·simp[e]
  ·simp[e]
 | @up x y r k hx h hk ih=>
  intro l hl
  have hs:Fq t ((x:Int),l)=some (.next ((y:Int),l.set x true)):=by
   unfold Fq
   have hb:((x:Int)!=(-1:Int))=true:=by rw[zzL90];omega
   simp only[hb,Ae,A5,h];rw[Ad (H6 (by omega)),Ad (H6 hx)]
  obtain⟨l',e1,e2,e3⟩:=ih (l.set x true) (by simp[hl]);refine⟨l',by rw[Ao hs,e1],e2,λz hz=>?_⟩;rw[e3 z hz,CM (by omega),anc_up (par:=Bc t) h]
  by_cases e:z=x
  ·simp[e]
  ·simp[e]
theorem fP{b r k:Nat}(h:Tp t b r k)(l:List Bool)(hl:l.length=t.length):l.getD r false=true->∃ c:Nat,Aj (Fs t l) (b:Int)=some (c:Int)/\UpTo (Bc t) b c/\l.getD c false=true/\∀ z,UpTo (Bc t) b z->l.getD z false=true->UpTo (Bc t) c z:=by
 induction h with
 | @top x hx h=>
  intro hr
  have hd:Fs t l (x:Int)=some (.done (x:Int)):=by
   unfold Fs;rw[Ad (H6 (by omega)),A5,hr]
   rfl
  exact⟨x,Ah hd,.refl _,hr,λz hz _=>hz⟩
 | @up x y r k hx h hk ih=>
  intro hr
  cases hx2:l.getD x false with
  | true=>
   have hd:Fs t l (x:Int)=some (.done (x:Int)):=by
    unfold Fs;rw[Ad (H6 (by omega)),A5,hx2]
    rfl
   exact⟨x,Ah hd,.refl _,hx2,λz hz _=>hz⟩
  | false=>
   have hs:Fs t l (x:Int)=some (.next (y:Int)):=by
    unfold Fs;rw[Ad (H6 (by omega)),A5,hx2,L7,Ae,Ad (H6 hx),h]
   obtain⟨c,e1,e2,e3,e4⟩:=ih hr;refine⟨c,by rw[Ao hs,e1],.up h e2,e3,λz hz hlz=>?_⟩;rcases(anc_up (par:=Bc t) h).1 hz with rfl|hz
   ·rw[hx2]at hlz;cases hlz
   ·exact e4 z hz hlz
theorem Zi(ht:t.length<=1000){a b r k m:Nat}(ha:Tp t a r k)(hb:Tp t b r m):∃ c:Nat,Ll t (a:Int) (b:Int)=some (c:Int)/\MeetAt (Bc t) a b c:=by
 unfold Ll
 have hroom:(1000:Nat)<=room:=by decide
 rw[Ad ⟨by omega,by omega,by omega⟩,A5];obtain⟨l',h1,h2,h3⟩:=fO ha (List.replicate t.length false) (by simp);rw[h1,Ay]
 have h3':∀ z,z<t.length->(l'.getD z false=true↔UpTo (Bc t) a z):=λz hz=>by rw[h3 z hz,Nk];simp
 obtain⟨c,e1,e2,e3,e4⟩:=fP hb l' h2 ((h3' r ha.tops.1).2 ha.upTo)
 have hc:c<t.length:=by obtain⟨j,_,hj,_⟩:=hb.on e2;exact hj.lt
 refine⟨c,by rw[e1];rfl,λw=>⟨λhw=>⟨((h3' c hc).1 e3).trans hw,e2.trans hw⟩,λ⟨hw1,hw2⟩=>?_⟩⟩;obtain⟨j,_,hj,_⟩:=ha.on hw1;exact e4 w hw2 ((h3' w hj.lt).2 hw1)
theorem bw(hR:Io t=true){a b r k m:Nat}(ha:Tp t a r k)(hb:Tp t b r m):∃ c:Nat,L0 t (a:Int) (b:Int)=(c:Int)/\MeetAt (Bc t) a b c:=by
 unfold L0;rw[if_pos hR]
 have hcon:∀ z:Nat,(En t (b:Int)).contains (z:Int)=true↔UpTo (Bc t) b z:=λz=>by
  rw[EU,hb.path.1]
  constructor
  ·rintro⟨y,e,hy⟩;cases U6 e;exact hy
  ·intro hz;exact⟨z,rfl,hz⟩
 rcases ha.path.2 (λx=>(En t (b:Int)).contains x) with⟨e1,e2⟩|⟨f,e1,e2,e3,e4⟩
 ·have:=e2 r ha.upTo;rw[(hcon r).2 hb.upTo]at this
  cases this
 ·exact⟨f,by rw[e1];rfl,λw=>⟨λhw=>⟨e2.trans hw,((hcon f).1 e3).trans hw⟩,λ⟨hw1,hw2⟩=>e4 w hw1 ((hcon w).2 hw2)⟩⟩
theorem MeetAt.same{a b r k c d:Nat}(ha:Tp t a r k)(hc:MeetAt (Bc t) a b c)(hd:MeetAt (Bc t) a b d):c=d:=by
 obtain⟨j,_,hj,_⟩:=ha.on ((hc c).1 (.refl _)).1;exact(hj.anti ((hc d).2 ((hd d).1 (.refl _))) ((hd c).2 ((hc c).1 (.refl _)))).symm
end
theorem m_index(t:List Int)(v:Int)(ht:t.length<=1000):(∃ r:Nat,r<t.length/\t.getD r 0=v/\(∀ i,i<r->t.getD i 0≠v)/\Eb t v=some (r:Int))\/((∀ i,i<t.length->t.getD i 0≠v)/\Eb t v=some (-1)):=by
 have key:∀ k i:Nat,i+k=t.length->(∀ j,j<i->t.getD j 0≠v)->
   (∃ r:Nat,r<t.length/\t.getD r 0=v/\(∀ i,i<r->t.getD i 0≠v)/\Aj (Bw t v) (i:Int)=some (.inr (r:Int)))\/((∀ i,i<t.length->t.getD i 0≠v)/\Aj (Bw t v) (i:Int)=some (.inl ())):=by
  intro k
  induction k with
  | zero=>
   intro i hi hj
   obtain rfl:i=t.length:=by omega
   refine .inr ⟨hj,Ah ?_⟩;unfold Bw;rw[Kh];rfl
  | succ k ih=>
   intro i hi hj
   by_cases e:v=t.getD i 0
   ·refine .inl ⟨i,by omega,e.symm,hj,Ah ?_⟩;unfold Bw;have hb:((v:Int)==t.getD i 0)=true:=zzL72.2 e;simp only[F1 (show i<t.length by omega),Ae,A5,hb];rw[Ad (H6 (by omega))]
   ·have hs:Bw t v (i:Int)=some (.next ((i+1:Nat):Int)):=by
     unfold Bw;have hb:((v:Int)==t.getD i 0)=false:=zzL23.2 e;simp only[F1 (show i<t.length by omega),Ae,A5,hb,A0];rw[Ad (H6 (by omega)),w1 (by omega)]
    rw[Ao hs]
    exact ih (i+1) (by omega) λj hj2=>by
     by_cases ej:j=i
     ·subst ej;exact λh=>e h.symm
     ·exact hj j (by omega)
 have h0:=key t.length 0 (by omega) (λj hj=>absurd hj (Mo _));unfold Eb;rcases h0 with⟨r,h1,h2,h3,h4⟩|⟨h1,h2⟩
 ·exact .inl ⟨r,h1,h2,h3,by rw[show((0:Int))=((0:Nat):Int) from rfl,h4];rfl⟩
 ·exact .inr ⟨h1,by rw[show((0:Int))=((0:Nat):Int) from rfl,h2];rfl⟩
section
variable {t:List Int}
structure Un(t:List Int)(r f:Nat)(w:List Int):Prop where
 len:w.length=t.length
 old:∀ y,y<t.length->w.getD y 0≠0->(w.getD y 0<=(f:Int))/\∃ k,Tp t y r k
structure ZN(t:List Int)(r f x:Nat)(w:List Int):Prop where
 len:w.length=t.length
 hx:x<t.length
 old:∀ y,y<t.length->w.getD y 0≠0->w.getD y 0<=(f:Int)/\(∃ k,Tp t y r k)\/w.getD y 0=((f+1:Nat):Int)/\∀ r' k,Tp t x r' k->∃ j,k<j/\Tp t y r' j
 fwd:∀ r' k,Tp t x r' k->∃ j,k<=j/\Tp t f r' j
 back:∀ r' k,Tp t f r' k->∃ j,Tp t x r' j
def ID(w:List Int):Nat:=w.countP λz=>z==0
theorem YN{w:List Int}{x:Nat}{v:Int}(hx:x<w.length)(h0:w.getD x 0=0)(hv:v≠0):ID (w.set x v)<ID w:=by
 unfold ID;rw[List.countP_set hx];rw[Aa _ _ _ hx]at h0;have hp:0<w.countP λz=>z==0:=List.countP_pos_iff.2 ⟨w[x],Xm hx,by simp[h0]⟩;have hb:(v==0)=false:=zzL23.2 hv;simp only[h0,Pq,Hc,hb,Xj,Ep];omega
theorem leads_loop(ht:t.length<=1000){r:Nat}(hr:r<t.length)(htop:t.getD r 0 = -1){f:Nat}(hf:f<t.length):∀(m x:Nat) (w:List Int),ID w<=m->ZN t r f x w->
  (∃ w',Aj (Cr t (f:Int) (r:Int)) ((x:Int),w)=some (.inl w')/\Un t r (f+1) w'/\∃ k,Tp t f r k) \/
  ∃ b w',Aj (Cr t (f:Int) (r:Int)) ((x:Int),w)=some (.inr (b,w'))/\w'.length=t.length/\(b=true->Un t r (f+1) w'/\∃ k,Tp t f r k)/\(b=false->∀ k,¬ Tp t f r k):=by
 intro m
 induction m with
 | zero=>
  intro x w hz hw;exact go 0 (λx w hz=>absurd hz (Mo _)) x w hz hw
 | succ m ih=>
  intro x w hz hw;exact go (m+1) (λx w hz=>ih x w (Nat.le_of_lt_succ hz)) x w hz hw
where
 go (m:Nat) (ih:∀(x:Nat) (w:List Int),ID w<m->ZN t r f x w->
  (∃ w',Aj (Cr t (f:Int) (r:Int)) ((x:Int),w)=some (.inl w')/\Un t r (f+1) w'/\∃ k,Tp t f r k) \/
  ∃ b w',Aj (Cr t (f:Int) (r:Int)) ((x:Int),w)=some (.inr (b,w'))/\w'.length=t.length/\(b=true->Un t r (f+1) w'/\∃ k,Tp t f r k)/\(b=false->∀ k,¬ Tp t f r k)) (x:Nat) (w:List Int) (hz:ID w<=m) (hw:ZN t r f x w) :
  (∃ w',Aj (Cr t (f:Int) (r:Int)) ((x:Int),w)=some (.inl w')/\Un t r (f+1) w'/\∃ k,Tp t f r k) \/
  ∃ b w',Aj (Cr t (f:Int) (r:Int)) ((x:Int),w)=some (.inr (b,w'))/\w'.length=t.length/\(b=true->Un t r (f+1) w'/\∃ k,Tp t f r k)/\(b=false->∀ k,¬ Tp t f r k):=by
  have hxl:=hw.hx
  have told:∀ k,Tp t x r k->Un t r (f+1) w/\∃ k,Tp t f r k:=λk hk=>by
   obtain⟨j,_,hj⟩:=hw.fwd _ _ hk;refine⟨⟨hw.len,λy hy hy0=>?_⟩,j,hj⟩;rcases hw.old y hy hy0 with⟨h1,h2⟩|⟨h1,h2⟩
   ·exact⟨by omega,h2⟩
   ·obtain⟨i,_,hi⟩:=h2 _ _ hk;exact⟨by omega,i,hi⟩
  by_cases hxr:x=r
  ·subst hxr;refine .inl ⟨w,Ah ?_,told 0 (.top hr htop)⟩;unfold Cr
   have hb:((x:Int)!=(x:Int))=false:=by simp
   simp only[hb,A0]
  ·have hb:((x:Int)!=(r:Int))=true:=by rw[zzL90];omega
   have hin:B9 (x:Int) w.length:=H6 (by rw[hw.len];exact hxl)
   by_cases hw0:w.getD x 0=0
   ·have hb0:((w.getD x 0:Int)!=0)=false:=by rw[hw0];rfl
    by_cases hpl:0<=t.getD x 0/\t.getD x 0<(t.length:Int)
    ·have hwf:Bh ((f:Int)+1)=((f+1:Nat):Int):=w1 (by omega)
     have hs:Cr t (f:Int) (r:Int) ((x:Int),w)=some (.next (t.getD x 0,w.set x ((f+1:Nat):Int))):=by
      unfold Cr Hz;simp only[hb,Ae,A5,hb0,A0];rw[Ad hin,Ad (H6 hxl),Ey hpl.1,Ey hpl.2,Ae,Ay,Fi,A0,Ad hin,Ad (H6 hxl),hwf]
     rw[Ao hs];obtain⟨y,hy⟩:∃ y:Nat,t.getD x 0=(y:Int):=⟨(t.getD x 0).toNat,(U5 hpl.1).symm⟩;rw[hy]at hpl ⊢
     have hyl:y<t.length:=by omega
     have hst:∀ r' k,Tp t y r' k->Tp t x r' (k+1):=λr' k hk=>.up hxl hy hk
     have hset:∀ z,z<t.length->(w.set x ((f+1:Nat):Int)).getD z 0=if z=x then((f+1:Nat):Int) else w.getD z 0:=λz _=>CM (by rw[hw.len];exact hxl)
     have hW:ZN t r f y (w.set x ((f+1:Nat):Int)):=by
      refine⟨by simp[hw.len],hyl,λz hzl hz0=>?_,λr' k hk=>?_,λr' k hk=>?_⟩
      ·rw[hset z hzl]at hz0 ⊢
       by_cases e:z=x
       ·subst e;rw[if_pos rfl];exact .inr ⟨rfl,λr' k hk=>⟨k+1,by omega,hst r' k hk⟩⟩
       ·rw[if_neg e]at hz0 ⊢;rcases hw.old z hzl hz0 with h1|⟨h1,h2⟩
        ·exact .inl h1
        ·refine .inr ⟨h1,λr' k hk=>?_⟩;obtain⟨j,hj1,hj2⟩:=h2 _ _ (hst r' k hk);exact⟨j,by omega,hj2⟩
      ·obtain⟨j,hj1,hj2⟩:=hw.fwd _ _ (hst r' k hk);exact⟨j,by omega,hj2⟩
      ·obtain⟨j,hj⟩:=hw.back _ _ hk
       cases hj with
       | top _ h2=>omega
       | up _ h2 h3=>
        have:=hy.symm.trans h2
        cases U6 this
        exact⟨_,h3⟩
     have hzz:=YN (x:=x) (v:=((f+1:Nat):Int)) (by rw[hw.len];exact hxl) hw0 (by omega);exact ih y _ (by omega) hW
    ·refine .inr ⟨false,w,Ah ?_,hw.len,⟨λh=>(by cases h),λ_ k hk=>?_⟩⟩
     ·unfold Cr Hz;simp only[hb,Ae,A5,hb0,A0];rw[Ad hin,Ad (H6 hxl)]
      have:(bif decide ((0:Int)<=t.getD x 0) then decide (t.getD x 0<(t.length:Int)) else false)=false:=by
       cases h1:decide ((0:Int)<=t.getD x 0) with
       | false=>rfl
       | true=>rw[Ae];exact Fh λh2=>hpl ⟨Xk h1,h2⟩
      rw[this,Ay]
      rfl
     ·obtain⟨j,hj⟩:=hw.back _ _ hk
      cases hj with
      | top=>exact hxr rfl
      | up _ h2 h3=>have:=h3.lt;exact hpl ⟨by omega,by omega⟩
   ·have hb0:((w.getD x 0:Int)!=0)=true:=by rw[zzL90];exact hw0
    have hwf:Bh ((f:Int)+1)=((f+1:Nat):Int):=w1 (by omega);refine .inr ⟨w.getD x 0 !=((f+1:Nat):Int),w,Ah ?_,hw.len,⟨λh=>?_,λh k hk=>?_⟩⟩
    ·unfold Cr;simp only[hb,Ae,A5,hb0];rw[Ad hin,Ad hin,hwf]
    ·rcases hw.old x hxl hw0 with⟨_,k,hk⟩|⟨h1,_⟩
     ·exact told k hk
     ·rw[h1]at h;simp at h
    ·have he:w.getD x 0=((f+1:Nat):Int):=by simpa using h
     obtain⟨j,hj⟩:=hw.back _ _ hk;rcases hw.old x hxl hw0 with⟨h1,_⟩|⟨_,h2⟩
     ·omega
     ·obtain⟨i,hi1,hi2⟩:=h2 _ _ hj;have:=hj.det hi2;omega
end
section
variable {t:List Int}
theorem fJ(ht:t.length<=1000){r:Nat}(hr:r<t.length)(htop:t.getD r 0 = -1){f:Nat}(hf:f<t.length){w:List Int}(hw:Un t r f w) :
  ∃ b w',Oc t w (f:Int) (r:Int)=some (b,w')/\w'.length=t.length/\(b=true->Un t r (f+1) w'/\∃ k,Tp t f r k)/\(b=false->∀ k,¬ Tp t f r k):=by
 unfold Oc;have hW:ZN t r f f w:=⟨hw.len,hf,λy hy h0=>.inl (hw.old y hy h0),λr' k hk=>⟨k,zzL8 _,hk⟩,λr' k hk=>⟨k,hk⟩⟩;rcases leads_loop ht hr htop hf _ f w (zzL8 _) hW with⟨w',e1,e2⟩|⟨b,w',e1,e2,e3,e4⟩
 ·exact⟨true,w',by rw[e1];rfl,e2.1.len,λ_=>e2,λh=>by cases h⟩
 ·exact⟨b,w',by rw[e1];rfl,e2,e3,e4⟩
def GA(t:List Int)(r:Nat):Prop:=∀ f,f<t.length->t.getD f 0≠-2->∃ k,Tp t f r k
open Classical in
theorem MW(ht:t.length<=1000){r:Nat}(hr:r<t.length)(htop:t.getD r 0 = -1):∀(k f:Nat) (w:List Int),f+k=t.length->Un t r f w->(∀ y,y<f->t.getD y 0≠-2->∃ k,Tp t y r k)->
  Aj (Eg t (r:Int)) ((f:Int),w)=some (if GA t r then .inl () else .inr false):=by
 intro k
 induction k with
 | zero=>
  intro f w hk hw hd
  obtain rfl:f=t.length:=by omega
  apply Ah
  unfold Eg;simp only[Kh,A0];rw[if_pos (show GA t r from hd)]
 | succ k ih=>
  intro f w hk hw hd
  have hf:f<t.length:=by omega
  by_cases h2:t.getD f 0 = -2
  ·have hb:((t.getD f 0:Int)!=(-2))=false:=by rw[h2];rfl
   have hs:Eg t (r:Int) ((f:Int),w)=some (.next (((f+1:Nat):Int),w)):=by
    unfold Eg;simp only[F1 hf,Ae,A5,hb,show(false==true)=false from rfl,A0,Ay];rw[Ad (H6 hf),Ad (λh=>by cases h),w1 (by omega)]
   rw[Ao hs];refine ih (f+1) w (by omega) ⟨hw.len,λy hy h0=>?_⟩ λy hy hy2=>?_
   ·obtain⟨e1,e2⟩:=hw.old y hy h0;exact⟨by omega,e2⟩
   ·by_cases e:y=f
    ·subst e;exact absurd h2 hy2
    ·exact hd y (by omega) hy2
  ·have hb:((t.getD f 0:Int)!=(-2))=true:=by rw[zzL90];exact h2
   obtain⟨b,w',e1,e2,e3,e4⟩:=fJ ht hr htop hf hw
   cases b with
   | false=>
    rw[if_neg (λhA:GA t r=>by obtain⟨k,hk⟩:=hA f hf h2;exact e4 rfl k hk)]
    apply Ah
    unfold Eg;simp only[F1 hf,Ae,A5,hb,show(true==true)=true from rfl,e1,Ay];rw[Ad (H6 hf),Ad (λ_=>by rw[hw.len,e2])]
    rfl
   | true=>
    have hs:Eg t (r:Int) ((f:Int),w)=some (.next (((f+1:Nat):Int),w')):=by
     unfold Eg;simp only[F1 hf,Ae,A5,hb,show(true==true)=true from rfl,e1,Ay];rw[Ad (H6 hf),Ad (λ_=>by rw[hw.len,e2]),w1 (by omega)]
     rfl
    rw[Ao hs];obtain⟨e5,e6⟩:=e3 rfl;refine ih (f+1) w' (by omega) e5 λy hy hy2=>?_
    by_cases e:y=f
    ·subst e;exact e6
    ·exact hd y (by omega) hy2
theorem cr:Xd t t.length=1↔∃ r,r<t.length/\t.getD r 0 = -1/\∀ x,x<t.length->t.getD x 0 = -1->x=r:=by
 have key:∀ n,(Xd t n=0↔∀ x,x<n->t.getD x 0≠-1)/\(Xd t n=1↔∃ r,r<n/\t.getD r 0 = -1/\∀ x,x<n->t.getD x 0 = -1->x=r):=by
  intro n
  induction n with
  | zero=>exact⟨⟨λ_ x hx=>absurd hx (Mo _),λ_=>rfl⟩,⟨λh=>by simp[Xd]at h,λ⟨r,h,_⟩=>absurd h (Mo _)⟩⟩
  | succ n ih=>
   rw[EM]
   by_cases e:t.getD n 0 = -1
   ·rw[if_pos e];refine⟨⟨λh=>by omega,λh=>absurd e (h n (by omega))⟩,⟨λh=>⟨n,by omega,e,λx hx hx1=>?_⟩,λ⟨r,h1,h2,h3⟩=>?_⟩⟩
    ·by_cases ex:x=n
     ·exact ex
     ·exact absurd hx1 (ih.1.1 (by omega) x (by omega))
    ·have:=ih.1.2 λx hx hx1=>by
      have:=h3 x (by omega) hx1;have:=h3 n (by omega) e;omega
     omega
   ·rw[if_neg e,La];refine⟨⟨λh x hx=>?_,λh=>ih.1.2 λx hx=>h x (by omega)⟩,⟨λh=>?_,λ⟨r,h1,h2,h3⟩=>?_⟩⟩
    ·by_cases ex:x=n
     ·subst ex;exact e
     ·exact ih.1.1 h x (by omega)
    ·obtain⟨r,h1,h2,h3⟩:=ih.2.1 h;refine⟨r,by omega,h2,λx hx hx1=>?_⟩
     by_cases ex:x=n
     ·subst ex;exact absurd hx1 e
     ·exact h3 x (by omega) hx1
    ·refine ih.2.2 ⟨r,?_,h2,λx hx hx1=>h3 x (by omega) hx1⟩
     by_cases ex:r=n
     ·subst ex;exact absurd h2 e
     ·omega
 exact(key _).2
theorem rightD_iff:Io t=true↔∃ r,r<t.length/\t.getD r 0 = -1/\GA t r:=by
 unfold Io;rw[A4,all_range,Du,cr]
 constructor
 ·rintro⟨h1,r,h2,h3,h4⟩;refine⟨r,h2,h3,λf hf hf2=>?_⟩;have:=h1 f hf;unfold lT at this;rw[Xn,Du,On,IE]at this;rcases this with h|h
  ·exact absurd h hf2
  ·obtain⟨x,r',k,e,hk⟩:=pathD_tp.1 h
   cases U6 e
   have:=h4 _ hk.tops.1 hk.tops.2;subst this;exact⟨k,hk⟩
 ·rintro⟨r,h2,h3,h4⟩;refine⟨λf hf=>?_,r,h2,h3,λx hx hx1=>?_⟩
  ·unfold lT;rw[Xn,Du,On,IE]
   by_cases e:t.getD f 0 = -2
   ·exact .inl e
   ·obtain⟨k,hk⟩:=h4 f hf e;exact .inr (pathD_tp.2 ⟨f,r,k,rfl,hk⟩)
  ·obtain⟨k,hk⟩:=h4 x hx (by omega);exact((hk.det (.top hx hx1)).1).symm
theorem HR(hR:Io t=true):∃ r,GA t r:=by obtain⟨r,_,_,h⟩:=rightD_iff.1 hR;exact⟨r,h⟩
theorem bs(ht:t.length<=1000):Mt t=some (Io t):=by
 unfold Mt
 have hroom:(1000:Nat)<=room:=by decide
 rcases m_index t (-1) ht with⟨r,h1,h2,h3,h4⟩|⟨h1,h2⟩
 ·rw[h4,Ay,show decide ((r:Int)<0)=false from Fh (by omega),A0,Ad ⟨by omega,by omega,by omega⟩,A5];have hl:=MW ht h1 h2 t.length 0 (List.replicate t.length 0) (by omega) ⟨by simp,λy hy h0=>absurd Nk h0⟩ (λy hy=>absurd hy (Mo _));rw[show(((0:Nat):Int))=0 from rfl]at hl;rw[hl,Ay]
  by_cases hA:GA t r
  ·rw[if_pos hA,rightD_iff.2 ⟨r,h1,h2,hA⟩]
  ·rw[if_neg hA]
   have:Io t=false:=Bool.eq_false_iff.2 λhR=>by
    obtain⟨r',g1,g2,g3⟩:=rightD_iff.1 hR;obtain⟨k,hk⟩:=g3 r h1 (by omega);have:=(hk.det (.top h1 h2)).1;subst this;exact hA g3
   rw[this]
 ·rw[h2,Ay]
  have:Io t=false:=Bool.eq_false_iff.2 λhR=>by
   obtain⟨r',g1,g2,g3⟩:=rightD_iff.1 hR;exact h1 r' g1 g2
  rw[this]
  rfl
def Vk(t:List Int)(a:Int):Bool:=decide (0<=a)&&decide (a<(t.length:Int))&&decide (t.getD a.toNat 0≠-2)
theorem CO(hR:Io t=true){a:Int}:Vk t a=true↔∃ x k r:Nat,a=(x:Int)/\Tp t x r k:=by
 unfold Vk;rw[A4,A4,Du,Du,Du]
 constructor
 ·rintro⟨⟨h1,h2⟩,h3⟩;obtain⟨r,hA⟩:=HR hR;obtain⟨k,hk⟩:=hA a.toNat (by omega) h3;exact⟨a.toNat,k,r,(U5 h1).symm,hk⟩
 ·rintro⟨x,k,r,rfl,h⟩;have:=h.lt;refine⟨⟨by omega,by omega⟩,?_⟩;rw[A5]
  cases h with
  | top _ h2=>omega
  | up _ h2 _=>omega
theorem CX(a:Int):Ih t a=some (Vk t a):=by
 unfold Ih Hz Vk;rw[Ay]
 cases h1:decide ((0:Int)<=a) with
 | false=>rfl
 | true=>
  rw[Ae,Gz]
  cases h2:decide (a<(t.length:Int)) with
  | false=>rfl
  | true=>
   rw[Ad (λ_=>⟨Xk h1,Xk h2⟩),Ae,Gz]
   congr 1
   rw[Mn,zzL90,Du]
theorem fI(ht:t.length<=1000)(a b:Int):Ob t a b=some (Io t&&Vk t a&&Vk t b):=by
 unfold Ob;rw[bs ht,Ay]
 cases Io t with
 | false=>rfl
 | true=>
  simp only[show(true==true)=true from rfl,Ae,CX,Ay,Gz]
  cases Vk t a with
  | false=>rfl
  | true=>simp only[show(true==true)=true from rfl,Ae,CX,Ay,Gz]
theorem XJ{a b:Int}(h:(Io t&&Vk t a&&Vk t b)=false):L0 t a b = -2:=by
 unfold L0
 by_cases hR:Io t=true
 ·rw[if_pos hR];rw[hR,Gz]at h
  have hno:∀ c,Vk t c=false->En t c=[]:=λc hc=>by
   by_cases e:En t c=[]
   ·exact e
   ·obtain⟨x,r,k,e1,e2⟩:=pathD_tp.1 e;rw[(CO hR).2 ⟨x,k,r,e1,e2⟩]at hc;cases hc
  cases ha:Vk t a with
  | false=>rw[hno a ha];rfl
  | true=>
   rw[ha,Gz]at h;rw[hno b h]
   have:((En t a).find? λx=>([]:List Int).contains x)=none:=List.find?_eq_none.2 λx _=>by simp
   rw[this]
   rfl
 ·rw[if_neg hR]
theorem FH(ht:t.length<=1000){a b:Int}(h:(Io t&&Vk t a&&Vk t b)=true):Ll t a b=some (L0 t a b)/\0<=L0 t a b:=by
 rw[A4,A4]at h;obtain⟨⟨hR,ha⟩,hb⟩:=h;obtain⟨x,k,r,rfl,hx⟩:=(CO hR).1 ha;obtain⟨y,m,r',rfl,hy⟩:=(CO hR).1 hb;obtain⟨rr,hA⟩:=HR hR
 have top:∀{x r k},Tp t x r k->r=rr:=λ{x r k} h=>by
  obtain⟨i,hi⟩:=hA r h.tops.1 (by rw[h.tops.2];omega);exact((Tp.top h.tops.1 h.tops.2).det hi).1
 obtain rfl:=top hx;obtain rfl:=top hy;obtain⟨c,h1,h2⟩:=Zi ht hx hy;obtain⟨d,h3,h4⟩:=bw hR hx hy;have:=h2.same hx h4;subst this;exact⟨by rw[h1,h3],by omega⟩
theorem jB(ht:t.length<=1000)(a b:Int):Qc t a b=some (Ni t a b):=by
 unfold Qc Ni;rw[fI ht,Ay]
 cases h:(Io t&&Vk t a&&Vk t b) with
 | false=>
  rw[XJ h]
  have:((-2:Int)==a&&((-2:Int)!=-2))=false:=by simp
  rw[this]
  rfl
 | true=>
  obtain⟨h1,h2⟩:=FH ht h;simp only[show(true==true)=true from rfl,Ae,h1,Ay]
  have:(L0 t a b !=-2)=true:=by rw[zzL90];omega
  rw[this,Y2]
end
theorem fT:∀ n:Fin 65,Lj (Ez 1) (Ez ((n.val:Nat):Int))=some (0,((n.val:Nat):Int)):=by decide +kernel
theorem XL{n:Nat}(h:n<=64):Lj (Ez 1) (Ez (n:Int))=some (0,(n:Int)):=fT ⟨n,by omega⟩
theorem OR{v:Int}{n:Nat}(hn:n<=64):∀(m i:Nat) (l:List Int),n-i<=m->1<=i->i<=n->l.length=n->(∀ j,j<i->l.getD j 0=v)->Aj Cb ((i:Int),l)=some (List.replicate n v):=by
 intro m
 induction m with
 | zero=>
  intro i l hm h1 h2 hl hv
  obtain rfl:i=n:=by omega
  exact fin l hl hv
 | succ m ih=>
  intro i l hm h1 h2 hl hv
  by_cases e:i=n
  ·subst e;exact fin l hl hv
  ·have hs:Cb ((i:Int),l)=some (.next (((i+Nat.min i (n-i):Nat):Int),RE l i (Nat.min i (n-i)) (λj=>l.getD (0+j) 0))):=by
    unfold Cb;simp only[hl,F1 (show i<n by omega),Ae,A5,Fx,Tc];have hc:(0:Int)<=(i:Int)/\i<=n:=⟨by omega,h2⟩;have hmn:Nat.min i (n-i)<=i:=Nat.min_le_left _ _;rw[Ad hc,Ad hc,Hp (by omega) (by omega),Int.natCast_add]
   rw[Ao hs];have hmn:Nat.min i (n-i)<=i/\Nat.min i (n-i)<=n-i:=⟨Nat.min_le_left _ _,Nat.min_le_right _ _⟩;have hge:1<=Nat.min i (n-i):=Nat.le_min.2 ⟨h1,by omega⟩;refine ih _ _ (by omega) (by omega) (by omega) (by rw[<- F0];exact hl) λj hj=>?_;rw[CF _ _ _ _ _ _ (by omega)]
   by_cases hji:i<=j/\j<i+Nat.min i (n-i)
   ·rw[if_pos hji,Fx];exact hv _ (by omega)
   ·rw[if_neg hji];exact hv _ (by omega)
where
 fin {v:Int} {i:Nat} (l:List Int) (hl:l.length=i) (hv:∀ j,j<i->l.getD j 0=v):Aj Cb ((i:Int),l)=some (List.replicate i v):=by
  apply Ah
  unfold Cb;simp only[hl,Kh,A0]
  congr 2
  refine Yy (by simp[hl]) λj h1 h2=>?_;rw[<- Aa _ _ 0 h1,hv j (by omega)]
  simp
theorem bt{v:Int}{n:Nat}(h1:1<=n)(hn:n<=64):E6 [v] (n:Int)=some (List.replicate n v):=by
 have hroom:(64:Nat)<=room:=by decide
 unfold E6;rw[show decide ((n:Int)<0)=false from Fh (by omega),A0,Ay]
 show Option.bind (Lj (Ez 1) (Ez (n:Int))) _=_
 rw[XL hn,Ay];have e1:decide ((0:Int)<(0:Int))=false:=rfl;have e2:decide ((9223372036854775807:Int)<(n:Int))=false:=Fh (by omega);simp only[e1,e2,A0,Ay];have ew:Bh (n:Int)=(n:Int):=Hp (by omega) (by omega);rw[ew,Ad ⟨by omega,by omega,by omega⟩,A5,Xi,Tc];have em:Nat.min [v].length n=1:=Nat.min_eq_left h1;rw[em,OR hn n 1 _ (by omega) (zzL8 _) h1 (by rw[<- F0];simp) (λj hj=>?_)]
 ·rfl
 ·rw[CF _ _ _ _ _ _ (by simp;omega),if_pos ⟨by omega,by omega⟩]
  have:j-0=0:=by omega
  rw[this];rfl
section
variable {S:Nat->List Nat} {r n:Nat} {P:List Nat}
theorem Inv.tp{at_:Nat->Nat}{t:List Int}(h:Inv S r n at_ (Bc t))(hl:t.length=n):∀ m x,at_ x<=m->x<n->Bc t x≠-2->∃ k,Tp t x r k:=by
 intro m
 induction m with
 | zero=>
  intro x hm hx hp;rcases h.kind x hx with h1|h1|⟨z,hz⟩
  ·exact absurd h1 hp
  ·subst h1;exact⟨0,.top (by omega) h.top⟩
  ·obtain⟨_,_,h3,_⟩:=h.up x hx z hz;omega
 | succ m ih=>
  intro x hm hx hp;rcases h.kind x hx with h1|h1|⟨z,hz⟩
  ·exact absurd h1 hp
  ·subst h1;exact⟨0,.top (by omega) h.top⟩
  ·obtain⟨z1,z2,z3,_⟩:=h.up x hx z hz;obtain⟨k,hk⟩:=ih z (by omega) z1 z2;exact⟨k+1,.up (by omega) hz hk⟩
def V2(t l:List Int)(i:Nat)(v:Int):Prop:=
 (v = -2/\∀ j,j<i->Bc t (l.getD j 0).toNat = -2) \/
 ∃ z:Nat,v=(z:Int)/\z<t.length/\Bc t z≠-2/\(∀ w,UpTo (Bc t) z w↔∀ j,j<i->Bc t (l.getD j 0).toNat≠-2->UpTo (Bc t) (l.getD j 0).toNat w)
theorem KC{at_:Nat->Nat}{t l:List Int}(ht:t.length<=64)(hll:l.length<=64)(h:Inv S r n at_ (Bc t))(hl:t.length=n)(hin:∀ x∈l,0<=x/\x<(n:Int)):∀(k i:Nat) (v:Int),i+k=l.length->V2 t l i v->
  ∃ v',Aj (Dx t l) (v,(i:Int))=some v'/\V2 t l l.length v':=by
 intro k
 induction k with
 | zero=>
  intro i v hi hv
  obtain rfl:i=l.length:=by omega
  refine⟨v,Ah ?_,hv⟩;unfold Dx;simp only[Kh,A0]
 | succ k ih=>
  intro i v hi hv
  have hil:i<l.length:=by omega
  obtain⟨x0,x1⟩:=hin _ (getD_mem (d:=0) hil);have hxe:(((l.getD i 0).toNat:Nat):Int)=l.getD i 0:=U5 x0;have hxin:B9 (l.getD i 0) t.length:=kQ x0 (by omega)
  have next:∀ v',Dx t l (v,(i:Int))=some (.next (v',((i+1:Nat):Int)))->V2 t l (i+1) v'->∃ v',Aj (Dx t l) (v,(i:Int))=some v'/\V2 t l l.length v':=λv' hs hv'=>by
   rw[Ao hs];exact ih (i+1) v' (by omega) hv'
  by_cases hp:Bc t (l.getD i 0).toNat = -2
  ·have hb:((t.getD (l.getD i 0).toNat 0:Int)==-2)=true:=zzL72.2 hp;refine next v ?_ ?_
   ·unfold Dx;simp only[F1 hil,Ae,A5,hb];rw[Ad (H6 hil),Ad hxin,Ay,w1 (by omega)]
   ·have hstep:∀ w,(∀ j,j<i->Bc t (l.getD j 0).toNat≠-2->UpTo (Bc t) (l.getD j 0).toNat w)↔∀ j,j<i+1->Bc t (l.getD j 0).toNat≠-2->UpTo (Bc t) (l.getD j 0).toNat w:=λw=>by
     refine⟨λhj j hj1 hj2=>?_,λhj j hj1=>hj j (by omega)⟩
     by_cases e:j=i
     ·subst e;exact absurd hp hj2
     ·exact hj j (by omega) hj2
    rcases hv with⟨h1,h2⟩|⟨z,h1,h2,h3,h4⟩
    ·refine .inl ⟨h1,λj hj=>?_⟩
     by_cases e:j=i
     ·subst e;exact hp
     ·exact h2 j (by omega)
    ·exact .inr ⟨z,h1,h2,h3,λw=>by rw[h4 w,hstep w]⟩
  ·have hb:((t.getD (l.getD i 0).toNat 0:Int)==-2)=false:=zzL23.2 hp;rcases hv with⟨h1,h2⟩|⟨z,h1,h2,h3,h4⟩
   ·subst h1;refine next (l.getD i 0) ?_ (.inr ⟨(l.getD i 0).toNat,hxe.symm,by omega,hp,λw=>⟨λhw j hj hj2=>?_,λhw=>hw i (by omega) hp⟩⟩)
    ·unfold Dx;simp only[F1 hil,Ae,A5,hb,A0,show((-2:Int)==-2)=true from rfl];rw[Ad (H6 hil),Ad hxin,Ay,w1 (by omega)]
    ·by_cases e:j=i
     ·subst e;exact hw
     ·exact absurd (h2 j (by omega)) hj2
   ·subst h1;have hb2:((z:Int)==-2)=false:=zzL23.2 (by omega);obtain⟨k1,hk1⟩:=h.tp hl _ z (zzL8 _) (by omega) h3;obtain⟨k2,hk2⟩:=h.tp hl _ (l.getD i 0).toNat (zzL8 _) (by omega) hp;obtain⟨c,c1,c2⟩:=Zi (by omega) hk1 hk2;have hcz:=(c2 c).1 (.refl _);obtain⟨jc,_,hjc,_⟩:=hk1.on hcz.1
    have hcp:Bc t c≠-2:=by
     show t.getD c 0≠-2
     cases hjc with
     | top _ h=>omega
     | up _ h _=>omega
    refine next (c:Int) ?_ (.inr ⟨c,rfl,hjc.lt,hcp,λw=>?_⟩)
    ·rw[hxe]at c1;unfold Dx;simp only[F1 hil,Ae,A5,hb,A0,hb2,c1,Ay];rw[Ad (H6 hil),Ad hxin,Ay,w1 (by omega)]
    ·rw[c2 w,h4 w];refine⟨λ⟨a1,a2⟩ j hj hj2=>?_,λha=>⟨λj hj=>ha j (by omega),ha i (by omega) hp⟩⟩
     by_cases e:j=i
     ·subst e;exact a2
     ·exact a1 j (by omega) hj2
theorem XF{at_:Nat->Nat}{t l:List Int}(ht:t.length<=64)(hll:l.length<=64)(h:Inv S r n at_ (Bc t))(hl:t.length=n)(hin:∀ x∈l,0<=x/\x<(n:Int)) :
  ∃ v,H0 t l=some v/\V2 t l l.length v:=by
 obtain⟨v,h1,h2⟩:=KC ht hll h hl hin l.length 0 (-2) (by omega) (.inl ⟨rfl,λj hj=>absurd hj (Mo _)⟩);refine⟨v,?_,h2⟩;unfold H0;rw[show((0:Int))=((0:Nat):Int) from rfl,h1]
 rfl
end
section
variable {L:List (List Int)} (hm:Ln L=true) {r:Nat} {P:List Nat}
include hm
theorem cj{p y:Nat}(hp:p<L.length):y∈sN L p↔Zd L p y=true:=by
 rw[bZ];obtain⟨_,_,h3⟩:=mayS_iff.1 hm
 constructor
 ·intro h;obtain⟨x,hx,rfl⟩:=zzL24.1 h;have:=UP (h3 p hp) hx;rw[U5 this.1];exact hx
 ·intro h;exact zzL24.2 ⟨_,h,A5 y⟩
theorem W5{y:Nat}(hy:y<L.length){x:Int}:x∈(Ff L).getD y []↔∃ p:Nat,x=(p:Int)/\p<L.length/\y∈sN L p:=by
 rw[HM hy];unfold Jy;rw[bz]
 constructor
 ·rintro⟨k,h1,h2,h3⟩;exact⟨k,h1,h2,(cj hm h2).2 h3⟩
 ·rintro⟨k,h1,h2,h3⟩;exact⟨k,h1,h2,(cj hm h2).1 h3⟩
theorem KB(o:Ordered (sN L) r L.length P){t:List Int}{i:Nat}(h:Ready (sN L) r L.length P t i)(hi:i<P.length) :
  H0 t ((Ff L).getD (P.getD i 0) [])=some (Js (sN L) L.length t (P.getD i 0):Int):=by
 obtain⟨hL1,hL64,_⟩:=mayS_iff.1 hm;have hyn:P.getD i 0<L.length:=o.lt (E7 _ (M2 hi))
 have hlen:((Ff L).getD (P.getD i 0) []).length<=64:=by
  rw[HM hyn];have:=Vp L L.length (P.getD i 0);omega
 obtain⟨v,h1,h2⟩:=XF (by rw[h.len];exact hL64) hlen h.inv h.len λx hx=>by
  obtain⟨p,rfl,hp,_⟩:=(W5 hm hyn).1 hx;omega
 rw[h1];have hb:=h.best o hi
 have mem:∀ p,p<L.length->P.getD i 0∈sN L p->∃ j,j<((Ff L).getD (P.getD i 0) []).length/\(((Ff L).getD (P.getD i 0) []).getD j 0).toNat=p:=λp hp hy=>by
  obtain⟨j,hj,e⟩:=K9 ((W5 hm hyn).2 ⟨p,rfl,hp,hy⟩);exact⟨j,hj,by rw[Aa _ _ _ hj,e,A5]⟩
 have mem':∀ j,j<((Ff L).getD (P.getD i 0) []).length->(((Ff L).getD (P.getD i 0) []).getD j 0).toNat<L.length/\P.getD i 0∈sN L (((Ff L).getD (P.getD i 0) []).getD j 0).toNat:=λj hj=>by
  obtain⟨p,e,hp,hy⟩:=(W5 hm hyn).1 (getD_mem (d:=(0:Int)) hj);rw[e,A5];exact⟨hp,hy⟩
 rcases h2 with⟨rfl,h3⟩|⟨z,rfl,hz,hz2,h4⟩
 ·obtain⟨p,hp,hyp,hp2,_⟩:=hb.fwd;obtain⟨j,hj,e⟩:=mem p hp hyp;exact absurd (by rw[<- e];exact h3 j hj) hp2
 ·have hbest:QF (sN L) L.length (Bc t) (P.getD i 0) z:=λw=>by
   rw[h4 w];refine⟨λha p hp hyp hp2=>?_,λha j hj hj2=>?_⟩
   ·obtain⟨j,hj,e⟩:=mem p hp hyp;have:=ha j hj (by rw[e];exact hp2);rwa[e]at this
   ·obtain⟨q1,q2⟩:=mem' j hj;exact ha _ q1 q2 hj2
  rw[h.best_eq o hi (by rw[<- h.len];exact hz) hz2 hbest]
end
theorem NR{P:List Nat}{i:Nat}(h:i<P.length):(Oy P).getD i 0=((P.getD i 0:Nat):Int):=by
 unfold Oy;rw[Aa _ _ _ (by simpa using h),Aa _ _ _ h,List.getElem_map]
 rfl
theorem OT{t:List Int}{x:Nat}{v:Int}(hx:x<t.length)(h:t.getD x 0=v):t.set x v=t:=by
 subst h;rw[Aa _ _ _ hx];exact List.set_getElem_self hx
section
variable {L:List (List Int)} (hm:Ln L=true) {r:Nat} {P:List Nat} (o:Ordered (sN L) r L.length P)
include hm o
theorem SM{t0:List Int}(h:Ready (sN L) r L.length P t0 0):∀(k i:Nat) (b:Bool),i+k=P.length->
  ∃ b',Aj (Dr (Xu L) (Oy (r::P))) (b,(i:Int),Ry (sN L) L.length P t0 i)=some (b',Ry (sN L) L.length P t0 P.length) /\
   (b'=false↔b=false/\∀ j,i<=j->j<P.length->Bc (Ry (sN L) L.length P t0 j) (P.getD j 0)=(Js (sN L) L.length (Ry (sN L) L.length P t0 j) (P.getD j 0):Int)):=by
 have hP64:P.length<=64:=by
  have h1:=Lo L.length (r::P) o.nodup λx hx=>o.lt hx;have h2:=(mayS_iff.1 hm).2.1;simp at h1;omega
 have hdl:(Oy (r::P)).drop (1:Int).toNat=Oy P:=rfl
 have hlen:(Oy P).length=P.length:=by simp[Oy]
 intro k
 induction k with
 | zero=>
  intro i b hi
  obtain rfl:i=P.length:=by omega
  refine⟨b,Ah ?_,λh=>⟨h,λj h1 h2=>by omega⟩,λh=>h.1⟩;unfold Dr;simp only[hdl,hlen,Kh,A0]
 | succ k ih=>
  intro i b hi
  have hil:i<P.length:=by omega
  have rd:=h.round o i (by omega);have hma:=KB hm o rd hil;have hyn:P.getD i 0<L.length:=o.lt (E7 _ (M2 hil))
  have hyt:P.getD i 0<(Ry (sN L) L.length P t0 i).length:=by rw[rd.len];exact hyn
  have hpred:(Xu L).Pred=Ff L:=rfl
  by_cases he:Bc (Ry (sN L) L.length P t0 i) (P.getD i 0)=(Js (sN L) L.length (Ry (sN L) L.length P t0 i) (P.getD i 0):Int)
  ·have hb:((Js (sN L) L.length (Ry (sN L) L.length P t0 i) (P.getD i 0):Int)!=(Ry (sN L) L.length P t0 i).getD (P.getD i 0) 0)=false:=by
    have:(Ry (sN L) L.length P t0 i).getD (P.getD i 0) 0=_:=he;rw[this];simp
   have hnx:Ry (sN L) L.length P t0 (i+1)=Ry (sN L) L.length P t0 i:=OT hyt he
   have hs:Dr (Xu L) (Oy (r::P)) (b,(i:Int),Ry (sN L) L.length P t0 i)=some (.next (b,((i+1:Nat):Int),Ry (sN L) L.length P t0 (i+1))):=by
    unfold Dr;simp only[hdl,hlen,F1 hil,Ae,A5,NR hil,hpred,hma,Ay,hb,A0];rw[Ad (H6 hil),Ad (H6 (by rw[Nj];exact hyn)),Ad (H6 hyt),Ay,w1 (by omega),hnx]
   obtain⟨b',e1,e2⟩:=ih (i+1) b (by omega);refine⟨b',by rw[Ao hs,e1],λh=>?_,λ⟨h1,h2⟩=>e2.2 ⟨h1,λj hj=>h2 j (by omega)⟩⟩;obtain⟨h1,h2⟩:=e2.1 h;refine⟨h1,λj hj1 hj2=>?_⟩
   by_cases e:j=i
   ·subst e;exact he
   ·exact h2 j (by omega) hj2
  ·have hb:((Js (sN L) L.length (Ry (sN L) L.length P t0 i) (P.getD i 0):Int)!=(Ry (sN L) L.length P t0 i).getD (P.getD i 0) 0)=true:=by
    rw[zzL90];exact λe=>he e.symm
   have hs:Dr (Xu L) (Oy (r::P)) (b,(i:Int),Ry (sN L) L.length P t0 i)=some (.next (true,((i+1:Nat):Int),Ry (sN L) L.length P t0 (i+1))):=by
    unfold Dr;simp only[hdl,hlen,F1 hil,Ae,A5,NR hil,hpred,hma,Ay,hb];rw[Ad (H6 hil),Ad (H6 (by rw[Nj];exact hyn)),Ad (H6 hyt),Ad (H6 hyt),Ay,w1 (by omega)]
    rfl
   obtain⟨b',e1,e2⟩:=ih (i+1) true (by omega);refine⟨b',by rw[Ao hs,e1],λh=>?_,λ⟨h1,h2⟩=>absurd (h2 i (zzL8 _) hil) he⟩;obtain⟨h1,_⟩:=e2.1 h;cases h1
theorem XZ{t0:List Int}(h:Ready (sN L) r L.length P t0 0):∃ b,Aj (Dr (Xu L) (Oy (r::P))) (false,(0:Int),t0)=some (b,Ry (sN L) L.length P t0 P.length)/\(b=false↔Q0 (sN L) L.length P t0):=by
 obtain⟨b,e1,e2⟩:=SM hm o h P.length 0 false (by omega);refine⟨b,e1,e2.trans ⟨λ⟨_,h2⟩=>?_,λhs=>⟨rfl,λj _ hj=>?_⟩⟩⟩
 ·have key:∀ j,j<=P.length->Ry (sN L) L.length P t0 j=t0:=by
   intro j
   induction j with
   | zero=>intro _;rfl
   | succ j ih=>
    intro hj;have ih':=ih (by omega);have rd:=h.round o j (by omega)
    have hyn:P.getD j 0<(Ry (sN L) L.length P t0 j).length:=by rw[rd.len];exact o.lt (E7 _ (M2 (by omega)))
    have:Ry (sN L) L.length P t0 (j+1)=Ry (sN L) L.length P t0 j:=OT hyn (h2 j (Lb _) (by omega));rw[this,ih']
  intro i hi;have:=h2 i (Lb _) hi;rwa[key i (by omega)]at this
 ·rw[S6 o h.len hs j (by omega)];exact hs j hj
open Classical in
theorem VB(j:Nat):Eu (Xu L) (Oy (r::P),BO (sN L) L.length P (Eo L.length r) j)=some (if Q0 (sN L) L.length P (BO (sN L) L.length P (Eo L.length r) j) then .done (BO (sN L) L.length P (Eo L.length r) (j+1)) else .next (Oy (r::P),BO (sN L) L.length P (Eo L.length r) (j+1))):=by
 obtain⟨b,e1,e2⟩:=XZ hm o (Ready.rounds o j);have hL2:Ow (Xu L) (Oy (r::P))=Dr (Xu L) (Oy (r::P)):=rfl
 have hlen:(0:Int)<=1/\(1:Int)<=((Oy (r::P)).length:Int):=by simp[Oy];omega
 unfold Eu;simp only[hL2,e1,Ay];rw[Ad hlen]
 cases b with
 | false=>rw[if_pos (e2.1 rfl)];rfl
 | true=>rw[if_neg (λh=>by have:=e2.2 h;cases this)];rfl
theorem PB:∃ J,Q0 (sN L) L.length P (BO (sN L) L.length P (Eo L.length r) J)/\Aj (Eu (Xu L)) (Oy (r::P),Eo L.length r)=some (BO (sN L) L.length P (Eo L.length r) J):=by
 obtain⟨J,h1,h2⟩:=iD o;refine⟨J,h2,?_⟩
 have key:∀ d j,j+d=J->Aj (Eu (Xu L)) (Oy (r::P),BO (sN L) L.length P (Eo L.length r) j)=some (BO (sN L) L.length P (Eo L.length r) J):=by
  intro d
  induction d with
  | zero=>
   intro j hj
   obtain rfl:j=J:=by omega
   have hF:=VB hm o j;rw[if_pos h2]at hF;rw[Ah hF];have:BO (sN L) L.length P (Eo L.length r) (j+1)=BO (sN L) L.length P (Eo L.length r) j:=S6 o (Ready.rounds o j).len h2 P.length (zzL8 _);rw[this]
  | succ d ih=>
   intro j hj;have hF:=VB hm o j;rw[if_neg (h1 j (by omega))]at hF;rw[Ao hF];exact ih (j+1) (by omega)
 exact key J 0 (by omega)
end
theorem jC(g:Cy)(r:Int)(h1:Fits g.Succ)(h2:Fits g.Pred):Nd g r=some (PA g r):=by
 unfold PA
 by_cases hc:X8 g=true/\0<=r/\r<(g.Succ.length:Int)
 ·rw[if_pos hc];obtain⟨hG,h0,hlt⟩:=hc;obtain⟨hm,hg⟩:=fM hG;obtain⟨hL1,hL64,_⟩:=mayS_iff.1 hm
  have hr:r.toNat<g.Succ.length:=by omega
  have hrn:((r.toNat:Nat):Int)=r:=U5 h0;obtain⟨O,hO⟩:=Ord.exist (Uz hm) hr;have hord:=(KA g h1 trivial r).1 hG h0 hlt O hO;obtain⟨P,rfl,o⟩:=hO.ordered hr (Uz hm);obtain⟨J,hJ,hl⟩:=PB hm o;have ht:=(Zu o hJ).eq hm hr o;rw[ht]at hl;have hlen:(((Oy (r.toNat::P)).length:Int)==0)=false:=zzL23.2 (by simp[Oy];omega)
  have hlen2:(0:Int)<=1/\(1:Int)<=((Oy (r.toNat::P)).length:Int):=by simp[Oy];omega
  have hL2:Ow g (Oy (r.toNat::P))=Dr g (Oy (r.toNat::P)):=rfl
  have hst:(O6 (Eu g (Oy (r.toNat::P),Eo g.Succ.length r.toNat)) (Eu g))=some (Xe g.Succ r.toNat):=by
   rw[Zt,hg];exact hl
  unfold Nd;rw[hord,Ay,hlen,A0,bt hL1 hL64,Ay,Ad (kQ h0 (by simpa using hlt)),Ad hlen2]
  have:(Eu g (Oy (r.toNat::P),Eo g.Succ.length r.toNat))=(Aj (Dr g (Oy (r.toNat::P))) (false,0,(List.replicate g.Succ.length (-2:Int)).set r.toNat (-1))).bind (λx22=>(match x22 with|(b10,l11)=>(bif b10 then(some (.next (Oy (r.toNat::P),l11))) else(some (.done l11))))):=by
   unfold Eu Eo;simp only[hL2];rw[Ad hlen2]
  rw[this]at hst;refine Eq.trans ?_ (B8 (λx:Option (List Int)=>x.bind λx42=>some x42) hst)
  rfl
 ·rw[if_neg hc];unfold Nd
  have:(X8 g&&(decide (0<=r)&&decide (r<(g.Succ.length:Int))))=false:=by
   rw[Bool.eq_false_iff];intro h;rw[A4,A4,Du,Du]at h;exact hc h
  rw[(KA g h1 trivial r).2 this,Ay]
  rfl
theorem iY{α:Type}(l:List α)(d:α)(p:α->Bool){X:Type}(f:Int->Option (LR Int X))(yes no:X)(hl:l.length<9223372036854775808)(hk:∀ i:Nat,i<l.length->f i=some (bif p (l.getD i d) then .next (Bh ((i:Int)+1)) else .done no))
  (he:f l.length=some (.done yes)):Aj f (0:Int)=some (bif l.all p then yes else no):=by
 have:=Sg l d p f yes no (λi hi hp=>by rw[hk i hi,hp,Ae,Dc hi hl]) (λi hi hp=>by rw[hk i hi,hp,A0]) he l.length 0 (by omega);rwa[K1]at this
theorem ir(f:Ab)(hf:de f)(l:Int)(t:List Int)(u:List A7):Gi f l t u=some (bif Qf f then 0 else 4,f,l,t,u):=by
 unfold Gi Ig;rw[mN f hf,Ay]
 cases Qf f<;>rfl
theorem WP(phis:List Fy)(l:List Int)(h1:phis.length<9223372036854775808)(h2:l.length<4611686018427387904):Jo phis l=some (phis.all (Ha l)):=by
 unfold Jo
 rw[iY phis (default:Fy) (Ha l) (Hl phis l) (.inl ()) (.inr false) h1 (λi hi=>by
  unfold Hl
  have hd:decide ((i:Int)<(phis.length:Int))=true:=by simpa using hi
  simp only[hd,Ae,Ar (Bb hi),Dg,JZ _ _ h2,Ay,Ha]
  cases decide ((phis.getD i default).From=l) with
  | false=>rfl
  | true=>
   simp only[Fi,A0,Gz,bne]
   cases(((phis.getD i default).Args.length:Int)==(l.length:Int))<;>rfl) (by unfold Hl;simp),Ay]
 cases phis.all (Ha l)<;>rfl
def JI(e:H1):Bool:=!((e.Kind==1 || e.Kind==3)&&(e.Arg !=0))
theorem WK{n:Nat}(e:H1)(hk:Na e n=true):Hs e=some (JI e):=by
 have h4:0<=e.Kind/\e.Kind<=3:=by
  have:=(A4 _ _▸hk:MX e=true/\iG n e.To=true).1;unfold MX at this;simp only[A4,Du]at this;omega
 unfold Hs JI
 have:e.Kind=0\/e.Kind=1\/e.Kind=2\/e.Kind=3:=by omega
 rcases this with h|h|h|h<;>rw[h]<;>cases hb:(e.Arg==0)<;>simp[hb,bne]
theorem SB{L:List (List Int)}(hm:Ln L=true){P:List Nat}(h0:0<L.length)(o:Ord (sN L) 0 P):decide (P.length<L.length) = !(List.range L.length).all λi=>(Qp L).getD i false:=by
 have hin:∀ x∈P,x<L.length:=λx hx=>(by obtain⟨Q,rfl,oo⟩:=o.ordered h0 (Uz hm);exact oo.lt hx)
 have hr:∀ z,(Qp L).getD z false=true↔z∈P:=λz=>by
  rw[o.mem z];exact W6 (Uz hm) h0 z
 have hle:=Lo L.length P o.nodup hin
 cases ha:(List.range L.length).all λi=>(Qp L).getD i false with
 | true=>
  have:=((List.perm_ext_iff_of_nodup o.nodup List.nodup_range).2 λi=>⟨λh=>zzL38.2 (hin i h),λh=>(hr i).1 (zzL27.1 ha i h)⟩:P.Perm (List.range L.length)).length_eq;rw[Zz]at this
  simp;omega
 | false=>
  obtain⟨i,hi,hni⟩:∃ i,i<L.length/\i∉P:=PJ λhc=>by
   have:(List.range L.length).all (λi=>(Qp L).getD i false)=true:=zzL27.2 λi hi=>(hr i).2 (PJ λhn=>hc ⟨i,by simpa using hi,hn⟩);rw[this]at ha;cases ha
  have:(i::P).length<=L.length:=Lo L.length (i::P) (zzL74.2 ⟨hni,o.nodup⟩) (λx hx=>by rcases zzL22.1 hx with rfl|hx;exact hi;exact hin x hx);simp at this ⊢;omega
theorem bE {f : Ab} (hf : OkF f) (l : Int) (t : List Int) (u : List A7) : ∃ t', Fo f l t u = some (bif F8 f then 0 else 5, f, l, t', u) ∧ (F8 f = true → t' = Bx f) := by
  have hmax : f.Blocks.length ≤ maxLen := by have := hf.blocks; have : (64 : Nat) ≤ maxLen := by decide
                                             omega
  unfold Fo; rw [mJ f hmax, Ay]
  cases hs : Nn f with
  | false => exact ⟨t, by unfold F8; rw [hs]; rfl, fun h => by unfold F8 at h; rw [hs] at h; cases h⟩
  | true =>
    have hm := Sy hs; have hlen := W9 f
    have hpos : 0 < (El f).length := by have := (shape_iff.1 hs).1.1; omega
    obtain ⟨h1, h2⟩ := bX hm; obtain ⟨P, hP⟩ := Ord.exist (Uz hm) hpos; have ho := (KA (Xu (El f)) h1 trivial 0).1 (NK hm) (by omega) (by show (0 : Int) < ((El f).length : Int); omega) P hP; have hfull := SB hm hpos hP; simp only [Ae, show (((0 : Int) != 0) == false) = true from rfl, show ((0 : Int) != 0) = false from rfl, A0, ho, Ay, show (false == false) = true from rfl]
    have e1 : decide (((Oy P).length : Int) < (f.Blocks.length : Int)) = decide (P.length < (El f).length) := by
      rw [hlen]; apply zzL105.2; simp [Oy]
    rw [e1, hfull]
    have hsd : F8 f = (((List.range f.Blocks.length).all fun i => (Qp (El f)).getD i false) && (List.range f.Blocks.length).all fun i => JI (f.Blocks.getD i default).End && (f.Blocks.getD i default).Phis.all (Ha ((Ff (El f)).getD i []))) := by
      unfold F8; rw [hs, Gz]
      have : ∀ (n : Nat) (p q : Nat → Bool), ((List.range n).all fun i => p i && q i) = ((List.range n).all p && (List.range n).all q) := fun n p q => by
        rw [Mn, A4, zzL27, zzL27, zzL27]
        constructor
        · intro h; exact ⟨fun x hx => ((A4 _ _).mp (h x hx)).1, fun x hx => ((A4 _ _).mp (h x hx)).2⟩
        · intro h x hx; rw [A4]; exact ⟨h.1 x hx, h.2 x hx⟩
      rw [← this]
      congr 1
      funext i
      show (_ && _ && _) = _
      rw [Bool.and_assoc]
      rfl
    rw [hlen]; rw [hsd]
    cases hr : (List.range f.Blocks.length).all fun i => (Qp (El f)).getD i false with
    | false => exact ⟨t, rfl, fun h => by cases h⟩
    | true =>
      refine ⟨Bx f, ?_, fun _ => rfl⟩; rw [Fi, A0, jC _ 0 h1 h2, Ay, Gz]; have hp := Qo hm
      have hpl : (Xu (El f)).Pred.length = f.Blocks.length := by rw [← hlen]; exact Nj _
      have key : Aj (Ci f l u (Xu (El f), 0) (Bx f)) (0 : Int) = some (bif (List.range f.Blocks.length).all (fun i => JI (f.Blocks.getD i default).End && (f.Blocks.getD i default).Phis.all (Ha ((Ff (El f)).getD i []))) then .inl () else .inr ((5 : Int), f, l, Bx f, u)) := by
        have hk : ∀ i : Nat, i < f.Blocks.length → Ci f l u (Xu (El f), 0) (Bx f) (i : Int) = some (bif (JI (f.Blocks.getD i default).End && (f.Blocks.getD i default).Phis.all (Ha ((Ff (El f)).getD i []))) then .next ((i : Int) + 1) else .done (.inr ((5 : Int), f, l, Bx f, u))) := fun i hi => by
          have hB := hf.block _ (getD_mem (d := (default : Ag)) hi); have hpi : B9 (i : Int) (Xu (El f)).Pred.length := Bb (by omega); have hpg : ((Xu (El f)).Pred.getD i []).length ≤ 64 := hp.2 _ (getD_mem (by rw [Nj]; omega)); unfold Ci
          have hd : decide ((i : Int) < (f.Blocks.length : Int)) = true := by simpa using hi
          simp only [hd, Ae, Ar (Bb hi), Ar hpi, Dg, WP (f.Blocks.getD i default).Phis ((Xu (El f)).Pred.getD i []) (by have := hB.phis; omega) (by omega), Ay]; have ha : Hs (⟨(f.Blocks.getD i default).End.Kind, (f.Blocks.getD i default).End.Arg, (f.Blocks.getD i default).End.To⟩ : H1) = some (JI (f.Blocks.getD i default).End) := WK (n := f.Blocks.length) (f.Blocks.getD i default).End ((shape_iff.1 hs).2 i hi); rw [ha, Dc hi (by have := hf.blocks; omega)]
          show _ = some (bif (JI (f.Blocks.getD i default).End && (f.Blocks.getD i default).Phis.all (Ha ((Xu (El f)).Pred.getD i []))) then _ else _)
          cases (f.Blocks.getD i default).Phis.all (Ha ((Xu (El f)).Pred.getD i [])) <;> cases JI (f.Blocks.getD i default).End <;> rfl
        exact XD _ _ _ _ _ (fun i hi hp => by rw [hk i hi, hp]; rfl) (fun i hi hp => by rw [hk i hi, hp]; rfl) (by unfold Ci; simp)
      show ((Aj (Ci f l u (Xu (El f), 0) (Bx f)) (0 : Int)).bind _) = _
      rw [key, Ay]
      cases (List.range f.Blocks.length).all (fun i => JI (f.Blocks.getD i default).End && (f.Blocks.getD i default).Phis.all (Ha ((Ff (El f)).getD i []))) <;> rfl
theorem ie(o:Bv)(l:Int)(h0:0<=l)(h2:l<=2)(hk:Hq o=true):Ms o l=some (!decide (JY l<o.Kind)&&!(decide (l<2)&&decide (1<o.Lanes))):=by
 have hl:=bn hk
 have hK:o.Kind<=22:=by
  simp only[Hq,A4]at hk;have:=hk.1.2.1.1.1;unfold bf at this;simp only[A4,Du]at this;omega
 unfold Ms JY
 have:l=0\/l=1\/l=2:=by omega
 rcases this with rfl|rfl|rfl
 ·have ha:decide (o.Kind<=17) = !decide (17<o.Kind):=by rw[Mn];simp
  have hb:(o.Lanes==1) = !decide (1<o.Lanes):=by rw[Mn];simp;omega
  show some (bif decide (o.Kind<=17) then(o.Lanes==1) else false)=some (!decide (17<o.Kind)&&!(true&&decide (1<o.Lanes)))
  rw[ha,hb]
  cases decide (17<o.Kind)<;>cases decide (1<o.Lanes)<;>rfl
 ·have ha:decide (o.Kind<=20) = !decide (20<o.Kind):=by rw[Mn];simp
  have hb:(o.Lanes==1) = !decide (1<o.Lanes):=by rw[Mn];simp;omega
  show some (bif decide (o.Kind<=20) then(o.Lanes==1) else false)=some (!decide (20<o.Kind)&&!(true&&decide (1<o.Lanes)))
  rw[ha,hb]
  cases decide (20<o.Kind)<;>cases decide (1<o.Lanes)<;>rfl
 ·show some true=some (!decide (22<o.Kind)&&!(false&&decide (1<o.Lanes)))
  rw[Fh (by omega)]
  rfl
theorem WO(o:Bv)(ho:ZC o)(f:Ab)(l:Int)(h0:0<=l)(h2:l<=2)(t:List Int)(u:List A7):E3 o f l t u=some (G3 l o,f,l,t,u):=by
 unfold E3 G3;rw[CR o ho,Ay]
 cases hk:Hq o with
 | false=>rfl
 | true=>
  rw[show(true==true)=true from rfl,Ae,ie o l h0 h2 hk,Ay,Ae,Gz]
theorem eS(b:Ag){f:Ab}(hf:OkF f)(hb:b∈f.Blocks)(l:Int)(h0:0<=l)(h2:l<=2)(t:List Int)(u:List A7):Hj b.Ops f l t u=some (b.Ops.all (G3 l),f,l,t,u):=by
 have hB:=hf.block b hb
 have key:∀ k i:Nat,i+k=b.Ops.length->Aj (Ej b.Ops) ((i:Int),f.Params,f.Ret,f.Blocks,l,t,u)=some (bif (b.Ops.drop i).all (G3 l) then .inl (f.Params,f.Ret,f.Blocks,l,t,u) else .inr (false,f,l,t,u)):=by
  intro k
  induction k with
  | zero=>
   intro i h
   obtain rfl:i=b.Ops.length:=by omega
   rw[Ah (x:=.inl (f.Params,f.Ret,f.Blocks,l,t,u)) (by unfold Ej;simp)]
   simp
  | succ k ih=>
   intro i h
   have hi:i<b.Ops.length:=by omega
   have hd:decide ((i:Int)<(b.Ops.length:Int))=true:=by simpa using hi
   have hdr:b.Ops.drop i=b.Ops.getD i default::b.Ops.drop (i+1):=by rw[Ml hi,Aa _ _ _ hi]
   have hx:=WO (b.Ops.getD i default) (jM hf hb (getD_mem hi)) f l h0 h2 t u;rw[hdr,Oq]
   cases ho:G3 l (b.Ops.getD i default) with
   | true=>
    rw[ho]at hx
    rw[Ao (s':=(((i+1:Nat):Int),f.Params,f.Ret,f.Blocks,l,t,u)) (by
     unfold Ej;simp only[hd,Ae,Ar (Bb hi),Dg,hx,Ay,Fi,A0,Dc hi (by have:=hB.ops;omega)]
     rfl),ih (i+1) (by omega),Gz]
   | false=>
    rw[ho]at hx
    rw[Ah (x:=.inr (false,f,l,t,u)) (by
     unfold Ej
     simp only[hd,Ae,Ar (Bb hi),Dg,hx,Ay,L7])]
    rfl
 unfold Hj;rw[show(0:Int)=((0:Nat):Int) from rfl,key b.Ops.length 0 (by omega),K1,Ay]
 cases b.Ops.all (G3 l)<;>rfl
theorem ax(b:Ag)(h:b.Phis.length<9223372036854775808):G1 b.Phis=some (b.Phis.all λp=>Dj p.Bits):=by
 unfold G1
 rw[iY b.Phis (default:Fy) (λp=>Dj p.Bits) (Fn b.Phis) (.inl ()) (.inr false) h (λi hi=>by
  unfold Fn Lk
  have hd:decide ((i:Int)<(b.Phis.length:Int))=true:=by simpa using hi
  simp only[hd,Ae,Ar (Bb hi),Dg,Pn,Ay]
  cases Dj (b.Phis.getD i default).Bits<;>rfl) (by unfold Fn;simp),Ay]
 cases b.Phis.all λp=>Dj p.Bits<;>rfl
theorem aw(p:List Int)(h:p.length<9223372036854775808):Jn p=some (p.all Dj):=by
 unfold Jn
 rw[iY p (0:Int) Dj (Hk p) (.inl ()) (.inr false) h (λi hi=>by
  unfold Hk
  have hd:decide ((i:Int)<(p.length:Int))=true:=by simpa using hi
  simp only[hd,Ae,Ar (Bb hi),Dg,Pn,Ay]
  cases Dj (p.getD i 0)<;>rfl) (by unfold Hk;simp),Ay]
 cases p.all Dj<;>rfl
theorem JN(b:Ag){f:Ab}(hf:OkF f)(hb:b∈f.Blocks)(l:Int)(h0:0<=l)(h2:l<=2)(t:List Int)(u:List A7):D3 b f l t u=some (Hh l b,f,l,t,u):=by
 unfold D3 Hh;rw[ax b (by have:=(hf.block b hb).phis;omega),Ay,eS b hf hb l h0 h2 t u]
 cases(b.Phis.all λp=>Dj p.Bits)<;>rfl
theorem eX{f:Ab}(hf:OkF f)(l:Int)(h0:0<=l)(h2:l<=2)(t:List Int)(u:List A7):F4 f l t u=some (bif O7 f l then 0 else 6,f,l,t,u):=by
 have key:∀ k i:Nat,i+k=f.Blocks.length->Aj (Dq f.Blocks) ((i:Int),f.Params,f.Ret,f.Blocks,l,t,u)=some (bif (f.Blocks.drop i).all (Hh l) then .inl (f.Params,f.Ret,f.Blocks,l,t,u) else .inr (false,f,l,t,u)):=by
  intro k
  induction k with
  | zero=>
   intro i h
   obtain rfl:i=f.Blocks.length:=by omega
   rw[Ah (x:=.inl (f.Params,f.Ret,f.Blocks,l,t,u)) (by unfold Dq;simp)]
   simp
  | succ k ih=>
   intro i h
   have hi:i<f.Blocks.length:=by omega
   have hd:decide ((i:Int)<(f.Blocks.length:Int))=true:=by simpa using hi
   have hdr:f.Blocks.drop i=f.Blocks.getD i default::f.Blocks.drop (i+1):=by rw[Ml hi,Aa _ _ _ hi]
   have hx:=JN (f.Blocks.getD i default) hf (getD_mem hi) l h0 h2 t u;rw[hdr,Oq]
   cases ho:Hh l (f.Blocks.getD i default) with
   | true=>
    rw[ho]at hx
    rw[Ao (s':=(((i+1:Nat):Int),f.Params,f.Ret,f.Blocks,l,t,u)) (by
     unfold Dq;simp only[hd,Ae,Ar (Bb hi),Dg,hx,Ay,Fi,A0,Dc hi (by have:=hf.blocks;omega)]
     rfl),ih (i+1) (by omega),Gz]
   | false=>
    rw[ho]at hx
    rw[Ah (x:=.inr (false,f,l,t,u)) (by
     unfold Dq
     simp only[hd,Ae,Ar (Bb hi),Dg,hx,Ay,L7])]
    rfl
 have hall:F3 f.Blocks f l t u=some (f.Blocks.all (Hh l),f,l,t,u):=by
  unfold F3;rw[show(0:Int)=((0:Nat):Int) from rfl,key f.Blocks.length 0 (by omega),K1,Ay]
  cases f.Blocks.all (Hh l)<;>rfl
 unfold F4 O7 Ig;rw[aw _ (by have:=hf.few;omega),Ay,hall,Pn]
 cases f.Params.all Dj<;>cases Dj f.Ret<;>cases f.Blocks.all (Hh l)<;>rfl
def eL(d:TDef):G4:=bif decide (d.Block<0) then⟨0,-1⟩ else⟨d.Block,d.At⟩
def AR(d:TDef):Ak:=⟨d.Shape,eL d⟩
def dv(l:List TDef):List (Int×Ak):=l.map λd=>(d.V,AR d)
def FB(acc:List (Int×Ak))(v:Int):Bool:=(B0 acc v || decide (v<1)) || decide (1023<v)
def F7:List (Int×Ak)->List TDef->Bool×List (Int×Ak)
 | acc,[]=>(true,acc)
 | acc,d::ds=>bif FB acc d.V then(false,acc) else F7 (Ek acc d.V (AR d)) ds
theorem X0:∀(a b:List TDef) (acc:List (Int×Ak)),F7 acc (a++b)=bif (F7 acc a).1 then F7 (F7 acc a).2 b else F7 acc a
 | [],b,acc=>rfl
 | d::a,b,acc=>by
  rw[Z0];simp only[F7]
  cases FB acc d.V with
  | true=>rfl
  | false=>simp only[A0];exact X0 a b _
theorem Sh{V:Type}(k:Int):∀ l:List (Int×V),B0 l k=l.any λq=>k==q.1
 | []=>rfl
 | (a,b)::l=>by rw[List.any_cons,<- Sh k l];rfl
theorem T0{V:Type}(k:Int)(v:V):∀{l:List (Int×V)},B0 l k=false->Ek l k v=l++[(k,v)]
 | [],_=>rfl
 | (a,b)::l,h=>by
  simp only[B0,EQ]at h;simp only[Ek,h.1,A0,T0 k v h.2,Z0]
theorem ME(v:Int)(s:Int×Int)(p:G4)(f:Ab)(l:Int)(t:List Int)(vs:List (Int×Ak))(u:List A7) :
  D4 v s p f l t vs u=some (bif FB vs v then(false,f,l,t,u,vs) else(true,f,l,t,u,Ek vs v ⟨s,p⟩)):=by
 unfold D4 FB
 cases B0 vs v<;>cases decide (v<1)<;>cases decide (1023<v)<;>rfl
def fo(f:Ab)(l:Int)(t:List Int)(u:List A7)(r:Bool×List (Int×Ak)):(List Int×Int×List Ag×Int×List Int×List A7×List (Int×Ak)) ⊕ (Bool×Ab×Int×List Int×List A7×List (Int×Ak)):=
 bif r.1 then .inl (f.Params,f.Ret,f.Blocks,l,t,u,r.2) else .inr (false,f,l,t,u,r.2)
theorem il(b:Ag)(h:b.Phis.length<9223372036854775808)(i:Nat)(f:Ab)(l:Int)(t:List Int)(u:List A7):∀(k j:Nat) (vs:List (Int×Ak)),j+k=b.Phis.length->
  Aj (Cq (i:Int) b) ((j:Int),f.Params,f.Ret,f.Blocks,l,t,u,vs)=some (fo f l t u (F7 vs ((List.range' j k).flatMap λ(k:Nat)=>[(⟨(b.Phis.getD k default).Dst,i,-1,((b.Phis.getD k default).Bits,1)⟩:TDef)]))):=by
 intro k
 induction k with
 | zero=>
  intro j vs hj
  obtain rfl:j=b.Phis.length:=by omega
  rw[Ah (x:=.inl (f.Params,f.Ret,f.Blocks,l,t,u,vs)) (by unfold Cq;simp)]
  rfl
 | succ k ih=>
  intro j vs hj
  have hi:j<b.Phis.length:=by omega
  have hd:decide ((j:Int)<(b.Phis.length:Int))=true:=by simpa using hi
  have hx:=ME (b.Phis.getD j default).Dst ((b.Phis.getD j default).Bits,1) (⟨(i:Int),-1⟩:G4) f l t vs u
  have hat:eL (⟨(b.Phis.getD j default).Dst,i,-1,((b.Phis.getD j default).Bits,1)⟩:TDef)=⟨(i:Int),-1⟩:=by unfold eL;rw[Fh (by show ¬ (i:Int)<0;omega)];rfl
  rw[Xl,Te,List.singleton_append];simp only[F7]
  cases hb:FB vs (b.Phis.getD j default).Dst with
  | true=>
   rw[hb]at hx
   rw[Ah (x:=.inr (false,f,l,t,u,vs)) (by
    unfold Cq Db;simp only[hd,Ae,Ar (Bb hi),Dg,Ay];rw[show(⟨f.Params,f.Ret,f.Blocks⟩:Ab)=f from rfl,hx]
    rfl)]
   rfl
  | false=>
   rw[hb]at hx
   rw[Ao (s':=(((j+1:Nat):Int),f.Params,f.Ret,f.Blocks,l,t,u,Ek vs (b.Phis.getD j default).Dst ⟨((b.Phis.getD j default).Bits,1),⟨(i:Int),-1⟩⟩)) (by
    unfold Cq Db;simp only[hd,Ae,Ar (Bb hi),Dg,Ay];rw[show(⟨f.Params,f.Ret,f.Blocks⟩:Ab)=f from rfl,hx,Dc hi h]
    rfl),ih (j+1) _ (by omega)]
   unfold AR;rw[hat]
   rfl
theorem kM{f0:Ab}(hf:OkF f0){b:Ag}(hb:b∈f0.Blocks)(i:Nat)(f:Ab)(l:Int)(t:List Int)(u:List A7):∀(k j:Nat) (vs:List (Int×Ak)),j+k=b.Ops.length->
  Aj (Bz (i:Int) b) ((j:Int),f.Params,f.Ret,f.Blocks,l,t,u,vs)=some (fo f l t u (F7 vs ((List.range' j k).flatMap λ(k:Nat)=>bif decide (0<(Gu (b.Ops.getD k default)).1) then[(⟨(b.Ops.getD k default).Dst,i,k,Gu (b.Ops.getD k default)⟩:TDef)] else[]))):=by
 have hB:=hf.block b hb;intro k
 induction k with
 | zero=>
  intro j vs hj
  obtain rfl:j=b.Ops.length:=by omega
  rw[Ah (x:=.inl (f.Params,f.Ret,f.Blocks,l,t,u,vs)) (by unfold Bz;simp)]
  rfl
 | succ k ih=>
  intro j vs hj
  have hi:j<b.Ops.length:=by omega
  have hd:decide ((j:Int)<(b.Ops.length:Int))=true:=by simpa using hi
  have hg:Ko (b.Ops.getD j default)=some (Gu (b.Ops.getD j default)):=RP _ (jM hf hb (getD_mem hi));have hx:=ME (b.Ops.getD j default).Dst (Gu (b.Ops.getD j default)) (⟨(i:Int),(j:Int)⟩:G4) f l t vs u
  have hat:eL (⟨(b.Ops.getD j default).Dst,i,j,Gu (b.Ops.getD j default)⟩:TDef)=⟨(i:Int),(j:Int)⟩:=by unfold eL;rw[Fh (by show ¬ (i:Int)<0;omega)];rfl
  rw[Xl,Te]
  cases hp:decide (0<(Gu (b.Ops.getD j default)).1) with
  | false=>
   rw[A0,Tf,<- ih (j+1) vs (by omega),Ao (s':=(((j+1:Nat):Int),f.Params,f.Ret,f.Blocks,l,t,u,vs)) (by
    unfold Bz;simp only[hd,Ae,Ar (Bb hi),Dg,hg,Ay,hp];rw[Dc hi (by have:=hB.ops;omega)]
    rfl)]
  | true=>
   rw[Ae,List.singleton_append];simp only[F7]
   cases hb:FB vs (b.Ops.getD j default).Dst with
   | true=>
    rw[hb]at hx
    rw[Ah (x:=.inr (false,f,l,t,u,vs)) (by
     unfold Bz;simp only[hd,Ae,Ar (Bb hi),Dg,hg,Ay,hp];rw[show(true==true)=true from rfl,Ae,show(⟨f.Params,f.Ret,f.Blocks⟩:Ab)=f from rfl,hx]
     rfl)]
    rfl
   | false=>
    rw[hb]at hx
    rw[Ao (s':=(((j+1:Nat):Int),f.Params,f.Ret,f.Blocks,l,t,u,Ek vs (b.Ops.getD j default).Dst ⟨Gu (b.Ops.getD j default),⟨(i:Int),(j:Int)⟩⟩)) (by
     unfold Bz;simp only[hd,Ae,Ar (Bb hi),Dg,hg,Ay,hp];rw[show(true==true)=true from rfl,Ae,show(⟨f.Params,f.Ret,f.Blocks⟩:Ab)=f from rfl,hx,Dc hi (by have:=hB.ops;omega)]
     rfl),ih (j+1) _ (by omega)]
    unfold AR;rw[hat]
    rfl
theorem MF{f:Ab}(hf:OkF f){b:Ag}(hb:b∈f.Blocks)(i:Nat)(l:Int)(t:List Int)(u:List A7)(vs:List (Int×Ak)) :
  Ei (i:Int) b f l t vs u=some ((F7 vs (J1 b i)).1,f,l,t,u,(F7 vs (J1 b i)).2):=by
 unfold Ei J1;rw[show(0:Int)=((0:Nat):Int) from rfl,il b (by have:=(hf.block b hb).phis;omega) i f l t u b.Phis.length 0 vs (by omega),Ay,X0];rw[show(List.range' 0 b.Phis.length).flatMap (λ(k:Nat)=>[(⟨(b.Phis.getD k default).Dst,i,-1,((b.Phis.getD k default).Bits,1)⟩:TDef)])=Tn b i by rw[Tn,Zx]];unfold fo
 cases h1:(F7 vs (Tn b i)).1 with
 | false=>simp only[A0];rw[h1]
 | true=>
  simp only[Ae];rw[kM hf hb i f l t u b.Ops.length 0 _ (by omega),Ay];rw[show(List.range' 0 b.Ops.length).flatMap (λ(k:Nat)=>bif decide (0<(Gu (b.Ops.getD k default)).1) then[(⟨(b.Ops.getD k default).Dst,i,k,Gu (b.Ops.getD k default)⟩:TDef)] else[])=X1 b i by rw[X1,Zx]];unfold fo;cases h2:(F7 (F7 vs (Tn b i)).2 (X1 b i)).1<;>rfl
theorem T4{l:List TDef}{i:Nat}(hi:i<l.length):Kv l i=true↔valS (l.getD i default).V=true/\∀ j,j<i->(l.getD j default).V≠(l.getD i default).V:=by
 unfold Kv;rw[A4];refine and_congr Iff.rfl ?_;unfold Ia
 cases hx:l.findIdx? (λd=>d.V==(l.getD i default).V) with
 | none=>
  rw[List.findIdx?_eq_none_iff]at hx;have:=hx _ (getD_mem (d:=default) hi);simp at this
 | some j=>
  obtain⟨hj,h1,h2⟩:=List.findIdx?_eq_some_iff_getElem.1 hx;simp only[zzL72,Int.natCast_inj]
  constructor
  ·rintro rfl k hk he;have:=h2 k hk;rw[Aa _ _ _ (by omega:k<l.length)]at he;simp at this;exact this he
  ·intro h
   have hv:(l.getD j default).V=(l.getD i default).V:=by rw[Aa _ _ _ hj];simpa using h1
   rcases Nat.lt_trichotomy j i with hlt|rfl|hgt
   ·exact absurd hv (h j hlt)
   ·rfl
   ·have:=h2 i hgt;rw[<- Aa l i default hi]at this;simp at this
theorem fR(l:List TDef)(v:Int):B0 (dv l) v=l.any λd=>v==d.V:=by
 rw[Sh,dv,List.any_map];rfl
theorem CG:∀(ds pre:List TDef),(F7 (dv pre) ds).1=(List.range' pre.length ds.length).all (Kv (pre++ds))/\((F7 (dv pre) ds).1=true->(F7 (dv pre) ds).2=dv (pre++ds))
 | [],pre=>by simp[F7]
 | d::ds,pre=>by
  have hi:pre.length<(pre++d::ds).length:=by simp
  have hg:(pre++d::ds).getD pre.length default=d:=by simp[List.getD]
  have hj:∀ j,j<pre.length->(pre++d::ds).getD j default=pre.getD j default:=λj h=>by simp[List.getD,U3 h]
  have hok:Kv (pre++d::ds) pre.length = !FB (dv pre) d.V:=by
   rw[Mn,T4 hi,hg];unfold FB valS;rw[fR];simp only[On,EQ,IE,List.any_eq_false,zzL72,A4,Du]
   constructor
   ·rintro⟨⟨h1,h2⟩,h3⟩;refine⟨⟨λx hx he=>?_,by omega⟩,by omega⟩;obtain⟨j,hjl,rfl⟩:=K9 hx;have:=h3 j hjl;rw[hj j hjl,Aa _ _ _ hjl]at this;exact this he.symm
   ·rintro⟨⟨h1,h2⟩,h3⟩;refine⟨⟨by omega,by omega⟩,λj hjl he=>?_⟩;rw[hj j hjl,Aa _ _ _ hjl]at he;exact h1 _ (Xm hjl) he.symm
  rw[Oo,Xl,Oq,hok];simp only[F7]
  cases hb:FB (dv pre) d.V with
  | true=>exact⟨rfl,λh=>by cases h⟩
  | false=>
   have hn:B0 (dv pre) d.V=false:=by
    unfold FB at hb;simp only[EQ]at hb;exact hb.1.1
   have hs:Ek (dv pre) d.V (AR d)=dv (pre++[d]):=by rw[T0 _ _ hn,dv,dv,Y0];rfl
   have:=CG ds (pre++[d]);rw[E8,Zy,List.singleton_append]at this;rw[A0,hs,L7,Gz];exact this
def pv(f:Ab)(n:Nat):List (Int×Ak):=(List.range n).map λ(j:Nat)=>((j:Int)+1,⟨(f.Params.getD j 0,1),⟨0,-1⟩⟩)
theorem kY(f:Ab):pv f f.Params.length=dv (K6 f):=by
 unfold pv dv K6;rw[List.map_flatMap]
 induction List.range f.Params.length with
 | nil=>rfl
 | cons a l ih=>rw[Bs,Te,ih];rfl
theorem bD{f:Ab}(hf:OkF f):∀(k i:Nat),i+k=f.Params.length->Aj (D5 f) ((i:Int),pv f i)=some (pv f f.Params.length):=by
 intro k
 induction k with
 | zero=>
  intro i h
  obtain rfl:i=f.Params.length:=by omega
  exact Ah (by unfold D5;simp)
 | succ k ih=>
  intro i h
  have hi:i<f.Params.length:=by omega
  have hd:decide ((i:Int)<(f.Params.length:Int))=true:=by simpa using hi
  have hn:B0 (pv f i) ((i:Int)+1)=false:=by
   rw[Sh,pv,List.any_map,List.any_eq_false];intro j hj;have:=zzL38.1 hj
   simp;omega
  have hs:Ek (pv f i) ((i:Int)+1) ⟨(f.Params.getD i 0,1),⟨0,-1⟩⟩=pv f (i+1):=by
   rw[T0 _ _ hn,pv,pv,Y1,Y0];rfl
  rw[Ao (s':=(((i+1:Nat):Int),pv f (i+1))) (by
   unfold D5 Db;simp only[hd,Ae,Ar (Bb hi),Dg,Ay,Dc hi (by have:=hf.few;omega),hs]
   rfl)]
  exact ih (i+1) (by omega)
theorem ay{f:Ab}(hf:OkF f)(l:Int)(t:List Int)(u:List A7):∀(k i:Nat) (vs:List (Int×Ak)),i+k=f.Blocks.length->
  Aj (Da f) ((i:Int),vs,f.Params,f.Ret,f.Blocks,l,t,u)=some (bif (F7 vs ((List.range' i k).flatMap λi=>J1 (f.Blocks.getD i default) i)).1 then .inl ((F7 vs ((List.range' i k).flatMap λi=>J1 (f.Blocks.getD i default) i)).2,f.Params,f.Ret,f.Blocks,l,t,u) else
   .inr (7,f,l,t,u,(F7 vs ((List.range' i k).flatMap λi=>J1 (f.Blocks.getD i default) i)).2)):=by
 intro k
 induction k with
 | zero=>
  intro i vs h
  obtain rfl:i=f.Blocks.length:=by omega
  rw[Ah (x:=.inl (vs,f.Params,f.Ret,f.Blocks,l,t,u)) (by unfold Da;simp)]
  rfl
 | succ k ih=>
  intro i vs h
  have hi:i<f.Blocks.length:=by omega
  have hd:decide ((i:Int)<(f.Blocks.length:Int))=true:=by simpa using hi
  have hx:=MF hf (getD_mem (d:=default) hi) i l t u vs;rw[Xl,Te,X0]
  cases hb:(F7 vs (J1 (f.Blocks.getD i default) i)).1 with
  | false=>
   rw[hb]at hx
   rw[Ah (x:=.inr (7,f,l,t,u,(F7 vs (J1 (f.Blocks.getD i default) i)).2)) (by
    unfold Da;simp only[hd,Ae,Ar (Bb hi),Dg];rw[show(⟨f.Params,f.Ret,f.Blocks⟩:Ab)=f from rfl,hx]
    rfl),A0,hb]
   rfl
  | true=>
   rw[hb]at hx
   rw[Ao (s':=(((i+1:Nat):Int),(F7 vs (J1 (f.Blocks.getD i default) i)).2,f.Params,f.Ret,f.Blocks,l,t,u)) (by
    unfold Da;simp only[hd,Ae,Ar (Bb hi),Dg];rw[show(⟨f.Params,f.Ret,f.Blocks⟩:Ab)=f from rfl,hx,Dc hi (by have:=hf.blocks;omega)]
    rfl),ih (i+1) _ (by omega),Ae]
theorem nJ{f:Ab}(hf:OkF f):∀ i,i<f.Params.length->Kv (Au f) i=true:=λi hi=>by
 have hl:=GK f
 have hg:∀ j,j<f.Params.length->(Au f).getD j default=⟨(j:Int)+1,-1,0,(f.Params.getD j 0,1)⟩:=λj hj=>by
  have e:K6 f=(List.range f.Params.length).map λ(i:Nat)=>(⟨(i:Int)+1,-1,0,(f.Params.getD i 0,1)⟩:TDef):=by
   unfold K6
   induction List.range f.Params.length with
   | nil=>rfl
   | cons a l ih=>rw[Bs,Te,ih];rfl
  rw[Au,List.getD,U3 (by omega),e];simp[hj]
 have hle:i<(Au f).length:=by rw[Au,E8];omega
 rw[T4 hle,hg i hi];refine⟨?_,λj hj=>?_⟩
 ·have:=hf.few;simp only[valS,A4,Du];omega
 ·rw[hg j (by omega)];simp only;omega
theorem WN{f:Ab}(hf:OkF f)(l:Int)(t:List Int)(u:List A7):∃ vs,E1 f l t u=some (bif (List.range (Au f).length).all (Kv (Au f)) then 0 else 7,f,l,t,u,vs)/\((List.range (Au f).length).all (Kv (Au f))=true->vs=dv (Au f)):=by
 have hsp:=CG ((List.range f.Blocks.length).flatMap λi=>J1 (f.Blocks.getD i default) i) (K6 f)
 have hall:(List.range (Au f).length).all (Kv (Au f))=(F7 (dv (K6 f)) ((List.range f.Blocks.length).flatMap λi=>J1 (f.Blocks.getD i default) i)).1:=by
  rw[hsp.1]
  show(List.range (Au f).length).all (Kv (Au f))=(List.range' (K6 f).length _).all (Kv (Au f))
  have hs:List.range (Au f).length=List.range (K6 f).length++List.range' (K6 f).length ((List.range f.Blocks.length).flatMap λi=>J1 (f.Blocks.getD i default) i).length:=by
   rw[Zx,Zx,Au,E8];have:=List.range'_append_1 (s:=0) (m:=(K6 f).length) (n:=((List.range f.Blocks.length).flatMap λi=>J1 (f.Blocks.getD i default) i).length);rw[Fx]at this;exact this.symm
  rw[hs,List.all_append];have:(List.range (K6 f).length).all (Kv (Au f))=true:=zzL27.2 λi hi=>nJ hf i (by rw[<- GK f];exact zzL38.1 hi);rw[this,Gz]
 unfold E1;have hp:=bD hf f.Params.length 0 (by omega);have e0:pv f 0=[]:=rfl;rw[e0,show(((0:Nat):Int))=0 from rfl]at hp;rw[hp,Ay,kY];have hb:=ay hf l t u f.Blocks.length 0 (dv (K6 f)) (by omega);rw[show(((0:Nat):Int))=0 from rfl,<- Zx]at hb;rw[hb,Ay,hall];refine⟨(F7 (dv (K6 f)) ((List.range f.Blocks.length).flatMap λi=>J1 (f.Blocks.getD i default) i)).2,?_,hsp.2⟩
 cases(F7 (dv (K6 f)) ((List.range f.Blocks.length).flatMap λi=>J1 (f.Blocks.getD i default) i)).1<;>rfl
end
end Go.Proofs.YtiendmljhgbjoaaGreat
