/-
  The machine, the program's functions and the laws' arithmetic: part 4 of 5.
-/
import Derived.Test.YtiendmljhgbjoaaGreatPk3
import Derived.Lib.RowBridge
import Derived.OpenShut
import Derived.ShutString
set_option linter.unusedSectionVars false
set_option linter.unusedVariables false
set_option linter.unusedSimpArgs false
namespace Go.Proofs.YtiendmljhgbjoaaGreat
noncomputable section
open Go Go.RowKit
set_option maxRecDepth 100000
set_option maxHeartbeats 2000000
abbrev FZ:=(Int×(Int×Int))
abbrev mU:=(LR (List (Int×(Int×Int))) (List (Int×(Int×Int))))
def Im :List FZ->Option mU:=
 λ(l4:List FZ)=>(some (.done l4))
def Gu(x1:UQ):Nat->List FZ->Option mU:=
 λ(n3:Nat) (l4:List FZ)=>(some (.next (Ex l4 (x1.2.2.2.2.2.getD n3 ((0:Int),(default:Aj))).1 (((x1.2.2.2.2.2.getD n3 ((0:Int),(default:Aj))).2).shape.1,((x1.2.2.2.2.2.getD n3 ((0:Int),(default:Aj))).2).shape.2))))
def ax(x1:UQ)(n3:Nat):=(x1.2.2.2.2.2.getD n3 ((0:Int),(default:Aj)))
def il(x1:UQ):=(mapE (λ(v_:Aj)=>((Py v_):AV)) x1.2.2.2.2.2)
def n9(a4:Ab):AV:=(.agg [(Qj a4.Params),(Z7 a4.Ret),(ay a4.Blocks),(.int .i64 (2:Int)),jh,.nilm,(AV.list 5 Jq default ([]:List A6) .exact)])
def n8(a4:Ab):=(⟨[(3,(.ptr 3 0))],[(3,.row 110 [(Qj a4.Params),(Z7 a4.Ret),(ay a4.Blocks),(.int .i64 (2:Int)),jh,.nilm,(AV.list 5 Jq default ([]:List A6) .exact)])],[]⟩:St)
def nO(a4:Ab):=(⟨[(3,(.ptr 3 0))],[(3,.row 110 [(Qj a4.Params),(Z7 a4.Ret),(ay a4.Blocks),(.int .i64 (2:Int)),jh,.nilm,(AV.list 5 Jq default ([]:List A6) (.own 50306))]),(50306,.tok 5 195 (([]:List A6).length))],[]⟩:St)
def K2(a4:Ab):Option (List (Int×(Int×Int))):=
 ((Ge a4 (2:Int) ([]:A4) ([]:List A6)).bind λx1=>(bif (x1.1 !=0) then(some ([]:List FZ)) else((Wh (S:=List FZ) (X:=List FZ) JE ((mapE (λ(v_:Aj)=>((.agg (Qs v_)):AV)) x1.2.2.2.2.2).length) (Gu x1) Im ([]:List FZ)).bind (λx6=>(some x6)))))
variable{v0:Ab}{v32:List FZ}
theorem BQ(h:K2 v0=some v32):sP 36 [(.agg (Ys v0))] [] (.omap 20000) [(20000,.obj (.pmap false .i64 (mapE (λ(v_:G2)=>((DA v_):AV)) v32)))]:=
 sG Tryz.func36 λΓ q=>Ao q [1] [1] (gR q [3] [3] [(8,(n9 v0))] [] (c1 (show(AVle (.agg [(Qj v0.Params),(Z7 v0.Ret),(ay v0.Blocks),(.int .i64 (2:Int)),XY,.nilm,XY]) (n9 v0)) from(AVle.agg (.cons (AVle.refl _) (.cons (AVle.refl _) (.cons (AVle.refl _) (.cons (AVle.refl _) (.cons Dx (.cons (AVle.refl _) (.cons Dx .nil)))))))))) (Ul (n8 v0) (J3 (show Le Γ _ (nO v0) from Le.trans (Dv (st':=(n8 v0)) [3] [3] q) (Le.trans (Mh (r:=3) (j:=6) (nm:=50306) (sz':=5) (λi=>Jq (([]:List A6).getD i default)) 195 rfl rfl (nl rfl) rfl (.inl ⟨rfl,rfl⟩) (λh_=>absurd h_ (by decide))) (Dv (st':=(nO v0)) [3] [3,50306] q))) (J3 (show Le Γ _ (⟨[(3,(.ptr 3 0))],[(3,.row 110 [(Qj v0.Params),(Z7 v0.Ret),(ay v0.Blocks),(.int .i64 (2:Int)),(AV.list 1 Az 0 ([]:A4) .none),.nilm,(AV.list 5 Jq default ([]:List A6) (.own 50306))]),(50306,.tok 5 195 (([]:List A6).length))],[]⟩:St) from Le.trans (Dv (st':=(nO v0)) [3] [3,50306] q) (K1 (.cons (AVle.refl _) .nil) (.row (.cons (AVle.refl _) (.cons (AVle.refl _) (.cons (AVle.refl _) (.cons (AVle.refl _) (.cons AVle.untag (.cons (AVle.refl _) (.cons (AVle.refl _) .nil))))))) (.same .nil)))) (tB h λx1 y1 h=>tT q [3,10] [3,50306,10000305] [⟨[(3,30000),(50306,37006)],[(9200005,10000305)],(Z7 x1.1),(ld x1.2.1.Params x1.2.1.Ret x1.2.1.Blocks x1.2.2.1 x1.2.2.2.1 9200005 x1.2.2.2.2.1 x1.2.2.2.2.1.length (il x1)),[],[]⟩] (c1 (Rm y1)) (gC h (λh=>Ao q [2] [] (Ul (⟨[(2,.nilm)],[],[]⟩:St) (tS h (gK (e:=.ret) (Ks [(36002,20000)] (Le.trans (Le.trans (gX (t:=2) (nm:=36002) .i64 rfl rfl) (Dv (st':=⟨[(2,(.omap 36002))],[(36002,.obj (.map false .i64 (mapE (λ(v_:G2)=>((DA v_):AV)) ([]:List FZ))))],[]⟩) [2] [36002] q)) (oG 36002 false .i64 (f:=(λ(v_:G2)=>((DA v_):AV))) ZS))))))) λh=>gR q [3,4] [3,14,50306,10000305] [(13,(SA x1.2.2.2.2.2.length))] [] (c1 (show(AVle (.int .i64 ((il x1).length:Int)) (SA x1.2.2.2.2.2.length)) from(gq (f:=(λ(v_:Aj)=>((Py v_):AV))) (l:=x1.2.2.2.2.2) rfl))) (J3 (S6 (λ(k_:List HP) u=>Fn u [] [(bB 14 k_)]) (show[]=(mapE (λ(v_:G2)=>((DA v_):AV)) ([]:List FZ)) from rfl)) (Ao q [4,17] XM (tB h λx6 y6 h=>oU q y6 [4,17] XM (λu z2 l4=>(Fn u [] [(14,.obj (.map true .i64 (mapE (λ(v_:G2)=>((DA v_):AV)) l4))),(17,.obj (.miter (.omap 10000305) ((il x1).length) z2))])) (λu l5=>aG Γ (.exit 0) (Wj [4] [14] u [] [(14,.obj (.map true .i64 (mapE (λ(v_:G2)=>((DA v_):AV)) l5)))])) 17 18 19 17 10000305 false .i64 (il x1) [4,17,19] XM (kd:=(λz2 l4 y h hall=>ZB false (tS h (gO (D7 (Dv [4] [14] q)))))) (kn:=(λz2 l4 n3 y h hin3 hnn3=>ZB true (gR q [4,5,6,17] [6,14,17,10000305] [(20,(.tuple [(.int .i64 (ax x1 n3).1),(.agg (Qs ((ax x1 n3).2)))]))] [] (c3 (Eq.refl ((il x1).length)) (show(n3<(il x1).length) from hin3) (show(AVle (.tuple [.int .i64 ((il x1).getD n3 (0,.any)).1,((il x1).getD n3 (0,.any)).2]) (.tuple [(.int .i64 (ax x1 n3).1),(.agg (Qs ((ax x1 n3).2)))])) from(gi (f:=(λ(v_:Aj)=>((Py v_):AV))) (l:=x1.2.2.2.2.2) hin3))) (Ao q [4,17] XM (tS h (gN (Le.trans (S6 (λ(k_:List HP) u=>Fn u [] [(bB 14 k_)]) (show(Ex (mapE (λ(v_:G2)=>((DA v_):AV)) l4) (ax x1 n3).1 (.agg [(.int .i64 ((ax x1 n3).2).shape.1),(.int .i64 ((ax x1 n3).2).shape.2)]))=(mapE (λ(v_:G2)=>((DA v_):AV)) (Ex l4 (ax x1 n3).1 (((ax x1 n3).2).shape.1,((ax x1 n3).2).shape.2))) from(Xl (f:=(λ(v_:G2)=>((DA v_):AV))) (l:=l4) (v:=(((ax x1 n3).2).shape.1,((ax x1 n3).2).shape.2)) rfl rfl))) M7))))))) (ko:=(λl_ hp_=>jA (λst' hl7=>J3 (Le.trans hl7 (oG 14 true .i64 (f:=(λ(v_:G2)=>((DA v_):AV))) hp_)) (Ao q [2] [14] (Ul (⟨[(2,(.omap 14))],[(14,.obj (.pmap true .i64 (mapE (λ(v_:G2)=>((DA v_):AV)) x6)))],[]⟩:St) (tS h (gK (e:=.ret) (Ks [(14,20000)] (oX 14 .i64 (mapE (λ(v_:G2)=>((DA v_):AV)) x6)))))))))))))))))))
abbrev ia:=(Int×List (Int×D1))
abbrev mV:=(LR (Int×List (Int×D1)) (List (Int×D1)))
abbrev Zn:=(Int×D1)
def Hj(a4:Ab)(i1:Int):ia->Option mV:=
 λ((i5,l6):ia)=>(bif (decide (i5<(((a4.Blocks.getD i1.toNat default).Ops).length:Int))) then(Option.bind (α:=List Zn) (Cg (Bx i5 ((a4.Blocks.getD i1.toNat default).Ops).length) (Option.bind (α:=Bool) (bif (((((a4.Blocks.getD i1.toNat default).Ops).getD i5.toNat default).Kind:Int)==0) then(some (((((a4.Blocks.getD i1.toNat default).Ops).getD i5.toNat default).Kind:Int)==0)) else(bif (((((a4.Blocks.getD i1.toNat default).Ops).getD i5.toNat default).Kind:Int)==1) then(some (((((a4.Blocks.getD i1.toNat default).Ops).getD i5.toNat default).Kind:Int)==1)) else(bif (((((a4.Blocks.getD i1.toNat default).Ops).getD i5.toNat default).Kind:Int)==2) then(some (((((a4.Blocks.getD i1.toNat default).Ops).getD i5.toNat default).Kind:Int)==2)) else(bif (((((a4.Blocks.getD i1.toNat default).Ops).getD i5.toNat default).Kind:Int)==3) then(some (((((a4.Blocks.getD i1.toNat default).Ops).getD i5.toNat default).Kind:Int)==3)) else(some (((((a4.Blocks.getD i1.toNat default).Ops).getD i5.toNat default).Kind:Int)==8)))))) (λx11=>(bif x11 then(some (Ex l6 (((a4.Blocks.getD i1.toNat default).Ops).getD i5.toNat default).Dst (((a4.Blocks.getD i1.toNat default).Ops).getD i5.toNat default))) else(some l6))))) (λx13=>(some (.next ((Bh (i5+1)),x13))))) else(some (.done l6)))
def Hk(a4:Ab):ia->Option mV:=
 λ((i1,l2):ia)=>(bif (decide (i1<(a4.Blocks.length:Int))) then(Cg (Bx i1 a4.Blocks.length) ((Ai (Hj a4 i1) ((0:Int),l2)).bind (λx15=>(some (.next ((Bh (i1+1)),x15)))))) else(some (.done l2)))
def GO:=(λ(v_:D1)=>((Ws v_):AV))
def bT(a4:Ab)(i1:Int)(i5:Int):=(((a4.Blocks.getD i1.toNat default).Ops).getD i5.toNat default)
abbrev UR:=(List (Int×D1))
def Ma(a4:Ab):Option UR:=
 ((Ai (Hk a4) ((0:Int),([]:List Zn))).bind (λx17=>(some x17)))
variable{v33:List Zn}
theorem EP(h:Ma v0=some v33):sP 37 [(.agg (Ys v0))] [] (.omap 20000) [(20000,.obj (.map true .i64 (mapE (λ(v_:D1)=>((Ws v_):AV)) v33)))]:=
 sG Tryz.func37 λΓ q=>tW q [1] [1] [1,3] Se (J3 (S6 (λ(k_:List HP) u=>Fn u [] [(8,.obj (.map true .i64 k_))]) (show[]=(mapE GO ([]:List Zn)) from rfl)) (Ao q Yh [8] (tL q h Yh [8] (λu (i1,l2)=>(Fn u [(12,(Z7 i1))] [(8,.obj (.map true .i64 (mapE GO l2)))])) (λu l3=>aG Γ (.exit 0) (Wj [3] [8] u [] [(8,.obj (.map true .i64 (mapE GO l3)))])) (λ⟨i1,l2⟩ y h=>Ao q [3,10,11,12,13] [8] (gC h (λh=>tV q [3,5,10,11,12] [5,8] h λh=>Ao q RB [8] (tL q h RB [8] (λu (i5,l6)=>(Fn u [(19,(Z7 i5))] [(8,.obj (.map true .i64 (mapE GO l6)))])) (λu l7=>aG Γ (.exit 2) (Wj Yh [8] u [] [(8,.obj (.map true .i64 (mapE GO l7)))])) (λ⟨i5,l6⟩ y h=>Ao q [3,10,11,12,17,18,19,20] [8] (gC h (λh=>tB h λx13 y13 h=>gJ y13 (λl8=>aG Γ .normal (⟨[(3,(.omap 8)),(10,(ay v0.Blocks)),(11,(SA v0.Blocks.length)),(12,(Z7 i1)),(17,(AV.list 6 NZ default (v0.Blocks.getD i1.toNat default).Ops .none)),(18,(.int .i64 (((v0.Blocks.getD i1.toNat default).Ops).length:Int))),(19,(Z7 i5))],[(8,.obj (.map true .i64 (mapE GO l8)))],[]⟩:St)) (λy h=>tV q [3,7,10,11,12,17,18,19] Mt h λh=>Ao q [3,7,10,11,12,17,18,19,24] Mt (tB h λx11 y11 h=>gJ y11 (λb10=>aG Γ .normal (⟨[(3,(.omap 8)),(7,(.ptr 7 0)),(10,(ay v0.Blocks)),(11,(SA v0.Blocks.length)),(12,(Z7 i1)),(17,(AV.list 6 NZ default (v0.Blocks.getD i1.toNat default).Ops .none)),(18,(.int .i64 (((v0.Blocks.getD i1.toNat default).Ops).length:Int))),(19,(Z7 i5)),(25,(.bool b10))],[(7,.row 43 [(.int .i64 (bT v0 i1 i5).Kind),(.int .i64 (bT v0 i1 i5).Bits),(.int .i64 (bT v0 i1 i5).Lanes),(.int .i64 (bT v0 i1 i5).Dst),(AV.list 1 Az 0 (bT v0 i1 i5).Args .none),(.int .u64 (bT v0 i1 i5).Imm)]),(8,.obj (.map true .i64 (mapE GO l6)))],[]⟩:St)) (λy h=>Ao q XF Mt (gC h (λh=>tS h (gK (D7 (Dv QY Mt q)))) λh=>Ao q XF Mt (gC h (λh=>tS h (gK (D7 (Dv QY Mt q)))) λh=>Ao q XF Mt (gC h (λh=>tS h (gK (D7 (Dv QY Mt q)))) λh=>Ao q XF Mt (gC h (λh=>tS h (gK (D7 (Dv QY Mt q)))) λh=>Ao q QY Mt (tS h (gK (D7 M7)))))))) (gA (gC h (λh=>Ao q RB [8] (tS h (gK (D7 (Le.trans (S6 (λ(k_:List HP) u=>Fn u [] [(8,.obj (.map true .i64 k_))]) (show(Ex (mapE GO l6) (bT v0 i1 i5).Dst (Ws (bT v0 i1 i5)))=(mapE GO (Ex l6 (bT v0 i1 i5).Dst (bT v0 i1 i5))) from(Xl (f:=GO) (l:=l6) (v:=(bT v0 i1 i5)) rfl rfl))) M7))))) λh=>tS h (gK (D7 (Dv RB [8] q))))))) (gA (Ao q RB [8] (tN h)))) λh=>tS h (gO (D7 (Dv Yh [8] q))))) λx15 h=>gA (Ao q Yh [8] (tN h)))) λh=>tS h (gO (D7 (Dv [3] [8] q))))) λx17 h=>gA (Ao q [2] [8] (tS h (C1 [(8,20000)]))))))
def H4(a1:TForm):G2->Option oI:=
 λ((i1,i2):G2)=>(bif (decide (i2<(a1.Terms.length:Int))) then(Cg (Bx i2 a1.Terms.length) (bif (bif (bif (decide (((a1.Terms.getD i2.toNat default).V:Int)<=i1)) then true else(decide ((1023:Int)<(a1.Terms.getD i2.toNat default).V))) then true else(((a1.Terms.getD i2.toNat default).Scale:Int)==0)) then(some (.done (.inr false))) else(some (.next ((a1.Terms.getD i2.toNat default).V,(Bh (i2+1))))))) else(some (.done (.inl ()))))
def KI(Γ:G5)(a1:TForm)(r:Bool):Exit->St->Prop:=fK Tryz.prog Γ Tryz.f13.results.toList [] (.bool r) []
def lA(a1:TForm)(i2:Int)(i1:Int):=(bif (decide (((a1.Terms.getD i2.toNat default).V:Int)<=i1)) then true else(decide ((1023:Int)<(a1.Terms.getD i2.toNat default).V)))
def D8(a1:TForm):Option Bool:=
 ((Ai (H4 a1) ((0:Int),(0:Int))).bind (λx4=>(match x4 with|(.inl _)=>(some true)|(.inr r6)=>(some r6))))
variable{v3:Bool}{v34:TForm}
theorem F0(h:D8 v34=some v3):sP 13 [(Ln v34)] [] (.bool v3) []:=
 sG Tryz.func13 λΓ q=>tW q [1] [1] [1,3] [1] (Ao q MU [] (tL q h MU [] (λu (i1,i2)=>(Fn u [(3,(Z7 i1)),(9,(Z7 i2))] [])) (λu x_=>match x_ with|(.inl _)=>aG Γ (.exit 0) (⟨[],[],[]⟩:St)|(.inr r_)=>aR (KI Γ v34 r_)) (λ⟨i1,i2⟩ y h=>Ao q [3,7,8,9,10] [] (gC h (λh=>tV q [3,5,7,8,9] [5] h λh=>tU q [5,7,8,9,26] [5] (Pz ((decide (((v34.Terms.getD i2.toNat default).V:Int)<=i1))==false) (ci (U4 (decide (((v34.Terms.getD i2.toNat default).V:Int)<=i1))) (Pz ((lA v34 i2 i1)==false) (c1 (U4 (lA v34 i2 i1)))))) (gC h (λh=>Ao q [2] [] (tS h (gO (Sh (Ks [] (Le.refl _ _)))))) λh=>tW q MU [] MU [] (tN h))) λh=>tS h (gO (D7 (Dv [] [] q))))) λx4 h=>(match x4,h with | .inl _,h=>gA (Ao q [2] [] (tS h (C1 []))) | .inr r6,h=>Wa (λst' hk=>tS h (gK hk)))))
def J5(aJ:Int)(aK:Int):Option Int:=
 (some (Cf (aJ+aK)))
variable{v1:Int}{v11:Int}{v20:Int}
theorem P3(h:J5 v1 v11=some v20):sP 29 [(Hc v1),(Hc v11)] [] (.int .u64 v20) []:=
 sG Tryz.func29 λΓ q=>tW q Hr [] [4] [] (tS h (C1 []))
def Cu(aY:List Ag):Option Int:=
 (bif ((aY.length:Int)==0) then(some (1024:Int)) else(Cg (Bx (0:Int) aY.length) (some ((aY.getD (0:Int).toNat (default:Ag)).V))))
variable{v35:List Ag}
theorem Fk(h:Cu v35=some v1):sP 67 [(Z9 v35)] [] (.int .i64 v1) []:=
 sG Tryz.func67 λΓ q=>tW q [0] [] [0,5] [] (gC h (λh=>Ao q [2] [] (tS h (C1 []))) λh=>tV q [2] [] h λh=>tS h (C1 []))
abbrev ib:=(Int×List Ag)
def Dd(aY:List Ag)(a8:Int):Option ib:=
 ((Cu aY).bind λx1=>(bif (x1 !=a8) then(some ((0:Int),aY)) else(Cg (Bx (0:Int) aY.length) (Cg (0<=(1:Int)/\(1:Int)<=(aY.length:Int)) (some ((aY.getD (0:Int).toNat (default:Ag)).Scale,(aY.drop (1:Int).toNat)))))))
variable{v36:ib}
theorem Gl(h:Dd v35 v1=some v36):sP 68 [(Z9 v35),(Z7 v1)] [] (.tuple [(Hc v36.1),(Z9 v36.2)]) []:=
 sG Tryz.func68 λΓ q=>gR q Hr [] [(5,XW)] [] (c1 (Jg 2 Db (default:Ag))) (tB h λx1 y1 h=>tT q [0,9] [] [(XZ x1)] (c1 (Fk y1)) (gC h (λh=>Ao q Sd [] (tS h (C1 []))) λh=>tC h λc2_ h=>tC h λc3_ h=>gR q Sd [] [(16,(AV.list 2 Db default (v35.drop (1:Int).toNat) .none))] [] (c3 c2_ c3_ (show(AVle (.slice 2 (v35.length-(1:Int).toNat) (λi=>Db (v35.getD ((1:Int).toNat+i) default)) .none) (AV.list 2 Db default (v35.drop (1:Int).toNat) .none)) from KW)) (tS h (C1 []))))
abbrev ap:=(List Ag×List Ag×List Ag)
abbrev mW:=(LR (List Ag×List Ag×List Ag) (List Ag))
def N0 :ap->Option mW:=
 λ((l4,l5,l6):ap)=>(bif (bif (decide ((0:Int)<(l4.length:Int))) then true else(decide ((0:Int)<(l5.length:Int)))) then((Cu l4).bind λx8=>((Cu l5).bind λx9=>((Dd l4 (if x9<x8 then x9 else x8)).bind λx10=>((Dd l5 (if x9<x8 then x9 else x8)).bind λx11=>((J5 x10.1 x11.1).bind λx12=>(bif (x12 !=0) then(Cg (l6.length+([(⟨(if x9<x8 then x9 else x8),x12⟩:Ag)]:List Ag).length<=room) (some (.next (x10.2,x11.2,(l6++([(⟨(if x9<x8 then x9 else x8),x12⟩:Ag)]:List Ag)))))) else(some (.next (x10.2,x11.2,l6))))))))) else(some (.done l6)))
def lC(l4:List Ag):=(decide ((0:Int)<(l4.length:Int)))
def RW:AV:=XW
def fM(x9:Int)(x8:Int)(x12:Int):=([(⟨(if x9<x8 then x9 else x8),x12⟩:Ag)]:List Ag)
def lB(a1:TForm)(a3:TForm)(x3:Int):=((oA 29 a1.Terms a1.Off a3.Terms a3.Off x3):St)
def Mx(a1:TForm)(a3:TForm):Option TForm:=
 ((D8 a1).bind λx1=>((bif ((!x1)==false) then D8 a3 else some false).bind λx2=>(bif (bif (!x1) then true else(!x2)) then(some (⟨([]:List Ag),(0:Int)⟩:TForm)) else((J5 a1.Off a3.Off).bind λx3=>((Ai (S:=ap) (X:=List Ag) N0 (a1.Terms,a3.Terms,([]:List Ag))).bind (λx14=>(some (⟨x14,x3⟩:TForm))))))))
variable{v37:TForm}{v38:TForm}
theorem Y6(h:Mx v34 v37=some v38):sP 28 [(Ln v34),(Ln v37),(.clo 29 [] [])] [] (Ln v38) []:=
 sG Tryz.func28 λΓ q=>Ao q [2,3,4,6] [3,4,6] (tB h λx1 y1 h=>tB h λx2 y2 h=>tT q UZ [3,4,6] [(Z2 x1),(Z2 x2)] (c5 (F0 y1) (gI ((!x1)==false)) (λ(hg:((!x1)==false)=true)=>(F0 (Bk hg y2))) (gI ((!x1)==false)) (U4 (!x1))) (gC h (λh=>gR q [6] [6] [(20,(.agg [RW,U3]))] [] (c1 (show(AVle (.agg Z5) (.agg [RW,U3])) from(AVle.agg (.cons Dx (.cons (AVle.refl _) .nil))))) (Ul (⟨[RR],[(6,.row 25 [RW,U3])],[]⟩:St) (tS h (gK (e:=.ret) (Ks [] (show Le Γ _ (⟨[RR],[(6,.row 25 [ji,U3])],[]⟩:St) from Le.trans (Dv (st':=⟨[RR],[(6,.row 25 [RW,U3])],[]⟩) [6] [6] q) (K1 (.cons (AVle.refl _) .nil) (.row (.cons AVle.untag (.cons (AVle.refl _) .nil)) .nil)))))))) λh=>tB h λx3 y3 h=>gR q Lv MV [(27,(.agg [RW,(Hc x3)]))] [⟨[],[],(Hc x3),[],[],[]⟩] (c2 (P3 y3) (show(AVle (.agg [XY,(Hc x3)]) (.agg [RW,(Hc x3)])) from(AVle.agg (.cons Dx (.cons (AVle.refl _) .nil))))) (J3 (st':=(lB v34 v37 x3)) (Le.trans (Dv (st':=(oC 29 v34.Terms v34.Off v37.Terms v37.Off RW x3)) Lv MV q) (Le.trans (Mh (r:=7) (j:=0) (nm:=5700) (sz':=2) (λi=>Db (([]:List Ag).getD i default)) 51 rfl rfl (nl rfl) rfl (.inl ⟨rfl,rfl⟩) (λh_=>absurd h_ (by decide))) (Dv (st':=(lB v34 v37 x3)) Lv Oo q))) (tL q h Lv Oo (λu (l4,l5,l6)=>(Fn u [] [(3,.row 25 [(Z9 l4),(Hc v34.Off)]),(4,.row 25 [(Z9 l5),(Hc v37.Off)]),(7,.row 25 (fa l6 5700 x3)),(5700,.tok 2 51 l6.length)])) (λu l7=>aG Γ (.exit 0) (Wj Qi MW u [] [(7,.row 25 (fa l7 5700 x3)),(5700,.tok 2 51 l7.length)])) (λ⟨l4,l5,l6⟩ y h=>tU q et Oo (OH ((lC l4)==false) (c1 (U4 (lC l4)))) (gC h (λh=>tB h λx8 y8 h=>tB h λx9 y9 h=>tT q KA Oo [(XZ x8),(XZ x9)] (c2 (Fk y8) (Fk y9)) (Ao q KA Oo (tB h λx10 y10 h=>tT q er Oo [(kx x10.1 x10.2)] (c1 (Gl y10)) (tB h λx11 y11 h=>tT q ei Oo [(kx x11.1 x11.2)] (c1 (Gl y11)) (tB h λx12 y12 h=>tT q en Oo [⟨[],[],(Hc x12),[],[],[]⟩] (c1 (P3 y12)) (Ao q eh Oo (gC h (λh=>tC h λc13_ h=>gR q Lv Oo (nT (fM x9 x8 x12) l6) [] (c5 (Cn 2 Db (default:Ag) (fM x9 x8 x12)) (Eq.refl l6.length) c13_ (Uf 2 5700 Db (default:Ag) l6 (fM x9 x8 x12)) (Il l6 (fM x9 x8 x12))) (tN h)) λh=>tS h (gN (Dv Lv Oo q))))))))) λh=>tS h (gO (D7 (Dv Qi MW q))))) λx14 h=>gA (Ao q [6] [6,5700] (tS h (C1 [])))))))
def Ic(a1:TForm)(aI:TForm):Option TForm:=
 ((Mx a1 aI).bind λx1=>(some x1))
theorem N4(h:Ic v34 v37=some v38):sP 10 [(Ln v34),(Ln v37)] [] (Ln v38) []:=
 sG Tryz.func10 λΓ q=>Ao q GM GM (tB h λx1 y1 h=>tT q [4] [4] [(ND x1)] (c1 (Y6 y1)) (tS h (C1 [])))
def Ji(aJ:Int)(aK:Int):Option Int:=
 (some (Cf (aJ-aK)))
theorem O6(h:Ji v1 v11=some v20):sP 30 [(Hc v1),(Hc v11)] [] (.int .u64 v20) []:=
 sG Tryz.func30 λΓ q=>tW q Hr [] [4] [] (tS h (C1 []))
def Lq :ap->Option mW:=
 λ((l4,l5,l6):ap)=>(bif (bif (decide ((0:Int)<(l4.length:Int))) then true else(decide ((0:Int)<(l5.length:Int)))) then((Cu l4).bind λx8=>((Cu l5).bind λx9=>((Dd l4 (if x9<x8 then x9 else x8)).bind λx10=>((Dd l5 (if x9<x8 then x9 else x8)).bind λx11=>((Ji x10.1 x11.1).bind λx12=>(bif (x12 !=0) then(Cg (l6.length+([(⟨(if x9<x8 then x9 else x8),x12⟩:Ag)]:List Ag).length<=room) (some (.next (x10.2,x11.2,(l6++([(⟨(if x9<x8 then x9 else x8),x12⟩:Ag)]:List Ag)))))) else(some (.next (x10.2,x11.2,l6))))))))) else(some (.done l6)))
def lF(l4:List Ag):=(decide ((0:Int)<(l4.length:Int)))
def RX:AV:=XW
def fN(x9:Int)(x8:Int)(x12:Int):=([(⟨(if x9<x8 then x9 else x8),x12⟩:Ag)]:List Ag)
def lD(a1:TForm)(a3:TForm)(x3:Int):=((oA 30 a1.Terms a1.Off a3.Terms a3.Off x3):St)
def Kd(a1:TForm)(a3:TForm):Option TForm:=
 ((D8 a1).bind λx1=>((bif ((!x1)==false) then D8 a3 else some false).bind λx2=>(bif (bif (!x1) then true else(!x2)) then(some (⟨([]:List Ag),(0:Int)⟩:TForm)) else((Ji a1.Off a3.Off).bind λx3=>((Ai (S:=ap) (X:=List Ag) Lq (a1.Terms,a3.Terms,([]:List Ag))).bind (λx14=>(some (⟨x14,x3⟩:TForm))))))))
theorem U7(h:Kd v34 v37=some v38):sP 28 [(Ln v34),(Ln v37),(.clo 30 [] [])] [] (Ln v38) []:=
 sG Tryz.func28 λΓ q=>Ao q [2,3,4,6] [3,4,6] (tB h λx1 y1 h=>tB h λx2 y2 h=>tT q UZ [3,4,6] [(Z2 x1),(Z2 x2)] (c5 (F0 y1) (gI ((!x1)==false)) (λ(hg:((!x1)==false)=true)=>(F0 (Bk hg y2))) (gI ((!x1)==false)) (U4 (!x1))) (gC h (λh=>gR q [6] [6] [(20,(.agg [RX,U3]))] [] (c1 (show(AVle (.agg Z5) (.agg [RX,U3])) from(AVle.agg (.cons Dx (.cons (AVle.refl _) .nil))))) (Ul (⟨[RR],[(6,.row 25 [RX,U3])],[]⟩:St) (tS h (gK (e:=.ret) (Ks [] (show Le Γ _ (⟨[RR],[(6,.row 25 [ji,U3])],[]⟩:St) from Le.trans (Dv (st':=⟨[RR],[(6,.row 25 [RX,U3])],[]⟩) [6] [6] q) (K1 (.cons (AVle.refl _) .nil) (.row (.cons AVle.untag (.cons (AVle.refl _) .nil)) .nil)))))))) λh=>tB h λx3 y3 h=>gR q Lv MV [(27,(.agg [RX,(Hc x3)]))] [⟨[],[],(Hc x3),[],[],[]⟩] (c2 (O6 y3) (show(AVle (.agg [XY,(Hc x3)]) (.agg [RX,(Hc x3)])) from(AVle.agg (.cons Dx (.cons (AVle.refl _) .nil))))) (J3 (st':=(lD v34 v37 x3)) (Le.trans (Dv (st':=(oC 30 v34.Terms v34.Off v37.Terms v37.Off RX x3)) Lv MV q) (Le.trans (Mh (r:=7) (j:=0) (nm:=5700) (sz':=2) (λi=>Db (([]:List Ag).getD i default)) 51 rfl rfl (nl rfl) rfl (.inl ⟨rfl,rfl⟩) (λh_=>absurd h_ (by decide))) (Dv (st':=(lD v34 v37 x3)) Lv Oo q))) (tL q h Lv Oo (λu (l4,l5,l6)=>(Fn u [] [(3,.row 25 [(Z9 l4),(Hc v34.Off)]),(4,.row 25 [(Z9 l5),(Hc v37.Off)]),(7,.row 25 (fa l6 5700 x3)),(5700,.tok 2 51 l6.length)])) (λu l7=>aG Γ (.exit 0) (Wj Qi MW u [] [(7,.row 25 (fa l7 5700 x3)),(5700,.tok 2 51 l7.length)])) (λ⟨l4,l5,l6⟩ y h=>tU q et Oo (OH ((lF l4)==false) (c1 (U4 (lF l4)))) (gC h (λh=>tB h λx8 y8 h=>tB h λx9 y9 h=>tT q KA Oo [(XZ x8),(XZ x9)] (c2 (Fk y8) (Fk y9)) (Ao q KA Oo (tB h λx10 y10 h=>tT q er Oo [(kx x10.1 x10.2)] (c1 (Gl y10)) (tB h λx11 y11 h=>tT q ei Oo [(kx x11.1 x11.2)] (c1 (Gl y11)) (tB h λx12 y12 h=>tT q en Oo [⟨[],[],(Hc x12),[],[],[]⟩] (c1 (O6 y12)) (Ao q eh Oo (gC h (λh=>tC h λc13_ h=>gR q Lv Oo (nT (fN x9 x8 x12) l6) [] (c5 (Cn 2 Db (default:Ag) (fN x9 x8 x12)) (Eq.refl l6.length) c13_ (Uf 2 5700 Db (default:Ag) l6 (fN x9 x8 x12)) (Il l6 (fN x9 x8 x12))) (tN h)) λh=>tS h (gN (Dv Lv Oo q))))))))) λh=>tS h (gO (D7 (Dv Qi MW q))))) λx14 h=>gA (Ao q [6] [6,5700] (tS h (C1 [])))))))
def Hi(a1:TForm)(aI:TForm):Option TForm:=
 ((Kd a1 aI).bind λx1=>(some x1))
theorem My(h:Hi v34 v37=some v38):sP 11 [(Ln v34),(Ln v37)] [] (Ln v38) []:=
 sG Tryz.func11 λΓ q=>Ao q GM GM (tB h λx1 y1 h=>tT q [4] [4] [(ND x1)] (c1 (U7 y1)) (tS h (C1 [])))
def Gt(a1:TForm):Option Bool:=
 (some ((a1.Terms.length:Int)==0))
theorem Kf(h:Gt v34=some v3):sP 137 [(Ln v34)] [] (.bool v3) []:=
 sG Tryz.func137 λΓ q=>tW q [1] [1] [2] [] (tS h (C1 []))
def Jj(aJ:Int)(aaD:Int)(aa2:Int):Option G2:=
 (some ((Cf (aJ*aa2)),aa2))
variable{v19:G2}
theorem O7(h:Jj v1 v11 v20=some v19):sP 31 [(Hc v1),(Hc v11),Yj] [(VM v20)] (Hc v19.1) [(VM v19.2)]:=
 sG Tryz.func31 λΓ q=>tW q [0,2] [30000] [5] [30000] (tS h (C1 RF))
abbrev kg:=(List Ag×List Ag×List Ag×Int)
def Lr :kg->Option (LR (List Ag×List Ag×List Ag×Int) (List Ag×Int)):=
 λ((l4,l5,l6,i7):kg)=>(bif (bif (decide ((0:Int)<(l4.length:Int))) then true else(decide ((0:Int)<(l5.length:Int)))) then((Cu l4).bind λx10=>((Cu l5).bind λx11=>((Dd l4 (if x11<x10 then x11 else x10)).bind λx12=>((Dd l5 (if x11<x10 then x11 else x10)).bind λx13=>((Jj x12.1 x13.1 i7).bind λx14=>(bif (x14.1 !=0) then(Cg (l6.length+([(⟨(if x11<x10 then x11 else x10),x14.1⟩:Ag)]:List Ag).length<=room) (some (.next (x12.2,x13.2,(l6++([(⟨(if x11<x10 then x11 else x10),x14.1⟩:Ag)]:List Ag)),x14.2)))) else(some (.next (x12.2,x13.2,l6,x14.2))))))))) else(some (.done (l6,i7))))
def lH(l4:List Ag):=(decide ((0:Int)<(l4.length:Int)))
def RY:AV:=XW
def fO(x11:Int)(x10:Int)(x14:G2):=([(⟨(if x11<x10 then x11 else x10),x14.1⟩:Ag)]:List Ag)
def lG(a1:TForm)(a3:TForm)(x3:G2):=(⟨[(2,(.clo 31 [] [Yj])),(3,(.ptr 3 0)),YA,RR,(7,(.ptr 7 0))],[(3,.row 25 [(Z9 a1.Terms),(Hc a1.Off)]),(4,.row 25 [(Z9 a3.Terms),(Hc a3.Off)]),(6,.row 25 Z5),(7,.row 25 [(AV.list 2 Db default ([]:List Ag) (.own 5700)),(Hc x3.1)]),(5700,.tok 2 51 (([]:List Ag).length)),(VM x3.2)],[]⟩:St)
abbrev GA:=(TForm×Int)
def Ke(a1:TForm)(a3:TForm)(aa2:Int):Option GA:=
 ((D8 a1).bind λx1=>((bif ((!x1)==false) then D8 a3 else some false).bind λx2=>(bif (bif (!x1) then true else(!x2)) then(some ((⟨([]:List Ag),(0:Int)⟩:TForm),aa2)) else((Jj a1.Off a3.Off aa2).bind λx3=>((Ai (S:=kg) (X:=(List Ag×Int)) Lr (a1.Terms,a3.Terms,([]:List Ag),x3.2)).bind (λ(l8,i9)=>(some ((⟨l8,x3.1⟩:TForm),i9))))))))
variable{v39:GA}
theorem U8(h:Ke v34 v37 v1=some v39):sP 28 [(Ln v34),(Ln v37),(.clo 31 [] [Yj])] [(VM v1)] (Ln v39.1) [(VM v39.2)]:=
 sG Tryz.func28 λΓ q=>Ao q [2,3,4,6] [3,4,6,30000] (tB h λx1 y1 h=>tB h λx2 y2 h=>tT q UZ [3,4,6,30000] [(Z2 x1),(Z2 x2)] (c5 (F0 y1) (gI ((!x1)==false)) (λ(hg:((!x1)==false)=true)=>(F0 (Bk hg y2))) (gI ((!x1)==false)) (U4 (!x1))) (gC h (λh=>gR q [6] [6,30000] [(20,(.agg [RY,U3]))] [] (c1 (show(AVle (.agg Z5) (.agg [RY,U3])) from(AVle.agg (.cons Dx (.cons (AVle.refl _) .nil))))) (Ul (⟨[RR],[(6,.row 25 [RY,U3]),(VM v1)],[]⟩:St) (tS h (gK (e:=.ret) (Ks RF (show Le Γ _ (⟨[RR],[(6,.row 25 [ji,U3]),(VM v1)],[]⟩:St) from Le.trans (Dv (st':=⟨[RR],[(6,.row 25 [RY,U3]),(VM v1)],[]⟩) [6] [6,30000] q) (K1 (.cons (AVle.refl _) .nil) (.row (.cons AVle.untag (.cons (AVle.refl _) .nil)) (.same .nil))))))))) λh=>tB h λx3 y3 h=>gR q Lv [3,4,6,7,30000] [(27,(.agg [RY,(Hc x3.1)]))] [⟨RF,[],(Hc x3.1),[(VM x3.2)],[],[]⟩] (c2 (O7 y3) (show(AVle (.agg [XY,(Hc x3.1)]) (.agg [RY,(Hc x3.1)])) from(AVle.agg (.cons Dx (.cons (AVle.refl _) .nil))))) (J3 (st':=(lG v34 v37 x3)) (Le.trans (Dv (st':=⟨[(2,(.clo 31 [] [Yj])),(3,(.ptr 3 0)),YA,RR,(7,(.ptr 7 0))],[(3,.row 25 [(Z9 v34.Terms),(Hc v34.Off)]),(4,.row 25 [(Z9 v37.Terms),(Hc v37.Off)]),(6,.row 25 Z5),(7,.row 25 [RY,(Hc x3.1)]),(VM x3.2)],[]⟩) Lv [3,4,6,7,30000] q) (Le.trans (Mh (r:=7) (j:=0) (nm:=5700) (sz':=2) (λi=>Db (([]:List Ag).getD i default)) 51 rfl rfl (nl rfl) rfl (.inl ⟨rfl,rfl⟩) (λh_=>absurd h_ (by decide))) (Dv (st':=(lG v34 v37 x3)) Lv Ua q))) (tL q h Lv Ua (λu (l4,l5,l6,i7)=>(Fn u [] [(3,.row 25 [(Z9 l4),(Hc v34.Off)]),(4,.row 25 [(Z9 l5),(Hc v37.Off)]),(7,.row 25 (fa l6 5700 x3.1)),(5700,.tok 2 51 l6.length),(VM i7)])) (λu (l8,i9)=>aG Γ (.exit 0) (Wj Qi [6,7,5700,30000] u [] [(7,.row 25 (fa l8 5700 x3.1)),(5700,.tok 2 51 l8.length),(VM i9)])) (λ⟨l4,l5,l6,i7⟩ y h=>tU q et Ua (OH ((lH l4)==false) (c1 (U4 (lH l4)))) (gC h (λh=>tB h λx10 y10 h=>tB h λx11 y11 h=>tT q KA Ua [(XZ x10),(XZ x11)] (c2 (Fk y10) (Fk y11)) (Ao q KA Ua (tB h λx12 y12 h=>tT q er Ua [(kx x12.1 x12.2)] (c1 (Gl y12)) (tB h λx13 y13 h=>tT q ei Ua [(kx x13.1 x13.2)] (c1 (Gl y13)) (tB h λx14 y14 h=>tT q en Ua [⟨RF,[],(Hc x14.1),[(VM x14.2)],[],[]⟩] (c1 (O7 y14)) (Ao q eh Ua (gC h (λh=>tC h λc15_ h=>gR q Lv Ua (nT (fO x11 x10 x14) l6) [] (c5 (Cn 2 Db (default:Ag) (fO x11 x10 x14)) (Eq.refl l6.length) c15_ (Uf 2 5700 Db (default:Ag) l6 (fO x11 x10 x14)) (Il l6 (fO x11 x10 x14))) (tN h)) λh=>tS h (gN (Dv Lv Ua q))))))))) λh=>tS h (gO (D7 (Dv Qi [6,7,5700,30000] q))))) λx16 h=>(match x16,h with|⟨l8,i9⟩,h=>gA (Ao q [6] [6,5700,30000] (tS h (C1 RF))))))))
def D9(a1:TForm)(aF:Int):Option TForm:=
 ((Ke a1 (⟨([]:List Ag),(0:Int)⟩:TForm) aF).bind λx1=>(some x1.1))
theorem Gk(h:D9 v34 v1=some v37):sP 12 [(Ln v34),(Hc v1)] [] (Ln v37) []:=
 sG Tryz.func12 λΓ q=>Ao q GM GM (tB h λx1 y1 h=>gR q [4] [4] [(6,(.agg [XW,U3]))] [⟨[(3,30000)],[],(Ln x1.1),[(VM x1.2)],[],[]⟩] (c2 (show(AVle (.agg Z5) (.agg [XW,U3])) from(AVle.agg (.cons Dx (.cons (AVle.refl _) .nil)))) (U8 y1)) (tS h (C1 [])))
def fP:List AV:=[XW,U3]
def Jx(aU:Int)(aJ:TForm)(aK:TForm):Option (TForm×Bool):=
 (bif (aU==1) then((Ic aJ aK).bind λx1=>(some (x1,true))) else(bif (aU==2) then((Hi aJ aK).bind λx2=>(some (x2,true))) else((bif ((aU==3)==true) then Gt aK else some false).bind λx3=>(bif (bif (aU==3) then x3 else false) then((D9 aJ aK.Off).bind λx4=>(some (x4,true))) else((bif ((aU==3)==true) then Gt aJ else some false).bind λx5=>(bif (bif (aU==3) then x5 else false) then((D9 aK aJ.Off).bind λx6=>(some (x6,true))) else((bif ((aU==8)==true) then Gt aK else some false).bind λx7=>(bif (bif (bif (aU==8) then x7 else false) then(decide (aK.Off<64)) else false) then(Cg (0<=aK.Off) ((D9 aJ (UD .u64 (1:Int) aK.Off)).bind λx9=>(some (x9,true)))) else(some ((⟨([]:List Ag),(0:Int)⟩:TForm),false))))))))))
variable{v40:(TForm×Bool)}
theorem EO(h:Jx v1 v34 v37=some v40):sP 97 [(Z7 v1),(Ln v34),(Ln v37)] [] (.tuple [(Ln v40.1),(.bool v40.2)]) []:=
 sG Tryz.func97 λΓ q=>tW q [0,4,5,6] Z0 [0,4,5,6,8] Z0 (gC h (λh=>tB h λx1 y1 h=>tT q Qi [6] [(ND x1)] (c1 (N4 y1)) (tS h (C1 []))) λh=>Ao q [0,4,5,6,14] Z0 (gC h (λh=>tB h λx2 y2 h=>tT q Qi [6] [(ND x2)] (c1 (My y2)) (tS h (C1 []))) λh=>tB h λx3 y3 h=>tT q [0,4,5,6,20] Z0 [(Z2 x3)] (c3 (gI ((v1==3)==true)) (λ(hg:((v1==3)==true)=true)=>(Kf (Bk hg y3))) (M6 (v1==3))) (gC h (λh=>tB h λx4 y4 h=>tT q Qi [6] [(ND x4)] (c1 (Gk y4)) (tS h (C1 []))) λh=>tB h λx5 y5 h=>tT q [0,4,5,6,31] Z0 [(Z2 x5)] (c3 (gI ((v1==3)==true)) (λ(hg:((v1==3)==true)=true)=>(Kf (Bk hg y5))) (M6 (v1==3))) (gC h (λh=>tB h λx6 y6 h=>tT q Qi [6] [(ND x6)] (c1 (Gk y6)) (tS h (C1 []))) λh=>tB h λx7 y7 h=>tT q [4,5,6,42] Z0 [(Z2 x7)] (j5 (gI ((v1==8)==true)) (λ(hg:((v1==8)==true)=true)=>(Kf (Bk hg y7))) (M6 (v1==8)) (Pz ((bif (v1==8) then x7 else false)==true) (c1 (M6 (bif (v1==8) then x7 else false))))) (gC h (λh=>tC h λc8_ h=>tB h λx9 y9 h=>tT q Qi [6] [(ND x9)] (c2 c8_ (Gk y9)) (tS h (C1 []))) λh=>gR q Qi [6] [(59,(.agg fP))] [] (c1 (show(AVle (.agg Z5) (.agg fP)) from(AVle.agg (.cons Dx (.cons (AVle.refl _) .nil))))) (Ul (⟨[RR,(7,(.bool false))],[(6,.row 25 fP)],[]⟩:St) (tS h (gK (e:=.ret) (Ks [] (show Le Γ _ (⟨[RR,(7,(.bool false))],[(6,.row 25 [ji,U3])],[]⟩:St) from Le.trans (Dv (st':=⟨[RR,(7,(.bool false))],[(6,.row 25 fP)],[]⟩) Qi [6] q) (K1 (.cons (AVle.refl _) (.cons (AVle.refl _) .nil)) (.row (.cons AVle.untag (.cons (AVle.refl _) .nil)) .nil))))))))))))
def KM:=(λ(v_:TForm)=>((Ln v_):AV))
abbrev aq:=(List (Int×TForm))
abbrev US:=(TForm×List (Int×TForm))
abbrev eT:=(TForm×Bool×List (Int×TForm))
abbrev HQ:=(Int×TForm)
def Bv(rec_affine_finder_form:Int->UR->aq->Option US)(rec_affine_finder_sum:Int->UR->aq->Option eT)(a8:Int)(a0:List Zn)(a5:List HQ):Option US:=
 (bif (B1 a5 a8) then(some ((mget (default:TForm) a5 a8),a5)) else((rec_affine_finder_sum a8 a0 a5).bind λx1=>(Option.bind (α:=(List Ag×Int)) (bif (bif (!x1.2.1) then true else(decide ((16:Int)<(x1.1.Terms.length:Int)))) then(some (([(⟨a8,(1:Int)⟩:Ag)]:List Ag),(0:Int))) else(some (x1.1.Terms,x1.1.Off))) (λ(l2,i3)=>(some ((⟨l2,i3⟩:TForm),(Ex x1.2.2 a8 (⟨l2,i3⟩:TForm))))))))
def KN(a0:List Zn)(a8:Int):=(mget (default:D1) a0 a8)
def XS:=(λ(v_:TForm)=>((Ln v_):AV))
def NA(a0:List Zn):=(mapE (λ(v_:D1)=>((Ws v_):AV)) a0)
def XR:AV:=XW
def lJ(a0:List Zn)(a5:List HQ):=(⟨[YA,(5,(.bool false))],[(4,.row 25 [XR,U3]),RO,(bB 9100000 (NA a0)),(9100001,.obj (.map true .i64 (mapE XS a5)))],[]⟩:St)
def lI(a0:List Zn)(a8:Int)(a5:List HQ):=(⟨[YA,(5,(.bool true))],[(4,.row 25 [XR,(.int .u64 (KN a0 a8).Imm)]),RO,(bB 9100000 (NA a0)),(9100001,.obj (.map true .i64 (mapE XS a5)))],[]⟩:St)
def Ci(rec_affine_finder_form:Int->UR->aq->Option US)(rec_affine_finder_sum:Int->UR->aq->Option eT)(a8:Int)(a0:List Zn)(a5:List HQ):Option eT:=
 (bif (!(B1 a0 a8)) then(some ((⟨([]:List Ag),(0:Int)⟩:TForm),false,a5)) else(bif (((mget (default:D1) a0 a8).Kind:Int)==0) then(some ((⟨([]:List Ag),(mget (default:D1) a0 a8).Imm⟩:TForm),true,a5)) else(Cg (Bx (0:Int) ((mget (default:D1) a0 a8).Args).length) ((rec_affine_finder_form (((mget (default:D1) a0 a8).Args).getD (0:Int).toNat (0:Int)) a0 a5).bind λx2=>(Cg (Bx (1:Int) ((mget (default:D1) a0 a8).Args).length) ((rec_affine_finder_form (((mget (default:D1) a0 a8).Args).getD (1:Int).toNat (0:Int)) a0 x2.2).bind λx4=>((Jx ((mget (default:D1) a0 a8).Kind) x2.1 x4.1).bind λx5=>(some (x5.1,x5.2,x4.2)))))))))
mutual
def Bg:Nat->Int->UR->aq->Option US
 | 0=>λ_=>λ_=>λ_=>none
 | n+1=>Bv (Bg n) (B2 n)
def B2:Nat->Int->UR->aq->Option eT
 | 0=>λ_=>λ_=>λ_=>none
 | n+1=>Ci (Bg n) (B2 n)
end
def Gs(a8:Int)(a0:List Zn)(a5:List HQ):Option US:=cX λn=>Bg n a8 a0 a5
theorem Rj(n:Nat):(∀(a8:Int) (a0:List Zn) (a5:List HQ) (r:US),Bg n a8 a0 a5=some r->sP 38 [Yj,(Z7 a8)] [RO,(9100000,.obj (.map true .i64 (mapE (λ(v_:D1)=>((Ws v_):AV)) a0))),(9100001,.obj (.map true .i64 (mapE (λ(v_:TForm)=>((Ln v_):AV)) a5)))] (Ln r.1) [RO,(9100000,.obj (.map true .i64 (mapE (λ(v_:D1)=>((Ws v_):AV)) a0))),(9100001,.obj (.map true .i64 (mapE (λ(v_:TForm)=>((Ln v_):AV)) r.2)))])/\(∀(a8:Int) (a0:List Zn) (a5:List HQ) (r:eT),B2 n a8 a0 a5=some r->sP 69 [Yj,(Z7 a8)] [RO,(9100000,.obj (.map true .i64 (mapE (λ(v_:D1)=>((Ws v_):AV)) a0))),(9100001,.obj (.map true .i64 (mapE (λ(v_:TForm)=>((Ln v_):AV)) a5)))] (.tuple [(Ln r.1),(.bool r.2.1)]) [RO,(9100000,.obj (.map true .i64 (mapE (λ(v_:D1)=>((Ws v_):AV)) a0))),(9100001,.obj (.map true .i64 (mapE (λ(v_:TForm)=>((Ln v_):AV)) r.2.2)))]):=by
 induction n with
 | zero=>exact⟨(λa8 a0 a5 r h=>by cases h),(λa8 a0 a5 r h=>by cases h)⟩
 | succ n ih=>
  obtain⟨ih_affine_finder_form,ih_affine_finder_sum⟩:=ih;refine⟨?_,?_⟩
  ·intro a8 a0 a5 r h;refine Zh mix Tryz.func38 (λΓ hq=>?_);change Bv (Bg n) (B2 n) a8 a0 a5=some r at h;unfold Bv at h;refine Ao hq [0,1,4] Yf ?_;refine gR hq [0,1,4,5,6] jY [(15,(.tuple [(.agg (eTForm (mget (default:TForm) a5 a8))),(.bool (B1 a5 a8))]))] [] (c1 (show(AVle (.tuple [mget (.agg [(.slice 0 0 (λ_=>[]) .none),U3]) (mapE KM a5) a8,.bool (B1 (mapE KM a5) a8)]) (.tuple [(.agg (eTForm (mget (default:TForm) a5 a8))),(.bool (B1 a5 a8))])) from(Xk (f:=KM) (l:=a5) (AVle.agg (.cons VR (.cons (AVle.refl _) .nil))) rfl))) ?_;refine Ao hq [0,1,4,5,18] jY ?_;refine gC h ?_ ?_<;>intro h
   ·refine Ao hq [4] Yf ?_;cases h;exact C1 RD
   ·obtain⟨x1,hx1,h⟩:=bind_some h;refine gR hq [0,1,4,7,8] JW [] [⟨RD,[],(.tuple [(Ln x1.1),(.bool x1.2.1)]),[RO,(9100000,.obj (.map true .i64 (mapE (λ(v_:D1)=>((Ws v_):AV)) a0))),(9100001,.obj (.map true .i64 (mapE KM x1.2.2)))],[],[]⟩] (c1 (ih_affine_finder_sum a8 a0 a5 x1 hx1)) ?_;obtain⟨x4,hx4,h⟩:=bind_some h;refine gJ hx4 (λ(l2,i3)=>aG Γ .normal (⟨[(0,Yj),(1,(Z7 a8)),YA,(7,(.ptr 7 0))],[(4,.row 25 Z5),(7,.row 25 [(Z9 l2),(Hc i3)]),RO,(9100000,.obj (.map true .i64 (mapE (λ(v_:D1)=>((Ws v_):AV)) a0))),(9100001,.obj (.map true .i64 (mapE KM x1.2.2)))],[]⟩:St)) ?_ ?_
    ·clear h hx4;intro y h;refine gR hq [0,1,4,7,33] JW [] [] (ci (gI ((!x1.2.1)==false)) (ci (gI ((!x1.2.1)==false)) (ci (gI ((!x1.2.1)==false)) (c1 (U4 (!x1.2.1)))))) ?_;refine gC h ?_ ?_<;>intro h
     ·refine gR hq [0,1,4,7] JW [(36,(AV.list 2 Db default ([(⟨a8,(1:Int)⟩:Ag)]:List Ag) .exact))] [] (c1 (Cn 2 Db (default:Ag) ([(⟨a8,(1:Int)⟩:Ag)]:List Ag))) ?_;cases h;exact gK (D7 (Le.trans (Dv (st':=⟨[(0,Yj),(1,(Z7 a8)),YA,(7,(.ptr 7 0))],[(4,.row 25 Z5),(7,.row 25 [(AV.list 2 Db default ([(⟨a8,(1:Int)⟩:Ag)]:List Ag) .exact),U3]),RO,(9100000,.obj (.map true .i64 (mapE (λ(v_:D1)=>((Ws v_):AV)) a0))),(9100001,.obj (.map true .i64 (mapE KM x1.2.2)))],[]⟩) [0,1,4,7] JW hq) (K1 (.cons (AVle.refl _) (.cons (AVle.refl _) (.cons (AVle.refl _) (.cons (AVle.refl _) .nil)))) (.same (.row (.cons AVle.untag (.cons (AVle.refl _) .nil)) (.same (.same (.same .nil))))))))
     ·cases h;exact gK (D7 (Dv [0,1,4,7] JW hq))
    ·clear hx4;rcases x4 with⟨l2,i3⟩;refine gA ?_;refine Ao hq [4,7] JW ?_;refine J3 (S6 (λ(k_:List HP) u=>Fn u [] [(bB 9100001 k_)]) (show(Ex (mapE KM x1.2.2) a8 (.agg [(Z9 l2),(Hc i3)]))=(mapE KM (Ex x1.2.2 a8 (⟨l2,i3⟩:TForm))) from(Xl (f:=KM) (l:=x1.2.2) (v:=(⟨l2,i3⟩:TForm)) rfl rfl))) ?_;refine Ao hq [4] Yf ?_;cases h;exact C1 RD
  ·intro a8 a0 a5 r h;refine Zh mix Tryz.func69 (λΓ hq=>?_);change Ci (Bg n) (B2 n) a8 a0 a5=some r at h;unfold Ci at h;refine Ao hq [0,1,4] Yf ?_;refine gR hq [0,4,6,7] ee [(14,(.tuple [(Ws (KN a0 a8)),(.bool (B1 a0 a8))]))] [] (c1 (show(AVle (.tuple [mget (.agg [Ot,Ot,Ot,Ot,(.slice 0 0 (λ_=>[]) .none),U3]) (NA a0) a8,.bool (B1 (NA a0) a8)]) (.tuple [(Ws (KN a0 a8)),(.bool (B1 a0 a8))])) from(Xk (f:=(λ(v_:D1)=>((Ws v_):AV))) (l:=a0) (AVle.agg (.cons (AVle.refl _) (.cons (AVle.refl _) (.cons (AVle.refl _) (.cons (AVle.refl _) (.cons VR (.cons (AVle.refl _) .nil))))))) rfl))) ?_;refine Ao hq [0,4,6,17] ee ?_;refine gC h ?_ ?_<;>intro h
   ·refine gR hq Sd Yf [(20,(.agg [XR,U3]))] [] (c1 (show(AVle (.agg Z5) (.agg [XR,U3])) from(AVle.agg (.cons Dx (.cons (AVle.refl _) .nil))))) ?_;refine Ul (lJ a0 a5) ?_;cases h;exact gK (e:=.ret) (Ks RD (show Le Γ _ (⟨[YA,(5,(.bool false))],[(4,.row 25 [ji,U3]),RO,(bB 9100000 (NA a0)),(9100001,.obj (.map true .i64 (mapE XS a5)))],[]⟩:St) from Le.trans (Dv (st':=(lJ a0 a5)) Sd Yf hq) (K1 (.cons (AVle.refl _) (.cons (AVle.refl _) .nil)) (.row (.cons AVle.untag (.cons (AVle.refl _) .nil)) (.same (.same (.same .nil)))))))
   ·refine Ao hq [0,4,6,21] ee ?_;refine gC h ?_ ?_<;>intro h
    ·refine gR hq Sd Yf [(27,(.agg [XR,(.int .u64 (KN a0 a8).Imm)]))] [] (c1 (show(AVle (.agg [XY,(.int .u64 (KN a0 a8).Imm)]) (.agg [XR,(.int .u64 (KN a0 a8).Imm)])) from(AVle.agg (.cons Dx (.cons (AVle.refl _) .nil))))) ?_;refine Ul (lI a0 a8 a5) ?_;cases h;exact gK (e:=.ret) (Ks RD (show Le Γ _ (⟨[YA,(5,(.bool true))],[(4,.row 25 [ji,(.int .u64 (KN a0 a8).Imm)]),RO,(bB 9100000 (NA a0)),(9100001,.obj (.map true .i64 (mapE XS a5)))],[]⟩:St) from Le.trans (Dv (st':=(lI a0 a8 a5)) Sd Yf hq) (K1 (.cons (AVle.refl _) (.cons (AVle.refl _) .nil)) (.row (.cons AVle.untag (.cons (AVle.refl _) .nil)) (.same (.same (.same .nil)))))))
    ·obtain⟨hc1,h⟩:=Nw h;obtain⟨x2,hx2,h⟩:=bind_some h;obtain⟨hc3,h⟩:=Nw h;obtain⟨x4,hx4,h⟩:=bind_some h;obtain⟨x5,hx5,h⟩:=bind_some h;refine gR hq Sd Yf [] [⟨RD,[],(Ln x2.1),[RO,(bB 9100000 (NA a0)),(9100001,.obj (.map true .i64 (mapE XS x2.2)))],[],[]⟩,⟨RD,[],(Ln x4.1),[RO,(bB 9100000 (NA a0)),(9100001,.obj (.map true .i64 (mapE XS x4.2)))],[],[]⟩,⟨[],[],(.tuple [(Ln x5.1),(.bool x5.2)]),[],[],[]⟩] (ci hc1 (ci (ih_affine_finder_form (((KN a0 a8).Args).getD (0:Int).toNat (0:Int)) a0 a5 x2 hx2) (ci hc3 (ci (ih_affine_finder_form (((KN a0 a8).Args).getD (1:Int).toNat (0:Int)) a0 x2.2 x4 hx4) (c1 (EO hx5)))))) ?_;cases h;exact C1 RD
variable{v41:List HQ}{v42:US}
theorem Sk(h:Gs v1 v33 v41=some v42):sP 38 [Yj,(Z7 v1)] [RO,(9100000,.obj (.map true .i64 (mapE (λ(v_:D1)=>((Ws v_):AV)) v33))),(9100001,.obj (.map true .i64 (mapE (λ(v_:TForm)=>((Ln v_):AV)) v41)))] (Ln v42.1) [RO,(9100000,.obj (.map true .i64 (mapE (λ(v_:D1)=>((Ws v_):AV)) v33))),(9100001,.obj (.map true .i64 (mapE (λ(v_:TForm)=>((Ln v_):AV)) v42.2)))]:=by
 obtain⟨n,hn⟩:=ZA h;exact(Rj n).1 v1 v33 v41 v42 hn
def fQ:List AV:=[XW,U3]
def Gr(a4:Ab)(a8:Int):Option GA:=
 ((K2 a4).bind λx1=>(bif (!((((mget ((0:Int),(0:Int)) x1 a8).1:Int)==64)&&((((mget ((0:Int),(0:Int)) x1 a8).2:Int)==1)&&true))) then(some ((⟨([]:List Ag),(0:Int)⟩:TForm),(10:Int))) else((Ma a4).bind λx2=>((Gs a8 x2 ([]:List HQ)).bind λx3=>(some (x3.1,(0:Int)))))))
theorem Xo(h:Gr v0 v1=some v39):sP 19 [(.agg (Ys v0)),(Z7 v1)] [] (.tuple [(Ln v39.1),(Z7 v39.2)]) []:=
 sG Tryz.func19 λΓ q=>Ao q [1,2,4] [2,4] (tB h λx1 y1 h=>gR q [1,2,4,12] [2,4] [(10,(.agg (Bs (mget ((0:Int),(0:Int)) x1 v1))))] [⟨[],[(20000,8)],(.omap 20000),[(20000,.obj (.pmap false .i64 (mapE (λ(v_:G2)=>((DA v_):AV)) x1)))],[],[]⟩] (c2 (BQ y1) (show(AVle (mget (.agg [Ot,Ot]) (mapE (λ(v_:G2)=>((DA v_):AV)) x1) v1) (.agg (Bs (mget ((0:Int),(0:Int)) x1 v1)))) from(CM (f:=(λ(v_:G2)=>((DA v_):AV))) (l:=x1) (AVle.refl _) rfl))) (gC h (λh=>gR q Sd [4] [(13,(.agg fQ))] [] (c1 (show(AVle (.agg Z5) (.agg fQ)) from(AVle.agg (.cons Dx (.cons (AVle.refl _) .nil))))) (Ul (⟨[YA,(5,(SA 10))],[(4,.row 25 fQ)],[]⟩:St) (tS h (gK (e:=.ret) (Ks [] (show Le Γ _ (⟨[YA,(5,(SA 10))],[(4,.row 25 [ji,U3])],[]⟩:St) from Le.trans (Dv (st':=⟨[YA,(5,(SA 10))],[(4,.row 25 fQ)],[]⟩) Sd [4] q) (K1 (.cons (AVle.refl _) (.cons (AVle.refl _) .nil)) (.row (.cons AVle.untag (.cons (AVle.refl _) .nil)) .nil)))))))) λh=>tB h λx2 y2 h=>tT q [1,4,6] [4,6,15,16] [⟨[],[(20000,15)],(.omap 20000),[(20000,.obj (.map true .i64 (mapE (λ(v_:D1)=>((Ws v_):AV)) x2)))],[],[]⟩] (c1 (EP y2)) (J3 (S6 (λ(k_:List HP) u=>Fn u [] [(bB 16 k_)]) (show[]=(mapE (λ(v_:TForm)=>((Ln v_):AV)) ([]:List HQ)) from rfl)) (tB h λx3 y3 h=>tT q Sd [4] [⟨[(6,30000),(15,9100000),(16,9100001)],[],(Ln x3.1),[RO,(9100000,.obj (.map true .i64 (mapE (λ(v_:D1)=>((Ws v_):AV)) x2))),(9100001,.obj (.map true .i64 (mapE (λ(v_:TForm)=>((Ln v_):AV)) x3.2)))],[],[]⟩] (c1 (Sk y3)) (tS h (C1 []))))))
def Br(aO:List Ag)(aS:List Ag):Int->Option (LR Int (Unit ⊕ Bool)):=
 λ(i1:Int)=>(bif (decide (i1<(aO.length:Int))) then(Cg (Bx i1 aO.length) (Cg (Bx i1 aS.length) (bif (!((((aO.getD i1.toNat default).V:Int)==(aS.getD i1.toNat default).V)&&((((aO.getD i1.toNat default).Scale:Int)==(aS.getD i1.toNat default).Scale)&&true))) then(some (.done (.inr false))) else(some (.next (Bh (i1+1))))))) else(some (.done (.inl ()))))
def Kw(Γ:G5)(aO:List Ag)(aS:List Ag)(r:Bool):Exit->St->Prop:=fK Tryz.prog Γ Tryz.f32.results.toList [] (.bool r) []
def C4(aO:List Ag)(aS:List Ag):Option Bool:=
 (bif ((aO.length:Int)!=(aS.length:Int)) then(some false) else((Ai (Br aO aS) (0:Int)).bind (λx4=>(match x4 with|(.inl _)=>(some true)|(.inr r6)=>(some r6)))))
variable{v43:List Ag}
theorem Kt(h:C4 v35 v43=some v3):sP 32 [(Z9 v35),(Z9 v43)] [] (.bool v3) []:=
 sG Tryz.func32 λΓ q=>tW q Hr [] BL [] (gC h (λh=>Ao q [4] [] (tS h (C1 []))) λh=>Ao q KD [] (tL q h KD [] (λu i1=>(Fn u [(13,(Z7 i1))] [])) (λu x_=>match x_ with|(.inl _)=>aG Γ (.exit 0) (⟨[],[],[]⟩:St)|(.inr r_)=>aR (Kw Γ v35 v43 r_)) (λi1 y h=>Ao q [0,1,12,13,14] [] (gC h (λh=>Ao q [0,1,5,12,13] [] (tC h λc2_ h=>tC h λc3_ h=>tU q [0,1,12,13,24] [] (c2 c2_ c3_) (gC h (λh=>Ao q [4] [] (tS h (gO (Sh (Ks [] (Le.refl _ _)))))) λh=>Ao q KD [] (tN h)))) λh=>tS h (gO (D7 (Dv [] [] q))))) λx4 h=>(match x4,h with | .inl _,h=>gA (Ao q [4] [] (tS h (C1 []))) | .inr r6,h=>Wa (λst' hk=>tS h (gK hk)))))
def Ie(a1:TForm)(aI:TForm):Option Bool:=
 ((bif ((a1.Off==aI.Off)==true) then C4 a1.Terms aI.Terms else some false).bind λx1=>(some (bif (a1.Off==aI.Off) then x1 else false)))
theorem N5(h:Ie v34 v37=some v3):sP 15 [(Ln v34),(Ln v37)] [] (.bool v3) []:=
 sG Tryz.func15 λΓ q=>Ao q Jf Jf (tB h λx1 y1 h=>tT q [4] [] [(Z2 x1)] (kz ((v34.Off==v37.Off)==true) (c2 (λ(hg:((v34.Off==v37.Off)==true)=true)=>(Kt (Bk hg y1))) (M6 (v34.Off==v37.Off)))) (tS h (C1 [])))
def C7:List D1:=([(⟨(0:Int),(64:Int),(1:Int),(2:Int),([]:A4),(8:Int)⟩:D1),(⟨(1:Int),(64:Int),(1:Int),(3:Int),([(1:Int),(2:Int)]:A4),(0:Int)⟩:D1),(⟨(3:Int),(64:Int),(1:Int),(4:Int),([(2:Int),(3:Int)]:A4),(0:Int)⟩:D1)]:List D1)
def mt(x7:TForm):=((x7.Off:Int)==128)
def lL(x8:TForm):=((x8.Terms.length:Int)==1)
def bK:AV:=jh
def ja:AV:=(AV.list 6 NZ default C7 .exact)
def fS(x1:GA)(x3:Bool)(x2:GA):=(bif (bif (x1.2==0) then x3 else false) then(x2.2==10) else false)
def CZ(x1:GA)(x3:Bool)(x2:GA)(x4:Bool):=(bif (fS x1 x3 x2) then x4 else false)
def XT(x1:GA)(x3:Bool)(x2:GA)(x4:Bool)(x6:Bool)(x7:TForm):=(bif (bif (CZ x1 x3 x2 x4) then x6 else false) then(mt x7) else false)
def fT(x1:GA)(x3:Bool)(x2:GA)(x4:Bool)(x6:Bool)(x7:TForm)(x8:TForm):=((bif (XT x1 x3 x2 x4 x6 x7) then(lL x8) else false)==true)
def oL:=(⟨([(⟨(1:Int),(8:Int)⟩:Ag)]:List Ag),(64:Int)⟩:TForm)
def lK:=([(⟨([]:List Hs),C7,(⟨(0:Int),(4:Int),([]:A4)⟩:Ju)⟩:An)]:List An)
def lN:AV:=(.agg [(AV.list 4 DP default ([]:List Hs) .exact),ja,Ot,(.int .i64 (4:Int)),bK])
def lM:AV:=(.agg [Ot,(SA 64),(.int .i64 (1:Int)),(.int .i64 (2:Int)),bK,(.int .u64 (8:Int))])
def m_locksteplaw17_awake :Option Bool:=
 ((Gr (⟨([(64:Int)]:A4),(64:Int),([(⟨([]:List Hs),C7,(⟨(0:Int),(4:Int),([]:A4)⟩:Ju)⟩:An)]:List An)⟩:Ab) (4:Int)).bind λx1=>((Gr (⟨([(64:Int)]:A4),(64:Int),([(⟨([]:List Hs),C7,(⟨(0:Int),(4:Int),([]:A4)⟩:Ju)⟩:An)]:List An)⟩:Ab) (5:Int)).bind λx2=>((bif ((x1.2==0)==true) then Ie x1.1 (⟨([(⟨(1:Int),(8:Int)⟩:Ag)]:List Ag),(64:Int)⟩:TForm) else some false).bind λx3=>((bif ((bif (bif (x1.2==0) then x3 else false) then(x2.2==10) else false)==true) then D8 (⟨([(⟨(1:Int),(8:Int)⟩:Ag)]:List Ag),(64:Int)⟩:TForm) else some false).bind λx4=>((bif ((bif (bif (bif (x1.2==0) then x3 else false) then(x2.2==10) else false) then x4 else false)==true) then Hi (⟨([(⟨(1:Int),(8:Int)⟩:Ag)]:List Ag),(64:Int)⟩:TForm) (⟨([(⟨(1:Int),(8:Int)⟩:Ag)]:List Ag),(64:Int)⟩:TForm) else some (default:TForm)).bind λx5=>((bif ((bif (bif (bif (x1.2==0) then x3 else false) then(x2.2==10) else false) then x4 else false)==true) then Ie x5 (⟨([]:List Ag),(0:Int)⟩:TForm) else some false).bind λx6=>((bif ((bif (bif (bif (bif (x1.2==0) then x3 else false) then(x2.2==10) else false) then x4 else false) then x6 else false)==true) then Ic (⟨([(⟨(1:Int),(8:Int)⟩:Ag)]:List Ag),(64:Int)⟩:TForm) (⟨([(⟨(1:Int),(8:Int)⟩:Ag)]:List Ag),(64:Int)⟩:TForm) else some (default:TForm)).bind λx7=>((bif ((bif (bif (bif (bif (bif (x1.2==0) then x3 else false) then(x2.2==10) else false) then x4 else false) then x6 else false) then((x7.Off:Int)==128) else false)==true) then D9 (⟨([(⟨(1:Int),(8:Int)⟩:Ag)]:List Ag),(64:Int)⟩:TForm) (2:Int) else some (default:TForm)).bind λx8=>((bif ((bif (bif (bif (bif (bif (bif (x1.2==0) then x3 else false) then(x2.2==10) else false) then x4 else false) then x6 else false) then((x7.Off:Int)==128) else false) then((x8.Terms.length:Int)==1) else false)==true) then D9 (⟨([(⟨(1:Int),(8:Int)⟩:Ag)]:List Ag),(64:Int)⟩:TForm) (2:Int) else some (default:TForm)).bind λx9=>(Cg (((bif (bif (bif (bif (bif (bif (x1.2==0) then x3 else false) then(x2.2==10) else false) then x4 else false) then x6 else false) then((x7.Off:Int)==128) else false) then((x8.Terms.length:Int)==1) else false)==true)=true->(Bx (0:Int) x9.Terms.length)) (some (bif (bif (bif (bif (bif (bif (bif (x1.2==0) then x3 else false) then(x2.2==10) else false) then x4 else false) then x6 else false) then((x7.Off:Int)==128) else false) then((x8.Terms.length:Int)==1) else false) then(((x9.Terms.getD (0:Int).toNat (default:Ag)).Scale:Int)==16) else false))))))))))))
theorem Ro  (r:Bool) (h:m_locksteplaw17_awake=some r):sP 9 [] [] (.bool r) []:=
 sG Tryz.func9 λΓ q=>Ao q [] [] (gR q [1] [1] [(7,(AV.list 1 Az 0 ([(64:Int)]:A4) .exact)),(8,lM),(9,(AV.list 1 Az 0 ([(1:Int),(2:Int)]:A4) .exact)),(11,(AV.list 1 Az 0 ([(2:Int),(3:Int)]:A4) .exact)),(13,ja),(14,(.agg [Ot,(.int .i64 (4:Int)),bK])),(15,lN),(16,(AV.list 5 Gn default lK .exact))] [] (c8 (Cn 1 Az (0:Int) ([(64:Int)]:A4)) (show(AVle (.agg [Ot,(SA 64),(.int .i64 (1:Int)),(.int .i64 (2:Int)),XY,(.int .u64 (8:Int))]) lM) from(AVle.agg (.cons (AVle.refl _) (.cons (AVle.refl _) (.cons (AVle.refl _) (.cons (AVle.refl _) (.cons Dx (.cons (AVle.refl _) .nil)))))))) (Cn 1 Az (0:Int) ([(1:Int),(2:Int)]:A4)) (Cn 1 Az (0:Int) ([(2:Int),(3:Int)]:A4)) (Cn 6 NZ (default:D1) C7) (show(AVle (.agg [Ot,(.int .i64 (4:Int)),XY]) (.agg [Ot,(.int .i64 (4:Int)),bK])) from(AVle.agg (.cons (AVle.refl _) (.cons (AVle.refl _) (.cons Dx .nil))))) (show(AVle (.agg [XY,ja,Ot,(.int .i64 (4:Int)),bK]) lN) from(AVle.agg (.cons Dx (.cons (AVle.refl _) (.cons (AVle.refl _) (.cons (AVle.refl _) (.cons (AVle.refl _) .nil))))))) (Cn 5 Gn (default:An) lK)) (tB h λx1 y1 h=>tT q [1,2,3] Yi [⟨[],[],(.tuple [(Ln x1.1),(Z7 x1.2)]),[],[],[]⟩] (c1 (Xo y1)) (tB h λx2 y2 h=>tT q [2,3,5] [2] [⟨[],[],(.tuple [(Ln x2.1),(Z7 x2.2)]),[],[],[]⟩] (c1 (Xo y2)) (gR q [2,3,5,6] [2,6] [(29,(AV.list 2 Db default ([(⟨(1:Int),(8:Int)⟩:Ag)]:List Ag) .exact))] [] (c1 (Cn 2 Db (default:Ag) ([(⟨(1:Int),(8:Int)⟩:Ag)]:List Ag))) (tB h λx3 y3 h=>tB h λx4 y4 h=>tB h λx5 y5 h=>tB h λx6 y6 h=>tB h λx7 y7 h=>tB h λx8 y8 h=>tB h λx9 y9 h=>tC h λc10_ h=>gR q [0] [] [(50,(.agg [XW,U3]))] [(Z2 x3),(Z2 x4),(ND x5),(Z2 x6),(ND x7),(ND x8),(ND x9)] (Pz ((x1.2==0)==true) (oQ (λ(hg:((x1.2==0)==true)=true)=>(N5 (Bk hg y3))) (M6 (x1.2==0)) (gI ((bif (x1.2==0) then x3 else false)==true)) (M6 (bif (x1.2==0) then x3 else false)) (gI ((fS x1 x3 x2)==true)) (λ(hg:((fS x1 x3 x2)==true)=true)=>(F0 (Bk hg y4))) (M6 (fS x1 x3 x2)) (Pz ((CZ x1 x3 x2 x4)==true) (YP (λ(hg:((CZ x1 x3 x2 x4)==true)=true)=>(My (Bk hg y5))) (show(((CZ x1 x3 x2 x4)==true)=true->(AVle (.agg Z5) (.agg [XW,U3]))) from(λhg=>(AVle.agg (.cons Dx (.cons (AVle.refl _) .nil))))) (Pz ((CZ x1 x3 x2 x4)==true) (YP (λ(hg:((CZ x1 x3 x2 x4)==true)=true)=>(N5 (Bk hg y6))) (M6 (CZ x1 x3 x2 x4)) (Pz ((bif (CZ x1 x3 x2 x4) then x6 else false)==true) (ci (λ(hg:((bif (CZ x1 x3 x2 x4) then x6 else false)==true)=true)=>(N4 (Bk hg y7))) (Pz ((bif (CZ x1 x3 x2 x4) then x6 else false)==true) (j5 (M6 (bif (CZ x1 x3 x2 x4) then x6 else false)) (gI ((XT x1 x3 x2 x4 x6 x7)==true)) (λ(hg:((XT x1 x3 x2 x4 x6 x7)==true)=true)=>(Gk (Bk hg y8))) (OH ((XT x1 x3 x2 x4 x6 x7)==true) (j5 (M6 (XT x1 x3 x2 x4 x6 x7)) (gI (fT x1 x3 x2 x4 x6 x7 x8)) (λ(hg:(fT x1 x3 x2 x4 x6 x7 x8)=true)=>(Gk (Bk hg y9))) (Pz (fT x1 x3 x2 x4 x6 x7 x8) (ci c10_ (OH (fT x1 x3 x2 x4 x6 x7 x8) (c1 (M6 (bif (XT x1 x3 x2 x4 x6 x7) then(lL x8) else false)))))))))))))))))) (tS h (C1 [])))))))
def Eg(a1:TForm):Int->Option (LR Int (Unit ⊕ Bool)):=
 λ(i1:Int)=>(bif (decide (i1<(a1.Terms.length:Int))) then(Cg (Bx i1 a1.Terms.length) (Cg (((decide (((a1.Terms.getD i1.toNat default).V:Int)<1))==false)=true->(Bx i1 a1.Terms.length)) (Cg (((bif (decide (((a1.Terms.getD i1.toNat default).V:Int)<1)) then true else(decide ((1023:Int)<(a1.Terms.getD i1.toNat default).V)))==false)=true->(Bx i1 a1.Terms.length)) (Cg ((((bif (bif (decide (((a1.Terms.getD i1.toNat default).V:Int)<1)) then true else(decide ((1023:Int)<(a1.Terms.getD i1.toNat default).V))) then true else(((a1.Terms.getD i1.toNat default).Scale:Int)==0))==false)&&((decide ((0:Int)<i1))==true))=true->(Bx i1 a1.Terms.length)) (Cg ((((bif (bif (decide (((a1.Terms.getD i1.toNat default).V:Int)<1)) then true else(decide ((1023:Int)<(a1.Terms.getD i1.toNat default).V))) then true else(((a1.Terms.getD i1.toNat default).Scale:Int)==0))==false)&&((decide ((0:Int)<i1))==true))=true->(Bx (Bh (i1-1)) a1.Terms.length)) (bif (bif (bif (bif (decide (((a1.Terms.getD i1.toNat default).V:Int)<1)) then true else(decide ((1023:Int)<(a1.Terms.getD i1.toNat default).V))) then true else(((a1.Terms.getD i1.toNat default).Scale:Int)==0)) then true else(bif (decide ((0:Int)<i1)) then(decide (((a1.Terms.getD i1.toNat default).V:Int)<=(a1.Terms.getD (Bh (i1-1)).toNat (default:Ag)).V)) else false)) then(some (.done (.inr false))) else(some (.next (Bh (i1+1)))))))))) else(some (.done (.inl ()))))
def U2(Γ:G5)(a1:TForm)(r:Bool):Exit->St->Prop:=fK Tryz.prog Γ Tryz.f14.results.toList [] (.bool r) []
def bL(a1:TForm)(i1:Int):=(bif (bif (decide (((a1.Terms.getD i1.toNat default).V:Int)<1)) then true else(decide ((1023:Int)<(a1.Terms.getD i1.toNat default).V))) then true else(((a1.Terms.getD i1.toNat default).Scale:Int)==0))
def mu(i1:Int):=((decide ((0:Int)<i1))==true)
def fU(a1:TForm)(i1:Int):=(((bL a1 i1)==false)&&(mu i1))
def lP(a1:TForm)(i1:Int):=((decide (((a1.Terms.getD i1.toNat default).V:Int)<1))==false)
def lO(a1:TForm)(i1:Int):=((bif (decide (((a1.Terms.getD i1.toNat default).V:Int)<1)) then true else(decide ((1023:Int)<(a1.Terms.getD i1.toNat default).V)))==false)
def En(a1:TForm):Option Bool:=
 ((Ai (Eg a1) (0:Int)).bind (λx7=>(match x7 with|(.inl _)=>(some true)|(.inr r9)=>(some r9))))
theorem I5(h:En v34=some v3):sP 14 [(Ln v34)] [] (.bool v3) []:=
 sG Tryz.func14 λΓ q=>tW q [1] [1] [1,3] [1] (tL q h [1,3] [1] (λu i1=>(Fn u [(3,(Z7 i1))] [])) (λu x_=>match x_ with|(.inl _)=>aG Γ (.exit 0) (⟨[],[],[]⟩:St)|(.inr r_)=>aR (U2 Γ v34 r_)) (λi1 y h=>Ao q [1,3,8] [1] (gC h (λh=>tC h λc2_ h=>tC h λc3_ h=>tC h λc4_ h=>tC h λc5_ h=>tC h λc6_ h=>tU q [1,3,55] [1] (ci c2_ (OH (lP v34 i1) (ci c3_ (OH (lP v34 i1) (ci (U4 (decide (((v34.Terms.getD i1.toNat default).V:Int)<1))) (OH (lO v34 i1) (ci c4_ (OH (lO v34 i1) (ci (U4 (bif (decide (((v34.Terms.getD i1.toNat default).V:Int)<1)) then true else(decide ((1023:Int)<(v34.Terms.getD i1.toNat default).V)))) (Pz ((bL v34 i1)==false) (OH (fU v34 i1) (ci c5_ (oF (fU v34 i1) (ci c6_ (kz (fU v34 i1) (c3 (gI ((bL v34 i1)==false)) (show(((bL v34 i1)==false)=true->((decide ((0:Int)<i1))=true->(fU v34 i1)=true)) from(λhg=>(aT hg))) (U4 (bL v34 i1)))))))))))))))))) (gC h (λh=>Ao q [2] [] (tS h (gO (Sh (Ks [] (Le.refl _ _)))))) λh=>Ao q [1,3] [1] (tN h))) λh=>tS h (gO (D7 (Dv [] [] q))))) λx7 h=>(match x7,h with | .inl _,h=>gA (Ao q [2] [] (tS h (C1 []))) | .inr r9,h=>Wa (λst' hk=>tS h (gK hk))))
def D6(a1:TForm)(aI:TForm):Int->Option (LR Int (Unit ⊕ Bool)):=
 λ(i1:Int)=>(bif (decide (i1<(a1.Terms.length:Int))) then(Cg (Bx i1 a1.Terms.length) (Cg (Bx i1 aI.Terms.length) (bif (!((((a1.Terms.getD i1.toNat default).V:Int)==(aI.Terms.getD i1.toNat default).V)&&((((a1.Terms.getD i1.toNat default).Scale:Int)==(aI.Terms.getD i1.toNat default).Scale)&&true))) then(some (.done (.inr false))) else(some (.next (Bh (i1+1))))))) else(some (.done (.inl ()))))
def Sw(Γ:G5)(a1:TForm)(aI:TForm)(r:Bool):Exit->St->Prop:=fK Tryz.prog Γ Tryz.f16.results.toList [] (.bool r) []
def mv(a1:TForm)(aI:TForm):=((a1.Off !=aI.Off)==false)
def A8(a1:TForm)(aI:TForm):Option Bool:=
 (bif (bif (a1.Off !=aI.Off) then true else((a1.Terms.length:Int)!=(aI.Terms.length:Int))) then(some false) else((Ai (D6 a1 aI) (0:Int)).bind (λx4=>(match x4 with|(.inl _)=>(some true)|(.inr r6)=>(some r6)))))
theorem Bw(h:A8 v34 v37=some v3):sP 16 [(Ln v34),(Ln v37)] [] (.bool v3) []:=
 sG Tryz.func16 λΓ q=>Ao q Jf Jf (tU q [2,3,19] Jf (oF (mv v34 v37) (c1 (U4 (v34.Off !=v37.Off)))) (gC h (λh=>Ao q [4] [] (tS h (C1 []))) λh=>Ao q [2,3,5] Jf (tL q h [2,3,5] Jf (λu i1=>(Fn u [(5,(Z7 i1))] [])) (λu x_=>match x_ with|(.inl _)=>aG Γ (.exit 0) (⟨[],[],[]⟩:St)|(.inr r_)=>aR (Sw Γ v34 v37 r_)) (λi1 y h=>Ao q [2,3,5,24] Jf (gC h (λh=>tC h λc2_ h=>tC h λc3_ h=>tU q [2,3,5,37] Jf (c2 c2_ c3_) (gC h (λh=>Ao q [4] [] (tS h (gO (Sh (Ks [] (Le.refl _ _)))))) λh=>Ao q [2,3,5] Jf (tN h))) λh=>tS h (gO (D7 (Dv [] [] q))))) λx4 h=>(match x4,h with | .inl _,h=>gA (Ao q [4] [] (tS h (C1 []))) | .inr r6,h=>Wa (λst' hk=>tS h (gK hk))))))
abbrev ic:=(Int×Dn)
abbrev mX:=(LR (Int×Dn) Dn)
def Ew(a1:TForm):ic->Option mX:=
 λ((i1,z2):ic)=>(bif (decide (i1<(a1.Terms.length:Int))) then(Cg (Bx i1 a1.Terms.length) (Cg (Bx i1 a1.Terms.length) (Cg (Bx (a1.Terms.getD i1.toNat default).V 1024) (some (.next ((Bh (i1+1)),(⟨Ha 1024 (0:Int) z2.Scale ((a1.Terms.getD i1.toNat default).V).toNat ((a1.Terms.getD i1.toNat default).Scale),z2.Off⟩:Dn))))))) else(some (.done z2)))
def NB(z2:Dn):=(λ(_:Nat)=>Dc z2)
def Ww(a1:TForm)(i1:Int):=(a1.Terms.getD i1.toNat default)
def fV(a1:TForm):=(λ(_:Nat)=>Dc (⟨[],a1.Off⟩:Dn))
def bM(z2:Dn)(a1:TForm)(i1:Int):=(⟨Ha 1024 (0:Int) z2.Scale ((Ww a1 i1).V).toNat ((Ww a1 i1).Scale),z2.Off⟩:Dn)
def lQ(a1:TForm):=(λ(i_:Nat)=>((Gq 1024 (λ_=>[U3])++(([(Hc a1.Off)]:List AV)++([]:List AV))).drop (i_*1025)).take 1025)
def F8(a1:TForm):Option Dn:=
 ((Ai (Ew a1) ((0:Int),(⟨[],a1.Off⟩:Dn))).bind (λx7=>(some x7)))
variable{v44:Dn}
theorem M9(h:F8 v34=some v44):sP 33 [(Ln v34)] [] (.vpt 20000 1 0 0) [(20000,.arr 1025 71 1 (λ(_:Nat)=>Dc v44))]:=
 sG Tryz.func33 λΓ q=>Ao q [1] [1] (gR q [1,3] Se [(8,(.vpt 8 1 0 0))] [] trivial (J3 (Ly 8 (show ∀ k_,k_<1->AVleL ((λ(i_:Nat)=>AV.eraseAll (λn_=>Bl n_ Se) ((lQ v34) i_)) k_) ((fV v34) k_) from(Hu (Cj (F:=(lQ v34)) (iP (Z:=Gq 1024 (λ_=>[U3])++(([(Hc v34.Off)]:List AV)++([]:List AV))) (R:=Dc (⟨[],v34.Off⟩:Dn)) (LE (WB λ_ _=>rfl) (LE (λ_=>rfl) (λ_=>rfl))) (Xc (cw λ_=>(.cons (AVle.refl _) .nil)) (Xc (.cons (AVle.refl _) .nil) .nil)) (by kernel_rfl)))))) (Ao q Zz Se (J3 (Ly 8 (show ∀ k_,k_<1->AVleL ((λ(i_:Nat)=>AV.eraseAll (λn_=>Bl n_ Se) ((fV v34) i_)) k_) ((fV v34) k_) from(Hu (Cj (F:=(fV v34)) (D2 (Ct (⟨[],v34.Off⟩:Dn))))))) (tL q h Zz Se (λu (i1,z2)=>(Fn u [(4,(Z7 i1))] [(8,.arr 1025 71 1 (NB z2))])) (λu z3=>aG Γ (.exit 0) (Wj [3] [8] u [] [(8,.arr 1025 71 1 (λ(_:Nat)=>Dc z3))])) (λ⟨i1,z2⟩ y h=>Ao q [1,3,4,13] Se (J3 (Ly 8 (show ∀ k_,k_<1->AVleL ((λ(i_:Nat)=>AV.eraseAll (λn_=>Bl n_ Se) ((NB z2) i_)) k_) ((NB z2) k_) from(Hu (Cj (F:=(NB z2)) (D2 (Ct z2)))))) (gC h (λh=>tC h λc4_ h=>tC h λc5_ h=>tC h λc6_ h=>tU q Zz Se (c5 c4_ c5_ c6_ (Eq.refl 1) (show((0+((Ww v34 i1).V).toNat*1)+([(.int .u64 (Ww v34 i1).Scale)]:List AV).length<=1025) from(UC c6_ (by kernel_rfl)))) (J3 (Ly 8 (show ∀ k_,k_<1->AVleL ((λ(i_:Nat)=>AV.eraseAll (λn_=>Bl n_ Se) ((I8 (NB z2) 0 (0+((Ww v34 i1).V).toNat*1) [(.int .u64 (Ww v34 i1).Scale)]) i_)) k_) ((λ(_:Nat)=>Dc (bM z2 v34 i1)) k_) from(Hu (Cj (F:=(I8 (NB z2) 0 (0+((Ww v34 i1).V).toNat*1) [(.int .u64 (Ww v34 i1).Scale)])) (UH (F:=(NB z2)) (G:=(NB z2)) (cs:=[(.int .u64 (Ww v34 i1).Scale)]) (cs':=Yt ((Ww v34 i1).Scale)) (D2 (Ct z2)) (λ_=>rfl) (show AVleL [(.int .u64 (Ww v34 i1).Scale)] (Yt ((Ww v34 i1).Scale)) from AVleL.refl _) (Tv z2 ((Ww v34 i1).V) c6_ ((Ww v34 i1).Scale))))))) (Ao q Zz Se (tS h (gN (Le.trans (Ly 8 (show ∀ k_,k_<1->AVleL ((λ(i_:Nat)=>AV.eraseAll (λn_=>Bl n_ Se) ((λ(_:Nat)=>Dc (bM z2 v34 i1)) i_)) k_) ((λ(_:Nat)=>Dc (bM z2 v34 i1)) k_) from(Hu (Cj (F:=(λ(_:Nat)=>Dc (bM z2 v34 i1))) (D2 (Ct (bM z2 v34 i1))))))) M7)))))) λh=>tS h (gO (D7 (Dv [3] [8] q)))))) λx7 h=>gA (Ao q [2] [8] (tS h (gK (e:=.ret) (Ks [(8,20000)] (Ly 8 (show ∀ k_,k_<1->AVleL ((λ(i_:Nat)=>AV.eraseAll (λn_=>Bl n_ [8]) ((λ(_:Nat)=>Dc x7) i_)) k_) ((λ(_:Nat)=>Dc x7) k_) from(Hu (Cj (F:=(λ(_:Nat)=>Dc x7)) (D2 (Ct x7)))))))))))))))
def Cx(aE:Dn):ib->Option (LR (Int×List Ag) (List Ag)):=
 λ((i1,l2):ib)=>(bif (decide (i1<1024)) then(Option.bind (α:=List Ag) (Cg (Bx i1 1024) (bif ((aE.Scale.getD i1.toNat 0)!=0) then(Cg (Bx i1 1024) (Cg (l2.length+([(⟨i1,(aE.Scale.getD i1.toNat 0)⟩:Ag)]:List Ag).length<=room) (some (l2++([(⟨i1,(aE.Scale.getD i1.toNat 0)⟩:Ag)]:List Ag))))) else(some l2))) (λx8=>(some (.next ((Bh (i1+1)),x8))))) else(some (.done l2)))
def Md(aE:Dn):=(λ(_:Nat)=>Dc aE)
def jd:List AV:=Z5
def bN(i1:Int)(aE:Dn):=([(⟨i1,(aE.Scale.getD i1.toNat 0)⟩:Ag)]:List Ag)
def jb(aE:Dn):List AV:=[XW,(Hc aE.Off)]
def lR:List iX:=[(0,(.vpt 34000 1 0 0)),HS,(3,(.ptr 3 0)),(4,Ot)]
def fW(aE:Dn):=(λ(i_:Nat)=>AV.eraseAll (λn_=>Bl n_ [2,3,5300,34000]) ((Md aE) i_))
def lS(aE:Dn):=(⟨lR,[(2,.row 25 jd),(3,.row 25 [(AV.list 2 Db default ([]:List Ag) (.own 5300)),(Hc aE.Off)]),(5300,.tok 2 51 (([]:List Ag).length)),(34000,.arr 1025 71 1 (Md aE))],[]⟩:St)
def Et(aE:Dn):Option (TForm×Dn):=
 ((Ai (Cx aE) ((0:Int),([]:List Ag))).bind (λx10=>(some ((⟨x10,aE.Off⟩:TForm),aE))))
variable{v45:(TForm×Dn)}
theorem N7(h:Et v44=some v45):sP 34 [(.vpt 34000 1 0 0)] [(34000,.arr 1025 71 1 (λ(_:Nat)=>Dc v44))] (Ln v45.1) [(34000,.arr 1025 71 1 (λ(_:Nat)=>Dc v45.2))]:=
 sG Tryz.func34 λΓ q=>Ao q [0,2] [2,34000] (J3 (Ly 34000 (show ∀ k_,k_<1->AVleL ((λ(i_:Nat)=>AV.eraseAll (λn_=>Bl n_ [2,34000]) ((Md v44) i_)) k_) ((Md v44) k_) from(Hu (Cj (F:=(Md v44)) (D2 (Ct v44)))))) (gR q GH RJ [(9,(.agg (jb v44)))] [] (c3 (Eq.refl 1) (show(1024<1025) from(by decide)) (show(AVle (.agg [XY,(Hc v44.Off)]) (.agg (jb v44))) from(AVle.agg (.cons Dx (.cons (AVle.refl _) .nil))))) (J3 (Ly 34000 (show ∀ k_,k_<1->AVleL ((λ(i_:Nat)=>AV.eraseAll (λn_=>Bl n_ RJ) ((Md v44) i_)) k_) ((Md v44) k_) from(Hu (Cj (F:=(Md v44)) (D2 (Ct v44)))))) (Ao q GK RJ (J3 (Ly 34000 (show ∀ k_,k_<1->AVleL ((λ(i_:Nat)=>AV.eraseAll (λn_=>Bl n_ RJ) ((Md v44) i_)) k_) ((Md v44) k_) from(Hu (Cj (F:=(Md v44)) (D2 (Ct v44)))))) (J3 (st':=(lS v44)) (Le.trans (Dv (st':=⟨lR,[(2,.row 25 jd),(3,.row 25 (jb v44)),(34000,.arr 1025 71 1 (Md v44))],[]⟩) GK RJ q) (Le.trans (Mh (r:=3) (j:=0) (nm:=5300) (sz':=2) (λi=>Db (([]:List Ag).getD i default)) 51 rfl rfl (nl rfl) rfl (.inl ⟨rfl,rfl⟩) (λh_=>absurd h_ (by decide))) (Dv (st':=(lS v44)) GK Yg q))) (tL q h GK Yg (λu (i1,l2)=>(Fn u [(4,(Z7 i1))] [(3,.row 25 (fa l2 5300 v44.Off)),(5300,.tok 2 51 l2.length)])) (λu l3=>aG Γ (.exit 0) (Wj Jf Yg u [] [(3,.row 25 (fa l3 5300 v44.Off)),(5300,.tok 2 51 l3.length)])) (λ⟨i1,l2⟩ y h=>Ao q [0,2,3,4,11] Yg (J3 (Ly 34000 (show ∀ k_,k_<1->AVleL ((fW v44) k_) ((Md v44) k_) from(Hu (Cj (F:=(Md v44)) (D2 (Ct v44)))))) (gC h (λh=>tB h λx8 y8 h=>gJ y8 (λl4=>aG Γ .normal (⟨[(0,(.vpt 34000 1 0 0)),HS,(3,(.ptr 3 0)),(4,(Z7 i1))],[(2,.row 25 jd),(3,.row 25 (fa l4 5300 v44.Off)),(5300,.tok 2 51 l4.length),(34000,.arr 1025 71 1 (Md v44))],[]⟩:St)) (λy h=>tC h λc5_ h=>gR q [0,2,3,4,20] Yg [(19,(.int .u64 (v44.Scale.getD i1.toNat 0)))] [] (c4 c5_ (Eq.refl 1) (show((0+i1.toNat*1)<1025) from(CT c5_ (by kernel_rfl))) (show(AVle (((Md v44) 0).getD (0+i1.toNat*1) .any) (.int .u64 (v44.Scale.getD i1.toNat 0))) from(CU (Lj v44) c5_ rfl))) (J3 (Ly 34000 (show ∀ k_,k_<1->AVleL ((fW v44) k_) ((Md v44) k_) from(Hu (Cj (F:=(Md v44)) (D2 (Ct v44)))))) (gC h (λh=>tC h λc6_ h=>tC h λc7_ h=>gR q GK Yg [(29,(.int .u64 (v44.Scale.getD i1.toNat 0))),(31,(AV.list 2 Db default (bN i1 v44) .exact)),(32,(AV.list 2 Db default (l2++(bN i1 v44)) (.own 5300)))] [] (c9 c6_ (Eq.refl 1) (show((0+i1.toNat*1)<1025) from(CT c6_ (by kernel_rfl))) (show(AVle (((Md v44) 0).getD (0+i1.toNat*1) .any) (.int .u64 (v44.Scale.getD i1.toNat 0))) from(CU (Lj v44) c6_ rfl)) (Cn 2 Db (default:Ag) (bN i1 v44)) (Eq.refl l2.length) c7_ (Uf 2 5300 Db (default:Ag) l2 (bN i1 v44)) (Il l2 (bN i1 v44))) (tS h (gK (D7 (Le.trans (Ly 34000 (show ∀ k_,k_<1->AVleL ((fW v44) k_) ((Md v44) k_) from(Hu (Cj (F:=(Md v44)) (D2 (Ct v44)))))) M7))))) λh=>tS h (gK (D7 (Dv GK Yg q)))))) (gA (Ao q GK Yg (tS h (gN (Le.trans (Ly 34000 (show ∀ k_,k_<1->AVleL ((fW v44) k_) ((Md v44) k_) from(Hu (Cj (F:=(Md v44)) (D2 (Ct v44)))))) M7)))))) λh=>tS h (gO (D7 (Dv Jf Yg q)))))) λx10 h=>gA (Ao q [2] [2,5300,34000] (tS h (gK (e:=.ret) (Ks [(34000,34000)] (Ly 34000 (show ∀ k_,k_<1->AVleL ((λ(i_:Nat)=>AV.eraseAll (λn_=>Bl n_ [2,5300,34000]) ((Md v44) i_)) k_) ((Md v44) k_) from(Hu (Cj (F:=(Md v44)) (D2 (Ct v44)))))))))))))))))
open Go Go.RowKit
set_option maxRecDepth 100000
set_option maxHeartbeats 2000000
def Eh(aF:Int)(aQ:Int)(x2:Dn):ic->Option mX:=
 λ((i3,z4):ic)=>(bif (decide (i3<1024)) then(Cg (Bx i3 1024) (Cg (Bx i3 1024) (Cg (Bx i3 1024) (some (.next ((Bh (i3+1)),(⟨Ha 1024 (0:Int) z4.Scale i3.toNat (Cf ((Cf ((z4.Scale.getD i3.toNat 0)*aF))+(Cf ((x2.Scale.getD i3.toNat 0)*aQ)))),z4.Off⟩:Dn))))))) else(some (.done z4)))
def GQ(x1:Dn):=(λ(_:Nat)=>Dc x1)
def KP(z4:Dn):=(λ(_:Nat)=>Dc z4)
def Yl(x2:Dn):=(λ(_:Nat)=>Dc x2)
def KO(x9:Dn)(aF:Int)(x2:Dn)(aQ:Int):=(Cf ((Cf (x9.Off*aF))+(Cf (x2.Off*aQ))))
def bO(x2:Dn):=(λ(i_:Nat)=>AV.eraseAll (λn_=>Bl n_ [8,13,15]) ((Yl x2) i_))
def GP(z4:Dn)(i3:Int)(aF:Int)(x2:Dn)(aQ:Int):=(Cf ((Cf ((z4.Scale.getD i3.toNat 0)*aF))+(Cf ((x2.Scale.getD i3.toNat 0)*aQ))))
def fX(z4:Dn)(i3:Int)(aF:Int)(x2:Dn)(aQ:Int):=(λ(_:Nat)=>Dc (⟨Ha 1024 (0:Int) z4.Scale i3.toNat (GP z4 i3 aF x2 aQ),z4.Off⟩:Dn))
def Cb(a1:TForm)(aF:Int)(aI:TForm)(aQ:Int):Option TForm:=
 ((F8 a1).bind λx1=>((F8 aI).bind λx2=>((Ai (Eh aF aQ x2) ((0:Int),x1)).bind (λx9=>((Et (⟨x9.Scale,(Cf ((Cf (x9.Off*aF))+(Cf (x2.Off*aQ))))⟩:Dn)).bind λx11=>(some x11.1))))))
theorem I6(h:Cb v34 v1 v37 v11=some v38):sP 17 [(Ln v34),(Hc v1),(Ln v37),(Hc v11)] [] (Ln v38) []:=
 sG Tryz.func17 λΓ q=>Ao q [1,3,4,6,8] [4,6,8] (tB h λx1 y1 h=>tT q [1,3,6,8,9] [6,8,13] [⟨[],[(20000,13)],(.vpt 20000 1 0 0),[(20000,.arr 1025 71 1 (GQ x1))],[],[]⟩] (c1 (M9 y1)) (J3 (Ly 13 (show ∀ k_,k_<1->AVleL ((λ(i_:Nat)=>AV.eraseAll (λn_=>Bl n_ [6,8,13]) ((GQ x1) i_)) k_) ((GQ x1) k_) from(Hu (Cj (F:=(GQ x1)) (D2 (Ct x1)))))) (tB h λx2 y2 h=>tT q VA Qh [⟨[],[(20000,15)],(.vpt 20000 1 0 0),[(20000,.arr 1025 71 1 (Yl x2))],[],[]⟩] (c1 (M9 y2)) (J3 (Le.trans (Ly 13 (show ∀ k_,k_<1->AVleL ((λ(i_:Nat)=>AV.eraseAll (λn_=>Bl n_ Qh) ((GQ x1) i_)) k_) ((GQ x1) k_) from(Hu (Cj (F:=(GQ x1)) (D2 (Ct x1)))))) (Ly 15 (show ∀ k_,k_<1->AVleL ((bO x2) k_) ((Yl x2) k_) from(Hu (Cj (F:=(Yl x2)) (D2 (Ct x2))))))) (Ao q XL Qh (J3 (Le.trans (Ly 13 (show ∀ k_,k_<1->AVleL ((λ(i_:Nat)=>AV.eraseAll (λn_=>Bl n_ Qh) ((GQ x1) i_)) k_) ((GQ x1) k_) from(Hu (Cj (F:=(GQ x1)) (D2 (Ct x1)))))) (Ly 15 (show ∀ k_,k_<1->AVleL ((bO x2) k_) ((Yl x2) k_) from(Hu (Cj (F:=(Yl x2)) (D2 (Ct x2))))))) (tL q h XL Qh (λu (i3,z4)=>(Fn u [(11,(Z7 i3))] [(13,.arr 1025 71 1 (KP z4))])) (λu z5=>aG Γ (.exit 0) (Wj VA Qh u [] [(13,.arr 1025 71 1 (λ(_:Nat)=>Dc z5))])) (λ⟨i3,z4⟩ y h=>Ao q [1,3,8,9,10,11,17] Qh (J3 (Le.trans (Ly 13 (show ∀ k_,k_<1->AVleL ((λ(i_:Nat)=>AV.eraseAll (λn_=>Bl n_ Qh) ((KP z4) i_)) k_) ((KP z4) k_) from(Hu (Cj (F:=(KP z4)) (D2 (Ct z4)))))) (Ly 15 (show ∀ k_,k_<1->AVleL ((bO x2) k_) ((Yl x2) k_) from(Hu (Cj (F:=(Yl x2)) (D2 (Ct x2))))))) (gC h (λh=>tC h λc6_ h=>tC h λc7_ h=>tC h λc8_ h=>gR q XL Qh [(27,(.int .u64 (z4.Scale.getD i3.toNat 0))),(35,(.int .u64 (x2.Scale.getD i3.toNat 0)))] [] (nX c6_ (Eq.refl 1) (show((0+i3.toNat*1)<1025) from(CT c6_ (by kernel_rfl))) (show(AVle (((KP z4) 0).getD (0+i3.toNat*1) .any) (.int .u64 (z4.Scale.getD i3.toNat 0))) from(CU (Lj z4) c6_ rfl)) c7_ (Eq.refl 1) (show((0+i3.toNat*1)<1025) from(CT c7_ (by kernel_rfl))) (show(AVle (((Yl x2) 0).getD (0+i3.toNat*1) .any) (.int .u64 (x2.Scale.getD i3.toNat 0))) from(CU (Lj x2) c7_ rfl)) c8_ (c2 (Eq.refl 1) (show((0+i3.toNat*1)+([(Hc (GP z4 i3 v1 x2 v11))]:List AV).length<=1025) from(UC c8_ (by kernel_rfl))))) (J3 (Le.trans (Ly 13 (show ∀ k_,k_<1->AVleL ((λ(i_:Nat)=>AV.eraseAll (λn_=>Bl n_ Qh) ((I8 (KP z4) 0 (0+i3.toNat*1) [(Hc (GP z4 i3 v1 x2 v11))]) i_)) k_) ((fX z4 i3 v1 x2 v11) k_) from(Hu (Cj (F:=(I8 (KP z4) 0 (0+i3.toNat*1) [(Hc (GP z4 i3 v1 x2 v11))])) (UH (F:=(KP z4)) (G:=(KP z4)) (cs:=[(Hc (GP z4 i3 v1 x2 v11))]) (cs':=Yt (GP z4 i3 v1 x2 v11)) (D2 (Ct z4)) (λ_=>rfl) (show AVleL [(Hc (GP z4 i3 v1 x2 v11))] (Yt (GP z4 i3 v1 x2 v11)) from AVleL.refl _) (Tv z4 i3 c8_ (GP z4 i3 v1 x2 v11))))))) (Ly 15 (show ∀ k_,k_<1->AVleL ((bO x2) k_) ((Yl x2) k_) from(Hu (Cj (F:=(Yl x2)) (D2 (Ct x2))))))) (Ao q XL Qh (tS h (gN (Le.trans (Le.trans (Ly 13 (show ∀ k_,k_<1->AVleL ((λ(i_:Nat)=>AV.eraseAll (λn_=>Bl n_ Qh) ((fX z4 i3 v1 x2 v11) i_)) k_) ((fX z4 i3 v1 x2 v11) k_) from(Hu (Cj (F:=(fX z4 i3 v1 x2 v11)) (D2 (Ct (⟨Ha 1024 (0:Int) z4.Scale i3.toNat (GP z4 i3 v1 x2 v11),z4.Off⟩:Dn))))))) (Ly 15 (show ∀ k_,k_<1->AVleL ((bO x2) k_) ((Yl x2) k_) from(Hu (Cj (F:=(Yl x2)) (D2 (Ct x2))))))) M7)))))) λh=>tS h (gO (D7 (Dv VA Qh q)))))) λx9 h=>gA (tU q [8,9] [8,13] (c6 (Eq.refl 1) (show(1024<1025) from(by decide)) (Eq.refl 1) (show(1024<1025) from(by decide)) (Eq.refl 1) (show(1024+([(Hc (KO x9 v1 x2 v11))]:List AV).length<=1025) from(nl rfl))) (J3 (Ly 13 (show ∀ k_,k_<1->AVleL ((λ(i_:Nat)=>AV.eraseAll (λn_=>Bl n_ [8,13]) ((I8 (λ(_:Nat)=>Dc x9) 0 1024 [(Hc (KO x9 v1 x2 v11))]) i_)) k_) ((λ(_:Nat)=>Dc (⟨x9.Scale,(KO x9 v1 x2 v11)⟩:Dn)) k_) from(Hu (Cj (F:=(I8 (λ(_:Nat)=>Dc x9) 0 1024 [(Hc (KO x9 v1 x2 v11))])) (UH (F:=(λ(_:Nat)=>Dc x9)) (G:=(λ(_:Nat)=>Dc x9)) (cs:=[(Hc (KO x9 v1 x2 v11))]) (cs':=Yt (KO x9 v1 x2 v11)) (D2 (Ct x9)) (λ_=>rfl) (show AVleL [(Hc (KO x9 v1 x2 v11))] (Yt (KO x9 v1 x2 v11)) from AVleL.refl _) (MK x9 (KO x9 v1 x2 v11))))))) (tB h λx11 y11 h=>tT q [8] [8] [⟨[(13,34000)],[],(Ln x11.1),[(34000,.arr 1025 71 1 (λ(_:Nat)=>Dc x11.2))],[],[]⟩] (c1 (N7 y11)) (tS h (C1 []))))))))))))
def oM:=(⟨([]:List Ag),(0:Int)⟩:TForm)
def lT(a1:TForm):=(decide ((200:Int)<(a1.Terms.length:Int)))
def XU:AV:=(.agg Z5)
def BO:AV:=(.agg [XW,U3])
def F7(a1:TForm)(a3:TForm)(aa9:Int):Option Bool:=
 (m_locksteplaw17_awake.bind λx1=>(bif (!x1) then(some false) else(bif (bif (decide ((200:Int)<(a1.Terms.length:Int))) then true else(decide ((200:Int)<(a3.Terms.length:Int)))) then(some true) else((Ic a1 a3).bind λx2=>((Hi a1 a3).bind λx3=>((D9 a1 aa9).bind λx4=>((D8 a1).bind λx5=>((En a1).bind λx6=>((bif ((x5 !=x6)==false) then Ie a1 a3 else some false).bind λx7=>((bif ((x5 !=x6)==false) then A8 a1 a3 else some false).bind λx8=>(bif (bif (x5 !=x6) then true else(x7 !=x8)) then(some false) else((En a1).bind λx9=>(bif (!x9) then((A8 x2 (⟨([]:List Ag),(0:Int)⟩:TForm)).bind λx10=>((bif (x10==true) then A8 x3 (⟨([]:List Ag),(0:Int)⟩:TForm) else some false).bind λx11=>((bif ((bif x10 then x11 else false)==true) then A8 x4 (⟨([]:List Ag),(0:Int)⟩:TForm) else some false).bind λx12=>(some (bif (bif x10 then x11 else false) then x12 else false))))) else((Cb a1 aa9 (⟨([]:List Ag),(0:Int)⟩:TForm) (0:Int)).bind λx13=>((A8 x4 x13).bind λx14=>(bif (!x14) then(some false) else((En a3).bind λx15=>(bif (!x15) then((A8 x2 (⟨([]:List Ag),(0:Int)⟩:TForm)).bind λx16=>((bif (x16==true) then A8 x3 (⟨([]:List Ag),(0:Int)⟩:TForm) else some false).bind λx17=>(some (bif x16 then x17 else false)))) else((Cb a1 (1:Int) a3 (1:Int)).bind λx18=>((A8 x2 x18).bind λx19=>((bif (x19==true) then Cb a1 (1:Int) a3 (18446744073709551615:Int) else some (default:TForm)).bind λx20=>((bif (x19==true) then A8 x3 x20 else some false).bind λx21=>(some (bif x19 then x21 else false))))))))))))))))))))))))
theorem ok_locksteplaw17_AffineSums(a1:TForm)(a3:TForm)(aa9:Int)(r:Bool)(h:F7 a1 a3 aa9=some r):sP 3 [(Ln a1),(Ln a3),(Hc aa9)] [] (.bool r) []:=
 sG Tryz.func3 λΓ q=>Ao q GM [3,4] (tB h λx1 y1 h=>tT q [2,3,4,11] [3,4] [(Z2 x1)] (c1 (Ro  x1 y1)) (gC h (λh=>Ao q [6] [] (tS h (C1 []))) λh=>tU q [2,3,4,21] [3,4] (OH ((lT a1)==false) (c1 (U4 (lT a1)))) (gC h (λh=>Ao q [6] [] (tS h (C1 []))) λh=>tB h λx2 y2 h=>tT q [2,3,4,7] [3,4,7] [(ND x2)] (c1 (N4 y2)) (tB h λx3 y3 h=>tT q [2,3,4,7,8] [3,4,7,8] [(ND x3)] (c1 (My y3)) (tB h λx4 y4 h=>tT q [2,3,4,7,8,9] VE [(ND x4)] (c1 (Gk y4)) (tB h λx5 y5 h=>tB h λx6 y6 h=>tB h λx7 y7 h=>tB h λx8 y8 h=>tT q [2,3,4,7,8,9,44] VE [(Z2 x5),(Z2 x6),(Z2 x7),(Z2 x8)] (YP (F0 y5) (I5 y6) (Pz ((x5 !=x6)==false) (ci (λ(hg:((x5 !=x6)==false)=true)=>(N5 (Bk hg y7))) (Pz ((x5 !=x6)==false) (ci (λ(hg:((x5 !=x6)==false)=true)=>(Bw (Bk hg y8))) (Pz ((x5 !=x6)==false) (c1 (U4 (x5 !=x6))))))))) (gC h (λh=>Ao q [6] [] (tS h (C1 []))) λh=>tB h λx9 y9 h=>tT q [2,3,4,7,8,9,47] VE [(Z2 x9)] (c1 (I5 y9)) (gC h (λh=>tB h λx10 y10 h=>tB h λx11 y11 h=>tB h λx12 y12 h=>gR q [6] [] [(49,BO),(53,BO),(58,BO)] [(Z2 x10),(Z2 x11),(Z2 x12)] (j5 (show(AVle XU BO) from(AVle.agg (.cons Dx (.cons (AVle.refl _) .nil)))) (Bw y10) (show((x10==true)=true->(AVle XU BO)) from(λhg=>(AVle.agg (.cons Dx (.cons (AVle.refl _) .nil))))) (Pz (x10==true) (j5 (λ(hg:(x10==true)=true)=>(Bw (Bk hg y11))) (M6 x10) (show(((bif x10 then x11 else false)==true)=true->(AVle XU BO)) from(λhg=>(AVle.agg (.cons Dx (.cons (AVle.refl _) .nil))))) (Pz ((bif x10 then x11 else false)==true) (c2 (λ(hg:((bif x10 then x11 else false)==true)=true)=>(Bw (Bk hg y12))) (M6 (bif x10 then x11 else false))))))) (tS h (C1 []))) λh=>tB h λx13 y13 h=>tB h λx14 y14 h=>gR q [3,4,7,8,67] [3,4,7,8] [(64,BO)] [(ND x13),(Z2 x14)] (c3 (show(AVle XU BO) from(AVle.agg (.cons Dx (.cons (AVle.refl _) .nil)))) (I6 y13) (Bw y14)) (gC h (λh=>Ao q [6] [] (tS h (C1 []))) λh=>tB h λx15 y15 h=>tT q [3,4,7,8,70] [3,4,7,8] [(Z2 x15)] (c1 (I5 y15)) (gC h (λh=>tB h λx16 y16 h=>tB h λx17 y17 h=>gR q [6] [] [(72,BO),(76,BO)] [(Z2 x16),(Z2 x17)] (j5 (show(AVle XU BO) from(AVle.agg (.cons Dx (.cons (AVle.refl _) .nil)))) (Bw y16) (show((x16==true)=true->(AVle XU BO)) from(λhg=>(AVle.agg (.cons Dx (.cons (AVle.refl _) .nil))))) (Pz (x16==true) (c2 (λ(hg:(x16==true)=true)=>(Bw (Bk hg y17))) (M6 x16)))) (tS h (C1 []))) λh=>tB h λx18 y18 h=>tB h λx19 y19 h=>tB h λx20 y20 h=>tB h λx21 y21 h=>tT q [6] [] [(ND x18),(Z2 x19),(ND x20),(Z2 x21)] (YP (I6 y18) (Bw y19) (Pz (x19==true) (ci (λ(hg:(x19==true)=true)=>(I6 (Bk hg y20))) (Pz (x19==true) (c2 (λ(hg:(x19==true)=true)=>(Bw (Bk hg y21))) (M6 x19)))))) (tS h (C1 []))))))))))))
def B6(a4:Ab)(i2:Int):G2->Option mS:=
 λ((i5,i6):G2)=>(Cg (Bx i2 a4.Blocks.length) (bif (bif (decide (i6<(((a4.Blocks.getD i2.toNat default).Phis).length:Int))) then(decide (i5<=20000)) else false) then(Cg (Bx i2 a4.Blocks.length) (Cg (Bx i6 ((a4.Blocks.getD i2.toNat default).Phis).length) (Cg (Bx i2 a4.Blocks.length) (Cg (Bx i6 ((a4.Blocks.getD i2.toNat default).Phis).length) (some (.next ((Bh ((Bh ((Bh (i5+1))+(((((a4.Blocks.getD i2.toNat default).Phis).getD i6.toNat default).From).length:Int)))+(((((a4.Blocks.getD i2.toNat default).Phis).getD i6.toNat default).Args).length:Int))),(Bh (i6+1))))))))) else(some (.done i5))))
def B7(a4:Ab)(i2:Int):G2->Option mS:=
 λ((i15,i16):G2)=>(Cg (Bx i2 a4.Blocks.length) (bif (bif (decide (i16<(((a4.Blocks.getD i2.toNat default).Ops).length:Int))) then(decide (i15<=20000)) else false) then(Cg (Bx i2 a4.Blocks.length) (Cg (Bx i16 ((a4.Blocks.getD i2.toNat default).Ops).length) (some (.next ((Bh ((Bh (i15+1))+(((((a4.Blocks.getD i2.toNat default).Ops).getD i16.toNat default).Args).length:Int))),(Bh (i16+1))))))) else(some (.done i15))))
def Bq(a4:Ab):G2->Option mS:=
 λ((i1,i2):G2)=>(bif (bif (decide (i2<(a4.Blocks.length:Int))) then(decide (i1<=20000)) else false) then(Cg (Bx i2 a4.Blocks.length) ((Ai (B6 a4 i2) ((Bh ((Bh (i1+1))+(((a4.Blocks.getD i2.toNat default).End.To).length:Int))),(0:Int))).bind (λx13=>((Ai (B7 a4 i2) (x13,(0:Int))).bind (λx21=>(some (.next (x21,(Bh (i2+1)))))))))) else(some (.done i1)))
def Dw(a4:Ab):Option Bool:=
 ((Ai (Bq a4) ((a4.Params.length:Int),(0:Int))).bind (λx23=>(some (decide (x23<=20000)))))
open Go Go.RowKit
set_option maxRecDepth 100000
set_option maxHeartbeats 2000000
abbrev Iall(w:World):Nat->Nat->Prop:=λb o=>∃ u,w.cell? ⟨b,o,none⟩=some u
structure bF(w:World)(cs:List Value)(avs:List AV):Prop where
 len:cs.length=avs.length
 one:∀ j,j<avs.length->(cs.getD j undef).oneCell'=true
 rep:∀ j,j<avs.length->RepV (Iall w) w (cs.getD j undef) (avs.getD j .any)
structure Opens(P:Program)(t:TypeId){α:Type}(e:α->List AV)(ok:α->Prop):Prop where
 get:∀{H:Type} {enc:TypeId×Value->H} {w:World} {base:Nat} {spare:Nat->Bool} {held:Bool} {fuel:Nat} {cs:List Value} {x:DataW H×List MemPlace},
  DataW.trod enc P w base spare held fuel t cs=some x->∃ a,ok a/\bF w cs (e a)
theorem DL{w:World}{v:Value}{x:AV}(h1:v.oneCell'=true)(h:RepV (Iall w) w v x):bF w [v] [x]:=
 ⟨rfl,λj hj=>(by
   have hj0:j=0:=by simpa using hj
   subst hj0
   exact h1),λj hj=>(by
   have hj0:j=0:=by simpa using hj
   subst hj0
   exact h)⟩
theorem JB{P:Program}{t:TypeId}{k:IntKind}{e:Int->List AV}(ht:P.underlying t=some (.int k))(he:∀ n,e n=[.int k n]):Opens P t e (λn=>(Lit.int k n).wf=true):=by
 refine⟨?_⟩;intro H enc w base spare held fuel cs x h;obtain⟨n,rfl,rfl,hw⟩:=DataW.trod_int ht h;exact⟨n,hw,by rw[he];exact DL rfl (.int _ _)⟩
theorem SP{w:World}{base:Nat}{a:Addr}{n:Nat}{cs:List Value}(h:w.cells? base a n=some cs):cs.length=n/\∀ i,i<n->w.cell? (a.add i)=some (cs.getD i undef):=by
 unfold World.cells? at h
 split at h
 ·have hl:=mapM_some_length h;simp at hl;refine⟨hl,λi hi=>?_⟩;have:=mapM_some_get h i i (by simp[hi]);rw[this];simp[List.getD,show i<cs.length by omega]
 ·cases h
theorem PR{P:Program}{t el:TypeId}{α:Type}{e:α->List AV}{ok:α->Prop}{sz:Nat}{d:α}{e':List α->List AV}(ht:P.underlying t=some (.slice el))(hs:P.cellsOf el=sz)(h1:1<=sz)(he:Opens P el e ok)(hlen:∀ a,(e a).length=sz)
  (he':∀ l,e' l=[AV.list sz e d l .none]):Opens P t e' (λl=>(∀ a∈l,ok a)/\l.length<=maxLen):=by
 refine⟨?_⟩;intro H enc w base spare held fuel cs x h;rcases DataW.trod_slice ht h with⟨rfl,rfl⟩|⟨a,len,cap,elems,rest,n,_,rfl,rfl,hb,hl,hm,hlen2,hel,_⟩
 ·exact⟨[],⟨by simp,by simp⟩,by rw[he'];exact DL rfl (.slice none 0 0 sz _ (λ_=>undef) (zzL8 _) (by simp) (λh=>by simp at h) (λ_=>rfl) (λj hj=>by simp at hj) (λi hi=>by simp at hi) (λi c hi=>by simp at hi))⟩
 ·have each:∀ i:Fin len,∃ b,ok b/\∃ cs,w.cells? base (a.add (i.1*sz)) sz=some cs/\bF w cs (e b):=λ⟨i,hi⟩=>by
   have:=hel i hi;rw[hs,Nb (by omega),zzL106]at this;obtain⟨cs,hcs,htr⟩:=this;obtain⟨b,hb,hr⟩:=he.get htr;exact⟨b,hb,cs,hcs,hr⟩
  let f:Fin len->α:=λi=>(each i).choose
  have hf:∀ i,ok (f i)/\∃ cs,w.cells? base (a.add (i.1*sz)) sz=some cs/\bF w cs (e (f i)):=λi=>(each i).choose_spec
  have hlf:(List.ofFn f).length=len:=by simp
  refine⟨List.ofFn f,⟨λb hb=>?_,by simp;omega⟩,?_⟩
  ·obtain⟨i,rfl⟩:=List.mem_ofFn.1 hb;exact(hf i).1
  rw[he'];refine DL rfl ?_
  have hcell0:∀ i (hi:i<len),∀ c,c<sz->∃ u,w.cell? ((a.add (i*sz)).add c)=some u/\u.oneCell'=true/\RepV (Iall w) w u ((e (f ⟨i,hi⟩)).getD c .any):=λi hi c hc=>by
   obtain⟨_,cs,hcs,hr⟩:=hf ⟨i,hi⟩;obtain⟨hl,hg⟩:=SP hcs;exact⟨_,hg c hc,hr.one c (by rw[hlen];exact hc),hr.rep c (by rw[hlen];exact hc)⟩
  have hspot:0<len->a.spot=none:=λhp=>by
   obtain⟨u,hu,_⟩:=hcell0 0 hp 0 h1;have h2:=World.cell?_spot hu
   simpa [Addr.add] using h2
  have hcell:∀ i (hi:i<len),∀ c,c<sz->∃ u,w.cell? ⟨a.block,a.off+(i*sz+c),none⟩=some u/\u.oneCell'=true/\RepV (Iall w) w u ((e (f ⟨i,hi⟩)).getD c .any):=λi hi c hc=>by
   obtain⟨u,hu,h1,h2⟩:=hcell0 i hi c hc;have hsp:=hspot (by omega);rw[H3 hsp,J2]at hu;exact⟨u,by rw[<- Pg];exact hu,h1,h2⟩
  have hdm:∀ j,j<len*sz->∃ i c,i<len/\c<sz/\j=i*sz+c:=λj hj=>by
   refine⟨j / sz,j % sz,(GE (by omega)).2 hj,Nat.mod_lt _ (by omega),?_⟩;rw[T9];exact(Yc j sz).symm
  unfold AV.list;rw[hlf];refine .slice (some a) len cap sz _ (λj=>(w.cell? ⟨a.block,a.off+j,none⟩).getD undef) hl hm (λhp=>⟨a,rfl,hspot hp,λj hj=>?_,λj hj=>?_⟩) (λh=>by cases h) (λj hj=>?_) (λi hi=>hlen _) (λi c hi hc=>?_)
  ·obtain⟨i,c,hi,hc,rfl⟩:=hdm j hj;obtain⟨u,hu,_⟩:=hcell i hi c hc;exact⟨u,hu⟩
  ·obtain⟨i,c,hi,hc,rfl⟩:=hdm j hj;obtain⟨u,hu,_⟩:=hcell i hi c hc;rw[hu];rfl
  ·obtain⟨i,c,hi,hc,rfl⟩:=hdm j hj;obtain⟨u,hu,h1,_⟩:=hcell i hi c hc;simp only[hu];exact h1
  ·obtain⟨u,hu,_,h2⟩:=hcell i hi c hc
   have e1:(List.ofFn f).getD i d=f ⟨i,hi⟩:=by simp[List.getD,hi]
   rw[e1,hu];exact h2
structure KK(P:Program)(fs:List Field)(off N:Nat){α:Type}(e:α->List AV)(ok:α->Prop):Prop where
 get:∀{H:Type} {enc:TypeId×Value->H} {w:World} {base:Nat} {spare:Nat->Bool} {held:Bool} {n:Nat} {cs:List Value},cs.length=N->
  (∀ f∈fs,∃ x,DataW.trod enc P w base spare held n f.type ((cs.drop f.offset).take (P.cellsOf f.type))=some x)->∃ a,ok a/\bF w (cs.drop off) (e a)
theorem EY{P:Program}{N:Nat}:KK P [] N N (λ_:Unit=>[]) (λ_=>True):=by
 refine⟨?_⟩;intro H enc w base spare held n cs hN _;rw[List.drop_eq_nil_of_le (by omega)];exact⟨(),trivial,rfl,(λj hj=>by simp at hj),(λj hj=>by simp at hj)⟩
theorem O9{P:Program}{f:Field}{fs:List Field}{off sz N:Nat}{α β:Type}{e:α->List AV}{ok:α->Prop}{e':β->List AV}{ok':β->Prop}(hoff:f.offset=off)(hsz:P.cellsOf f.type=sz)(hle:off+sz<=N)
  (h:Opens P f.type e ok) (h':KK P fs (off+sz) N e' ok'):KK P (f::fs) off N (λp:α×β=>e p.1++e' p.2) (λp=>ok p.1/\ok' p.2):=by
 refine⟨?_⟩;intro H enc w base spare held n cs hN hall;obtain⟨x,hx⟩:=hall f (by simp);rw[hoff,hsz]at hx;obtain⟨a,ha,hr⟩:=h.get hx;obtain⟨b,hb,hr'⟩:=h'.get hN (λg hg=>hall g (by simp[hg]))
 have hl:(e a).length=sz:=by rw[<- hr.len];simp;omega
 have hl':(e' b).length=N-(off+sz):=by rw[<- hr'.len];simp;omega
 have hsplit:cs.drop off=(cs.drop off).take sz++cs.drop (off+sz):=by rw[<- List.drop_drop];exact(List.take_append_drop sz _).symm
 have hl2:((cs.drop off).take sz).length=sz:=by simp;omega
 refine⟨(a,b),⟨ha,hb⟩,?_,λj hj=>?_,λj hj=>?_⟩
 ·simp[hl,hl'];omega
 ·rw[hsplit];replace hj:j<(e a++e' b).length:=hj
  show _
  by_cases hlt:j<sz
  ·have:=hr.one j (by omega);rwa[List.getD,Qe (by omega)]
  ·have:=hr'.one (j-sz) (by simp at hj;omega);rwa[List.getD,T6 (by omega),hl2]
 ·rw[hsplit];replace hj:j<(e a++e' b).length:=hj
  show RepV (Iall w) w _ ((e a++e' b).getD j .any)
  by_cases hlt:j<sz
  ·have:=hr.rep j (by omega);rwa[List.getD,Qe (by omega),List.getD,Qe (by omega)]
  ·have:=hr'.rep (j-sz) (by simp at hj;omega);rwa[List.getD,T6 (by omega),hl2,List.getD,T6 (by omega),hl]
theorem Xv{P:Program}{t:TypeId}{fs:Array Field}{N:Nat}{α:Type}{e:α->List AV}{ok:α->Prop}(ht:P.underlying t=some (.struct fs))(hN:P.cellsOf t=N)(h:KK P fs.toList 0 N e ok):Opens P t e ok:=by
 refine⟨?_⟩;intro H enc w base spare held fuel cs x hx;obtain⟨xs,n,_,_,hl,hxl,hall⟩:=DataW.trod_struct ht hx
 have:=h.get (n:=n) (hl.trans hN) (enc:=enc) (w:=w) (base:=base) (spare:=spare) (held:=held) (λf hf=>by
  obtain⟨i,hi,rfl⟩:=List.mem_iff_getElem.1 hf
  have hi':i<fs.size:=by simpa using hi
  have:=hall i fs.toList[i] (by simp[hi']);rw[Nb (by omega)]at this
  exact⟨_,this⟩)
 simpa using this
theorem Opens.to{P:Program}{t:TypeId}{α β:Type}{e:α->List AV}{ok:α->Prop}(h:Opens P t e ok){e':β->List AV}{ok':β->Prop}(g:α->β)(he:∀ a,e' (g a)=e a)(hok:∀ a,ok a->ok' (g a)):Opens P t e' ok':=by
 refine⟨?_⟩;intro H enc w base spare held fuel cs x hx;obtain⟨a,ha,hr⟩:=h.get hx;exact⟨g a,hok a ha,by rw[he];exact hr⟩
theorem arg_one{P:Program}{t:TypeId}{α:Type}{e:α->List AV}{ok:α->Prop}(h:Opens P t e ok){x:α->AV}(he:∀ a,e a=[x a]){H:Type}{enc:TypeId×Value->H}{w:World}{base:Nat}{spare:Nat->Bool}{held:Bool}{v:Value}{d:DataW H}{ps:List MemPlace}
  (hv:v.cells = #[v]) (hd:DataW.Trod enc P w base spare held t v d ps):∃ a,ok a/\RepV (Iall w) w v (x a):=by
 obtain⟨fuel,hf⟩:=hd;obtain⟨a,ha,hr⟩:=h.get hf;refine⟨a,ha,?_⟩;have:=hr.rep 0 (by simp[he])
 simpa [hv,he] using this
theorem arg_agg{P:Program}{t:TypeId}{α:Type}{e:α->List AV}{ok:α->Prop}(h:Opens P t e ok){H:Type}{enc:TypeId×Value->H}{w:World}{base:Nat}{spare:Nat->Bool}{held:Bool}{cs:Array Value}{d:DataW H}{ps:List MemPlace}
  (hd:DataW.Trod enc P w base spare held t (.agg cs) d ps):∃ a,ok a/\RepV (Iall w) w (.agg cs) (.agg (e a)):=by
 obtain⟨fuel,hf⟩:=hd;obtain⟨a,ha,hr⟩:=h.get hf;have e1:(Value.agg cs).cells.toList=cs.toList:=rfl;rw[e1]at hr
 have e2:∀ j,cs.toList.getD j undef=cs.getD j undef:=λj=>by simp[Mp,List.getD]
 refine⟨a,ha,.agg _ _ (by simpa using hr.len) (λj hj=>?_) (λj hj=>?_)⟩
 ·rw[<- e2];exact hr.one j hj
 ·rw[<- e2];exact hr.rep j hj
def jI(n:Int):Prop:=(Lit.int .i64 n).wf=true
theorem nf:Opens Tryz.prog 3 Az jI:=JB Tryz.underlying3 (λ_=>rfl)
def okU64(n:Int):Prop:=(Lit.int .u64 n).wf=true
theorem op_23:Opens Tryz.prog 23 Yt okU64:=JB Tryz.underlying23 (λ_=>rfl)
def WN(a:Ag):Prop:=jI a.V/\okU64 a.Scale/\True
theorem lv:Opens Tryz.prog 51 Db WN:=Opens.to (Xv (N:=2) Tryz.underlying51 (by kernel_rfl) (O9 (off:=0) (sz:=1) (N:=2) rfl (by kernel_rfl) (by decide) nf (O9 (off:=1) (sz:=1) (N:=2) rfl (by kernel_rfl) (by decide) op_23 EY))) (λp=>⟨p.1,p.2.1⟩) (λ_=>rfl) (λ_ h=>h)
def PG(l:List (Ag)):Prop:=(∀ a∈l,WN a)/\l.length<=maxLen
theorem lu:Opens Tryz.prog 22 f6 PG:=PR (d:=(default:Ag)) Tryz.underlying22 (by kernel_rfl) (by decide) lv (λ_=>rfl) (λ_=>rfl)
def okTForm(a:TForm):Prop:=PG a.Terms/\okU64 a.Off/\True
theorem op_25:Opens Tryz.prog 25 eTForm okTForm:=Opens.to (Xv (N:=2) Tryz.underlying25 (by kernel_rfl) (O9 (off:=0) (sz:=1) (N:=2) rfl (by kernel_rfl) (by decide) lu (O9 (off:=1) (sz:=1) (N:=2) rfl (by kernel_rfl) (by decide) op_23 EY))) (λp=>⟨p.1,p.2.1⟩) (λ_=>rfl) (λ_ h=>h)
theorem Hb{n:Int}(h:-9223372036854775808<=n)(h':n<9223372036854775808):Bh n=n:=by
 show IntKind.i64.wrap n=n
 simp only[IntKind.wrap,IntKind.bits,IntKind.signed]
 simp
 split<;>omega
theorem XC{n:Int}(h:0<=n)(h':n<18446744073709551616):Cf n=n:=by
 show IntKind.u64.wrap n=n
 simp[IntKind.wrap,IntKind.bits,IntKind.signed];omega
theorem Tz(n:Int):Cf n=n % 18446744073709551616:=by
 show IntKind.u64.wrap n=_
 simp[IntKind.wrap,IntKind.bits,IntKind.signed]
theorem Ar{R:Type}{p:Prop}[Decidable p]{k:Option R}(h:p):Cg p k=k:=if_pos h
theorem cV{x:Int}(j:Nat):x.fdiv (2 ^ j)=x / 2 ^ j:=by rw[Int.fdiv_eq_ediv_of_nonneg _ (by exact Int.le_of_lt (Int.pow_pos (by decide)))]
theorem Aa{α:Type}(l:List α)(i:Nat)(d:α)(h:i<l.length):l.getD i d=l[i]:=by simp[List.getD,h]
theorem kinds(k:Int):k=0\/k=1\/k=2\/k=3\/k=4\/k=5\/k=6\/k=7\/k=8\/k=9\/k=10\/k=11\/k=12\/k=13\/k=14\/k=15\/k=16\/k=17\/k=18\/k=19\/k=20\/k=21\/k=22\/(k<0\/22<k):=by omega
theorem dc{k:Int}(h:k<0\/22<k):(k==0)=false/\(k==1)=false/\(k==2)=false/\(k==3)=false/\(k==4)=false/\(k==5)=false/\(k==6)=false/\(k==7)=false/\(k==8)=false/\(k==9)=false/\(k==10)=false/\(k==11)=false/\(k==12)=false /\
  (k==13)=false/\(k==14)=false/\(k==15)=false/\(k==16)=false/\(k==17)=false/\(k==18)=false/\(k==19)=false/\(k==20)=false/\(k==21)=false/\(k==22)=false:=by
 simp only[zzL23,ne_eq];omega
def Ek(b:Int):Bool:=b==1 || b==8 || b==16 || b==32 || b==64
def Xb(b n:Int):Bool:=Ek b&&(n==1 || ((n==2 || n==4 || n==8 || n==16)&&decide (8<=b)&&decide (b*n<=128)))
theorem width_cases{b:Int}(h:Ek b=true):b=1\/b=8\/b=16\/b=32\/b=64:=by simp[Ek]at h;omega
theorem Tu{b n:Int}(h:Xb b n=true):Ek b=true:=by simp[Xb]at h;exact h.1
theorem Pd{b n:Int}(h:Xb b n=true):n=1\/n=2\/n=4\/n=8\/n=16:=by simp[Xb]at h;omega
theorem Qc(b:Int):G9 b=some (Ek b):=by
 unfold G9 Ek
 by_cases h1:b=1
 ·subst h1;rfl
 by_cases h2:b=8
 ·subst h2;rfl
 by_cases h3:b=16
 ·subst h3;rfl
 by_cases h4:b=32
 ·subst h4;rfl
 by_cases h5:b=64
 ·subst h5;rfl
 have e1:(b==1)=false:=by simpa using h1
 have e2:(b==8)=false:=by simpa using h2
 have e3:(b==16)=false:=by simpa using h3
 have e4:(b==32)=false:=by simpa using h4
 have e5:(b==64)=false:=by simpa using h5
 simp[e1,e2,e3,e4,e5]
theorem TD(b n:Int):Nj b n=some (Xb b n):=by
 unfold Nj;simp only[Qc,Aq]
 by_cases hn:n=1\/n=2\/n=4\/n=8\/n=16
 ·cases hw:Ek b with
  | false=>rcases hn with rfl|rfl|rfl|rfl|rfl<;>simp[Xb,hw]
  | true=>
   rcases width_cases hw with rfl|rfl|rfl|rfl|rfl<;>rcases hn with rfl|rfl|rfl|rfl|rfl<;>rfl
 ·have e1:(n==1)=false:=by simp;omega
  have e2:(n==2)=false:=by simp;omega
  have e3:(n==4)=false:=by simp;omega
  have e4:(n==8)=false:=by simp;omega
  have e5:(n==16)=false:=by simp;omega
  simp[Xb,e1,e2,e3,e4,e5]
theorem eK{v b:Int}(hv:0<=v/\v<18446744073709551616)(hb:Ek b=true):Rg v b=some (v % 2 ^ b.toNat):=by
 unfold Rg;simp only[Qc,hb,Aq,Fp,Ax]
 have key:∀ j:Nat,j<64->X3 .u64 (UD .u64 v (j:Int)) (j:Int)=(v*2 ^ j % 18446744073709551616) / 2 ^ j:=λj hj=>by
  simp only[X3,UD,Dp,IntKind.bits];rw[Nat.min_eq_left (by omega),cV,show IntKind.u64.wrap (v*2 ^ j)=v*2 ^ j % 18446744073709551616 from Tz _]
 rcases width_cases hb with rfl|rfl|rfl|rfl|rfl
 ·have:=key 63 (by decide);simp only[show Bh (64-1)=((63:Nat):Int) from rfl,this];rw[Ar (by decide),Ar (by decide)];congr 1;simp only[show((1:Int).toNat)=1 from rfl];omega
 ·have:=key 56 (by decide);simp only[show Bh (64-8)=((56:Nat):Int) from rfl,this];rw[Ar (by decide),Ar (by decide)];congr 1;simp only[show((8:Int).toNat)=8 from rfl];omega
 ·have:=key 48 (by decide);simp only[show Bh (64-16)=((48:Nat):Int) from rfl,this];rw[Ar (by decide),Ar (by decide)];congr 1;simp only[show((16:Int).toNat)=16 from rfl];omega
 ·have:=key 32 (by decide);simp only[show Bh (64-32)=((32:Nat):Int) from rfl,this];rw[Ar (by decide),Ar (by decide)];congr 1;simp only[show((32:Int).toNat)=32 from rfl];omega
 ·have:=key 0 (by decide);simp only[show Bh (64-64)=((0:Nat):Int) from rfl,this];rw[Ar (by decide),Ar (by decide)];congr 1;simp only[show((64:Int).toNat)=64 from rfl];omega
theorem LK{i:Int}(h:0<=i/\i<18446744073709551616):Iz i=some (Ek i):=by
 unfold Iz
 by_cases hi:i<=64
 ·have:Bh i=i:=Hb (by omega) (by omega);simp[hi,this,Qc]
 ·have:Ek i=false:=by simp[Ek];omega
  simp[hi,this]
def cl(k:Int):Bool:=decide (0<=k)&&decide (k<=22)
def M8(k n:Int):Int:=
 bif k==0 then 0 else bif k==13 || k==18 || k==19 then 3 else bif k==14 || k==15 || k==16 || k==22 then 1 else bif k==20 then 4 else bif k==21 then n else 2
def X2(k b n:Int):Bool:=
 bif k==16 || k==17 then decide (8<=b) else bif k==18 || k==19 then decide (8<=b)&&n==1 else
 bif k==4 || k==10 || k==11 || k==12 || k==14 || k==15 || k==20 then n==1 else bif k==21 || k==22 then decide (1<n) else true
def ifitS(k b n i:Int):Bool:=
 bif k==0 then i % 2 ^ b.toNat==i else bif k==14 then Ek i&&decide (i<b) else bif k==15 then Ek i&&decide (b<i) else bif k==22 then decide (i<n) else i==0
def valS(v:Int):Bool:=decide (1<=v)&&decide (v<=1023)
def dstS(k d:Int):Bool:=bif k==17 || k==19 then d==0 else valS d
def Jr(o:D1):Bool:=Xb o.Bits o.Lanes&&(cl o.Kind&&X2 o.Kind o.Bits o.Lanes&&ifitS o.Kind o.Bits o.Lanes o.Imm&&((o.Args.length:Int)==M8 o.Kind o.Lanes))&&(o.Args.all valS&&dstS o.Kind o.Dst)
def ID(o:D1)(i:Nat):Int×Int:=
 bif o.Kind==13 || o.Kind==20 then(bif Nat.beq i 0 then(1,1) else(o.Bits,o.Lanes)) else bif o.Kind==14 || o.Kind==15 then(Bh o.Imm,1) else
 bif o.Kind==16 || o.Kind==17 then(bif Nat.beq i 0 then(64,1) else(o.Bits,o.Lanes)) else
 bif o.Kind==18 || o.Kind==19 then(bif Nat.beq i 1 then(64,1) else bif Nat.beq i 0 then(1,1) else(o.Bits,o.Lanes)) else bif o.Kind==21 then(o.Bits,1) else(o.Bits,o.Lanes)
def Of(o:D1):List (Int×Int):=(List.range (M8 o.Kind o.Lanes).toNat).map (ID o)
def Mw(k b n:Int):Int×Int:=bif k==17 || k==19 then(0,0) else bif k==10 || k==11 || k==12 then(1,1) else bif k==22 then(b,1) else(b,n)
theorem gP{k:Int}(h:k<0\/22<k):cl k=false:=by simp[cl];omega
theorem OM(k:Int):Mc k=some (cl k):=by unfold Mc cl;cases decide ((0:Int)<=k)<;>rfl
theorem Q0(v:Int):Iy v=some (valS v):=by unfold Iy valS;cases decide ((1:Int)<=v)<;>rfl
theorem EC(o:D1):Jl o=some (X2 o.Kind o.Bits o.Lanes):=by
 obtain⟨k,b,n,d,args,i⟩:=o;rcases kinds k with rfl|rfl|rfl|rfl|rfl|rfl|rfl|rfl|rfl|rfl|rfl|rfl|rfl|rfl|rfl|rfl|rfl|rfl|rfl|rfl|rfl|rfl|rfl|h
 any_goals rfl
 ·show some (bif decide (8<=b) then n==1 else false)=some (decide (8<=b)&&n==1);cases decide (8<=b)<;>rfl
 ·show some (bif decide (8<=b) then n==1 else false)=some (decide (8<=b)&&n==1);cases decide (8<=b)<;>rfl
 ·unfold Jl X2;simp[dc h]
theorem EB(o:D1):La o=some (Mw o.Kind o.Bits o.Lanes):=by
 obtain⟨k,b,n,d,args,i⟩:=o;rcases kinds k with rfl|rfl|rfl|rfl|rfl|rfl|rfl|rfl|rfl|rfl|rfl|rfl|rfl|rfl|rfl|rfl|rfl|rfl|rfl|rfl|rfl|rfl|rfl|h
 any_goals rfl
 unfold La Mw;simp[dc h]
theorem LJ(o:D1)(hw:Ek o.Bits=true)(hn:0<=o.Lanes/\o.Lanes<=16)(hi:0<=o.Imm/\o.Imm<18446744073709551616):Lb o=some (ifitS o.Kind o.Bits o.Lanes o.Imm):=by
 unfold Lb ifitS
 have hb:Cf o.Bits=o.Bits:=by apply XC<;>(rcases width_cases hw with h|h|h|h|h<;>omega)
 have hl:Cf o.Lanes=o.Lanes:=by apply XC<;>omega
 rw[eK hi hw,LK hi,hb,hl]
 cases(o.Kind==0)<;>cases(o.Kind==14)<;>cases(o.Kind==15)<;>cases(o.Kind==22)<;>cases Ek o.Imm<;>rfl
set_option maxHeartbeats 2000000 in
theorem S7{α X:Type}(l:List α)(d:α)(p:α->Bool)(f:Int->Option (LR Int X))(yes no:X)(hn:∀ i:Nat,i<l.length->p (l.getD i d)=true->f i=some (.next ((i:Int)+1)))
  (hf:∀ i:Nat,i<l.length->p (l.getD i d)=false->f i=some (.done no)) (he:f l.length=some (.done yes)):∀(k i:Nat),i+k=l.length->Ai f i=some (bif (l.drop i).all p then yes else no)
 | 0,i,h=>by
  obtain rfl:i=l.length:=by omega
  rw[Ah he]
  simp
 | k+1,i,h=>by
  have hi:i<l.length:=by omega
  have hd:l.drop i=l.getD i d::l.drop (i+1):=by rw[Mq hi,Aa _ _ _ hi]
  cases hp:p (l.getD i d) with
  | true=>
   rw[Am (hn i hi hp)];have:=S7 l d p f yes no hn hf he k (i+1) (by omega);rw[show((i:Int)+1)=((i+1:Nat):Int) by omega,this,hd,Sb,hp,Hd]
  | false=>
   rw[Ah (hf i hi hp),hd,Sb,hp,T3,Ax]
theorem LN{α X:Type}[BEq α][LawfulBEq α](l m:List α)(d:α)(f:Int->Option (LR Int X))(yes no:X)(hlen:l.length=m.length)(hn:∀ i:Nat,i<l.length->(l.getD i d==m.getD i d)=true->f i=some (.next ((i:Int)+1)))
  (hf:∀ i:Nat,i<l.length->(l.getD i d==m.getD i d)=false->f i=some (.done no)) (he:f l.length=some (.done yes)):∀(k i:Nat),i+k=l.length->Ai f i=some (bif l.drop i==m.drop i then yes else no)
 | 0,i,h=>by
  obtain rfl:i=l.length:=by omega
  rw[Ah he];rw[List.drop_length,hlen,List.drop_length]
  simp
 | k+1,i,h=>by
  have hi:i<l.length:=by omega
  have hd:l.drop i=l.getD i d::l.drop (i+1):=by rw[Mq hi,Aa _ _ _ hi]
  have hd':m.drop i=m.getD i d::m.drop (i+1):=by rw[Mq (by omega),Aa _ _ _ (by omega)]
  cases hp:(l.getD i d==m.getD i d) with
  | true=>
   rw[Am (hn i hi hp)];have:=LN l m d f yes no hlen hn hf he k (i+1) (by omega);rw[show((i:Int)+1)=((i+1:Nat):Int) by omega,this,hd,hd',List.cons_beq_cons,hp,Hd]
  | false=>
   rw[Ah (hf i hi hp),hd,hd',List.cons_beq_cons,hp,T3,Ax]
theorem Xe{α:Type}(l:List α)(d:α)(wt:α->Nat)(C:Nat)(f:Int×Int->Option (LR (Int×Int) Int))
  (hn:∀(n i:Nat),i<l.length->n<=C->∃ m:Nat,f ((n:Int),(i:Int))=some (.next ((m:Int),((i+1:Nat):Int)))/\(n+wt (l.getD i d)<=C->m=n+wt (l.getD i d))/\(m<=C->n+wt (l.getD i d)<=C))
  (hd:∀(n i:Nat),i<=l.length->(i=l.length\/C<n)->f ((n:Int),(i:Int))=some (.done (n:Int))) :
  ∀(k i n:Nat),i+k=l.length->∃ m:Nat,Ai f ((n:Int),(i:Int))=some (m:Int)/\(n+((l.drop i).map wt).sum<=C->m=n+((l.drop i).map wt).sum)/\(m<=C->n+((l.drop i).map wt).sum<=C)
 | 0,i,n,h=>by
  obtain rfl:i=l.length:=by omega
  refine⟨n,Ah (hd n _ (zzL8 _) (.inl rfl)),?_,?_⟩
  ·simp
  ·simp
 | k+1,i,n,h=>by
  have hi:i<l.length:=by omega
  have hdr:l.drop i=l.getD i d::l.drop (i+1):=by rw[Mq hi,Aa _ _ _ hi]
  by_cases hC:n<=C
  ·obtain⟨m,h1,h2,h3⟩:=hn n i hi hC;obtain⟨m',h4,h5,h6⟩:=Xe l d wt C f hn hd k (i+1) m (by omega);refine⟨m',by rw[Am h1];exact h4,λhle=>?_,λhle=>?_⟩
   ·rw[hdr,Bu,Vx]at hle ⊢;have:=h2 (by omega);subst this;rw[h5 (by omega)];omega
   ·rw[hdr,Bu,Vx];have h7:=h6 hle;have h8:=h3 (by omega);have:=h2 h8;omega
  ·refine⟨n,Ah (hd n i (by omega) (.inr (by omega))),λhle=>by omega,λhle=>by omega⟩
theorem Rb{X:Type}(N:Nat)(f:Int×Int->Option (LR (Int×Int) X))(hn:∀(n:Int) (i:Nat),i<N->(∃ m:Int,f (n,(i:Int))=some (.next (m,((i+1:Nat):Int))))\/∃ x,f (n,(i:Int))=some (.done x))(hd:∀ n:Int,∃ x,f (n,(N:Int))=some (.done x)) :
  ∀(k i:Nat) (n:Int),i+k=N->∃ x,Ai f (n,(i:Int))=some x
 | 0,i,n,h=>by
  obtain rfl:i=N:=by omega
  obtain⟨x,hx⟩:=hd n;exact⟨x,Ah hx⟩
 | k+1,i,n,h=>by
  rcases hn n i (by omega) with⟨m,hm⟩|⟨x,hx⟩
  ·obtain⟨x,hx⟩:=Rb N f hn hd k (i+1) m (by omega);exact⟨x,by rw[Am hm];exact hx⟩
  ·exact⟨x,Ah hx⟩
theorem IQ{α X:Type}(l:List α)(d:α)(wt:α->Nat)(out:Int->X)(f:Int×Int->Option (LR (Int×Int) X))
  (hn:∀(n i:Nat),i<l.length->f (Bh n,(i:Int))=some (.next (Bh ((n+wt (l.getD i d):Nat):Int),((i+1:Nat):Int)))) (hd:∀ n:Int,f (n,(l.length:Int))=some (.done (out n))) :
  ∀(k i n:Nat),i+k=l.length->Ai f (Bh n,(i:Int))=some (out (Bh ((n+((l.drop i).map wt).sum:Nat):Int)))
 | 0,i,n,h=>by
  obtain rfl:i=l.length:=by omega
  rw[Ah (hd _)]
  simp
 | k+1,i,n,h=>by
  have hi:i<l.length:=by omega
  have hdr:l.drop i=l.getD i d::l.drop (i+1):=by rw[Mq hi,Aa _ _ _ hi]
  rw[Am (hn n i hi),IQ l d wt out f hn hd k (i+1) _ (by omega),hdr,Bu,Vx,Pg]
theorem XA(a b:Int):Bh (Bh a+b)=Bh (a+b):=by
 show IntKind.i64.wrap (IntKind.i64.wrap a+b)=IntKind.i64.wrap (a+b)
 simp only[IntKind.wrap,IntKind.bits,IntKind.signed]
 simp
 split<;>split<;>omega
theorem getD_mem{α:Type}{l:List α}{i:Nat}{d:α}(h:i<l.length):l.getD i d∈l:=by rw[Aa _ _ _ h];exact Yb h
theorem Bb{i n:Nat}(h:i<n):Bx (i:Int) n:=⟨by omega,by exact_mod_cast h⟩
theorem Cy{i n:Nat}(h:i<n)(hn:n<9223372036854775808):Bh ((i:Int)+1)=(i:Int)+1:=Hb (by omega) (by omega)
def cf(l:List Int):Prop:=∀ x∈l,0<=x/\x<=2147483647
theorem Xd{S X:Type}(f:S->Option (LR S X))(T:Nat->S)(x:X):∀(n:Nat),(∀ i,i<n->f (T i)=some (.next (T (i+1))))->f (T n)=some (.done x)->Ai f (T 0)=some x:=by
 suffices h:∀(k i n:Nat),i+k=n->(∀ j,i<=j->j<n->f (T j)=some (.next (T (j+1))))->f (T n)=some (.done x)->Ai f (T i)=some x from
  λn h1 h2=>h n 0 n (by omega) (λj _ hj=>h1 j hj) h2
 intro k
 induction k with
 | zero=>
  intro i n hi _ h2
  have hin:n=i:=by omega
  subst hin;exact Ah h2
 | succ k ih=>intro i n hi h1 h2;rw[Am (h1 i (zzL8 _) (by omega))];exact ih (i+1) n (by omega) (λj hj hj'=>h1 j (by omega) hj') h2
theorem GY{S X:Type}(f:S->Option (LR S X))(T:Nat->S):∀(n:Nat),(∀ i,i<n->f (T i)=some (.next (T (i+1))))->Ai f (T 0)=Ai f (T n):=by
 intro n
 induction n with
 | zero=>intro _;rfl
 | succ n ih=>intro h;rw[ih (λi hi=>h i (by omega)),Am (h n (by omega))]
theorem Nt{S X:Type}(f:S->Option (LR S X))(T:Nat->S)(p:Nat->Bool)(yes no:X)(n:Nat)(hn:∀ i,i<n->p i=true->f (T i)=some (.next (T (i+1))))(hf:∀ i,i<n->p i=false->f (T i)=some (.done no))
  (he:f (T n)=some (.done yes)):Ai f (T 0)=some (bif (List.range n).all p then yes else no):=by
 cases hall:(List.range n).all p with
 | true=>
  rw[Ae];exact Xd f T yes n (λi hi=>hn i hi (zzL28.1 hall i (zzL41.2 hi))) he
 | false=>
  rw[Ax]
  have hex:∃ i,i<n/\p i=false:=by
   have:¬ ∀ i∈List.range n,p i=true:=λh=>by rw[zzL28.2 h]at hall;cases hall
   simpa using this
  let P:Nat->Prop:=λm=>m<n/\p m=false
  obtain⟨m,hm⟩:=hex
  have key:∀ m,m<n->p m=false->∃ k,k<n/\p k=false/\∀ j,j<k->p j=true:=by
   intro m
   induction m using Nat.strongRecOn with
   | ind m ih=>
    intro h1 h2
    by_cases h:∃ j,j<m/\p j=false
    ·obtain⟨j,hj,hpj⟩:=h;exact ih j hj (by omega) hpj
    ·refine⟨m,h1,h2,λj hj=>?_⟩
     cases hpj:p j with
     | true=>rfl
     | false=>exact(h ⟨j,hj,hpj⟩).elim
  obtain⟨k,hk,hpk,hlt⟩:=key m hm.1 hm.2;rw[GY f T k (λi hi=>hn i (by omega) (hlt i hi))];exact Ah (hf k hk hpk)
theorem all_range{n:Nat}{p:Nat->Bool}:(List.range n).all p=true↔∀ i,i<n->p i=true:=by
 rw[zzL28];exact⟨λh i hi=>h i (zzL41.2 hi),λh i hi=>h i (zzL41.1 hi)⟩
theorem Aw(i:Nat):((i:Int)).toNat=i:=Dp i
theorem w1{i:Nat}(h:i<4611686018427387904):Bh ((i:Int)+1)=((i+1:Nat):Int):=by rw[Hb (by omega) (by omega)];omega
theorem E8{i n:Nat}(h:i<n):decide (((i:Nat):Int)<((n:Nat):Int))=true:=by simpa using h
theorem Jw{n:Nat}:decide (((n:Nat):Int)<((n:Nat):Int))=false:=by simp
theorem Hh{i n:Nat}(h:i<n):Bx ((i:Nat):Int) n:=Bb h
theorem lm{x:Int}{n:Nat}(h0:0<=x)(h1:x<n):Bx x n:=⟨h0,h1⟩
structure bI(o:D1):Prop where
 imm:0<=o.Imm/\o.Imm<18446744073709551616
 args:o.Args.length<=200
theorem TW(x:Int×Int)(n:Int)(h:n=2\/n=4\/n=8\/n=16):Bp [x] n=some (List.replicate n.toNat x):=by
 let d:Int×Int:=(0,0)
 rcases h with rfl|rfl|rfl|rfl
 ·have e:Bp [x] 2=(Ai Cc (1,[x,d])).bind some:=by kernel_rfl
  rw[e,Am (s':=(2,[x,x])) (by kernel_rfl),Ah (x:=[x,x]) (by kernel_rfl)]
  rfl
 ·have e:Bp [x] 4=(Ai Cc (1,[x,d,d,d])).bind some:=by kernel_rfl
  rw[e,Am (s':=(2,[x,x,d,d])) (by kernel_rfl),Am (s':=(4,[x,x,x,x])) (by kernel_rfl),Ah (x:=[x,x,x,x]) (by kernel_rfl)]
  rfl
 ·have e:Bp [x] 8=(Ai Cc (1,[x,d,d,d,d,d,d,d])).bind some:=by kernel_rfl
  rw[e,Am (s':=(2,[x,x,d,d,d,d,d,d])) (by kernel_rfl),Am (s':=(4,[x,x,x,x,d,d,d,d])) (by kernel_rfl),Am (s':=(8,[x,x,x,x,x,x,x,x])) (by kernel_rfl),
   Ah (x:=[x,x,x,x,x,x,x,x]) (by kernel_rfl)]
  rfl
 ·have e:Bp [x] 16=(Ai Cc (1,[x,d,d,d,d,d,d,d,d,d,d,d,d,d,d,d])).bind some:=by kernel_rfl
  rw[e,Am (s':=(2,[x,x,d,d,d,d,d,d,d,d,d,d,d,d,d,d])) (by kernel_rfl),Am (s':=(4,[x,x,x,x,d,d,d,d,d,d,d,d,d,d,d,d])) (by kernel_rfl),
   Am (s':=(8,[x,x,x,x,x,x,x,x,d,d,d,d,d,d,d,d])) (by kernel_rfl),Am (s':=(16,List.replicate 16 x)) (by kernel_rfl),Ah (x:=List.replicate 16 x) (by kernel_rfl)]
  rfl
theorem cq(l:List (Int×Int)):Fj l=some l:=rfl
theorem ED(o:D1)(hs:Xb o.Bits o.Lanes=true)(hk:cl o.Kind=true)(hf:X2 o.Kind o.Bits o.Lanes=true):Lc o=some (Of o):=by
 have hl:=Pd hs;obtain⟨k,b,n,d,args,i⟩:=o;simp only at hs hk hf hl ⊢;rcases kinds k with rfl|rfl|rfl|rfl|rfl|rfl|rfl|rfl|rfl|rfl|rfl|rfl|rfl|rfl|rfl|rfl|rfl|rfl|rfl|rfl|rfl|rfl|rfl|h
 case inr.inr.inr.inr.inr.inr.inr.inr.inr.inr.inr.inr.inr.inr.inr.inr.inr.inr.inr.inr.inr.inl=>
  have h1:n≠1:=by rintro rfl;simp[X2]at hf
  have h4:n=2\/n=4\/n=8\/n=16:=by omega
  unfold Lc;rw[show(((21:Int))==21)=true from rfl];simp only[TW _ _ h4,cq,Aq];rcases h4 with rfl|rfl|rfl|rfl<;>rfl
 all_goals first
  | rfl
  | (rw[gP h]at hk;cases hk)
  | (rcases hl with rfl|rfl|rfl|rfl|rfl<;>first|rfl|(simp[X2]at hf))
theorem LH(o:D1)(hs:Xb o.Bits o.Lanes=true)(hk:cl o.Kind=true)(hf:X2 o.Kind o.Bits o.Lanes=true)(hl:o.Args.length<=200):K8 o=some (((o.Args.length:Int)==M8 o.Kind o.Lanes)&&o.Args.all valS):=by
 unfold K8;rw[ED o hs hk hf]
 have hn:0<=M8 o.Kind o.Lanes:=by
  have:=Pd hs;unfold M8
  cases(o.Kind==0)<;>cases(o.Kind==13 || o.Kind==18 || o.Kind==19)<;>cases(o.Kind==14 || o.Kind==15 || o.Kind==16 || o.Kind==22)<;>cases(o.Kind==20)<;>cases(o.Kind==21)<;>simp<;>omega
 have hlen:((Of o).length:Int)=M8 o.Kind o.Lanes:=by simp[Of];omega
 simp only[Aq,hlen]
 by_cases he:(o.Args.length:Int)=M8 o.Kind o.Lanes
 ·have e1:((o.Args.length:Int)==M8 o.Kind o.Lanes)=true:=by simpa using he
  have e2:((o.Args.length:Int)!=M8 o.Kind o.Lanes)=false:=by simpa using he
  rw[e1,e2,Ax]
  have hloop:=S7 o.Args (0:Int) valS (Gz o) (.inl ()) (.inr false) (λi hi hp=>by
    unfold Gz
    have:decide ((i:Int)<(o.Args.length:Int))=true:=by simpa using hi
    simp only[this,Ae,Ar (Bb hi),Dp,Q0,Aq,hp,Fp,Ax,Cy hi (by omega)]) (λi hi hp=>by
    unfold Gz
    have:decide ((i:Int)<(o.Args.length:Int))=true:=by simpa using hi
    simp only[this,Ae,Ar (Bb hi),Dp,Q0,Aq,hp,Ms]) (by
    unfold Gz
    simp) o.Args.length 0 (by omega)
  rw[show(0:Int)=((0:Nat):Int) from rfl,hloop,Je]
  cases o.Args.all valS<;>rfl
 ·have e1:((o.Args.length:Int)==M8 o.Kind o.Lanes)=false:=by simpa using he
  have e2:((o.Args.length:Int)!=M8 o.Kind o.Lanes)=true:=by simpa using he
  rw[e1,e2];rfl
theorem DW{k b n:Int}(hs:Xb b n=true):((Mw k b n).1==0)=(k==17 || k==19):=by
 have hb:(b==0)=false:=by
  have:=width_cases (Tu hs);simp;omega
 unfold Mw
 cases(k==17 || k==19)<;>cases(k==10 || k==11 || k==12)<;>cases(k==22)<;>simp_all
theorem LI(o:D1)(hs:Xb o.Bits o.Lanes=true):K9 o=some (dstS o.Kind o.Dst):=by
 unfold K9;simp only[EB,Aq,DW hs,Q0,dstS]
 cases(o.Kind==17 || o.Kind==19)<;>rfl
theorem EA(o:D1)(ho:bI o):L4 o=some (Jr o):=by
 unfold L4 Jr;simp only[OM,TD,EC,Aq]
 cases hs:Xb o.Bits o.Lanes with
 | false=>cases cl o.Kind<;>rfl
 | true=>
  have hl:=Pd hs
  cases hk:cl o.Kind with
  | false=>rfl
  | true=>
   rw[LJ o (Tu hs) (by omega) ho.imm];simp only[LI o hs]
   cases hf:X2 o.Kind o.Bits o.Lanes with
   | false=>rfl
   | true=>
    rw[LH o hs hk hf ho.args]
    generalize ifitS o.Kind o.Bits o.Lanes o.Imm=p
    generalize ((o.Args.length:Int)==M8 o.Kind o.Lanes)=q
    generalize o.Args.all valS=r
    generalize dstS o.Kind o.Dst=s
    cases p<;>cases q<;>cases r<;>cases s<;>rfl
theorem CL{o:D1}(h:Jr o=true):Xb o.Bits o.Lanes=true/\cl o.Kind=true/\X2 o.Kind o.Bits o.Lanes=true/\ifitS o.Kind o.Bits o.Lanes o.Imm=true/\(o.Args.length:Int)=M8 o.Kind o.Lanes/\o.Args.all valS=true/\dstS o.Kind o.Dst=true:=by
 simp only[Jr,A3,zzL74]at h;exact⟨h.1.1,h.1.2.1.1.1,h.1.2.1.1.2,h.1.2.1.2,h.1.2.2,h.2.1,h.2.2⟩
theorem TE(o:D1)(ho:bI o):K7 o=some (bif Jr o then Of o else[]):=by
 unfold K7;rw[EA o ho];simp only[Aq]
 cases hm:Jr o with
 | false=>rfl
 | true=>
  obtain⟨h1,h2,h3,_⟩:=CL hm;simp only[ED o h1 h2 h3,Aq]
  rfl
theorem TC(o:D1)(ho:bI o):K6 o=some (bif Jr o then Mw o.Kind o.Bits o.Lanes else(0,0)):=by
 unfold K6;rw[EA o ho];simp only[Aq,EB]
 cases Jr o<;>rfl
def numB(n:Int):Bool:=decide (0<=n)&&decide (n<=2147483647)
def Mi(l:List Int):Bool:=l.all numB&&decide (l.length<=64)
def HK(p:Hs):Bool:=numB p.Bits&&numB p.Dst&&Mi p.From&&Mi p.Args
def dW(o:D1):Bool:=numB o.Kind&&numB o.Bits&&numB o.Lanes&&numB o.Dst&&Mi o.Args
def YT(e:Ju):Bool:=numB e.Kind&&numB e.Arg&&Mi e.To
def blockB(b:An):Bool:=b.Phis.all HK&&b.Ops.all dW&&YT b.End
def sizeB(b:An):Nat:=b.Phis.length+b.Ops.length+1
def Qb(f:Ab):Nat:=(f.Blocks.map sizeB).sum
def sizeW(f:Ab):Int:=Bh (Qb f)
def U5(f:Ab):Bool:=decide (1<=f.Blocks.length)&&decide (f.Blocks.length<=64)&&decide (f.Params.length<=16)&&Mi f.Params&&numB f.Ret&&decide (sizeW f<=512)&&f.Blocks.all blockB
def YW(p:Hs):Nat:=1+p.From.length+p.Args.length
def LD(o:D1):Nat:=1+o.Args.length
def YU(b:An):Nat:=1+b.End.To.length+(b.Phis.map YW).sum+(b.Ops.map LD).sum
def YV(f:Ab):Nat:=f.Params.length+(f.Blocks.map YU).sum
theorem Ii:maxLen=9223372036854775807:=rfl
structure ez(f:Ab):Prop where
 params:f.Params.length<=maxLen
 blocks:f.Blocks.length<=maxLen
 block:∀ b∈f.Blocks,b.Phis.length<=maxLen/\b.Ops.length<=maxLen/\b.End.To.length<=maxLen
 phi:∀ b∈f.Blocks,∀ p∈b.Phis,p.From.length<=maxLen/\p.Args.length<=maxLen
 op:∀ b∈f.Blocks,∀ o∈b.Ops,o.Args.length<=maxLen/\0<=o.Imm/\o.Imm<18446744073709551616
theorem CX{n:Nat}(h:n<9223372036854775808):Bh (n:Int)=n:=Hb (by omega) (by omega)
theorem Jd{i n:Nat}(h:i<n)(hn:n<=maxLen):Bh ((i:Int)+1)=((i+1:Nat):Int):=by rw[Ii]at hn;rw[show((i:Int)+1)=((i+1:Nat):Int) by omega,CX (by omega)]
theorem UE(f:Ab)(hf:ez f):∃ b,Dw f=some b:=by
 have h3:∃ x,Ai (Bq f) ((f.Params.length:Int),((0:Nat):Int))=some x:=by
  refine Rb f.Blocks.length (Bq f) (λn i hi=>?_) (λn=>?_) f.Blocks.length 0 _ (Fh _)
  ·have hmem:=getD_mem (d:=(default:An)) hi;obtain⟨b1,b2,_⟩:=hf.block _ hmem;have hI:Bx (i:Int) f.Blocks.length:=Bb hi;unfold Bq
   cases hc:(bif decide ((i:Int)<(f.Blocks.length:Int)) then decide (n<=20000) else false) with
   | false=>right;simp only[hc,Ax];exact⟨_,rfl⟩
   | true=>
    left
    simp only[hc,Ae,Ar hI]
    obtain⟨x1,h1⟩:=Rb (f.Blocks.getD i default).Phis.length (B6 f i) (λn j hj=>by
      unfold B6;simp only[Ar hI,Dp]
      cases hc:(bif decide ((j:Int)<((f.Blocks.getD i default).Phis.length:Int)) then decide (n<=20000) else false) with
      | false=>right;exact⟨_,rfl⟩
      | true=>left;simp only[Ae,Ar (Bb hj),Jd hj b1];exact⟨_,rfl⟩) (λn=>by
      unfold B6;simp only[Ar hI,Dp]
      have:decide (((f.Blocks.getD i default).Phis.length:Int)<((f.Blocks.getD i default).Phis.length:Int))=false:=by simp
      simp only[this,Ax];exact⟨_,rfl⟩) _ 0 (Bh (Bh (n+1)+((f.Blocks.getD i default).End.To.length:Int))) (Fh _)
    obtain⟨x2,h2⟩:=Rb (f.Blocks.getD i default).Ops.length (B7 f i) (λn j hj=>by
      unfold B7;simp only[Ar hI,Dp]
      cases hc:(bif decide ((j:Int)<((f.Blocks.getD i default).Ops.length:Int)) then decide (n<=20000) else false) with
      | false=>right;exact⟨_,rfl⟩
      | true=>left;simp only[Ae,Ar (Bb hj),Jd hj b2];exact⟨_,rfl⟩) (λn=>by
      unfold B7;simp only[Ar hI,Dp]
      have:decide (((f.Blocks.getD i default).Ops.length:Int)<((f.Blocks.getD i default).Ops.length:Int))=false:=by simp
      simp only[this,Ax];exact⟨_,rfl⟩) _ 0 x1 (Fh _)
    rw[show((0:Nat):Int)=0 from rfl]at h1 h2;simp only[Dp,h1,h2,Aq,Jd hi hf.blocks];exact⟨_,rfl⟩
  ·unfold Bq
   have:decide ((f.Blocks.length:Int)<(f.Blocks.length:Int))=false:=by simp
   simp only[this,Ax];exact⟨_,rfl⟩
 obtain⟨x,hx⟩:=h3;unfold Dw;rw[show((0:Nat):Int)=0 from rfl]at hx;rw[hx];exact⟨_,rfl⟩
theorem QK(f:Ab)(hf:ez f)(h0:f.Params.length<=64)(hb:∀ b∈f.Blocks,b.End.To.length<=64/\(∀ p∈b.Phis,p.From.length<=64/\p.Args.length<=64)/\∀ o∈b.Ops,o.Args.length<=64):Dw f=some (decide (YV f<=20000)):=by
 have h3:=Xe f.Blocks (default:An) YU 20000 (Bq f) (λn i hi hn=>by
   have hmem:=getD_mem (d:=(default:An)) hi;obtain⟨b1,b2,b3⟩:=hf.block _ hmem;obtain⟨hTo,hPh,hOp⟩:=hb _ hmem;have hI1:Bx (i:Int) f.Blocks.length:=Bb hi
   have l1:=Xe (f.Blocks.getD i default).Phis (default:Hs) YW 20000 (B6 f i) (λn j hj hn=>by
     have hm:=getD_mem (d:=(default:Hs)) hj;obtain⟨p1,p2⟩:=hPh _ hm
     have e1:decide ((j:Int)<((f.Blocks.getD i default).Phis.length:Int))=true:=by simpa using hj
     have e2:decide ((n:Int)<=20000)=true:=by simp;omega
     refine⟨n+YW ((f.Blocks.getD i default).Phis.getD j default),?_,λ_=>rfl,λh=>h⟩;unfold B6;simp only[Ar hI1,Dp,e1,e2,Ae,Ar (Bb hj),Jd hj b1]
     congr 3
     rw[Hb (n:=(n:Int)+1) (by omega) (by omega),Hb (n:=(n:Int)+1+_) (by omega) (by omega),Hb (by omega) (by omega)];simp only[YW]
     omega) (λn j hj hd=>by
     unfold B6;simp only[Ar hI1,Dp]
     have:(bif decide ((j:Int)<((f.Blocks.getD i default).Phis.length:Int)) then decide ((n:Int)<=20000) else false)=false:=by
      rcases hd with rfl|h
      ·simp
      ·simp;omega
     rw[this];rfl)
   have l2:=Xe (f.Blocks.getD i default).Ops (default:D1) LD 20000 (B7 f i) (λn j hj hn=>by
     have hm:=getD_mem (d:=(default:D1)) hj;have p1:=hOp _ hm
     have e1:decide ((j:Int)<((f.Blocks.getD i default).Ops.length:Int))=true:=by simpa using hj
     have e2:decide ((n:Int)<=20000)=true:=by simp;omega
     refine⟨n+LD ((f.Blocks.getD i default).Ops.getD j default),?_,λ_=>rfl,λh=>h⟩;unfold B7;simp only[Ar hI1,Dp,e1,e2,Ae,Ar (Bb hj),Jd hj b2]
     congr 3
     rw[Hb (n:=(n:Int)+1) (by omega) (by omega),Hb (by omega) (by omega)];simp only[LD]
     omega) (λn j hj hd=>by
     unfold B7;simp only[Ar hI1,Dp]
     have:(bif decide ((j:Int)<((f.Blocks.getD i default).Ops.length:Int)) then decide ((n:Int)<=20000) else false)=false:=by
      rcases hd with rfl|h
      ·simp
      ·simp;omega
     rw[this];rfl)
   have e1:decide ((i:Int)<(f.Blocks.length:Int))=true:=by simpa using hi
   have e2:decide ((n:Int)<=20000)=true:=by simp;omega
   obtain⟨m1,q1,q2,q3⟩:=l1 _ 0 (n+1+(f.Blocks.getD i default).End.To.length) (Fh _);obtain⟨m2,q4,q5,q6⟩:=l2 _ 0 m1 (Fh _);rw[Je]at q2 q3 q5 q6;refine⟨m2,?_,λhle=>?_,λhle=>?_⟩
   ·unfold Bq;simp only[e1,e2,Ae,Ar hI1,Dp,Jd hi hf.blocks];rw[Hb (n:=(n:Int)+1) (by omega) (by omega),Hb (by omega) (by omega),show(n:Int)+1+((f.Blocks.getD i default).End.To.length:Int)=((n+1+(f.Blocks.getD i default).End.To.length:Nat):Int) by omega];rw[show((0:Nat):Int)=0 from rfl]at q1 q4;rw[q1,Aq,q4,Aq]
   ·simp only[YU]at hle ⊢;have:=q2 (by omega);rw[q5 (by omega)];omega
   ·simp only[YU];have h6:=q6 hle;have h3:=q3 (by omega);have:=q2 h3
    omega) (λn i hi hd=>by
   unfold Bq
   have:(bif decide ((i:Int)<(f.Blocks.length:Int)) then decide ((n:Int)<=20000) else false)=false:=by
    rcases hd with rfl|h
    ·simp
    ·simp;omega
   simp only[this,Ax]) f.Blocks.length 0 f.Params.length (Fh _)
 obtain⟨m,h1,h2,h4⟩:=h3;rw[Je]at h2 h4;unfold Dw;rw[show((0:Nat):Int)=0 from rfl]at h1;rw[h1,Aq]
 congr 1
 apply zzL109.2
 simp only[YV]
 constructor
 ·intro h;exact h4 (by omega)
 ·intro h;have:=h2 h;omega
theorem dJ{n:Int}:numB n=true↔0<=n/\n<=2147483647:=by simp[numB]
theorem listB_iff{l:List Int}:Mi l=true↔cf l/\l.length<=64:=by
 simp[Mi,cf,dJ]
def mK(n:Int):Prop:=0<=n/\n<18446744073709551616
structure oK(b:An):Prop where
 may:blockB b=true
 phis:b.Phis.length<=512
 ops:b.Ops.length<=512
 imm:∀ o∈b.Ops,mK o.Imm
structure OkF(f:Ab):Prop where
 params:Mi f.Params=true
 few:f.Params.length<=16
 ret:numB f.Ret=true
 blocks:f.Blocks.length<=64
 block:∀ b∈f.Blocks,oK b
theorem blockB_iff{b:An}:blockB b=true↔(∀ p∈b.Phis,HK p=true)/\(∀ o∈b.Ops,dW o=true)/\YT b.End=true:=by
 simp[blockB,and_assoc]
theorem kX{α:Type}(l:List α)(g:α->Nat)(B:Nat)(h:∀ a∈l,g a<=B):(l.map g).sum<=l.length*B:=by
 induction l with
 | nil=>simp
 | cons a l ih=>
  have h1:=h a (by simp);have h2:=ih (λb hb=>h b (by simp[hb]));rw[Bu,Vx,Pf,Du];omega
theorem d8{α:Type}(l:List α)(g k:α->Nat)(h:∀ a∈l,g a<=k a):(l.map g).sum<=(l.map k).sum:=by
 induction l with
 | nil=>simp
 | cons a l ih=>
  have h1:=h a (by simp);have h2:=ih (λb hb=>h b (by simp[hb]));rw[Bu,Vx,Bu,Vx];omega
theorem EF{α:Type}(l:List α)(g:α->Nat)(h:∀ a∈l,1<=g a):l.length<=(l.map g).sum:=by
 induction l with
 | nil=>simp
 | cons a l ih=>
  have h1:=h a (by simp);have h2:=ih (λb hb=>h b (by simp[hb]));rw[Bu,Vx,Pf];omega
theorem TH{α:Type}{l:List α}{a:α}(g:α->Nat)(h:a∈l):g a<=(l.map g).sum:=by
 induction l with
 | nil=>cases h
 | cons b l ih=>
  rw[Bu,Vx];rcases zzL22.1 h with rfl|h
  ·omega
  ·have:=ih h;omega
theorem OkF.size{f:Ab}(h:OkF f):Qb f<=65600/\sizeW f=Qb f:=by
 have:Qb f<=f.Blocks.length*1025:=kX _ _ _ λb hb=>by
  have h1:=(h.block b hb).phis;have h2:=(h.block b hb).ops;simp only[sizeB];omega
 have h2:=h.blocks
 have h3:Qb f<=65600:=by omega
 exact⟨h3,CX (by omega)⟩
theorem Y1{f:Ab}(h:U5 f=true):1<=f.Blocks.length/\f.Blocks.length<=64/\f.Params.length<=16/\Mi f.Params=true/\numB f.Ret=true/\sizeW f<=512/\∀ b∈f.Blocks,blockB b=true:=by
 simp only[U5,A3,Ds,zzL28]at h;exact⟨h.1.1.1.1.1.1,h.1.1.1.1.1.2,h.1.1.1.1.2,h.1.1.1.2,h.1.1.2,h.1.2,h.2⟩
theorem ZK{f:Ab}(h:U5 f=true):f.Params.length<=64/\∀ b∈f.Blocks,b.End.To.length<=64/\(∀ p∈b.Phis,p.From.length<=64/\p.Args.length<=64)/\∀ o∈b.Ops,o.Args.length<=64:=by
 obtain⟨_,_,h3,_,_,_,h7⟩:=Y1 h;refine⟨by omega,λb hb=>?_⟩;obtain⟨q1,q2,q3⟩:=blockB_iff.1 (h7 b hb);simp only[YT,A3]at q3;refine⟨(listB_iff.1 q3.2).2,λp hp=>?_,λo ho=>?_⟩
 ·have:=q1 p hp;simp only[HK,A3]at this;exact⟨(listB_iff.1 this.1.2).2,(listB_iff.1 this.2).2⟩
 ·have:=q2 o ho;simp only[dW,A3]at this;exact(listB_iff.1 this.2).2
theorem kE{f:Ab}(hf:ez f)(h:U5 f=true)(hs:YV f<=20000):OkF f/\Qb f<=512:=by
 obtain⟨h1,h2,h3,h4,h5,h6,h7⟩:=Y1 h
 have hle:Qb f<=YV f:=by
  have:Qb f<=(f.Blocks.map YU).sum:=d8 _ _ _ λb hb=>by
   have q1:b.Phis.length<=(b.Phis.map YW).sum:=EF _ _ λp hp=>by simp only[YW];omega
   have q2:b.Ops.length<=(b.Ops.map LD).sum:=EF _ _ λp hp=>by simp only[LD];omega
   simp only[sizeB,YU];omega
  simp only[YV];omega
 have hw:sizeW f=Qb f:=CX (by omega)
 have h512:Qb f<=512:=by omega
 refine⟨⟨h4,h3,h5,h2,λb hb=>?_⟩,h512⟩;have hb512:sizeB b<=Qb f:=TH sizeB hb;simp only[sizeB]at hb512;exact⟨h7 b hb,by omega,by omega,λo ho=>(hf.op b hb o ho).2⟩
theorem QL(f:Ab)(hf:ez f):∃ sm,Dw f=some sm/\(sm=true->U5 f=true->OkF f/\Qb f<=512/\1<=f.Blocks.length):=by
 obtain⟨sm,h⟩:=UE f hf;refine⟨sm,h,λh1 h2=>?_⟩;obtain⟨q1,q2⟩:=ZK h2;rw[QK f hf q1 q2]at h;subst h1;obtain⟨r1,r2⟩:=kE hf h2 (by simpa using OI h);exact⟨r1,r2,(Y1 h2).1⟩
def LM(l:Int):Int:=bif l==0 then 17 else bif l==1 then 20 else 22
def Nl(l:Int)(o:D1):Bool:=Jr o&&!decide (LM l<o.Kind)&&!(decide (l<2)&&decide (1<o.Lanes))
def Hw(l:Int)(b:An):Bool:=(b.Phis.all λp=>Ek p.Bits)&&b.Ops.all (Nl l)
def Tx(f:Ab)(l:Int):Bool:=f.Params.all Ek&&f.Blocks.all (Hw l)&&Ek f.Ret
theorem kM{f:Ab}(hf:OkF f){b:An}(hb:b∈f.Blocks){o:D1}(ho:o∈b.Ops):bI o:=by
 have h1:=hf.block b hb;have h2:=(blockB_iff.1 h1.may).2.1 o ho;simp only[dW,A3]at h2;exact⟨⟨(h1.imm o ho).1,(h1.imm o ho).2⟩,by have:=(listB_iff.1 h2.2).2;omega⟩
theorem iJ:room=1099511627776:=rfl
theorem Kj{β:Type}(C:Nat)(E:Nat->List β):∀ l:List Nat,(∀ i∈l,(E i).length<=C)->(l.flatMap E).length<=l.length*C
 | [],_=>by simp
 | a::l,h=>by
  have h1:=h a (by simp);have h2:=Kj C E l (λi hi=>h i (by simp[hi]));rw[Oj,Fg,Pf,Du];omega
def Ir(l:List TDef)(v:Int):Int:=match l.findIdx? (λd=>d.V==v) with|some i=>(i:Int)|none=>-1
def Ij(o:D1):Int×Int:=bif Jr o then Mw o.Kind o.Bits o.Lanes else(0,0)
def Ga(o:D1):List (Int×Int):=bif Jr o then Of o else[]
def Lp(f:Ab):List TDef:=(List.range f.Params.length).flatMap λ(i:Nat)=>[⟨(i:Int)+1,-1,0,(f.Params.getD i 0,1)⟩]
def Ui(b:An)(i:Nat):List TDef:=(List.range b.Phis.length).flatMap λ(k:Nat)=>[⟨(b.Phis.getD k default).Dst,i,-1,((b.Phis.getD k default).Bits,1)⟩]
def DN(b:An)(i:Nat):List TDef:=(List.range b.Ops.length).flatMap λ(k:Nat)=>bif decide (0<(Ij (b.Ops.getD k default)).1) then[⟨(b.Ops.getD k default).Dst,i,k,Ij (b.Ops.getD k default)⟩] else[]
def Me(b:An)(i:Nat):List TDef:=Ui b i++DN b i
def Au(f:Ab):List TDef:=Lp f++(List.range f.Blocks.length).flatMap λi=>Me (f.Blocks.getD i default) i
theorem IA(f:Ab):(Lp f).length=f.Params.length:=by
 have h:∀ l:List Nat,(l.map λ_=>1).sum=l.length:=λl=>by induction l with|nil=>rfl|cons a l ih=>simp[ih];omega
 simp[Lp,List.length_flatMap,h]
def Ll(p:Hs):List Nf:=(List.range p.Args.length).flatMap λ(j:Nat)=>[⟨p.Args.getD j 0,p.From.getD j 0,1000,(p.Bits,1)⟩]
def Ru(b:An):List Nf:=(List.range b.Phis.length).flatMap λ(k:Nat)=>Ll (b.Phis.getD k default)
def Nq(o:D1)(i k:Nat):List Nf:=(List.range (Ga o).length).flatMap λ(j:Nat)=>[⟨o.Args.getD j 0,i,k,(Ga o).getD j (0,0)⟩]
def Zk(b:An)(i:Nat):List Nf:=(List.range b.Ops.length).flatMap λ(k:Nat)=>Nq (b.Ops.getD k default) i k
def Uz(f:Ab)(b:An)(i:Nat):List Nf:=(bif b.End.Kind==0 then[⟨b.End.Arg,i,1000,(f.Ret,1)⟩] else[])++(bif b.End.Kind==2 then[⟨b.End.Arg,i,1000,(1,1)⟩] else[])
def BC(f:Ab)(b:An)(i:Nat):List Nf:=Ru b++Zk b i++Uz f b i
def Ep(f:Ab):List Nf:=(List.range f.Blocks.length).flatMap λ(i:Nat)=>BC f (f.Blocks.getD i default) i
theorem FU{o:D1}(h:o.Args.length<=64):(Ga o).length<=64/\(Ga o).length<=o.Args.length:=by
 unfold Ga
 cases hm:Jr o with
 | false=>simp
 | true=>
  simp only[Ae]
  have:((o.Args.length:Int)==M8 o.Kind o.Lanes)=true:=by
   simp only[Jr,A3]at hm;exact hm.1.2.2
  have h2:(o.Args.length:Int)=M8 o.Kind o.Lanes:=by simpa using this
  have h3:(Of o).length=o.Args.length:=by rw[Of,Qg,BE,<- h2,Dp]
  omega
theorem dT{f:Ab}(hf:OkF f){b:An}(hb:b∈f.Blocks){p:Hs}(hp:p∈b.Phis):p.From.length<=64/\p.Args.length<=64:=by
 have:=(blockB_iff.1 (hf.block b hb).may).1 p hp;simp only[HK,A3]at this;exact⟨(listB_iff.1 this.1.2).2,(listB_iff.1 this.2).2⟩
theorem jJ{f:Ab}(hf:OkF f){b:An}(hb:b∈f.Blocks){o:D1}(ho:o∈b.Ops):o.Args.length<=64:=by
 have:=(blockB_iff.1 (hf.block b hb).may).2.1 o ho;simp only[dW,A3]at this;exact(listB_iff.1 this.2).2
theorem MM(p:Hs):(Ll p).length<=p.Args.length:=by
 have:=Kj 1 (λ(j:Nat)=>[(⟨p.Args.getD j 0,p.From.getD j 0,1000,(p.Bits,1)⟩:Nf)]) (List.range p.Args.length) (λ_ _=>zzL8 _)
 simpa [Ll] using this
theorem QT(o:D1)(i k:Nat):(Nq o i k).length<=(Ga o).length:=by
 have:=Kj 1 (λ(j:Nat)=>[(⟨o.Args.getD j 0,i,k,(Ga o).getD j (0,0)⟩:Nf)]) (List.range (Ga o).length) (λ_ _=>zzL8 _)
 simpa [Nq] using this
theorem QU{f:Ab}(hf:OkF f){b:An}(hb:b∈f.Blocks):(Ru b).length<=32768:=by
 have:=Kj 64 (λ(k:Nat)=>Ll (b.Phis.getD k default)) (List.range b.Phis.length) (λk hk=>by
  have h1:=MM (b.Phis.getD k default);have h2:=(dT hf hb (getD_mem (d:=(default:Hs)) (by simpa using hk))).2
  omega)
 have h3:=(hf.block b hb).phis;rw[BE]at this;have h4:b.Phis.length*64<=512*64:=F5 _ h3;rw[Ru];omega
theorem UK{f:Ab}(hf:OkF f){b:An}(hb:b∈f.Blocks)(i:Nat):(Zk b i).length<=32768:=by
 have:=Kj 64 (λ(k:Nat)=>Nq (b.Ops.getD k default) i k) (List.range b.Ops.length) (λk hk=>by
  have h1:=QT (b.Ops.getD k default) i k;have h2:=(FU (jJ hf hb (getD_mem (d:=(default:D1)) (by simpa using hk)))).1
  omega)
 have h3:=(hf.block b hb).ops;rw[BE]at this;have h4:b.Ops.length*64<=512*64:=F5 _ h3;rw[Zk];omega
theorem QS(f:Ab)(b:An)(i:Nat):(Uz f b i).length<=2:=by
 unfold Uz
 cases b.End.Kind==0<;>cases b.End.Kind==2<;>simp
theorem ak{f:Ab}(hf:OkF f){i:Nat}(hi:i<f.Blocks.length):(BC f (f.Blocks.getD i default) i).length<=70000:=by
 have hmem:=getD_mem (d:=(default:An)) hi;have h1:=QU hf hmem;have h2:=UK hf hmem i;have h3:=QS f (f.Blocks.getD i default) i;rw[BC,Fg,Fg];omega
theorem JQ{f:Ab}(hf:OkF f):(Ep f).length<=4480000:=by
 have h1:=Kj 70000 (λ(i:Nat)=>BC f (f.Blocks.getD i default) i) (List.range f.Blocks.length) (λi hi=>ak hf (by simpa using hi));have h4:=hf.blocks;rw[BE]at h1;have:f.Blocks.length*70000<=64*70000:=F5 _ h4;rw[Ep];omega
def g7(f:Ab):Prop:=∀ b∈f.Blocks,∀ p∈b.Phis,p.Args.length<=p.From.length
def dL(n:Nat)(l:List Int)(i:Nat):Bool:=decide ((if i=0 then(-1:Int) else l.getD (i-1) 0)<l.getD i 0)&&(decide (0<=l.getD i 0)&&decide (l.getD i 0<n))
def fG(n:Nat)(l:List Int):Bool:=(List.range l.length).all (dL n l)
def L5(L:List (List Int)):Bool:=decide (1<=L.length)&&decide (L.length<=64)&&(List.range L.length).all λi=>fG L.length (L.getD i [])
def AH(L:List (List Int))(k i:Nat):Bool:=(L.getD k []).contains (i:Int)
def Kg(L:List (List Int))(m i:Nat):List Int:=((List.range m).filter λk=>AH L k i).map Int.ofNat
def Fl(L:List (List Int)):List (List Int):=(List.range L.length).map (Kg L L.length)
theorem P1(a n:Int):Gj a n=some (decide (0<=a)&&decide (a<n)):=by
 unfold Gj
 cases decide ((0:Int)<=a)<;>rfl
theorem IR(n:Nat):H6 (n:Int)=some (decide (1<=n)&&decide (n<=64)):=by
 unfold H6
 have h1:decide ((1:Int)<=(n:Int))=decide (1<=n):=by apply zzL109.2;omega
 have h2:decide ((n:Int)<=(64:Int))=decide (n<=64):=by apply zzL109.2;omega
 rw[h1,h2]
 cases decide (1<=n)<;>rfl
theorem FT(L:List (List Int))(i:Nat)(hl:(L.getD i []).length<4611686018427387904) :
  Ai (Cp L (i:Int)) ((-1:Int),(0:Int))=some (bif fG L.length (L.getD i []) then .inl () else .inr false):=by
 refine Nt (Cp L (i:Int)) (λj=>((if j=0 then(-1:Int) else(L.getD i []).getD (j-1) 0),((j:Nat):Int))) (dL L.length (L.getD i [])) (.inl ()) (.inr false) _ (λj hj hp=>?_) (λj hj hp=>?_) ?_
 ·unfold dL at hp;simp only[A3,Ds]at hp;obtain⟨h1,h2,h3⟩:=hp
  show Cp L (i:Int) (_,_)=_
  unfold Cp;simp only[Aw,E8 hj,Ae,P1];rw[Ad (Hh hj)]
  have e1:decide ((L.getD i []).getD j 0<=(if j=0 then(-1:Int) else(L.getD i []).getD (j-1) 0))=false:=by simpa using h1
  simp only[e1,E7 h2,E7 h3,T4,Qf,Ae,Ax,Aq,Fp];rw[w1 (show j<4611686018427387904 by omega)]
  simp
 ·show Cp L (i:Int) (_,_)=_
  unfold Cp;simp only[Aw,E8 hj,Ae,P1];rw[Ad (Hh hj)]
  cases h1:decide ((L.getD i []).getD j 0<=(if j=0 then(-1:Int) else(L.getD i []).getD (j-1) 0)) with
  | true=>simp only[Ae,show((true==false)=false) from rfl,Ax,Aq]
  | false=>
   have h1':decide ((if j=0 then(-1:Int) else(L.getD i []).getD (j-1) 0)<(L.getD i []).getD j 0)=true:=by simpa using h1
   unfold dL at hp;rw[h1',Hd]at hp;simp only[Qf,Ae,Ax,Aq,hp,Ms]
 ·show Cp L (i:Int) (_,_)=_
  unfold Cp;simp only[Aw,Jw,Ax]
def Fits(L:List (List Int)):Prop:=L.length<4611686018427387904/\∀ l∈L,l.length<4611686018427387904
theorem Fits.at{L:List (List Int)}(h:Fits L)(i:Nat):(L.getD i []).length<4611686018427387904:=by
 by_cases hi:i<L.length
 ·exact h.2 _ (getD_mem hi)
 ·rw[Na,List.getElem?_eq_none (by omega)];simp
theorem ZJ(L:List (List Int))(h:Fits L):J9 L=some (L5 L):=by
 unfold J9;rw[IR,Aq];unfold L5
 cases hc:(decide (1<=L.length)&&decide (L.length<=64)) with
 | false=>rfl
 | true=>
  simp only[Fp,Ax,Hd];have:=Nt (Cq L) (λj=>((j:Nat):Int)) (λi=>fG L.length (L.getD i [])) (.inl ()) (.inr false) L.length (λj hj hp=>?_) (λj hj hp=>?_) ?_
  ·rw[show Ai (Cq L) (0:Int)=_ from this]
   cases(List.range L.length).all λi=>fG L.length (L.getD i [])<;>rfl
  ·show Cq L (j:Int)=_
   unfold Cq;simp only[E8 hj,Ae];rw[Ad (Hh hj),FT L j (h.at j),hp];simp only[Ae,Aq,w1 (show j<4611686018427387904 by have:=h.1;omega)]
  ·show Cq L (j:Int)=_
   unfold Cq;simp only[E8 hj,Ae];rw[Ad (Hh hj),FT L j (h.at j),hp]
   rfl
  ·show Cq L _=_
   unfold Cq;simp only[Jw,Ax]
theorem Qz{α:Type}{n i:Nat}{g:Nat->α}{d:α}(h:i<n):((List.range n).map g).getD i d=g i:=by simp[List.getD,h]
theorem MJ{α:Type}{n i:Nat}{g:Nat->α}{x:α}:((List.range n).map g).set i x=(List.range n).map λj=>if j=i then x else g j:=by
 apply List.ext_getElem?
 intro j;rw[List.getElem?_set]
 by_cases hj:j<n
 ·by_cases hij:i=j
  ·subst hij;simp[hj]
  ·simp[hij,hj,Hq hij]
 ·simp[hj];intro h;omega
theorem P2{α:Type}{n:Nat}{g h:Nat->α}(H:∀ i,i<n->g i=h i):(List.range n).map g=(List.range n).map h:=MP λi hi=>H i (zzL41.1 hi)
theorem mayS_iff{L:List (List Int)}:L5 L=true↔1<=L.length/\L.length<=64/\∀ i,i<L.length->fG L.length (L.getD i [])=true:=by
 unfold L5;rw[A3,A3,all_range];simp only[Ds];exact⟨λ⟨⟨a,b⟩,c⟩=>⟨a,b,c⟩,λ⟨a,b,c⟩=>⟨⟨a,b⟩,c⟩⟩
theorem okL_iff{n:Nat}{l:List Int}:fG n l=true↔∀ i,i<l.length->(0<=l.getD i 0/\l.getD i 0<n)/\(0<i->l.getD (i-1) 0<l.getD i 0):=by
 unfold fG;rw[all_range];unfold dL;simp only[A3,Ds]
 constructor
 ·intro h i hi;obtain⟨h1,h2,h3⟩:=h i hi;refine⟨⟨h2,h3⟩,λhp=>?_⟩;rwa[if_neg (by omega)]at h1
 ·intro h i hi;obtain⟨⟨h2,h3⟩,h1⟩:=h i hi;refine⟨?_,h2,h3⟩
  by_cases hz:i=0
  ·rw[if_pos hz];omega
  ·rw[if_neg hz];exact h1 (by omega)
section
variable {n:Nat} {l:List Int} (h:fG n l=true)
include h
theorem Y5{i:Nat}(hi:i<l.length):0<=l.getD i 0/\l.getD i 0<n:=(okL_iff.1 h i hi).1
theorem dM{i j:Nat}(hij:i<j)(hj:j<l.length):l.getD i 0<l.getD j 0:=by
 induction j with
 | zero=>omega
 | succ j ih=>
  have h1:=(okL_iff.1 h (j+1) hj).2 (by omega);rw[show j+1-1=j by omega]at h1
  by_cases he:i=j
  ·rw[he];exact h1
  ·exact Int.lt_trans (ih (by omega) (by omega)) h1
theorem kG{i:Nat}(hi:i<l.length):(i:Int)<=l.getD i 0:=by
 induction i with
 | zero=>exact(Y5 h hi).1
 | succ i ih=>
  have:=dM h (show i<i+1 by omega) hi;have:=ih (by omega);omega
theorem CN:l.length<=n:=by
 by_cases hz:l.length=0
 ·omega
 ·have h1:=kG h (show l.length-1<l.length by omega);have h2:=(Y5 h (show l.length-1<l.length by omega)).2;omega
theorem WM{x:Int}(hx:x∈l):0<=x/\x<n:=by
 obtain⟨i,hi,rfl⟩:=Ls hx;have:=Y5 h hi;rwa[Aa _ _ _ hi]at this
end
theorem kH{n:Nat}{l:List Int}(h1:∀ x∈l,0<=x/\x<n)(h2:l.Pairwise (·<·)):fG n l=true:=by
 rw[okL_iff];intro i hi;rw[Aa _ _ _ hi];refine⟨h1 _ (Yb hi),λhp=>?_⟩;rw[Aa _ _ _ (show i-1<l.length by omega)];exact(zzL100.1 h2) _ _ _ _ (by omega)
theorem Y0{L:List (List Int)}(h:L5 L=true):L.length<=64/\∀ l∈L,l.length<=64:=by
 obtain⟨h1,h2,h3⟩:=mayS_iff.1 h;refine⟨h2,λl hl=>?_⟩;obtain⟨i,hi,rfl⟩:=Ls hl;have:=CN (h3 i hi);rw[Aa _ _ _ hi]at this;omega
theorem f8{L:List (List Int)}(h:L.length<=1000/\∀ l∈L,l.length<=1000):Fits L:=⟨by omega,λl hl=>by have:=h.2 l hl;omega⟩
theorem PX(L:List (List Int))(k i:Nat):Kg L (k+1) i=Kg L k i++(if AH L k i=true then[(k:Int)] else[]):=by
 unfold Kg;rw[Zt,MQ,Zs]
 congr 1
 cases hg:AH L k i<;>simp[hg]
theorem Wg(L:List (List Int))(k i:Nat):(Kg L k i).length<=k:=by
 unfold Kg;rw[Qg];have:=List.length_filter_le (λk=>AH L k i) (List.range k)
 simpa using this
theorem IF{l:List Int}{j:Nat}(hj:j<l.length):l.take (j+1)=l.take j++[l.getD j 0]:=by
 rw[Aa _ _ _ hj,UT hj]
def Pj(L:List (List Int))(k j i:Nat):Bool:=((L.getD k []).take j).contains (i:Int)
def Jb(L:List (List Int))(k j:Nat):List (List Int):=(List.range L.length).map λi=>Kg L k i++(if Pj L k j i=true then[(k:Int)] else[])
theorem NU(L:List (List Int))(h:L5 L=true)(k j:Nat)(hk:k<L.length)(hj:j<(L.getD k []).length) :
  (Jb L k j).set ((L.getD k []).getD j 0).toNat ((Jb L k j).getD ((L.getD k []).getD j 0).toNat []++[(k:Int)])=Jb L k (j+1):=by
 obtain⟨h1,h2,h3⟩:=mayS_iff.1 h;have hok:=h3 k hk;obtain⟨a0,a1⟩:=Y5 hok hj;unfold Jb;rw[Qz (by omega),MJ]
 apply P2
 intro i hi
 have hnot:Pj L k j ((L.getD k []).getD j 0).toNat=false:=by
  unfold Pj;rw[Vu a0]
  cases hc:((L.getD k []).take j).contains ((L.getD k []).getD j 0) with
  | false=>rfl
  | true=>
   rw[GF]at hc;obtain⟨m,hm,he⟩:=Ls hc
   have hm':m<j:=by simp at hm;omega
   rw[List.getElem_take]at he;have:=dM hok hm' hj;rw[Aa _ _ _ (show m<(L.getD k []).length by omega),he]at this;omega
 by_cases hi2:i=((L.getD k []).getD j 0).toNat
 ·rw[if_pos hi2,hnot]
  have:Pj L k (j+1) i=true:=by
   unfold Pj;rw[IF hj,GF,hi2,Vu a0]
   simp
  rw[this,hi2]
  simp
 ·rw[if_neg hi2]
  have:Pj L k (j+1) i=Pj L k j i:=by
   unfold Pj;rw[IF hj,Mr,GF,GF,zzL11]
   constructor
   ·rintro(hm|hm)
    ·exact hm
    ·simp only[zzL15]at hm;exact(hi2 (by omega)).elim
   ·exact .inl
  rw[this]
theorem OV(L:List (List Int))(h:L5 L=true):Ix L=some (Fl L):=by
 obtain⟨h1,h2,h3⟩:=mayS_iff.1 h
 have hroom:(1000:Nat)<=room:=by decide
 unfold Ix;rw[Ad ⟨by omega,Int.le_refl _,by omega⟩,Aw]
 have inner:∀ k,k<L.length->Ai (Ee L (k:Int)) ((0:Int),Jb L k 0)=some (Jb L k (L.getD k []).length):=λk hk=>by
  have hok:=h3 k hk;refine Xd (Ee L (k:Int)) (λj=>(((j:Nat):Int),Jb L k j)) (Jb L k (L.getD k []).length) (L.getD k []).length (λj hj=>?_) ?_
  ·obtain⟨a0,a1⟩:=Y5 hok hj
   have hlen:(Jb L k j).length=L.length:=by simp[Jb]
   have hl64:=CN hok
   show Ee L (k:Int) (_,_)=_
   unfold Ee;simp only[Aw,E8 hj,Ae];have hb:Bx ((L.getD k []).getD j 0) (Jb L k j).length:=⟨a0,by rw[hlen];exact a1⟩
   have hrow:((Jb L k j).getD ((L.getD k []).getD j 0).toNat []).length<=k+1:=by
    unfold Jb;rw[Qz (by omega),Fg];have:=Wg L k ((L.getD k []).getD j 0).toNat
    split
    ·rw[T7];omega
    ·rw[List.length_nil];omega
   rw[Ad (Hh hj),Ad hb,Ad hb,Ad (by simp only[T7];omega),Ad hb,NU L h k j hk hj,w1 (by omega)]
  ·show Ee L (k:Int) (_,_)=_
   unfold Ee;simp only[Aw,Jw,Ax]
 have r0:∀ k,Jb L k 0=(List.range L.length).map (Kg L k):=λk=>by
  unfold Jb
  apply P2
  intro i _;simp[Pj]
 have r1:∀ k,Jb L k (L.getD k []).length=(List.range L.length).map (Kg L (k+1)):=λk=>by
  unfold Jb
  apply P2
  intro i _;rw[PX];unfold Pj AH;rw[BG]
 have:Ai (Ef L) ((0:Int),(List.range L.length).map (Kg L 0))=some (Fl L):=Xd (Ef L) (λk=>(((k:Nat):Int),(List.range L.length).map (Kg L k))) (Fl L) L.length (λk hk=>?_) ?_
 ·have e0:(List.replicate L.length ([]:List Int))=(List.range L.length).map (Kg L 0):=by
   apply List.ext_getElem?
   intro i
   by_cases hi:i<L.length<;>simp[hi,List.getElem?_replicate,Kg]
  rw[e0,this];rfl
 ·show Ef L (_,_)=_
  unfold Ef;simp only[E8 hk,Ae];rw[Ad (Hh hk),<- r0,inner k hk,r1,w1 (by omega)]
  rfl
 ·show Ef L (_,_)=_
  unfold Ef;simp only[Jw,Ax]
  rfl
theorem AM{α:Type}[DecidableEq α]{a b:List α}{d:α}(h:a.length=b.length):((List.range a.length).all λi=>decide (a.getD i d=b.getD i d))=decide (a=b):=by
 rw[Mr,all_range,Ds]
 constructor
 ·intro hall
  apply Wp h
  intro i h1 h2;have:=X9 (hall i h1);rwa[Aa _ _ _ h1,Aa _ _ _ h2]at this
 ·rintro rfl i _
  simp
theorem WI{a b:Nat}:(((a:Nat):Int)!=(b:Int))=decide (a≠b):=by
 rw[Mr,zzL93,Ds];omega
theorem ck{a b:Int}:(a !=b) = !decide (a=b):=by
 rw[Mr]
 simp
theorem LO(a b:List Int)(hb:b.length<4611686018427387904):Ei a b=some (decide (a=b)):=by
 unfold Ei;rw[WI]
 by_cases hl:a.length=b.length
 ·rw[Fo (by simpa using hl),Ax];have:Ai (Bf a b) (0:Int)=_:=Nt (Bf a b) (λj=>((j:Nat):Int)) (λi=>decide (a.getD i 0=b.getD i 0)) (.inl ()) (.inr false) a.length (λj hj hp=>?_) (λj hj hp=>?_) ?_
  ·rw[this,AM hl]
   cases decide (a=b)<;>rfl
  ·show Bf a b (j:Int)=_
   unfold Bf;simp only[Aw,E8 hj,Ae];rw[Ad (Hh hj),Ad (Hh (by omega)),ck,hp,w1 (by omega)]
   rfl
  ·show Bf a b (j:Int)=_
   unfold Bf;simp only[Aw,E8 hj,Ae];rw[Ad (Hh hj),Ad (Hh (by omega)),ck,hp]
   rfl
  ·show Bf a b _=_
   unfold Bf;simp only[Jw,Ax]
 ·rw[E7 (by simpa using hl),Ae,Fo (λh=>hl (by rw[h]))]
theorem OW(a b:List (List Int))(hb:Fits b):Cr a b=some (decide (a=b)):=by
 unfold Cr;rw[WI]
 by_cases hl:a.length=b.length
 ·rw[Fo (by simpa using hl),Ax];have hb1:=hb.1;have:Ai (As a b) (0:Int)=_:=Nt (As a b) (λj=>((j:Nat):Int)) (λi=>decide (a.getD i []=b.getD i [])) (.inl ()) (.inr false) a.length (λj hj hp=>?_) (λj hj hp=>?_) ?_
  ·rw[this,AM hl]
   cases decide (a=b)<;>rfl
  ·show As a b (j:Int)=_
   unfold As;simp only[Aw,E8 hj,Ae];rw[Ad (Hh hj),Ad (Hh (by omega)),LO _ _ (hb.at j),hp,w1 (by omega)]
   rfl
  ·show As a b (j:Int)=_
   unfold As;simp only[Aw,E8 hj,Ae];rw[Ad (Hh hj),Ad (Hh (by omega)),LO _ _ (hb.at j),hp]
   rfl
  ·show As a b _=_
   unfold As;simp only[Jw,Ax]
 ·rw[E7 (by simpa using hl),Ae,Fo (λh=>hl (by rw[h]))]
theorem N9(L:List (List Int)):(Fl L).length=L.length:=by simp[Fl]
theorem JF{L:List (List Int)}{i:Nat}(hi:i<L.length):(Fl L).getD i []=Kg L L.length i:=by unfold Fl;rw[Qz hi]
theorem Rp{L:List (List Int)}(h:L5 L=true):(Fl L).length<=64/\∀ l∈Fl L,l.length<=64:=by
 obtain⟨h1,_⟩:=Y0 h;refine⟨by rw[N9];exact h1,λl hl=>?_⟩;obtain⟨i,hi,rfl⟩:=zzL24.1 hl;have:=Wg L L.length i;omega
theorem Wm{L:List (List Int)}(h:L.length<=64/\∀ l∈L,l.length<=64):Fits L:=f8 ⟨by omega,λl hl=>by have:=h.2 l hl;omega⟩
def Yz(g:C5):Bool:=L5 g.Succ&&decide (g.Pred=Fl g.Succ)
theorem jF(g:C5)(h:Fits g.Succ):O4 g=some (Yz g):=by
 unfold O4 Yz;rw[ZJ _ h,Aq]
 cases hm:L5 g.Succ with
 | false=>rfl
 | true=>
  simp only[Qf,Ae,OV _ hm,Aq,OW _ _ (Wm (Rp hm)),Hd]
def Yk(L:List (List Int)):C5:=⟨L,Fl L⟩
def g0:C5:=⟨[],[]⟩
theorem OY{L:List (List Int)}(h:L5 L=true):Yz (Yk L)=true:=by simp[Yz,Yk,h]
theorem ca{L:List (List Int)}(h:L5 L=true):Fits (Yk L).Succ/\Fits (Yk L).Pred:=⟨Wm (Y0 h),Wm (Rp h)⟩
noncomputable section
def upd(s:Nat->Bool)(y:Nat):Nat->Bool:=λz=>decide (z=y) || s z
theorem upd_true{s:Nat->Bool}{y z:Nat}:upd s y z=true↔z=y\/s z=true:=by simp[upd]
theorem upd_false{s:Nat->Bool}{y z:Nat}:upd s y z=false↔z≠y/\s z=false:=by simp[upd]
inductive VL (S:Nat->List Nat):(Nat->Bool)->List Nat->(Nat->Bool)->List Nat->Prop
 | nil (s:Nat->Bool):VL S s [] s []
 | skip {s s':Nat->Bool} {y:Nat} {l o:List Nat} (h:s y=true) (t:VL S s l s' o):VL S s (y::l) s' o
 | step {s s1 s2:Nat->Bool} {y:Nat} {l o1 o2:List Nat} (h:s y=false) (a:VL S (upd s y) (S y) s1 o1) (b:VL S s1 l s2 o2):VL S s (y::l) s2 (o1++y::o2)
inductive Rch (S:Nat->List Nat):Nat->Nat->Prop
 | refl (x:Nat):Rch S x x
 | head {x y z:Nat} (h:y∈S x) (t:Rch S y z):Rch S x z
theorem Rch.tail{S:Nat->List Nat}{x y z:Nat}(h:Rch S x y)(hz:z∈S y):Rch S x z:=by
 induction h with
 | refl x=>exact .head hz (.refl _)
 | head h _ ih=>exact .head h (ih hz)
theorem Rch.trans{S:Nat->List Nat}{x y z:Nat}(h:Rch S x y)(k:Rch S y z):Rch S x z:=by
 induction h with
 | refl x=>exact k
 | head h _ ih=>exact .head h (ih k)
variable {S:Nat->List Nat} {s s':Nat->Bool} {l o:List Nat}
theorem VL.seen(h:VL S s l s' o)(z:Nat):s' z=true↔s z=true\/z∈o:=by
 induction h with
 | nil s=>simp
 | skip h _ ih=>exact ih
 | @step s s1 s2 y l o1 o2 h a b iha ihb=>
  rw[ihb,iha,upd_true];simp only[zzL11,zzL22]
  constructor
  ·rintro((( rfl|h1)|h1)|h1)
   ·exact .inr (.inr (.inl rfl))
   ·exact .inl h1
   ·exact .inr (.inl h1)
   ·exact .inr (.inr (.inr h1))
  ·rintro(h1|h1|rfl|h1)
   ·exact .inl (.inl (.inr h1))
   ·exact .inl (.inr h1)
   ·exact .inl (.inl (.inl rfl))
   ·exact .inr h1
theorem VL.fresh(h:VL S s l s' o){z:Nat}(hz:z∈o):s z=false:=by
 induction h with
 | nil s=>cases hz
 | skip h _ ih=>exact ih hz
 | @step s s1 s2 y l o1 o2 h a b iha ihb=>
  rcases zzL11.1 hz with h1|h1
  ·exact(upd_false.1 (iha h1)).2
  ·rcases zzL22.1 h1 with rfl|h1
   ·exact h
   ·have:=ihb h1
    cases hs:s z with
    | false=>rfl
    | true=>rw[(a.seen z).2 (.inl (upd_true.2 (.inr hs)))]at this;cases this
theorem VL.nodup(h:VL S s l s' o):o.Nodup:=by
 induction h with
 | nil s=>exact List.nodup_nil
 | skip h _ ih=>exact ih
 | @step s s1 s2 y l o1 o2 h a b iha ihb=>
  rw[List.nodup_append];refine⟨iha,zzL76.2 ⟨λhy=>?_,ihb⟩,λu hu v hv=>?_⟩
  ·have:=b.fresh hy;rw[(a.seen y).2 (.inl (upd_true.2 (.inl rfl)))]at this
   cases this
  ·rintro rfl;rcases zzL22.1 hv with rfl|hv
   ·have:=a.fresh hu;rw[upd_true.2 (.inl rfl)]at this
    cases this
   ·have:=b.fresh hv;rw[(a.seen u).2 (.inr hu)]at this
    cases this
theorem VL.rch(h:VL S s l s' o){z:Nat}(hz:z∈o):∃ y∈l,Rch S y z:=by
 induction h with
 | nil s=>cases hz
 | skip h _ ih=>obtain⟨y,hy,hr⟩:=ih hz;exact⟨y,F3 _ hy,hr⟩
 | @step s s1 s2 y l o1 o2 h a b iha ihb=>
  rcases zzL11.1 hz with h1|h1
  ·obtain⟨u,hu,hr⟩:=iha h1;exact⟨y,Kq ..,.head hu hr⟩
  ·rcases zzL22.1 h1 with rfl|h1
   ·exact⟨z,Kq ..,.refl z⟩
   ·obtain⟨u,hu,hr⟩:=ihb h1;exact⟨u,F3 _ hu,hr⟩
theorem VL.closed(h:VL S s l s' o):(∀ y∈l,s' y=true)/\∀ z∈o,∀ y∈S z,s' y=true:=by
 induction h with
 | nil s=>exact⟨(λ_ h=>by cases h),(λ_ h=>by cases h)⟩
 | @skip s s' y l o h t ih=>
  refine⟨λu hu=>?_,ih.2⟩;rcases zzL22.1 hu with rfl|hu
  ·exact(t.seen u).2 (.inl h)
  ·exact ih.1 u hu
 | @step s s1 s2 y l o1 o2 h a b iha ihb=>
  refine⟨λu hu=>?_,λz hz u hu=>?_⟩
  ·rcases zzL22.1 hu with rfl|hu
   ·exact(b.seen u).2 (.inl ((a.seen u).2 (.inl (upd_true.2 (.inl rfl)))))
   ·exact ihb.1 u hu
  ·rcases zzL11.1 hz with h1|h1
   ·exact(b.seen u).2 (.inl (iha.2 z h1 u hu))
   ·rcases zzL22.1 h1 with rfl|h1
    ·exact(b.seen u).2 (.inl (iha.1 u hu))
    ·exact ihb.2 z h1 u hu
theorem VL.above(h:VL S s l s' o)(hf:∀ z,∀ y∈S z,z<y){b:Nat}(hb:∀ y∈l,b<y):∀ z∈o,b<z:=by
 induction h generalizing b with
 | nil s=>intro z hz;cases hz
 | skip h _ ih=>exact ih (λy hy=>hb y (F3 _ hy))
 | @step s s1 s2 y l o1 o2 h a c iha ihb=>
  intro z hz;have hy:=hb y (Kq ..);rcases zzL11.1 hz with h1|h1
  ·exact iha (λu hu=>Nat.lt_trans hy (hf y u hu)) z h1
  ·rcases zzL22.1 h1 with rfl|h1
   ·exact hy
   ·exact ihb (λu hu=>hb u (F3 _ hu)) z h1
theorem VL.ahead(h:VL S s l s' o)(hf:∀ z,∀ y∈S z,z<y):∀ z∈o,∀ y∈S z,s y=true\/∃ A B,o=A++z::B/\y∈A:=by
 induction h with
 | nil s=>intro z hz;cases hz
 | skip h _ ih=>exact ih
 | @step s s1 s2 y l o1 o2 h a c iha ihb=>
  intro z hz u hu;rcases zzL11.1 hz with h1|h1
  ·have hzy:y<z:=a.above hf (λv hv=>hf y v hv) z h1;have hzu:=hf z u hu;rcases iha z h1 u hu with h2|⟨A,B,rfl,hA⟩
   ·rcases upd_true.1 h2 with rfl|h2
    ·omega
    ·exact .inl h2
   ·exact .inr ⟨A,B++y::o2,by simp,hA⟩
  ·rcases zzL22.1 h1 with rfl|h1z
   ·have hzu:=hf z u hu;rcases(a.seen u).1 (a.closed.1 u hu) with h2|h2
    ·rcases upd_true.1 h2 with rfl|h2
     ·omega
     ·exact .inl h2
    ·exact .inr ⟨o1,o2,rfl,h2⟩
   ·rcases ihb z h1z u hu with h2|⟨A,B,rfl,hA⟩
    ·rcases(a.seen u).1 h2 with h3|h3
     ·rcases upd_true.1 h3 with rfl|h3
      ·obtain⟨P,Q,rfl⟩:=List.append_of_mem h1z;exact .inr ⟨o1++u::P,Q,by simp,by simp⟩
      ·exact .inl h3
     ·obtain⟨P,Q,rfl⟩:=List.append_of_mem h1z;exact .inr ⟨o1++y::P,Q,by simp,by simp[h3]⟩
    ·exact .inr ⟨o1++y::A,B,by simp,by simp[hA]⟩
def MX(n:Nat)(s:Nat->Bool):Nat:=((List.range n).filter λz=>!s z).length
theorem Uh{n:Nat}{s:Nat->Bool}{y:Nat}(hy:y<n)(h:s y=false):MX n (upd s y)+1=MX n s:=by
 unfold MX
 induction n with
 | zero=>omega
 | succ n ih=>
  rw[Zt,MQ,MQ,Fg,Fg]
  by_cases hyn:y=n
  ·subst hyn
   have e:(List.range y).filter (λz=>!upd s y z)=(List.range y).filter (λz=>!s z):=by
    apply List.filter_congr
    intro z hz;have:=zzL41.1 hz;simp[upd,show z≠y by omega]
   rw[e];simp[upd,h]
  ·have:=ih (by omega)
   have e:([n].filter λz=>!upd s y z).length=([n].filter λz=>!s z).length:=by
    simp only[List.filter_cons,List.filter_nil,upd];simp[Hq hyn]
   omega
theorem NT{n:Nat}{s s':Nat->Bool}(h:∀ z,s z=true->s' z=true):MX n s'<=MX n s:=by
 unfold MX
 apply List.Sublist.length_le
 have:(List.range n).filter (λz=>!s' z)=((List.range n).filter λz=>!s z).filter λz=>!s' z:=by
  rw[List.filter_filter]
  apply List.filter_congr
  intro z _
  cases hs:s z with
  | false=>simp
  | true=>simp[h z hs]
 rw[this];exact List.filter_sublist
theorem VL.exist{n:Nat}(hS:∀ z,z<n->∀ y∈S z,y<n):∀(m:Nat) (s:Nat->Bool),MX n s<=m->∀ l:List Nat,(∀ y∈l,y<n)->∃ s' o,VL S s l s' o:=by
 intro m
 induction m with
 | zero=>
  intro s hm l
  induction l with
  | nil=>intro _;exact⟨s,[],.nil s⟩
  | cons y l ih=>
   intro hl;obtain⟨s',o,h⟩:=ih (λz hz=>hl z (F3 _ hz))
   cases hy:s y with
   | true=>exact⟨s',o,.skip hy h⟩
   | false=>have:=Uh (hl y (Kq ..)) hy;omega
 | succ m ih=>
  intro s hm l
  induction l generalizing s with
  | nil=>intro _;exact⟨s,[],.nil s⟩
  | cons y l ihl=>
   intro hl
   cases hy:s y with
   | true=>
    obtain⟨s',o,h⟩:=ihl s hm (λz hz=>hl z (F3 _ hz));exact⟨s',o,.skip hy h⟩
   | false=>
    have hyn:=hl y (Kq ..);have:=Uh hyn hy;obtain⟨s1,o1,h1⟩:=ih (upd s y) (by omega) (S y) (hS y hyn);have h2:MX n s1<=MX n s:=NT λz hz=>(h1.seen z).2 (.inl (upd_true.2 (.inr hz)));obtain⟨s2,o2,h3⟩:=ihl s1 (by omega) (λz hz=>hl z (F3 _ hz));exact⟨s2,_,.step hy h1 h3⟩
def one(r:Nat):Nat->Bool:=λz=>decide (z=r)
def Ord(S:Nat->List Nat)(r:Nat)(L:List Nat):Prop:=∃ s' o,VL S (one r) (S r) s' o/\L=r::o.reverse
theorem Ord.exist{n:Nat}(hS:∀ z,z<n->∀ y∈S z,y<n){r:Nat}(hr:r<n):∃ L,Ord S r L:=by
 obtain⟨s',o,h⟩:=VL.exist hS _ (one r) (zzL8 _) (S r) (hS r hr);exact⟨_,s',o,h,rfl⟩
theorem Ord.mem{r:Nat}{L:List Nat}(h:Ord S r L)(z:Nat):z∈L↔Rch S r z:=by
 obtain⟨s',o,h,rfl⟩:=h
 have hs:∀ z,s' z=true↔z=r\/z∈o:=λz=>by rw[h.seen];simp[one]
 have hc:∀ x,s' x=true->∀ y∈S x,s' y=true:=λx hx y hy=>by
  rcases(hs x).1 hx with rfl|hx
  ·exact h.closed.1 y hy
  ·exact h.closed.2 x hx y hy
 simp only[zzL22,zzL98];rw[<- hs z]
 constructor
 ·intro hz;rcases(hs z).1 hz with rfl|hz
  ·exact .refl _
  ·obtain⟨y,hy,hr⟩:=h.rch hz;exact .head hy hr
 ·intro hr
  have key:∀ x z,Rch S x z->s' x=true->s' z=true:=by
   intro x z hxz
   induction hxz with
   | refl x=>exact id
   | head hy _ ih=>exact λhx=>ih (hc _ hx _ hy)
  exact key r z hr ((hs r).2 (.inl rfl))
theorem Ord.nodup{r:Nat}{L:List Nat}(h:Ord S r L):L.Nodup:=by
 obtain⟨s',o,h,rfl⟩:=h;refine zzL76.2 ⟨λhr=>?_,(List.reverse_perm o).nodup_iff.2 h.nodup⟩;have:=h.fresh (zzL98.1 hr);simp[one]at this
theorem Ord.fwd{r:Nat}{L:List Nat}(h:Ord S r L)(hf:∀ z,∀ y∈S z,z<y):∀ z∈L,∀ y∈S z,∃ A B,L=A++z::B/\y∈B:=by
 obtain⟨s',o,h,rfl⟩:=h;intro z hz y hy;have hzy:=hf z y hy;rcases zzL22.1 hz with rfl|hz
 ·refine⟨[],o.reverse,rfl,?_⟩;rcases(h.seen y).1 (h.closed.1 y hy) with h1|h1
  ·simp[one]at h1;omega
  ·exact zzL98.2 h1
 ·have hz:=zzL98.1 hz;have hrz:r<z:=h.above hf (λv hv=>hf r v hv) z hz;rcases h.ahead hf z hz y hy with h1|⟨A,B,rfl,hA⟩
  ·simp[one]at h1;omega
  ·exact⟨r::B.reverse,A.reverse,by simp,zzL98.2 hA⟩
end
theorem ZI(l:List Int)(hl:l.length<4611686018427387904):D0 l=some l.reverse:=by
 unfold D0
 by_cases h0:l.length=0
 ·obtain rfl:l=[]:=zzL107.1 h0
  have:Ai A9 ((0:Int),(Bh ((([]:List Int).length:Int)-1)),([]:List Int))=some []:=by
   apply Ah
   unfold A9;rw[Hb (by simp) (by simp)]
   rfl
  rw[this];rfl
 ·have hw:Bh ((l.length:Int)-1)=((l.length-1:Nat):Int):=by rw[Hb (by omega) (by omega)];omega
  rw[hw]
  let C:Nat->List Int:=λk=>(List.range l.length).map λi=>if i<k\/l.length-1-k<i then l.getD (l.length-1-i) 0 else l.getD i 0
  have hC:∀ k i,i<l.length->(C k).getD i 0=if i<k\/l.length-1-k<i then l.getD (l.length-1-i) 0 else l.getD i 0:=λk i hi=>by simp only[C];rw[Qz hi]
  have hlen:∀ k,(C k).length=l.length:=λk=>by simp[C]
  have:=Xd A9 (λk=>(((k:Nat):Int),((l.length-1-k:Nat):Int),C k)) l.reverse (l.length / 2) (λk hk=>?_) ?_
  ·have e0:C 0=l:=by
    apply Wp (by simp[C])
    intro i h1 h2;have:=hC 0 i h2;rw[Aa _ _ _ h1,Aa _ _ _ h2]at this;rw[this,if_neg (by omega)]
   have this':Ai A9 ((0:Int),((l.length-1:Nat):Int),l)=some l.reverse:=by
    have h2:=this;simp only[e0]at h2;exact h2
   rw[this'];rfl
  ·show A9 (_,_,_)=_
   unfold A9
   have hlt:k<l.length-1-k:=by omega
   simp only[E8 hlt,Ae,Aw];rw[Ad (Hh (by rw[hlen];omega)),Ad (Hh (by rw[hlen];omega)),Ad (Hh (by rw[hlen];omega)),Ad (Hh (by rw[hlen];omega))];rw[w1 (by omega),show Bh (((l.length-1-k:Nat):Int)-1)=((l.length-1-(k+1):Nat):Int) by rw[Hb (by omega) (by omega)];omega]
   congr 4
   rw[hC k _ (by omega),hC k _ (by omega),if_neg (by omega),if_neg (by omega)];simp only[C];rw[MJ,MJ]
   apply P2
   intro i hi
   by_cases h1:i=k
   ·subst h1;rw[if_neg (by omega),if_pos rfl,if_pos (by omega)]
   ·by_cases h2:i=l.length-1-k
    ·subst h2;rw[if_pos rfl,if_pos (by omega)]
     congr 1;omega
    ·rw[if_neg h2,if_neg h1]
     by_cases h3:i<k\/l.length-1-k<i
     ·rw[if_pos h3,if_pos (by omega)]
     ·rw[if_neg h3,if_neg (by omega)]
  ·show A9 (_,_,_)=_
   unfold A9;have hd:decide (((l.length / 2:Nat):Int)<((l.length-1-l.length / 2:Nat):Int))=false:=Fo (by omega);simp only[hd,Ax]
   congr 2
   apply Wp (by simp[C])
   intro i h1 h2
   have h3:i<l.length:=by simpa [C] using h1
   have:=hC (l.length / 2) i h3;rw[Aa _ _ _ h1]at this;rw[this,List.getElem_reverse]
   split
   ·rw[Aa _ _ _ (by omega)]
   ·rw[Aa _ _ _ h3]
    congr 1;omega
theorem top{st:List Int}{a:Int}(h:st.length<4611686018427387904):(st++[a]).getD (Bh (((st++[a]).length:Int)-1)).toNat 0=a:=by
 have:Bh (((st++[a]).length:Int)-1)=((st.length:Nat):Int):=by rw[Fg,T7,Hb (by omega) (by omega)];omega
 rw[this,Aw];simp[List.getD]
theorem mJ{st:List Int}{a:Int}(h:st.length<4611686018427387904):Bh (((st++[a]).length:Int)-1)=((st.length:Nat):Int):=by
 rw[Fg,T7,Hb (by omega) (by omega)];omega
theorem fL{g:C5}{R:List Bool}{st T:List Int}{a:Nat}(hst:st.length<64)(ha:a<g.Succ.length)(h64:g.Succ.length<=64)(ht:T.getD a 0=((g.Succ.getD a []).length:Int)) :
  F4 g R (st++[(a:Int)]) T=some (.done (.inl T)):=by
 unfold F4;simp only[top (st:=st) (a:=(a:Int)) (by omega),Aw];rw[Ad (Hh (by omega)),Ad (Hh ha),ht,Jw,Ax]
theorem VI{g:C5}{R:List Bool}{st T:List Int}{a t y:Nat}(hst:st.length<64)(ha:a<g.Succ.length)(h64:g.Succ.length<=64)(ht:T.getD a 0=(t:Int))(htl:t<(g.Succ.getD a []).length)(htm:t<64)
  (hy:(g.Succ.getD a []).getD t 0=(y:Int)) (hyn:y<g.Succ.length) :
  F4 g R (st++[(a:Int)]) T=bif R.getD y false then some (.next (Ha 64 (0:Int) T a ((t+1:Nat):Int))) else some (.done (.inr (Ha 64 false R y true,Ha 64 (0:Int) T a ((t+1:Nat):Int),(st++[(a:Int)])++[(y:Int)]))):=by
 have hroom:(1000:Nat)<=room:=by decide
 unfold F4;simp only[top (st:=st) (a:=(a:Int)) (by omega),Aw,ht,hy];rw[Ad (Hh (by omega)),Ad (Hh ha),E8 htl,Ae,Ad (Hh ha),Ad (Hh (by omega)),Ad (Hh htl),Ad (Hh (by omega)),Ad (Hh (by omega)),Ad (Hh (by omega)),w1 (by omega)]
 cases R.getD y false with
 | true=>rfl
 | false=>
  simp only[Ms,Ae,Ax];rw[Ad (Hh (by omega)),Ad (by rw[Fg,T7,T7];omega)]
theorem VH{g:C5}{R:List Bool}{st T Lf:List Int}{a:Nat}(hst:st.length<64)(hLf:Lf.length<64) :
  Cz g (R,T,st++[(a:Int)],Lf)=(Ai (F4 g R (st++[(a:Int)])) T).bind λx=>match x with
   | .inl T'=>if st=[] then some (.done (Lf++[(a:Int)]).reverse) else some (.next (R,T',st,Lf++[(a:Int)]))
   | .inr (R',T',st')=>some (.next (R',T',st',Lf)):=by
 have hroom:(1000:Nat)<=room:=by decide
 unfold Cz;simp only
 have hb:Bx (Bh (((st++[(a:Int)]).length:Int)-1)) (st++[(a:Int)]).length:=by rw[mJ (by omega)];exact Hh (by simp)
 rw[Ad hb]
 congr 1
 funext x
 cases x with
 | inr y=>obtain⟨R',T',st'⟩:=y;rfl
 | inl T'=>
  simp only[top (st:=st) (a:=(a:Int)) (by omega)];rw[mJ (by omega),Aw,Ad (by rw[T7];omega),Ad ⟨by omega,by simp⟩];have e:(st++[(a:Int)]).take st.length=st:=List.take_left' rfl;rw[e]
  cases st with
  | nil=>
   rw[if_pos rfl]
   have:decide ((0:Int)<(([]:List Int).length:Int))=false:=by decide
   rw[this,Ax,ZI _ (by simp;omega)];simp only[Aq];rw[Ad (by simp)]
  | cons b st'=>
   rw[if_neg (by simp)];have:decide ((0:Int)<((b::st').length:Int))=true:=E7 (by simp<;>omega);rw[this,Ae]
theorem TG{S X:Type}{f:S->Option (LR S X)}{a b:S}(h:f a=f b):Ai f a=Ai f b:=by
 cases hb:f b with
 | none=>rw[We (h.trans hb),We hb]
 | some r=>cases r with
  | done x=>rw[Ah (h.trans hb),Ah hb]
  | next s=>rw[Am (h.trans hb),Am hb]
theorem BA{S X:Type}{f:S->Option (LR S X)}{s:S}:Pu (f s) f=Ai f s:=by
 unfold Pu
 cases hb:f s with
 | none=>rw[We hb];rfl
 | some r=>cases r with
  | done x=>rw[Ah hb];rfl
  | next s'=>rw[Am hb];rfl
def sN(L:List (List Int))(k:Nat):List Nat:=(L.getD k []).map Int.toNat
def RelS(R:List Bool)(s:Nat->Bool):Prop:=∀ z,z<64->R.getD z false=s z
theorem Np{α:Type}{d:α}{l:List α}{i:Nat}{x:α}{k:Nat}(hk:k<64):(Ha 64 d l i x).getD k d=if k=i then x else l.getD k d:=by
 rw[Kn hk]
 by_cases h:k=i
 ·subst h;simp
 ·have:Nat.beq k i=false:=by cases hb:Nat.beq k i with|false=>rfl|true=>exact absurd (Bt hb) h
  rw[this,if_neg h];rfl
theorem RelS.set{R:List Bool}{s:Nat->Bool}(h:RelS R s){y:Nat}:RelS (Ha 64 false R y true) (upd s y):=λz hz=>by
 rw[Np hz,h z hz]
 by_cases hzy:z=y
 ·simp[upd,hzy]
 ·simp[upd,hzy]
def Pm(o:List Nat):List Int:=o.map Int.ofNat
theorem TP{g:C5}(hm:L5 g.Succ=true){s s':Nat->Bool}{l o:List Nat}(hv:VL (sN g.Succ) s l s' o) :
  ∀(R:List Bool) (T st Lf:List Int) (a t:Nat),RelS R s->a<g.Succ.length->l=(sN g.Succ a).drop t->T.getD a 0=(t:Int)->t<=(sN g.Succ a).length->s a=true->(∀ z,z<64->s z=false->T.getD z 0=0)->
   Lf.length+MX 64 s+st.length+1<=64->
   ∃(R':List Bool) (T':List Int),RelS R' s'/\(∀ z,z<64->s' z=false->T'.getD z 0=0)/\(∀ z,z<64->s z=true->z≠a->T'.getD z 0=T.getD z 0)/\Lf.length+o.length+MX 64 s'+st.length+1<=64 /\
    Ai (Cz g) (R,T,st++[(a:Int)],Lf)=if st=[] then some (Lf++Pm o++[(a:Int)]).reverse else Ai (Cz g) (R',T',st,Lf++Pm o++[(a:Int)]):=by
 obtain⟨hL1,hL64,hLok⟩:=mayS_iff.1 hm
 have hlenS:∀ a,(sN g.Succ a).length=(g.Succ.getD a []).length:=λa=>by simp[sN]
 have hdrop:∀(a t y:Nat) (l':List Nat),a<g.Succ.length->y::l'=(sN g.Succ a).drop t->t<(g.Succ.getD a []).length/\(g.Succ.getD a []).getD t 0=(y:Int)/\y<g.Succ.length/\l'=(sN g.Succ a).drop (t+1):=λa t y l' ha he=>by
  have ht:t<(sN g.Succ a).length:=by
   rcases zzL136 t (sN g.Succ a).length with h|h
   ·exact h
   ·rw[List.drop_eq_nil_of_le h]at he;cases he
  rw[Mq ht]at he;simp only[Ch]at he;obtain⟨h1,h2⟩:=he
  have ht':t<(g.Succ.getD a []).length:=by rw[<- hlenS];exact ht
  obtain⟨b0,b1⟩:=Y5 (hLok a ha) ht'
  have h3:(sN g.Succ a)[t]=((g.Succ.getD a []).getD t 0).toNat:=by rw[Aa _ _ _ ht'];simp[sN]
  exact⟨ht',by omega,by omega,h2⟩
 induction hv with
 | nil s=>
  intro R T st Lf a t hR ha hl hT htl hsa hz hc
  have ht:t=(g.Succ.getD a []).length:=by
   have:=B8 List.length hl;simp at this;rw[hlenS]at htl this;omega
  refine⟨R,T,hR,hz,λ_ _ _ _=>rfl,by simpa using hc,?_⟩
  have hF:Cz g (R,T,st++[(a:Int)],Lf)=if st=[] then some (.done (Lf++[(a:Int)]).reverse) else some (.next (R,T,st,Lf++[(a:Int)])):=by
   rw[VH (by omega) (by omega),Ah (fL (by omega) ha hL64 (by rw[hT,ht]))]
   rfl
  by_cases hst:st=[]
  ·rw[if_pos hst]at hF ⊢;rw[Ah hF];simp[Pm]
  ·rw[if_neg hst]at hF ⊢;rw[Am hF];simp[Pm]
 | @skip s s' y l o h tl ih=>
  intro R T st Lf a t hR ha hl hT htl hsa hz hc;obtain⟨h1,h2,h3,h4⟩:=hdrop a t y l ha hl;have hb:=CN (hLok a ha);have hs:=VI (g:=g) (R:=R) (st:=st) (T:=T) (a:=a) (t:=t) (y:=y) (by omega) ha hL64 hT h1 (by omega) h2 h3;rw[hR y (by omega),h,Ae]at hs;obtain⟨R',T',a1,a2,a3,a4,a5⟩:=ih R (Ha 64 (0:Int) T a ((t+1:Nat):Int)) st Lf a (t+1) hR ha h4 (by rw[Np (by omega),if_pos rfl]) (by rw[hlenS];omega) hsa
   (λz hz1 hz2=>by rw[Np hz1,if_neg (by rintro rfl;rw[hsa]at hz2;cases hz2)];exact hz z hz1 hz2) hc
  refine⟨R',T',a1,a2,λz hz1 hz2 hz3=>by rw[a3 z hz1 hz2 hz3,Np hz1,if_neg hz3],a4,?_⟩;rw[<- a5]
  apply TG
  rw[VH (by omega) (by omega),VH (by omega) (by omega),Am hs]
 | @step s s1 s2 y l o1 o2 h tl tr ih1 ih2=>
  intro R T st Lf a t hR ha hl hT htl hsa hz hc;obtain⟨h1,h2,h3,h4⟩:=hdrop a t y l ha hl;have hb:=CN (hLok a ha)
  have hay:y≠a:=by rintro rfl;rw[hsa]at h;cases h
  have hs:=VI (g:=g) (R:=R) (st:=st) (T:=T) (a:=a) (t:=t) (y:=y) (by omega) ha hL64 hT h1 (by omega) h2 h3;rw[hR y (by omega),h,Ax]at hs;have hcu:=Uh (n:=64) (show y<64 by omega) h
  have hF:Cz g (R,T,st++[(a:Int)],Lf)=some (.next (Ha 64 false R y true,Ha 64 (0:Int) T a ((t+1:Nat):Int),(st++[(a:Int)])++[(y:Int)],Lf)):=by
   rw[VH (by omega) (by omega),Ah hs]
   rfl
  obtain⟨R1,T1,b1,b2,b3,b4,b5⟩:=ih1 (Ha 64 false R y true) (Ha 64 (0:Int) T a ((t+1:Nat):Int)) (st++[(a:Int)]) Lf y 0 hR.set h3 (by simp)
   (by rw[Np (by omega),if_neg hay];exact hz y (by omega) h) (Lu _) (upd_true.2 (.inl rfl))
   (λz hz1 hz2=>by
    obtain⟨c1,c2⟩:=upd_false.1 hz2;rw[Np hz1,if_neg (by rintro rfl;rw[hsa]at c2;cases c2)]
    exact hz z hz1 c2) (by rw[Fg,T7];omega)
  rw[if_neg (by simp)]at b5
  have hTa:T1.getD a 0=((t+1:Nat):Int):=by rw[b3 a (by omega) (upd_true.2 (.inr hsa)) (Hq hay),Np (by omega),if_pos rfl]
  rw[Fg,T7]at b4;obtain⟨R2,T2,c1,c2,c3,c4,c5⟩:=ih2 R1 T1 st (Lf++Pm o1++[(y:Int)]) a (t+1) b1 ha h4 hTa (by rw[hlenS];omega) ((tl.seen a).2 (.inl (upd_true.2 (.inr hsa)))) b2
   (by simp only[Fg,T7,Pm,Qg];omega)
  refine⟨R2,T2,c1,c2,λz hz1 hz2 hz3=>?_,?_,?_⟩
  ·rw[c3 z hz1 ((tl.seen z).2 (.inl (upd_true.2 (.inr hz2)))) hz3,b3 z hz1 (upd_true.2 (.inr hz2)) (by rintro rfl;rw[h]at hz2;cases hz2),Np hz1,if_neg hz3]
  ·simp only[Fg,T7,Pm,Qg,Pf]at c4 ⊢;omega
  ·rw[Am hF,b5,c5]
   have e:Lf++Pm o1++[(y:Int)]++Pm o2++[(a:Int)]=Lf++Pm (o1++y::o2)++[(a:Int)]:=by simp[Pm]
   rw[e]
theorem Vo{L:List (List Int)}(h:L5 L=true):∀ z,z<L.length->∀ y∈sN L z,y<L.length:=λz hz y hy=>by
 obtain⟨_,_,h3⟩:=mayS_iff.1 h;obtain⟨x,hx,rfl⟩:=zzL24.1 hy;have:=WM (h3 z hz) hx;omega
theorem f4{r:Nat}(hr:r<64):MX 64 (one r)=63:=by
 have h:=Uh (n:=64) (s:=λ_=>false) hr rfl
 have e:upd (λ_=>false) r=one r:=by funext z;simp[upd,one]
 rw[e]at h
 have:MX 64 (λ_=>false)=64:=by decide
 omega
theorem Oa{α:Type}{n z:Nat}{d:α}:(List.replicate n d).getD z d=d:=by rw[Na,List.getElem?_replicate];split<;>rfl
theorem LP(g:C5)(h:Fits g.Succ)(hP:True)(r:Int) :
  (Yz g=true->0<=r->r<(g.Succ.length:Int)->∀ L,Ord (sN g.Succ) r.toNat L->G8 g r=some (Pm L)) /\
  ((Yz g&&(decide (0<=r)&&decide (r<(g.Succ.length:Int))))=false->G8 g r=some []):=by
 refine⟨λhm h0 h1 L hL=>?_,λhf=>?_⟩
 ·have hms:L5 g.Succ=true:=by unfold Yz at hm;exact(A3 _ _▸hm).1
  obtain⟨hL1,hL64,hLok⟩:=mayS_iff.1 hms;obtain⟨s',o,hv,rfl⟩:=hL;have hrn:((r.toNat:Nat):Int)=r:=Vu h0
  have hr:r.toNat<g.Succ.length:=by omega
  obtain⟨R',T',_,_,_,_,hmain⟩:=TP hms hv (Ha 64 false (List.replicate 64 false) r.toNat true) (List.replicate 64 (0:Int)) [] [] r.toNat 0
   (λz hz=>by rw[Np hz,Oa];by_cases hzr:z=r.toNat<;>simp[one,hzr]) hr (by simp) Oa (Lu _) (by simp[one])
   (λz hz _=>Oa) (by rw[f4 (by omega)];simp)
  rw[if_pos rfl,hrn]at hmain;unfold G8;rw[jF _ h,hm,Aq];simp only[Fp,Qf,Ae,Ax,P1,E7 h0,E7 h1,T4,Aq];rw[Ad ⟨h0,by omega⟩];have hF:∀ X,Ai (Cz g) (Ha 64 false (List.replicate 64 false) r.toNat true,List.replicate 64 (0:Int),[]++[r],[])=some X->
    (Pu (Cz g (Ha 64 false (List.replicate 64 false) r.toNat true,List.replicate 64 (0:Int),[r],[])) (Cz g)).bind (λx=>some x)=some X:=λX hX=>by
   rw[BA];rw[T8]at hX;rw[hX];rfl
  refine(hF _ hmain).trans ?_;simp only[T8,List.reverse_append,Pm,Bu,List.map_reverse,List.reverse_cons,List.reverse_nil]
  simp
  omega
 ·unfold G8;rw[jF _ h,Aq]
  cases hm:Yz g with
  | false=>rfl
  | true=>
   rw[hm,Hd]at hf;simp only[Fp,Qf,Ae,Ax,P1,hf,Aq,Ms]
   rfl
def RelN(n:Nat)(R:List Bool)(s:Nat->Bool):Prop:=R.length=n/\∀ z,z<n->R.getD z false=s z
theorem RelN.set{n:Nat}{R:List Bool}{s:Nat->Bool}(h:RelN n R s){y:Nat}(hy:y<n):RelN n (R.set y true) (upd s y):=by
 refine⟨by rw[Ib];exact h.1,λz hz=>?_⟩;rw[Na,List.getElem?_set]
 by_cases hzy:y=z
 ·subst hzy;simp[upd,h.1,hy]
 ·rw[if_neg hzy,<- Na,h.2 z hz];simp[upd,Hq hzy]
theorem L6:∀(n:Nat) (l:List Nat),l.Nodup->(∀ x∈l,x<n)->l.length<=n
 | 0,l,_,h=>by
  cases l with
  | nil=>simp
  | cons x l=>have:=h x (Kq ..);omega
 | n+1,l,hd,h=>by
  by_cases hn:n∈l
  ·have h1:=L6 n (l.erase n) (hd.erase n) λx hx=>by
    have h2:=(hd.mem_erase_iff).1 hx;have:=h x h2.2;have:=h2.1;omega
   rw[List.length_erase_of_mem hn]at h1;omega
  ·have h1:=L6 n l hd λx hx=>by
    have:=h x hx
    have:x≠n:=by rintro rfl;exact hn hx
    omega
   omega
theorem dH{p:Nat->Bool}{n:Nat}{x:Int}:x∈((List.range n).filter p).map Int.ofNat↔∃ k:Nat,x=(k:Int)/\k<n/\p k=true:=by
 simp only[zzL24,zzL66,zzL41]
 constructor
 ·rintro⟨k,⟨h1,h2⟩,rfl⟩;exact⟨k,rfl,h1,h2⟩
 ·rintro⟨k,rfl,h1,h2⟩;exact⟨k,⟨h1,h2⟩,rfl⟩
theorem ce{L:List (List Int)}{k i:Nat}:AH L k i=true↔(i:Int)∈L.getD k []:=by unfold AH;rw[GF]
def mk(o:List Bool)(l:List Nat):List Bool:=l.foldl (λo y=>o.set y true) o
theorem kF(l:List Nat):∀ o:List Bool,(mk o l).length=o.length:=by
 induction l with
 | nil=>intro o;rfl
 | cons y l ih=>intro o;show(mk (o.set y true) l).length=_;rw[ih,Ib]
theorem mk_at{n:Nat}(l:List Nat):∀(o:List Bool),o.length=n->(∀ y∈l,y<n)->∀ z,(mk o l).getD z false=true↔o.getD z false=true\/z∈l:=by
 induction l with
 | nil=>intro o _ _ z;simp[mk]
 | cons y l ih=>
  intro o ho hl z
  show(mk (o.set y true) l).getD z false=true↔_
  rw[ih (o.set y true) (by rw[Ib];exact ho) (λu hu=>hl u (F3 _ hu)) z];have hy:=hl y (Kq ..)
  have e:(o.set y true).getD z false=true↔o.getD z false=true\/z=y:=by
   rw[Na,List.getElem?_set,Na]
   by_cases h:y=z
   ·subst h;simp[ho,hy]
   ·simp[h,Hq h]
  rw[e,zzL22]
  constructor
  ·rintro((h|h)|h)
   ·exact .inl h
   ·exact .inr (.inl h)
   ·exact .inr (.inr h)
  ·rintro(h|h|h)
   ·exact .inl (.inl h)
   ·exact .inl (.inr h)
   ·exact .inr h
def sw(S:Nat->List Nat)(o:List Bool):Nat->List Bool
 | 0=>o
 | i+1=>if(sw S o i).getD i false=true then mk (sw S o i) (S i) else sw S o i
def JI(S:Nat->List Nat)(n:Nat)(o:List Bool):Nat->List Bool
 | 0=>o
 | j+1=>sw S (JI S n o j) n
section
variable {S:Nat->List Nat} {n:Nat} (hS:∀ z,z<n->∀ y∈S z,y<n)
theorem Zi(o:List Bool):∀ i,(sw S o i).length=o.length:=by
 intro i
 induction i with
 | zero=>rfl
 | succ i ih=>unfold sw;split;rw[kF,ih];exact ih
theorem iB(o:List Bool):∀ j,(JI S n o j).length=o.length:=by
 intro j
 induction j with
 | zero=>rfl
 | succ j ih=>unfold JI;rw[Zi,ih]
include hS
theorem CW{o:List Bool}(ho:o.length=n):∀ i,i<=n->∀ z,o.getD z false=true->(sw S o i).getD z false=true:=by
 intro i
 induction i with
 | zero=>intro _ z h;exact h
 | succ i ih=>
  intro hi z h;unfold sw
  split
  ·exact(mk_at (n:=n) _ _ (by rw[Zi];exact ho) (hS i (by omega)) z).2 (.inl (ih (by omega) z h))
  ·exact ih (by omega) z h
theorem d9{o:List Bool}{r:Nat}(ho:o.length=n)(h:∀ z,o.getD z false=true->Rch S r z):∀ i,i<=n->∀ z,(sw S o i).getD z false=true->Rch S r z:=by
 intro i
 induction i with
 | zero=>intro _ z hz;exact h z hz
 | succ i ih=>
  intro hi z hz;unfold sw at hz
  split at hz
  ·rename_i hsi
   rcases(mk_at (n:=n) _ _ (by rw[Zi];exact ho) (hS i (by omega)) z).1 hz with h1|h1
   ·exact ih (by omega) z h1
   ·exact(ih (by omega) i hsi).tail h1
  ·exact ih (by omega) z hz
theorem iQ{o:List Bool}(ho:o.length=n):∀ i,i<=n->∀ j,j<i->o.getD j false=true->∀ y∈S j,(sw S o i).getD y false=true:=by
 intro i
 induction i with
 | zero=>intro _ j hj;omega
 | succ i ih=>
  intro hi j hj hoj y hy;unfold sw
  by_cases hji:j=i
  ·subst hji;have h1:=CW hS ho j (by omega) j hoj;rw[if_pos h1];exact(mk_at (n:=n) _ _ (by rw[Zi];exact ho) (hS j (by omega)) y).2 (.inr hy)
  ·have h1:=ih (by omega) j (by omega) hoj y hy
   split
   ·exact(mk_at (n:=n) _ _ (by rw[Zi];exact ho) (hS i (by omega)) y).2 (.inl h1)
   ·exact h1
theorem ai{o:List Bool}(ho:o.length=n)(hc:∀ j,j<n->o.getD j false=true->∀ y∈S j,o.getD y false=true):∀ i,i<=n->∀ z,(sw S o i).getD z false=true->o.getD z false=true:=by
 intro i
 induction i with
 | zero=>intro _ z h;exact h
 | succ i ih=>
  intro hi z hz;unfold sw at hz
  split at hz
  ·rename_i hsi
   rcases(mk_at (n:=n) _ _ (by rw[Zi];exact ho) (hS i (by omega)) z).1 hz with h1|h1
   ·exact ih (by omega) z h1
   ·exact hc i (by omega) (ih (by omega) i hsi) z h1
  ·exact ih (by omega) z hz
theorem Xx{r:Nat}(hr:r<n)(z:Nat):(JI S n ((List.replicate n false).set r true) n).getD z false=true↔Rch S r z:=by
 let o0:=(List.replicate n false).set r true
 have ho0:o0.length=n:=by simp[o0]
 have hat0:∀ z,o0.getD z false=true↔z=r:=λz=>by
  show((List.replicate n false).set r true).getD z false=true↔z=r
  rw[Na,List.getElem?_set]
  by_cases h:r=z
  ·subst h;simp[hr]
  ·rw[if_neg h,<- Na,Oa];simp[Hq h]
 have hlen:∀ j,(JI S n o0 j).length=n:=λj=>by rw[iB,ho0]
 have hsound:∀ j z,(JI S n o0 j).getD z false=true->Rch S r z:=by
  intro j
  induction j with
  | zero=>intro z hz;rw[(hat0 z).1 hz];exact .refl _
  | succ j ih=>intro z hz;exact d9 hS (hlen j) ih n (zzL8 _) z hz
 have hmono:∀ j,∀ z,o0.getD z false=true->(JI S n o0 j).getD z false=true:=by
  intro j
  induction j with
  | zero=>intro z h;exact h
  | succ j ih=>intro z h;exact CW hS (hlen j) n (zzL8 _) z (ih z h)
 let C:Nat->Prop:=λj=>∀ i,i<n->(JI S n o0 j).getD i false=true->∀ y∈S i,(JI S n o0 j).getD y false=true
 have key:∀ j,C j\/MX n (λz=>(JI S n o0 j).getD z false)+j+1<=n:=by
  intro j
  induction j with
  | zero=>
   refine .inr ?_;have h1:=Uh (n:=n) (s:=λ_=>false) hr rfl
   have e:upd (λ_=>false) r=λz=>(JI S n o0 0).getD z false:=by
    funext z
    rw[Mr,upd_true]
    show _↔o0.getD z false=true
    rw[hat0]
    simp
   rw[e]at h1
   have hcl:MX n (λ_=>false)=n:=by
    unfold MX;rw[List.filter_eq_self.2 (by simp)]
    simp
   omega
  | succ j ih=>
   by_cases hc:C j
   ·refine .inl λi hi h y hy=>?_;have h1:=ai hS (hlen j) hc n (zzL8 _) i h;exact CW hS (hlen j) n (zzL8 _) y (hc i hi h1 y hy)
   ·rcases ih with ih|ih
    ·exact(hc ih).elim
    ·refine .inr ?_
     have hex:∃ i,i<n/\(JI S n o0 j).getD i false=true/\∃ y,y∈S i/\(JI S n o0 j).getD y false=false:=by
      simp only[C]at hc;simp only[Classical.not_forall]at hc;obtain⟨i,hi,h1,y,hy,h2⟩:=hc;exact⟨i,hi,h1,y,hy,by simpa using h2⟩
     obtain⟨i,hi,h1,y,hy,h2⟩:=hex;have h3:=iQ hS (hlen j) n (zzL8 _) i hi h1 y hy;have hyn:=hS i hi y hy;have h4:=Uh (n:=n) (s:=λz=>(JI S n o0 j).getD z false) hyn h2
     have h5:MX n (λz=>(JI S n o0 (j+1)).getD z false)<=MX n (upd (λz=>(JI S n o0 j).getD z false) y):=NT λz hz=>by
      rcases upd_true.1 hz with rfl|hz
      ·exact h3
      ·exact CW hS (hlen j) n (zzL8 _) z hz
     omega
 have hC:C n:=by
  rcases key n with h|h
  ·exact h
  ·omega
 constructor
 ·exact hsound n z
 ·intro hrch
  have hlt:∀ x z,Rch S x z->x<n->z<n/\((JI S n o0 n).getD x false=true->(JI S n o0 n).getD z false=true):=by
   intro x z hxz
   induction hxz with
   | refl x=>exact λhx=>⟨hx,id⟩
   | @head x y z hy _ ih=>
    intro hx;have:=ih (hS x hx y hy);exact⟨this.1,λh=>this.2 (hC x hx h y hy)⟩
  exact(hlt r z hrch hr).2 (hmono n r ((hat0 r).2 rfl))
end
def pos:List Nat->Nat->Nat
 | [],_=>0
 | x::l,z=>if x=z then 0 else pos l z+1
theorem FG(x:Nat)(l:List Nat)(z:Nat):pos (x::l) z=if x=z then 0 else pos l z+1:=rfl
theorem g8{A l:List Nat}{z:Nat}(h:z∉A):pos (A++l) z=A.length+pos l z:=by
 induction A with
 | nil=>simp
 | cons x A ih=>
  have h1:x≠z:=λe=>h (by rw[e];exact Kq ..);have h2:z∉A:=λe=>h (F3 _ e);rw[BH,FG,if_neg h1,ih h2,Pf];omega
theorem CP{P:List Nat}(hd:P.Nodup){i:Nat}(hi:i<P.length):P[i]∉P.take i/\pos P P[i]=i:=by
 have e:P=P.take i++P[i]::P.drop (i+1):=by rw[<- Mq hi,List.take_append_drop]
 have hn:P[i]∉P.take i:=by
  rw[e]at hd;have:=(List.nodup_append.1 hd).2.2;exact λhm=>this _ hm _ (Kq ..) rfl
 refine⟨hn,?_⟩
 have h2:pos (P.take i++P[i]::P.drop (i+1)) P[i]=i:=by
  rw[g8 hn]
  have:pos (P[i]::P.drop (i+1)) P[i]=0:=by rw[FG,if_pos rfl]
  rw[this,Wo];omega
 rw[<- e]at h2;exact h2
theorem NV(d:Array Int)(hs:∀ i j,i<=j->j<d.size->d[i]!<=d[j]!):∀ m,m<=d.size->(∀ x∈Lib.compactUpTo d m,∃ j,j<m/\x=d[j]!)/\(∀ j,j<m->d[j]!∈Lib.compactUpTo d m)/\(Lib.compactUpTo d m).Pairwise (·<·):=by
 intro m
 induction m with
 | zero=>intro _;exact⟨(λx hx=>by simp[Lib.compactUpTo]at hx),(λj hj=>by omega),by simp[Lib.compactUpTo]⟩
 | succ m ih=>
  intro hm;obtain⟨h1,h2,h3⟩:=ih (by omega);rw[Lib.compactUpTo_succ]
  cases hk:Lib.keeps d m with
  | true=>
   rw[if_pos rfl];refine⟨λx hx=>?_,λj hj=>?_,?_⟩
   ·rcases zzL11.1 hx with h|h
    ·obtain⟨j,hj,he⟩:=h1 x h;exact⟨j,by omega,he⟩
    ·exact⟨m,by omega,by simpa using h⟩
   ·by_cases hjm:j=m
    ·subst hjm;simp
    ·exact zzL11.2 (.inl (h2 j (by omega)))
   ·rw[zzL126];refine⟨h3,List.pairwise_singleton _ _,λx hx y hy=>?_⟩;obtain⟨j,hj,rfl⟩:=h1 x hx
    have hy':y=d[m]!:=by simpa using hy
    subst hy'
    have hk':m=0\/d[m]!≠d[m-1]!:=by simpa [Lib.keeps] using hk
    rcases hk' with h0|h0
    ·omega
    ·have a1:=hs j (m-1) (by omega) (by omega);have a2:=hs (m-1) m (by omega) (by omega);omega
  | false=>
   have hk':m≠0/\d[m]! = d[m-1]!:=by
    have:¬ (m=0\/d[m]!≠d[m-1]!):=by
     intro h
     have:Lib.keeps d m=true:=by simpa [Lib.keeps] using h
     rw[hk]at this;cases this
    exact⟨λh=>this (.inl h),Classical.not_not.1 λh=>this (.inr h)⟩
   simp only[X8,E2,List.append_nil];refine⟨λx hx=>by obtain⟨j,hj,he⟩:=h1 x hx;exact⟨j,by omega,he⟩,λj hj=>?_,h3⟩
   by_cases hjm:j=m
   ·subst hjm;rw[hk'.2];exact h2 _ (by omega)
   ·exact h2 j (by omega)
def FP(l:List Int):List Int:=Lib.compact (l.mergeSort λx y=>decide (x<=y))
theorem ZZ(l:List Int):(FP l).Pairwise (·<·)/\∀ x,x∈FP l↔x∈l:=by
 unfold FP Lib.compact;have hp:(l.mergeSort λx y=>decide (x<=y)).Pairwise (λa b=>decide (a<=b)=true):=List.pairwise_mergeSort (λa b c h1 h2=>by simp at *;omega) (λa b=>by simp;omega) l;have hm:∀ x,x∈(l.mergeSort λx y=>decide (x<=y))↔x∈l:=λx=>List.mem_mergeSort
 generalize l.mergeSort (λx y=>decide (x<=y))=z at hp hm ⊢
 have hz:∀ j,j<z.length->z.toArray[j]! = z.getD j 0:=λj hj=>by simp[List.getD,hj]
 obtain⟨h1,h2,h3⟩:=NV z.toArray (λi j hij hj=>by
  have hj':j<z.length:=by simpa using hj
  rw[hz i (by omega),hz j hj']
  by_cases he:i=j
  ·rw[he];exact Int.le_refl _
  ·have:=(zzL100.1 hp) i j (by omega) hj' (by omega);rw[Aa _ _ _ (by omega),Aa _ _ _ hj']
   simpa using this) z.length (by simp)
 refine⟨h3,λx=>?_⟩;rw[<- hm x]
 constructor
 ·intro hx;obtain⟨j,hj,rfl⟩:=h1 x hx;rw[hz j hj];exact getD_mem hj
 ·intro hx;obtain⟨j,hj,rfl⟩:=Ls hx;have:=h2 j hj;rwa[hz j hj,Aa _ _ _ hj]at this
def jT(n:Nat)(l:List Int):Bool:=(List.range l.length).all λi=>decide (0<l.getD i 0)&&decide (l.getD i 0<(n:Int))
def jU(k:Int):Int:=([0,1,2,0]:List Int).getD k.toNat 0
def OL(e:Ju):Bool:=(decide (0<=e.Kind)&&decide (e.Kind<=3))&&decide ((e.To.length:Int)=jU e.Kind)
def Ny(e:Ju)(n:Nat):Bool:=OL e&&jT n e.To
theorem toB_iff{n:Nat}{l:List Int}:jT n l=true↔∀ x∈l,0<x/\x<n:=by
 unfold jT;rw[all_range];simp only[A3,Ds]
 constructor
 ·intro h x hx;obtain⟨i,hi,rfl⟩:=Ls hx;have:=h i hi;rwa[Aa _ _ _ hi]at this
 ·intro h i hi;exact h _ (getD_mem hi)
theorem cS(e:Ju)(n:Nat)(hl:e.To.length<4611686018427387904):Ai (B5 e (n:Int)) (0:Int)=some (bif jT n e.To then .inl () else .inr false):=by
 have step:∀ j:Nat,j<e.To.length->B5 e (n:Int) (j:Int)=bif (decide (0<e.To.getD j 0)&&decide (e.To.getD j 0<(n:Int))) then some (.next (((j+1:Nat):Int))) else some (.done (.inr false)):=λj hj=>by
  unfold B5;simp only[Aw,E8 hj,Ae,P1,w1 (show j<4611686018427387904 by omega)];rw[Ad (Hh hj)]
  by_cases h0:e.To.getD j 0=0
  ·rw[h0];rfl
  ·have:(e.To.getD j 0==0)=false:=by rw[zzL23];exact h0
   rw[this];simp only[Qf,Ae,Ax,Aq]
   have e1:decide (0<e.To.getD j 0)=decide (0<=e.To.getD j 0):=by apply zzL109.2;omega
   rw[e1]
   cases(decide (0<=e.To.getD j 0)&&decide (e.To.getD j 0<(n:Int)))<;>rfl
 have:=Nt (B5 e (n:Int)) (λj=>((j:Nat):Int)) (λi=>decide (0<e.To.getD i 0)&&decide (e.To.getD i 0<(n:Int))) (.inl ()) (.inr false) e.To.length (λj hj hp=>?_) (λj hj hp=>?_) ?_
 ·exact this
 ·show B5 e (n:Int) (j:Int)=_
  rw[step j hj,hp];rfl
 ·show B5 e (n:Int) (j:Int)=_
  rw[step j hj,hp];rfl
 ·show B5 e (n:Int) _=_
  unfold B5;simp only[Jw,Ax]
theorem W6(e:Ju)(n:Nat)(w:Int)(hw:0<=w/\w<=2) :
  (bif ((e.To.length:Int)!=w) then(some false) else((Ai (B5 e (n:Int)) (0:Int)).bind (λx10=>(match x10 with|(.inl _)=>(some true)|(.inr r12)=>(some r12)))))=some (decide ((e.To.length:Int)=w)&&jT n e.To):=by
 by_cases h:(e.To.length:Int)=w
 ·rw[show((e.To.length:Int)!=w)=false by simpa using h,Ax,cS e n (by omega),E7 h]
  cases jT n e.To<;>rfl
 ·rw[show((e.To.length:Int)!=w)=true by simpa using h,Ae,Fo h];rfl
theorem ZG(e:Ju)(n:Nat):J8 e (n:Int)=some (Ny e n):=by
 unfold J8 Ny OL
 by_cases h0:e.Kind=0
 ·rw[h0];exact W6 e n 0 (by omega)
 by_cases h1:e.Kind=1
 ·rw[h1];exact W6 e n 1 (by omega)
 by_cases h2:e.Kind=2
 ·rw[h2];exact W6 e n 2 (by omega)
 by_cases h3:e.Kind=3
 ·rw[h3];exact W6 e n 0 (by omega)
 have e0:(e.Kind==0)=false:=by rw[zzL23];exact h0
 have e1:(e.Kind==1)=false:=by rw[zzL23];exact h1
 have e2:(e.Kind==2)=false:=by rw[zzL23];exact h2
 have e3:(e.Kind==3)=false:=by rw[zzL23];exact h3
 rw[e0,e1,e2,e3]
 have:(decide (0<=e.Kind)&&decide (e.Kind<=3))=false:=by
  by_cases h:0<=e.Kind
  ·rw[Fo (show ¬ e.Kind<=3 by omega)];simp
  ·rw[Fo h];rfl
 rw[this]
 rfl
theorem cW{e:Ju}{n:Nat}(h:Ny e n=true):e.To.length<=2:=by
 unfold Ny OL at h;simp only[A3,Ds]at h;obtain⟨⟨⟨h0,h1⟩,h2⟩,_⟩:=h
 have:jU e.Kind<=2:=by
  have:e.Kind=0\/e.Kind=1\/e.Kind=2\/e.Kind=3:=by omega
  rcases this with h|h|h|h<;>rw[h]<;>decide
 omega
theorem f9{e:Ju}{n:Nat}(h:Ny e n=true):jT n e.To=true:=by unfold Ny at h;exact(A3 _ _▸h).2
def Nx(f:Ab)(i:Nat):Ju:=(f.Blocks.getD i (default:An)).End
def Ey(f:Ab):List (List Int):=(List.range f.Blocks.length).map λi=>FP (Nx f i).To
def Od(f:Ab):Bool:=(decide (1<=f.Blocks.length)&&decide (f.Blocks.length<=64))&&(List.range f.Blocks.length).all λi=>Ny (Nx f i) f.Blocks.length
theorem shape_iff{f:Ab}:Od f=true↔(1<=f.Blocks.length/\f.Blocks.length<=64)/\∀ i,i<f.Blocks.length->Ny (Nx f i) f.Blocks.length=true:=by
 unfold Od;rw[A3,A3,all_range];simp only[Ds]
theorem iI{f:Ab}{i:Nat}(h:Ny (Nx f i) f.Blocks.length=true):fG f.Blocks.length (FP (Nx f i).To)=true:=by
 obtain⟨h1,h2⟩:=ZZ (Nx f i).To;exact kH (λx hx=>by have:=(toB_iff.1 (f9 h)) x ((h2 x).1 hx);omega) h1
theorem Tk{f:Ab}(h:Od f=true):L5 (Ey f)=true:=by
 obtain⟨⟨h1,h2⟩,h3⟩:=shape_iff.1 h
 have hl:(Ey f).length=f.Blocks.length:=by simp[Ey]
 refine mayS_iff.2 ⟨by omega,by omega,λi hi=>?_⟩;rw[hl]at hi ⊢;unfold Ey;rw[Qz hi];exact iI (h3 i hi)
theorem nb(f:Ab)(hf:f.Blocks.length<=maxLen):Rf f=some (bif Od f then(Yk (Ey f),0) else(g0,5)):=by
 have hroom:(1000:Nat)<=room:=by decide
 unfold Rf;rw[IR,Aq];have hsh:Od f=((decide (1<=f.Blocks.length)&&decide (f.Blocks.length<=64))&&(List.range f.Blocks.length).all λi=>Ny (Nx f i) f.Blocks.length):=rfl
 cases hc:(decide (1<=f.Blocks.length)&&decide (f.Blocks.length<=64)) with
 | false=>rw[hsh,hc];rfl
 | true=>
  have hc':=hc;simp only[A3,Ds]at hc';simp only[Fp,Ax];rw[Ad ⟨by omega,Int.le_refl _,by omega⟩,Aw]
  let U:Nat->List (List Int):=λi=>(List.range f.Blocks.length).map λj=>if j<i then FP (Nx f j).To else[]
  have e0:List.replicate f.Blocks.length ([]:List Int)=U 0:=by
   simp only[U]
   apply List.ext_getElem?
   intro j
   by_cases hj:j<f.Blocks.length<;>simp[hj,List.getElem?_replicate]
  have eN:U f.Blocks.length=Ey f:=by
   simp only[U,Ey]
   apply P2
   intro j hj;rw[if_pos hj]
  rw[e0]
  have hstep:∀ i:Nat,i<f.Blocks.length->E6 f ((i:Int),U i)=bif Ny (Nx f i) f.Blocks.length then some (.next (((i+1:Nat):Int),U (i+1))) else some (.done (.inr (g0,5))):=λi hi=>by
   unfold E6;simp only[E8 hi,Ae,Aw];rw[Ad (Hh hi)];have he:(⟨(f.Blocks.getD i (default:An)).End.Kind,(f.Blocks.getD i (default:An)).End.Arg,(f.Blocks.getD i (default:An)).End.To⟩:Ju)=Nx f i:=rfl;rw[he,ZG,Aq]
   cases hfit:Ny (Nx f i) f.Blocks.length with
   | false=>rfl
   | true=>
    have hl2:=cW hfit;simp only[Fp,Ax,Ae]
    have hx:X6 (f.Blocks.getD i (default:An)).End.To=some (FP (Nx f i).To):=by
     unfold X6;rw[WE,Ad (by show(Nx f i).To.length<=_;omega)]
     rfl
    rw[hx,Aq,Ad (Hh (by simp[U];omega)),w1 (by omega)]
    congr 3
    simp only[U];rw[MJ]
    apply P2
    intro j hj
    by_cases h1:j=i
    ·subst h1;rw[if_pos rfl,if_pos (by omega)]
    ·rw[if_neg h1]
     by_cases h2:j<i
     ·rw[if_pos h2,if_pos (by omega)]
     ·rw[if_neg h2,if_neg (by omega)]
  have:=Nt (E6 f) (λi=>(((i:Nat):Int),U i)) (λi=>Ny (Nx f i) f.Blocks.length) (.inl (U f.Blocks.length)) (.inr (g0,5)) f.Blocks.length (λi hi hp=>?_) (λi hi hp=>?_) ?_
  ·rw[show Ai (E6 f) ((0:Int),U 0)=_ from this,hsh,hc,eN,Hd]
   cases hall:(List.range f.Blocks.length).all λi=>Ny (Nx f i) f.Blocks.length with
   | false=>rfl
   | true=>
    simp only[Ae,Aq];rw[OV _ (Tk (by rw[hsh,hc,hall];rfl))]
    rfl
  ·show E6 f (_,_)=_
   rw[hstep i hi,hp];rfl
  ·show E6 f (_,_)=_
   rw[hstep i hi,hp];rfl
  ·show E6 f (_,_)=_
   unfold E6;simp only[Jw,Ax]
inductive Rc (S:Nat->List Nat) (r:Nat):Nat->Prop
 | root:Rc S r r
 | step {x y:Nat} (h:Rc S r x) (hy:y∈S x):Rc S r y
inductive Av (S:Nat->List Nat) (r z:Nat):Nat->Prop
 | root (h:r≠z):Av S r z r
 | step {x y:Nat} (h:Av S r z x) (hy:y∈S x) (hz:y≠z):Av S r z y
inductive AvN (S:Nat->List Nat) (r z:Nat):Nat->Nat->Prop
 | root (h:r≠z) (k:Nat):AvN S r z k r
 | step {k x y:Nat} (h:AvN S r z k x) (hy:y∈S x) (hz:y≠z):AvN S r z (k+1) y
section
variable {S:Nat->List Nat} {r:Nat}
theorem rc_iff{x:Nat}:Rc S r x↔Rch S r x:=by
 constructor
 ·intro h
  induction h with
  | root=>exact .refl _
  | step _ hy ih=>exact ih.tail hy
 ·intro h
  have key:∀ a b,Rch S a b->Rc S r a->Rc S r b:=by
   intro a b hab
   induction hab with
   | refl x=>exact id
   | head hy _ ih=>exact λha=>ih (.step ha hy)
  exact key _ _ h .root
def wo(S:Nat->List Nat)(z:Nat):Nat->List Nat:=λx=>(S x).filter λy=>decide (y≠z)
theorem av_iff{z x:Nat}:Av S r z x↔r≠z/\Rch (wo S z) r x:=by
 constructor
 ·intro h
  induction h with
  | root h=>exact⟨h,.refl _⟩
  | step _ hy hz ih=>exact⟨ih.1,ih.2.tail (zzL66.2 ⟨hy,by simpa using hz⟩)⟩
 ·rintro⟨hr,h⟩
  have key:∀ a b,Rch (wo S z) a b->Av S r z a->Av S r z b:=by
   intro a b hab
   induction hab with
   | refl x=>exact id
   | head hy _ ih=>
    obtain⟨h1,h2⟩:=zzL66.1 hy;exact λha=>ih (.step ha h1 (by simpa using h2))
  exact key _ _ h (.root hr)
theorem Av.rc{z x:Nat}(h:Av S r z x):Rc S r x:=by
 induction h with
 | root _=>exact .root
 | step _ hy _ ih=>exact .step ih hy
theorem Av.ne{z x:Nat}(h:Av S r z x):x≠z:=by
 cases h with
 | root h=>exact h
 | step _ _ hz=>exact hz
theorem AvN.av{z k x:Nat}(h:AvN S r z k x):Av S r z x:=by
 induction h with
 | root h=>exact .root h
 | step _ hy hz ih=>exact .step ih hy hz
theorem AvN.up{z k x:Nat}(h:AvN S r z k x):AvN S r z (k+1) x:=by
 induction h with
 | root h k=>exact .root h _
 | step _ hy hz ih=>exact .step ih hy hz
theorem AvN.mono{z k m x:Nat}(h:AvN S r z k x)(hm:k<=m):AvN S r z m x:=by
 obtain⟨d,rfl⟩:=Nat.exists_eq_add_of_le hm;clear hm
 induction d with
 | zero=>exact h
 | succ d ih=>exact ih.up
theorem Av.avn{z x:Nat}(h:Av S r z x):∃ k,AvN S r z k x:=by
 induction h with
 | root h=>exact⟨0,.root h 0⟩
 | step _ hy hz ih=>obtain⟨k,hk⟩:=ih;exact⟨k+1,.step hk hy hz⟩
theorem AvN.via {z k x : Nat} (h : AvN S r z k x) (y : Nat) : AvN S r y k x ∨ AvN S r z k y := by
  induction h with
  | root h k => by_cases hy : r = y
                · subst hy; exact .inr (.root h _)
                · exact .inl (.root hy _)
  | @step k x w h hy hz ih =>
    rcases ih with h1 | h1
    · by_cases hw : w = y
      · subst hw; exact .inr (.step h hy hz)
      · exact .inl (.step h1 hy hw)
    · exact .inr h1.up
theorem YD(n:Nat):∃ K,∀ z,z<n->∀ x,x<n->Av S r z x->AvN S r z K x:=by
 have one:∀ z m,∃ K,∀ x,x<m->Av S r z x->AvN S r z K x:=by
  intro z m
  induction m with
  | zero=>exact⟨0,λx hx=>absurd hx (Nc x)⟩
  | succ m ih=>
   obtain⟨K,hK⟩:=ih
   by_cases h:Av S r z m
   ·obtain⟨k,hk⟩:=h.avn;refine⟨max K k,λx hx ha=>?_⟩;rcases zzL117.1 hx with h1|rfl
    ·exact(hK x h1 ha).mono (Nat.le_max_left ..)
    ·exact hk.mono (Nat.le_max_right ..)
   ·refine⟨K,λx hx ha=>?_⟩;rcases zzL117.1 hx with h1|rfl
    ·exact hK x h1 ha
    ·exact absurd ha h
 have two:∀ m,∃ K,∀ z,z<m->∀ x,x<n->Av S r z x->AvN S r z K x:=by
  intro m
  induction m with
  | zero=>exact⟨0,λx hx=>absurd hx (Nc x)⟩
  | succ m ih=>
   obtain⟨K,hK⟩:=ih;obtain⟨k,hk⟩:=one m n;refine⟨max K k,λz hz x hx ha=>?_⟩;rcases zzL117.1 hz with h1|rfl
   ·exact(hK z h1 x hx ha).mono (Nat.le_max_left ..)
   ·exact(hk x hx ha).mono (Nat.le_max_right ..)
 exact two n
end
inductive UpTo (par:Nat->Int):Nat->Nat->Prop
 | refl (x:Nat):UpTo par x x
 | up {x y z:Nat} (h:par x=(y:Int)) (t:UpTo par y z):UpTo par x z
inductive Fw (S:Nat->List Nat) (at_:Nat->Nat) (u:Nat):Nat->Prop
 | refl:Fw S at_ u u
 | step {v w:Nat} (h:Fw S at_ u v) (hw:w∈S v) (hl:at_ v<at_ w):Fw S at_ u w
section
variable {S:Nat->List Nat} {at_:Nat->Nat} {par:Nat->Int}
theorem Fw.le{u w:Nat}(h:Fw S at_ u w):at_ u<=at_ w:=by
 induction h with
 | refl=>exact zzL8 _
 | step _ _ hl ih=>omega
theorem Fw.trans{u v w:Nat}(h:Fw S at_ u v)(k:Fw S at_ v w):Fw S at_ u w:=by
 induction k with
 | refl=>exact h
 | step _ hw hl ih=>exact .step ih hw hl
theorem Fw.av{r d u w:Nat}(h:Fw S at_ u w)(ha:Av S r d u)(hd:at_ d<at_ u):Av S r d w:=by
 induction h with
 | refl=>exact ha
 | @step v w h hw hl ih=>exact .step ih hw (by rintro rfl;have:=h.le;omega)
theorem UpTo.trans{x y z:Nat}(h:UpTo par x y)(k:UpTo par y z):UpTo par x z:=by
 induction h with
 | refl x=>exact k
 | up h _ ih=>exact .up h (ih k)
theorem anc_up{x p z:Nat}(h:par x=(p:Int)):UpTo par x z↔z=x\/UpTo par p z:=by
 constructor
 ·intro k
  cases k with
  | refl=>exact .inl rfl
  | up h' t=>rw[h]at h';cases Vw h';exact .inr t
 ·rintro(rfl|k)
  ·exact .refl _
  ·exact .up h k
theorem CB{x z:Nat}(h:∀ p:Nat,par x≠(p:Int)):UpTo par x z↔z=x:=by
 constructor
 ·intro k
  cases k with
  | refl=>rfl
  | up h' t=>exact absurd h' (h _)
 ·rintro rfl;exact .refl _
structure Inv(S:Nat->List Nat)(r n:Nat)(at_:Nat->Nat)(par:Nat->Int):Prop where
 top:par r = -1
 kind:∀ x,x<n->par x = -2\/x=r\/∃ z:Nat,par x=(z:Int)
 up:∀ x,x<n->∀ z:Nat,par x=(z:Int)->z<n/\par z≠-2/\at_ z<at_ x/\Fw S at_ z x
 rc:∀ x,x<n->par x≠-2->Rc S r x
 all:∀ x,x<n->par x≠-2->∀ d,¬ UpTo par x d->Av S r d x
end
section
variable {S:Nat->List Nat} {at_:Nat->Nat} {par:Nat->Int} {r n:Nat}
theorem Inv.anc(h:Inv S r n at_ par){x z:Nat}(k:UpTo par x z)(hx:x<n)(hp:par x≠-2):z<n/\par z≠-2/\at_ z<=at_ x/\Fw S at_ z x:=by
 induction k with
 | refl x=>exact⟨hx,hp,zzL8 _,.refl⟩
 | @up x y z hxy t ih=>
  obtain⟨h1,h2,h3,h4⟩:=h.up x hx y hxy;obtain⟨i1,i2,i3,i4⟩:=ih h1 h2;exact⟨i1,i2,by omega,i4.trans h4⟩
theorem Inv.root_anc(h:Inv S r n at_ par){z:Nat}:UpTo par r z↔z=r:=CB λp hp=>by rw[h.top]at hp;omega
theorem Inv.strict(h:Inv S r n at_ par){x z:Nat}(k:UpTo par x z)(hx:x<n)(hp:par x≠-2):z=x\/at_ z<at_ x:=by
 cases k with
 | refl=>exact .inl rfl
 | up hxy t=>
  obtain⟨h1,h2,h3,h4⟩:=h.up x hx _ hxy;obtain⟨i1,i2,i3,i4⟩:=h.anc t h1 h2;exact .inr (by omega)
theorem Inv.antisymm(h:Inv S r n at_ par){x z:Nat}(k:UpTo par x z)(m:UpTo par z x)(hx:x<n)(hp:par x≠-2):z=x:=by
 rcases h.strict k hx hp with rfl|h1
 ·rfl
 ·obtain⟨i1,i2,i3,i4⟩:=h.anc k hx hp;have:=(h.anc m i1 i2).2.2.1;omega
def MeetAt(par:Nat->Int)(a b m:Nat):Prop:=∀ w,UpTo par m w↔UpTo par a w/\UpTo par b w
theorem IU{a:Nat}:MeetAt par a a a:=λw=>by simp
theorem ZM{a b m:Nat}(h:MeetAt par a b m):MeetAt par b a m:=λw=>by rw[h w];exact And.comm
theorem Inv.meet_left(h:Inv S r n at_ par)(hinj:∀ x y,x<n->y<n->par x≠-2->par y≠-2->at_ x=at_ y->x=y){a b p m:Nat}(ha:a<n)(hpa:par a≠-2)(hb:b<n)(hpb:par b≠-2)(hab:a≠b)(hl:at_ b<=at_ a)(hp:par a=(p:Int))(k:MeetAt par p b m):MeetAt par a b m:=λw=>by
 rw[k w]
 constructor
 ·rintro⟨h1,h2⟩;exact⟨.up hp h1,h2⟩
 ·rintro⟨h1,h2⟩;rcases(anc_up hp).1 h1 with rfl|h1
  ·exfalso
   rcases h.strict h2 hb hpb with h3|h3
   ·exact hab h3
   ·omega
  ·exact⟨h1,h2⟩
end
section
variable {S:Nat->List Nat} {at_:Nat->Nat} {par:Nat->Int} {r n:Nat}
def Lk(par:Nat->Int)(y:Nat)(v:Int):Nat->Int:=λx=>if x=y then v else par x
def RS(S:Nat->List Nat)(n:Nat)(par:Nat->Int)(y z:Nat):Prop:=∀ w,UpTo par z w↔∀ p,p<n->y∈S p->par p≠-2->UpTo par p w
theorem AB{y:Nat}{v:Int}{x z:Nat}(k:UpTo par x z)(hy:¬ UpTo par x y):UpTo (Lk par y v) x z:=by
 induction k with
 | refl x=>exact .refl _
 | @up x q z h t ih=>
  have hxy:x≠y:=by rintro rfl;exact hy (.refl _)
  refine .up (y:=q) ?_ (ih λk=>hy (.up h k));unfold Lk;rw[if_neg hxy];exact h
theorem NG{y:Nat}{v:Int}{x:Nat}(k:UpTo par x y):UpTo (Lk par y v) x y:=by
 induction k with
 | refl x=>exact .refl _
 | @up x q z h t ih=>
  by_cases hxy:x=z
  ·subst hxy;exact .refl _
  ·refine .up (y:=q) ?_ ih;unfold Lk;rw[if_neg hxy];exact h
theorem anc_upd_inv{y:Nat}{v:Int}{x w:Nat}(k:UpTo (Lk par y v) x w):UpTo par x w\/(UpTo par x y/\UpTo (Lk par y v) y w):=by
 induction k with
 | refl x=>exact .inl (.refl _)
 | @up x q w h t ih=>
  by_cases hxy:x=y
  ·subst hxy;exact .inr ⟨.refl _,.up h t⟩
  ·unfold Lk at h;rw[if_neg hxy]at h;rcases ih with h1|⟨h1,h2⟩
   ·exact .inl (.up h h1)
   ·exact .inr ⟨.up h h1,h2⟩
theorem low_or{y:Nat}{v:Int}{x d:Nat}(k:UpTo par x y)(hd:UpTo par x d):UpTo par y d\/UpTo (Lk par y v) x d:=by
 induction k with
 | refl x=>exact .inl hd
 | @up x q y hq t ih=>
  by_cases e:x=y
  ·subst e;exact .inl hd
  ·rcases(anc_up hq).1 hd with rfl|k
   ·exact .inr (.refl _)
   ·rcases ih k with h1|h1
    ·exact .inl h1
    ·exact .inr (.up (y:=q) (by unfold Lk;rw[if_neg e];exact hq) h1)
structure Better(S:Nat->List Nat)(r n:Nat)(at_:Nat->Nat)(par:Nat->Int)(y z:Nat):Prop where
 inv:Inv S r n at_ par
 hy:y<n
 hr:y≠r
 hz:z<n
 best:RS S n par y z
 fwd:∃ p,p<n/\y∈S p/\par p≠-2/\at_ p<at_ y
variable {y z:Nat}
theorem Better.zlt(h:Better S r n at_ par y z):UpTo par z z/\par z≠-2/\at_ z<at_ y/\Fw S at_ z y:=by
 obtain⟨p,hp,hyp,hpp,hl⟩:=h.fwd;obtain⟨h1,h2,h3,h4⟩:=h.inv.anc ((h.best z).1 (.refl _) p hp hyp hpp) hp hpp;exact⟨.refl _,h2,by omega,.step h4 hyp hl⟩
theorem Better.above(h:Better S r n at_ par y z){w:Nat}:UpTo (Lk par y z) z w↔UpTo par z w:=by
 obtain⟨_,h2,h3,_⟩:=h.zlt
 have hn:¬ UpTo par z y:=λk=>by have:=(h.inv.anc k h.hz h2).2.2.1;omega
 constructor
 ·intro k;rcases anc_upd_inv k with h1|⟨h1,_⟩
  ·exact h1
  ·exact absurd h1 hn
 ·intro k;exact AB k hn
theorem Better.here(h:Better S r n at_ par y z){w:Nat}:UpTo (Lk par y z) y w↔w=y\/UpTo par z w:=by
 rw[anc_up (p:=z) (by simp[Lk]),h.above]
theorem Better.av_here(h:Better S r n at_ par y z){d:Nat}(hd:¬ UpTo (Lk par y z) y d):Av S r d y:=by
 rw[h.here]at hd;have h1:¬ ∀ p,p<n->y∈S p->par p≠-2->UpTo par p d:=λhh=>hd (.inr ((h.best d).2 hh));simp only[Classical.not_forall]at h1;obtain⟨p,hp,hyp,hpp,hnp⟩:=h1;exact .step (h.inv.all p hp hpp d hnp) hyp λe=>hd (.inl e.symm)
theorem Better.inv'(h:Better S r n at_ par y z):Inv S r n at_ (Lk par y z):=by
 obtain⟨hzz,hz2,hzl,hzf⟩:=h.zlt;obtain⟨p,hp,hyp,hpp,hl⟩:=h.fwd
 have hne:∀ x,Lk par y z x≠-2->x=y\/par x≠-2:=λx hx=>by
  by_cases e:x=y
  ·exact .inl e
  ·unfold Lk at hx;rw[if_neg e]at hx;exact .inr hx
 have hyv:Lk par y z y=(z:Int):=by simp[Lk]
 have hyo:∀ x,x≠y->Lk par y z x=par x:=λx e=>by unfold Lk;rw[if_neg e]
 refine⟨by rw[hyo _ (Hq h.hr)];exact h.inv.top,λx hx=>?_,λx hx w hw=>?_,λx hx hxp=>?_,λx hx hxp d hd=>?_⟩
 ·by_cases e:x=y
  ·subst e;exact .inr (.inr ⟨z,hyv⟩)
  ·rw[hyo x e];exact h.inv.kind x hx
 ·have hzn:∀ w,par w≠-2->Lk par y z w≠-2:=λw hw=>by
   by_cases e:w=y
   ·subst e;rw[hyv];omega
   ·rw[hyo w e];exact hw
  by_cases e:x=y
  ·subst e;rw[hyv]at hw
   cases Vw hw
   exact⟨h.hz,hzn _ hz2,hzl,hzf⟩
  ·rw[hyo x e]at hw;obtain⟨h1,h2,h3,h4⟩:=h.inv.up x hx w hw;exact⟨h1,hzn _ h2,h3,h4⟩
 ·rcases hne x hxp with rfl|h1
  ·exact .step (h.inv.rc p hp hpp) hyp
  ·exact h.inv.rc x hx h1
 ·by_cases e:x=y
  ·subst e;exact h.av_here hd
  ·rw[hyo x e]at hxp
   by_cases hxd:UpTo par x d
   ·
    by_cases hxy:UpTo par x y
    ·have hyd:¬ UpTo (Lk par y z) y d:=λk=>hd ((NG hxy).trans k);have hav:=h.av_here hyd;have hf:=(h.inv.anc hxy hx hxp).2.2.2
     have hdy:UpTo par y d:=by
      rcases low_or (v:=(z:Int)) hxy hxd with h1|h1
      ·exact h1
      ·exact absurd h1 hd
     by_cases hpy:par y = -2
     ·
      have:d=y:=by
       refine(CB (par:=par) λp hp=>?_).1 hdy;rw[hpy]at hp;omega
      subst this;exact absurd (.refl _) hyd
     ·rcases h.inv.strict hdy h.hy hpy with rfl|hlt
      ·exact absurd (.refl _) hyd
      ·exact hf.av hav hlt
    ·exact absurd (AB hxd hxy) hd
   ·exact h.inv.all x hx hxp d hxd
end
section
variable {S:Nat->List Nat} {at_:Nat->Nat} {par:Nat->Int} {r n:Nat}
def QB(S:Nat->List Nat)(r n:Nat)(par:Nat->Int)(b:Nat->Nat):Prop:=∀ x,x<n->par x≠-2->∀ z,AvN S r z (b x) x->¬ UpTo par x z
def RT(S:Nat->List Nat)(r n:Nat)(par:Nat->Int):Prop:=∀ x,x<n->Rc S r x->par x≠-2
def VG(S:Nat->List Nat)(r n:Nat)(par:Nat->Int):Prop:=∀ x,x<n->par x≠-2->∀ d,UpTo par x d↔¬ Av S r d x
theorem hZ(h:Inv S r n at_ par):QB S r n par λ_=>0:=λx hx hp z hz k=>by
 cases hz with
 | root hr _=>exact hr (h.root_anc.1 k).symm
theorem WT(hS:∀ x,x<n->∀ w∈S x,w<n)(hr:r<n){x:Nat}(h:Rc S r x):x<n:=by
 induction h with
 | root=>exact hr
 | step _ hy ih=>exact hS _ ih _ hy
theorem Better.qb{y z k:Nat}{b:Nat->Nat}(h:Better S r n at_ par y z)(hS:∀ x,x<n->∀ w∈S x,w<n)(hrn:r<n)(full:RT S r n par)(hb:∀ x,x<n->k<=b x/\b x<=k+1)(q:QB S r n par b) :
  QB S r n (Lk par y z) λx=>if x=y then k+1 else b x:=by
 have here:∀ w,AvN S r w (k+1) y->¬ UpTo (Lk par y z) y w:=λw hw hu=>by
  rcases h.here.1 hu with rfl|hu
  ·exact hw.av.ne rfl
  ·cases hw with
   | root hr _=>exact h.hr rfl
   | @step _ p _ hp hyp hne=>
    have hpn:=WT hS hrn hp.av.rc;have hpp:=full p hpn hp.av.rc;exact q p hpn hpp w (hp.mono (hb p hpn).1) ((h.best w).1 hu p hpn hyp hpp)
 intro x hx hxp w hw hu
 dsimp only at hw
 by_cases e:x=y
 ·subst e;rw[if_pos rfl]at hw;exact here w hw hu
 ·rw[if_neg e]at hw;unfold Lk at hxp;rw[if_neg e]at hxp;rcases anc_upd_inv hu with h1|⟨h1,h2⟩
  ·exact q x hx hxp w hw h1
  ·rcases hw.via y with h3|h3
   ·exact q x hx hxp y h3 h1
   ·exact here w (h3.mono (hb x hx).2) h2
theorem cT(h:Inv S r n at_ par){K:Nat}(hK:∀ z,z<n->∀ x,x<n->Av S r z x->AvN S r z K x)(q:QB S r n par λ_=>K):VG S r n par:=λx hx hp d=>by
 constructor
 ·intro hu ha;exact q x hx hp d (hK d (h.anc hu hx hp).1 x hx ha) hu
 ·intro ha;exact GB λhn=>ha (h.all x hx hp d hn)
theorem Better.same{y z:Nat}(h:Better S r n at_ par y z)(hS:∀ x,x<n->∀ w∈S x,w<n)(hrn:r<n)(full:RT S r n par)(hy2:par y≠-2)(ex:VG S r n par):par y=(z:Int):=by
 obtain⟨hzz,hz2,hzl,hzf⟩:=h.zlt;rcases h.inv.kind y h.hy with h1|h1|⟨q,hq⟩
 ·exact absurd h1 hy2
 ·exact absurd h1 h.hr
 ·obtain⟨q1,q2,q3,q4⟩:=h.inv.up y h.hy q hq
  have key:∀ w,UpTo par z w↔UpTo par q w:=λw=>by
   rw[h.best w]
   constructor
   ·intro hall
    have hwy:¬ Av S r w y:=λha=>by
     cases ha with
     | root _=>exact h.hr rfl
     | @step p _ hp hyp hne=>
      have hpn:=WT hS hrn hp.rc;have hpp:=full p hpn hp.rc;exact(ex p hpn hpp w).1 (hall p hpn hyp hpp) hp
    rcases(anc_up hq).1 ((ex y h.hy hy2 w).2 hwy) with rfl|hu
    ·have:=(h.inv.anc ((h.best _).2 hall) h.hz hz2).2.2.1;omega
    ·exact hu
   ·intro hu p hp hyp hpp;have hwy:UpTo par y w:=.up hq hu;refine(ex p hp hpp w).2 λha=>?_
    have hne:y≠w:=by rintro rfl;have:=(h.inv.anc hu q1 q2).2.2.1;omega
    exact(ex y h.hy hy2 w).1 hwy (.step ha hyp hne)
  have:=h.inv.antisymm ((key q).2 (.refl _)) ((key z).1 (.refl _)) h.hz hz2;rw[hq,this]
theorem YY(h:Inv S r n at_ par)(hS:∀ x,x<n->∀ w∈S x,w<n)(hrn:r<n)(full:RT S r n par)(fix:∀ y,y<n->y≠r->Rc S r y->∃ z:Nat,par y=(z:Int)/\RS S n par y z):VG S r n par:=λx hx hp d=>by
 constructor
 ·intro hu ha
  induction ha with
  | root hne=>exact hne (h.root_anc.1 hu).symm
  | @step p y hp' hyp hne ih=>
   have hpn:=WT hS hrn hp'.rc;have hpp:=full p hpn hp'.rc
   by_cases e:y=r
   ·subst e;exact hne (h.root_anc.1 hu).symm
   ·obtain⟨z,hz,hb⟩:=fix y hx e (.step hp'.rc hyp);rcases(anc_up hz).1 hu with rfl|hu
    ·exact hne rfl
    ·exact ih hpn hpp ((hb d).1 hu p hpn hyp hpp)
 ·intro ha;exact GB λhn=>ha (h.all x hx hp d hn)
end
def Bc(t:List Int):Nat->Int:=λx=>t.getD x 0
theorem PT{t:List Int}{y:Nat}{v:Int}(hy:y<t.length):Bc (t.set y v)=Lk (Bc t) y v:=by
 funext x
 unfold Bc Lk
 by_cases e:x=y
 ·subst e;simp[List.getD,hy]
 ·simp[List.getD,e,Hq e]
open Classical in
def Kb(S:Nat->List Nat)(n:Nat)(t:List Int)(y:Nat):Nat:=if h:∃ z,z<n/\RS S n (Bc t) y z then Classical.choose h else 0
def Sq(S:Nat->List Nat)(n:Nat)(P:List Nat)(t:List Int):Nat->List Int
 | 0=>t
 | i+1=>(Sq S n P t i).set (P.getD i 0) (Kb S n (Sq S n P t i) (P.getD i 0):Int)
def CS(S:Nat->List Nat)(n:Nat)(P:List Nat)(t:List Int):Nat->List Int
 | 0=>t
 | j+1=>Sq S n P (CS S n P t j) P.length
def E1(n r:Nat):List Int:=(List.replicate n (-2:Int)).set r (-1)
structure Ordered(S:Nat->List Nat)(r n:Nat)(P:List Nat):Prop where
 hr:r<n
 hS:∀ x,x<n->∀ w∈S x,w<n
 nodup:(r::P).Nodup
 mem:∀ x,x∈r::P↔Rc S r x
 fwd:∀ i,i<P.length->∃ p,p∈r::P.take i/\P.getD i 0∈S p
section
variable {S:Nat->List Nat} {r n:Nat} {P:List Nat}
theorem Ordered.lt(o:Ordered S r n P){x:Nat}(h:x∈r::P):x<n:=WT o.hS o.hr ((o.mem x).1 h)
theorem Ns{i:Nat}(hi:i<P.length):P.getD i 0∈P:=by rw[Aa _ _ _ hi];exact Yb hi
theorem Ordered.at_lt(o:Ordered S r n P){i:Nat}(hi:i<P.length){p:Nat}(hp:p∈r::P.take i):pos (r::P) p<pos (r::P) (P.getD i 0):=by
 have hd:=o.nodup
 have h1:pos (r::P) (P.getD i 0)=i+1:=by
  have:=(CP hd (i:=i+1) (by simpa using hi)).2;rw[Aa _ _ _ hi]
  simpa using this
 rw[h1];obtain⟨j,hj,rfl⟩:=Ls hp
 have hj':j<i+1:=by simp at hj;omega
 have hjl:j<(r::P).length:=by simp;omega
 have e:(r::P.take i)[j]=(r::P)[j]:=by
  cases j with
  | zero=>rfl
  | succ j=>simp
 rw[e,(CP hd hjl).2];exact hj'
theorem nZ(o:Ordered S r n P):Inv S r n (pos (r::P)) (Bc (E1 n r))/\(E1 n r).length=n/\Bc (E1 n r) r≠-2:=by
 have hlen:(E1 n r).length=n:=by simp[E1]
 have hr:=o.hr
 have at_:∀ x,x<n->Bc (E1 n r) x=if x=r then -1 else -2:=λx hx=>by
  unfold Bc E1
  by_cases e:x=r
  ·subst e;simp[List.getD,hx]
  ·simp[List.getD,hx,e,Hq e]
 have hno:∀ x,x<n->∀ p:Nat,Bc (E1 n r) x≠(p:Int):=λx hx p hp=>by rw[at_ x hx]at hp;split at hp<;>omega
 refine⟨⟨by rw[at_ r hr,if_pos rfl],λx hx=>?_,λx hx z hz=>absurd hz (hno x hx z),λx hx hp=>?_,λx hx hp d hd=>?_⟩,hlen,by rw[at_ r hr,if_pos rfl];omega⟩
 ·by_cases e:x=r
  ·exact .inr (.inl e)
  ·exact .inl (by rw[at_ x hx,if_neg e])
 ·by_cases e:x=r
  ·subst e;exact .root
  ·exact absurd (by rw[at_ x hx,if_neg e]) hp
 ·by_cases e:x=r
  ·subst e;exact .root (λe=>hd (by rw[e];exact .refl _))
  ·exact absurd (by rw[at_ x hx,if_neg e]) hp
structure Ready(S:Nat->List Nat)(r n:Nat)(P:List Nat)(t:List Int)(i:Nat):Prop where
 inv:Inv S r n (pos (r::P)) (Bc t)
 len:t.length=n
 done:∀ x∈r::P.take i,Bc t x≠-2
theorem Inv.meets{at_:Nat->Nat}{par:Nat->Int}(h:Inv S r n at_ par)(hinj:∀ x y,x<n->y<n->par x≠-2->par y≠-2->at_ x=at_ y->x=y)(hr:at_ r=0):∀ m a b,at_ a+at_ b<=m->a<n->b<n->par a≠-2->par b≠-2->∃ c,MeetAt par a b c/\c<n/\par c≠-2:=by
 intro m
 induction m with
 | zero=>
  intro a b hm ha hb hpa hpb;have:a=b:=hinj a b ha hb hpa hpb (by omega);subst this;exact⟨a,IU,ha,hpa⟩
 | succ m ih=>
  have go:∀ a b,at_ a+at_ b<=m+1->a<n->b<n->par a≠-2->par b≠-2->at_ b<=at_ a->∃ c,MeetAt par a b c/\c<n/\par c≠-2:=λa b hm ha hb hpa hpb hl=>by
   by_cases e:a=b
   ·subst e;exact⟨a,IU,ha,hpa⟩
   ·rcases h.kind a ha with h1|h1|⟨p,hp⟩
    ·exact absurd h1 hpa
    ·subst h1;exact absurd (hinj a b ha hb hpa hpb (by omega)) e
    ·obtain⟨p1,p2,p3,p4⟩:=h.up a ha p hp;obtain⟨c,hc,hc2⟩:=ih p b (by omega) p1 hb p2 hpb;exact⟨c,h.meet_left hinj ha hpa hb hpb e hl hp hc,hc2⟩
  intro a b hm ha hb hpa hpb;rcases Nat.le_total (at_ b) (at_ a) with hl|hl
  ·exact go a b hm ha hb hpa hpb hl
  ·obtain⟨c,hc,hc2⟩:=go b a (by omega) hb ha hpb hpa hl;exact⟨c,ZM hc,hc2⟩
theorem Ready.inj(o:Ordered S r n P){t:List Int}{i:Nat}(h:Ready S r n P t i):∀ x y,x<n->y<n->Bc t x≠-2->Bc t y≠-2->pos (r::P) x=pos (r::P) y->x=y:=λx y hx hy hpx hpy he=>by
 have hm:∀ x,x<n->Bc t x≠-2->x∈r::P:=λx hx hp=>(o.mem x).2 (h.inv.rc x hx hp)
 have back:∀ x∈r::P,(r::P).getD (pos (r::P) x) 0=x:=λx hx=>by
  obtain⟨j,hj,rfl⟩:=Ls hx;rw[(CP o.nodup hj).2,Aa _ _ _ hj]
 rw[<- back x (hm x hx hpx),<- back y (hm y hy hpy),he]
theorem PW:pos (r::P) r=0:=by rw[FG,if_pos rfl]
theorem Ready.meetAll(o:Ordered S r n P){t:List Int}{i:Nat}(h:Ready S r n P t i):∀ l:List Nat,(∀ p∈l,p<n/\Bc t p≠-2)->l≠[]->∃ z,z<n/\Bc t z≠-2/\∀ w,UpTo (Bc t) z w↔∀ p∈l,UpTo (Bc t) p w:=by
 intro l
 induction l with
 | nil=>intro _ hn;exact absurd rfl hn
 | cons p l ih=>
  intro hl _;obtain⟨hp1,hp2⟩:=hl p (Kq ..)
  by_cases hl0:l=[]
  ·subst hl0;exact⟨p,hp1,hp2,λw=>by simp⟩
  ·obtain⟨z,hz1,hz2,hz3⟩:=ih (λq hq=>hl q (F3 _ hq)) hl0;obtain⟨c,hc1,hc2,hc3⟩:=h.inv.meets (h.inj o) PW _ p z (zzL8 _) hp1 hz1 hp2 hz2;exact⟨c,hc2,hc3,λw=>by rw[hc1 w,hz3 w];simp⟩
theorem Ready.best(o:Ordered S r n P){t:List Int}{i:Nat}(h:Ready S r n P t i)(hi:i<P.length):Better S r n (pos (r::P)) (Bc t) (P.getD i 0) (Kb S n t (P.getD i 0)):=by
 have hy:=Ns hi;have hyr:P.getD i 0≠r:=λe=>(zzL76.1 o.nodup).1 (e▸hy);have hyn:=o.lt (F3 _ hy);obtain⟨p,hp,hyp⟩:=o.fwd i hi;have hp2:=h.done p hp
 have hpP:p∈r::P:=by
  rcases zzL22.1 hp with rfl|hp
  ·exact Kq ..
  ·exact F3 _ (List.mem_of_mem_take hp)
 have hpn:=o.lt hpP
 have hex:∃ z,z<n/\RS S n (Bc t) (P.getD i 0) z:=by
  classical
  obtain⟨z,hz1,hz2,hz3⟩:=h.meetAll o ((List.range n).filter λp=>decide (P.getD i 0∈S p/\Bc t p≠-2)) (λp hp=>by
   obtain⟨h1,h2⟩:=zzL66.1 hp
   exact⟨zzL41.1 h1,(X9 h2).2⟩) (λe=>by
   have:p∈(List.range n).filter λp=>decide (P.getD i 0∈S p/\Bc t p≠-2):=zzL66.2 ⟨zzL41.2 hpn,E7 ⟨hyp,hp2⟩⟩
   rw[e]at this;cases this)
  refine⟨z,hz1,λw=>?_⟩;rw[hz3 w]
  constructor
  ·intro k p hp hyp hpp;exact k p (zzL66.2 ⟨zzL41.2 hp,E7 ⟨hyp,hpp⟩⟩)
  ·intro k p hp;obtain⟨h1,h2⟩:=zzL66.1 hp;exact k p (zzL41.1 h1) (X9 h2).1 (X9 h2).2
 have hb:Kb S n t (P.getD i 0)<n/\RS S n (Bc t) (P.getD i 0) (Kb S n t (P.getD i 0)):=by
  unfold Kb;rw[dif_pos hex];exact Classical.choose_spec hex
 exact⟨h.inv,hyn,hyr,hb.1,hb.2,p,hpn,hyp,hp2,o.at_lt hi hp⟩
theorem Ready.best_eq(o:Ordered S r n P){t:List Int}{i:Nat}(h:Ready S r n P t i)(hi:i<P.length){z:Nat}(hz:z<n)(hz2:Bc t z≠-2)(hb:RS S n (Bc t) (P.getD i 0) z):z=Kb S n t (P.getD i 0):=by
 have b:=h.best o hi;exact(h.inv.antisymm ((hb _).2 ((b.best _).1 (.refl _))) ((b.best _).2 ((hb _).1 (.refl _))) hz hz2).symm
theorem Ready.next(o:Ordered S r n P){t:List Int}{i:Nat}(h:Ready S r n P t i)(hi:i<P.length):Ready S r n P (t.set (P.getD i 0) (Kb S n t (P.getD i 0):Int)) (i+1):=by
 have b:=h.best o hi;have e:=PT (t:=t) (y:=P.getD i 0) (v:=(Kb S n t (P.getD i 0):Int)) (by rw[h.len];exact b.hy);refine⟨by rw[e];exact b.inv',by rw[Ib];exact h.len,λx hx=>?_⟩;rw[e];unfold Lk
 split
 ·omega
 ·rename_i hne
  refine h.done x ?_;rcases zzL22.1 hx with rfl|hx
  ·exact Kq ..
  ·rw[UT hi]at hx;rcases zzL11.1 hx with hx|hx
   ·exact F3 _ hx
   ·rw[zzL15,<- Aa _ _ 0 hi]at hx;exact absurd hx hne
theorem Ready.more(o:Ordered S r n P){t:List Int}(h:Ready S r n P t P.length)(i:Nat):Ready S r n P t i:=
 ⟨h.inv,h.len,λx hx=>h.done x (by
  rw[BG];rcases zzL22.1 hx with rfl|hx
  ·exact Kq ..
  ·exact F3 _ (List.mem_of_mem_take hx))⟩
theorem Ready.full(o:Ordered S r n P){t:List Int}(h:Ready S r n P t P.length):RT S r n (Bc t):=λx hx hr=>h.done x (by rw[BG];exact(o.mem x).2 hr)
theorem Ready.round(o:Ordered S r n P){t:List Int}(h:Ready S r n P t 0):∀ i,i<=P.length->Ready S r n P (Sq S n P t i) i:=by
 intro i
 induction i with
 | zero=>intro _;exact h
 | succ i ih=>intro hi;exact(ih (by omega)).next o (by omega)
theorem kR(o:Ordered S r n P):Ready S r n P (E1 n r) 0:=by
 obtain⟨h1,h2,h3⟩:=nZ o;exact⟨h1,h2,λx hx=>by simp at hx;subst hx;exact h3⟩
theorem Ready.rounds(o:Ordered S r n P):∀ j,Ready S r n P (CS S n P (E1 n r) j) 0:=by
 intro j
 induction j with
 | zero=>exact kR o
 | succ j ih=>exact((ih.round o) P.length (zzL8 _)).more o 0
theorem Ready.rounds'(o:Ordered S r n P)(j:Nat):Ready S r n P (CS S n P (E1 n r) (j+1)) P.length:=(Ready.rounds o j).round o P.length (zzL8 _)
theorem di(o:Ordered S r n P){t:List Int}{k:Nat}(h:Ready S r n P t P.length)(q:QB S r n (Bc t) λ_=>k):QB S r n (Bc (Sq S n P t P.length)) λ_=>k+1:=by
 have key:∀ i,i<=P.length->QB S r n (Bc (Sq S n P t i)) (λx=>if x∈P.take i then k+1 else k)/\RT S r n (Bc (Sq S n P t i)):=by
  intro i
  induction i with
  | zero=>intro _;exact⟨by simpa [Sq] using q,h.full o⟩
  | succ i ih=>
   intro hi;obtain⟨q1,f1⟩:=ih (by omega);have rd:=(h.more o 0).round o i (by omega);have b:=rd.best o (by omega);have e:=PT (t:=Sq S n P t i) (y:=P.getD i 0) (v:=(Kb S n (Sq S n P t i) (P.getD i 0):Int)) (by rw[rd.len];exact b.hy)
   constructor
   ·show QB S r n (Bc ((Sq S n P t i).set _ _)) _
    rw[e];have:=b.qb (k:=k) o.hS o.hr f1 (λx _=>by split<;>omega) q1;intro x hx hp z hz;refine this x hx hp z ?_
    dsimp only at hz ⊢
    rw[UT (by omega:i<P.length)]at hz
    by_cases e1:x=P.getD i 0
    ·rw[if_pos e1];rwa[if_pos (zzL11.2 (.inr (zzL15.2 (by rw[e1,Aa _ _ _ (by omega:i<P.length)]))))]at hz
    ·rw[if_neg e1]
     by_cases e2:x∈P.take i
     ·rw[if_pos e2];rwa[if_pos (zzL11.2 (.inl e2))]at hz
     ·rw[if_neg e2]
      rwa[if_neg (λhm=>by
       rcases zzL11.1 hm with hm|hm
       ·exact e2 hm
       ·rw[zzL15,<- Aa _ _ 0 (by omega:i<P.length)]at hm;exact e1 hm)]at hz
   ·show RT S r n (Bc ((Sq S n P t i).set _ _))
    rw[e];intro x hx hr;unfold Lk
    split
    ·omega
    ·exact f1 x hx hr
 have q1:=(key P.length (zzL8 _)).1;rw[BG]at q1;have rd:=(h.more o 0).round o P.length (zzL8 _);intro x hx hp z hz;refine q1 x hx hp z ?_
 dsimp only at hz ⊢
 by_cases e:x∈P
 ·rw[if_pos e];exact hz
 ·rw[if_neg e]
  have hxr:x=r:=by
   rcases zzL22.1 ((o.mem x).2 (rd.inv.rc x hx hp)) with h1|h1
   ·exact h1
   ·exact absurd h1 e
  subst hxr;exact .root hz.av.ne k
def R0(S:Nat->List Nat)(n:Nat)(P:List Nat)(t:List Int):Prop:=∀ i,i<P.length->Bc t (P.getD i 0)=(Kb S n t (P.getD i 0):Int)
theorem Tw{t:List Int}(o:Ordered S r n P)(hl:t.length=n)(h:R0 S n P t):∀ i,i<=P.length->Sq S n P t i=t:=by
 intro i
 induction i with
 | zero=>intro _;rfl
 | succ i ih=>
  intro hi;unfold Sq;rw[ih (by omega),<- h i (by omega)]
  have hlt:P.getD i 0<t.length:=by rw[hl];exact o.lt (F3 _ (Ns (by omega)))
  unfold Bc;rw[Aa _ _ _ hlt];exact List.set_getElem_self hlt
theorem jQ(o:Ordered S r n P):∃ J,(∀ j,j<J->¬ R0 S n P (CS S n P (E1 n r) j))/\R0 S n P (CS S n P (E1 n r) J):=by
 obtain⟨K,hK⟩:=YD (S:=S) (r:=r) n
 have hq:∀ k,QB S r n (Bc (CS S n P (E1 n r) (k+1))) λ_=>k:=by
  intro k
  induction k with
  | zero=>exact hZ (Ready.rounds' o 0).inv
  | succ k ih=>exact di o (Ready.rounds' o k) ih
 have hst:R0 S n P (CS S n P (E1 n r) (K+1)):=λi hi=>by
  have rd:=Ready.rounds' o K;exact((rd.more o i).best o hi).same o.hS o.hr (rd.full o) (rd.done _ (F3 _ (by rw[BG];exact Ns hi))) (cT rd.inv hK (hq K))
 have key:∀ m,(∃ J,J<=m/\R0 S n P (CS S n P (E1 n r) J))->∃ J,(∀ j,j<J->¬ R0 S n P (CS S n P (E1 n r) j))/\R0 S n P (CS S n P (E1 n r) J):=by
  intro m
  induction m with
  | zero=>rintro⟨J,hJ,h⟩;exact⟨J,λj hj=>by omega,h⟩
  | succ m ih=>
   rintro⟨J,hJ,h⟩
   by_cases hm:∃ J,J<=m/\R0 S n P (CS S n P (E1 n r) J)
   ·exact ih hm
   ·exact⟨J,λj hj hs=>hm ⟨j,by omega,hs⟩,h⟩
 exact key (K+1) ⟨K+1,zzL8 _,hst⟩
structure DomTree(S:Nat->List Nat)(r n:Nat)(P:List Nat)(t:List Int):Prop where
 inv:Inv S r n (pos (r::P)) (Bc t)
 len:t.length=n
 full:RT S r n (Bc t)
 exact_:VG S r n (Bc t)
theorem BB(o:Ordered S r n P){j:Nat}(h:R0 S n P (CS S n P (E1 n r) j)):DomTree S r n P (CS S n P (E1 n r) j):=by
 have rd:=Ready.rounds o j
 have hall:Ready S r n P (CS S n P (E1 n r) j) P.length:=by
  have:=rd.round o P.length (zzL8 _);rwa[Tw o rd.len h P.length (zzL8 _)]at this
 refine⟨rd.inv,rd.len,hall.full o,YY rd.inv o.hS o.hr (hall.full o) λy hy hne hr=>?_⟩
 have hm:y∈P:=by
  rcases zzL22.1 ((o.mem y).2 hr) with h1|h1
  ·exact absurd h1 hne
  ·exact h1
 obtain⟨i,hi,rfl⟩:=Ls hm;have b:=(hall.more o i).best o hi;rw[Aa _ _ _ hi]at b;have hs:=h i hi;rw[Aa _ _ _ hi]at hs;exact⟨_,hs,b.best⟩
end
section
variable {S:Nat->List Nat} {s s':Nat->Bool} {l o:List Nat}
theorem VL.before(h:VL S s l s' o):∀ A z B,o=A++z::B->z∈l\/∃ p∈B,z∈S p:=by
 induction h with
 | nil s=>intro A z B e;simp at e
 | skip h _ ih=>
  intro A z B e;rcases ih A z B e with h1|h1
  ·exact .inl (F3 _ h1)
  ·exact .inr h1
 | @step s s1 s2 y l o1 o2 h a b iha ihb=>
  intro A z B e;rcases List.append_eq_append_iff.1 e with⟨C,hC1,hC2⟩|⟨C,hC1,hC2⟩
  ·
   cases C with
   | nil=>
    simp at hC2;obtain⟨rfl,rfl⟩:=hC2;exact .inl (Kq ..)
   | cons c C=>
    simp at hC2;obtain⟨rfl,hC2⟩:=hC2;rcases ihb C z B hC2 with h1|h1
    ·exact .inl (F3 _ h1)
    ·exact .inr h1
  ·cases C with
   | nil=>
    simp at hC2;obtain⟨rfl,rfl⟩:=hC2;exact .inl (Kq ..)
   | cons c C=>
    simp at hC2;obtain⟨rfl,rfl⟩:=hC2;rcases iha A z C hC1 with h1|⟨p,hp,hz⟩
    ·exact .inr ⟨y,by simp,h1⟩
    ·exact .inr ⟨p,by simp[hp],hz⟩
theorem Ord.ordered{n r:Nat}{L:List Nat}(hr:r<n)(hS:∀ x,x<n->∀ w∈S x,w<n)(h:Ord S r L):∃ P,L=r::P/\Ordered S r n P:=by
 have h1:=h.nodup;have h2:=h.mem;obtain⟨s',o,hv,rfl⟩:=h;refine⟨o.reverse,rfl,hr,hS,h1,λx=>by rw[h2 x,rc_iff],λi hi=>?_⟩
 have hi':i<o.length:=by simpa using hi
 have e:o.reverse=o.reverse.take i++o.reverse[i]::o.reverse.drop (i+1):=by rw[<- Mq hi,List.take_append_drop]
 have e2:o=(o.reverse.drop (i+1)).reverse++o.reverse[i]::(o.reverse.take i).reverse:=by
  have:=B8 List.reverse e;rw[List.reverse_reverse]at this;rw[List.reverse_append,List.reverse_cons]at this
  simpa using this
 rw[Aa _ _ _ hi];rcases hv.before _ _ _ e2 with h3|⟨p,hp,hz⟩
 ·exact⟨r,Kq ..,h3⟩
 ·exact⟨p,F3 _ (zzL98.1 hp),hz⟩
end
def mL(S:Nat->List Nat)(w:Int):Nat->List Nat:=λx=>(S x).filter λy=>decide ((y:Int)≠w)
theorem eJ(S:Nat->List Nat):mL S (-1)=S:=by
 funext x
 unfold mL;exact List.filter_eq_self.2 λy _=>E7 (by omega)
theorem iT(S:Nat->List Nat)(z:Nat):mL S (z:Int)=wo S z:=by
 funext x
 unfold mL wo
 congr 1
 funext y
 exact zzL109.2 ⟨λh e=>h (by rw[e]),λh e=>h (Vw e)⟩
def Zg(L:List (List Int))(r:Nat)(w:Int):List Bool:=if(r:Int)=w then List.replicate L.length false else JI (mL (sN L) w) L.length ((List.replicate L.length false).set r true) L.length
theorem dl{L:List (List Int)}(hm:L5 L=true){r:Nat}(hr:r<L.length){b:Nat}:(Zg L r (-1)).getD b false=true↔Rc (sN L) r b:=by
 unfold Zg;rw[if_neg (by omega),eJ,Xx (Vo hm) hr b,rc_iff]
theorem TT{L:List (List Int)}(hm:L5 L=true){r:Nat}(hr:r<L.length){a b:Nat}(hb:b<L.length):(Zg L r (a:Int)).getD b false=true↔Av (sN L) r a b:=by
 unfold Zg;rw[av_iff]
 by_cases h:r=a
 ·subst h;rw[if_pos rfl,Oa]
  simp
 ·rw[if_neg (by omega),iT,Xx (S:=wo (sN L) a) (λz hz y hy=>Vo hm z hz y (zzL66.1 hy).1) hr b];simp[h]
def Th(L:List (List Int))(r a b:Nat):Bool:=(Zg L r (-1)).getD b false&&!(Zg L r (a:Int)).getD b false
theorem PS{L:List (List Int)}(hm:L5 L=true){r a b:Nat}(hr:r<L.length)(hb:b<L.length):Th L r a b=true↔Rc (sN L) r b/\¬ Av (sN L) r a b:=by
 unfold Th;rw[A3,Pe,<- Bool.not_eq_true,dl hm hr,TT hm hr hb]
def PC(L:List (List Int))(r a b:Nat):Bool:=(List.range L.length).all λc=>decide (c=b) || !Th L r c b || Th L r c a
def PV(L:List (List Int))(r b:Nat):Nat->Int
 | 0=>-2
 | a+1=>if a≠b/\Th L r a b=true/\PC L r a b=true then(a:Int) else PV L r b a
def UJ(L:List (List Int))(r b:Nat):Int:=if b=r then -1 else PV L r b L.length
def X5(L:List (List Int))(r:Nat):List Int:=(List.range L.length).map (UJ L r)
theorem JP(L:List (List Int))(r:Nat):(X5 L r).length=L.length:=by simp[X5]
theorem eD{L:List (List Int)}{r b:Nat}(hb:b<L.length):(X5 L r).getD b 0=UJ L r b:=by unfold X5;rw[Qz hb]
theorem pick_cases(L:List (List Int))(r b:Nat):∀ m,(PV L r b m = -2/\∀ a,a<m->¬ (a≠b/\Th L r a b=true/\PC L r a b=true))\/∃ a,a<m/\PV L r b m=(a:Int)/\a≠b/\Th L r a b=true/\PC L r a b=true:=by
 intro m
 induction m with
 | zero=>exact .inl ⟨rfl,λa ha=>absurd ha (Nc a)⟩
 | succ m ih=>
  unfold PV
  by_cases h:m≠b/\Th L r m b=true/\PC L r m b=true
  ·rw[if_pos h];exact .inr ⟨m,by omega,rfl,h⟩
  ·rw[if_neg h];rcases ih with⟨h1,h2⟩|⟨a,h1,h2⟩
   ·refine .inl ⟨h1,λa ha=>?_⟩;rcases zzL117.1 ha with h3|rfl
    ·exact h2 a h3
    ·exact h
   ·exact .inr ⟨a,by omega,h2⟩
theorem DomTree.eq{L:List (List Int)}(hm:L5 L=true){r:Nat}(hr:r<L.length){P t:List _}(o:Ordered (sN L) r L.length P)(h:DomTree (sN L) r L.length P t):t=X5 L r:=by
 refine Wp (by rw[h.len,JP]) λb h1 h2=>?_
 have hb:b<L.length:=by rw[<- h.len];exact h1
 rw[<- Aa _ _ 0 h1,<- Aa _ _ 0 h2,eD hb]
 show Bc t b=_
 have hov:∀ a b,b<L.length->Bc t b≠-2->(Th L r a b=true↔UpTo (Bc t) b a):=λa b hb hp=>by
  rw[PS hm hr hb,h.exact_ b hb hp];exact⟨λk=>k.2,λk=>⟨h.inv.rc b hb hp,k⟩⟩
 unfold UJ
 by_cases hbr:b=r
 ·subst hbr;rw[if_pos rfl];exact h.inv.top
 ·rw[if_neg hbr];rcases h.inv.kind b hb with hk|hk|⟨z,hz⟩
  ·
   have hn:¬ Rc (sN L) r b:=λk=>h.full b hb k hk;rcases pick_cases L r b L.length with⟨h3,_⟩|⟨a,_,_,_,h6,_⟩
   ·rw[hk,h3]
   ·exact absurd ((PS hm hr hb).1 h6).1 hn
  ·exact absurd hk hbr
  ·obtain⟨z1,z2,z3,z4⟩:=h.inv.up b hb z hz
   have hp:Bc t b≠-2:=by omega
   have hzo:Th L r z b=true:=(hov z b hb hp).2 (.up hz (.refl _))
   have hzb:z≠b:=by rintro rfl;omega
   have hnear:PC L r z b=true:=all_range.2 λc hc=>by
    by_cases e:c=b
    ·simp[e]
    ·cases ho:Th L r c b with
     | false=>simp
     | true=>
      have:=(hov c b hb hp).1 ho;rcases(anc_up hz).1 this with h3|h3
      ·exact absurd h3 e
      ·rw[(hov c z z1 z2).2 h3];simp
   rcases pick_cases L r b L.length with⟨_,h3⟩|⟨a,h3,h4,h5,h6,h7⟩
   ·exact absurd ⟨hzb,hzo,hnear⟩ (h3 z z1)
   ·rw[h4,hz];have haU:=(hov a b hb hp).1 h6
    have ha1:UpTo (Bc t) z a:=by
     rcases(anc_up hz).1 haU with h8|h8
     ·exact absurd h8 h5
     ·exact h8
    have hap:=(h.inv.anc ha1 z1 z2).2.1
    have hza:UpTo (Bc t) a z:=by
     have:=all_range.1 h7 z z1;simp only[hzo,hzb,decide_false,Fp,Zu]at this;exact(hov z a h3 hap).1 this
    rw[h.inv.antisymm ha1 hza z1 z2]
theorem ge{g:C5}(h:Yz g=true):L5 g.Succ=true/\g=Yk g.Succ:=by
 unfold Yz at h;rw[A3]at h;refine⟨h.1,?_⟩;obtain⟨s,p⟩:=g;have:=X9 h.2;simp only at this;unfold Yk;rw[this]
section
variable {L:List (List Int)} (hm:L5 L=true) {r:Nat} (hr:r<L.length)
include hm hr
omit hr in
omit hr in
omit hm hr in
omit hm hr in
omit hm hr in
omit hr in
omit hr in
end
def QQ(g:C5)(r:Int):List Int:=if Yz g=true/\0<=r/\r<(g.Succ.length:Int) then X5 g.Succ r.toNat else[]
def upD(t:List Int):Nat->Int->Option (List Int)
 | 0,_=>none
 | k+1,a=>if 0<=a/\a<(t.length:Int) then(if t.getD a.toNat 0 = -1 then some [a] else(upD t k (t.getD a.toNat 0)).map λl=>a::l) else none
def E0(t:List Int)(a:Int):List Int:=(upD t t.length a).getD []
theorem iR(t:List Int):∀ k a q,upD t k a=some q->q.length<=k/\1<=q.length:=by
 intro k
 induction k with
 | zero=>intro a q h;cases h
 | succ k ih=>
  intro a q h;unfold upD at h
  split at h
  ·split at h
   ·cases h;simp
   ·cases hu:upD t k (t.getD a.toNat 0) with
    | none=>rw[hu]at h;cases h
    | some q'=>rw[hu]at h;cases h;have:=ih _ _ hu;simp;omega
  ·cases h
theorem pathD_nil{t:List Int}{a:Int}:E0 t a=[]↔upD t t.length a=none:=by
 unfold E0
 cases h:upD t t.length a with
 | none=>simp
 | some q=>have:=(iR t _ _ _ h).2;simp;intro e;subst e;simp at this
def X4(t:List Int)(k:Nat):Nat:=((List.range k).filter λa=>decide (t.getD a 0 = -1)).length
def mr(t:List Int)(a:Nat):Bool:=decide (t.getD a 0 = -2) || !decide (E0 t (a:Int)=[])
def Ja(t:List Int):Bool:=(List.range t.length).all (mr t)&&decide (X4 t t.length=1)
theorem FW(t:List Int)(k:Nat):X4 t (k+1)=X4 t k+if t.getD k 0 = -1 then 1 else 0:=by
 unfold X4;rw[Zt,MQ,Fg]
 by_cases h:t.getD k 0 = -1
 ·rw[if_pos h]
  have:List.filter (λa=>decide (t.getD a 0 = -1)) [k]=[k]:=by rw[List.filter_cons,if_pos (E7 h)];rfl
  rw[this];rfl
 ·rw[if_neg h]
  have:List.filter (λa=>decide (t.getD a 0 = -1)) [k]=[]:=by rw[List.filter_cons,if_neg (by simpa using h)];rfl
  rw[this];rfl
def Mj(t:List Int)(a b:Int):Int:=if Ja t=true then((E0 t a).find? λx=>(E0 t b).contains x).getD (-2) else -2
def N8(t:List Int)(a b:Int):Bool:=Mj t a b==a&&Mj t a b !=-2
section
variable {S:Nat->List Nat} {r n:Nat} {P:List Nat} {t:List Int}
theorem DomTree.up(h:DomTree S r n P t):∀ k x,x<n->Bc t x≠-2->pos (r::P) x<k->∃ q,upD t k (x:Int)=some q/\(∀ w:Int,w∈q↔∃ z:Nat,w=(z:Int)/\UpTo (Bc t) x z) /\
  ∀ p:Int->Bool,(q.find? p=none/\∀ z:Nat,UpTo (Bc t) x z->p (z:Int)=false)\/∃ f:Nat,q.find? p=some (f:Int)/\UpTo (Bc t) x f/\p (f:Int)=true/\∀ z:Nat,UpTo (Bc t) x z->p (z:Int)=true->UpTo (Bc t) f z:=by
 intro k
 induction k with
 | zero=>intro x _ _ hk;exact absurd hk (Nc _)
 | succ k ih=>
  intro x hx hp hk
  have hxt:(0:Int)<=(x:Int)/\(x:Int)<(t.length:Int):=by rw[h.len];omega
  unfold upD;rw[if_pos hxt,Aw];have hpx:t.getD x 0=Bc t x:=rfl;rw[hpx];rcases h.inv.kind x hx with h1|rfl|⟨z,hz⟩
  ·exact absurd h1 hp
  ·rw[if_pos h.inv.top];refine⟨_,rfl,λw=>?_,λp=>?_⟩
   ·rw[zzL15]
    constructor
    ·rintro rfl;exact⟨x,rfl,.refl _⟩
    ·rintro⟨z,rfl,hz⟩;rw[h.inv.root_anc.1 hz]
   ·cases hpp:p (x:Int) with
    | false=>exact .inl ⟨by simp[List.find?,hpp],λz hz=>by rw[h.inv.root_anc.1 hz];exact hpp⟩
    | true=>exact .inr ⟨x,by simp[List.find?,hpp],.refl _,hpp,λz hz _=>hz⟩
  ·obtain⟨z1,z2,z3,z4⟩:=h.inv.up x hx z hz;rw[hz,if_neg (by omega)];obtain⟨q,hq1,hq2,hq3⟩:=ih z z1 z2 (by omega);rw[hq1];refine⟨(x:Int)::q,rfl,λw=>?_,λp=>?_⟩
   ·rw[zzL22,hq2 w]
    constructor
    ·rintro(rfl|⟨y,rfl,hy⟩)
     ·exact⟨x,rfl,.refl _⟩
     ·exact⟨y,rfl,.up hz hy⟩
    ·rintro⟨y,rfl,hy⟩;rcases(anc_up hz).1 hy with rfl|hy
     ·exact .inl rfl
     ·exact .inr ⟨y,rfl,hy⟩
   ·cases hpp:p (x:Int) with
    | true=>exact .inr ⟨x,by simp[List.find?,hpp],.refl _,hpp,λy hy _=>hy⟩
    | false=>
     have hf:((x:Int)::q).find? p=q.find? p:=by simp[List.find?,hpp]
     rw[hf];rcases hq3 p with⟨e1,e2⟩|⟨f,e1,e2,e3,e4⟩
     ·refine .inl ⟨e1,λy hy=>?_⟩;rcases(anc_up hz).1 hy with rfl|hy
      ·exact hpp
      ·exact e2 y hy
     ·refine .inr ⟨f,e1,.up hz e2,e3,λy hy hpy=>?_⟩;rcases(anc_up hz).1 hy with rfl|hy
      ·rw[hpp]at hpy;cases hpy
      ·exact e4 y hy hpy
theorem Ordered.pos_lt(o:Ordered S r n P){x:Nat}(hx:x∈r::P):pos (r::P) x<n:=by
 obtain⟨j,hj,rfl⟩:=Ls hx;rw[(CP o.nodup hj).2];have:=L6 n (r::P) o.nodup λy hy=>o.lt hy;omega
theorem DomTree.path(h:DomTree S r n P t)(o:Ordered S r n P){x:Nat}(hx:x<n)(hp:Bc t x≠-2):E0 t (x:Int)≠[]/\(∀ w:Int,w∈E0 t (x:Int)↔∃ z:Nat,w=(z:Int)/\UpTo (Bc t) x z) /\
  ∀ p:Int->Bool,((E0 t (x:Int)).find? p=none/\∀ z:Nat,UpTo (Bc t) x z->p (z:Int)=false)\/∃ f:Nat,(E0 t (x:Int)).find? p=some (f:Int)/\UpTo (Bc t) x f/\p (f:Int)=true/\∀ z:Nat,UpTo (Bc t) x z->p (z:Int)=true->UpTo (Bc t) f z:=by
 have hm:=(o.mem x).2 (h.inv.rc x hx hp);obtain⟨q,h1,h2,h3⟩:=h.up n x hx hp (o.pos_lt hm)
 have e:E0 t (x:Int)=q:=by unfold E0;rw[h.len,h1];rfl
 rw[e];refine⟨λe=>?_,h2,h3⟩;have:=(h2 (x:Int)).2 ⟨x,rfl,.refl _⟩;rw[e]at this
 cases this
theorem DomTree.nopath(h:DomTree S r n P t){x:Nat}(hx:x<n)(hp:Bc t x = -2):E0 t (x:Int)=[]:=by
 rw[pathD_nil]
 cases hl:t.length with
 | zero=>rfl
 | succ k=>
  unfold upD;rw[if_pos ⟨by omega,by rw[h.len];omega⟩,Aw,show t.getD x 0=Bc t x from rfl,hp,if_neg (by omega)]
  cases k with
  | zero=>rfl
  | succ k=>unfold upD;rw[if_neg (by omega)];rfl
theorem DomTree.right(h:DomTree S r n P t)(o:Ordered S r n P):Ja t=true:=by
 unfold Ja;rw[A3]
 constructor
 ·refine all_range.2 λx hx=>?_;rw[h.len]at hx;unfold mr
  by_cases hp:Bc t x = -2
  ·rw[show t.getD x 0=Bc t x from rfl,hp];rfl
  ·rw[Fo (h.path o hx hp).1];simp
 ·apply E7
  have key:∀ k,k<=n->X4 t k=if r<k then 1 else 0:=by
   intro k
   induction k with
   | zero=>intro _;rfl
   | succ k ih=>
    intro hk;rw[FW,ih (by omega)]
    have hr:t.getD k 0 = -1↔k=r:=by
     constructor
     ·intro he;rcases h.inv.kind k (by omega) with h1|h1|⟨z,hz⟩
      ·rw[show t.getD k 0=Bc t k from rfl,h1]at he;omega
      ·exact h1
      ·rw[show t.getD k 0=Bc t k from rfl,hz]at he;omega
     ·rintro rfl;exact h.inv.top
    by_cases hkr:k=r
    ·subst hkr;rw[if_neg (by omega),if_pos (hr.2 rfl),if_pos (by omega)]
    ·rw[if_neg (λe=>hkr (hr.1 e))]
     by_cases h2:r<k
     ·rw[if_pos h2,if_pos (by omega)]
     ·rw[if_neg h2,if_neg (by omega)]
  rw[h.len,key n (zzL8 _),if_pos o.hr]
theorem DomTree.meet(h:DomTree S r n P t)(o:Ordered S r n P){a b:Nat}(ha:a<n)(hb:b<n)(hpa:Bc t a≠-2)(hpb:Bc t b≠-2):∃ m:Nat,Mj t (a:Int) (b:Int)=(m:Int)/\MeetAt (Bc t) a b m/\m<n/\Bc t m≠-2:=by
 have rd:Ready S r n P t P.length:=⟨h.inv,h.len,λx hx=>by rw[BG]at hx;exact h.full x (o.lt hx) ((o.mem x).1 hx)⟩;obtain⟨c,hc1,hc2,hc3⟩:=h.inv.meets (rd.inj o) PW _ a b (zzL8 _) ha hb hpa hpb;refine⟨c,?_,hc1,hc2,hc3⟩;unfold Mj;rw[if_pos (h.right o)];obtain⟨hca,hcb⟩:=(hc1 c).1 (.refl _)
 have hin:∀ z:Nat,(E0 t (b:Int)).contains (z:Int)=true↔UpTo (Bc t) b z:=λz=>by
  rw[GF,(h.path o hb hpb).2.1]
  constructor
  ·rintro⟨y,hy,hu⟩;cases Vw hy;exact hu
  ·intro hu;exact⟨z,rfl,hu⟩
 rcases(h.path o ha hpa).2.2 λx=>(E0 t (b:Int)).contains x with⟨_,h2⟩|⟨f,h1,h2,h3,h4⟩
 ·have:=h2 c hca;rw[(hin c).2 hcb]at this
  cases this
 ·rw[h1];have hfc:=h4 c hca ((hin c).2 hcb);have hcf:=(hc1 f).2 ⟨h2,(hin f).1 h3⟩;rw[h.inv.antisymm hcf hfc hc2 hc3]
  rfl
theorem DomTree.meet_none(h:DomTree S r n P t)(o:Ordered S r n P){a b:Nat}(ha:a<n)(hb:b<n)(hp:Bc t a = -2\/Bc t b = -2):Mj t (a:Int) (b:Int) = -2:=by
 unfold Mj;rw[if_pos (h.right o)];rcases hp with hp|hp
 ·rw[h.nopath ha hp];rfl
 ·rw[h.nopath hb hp]
  have:(E0 t (a:Int)).find? (λx=>([]:List Int).contains x)=none:=List.find?_eq_none.2 λx _=>by simp
  rw[this];rfl
theorem DomTree.over(h:DomTree S r n P t)(o:Ordered S r n P){a b:Nat}(ha:a<n)(hb:b<n):N8 t (a:Int) (b:Int)=true↔Bc t b≠-2/\UpTo (Bc t) b a:=by
 unfold N8;rw[A3,zzL74,zzL93]
 by_cases hpa:Bc t a = -2
 ·rw[h.meet_none o ha hb (.inl hpa)]
  constructor
  ·rintro⟨h1,_⟩;omega
  ·rintro⟨h1,h2⟩;exact absurd hpa (h.inv.anc h2 hb h1).2.1
 ·by_cases hpb:Bc t b = -2
  ·rw[h.meet_none o ha hb (.inr hpb)]
   constructor
   ·rintro⟨h1,_⟩;omega
   ·rintro⟨h1,_⟩;exact absurd hpb h1
  ·obtain⟨m,hm1,hm2,hm3,hm4⟩:=h.meet o ha hb hpa hpb;rw[hm1]
   constructor
   ·rintro⟨h1,_⟩;have h1:=Vw h1;subst h1;exact⟨hpb,((hm2 _).1 (.refl _)).2⟩
   ·rintro⟨_,h2⟩;have:=(hm2 a).2 ⟨.refl _,h2⟩;have h3:=((hm2 m).1 (.refl _)).1;rw[h.inv.antisymm h3 this ha hpa];exact⟨rfl,by omega⟩
theorem DomTree.over_dom(h:DomTree S r n P t)(o:Ordered S r n P){a b:Nat}(ha:a<n)(hb:b<n):N8 t (a:Int) (b:Int)=true↔Rc S r b/\¬ Av S r a b:=by
 rw[h.over o ha hb]
 constructor
 ·rintro⟨h1,h2⟩;exact⟨h.inv.rc b hb h1,(h.exact_ b hb h1 a).1 h2⟩
 ·rintro⟨h1,h2⟩;have:=h.full b hb h1;exact⟨this,(h.exact_ b hb this a).2 h2⟩
end
section
variable {L:List (List Int)} (hm:L5 L=true) {r:Nat} (hr:r<L.length)
include hm hr
theorem aj:∃ P,Ord (sN L) r (r::P)/\Ordered (sN L) r L.length P/\DomTree (sN L) r L.length P (X5 L r):=by
 obtain⟨O,hO⟩:=Ord.exist (Vo hm) hr;obtain⟨P,rfl,o⟩:=hO.ordered hr (Vo hm);obtain⟨J,_,hJ⟩:=jQ o;have hd:=BB o hJ;refine⟨P,hO,o,?_⟩;rw[<- hd.eq hm hr o];exact hd
end
theorem ZF{X:Type}(n:Nat)(p:Nat->Bool)(f:Int->Option (LR Int X))(yes no:X)(hn:∀ i:Nat,i<n->p i=true->f (i:Int)=some (.next ((i:Int)+1)))
  (hf:∀ i:Nat,i<n->p i=false->f (i:Int)=some (.done no)) (he:f (n:Int)=some (.done yes)):Ai f (0:Int)=some (bif (List.range n).all p then yes else no):=by
 have hg:∀ i,i<(List.range n).length->(List.range n).getD i 0=i:=λi hi=>by rw[Aa _ _ _ hi];simp
 have:=S7 (List.range n) 0 p f yes no (λi hi hp=>by rw[hg i hi]at hp;exact hn i (by simpa using hi) hp) (λi hi hp=>by rw[hg i hi]at hp;exact hf i (by simpa using hi) hp) (by simpa using he) n 0 (by simp);rw[show(0:Int)=((0:Nat):Int) from rfl,this,Je]
theorem bi{n:Nat}{p:Nat->Bool}(h:(List.range n).all p=true):∀ i,i<n->p i=true:=λi hi=>zzL28.1 h i (by simpa using hi)
def Rq(L:List (List Int)):List Bool:=JI (sN L) L.length ((List.replicate L.length false).set 0 true) L.length
def Hn(l:List Int)(p:Hs):Bool:=decide (p.From=l)&&((p.Args.length:Int)==(l.length:Int))
def Qo(L:List (List Int))(b:An)(i:Nat):Bool:=(Rq L).getD i false&&!((b.End.Kind==1 || b.End.Kind==3)&&(b.End.Arg !=0))&&b.Phis.all (Hn ((Fl L).getD i []))
def Gh(f:Ab):Bool:=Od f&&(List.range f.Blocks.length).all λi=>Qo (Ey f) (f.Blocks.getD i default) i
theorem X0(f:Ab):(Ey f).length=f.Blocks.length:=by simp[Ey]
theorem ah{f:Ab}(h:Gh f=true):g7 f:=λb hb p hp=>by
 simp only[Gh,A3]at h;obtain⟨i,hi,rfl⟩:=Ls hb;have h1:=bi h.2 i hi;rw[Aa _ _ _ hi]at h1;simp only[Qo,A3]at h1;have h2:=zzL28.1 h1.2 p hp;simp only[Hn,A3,Ds,zzL74]at h2;rw[h2.1];omega
def Ld(l:List TDef)(i:Nat):Bool:=valS (l.getD i default).V&&(Ir l (l.getD i default).V==(i:Int))
def Lg(l:List TDef)(u:Nf):Bool:=!decide (Ir l u.V<0)
def defOf(l:List TDef)(v:Int):TDef:=l.getD (Ir l v).toNat default
def Xn(l:List TDef)(u:Nf):Bool:=((defOf l u.V).Shape.1==u.Shape.1)&&(((defOf l u.V).Shape.2==u.Shape.2)&&true)
def Vj(l:List TDef)(t:List Int)(u:Nf):Bool:=
 (decide ((defOf l u.V).Block<0) || ((defOf l u.V).Block==u.Block&&decide ((defOf l u.V).At<u.At))) || (!((defOf l u.V).Block==u.Block)&&!(Mj t (defOf l u.V).Block u.Block !=(defOf l u.V).Block))
def B3(f:Ab):List Int:=QQ (Yk (Ey f)) 0
def MN(f:Ab)(l:Int):Int:=
 bif !Gh f then 5 else bif !Tx f l then 6 else bif !(List.range (Au f).length).all (Ld (Au f)) then 7 else bif !(Ep f).all (Lg (Au f)) then 7 else
 bif !(Ep f).all (Xn (Au f)) then 6 else bif !(Ep f).all (Vj (Au f) (B3 f)) then 7 else 0
def G7(f:Ab)(l:Int):Int:=bif decide (l<0) || decide (2<l) then 1 else bif !U5 f then 4 else MN f l
theorem OD{l:List TDef}{v:Int}(h:¬ Ir l v<0):Bx (Ir l v) l.length:=by
 unfold Ir at h ⊢
 cases hx:l.findIdx? (λd=>d.V==v) with
 | none=>rw[hx]at h;exact absurd (by decide) h
 | some i=>
  obtain⟨hi,_⟩:=List.findIdx?_eq_some_iff_getElem.1 hx;exact Bb hi
theorem eE{f:Ab}(h:Od f=true):(B3 f).length<=1000:=by
 have h1:=(Y0 (Tk h)).1;unfold B3 QQ
 split
 ·rw[JP];show(Ey f).length<=1000;omega
 ·simp
def grow(n d:Int):Int:=bif decide (n<d) then d else n
def Sm(f:Ab):Prop:=ez f/\Dw f=some true
theorem mI{f:Ab}(h:Sm f)(hm:U5 f=true):OkF f:=by
 obtain⟨sm,h1,h2⟩:=QL f h.1;rw[h.2]at h1;exact(h2 (OI h1).symm hm).1
structure bV(f:Ab)(s:List (Int×(Int×Int))):Prop where
 none:G7 f 2≠0->s.length=0
 len:G7 f 2=0->s.length=(Au f).length
 get:G7 f 2=0->∀ d∈Au f,mget ((0:Int),(0:Int)) s d.V=d.Shape
 has:G7 f 2=0->∀ v,B1 s v=true->∃ d∈Au f,d.V=v
theorem mH{f:Ab}(hf:ez f)(h0:f.Params.length<=64)(hb:∀ b∈f.Blocks,b.End.To.length<=64/\(∀ p∈b.Phis,p.From.length<=64/\p.Args.length<=64)/\∀ o∈b.Ops,o.Args.length<=64)(he:YV f<=20000):Sm f:=
 ⟨hf,by rw[QK f hf h0 hb,E7 he]⟩
def JJ(f:Ab):Int:=
 bif !(List.range (Au f).length).all (Ld (Au f)) then 7 else bif !(Ep f).all (Lg (Au f)) then 7 else
 bif !(Ep f).all (Xn (Au f)) then 6 else bif !(Ep f).all (Vj (Au f) (B3 f)) then 7 else 0
theorem V7{f:Ab}{l:Int}(h0:0<=l)(h2:l<=2):G7 f l=0↔U5 f=true/\Gh f=true/\Tx f l=true/\JJ f=0:=by
 unfold G7 MN;rw[Fo (show ¬ l<0 by omega),Fo (show ¬ 2<l by omega)]
 show _↔_/\_/\_/\JJ f=0
 have e:(bif !(List.range (Au f).length).all (Ld (Au f)) then(7:Int) else bif !(Ep f).all (Lg (Au f)) then 7 else
  bif !(Ep f).all (Xn (Au f)) then 6 else bif !(Ep f).all (Vj (Au f) (B3 f)) then 7 else 0)=JJ f:=rfl
 rw[e]
 cases U5 f<;>cases Gh f<;>cases Tx f l<;>simp
theorem cr{o:D1}(h:Jr o=true):1<=o.Lanes:=by
 simp only[Jr,A3]at h;have:=Pd h.1.1;omega
theorem iO{α:Type}(l:List α)(g:α->Nat):(l.map λa=>g a+1).sum=l.length+(l.map g).sum:=by
 induction l with
 | nil=>rfl
 | cons a l ih=>simp only[Bu,Vx,ih,Pf];omega
theorem eH(a b:Int):Bh (a+Bh b)=Bh (a+b):=by rw[Int.add_comm,XA,Int.add_comm]
theorem mM(f:Ab)(hf:ez f):O1 f=some (sizeW f):=by
 have hl:=IQ f.Blocks (default:An) (λb=>b.Phis.length+b.Ops.length) id (K3 f) (λn i hi=>?_) (λn=>?_) f.Blocks.length 0 f.Blocks.length (Fh _)
 ·unfold O1;rw[CX (by have:=hf.blocks;rw[Ii]at this;omega),show((0:Nat):Int)=0 from rfl]at hl;rw[hl,Aq,Je,sizeW,Qb,show(sizeB:An->Nat)=(λb=>(b.Phis.length+b.Ops.length)+1) from rfl,iO]
  rfl
 ·have e1:decide ((i:Int)<(f.Blocks.length:Int))=true:=E7 (by omega);unfold K3;simp only[e1,Ae,Ar (Bb hi),Dp,Jd hi hf.blocks,eH,XA];rw[show(n:Int)+(((f.Blocks.getD i default).Phis.length:Int)+((f.Blocks.getD i default).Ops.length:Int))=((n+((f.Blocks.getD i default).Phis.length+(f.Blocks.getD i default).Ops.length):Nat):Int) by omega]
 ·have e1:decide ((f.Blocks.length:Int)<(f.Blocks.length:Int))=false:=by simp
  unfold K3;simp only[e1,Ax,id]
theorem Wy{α:Type}(l:List α)(d:α)(p:α->Bool)(f:Int->Option (LR Int (Unit ⊕ Bool)))(hn:∀ i:Nat,i<l.length->f i=bif p (l.getD i d) then some (.next ((i:Int)+1)) else some (.done (.inr false)))
  (he:f l.length=some (.done (.inl ()))):Ai f 0=some (bif l.all p then .inl () else .inr false):=by
 have:=S7 l d p f (.inl ()) (.inr false) (λi hi hp=>by rw[hn i hi,hp];rfl) (λi hi hp=>by rw[hn i hi,hp];rfl) he l.length 0 (Fh _)
 simpa using this
theorem ZO(x:Int):(bif decide (x<0) then true else decide (2147483647<x)) = !numB x:=by
 unfold numB
 by_cases h1:x<0
 ·have:¬ 0<=x:=by omega
  simp[h1,this]
 ·by_cases h2:2147483647<x
  ·have:¬ x<=2147483647:=by omega
   simp[h1,h2,this]
  ·have h3:0<=x:=by omega
   have h4:x<=2147483647:=by omega
   simp[h1,h2,h3,h4]
theorem JS(l:List Int)(h:l.length<=maxLen):C3 l=some (l.all numB):=by
 have hl:=Wy l 0 numB (Gy l) (λi hi=>?_) ?_
 ·unfold C3;rw[hl]
  cases l.all numB<;>rfl
 ·have e1:decide ((i:Int)<(l.length:Int))=true:=E7 (by omega);unfold Gy;simp only[e1,Ae,Ar (Bb hi),Dp,ZO,Jd hi h]
  cases numB (l.getD i 0)<;>simp
 ·unfold Gy
  simp
theorem U0(l:List Int)(h:l.length<=maxLen):Fi l=some (Mi l):=by
 unfold Fi;rw[JS l h]
 by_cases h1:l.length<=64
 ·have e1:decide ((l.length:Int)<=64)=true:=E7 (by omega);rw[e1];simp[Mi,h1]
 ·have e1:decide ((l.length:Int)<=64)=false:=Fo (by omega);rw[e1];simp[Mi,h1]
theorem Ux{l:List Int}(h:l.length<=10):l.length<=maxLen:=by rw[Ii];omega
theorem eO(p:Hs)(h1:p.From.length<=maxLen)(h2:p.Args.length<=maxLen):K5 p=some (HK p):=by
 unfold K5 HK;rw[JS _ (Ux (by simp)),U0 _ h1,U0 _ h2];simp only[Sb,List.all_nil,Zv]
 cases numB p.Bits<;>cases numB p.Dst<;>cases Mi p.From<;>cases Mi p.Args<;>rfl
theorem iU(o:D1)(h1:o.Args.length<=maxLen):Mb o=some (dW o):=by
 unfold Mb dW;rw[JS _ (Ux (by simp)),U0 _ h1];simp only[Sb,List.all_nil,Zv]
 cases numB o.Kind<;>cases numB o.Bits<;>cases numB o.Lanes<;>cases numB o.Dst<;>cases Mi o.Args<;>rfl
theorem eL(e:Ju)(h1:e.To.length<=maxLen):K4 e=some (YT e):=by
 unfold K4 YT;rw[JS _ (Ux (by simp)),U0 _ h1];simp only[Sb,List.all_nil,Zv]
 cases numB e.Kind<;>cases numB e.Arg<;>cases Mi e.To<;>rfl
theorem EN{X:Type}(b:Bool)(x y:X):(bif !b then x else y)=bif b then y else x:=by cases b<;>rfl
theorem an(l:List Hs)(hl:l.length<=maxLen)(h:∀ p∈l,p.From.length<=maxLen/\p.Args.length<=maxLen):Gf l=some (l.all HK):=by
 have hl':=Wy l (default:Hs) HK (E4 l) (λi hi=>?_) ?_
 ·unfold Gf;rw[hl']
  cases l.all HK<;>rfl
 ·have e1:decide ((i:Int)<(l.length:Int))=true:=E7 (by omega);have:=h _ (getD_mem (d:=(default:Hs)) hi);unfold E4;simp only[e1,Ae,Ar (Bb hi),Dp,eO _ this.1 this.2,Aq,EN,Jd hi hl,Int.natCast_add,Int.natCast_one]
 ·unfold E4
  simp
theorem eM(l:List D1)(hl:l.length<=maxLen)(h:∀ o∈l,o.Args.length<=maxLen):Gx l=some (l.all dW):=by
 have hl':=Wy l (default:D1) dW (Fe l) (λi hi=>?_) ?_
 ·unfold Gx;rw[hl']
  cases l.all dW<;>rfl
 ·have e1:decide ((i:Int)<(l.length:Int))=true:=E7 (by omega);have:=h _ (getD_mem (d:=(default:D1)) hi);unfold Fe;simp only[e1,Ae,Ar (Bb hi),Dp,iU _ this,Aq,EN,Jd hi hl,Int.natCast_add,Int.natCast_one]
 ·unfold Fe
  simp
theorem UM(b:An)(h1:b.Phis.length<=maxLen)(h2:b.Ops.length<=maxLen)(h3:b.End.To.length<=maxLen)(h4:∀ p∈b.Phis,p.From.length<=maxLen/\p.Args.length<=maxLen)(h5:∀ o∈b.Ops,o.Args.length<=maxLen):Jk b=some (blockB b):=by
 unfold Jk blockB;rw[an _ h1 h4,eM _ h2 h5,eL _ h3]
 cases b.Phis.all HK<;>cases b.Ops.all dW<;>cases YT b.End<;>rfl
theorem QV(f:Ab)(hf:ez f):Fd f.Blocks=some (f.Blocks.all blockB):=by
 have hl':=Wy f.Blocks (default:An) blockB (Ed f.Blocks) (λi hi=>?_) ?_
 ·unfold Fd;rw[hl']
  cases f.Blocks.all blockB<;>rfl
 ·have e1:decide ((i:Int)<(f.Blocks.length:Int))=true:=E7 (by omega);have hm:=getD_mem (d:=(default:An)) hi;have q:=hf.block _ hm;unfold Ed;simp only[e1,Ae,Ar (Bb hi),Dp,UM _ q.1 q.2.1 q.2.2 (hf.phi _ hm) (λo ho=>(hf.op _ hm o ho).1),Aq,EN,Jd hi hf.blocks,Int.natCast_add,Int.natCast_one]
 ·unfold Ed
  simp
theorem nh(f:Ab)(hf:ez f):Rd f=some (U5 f):=by
 unfold Rd U5;rw[mM f hf,JS _ hf.params,JS _ (Ux (by simp)),QV f hf];simp only[Sb,List.all_nil,Zv,Mi]
 have d1:∀ n:Nat,decide ((n:Int)<1) = !decide (1<=n):=λn=>by by_cases h:1<=n<;>simp[h]<;>omega
 have d2:∀ n:Nat,decide ((64:Int)<(n:Int)) = !decide (n<=64):=λn=>by by_cases h:n<=64<;>simp[h]<;>omega
 have d3:∀ n:Nat,decide ((16:Int)<(n:Int)) = !decide (n<=16):=λn=>by by_cases h:n<=16<;>simp[h]<;>omega
 have d4:∀ n:Int,decide ((512:Int)<n) = !decide (n<=512):=λn=>by by_cases h:n<=512<;>simp[h]<;>omega
 simp only[d1,d2,d3,d4]
 have himp:decide (f.Params.length<=16)=true->decide (f.Params.length<=64)=true:=λh=>by simp at h ⊢;omega
 revert himp
 generalize decide (1<=f.Blocks.length)=c1
 generalize decide (f.Blocks.length<=64)=c2
 generalize decide (f.Params.length<=16)=c3
 generalize decide (f.Params.length<=64)=c4
 generalize f.Params.all numB=c6
 generalize numB f.Ret=c7
 generalize f.Blocks.all blockB=c8
 cases c3 with
 | true=>
  intro h;obtain rfl:=h rfl;simp only[Fp,Qf,Ae,Aq,Ax]
  generalize decide (sizeW f<=512)=c5
  cases c1<;>cases c2<;>cases c6<;>cases c7<;>cases c8<;>cases c5<;>rfl
 | false=>
  intro _
  cases c1<;>cases c2<;>rfl
inductive Tp (t:List Int):Nat->Nat->Nat->Prop
 | top {x:Nat} (hx:x<t.length) (h:t.getD x 0 = -1):Tp t x x 0
 | up {x y r k:Nat} (hx:x<t.length) (h:t.getD x 0=(y:Int)) (hk:Tp t y r k):Tp t x r (k+1)
section
variable {t:List Int}
theorem Tp.lt{x r k:Nat}(h:Tp t x r k):x<t.length:=by cases h<;>assumption
theorem Tp.tops{x r k:Nat}(h:Tp t x r k):r<t.length/\t.getD r 0 = -1:=by
 induction h with
 | top hx h=>exact⟨hx,h⟩
 | up _ _ _ ih=>exact ih
theorem Tp.det{x r k r' k':Nat}(h:Tp t x r k)(h':Tp t x r' k'):r=r'/\k=k':=by
 induction h generalizing k' with
 | top hx h=>cases h' with
  | top=>exact⟨rfl,rfl⟩
  | up _ h2 _=>omega
 | up hx h1 _ ih=>cases h' with
  | top _ h2=>omega
  | up _ h2 k2=>
   have:_=_:=h1.symm.trans h2
   cases Vw this
   obtain⟨e1,e2⟩:=ih k2;exact⟨e1,by omega⟩
theorem Tp.upTo{x r k:Nat}(h:Tp t x r k):UpTo (Bc t) x r:=by
 induction h with
 | top=>exact .refl _
 | up _ h _ ih=>exact .up h ih
theorem Tp.on{x r k z:Nat}(h:Tp t x r k)(hz:UpTo (Bc t) x z):∃ j,j<=k/\Tp t z r j/\(j=k->z=x):=by
 induction hz generalizing k with
 | refl x=>exact⟨k,zzL8 _,h,λ_=>rfl⟩
 | up hp _ ih=>
  cases h with
  | top _ h2=>have:_=_:=hp.symm.trans h2;omega
  | up _ h2 k2=>
   have:_=_:=hp.symm.trans h2
   cases Vw this
   obtain⟨j,h1,h3,_⟩:=ih k2;exact⟨j,by omega,h3,λe=>by omega⟩
theorem Tp.anti{x r k z:Nat}(h:Tp t x r k)(h1:UpTo (Bc t) x z)(h2:UpTo (Bc t) z x):z=x:=by
 obtain⟨j,j1,j2,j3⟩:=h.on h1;obtain⟨i,i1,i2,i3⟩:=j2.on h2;have:=h.det i2;exact j3 (by omega)
theorem Tp.list{x r k:Nat}(h:Tp t x r k):∃ l:List Nat,l.length=k+1/\l.Nodup/\∀ y∈l,y<t.length/\∃ j,j<=k/\Tp t y r j:=by
 induction h with
 | top hx h=>exact⟨[_],rfl,by simp,λy hy=>by rw[zzL15.1 hy];exact⟨hx,0,zzL8 _,.top hx h⟩⟩
 | @up x y r k hx h hk ih=>
  obtain⟨l,h1,h2,h3⟩:=ih;refine⟨x::l,by simp[h1],zzL76.2 ⟨λhm=>?_,h2⟩,λz hz=>?_⟩
  ·obtain⟨_,j,hj,hj2⟩:=h3 _ hm;have:=(Tp.up hx h hk).det hj2;omega
  ·rcases zzL22.1 hz with rfl|hz
   ·exact⟨hx,k+1,zzL8 _,.up hx h hk⟩
   ·obtain⟨e1,j,e2,e3⟩:=h3 z hz;exact⟨e1,j,by omega,e3⟩
theorem Tp.short{x r k:Nat}(h:Tp t x r k):k<t.length:=by
 obtain⟨l,h1,h2,h3⟩:=h.list;have:=L6 t.length l h2 λy hy=>(h3 y hy).1;omega
theorem Tp.upD{x r k:Nat}(h:Tp t x r k):∀ m,k<m->∃ q,upD t m (x:Int)=some q/\(∀ w:Int,w∈q↔∃ z:Nat,w=(z:Int)/\UpTo (Bc t) x z) /\
  ∀ p:Int->Bool,(q.find? p=none/\∀ z:Nat,UpTo (Bc t) x z->p (z:Int)=false)\/∃ f:Nat,q.find? p=some (f:Int)/\UpTo (Bc t) x f/\p (f:Int)=true/\∀ z:Nat,UpTo (Bc t) x z->p (z:Int)=true->UpTo (Bc t) f z:=by
 induction h with
 | @top x hx h=>
  intro m hm;obtain⟨m,rfl⟩:∃ i,m=i+1:=⟨m-1,by omega⟩
  have htop:∀ z,UpTo (Bc t) x z↔z=x:=λz=>CB λp hp=>by have:_=_:=hp.symm.trans h;omega
  unfold Go.Proofs.YtiendmljhgbjoaaGreat.upD;rw[if_pos ⟨by omega,by omega⟩,Aw,if_pos h];refine⟨_,rfl,λw=>?_,λp=>?_⟩
  ·rw[zzL15]
   constructor
   ·rintro rfl;exact⟨x,rfl,.refl _⟩
   ·rintro⟨z,rfl,hz⟩;rw[(htop z).1 hz]
  ·cases hpp:p (x:Int) with
   | false=>exact .inl ⟨by simp[List.find?,hpp],λz hz=>by rw[(htop z).1 hz];exact hpp⟩
   | true=>exact .inr ⟨x,by simp[List.find?,hpp],.refl _,hpp,λz hz _=>hz⟩
 | @up x y r k hx h hk ih=>
  intro m hm;obtain⟨m,rfl⟩:∃ i,m=i+1:=⟨m-1,by omega⟩;unfold Go.Proofs.YtiendmljhgbjoaaGreat.upD;rw[if_pos ⟨by omega,by omega⟩,Aw,if_neg (by omega),h];obtain⟨q,hq1,hq2,hq3⟩:=ih m (by omega);rw[hq1];refine⟨(x:Int)::q,rfl,λw=>?_,λp=>?_⟩
  ·rw[zzL22,hq2 w]
   constructor
   ·rintro(rfl|⟨y,rfl,hy⟩)
    ·exact⟨x,rfl,.refl _⟩
    ·exact⟨y,rfl,.up h hy⟩
   ·rintro⟨y,rfl,hy⟩;rcases(anc_up h).1 hy with rfl|hy
    ·exact .inl rfl
    ·exact .inr ⟨y,rfl,hy⟩
  ·cases hpp:p (x:Int) with
   | true=>exact .inr ⟨x,by simp[List.find?,hpp],.refl _,hpp,λy hy _=>hy⟩
   | false=>
    have hf:((x:Int)::q).find? p=q.find? p:=by simp[List.find?,hpp]
    rw[hf];rcases hq3 p with⟨e1,e2⟩|⟨f,e1,e2,e3,e4⟩
    ·refine .inl ⟨e1,λy hy=>?_⟩;rcases(anc_up h).1 hy with rfl|hy
     ·exact hpp
     ·exact e2 y hy
    ·refine .inr ⟨f,e1,.up h e2,e3,λy hy hpy=>?_⟩;rcases(anc_up h).1 hy with rfl|hy
     ·rw[hpp]at hpy;cases hpy
     ·exact e4 y hy hpy
theorem kY:∀ m (a:Int) q,upD t m a=some q->∃ x r k:Nat,a=(x:Int)/\k<m/\Tp t x r k:=by
 intro m
 induction m with
 | zero=>intro a q h;cases h
 | succ m ih=>
  intro a q h;unfold Go.Proofs.YtiendmljhgbjoaaGreat.upD at h
  by_cases ha:0<=a/\a<(t.length:Int)
  ·rw[if_pos ha]at h;have e:((a.toNat:Nat):Int)=a:=Vu ha.1
   by_cases h1:t.getD a.toNat 0 = -1
   ·exact⟨a.toNat,a.toNat,0,e.symm,by omega,.top (by omega) h1⟩
   ·rw[if_neg h1]at h
    cases hu:Go.Proofs.YtiendmljhgbjoaaGreat.upD t m (t.getD a.toNat 0) with
    | none=>rw[hu]at h;cases h
    | some q'=>
     obtain⟨y,r,k,e1,e2,e3⟩:=ih _ _ hu;exact⟨a.toNat,r,k+1,e.symm,by omega,.up (by omega) e1 e3⟩
  ·rw[if_neg ha]at h;cases h
theorem pathD_tp{a:Int}:E0 t a≠[]↔∃ x r k:Nat,a=(x:Int)/\Tp t x r k:=by
 constructor
 ·intro h
  cases hu:upD t t.length a with
  | none=>exact absurd (pathD_nil.2 hu) h
  | some q=>obtain⟨x,r,k,e1,_,e2⟩:=kY _ _ _ hu;exact⟨x,r,k,e1,e2⟩
 ·rintro⟨x,r,k,rfl,h⟩ e;obtain⟨q,hq,_⟩:=h.upD t.length h.short;rw[pathD_nil.1 e]at hq;cases hq
theorem Tp.path{x r k:Nat}(h:Tp t x r k):(∀ w:Int,w∈E0 t (x:Int)↔∃ z:Nat,w=(z:Int)/\UpTo (Bc t) x z) /\
  ∀ p:Int->Bool,((E0 t (x:Int)).find? p=none/\∀ z:Nat,UpTo (Bc t) x z->p (z:Int)=false)\/∃ f:Nat,(E0 t (x:Int)).find? p=some (f:Int)/\UpTo (Bc t) x f/\p (f:Int)=true/\∀ z:Nat,UpTo (Bc t) x z->p (z:Int)=true->UpTo (Bc t) f z:=by
 obtain⟨q,h1,h2,h3⟩:=h.upD t.length h.short
 have e:E0 t (x:Int)=q:=by unfold E0;rw[h1];rfl
 rw[e];exact⟨h2,h3⟩
theorem DV{α:Type}{l:List α}{i j:Nat}{x d:α}(hi:i<l.length):(l.set i x).getD j d=if j=i then x else l.getD j d:=by
 by_cases h:j=i
 ·subst h;simp[List.getD,hi]
 ·simp[List.getD,h,Hq h]
theorem gf{x r k:Nat}(h:Tp t x r k):∀ l:List Bool,l.length=t.length->∃ l',Ai (Fy t) ((x:Int),l)=some l'/\l'.length=t.length/\∀ z,z<t.length->(l'.getD z false=true↔l.getD z false=true\/UpTo (Bc t) x z):=by
 induction h with
 | @top x hx h=>
  intro l hl
  have hs:Fy t ((x:Int),l)=some (.next (-1,l.set x true)):=by
   unfold Fy
   have hb:((x:Int)!=(-1:Int))=true:=by rw[zzL93];omega
   simp only[hb,Ae,Aw,h];rw[Ad (Hh (by omega)),Ad (Hh hx)]
  have hd:Fy t (-1,l.set x true)=some (.done (l.set x true)):=by
   unfold Fy
   rfl
  refine⟨l.set x true,by rw[Am hs,Ah hd],by simp[hl],λz hz=>?_⟩;rw[DV (by omega)]
  have htop:UpTo (Bc t) x z↔z=x:=CB λp hp=>by have:_=_:=hp.symm.trans h;omega
  rw[htop]
  by_cases e:z=x
  ·simp[e]
  ·simp[e]
 | @up x y r k hx h hk ih=>
  intro l hl
  have hs:Fy t ((x:Int),l)=some (.next ((y:Int),l.set x true)):=by
   unfold Fy
   have hb:((x:Int)!=(-1:Int))=true:=by rw[zzL93];omega
   simp only[hb,Ae,Aw,h];rw[Ad (Hh (by omega)),Ad (Hh hx)]
  obtain⟨l',e1,e2,e3⟩:=ih (l.set x true) (by simp[hl]);refine⟨l',by rw[Am hs,e1],e2,λz hz=>?_⟩;rw[e3 z hz,DV (by omega),anc_up (par:=Bc t) h]
  by_cases e:z=x
  ·simp[e]
  ·simp[e]
theorem gh{b r k:Nat}(h:Tp t b r k)(l:List Bool)(hl:l.length=t.length):l.getD r false=true->∃ c:Nat,Ai (Fz t l) (b:Int)=some (c:Int)/\UpTo (Bc t) b c/\l.getD c false=true/\∀ z,UpTo (Bc t) b z->l.getD z false=true->UpTo (Bc t) c z:=by
 induction h with
 | @top x hx h=>
  intro hr
  have hd:Fz t l (x:Int)=some (.done (x:Int)):=by
   unfold Fz;rw[Ad (Hh (by omega)),Aw,hr]
   rfl
  exact⟨x,Ah hd,.refl _,hr,λz hz _=>hz⟩
 | @up x y r k hx h hk ih=>
  intro hr
  cases hx2:l.getD x false with
  | true=>
   have hd:Fz t l (x:Int)=some (.done (x:Int)):=by
    unfold Fz;rw[Ad (Hh (by omega)),Aw,hx2]
    rfl
   exact⟨x,Ah hd,.refl _,hx2,λz hz _=>hz⟩
  | false=>
   have hs:Fz t l (x:Int)=some (.next (y:Int)):=by
    unfold Fz;rw[Ad (Hh (by omega)),Aw,hx2,Ms,Ae,Ad (Hh hx),h]
   obtain⟨c,e1,e2,e3,e4⟩:=ih hr;refine⟨c,by rw[Am hs,e1],.up h e2,e3,λz hz hlz=>?_⟩;rcases(anc_up (par:=Bc t) h).1 hz with rfl|hz
   ·rw[hx2]at hlz;cases hlz
   ·exact e4 z hz hlz
theorem AN(ht:t.length<=1000){a b r k m:Nat}(ha:Tp t a r k)(hb:Tp t b r m):∃ c:Nat,L3 t (a:Int) (b:Int)=some (c:Int)/\MeetAt (Bc t) a b c:=by
 unfold L3
 have hroom:(1000:Nat)<=room:=by decide
 rw[Ad ⟨by omega,by omega,by omega⟩,Aw];obtain⟨l',h1,h2,h3⟩:=gf ha (List.replicate t.length false) (by simp);rw[h1,Aq]
 have h3':∀ z,z<t.length->(l'.getD z false=true↔UpTo (Bc t) a z):=λz hz=>by rw[h3 z hz,Oa];simp
 obtain⟨c,e1,e2,e3,e4⟩:=gh hb l' h2 ((h3' r ha.tops.1).2 ha.upTo)
 have hc:c<t.length:=by obtain⟨j,_,hj,_⟩:=hb.on e2;exact hj.lt
 refine⟨c,by rw[e1];rfl,λw=>⟨λhw=>⟨((h3' c hc).1 e3).trans hw,e2.trans hw⟩,λ⟨hw1,hw2⟩=>?_⟩⟩;obtain⟨j,_,hj,_⟩:=ha.on hw1;exact e4 w hw2 ((h3' w hj.lt).2 hw1)
theorem dG(hR:Ja t=true){a b r k m:Nat}(ha:Tp t a r k)(hb:Tp t b r m):∃ c:Nat,Mj t (a:Int) (b:Int)=(c:Int)/\MeetAt (Bc t) a b c:=by
 unfold Mj;rw[if_pos hR]
 have hcon:∀ z:Nat,(E0 t (b:Int)).contains (z:Int)=true↔UpTo (Bc t) b z:=λz=>by
  rw[GF,hb.path.1]
  constructor
  ·rintro⟨y,e,hy⟩;cases Vw e;exact hy
  ·intro hz;exact⟨z,rfl,hz⟩
 rcases ha.path.2 (λx=>(E0 t (b:Int)).contains x) with⟨e1,e2⟩|⟨f,e1,e2,e3,e4⟩
 ·have:=e2 r ha.upTo;rw[(hcon r).2 hb.upTo]at this
  cases this
 ·exact⟨f,by rw[e1];rfl,λw=>⟨λhw=>⟨e2.trans hw,((hcon f).1 e3).trans hw⟩,λ⟨hw1,hw2⟩=>e4 w hw1 ((hcon w).2 hw2)⟩⟩
theorem MeetAt.same{a b r k c d:Nat}(ha:Tp t a r k)(hc:MeetAt (Bc t) a b c)(hd:MeetAt (Bc t) a b d):c=d:=by
 obtain⟨j,_,hj,_⟩:=ha.on ((hc c).1 (.refl _)).1;exact(hj.anti ((hc d).2 ((hd d).1 (.refl _))) ((hd c).2 ((hc c).1 (.refl _)))).symm
end
theorem m_index(t:List Int)(v:Int)(ht:t.length<=1000):(∃ r:Nat,r<t.length/\t.getD r 0=v/\(∀ i,i<r->t.getD i 0≠v)/\Ej t v=some (r:Int))\/((∀ i,i<t.length->t.getD i 0≠v)/\Ej t v=some (-1)):=by
 have key:∀ k i:Nat,i+k=t.length->(∀ j,j<i->t.getD j 0≠v)->
   (∃ r:Nat,r<t.length/\t.getD r 0=v/\(∀ i,i<r->t.getD i 0≠v)/\Ai (Bz t v) (i:Int)=some (.inr (r:Int)))\/((∀ i,i<t.length->t.getD i 0≠v)/\Ai (Bz t v) (i:Int)=some (.inl ())):=by
  intro k
  induction k with
  | zero=>
   intro i hi hj
   obtain rfl:i=t.length:=by omega
   refine .inr ⟨hj,Ah ?_⟩;unfold Bz;rw[Jw];rfl
  | succ k ih=>
   intro i hi hj
   by_cases e:v=t.getD i 0
   ·refine .inl ⟨i,by omega,e.symm,hj,Ah ?_⟩;unfold Bz;have hb:((v:Int)==t.getD i 0)=true:=zzL74.2 e;simp only[E8 (show i<t.length by omega),Ae,Aw,hb];rw[Ad (Hh (by omega))]
   ·have hs:Bz t v (i:Int)=some (.next ((i+1:Nat):Int)):=by
     unfold Bz;have hb:((v:Int)==t.getD i 0)=false:=zzL23.2 e;simp only[E8 (show i<t.length by omega),Ae,Aw,hb,Ax];rw[Ad (Hh (by omega)),w1 (by omega)]
    rw[Am hs]
    exact ih (i+1) (by omega) λj hj2=>by
     by_cases ej:j=i
     ·subst ej;exact λh=>e h.symm
     ·exact hj j (by omega)
 have h0:=key t.length 0 (by omega) (λj hj=>absurd hj (Nc _));unfold Ej;rcases h0 with⟨r,h1,h2,h3,h4⟩|⟨h1,h2⟩
 ·exact .inl ⟨r,h1,h2,h3,by rw[show((0:Int))=((0:Nat):Int) from rfl,h4];rfl⟩
 ·exact .inr ⟨h1,by rw[show((0:Int))=((0:Nat):Int) from rfl,h2];rfl⟩
section
variable {t:List Int}
structure Vc(t:List Int)(r f:Nat)(w:List Int):Prop where
 len:w.length=t.length
 old:∀ y,y<t.length->w.getD y 0≠0->(w.getD y 0<=(f:Int))/\∃ k,Tp t y r k
structure bX(t:List Int)(r f x:Nat)(w:List Int):Prop where
 len:w.length=t.length
 hx:x<t.length
 old:∀ y,y<t.length->w.getD y 0≠0->w.getD y 0<=(f:Int)/\(∃ k,Tp t y r k)\/w.getD y 0=((f+1:Nat):Int)/\∀ r' k,Tp t x r' k->∃ j,k<j/\Tp t y r' j
 fwd:∀ r' k,Tp t x r' k->∃ j,k<=j/\Tp t f r' j
 back:∀ r' k,Tp t f r' k->∃ j,Tp t x r' j
def JU(w:List Int):Nat:=w.countP λz=>z==0
theorem ar{w:List Int}{x:Nat}{v:Int}(hx:x<w.length)(h0:w.getD x 0=0)(hv:v≠0):JU (w.set x v)<JU w:=by
 unfold JU;rw[List.countP_set hx];rw[Aa _ _ _ hx]at h0;have hp:0<w.countP λz=>z==0:=List.countP_pos_iff.2 ⟨w[x],Yb hx,by simp[h0]⟩;have hb:(v==0)=false:=zzL23.2 hv;simp only[h0,Qf,Hp,hb,X8,E2];omega
theorem leads_loop(ht:t.length<=1000){r:Nat}(hr:r<t.length)(htop:t.getD r 0 = -1){f:Nat}(hf:f<t.length):∀(m x:Nat) (w:List Int),JU w<=m->bX t r f x w->
  (∃ w',Ai (Cw t (f:Int) (r:Int)) ((x:Int),w)=some (.inl w')/\Vc t r (f+1) w'/\∃ k,Tp t f r k) \/
  ∃ b w',Ai (Cw t (f:Int) (r:Int)) ((x:Int),w)=some (.inr (b,w'))/\w'.length=t.length/\(b=true->Vc t r (f+1) w'/\∃ k,Tp t f r k)/\(b=false->∀ k,¬ Tp t f r k):=by
 intro m
 induction m with
 | zero=>
  intro x w hz hw;exact go 0 (λx w hz=>absurd hz (Nc _)) x w hz hw
 | succ m ih=>
  intro x w hz hw;exact go (m+1) (λx w hz=>ih x w (Nat.le_of_lt_succ hz)) x w hz hw
where
 go (m:Nat) (ih:∀(x:Nat) (w:List Int),JU w<m->bX t r f x w->
  (∃ w',Ai (Cw t (f:Int) (r:Int)) ((x:Int),w)=some (.inl w')/\Vc t r (f+1) w'/\∃ k,Tp t f r k) \/
  ∃ b w',Ai (Cw t (f:Int) (r:Int)) ((x:Int),w)=some (.inr (b,w'))/\w'.length=t.length/\(b=true->Vc t r (f+1) w'/\∃ k,Tp t f r k)/\(b=false->∀ k,¬ Tp t f r k)) (x:Nat) (w:List Int) (hz:JU w<=m) (hw:bX t r f x w) :
  (∃ w',Ai (Cw t (f:Int) (r:Int)) ((x:Int),w)=some (.inl w')/\Vc t r (f+1) w'/\∃ k,Tp t f r k) \/
  ∃ b w',Ai (Cw t (f:Int) (r:Int)) ((x:Int),w)=some (.inr (b,w'))/\w'.length=t.length/\(b=true->Vc t r (f+1) w'/\∃ k,Tp t f r k)/\(b=false->∀ k,¬ Tp t f r k):=by
  have hxl:=hw.hx
  have told:∀ k,Tp t x r k->Vc t r (f+1) w/\∃ k,Tp t f r k:=λk hk=>by
   obtain⟨j,_,hj⟩:=hw.fwd _ _ hk;refine⟨⟨hw.len,λy hy hy0=>?_⟩,j,hj⟩;rcases hw.old y hy hy0 with⟨h1,h2⟩|⟨h1,h2⟩
   ·exact⟨by omega,h2⟩
   ·obtain⟨i,_,hi⟩:=h2 _ _ hk;exact⟨by omega,i,hi⟩
  by_cases hxr:x=r
  ·subst hxr;refine .inl ⟨w,Ah ?_,told 0 (.top hr htop)⟩;unfold Cw
   have hb:((x:Int)!=(x:Int))=false:=by simp
   simp only[hb,Ax]
  ·have hb:((x:Int)!=(r:Int))=true:=by rw[zzL93];omega
   have hin:Bx (x:Int) w.length:=Hh (by rw[hw.len];exact hxl)
   by_cases hw0:w.getD x 0=0
   ·have hb0:((w.getD x 0:Int)!=0)=false:=by rw[hw0];rfl
    by_cases hpl:0<=t.getD x 0/\t.getD x 0<(t.length:Int)
    ·have hwf:Bh ((f:Int)+1)=((f+1:Nat):Int):=w1 (by omega)
     have hs:Cw t (f:Int) (r:Int) ((x:Int),w)=some (.next (t.getD x 0,w.set x ((f+1:Nat):Int))):=by
      unfold Cw Ig;simp only[hb,Ae,Aw,hb0,Ax];rw[Ad hin,Ad (Hh hxl),E7 hpl.1,E7 hpl.2,Ae,Aq,Fp,Ax,Ad hin,Ad (Hh hxl),hwf]
     rw[Am hs];obtain⟨y,hy⟩:∃ y:Nat,t.getD x 0=(y:Int):=⟨(t.getD x 0).toNat,(Vu hpl.1).symm⟩;rw[hy]at hpl ⊢
     have hyl:y<t.length:=by omega
     have hst:∀ r' k,Tp t y r' k->Tp t x r' (k+1):=λr' k hk=>.up hxl hy hk
     have hset:∀ z,z<t.length->(w.set x ((f+1:Nat):Int)).getD z 0=if z=x then((f+1:Nat):Int) else w.getD z 0:=λz _=>DV (by rw[hw.len];exact hxl)
     have hW:bX t r f y (w.set x ((f+1:Nat):Int)):=by
      refine⟨by simp[hw.len],hyl,λz hzl hz0=>?_,λr' k hk=>?_,λr' k hk=>?_⟩
      ·rw[hset z hzl]at hz0 ⊢
       by_cases e:z=x
       ·subst e;rw[if_pos rfl];exact .inr ⟨rfl,λr' k hk=>⟨k+1,by omega,hst r' k hk⟩⟩
       ·rw[if_neg e]at hz0 ⊢;rcases hw.old z hzl hz0 with h1|⟨h1,h2⟩
        ·exact .inl h1
        ·refine .inr ⟨h1,λr' k hk=>?_⟩;obtain⟨j,hj1,hj2⟩:=h2 _ _ (hst r' k hk);exact⟨j,by omega,hj2⟩
      ·obtain⟨j,hj1,hj2⟩:=hw.fwd _ _ (hst r' k hk);exact⟨j,by omega,hj2⟩
      ·obtain⟨j,hj⟩:=hw.back _ _ hk
       cases hj with
       | top _ h2=>omega
       | up _ h2 h3=>
        have:=hy.symm.trans h2
        cases Vw this
        exact⟨_,h3⟩
     have hzz:=ar (x:=x) (v:=((f+1:Nat):Int)) (by rw[hw.len];exact hxl) hw0 (by omega);exact ih y _ (by omega) hW
    ·refine .inr ⟨false,w,Ah ?_,hw.len,⟨λh=>(by cases h),λ_ k hk=>?_⟩⟩
     ·unfold Cw Ig;simp only[hb,Ae,Aw,hb0,Ax];rw[Ad hin,Ad (Hh hxl)]
      have:(bif decide ((0:Int)<=t.getD x 0) then decide (t.getD x 0<(t.length:Int)) else false)=false:=by
       cases h1:decide ((0:Int)<=t.getD x 0) with
       | false=>rfl
       | true=>rw[Ae];exact Fo λh2=>hpl ⟨X9 h1,h2⟩
      rw[this,Aq]
      rfl
     ·obtain⟨j,hj⟩:=hw.back _ _ hk
      cases hj with
      | top=>exact hxr rfl
      | up _ h2 h3=>have:=h3.lt;exact hpl ⟨by omega,by omega⟩
   ·have hb0:((w.getD x 0:Int)!=0)=true:=by rw[zzL93];exact hw0
    have hwf:Bh ((f:Int)+1)=((f+1:Nat):Int):=w1 (by omega);refine .inr ⟨w.getD x 0 !=((f+1:Nat):Int),w,Ah ?_,hw.len,⟨λh=>?_,λh k hk=>?_⟩⟩
    ·unfold Cw;simp only[hb,Ae,Aw,hb0];rw[Ad hin,Ad hin,hwf]
    ·rcases hw.old x hxl hw0 with⟨_,k,hk⟩|⟨h1,_⟩
     ·exact told k hk
     ·rw[h1]at h;simp at h
    ·have he:w.getD x 0=((f+1:Nat):Int):=by simpa using h
     obtain⟨j,hj⟩:=hw.back _ _ hk;rcases hw.old x hxl hw0 with⟨h1,_⟩|⟨_,h2⟩
     ·omega
     ·obtain⟨i,hi1,hi2⟩:=h2 _ _ hj;have:=hj.det hi2;omega
end
section
variable {t:List Int}
theorem ga(ht:t.length<=1000){r:Nat}(hr:r<t.length)(htop:t.getD r 0 = -1){f:Nat}(hf:f<t.length){w:List Int}(hw:Vc t r f w) :
  ∃ b w',O3 t w (f:Int) (r:Int)=some (b,w')/\w'.length=t.length/\(b=true->Vc t r (f+1) w'/\∃ k,Tp t f r k)/\(b=false->∀ k,¬ Tp t f r k):=by
 unfold O3;have hW:bX t r f f w:=⟨hw.len,hf,λy hy h0=>.inl (hw.old y hy h0),λr' k hk=>⟨k,zzL8 _,hk⟩,λr' k hk=>⟨k,hk⟩⟩;rcases leads_loop ht hr htop hf _ f w (zzL8 _) hW with⟨w',e1,e2⟩|⟨b,w',e1,e2,e3,e4⟩
 ·exact⟨true,w',by rw[e1];rfl,e2.1.len,λ_=>e2,λh=>by cases h⟩
 ·exact⟨b,w',by rw[e1];rfl,e2,e3,e4⟩
def HR(t:List Int)(r:Nat):Prop:=∀ f,f<t.length->t.getD f 0≠-2->∃ k,Tp t f r k
open Classical in
theorem OK(ht:t.length<=1000){r:Nat}(hr:r<t.length)(htop:t.getD r 0 = -1):∀(k f:Nat) (w:List Int),f+k=t.length->Vc t r f w->(∀ y,y<f->t.getD y 0≠-2->∃ k,Tp t y r k)->
  Ai (Eo t (r:Int)) ((f:Int),w)=some (if HR t r then .inl () else .inr false):=by
 intro k
 induction k with
 | zero=>
  intro f w hk hw hd
  obtain rfl:f=t.length:=by omega
  apply Ah
  unfold Eo;simp only[Jw,Ax];rw[if_pos (show HR t r from hd)]
 | succ k ih=>
  intro f w hk hw hd
  have hf:f<t.length:=by omega
  by_cases h2:t.getD f 0 = -2
  ·have hb:((t.getD f 0:Int)!=(-2))=false:=by rw[h2];rfl
   have hs:Eo t (r:Int) ((f:Int),w)=some (.next (((f+1:Nat):Int),w)):=by
    unfold Eo;simp only[E8 hf,Ae,Aw,hb,show(false==true)=false from rfl,Ax,Aq];rw[Ad (Hh hf),Ad (λh=>by cases h),w1 (by omega)]
   rw[Am hs];refine ih (f+1) w (by omega) ⟨hw.len,λy hy h0=>?_⟩ λy hy hy2=>?_
   ·obtain⟨e1,e2⟩:=hw.old y hy h0;exact⟨by omega,e2⟩
   ·by_cases e:y=f
    ·subst e;exact absurd h2 hy2
    ·exact hd y (by omega) hy2
  ·have hb:((t.getD f 0:Int)!=(-2))=true:=by rw[zzL93];exact h2
   obtain⟨b,w',e1,e2,e3,e4⟩:=ga ht hr htop hf hw
   cases b with
   | false=>
    rw[if_neg (λhA:HR t r=>by obtain⟨k,hk⟩:=hA f hf h2;exact e4 rfl k hk)]
    apply Ah
    unfold Eo;simp only[E8 hf,Ae,Aw,hb,show(true==true)=true from rfl,e1,Aq];rw[Ad (Hh hf),Ad (λ_=>by rw[hw.len,e2])]
    rfl
   | true=>
    have hs:Eo t (r:Int) ((f:Int),w)=some (.next (((f+1:Nat):Int),w')):=by
     unfold Eo;simp only[E8 hf,Ae,Aw,hb,show(true==true)=true from rfl,e1,Aq];rw[Ad (Hh hf),Ad (λ_=>by rw[hw.len,e2]),w1 (by omega)]
     rfl
    rw[Am hs];obtain⟨e5,e6⟩:=e3 rfl;refine ih (f+1) w' (by omega) e5 λy hy hy2=>?_
    by_cases e:y=f
    ·subst e;exact e6
    ·exact hd y (by omega) hy2
theorem eC:X4 t t.length=1↔∃ r,r<t.length/\t.getD r 0 = -1/\∀ x,x<t.length->t.getD x 0 = -1->x=r:=by
 have key:∀ n,(X4 t n=0↔∀ x,x<n->t.getD x 0≠-1)/\(X4 t n=1↔∃ r,r<n/\t.getD r 0 = -1/\∀ x,x<n->t.getD x 0 = -1->x=r):=by
  intro n
  induction n with
  | zero=>exact⟨⟨λ_ x hx=>absurd hx (Nc _),λ_=>rfl⟩,⟨λh=>by simp[X4]at h,λ⟨r,h,_⟩=>absurd h (Nc _)⟩⟩
  | succ n ih=>
   rw[FW]
   by_cases e:t.getD n 0 = -1
   ·rw[if_pos e];refine⟨⟨λh=>by omega,λh=>absurd e (h n (by omega))⟩,⟨λh=>⟨n,by omega,e,λx hx hx1=>?_⟩,λ⟨r,h1,h2,h3⟩=>?_⟩⟩
    ·by_cases ex:x=n
     ·exact ex
     ·exact absurd hx1 (ih.1.1 (by omega) x (by omega))
    ·have:=ih.1.2 λx hx hx1=>by
      have:=h3 x (by omega) hx1;have:=h3 n (by omega) e;omega
     omega
   ·rw[if_neg e,Lt];refine⟨⟨λh x hx=>?_,λh=>ih.1.2 λx hx=>h x (by omega)⟩,⟨λh=>?_,λ⟨r,h1,h2,h3⟩=>?_⟩⟩
    ·by_cases ex:x=n
     ·subst ex;exact e
     ·exact ih.1.1 h x (by omega)
    ·obtain⟨r,h1,h2,h3⟩:=ih.2.1 h;refine⟨r,by omega,h2,λx hx hx1=>?_⟩
     by_cases ex:x=n
     ·subst ex;exact absurd hx1 e
     ·exact h3 x (by omega) hx1
    ·refine ih.2.2 ⟨r,?_,h2,λx hx hx1=>h3 x (by omega) hx1⟩
     by_cases ex:r=n
     ·subst ex;exact absurd h2 e
     ·omega
 exact(key _).2
theorem rightD_iff:Ja t=true↔∃ r,r<t.length/\t.getD r 0 = -1/\HR t r:=by
 unfold Ja;rw[A3,all_range,Ds,eC]
 constructor
 ·rintro⟨h1,r,h2,h3,h4⟩;refine⟨r,h2,h3,λf hf hf2=>?_⟩;have:=h1 f hf;unfold mr at this;rw[Vv,Ds,Pe,JV]at this;rcases this with h|h
  ·exact absurd h hf2
  ·obtain⟨x,r',k,e,hk⟩:=pathD_tp.1 h
   cases Vw e
   have:=h4 _ hk.tops.1 hk.tops.2;subst this;exact⟨k,hk⟩
 ·rintro⟨r,h2,h3,h4⟩;refine⟨λf hf=>?_,r,h2,h3,λx hx hx1=>?_⟩
  ·unfold mr;rw[Vv,Ds,Pe,JV]
   by_cases e:t.getD f 0 = -2
   ·exact .inl e
   ·obtain⟨k,hk⟩:=h4 f hf e;exact .inr (pathD_tp.2 ⟨f,r,k,rfl,hk⟩)
  ·obtain⟨k,hk⟩:=h4 x hx (by omega);exact((hk.det (.top hx hx1)).1).symm
theorem JL(hR:Ja t=true):∃ r,HR t r:=by obtain⟨r,_,_,h⟩:=rightD_iff.1 hR;exact⟨r,h⟩
theorem dC(ht:t.length<=1000):Ni t=some (Ja t):=by
 unfold Ni
 have hroom:(1000:Nat)<=room:=by decide
 rcases m_index t (-1) ht with⟨r,h1,h2,h3,h4⟩|⟨h1,h2⟩
 ·rw[h4,Aq,show decide ((r:Int)<0)=false from Fo (by omega),Ax,Ad ⟨by omega,by omega,by omega⟩,Aw];have hl:=OK ht h1 h2 t.length 0 (List.replicate t.length 0) (by omega) ⟨by simp,λy hy h0=>absurd Oa h0⟩ (λy hy=>absurd hy (Nc _));rw[show(((0:Nat):Int))=0 from rfl]at hl;rw[hl,Aq]
  by_cases hA:HR t r
  ·rw[if_pos hA,rightD_iff.2 ⟨r,h1,h2,hA⟩]
  ·rw[if_neg hA]
   have:Ja t=false:=Bool.eq_false_iff.2 λhR=>by
    obtain⟨r',g1,g2,g3⟩:=rightD_iff.1 hR;obtain⟨k,hk⟩:=g3 r h1 (by omega);have:=(hk.det (.top h1 h2)).1;subst this;exact hA g3
   rw[this]
 ·rw[h2,Aq]
  have:Ja t=false:=Bool.eq_false_iff.2 λhR=>by
   obtain⟨r',g1,g2,g3⟩:=rightD_iff.1 hR;exact h1 r' g1 g2
  rw[this]
  rfl
def Wb(t:List Int)(a:Int):Bool:=decide (0<=a)&&decide (a<(t.length:Int))&&decide (t.getD a.toNat 0≠-2)
theorem DX(hR:Ja t=true){a:Int}:Wb t a=true↔∃ x k r:Nat,a=(x:Int)/\Tp t x r k:=by
 unfold Wb;rw[A3,A3,Ds,Ds,Ds]
 constructor
 ·rintro⟨⟨h1,h2⟩,h3⟩;obtain⟨r,hA⟩:=JL hR;obtain⟨k,hk⟩:=hA a.toNat (by omega) h3;exact⟨a.toNat,k,r,(Vu h1).symm,hk⟩
 ·rintro⟨x,k,r,rfl,h⟩;have:=h.lt;refine⟨⟨by omega,by omega⟩,?_⟩;rw[Aw]
  cases h with
  | top _ h2=>omega
  | up _ h2 _=>omega
theorem EG(a:Int):Iw t a=some (Wb t a):=by
 unfold Iw Ig Wb;rw[Aq]
 cases h1:decide ((0:Int)<=a) with
 | false=>rfl
 | true=>
  rw[Ae,Hd]
  cases h2:decide (a<(t.length:Int)) with
  | false=>rfl
  | true=>
   rw[Ad (λ_=>⟨X9 h1,X9 h2⟩),Ae,Hd]
   congr 1
   rw[Mr,zzL93,Ds]
theorem gZ(ht:t.length<=1000)(a b:Int):O2 t a b=some (Ja t&&Wb t a&&Wb t b):=by
 unfold O2;rw[dC ht,Aq]
 cases Ja t with
 | false=>rfl
 | true=>
  simp only[show(true==true)=true from rfl,Ae,EG,Aq,Hd]
  cases Wb t a with
  | false=>rfl
  | true=>simp only[show(true==true)=true from rfl,Ae,EG,Aq,Hd]
theorem ZL{a b:Int}(h:(Ja t&&Wb t a&&Wb t b)=false):Mj t a b = -2:=by
 unfold Mj
 by_cases hR:Ja t=true
 ·rw[if_pos hR];rw[hR,Hd]at h
  have hno:∀ c,Wb t c=false->E0 t c=[]:=λc hc=>by
   by_cases e:E0 t c=[]
   ·exact e
   ·obtain⟨x,r,k,e1,e2⟩:=pathD_tp.1 e;rw[(DX hR).2 ⟨x,k,r,e1,e2⟩]at hc;cases hc
  cases ha:Wb t a with
  | false=>rw[hno a ha];rfl
  | true=>
   rw[ha,Hd]at h;rw[hno b h]
   have:((E0 t a).find? λx=>([]:List Int).contains x)=none:=List.find?_eq_none.2 λx _=>by simp
   rw[this]
   rfl
 ·rw[if_neg hR]
theorem GZ(ht:t.length<=1000){a b:Int}(h:(Ja t&&Wb t a&&Wb t b)=true):L3 t a b=some (Mj t a b)/\0<=Mj t a b:=by
 rw[A3,A3]at h;obtain⟨⟨hR,ha⟩,hb⟩:=h;obtain⟨x,k,r,rfl,hx⟩:=(DX hR).1 ha;obtain⟨y,m,r',rfl,hy⟩:=(DX hR).1 hb;obtain⟨rr,hA⟩:=JL hR
 have top:∀{x r k},Tp t x r k->r=rr:=λ{x r k} h=>by
  obtain⟨i,hi⟩:=hA r h.tops.1 (by rw[h.tops.2];omega);exact((Tp.top h.tops.1 h.tops.2).det hi).1
 obtain rfl:=top hx;obtain rfl:=top hy;obtain⟨c,h1,h2⟩:=AN ht hx hy;obtain⟨d,h3,h4⟩:=dG hR hx hy;have:=h2.same hx h4;subst this;exact⟨by rw[h1,h3],by omega⟩
theorem kB(ht:t.length<=1000)(a b:Int):Re t a b=some (N8 t a b):=by
 unfold Re N8;rw[gZ ht,Aq]
 cases h:(Ja t&&Wb t a&&Wb t b) with
 | false=>
  rw[ZL h]
  have:((-2:Int)==a&&((-2:Int)!=-2))=false:=by simp
  rw[this]
  rfl
 | true=>
  obtain⟨h1,h2⟩:=GZ ht h;simp only[show(true==true)=true from rfl,Ae,h1,Aq]
  have:(Mj t a b !=-2)=true:=by rw[zzL93];omega
  rw[this,Zv]
end
theorem gr:∀ n:Fin 65,L1 (Cf 1) (Cf ((n.val:Nat):Int))=some (0,((n.val:Nat):Int)):=by decide +kernel
theorem ZN{n:Nat}(h:n<=64):L1 (Cf 1) (Cf (n:Int))=some (0,(n:Int)):=gr ⟨n,by omega⟩
theorem QG{v:Int}{n:Nat}(hn:n<=64):∀(m i:Nat) (l:List Int),n-i<=m->1<=i->i<=n->l.length=n->(∀ j,j<i->l.getD j 0=v)->Ai Cd ((i:Int),l)=some (List.replicate n v):=by
 intro m
 induction m with
 | zero=>
  intro i l hm h1 h2 hl hv
  obtain rfl:i=n:=by omega
  exact fin l hl hv
 | succ m ih=>
  intro i l hm h1 h2 hl hv
  by_cases e:i=n
  ·subst e;exact fin l hl hv
  ·have hs:Cd ((i:Int),l)=some (.next (((i+Nat.min i (n-i):Nat):Int),SS l i (Nat.min i (n-i)) (λj=>l.getD (0+j) 0))):=by
    unfold Cd;simp only[hl,E8 (show i<n by omega),Ae,Aw,Fh,T5];have hc:(0:Int)<=(i:Int)/\i<=n:=⟨by omega,h2⟩;have hmn:Nat.min i (n-i)<=i:=Nat.min_le_left _ _;rw[Ad hc,Ad hc,Hb (by omega) (by omega),Int.natCast_add]
   rw[Am hs];have hmn:Nat.min i (n-i)<=i/\Nat.min i (n-i)<=n-i:=⟨Nat.min_le_left _ _,Nat.min_le_right _ _⟩;have hge:1<=Nat.min i (n-i):=Nat.le_min.2 ⟨h1,by omega⟩;refine ih _ _ (by omega) (by omega) (by omega) (by rw[<- F6];exact hl) λj hj=>?_;rw[DK _ _ _ _ _ _ (by omega)]
   by_cases hji:i<=j/\j<i+Nat.min i (n-i)
   ·rw[if_pos hji,Fh];exact hv _ (by omega)
   ·rw[if_neg hji];exact hv _ (by omega)
where
 fin {v:Int} {i:Nat} (l:List Int) (hl:l.length=i) (hv:∀ j,j<i->l.getD j 0=v):Ai Cd ((i:Int),l)=some (List.replicate i v):=by
  apply Ah
  unfold Cd;simp only[hl,Jw,Ax]
  congr 2
  refine Wp (by simp[hl]) λj h1 h2=>?_;rw[<- Aa _ _ 0 h1,hv j (by omega)]
  simp
theorem dD{v:Int}{n:Nat}(h1:1<=n)(hn:n<=64):Ff [v] (n:Int)=some (List.replicate n v):=by
 have hroom:(64:Nat)<=room:=by decide
 unfold Ff;rw[show decide ((n:Int)<0)=false from Fo (by omega),Ax,Aq]
 show Option.bind (L1 (Cf 1) (Cf (n:Int))) _=_
 rw[ZN hn,Aq];have e1:decide ((0:Int)<(0:Int))=false:=rfl;have e2:decide ((9223372036854775807:Int)<(n:Int))=false:=Fo (by omega);simp only[e1,e2,Ax,Aq];have ew:Bh (n:Int)=(n:Int):=Hb (by omega) (by omega);rw[ew,Ad ⟨by omega,by omega,by omega⟩,Aw,X7,T5];have em:Nat.min [v].length n=1:=Nat.min_eq_left h1;rw[em,QG hn n 1 _ (by omega) (zzL8 _) h1 (by rw[<- F6];simp) (λj hj=>?_)]
 ·rfl
 ·rw[DK _ _ _ _ _ _ (by simp;omega),if_pos ⟨by omega,by omega⟩]
  have:j-0=0:=by omega
  rw[this];rfl
section
variable {S:Nat->List Nat} {r n:Nat} {P:List Nat}
theorem Inv.tp{at_:Nat->Nat}{t:List Int}(h:Inv S r n at_ (Bc t))(hl:t.length=n):∀ m x,at_ x<=m->x<n->Bc t x≠-2->∃ k,Tp t x r k:=by
 intro m
 induction m with
 | zero=>
  intro x hm hx hp;rcases h.kind x hx with h1|h1|⟨z,hz⟩
  ·exact absurd h1 hp
  ·subst h1;exact⟨0,.top (by omega) h.top⟩
  ·obtain⟨_,_,h3,_⟩:=h.up x hx z hz;omega
 | succ m ih=>
  intro x hm hx hp;rcases h.kind x hx with h1|h1|⟨z,hz⟩
  ·exact absurd h1 hp
  ·subst h1;exact⟨0,.top (by omega) h.top⟩
  ·obtain⟨z1,z2,z3,_⟩:=h.up x hx z hz;obtain⟨k,hk⟩:=ih z (by omega) z1 z2;exact⟨k+1,.up (by omega) hz hk⟩
def Wt(t l:List Int)(i:Nat)(v:Int):Prop:=
 (v = -2/\∀ j,j<i->Bc t (l.getD j 0).toNat = -2) \/
 ∃ z:Nat,v=(z:Int)/\z<t.length/\Bc t z≠-2/\(∀ w,UpTo (Bc t) z w↔∀ j,j<i->Bc t (l.getD j 0).toNat≠-2->UpTo (Bc t) (l.getD j 0).toNat w)
theorem LS{at_:Nat->Nat}{t l:List Int}(ht:t.length<=64)(hll:l.length<=64)(h:Inv S r n at_ (Bc t))(hl:t.length=n)(hin:∀ x∈l,0<=x/\x<(n:Int)):∀(k i:Nat) (v:Int),i+k=l.length->Wt t l i v->
  ∃ v',Ai (D5 t l) (v,(i:Int))=some v'/\Wt t l l.length v':=by
 intro k
 induction k with
 | zero=>
  intro i v hi hv
  obtain rfl:i=l.length:=by omega
  refine⟨v,Ah ?_,hv⟩;unfold D5;simp only[Jw,Ax]
 | succ k ih=>
  intro i v hi hv
  have hil:i<l.length:=by omega
  obtain⟨x0,x1⟩:=hin _ (getD_mem (d:=0) hil);have hxe:(((l.getD i 0).toNat:Nat):Int)=l.getD i 0:=Vu x0;have hxin:Bx (l.getD i 0) t.length:=lm x0 (by omega)
  have next:∀ v',D5 t l (v,(i:Int))=some (.next (v',((i+1:Nat):Int)))->Wt t l (i+1) v'->∃ v',Ai (D5 t l) (v,(i:Int))=some v'/\Wt t l l.length v':=λv' hs hv'=>by
   rw[Am hs];exact ih (i+1) v' (by omega) hv'
  by_cases hp:Bc t (l.getD i 0).toNat = -2
  ·have hb:((t.getD (l.getD i 0).toNat 0:Int)==-2)=true:=zzL74.2 hp;refine next v ?_ ?_
   ·unfold D5;simp only[E8 hil,Ae,Aw,hb];rw[Ad (Hh hil),Ad hxin,Aq,w1 (by omega)]
   ·have hstep:∀ w,(∀ j,j<i->Bc t (l.getD j 0).toNat≠-2->UpTo (Bc t) (l.getD j 0).toNat w)↔∀ j,j<i+1->Bc t (l.getD j 0).toNat≠-2->UpTo (Bc t) (l.getD j 0).toNat w:=λw=>by
     refine⟨λhj j hj1 hj2=>?_,λhj j hj1=>hj j (by omega)⟩
     by_cases e:j=i
     ·subst e;exact absurd hp hj2
     ·exact hj j (by omega) hj2
    rcases hv with⟨h1,h2⟩|⟨z,h1,h2,h3,h4⟩
    ·refine .inl ⟨h1,λj hj=>?_⟩
     by_cases e:j=i
     ·subst e;exact hp
     ·exact h2 j (by omega)
    ·exact .inr ⟨z,h1,h2,h3,λw=>by rw[h4 w,hstep w]⟩
  ·have hb:((t.getD (l.getD i 0).toNat 0:Int)==-2)=false:=zzL23.2 hp;rcases hv with⟨h1,h2⟩|⟨z,h1,h2,h3,h4⟩
   ·subst h1;refine next (l.getD i 0) ?_ (.inr ⟨(l.getD i 0).toNat,hxe.symm,by omega,hp,λw=>⟨λhw j hj hj2=>?_,λhw=>hw i (by omega) hp⟩⟩)
    ·unfold D5;simp only[E8 hil,Ae,Aw,hb,Ax,show((-2:Int)==-2)=true from rfl];rw[Ad (Hh hil),Ad hxin,Aq,w1 (by omega)]
    ·by_cases e:j=i
     ·subst e;exact hw
     ·exact absurd (h2 j (by omega)) hj2
   ·subst h1;have hb2:((z:Int)==-2)=false:=zzL23.2 (by omega);obtain⟨k1,hk1⟩:=h.tp hl _ z (zzL8 _) (by omega) h3;obtain⟨k2,hk2⟩:=h.tp hl _ (l.getD i 0).toNat (zzL8 _) (by omega) hp;obtain⟨c,c1,c2⟩:=AN (by omega) hk1 hk2;have hcz:=(c2 c).1 (.refl _);obtain⟨jc,_,hjc,_⟩:=hk1.on hcz.1
    have hcp:Bc t c≠-2:=by
     show t.getD c 0≠-2
     cases hjc with
     | top _ h=>omega
     | up _ h _=>omega
    refine next (c:Int) ?_ (.inr ⟨c,rfl,hjc.lt,hcp,λw=>?_⟩)
    ·rw[hxe]at c1;unfold D5;simp only[E8 hil,Ae,Aw,hb,Ax,hb2,c1,Aq];rw[Ad (Hh hil),Ad hxin,Aq,w1 (by omega)]
    ·rw[c2 w,h4 w];refine⟨λ⟨a1,a2⟩ j hj hj2=>?_,λha=>⟨λj hj=>ha j (by omega),ha i (by omega) hp⟩⟩
     by_cases e:j=i
     ·subst e;exact a2
     ·exact a1 j (by omega) hj2
theorem ZH{at_:Nat->Nat}{t l:List Int}(ht:t.length<=64)(hll:l.length<=64)(h:Inv S r n at_ (Bc t))(hl:t.length=n)(hin:∀ x∈l,0<=x/\x<(n:Int)) :
  ∃ v,Ih t l=some v/\Wt t l l.length v:=by
 obtain⟨v,h1,h2⟩:=LS ht hll h hl hin l.length 0 (-2) (by omega) (.inl ⟨rfl,λj hj=>absurd hj (Nc _)⟩);refine⟨v,?_,h2⟩;unfold Ih;rw[show((0:Int))=((0:Nat):Int) from rfl,h1]
 rfl
end
section
variable {L:List (List Int)} (hm:L5 L=true) {r:Nat} {P:List Nat}
include hm
theorem dy{p y:Nat}(hp:p<L.length):y∈sN L p↔AH L p y=true:=by
 rw[ce];obtain⟨_,_,h3⟩:=mayS_iff.1 hm
 constructor
 ·intro h;obtain⟨x,hx,rfl⟩:=zzL24.1 h;have:=WM (h3 p hp) hx;rw[Vu this.1];exact hx
 ·intro h;exact zzL24.2 ⟨_,h,Aw y⟩
theorem Xw{y:Nat}(hy:y<L.length){x:Int}:x∈(Fl L).getD y []↔∃ p:Nat,x=(p:Int)/\p<L.length/\y∈sN L p:=by
 rw[JF hy];unfold Kg;rw[dH]
 constructor
 ·rintro⟨k,h1,h2,h3⟩;exact⟨k,h1,h2,(dy hm h2).2 h3⟩
 ·rintro⟨k,h1,h2,h3⟩;exact⟨k,h1,h2,(dy hm h2).1 h3⟩
theorem LQ(o:Ordered (sN L) r L.length P){t:List Int}{i:Nat}(h:Ready (sN L) r L.length P t i)(hi:i<P.length) :
  Ih t ((Fl L).getD (P.getD i 0) [])=some (Kb (sN L) L.length t (P.getD i 0):Int):=by
 obtain⟨hL1,hL64,_⟩:=mayS_iff.1 hm;have hyn:P.getD i 0<L.length:=o.lt (F3 _ (Ns hi))
 have hlen:((Fl L).getD (P.getD i 0) []).length<=64:=by
  rw[JF hyn];have:=Wg L L.length (P.getD i 0);omega
 obtain⟨v,h1,h2⟩:=ZH (by rw[h.len];exact hL64) hlen h.inv h.len λx hx=>by
  obtain⟨p,rfl,hp,_⟩:=(Xw hm hyn).1 hx;omega
 rw[h1];have hb:=h.best o hi
 have mem:∀ p,p<L.length->P.getD i 0∈sN L p->∃ j,j<((Fl L).getD (P.getD i 0) []).length/\(((Fl L).getD (P.getD i 0) []).getD j 0).toNat=p:=λp hp hy=>by
  obtain⟨j,hj,e⟩:=Ls ((Xw hm hyn).2 ⟨p,rfl,hp,hy⟩);exact⟨j,hj,by rw[Aa _ _ _ hj,e,Aw]⟩
 have mem':∀ j,j<((Fl L).getD (P.getD i 0) []).length->(((Fl L).getD (P.getD i 0) []).getD j 0).toNat<L.length/\P.getD i 0∈sN L (((Fl L).getD (P.getD i 0) []).getD j 0).toNat:=λj hj=>by
  obtain⟨p,e,hp,hy⟩:=(Xw hm hyn).1 (getD_mem (d:=(0:Int)) hj);rw[e,Aw];exact⟨hp,hy⟩
 rcases h2 with⟨rfl,h3⟩|⟨z,rfl,hz,hz2,h4⟩
 ·obtain⟨p,hp,hyp,hp2,_⟩:=hb.fwd;obtain⟨j,hj,e⟩:=mem p hp hyp;exact absurd (by rw[<- e];exact h3 j hj) hp2
 ·have hbest:RS (sN L) L.length (Bc t) (P.getD i 0) z:=λw=>by
   rw[h4 w];refine⟨λha p hp hyp hp2=>?_,λha j hj hj2=>?_⟩
   ·obtain⟨j,hj,e⟩:=mem p hp hyp;have:=ha j hj (by rw[e];exact hp2);rwa[e]at this
   ·obtain⟨q1,q2⟩:=mem' j hj;exact ha _ q1 q2 hj2
  rw[h.best_eq o hi (by rw[<- h.len];exact hz) hz2 hbest]
end
theorem PF{P:List Nat}{i:Nat}(h:i<P.length):(Pm P).getD i 0=((P.getD i 0:Nat):Int):=by
 unfold Pm;rw[Aa _ _ _ (by simpa using h),Aa _ _ _ h,List.getElem_map]
 rfl
theorem QI{t:List Int}{x:Nat}{v:Int}(hx:x<t.length)(h:t.getD x 0=v):t.set x v=t:=by
 subst h;rw[Aa _ _ _ hx];exact List.set_getElem_self hx
section
variable {L:List (List Int)} (hm:L5 L=true) {r:Nat} {P:List Nat} (o:Ordered (sN L) r L.length P)
include hm o
theorem TZ{t0:List Int}(h:Ready (sN L) r L.length P t0 0):∀(k i:Nat) (b:Bool),i+k=P.length->
  ∃ b',Ai (Dz (Yk L) (Pm (r::P))) (b,(i:Int),Sq (sN L) L.length P t0 i)=some (b',Sq (sN L) L.length P t0 P.length) /\
   (b'=false↔b=false/\∀ j,i<=j->j<P.length->Bc (Sq (sN L) L.length P t0 j) (P.getD j 0)=(Kb (sN L) L.length (Sq (sN L) L.length P t0 j) (P.getD j 0):Int)):=by
 have hP64:P.length<=64:=by
  have h1:=L6 L.length (r::P) o.nodup λx hx=>o.lt hx;have h2:=(mayS_iff.1 hm).2.1;simp at h1;omega
 have hdl:(Pm (r::P)).drop (1:Int).toNat=Pm P:=rfl
 have hlen:(Pm P).length=P.length:=by simp[Pm]
 intro k
 induction k with
 | zero=>
  intro i b hi
  obtain rfl:i=P.length:=by omega
  refine⟨b,Ah ?_,λh=>⟨h,λj h1 h2=>by omega⟩,λh=>h.1⟩;unfold Dz;simp only[hdl,hlen,Jw,Ax]
 | succ k ih=>
  intro i b hi
  have hil:i<P.length:=by omega
  have rd:=h.round o i (by omega);have hma:=LQ hm o rd hil;have hyn:P.getD i 0<L.length:=o.lt (F3 _ (Ns hil))
  have hyt:P.getD i 0<(Sq (sN L) L.length P t0 i).length:=by rw[rd.len];exact hyn
  have hpred:(Yk L).Pred=Fl L:=rfl
  by_cases he:Bc (Sq (sN L) L.length P t0 i) (P.getD i 0)=(Kb (sN L) L.length (Sq (sN L) L.length P t0 i) (P.getD i 0):Int)
  ·have hb:((Kb (sN L) L.length (Sq (sN L) L.length P t0 i) (P.getD i 0):Int)!=(Sq (sN L) L.length P t0 i).getD (P.getD i 0) 0)=false:=by
    have:(Sq (sN L) L.length P t0 i).getD (P.getD i 0) 0=_:=he;rw[this];simp
   have hnx:Sq (sN L) L.length P t0 (i+1)=Sq (sN L) L.length P t0 i:=QI hyt he
   have hs:Dz (Yk L) (Pm (r::P)) (b,(i:Int),Sq (sN L) L.length P t0 i)=some (.next (b,((i+1:Nat):Int),Sq (sN L) L.length P t0 (i+1))):=by
    unfold Dz;simp only[hdl,hlen,E8 hil,Ae,Aw,PF hil,hpred,hma,Aq,hb,Ax];rw[Ad (Hh hil),Ad (Hh (by rw[N9];exact hyn)),Ad (Hh hyt),Aq,w1 (by omega),hnx]
   obtain⟨b',e1,e2⟩:=ih (i+1) b (by omega);refine⟨b',by rw[Am hs,e1],λh=>?_,λ⟨h1,h2⟩=>e2.2 ⟨h1,λj hj=>h2 j (by omega)⟩⟩;obtain⟨h1,h2⟩:=e2.1 h;refine⟨h1,λj hj1 hj2=>?_⟩
   by_cases e:j=i
   ·subst e;exact he
   ·exact h2 j (by omega) hj2
  ·have hb:((Kb (sN L) L.length (Sq (sN L) L.length P t0 i) (P.getD i 0):Int)!=(Sq (sN L) L.length P t0 i).getD (P.getD i 0) 0)=true:=by
    rw[zzL93];exact λe=>he e.symm
   have hs:Dz (Yk L) (Pm (r::P)) (b,(i:Int),Sq (sN L) L.length P t0 i)=some (.next (true,((i+1:Nat):Int),Sq (sN L) L.length P t0 (i+1))):=by
    unfold Dz;simp only[hdl,hlen,E8 hil,Ae,Aw,PF hil,hpred,hma,Aq,hb];rw[Ad (Hh hil),Ad (Hh (by rw[N9];exact hyn)),Ad (Hh hyt),Ad (Hh hyt),Aq,w1 (by omega)]
    rfl
   obtain⟨b',e1,e2⟩:=ih (i+1) true (by omega);refine⟨b',by rw[Am hs,e1],λh=>?_,λ⟨h1,h2⟩=>absurd (h2 i (zzL8 _) hil) he⟩;obtain⟨h1,_⟩:=e2.1 h;cases h1
theorem aa{t0:List Int}(h:Ready (sN L) r L.length P t0 0):∃ b,Ai (Dz (Yk L) (Pm (r::P))) (false,(0:Int),t0)=some (b,Sq (sN L) L.length P t0 P.length)/\(b=false↔R0 (sN L) L.length P t0):=by
 obtain⟨b,e1,e2⟩:=TZ hm o h P.length 0 false (by omega);refine⟨b,e1,e2.trans ⟨λ⟨_,h2⟩=>?_,λhs=>⟨rfl,λj _ hj=>?_⟩⟩⟩
 ·have key:∀ j,j<=P.length->Sq (sN L) L.length P t0 j=t0:=by
   intro j
   induction j with
   | zero=>intro _;rfl
   | succ j ih=>
    intro hj;have ih':=ih (by omega);have rd:=h.round o j (by omega)
    have hyn:P.getD j 0<(Sq (sN L) L.length P t0 j).length:=by rw[rd.len];exact o.lt (F3 _ (Ns (by omega)))
    have:Sq (sN L) L.length P t0 (j+1)=Sq (sN L) L.length P t0 j:=QI hyn (h2 j (Lu _) (by omega));rw[this,ih']
  intro i hi;have:=h2 i (Lu _) hi;rwa[key i (by omega)]at this
 ·rw[Tw o h.len hs j (by omega)];exact hs j hj
open Classical in
theorem WZ(j:Nat):E5 (Yk L) (Pm (r::P),CS (sN L) L.length P (E1 L.length r) j)=some (if R0 (sN L) L.length P (CS (sN L) L.length P (E1 L.length r) j) then .done (CS (sN L) L.length P (E1 L.length r) (j+1)) else .next (Pm (r::P),CS (sN L) L.length P (E1 L.length r) (j+1))):=by
 obtain⟨b,e1,e2⟩:=aa hm o (Ready.rounds o j);have hL2:Pk (Yk L) (Pm (r::P))=Dz (Yk L) (Pm (r::P)):=rfl
 have hlen:(0:Int)<=1/\(1:Int)<=((Pm (r::P)).length:Int):=by simp[Pm];omega
 unfold E5;simp only[hL2,e1,Aq];rw[Ad hlen]
 cases b with
 | false=>rw[if_pos (e2.1 rfl)];rfl
 | true=>rw[if_neg (λh=>by have:=e2.2 h;cases this)];rfl
theorem QR:∃ J,R0 (sN L) L.length P (CS (sN L) L.length P (E1 L.length r) J)/\Ai (E5 (Yk L)) (Pm (r::P),E1 L.length r)=some (CS (sN L) L.length P (E1 L.length r) J):=by
 obtain⟨J,h1,h2⟩:=jQ o;refine⟨J,h2,?_⟩
 have key:∀ d j,j+d=J->Ai (E5 (Yk L)) (Pm (r::P),CS (sN L) L.length P (E1 L.length r) j)=some (CS (sN L) L.length P (E1 L.length r) J):=by
  intro d
  induction d with
  | zero=>
   intro j hj
   obtain rfl:j=J:=by omega
   have hF:=WZ hm o j;rw[if_pos h2]at hF;rw[Ah hF];have:CS (sN L) L.length P (E1 L.length r) (j+1)=CS (sN L) L.length P (E1 L.length r) j:=Tw o (Ready.rounds o j).len h2 P.length (zzL8 _);rw[this]
  | succ d ih=>
   intro j hj;have hF:=WZ hm o j;rw[if_neg (h1 j (by omega))]at hF;rw[Am hF];exact ih (j+1) (by omega)
 exact key J 0 (by omega)
end
theorem kC(g:C5)(r:Int)(h1:Fits g.Succ)(h2:Fits g.Pred):N1 g r=some (QQ g r):=by
 unfold QQ
 by_cases hc:Yz g=true/\0<=r/\r<(g.Succ.length:Int)
 ·rw[if_pos hc];obtain⟨hG,h0,hlt⟩:=hc;obtain⟨hm,hg⟩:=ge hG;obtain⟨hL1,hL64,_⟩:=mayS_iff.1 hm
  have hr:r.toNat<g.Succ.length:=by omega
  have hrn:((r.toNat:Nat):Int)=r:=Vu h0;obtain⟨O,hO⟩:=Ord.exist (Vo hm) hr;have hord:=(LP g h1 trivial r).1 hG h0 hlt O hO;obtain⟨P,rfl,o⟩:=hO.ordered hr (Vo hm);obtain⟨J,hJ,hl⟩:=QR hm o;have ht:=(BB o hJ).eq hm hr o;rw[ht]at hl;have hlen:(((Pm (r.toNat::P)).length:Int)==0)=false:=zzL23.2 (by simp[Pm];omega)
  have hlen2:(0:Int)<=1/\(1:Int)<=((Pm (r.toNat::P)).length:Int):=by simp[Pm];omega
  have hL2:Pk g (Pm (r.toNat::P))=Dz g (Pm (r.toNat::P)):=rfl
  have hst:(Pu (E5 g (Pm (r.toNat::P),E1 g.Succ.length r.toNat)) (E5 g))=some (X5 g.Succ r.toNat):=by
   rw[BA,hg];exact hl
  unfold N1;rw[hord,Aq,hlen,Ax,dD hL1 hL64,Aq,Ad (lm h0 (by simpa using hlt)),Ad hlen2]
  have:(E5 g (Pm (r.toNat::P),E1 g.Succ.length r.toNat))=(Ai (Dz g (Pm (r.toNat::P))) (false,0,(List.replicate g.Succ.length (-2:Int)).set r.toNat (-1))).bind (λx22=>(match x22 with|(b10,l11)=>(bif b10 then(some (.next (Pm (r.toNat::P),l11))) else(some (.done l11))))):=by
   unfold E5 E1;simp only[hL2];rw[Ad hlen2]
  rw[this]at hst;refine Eq.trans ?_ (B8 (λx:Option (List Int)=>x.bind λx42=>some x42) hst)
  rfl
 ·rw[if_neg hc];unfold N1
  have:(Yz g&&(decide (0<=r)&&decide (r<(g.Succ.length:Int))))=false:=by
   rw[Bool.eq_false_iff];intro h;rw[A3,A3,Ds,Ds]at h;exact hc h
  rw[(LP g h1 trivial r).2 this,Aq]
  rfl
end
end Go.Proofs.YtiendmljhgbjoaaGreat
