/-
  The machine, the program's functions and the laws' arithmetic: part 4 of 6.
-/
import Derived.Test.YtaeaenoaomdimaaGreatPk3
import Derived.OpenShut
import Derived.ShutString
set_option linter.unusedSectionVars false
set_option linter.unusedVariables false
set_option linter.unusedSimpArgs false
namespace Go.Proofs.YtaeaenoaomdimaaGreat
noncomputable section
open Go Go.RowKit
set_option maxRecDepth 100000
set_option maxHeartbeats 2000000
def yy(x5:jK)(a2:Ey)(a4:Int)(a3:Int):=(⟨[(4,bU),(5,(Ax x5.1))],(Z39 a2.length a4 a3 x5.2.2.length x5.2.1 a2 x5.2.2 x5.2.1.length),[]⟩:St)
def yx(x5:jK)(a2:Ey)(a4:Int)(a3:Int):=((Z89 x5.1 a2.length a4 a3 x5.2.2.length x5.2.1 a2 x5.2.2 x5.2.1.length):St)
def Em(a0:C5)(a2:Ey)(a4:Int)(a3:Int)(a7:Am)(a5:List Ad):Option jL:=
 (Aw (A0 (0:Int) a0.Args.length) ((Be (a0.Args.getD (0:Int).toNat (0:Int)) a2 a4 a3 a7 a5).bind λx2=>(Aw (A0 (1:Int) a0.Args.length) (Aw (A0 (a0.Args.getD (1:Int).toNat (0:Int)) a2.length) ((Pp x2 a0.Bits (a2.getD (a0.Args.getD (1:Int).toNat (0:Int)).toNat []) a7 a5).bind λx5=>(Aw (a7.length=x5.2.2.length) (some (([]:Am),x5.1,a4,a3,x5.2.1,a2,x5.2.2))))))))
variable{v0:Am}{v13:Int}{v16:Ey}{v33:List Ad}{v4:Int}{v42:jL}{v8:C5}
theorem Rw(h:Em v8 v16 v4 v13 v0 v33=some v42):sP 54 [(Ha 30000),(IH v8)] (Z1 v16 v4 v13 v0 v33 v33.length) (.tuple (jy v42.1 v42.2.1)) (Z7 v42.2.2.2.2.2.1 v42.2.2.1 v42.2.2.2.1 v42.2.2.2.2.2.2 v42.2.2.2.2.1 v42.2.2.2.2.1.length v42.1.length):=
 sG Tryz.func54 λΓ q=>gR q Ou Vg [(4,bU)] [] (c1 (Bh 1 Dd (0:Int))) (tC h λc1_ h=>tB h λx2 y2 h=>tC h λc3_ h=>tC h λc4_ h=>tB h λx5 y5 h=>tC h λc6_ h=>gR q Ov Eu [(4,bU)] [(z7 x2 v16 v4 v13 v0 v33 v33.length),⟨rJ,[],(Ax x5.1),(Z5 x5.2.2 x5.2.1 x5.2.1.length),[],[]⟩] (SB c1_ (Cq y2) (nL [(.row 85 (YJ v16.length v4 v13)),(.row 79 (WO 35100 v0.length v33 37101)),(.tok 3 49 v33.length),(.arr 1 26 v16.length (λi=>D7 (v16.getD i []))),(.arr 1 5 v0.length (λi=>Qi (v0.getD i 0))),(.obj (.tab .i64 YE))] (c5 c3_ c4_ (Eq.refl v16.length) (LS y5) (Bh 1 Dd (0:Int))))) (Ox (yy x5 v16 v4 v13) (tS h (gK (e:=.ret) (Ht wT (show Le Γ _ (yx x5 v16 v4 v13) from Le.trans (Bk (st':=(yy x5 v16 v4 v13)) Ov Eu q) (Le.trans (Nl (t:=4) (nm:=6004) (sz':=1) (λi=>Dd (([]:Am).getD i 0)) 37 rfl rfl (.inl ⟨rfl,rfl⟩) (λh_=>absurd h_ (by decide))) (Bk (st':=(yx x5 v16 v4 v13)) Ov rH q))))))))
def H3(a0:C5)(a2:Ey)(a4:Int)(a3:Int)(a7:Am)(a5:List Ad):Option jL:=
 (Aw (A0 (0:Int) a0.Args.length) ((D1 (a0.Args.getD (0:Int).toNat (0:Int)) a2 a4 a3 a7 a5).bind λx2=>(bif (!x2) then(Aw (A0 (w64 ((a0.Args.length:Int)-1)) a0.Args.length) (Aw (A0 (a0.Args.getD (w64 ((a0.Args.length:Int)-1)).toNat (0:Int)) a2.length) (some ((a2.getD (a0.Args.getD (w64 ((a0.Args.length:Int)-1)).toNat (0:Int)).toNat []),(0:Int),a4,a3,a5,a2,a7)))) else(Aw (0<=(1:Int)/\(1:Int)<=(a0.Args.length:Int)) ((E9 (⟨a0.Kind,a0.Bits,a0.Lanes,a0.Dst,(a0.Args.drop (1:Int).toNat),a0.Imm⟩:C5) a2 a4 a3 a7 a5).bind λx6=>(Aw (a2.length=x6.2.2.2.2.2.1.length) (Aw (a7.length=x6.2.2.2.2.2.2.length) (some (x6.1,x6.2.1,x6.2.2.1,x6.2.2.2.1,x6.2.2.2.2.1,x6.2.2.2.2.2.1,x6.2.2.2.2.2.2)))))))))
theorem Ve(h:H3 v8 v16 v4 v13 v0 v33=some v42):sP 82 [(IH v8),(.rpo Y7),(.rpo [(.clo 53 Y7 [])])] (Z1 v16 v4 v13 v0 v33 v33.length) (.tuple [(f5 v42.1),(Ax v42.2.1)]) (Z1 v42.2.2.2.2.2.1 v42.2.2.1 v42.2.2.2.1 v42.2.2.2.2.2.2 v42.2.2.2.2.1 v42.2.2.2.2.1.length):=
 sG Tryz.func82 λΓ q=>gR q Y3 Vg [(4,bU)] [] (c1 (Bh 1 Dd (0:Int))) (tC h λc1_ h=>tB h λx2 y2 h=>tT q [1,2,3,12] Vg [(Z46 x2 v16 v4 v13 v0 v33 v33.length)] (SB c1_ (Ih y2) (Ul [(.row 85 (YJ v16.length v4 v13)),(.row 79 (WO 35100 v0.length v33 37101)),(.tok 3 49 v33.length),(.arr 1 26 v16.length (λi=>D7 (v16.getD i []))),(.arr 1 5 v0.length (λi=>Qi (v0.getD i 0))),(.obj (.tab .i64 YE))])) (gC h (λh=>tC h λc3_ h=>tC h λc4_ h=>tU q Ov Eu (c3 c3_ c4_ (Eq.refl v16.length)) (tS h (Bi O1))) λh=>tC h λc5_ h=>gR q B7 Vg [(29,(AV.list 1 Ay 0 (v8.Args.drop (1:Int).toNat) .none))] [] (c2 c5_ (show(AVle (Z41 v8.Args) (AV.list 1 Ay 0 (v8.Args.drop (1:Int).toNat) .none)) from IK)) (tB h λx6 y6 h=>tC h λc7_ h=>tC h λc8_ h=>tT q Ov rp [(Z33 33 x6.1 x6.2.1 x6.2.2.2.2.2.1 x6.2.2.1 x6.2.2.2.1 x6.2.2.2.2.2.2 x6.2.2.2.2.1 x6.2.2.2.2.1.length x6.1.length)] (c1 (S5 y6)) (tS h (Bi O1)))))
def Gp(a0:C5)(a2:Ey)(a4:Int)(a3:Int)(a7:Am)(a5:List Ad):Option jL:=
 (Aw (A0 (0:Int) a0.Args.length) ((D1 (a0.Args.getD (0:Int).toNat (0:Int)) a2 a4 a3 a7 a5).bind λx2=>(bif (!x2) then(Aw (A0 (w64 ((a0.Args.length:Int)-1)) a0.Args.length) (Aw (A0 (a0.Args.getD (w64 ((a0.Args.length:Int)-1)).toNat (0:Int)) a2.length) (some ((a2.getD (a0.Args.getD (w64 ((a0.Args.length:Int)-1)).toNat (0:Int)).toNat []),(0:Int),a4,a3,a5,a2,a7)))) else(Aw (0<=(1:Int)/\(1:Int)<=(a0.Args.length:Int)) ((Em (⟨a0.Kind,a0.Bits,a0.Lanes,a0.Dst,(a0.Args.drop (1:Int).toNat),a0.Imm⟩:C5) a2 a4 a3 a7 a5).bind λx6=>(Aw (a2.length=x6.2.2.2.2.2.1.length) (Aw (a7.length=x6.2.2.2.2.2.2.length) (some (x6.1,x6.2.1,x6.2.2.1,x6.2.2.2.1,x6.2.2.2.2.1,x6.2.2.2.2.2.1,x6.2.2.2.2.2.2)))))))))
theorem Ti(h:Gp v8 v16 v4 v13 v0 v33=some v42):sP 82 [(IH v8),(.rpo Y7),(.rpo [(.clo 54 Y7 [])])] (Z1 v16 v4 v13 v0 v33 v33.length) (.tuple [(f5 v42.1),(Ax v42.2.1)]) (Z1 v42.2.2.2.2.2.1 v42.2.2.1 v42.2.2.2.1 v42.2.2.2.2.2.2 v42.2.2.2.2.1 v42.2.2.2.2.1.length):=
 sG Tryz.func82 λΓ q=>gR q Y3 Vg [(4,bU)] [] (c1 (Bh 1 Dd (0:Int))) (tC h λc1_ h=>tB h λx2 y2 h=>tT q [1,2,3,12] Vg [(Z46 x2 v16 v4 v13 v0 v33 v33.length)] (SB c1_ (Ih y2) (Ul [(.row 85 (YJ v16.length v4 v13)),(.row 79 (WO 35100 v0.length v33 37101)),(.tok 3 49 v33.length),(.arr 1 26 v16.length (λi=>D7 (v16.getD i []))),(.arr 1 5 v0.length (λi=>Qi (v0.getD i 0))),(.obj (.tab .i64 YE))])) (gC h (λh=>tC h λc3_ h=>tC h λc4_ h=>tU q Ov Eu (c3 c3_ c4_ (Eq.refl v16.length)) (tS h (Bi O1))) λh=>tC h λc5_ h=>gR q B7 Vg [(29,(AV.list 1 Ay 0 (v8.Args.drop (1:Int).toNat) .none))] [] (c2 c5_ (show(AVle (Z41 v8.Args) (AV.list 1 Ay 0 (v8.Args.drop (1:Int).toNat) .none)) from IK)) (tB h λx6 y6 h=>tC h λc7_ h=>tC h λc8_ h=>tT q Ov rp [(Z33 33 x6.1 x6.2.1 x6.2.2.2.2.2.1 x6.2.2.1 x6.2.2.2.1 x6.2.2.2.2.2.2 x6.2.2.2.2.1 x6.2.2.2.2.1.length x6.1.length)] (c1 (Rw y6)) (tS h (Bi O1)))))
def wg(aP:Int):=(bif (decide ((1:Int)<=aP)) then(decide (aP<=12)) else false)
def Ye(aP:Int)(aH:Int):Option Bool:=
 ((bif ((bif (decide ((1:Int)<=aP)) then(decide (aP<=12)) else false)==true) then Ep aH else some false).bind λx1=>(some (bif (bif (decide ((1:Int)<=aP)) then(decide (aP<=12)) else false) then x1 else false)))
variable{v5:Bool}
theorem fA(h:Ye v4 v13=some v5):sP 108 [(Ax v4),(Ax v13)] [] (.bool v5) []:=
 sG Tryz.func108 λΓ q=>Ae q E6 [] (tB h λx1 y1 h=>tT q [4] [] [(Z8 x1)] (c5 (gI ((decide ((1:Int)<=v4))==true)) (L0 (decide ((1:Int)<=v4))) (gI ((wg v4)==true)) (λ(hg:((wg v4)==true)=true)=>(Gm (B0 hg y1))) (L0 (wg v4))) (tS h (Bi [])))
def CQ(aD:Int)(aE:Int):Option Int:=
 (some (Et (aD+aE)))
variable{v21:Int}
theorem PV(h:CQ v4 v13=some v21):sP 136 (CA v4 v13) [] (.int .u64 v21) []:=
 sG Tryz.func136 λΓ q=>tW q E6 [] [4] [] (tS h (Bi []))
def CR(aD:Int)(aE:Int):Option Int:=
 (some (Et (aD-aE)))
theorem PW(h:CR v4 v13=some v21):sP 137 (CA v4 v13) [] (.int .u64 v21) []:=
 sG Tryz.func137 λΓ q=>tW q E6 [] [4] [] (tS h (Bi []))
def CS(aD:Int)(aE:Int):Option Int:=
 (some (Et (aD*aE)))
theorem PX(h:CS v4 v13=some v21):sP 138 (CA v4 v13) [] (.int .u64 v21) []:=
 sG Tryz.func138 λΓ q=>tW q E6 [] [4] [] (tS h (Bi []))
def Rd(aD:Int)(aE:Int):Option Int:=
 (Aw (aE≠0) (some (Et (Int.tdiv aD aE))))
theorem PY(h:Rd v4 v13=some v21):sP 139 (CA v4 v13) [] (.int .u64 v21) []:=
 sG Tryz.func139 λΓ q=>Ae q E6 [] (tV q [4] [] h λh=>tS h (Bi []))
def CT(aD:Int)(aE:Int):Option Int:=
 (some (Lq .and .u64 aD aE))
theorem PZ(h:CT v4 v13=some v21):sP 140 (CA v4 v13) [] (.int .u64 v21) []:=
 sG Tryz.func140 λΓ q=>tW q E6 [] [4] [] (tS h (Bi []))
def CU(aD:Int)(aE:Int):Option Int:=
 (some (Lq .or .u64 aD aE))
theorem QA(h:CU v4 v13=some v21):sP 141 (CA v4 v13) [] (.int .u64 v21) []:=
 sG Tryz.func141 λΓ q=>tW q E6 [] [4] [] (tS h (Bi []))
def CV(aD:Int)(aE:Int):Option Int:=
 (some (Lq .xor .u64 aD aE))
theorem QC(h:CV v4 v13=some v21):sP 142 (CA v4 v13) [] (.int .u64 v21) []:=
 sG Tryz.func142 λΓ q=>tW q E6 [] [4] [] (tS h (Bi []))
def Re(aD:Int)(aE:Int)(aa6:Int):Option Hr:=
 (bif (decide (((Et aa6):Int)<=aE)) then(some ((0:Int),aa6)) else(Aw (0<=aE) (some ((Tm .u64 aD aE),aa6))))
variable{v20:Hr}
theorem QD(h:Re v4 v13 v21=some v20):sP 143 [(Qh v4),(Qh v13),(Ha 30000)] (bS v21) (Qh v20.1) (bS v20.2):=
 sG Tryz.func143 λΓ q=>tW q Zv [30000] [0,1,9] [30000] (gC h (λh=>Ae q [5] [30000] (tS h (Bi VQ))) λh=>tV q [5] [30000] h λh=>tS h (Bi VQ))
def Rf(aD:Int)(aE:Int)(aa6:Int):Option Hr:=
 (bif (decide (((Et aa6):Int)<=aE)) then(some ((0:Int),aa6)) else(Aw (0<=aE) (some ((O0 .u64 aD aE),aa6))))
theorem QE(h:Rf v4 v13 v21=some v20):sP 144 [(Qh v4),(Qh v13),(Ha 30000)] (bS v21) (Qh v20.1) (bS v20.2):=
 sG Tryz.func144 λΓ q=>tW q Zv [30000] [0,1,9] [30000] (gC h (λh=>Ae q [5] [30000] (tS h (Bi VQ))) λh=>tV q [5] [30000] h λh=>tS h (Bi VQ))
def Mh(aaI:Bool):Option Int:=
 (bif aaI then(some (1:Int)) else(some (0:Int)))
theorem Wj(h:Mh v5=some v4):sP 146 [(.bool v5)] [] (.int .u64 v4) []:=
 sG Tryz.func146 λΓ q=>tW q [0] [] [3] [] (gC h (λh=>Ae q [2] [] (tS h (Bi []))) λh=>Ae q [2] [] (tS h (Bi [])))
def Zb(aD:Int)(aE:Int):Option Int:=
 ((Mh (aD==aE)).bind λx1=>(some x1))
theorem LT(h:Zb v4 v13=some v21):sP 145 (CA v4 v13) [] (.int .u64 v21) []:=
 sG Tryz.func145 λΓ q=>Ae q E6 [] (tB h λx1 y1 h=>tT q [4] [] [(WZ x1)] (c1 (Wj y1)) (tS h (Bi [])))
def Zc(aD:Int)(aE:Int):Option Int:=
 ((Mh (decide (aD<aE))).bind λx1=>(some x1))
theorem LU(h:Zc v4 v13=some v21):sP 147 (CA v4 v13) [] (.int .u64 v21) []:=
 sG Tryz.func147 λΓ q=>Ae q E6 [] (tB h λx1 y1 h=>tT q [4] [] [(WZ x1)] (c1 (Wj y1)) (tS h (Bi [])))
def Su(aK:Int)(aH:Int):Option Int:=
 ((Ep aH).bind λx1=>(bif (!x1) then(some (0:Int)) else(Aw (0<=(w64 ((64:Int)-aH))) (Aw (0<=(w64 ((64:Int)-aH))) (some (O0 .i64 (w64 (Tm .u64 aK (w64 ((64:Int)-aH)))) (w64 ((64:Int)-aH))))))))
theorem DJ(h:Su v4 v13=some v21):sP 149 [(Qh v4),(Ax v13)] [] (.int .i64 v21) []:=
 sG Tryz.func149 λΓ q=>Ae q E6 [] (tB h λx1 y1 h=>tT q [0,1,7] [] [(Z8 x1)] (c1 (Gm y1)) (gC h (λh=>Ae q [4] [] (tS h (Bi []))) λh=>tC h λc2_ h=>tC h λc3_ h=>tU q [4] [] (c2 c2_ c3_) (tS h (Bi []))))
def Pq(aD:Int)(aE:Int)(aa6:Int):Option Hr:=
 ((Su aD aa6).bind λx1=>((Su aE aa6).bind λx2=>((Mh (decide (x1<x2))).bind λx3=>(some (x3,aa6)))))
theorem LV(h:Pq v4 v13 v21=some v20):sP 148 [(Qh v4),(Qh v13),(Ha 30000)] (bS v21) (Qh v20.1) (bS v20.2):=
 sG Tryz.func148 λΓ q=>Ae q Zv [30000] (tB h λx1 y1 h=>tB h λx2 y2 h=>tB h λx3 y3 h=>tT q [5] [30000] [(XA x1),(XA x2),(WZ x3)] (c3 (DJ y1) (DJ y2) (Wj y3)) (tS h (Bi VQ)))
def Jf(aP:Int)(aH:Int)(aD:Int)(aE:Int):Option Int:=
 (bif (decide (aP=(1:Int))) then((CQ aD aE).bind λx2=>(some x2)) else(bif (decide (aP=(2:Int))) then((CR aD aE).bind λx4=>(some x4)) else(bif (decide (aP=(3:Int))) then((CS aD aE).bind λx6=>(some x6)) else(bif (decide (aP=(4:Int))) then((Rd aD aE).bind λx8=>(some x8)) else(bif (decide (aP=(5:Int))) then((CT aD aE).bind λx10=>(some x10)) else(bif (decide (aP=(6:Int))) then((CU aD aE).bind λx12=>(some x12)) else(bif (decide (aP=(7:Int))) then((CV aD aE).bind λx14=>(some x14)) else(bif (decide (aP=(8:Int))) then((Re aD aE aH).bind λx16=>(some x16.1)) else(bif (decide (aP=(9:Int))) then((Rf aD aE aH).bind λx18=>(some x18.1)) else(bif (decide (aP=(10:Int))) then((Zb aD aE).bind λx20=>(some x20)) else(bif (decide (aP=(11:Int))) then((Zc aD aE).bind λx22=>(some x22)) else(bif (decide (aP=(12:Int))) then((Pq aD aE aH).bind λx24=>(some x24.1)) else none))))))))))))
variable{v38:Int}{v44:Int}
theorem XY(h:Jf v4 v13 v21 v38=some v44):sP 109 [(Ax v4),(Ax v13),(Qh v21),(Qh v38)] [] (.int .u64 v44) []:=
 sG Tryz.func109 λΓ q=>tW q [0,2,3,5] [5] [0,2,3,9] [5,9] (gB h (λhs1 h=>tB h λx2 y2 h=>gR q [8] [] [(14,RN)] [(WZ x2)] (c3 (show(AVle (Ax v4) RN) from(Cp hs1)) (show(A0 (1:Int) 13) from(by decide)) (PV y2)) (tS h (Bi []))) (λhs1 h=>gB h (λhs3 h=>tB h λx4 y4 h=>gR q [8] [] [(14,RL)] [(WZ x4)] (c3 (show(AVle (Ax v4) RL) from(Cp hs3)) (show(A0 (2:Int) 13) from(by decide)) (PW y4)) (tS h (Bi []))) (λhs3 h=>gB h (λhs5 h=>tB h λx6 y6 h=>gR q [8] [] [(14,nI)] [(WZ x6)] (c3 (show(AVle (Ax v4) nI) from(Cp hs5)) (show(A0 (3:Int) 13) from(by decide)) (PX y6)) (tS h (Bi []))) (λhs5 h=>gB h (λhs7 h=>tB h λx8 y8 h=>gR q [8] [] [(14,(.int .i64 (4:Int)))] [(WZ x8)] (c3 (show(AVle (Ax v4) (.int .i64 (4:Int))) from(Cp hs7)) (show(A0 (4:Int) 13) from(by decide)) (PY y8)) (tS h (Bi []))) (λhs7 h=>gB h (λhs9 h=>tB h λx10 y10 h=>gR q [8] [] [(14,nH)] [(WZ x10)] (c3 (show(AVle (Ax v4) nH) from(Cp hs9)) (show(A0 (5:Int) 13) from(by decide)) (PZ y10)) (tS h (Bi []))) (λhs9 h=>gB h (λhs11 h=>tB h λx12 y12 h=>gR q [8] [] [(14,(.int .i64 (6:Int)))] [(WZ x12)] (c3 (show(AVle (Ax v4) (.int .i64 (6:Int))) from(Cp hs11)) (show(A0 (6:Int) 13) from(by decide)) (QA y12)) (tS h (Bi []))) (λhs11 h=>gB h (λhs13 h=>tB h λx14 y14 h=>gR q [8] [] [(14,(.int .i64 (7:Int)))] [(WZ x14)] (c3 (show(AVle (Ax v4) (.int .i64 (7:Int))) from(Cp hs13)) (show(A0 (7:Int) 13) from(by decide)) (QC y14)) (tS h (Bi []))) (λhs13 h=>gB h (λhs15 h=>tB h λx16 y16 h=>gR q [8] [] [(14,bT)] [⟨jr,[],(Qh x16.1),(bS x16.2),[],[]⟩] (c3 (show(AVle (Ax v4) bT) from(Cp hs15)) (show(A0 (8:Int) 13) from(by decide)) (QD y16)) (tS h (Bi []))) (λhs15 h=>gB h (λhs17 h=>tB h λx18 y18 h=>gR q [8] [] [(14,(.int .i64 (9:Int)))] [⟨jr,[],(Qh x18.1),(bS x18.2),[],[]⟩] (c3 (show(AVle (Ax v4) (.int .i64 (9:Int))) from(Cp hs17)) (show(A0 (9:Int) 13) from(by decide)) (QE y18)) (tS h (Bi []))) (λhs17 h=>gB h (λhs19 h=>tB h λx20 y20 h=>gR q [8] [] [(14,(Vc 10))] [(WZ x20)] (c3 (show(AVle (Ax v4) (Vc 10)) from(Cp hs19)) (show(A0 (10:Int) 13) from(by decide)) (LT y20)) (tS h (Bi []))) (λhs19 h=>gB h (λhs21 h=>tB h λx22 y22 h=>gR q [8] [] [(14,(Vc 11))] [(WZ x22)] (c3 (show(AVle (Ax v4) (Vc 11)) from(Cp hs21)) (show(A0 (11:Int) 13) from(by decide)) (LU y22)) (tS h (Bi []))) (λhs21 h=>gB h (λhs23 h=>tB h λx24 y24 h=>gR q [8] [] [(14,(Vc 12))] [⟨jr,[],(Qh x24.1),(bS x24.2),[],[]⟩] (c3 (show(AVle (Ax v4) (Vc 12)) from(Cp hs23)) (show(A0 (12:Int) 13) from(by decide)) (LV y24)) (tS h (Bi []))) (λhs23 h=>nomatch h)))))))))))))
def Ug(aP:Int)(aH:Int)(aD:Int)(aE:Int):Option Hr:=
 ((Ye aP aH).bind λx1=>(bif (!x1) then(some ((0:Int),(1:Int))) else((Fb aD aH).bind λx2=>((Fb aE aH).bind λx3=>(bif (bif (aP==4) then(x3==0) else false) then(some ((0:Int),(8:Int))) else((Jf aP aH x2 x3).bind λx4=>((Fb x4 aH).bind λx5=>(some (x5,(0:Int))))))))))
theorem ie(h:Ug v4 v13 v21 v38=some v20):sP 84 [(Ax v4),(Ax v13),(Qh v21),(Qh v38)] [] (.tuple [(Qh v20.1),(Ax v20.2)]) []:=
 sG Tryz.func84 λΓ q=>Ae q WB [] (tB h λx1 y1 h=>tT q [0,1,2,3,13] [] [(Z8 x1)] (c1 (fA y1)) (gC h (λh=>Ae q Sk [] (tS h (Bi []))) λh=>tB h λx2 y2 h=>tB h λx3 y3 h=>tT q WB [] [(WZ x2),(WZ x3)] (c2 (N1 y2) (N1 y3)) (tU q [0,1,2,3,25] [] (c2 (gI ((v4==4)==true)) (L0 (v4==4))) (gC h (λh=>Ae q Sk [] (tS h (Bi []))) λh=>tB h λx4 y4 h=>tB h λx5 y5 h=>tT q Sk [] [(WZ x4),(WZ x5)] (c2 (XY y4) (N1 y5)) (tS h (Bi []))))))
def F8(a0:C5)(aa7:Int)(a2:Ey):Xg->Option (LR (Int×Am) (Am ⊕ (Am×Int))):=
 λ((i6,l7):Xg)=>(bif (decide (i6<((List.replicate ((a2.getD (a0.Args.getD (0:Int).toNat (0:Int)).toNat []).length:Int).toNat (0:Int)).length:Int))) then(Aw (A0 i6 (a2.getD (a0.Args.getD (0:Int).toNat (0:Int)).toNat []).length) (Aw (A0 i6 (a2.getD (a0.Args.getD (1:Int).toNat (0:Int)).toNat []).length) ((Ug aa7 a0.Bits ((a2.getD (a0.Args.getD (0:Int).toNat (0:Int)).toNat []).getD i6.toNat 0) ((a2.getD (a0.Args.getD (1:Int).toNat (0:Int)).toNat []).getD i6.toNat 0)).bind λx11=>(bif (x11.2 !=0) then(some (.done (.inr (([]:Am),x11.2)))) else(Aw (A0 i6 l7.length) (some (.next ((w64 (i6+1)),(l7.set i6.toNat x11.1))))))))) else(some (.done (.inl l7))))
def BQ(Γ:Il)(a0:C5)(aa7:Int)(a2:Ey)(a4:Int)(a3:Int)(a7:Am)(a5:List Ad)(r:MK):Exit->St->Prop:=fK Tryz.prog Γ Tryz.f83.results.toList (Z1 a2 a4 a3 a7 a5 a5.length) (.tuple (jy r.1 r.2)) (Z7 a2 a4 a3 a7 a5 a5.length r.1.length)
def wh:=(λn_=>B3 n_ [3,34,30000,30001,35002,35100,37101,9100001])
def nU(a2:Ey)(a0:C5):=((a2.getD (a0.Args.getD (0:Int).toNat (0:Int)).toNat []).length:Int)
def zA(x11:Hr)(a2:Ey)(a4:Int)(a3:Int)(a7:Am)(a5:List Ad):=(⟨[(4,bU),(5,(Ax x11.2))],(Z39 a2.length a4 a3 a7.length a5 a2 a7 a5.length),[]⟩:St)
def yz(x11:Hr)(a2:Ey)(a4:Int)(a3:Int)(a7:Am)(a5:List Ad):=((Z89 x11.2 a2.length a4 a3 a7.length a5 a2 a7 a5.length):St)
def Ao(a0:C5)(aa7:Int)(a2:Ey)(a4:Int)(a3:Int)(a7:Am)(a5:List Ad):Option MK:=
 (Aw (A0 (0:Int) a0.Args.length) (Aw (A0 (a0.Args.getD (0:Int).toNat (0:Int)) a2.length) (Aw (A0 (1:Int) a0.Args.length) (Aw (A0 (a0.Args.getD (1:Int).toNat (0:Int)) a2.length) (Aw (0<=((a2.getD (a0.Args.getD (0:Int).toNat (0:Int)).toNat []).length:Int)/\((a2.getD (a0.Args.getD (0:Int).toNat (0:Int)).toNat []).length:Int)<=((a2.getD (a0.Args.getD (0:Int).toNat (0:Int)).toNat []).length:Int)/\((a2.getD (a0.Args.getD (0:Int).toNat (0:Int)).toNat []).length:Int)<=(room:Int)) ((Ac (F8 a0 aa7 a2) ((0:Int),(List.replicate ((a2.getD (a0.Args.getD (0:Int).toNat (0:Int)).toNat []).length:Int).toNat (0:Int)))).bind (λx13=>(match x13 with|(.inl l8)=>(some (l8,(0:Int)))|(.inr r15)=>(some r15)))))))))
variable{v37:MK}
theorem Bf(h:Ao v8 v4 v16 v13 v21 v0 v33=some v37):sP 83 [(IH v8),(.rpo Y7),(.rpo [(Ax v4)])] (Z1 v16 v13 v21 v0 v33 v33.length) (.tuple (jy v37.1 v37.2)) (Z7 v16 v13 v21 v0 v33 v33.length v37.1.length):=
 sG Tryz.func83 λΓ q=>have hΓ:=q.own;gR q Y3 Vg [(4,bU)] [] (c1 (Bh 1 Dd (0:Int))) (tC h λc1_ h=>tC h λc2_ h=>tC h λc3_ h=>tC h λc4_ h=>tU q [2,3,6,7] Vg (c6 c1_ c2_ (Eq.refl v16.length) c3_ c4_ (Eq.refl v16.length)) (tV q [2,3,6,7,8] KE h λh=>by exact M4 (Le.trans (Sp 34 (show ∀ k_,k_<((nU v16 v8).toNat)->AVleL ((λi_=>AV.eraseAll wh ((λ_=>[(.int .u64 (0:Int))]) i_)) k_) ((λi=>Dd ((List.replicate (nU v16 v8).toNat (0:Int)).getD i 0)) k_) from(λk hk=>Mi (e:=Dd) (d:=(0:Int)) (.cons (AVle.refl _) .nil) _ k (Mn hk)))) (Sq (λ(k_:Nat) u=>(Cs u [(8,(.vsl 34 k_))] [(34,.arr 1 37 k_ (λi=>Dd ((List.replicate (nU v16 v8).toNat (0:Int)).getD i 0)))])) (show(nU v16 v8).toNat=(List.replicate (nU v16 v8).toNat (0:Int)).length from(K1 ..).symm))) (Ae q cV KE (tL q h cV KE (λu (i6,l7)=>(Cs u [(8,(.vsl 34 l7.length)),(C6 37 i6)] [(oB 34 l7)])) (λu x_=>match x_ with|(.inl l8)=>aG Γ (.exit 0) (Oz [8] rq u [(8,(.vsl 34 l8.length))] [(oB 34 l8)])|(.inr r_)=>aR (BQ Γ v8 v4 v16 v13 v21 v0 v33 r_)) (λ⟨i6,l7⟩ y h=>Ae q [2,3,6,7,8,36,37,38] KE (gC h (λh=>Ae q [2,3,6,7,8,9,36,37] KE (tC h λc9_ h=>tC h λc10_ h=>tB h λx11 y11 h=>tT q [2,3,6,7,8,9,10,11,36,37] KE [⟨[],[],(.tuple [(Qh x11.1),(Ax x11.2)]),[],[],[]⟩] (c3 c9_ c10_ (ie y11)) (Ae q [2,3,6,7,8,9,10,11,36,37,56] KE (gC h (λh=>gR q Ov Eu [(4,bU)] [] (c1 (Bh 1 Dd (0:Int))) (Ox (zA x11 v16 v13 v21 v0 v33) (tS h (gO (Lj (Ht wT (show Le Γ _ (yz x11 v16 v13 v21 v0 v33) from Le.trans (Bk (st':=(zA x11 v16 v13 v21 v0 v33)) Ov Eu q) (Le.trans (Nl (t:=4) (nm:=6004) (sz':=1) (λi=>Dd (([]:Am).getD i 0)) 37 rfl rfl (.inl ⟨rfl,rfl⟩) (λh_=>absurd h_ (by decide))) (Bk (st':=(yz x11 v16 v13 v21 v0 v33)) Ov rH q))))))))) λh=>tC h λc12_ h=>tU q cV KE (c2 c12_ (Eq.refl l7.length)) (M4 (Le.trans (Sp 34 (show ∀ k_,k_<l7.length->AVleL ((λi_=>AV.eraseAll wh ((E0 (λi=>Dd (l7.getD i 0)) i6.toNat 0 [(Qh x11.1)]) i_)) k_) ((λi=>Dd ((l7.set i6.toNat x11.1).getD i 0)) k_) from(Bc (Cm ..).symm (λk_ hk_=>(Bx (AV.eraseAll wh) ((Fq (λ_ _=>rfl) (Gs c12_) rfl) k_ hk_)).trans rfl)))) (Sq (λ(k_:Nat) u=>(Cs u [(8,(.vsl 34 k_))] [(34,.arr 1 37 k_ (λi=>Dd ((l7.set i6.toNat x11.1).getD i 0)))])) (show l7.length=(l7.set i6.toNat x11.1).length from(Cm ..).symm))) (Ae q cV KE (tN h))))))) λh=>tS h (gO (Bd (Bk [8] rq q))))) λx13 h=>(match x13,h with | .inl l8,h=>gA (Ae q Ov rq (Ox (⟨[(4,(.vsl 34 l8.length)),(5,Px)],[(oB 34 l8),(YM v16.length v13 v21),(KM 30001 35100 v0.length v33 37101),(YK 35002 v16),(FV 35100 v0),(AR 37101 v33.length),(nG 9100001)],[]⟩:St) (tS h (gK (e:=.ret) (Ht [(30000,30000),(30001,30001),(37101,37101),(35002,35002),(35100,35100),(9100001,9100001),(34,20000)] (Le.trans (F1 (nm:=34) (sz:=1) (n:=l8.length) (e:=37) (f:=(λi=>Dd (l8.getD i 0))) (g:=(λi=>Dd (l8.getD i 0))) rfl ⟨rfl,trivial⟩ (λ_ _=>rfl) (by rw[hΓ];rfl)) (Ib (st':=⟨[(4,(lg l8 34)),(5,Px)],[(34,.tok 1 37 l8.length),(YM v16.length v13 v21),(KM 30001 35100 v0.length v33 37101),(YK 35002 v16),(FV 35100 v0),(AR 37101 v33.length),(nG 9100001)],[]⟩) (by kernel_rfl)))))))) | .inr r15,h=>Pz (λst' hk=>tS h (gK hk)))))))
def sS(a7:Am)(a5:List Ad):List AV:=(WO 35100 a7.length a5 37101)
def Gq(a0:C5)(aaK:Int)(a2:Ey)(a4:Int)(a3:Int)(a7:Am)(a5:List Ad):Option MK:=
 (Aw (A0 (0:Int) a0.Args.length) ((D1 (a0.Args.getD (0:Int).toNat (0:Int)) a2 a4 a3 a7 a5).bind λx2=>(bif (!x2) then(Aw (A0 (w64 ((a0.Args.length:Int)-1)) a0.Args.length) (Aw (A0 (a0.Args.getD (w64 ((a0.Args.length:Int)-1)).toNat (0:Int)) a2.length) (some ((a2.getD (a0.Args.getD (w64 ((a0.Args.length:Int)-1)).toNat (0:Int)).toNat []),(0:Int))))) else(Aw (0<=(1:Int)/\(1:Int)<=(a0.Args.length:Int)) ((Ao (⟨a0.Kind,a0.Bits,a0.Lanes,a0.Dst,(a0.Args.drop (1:Int).toNat),a0.Imm⟩:C5) aaK a2 a4 a3 a7 a5).bind λx6=>(some (x6.1,x6.2)))))))
theorem Tj(h:Gq v8 v4 v16 v13 v21 v0 v33=some v37):sP 82 [(IH v8),(.rpo Y7),(.rpo [(tZ v4)])] (Z1 v16 v13 v21 v0 v33 v33.length) (.tuple [(f5 v37.1),(Ax v37.2)]) (Z1 v16 v13 v21 v0 v33 v33.length):=
 sG Tryz.func82 λΓ q=>gR q Y3 Vg [(4,bU)] [] (c1 (Bh 1 Dd (0:Int))) (tC h λc1_ h=>tB h λx2 y2 h=>tT q [1,2,3,12] Vg [⟨O1,[],(.bool x2),[(YM v16.length v13 v21),(30001,.row 79 (sS v0 v33)),(AR 37101 v33.length),(YK 35002 v16),(FV 35100 v0),(nG 9100001)],[],k7⟩] (SB c1_ (Ih y2) (Ul [(.row 85 (YJ v16.length v13 v21)),(.row 79 (sS v0 v33)),(.tok 3 49 v33.length),(.arr 1 26 v16.length (λi=>D7 (v16.getD i []))),(.arr 1 5 v0.length (λi=>Qi (v0.getD i 0))),(.obj (.tab .i64 YE))])) (gC h (λh=>tC h λc3_ h=>tC h λc4_ h=>tU q Ov Eu (c3 c3_ c4_ (Eq.refl v16.length)) (tS h (Bi O1))) λh=>tC h λc5_ h=>gR q B7 Vg [(29,(AV.list 1 Ay 0 (v8.Args.drop (1:Int).toNat) .none))] [] (c2 c5_ (show(AVle (Z41 v8.Args) (AV.list 1 Ay 0 (v8.Args.drop (1:Int).toNat) .none)) from IK)) (tB h λx6 y6 h=>tT q Ov rp [⟨O1,[(20000,33)],(.tuple (jy x6.1 x6.2)),[(YM v16.length v13 v21),(30001,.row 79 (sS v0 v33)),(AR 37101 v33.length),(YK 35002 v16),(FV 35100 v0),(nG 9100001),(20000,.tok 1 37 x6.1.length)],[],k7⟩] (ci (Bf y6) (Ul [(.row 85 (YJ v16.length v13 v21)),(.row 79 (sS v0 v33)),(.tok 3 49 v33.length),(.arr 1 26 v16.length (λi=>D7 (v16.getD i []))),(.arr 1 5 v0.length (λi=>Qi (v0.getD i 0))),(.obj (.tab .i64 YE))])) (tS h (Bi O1)))))
def Je(a0:C5)(a2:Ey)(a4:Int)(a3:Int)(a7:Am)(a5:List Ad):Xg->Option qy:=
 λ((i2,l3):Xg)=>(bif (decide (i2<(a0.Args.length:Int))) then(Aw (A0 i2 a0.Args.length) ((Be (a0.Args.getD i2.toNat 0) a2 a4 a3 a7 a5).bind λx6=>(Aw (A0 i2 l3.length) (some (.next ((w64 (i2+1)),(l3.set i2.toNat x6))))))) else(some (.done l3)))
def sT(a7:Am)(a5:List Ad):List AV:=(WO 35100 a7.length a5 37101)
def Lm(a0:C5)(a2:Ey)(a4:Int)(a3:Int)(a7:Am)(a5:List Ad):Option MK:=
 (Aw (0<=(a0.Args.length:Int)/\(a0.Args.length:Int)<=(a0.Args.length:Int)/\(a0.Args.length:Int)<=(room:Int)) ((Ac (Je a0 a2 a4 a3 a7 a5) ((0:Int),(List.replicate (a0.Args.length:Int).toNat (0:Int)))).bind (λx8=>(some (x8,(0:Int))))))
theorem DB(h:Lm v8 v16 v4 v13 v0 v33=some v37):sP 57 [(Ha 30000),(IH v8)] (Z1 v16 v4 v13 v0 v33 v33.length) (.tuple (jy v37.1 v37.2)) (Z7 v16 v4 v13 v0 v33 v33.length v37.1.length):=
 sG Tryz.func57 λΓ q=>have hΓ:=q.own;gR q Ou Vg [(4,bU)] [] (c1 (Bh 1 Dd (0:Int))) (tV q [0,3,6] rG h λh=>by exact M4 (Le.trans (Sp 12 (show ∀ k_,k_<((v8.Args.length:Int).toNat)->AVleL ((λi_=>AV.eraseAll (λn_=>B3 n_ rG) ((λ_=>[(.int .u64 (0:Int))]) i_)) k_) ((λi=>Dd ((List.replicate (v8.Args.length:Int).toNat (0:Int)).getD i 0)) k_) from(λk hk=>Mi (e:=Dd) (d:=(0:Int)) (.cons (AVle.refl _) .nil) _ k (Mn hk)))) (Sq (λ(k_:Nat) u=>(Cs u [(6,(.vsl 12 k_))] [(12,.arr 1 37 k_ (λi=>Dd ((List.replicate (v8.Args.length:Int).toNat (0:Int)).getD i 0)))])) (show(v8.Args.length:Int).toNat=(List.replicate (v8.Args.length:Int).toNat (0:Int)).length from(K1 ..).symm))) (Ae q cd EM (tL q h cd EM (λu (i2,l3)=>(Cs u [(6,(.vsl 12 l3.length)),(C6 16 i2)] [(oB 12 l3)])) (λu l4=>aG Γ (.exit 0) (Oz [6] EM u [(6,(.vsl 12 l4.length))] [(oB 12 l4)])) (λ⟨i2,l3⟩ y h=>Ae q [0,6,14,15,16,17] EM (gC h (λh=>tV q [0,6,7,8,14,15,16] EM h λh=>tB h λx6 y6 h=>tC h λc7_ h=>tT q cd EM [⟨O1,[],(Qh x6),[(YM v16.length v4 v13),(30001,.row 79 (sT v0 v33)),(AR 37101 v33.length),(YK 35002 v16),(FV 35100 v0),(nG 9100001)],[],k7⟩] (ci (Cq y6) (nL [(.row 85 (YJ v16.length v4 v13)),(.row 79 (sT v0 v33)),(.tok 3 49 v33.length),(.arr 1 26 v16.length (λi=>D7 (v16.getD i []))),(.arr 1 5 v0.length (λi=>Qi (v0.getD i 0))),(.obj (.tab .i64 YE))] (c2 c7_ (Eq.refl l3.length)))) (M4 (Le.trans (Sp 12 (show ∀ k_,k_<l3.length->AVleL ((λi_=>AV.eraseAll (λn_=>B3 n_ EM) ((E0 (λi=>Dd (l3.getD i 0)) i2.toNat 0 [(Qh x6)]) i_)) k_) ((λi=>Dd ((l3.set i2.toNat x6).getD i 0)) k_) from(Bc (Cm ..).symm (λk_ hk_=>(Bx (AV.eraseAll (λn_=>B3 n_ EM)) ((Fq (λ_ _=>rfl) (Gs c7_) rfl) k_ hk_)).trans rfl)))) (Sq (λ(k_:Nat) u=>(Cs u [(6,(.vsl 12 k_))] [(12,.arr 1 37 k_ (λi=>Dd ((l3.set i2.toNat x6).getD i 0)))])) (show l3.length=(l3.set i2.toNat x6).length from(Cm ..).symm))) (Ae q cd EM (tN h)))) λh=>tS h (gO (Bd (Bk [6] EM q))))) λx8 h=>gA (Ae q Ov EM (Ox (⟨[(4,(.vsl 12 x8.length)),(5,Px)],[(oB 12 x8),(YM v16.length v4 v13),(30001,.row 79 (sT v0 v33)),(YK 35002 v16),(FV 35100 v0),(AR 37101 v33.length),(nG 9100001)],[]⟩:St) (tS h (gK (e:=.ret) (Ht [(30000,30000),(30001,30001),(37101,37101),(35002,35002),(35100,35100),(9100001,9100001),(12,20000)] (Le.trans (F1 (nm:=12) (sz:=1) (n:=x8.length) (e:=37) (f:=(λi=>Dd (x8.getD i 0))) (g:=(λi=>Dd (x8.getD i 0))) rfl ⟨rfl,trivial⟩ (λ_ _=>rfl) (by rw[hΓ];rfl)) (Ib (st':=⟨[(4,(lg x8 12)),(5,Px)],[(12,.tok 1 37 x8.length),(YM v16.length v4 v13),(30001,.row 79 (sT v0 v33)),(YK 35002 v16),(FV 35100 v0),(AR 37101 v33.length),(nG 9100001)],[]⟩) (by kernel_rfl)))))))))))
def Me(a0:C5)(a2:Ey)(a4:Int)(a3:Int)(a7:Am)(a5:List Ad):Option MK:=
 (Aw (A0 (0:Int) a0.Args.length) (Aw (A0 (a0.Args.getD (0:Int).toNat (0:Int)) a2.length) (Aw (A0 a0.Imm (a2.getD (a0.Args.getD (0:Int).toNat (0:Int)).toNat []).length) ((K7 ((a2.getD (a0.Args.getD (0:Int).toNat (0:Int)).toNat []).getD (a0.Imm).toNat (0:Int))).bind λx4=>(some (x4,(0:Int)))))))
theorem FQ(h:Me v8 v16 v4 v13 v0 v33=some v37):sP 58 [(Ha 30000),(IH v8)] (Z1 v16 v4 v13 v0 v33 v33.length) (.tuple (jy v37.1 v37.2)) (Z7 v16 v4 v13 v0 v33 v33.length v37.1.length):=
 sG Tryz.func58 λΓ q=>gR q Ou Vg [(4,bU)] [] (c1 (Bh 1 Dd (0:Int))) (tC h λc1_ h=>tC h λc2_ h=>tC h λc3_ h=>tB h λx4 y4 h=>tT q Ov rK [(Z71 20 x4 x4.length)] (c5 c1_ c2_ (Eq.refl v16.length) c3_ (P4 y4)) (tS h (Bi wV)))
open Go Go.RowKit
set_option maxRecDepth 100000
set_option maxHeartbeats 2000000
abbrev QG:=(Int×Int×Int×List Ad×Ey×Am)
def F7(aI:List C5):QG->Option (LR (Int×Int×Int×List Ad×Ey×Am) ((Int×Int×List Ad×Ey×Am) ⊕ (Int×Int×Int×List Ad×Ey×Am))):=
 λ((i1,i2,i3,l4,l5,l6):QG)=>(bif (decide (i1<(aI.length:Int))) then((G7 l5 i2 i3 l6 l4).bind λx12=>(Aw (l5.length=x12.2.2.2.2.1.length) (Aw (l6.length=x12.2.2.2.2.2.length) (bif (!x12.1) then(some (.done (.inr ((9:Int),x12.2.1,x12.2.2.1,x12.2.2.2.1,x12.2.2.2.2.1,x12.2.2.2.2.2)))) else(Option.bind (α:=jL) (Aw (A0 i1 aI.length) (bif (decide ((aI.getD i1.toNat default).Kind=(0:Int))) then(Aw (A0 i1 aI.length) ((Pm (aI.getD i1.toNat default)).bind λx25=>(some (x25.1,x25.2,x12.2.1,x12.2.2.1,x12.2.2.2.1,x12.2.2.2.2.1,x12.2.2.2.2.2)))) else(bif (decide ((aI.getD i1.toNat default).Kind=(13:Int))) then(Aw (A0 i1 aI.length) ((J0 (aI.getD i1.toNat default) x12.2.2.2.2.1 x12.2.1 x12.2.2.1 x12.2.2.2.2.2 x12.2.2.2.1).bind λx28=>(some (x28.1,x28.2,x12.2.1,x12.2.2.1,x12.2.2.2.1,x12.2.2.2.2.1,x12.2.2.2.2.2)))) else(bif (decide ((aI.getD i1.toNat default).Kind=(14:Int))) then(Aw (A0 i1 aI.length) ((H4 (aI.getD i1.toNat default) x12.2.2.2.2.1 x12.2.1 x12.2.2.1 x12.2.2.2.2.2 x12.2.2.2.1).bind λx31=>(some (x31.1,x31.2,x12.2.1,x12.2.2.1,x12.2.2.2.1,x12.2.2.2.2.1,x12.2.2.2.2.2)))) else(bif (decide ((aI.getD i1.toNat default).Kind=(15:Int))) then(Aw (A0 i1 aI.length) ((Gr (aI.getD i1.toNat default) x12.2.2.2.2.1 x12.2.1 x12.2.2.1 x12.2.2.2.2.2 x12.2.2.2.1).bind λx34=>(some (x34.1,x34.2,x12.2.1,x12.2.2.1,x12.2.2.2.1,x12.2.2.2.2.1,x12.2.2.2.2.2)))) else(bif (decide ((aI.getD i1.toNat default).Kind=(16:Int))) then(Aw (A0 i1 aI.length) ((E9 (aI.getD i1.toNat default) x12.2.2.2.2.1 x12.2.1 x12.2.2.1 x12.2.2.2.2.2 x12.2.2.2.1).bind λx37=>(Aw (x12.2.2.2.2.1.length=x37.2.2.2.2.2.1.length) (Aw (x12.2.2.2.2.2.length=x37.2.2.2.2.2.2.length) (some (x37.1,x37.2.1,x37.2.2.1,x37.2.2.2.1,x37.2.2.2.2.1,x37.2.2.2.2.2.1,x37.2.2.2.2.2.2)))))) else(bif (decide ((aI.getD i1.toNat default).Kind=(17:Int))) then(Aw (A0 i1 aI.length) ((Em (aI.getD i1.toNat default) x12.2.2.2.2.1 x12.2.1 x12.2.2.1 x12.2.2.2.2.2 x12.2.2.2.1).bind λx42=>(Aw (x12.2.2.2.2.1.length=x42.2.2.2.2.2.1.length) (Aw (x12.2.2.2.2.2.length=x42.2.2.2.2.2.2.length) (some (x42.1,x42.2.1,x42.2.2.1,x42.2.2.2.1,x42.2.2.2.2.1,x42.2.2.2.2.2.1,x42.2.2.2.2.2.2)))))) else(bif (decide ((aI.getD i1.toNat default).Kind=(18:Int))) then(Aw (A0 i1 aI.length) ((H3 (aI.getD i1.toNat default) x12.2.2.2.2.1 x12.2.1 x12.2.2.1 x12.2.2.2.2.2 x12.2.2.2.1).bind λx47=>(Aw (x12.2.2.2.2.1.length=x47.2.2.2.2.2.1.length) (Aw (x12.2.2.2.2.2.length=x47.2.2.2.2.2.2.length) (some (x47.1,x47.2.1,x47.2.2.1,x47.2.2.2.1,x47.2.2.2.2.1,x47.2.2.2.2.2.1,x47.2.2.2.2.2.2)))))) else(bif (decide ((aI.getD i1.toNat default).Kind=(19:Int))) then(Aw (A0 i1 aI.length) ((Gp (aI.getD i1.toNat default) x12.2.2.2.2.1 x12.2.1 x12.2.2.1 x12.2.2.2.2.2 x12.2.2.2.1).bind λx52=>(Aw (x12.2.2.2.2.1.length=x52.2.2.2.2.2.1.length) (Aw (x12.2.2.2.2.2.length=x52.2.2.2.2.2.2.length) (some (x52.1,x52.2.1,x52.2.2.1,x52.2.2.2.1,x52.2.2.2.2.1,x52.2.2.2.2.2.1,x52.2.2.2.2.2.2)))))) else(bif (decide ((aI.getD i1.toNat default).Kind=(20:Int))) then(Aw (A0 i1 aI.length) ((Gq (aI.getD i1.toNat default) (4:Int) x12.2.2.2.2.1 x12.2.1 x12.2.2.1 x12.2.2.2.2.2 x12.2.2.2.1).bind λx57=>(some (x57.1,x57.2,x12.2.1,x12.2.2.1,x12.2.2.2.1,x12.2.2.2.2.1,x12.2.2.2.2.2)))) else(bif (decide ((aI.getD i1.toNat default).Kind=(21:Int))) then(Aw (A0 i1 aI.length) ((Lm (aI.getD i1.toNat default) x12.2.2.2.2.1 x12.2.1 x12.2.2.1 x12.2.2.2.2.2 x12.2.2.2.1).bind λx60=>(some (x60.1,x60.2,x12.2.1,x12.2.2.1,x12.2.2.2.1,x12.2.2.2.2.1,x12.2.2.2.2.2)))) else(bif (decide ((aI.getD i1.toNat default).Kind=(22:Int))) then(Aw (A0 i1 aI.length) ((Me (aI.getD i1.toNat default) x12.2.2.2.2.1 x12.2.1 x12.2.2.1 x12.2.2.2.2.2 x12.2.2.2.1).bind λx63=>(some (x63.1,x63.2,x12.2.1,x12.2.2.1,x12.2.2.2.1,x12.2.2.2.2.1,x12.2.2.2.2.2)))) else(bif (decide ((aI.getD i1.toNat default).Kind=(1:Int))) then(Aw (A0 i1 aI.length) ((Ao (aI.getD i1.toNat default) (1:Int) x12.2.2.2.2.1 x12.2.1 x12.2.2.1 x12.2.2.2.2.2 x12.2.2.2.1).bind λx66=>(some (x66.1,x66.2,x12.2.1,x12.2.2.1,x12.2.2.2.1,x12.2.2.2.2.1,x12.2.2.2.2.2)))) else(bif (decide ((aI.getD i1.toNat default).Kind=(2:Int))) then(Aw (A0 i1 aI.length) ((Ao (aI.getD i1.toNat default) (2:Int) x12.2.2.2.2.1 x12.2.1 x12.2.2.1 x12.2.2.2.2.2 x12.2.2.2.1).bind λx69=>(some (x69.1,x69.2,x12.2.1,x12.2.2.1,x12.2.2.2.1,x12.2.2.2.2.1,x12.2.2.2.2.2)))) else(bif (decide ((aI.getD i1.toNat default).Kind=(3:Int))) then(Aw (A0 i1 aI.length) ((Ao (aI.getD i1.toNat default) (3:Int) x12.2.2.2.2.1 x12.2.1 x12.2.2.1 x12.2.2.2.2.2 x12.2.2.2.1).bind λx72=>(some (x72.1,x72.2,x12.2.1,x12.2.2.1,x12.2.2.2.1,x12.2.2.2.2.1,x12.2.2.2.2.2)))) else(bif (decide ((aI.getD i1.toNat default).Kind=(4:Int))) then(Aw (A0 i1 aI.length) ((Ao (aI.getD i1.toNat default) (4:Int) x12.2.2.2.2.1 x12.2.1 x12.2.2.1 x12.2.2.2.2.2 x12.2.2.2.1).bind λx75=>(some (x75.1,x75.2,x12.2.1,x12.2.2.1,x12.2.2.2.1,x12.2.2.2.2.1,x12.2.2.2.2.2)))) else(bif (decide ((aI.getD i1.toNat default).Kind=(5:Int))) then(Aw (A0 i1 aI.length) ((Ao (aI.getD i1.toNat default) (5:Int) x12.2.2.2.2.1 x12.2.1 x12.2.2.1 x12.2.2.2.2.2 x12.2.2.2.1).bind λx78=>(some (x78.1,x78.2,x12.2.1,x12.2.2.1,x12.2.2.2.1,x12.2.2.2.2.1,x12.2.2.2.2.2)))) else(bif (decide ((aI.getD i1.toNat default).Kind=(6:Int))) then(Aw (A0 i1 aI.length) ((Ao (aI.getD i1.toNat default) (6:Int) x12.2.2.2.2.1 x12.2.1 x12.2.2.1 x12.2.2.2.2.2 x12.2.2.2.1).bind λx81=>(some (x81.1,x81.2,x12.2.1,x12.2.2.1,x12.2.2.2.1,x12.2.2.2.2.1,x12.2.2.2.2.2)))) else(bif (decide ((aI.getD i1.toNat default).Kind=(7:Int))) then(Aw (A0 i1 aI.length) ((Ao (aI.getD i1.toNat default) (7:Int) x12.2.2.2.2.1 x12.2.1 x12.2.2.1 x12.2.2.2.2.2 x12.2.2.2.1).bind λx84=>(some (x84.1,x84.2,x12.2.1,x12.2.2.1,x12.2.2.2.1,x12.2.2.2.2.1,x12.2.2.2.2.2)))) else(bif (decide ((aI.getD i1.toNat default).Kind=(8:Int))) then(Aw (A0 i1 aI.length) ((Ao (aI.getD i1.toNat default) (8:Int) x12.2.2.2.2.1 x12.2.1 x12.2.2.1 x12.2.2.2.2.2 x12.2.2.2.1).bind λx87=>(some (x87.1,x87.2,x12.2.1,x12.2.2.1,x12.2.2.2.1,x12.2.2.2.2.1,x12.2.2.2.2.2)))) else(bif (decide ((aI.getD i1.toNat default).Kind=(9:Int))) then(Aw (A0 i1 aI.length) ((Ao (aI.getD i1.toNat default) (9:Int) x12.2.2.2.2.1 x12.2.1 x12.2.2.1 x12.2.2.2.2.2 x12.2.2.2.1).bind λx90=>(some (x90.1,x90.2,x12.2.1,x12.2.2.1,x12.2.2.2.1,x12.2.2.2.2.1,x12.2.2.2.2.2)))) else(bif (decide ((aI.getD i1.toNat default).Kind=(10:Int))) then(Aw (A0 i1 aI.length) ((Ao (aI.getD i1.toNat default) (10:Int) x12.2.2.2.2.1 x12.2.1 x12.2.2.1 x12.2.2.2.2.2 x12.2.2.2.1).bind λx93=>(some (x93.1,x93.2,x12.2.1,x12.2.2.1,x12.2.2.2.1,x12.2.2.2.2.1,x12.2.2.2.2.2)))) else(bif (decide ((aI.getD i1.toNat default).Kind=(11:Int))) then(Aw (A0 i1 aI.length) ((Ao (aI.getD i1.toNat default) (11:Int) x12.2.2.2.2.1 x12.2.1 x12.2.2.1 x12.2.2.2.2.2 x12.2.2.2.1).bind λx96=>(some (x96.1,x96.2,x12.2.1,x12.2.2.1,x12.2.2.2.1,x12.2.2.2.2.1,x12.2.2.2.2.2)))) else(bif (decide ((aI.getD i1.toNat default).Kind=(12:Int))) then(Aw (A0 i1 aI.length) ((Ao (aI.getD i1.toNat default) (12:Int) x12.2.2.2.2.1 x12.2.1 x12.2.2.1 x12.2.2.2.2.2 x12.2.2.2.1).bind λx99=>(some (x99.1,x99.2,x12.2.1,x12.2.2.1,x12.2.2.2.1,x12.2.2.2.2.1,x12.2.2.2.2.2)))) else none)))))))))))))))))))))))) (λ(l15,i16,i17,i18,l19,l20,l21)=>(bif (i16 !=0) then(some (.done (.inr (i16,i17,i18,l19,l20,l21)))) else(Aw (A0 i1 aI.length) (Aw (A0 (aI.getD i1.toNat default).Dst l20.length) (some (.next ((w64 (i1+1)),i17,i18,l19,(l20.set ((aI.getD i1.toNat default).Dst).toNat l15),l21)))))))))))) else(some (.done (.inl (i2,i3,l4,l5,l6)))))
def BP(Γ:Il)(aI:List C5)(a2:Ey)(a4:Int)(a3:Int)(a7:Am)(a5:List Ad)(r:QG):Exit->St->Prop:=fK Tryz.prog Γ Tryz.f61.results.toList (Z1 a2 a4 a3 a7 a5 a5.length) (Ax r.1) (Z1 r.2.2.2.2.1 r.2.1 r.2.2.1 r.2.2.2.2.2 r.2.2.2.1 r.2.2.2.1.length)
def AE(x12:U8):List AV:=(WO 35100 x12.2.2.2.2.2.length x12.2.2.2.1 37101)
def AN(x12:U8):Own:=(.row 79 (AE x12))
def AP(x12:U8):AV:=(Ax x12.2.2.1)
def AK:Own:=(.obj (.tab .i64 YE))
def AJ(x12:U8):Own:=(.tok 3 49 x12.2.2.2.1.length)
def nW(aI:List C5)(i1:Int):=(aI.getD i1.toNat default)
def Un(aI:List C5)(i1:Int):AV:=(.int .i64 (nW aI i1).Kind)
def AO(x12:U8):AV:=(.vsl 35002 x12.2.2.2.2.1.length)
def AH(x12:U8):=(λi=>D7 (x12.2.2.2.2.1.getD i []))
def AG(x12:U8):=(λi=>Qi (x12.2.2.2.2.2.getD i 0))
def AM(x12:U8):Own:=(.arr 1 5 x12.2.2.2.2.2.length (AG x12))
def AL(x12:U8):Own:=(.arr 1 26 x12.2.2.2.2.1.length (AH x12))
def AF(x12:U8):Own:=(.row 85 [(Ha 30001),(.omap 9100001),(AO x12),(Ax x12.2.1),(AP x12)])
def wi(x12:U8):List Uc:=[(30000,.row 85 [(Ha 30001),(.omap 9100001),(AO x12),(Ax x12.2.1),(AP x12)]),(30001,.row 79 (AE x12)),(AR 37101 x12.2.2.2.1.length),(35002,.arr 1 26 x12.2.2.2.2.1.length (AH x12)),(35100,.arr 1 5 x12.2.2.2.2.2.length (AG x12)),(nG 9100001)]
def Ic(aI:List C5)(a2:Ey)(a4:Int)(a3:Int)(a7:Am)(a5:List Ad):Option QG:=
 ((Ac (F7 aI) ((0:Int),a4,a3,a5,a2,a7)).bind (λx104=>(match x104 with|(.inl (i7,i8,l9,l10,l11))=>(some ((0:Int),i7,i8,l9,l10,l11))|(.inr r106)=>(some r106))))
variable{v45:QG}{v9:List C5}
theorem Rv(h:Ic v9 v16 v4 v13 v0 v33=some v45):sP 61 [(Ha 30000),(AV.list 6 PO default v9 .none)] (Z1 v16 v4 v13 v0 v33 v33.length) (Ax v45.1) (Z1 v45.2.2.2.2.1 v45.2.1 v45.2.2.1 v45.2.2.2.2.2 v45.2.2.2.1 v45.2.2.2.1.length):=
 sG Tryz.func61 λΓ q=>tW q E6 Eu cn Eu (tL q h cn Eu (λu (i1,i2,i3,l4,l5,l6)=>(Cs u [(C6 10 i1)] [(YM l5.length i2 i3),(KM 30001 35100 l6.length l4 37101),(YK 35002 l5),(FV 35100 l6),(AR 37101 l4.length)])) (λu x_=>match x_ with|(.inl (i7,i8,l9,l10,l11))=>aG Γ (.exit 0) (⟨[],(Z39 l10.length i7 i8 l11.length l9 l10 l11 l9.length),[]⟩:St)|(.inr r_)=>aR (BP Γ v9 v16 v4 v13 v0 v33 r_)) (λ⟨i1,i2,i3,l4,l5,l6⟩ y h=>Ae q [0,1,9,10,11] Eu (gC h (λh=>Ae q [0,1,5,9,10] Eu (tB h λx12 y12 h=>tC h λc13_ h=>tC h λc14_ h=>tT q [0,1,5,9,10,15] Eu [(Z73 x12.1 (wi x12))] (c1 (Ny y12)) (gC h (λh=>Ae q [4] Eu (tS h (gO (Lj (Ht O1 (Le.refl _ _)))))) λh=>tB h λx100 y100 h=>gJR y100 (λ(l15,i16,i17,i18,l19,l20,l21)=>aG Γ .normal (⟨[(0,(Ha 30000)),(1,(AV.list 6 PO default v9 .none)),(5,(Ax i1)),(6,(f5 l15)),(7,(Ax i16)),(9,(Vc v9.length)),(C6 10 i1)],(Z39 l20.length i17 i18 l21.length l19 l20 l21 l19.length),[]⟩:St)) (λy h=>tC h λc22_ h=>gB h (λhs23 h=>tC h λc24_ h=>tB h λx25 y25 h=>gR q Lk Y4 [(25,Px)] [⟨[],[(20000,31)],(.tuple (jy x25.1 x25.2)),[(20000,.tok 1 37 x25.1.length)],[],[]⟩] (c4 c22_ (show(AVle (Un v9 i1) Px) from(Cp hs23)) c24_ (LN y25)) (tS h (gK (Bd (Bk Lk Eu q))))) (λhs23 h=>gB h (λhs26 h=>tC h λc27_ h=>tB h λx28 y28 h=>gR q Lk Eu [(25,(Vc 13))] [(Z79 x28.1 x28.2 (wi x12))] (SC c22_ (show(AVle (Un v9 i1) (Vc 13)) from(Cp hs26)) c27_ (Yk y28) (Ul [(AF x12),(AN x12),(AJ x12),(AL x12),(AM x12),AK])) (tS h (gK (Bd Jh)))) (λhs26 h=>gB h (λhs29 h=>tC h λc30_ h=>tB h λx31 y31 h=>gR q Lk Y4 [(25,(Vc 14))] [(Z4 x31.1 x31.2 (AO x12) x12.2.1 (AP x12) (AE x12) x12.2.2.2.1.length x12.2.2.2.2.1.length (AH x12) x12.2.2.2.2.2.length (AG x12) x31.1.length)] (SC c22_ (show(AVle (Un v9 i1) (Vc 14)) from(Cp hs29)) c30_ (Vf y31) (Ul [(AF x12),(AN x12),(AJ x12),(AL x12),(AM x12),AK])) (tS h (gK (Bd (Bk Lk Eu q))))) (λhs29 h=>gB h (λhs32 h=>tC h λc33_ h=>tB h λx34 y34 h=>gR q Lk Y4 [(25,(Vc 15))] [(Z4 x34.1 x34.2 (AO x12) x12.2.1 (AP x12) (AE x12) x12.2.2.2.1.length x12.2.2.2.2.1.length (AH x12) x12.2.2.2.2.2.length (AG x12) x34.1.length)] (SC c22_ (show(AVle (Un v9 i1) (Vc 15)) from(Cp hs32)) c33_ (Tk y34) (Ul [(AF x12),(AN x12),(AJ x12),(AL x12),(AM x12),AK])) (tS h (gK (Bd (Bk Lk Eu q))))) (λhs32 h=>gB h (λhs35 h=>tC h λc36_ h=>tB h λx37 y37 h=>tC h λc38_ h=>tC h λc39_ h=>gR q Lk Y4 [(25,(Vc 16))] [(Z33 31 x37.1 x37.2.1 x37.2.2.2.2.2.1 x37.2.2.1 x37.2.2.2.1 x37.2.2.2.2.2.2 x37.2.2.2.2.1 x37.2.2.2.2.1.length x37.1.length)] (c4 c22_ (show(AVle (Un v9 i1) (Vc 16)) from(Cp hs35)) c36_ (S5 y37)) (tS h (gK (Bd (Bk Lk Eu q))))) (λhs35 h=>gB h (λhs40 h=>tC h λc41_ h=>tB h λx42 y42 h=>tC h λc43_ h=>tC h λc44_ h=>gR q Lk Y4 [(25,(Vc 17))] [(Z33 31 x42.1 x42.2.1 x42.2.2.2.2.2.1 x42.2.2.1 x42.2.2.2.1 x42.2.2.2.2.2.2 x42.2.2.2.2.1 x42.2.2.2.2.1.length x42.1.length)] (c4 c22_ (show(AVle (Un v9 i1) (Vc 17)) from(Cp hs40)) c41_ (Rw y42)) (tS h (gK (Bd (Bk Lk Eu q))))) (λhs40 h=>gB h (λhs45 h=>tC h λc46_ h=>tB h λx47 y47 h=>tC h λc48_ h=>tC h λc49_ h=>gR q Lk Eu [(25,(Vc 18))] [(zw x47.1 x47.2.1 x47.2.2.2.2.2.1 x47.2.2.1 x47.2.2.2.1 x47.2.2.2.2.2.2 x47.2.2.2.2.1 x47.2.2.2.2.1.length)] (c4 c22_ (show(AVle (Un v9 i1) (Vc 18)) from(Cp hs45)) c46_ (Ve y47)) (tS h (gK (Bd Jh)))) (λhs45 h=>gB h (λhs50 h=>tC h λc51_ h=>tB h λx52 y52 h=>tC h λc53_ h=>tC h λc54_ h=>gR q Lk Eu [(25,(Vc 19))] [(zw x52.1 x52.2.1 x52.2.2.2.2.2.1 x52.2.2.1 x52.2.2.2.1 x52.2.2.2.2.2.2 x52.2.2.2.2.1 x52.2.2.2.2.1.length)] (c4 c22_ (show(AVle (Un v9 i1) (Vc 19)) from(Cp hs50)) c51_ (Ti y52)) (tS h (gK (Bd Jh)))) (λhs50 h=>gB h (λhs55 h=>tC h λc56_ h=>tB h λx57 y57 h=>gR q Lk Eu [(25,(Vc 20))] [(Z79 x57.1 x57.2 (wi x12))] (SC c22_ (show(AVle (Un v9 i1) (Vc 20)) from(Cp hs55)) c56_ (Tj y57) (Ul [(AF x12),(AN x12),(AJ x12),(AL x12),(AM x12),AK])) (tS h (gK (Bd Jh)))) (λhs55 h=>gB h (λhs58 h=>tC h λc59_ h=>tB h λx60 y60 h=>gR q Lk Y4 [(25,(Vc 21))] [(Z4 x60.1 x60.2 (AO x12) x12.2.1 (AP x12) (AE x12) x12.2.2.2.1.length x12.2.2.2.2.1.length (AH x12) x12.2.2.2.2.2.length (AG x12) x60.1.length)] (SC c22_ (show(AVle (Un v9 i1) (Vc 21)) from(Cp hs58)) c59_ (DB y60) (Ul [(AF x12),(AN x12),(AJ x12),(AL x12),(AM x12),AK])) (tS h (gK (Bd (Bk Lk Eu q))))) (λhs58 h=>gB h (λhs61 h=>tC h λc62_ h=>tB h λx63 y63 h=>gR q Lk Y4 [(25,(Vc 22))] [(Z4 x63.1 x63.2 (AO x12) x12.2.1 (AP x12) (AE x12) x12.2.2.2.1.length x12.2.2.2.2.1.length (AH x12) x12.2.2.2.2.2.length (AG x12) x63.1.length)] (SC c22_ (show(AVle (Un v9 i1) (Vc 22)) from(Cp hs61)) c62_ (FQ y63) (Ul [(AF x12),(AN x12),(AJ x12),(AL x12),(AM x12),AK])) (tS h (gK (Bd (Bk Lk Eu q))))) (λhs61 h=>gB h (λhs64 h=>tC h λc65_ h=>tB h λx66 y66 h=>gR q Lk Y4 [(25,RN)] [(Z4 x66.1 x66.2 (AO x12) x12.2.1 (AP x12) (AE x12) x12.2.2.2.1.length x12.2.2.2.2.1.length (AH x12) x12.2.2.2.2.2.length (AG x12) x66.1.length)] (SC c22_ (show(AVle (Un v9 i1) RN) from(Cp hs64)) c65_ (Bf y66) (Ul [(AF x12),(AN x12),(AJ x12),(AL x12),(AM x12),AK])) (tS h (gK (Bd (Bk Lk Eu q))))) (λhs64 h=>gB h (λhs67 h=>tC h λc68_ h=>tB h λx69 y69 h=>gR q Lk Y4 [(25,RL)] [(Z4 x69.1 x69.2 (AO x12) x12.2.1 (AP x12) (AE x12) x12.2.2.2.1.length x12.2.2.2.2.1.length (AH x12) x12.2.2.2.2.2.length (AG x12) x69.1.length)] (SC c22_ (show(AVle (Un v9 i1) RL) from(Cp hs67)) c68_ (Bf y69) (Ul [(AF x12),(AN x12),(AJ x12),(AL x12),(AM x12),AK])) (tS h (gK (Bd (Bk Lk Eu q))))) (λhs67 h=>gB h (λhs70 h=>tC h λc71_ h=>tB h λx72 y72 h=>gR q Lk Y4 [(25,nI)] [(Z4 x72.1 x72.2 (AO x12) x12.2.1 (AP x12) (AE x12) x12.2.2.2.1.length x12.2.2.2.2.1.length (AH x12) x12.2.2.2.2.2.length (AG x12) x72.1.length)] (SC c22_ (show(AVle (Un v9 i1) nI) from(Cp hs70)) c71_ (Bf y72) (Ul [(AF x12),(AN x12),(AJ x12),(AL x12),(AM x12),AK])) (tS h (gK (Bd (Bk Lk Eu q))))) (λhs70 h=>gB h (λhs73 h=>tC h λc74_ h=>tB h λx75 y75 h=>gR q Lk Y4 [(25,(.int .i64 (4:Int)))] [(Z4 x75.1 x75.2 (AO x12) x12.2.1 (AP x12) (AE x12) x12.2.2.2.1.length x12.2.2.2.2.1.length (AH x12) x12.2.2.2.2.2.length (AG x12) x75.1.length)] (SC c22_ (show(AVle (Un v9 i1) (.int .i64 (4:Int))) from(Cp hs73)) c74_ (Bf y75) (Ul [(AF x12),(AN x12),(AJ x12),(AL x12),(AM x12),AK])) (tS h (gK (Bd (Bk Lk Eu q))))) (λhs73 h=>gB h (λhs76 h=>tC h λc77_ h=>tB h λx78 y78 h=>gR q Lk Y4 [(25,nH)] [(Z4 x78.1 x78.2 (AO x12) x12.2.1 (AP x12) (AE x12) x12.2.2.2.1.length x12.2.2.2.2.1.length (AH x12) x12.2.2.2.2.2.length (AG x12) x78.1.length)] (SC c22_ (show(AVle (Un v9 i1) nH) from(Cp hs76)) c77_ (Bf y78) (Ul [(AF x12),(AN x12),(AJ x12),(AL x12),(AM x12),AK])) (tS h (gK (Bd (Bk Lk Eu q))))) (λhs76 h=>gB h (λhs79 h=>tC h λc80_ h=>tB h λx81 y81 h=>gR q Lk Y4 [(25,(.int .i64 (6:Int)))] [(Z4 x81.1 x81.2 (AO x12) x12.2.1 (AP x12) (AE x12) x12.2.2.2.1.length x12.2.2.2.2.1.length (AH x12) x12.2.2.2.2.2.length (AG x12) x81.1.length)] (SC c22_ (show(AVle (Un v9 i1) (.int .i64 (6:Int))) from(Cp hs79)) c80_ (Bf y81) (Ul [(AF x12),(AN x12),(AJ x12),(AL x12),(AM x12),AK])) (tS h (gK (Bd (Bk Lk Eu q))))) (λhs79 h=>gB h (λhs82 h=>tC h λc83_ h=>tB h λx84 y84 h=>gR q Lk Y4 [(25,(.int .i64 (7:Int)))] [(Z4 x84.1 x84.2 (AO x12) x12.2.1 (AP x12) (AE x12) x12.2.2.2.1.length x12.2.2.2.2.1.length (AH x12) x12.2.2.2.2.2.length (AG x12) x84.1.length)] (SC c22_ (show(AVle (Un v9 i1) (.int .i64 (7:Int))) from(Cp hs82)) c83_ (Bf y84) (Ul [(AF x12),(AN x12),(AJ x12),(AL x12),(AM x12),AK])) (tS h (gK (Bd (Bk Lk Eu q))))) (λhs82 h=>gB h (λhs85 h=>tC h λc86_ h=>tB h λx87 y87 h=>gR q Lk Y4 [(25,bT)] [(Z4 x87.1 x87.2 (AO x12) x12.2.1 (AP x12) (AE x12) x12.2.2.2.1.length x12.2.2.2.2.1.length (AH x12) x12.2.2.2.2.2.length (AG x12) x87.1.length)] (SC c22_ (show(AVle (Un v9 i1) bT) from(Cp hs85)) c86_ (Bf y87) (Ul [(AF x12),(AN x12),(AJ x12),(AL x12),(AM x12),AK])) (tS h (gK (Bd (Bk Lk Eu q))))) (λhs85 h=>gB h (λhs88 h=>tC h λc89_ h=>tB h λx90 y90 h=>gR q Lk Y4 [(25,(.int .i64 (9:Int)))] [(Z4 x90.1 x90.2 (AO x12) x12.2.1 (AP x12) (AE x12) x12.2.2.2.1.length x12.2.2.2.2.1.length (AH x12) x12.2.2.2.2.2.length (AG x12) x90.1.length)] (SC c22_ (show(AVle (Un v9 i1) (.int .i64 (9:Int))) from(Cp hs88)) c89_ (Bf y90) (Ul [(AF x12),(AN x12),(AJ x12),(AL x12),(AM x12),AK])) (tS h (gK (Bd (Bk Lk Eu q))))) (λhs88 h=>gB h (λhs91 h=>tC h λc92_ h=>tB h λx93 y93 h=>gR q Lk Y4 [(25,(Vc 10))] [(Z4 x93.1 x93.2 (AO x12) x12.2.1 (AP x12) (AE x12) x12.2.2.2.1.length x12.2.2.2.2.1.length (AH x12) x12.2.2.2.2.2.length (AG x12) x93.1.length)] (SC c22_ (show(AVle (Un v9 i1) (Vc 10)) from(Cp hs91)) c92_ (Bf y93) (Ul [(AF x12),(AN x12),(AJ x12),(AL x12),(AM x12),AK])) (tS h (gK (Bd (Bk Lk Eu q))))) (λhs91 h=>gB h (λhs94 h=>tC h λc95_ h=>tB h λx96 y96 h=>gR q Lk Y4 [(25,(Vc 11))] [(Z4 x96.1 x96.2 (AO x12) x12.2.1 (AP x12) (AE x12) x12.2.2.2.1.length x12.2.2.2.2.1.length (AH x12) x12.2.2.2.2.2.length (AG x12) x96.1.length)] (SC c22_ (show(AVle (Un v9 i1) (Vc 11)) from(Cp hs94)) c95_ (Bf y96) (Ul [(AF x12),(AN x12),(AJ x12),(AL x12),(AM x12),AK])) (tS h (gK (Bd (Bk Lk Eu q))))) (λhs94 h=>gB h (λhs97 h=>tC h λc98_ h=>tB h λx99 y99 h=>gR q Lk Y4 [(25,(Vc 12))] [(Z4 x99.1 x99.2 (AO x12) x12.2.1 (AP x12) (AE x12) x12.2.2.2.1.length x12.2.2.2.2.1.length (AH x12) x12.2.2.2.2.2.length (AG x12) x99.1.length)] (SC c22_ (show(AVle (Un v9 i1) (Vc 12)) from(Cp hs97)) c98_ (Bf y99) (Ul [(AF x12),(AN x12),(AJ x12),(AL x12),(AM x12),AK])) (tS h (gK (Bd (Bk Lk Eu q))))) (λhs97 h=>nomatch h)))))))))))))))))))))))) (match x100,h with|⟨l15,i16,i17,i18,l19,l20,l21⟩,h=>gA (Ae q [0,1,5,6,7,9,10,35] Eu (gC h (λh=>Ae q [4] Eu (tS h (gO (Lj (Ht O1 (Le.refl _ _)))))) λh=>tC h λc102_ h=>tC h λc103_ h=>tU q cn Eu (c3 c102_ c103_ (Eq.refl l20.length)) (M4 (Le.trans (Sp 35002 (show ∀ k_,k_<l20.length->AVleL ((λi_=>AV.eraseAll (λn_=>B3 n_ Eu) ((E0 (λi=>D7 (l20.getD i [])) ((nW v9 i1).Dst).toNat 0 [(f5 l15)]) i_)) k_) ((λi=>D7 ((l20.set ((nW v9 i1).Dst).toNat l15).getD i [])) k_) from(Bc (Cm ..).symm (λk_ hk_=>(Bx (AV.eraseAll (λn_=>B3 n_ Eu)) ((Fq (λ_ _=>rfl) (Gs c103_) rfl) k_ hk_)).trans rfl)))) (Sq (λ(k_:Nat) u=>(Cs u [] [(YM k_ i17 i18),(35002,.arr 1 26 k_ (λi=>D7 ((l20.set ((nW v9 i1).Dst).toNat l15).getD i [])))])) (show l20.length=(l20.set ((nW v9 i1).Dst).toNat l15).length from(Cm ..).symm))) (Ae q cn Eu (tN h))))))))) λh=>tS h (gO (Bd (Bk [] Eu q))))) λx104 h=>(match x104,h with | .inl ⟨i7,i8,l9,l10,l11⟩,h=>gA (Ae q [4] Eu (tS h (Bi O1))) | .inr r106,h=>Pz (λst' hk=>tS h (gK hk))))
def Fa(aL:Int)(a2:Ey)(a4:Int)(a3:Int)(a7:Am)(a5:List Ad):Option PK:=
 (some (⟨aL,(0:Int),a3⟩:PK))
variable{v46:PK}
theorem Gl(h:Fa v4 v16 v13 v21 v0 v33=some v46):sP 62 [(Ha 30000),(Ax v4)] (Z1 v16 v13 v21 v0 v33 v33.length) (.agg (FY v46)) (Z1 v16 v13 v21 v0 v33 v33.length):=
 sG Tryz.func62 λΓ q=>tW q [0,1,4] Rq [4] Rq (tS h (Bi O1))
def wj(a2:Ey)(a4:Int)(a3:Int)(a7:Am)(a5:List Ad):List Uc:=(Z1 a2 a4 a3 a7 a5 a5.length)
def Dl(aL:L8)(a2:Ey)(a4:Int)(a3:Int)(a7:Am)(a5:List Ad):Option Int:=
 (bif (aL.Kind==2) then((D1 aL.Arg a2 a4 a3 a7 a5).bind λx2=>(bif (!x2) then(Aw (A0 (1:Int) aL.To.length) (some (aL.To.getD (1:Int).toNat (0:Int)))) else(Aw (A0 (0:Int) aL.To.length) (some (aL.To.getD (0:Int).toNat (0:Int)))))) else(Aw (A0 (0:Int) aL.To.length) (some (aL.To.getD (0:Int).toNat (0:Int)))))
variable{v10:L8}
theorem Ts(h:Dl v10 v16 v4 v13 v0 v33=some v21):sP 65 [(Ha 30000),(.agg (du v10))] (Z1 v16 v4 v13 v0 v33 v33.length) (.int .i64 v21) (Z1 v16 v4 v13 v0 v33 v33.length):=
 sG Tryz.func65 λΓ q=>Ae q Ou Vg (gB h (λhs1 h=>tB h λx2 y2 h=>gR q K3 Vg [(8,(.bool true))] [⟨O1,[],(.bool x2),(wj v16 v4 v13 v0 v33),[],k7⟩] (ci (show(AVle (.bool (v10.Kind==2)) (.bool true)) from(Xu hs1)) (Za (true==true) (c9 (show((true==true)=true->(sP 77 [(Ha 30000),(Ax v10.Arg)] (wj v16 v4 v13 v0 v33) (.bool x2) (wj v16 v4 v13 v0 v33))) from(λ_=>(Ih y2))) (show((true==true)=true->(some (.row 85 (YJ v16.length v4 v13):Own)=some (.row 85 (YJ v16.length v4 v13):Own))) from(λ_=>@(rk (.row 85 (YJ v16.length v4 v13))))) (show((true==true)=true->(some (.row 79 (WO 35100 v0.length v33 37101):Own)=some (.row 79 (WO 35100 v0.length v33 37101):Own))) from(λ_=>@(rk (.row 79 (WO 35100 v0.length v33 37101))))) (show((true==true)=true->(some (.tok 3 49 v33.length:Own)=some (.tok 3 49 v33.length:Own))) from(λ_=>@(rk (.tok 3 49 v33.length)))) (show((true==true)=true->(some (.arr 1 26 v16.length (λi=>D7 (v16.getD i [])):Own)=some (.arr 1 26 v16.length (λi=>D7 (v16.getD i [])):Own))) from(λ_=>@(rk (.arr 1 26 v16.length (λi=>D7 (v16.getD i [])))))) (show((true==true)=true->(some (.arr 1 5 v0.length (λi=>Qi (v0.getD i 0)):Own)=some (.arr 1 5 v0.length (λi=>Qi (v0.getD i 0)):Own))) from(λ_=>@(rk (.arr 1 5 v0.length (λi=>Qi (v0.getD i 0)))))) (show((true==true)=true->(some (.obj (.tab .i64 YE):Own)=some (.obj (.tab .i64 YE):Own))) from(λ_=>@(rk (.obj (.tab .i64 YE))))) (gI (true==true)) (show(true=true->(true==true)=true) from(λ_=>rfl))))) (gC h (λh=>tV q [4] Eu h λh=>tS h (Bi O1)) λh=>tV q [4] Eu h λh=>tS h (Bi O1))) (λhs1 h=>gR q K3 Vg [(8,(.bool false))] [⟨[],[],(.bool false),[],[],[]⟩] (ci (show(AVle (.bool (v10.Kind==2)) (.bool false)) from(Xu hs1)) (Za (false==true) (c3 (show((false==true)=true->(sP 77 [.any,(Ax v10.Arg)] [] (.bool false) [])) from QQ) (gI (false==true)) (show(false=true->(false==true)=true) from QQ)))) (CJ false (tV q [4] Eu h λh=>tS h (Bi O1)))))
def Gx(aQ:List Fe)(aW:Int)(a2:Ey):cx->Option wS:=
 λ((i2,l3):cx)=>(bif (decide (i2<(aQ.length:Int))) then(Aw (A0 i2 aQ.length) ((Dp ((aQ.getD i2.toNat default).From) aW).bind λx6=>(Aw (A0 x6 ((aQ.getD i2.toNat default).Args).length) (Aw (A0 (((aQ.getD i2.toNat default).Args).getD x6.toNat 0) a2.length) (Aw (A0 i2 l3.length) (some (.next ((w64 (i2+1)),(l3.set i2.toNat (a2.getD (((aQ.getD i2.toNat default).Args).getD x6.toNat 0).toNat [])))))))))) else(some (.done l3)))
def Jd(aQ:List Fe)(l4:Ey):cx->Option wS:=
 λ((i12,l13):cx)=>(bif (decide (i12<(aQ.length:Int))) then(Aw (A0 i12 aQ.length) (Aw (A0 i12 l4.length) (Aw (A0 (aQ.getD i12.toNat default).Dst l13.length) (some (.next ((w64 (i12+1)),(l13.set ((aQ.getD i12.toNat default).Dst).toNat (l4.getD i12.toNat [])))))))) else(some (.done l13)))
def nX:=(λn_=>B3 n_ [13,30000,30001,35002,35100,37101,9100001])
def sU(a2:Ey)(aQ:List Fe)(i2:Int)(x6:Int):=(a2.getD (((aQ.getD i2.toNat default).Args).getD x6.toNat 0).toNat [])
def D0(aQ:List Fe)(aW:Int)(a2:Ey)(a4:Int)(a3:Int)(a7:Am)(a5:List Ad):Option vi:=
 (Aw (0<=(aQ.length:Int)/\(aQ.length:Int)<=(aQ.length:Int)/\(aQ.length:Int)<=(room:Int)) ((Ac (Gx aQ aW a2) ((0:Int),(List.replicate (aQ.length:Int).toNat ([]:Am)))).bind (λx10=>((Ac (Jd aQ x10) ((0:Int),a2)).bind (λx18=>(some (a4,a3,a5,x18,a7)))))))
variable{v35:vi}{v7:List Fe}
theorem S4(h:D0 v7 v4 v16 v13 v21 v0 v33=some v35):sP 66 [(Ha 30000),(AV.list 4 Wx default v7 .none),(Ax v4)] (Z1 v16 v13 v21 v0 v33 v33.length) (.tuple []) (Z1 v35.2.2.2.1 v35.1 v35.2.1 v35.2.2.2.2 v35.2.2.1 v35.2.2.1.length):=
 sG Tryz.func66 λΓ q=>tV q [0,1,2,6] Xk h λh=>by exact M4 (Le.trans (Sp 13 (show ∀ k_,k_<((v7.length:Int).toNat)->AVleL ((λi_=>AV.eraseAll nX ((λ_=>[dO]) i_)) k_) ((λi=>D7 ((List.replicate (v7.length:Int).toNat ([]:Am)).getD i [])) k_) from(λk hk=>Mi (e:=D7) (d:=[]) (.cons (λ_ _ _ _ _ hh=>AVle.untag _ _ _ _ _ (He _ _ _ _ _ hh)) .nil) _ k (Mn hk)))) (Sq (λ(k_:Nat) u=>(Cs u [(6,(.vsl 13 k_))] [(13,.arr 1 26 k_ (λi=>D7 ((List.replicate (v7.length:Int).toNat ([]:Am)).getD i [])))])) (show(v7.length:Int).toNat=(List.replicate (v7.length:Int).toNat ([]:Am)).length from(K1 ..).symm))) (Ae q cU Xk (tL q h cU Xk (λu (i2,l3)=>(Cs u [(6,(.vsl 13 l3.length)),(C6 16 i2)] [(YK 13 l3)])) (λu l4=>aG Γ (.exit 0) (Oz [0,1,6] Xk u [(6,(.vsl 13 l4.length))] [(YK 13 l4)])) (λ⟨i2,l3⟩ y h=>Ae q [0,1,2,6,14,15,16,17] Xk (gC h (λh=>tV q [0,1,2,6,7,8,14,15,16] [8,13,30000,30001,35002,35100,37101,9100001] h λh=>tB h λx6 y6 h=>tC h λc7_ h=>tC h λc8_ h=>tC h λc9_ h=>tT q cU Xk [(XA x6)] (c6 (P6 y6) c7_ c8_ (Eq.refl v16.length) c9_ (Eq.refl l3.length)) (M4 (Le.trans (Sp 13 (show ∀ k_,k_<l3.length->AVleL ((λi_=>AV.eraseAll nX ((E0 (λi=>D7 (l3.getD i [])) i2.toNat 0 [(f5 (sU v16 v7 i2 x6))]) i_)) k_) ((λi=>D7 ((l3.set i2.toNat (sU v16 v7 i2 x6)).getD i [])) k_) from(Bc (Cm ..).symm (λk_ hk_=>(Bx (AV.eraseAll nX) ((Fq (λ_ _=>rfl) (Gs c9_) rfl) k_ hk_)).trans rfl)))) (Sq (λ(k_:Nat) u=>(Cs u [(6,(.vsl 13 k_))] [(13,.arr 1 26 k_ (λi=>D7 ((l3.set i2.toNat (sU v16 v7 i2 x6)).getD i [])))])) (show l3.length=(l3.set i2.toNat (sU v16 v7 i2 x6)).length from(Cm ..).symm))) (Ae q cU Xk (tN h)))) λh=>tS h (gO (Bd (Bk [0,1,6] Xk q))))) λx10 h=>gA (Ae q ce Xk (tL q h ce Xk (λu (i12,l13)=>(Cs u [(C6 41 i12)] [(YM l13.length v13 v21),(YK 35002 l13)])) (λu l14=>aG Γ (.exit 2) (Oz [] Eu u [] [(YM l14.length v13 v21),(YK 35002 l14)])) (λ⟨i12,l13⟩ y h=>Ae q [0,6,39,40,41,42] Xk (gC h (λh=>tV q [0,6,9,10,39,40,41] [10,13,30000,30001,35002,35100,37101,9100001] h λh=>tC h λc16_ h=>tC h λc17_ h=>tU q ce Xk (c4 c16_ (Eq.refl x10.length) c17_ (Eq.refl l13.length)) (M4 (Le.trans (Sp 35002 (show ∀ k_,k_<l13.length->AVleL ((λi_=>AV.eraseAll nX ((E0 (λi=>D7 (l13.getD i [])) ((v7.getD i12.toNat default).Dst).toNat 0 [(AV.list 1 Dd 0 (x10.getD i12.toNat []) .none)]) i_)) k_) ((λi=>D7 ((l13.set ((v7.getD i12.toNat default).Dst).toNat (x10.getD i12.toNat [])).getD i [])) k_) from(Bc (Cm ..).symm (λk_ hk_=>(Bx (AV.eraseAll nX) ((Fq (λ_ _=>rfl) (Gs c17_) rfl) k_ hk_)).trans rfl)))) (Sq (λ(k_:Nat) u=>(Cs u [] [(YM k_ v13 v21),(35002,.arr 1 26 k_ (λi=>D7 ((l13.set ((v7.getD i12.toNat default).Dst).toNat (x10.getD i12.toNat [])).getD i [])))])) (show l13.length=(l13.set ((v7.getD i12.toNat default).Dst).toNat (x10.getD i12.toNat [])).length from(Cm ..).symm))) (Ae q ce Xk (tN h)))) λh=>tS h (gO (Bd (Bk [] Eu q))))) λx18 h=>nJ (λst' hl19=>tS h (gK (e:=.normal) (Ht O1 hl19)))))))
def Bn(aV:List Aj):QG->Option (LR (Int×Int×Int×List Ad×Ey×Am) (PK×Int×Int×List Ad×Ey×Am)):=
 λ(s_:QG)=>match s_ with|(i1,i2,i3,l4,l5,l6)=>(Aw (A0 i1 aV.length) (Aw (A0 i1 aV.length) ((Ic ((aV.getD i1.toNat default).Ops) l5 i2 i3 l6 l4).bind λx26=>(Aw (l5.length=x26.2.2.2.2.1.length) (Aw (l6.length=x26.2.2.2.2.2.length) (bif (x26.1 !=0) then((Fa x26.1 x26.2.2.2.2.1 x26.2.1 x26.2.2.1 x26.2.2.2.2.2 x26.2.2.2.1).bind λx29=>(some (.done (x29,x26.2.1,x26.2.2.1,x26.2.2.2.1,x26.2.2.2.2.1,x26.2.2.2.2.2)))) else((G7 x26.2.2.2.2.1 x26.2.1 x26.2.2.1 x26.2.2.2.2.2 x26.2.2.2.1).bind λx30=>(Aw (x26.2.2.2.2.1.length=x30.2.2.2.2.1.length) (Aw (x26.2.2.2.2.2.length=x30.2.2.2.2.2.length) (bif (!x30.1) then((Fa (9:Int) x30.2.2.2.2.1 x30.2.1 x30.2.2.1 x30.2.2.2.2.2 x30.2.2.2.1).bind λx33=>(some (.done (x33,x30.2.1,x30.2.2.1,x30.2.2.2.1,x30.2.2.2.2.1,x30.2.2.2.2.2)))) else(bif (((aV.getD i1.toNat default).End.Kind:Int)==0) then((Be ((aV.getD i1.toNat default).End.Arg) x30.2.2.2.2.1 x30.2.1 x30.2.2.1 x30.2.2.2.2.2 x30.2.2.2.1).bind λx34=>(some (.done ((⟨(0:Int),x34,x30.2.2.1⟩:PK),x30.2.1,x30.2.2.1,x30.2.2.2.1,x30.2.2.2.2.1,x30.2.2.2.2.2)))) else(bif (((aV.getD i1.toNat default).End.Kind:Int)==3) then((Fa (8:Int) x30.2.2.2.2.1 x30.2.1 x30.2.2.1 x30.2.2.2.2.2 x30.2.2.2.1).bind λx35=>(some (.done (x35,x30.2.1,x30.2.2.1,x30.2.2.2.1,x30.2.2.2.2.1,x30.2.2.2.2.2)))) else((Dl (⟨(aV.getD i1.toNat default).End.Kind,(aV.getD i1.toNat default).End.Arg,(aV.getD i1.toNat default).End.To⟩:L8) x30.2.2.2.2.1 x30.2.1 x30.2.2.1 x30.2.2.2.2.2 x30.2.2.2.1).bind λx36=>(Aw (A0 x36 aV.length) ((D0 ((aV.getD x36.toNat default).Phis) i1 x30.2.2.2.2.1 x30.2.1 x30.2.2.1 x30.2.2.2.2.2 x30.2.2.2.1).bind λx38=>(Aw (x30.2.2.2.2.1.length=x38.2.2.2.1.length) (Aw (x30.2.2.2.2.2.length=x38.2.2.2.2.length) (some (.next (x36,x38.1,x38.2.1,x38.2.2.1,x38.2.2.2.1,x38.2.2.2.2))))))))))))))))))))
abbrev vk:=(PK×Int×Int×List Ad×Ey×Am)
def HA(Γ:Il)(aV:List Aj)(a2:Ey)(a4:Int)(a3:Int)(a7:Am)(a5:List Ad)(r:vk):Exit->St->Prop:=fK Tryz.prog Γ Tryz.f30.results.toList (Z1 a2 a4 a3 a7 a5 a5.length) (.agg (FY r.1)) (Z1 r.2.2.2.2.1 r.2.1 r.2.2.1 r.2.2.2.2.2 r.2.2.2.1 r.2.2.2.1.length)
def WV:Own:=(.obj (.tab .i64 YE))
def Ab8(aV:List Aj):=(aV.getD (0:Int).toNat (default:Aj))
def sd(x13:U8):Own:=(.arr 1 26 x13.2.2.2.2.1.length (λi=>D7 (x13.2.2.2.2.1.getD i [])))
def se(x30:U8):Own:=(.arr 1 26 x30.2.2.2.2.1.length (λi=>D7 (x30.2.2.2.2.1.getD i [])))
def sb(x13:U8):Own:=(.arr 1 5 x13.2.2.2.2.2.length (λi=>Qi (x13.2.2.2.2.2.getD i 0)))
def sc(x30:U8):Own:=(.arr 1 5 x30.2.2.2.2.2.length (λi=>Qi (x30.2.2.2.2.2.getD i 0)))
def sY(x13:U8):Own:=(.row 79 (WO 35100 x13.2.2.2.2.2.length x13.2.2.2.1 37101))
def sZ(x30:U8):Own:=(.row 79 (WO 35100 x30.2.2.2.2.2.length x30.2.2.2.1 37101))
def sW(x13:U8):Own:=(.row 85 (YJ x13.2.2.2.2.1.length x13.2.1 x13.2.2.1))
def sX(x30:U8):Own:=(.row 85 (YJ x30.2.2.2.2.1.length x30.2.1 x30.2.2.1))
def zC(x9:QG):List Uc:=(Z1 x9.2.2.2.2.1 x9.2.1 x9.2.2.1 x9.2.2.2.2.2 x9.2.2.2.1 x9.2.2.2.1.length)
def nY(x13:U8):List Uc:=(Z1 x13.2.2.2.2.1 x13.2.1 x13.2.2.1 x13.2.2.2.2.2 x13.2.2.2.1 x13.2.2.2.1.length)
def nZ(x30:U8):List Uc:=(Z1 x30.2.2.2.2.1 x30.2.1 x30.2.2.1 x30.2.2.2.2.2 x30.2.2.2.1 x30.2.2.2.1.length)
def zB(x26:QG):List Uc:=(Z1 x26.2.2.2.2.1 x26.2.1 x26.2.2.1 x26.2.2.2.2.2 x26.2.2.2.1 x26.2.2.2.1.length)
def Mf(aV:List Aj)(a2:Ey)(a4:Int)(a3:Int)(a7:Am)(a5:List Ad):Option vk:=
 ((N6 (S:=QG) (X:=vk) (Aw (A0 (0:Int) aV.length) (Aw (A0 (0:Int) aV.length) ((Ic ((aV.getD (0:Int).toNat (default:Aj)).Ops) a2 a4 a3 a7 a5).bind λx9=>(Aw (a2.length=x9.2.2.2.2.1.length) (Aw (a7.length=x9.2.2.2.2.2.length) (bif (x9.1 !=0) then((Fa x9.1 x9.2.2.2.2.1 x9.2.1 x9.2.2.1 x9.2.2.2.2.2 x9.2.2.2.1).bind λx12=>(some (.done (x12,x9.2.1,x9.2.2.1,x9.2.2.2.1,x9.2.2.2.2.1,x9.2.2.2.2.2)))) else((G7 x9.2.2.2.2.1 x9.2.1 x9.2.2.1 x9.2.2.2.2.2 x9.2.2.2.1).bind λx13=>(Aw (x9.2.2.2.2.1.length=x13.2.2.2.2.1.length) (Aw (x9.2.2.2.2.2.length=x13.2.2.2.2.2.length) (bif (!x13.1) then((Fa (9:Int) x13.2.2.2.2.1 x13.2.1 x13.2.2.1 x13.2.2.2.2.2 x13.2.2.2.1).bind λx16=>(some (.done (x16,x13.2.1,x13.2.2.1,x13.2.2.2.1,x13.2.2.2.2.1,x13.2.2.2.2.2)))) else(bif (((aV.getD (0:Int).toNat (default:Aj)).End.Kind:Int)==0) then((Be ((aV.getD (0:Int).toNat (default:Aj)).End.Arg) x13.2.2.2.2.1 x13.2.1 x13.2.2.1 x13.2.2.2.2.2 x13.2.2.2.1).bind λx17=>(some (.done ((⟨(0:Int),x17,x13.2.2.1⟩:PK),x13.2.1,x13.2.2.1,x13.2.2.2.1,x13.2.2.2.2.1,x13.2.2.2.2.2)))) else(bif (((aV.getD (0:Int).toNat (default:Aj)).End.Kind:Int)==3) then((Fa (8:Int) x13.2.2.2.2.1 x13.2.1 x13.2.2.1 x13.2.2.2.2.2 x13.2.2.2.1).bind λx18=>(some (.done (x18,x13.2.1,x13.2.2.1,x13.2.2.2.1,x13.2.2.2.2.1,x13.2.2.2.2.2)))) else((Dl (⟨(aV.getD (0:Int).toNat (default:Aj)).End.Kind,(aV.getD (0:Int).toNat (default:Aj)).End.Arg,(aV.getD (0:Int).toNat (default:Aj)).End.To⟩:L8) x13.2.2.2.2.1 x13.2.1 x13.2.2.1 x13.2.2.2.2.2 x13.2.2.2.1).bind λx19=>(Aw (A0 x19 aV.length) ((D0 ((aV.getD x19.toNat default).Phis) (0:Int) x13.2.2.2.2.1 x13.2.1 x13.2.2.1 x13.2.2.2.2.2 x13.2.2.2.1).bind λx21=>(Aw (x13.2.2.2.2.1.length=x21.2.2.2.1.length) (Aw (x13.2.2.2.2.2.length=x21.2.2.2.2.length) (some (.next (x19,x21.1,x21.2.1,x21.2.2.1,x21.2.2.2.1,x21.2.2.2.2)))))))))))))))))))) (Bn aV)).bind (λx41=>(some x41)))
variable{v12:List Aj}{v47:vk}
theorem FR(h:Mf v12 v16 v4 v13 v0 v33=some v47):sP 30 [(Ha 30000),(YL v12)] (Z1 v16 v4 v13 v0 v33 v33.length) (.agg (FY v47.1)) (Z1 v47.2.2.2.2.1 v47.2.1 v47.2.2.1 v47.2.2.2.2.2 v47.2.2.2.1 v47.2.2.2.1.length):=
 sG Tryz.func30 λΓ q=>Ae q [0,1,4] Rq (tB h λx41 y41 h=>gS y41 (λ(s_:QG)=>match s_ with|(i1,i2,i3,l4,l5,l6)=>0) (λ(s_:QG)=>match s_ with|(i1,i2,i3,l4,l5,l6)=>(⟨[(0,(Ha 30000)),(1,(YL v12)),(4,(.ptr 4 0)),(5,(Ax i1))],[(4,.row 39 [Px,(.int .u64 (0:Int)),Px]),(YM l5.length i2 i3),(KM 30001 35100 l6.length l4 37101),(YK 35002 l5),(FV 35100 l6),(AR 37101 l4.length),(nG 9100001)],[]⟩:St)) (λr_=>aR (HA Γ v12 v16 v4 v13 v0 v33 r_)) (λy h=>Ae q [0,1,4,5] Rq (tV q [0,1,4,5,6] V2 h λh=>tC h λc8_ h=>tB h λx9 y9 h=>tC h λc10_ h=>tC h λc11_ h=>tT q [0,1,4,5,6,7] V2 [(zr x9.1 (zC x9))] (c2 c8_ (Rv y9)) (Ae q [0,1,4,5,6,7,22] V2 (gC h (λh=>tB h λx12 y12 h=>tT q [4] Rq [(yk x12 (zC x9))] (ci (Gl y12) (Ul [(.row 85 (YJ x9.2.2.2.2.1.length x9.2.1 x9.2.2.1)),(.row 79 (WO 35100 x9.2.2.2.2.2.length x9.2.2.2.1 37101)),(.tok 3 49 x9.2.2.2.1.length),(.arr 1 26 x9.2.2.2.2.1.length (λi=>D7 (x9.2.2.2.2.1.getD i []))),(.arr 1 5 x9.2.2.2.2.2.length (λi=>Qi (x9.2.2.2.2.2.getD i 0))),WV])) (tS h (WS (Lj (Ht O1 (Le.refl _ _)))))) λh=>tB h λx13 y13 h=>tC h λc14_ h=>tC h λc15_ h=>tT q [0,1,4,5,6,28] V2 [(Z73 x13.1 (nY x13))] (c1 (Ny y13)) (gC h (λh=>tB h λx16 y16 h=>tT q [4] Rq [(yk x16 (nY x13))] (ci (Gl y16) (Ul [(sW x13),(sY x13),(.tok 3 49 x13.2.2.2.1.length),(sd x13),(sb x13),WV])) (tS h (WS (Lj (Ht O1 (Le.refl _ _)))))) λh=>tW q [0,1,4,5,6,32] V2 [0,1,4,5,6,32,33] V2 (gC h (λh=>tB h λx17 y17 h=>tT q [4] Rq [(Z86 x17 (nY x13))] (ci (Cq y17) (Ul [(sW x13),(sY x13),(.tok 3 49 x13.2.2.2.1.length),(sd x13),(sb x13),WV])) (tS h (WS (Lj (Ht O1 (Le.refl _ _)))))) λh=>Ae q [0,1,4,5,6,44] V2 (gC h (λh=>tB h λx18 y18 h=>tT q [4] Rq [(yk x18 (nY x13))] (ci (Gl y18) (Ul [(sW x13),(sY x13),(.tok 3 49 x13.2.2.2.1.length),(sd x13),(sb x13),WV])) (tS h (WS (Lj (Ht O1 (Le.refl _ _)))))) λh=>tB h λx19 y19 h=>tT q [0,1,4,5,8] Rq [(Z91 x19 (nY x13))] (ci (Ts y19) (Ul [(sW x13),(sY x13),(.tok 3 49 x13.2.2.2.1.length),(sd x13),(sb x13),WV])) (tC h λc20_ h=>tB h λx21 y21 h=>tC h λc22_ h=>tC h λc23_ h=>tT q [0,1,4,8] Rq [(zu x21.2.2.2.1 x21.1 x21.2.1 x21.2.2.2.2 x21.2.2.1 x21.2.2.1.length)] (c2 c20_ (S4 y21)) (Ae q [0,1,4,5] Rq (tS h (mG Jh))))))))))) (λ⟨i1,i2,i3,l4,l5,l6⟩ y h=>tV q [0,1,4,5,6] V2 h λh=>tC h λc25_ h=>tB h λx26 y26 h=>tC h λc27_ h=>tC h λc28_ h=>tT q [0,1,4,5,6,7] V2 [(zr x26.1 (zB x26))] (c2 c25_ (Rv y26)) (Ae q [0,1,4,5,6,7,22] V2 (gC h (λh=>tB h λx29 y29 h=>tT q [4] Rq [(yk x29 (zB x26))] (ci (Gl y29) (Ul [(.row 85 (YJ x26.2.2.2.2.1.length x26.2.1 x26.2.2.1)),(.row 79 (WO 35100 x26.2.2.2.2.2.length x26.2.2.2.1 37101)),(.tok 3 49 x26.2.2.2.1.length),(.arr 1 26 x26.2.2.2.2.1.length (λi=>D7 (x26.2.2.2.2.1.getD i []))),(.arr 1 5 x26.2.2.2.2.2.length (λi=>Qi (x26.2.2.2.2.2.getD i 0))),WV])) (tS h (WS (Lj (Ht O1 (Le.refl _ _)))))) λh=>tB h λx30 y30 h=>tC h λc31_ h=>tC h λc32_ h=>tT q [0,1,4,5,6,28] V2 [(Z73 x30.1 (nZ x30))] (c1 (Ny y30)) (gC h (λh=>tB h λx33 y33 h=>tT q [4] Rq [(yk x33 (nZ x30))] (ci (Gl y33) (Ul [(sX x30),(sZ x30),(.tok 3 49 x30.2.2.2.1.length),(se x30),(sc x30),WV])) (tS h (WS (Lj (Ht O1 (Le.refl _ _)))))) λh=>tW q [0,1,4,5,6,32] V2 [0,1,4,5,6,32,33] V2 (gC h (λh=>tB h λx34 y34 h=>tT q [4] Rq [(Z86 x34 (nZ x30))] (ci (Cq y34) (Ul [(sX x30),(sZ x30),(.tok 3 49 x30.2.2.2.1.length),(se x30),(sc x30),WV])) (tS h (WS (Lj (Ht O1 (Le.refl _ _)))))) λh=>Ae q [0,1,4,5,6,44] V2 (gC h (λh=>tB h λx35 y35 h=>tT q [4] Rq [(yk x35 (nZ x30))] (ci (Gl y35) (Ul [(sX x30),(sZ x30),(.tok 3 49 x30.2.2.2.1.length),(se x30),(sc x30),WV])) (tS h (WS (Lj (Ht O1 (Le.refl _ _)))))) λh=>tB h λx36 y36 h=>tT q [0,1,4,5,8] Rq [(Z91 x36 (nZ x30))] (ci (Ts y36) (Ul [(sX x30),(sZ x30),(.tok 3 49 x30.2.2.2.1.length),(se x30),(sc x30),WV])) (tC h λc37_ h=>tB h λx38 y38 h=>tC h λc39_ h=>tC h λc40_ h=>tT q [0,1,4,8] Rq [(zu x38.2.2.2.1 x38.1 x38.2.1 x38.2.2.2.2 x38.2.2.1 x38.2.2.1.length)] (c2 c37_ (S4 y38)) (Ae q [0,1,4,5] Rq (tS h (mG Jh)))))))))) (Pz (λst' hk=>tS h (gK hk))))
def Abt(aa8:Int):=((decide (aa8<0))==false)
def bP(x2:Int):=(List.replicate (w64 (x2+1)).toNat ([]:Am))
def sf(aa8:Int)(aa5:Am)(a1:TFunc):=(bif (decide (aa8<0)) then true else((aa5.length:Int)!=(a1.Params.length:Int)))
abbrev Ud:=(PK×Int×List Ad×Am)
def Jr(a1:TFunc)(aa5:Am)(aa8:Int)(a6:Am)(aB:List Ad):Option Ud:=
 ((bif ((bif (decide (aa8<0)) then true else((aa5.length:Int)!=(a1.Params.length:Int)))==false) then O6 a1 (2:Int) else some (0:Int)).bind λx1=>(bif (bif (bif (decide (aa8<0)) then true else((aa5.length:Int)!=(a1.Params.length:Int))) then true else(x1 !=0)) then(some ((⟨(0:Int),(0:Int),(0:Int)⟩:PK),(1:Int),aB,a6)) else((Qq a1).bind λx2=>(Aw (0<=(w64 (x2+1))/\(w64 (x2+1))<=(w64 (x2+1))/\(w64 (x2+1))<=(room:Int)) ((Ls (List.replicate (w64 (x2+1)).toNat ([]:Am)) aa8 (0:Int) a6 aB).bind λx4=>((Kp a1 aa5 (List.replicate (w64 (x2+1)).toNat ([]:Am)) aa8 (0:Int) a6 aB).bind λx5=>(Aw ((List.replicate (w64 (x2+1)).toNat ([]:Am)).length=x5.2.2.2.1.length) (Aw (a6.length=x5.2.2.2.2.length) ((Mf a1.Blocks x5.2.2.2.1 x5.1 x5.2.1 x5.2.2.2.2 x5.2.2.1).bind λx8=>(Aw (x5.2.2.2.1.length=x8.2.2.2.2.1.length) (Aw (x5.2.2.2.2.length=x8.2.2.2.2.2.length) (some (x8.1,(0:Int),x8.2.2.2.1,x8.2.2.2.2.2)))))))))))))
variable{v1:Am}{v3:TFunc}{v48:Ud}
theorem Nx(h:Jr v3 v0 v4 v1 v33=some v48):sP 9 [(XC v3),(f5 v0),(Ha 30000),(Ax v4)] (Z5 v1 v33 v33.length) (.tuple [(.agg (FY v48.1)),(Ax v48.2.1)]) (Z5 v48.2.2.2 v48.2.2.1 v48.2.2.1.length):=
 sG Tryz.func9 λΓ q=>Ae q [1,2,3,4,8] rY (tB h λx1 y1 h=>tT q [1,2,3,4,8,25] rY [(XA x1)] (pI (Abt v4) (c5 (Ld (decide (v4<0))) (gI ((sf v4 v0 v3)==false)) (λ(hg:((sf v4 v0 v3)==false)=true)=>(TG (B0 hg y1))) (gI ((sf v4 v0 v3)==false)) (Ld (sf v4 v0 v3)))) (gC h (λh=>Ae q Sk rg (tS h (Bi Xj))) λh=>tB h λx2 y2 h=>tC h λc3_ h=>tT q [1,4,8,10] rQ [(XA x2)] (c2 (XO y2) c3_) (by exact M4 (Le.trans (Sp 32 (show ∀ k_,k_<((w64 (x2+1)).toNat)->AVleL ((λi_=>AV.eraseAll (λn_=>B3 n_ rQ) ((λ_=>[dO]) i_)) k_) ((λi=>D7 ((bP x2).getD i [])) k_) from(λk hk=>Mi (e:=D7) (d:=[]) (.cons (λ_ _ _ _ _ hh=>AVle.untag _ _ _ _ _ (He _ _ _ _ _ hh)) .nil) _ k (Mn hk)))) (Sq (λ(k_:Nat) u=>(Cs u [] [(32,.arr 1 26 k_ (λi=>D7 ((bP x2).getD i []))),(34,.row 85 [(Ha 30000),.nilm,(.vsl 32 k_),(Ax v4),Px])])) (show(w64 (x2+1)).toNat=(bP x2).length from(K1 ..).symm))) (tB h λx4 y4 h=>tT q [1,4,8,10] rN [⟨[(34,30000),(30000,30001),(37001,37101),(32,35002),(35000,35100)],[(20000,37)],(.omap 20000),[(30000,.row 85 [(Ha 30001),.nilm,(.vsl 35002 (bP x2).length),(Ax v4),Px]),(KM 30001 35100 v1.length v33 37101),(AR 37101 v33.length),(35002,.arr 1 26 (bP x2).length (λi=>D7 ((bP x2).getD i []))),(FV 35100 v1),(nG 20000)],[],[34,30000,37001,32,35000]⟩] (ci (Wh y4) (Ul [(.row 85 [(Ha 30000),.nilm,(.vsl 32 (bP x2).length),(Ax v4),Px]),(.row 79 (WO 35000 v1.length v33 37001)),(.tok 3 49 v33.length),(.arr 1 26 ((bP x2).length) (λi=>D7 ((bP x2).getD i []))),(.arr 1 5 v1.length (λi=>Qi (v1.getD i 0)))])) (tB h λx5 y5 h=>tC h λc6_ h=>tC h λc7_ h=>tT q [4,8,10] rN [⟨wW,[],(.tuple []),(Z1 x5.2.2.2.1 x5.1 x5.2.1 x5.2.2.2.2 x5.2.2.1 x5.2.2.1.length),[],[]⟩] (c1 (BA y5)) (tB h λx8 y8 h=>tC h λc9_ h=>tC h λc10_ h=>tT q Sk rg [⟨wW,[],(.agg (FY x8.1)),(Z1 x8.2.2.2.2.1 x8.2.1 x8.2.2.1 x8.2.2.2.2.2 x8.2.2.2.1 x8.2.2.2.1.length),[],[]⟩] (c1 (FR y8)) (tS h (Bi Xj))))))))
def D8:List C5:=([(⟨(0:Int),(8:Int),(1:Int),(1:Int),([]:Am),(200:Int)⟩:C5),(⟨(0:Int),(8:Int),(1:Int),(2:Int),([]:Am),(100:Int)⟩:C5),(⟨(1:Int),(8:Int),(1:Int),(3:Int),([(1:Int),(2:Int)]:Am),(0:Int)⟩:C5)]:List C5)
def PH:AV:=Px
def RE:AV:=bT
def lJ:AV:=(.slice 0 0 (λ_=>[]) .none)
def RC:AV:=oC
def sg:=([(⟨([]:List Fe),D8,(⟨(0:Int),(3:Int),([]:Am)⟩:L8)⟩:Aj)]:List Aj)
def sk:AV:=(AV.list 5 Jv default sg .exact)
def wk(x3:Ud):=(bif (x3.2.1==0) then(((x3.1.Code:Int)==0)&&(((x3.1.Value:Int)==44)&&(((x3.1.Steps:Int)==4)&&true))) else false)
def sj(x3:Ud)(x5:Ud):=(bif (wk x3) then(x5.2.1==0) else false)
def si:AV:=(AV.list 6 PO default D8 .exact)
def wl(x3:Ud):List Uc:=(Z5 x3.2.2.2 x3.2.2.1 x3.2.2.1.length)
def zD(x5:Ud):List Uc:=(Z5 x5.2.2.2 x5.2.2.1 x5.2.2.1.length)
def lI(x1:ya):List Uc:=(Z9 20000 21000 x1.1.2.bytes x1.1.2.trace 21001 x1.1.2.trace.length)
def m_locksteplaw13_awake :Option Bool:=
 ((P1 ([]:Am)).bind λx1=>(bif x1.1.1 then(bif (x1.2 !=0) then(some false) else((Jr (⟨([]:Am),(8:Int),([(⟨([]:List Fe),D8,(⟨(0:Int),(3:Int),([]:Am)⟩:L8)⟩:Aj)]:List Aj)⟩:TFunc) ([]:Am) (4:Int) x1.1.2.bytes x1.1.2.trace).bind λx3=>(Aw (x1.1.2.bytes.length=x3.2.2.2.length) ((Jr (⟨([]:Am),(8:Int),([(⟨([]:List Fe),D8,(⟨(0:Int),(3:Int),([]:Am)⟩:L8)⟩:Aj)]:List Aj)⟩:TFunc) ([]:Am) (3:Int) x3.2.2.2 x3.2.2.1).bind λx5=>(Aw (x3.2.2.2.length=x5.2.2.2.length) ((Jr (⟨([]:Am),(8:Int),([(⟨([]:List Fe),D8,(⟨(0:Int),(3:Int),([]:Am)⟩:L8)⟩:Aj)]:List Aj)⟩:TFunc) ([(1:Int)]:Am) (3:Int) x5.2.2.2 x5.2.2.1).bind λx7=>(Aw (x5.2.2.2.length=x7.2.2.2.length) (some (bif (bif (bif (bif (x3.2.1==0) then(((x3.1.Code:Int)==0)&&(((x3.1.Value:Int)==44)&&(((x3.1.Steps:Int)==4)&&true))) else false) then(x5.2.1==0) else false) then(((x5.1.Code:Int)==9)&&(((x5.1.Value:Int)==0)&&(((x5.1.Steps:Int)==3)&&true))) else false) then(x7.2.1==1) else false))))))))) else(some false)))
theorem Yl  (r:Bool) (h:m_locksteplaw13_awake=some r):sP 5 [] [] (.bool r) []:=
 sG Tryz.func5 λΓ q=>Ae q [] [] (gR q [1] [1] [(10,(.agg [PH,RE,RN,RN,RC,(.int .u64 (200:Int))])),(11,(.agg [PH,RE,RN,RL,RC,(.int .u64 (100:Int))])),(12,(AV.list 1 Ay 0 ([(1:Int),(2:Int)]:Am) .exact)),(14,si),(15,(.agg [PH,nI,RC])),(16,(.agg [(AV.list 4 Wx default ([]:List Fe) .exact),si,PH,nI,RC])),(17,sk),(18,(.agg [RC,RE,sk]))] [] (c8 (show(AVle (.agg [PH,RE,RN,RN,dO,(.int .u64 (200:Int))]) (.agg [PH,RE,RN,RN,RC,(.int .u64 (200:Int))])) from(AVle.agg (.cons (AVle.refl _) (.cons (AVle.refl _) (.cons (AVle.refl _) (.cons (AVle.refl _) (.cons He (.cons (AVle.refl _) .nil)))))))) (show(AVle (.agg [PH,RE,RN,RL,dO,(.int .u64 (100:Int))]) (.agg [PH,RE,RN,RL,RC,(.int .u64 (100:Int))])) from(AVle.agg (.cons (AVle.refl _) (.cons (AVle.refl _) (.cons (AVle.refl _) (.cons (AVle.refl _) (.cons He (.cons (AVle.refl _) .nil)))))))) (Ca 1 Ay (0:Int) ([(1:Int),(2:Int)]:Am)) (Ca 6 PO (default:C5) D8) (show(AVle (.agg [PH,nI,dO]) (.agg [PH,nI,RC])) from(AVle.agg (.cons (AVle.refl _) (.cons (AVle.refl _) (.cons He .nil))))) (show(AVle (.agg [dO,si,PH,nI,RC]) (.agg [(AV.list 4 Wx default ([]:List Fe) .exact),si,PH,nI,RC])) from(AVle.agg (.cons He (.cons (AVle.refl _) (.cons (AVle.refl _) (.cons (AVle.refl _) (.cons (AVle.refl _) .nil))))))) (Ca 5 Jv (default:Aj) sg) (show(AVle (.agg [dO,RE,sk]) (.agg [RC,RE,sk])) from(AVle.agg (.cons He (.cons (AVle.refl _) (.cons (AVle.refl _) .nil)))))) (tB h λx1 y1 h=>gB h (λhs2 h=>tT q Y3 rZ [⟨[],[(20000,20),(21000,60020000),(21001,60020001)],(.tuple [(bif true then((Ha 20000):AV) else .nilp),(Ax x1.2)]),(bif true then(lI x1) else[]),[],[]⟩] (c1 (show(sP 8 [lJ] [] (.tuple [(bif true then((Ha 20000):AV) else .nilp),(Ax x1.2)]) (bif true then(lI x1) else[])) from(sE (λb_:Bool=>sP 8 [lJ] [] (.tuple [(bif b_ then((Ha 20000):AV) else .nilp),(Ax x1.2)]) (bif b_ then(lI x1) else[])) hs2 (Spec.args (.cons IL .nil) (K9 y1))))) (tU q [1,2,28] rZ (c2 (gI (false==false)) (Ld false)) (gC h (λh=>Ae q [0] [] (tS h (Bi []))) λh=>tB h λx3 y3 h=>tC h λc4_ h=>tT q [1,2,4,5] [1,4,20,60020000,60020001] [(Z80 20 60020001 60020000 x3.1 x3.2.1 (wl x3))] (c1 (show(sP 9 [(.agg [(AV.list 1 Ay 0 ([]:Am) .none),RE,(YL sg)]),lJ,(Ha 30000),(.int .i64 (4:Int))] (Z5 x1.1.2.bytes x1.1.2.trace x1.1.2.trace.length) (.tuple [(.agg (FY x3.1)),(Ax x3.2.1)]) (wl x3)) from(Spec.args (.cons (AVle.refl _) (.cons IL (.cons (AVle.refl _) (.cons (AVle.refl _) .nil)))) (Nx y3)))) (tB h λx5 y5 h=>tC h λc6_ h=>tT q [1,2,4,5,6,7] [1,4,6,20,60020000,60020001] [(Z80 20 60020001 60020000 x5.1 x5.2.1 (zD x5))] (c1 (show(sP 9 [(.agg [(AV.list 1 Ay 0 ([]:Am) .none),RE,(YL sg)]),lJ,(Ha 30000),nI] (wl x3) (.tuple [(.agg (FY x5.1)),(Ax x5.2.1)]) (zD x5)) from(Spec.args (.cons (AVle.refl _) (.cons IL (.cons (AVle.refl _) (.cons (AVle.refl _) .nil)))) (Nx y5)))) (tB h λx7 y7 h=>tC h λc8_ h=>gR q [4,5,6,7,9] [4,6] [(43,(AV.list 1 Dd 0 ([(1:Int)]:Am) .exact))] [(xL 20 60020001 60020000 x7.1 x7.2.1 x7.2.2.2 x7.2.2.1 x7.2.2.1.length)] (c2 (Ca 1 Dd (0:Int) ([(1:Int)]:Am)) (Nx y7)) (tU q [0] [] (Lz ((x3.2.1==0)==true) (cu (L0 (x3.2.1==0)) (gI ((wk x3)==true)) (L0 (wk x3)) (Lz ((sj x3 x5)==true) (c3 (L0 (sj x3 x5)) (gI ((bif (sj x3 x5) then(((x5.1.Code:Int)==9)&&(((x5.1.Value:Int)==0)&&(((x5.1.Steps:Int)==3)&&true))) else false)==true)) (L0 (bif (sj x3 x5) then(((x5.1.Code:Int)==9)&&(((x5.1.Value:Int)==0)&&(((x5.1.Steps:Int)==3)&&true))) else false)))))) (tS h (Bi [])))))))) (λhs2 h=>tT q Y3 [1] [⟨[],[],(.tuple [(bif false then((Ha 20000):AV) else .nilp),(Ax x1.2)]),(bif false then(lI x1) else[]),[],[]⟩] (c1 (show(sP 8 [lJ] [] (.tuple [(bif false then((Ha 20000):AV) else .nilp),(Ax x1.2)]) (bif false then(lI x1) else[])) from(sE (λb_:Bool=>sP 8 [lJ] [] (.tuple [(bif b_ then((Ha 20000):AV) else .nilp),(Ax x1.2)]) (bif b_ then(lI x1) else[])) hs2 (Spec.args (.cons IL .nil) (K9 y1))))) (tU q [1,2,28] [1] (c2 (gI (true==false)) (Ld true)) (CJ true (Ae q [0] [] (tS h (Bi []))))))))
open Go Go.RowKit
set_option maxRecDepth 100000
set_option maxHeartbeats 2000000
def Cu(a1:TFunc)(i2:Int):Hr->Option sJ:=
 λ((i5,i6):Hr)=>(Aw (A0 i2 a1.Blocks.length) (bif (bif (decide (i6<(((a1.Blocks.getD i2.toNat default).Phis).length:Int))) then(decide (i5<=20000)) else false) then(Aw (A0 i2 a1.Blocks.length) (Aw (A0 i6 ((a1.Blocks.getD i2.toNat default).Phis).length) (Aw (A0 i2 a1.Blocks.length) (Aw (A0 i6 ((a1.Blocks.getD i2.toNat default).Phis).length) (some (.next ((w64 ((w64 ((w64 (i5+1))+(((((a1.Blocks.getD i2.toNat default).Phis).getD i6.toNat default).From).length:Int)))+(((((a1.Blocks.getD i2.toNat default).Phis).getD i6.toNat default).Args).length:Int))),(w64 (i6+1))))))))) else(some (.done i5))))
def Cv(a1:TFunc)(i2:Int):Hr->Option sJ:=
 λ((i15,i16):Hr)=>(Aw (A0 i2 a1.Blocks.length) (bif (bif (decide (i16<(((a1.Blocks.getD i2.toNat default).Ops).length:Int))) then(decide (i15<=20000)) else false) then(Aw (A0 i2 a1.Blocks.length) (Aw (A0 i16 ((a1.Blocks.getD i2.toNat default).Ops).length) (some (.next ((w64 ((w64 (i15+1))+(((((a1.Blocks.getD i2.toNat default).Ops).getD i16.toNat default).Args).length:Int))),(w64 (i16+1))))))) else(some (.done i15))))
def Cw(a1:TFunc):Hr->Option sJ:=
 λ((i1,i2):Hr)=>(bif (bif (decide (i2<(a1.Blocks.length:Int))) then(decide (i1<=20000)) else false) then(Aw (A0 i2 a1.Blocks.length) ((Ac (Cu a1 i2) ((w64 ((w64 (i1+1))+(((a1.Blocks.getD i2.toNat default).End.To).length:Int))),(0:Int))).bind (λx13=>((Ac (Cv a1 i2) (x13,(0:Int))).bind (λx21=>(some (.next (x21,(w64 (i2+1)))))))))) else(some (.done i1)))
def C2(a1:TFunc):Option Bool:=
 ((Ac (Cw a1) ((a1.Params.length:Int),(0:Int))).bind (λx23=>(some (decide (x23<=20000)))))
theorem Yp(h:C2 v3=some v5):sP 32 [(XC v3)] [] (.bool v5) []:=
 sG Tryz.func32 λΓ q=>tW q [1] [1] Mz [1] (Ae q Fd [1] (tL q h Fd [1] (λu (i1,i2)=>(Cs u [(3,(Ax i1)),(4,(Ax i2))] [])) (λu i3=>aG Γ (.exit 0) (⟨[(3,(Ax i3))],[],[]⟩:St)) (λ⟨i1,i2⟩ y h=>tU q [1,3,4,18] [1] (c2 (gI ((decide (i2<(v3.Blocks.length:Int)))==true)) (L0 (decide (i2<(v3.Blocks.length:Int))))) (gC h (λh=>tV q Fd [1] h λh=>Ae q L7 [1] (tL q h L7 [1] (λu (i5,i6)=>(Cs u [(3,(Ax i5)),(5,(Ax i6))] [])) (λu i7=>aG Γ (.exit 2) (Oz Fd [1] u [(3,(Ax i7))] [])) (λ⟨i5,i6⟩ y h=>tC h λc8_ h=>tU q [1,3,4,5,44] [1] (c3 c8_ (gI ((decide (i6<(((v3.Blocks.getD i2.toNat default).Phis).length:Int)))==true)) (L0 (decide (i6<(((v3.Blocks.getD i2.toNat default).Phis).length:Int))))) (gC h (λh=>tC h λc9_ h=>tC h λc10_ h=>tC h λc11_ h=>tC h λc12_ h=>tU q L7 [1] (c4 c9_ c10_ c11_ c12_) (Ae q L7 [1] (tN h))) λh=>tS h (gO (Bd (Bk Fd [1] q))))) λx13 h=>gA (Ae q cq [1] (tL q h cq [1] (λu (i15,i16)=>(Cs u [(3,(Ax i15)),(6,(Ax i16))] [])) (λu i17=>aG Γ (.exit 4) (Oz Fd [1] u [(3,(Ax i17))] [])) (λ⟨i15,i16⟩ y h=>tC h λc18_ h=>tU q [1,3,4,6,85] [1] (c3 c18_ (gI ((decide (i16<(((v3.Blocks.getD i2.toNat default).Ops).length:Int)))==true)) (L0 (decide (i16<(((v3.Blocks.getD i2.toNat default).Ops).length:Int))))) (gC h (λh=>tC h λc19_ h=>tC h λc20_ h=>tU q cq [1] (c2 c19_ c20_) (Ae q cq [1] (tN h))) λh=>tS h (gO (Bd (Bk Fd [1] q))))) λx21 h=>gA (Ae q Fd [1] (tN h)))))) λh=>tS h (gO (Bd (Bk [3] [] q))))) λx23 h=>gA (Ae q [2] [] (tS h (Bi [])))))
def H7(a1:TFunc):Hr->Option sJ:=
 λ((i1,i2):Hr)=>(bif (decide (i2<(a1.Blocks.length:Int))) then(Aw (A0 i2 a1.Blocks.length) (Aw (A0 i2 a1.Blocks.length) (some (.next ((w64 ((w64 ((w64 (i1+1))+(((a1.Blocks.getD i2.toNat default).Ops).length:Int)))+(((a1.Blocks.getD i2.toNat default).Phis).length:Int))),(w64 (i2+1))))))) else(some (.done i1)))
def sl(a1:TFunc)(x6:Int):=(bif (decide ((a1.Blocks.length:Int)<=16)) then(decide (x6<=100)) else false)
def wm(a1:TFunc)(x6:Int):=(bif (sl a1 x6) then true else(decide ((64:Int)<(a1.Blocks.length:Int))))
def J4(a1:TFunc):Option Bool:=
 ((Ac (H7 a1) ((0:Int),(0:Int))).bind (λx6=>((C2 a1).bind λx8=>(some (bif x8 then(bif (bif (bif (decide ((a1.Blocks.length:Int)<=16)) then(decide (x6<=100)) else false) then true else(decide ((64:Int)<(a1.Blocks.length:Int)))) then true else(decide ((512:Int)<x6))) else false)))))
theorem Ys(h:J4 v3=some v5):sP 14 [(XC v3)] [] (.bool v5) []:=
 sG Tryz.func14 λΓ q=>tW q [1] [1] Mz [1] (Ae q Fd [1] (tL q h Fd [1] (λu (i1,i2)=>(Cs u [(3,(Ax i1)),(4,(Ax i2))] [])) (λu i3=>aG Γ (.exit 0) (Oz Mz [1] u [(3,(Ax i3))] [])) (λ⟨i1,i2⟩ y h=>Ae q [1,3,4,9] [1] (gC h (λh=>tC h λc4_ h=>tC h λc5_ h=>tU q Fd [1] (c2 c4_ c5_) (Ae q Fd [1] (tN h))) λh=>tS h (gO (Bd (Bk Mz [1] q))))) λx6 h=>gA (tB h λx8 y8 h=>tT q [2] [] [(Z8 x8)] (ci (Yp y8) (mF (x8==true) (SC (gI ((x8==true)&&((decide ((v3.Blocks.length:Int)<=16))==true))) (gI (x8==true)) (show((x8==true)=true->((decide ((v3.Blocks.length:Int)<=16))=true->((x8==true)&&((decide ((v3.Blocks.length:Int)<=16))==true))=true)) from(λhg=>(aT hg))) (gI (x8==true)) (Za ((x8==true)&&((sl v3 x6)==false)) (c7 (gI (x8==true)) (show((x8==true)=true->((sl v3 x6)=false->((x8==true)&&((sl v3 x6)==false))=true)) from(λhg=>(aF hg))) (gI (x8==true)) (gI ((x8==true)&&((wm v3 x6)==false))) (gI (x8==true)) (show((x8==true)=true->((wm v3 x6)=false->((x8==true)&&((wm v3 x6)==false))=true)) from(λhg=>(aF hg))) (L0 x8)))))) (tS h (Bi [])))))
def wq(x1:Bool)(aaE:TCase):=(bif x1 then(decide ((aaE.Args.length:Int)<=40)) else false)
def zF(x1:Bool)(aaE:TCase):=(bif (wq x1 aaE) then(decide ((aaE.Mem.length:Int)<=4096)) else false)
def J1(a1:TFunc)(aaE:TCase):Option Bool:=
 ((J4 a1).bind λx1=>(some (bif (bif (bif x1 then(decide ((aaE.Args.length:Int)<=40)) else false) then(decide ((aaE.Mem.length:Int)<=4096)) else false) then(decide (aaE.Fuel<=500)) else false)))
variable{v49:TCase}
theorem Rg(h:J1 v3 v49=some v5):sP 6 [(XC v3),(.agg (eTCase v49))] [] (.bool v5) []:=
 sG Tryz.func6 λΓ q=>Ae q B7 B7 (tB h λx1 y1 h=>tT q [4] [] [(Z8 x1)] (ci (Ys y1) (Za (x1==true) (ci (L0 x1) (Za ((wq x1 v49)==true) (ci (L0 (wq x1 v49)) (Lz ((zF x1 v49)==true) (c1 (L0 (zF x1 v49))))))))) (tS h (Bi [])))
def Bp(aO:Int):Option Bool:=
 (some (bif (decide ((0:Int)<=aO)) then(decide (aO<=2147483647)) else false))
theorem Ch(h:Bp v4=some v5):sP 34 [(Ax v4)] [] (.bool v5) []:=
 sG Tryz.func34 λΓ q=>Ae q [0] [] (tU q [2] [] (c2 (gI ((decide ((0:Int)<=v4))==true)) (L0 (decide ((0:Int)<=v4)))) (tS h (Bi [])))
def Gb(aZ:Am):Int->Option (LR Int (Unit ⊕ Bool)):=
 λ(i1:Int)=>(bif (decide (i1<(aZ.length:Int))) then(Aw (A0 i1 aZ.length) ((Bp (aZ.getD i1.toNat 0)).bind λx3=>(bif (!x3) then(some (.done (.inr false))) else(some (.next (w64 (i1+1))))))) else(some (.done (.inl ()))))
def BT(Γ:Il)(aZ:Am)(r:Bool):Exit->St->Prop:=fK Tryz.prog Γ Tryz.f33.results.toList [] (.bool r) []
def Dg(aZ:Am):Option Bool:=
 ((Ac (Gb aZ) (0:Int)).bind (λx4=>(match x4 with|(.inl _)=>(some (decide ((aZ.length:Int)<=64)))|(.inr r6)=>(some r6))))
theorem Hp(h:Dg v0=some v5):sP 33 [(Rp v0)] [] (.bool v5) []:=
 sG Tryz.func33 λΓ q=>tW q [0] [] Ou [] (tL q h Ou [] (λu i1=>(Cs u [(3,(Ax i1))] [])) (λu x_=>match x_ with|(.inl _)=>aG Γ (.exit 0) (Oz [0] [] u [] [])|(.inr r_)=>aR (BT Γ v0 r_)) (λi1 y h=>Ae q [0,3,7] [] (gC h (λh=>tC h λc2_ h=>tB h λx3 y3 h=>tT q [0,3,15] [] [(Z8 x3)] (c2 c2_ (Ch y3)) (gC h (λh=>Ae q [2] [] (tS h (gO (Lj (Ht [] (Le.refl _ _)))))) λh=>Ae q Ou [] (tN h))) λh=>tS h (gO (Bd (Bk [0] [] q))))) λx4 h=>(match x4,h with | .inl _,h=>gA (Ae q [2] [] (tS h (Bi []))) | .inr r6,h=>Pz (λst' hk=>tS h (gK hk))))
def It(a1:TFunc):Hr->Option sJ:=
 λ((i1,i2):Hr)=>(bif (decide (i2<(a1.Blocks.length:Int))) then(Aw (A0 i2 a1.Blocks.length) (Aw (A0 i2 a1.Blocks.length) (some (.next ((w64 ((w64 ((w64 (i1+(((a1.Blocks.getD i2.toNat default).Phis).length:Int)))+(((a1.Blocks.getD i2.toNat default).Ops).length:Int)))+1)),(w64 (i2+1))))))) else(some (.done i1)))
def Ks(a1:TFunc):Option Int:=
 ((Ac (It a1) ((0:Int),(0:Int))).bind (λx6=>(some x6)))
theorem BD(h:Ks v3=some v4):sP 35 [(XC v3)] [] (.int .i64 v4) []:=
 sG Tryz.func35 λΓ q=>tW q [1] [1] Mz [1] (Ae q Fd [1] (tL q h Fd [1] (λu (i1,i2)=>(Cs u [(3,(Ax i1)),(4,(Ax i2))] [])) (λu i3=>aG Γ (.exit 0) (⟨[(3,(Ax i3))],[],[]⟩:St)) (λ⟨i1,i2⟩ y h=>Ae q [1,3,4,9] [1] (gC h (λh=>tC h λc4_ h=>tC h λc5_ h=>tU q Fd [1] (c2 c4_ c5_) (Ae q Fd [1] (tN h))) λh=>tS h (gO (Bd (Bk [3] [] q))))) λx6 h=>gA (Ae q [2] [] (tS h (Bi [])))))
def G1(a1:TFunc)(i4:Int):Int->Option (LR Int (Unit ⊕ Bool)):=
 λ(i6:Int)=>(bif (decide (i6<(((a1.Blocks.getD i4.toNat default).Phis).length:Int))) then(Aw (A0 i6 ((a1.Blocks.getD i4.toNat default).Phis).length) ((Bp ((((a1.Blocks.getD i4.toNat default).Phis).getD i6.toNat default).Bits)).bind λx8=>((bif ((!x8)==false) then Bp ((((a1.Blocks.getD i4.toNat default).Phis).getD i6.toNat default).Dst) else some false).bind λx9=>((bif ((bif (!x8) then true else(!x9))==false) then Dg ((((a1.Blocks.getD i4.toNat default).Phis).getD i6.toNat default).From) else some false).bind λx10=>((bif ((bif (bif (!x8) then true else(!x9)) then true else(!x10))==false) then Dg ((((a1.Blocks.getD i4.toNat default).Phis).getD i6.toNat default).Args) else some false).bind λx11=>(bif (bif (bif (bif (!x8) then true else(!x9)) then true else(!x10)) then true else(!x11)) then(some (.done (.inr false))) else(some (.next (w64 (i6+1)))))))))) else(some (.done (.inl ()))))
def G2(a1:TFunc)(i4:Int):Int->Option (LR Int (Unit ⊕ Bool)):=
 λ(i14:Int)=>(bif (decide (i14<(((a1.Blocks.getD i4.toNat default).Ops).length:Int))) then(Aw (A0 i14 ((a1.Blocks.getD i4.toNat default).Ops).length) ((Bp ((((a1.Blocks.getD i4.toNat default).Ops).getD i14.toNat default).Kind)).bind λx16=>((bif ((!x16)==false) then Bp ((((a1.Blocks.getD i4.toNat default).Ops).getD i14.toNat default).Bits) else some false).bind λx17=>((bif ((bif (!x16) then true else(!x17))==false) then Bp ((((a1.Blocks.getD i4.toNat default).Ops).getD i14.toNat default).Lanes) else some false).bind λx18=>((bif ((bif (bif (!x16) then true else(!x17)) then true else(!x18))==false) then Bp ((((a1.Blocks.getD i4.toNat default).Ops).getD i14.toNat default).Dst) else some false).bind λx19=>((bif ((bif (bif (bif (!x16) then true else(!x17)) then true else(!x18)) then true else(!x19))==false) then Dg ((((a1.Blocks.getD i4.toNat default).Ops).getD i14.toNat default).Args) else some false).bind λx20=>(bif (bif (bif (bif (bif (!x16) then true else(!x17)) then true else(!x18)) then true else(!x19)) then true else(!x20)) then(some (.done (.inr false))) else(some (.next (w64 (i14+1))))))))))) else(some (.done (.inl ()))))
def E2(a1:TFunc):Int->Option (LR Int (Unit ⊕ Bool)):=
 λ(i4:Int)=>(bif (decide (i4<(a1.Blocks.length:Int))) then(Aw (A0 i4 a1.Blocks.length) ((Ac (G1 a1 i4) (0:Int)).bind (λx12=>(match x12 with|(.inl _)=>((Ac (G2 a1 i4) (0:Int)).bind (λx21=>(match x21 with|(.inl _)=>((Bp ((a1.Blocks.getD i4.toNat default).End.Kind)).bind λx23=>((bif ((!x23)==false) then Bp ((a1.Blocks.getD i4.toNat default).End.Arg) else some false).bind λx24=>((bif ((bif (!x23) then true else(!x24))==false) then Dg ((a1.Blocks.getD i4.toNat default).End.To) else some false).bind λx25=>(bif (bif (bif (!x23) then true else(!x24)) then true else(!x25)) then(some (.done (.inr false))) else(some (.next (w64 (i4+1))))))))|(.inr r26)=>(some (.done (.inr r26))))))|(.inr r27)=>(some (.done (.inr r27))))))) else(some (.done (.inl ()))))
def Ow(Γ:Il)(a1:TFunc)(r:Bool):Exit->St->Prop:=fK Tryz.prog Γ Tryz.f15.results.toList [] (.bool r) []
def dC(x8:Bool)(x9:Bool):=(bif (!x8) then true else(!x9))
def nd(a1:TFunc):=((a1.Blocks.length:Int)==0)
def nb(a1:TFunc):=(bif (bif (nd a1) then true else(decide ((64:Int)<(a1.Blocks.length:Int)))) then true else(decide ((16:Int)<(a1.Params.length:Int))))
def dD(a1:TFunc)(x1:Bool):=(bif (nb a1) then true else(!x1))
def wr(x23:Bool)(x24:Bool):=((bif (!x23) then true else(!x24))==false)
def Abu(a1:TFunc)(i4:Int):=(a1.Blocks.getD i4.toNat default)
def Ab9(a1:TFunc)(i4:Int)(i14:Int):=(((Abu a1 i4).Ops).getD i14.toNat default)
def dB(x16:Bool)(x17:Bool)(x18:Bool):=(bif (bif (!x16) then true else(!x17)) then true else(!x18))
def Abv(a1:TFunc):=((bif (nd a1) then true else(decide ((64:Int)<(a1.Blocks.length:Int))))==false)
def Jb(a1:TFunc):Option Bool:=
 ((bif ((bif (bif ((a1.Blocks.length:Int)==0) then true else(decide ((64:Int)<(a1.Blocks.length:Int)))) then true else(decide ((16:Int)<(a1.Params.length:Int))))==false) then Dg a1.Params else some false).bind λx1=>((bif ((bif (bif (bif ((a1.Blocks.length:Int)==0) then true else(decide ((64:Int)<(a1.Blocks.length:Int)))) then true else(decide ((16:Int)<(a1.Params.length:Int)))) then true else(!x1))==false) then Bp a1.Ret else some false).bind λx2=>((bif ((bif (bif (bif (bif ((a1.Blocks.length:Int)==0) then true else(decide ((64:Int)<(a1.Blocks.length:Int)))) then true else(decide ((16:Int)<(a1.Params.length:Int)))) then true else(!x1)) then true else(!x2))==false) then Ks a1 else some (0:Int)).bind λx3=>(bif (bif (bif (bif (bif (bif ((a1.Blocks.length:Int)==0) then true else(decide ((64:Int)<(a1.Blocks.length:Int)))) then true else(decide ((16:Int)<(a1.Params.length:Int)))) then true else(!x1)) then true else(!x2)) then true else(decide ((512:Int)<x3))) then(some false) else((Ac (E2 a1) (0:Int)).bind (λx28=>(match x28 with|(.inl _)=>(some true)|(.inr r30)=>(some r30))))))))
theorem DG(h:Jb v3=some v5):sP 15 [(XC v3)] [] (.bool v5) []:=
 sG Tryz.func15 λΓ q=>Ae q [1] [1] (tB h λx1 y1 h=>tB h λx2 y2 h=>tB h λx3 y3 h=>tT q [1,41] [1] [(Z8 x1),(Z8 x2),(XA x3)] (Za ((nd v3)==false) (ci (Ld (nd v3)) (Za (Abv v3) (ci (Ld (bif (nd v3) then true else(decide ((64:Int)<(v3.Blocks.length:Int))))) (Lz ((nb v3)==false) (cu (λ(hg:((nb v3)==false)=true)=>(Hp (B0 hg y1))) (gI ((nb v3)==false)) (Ld (nb v3)) (Lz ((dD v3 x1)==false) (c7 (λ(hg:((dD v3 x1)==false)=true)=>(Ch (B0 hg y2))) (gI ((dD v3 x1)==false)) (Ld (dD v3 x1)) (gI ((bif (dD v3 x1) then true else(!x2))==false)) (λ(hg:((bif (dD v3 x1) then true else(!x2))==false)=true)=>(BD (B0 hg y3))) (gI ((bif (dD v3 x1) then true else(!x2))==false)) (Ld (bif (dD v3 x1) then true else(!x2))))))))))) (gC h (λh=>Ae q [2] [] (tS h (Bi []))) λh=>Ae q Mz [1] (tL q h Mz [1] (λu i4=>(Cs u [(3,(Ax i4))] [])) (λu x_=>match x_ with|(.inl _)=>aG Γ (.exit 0) (⟨[],[],[]⟩:St)|(.inr r_)=>aR (Ow Γ v3 r_)) (λi4 y h=>Ae q [1,3,46] [1] (gC h (λh=>tV q Fd Rz h λh=>Ae q L7 Rz (tL q h L7 Rz (λu i6=>(Cs u [(5,(Ax i6))] [])) (λu x_=>match x_ with|(.inl _)=>aG Γ (.exit 2) (Oz Fd Rz u [] [])|(.inr r_)=>aR (Ow Γ v3 r_)) (λi6 y h=>Ae q [1,3,4,5,58] Rz (gC h (λh=>tV q Te [1,4,6] h λh=>tB h λx8 y8 h=>tB h λx9 y9 h=>tB h λx10 y10 h=>tB h λx11 y11 h=>tT q [1,3,4,5,87] Rz [(Z8 x8),(Z8 x9),(Z8 x10),(Z8 x11)] (ci (Ch y8) (Lz ((!x8)==false) (cu (λ(hg:((!x8)==false)=true)=>(Ch (B0 hg y9))) (gI ((!x8)==false)) (Ld (!x8)) (Lz ((dC x8 x9)==false) (cu (λ(hg:((dC x8 x9)==false)=true)=>(Hp (B0 hg y10))) (gI ((dC x8 x9)==false)) (Ld (dC x8 x9)) (Lz ((bif (dC x8 x9) then true else(!x10))==false) (c3 (λ(hg:((bif (dC x8 x9) then true else(!x10))==false)=true)=>(Hp (B0 hg y11))) (gI ((bif (dC x8 x9) then true else(!x10))==false)) (Ld (bif (dC x8 x9) then true else(!x10)))))))))) (gC h (λh=>Ae q [2] [] (tS h (gO (Lj (Ht [] (Le.refl _ _)))))) λh=>Ae q L7 Rz (tN h))) λh=>tS h (gO (Bd (Bk Fd Rz q))))) λx12 h=>(match x12,h with | .inl _,h=>gA (Ae q [1,3,4,7] Rz (tL q h [1,3,4,7] Rz (λu i14=>(Cs u [(7,(Ax i14))] [])) (λu x_=>match x_ with|(.inl _)=>aG Γ (.exit 4) (Oz Fd Rz u [] [])|(.inr r_)=>aR (Ow Γ v3 r_)) (λi14 y h=>Ae q [1,3,4,7,92] Rz (gC h (λh=>tV q [1,3,4,7,8] [1,4,8] h λh=>tB h λx16 y16 h=>tB h λx17 y17 h=>tB h λx18 y18 h=>tB h λx19 y19 h=>tB h λx20 y20 h=>tT q [1,3,4,7,127] Rz [(Z8 x16),(Z8 x17),(Z8 x18),(Z8 x19),(Z8 x20)] (ci (Ch y16) (Lz ((!x16)==false) (cu (λ(hg:((!x16)==false)=true)=>(Ch (B0 hg y17))) (gI ((!x16)==false)) (Ld (!x16)) (Lz ((bif (!x16) then true else(!x17))==false) (cu (λ(hg:((bif (!x16) then true else(!x17))==false)=true)=>(Ch (B0 hg y18))) (gI ((bif (!x16) then true else(!x17))==false)) (Ld (bif (!x16) then true else(!x17))) (Lz ((dB x16 x17 x18)==false) (cu (λ(hg:((dB x16 x17 x18)==false)=true)=>(Ch (B0 hg y19))) (gI ((dB x16 x17 x18)==false)) (Ld (dB x16 x17 x18)) (Lz ((bif (dB x16 x17 x18) then true else(!x19))==false) (c3 (λ(hg:((bif (dB x16 x17 x18) then true else(!x19))==false)=true)=>(Hp (B0 hg y20))) (gI ((bif (dB x16 x17 x18) then true else(!x19))==false)) (Ld (bif (dB x16 x17 x18) then true else(!x19)))))))))))) (gC h (λh=>Ae q [2] [] (tS h (gO (Lj (Ht [] (Le.refl _ _)))))) λh=>Ae q [1,3,4,7] Rz (tN h))) λh=>tS h (gO (Bd (Bk Fd Rz q))))) λx21 h=>(match x21,h with | .inl _,h=>gA (tB h λx23 y23 h=>tB h λx24 y24 h=>tB h λx25 y25 h=>tT q [1,3,146] [1] [(Z8 x23),(Z8 x24),(Z8 x25)] (ci (Ch y23) (Za ((!x23)==false) (cu (λ(hg:((!x23)==false)=true)=>(Ch (B0 hg y24))) (gI ((!x23)==false)) (Ld (!x23)) (Za (wr x23 x24) (c3 (λ(hg:(wr x23 x24)=true)=>(Hp (B0 hg y25))) (gI (wr x23 x24)) (Ld (bif (!x23) then true else(!x24)))))))) (gC h (λh=>Ae q [2] [] (tS h (gO (Lj (Ht [] (Le.refl _ _)))))) λh=>Ae q Mz [1] (tN h))) | .inr r26,h=>Pz (λst' hk=>tS h (gO (Lj hk)))))) | .inr r27,h=>Pz (λst' hk=>tS h (gO (Lj hk)))))) λh=>tS h (gO (Bd (Bk [] [] q))))) λx28 h=>(match x28,h with | .inl _,h=>gA (Ae q [2] [] (tS h (Bi []))) | .inr r30,h=>Pz (λst' hk=>tS h (gK hk))))))
def G3(aZ:Am)(aM:Int):Int->Option (LR Int (Unit ⊕ Bool)):=
 λ(i1:Int)=>(bif (decide (i1<(aZ.length:Int))) then(Aw (A0 i1 aZ.length) (bif ((aZ.getD i1.toNat 0)==aM) then(some (.done (.inr true))) else(some (.next (w64 (i1+1)))))) else(some (.done (.inl ()))))
def FN(Γ:Il)(aZ:Am)(aM:Int)(r:Bool):Exit->St->Prop:=fK Tryz.prog Γ Tryz.f42.results.toList [] (.bool r) []
def G9(aZ:Am)(aM:Int):Option Bool:=
 ((Ac (G3 aZ aM) (0:Int)).bind (λx3=>(match x3 with|(.inl _)=>(some false)|(.inr r5)=>(some r5))))
theorem N0(h:G9 v0 v4=some v5):sP 42 [(Rp v0),(Ax v4)] [] (.bool v5) []:=
 sG Tryz.func42 λΓ q=>tW q E6 [] Qd [] (tL q h Qd [] (λu i1=>(Cs u [(5,(Ax i1))] [])) (λu x_=>match x_ with|(.inl _)=>aG Γ (.exit 0) (⟨[],[],[]⟩:St)|(.inr r_)=>aR (FN Γ v0 v4 r_)) (λi1 y h=>Ae q [0,1,5,9] [] (gC h (λh=>tV q [0,1,5,17] [] h λh=>gC h (λh=>Ae q [4] [] (tS h (gO (Lj (Ht [] (Le.refl _ _)))))) λh=>Ae q Qd [] (tN h)) λh=>tS h (gO (Bd (Bk [] [] q))))) λx3 h=>(match x3,h with | .inl _,h=>gA (Ae q [4] [] (tS h (Bi []))) | .inr r5,h=>Pz (λst' hk=>tS h (gK hk))))
abbrev yb:=(LR Int (Unit ⊕ (TGraph×Int)))
def D9(aA:Ey)(i1:Int):Int->Option yb:=
 λ(i2:Int)=>(Aw (A0 i1 aA.length) (bif (decide (i2<((aA.getD i1.toNat []).length:Int))) then(Aw (A0 i1 aA.length) (Aw (A0 i2 (aA.getD i1.toNat []).length) (Aw (((decide (((aA.getD i1.toNat []).getD i2.toNat 0)<0))==false)=true->(A0 i1 aA.length)) (Aw (((decide (((aA.getD i1.toNat []).getD i2.toNat 0)<0))==false)=true->(A0 i2 (aA.getD i1.toNat []).length)) (Aw ((((bif (decide (((aA.getD i1.toNat []).getD i2.toNat 0)<0)) then true else(decide ((aA.length:Int)<=((aA.getD i1.toNat []).getD i2.toNat 0))))==false)&&((decide ((0:Int)<i2))==true))=true->(A0 i1 aA.length)) (Aw ((((bif (decide (((aA.getD i1.toNat []).getD i2.toNat 0)<0)) then true else(decide ((aA.length:Int)<=((aA.getD i1.toNat []).getD i2.toNat 0))))==false)&&((decide ((0:Int)<i2))==true))=true->(A0 i2 (aA.getD i1.toNat []).length)) (Aw ((((bif (decide (((aA.getD i1.toNat []).getD i2.toNat 0)<0)) then true else(decide ((aA.length:Int)<=((aA.getD i1.toNat []).getD i2.toNat 0))))==false)&&((decide ((0:Int)<i2))==true))=true->(A0 i1 aA.length)) (Aw ((((bif (decide (((aA.getD i1.toNat []).getD i2.toNat 0)<0)) then true else(decide ((aA.length:Int)<=((aA.getD i1.toNat []).getD i2.toNat 0))))==false)&&((decide ((0:Int)<i2))==true))=true->(A0 (w64 (i2-1)) (aA.getD i1.toNat []).length)) (bif (bif (bif (decide (((aA.getD i1.toNat []).getD i2.toNat 0)<0)) then true else(decide ((aA.length:Int)<=((aA.getD i1.toNat []).getD i2.toNat 0)))) then true else(bif (decide ((0:Int)<i2)) then(decide (((aA.getD i1.toNat []).getD i2.toNat 0)<=((aA.getD i1.toNat []).getD (w64 (i2-1)).toNat (0:Int)))) else false)) then(some (.done (.inr ((⟨([]:Ey),([]:Ey)⟩:TGraph),(5:Int))))) else(some (.next (w64 (i2+1))))))))))))) else(some (.done (.inl ())))))
def Gc(aA:Ey):Int->Option yb:=
 λ(i1:Int)=>(bif (decide (i1<(aA.length:Int))) then((Ac (D9 aA i1) (0:Int)).bind (λx12=>(match x12 with|(.inl _)=>(some (.next (w64 (i1+1))))|(.inr r14)=>(some (.done (.inr r14)))))) else(some (.done (.inl ()))))
def Iu(aA:Ey)(i18:Int):cx->Option wS:=
 λ((i21,l22):cx)=>(bif (decide (i21<(aA.length:Int))) then(Option.bind (α:=Ey) (Aw (A0 i21 aA.length) ((G9 (aA.getD i21.toNat []) i18).bind λx26=>(bif x26 then(Aw (A0 i18 l22.length) (Aw (A0 i18 l22.length) (Aw ((l22.getD i18.toNat []).length+([i21]:Am).length<=room) (Aw (A0 i18 l22.length) (some (l22.set i18.toNat ((l22.getD i18.toNat [])++([i21]:Am)))))))) else(some l22)))) (λx31=>(some (.next ((w64 (i21+1)),x31))))) else(some (.done l22)))
def Ea(aA:Ey):cx->Option wS:=
 λ((i18,l19):cx)=>(bif (decide (i18<(aA.length:Int))) then((Ac (Iu aA i18) ((0:Int),l19)).bind (λx33=>(some (.next ((w64 (i18+1)),x33))))) else(some (.done l19)))
def Sx(Γ:Il)(aA:Ey)(r:nO):Exit->St->Prop:=fK Tryz.prog Γ Tryz.f43.results.toList [] (.tuple (r9 r.1 r.2)) []
def Wu(aA:Ey):AV:=(WQ aA)
def so(aA:Ey):AV:=(Vc aA.length)
def sn(aA:Ey)(i1:Int)(i2:Int):=((bif (decide (((aA.getD i1.toNat []).getD i2.toNat 0)<0)) then true else(decide ((aA.length:Int)<=((aA.getD i1.toNat []).getD i2.toNat 0))))==false)
def Abw(i2:Int):=((decide ((0:Int)<i2))==true)
def lL(aA:Ey)(i1:Int)(i2:Int):=((sn aA i1 i2)&&(Abw i2))
def lK:List YG:=[Tz,(3,nH)]
def bQ(l22:Ey)(i18:Int)(i21:Int):=((l22.getD i18.toNat [])++([i21]:Am))
def zG:AV:=tR
def gM(aA:Ey):=(List.replicate (aA.length:Int).toNat ([]:Am))
def PI:List AV:=[dO,dO]
def sr(aA:Ey):List YG:=[(0,(Wu aA)),Tz,(4,(so aA)),(7,(.ptr 7 0))]
def wu(aA:Ey)(i1:Int)(i2:Int):=((decide (((aA.getD i1.toNat []).getD i2.toNat 0)<0))==false)
def dE:List AV:=[yl,yl]
def sq(aA:Ey)(i18:Int)(i21:Int):List YG:=[(0,(Wu aA)),Tz,(4,(so aA)),(7,(.ptr 7 0)),(8,(Ax i18)),(9,(Ax i21))]
def Ie(aA:Ey):Option nO:=
 (bif (bif ((aA.length:Int)==0) then true else(decide ((64:Int)<(aA.length:Int)))) then(some ((⟨([]:Ey),([]:Ey)⟩:TGraph),(5:Int))) else((Ac (Gc aA) (0:Int)).bind (λx15=>(match x15 with|(.inl _)=>(Aw (0<=(aA.length:Int)/\(aA.length:Int)<=(aA.length:Int)/\(aA.length:Int)<=(room:Int)) ((Ac (Ea aA) ((0:Int),(List.replicate (aA.length:Int).toNat ([]:Am)))).bind (λx35=>(some ((⟨aA,x35⟩:TGraph),(0:Int))))))|(.inr r37)=>(some r37)))))
variable{v18:nO}
theorem Rx(h:Ie v16=some v18):sP 43 [(WQ v16)] [] (.tuple (r9 v18.1 v18.2)) []:=
 sG Tryz.func43 λΓ q=>have hΓ:=q.own;tW q [0,2] [2] [0,2,4] [2] (tU q [0,2,4,17] [2] (c2 (gI (((v16.length:Int)==0)==false)) (Ld ((v16.length:Int)==0))) (gC h (λh=>gR q B7 [2] [(18,(.agg dE))] [] (c1 (show(AVle (.agg PI) (.agg dE)) from(AVle.agg (.cons He (.cons He .nil))))) (Ox (⟨lK,[(Oi 72 dE)],[]⟩:St) (tS h (gK (e:=.ret) (Ht [] (show Le Γ _ (⟨lK,[(PL zG)],[]⟩:St) from Le.trans (Bk (st':=⟨lK,[(Oi 72 dE)],[]⟩) B7 [2] q) (J8 (.cons (AVle.refl _) (.cons (AVle.refl _) .nil)) (.row (.cons AVle.untag (.cons AVle.untag .nil)) .nil)))))))) λh=>Ae q WC [2] (tL q h WC [2] (λu i1=>(Cs u [(5,(Ax i1))] [])) (λu x_=>match x_ with|(.inl _)=>aG Γ (.exit 0) (Oz [0,2,4] [2] u [] [])|(.inr r_)=>aR (Sx Γ v16 r_)) (λi1 y h=>Ae q [0,2,4,5,21] [2] (gC h (λh=>Ae q jk [2] (tL q h jk [2] (λu i2=>(Cs u [(6,(Ax i2))] [])) (λu x_=>match x_ with|(.inl _)=>aG Γ (.exit 2) (Oz WC [2] u [] [])|(.inr r_)=>aR (Sx Γ v16 r_)) (λi2 y h=>tV q [0,2,4,5,6,30] [2] h λh=>gC h (λh=>tC h λc4_ h=>tC h λc5_ h=>tC h λc6_ h=>tC h λc7_ h=>tC h λc8_ h=>tC h λc9_ h=>tC h λc10_ h=>tC h λc11_ h=>tU q [0,2,4,5,6,73] [2] (SB c4_ c5_ (Lz (wu v16 i1 i2) (ci c6_ (Za (wu v16 i1 i2) (ci c7_ (Za (wu v16 i1 i2) (ci (Ld (decide (((v16.getD i1.toNat []).getD i2.toNat 0)<0))) (Lz (sn v16 i1 i2) (Lz (lL v16 i1 i2) (ci c8_ (Za (lL v16 i1 i2) (ci c9_ (Za (lL v16 i1 i2) (ci c10_ (mF (lL v16 i1 i2) (ci c11_ (Za (lL v16 i1 i2) (c3 (gI (sn v16 i1 i2)) (show((sn v16 i1 i2)=true->((decide ((0:Int)<i2))=true->(lL v16 i1 i2)=true)) from(λhg=>(aT hg))) (Ld (bif (decide (((v16.getD i1.toNat []).getD i2.toNat 0)<0)) then true else(decide ((v16.length:Int)<=((v16.getD i1.toNat []).getD i2.toNat 0))))))))))))))))))))))) (gC h (λh=>gR q B7 [2] [(74,(.agg dE))] [] (c1 (show(AVle (.agg PI) (.agg dE)) from(AVle.agg (.cons He (.cons He .nil))))) (Ox (⟨lK,[(Oi 72 dE)],[]⟩:St) (tS h (gO (Lj (Ht [] (show Le Γ _ (⟨lK,[(PL zG)],[]⟩:St) from Le.trans (Bk (st':=⟨lK,[(Oi 72 dE)],[]⟩) B7 [2] q) (J8 (.cons (AVle.refl _) (.cons (AVle.refl _) .nil)) (.row (.cons AVle.untag (.cons AVle.untag .nil)) .nil))))))))) λh=>Ae q jk [2] (tN h))) λh=>tS h (gO (Bd (Bk WC [2] q)))) λx12 h=>(match x12,h with | .inl _,h=>gA (Ae q WC [2] (tN h)) | .inr r14,h=>Pz (λst' hk=>tS h (gO (Lj hk)))))) λh=>tS h (gO (Bd (Bk [0,2,4] [2] q))))) λx15 h=>(match x15,h with | .inl _,h=>gA (tV q [0,2,4,7] [2,7,77] h λh=>Ox (⟨(sr v16),[(Oi 72 PI),(7,.row 72 [(Wu v16),(.vsl 77 (v16.length:Int).toNat)]),(77,.arr 1 22 ((v16.length:Int).toNat) (λi_=>AV.eraseAll (λn_=>B3 n_ [2,7,77]) ((λ_=>[dO]) i_)))],[]⟩:St) (M4 (Le.trans (J8 (st':=⟨(sr v16),[(Oi 72 PI),(7,.row 72 [(Wu v16),(.vsl 77 (v16.length:Int).toNat)]),(77,.arr 1 22 ((v16.length:Int).toNat) (Oy 1 Ay (0:Int) (gM v16) (λ_=>.exact)))],[]⟩) (TmpsLe.refl _) (.same (.same (.arr d6 .nil)))) (Le.trans (Le.trans (eF (r:=77) (b:=70077) Ay (0:Int) (gM v16) 3 rfl rfl (K1 ..).symm (λh_=>absurd h_ (by decide))) (Ib (st':=⟨(sr v16),[(Oi 72 PI),(7,.row 72 [(Wu v16),(.vsl 77 (v16.length:Int).toNat)]),(77,.arr 1 22 ((v16.length:Int).toNat) (Oy 1 Ay (0:Int) (gM v16) (Tag.fam 70077)))],[(70077,⟨1,3,Nj (gM v16)⟩)]⟩) (by kernel_rfl))) (Ib (Bx (λk_:Nat=>(⟨(sr v16),[(Oi 72 PI),(oD (Wu v16) k_),(dN 77 k_ (gM v16) 70077)],[(70077,⟨1,3,Nj (gM v16)⟩)]⟩:St)) (show(v16.length:Int).toNat=(gM v16).length from(K1 ..).symm))))) (Ae q VV V4 (tL q h VV V4 (λu (i18,l19)=>(Cs u [(8,(Ax i18))] [(oD (Wu v16) l19.length),(dN 77 l19.length l19 70077)] [(70077,⟨1,3,Nj l19⟩)])) (λu l20=>aG Γ (.exit 4) (Oz [2,7] V4 u [] [(oD (Wu v16) l20.length),(dN 77 l20.length l20 70077)] [(70077,⟨1,3,Nj l20⟩)])) (λ⟨i18,l19⟩ y h=>Ae q [0,2,4,7,8,81] V4 (gC h (λh=>Ae q VN V4 (tL q h VN V4 (λu (i21,l22)=>(Cs u [(9,(Ax i21))] [(oD (Wu v16) l22.length),(dN 77 l22.length l22 70077)] [(70077,⟨1,3,Nj l22⟩)])) (λu l23=>aG Γ (.exit 6) (Oz VV V4 u [] [(oD (Wu v16) l23.length),(dN 77 l23.length l23 70077)] [(70077,⟨1,3,Nj l23⟩)])) (λ⟨i21,l22⟩ y h=>Ae q [0,2,4,7,8,9,86] V4 (gC h (λh=>tB h λx31 y31 h=>gJ y31 (λl24=>aG Γ .normal (⟨(sq v16 i18 i21),[(Oi 72 PI),(oD (Wu v16) l24.length),(dN 77 l24.length l24 70077)],[(70077,⟨1,3,Nj l24⟩)]⟩:St)) (λy h=>tC h λc25_ h=>tB h λx26 y26 h=>tT q [0,2,4,7,8,9,94] V4 [(Z8 x26)] (c2 c25_ (N0 y26)) (gC h (λh=>Ox (⟨[(0,(Wu v16)),Tz,(4,(so v16)),(7,(.ptr 7 0)),(8,(Ax i18)),(9,(Ax i21)),(94,(.bool x26))],[(Oi 72 PI),(oD (Wu v16) l22.length),(dN 77 l22.length l22 70077)],[(70077,⟨1,3,Nj l22⟩)]⟩:St) (tC h λc27_ h=>tC h λc28_ h=>tC h λc29_ h=>tC h λc30_ h=>M4 (Le.trans (kQ (r:=77) (b:=70077) (k:=60077) Ay (0:Int) l22 i18.toNat 3 rfl rfl rfl rfl (Qp c27_) (by kernel_rfl) (.row (by kernel_rfl) (.row (by kernel_rfl) (.here .nil)))) (Ib (st':=⟨[(0,(Wu v16)),Tz,(4,(so v16)),(7,(.ptr 7 0)),(8,(Ax i18)),(9,(Ax i21)),(94,(.bool x26))],[(Oi 72 PI),(oD (Wu v16) l22.length),(77,.arr 1 22 l22.length (Oy 1 Ay (0:Int) l22 (Hu 70077 i18.toNat 60077))),(60077,.tok 1 3 ((l22.getD i18.toNat []).length))],[(70077,⟨1,3,CO l22 i18.toNat⟩)]⟩) (by kernel_rfl))) (gR q VN rh [(102,(AV.list 1 Ay 0 (l22.getD i18.toNat []) (.own 60077))),(104,(tc i21)),(105,(WP (bQ l22 i18 i21) 60077))] [] (xk c28_ (Eq.refl l22.length) (show(AVle (((Oy 1 Ay (0:Int) l22 (Hu 70077 i18.toNat 60077)) i18.toNat).getD 0 .any) (AV.list 1 Ay 0 (l22.getD i18.toNat []) (.own 60077))) from YR) (Ca 1 Ay (0:Int) ([i21]:Am)) (Eq.refl ((l22.getD i18.toNat []).length)) c29_ (Kh 1 60077 Ay (0:Int) (l22.getD i18.toNat []) ([i21]:Am)) (Ft (l22.getD i18.toNat []) ([i21]:Am)) c30_ (c1 (Eq.refl l22.length))) (Ox (⟨(sq v16 i18 i21),[(Oi 72 PI),(oD (Wu v16) l22.length),(77,.arr 1 22 l22.length (λi_=>AV.eraseAll (λn_=>B3 n_ rh) ((E0 (Oy 1 Ay (0:Int) l22 (Hu 70077 i18.toNat 60077)) i18.toNat 0 [(WP (bQ l22 i18 i21) 60077)]) i_))),(60077,.tok 1 3 ((bQ l22 i18 i21).length))],[(70077,⟨1,3,CO l22 i18.toNat⟩)]⟩:St) (tS h (gK (Bd (Le.trans (Le.trans (Le.trans (pV (r:=77) (b:=70077) (k:=60077) Ay (0:Int) l22 i18.toNat (bQ l22 i18 i21) 3 rfl (fL (Qp c27_) rfl rfl) rfl rfl rfl rfl (Qp c27_) (by kernel_rfl) (.row (by kernel_rfl) (.row (by kernel_rfl) (.here (.tok .nil)))) (by rw[hΓ];rfl)) (Ib (st':=⟨(sq v16 i18 i21),[(Oi 72 PI),(oD (Wu v16) l22.length),(77,.arr 1 22 l22.length (Oy 1 Ay (0:Int) (l22.set i18.toNat (bQ l22 i18 i21)) (Tag.fam 70077)))],[(70077,⟨1,3,Nj (l22.set i18.toNat (bQ l22 i18 i21))⟩)]⟩) (by kernel_rfl))) (Ib (Bx (λk_:Nat=>(⟨(sq v16 i18 i21),[(Oi 72 PI),(oD (Wu v16) k_),(77,.arr 1 22 k_ (Oy 1 Ay (0:Int) (l22.set i18.toNat (bQ l22 i18 i21)) (Tag.fam 70077)))],[(70077,⟨1,3,Nj (l22.set i18.toNat (bQ l22 i18 i21))⟩)]⟩:St)) (show l22.length=(l22.set i18.toNat (bQ l22 i18 i21)).length from(Cm ..).symm)))) Jh)))))))) λh=>tS h (gK (Bd (Bk VN V4 q))))) (gA (Ae q VN V4 (tN h)))) λh=>tS h (gO (Bd (Bk VV V4 q))))) λx33 h=>gA (Ae q VV V4 (tN h)))) λh=>tS h (gO (Bd (Bk [2,7] V4 q))))) λx35 h=>gA (Ae q B7 [2,77,70077] (Ox (⟨[Tz,(3,Px)],[(2,.row 72 [(Wu v16),(.vsl 77 x35.length)]),(dN 77 x35.length x35 70077)],[(70077,⟨1,3,Nj x35⟩)]⟩:St) (tS h (gK (e:=.ret) (Ht [] (Le.trans (F1 (nm:=77) (sz:=1) (n:=x35.length) (e:=22) (f:=(Oy 1 Ay (0:Int) x35 (Tag.fam 70077))) (g:=(λi=>Lc (x35.getD i []))) rfl ⟨rfl,trivial⟩ (λ_ _=>rfl) (by rw[hΓ];rfl)) (Bk (st':=⟨[Tz,(3,Px)],[(2,.row 72 [(Wu v16),(sA x35 77)]),(77,.tok 1 22 x35.length)],[]⟩) B7 [2,77] q))))))))))) | .inr r37,h=>Pz (λst' hk=>tS h (gK hk))))))
def Fg(a1:TFunc)(i2:Int):Int->Option yb:=
 λ(i6:Int)=>(bif (decide (i6<(((a1.Blocks.getD i2.toNat default).End.To).length:Int))) then(Aw (A0 i6 ((a1.Blocks.getD i2.toNat default).End.To).length) (Aw (((decide ((((a1.Blocks.getD i2.toNat default).End.To).getD i6.toNat 0)<=0))==false)=true->(A0 i6 ((a1.Blocks.getD i2.toNat default).End.To).length)) (bif (bif (decide ((((a1.Blocks.getD i2.toNat default).End.To).getD i6.toNat 0)<=0)) then true else(decide ((a1.Blocks.length:Int)<=(((a1.Blocks.getD i2.toNat default).End.To).getD i6.toNat 0)))) then(some (.done (.inr ((⟨([]:Ey),([]:Ey)⟩:TGraph),(5:Int))))) else(some (.next (w64 (i6+1))))))) else(some (.done (.inl ()))))
def Hm(a1:TFunc)(i2:Int):MK->Option (LR (Am×Int) Am):=
 λ((l11,i12):MK)=>(bif (decide (i12<(a1.Blocks.length:Int))) then(Option.bind (α:=Am) ((G9 ((a1.Blocks.getD i2.toNat default).End.To) i12).bind λx15=>(bif x15 then(Aw (l11.length+([i12]:Am).length<=room) (some (l11++([i12]:Am)))) else(some l11))) (λx17=>(some (.next (x17,(w64 (i12+1))))))) else(some (.done l11)))
def Ck(a1:TFunc):(Ey×Int)->Option (LR (Ey×Int) (Ey ⊕ (TGraph×Int))):=
 λ((l1,i2):(Ey×Int))=>(bif (decide (i2<(a1.Blocks.length:Int))) then(Aw (A0 i2 a1.Blocks.length) (Aw (((bif (decide (((a1.Blocks.getD i2.toNat default).End.Kind:Int)<0)) then true else(decide ((3:Int)<(a1.Blocks.getD i2.toNat default).End.Kind)))==false)=true->(A0 (a1.Blocks.getD i2.toNat default).End.Kind ([(0:Int),(1:Int),(2:Int),(0:Int)]:Am).length)) (bif (bif (bif (decide (((a1.Blocks.getD i2.toNat default).End.Kind:Int)<0)) then true else(decide ((3:Int)<(a1.Blocks.getD i2.toNat default).End.Kind))) then true else((((a1.Blocks.getD i2.toNat default).End.To).length:Int)!=(([(0:Int),(1:Int),(2:Int),(0:Int)]:Am).getD ((a1.Blocks.getD i2.toNat default).End.Kind).toNat (0:Int)))) then(some (.done (.inr ((⟨([]:Ey),([]:Ey)⟩:TGraph),(5:Int))))) else((Ac (Fg a1 i2) (0:Int)).bind (λx9=>(match x9 with|(.inl _)=>((Ac (Hm a1 i2) (([]:Am),(1:Int))).bind (λx19=>(Aw (l1.length+([x19]:Ey).length<=room) (some (.next ((l1++([x19]:Ey)),(w64 (i2+1))))))))|(.inr r22)=>(some (.done (.inr r22))))))))) else(some (.done (.inl l1))))
def Um(Γ:Il)(a1:TFunc)(r:nO):Exit->St->Prop:=fK Tryz.prog Γ Tryz.f22.results.toList [] (.tuple (r9 r.1 r.2)) []
def gP:AV:=dO
def IF(a1:TFunc)(i2:Int):=(a1.Blocks.getD i2.toNat default)
def HB:AV:=yl
def wy:AV:=(.agg [gP,gP])
def lM:=(⟨[Tz,(3,nH)],[(PL HB)],[]⟩:St)
def ww(a1:TFunc)(i2:Int)(i6:Int):=(decide ((((IF a1 i2).End.To).getD i6.toNat 0)<=0))
def ng(a1:TFunc):List AV:=[(Rp a1.Params),(Ax a1.Ret),(YL a1.Blocks)]
def wx:=(⟨[Tz,(3,nH)],[(2,.row 72 [tR,tR])],[]⟩:St)
def nf(a1:TFunc)(i2:Int):=(bif (decide (((IF a1 i2).End.Kind:Int)<0)) then true else(decide ((3:Int)<(IF a1 i2).End.Kind)))
def zI(a1:TFunc):=(⟨[FW,Tz,(4,(Vc a1.Blocks.length)),(5,(AV.list 1 Lc [] ([]:Ey) (.own 5005))),(6,Px)],[(1,.row 25 (ng a1)),(PL gP),(5005,.tok 1 22 (([]:Ey).length))],[]⟩:St)
def zH(a1:TFunc)(l1:Ey)(i2:Int):=(⟨[FW,Tz,(4,(Vc a1.Blocks.length)),(5,(sA l1 5005)),(6,(Ax i2)),(7,(.ptr 7 0)),(8,(AV.list 1 Ay 0 ([]:Am) (.own 5008))),(10,RN)],[(1,.row 25 (ng a1)),(PL gP),(7,.row 54 [(.int .i64 (IF a1 i2).End.Kind),(.int .i64 (IF a1 i2).End.Arg),(AV.list 1 Ay 0 (IF a1 i2).End.To .none)]),(5005,.tok 1 22 l1.length),(5008,.tok 1 3 (([]:Am).length))],[]⟩:St)
def Js(a1:TFunc):Option nO:=
 (bif (bif ((a1.Blocks.length:Int)==0) then true else(decide ((64:Int)<(a1.Blocks.length:Int)))) then(some ((⟨([]:Ey),([]:Ey)⟩:TGraph),(5:Int))) else((Ac (Ck a1) (([]:Ey),(0:Int))).bind (λx23=>(match x23 with|(.inl l3)=>((Ie l3).bind λx25=>(some (x25.1,x25.2)))|(.inr r26)=>(some r26)))))
theorem Tt(h:Js v3=some v18):sP 22 [(XC v3)] [] (.tuple (r9 v18.1 v18.2)) []:=
 sG Tryz.func22 λΓ q=>tW q Pe Pe [1,2,4] Pe (tU q [1,2,4,19] Pe (c2 (gI (((v3.Blocks.length:Int)==0)==false)) (Ld ((v3.Blocks.length:Int)==0))) (gC h (λh=>gR q B7 [2] [(20,(.agg [HB,HB]))] [] (c1 (show(AVle wy (.agg [HB,HB])) from(AVle.agg (.cons He (.cons He .nil))))) (Ox lM (tS h (gK (e:=.ret) (Ht [] (show Le Γ _ wx from Le.trans (Bk (st':=lM) B7 [2] q) (J8 (.cons (AVle.refl _) (.cons (AVle.refl _) .nil)) (.row (.cons AVle.untag (.cons AVle.untag .nil)) .nil)))))))) λh=>gR q [1,2,4,5] Pe [(5,HB)] [] (c1 (Bh 1 Lc [])) (Ae q NA Pe (M4 (st':=(zI v3)) (Le.trans (Bk (st':=⟨[FW,Tz,(4,(Vc v3.Blocks.length)),(5,HB),(6,Px)],[(1,.row 25 (ng v3)),(PL gP)],[]⟩) NA Pe q) (Le.trans (Nl (t:=5) (nm:=5005) (sz':=1) (λi=>Lc (([]:Ey).getD i [])) 22 rfl rfl (.inl ⟨rfl,rfl⟩) (λh_=>absurd h_ (by decide))) (Bk (st':=(zI v3)) NA WD q))) (tL q h NA WD (λu (l1,i2)=>(Cs u [(5,(sA l1 5005)),(6,(Ax i2))] [(5005,.tok 1 22 l1.length)])) (λu x_=>match x_ with|(.inl l3)=>aG Γ (.exit 0) (Oz Wo [2,5005] u [(5,(sA l3 5005))] [(5005,.tok 1 22 l3.length)])|(.inr r_)=>aR (Um Γ v3 r_)) (λ⟨l1,i2⟩ y h=>Ae q [1,2,4,5,6,23] WD (gC h (λh=>tV q [1,2,4,5,6,7] Zu h λh=>tC h λc5_ h=>gR q [1,2,4,5,6,7,50] Zu [(44,(AV.list 1 Ay 0 ([(0:Int),(1:Int),(2:Int),(0:Int)]:Am) .exact))] [] (Lz ((decide (((IF v3 i2).End.Kind:Int)<0))==false) (ci (Ld (decide (((IF v3 i2).End.Kind:Int)<0))) (Lz ((nf v3 i2)==false) (ci (show(((nf v3 i2)==false)=true->(AVle (.slice 1 4 (λi=>([[Px],[RN],[RL],[Px]]:List (List AV)).getD i []) .exact) (AV.list 1 Ay 0 ([(0:Int),(1:Int),(2:Int),(0:Int)]:Am) .exact))) from(λhg=>@(Ca 1 Ay (0:Int) ([(0:Int),(1:Int),(2:Int),(0:Int)]:Am)))) (Za ((nf v3 i2)==false) (ci c5_ (Za ((nf v3 i2)==false) (c1 (Ld (nf v3 i2)))))))))) (gC h (λh=>gR q B7 [2] [(51,(.agg [HB,HB]))] [] (c1 (show(AVle wy (.agg [HB,HB])) from(AVle.agg (.cons He (.cons He .nil))))) (Ox lM (tS h (gO (Lj (Ht [] (show Le Γ _ wx from Le.trans (Bk (st':=lM) B7 [2] q) (J8 (.cons (AVle.refl _) (.cons (AVle.refl _) .nil)) (.row (.cons AVle.untag (.cons AVle.untag .nil)) .nil))))))))) λh=>gR q jX Zu [(8,oC)] [] (c1 (Bh 1 Ay (0:Int))) (Ae q jU Zu (tL q h jU Zu (λu i6=>(Cs u [(9,(Ax i6))] [])) (λu x_=>match x_ with|(.inl _)=>aG Γ (.exit 2) (Oz jX Zu u [] [])|(.inr r_)=>aR (Um Γ v3 r_)) (λi6 y h=>Ae q [1,2,4,5,6,7,8,9,56] Zu (gC h (λh=>tC h λc7_ h=>tC h λc8_ h=>tU q [1,2,4,5,6,7,8,9,73] Zu (ci c7_ (Za ((ww v3 i2 i6)==false) (ci c8_ (Za ((ww v3 i2 i6)==false) (c1 (Ld (ww v3 i2 i6))))))) (gC h (λh=>gR q B7 [2] [(74,(.agg [HB,HB]))] [] (c1 (show(AVle wy (.agg [HB,HB])) from(AVle.agg (.cons He (.cons He .nil))))) (Ox lM (tS h (gO (Lj (Ht [] (show Le Γ _ wx from Le.trans (Bk (st':=lM) B7 [2] q) (J8 (.cons (AVle.refl _) (.cons (AVle.refl _) .nil)) (.row (.cons AVle.untag (.cons AVle.untag .nil)) .nil))))))))) λh=>Ae q jU Zu (tN h))) λh=>tS h (gO (Bd (Bk jX Zu q))))) λx9 h=>(match x9,h with | .inl _,h=>gA (Ae q WK Zu (M4 (st':=(zH v3 l1 i2)) (Le.trans (Bk (st':=⟨[FW,Tz,(4,(Vc v3.Blocks.length)),(5,(sA l1 5005)),(6,(Ax i2)),(7,(.ptr 7 0)),(8,oC),(10,RN)],[(1,.row 25 (ng v3)),(PL gP),(7,.row 54 [(.int .i64 (IF v3 i2).End.Kind),(.int .i64 (IF v3 i2).End.Arg),(AV.list 1 Ay 0 (IF v3 i2).End.To .none)]),(5005,.tok 1 22 l1.length)],[]⟩) WK Zu q) (Le.trans (Nl (t:=8) (nm:=5008) (sz':=1) (λi=>Ay (([]:Am).getD i 0)) 3 rfl rfl (.inl ⟨rfl,rfl⟩) (λh_=>absurd h_ (by decide))) (Bk (st':=(zH v3 l1 i2)) WK WL q))) (tL q h WK WL (λu (l11,i12)=>(Cs u [(8,(WP l11 5008)),(C6 10 i12)] [(5008,.tok 1 3 l11.length)])) (λu l13=>aG Γ (.exit 4) (Oz [1,2,4,5,6,8] [1,2,5005,5008] u [(8,(WP l13 5008))] [(5008,.tok 1 3 l13.length)])) (λ⟨l11,i12⟩ y h=>Ae q [1,2,4,5,6,7,8,10,77] WL (gC h (λh=>tB h λx17 y17 h=>gJ y17 (λl14=>aG Γ .normal (⟨[FW,Tz,(4,(Vc v3.Blocks.length)),(5,(sA l1 5005)),(6,(Ax i2)),(7,(.ptr 7 0)),(8,(WP l14 5008)),(C6 10 i12)],[(1,.row 25 (ng v3)),(PL gP),(7,.row 54 [(.int .i64 (IF v3 i2).End.Kind),(.int .i64 (IF v3 i2).End.Arg),(AV.list 1 Ay 0 (IF v3 i2).End.To .none)]),(5005,.tok 1 22 l1.length),(5008,.tok 1 3 l14.length)],[]⟩:St)) (λy h=>tB h λx15 y15 h=>tT q [1,2,4,5,6,7,8,10,83] WL [(Z8 x15)] (c1 (N0 y15)) (gC h (λh=>tC h λc16_ h=>gR q WK WL [(86,(tc i12)),(87,(AV.list 1 Ay 0 (l11++([i12]:Am)) (.own 5008)))] [] (c5 (Ca 1 Ay (0:Int) ([i12]:Am)) (Eq.refl l11.length) c16_ (Kh 1 5008 Ay (0:Int) l11 ([i12]:Am)) (Ft l11 ([i12]:Am))) (tS h (gK (Bd Jh)))) λh=>tS h (gK (Bd (Bk WK WL q))))) (gA (Ae q WK WL (tN h)))) λh=>tS h (gO (Bd (Bk [1,2,4,5,6,8] [1,2,5005,5008] q))))) λx19 h=>gA (tC h λc21_ h=>gR q NA WD [(90,(AV.list 1 Lc [] ([x19]:Ey) .exact)),(91,(AV.list 1 Lc [] (l1++([x19]:Ey)) (.own 5005)))] [] (c5 (Ca 1 Lc [] ([x19]:Ey)) (Eq.refl l1.length) c21_ (Kh 1 5005 Lc [] l1 ([x19]:Ey)) (Ft l1 ([x19]:Ey))) (Ae q NA WD (tN h)))))) | .inr r22,h=>Pz (λst' hk=>tS h (gO (Lj hk)))))))) λh=>tS h (gO (Bd (Bk Wo [2,5005] q))))) λx23 h=>(match x23,h with | .inl l3,h=>gA (tB h λx25 y25 h=>tT q B7 [2] [(n7 x25.1 x25.2)] (c1 (Rx y25)) (tS h (Bi []))) | .inr r26,h=>Pz (λst' hk=>tS h (gK hk))))))))
def A5(a9:TGraph)(aa7:Int)(i6:Int):YF->Option qz:=
 λ((i9,l10):YF)=>(Aw (A0 i6 l10.length) (Aw (((l10.getD i6.toNat false)==true)=true->(A0 i6 a9.Succ.length)) (bif (bif (l10.getD i6.toNat false) then(decide (i9<((a9.Succ.getD i6.toNat []).length:Int))) else false) then(Option.bind (α:=List Bool) (Aw (A0 i6 a9.Succ.length) (Aw (A0 i9 (a9.Succ.getD i6.toNat []).length) (bif (((a9.Succ.getD i6.toNat []).getD i9.toNat 0)!=aa7) then(Aw (A0 i6 a9.Succ.length) (Aw (A0 i9 (a9.Succ.getD i6.toNat []).length) (Aw (A0 ((a9.Succ.getD i6.toNat []).getD i9.toNat 0) l10.length) (some (l10.set ((a9.Succ.getD i6.toNat []).getD i9.toNat 0).toNat true))))) else(some l10)))) (λx20=>(some (.next ((w64 (i9+1)),x20))))) else(some (.done l10)))))
def A6(a9:TGraph)(aa7:Int):YF->Option qz:=
 λ((i6,l7):YF)=>(bif (decide (i6<(l7.length:Int))) then((Ac (A5 a9 aa7 i6) ((0:Int),l7)).bind (λx22=>(some (.next ((w64 (i6+1)),x22))))) else(some (.done l7)))
def A7(a9:TGraph)(aa7:Int):YF->Option qz:=
 λ((i3,l4):YF)=>(bif (decide (i3<(l4.length:Int))) then((Ac (A6 a9 aa7) ((0:Int),l4)).bind (λx24=>(some (.next ((w64 (i3+1)),x24))))) else(some (.done l4)))
def zJ(l10:List Bool)(i6:Int):=((l10.getD i6.toNat false)==true)
def KK(a9:TGraph):=(List.replicate (a9.Succ.length:Int).toNat false)
def lN(a9:TGraph):=(λi=>eB ((KK a9).getD i false))
def ss(a9:TGraph)(i6:Int)(i9:Int):=((a9.Succ.getD i6.toNat []).getD i9.toNat 0)
def C3(a9:TGraph)(a8:Int)(aa7:Int):Option (List Bool):=
 (Aw (0<=(a9.Succ.length:Int)/\(a9.Succ.length:Int)<=(a9.Succ.length:Int)/\(a9.Succ.length:Int)<=(room:Int)) (bif (a8==aa7) then(some (List.replicate (a9.Succ.length:Int).toNat false)) else(Aw (A0 a8 (List.replicate (a9.Succ.length:Int).toNat false).length) ((Ac (A7 a9 aa7) ((0:Int),((List.replicate (a9.Succ.length:Int).toNat false).set a8.toNat true))).bind (λx26=>(some x26))))))
variable{v19:TGraph}{v50:List Bool}
theorem Mm(h:C3 v19 v4 v13=some v50):sP 36 [(.agg (X0 v19)),(Ax v4),(Ax v13)] [] (XB v50 20000) [(Sl 20000 v50.length)]:=
 sG Tryz.func36 λΓ q=>have hΓ:=q.own;gR q Y3 [3] [(6,(AV.list 1 eB false ([]:List Bool) .exact))] [] (c1 (Bh 1 eB false)) (tV q [1,2,3,7] K3 h λh=>by exact M4 (Le.trans (Sp 14 (show ∀ k_,k_<((v19.Succ.length:Int).toNat)->AVleL ((λi_=>AV.eraseAll (λn_=>B3 n_ K3) ((λ_=>[(.bool false)]) i_)) k_) ((lN v19) k_) from(λk hk=>Mi (e:=eB) (d:=false) (.cons (AVle.refl _) .nil) _ k (Mn hk)))) (Sq (λ(k_:Nat) u=>(Cs u [(Ue 14 k_)] [(14,.arr 1 4 k_ (lN v19))])) (show(v19.Succ.length:Int).toNat=(KK v19).length from(K1 ..).symm))) (Ae q [1,2,3,7,17] K3 (gC h (λh=>Ae q [6] [14] (Ox (⟨[(6,(.vsl 14 (KK v19).length))],[(14,.arr 1 4 ((KK v19).length) (lN v19))],[]⟩:St) (tS h (gK (e:=.ret) (Ht [(14,20000)] (Le.trans (F1 (nm:=14) (sz:=1) (n:=((KK v19).length)) (e:=4) (f:=(lN v19)) (g:=(lN v19)) rfl ⟨rfl,trivial⟩ (λ_ _=>rfl) (by rw[hΓ];rfl)) (Ib (st':=⟨[(6,(XB (KK v19) 14))],[(14,.tok 1 4 ((KK v19).length))],[]⟩) (by kernel_rfl)))))))) λh=>tC h λc2_ h=>tU q [2,3,7] K3 (c2 c2_ (Eq.refl ((KK v19).length))) (M4 (Le.trans (Sp 14 (show ∀ k_,k_<((KK v19).length)->AVleL ((λi_=>AV.eraseAll (λn_=>B3 n_ K3) ((E0 (lN v19) v4.toNat 0 [(.bool true)]) i_)) k_) ((λi=>eB (((KK v19).set v4.toNat true).getD i false)) k_) from(Bc (Cm ..).symm (λk_ hk_=>(Bx (AV.eraseAll (λn_=>B3 n_ K3)) ((Fq (λ_ _=>rfl) (Gs c2_) rfl) k_ hk_)).trans rfl)))) (Sq (λ(k_:Nat) u=>(Cs u [(Ue 14 k_)] [(14,.arr 1 4 k_ (λi=>eB (((KK v19).set v4.toNat true).getD i false)))])) (show(KK v19).length=((KK v19).set v4.toNat true).length from(Cm ..).symm))) (Ae q WE K3 (tL q h WE K3 (λu (i3,l4)=>(Cs u [(Ue 14 l4.length),(8,(Ax i3))] [(lf 14 l4)])) (λu l5=>aG Γ (.exit 0) (⟨[(Ue 14 l5.length)],[(lf 14 l5)],[]⟩:St)) (λ⟨i3,l4⟩ y h=>Ae q [2,3,7,8,25] K3 (gC h (λh=>Ae q VW K3 (tL q h VW K3 (λu (i6,l7)=>(Cs u [(Ue 14 l7.length),(9,(Ax i6))] [(lf 14 l7)])) (λu l8=>aG Γ (.exit 2) (Oz WE K3 u [(Ue 14 l8.length)] [(lf 14 l8)])) (λ⟨i6,l7⟩ y h=>Ae q [2,3,7,8,9,31] K3 (gC h (λh=>Ae q VK K3 (tL q h VK K3 (λu (i9,l10)=>(Cs u [(Ue 14 l10.length),(C6 10 i9)] [(lf 14 l10)])) (λu l11=>aG Γ (.exit 4) (Oz VW K3 u [(Ue 14 l11.length)] [(lf 14 l11)])) (λ⟨i9,l10⟩ y h=>tC h λc12_ h=>tC h λc13_ h=>tU q [2,3,7,8,9,10,47] K3 (SB c12_ (Eq.refl l10.length) (Za (zJ l10 i6) (ci c13_ (mF (zJ l10 i6) (c1 (L0 (l10.getD i6.toNat false))))))) (gC h (λh=>tB h λx20 y20 h=>gJ y20 (λl14=>aG Γ .normal (⟨[(2,(Ax v13)),(3,(.ptr 3 0)),(Ue 14 l14.length),(8,(Ax i3)),(9,(Ax i6)),(C6 10 i9)],[(3,.row 72 [(WQ v19.Succ),(WQ v19.Pred)]),(lf 14 l14)],[]⟩:St)) (λy h=>tC h λc15_ h=>tC h λc16_ h=>tU q [2,3,7,8,9,10,59] K3 (c2 c15_ c16_) (gC h (λh=>tC h λc17_ h=>tC h λc18_ h=>tC h λc19_ h=>tU q VK K3 (c4 c17_ c18_ c19_ (Eq.refl l10.length)) (tS h (gK (Bd (Le.trans (Le.trans (Sp 14 (show ∀ k_,k_<l10.length->AVleL ((λi_=>AV.eraseAll (λn_=>B3 n_ K3) ((E0 (λi=>eB (l10.getD i false)) (ss v19 i6 i9).toNat 0 [(.bool true)]) i_)) k_) ((λi=>eB ((l10.set (ss v19 i6 i9).toNat true).getD i false)) k_) from(Bc (Cm ..).symm (λk_ hk_=>(Bx (AV.eraseAll (λn_=>B3 n_ K3)) ((Fq (λ_ _=>rfl) (Gs c19_) rfl) k_ hk_)).trans rfl)))) (Sq (λ(k_:Nat) u=>(Cs u [(Ue 14 k_)] [(14,.arr 1 4 k_ (λi=>eB ((l10.set (ss v19 i6 i9).toNat true).getD i false)))])) (show l10.length=(l10.set (ss v19 i6 i9).toNat true).length from(Cm ..).symm))) Jh))))) λh=>tS h (gK (Bd (Bk VK K3 q))))) (gA (Ae q VK K3 (tN h)))) λh=>tS h (gO (Bd (Bk VW K3 q))))) λx22 h=>gA (Ae q VW K3 (tN h)))) λh=>tS h (gO (Bd (Bk WE K3 q))))) λx24 h=>gA (Ae q WE K3 (tN h)))) λh=>tS h (gO (Bd (Bk [7] [14] q))))) λx26 h=>gA (Ae q [6] [14] (Ox (⟨[(6,(.vsl 14 x26.length))],[(lf 14 x26)],[]⟩:St) (tS h (gK (e:=.ret) (Ht [(14,20000)] (Le.trans (F1 (nm:=14) (sz:=1) (n:=x26.length) (e:=4) (f:=(λi=>eB (x26.getD i false))) (g:=(λi=>eB (x26.getD i false))) rfl ⟨rfl,trivial⟩ (λ_ _=>rfl) (by rw[hΓ];rfl)) (Ib (st':=⟨[(6,(XB x26 14))],[(Sl 14 x26.length)],[]⟩) (by kernel_rfl))))))))))))))
def F9(aD:Am)(aE:Am):Int->Option (LR Int (Unit ⊕ Bool)):=
 λ(i1:Int)=>(bif (decide (i1<(aD.length:Int))) then(Aw (A0 i1 aD.length) (Aw (A0 i1 aE.length) (bif ((aD.getD i1.toNat 0)!=(aE.getD i1.toNat 0)) then(some (.done (.inr false))) else(some (.next (w64 (i1+1))))))) else(some (.done (.inl ()))))
def BR(Γ:Il)(aD:Am)(aE:Am)(r:Bool):Exit->St->Prop:=fK Tryz.prog Γ Tryz.f37.results.toList [] (.bool r) []
def En(aD:Am)(aE:Am):Option Bool:=
 (bif ((aD.length:Int)!=(aE.length:Int)) then(some false) else((Ac (F9 aD aE) (0:Int)).bind (λx4=>(match x4 with|(.inl _)=>(some true)|(.inr r6)=>(some r6)))))
theorem M5(h:En v0 v1=some v5):sP 37 [(Rp v0),(Rp v1)] [] (.bool v5) []:=
 sG Tryz.func37 λΓ q=>tW q E6 [] Y2 [] (gC h (λh=>Ae q [4] [] (tS h (Bi []))) λh=>Ae q Qd [] (tL q h Qd [] (λu i1=>(Cs u [(5,(Ax i1))] [])) (λu x_=>match x_ with|(.inl _)=>aG Γ (.exit 0) (⟨[],[],[]⟩:St)|(.inr r_)=>aR (BR Γ v0 v1 r_)) (λi1 y h=>Ae q [0,1,5,14] [] (gC h (λh=>tC h λc2_ h=>tC h λc3_ h=>tU q [0,1,5,25] [] (c2 c2_ c3_) (gC h (λh=>Ae q [4] [] (tS h (gO (Lj (Ht [] (Le.refl _ _)))))) λh=>Ae q Qd [] (tN h))) λh=>tS h (gO (Bd (Bk [] [] q))))) λx4 h=>(match x4,h with | .inl _,h=>gA (Ae q [4] [] (tS h (Bi []))) | .inr r6,h=>Pz (λst' hk=>tS h (gK hk)))))
def Fl(a1:TFunc)(x1:nO)(i3:Int):Int->Option (LR Int (Unit ⊕ Bool)):=
 λ(i6:Int)=>(bif (decide (i6<(((a1.Blocks.getD i3.toNat default).Phis).length:Int))) then(Aw (A0 i6 ((a1.Blocks.getD i3.toNat default).Phis).length) (Aw (A0 i3 x1.1.Pred.length) ((En ((((a1.Blocks.getD i3.toNat default).Phis).getD i6.toNat default).From) (x1.1.Pred.getD i3.toNat [])).bind λx9=>(Aw (((!x9)==false)=true->(A0 i6 ((a1.Blocks.getD i3.toNat default).Phis).length)) (Aw (((!x9)==false)=true->(A0 i3 x1.1.Pred.length)) (bif (bif (!x9) then true else((((((a1.Blocks.getD i3.toNat default).Phis).getD i6.toNat default).Args).length:Int)!=((x1.1.Pred.getD i3.toNat []).length:Int))) then(some (.done (.inr false))) else(some (.next (w64 (i6+1)))))))))) else(some (.done (.inl ()))))
def Fm(a1:TFunc)(x1:nO)(x2:List Bool):Int->Option (LR Int (Unit ⊕ Bool)):=
 λ(i3:Int)=>(bif (decide (i3<(a1.Blocks.length:Int))) then(Aw (A0 i3 a1.Blocks.length) (Aw (A0 i3 x2.length) (bif (bif (!(x2.getD i3.toNat false)) then true else(bif (bif (((a1.Blocks.getD i3.toNat default).End.Kind:Int)==1) then true else(((a1.Blocks.getD i3.toNat default).End.Kind:Int)==3)) then(((a1.Blocks.getD i3.toNat default).End.Arg:Int)!=0) else false)) then(some (.done (.inr false))) else((Ac (Fl a1 x1 i3) (0:Int)).bind (λx12=>(match x12 with|(.inl _)=>(some (.next (w64 (i3+1))))|(.inr r14)=>(some (.done (.inr r14))))))))) else(some (.done (.inl ()))))
def Rr(Γ:Il)(a1:TFunc)(r:Bool):Exit->St->Prop:=fK Tryz.prog Γ Tryz.f16.results.toList [] (.bool r) []
def bR(x2:List Bool)(i3:Int):=((!(x2.getD i3.toNat false))==false)
def gQ(a1:TFunc)(i3:Int):=((a1.Blocks.getD i3.toNat default).End.Kind:Int)
def zK(x2:List Bool)(i3:Int)(a1:TFunc):=((bR x2 i3)&&((bif ((gQ a1 i3)==1) then true else((gQ a1 i3)==3))==true))
def J5(a1:TFunc):Option Bool:=
 ((Js a1).bind λx1=>(bif (x1.2 !=0) then(some false) else((C3 x1.1 (0:Int) (-1:Int)).bind λx2=>((Ac (Fm a1 x1 x2) (0:Int)).bind (λx15=>(match x15 with|(.inl _)=>(some true)|(.inr r17)=>(some r17)))))))
theorem Yt(h:J5 v3=some v5):sP 16 [(XC v3)] [] (.bool v5) []:=
 sG Tryz.func16 λΓ q=>Ae q [1] [1] (tB h λx1 y1 h=>tT q Fd Mz [(n7 x1.1 x1.2)] (c1 (Tt y1)) (Ae q [1,3,15] Mz (gC h (λh=>Ae q [2] [] (tS h (Bi []))) λh=>tB h λx2 y2 h=>tT q NF HZ [⟨[],[(20000,17)],(XB x2 20000),[(Sl 20000 x2.length)],[],[]⟩] (c1 (Mm y2)) (Ae q KI HZ (tL q h KI HZ (λu i3=>(Cs u [(6,(Ax i3))] [])) (λu x_=>match x_ with|(.inl _)=>aG Γ (.exit 0) (⟨[],[],[]⟩:St)|(.inr r_)=>aR (Rr Γ v3 r_)) (λi3 y h=>Ae q [1,3,5,6,22] HZ (gC h (λh=>tV q VX HX h λh=>tC h λc5_ h=>tU q [1,3,5,6,7,52] HX (ci c5_ (mF (bR x2 i3) (Za ((bR x2 i3)&&(((gQ v3 i3)==1)==false)) (cu (gI (bR x2 i3)) (show((bR x2 i3)=true->(((gQ v3 i3)==1)=false->((bR x2 i3)&&(((gQ v3 i3)==1)==false))=true)) from(λhg=>(aF hg))) (gI (bR x2 i3)) (Za (zK x2 i3 v3) (c3 (gI (bR x2 i3)) (show((bR x2 i3)=true->((bif ((gQ v3 i3)==1) then true else((gQ v3 i3)==3))=true->(zK x2 i3 v3)=true)) from(λhg=>(aT hg))) (Ld (!(x2.getD i3.toNat false))))))))) (gC h (λh=>Ae q [2] [] (tS h (gO (Lj (Ht [] (Le.refl _ _)))))) λh=>Ae q jb HX (tL q h jb HX (λu i6=>(Cs u [(8,(Ax i6))] [])) (λu x_=>match x_ with|(.inl _)=>aG Γ (.exit 2) (Oz KI HZ u [] [])|(.inr r_)=>aR (Rr Γ v3 r_)) (λi6 y h=>Ae q [1,3,5,6,7,8,57] HX (gC h (λh=>tC h λc7_ h=>tC h λc8_ h=>tB h λx9 y9 h=>tC h λc10_ h=>tC h λc11_ h=>tT q [1,3,5,6,7,8,88] HX [(Z8 x9)] (cu c7_ c8_ (M5 y9) (Za ((!x9)==false) (ci c10_ (gI6 ((!x9)==false) (ci c11_ (mF ((!x9)==false) (c1 (Ld (!x9))))))))) (gC h (λh=>Ae q [2] [] (tS h (gO (Lj (Ht [] (Le.refl _ _)))))) λh=>Ae q jb HX (tN h))) λh=>tS h (gO (Bd (Bk KI HZ q))))) λx12 h=>(match x12,h with | .inl _,h=>gA (Ae q KI HZ (tN h)) | .inr r14,h=>Pz (λst' hk=>tS h (gO (Lj hk))))))) λh=>tS h (gO (Bd (Bk [] [] q))))) λx15 h=>(match x15,h with | .inl _,h=>gA (Ae q [2] [] (tS h (Bi []))) | .inr r17,h=>Pz (λst' hk=>tS h (gK hk))))))))
def su(aH:Int):=(bif (bif (aH==1) then true else(aH==8)) then true else(aH==16))
def C4(aH:Int):Option Bool:=
 (some (bif (bif (bif (bif (aH==1) then true else(aH==8)) then true else(aH==16)) then true else(aH==32)) then true else(aH==64)))
theorem Er(h:C4 v4=some v5):sP 38 [(Ax v4)] [] (.bool v5) []:=
 sG Tryz.func38 λΓ q=>Ae q [0] [] (tU q [2] [] (c8 (gI ((v4==1)==false)) (Ld (v4==1)) (gI ((bif (v4==1) then true else(v4==8))==false)) (Ld (bif (v4==1) then true else(v4==8))) (gI ((su v4)==false)) (Ld (su v4)) (gI ((bif (su v4) then true else(v4==32))==false)) (Ld (bif (su v4) then true else(v4==32)))) (tS h (Bi [])))
def nh(aU:Int):=(bif (aU==2) then true else(aU==4))
def wz(aU:Int):=(bif (bif (nh aU) then true else(aU==8)) then true else(aU==16))
def zL(aU:Int)(aH:Int):=(bif (wz aU) then(decide ((1:Int)<aH)) else false)
def J2(aH:Int)(aU:Int):Option Bool:=
 ((C4 aH).bind λx1=>(bif (!x1) then(some false) else(bif (aU==1) then(some true) else(some (bif (bif (bif (bif (bif (aU==2) then true else(aU==4)) then true else(aU==8)) then true else(aU==16)) then(decide ((1:Int)<aH)) else false) then(decide (((w64 (aH*aU)):Int)<=128)) else false)))))
theorem Yn(h:J2 v4 v13=some v5):sP 67 [(Ax v4),(Ax v13)] [] (.bool v5) []:=
 sG Tryz.func67 λΓ q=>Ae q E6 [] (tB h λx1 y1 h=>tT q [0,1,7] [] [(Z8 x1)] (c1 (Er y1)) (gC h (λh=>Ae q [4] [] (tS h (Bi []))) λh=>Ae q [0,1,9] [] (gC h (λh=>Ae q [4] [] (tS h (Bi []))) λh=>tU q [4] [] (d8_ (gI ((v13==2)==false)) (Ld (v13==2)) (gI ((nh v13)==false)) (Ld (nh v13)) (gI ((bif (nh v13) then true else(v13==8))==false)) (Ld (bif (nh v13) then true else(v13==8))) (gI ((wz v13)==true)) (L0 (wz v13)) (Za ((zL v13 v4)==true) (c1 (L0 (zL v13 v4))))) (tS h (Bi [])))))
def w4(a0:C5):List Uc:=[(Z90 a0.Kind a0.Bits a0.Lanes a0.Dst a0.Args a0.Imm)]
def Kr(a0:C5):Option Int:=
 (bif (a0.Kind==0) then(some (0:Int)) else(Option.bind (α:=Bool) (bif (a0.Kind==1) then(some (a0.Kind==1)) else(bif (a0.Kind==2) then(some (a0.Kind==2)) else(bif (a0.Kind==3) then(some (a0.Kind==3)) else(bif (a0.Kind==4) then(some (a0.Kind==4)) else(bif (a0.Kind==5) then(some (a0.Kind==5)) else(bif (a0.Kind==6) then(some (a0.Kind==6)) else(bif (a0.Kind==7) then(some (a0.Kind==7)) else(bif (a0.Kind==8) then(some (a0.Kind==8)) else(bif (a0.Kind==9) then(some (a0.Kind==9)) else(bif (a0.Kind==10) then(some (a0.Kind==10)) else(bif (a0.Kind==11) then(some (a0.Kind==11)) else(bif (a0.Kind==12) then(some (a0.Kind==12)) else(some (a0.Kind==17)))))))))))))) (λx2=>(bif x2 then(some (2:Int)) else(Option.bind (α:=Bool) (bif (a0.Kind==13) then(some (a0.Kind==13)) else(bif (a0.Kind==18) then(some (a0.Kind==18)) else(some (a0.Kind==19)))) (λx5=>(bif x5 then(some (3:Int)) else(Option.bind (α:=Bool) (bif (a0.Kind==14) then(some (a0.Kind==14)) else(bif (a0.Kind==15) then(some (a0.Kind==15)) else(bif (a0.Kind==16) then(some (a0.Kind==16)) else(some (a0.Kind==22))))) (λx8=>(bif x8 then(some (1:Int)) else(bif (a0.Kind==20) then(some (4:Int)) else(bif (a0.Kind==21) then(some a0.Lanes) else(some (-1:Int))))))))))))))
theorem BB(h:Kr v8=some v4):sP 68 [(IH v8)] [] (.int .i64 v4) []:=
 sG Tryz.func68 λΓ q=>tW q [1] [1] Rz [1] (Ae q [1,4,5] [1] (gC h (λh=>Ae q [2] [] (tS h (Bi []))) λh=>tB h λx2 y2 h=>gJ y2 (λb1=>aG Γ .normal (⟨[FW,(4,(Ax v8.Kind)),(7,(.bool b1))],(w4 v8),[]⟩:St)) (λy h=>Ae q Xo [1] (gC h (λh=>tS h (gK (Bd Jh))) λh=>Ae q Xo [1] (gC h (λh=>tS h (gK (Bd Jh))) λh=>Ae q Xo [1] (gC h (λh=>tS h (gK (Bd Jh))) λh=>Ae q Xo [1] (gC h (λh=>tS h (gK (Bd Jh))) λh=>Ae q Xo [1] (gC h (λh=>tS h (gK (Bd Jh))) λh=>Ae q Xo [1] (gC h (λh=>tS h (gK (Bd Jh))) λh=>Ae q Xo [1] (gC h (λh=>tS h (gK (Bd Jh))) λh=>Ae q Xo [1] (gC h (λh=>tS h (gK (Bd Jh))) λh=>Ae q Xo [1] (gC h (λh=>tS h (gK (Bd Jh))) λh=>Ae q Xo [1] (gC h (λh=>tS h (gK (Bd Jh))) λh=>Ae q Xo [1] (gC h (λh=>tS h (gK (Bd Jh))) λh=>Ae q Xo [1] (gC h (λh=>tS h (gK (Bd Jh))) λh=>Ae q Xo [1] (tS h (gK (Bd Jh)))))))))))))))) (gA (gC h (λh=>Ae q [2] [] (tS h (Bi []))) λh=>tB h λx5 y5 h=>gJ y5 (λb4=>aG Γ .normal (⟨[FW,(4,(Ax v8.Kind)),(21,(.bool b4))],(w4 v8),[]⟩:St)) (λy h=>Ae q [1,4,21] [1] (gC h (λh=>tS h (gK (Bd Jh))) λh=>Ae q [1,4,21] [1] (gC h (λh=>tS h (gK (Bd Jh))) λh=>Ae q [1,4,21] [1] (tS h (gK (Bd Jh)))))) (gA (gC h (λh=>Ae q [2] [] (tS h (Bi []))) λh=>tB h λx8 y8 h=>gJ y8 (λb7=>aG Γ .normal (⟨[FW,(4,(Ax v8.Kind)),(25,(.bool b7))],(w4 v8),[]⟩:St)) (λy h=>Ae q [1,4,25] [1] (gC h (λh=>tS h (gK (Bd Jh))) λh=>Ae q [1,4,25] [1] (gC h (λh=>tS h (gK (Bd Jh))) λh=>Ae q [1,4,25] [1] (gC h (λh=>tS h (gK (Bd Jh))) λh=>Ae q [1,4,25] [1] (tS h (gK (Bd Jh))))))) (gA (gC h (λh=>Ae q [2] [] (tS h (Bi []))) λh=>Ae q [1,4,30] [1] (gC h (λh=>Ae q [2] [] (tS h (Bi []))) λh=>Ae q [1,32] [1] (gC h (λh=>Ae q [2] [] (tS h (Bi []))) λh=>Ae q [2] [] (tS h (Bi []))))))))))))
def Ln(aK:Int)(aH:Int):Option Int:=
 ((C4 aH).bind λx1=>(bif (!x1) then(some (0:Int)) else(bif (aH==64) then(some aK) else(Aw (0<=(Et aH)) (Aw ((Tm .u64 (1:Int) (Et aH))≠0) (some (Int.tmod aK (Tm .u64 (1:Int) (Et aH)))))))))
theorem DF(h:Ln v4 v13=some v21):sP 86 [(Qh v4),(Ax v13)] [] (.int .u64 v21) []:=
 sG Tryz.func86 λΓ q=>Ae q E6 [] (tB h λx1 y1 h=>tT q [0,1,7] [] [(Z8 x1)] (c1 (Er y1)) (gC h (λh=>Ae q [4] [] (tS h (Bi []))) λh=>Ae q [0,1,9] [] (gC h (λh=>Ae q [4] [] (tS h (Bi []))) λh=>tC h λc2_ h=>tC h λc3_ h=>tU q [4] [] (c2 c2_ c3_) (tS h (Bi [])))))
def BS(Γ:Il)(a0:C5)(r:Bool):Exit->St->Prop:=fK Tryz.prog Γ Tryz.f69.results.toList [] (.bool r) []
def zM(a0:C5):=(a0.Kind==15)
def nk(a0:C5):=((a0.Kind==4)==false)
def w6(a0:C5):=(decide (a0.Imm<(Et a0.Bits)))
def w8(a0:C5):=(bif (a0.Kind==4) then true else(bif (decide ((10:Int)<=a0.Kind)) then(decide (a0.Kind<=12)) else false))
def sv(a0:C5):=(bif (w8 a0) then true else(a0.Kind==14))
def np(a0:C5):=((bif (sv a0) then true else(zM a0))==false)
def w7(a0:C5):=(bif (decide ((16:Int)<=a0.Kind)) then(decide (a0.Kind<=19)) else false)
def nj(a0:C5):=(bif (w7 a0) then(decide (a0.Bits<8)) else false)
def zN(a0:C5):=(((nj a0)==false)&&((decide ((21:Int)<=a0.Kind))==true))
def w5(a0:C5):=(bif (decide (((Et a0.Bits):Int)<a0.Imm)) then(decide (a0.Imm<=64)) else false)
def Ga(a0:C5):Option Bool:=
 (Option.bind (α:=(Unit ⊕ Bool)) (bif (bif (bif (bif (bif (a0.Kind==4) then true else(bif (decide ((10:Int)<=a0.Kind)) then(decide (a0.Kind<=12)) else false)) then true else(a0.Kind==14)) then true else(a0.Kind==15)) then true else(bif (decide ((18:Int)<=a0.Kind)) then(decide (a0.Kind<=20)) else false)) then(bif (a0.Lanes !=1) then(some (.inr false)) else(some (.inl ()))) else(some (.inl ()))) (λx1=>(match x1 with|(.inl _)=>(bif (bif (bif (bif (decide ((16:Int)<=a0.Kind)) then(decide (a0.Kind<=19)) else false) then(decide (a0.Bits<8)) else false) then true else(bif (decide ((21:Int)<=a0.Kind)) then(decide (a0.Lanes<2)) else false)) then(some false) else(bif (a0.Kind==0) then((Ln a0.Imm a0.Bits).bind λx3=>(some (x3==a0.Imm))) else(bif (a0.Kind==14) then((bif ((decide (a0.Imm<(Et a0.Bits)))==true) then C4 (w64 a0.Imm) else some false).bind λx4=>(some (bif (decide (a0.Imm<(Et a0.Bits))) then x4 else false))) else(bif (a0.Kind==15) then((bif ((bif (decide (((Et a0.Bits):Int)<a0.Imm)) then(decide (a0.Imm<=64)) else false)==true) then C4 (w64 a0.Imm) else some false).bind λx5=>(some (bif (bif (decide (((Et a0.Bits):Int)<a0.Imm)) then(decide (a0.Imm<=64)) else false) then x5 else false))) else(bif (a0.Kind==22) then(some (decide (a0.Imm<(Et a0.Lanes)))) else(some (a0.Imm==0)))))))|(.inr r6)=>(some r6))))
theorem BC(h:Ga v8=some v5):sP 69 [(IH v8)] [] (.bool v5) []:=
 sG Tryz.func69 λΓ q=>tW q [1] [1] Mz [1] (tB h λx1 y1 h=>gJ y1 (λx_=>match x_ with|(.inl _)=>aG Γ .normal (⟨[FW,(3,(Ax v8.Kind))],[(Z90 v8.Kind v8.Bits v8.Lanes v8.Dst v8.Args v8.Imm)],[]⟩:St)|(.inr r_)=>aR (BS Γ v8 r_)) (λy h=>tU q [1,3,31] [1] (Lz (nk v8) (d8_ (gI ((nk v8)&&((decide ((10:Int)<=v8.Kind))==true))) (gI (nk v8)) (show((nk v8)=true->((decide ((10:Int)<=v8.Kind))=true->((nk v8)&&((decide ((10:Int)<=v8.Kind))==true))=true)) from(λhg=>(aT hg))) (Ld (v8.Kind==4)) (gI ((w8 v8)==false)) (Ld (w8 v8)) (gI ((sv v8)==false)) (Ld (sv v8)) (Lz (np v8) (c4 (gI ((np v8)&&((decide ((18:Int)<=v8.Kind))==true))) (gI (np v8)) (show((np v8)=true->((decide ((18:Int)<=v8.Kind))=true->((np v8)&&((decide ((18:Int)<=v8.Kind))==true))=true)) from(λhg=>(aT hg))) (Ld (bif (sv v8) then true else(zM v8))))))) (gC h (λh=>Ae q [1,3,34] [1] (gC h (λh=>Ae q [2] [] (tS h (gK (Lj (Ht [] (Le.refl _ _)))))) λh=>tS h (gK (Bd (Bk Mz [1] q))))) λh=>tS h (gK (Bd (Bk Mz [1] q))))) (match x1,h with | .inl _,h=>gA (tU q [1,3,54] [1] (SB (gI ((decide ((16:Int)<=v8.Kind))==true)) (L0 (decide ((16:Int)<=v8.Kind))) (Lz ((w7 v8)==true) (ci (L0 (w7 v8)) (Lz ((nj v8)==false) (Lz (zN v8) (c3 (gI ((nj v8)==false)) (show(((nj v8)==false)=true->((decide ((21:Int)<=v8.Kind))=true->(zN v8)=true)) from(λhg=>(aT hg))) (Ld (nj v8)))))))) (gC h (λh=>Ae q [2] [] (tS h (Bi []))) λh=>tW q [1,55] [1] [1,55,56] [1] (gC h (λh=>tB h λx3 y3 h=>tT q [2] [] [(WZ x3)] (c1 (DF y3)) (tS h (Bi []))) λh=>Ae q [1,55,66] [1] (gC h (λh=>tB h λx4 y4 h=>tT q [2] [] [(Z8 x4)] (Za ((w6 v8)==true) (c2 (λ(hg:((w6 v8)==true)=true)=>(Er (B0 hg y4))) (L0 (w6 v8)))) (tS h (Bi []))) λh=>Ae q [1,55,80] [1] (gC h (λh=>tB h λx5 y5 h=>tT q [2] [] [(Z8 x5)] (Lz ((decide (((Et v8.Bits):Int)<v8.Imm))==true) (ci (L0 (decide (((Et v8.Bits):Int)<v8.Imm))) (Za ((w5 v8)==true) (c2 (λ(hg:((w5 v8)==true)=true)=>(Er (B0 hg y5))) (L0 (w5 v8)))))) (tS h (Bi []))) λh=>Ae q [1,99] [1] (gC h (λh=>Ae q [2] [] (tS h (Bi []))) λh=>Ae q [2] [] (tS h (Bi [])))))))) | .inr r6,h=>Pz (λst' hk=>tS h (gK hk))))
def Ff(aK:Int):Option Bool:=
 (some (bif (decide ((0:Int)<aK)) then(decide (aK<1024)) else false))
theorem Ml(h:Ff v4=some v5):sP 19 [(Ax v4)] [] (.bool v5) []:=
 sG Tryz.func19 λΓ q=>Ae q [0] [] (tU q [2] [] (c2 (gI ((decide ((0:Int)<v4))==true)) (L0 (decide ((0:Int)<v4)))) (tS h (Bi [])))
def G0(a0:C5):Int->Option (LR Int (Unit ⊕ Bool)):=
 λ(i4:Int)=>(bif (decide (i4<(a0.Args.length:Int))) then(Aw (A0 i4 a0.Args.length) ((Ff (a0.Args.getD i4.toNat 0)).bind λx6=>(bif (!x6) then(some (.done (.inr false))) else(some (.next (w64 (i4+1))))))) else(some (.done (.inl ()))))
def FM(Γ:Il)(a0:C5)(r:Bool):Exit->St->Prop:=fK Tryz.prog Γ Tryz.f39.results.toList [] (.bool r) []
def sx(x1:Bool)(x2:Int)(a0:C5):=(bif (!x1) then true else(x2 !=(a0.Args.length:Int)))
def G8(a0:C5):Option Bool:=
 ((J2 a0.Bits a0.Lanes).bind λx1=>((bif ((!x1)==false) then Kr a0 else some (0:Int)).bind λx2=>((bif ((bif (!x1) then true else(x2 !=(a0.Args.length:Int)))==false) then Ga a0 else some false).bind λx3=>(bif (bif (bif (!x1) then true else(x2 !=(a0.Args.length:Int))) then true else(!x3)) then(some false) else((Ac (G0 a0) (0:Int)).bind (λx7=>(match x7 with|(.inl _)=>(bif (bif (a0.Kind==17) then true else(a0.Kind==19)) then(some (a0.Dst==0)) else((Ff a0.Dst).bind λx9=>(some x9)))|(.inr r10)=>(some r10))))))))
theorem Nz(h:G8 v8=some v5):sP 39 [(IH v8)] [] (.bool v5) []:=
 sG Tryz.func39 λΓ q=>Ae q [1] [1] (tB h λx1 y1 h=>tB h λx2 y2 h=>tB h λx3 y3 h=>tT q [1,22] [1] [(Z8 x1),(XA x2),(Z8 x3)] (cu (Yn y1) (gI ((!x1)==false)) (λ(hg:((!x1)==false)=true)=>(BB (B0 hg y2))) (mF ((!x1)==false) (c5 (Ld (!x1)) (gI ((sx x1 x2 v8)==false)) (λ(hg:((sx x1 x2 v8)==false)=true)=>(BC (B0 hg y3))) (gI ((sx x1 x2 v8)==false)) (Ld (sx x1 x2 v8))))) (gC h (λh=>Ae q [2] [] (tS h (Bi []))) λh=>Ae q Mz [1] (tL q h Mz [1] (λu i4=>(Cs u [(3,(Ax i4))] [])) (λu x_=>match x_ with|(.inl _)=>aG Γ (.exit 0) (Oz [1] [1] u [] [])|(.inr r_)=>aR (FM Γ v8 r_)) (λi4 y h=>Ae q [1,3,27] [1] (gC h (λh=>tC h λc5_ h=>tB h λx6 y6 h=>tT q [1,3,36] [1] [(Z8 x6)] (c2 c5_ (Ml y6)) (gC h (λh=>Ae q [2] [] (tS h (gO (Lj (Ht [] (Le.refl _ _)))))) λh=>Ae q Mz [1] (tN h))) λh=>tS h (gO (Bd (Bk [1] [1] q))))) λx7 h=>(match x7,h with | .inl _,h=>gA (tU q [1,44] [1] (Lz ((v8.Kind==17)==false) (c1 (Ld (v8.Kind==17)))) (gC h (λh=>Ae q [2] [] (tS h (Bi []))) λh=>tB h λx9 y9 h=>tT q [2] [] [(Z8 x9)] (c1 (Ml y9)) (tS h (Bi [])))) | .inr r10,h=>Pz (λst' hk=>tS h (gK hk))))))
open Go Go.RowKit
set_option maxRecDepth 100000
set_option maxHeartbeats 2000000
def Fn(a1:TFunc):Int->Option (LR Int (Unit ⊕ Bool)):=
 λ(i1:Int)=>(bif (decide (i1<(a1.Params.length:Int))) then(Aw (A0 i1 a1.Params.length) ((C4 (a1.Params.getD i1.toNat 0)).bind λx3=>(bif (!x3) then(some (.done (.inr false))) else(some (.next (w64 (i1+1))))))) else(some (.done (.inl ()))))
def Dy(a1:TFunc)(i6:Int):Int->Option (LR Int (Unit ⊕ Bool)):=
 λ(i7:Int)=>(Aw (A0 i6 a1.Blocks.length) (bif (decide (i7<(((a1.Blocks.getD i6.toNat default).Phis).length:Int))) then(Aw (A0 i6 a1.Blocks.length) (Aw (A0 i7 ((a1.Blocks.getD i6.toNat default).Phis).length) ((C4 ((((a1.Blocks.getD i6.toNat default).Phis).getD i7.toNat default).Bits)).bind λx11=>(bif (!x11) then(some (.done (.inr false))) else(some (.next (w64 (i7+1)))))))) else(some (.done (.inl ())))))
def Dz(a1:TFunc)(a8:Int)(i6:Int):Int->Option (LR Int (Unit ⊕ Bool)):=
 λ(i14:Int)=>(Aw (A0 i6 a1.Blocks.length) (bif (decide (i14<(((a1.Blocks.getD i6.toNat default).Ops).length:Int))) then(Aw (A0 i6 a1.Blocks.length) (Aw (A0 i14 ((a1.Blocks.getD i6.toNat default).Ops).length) (Option.bind (α:=Int) (bif (a8==1) then(some (20:Int)) else(some (22:Int))) (λx19=>(Option.bind (α:=Int) (bif (a8==0) then(some (17:Int)) else(some x19)) (λx22=>((G8 (((a1.Blocks.getD i6.toNat default).Ops).getD i14.toNat default)).bind λx24=>(bif (bif (bif (!x24) then true else(decide (x22<(((a1.Blocks.getD i6.toNat default).Ops).getD i14.toNat default).Kind))) then true else(bif (decide (a8<2)) then(decide ((1:Int)<(((a1.Blocks.getD i6.toNat default).Ops).getD i14.toNat default).Lanes)) else false)) then(some (.done (.inr false))) else(some (.next (w64 (i14+1)))))))))))) else(some (.done (.inl ())))))
def Fo(a1:TFunc)(a8:Int):Int->Option (LR Int (Unit ⊕ Bool)):=
 λ(i6:Int)=>(bif (decide (i6<(a1.Blocks.length:Int))) then((Ac (Dy a1 i6) (0:Int)).bind (λx12=>(match x12 with|(.inl _)=>((Ac (Dz a1 a8 i6) (0:Int)).bind (λx25=>(match x25 with|(.inl _)=>(some (.next (w64 (i6+1))))|(.inr r27)=>(some (.done (.inr r27))))))|(.inr r28)=>(some (.done (.inr r28)))))) else(some (.done (.inl ()))))
def Ju(Γ:Il)(a1:TFunc)(a8:Int)(r:Bool):Exit->St->Prop:=fK Tryz.prog Γ Tryz.f17.results.toList [] (.bool r) []
def gV(a1:TFunc)(i6:Int)(i14:Int):=(((a1.Blocks.getD i6.toNat default).Ops).getD i14.toNat default)
def lO(x24:Bool)(x22:Int)(a1:TFunc)(i6:Int)(i14:Int):=(bif (!x24) then true else(decide (x22<(gV a1 i6 i14).Kind)))
def Abx(a1:TFunc):List AV:=[(Rp a1.Params),(Ax a1.Ret),(YL a1.Blocks)]
def zO(a1:TFunc)(i6:Int)(i14:Int):List Uc:=[(Oi 25 (Abx a1)),(9,.row 51 [(.int .i64 (gV a1 i6 i14).Kind),(.int .i64 (gV a1 i6 i14).Bits),(.int .i64 (gV a1 i6 i14).Lanes),(.int .i64 (gV a1 i6 i14).Dst),(AV.list 1 Ay 0 (gV a1 i6 i14).Args .none),(.int .u64 (gV a1 i6 i14).Imm)])]
def J6(a1:TFunc)(a8:Int):Option Bool:=
 ((Ac (Fn a1) (0:Int)).bind (λx4=>(match x4 with|(.inl _)=>((Ac (Fo a1 a8) (0:Int)).bind (λx29=>(match x29 with|(.inl _)=>((C4 a1.Ret).bind λx31=>(some x31))|(.inr r32)=>(some r32))))|(.inr r33)=>(some r33))))
theorem Yu(h:J6 v3 v4=some v5):sP 17 [(XC v3),(Ax v4)] [] (.bool v5) []:=
 sG Tryz.func17 λΓ q=>tW q Pe [2] Wl [2] (tL q h Wl [2] (λu i1=>(Cs u [(5,(Ax i1))] [])) (λu x_=>match x_ with|(.inl _)=>aG Γ (.exit 0) (Oz Pe [2] u [] [])|(.inr r_)=>aR (Ju Γ v3 v4 r_)) (λi1 y h=>Ae q [1,2,5,15] [2] (gC h (λh=>tC h λc2_ h=>tB h λx3 y3 h=>tT q [1,2,5,24] [2] [(Z8 x3)] (c2 c2_ (Er y3)) (gC h (λh=>Ae q [4] [] (tS h (gO (Lj (Ht [] (Le.refl _ _)))))) λh=>Ae q Wl [2] (tN h))) λh=>tS h (gO (Bd (Bk Pe [2] q))))) λx4 h=>(match x4,h with | .inl _,h=>gA (Ae q IA [2] (tL q h IA [2] (λu i6=>(Cs u [(6,(Ax i6))] [])) (λu x_=>match x_ with|(.inl _)=>aG Γ (.exit 2) (Oz [2] [2] u [] [])|(.inr r_)=>aR (Ju Γ v3 v4 r_)) (λi6 y h=>Ae q [1,2,6,29] [2] (gC h (λh=>Ae q [1,2,6,7] [2] (tL q h [1,2,6,7] [2] (λu i7=>(Cs u [(7,(Ax i7))] [])) (λu x_=>match x_ with|(.inl _)=>aG Γ (.exit 4) (Oz IA [2] u [] [])|(.inr r_)=>aR (Ju Γ v3 v4 r_)) (λi7 y h=>tV q [1,2,6,7,40] [2] h λh=>gC h (λh=>tC h λc9_ h=>tC h λc10_ h=>tB h λx11 y11 h=>tT q [1,2,6,7,54] [2] [(Z8 x11)] (c3 c9_ c10_ (Er y11)) (gC h (λh=>Ae q [4] [] (tS h (gO (Lj (Ht [] (Le.refl _ _)))))) λh=>Ae q [1,2,6,7] [2] (tN h))) λh=>tS h (gO (Bd (Bk IA [2] q)))) λx12 h=>(match x12,h with | .inl _,h=>gA (Ae q [1,2,6,8] [2] (tL q h [1,2,6,8] [2] (λu i14=>(Cs u [(8,(Ax i14))] [])) (λu x_=>match x_ with|(.inl _)=>aG Γ (.exit 6) (Oz IA [2] u [] [])|(.inr r_)=>aR (Ju Γ v3 v4 r_)) (λi14 y h=>tV q [1,2,6,8,63] [2] h λh=>gC h (λh=>tC h λc16_ h=>tC h λc17_ h=>tU q [1,2,6,8,9] [2,9] (c2 c16_ c17_) (Ae q VM [2,9] (tB h λx19 y19 h=>gJ y19 (λi18=>aG Γ .normal (⟨[(1,(Ax v4)),Tz,(6,(Ax i6)),(8,(Ax i14)),(9,(.ptr 9 0)),(C6 10 i18)],(zO v3 i6 i14),[]⟩:St)) (λy h=>Ae q [1,2,6,8,9,10,76] [2,9] (gC h (λh=>Ae q VM [2,9] (tS h (gK (Bd Jh)))) λh=>tS h (gK (Bd (Bk VM [2,9] q))))) (gA (tB h λx22 y22 h=>gJ y22 (λi21=>aG Γ .normal (⟨[(1,(Ax v4)),Tz,(6,(Ax i6)),(8,(Ax i14)),(9,(.ptr 9 0)),(C6 10 i21)],(zO v3 i6 i14),[]⟩:St)) (λy h=>Ae q [1,2,6,8,9,10,78] [2,9] (gC h (λh=>Ae q VM [2,9] (tS h (gK (Bd Jh)))) λh=>tS h (gK (Bd (Bk VM [2,9] q))))) (gA (tB h λx24 y24 h=>tT q [1,2,6,8,96] [2] [(Z8 x24)] (ci (Nz y24) (Za ((!x24)==false) (ci (Ld (!x24)) (Lz ((lO x24 x22 v3 i6 i14)==false) (Lz (((lO x24 x22 v3 i6 i14)==false)&&((decide (v4<2))==true)) (c3 (gI ((lO x24 x22 v3 i6 i14)==false)) (show(((lO x24 x22 v3 i6 i14)==false)=true->((decide (v4<2))=true->(((lO x24 x22 v3 i6 i14)==false)&&((decide (v4<2))==true))=true)) from(λhg=>(aT hg))) (Ld (lO x24 x22 v3 i6 i14)))))))) (gC h (λh=>Ae q [4] [] (tS h (gO (Lj (Ht [] (Le.refl _ _)))))) λh=>Ae q [1,2,6,8] [2] (tN h))))))))) λh=>tS h (gO (Bd (Bk IA [2] q)))) λx25 h=>(match x25,h with | .inl _,h=>gA (Ae q IA [2] (tN h)) | .inr r27,h=>Pz (λst' hk=>tS h (gO (Lj hk)))))) | .inr r28,h=>Pz (λst' hk=>tS h (gO (Lj hk)))))) λh=>tS h (gO (Bd (Bk [2] [2] q))))) λx29 h=>(match x29,h with | .inl _,h=>gA (tB h λx31 y31 h=>tT q [4] [] [(Z8 x31)] (c1 (Er y31)) (tS h (Bi []))) | .inr r32,h=>Pz (λst' hk=>tS h (gK hk))))) | .inr r33,h=>Pz (λst' hk=>tS h (gK hk))))
def Hk(a0:C5):Option Hr:=
 ((G8 a0).bind λx1=>(bif (bif (bif (!x1) then true else(a0.Kind==17)) then true else(a0.Kind==19)) then(some ((0:Int),(0:Int))) else(bif (bif (decide ((10:Int)<=a0.Kind)) then(decide (a0.Kind<=12)) else false) then(some ((1:Int),(1:Int))) else(bif (a0.Kind==22) then(some (a0.Bits,(1:Int))) else(some (a0.Bits,a0.Lanes))))))
theorem Ym(h:Hk v8=some v20):sP 40 [(IH v8)] [] (.tuple [(Ax v20.1),(Ax v20.2)]) []:=
 sG Tryz.func40 λΓ q=>Ae q [1] [1] (tB h λx1 y1 h=>tT q [1,16] [1] [(Z8 x1)] (ci (Nz y1) (Lz ((!x1)==false) (ci (Ld (!x1)) (Lz ((bif (!x1) then true else(v8.Kind==17))==false) (c1 (Ld (bif (!x1) then true else(v8.Kind==17)))))))) (gC h (λh=>Ae q B7 [] (tS h (Bi []))) λh=>tU q [1,24] [1] (Lz ((decide ((10:Int)<=v8.Kind))==true) (c1 (L0 (decide ((10:Int)<=v8.Kind))))) (gC h (λh=>Ae q B7 [] (tS h (Bi []))) λh=>Ae q [1,27] [1] (gC h (λh=>Ae q B7 [] (tS h (Bi []))) λh=>Ae q B7 [] (tS h (Bi []))))))
abbrev fk:=(List Cb×Int)
abbrev vl:=(LR (List Cb×Int) (List Cb))
def Iy(a1:TFunc):fk->Option vl:=
 λ((l1,i2):fk)=>(bif (decide (i2<(a1.Params.length:Int))) then(Aw (A0 i2 a1.Params.length) (Aw (l1.length+([(⟨(w64 (i2+1)),(-1:Int),(0:Int),((a1.Params.getD i2.toNat 0),(1:Int))⟩:Cb)]:List Cb).length<=room) (some (.next ((l1++([(⟨(w64 (i2+1)),(-1:Int),(0:Int),((a1.Params.getD i2.toNat 0),(1:Int))⟩:Cb)]:List Cb)),(w64 (i2+1))))))) else(some (.done l1)))
def Ge(a1:TFunc)(i9:Int):fk->Option vl:=
 λ((l12,i13):fk)=>(bif (decide (i13<(((a1.Blocks.getD i9.toNat default).Phis).length:Int))) then(Aw (A0 i13 ((a1.Blocks.getD i9.toNat default).Phis).length) (Aw (A0 i13 ((a1.Blocks.getD i9.toNat default).Phis).length) (Aw (l12.length+([(⟨(((a1.Blocks.getD i9.toNat default).Phis).getD i13.toNat default).Dst,i9,(-1:Int),((((a1.Blocks.getD i9.toNat default).Phis).getD i13.toNat default).Bits,(1:Int))⟩:Cb)]:List Cb).length<=room) (some (.next ((l12++([(⟨(((a1.Blocks.getD i9.toNat default).Phis).getD i13.toNat default).Dst,i9,(-1:Int),((((a1.Blocks.getD i9.toNat default).Phis).getD i13.toNat default).Bits,(1:Int))⟩:Cb)]:List Cb)),(w64 (i13+1)))))))) else(some (.done l12)))
def Gf(a1:TFunc)(i9:Int):fk->Option vl:=
 λ((l20,i21):fk)=>(bif (decide (i21<(((a1.Blocks.getD i9.toNat default).Ops).length:Int))) then(Option.bind (α:=List Cb) (Aw (A0 i21 ((a1.Blocks.getD i9.toNat default).Ops).length) ((Hk (((a1.Blocks.getD i9.toNat default).Ops).getD i21.toNat default)).bind λx25=>(bif (decide ((0:Int)<x25.1)) then(Aw (A0 i21 ((a1.Blocks.getD i9.toNat default).Ops).length) (Aw (l20.length+([(⟨(((a1.Blocks.getD i9.toNat default).Ops).getD i21.toNat default).Dst,i9,i21,(x25.1,x25.2)⟩:Cb)]:List Cb).length<=room) (some (l20++([(⟨(((a1.Blocks.getD i9.toNat default).Ops).getD i21.toNat default).Dst,i9,i21,(x25.1,x25.2)⟩:Cb)]:List Cb))))) else(some l20)))) (λx28=>(some (.next (x28,(w64 (i21+1))))))) else(some (.done l20)))
def Iz(a1:TFunc):fk->Option vl:=
 λ((l8,i9):fk)=>(bif (decide (i9<(a1.Blocks.length:Int))) then(Aw (A0 i9 a1.Blocks.length) ((Ac (Ge a1 i9) (l8,(0:Int))).bind (λx18=>((Ac (Gf a1 i9) (x18,(0:Int))).bind (λx30=>(some (.next (x30,(w64 (i9+1)))))))))) else(some (.done l8)))
def dF(a1:TFunc)(i9:Int):=(a1.Blocks.getD i9.toNat default)
def w9(a1:TFunc):List AV:=[(Rp a1.Params),(Ax a1.Ret),(YL a1.Blocks)]
def s5(i2:Int)(a1:TFunc):=([(⟨(w64 (i2+1)),(-1:Int),(0:Int),((a1.Params.getD i2.toNat 0),(1:Int))⟩:Cb)]:List Cb)
def s4(a1:TFunc)(i9:Int)(i21:Int)(x25:Hr):=([(⟨(((dF a1 i9).Ops).getD i21.toNat default).Dst,i9,i21,(x25.1,x25.2)⟩:Cb)]:List Cb)
def zP(a1:TFunc):=(⟨[FW,(3,(AV.list 5 Py default ([]:List Cb) (.own 5003))),(4,Px)],[(1,.row 25 (w9 a1)),(5003,.tok 5 65 (([]:List Cb).length))],[]⟩:St)
def sy(a1:TFunc)(i9:Int)(i13:Int):=([(⟨(((dF a1 i9).Phis).getD i13.toNat default).Dst,i9,(-1:Int),((((dF a1 i9).Phis).getD i13.toNat default).Bits,(1:Int))⟩:Cb)]:List Cb)
def Kw(a1:TFunc):Option (List Cb):=
 ((Ac (Iy a1) (([]:List Cb),(0:Int))).bind (λx6=>((Ac (Iz a1) (x6,(0:Int))).bind (λx32=>(some x32)))))
variable{v51:List Cb}
theorem BH(h:Kw v3=some v51):sP 18 [(XC v3)] [] (AV.list 5 Py default v51 (.own 20000)) [(Ng 20000 65 v51.length)]:=
 sG Tryz.func18 λΓ q=>gR q [1] [1] [(2,(AV.list 5 Py default ([]:List Cb) .exact))] [] (c1 (Bh 5 Py (default:Cb))) (gR q Mz [1] [(3,(AV.list 5 Py default ([]:List Cb) .exact))] [] (c1 (Bh 5 Py (default:Cb))) (Ae q Fd [1] (M4 (st':=(zP v3)) (Le.trans (Bk (st':=⟨[FW,(3,(AV.list 5 Py default ([]:List Cb) .exact)),(4,Px)],[(1,.row 25 (w9 v3))],[]⟩) Fd [1] q) (Le.trans (Nl (t:=3) (nm:=5003) (sz':=5) (λi=>Py (([]:List Cb).getD i default)) 65 rfl rfl (.inl ⟨rfl,rfl⟩) (λh_=>absurd h_ (by decide))) (Bk (st':=(zP v3)) Fd Nf q))) (tL q h Fd Nf (λu (l1,i2)=>(Cs u [(tb l1),(4,(Ax i2))] [(Ng 5003 65 l1.length)])) (λu l3=>aG Γ (.exit 0) (Oz Mz Nf u [(tb l3)] [(Ng 5003 65 l3.length)])) (λ⟨l1,i2⟩ y h=>Ae q [1,3,4,15] Nf (gC h (λh=>tC h λc4_ h=>tC h λc5_ h=>gR q Fd Nf (Z82 28 (s5 i2 v3) 29 l1) [] (c6 c4_ (Ca 5 Py (default:Cb) (s5 i2 v3)) (Eq.refl l1.length) c5_ (Kh 5 5003 Py (default:Cb) l1 (s5 i2 v3)) (Ft l1 (s5 i2 v3))) (Ae q Fd Nf (tN h))) λh=>tS h (gO (Bd (Bk Mz Nf q))))) λx6 h=>gA (Ae q NF Nf (tL q h NF Nf (λu (l8,i9)=>(Cs u [(tb l8),(5,(Ax i9))] [(Ng 5003 65 l8.length)])) (λu l10=>aG Γ (.exit 2) (⟨[(tb l10)],[(Ng 5003 65 l10.length)],[]⟩:St)) (λ⟨l8,i9⟩ y h=>Ae q [1,3,5,34] Nf (gC h (λh=>tV q KI Ty h λh=>Ae q VX Ty (tL q h VX Ty (λu (l12,i13)=>(Cs u [(tb l12),(7,(Ax i13))] [(Ng 5003 65 l12.length)])) (λu l14=>aG Γ (.exit 4) (Oz KI Ty u [(tb l14)] [(Ng 5003 65 l14.length)])) (λ⟨l12,i13⟩ y h=>Ae q [1,3,5,6,7,46] Ty (gC h (λh=>tC h λc15_ h=>tC h λc16_ h=>tC h λc17_ h=>gR q VX Ty (Z82 65 (sy v3 i9 i13) 66 l12) [] (c7 c15_ c16_ (Ca 5 Py (default:Cb) (sy v3 i9 i13)) (Eq.refl l12.length) c17_ (Kh 5 5003 Py (default:Cb) l12 (sy v3 i9 i13)) (Ft l12 (sy v3 i9 i13))) (Ae q VX Ty (tN h))) λh=>tS h (gO (Bd (Bk KI Ty q))))) λx18 h=>gA (Ae q VY Ty (tL q h VY Ty (λu (l20,i21)=>(Cs u [(tb l20),(8,(Ax i21))] [(Ng 5003 65 l20.length)])) (λu l22=>aG Γ (.exit 6) (Oz NF Nf u [(tb l22)] [(Ng 5003 65 l22.length)])) (λ⟨l20,i21⟩ y h=>Ae q [1,3,5,6,8,71] Ty (gC h (λh=>tB h λx28 y28 h=>gJ y28 (λl23=>aG Γ .normal (⟨[FW,(tb l23),(5,(Ax i9)),(6,(.ptr 6 0)),(8,(Ax i21))],[(1,.row 25 (w9 v3)),(6,.row 57 [(AV.list 4 Wx default (dF v3 i9).Phis .none),(AV.list 6 PO default (dF v3 i9).Ops .none),(.int .i64 (dF v3 i9).End.Kind),(.int .i64 (dF v3 i9).End.Arg),(AV.list 1 Ay 0 (dF v3 i9).End.To .none)]),(Ng 5003 65 l23.length)],[]⟩:St)) (λy h=>tC h λc24_ h=>tB h λx25 y25 h=>tT q [1,3,5,6,8,9,10] Ty [(tY x25.1 x25.2)] (c2 c24_ (Ym y25)) (Ae q [1,3,5,6,8,9,10,84] Ty (gC h (λh=>tC h λc26_ h=>tC h λc27_ h=>gR q VY Ty (Z82 98 (s4 v3 i9 i21 x25) 99 l20) [] (c6 c26_ (Ca 5 Py (default:Cb) (s4 v3 i9 i21 x25)) (Eq.refl l20.length) c27_ (Kh 5 5003 Py (default:Cb) l20 (s4 v3 i9 i21 x25)) (Ft l20 (s4 v3 i9 i21 x25))) (tS h (gK (Bd Jh)))) λh=>tS h (gK (Bd (Bk VY Ty q)))))) (gA (Ae q VY Ty (tN h)))) λh=>tS h (gO (Bd (Bk NF Nf q))))) λx30 h=>gA (Ae q NF Nf (tN h)))))) λh=>tS h (gO (Bd (Bk [3] [5003] q))))) λx32 h=>gA (Ae q [2] [5003] (tS h (Bi jl)))))))))
def Gg(aZ:List Cb)(aK:Int):Int->Option (LR Int (Unit ⊕ Int)):=
 λ(i1:Int)=>(bif (decide (i1<(aZ.length:Int))) then(Aw (A0 i1 aZ.length) (bif (((aZ.getD i1.toNat default).V:Int)==aK) then(some (.done (.inr i1))) else(some (.next (w64 (i1+1)))))) else(some (.done (.inl ()))))
def BW(Γ:Il)(aZ:List Cb)(aK:Int)(r:Int):Exit->St->Prop:=fK Tryz.prog Γ Tryz.f20.results.toList [] (.int .i64 r) []
def Eo(aZ:List Cb)(aK:Int):Option Int:=
 ((Ac (Gg aZ aK) (0:Int)).bind (λx3=>(match x3 with|(.inl _)=>(some (-1:Int))|(.inr r5)=>(some r5))))
theorem J7(h:Eo v51 v4=some v13):sP 20 [(AV.list 5 Py default v51 .none),(Ax v4)] [] (.int .i64 v13) []:=
 sG Tryz.func20 λΓ q=>tW q E6 [] Qd [] (tL q h Qd [] (λu i1=>(Cs u [(5,(Ax i1))] [])) (λu x_=>match x_ with|(.inl _)=>aG Γ (.exit 0) (⟨[],[],[]⟩:St)|(.inr r_)=>aR (BW Γ v51 v4 r_)) (λi1 y h=>Ae q [0,1,5,9] [] (gC h (λh=>tV q [0,1,5,18] [] h λh=>gC h (λh=>Ae q [4] [] (tS h (gO (Lj (Ht [] (Le.refl _ _)))))) λh=>Ae q Qd [] (tN h)) λh=>tS h (gO (Bd (Bk [] [] q))))) λx3 h=>(match x3,h with | .inl _,h=>gA (Ae q [4] [] (tS h (Bi []))) | .inr r5,h=>Pz (λst' hk=>tS h (gK hk))))
abbrev Abq:=(List (Int×Int)×Int)
def H6(a0:C5):Abq->Option (LR (List (Int×Int)×Int) (List (Int×Int))):=
 λ((l2,i3):Abq)=>(bif (decide (i3<(a0.Args.length:Int))) then(Option.bind (α:=Hr) (Option.bind (α:=Bool) (bif (a0.Kind==13) then(some (a0.Kind==13)) else(some (a0.Kind==20))) (λx8=>(bif x8 then(bif (i3==0) then(some ((1:Int),(1:Int))) else(some (a0.Bits,a0.Lanes))) else(Option.bind (α:=Bool) (bif (a0.Kind==14) then(some (a0.Kind==14)) else(some (a0.Kind==15))) (λx11=>(bif x11 then(some ((w64 a0.Imm),(1:Int))) else(Option.bind (α:=Bool) (bif (a0.Kind==16) then(some (a0.Kind==16)) else(some (a0.Kind==17))) (λx14=>(bif x14 then(bif (i3==0) then(some ((64:Int),(1:Int))) else(some (a0.Bits,a0.Lanes))) else(Option.bind (α:=Bool) (bif (a0.Kind==18) then(some (a0.Kind==18)) else(some (a0.Kind==19))) (λx17=>(bif x17 then(Option.bind (α:=Hr) (bif (i3==0) then(some ((1:Int),(1:Int))) else(some (a0.Bits,a0.Lanes))) (λx21=>(match x21 with|(i19,i20)=>(bif (i3==1) then(some ((64:Int),(1:Int))) else(some (i19,i20)))))) else(bif (a0.Kind==21) then(some (a0.Bits,(1:Int))) else(some (a0.Bits,a0.Lanes))))))))))))))) (λx23=>(match x23 with|(i5,i6)=>(Aw (l2.length+([(i5,i6)]:List Hr).length<=room) (some (.next ((l2++([(i5,i6)]:List Hr)),(w64 (i3+1))))))))) else(some (.done l2)))
def Aby(a0:C5):List AV:=[(Ax a0.Bits),(Ax a0.Lanes)]
def gW(l2:List MJ):AV:=(xP l2 5003)
def lQ:AV:=Z61
def lP(a0:C5):List AV:=[(Ax a0.Kind),(Ax a0.Bits),(Ax a0.Lanes),(Ax a0.Dst),(Rp a0.Args),(Qh a0.Imm)]
def s6(a0:C5)(l2:List MJ):List Uc:=[(1,.row 51 (lP a0)),(5,.row 63 (Aby a0)),(5003,.tok 2 63 l2.length)]
def zQ:List YG:=[FW,(3,(AV.list 2 Bs ((0:Int),(0:Int)) ([]:List Hr) (.own 5003))),(4,Px)]
def Hl(a0:C5):Option rA:=
 ((G8 a0).bind λx1=>(bif (!x1) then(some ([]:List Hr)) else((Ac (H6 a0) (([]:List Hr),(0:Int))).bind (λx26=>(some x26)))))
variable{v22:List MJ}
theorem Yo(h:Hl v8=some v22):sP 41 [(IH v8)] [] (xP v22 20000) [(20000,.tok 2 63 v22.length)]:=
 sG Tryz.func41 λΓ q=>gR q [1] [1] [(2,lQ)] [] (c1 (Bh 2 Bs ((0:Int),(0:Int)))) (gR q Mz [1] [(3,lQ)] [] (c1 (Bh 2 Bs ((0:Int),(0:Int)))) (tB h λx1 y1 h=>tT q [1,3,8] [1] [(Z8 x1)] (c1 (Nz y1)) (gC h (λh=>gR q [2] [] [(2,lQ)] [] (c1 (Bh 2 Bs ((0:Int),(0:Int)))) (Ox (⟨[(2,lQ)],[],[]⟩:St) (tS h (gK (e:=.ret) (Ht jj (show Le Γ _ (Z103:St) from Le.trans (Bk (st':=⟨[(2,lQ)],[],[]⟩) [2] [] q) (Le.trans (Nl (t:=2) (nm:=6002) (sz':=2) (λi=>Bs (([]:List Hr).getD i ((0:Int),(0:Int)))) 63 rfl rfl (.inl ⟨rfl,rfl⟩) (λh_=>absurd h_ (by decide))) (Bk (st':=Z103) [2] [6002] q)))))))) λh=>Ae q Fd [1] (M4 (st':=⟨zQ,[(1,.row 51 (lP v8)),(5003,.tok 2 63 (([]:List Hr).length))],[]⟩) (Le.trans (Bk (st':=⟨[FW,(3,lQ),(4,Px)],[(1,.row 51 (lP v8))],[]⟩) Fd [1] q) (Le.trans (Nl (t:=3) (nm:=5003) (sz':=2) (λi=>Bs (([]:List Hr).getD i ((0:Int),(0:Int)))) 63 rfl rfl (.inl ⟨rfl,rfl⟩) (λh_=>absurd h_ (by decide))) (Bk (st':=⟨zQ,[(1,.row 51 (lP v8)),(5003,.tok 2 63 (([]:List Hr).length))],[]⟩) Fd Nf q))) (tL q h Fd Nf (λu (l2,i3)=>(Cs u [(3,(gW l2)),(4,(Ax i3))] [(5003,.tok 2 63 l2.length)])) (λu l4=>aG Γ (.exit 0) (⟨[(3,(xP l4 5003))],[(5003,.tok 2 63 l4.length)],[]⟩:St)) (λ⟨l2,i3⟩ y h=>Ae q [1,3,4,13] Nf (gC h (λh=>Ae q L7 Ew (tB h λx23 y23 h=>gJ y23 (λ(i5,i6)=>aG Γ .normal (⟨[FW,(3,(gW l2)),(4,(Ax i3)),PN],[(1,.row 51 (lP v8)),(5,.row 63 [(Ax i5),(Ax i6)]),(5003,.tok 2 63 l2.length)],[]⟩:St)) (λy h=>Ae q [1,3,4,5,22] Ew (tB h λx8 y8 h=>gJ y8 (λb7=>aG Γ .normal (⟨[FW,(3,(gW l2)),(4,(Ax i3)),PN,(C6 22 v8.Kind),(23,(.bool b7))],(s6 v8 l2),[]⟩:St)) (λy h=>Ae q [1,3,4,5,22,23] Ew (gC h (λh=>tS h (gK (Bd Jh))) λh=>Ae q [1,3,4,5,22,23] Ew (tS h (gK (Bd Jh))))) (gA (gC h (λh=>Ae q [1,3,4,5,27] Ew (gC h (λh=>Ae q L7 Ew (tS h (gK (Bd Jh)))) λh=>tS h (gK (Bd (Bk L7 Ew q))))) λh=>tB h λx11 y11 h=>gJ y11 (λb10=>aG Γ .normal (⟨[FW,(3,(gW l2)),(4,(Ax i3)),PN,(C6 22 v8.Kind),(29,(.bool b10))],(s6 v8 l2),[]⟩:St)) (λy h=>Ae q [1,3,4,5,22,29] Ew (gC h (λh=>tS h (gK (Bd Jh))) λh=>Ae q [1,3,4,5,22,29] Ew (tS h (gK (Bd Jh))))) (gA (gC h (λh=>Ae q L7 Ew (tS h (gK (Bd Jh)))) λh=>tB h λx14 y14 h=>gJ y14 (λb13=>aG Γ .normal (⟨[FW,(3,(gW l2)),(4,(Ax i3)),PN,(C6 22 v8.Kind),(36,(.bool b13))],(s6 v8 l2),[]⟩:St)) (λy h=>Ae q [1,3,4,5,22,36] Ew (gC h (λh=>tS h (gK (Bd Jh))) λh=>Ae q [1,3,4,5,22,36] Ew (tS h (gK (Bd Jh))))) (gA (gC h (λh=>Ae q [1,3,4,5,40] Ew (gC h (λh=>Ae q L7 Ew (tS h (gK (Bd Jh)))) λh=>tS h (gK (Bd (Bk L7 Ew q))))) λh=>tB h λx17 y17 h=>gJ y17 (λb16=>aG Γ .normal (⟨[FW,(3,(gW l2)),(4,(Ax i3)),PN,(C6 22 v8.Kind),(42,(.bool b16))],(s6 v8 l2),[]⟩:St)) (λy h=>Ae q [1,3,4,5,22,42] Ew (gC h (λh=>tS h (gK (Bd Jh))) λh=>Ae q [1,3,4,5,22,42] Ew (tS h (gK (Bd Jh))))) (gA (gC h (λh=>tB h λx21 y21 h=>gJ y21 (λ(i19,i20)=>aG Γ .normal (⟨[FW,(3,(gW l2)),(4,(Ax i3)),PN],[(1,.row 51 (lP v8)),(5,.row 63 [(Ax i19),(Ax i20)]),(5003,.tok 2 63 l2.length)],[]⟩:St)) (λy h=>Ae q [1,3,4,5,46] Ew (gC h (λh=>Ae q L7 Ew (tS h (gK (Bd Jh)))) λh=>tS h (gK (Bd (Bk L7 Ew q))))) (match x21,h with|⟨i19,i20⟩,h=>gA (Ae q [1,3,4,5,49] Ew (gC h (λh=>Ae q L7 Ew (tS h (gK (Bd Jh)))) λh=>tS h (gK (Bd (Bk L7 Ew q))))))) λh=>Ae q [1,3,4,5,51] Ew (gC h (λh=>Ae q L7 Ew (tS h (gK (Bd Jh)))) λh=>tS h (gK (Bd (Bk L7 Ew q)))))))))))))) (match x23,h with|⟨i5,i6⟩,h=>gA (tC h λc25_ h=>gR q Fd Nf [(58,(AV.list 2 Bs ((0:Int),(0:Int)) ([(i5,i6)]:List Hr) .exact)),(59,(AV.list 2 Bs ((0:Int),(0:Int)) (l2++([(i5,i6)]:List Hr)) (.own 5003)))] [] (c5 (Ca 2 Bs ((0:Int),(0:Int)) ([(i5,i6)]:List Hr)) (Eq.refl l2.length) c25_ (Kh 2 5003 Bs ((0:Int),(0:Int)) l2 ([(i5,i6)]:List Hr)) (Ft l2 ([(i5,i6)]:List Hr))) (Ae q Fd Nf (tN h)))))) λh=>tS h (gO (Bd (Bk [3] [5003] q))))) λx26 h=>gA (Ae q [2] [5003] (tS h (Bi jl))))))))
abbrev YH:=(List Cz×Int)
abbrev rC:=(LR (List Cz×Int) (List Cz))
def Gh(a1:TFunc)(i2:Int)(i7:Int):YH->Option rC:=
 λ((l10,i11):YH)=>(bif (decide (i11<(((((a1.Blocks.getD i2.toNat default).Phis).getD i7.toNat default).Args).length:Int))) then(Aw (A0 i11 ((((a1.Blocks.getD i2.toNat default).Phis).getD i7.toNat default).Args).length) (Aw (A0 i11 ((((a1.Blocks.getD i2.toNat default).Phis).getD i7.toNat default).From).length) (Aw (l10.length+([(⟨(((((a1.Blocks.getD i2.toNat default).Phis).getD i7.toNat default).Args).getD i11.toNat 0),(((((a1.Blocks.getD i2.toNat default).Phis).getD i7.toNat default).From).getD i11.toNat 0),(1000:Int),((((a1.Blocks.getD i2.toNat default).Phis).getD i7.toNat default).Bits,(1:Int))⟩:Cz)]:List Cz).length<=room) (some (.next ((l10++([(⟨(((((a1.Blocks.getD i2.toNat default).Phis).getD i7.toNat default).Args).getD i11.toNat 0),(((((a1.Blocks.getD i2.toNat default).Phis).getD i7.toNat default).From).getD i11.toNat 0),(1000:Int),((((a1.Blocks.getD i2.toNat default).Phis).getD i7.toNat default).Bits,(1:Int))⟩:Cz)]:List Cz)),(w64 (i11+1)))))))) else(some (.done l10)))
def Gi(a1:TFunc)(i2:Int):YH->Option rC:=
 λ((l6,i7):YH)=>(bif (decide (i7<(((a1.Blocks.getD i2.toNat default).Phis).length:Int))) then(Aw (A0 i7 ((a1.Blocks.getD i2.toNat default).Phis).length) ((Ac (Gh a1 i2 i7) (l6,(0:Int))).bind (λx16=>(some (.next (x16,(w64 (i7+1)))))))) else(some (.done l6)))
def Gj(a1:TFunc)(i2:Int)(i21:Int)(x24:List MJ):YH->Option rC:=
 λ((l25,i26):YH)=>(bif (decide (i26<(x24.length:Int))) then(Aw (A0 i21 ((a1.Blocks.getD i2.toNat default).Ops).length) (Aw (A0 i26 ((((a1.Blocks.getD i2.toNat default).Ops).getD i21.toNat default).Args).length) (Aw (A0 i26 x24.length) (Aw (l25.length+([(⟨(((((a1.Blocks.getD i2.toNat default).Ops).getD i21.toNat default).Args).getD i26.toNat 0),i2,i21,(x24.getD i26.toNat ((0:Int),(0:Int)))⟩:Cz)]:List Cz).length<=room) (some (.next ((l25++([(⟨(((((a1.Blocks.getD i2.toNat default).Ops).getD i21.toNat default).Args).getD i26.toNat 0),i2,i21,(x24.getD i26.toNat ((0:Int),(0:Int)))⟩:Cz)]:List Cz)),(w64 (i26+1))))))))) else(some (.done l25)))
def Gk(a1:TFunc)(i2:Int):YH->Option rC:=
 λ((l20,i21):YH)=>(bif (decide (i21<(((a1.Blocks.getD i2.toNat default).Ops).length:Int))) then(Aw (A0 i21 ((a1.Blocks.getD i2.toNat default).Ops).length) ((Hl (((a1.Blocks.getD i2.toNat default).Ops).getD i21.toNat default)).bind λx24=>((Ac (Gj a1 i2 i21 x24) (l20,(0:Int))).bind (λx32=>(some (.next (x32,(w64 (i21+1))))))))) else(some (.done l20)))
def I4(a1:TFunc):YH->Option rC:=
 λ((l1,i2):YH)=>(bif (decide (i2<(a1.Blocks.length:Int))) then(Option.bind (α:=List Cz) (Aw (A0 i2 a1.Blocks.length) ((Ac (Gi a1 i2) (l1,(0:Int))).bind (λx18=>((Ac (Gk a1 i2) (x18,(0:Int))).bind (λx34=>(Option.bind (α:=List Cz) (bif (((a1.Blocks.getD i2.toNat default).End.Kind:Int)==0) then(Aw (x34.length+([(⟨(a1.Blocks.getD i2.toNat default).End.Arg,i2,(1000:Int),(a1.Ret,(1:Int))⟩:Cz)]:List Cz).length<=room) (some (x34++([(⟨(a1.Blocks.getD i2.toNat default).End.Arg,i2,(1000:Int),(a1.Ret,(1:Int))⟩:Cz)]:List Cz)))) else(some x34)) (λx38=>(bif (((a1.Blocks.getD i2.toNat default).End.Kind:Int)==2) then(Aw (x38.length+([(⟨(a1.Blocks.getD i2.toNat default).End.Arg,i2,(1000:Int),((1:Int),(1:Int))⟩:Cz)]:List Cz).length<=room) (some (x38++([(⟨(a1.Blocks.getD i2.toNat default).End.Arg,i2,(1000:Int),((1:Int),(1:Int))⟩:Cz)]:List Cz)))) else(some x38))))))))) (λx41=>(some (.next (x41,(w64 (i2+1))))))) else(some (.done l1)))
def RF(a1:TFunc)(i2:Int):=(a1.Blocks.getD i2.toNat default)
def tD(a1:TFunc):List AV:=[(Rp a1.Params),(Ax a1.Ret),(YL a1.Blocks)]
def tA(a1:TFunc)(i2:Int):=([(⟨(RF a1 i2).End.Arg,i2,(1000:Int),(a1.Ret,(1:Int))⟩:Cz)]:List Cz)
def s9(a1:TFunc)(i2:Int):=([(⟨(RF a1 i2).End.Arg,i2,(1000:Int),((1:Int),(1:Int))⟩:Cz)]:List Cz)
def zR(a1:TFunc):=(⟨[FW,(3,(AV.list 5 O5 default ([]:List Cz) (.own 5003))),(4,Px)],[(1,.row 25 (tD a1)),(5003,.tok 5 69 (([]:List Cz).length))],[]⟩:St)
def s8(a1:TFunc)(i2:Int)(i21:Int)(i26:Int)(x24:List MJ):=([(⟨(((((RF a1 i2).Ops).getD i21.toNat default).Args).getD i26.toNat 0),i2,i21,(x24.getD i26.toNat ((0:Int),(0:Int)))⟩:Cz)]:List Cz)
def s7(a1:TFunc)(i2:Int)(i7:Int)(i11:Int):=([(⟨(((((RF a1 i2).Phis).getD i7.toNat default).Args).getD i11.toNat 0),(((((RF a1 i2).Phis).getD i7.toNat default).From).getD i11.toNat 0),(1000:Int),((((RF a1 i2).Phis).getD i7.toNat default).Bits,(1:Int))⟩:Cz)]:List Cz)
def Kx(a1:TFunc):Option (List Cz):=
 ((Ac (I4 a1) (([]:List Cz),(0:Int))).bind (λx43=>(some x43)))
variable{v52:List Cz}
theorem BI(h:Kx v3=some v52):sP 21 [(XC v3)] [] (AV.list 5 O5 default v52 (.own 20000)) [(Ng 20000 69 v52.length)]:=
 sG Tryz.func21 λΓ q=>gR q [1] [1] [(2,(AV.list 5 O5 default ([]:List Cz) .exact))] [] (c1 (Bh 5 O5 (default:Cz))) (gR q Mz [1] [(3,(AV.list 5 O5 default ([]:List Cz) .exact))] [] (c1 (Bh 5 O5 (default:Cz))) (Ae q Fd [1] (M4 (st':=(zR v3)) (Le.trans (Bk (st':=⟨[FW,(3,(AV.list 5 O5 default ([]:List Cz) .exact)),(4,Px)],[(1,.row 25 (tD v3))],[]⟩) Fd [1] q) (Le.trans (Nl (t:=3) (nm:=5003) (sz':=5) (λi=>O5 (([]:List Cz).getD i default)) 69 rfl rfl (.inl ⟨rfl,rfl⟩) (λh_=>absurd h_ (by decide))) (Bk (st':=(zR v3)) Fd Nf q))) (tL q h Fd Nf (λu (l1,i2)=>(Cs u [(nF l1),(4,(Ax i2))] [(Ng 5003 69 l1.length)])) (λu l3=>aG Γ (.exit 0) (⟨[(nF l3)],[(Ng 5003 69 l3.length)],[]⟩:St)) (λ⟨l1,i2⟩ y h=>Ae q [1,3,4,16] Nf (gC h (λh=>tB h λx41 y41 h=>gJ y41 (λl4=>aG Γ .normal (⟨[FW,(nF l4),(4,(Ax i2))],[(1,.row 25 (tD v3)),(Ng 5003 69 l4.length)],[]⟩:St)) (λy h=>tV q L7 Ew h λh=>Ae q Te Ew (tL q h Te Ew (λu (l6,i7)=>(Cs u [(nF l6),(6,(Ax i7))] [(Ng 5003 69 l6.length)])) (λu l8=>aG Γ (.exit 2) (Oz L7 Ew u [(nF l8)] [(Ng 5003 69 l8.length)])) (λ⟨l6,i7⟩ y h=>Ae q [1,3,4,5,6,28] Ew (gC h (λh=>tV q [1,3,4,5,6,7] NB h λh=>Ae q ca NB (tL q h ca NB (λu (l10,i11)=>(Cs u [(nF l10),(8,(Ax i11))] [(Ng 5003 69 l10.length)])) (λu l12=>aG Γ (.exit 4) (Oz Te Ew u [(nF l12)] [(Ng 5003 69 l12.length)])) (λ⟨l10,i11⟩ y h=>Ae q [1,3,4,5,6,7,8,40] NB (gC h (λh=>tC h λc13_ h=>tC h λc14_ h=>tC h λc15_ h=>gR q ca NB (Z53 58 (s7 v3 i2 i7 i11) 59 l10) [] (c7 c13_ c14_ (Ca 5 O5 (default:Cz) (s7 v3 i2 i7 i11)) (Eq.refl l10.length) c15_ (Kh 5 5003 O5 (default:Cz) l10 (s7 v3 i2 i7 i11)) (Ft l10 (s7 v3 i2 i7 i11))) (Ae q ca NB (tN h))) λh=>tS h (gO (Bd (Bk Te Ew q))))) λx16 h=>gA (Ae q Te Ew (tN h)))) λh=>tS h (gO (Bd (Bk L7 Ew q))))) λx18 h=>gA (Ae q VZ Ew (tL q h VZ Ew (λu (l20,i21)=>(Cs u [(nF l20),(9,(Ax i21))] [(Ng 5003 69 l20.length)])) (λu l22=>aG Γ (.exit 6) (Oz L7 Ew u [(nF l22)] [(Ng 5003 69 l22.length)])) (λ⟨l20,i21⟩ y h=>Ae q [1,3,4,5,9,64] Ew (gC h (λh=>tC h λc23_ h=>tB h λx24 y24 h=>tT q [1,3,4,5,9,10] MY [⟨[],[(20000,72)],(xP x24 20000),[(20000,.tok 2 63 x24.length)],[],[]⟩] (c2 c23_ (Yo y24)) (Ae q cW MY (tL q h cW MY (λu (l25,i26)=>(Cs u [(nF l25),(C6 11 i26)] [(Ng 5003 69 l25.length)])) (λu l27=>aG Γ (.exit 8) (Oz VZ Ew u [(nF l27)] [(Ng 5003 69 l27.length)])) (λ⟨l25,i26⟩ y h=>Ae q [1,3,4,5,9,10,11,76] MY (gC h (λh=>tC h λc28_ h=>tC h λc29_ h=>tC h λc30_ h=>tC h λc31_ h=>gR q cW MY (Z53 96 (s8 v3 i2 i21 i26 x24) 97 l25) [] (c8 c28_ c29_ c30_ (Ca 5 O5 (default:Cz) (s8 v3 i2 i21 i26 x24)) (Eq.refl l25.length) c31_ (Kh 5 5003 O5 (default:Cz) l25 (s8 v3 i2 i21 i26 x24)) (Ft l25 (s8 v3 i2 i21 i26 x24))) (Ae q cW MY (tN h))) λh=>tS h (gO (Bd (Bk VZ Ew q))))) λx32 h=>gA (Ae q VZ Ew (tN h))))) λh=>tS h (gO (Bd (Bk L7 Ew q))))) λx34 h=>gA (tB h λx38 y38 h=>gJ y38 (λl36=>aG Γ .normal (⟨[FW,(nF l36),(4,(Ax i2)),PN],[(1,.row 25 (tD v3)),(5,.row 57 [(AV.list 4 Wx default (RF v3 i2).Phis .none),(AV.list 6 PO default (RF v3 i2).Ops .none),(.int .i64 (RF v3 i2).End.Kind),(.int .i64 (RF v3 i2).End.Arg),(AV.list 1 Ay 0 (RF v3 i2).End.To .none)]),(Ng 5003 69 l36.length)],[]⟩:St)) (λy h=>Ae q [1,3,4,5,101] Ew (gC h (λh=>tC h λc37_ h=>gR q L7 Ew (Z53 111 (tA v3 i2) 112 x34) [] (c5 (Ca 5 O5 (default:Cz) (tA v3 i2)) (Eq.refl x34.length) c37_ (Kh 5 5003 O5 (default:Cz) x34 (tA v3 i2)) (Ft x34 (tA v3 i2))) (tS h (gK (Bd Jh)))) λh=>tS h (gK (Bd (Bk L7 Ew q))))) (gA (Ae q [1,3,4,5,116] Ew (gC h (λh=>tC h λc40_ h=>gR q Fd Nf (Z53 124 (s9 v3 i2) 125 x38) [] (c5 (Ca 5 O5 (default:Cz) (s9 v3 i2)) (Eq.refl x38.length) c40_ (Kh 5 5003 O5 (default:Cz) x38 (s9 v3 i2)) (Ft x38 (s9 v3 i2))) (tS h (gK (Bd Jh)))) λh=>tS h (gK (Bd (Bk Fd Nf q))))))))))) (gA (Ae q Fd Nf (tN h)))) λh=>tS h (gO (Bd (Bk [3] [5003] q))))) λx43 h=>gA (Ae q [2] [5003] (tS h (Bi jl)))))))
def Iv(aD:TGraph)(aE:TGraph):Int->Option (LR Int (Unit ⊕ Bool)):=
 λ(i1:Int)=>(bif (decide (i1<(aD.Succ.length:Int))) then(Aw (A0 i1 aD.Succ.length) (Aw (A0 i1 aE.Succ.length) ((En (aD.Succ.getD i1.toNat []) (aE.Succ.getD i1.toNat [])).bind λx4=>(bif (!x4) then(some (.done (.inr false))) else(some (.next (w64 (i1+1)))))))) else(some (.done (.inl ()))))
def Iw(aD:TGraph)(aE:TGraph):Int->Option (LR Int (Unit ⊕ Bool)):=
 λ(i7:Int)=>(bif (decide (i7<(aD.Pred.length:Int))) then(Aw (A0 i7 aD.Pred.length) (Aw (A0 i7 aE.Pred.length) ((En (aD.Pred.getD i7.toNat []) (aE.Pred.getD i7.toNat [])).bind λx10=>(bif (!x10) then(some (.done (.inr false))) else(some (.next (w64 (i7+1)))))))) else(some (.done (.inl ()))))
def Sy(Γ:Il)(aD:TGraph)(aE:TGraph)(r:Bool):Exit->St->Prop:=fK Tryz.prog Γ Tryz.f70.results.toList [] (.bool r) []
def Abz(aD:TGraph)(aE:TGraph):=(((aD.Succ.length:Int)!=(aE.Succ.length:Int))==false)
def Kt(aD:TGraph)(aE:TGraph):Option Bool:=
 (bif (bif ((aD.Succ.length:Int)!=(aE.Succ.length:Int)) then true else((aD.Pred.length:Int)!=(aE.Pred.length:Int))) then(some false) else((Ac (Iv aD aE) (0:Int)).bind (λx5=>(match x5 with|(.inl _)=>((Ac (Iw aD aE) (0:Int)).bind (λx11=>(match x11 with|(.inl _)=>(some true)|(.inr r13)=>(some r13))))|(.inr r14)=>(some r14)))))
variable{v53:TGraph}
theorem BE(h:Kt v19 v53=some v5):sP 70 [(.agg (X0 v19)),(.agg (X0 v53))] [] (.bool v5) []:=
 sG Tryz.func70 λΓ q=>Ae q B7 B7 (tU q [2,3,22] B7 (gI6 (Abz v19 v53) (c1 (Ld ((v19.Succ.length:Int)!=(v53.Succ.length:Int))))) (gC h (λh=>Ae q [4] [] (tS h (Bi []))) λh=>Ae q WI B7 (tL q h WI B7 (λu i1=>(Cs u [(5,(Ax i1))] [])) (λu x_=>match x_ with|(.inl _)=>aG Γ (.exit 0) (Oz B7 B7 u [] [])|(.inr r_)=>aR (Sy Γ v19 v53 r_)) (λi1 y h=>Ae q [2,3,5,27] B7 (gC h (λh=>tC h λc2_ h=>tC h λc3_ h=>tB h λx4 y4 h=>tT q [2,3,5,41] B7 [(Z8 x4)] (c3 c2_ c3_ (M5 y4)) (gC h (λh=>Ae q [4] [] (tS h (gO (Lj (Ht [] (Le.refl _ _)))))) λh=>Ae q WI B7 (tN h))) λh=>tS h (gO (Bd (Bk B7 B7 q))))) λx5 h=>(match x5,h with | .inl _,h=>gA (Ae q [2,3,6] B7 (tL q h [2,3,6] B7 (λu i7=>(Cs u [(6,(Ax i7))] [])) (λu x_=>match x_ with|(.inl _)=>aG Γ (.exit 2) (⟨[],[],[]⟩:St)|(.inr r_)=>aR (Sy Γ v19 v53 r_)) (λi7 y h=>Ae q [2,3,6,46] B7 (gC h (λh=>tC h λc8_ h=>tC h λc9_ h=>tB h λx10 y10 h=>tT q [2,3,6,60] B7 [(Z8 x10)] (c3 c8_ c9_ (M5 y10)) (gC h (λh=>Ae q [4] [] (tS h (gO (Lj (Ht [] (Le.refl _ _)))))) λh=>Ae q [2,3,6] B7 (tN h))) λh=>tS h (gO (Bd (Bk [] [] q))))) λx11 h=>(match x11,h with | .inl _,h=>gA (Ae q [4] [] (tS h (Bi []))) | .inr r13,h=>Pz (λst' hk=>tS h (gK hk))))) | .inr r14,h=>Pz (λst' hk=>tS h (gK hk))))))
def Lo(a9:TGraph):Option Bool:=
 ((Ie a9.Succ).bind λx1=>((bif ((x1.2==0)==true) then Kt x1.1 a9 else some false).bind λx2=>(some (bif (x1.2==0) then x2 else false))))
theorem DH(h:Lo v19=some v5):sP 44 [(.agg (X0 v19))] [] (.bool v5) []:=
 sG Tryz.func44 λΓ q=>Ae q [1] [1] (tB h λx1 y1 h=>tT q Fd Mz [(n7 x1.1 x1.2)] (c1 (Rx y1)) (tB h λx2 y2 h=>tT q [2] [] [(Z8 x2)] (Lz ((x1.2==0)==true) (c2 (λ(hg:((x1.2==0)==true)=true)=>(BE (B0 hg y2))) (L0 (x1.2==0)))) (tS h (Bi []))))
def C8(a9:TGraph)(x2:List Bool)(i4:Int)(l5:List (List Bool))(x9:List Bool):YF->Option qz:=
 λ((i10,l11):YF)=>(bif (decide (i10<(a9.Succ.length:Int))) then(Aw (A0 i4 l5.length) (Aw (A0 i10 x2.length) (Aw (((x2.getD i10.toNat false)==true)=true->(A0 i10 x9.length)) (Aw (A0 i10 l11.length) (some (.next ((w64 (i10+1)),(l11.set i10.toNat (bif (x2.getD i10.toNat false) then(!(x9.getD i10.toNat false)) else false))))))))) else(some (.done l11)))
abbrev Abr:=(Int×List (List Bool))
def Ix(a9:TGraph)(a8:Int)(x2:List Bool):Abr->Option (LR (Int×List (List Bool)) (List (List Bool))):=
 λ((i4,l5):Abr)=>(bif (decide (i4<(a9.Succ.length:Int))) then(Aw (0<=(a9.Succ.length:Int)/\(a9.Succ.length:Int)<=(a9.Succ.length:Int)/\(a9.Succ.length:Int)<=(room:Int)) (Aw (A0 i4 l5.length) ((C3 a9 a8 i4).bind λx9=>((Ac (C8 a9 x2 i4 l5 x9) ((0:Int),(List.replicate (a9.Succ.length:Int).toNat false))).bind (λx17=>(some (.next ((w64 (i4+1)),(l5.set i4.toNat x17))))))))) else(some (.done l5)))
def C9(a9:TGraph)(l6:List (List Bool))(i22:Int)(i30:Int):(Bool×Int)->Option (LR (Bool×Int) Bool):=
 λ((b36,i37):(Bool×Int))=>(bif (decide (i37<(a9.Succ.length:Int))) then(Aw (((b36==true)&&((i37==i22)==false))=true->(A0 i37 l6.length)) (Aw (((b36==true)&&((i37==i22)==false))=true->(A0 i22 (l6.getD i37.toNat []).length)) (Aw (((b36==true)&&((bif (i37==i22) then true else(!((l6.getD i37.toNat []).getD i22.toNat false)))==false))=true->(A0 i37 l6.length)) (Aw (((b36==true)&&((bif (i37==i22) then true else(!((l6.getD i37.toNat []).getD i22.toNat false)))==false))=true->(A0 i30 (l6.getD i37.toNat []).length)) (some (.next ((bif b36 then(bif (bif (i37==i22) then true else(!((l6.getD i37.toNat []).getD i22.toNat false))) then true else((l6.getD i37.toNat []).getD i30.toNat false)) else false),(w64 (i37+1))))))))) else(some (.done b36)))
def B4(a9:TGraph)(a8:Int)(l6:List (List Bool))(i22:Int):Xg->Option qy:=
 λ((i30,l31):Xg)=>(bif (bif (decide (i30<(a9.Succ.length:Int))) then(i22 !=a8) else false) then(Option.bind (α:=Am) (Aw (((i30==i22)==false)=true->(A0 i30 l6.length)) (Aw (((i30==i22)==false)=true->(A0 i22 (l6.getD i30.toNat []).length)) (bif (bif (i30==i22) then true else(!((l6.getD i30.toNat []).getD i22.toNat false))) then(some l31) else((Ac (C9 a9 l6 i22 i30) (true,(0:Int))).bind (λx43=>(bif x43 then(Aw (A0 i22 l31.length) (some (l31.set i22.toNat i30))) else(some l31))))))) (λx46=>(some (.next ((w64 (i30+1)),x46))))) else(some (.done l31)))
def Da(a9:TGraph)(a8:Int)(l6:List (List Bool)):Xg->Option qy:=
 λ((i22,l23):Xg)=>(bif (decide (i22<(a9.Succ.length:Int))) then(Aw (A0 i22 l23.length) (Option.bind (α:=Am) (bif (i22==a8) then(Aw (A0 i22 (l23.set i22.toNat (-2:Int)).length) (some ((l23.set i22.toNat (-2:Int)).set i22.toNat (-1:Int)))) else(some (l23.set i22.toNat (-2:Int)))) (λx28=>((Ac (B4 a9 a8 l6 i22) ((0:Int),x28)).bind (λx48=>(some (.next ((w64 (i22+1)),x48)))))))) else(some (.done l23)))
def Qg(a9:TGraph):=(a9.Succ.length:Int)
def gZ:=(λn_=>B3 n_ [37,75])
def Qf(l5:List (List Bool)):=(λi=>uK (l5.getD i []))
def RG(a9:TGraph):=(List.replicate (Qg a9).toNat false)
def dG(a9:TGraph):List AV:=[(.vsl 46 (RG a9).length)]
def nr(i30:Int)(i22:Int):=((i30==i22)==false)
def WX(l23:Am)(i22:Int):=(l23.set i22.toNat (-2:Int))
def lU(l11:List Bool):=(λi=>eB (l11.getD i false))
def lT:=(λn_=>B3 n_ [2,35,37,46])
def RH:=(λn_=>B3 n_ [2,35,37,46,51])
def WW(a9:TGraph):=(λi=>eB ((RG a9).getD i false))
def PJ(l11:List Bool)(i10:Int)(x2:List Bool)(x9:List Bool):=(l11.set i10.toNat (bif (x2.getD i10.toNat false) then(!(x9.getD i10.toNat false)) else false))
def gY(l11:List Bool)(i10:Int)(x2:List Bool)(x9:List Bool):=(λi=>eB ((PJ l11 i10 x2 x9).getD i false))
def lS(b36:Bool)(i37:Int)(i22:Int):=((b36==true)&&((i37==i22)==false))
def tH:List YG:=[(4,oC)]
def zS(x1:Bool)(a8:Int):=(bif (!x1) then true else(decide (a8<0)))
def Qk(a9:TGraph):List AV:=[(WQ a9.Succ),(WQ a9.Pred)]
def zT:=(Z52:St)
def lR(b36:Bool)(i37:Int)(i22:Int)(x19:List (List Bool)):=((b36==true)&&((bif (i37==i22) then true else(!((x19.getD i37.toNat []).getD i22.toNat false)))==false))
def gX(a8:Int)(a9:TGraph)(x2:List Bool)(l5:List (List Bool))(i4:Int):List YG:=[(1,(Ax a8)),Tz,(5,(Ax (Qg a9))),(6,(XB x2 35)),(Ue 37 l5.length),(8,(Ax i4))]
def tG(a8:Int)(a9:TGraph)(x2:List Bool)(l5:List (List Bool))(i4:Int):List YG:=[(1,(Ax a8)),Tz,(5,(Ax (Qg a9))),(6,(XB x2 35)),(Ue 37 l5.length),(8,(.int .i64 (w64 (i4+1))))]
def tF(a8:Int)(a9:TGraph)(x2:List Bool)(l5:List (List Bool))(i4:Int)(x9:List Bool)(i10:Int):List YG:=[(1,(Ax a8)),Tz,(5,(Ax (Qg a9))),(6,(XB x2 35)),(Ue 37 l5.length),(8,(Ax i4)),(9,(XB x9 51)),(C6 10 i10)]
def nq(a8:Int)(a9:TGraph)(x2:List Bool)(l5:List (List Bool))(i4:Int)(x9:List Bool):List YG:=[(1,(Ax a8)),Tz,(5,(Ax (Qg a9))),(6,(XB x2 35)),(Ue 37 l5.length),(8,(Ax i4)),(9,(XB x9 51)),(10,Px)]
def tE(a8:Int)(a9:TGraph)(x2:List Bool)(l5:List (List Bool))(i4:Int)(x9:List Bool)(i10:Int):List YG:=[(1,(Ax a8)),Tz,(5,(Ax (Qg a9))),(6,(XB x2 35)),(Ue 37 l5.length),(8,(Ax i4)),(9,(XB x9 51)),(10,(.int .i64 (w64 (i10+1))))]
def zU(a8:Int)(a9:TGraph)(x2:List Bool)(l5:List (List Bool))(i4:Int)(x9:List Bool)(i10:Int):List YG:=[(1,(Ax a8)),Tz,(5,(Ax (Qg a9))),(6,(XB x2 35)),(Ue 37 l5.length),(8,(Ax i4)),(9,(XB x9 51)),(C6 10 i10),(54,(.bool (decide (i10<(Qg a9)))))]
def Kv(a9:TGraph)(a8:Int):Option Am:=
 ((Lo a9).bind λx1=>(bif (bif (bif (!x1) then true else(decide (a8<0))) then true else(decide ((a9.Succ.length:Int)<=a8))) then(some ([]:Am)) else((C3 a9 a8 (-1:Int)).bind λx2=>(Aw (0<=(a9.Succ.length:Int)/\(a9.Succ.length:Int)<=(a9.Succ.length:Int)/\(a9.Succ.length:Int)<=(room:Int)) ((Ac (Ix a9 a8 x2) ((0:Int),(List.replicate (a9.Succ.length:Int).toNat ([]:List Bool)))).bind (λx19=>(Aw (0<=(a9.Succ.length:Int)/\(a9.Succ.length:Int)<=(a9.Succ.length:Int)/\(a9.Succ.length:Int)<=(room:Int)) ((Ac (Da a9 a8 x19) ((0:Int),(List.replicate (a9.Succ.length:Int).toNat (0:Int)))).bind (λx50=>(some x50))))))))))
theorem BG(h:Kv v19 v4=some v0):sP 23 (r9 v19 v4) [] (WP v0 20000) [(20000,.tok 1 3 v0.length)]:=
 sG Tryz.func23 λΓ q=>have hΓ:=q.own;gR q Pe [2] tH [] (c1 (Bh 1 Ay (0:Int))) (tB h λx1 y1 h=>tT q [1,2,29] [2] [(Z8 x1)] (cu (DH y1) (gI ((!x1)==false)) (Ld (!x1)) (mF ((zS x1 v4)==false) (c1 (Ld (zS x1 v4))))) (gC h (λh=>gR q [4] [] tH [] (c1 (Bh 1 Ay (0:Int))) (Ox (⟨tH,[],[]⟩:St) (tS h (gK (e:=.ret) (Ht cj (show Le Γ _ zT from Le.trans (Bk (st':=⟨tH,[],[]⟩) [4] [] q) (Le.trans (Nl (t:=4) (nm:=6004) (sz':=1) (λi=>Ay (([]:Am).getD i 0)) 3 rfl rfl (.inl ⟨rfl,rfl⟩) (λh_=>absurd h_ (by decide))) (Bk (st':=zT) [4] [6004] q)))))))) λh=>Ae q Wl [2] (tB h λx2 y2 h=>tT q [1,2,5,6] [2,35] [⟨[],[(20000,35)],(XB x2 20000),[(Sl 20000 x2.length)],[],[]⟩] (c1 (Mm y2)) (tV q jh NE h λh=>by exact M4 (Le.trans (Sp 37 (show ∀ k_,k_<((Qg v19).toNat)->AVleL ((λi_=>AV.eraseAll (λn_=>B3 n_ NE) ((λ_=>[dO]) i_)) k_) ((λi=>uK ((List.replicate (Qg v19).toNat ([]:List Bool)).getD i [])) k_) from(λk hk=>Mi (e:=uK) (d:=[]) (.cons (λ_ _ _ _ _ hh=>AVle.untag _ _ _ _ _ (He _ _ _ _ _ hh)) .nil) _ k (Mn hk)))) (Sq (λ(k_:Nat) u=>(Cs u [(Ue 37 k_)] [(37,.arr 1 93 k_ (λi=>uK ((List.replicate (Qg v19).toNat ([]:List Bool)).getD i [])))])) (show(Qg v19).toNat=(List.replicate (Qg v19).toNat ([]:List Bool)).length from(K1 ..).symm))) (Ae q bJ NE (tL q h bJ NE (λu (i4,l5)=>(Cs u [(Ue 37 l5.length),(8,(Ax i4))] [(37,.arr 1 93 l5.length (Qf l5))])) (λu l6=>aG Γ (.exit 0) (Oz [1,5,7] [37] u [(Ue 37 l6.length)] [(37,.arr 1 93 l6.length (λi=>uK (l6.getD i [])))])) (λ⟨i4,l5⟩ y h=>Ae q [1,2,5,6,7,8,40] NE (gC h (λh=>tC h λc7_ h=>tC h λc8_ h=>tU q bJ jm (c3 c7_ c8_ (Eq.refl l5.length)) (Ox (⟨(gX v4 v19 x2 l5 i4),[(Oi 72 (Qk v19)),(Sl 35 x2.length),(37,.arr 1 93 l5.length (λi_=>AV.eraseAll lT ((E0 (Qf l5) i4.toNat 0 [(.vsl 46 (Qg v19).toNat)]) i_))),(46,.arr 1 4 ((Qg v19).toNat) (λi_=>AV.eraseAll lT ((λ_=>[(.bool false)]) i_)))],[]⟩:St) (by exact M4 (Le.trans (Le.trans (J8 (st':=⟨(gX v4 v19 x2 l5 i4),[(Oi 72 (Qk v19)),(Sl 35 x2.length),(37,.arr 1 93 l5.length (λi_=>AV.eraseAll lT ((E0 (Qf l5) i4.toNat 0 [(.vsl 46 (Qg v19).toNat)]) i_))),(46,.arr 1 4 ((Qg v19).toNat) (WW v19))],[]⟩) (TmpsLe.refl _) (.same (.same (.same (.arr (λk hk=>Mi (e:=eB) (d:=false) (.cons (AVle.refl _) .nil) _ k (Mn hk)) .nil))))) (Ib (Bx (λk_:Nat=>(⟨(gX v4 v19 x2 l5 i4),[(Oi 72 (Qk v19)),(Sl 35 x2.length),(xO l5.length lT (Qf l5) i4.toNat k_),(46,.arr 1 4 k_ (WW v19))],[]⟩:St)) (show(Qg v19).toNat=(RG v19).length from(K1 ..).symm)))) (J8 (st':=⟨(gX v4 v19 x2 l5 i4),[(Oi 72 (Qk v19)),(Sl 35 x2.length),(37,.arr 1 93 l5.length (E0 (Qf l5) i4.toNat 0 (dG v19))),(46,.arr 1 4 ((RG v19).length) (WW v19))],[]⟩) (TmpsLe.refl _) (.same (.same (.arr (M0 (λ_=>rfl) rfl) (.same .nil)))))) (tB h λx9 y9 h=>tT q [1,2,5,6,7,8,9] WM [⟨[],[(20000,51)],(XB x9 20000),[(Sl 20000 x9.length)],[],[]⟩] (c1 (Mm y9)) (Ox (⟨[(1,(Ax v4)),Tz,(5,(Ax (Qg v19))),(6,(XB x2 35)),(Ue 37 l5.length),(8,(Ax i4)),(9,(XB x9 51))],[(Oi 72 (Qk v19)),(Sl 35 x2.length),(37,.arr 1 93 l5.length (λi_=>AV.eraseAll RH ((E0 (Qf l5) i4.toNat 0 (dG v19)) i_))),(46,.arr 1 4 ((RG v19).length) (WW v19)),(Sl 51 x9.length)],[]⟩:St) (M4 (J8 (st':=⟨[(1,(Ax v4)),Tz,(5,(Ax (Qg v19))),(6,(XB x2 35)),(Ue 37 l5.length),(8,(Ax i4)),(9,(XB x9 51))],[(Oi 72 (Qk v19)),(Sl 35 x2.length),(37,.arr 1 93 l5.length (E0 (Qf l5) i4.toNat 0 (dG v19))),(46,.arr 1 4 ((RG v19).length) (WW v19)),(Sl 51 x9.length)],[]⟩) (TmpsLe.refl _) (.same (.same (.arr (M0 (λ_=>rfl) rfl) (.same (.same .nil)))))) (Ae q ft WM (Ox (⟨(nq v4 v19 x2 l5 i4 x9),[(Oi 72 (Qk v19)),(Sl 35 x2.length),(37,.arr 1 93 l5.length (λi_=>AV.eraseAll RH ((E0 (Qf l5) i4.toNat 0 (dG v19)) i_))),(46,.arr 1 4 ((RG v19).length) (WW v19)),(Sl 51 x9.length)],[]⟩:St) (M4 (J8 (st':=⟨(nq v4 v19 x2 l5 i4 x9),[(Oi 72 (Qk v19)),(Sl 35 x2.length),(37,.arr 1 93 l5.length (E0 (Qf l5) i4.toNat 0 (dG v19))),(46,.arr 1 4 ((RG v19).length) (WW v19)),(Sl 51 x9.length)],[]⟩) (TmpsLe.refl _) (.same (.same (.arr (M0 (λ_=>rfl) rfl) (.same (.same .nil)))))) (M4 (st':=⟨(nq v4 v19 x2 l5 i4 x9),[(Oi 72 (Qk v19)),(Sl 35 x2.length),(37,.arr 1 93 l5.length (E0 (Qf l5) i4.toNat 0 (dG v19))),(46,.arr 1 4 ((RG v19).length) (WW v19)),(Sl 51 x9.length)],[]⟩) (Le.trans (Le.trans (Bk (st':=⟨(nq v4 v19 x2 l5 i4 x9),[(Oi 72 (Qk v19)),(Sl 35 x2.length),(37,.arr 1 93 l5.length (λi_=>AV.eraseAll RH ((E0 (Qf l5) i4.toNat 0 (dG v19)) i_))),(46,.arr 1 4 ((RG v19).length) (WW v19)),(Sl 51 x9.length)],[]⟩) ft WM q) (J8 (st':=⟨(nq v4 v19 x2 l5 i4 x9),[(Oi 72 (Qk v19)),(Sl 35 x2.length),(37,.arr 1 93 l5.length (E0 (Qf l5) i4.toNat 0 (dG v19))),(46,.arr 1 4 ((RG v19).length) (WW v19)),(Sl 51 x9.length)],[]⟩) (TmpsLe.refl _) (.same (.same (.arr (M0 (λ_=>rfl) rfl) (.same (.same .nil))))))) (Ib (by kernel_rfl))) (tB h λx17 y17 h=>gL0 y17 (λu (i10,l11)=>(Cs u [(C6 10 i10)] [(n8 l5.length (Qf l5) i4.toNat l11.length),(46,.arr 1 4 l11.length (lU l11))])) (λu l12=>aG Γ (.exit 2) (⟨(gX v4 v19 x2 l5 i4),[(Oi 72 (Qk v19)),(Sl 35 x2.length),(n8 l5.length (Qf l5) i4.toNat l12.length),(lf 46 l12)],[]⟩:St)) (λ⟨i10,l11⟩ y h=>Ae q [1,2,5,6,7,8,9,10,54] WM (Ox (⟨(zU v4 v19 x2 l5 i4 x9 i10),[(Oi 72 (Qk v19)),(Sl 35 x2.length),(xO l5.length RH (Qf l5) i4.toNat l11.length),(46,.arr 1 4 l11.length (lU l11)),(Sl 51 x9.length)],[]⟩:St) (M4 (J8 (st':=⟨(zU v4 v19 x2 l5 i4 x9 i10),[(Oi 72 (Qk v19)),(Sl 35 x2.length),(n8 l5.length (Qf l5) i4.toNat l11.length),(46,.arr 1 4 l11.length (lU l11)),(Sl 51 x9.length)],[]⟩) (TmpsLe.refl _) (.same (.same (.arr (M0 (λ_=>rfl) rfl) (.same (.same .nil)))))) (gC h (λh=>tC h λc13_ h=>tC h λc14_ h=>tC h λc15_ h=>tC h λc16_ h=>gR q ft WM [(60,(.vsl 46 l11.length))] [] (SC c13_ (Eq.refl l5.length) (show(AVle (((E0 (Qf l5) i4.toNat 0 [(.vsl 46 l11.length)]) i4.toNat).getD 0 .any) (.vsl 46 l11.length)) from mH) c14_ (Lz ((x2.getD i10.toNat false)==true) (ci c15_ (Lz ((x2.getD i10.toNat false)==true) (c3 (L0 (x2.getD i10.toNat false)) c16_ (Eq.refl l11.length)))))) (Ox (⟨(tF v4 v19 x2 l5 i4 x9 i10),[(Oi 72 (Qk v19)),(Sl 35 x2.length),(xO l5.length RH (Qf l5) i4.toNat l11.length),(46,.arr 1 4 l11.length (λi_=>AV.eraseAll RH ((E0 (lU l11) i10.toNat 0 [(.bool (bif (x2.getD i10.toNat false) then(!(x9.getD i10.toNat false)) else false))]) i_))),(Sl 51 x9.length)],[]⟩:St) (M4 (Le.trans (Le.trans (J8 (st':=⟨(tF v4 v19 x2 l5 i4 x9 i10),[(Oi 72 (Qk v19)),(Sl 35 x2.length),(xO l5.length RH (Qf l5) i4.toNat l11.length),(46,.arr 1 4 l11.length (gY l11 i10 x2 x9)),(Sl 51 x9.length)],[]⟩) (TmpsLe.refl _) (.same (.same (.same (.arr (Bc (Cm ..).symm (λk_ hk_=>(Bx (AV.eraseAll RH) ((Fq (λ_ _=>rfl) (Gs c16_) rfl) k_ hk_)).trans rfl)) (.same .nil)))))) (Ib (Bx (λk_:Nat=>(⟨(tF v4 v19 x2 l5 i4 x9 i10),[(Oi 72 (Qk v19)),(Sl 35 x2.length),(xO l5.length RH (Qf l5) i4.toNat k_),(46,.arr 1 4 k_ (gY l11 i10 x2 x9)),(Sl 51 x9.length)],[]⟩:St)) (show l11.length=(PJ l11 i10 x2 x9).length from(Cm ..).symm)))) (J8 (st':=⟨(tF v4 v19 x2 l5 i4 x9 i10),[(Oi 72 (Qk v19)),(Sl 35 x2.length),(37,.arr 1 93 l5.length (E0 (Qf l5) i4.toNat 0 [(.vsl 46 (PJ l11 i10 x2 x9).length)])),(46,.arr 1 4 ((PJ l11 i10 x2 x9).length) (gY l11 i10 x2 x9)),(Sl 51 x9.length)],[]⟩) (TmpsLe.refl _) (.same (.same (.arr (M0 (λ_=>rfl) rfl) (.same (.same .nil))))))) (Ae q ft WM (Ox (⟨(tE v4 v19 x2 l5 i4 x9 i10),[(Oi 72 (Qk v19)),(Sl 35 x2.length),(37,.arr 1 93 l5.length (λi_=>AV.eraseAll RH ((E0 (Qf l5) i4.toNat 0 [(.vsl 46 (PJ l11 i10 x2 x9).length)]) i_))),(46,.arr 1 4 ((PJ l11 i10 x2 x9).length) (gY l11 i10 x2 x9)),(Sl 51 x9.length)],[]⟩:St) (tS h (gN (Le.trans (J8 (st':=⟨(tE v4 v19 x2 l5 i4 x9 i10),[(Oi 72 (Qk v19)),(Sl 35 x2.length),(37,.arr 1 93 l5.length (E0 (Qf l5) i4.toNat 0 [(.vsl 46 (PJ l11 i10 x2 x9).length)])),(46,.arr 1 4 ((PJ l11 i10 x2 x9).length) (gY l11 i10 x2 x9)),(Sl 51 x9.length)],[]⟩) (TmpsLe.refl _) (.same (.same (.arr (M0 (λ_=>rfl) rfl) (.same (.same .nil)))))) (Le.trans (Le.trans (Bk (st':=⟨(tE v4 v19 x2 l5 i4 x9 i10),[(Oi 72 (Qk v19)),(Sl 35 x2.length),(37,.arr 1 93 l5.length (λi_=>AV.eraseAll RH ((E0 (Qf l5) i4.toNat 0 [(.vsl 46 (PJ l11 i10 x2 x9).length)]) i_))),(46,.arr 1 4 ((PJ l11 i10 x2 x9).length) (gY l11 i10 x2 x9)),(Sl 51 x9.length)],[]⟩) ft WM q) (J8 (st':=⟨(tE v4 v19 x2 l5 i4 x9 i10),[(Oi 72 (Qk v19)),(Sl 35 x2.length),(37,.arr 1 93 l5.length (E0 (Qf l5) i4.toNat 0 [(.vsl 46 (PJ l11 i10 x2 x9).length)])),(46,.arr 1 4 ((PJ l11 i10 x2 x9).length) (gY l11 i10 x2 x9)),(Sl 51 x9.length)],[]⟩) (TmpsLe.refl _) (.same (.same (.arr (M0 (λ_=>rfl) rfl) (.same (.same .nil))))))) (Ib (by kernel_rfl))))))))))) λh=>tS h (gO (Bd (Le.trans (Le.trans (Bk (st':=⟨(gX v4 v19 x2 l5 i4),[(Oi 72 (Qk v19)),(Sl 35 x2.length),(xO l5.length lT (Qf l5) i4.toNat l11.length),(46,.arr 1 4 l11.length (lU l11))],[]⟩) bJ jm q) (J8 (st':=⟨(gX v4 v19 x2 l5 i4),[(Oi 72 (Qk v19)),(Sl 35 x2.length),(n8 l5.length (Qf l5) i4.toNat l11.length),(46,.arr 1 4 l11.length (lU l11))],[]⟩) (TmpsLe.refl _) (.same (.same (.arr (M0 (λ_=>rfl) rfl) (.same .nil)))))) (Ib (by kernel_rfl))))))))) (gA (Ae q bJ jm (Ox (⟨(tG v4 v19 x2 l5 i4),[(Oi 72 (Qk v19)),(Sl 35 x2.length),(xO l5.length lT (Qf l5) i4.toNat x17.length),(lf 46 x17)],[]⟩:St) (tS h (gN (Le.trans (Le.trans (J8 (st':=⟨(tG v4 v19 x2 l5 i4),[(Oi 72 (Qk v19)),(Sl 35 x2.length),(n8 l5.length (Qf l5) i4.toNat x17.length),(lf 46 x17)],[]⟩) (TmpsLe.refl _) (.same (.same (.arr (M0 (λ_=>rfl) rfl) (.same .nil))))) (Le.trans (Le.trans (Le.trans (F1 (nm:=46) (sz:=1) (n:=x17.length) (e:=4) (f:=(λi=>eB (x17.getD i false))) (g:=(λi=>eB (x17.getD i false))) rfl trivial (λ_ _=>rfl) (by rw[hΓ];rfl)) (Ib (st':=⟨(tG v4 v19 x2 l5 i4),[(Oi 72 (Qk v19)),(Sl 35 x2.length),(37,.arr 1 93 l5.length (λi_=>AV.frwAll 46 1 x17.length (λi=>eB (x17.getD i false)) ((E0 (Qf l5) i4.toNat 0 [(.vsl 46 x17.length)]) i_))),(Sl 46 x17.length)],[]⟩) (by kernel_rfl))) (J8 (st':=⟨(tG v4 v19 x2 l5 i4),[(Oi 72 (Qk v19)),(Sl 35 x2.length),(37,.arr 1 93 l5.length (λi=>uK ((l5.set i4.toNat x17).getD i []))),(Sl 46 x17.length)],[]⟩) (TmpsLe.refl _) (.same (.same (.arr (pX (λ_=>rfl) (λ_=>rfl) rfl) (.same .nil)))))) (Ib (Bx (λk_:Nat=>(⟨[(1,(Ax v4)),Tz,(5,(Ax (Qg v19))),(6,(XB x2 35)),(Ue 37 k_),(8,(.int .i64 (w64 (i4+1))))],[(Oi 72 (Qk v19)),(Sl 35 x2.length),(37,.arr 1 93 k_ (λi=>uK ((l5.set i4.toNat x17).getD i []))),(Sl 46 x17.length)],[]⟩:St)) (show l5.length=(l5.set i4.toNat x17).length from(Cm ..).symm))))) (Bk bJ NE q)))))))))))))))))) λh=>tS h (gO (Bd (Bk [1,5,7] [37] q))))) λx19 h=>gA (tV q [1,5,7,11] Li h λh=>by exact M4 (Le.trans (Sp 75 (show ∀ k_,k_<((Qg v19).toNat)->AVleL ((λi_=>AV.eraseAll gZ ((λ_=>[Px]) i_)) k_) ((λi=>Ay ((List.replicate (Qg v19).toNat (0:Int)).getD i 0)) k_) from(λk hk=>Mi (e:=Ay) (d:=(0:Int)) (.cons (AVle.refl _) .nil) _ k (Mn hk)))) (Sq (λ(k_:Nat) u=>(Cs u [(11,(.vsl 75 k_))] [(75,.arr 1 3 k_ (λi=>Ay ((List.replicate (Qg v19).toNat (0:Int)).getD i 0)))])) (show(Qg v19).toNat=(List.replicate (Qg v19).toNat (0:Int)).length from(K1 ..).symm))) (Ae q PB Li (tL q h PB Li (λu (i22,l23)=>(Cs u [(11,(.vsl 75 l23.length)),(C6 12 i22)] [(AQ 75 l23)])) (λu l24=>aG Γ (.exit 4) (⟨[(11,(.vsl 75 l24.length))],[(AQ 75 l24)],[]⟩:St)) (λ⟨i22,l23⟩ y h=>Ae q [1,5,7,11,12,78] Li (gC h (λh=>tC h λc25_ h=>tU q PB Li (c2 c25_ (Eq.refl l23.length)) (M4 (Le.trans (Sp 75 (show ∀ k_,k_<l23.length->AVleL ((λi_=>AV.eraseAll gZ ((E0 (λi=>Ay (l23.getD i 0)) i22.toNat 0 [(.int .i64 (-2:Int))]) i_)) k_) ((λi=>Ay ((WX l23 i22).getD i 0)) k_) from(Bc (Cm ..).symm (λk_ hk_=>(Bx (AV.eraseAll gZ) ((Fq (λ_ _=>rfl) (Gs c25_) rfl) k_ hk_)).trans rfl)))) (Sq (λ(k_:Nat) u=>(Cs u [(11,(.vsl 75 k_))] [(75,.arr 1 3 k_ (λi=>Ay ((WX l23 i22).getD i 0)))])) (show l23.length=(WX l23 i22).length from(Cm ..).symm))) (tB h λx28 y28 h=>gJ y28 (λl26=>aG Γ .normal (⟨[(1,(Ax v4)),(5,(Ax (Qg v19))),(Ue 37 x19.length),(11,(.vsl 75 l26.length)),(C6 12 i22)],[(37,.arr 1 93 x19.length (λi=>uK (x19.getD i []))),(AQ 75 l26)],[]⟩:St)) (λy h=>Ae q [1,5,7,11,12,86] Li (gC h (λh=>tC h λc27_ h=>tU q PB Li (c2 c27_ (Eq.refl ((WX l23 i22).length))) (tS h (gK (Bd (Le.trans (Le.trans (Sp 75 (show ∀ k_,k_<((WX l23 i22).length)->AVleL ((λi_=>AV.eraseAll gZ ((E0 (λi=>Ay ((WX l23 i22).getD i 0)) i22.toNat 0 [(.int .i64 (-1:Int))]) i_)) k_) ((λi=>Ay (((WX l23 i22).set i22.toNat (-1:Int)).getD i 0)) k_) from(Bc (Cm ..).symm (λk_ hk_=>(Bx (AV.eraseAll gZ) ((Fq (λ_ _=>rfl) (Gs c27_) rfl) k_ hk_)).trans rfl)))) (Sq (λ(k_:Nat) u=>(Cs u [(11,(.vsl 75 k_))] [(75,.arr 1 3 k_ (λi=>Ay (((WX l23 i22).set i22.toNat (-1:Int)).getD i 0)))])) (show(WX l23 i22).length=((WX l23 i22).set i22.toNat (-1:Int)).length from(Cm ..).symm))) Jh))))) λh=>tS h (gK (Bd (Bk PB Li q))))) (gA (Ae q bH Li (tL q h bH Li (λu (i30,l31)=>(Cs u [(11,(.vsl 75 l31.length)),(C6 13 i30)] [(AQ 75 l31)])) (λu l32=>aG Γ (.exit 6) (Oz PB Li u [(11,(.vsl 75 l32.length))] [(AQ 75 l32)])) (λ⟨i30,l31⟩ y h=>tU q [1,5,7,11,12,13,97] Li (Lz ((decide (i30<(Qg v19)))==true) (c1 (L0 (decide (i30<(Qg v19)))))) (gC h (λh=>tB h λx46 y46 h=>gJ y46 (λl33=>aG Γ .normal (⟨[(1,(Ax v4)),(5,(Ax (Qg v19))),(Ue 37 x19.length),(11,(.vsl 75 l33.length)),(C6 12 i22),(C6 13 i30)],[(37,.arr 1 93 x19.length (λi=>uK (x19.getD i []))),(AQ 75 l33)],[]⟩:St)) (λy h=>tC h λc34_ h=>tC h λc35_ h=>tU q [1,5,7,11,12,13,112] Li (Lz (nr i30 i22) (cu c34_ (gI (nr i30 i22)) (show((nr i30 i22)=true->(x19.length=x19.length)) from(λhg=>rfl)) (Lz (nr i30 i22) (ci c35_ (Lz (nr i30 i22) (c1 (Ld (i30==i22)))))))) (gC h (λh=>tS h (gK (Bd (Bk bH Li q)))) λh=>tW q jT Li lE Li (tL q h lE Li (λu (b36,i37)=>(Cs u [(14,(.bool b36)),(C6 15 i37)] [])) (λu b38=>aG Γ (.exit 8) (Oz jT Li u [(14,(.bool b38))] [])) (λ⟨b36,i37⟩ y h=>Ae q [1,5,7,11,12,13,14,15,115] Li (gC h (λh=>tC h λc39_ h=>tC h λc40_ h=>tC h λc41_ h=>tC h λc42_ h=>tU q lE Li (Za (b36==true) (Lz (lS b36 i37 i22) (cu c39_ (gI (lS b36 i37 i22)) (show((lS b36 i37 i22)=true->(x19.length=x19.length)) from(λhg=>rfl)) (Lz (lS b36 i37 i22) (ci c40_ (Lz (lS b36 i37 i22) (cu (gI (b36==true)) (show((b36==true)=true->((i37==i22)=false->(lS b36 i37 i22)=true)) from(λhg=>(aF hg))) (gI (b36==true)) (Lz (lR b36 i37 i22 x19) (cu c41_ (gI (lR b36 i37 i22 x19)) (show((lR b36 i37 i22 x19)=true->(x19.length=x19.length)) from(λhg=>rfl)) (Lz (lR b36 i37 i22 x19) (c5 c42_ (gI (lR b36 i37 i22 x19)) (gI (b36==true)) (show((b36==true)=true->((bif (i37==i22) then true else(!((x19.getD i37.toNat []).getD i22.toNat false)))=false->(lR b36 i37 i22 x19)=true)) from(λhg=>(aF hg))) (L0 b36)))))))))))) (Ae q lE Li (tN h))) λh=>tS h (gO (Bd (Bk jT Li q))))) λx43 h=>gA (Ae q [1,5,7,11,12,13,143] Li (gC h (λh=>tC h λc45_ h=>tU q bH Li (c2 c45_ (Eq.refl l31.length)) (tS h (gK (Bd (Le.trans (Le.trans (Sp 75 (show ∀ k_,k_<l31.length->AVleL ((λi_=>AV.eraseAll gZ ((E0 (λi=>Ay (l31.getD i 0)) i22.toNat 0 [(Ax i30)]) i_)) k_) ((λi=>Ay ((l31.set i22.toNat i30).getD i 0)) k_) from(Bc (Cm ..).symm (λk_ hk_=>(Bx (AV.eraseAll gZ) ((Fq (λ_ _=>rfl) (Gs c45_) rfl) k_ hk_)).trans rfl)))) (Sq (λ(k_:Nat) u=>(Cs u [(11,(.vsl 75 k_))] [(75,.arr 1 3 k_ (λi=>Ay ((l31.set i22.toNat i30).getD i 0)))])) (show l31.length=(l31.set i22.toNat i30).length from(Cm ..).symm))) Jh))))) λh=>tS h (gK (Bd (Bk bH Li q)))))))) (gA (Ae q bH Li (tN h)))) λh=>tS h (gO (Bd (Bk PB Li q))))) λx48 h=>gA (Ae q PB Li (tN h)))))))) λh=>tS h (gO (Bd (Bk [11] [75] q))))) λx50 h=>gA (Ae q [4] [75] (Ox ((oA 75 x50.length x50):St) (tS h (gK (e:=.ret) (Ht [(75,20000)] (Le.trans (F1 (nm:=75) (sz:=1) (n:=x50.length) (e:=3) (f:=(λi=>Ay (x50.getD i 0))) (g:=(λi=>Ay (x50.getD i 0))) rfl ⟨rfl,trivial⟩ (λ_ _=>rfl) (by rw[hΓ];rfl)) (Ib (st':=(n9 x50 75 x50.length)) (by kernel_rfl)))))))))))))))))
def Cl(aC:Am):Xg->Option (LR (Int×Am) (Unit ⊕ Am)):=
 λ((i1,l2):Xg)=>(bif (bif (bif (decide ((l2.length:Int)<(aC.length:Int))) then(decide ((0:Int)<=i1)) else false) then(decide (i1<(aC.length:Int))) else false) then(Aw (l2.length+([i1]:Am).length<=room) (Aw (A0 i1 aC.length) (bif ((aC.getD i1.toNat 0)==-1) then(some (.done (.inr (l2++([i1]:Am))))) else(Aw (A0 i1 aC.length) (some (.next ((aC.getD i1.toNat 0),(l2++([i1]:Am))))))))) else(some (.done (.inl ()))))
def BV(Γ:Il)(aC:Am)(aD:Int)(r:Am):Exit->St->Prop:=fK Tryz.prog Γ Tryz.f46.results.toList [] (WP r 20000) [(20000,.tok 1 3 r.length)]
def lV:AV:=oC
def zV(l2:Am)(aC:Am)(i1:Int):=(bif (decide ((l2.length:Int)<(aC.length:Int))) then(decide ((0:Int)<=i1)) else false)
def zX:=(Z52:St)
def zW(aC:Am)(aD:Int):=(⟨[(0,(Rp aC)),(1,(Ax aD)),(5,(AV.list 1 Ay 0 ([]:Am) (.own 5005)))],[(5005,.tok 1 3 (([]:Am).length))],[]⟩:St)
def Gd(aC:Am)(aD:Int):Option Am:=
 ((Ac (Cl aC) (aD,([]:Am))).bind (λx6=>(match x6 with|(.inl _)=>(some ([]:Am))|(.inr r8)=>(some r8))))
theorem M6(h:Gd v0 v4=some v1):sP 46 [(Rp v0),(Ax v4)] [] (WP v1 20000) [(20000,.tok 1 3 v1.length)]:=
 sG Tryz.func46 λΓ q=>gR q E6 [] [(4,lV)] [] (c1 (Bh 1 Ay (0:Int))) (gR q Qd [] [(5,lV)] [] (c1 (Bh 1 Ay (0:Int))) (M4 (st':=(zW v0 v4)) (Le.trans (Bk (st':=⟨[(0,(Rp v0)),(1,(Ax v4)),(5,lV)],[],[]⟩) Qd [] q) (Le.trans (Nl (t:=5) (nm:=5005) (sz':=1) (λi=>Ay (([]:Am).getD i 0)) 3 rfl rfl (.inl ⟨rfl,rfl⟩) (λh_=>absurd h_ (by decide))) (Bk (st':=(zW v0 v4)) Qd [5005] q))) (tL q h Qd [5005] (λu (i1,l2)=>(Cs u [(1,(Ax i1)),(5,(WP l2 5005))] [(5005,.tok 1 3 l2.length)])) (λu x_=>match x_ with|(.inl _)=>aG Γ (.exit 0) (⟨[],[],[]⟩:St)|(.inr r_)=>aR (BV Γ v0 v4 r_)) (λ⟨i1,l2⟩ y h=>tU q [0,1,5,20] [5005] (SB (gI ((decide ((l2.length:Int)<(v0.length:Int)))==true)) (L0 (decide ((l2.length:Int)<(v0.length:Int)))) (Za ((zV l2 v0 i1)==true) (c1 (L0 (zV l2 v0 i1))))) (gC h (λh=>tC h λc3_ h=>gR q Qd [5005] [(23,(tc i1)),(24,(AV.list 1 Ay 0 (l2++([i1]:Am)) (.own 5005)))] [] (c5 (Ca 1 Ay (0:Int) ([i1]:Am)) (Eq.refl l2.length) c3_ (Kh 1 5005 Ay (0:Int) l2 ([i1]:Am)) (Ft l2 ([i1]:Am))) (tV q [0,1,5,29] [5005] h λh=>gC h (λh=>Ae q [4] [5005] (tS h (gO (Lj (Ht [(5005,20000)] (Le.refl _ _)))))) λh=>tV q Qd [5005] h λh=>tN h)) λh=>tS h (gO (Bd (Bk [] [] q))))) λx6 h=>(match x6,h with | .inl _,h=>gA (gR q [4] [] [(4,lV)] [] (c1 (Bh 1 Ay (0:Int))) (Ox (⟨[(4,lV)],[],[]⟩:St) (tS h (gK (e:=.ret) (Ht cj (show Le Γ _ zX from Le.trans (Bk (st':=⟨[(4,lV)],[],[]⟩) [4] [] q) (Le.trans (Nl (t:=4) (nm:=6004) (sz':=1) (λi=>Ay (([]:Am).getD i 0)) 3 rfl rfl (.inl ⟨rfl,rfl⟩) (λh_=>absurd h_ (by decide))) (Bk (st':=zX) [4] [6004] q)))))))) | .inr r8,h=>Pz (λst' hk=>tS h (gK hk))))))
def B2(aC:Am):Hr->Option (LR (Int×Int) (Int ⊕ Bool)):=
 λ((i1,i2):Hr)=>(bif (decide (i2<(aC.length:Int))) then(Option.bind (α:=Int) (Aw (A0 i2 aC.length) (bif ((aC.getD i2.toNat 0)==-1) then(some (w64 (i1+1))) else(some i1))) (λx6=>(Aw (A0 i2 aC.length) ((bif (((aC.getD i2.toNat 0)!=-2)==true) then Gd aC i2 else some []).bind λx9=>(bif (bif ((aC.getD i2.toNat 0)!=-2) then((x9.length:Int)==0) else false) then(some (.done (.inr false))) else(some (.next (x6,(w64 (i2+1)))))))))) else(some (.done (.inl i1))))
def Zy(Γ:Il)(aC:Am)(r:Bool):Exit->St->Prop:=fK Tryz.prog Γ Tryz.f45.results.toList [] (.bool r) []
def tI(aC:Am)(i2:Int):=((aC.getD i2.toNat 0)!=-2)
def J3(aC:Am):Option Bool:=
 ((Ac (B2 aC) ((0:Int),(0:Int))).bind (λx10=>(match x10 with|(.inl i3)=>(some (i3==1))|(.inr r12)=>(some r12))))
theorem Yq(h:J3 v0=some v5):sP 45 [(Rp v0)] [] (.bool v5) []:=
 sG Tryz.func45 λΓ q=>tW q [0] [] Ou [] (Ae q Ik [] (tL q h Ik [] (λu (i1,i2)=>(Cs u [(3,(Ax i1)),(4,(Ax i2))] [])) (λu x_=>match x_ with|(.inl i3)=>aG Γ (.exit 0) (⟨[(3,(Ax i3))],[],[]⟩:St)|(.inr r_)=>aR (Zy Γ v0 r_)) (λ⟨i1,i2⟩ y h=>Ae q [0,3,4,8] [] (gC h (λh=>tB h λx6 y6 h=>gJ y6 (λi4=>aG Γ .normal (⟨[(0,(Rp v0)),(3,(Ax i4)),(4,(Ax i2))],[],[]⟩:St)) (λy h=>tV q [0,3,4,15] [] h λh=>gC h (λh=>Ae q Ik [] (tS h (gK (Bd Jh)))) λh=>tS h (gK (Bd (Bk Ik [] q)))) (gA (tC h λc8_ h=>tB h λx9 y9 h=>tT q [0,3,4,29] [] [⟨[],[],(Rp x9),[],[],[]⟩] (ci c8_ (Lz ((tI v0 i2)==true) (ci (show(((tI v0 i2)==true)=true->(sP 46 [(Rp v0),(Ax i2)] [] (Rp x9) [])) from(λhg=>(Spec.drop (M6 (B0 hg y9))))) (Lz ((tI v0 i2)==true) (c1 (L0 (tI v0 i2))))))) (gC h (λh=>Ae q [2] [] (tS h (gO (Lj (Ht [] (Le.refl _ _)))))) λh=>Ae q Ik [] (tN h))))) λh=>tS h (gO (Bd (Bk [3] [] q))))) λx10 h=>(match x10,h with | .inl i3,h=>gA (Ae q [2] [] (tS h (Bi []))) | .inr r12,h=>Pz (λst' hk=>tS h (gK hk)))))
def Eb(x2:Am)(x3:Am):Int->Option (LR Int (Unit ⊕ Int)):=
 λ(i4:Int)=>(bif (decide (i4<(x2.length:Int))) then(Aw (A0 i4 x2.length) ((G9 x3 (x2.getD i4.toNat 0)).bind λx6=>(bif x6 then(Aw (A0 i4 x2.length) (some (.done (.inr (x2.getD i4.toNat 0))))) else(some (.next (w64 (i4+1))))))) else(some (.done (.inl ()))))
def BU(Γ:Il)(aC:Am)(aD:Int)(aE:Int)(r:Int):Exit->St->Prop:=fK Tryz.prog Γ Tryz.f24.results.toList [] (.int .i64 r) []
def Ku(aC:Am)(aD:Int)(aE:Int):Option Int:=
 ((J3 aC).bind λx1=>(bif (!x1) then(some (-2:Int)) else((Gd aC aD).bind λx2=>((Gd aC aE).bind λx3=>((Ac (Eb x2 x3) (0:Int)).bind (λx8=>(match x8 with|(.inl _)=>(some (-2:Int))|(.inr r10)=>(some r10))))))))
theorem BF(h:Ku v0 v4 v13=some v21):sP 24 [(Rp v0),(Ax v4),(Ax v13)] [] (.int .i64 v21) []:=
 sG Tryz.func24 λΓ q=>Ae q Zv [] (tB h λx1 y1 h=>tT q [0,1,2,12] [] [(Z8 x1)] (c1 (Yq y1)) (gC h (λh=>Ae q [6] [] (tS h (Bi []))) λh=>tB h λx2 y2 h=>tT q WH [15] [(Z72 15 x2 x2.length)] (c1 (M6 y2)) (tB h λx3 y3 h=>tT q Wp NH [(Z72 18 x3 x3.length)] (c1 (M6 y3)) (Ae q [7,8,9] NH (tL q h [7,8,9] NH (λu i4=>(Cs u [(9,(Ax i4))] [])) (λu x_=>match x_ with|(.inl _)=>aG Γ (.exit 0) (⟨[],[],[]⟩:St)|(.inr r_)=>aR (BU Γ v0 v4 v13 r_)) (λi4 y h=>Ae q [7,8,9,22] NH (gC h (λh=>tC h λc5_ h=>tB h λx6 y6 h=>tT q [7,8,9,30] NH [(Z8 x6)] (c2 c5_ (N0 y6)) (gC h (λh=>tV q [6] [] h λh=>tS h (gO (Lj (Ht [] (Le.refl _ _))))) λh=>Ae q [7,8,9] NH (tN h))) λh=>tS h (gO (Bd (Bk [] [] q))))) λx8 h=>(match x8,h with | .inl _,h=>gA (Ae q [6] [] (tS h (Bi []))) | .inr r10,h=>Pz (λst' hk=>tS h (gK hk))))))))
open Go Go.RowKit
set_option maxRecDepth 100000
set_option maxHeartbeats 2000000
def Fk(x4:List Cb):Int->Option (LR Int (Unit ⊕ Int)):=
 λ(i5:Int)=>(bif (decide (i5<(x4.length:Int))) then(Aw (A0 i5 x4.length) ((Ff ((x4.getD i5.toNat default).V)).bind λx7=>(Aw (((!x7)==false)=true->(A0 i5 x4.length)) ((bif ((!x7)==false) then Eo x4 ((x4.getD i5.toNat default).V) else some (0:Int)).bind λx9=>(bif (bif (!x7) then true else(x9 !=i5)) then(some (.done (.inr (7:Int)))) else(some (.next (w64 (i5+1))))))))) else(some (.done (.inl ()))))
def Dw(x4:List Cb)(x12:List Cz):Int->Option (LR Int (Unit ⊕ Int)):=
 λ(i13:Int)=>(bif (decide (i13<(x12.length:Int))) then(Aw (A0 i13 x12.length) ((Eo x4 ((x12.getD i13.toNat default).V)).bind λx15=>(bif (decide (x15<0)) then(some (.done (.inr (7:Int)))) else(some (.next (w64 (i13+1))))))) else(some (.done (.inl ()))))
def Dx(x4:List Cb)(x12:List Cz):Int->Option (LR Int (Unit ⊕ Int)):=
 λ(i18:Int)=>(bif (decide (i18<(x12.length:Int))) then(Aw (A0 i18 x12.length) ((Eo x4 ((x12.getD i18.toNat default).V)).bind λx20=>(Aw (A0 x20 x4.length) (Aw (A0 i18 x12.length) (bif (!((((x4.getD x20.toNat default).Shape.1:Int)==(x12.getD i18.toNat default).Shape.1)&&((((x4.getD x20.toNat default).Shape.2:Int)==(x12.getD i18.toNat default).Shape.2)&&true))) then(some (.done (.inr (6:Int)))) else(some (.next (w64 (i18+1))))))))) else(some (.done (.inl ()))))
def Cx(x4:List Cb)(x12:List Cz)(x26:Am):Int->Option (LR Int (Unit ⊕ Int)):=
 λ(i27:Int)=>(bif (decide (i27<(x12.length:Int))) then(Option.bind (α:=(Unit ⊕ Int)) (Aw (A0 i27 x12.length) ((Eo x4 ((x12.getD i27.toNat default).V)).bind λx29=>(Aw (A0 x29 x4.length) (bif (bif (decide (((x4.getD x29.toNat default).Block:Int)<0)) then true else(bif (((x4.getD x29.toNat default).Block:Int)==(x12.getD i27.toNat default).Block) then(decide (((x4.getD x29.toNat default).At:Int)<(x12.getD i27.toNat default).At)) else false)) then(some (.inl ())) else((bif ((((x4.getD x29.toNat default).Block:Int)==(x12.getD i27.toNat default).Block)==false) then Ku x26 ((x4.getD x29.toNat default).Block) ((x12.getD i27.toNat default).Block) else some (0:Int)).bind λx31=>(bif (bif (((x4.getD x29.toNat default).Block:Int)==(x12.getD i27.toNat default).Block) then true else(x31 !=(x4.getD x29.toNat default).Block)) then(some (.inr (7:Int))) else(some (.inl ())))))))) (λx32=>(match x32 with|(.inl _)=>(some (.next (w64 (i27+1))))|(.inr r34)=>(some (.done (.inr r34)))))) else(some (.done (.inl ()))))
def Hh(Γ:Il)(a1:TFunc)(a8:Int)(r:Int):Exit->St->Prop:=fK Tryz.prog Γ Tryz.f7.results.toList [] (.int .i64 r) []
def nu(x4:List Cb)(x29:Int):=((decide (((x4.getD x29.toNat default).Block:Int)<0))==false)
def ga(x4:List Cb)(x29:Int)(x12:List Cz)(i27:Int):=(((x4.getD x29.toNat default).Block:Int)==(x12.getD i27.toNat default).Block)
def Fh(a1:TFunc)(a8:Int):Option Int:=
 (bif (bif (decide (a8<0)) then true else(decide ((2:Int)<a8))) then(some (1:Int)) else((Jb a1).bind λx1=>(bif (!x1) then(some (4:Int)) else((J5 a1).bind λx2=>(bif (!x2) then(some (5:Int)) else((J6 a1 a8).bind λx3=>(bif (!x3) then(some (6:Int)) else((Kw a1).bind λx4=>((Ac (Fk x4) (0:Int)).bind (λx10=>(match x10 with|(.inl _)=>((Kx a1).bind λx12=>((Ac (Dw x4 x12) (0:Int)).bind (λx16=>(match x16 with|(.inl _)=>((Ac (Dx x4 x12) (0:Int)).bind (λx23=>(match x23 with|(.inl _)=>((Js a1).bind λx25=>((Kv x25.1 (0:Int)).bind λx26=>((Ac (Cx x4 x12 x26) (0:Int)).bind (λx35=>(match x35 with|(.inl _)=>(some (0:Int))|(.inr r37)=>(some r37))))))|(.inr r38)=>(some r38))))|(.inr r39)=>(some r39)))))|(.inr r40)=>(some r40))))))))))))
theorem Yr(h:Fh v3 v4=some v13):sP 7 [(XC v3),(Ax v4)] [] (.int .i64 v13) []:=
 sG Tryz.func7 λΓ q=>Ae q Pe [2] (tU q [1,2,21] [2] (c2 (gI ((decide (v4<0))==false)) (Ld (decide (v4<0)))) (gC h (λh=>Ae q [4] [] (tS h (Bi []))) λh=>tB h λx1 y1 h=>tT q [1,2,24] [2] [(Z8 x1)] (c1 (DG y1)) (gC h (λh=>Ae q [4] [] (tS h (Bi []))) λh=>tB h λx2 y2 h=>tT q [1,2,27] [2] [(Z8 x2)] (c1 (Yt y2)) (gC h (λh=>Ae q [4] [] (tS h (Bi []))) λh=>tB h λx3 y3 h=>tT q [2,31] [2] [(Z8 x3)] (c1 (Yu y3)) (gC h (λh=>Ae q [4] [] (tS h (Bi []))) λh=>tB h λx4 y4 h=>tT q Wo EL [⟨[],[(20000,33)],(AV.list 5 Py default x4 (.own 20000)),[(Ng 20000 65 x4.length)],[],[]⟩] (c1 (BH y4)) (Ae q Xn EL (tL q h Xn EL (λu i5=>(Cs u [(6,(Ax i5))] [])) (λu x_=>match x_ with|(.inl _)=>aG Γ (.exit 0) (Oz Wo EL u [] [])|(.inr r_)=>aR (Hh Γ v3 v4 r_)) (λi5 y h=>Ae q [2,5,6,37] EL (gC h (λh=>tC h λc6_ h=>tB h λx7 y7 h=>tC h λc8_ h=>tB h λx9 y9 h=>tT q [2,5,6,57] EL [(Z8 x7),(XA x9)] (SB c6_ (Ml y7) (Lz ((!x7)==false) (ci c8_ (mF ((!x7)==false) (ci (λ(hg:((!x7)==false)=true)=>(J7 (B0 hg y9))) (Lz ((!x7)==false) (c1 (Ld (!x7))))))))) (gC h (λh=>Ae q [4] [] (tS h (gO (Lj (Ht [] (Le.refl _ _)))))) λh=>Ae q Xn EL (tN h))) λh=>tS h (gO (Bd (Bk Wo EL q))))) λx10 h=>(match x10,h with | .inl _,h=>gA (tB h λx12 y12 h=>tT q WJ Vb [⟨[],[(20000,59)],(AV.list 5 O5 default x12 (.own 20000)),[(Ng 20000 69 x12.length)],[],[]⟩] (c1 (BI y12)) (Ae q [2,5,7,8] Vb (tL q h [2,5,7,8] Vb (λu i13=>(Cs u [(8,(Ax i13))] [])) (λu x_=>match x_ with|(.inl _)=>aG Γ (.exit 2) (Oz WJ Vb u [] [])|(.inr r_)=>aR (Hh Γ v3 v4 r_)) (λi13 y h=>Ae q [2,5,7,8,63] Vb (gC h (λh=>tC h λc14_ h=>tB h λx15 y15 h=>tT q [2,5,7,8,73] Vb [(XA x15)] (c2 c14_ (J7 y15)) (gC h (λh=>Ae q [4] [] (tS h (gO (Lj (Ht [] (Le.refl _ _)))))) λh=>Ae q [2,5,7,8] Vb (tN h))) λh=>tS h (gO (Bd (Bk WJ Vb q))))) λx16 h=>(match x16,h with | .inl _,h=>gA (Ae q [2,5,7,9] Vb (tL q h [2,5,7,9] Vb (λu i18=>(Cs u [(9,(Ax i18))] [])) (λu x_=>match x_ with|(.inl _)=>aG Γ (.exit 4) (Oz WJ Vb u [] [])|(.inr r_)=>aR (Hh Γ v3 v4 r_)) (λi18 y h=>Ae q [2,5,7,9,77] Vb (gC h (λh=>tC h λc19_ h=>tB h λx20 y20 h=>tC h λc21_ h=>tC h λc22_ h=>tT q [2,5,7,9,96] Vb [(XA x20)] (c4 c19_ (J7 y20) c21_ c22_) (gC h (λh=>Ae q [4] [] (tS h (gO (Lj (Ht [] (Le.refl _ _)))))) λh=>Ae q [2,5,7,9] Vb (tN h))) λh=>tS h (gO (Bd (Bk WJ Vb q))))) λx23 h=>(match x23,h with | .inl _,h=>gA (tB h λx25 y25 h=>tT q [5,7,10] [10,33,59] [(n7 x25.1 x25.2)] (c1 (Tt y25)) (tB h λx26 y26 h=>tT q [5,7,12] EK [(Z72 103 x26 x26.length)] (c1 (BG y26)) (Ae q WA EK (tL q h WA EK (λu i27=>(Cs u [(C6 13 i27)] [])) (λu x_=>match x_ with|(.inl _)=>aG Γ (.exit 6) (⟨[],[],[]⟩:St)|(.inr r_)=>aR (Hh Γ v3 v4 r_)) (λi27 y h=>Ae q [5,7,12,13,107] EK (gC h (λh=>tB h λx32 y32 h=>gJ y32 (λx_=>match x_ with|(.inl _)=>aG Γ .normal (⟨[(5,(AV.list 5 Py default x4 (.own 33))),(7,(AV.list 5 O5 default x12 (.own 59))),(12,(WP x26 103)),(C6 13 i27)],[(Ng 33 65 x4.length),(Ng 59 69 x12.length),(103,.tok 1 3 x26.length)],[]⟩:St)|(.inr r_)=>aR (Hh Γ v3 v4 r_)) (λy h=>tV q [5,7,12,13,14] [14,33,59,103] h λh=>tB h λx29 y29 h=>tC h λc30_ h=>tT q [5,7,12,13,14,15] [14,15,33,59,103] [(XA x29)] (c2 (J7 y29) c30_) (tU q [5,7,12,13,14,15,137] [14,15,33,59,103] (pI (nu x4 x29) (mF ((nu x4 x29)&&((ga x4 x29 x12 i27)==true)) (c3 (gI (nu x4 x29)) (show((nu x4 x29)=true->((ga x4 x29 x12 i27)=true->((nu x4 x29)&&((ga x4 x29 x12 i27)==true))=true)) from(λhg=>(aT hg))) (Ld (decide (((x4.getD x29.toNat default).Block:Int)<0)))))) (gC h (λh=>tS h (gK (Bd (Bk WA EK q)))) λh=>tB h λx31 y31 h=>tT q [5,7,12,13,153] EK [(XA x31)] (pI ((ga x4 x29 x12 i27)==false) (ci (λ(hg:((ga x4 x29 x12 i27)==false)=true)=>(BF (B0 hg y31))) (Za ((ga x4 x29 x12 i27)==false) (c1 (Ld (ga x4 x29 x12 i27)))))) (gC h (λh=>Ae q [4] [] (tS h (gK (Lj (Ht [] (Le.refl _ _)))))) λh=>tS h (gK (Bd (Bk WA EK q))))))) (match x32,h with | .inl _,h=>gA (Ae q WA EK (tN h)) | .inr r34,h=>Pz (λst' hk=>tS h (gO (Lj hk))))) λh=>tS h (gO (Bd (Bk [] [] q))))) λx35 h=>(match x35,h with | .inl _,h=>gA (Ae q [4] [] (tS h (Bi []))) | .inr r37,h=>Pz (λst' hk=>tS h (gK hk))))))) | .inr r38,h=>Pz (λst' hk=>tS h (gK hk))))) | .inr r39,h=>Pz (λst' hk=>tS h (gK hk)))))) | .inr r40,h=>Pz (λst' hk=>tS h (gK hk))))))))))
def nv(x1:Am):=(λi=>Qi (x1.getD i 0))
abbrev rD:=(Am×List Ad×Am)
def Kf(a6:Am)(aB:List Ad):Option rD:=
 ((Cy a6).bind λx1=>(some (x1,aB,a6)))
variable{v54:rD}
theorem Lv(h:Kf v0 v33=some v54):sP 11 Y7 (Z5 v0 v33 v33.length) (gf v54.1 20000) (Z92 v54.2.2.length v54.2.1 v54.2.1.length v54.2.2 v54.1.length):=
 sG Tryz.func11 λΓ q=>have hΓ:=q.own;gR q [0] Hb [(2,(AV.list 1 Qi 0 ([]:Am) .exact))] [] (c1 (Bh 1 Qi (0:Int))) (Ae q Wn Hb (CJ false (tB h λx1 y1 h=>tT q [2] ri [⟨[],jq,(.vsl 20000 x1.length),[(20000,.arr 1 5 x1.length (nv x1))],[35000],[]⟩] (c3 (Mt y1) (show(NP [(20000,.arr 1 5 x1.length (nv x1))]) from⟨(λ_ _=>rfl),trivial⟩) (Eq.refl v0.length)) (Ox (⟨[(2,(.vsl 9 x1.length))],[(9,.arr 1 5 x1.length (nv x1)),(KM 30000 35000 v0.length v33 37001),(FV 35000 v0),(AR 37001 v33.length)],[]⟩:St) (tS h (gK (e:=.ret) (Ht wZ (Le.trans (F1 (nm:=9) (sz:=1) (n:=x1.length) (e:=5) (f:=(nv x1)) (g:=(nv x1)) rfl ⟨rfl,trivial⟩ (λ_ _=>rfl) (by rw[hΓ];rfl)) (Ib (st':=⟨[(2,(AV.list 1 Qi 0 x1 (.own 9)))],[(9,.tok 1 5 x1.length),(KM 30000 35000 v0.length v33 37001),(FV 35000 v0),(AR 37001 v33.length)],[]⟩) (by kernel_rfl))))))))))
def lW:AV:=xN
def zY:=(⟨[(2,(AV.list 3 Fs default ([]:List Ad) (.own 6002)))],[(6002,.tok 3 49 (([]:List Ad).length))],[]⟩:St)
def Dn(aY:List Ad):Option (List Ad):=
 (Aw (([]:List Ad).length+aY.length<=room) (some (([]:List Ad)++aY)))
variable{v55:List Ad}
theorem O8(h:Dn v33=some v55):sP 31 [(AV.list 3 Fs default v33 .none)] [] (rz v55 20000) [(AR 20000 v55.length)]:=by
 refine MA mix Tryz.func31 (λΓ hq=>?_);unfold Dn at h;refine gR hq [0] [] [(2,lW)] [] (c1 (Bh 3 Fs (default:Ad))) ?_;refine Ae hq Wn [] ?_;refine Aaj true v33.length (λhb=>?_) (λhb=>?_)
 ·replace h:=ph (some ([]:List Ad)) (λ(l2:List Ad)=>(Aw (([]:List Ad).length+l2.length<=room) (some (([]:List Ad)++l2)))) h (hb rfl) rfl (λh0=>by first|exact h0|simpa [Aw,room] using h0);clear hb;refine gR hq [2] [] [(2,lW)] [] (c1 (Bh 3 Fs (default:Ad))) ?_;refine Ox (⟨[(2,lW)],[],[]⟩:St) ?_;cases h;exact gK (e:=.ret) (Ht jj (show Le Γ _ zY from Le.trans (Bk (st':=⟨[(2,lW)],[],[]⟩) [2] [] hq) (Le.trans (Nl (t:=2) (nm:=6002) (sz':=3) (λi=>Fs (([]:List Ad).getD i default)) 49 rfl rfl (.inl ⟨rfl,rfl⟩) (λh_=>absurd h_ (by decide))) (Bk (st':=zY) [2] [6002] hq))))
 ·clear hb;obtain⟨hc1,h⟩:=Uq h;refine gR hq [2] [7] [(5,lW),(7,(AV.list 3 Fs default (([]:List Ad)++v33) (.own 7)))] [] (ci (show(AVle (.slice 3 0 (λi=>([]:List (List AV)).getD i []) .exact) lW) from gw rfl (λi hi=>absurd hi (Xi i))) (ci hc1 (ci (show(49=DW->([]:List Ad).length=0\/0<v33.length) from(λh_=>absurd h_ (by decide))) (ci (Kh 3 7 Fs (default:Ad) ([]:List Ad) v33) (c1 (Ft ([]:List Ad) v33)))))) ?_;cases h;exact Bi [(7,20000)]
abbrev rE:=(List Ad×List Ad×Am)
def Kg(a6:Am)(aB:List Ad):Option rE:=
 ((Dn aB).bind λx1=>(some (x1,aB,a6)))
variable{v56:rE}
theorem Sa(h:Kg v0 v33=some v56):sP 12 Y7 (Z5 v0 v33 v33.length) (rz v56.1 20000) (tQ v56.2.2.length v56.2.1 v56.2.1.length v56.2.2 v56.1.length):=
 sG Tryz.func12 λΓ q=>gR q [0] Hb [(2,xN)] [] (c1 (Bh 3 Fs (default:Ad))) (Ae q Wn Hb (CJ false (tB h λx1 y1 h=>tT q [2] ri [⟨[],jq,(rz x1 20000),[(AR 20000 x1.length)],[],[]⟩] (c1 (O8 y1)) (tS h (Bi wZ)))))
def Fu(x13:rD)(x15:rE):Int->Option (LR Int (Unit ⊕ Bool)):=
 λ(i17:Int)=>(bif (decide (i17<(x15.1.length:Int))) then(Aw (A0 i17 x15.1.length) (bif (decide (((Et (x13.1.length:Int)):Int)<=(x15.1.getD i17.toNat default).At)) then(some (.done (.inr false))) else(some (.next (w64 (i17+1)))))) else(some (.done (.inl ()))))
def Vd(Γ:Il)(a1:TFunc)(a8:TCase)(r:Bool):Exit->St->Prop:=fK Tryz.prog Γ Tryz.f4.results.toList [] (.bool r) []
def WY:=((Ha 20000):AV)
def RI(x23:Ud):=(x23.2.1==0)
def dJ:=(bif true then WY else .nilp)
def dI:=(bif false then WY else .nilp)
def Ab0(x4:Int):=((x4 !=0)==false)
def KL(a8:TCase):AV:=(gh a8.Mem)
def tM:AV:=(AV.list 1 Qi 0 ([]:Am) .none)
def dH:AV:=(AV.list 3 Fs default ([]:List Ad) .none)
def lc(a8:TCase):List AV:=[(f5 a8.Args),(KL a8),(Ax a8.Fuel)]
def BX(x9:Ud)(x11:Ud):=(bif (x9.2.1==0) then(x11.2.1==0) else false)
def lb(a1:TFunc):List AV:=[(Rp a1.Params),(Ax a1.Ret),(YL a1.Blocks)]
def gb(x9:Ud)(x11:Ud)(x23:Ud)(x25:Ud):=(bif (bif (bif (BX x9 x11) then(RI x23) else false) then(x25.2.1==0) else false) then(((x9.1.Code:Int)==x11.1.Code)&&(((x9.1.Value:Int)==x11.1.Value)&&(((x9.1.Steps:Int)==x11.1.Steps)&&true))) else false)
def xE(x9:Ud)(x11:Ud)(x23:Ud)(x25:Ud):AV:=(.bool (bif (gb x9 x11 x23 x25) then(((x23.1.Code:Int)==x25.1.Code)&&(((x23.1.Value:Int)==x25.1.Value)&&(((x23.1.Steps:Int)==x25.1.Steps)&&true))) else false))
def xA(x9:Ud)(x11:Ud)(x23:Ud)(x25:Ud):=((bif (bif (BX x9 x11) then(RI x23) else false) then(x25.2.1==0) else false)==true)
def xC(x23:Ud):List Uc:=(Z5 x23.2.2.2 x23.2.2.1 x23.2.2.1.length)
def xD(x25:Ud):List Uc:=(Z5 x25.2.2.2 x25.2.2.1 x25.2.2.1.length)
def lZ(x5:ya):List Uc:=(Z9 20000 21000 x5.1.2.bytes x5.1.2.trace 21001 x5.1.2.trace.length)
def la(x7:ya):List Uc:=(Z9 20000 21000 x7.1.2.bytes x7.1.2.trace 21001 x7.1.2.trace.length)
def lX(x21:ya):List Uc:=(Z9 20000 21000 x21.1.2.bytes x21.1.2.trace 21001 x21.1.2.trace.length)
def lY(x40:ya):List Uc:=(Z9 20000 21000 x40.1.2.bytes x40.1.2.trace 21001 x40.1.2.trace.length)
def tJ(x28:rD):List Uc:=(Z92 x28.2.2.length x28.2.1 x28.2.1.length x28.2.2 x28.1.length)
def tK(x31:rD):List Uc:=(Z92 x31.2.2.length x31.2.1 x31.2.1.length x31.2.2 x31.1.length)
def zZ(x35:rE):List Uc:=(tQ x35.2.2.length x35.2.1 x35.2.1.length x35.2.2 x35.1.length)
def ze(x37:rE):List Uc:=(tQ x37.2.2.length x37.2.1 x37.2.1.length x37.2.2 x37.1.length)
def Kb(a1:TFunc)(a8:TCase):Option Bool:=
 (m_locksteplaw13_awake.bind λx1=>(bif (!x1) then(some false) else((J1 a1 a8).bind λx2=>(bif (bif (!x2) then true else(decide (a8.Fuel<0))) then(some true) else((Fh a1 (2:Int)).bind λx4=>(bif (bif (x4 !=0) then true else((a8.Args.length:Int)!=(a1.Params.length:Int))) then(some true) else((P1 a8.Mem).bind λx5=>(bif x5.1.1 then((P1 a8.Mem).bind λx7=>(bif x7.1.1 then((Jr a1 a8.Args a8.Fuel x5.1.2.bytes x5.1.2.trace).bind λx9=>(Aw (x5.1.2.bytes.length=x9.2.2.2.length) ((Jr a1 a8.Args a8.Fuel x7.1.2.bytes x7.1.2.trace).bind λx11=>(Aw (x7.1.2.bytes.length=x11.2.2.2.length) ((Kf x9.2.2.2 x9.2.2.1).bind λx13=>(Aw (x9.2.2.2.length=x13.2.2.length) ((Kg x13.2.2 x13.2.1).bind λx15=>(Aw (x13.2.2.length=x15.2.2.length) ((Ac (Fu x13 x15) (0:Int)).bind (λx19=>(match x19 with|(.inl _)=>((P1 x13.1).bind λx21=>(bif x21.1.1 then((Jr a1 a8.Args a8.Fuel x15.2.2 x15.2.1).bind λx23=>(Aw (x15.2.2.length=x23.2.2.2.length) ((Jr a1 a8.Args a8.Fuel x21.1.2.bytes x21.1.2.trace).bind λx25=>(Aw (x21.1.2.bytes.length=x25.2.2.2.length) (bif (bif (bif (bif (bif (bif (x9.2.1==0) then(x11.2.1==0) else false) then(x23.2.1==0) else false) then(x25.2.1==0) else false) then(((x9.1.Code:Int)==x11.1.Code)&&(((x9.1.Value:Int)==x11.1.Value)&&(((x9.1.Steps:Int)==x11.1.Steps)&&true))) else false) then(((x23.1.Code:Int)==x25.1.Code)&&(((x23.1.Value:Int)==x25.1.Value)&&(((x23.1.Steps:Int)==x25.1.Steps)&&true))) else false) then((Kf x23.2.2.2 x23.2.2.1).bind λx28=>(Aw (x23.2.2.2.length=x28.2.2.length) (Aw (Wr x28.1.length (λi=>Qi (x28.1.getD i 0))) ((Kf x25.2.2.2 x25.2.2.1).bind λx31=>(Aw (x25.2.2.2.length=x31.2.2.length) (Aw (Wr x31.1.length (λi=>Qi (x31.1.getD i 0))) (bif (((V6 x28.1.length (λi=>Qi (x28.1.getD i 0))):Am)==(V6 x31.1.length (λi=>Qi (x31.1.getD i 0)))) then((Kg x28.2.2 x28.2.1).bind λx35=>(Aw (x28.2.2.length=x35.2.2.length) ((Kg x31.2.2 x31.2.1).bind λx37=>(Aw (x31.2.2.length=x37.2.2.length) (some ((x35.1.length:Int)==(w64 ((x15.1.length:Int)+(x37.1.length:Int))))))))) else(some false)))))))) else(some false)))))) else(some false)))|(.inr r39)=>(some r39)))))))))))) else(some false))) else((P1 a8.Mem).bind λx40=>(bif x40.1.1 then(some false) else(some false)))))))))))
theorem ok_locksteplaw13_EvalAgain(a1:TFunc)(a8:TCase)(r:Bool)(h:Kb a1 a8=some r):sP 4 [(XC a1),(.agg (eTCase a8))] [] (.bool r) []:=
 sG Tryz.func4 λΓ q=>Ae q B7 B7 (tB h λx1 y1 h=>tT q [2,3,23] B7 [(Z8 x1)] (c1 (Yl  x1 y1)) (gC h (λh=>Ae q [4] [] (tS h (Bi []))) λh=>tB h λx2 y2 h=>gB h (λhs3 h=>gR q [2,3,46] B7 [(33,(.bool true))] [(Z8 x2),⟨[],[],Px,[],[],[]⟩] (ci (Rg y2) (Lz ((!x2)==false) (xk (Ld (!x2)) (show(AVle (.bool (bif (!x2) then true else(decide (a8.Fuel<0)))) (.bool true)) from(Xu hs3)) (show((true==false)=true->(true==false)=true) from QQ) (show((true==false)=true->(sP 7 [(XC a1),RL] [] Px [])) from QQ) (show((true==false)=true->(true==false)=true) from QQ) (show(true=false->(true==false)=true) from gNt) (show((true==false)=true->(true==false)=true) from QQ) (show((true==false)=true->(true==false)=true) from QQ) (show((true==false)=true->(true==false)=true) from QQ) (c4 (show((true==false)=true->(true==false)=true) from QQ) (show((true==false)=true->(true==false)=true) from QQ) (show((true==false)=true->(true==false)=true) from QQ) (show(true=false->(true==false)=true) from gNt))))) (CJ true (Ae q [4] [] (tS h (Bi []))))) (λhs3 h=>tB h λx4 y4 h=>gR q [2,3,46] B7 [(33,(.bool false))] [(Z8 x2),(XA x4)] (ci (Rg y2) (Lz ((!x2)==false) (d6_ (Ld (!x2)) (show(AVle (.bool (bif (!x2) then true else(decide (a8.Fuel<0)))) (.bool false)) from(Xu hs3)) (show((false==false)=true->(false==false)=true) from(λ_=>rfl)) (show((false==false)=true->(sP 7 [(XC a1),RL] [] (Ax x4) [])) from(λ_=>(Yr y4))) (show((false==false)=true->(false==false)=true) from(λ_=>rfl)) (show(false=false->(false==false)=true) from(λ_=>rfl)) (gI6 (Ab0 x4) (c1 (Ld (x4 !=0))))))) (gC h (λh=>Ae q [4] [] (tS h (Bi []))) λh=>tB h λx5 y5 h=>gB h (λhs6 h=>tT q WI jR [(Z67 50 60050000 60050001 dJ x5.2 (lZ x5))] (c1 (show(sP 8 [(KL a8)] [] (.tuple [dJ,(Ax x5.2)]) (bif true then(lZ x5) else[])) from(sE (λb_:Bool=>sP 8 [(KL a8)] [] (.tuple [(bif b_ then WY else .nilp),(Ax x5.2)]) (bif b_ then(lZ x5) else[])) hs6 (K9 y5)))) (tB h λx7 y7 h=>gB h (λhs8 h=>tT q cr rF [(Z67 56 60056000 60056001 dJ x7.2 (la x7))] (c1 (show(sP 8 [(KL a8)] [] (.tuple [dJ,(Ax x7.2)]) (bif true then(la x7) else[])) from(sE (λb_:Bool=>sP 8 [(KL a8)] [] (.tuple [(bif b_ then WY else .nilp),(Ax x7.2)]) (bif b_ then(la x7) else[])) hs8 (K9 y7)))) (Ox (⟨[Tz,(3,(.ptr 3 0)),(5,(.ptr 50 0)),(7,(.ptr 56 0))],[(Oi 25 (lb a1)),(3,.row 29 (lc a8)),(KM 50 60050000 x5.1.2.bytes.length x5.1.2.trace 60050001),(KM 56 60056000 x7.1.2.bytes.length x7.1.2.trace 60056001),(FV 60050000 x5.1.2.bytes),(AR 60050001 x5.1.2.trace.length),(FV 60056000 x7.1.2.bytes),(AR 60056001 x7.1.2.trace.length)],[]⟩:St) (tU q cf rF (c2 (show((false==false)=true->(false==false)=true) from(λ_=>rfl)) (show(false=false->(false==false)=true) from(λ_=>rfl))) (CJ false (tB h λx9 y9 h=>tC h λc10_ h=>tT q [2,3,5,7,9,10] [2,3,9,50,56,60050000,60050001,60056000,60056001] [(xL 50 60050001 60050000 x9.1 x9.2.1 x9.2.2.2 x9.2.2.1 x9.2.2.1.length)] (c1 (Nx y9)) (tB h λx11 y11 h=>tC h λc12_ h=>tT q [2,3,5,9,10,11,12] [2,3,9,11,50,60050000,60050001] [(xL 56 60056001 60056000 x11.1 x11.2.1 x11.2.2.2 x11.2.2.1 x11.2.2.1.length)] (c1 (Nx y11)) (tB h λx13 y13 h=>tC h λc14_ h=>tT q [2,3,5,9,10,11,12,13] [2,3,9,11,50,86,60050000,60050001] [⟨rm,[(20000,86)],(gf x13.1 20000),(Z92 x13.2.2.length x13.2.1 x13.2.1.length x13.2.2 x13.1.length),[],[]⟩] (c1 (Lv y13)) (tB h λx15 y15 h=>tC h λc16_ h=>tT q jQ OZ [⟨rm,[(20000,88)],(rz x15.1 20000),(tQ x15.2.2.length x15.2.1 x15.2.1.length x15.2.2 x15.1.length),[],[]⟩] (c1 (Sa y15)) (Ox (⟨[Tz,(3,(.ptr 3 0)),(5,(.ptr 50 0)),(9,(.ptr 9 0)),(C6 10 x9.2.1),(11,(.ptr 11 0)),(C6 12 x11.2.1),(13,(gf x13.1 86)),(14,(rz x15.1 88))],[(Oi 25 (lb a1)),(3,.row 29 (lc a8)),(9,.row 39 [(Ax x9.1.Code),(Qh x9.1.Value),(Ax x9.1.Steps)]),(11,.row 39 [(Ax x11.1.Code),(Qh x11.1.Value),(Ax x11.1.Steps)]),(KM 50 60050000 x15.2.2.length x15.2.1 60050001),(86,.tok 1 5 x13.1.length),(AR 88 x15.1.length),(FV 60050000 x15.2.2),(AR 60050001 x15.2.1.length)],[]⟩:St) (Ae q jM OZ (tL q h jM OZ (λu i17=>(Cs u [(C6 15 i17)] [])) (λu x_=>match x_ with|(.inl _)=>aG Γ (.exit 0) (Oz jQ OZ u [] [])|(.inr r_)=>aR (Vd Γ a1 a8 r_)) (λi17 y h=>Ae q [2,3,5,9,10,11,12,13,14,15,92] OZ (gC h (λh=>tV q [2,3,5,9,10,11,12,13,14,15,103] OZ h λh=>gC h (λh=>Ae q [4] [] (tS h (gO (Lj (Ht [] (Le.refl _ _)))))) λh=>Ae q jM OZ (tN h)) λh=>tS h (gO (Bd (Bk jQ OZ q))))) λx19 h=>(match x19,h with | .inl _,h=>gA (tB h λx21 y21 h=>gB h (λhs22 h=>tT q rR wX [(Z67 106 60106000 60106001 dJ x21.2 (lX x21))] (c1 (show(sP 8 [(gh x13.1)] [] (.tuple [dJ,(Ax x21.2)]) (bif true then(lX x21) else[])) from(sE (λb_:Bool=>sP 8 [(gh x13.1)] [] (.tuple [(bif b_ then WY else .nilp),(Ax x21.2)]) (bif b_ then(lX x21) else[])) hs22 (K9 y21)))) (Ae q rO wX (CJ false (tB h λx23 y23 h=>tC h λc24_ h=>tT q [2,3,5,9,10,11,12,14,16,18,19] [2,3,9,11,18,50,88,106,60050000,60050001,60106000,60106001] [(Z80 50 60050001 60050000 x23.1 x23.2.1 (xC x23))] (c1 (Nx y23)) (Ox (⟨[Tz,(3,(.ptr 3 0)),(5,(.ptr 50 0)),(9,(.ptr 9 0)),(C6 10 x9.2.1),(11,(.ptr 11 0)),(C6 12 x11.2.1),(14,(rz x15.1 88)),(16,(.ptr 106 0)),(18,(.ptr 18 0)),(C6 19 x23.2.1)],[(Oi 25 (lb a1)),(3,.row 29 (lc a8)),(9,.row 39 [(Ax x9.1.Code),(Qh x9.1.Value),(Ax x9.1.Steps)]),(11,.row 39 [(Ax x11.1.Code),(Qh x11.1.Value),(Ax x11.1.Steps)]),(18,.row 39 [(Ax x23.1.Code),(Qh x23.1.Value),(Ax x23.1.Steps)]),(KM 50 60050000 x23.2.2.2.length x23.2.2.1 60050001),(AR 88 x15.1.length),(KM 106 60106000 x21.1.2.bytes.length x21.1.2.trace 60106001),(FV 60050000 x23.2.2.2),(AR 60050001 x23.2.2.1.length),(FV 60106000 x21.1.2.bytes),(AR 60106001 x21.1.2.trace.length)],[]⟩:St) (tB h λx25 y25 h=>tC h λc26_ h=>tT q [5,9,10,11,12,14,16,18,19,20,21] [9,11,18,20,50,88,106,60050000,60050001,60106000,60106001] [(Z80 106 60106001 60106000 x25.1 x25.2.1 (xD x25))] (c1 (Nx y25)) (gB h (λhs27 h=>tB h λx28 y28 h=>tC h λc29_ h=>tC h λc30_ h=>tB h λx31 y31 h=>tC h λc32_ h=>tC h λc33_ h=>gB h (λhs34 h=>tB h λx35 y35 h=>tC h λc36_ h=>tB h λx37 y37 h=>tC h λc38_ h=>gR q [4] [] [(155,(.bool true)),(164,(.bool true))] [(Z75 50 60050001 60050000 157 x28.1 (tJ x28)),(Z75 106 60106001 60106000 160 x31.1 (tK x31)),⟨rm,[(20000,166)],(rz x35.1 20000),(zZ x35),[],[]⟩,⟨[(106,30000),(60106001,37001),(60106000,35000)],[(20000,171)],(rz x37.1 20000),(ze x37),[],[]⟩] (d6_ (gI ((x9.2.1==0)==true)) (L0 (x9.2.1==0)) (gI ((BX x9 x11)==true)) (L0 (BX x9 x11)) (gI ((bif (BX x9 x11) then(RI x23) else false)==true)) (L0 (bif (BX x9 x11) then(RI x23) else false)) (Lz (xA x9 x11 x23 x25) (ci (L0 (bif (bif (BX x9 x11) then(RI x23) else false) then(x25.2.1==0) else false)) (Lz ((gb x9 x11 x23 x25)==true) (xk (L0 (gb x9 x11 x23 x25)) (show(AVle (xE x9 x11 x23 x25) (.bool true)) from(Xu hs27)) (gI (true==true)) (show((true==true)=true->(sP 11 Y7 (xC x23) (gf x28.1 20000) (tJ x28))) from(λ_=>(Lv y28))) (gI (true==true)) (show((true==true)=true->(Wr x28.1.length (λi=>Qi (x28.1.getD i 0)))) from(λ_=>c30_)) (gI (true==true)) (show((true==true)=true->(sP 11 Y7 (xD x25) (gf x31.1 20000) (tK x31))) from(λ_=>(Lv y31))) (gI (true==true)) (ci (show((true==true)=true->(Wr x31.1.length (λi=>Qi (x31.1.getD i 0)))) from(λ_=>c33_)) (Lz (true==true) (SC (show(true=true->(true==true)=true) from(λ_=>rfl)) (show(AVle (zy x28.1 x31.1) (.bool true)) from(Xu hs34)) (gI (true==true)) (show((true==true)=true->(sP 12 Y7 (Z5 x28.2.2 x28.2.1 x28.2.1.length) (rz x35.1 20000) (zZ x35))) from(λ_=>(Sa y35))) (Za (true==true) (ci (show((true==true)=true->(sP 12 Y7 (Z5 x31.2.2 x31.2.1 x31.2.1.length) (rz x37.1 20000) (ze x37))) from(λ_=>(Sa y37))) (pI (true==true) (c1 (show(true=true->(true==true)=true) from(λ_=>rfl)))))))))))))) (tS h (Bi []))) (λhs34 h=>gR q [4] [] [(155,(.bool true)),(164,(.bool false))] [(Z75 50 60050001 60050000 157 x28.1 (tJ x28)),(Z75 106 60106001 60106000 160 x31.1 (tK x31)),⟨[],[],dH,[],[],[]⟩,⟨[],[],dH,[],[],[]⟩] (d6_ (gI ((x9.2.1==0)==true)) (L0 (x9.2.1==0)) (gI ((BX x9 x11)==true)) (L0 (BX x9 x11)) (gI ((bif (BX x9 x11) then(RI x23) else false)==true)) (L0 (bif (BX x9 x11) then(RI x23) else false)) (Lz (xA x9 x11 x23 x25) (ci (L0 (bif (bif (BX x9 x11) then(RI x23) else false) then(x25.2.1==0) else false)) (Lz ((gb x9 x11 x23 x25)==true) (xk (L0 (gb x9 x11 x23 x25)) (show(AVle (xE x9 x11 x23 x25) (.bool true)) from(Xu hs27)) (gI (true==true)) (show((true==true)=true->(sP 11 Y7 (xC x23) (gf x28.1 20000) (tJ x28))) from(λ_=>(Lv y28))) (gI (true==true)) (show((true==true)=true->(Wr x28.1.length (λi=>Qi (x28.1.getD i 0)))) from(λ_=>c30_)) (gI (true==true)) (show((true==true)=true->(sP 11 Y7 (xD x25) (gf x31.1 20000) (tK x31))) from(λ_=>(Lv y31))) (gI (true==true)) (ci (show((true==true)=true->(Wr x31.1.length (λi=>Qi (x31.1.getD i 0)))) from(λ_=>c33_)) (Lz (true==true) (SC (show(true=true->(true==true)=true) from(λ_=>rfl)) (show(AVle (zy x28.1 x31.1) (.bool false)) from(Xu hs34)) (gI (false==true)) (show((false==true)=true->(sP 12 [.any] [] dH [])) from QQ) (Za (false==true) (ci (show((false==true)=true->(sP 12 [.any] [] dH [])) from QQ) (pI (false==true) (c1 (show(false=true->(false==true)=true) from QQ))))))))))))) (tS h (Bi [])))) (λhs27 h=>gR q [4] [] [(155,(.bool false))] [⟨[],[],tM,[],[],[]⟩,⟨[],[],tM,[],[],[]⟩,⟨[],[],dH,[],[],[]⟩,⟨[],[],dH,[],[],[]⟩] (d6_ (gI ((x9.2.1==0)==true)) (L0 (x9.2.1==0)) (gI ((BX x9 x11)==true)) (L0 (BX x9 x11)) (gI ((bif (BX x9 x11) then(RI x23) else false)==true)) (L0 (bif (BX x9 x11) then(RI x23) else false)) (Lz (xA x9 x11 x23 x25) (ci (L0 (bif (bif (BX x9 x11) then(RI x23) else false) then(x25.2.1==0) else false)) (Lz ((gb x9 x11 x23 x25)==true) (xk (L0 (gb x9 x11 x23 x25)) (show(AVle (xE x9 x11 x23 x25) (.bool false)) from(Xu hs27)) (gI (false==true)) (show((false==true)=true->(sP 11 [.any] [] tM [])) from QQ) (gI (false==true)) (show((false==true)=true->(Wr ([]:Am).length (λi=>Qi (([]:Am).getD i 0)))) from QQ) (gI (false==true)) (show((false==true)=true->(sP 11 [.any] [] tM [])) from QQ) (gI (false==true)) (ci (show((false==true)=true->(Wr ([]:Am).length (λi=>Qi (([]:Am).getD i 0)))) from QQ) (Lz (false==true) (cu (show(false=true->(false==true)=true) from QQ) (gI (false==true)) (show((false==true)=true->(sP 12 [.any] [] dH [])) from QQ) (Za (false==true) (ci (show((false==true)=true->(sP 12 [.any] [] dH [])) from QQ) (pI (false==true) (c1 (show(false=true->(false==true)=true) from QQ))))))))))))) (tS h (Bi [])))))))))) (λhs22 h=>tT q rR rM [(tX dI x21.2 (lX x21))] (c1 (show(sP 8 [(gh x13.1)] [] (.tuple [dI,(Ax x21.2)]) (bif false then(lX x21) else[])) from(sE (λb_:Bool=>sP 8 [(gh x13.1)] [] (.tuple [(bif b_ then WY else .nilp),(Ax x21.2)]) (bif b_ then(lX x21) else[])) hs22 (K9 y21)))) (Ae q rO rM (CJ true (Ae q [4] [] (Ox (⟨[(4,(.bool false))],[],[]⟩:St) (tS h (Bi [])))))))) | .inr r39,h=>Pz (λst' hk=>tS h (gK hk)))))))))))))) (λhs8 h=>tT q cr jR [(tX dI x7.2 (la x7))] (c1 (show(sP 8 [(KL a8)] [] (.tuple [dI,(Ax x7.2)]) (bif false then(la x7) else[])) from(sE (λb_:Bool=>sP 8 [(KL a8)] [] (.tuple [(bif b_ then WY else .nilp),(Ax x7.2)]) (bif b_ then(la x7) else[])) hs8 (K9 y7)))) (Ox (⟨[Tz,(3,(.ptr 3 0)),(5,(.ptr 50 0)),(7,.nilp)],[(Oi 25 (lb a1)),(3,.row 29 (lc a8)),(KM 50 60050000 x5.1.2.bytes.length x5.1.2.trace 60050001),(FV 60050000 x5.1.2.bytes),(AR 60050001 x5.1.2.trace.length)],[]⟩:St) (tU q cf jR (c2 (show((false==false)=true->(false==false)=true) from(λ_=>rfl)) (show(false=false->(false==false)=true) from(λ_=>rfl))) (CJ true (Ae q [4] [] (tS h (Bi []))))))))) (λhs6 h=>tT q WI B7 [(tX dI x5.2 (lZ x5))] (c1 (show(sP 8 [(KL a8)] [] (.tuple [dI,(Ax x5.2)]) (bif false then(lZ x5) else[])) from(sE (λb_:Bool=>sP 8 [(KL a8)] [] (.tuple [(bif b_ then WY else .nilp),(Ax x5.2)]) (bif b_ then(lZ x5) else[])) hs6 (K9 y5)))) (tB h λx40 y40 h=>gB h (λhs41 h=>tT q cr rT [(Z67 56 60056000 60056001 dJ x40.2 (lY x40))] (c1 (show(sP 8 [(KL a8)] [] (.tuple [dJ,(Ax x40.2)]) (bif true then(lY x40) else[])) from(sE (λb_:Bool=>sP 8 [(KL a8)] [] (.tuple [(bif b_ then WY else .nilp),(Ax x40.2)]) (bif b_ then(lY x40) else[])) hs41 (K9 y40)))) (Ox (⟨[Tz,(3,(.ptr 3 0)),(5,.nilp),(7,(.ptr 56 0))],[(Oi 25 (lb a1)),(3,.row 29 (lc a8)),(KM 56 60056000 x40.1.2.bytes.length x40.1.2.trace 60056001),(FV 60056000 x40.1.2.bytes),(AR 60056001 x40.1.2.trace.length)],[]⟩:St) (tU q cf rT (c2 (show((true==false)=true->(true==false)=true) from QQ) (show(true=false->(true==false)=true) from gNt)) (CJ true (Ae q [4] [] (tS h (Bi []))))))) (λhs41 h=>tT q cr B7 [(tX dI x40.2 (lY x40))] (c1 (show(sP 8 [(KL a8)] [] (.tuple [dI,(Ax x40.2)]) (bif false then(lY x40) else[])) from(sE (λb_:Bool=>sP 8 [(KL a8)] [] (.tuple [(bif b_ then WY else .nilp),(Ax x40.2)]) (bif b_ then(lY x40) else[])) hs41 (K9 y40)))) (Ox (⟨[Tz,(3,(.ptr 3 0)),(5,.nilp),(7,.nilp)],[(Oi 25 (lb a1)),(3,.row 29 (lc a8))],[]⟩:St) (tU q cf B7 (c2 (show((true==false)=true->(true==false)=true) from QQ) (show(true=false->(true==false)=true) from gNt)) (CJ true (Ae q [4] [] (tS h (Bi [])))))))))))))
open Go Go.RowKit
theorem Ij{n:Int}(h:-9223372036854775808<=n)(h':n<9223372036854775808):w64 n=n:=by
 show IntKind.i64.wrap n=n
 simp only[IntKind.wrap,IntKind.bits,IntKind.signed]
 simp
 split<;>omega
theorem Og{n:Int}(h:0<=n)(h':n<18446744073709551616):Et n=n:=by
 show IntKind.u64.wrap n=n
 simp[IntKind.wrap,IntKind.bits,IntKind.signed];omega
theorem VB(n:Int):Et n=n % 18446744073709551616:=by
 show IntKind.u64.wrap n=_
 simp[IntKind.wrap,IntKind.bits,IntKind.signed]
theorem ZU(w n:Nat)(h:n<2 ^ w):(BitVec.ofInt w (n:Int)).toNat=n:=by
 rw[BitVec.toNat_ofInt,<- Int.natCast_emod,Dq,Nat.mod_eq_of_lt h]
theorem fh(k:IntKind)(hk:k.signed=false){n:Nat}(h:n<2 ^ k.bits):k.wrap (n:Int)=n:=by
 simp only[IntKind.wrap,hk,MS,OT,I7]
 have:((2:Int) ^ k.bits)=((2 ^ k.bits:Nat):Int):=by simp
 rw[this,<- Int.natCast_emod,Nat.mod_eq_of_lt h]
theorem tn(k:IntKind)(hk:k.signed=false){a b:Nat}(ha:a<2 ^ k.bits)(hb:b<2 ^ k.bits):Lq .or k a b=((a ||| b:Nat):Int):=by
 simp only[Lq,BitVec.toNat_or,ZU _ _ ha,ZU _ _ hb];exact fh k hk (Nat.or_lt_two_pow ha hb)
theorem yN(k:IntKind)(hk:k.signed=false)(j:Nat){a b:Nat}(ha:a<2 ^ j)(hb:a+b*2 ^ j<2 ^ k.bits){y:Int}(hy:y=((b*2 ^ j:Nat):Int)):Lq .or k a y=((a+b*2 ^ j:Nat):Int):=by
 subst hy;rw[tn k hk (by omega) (by omega),Nat.or_comm,GU b,<- Nat.two_pow_add_eq_or_of_lt ha,Nat.add_comm]
theorem Aa{R:Type}{p:Prop}[Decidable p]{k:Option R}(h:p):Aw p k=k:=if_pos h
theorem OH{S X:Type}(f:S->Option (LR S X))(s:S):N6 (f s) f=Ac f s:=by
 unfold N6
 cases h:f s with
 | none=>rw[Option.bind_none,R5 h]
 | some y=>cases y with
  | next s'=>rw[Au h];rfl
  | done x=>rw[An h];rfl
theorem d7{x:Int}(j:Nat):x.fdiv (2 ^ j)=x / 2 ^ j:=by rw[Int.fdiv_eq_ediv_of_nonneg _ (by exact Int.le_of_lt (Int.pow_pos (by decide)))]
theorem Ag{α:Type}(l:List α)(i:Nat)(d:α)(h:i<l.length):l.getD i d=l[i]:=by simp[List.getD,h]
theorem UT{α:Type}(l:List α)(i:Nat)(d:α)(h:i<l.length):l.take (i+1)=l.take i++[l.getD i d]:=by
 rw[List.take_add_one,Ag _ _ _ h];simp[h]
theorem oi{l:List Int}{f:Nat->List AV}(h:∀ i,f i=[.int .u8 (l.getD i 0)])(hl:∀ x∈l,0<=x/\x<256):Wr l.length f:=λi hi=>by
 rw[h i];refine⟨rfl,?_⟩;simp only[AV.num];rw[Ag _ _ _ hi];exact hl _ (MR hi)
set_option maxRecDepth 100000
theorem kinds(k:Int):k=0\/k=1\/k=2\/k=3\/k=4\/k=5\/k=6\/k=7\/k=8\/k=9\/k=10\/k=11\/k=12\/k=13\/k=14\/k=15\/k=16\/k=17\/k=18\/k=19\/k=20\/k=21\/k=22\/(k<0\/22<k):=by omega
theorem ik{k:Int}(h:k<0\/22<k):(k==0)=false/\(k==1)=false/\(k==2)=false/\(k==3)=false/\(k==4)=false/\(k==5)=false/\(k==6)=false/\(k==7)=false/\(k==8)=false/\(k==9)=false/\(k==10)=false/\(k==11)=false/\(k==12)=false /\
  (k==13)=false/\(k==14)=false/\(k==15)=false/\(k==16)=false/\(k==17)=false/\(k==18)=false/\(k==19)=false/\(k==20)=false/\(k==21)=false/\(k==22)=false:=by
 simp only[zzL40];omega
def widthB(b:Int):Bool:=b==1 || b==8 || b==16 || b==32 || b==64
def X8(b n:Int):Bool:=widthB b&&(n==1 || ((n==2 || n==4 || n==8 || n==16)&&decide (8<=b)&&decide (b*n<=128)))
theorem width_cases{b:Int}(h:widthB b=true):b=1\/b=8\/b=16\/b=32\/b=64:=by simp[widthB]at h;omega
theorem Qa{b n:Int}(h:X8 b n=true):widthB b=true:=by simp[X8]at h;exact h.1
theorem P9{b n:Int}(h:X8 b n=true):n=1\/n=2\/n=4\/n=8\/n=16:=by simp[X8]at h;omega
theorem Xf(b:Int):Ep b=some (widthB b):=by
 unfold Ep widthB
 by_cases h1:b=1
 ·subst h1;rfl
 by_cases h2:b=8
 ·subst h2;rfl
 by_cases h3:b=16
 ·subst h3;rfl
 by_cases h4:b=32
 ·subst h4;rfl
 by_cases h5:b=64
 ·subst h5;rfl
 have e1:(b==1)=false:=by simpa using h1
 have e2:(b==8)=false:=by simpa using h2
 have e3:(b==16)=false:=by simpa using h3
 have e4:(b==32)=false:=by simpa using h4
 have e5:(b==64)=false:=by simpa using h5
 simp[e1,e2,e3,e4,e5]
theorem S6(b:Int):C4 b=some (widthB b):=by
 cases(b==1)<;>cases(b==8)<;>cases(b==16)<;>cases(b==32)<;>rfl
theorem iJ(b n:Int):T4 b n=some (X8 b n):=by
 unfold T4;simp only[Xf,Ar]
 by_cases hn:n=1\/n=2\/n=4\/n=8\/n=16
 ·cases hw:widthB b with
  | false=>rcases hn with rfl|rfl|rfl|rfl|rfl<;>simp[X8,hw]
  | true=>
   rcases width_cases hw with rfl|rfl|rfl|rfl|rfl<;>rcases hn with rfl|rfl|rfl|rfl|rfl<;>rfl
 ·have e1:(n==1)=false:=by simp;omega
  have e2:(n==2)=false:=by simp;omega
  have e3:(n==4)=false:=by simp;omega
  have e4:(n==8)=false:=by simp;omega
  have e5:(n==16)=false:=by simp;omega
  simp[X8,e1,e2,e3,e4,e5]
theorem mi(b n:Int):J2 b n=some (X8 b n):=by
 unfold J2;simp only[S6,Ar]
 cases hw:widthB b with
 | false=>simp[X8,hw]
 | true=>
  by_cases hn:n=1\/n=2\/n=4\/n=8\/n=16
  ·rcases width_cases hw with rfl|rfl|rfl|rfl|rfl<;>rcases hn with rfl|rfl|rfl|rfl|rfl<;>rfl
  ·have e1:(n==1)=false:=by simp;omega
   have e2:(n==2)=false:=by simp;omega
   have e3:(n==4)=false:=by simp;omega
   have e4:(n==8)=false:=by simp;omega
   have e5:(n==16)=false:=by simp;omega
   simp[X8,e1,e2,e3,e4,e5]
theorem qr{v b:Int}(hv:0<=v/\v<18446744073709551616)(hb:widthB b=true):Fb v b=some (v % 2 ^ b.toNat):=by
 unfold Fb;simp only[Xf,hb,Ar,D3,A2]
 have key:∀ j:Nat,j<64->O0 .u64 (Tm .u64 v (j:Int)) (j:Int)=(v*2 ^ j % 18446744073709551616) / 2 ^ j:=λj hj=>by
  simp only[O0,Tm,Dq,IntKind.bits];rw[Nat.min_eq_left (by omega),d7,show IntKind.u64.wrap (v*2 ^ j)=v*2 ^ j % 18446744073709551616 from VB _]
 rcases width_cases hb with rfl|rfl|rfl|rfl|rfl
 ·have:=key 63 (by decide);simp only[show w64 (64-1)=((63:Nat):Int) from rfl,this];rw[Aa (by decide),Aa (by decide)];congr 1;simp only[show((1:Int).toNat)=1 from rfl];omega
 ·have:=key 56 (by decide);simp only[show w64 (64-8)=((56:Nat):Int) from rfl,this];rw[Aa (by decide),Aa (by decide)];congr 1;simp only[show((8:Int).toNat)=8 from rfl];omega
 ·have:=key 48 (by decide);simp only[show w64 (64-16)=((48:Nat):Int) from rfl,this];rw[Aa (by decide),Aa (by decide)];congr 1;simp only[show((16:Int).toNat)=16 from rfl];omega
 ·have:=key 32 (by decide);simp only[show w64 (64-32)=((32:Nat):Int) from rfl,this];rw[Aa (by decide),Aa (by decide)];congr 1;simp only[show((32:Int).toNat)=32 from rfl];omega
 ·have:=key 0 (by decide);simp only[show w64 (64-64)=((0:Nat):Int) from rfl,this];rw[Aa (by decide),Aa (by decide)];congr 1;simp only[show((64:Int).toNat)=64 from rfl];omega
theorem vD{v b:Int}(hv:0<=v/\v<18446744073709551616)(hb:widthB b=true):Ln v b=some (v % 2 ^ b.toNat):=by
 unfold Ln;simp only[S6,hb,Ar,D3,A2];rcases width_cases hb with rfl|rfl|rfl|rfl|rfl
 ·rw[show((1:Int)==64)=false from rfl,A2,Aa (by decide),Aa (by decide),show Tm .u64 (1:Int) (Et 1)=2 ^ (1:Int).toNat from rfl,Int.tmod_eq_emod_of_nonneg hv.1]
 ·rw[show((8:Int)==64)=false from rfl,A2,Aa (by decide),Aa (by decide),show Tm .u64 (1:Int) (Et 8)=2 ^ (8:Int).toNat from rfl,Int.tmod_eq_emod_of_nonneg hv.1]
 ·rw[show((16:Int)==64)=false from rfl,A2,Aa (by decide),Aa (by decide),show Tm .u64 (1:Int) (Et 16)=2 ^ (16:Int).toNat from rfl,Int.tmod_eq_emod_of_nonneg hv.1]
 ·rw[show((32:Int)==64)=false from rfl,A2,Aa (by decide),Aa (by decide),show Tm .u64 (1:Int) (Et 32)=2 ^ (32:Int).toNat from rfl,Int.tmod_eq_emod_of_nonneg hv.1]
 ·rw[show((64:Int)==64)=true from rfl,Af]
  congr 1
  simp only[show((64:Int).toNat)=64 from rfl];omega
theorem bo{i:Int}(h:0<=i/\i<18446744073709551616):Nt i=some (widthB i):=by
 unfold Nt
 by_cases hi:i<=64
 ·have:w64 i=i:=Ij (by omega) (by omega);simp[hi,this,Xf]
 ·have:widthB i=false:=by simp[widthB];omega
  simp[hi,this]
def f8(k:Int):Bool:=decide (0<=k)&&decide (k<=22)
def L4(k n:Int):Int:=
 bif k==0 then 0 else bif k==13 || k==18 || k==19 then 3 else bif k==14 || k==15 || k==16 || k==22 then 1 else bif k==20 then 4 else bif k==21 then n else 2
def sfitS(k b n:Int):Bool:=
 bif k==16 || k==17 then decide (8<=b) else bif k==18 || k==19 then decide (8<=b)&&n==1 else
 bif k==4 || k==10 || k==11 || k==12 || k==14 || k==15 || k==20 then n==1 else bif k==21 || k==22 then decide (1<n) else true
def ifitS(k b n i:Int):Bool:=
 bif k==0 then i % 2 ^ b.toNat==i else bif k==14 then widthB i&&decide (i<b) else bif k==15 then widthB i&&decide (b<i) else bif k==22 then decide (i<n) else i==0
def valS(v:Int):Bool:=decide (1<=v)&&decide (v<=1023)
def dstS(k d:Int):Bool:=bif k==17 || k==19 then d==0 else valS d
def Jq(o:C5):Bool:=X8 o.Bits o.Lanes&&(f8 o.Kind&&sfitS o.Kind o.Bits o.Lanes&&ifitS o.Kind o.Bits o.Lanes o.Imm&&((o.Args.length:Int)==L4 o.Kind o.Lanes))&&(o.Args.all valS&&dstS o.Kind o.Dst)
def Ds(o:C5)(i:Nat):Int×Int:=
 bif o.Kind==13 || o.Kind==20 then(bif Nat.beq i 0 then(1,1) else(o.Bits,o.Lanes)) else bif o.Kind==14 || o.Kind==15 then(w64 o.Imm,1) else
 bif o.Kind==16 || o.Kind==17 then(bif Nat.beq i 0 then(64,1) else(o.Bits,o.Lanes)) else
 bif o.Kind==18 || o.Kind==19 then(bif Nat.beq i 1 then(64,1) else bif Nat.beq i 0 then(1,1) else(o.Bits,o.Lanes)) else bif o.Kind==21 then(o.Bits,1) else(o.Bits,o.Lanes)
def Rm(o:C5):List (Int×Int):=(List.range (L4 o.Kind o.Lanes).toNat).map (Ds o)
def R3(k b n:Int):Int×Int:=bif k==17 || k==19 then(0,0) else bif k==10 || k==11 || k==12 then(1,1) else bif k==22 then(b,1) else(b,n)
theorem xp{k:Int}(h:f8 k=true):0<=k/\k<=22:=by simpa [f8] using h
theorem JB{k:Int}(h:k<0\/22<k):f8 k=false:=by simp[f8];omega
theorem eD(k:Int):Ss k=some (f8 k):=by unfold Ss f8;cases decide ((0:Int)<=k)<;>rfl
theorem X7(v:Int):Ns v=some (valS v):=by unfold Ns valS;cases decide ((1:Int)<=v)<;>rfl
theorem FF(v:Int):Ff v=some (valS v):=by
 unfold Ff valS
 have e1:decide ((0:Int)<v)=decide (1<=v):=by congr 1
 have e2:decide (v<(1024:Int))=decide (v<=1023):=by apply zzL61.2;omega
 rw[e1,e2]
 cases decide ((1:Int)<=v)<;>rfl
theorem SR(o:C5):Oa o=some (sfitS o.Kind o.Bits o.Lanes):=by
 obtain⟨k,b,n,d,args,i⟩:=o;rcases kinds k with rfl|rfl|rfl|rfl|rfl|rfl|rfl|rfl|rfl|rfl|rfl|rfl|rfl|rfl|rfl|rfl|rfl|rfl|rfl|rfl|rfl|rfl|rfl|h
 any_goals rfl
 ·show some (bif decide (8<=b) then n==1 else false)=some (decide (8<=b)&&n==1);cases decide (8<=b)<;>rfl
 ·show some (bif decide (8<=b) then n==1 else false)=some (decide (8<=b)&&n==1);cases decide (8<=b)<;>rfl
 ·unfold Oa sfitS;simp[ik h]
theorem SQ(o:C5):Q0 o=some (R3 o.Kind o.Bits o.Lanes):=by
 obtain⟨k,b,n,d,args,i⟩:=o;rcases kinds k with rfl|rfl|rfl|rfl|rfl|rfl|rfl|rfl|rfl|rfl|rfl|rfl|rfl|rfl|rfl|rfl|rfl|rfl|rfl|rfl|rfl|rfl|rfl|h
 any_goals rfl
 unfold Q0 R3;simp[ik h]
theorem bn(o:C5)(hw:widthB o.Bits=true)(hn:0<=o.Lanes/\o.Lanes<=16)(hi:0<=o.Imm/\o.Imm<18446744073709551616):Q1 o=some (ifitS o.Kind o.Bits o.Lanes o.Imm):=by
 unfold Q1 ifitS
 have hb:Et o.Bits=o.Bits:=by apply Og<;>(rcases width_cases hw with h|h|h|h|h<;>omega)
 have hl:Et o.Lanes=o.Lanes:=by apply Og<;>omega
 rw[qr hi hw,bo hi,hb,hl]
 cases(o.Kind==0)<;>cases(o.Kind==14)<;>cases(o.Kind==15)<;>cases(o.Kind==22)<;>cases widthB o.Imm<;>rfl
set_option maxHeartbeats 2000000 in
theorem qL (o : C5) (hs : X8 o.Bits o.Lanes = true) (hk : f8 o.Kind = true) (hi : 0 ≤ o.Imm ∧ o.Imm < 18446744073709551616) : Ga o = some (sfitS o.Kind o.Bits o.Lanes && ifitS o.Kind o.Bits o.Lanes o.Imm) := by
  have hw := Qa hs; have hl := P9 hs; obtain ⟨k, b, n, d, args, i⟩ := o; simp only at hs hk hi hw hl ⊢
  have hb : Et b = b := by apply Og <;> (rcases width_cases hw with h | h | h | h | h <;> omega)
  have hn : Et n = n := by apply Og <;> omega
  have hb8 : decide (b < 8) = !decide (8 ≤ b) := by rw [← decide_not]; apply zzL61.2; omega
  have hn2 : decide (n < 2) = !decide (1 < n) := by rw [← decide_not]; apply zzL61.2; omega
  have h14 : (bif decide (i < b) then widthB (w64 i) else false) = (widthB i && decide (i < b)) := by
    by_cases h : i < b
    · have : w64 i = i := Ij (by omega) (by rcases width_cases hw with h | h | h | h | h <;> omega); simp [h, this]
    · simp [h]
  have h15 : (bif (bif decide (b < i) then decide (i ≤ 64) else false) then widthB (w64 i) else false) = (widthB i && decide (b < i)) := by
    by_cases h : i ≤ 64
    · have : w64 i = i := Ij (by omega) (by omega)
      by_cases h2 : b < i <;> simp [h, this, h2]
    · have : widthB i = false := by simp [widthB]; omega
      simp [h, this]
  have hc := vD (v := i) hi hw; rcases kinds k with rfl | rfl | rfl | rfl | rfl | rfl | rfl | rfl | rfl | rfl | rfl | rfl | rfl | rfl | rfl | rfl | rfl | rfl | rfl | rfl | rfl | rfl | rfl | h
  case inl => unfold Ga; simp [hc, sfitS, ifitS]
  all_goals first
    | (rw [JB h] at hk; cases hk)
    | (unfold Ga sfitS ifitS
       simp only [hb8]
       generalize decide (8 ≤ b) = u at *
       clear hc h14 h15 hb8 hw hs; rcases hl with rfl | rfl | rfl | rfl | rfl <;> cases u <;> simp_all
       done)
    | (unfold Ga sfitS ifitS
       rw [hb]; simp only [S6]; clear hc hs
       generalize decide (i < b) = p at *
       generalize decide (b < i) = q at *
       generalize decide (i ≤ 64) = r at *
       generalize widthB (w64 i) = s at *
       rcases hl with rfl | rfl | rfl | rfl | rfl <;> cases p <;> cases q <;> cases r <;> cases s <;> simp_all
       done)
theorem Hi{α X:Type}(l:List α)(d:α)(p:α->Bool)(f:Int->Option (LR Int X))(yes no:X)(hn:∀ i:Nat,i<l.length->p (l.getD i d)=true->f i=some (.next ((i:Int)+1)))
  (hf:∀ i:Nat,i<l.length->p (l.getD i d)=false->f i=some (.done no)) (he:f l.length=some (.done yes)):∀(k i:Nat),i+k=l.length->Ac f i=some (bif (l.drop i).all p then yes else no)
 | 0,i,h=>by
  obtain rfl:i=l.length:=by omega
  rw[An he]
  simp
 | k+1,i,h=>by
  have hi:i<l.length:=by omega
  have hd:l.drop i=l.getD i d::l.drop (i+1):=by simp_all
  cases hp:p _ with
  | true=>
   rw[Au (hn i hi hp)];have:=Hi l d p f yes no hn hf he k (i+1) (by omega);rw[show((i:Int)+1)=(i+1:Nat) by omega,this,hd,GT,hp,Mx]
  | false=>
   rw[An (hf i hi hp),hd,GT,hp,MS,A2]
theorem SW{α X:Type}(n:Nat)(g:Nat->α)(f:List α×Int->Option (LR (List α×Int) X))(out:List α->X)(hn:∀(l:List α) (i:Nat),i<n->l.length=i->f (l,(i:Int))=some (.next (l++[g i],(i:Int)+1)))
  (he:∀ l:List α,l.length=n->f (l,(n:Int))=some (.done (out l))):∀(k i:Nat) (l:List α),i+k=n->l=(List.range i).map g->Ac f (l,(i:Int))=some (out ((List.range n).map g))
 | 0,i,l,h,hl=>by
  obtain rfl:i=n:=by omega
  subst hl;exact An (he _ (by simp))
 | k+1,i,l,h,hl=>by
  subst hl;rw[Au (hn _ i (by omega) (by simp))];exact SW n g f out hn he k (i+1) _ (by omega) (by simp[Zr])
theorem JE{α:Type}(l:List α)(d:α)(wt:α->Nat)(C:Nat)(f:Int×Int->Option (LR (Int×Int) Int))
  (hn:∀(n i:Nat),i<l.length->n<=C->∃ m:Nat,f ((n:Int),(i:Int))=some (.next ((m:Int),((i+1:Nat):Int)))/\(n+wt (l.getD i d)<=C->m=n+wt (l.getD i d))/\(m<=C->n+wt (l.getD i d)<=C))
  (hd:∀(n i:Nat),i<=l.length->(i=l.length\/C<n)->f ((n:Int),(i:Int))=some (.done (n:Int))) :
  ∀(k i n:Nat),i+k=l.length->∃ m:Nat,Ac f ((n:Int),(i:Int))=some (m:Int)/\(n+((l.drop i).map wt).sum<=C->m=n+((l.drop i).map wt).sum)/\(m<=C->n+((l.drop i).map wt).sum<=C)
 | 0,i,n,h=>by
  obtain rfl:i=l.length:=by omega
  refine⟨n,An (hd n _ (zzL8 _) (.inl rfl)),?_,?_⟩
  ·simp
  ·simp
 | k+1,i,n,h=>by
  have hi:i<l.length:=by omega
  have hdr:l.drop i=l.getD i d::l.drop (i+1):=by rw[OQ hi,Ag _ _ _ hi]
  by_cases hC:n<=C
  ·obtain⟨m,h1,h2,h3⟩:=hn n i hi hC;obtain⟨m',h4,h5,h6⟩:=JE l d wt C f hn hd k (i+1) m (by omega);refine⟨m',by rw[Au h1];exact h4,λhle=>?_,λhle=>?_⟩
   ·rw[hdr,C1,List.sum_cons]at hle ⊢;have:=h2 (by omega);subst this;rw[h5 (by omega)];omega
   ·rw[hdr,C1,List.sum_cons];have h7:=h6 hle;have h8:=h3 (by omega);have:=h2 h8;omega
  ·refine⟨n,An (hd n i (by omega) (.inr (by omega))),λhle=>by omega,λhle=>by omega⟩
theorem Us{X:Type}(N:Nat)(f:Int×Int->Option (LR (Int×Int) X))(hn:∀(n:Int) (i:Nat),i<N->(∃ m:Int,f (n,(i:Int))=some (.next (m,((i+1:Nat):Int))))\/∃ x,f (n,(i:Int))=some (.done x))(hd:∀ n:Int,∃ x,f (n,(N:Int))=some (.done x)) :
  ∀(k i:Nat) (n:Int),i+k=N->∃ x,Ac f (n,(i:Int))=some x
 | 0,i,n,h=>by
  obtain rfl:i=N:=by omega
  obtain⟨x,hx⟩:=hd n;exact⟨x,An hx⟩
 | k+1,i,n,h=>by
  rcases hn n i (by omega) with⟨m,hm⟩|⟨x,hx⟩
  ·obtain⟨x,hx⟩:=Us N f hn hd k (i+1) m (by omega);exact⟨x,by rw[Au hm];exact hx⟩
  ·exact⟨x,An hx⟩
theorem KZ{α X:Type}(l:List α)(d:α)(wt:α->Nat)(out:Int->X)(f:Int×Int->Option (LR (Int×Int) X))
  (hn:∀(n i:Nat),i<l.length->f (w64 n,(i:Int))=some (.next (w64 ((n+wt (l.getD i d):Nat):Int),((i+1:Nat):Int)))) (hd:∀ n:Int,f (n,(l.length:Int))=some (.done (out n))) :
  ∀(k i n:Nat),i+k=l.length->Ac f (w64 n,(i:Int))=some (out (w64 ((n+((l.drop i).map wt).sum:Nat):Int)))
 | 0,i,n,h=>by
  obtain rfl:i=l.length:=by omega
  rw[An (hd _)]
  simp
 | k+1,i,n,h=>by
  have hi:i<l.length:=by omega
  have hdr:l.drop i=l.getD i d::l.drop (i+1):=by simp_all
  rw[Au (hn n i hi),KZ l d wt out f hn hd k _ _ (by omega),hdr,C1,List.sum_cons,EJ]
theorem KB(a b:Int):w64 (w64 a+b)=w64 (a+b):=by
 simp only[IntKind.wrap,IntKind.bits,IntKind.signed]
 simp
 split<;>split<;>omega
theorem Ai{α:Type}{l:List α}{i:Nat}{d:α}(h:i<l.length):l.getD i d∈l:=by grind
theorem Ak{i n:Nat}(h:i<n):A0 (i:Int) n:=⟨by omega,by exact_mod_cast h⟩
theorem A8{i n:Nat}(h:i<n)(hn:n<9223372036854775808):w64 ((i:Int)+1)=(i:Int)+1:=Ij (by omega) (by omega)
def pL(l:List Int):Prop:=∀ x∈l,0<=x/\x<=2147483647
theorem Dt{S X:Type}(f:S->Option (LR S X))(T:Nat->S)(x:X):∀(n:Nat),(∀ i,i<n->f (T i)=some (.next (T (i+1))))->f (T n)=some (.done x)->Ac f (T 0)=some x:=by
 suffices h:∀(k i n:Nat),i+k=n->(∀ j,i<=j->j<n->f (T j)=some (.next (T (j+1))))->f (T n)=some _->Ac f (T i)=some x from
  λn h1 h2=>h n 0 n (by omega) (λj _ hj=>h1 j hj) h2
 intro k
 induction k with
 | zero=>
  intro i n hi _ h2
  have hin:n=i:=by omega
  subst hin;exact An h2
 | succ k ih=>intro i n hi h1 h2;rw[Au (h1 i (zzL8 _) (by omega))];exact ih _ n (by omega) (λj hj hj'=>h1 j (by omega) hj') h2
theorem XK{S X:Type}(f:S->Option (LR S X))(T:Nat->S):∀(n:Nat),(∀ i,i<n->f (T i)=some (.next (T (i+1))))->Ac f (T 0)=Ac f (T n):=by
 intro n
 induction n with
 | zero=>intro _;rfl
 | succ n ih=>intro h;rw[ih (λi hi=>h i (by omega)),Au (h n (by omega))]
theorem Hv{S X:Type}(f:S->Option (LR S X))(T:Nat->S)(p:Nat->Bool)(yes no:X)(n:Nat)(hn:∀ i,i<n->p i=true->f (T i)=some (.next (T (i+1))))(hf:∀ i,i<n->p i=false->f (T i)=some (.done no))
  (he:f (T n)=some (.done yes)):Ac f (T 0)=some (bif (List.range n).all p then yes else no):=by
 cases hall:(List.range n).all p with
 | true=>
  exact Dt f T yes n (λi hi=>hn i hi (zzL34.1 hall i (zzL37.2 hi))) he
 | false=>
  have hex:∃ i,i<n/\p i=false:=by
   grind
  obtain⟨m,hm⟩:=hex
  have key:∀ m,m<n->p m=false->∃ k,k<n/\p k=false/\∀ j,j<k->p j=true:=by
   intro m
   induction m using Nat.strongRecOn with
   | ind m ih=>
    intro h1 h2
    by_cases h:∃ j,j<m/\p j=false
    ·obtain⟨j,hj,hpj⟩:=h;exact ih j hj (by omega) hpj
    ·grind
  obtain⟨k,hk,hpk,hlt⟩:=key m hm.1 hm.2;rw[XK f T k (λi hi=>hn i (by omega) (hlt i hi))];exact An (hf k hk hpk)
theorem all_range{n:Nat}{p:Nat->Bool}:(List.range n).all p=true↔∀ i,i<n->p i=true:=by
 grind
theorem Aq(i:Nat):((i:Int)).toNat=i:=Dq i
theorem w1{i:Nat}(h:i<4611686018427387904):w64 ((i:Int)+1)=((i+1:Nat):Int):=by rw[Ij (by omega) (by omega)];omega
theorem B8{i n:Nat}(h:i<n):decide (((i:Nat):Int)<((n:Nat):Int))=true:=by simpa using h
theorem Ee{n:Nat}:decide (((n:Nat):Int)<((n:Nat):Int))=false:=by simp
theorem inb{i n:Nat}(h:i<n):A0 ((i:Nat):Int) n:=Ak h
theorem Aal{x:Int}{n:Nat}(h0:0<=x)(h1:x<n):A0 x n:=⟨h0,h1⟩
structure dA(o:C5):Prop where
 imm:0<=o.Imm/\o.Imm<18446744073709551616
 args:o.Args.length<=200
theorem iv(x:Int×Int)(n:Int)(h:n=2\/n=4\/n=8\/n=16):Cg [x] n=some (List.replicate n.toNat x):=by
 let d:Int×Int:=(0,0)
 rcases h with rfl|rfl|rfl|rfl
 ·have e:Cg [x] 2=(Ac Db (1,[x,d])).bind some:=by kernel_rfl
  rw[e,Au (s':=(2,[x,x])) (by kernel_rfl)]
  rfl
 ·have e:Cg [x] 4=(Ac Db (1,[x,d,d,d])).bind some:=by kernel_rfl
  rw[e,Au (s':=(2,[x,x,d,d])) (by kernel_rfl),Au (s':=(4,[x,x,x,x])) (by kernel_rfl)]
  rfl
 ·have e:Cg [x] 8=(Ac Db (1,[x,d,d,d,d,d,d,d])).bind some:=by kernel_rfl
  rw[e,Au (s':=(2,[x,x,d,d,d,d,d,d])) (by kernel_rfl),Au (s':=(4,[x,x,x,x,d,d,d,d])) (by kernel_rfl),Au (s':=(8,[x,x,x,x,x,x,x,x])) (by kernel_rfl)]
  rfl
 ·have e:Cg [x] 16=(Ac Db (1,[x,d,d,d,d,d,d,d,d,d,d,d,d,d,d,d])).bind some:=by kernel_rfl
  rw[e,Au (s':=(2,[x,x,d,d,d,d,d,d,d,d,d,d,d,d,d,d])) (by kernel_rfl),Au (s':=(4,[x,x,x,x,d,d,d,d,d,d,d,d,d,d,d,d])) (by kernel_rfl),
   Au (s':=(8,[x,x,x,x,x,x,x,x,d,d,d,d,d,d,d,d])) (by kernel_rfl),Au (s':=(16,List.replicate 16 x)) (by kernel_rfl)]
  rfl
theorem pQ(l:List (Int×Int)):I9 l=some l:=rfl
theorem SS(o:C5)(hs:X8 o.Bits o.Lanes=true)(hk:f8 o.Kind=true)(hf:sfitS o.Kind o.Bits o.Lanes=true):Q2 o=some (Rm o):=by
 have hl:=P9 hs;obtain⟨k,b,n,d,args,i⟩:=o;simp only at hs hk hf hl ⊢;rcases kinds k with rfl|rfl|rfl|rfl|rfl|rfl|rfl|rfl|rfl|rfl|rfl|rfl|rfl|rfl|rfl|rfl|rfl|rfl|rfl|rfl|rfl|rfl|rfl|h
 case inr.inr.inr.inr.inr.inr.inr.inr.inr.inr.inr.inr.inr.inr.inr.inr.inr.inr.inr.inr.inr.inl=>
  have h1:n≠1:=by rintro rfl;simp[sfitS]at hf
  have h4:n=2\/n=4\/n=8\/n=16:=by omega
  unfold Q2;simp only[iv _ _ h4,pQ];rcases h4 with rfl|rfl|rfl|rfl<;>rfl
 all_goals first
  | rfl
  | (rw[JB h]at hk;cases hk)
  | (rcases hl with rfl|rfl|rfl|rfl|rfl<;>first|rfl|(simp[sfitS]at hf))
theorem bj(o:C5)(hs:X8 o.Bits o.Lanes=true)(hk:f8 o.Kind=true)(hf:sfitS o.Kind o.Bits o.Lanes=true)(hl:o.Args.length<=200):Qy o=some (((o.Args.length:Int)==L4 o.Kind o.Lanes)&&o.Args.all valS):=by
 unfold Qy;rw[SS o hs hk hf]
 have hn:0<=L4 o.Kind o.Lanes:=by
  have:=P9 hs;unfold L4
  cases(o.Kind==0)<;>cases(o.Kind==13 || o.Kind==18 || o.Kind==19)<;>cases(o.Kind==14 || o.Kind==15 || o.Kind==16 || o.Kind==22)<;>cases(o.Kind==20)<;>cases(o.Kind==21)<;>simp<;>omega
 have hlen:(Rm o).length=L4 o.Kind o.Lanes:=by simp[Rm];omega
 simp only[Ar,hlen]
 by_cases he:o.Args.length=L4 o.Kind o.Lanes
 ·have e1:(o.Args.length==L4 o.Kind o.Lanes)=true:=by simpa using he
  have e2:(o.Args.length !=L4 o.Kind o.Lanes)=false:=by simpa using he
  rw[e1,e2]
  have hloop:=Hi o.Args 0 valS (Kq o) (.inl ()) (.inr false) (λi hi hp=>by
    unfold Kq
    have:decide (i<(o.Args.length:Int))=true:=by simpa using hi
    simp only[this,Af,Aa (Ak hi),Dq,X7,Ar,hp,D3,A2,A8 hi (by omega)]) (λi hi hp=>by
    unfold Kq
    have:decide (i<(o.Args.length:Int))=true:=by simpa using hi
    simp only[this,Af,Aa (Ak hi),Dq,X7,Ar,hp,K2]) (by
    unfold Kq
    simp) o.Args.length 0 (by omega)
  rw[show 0=((0:Nat):Int) from rfl,hloop,Mw]
  cases o.Args.all valS<;>rfl
 ·grind
theorem iE{k b n:Int}(hs:X8 b n=true):((R3 k b n).1==0)=(k==17 || k==19):=by
 have hb:(b==0)=false:=by
  have:=width_cases (Qa hs);simp;omega
 unfold R3
 cases(k==17 || k==19)<;>cases(k==10 || k==11 || k==12)<;>cases(k==22)<;>simp_all
theorem bm(o:C5)(hs:X8 o.Bits o.Lanes=true):Qz o=some (dstS o.Kind o.Dst):=by
 unfold Qz;simp only[SQ,Ar,iE hs,X7,dstS]
 cases(o.Kind==17 || o.Kind==19)<;>rfl
theorem SP(o:C5)(ho:dA o):R8 o=some (Jq o):=by
 unfold R8 Jq;simp only[eD,iJ,SR]
 cases hs:X8 _ _ with
 | false=>cases f8 _<;>rfl
 | true=>
  have hl:=P9 hs
  cases hk:f8 _ with
  | false=>rfl
  | true=>
   rw[bn o (Qa hs) (by omega) ho.imm];simp only[bm o hs]
   cases hf:sfitS _ _ _ with
   | false=>rfl
   | true=>
    rw[bj o hs hk hf ho.args]
    generalize ifitS _ _ _ _=p
    generalize (o.Args.length==L4 _ _)=q
    generalize o.Args.all _=r
    generalize dstS _ _=s
    cases p<;>cases q<;>cases r<;>cases s<;>rfl
theorem qK(o:C5):Kr o=some (bif f8 o.Kind then L4 o.Kind o.Lanes else -1):=by
 obtain⟨k,b,n,d,args,i⟩:=o;rcases kinds k with rfl|rfl|rfl|rfl|rfl|rfl|rfl|rfl|rfl|rfl|rfl|rfl|rfl|rfl|rfl|rfl|rfl|rfl|rfl|rfl|rfl|rfl|rfl|h
 any_goals rfl
 unfold Kr;simp[ik h,JB h]
theorem cN(o:C5)(ho:dA o):G8 o=some (Jq o):=by
 unfold G8 Jq;simp only[mi]
 cases hs:X8 o.Bits o.Lanes with
 | false=>rfl
 | true=>
  simp only[qK,D3,Tc,Af, Ar]
  cases hk:f8 o.Kind with
  | false=>
   grind
  | true=>
   simp only[Af];rw[qL o hs hk ho.imm]
   by_cases he:o.Args.length=L4 o.Kind o.Lanes
   ·have e1:(o.Args.length==L4 o.Kind o.Lanes)=true:=by simpa using he
    have e2:(L4 o.Kind o.Lanes !=o.Args.length)=false:=by simpa using he.symm
    rw[e1,e2]
    have hloop:=Hi o.Args 0 valS (G0 o) (.inl ()) (.inr false) (λi hi hp=>by
      unfold G0
      have:decide (i<(o.Args.length:Int))=true:=by simpa using hi
      simp only[this,Af,Aa (Ak hi),Dq,FF,Ar,hp,D3,A2,A8 hi (by have:=ho.args;omega)]) (λi hi hp=>by
      unfold G0
      have:decide ((i:Int)<o.Args.length)=true:=by simpa using hi
      simp only[this,Af,Aa (Ak hi),Dq,FF,Ar,hp,K2]) (by
      unfold G0
      simp) o.Args.length 0 (by omega)
    rw[show 0=((0:Nat):Int) from rfl,hloop,Mw];simp only[FF, dstS]
    generalize sfitS o.Kind o.Bits o.Lanes=p
    generalize ifitS o.Kind o.Bits o.Lanes o.Imm=q
    generalize o.Args.all valS=r
    cases p<;>cases q<;>cases r<;>cases(o.Kind==17)<;>cases(o.Kind==19)<;>rfl
   ·grind
theorem Vt{o:C5}(h:Jq o=true):X8 o.Bits o.Lanes=true/\f8 o.Kind=true/\sfitS o.Kind o.Bits o.Lanes=true/\ifitS o.Kind o.Bits o.Lanes o.Imm=true/\(o.Args.length:Int)=L4 o.Kind o.Lanes/\o.Args.all valS=true/\dstS o.Kind o.Dst=true:=by
 simp only[Jq,Bg,zzL85]at h;exact⟨h.1.1,h.1.2.1.1.1,h.1.2.1.1.2,h.1.2.1.2,h.1.2.2,h.2.1,h.2.2⟩
theorem iK(o:C5)(ho:dA o):Qx o=some (bif Jq o then Rm o else[]):=by
 unfold Qx;rw[SP o ho]
 cases hm:Jq o with
 | false=>rfl
 | true=>
  obtain⟨h1,h2,h3,_⟩:=Vt hm;simp only[SS o h1 h2 h3]
  rfl
theorem iI(o:C5)(ho:dA o):Qw o=some (bif Jq o then R3 o.Kind o.Bits o.Lanes else(0,0)):=by
 unfold Qw;rw[SP o ho];simp only[ SQ]
 cases Jq o<;>rfl
theorem mh(o:C5)(ho:dA o):Hk o=some (bif Jq o then R3 o.Kind o.Bits o.Lanes else(0,0)):=by
 unfold Hk;rw[cN o ho]
 cases hm:Jq o with
 | false=>rfl
 | true=>
  obtain⟨_,h2,_⟩:=Vt hm;obtain⟨k,b,n,d,args,i⟩:=o;rcases kinds k with rfl|rfl|rfl|rfl|rfl|rfl|rfl|rfl|rfl|rfl|rfl|rfl|rfl|rfl|rfl|rfl|rfl|rfl|rfl|rfl|rfl|rfl|rfl|h
  any_goals rfl
  rw[JB h]at h2;cases h2
theorem mj(o:C5)(ho:dA o):Hl o=some (bif Jq o then Rm o else[]):=by
 unfold Hl;rw[cN o ho]
 cases hm:Jq o with
 | false=>rfl
 | true=>
  obtain⟨h1,h2,h3,h4,h5,_⟩:=Vt hm
  have hloop:=SW (X:=List (Int×Int)) o.Args.length (Ds o) (H6 o) id (λl i hi hl=>by
   unfold H6
   have e0:decide ((i:Int)<(o.Args.length:Int))=true:=by simpa using hi
   have e1:((i:Int)==0)=Nat.beq i 0:=by cases i<;>rfl
   have e2:((i:Int)==1)=Nat.beq i 1:=by
    rcases i with _|_|i
    ·rfl
    ·rfl
    ·have:¬ (((i+1+1:Nat):Int)=1):=by omega
     simp only[Nat.beq]
     simpa using this
   have hr:l.length+([Ds o i]:List (Int×Int)).length<=room:=by have:=ho.args;simp[room];omega
   simp only[e0,e1,e2,Af];have e3 :=A8 hi (by have:=ho.args;omega);simp only[e3]
   have key:∀(x:Option (Int×Int)),x=some (Ds o i)->(x.bind λx23=>Aw (l.length+([(x23.1,x23.2)]:List (Int×Int)).length<=room) (some (LR.next (l++([(x23.1,x23.2)]:List (Int×Int)),(i:Int)+1))))=(some (LR.next (l++[Ds o i],(i:Int)+1)):Option (LR _ (List (Int×Int)))):=by
    rintro x rfl;exact Aa hr
   refine key _ ?_;clear key hr;obtain⟨k,b,n,d,args,im⟩:=o;rcases kinds k with rfl|rfl|rfl|rfl|rfl|rfl|rfl|rfl|rfl|rfl|rfl|rfl|rfl|rfl|rfl|rfl|rfl|rfl|rfl|rfl|rfl|rfl|rfl|h
   all_goals first
    | rfl
    | (rw[JB h]at h2;cases h2)
    | (rcases i with _|_|i<;>rfl)) (λl hl=>by
   unfold H6
   simp) o.Args.length 0 [] (by omega) rfl
  rw[show(0:Int)=((0:Nat):Int) from rfl];simp only[D3,A2,hloop,Ar,id];rw[Rm,<- h5]
  rfl
theorem wf_u64{n:Int}(h:(Lit.int .u64 n).wf=true):0<=n/\n<18446744073709551616:=by simp[Lit.wf,IntKind.min,IntKind.max,IntKind.bits,IntKind.signed]at h;omega
theorem wf_u8{n:Int}(h:(Lit.int .u8 n).wf=true):0<=n/\n<256:=by simp[Lit.wf,IntKind.min,IntKind.max,IntKind.bits,IntKind.signed]at h;omega
abbrev Iall(w:World):Nat->Nat->Prop:=λb o=>∃ u,w.cell? ⟨b,o,none⟩=some u
structure nP(w:World)(cs:List Value)(avs:List AV):Prop where
 len:cs.length=avs.length
 one:∀ j,j<avs.length->(cs.getD j undef).oneCell'=true
 rep:∀ j,j<avs.length->RepV (Iall w) w (cs.getD j undef) (avs.getD j .any)
structure Opens(P:Program)(t:TypeId){α:Type}(e:α->List AV)(ok:α->Prop):Prop where
 get:∀{H:Type} {enc:TypeId×Value->H} {w:World} {base:Nat} {spare:Nat->Bool} {held:Bool} {fuel:Nat} {cs:List Value} {x:DataW H×List MemPlace},
  DataW.trod enc P w base spare held fuel t cs=some x->∃ a,ok a/\nP w cs (e a)
theorem SA{w:World}{v:Value}{x:AV}(h1:v.oneCell'=true)(h:RepV (Iall w) w v x):nP w [v] [x]:=
 ⟨rfl,λj hj=>(by
   grind),λj hj=>(by
   grind)⟩
theorem LW{P:Program}{t:TypeId}{k:IntKind}{e:Int->List AV}(ht:P.underlying t=some (.int k))(he:∀ n,e n=[.int k n]):Opens P t e (λn=>(Lit.int k n).wf=true):=by
 refine⟨?_⟩;intro H enc w base spare held fuel cs x h;obtain⟨n,rfl,rfl,hw⟩:=DataW.trod_int ht h;exact⟨n,hw,by rw[he];exact SA rfl (.int _ _)⟩
theorem hY{w:World}{base:Nat}{a:Addr}{n:Nat}{cs:List Value}(h:w.cells? base a n=some cs):cs.length=n/\∀ i,i<n->w.cell? (a.add i)=some (cs.getD i undef):=by
 unfold World.cells? at h
 split at h
 ·have hl:=mapM_some_length h;simp at hl;refine⟨hl,λi hi=>?_⟩;have:=mapM_some_get h i i (by simp[hi]);rw[this];simp[ show i<cs.length by omega]
 ·cases h
theorem P7{P:Program}{t el:TypeId}{α:Type}{e:α->List AV}{ok:α->Prop}{sz:Nat}{d:α}{e':List α->List AV}(ht:P.underlying t=some (.slice el))(hs:P.cellsOf el=sz)(h1:1<=sz)(he:Opens P el e ok)(hlen:∀ a,(e a).length=sz)
  (he':∀ l,e' l=[AV.list sz e d l .none]):Opens P t e' (λl=>(∀ a∈l,ok a)/\l.length<=maxLen):=by
 refine⟨?_⟩;intro H enc w base spare held fuel cs x h;rcases DataW.trod_slice ht h with⟨rfl,rfl⟩|⟨a,len,cap,elems,rest,n,_,rfl,rfl,hb,hl,hm,hlen2,hel,_⟩
 ·exact⟨[],⟨by simp,by simp⟩,by rw[he'];exact SA rfl (.slice none 0 0 sz _ (λ_=>undef) (zzL8 _) (by simp) (λh=>by simp at h) (λ_=>rfl) (λj hj=>by simp at hj) (λi hi=>by simp at hi) (λi c hi=>by simp at hi))⟩
 ·have each:∀ i:Fin len,∃ b,ok b/\∃ cs,w.cells? base (a.add (i.1*sz)) sz=some cs/\nP w cs (e b):=λ⟨i,hi⟩=>by
   have:=hel i hi;rw[hs,EF (by omega),zzL102]at this;obtain⟨cs,hcs,htr⟩:=this;obtain⟨b,hb,hr⟩:=he.get htr;exact⟨b,hb,cs,hcs,hr⟩
  let f:Fin len->α:=λi=>(each i).choose
  have hf:∀ i,ok (f i)/\∃ cs,w.cells? base (a.add (i.1*sz)) sz=some cs/\nP w cs (e (f i)):=λi=>(each i).choose_spec
  have hlf:(List.ofFn f).length=len:=by simp
  refine⟨List.ofFn f,⟨λb hb=>?_,by simp;omega⟩,?_⟩
  ·obtain⟨i,rfl⟩:=List.mem_ofFn.1 hb;exact(hf i).1
  rw[he'];refine SA rfl ?_
  have hcell0:∀ i (hi:i<len),∀ c,c<sz->∃ u,w.cell? ((a.add (i*sz)).add c)=some u/\u.oneCell'=true/\RepV (Iall w) w u ((e (f ⟨i,hi⟩)).getD c .any):=λi hi c hc=>by
   obtain⟨_,cs,hcs,hr⟩:=hf ⟨i,hi⟩;obtain⟨hl,hg⟩:=hY hcs;exact⟨_,hg c hc,hr.one c (by rw[hlen];exact hc),hr.rep c (by rw[hlen];exact hc)⟩
  have hspot:0<len->a.spot=none:=λhp=>by
   obtain⟨u,hu,_⟩:=hcell0 0 hp 0 h1;have h2:=World.cell?_spot hu
   simpa [Addr.add] using h2
  have hcell:∀ i (hi:i<len),∀ c,c<sz->∃ u,w.cell? ⟨a.block,a.off+(i*sz+c),none⟩=some u/\u.oneCell'=true/\RepV (Iall w) w u ((e (f ⟨i,hi⟩)).getD c .any):=λi hi c hc=>by
   obtain⟨u,hu,h1,h2⟩:=hcell0 i hi c hc;have hsp:=hspot (by omega);rw[Mo hsp,Qc]at hu;exact⟨u,by rw[<- EJ];exact hu,h1,h2⟩
  have hdm:∀ j,j<len*sz->∃ i c,i<len/\c<sz/\j=i*sz+c:=λj hj=>by
   refine⟨j / sz,j % sz,(bE (by omega)).2 hj,Y1 _ (by omega),?_⟩;rw[GU];exact(OY j sz).symm
  unfold AV.list;rw[hlf];refine .slice (some a) len cap sz _ (λj=>(w.cell? ⟨a.block,a.off+j,none⟩).getD undef) hl hm (λhp=>⟨a,rfl,hspot hp,λj hj=>?_,λj hj=>?_⟩) (λh=>by cases h) (λj hj=>?_) (λi hi=>hlen _) (λi c hi hc=>?_)
  ·obtain⟨i,c,hi,hc,rfl⟩:=hdm j hj;obtain⟨u,hu,_⟩:=hcell i hi c hc;exact⟨u,hu⟩
  ·obtain⟨i,c,hi,hc,rfl⟩:=hdm j hj;obtain⟨u,hu,_⟩:=hcell i hi c hc;rw[hu];rfl
  ·obtain⟨i,c,hi,hc,rfl⟩:=hdm j hj;obtain⟨u,hu,h1,_⟩:=hcell i hi c hc;simp only[hu];exact h1
  ·grind
structure bN(P:Program)(fs:List Field)(off N:Nat){α:Type}(e:α->List AV)(ok:α->Prop):Prop where
 get:∀{H:Type} {enc:TypeId×Value->H} {w:World} {base:Nat} {spare:Nat->Bool} {held:Bool} {n:Nat} {cs:List Value},cs.length=N->
  (∀ f∈fs,∃ x,DataW.trod enc P w base spare held n f.type ((cs.drop f.offset).take (P.cellsOf f.type))=some x)->∃ a,ok a/\nP w (cs.drop off) (e a)
theorem Sc{P:Program}{N:Nat}:bN P [] N N (λ_:Unit=>[]) (λ_=>True):=by
 refine⟨?_⟩;intro H enc w base spare held n cs hN _;rw[List.drop_eq_nil_of_le (by omega)];exact⟨(),trivial,rfl,(λj hj=>by simp at hj),(λj hj=>by simp at hj)⟩
theorem B9{P:Program}{f:Field}{fs:List Field}{off sz N:Nat}{α β:Type}{e:α->List AV}{ok:α->Prop}{e':β->List AV}{ok':β->Prop}(hoff:f.offset=off)(hsz:P.cellsOf f.type=sz)(hle:off+sz<=N)
  (h:Opens P f.type e ok) (h':bN P fs (off+sz) N e' ok'):bN P (f::fs) off N (λp:α×β=>e p.1++e' p.2) (λp=>ok p.1/\ok' p.2):=by
 refine⟨?_⟩;intro H enc w base spare held n cs hN hall;obtain⟨x,hx⟩:=hall f (by simp);rw[hoff,hsz]at hx;obtain⟨a,ha,hr⟩:=h.get hx;obtain⟨b,hb,hr'⟩:=h'.get hN (λg hg=>hall g (by simp[hg]))
 have hl:(e a).length=sz:=by rw[<- hr.len];simp;omega
 have hl':(e' b).length=N-(off+sz):=by rw[<- hr'.len];simp;omega
 have hsplit:cs.drop off=(cs.drop off).take sz++cs.drop (off+sz):=by rw[<- List.drop_drop];exact(List.take_append_drop sz _).symm
 have hl2:((cs.drop off).take sz).length=sz:=by simp;omega
 refine⟨(a,b),⟨ha,hb⟩,?_,λj hj=>?_,λj hj=>?_⟩
 ·simp[hl,hl'];omega
 ·rw[hsplit];replace hj:j<(e a++e' b).length:=hj
  show _
  by_cases hlt:j<sz
  ·have:=hr.one j (by omega);rwa[List.getD,Zo (by omega)]
  ·have:=hr'.one (j-sz) (by simp at hj;omega);rwa[List.getD,EE (by omega),hl2]
 ·rw[hsplit];replace hj:j<(e a++e' b).length:=hj
  show RepV (Iall w) w _ ((e a++e' b).getD j .any)
  by_cases hlt:j<sz
  ·have:=hr.rep j (by omega);rwa[List.getD,Zo (by omega),List.getD,Zo (by omega)]
  ·have:=hr'.rep (j-sz) (by simp at hj;omega);rwa[List.getD,EE (by omega),hl2,List.getD,EE (by omega),hl]
theorem Od{P:Program}{t:TypeId}{fs:Array Field}{N:Nat}{α:Type}{e:α->List AV}{ok:α->Prop}(ht:P.underlying t=some (.struct fs))(hN:P.cellsOf t=N)(h:bN P fs.toList 0 N e ok):Opens P t e ok:=by
 refine⟨?_⟩;intro H enc w base spare held fuel cs x hx;obtain⟨xs,n,_,_,hl,hxl,hall⟩:=DataW.trod_struct ht hx
 have:=h.get  (hl.trans hN)      (λf hf=>by
  obtain⟨i,hi,rfl⟩:=List.mem_iff_getElem.1 hf
  have hi' :=by simpa using hi
  have:=hall i fs.toList[i] (by simp[hi']);rw[EF (by omega)]at this
  exact⟨_,this⟩)
 simpa using this
theorem Opens.to{P:Program}{t:TypeId}{α β:Type}{e:α->List AV}{ok:α->Prop}(h:Opens P t e ok){e':β->List AV}{ok':β->Prop}(g:α->β)(he:∀ a,e' (g a)=e a)(hok:∀ a,ok a->ok' (g a)):Opens P t e' ok':=by
 refine⟨?_⟩;intro H enc w base spare held fuel cs x hx;obtain⟨a,ha,hr⟩:=h.get hx;exact⟨g a,hok a ha,by rw[he];exact hr⟩
theorem arg_agg{P:Program}{t:TypeId}{α:Type}{e:α->List AV}{ok:α->Prop}(h:Opens P t e ok){H:Type}{enc:TypeId×Value->H}{w:World}{base:Nat}{spare:Nat->Bool}{held:Bool}{cs:Array Value}{d:DataW H}{ps:List MemPlace}
  (hd:DataW.Trod enc P w base spare held t (.agg cs) d ps):∃ a,ok a/\RepV (Iall w) w (.agg cs) (.agg (e a)):=by
 obtain⟨fuel,hf⟩:=hd;obtain⟨a,ha,hr⟩:=h.get hf;have e1:(Value.agg cs).cells.toList=cs.toList:=rfl;rw[e1]at hr
 have e2:∀ j,cs.toList.getD j undef=cs.getD j undef:=λj=>by simp_all
 refine⟨a,ha,.agg _ _ (by simpa using hr.len) (λj hj=>?_) (λj hj=>?_)⟩
 ·rw[<- e2];exact hr.one j hj
 ·rw[<- e2];exact hr.rep j hj
def Zf(n:Int):Prop:=(Lit.int .i64 n).wf=true
theorem TQ:Opens Tryz.prog 3 Ay Zf:=LW Tryz.underlying3 (λ_=>rfl)
def LI(l:List (Int)):Prop:=(∀ a∈l,Zf a)/\l.length<=maxLen
theorem fE:Opens Tryz.prog 22 Lc LI:=P7 (d:=(0:Int)) Tryz.underlying22 (by kernel_rfl) (by decide) TQ (λ_=>rfl) (λ_=>rfl)
def pp(a:Fe):Prop:=Zf a.Bits/\Zf a.Dst/\LI a.From/\LI a.Args/\True
theorem Aa1:Opens Tryz.prog 92 Wx pp:=Opens.to (Od (N:=4) Tryz.underlying92 (by kernel_rfl) (B9 (off:=0) (sz:=1) (N:=4) rfl (by kernel_rfl) (by decide) TQ (B9 (off:=1) (sz:=1) (N:=4) rfl (by kernel_rfl) (by decide) TQ (B9 (off:=2) (sz:=1) (N:=4) rfl (by kernel_rfl) (by decide) fE (B9 (off:=3) (sz:=1) (N:=4) rfl (by kernel_rfl) (by decide) fE Sc))))) (λp=>⟨p.1,p.2.1,p.2.2.1,p.2.2.2.1⟩) (λ_=>rfl) (λ_ h=>h)
def kV(l:List (Fe)):Prop:=(∀ a∈l,pp a)/\l.length<=maxLen
theorem Aaz:Opens Tryz.prog 55 xm kV:=P7 (d:=(default:Fe)) Tryz.underlying55 (by kernel_rfl) (by decide) Aa1 (λ_=>rfl) (λ_=>rfl)
def pq(n:Int):Prop:=(Lit.int .u64 n).wf=true
theorem wM:Opens Tryz.prog 37 Dd pq:=LW Tryz.underlying37 (λ_=>rfl)
def wK(a:C5):Prop:=Zf a.Kind/\Zf a.Bits/\Zf a.Lanes/\Zf a.Dst/\LI a.Args/\pq a.Imm/\True
theorem Aaw:Opens Tryz.prog 51 PO wK:=Opens.to (Od (N:=6) Tryz.underlying51 (by kernel_rfl) (B9 (off:=0) (sz:=1) (N:=6) rfl (by kernel_rfl) (by decide) TQ (B9 (off:=1) (sz:=1) (N:=6) rfl (by kernel_rfl) (by decide) TQ (B9 (off:=2) (sz:=1) (N:=6) rfl (by kernel_rfl) (by decide) TQ (B9 (off:=3) (sz:=1) (N:=6) rfl (by kernel_rfl) (by decide) TQ (B9 (off:=4) (sz:=1) (N:=6) rfl (by kernel_rfl) (by decide) fE (B9 (off:=5) (sz:=1) (N:=6) rfl (by kernel_rfl) (by decide) wM Sc))))))) (λp=>⟨p.1,p.2.1,p.2.2.1,p.2.2.2.1,p.2.2.2.2.1,p.2.2.2.2.2.1⟩) (λ_=>rfl) (λ_ h=>h)
def pk(l:List (C5)):Prop:=(∀ a∈l,wK a)/\l.length<=maxLen
theorem Aax:Opens Tryz.prog 52 Aai pk:=P7 (d:=(default:C5)) Tryz.underlying52 (by kernel_rfl) (by decide) Aaw (λ_=>rfl) (λ_=>rfl)
def po(a:L8):Prop:=Zf a.Kind/\Zf a.Arg/\LI a.To/\True
theorem Aay:Opens Tryz.prog 54 du po:=Opens.to (Od (N:=3) Tryz.underlying54 (by kernel_rfl) (B9 (off:=0) (sz:=1) (N:=3) rfl (by kernel_rfl) (by decide) TQ (B9 (off:=1) (sz:=1) (N:=3) rfl (by kernel_rfl) (by decide) TQ (B9 (off:=2) (sz:=1) (N:=3) rfl (by kernel_rfl) (by decide) fE Sc)))) (λp=>⟨p.1,p.2.1,p.2.2.1⟩) (λ_=>rfl) (λ_ h=>h)
def ek(a:Aj):Prop:=kV a.Phis/\pk a.Ops/\po a.End/\True
theorem Aa0:Opens Tryz.prog 57 Jv ek:=Opens.to (Od (N:=5) Tryz.underlying57 (by kernel_rfl) (B9 (off:=0) (sz:=1) (N:=5) rfl (by kernel_rfl) (by decide) Aaz (B9 (off:=1) (sz:=1) (N:=5) rfl (by kernel_rfl) (by decide) Aax (B9 (off:=2) (sz:=3) (N:=5) rfl (by kernel_rfl) (by decide) Aay Sc)))) (λp=>⟨p.1,p.2.1,p.2.2.1⟩) (λ_=>rfl) (λ_ h=>h)
def ZV(l:List (Aj)):Prop:=(∀ a∈l,ek a)/\l.length<=maxLen
theorem Aat:Opens Tryz.prog 23 pB ZV:=P7 (d:=(default:Aj)) Tryz.underlying23 (by kernel_rfl) (by decide) Aa0 (λ_=>rfl) (λ_=>rfl)
def okTFunc(a:TFunc):Prop:=LI a.Params/\Zf a.Ret/\ZV a.Blocks/\True
theorem op_25:Opens Tryz.prog 25 eTFunc okTFunc:=Opens.to (Od (N:=3) Tryz.underlying25 (by kernel_rfl) (B9 (off:=0) (sz:=1) (N:=3) rfl (by kernel_rfl) (by decide) fE (B9 (off:=1) (sz:=1) (N:=3) rfl (by kernel_rfl) (by decide) TQ (B9 (off:=2) (sz:=1) (N:=3) rfl (by kernel_rfl) (by decide) Aat Sc)))) (λp=>⟨p.1,p.2.1,p.2.2.1⟩) (λ_=>rfl) (λ_ h=>h)
def pl(l:List (Int)):Prop:=(∀ a∈l,pq a)/\l.length<=maxLen
theorem Aau:Opens Tryz.prog 26 D7 pl:=P7 (d:=(0:Int)) Tryz.underlying26 (by kernel_rfl) (by decide) wM (λ_=>rfl) (λ_=>rfl)
def Aaq(n:Int):Prop:=(Lit.int .u8 n).wf=true
theorem Ab4:Opens Tryz.prog 5 Qi Aaq:=LW Tryz.underlying5 (λ_=>rfl)
def wJ(l:List (Int)):Prop:=(∀ a∈l,Aaq a)/\l.length<=maxLen
theorem Aav:Opens Tryz.prog 27 Ab1 wJ:=P7 (d:=(0:Int)) Tryz.underlying27 (by kernel_rfl) (by decide) Ab4 (λ_=>rfl) (λ_=>rfl)
def okTCase(a:TCase):Prop:=pl a.Args/\wJ a.Mem/\Zf a.Fuel/\True
theorem op_29:Opens Tryz.prog 29 eTCase okTCase:=Opens.to (Od (N:=3) Tryz.underlying29 (by kernel_rfl) (B9 (off:=0) (sz:=1) (N:=3) rfl (by kernel_rfl) (by decide) Aau (B9 (off:=1) (sz:=1) (N:=3) rfl (by kernel_rfl) (by decide) Aav (B9 (off:=2) (sz:=1) (N:=3) rfl (by kernel_rfl) (by decide) TQ Sc)))) (λp=>⟨p.1,p.2.1,p.2.2.1⟩) (λ_=>rfl) (λ_ h=>h)
def numB(n:Int):Bool:=decide (0<=n)&&decide (n<=2147483647)
def listB(l:List Int):Bool:=l.all numB&&decide (l.length<=64)
def JP(p:Fe):Bool:=numB p.Bits&&numB p.Dst&&listB p.From&&listB p.Args
def ig(o:C5):Bool:=numB o.Kind&&numB o.Bits&&numB o.Lanes&&numB o.Dst&&listB o.Args
def iC(e:L8):Bool:=numB e.Kind&&numB e.Arg&&listB e.To
def blockB(b:Aj):Bool:=b.Phis.all JP&&b.Ops.all ig&&iC b.End
def OJ(b:Aj):Nat:=b.Phis.length+b.Ops.length+1
def Vz(f:TFunc):Nat:=(f.Blocks.map OJ).sum
def sizeW(f:TFunc):Int:=w64 (Vz f)
def W1(f:TFunc):Bool:=decide (1<=f.Blocks.length)&&decide (f.Blocks.length<=64)&&decide (f.Params.length<=16)&&listB f.Params&&numB f.Ret&&decide (sizeW f<=512)&&f.Blocks.all blockB
def mB(p:Fe):Nat:=1+p.From.length+p.Args.length
def mA(o:C5):Nat:=1+o.Args.length
def lz(b:Aj):Nat:=1+b.End.To.length+(b.Phis.map mB).sum+(b.Ops.map mA).sum
def pD(f:TFunc):Nat:=f.Params.length+(f.Blocks.map lz).sum
theorem Uh:maxLen=9223372036854775807:=rfl
structure fw(f:TFunc):Prop where
 params:f.Params.length<=maxLen
 blocks:f.Blocks.length<=maxLen
 block:∀ b∈f.Blocks,b.Phis.length<=maxLen/\b.Ops.length<=maxLen/\b.End.To.length<=maxLen
 phi:∀ b∈f.Blocks,∀ p∈b.Phis,p.From.length<=maxLen/\p.Args.length<=maxLen
 op:∀ b∈f.Blocks,∀ o∈b.Ops,o.Args.length<=maxLen/\0<=o.Imm/\o.Imm<18446744073709551616
theorem inF{f:TFunc}(h:okTFunc f):fw f:=
 ⟨h.1.2,h.2.2.1.2,λb hb=>⟨(h.2.2.1.1 b hb).1.2,(h.2.2.1.1 b hb).2.1.2,(h.2.2.1.1 b hb).2.2.1.2.2.1.2⟩,λb hb p hp=>⟨((h.2.2.1.1 b hb).1.1 p hp).2.2.1.2,((h.2.2.1.1 b hb).1.1 p hp).2.2.2.1.2⟩,
  λb hb o ho=>⟨((h.2.2.1.1 b hb).2.1.1 o ho).2.2.2.2.1.2,wf_u64 ((h.2.2.1.1 b hb).2.1.1 o ho).2.2.2.2.2.1⟩⟩
theorem QX{n:Nat}(h:n<9223372036854775808):w64 (n:Int)=n:=Ij (by omega) (by omega)
theorem Ly{i n:Nat}(h:i<n)(hn:n<=maxLen):w64 ((i:Int)+1)=((i+1:Nat):Int):=by rw[Uh]at hn;rw[show((i:Int)+1)=(i+1:Nat) by omega,QX (by omega)]
theorem UP(f:TFunc)(hf:fw f):∃ b,C2 f=some b:=by
 have h3:∃ x,Ac (Cw f) (f.Params.length,(0:Nat))=some x:=by
  refine Us f.Blocks.length _ (λn i hi=>?_) (λn=>?_) _ 0 _ (Hz _)
  ·have hmem:=Ai (d:=default) hi;obtain⟨b1,b2,_⟩:=hf.block _ hmem;have hI :=Ak hi;unfold Cw
   cases hc:(bif decide (i<(f.Blocks.length:Int)) then decide (n<=20000) else false) with
   | false=>right;simp only[hc];exact⟨_,rfl⟩
   | true=>
    left
    simp only[hc, Aa hI]
    obtain⟨x1,h1⟩:=Us (f.Blocks.getD i default).Phis.length (Cu f i) (λn j hj=>by
      unfold Cu;simp only[Aa hI,Dq]
      cases hc:(bif decide (j<((f.Blocks.getD i default).Phis.length:Int)) then decide (n<=20000) else false) with
      | false=>grind
      | true=>left;simp only[ Aa (Ak hj),Ly hj b1];exact⟨_,rfl⟩) (λn=>by
      unfold Cu;simp only[Aa hI,Dq]
      have:decide ((f.Blocks.getD i default).Phis.length<((f.Blocks.getD i default).Phis.length:Int))=false:=by simp
      simp only[this];exact⟨_,rfl⟩) _ 0 (w64 (w64 (n+1)+(f.Blocks.getD i default).End.To.length)) (Hz _)
    obtain⟨x2,h2⟩:=Us (f.Blocks.getD i default).Ops.length (Cv f i) (λn j hj=>by
      unfold Cv;simp only[Aa hI,Dq]
      cases hc:(bif decide (j<((f.Blocks.getD i default).Ops.length:Int)) then decide (n<=20000) else false) with
      | false=>grind
      | true=>left;simp only[ Aa (Ak hj),Ly hj b2];exact⟨_,rfl⟩) (λn=>by
      unfold Cv;simp only[Aa hI,Dq]
      have:decide ((f.Blocks.getD i default).Ops.length<((f.Blocks.getD i default).Ops.length:Int))=false:=by simp
      simp only[this];exact⟨_,rfl⟩) _ 0 x1 (Hz _)
    rw[show((0:Nat):Int)=0 from rfl]at h1 h2;simp only[Dq,h1,h2,Ar,Ly hi hf.blocks];exact⟨_,rfl⟩
  ·unfold Cw
   have:decide ((f.Blocks.length:Int)<(f.Blocks.length:Int))=false:=by simp
   simp only[this];exact⟨_,rfl⟩
 obtain⟨x,hx⟩:=h3;unfold C2;rw[show((0:Nat):Int)=0 from rfl]at hx;rw[hx];exact⟨_,rfl⟩
theorem qZ(f:TFunc)(hf:fw f)(h0:f.Params.length<=64)(hb:∀ b∈f.Blocks,b.End.To.length<=64/\(∀ p∈b.Phis,p.From.length<=64/\p.Args.length<=64)/\∀ o∈b.Ops,o.Args.length<=64):C2 f=some (decide (pD f<=20000)):=by
 have h3:=JE f.Blocks (default:Aj) lz 20000 (Cw f) (λn i hi hn=>by
   have hmem:=Ai (d:=(default:Aj)) hi;obtain⟨b1,b2,b3⟩:=hf.block _ hmem;obtain⟨hTo,hPh,hOp⟩:=hb _ hmem;have hI1:A0 (i:Int) f.Blocks.length:=Ak hi
   have l1:=JE (f.Blocks.getD i default).Phis (default:Fe) mB 20000 (Cu f i) (λn j hj hn=>by
     have hm:=Ai (d:=(default:Fe)) hj;obtain⟨p1,p2⟩:=hPh _ hm
     have e1:decide ((j:Int)<((f.Blocks.getD i default).Phis.length:Int))=true:=by simpa using hj
     have e2:decide ((n:Int)<=20000)=true:=by simp;omega
     refine⟨n+mB ((f.Blocks.getD i default).Phis.getD j default),?_,λ_=>rfl,λh=>h⟩;unfold Cu;simp only[Aa hI1,Dq,e1,e2,Af,Aa (Ak hj),Ly hj b1]
     congr 3
     rw[Ij (n:=(n:Int)+1) (by omega) (by omega),Ij (n:=(n:Int)+1+_) (by omega) (by omega),Ij (by omega) (by omega)];simp only[mB]
     omega) (λn j hj hd=>by
     unfold Cu;simp only[Aa hI1,Dq]
     have:(bif decide ((j:Int)<((f.Blocks.getD i default).Phis.length:Int)) then decide ((n:Int)<=20000) else false)=false:=by
      rcases hd with rfl|h
      ·simp
      ·simp;omega
     rw[this];rfl)
   have l2:=JE (f.Blocks.getD i default).Ops (default:C5) mA 20000 (Cv f i) (λn j hj hn=>by
     have hm:=Ai (d:=(default:C5)) hj;have p1:=hOp _ hm
     have e1:decide ((j:Int)<((f.Blocks.getD i default).Ops.length:Int))=true:=by simpa using hj
     have e2:decide ((n:Int)<=20000)=true:=by simp;omega
     refine⟨n+mA ((f.Blocks.getD i default).Ops.getD j default),?_,λ_=>rfl,λh=>h⟩;unfold Cv;simp only[Aa hI1,Dq,e1,e2,Af,Aa (Ak hj),Ly hj b2]
     congr 3
     rw[Ij (n:=(n:Int)+1) (by omega) (by omega),Ij (by omega) (by omega)];simp only[mA]
     omega) (λn j hj hd=>by
     unfold Cv;simp only[Aa hI1,Dq]
     have:(bif decide ((j:Int)<((f.Blocks.getD i default).Ops.length:Int)) then decide ((n:Int)<=20000) else false)=false:=by
      rcases hd with rfl|h
      ·simp
      ·simp;omega
     rw[this];rfl)
   have e1:decide ((i:Int)<(f.Blocks.length:Int))=true:=by simpa using hi
   have e2:decide ((n:Int)<=20000)=true:=by simp;omega
   obtain⟨m1,q1,q2,q3⟩:=l1 _ 0 (n+1+(f.Blocks.getD i default).End.To.length) (Hz _);obtain⟨m2,q4,q5,q6⟩:=l2 _ 0 m1 (Hz _);rw[Mw]at q2 q3 q5 q6;refine⟨m2,?_,λhle=>?_,λhle=>?_⟩
   ·unfold Cw;simp only[e1,e2,Af,Aa hI1,Dq,Ly hi hf.blocks];rw[Ij (n:=(n:Int)+1) (by omega) (by omega),Ij (by omega) (by omega),show(n:Int)+1+((f.Blocks.getD i default).End.To.length:Int)=((n+1+(f.Blocks.getD i default).End.To.length:Nat):Int) by omega];rw[show((0:Nat):Int)=0 from rfl]at q1 q4;rw[q1,Ar,q4,Ar]
   ·simp only[lz]at hle ⊢;have:=q2 (by omega);rw[q5 (by omega)];omega
   ·simp only[lz];have h6:=q6 hle;have h3:=q3 (by omega);have:=q2 h3
    omega) (λn i hi hd=>by
   unfold Cw
   have:(bif decide ((i:Int)<(f.Blocks.length:Int)) then decide ((n:Int)<=20000) else false)=false:=by
    rcases hd with rfl|h
    ·simp
    ·simp;omega
   simp only[this,A2]) f.Blocks.length 0 f.Params.length (Hz _)
 obtain⟨m,h1,h2,h4⟩:=h3;rw[Mw]at h2 h4;unfold C2;rw[show((0:Nat):Int)=0 from rfl]at h1;rw[h1,Ar]
 congr 1
 apply zzL61.2
 simp only[pD]
 constructor
 ·intro h;exact h4 (by omega)
 ·intro h;have:=h2 h;omega
theorem Vw(n:Int):Bp n=some (numB n):=by unfold Bp numB;cases decide (0<=n)<;>rfl
theorem S7(l:List Int)(h:l.length<=maxLen):Dg l=some (listB l):=by
 unfold Dg;rw[Uh]at h
 have hloop:=Hi l 0 numB (Gb l) (.inl ()) (.inr false) (λi hi hp=>by
   unfold Gb
   have:decide (i<(l.length:Int))=true:=by simpa using hi
   simp only[this,Af,Aa (Ak hi),Dq,Vw,Ar,hp,D3,A2,A8 hi (by omega)]) (λi hi hp=>by
   unfold Gb
   have:decide (i<(l.length:Int))=true:=by simpa using hi
   simp only[this,Af,Aa (Ak hi),Dq,Vw,Ar,hp,K2]) (by
   unfold Gb
   simp) l.length 0 (by omega)
 rw[show(0:Int)=(0:Nat) from rfl,hloop,Mw];unfold listB
 have e:decide ((l.length:Int)<=64)=decide (l.length<=64):=by grind
 cases l.all _
 ·rfl
 ·simp[e]
theorem qT(f:TFunc)(hf:fw f):Ks f=some (sizeW f):=by
 unfold Ks
 have hl:=KZ _ default OJ id (It f) (λn i hi=>by
   have e1:decide ((i:Int)<f.Blocks.length)=true:=by simpa using hi
   unfold It;simp only[e1,Af,Aa (Ak hi),Dq,Ly hi hf.blocks]
   congr 3
   rw[KB,KB,Int.add_assoc _,KB];unfold OJ
   congr 1
   omega) (λn=>by
   unfold It
   simp) _ 0 0 (Hz _)
 rw[show w64 _=0 from rfl,show((0:Nat):Int)=0 from rfl]at hl;rw[hl];simp[Vz,sizeW]
theorem vJ(f:TFunc)(hf:fw f):Jb f=some (W1 f):=by
 have hloop:Ac (E2 f) ((0:Nat):Int)=some (bif (f.Blocks.drop 0).all blockB then .inl () else .inr false):=by
  have step:∀ i:Nat,i<f.Blocks.length->E2 f (i:Int)=bif blockB (f.Blocks.getD i default) then some (.next ((i:Int)+1)) else some (.done (.inr false)):=λi hi=>by
   have hmem:=Ai (d:=(default:Aj)) hi;obtain⟨b1,b2,b3⟩:=hf.block _ hmem;have hPh:=hf.phi _ hmem;have hOp:=hf.op _ hmem;have hM:=Uh
   have e0:decide ((i:Int)<(f.Blocks.length:Int))=true:=by simpa using hi
   have l1:=Hi (f.Blocks.getD i default).Phis (default:Fe) JP (G1 f i) (.inl ()) (.inr false) (λj hj hp=>by
     obtain⟨p1,p2⟩:=hPh _ (Ai (d:=(default:Fe)) hj)
     have e1:decide ((j:Int)<((f.Blocks.getD i default).Phis.length:Int))=true:=by simpa using hj
     unfold G1;simp only[e1,Af,Dq,Aa (Ak hj),Vw,Ar,S7 _ p1,S7 _ p2,A8 hj (by omega)]
     revert hp
     unfold JP
     cases numB ((f.Blocks.getD i default).Phis.getD j default).Bits<;>cases numB ((f.Blocks.getD i default).Phis.getD j default).Dst<;>cases listB ((f.Blocks.getD i default).Phis.getD j default).From<;>cases listB ((f.Blocks.getD i default).Phis.getD j default).Args<;>simp) (λj hj hp=>by
     obtain⟨p1,p2⟩:=hPh _ (Ai (d:=(default:Fe)) hj)
     have e1:decide ((j:Int)<((f.Blocks.getD i default).Phis.length:Int))=true:=by simpa using hj
     unfold G1;simp only[e1,Af,Dq,Aa (Ak hj),Vw,Ar,S7 _ p1,S7 _ p2,A8 hj (by omega)]
     revert hp
     unfold JP
     cases numB ((f.Blocks.getD i default).Phis.getD j default).Bits<;>cases numB ((f.Blocks.getD i default).Phis.getD j default).Dst<;>cases listB ((f.Blocks.getD i default).Phis.getD j default).From<;>cases listB ((f.Blocks.getD i default).Phis.getD j default).Args<;>simp) (by
     unfold G1
     simp) _ 0 (Hz _)
   have l2:=Hi (f.Blocks.getD i default).Ops (default:C5) ig (G2 f i) (.inl ()) (.inr false) (λj hj hp=>by
     obtain⟨p1,_⟩:=hOp _ (Ai (d:=(default:C5)) hj)
     have e1:decide ((j:Int)<((f.Blocks.getD i default).Ops.length:Int))=true:=by simpa using hj
     unfold G2;simp only[e1,Af,Dq,Aa (Ak hj),Vw,Ar,S7 _ p1,A8 hj (by omega)]
     revert hp
     unfold ig
     cases numB ((f.Blocks.getD i default).Ops.getD j default).Kind<;>cases numB ((f.Blocks.getD i default).Ops.getD j default).Bits<;>cases numB ((f.Blocks.getD i default).Ops.getD j default).Lanes<;>cases numB ((f.Blocks.getD i default).Ops.getD j default).Dst<;>cases listB ((f.Blocks.getD i default).Ops.getD j default).Args<;>simp) (λj hj hp=>by
     obtain⟨p1,_⟩:=hOp _ (Ai (d:=(default:C5)) hj)
     have e1:decide ((j:Int)<((f.Blocks.getD i default).Ops.length:Int))=true:=by simpa using hj
     unfold G2;simp only[e1,Af,Dq,Aa (Ak hj),Vw,Ar,S7 _ p1,A8 hj (by omega)]
     revert hp
     unfold ig
     cases numB ((f.Blocks.getD i default).Ops.getD j default).Kind<;>cases numB ((f.Blocks.getD i default).Ops.getD j default).Bits<;>cases numB ((f.Blocks.getD i default).Ops.getD j default).Lanes<;>cases numB ((f.Blocks.getD i default).Ops.getD j default).Dst<;>cases listB ((f.Blocks.getD i default).Ops.getD j default).Args<;>simp) (by
     unfold G2
     simp) _ 0 (Hz _)
   rw[show((0:Nat):Int)=0 from rfl,Mw]at l1 l2;unfold E2;simp only[e0,Af,Aa (Ak hi),l1,Ar];unfold blockB
   cases(f.Blocks.getD i default).Phis.all JP with
   | false=>rfl
   | true=>
    simp only[Af,l2,Ar,Dq,Vw,S7 _ b3,A8 hi (by have:=hf.blocks;omega)]
    cases(f.Blocks.getD i default).Ops.all ig with
    | false=>rfl
    | true=>
     unfold iC
     cases numB (f.Blocks.getD i default).End.Kind<;>cases numB (f.Blocks.getD i default).End.Arg<;>cases listB (f.Blocks.getD i default).End.To<;>rfl
  exact Hi f.Blocks (default:Aj) blockB (E2 f) (.inl ()) (.inr false) (λi hi hp=>by rw[step i hi,hp];rfl) (λi hi hp=>by rw[step i hi,hp];rfl) (by
   unfold E2
   simp) _ 0 (Hz _)
 rw[show((0:Nat):Int)=0 from rfl,Mw]at hloop;unfold Jb W1;simp only[S7 _ hf.params,Vw,qT f hf,hloop]
 have e1:((f.Blocks.length:Int)==0) = !decide (1<=f.Blocks.length):=by
  rw[<- decide_not]
  by_cases h:f.Blocks.length=0
  ·simp[h]
  ·have h1:((f.Blocks.length:Int)==0)=false:=by simpa using h
   rw[h1];symm;apply C0;omega
 have e2:decide ((64:Int)<(f.Blocks.length:Int)) = !decide (f.Blocks.length<=64):=by rw[<- decide_not];apply zzL61.2;omega
 have e3:decide ((16:Int)<(f.Params.length:Int)) = !decide (f.Params.length<=16):=by rw[<- decide_not];apply zzL61.2;omega
 have e4:decide ((512:Int)<sizeW f) = !decide (sizeW f<=512):=by rw[<- decide_not];apply zzL61.2;omega
 rw[e1,e2,e3]
 generalize decide (1<=f.Blocks.length)=p1
 generalize decide (f.Blocks.length<=64)=p2
 generalize decide (f.Params.length<=16)=p3
 generalize listB f.Params=p4
 generalize numB f.Ret=p5
 cases p1 with
 | false=>simp
 | true=>cases p2 with
  | false=>simp
  | true=>cases p3 with
   | false=>simp
   | true=>cases p4 with
    | false=>simp
    | true=>cases p5 with
     | false=>simp
     | true=>
      simp only[D3,Bool.or_self,Af,A2,Tc,Ar,e4]
      cases decide (sizeW f<=512) with
      | false=>simp
      | true=>cases f.Blocks.all blockB<;>simp
theorem pi{n:Int}:numB n=true↔0<=n/\n<=2147483647:=by simp[numB]
theorem listB_iff{l:List Int}:listB l=true↔pL l/\l.length<=64:=by
 simp[listB,pL,pi]
def Abc(n:Int):Prop:=0<=n/\n<18446744073709551616
structure OkB(b:Aj):Prop where
 may:blockB b=true
 phis:b.Phis.length<=512
 ops:b.Ops.length<=512
 imm:∀ o∈b.Ops,Abc o.Imm
structure OkF(f:TFunc):Prop where
 params:listB f.Params=true
 few:f.Params.length<=16
 ret:numB f.Ret=true
 blocks:f.Blocks.length<=64
 block:∀ b∈f.Blocks,OkB b
theorem blockB_iff{b:Aj}:blockB b=true↔(∀ p∈b.Phis,JP p=true)/\(∀ o∈b.Ops,ig o=true)/\iC b.End=true:=by
 simp[blockB,and_assoc]
theorem yT{α:Type}(l:List α)(g:α->Nat)(B:Nat)(h:∀ a∈l,g a<=B):(l.map g).sum<=l.length*B:=by
 induction l with
 | nil=>simp
 | cons a l ih=>
  have h1:=h a (by simp);have h2:=ih (λb hb=>h b (by simp[hb]));rw[C1,List.sum_cons,GQ,Hs];omega
theorem qd{α:Type}(l:List α)(g k:α->Nat)(h:∀ a∈l,g a<=k a):(l.map g).sum<=(l.map k).sum:=by
 induction l with
 | nil=>simp
 | cons a l ih=>
  grind
theorem SV{α:Type}(l:List α)(g:α->Nat)(h:∀ a∈l,1<=g a):l.length<=(l.map g).sum:=by
 induction l with
 | nil=>simp
 | cons a l ih=>
  grind
theorem iU{α:Type}{l:List α}{a:α}(g:α->Nat)(h:a∈l):g a<=(l.map g).sum:=by
 induction l with
 | nil=>cases h
 | cons b l ih=>
  grind
theorem OkF.size{f:TFunc}(h:OkF f):Vz f<=65600/\sizeW f=Vz f:=by
 have:Vz f<=f.Blocks.length*1025:=yT _ _ _ λb hb=>by
  have h1:=(h.block b hb).phis;have h2:=(h.block b hb).ops;simp only[OJ];omega
 have h2:=h.blocks
 have h3:Vz f<=65600:=by omega
 exact⟨h3,QX (by omega)⟩
theorem LD{f:TFunc}(h:W1 f=true):1<=f.Blocks.length/\f.Blocks.length<=64/\f.Params.length<=16/\listB f.Params=true/\numB f.Ret=true/\sizeW f<=512/\∀ b∈f.Blocks,blockB b=true:=by
 simp only[W1,Bg,Jm,zzL34]at h;exact⟨h.1.1.1.1.1.1,h.1.1.1.1.1.2,h.1.1.1.1.2,h.1.1.1.2,h.1.1.2,h.1.2,h.2⟩
theorem mS{f:TFunc}(h:W1 f=true):f.Params.length<=64/\∀ b∈f.Blocks,b.End.To.length<=64/\(∀ p∈b.Phis,p.From.length<=64/\p.Args.length<=64)/\∀ o∈b.Ops,o.Args.length<=64:=by
 obtain⟨_,_,h3,_,_,_,h7⟩:=LD h;refine⟨by omega,λb hb=>?_⟩;obtain⟨q1,q2,q3⟩:=blockB_iff.1 (h7 b hb);simp only[iC,Bg]at q3;refine⟨(listB_iff.1 q3.2).2,λp hp=>?_,λo ho=>?_⟩
 ·have:=q1 p hp;simp only[JP,Bg]at this;exact⟨(listB_iff.1 this.1.2).2,(listB_iff.1 this.2).2⟩
 ·have:=q2 o ho;simp only[ig,Bg]at this;exact(listB_iff.1 this.2).2
theorem yB{f:TFunc}(hf:fw f)(h:W1 f=true)(hs:pD f<=20000):OkF f/\Vz f<=512:=by
 obtain⟨h1,h2,h3,h4,h5,h6,h7⟩:=LD h
 have hle:Vz f<=pD f:=by
  have:Vz f<=(f.Blocks.map lz).sum:=qd _ _ _ λb hb=>by
   have q1:b.Phis.length<=(b.Phis.map mB).sum:=SV _ _ λp hp=>by simp only[mB];omega
   have q2:b.Ops.length<=(b.Ops.map mA).sum:=SV _ _ λp hp=>by simp only[mA];omega
   simp only[OJ,lz];omega
  simp only[pD];omega
 have hw:sizeW f=Vz f:=QX (by omega)
 have h512:Vz f<=512:=by omega
 refine⟨⟨h4,h3,h5,h2,λb hb=>?_⟩,h512⟩;have hb512:OJ b<=Vz f:=iU _ hb;simp only[OJ]at hb512;exact⟨h7 b hb,by omega,by omega,λo ho=>(hf.op b hb o ho).2⟩
theorem fX(f:TFunc)(hf:fw f):∃ sm,C2 f=some sm/\(sm=true->W1 f=true->OkF f/\Vz f<=512/\1<=f.Blocks.length):=by
 obtain⟨sm,h⟩:=UP f hf;refine⟨sm,h,λh1 h2=>?_⟩;obtain⟨q1,q2⟩:=mS h2;rw[qZ f hf q1 q2]at h;obtain⟨r1,r2⟩:=yB hf h2 (by grind);exact⟨r1,r2,(LD h2).1⟩
end
end Go.Proofs.YtaeaenoaomdimaaGreat
