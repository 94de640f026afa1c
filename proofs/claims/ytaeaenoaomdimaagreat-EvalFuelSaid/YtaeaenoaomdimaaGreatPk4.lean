/-
  The machine, the program's functions and the laws' arithmetic: part 4 of 6.
-/
import Derived.Test.YtaeaenoaomdimaaGreatPk3
import Derived.OpenShut
import Derived.ShutString
set_option linter.unusedVariables false
set_option linter.unusedSimpArgs false
namespace Go.Proofs.YtaeaenoaomdimaaGreat
noncomputable section
open Go Go.RowKit
set_option maxRecDepth 100000
set_option maxHeartbeats 2000000
def yv(x5:jI)(a2:Ey)(a4:Int)(a3:Int):=(⟨[(4,bW),(5,(Az x5.1))],(Z39 a2.length a4 a3 x5.2.2.length x5.2.1 a2 x5.2.2 x5.2.1.length),[]⟩:St)
def yu(x5:jI)(a2:Ey)(a4:Int)(a3:Int):=((Z68 x5.1 a2.length a4 a3 x5.2.2.length x5.2.1 a2 x5.2.2 x5.2.1.length):St)
def Em(a0:C5)(a2:Ey)(a4:Int)(a3:Int)(a8:Am)(a5:List Ac):Option jJ:=
 (Aw (A0 (0:Int) a0.Args.length) ((Bf (a0.Args.getD (0:Int).toNat (0:Int)) a2 a4 a3 a8 a5).bind λx2=>(Aw (A0 (1:Int) a0.Args.length) (Aw (A0 (a0.Args.getD (1:Int).toNat (0:Int)) a2.length) ((Pp x2 a0.Bits (a2.getD (a0.Args.getD (1:Int).toNat (0:Int)).toNat []) a8 a5).bind λx5=>(Aw (a8.length=x5.2.2.length) (some (([]:Am),x5.1,a4,a3,x5.2.1,a2,x5.2.2))))))))
variable{v0:Am}{v13:Int}{v16:Ey}{v33:List Ac}{v4:Int}{v42:jJ}{v8:C5}
theorem Ry(h:Em v8 v16 v4 v13 v0 v33=some v42):sP 54 [(Ha 30000),(IM v8)] (Z1 v16 v4 v13 v0 v33 v33.length) (.tuple (jt v42.1 v42.2.1)) (Z7 v42.2.2.2.2.2.1 v42.2.2.1 v42.2.2.2.1 v42.2.2.2.2.2.2 v42.2.2.2.2.1 v42.2.2.2.2.1.length v42.1.length):=
 sG Tryz.func54 λΓ q=>gR q Ov Vi [(4,bW)] [] (c1 (Bi 1 Dc (0:Int))) (tC h λc1_ h=>tB h λx2 y2 h=>tC h λc3_ h=>tC h λc4_ h=>tB h λx5 y5 h=>tC h λc6_ h=>gR q Ow Et [(4,bW)] [(zy x2 v16 v4 v13 v0 v33 v33.length),⟨rK,[],(Az x5.1),(Z5 x5.2.2 x5.2.1 x5.2.1.length),[],[]⟩] (KO c1_ (Cr y2) (nJ [(.row 85 (YN v16.length v4 v13)),(.row 79 (RV 35100 v0.length v33 37101)),(.tok 3 49 v33.length),(.arr 1 26 v16.length (λi=>D8 (v16.getD i []))),(.arr 1 5 v0.length (λi=>Ur (v0.getD i 0))),(.obj (.tab .i64 WX))] (c5 c3_ c4_ (Eq.refl v16.length) (LY y5) (Bi 1 Dc (0:Int))))) (Qi (yv x5 v16 v4 v13) (tS h (gK (e:=.ret) (Hu wR (show Le Γ _ (yu x5 v16 v4 v13) from Le.trans (Bk (st':=(yv x5 v16 v4 v13)) Ow Et q) (Le.trans (Np (t:=4) (nm:=6004) (sz':=1) (λi=>Dc (([]:Am).getD i 0)) 37 rfl rfl (.inl ⟨rfl,rfl⟩) (λh_=>absurd h_ (by decide))) (Bk (st':=(yu x5 v16 v4 v13)) Ow rI q))))))))
def H4(a0:C5)(a2:Ey)(a4:Int)(a3:Int)(a8:Am)(a5:List Ac):Option jJ:=
 (Aw (A0 (0:Int) a0.Args.length) ((D2 (a0.Args.getD (0:Int).toNat (0:Int)) a2 a4 a3 a8 a5).bind λx2=>(bif (!x2) then(Aw (A0 (w64 ((a0.Args.length:Int)-1)) a0.Args.length) (Aw (A0 (a0.Args.getD (w64 ((a0.Args.length:Int)-1)).toNat (0:Int)) a2.length) (some ((a2.getD (a0.Args.getD (w64 ((a0.Args.length:Int)-1)).toNat (0:Int)).toNat []),(0:Int),a4,a3,a5,a2,a8)))) else(Aw (0<=(1:Int)/\(1:Int)<=(a0.Args.length:Int)) ((Fa (⟨a0.Kind,a0.Bits,a0.Lanes,a0.Dst,(a0.Args.drop (1:Int).toNat),a0.Imm⟩:C5) a2 a4 a3 a8 a5).bind λx6=>(Aw (a2.length=x6.2.2.2.2.2.1.length) (Aw (a8.length=x6.2.2.2.2.2.2.length) (some (x6.1,x6.2.1,x6.2.2.1,x6.2.2.2.1,x6.2.2.2.2.1,x6.2.2.2.2.2.1,x6.2.2.2.2.2.2)))))))))
theorem Vg(h:H4 v8 v16 v4 v13 v0 v33=some v42):sP 82 [(IM v8),(.rpo ER),(.rpo [(.clo 53 ER [])])] (Z1 v16 v4 v13 v0 v33 v33.length) (.tuple [(ge v42.1),(Az v42.2.1)]) (Z1 v42.2.2.2.2.2.1 v42.2.2.1 v42.2.2.2.1 v42.2.2.2.2.2.2 v42.2.2.2.2.1 v42.2.2.2.2.1.length):=
 sG Tryz.func82 λΓ q=>gR q Y7 Vi [(4,bW)] [] (c1 (Bi 1 Dc (0:Int))) (tC h λc1_ h=>tB h λx2 y2 h=>tT q [1,2,3,12] Vi [(Z46 x2 v16 v4 v13 v0 v33 v33.length)] (KO c1_ (Ii y2) (Uk [(.row 85 (YN v16.length v4 v13)),(.row 79 (RV 35100 v0.length v33 37101)),(.tok 3 49 v33.length),(.arr 1 26 v16.length (λi=>D8 (v16.getD i []))),(.arr 1 5 v0.length (λi=>Ur (v0.getD i 0))),(.obj (.tab .i64 WX))])) (gC h (λh=>tC h λc3_ h=>tC h λc4_ h=>tU q Ow Et (c3 c3_ c4_ (Eq.refl v16.length)) (tS h (Be O0))) λh=>tC h λc5_ h=>gR q Cn Vi [(29,(AV.list 1 Ax 0 (v8.Args.drop (1:Int).toNat) .none))] [] (c2 c5_ (show(AVle (z7 v8.Args) (AV.list 1 Ax 0 (v8.Args.drop (1:Int).toNat) .none)) from IR)) (tB h λx6 y6 h=>tC h λc7_ h=>tC h λc8_ h=>tT q Ow rl [(Z33 33 x6.1 x6.2.1 x6.2.2.2.2.2.1 x6.2.2.1 x6.2.2.2.1 x6.2.2.2.2.2.2 x6.2.2.2.2.1 x6.2.2.2.2.1.length x6.1.length)] (c1 (S9 y6)) (tS h (Be O0)))))
def Gm(a0:C5)(a2:Ey)(a4:Int)(a3:Int)(a8:Am)(a5:List Ac):Option jJ:=
 (Aw (A0 (0:Int) a0.Args.length) ((D2 (a0.Args.getD (0:Int).toNat (0:Int)) a2 a4 a3 a8 a5).bind λx2=>(bif (!x2) then(Aw (A0 (w64 ((a0.Args.length:Int)-1)) a0.Args.length) (Aw (A0 (a0.Args.getD (w64 ((a0.Args.length:Int)-1)).toNat (0:Int)) a2.length) (some ((a2.getD (a0.Args.getD (w64 ((a0.Args.length:Int)-1)).toNat (0:Int)).toNat []),(0:Int),a4,a3,a5,a2,a8)))) else(Aw (0<=(1:Int)/\(1:Int)<=(a0.Args.length:Int)) ((Em (⟨a0.Kind,a0.Bits,a0.Lanes,a0.Dst,(a0.Args.drop (1:Int).toNat),a0.Imm⟩:C5) a2 a4 a3 a8 a5).bind λx6=>(Aw (a2.length=x6.2.2.2.2.2.1.length) (Aw (a8.length=x6.2.2.2.2.2.2.length) (some (x6.1,x6.2.1,x6.2.2.1,x6.2.2.2.1,x6.2.2.2.2.1,x6.2.2.2.2.2.1,x6.2.2.2.2.2.2)))))))))
theorem Tk(h:Gm v8 v16 v4 v13 v0 v33=some v42):sP 82 [(IM v8),(.rpo ER),(.rpo [(.clo 54 ER [])])] (Z1 v16 v4 v13 v0 v33 v33.length) (.tuple [(ge v42.1),(Az v42.2.1)]) (Z1 v42.2.2.2.2.2.1 v42.2.2.1 v42.2.2.2.1 v42.2.2.2.2.2.2 v42.2.2.2.2.1 v42.2.2.2.2.1.length):=
 sG Tryz.func82 λΓ q=>gR q Y7 Vi [(4,bW)] [] (c1 (Bi 1 Dc (0:Int))) (tC h λc1_ h=>tB h λx2 y2 h=>tT q [1,2,3,12] Vi [(Z46 x2 v16 v4 v13 v0 v33 v33.length)] (KO c1_ (Ii y2) (Uk [(.row 85 (YN v16.length v4 v13)),(.row 79 (RV 35100 v0.length v33 37101)),(.tok 3 49 v33.length),(.arr 1 26 v16.length (λi=>D8 (v16.getD i []))),(.arr 1 5 v0.length (λi=>Ur (v0.getD i 0))),(.obj (.tab .i64 WX))])) (gC h (λh=>tC h λc3_ h=>tC h λc4_ h=>tU q Ow Et (c3 c3_ c4_ (Eq.refl v16.length)) (tS h (Be O0))) λh=>tC h λc5_ h=>gR q Cn Vi [(29,(AV.list 1 Ax 0 (v8.Args.drop (1:Int).toNat) .none))] [] (c2 c5_ (show(AVle (z7 v8.Args) (AV.list 1 Ax 0 (v8.Args.drop (1:Int).toNat) .none)) from IR)) (tB h λx6 y6 h=>tC h λc7_ h=>tC h λc8_ h=>tT q Ow rl [(Z33 33 x6.1 x6.2.1 x6.2.2.2.2.2.1 x6.2.2.1 x6.2.2.2.1 x6.2.2.2.2.2.2 x6.2.2.2.2.1 x6.2.2.2.2.1.length x6.1.length)] (c1 (Ry y6)) (tS h (Be O0)))))
def wd(aP:Int):=(bif (decide ((1:Int)<=aP)) then(decide (aP<=12)) else false)
def Yi(aP:Int)(aH:Int):Option Bool:=
 ((bif ((bif (decide ((1:Int)<=aP)) then(decide (aP<=12)) else false)==true) then Ep aH else some false).bind λx1=>(some (bif (bif (decide ((1:Int)<=aP)) then(decide (aP<=12)) else false) then x1 else false)))
variable{v5:Bool}
theorem fA(h:Yi v4 v13=some v5):sP 108 [(Az v4),(Az v13)] [] (.bool v5) []:=
 sG Tryz.func108 λΓ q=>Ae q Ew [] (tB h λx1 y1 h=>tT q [4] [] [(Z8 x1)] (c5 (gI ((decide ((1:Int)<=v4))==true)) (Nn (decide ((1:Int)<=v4))) (gI ((wd v4)==true)) (λ(hg:((wd v4)==true)=true)=>(Gl (B0 hg y1))) (Nn (wd v4))) (tS h (Be [])))
def CT(aC:Int)(aD:Int):Option Int:=
 (some (E1 (aC+aD)))
variable{v21:Int}
theorem QF(h:CT v4 v13=some v21):sP 136 (CD v4 v13) [] (.int .u64 v21) []:=
 sG Tryz.func136 λΓ q=>tW q Ew [] [4] [] (tS h (Be []))
def CU(aC:Int)(aD:Int):Option Int:=
 (some (E1 (aC-aD)))
theorem QG(h:CU v4 v13=some v21):sP 137 (CD v4 v13) [] (.int .u64 v21) []:=
 sG Tryz.func137 λΓ q=>tW q Ew [] [4] [] (tS h (Be []))
def CV(aC:Int)(aD:Int):Option Int:=
 (some (E1 (aC*aD)))
theorem QH(h:CV v4 v13=some v21):sP 138 (CD v4 v13) [] (.int .u64 v21) []:=
 sG Tryz.func138 λΓ q=>tW q Ew [] [4] [] (tS h (Be []))
def Re(aC:Int)(aD:Int):Option Int:=
 (Aw (aD≠0) (some (E1 (Int.tdiv aC aD))))
theorem QI(h:Re v4 v13=some v21):sP 139 (CD v4 v13) [] (.int .u64 v21) []:=
 sG Tryz.func139 λΓ q=>Ae q Ew [] (tV q [4] [] h λh=>tS h (Be []))
def CW(aC:Int)(aD:Int):Option Int:=
 (some (Lq .and .u64 aC aD))
theorem QJ(h:CW v4 v13=some v21):sP 140 (CD v4 v13) [] (.int .u64 v21) []:=
 sG Tryz.func140 λΓ q=>tW q Ew [] [4] [] (tS h (Be []))
def CX(aC:Int)(aD:Int):Option Int:=
 (some (Lq .or .u64 aC aD))
theorem QK(h:CX v4 v13=some v21):sP 141 (CD v4 v13) [] (.int .u64 v21) []:=
 sG Tryz.func141 λΓ q=>tW q Ew [] [4] [] (tS h (Be []))
def CY(aC:Int)(aD:Int):Option Int:=
 (some (Lq .xor .u64 aC aD))
theorem QL(h:CY v4 v13=some v21):sP 142 (CD v4 v13) [] (.int .u64 v21) []:=
 sG Tryz.func142 λΓ q=>tW q Ew [] [4] [] (tS h (Be []))
def Rf(aC:Int)(aD:Int)(aa7:Int):Option Hs:=
 (bif (decide (((E1 aa7):Int)<=aD)) then(some ((0:Int),aa7)) else(Aw (0<=aD) (some ((Tq .u64 aC aD),aa7))))
variable{v20:Hs}
theorem QM(h:Rf v4 v13 v21=some v20):sP 143 [(Ru v4),(Ru v13),(Ha 30000)] (tP v21) (Ru v20.1) (tP v20.2):=
 sG Tryz.func143 λΓ q=>tW q Zy [30000] [0,1,9] [30000] (gC h (λh=>Ae q [5] [30000] (tS h (Be VV))) λh=>tV q [5] [30000] h λh=>tS h (Be VV))
def Rg(aC:Int)(aD:Int)(aa7:Int):Option Hs:=
 (bif (decide (((E1 aa7):Int)<=aD)) then(some ((0:Int),aa7)) else(Aw (0<=aD) (some ((Oz .u64 aC aD),aa7))))
theorem QN(h:Rg v4 v13 v21=some v20):sP 144 [(Ru v4),(Ru v13),(Ha 30000)] (tP v21) (Ru v20.1) (tP v20.2):=
 sG Tryz.func144 λΓ q=>tW q Zy [30000] [0,1,9] [30000] (gC h (λh=>Ae q [5] [30000] (tS h (Be VV))) λh=>tV q [5] [30000] h λh=>tS h (Be VV))
def Mg(aaI:Bool):Option Int:=
 (bif aaI then(some (1:Int)) else(some (0:Int)))
theorem Wm(h:Mg v5=some v4):sP 146 [(.bool v5)] [] (.int .u64 v4) []:=
 sG Tryz.func146 λΓ q=>tW q [0] [] [3] [] (gC h (λh=>Ae q [2] [] (tS h (Be []))) λh=>Ae q [2] [] (tS h (Be [])))
def Zd(aC:Int)(aD:Int):Option Int:=
 ((Mg (aC==aD)).bind λx1=>(some x1))
theorem LZ(h:Zd v4 v13=some v21):sP 145 (CD v4 v13) [] (.int .u64 v21) []:=
 sG Tryz.func145 λΓ q=>Ae q Ew [] (tB h λx1 y1 h=>tT q [4] [] [(XC x1)] (c1 (Wm y1)) (tS h (Be [])))
def Ze(aC:Int)(aD:Int):Option Int:=
 ((Mg (decide (aC<aD))).bind λx1=>(some x1))
theorem MA(h:Ze v4 v13=some v21):sP 147 (CD v4 v13) [] (.int .u64 v21) []:=
 sG Tryz.func147 λΓ q=>Ae q Ew [] (tB h λx1 y1 h=>tT q [4] [] [(XC x1)] (c1 (Wm y1)) (tS h (Be [])))
def Sx(aK:Int)(aH:Int):Option Int:=
 ((Ep aH).bind λx1=>(bif (!x1) then(some (0:Int)) else(Aw (0<=(w64 ((64:Int)-aH))) (Aw (0<=(w64 ((64:Int)-aH))) (some (Oz .i64 (w64 (Tq .u64 aK (w64 ((64:Int)-aH)))) (w64 ((64:Int)-aH))))))))
theorem DM(h:Sx v4 v13=some v21):sP 149 [(Ru v4),(Az v13)] [] (.int .i64 v21) []:=
 sG Tryz.func149 λΓ q=>Ae q Ew [] (tB h λx1 y1 h=>tT q [0,1,7] [] [(Z8 x1)] (c1 (Gl y1)) (gC h (λh=>Ae q [4] [] (tS h (Be []))) λh=>tC h λc2_ h=>tC h λc3_ h=>tU q [4] [] (c2 c2_ c3_) (tS h (Be []))))
def Pq(aC:Int)(aD:Int)(aa7:Int):Option Hs:=
 ((Sx aC aa7).bind λx1=>((Sx aD aa7).bind λx2=>((Mg (decide (x1<x2))).bind λx3=>(some (x3,aa7)))))
theorem MB(h:Pq v4 v13 v21=some v20):sP 148 [(Ru v4),(Ru v13),(Ha 30000)] (tP v21) (Ru v20.1) (tP v20.2):=
 sG Tryz.func148 λΓ q=>Ae q Zy [30000] (tB h λx1 y1 h=>tB h λx2 y2 h=>tB h λx3 y3 h=>tT q [5] [30000] [(XD x1),(XD x2),(XC x3)] (c3 (DM y1) (DM y2) (Wm y3)) (tS h (Be VV)))
def Jh(aP:Int)(aH:Int)(aC:Int)(aD:Int):Option Int:=
 (bif (decide (aP=(1:Int))) then((CT aC aD).bind λx2=>(some x2)) else(bif (decide (aP=(2:Int))) then((CU aC aD).bind λx4=>(some x4)) else(bif (decide (aP=(3:Int))) then((CV aC aD).bind λx6=>(some x6)) else(bif (decide (aP=(4:Int))) then((Re aC aD).bind λx8=>(some x8)) else(bif (decide (aP=(5:Int))) then((CW aC aD).bind λx10=>(some x10)) else(bif (decide (aP=(6:Int))) then((CX aC aD).bind λx12=>(some x12)) else(bif (decide (aP=(7:Int))) then((CY aC aD).bind λx14=>(some x14)) else(bif (decide (aP=(8:Int))) then((Rf aC aD aH).bind λx16=>(some x16.1)) else(bif (decide (aP=(9:Int))) then((Rg aC aD aH).bind λx18=>(some x18.1)) else(bif (decide (aP=(10:Int))) then((Zd aC aD).bind λx20=>(some x20)) else(bif (decide (aP=(11:Int))) then((Ze aC aD).bind λx22=>(some x22)) else(bif (decide (aP=(12:Int))) then((Pq aC aD aH).bind λx24=>(some x24.1)) else none))))))))))))
variable{v38:Int}{v44:Int}
theorem YD(h:Jh v4 v13 v21 v38=some v44):sP 109 [(Az v4),(Az v13),(Ru v21),(Ru v38)] [] (.int .u64 v44) []:=
 sG Tryz.func109 λΓ q=>tW q [0,2,3,5] [5] [0,2,3,9] [5,9] (gB h (λhs1 h=>tB h λx2 y2 h=>gR q [8] [] [(14,RW)] [(XC x2)] (c3 (show(AVle (Az v4) RW) from(Cq hs1)) (show(A0 (1:Int) 13) from(by decide)) (QF y2)) (tS h (Be []))) (λhs1 h=>gB h (λhs3 h=>tB h λx4 y4 h=>gR q [8] [] [(14,RS)] [(XC x4)] (c3 (show(AVle (Az v4) RS) from(Cq hs3)) (show(A0 (2:Int) 13) from(by decide)) (QG y4)) (tS h (Be []))) (λhs3 h=>gB h (λhs5 h=>tB h λx6 y6 h=>gR q [8] [] [(14,PS)] [(XC x6)] (c3 (show(AVle (Az v4) PS) from(Cq hs5)) (show(A0 (3:Int) 13) from(by decide)) (QH y6)) (tS h (Be []))) (λhs5 h=>gB h (λhs7 h=>tB h λx8 y8 h=>gR q [8] [] [(14,(.int .i64 (4:Int)))] [(XC x8)] (c3 (show(AVle (Az v4) (.int .i64 (4:Int))) from(Cq hs7)) (show(A0 (4:Int) 13) from(by decide)) (QI y8)) (tS h (Be []))) (λhs7 h=>gB h (λhs9 h=>tB h λx10 y10 h=>gR q [8] [] [(14,nG)] [(XC x10)] (c3 (show(AVle (Az v4) nG) from(Cq hs9)) (show(A0 (5:Int) 13) from(by decide)) (QJ y10)) (tS h (Be []))) (λhs9 h=>gB h (λhs11 h=>tB h λx12 y12 h=>gR q [8] [] [(14,(.int .i64 (6:Int)))] [(XC x12)] (c3 (show(AVle (Az v4) (.int .i64 (6:Int))) from(Cq hs11)) (show(A0 (6:Int) 13) from(by decide)) (QK y12)) (tS h (Be []))) (λhs11 h=>gB h (λhs13 h=>tB h λx14 y14 h=>gR q [8] [] [(14,(.int .i64 (7:Int)))] [(XC x14)] (c3 (show(AVle (Az v4) (.int .i64 (7:Int))) from(Cq hs13)) (show(A0 (7:Int) 13) from(by decide)) (QL y14)) (tS h (Be []))) (λhs13 h=>gB h (λhs15 h=>tB h λx16 y16 h=>gR q [8] [] [(14,bV)] [⟨jn,[],(Ru x16.1),(tP x16.2),[],[]⟩] (c3 (show(AVle (Az v4) bV) from(Cq hs15)) (show(A0 (8:Int) 13) from(by decide)) (QM y16)) (tS h (Be []))) (λhs15 h=>gB h (λhs17 h=>tB h λx18 y18 h=>gR q [8] [] [(14,(.int .i64 (9:Int)))] [⟨jn,[],(Ru x18.1),(tP x18.2),[],[]⟩] (c3 (show(AVle (Az v4) (.int .i64 (9:Int))) from(Cq hs17)) (show(A0 (9:Int) 13) from(by decide)) (QN y18)) (tS h (Be []))) (λhs17 h=>gB h (λhs19 h=>tB h λx20 y20 h=>gR q [8] [] [(14,(Ve 10))] [(XC x20)] (c3 (show(AVle (Az v4) (Ve 10)) from(Cq hs19)) (show(A0 (10:Int) 13) from(by decide)) (LZ y20)) (tS h (Be []))) (λhs19 h=>gB h (λhs21 h=>tB h λx22 y22 h=>gR q [8] [] [(14,(Ve 11))] [(XC x22)] (c3 (show(AVle (Az v4) (Ve 11)) from(Cq hs21)) (show(A0 (11:Int) 13) from(by decide)) (MA y22)) (tS h (Be []))) (λhs21 h=>gB h (λhs23 h=>tB h λx24 y24 h=>gR q [8] [] [(14,(Ve 12))] [⟨jn,[],(Ru x24.1),(tP x24.2),[],[]⟩] (c3 (show(AVle (Az v4) (Ve 12)) from(Cq hs23)) (show(A0 (12:Int) 13) from(by decide)) (MB y24)) (tS h (Be []))) (λhs23 h=>nomatch h)))))))))))))
def Uf(aP:Int)(aH:Int)(aC:Int)(aD:Int):Option Hs:=
 ((Yi aP aH).bind λx1=>(bif (!x1) then(some ((0:Int),(1:Int))) else((Fc aC aH).bind λx2=>((Fc aD aH).bind λx3=>(bif (bif (aP==4) then(x3==0) else false) then(some ((0:Int),(8:Int))) else((Jh aP aH x2 x3).bind λx4=>((Fc x4 aH).bind λx5=>(some (x5,(0:Int))))))))))
theorem ib(h:Uf v4 v13 v21 v38=some v20):sP 84 [(Az v4),(Az v13),(Ru v21),(Ru v38)] [] (.tuple [(Ru v20.1),(Az v20.2)]) []:=
 sG Tryz.func84 λΓ q=>Ae q WG [] (tB h λx1 y1 h=>tT q [0,1,2,3,13] [] [(Z8 x1)] (c1 (fA y1)) (gC h (λh=>Ae q So [] (tS h (Be []))) λh=>tB h λx2 y2 h=>tB h λx3 y3 h=>tT q WG [] [(XC x2),(XC x3)] (c2 (N4 y2) (N4 y3)) (tU q [0,1,2,3,25] [] (c2 (gI ((v4==4)==true)) (Nn (v4==4))) (gC h (λh=>Ae q So [] (tS h (Be []))) λh=>tB h λx4 y4 h=>tB h λx5 y5 h=>tT q So [] [(XC x4),(XC x5)] (c2 (YD y4) (N4 y5)) (tS h (Be []))))))
def F7(a0:C5)(aS:Int)(a2:Ey):Xl->Option (LR (Int×Am) (Am ⊕ (Am×Int))):=
 λ((i6,l7):Xl)=>(bif (decide (i6<((List.replicate ((a2.getD (a0.Args.getD (0:Int).toNat (0:Int)).toNat []).length:Int).toNat (0:Int)).length:Int))) then(Aw (A0 i6 (a2.getD (a0.Args.getD (0:Int).toNat (0:Int)).toNat []).length) (Aw (A0 i6 (a2.getD (a0.Args.getD (1:Int).toNat (0:Int)).toNat []).length) ((Uf aS a0.Bits ((a2.getD (a0.Args.getD (0:Int).toNat (0:Int)).toNat []).getD i6.toNat 0) ((a2.getD (a0.Args.getD (1:Int).toNat (0:Int)).toNat []).getD i6.toNat 0)).bind λx11=>(bif (x11.2 !=0) then(some (.done (.inr (([]:Am),x11.2)))) else(Aw (A0 i6 l7.length) (some (.next ((w64 (i6+1)),(l7.set i6.toNat x11.1))))))))) else(some (.done (.inl l7))))
def BT(Γ:Il)(a0:C5)(aS:Int)(a2:Ey)(a4:Int)(a3:Int)(a8:Am)(a5:List Ac)(r:MQ):Exit->St->Prop:=fK Tryz.prog Γ Tryz.f83.results.toList (Z1 a2 a4 a3 a8 a5 a5.length) (.tuple (jt r.1 r.2)) (Z7 a2 a4 a3 a8 a5 a5.length r.1.length)
def we:=(λn_=>B3 n_ [3,34,30000,30001,35002,35100,37101,9100001])
def nT(a2:Ey)(a0:C5):=((a2.getD (a0.Args.getD (0:Int).toNat (0:Int)).toNat []).length:Int)
def yx(x11:Hs)(a2:Ey)(a4:Int)(a3:Int)(a8:Am)(a5:List Ac):=(⟨[(4,bW),(5,(Az x11.2))],(Z39 a2.length a4 a3 a8.length a5 a2 a8 a5.length),[]⟩:St)
def yw(x11:Hs)(a2:Ey)(a4:Int)(a3:Int)(a8:Am)(a5:List Ac):=((Z68 x11.2 a2.length a4 a3 a8.length a5 a2 a8 a5.length):St)
def Ao(a0:C5)(aS:Int)(a2:Ey)(a4:Int)(a3:Int)(a8:Am)(a5:List Ac):Option MQ:=
 (Aw (A0 (0:Int) a0.Args.length) (Aw (A0 (a0.Args.getD (0:Int).toNat (0:Int)) a2.length) (Aw (A0 (1:Int) a0.Args.length) (Aw (A0 (a0.Args.getD (1:Int).toNat (0:Int)) a2.length) (Aw (0<=((a2.getD (a0.Args.getD (0:Int).toNat (0:Int)).toNat []).length:Int)/\((a2.getD (a0.Args.getD (0:Int).toNat (0:Int)).toNat []).length:Int)<=((a2.getD (a0.Args.getD (0:Int).toNat (0:Int)).toNat []).length:Int)/\((a2.getD (a0.Args.getD (0:Int).toNat (0:Int)).toNat []).length:Int)<=(room:Int)) ((Ad (F7 a0 aS a2) ((0:Int),(List.replicate ((a2.getD (a0.Args.getD (0:Int).toNat (0:Int)).toNat []).length:Int).toNat (0:Int)))).bind (λx13=>(match x13 with|(.inl l8)=>(some (l8,(0:Int)))|(.inr r15)=>(some r15)))))))))
variable{v37:MQ}
theorem Bg(h:Ao v8 v4 v16 v13 v21 v0 v33=some v37):sP 83 [(IM v8),(.rpo ER),(.rpo [(Az v4)])] (Z1 v16 v13 v21 v0 v33 v33.length) (.tuple (jt v37.1 v37.2)) (Z7 v16 v13 v21 v0 v33 v33.length v37.1.length):=
 sG Tryz.func83 λΓ q=>have hΓ:=q.own;gR q Y7 Vi [(4,bW)] [] (c1 (Bi 1 Dc (0:Int))) (tC h λc1_ h=>tC h λc2_ h=>tC h λc3_ h=>tC h λc4_ h=>tU q [2,3,6,7] Vi (c6 c1_ c2_ (Eq.refl v16.length) c3_ c4_ (Eq.refl v16.length)) (tV q [2,3,6,7,8] KJ h λh=>by exact M6 (Le.trans (Ss 34 (show ∀ k_,k_<((nT v16 v8).toNat)->AVleL ((λi_=>AV.eraseAll we ((λ_=>[(.int .u64 (0:Int))]) i_)) k_) ((λi=>Dc ((List.replicate (nT v16 v8).toNat (0:Int)).getD i 0)) k_) from(λk hk=>Mh (e:=Dc) (d:=(0:Int)) (.cons (AVle.refl _) .nil) _ k (Mm hk)))) (Su (λ(k_:Nat) u=>(Cs u [(8,(.vsl 34 k_))] [(34,.arr 1 37 k_ (λi=>Dc ((List.replicate (nT v16 v8).toNat (0:Int)).getD i 0)))])) (show(nT v16 v8).toNat=(List.replicate (nT v16 v8).toNat (0:Int)).length from(K3 ..).symm))) (Ae q cX KJ (tL q h cX KJ (λu (i6,l7)=>(Cs u [(8,(.vsl 34 l7.length)),(Ds 37 i6)] [(oD 34 l7)])) (λu x_=>match x_ with|(.inl l8)=>aG Γ (.exit 0) (O1 [8] rm u [(8,(.vsl 34 l8.length))] [(oD 34 l8)])|(.inr r_)=>aR (BT Γ v8 v4 v16 v13 v21 v0 v33 r_)) (λ⟨i6,l7⟩ y h=>Ae q [2,3,6,7,8,36,37,38] KJ (gC h (λh=>Ae q [2,3,6,7,8,9,36,37] KJ (tC h λc9_ h=>tC h λc10_ h=>tB h λx11 y11 h=>tT q [2,3,6,7,8,9,10,11,36,37] KJ [⟨[],[],(.tuple [(Ru x11.1),(Az x11.2)]),[],[],[]⟩] (c3 c9_ c10_ (ib y11)) (Ae q [2,3,6,7,8,9,10,11,36,37,56] KJ (gC h (λh=>gR q Ow Et [(4,bW)] [] (c1 (Bi 1 Dc (0:Int))) (Qi (yx x11 v16 v13 v21 v0 v33) (tS h (gO (Lc (Hu wR (show Le Γ _ (yw x11 v16 v13 v21 v0 v33) from Le.trans (Bk (st':=(yx x11 v16 v13 v21 v0 v33)) Ow Et q) (Le.trans (Np (t:=4) (nm:=6004) (sz':=1) (λi=>Dc (([]:Am).getD i 0)) 37 rfl rfl (.inl ⟨rfl,rfl⟩) (λh_=>absurd h_ (by decide))) (Bk (st':=(yw x11 v16 v13 v21 v0 v33)) Ow rI q))))))))) λh=>tC h λc12_ h=>tU q cX KJ (c2 c12_ (Eq.refl l7.length)) (M6 (Le.trans (Ss 34 (show ∀ k_,k_<l7.length->AVleL ((λi_=>AV.eraseAll we ((E0 (λi=>Dc (l7.getD i 0)) i6.toNat 0 [(Ru x11.1)]) i_)) k_) ((λi=>Dc ((l7.set i6.toNat x11.1).getD i 0)) k_) from(Bc (Cl ..).symm (λk_ hk_=>(Bx (AV.eraseAll we) ((Fs (λ_ _=>rfl) (Gr c12_) rfl) k_ hk_)).trans rfl)))) (Su (λ(k_:Nat) u=>(Cs u [(8,(.vsl 34 k_))] [(34,.arr 1 37 k_ (λi=>Dc ((l7.set i6.toNat x11.1).getD i 0)))])) (show l7.length=(l7.set i6.toNat x11.1).length from(Cl ..).symm))) (Ae q cX KJ (tN h))))))) λh=>tS h (gO (Bd (Bk [8] rm q))))) λx13 h=>(match x13,h with | .inl l8,h=>gA (Ae q Ow rm (Qi (⟨[(4,(.vsl 34 l8.length)),(5,Pz)],[(oD 34 l8),(YP v16.length v13 v21),(bZ 30001 35100 v0.length v33 37101),(YO 35002 v16),(PW 35100 v0),(KR 37101 v33.length),(oG 9100001)],[]⟩:St) (tS h (gK (e:=.ret) (Hu [(30000,30000),(30001,30001),(37101,37101),(35002,35002),(35100,35100),(9100001,9100001),(34,20000)] (Le.trans (F0 (nm:=34) (sz:=1) (n:=l8.length) (e:=37) (f:=(λi=>Dc (l8.getD i 0))) (g:=(λi=>Dc (l8.getD i 0))) rfl ⟨rfl,trivial⟩ (λ_ _=>rfl) (by rw[hΓ];rfl)) (Ic (st':=⟨[(4,(lg l8 34)),(5,Pz)],[(34,.tok 1 37 l8.length),(YP v16.length v13 v21),(bZ 30001 35100 v0.length v33 37101),(YO 35002 v16),(PW 35100 v0),(KR 37101 v33.length),(oG 9100001)],[]⟩) (by kernel_rfl)))))))) | .inr r15,h=>Pu (λst' hk=>tS h (gK hk)))))))
def sM(a8:Am)(a5:List Ac):List AV:=(RV 35100 a8.length a5 37101)
def Gn(a0:C5)(aaK:Int)(a2:Ey)(a4:Int)(a3:Int)(a8:Am)(a5:List Ac):Option MQ:=
 (Aw (A0 (0:Int) a0.Args.length) ((D2 (a0.Args.getD (0:Int).toNat (0:Int)) a2 a4 a3 a8 a5).bind λx2=>(bif (!x2) then(Aw (A0 (w64 ((a0.Args.length:Int)-1)) a0.Args.length) (Aw (A0 (a0.Args.getD (w64 ((a0.Args.length:Int)-1)).toNat (0:Int)) a2.length) (some ((a2.getD (a0.Args.getD (w64 ((a0.Args.length:Int)-1)).toNat (0:Int)).toNat []),(0:Int))))) else(Aw (0<=(1:Int)/\(1:Int)<=(a0.Args.length:Int)) ((Ao (⟨a0.Kind,a0.Bits,a0.Lanes,a0.Dst,(a0.Args.drop (1:Int).toNat),a0.Imm⟩:C5) aaK a2 a4 a3 a8 a5).bind λx6=>(some (x6.1,x6.2)))))))
theorem Tl(h:Gn v8 v4 v16 v13 v21 v0 v33=some v37):sP 82 [(IM v8),(.rpo ER),(.rpo [(tJ v4)])] (Z1 v16 v13 v21 v0 v33 v33.length) (.tuple [(ge v37.1),(Az v37.2)]) (Z1 v16 v13 v21 v0 v33 v33.length):=
 sG Tryz.func82 λΓ q=>gR q Y7 Vi [(4,bW)] [] (c1 (Bi 1 Dc (0:Int))) (tC h λc1_ h=>tB h λx2 y2 h=>tT q [1,2,3,12] Vi [⟨O0,[],(.bool x2),[(YP v16.length v13 v21),(30001,.row 79 (sM v0 v33)),(KR 37101 v33.length),(YO 35002 v16),(PW 35100 v0),(oG 9100001)],[],k5⟩] (KO c1_ (Ii y2) (Uk [(.row 85 (YN v16.length v13 v21)),(.row 79 (sM v0 v33)),(.tok 3 49 v33.length),(.arr 1 26 v16.length (λi=>D8 (v16.getD i []))),(.arr 1 5 v0.length (λi=>Ur (v0.getD i 0))),(.obj (.tab .i64 WX))])) (gC h (λh=>tC h λc3_ h=>tC h λc4_ h=>tU q Ow Et (c3 c3_ c4_ (Eq.refl v16.length)) (tS h (Be O0))) λh=>tC h λc5_ h=>gR q Cn Vi [(29,(AV.list 1 Ax 0 (v8.Args.drop (1:Int).toNat) .none))] [] (c2 c5_ (show(AVle (z7 v8.Args) (AV.list 1 Ax 0 (v8.Args.drop (1:Int).toNat) .none)) from IR)) (tB h λx6 y6 h=>tT q Ow rl [⟨O0,[(20000,33)],(.tuple (jt x6.1 x6.2)),[(YP v16.length v13 v21),(30001,.row 79 (sM v0 v33)),(KR 37101 v33.length),(YO 35002 v16),(PW 35100 v0),(oG 9100001),(20000,.tok 1 37 x6.1.length)],[],k5⟩] (ci (Bg y6) (Uk [(.row 85 (YN v16.length v13 v21)),(.row 79 (sM v0 v33)),(.tok 3 49 v33.length),(.arr 1 26 v16.length (λi=>D8 (v16.getD i []))),(.arr 1 5 v0.length (λi=>Ur (v0.getD i 0))),(.obj (.tab .i64 WX))])) (tS h (Be O0)))))
def Jg(a0:C5)(a2:Ey)(a4:Int)(a3:Int)(a8:Am)(a5:List Ac):Xl->Option q8:=
 λ((i2,l3):Xl)=>(bif (decide (i2<(a0.Args.length:Int))) then(Aw (A0 i2 a0.Args.length) ((Bf (a0.Args.getD i2.toNat 0) a2 a4 a3 a8 a5).bind λx6=>(Aw (A0 i2 l3.length) (some (.next ((w64 (i2+1)),(l3.set i2.toNat x6))))))) else(some (.done l3)))
def sO(a8:Am)(a5:List Ac):List AV:=(RV 35100 a8.length a5 37101)
def Lm(a0:C5)(a2:Ey)(a4:Int)(a3:Int)(a8:Am)(a5:List Ac):Option MQ:=
 (Aw (0<=(a0.Args.length:Int)/\(a0.Args.length:Int)<=(a0.Args.length:Int)/\(a0.Args.length:Int)<=(room:Int)) ((Ad (Jg a0 a2 a4 a3 a8 a5) ((0:Int),(List.replicate (a0.Args.length:Int).toNat (0:Int)))).bind (λx8=>(some (x8,(0:Int))))))
theorem DE(h:Lm v8 v16 v4 v13 v0 v33=some v37):sP 57 [(Ha 30000),(IM v8)] (Z1 v16 v4 v13 v0 v33 v33.length) (.tuple (jt v37.1 v37.2)) (Z7 v16 v4 v13 v0 v33 v33.length v37.1.length):=
 sG Tryz.func57 λΓ q=>have hΓ:=q.own;gR q Ov Vi [(4,bW)] [] (c1 (Bi 1 Dc (0:Int))) (tV q [0,3,6] rF h λh=>by exact M6 (Le.trans (Ss 12 (show ∀ k_,k_<((v8.Args.length:Int).toNat)->AVleL ((λi_=>AV.eraseAll (λn_=>B3 n_ rF) ((λ_=>[(.int .u64 (0:Int))]) i_)) k_) ((λi=>Dc ((List.replicate (v8.Args.length:Int).toNat (0:Int)).getD i 0)) k_) from(λk hk=>Mh (e:=Dc) (d:=(0:Int)) (.cons (AVle.refl _) .nil) _ k (Mm hk)))) (Su (λ(k_:Nat) u=>(Cs u [(6,(.vsl 12 k_))] [(12,.arr 1 37 k_ (λi=>Dc ((List.replicate (v8.Args.length:Int).toNat (0:Int)).getD i 0)))])) (show(v8.Args.length:Int).toNat=(List.replicate (v8.Args.length:Int).toNat (0:Int)).length from(K3 ..).symm))) (Ae q cg EO (tL q h cg EO (λu (i2,l3)=>(Cs u [(6,(.vsl 12 l3.length)),(Ds 16 i2)] [(oD 12 l3)])) (λu l4=>aG Γ (.exit 0) (O1 [6] EO u [(6,(.vsl 12 l4.length))] [(oD 12 l4)])) (λ⟨i2,l3⟩ y h=>Ae q [0,6,14,15,16,17] EO (gC h (λh=>tV q [0,6,7,8,14,15,16] EO h λh=>tB h λx6 y6 h=>tC h λc7_ h=>tT q cg EO [⟨O0,[],(Ru x6),[(YP v16.length v4 v13),(30001,.row 79 (sO v0 v33)),(KR 37101 v33.length),(YO 35002 v16),(PW 35100 v0),(oG 9100001)],[],k5⟩] (ci (Cr y6) (nJ [(.row 85 (YN v16.length v4 v13)),(.row 79 (sO v0 v33)),(.tok 3 49 v33.length),(.arr 1 26 v16.length (λi=>D8 (v16.getD i []))),(.arr 1 5 v0.length (λi=>Ur (v0.getD i 0))),(.obj (.tab .i64 WX))] (c2 c7_ (Eq.refl l3.length)))) (M6 (Le.trans (Ss 12 (show ∀ k_,k_<l3.length->AVleL ((λi_=>AV.eraseAll (λn_=>B3 n_ EO) ((E0 (λi=>Dc (l3.getD i 0)) i2.toNat 0 [(Ru x6)]) i_)) k_) ((λi=>Dc ((l3.set i2.toNat x6).getD i 0)) k_) from(Bc (Cl ..).symm (λk_ hk_=>(Bx (AV.eraseAll (λn_=>B3 n_ EO)) ((Fs (λ_ _=>rfl) (Gr c7_) rfl) k_ hk_)).trans rfl)))) (Su (λ(k_:Nat) u=>(Cs u [(6,(.vsl 12 k_))] [(12,.arr 1 37 k_ (λi=>Dc ((l3.set i2.toNat x6).getD i 0)))])) (show l3.length=(l3.set i2.toNat x6).length from(Cl ..).symm))) (Ae q cg EO (tN h)))) λh=>tS h (gO (Bd (Bk [6] EO q))))) λx8 h=>gA (Ae q Ow EO (Qi (⟨[(4,(.vsl 12 x8.length)),(5,Pz)],[(oD 12 x8),(YP v16.length v4 v13),(30001,.row 79 (sO v0 v33)),(YO 35002 v16),(PW 35100 v0),(KR 37101 v33.length),(oG 9100001)],[]⟩:St) (tS h (gK (e:=.ret) (Hu [(30000,30000),(30001,30001),(37101,37101),(35002,35002),(35100,35100),(9100001,9100001),(12,20000)] (Le.trans (F0 (nm:=12) (sz:=1) (n:=x8.length) (e:=37) (f:=(λi=>Dc (x8.getD i 0))) (g:=(λi=>Dc (x8.getD i 0))) rfl ⟨rfl,trivial⟩ (λ_ _=>rfl) (by rw[hΓ];rfl)) (Ic (st':=⟨[(4,(lg x8 12)),(5,Pz)],[(12,.tok 1 37 x8.length),(YP v16.length v4 v13),(30001,.row 79 (sO v0 v33)),(YO 35002 v16),(PW 35100 v0),(KR 37101 v33.length),(oG 9100001)],[]⟩) (by kernel_rfl)))))))))))
def Md(a0:C5)(a2:Ey)(a4:Int)(a3:Int)(a8:Am)(a5:List Ac):Option MQ:=
 (Aw (A0 (0:Int) a0.Args.length) (Aw (A0 (a0.Args.getD (0:Int).toNat (0:Int)) a2.length) (Aw (A0 a0.Imm (a2.getD (a0.Args.getD (0:Int).toNat (0:Int)).toNat []).length) ((K8 ((a2.getD (a0.Args.getD (0:Int).toNat (0:Int)).toNat []).getD (a0.Imm).toNat (0:Int))).bind λx4=>(some (x4,(0:Int)))))))
theorem FU(h:Md v8 v16 v4 v13 v0 v33=some v37):sP 58 [(Ha 30000),(IM v8)] (Z1 v16 v4 v13 v0 v33 v33.length) (.tuple (jt v37.1 v37.2)) (Z7 v16 v4 v13 v0 v33 v33.length v37.1.length):=
 sG Tryz.func58 λΓ q=>gR q Ov Vi [(4,bW)] [] (c1 (Bi 1 Dc (0:Int))) (tC h λc1_ h=>tC h λc2_ h=>tC h λc3_ h=>tB h λx4 y4 h=>tT q Ow rL [(Z67 20 x4 x4.length)] (c5 c1_ c2_ (Eq.refl v16.length) c3_ (P6 y4)) (tS h (Be wT)))
open Go Go.RowKit
set_option maxRecDepth 100000
set_option maxHeartbeats 2000000
abbrev QP:=(Int×Int×Int×List Ac×Ey×Am)
def F6(aI:List C5):QP->Option (LR (Int×Int×Int×List Ac×Ey×Am) ((Int×Int×List Ac×Ey×Am) ⊕ (Int×Int×Int×List Ac×Ey×Am))):=
 λ((i1,i2,i3,l4,l5,l6):QP)=>(bif (decide (i1<(aI.length:Int))) then((G7 l5 i2 i3 l6 l4).bind λx12=>(Aw (l5.length=x12.2.2.2.2.1.length) (Aw (l6.length=x12.2.2.2.2.2.length) (bif (!x12.1) then(some (.done (.inr ((9:Int),x12.2.1,x12.2.2.1,x12.2.2.2.1,x12.2.2.2.2.1,x12.2.2.2.2.2)))) else(Option.bind (α:=jJ) (Aw (A0 i1 aI.length) (bif (decide ((aI.getD i1.toNat default).Kind=(0:Int))) then(Aw (A0 i1 aI.length) ((Pm (aI.getD i1.toNat default)).bind λx25=>(some (x25.1,x25.2,x12.2.1,x12.2.2.1,x12.2.2.2.1,x12.2.2.2.2.1,x12.2.2.2.2.2)))) else(bif (decide ((aI.getD i1.toNat default).Kind=(13:Int))) then(Aw (A0 i1 aI.length) ((J2 (aI.getD i1.toNat default) x12.2.2.2.2.1 x12.2.1 x12.2.2.1 x12.2.2.2.2.2 x12.2.2.2.1).bind λx28=>(some (x28.1,x28.2,x12.2.1,x12.2.2.1,x12.2.2.2.1,x12.2.2.2.2.1,x12.2.2.2.2.2)))) else(bif (decide ((aI.getD i1.toNat default).Kind=(14:Int))) then(Aw (A0 i1 aI.length) ((H5 (aI.getD i1.toNat default) x12.2.2.2.2.1 x12.2.1 x12.2.2.1 x12.2.2.2.2.2 x12.2.2.2.1).bind λx31=>(some (x31.1,x31.2,x12.2.1,x12.2.2.1,x12.2.2.2.1,x12.2.2.2.2.1,x12.2.2.2.2.2)))) else(bif (decide ((aI.getD i1.toNat default).Kind=(15:Int))) then(Aw (A0 i1 aI.length) ((Gp (aI.getD i1.toNat default) x12.2.2.2.2.1 x12.2.1 x12.2.2.1 x12.2.2.2.2.2 x12.2.2.2.1).bind λx34=>(some (x34.1,x34.2,x12.2.1,x12.2.2.1,x12.2.2.2.1,x12.2.2.2.2.1,x12.2.2.2.2.2)))) else(bif (decide ((aI.getD i1.toNat default).Kind=(16:Int))) then(Aw (A0 i1 aI.length) ((Fa (aI.getD i1.toNat default) x12.2.2.2.2.1 x12.2.1 x12.2.2.1 x12.2.2.2.2.2 x12.2.2.2.1).bind λx37=>(Aw (x12.2.2.2.2.1.length=x37.2.2.2.2.2.1.length) (Aw (x12.2.2.2.2.2.length=x37.2.2.2.2.2.2.length) (some (x37.1,x37.2.1,x37.2.2.1,x37.2.2.2.1,x37.2.2.2.2.1,x37.2.2.2.2.2.1,x37.2.2.2.2.2.2)))))) else(bif (decide ((aI.getD i1.toNat default).Kind=(17:Int))) then(Aw (A0 i1 aI.length) ((Em (aI.getD i1.toNat default) x12.2.2.2.2.1 x12.2.1 x12.2.2.1 x12.2.2.2.2.2 x12.2.2.2.1).bind λx42=>(Aw (x12.2.2.2.2.1.length=x42.2.2.2.2.2.1.length) (Aw (x12.2.2.2.2.2.length=x42.2.2.2.2.2.2.length) (some (x42.1,x42.2.1,x42.2.2.1,x42.2.2.2.1,x42.2.2.2.2.1,x42.2.2.2.2.2.1,x42.2.2.2.2.2.2)))))) else(bif (decide ((aI.getD i1.toNat default).Kind=(18:Int))) then(Aw (A0 i1 aI.length) ((H4 (aI.getD i1.toNat default) x12.2.2.2.2.1 x12.2.1 x12.2.2.1 x12.2.2.2.2.2 x12.2.2.2.1).bind λx47=>(Aw (x12.2.2.2.2.1.length=x47.2.2.2.2.2.1.length) (Aw (x12.2.2.2.2.2.length=x47.2.2.2.2.2.2.length) (some (x47.1,x47.2.1,x47.2.2.1,x47.2.2.2.1,x47.2.2.2.2.1,x47.2.2.2.2.2.1,x47.2.2.2.2.2.2)))))) else(bif (decide ((aI.getD i1.toNat default).Kind=(19:Int))) then(Aw (A0 i1 aI.length) ((Gm (aI.getD i1.toNat default) x12.2.2.2.2.1 x12.2.1 x12.2.2.1 x12.2.2.2.2.2 x12.2.2.2.1).bind λx52=>(Aw (x12.2.2.2.2.1.length=x52.2.2.2.2.2.1.length) (Aw (x12.2.2.2.2.2.length=x52.2.2.2.2.2.2.length) (some (x52.1,x52.2.1,x52.2.2.1,x52.2.2.2.1,x52.2.2.2.2.1,x52.2.2.2.2.2.1,x52.2.2.2.2.2.2)))))) else(bif (decide ((aI.getD i1.toNat default).Kind=(20:Int))) then(Aw (A0 i1 aI.length) ((Gn (aI.getD i1.toNat default) (4:Int) x12.2.2.2.2.1 x12.2.1 x12.2.2.1 x12.2.2.2.2.2 x12.2.2.2.1).bind λx57=>(some (x57.1,x57.2,x12.2.1,x12.2.2.1,x12.2.2.2.1,x12.2.2.2.2.1,x12.2.2.2.2.2)))) else(bif (decide ((aI.getD i1.toNat default).Kind=(21:Int))) then(Aw (A0 i1 aI.length) ((Lm (aI.getD i1.toNat default) x12.2.2.2.2.1 x12.2.1 x12.2.2.1 x12.2.2.2.2.2 x12.2.2.2.1).bind λx60=>(some (x60.1,x60.2,x12.2.1,x12.2.2.1,x12.2.2.2.1,x12.2.2.2.2.1,x12.2.2.2.2.2)))) else(bif (decide ((aI.getD i1.toNat default).Kind=(22:Int))) then(Aw (A0 i1 aI.length) ((Md (aI.getD i1.toNat default) x12.2.2.2.2.1 x12.2.1 x12.2.2.1 x12.2.2.2.2.2 x12.2.2.2.1).bind λx63=>(some (x63.1,x63.2,x12.2.1,x12.2.2.1,x12.2.2.2.1,x12.2.2.2.2.1,x12.2.2.2.2.2)))) else(bif (decide ((aI.getD i1.toNat default).Kind=(1:Int))) then(Aw (A0 i1 aI.length) ((Ao (aI.getD i1.toNat default) (1:Int) x12.2.2.2.2.1 x12.2.1 x12.2.2.1 x12.2.2.2.2.2 x12.2.2.2.1).bind λx66=>(some (x66.1,x66.2,x12.2.1,x12.2.2.1,x12.2.2.2.1,x12.2.2.2.2.1,x12.2.2.2.2.2)))) else(bif (decide ((aI.getD i1.toNat default).Kind=(2:Int))) then(Aw (A0 i1 aI.length) ((Ao (aI.getD i1.toNat default) (2:Int) x12.2.2.2.2.1 x12.2.1 x12.2.2.1 x12.2.2.2.2.2 x12.2.2.2.1).bind λx69=>(some (x69.1,x69.2,x12.2.1,x12.2.2.1,x12.2.2.2.1,x12.2.2.2.2.1,x12.2.2.2.2.2)))) else(bif (decide ((aI.getD i1.toNat default).Kind=(3:Int))) then(Aw (A0 i1 aI.length) ((Ao (aI.getD i1.toNat default) (3:Int) x12.2.2.2.2.1 x12.2.1 x12.2.2.1 x12.2.2.2.2.2 x12.2.2.2.1).bind λx72=>(some (x72.1,x72.2,x12.2.1,x12.2.2.1,x12.2.2.2.1,x12.2.2.2.2.1,x12.2.2.2.2.2)))) else(bif (decide ((aI.getD i1.toNat default).Kind=(4:Int))) then(Aw (A0 i1 aI.length) ((Ao (aI.getD i1.toNat default) (4:Int) x12.2.2.2.2.1 x12.2.1 x12.2.2.1 x12.2.2.2.2.2 x12.2.2.2.1).bind λx75=>(some (x75.1,x75.2,x12.2.1,x12.2.2.1,x12.2.2.2.1,x12.2.2.2.2.1,x12.2.2.2.2.2)))) else(bif (decide ((aI.getD i1.toNat default).Kind=(5:Int))) then(Aw (A0 i1 aI.length) ((Ao (aI.getD i1.toNat default) (5:Int) x12.2.2.2.2.1 x12.2.1 x12.2.2.1 x12.2.2.2.2.2 x12.2.2.2.1).bind λx78=>(some (x78.1,x78.2,x12.2.1,x12.2.2.1,x12.2.2.2.1,x12.2.2.2.2.1,x12.2.2.2.2.2)))) else(bif (decide ((aI.getD i1.toNat default).Kind=(6:Int))) then(Aw (A0 i1 aI.length) ((Ao (aI.getD i1.toNat default) (6:Int) x12.2.2.2.2.1 x12.2.1 x12.2.2.1 x12.2.2.2.2.2 x12.2.2.2.1).bind λx81=>(some (x81.1,x81.2,x12.2.1,x12.2.2.1,x12.2.2.2.1,x12.2.2.2.2.1,x12.2.2.2.2.2)))) else(bif (decide ((aI.getD i1.toNat default).Kind=(7:Int))) then(Aw (A0 i1 aI.length) ((Ao (aI.getD i1.toNat default) (7:Int) x12.2.2.2.2.1 x12.2.1 x12.2.2.1 x12.2.2.2.2.2 x12.2.2.2.1).bind λx84=>(some (x84.1,x84.2,x12.2.1,x12.2.2.1,x12.2.2.2.1,x12.2.2.2.2.1,x12.2.2.2.2.2)))) else(bif (decide ((aI.getD i1.toNat default).Kind=(8:Int))) then(Aw (A0 i1 aI.length) ((Ao (aI.getD i1.toNat default) (8:Int) x12.2.2.2.2.1 x12.2.1 x12.2.2.1 x12.2.2.2.2.2 x12.2.2.2.1).bind λx87=>(some (x87.1,x87.2,x12.2.1,x12.2.2.1,x12.2.2.2.1,x12.2.2.2.2.1,x12.2.2.2.2.2)))) else(bif (decide ((aI.getD i1.toNat default).Kind=(9:Int))) then(Aw (A0 i1 aI.length) ((Ao (aI.getD i1.toNat default) (9:Int) x12.2.2.2.2.1 x12.2.1 x12.2.2.1 x12.2.2.2.2.2 x12.2.2.2.1).bind λx90=>(some (x90.1,x90.2,x12.2.1,x12.2.2.1,x12.2.2.2.1,x12.2.2.2.2.1,x12.2.2.2.2.2)))) else(bif (decide ((aI.getD i1.toNat default).Kind=(10:Int))) then(Aw (A0 i1 aI.length) ((Ao (aI.getD i1.toNat default) (10:Int) x12.2.2.2.2.1 x12.2.1 x12.2.2.1 x12.2.2.2.2.2 x12.2.2.2.1).bind λx93=>(some (x93.1,x93.2,x12.2.1,x12.2.2.1,x12.2.2.2.1,x12.2.2.2.2.1,x12.2.2.2.2.2)))) else(bif (decide ((aI.getD i1.toNat default).Kind=(11:Int))) then(Aw (A0 i1 aI.length) ((Ao (aI.getD i1.toNat default) (11:Int) x12.2.2.2.2.1 x12.2.1 x12.2.2.1 x12.2.2.2.2.2 x12.2.2.2.1).bind λx96=>(some (x96.1,x96.2,x12.2.1,x12.2.2.1,x12.2.2.2.1,x12.2.2.2.2.1,x12.2.2.2.2.2)))) else(bif (decide ((aI.getD i1.toNat default).Kind=(12:Int))) then(Aw (A0 i1 aI.length) ((Ao (aI.getD i1.toNat default) (12:Int) x12.2.2.2.2.1 x12.2.1 x12.2.2.1 x12.2.2.2.2.2 x12.2.2.2.1).bind λx99=>(some (x99.1,x99.2,x12.2.1,x12.2.2.1,x12.2.2.2.1,x12.2.2.2.2.1,x12.2.2.2.2.2)))) else none)))))))))))))))))))))))) (λ(l15,i16,i17,i18,l19,l20,l21)=>(bif (i16 !=0) then(some (.done (.inr (i16,i17,i18,l19,l20,l21)))) else(Aw (A0 i1 aI.length) (Aw (A0 (aI.getD i1.toNat default).Dst l20.length) (some (.next ((w64 (i1+1)),i17,i18,l19,(l20.set ((aI.getD i1.toNat default).Dst).toNat l15),l21)))))))))))) else(some (.done (.inl (i2,i3,l4,l5,l6)))))
def BS(Γ:Il)(aI:List C5)(a2:Ey)(a4:Int)(a3:Int)(a8:Am)(a5:List Ac)(r:QP):Exit->St->Prop:=fK Tryz.prog Γ Tryz.f61.results.toList (Z1 a2 a4 a3 a8 a5 a5.length) (Az r.1) (Z1 r.2.2.2.2.1 r.2.1 r.2.2.1 r.2.2.2.2.2 r.2.2.2.1 r.2.2.2.1.length)
def AH(x12:U8):List AV:=(RV 35100 x12.2.2.2.2.2.length x12.2.2.2.1 37101)
def AQ(x12:U8):Own:=(.row 79 (AH x12))
def AS(x12:U8):AV:=(Az x12.2.2.1)
def AN:Own:=(.obj (.tab .i64 WX))
def AM(x12:U8):Own:=(.tok 3 49 x12.2.2.2.1.length)
def nU(aI:List C5)(i1:Int):=(aI.getD i1.toNat default)
def Un(aI:List C5)(i1:Int):AV:=(.int .i64 (nU aI i1).Kind)
def AR(x12:U8):AV:=(.vsl 35002 x12.2.2.2.2.1.length)
def AL(x12:U8):=(λi=>D8 (x12.2.2.2.2.1.getD i []))
def AK(x12:U8):=(λi=>Ur (x12.2.2.2.2.2.getD i 0))
def AP(x12:U8):Own:=(.arr 1 5 x12.2.2.2.2.2.length (AK x12))
def AO(x12:U8):Own:=(.arr 1 26 x12.2.2.2.2.1.length (AL x12))
def AJ(x12:U8):Own:=(.row 85 [(Ha 30001),(.omap 9100001),(AR x12),(Az x12.2.1),(AS x12)])
def wg(x12:U8):List Vf:=[(30000,.row 85 [(Ha 30001),(.omap 9100001),(AR x12),(Az x12.2.1),(AS x12)]),(30001,.row 79 (AH x12)),(KR 37101 x12.2.2.2.1.length),(35002,.arr 1 26 x12.2.2.2.2.1.length (AL x12)),(35100,.arr 1 5 x12.2.2.2.2.2.length (AK x12)),(oG 9100001)]
def Ie(aI:List C5)(a2:Ey)(a4:Int)(a3:Int)(a8:Am)(a5:List Ac):Option QP:=
 ((Ad (F6 aI) ((0:Int),a4,a3,a5,a2,a8)).bind (λx104=>(match x104 with|(.inl (i7,i8,l9,l10,l11))=>(some ((0:Int),i7,i8,l9,l10,l11))|(.inr r106)=>(some r106))))
variable{v45:QP}{v9:List C5}
theorem Rx(h:Ie v9 v16 v4 v13 v0 v33=some v45):sP 61 [(Ha 30000),(AV.list 6 PX default v9 .none)] (Z1 v16 v4 v13 v0 v33 v33.length) (Az v45.1) (Z1 v45.2.2.2.2.1 v45.2.1 v45.2.2.1 v45.2.2.2.2.2 v45.2.2.2.1 v45.2.2.2.1.length):=
 sG Tryz.func61 λΓ q=>tW q Ew Et cr Et (tL q h cr Et (λu (i1,i2,i3,l4,l5,l6)=>(Cs u [(Ds 10 i1)] [(YP l5.length i2 i3),(bZ 30001 35100 l6.length l4 37101),(YO 35002 l5),(PW 35100 l6),(KR 37101 l4.length)])) (λu x_=>match x_ with|(.inl (i7,i8,l9,l10,l11))=>aG Γ (.exit 0) (⟨[],(Z39 l10.length i7 i8 l11.length l9 l10 l11 l9.length),[]⟩:St)|(.inr r_)=>aR (BS Γ v9 v16 v4 v13 v0 v33 r_)) (λ⟨i1,i2,i3,l4,l5,l6⟩ y h=>Ae q [0,1,9,10,11] Et (gC h (λh=>Ae q [0,1,5,9,10] Et (tB h λx12 y12 h=>tC h λc13_ h=>tC h λc14_ h=>tT q [0,1,5,9,10,15] Et [(Z65 x12.1 (wg x12))] (c1 (N0 y12)) (gC h (λh=>Ae q [4] Et (tS h (gO (Lc (Hu O0 (Le.refl _ _)))))) λh=>tB h λx100 y100 h=>gJR y100 (λ(l15,i16,i17,i18,l19,l20,l21)=>aG Γ .normal (⟨[(0,(Ha 30000)),(1,(AV.list 6 PX default v9 .none)),(5,(Az i1)),(6,(ge l15)),(7,(Az i16)),(9,(Ve v9.length)),(Ds 10 i1)],(Z39 l20.length i17 i18 l21.length l19 l20 l21 l19.length),[]⟩:St)) (λy h=>tC h λc22_ h=>gB h (λhs23 h=>tC h λc24_ h=>tB h λx25 y25 h=>gR q Lk Y8 [(25,Pz)] [⟨[],[(20000,31)],(.tuple (jt x25.1 x25.2)),[(20000,.tok 1 37 x25.1.length)],[],[]⟩] (c4 c22_ (show(AVle (Un v9 i1) Pz) from(Cq hs23)) c24_ (LU y25)) (tS h (gK (Bd (Bk Lk Et q))))) (λhs23 h=>gB h (λhs26 h=>tC h λc27_ h=>tB h λx28 y28 h=>gR q Lk Et [(25,(Ve 13))] [(Z75 x28.1 x28.2 (wg x12))] (XI c22_ (show(AVle (Un v9 i1) (Ve 13)) from(Cq hs26)) c27_ (Yo y28) (Uk [(AJ x12),(AQ x12),(AM x12),(AO x12),(AP x12),AN])) (tS h (gK (Bd Jj)))) (λhs26 h=>gB h (λhs29 h=>tC h λc30_ h=>tB h λx31 y31 h=>gR q Lk Y8 [(25,(Ve 14))] [(Z4 x31.1 x31.2 (AR x12) x12.2.1 (AS x12) (AH x12) x12.2.2.2.1.length x12.2.2.2.2.1.length (AL x12) x12.2.2.2.2.2.length (AK x12) x31.1.length)] (XI c22_ (show(AVle (Un v9 i1) (Ve 14)) from(Cq hs29)) c30_ (Vh y31) (Uk [(AJ x12),(AQ x12),(AM x12),(AO x12),(AP x12),AN])) (tS h (gK (Bd (Bk Lk Et q))))) (λhs29 h=>gB h (λhs32 h=>tC h λc33_ h=>tB h λx34 y34 h=>gR q Lk Y8 [(25,(Ve 15))] [(Z4 x34.1 x34.2 (AR x12) x12.2.1 (AS x12) (AH x12) x12.2.2.2.1.length x12.2.2.2.2.1.length (AL x12) x12.2.2.2.2.2.length (AK x12) x34.1.length)] (XI c22_ (show(AVle (Un v9 i1) (Ve 15)) from(Cq hs32)) c33_ (Tm y34) (Uk [(AJ x12),(AQ x12),(AM x12),(AO x12),(AP x12),AN])) (tS h (gK (Bd (Bk Lk Et q))))) (λhs32 h=>gB h (λhs35 h=>tC h λc36_ h=>tB h λx37 y37 h=>tC h λc38_ h=>tC h λc39_ h=>gR q Lk Y8 [(25,(Ve 16))] [(Z33 31 x37.1 x37.2.1 x37.2.2.2.2.2.1 x37.2.2.1 x37.2.2.2.1 x37.2.2.2.2.2.2 x37.2.2.2.2.1 x37.2.2.2.2.1.length x37.1.length)] (c4 c22_ (show(AVle (Un v9 i1) (Ve 16)) from(Cq hs35)) c36_ (S9 y37)) (tS h (gK (Bd (Bk Lk Et q))))) (λhs35 h=>gB h (λhs40 h=>tC h λc41_ h=>tB h λx42 y42 h=>tC h λc43_ h=>tC h λc44_ h=>gR q Lk Y8 [(25,(Ve 17))] [(Z33 31 x42.1 x42.2.1 x42.2.2.2.2.2.1 x42.2.2.1 x42.2.2.2.1 x42.2.2.2.2.2.2 x42.2.2.2.2.1 x42.2.2.2.2.1.length x42.1.length)] (c4 c22_ (show(AVle (Un v9 i1) (Ve 17)) from(Cq hs40)) c41_ (Ry y42)) (tS h (gK (Bd (Bk Lk Et q))))) (λhs40 h=>gB h (λhs45 h=>tC h λc46_ h=>tB h λx47 y47 h=>tC h λc48_ h=>tC h λc49_ h=>gR q Lk Et [(25,(Ve 18))] [(zu x47.1 x47.2.1 x47.2.2.2.2.2.1 x47.2.2.1 x47.2.2.2.1 x47.2.2.2.2.2.2 x47.2.2.2.2.1 x47.2.2.2.2.1.length)] (c4 c22_ (show(AVle (Un v9 i1) (Ve 18)) from(Cq hs45)) c46_ (Vg y47)) (tS h (gK (Bd Jj)))) (λhs45 h=>gB h (λhs50 h=>tC h λc51_ h=>tB h λx52 y52 h=>tC h λc53_ h=>tC h λc54_ h=>gR q Lk Et [(25,(Ve 19))] [(zu x52.1 x52.2.1 x52.2.2.2.2.2.1 x52.2.2.1 x52.2.2.2.1 x52.2.2.2.2.2.2 x52.2.2.2.2.1 x52.2.2.2.2.1.length)] (c4 c22_ (show(AVle (Un v9 i1) (Ve 19)) from(Cq hs50)) c51_ (Tk y52)) (tS h (gK (Bd Jj)))) (λhs50 h=>gB h (λhs55 h=>tC h λc56_ h=>tB h λx57 y57 h=>gR q Lk Et [(25,(Ve 20))] [(Z75 x57.1 x57.2 (wg x12))] (XI c22_ (show(AVle (Un v9 i1) (Ve 20)) from(Cq hs55)) c56_ (Tl y57) (Uk [(AJ x12),(AQ x12),(AM x12),(AO x12),(AP x12),AN])) (tS h (gK (Bd Jj)))) (λhs55 h=>gB h (λhs58 h=>tC h λc59_ h=>tB h λx60 y60 h=>gR q Lk Y8 [(25,(Ve 21))] [(Z4 x60.1 x60.2 (AR x12) x12.2.1 (AS x12) (AH x12) x12.2.2.2.1.length x12.2.2.2.2.1.length (AL x12) x12.2.2.2.2.2.length (AK x12) x60.1.length)] (XI c22_ (show(AVle (Un v9 i1) (Ve 21)) from(Cq hs58)) c59_ (DE y60) (Uk [(AJ x12),(AQ x12),(AM x12),(AO x12),(AP x12),AN])) (tS h (gK (Bd (Bk Lk Et q))))) (λhs58 h=>gB h (λhs61 h=>tC h λc62_ h=>tB h λx63 y63 h=>gR q Lk Y8 [(25,(Ve 22))] [(Z4 x63.1 x63.2 (AR x12) x12.2.1 (AS x12) (AH x12) x12.2.2.2.1.length x12.2.2.2.2.1.length (AL x12) x12.2.2.2.2.2.length (AK x12) x63.1.length)] (XI c22_ (show(AVle (Un v9 i1) (Ve 22)) from(Cq hs61)) c62_ (FU y63) (Uk [(AJ x12),(AQ x12),(AM x12),(AO x12),(AP x12),AN])) (tS h (gK (Bd (Bk Lk Et q))))) (λhs61 h=>gB h (λhs64 h=>tC h λc65_ h=>tB h λx66 y66 h=>gR q Lk Y8 [(25,RW)] [(Z4 x66.1 x66.2 (AR x12) x12.2.1 (AS x12) (AH x12) x12.2.2.2.1.length x12.2.2.2.2.1.length (AL x12) x12.2.2.2.2.2.length (AK x12) x66.1.length)] (XI c22_ (show(AVle (Un v9 i1) RW) from(Cq hs64)) c65_ (Bg y66) (Uk [(AJ x12),(AQ x12),(AM x12),(AO x12),(AP x12),AN])) (tS h (gK (Bd (Bk Lk Et q))))) (λhs64 h=>gB h (λhs67 h=>tC h λc68_ h=>tB h λx69 y69 h=>gR q Lk Y8 [(25,RS)] [(Z4 x69.1 x69.2 (AR x12) x12.2.1 (AS x12) (AH x12) x12.2.2.2.1.length x12.2.2.2.2.1.length (AL x12) x12.2.2.2.2.2.length (AK x12) x69.1.length)] (XI c22_ (show(AVle (Un v9 i1) RS) from(Cq hs67)) c68_ (Bg y69) (Uk [(AJ x12),(AQ x12),(AM x12),(AO x12),(AP x12),AN])) (tS h (gK (Bd (Bk Lk Et q))))) (λhs67 h=>gB h (λhs70 h=>tC h λc71_ h=>tB h λx72 y72 h=>gR q Lk Y8 [(25,PS)] [(Z4 x72.1 x72.2 (AR x12) x12.2.1 (AS x12) (AH x12) x12.2.2.2.1.length x12.2.2.2.2.1.length (AL x12) x12.2.2.2.2.2.length (AK x12) x72.1.length)] (XI c22_ (show(AVle (Un v9 i1) PS) from(Cq hs70)) c71_ (Bg y72) (Uk [(AJ x12),(AQ x12),(AM x12),(AO x12),(AP x12),AN])) (tS h (gK (Bd (Bk Lk Et q))))) (λhs70 h=>gB h (λhs73 h=>tC h λc74_ h=>tB h λx75 y75 h=>gR q Lk Y8 [(25,(.int .i64 (4:Int)))] [(Z4 x75.1 x75.2 (AR x12) x12.2.1 (AS x12) (AH x12) x12.2.2.2.1.length x12.2.2.2.2.1.length (AL x12) x12.2.2.2.2.2.length (AK x12) x75.1.length)] (XI c22_ (show(AVle (Un v9 i1) (.int .i64 (4:Int))) from(Cq hs73)) c74_ (Bg y75) (Uk [(AJ x12),(AQ x12),(AM x12),(AO x12),(AP x12),AN])) (tS h (gK (Bd (Bk Lk Et q))))) (λhs73 h=>gB h (λhs76 h=>tC h λc77_ h=>tB h λx78 y78 h=>gR q Lk Y8 [(25,nG)] [(Z4 x78.1 x78.2 (AR x12) x12.2.1 (AS x12) (AH x12) x12.2.2.2.1.length x12.2.2.2.2.1.length (AL x12) x12.2.2.2.2.2.length (AK x12) x78.1.length)] (XI c22_ (show(AVle (Un v9 i1) nG) from(Cq hs76)) c77_ (Bg y78) (Uk [(AJ x12),(AQ x12),(AM x12),(AO x12),(AP x12),AN])) (tS h (gK (Bd (Bk Lk Et q))))) (λhs76 h=>gB h (λhs79 h=>tC h λc80_ h=>tB h λx81 y81 h=>gR q Lk Y8 [(25,(.int .i64 (6:Int)))] [(Z4 x81.1 x81.2 (AR x12) x12.2.1 (AS x12) (AH x12) x12.2.2.2.1.length x12.2.2.2.2.1.length (AL x12) x12.2.2.2.2.2.length (AK x12) x81.1.length)] (XI c22_ (show(AVle (Un v9 i1) (.int .i64 (6:Int))) from(Cq hs79)) c80_ (Bg y81) (Uk [(AJ x12),(AQ x12),(AM x12),(AO x12),(AP x12),AN])) (tS h (gK (Bd (Bk Lk Et q))))) (λhs79 h=>gB h (λhs82 h=>tC h λc83_ h=>tB h λx84 y84 h=>gR q Lk Y8 [(25,(.int .i64 (7:Int)))] [(Z4 x84.1 x84.2 (AR x12) x12.2.1 (AS x12) (AH x12) x12.2.2.2.1.length x12.2.2.2.2.1.length (AL x12) x12.2.2.2.2.2.length (AK x12) x84.1.length)] (XI c22_ (show(AVle (Un v9 i1) (.int .i64 (7:Int))) from(Cq hs82)) c83_ (Bg y84) (Uk [(AJ x12),(AQ x12),(AM x12),(AO x12),(AP x12),AN])) (tS h (gK (Bd (Bk Lk Et q))))) (λhs82 h=>gB h (λhs85 h=>tC h λc86_ h=>tB h λx87 y87 h=>gR q Lk Y8 [(25,bV)] [(Z4 x87.1 x87.2 (AR x12) x12.2.1 (AS x12) (AH x12) x12.2.2.2.1.length x12.2.2.2.2.1.length (AL x12) x12.2.2.2.2.2.length (AK x12) x87.1.length)] (XI c22_ (show(AVle (Un v9 i1) bV) from(Cq hs85)) c86_ (Bg y87) (Uk [(AJ x12),(AQ x12),(AM x12),(AO x12),(AP x12),AN])) (tS h (gK (Bd (Bk Lk Et q))))) (λhs85 h=>gB h (λhs88 h=>tC h λc89_ h=>tB h λx90 y90 h=>gR q Lk Y8 [(25,(.int .i64 (9:Int)))] [(Z4 x90.1 x90.2 (AR x12) x12.2.1 (AS x12) (AH x12) x12.2.2.2.1.length x12.2.2.2.2.1.length (AL x12) x12.2.2.2.2.2.length (AK x12) x90.1.length)] (XI c22_ (show(AVle (Un v9 i1) (.int .i64 (9:Int))) from(Cq hs88)) c89_ (Bg y90) (Uk [(AJ x12),(AQ x12),(AM x12),(AO x12),(AP x12),AN])) (tS h (gK (Bd (Bk Lk Et q))))) (λhs88 h=>gB h (λhs91 h=>tC h λc92_ h=>tB h λx93 y93 h=>gR q Lk Y8 [(25,(Ve 10))] [(Z4 x93.1 x93.2 (AR x12) x12.2.1 (AS x12) (AH x12) x12.2.2.2.1.length x12.2.2.2.2.1.length (AL x12) x12.2.2.2.2.2.length (AK x12) x93.1.length)] (XI c22_ (show(AVle (Un v9 i1) (Ve 10)) from(Cq hs91)) c92_ (Bg y93) (Uk [(AJ x12),(AQ x12),(AM x12),(AO x12),(AP x12),AN])) (tS h (gK (Bd (Bk Lk Et q))))) (λhs91 h=>gB h (λhs94 h=>tC h λc95_ h=>tB h λx96 y96 h=>gR q Lk Y8 [(25,(Ve 11))] [(Z4 x96.1 x96.2 (AR x12) x12.2.1 (AS x12) (AH x12) x12.2.2.2.1.length x12.2.2.2.2.1.length (AL x12) x12.2.2.2.2.2.length (AK x12) x96.1.length)] (XI c22_ (show(AVle (Un v9 i1) (Ve 11)) from(Cq hs94)) c95_ (Bg y96) (Uk [(AJ x12),(AQ x12),(AM x12),(AO x12),(AP x12),AN])) (tS h (gK (Bd (Bk Lk Et q))))) (λhs94 h=>gB h (λhs97 h=>tC h λc98_ h=>tB h λx99 y99 h=>gR q Lk Y8 [(25,(Ve 12))] [(Z4 x99.1 x99.2 (AR x12) x12.2.1 (AS x12) (AH x12) x12.2.2.2.1.length x12.2.2.2.2.1.length (AL x12) x12.2.2.2.2.2.length (AK x12) x99.1.length)] (XI c22_ (show(AVle (Un v9 i1) (Ve 12)) from(Cq hs97)) c98_ (Bg y99) (Uk [(AJ x12),(AQ x12),(AM x12),(AO x12),(AP x12),AN])) (tS h (gK (Bd (Bk Lk Et q))))) (λhs97 h=>nomatch h)))))))))))))))))))))))) (match x100,h with|⟨l15,i16,i17,i18,l19,l20,l21⟩,h=>gA (Ae q [0,1,5,6,7,9,10,35] Et (gC h (λh=>Ae q [4] Et (tS h (gO (Lc (Hu O0 (Le.refl _ _)))))) λh=>tC h λc102_ h=>tC h λc103_ h=>tU q cr Et (c3 c102_ c103_ (Eq.refl l20.length)) (M6 (Le.trans (Ss 35002 (show ∀ k_,k_<l20.length->AVleL ((λi_=>AV.eraseAll (λn_=>B3 n_ Et) ((E0 (λi=>D8 (l20.getD i [])) ((nU v9 i1).Dst).toNat 0 [(ge l15)]) i_)) k_) ((λi=>D8 ((l20.set ((nU v9 i1).Dst).toNat l15).getD i [])) k_) from(Bc (Cl ..).symm (λk_ hk_=>(Bx (AV.eraseAll (λn_=>B3 n_ Et)) ((Fs (λ_ _=>rfl) (Gr c103_) rfl) k_ hk_)).trans rfl)))) (Su (λ(k_:Nat) u=>(Cs u [] [(YP k_ i17 i18),(35002,.arr 1 26 k_ (λi=>D8 ((l20.set ((nU v9 i1).Dst).toNat l15).getD i [])))])) (show l20.length=(l20.set ((nU v9 i1).Dst).toNat l15).length from(Cl ..).symm))) (Ae q cr Et (tN h))))))))) λh=>tS h (gO (Bd (Bk [] Et q))))) λx104 h=>(match x104,h with | .inl ⟨i7,i8,l9,l10,l11⟩,h=>gA (Ae q [4] Et (tS h (Be O0))) | .inr r106,h=>Pu (λst' hk=>tS h (gK hk))))
def Fb(aL:Int)(a2:Ey)(a4:Int)(a3:Int)(a8:Am)(a5:List Ac):Option PR:=
 (some (⟨aL,(0:Int),a3⟩:PR))
variable{v46:PR}
theorem Gk(h:Fb v4 v16 v13 v21 v0 v33=some v46):sP 62 [(Ha 30000),(Az v4)] (Z1 v16 v13 v21 v0 v33 v33.length) (.agg (GB v46)) (Z1 v16 v13 v21 v0 v33 v33.length):=
 sG Tryz.func62 λΓ q=>tW q [0,1,4] Rq [4] Rq (tS h (Be O0))
def wh(a2:Ey)(a4:Int)(a3:Int)(a8:Am)(a5:List Ac):List Vf:=(Z1 a2 a4 a3 a8 a5 a5.length)
def Dl(aL:L6)(a2:Ey)(a4:Int)(a3:Int)(a8:Am)(a5:List Ac):Option Int:=
 (bif (aL.Kind==2) then((D2 aL.Arg a2 a4 a3 a8 a5).bind λx2=>(bif (!x2) then(Aw (A0 (1:Int) aL.To.length) (some (aL.To.getD (1:Int).toNat (0:Int)))) else(Aw (A0 (0:Int) aL.To.length) (some (aL.To.getD (0:Int).toNat (0:Int)))))) else(Aw (A0 (0:Int) aL.To.length) (some (aL.To.getD (0:Int).toNat (0:Int)))))
variable{v10:L6}
theorem Tu(h:Dl v10 v16 v4 v13 v0 v33=some v21):sP 65 [(Ha 30000),(.agg (du v10))] (Z1 v16 v4 v13 v0 v33 v33.length) (.int .i64 v21) (Z1 v16 v4 v13 v0 v33 v33.length):=
 sG Tryz.func65 λΓ q=>Ae q Ov Vi (gB h (λhs1 h=>tB h λx2 y2 h=>gR q K5 Vi [(8,(.bool true))] [⟨O0,[],(.bool x2),(wh v16 v4 v13 v0 v33),[],k5⟩] (ci (show(AVle (.bool (v10.Kind==2)) (.bool true)) from(CI hs1)) (Xu (true==true) (c9 (show((true==true)=true->(sP 77 [(Ha 30000),(Az v10.Arg)] (wh v16 v4 v13 v0 v33) (.bool x2) (wh v16 v4 v13 v0 v33))) from(λ_=>(Ii y2))) (show((true==true)=true->(some (.row 85 (YN v16.length v4 v13):Own)=some (.row 85 (YN v16.length v4 v13):Own))) from(λ_=>@(rk (.row 85 (YN v16.length v4 v13))))) (show((true==true)=true->(some (.row 79 (RV 35100 v0.length v33 37101):Own)=some (.row 79 (RV 35100 v0.length v33 37101):Own))) from(λ_=>@(rk (.row 79 (RV 35100 v0.length v33 37101))))) (show((true==true)=true->(some (.tok 3 49 v33.length:Own)=some (.tok 3 49 v33.length:Own))) from(λ_=>@(rk (.tok 3 49 v33.length)))) (show((true==true)=true->(some (.arr 1 26 v16.length (λi=>D8 (v16.getD i [])):Own)=some (.arr 1 26 v16.length (λi=>D8 (v16.getD i [])):Own))) from(λ_=>@(rk (.arr 1 26 v16.length (λi=>D8 (v16.getD i [])))))) (show((true==true)=true->(some (.arr 1 5 v0.length (λi=>Ur (v0.getD i 0)):Own)=some (.arr 1 5 v0.length (λi=>Ur (v0.getD i 0)):Own))) from(λ_=>@(rk (.arr 1 5 v0.length (λi=>Ur (v0.getD i 0)))))) (show((true==true)=true->(some (.obj (.tab .i64 WX):Own)=some (.obj (.tab .i64 WX):Own))) from(λ_=>@(rk (.obj (.tab .i64 WX))))) (gI (true==true)) (show(true=true->(true==true)=true) from(λ_=>rfl))))) (gC h (λh=>tV q [4] Et h λh=>tS h (Be O0)) λh=>tV q [4] Et h λh=>tS h (Be O0))) (λhs1 h=>gR q K5 Vi [(8,(.bool false))] [⟨[],[],(.bool false),[],[],[]⟩] (ci (show(AVle (.bool (v10.Kind==2)) (.bool false)) from(CI hs1)) (Xu (false==true) (c3 (show((false==true)=true->(sP 77 [.any,(Az v10.Arg)] [] (.bool false) [])) from XM) (gI (false==true)) (show(false=true->(false==true)=true) from XM)))) (FR false (tV q [4] Et h λh=>tS h (Be O0)))))
def Gw(aQ:List Ff)(aX:Int)(a2:Ey):cy->Option wQ:=
 λ((i2,l3):cy)=>(bif (decide (i2<(aQ.length:Int))) then(Aw (A0 i2 aQ.length) ((Dp ((aQ.getD i2.toNat default).From) aX).bind λx6=>(Aw (A0 x6 ((aQ.getD i2.toNat default).Args).length) (Aw (A0 (((aQ.getD i2.toNat default).Args).getD x6.toNat 0) a2.length) (Aw (A0 i2 l3.length) (some (.next ((w64 (i2+1)),(l3.set i2.toNat (a2.getD (((aQ.getD i2.toNat default).Args).getD x6.toNat 0).toNat [])))))))))) else(some (.done l3)))
def Jf(aQ:List Ff)(l4:Ey):cy->Option wQ:=
 λ((i12,l13):cy)=>(bif (decide (i12<(aQ.length:Int))) then(Aw (A0 i12 aQ.length) (Aw (A0 i12 l4.length) (Aw (A0 (aQ.getD i12.toNat default).Dst l13.length) (some (.next ((w64 (i12+1)),(l13.set ((aQ.getD i12.toNat default).Dst).toNat (l4.getD i12.toNat [])))))))) else(some (.done l13)))
def nW:=(λn_=>B3 n_ [13,30000,30001,35002,35100,37101,9100001])
def sQ(a2:Ey)(aQ:List Ff)(i2:Int)(x6:Int):=(a2.getD (((aQ.getD i2.toNat default).Args).getD x6.toNat 0).toNat [])
def D1(aQ:List Ff)(aX:Int)(a2:Ey)(a4:Int)(a3:Int)(a8:Am)(a5:List Ac):Option vb:=
 (Aw (0<=(aQ.length:Int)/\(aQ.length:Int)<=(aQ.length:Int)/\(aQ.length:Int)<=(room:Int)) ((Ad (Gw aQ aX a2) ((0:Int),(List.replicate (aQ.length:Int).toNat ([]:Am)))).bind (λx10=>((Ad (Jf aQ x10) ((0:Int),a2)).bind (λx18=>(some (a4,a3,a5,x18,a8)))))))
variable{v35:vb}{v7:List Ff}
theorem S8(h:D1 v7 v4 v16 v13 v21 v0 v33=some v35):sP 66 [(Ha 30000),(AV.list 4 W0 default v7 .none),(Az v4)] (Z1 v16 v13 v21 v0 v33 v33.length) (.tuple []) (Z1 v35.2.2.2.1 v35.1 v35.2.1 v35.2.2.2.2 v35.2.2.1 v35.2.2.1.length):=
 sG Tryz.func66 λΓ q=>tV q [0,1,2,6] Xp h λh=>by exact M6 (Le.trans (Ss 13 (show ∀ k_,k_<((v7.length:Int).toNat)->AVleL ((λi_=>AV.eraseAll nW ((λ_=>[dN]) i_)) k_) ((λi=>D8 ((List.replicate (v7.length:Int).toNat ([]:Am)).getD i [])) k_) from(λk hk=>Mh (e:=D8) (d:=[]) (.cons (λ_ _ _ _ _ hh=>AVle.untag _ _ _ _ _ (He _ _ _ _ _ hh)) .nil) _ k (Mm hk)))) (Su (λ(k_:Nat) u=>(Cs u [(6,(.vsl 13 k_))] [(13,.arr 1 26 k_ (λi=>D8 ((List.replicate (v7.length:Int).toNat ([]:Am)).getD i [])))])) (show(v7.length:Int).toNat=(List.replicate (v7.length:Int).toNat ([]:Am)).length from(K3 ..).symm))) (Ae q cW Xp (tL q h cW Xp (λu (i2,l3)=>(Cs u [(6,(.vsl 13 l3.length)),(Ds 16 i2)] [(YO 13 l3)])) (λu l4=>aG Γ (.exit 0) (O1 [0,1,6] Xp u [(6,(.vsl 13 l4.length))] [(YO 13 l4)])) (λ⟨i2,l3⟩ y h=>Ae q [0,1,2,6,14,15,16,17] Xp (gC h (λh=>tV q [0,1,2,6,7,8,14,15,16] [8,13,30000,30001,35002,35100,37101,9100001] h λh=>tB h λx6 y6 h=>tC h λc7_ h=>tC h λc8_ h=>tC h λc9_ h=>tT q cW Xp [(XD x6)] (c6 (P8 y6) c7_ c8_ (Eq.refl v16.length) c9_ (Eq.refl l3.length)) (M6 (Le.trans (Ss 13 (show ∀ k_,k_<l3.length->AVleL ((λi_=>AV.eraseAll nW ((E0 (λi=>D8 (l3.getD i [])) i2.toNat 0 [(ge (sQ v16 v7 i2 x6))]) i_)) k_) ((λi=>D8 ((l3.set i2.toNat (sQ v16 v7 i2 x6)).getD i [])) k_) from(Bc (Cl ..).symm (λk_ hk_=>(Bx (AV.eraseAll nW) ((Fs (λ_ _=>rfl) (Gr c9_) rfl) k_ hk_)).trans rfl)))) (Su (λ(k_:Nat) u=>(Cs u [(6,(.vsl 13 k_))] [(13,.arr 1 26 k_ (λi=>D8 ((l3.set i2.toNat (sQ v16 v7 i2 x6)).getD i [])))])) (show l3.length=(l3.set i2.toNat (sQ v16 v7 i2 x6)).length from(Cl ..).symm))) (Ae q cW Xp (tN h)))) λh=>tS h (gO (Bd (Bk [0,1,6] Xp q))))) λx10 h=>gA (Ae q cj Xp (tL q h cj Xp (λu (i12,l13)=>(Cs u [(Ds 41 i12)] [(YP l13.length v13 v21),(YO 35002 l13)])) (λu l14=>aG Γ (.exit 2) (O1 [] Et u [] [(YP l14.length v13 v21),(YO 35002 l14)])) (λ⟨i12,l13⟩ y h=>Ae q [0,6,39,40,41,42] Xp (gC h (λh=>tV q [0,6,9,10,39,40,41] [10,13,30000,30001,35002,35100,37101,9100001] h λh=>tC h λc16_ h=>tC h λc17_ h=>tU q cj Xp (c4 c16_ (Eq.refl x10.length) c17_ (Eq.refl l13.length)) (M6 (Le.trans (Ss 35002 (show ∀ k_,k_<l13.length->AVleL ((λi_=>AV.eraseAll nW ((E0 (λi=>D8 (l13.getD i [])) ((v7.getD i12.toNat default).Dst).toNat 0 [(AV.list 1 Dc 0 (x10.getD i12.toNat []) .none)]) i_)) k_) ((λi=>D8 ((l13.set ((v7.getD i12.toNat default).Dst).toNat (x10.getD i12.toNat [])).getD i [])) k_) from(Bc (Cl ..).symm (λk_ hk_=>(Bx (AV.eraseAll nW) ((Fs (λ_ _=>rfl) (Gr c17_) rfl) k_ hk_)).trans rfl)))) (Su (λ(k_:Nat) u=>(Cs u [] [(YP k_ v13 v21),(35002,.arr 1 26 k_ (λi=>D8 ((l13.set ((v7.getD i12.toNat default).Dst).toNat (x10.getD i12.toNat [])).getD i [])))])) (show l13.length=(l13.set ((v7.getD i12.toNat default).Dst).toNat (x10.getD i12.toNat [])).length from(Cl ..).symm))) (Ae q cj Xp (tN h)))) λh=>tS h (gO (Bd (Bk [] Et q))))) λx18 h=>nH (λst' hl19=>tS h (gK (e:=.normal) (Hu O0 hl19)))))))
def Bn(aW:List Ai):QP->Option (LR (Int×Int×Int×List Ac×Ey×Am) (PR×Int×Int×List Ac×Ey×Am)):=
 λ(s_:QP)=>match s_ with|(i1,i2,i3,l4,l5,l6)=>(Aw (A0 i1 aW.length) (Aw (A0 i1 aW.length) ((Ie ((aW.getD i1.toNat default).Ops) l5 i2 i3 l6 l4).bind λx26=>(Aw (l5.length=x26.2.2.2.2.1.length) (Aw (l6.length=x26.2.2.2.2.2.length) (bif (x26.1 !=0) then((Fb x26.1 x26.2.2.2.2.1 x26.2.1 x26.2.2.1 x26.2.2.2.2.2 x26.2.2.2.1).bind λx29=>(some (.done (x29,x26.2.1,x26.2.2.1,x26.2.2.2.1,x26.2.2.2.2.1,x26.2.2.2.2.2)))) else((G7 x26.2.2.2.2.1 x26.2.1 x26.2.2.1 x26.2.2.2.2.2 x26.2.2.2.1).bind λx30=>(Aw (x26.2.2.2.2.1.length=x30.2.2.2.2.1.length) (Aw (x26.2.2.2.2.2.length=x30.2.2.2.2.2.length) (bif (!x30.1) then((Fb (9:Int) x30.2.2.2.2.1 x30.2.1 x30.2.2.1 x30.2.2.2.2.2 x30.2.2.2.1).bind λx33=>(some (.done (x33,x30.2.1,x30.2.2.1,x30.2.2.2.1,x30.2.2.2.2.1,x30.2.2.2.2.2)))) else(bif (((aW.getD i1.toNat default).End.Kind:Int)==0) then((Bf ((aW.getD i1.toNat default).End.Arg) x30.2.2.2.2.1 x30.2.1 x30.2.2.1 x30.2.2.2.2.2 x30.2.2.2.1).bind λx34=>(some (.done ((⟨(0:Int),x34,x30.2.2.1⟩:PR),x30.2.1,x30.2.2.1,x30.2.2.2.1,x30.2.2.2.2.1,x30.2.2.2.2.2)))) else(bif (((aW.getD i1.toNat default).End.Kind:Int)==3) then((Fb (8:Int) x30.2.2.2.2.1 x30.2.1 x30.2.2.1 x30.2.2.2.2.2 x30.2.2.2.1).bind λx35=>(some (.done (x35,x30.2.1,x30.2.2.1,x30.2.2.2.1,x30.2.2.2.2.1,x30.2.2.2.2.2)))) else((Dl (⟨(aW.getD i1.toNat default).End.Kind,(aW.getD i1.toNat default).End.Arg,(aW.getD i1.toNat default).End.To⟩:L6) x30.2.2.2.2.1 x30.2.1 x30.2.2.1 x30.2.2.2.2.2 x30.2.2.2.1).bind λx36=>(Aw (A0 x36 aW.length) ((D1 ((aW.getD x36.toNat default).Phis) i1 x30.2.2.2.2.1 x30.2.1 x30.2.2.1 x30.2.2.2.2.2 x30.2.2.2.1).bind λx38=>(Aw (x30.2.2.2.2.1.length=x38.2.2.2.1.length) (Aw (x30.2.2.2.2.2.length=x38.2.2.2.2.length) (some (.next (x36,x38.1,x38.2.1,x38.2.2.1,x38.2.2.2.1,x38.2.2.2.2))))))))))))))))))))
abbrev ve:=(PR×Int×Int×List Ac×Ey×Am)
def HE(Γ:Il)(aW:List Ai)(a2:Ey)(a4:Int)(a3:Int)(a8:Am)(a5:List Ac)(r:ve):Exit->St->Prop:=fK Tryz.prog Γ Tryz.f30.results.toList (Z1 a2 a4 a3 a8 a5 a5.length) (.agg (GB r.1)) (Z1 r.2.2.2.2.1 r.2.1 r.2.2.1 r.2.2.2.2.2 r.2.2.2.1 r.2.2.2.1.length)
def WZ:Own:=(.obj (.tab .i64 WX))
def Ab6(aW:List Ai):=(aW.getD (0:Int).toNat (default:Ai))
def sY(x13:U8):Own:=(.arr 1 26 x13.2.2.2.2.1.length (λi=>D8 (x13.2.2.2.2.1.getD i [])))
def sZ(x30:U8):Own:=(.arr 1 26 x30.2.2.2.2.1.length (λi=>D8 (x30.2.2.2.2.1.getD i [])))
def sW(x13:U8):Own:=(.arr 1 5 x13.2.2.2.2.2.length (λi=>Ur (x13.2.2.2.2.2.getD i 0)))
def sX(x30:U8):Own:=(.arr 1 5 x30.2.2.2.2.2.length (λi=>Ur (x30.2.2.2.2.2.getD i 0)))
def sU(x13:U8):Own:=(.row 79 (RV 35100 x13.2.2.2.2.2.length x13.2.2.2.1 37101))
def sV(x30:U8):Own:=(.row 79 (RV 35100 x30.2.2.2.2.2.length x30.2.2.2.1 37101))
def sS(x13:U8):Own:=(.row 85 (YN x13.2.2.2.2.1.length x13.2.1 x13.2.2.1))
def sT(x30:U8):Own:=(.row 85 (YN x30.2.2.2.2.1.length x30.2.1 x30.2.2.1))
def yz(x9:QP):List Vf:=(Z1 x9.2.2.2.2.1 x9.2.1 x9.2.2.1 x9.2.2.2.2.2 x9.2.2.2.1 x9.2.2.2.1.length)
def nX(x13:U8):List Vf:=(Z1 x13.2.2.2.2.1 x13.2.1 x13.2.2.1 x13.2.2.2.2.2 x13.2.2.2.1 x13.2.2.2.1.length)
def nY(x30:U8):List Vf:=(Z1 x30.2.2.2.2.1 x30.2.1 x30.2.2.1 x30.2.2.2.2.2 x30.2.2.2.1 x30.2.2.2.1.length)
def yy(x26:QP):List Vf:=(Z1 x26.2.2.2.2.1 x26.2.1 x26.2.2.1 x26.2.2.2.2.2 x26.2.2.2.1 x26.2.2.2.1.length)
def Me(aW:List Ai)(a2:Ey)(a4:Int)(a3:Int)(a8:Am)(a5:List Ac):Option ve:=
 ((N9 (S:=QP) (X:=ve) (Aw (A0 (0:Int) aW.length) (Aw (A0 (0:Int) aW.length) ((Ie ((aW.getD (0:Int).toNat (default:Ai)).Ops) a2 a4 a3 a8 a5).bind λx9=>(Aw (a2.length=x9.2.2.2.2.1.length) (Aw (a8.length=x9.2.2.2.2.2.length) (bif (x9.1 !=0) then((Fb x9.1 x9.2.2.2.2.1 x9.2.1 x9.2.2.1 x9.2.2.2.2.2 x9.2.2.2.1).bind λx12=>(some (.done (x12,x9.2.1,x9.2.2.1,x9.2.2.2.1,x9.2.2.2.2.1,x9.2.2.2.2.2)))) else((G7 x9.2.2.2.2.1 x9.2.1 x9.2.2.1 x9.2.2.2.2.2 x9.2.2.2.1).bind λx13=>(Aw (x9.2.2.2.2.1.length=x13.2.2.2.2.1.length) (Aw (x9.2.2.2.2.2.length=x13.2.2.2.2.2.length) (bif (!x13.1) then((Fb (9:Int) x13.2.2.2.2.1 x13.2.1 x13.2.2.1 x13.2.2.2.2.2 x13.2.2.2.1).bind λx16=>(some (.done (x16,x13.2.1,x13.2.2.1,x13.2.2.2.1,x13.2.2.2.2.1,x13.2.2.2.2.2)))) else(bif (((aW.getD (0:Int).toNat (default:Ai)).End.Kind:Int)==0) then((Bf ((aW.getD (0:Int).toNat (default:Ai)).End.Arg) x13.2.2.2.2.1 x13.2.1 x13.2.2.1 x13.2.2.2.2.2 x13.2.2.2.1).bind λx17=>(some (.done ((⟨(0:Int),x17,x13.2.2.1⟩:PR),x13.2.1,x13.2.2.1,x13.2.2.2.1,x13.2.2.2.2.1,x13.2.2.2.2.2)))) else(bif (((aW.getD (0:Int).toNat (default:Ai)).End.Kind:Int)==3) then((Fb (8:Int) x13.2.2.2.2.1 x13.2.1 x13.2.2.1 x13.2.2.2.2.2 x13.2.2.2.1).bind λx18=>(some (.done (x18,x13.2.1,x13.2.2.1,x13.2.2.2.1,x13.2.2.2.2.1,x13.2.2.2.2.2)))) else((Dl (⟨(aW.getD (0:Int).toNat (default:Ai)).End.Kind,(aW.getD (0:Int).toNat (default:Ai)).End.Arg,(aW.getD (0:Int).toNat (default:Ai)).End.To⟩:L6) x13.2.2.2.2.1 x13.2.1 x13.2.2.1 x13.2.2.2.2.2 x13.2.2.2.1).bind λx19=>(Aw (A0 x19 aW.length) ((D1 ((aW.getD x19.toNat default).Phis) (0:Int) x13.2.2.2.2.1 x13.2.1 x13.2.2.1 x13.2.2.2.2.2 x13.2.2.2.1).bind λx21=>(Aw (x13.2.2.2.2.1.length=x21.2.2.2.1.length) (Aw (x13.2.2.2.2.2.length=x21.2.2.2.2.length) (some (.next (x19,x21.1,x21.2.1,x21.2.2.1,x21.2.2.2.1,x21.2.2.2.2)))))))))))))))))))) (Bn aW)).bind (λx41=>(some x41)))
variable{v12:List Ai}{v47:ve}
theorem FV(h:Me v12 v16 v4 v13 v0 v33=some v47):sP 30 [(Ha 30000),(bX v12)] (Z1 v16 v4 v13 v0 v33 v33.length) (.agg (GB v47.1)) (Z1 v47.2.2.2.2.1 v47.2.1 v47.2.2.1 v47.2.2.2.2.2 v47.2.2.2.1 v47.2.2.2.1.length):=
 sG Tryz.func30 λΓ q=>Ae q [0,1,4] Rq (tB h λx41 y41 h=>gS y41 (λ(s_:QP)=>match s_ with|(i1,i2,i3,l4,l5,l6)=>0) (λ(s_:QP)=>match s_ with|(i1,i2,i3,l4,l5,l6)=>(⟨[(0,(Ha 30000)),(1,(bX v12)),(4,(.ptr 4 0)),(5,(Az i1))],[(4,.row 39 [Pz,(.int .u64 (0:Int)),Pz]),(YP l5.length i2 i3),(bZ 30001 35100 l6.length l4 37101),(YO 35002 l5),(PW 35100 l6),(KR 37101 l4.length),(oG 9100001)],[]⟩:St)) (λr_=>aR (HE Γ v12 v16 v4 v13 v0 v33 r_)) (λy h=>Ae q [0,1,4,5] Rq (tV q [0,1,4,5,6] V4 h λh=>tC h λc8_ h=>tB h λx9 y9 h=>tC h λc10_ h=>tC h λc11_ h=>tT q [0,1,4,5,6,7] V4 [(zo x9.1 (yz x9))] (c2 c8_ (Rx y9)) (Ae q [0,1,4,5,6,7,22] V4 (gC h (λh=>tB h λx12 y12 h=>tT q [4] Rq [(yg x12 (yz x9))] (ci (Gk y12) (Uk [(.row 85 (YN x9.2.2.2.2.1.length x9.2.1 x9.2.2.1)),(.row 79 (RV 35100 x9.2.2.2.2.2.length x9.2.2.2.1 37101)),(.tok 3 49 x9.2.2.2.1.length),(.arr 1 26 x9.2.2.2.2.1.length (λi=>D8 (x9.2.2.2.2.1.getD i []))),(.arr 1 5 x9.2.2.2.2.2.length (λi=>Ur (x9.2.2.2.2.2.getD i 0))),WZ])) (tS h (WV (Lc (Hu O0 (Le.refl _ _)))))) λh=>tB h λx13 y13 h=>tC h λc14_ h=>tC h λc15_ h=>tT q [0,1,4,5,6,28] V4 [(Z65 x13.1 (nX x13))] (c1 (N0 y13)) (gC h (λh=>tB h λx16 y16 h=>tT q [4] Rq [(yg x16 (nX x13))] (ci (Gk y16) (Uk [(sS x13),(sU x13),(.tok 3 49 x13.2.2.2.1.length),(sY x13),(sW x13),WZ])) (tS h (WV (Lc (Hu O0 (Le.refl _ _)))))) λh=>tW q [0,1,4,5,6,32] V4 [0,1,4,5,6,32,33] V4 (gC h (λh=>tB h λx17 y17 h=>tT q [4] Rq [(Z78 x17 (nX x13))] (ci (Cr y17) (Uk [(sS x13),(sU x13),(.tok 3 49 x13.2.2.2.1.length),(sY x13),(sW x13),WZ])) (tS h (WV (Lc (Hu O0 (Le.refl _ _)))))) λh=>Ae q [0,1,4,5,6,44] V4 (gC h (λh=>tB h λx18 y18 h=>tT q [4] Rq [(yg x18 (nX x13))] (ci (Gk y18) (Uk [(sS x13),(sU x13),(.tok 3 49 x13.2.2.2.1.length),(sY x13),(sW x13),WZ])) (tS h (WV (Lc (Hu O0 (Le.refl _ _)))))) λh=>tB h λx19 y19 h=>tT q [0,1,4,5,8] Rq [(Z86 x19 (nX x13))] (ci (Tu y19) (Uk [(sS x13),(sU x13),(.tok 3 49 x13.2.2.2.1.length),(sY x13),(sW x13),WZ])) (tC h λc20_ h=>tB h λx21 y21 h=>tC h λc22_ h=>tC h λc23_ h=>tT q [0,1,4,8] Rq [(zr x21.2.2.2.1 x21.1 x21.2.1 x21.2.2.2.2 x21.2.2.1 x21.2.2.1.length)] (c2 c20_ (S8 y21)) (Ae q [0,1,4,5] Rq (tS h (mF Jj))))))))))) (λ⟨i1,i2,i3,l4,l5,l6⟩ y h=>tV q [0,1,4,5,6] V4 h λh=>tC h λc25_ h=>tB h λx26 y26 h=>tC h λc27_ h=>tC h λc28_ h=>tT q [0,1,4,5,6,7] V4 [(zo x26.1 (yy x26))] (c2 c25_ (Rx y26)) (Ae q [0,1,4,5,6,7,22] V4 (gC h (λh=>tB h λx29 y29 h=>tT q [4] Rq [(yg x29 (yy x26))] (ci (Gk y29) (Uk [(.row 85 (YN x26.2.2.2.2.1.length x26.2.1 x26.2.2.1)),(.row 79 (RV 35100 x26.2.2.2.2.2.length x26.2.2.2.1 37101)),(.tok 3 49 x26.2.2.2.1.length),(.arr 1 26 x26.2.2.2.2.1.length (λi=>D8 (x26.2.2.2.2.1.getD i []))),(.arr 1 5 x26.2.2.2.2.2.length (λi=>Ur (x26.2.2.2.2.2.getD i 0))),WZ])) (tS h (WV (Lc (Hu O0 (Le.refl _ _)))))) λh=>tB h λx30 y30 h=>tC h λc31_ h=>tC h λc32_ h=>tT q [0,1,4,5,6,28] V4 [(Z65 x30.1 (nY x30))] (c1 (N0 y30)) (gC h (λh=>tB h λx33 y33 h=>tT q [4] Rq [(yg x33 (nY x30))] (ci (Gk y33) (Uk [(sT x30),(sV x30),(.tok 3 49 x30.2.2.2.1.length),(sZ x30),(sX x30),WZ])) (tS h (WV (Lc (Hu O0 (Le.refl _ _)))))) λh=>tW q [0,1,4,5,6,32] V4 [0,1,4,5,6,32,33] V4 (gC h (λh=>tB h λx34 y34 h=>tT q [4] Rq [(Z78 x34 (nY x30))] (ci (Cr y34) (Uk [(sT x30),(sV x30),(.tok 3 49 x30.2.2.2.1.length),(sZ x30),(sX x30),WZ])) (tS h (WV (Lc (Hu O0 (Le.refl _ _)))))) λh=>Ae q [0,1,4,5,6,44] V4 (gC h (λh=>tB h λx35 y35 h=>tT q [4] Rq [(yg x35 (nY x30))] (ci (Gk y35) (Uk [(sT x30),(sV x30),(.tok 3 49 x30.2.2.2.1.length),(sZ x30),(sX x30),WZ])) (tS h (WV (Lc (Hu O0 (Le.refl _ _)))))) λh=>tB h λx36 y36 h=>tT q [0,1,4,5,8] Rq [(Z86 x36 (nY x30))] (ci (Tu y36) (Uk [(sT x30),(sV x30),(.tok 3 49 x30.2.2.2.1.length),(sZ x30),(sX x30),WZ])) (tC h λc37_ h=>tB h λx38 y38 h=>tC h λc39_ h=>tC h λc40_ h=>tT q [0,1,4,8] Rq [(zr x38.2.2.2.1 x38.1 x38.2.1 x38.2.2.2.2 x38.2.2.1 x38.2.2.1.length)] (c2 c37_ (S8 y38)) (Ae q [0,1,4,5] Rq (tS h (mF Jj)))))))))) (Pu (λst' hk=>tS h (gK hk))))
def Abs(aa8:Int):=((decide (aa8<0))==false)
def bS(x2:Int):=(List.replicate (w64 (x2+1)).toNat ([]:Am))
def sb(aa8:Int)(aa6:Am)(a1:TFunc):=(bif (decide (aa8<0)) then true else((aa6.length:Int)!=(a1.Params.length:Int)))
abbrev MR:=(PR×Int×List Ac×Am)
def Mc(a1:TFunc)(aa6:Am)(aa8:Int)(a6:Am)(aB:List Ac):Option MR:=
 ((bif ((bif (decide (aa8<0)) then true else((aa6.length:Int)!=(a1.Params.length:Int)))==false) then O6 a1 (2:Int) else some (0:Int)).bind λx1=>(bif (bif (bif (decide (aa8<0)) then true else((aa6.length:Int)!=(a1.Params.length:Int))) then true else(x1 !=0)) then(some ((⟨(0:Int),(0:Int),(0:Int)⟩:PR),(1:Int),aB,a6)) else((Qr a1).bind λx2=>(Aw (0<=(w64 (x2+1))/\(w64 (x2+1))<=(w64 (x2+1))/\(w64 (x2+1))<=(room:Int)) ((Ls (List.replicate (w64 (x2+1)).toNat ([]:Am)) aa8 (0:Int) a6 aB).bind λx4=>((Kq a1 aa6 (List.replicate (w64 (x2+1)).toNat ([]:Am)) aa8 (0:Int) a6 aB).bind λx5=>(Aw ((List.replicate (w64 (x2+1)).toNat ([]:Am)).length=x5.2.2.2.1.length) (Aw (a6.length=x5.2.2.2.2.length) ((Me a1.Blocks x5.2.2.2.1 x5.1 x5.2.1 x5.2.2.2.2 x5.2.2.1).bind λx8=>(Aw (x5.2.2.2.1.length=x8.2.2.2.2.1.length) (Aw (x5.2.2.2.2.length=x8.2.2.2.2.2.length) (some (x8.1,(0:Int),x8.2.2.2.1,x8.2.2.2.2.2)))))))))))))
variable{v1:Am}{v3:TFunc}{v48:MR}
theorem S7(h:Mc v3 v0 v4 v1 v33=some v48):sP 9 [(XF v3),(ge v0),(Ha 30000),(Az v4)] (Z5 v1 v33 v33.length) (.tuple [(.agg (GB v48.1)),(Az v48.2.1)]) (Z5 v48.2.2.2 v48.2.2.1 v48.2.2.1.length):=
 sG Tryz.func9 λΓ q=>Ae q [1,2,3,4,8] rW (tB h λx1 y1 h=>tT q [1,2,3,4,8,25] rW [(XD x1)] (wC (Abs v4) (c5 (Kl (decide (v4<0))) (gI ((sb v4 v0 v3)==false)) (λ(hg:((sb v4 v0 v3)==false)=true)=>(TN (B0 hg y1))) (gI ((sb v4 v0 v3)==false)) (Kl (sb v4 v0 v3)))) (gC h (λh=>Ae q So re (tS h (Be Xo))) λh=>tB h λx2 y2 h=>tC h λc3_ h=>tT q [1,4,8,10] rP [(XD x2)] (c2 (XT y2) c3_) (by exact M6 (Le.trans (Ss 32 (show ∀ k_,k_<((w64 (x2+1)).toNat)->AVleL ((λi_=>AV.eraseAll (λn_=>B3 n_ rP) ((λ_=>[dN]) i_)) k_) ((λi=>D8 ((bS x2).getD i [])) k_) from(λk hk=>Mh (e:=D8) (d:=[]) (.cons (λ_ _ _ _ _ hh=>AVle.untag _ _ _ _ _ (He _ _ _ _ _ hh)) .nil) _ k (Mm hk)))) (Su (λ(k_:Nat) u=>(Cs u [] [(32,.arr 1 26 k_ (λi=>D8 ((bS x2).getD i []))),(34,.row 85 [(Ha 30000),.nilm,(.vsl 32 k_),(Az v4),Pz])])) (show(w64 (x2+1)).toNat=(bS x2).length from(K3 ..).symm))) (tB h λx4 y4 h=>tT q [1,4,8,10] rN [⟨[(34,30000),(30000,30001),(37001,37101),(32,35002),(35000,35100)],[(20000,37)],(.omap 20000),[(30000,.row 85 [(Ha 30001),.nilm,(.vsl 35002 (bS x2).length),(Az v4),Pz]),(bZ 30001 35100 v1.length v33 37101),(KR 37101 v33.length),(35002,.arr 1 26 (bS x2).length (λi=>D8 ((bS x2).getD i []))),(PW 35100 v1),(oG 20000)],[],[34,30000,37001,32,35000]⟩] (ci (Wj y4) (Uk [(.row 85 [(Ha 30000),.nilm,(.vsl 32 (bS x2).length),(Az v4),Pz]),(.row 79 (RV 35000 v1.length v33 37001)),(.tok 3 49 v33.length),(.arr 1 26 ((bS x2).length) (λi=>D8 ((bS x2).getD i []))),(.arr 1 5 v1.length (λi=>Ur (v1.getD i 0)))])) (tB h λx5 y5 h=>tC h λc6_ h=>tC h λc7_ h=>tT q [4,8,10] rN [⟨wU,[],(.tuple []),(Z1 x5.2.2.2.1 x5.1 x5.2.1 x5.2.2.2.2 x5.2.2.1 x5.2.2.1.length),[],[]⟩] (c1 (BC y5)) (tB h λx8 y8 h=>tC h λc9_ h=>tC h λc10_ h=>tT q So re [⟨wU,[],(.agg (GB x8.1)),(Z1 x8.2.2.2.2.1 x8.2.1 x8.2.2.1 x8.2.2.2.2.2 x8.2.2.2.1 x8.2.2.2.1.length),[],[]⟩] (c1 (FV y8)) (tS h (Be Xo))))))))
def D9:List C5:=([(⟨(0:Int),(8:Int),(1:Int),(1:Int),([]:Am),(200:Int)⟩:C5),(⟨(0:Int),(8:Int),(1:Int),(2:Int),([]:Am),(100:Int)⟩:C5),(⟨(1:Int),(8:Int),(1:Int),(3:Int),([(1:Int),(2:Int)]:Am),(0:Int)⟩:C5)]:List C5)
def PN:AV:=Pz
def RM:AV:=bV
def lH:AV:=(.slice 0 0 (λ_=>[]) .none)
def RL:AV:=oE
def sc:=([(⟨([]:List Ff),D9,(⟨(0:Int),(3:Int),([]:Am)⟩:L6)⟩:Ai)]:List Ai)
def sf:AV:=(AV.list 5 Jx default sc .exact)
def wi(x3:MR):=(bif (x3.2.1==0) then(((x3.1.Code:Int)==0)&&(((x3.1.Value:Int)==44)&&(((x3.1.Steps:Int)==4)&&true))) else false)
def se(x3:MR)(x5:MR):=(bif (wi x3) then(x5.2.1==0) else false)
def sd:AV:=(AV.list 6 PX default D9 .exact)
def wj(x3:MR):List Vf:=(Z5 x3.2.2.2 x3.2.2.1 x3.2.2.1.length)
def zA(x5:MR):List Vf:=(Z5 x5.2.2.2 x5.2.2.1 x5.2.2.1.length)
def lG(x1:yj):List Vf:=(Z9 20000 21000 x1.1.2.bytes x1.1.2.trace 21001 x1.1.2.trace.length)
def m_locksteplaw13_awake :Option Bool:=
 ((Sc ([]:Am)).bind λx1=>(bif x1.1.1 then(bif (x1.2 !=0) then(some false) else((Mc (⟨([]:Am),(8:Int),([(⟨([]:List Ff),D9,(⟨(0:Int),(3:Int),([]:Am)⟩:L6)⟩:Ai)]:List Ai)⟩:TFunc) ([]:Am) (4:Int) x1.1.2.bytes x1.1.2.trace).bind λx3=>(Aw (x1.1.2.bytes.length=x3.2.2.2.length) ((Mc (⟨([]:Am),(8:Int),([(⟨([]:List Ff),D9,(⟨(0:Int),(3:Int),([]:Am)⟩:L6)⟩:Ai)]:List Ai)⟩:TFunc) ([]:Am) (3:Int) x3.2.2.2 x3.2.2.1).bind λx5=>(Aw (x3.2.2.2.length=x5.2.2.2.length) ((Mc (⟨([]:Am),(8:Int),([(⟨([]:List Ff),D9,(⟨(0:Int),(3:Int),([]:Am)⟩:L6)⟩:Ai)]:List Ai)⟩:TFunc) ([(1:Int)]:Am) (3:Int) x5.2.2.2 x5.2.2.1).bind λx7=>(Aw (x5.2.2.2.length=x7.2.2.2.length) (some (bif (bif (bif (bif (x3.2.1==0) then(((x3.1.Code:Int)==0)&&(((x3.1.Value:Int)==44)&&(((x3.1.Steps:Int)==4)&&true))) else false) then(x5.2.1==0) else false) then(((x5.1.Code:Int)==9)&&(((x5.1.Value:Int)==0)&&(((x5.1.Steps:Int)==3)&&true))) else false) then(x7.2.1==1) else false))))))))) else(some false)))
theorem Yp  (r:Bool) (h:m_locksteplaw13_awake=some r):sP 5 [] [] (.bool r) []:=
 sG Tryz.func5 λΓ q=>Ae q [] [] (gR q [1] [1] [(10,(.agg [PN,RM,RW,RW,RL,(.int .u64 (200:Int))])),(11,(.agg [PN,RM,RW,RS,RL,(.int .u64 (100:Int))])),(12,(AV.list 1 Ax 0 ([(1:Int),(2:Int)]:Am) .exact)),(14,sd),(15,(.agg [PN,PS,RL])),(16,(.agg [(AV.list 4 W0 default ([]:List Ff) .exact),sd,PN,PS,RL])),(17,sf),(18,(.agg [RL,RM,sf]))] [] (c8 (show(AVle (.agg [PN,RM,RW,RW,dN,(.int .u64 (200:Int))]) (.agg [PN,RM,RW,RW,RL,(.int .u64 (200:Int))])) from(AVle.agg (.cons (AVle.refl _) (.cons (AVle.refl _) (.cons (AVle.refl _) (.cons (AVle.refl _) (.cons He (.cons (AVle.refl _) .nil)))))))) (show(AVle (.agg [PN,RM,RW,RS,dN,(.int .u64 (100:Int))]) (.agg [PN,RM,RW,RS,RL,(.int .u64 (100:Int))])) from(AVle.agg (.cons (AVle.refl _) (.cons (AVle.refl _) (.cons (AVle.refl _) (.cons (AVle.refl _) (.cons He (.cons (AVle.refl _) .nil)))))))) (B9 1 Ax (0:Int) ([(1:Int),(2:Int)]:Am)) (B9 6 PX (default:C5) D9) (show(AVle (.agg [PN,PS,dN]) (.agg [PN,PS,RL])) from(AVle.agg (.cons (AVle.refl _) (.cons (AVle.refl _) (.cons He .nil))))) (show(AVle (.agg [dN,sd,PN,PS,RL]) (.agg [(AV.list 4 W0 default ([]:List Ff) .exact),sd,PN,PS,RL])) from(AVle.agg (.cons He (.cons (AVle.refl _) (.cons (AVle.refl _) (.cons (AVle.refl _) (.cons (AVle.refl _) .nil))))))) (B9 5 Jx (default:Ai) sc) (show(AVle (.agg [dN,RM,sf]) (.agg [RL,RM,sf])) from(AVle.agg (.cons He (.cons (AVle.refl _) (.cons (AVle.refl _) .nil)))))) (tB h λx1 y1 h=>gB h (λhs2 h=>tT q Y7 rX [⟨[],[(20000,20),(21000,60020000),(21001,60020001)],(.tuple [(bif true then((Ha 20000):AV) else .nilp),(Az x1.2)]),(bif true then(lG x1) else[]),[],[]⟩] (c1 (show(sP 8 [lH] [] (.tuple [(bif true then((Ha 20000):AV) else .nilp),(Az x1.2)]) (bif true then(lG x1) else[])) from(vu (λb_:Bool=>sP 8 [lH] [] (.tuple [(bif b_ then((Ha 20000):AV) else .nilp),(Az x1.2)]) (bif b_ then(lG x1) else[])) hs2 (Spec.args (.cons IU .nil) (N3 y1))))) (tU q [1,2,28] rX (c2 (gI (false==false)) (Kl false)) (gC h (λh=>Ae q [0] [] (tS h (Be []))) λh=>tB h λx3 y3 h=>tC h λc4_ h=>tT q [1,2,4,5] [1,4,20,60020000,60020001] [(Z76 20 60020001 60020000 x3.1 x3.2.1 (wj x3))] (c1 (show(sP 9 [(.agg [(AV.list 1 Ax 0 ([]:Am) .none),RM,(bX sc)]),lH,(Ha 30000),(.int .i64 (4:Int))] (Z5 x1.1.2.bytes x1.1.2.trace x1.1.2.trace.length) (.tuple [(.agg (GB x3.1)),(Az x3.2.1)]) (wj x3)) from(Spec.args (.cons (AVle.refl _) (.cons IU (.cons (AVle.refl _) (.cons (AVle.refl _) .nil)))) (S7 y3)))) (tB h λx5 y5 h=>tC h λc6_ h=>tT q [1,2,4,5,6,7] [1,4,6,20,60020000,60020001] [(Z76 20 60020001 60020000 x5.1 x5.2.1 (zA x5))] (c1 (show(sP 9 [(.agg [(AV.list 1 Ax 0 ([]:Am) .none),RM,(bX sc)]),lH,(Ha 30000),PS] (wj x3) (.tuple [(.agg (GB x5.1)),(Az x5.2.1)]) (zA x5)) from(Spec.args (.cons (AVle.refl _) (.cons IU (.cons (AVle.refl _) (.cons (AVle.refl _) .nil)))) (S7 y5)))) (tB h λx7 y7 h=>tC h λc8_ h=>gR q [4,5,6,7,9] [4,6] [(43,(AV.list 1 Dc 0 ([(1:Int)]:Am) .exact))] [⟨[(20,30000),(60020001,37001),(60020000,35000)],[],(.tuple [(.agg (GB x7.1)),(Az x7.2.1)]),(Z5 x7.2.2.2 x7.2.2.1 x7.2.2.1.length),[],[]⟩] (c2 (B9 1 Dc (0:Int) ([(1:Int)]:Am)) (S7 y7)) (tU q [0] [] (Mn ((x3.2.1==0)==true) (dq (Nn (x3.2.1==0)) (gI ((wi x3)==true)) (Nn (wi x3)) (Mn ((se x3 x5)==true) (c3 (Nn (se x3 x5)) (gI ((bif (se x3 x5) then(((x5.1.Code:Int)==9)&&(((x5.1.Value:Int)==0)&&(((x5.1.Steps:Int)==3)&&true))) else false)==true)) (Nn (bif (se x3 x5) then(((x5.1.Code:Int)==9)&&(((x5.1.Value:Int)==0)&&(((x5.1.Steps:Int)==3)&&true))) else false)))))) (tS h (Be [])))))))) (λhs2 h=>tT q Y7 [1] [⟨[],[],(.tuple [(bif false then((Ha 20000):AV) else .nilp),(Az x1.2)]),(bif false then(lG x1) else[]),[],[]⟩] (c1 (show(sP 8 [lH] [] (.tuple [(bif false then((Ha 20000):AV) else .nilp),(Az x1.2)]) (bif false then(lG x1) else[])) from(vu (λb_:Bool=>sP 8 [lH] [] (.tuple [(bif b_ then((Ha 20000):AV) else .nilp),(Az x1.2)]) (bif b_ then(lG x1) else[])) hs2 (Spec.args (.cons IU .nil) (N3 y1))))) (tU q [1,2,28] [1] (c2 (gI (true==false)) (Kl true)) (FR true (Ae q [0] [] (tS h (Be []))))))))
open Go Go.RowKit
set_option maxRecDepth 100000
set_option maxHeartbeats 2000000
def Cv(a1:TFunc)(i2:Int):Hs->Option sE:=
 λ((i5,i6):Hs)=>(Aw (A0 i2 a1.Blocks.length) (bif (bif (decide (i6<(((a1.Blocks.getD i2.toNat default).Phis).length:Int))) then(decide (i5<=20000)) else false) then(Aw (A0 i2 a1.Blocks.length) (Aw (A0 i6 ((a1.Blocks.getD i2.toNat default).Phis).length) (Aw (A0 i2 a1.Blocks.length) (Aw (A0 i6 ((a1.Blocks.getD i2.toNat default).Phis).length) (some (.next ((w64 ((w64 ((w64 (i5+1))+(((((a1.Blocks.getD i2.toNat default).Phis).getD i6.toNat default).From).length:Int)))+(((((a1.Blocks.getD i2.toNat default).Phis).getD i6.toNat default).Args).length:Int))),(w64 (i6+1))))))))) else(some (.done i5))))
def Cw(a1:TFunc)(i2:Int):Hs->Option sE:=
 λ((i15,i16):Hs)=>(Aw (A0 i2 a1.Blocks.length) (bif (bif (decide (i16<(((a1.Blocks.getD i2.toNat default).Ops).length:Int))) then(decide (i15<=20000)) else false) then(Aw (A0 i2 a1.Blocks.length) (Aw (A0 i16 ((a1.Blocks.getD i2.toNat default).Ops).length) (some (.next ((w64 ((w64 (i15+1))+(((((a1.Blocks.getD i2.toNat default).Ops).getD i16.toNat default).Args).length:Int))),(w64 (i16+1))))))) else(some (.done i15))))
def Cx(a1:TFunc):Hs->Option sE:=
 λ((i1,i2):Hs)=>(bif (bif (decide (i2<(a1.Blocks.length:Int))) then(decide (i1<=20000)) else false) then(Aw (A0 i2 a1.Blocks.length) ((Ad (Cv a1 i2) ((w64 ((w64 (i1+1))+(((a1.Blocks.getD i2.toNat default).End.To).length:Int))),(0:Int))).bind (λx13=>((Ad (Cw a1 i2) (x13,(0:Int))).bind (λx21=>(some (.next (x21,(w64 (i2+1)))))))))) else(some (.done i1)))
def C2(a1:TFunc):Option Bool:=
 ((Ad (Cx a1) ((a1.Params.length:Int),(0:Int))).bind (λx23=>(some (decide (x23<=20000)))))
theorem Yt(h:C2 v3=some v5):sP 32 [(XF v3)] [] (.bool v5) []:=
 sG Tryz.func32 λΓ q=>tW q [1] [1] M1 [1] (Ae q Fe [1] (tL q h Fe [1] (λu (i1,i2)=>(Cs u [(3,(Az i1)),(4,(Az i2))] [])) (λu i3=>aG Γ (.exit 0) (⟨[(3,(Az i3))],[],[]⟩:St)) (λ⟨i1,i2⟩ y h=>tU q [1,3,4,18] [1] (c2 (gI ((decide (i2<(v3.Blocks.length:Int)))==true)) (Nn (decide (i2<(v3.Blocks.length:Int))))) (gC h (λh=>tV q Fe [1] h λh=>Ae q L4 [1] (tL q h L4 [1] (λu (i5,i6)=>(Cs u [(3,(Az i5)),(5,(Az i6))] [])) (λu i7=>aG Γ (.exit 2) (O1 Fe [1] u [(3,(Az i7))] [])) (λ⟨i5,i6⟩ y h=>tC h λc8_ h=>tU q [1,3,4,5,44] [1] (c3 c8_ (gI ((decide (i6<(((v3.Blocks.getD i2.toNat default).Phis).length:Int)))==true)) (Nn (decide (i6<(((v3.Blocks.getD i2.toNat default).Phis).length:Int))))) (gC h (λh=>tC h λc9_ h=>tC h λc10_ h=>tC h λc11_ h=>tC h λc12_ h=>tU q L4 [1] (c4 c9_ c10_ c11_ c12_) (Ae q L4 [1] (tN h))) λh=>tS h (gO (Bd (Bk Fe [1] q))))) λx13 h=>gA (Ae q cw [1] (tL q h cw [1] (λu (i15,i16)=>(Cs u [(3,(Az i15)),(6,(Az i16))] [])) (λu i17=>aG Γ (.exit 4) (O1 Fe [1] u [(3,(Az i17))] [])) (λ⟨i15,i16⟩ y h=>tC h λc18_ h=>tU q [1,3,4,6,85] [1] (c3 c18_ (gI ((decide (i16<(((v3.Blocks.getD i2.toNat default).Ops).length:Int)))==true)) (Nn (decide (i16<(((v3.Blocks.getD i2.toNat default).Ops).length:Int))))) (gC h (λh=>tC h λc19_ h=>tC h λc20_ h=>tU q cw [1] (c2 c19_ c20_) (Ae q cw [1] (tN h))) λh=>tS h (gO (Bd (Bk Fe [1] q))))) λx21 h=>gA (Ae q Fe [1] (tN h)))))) λh=>tS h (gO (Bd (Bk [3] [] q))))) λx23 h=>gA (Ae q [2] [] (tS h (Be [])))))
def H8(a1:TFunc):Hs->Option sE:=
 λ((i1,i2):Hs)=>(bif (decide (i2<(a1.Blocks.length:Int))) then(Aw (A0 i2 a1.Blocks.length) (Aw (A0 i2 a1.Blocks.length) (some (.next ((w64 ((w64 ((w64 (i1+1))+(((a1.Blocks.getD i2.toNat default).Ops).length:Int)))+(((a1.Blocks.getD i2.toNat default).Phis).length:Int))),(w64 (i2+1))))))) else(some (.done i1)))
def sg(a1:TFunc)(x6:Int):=(bif (decide ((a1.Blocks.length:Int)<=16)) then(decide (x6<=100)) else false)
def wk(a1:TFunc)(x6:Int):=(bif (sg a1 x6) then true else(decide ((64:Int)<(a1.Blocks.length:Int))))
def J6(a1:TFunc):Option Bool:=
 ((Ad (H8 a1) ((0:Int),(0:Int))).bind (λx6=>((C2 a1).bind λx8=>(some (bif x8 then(bif (bif (bif (decide ((a1.Blocks.length:Int)<=16)) then(decide (x6<=100)) else false) then true else(decide ((64:Int)<(a1.Blocks.length:Int)))) then true else(decide ((512:Int)<x6))) else false)))))
theorem Yw(h:J6 v3=some v5):sP 14 [(XF v3)] [] (.bool v5) []:=
 sG Tryz.func14 λΓ q=>tW q [1] [1] M1 [1] (Ae q Fe [1] (tL q h Fe [1] (λu (i1,i2)=>(Cs u [(3,(Az i1)),(4,(Az i2))] [])) (λu i3=>aG Γ (.exit 0) (O1 M1 [1] u [(3,(Az i3))] [])) (λ⟨i1,i2⟩ y h=>Ae q [1,3,4,9] [1] (gC h (λh=>tC h λc4_ h=>tC h λc5_ h=>tU q Fe [1] (c2 c4_ c5_) (Ae q Fe [1] (tN h))) λh=>tS h (gO (Bd (Bk M1 [1] q))))) λx6 h=>gA (tB h λx8 y8 h=>tT q [2] [] [(Z8 x8)] (ci (Yt y8) (f5 (x8==true) (XI (gI ((x8==true)&&((decide ((v3.Blocks.length:Int)<=16))==true))) (gI (x8==true)) (show((x8==true)=true->((decide ((v3.Blocks.length:Int)<=16))=true->((x8==true)&&((decide ((v3.Blocks.length:Int)<=16))==true))=true)) from(λhg=>(aT hg))) (gI (x8==true)) (Xu ((x8==true)&&((sg v3 x6)==false)) (c7 (gI (x8==true)) (show((x8==true)=true->((sg v3 x6)=false->((x8==true)&&((sg v3 x6)==false))=true)) from(λhg=>(aF hg))) (gI (x8==true)) (gI ((x8==true)&&((wk v3 x6)==false))) (gI (x8==true)) (show((x8==true)=true->((wk v3 x6)=false->((x8==true)&&((wk v3 x6)==false))=true)) from(λhg=>(aF hg))) (Nn x8)))))) (tS h (Be [])))))
def wl(x1:Bool)(aaE:TCase):=(bif x1 then(decide ((aaE.Args.length:Int)<=40)) else false)
def zC(x1:Bool)(aaE:TCase):=(bif (wl x1 aaE) then(decide ((aaE.Mem.length:Int)<=4096)) else false)
def J3(a1:TFunc)(aaE:TCase):Option Bool:=
 ((J6 a1).bind λx1=>(some (bif (bif (bif x1 then(decide ((aaE.Args.length:Int)<=40)) else false) then(decide ((aaE.Mem.length:Int)<=4096)) else false) then(decide (aaE.Fuel<=500)) else false)))
variable{v49:TCase}
theorem Rh(h:J3 v3 v49=some v5):sP 6 [(XF v3),(.agg (eTCase v49))] [] (.bool v5) []:=
 sG Tryz.func6 λΓ q=>Ae q Cn Cn (tB h λx1 y1 h=>tT q [4] [] [(Z8 x1)] (ci (Yw y1) (Xu (x1==true) (ci (Nn x1) (Xu ((wl x1 v49)==true) (ci (Nn (wl x1 v49)) (Mn ((zC x1 v49)==true) (c1 (Nn (zC x1 v49))))))))) (tS h (Be [])))
def Bp(aO:Int):Option Bool:=
 (some (bif (decide ((0:Int)<=aO)) then(decide (aO<=2147483647)) else false))
theorem Cg(h:Bp v4=some v5):sP 34 [(Az v4)] [] (.bool v5) []:=
 sG Tryz.func34 λΓ q=>Ae q [0] [] (tU q [2] [] (c2 (gI ((decide ((0:Int)<=v4))==true)) (Nn (decide ((0:Int)<=v4)))) (tS h (Be [])))
def Ga(aa0:Am):Int->Option (LR Int (Unit ⊕ Bool)):=
 λ(i1:Int)=>(bif (decide (i1<(aa0.length:Int))) then(Aw (A0 i1 aa0.length) ((Bp (aa0.getD i1.toNat 0)).bind λx3=>(bif (!x3) then(some (.done (.inr false))) else(some (.next (w64 (i1+1))))))) else(some (.done (.inl ()))))
def BX(Γ:Il)(aa0:Am)(r:Bool):Exit->St->Prop:=fK Tryz.prog Γ Tryz.f33.results.toList [] (.bool r) []
def Dg(aa0:Am):Option Bool:=
 ((Ad (Ga aa0) (0:Int)).bind (λx4=>(match x4 with|(.inl _)=>(some (decide ((aa0.length:Int)<=64)))|(.inr r6)=>(some r6))))
theorem Hq(h:Dg v0=some v5):sP 33 [(Rs v0)] [] (.bool v5) []:=
 sG Tryz.func33 λΓ q=>tW q [0] [] Ov [] (tL q h Ov [] (λu i1=>(Cs u [(3,(Az i1))] [])) (λu x_=>match x_ with|(.inl _)=>aG Γ (.exit 0) (O1 [0] [] u [] [])|(.inr r_)=>aR (BX Γ v0 r_)) (λi1 y h=>Ae q [0,3,7] [] (gC h (λh=>tC h λc2_ h=>tB h λx3 y3 h=>tT q [0,3,15] [] [(Z8 x3)] (c2 c2_ (Cg y3)) (gC h (λh=>Ae q [2] [] (tS h (gO (Lc (Hu [] (Le.refl _ _)))))) λh=>Ae q Ov [] (tN h))) λh=>tS h (gO (Bd (Bk [0] [] q))))) λx4 h=>(match x4,h with | .inl _,h=>gA (Ae q [2] [] (tS h (Be []))) | .inr r6,h=>Pu (λst' hk=>tS h (gK hk))))
def Iu(a1:TFunc):Hs->Option sE:=
 λ((i1,i2):Hs)=>(bif (decide (i2<(a1.Blocks.length:Int))) then(Aw (A0 i2 a1.Blocks.length) (Aw (A0 i2 a1.Blocks.length) (some (.next ((w64 ((w64 ((w64 (i1+(((a1.Blocks.getD i2.toNat default).Phis).length:Int)))+(((a1.Blocks.getD i2.toNat default).Ops).length:Int)))+1)),(w64 (i2+1))))))) else(some (.done i1)))
def Ku(a1:TFunc):Option Int:=
 ((Ad (Iu a1) ((0:Int),(0:Int))).bind (λx6=>(some x6)))
theorem BG(h:Ku v3=some v4):sP 35 [(XF v3)] [] (.int .i64 v4) []:=
 sG Tryz.func35 λΓ q=>tW q [1] [1] M1 [1] (Ae q Fe [1] (tL q h Fe [1] (λu (i1,i2)=>(Cs u [(3,(Az i1)),(4,(Az i2))] [])) (λu i3=>aG Γ (.exit 0) (⟨[(3,(Az i3))],[],[]⟩:St)) (λ⟨i1,i2⟩ y h=>Ae q [1,3,4,9] [1] (gC h (λh=>tC h λc4_ h=>tC h λc5_ h=>tU q Fe [1] (c2 c4_ c5_) (Ae q Fe [1] (tN h))) λh=>tS h (gO (Bd (Bk [3] [] q))))) λx6 h=>gA (Ae q [2] [] (tS h (Be [])))))
def G0(a1:TFunc)(i4:Int):Int->Option (LR Int (Unit ⊕ Bool)):=
 λ(i6:Int)=>(bif (decide (i6<(((a1.Blocks.getD i4.toNat default).Phis).length:Int))) then(Aw (A0 i6 ((a1.Blocks.getD i4.toNat default).Phis).length) ((Bp ((((a1.Blocks.getD i4.toNat default).Phis).getD i6.toNat default).Bits)).bind λx8=>((bif ((!x8)==false) then Bp ((((a1.Blocks.getD i4.toNat default).Phis).getD i6.toNat default).Dst) else some false).bind λx9=>((bif ((bif (!x8) then true else(!x9))==false) then Dg ((((a1.Blocks.getD i4.toNat default).Phis).getD i6.toNat default).From) else some false).bind λx10=>((bif ((bif (bif (!x8) then true else(!x9)) then true else(!x10))==false) then Dg ((((a1.Blocks.getD i4.toNat default).Phis).getD i6.toNat default).Args) else some false).bind λx11=>(bif (bif (bif (bif (!x8) then true else(!x9)) then true else(!x10)) then true else(!x11)) then(some (.done (.inr false))) else(some (.next (w64 (i6+1)))))))))) else(some (.done (.inl ()))))
def G1(a1:TFunc)(i4:Int):Int->Option (LR Int (Unit ⊕ Bool)):=
 λ(i14:Int)=>(bif (decide (i14<(((a1.Blocks.getD i4.toNat default).Ops).length:Int))) then(Aw (A0 i14 ((a1.Blocks.getD i4.toNat default).Ops).length) ((Bp ((((a1.Blocks.getD i4.toNat default).Ops).getD i14.toNat default).Kind)).bind λx16=>((bif ((!x16)==false) then Bp ((((a1.Blocks.getD i4.toNat default).Ops).getD i14.toNat default).Bits) else some false).bind λx17=>((bif ((bif (!x16) then true else(!x17))==false) then Bp ((((a1.Blocks.getD i4.toNat default).Ops).getD i14.toNat default).Lanes) else some false).bind λx18=>((bif ((bif (bif (!x16) then true else(!x17)) then true else(!x18))==false) then Bp ((((a1.Blocks.getD i4.toNat default).Ops).getD i14.toNat default).Dst) else some false).bind λx19=>((bif ((bif (bif (bif (!x16) then true else(!x17)) then true else(!x18)) then true else(!x19))==false) then Dg ((((a1.Blocks.getD i4.toNat default).Ops).getD i14.toNat default).Args) else some false).bind λx20=>(bif (bif (bif (bif (bif (!x16) then true else(!x17)) then true else(!x18)) then true else(!x19)) then true else(!x20)) then(some (.done (.inr false))) else(some (.next (w64 (i14+1))))))))))) else(some (.done (.inl ()))))
def E4(a1:TFunc):Int->Option (LR Int (Unit ⊕ Bool)):=
 λ(i4:Int)=>(bif (decide (i4<(a1.Blocks.length:Int))) then(Aw (A0 i4 a1.Blocks.length) ((Ad (G0 a1 i4) (0:Int)).bind (λx12=>(match x12 with|(.inl _)=>((Ad (G1 a1 i4) (0:Int)).bind (λx21=>(match x21 with|(.inl _)=>((Bp ((a1.Blocks.getD i4.toNat default).End.Kind)).bind λx23=>((bif ((!x23)==false) then Bp ((a1.Blocks.getD i4.toNat default).End.Arg) else some false).bind λx24=>((bif ((bif (!x23) then true else(!x24))==false) then Dg ((a1.Blocks.getD i4.toNat default).End.To) else some false).bind λx25=>(bif (bif (bif (!x23) then true else(!x24)) then true else(!x25)) then(some (.done (.inr false))) else(some (.next (w64 (i4+1))))))))|(.inr r26)=>(some (.done (.inr r26))))))|(.inr r27)=>(some (.done (.inr r27))))))) else(some (.done (.inl ()))))
def Ox(Γ:Il)(a1:TFunc)(r:Bool):Exit->St->Prop:=fK Tryz.prog Γ Tryz.f15.results.toList [] (.bool r) []
def dD(x8:Bool)(x9:Bool):=(bif (!x8) then true else(!x9))
def nb(a1:TFunc):=((a1.Blocks.length:Int)==0)
def na(a1:TFunc):=(bif (bif (nb a1) then true else(decide ((64:Int)<(a1.Blocks.length:Int)))) then true else(decide ((16:Int)<(a1.Params.length:Int))))
def dE(a1:TFunc)(x1:Bool):=(bif (na a1) then true else(!x1))
def wm(x23:Bool)(x24:Bool):=((bif (!x23) then true else(!x24))==false)
def Abt(a1:TFunc)(i4:Int):=(a1.Blocks.getD i4.toNat default)
def Ab7(a1:TFunc)(i4:Int)(i14:Int):=(((Abt a1 i4).Ops).getD i14.toNat default)
def dC(x16:Bool)(x17:Bool)(x18:Bool):=(bif (bif (!x16) then true else(!x17)) then true else(!x18))
def Abu(a1:TFunc):=((bif (nb a1) then true else(decide ((64:Int)<(a1.Blocks.length:Int))))==false)
def Jd(a1:TFunc):Option Bool:=
 ((bif ((bif (bif ((a1.Blocks.length:Int)==0) then true else(decide ((64:Int)<(a1.Blocks.length:Int)))) then true else(decide ((16:Int)<(a1.Params.length:Int))))==false) then Dg a1.Params else some false).bind λx1=>((bif ((bif (bif (bif ((a1.Blocks.length:Int)==0) then true else(decide ((64:Int)<(a1.Blocks.length:Int)))) then true else(decide ((16:Int)<(a1.Params.length:Int)))) then true else(!x1))==false) then Bp a1.Ret else some false).bind λx2=>((bif ((bif (bif (bif (bif ((a1.Blocks.length:Int)==0) then true else(decide ((64:Int)<(a1.Blocks.length:Int)))) then true else(decide ((16:Int)<(a1.Params.length:Int)))) then true else(!x1)) then true else(!x2))==false) then Ku a1 else some (0:Int)).bind λx3=>(bif (bif (bif (bif (bif (bif ((a1.Blocks.length:Int)==0) then true else(decide ((64:Int)<(a1.Blocks.length:Int)))) then true else(decide ((16:Int)<(a1.Params.length:Int)))) then true else(!x1)) then true else(!x2)) then true else(decide ((512:Int)<x3))) then(some false) else((Ad (E4 a1) (0:Int)).bind (λx28=>(match x28 with|(.inl _)=>(some true)|(.inr r30)=>(some r30))))))))
theorem DJ(h:Jd v3=some v5):sP 15 [(XF v3)] [] (.bool v5) []:=
 sG Tryz.func15 λΓ q=>Ae q [1] [1] (tB h λx1 y1 h=>tB h λx2 y2 h=>tB h λx3 y3 h=>tT q [1,41] [1] [(Z8 x1),(Z8 x2),(XD x3)] (Xu ((nb v3)==false) (ci (Kl (nb v3)) (Xu (Abu v3) (ci (Kl (bif (nb v3) then true else(decide ((64:Int)<(v3.Blocks.length:Int))))) (Mn ((na v3)==false) (dq (λ(hg:((na v3)==false)=true)=>(Hq (B0 hg y1))) (gI ((na v3)==false)) (Kl (na v3)) (Mn ((dE v3 x1)==false) (c7 (λ(hg:((dE v3 x1)==false)=true)=>(Cg (B0 hg y2))) (gI ((dE v3 x1)==false)) (Kl (dE v3 x1)) (gI ((bif (dE v3 x1) then true else(!x2))==false)) (λ(hg:((bif (dE v3 x1) then true else(!x2))==false)=true)=>(BG (B0 hg y3))) (gI ((bif (dE v3 x1) then true else(!x2))==false)) (Kl (bif (dE v3 x1) then true else(!x2))))))))))) (gC h (λh=>Ae q [2] [] (tS h (Be []))) λh=>Ae q M1 [1] (tL q h M1 [1] (λu i4=>(Cs u [(3,(Az i4))] [])) (λu x_=>match x_ with|(.inl _)=>aG Γ (.exit 0) (⟨[],[],[]⟩:St)|(.inr r_)=>aR (Ox Γ v3 r_)) (λi4 y h=>Ae q [1,3,46] [1] (gC h (λh=>tV q Fe R4 h λh=>Ae q L4 R4 (tL q h L4 R4 (λu i6=>(Cs u [(5,(Az i6))] [])) (λu x_=>match x_ with|(.inl _)=>aG Γ (.exit 2) (O1 Fe R4 u [] [])|(.inr r_)=>aR (Ox Γ v3 r_)) (λi6 y h=>Ae q [1,3,4,5,58] R4 (gC h (λh=>tV q Th [1,4,6] h λh=>tB h λx8 y8 h=>tB h λx9 y9 h=>tB h λx10 y10 h=>tB h λx11 y11 h=>tT q [1,3,4,5,87] R4 [(Z8 x8),(Z8 x9),(Z8 x10),(Z8 x11)] (ci (Cg y8) (Mn ((!x8)==false) (dq (λ(hg:((!x8)==false)=true)=>(Cg (B0 hg y9))) (gI ((!x8)==false)) (Kl (!x8)) (Mn ((dD x8 x9)==false) (dq (λ(hg:((dD x8 x9)==false)=true)=>(Hq (B0 hg y10))) (gI ((dD x8 x9)==false)) (Kl (dD x8 x9)) (Mn ((bif (dD x8 x9) then true else(!x10))==false) (c3 (λ(hg:((bif (dD x8 x9) then true else(!x10))==false)=true)=>(Hq (B0 hg y11))) (gI ((bif (dD x8 x9) then true else(!x10))==false)) (Kl (bif (dD x8 x9) then true else(!x10)))))))))) (gC h (λh=>Ae q [2] [] (tS h (gO (Lc (Hu [] (Le.refl _ _)))))) λh=>Ae q L4 R4 (tN h))) λh=>tS h (gO (Bd (Bk Fe R4 q))))) λx12 h=>(match x12,h with | .inl _,h=>gA (Ae q [1,3,4,7] R4 (tL q h [1,3,4,7] R4 (λu i14=>(Cs u [(7,(Az i14))] [])) (λu x_=>match x_ with|(.inl _)=>aG Γ (.exit 4) (O1 Fe R4 u [] [])|(.inr r_)=>aR (Ox Γ v3 r_)) (λi14 y h=>Ae q [1,3,4,7,92] R4 (gC h (λh=>tV q [1,3,4,7,8] [1,4,8] h λh=>tB h λx16 y16 h=>tB h λx17 y17 h=>tB h λx18 y18 h=>tB h λx19 y19 h=>tB h λx20 y20 h=>tT q [1,3,4,7,127] R4 [(Z8 x16),(Z8 x17),(Z8 x18),(Z8 x19),(Z8 x20)] (ci (Cg y16) (Mn ((!x16)==false) (dq (λ(hg:((!x16)==false)=true)=>(Cg (B0 hg y17))) (gI ((!x16)==false)) (Kl (!x16)) (Mn ((bif (!x16) then true else(!x17))==false) (dq (λ(hg:((bif (!x16) then true else(!x17))==false)=true)=>(Cg (B0 hg y18))) (gI ((bif (!x16) then true else(!x17))==false)) (Kl (bif (!x16) then true else(!x17))) (Mn ((dC x16 x17 x18)==false) (dq (λ(hg:((dC x16 x17 x18)==false)=true)=>(Cg (B0 hg y19))) (gI ((dC x16 x17 x18)==false)) (Kl (dC x16 x17 x18)) (Mn ((bif (dC x16 x17 x18) then true else(!x19))==false) (c3 (λ(hg:((bif (dC x16 x17 x18) then true else(!x19))==false)=true)=>(Hq (B0 hg y20))) (gI ((bif (dC x16 x17 x18) then true else(!x19))==false)) (Kl (bif (dC x16 x17 x18) then true else(!x19)))))))))))) (gC h (λh=>Ae q [2] [] (tS h (gO (Lc (Hu [] (Le.refl _ _)))))) λh=>Ae q [1,3,4,7] R4 (tN h))) λh=>tS h (gO (Bd (Bk Fe R4 q))))) λx21 h=>(match x21,h with | .inl _,h=>gA (tB h λx23 y23 h=>tB h λx24 y24 h=>tB h λx25 y25 h=>tT q [1,3,146] [1] [(Z8 x23),(Z8 x24),(Z8 x25)] (ci (Cg y23) (Xu ((!x23)==false) (dq (λ(hg:((!x23)==false)=true)=>(Cg (B0 hg y24))) (gI ((!x23)==false)) (Kl (!x23)) (Xu (wm x23 x24) (c3 (λ(hg:(wm x23 x24)=true)=>(Hq (B0 hg y25))) (gI (wm x23 x24)) (Kl (bif (!x23) then true else(!x24)))))))) (gC h (λh=>Ae q [2] [] (tS h (gO (Lc (Hu [] (Le.refl _ _)))))) λh=>Ae q M1 [1] (tN h))) | .inr r26,h=>Pu (λst' hk=>tS h (gO (Lc hk)))))) | .inr r27,h=>Pu (λst' hk=>tS h (gO (Lc hk)))))) λh=>tS h (gO (Bd (Bk [] [] q))))) λx28 h=>(match x28,h with | .inl _,h=>gA (Ae q [2] [] (tS h (Be []))) | .inr r30,h=>Pu (λst' hk=>tS h (gK hk))))))
def G2(aa0:Am)(aM:Int):Int->Option (LR Int (Unit ⊕ Bool)):=
 λ(i1:Int)=>(bif (decide (i1<(aa0.length:Int))) then(Aw (A0 i1 aa0.length) (bif ((aa0.getD i1.toNat 0)==aM) then(some (.done (.inr true))) else(some (.next (w64 (i1+1)))))) else(some (.done (.inl ()))))
def FQ(Γ:Il)(aa0:Am)(aM:Int)(r:Bool):Exit->St->Prop:=fK Tryz.prog Γ Tryz.f42.results.toList [] (.bool r) []
def G9(aa0:Am)(aM:Int):Option Bool:=
 ((Ad (G2 aa0 aM) (0:Int)).bind (λx3=>(match x3 with|(.inl _)=>(some false)|(.inr r5)=>(some r5))))
theorem N2(h:G9 v0 v4=some v5):sP 42 [(Rs v0),(Az v4)] [] (.bool v5) []:=
 sG Tryz.func42 λΓ q=>tW q Ew [] L5 [] (tL q h L5 [] (λu i1=>(Cs u [(5,(Az i1))] [])) (λu x_=>match x_ with|(.inl _)=>aG Γ (.exit 0) (⟨[],[],[]⟩:St)|(.inr r_)=>aR (FQ Γ v0 v4 r_)) (λi1 y h=>Ae q [0,1,5,9] [] (gC h (λh=>tV q [0,1,5,17] [] h λh=>gC h (λh=>Ae q [4] [] (tS h (gO (Lc (Hu [] (Le.refl _ _)))))) λh=>Ae q L5 [] (tN h)) λh=>tS h (gO (Bd (Bk [] [] q))))) λx3 h=>(match x3,h with | .inl _,h=>gA (Ae q [4] [] (tS h (Be []))) | .inr r5,h=>Pu (λst' hk=>tS h (gK hk))))
abbrev yX:=(LR Int (Unit ⊕ (TGraph×Int)))
def Ea(aA:Ey)(i1:Int):Int->Option yX:=
 λ(i2:Int)=>(Aw (A0 i1 aA.length) (bif (decide (i2<((aA.getD i1.toNat []).length:Int))) then(Aw (A0 i1 aA.length) (Aw (A0 i2 (aA.getD i1.toNat []).length) (Aw (((decide (((aA.getD i1.toNat []).getD i2.toNat 0)<0))==false)=true->(A0 i1 aA.length)) (Aw (((decide (((aA.getD i1.toNat []).getD i2.toNat 0)<0))==false)=true->(A0 i2 (aA.getD i1.toNat []).length)) (Aw ((((bif (decide (((aA.getD i1.toNat []).getD i2.toNat 0)<0)) then true else(decide ((aA.length:Int)<=((aA.getD i1.toNat []).getD i2.toNat 0))))==false)&&((decide ((0:Int)<i2))==true))=true->(A0 i1 aA.length)) (Aw ((((bif (decide (((aA.getD i1.toNat []).getD i2.toNat 0)<0)) then true else(decide ((aA.length:Int)<=((aA.getD i1.toNat []).getD i2.toNat 0))))==false)&&((decide ((0:Int)<i2))==true))=true->(A0 i2 (aA.getD i1.toNat []).length)) (Aw ((((bif (decide (((aA.getD i1.toNat []).getD i2.toNat 0)<0)) then true else(decide ((aA.length:Int)<=((aA.getD i1.toNat []).getD i2.toNat 0))))==false)&&((decide ((0:Int)<i2))==true))=true->(A0 i1 aA.length)) (Aw ((((bif (decide (((aA.getD i1.toNat []).getD i2.toNat 0)<0)) then true else(decide ((aA.length:Int)<=((aA.getD i1.toNat []).getD i2.toNat 0))))==false)&&((decide ((0:Int)<i2))==true))=true->(A0 (w64 (i2-1)) (aA.getD i1.toNat []).length)) (bif (bif (bif (decide (((aA.getD i1.toNat []).getD i2.toNat 0)<0)) then true else(decide ((aA.length:Int)<=((aA.getD i1.toNat []).getD i2.toNat 0)))) then true else(bif (decide ((0:Int)<i2)) then(decide (((aA.getD i1.toNat []).getD i2.toNat 0)<=((aA.getD i1.toNat []).getD (w64 (i2-1)).toNat (0:Int)))) else false)) then(some (.done (.inr ((⟨([]:Ey),([]:Ey)⟩:TGraph),(5:Int))))) else(some (.next (w64 (i2+1))))))))))))) else(some (.done (.inl ())))))
def Gb(aA:Ey):Int->Option yX:=
 λ(i1:Int)=>(bif (decide (i1<(aA.length:Int))) then((Ad (Ea aA i1) (0:Int)).bind (λx12=>(match x12 with|(.inl _)=>(some (.next (w64 (i1+1))))|(.inr r14)=>(some (.done (.inr r14)))))) else(some (.done (.inl ()))))
def Iv(aA:Ey)(i18:Int):cy->Option wQ:=
 λ((i21,l22):cy)=>(bif (decide (i21<(aA.length:Int))) then(Option.bind (α:=Ey) (Aw (A0 i21 aA.length) ((G9 (aA.getD i21.toNat []) i18).bind λx26=>(bif x26 then(Aw (A0 i18 l22.length) (Aw (A0 i18 l22.length) (Aw ((l22.getD i18.toNat []).length+([i21]:Am).length<=room) (Aw (A0 i18 l22.length) (some (l22.set i18.toNat ((l22.getD i18.toNat [])++([i21]:Am)))))))) else(some l22)))) (λx31=>(some (.next ((w64 (i21+1)),x31))))) else(some (.done l22)))
def Eb(aA:Ey):cy->Option wQ:=
 λ((i18,l19):cy)=>(bif (decide (i18<(aA.length:Int))) then((Ad (Iv aA i18) ((0:Int),l19)).bind (λx33=>(some (.next ((w64 (i18+1)),x33))))) else(some (.done l19)))
def S0(Γ:Il)(aA:Ey)(r:nM):Exit->St->Prop:=fK Tryz.prog Γ Tryz.f43.results.toList [] (.tuple (rx r.1 r.2)) []
def Wx(aA:Ey):AV:=(WT aA)
def sj(aA:Ey):AV:=(Ve aA.length)
def si(aA:Ey)(i1:Int)(i2:Int):=((bif (decide (((aA.getD i1.toNat []).getD i2.toNat 0)<0)) then true else(decide ((aA.length:Int)<=((aA.getD i1.toNat []).getD i2.toNat 0))))==false)
def Abv(i2:Int):=((decide ((0:Int)<i2))==true)
def lJ(aA:Ey)(i1:Int)(i2:Int):=((si aA i1 i2)&&(Abv i2))
def lI:List YK:=[V8,(3,nG)]
def bT(l22:Ey)(i18:Int)(i21:Int):=((l22.getD i18.toNat [])++([i21]:Am))
def zD:AV:=tH
def gH(aA:Ey):=(List.replicate (aA.length:Int).toNat ([]:Am))
def PO:List AV:=[dN,dN]
def sl(aA:Ey):List YK:=[(0,(Wx aA)),V8,(4,(sj aA)),(7,(.ptr 7 0))]
def wq(aA:Ey)(i1:Int)(i2:Int):=((decide (((aA.getD i1.toNat []).getD i2.toNat 0)<0))==false)
def dF:List AV:=[yh,yh]
def sk(aA:Ey)(i18:Int)(i21:Int):List YK:=[(0,(Wx aA)),V8,(4,(sj aA)),(7,(.ptr 7 0)),(8,(Az i18)),(9,(Az i21))]
def Ig(aA:Ey):Option nM:=
 (bif (bif ((aA.length:Int)==0) then true else(decide ((64:Int)<(aA.length:Int)))) then(some ((⟨([]:Ey),([]:Ey)⟩:TGraph),(5:Int))) else((Ad (Gb aA) (0:Int)).bind (λx15=>(match x15 with|(.inl _)=>(Aw (0<=(aA.length:Int)/\(aA.length:Int)<=(aA.length:Int)/\(aA.length:Int)<=(room:Int)) ((Ad (Eb aA) ((0:Int),(List.replicate (aA.length:Int).toNat ([]:Am)))).bind (λx35=>(some ((⟨aA,x35⟩:TGraph),(0:Int))))))|(.inr r37)=>(some r37)))))
variable{v18:nM}
theorem Rz(h:Ig v16=some v18):sP 43 [(WT v16)] [] (.tuple (rx v18.1 v18.2)) []:=
 sG Tryz.func43 λΓ q=>have hΓ:=q.own;tW q [0,2] [2] [0,2,4] [2] (tU q [0,2,4,17] [2] (c2 (gI (((v16.length:Int)==0)==false)) (Kl ((v16.length:Int)==0))) (gC h (λh=>gR q Cn [2] [(18,(.agg dF))] [] (c1 (show(AVle (.agg PO) (.agg dF)) from(AVle.agg (.cons He (.cons He .nil))))) (Qi (⟨lI,[(P0 72 dF)],[]⟩:St) (tS h (gK (e:=.ret) (Hu [] (show Le Γ _ (⟨lI,[(PT zD)],[]⟩:St) from Le.trans (Bk (st':=⟨lI,[(P0 72 dF)],[]⟩) Cn [2] q) (Ka (.cons (AVle.refl _) (.cons (AVle.refl _) .nil)) (.row (.cons AVle.untag (.cons AVle.untag .nil)) .nil)))))))) λh=>Ae q WH [2] (tL q h WH [2] (λu i1=>(Cs u [(5,(Az i1))] [])) (λu x_=>match x_ with|(.inl _)=>aG Γ (.exit 0) (O1 [0,2,4] [2] u [] [])|(.inr r_)=>aR (S0 Γ v16 r_)) (λi1 y h=>Ae q [0,2,4,5,21] [2] (gC h (λh=>Ae q jg [2] (tL q h jg [2] (λu i2=>(Cs u [(6,(Az i2))] [])) (λu x_=>match x_ with|(.inl _)=>aG Γ (.exit 2) (O1 WH [2] u [] [])|(.inr r_)=>aR (S0 Γ v16 r_)) (λi2 y h=>tV q [0,2,4,5,6,30] [2] h λh=>gC h (λh=>tC h λc4_ h=>tC h λc5_ h=>tC h λc6_ h=>tC h λc7_ h=>tC h λc8_ h=>tC h λc9_ h=>tC h λc10_ h=>tC h λc11_ h=>tU q [0,2,4,5,6,73] [2] (KO c4_ c5_ (Mn (wq v16 i1 i2) (ci c6_ (Xu (wq v16 i1 i2) (ci c7_ (Xu (wq v16 i1 i2) (ci (Kl (decide (((v16.getD i1.toNat []).getD i2.toNat 0)<0))) (Mn (si v16 i1 i2) (Mn (lJ v16 i1 i2) (ci c8_ (Xu (lJ v16 i1 i2) (ci c9_ (Xu (lJ v16 i1 i2) (ci c10_ (f5 (lJ v16 i1 i2) (ci c11_ (Xu (lJ v16 i1 i2) (c3 (gI (si v16 i1 i2)) (show((si v16 i1 i2)=true->((decide ((0:Int)<i2))=true->(lJ v16 i1 i2)=true)) from(λhg=>(aT hg))) (Kl (bif (decide (((v16.getD i1.toNat []).getD i2.toNat 0)<0)) then true else(decide ((v16.length:Int)<=((v16.getD i1.toNat []).getD i2.toNat 0))))))))))))))))))))))) (gC h (λh=>gR q Cn [2] [(74,(.agg dF))] [] (c1 (show(AVle (.agg PO) (.agg dF)) from(AVle.agg (.cons He (.cons He .nil))))) (Qi (⟨lI,[(P0 72 dF)],[]⟩:St) (tS h (gO (Lc (Hu [] (show Le Γ _ (⟨lI,[(PT zD)],[]⟩:St) from Le.trans (Bk (st':=⟨lI,[(P0 72 dF)],[]⟩) Cn [2] q) (Ka (.cons (AVle.refl _) (.cons (AVle.refl _) .nil)) (.row (.cons AVle.untag (.cons AVle.untag .nil)) .nil))))))))) λh=>Ae q jg [2] (tN h))) λh=>tS h (gO (Bd (Bk WH [2] q)))) λx12 h=>(match x12,h with | .inl _,h=>gA (Ae q WH [2] (tN h)) | .inr r14,h=>Pu (λst' hk=>tS h (gO (Lc hk)))))) λh=>tS h (gO (Bd (Bk [0,2,4] [2] q))))) λx15 h=>(match x15,h with | .inl _,h=>gA (tV q [0,2,4,7] [2,7,77] h λh=>Qi (⟨(sl v16),[(P0 72 PO),(7,.row 72 [(Wx v16),(.vsl 77 (v16.length:Int).toNat)]),(77,.arr 1 22 ((v16.length:Int).toNat) (λi_=>AV.eraseAll (λn_=>B3 n_ [2,7,77]) ((λ_=>[dN]) i_)))],[]⟩:St) (M6 (Le.trans (Ka (st':=⟨(sl v16),[(P0 72 PO),(7,.row 72 [(Wx v16),(.vsl 77 (v16.length:Int).toNat)]),(77,.arr 1 22 ((v16.length:Int).toNat) (Oy 1 Ax (0:Int) (gH v16) (λ_=>.exact)))],[]⟩) (TmpsLe.refl _) (.same (.same (.arr d6 .nil)))) (Le.trans (Le.trans (eF (r:=77) (b:=70077) Ax (0:Int) (gH v16) 3 rfl rfl (K3 ..).symm (λh_=>absurd h_ (by decide))) (Ic (st':=⟨(sl v16),[(P0 72 PO),(7,.row 72 [(Wx v16),(.vsl 77 (v16.length:Int).toNat)]),(77,.arr 1 22 ((v16.length:Int).toNat) (Oy 1 Ax (0:Int) (gH v16) (Tag.fam 70077)))],[(70077,⟨1,3,Nl (gH v16)⟩)]⟩) (by kernel_rfl))) (Ic (Bx (λk_:Nat=>(⟨(sl v16),[(P0 72 PO),(oF (Wx v16) k_),(dM 77 k_ (gH v16) 70077)],[(70077,⟨1,3,Nl (gH v16)⟩)]⟩:St)) (show(v16.length:Int).toNat=(gH v16).length from(K3 ..).symm))))) (Ae q WA V6 (tL q h WA V6 (λu (i18,l19)=>(Cs u [(8,(Az i18))] [(oF (Wx v16) l19.length),(dM 77 l19.length l19 70077)] [(70077,⟨1,3,Nl l19⟩)])) (λu l20=>aG Γ (.exit 4) (O1 [2,7] V6 u [] [(oF (Wx v16) l20.length),(dM 77 l20.length l20 70077)] [(70077,⟨1,3,Nl l20⟩)])) (λ⟨i18,l19⟩ y h=>Ae q [0,2,4,7,8,81] V6 (gC h (λh=>Ae q VS V6 (tL q h VS V6 (λu (i21,l22)=>(Cs u [(9,(Az i21))] [(oF (Wx v16) l22.length),(dM 77 l22.length l22 70077)] [(70077,⟨1,3,Nl l22⟩)])) (λu l23=>aG Γ (.exit 6) (O1 WA V6 u [] [(oF (Wx v16) l23.length),(dM 77 l23.length l23 70077)] [(70077,⟨1,3,Nl l23⟩)])) (λ⟨i21,l22⟩ y h=>Ae q [0,2,4,7,8,9,86] V6 (gC h (λh=>tB h λx31 y31 h=>gJ y31 (λl24=>aG Γ .normal (⟨(sk v16 i18 i21),[(P0 72 PO),(oF (Wx v16) l24.length),(dM 77 l24.length l24 70077)],[(70077,⟨1,3,Nl l24⟩)]⟩:St)) (λy h=>tC h λc25_ h=>tB h λx26 y26 h=>tT q [0,2,4,7,8,9,94] V6 [(Z8 x26)] (c2 c25_ (N2 y26)) (gC h (λh=>Qi (⟨[(0,(Wx v16)),V8,(4,(sj v16)),(7,(.ptr 7 0)),(8,(Az i18)),(9,(Az i21)),(94,(.bool x26))],[(P0 72 PO),(oF (Wx v16) l22.length),(dM 77 l22.length l22 70077)],[(70077,⟨1,3,Nl l22⟩)]⟩:St) (tC h λc27_ h=>tC h λc28_ h=>tC h λc29_ h=>tC h λc30_ h=>M6 (Le.trans (kM (r:=77) (b:=70077) (k:=60077) Ax (0:Int) l22 i18.toNat 3 rfl rfl rfl rfl (Qq c27_) (by kernel_rfl) (.row (by kernel_rfl) (.row (by kernel_rfl) (.here .nil)))) (Ic (st':=⟨[(0,(Wx v16)),V8,(4,(sj v16)),(7,(.ptr 7 0)),(8,(Az i18)),(9,(Az i21)),(94,(.bool x26))],[(P0 72 PO),(oF (Wx v16) l22.length),(77,.arr 1 22 l22.length (Oy 1 Ax (0:Int) l22 (Hv 70077 i18.toNat 60077))),(60077,.tok 1 3 ((l22.getD i18.toNat []).length))],[(70077,⟨1,3,CR l22 i18.toNat⟩)]⟩) (by kernel_rfl))) (gR q VS rf [(102,(AV.list 1 Ax 0 (l22.getD i18.toNat []) (.own 60077))),(104,(tO i21)),(105,(WU (bT l22 i18 i21) 60077))] [] (d9_ c28_ (Eq.refl l22.length) (show(AVle (((Oy 1 Ax (0:Int) l22 (Hv 70077 i18.toNat 60077)) i18.toNat).getD 0 .any) (AV.list 1 Ax 0 (l22.getD i18.toNat []) (.own 60077))) from YU) (B9 1 Ax (0:Int) ([i21]:Am)) (Eq.refl ((l22.getD i18.toNat []).length)) c29_ (Kh 1 60077 Ax (0:Int) (l22.getD i18.toNat []) ([i21]:Am)) (Ft (l22.getD i18.toNat []) ([i21]:Am)) c30_ (c1 (Eq.refl l22.length))) (Qi (⟨(sk v16 i18 i21),[(P0 72 PO),(oF (Wx v16) l22.length),(77,.arr 1 22 l22.length (λi_=>AV.eraseAll (λn_=>B3 n_ rf) ((E0 (Oy 1 Ax (0:Int) l22 (Hv 70077 i18.toNat 60077)) i18.toNat 0 [(WU (bT l22 i18 i21) 60077)]) i_))),(60077,.tok 1 3 ((bT l22 i18 i21).length))],[(70077,⟨1,3,CR l22 i18.toNat⟩)]⟩:St) (tS h (gK (Bd (Le.trans (Le.trans (Le.trans (pW (r:=77) (b:=70077) (k:=60077) Ax (0:Int) l22 i18.toNat (bT l22 i18 i21) 3 rfl (fL (Qq c27_) rfl rfl) rfl rfl rfl rfl (Qq c27_) (by kernel_rfl) (.row (by kernel_rfl) (.row (by kernel_rfl) (.here (.tok .nil)))) (by rw[hΓ];rfl)) (Ic (st':=⟨(sk v16 i18 i21),[(P0 72 PO),(oF (Wx v16) l22.length),(77,.arr 1 22 l22.length (Oy 1 Ax (0:Int) (l22.set i18.toNat (bT l22 i18 i21)) (Tag.fam 70077)))],[(70077,⟨1,3,Nl (l22.set i18.toNat (bT l22 i18 i21))⟩)]⟩) (by kernel_rfl))) (Ic (Bx (λk_:Nat=>(⟨(sk v16 i18 i21),[(P0 72 PO),(oF (Wx v16) k_),(77,.arr 1 22 k_ (Oy 1 Ax (0:Int) (l22.set i18.toNat (bT l22 i18 i21)) (Tag.fam 70077)))],[(70077,⟨1,3,Nl (l22.set i18.toNat (bT l22 i18 i21))⟩)]⟩:St)) (show l22.length=(l22.set i18.toNat (bT l22 i18 i21)).length from(Cl ..).symm)))) Jj)))))))) λh=>tS h (gK (Bd (Bk VS V6 q))))) (gA (Ae q VS V6 (tN h)))) λh=>tS h (gO (Bd (Bk WA V6 q))))) λx33 h=>gA (Ae q WA V6 (tN h)))) λh=>tS h (gO (Bd (Bk [2,7] V6 q))))) λx35 h=>gA (Ae q Cn [2,77,70077] (Qi (⟨[V8,(3,Pz)],[(2,.row 72 [(Wx v16),(.vsl 77 x35.length)]),(dM 77 x35.length x35 70077)],[(70077,⟨1,3,Nl x35⟩)]⟩:St) (tS h (gK (e:=.ret) (Hu [] (Le.trans (F0 (nm:=77) (sz:=1) (n:=x35.length) (e:=22) (f:=(Oy 1 Ax (0:Int) x35 (Tag.fam 70077))) (g:=(λi=>Lg (x35.getD i []))) rfl ⟨rfl,trivial⟩ (λ_ _=>rfl) (by rw[hΓ];rfl)) (Bk (st':=⟨[V8,(3,Pz)],[(2,.row 72 [(Wx v16),(ry x35 77)]),(77,.tok 1 22 x35.length)],[]⟩) Cn [2,77] q))))))))))) | .inr r37,h=>Pu (λst' hk=>tS h (gK hk))))))
def Fh(a1:TFunc)(i2:Int):Int->Option yX:=
 λ(i6:Int)=>(bif (decide (i6<(((a1.Blocks.getD i2.toNat default).End.To).length:Int))) then(Aw (A0 i6 ((a1.Blocks.getD i2.toNat default).End.To).length) (Aw (((decide ((((a1.Blocks.getD i2.toNat default).End.To).getD i6.toNat 0)<=0))==false)=true->(A0 i6 ((a1.Blocks.getD i2.toNat default).End.To).length)) (bif (bif (decide ((((a1.Blocks.getD i2.toNat default).End.To).getD i6.toNat 0)<=0)) then true else(decide ((a1.Blocks.length:Int)<=(((a1.Blocks.getD i2.toNat default).End.To).getD i6.toNat 0)))) then(some (.done (.inr ((⟨([]:Ey),([]:Ey)⟩:TGraph),(5:Int))))) else(some (.next (w64 (i6+1))))))) else(some (.done (.inl ()))))
def Hn(a1:TFunc)(i2:Int):MQ->Option (LR (Am×Int) Am):=
 λ((l11,i12):MQ)=>(bif (decide (i12<(a1.Blocks.length:Int))) then(Option.bind (α:=Am) ((G9 ((a1.Blocks.getD i2.toNat default).End.To) i12).bind λx15=>(bif x15 then(Aw (l11.length+([i12]:Am).length<=room) (some (l11++([i12]:Am)))) else(some l11))) (λx17=>(some (.next (x17,(w64 (i12+1))))))) else(some (.done l11)))
def Cj(a1:TFunc):(Ey×Int)->Option (LR (Ey×Int) (Ey ⊕ (TGraph×Int))):=
 λ((l1,i2):(Ey×Int))=>(bif (decide (i2<(a1.Blocks.length:Int))) then(Aw (A0 i2 a1.Blocks.length) (Aw (((bif (decide (((a1.Blocks.getD i2.toNat default).End.Kind:Int)<0)) then true else(decide ((3:Int)<(a1.Blocks.getD i2.toNat default).End.Kind)))==false)=true->(A0 (a1.Blocks.getD i2.toNat default).End.Kind ([(0:Int),(1:Int),(2:Int),(0:Int)]:Am).length)) (bif (bif (bif (decide (((a1.Blocks.getD i2.toNat default).End.Kind:Int)<0)) then true else(decide ((3:Int)<(a1.Blocks.getD i2.toNat default).End.Kind))) then true else((((a1.Blocks.getD i2.toNat default).End.To).length:Int)!=(([(0:Int),(1:Int),(2:Int),(0:Int)]:Am).getD ((a1.Blocks.getD i2.toNat default).End.Kind).toNat (0:Int)))) then(some (.done (.inr ((⟨([]:Ey),([]:Ey)⟩:TGraph),(5:Int))))) else((Ad (Fh a1 i2) (0:Int)).bind (λx9=>(match x9 with|(.inl _)=>((Ad (Hn a1 i2) (([]:Am),(1:Int))).bind (λx19=>(Aw (l1.length+([x19]:Ey).length<=room) (some (.next ((l1++([x19]:Ey)),(w64 (i2+1))))))))|(.inr r22)=>(some (.done (.inr r22))))))))) else(some (.done (.inl l1))))
def Um(Γ:Il)(a1:TFunc)(r:nM):Exit->St->Prop:=fK Tryz.prog Γ Tryz.f22.results.toList [] (.tuple (rx r.1 r.2)) []
def gM:AV:=dN
def IK(a1:TFunc)(i2:Int):=(a1.Blocks.getD i2.toNat default)
def HF:AV:=yh
def ww:AV:=(.agg [gM,gM])
def lK:=(⟨[V8,(3,nG)],[(PT HF)],[]⟩:St)
def wu(a1:TFunc)(i2:Int)(i6:Int):=(decide ((((IK a1 i2).End.To).getD i6.toNat 0)<=0))
def nf(a1:TFunc):List AV:=[(Rs a1.Params),(Az a1.Ret),(bX a1.Blocks)]
def wv:=(⟨[V8,(3,nG)],[(2,.row 72 [tH,tH])],[]⟩:St)
def nd(a1:TFunc)(i2:Int):=(bif (decide (((IK a1 i2).End.Kind:Int)<0)) then true else(decide ((3:Int)<(IK a1 i2).End.Kind)))
def zF(a1:TFunc):=(⟨[FZ,V8,(4,(Ve a1.Blocks.length)),(5,(AV.list 1 Lg [] ([]:Ey) (.own 5005))),(6,Pz)],[(1,.row 25 (nf a1)),(PT gM),(5005,.tok 1 22 (([]:Ey).length))],[]⟩:St)
def zE(a1:TFunc)(l1:Ey)(i2:Int):=(⟨[FZ,V8,(4,(Ve a1.Blocks.length)),(5,(ry l1 5005)),(6,(Az i2)),(7,(.ptr 7 0)),(8,(AV.list 1 Ax 0 ([]:Am) (.own 5008))),(10,RW)],[(1,.row 25 (nf a1)),(PT gM),(7,.row 54 [(.int .i64 (IK a1 i2).End.Kind),(.int .i64 (IK a1 i2).End.Arg),(AV.list 1 Ax 0 (IK a1 i2).End.To .none)]),(5005,.tok 1 22 l1.length),(5008,.tok 1 3 (([]:Am).length))],[]⟩:St)
def Jt(a1:TFunc):Option nM:=
 (bif (bif ((a1.Blocks.length:Int)==0) then true else(decide ((64:Int)<(a1.Blocks.length:Int)))) then(some ((⟨([]:Ey),([]:Ey)⟩:TGraph),(5:Int))) else((Ad (Cj a1) (([]:Ey),(0:Int))).bind (λx23=>(match x23 with|(.inl l3)=>((Ig l3).bind λx25=>(some (x25.1,x25.2)))|(.inr r26)=>(some r26)))))
theorem Tv(h:Jt v3=some v18):sP 22 [(XF v3)] [] (.tuple (rx v18.1 v18.2)) []:=
 sG Tryz.func22 λΓ q=>tW q Pe Pe [1,2,4] Pe (tU q [1,2,4,19] Pe (c2 (gI (((v3.Blocks.length:Int)==0)==false)) (Kl ((v3.Blocks.length:Int)==0))) (gC h (λh=>gR q Cn [2] [(20,(.agg [HF,HF]))] [] (c1 (show(AVle ww (.agg [HF,HF])) from(AVle.agg (.cons He (.cons He .nil))))) (Qi lK (tS h (gK (e:=.ret) (Hu [] (show Le Γ _ wv from Le.trans (Bk (st':=lK) Cn [2] q) (Ka (.cons (AVle.refl _) (.cons (AVle.refl _) .nil)) (.row (.cons AVle.untag (.cons AVle.untag .nil)) .nil)))))))) λh=>gR q [1,2,4,5] Pe [(5,HF)] [] (c1 (Bi 1 Lg [])) (Ae q NH Pe (M6 (st':=(zF v3)) (Le.trans (Bk (st':=⟨[FZ,V8,(4,(Ve v3.Blocks.length)),(5,HF),(6,Pz)],[(1,.row 25 (nf v3)),(PT gM)],[]⟩) NH Pe q) (Le.trans (Np (t:=5) (nm:=5005) (sz':=1) (λi=>Lg (([]:Ey).getD i [])) 22 rfl rfl (.inl ⟨rfl,rfl⟩) (λh_=>absurd h_ (by decide))) (Bk (st':=(zF v3)) NH WI q))) (tL q h NH WI (λu (l1,i2)=>(Cs u [(5,(ry l1 5005)),(6,(Az i2))] [(5005,.tok 1 22 l1.length)])) (λu x_=>match x_ with|(.inl l3)=>aG Γ (.exit 0) (O1 Wr [2,5005] u [(5,(ry l3 5005))] [(5005,.tok 1 22 l3.length)])|(.inr r_)=>aR (Um Γ v3 r_)) (λ⟨l1,i2⟩ y h=>Ae q [1,2,4,5,6,23] WI (gC h (λh=>tV q [1,2,4,5,6,7] Zx h λh=>tC h λc5_ h=>gR q [1,2,4,5,6,7,50] Zx [(44,(AV.list 1 Ax 0 ([(0:Int),(1:Int),(2:Int),(0:Int)]:Am) .exact))] [] (Mn ((decide (((IK v3 i2).End.Kind:Int)<0))==false) (ci (Kl (decide (((IK v3 i2).End.Kind:Int)<0))) (Mn ((nd v3 i2)==false) (ci (show(((nd v3 i2)==false)=true->(AVle (.slice 1 4 (λi=>([[Pz],[RW],[RS],[Pz]]:List (List AV)).getD i []) .exact) (AV.list 1 Ax 0 ([(0:Int),(1:Int),(2:Int),(0:Int)]:Am) .exact))) from(λhg=>@(B9 1 Ax (0:Int) ([(0:Int),(1:Int),(2:Int),(0:Int)]:Am)))) (Xu ((nd v3 i2)==false) (ci c5_ (Xu ((nd v3 i2)==false) (c1 (Kl (nd v3 i2)))))))))) (gC h (λh=>gR q Cn [2] [(51,(.agg [HF,HF]))] [] (c1 (show(AVle ww (.agg [HF,HF])) from(AVle.agg (.cons He (.cons He .nil))))) (Qi lK (tS h (gO (Lc (Hu [] (show Le Γ _ wv from Le.trans (Bk (st':=lK) Cn [2] q) (Ka (.cons (AVle.refl _) (.cons (AVle.refl _) .nil)) (.row (.cons AVle.untag (.cons AVle.untag .nil)) .nil))))))))) λh=>gR q jT Zx [(8,oE)] [] (c1 (Bi 1 Ax (0:Int))) (Ae q jQ Zx (tL q h jQ Zx (λu i6=>(Cs u [(9,(Az i6))] [])) (λu x_=>match x_ with|(.inl _)=>aG Γ (.exit 2) (O1 jT Zx u [] [])|(.inr r_)=>aR (Um Γ v3 r_)) (λi6 y h=>Ae q [1,2,4,5,6,7,8,9,56] Zx (gC h (λh=>tC h λc7_ h=>tC h λc8_ h=>tU q [1,2,4,5,6,7,8,9,73] Zx (ci c7_ (Xu ((wu v3 i2 i6)==false) (ci c8_ (Xu ((wu v3 i2 i6)==false) (c1 (Kl (wu v3 i2 i6))))))) (gC h (λh=>gR q Cn [2] [(74,(.agg [HF,HF]))] [] (c1 (show(AVle ww (.agg [HF,HF])) from(AVle.agg (.cons He (.cons He .nil))))) (Qi lK (tS h (gO (Lc (Hu [] (show Le Γ _ wv from Le.trans (Bk (st':=lK) Cn [2] q) (Ka (.cons (AVle.refl _) (.cons (AVle.refl _) .nil)) (.row (.cons AVle.untag (.cons AVle.untag .nil)) .nil))))))))) λh=>Ae q jQ Zx (tN h))) λh=>tS h (gO (Bd (Bk jT Zx q))))) λx9 h=>(match x9,h with | .inl _,h=>gA (Ae q WO Zx (M6 (st':=(zE v3 l1 i2)) (Le.trans (Bk (st':=⟨[FZ,V8,(4,(Ve v3.Blocks.length)),(5,(ry l1 5005)),(6,(Az i2)),(7,(.ptr 7 0)),(8,oE),(10,RW)],[(1,.row 25 (nf v3)),(PT gM),(7,.row 54 [(.int .i64 (IK v3 i2).End.Kind),(.int .i64 (IK v3 i2).End.Arg),(AV.list 1 Ax 0 (IK v3 i2).End.To .none)]),(5005,.tok 1 22 l1.length)],[]⟩) WO Zx q) (Le.trans (Np (t:=8) (nm:=5008) (sz':=1) (λi=>Ax (([]:Am).getD i 0)) 3 rfl rfl (.inl ⟨rfl,rfl⟩) (λh_=>absurd h_ (by decide))) (Bk (st':=(zE v3 l1 i2)) WO WP q))) (tL q h WO WP (λu (l11,i12)=>(Cs u [(8,(WU l11 5008)),(Ds 10 i12)] [(5008,.tok 1 3 l11.length)])) (λu l13=>aG Γ (.exit 4) (O1 [1,2,4,5,6,8] [1,2,5005,5008] u [(8,(WU l13 5008))] [(5008,.tok 1 3 l13.length)])) (λ⟨l11,i12⟩ y h=>Ae q [1,2,4,5,6,7,8,10,77] WP (gC h (λh=>tB h λx17 y17 h=>gJ y17 (λl14=>aG Γ .normal (⟨[FZ,V8,(4,(Ve v3.Blocks.length)),(5,(ry l1 5005)),(6,(Az i2)),(7,(.ptr 7 0)),(8,(WU l14 5008)),(Ds 10 i12)],[(1,.row 25 (nf v3)),(PT gM),(7,.row 54 [(.int .i64 (IK v3 i2).End.Kind),(.int .i64 (IK v3 i2).End.Arg),(AV.list 1 Ax 0 (IK v3 i2).End.To .none)]),(5005,.tok 1 22 l1.length),(5008,.tok 1 3 l14.length)],[]⟩:St)) (λy h=>tB h λx15 y15 h=>tT q [1,2,4,5,6,7,8,10,83] WP [(Z8 x15)] (c1 (N2 y15)) (gC h (λh=>tC h λc16_ h=>gR q WO WP [(86,(tO i12)),(87,(AV.list 1 Ax 0 (l11++([i12]:Am)) (.own 5008)))] [] (c5 (B9 1 Ax (0:Int) ([i12]:Am)) (Eq.refl l11.length) c16_ (Kh 1 5008 Ax (0:Int) l11 ([i12]:Am)) (Ft l11 ([i12]:Am))) (tS h (gK (Bd Jj)))) λh=>tS h (gK (Bd (Bk WO WP q))))) (gA (Ae q WO WP (tN h)))) λh=>tS h (gO (Bd (Bk [1,2,4,5,6,8] [1,2,5005,5008] q))))) λx19 h=>gA (tC h λc21_ h=>gR q NH WI [(90,(AV.list 1 Lg [] ([x19]:Ey) .exact)),(91,(AV.list 1 Lg [] (l1++([x19]:Ey)) (.own 5005)))] [] (c5 (B9 1 Lg [] ([x19]:Ey)) (Eq.refl l1.length) c21_ (Kh 1 5005 Lg [] l1 ([x19]:Ey)) (Ft l1 ([x19]:Ey))) (Ae q NH WI (tN h)))))) | .inr r22,h=>Pu (λst' hk=>tS h (gO (Lc hk)))))))) λh=>tS h (gO (Bd (Bk Wr [2,5005] q))))) λx23 h=>(match x23,h with | .inl l3,h=>gA (tB h λx25 y25 h=>tT q Cn [2] [(n7 x25.1 x25.2)] (c1 (Rz y25)) (tS h (Be []))) | .inr r26,h=>Pu (λst' hk=>tS h (gK hk))))))))
def A5(a9:TGraph)(aS:Int)(i6:Int):YJ->Option q9:=
 λ((i9,l10):YJ)=>(Aw (A0 i6 l10.length) (Aw (((l10.getD i6.toNat false)==true)=true->(A0 i6 a9.Succ.length)) (bif (bif (l10.getD i6.toNat false) then(decide (i9<((a9.Succ.getD i6.toNat []).length:Int))) else false) then(Option.bind (α:=List Bool) (Aw (A0 i6 a9.Succ.length) (Aw (A0 i9 (a9.Succ.getD i6.toNat []).length) (bif (((a9.Succ.getD i6.toNat []).getD i9.toNat 0)!=aS) then(Aw (A0 i6 a9.Succ.length) (Aw (A0 i9 (a9.Succ.getD i6.toNat []).length) (Aw (A0 ((a9.Succ.getD i6.toNat []).getD i9.toNat 0) l10.length) (some (l10.set ((a9.Succ.getD i6.toNat []).getD i9.toNat 0).toNat true))))) else(some l10)))) (λx20=>(some (.next ((w64 (i9+1)),x20))))) else(some (.done l10)))))
def A6(a9:TGraph)(aS:Int):YJ->Option q9:=
 λ((i6,l7):YJ)=>(bif (decide (i6<(l7.length:Int))) then((Ad (A5 a9 aS i6) ((0:Int),l7)).bind (λx22=>(some (.next ((w64 (i6+1)),x22))))) else(some (.done l7)))
def A7(a9:TGraph)(aS:Int):YJ->Option q9:=
 λ((i3,l4):YJ)=>(bif (decide (i3<(l4.length:Int))) then((Ad (A6 a9 aS) ((0:Int),l4)).bind (λx24=>(some (.next ((w64 (i3+1)),x24))))) else(some (.done l4)))
def zG(l10:List Bool)(i6:Int):=((l10.getD i6.toNat false)==true)
def KQ(a9:TGraph):=(List.replicate (a9.Succ.length:Int).toNat false)
def lL(a9:TGraph):=(λi=>eB ((KQ a9).getD i false))
def sn(a9:TGraph)(i6:Int)(i9:Int):=((a9.Succ.getD i6.toNat []).getD i9.toNat 0)
def C3(a9:TGraph)(a7:Int)(aS:Int):Option (List Bool):=
 (Aw (0<=(a9.Succ.length:Int)/\(a9.Succ.length:Int)<=(a9.Succ.length:Int)/\(a9.Succ.length:Int)<=(room:Int)) (bif (a7==aS) then(some (List.replicate (a9.Succ.length:Int).toNat false)) else(Aw (A0 a7 (List.replicate (a9.Succ.length:Int).toNat false).length) ((Ad (A7 a9 aS) ((0:Int),((List.replicate (a9.Succ.length:Int).toNat false).set a7.toNat true))).bind (λx26=>(some x26))))))
variable{v19:TGraph}{v50:List Bool}
theorem Ml(h:C3 v19 v4 v13=some v50):sP 36 [(.agg (X4 v19)),(Az v4),(Az v13)] [] (XE v50 20000) [(Sp 20000 v50.length)]:=
 sG Tryz.func36 λΓ q=>have hΓ:=q.own;gR q Y7 [3] [(6,(AV.list 1 eB false ([]:List Bool) .exact))] [] (c1 (Bi 1 eB false)) (tV q [1,2,3,7] K5 h λh=>by exact M6 (Le.trans (Ss 14 (show ∀ k_,k_<((v19.Succ.length:Int).toNat)->AVleL ((λi_=>AV.eraseAll (λn_=>B3 n_ K5) ((λ_=>[(.bool false)]) i_)) k_) ((lL v19) k_) from(λk hk=>Mh (e:=eB) (d:=false) (.cons (AVle.refl _) .nil) _ k (Mm hk)))) (Su (λ(k_:Nat) u=>(Cs u [(Ud 14 k_)] [(14,.arr 1 4 k_ (lL v19))])) (show(v19.Succ.length:Int).toNat=(KQ v19).length from(K3 ..).symm))) (Ae q [1,2,3,7,17] K5 (gC h (λh=>Ae q [6] [14] (Qi (⟨[(6,(.vsl 14 (KQ v19).length))],[(14,.arr 1 4 ((KQ v19).length) (lL v19))],[]⟩:St) (tS h (gK (e:=.ret) (Hu [(14,20000)] (Le.trans (F0 (nm:=14) (sz:=1) (n:=((KQ v19).length)) (e:=4) (f:=(lL v19)) (g:=(lL v19)) rfl ⟨rfl,trivial⟩ (λ_ _=>rfl) (by rw[hΓ];rfl)) (Ic (st':=⟨[(6,(XE (KQ v19) 14))],[(14,.tok 1 4 ((KQ v19).length))],[]⟩) (by kernel_rfl)))))))) λh=>tC h λc2_ h=>tU q [2,3,7] K5 (c2 c2_ (Eq.refl ((KQ v19).length))) (M6 (Le.trans (Ss 14 (show ∀ k_,k_<((KQ v19).length)->AVleL ((λi_=>AV.eraseAll (λn_=>B3 n_ K5) ((E0 (lL v19) v4.toNat 0 [(.bool true)]) i_)) k_) ((λi=>eB (((KQ v19).set v4.toNat true).getD i false)) k_) from(Bc (Cl ..).symm (λk_ hk_=>(Bx (AV.eraseAll (λn_=>B3 n_ K5)) ((Fs (λ_ _=>rfl) (Gr c2_) rfl) k_ hk_)).trans rfl)))) (Su (λ(k_:Nat) u=>(Cs u [(Ud 14 k_)] [(14,.arr 1 4 k_ (λi=>eB (((KQ v19).set v4.toNat true).getD i false)))])) (show(KQ v19).length=((KQ v19).set v4.toNat true).length from(Cl ..).symm))) (Ae q WJ K5 (tL q h WJ K5 (λu (i3,l4)=>(Cs u [(Ud 14 l4.length),(8,(Az i3))] [(lf 14 l4)])) (λu l5=>aG Γ (.exit 0) (⟨[(Ud 14 l5.length)],[(lf 14 l5)],[]⟩:St)) (λ⟨i3,l4⟩ y h=>Ae q [2,3,7,8,25] K5 (gC h (λh=>Ae q WB K5 (tL q h WB K5 (λu (i6,l7)=>(Cs u [(Ud 14 l7.length),(9,(Az i6))] [(lf 14 l7)])) (λu l8=>aG Γ (.exit 2) (O1 WJ K5 u [(Ud 14 l8.length)] [(lf 14 l8)])) (λ⟨i6,l7⟩ y h=>Ae q [2,3,7,8,9,31] K5 (gC h (λh=>Ae q VQ K5 (tL q h VQ K5 (λu (i9,l10)=>(Cs u [(Ud 14 l10.length),(Ds 10 i9)] [(lf 14 l10)])) (λu l11=>aG Γ (.exit 4) (O1 WB K5 u [(Ud 14 l11.length)] [(lf 14 l11)])) (λ⟨i9,l10⟩ y h=>tC h λc12_ h=>tC h λc13_ h=>tU q [2,3,7,8,9,10,47] K5 (KO c12_ (Eq.refl l10.length) (Xu (zG l10 i6) (ci c13_ (f5 (zG l10 i6) (c1 (Nn (l10.getD i6.toNat false))))))) (gC h (λh=>tB h λx20 y20 h=>gJ y20 (λl14=>aG Γ .normal (⟨[(2,(Az v13)),(3,(.ptr 3 0)),(Ud 14 l14.length),(8,(Az i3)),(9,(Az i6)),(Ds 10 i9)],[(3,.row 72 [(WT v19.Succ),(WT v19.Pred)]),(lf 14 l14)],[]⟩:St)) (λy h=>tC h λc15_ h=>tC h λc16_ h=>tU q [2,3,7,8,9,10,59] K5 (c2 c15_ c16_) (gC h (λh=>tC h λc17_ h=>tC h λc18_ h=>tC h λc19_ h=>tU q VQ K5 (c4 c17_ c18_ c19_ (Eq.refl l10.length)) (tS h (gK (Bd (Le.trans (Le.trans (Ss 14 (show ∀ k_,k_<l10.length->AVleL ((λi_=>AV.eraseAll (λn_=>B3 n_ K5) ((E0 (λi=>eB (l10.getD i false)) (sn v19 i6 i9).toNat 0 [(.bool true)]) i_)) k_) ((λi=>eB ((l10.set (sn v19 i6 i9).toNat true).getD i false)) k_) from(Bc (Cl ..).symm (λk_ hk_=>(Bx (AV.eraseAll (λn_=>B3 n_ K5)) ((Fs (λ_ _=>rfl) (Gr c19_) rfl) k_ hk_)).trans rfl)))) (Su (λ(k_:Nat) u=>(Cs u [(Ud 14 k_)] [(14,.arr 1 4 k_ (λi=>eB ((l10.set (sn v19 i6 i9).toNat true).getD i false)))])) (show l10.length=(l10.set (sn v19 i6 i9).toNat true).length from(Cl ..).symm))) Jj))))) λh=>tS h (gK (Bd (Bk VQ K5 q))))) (gA (Ae q VQ K5 (tN h)))) λh=>tS h (gO (Bd (Bk WB K5 q))))) λx22 h=>gA (Ae q WB K5 (tN h)))) λh=>tS h (gO (Bd (Bk WJ K5 q))))) λx24 h=>gA (Ae q WJ K5 (tN h)))) λh=>tS h (gO (Bd (Bk [7] [14] q))))) λx26 h=>gA (Ae q [6] [14] (Qi (⟨[(6,(.vsl 14 x26.length))],[(lf 14 x26)],[]⟩:St) (tS h (gK (e:=.ret) (Hu [(14,20000)] (Le.trans (F0 (nm:=14) (sz:=1) (n:=x26.length) (e:=4) (f:=(λi=>eB (x26.getD i false))) (g:=(λi=>eB (x26.getD i false))) rfl ⟨rfl,trivial⟩ (λ_ _=>rfl) (by rw[hΓ];rfl)) (Ic (st':=⟨[(6,(XE x26 14))],[(Sp 14 x26.length)],[]⟩) (by kernel_rfl))))))))))))))
def F8(aC:Am)(aD:Am):Int->Option (LR Int (Unit ⊕ Bool)):=
 λ(i1:Int)=>(bif (decide (i1<(aC.length:Int))) then(Aw (A0 i1 aC.length) (Aw (A0 i1 aD.length) (bif ((aC.getD i1.toNat 0)!=(aD.getD i1.toNat 0)) then(some (.done (.inr false))) else(some (.next (w64 (i1+1))))))) else(some (.done (.inl ()))))
def BU(Γ:Il)(aC:Am)(aD:Am)(r:Bool):Exit->St->Prop:=fK Tryz.prog Γ Tryz.f37.results.toList [] (.bool r) []
def En(aC:Am)(aD:Am):Option Bool:=
 (bif ((aC.length:Int)!=(aD.length:Int)) then(some false) else((Ad (F8 aC aD) (0:Int)).bind (λx4=>(match x4 with|(.inl _)=>(some true)|(.inr r6)=>(some r6)))))
theorem M7(h:En v0 v1=some v5):sP 37 [(Rs v0),(Rs v1)] [] (.bool v5) []:=
 sG Tryz.func37 λΓ q=>tW q Ew [] EQ [] (gC h (λh=>Ae q [4] [] (tS h (Be []))) λh=>Ae q L5 [] (tL q h L5 [] (λu i1=>(Cs u [(5,(Az i1))] [])) (λu x_=>match x_ with|(.inl _)=>aG Γ (.exit 0) (⟨[],[],[]⟩:St)|(.inr r_)=>aR (BU Γ v0 v1 r_)) (λi1 y h=>Ae q [0,1,5,14] [] (gC h (λh=>tC h λc2_ h=>tC h λc3_ h=>tU q [0,1,5,25] [] (c2 c2_ c3_) (gC h (λh=>Ae q [4] [] (tS h (gO (Lc (Hu [] (Le.refl _ _)))))) λh=>Ae q L5 [] (tN h))) λh=>tS h (gO (Bd (Bk [] [] q))))) λx4 h=>(match x4,h with | .inl _,h=>gA (Ae q [4] [] (tS h (Be []))) | .inr r6,h=>Pu (λst' hk=>tS h (gK hk)))))
def Fm(a1:TFunc)(x1:nM)(i3:Int):Int->Option (LR Int (Unit ⊕ Bool)):=
 λ(i6:Int)=>(bif (decide (i6<(((a1.Blocks.getD i3.toNat default).Phis).length:Int))) then(Aw (A0 i6 ((a1.Blocks.getD i3.toNat default).Phis).length) (Aw (A0 i3 x1.1.Pred.length) ((En ((((a1.Blocks.getD i3.toNat default).Phis).getD i6.toNat default).From) (x1.1.Pred.getD i3.toNat [])).bind λx9=>(Aw (((!x9)==false)=true->(A0 i6 ((a1.Blocks.getD i3.toNat default).Phis).length)) (Aw (((!x9)==false)=true->(A0 i3 x1.1.Pred.length)) (bif (bif (!x9) then true else((((((a1.Blocks.getD i3.toNat default).Phis).getD i6.toNat default).Args).length:Int)!=((x1.1.Pred.getD i3.toNat []).length:Int))) then(some (.done (.inr false))) else(some (.next (w64 (i6+1)))))))))) else(some (.done (.inl ()))))
def Fn(a1:TFunc)(x1:nM)(x2:List Bool):Int->Option (LR Int (Unit ⊕ Bool)):=
 λ(i3:Int)=>(bif (decide (i3<(a1.Blocks.length:Int))) then(Aw (A0 i3 a1.Blocks.length) (Aw (A0 i3 x2.length) (bif (bif (!(x2.getD i3.toNat false)) then true else(bif (bif (((a1.Blocks.getD i3.toNat default).End.Kind:Int)==1) then true else(((a1.Blocks.getD i3.toNat default).End.Kind:Int)==3)) then(((a1.Blocks.getD i3.toNat default).End.Arg:Int)!=0) else false)) then(some (.done (.inr false))) else((Ad (Fm a1 x1 i3) (0:Int)).bind (λx12=>(match x12 with|(.inl _)=>(some (.next (w64 (i3+1))))|(.inr r14)=>(some (.done (.inr r14))))))))) else(some (.done (.inl ()))))
def Rr(Γ:Il)(a1:TFunc)(r:Bool):Exit->St->Prop:=fK Tryz.prog Γ Tryz.f16.results.toList [] (.bool r) []
def bU(x2:List Bool)(i3:Int):=((!(x2.getD i3.toNat false))==false)
def gP(a1:TFunc)(i3:Int):=((a1.Blocks.getD i3.toNat default).End.Kind:Int)
def zH(x2:List Bool)(i3:Int)(a1:TFunc):=((bU x2 i3)&&((bif ((gP a1 i3)==1) then true else((gP a1 i3)==3))==true))
def J7(a1:TFunc):Option Bool:=
 ((Jt a1).bind λx1=>(bif (x1.2 !=0) then(some false) else((C3 x1.1 (0:Int) (-1:Int)).bind λx2=>((Ad (Fn a1 x1 x2) (0:Int)).bind (λx15=>(match x15 with|(.inl _)=>(some true)|(.inr r17)=>(some r17)))))))
theorem Yx(h:J7 v3=some v5):sP 16 [(XF v3)] [] (.bool v5) []:=
 sG Tryz.func16 λΓ q=>Ae q [1] [1] (tB h λx1 y1 h=>tT q Fe M1 [(n7 x1.1 x1.2)] (c1 (Tv y1)) (Ae q [1,3,15] M1 (gC h (λh=>Ae q [2] [] (tS h (Be []))) λh=>tB h λx2 y2 h=>tT q NM IE [⟨[],[(20000,17)],(XE x2 20000),[(Sp 20000 x2.length)],[],[]⟩] (c1 (Ml y2)) (Ae q KN IE (tL q h KN IE (λu i3=>(Cs u [(6,(Az i3))] [])) (λu x_=>match x_ with|(.inl _)=>aG Γ (.exit 0) (⟨[],[],[]⟩:St)|(.inr r_)=>aR (Rr Γ v3 r_)) (λi3 y h=>Ae q [1,3,5,6,22] IE (gC h (λh=>tV q WC IC h λh=>tC h λc5_ h=>tU q [1,3,5,6,7,52] IC (ci c5_ (f5 (bU x2 i3) (Xu ((bU x2 i3)&&(((gP v3 i3)==1)==false)) (dq (gI (bU x2 i3)) (show((bU x2 i3)=true->(((gP v3 i3)==1)=false->((bU x2 i3)&&(((gP v3 i3)==1)==false))=true)) from(λhg=>(aF hg))) (gI (bU x2 i3)) (Xu (zH x2 i3 v3) (c3 (gI (bU x2 i3)) (show((bU x2 i3)=true->((bif ((gP v3 i3)==1) then true else((gP v3 i3)==3))=true->(zH x2 i3 v3)=true)) from(λhg=>(aT hg))) (Kl (!(x2.getD i3.toNat false))))))))) (gC h (λh=>Ae q [2] [] (tS h (gO (Lc (Hu [] (Le.refl _ _)))))) λh=>Ae q jX IC (tL q h jX IC (λu i6=>(Cs u [(8,(Az i6))] [])) (λu x_=>match x_ with|(.inl _)=>aG Γ (.exit 2) (O1 KN IE u [] [])|(.inr r_)=>aR (Rr Γ v3 r_)) (λi6 y h=>Ae q [1,3,5,6,7,8,57] IC (gC h (λh=>tC h λc7_ h=>tC h λc8_ h=>tB h λx9 y9 h=>tC h λc10_ h=>tC h λc11_ h=>tT q [1,3,5,6,7,8,88] IC [(Z8 x9)] (dq c7_ c8_ (M7 y9) (Xu ((!x9)==false) (ci c10_ (gI6 ((!x9)==false) (ci c11_ (f5 ((!x9)==false) (c1 (Kl (!x9))))))))) (gC h (λh=>Ae q [2] [] (tS h (gO (Lc (Hu [] (Le.refl _ _)))))) λh=>Ae q jX IC (tN h))) λh=>tS h (gO (Bd (Bk KN IE q))))) λx12 h=>(match x12,h with | .inl _,h=>gA (Ae q KN IE (tN h)) | .inr r14,h=>Pu (λst' hk=>tS h (gO (Lc hk))))))) λh=>tS h (gO (Bd (Bk [] [] q))))) λx15 h=>(match x15,h with | .inl _,h=>gA (Ae q [2] [] (tS h (Be []))) | .inr r17,h=>Pu (λst' hk=>tS h (gK hk))))))))
def so(aH:Int):=(bif (bif (aH==1) then true else(aH==8)) then true else(aH==16))
def C4(aH:Int):Option Bool:=
 (some (bif (bif (bif (bif (aH==1) then true else(aH==8)) then true else(aH==16)) then true else(aH==32)) then true else(aH==64)))
theorem Er(h:C4 v4=some v5):sP 38 [(Az v4)] [] (.bool v5) []:=
 sG Tryz.func38 λΓ q=>Ae q [0] [] (tU q [2] [] (c8 (gI ((v4==1)==false)) (Kl (v4==1)) (gI ((bif (v4==1) then true else(v4==8))==false)) (Kl (bif (v4==1) then true else(v4==8))) (gI ((so v4)==false)) (Kl (so v4)) (gI ((bif (so v4) then true else(v4==32))==false)) (Kl (bif (so v4) then true else(v4==32)))) (tS h (Be [])))
def ng(aV:Int):=(bif (aV==2) then true else(aV==4))
def wx(aV:Int):=(bif (bif (ng aV) then true else(aV==8)) then true else(aV==16))
def zI(aV:Int)(aH:Int):=(bif (wx aV) then(decide ((1:Int)<aH)) else false)
def J4(aH:Int)(aV:Int):Option Bool:=
 ((C4 aH).bind λx1=>(bif (!x1) then(some false) else(bif (aV==1) then(some true) else(some (bif (bif (bif (bif (bif (aV==2) then true else(aV==4)) then true else(aV==8)) then true else(aV==16)) then(decide ((1:Int)<aH)) else false) then(decide (((w64 (aH*aV)):Int)<=128)) else false)))))
theorem Yr(h:J4 v4 v13=some v5):sP 67 [(Az v4),(Az v13)] [] (.bool v5) []:=
 sG Tryz.func67 λΓ q=>Ae q Ew [] (tB h λx1 y1 h=>tT q [0,1,7] [] [(Z8 x1)] (c1 (Er y1)) (gC h (λh=>Ae q [4] [] (tS h (Be []))) λh=>Ae q [0,1,9] [] (gC h (λh=>Ae q [4] [] (tS h (Be []))) λh=>tU q [4] [] (d8_ (gI ((v13==2)==false)) (Kl (v13==2)) (gI ((ng v13)==false)) (Kl (ng v13)) (gI ((bif (ng v13) then true else(v13==8))==false)) (Kl (bif (ng v13) then true else(v13==8))) (gI ((wx v13)==true)) (Nn (wx v13)) (Xu ((zI v13 v4)==true) (c1 (Nn (zI v13 v4))))) (tS h (Be [])))))
def wy(a0:C5):List Vf:=[(Z85 a0.Kind a0.Bits a0.Lanes a0.Dst a0.Args a0.Imm)]
def Kt(a0:C5):Option Int:=
 (bif (a0.Kind==0) then(some (0:Int)) else(Option.bind (α:=Bool) (bif (a0.Kind==1) then(some (a0.Kind==1)) else(bif (a0.Kind==2) then(some (a0.Kind==2)) else(bif (a0.Kind==3) then(some (a0.Kind==3)) else(bif (a0.Kind==4) then(some (a0.Kind==4)) else(bif (a0.Kind==5) then(some (a0.Kind==5)) else(bif (a0.Kind==6) then(some (a0.Kind==6)) else(bif (a0.Kind==7) then(some (a0.Kind==7)) else(bif (a0.Kind==8) then(some (a0.Kind==8)) else(bif (a0.Kind==9) then(some (a0.Kind==9)) else(bif (a0.Kind==10) then(some (a0.Kind==10)) else(bif (a0.Kind==11) then(some (a0.Kind==11)) else(bif (a0.Kind==12) then(some (a0.Kind==12)) else(some (a0.Kind==17)))))))))))))) (λx2=>(bif x2 then(some (2:Int)) else(Option.bind (α:=Bool) (bif (a0.Kind==13) then(some (a0.Kind==13)) else(bif (a0.Kind==18) then(some (a0.Kind==18)) else(some (a0.Kind==19)))) (λx5=>(bif x5 then(some (3:Int)) else(Option.bind (α:=Bool) (bif (a0.Kind==14) then(some (a0.Kind==14)) else(bif (a0.Kind==15) then(some (a0.Kind==15)) else(bif (a0.Kind==16) then(some (a0.Kind==16)) else(some (a0.Kind==22))))) (λx8=>(bif x8 then(some (1:Int)) else(bif (a0.Kind==20) then(some (4:Int)) else(bif (a0.Kind==21) then(some a0.Lanes) else(some (-1:Int))))))))))))))
theorem BE(h:Kt v8=some v4):sP 68 [(IM v8)] [] (.int .i64 v4) []:=
 sG Tryz.func68 λΓ q=>tW q [1] [1] R4 [1] (Ae q [1,4,5] [1] (gC h (λh=>Ae q [2] [] (tS h (Be []))) λh=>tB h λx2 y2 h=>gJ y2 (λb1=>aG Γ .normal (⟨[FZ,(4,(Az v8.Kind)),(7,(.bool b1))],(wy v8),[]⟩:St)) (λy h=>Ae q Xt [1] (gC h (λh=>tS h (gK (Bd Jj))) λh=>Ae q Xt [1] (gC h (λh=>tS h (gK (Bd Jj))) λh=>Ae q Xt [1] (gC h (λh=>tS h (gK (Bd Jj))) λh=>Ae q Xt [1] (gC h (λh=>tS h (gK (Bd Jj))) λh=>Ae q Xt [1] (gC h (λh=>tS h (gK (Bd Jj))) λh=>Ae q Xt [1] (gC h (λh=>tS h (gK (Bd Jj))) λh=>Ae q Xt [1] (gC h (λh=>tS h (gK (Bd Jj))) λh=>Ae q Xt [1] (gC h (λh=>tS h (gK (Bd Jj))) λh=>Ae q Xt [1] (gC h (λh=>tS h (gK (Bd Jj))) λh=>Ae q Xt [1] (gC h (λh=>tS h (gK (Bd Jj))) λh=>Ae q Xt [1] (gC h (λh=>tS h (gK (Bd Jj))) λh=>Ae q Xt [1] (gC h (λh=>tS h (gK (Bd Jj))) λh=>Ae q Xt [1] (tS h (gK (Bd Jj)))))))))))))))) (gA (gC h (λh=>Ae q [2] [] (tS h (Be []))) λh=>tB h λx5 y5 h=>gJ y5 (λb4=>aG Γ .normal (⟨[FZ,(4,(Az v8.Kind)),(21,(.bool b4))],(wy v8),[]⟩:St)) (λy h=>Ae q [1,4,21] [1] (gC h (λh=>tS h (gK (Bd Jj))) λh=>Ae q [1,4,21] [1] (gC h (λh=>tS h (gK (Bd Jj))) λh=>Ae q [1,4,21] [1] (tS h (gK (Bd Jj)))))) (gA (gC h (λh=>Ae q [2] [] (tS h (Be []))) λh=>tB h λx8 y8 h=>gJ y8 (λb7=>aG Γ .normal (⟨[FZ,(4,(Az v8.Kind)),(25,(.bool b7))],(wy v8),[]⟩:St)) (λy h=>Ae q [1,4,25] [1] (gC h (λh=>tS h (gK (Bd Jj))) λh=>Ae q [1,4,25] [1] (gC h (λh=>tS h (gK (Bd Jj))) λh=>Ae q [1,4,25] [1] (gC h (λh=>tS h (gK (Bd Jj))) λh=>Ae q [1,4,25] [1] (tS h (gK (Bd Jj))))))) (gA (gC h (λh=>Ae q [2] [] (tS h (Be []))) λh=>Ae q [1,4,30] [1] (gC h (λh=>Ae q [2] [] (tS h (Be []))) λh=>Ae q [1,32] [1] (gC h (λh=>Ae q [2] [] (tS h (Be []))) λh=>Ae q [2] [] (tS h (Be []))))))))))))
def Ln(aK:Int)(aH:Int):Option Int:=
 ((C4 aH).bind λx1=>(bif (!x1) then(some (0:Int)) else(bif (aH==64) then(some aK) else(Aw (0<=(E1 aH)) (Aw ((Tq .u64 (1:Int) (E1 aH))≠0) (some (Int.tmod aK (Tq .u64 (1:Int) (E1 aH)))))))))
theorem DI(h:Ln v4 v13=some v21):sP 86 [(Ru v4),(Az v13)] [] (.int .u64 v21) []:=
 sG Tryz.func86 λΓ q=>Ae q Ew [] (tB h λx1 y1 h=>tT q [0,1,7] [] [(Z8 x1)] (c1 (Er y1)) (gC h (λh=>Ae q [4] [] (tS h (Be []))) λh=>Ae q [0,1,9] [] (gC h (λh=>Ae q [4] [] (tS h (Be []))) λh=>tC h λc2_ h=>tC h λc3_ h=>tU q [4] [] (c2 c2_ c3_) (tS h (Be [])))))
def BW(Γ:Il)(a0:C5)(r:Bool):Exit->St->Prop:=fK Tryz.prog Γ Tryz.f69.results.toList [] (.bool r) []
def zJ(a0:C5):=(a0.Kind==15)
def nj(a0:C5):=((a0.Kind==4)==false)
def w4(a0:C5):=(decide (a0.Imm<(E1 a0.Bits)))
def w6(a0:C5):=(bif (a0.Kind==4) then true else(bif (decide ((10:Int)<=a0.Kind)) then(decide (a0.Kind<=12)) else false))
def sq(a0:C5):=(bif (w6 a0) then true else(a0.Kind==14))
def nk(a0:C5):=((bif (sq a0) then true else(zJ a0))==false)
def w5(a0:C5):=(bif (decide ((16:Int)<=a0.Kind)) then(decide (a0.Kind<=19)) else false)
def nh(a0:C5):=(bif (w5 a0) then(decide (a0.Bits<8)) else false)
def zK(a0:C5):=(((nh a0)==false)&&((decide ((21:Int)<=a0.Kind))==true))
def wz(a0:C5):=(bif (decide (((E1 a0.Bits):Int)<a0.Imm)) then(decide (a0.Imm<=64)) else false)
def F9(a0:C5):Option Bool:=
 (Option.bind (α:=(Unit ⊕ Bool)) (bif (bif (bif (bif (bif (a0.Kind==4) then true else(bif (decide ((10:Int)<=a0.Kind)) then(decide (a0.Kind<=12)) else false)) then true else(a0.Kind==14)) then true else(a0.Kind==15)) then true else(bif (decide ((18:Int)<=a0.Kind)) then(decide (a0.Kind<=20)) else false)) then(bif (a0.Lanes !=1) then(some (.inr false)) else(some (.inl ()))) else(some (.inl ()))) (λx1=>(match x1 with|(.inl _)=>(bif (bif (bif (bif (decide ((16:Int)<=a0.Kind)) then(decide (a0.Kind<=19)) else false) then(decide (a0.Bits<8)) else false) then true else(bif (decide ((21:Int)<=a0.Kind)) then(decide (a0.Lanes<2)) else false)) then(some false) else(bif (a0.Kind==0) then((Ln a0.Imm a0.Bits).bind λx3=>(some (x3==a0.Imm))) else(bif (a0.Kind==14) then((bif ((decide (a0.Imm<(E1 a0.Bits)))==true) then C4 (w64 a0.Imm) else some false).bind λx4=>(some (bif (decide (a0.Imm<(E1 a0.Bits))) then x4 else false))) else(bif (a0.Kind==15) then((bif ((bif (decide (((E1 a0.Bits):Int)<a0.Imm)) then(decide (a0.Imm<=64)) else false)==true) then C4 (w64 a0.Imm) else some false).bind λx5=>(some (bif (bif (decide (((E1 a0.Bits):Int)<a0.Imm)) then(decide (a0.Imm<=64)) else false) then x5 else false))) else(bif (a0.Kind==22) then(some (decide (a0.Imm<(E1 a0.Lanes)))) else(some (a0.Imm==0)))))))|(.inr r6)=>(some r6))))
theorem BF(h:F9 v8=some v5):sP 69 [(IM v8)] [] (.bool v5) []:=
 sG Tryz.func69 λΓ q=>tW q [1] [1] M1 [1] (tB h λx1 y1 h=>gJ y1 (λx_=>match x_ with|(.inl _)=>aG Γ .normal (⟨[FZ,(3,(Az v8.Kind))],[(Z85 v8.Kind v8.Bits v8.Lanes v8.Dst v8.Args v8.Imm)],[]⟩:St)|(.inr r_)=>aR (BW Γ v8 r_)) (λy h=>tU q [1,3,31] [1] (Mn (nj v8) (d8_ (gI ((nj v8)&&((decide ((10:Int)<=v8.Kind))==true))) (gI (nj v8)) (show((nj v8)=true->((decide ((10:Int)<=v8.Kind))=true->((nj v8)&&((decide ((10:Int)<=v8.Kind))==true))=true)) from(λhg=>(aT hg))) (Kl (v8.Kind==4)) (gI ((w6 v8)==false)) (Kl (w6 v8)) (gI ((sq v8)==false)) (Kl (sq v8)) (Mn (nk v8) (c4 (gI ((nk v8)&&((decide ((18:Int)<=v8.Kind))==true))) (gI (nk v8)) (show((nk v8)=true->((decide ((18:Int)<=v8.Kind))=true->((nk v8)&&((decide ((18:Int)<=v8.Kind))==true))=true)) from(λhg=>(aT hg))) (Kl (bif (sq v8) then true else(zJ v8))))))) (gC h (λh=>Ae q [1,3,34] [1] (gC h (λh=>Ae q [2] [] (tS h (gK (Lc (Hu [] (Le.refl _ _)))))) λh=>tS h (gK (Bd (Bk M1 [1] q))))) λh=>tS h (gK (Bd (Bk M1 [1] q))))) (match x1,h with | .inl _,h=>gA (tU q [1,3,54] [1] (KO (gI ((decide ((16:Int)<=v8.Kind))==true)) (Nn (decide ((16:Int)<=v8.Kind))) (Mn ((w5 v8)==true) (ci (Nn (w5 v8)) (Mn ((nh v8)==false) (Mn (zK v8) (c3 (gI ((nh v8)==false)) (show(((nh v8)==false)=true->((decide ((21:Int)<=v8.Kind))=true->(zK v8)=true)) from(λhg=>(aT hg))) (Kl (nh v8)))))))) (gC h (λh=>Ae q [2] [] (tS h (Be []))) λh=>tW q [1,55] [1] [1,55,56] [1] (gC h (λh=>tB h λx3 y3 h=>tT q [2] [] [(XC x3)] (c1 (DI y3)) (tS h (Be []))) λh=>Ae q [1,55,66] [1] (gC h (λh=>tB h λx4 y4 h=>tT q [2] [] [(Z8 x4)] (Xu ((w4 v8)==true) (c2 (λ(hg:((w4 v8)==true)=true)=>(Er (B0 hg y4))) (Nn (w4 v8)))) (tS h (Be []))) λh=>Ae q [1,55,80] [1] (gC h (λh=>tB h λx5 y5 h=>tT q [2] [] [(Z8 x5)] (Mn ((decide (((E1 v8.Bits):Int)<v8.Imm))==true) (ci (Nn (decide (((E1 v8.Bits):Int)<v8.Imm))) (Xu ((wz v8)==true) (c2 (λ(hg:((wz v8)==true)=true)=>(Er (B0 hg y5))) (Nn (wz v8)))))) (tS h (Be []))) λh=>Ae q [1,99] [1] (gC h (λh=>Ae q [2] [] (tS h (Be []))) λh=>Ae q [2] [] (tS h (Be [])))))))) | .inr r6,h=>Pu (λst' hk=>tS h (gK hk))))
def Fg(aK:Int):Option Bool:=
 (some (bif (decide ((0:Int)<aK)) then(decide (aK<1024)) else false))
theorem Mk(h:Fg v4=some v5):sP 19 [(Az v4)] [] (.bool v5) []:=
 sG Tryz.func19 λΓ q=>Ae q [0] [] (tU q [2] [] (c2 (gI ((decide ((0:Int)<v4))==true)) (Nn (decide ((0:Int)<v4)))) (tS h (Be [])))
def Gz(a0:C5):Int->Option (LR Int (Unit ⊕ Bool)):=
 λ(i4:Int)=>(bif (decide (i4<(a0.Args.length:Int))) then(Aw (A0 i4 a0.Args.length) ((Fg (a0.Args.getD i4.toNat 0)).bind λx6=>(bif (!x6) then(some (.done (.inr false))) else(some (.next (w64 (i4+1))))))) else(some (.done (.inl ()))))
def FP(Γ:Il)(a0:C5)(r:Bool):Exit->St->Prop:=fK Tryz.prog Γ Tryz.f39.results.toList [] (.bool r) []
def sr(x1:Bool)(x2:Int)(a0:C5):=(bif (!x1) then true else(x2 !=(a0.Args.length:Int)))
def G8(a0:C5):Option Bool:=
 ((J4 a0.Bits a0.Lanes).bind λx1=>((bif ((!x1)==false) then Kt a0 else some (0:Int)).bind λx2=>((bif ((bif (!x1) then true else(x2 !=(a0.Args.length:Int)))==false) then F9 a0 else some false).bind λx3=>(bif (bif (bif (!x1) then true else(x2 !=(a0.Args.length:Int))) then true else(!x3)) then(some false) else((Ad (Gz a0) (0:Int)).bind (λx7=>(match x7 with|(.inl _)=>(bif (bif (a0.Kind==17) then true else(a0.Kind==19)) then(some (a0.Dst==0)) else((Fg a0.Dst).bind λx9=>(some x9)))|(.inr r10)=>(some r10))))))))
theorem N1(h:G8 v8=some v5):sP 39 [(IM v8)] [] (.bool v5) []:=
 sG Tryz.func39 λΓ q=>Ae q [1] [1] (tB h λx1 y1 h=>tB h λx2 y2 h=>tB h λx3 y3 h=>tT q [1,22] [1] [(Z8 x1),(XD x2),(Z8 x3)] (dq (Yr y1) (gI ((!x1)==false)) (λ(hg:((!x1)==false)=true)=>(BE (B0 hg y2))) (f5 ((!x1)==false) (c5 (Kl (!x1)) (gI ((sr x1 x2 v8)==false)) (λ(hg:((sr x1 x2 v8)==false)=true)=>(BF (B0 hg y3))) (gI ((sr x1 x2 v8)==false)) (Kl (sr x1 x2 v8))))) (gC h (λh=>Ae q [2] [] (tS h (Be []))) λh=>Ae q M1 [1] (tL q h M1 [1] (λu i4=>(Cs u [(3,(Az i4))] [])) (λu x_=>match x_ with|(.inl _)=>aG Γ (.exit 0) (O1 [1] [1] u [] [])|(.inr r_)=>aR (FP Γ v8 r_)) (λi4 y h=>Ae q [1,3,27] [1] (gC h (λh=>tC h λc5_ h=>tB h λx6 y6 h=>tT q [1,3,36] [1] [(Z8 x6)] (c2 c5_ (Mk y6)) (gC h (λh=>Ae q [2] [] (tS h (gO (Lc (Hu [] (Le.refl _ _)))))) λh=>Ae q M1 [1] (tN h))) λh=>tS h (gO (Bd (Bk [1] [1] q))))) λx7 h=>(match x7,h with | .inl _,h=>gA (tU q [1,44] [1] (Mn ((v8.Kind==17)==false) (c1 (Kl (v8.Kind==17)))) (gC h (λh=>Ae q [2] [] (tS h (Be []))) λh=>tB h λx9 y9 h=>tT q [2] [] [(Z8 x9)] (c1 (Mk y9)) (tS h (Be [])))) | .inr r10,h=>Pu (λst' hk=>tS h (gK hk))))))
open Go Go.RowKit
set_option maxRecDepth 100000
set_option maxHeartbeats 2000000
def Fo(a1:TFunc):Int->Option (LR Int (Unit ⊕ Bool)):=
 λ(i1:Int)=>(bif (decide (i1<(a1.Params.length:Int))) then(Aw (A0 i1 a1.Params.length) ((C4 (a1.Params.getD i1.toNat 0)).bind λx3=>(bif (!x3) then(some (.done (.inr false))) else(some (.next (w64 (i1+1))))))) else(some (.done (.inl ()))))
def Dz(a1:TFunc)(i6:Int):Int->Option (LR Int (Unit ⊕ Bool)):=
 λ(i7:Int)=>(Aw (A0 i6 a1.Blocks.length) (bif (decide (i7<(((a1.Blocks.getD i6.toNat default).Phis).length:Int))) then(Aw (A0 i6 a1.Blocks.length) (Aw (A0 i7 ((a1.Blocks.getD i6.toNat default).Phis).length) ((C4 ((((a1.Blocks.getD i6.toNat default).Phis).getD i7.toNat default).Bits)).bind λx11=>(bif (!x11) then(some (.done (.inr false))) else(some (.next (w64 (i7+1)))))))) else(some (.done (.inl ())))))
def D0(a1:TFunc)(a7:Int)(i6:Int):Int->Option (LR Int (Unit ⊕ Bool)):=
 λ(i14:Int)=>(Aw (A0 i6 a1.Blocks.length) (bif (decide (i14<(((a1.Blocks.getD i6.toNat default).Ops).length:Int))) then(Aw (A0 i6 a1.Blocks.length) (Aw (A0 i14 ((a1.Blocks.getD i6.toNat default).Ops).length) (Option.bind (α:=Int) (bif (a7==1) then(some (20:Int)) else(some (22:Int))) (λx19=>(Option.bind (α:=Int) (bif (a7==0) then(some (17:Int)) else(some x19)) (λx22=>((G8 (((a1.Blocks.getD i6.toNat default).Ops).getD i14.toNat default)).bind λx24=>(bif (bif (bif (!x24) then true else(decide (x22<(((a1.Blocks.getD i6.toNat default).Ops).getD i14.toNat default).Kind))) then true else(bif (decide (a7<2)) then(decide ((1:Int)<(((a1.Blocks.getD i6.toNat default).Ops).getD i14.toNat default).Lanes)) else false)) then(some (.done (.inr false))) else(some (.next (w64 (i14+1)))))))))))) else(some (.done (.inl ())))))
def Fp(a1:TFunc)(a7:Int):Int->Option (LR Int (Unit ⊕ Bool)):=
 λ(i6:Int)=>(bif (decide (i6<(a1.Blocks.length:Int))) then((Ad (Dz a1 i6) (0:Int)).bind (λx12=>(match x12 with|(.inl _)=>((Ad (D0 a1 a7 i6) (0:Int)).bind (λx25=>(match x25 with|(.inl _)=>(some (.next (w64 (i6+1))))|(.inr r27)=>(some (.done (.inr r27))))))|(.inr r28)=>(some (.done (.inr r28)))))) else(some (.done (.inl ()))))
def Jw(Γ:Il)(a1:TFunc)(a7:Int)(r:Bool):Exit->St->Prop:=fK Tryz.prog Γ Tryz.f17.results.toList [] (.bool r) []
def gQ(a1:TFunc)(i6:Int)(i14:Int):=(((a1.Blocks.getD i6.toNat default).Ops).getD i14.toNat default)
def lM(x24:Bool)(x22:Int)(a1:TFunc)(i6:Int)(i14:Int):=(bif (!x24) then true else(decide (x22<(gQ a1 i6 i14).Kind)))
def Abw(a1:TFunc):List AV:=[(Rs a1.Params),(Az a1.Ret),(bX a1.Blocks)]
def zL(a1:TFunc)(i6:Int)(i14:Int):List Vf:=[(P0 25 (Abw a1)),(9,.row 51 [(.int .i64 (gQ a1 i6 i14).Kind),(.int .i64 (gQ a1 i6 i14).Bits),(.int .i64 (gQ a1 i6 i14).Lanes),(.int .i64 (gQ a1 i6 i14).Dst),(AV.list 1 Ax 0 (gQ a1 i6 i14).Args .none),(.int .u64 (gQ a1 i6 i14).Imm)])]
def J8(a1:TFunc)(a7:Int):Option Bool:=
 ((Ad (Fo a1) (0:Int)).bind (λx4=>(match x4 with|(.inl _)=>((Ad (Fp a1 a7) (0:Int)).bind (λx29=>(match x29 with|(.inl _)=>((C4 a1.Ret).bind λx31=>(some x31))|(.inr r32)=>(some r32))))|(.inr r33)=>(some r33))))
theorem Yy(h:J8 v3 v4=some v5):sP 17 [(XF v3),(Az v4)] [] (.bool v5) []:=
 sG Tryz.func17 λΓ q=>tW q Pe [2] Wo [2] (tL q h Wo [2] (λu i1=>(Cs u [(5,(Az i1))] [])) (λu x_=>match x_ with|(.inl _)=>aG Γ (.exit 0) (O1 Pe [2] u [] [])|(.inr r_)=>aR (Jw Γ v3 v4 r_)) (λi1 y h=>Ae q [1,2,5,15] [2] (gC h (λh=>tC h λc2_ h=>tB h λx3 y3 h=>tT q [1,2,5,24] [2] [(Z8 x3)] (c2 c2_ (Er y3)) (gC h (λh=>Ae q [4] [] (tS h (gO (Lc (Hu [] (Le.refl _ _)))))) λh=>Ae q Wo [2] (tN h))) λh=>tS h (gO (Bd (Bk Pe [2] q))))) λx4 h=>(match x4,h with | .inl _,h=>gA (Ae q IF [2] (tL q h IF [2] (λu i6=>(Cs u [(6,(Az i6))] [])) (λu x_=>match x_ with|(.inl _)=>aG Γ (.exit 2) (O1 [2] [2] u [] [])|(.inr r_)=>aR (Jw Γ v3 v4 r_)) (λi6 y h=>Ae q [1,2,6,29] [2] (gC h (λh=>Ae q [1,2,6,7] [2] (tL q h [1,2,6,7] [2] (λu i7=>(Cs u [(7,(Az i7))] [])) (λu x_=>match x_ with|(.inl _)=>aG Γ (.exit 4) (O1 IF [2] u [] [])|(.inr r_)=>aR (Jw Γ v3 v4 r_)) (λi7 y h=>tV q [1,2,6,7,40] [2] h λh=>gC h (λh=>tC h λc9_ h=>tC h λc10_ h=>tB h λx11 y11 h=>tT q [1,2,6,7,54] [2] [(Z8 x11)] (c3 c9_ c10_ (Er y11)) (gC h (λh=>Ae q [4] [] (tS h (gO (Lc (Hu [] (Le.refl _ _)))))) λh=>Ae q [1,2,6,7] [2] (tN h))) λh=>tS h (gO (Bd (Bk IF [2] q)))) λx12 h=>(match x12,h with | .inl _,h=>gA (Ae q [1,2,6,8] [2] (tL q h [1,2,6,8] [2] (λu i14=>(Cs u [(8,(Az i14))] [])) (λu x_=>match x_ with|(.inl _)=>aG Γ (.exit 6) (O1 IF [2] u [] [])|(.inr r_)=>aR (Jw Γ v3 v4 r_)) (λi14 y h=>tV q [1,2,6,8,63] [2] h λh=>gC h (λh=>tC h λc16_ h=>tC h λc17_ h=>tU q [1,2,6,8,9] [2,9] (c2 c16_ c17_) (Ae q VR [2,9] (tB h λx19 y19 h=>gJ y19 (λi18=>aG Γ .normal (⟨[(1,(Az v4)),V8,(6,(Az i6)),(8,(Az i14)),(9,(.ptr 9 0)),(Ds 10 i18)],(zL v3 i6 i14),[]⟩:St)) (λy h=>Ae q [1,2,6,8,9,10,76] [2,9] (gC h (λh=>Ae q VR [2,9] (tS h (gK (Bd Jj)))) λh=>tS h (gK (Bd (Bk VR [2,9] q))))) (gA (tB h λx22 y22 h=>gJ y22 (λi21=>aG Γ .normal (⟨[(1,(Az v4)),V8,(6,(Az i6)),(8,(Az i14)),(9,(.ptr 9 0)),(Ds 10 i21)],(zL v3 i6 i14),[]⟩:St)) (λy h=>Ae q [1,2,6,8,9,10,78] [2,9] (gC h (λh=>Ae q VR [2,9] (tS h (gK (Bd Jj)))) λh=>tS h (gK (Bd (Bk VR [2,9] q))))) (gA (tB h λx24 y24 h=>tT q [1,2,6,8,96] [2] [(Z8 x24)] (ci (N1 y24) (Xu ((!x24)==false) (ci (Kl (!x24)) (Mn ((lM x24 x22 v3 i6 i14)==false) (Mn (((lM x24 x22 v3 i6 i14)==false)&&((decide (v4<2))==true)) (c3 (gI ((lM x24 x22 v3 i6 i14)==false)) (show(((lM x24 x22 v3 i6 i14)==false)=true->((decide (v4<2))=true->(((lM x24 x22 v3 i6 i14)==false)&&((decide (v4<2))==true))=true)) from(λhg=>(aT hg))) (Kl (lM x24 x22 v3 i6 i14)))))))) (gC h (λh=>Ae q [4] [] (tS h (gO (Lc (Hu [] (Le.refl _ _)))))) λh=>Ae q [1,2,6,8] [2] (tN h))))))))) λh=>tS h (gO (Bd (Bk IF [2] q)))) λx25 h=>(match x25,h with | .inl _,h=>gA (Ae q IF [2] (tN h)) | .inr r27,h=>Pu (λst' hk=>tS h (gO (Lc hk)))))) | .inr r28,h=>Pu (λst' hk=>tS h (gO (Lc hk)))))) λh=>tS h (gO (Bd (Bk [2] [2] q))))) λx29 h=>(match x29,h with | .inl _,h=>gA (tB h λx31 y31 h=>tT q [4] [] [(Z8 x31)] (c1 (Er y31)) (tS h (Be []))) | .inr r32,h=>Pu (λst' hk=>tS h (gK hk))))) | .inr r33,h=>Pu (λst' hk=>tS h (gK hk))))
def Hl(a0:C5):Option Hs:=
 ((G8 a0).bind λx1=>(bif (bif (bif (!x1) then true else(a0.Kind==17)) then true else(a0.Kind==19)) then(some ((0:Int),(0:Int))) else(bif (bif (decide ((10:Int)<=a0.Kind)) then(decide (a0.Kind<=12)) else false) then(some ((1:Int),(1:Int))) else(bif (a0.Kind==22) then(some (a0.Bits,(1:Int))) else(some (a0.Bits,a0.Lanes))))))
theorem Yq(h:Hl v8=some v20):sP 40 [(IM v8)] [] (.tuple [(Az v20.1),(Az v20.2)]) []:=
 sG Tryz.func40 λΓ q=>Ae q [1] [1] (tB h λx1 y1 h=>tT q [1,16] [1] [(Z8 x1)] (ci (N1 y1) (Mn ((!x1)==false) (ci (Kl (!x1)) (Mn ((bif (!x1) then true else(v8.Kind==17))==false) (c1 (Kl (bif (!x1) then true else(v8.Kind==17)))))))) (gC h (λh=>Ae q Cn [] (tS h (Be []))) λh=>tU q [1,24] [1] (Mn ((decide ((10:Int)<=v8.Kind))==true) (c1 (Nn (decide ((10:Int)<=v8.Kind))))) (gC h (λh=>Ae q Cn [] (tS h (Be []))) λh=>Ae q [1,27] [1] (gC h (λh=>Ae q Cn [] (tS h (Be []))) λh=>Ae q Cn [] (tS h (Be []))))))
abbrev fk:=(List Ca×Int)
abbrev vf:=(LR (List Ca×Int) (List Ca))
def Iz(a1:TFunc):fk->Option vf:=
 λ((l1,i2):fk)=>(bif (decide (i2<(a1.Params.length:Int))) then(Aw (A0 i2 a1.Params.length) (Aw (l1.length+([(⟨(w64 (i2+1)),(-1:Int),(0:Int),((a1.Params.getD i2.toNat 0),(1:Int))⟩:Ca)]:List Ca).length<=room) (some (.next ((l1++([(⟨(w64 (i2+1)),(-1:Int),(0:Int),((a1.Params.getD i2.toNat 0),(1:Int))⟩:Ca)]:List Ca)),(w64 (i2+1))))))) else(some (.done l1)))
def Gd(a1:TFunc)(i9:Int):fk->Option vf:=
 λ((l12,i13):fk)=>(bif (decide (i13<(((a1.Blocks.getD i9.toNat default).Phis).length:Int))) then(Aw (A0 i13 ((a1.Blocks.getD i9.toNat default).Phis).length) (Aw (A0 i13 ((a1.Blocks.getD i9.toNat default).Phis).length) (Aw (l12.length+([(⟨(((a1.Blocks.getD i9.toNat default).Phis).getD i13.toNat default).Dst,i9,(-1:Int),((((a1.Blocks.getD i9.toNat default).Phis).getD i13.toNat default).Bits,(1:Int))⟩:Ca)]:List Ca).length<=room) (some (.next ((l12++([(⟨(((a1.Blocks.getD i9.toNat default).Phis).getD i13.toNat default).Dst,i9,(-1:Int),((((a1.Blocks.getD i9.toNat default).Phis).getD i13.toNat default).Bits,(1:Int))⟩:Ca)]:List Ca)),(w64 (i13+1)))))))) else(some (.done l12)))
def Ge(a1:TFunc)(i9:Int):fk->Option vf:=
 λ((l20,i21):fk)=>(bif (decide (i21<(((a1.Blocks.getD i9.toNat default).Ops).length:Int))) then(Option.bind (α:=List Ca) (Aw (A0 i21 ((a1.Blocks.getD i9.toNat default).Ops).length) ((Hl (((a1.Blocks.getD i9.toNat default).Ops).getD i21.toNat default)).bind λx25=>(bif (decide ((0:Int)<x25.1)) then(Aw (A0 i21 ((a1.Blocks.getD i9.toNat default).Ops).length) (Aw (l20.length+([(⟨(((a1.Blocks.getD i9.toNat default).Ops).getD i21.toNat default).Dst,i9,i21,(x25.1,x25.2)⟩:Ca)]:List Ca).length<=room) (some (l20++([(⟨(((a1.Blocks.getD i9.toNat default).Ops).getD i21.toNat default).Dst,i9,i21,(x25.1,x25.2)⟩:Ca)]:List Ca))))) else(some l20)))) (λx28=>(some (.next (x28,(w64 (i21+1))))))) else(some (.done l20)))
def I4(a1:TFunc):fk->Option vf:=
 λ((l8,i9):fk)=>(bif (decide (i9<(a1.Blocks.length:Int))) then(Aw (A0 i9 a1.Blocks.length) ((Ad (Gd a1 i9) (l8,(0:Int))).bind (λx18=>((Ad (Ge a1 i9) (x18,(0:Int))).bind (λx30=>(some (.next (x30,(w64 (i9+1)))))))))) else(some (.done l8)))
def dG(a1:TFunc)(i9:Int):=(a1.Blocks.getD i9.toNat default)
def w7(a1:TFunc):List AV:=[(Rs a1.Params),(Az a1.Ret),(bX a1.Blocks)]
def sv(i2:Int)(a1:TFunc):=([(⟨(w64 (i2+1)),(-1:Int),(0:Int),((a1.Params.getD i2.toNat 0),(1:Int))⟩:Ca)]:List Ca)
def su(a1:TFunc)(i9:Int)(i21:Int)(x25:Hs):=([(⟨(((dG a1 i9).Ops).getD i21.toNat default).Dst,i9,i21,(x25.1,x25.2)⟩:Ca)]:List Ca)
def zM(a1:TFunc):=(⟨[FZ,(3,(AV.list 5 P1 default ([]:List Ca) (.own 5003))),(4,Pz)],[(1,.row 25 (w7 a1)),(5003,.tok 5 65 (([]:List Ca).length))],[]⟩:St)
def ss(a1:TFunc)(i9:Int)(i13:Int):=([(⟨(((dG a1 i9).Phis).getD i13.toNat default).Dst,i9,(-1:Int),((((dG a1 i9).Phis).getD i13.toNat default).Bits,(1:Int))⟩:Ca)]:List Ca)
def Ky(a1:TFunc):Option (List Ca):=
 ((Ad (Iz a1) (([]:List Ca),(0:Int))).bind (λx6=>((Ad (I4 a1) (x6,(0:Int))).bind (λx32=>(some x32)))))
variable{v51:List Ca}
theorem BK(h:Ky v3=some v51):sP 18 [(XF v3)] [] (AV.list 5 P1 default v51 (.own 20000)) [(Ni 20000 65 v51.length)]:=
 sG Tryz.func18 λΓ q=>gR q [1] [1] [(2,(AV.list 5 P1 default ([]:List Ca) .exact))] [] (c1 (Bi 5 P1 (default:Ca))) (gR q M1 [1] [(3,(AV.list 5 P1 default ([]:List Ca) .exact))] [] (c1 (Bi 5 P1 (default:Ca))) (Ae q Fe [1] (M6 (st':=(zM v3)) (Le.trans (Bk (st':=⟨[FZ,(3,(AV.list 5 P1 default ([]:List Ca) .exact)),(4,Pz)],[(1,.row 25 (w7 v3))],[]⟩) Fe [1] q) (Le.trans (Np (t:=3) (nm:=5003) (sz':=5) (λi=>P1 (([]:List Ca).getD i default)) 65 rfl rfl (.inl ⟨rfl,rfl⟩) (λh_=>absurd h_ (by decide))) (Bk (st':=(zM v3)) Fe Nh q))) (tL q h Fe Nh (λu (l1,i2)=>(Cs u [(tM l1),(4,(Az i2))] [(Ni 5003 65 l1.length)])) (λu l3=>aG Γ (.exit 0) (O1 M1 Nh u [(tM l3)] [(Ni 5003 65 l3.length)])) (λ⟨l1,i2⟩ y h=>Ae q [1,3,4,15] Nh (gC h (λh=>tC h λc4_ h=>tC h λc5_ h=>gR q Fe Nh (Z82 28 (sv i2 v3) 29 l1) [] (c6 c4_ (B9 5 P1 (default:Ca) (sv i2 v3)) (Eq.refl l1.length) c5_ (Kh 5 5003 P1 (default:Ca) l1 (sv i2 v3)) (Ft l1 (sv i2 v3))) (Ae q Fe Nh (tN h))) λh=>tS h (gO (Bd (Bk M1 Nh q))))) λx6 h=>gA (Ae q NM Nh (tL q h NM Nh (λu (l8,i9)=>(Cs u [(tM l8),(5,(Az i9))] [(Ni 5003 65 l8.length)])) (λu l10=>aG Γ (.exit 2) (⟨[(tM l10)],[(Ni 5003 65 l10.length)],[]⟩:St)) (λ⟨l8,i9⟩ y h=>Ae q [1,3,5,34] Nh (gC h (λh=>tV q KN Tz h λh=>Ae q WC Tz (tL q h WC Tz (λu (l12,i13)=>(Cs u [(tM l12),(7,(Az i13))] [(Ni 5003 65 l12.length)])) (λu l14=>aG Γ (.exit 4) (O1 KN Tz u [(tM l14)] [(Ni 5003 65 l14.length)])) (λ⟨l12,i13⟩ y h=>Ae q [1,3,5,6,7,46] Tz (gC h (λh=>tC h λc15_ h=>tC h λc16_ h=>tC h λc17_ h=>gR q WC Tz (Z82 65 (ss v3 i9 i13) 66 l12) [] (c7 c15_ c16_ (B9 5 P1 (default:Ca) (ss v3 i9 i13)) (Eq.refl l12.length) c17_ (Kh 5 5003 P1 (default:Ca) l12 (ss v3 i9 i13)) (Ft l12 (ss v3 i9 i13))) (Ae q WC Tz (tN h))) λh=>tS h (gO (Bd (Bk KN Tz q))))) λx18 h=>gA (Ae q WD Tz (tL q h WD Tz (λu (l20,i21)=>(Cs u [(tM l20),(8,(Az i21))] [(Ni 5003 65 l20.length)])) (λu l22=>aG Γ (.exit 6) (O1 NM Nh u [(tM l22)] [(Ni 5003 65 l22.length)])) (λ⟨l20,i21⟩ y h=>Ae q [1,3,5,6,8,71] Tz (gC h (λh=>tB h λx28 y28 h=>gJ y28 (λl23=>aG Γ .normal (⟨[FZ,(tM l23),(5,(Az i9)),(6,(.ptr 6 0)),(8,(Az i21))],[(1,.row 25 (w7 v3)),(6,.row 57 [(AV.list 4 W0 default (dG v3 i9).Phis .none),(AV.list 6 PX default (dG v3 i9).Ops .none),(.int .i64 (dG v3 i9).End.Kind),(.int .i64 (dG v3 i9).End.Arg),(AV.list 1 Ax 0 (dG v3 i9).End.To .none)]),(Ni 5003 65 l23.length)],[]⟩:St)) (λy h=>tC h λc24_ h=>tB h λx25 y25 h=>tT q [1,3,5,6,8,9,10] Tz [(tI x25.1 x25.2)] (c2 c24_ (Yq y25)) (Ae q [1,3,5,6,8,9,10,84] Tz (gC h (λh=>tC h λc26_ h=>tC h λc27_ h=>gR q WD Tz (Z82 98 (su v3 i9 i21 x25) 99 l20) [] (c6 c26_ (B9 5 P1 (default:Ca) (su v3 i9 i21 x25)) (Eq.refl l20.length) c27_ (Kh 5 5003 P1 (default:Ca) l20 (su v3 i9 i21 x25)) (Ft l20 (su v3 i9 i21 x25))) (tS h (gK (Bd Jj)))) λh=>tS h (gK (Bd (Bk WD Tz q)))))) (gA (Ae q WD Tz (tN h)))) λh=>tS h (gO (Bd (Bk NM Nh q))))) λx30 h=>gA (Ae q NM Nh (tN h)))))) λh=>tS h (gO (Bd (Bk [3] [5003] q))))) λx32 h=>gA (Ae q [2] [5003] (tS h (Be jh)))))))))
def Gf(aa0:List Ca)(aK:Int):Int->Option (LR Int (Unit ⊕ Int)):=
 λ(i1:Int)=>(bif (decide (i1<(aa0.length:Int))) then(Aw (A0 i1 aa0.length) (bif (((aa0.getD i1.toNat default).V:Int)==aK) then(some (.done (.inr i1))) else(some (.next (w64 (i1+1)))))) else(some (.done (.inl ()))))
def CB(Γ:Il)(aa0:List Ca)(aK:Int)(r:Int):Exit->St->Prop:=fK Tryz.prog Γ Tryz.f20.results.toList [] (.int .i64 r) []
def Eo(aa0:List Ca)(aK:Int):Option Int:=
 ((Ad (Gf aa0 aK) (0:Int)).bind (λx3=>(match x3 with|(.inl _)=>(some (-1:Int))|(.inr r5)=>(some r5))))
theorem J9(h:Eo v51 v4=some v13):sP 20 [(AV.list 5 P1 default v51 .none),(Az v4)] [] (.int .i64 v13) []:=
 sG Tryz.func20 λΓ q=>tW q Ew [] L5 [] (tL q h L5 [] (λu i1=>(Cs u [(5,(Az i1))] [])) (λu x_=>match x_ with|(.inl _)=>aG Γ (.exit 0) (⟨[],[],[]⟩:St)|(.inr r_)=>aR (CB Γ v51 v4 r_)) (λi1 y h=>Ae q [0,1,5,9] [] (gC h (λh=>tV q [0,1,5,18] [] h λh=>gC h (λh=>Ae q [4] [] (tS h (gO (Lc (Hu [] (Le.refl _ _)))))) λh=>Ae q L5 [] (tN h)) λh=>tS h (gO (Bd (Bk [] [] q))))) λx3 h=>(match x3,h with | .inl _,h=>gA (Ae q [4] [] (tS h (Be []))) | .inr r5,h=>Pu (λst' hk=>tS h (gK hk))))
abbrev Abp:=(List (Int×Int)×Int)
def H7(a0:C5):Abp->Option (LR (List (Int×Int)×Int) (List (Int×Int))):=
 λ((l2,i3):Abp)=>(bif (decide (i3<(a0.Args.length:Int))) then(Option.bind (α:=Hs) (Option.bind (α:=Bool) (bif (a0.Kind==13) then(some (a0.Kind==13)) else(some (a0.Kind==20))) (λx8=>(bif x8 then(bif (i3==0) then(some ((1:Int),(1:Int))) else(some (a0.Bits,a0.Lanes))) else(Option.bind (α:=Bool) (bif (a0.Kind==14) then(some (a0.Kind==14)) else(some (a0.Kind==15))) (λx11=>(bif x11 then(some ((w64 a0.Imm),(1:Int))) else(Option.bind (α:=Bool) (bif (a0.Kind==16) then(some (a0.Kind==16)) else(some (a0.Kind==17))) (λx14=>(bif x14 then(bif (i3==0) then(some ((64:Int),(1:Int))) else(some (a0.Bits,a0.Lanes))) else(Option.bind (α:=Bool) (bif (a0.Kind==18) then(some (a0.Kind==18)) else(some (a0.Kind==19))) (λx17=>(bif x17 then(Option.bind (α:=Hs) (bif (i3==0) then(some ((1:Int),(1:Int))) else(some (a0.Bits,a0.Lanes))) (λx21=>(match x21 with|(i19,i20)=>(bif (i3==1) then(some ((64:Int),(1:Int))) else(some (i19,i20)))))) else(bif (a0.Kind==21) then(some (a0.Bits,(1:Int))) else(some (a0.Bits,a0.Lanes))))))))))))))) (λx23=>(match x23 with|(i5,i6)=>(Aw (l2.length+([(i5,i6)]:List Hs).length<=room) (some (.next ((l2++([(i5,i6)]:List Hs)),(w64 (i3+1))))))))) else(some (.done l2)))
def Abx(a0:C5):List AV:=[(Az a0.Bits),(Az a0.Lanes)]
def gV(l2:List MP):AV:=(xM l2 5003)
def lO:AV:=Z55
def lN(a0:C5):List AV:=[(Az a0.Kind),(Az a0.Bits),(Az a0.Lanes),(Az a0.Dst),(Rs a0.Args),(Ru a0.Imm)]
def sx(a0:C5)(l2:List MP):List Vf:=[(1,.row 51 (lN a0)),(5,.row 63 (Abx a0)),(5003,.tok 2 63 l2.length)]
def zN:List YK:=[FZ,(3,(AV.list 2 Bs ((0:Int),(0:Int)) ([]:List Hs) (.own 5003))),(4,Pz)]
def Hm(a0:C5):Option rC:=
 ((G8 a0).bind λx1=>(bif (!x1) then(some ([]:List Hs)) else((Ad (H7 a0) (([]:List Hs),(0:Int))).bind (λx26=>(some x26)))))
variable{v22:List MP}
theorem Ys(h:Hm v8=some v22):sP 41 [(IM v8)] [] (xM v22 20000) [(20000,.tok 2 63 v22.length)]:=
 sG Tryz.func41 λΓ q=>gR q [1] [1] [(2,lO)] [] (c1 (Bi 2 Bs ((0:Int),(0:Int)))) (gR q M1 [1] [(3,lO)] [] (c1 (Bi 2 Bs ((0:Int),(0:Int)))) (tB h λx1 y1 h=>tT q [1,3,8] [1] [(Z8 x1)] (c1 (N1 y1)) (gC h (λh=>gR q [2] [] [(2,lO)] [] (c1 (Bi 2 Bs ((0:Int),(0:Int)))) (Qi (⟨[(2,lO)],[],[]⟩:St) (tS h (gK (e:=.ret) (Hu jf (show Le Γ _ (Z99:St) from Le.trans (Bk (st':=⟨[(2,lO)],[],[]⟩) [2] [] q) (Le.trans (Np (t:=2) (nm:=6002) (sz':=2) (λi=>Bs (([]:List Hs).getD i ((0:Int),(0:Int)))) 63 rfl rfl (.inl ⟨rfl,rfl⟩) (λh_=>absurd h_ (by decide))) (Bk (st':=Z99) [2] [6002] q)))))))) λh=>Ae q Fe [1] (M6 (st':=⟨zN,[(1,.row 51 (lN v8)),(5003,.tok 2 63 (([]:List Hs).length))],[]⟩) (Le.trans (Bk (st':=⟨[FZ,(3,lO),(4,Pz)],[(1,.row 51 (lN v8))],[]⟩) Fe [1] q) (Le.trans (Np (t:=3) (nm:=5003) (sz':=2) (λi=>Bs (([]:List Hs).getD i ((0:Int),(0:Int)))) 63 rfl rfl (.inl ⟨rfl,rfl⟩) (λh_=>absurd h_ (by decide))) (Bk (st':=⟨zN,[(1,.row 51 (lN v8)),(5003,.tok 2 63 (([]:List Hs).length))],[]⟩) Fe Nh q))) (tL q h Fe Nh (λu (l2,i3)=>(Cs u [(3,(gV l2)),(4,(Az i3))] [(5003,.tok 2 63 l2.length)])) (λu l4=>aG Γ (.exit 0) (⟨[(3,(xM l4 5003))],[(5003,.tok 2 63 l4.length)],[]⟩:St)) (λ⟨l2,i3⟩ y h=>Ae q [1,3,4,13] Nh (gC h (λh=>Ae q L4 Eu (tB h λx23 y23 h=>gJ y23 (λ(i5,i6)=>aG Γ .normal (⟨[FZ,(3,(gV l2)),(4,(Az i3)),PV],[(1,.row 51 (lN v8)),(5,.row 63 [(Az i5),(Az i6)]),(5003,.tok 2 63 l2.length)],[]⟩:St)) (λy h=>Ae q [1,3,4,5,22] Eu (tB h λx8 y8 h=>gJ y8 (λb7=>aG Γ .normal (⟨[FZ,(3,(gV l2)),(4,(Az i3)),PV,(Ds 22 v8.Kind),(23,(.bool b7))],(sx v8 l2),[]⟩:St)) (λy h=>Ae q [1,3,4,5,22,23] Eu (gC h (λh=>tS h (gK (Bd Jj))) λh=>Ae q [1,3,4,5,22,23] Eu (tS h (gK (Bd Jj))))) (gA (gC h (λh=>Ae q [1,3,4,5,27] Eu (gC h (λh=>Ae q L4 Eu (tS h (gK (Bd Jj)))) λh=>tS h (gK (Bd (Bk L4 Eu q))))) λh=>tB h λx11 y11 h=>gJ y11 (λb10=>aG Γ .normal (⟨[FZ,(3,(gV l2)),(4,(Az i3)),PV,(Ds 22 v8.Kind),(29,(.bool b10))],(sx v8 l2),[]⟩:St)) (λy h=>Ae q [1,3,4,5,22,29] Eu (gC h (λh=>tS h (gK (Bd Jj))) λh=>Ae q [1,3,4,5,22,29] Eu (tS h (gK (Bd Jj))))) (gA (gC h (λh=>Ae q L4 Eu (tS h (gK (Bd Jj)))) λh=>tB h λx14 y14 h=>gJ y14 (λb13=>aG Γ .normal (⟨[FZ,(3,(gV l2)),(4,(Az i3)),PV,(Ds 22 v8.Kind),(36,(.bool b13))],(sx v8 l2),[]⟩:St)) (λy h=>Ae q [1,3,4,5,22,36] Eu (gC h (λh=>tS h (gK (Bd Jj))) λh=>Ae q [1,3,4,5,22,36] Eu (tS h (gK (Bd Jj))))) (gA (gC h (λh=>Ae q [1,3,4,5,40] Eu (gC h (λh=>Ae q L4 Eu (tS h (gK (Bd Jj)))) λh=>tS h (gK (Bd (Bk L4 Eu q))))) λh=>tB h λx17 y17 h=>gJ y17 (λb16=>aG Γ .normal (⟨[FZ,(3,(gV l2)),(4,(Az i3)),PV,(Ds 22 v8.Kind),(42,(.bool b16))],(sx v8 l2),[]⟩:St)) (λy h=>Ae q [1,3,4,5,22,42] Eu (gC h (λh=>tS h (gK (Bd Jj))) λh=>Ae q [1,3,4,5,22,42] Eu (tS h (gK (Bd Jj))))) (gA (gC h (λh=>tB h λx21 y21 h=>gJ y21 (λ(i19,i20)=>aG Γ .normal (⟨[FZ,(3,(gV l2)),(4,(Az i3)),PV],[(1,.row 51 (lN v8)),(5,.row 63 [(Az i19),(Az i20)]),(5003,.tok 2 63 l2.length)],[]⟩:St)) (λy h=>Ae q [1,3,4,5,46] Eu (gC h (λh=>Ae q L4 Eu (tS h (gK (Bd Jj)))) λh=>tS h (gK (Bd (Bk L4 Eu q))))) (match x21,h with|⟨i19,i20⟩,h=>gA (Ae q [1,3,4,5,49] Eu (gC h (λh=>Ae q L4 Eu (tS h (gK (Bd Jj)))) λh=>tS h (gK (Bd (Bk L4 Eu q))))))) λh=>Ae q [1,3,4,5,51] Eu (gC h (λh=>Ae q L4 Eu (tS h (gK (Bd Jj)))) λh=>tS h (gK (Bd (Bk L4 Eu q)))))))))))))) (match x23,h with|⟨i5,i6⟩,h=>gA (tC h λc25_ h=>gR q Fe Nh [(58,(AV.list 2 Bs ((0:Int),(0:Int)) ([(i5,i6)]:List Hs) .exact)),(59,(AV.list 2 Bs ((0:Int),(0:Int)) (l2++([(i5,i6)]:List Hs)) (.own 5003)))] [] (c5 (B9 2 Bs ((0:Int),(0:Int)) ([(i5,i6)]:List Hs)) (Eq.refl l2.length) c25_ (Kh 2 5003 Bs ((0:Int),(0:Int)) l2 ([(i5,i6)]:List Hs)) (Ft l2 ([(i5,i6)]:List Hs))) (Ae q Fe Nh (tN h)))))) λh=>tS h (gO (Bd (Bk [3] [5003] q))))) λx26 h=>gA (Ae q [2] [5003] (tS h (Be jh))))))))
abbrev YL:=(List C0×Int)
abbrev rE:=(LR (List C0×Int) (List C0))
def Gg(a1:TFunc)(i2:Int)(i7:Int):YL->Option rE:=
 λ((l10,i11):YL)=>(bif (decide (i11<(((((a1.Blocks.getD i2.toNat default).Phis).getD i7.toNat default).Args).length:Int))) then(Aw (A0 i11 ((((a1.Blocks.getD i2.toNat default).Phis).getD i7.toNat default).Args).length) (Aw (A0 i11 ((((a1.Blocks.getD i2.toNat default).Phis).getD i7.toNat default).From).length) (Aw (l10.length+([(⟨(((((a1.Blocks.getD i2.toNat default).Phis).getD i7.toNat default).Args).getD i11.toNat 0),(((((a1.Blocks.getD i2.toNat default).Phis).getD i7.toNat default).From).getD i11.toNat 0),(1000:Int),((((a1.Blocks.getD i2.toNat default).Phis).getD i7.toNat default).Bits,(1:Int))⟩:C0)]:List C0).length<=room) (some (.next ((l10++([(⟨(((((a1.Blocks.getD i2.toNat default).Phis).getD i7.toNat default).Args).getD i11.toNat 0),(((((a1.Blocks.getD i2.toNat default).Phis).getD i7.toNat default).From).getD i11.toNat 0),(1000:Int),((((a1.Blocks.getD i2.toNat default).Phis).getD i7.toNat default).Bits,(1:Int))⟩:C0)]:List C0)),(w64 (i11+1)))))))) else(some (.done l10)))
def Gh(a1:TFunc)(i2:Int):YL->Option rE:=
 λ((l6,i7):YL)=>(bif (decide (i7<(((a1.Blocks.getD i2.toNat default).Phis).length:Int))) then(Aw (A0 i7 ((a1.Blocks.getD i2.toNat default).Phis).length) ((Ad (Gg a1 i2 i7) (l6,(0:Int))).bind (λx16=>(some (.next (x16,(w64 (i7+1)))))))) else(some (.done l6)))
def Gi(a1:TFunc)(i2:Int)(i21:Int)(x24:List MP):YL->Option rE:=
 λ((l25,i26):YL)=>(bif (decide (i26<(x24.length:Int))) then(Aw (A0 i21 ((a1.Blocks.getD i2.toNat default).Ops).length) (Aw (A0 i26 ((((a1.Blocks.getD i2.toNat default).Ops).getD i21.toNat default).Args).length) (Aw (A0 i26 x24.length) (Aw (l25.length+([(⟨(((((a1.Blocks.getD i2.toNat default).Ops).getD i21.toNat default).Args).getD i26.toNat 0),i2,i21,(x24.getD i26.toNat ((0:Int),(0:Int)))⟩:C0)]:List C0).length<=room) (some (.next ((l25++([(⟨(((((a1.Blocks.getD i2.toNat default).Ops).getD i21.toNat default).Args).getD i26.toNat 0),i2,i21,(x24.getD i26.toNat ((0:Int),(0:Int)))⟩:C0)]:List C0)),(w64 (i26+1))))))))) else(some (.done l25)))
def Gj(a1:TFunc)(i2:Int):YL->Option rE:=
 λ((l20,i21):YL)=>(bif (decide (i21<(((a1.Blocks.getD i2.toNat default).Ops).length:Int))) then(Aw (A0 i21 ((a1.Blocks.getD i2.toNat default).Ops).length) ((Hm (((a1.Blocks.getD i2.toNat default).Ops).getD i21.toNat default)).bind λx24=>((Ad (Gi a1 i2 i21 x24) (l20,(0:Int))).bind (λx32=>(some (.next (x32,(w64 (i21+1))))))))) else(some (.done l20)))
def I5(a1:TFunc):YL->Option rE:=
 λ((l1,i2):YL)=>(bif (decide (i2<(a1.Blocks.length:Int))) then(Option.bind (α:=List C0) (Aw (A0 i2 a1.Blocks.length) ((Ad (Gh a1 i2) (l1,(0:Int))).bind (λx18=>((Ad (Gj a1 i2) (x18,(0:Int))).bind (λx34=>(Option.bind (α:=List C0) (bif (((a1.Blocks.getD i2.toNat default).End.Kind:Int)==0) then(Aw (x34.length+([(⟨(a1.Blocks.getD i2.toNat default).End.Arg,i2,(1000:Int),(a1.Ret,(1:Int))⟩:C0)]:List C0).length<=room) (some (x34++([(⟨(a1.Blocks.getD i2.toNat default).End.Arg,i2,(1000:Int),(a1.Ret,(1:Int))⟩:C0)]:List C0)))) else(some x34)) (λx38=>(bif (((a1.Blocks.getD i2.toNat default).End.Kind:Int)==2) then(Aw (x38.length+([(⟨(a1.Blocks.getD i2.toNat default).End.Arg,i2,(1000:Int),((1:Int),(1:Int))⟩:C0)]:List C0).length<=room) (some (x38++([(⟨(a1.Blocks.getD i2.toNat default).End.Arg,i2,(1000:Int),((1:Int),(1:Int))⟩:C0)]:List C0)))) else(some x38))))))))) (λx41=>(some (.next (x41,(w64 (i2+1))))))) else(some (.done l1)))
def RN(a1:TFunc)(i2:Int):=(a1.Blocks.getD i2.toNat default)
def s7(a1:TFunc):List AV:=[(Rs a1.Params),(Az a1.Ret),(bX a1.Blocks)]
def s6(a1:TFunc)(i2:Int):=([(⟨(RN a1 i2).End.Arg,i2,(1000:Int),(a1.Ret,(1:Int))⟩:C0)]:List C0)
def s5(a1:TFunc)(i2:Int):=([(⟨(RN a1 i2).End.Arg,i2,(1000:Int),((1:Int),(1:Int))⟩:C0)]:List C0)
def zO(a1:TFunc):=(⟨[FZ,(3,(AV.list 5 O5 default ([]:List C0) (.own 5003))),(4,Pz)],[(1,.row 25 (s7 a1)),(5003,.tok 5 69 (([]:List C0).length))],[]⟩:St)
def s4(a1:TFunc)(i2:Int)(i21:Int)(i26:Int)(x24:List MP):=([(⟨(((((RN a1 i2).Ops).getD i21.toNat default).Args).getD i26.toNat 0),i2,i21,(x24.getD i26.toNat ((0:Int),(0:Int)))⟩:C0)]:List C0)
def sy(a1:TFunc)(i2:Int)(i7:Int)(i11:Int):=([(⟨(((((RN a1 i2).Phis).getD i7.toNat default).Args).getD i11.toNat 0),(((((RN a1 i2).Phis).getD i7.toNat default).From).getD i11.toNat 0),(1000:Int),((((RN a1 i2).Phis).getD i7.toNat default).Bits,(1:Int))⟩:C0)]:List C0)
def Kz(a1:TFunc):Option (List C0):=
 ((Ad (I5 a1) (([]:List C0),(0:Int))).bind (λx43=>(some x43)))
variable{v52:List C0}
theorem BL(h:Kz v3=some v52):sP 21 [(XF v3)] [] (AV.list 5 O5 default v52 (.own 20000)) [(Ni 20000 69 v52.length)]:=
 sG Tryz.func21 λΓ q=>gR q [1] [1] [(2,(AV.list 5 O5 default ([]:List C0) .exact))] [] (c1 (Bi 5 O5 (default:C0))) (gR q M1 [1] [(3,(AV.list 5 O5 default ([]:List C0) .exact))] [] (c1 (Bi 5 O5 (default:C0))) (Ae q Fe [1] (M6 (st':=(zO v3)) (Le.trans (Bk (st':=⟨[FZ,(3,(AV.list 5 O5 default ([]:List C0) .exact)),(4,Pz)],[(1,.row 25 (s7 v3))],[]⟩) Fe [1] q) (Le.trans (Np (t:=3) (nm:=5003) (sz':=5) (λi=>O5 (([]:List C0).getD i default)) 69 rfl rfl (.inl ⟨rfl,rfl⟩) (λh_=>absurd h_ (by decide))) (Bk (st':=(zO v3)) Fe Nh q))) (tL q h Fe Nh (λu (l1,i2)=>(Cs u [(nF l1),(4,(Az i2))] [(Ni 5003 69 l1.length)])) (λu l3=>aG Γ (.exit 0) (⟨[(nF l3)],[(Ni 5003 69 l3.length)],[]⟩:St)) (λ⟨l1,i2⟩ y h=>Ae q [1,3,4,16] Nh (gC h (λh=>tB h λx41 y41 h=>gJ y41 (λl4=>aG Γ .normal (⟨[FZ,(nF l4),(4,(Az i2))],[(1,.row 25 (s7 v3)),(Ni 5003 69 l4.length)],[]⟩:St)) (λy h=>tV q L4 Eu h λh=>Ae q Th Eu (tL q h Th Eu (λu (l6,i7)=>(Cs u [(nF l6),(6,(Az i7))] [(Ni 5003 69 l6.length)])) (λu l8=>aG Γ (.exit 2) (O1 L4 Eu u [(nF l8)] [(Ni 5003 69 l8.length)])) (λ⟨l6,i7⟩ y h=>Ae q [1,3,4,5,6,28] Eu (gC h (λh=>tV q [1,3,4,5,6,7] NI h λh=>Ae q ce NI (tL q h ce NI (λu (l10,i11)=>(Cs u [(nF l10),(8,(Az i11))] [(Ni 5003 69 l10.length)])) (λu l12=>aG Γ (.exit 4) (O1 Th Eu u [(nF l12)] [(Ni 5003 69 l12.length)])) (λ⟨l10,i11⟩ y h=>Ae q [1,3,4,5,6,7,8,40] NI (gC h (λh=>tC h λc13_ h=>tC h λc14_ h=>tC h λc15_ h=>gR q ce NI (Z50 58 (sy v3 i2 i7 i11) 59 l10) [] (c7 c13_ c14_ (B9 5 O5 (default:C0) (sy v3 i2 i7 i11)) (Eq.refl l10.length) c15_ (Kh 5 5003 O5 (default:C0) l10 (sy v3 i2 i7 i11)) (Ft l10 (sy v3 i2 i7 i11))) (Ae q ce NI (tN h))) λh=>tS h (gO (Bd (Bk Th Eu q))))) λx16 h=>gA (Ae q Th Eu (tN h)))) λh=>tS h (gO (Bd (Bk L4 Eu q))))) λx18 h=>gA (Ae q WE Eu (tL q h WE Eu (λu (l20,i21)=>(Cs u [(nF l20),(9,(Az i21))] [(Ni 5003 69 l20.length)])) (λu l22=>aG Γ (.exit 6) (O1 L4 Eu u [(nF l22)] [(Ni 5003 69 l22.length)])) (λ⟨l20,i21⟩ y h=>Ae q [1,3,4,5,9,64] Eu (gC h (λh=>tC h λc23_ h=>tB h λx24 y24 h=>tT q [1,3,4,5,9,10] NF [⟨[],[(20000,72)],(xM x24 20000),[(20000,.tok 2 63 x24.length)],[],[]⟩] (c2 c23_ (Ys y24)) (Ae q cY NF (tL q h cY NF (λu (l25,i26)=>(Cs u [(nF l25),(Ds 11 i26)] [(Ni 5003 69 l25.length)])) (λu l27=>aG Γ (.exit 8) (O1 WE Eu u [(nF l27)] [(Ni 5003 69 l27.length)])) (λ⟨l25,i26⟩ y h=>Ae q [1,3,4,5,9,10,11,76] NF (gC h (λh=>tC h λc28_ h=>tC h λc29_ h=>tC h λc30_ h=>tC h λc31_ h=>gR q cY NF (Z50 96 (s4 v3 i2 i21 i26 x24) 97 l25) [] (c8 c28_ c29_ c30_ (B9 5 O5 (default:C0) (s4 v3 i2 i21 i26 x24)) (Eq.refl l25.length) c31_ (Kh 5 5003 O5 (default:C0) l25 (s4 v3 i2 i21 i26 x24)) (Ft l25 (s4 v3 i2 i21 i26 x24))) (Ae q cY NF (tN h))) λh=>tS h (gO (Bd (Bk WE Eu q))))) λx32 h=>gA (Ae q WE Eu (tN h))))) λh=>tS h (gO (Bd (Bk L4 Eu q))))) λx34 h=>gA (tB h λx38 y38 h=>gJ y38 (λl36=>aG Γ .normal (⟨[FZ,(nF l36),(4,(Az i2)),PV],[(1,.row 25 (s7 v3)),(5,.row 57 [(AV.list 4 W0 default (RN v3 i2).Phis .none),(AV.list 6 PX default (RN v3 i2).Ops .none),(.int .i64 (RN v3 i2).End.Kind),(.int .i64 (RN v3 i2).End.Arg),(AV.list 1 Ax 0 (RN v3 i2).End.To .none)]),(Ni 5003 69 l36.length)],[]⟩:St)) (λy h=>Ae q [1,3,4,5,101] Eu (gC h (λh=>tC h λc37_ h=>gR q L4 Eu (Z50 111 (s6 v3 i2) 112 x34) [] (c5 (B9 5 O5 (default:C0) (s6 v3 i2)) (Eq.refl x34.length) c37_ (Kh 5 5003 O5 (default:C0) x34 (s6 v3 i2)) (Ft x34 (s6 v3 i2))) (tS h (gK (Bd Jj)))) λh=>tS h (gK (Bd (Bk L4 Eu q))))) (gA (Ae q [1,3,4,5,116] Eu (gC h (λh=>tC h λc40_ h=>gR q Fe Nh (Z50 124 (s5 v3 i2) 125 x38) [] (c5 (B9 5 O5 (default:C0) (s5 v3 i2)) (Eq.refl x38.length) c40_ (Kh 5 5003 O5 (default:C0) x38 (s5 v3 i2)) (Ft x38 (s5 v3 i2))) (tS h (gK (Bd Jj)))) λh=>tS h (gK (Bd (Bk Fe Nh q))))))))))) (gA (Ae q Fe Nh (tN h)))) λh=>tS h (gO (Bd (Bk [3] [5003] q))))) λx43 h=>gA (Ae q [2] [5003] (tS h (Be jh)))))))
def Iw(aC:TGraph)(aD:TGraph):Int->Option (LR Int (Unit ⊕ Bool)):=
 λ(i1:Int)=>(bif (decide (i1<(aC.Succ.length:Int))) then(Aw (A0 i1 aC.Succ.length) (Aw (A0 i1 aD.Succ.length) ((En (aC.Succ.getD i1.toNat []) (aD.Succ.getD i1.toNat [])).bind λx4=>(bif (!x4) then(some (.done (.inr false))) else(some (.next (w64 (i1+1)))))))) else(some (.done (.inl ()))))
def Ix(aC:TGraph)(aD:TGraph):Int->Option (LR Int (Unit ⊕ Bool)):=
 λ(i7:Int)=>(bif (decide (i7<(aC.Pred.length:Int))) then(Aw (A0 i7 aC.Pred.length) (Aw (A0 i7 aD.Pred.length) ((En (aC.Pred.getD i7.toNat []) (aD.Pred.getD i7.toNat [])).bind λx10=>(bif (!x10) then(some (.done (.inr false))) else(some (.next (w64 (i7+1)))))))) else(some (.done (.inl ()))))
def S1(Γ:Il)(aC:TGraph)(aD:TGraph)(r:Bool):Exit->St->Prop:=fK Tryz.prog Γ Tryz.f70.results.toList [] (.bool r) []
def Aby(aC:TGraph)(aD:TGraph):=(((aC.Succ.length:Int)!=(aD.Succ.length:Int))==false)
def Kv(aC:TGraph)(aD:TGraph):Option Bool:=
 (bif (bif ((aC.Succ.length:Int)!=(aD.Succ.length:Int)) then true else((aC.Pred.length:Int)!=(aD.Pred.length:Int))) then(some false) else((Ad (Iw aC aD) (0:Int)).bind (λx5=>(match x5 with|(.inl _)=>((Ad (Ix aC aD) (0:Int)).bind (λx11=>(match x11 with|(.inl _)=>(some true)|(.inr r13)=>(some r13))))|(.inr r14)=>(some r14)))))
variable{v53:TGraph}
theorem BH(h:Kv v19 v53=some v5):sP 70 [(.agg (X4 v19)),(.agg (X4 v53))] [] (.bool v5) []:=
 sG Tryz.func70 λΓ q=>Ae q Cn Cn (tU q [2,3,22] Cn (gI6 (Aby v19 v53) (c1 (Kl ((v19.Succ.length:Int)!=(v53.Succ.length:Int))))) (gC h (λh=>Ae q [4] [] (tS h (Be []))) λh=>Ae q [2,3,5] Cn (tL q h [2,3,5] Cn (λu i1=>(Cs u [(5,(Az i1))] [])) (λu x_=>match x_ with|(.inl _)=>aG Γ (.exit 0) (O1 Cn Cn u [] [])|(.inr r_)=>aR (S1 Γ v19 v53 r_)) (λi1 y h=>Ae q [2,3,5,27] Cn (gC h (λh=>tC h λc2_ h=>tC h λc3_ h=>tB h λx4 y4 h=>tT q [2,3,5,41] Cn [(Z8 x4)] (c3 c2_ c3_ (M7 y4)) (gC h (λh=>Ae q [4] [] (tS h (gO (Lc (Hu [] (Le.refl _ _)))))) λh=>Ae q [2,3,5] Cn (tN h))) λh=>tS h (gO (Bd (Bk Cn Cn q))))) λx5 h=>(match x5,h with | .inl _,h=>gA (Ae q [2,3,6] Cn (tL q h [2,3,6] Cn (λu i7=>(Cs u [(6,(Az i7))] [])) (λu x_=>match x_ with|(.inl _)=>aG Γ (.exit 2) (⟨[],[],[]⟩:St)|(.inr r_)=>aR (S1 Γ v19 v53 r_)) (λi7 y h=>Ae q [2,3,6,46] Cn (gC h (λh=>tC h λc8_ h=>tC h λc9_ h=>tB h λx10 y10 h=>tT q [2,3,6,60] Cn [(Z8 x10)] (c3 c8_ c9_ (M7 y10)) (gC h (λh=>Ae q [4] [] (tS h (gO (Lc (Hu [] (Le.refl _ _)))))) λh=>Ae q [2,3,6] Cn (tN h))) λh=>tS h (gO (Bd (Bk [] [] q))))) λx11 h=>(match x11,h with | .inl _,h=>gA (Ae q [4] [] (tS h (Be []))) | .inr r13,h=>Pu (λst' hk=>tS h (gK hk))))) | .inr r14,h=>Pu (λst' hk=>tS h (gK hk))))))
def Lo(a9:TGraph):Option Bool:=
 ((Ig a9.Succ).bind λx1=>((bif ((x1.2==0)==true) then Kv x1.1 a9 else some false).bind λx2=>(some (bif (x1.2==0) then x2 else false))))
theorem DK(h:Lo v19=some v5):sP 44 [(.agg (X4 v19))] [] (.bool v5) []:=
 sG Tryz.func44 λΓ q=>Ae q [1] [1] (tB h λx1 y1 h=>tT q Fe M1 [(n7 x1.1 x1.2)] (c1 (Rz y1)) (tB h λx2 y2 h=>tT q [2] [] [(Z8 x2)] (Mn ((x1.2==0)==true) (c2 (λ(hg:((x1.2==0)==true)=true)=>(BH (B0 hg y2))) (Nn (x1.2==0)))) (tS h (Be []))))
def C7(a9:TGraph)(x2:List Bool)(i4:Int)(l5:List (List Bool))(x9:List Bool):YJ->Option q9:=
 λ((i10,l11):YJ)=>(bif (decide (i10<(a9.Succ.length:Int))) then(Aw (A0 i4 l5.length) (Aw (A0 i10 x2.length) (Aw (((x2.getD i10.toNat false)==true)=true->(A0 i10 x9.length)) (Aw (A0 i10 l11.length) (some (.next ((w64 (i10+1)),(l11.set i10.toNat (bif (x2.getD i10.toNat false) then(!(x9.getD i10.toNat false)) else false))))))))) else(some (.done l11)))
abbrev Abq:=(Int×List (List Bool))
def Iy(a9:TGraph)(a7:Int)(x2:List Bool):Abq->Option (LR (Int×List (List Bool)) (List (List Bool))):=
 λ((i4,l5):Abq)=>(bif (decide (i4<(a9.Succ.length:Int))) then(Aw (0<=(a9.Succ.length:Int)/\(a9.Succ.length:Int)<=(a9.Succ.length:Int)/\(a9.Succ.length:Int)<=(room:Int)) (Aw (A0 i4 l5.length) ((C3 a9 a7 i4).bind λx9=>((Ad (C7 a9 x2 i4 l5 x9) ((0:Int),(List.replicate (a9.Succ.length:Int).toNat false))).bind (λx17=>(some (.next ((w64 (i4+1)),(l5.set i4.toNat x17))))))))) else(some (.done l5)))
def C8(a9:TGraph)(l6:List (List Bool))(i22:Int)(i30:Int):(Bool×Int)->Option (LR (Bool×Int) Bool):=
 λ((b36,i37):(Bool×Int))=>(bif (decide (i37<(a9.Succ.length:Int))) then(Aw (((b36==true)&&((i37==i22)==false))=true->(A0 i37 l6.length)) (Aw (((b36==true)&&((i37==i22)==false))=true->(A0 i22 (l6.getD i37.toNat []).length)) (Aw (((b36==true)&&((bif (i37==i22) then true else(!((l6.getD i37.toNat []).getD i22.toNat false)))==false))=true->(A0 i37 l6.length)) (Aw (((b36==true)&&((bif (i37==i22) then true else(!((l6.getD i37.toNat []).getD i22.toNat false)))==false))=true->(A0 i30 (l6.getD i37.toNat []).length)) (some (.next ((bif b36 then(bif (bif (i37==i22) then true else(!((l6.getD i37.toNat []).getD i22.toNat false))) then true else((l6.getD i37.toNat []).getD i30.toNat false)) else false),(w64 (i37+1))))))))) else(some (.done b36)))
def B5(a9:TGraph)(a7:Int)(l6:List (List Bool))(i22:Int):Xl->Option q8:=
 λ((i30,l31):Xl)=>(bif (bif (decide (i30<(a9.Succ.length:Int))) then(i22 !=a7) else false) then(Option.bind (α:=Am) (Aw (((i30==i22)==false)=true->(A0 i30 l6.length)) (Aw (((i30==i22)==false)=true->(A0 i22 (l6.getD i30.toNat []).length)) (bif (bif (i30==i22) then true else(!((l6.getD i30.toNat []).getD i22.toNat false))) then(some l31) else((Ad (C8 a9 l6 i22 i30) (true,(0:Int))).bind (λx43=>(bif x43 then(Aw (A0 i22 l31.length) (some (l31.set i22.toNat i30))) else(some l31))))))) (λx46=>(some (.next ((w64 (i30+1)),x46))))) else(some (.done l31)))
def C9(a9:TGraph)(a7:Int)(l6:List (List Bool)):Xl->Option q8:=
 λ((i22,l23):Xl)=>(bif (decide (i22<(a9.Succ.length:Int))) then(Aw (A0 i22 l23.length) (Option.bind (α:=Am) (bif (i22==a7) then(Aw (A0 i22 (l23.set i22.toNat (-2:Int)).length) (some ((l23.set i22.toNat (-2:Int)).set i22.toNat (-1:Int)))) else(some (l23.set i22.toNat (-2:Int)))) (λx28=>((Ad (B5 a9 a7 l6 i22) ((0:Int),x28)).bind (λx48=>(some (.next ((w64 (i22+1)),x48)))))))) else(some (.done l23)))
def Qg(a9:TGraph):=(a9.Succ.length:Int)
def gY:=(λn_=>B3 n_ [37,75])
def Qf(l5:List (List Bool)):=(λi=>uD (l5.getD i []))
def RO(a9:TGraph):=(List.replicate (Qg a9).toNat false)
def dH(a9:TGraph):List AV:=[(.vsl 46 (RO a9).length)]
def nq(i30:Int)(i22:Int):=((i30==i22)==false)
def XB(l23:Am)(i22:Int):=(l23.set i22.toNat (-2:Int))
def lS(l11:List Bool):=(λi=>eB (l11.getD i false))
def lR:=(λn_=>B3 n_ [2,35,37,46])
def RP:=(λn_=>B3 n_ [2,35,37,46,51])
def XA(a9:TGraph):=(λi=>eB ((RO a9).getD i false))
def PP(l11:List Bool)(i10:Int)(x2:List Bool)(x9:List Bool):=(l11.set i10.toNat (bif (x2.getD i10.toNat false) then(!(x9.getD i10.toNat false)) else false))
def gX(l11:List Bool)(i10:Int)(x2:List Bool)(x9:List Bool):=(λi=>eB ((PP l11 i10 x2 x9).getD i false))
def lQ(b36:Bool)(i37:Int)(i22:Int):=((b36==true)&&((i37==i22)==false))
def tD:List YK:=[(4,oE)]
def zP(x1:Bool)(a7:Int):=(bif (!x1) then true else(decide (a7<0)))
def Qk(a9:TGraph):List AV:=[(WT a9.Succ),(WT a9.Pred)]
def zQ:=(Z49:St)
def lP(b36:Bool)(i37:Int)(i22:Int)(x19:List (List Bool)):=((b36==true)&&((bif (i37==i22) then true else(!((x19.getD i37.toNat []).getD i22.toNat false)))==false))
def gW(a7:Int)(a9:TGraph)(x2:List Bool)(l5:List (List Bool))(i4:Int):List YK:=[(1,(Az a7)),V8,(5,(Az (Qg a9))),(6,(XE x2 35)),(Ud 37 l5.length),(8,(Az i4))]
def tA(a7:Int)(a9:TGraph)(x2:List Bool)(l5:List (List Bool))(i4:Int):List YK:=[(1,(Az a7)),V8,(5,(Az (Qg a9))),(6,(XE x2 35)),(Ud 37 l5.length),(8,(.int .i64 (w64 (i4+1))))]
def s9(a7:Int)(a9:TGraph)(x2:List Bool)(l5:List (List Bool))(i4:Int)(x9:List Bool)(i10:Int):List YK:=[(1,(Az a7)),V8,(5,(Az (Qg a9))),(6,(XE x2 35)),(Ud 37 l5.length),(8,(Az i4)),(9,(XE x9 51)),(Ds 10 i10)]
def np(a7:Int)(a9:TGraph)(x2:List Bool)(l5:List (List Bool))(i4:Int)(x9:List Bool):List YK:=[(1,(Az a7)),V8,(5,(Az (Qg a9))),(6,(XE x2 35)),(Ud 37 l5.length),(8,(Az i4)),(9,(XE x9 51)),(10,Pz)]
def s8(a7:Int)(a9:TGraph)(x2:List Bool)(l5:List (List Bool))(i4:Int)(x9:List Bool)(i10:Int):List YK:=[(1,(Az a7)),V8,(5,(Az (Qg a9))),(6,(XE x2 35)),(Ud 37 l5.length),(8,(Az i4)),(9,(XE x9 51)),(10,(.int .i64 (w64 (i10+1))))]
def zR(a7:Int)(a9:TGraph)(x2:List Bool)(l5:List (List Bool))(i4:Int)(x9:List Bool)(i10:Int):List YK:=[(1,(Az a7)),V8,(5,(Az (Qg a9))),(6,(XE x2 35)),(Ud 37 l5.length),(8,(Az i4)),(9,(XE x9 51)),(Ds 10 i10),(54,(.bool (decide (i10<(Qg a9)))))]
def Kx(a9:TGraph)(a7:Int):Option Am:=
 ((Lo a9).bind λx1=>(bif (bif (bif (!x1) then true else(decide (a7<0))) then true else(decide ((a9.Succ.length:Int)<=a7))) then(some ([]:Am)) else((C3 a9 a7 (-1:Int)).bind λx2=>(Aw (0<=(a9.Succ.length:Int)/\(a9.Succ.length:Int)<=(a9.Succ.length:Int)/\(a9.Succ.length:Int)<=(room:Int)) ((Ad (Iy a9 a7 x2) ((0:Int),(List.replicate (a9.Succ.length:Int).toNat ([]:List Bool)))).bind (λx19=>(Aw (0<=(a9.Succ.length:Int)/\(a9.Succ.length:Int)<=(a9.Succ.length:Int)/\(a9.Succ.length:Int)<=(room:Int)) ((Ad (C9 a9 a7 x19) ((0:Int),(List.replicate (a9.Succ.length:Int).toNat (0:Int)))).bind (λx50=>(some x50))))))))))
theorem BJ(h:Kx v19 v4=some v0):sP 23 (rx v19 v4) [] (WU v0 20000) [(20000,.tok 1 3 v0.length)]:=
 sG Tryz.func23 λΓ q=>have hΓ:=q.own;gR q Pe [2] tD [] (c1 (Bi 1 Ax (0:Int))) (tB h λx1 y1 h=>tT q [1,2,29] [2] [(Z8 x1)] (dq (DK y1) (gI ((!x1)==false)) (Kl (!x1)) (f5 ((zP x1 v4)==false) (c1 (Kl (zP x1 v4))))) (gC h (λh=>gR q [4] [] tD [] (c1 (Bi 1 Ax (0:Int))) (Qi (⟨tD,[],[]⟩:St) (tS h (gK (e:=.ret) (Hu cl (show Le Γ _ zQ from Le.trans (Bk (st':=⟨tD,[],[]⟩) [4] [] q) (Le.trans (Np (t:=4) (nm:=6004) (sz':=1) (λi=>Ax (([]:Am).getD i 0)) 3 rfl rfl (.inl ⟨rfl,rfl⟩) (λh_=>absurd h_ (by decide))) (Bk (st':=zQ) [4] [6004] q)))))))) λh=>Ae q Wo [2] (tB h λx2 y2 h=>tT q [1,2,5,6] [2,35] [⟨[],[(20000,35)],(XE x2 20000),[(Sp 20000 x2.length)],[],[]⟩] (c1 (Ml y2)) (tV q jd NL h λh=>by exact M6 (Le.trans (Ss 37 (show ∀ k_,k_<((Qg v19).toNat)->AVleL ((λi_=>AV.eraseAll (λn_=>B3 n_ NL) ((λ_=>[dN]) i_)) k_) ((λi=>uD ((List.replicate (Qg v19).toNat ([]:List Bool)).getD i [])) k_) from(λk hk=>Mh (e:=uD) (d:=[]) (.cons (λ_ _ _ _ _ hh=>AVle.untag _ _ _ _ _ (He _ _ _ _ _ hh)) .nil) _ k (Mm hk)))) (Su (λ(k_:Nat) u=>(Cs u [(Ud 37 k_)] [(37,.arr 1 93 k_ (λi=>uD ((List.replicate (Qg v19).toNat ([]:List Bool)).getD i [])))])) (show(Qg v19).toNat=(List.replicate (Qg v19).toNat ([]:List Bool)).length from(K3 ..).symm))) (Ae q bM NL (tL q h bM NL (λu (i4,l5)=>(Cs u [(Ud 37 l5.length),(8,(Az i4))] [(37,.arr 1 93 l5.length (Qf l5))])) (λu l6=>aG Γ (.exit 0) (O1 [1,5,7] [37] u [(Ud 37 l6.length)] [(37,.arr 1 93 l6.length (λi=>uD (l6.getD i [])))])) (λ⟨i4,l5⟩ y h=>Ae q [1,2,5,6,7,8,40] NL (gC h (λh=>tC h λc7_ h=>tC h λc8_ h=>tU q bM ji (c3 c7_ c8_ (Eq.refl l5.length)) (Qi (⟨(gW v4 v19 x2 l5 i4),[(P0 72 (Qk v19)),(Sp 35 x2.length),(37,.arr 1 93 l5.length (λi_=>AV.eraseAll lR ((E0 (Qf l5) i4.toNat 0 [(.vsl 46 (Qg v19).toNat)]) i_))),(46,.arr 1 4 ((Qg v19).toNat) (λi_=>AV.eraseAll lR ((λ_=>[(.bool false)]) i_)))],[]⟩:St) (by exact M6 (Le.trans (Le.trans (Ka (st':=⟨(gW v4 v19 x2 l5 i4),[(P0 72 (Qk v19)),(Sp 35 x2.length),(37,.arr 1 93 l5.length (λi_=>AV.eraseAll lR ((E0 (Qf l5) i4.toNat 0 [(.vsl 46 (Qg v19).toNat)]) i_))),(46,.arr 1 4 ((Qg v19).toNat) (XA v19))],[]⟩) (TmpsLe.refl _) (.same (.same (.same (.arr (λk hk=>Mh (e:=eB) (d:=false) (.cons (AVle.refl _) .nil) _ k (Mm hk)) .nil))))) (Ic (Bx (λk_:Nat=>(⟨(gW v4 v19 x2 l5 i4),[(P0 72 (Qk v19)),(Sp 35 x2.length),(xL l5.length lR (Qf l5) i4.toNat k_),(46,.arr 1 4 k_ (XA v19))],[]⟩:St)) (show(Qg v19).toNat=(RO v19).length from(K3 ..).symm)))) (Ka (st':=⟨(gW v4 v19 x2 l5 i4),[(P0 72 (Qk v19)),(Sp 35 x2.length),(37,.arr 1 93 l5.length (E0 (Qf l5) i4.toNat 0 (dH v19))),(46,.arr 1 4 ((RO v19).length) (XA v19))],[]⟩) (TmpsLe.refl _) (.same (.same (.arr (M2 (λ_=>rfl) rfl) (.same .nil)))))) (tB h λx9 y9 h=>tT q [1,2,5,6,7,8,9] WQ [⟨[],[(20000,51)],(XE x9 20000),[(Sp 20000 x9.length)],[],[]⟩] (c1 (Ml y9)) (Qi (⟨[(1,(Az v4)),V8,(5,(Az (Qg v19))),(6,(XE x2 35)),(Ud 37 l5.length),(8,(Az i4)),(9,(XE x9 51))],[(P0 72 (Qk v19)),(Sp 35 x2.length),(37,.arr 1 93 l5.length (λi_=>AV.eraseAll RP ((E0 (Qf l5) i4.toNat 0 (dH v19)) i_))),(46,.arr 1 4 ((RO v19).length) (XA v19)),(Sp 51 x9.length)],[]⟩:St) (M6 (Ka (st':=⟨[(1,(Az v4)),V8,(5,(Az (Qg v19))),(6,(XE x2 35)),(Ud 37 l5.length),(8,(Az i4)),(9,(XE x9 51))],[(P0 72 (Qk v19)),(Sp 35 x2.length),(37,.arr 1 93 l5.length (E0 (Qf l5) i4.toNat 0 (dH v19))),(46,.arr 1 4 ((RO v19).length) (XA v19)),(Sp 51 x9.length)],[]⟩) (TmpsLe.refl _) (.same (.same (.arr (M2 (λ_=>rfl) rfl) (.same (.same .nil)))))) (Ae q ft WQ (Qi (⟨(np v4 v19 x2 l5 i4 x9),[(P0 72 (Qk v19)),(Sp 35 x2.length),(37,.arr 1 93 l5.length (λi_=>AV.eraseAll RP ((E0 (Qf l5) i4.toNat 0 (dH v19)) i_))),(46,.arr 1 4 ((RO v19).length) (XA v19)),(Sp 51 x9.length)],[]⟩:St) (M6 (Ka (st':=⟨(np v4 v19 x2 l5 i4 x9),[(P0 72 (Qk v19)),(Sp 35 x2.length),(37,.arr 1 93 l5.length (E0 (Qf l5) i4.toNat 0 (dH v19))),(46,.arr 1 4 ((RO v19).length) (XA v19)),(Sp 51 x9.length)],[]⟩) (TmpsLe.refl _) (.same (.same (.arr (M2 (λ_=>rfl) rfl) (.same (.same .nil)))))) (M6 (st':=⟨(np v4 v19 x2 l5 i4 x9),[(P0 72 (Qk v19)),(Sp 35 x2.length),(37,.arr 1 93 l5.length (E0 (Qf l5) i4.toNat 0 (dH v19))),(46,.arr 1 4 ((RO v19).length) (XA v19)),(Sp 51 x9.length)],[]⟩) (Le.trans (Le.trans (Bk (st':=⟨(np v4 v19 x2 l5 i4 x9),[(P0 72 (Qk v19)),(Sp 35 x2.length),(37,.arr 1 93 l5.length (λi_=>AV.eraseAll RP ((E0 (Qf l5) i4.toNat 0 (dH v19)) i_))),(46,.arr 1 4 ((RO v19).length) (XA v19)),(Sp 51 x9.length)],[]⟩) ft WQ q) (Ka (st':=⟨(np v4 v19 x2 l5 i4 x9),[(P0 72 (Qk v19)),(Sp 35 x2.length),(37,.arr 1 93 l5.length (E0 (Qf l5) i4.toNat 0 (dH v19))),(46,.arr 1 4 ((RO v19).length) (XA v19)),(Sp 51 x9.length)],[]⟩) (TmpsLe.refl _) (.same (.same (.arr (M2 (λ_=>rfl) rfl) (.same (.same .nil))))))) (Ic (by kernel_rfl))) (tB h λx17 y17 h=>gL0 y17 (λu (i10,l11)=>(Cs u [(Ds 10 i10)] [(n9 l5.length (Qf l5) i4.toNat l11.length),(46,.arr 1 4 l11.length (lS l11))])) (λu l12=>aG Γ (.exit 2) (⟨(gW v4 v19 x2 l5 i4),[(P0 72 (Qk v19)),(Sp 35 x2.length),(n9 l5.length (Qf l5) i4.toNat l12.length),(lf 46 l12)],[]⟩:St)) (λ⟨i10,l11⟩ y h=>Ae q [1,2,5,6,7,8,9,10,54] WQ (Qi (⟨(zR v4 v19 x2 l5 i4 x9 i10),[(P0 72 (Qk v19)),(Sp 35 x2.length),(xL l5.length RP (Qf l5) i4.toNat l11.length),(46,.arr 1 4 l11.length (lS l11)),(Sp 51 x9.length)],[]⟩:St) (M6 (Ka (st':=⟨(zR v4 v19 x2 l5 i4 x9 i10),[(P0 72 (Qk v19)),(Sp 35 x2.length),(n9 l5.length (Qf l5) i4.toNat l11.length),(46,.arr 1 4 l11.length (lS l11)),(Sp 51 x9.length)],[]⟩) (TmpsLe.refl _) (.same (.same (.arr (M2 (λ_=>rfl) rfl) (.same (.same .nil)))))) (gC h (λh=>tC h λc13_ h=>tC h λc14_ h=>tC h λc15_ h=>tC h λc16_ h=>gR q ft WQ [(60,(.vsl 46 l11.length))] [] (XI c13_ (Eq.refl l5.length) (show(AVle (((E0 (Qf l5) i4.toNat 0 [(.vsl 46 l11.length)]) i4.toNat).getD 0 .any) (.vsl 46 l11.length)) from mG) c14_ (Mn ((x2.getD i10.toNat false)==true) (ci c15_ (Mn ((x2.getD i10.toNat false)==true) (c3 (Nn (x2.getD i10.toNat false)) c16_ (Eq.refl l11.length)))))) (Qi (⟨(s9 v4 v19 x2 l5 i4 x9 i10),[(P0 72 (Qk v19)),(Sp 35 x2.length),(xL l5.length RP (Qf l5) i4.toNat l11.length),(46,.arr 1 4 l11.length (λi_=>AV.eraseAll RP ((E0 (lS l11) i10.toNat 0 [(.bool (bif (x2.getD i10.toNat false) then(!(x9.getD i10.toNat false)) else false))]) i_))),(Sp 51 x9.length)],[]⟩:St) (M6 (Le.trans (Le.trans (Ka (st':=⟨(s9 v4 v19 x2 l5 i4 x9 i10),[(P0 72 (Qk v19)),(Sp 35 x2.length),(xL l5.length RP (Qf l5) i4.toNat l11.length),(46,.arr 1 4 l11.length (gX l11 i10 x2 x9)),(Sp 51 x9.length)],[]⟩) (TmpsLe.refl _) (.same (.same (.same (.arr (Bc (Cl ..).symm (λk_ hk_=>(Bx (AV.eraseAll RP) ((Fs (λ_ _=>rfl) (Gr c16_) rfl) k_ hk_)).trans rfl)) (.same .nil)))))) (Ic (Bx (λk_:Nat=>(⟨(s9 v4 v19 x2 l5 i4 x9 i10),[(P0 72 (Qk v19)),(Sp 35 x2.length),(xL l5.length RP (Qf l5) i4.toNat k_),(46,.arr 1 4 k_ (gX l11 i10 x2 x9)),(Sp 51 x9.length)],[]⟩:St)) (show l11.length=(PP l11 i10 x2 x9).length from(Cl ..).symm)))) (Ka (st':=⟨(s9 v4 v19 x2 l5 i4 x9 i10),[(P0 72 (Qk v19)),(Sp 35 x2.length),(37,.arr 1 93 l5.length (E0 (Qf l5) i4.toNat 0 [(.vsl 46 (PP l11 i10 x2 x9).length)])),(46,.arr 1 4 ((PP l11 i10 x2 x9).length) (gX l11 i10 x2 x9)),(Sp 51 x9.length)],[]⟩) (TmpsLe.refl _) (.same (.same (.arr (M2 (λ_=>rfl) rfl) (.same (.same .nil))))))) (Ae q ft WQ (Qi (⟨(s8 v4 v19 x2 l5 i4 x9 i10),[(P0 72 (Qk v19)),(Sp 35 x2.length),(37,.arr 1 93 l5.length (λi_=>AV.eraseAll RP ((E0 (Qf l5) i4.toNat 0 [(.vsl 46 (PP l11 i10 x2 x9).length)]) i_))),(46,.arr 1 4 ((PP l11 i10 x2 x9).length) (gX l11 i10 x2 x9)),(Sp 51 x9.length)],[]⟩:St) (tS h (gN (Le.trans (Ka (st':=⟨(s8 v4 v19 x2 l5 i4 x9 i10),[(P0 72 (Qk v19)),(Sp 35 x2.length),(37,.arr 1 93 l5.length (E0 (Qf l5) i4.toNat 0 [(.vsl 46 (PP l11 i10 x2 x9).length)])),(46,.arr 1 4 ((PP l11 i10 x2 x9).length) (gX l11 i10 x2 x9)),(Sp 51 x9.length)],[]⟩) (TmpsLe.refl _) (.same (.same (.arr (M2 (λ_=>rfl) rfl) (.same (.same .nil)))))) (Le.trans (Le.trans (Bk (st':=⟨(s8 v4 v19 x2 l5 i4 x9 i10),[(P0 72 (Qk v19)),(Sp 35 x2.length),(37,.arr 1 93 l5.length (λi_=>AV.eraseAll RP ((E0 (Qf l5) i4.toNat 0 [(.vsl 46 (PP l11 i10 x2 x9).length)]) i_))),(46,.arr 1 4 ((PP l11 i10 x2 x9).length) (gX l11 i10 x2 x9)),(Sp 51 x9.length)],[]⟩) ft WQ q) (Ka (st':=⟨(s8 v4 v19 x2 l5 i4 x9 i10),[(P0 72 (Qk v19)),(Sp 35 x2.length),(37,.arr 1 93 l5.length (E0 (Qf l5) i4.toNat 0 [(.vsl 46 (PP l11 i10 x2 x9).length)])),(46,.arr 1 4 ((PP l11 i10 x2 x9).length) (gX l11 i10 x2 x9)),(Sp 51 x9.length)],[]⟩) (TmpsLe.refl _) (.same (.same (.arr (M2 (λ_=>rfl) rfl) (.same (.same .nil))))))) (Ic (by kernel_rfl))))))))))) λh=>tS h (gO (Bd (Le.trans (Le.trans (Bk (st':=⟨(gW v4 v19 x2 l5 i4),[(P0 72 (Qk v19)),(Sp 35 x2.length),(xL l5.length lR (Qf l5) i4.toNat l11.length),(46,.arr 1 4 l11.length (lS l11))],[]⟩) bM ji q) (Ka (st':=⟨(gW v4 v19 x2 l5 i4),[(P0 72 (Qk v19)),(Sp 35 x2.length),(n9 l5.length (Qf l5) i4.toNat l11.length),(46,.arr 1 4 l11.length (lS l11))],[]⟩) (TmpsLe.refl _) (.same (.same (.arr (M2 (λ_=>rfl) rfl) (.same .nil)))))) (Ic (by kernel_rfl))))))))) (gA (Ae q bM ji (Qi (⟨(tA v4 v19 x2 l5 i4),[(P0 72 (Qk v19)),(Sp 35 x2.length),(xL l5.length lR (Qf l5) i4.toNat x17.length),(lf 46 x17)],[]⟩:St) (tS h (gN (Le.trans (Le.trans (Ka (st':=⟨(tA v4 v19 x2 l5 i4),[(P0 72 (Qk v19)),(Sp 35 x2.length),(n9 l5.length (Qf l5) i4.toNat x17.length),(lf 46 x17)],[]⟩) (TmpsLe.refl _) (.same (.same (.arr (M2 (λ_=>rfl) rfl) (.same .nil))))) (Le.trans (Le.trans (Le.trans (F0 (nm:=46) (sz:=1) (n:=x17.length) (e:=4) (f:=(λi=>eB (x17.getD i false))) (g:=(λi=>eB (x17.getD i false))) rfl trivial (λ_ _=>rfl) (by rw[hΓ];rfl)) (Ic (st':=⟨(tA v4 v19 x2 l5 i4),[(P0 72 (Qk v19)),(Sp 35 x2.length),(37,.arr 1 93 l5.length (λi_=>AV.frwAll 46 1 x17.length (λi=>eB (x17.getD i false)) ((E0 (Qf l5) i4.toNat 0 [(.vsl 46 x17.length)]) i_))),(Sp 46 x17.length)],[]⟩) (by kernel_rfl))) (Ka (st':=⟨(tA v4 v19 x2 l5 i4),[(P0 72 (Qk v19)),(Sp 35 x2.length),(37,.arr 1 93 l5.length (λi=>uD ((l5.set i4.toNat x17).getD i []))),(Sp 46 x17.length)],[]⟩) (TmpsLe.refl _) (.same (.same (.arr (pY (λ_=>rfl) (λ_=>rfl) rfl) (.same .nil)))))) (Ic (Bx (λk_:Nat=>(⟨[(1,(Az v4)),V8,(5,(Az (Qg v19))),(6,(XE x2 35)),(Ud 37 k_),(8,(.int .i64 (w64 (i4+1))))],[(P0 72 (Qk v19)),(Sp 35 x2.length),(37,.arr 1 93 k_ (λi=>uD ((l5.set i4.toNat x17).getD i []))),(Sp 46 x17.length)],[]⟩:St)) (show l5.length=(l5.set i4.toNat x17).length from(Cl ..).symm))))) (Bk bM NL q)))))))))))))))))) λh=>tS h (gO (Bd (Bk [1,5,7] [37] q))))) λx19 h=>gA (tV q [1,5,7,11] Lj h λh=>by exact M6 (Le.trans (Ss 75 (show ∀ k_,k_<((Qg v19).toNat)->AVleL ((λi_=>AV.eraseAll gY ((λ_=>[Pz]) i_)) k_) ((λi=>Ax ((List.replicate (Qg v19).toNat (0:Int)).getD i 0)) k_) from(λk hk=>Mh (e:=Ax) (d:=(0:Int)) (.cons (AVle.refl _) .nil) _ k (Mm hk)))) (Su (λ(k_:Nat) u=>(Cs u [(11,(.vsl 75 k_))] [(75,.arr 1 3 k_ (λi=>Ax ((List.replicate (Qg v19).toNat (0:Int)).getD i 0)))])) (show(Qg v19).toNat=(List.replicate (Qg v19).toNat (0:Int)).length from(K3 ..).symm))) (Ae q PH Lj (tL q h PH Lj (λu (i22,l23)=>(Cs u [(11,(.vsl 75 l23.length)),(Ds 12 i22)] [(AU 75 l23)])) (λu l24=>aG Γ (.exit 4) (⟨[(11,(.vsl 75 l24.length))],[(AU 75 l24)],[]⟩:St)) (λ⟨i22,l23⟩ y h=>Ae q [1,5,7,11,12,78] Lj (gC h (λh=>tC h λc25_ h=>tU q PH Lj (c2 c25_ (Eq.refl l23.length)) (M6 (Le.trans (Ss 75 (show ∀ k_,k_<l23.length->AVleL ((λi_=>AV.eraseAll gY ((E0 (λi=>Ax (l23.getD i 0)) i22.toNat 0 [(.int .i64 (-2:Int))]) i_)) k_) ((λi=>Ax ((XB l23 i22).getD i 0)) k_) from(Bc (Cl ..).symm (λk_ hk_=>(Bx (AV.eraseAll gY) ((Fs (λ_ _=>rfl) (Gr c25_) rfl) k_ hk_)).trans rfl)))) (Su (λ(k_:Nat) u=>(Cs u [(11,(.vsl 75 k_))] [(75,.arr 1 3 k_ (λi=>Ax ((XB l23 i22).getD i 0)))])) (show l23.length=(XB l23 i22).length from(Cl ..).symm))) (tB h λx28 y28 h=>gJ y28 (λl26=>aG Γ .normal (⟨[(1,(Az v4)),(5,(Az (Qg v19))),(Ud 37 x19.length),(11,(.vsl 75 l26.length)),(Ds 12 i22)],[(37,.arr 1 93 x19.length (λi=>uD (x19.getD i []))),(AU 75 l26)],[]⟩:St)) (λy h=>Ae q [1,5,7,11,12,86] Lj (gC h (λh=>tC h λc27_ h=>tU q PH Lj (c2 c27_ (Eq.refl ((XB l23 i22).length))) (tS h (gK (Bd (Le.trans (Le.trans (Ss 75 (show ∀ k_,k_<((XB l23 i22).length)->AVleL ((λi_=>AV.eraseAll gY ((E0 (λi=>Ax ((XB l23 i22).getD i 0)) i22.toNat 0 [(.int .i64 (-1:Int))]) i_)) k_) ((λi=>Ax (((XB l23 i22).set i22.toNat (-1:Int)).getD i 0)) k_) from(Bc (Cl ..).symm (λk_ hk_=>(Bx (AV.eraseAll gY) ((Fs (λ_ _=>rfl) (Gr c27_) rfl) k_ hk_)).trans rfl)))) (Su (λ(k_:Nat) u=>(Cs u [(11,(.vsl 75 k_))] [(75,.arr 1 3 k_ (λi=>Ax (((XB l23 i22).set i22.toNat (-1:Int)).getD i 0)))])) (show(XB l23 i22).length=((XB l23 i22).set i22.toNat (-1:Int)).length from(Cl ..).symm))) Jj))))) λh=>tS h (gK (Bd (Bk PH Lj q))))) (gA (Ae q bK Lj (tL q h bK Lj (λu (i30,l31)=>(Cs u [(11,(.vsl 75 l31.length)),(Ds 13 i30)] [(AU 75 l31)])) (λu l32=>aG Γ (.exit 6) (O1 PH Lj u [(11,(.vsl 75 l32.length))] [(AU 75 l32)])) (λ⟨i30,l31⟩ y h=>tU q [1,5,7,11,12,13,97] Lj (Mn ((decide (i30<(Qg v19)))==true) (c1 (Nn (decide (i30<(Qg v19)))))) (gC h (λh=>tB h λx46 y46 h=>gJ y46 (λl33=>aG Γ .normal (⟨[(1,(Az v4)),(5,(Az (Qg v19))),(Ud 37 x19.length),(11,(.vsl 75 l33.length)),(Ds 12 i22),(Ds 13 i30)],[(37,.arr 1 93 x19.length (λi=>uD (x19.getD i []))),(AU 75 l33)],[]⟩:St)) (λy h=>tC h λc34_ h=>tC h λc35_ h=>tU q [1,5,7,11,12,13,112] Lj (Mn (nq i30 i22) (dq c34_ (gI (nq i30 i22)) (show((nq i30 i22)=true->(x19.length=x19.length)) from(λhg=>rfl)) (Mn (nq i30 i22) (ci c35_ (Mn (nq i30 i22) (c1 (Kl (i30==i22)))))))) (gC h (λh=>tS h (gK (Bd (Bk bK Lj q)))) λh=>tW q jP Lj lB Lj (tL q h lB Lj (λu (b36,i37)=>(Cs u [(14,(.bool b36)),(Ds 15 i37)] [])) (λu b38=>aG Γ (.exit 8) (O1 jP Lj u [(14,(.bool b38))] [])) (λ⟨b36,i37⟩ y h=>Ae q [1,5,7,11,12,13,14,15,115] Lj (gC h (λh=>tC h λc39_ h=>tC h λc40_ h=>tC h λc41_ h=>tC h λc42_ h=>tU q lB Lj (Xu (b36==true) (Mn (lQ b36 i37 i22) (dq c39_ (gI (lQ b36 i37 i22)) (show((lQ b36 i37 i22)=true->(x19.length=x19.length)) from(λhg=>rfl)) (Mn (lQ b36 i37 i22) (ci c40_ (Mn (lQ b36 i37 i22) (dq (gI (b36==true)) (show((b36==true)=true->((i37==i22)=false->(lQ b36 i37 i22)=true)) from(λhg=>(aF hg))) (gI (b36==true)) (Mn (lP b36 i37 i22 x19) (dq c41_ (gI (lP b36 i37 i22 x19)) (show((lP b36 i37 i22 x19)=true->(x19.length=x19.length)) from(λhg=>rfl)) (Mn (lP b36 i37 i22 x19) (c5 c42_ (gI (lP b36 i37 i22 x19)) (gI (b36==true)) (show((b36==true)=true->((bif (i37==i22) then true else(!((x19.getD i37.toNat []).getD i22.toNat false)))=false->(lP b36 i37 i22 x19)=true)) from(λhg=>(aF hg))) (Nn b36)))))))))))) (Ae q lB Lj (tN h))) λh=>tS h (gO (Bd (Bk jP Lj q))))) λx43 h=>gA (Ae q [1,5,7,11,12,13,143] Lj (gC h (λh=>tC h λc45_ h=>tU q bK Lj (c2 c45_ (Eq.refl l31.length)) (tS h (gK (Bd (Le.trans (Le.trans (Ss 75 (show ∀ k_,k_<l31.length->AVleL ((λi_=>AV.eraseAll gY ((E0 (λi=>Ax (l31.getD i 0)) i22.toNat 0 [(Az i30)]) i_)) k_) ((λi=>Ax ((l31.set i22.toNat i30).getD i 0)) k_) from(Bc (Cl ..).symm (λk_ hk_=>(Bx (AV.eraseAll gY) ((Fs (λ_ _=>rfl) (Gr c45_) rfl) k_ hk_)).trans rfl)))) (Su (λ(k_:Nat) u=>(Cs u [(11,(.vsl 75 k_))] [(75,.arr 1 3 k_ (λi=>Ax ((l31.set i22.toNat i30).getD i 0)))])) (show l31.length=(l31.set i22.toNat i30).length from(Cl ..).symm))) Jj))))) λh=>tS h (gK (Bd (Bk bK Lj q)))))))) (gA (Ae q bK Lj (tN h)))) λh=>tS h (gO (Bd (Bk PH Lj q))))) λx48 h=>gA (Ae q PH Lj (tN h)))))))) λh=>tS h (gO (Bd (Bk [11] [75] q))))) λx50 h=>gA (Ae q [4] [75] (Qi ((oC 75 x50.length x50):St) (tS h (gK (e:=.ret) (Hu [(75,20000)] (Le.trans (F0 (nm:=75) (sz:=1) (n:=x50.length) (e:=3) (f:=(λi=>Ax (x50.getD i 0))) (g:=(λi=>Ax (x50.getD i 0))) rfl ⟨rfl,trivial⟩ (λ_ _=>rfl) (by rw[hΓ];rfl)) (Ic (st':=(oA x50 75 x50.length)) (by kernel_rfl)))))))))))))))))
def Ck(aE:Am):Xl->Option (LR (Int×Am) (Unit ⊕ Am)):=
 λ((i1,l2):Xl)=>(bif (bif (bif (decide ((l2.length:Int)<(aE.length:Int))) then(decide ((0:Int)<=i1)) else false) then(decide (i1<(aE.length:Int))) else false) then(Aw (l2.length+([i1]:Am).length<=room) (Aw (A0 i1 aE.length) (bif ((aE.getD i1.toNat 0)==-1) then(some (.done (.inr (l2++([i1]:Am))))) else(Aw (A0 i1 aE.length) (some (.next ((aE.getD i1.toNat 0),(l2++([i1]:Am))))))))) else(some (.done (.inl ()))))
def CA(Γ:Il)(aE:Am)(aC:Int)(r:Am):Exit->St->Prop:=fK Tryz.prog Γ Tryz.f46.results.toList [] (WU r 20000) [(20000,.tok 1 3 r.length)]
def lT:AV:=oE
def zS(l2:Am)(aE:Am)(i1:Int):=(bif (decide ((l2.length:Int)<(aE.length:Int))) then(decide ((0:Int)<=i1)) else false)
def zU:=(Z49:St)
def zT(aE:Am)(aC:Int):=(⟨[(0,(Rs aE)),(1,(Az aC)),(5,(AV.list 1 Ax 0 ([]:Am) (.own 5005)))],[(5005,.tok 1 3 (([]:Am).length))],[]⟩:St)
def Gc(aE:Am)(aC:Int):Option Am:=
 ((Ad (Ck aE) (aC,([]:Am))).bind (λx6=>(match x6 with|(.inl _)=>(some ([]:Am))|(.inr r8)=>(some r8))))
theorem M8(h:Gc v0 v4=some v1):sP 46 [(Rs v0),(Az v4)] [] (WU v1 20000) [(20000,.tok 1 3 v1.length)]:=
 sG Tryz.func46 λΓ q=>gR q Ew [] [(4,lT)] [] (c1 (Bi 1 Ax (0:Int))) (gR q L5 [] [(5,lT)] [] (c1 (Bi 1 Ax (0:Int))) (M6 (st':=(zT v0 v4)) (Le.trans (Bk (st':=⟨[(0,(Rs v0)),(1,(Az v4)),(5,lT)],[],[]⟩) L5 [] q) (Le.trans (Np (t:=5) (nm:=5005) (sz':=1) (λi=>Ax (([]:Am).getD i 0)) 3 rfl rfl (.inl ⟨rfl,rfl⟩) (λh_=>absurd h_ (by decide))) (Bk (st':=(zT v0 v4)) L5 [5005] q))) (tL q h L5 [5005] (λu (i1,l2)=>(Cs u [(1,(Az i1)),(5,(WU l2 5005))] [(5005,.tok 1 3 l2.length)])) (λu x_=>match x_ with|(.inl _)=>aG Γ (.exit 0) (⟨[],[],[]⟩:St)|(.inr r_)=>aR (CA Γ v0 v4 r_)) (λ⟨i1,l2⟩ y h=>tU q [0,1,5,20] [5005] (KO (gI ((decide ((l2.length:Int)<(v0.length:Int)))==true)) (Nn (decide ((l2.length:Int)<(v0.length:Int)))) (Xu ((zS l2 v0 i1)==true) (c1 (Nn (zS l2 v0 i1))))) (gC h (λh=>tC h λc3_ h=>gR q L5 [5005] [(23,(tO i1)),(24,(AV.list 1 Ax 0 (l2++([i1]:Am)) (.own 5005)))] [] (c5 (B9 1 Ax (0:Int) ([i1]:Am)) (Eq.refl l2.length) c3_ (Kh 1 5005 Ax (0:Int) l2 ([i1]:Am)) (Ft l2 ([i1]:Am))) (tV q [0,1,5,29] [5005] h λh=>gC h (λh=>Ae q [4] [5005] (tS h (gO (Lc (Hu [(5005,20000)] (Le.refl _ _)))))) λh=>tV q L5 [5005] h λh=>tN h)) λh=>tS h (gO (Bd (Bk [] [] q))))) λx6 h=>(match x6,h with | .inl _,h=>gA (gR q [4] [] [(4,lT)] [] (c1 (Bi 1 Ax (0:Int))) (Qi (⟨[(4,lT)],[],[]⟩:St) (tS h (gK (e:=.ret) (Hu cl (show Le Γ _ zU from Le.trans (Bk (st':=⟨[(4,lT)],[],[]⟩) [4] [] q) (Le.trans (Np (t:=4) (nm:=6004) (sz':=1) (λi=>Ax (([]:Am).getD i 0)) 3 rfl rfl (.inl ⟨rfl,rfl⟩) (λh_=>absurd h_ (by decide))) (Bk (st':=zU) [4] [6004] q)))))))) | .inr r8,h=>Pu (λst' hk=>tS h (gK hk))))))
def B2(aE:Am):Hs->Option (LR (Int×Int) (Int ⊕ Bool)):=
 λ((i1,i2):Hs)=>(bif (decide (i2<(aE.length:Int))) then(Option.bind (α:=Int) (Aw (A0 i2 aE.length) (bif ((aE.getD i2.toNat 0)==-1) then(some (w64 (i1+1))) else(some i1))) (λx6=>(Aw (A0 i2 aE.length) ((bif (((aE.getD i2.toNat 0)!=-2)==true) then Gc aE i2 else some []).bind λx9=>(bif (bif ((aE.getD i2.toNat 0)!=-2) then((x9.length:Int)==0) else false) then(some (.done (.inr false))) else(some (.next (x6,(w64 (i2+1)))))))))) else(some (.done (.inl i1))))
def AA(Γ:Il)(aE:Am)(r:Bool):Exit->St->Prop:=fK Tryz.prog Γ Tryz.f45.results.toList [] (.bool r) []
def tE(aE:Am)(i2:Int):=((aE.getD i2.toNat 0)!=-2)
def J5(aE:Am):Option Bool:=
 ((Ad (B2 aE) ((0:Int),(0:Int))).bind (λx10=>(match x10 with|(.inl i3)=>(some (i3==1))|(.inr r12)=>(some r12))))
theorem Yu(h:J5 v0=some v5):sP 45 [(Rs v0)] [] (.bool v5) []:=
 sG Tryz.func45 λΓ q=>tW q [0] [] Ov [] (Ae q Ik [] (tL q h Ik [] (λu (i1,i2)=>(Cs u [(3,(Az i1)),(4,(Az i2))] [])) (λu x_=>match x_ with|(.inl i3)=>aG Γ (.exit 0) (⟨[(3,(Az i3))],[],[]⟩:St)|(.inr r_)=>aR (AA Γ v0 r_)) (λ⟨i1,i2⟩ y h=>Ae q [0,3,4,8] [] (gC h (λh=>tB h λx6 y6 h=>gJ y6 (λi4=>aG Γ .normal (⟨[(0,(Rs v0)),(3,(Az i4)),(4,(Az i2))],[],[]⟩:St)) (λy h=>tV q [0,3,4,15] [] h λh=>gC h (λh=>Ae q Ik [] (tS h (gK (Bd Jj)))) λh=>tS h (gK (Bd (Bk Ik [] q)))) (gA (tC h λc8_ h=>tB h λx9 y9 h=>tT q [0,3,4,29] [] [⟨[],[],(Rs x9),[],[],[]⟩] (ci c8_ (Mn ((tE v0 i2)==true) (ci (show(((tE v0 i2)==true)=true->(sP 46 [(Rs v0),(Az i2)] [] (Rs x9) [])) from(λhg=>(Spec.drop (M8 (B0 hg y9))))) (Mn ((tE v0 i2)==true) (c1 (Nn (tE v0 i2))))))) (gC h (λh=>Ae q [2] [] (tS h (gO (Lc (Hu [] (Le.refl _ _)))))) λh=>Ae q Ik [] (tN h))))) λh=>tS h (gO (Bd (Bk [3] [] q))))) λx10 h=>(match x10,h with | .inl i3,h=>gA (Ae q [2] [] (tS h (Be []))) | .inr r12,h=>Pu (λst' hk=>tS h (gK hk)))))
def Ec(x2:Am)(x3:Am):Int->Option (LR Int (Unit ⊕ Int)):=
 λ(i4:Int)=>(bif (decide (i4<(x2.length:Int))) then(Aw (A0 i4 x2.length) ((G9 x3 (x2.getD i4.toNat 0)).bind λx6=>(bif x6 then(Aw (A0 i4 x2.length) (some (.done (.inr (x2.getD i4.toNat 0))))) else(some (.next (w64 (i4+1))))))) else(some (.done (.inl ()))))
def BZ(Γ:Il)(aE:Am)(aC:Int)(aD:Int)(r:Int):Exit->St->Prop:=fK Tryz.prog Γ Tryz.f24.results.toList [] (.int .i64 r) []
def Kw(aE:Am)(aC:Int)(aD:Int):Option Int:=
 ((J5 aE).bind λx1=>(bif (!x1) then(some (-2:Int)) else((Gc aE aC).bind λx2=>((Gc aE aD).bind λx3=>((Ad (Ec x2 x3) (0:Int)).bind (λx8=>(match x8 with|(.inl _)=>(some (-2:Int))|(.inr r10)=>(some r10))))))))
theorem BI(h:Kw v0 v4 v13=some v21):sP 24 [(Rs v0),(Az v4),(Az v13)] [] (.int .i64 v21) []:=
 sG Tryz.func24 λΓ q=>Ae q Zy [] (tB h λx1 y1 h=>tT q [0,1,2,12] [] [(Z8 x1)] (c1 (Yu y1)) (gC h (λh=>Ae q [6] [] (tS h (Be []))) λh=>tB h λx2 y2 h=>tT q WM [15] [(Z69 15 x2 x2.length)] (c1 (M8 y2)) (tB h λx3 y3 h=>tT q Ws NO [(Z69 18 x3 x3.length)] (c1 (M8 y3)) (Ae q [7,8,9] NO (tL q h [7,8,9] NO (λu i4=>(Cs u [(9,(Az i4))] [])) (λu x_=>match x_ with|(.inl _)=>aG Γ (.exit 0) (⟨[],[],[]⟩:St)|(.inr r_)=>aR (BZ Γ v0 v4 v13 r_)) (λi4 y h=>Ae q [7,8,9,22] NO (gC h (λh=>tC h λc5_ h=>tB h λx6 y6 h=>tT q [7,8,9,30] NO [(Z8 x6)] (c2 c5_ (N2 y6)) (gC h (λh=>tV q [6] [] h λh=>tS h (gO (Lc (Hu [] (Le.refl _ _))))) λh=>Ae q [7,8,9] NO (tN h))) λh=>tS h (gO (Bd (Bk [] [] q))))) λx8 h=>(match x8,h with | .inl _,h=>gA (Ae q [6] [] (tS h (Be []))) | .inr r10,h=>Pu (λst' hk=>tS h (gK hk))))))))
open Go Go.RowKit
set_option maxRecDepth 100000
set_option maxHeartbeats 2000000
def Fl(x4:List Ca):Int->Option (LR Int (Unit ⊕ Int)):=
 λ(i5:Int)=>(bif (decide (i5<(x4.length:Int))) then(Aw (A0 i5 x4.length) ((Fg ((x4.getD i5.toNat default).V)).bind λx7=>(Aw (((!x7)==false)=true->(A0 i5 x4.length)) ((bif ((!x7)==false) then Eo x4 ((x4.getD i5.toNat default).V) else some (0:Int)).bind λx9=>(bif (bif (!x7) then true else(x9 !=i5)) then(some (.done (.inr (7:Int)))) else(some (.next (w64 (i5+1))))))))) else(some (.done (.inl ()))))
def Dx(x4:List Ca)(x12:List C0):Int->Option (LR Int (Unit ⊕ Int)):=
 λ(i13:Int)=>(bif (decide (i13<(x12.length:Int))) then(Aw (A0 i13 x12.length) ((Eo x4 ((x12.getD i13.toNat default).V)).bind λx15=>(bif (decide (x15<0)) then(some (.done (.inr (7:Int)))) else(some (.next (w64 (i13+1))))))) else(some (.done (.inl ()))))
def Dy(x4:List Ca)(x12:List C0):Int->Option (LR Int (Unit ⊕ Int)):=
 λ(i18:Int)=>(bif (decide (i18<(x12.length:Int))) then(Aw (A0 i18 x12.length) ((Eo x4 ((x12.getD i18.toNat default).V)).bind λx20=>(Aw (A0 x20 x4.length) (Aw (A0 i18 x12.length) (bif (!((((x4.getD x20.toNat default).Shape.1:Int)==(x12.getD i18.toNat default).Shape.1)&&((((x4.getD x20.toNat default).Shape.2:Int)==(x12.getD i18.toNat default).Shape.2)&&true))) then(some (.done (.inr (6:Int)))) else(some (.next (w64 (i18+1))))))))) else(some (.done (.inl ()))))
def Cy(x4:List Ca)(x12:List C0)(x26:Am):Int->Option (LR Int (Unit ⊕ Int)):=
 λ(i27:Int)=>(bif (decide (i27<(x12.length:Int))) then(Option.bind (α:=(Unit ⊕ Int)) (Aw (A0 i27 x12.length) ((Eo x4 ((x12.getD i27.toNat default).V)).bind λx29=>(Aw (A0 x29 x4.length) (bif (bif (decide (((x4.getD x29.toNat default).Block:Int)<0)) then true else(bif (((x4.getD x29.toNat default).Block:Int)==(x12.getD i27.toNat default).Block) then(decide (((x4.getD x29.toNat default).At:Int)<(x12.getD i27.toNat default).At)) else false)) then(some (.inl ())) else((bif ((((x4.getD x29.toNat default).Block:Int)==(x12.getD i27.toNat default).Block)==false) then Kw x26 ((x4.getD x29.toNat default).Block) ((x12.getD i27.toNat default).Block) else some (0:Int)).bind λx31=>(bif (bif (((x4.getD x29.toNat default).Block:Int)==(x12.getD i27.toNat default).Block) then true else(x31 !=(x4.getD x29.toNat default).Block)) then(some (.inr (7:Int))) else(some (.inl ())))))))) (λx32=>(match x32 with|(.inl _)=>(some (.next (w64 (i27+1))))|(.inr r34)=>(some (.done (.inr r34)))))) else(some (.done (.inl ()))))
def Hi(Γ:Il)(a1:TFunc)(a7:Int)(r:Int):Exit->St->Prop:=fK Tryz.prog Γ Tryz.f7.results.toList [] (.int .i64 r) []
def nt(x4:List Ca)(x29:Int):=((decide (((x4.getD x29.toNat default).Block:Int)<0))==false)
def gZ(x4:List Ca)(x29:Int)(x12:List C0)(i27:Int):=(((x4.getD x29.toNat default).Block:Int)==(x12.getD i27.toNat default).Block)
def Fi(a1:TFunc)(a7:Int):Option Int:=
 (bif (bif (decide (a7<0)) then true else(decide ((2:Int)<a7))) then(some (1:Int)) else((Jd a1).bind λx1=>(bif (!x1) then(some (4:Int)) else((J7 a1).bind λx2=>(bif (!x2) then(some (5:Int)) else((J8 a1 a7).bind λx3=>(bif (!x3) then(some (6:Int)) else((Ky a1).bind λx4=>((Ad (Fl x4) (0:Int)).bind (λx10=>(match x10 with|(.inl _)=>((Kz a1).bind λx12=>((Ad (Dx x4 x12) (0:Int)).bind (λx16=>(match x16 with|(.inl _)=>((Ad (Dy x4 x12) (0:Int)).bind (λx23=>(match x23 with|(.inl _)=>((Jt a1).bind λx25=>((Kx x25.1 (0:Int)).bind λx26=>((Ad (Cy x4 x12 x26) (0:Int)).bind (λx35=>(match x35 with|(.inl _)=>(some (0:Int))|(.inr r37)=>(some r37))))))|(.inr r38)=>(some r38))))|(.inr r39)=>(some r39)))))|(.inr r40)=>(some r40))))))))))))
theorem Yv(h:Fi v3 v4=some v13):sP 7 [(XF v3),(Az v4)] [] (.int .i64 v13) []:=
 sG Tryz.func7 λΓ q=>Ae q Pe [2] (tU q [1,2,21] [2] (c2 (gI ((decide (v4<0))==false)) (Kl (decide (v4<0)))) (gC h (λh=>Ae q [4] [] (tS h (Be []))) λh=>tB h λx1 y1 h=>tT q [1,2,24] [2] [(Z8 x1)] (c1 (DJ y1)) (gC h (λh=>Ae q [4] [] (tS h (Be []))) λh=>tB h λx2 y2 h=>tT q [1,2,27] [2] [(Z8 x2)] (c1 (Yx y2)) (gC h (λh=>Ae q [4] [] (tS h (Be []))) λh=>tB h λx3 y3 h=>tT q [2,31] [2] [(Z8 x3)] (c1 (Yy y3)) (gC h (λh=>Ae q [4] [] (tS h (Be []))) λh=>tB h λx4 y4 h=>tT q Wr EN [⟨[],[(20000,33)],(AV.list 5 P1 default x4 (.own 20000)),[(Ni 20000 65 x4.length)],[],[]⟩] (c1 (BK y4)) (Ae q Xs EN (tL q h Xs EN (λu i5=>(Cs u [(6,(Az i5))] [])) (λu x_=>match x_ with|(.inl _)=>aG Γ (.exit 0) (O1 Wr EN u [] [])|(.inr r_)=>aR (Hi Γ v3 v4 r_)) (λi5 y h=>Ae q [2,5,6,37] EN (gC h (λh=>tC h λc6_ h=>tB h λx7 y7 h=>tC h λc8_ h=>tB h λx9 y9 h=>tT q [2,5,6,57] EN [(Z8 x7),(XD x9)] (KO c6_ (Mk y7) (Mn ((!x7)==false) (ci c8_ (f5 ((!x7)==false) (ci (λ(hg:((!x7)==false)=true)=>(J9 (B0 hg y9))) (Mn ((!x7)==false) (c1 (Kl (!x7))))))))) (gC h (λh=>Ae q [4] [] (tS h (gO (Lc (Hu [] (Le.refl _ _)))))) λh=>Ae q Xs EN (tN h))) λh=>tS h (gO (Bd (Bk Wr EN q))))) λx10 h=>(match x10,h with | .inl _,h=>gA (tB h λx12 y12 h=>tT q WN Vd [⟨[],[(20000,59)],(AV.list 5 O5 default x12 (.own 20000)),[(Ni 20000 69 x12.length)],[],[]⟩] (c1 (BL y12)) (Ae q [2,5,7,8] Vd (tL q h [2,5,7,8] Vd (λu i13=>(Cs u [(8,(Az i13))] [])) (λu x_=>match x_ with|(.inl _)=>aG Γ (.exit 2) (O1 WN Vd u [] [])|(.inr r_)=>aR (Hi Γ v3 v4 r_)) (λi13 y h=>Ae q [2,5,7,8,63] Vd (gC h (λh=>tC h λc14_ h=>tB h λx15 y15 h=>tT q [2,5,7,8,73] Vd [(XD x15)] (c2 c14_ (J9 y15)) (gC h (λh=>Ae q [4] [] (tS h (gO (Lc (Hu [] (Le.refl _ _)))))) λh=>Ae q [2,5,7,8] Vd (tN h))) λh=>tS h (gO (Bd (Bk WN Vd q))))) λx16 h=>(match x16,h with | .inl _,h=>gA (Ae q [2,5,7,9] Vd (tL q h [2,5,7,9] Vd (λu i18=>(Cs u [(9,(Az i18))] [])) (λu x_=>match x_ with|(.inl _)=>aG Γ (.exit 4) (O1 WN Vd u [] [])|(.inr r_)=>aR (Hi Γ v3 v4 r_)) (λi18 y h=>Ae q [2,5,7,9,77] Vd (gC h (λh=>tC h λc19_ h=>tB h λx20 y20 h=>tC h λc21_ h=>tC h λc22_ h=>tT q [2,5,7,9,96] Vd [(XD x20)] (c4 c19_ (J9 y20) c21_ c22_) (gC h (λh=>Ae q [4] [] (tS h (gO (Lc (Hu [] (Le.refl _ _)))))) λh=>Ae q [2,5,7,9] Vd (tN h))) λh=>tS h (gO (Bd (Bk WN Vd q))))) λx23 h=>(match x23,h with | .inl _,h=>gA (tB h λx25 y25 h=>tT q [5,7,10] [10,33,59] [(n7 x25.1 x25.2)] (c1 (Tv y25)) (tB h λx26 y26 h=>tT q [5,7,12] EM [(Z69 103 x26 x26.length)] (c1 (BJ y26)) (Ae q WF EM (tL q h WF EM (λu i27=>(Cs u [(Ds 13 i27)] [])) (λu x_=>match x_ with|(.inl _)=>aG Γ (.exit 6) (⟨[],[],[]⟩:St)|(.inr r_)=>aR (Hi Γ v3 v4 r_)) (λi27 y h=>Ae q [5,7,12,13,107] EM (gC h (λh=>tB h λx32 y32 h=>gJ y32 (λx_=>match x_ with|(.inl _)=>aG Γ .normal (⟨[(5,(AV.list 5 P1 default x4 (.own 33))),(7,(AV.list 5 O5 default x12 (.own 59))),(12,(WU x26 103)),(Ds 13 i27)],[(Ni 33 65 x4.length),(Ni 59 69 x12.length),(103,.tok 1 3 x26.length)],[]⟩:St)|(.inr r_)=>aR (Hi Γ v3 v4 r_)) (λy h=>tV q [5,7,12,13,14] [14,33,59,103] h λh=>tB h λx29 y29 h=>tC h λc30_ h=>tT q [5,7,12,13,14,15] [14,15,33,59,103] [(XD x29)] (c2 (J9 y29) c30_) (tU q [5,7,12,13,14,15,137] [14,15,33,59,103] (wC (nt x4 x29) (f5 ((nt x4 x29)&&((gZ x4 x29 x12 i27)==true)) (c3 (gI (nt x4 x29)) (show((nt x4 x29)=true->((gZ x4 x29 x12 i27)=true->((nt x4 x29)&&((gZ x4 x29 x12 i27)==true))=true)) from(λhg=>(aT hg))) (Kl (decide (((x4.getD x29.toNat default).Block:Int)<0)))))) (gC h (λh=>tS h (gK (Bd (Bk WF EM q)))) λh=>tB h λx31 y31 h=>tT q [5,7,12,13,153] EM [(XD x31)] (wC ((gZ x4 x29 x12 i27)==false) (ci (λ(hg:((gZ x4 x29 x12 i27)==false)=true)=>(BI (B0 hg y31))) (Xu ((gZ x4 x29 x12 i27)==false) (c1 (Kl (gZ x4 x29 x12 i27)))))) (gC h (λh=>Ae q [4] [] (tS h (gK (Lc (Hu [] (Le.refl _ _)))))) λh=>tS h (gK (Bd (Bk WF EM q))))))) (match x32,h with | .inl _,h=>gA (Ae q WF EM (tN h)) | .inr r34,h=>Pu (λst' hk=>tS h (gO (Lc hk))))) λh=>tS h (gO (Bd (Bk [] [] q))))) λx35 h=>(match x35,h with | .inl _,h=>gA (Ae q [4] [] (tS h (Be []))) | .inr r37,h=>Pu (λst' hk=>tS h (gK hk))))))) | .inr r38,h=>Pu (λst' hk=>tS h (gK hk))))) | .inr r39,h=>Pu (λst' hk=>tS h (gK hk)))))) | .inr r40,h=>Pu (λst' hk=>tS h (gK hk))))))))))
def nu(x1:Am):=(λi=>Ur (x1.getD i 0))
abbrev vg:=(Am×List Ac×Am)
def Mr(a6:Am)(aB:List Ac):Option vg:=
 ((Cz a6).bind λx1=>(some (x1,aB,a6)))
variable{v54:vg}
theorem Xc(h:Mr v0 v33=some v54):sP 11 ER (Z5 v0 v33 v33.length) (oB v54.1) (xG v54.2.2.length v54.2.1 v54.2.1.length v54.2.2 v54.1.length):=
 sG Tryz.func11 λΓ q=>have hΓ:=q.own;gR q [0] Hb [(2,(AV.list 1 Ur 0 ([]:Am) .exact))] [] (c1 (Bi 1 Ur (0:Int))) (Ae q Wq Hb (FR false (tB h λx1 y1 h=>tT q [2] rg [⟨[],jm,(.vsl 20000 x1.length),[(20000,.arr 1 5 x1.length (nu x1))],[35000],[]⟩] (c3 (Mv y1) (show(NW [(20000,.arr 1 5 x1.length (nu x1))]) from⟨(λ_ _=>rfl),trivial⟩) (Eq.refl v0.length)) (Qi (⟨[(2,(.vsl 9 x1.length))],[(9,.arr 1 5 x1.length (nu x1)),(bZ 30000 35000 v0.length v33 37001),(PW 35000 v0),(KR 37001 v33.length)],[]⟩:St) (tS h (gK (e:=.ret) (Hu wW (Le.trans (F0 (nm:=9) (sz:=1) (n:=x1.length) (e:=5) (f:=(nu x1)) (g:=(nu x1)) rfl ⟨rfl,trivial⟩ (λ_ _=>rfl) (by rw[hΓ];rfl)) (Ic (st':=⟨[(2,(AV.list 1 Ur 0 x1 (.own 9)))],[(9,.tok 1 5 x1.length),(bZ 30000 35000 v0.length v33 37001),(PW 35000 v0),(KR 37001 v33.length)],[]⟩) (by kernel_rfl))))))))))
def It(aC:Am)(aD:Am):Int->Option (LR Int (Unit ⊕ Bool)):=
 λ(i1:Int)=>(bif (decide (i1<(aC.length:Int))) then(Aw (A0 i1 aC.length) (Aw (A0 i1 aD.length) (bif ((aC.getD i1.toNat 0)!=(aD.getD i1.toNat 0)) then(some (.done (.inr false))) else(some (.next (w64 (i1+1))))))) else(some (.done (.inl ()))))
def BV(Γ:Il)(aC:Am)(aD:Am)(r:Bool):Exit->St->Prop:=fK Tryz.prog Γ Tryz.f10.results.toList [] (.bool r) []
def Ks(aC:Am)(aD:Am):Option Bool:=
 (bif ((aC.length:Int)!=(aD.length:Int)) then(some false) else((Ad (It aC aD) (0:Int)).bind (λx4=>(match x4 with|(.inl _)=>(some true)|(.inr r6)=>(some r6)))))
theorem BD(h:Ks v0 v1=some v5):sP 10 [(gb v0),(gb v1)] [] (.bool v5) []:=
 sG Tryz.func10 λΓ q=>tW q Ew [] EQ [] (gC h (λh=>Ae q [4] [] (tS h (Be []))) λh=>Ae q L5 [] (tL q h L5 [] (λu i1=>(Cs u [(5,(Az i1))] [])) (λu x_=>match x_ with|(.inl _)=>aG Γ (.exit 0) (⟨[],[],[]⟩:St)|(.inr r_)=>aR (BV Γ v0 v1 r_)) (λi1 y h=>Ae q [0,1,5,14] [] (gC h (λh=>tC h λc2_ h=>tC h λc3_ h=>tU q [0,1,5,25] [] (c2 c2_ c3_) (gC h (λh=>Ae q [4] [] (tS h (gO (Lc (Hu [] (Le.refl _ _)))))) λh=>Ae q L5 [] (tN h))) λh=>tS h (gO (Bd (Bk [] [] q))))) λx4 h=>(match x4,h with | .inl _,h=>gA (Ae q [4] [] (tS h (Be []))) | .inr r6,h=>Pu (λst' hk=>tS h (gK hk)))))
def lU:AV:=xK
def zV:=(⟨[(2,(AV.list 3 E2 default ([]:List Ac) (.own 6002)))],[(6002,.tok 3 49 (([]:List Ac).length))],[]⟩:St)
def Dn(aZ:List Ac):Option (List Ac):=
 (Aw (([]:List Ac).length+aZ.length<=room) (some (([]:List Ac)++aZ)))
variable{v55:List Ac}
theorem O8(h:Dn v33=some v55):sP 31 [(n8 v33)] [] (n5 v55) [(KR 20000 v55.length)]:=by
 refine MG mix Tryz.func31 (λΓ hq=>?_);unfold Dn at h;refine gR hq [0] [] [(2,lU)] [] (c1 (Bi 3 E2 (default:Ac))) ?_;refine Ae hq Wq [] ?_;refine Aaj true v33.length (λhb=>?_) (λhb=>?_)
 ·replace h:=pj (some ([]:List Ac)) (λ(l2:List Ac)=>(Aw (([]:List Ac).length+l2.length<=room) (some (([]:List Ac)++l2)))) h (hb rfl) rfl (λh0=>by first|exact h0|simpa [Aw,room] using h0);clear hb;refine gR hq [2] [] [(2,lU)] [] (c1 (Bi 3 E2 (default:Ac))) ?_;refine Qi (⟨[(2,lU)],[],[]⟩:St) ?_;cases h;exact gK (e:=.ret) (Hu jf (show Le Γ _ zV from Le.trans (Bk (st':=⟨[(2,lU)],[],[]⟩) [2] [] hq) (Le.trans (Np (t:=2) (nm:=6002) (sz':=3) (λi=>E2 (([]:List Ac).getD i default)) 49 rfl rfl (.inl ⟨rfl,rfl⟩) (λh_=>absurd h_ (by decide))) (Bk (st':=zV) [2] [6002] hq))))
 ·clear hb;obtain⟨hc1,h⟩:=Uq h;refine gR hq [2] [7] [(5,lU),(7,(AV.list 3 E2 default (([]:List Ac)++v33) (.own 7)))] [] (ci (show(AVle (.slice 3 0 (λi=>([]:List (List AV)).getD i []) .exact) lU) from gt rfl (λi hi=>absurd hi (Xn i))) (ci hc1 (ci (show(49=DZ->([]:List Ac).length=0\/0<v33.length) from(λh_=>absurd h_ (by decide))) (ci (Kh 3 7 E2 (default:Ac) ([]:List Ac) v33) (c1 (Ft ([]:List Ac) v33)))))) ?_;cases h;exact Be [(7,20000)]
abbrev vh:=(List Ac×List Ac×Am)
def Mt(a6:Am)(aB:List Ac):Option vh:=
 ((Dn aB).bind λx1=>(some (x1,aB,a6)))
variable{v56:vh}
theorem Xe(h:Mt v0 v33=some v56):sP 12 ER (Z5 v0 v33 v33.length) (n5 v56.1) (xH v56.2.2.length v56.2.1 v56.2.1.length v56.2.2 v56.1.length):=
 sG Tryz.func12 λΓ q=>gR q [0] Hb [(2,xK)] [] (c1 (Bi 3 E2 (default:Ac))) (Ae q Wq Hb (FR false (tB h λx1 y1 h=>tT q [2] rg [⟨[],jm,(n5 x1),[(KR 20000 x1.length)],[],[]⟩] (c1 (O8 y1)) (tS h (Be wW)))))
def G3(aC:List Ac)(aD:List Ac):Int->Option (LR Int (Unit ⊕ Bool)):=
 λ(i1:Int)=>(bif (decide (i1<(aC.length:Int))) then(Aw (A0 i1 aC.length) (Aw (A0 i1 aD.length) (bif (!(((aC.getD i1.toNat default).Write==(aD.getD i1.toNat default).Write)&&((((aC.getD i1.toNat default).At:Int)==(aD.getD i1.toNat default).At)&&((((aC.getD i1.toNat default).Byte:Int)==(aD.getD i1.toNat default).Byte)&&true)))) then(some (.done (.inr false))) else(some (.next (w64 (i1+1))))))) else(some (.done (.inl ()))))
def Ww(Γ:Il)(aC:List Ac)(aD:List Ac)(r:Bool):Exit->St->Prop:=fK Tryz.prog Γ Tryz.f13.results.toList [] (.bool r) []
def I6(aC:List Ac)(aD:List Ac):Option Bool:=
 (bif ((aC.length:Int)!=(aD.length:Int)) then(some false) else((Ad (G3 aC aD) (0:Int)).bind (λx4=>(match x4 with|(.inl _)=>(some true)|(.inr r6)=>(some r6)))))
theorem Wk(h:I6 v33 v55=some v5):sP 13 [(n8 v33),(n8 v55)] [] (.bool v5) []:=
 sG Tryz.func13 λΓ q=>tW q Ew [] EQ [] (gC h (λh=>Ae q [4] [] (tS h (Be []))) λh=>Ae q L5 [] (tL q h L5 [] (λu i1=>(Cs u [(5,(Az i1))] [])) (λu x_=>match x_ with|(.inl _)=>aG Γ (.exit 0) (⟨[],[],[]⟩:St)|(.inr r_)=>aR (Ww Γ v33 v55 r_)) (λi1 y h=>Ae q [0,1,5,14] [] (gC h (λh=>tC h λc2_ h=>tC h λc3_ h=>tU q [0,1,5,25] [] (c2 c2_ c3_) (gC h (λh=>Ae q [4] [] (tS h (gO (Lc (Hu [] (Le.refl _ _)))))) λh=>Ae q L5 [] (tN h))) λh=>tS h (gO (Bd (Bk [] [] q))))) λx4 h=>(match x4,h with | .inl _,h=>gA (Ae q [4] [] (tS h (Be []))) | .inr r6,h=>Pu (λst' hk=>tS h (gK hk)))))
def dI:=((Ha 20000):AV)
def lc:=(bif true then dI else .nilp)
def lb:=(bif false then dI else .nilp)
def Abz(x4:Int):=((x4 !=0)==false)
def PQ(a7:TCase):List AV:=[(gb a7.Mem)]
def ze(x11:MR):=(((x11.1.Code:Int)==9)==true)
def la:AV:=(AV.list 1 Ur 0 ([]:Am) .none)
def w8(a7:TCase)(aS:Int):=(w64 (a7.Fuel-(if(w64 aS)<a7.Fuel then(w64 aS) else a7.Fuel)))
def tF(x9:MR)(x11:MR):=(bif (x9.2.1 !=0) then true else(x11.2.1 !=0))
def lZ(x19:vh)(x21:vh):AV:=(AV.list 3 E2 default (x19.1.take (x21.1.length:Int).toNat) .none)
def lV(x11:MR)(a7:TCase)(aS:Int):=(bif ((x11.1.Code:Int)==9) then((x11.1.Steps:Int)==(w8 a7 aS)) else false)
def zZ(x9:MR):List Vf:=(Z5 x9.2.2.2 x9.2.2.1 x9.2.2.1.length)
def zY(x11:MR):List Vf:=(Z5 x11.2.2.2 x11.2.2.1 x11.2.2.1.length)
def lX(x5:yj):List Vf:=(Z9 20000 21000 x5.1.2.bytes x5.1.2.trace 21001 x5.1.2.trace.length)
def lY(x7:yj):List Vf:=(Z9 20000 21000 x7.1.2.bytes x7.1.2.trace 21001 x7.1.2.trace.length)
def lW(x26:yj):List Vf:=(Z9 20000 21000 x26.1.2.bytes x26.1.2.trace 21001 x26.1.2.trace.length)
def zW(x14:vg):List Vf:=(xG x14.2.2.length x14.2.1 x14.2.1.length x14.2.2 x14.1.length)
def zX(x16:vg):List Vf:=(xG x16.2.2.length x16.2.1 x16.2.1.length x16.2.2 x16.1.length)
def La(a1:TFunc)(a7:TCase)(aS:Int):Option Bool:=
 (m_locksteplaw13_awake.bind λx1=>(bif (!x1) then(some false) else((J3 a1 a7).bind λx2=>(bif (bif (!x2) then true else(decide (a7.Fuel<0))) then(some true) else((Fi a1 (2:Int)).bind λx4=>(bif (bif (x4 !=0) then true else((a7.Args.length:Int)!=(a1.Params.length:Int))) then(some true) else((Sc a7.Mem).bind λx5=>(bif x5.1.1 then((Sc a7.Mem).bind λx7=>(bif x7.1.1 then((Mc a1 a7.Args a7.Fuel x5.1.2.bytes x5.1.2.trace).bind λx9=>(Aw (x5.1.2.bytes.length=x9.2.2.2.length) ((Mc a1 a7.Args (w64 (a7.Fuel-(if(w64 aS)<a7.Fuel then(w64 aS) else a7.Fuel))) x7.1.2.bytes x7.1.2.trace).bind λx11=>(Aw (x7.1.2.bytes.length=x11.2.2.2.length) (bif (bif (bif (bif (x9.2.1 !=0) then true else(x11.2.1 !=0)) then true else(decide (a7.Fuel<x9.1.Steps))) then true else(decide (((w64 (a7.Fuel-(if(w64 aS)<a7.Fuel then(w64 aS) else a7.Fuel))):Int)<x11.1.Steps))) then(some false) else(bif (bif (decide ((x9.1.Steps:Int)<=(w64 (a7.Fuel-(if(w64 aS)<a7.Fuel then(w64 aS) else a7.Fuel))))) then((x9.1.Code:Int)!=9) else false) then(bif (((x9.1.Code:Int)==x11.1.Code)&&(((x9.1.Value:Int)==x11.1.Value)&&(((x9.1.Steps:Int)==x11.1.Steps)&&true))) then((Mr x9.2.2.2 x9.2.2.1).bind λx14=>(Aw (x9.2.2.2.length=x14.2.2.length) ((Mr x11.2.2.2 x11.2.2.1).bind λx16=>(Aw (x11.2.2.2.length=x16.2.2.length) ((Ks x14.1 x16.1).bind λx18=>(some x18)))))) else(some false)) else((Mt x9.2.2.2 x9.2.2.1).bind λx19=>(Aw (x9.2.2.2.length=x19.2.2.length) ((Mt x11.2.2.2 x11.2.2.1).bind λx21=>(Aw (x11.2.2.2.length=x21.2.2.length) (bif (bif (bif ((x11.1.Code:Int)==9) then((x11.1.Steps:Int)==(w64 (a7.Fuel-(if(w64 aS)<a7.Fuel then(w64 aS) else a7.Fuel)))) else false) then(decide ((x21.1.length:Int)<=(x19.1.length:Int))) else false) then(Aw (0<=(x21.1.length:Int)/\(x21.1.length:Int)<=(x19.1.length:Int)) ((I6 x21.1 (x19.1.take (x21.1.length:Int).toNat)).bind λx25=>(some x25))) else(some false)))))))))))) else(some false))) else((Sc a7.Mem).bind λx26=>(bif x26.1.1 then(some false) else(some false)))))))))))
theorem ok_locksteplaw13_EvalFuel(a1:TFunc)(a7:TCase)(aS:Int)(r:Bool)(h:La a1 a7 aS=some r):sP 3 [(XF a1),(.agg (eTCase a7)),(.int .u8 aS)] [] (.bool r) []:=
 sG Tryz.func3 λΓ q=>Ae q [2,3,4] Vc (tB h λx1 y1 h=>tT q [2,3,4,19] Vc [(Z8 x1)] (c1 (Yp  x1 y1)) (gC h (λh=>Ae q [6] [] (tS h (Be []))) λh=>tB h λx2 y2 h=>gB h (λhs3 h=>gR q [2,3,4,42] Vc [(29,(.bool true))] [(Z8 x2),⟨[],[],Pz,[],[],[]⟩] (ci (Rh y2) (Mn ((!x2)==false) (d9_ (Kl (!x2)) (show(AVle (.bool (bif (!x2) then true else(decide (a7.Fuel<0)))) (.bool true)) from(CI hs3)) (show((true==false)=true->(true==false)=true) from XM) (show((true==false)=true->(sP 7 [(XF a1),RS] [] Pz [])) from XM) (show((true==false)=true->(true==false)=true) from XM) (show(true=false->(true==false)=true) from gNt) (show((true==false)=true->(true==false)=true) from XM) (show((true==false)=true->(true==false)=true) from XM) (show((true==false)=true->(true==false)=true) from XM) (c4 (show((true==false)=true->(true==false)=true) from XM) (show((true==false)=true->(true==false)=true) from XM) (show((true==false)=true->(true==false)=true) from XM) (show(true=false->(true==false)=true) from gNt))))) (FR true (Ae q [6] [] (tS h (Be []))))) (λhs3 h=>tB h λx4 y4 h=>gR q [2,3,4,42] Vc [(29,(.bool false))] [(Z8 x2),(XD x4)] (ci (Rh y2) (Mn ((!x2)==false) (d6_ (Kl (!x2)) (show(AVle (.bool (bif (!x2) then true else(decide (a7.Fuel<0)))) (.bool false)) from(CI hs3)) (show((false==false)=true->(false==false)=true) from(λ_=>rfl)) (show((false==false)=true->(sP 7 [(XF a1),RS] [] (Az x4) [])) from(λ_=>(Yv y4))) (show((false==false)=true->(false==false)=true) from(λ_=>rfl)) (show(false=false->(false==false)=true) from(λ_=>rfl)) (gI6 (Abz x4) (c1 (Kl (x4 !=0))))))) (gC h (λh=>Ae q [6] [] (tS h (Be []))) λh=>tB h λx5 y5 h=>gB h (λhs6 h=>tT q [2,3,4,7] jN [(Z96 46 60046000 60046001 lc x5.2 (lX x5))] (c1 (show(sP 8 (PQ a7) [] (.tuple [lc,(Az x5.2)]) (bif true then(lX x5) else[])) from(vu (λb_:Bool=>sP 8 (PQ a7) [] (.tuple [(bif b_ then dI else .nilp),(Az x5.2)]) (bif b_ then(lX x5) else[])) hs6 (N3 y5)))) (tB h λx7 y7 h=>gB h (λhs8 h=>tT q cp rh [(Z96 52 60052000 60052001 lc x7.2 (lY x7))] (c1 (show(sP 8 (PQ a7) [] (.tuple [lc,(Az x7.2)]) (bif true then(lY x7) else[])) from(vu (λb_:Bool=>sP 8 (PQ a7) [] (.tuple [(bif b_ then dI else .nilp),(Az x7.2)]) (bif b_ then(lY x7) else[])) hs8 (N3 y7)))) (tU q cf rh (c2 (show((false==false)=true->(false==false)=true) from(λ_=>rfl)) (show(false=false->(false==false)=true) from(λ_=>rfl))) (FR false (Ae q [3,4,7,9,11] rh (tB h λx9 y9 h=>tC h λc10_ h=>tT q [3,4,7,9,11,12,13] [3,4,12,46,52,60046000,60046001,60052000,60052001] [(Z76 46 60046001 60046000 x9.1 x9.2.1 (zZ x9))] (c1 (S7 y9)) (tB h λx11 y11 h=>tC h λc12_ h=>tT q [4,7,9,11,12,13,14,15] [4,12,14,46,52,60046000,60046001,60052000,60052001] [(Z76 52 60052001 60052000 x11.1 x11.2.1 (zY x11))] (c1 (S7 y11)) (tU q [7,9,11,12,14,106] wX (KO (gI ((x9.2.1 !=0)==false)) (Kl (x9.2.1 !=0)) (f5 ((tF x9 x11)==false) (ci (Kl (tF x9 x11)) (Xu ((bif (tF x9 x11) then true else(decide (a7.Fuel<x9.1.Steps)))==false) (c1 (Kl (bif (tF x9 x11) then true else(decide (a7.Fuel<x9.1.Steps))))))))) (gC h (λh=>Ae q [6] [] (tS h (Be []))) λh=>tU q [7,9,11,12,14,115] wX (Mn ((decide ((x9.1.Steps:Int)<=(w8 a7 aS)))==true) (c1 (Nn (decide ((x9.1.Steps:Int)<=(w8 a7 aS)))))) (gC h (λh=>gB h (λhs13 h=>tB h λx14 y14 h=>tC h λc15_ h=>tB h λx16 y16 h=>tC h λc17_ h=>tB h λx18 y18 h=>gR q [6] [] [(119,(.bool true))] [⟨rG,[(20000,121)],(oB x14.1),(zW x14),[],[]⟩,⟨rH,[(20000,123)],(oB x16.1),(zX x16),[],[]⟩,(Z8 x18)] (d5_ (show(AVle (.bool (((x9.1.Code:Int)==x11.1.Code)&&(((x9.1.Value:Int)==x11.1.Value)&&(((x9.1.Steps:Int)==x11.1.Steps)&&true)))) (.bool true)) from(CI hs13)) (gI (true==true)) (show((true==true)=true->(sP 11 ER (zZ x9) (oB x14.1) (zW x14))) from(λ_=>(Xc y14))) (gI (true==true)) (show((true==true)=true->(sP 11 ER (zY x11) (oB x16.1) (zX x16))) from(λ_=>(Xc y16))) (Mn (true==true) (c2 (show((true==true)=true->(sP 10 [(gb x14.1),(gb x16.1)] [] (.bool x18) [])) from(λ_=>(BD y18))) (show(true=true->(true==true)=true) from(λ_=>rfl))))) (tS h (Be []))) (λhs13 h=>gR q [6] [] [(119,(.bool false))] [⟨[],[],la,[],[],[]⟩,⟨[],[],la,[],[],[]⟩,⟨[],[],(.bool false),[],[],[]⟩] (d5_ (show(AVle (.bool (((x9.1.Code:Int)==x11.1.Code)&&(((x9.1.Value:Int)==x11.1.Value)&&(((x9.1.Steps:Int)==x11.1.Steps)&&true)))) (.bool false)) from(CI hs13)) (gI (false==true)) (show((false==true)=true->(sP 11 [.any] [] la [])) from XM) (gI (false==true)) (show((false==true)=true->(sP 11 [.any] [] la [])) from XM) (Mn (false==true) (c2 (show((false==true)=true->(sP 10 [la,la] [] (.bool false) [])) from XM) (show(false=true->(false==true)=true) from XM)))) (tS h (Be [])))) λh=>tB h λx19 y19 h=>tC h λc20_ h=>tT q [9,11,14,16] [14,52,127,60052000,60052001] [⟨rG,[(20000,127)],(n5 x19.1),(xH x19.2.2.length x19.2.1 x19.2.1.length x19.2.2 x19.1.length),[],[]⟩] (c1 (Xe y19)) (tB h λx21 y21 h=>tC h λc22_ h=>tT q [11,14,16,17] [14,127,129] [⟨rH,[(20000,129)],(n5 x21.1),(xH x21.2.2.length x21.2.1 x21.2.1.length x21.2.2 x21.1.length),[],[]⟩] (c1 (Xe y21)) (gB h (λhs23 h=>tC h λc24_ h=>tB h λx25 y25 h=>gR q [6] [] [(146,(.bool true)),(151,(lZ x19 x21))] [(Z8 x25)] (Xu (ze x11) (ci (Nn ((x11.1.Code:Int)==9)) (f5 ((lV x11 a7 aS)==true) (KO (Nn (lV x11 a7 aS)) (show(AVle (.bool (bif (lV x11 a7 aS) then(decide ((x21.1.length:Int)<=(x19.1.length:Int))) else false)) (.bool true)) from(CI hs23)) (Xu (true==true) (KO (show((true==true)=true->(0<=(x21.1.length:Int)/\(x21.1.length:Int)<=(x19.1.length:Int))) from(λ_=>c24_)) (show((true==true)=true->(AVle (.slice 3 (x21.1.length:Int).toNat (λi=>E2 (x19.1.getD i default)) .none) (lZ x19 x21))) from(λ_=>(tY (m6 c24_)))) (Mn (true==true) (c2 (show((true==true)=true->(sP 13 [(n8 x21.1),(lZ x19 x21)] [] (.bool x25) [])) from(λ_=>(Wk y25))) (show(true=true->(true==true)=true) from(λ_=>rfl)))))))))) (tS h (Be []))) (λhs23 h=>gR q [6] [] [(146,(.bool false)),(151,(lZ x19 x21))] [⟨[],[],(.bool false),[],[],[]⟩] (Xu (ze x11) (ci (Nn ((x11.1.Code:Int)==9)) (f5 ((lV x11 a7 aS)==true) (KO (Nn (lV x11 a7 aS)) (show(AVle (.bool (bif (lV x11 a7 aS) then(decide ((x21.1.length:Int)<=(x19.1.length:Int))) else false)) (.bool false)) from(CI hs23)) (Xu (false==true) (KO (show((false==true)=true->(0<=(x21.1.length:Int)/\(x21.1.length:Int)<=(x19.1.length:Int))) from XM) (show((false==true)=true->(AVle (.slice 3 (x21.1.length:Int).toNat (λi=>E2 (x19.1.getD i default)) .none) (lZ x19 x21))) from XM) (Mn (false==true) (c2 (show((false==true)=true->(sP 13 [(n8 x21.1),(lZ x19 x21)] [] (.bool false) [])) from XM) (show(false=true->(false==true)=true) from XM))))))))) (tS h (Be [])))))))))))))) (λhs8 h=>tT q cp jN [(xI lb x7.2 (lY x7))] (c1 (show(sP 8 (PQ a7) [] (.tuple [lb,(Az x7.2)]) (bif false then(lY x7) else[])) from(vu (λb_:Bool=>sP 8 (PQ a7) [] (.tuple [(bif b_ then dI else .nilp),(Az x7.2)]) (bif b_ then(lY x7) else[])) hs8 (N3 y7)))) (tU q cf jN (c2 (show((false==false)=true->(false==false)=true) from(λ_=>rfl)) (show(false=false->(false==false)=true) from(λ_=>rfl))) (FR true (Ae q [6] [] (tS h (Be [])))))))) (λhs6 h=>tT q [2,3,4,7] Vc [(xI lb x5.2 (lX x5))] (c1 (show(sP 8 (PQ a7) [] (.tuple [lb,(Az x5.2)]) (bif false then(lX x5) else[])) from(vu (λb_:Bool=>sP 8 (PQ a7) [] (.tuple [(bif b_ then dI else .nilp),(Az x5.2)]) (bif b_ then(lX x5) else[])) hs6 (N3 y5)))) (tB h λx26 y26 h=>gB h (λhs27 h=>tT q cp rR [(Z96 52 60052000 60052001 lc x26.2 (lW x26))] (c1 (show(sP 8 (PQ a7) [] (.tuple [lc,(Az x26.2)]) (bif true then(lW x26) else[])) from(vu (λb_:Bool=>sP 8 (PQ a7) [] (.tuple [(bif b_ then dI else .nilp),(Az x26.2)]) (bif b_ then(lW x26) else[])) hs27 (N3 y26)))) (tU q cf rR (c2 (show((true==false)=true->(true==false)=true) from XM) (show(true=false->(true==false)=true) from gNt)) (FR true (Ae q [6] [] (tS h (Be [])))))) (λhs27 h=>tT q cp Vc [(xI lb x26.2 (lW x26))] (c1 (show(sP 8 (PQ a7) [] (.tuple [lb,(Az x26.2)]) (bif false then(lW x26) else[])) from(vu (λb_:Bool=>sP 8 (PQ a7) [] (.tuple [(bif b_ then dI else .nilp),(Az x26.2)]) (bif b_ then(lW x26) else[])) hs27 (N3 y26)))) (tU q cf Vc (c2 (show((true==false)=true->(true==false)=true) from XM) (show(true=false->(true==false)=true) from gNt)) (FR true (Ae q [6] [] (tS h (Be []))))))))))))
open Go Go.RowKit
theorem Hg{n:Int}(h:-9223372036854775808<=n)(h':n<9223372036854775808):w64 n=n:=by
 show IntKind.i64.wrap n=n
 simp only[IntKind.wrap,IntKind.bits,IntKind.signed]
 simp
 split<;>omega
theorem Pr{n:Int}(h:0<=n)(h':n<18446744073709551616):E1 n=n:=by
 show IntKind.u64.wrap n=n
 simp[IntKind.wrap,IntKind.bits,IntKind.signed];omega
theorem VG(n:Int):E1 n=n % 18446744073709551616:=by
 show IntKind.u64.wrap n=_
 simp[IntKind.wrap,IntKind.bits,IntKind.signed]
theorem ZX(w n:Nat)(h:n<2 ^ w):(BitVec.ofInt w (n:Int)).toNat=n:=by
 rw[BitVec.toNat_ofInt,<- Int.natCast_emod,Dq,Nat.mod_eq_of_lt h]
theorem fh(k:IntKind)(hk:k.signed=false){n:Nat}(h:n<2 ^ k.bits):k.wrap (n:Int)=n:=by
 simp only[IntKind.wrap,hk,MY,PA,I9]
 have:((2:Int) ^ k.bits)=((2 ^ k.bits:Nat):Int):=by simp
 rw[this,<- Int.natCast_emod,Nat.mod_eq_of_lt h]
theorem td(k:IntKind)(hk:k.signed=false){a b:Nat}(ha:a<2 ^ k.bits)(hb:b<2 ^ k.bits):Lq .or k a b=((a ||| b:Nat):Int):=by
 simp only[Lq,BitVec.toNat_or,ZX _ _ ha,ZX _ _ hb];exact fh k hk (Nat.or_lt_two_pow ha hb)
theorem yK(k:IntKind)(hk:k.signed=false)(j:Nat){a b:Nat}(ha:a<2 ^ j)(hb:a+b*2 ^ j<2 ^ k.bits){y:Int}(hy:y=((b*2 ^ j:Nat):Int)):Lq .or k a y=((a+b*2 ^ j:Nat):Int):=by
 subst hy;rw[td k hk (by omega) (by omega),Nat.or_comm,GY b,<- Nat.two_pow_add_eq_or_of_lt ha,Nat.add_comm]
theorem Aa{R:Type}{p:Prop}[Decidable p]{k:Option R}(h:p):Aw p k=k:=if_pos h
theorem OP{S X:Type}(f:S->Option (LR S X))(s:S):N9 (f s) f=Ad f s:=by
 unfold N9
 cases h:f s with
 | none=>rw[Option.bind_none,R8 h]
 | some y=>cases y with
  | next s'=>rw[Au h];rfl
  | done x=>rw[An h];rfl
theorem d7{x:Int}(j:Nat):x.fdiv (2 ^ j)=x / 2 ^ j:=by rw[Int.fdiv_eq_ediv_of_nonneg _ (by exact Int.le_of_lt (Int.pow_pos (by decide)))]
theorem Ag{α:Type}(l:List α)(i:Nat)(d:α)(h:i<l.length):l.getD i d=l[i]:=by simp[List.getD,h]
theorem UY{α:Type}(l:List α)(i:Nat)(d:α)(h:i<l.length):l.take (i+1)=l.take i++[l.getD i d]:=by
 rw[List.take_add_one,Ag _ _ _ h];simp[h]
set_option maxRecDepth 100000
theorem kinds(k:Int):k=0\/k=1\/k=2\/k=3\/k=4\/k=5\/k=6\/k=7\/k=8\/k=9\/k=10\/k=11\/k=12\/k=13\/k=14\/k=15\/k=16\/k=17\/k=18\/k=19\/k=20\/k=21\/k=22\/(k<0\/22<k):=by omega
theorem ii{k:Int}(h:k<0\/22<k):(k==0)=false/\(k==1)=false/\(k==2)=false/\(k==3)=false/\(k==4)=false/\(k==5)=false/\(k==6)=false/\(k==7)=false/\(k==8)=false/\(k==9)=false/\(k==10)=false/\(k==11)=false/\(k==12)=false /\
  (k==13)=false/\(k==14)=false/\(k==15)=false/\(k==16)=false/\(k==17)=false/\(k==18)=false/\(k==19)=false/\(k==20)=false/\(k==21)=false/\(k==22)=false:=by
 simp only[zzL40];omega
def widthB(b:Int):Bool:=b==1 || b==8 || b==16 || b==32 || b==64
def Yc(b n:Int):Bool:=widthB b&&(n==1 || ((n==2 || n==4 || n==8 || n==16)&&decide (8<=b)&&decide (b*n<=128)))
theorem width_cases{b:Int}(h:widthB b=true):b=1\/b=8\/b=16\/b=32\/b=64:=by simp[widthB]at h;omega
theorem Qc{b n:Int}(h:Yc b n=true):widthB b=true:=by simp[Yc]at h;exact h.1
theorem Qb{b n:Int}(h:Yc b n=true):n=1\/n=2\/n=4\/n=8\/n=16:=by simp[Yc]at h;omega
theorem Xk(b:Int):Ep b=some (widthB b):=by
 unfold Ep widthB
 by_cases h1:b=1
 ·subst h1;rfl
 by_cases h2:b=8
 ·subst h2;rfl
 by_cases h3:b=16
 ·subst h3;rfl
 by_cases h4:b=32
 ·subst h4;rfl
 by_cases h5:b=64
 ·subst h5;rfl
 have e1:(b==1)=false:=by simpa using h1
 have e2:(b==8)=false:=by simpa using h2
 have e3:(b==16)=false:=by simpa using h3
 have e4:(b==32)=false:=by simpa using h4
 have e5:(b==64)=false:=by simpa using h5
 simp[e1,e2,e3,e4,e5]
theorem Ta(b:Int):C4 b=some (widthB b):=by
 cases(b==1)<;>cases(b==8)<;>cases(b==16)<;>cases(b==32)<;>rfl
theorem iH(b n:Int):T4 b n=some (Yc b n):=by
 unfold T4;simp only[Xk,As]
 by_cases hn:n=1\/n=2\/n=4\/n=8\/n=16
 ·cases hw:widthB b with
  | false=>rcases hn with rfl|rfl|rfl|rfl|rfl<;>simp[Yc,hw]
  | true=>
   rcases width_cases hw with rfl|rfl|rfl|rfl|rfl<;>rcases hn with rfl|rfl|rfl|rfl|rfl<;>rfl
 ·have e1:(n==1)=false:=by simp;omega
  have e2:(n==2)=false:=by simp;omega
  have e3:(n==4)=false:=by simp;omega
  have e4:(n==8)=false:=by simp;omega
  have e5:(n==16)=false:=by simp;omega
  simp[Yc,e1,e2,e3,e4,e5]
theorem mh(b n:Int):J4 b n=some (Yc b n):=by
 unfold J4;simp only[Ta,As]
 cases hw:widthB b with
 | false=>simp[Yc,hw]
 | true=>
  by_cases hn:n=1\/n=2\/n=4\/n=8\/n=16
  ·rcases width_cases hw with rfl|rfl|rfl|rfl|rfl<;>rcases hn with rfl|rfl|rfl|rfl|rfl<;>rfl
  ·have e1:(n==1)=false:=by simp;omega
   have e2:(n==2)=false:=by simp;omega
   have e3:(n==4)=false:=by simp;omega
   have e4:(n==8)=false:=by simp;omega
   have e5:(n==16)=false:=by simp;omega
   simp[Yc,e1,e2,e3,e4,e5]
theorem qt{v b:Int}(hv:0<=v/\v<18446744073709551616)(hb:widthB b=true):Fc v b=some (v % 2 ^ b.toNat):=by
 unfold Fc;simp only[Xk,hb,As,Dw,A1]
 have key:∀ j:Nat,j<64->Oz .u64 (Tq .u64 v (j:Int)) (j:Int)=(v*2 ^ j % 18446744073709551616) / 2 ^ j:=λj hj=>by
  simp only[Oz,Tq,Dq,IntKind.bits];rw[Nat.min_eq_left (by omega),d7,show IntKind.u64.wrap (v*2 ^ j)=v*2 ^ j % 18446744073709551616 from VG _]
 rcases width_cases hb with rfl|rfl|rfl|rfl|rfl
 ·have:=key 63 (by decide);simp only[show w64 (64-1)=((63:Nat):Int) from rfl,this];rw[Aa (by decide),Aa (by decide)];congr 1;simp only[show((1:Int).toNat)=1 from rfl];omega
 ·have:=key 56 (by decide);simp only[show w64 (64-8)=((56:Nat):Int) from rfl,this];rw[Aa (by decide),Aa (by decide)];congr 1;simp only[show((8:Int).toNat)=8 from rfl];omega
 ·have:=key 48 (by decide);simp only[show w64 (64-16)=((48:Nat):Int) from rfl,this];rw[Aa (by decide),Aa (by decide)];congr 1;simp only[show((16:Int).toNat)=16 from rfl];omega
 ·have:=key 32 (by decide);simp only[show w64 (64-32)=((32:Nat):Int) from rfl,this];rw[Aa (by decide),Aa (by decide)];congr 1;simp only[show((32:Int).toNat)=32 from rfl];omega
 ·have:=key 0 (by decide);simp only[show w64 (64-64)=((0:Nat):Int) from rfl,this];rw[Aa (by decide),Aa (by decide)];congr 1;simp only[show((64:Int).toNat)=64 from rfl];omega
theorem u6{v b:Int}(hv:0<=v/\v<18446744073709551616)(hb:widthB b=true):Ln v b=some (v % 2 ^ b.toNat):=by
 unfold Ln;simp only[Ta,hb,As,Dw,A1];rcases width_cases hb with rfl|rfl|rfl|rfl|rfl
 ·rw[show((1:Int)==64)=false from rfl,A1,Aa (by decide),Aa (by decide),show Tq .u64 (1:Int) (E1 1)=2 ^ (1:Int).toNat from rfl,Int.tmod_eq_emod_of_nonneg hv.1]
 ·rw[show((8:Int)==64)=false from rfl,A1,Aa (by decide),Aa (by decide),show Tq .u64 (1:Int) (E1 8)=2 ^ (8:Int).toNat from rfl,Int.tmod_eq_emod_of_nonneg hv.1]
 ·rw[show((16:Int)==64)=false from rfl,A1,Aa (by decide),Aa (by decide),show Tq .u64 (1:Int) (E1 16)=2 ^ (16:Int).toNat from rfl,Int.tmod_eq_emod_of_nonneg hv.1]
 ·rw[show((32:Int)==64)=false from rfl,A1,Aa (by decide),Aa (by decide),show Tq .u64 (1:Int) (E1 32)=2 ^ (32:Int).toNat from rfl,Int.tmod_eq_emod_of_nonneg hv.1]
 ·rw[show((64:Int)==64)=true from rfl,Af]
  congr 1
  simp only[show((64:Int).toNat)=64 from rfl];omega
theorem bt{i:Int}(h:0<=i/\i<18446744073709551616):Nw i=some (widthB i):=by
 unfold Nw
 by_cases hi:i<=64
 ·have:w64 i=i:=Hg (by omega) (by omega);simp[hi,this,Xk]
 ·have:widthB i=false:=by simp[widthB];omega
  simp[hi,this]
def f6(k:Int):Bool:=decide (0<=k)&&decide (k<=22)
def L1(k n:Int):Int:=
 bif k==0 then 0 else bif k==13 || k==18 || k==19 then 3 else bif k==14 || k==15 || k==16 || k==22 then 1 else bif k==20 then 4 else bif k==21 then n else 2
def sfitS(k b n:Int):Bool:=
 bif k==16 || k==17 then decide (8<=b) else bif k==18 || k==19 then decide (8<=b)&&n==1 else
 bif k==4 || k==10 || k==11 || k==12 || k==14 || k==15 || k==20 then n==1 else bif k==21 || k==22 then decide (1<n) else true
def ifitS(k b n i:Int):Bool:=
 bif k==0 then i % 2 ^ b.toNat==i else bif k==14 then widthB i&&decide (i<b) else bif k==15 then widthB i&&decide (b<i) else bif k==22 then decide (i<n) else i==0
def valS(v:Int):Bool:=decide (1<=v)&&decide (v<=1023)
def dstS(k d:Int):Bool:=bif k==17 || k==19 then d==0 else valS d
def Js(o:C5):Bool:=Yc o.Bits o.Lanes&&(f6 o.Kind&&sfitS o.Kind o.Bits o.Lanes&&ifitS o.Kind o.Bits o.Lanes o.Imm&&((o.Args.length:Int)==L1 o.Kind o.Lanes))&&(o.Args.all valS&&dstS o.Kind o.Dst)
def Dt(o:C5)(i:Nat):Int×Int:=
 bif o.Kind==13 || o.Kind==20 then(bif Nat.beq i 0 then(1,1) else(o.Bits,o.Lanes)) else bif o.Kind==14 || o.Kind==15 then(w64 o.Imm,1) else
 bif o.Kind==16 || o.Kind==17 then(bif Nat.beq i 0 then(64,1) else(o.Bits,o.Lanes)) else
 bif o.Kind==18 || o.Kind==19 then(bif Nat.beq i 1 then(64,1) else bif Nat.beq i 0 then(1,1) else(o.Bits,o.Lanes)) else bif o.Kind==21 then(o.Bits,1) else(o.Bits,o.Lanes)
def Rn(o:C5):List (Int×Int):=(List.range (L1 o.Kind o.Lanes).toNat).map (Dt o)
def R6(k b n:Int):Int×Int:=bif k==17 || k==19 then(0,0) else bif k==10 || k==11 || k==12 then(1,1) else bif k==22 then(b,1) else(b,n)
theorem xm{k:Int}(h:f6 k=true):0<=k/\k<=22:=by simpa [f6] using h
theorem JG{k:Int}(h:k<0\/22<k):f6 k=false:=by simp[f6];omega
theorem eD(k:Int):Sw k=some (f6 k):=by unfold Sw f6;cases decide ((0:Int)<=k)<;>rfl
theorem Yb(v:Int):Nv v=some (valS v):=by unfold Nv valS;cases decide ((1:Int)<=v)<;>rfl
theorem FJ(v:Int):Fg v=some (valS v):=by
 unfold Fg valS
 have e1:decide ((0:Int)<v)=decide (1<=v):=by congr 1
 have e2:decide (v<(1024:Int))=decide (v<=1023):=by apply zzL61.2;omega
 rw[e1,e2]
 cases decide ((1:Int)<=v)<;>rfl
theorem SY(o:C5):Od o=some (sfitS o.Kind o.Bits o.Lanes):=by
 obtain⟨k,b,n,d,args,i⟩:=o;rcases kinds k with rfl|rfl|rfl|rfl|rfl|rfl|rfl|rfl|rfl|rfl|rfl|rfl|rfl|rfl|rfl|rfl|rfl|rfl|rfl|rfl|rfl|rfl|rfl|h
 any_goals rfl
 ·show some (bif decide (8<=b) then n==1 else false)=some (decide (8<=b)&&n==1);cases decide (8<=b)<;>rfl
 ·show some (bif decide (8<=b) then n==1 else false)=some (decide (8<=b)&&n==1);cases decide (8<=b)<;>rfl
 ·unfold Od sfitS;simp[ii h]
theorem SX(o:C5):Q1 o=some (R6 o.Kind o.Bits o.Lanes):=by
 obtain⟨k,b,n,d,args,i⟩:=o;rcases kinds k with rfl|rfl|rfl|rfl|rfl|rfl|rfl|rfl|rfl|rfl|rfl|rfl|rfl|rfl|rfl|rfl|rfl|rfl|rfl|rfl|rfl|rfl|rfl|h
 any_goals rfl
 unfold Q1 R6;simp[ii h]
theorem br(o:C5)(hw:widthB o.Bits=true)(hn:0<=o.Lanes/\o.Lanes<=16)(hi:0<=o.Imm/\o.Imm<18446744073709551616):Q2 o=some (ifitS o.Kind o.Bits o.Lanes o.Imm):=by
 unfold Q2 ifitS
 have hb:E1 o.Bits=o.Bits:=by apply Pr<;>(rcases width_cases hw with h|h|h|h|h<;>omega)
 have hl:E1 o.Lanes=o.Lanes:=by apply Pr<;>omega
 rw[qt hi hw,bt hi,hb,hl]
 cases(o.Kind==0)<;>cases(o.Kind==14)<;>cases(o.Kind==15)<;>cases(o.Kind==22)<;>cases widthB o.Imm<;>rfl
set_option maxHeartbeats 2000000 in
theorem qN (o : C5) (hs : Yc o.Bits o.Lanes = true) (hk : f6 o.Kind = true) (hi : 0 ≤ o.Imm ∧ o.Imm < 18446744073709551616) : F9 o = some (sfitS o.Kind o.Bits o.Lanes && ifitS o.Kind o.Bits o.Lanes o.Imm) := by
  have hw := Qc hs; have hl := Qb hs; obtain ⟨k, b, n, d, args, i⟩ := o; simp only at hs hk hi hw hl ⊢
  have hb : E1 b = b := by apply Pr <;> (rcases width_cases hw with h | h | h | h | h <;> omega)
  have hn : E1 n = n := by apply Pr <;> omega
  have hb8 : decide (b < 8) = !decide (8 ≤ b) := by rw [← decide_not]; apply zzL61.2; omega
  have hn2 : decide (n < 2) = !decide (1 < n) := by rw [← decide_not]; apply zzL61.2; omega
  have h14 : (bif decide (i < b) then widthB (w64 i) else false) = (widthB i && decide (i < b)) := by
    by_cases h : i < b
    · have : w64 i = i := Hg (by omega) (by rcases width_cases hw with h | h | h | h | h <;> omega); simp [h, this]
    · simp [h]
  have h15 : (bif (bif decide (b < i) then decide (i ≤ 64) else false) then widthB (w64 i) else false) = (widthB i && decide (b < i)) := by
    by_cases h : i ≤ 64
    · have : w64 i = i := Hg (by omega) (by omega)
      by_cases h2 : b < i <;> simp [h, this, h2]
    · have : widthB i = false := by simp [widthB]; omega
      simp [h, this]
  have hc := u6 (v := i) hi hw; rcases kinds k with rfl | rfl | rfl | rfl | rfl | rfl | rfl | rfl | rfl | rfl | rfl | rfl | rfl | rfl | rfl | rfl | rfl | rfl | rfl | rfl | rfl | rfl | rfl | h
  case inl => unfold F9; simp [hc, sfitS, ifitS]
  all_goals first
    | (rw [JG h] at hk; cases hk)
    | (unfold F9 sfitS ifitS
       simp only [hb8]
       generalize decide (8 ≤ b) = u at *
       clear hc h14 h15 hb8 hw hs; rcases hl with rfl | rfl | rfl | rfl | rfl <;> cases u <;> simp_all
       done)
    | (unfold F9 sfitS ifitS
       rw [hb]; simp only [Ta]; clear hc hs
       generalize decide (i < b) = p at *
       generalize decide (b < i) = q at *
       generalize decide (i ≤ 64) = r at *
       generalize widthB (w64 i) = s at *
       rcases hl with rfl | rfl | rfl | rfl | rfl <;> cases p <;> cases q <;> cases r <;> cases s <;> simp_all
       done)
theorem Hj{α X:Type}(l:List α)(d:α)(p:α->Bool)(f:Int->Option (LR Int X))(yes no:X)(hn:∀ i:Nat,i<l.length->p (l.getD i d)=true->f i=some (.next ((i:Int)+1)))
  (hf:∀ i:Nat,i<l.length->p (l.getD i d)=false->f i=some (.done no)) (he:f l.length=some (.done yes)):∀(k i:Nat),i+k=l.length->Ad f i=some (bif (l.drop i).all p then yes else no)
 | 0,i,h=>by
  obtain rfl:i=l.length:=by omega
  rw[An he]
  simp
 | k+1,i,h=>by
  have hi:i<l.length:=by omega
  have hd:l.drop i=l.getD i d::l.drop (i+1):=by simp_all
  cases hp:p _ with
  | true=>
   rw[Au (hn i hi hp)];have:=Hj l d p f yes no hn hf he k (i+1) (by omega);rw[show((i:Int)+1)=(i+1:Nat) by omega,this,hd,GX,hp,Mz]
  | false=>
   rw[An (hf i hi hp),hd,GX,hp,MY,A1]
theorem TC{α X:Type}(n:Nat)(g:Nat->α)(f:List α×Int->Option (LR (List α×Int) X))(out:List α->X)(hn:∀(l:List α) (i:Nat),i<n->l.length=i->f (l,(i:Int))=some (.next (l++[g i],(i:Int)+1)))
  (he:∀ l:List α,l.length=n->f (l,(n:Int))=some (.done (out l))):∀(k i:Nat) (l:List α),i+k=n->l=(List.range i).map g->Ad f (l,(i:Int))=some (out ((List.range n).map g))
 | 0,i,l,h,hl=>by
  obtain rfl:i=n:=by omega
  subst hl;exact An (he _ (by simp))
 | k+1,i,l,h,hl=>by
  subst hl;rw[Au (hn _ i (by omega) (by simp))];exact TC n g f out hn he k (i+1) _ (by omega) (by simp[Zu])
theorem JJ{α:Type}(l:List α)(d:α)(wt:α->Nat)(C:Nat)(f:Int×Int->Option (LR (Int×Int) Int))
  (hn:∀(n i:Nat),i<l.length->n<=C->∃ m:Nat,f ((n:Int),(i:Int))=some (.next ((m:Int),((i+1:Nat):Int)))/\(n+wt (l.getD i d)<=C->m=n+wt (l.getD i d))/\(m<=C->n+wt (l.getD i d)<=C))
  (hd:∀(n i:Nat),i<=l.length->(i=l.length\/C<n)->f ((n:Int),(i:Int))=some (.done (n:Int))) :
  ∀(k i n:Nat),i+k=l.length->∃ m:Nat,Ad f ((n:Int),(i:Int))=some (m:Int)/\(n+((l.drop i).map wt).sum<=C->m=n+((l.drop i).map wt).sum)/\(m<=C->n+((l.drop i).map wt).sum<=C)
 | 0,i,n,h=>by
  obtain rfl:i=l.length:=by omega
  refine⟨n,An (hd n _ (zzL8 _) (.inl rfl)),?_,?_⟩
  ·simp
  ·simp
 | k+1,i,n,h=>by
  have hi:i<l.length:=by omega
  have hdr:l.drop i=l.getD i d::l.drop (i+1):=by rw[OY hi,Ag _ _ _ hi]
  by_cases hC:n<=C
  ·obtain⟨m,h1,h2,h3⟩:=hn n i hi hC;obtain⟨m',h4,h5,h6⟩:=JJ l d wt C f hn hd k (i+1) m (by omega);refine⟨m',by rw[Au h1];exact h4,λhle=>?_,λhle=>?_⟩
   ·rw[hdr,C1,List.sum_cons]at hle ⊢;have:=h2 (by omega);subst this;rw[h5 (by omega)];omega
   ·rw[hdr,C1,List.sum_cons];have h7:=h6 hle;have h8:=h3 (by omega);have:=h2 h8;omega
  ·refine⟨n,An (hd n i (by omega) (.inr (by omega))),λhle=>by omega,λhle=>by omega⟩
theorem Us{X:Type}(N:Nat)(f:Int×Int->Option (LR (Int×Int) X))(hn:∀(n:Int) (i:Nat),i<N->(∃ m:Int,f (n,(i:Int))=some (.next (m,((i+1:Nat):Int))))\/∃ x,f (n,(i:Int))=some (.done x))(hd:∀ n:Int,∃ x,f (n,(N:Int))=some (.done x)) :
  ∀(k i:Nat) (n:Int),i+k=N->∃ x,Ad f (n,(i:Int))=some x
 | 0,i,n,h=>by
  obtain rfl:i=N:=by omega
  obtain⟨x,hx⟩:=hd n;exact⟨x,An hx⟩
 | k+1,i,n,h=>by
  rcases hn n i (by omega) with⟨m,hm⟩|⟨x,hx⟩
  ·obtain⟨x,hx⟩:=Us N f hn hd k (i+1) m (by omega);exact⟨x,by rw[Au hm];exact hx⟩
  ·exact⟨x,An hx⟩
theorem LF{α X:Type}(l:List α)(d:α)(wt:α->Nat)(out:Int->X)(f:Int×Int->Option (LR (Int×Int) X))
  (hn:∀(n i:Nat),i<l.length->f (w64 n,(i:Int))=some (.next (w64 ((n+wt (l.getD i d):Nat):Int),((i+1:Nat):Int)))) (hd:∀ n:Int,f (n,(l.length:Int))=some (.done (out n))) :
  ∀(k i n:Nat),i+k=l.length->Ad f (w64 n,(i:Int))=some (out (w64 ((n+((l.drop i).map wt).sum:Nat):Int)))
 | 0,i,n,h=>by
  obtain rfl:i=l.length:=by omega
  rw[An (hd _)]
  simp
 | k+1,i,n,h=>by
  have hi:i<l.length:=by omega
  have hdr:l.drop i=l.getD i d::l.drop (i+1):=by simp_all
  rw[Au (hn n i hi),LF l d wt out f hn hd k _ _ (by omega),hdr,C1,List.sum_cons,EL]
theorem KG(a b:Int):w64 (w64 a+b)=w64 (a+b):=by
 simp only[IntKind.wrap,IntKind.bits,IntKind.signed]
 simp
 split<;>split<;>omega
theorem Aj{α:Type}{l:List α}{i:Nat}{d:α}(h:i<l.length):l.getD i d∈l:=by grind
theorem Ak{i n:Nat}(h:i<n):A0 (i:Int) n:=⟨by omega,by exact_mod_cast h⟩
theorem A8{i n:Nat}(h:i<n)(hn:n<9223372036854775808):w64 ((i:Int)+1)=(i:Int)+1:=Hg (by omega) (by omega)
def pM(l:List Int):Prop:=∀ x∈l,0<=x/\x<=2147483647
theorem Df{S X:Type}(f:S->Option (LR S X))(T:Nat->S)(x:X):∀(n:Nat),(∀ i,i<n->f (T i)=some (.next (T (i+1))))->f (T n)=some (.done x)->Ad f (T 0)=some x:=by
 suffices h:∀(k i n:Nat),i+k=n->(∀ j,i<=j->j<n->f (T j)=some (.next (T (j+1))))->f (T n)=some _->Ad f (T i)=some x from
  λn h1 h2=>h n 0 n (by omega) (λj _ hj=>h1 j hj) h2
 intro k
 induction k with
 | zero=>
  intro i n hi _ h2
  have hin:n=i:=by omega
  subst hin;exact An h2
 | succ k ih=>intro i n hi h1 h2;rw[Au (h1 i (zzL8 _) (by omega))];exact ih _ n (by omega) (λj hj hj'=>h1 j (by omega) hj') h2
theorem XP{S X:Type}(f:S->Option (LR S X))(T:Nat->S):∀(n:Nat),(∀ i,i<n->f (T i)=some (.next (T (i+1))))->Ad f (T 0)=Ad f (T n):=by
 intro n
 induction n with
 | zero=>intro _;rfl
 | succ n ih=>intro h;rw[ih (λi hi=>h i (by omega)),Au (h n (by omega))]
theorem Hw{S X:Type}(f:S->Option (LR S X))(T:Nat->S)(p:Nat->Bool)(yes no:X)(n:Nat)(hn:∀ i,i<n->p i=true->f (T i)=some (.next (T (i+1))))(hf:∀ i,i<n->p i=false->f (T i)=some (.done no))
  (he:f (T n)=some (.done yes)):Ad f (T 0)=some (bif (List.range n).all p then yes else no):=by
 cases hall:(List.range n).all p with
 | true=>
  exact Df f T yes n (λi hi=>hn i hi (zzL34.1 hall i (zzL37.2 hi))) he
 | false=>
  have hex:∃ i,i<n/\p i=false:=by
   grind
  obtain⟨m,hm⟩:=hex
  have key:∀ m,m<n->p m=false->∃ k,k<n/\p k=false/\∀ j,j<k->p j=true:=by
   intro m
   induction m using Nat.strongRecOn with
   | ind m ih=>
    intro h1 h2
    by_cases h:∃ j,j<m/\p j=false
    ·obtain⟨j,hj,hpj⟩:=h;exact ih j hj (by omega) hpj
    ·grind
  obtain⟨k,hk,hpk,hlt⟩:=key m hm.1 hm.2;rw[XP f T k (λi hi=>hn i (by omega) (hlt i hi))];exact An (hf k hk hpk)
theorem all_range{n:Nat}{p:Nat->Bool}:(List.range n).all p=true↔∀ i,i<n->p i=true:=by
 grind
theorem Aq(i:Nat):((i:Int)).toNat=i:=Dq i
theorem w1{i:Nat}(h:i<4611686018427387904):w64 ((i:Int)+1)=((i+1:Nat):Int):=by rw[Hg (by omega) (by omega)];omega
theorem B4{i n:Nat}(h:i<n):decide (((i:Nat):Int)<((n:Nat):Int))=true:=by simpa using h
theorem D7{n:Nat}:decide (((n:Nat):Int)<((n:Nat):Int))=false:=by simp
theorem inb{i n:Nat}(h:i<n):A0 ((i:Nat):Int) n:=Ak h
theorem Aal{x:Int}{n:Nat}(h0:0<=x)(h1:x<n):A0 x n:=⟨h0,h1⟩
structure dB(o:C5):Prop where
 imm:0<=o.Imm/\o.Imm<18446744073709551616
 args:o.Args.length<=200
theorem ir(x:Int×Int)(n:Int)(h:n=2\/n=4\/n=8\/n=16):Ce [x] n=some (List.replicate n.toNat x):=by
 let d:Int×Int:=(0,0)
 rcases h with rfl|rfl|rfl|rfl
 ·have e:Ce [x] 2=(Ad Da (1,[x,d])).bind some:=by kernel_rfl
  rw[e,Au (s':=(2,[x,x])) (by kernel_rfl)]
  rfl
 ·have e:Ce [x] 4=(Ad Da (1,[x,d,d,d])).bind some:=by kernel_rfl
  rw[e,Au (s':=(2,[x,x,d,d])) (by kernel_rfl),Au (s':=(4,[x,x,x,x])) (by kernel_rfl)]
  rfl
 ·have e:Ce [x] 8=(Ad Da (1,[x,d,d,d,d,d,d,d])).bind some:=by kernel_rfl
  rw[e,Au (s':=(2,[x,x,d,d,d,d,d,d])) (by kernel_rfl),Au (s':=(4,[x,x,x,x,d,d,d,d])) (by kernel_rfl),Au (s':=(8,[x,x,x,x,x,x,x,x])) (by kernel_rfl)]
  rfl
 ·have e:Ce [x] 16=(Ad Da (1,[x,d,d,d,d,d,d,d,d,d,d,d,d,d,d,d])).bind some:=by kernel_rfl
  rw[e,Au (s':=(2,[x,x,d,d,d,d,d,d,d,d,d,d,d,d,d,d])) (by kernel_rfl),Au (s':=(4,[x,x,x,x,d,d,d,d,d,d,d,d,d,d,d,d])) (by kernel_rfl),
   Au (s':=(8,[x,x,x,x,x,x,x,x,d,d,d,d,d,d,d,d])) (by kernel_rfl),Au (s':=(16,List.replicate 16 x)) (by kernel_rfl)]
  rfl
theorem pR(l:List (Int×Int)):Jb l=some l:=rfl
theorem SZ(o:C5)(hs:Yc o.Bits o.Lanes=true)(hk:f6 o.Kind=true)(hf:sfitS o.Kind o.Bits o.Lanes=true):Ra o=some (Rn o):=by
 have hl:=Qb hs;obtain⟨k,b,n,d,args,i⟩:=o;simp only at hs hk hf hl ⊢;rcases kinds k with rfl|rfl|rfl|rfl|rfl|rfl|rfl|rfl|rfl|rfl|rfl|rfl|rfl|rfl|rfl|rfl|rfl|rfl|rfl|rfl|rfl|rfl|rfl|h
 case inr.inr.inr.inr.inr.inr.inr.inr.inr.inr.inr.inr.inr.inr.inr.inr.inr.inr.inr.inr.inr.inl=>
  have h1:n≠1:=by rintro rfl;simp[sfitS]at hf
  have h4:n=2\/n=4\/n=8\/n=16:=by omega
  unfold Ra;simp only[ir _ _ h4,pR];rcases h4 with rfl|rfl|rfl|rfl<;>rfl
 all_goals first
  | rfl
  | (rw[JG h]at hk;cases hk)
  | (rcases hl with rfl|rfl|rfl|rfl|rfl<;>first|rfl|(simp[sfitS]at hf))
theorem bp(o:C5)(hs:Yc o.Bits o.Lanes=true)(hk:f6 o.Kind=true)(hf:sfitS o.Kind o.Bits o.Lanes=true)(hl:o.Args.length<=200):Qz o=some (((o.Args.length:Int)==L1 o.Kind o.Lanes)&&o.Args.all valS):=by
 unfold Qz;rw[SZ o hs hk hf]
 have hn:0<=L1 o.Kind o.Lanes:=by
  have:=Qb hs;unfold L1
  cases(o.Kind==0)<;>cases(o.Kind==13 || o.Kind==18 || o.Kind==19)<;>cases(o.Kind==14 || o.Kind==15 || o.Kind==16 || o.Kind==22)<;>cases(o.Kind==20)<;>cases(o.Kind==21)<;>simp<;>omega
 have hlen:(Rn o).length=L1 o.Kind o.Lanes:=by simp[Rn];omega
 simp only[As,hlen]
 by_cases he:o.Args.length=L1 o.Kind o.Lanes
 ·have e1:(o.Args.length==L1 o.Kind o.Lanes)=true:=by simpa using he
  have e2:(o.Args.length !=L1 o.Kind o.Lanes)=false:=by simpa using he
  rw[e1,e2]
  have hloop:=Hj o.Args 0 valS (Kr o) (.inl ()) (.inr false) (λi hi hp=>by
    unfold Kr
    have:decide (i<(o.Args.length:Int))=true:=by simpa using hi
    simp only[this,Af,Aa (Ak hi),Dq,Yb,As,hp,Dw,A1,A8 hi (by omega)]) (λi hi hp=>by
    unfold Kr
    have:decide (i<(o.Args.length:Int))=true:=by simpa using hi
    simp only[this,Af,Aa (Ak hi),Dq,Yb,As,hp,K4]) (by
    unfold Kr
    simp) o.Args.length 0 (by omega)
  rw[show 0=((0:Nat):Int) from rfl,hloop,My]
  cases o.Args.all valS<;>rfl
 ·grind
theorem iC{k b n:Int}(hs:Yc b n=true):((R6 k b n).1==0)=(k==17 || k==19):=by
 have hb:(b==0)=false:=by
  have:=width_cases (Qc hs);simp;omega
 unfold R6
 cases(k==17 || k==19)<;>cases(k==10 || k==11 || k==12)<;>cases(k==22)<;>simp_all
theorem bq(o:C5)(hs:Yc o.Bits o.Lanes=true):Q0 o=some (dstS o.Kind o.Dst):=by
 unfold Q0;simp only[SX,As,iC hs,Yb,dstS]
 cases(o.Kind==17 || o.Kind==19)<;>rfl
theorem SW(o:C5)(ho:dB o):Sb o=some (Js o):=by
 unfold Sb Js;simp only[eD,iH,SY]
 cases hs:Yc _ _ with
 | false=>cases f6 _<;>rfl
 | true=>
  have hl:=Qb hs
  cases hk:f6 _ with
  | false=>rfl
  | true=>
   rw[br o (Qc hs) (by omega) ho.imm];simp only[bq o hs]
   cases hf:sfitS _ _ _ with
   | false=>rfl
   | true=>
    rw[bp o hs hk hf ho.args]
    generalize ifitS _ _ _ _=p
    generalize (o.Args.length==L1 _ _)=q
    generalize o.Args.all _=r
    generalize dstS _ _=s
    cases p<;>cases q<;>cases r<;>cases s<;>rfl
theorem qM(o:C5):Kt o=some (bif f6 o.Kind then L1 o.Kind o.Lanes else -1):=by
 obtain⟨k,b,n,d,args,i⟩:=o;rcases kinds k with rfl|rfl|rfl|rfl|rfl|rfl|rfl|rfl|rfl|rfl|rfl|rfl|rfl|rfl|rfl|rfl|rfl|rfl|rfl|rfl|rfl|rfl|rfl|h
 any_goals rfl
 unfold Kt;simp[ii h,JG h]
theorem cP(o:C5)(ho:dB o):G8 o=some (Js o):=by
 unfold G8 Js;simp only[mh]
 cases hs:Yc o.Bits o.Lanes with
 | false=>rfl
 | true=>
  simp only[qM,Dw,R3,Af, As]
  cases hk:f6 o.Kind with
  | false=>
   grind
  | true=>
   simp only[Af];rw[qN o hs hk ho.imm]
   by_cases he:o.Args.length=L1 o.Kind o.Lanes
   ·have e1:(o.Args.length==L1 o.Kind o.Lanes)=true:=by simpa using he
    have e2:(L1 o.Kind o.Lanes !=o.Args.length)=false:=by simpa using he.symm
    rw[e1,e2]
    have hloop:=Hj o.Args 0 valS (Gz o) (.inl ()) (.inr false) (λi hi hp=>by
      unfold Gz
      have:decide (i<(o.Args.length:Int))=true:=by simpa using hi
      simp only[this,Af,Aa (Ak hi),Dq,FJ,As,hp,Dw,A1,A8 hi (by have:=ho.args;omega)]) (λi hi hp=>by
      unfold Gz
      have:decide ((i:Int)<o.Args.length)=true:=by simpa using hi
      simp only[this,Af,Aa (Ak hi),Dq,FJ,As,hp,K4]) (by
      unfold Gz
      simp) o.Args.length 0 (by omega)
    rw[show 0=((0:Nat):Int) from rfl,hloop,My];simp only[FJ, dstS]
    generalize sfitS o.Kind o.Bits o.Lanes=p
    generalize ifitS o.Kind o.Bits o.Lanes o.Imm=q
    generalize o.Args.all valS=r
    cases p<;>cases q<;>cases r<;>cases(o.Kind==17)<;>cases(o.Kind==19)<;>rfl
   ·grind
theorem Vv{o:C5}(h:Js o=true):Yc o.Bits o.Lanes=true/\f6 o.Kind=true/\sfitS o.Kind o.Bits o.Lanes=true/\ifitS o.Kind o.Bits o.Lanes o.Imm=true/\(o.Args.length:Int)=L1 o.Kind o.Lanes/\o.Args.all valS=true/\dstS o.Kind o.Dst=true:=by
 simp only[Js,Bh,zzL85]at h;exact⟨h.1.1,h.1.2.1.1.1,h.1.2.1.1.2,h.1.2.1.2,h.1.2.2,h.2.1,h.2.2⟩
theorem iI(o:C5)(ho:dB o):Qy o=some (bif Js o then Rn o else[]):=by
 unfold Qy;rw[SW o ho]
 cases hm:Js o with
 | false=>rfl
 | true=>
  obtain⟨h1,h2,h3,_⟩:=Vv hm;simp only[SZ o h1 h2 h3]
  rfl
theorem iG(o:C5)(ho:dB o):Qx o=some (bif Js o then R6 o.Kind o.Bits o.Lanes else(0,0)):=by
 unfold Qx;rw[SW o ho];simp only[ SX]
 cases Js o<;>rfl
theorem mg(o:C5)(ho:dB o):Hl o=some (bif Js o then R6 o.Kind o.Bits o.Lanes else(0,0)):=by
 unfold Hl;rw[cP o ho]
 cases hm:Js o with
 | false=>rfl
 | true=>
  obtain⟨_,h2,_⟩:=Vv hm;obtain⟨k,b,n,d,args,i⟩:=o;rcases kinds k with rfl|rfl|rfl|rfl|rfl|rfl|rfl|rfl|rfl|rfl|rfl|rfl|rfl|rfl|rfl|rfl|rfl|rfl|rfl|rfl|rfl|rfl|rfl|h
  any_goals rfl
  rw[JG h]at h2;cases h2
theorem mi(o:C5)(ho:dB o):Hm o=some (bif Js o then Rn o else[]):=by
 unfold Hm;rw[cP o ho]
 cases hm:Js o with
 | false=>rfl
 | true=>
  obtain⟨h1,h2,h3,h4,h5,_⟩:=Vv hm
  have hloop:=TC (X:=List (Int×Int)) o.Args.length (Dt o) (H7 o) id (λl i hi hl=>by
   unfold H7
   have e0:decide ((i:Int)<(o.Args.length:Int))=true:=by simpa using hi
   have e1:((i:Int)==0)=Nat.beq i 0:=by cases i<;>rfl
   have e2:((i:Int)==1)=Nat.beq i 1:=by
    rcases i with _|_|i
    ·rfl
    ·rfl
    ·have:¬ (((i+1+1:Nat):Int)=1):=by omega
     simp only[Nat.beq]
     simpa using this
   have hr:l.length+([Dt o i]:List (Int×Int)).length<=room:=by have:=ho.args;simp[room];omega
   simp only[e0,e1,e2,Af];have e3 :=A8 hi (by have:=ho.args;omega);simp only[e3]
   have key:∀(x:Option (Int×Int)),x=some (Dt o i)->(x.bind λx23=>Aw (l.length+([(x23.1,x23.2)]:List (Int×Int)).length<=room) (some (LR.next (l++([(x23.1,x23.2)]:List (Int×Int)),(i:Int)+1))))=(some (LR.next (l++[Dt o i],(i:Int)+1)):Option (LR _ (List (Int×Int)))):=by
    rintro x rfl;exact Aa hr
   refine key _ ?_;clear key hr;obtain⟨k,b,n,d,args,im⟩:=o;rcases kinds k with rfl|rfl|rfl|rfl|rfl|rfl|rfl|rfl|rfl|rfl|rfl|rfl|rfl|rfl|rfl|rfl|rfl|rfl|rfl|rfl|rfl|rfl|rfl|h
   all_goals first
    | rfl
    | (rw[JG h]at h2;cases h2)
    | (rcases i with _|_|i<;>rfl)) (λl hl=>by
   unfold H7
   simp) o.Args.length 0 [] (by omega) rfl
  rw[show(0:Int)=((0:Nat):Int) from rfl];simp only[Dw,A1,hloop,As,id];rw[Rn,<- h5]
  rfl
theorem wf_u64{n:Int}(h:(Lit.int .u64 n).wf=true):0<=n/\n<18446744073709551616:=by simp[Lit.wf,IntKind.min,IntKind.max,IntKind.bits,IntKind.signed]at h;omega
theorem wf_u8{n:Int}(h:(Lit.int .u8 n).wf=true):0<=n/\n<256:=by simp[Lit.wf,IntKind.min,IntKind.max,IntKind.bits,IntKind.signed]at h;omega
abbrev Iall(w:World):Nat->Nat->Prop:=λb o=>∃ u,w.cell? ⟨b,o,none⟩=some u
structure nO(w:World)(cs:List Value)(avs:List AV):Prop where
 len:cs.length=avs.length
 one:∀ j,j<avs.length->(cs.getD j undef).oneCell'=true
 rep:∀ j,j<avs.length->RepV (Iall w) w (cs.getD j undef) (avs.getD j .any)
structure Opens(P:Program)(t:TypeId){α:Type}(e:α->List AV)(ok:α->Prop):Prop where
 get:∀{H:Type} {enc:TypeId×Value->H} {w:World} {base:Nat} {spare:Nat->Bool} {held:Bool} {fuel:Nat} {cs:List Value} {x:DataW H×List MemPlace},
  DataW.trod enc P w base spare held fuel t cs=some x->∃ a,ok a/\nO w cs (e a)
theorem SI{w:World}{v:Value}{x:AV}(h1:v.oneCell'=true)(h:RepV (Iall w) w v x):nO w [v] [x]:=
 ⟨rfl,λj hj=>(by
   grind),λj hj=>(by
   grind)⟩
theorem MC{P:Program}{t:TypeId}{k:IntKind}{e:Int->List AV}(ht:P.underlying t=some (.int k))(he:∀ n,e n=[.int k n]):Opens P t e (λn=>(Lit.int k n).wf=true):=by
 refine⟨?_⟩;intro H enc w base spare held fuel cs x h;obtain⟨n,rfl,rfl,hw⟩:=DataW.trod_int ht h;exact⟨n,hw,by rw[he];exact SI rfl (.int _ _)⟩
theorem g8{w:World}{base:Nat}{a:Addr}{n:Nat}{cs:List Value}(h:w.cells? base a n=some cs):cs.length=n/\∀ i,i<n->w.cell? (a.add i)=some (cs.getD i undef):=by
 unfold World.cells? at h
 split at h
 ·have hl:=mapM_some_length h;simp at hl;refine⟨hl,λi hi=>?_⟩;have:=mapM_some_get h i i (by simp[hi]);rw[this];simp[ show i<cs.length by omega]
 ·cases h
theorem P9{P:Program}{t el:TypeId}{α:Type}{e:α->List AV}{ok:α->Prop}{sz:Nat}{d:α}{e':List α->List AV}(ht:P.underlying t=some (.slice el))(hs:P.cellsOf el=sz)(h1:1<=sz)(he:Opens P el e ok)(hlen:∀ a,(e a).length=sz)
  (he':∀ l,e' l=[AV.list sz e d l .none]):Opens P t e' (λl=>(∀ a∈l,ok a)/\l.length<=maxLen):=by
 refine⟨?_⟩;intro H enc w base spare held fuel cs x h;rcases DataW.trod_slice ht h with⟨rfl,rfl⟩|⟨a,len,cap,elems,rest,n,_,rfl,rfl,hb,hl,hm,hlen2,hel,_⟩
 ·exact⟨[],⟨by simp,by simp⟩,by rw[he'];exact SI rfl (.slice none 0 0 sz _ (λ_=>undef) (zzL8 _) (by simp) (λh=>by simp at h) (λ_=>rfl) (λj hj=>by simp at hj) (λi hi=>by simp at hi) (λi c hi=>by simp at hi))⟩
 ·have each:∀ i:Fin len,∃ b,ok b/\∃ cs,w.cells? base (a.add (i.1*sz)) sz=some cs/\nO w cs (e b):=λ⟨i,hi⟩=>by
   have:=hel i hi;rw[hs,EI (by omega),zzL102]at this;obtain⟨cs,hcs,htr⟩:=this;obtain⟨b,hb,hr⟩:=he.get htr;exact⟨b,hb,cs,hcs,hr⟩
  let f:Fin len->α:=λi=>(each i).choose
  have hf:∀ i,ok (f i)/\∃ cs,w.cells? base (a.add (i.1*sz)) sz=some cs/\nO w cs (e (f i)):=λi=>(each i).choose_spec
  have hlf:(List.ofFn f).length=len:=by simp
  refine⟨List.ofFn f,⟨λb hb=>?_,by simp;omega⟩,?_⟩
  ·obtain⟨i,rfl⟩:=List.mem_ofFn.1 hb;exact(hf i).1
  rw[he'];refine SI rfl ?_
  have hcell0:∀ i (hi:i<len),∀ c,c<sz->∃ u,w.cell? ((a.add (i*sz)).add c)=some u/\u.oneCell'=true/\RepV (Iall w) w u ((e (f ⟨i,hi⟩)).getD c .any):=λi hi c hc=>by
   obtain⟨_,cs,hcs,hr⟩:=hf ⟨i,hi⟩;obtain⟨hl,hg⟩:=g8 hcs;exact⟨_,hg c hc,hr.one c (by rw[hlen];exact hc),hr.rep c (by rw[hlen];exact hc)⟩
  have hspot:0<len->a.spot=none:=λhp=>by
   obtain⟨u,hu,_⟩:=hcell0 0 hp 0 h1;have h2:=World.cell?_spot hu
   simpa [Addr.add] using h2
  have hcell:∀ i (hi:i<len),∀ c,c<sz->∃ u,w.cell? ⟨a.block,a.off+(i*sz+c),none⟩=some u/\u.oneCell'=true/\RepV (Iall w) w u ((e (f ⟨i,hi⟩)).getD c .any):=λi hi c hc=>by
   obtain⟨u,hu,h1,h2⟩:=hcell0 i hi c hc;have hsp:=hspot (by omega);rw[Mo hsp,Qe]at hu;exact⟨u,by rw[<- EL];exact hu,h1,h2⟩
  have hdm:∀ j,j<len*sz->∃ i c,i<len/\c<sz/\j=i*sz+c:=λj hj=>by
   refine⟨j / sz,j % sz,(bH (by omega)).2 hj,Y6 _ (by omega),?_⟩;rw[GY];exact(PF j sz).symm
  unfold AV.list;rw[hlf];refine .slice (some a) len cap sz _ (λj=>(w.cell? ⟨a.block,a.off+j,none⟩).getD undef) hl hm (λhp=>⟨a,rfl,hspot hp,λj hj=>?_,λj hj=>?_⟩) (λh=>by cases h) (λj hj=>?_) (λi hi=>hlen _) (λi c hi hc=>?_)
  ·obtain⟨i,c,hi,hc,rfl⟩:=hdm j hj;obtain⟨u,hu,_⟩:=hcell i hi c hc;exact⟨u,hu⟩
  ·obtain⟨i,c,hi,hc,rfl⟩:=hdm j hj;obtain⟨u,hu,_⟩:=hcell i hi c hc;rw[hu];rfl
  ·obtain⟨i,c,hi,hc,rfl⟩:=hdm j hj;obtain⟨u,hu,h1,_⟩:=hcell i hi c hc;simp only[hu];exact h1
  ·grind
structure bQ(P:Program)(fs:List Field)(off N:Nat){α:Type}(e:α->List AV)(ok:α->Prop):Prop where
 get:∀{H:Type} {enc:TypeId×Value->H} {w:World} {base:Nat} {spare:Nat->Bool} {held:Bool} {n:Nat} {cs:List Value},cs.length=N->
  (∀ f∈fs,∃ x,DataW.trod enc P w base spare held n f.type ((cs.drop f.offset).take (P.cellsOf f.type))=some x)->∃ a,ok a/\nO w (cs.drop off) (e a)
theorem Sf{P:Program}{N:Nat}:bQ P [] N N (λ_:Unit=>[]) (λ_=>True):=by
 refine⟨?_⟩;intro H enc w base spare held n cs hN _;rw[List.drop_eq_nil_of_le (by omega)];exact⟨(),trivial,rfl,(λj hj=>by simp at hj),(λj hj=>by simp at hj)⟩
theorem B8{P:Program}{f:Field}{fs:List Field}{off sz N:Nat}{α β:Type}{e:α->List AV}{ok:α->Prop}{e':β->List AV}{ok':β->Prop}(hoff:f.offset=off)(hsz:P.cellsOf f.type=sz)(hle:off+sz<=N)
  (h:Opens P f.type e ok) (h':bQ P fs (off+sz) N e' ok'):bQ P (f::fs) off N (λp:α×β=>e p.1++e' p.2) (λp=>ok p.1/\ok' p.2):=by
 refine⟨?_⟩;intro H enc w base spare held n cs hN hall;obtain⟨x,hx⟩:=hall f (by simp);rw[hoff,hsz]at hx;obtain⟨a,ha,hr⟩:=h.get hx;obtain⟨b,hb,hr'⟩:=h'.get hN (λg hg=>hall g (by simp[hg]))
 have hl:(e a).length=sz:=by rw[<- hr.len];simp;omega
 have hl':(e' b).length=N-(off+sz):=by rw[<- hr'.len];simp;omega
 have hsplit:cs.drop off=(cs.drop off).take sz++cs.drop (off+sz):=by rw[<- List.drop_drop];exact(List.take_append_drop sz _).symm
 have hl2:((cs.drop off).take sz).length=sz:=by simp;omega
 refine⟨(a,b),⟨ha,hb⟩,?_,λj hj=>?_,λj hj=>?_⟩
 ·simp[hl,hl'];omega
 ·rw[hsplit];replace hj:j<(e a++e' b).length:=hj
  show _
  by_cases hlt:j<sz
  ·have:=hr.one j (by omega);rwa[List.getD,Zq (by omega)]
  ·have:=hr'.one (j-sz) (by simp at hj;omega);rwa[List.getD,EH (by omega),hl2]
 ·rw[hsplit];replace hj:j<(e a++e' b).length:=hj
  show RepV (Iall w) w _ ((e a++e' b).getD j .any)
  by_cases hlt:j<sz
  ·have:=hr.rep j (by omega);rwa[List.getD,Zq (by omega),List.getD,Zq (by omega)]
  ·have:=hr'.rep (j-sz) (by simp at hj;omega);rwa[List.getD,EH (by omega),hl2,List.getD,EH (by omega),hl]
theorem Og{P:Program}{t:TypeId}{fs:Array Field}{N:Nat}{α:Type}{e:α->List AV}{ok:α->Prop}(ht:P.underlying t=some (.struct fs))(hN:P.cellsOf t=N)(h:bQ P fs.toList 0 N e ok):Opens P t e ok:=by
 refine⟨?_⟩;intro H enc w base spare held fuel cs x hx;obtain⟨xs,n,_,_,hl,hxl,hall⟩:=DataW.trod_struct ht hx
 have:=h.get  (hl.trans hN)      (λf hf=>by
  obtain⟨i,hi,rfl⟩:=List.mem_iff_getElem.1 hf
  have hi' :=by simpa using hi
  have:=hall i fs.toList[i] (by simp[hi']);rw[EI (by omega)]at this
  exact⟨_,this⟩)
 simpa using this
theorem Opens.to{P:Program}{t:TypeId}{α β:Type}{e:α->List AV}{ok:α->Prop}(h:Opens P t e ok){e':β->List AV}{ok':β->Prop}(g:α->β)(he:∀ a,e' (g a)=e a)(hok:∀ a,ok a->ok' (g a)):Opens P t e' ok':=by
 refine⟨?_⟩;intro H enc w base spare held fuel cs x hx;obtain⟨a,ha,hr⟩:=h.get hx;exact⟨g a,hok a ha,by rw[he];exact hr⟩
theorem arg_one{P:Program}{t:TypeId}{α:Type}{e:α->List AV}{ok:α->Prop}(h:Opens P t e ok){x:α->AV}(he:∀ a,e a=[x a]){H:Type}{enc:TypeId×Value->H}{w:World}{base:Nat}{spare:Nat->Bool}{held:Bool}{v:Value}{d:DataW H}{ps:List MemPlace}
  (hv:v.cells = #[v]) (hd:DataW.Trod enc P w base spare held t v d ps):∃ a,ok a/\RepV (Iall w) w v (x a):=by
 obtain⟨fuel,hf⟩:=hd;obtain⟨a,ha,hr⟩:=h.get hf;refine⟨a,ha,?_⟩;have:=hr.rep 0 (by simp[he])
 simpa [hv,he] using this
theorem arg_agg{P:Program}{t:TypeId}{α:Type}{e:α->List AV}{ok:α->Prop}(h:Opens P t e ok){H:Type}{enc:TypeId×Value->H}{w:World}{base:Nat}{spare:Nat->Bool}{held:Bool}{cs:Array Value}{d:DataW H}{ps:List MemPlace}
  (hd:DataW.Trod enc P w base spare held t (.agg cs) d ps):∃ a,ok a/\RepV (Iall w) w (.agg cs) (.agg (e a)):=by
 obtain⟨fuel,hf⟩:=hd;obtain⟨a,ha,hr⟩:=h.get hf;have e1:(Value.agg cs).cells.toList=cs.toList:=rfl;rw[e1]at hr
 have e2:∀ j,cs.toList.getD j undef=cs.getD j undef:=λj=>by simp_all
 refine⟨a,ha,.agg _ _ (by simpa using hr.len) (λj hj=>?_) (λj hj=>?_)⟩
 ·rw[<- e2];exact hr.one j hj
 ·rw[<- e2];exact hr.rep j hj
def Zh(n:Int):Prop:=(Lit.int .i64 n).wf=true
theorem TX:Opens Tryz.prog 3 Ax Zh:=MC Tryz.underlying3 (λ_=>rfl)
def LO(l:List (Int)):Prop:=(∀ a∈l,Zh a)/\l.length<=maxLen
theorem fE:Opens Tryz.prog 22 Lg LO:=P9 (d:=(0:Int)) Tryz.underlying22 (by kernel_rfl) (by decide) TX (λ_=>rfl) (λ_=>rfl)
def pr(a:Ff):Prop:=Zh a.Bits/\Zh a.Dst/\LO a.From/\LO a.Args/\True
theorem Aa0:Opens Tryz.prog 92 W0 pr:=Opens.to (Og (N:=4) Tryz.underlying92 (by kernel_rfl) (B8 (off:=0) (sz:=1) (N:=4) rfl (by kernel_rfl) (by decide) TX (B8 (off:=1) (sz:=1) (N:=4) rfl (by kernel_rfl) (by decide) TX (B8 (off:=2) (sz:=1) (N:=4) rfl (by kernel_rfl) (by decide) fE (B8 (off:=3) (sz:=1) (N:=4) rfl (by kernel_rfl) (by decide) fE Sf))))) (λp=>⟨p.1,p.2.1,p.2.2.1,p.2.2.2.1⟩) (λ_=>rfl) (λ_ h=>h)
def kS(l:List (Ff)):Prop:=(∀ a∈l,pr a)/\l.length<=maxLen
theorem Aay:Opens Tryz.prog 55 xi kS:=P9 (d:=(default:Ff)) Tryz.underlying55 (by kernel_rfl) (by decide) Aa0 (λ_=>rfl) (λ_=>rfl)
def pt(n:Int):Prop:=(Lit.int .u64 n).wf=true
theorem wK:Opens Tryz.prog 37 Dc pt:=MC Tryz.underlying37 (λ_=>rfl)
def wI(a:C5):Prop:=Zh a.Kind/\Zh a.Bits/\Zh a.Lanes/\Zh a.Dst/\LO a.Args/\pt a.Imm/\True
theorem Aav:Opens Tryz.prog 51 PX wI:=Opens.to (Og (N:=6) Tryz.underlying51 (by kernel_rfl) (B8 (off:=0) (sz:=1) (N:=6) rfl (by kernel_rfl) (by decide) TX (B8 (off:=1) (sz:=1) (N:=6) rfl (by kernel_rfl) (by decide) TX (B8 (off:=2) (sz:=1) (N:=6) rfl (by kernel_rfl) (by decide) TX (B8 (off:=3) (sz:=1) (N:=6) rfl (by kernel_rfl) (by decide) TX (B8 (off:=4) (sz:=1) (N:=6) rfl (by kernel_rfl) (by decide) fE (B8 (off:=5) (sz:=1) (N:=6) rfl (by kernel_rfl) (by decide) wK Sf))))))) (λp=>⟨p.1,p.2.1,p.2.2.1,p.2.2.2.1,p.2.2.2.2.1,p.2.2.2.2.2.1⟩) (λ_=>rfl) (λ_ h=>h)
def pm(l:List (C5)):Prop:=(∀ a∈l,wI a)/\l.length<=maxLen
theorem Aaw:Opens Tryz.prog 52 Aai pm:=P9 (d:=(default:C5)) Tryz.underlying52 (by kernel_rfl) (by decide) Aav (λ_=>rfl) (λ_=>rfl)
def pq(a:L6):Prop:=Zh a.Kind/\Zh a.Arg/\LO a.To/\True
theorem Aax:Opens Tryz.prog 54 du pq:=Opens.to (Og (N:=3) Tryz.underlying54 (by kernel_rfl) (B8 (off:=0) (sz:=1) (N:=3) rfl (by kernel_rfl) (by decide) TX (B8 (off:=1) (sz:=1) (N:=3) rfl (by kernel_rfl) (by decide) TX (B8 (off:=2) (sz:=1) (N:=3) rfl (by kernel_rfl) (by decide) fE Sf)))) (λp=>⟨p.1,p.2.1,p.2.2.1⟩) (λ_=>rfl) (λ_ h=>h)
def ek(a:Ai):Prop:=kS a.Phis/\pm a.Ops/\pq a.End/\True
theorem Aaz:Opens Tryz.prog 57 Jx ek:=Opens.to (Og (N:=5) Tryz.underlying57 (by kernel_rfl) (B8 (off:=0) (sz:=1) (N:=5) rfl (by kernel_rfl) (by decide) Aay (B8 (off:=1) (sz:=1) (N:=5) rfl (by kernel_rfl) (by decide) Aaw (B8 (off:=2) (sz:=3) (N:=5) rfl (by kernel_rfl) (by decide) Aax Sf)))) (λp=>⟨p.1,p.2.1,p.2.2.1⟩) (λ_=>rfl) (λ_ h=>h)
def ZY(l:List (Ai)):Prop:=(∀ a∈l,ek a)/\l.length<=maxLen
theorem Aas:Opens Tryz.prog 23 pD ZY:=P9 (d:=(default:Ai)) Tryz.underlying23 (by kernel_rfl) (by decide) Aaz (λ_=>rfl) (λ_=>rfl)
def okTFunc(a:TFunc):Prop:=LO a.Params/\Zh a.Ret/\ZY a.Blocks/\True
theorem op_25:Opens Tryz.prog 25 eTFunc okTFunc:=Opens.to (Og (N:=3) Tryz.underlying25 (by kernel_rfl) (B8 (off:=0) (sz:=1) (N:=3) rfl (by kernel_rfl) (by decide) fE (B8 (off:=1) (sz:=1) (N:=3) rfl (by kernel_rfl) (by decide) TX (B8 (off:=2) (sz:=1) (N:=3) rfl (by kernel_rfl) (by decide) Aas Sf)))) (λp=>⟨p.1,p.2.1,p.2.2.1⟩) (λ_=>rfl) (λ_ h=>h)
def pn(l:List (Int)):Prop:=(∀ a∈l,pt a)/\l.length<=maxLen
theorem Aat:Opens Tryz.prog 26 D8 pn:=P9 (d:=(0:Int)) Tryz.underlying26 (by kernel_rfl) (by decide) wK (λ_=>rfl) (λ_=>rfl)
def okU8(n:Int):Prop:=(Lit.int .u8 n).wf=true
theorem op_5:Opens Tryz.prog 5 Ur okU8:=MC Tryz.underlying5 (λ_=>rfl)
def wH(l:List (Int)):Prop:=(∀ a∈l,okU8 a)/\l.length<=maxLen
theorem Aau:Opens Tryz.prog 27 Ab0 wH:=P9 (d:=(0:Int)) Tryz.underlying27 (by kernel_rfl) (by decide) op_5 (λ_=>rfl) (λ_=>rfl)
def okTCase(a:TCase):Prop:=pn a.Args/\wH a.Mem/\Zh a.Fuel/\True
theorem op_29:Opens Tryz.prog 29 eTCase okTCase:=Opens.to (Og (N:=3) Tryz.underlying29 (by kernel_rfl) (B8 (off:=0) (sz:=1) (N:=3) rfl (by kernel_rfl) (by decide) Aat (B8 (off:=1) (sz:=1) (N:=3) rfl (by kernel_rfl) (by decide) Aau (B8 (off:=2) (sz:=1) (N:=3) rfl (by kernel_rfl) (by decide) TX Sf)))) (λp=>⟨p.1,p.2.1,p.2.2.1⟩) (λ_=>rfl) (λ_ h=>h)
def numB(n:Int):Bool:=decide (0<=n)&&decide (n<=2147483647)
def listB(l:List Int):Bool:=l.all numB&&decide (l.length<=64)
def JU(p:Ff):Bool:=numB p.Bits&&numB p.Dst&&listB p.From&&listB p.Args
def ic(o:C5):Bool:=numB o.Kind&&numB o.Bits&&numB o.Lanes&&numB o.Dst&&listB o.Args
def iA(e:L6):Bool:=numB e.Kind&&numB e.Arg&&listB e.To
def blockB(b:Ai):Bool:=b.Phis.all JU&&b.Ops.all ic&&iA b.End
def OQ(b:Ai):Nat:=b.Phis.length+b.Ops.length+1
def V1(f:TFunc):Nat:=(f.Blocks.map OQ).sum
def sizeW(f:TFunc):Int:=w64 (V1 f)
def W6(f:TFunc):Bool:=decide (1<=f.Blocks.length)&&decide (f.Blocks.length<=64)&&decide (f.Params.length<=16)&&listB f.Params&&numB f.Ret&&decide (sizeW f<=512)&&f.Blocks.all blockB
def mB(p:Ff):Nat:=1+p.From.length+p.Args.length
def mA(o:C5):Nat:=1+o.Args.length
def lz(b:Ai):Nat:=1+b.End.To.length+(b.Phis.map mB).sum+(b.Ops.map mA).sum
def pF(f:TFunc):Nat:=f.Params.length+(f.Blocks.map lz).sum
theorem Ug:maxLen=9223372036854775807:=rfl
structure fw(f:TFunc):Prop where
 params:f.Params.length<=maxLen
 blocks:f.Blocks.length<=maxLen
 block:∀ b∈f.Blocks,b.Phis.length<=maxLen/\b.Ops.length<=maxLen/\b.End.To.length<=maxLen
 phi:∀ b∈f.Blocks,∀ p∈b.Phis,p.From.length<=maxLen/\p.Args.length<=maxLen
 op:∀ b∈f.Blocks,∀ o∈b.Ops,o.Args.length<=maxLen/\0<=o.Imm/\o.Imm<18446744073709551616
theorem inF{f:TFunc}(h:okTFunc f):fw f:=
 ⟨h.1.2,h.2.2.1.2,λb hb=>⟨(h.2.2.1.1 b hb).1.2,(h.2.2.1.1 b hb).2.1.2,(h.2.2.1.1 b hb).2.2.1.2.2.1.2⟩,λb hb p hp=>⟨((h.2.2.1.1 b hb).1.1 p hp).2.2.1.2,((h.2.2.1.1 b hb).1.1 p hp).2.2.2.1.2⟩,
  λb hb o ho=>⟨((h.2.2.1.1 b hb).2.1.1 o ho).2.2.2.2.1.2,wf_u64 ((h.2.2.1.1 b hb).2.1.1 o ho).2.2.2.2.2.1⟩⟩
theorem RG{n:Nat}(h:n<9223372036854775808):w64 (n:Int)=n:=Hg (by omega) (by omega)
theorem Lx{i n:Nat}(h:i<n)(hn:n<=maxLen):w64 ((i:Int)+1)=((i+1:Nat):Int):=by rw[Ug]at hn;rw[show((i:Int)+1)=(i+1:Nat) by omega,RG (by omega)]
theorem UV(f:TFunc)(hf:fw f):∃ b,C2 f=some b:=by
 have h3:∃ x,Ad (Cx f) (f.Params.length,(0:Nat))=some x:=by
  refine Us f.Blocks.length _ (λn i hi=>?_) (λn=>?_) _ 0 _ (H0 _)
  ·have hmem:=Aj (d:=default) hi;obtain⟨b1,b2,_⟩:=hf.block _ hmem;have hI :=Ak hi;unfold Cx
   cases hc:(bif decide (i<(f.Blocks.length:Int)) then decide (n<=20000) else false) with
   | false=>right;simp only[hc];exact⟨_,rfl⟩
   | true=>
    left
    simp only[hc, Aa hI]
    obtain⟨x1,h1⟩:=Us (f.Blocks.getD i default).Phis.length (Cv f i) (λn j hj=>by
      unfold Cv;simp only[Aa hI,Dq]
      cases hc:(bif decide (j<((f.Blocks.getD i default).Phis.length:Int)) then decide (n<=20000) else false) with
      | false=>grind
      | true=>left;simp only[ Aa (Ak hj),Lx hj b1];exact⟨_,rfl⟩) (λn=>by
      unfold Cv;simp only[Aa hI,Dq]
      have:decide ((f.Blocks.getD i default).Phis.length<((f.Blocks.getD i default).Phis.length:Int))=false:=by simp
      simp only[this];exact⟨_,rfl⟩) _ 0 (w64 (w64 (n+1)+(f.Blocks.getD i default).End.To.length)) (H0 _)
    obtain⟨x2,h2⟩:=Us (f.Blocks.getD i default).Ops.length (Cw f i) (λn j hj=>by
      unfold Cw;simp only[Aa hI,Dq]
      cases hc:(bif decide (j<((f.Blocks.getD i default).Ops.length:Int)) then decide (n<=20000) else false) with
      | false=>grind
      | true=>left;simp only[ Aa (Ak hj),Lx hj b2];exact⟨_,rfl⟩) (λn=>by
      unfold Cw;simp only[Aa hI,Dq]
      have:decide ((f.Blocks.getD i default).Ops.length<((f.Blocks.getD i default).Ops.length:Int))=false:=by simp
      simp only[this];exact⟨_,rfl⟩) _ 0 x1 (H0 _)
    rw[show((0:Nat):Int)=0 from rfl]at h1 h2;simp only[Dq,h1,h2,As,Lx hi hf.blocks];exact⟨_,rfl⟩
  ·unfold Cx
   have:decide ((f.Blocks.length:Int)<(f.Blocks.length:Int))=false:=by simp
   simp only[this];exact⟨_,rfl⟩
 obtain⟨x,hx⟩:=h3;unfold C2;rw[show((0:Nat):Int)=0 from rfl]at hx;rw[hx];exact⟨_,rfl⟩
theorem qc(f:TFunc)(hf:fw f)(h0:f.Params.length<=64)(hb:∀ b∈f.Blocks,b.End.To.length<=64/\(∀ p∈b.Phis,p.From.length<=64/\p.Args.length<=64)/\∀ o∈b.Ops,o.Args.length<=64):C2 f=some (decide (pF f<=20000)):=by
 have h3:=JJ f.Blocks (default:Ai) lz 20000 (Cx f) (λn i hi hn=>by
   have hmem:=Aj (d:=(default:Ai)) hi;obtain⟨b1,b2,b3⟩:=hf.block _ hmem;obtain⟨hTo,hPh,hOp⟩:=hb _ hmem;have hI1:A0 (i:Int) f.Blocks.length:=Ak hi
   have l1:=JJ (f.Blocks.getD i default).Phis (default:Ff) mB 20000 (Cv f i) (λn j hj hn=>by
     have hm:=Aj (d:=(default:Ff)) hj;obtain⟨p1,p2⟩:=hPh _ hm
     have e1:decide ((j:Int)<((f.Blocks.getD i default).Phis.length:Int))=true:=by simpa using hj
     have e2:decide ((n:Int)<=20000)=true:=by simp;omega
     refine⟨n+mB ((f.Blocks.getD i default).Phis.getD j default),?_,λ_=>rfl,λh=>h⟩;unfold Cv;simp only[Aa hI1,Dq,e1,e2,Af,Aa (Ak hj),Lx hj b1]
     congr 3
     rw[Hg (n:=(n:Int)+1) (by omega) (by omega),Hg (n:=(n:Int)+1+_) (by omega) (by omega),Hg (by omega) (by omega)];simp only[mB]
     omega) (λn j hj hd=>by
     unfold Cv;simp only[Aa hI1,Dq]
     have:(bif decide ((j:Int)<((f.Blocks.getD i default).Phis.length:Int)) then decide ((n:Int)<=20000) else false)=false:=by
      rcases hd with rfl|h
      ·simp
      ·simp;omega
     rw[this];rfl)
   have l2:=JJ (f.Blocks.getD i default).Ops (default:C5) mA 20000 (Cw f i) (λn j hj hn=>by
     have hm:=Aj (d:=(default:C5)) hj;have p1:=hOp _ hm
     have e1:decide ((j:Int)<((f.Blocks.getD i default).Ops.length:Int))=true:=by simpa using hj
     have e2:decide ((n:Int)<=20000)=true:=by simp;omega
     refine⟨n+mA ((f.Blocks.getD i default).Ops.getD j default),?_,λ_=>rfl,λh=>h⟩;unfold Cw;simp only[Aa hI1,Dq,e1,e2,Af,Aa (Ak hj),Lx hj b2]
     congr 3
     rw[Hg (n:=(n:Int)+1) (by omega) (by omega),Hg (by omega) (by omega)];simp only[mA]
     omega) (λn j hj hd=>by
     unfold Cw;simp only[Aa hI1,Dq]
     have:(bif decide ((j:Int)<((f.Blocks.getD i default).Ops.length:Int)) then decide ((n:Int)<=20000) else false)=false:=by
      rcases hd with rfl|h
      ·simp
      ·simp;omega
     rw[this];rfl)
   have e1:decide ((i:Int)<(f.Blocks.length:Int))=true:=by simpa using hi
   have e2:decide ((n:Int)<=20000)=true:=by simp;omega
   obtain⟨m1,q1,q2,q3⟩:=l1 _ 0 (n+1+(f.Blocks.getD i default).End.To.length) (H0 _);obtain⟨m2,q4,q5,q6⟩:=l2 _ 0 m1 (H0 _);rw[My]at q2 q3 q5 q6;refine⟨m2,?_,λhle=>?_,λhle=>?_⟩
   ·unfold Cx;simp only[e1,e2,Af,Aa hI1,Dq,Lx hi hf.blocks];rw[Hg (n:=(n:Int)+1) (by omega) (by omega),Hg (by omega) (by omega),show(n:Int)+1+((f.Blocks.getD i default).End.To.length:Int)=((n+1+(f.Blocks.getD i default).End.To.length:Nat):Int) by omega];rw[show((0:Nat):Int)=0 from rfl]at q1 q4;rw[q1,As,q4,As]
   ·simp only[lz]at hle ⊢;have:=q2 (by omega);rw[q5 (by omega)];omega
   ·simp only[lz];have h6:=q6 hle;have h3:=q3 (by omega);have:=q2 h3
    omega) (λn i hi hd=>by
   unfold Cx
   have:(bif decide ((i:Int)<(f.Blocks.length:Int)) then decide ((n:Int)<=20000) else false)=false:=by
    rcases hd with rfl|h
    ·simp
    ·simp;omega
   simp only[this,A1]) f.Blocks.length 0 f.Params.length (H0 _)
 obtain⟨m,h1,h2,h4⟩:=h3;rw[My]at h2 h4;unfold C2;rw[show((0:Nat):Int)=0 from rfl]at h1;rw[h1,As]
 congr 1
 apply zzL61.2
 simp only[pF]
 constructor
 ·intro h;exact h4 (by omega)
 ·intro h;have:=h2 h;omega
theorem Vy(n:Int):Bp n=some (numB n):=by unfold Bp numB;cases decide (0<=n)<;>rfl
theorem Tb(l:List Int)(h:l.length<=maxLen):Dg l=some (listB l):=by
 unfold Dg;rw[Ug]at h
 have hloop:=Hj l 0 numB (Ga l) (.inl ()) (.inr false) (λi hi hp=>by
   unfold Ga
   have:decide (i<(l.length:Int))=true:=by simpa using hi
   simp only[this,Af,Aa (Ak hi),Dq,Vy,As,hp,Dw,A1,A8 hi (by omega)]) (λi hi hp=>by
   unfold Ga
   have:decide (i<(l.length:Int))=true:=by simpa using hi
   simp only[this,Af,Aa (Ak hi),Dq,Vy,As,hp,K4]) (by
   unfold Ga
   simp) l.length 0 (by omega)
 rw[show(0:Int)=(0:Nat) from rfl,hloop,My];unfold listB
 have e:decide ((l.length:Int)<=64)=decide (l.length<=64):=by grind
 cases l.all _
 ·rfl
 ·simp[e]
theorem qV(f:TFunc)(hf:fw f):Ku f=some (sizeW f):=by
 unfold Ku
 have hl:=LF _ default OQ id (Iu f) (λn i hi=>by
   have e1:decide ((i:Int)<f.Blocks.length)=true:=by simpa using hi
   unfold Iu;simp only[e1,Af,Aa (Ak hi),Dq,Lx hi hf.blocks]
   congr 3
   rw[KG,KG,Int.add_assoc _,KG];unfold OQ
   congr 1
   omega) (λn=>by
   unfold Iu
   simp) _ 0 0 (H0 _)
 rw[show w64 _=0 from rfl,show((0:Nat):Int)=0 from rfl]at hl;rw[hl];simp[V1,sizeW]
theorem vD(f:TFunc)(hf:fw f):Jd f=some (W6 f):=by
 have hloop:Ad (E4 f) ((0:Nat):Int)=some (bif (f.Blocks.drop 0).all blockB then .inl () else .inr false):=by
  have step:∀ i:Nat,i<f.Blocks.length->E4 f (i:Int)=bif blockB (f.Blocks.getD i default) then some (.next ((i:Int)+1)) else some (.done (.inr false)):=λi hi=>by
   have hmem:=Aj (d:=(default:Ai)) hi;obtain⟨b1,b2,b3⟩:=hf.block _ hmem;have hPh:=hf.phi _ hmem;have hOp:=hf.op _ hmem;have hM:=Ug
   have e0:decide ((i:Int)<(f.Blocks.length:Int))=true:=by simpa using hi
   have l1:=Hj (f.Blocks.getD i default).Phis (default:Ff) JU (G0 f i) (.inl ()) (.inr false) (λj hj hp=>by
     obtain⟨p1,p2⟩:=hPh _ (Aj (d:=(default:Ff)) hj)
     have e1:decide ((j:Int)<((f.Blocks.getD i default).Phis.length:Int))=true:=by simpa using hj
     unfold G0;simp only[e1,Af,Dq,Aa (Ak hj),Vy,As,Tb _ p1,Tb _ p2,A8 hj (by omega)]
     revert hp
     unfold JU
     cases numB ((f.Blocks.getD i default).Phis.getD j default).Bits<;>cases numB ((f.Blocks.getD i default).Phis.getD j default).Dst<;>cases listB ((f.Blocks.getD i default).Phis.getD j default).From<;>cases listB ((f.Blocks.getD i default).Phis.getD j default).Args<;>simp) (λj hj hp=>by
     obtain⟨p1,p2⟩:=hPh _ (Aj (d:=(default:Ff)) hj)
     have e1:decide ((j:Int)<((f.Blocks.getD i default).Phis.length:Int))=true:=by simpa using hj
     unfold G0;simp only[e1,Af,Dq,Aa (Ak hj),Vy,As,Tb _ p1,Tb _ p2,A8 hj (by omega)]
     revert hp
     unfold JU
     cases numB ((f.Blocks.getD i default).Phis.getD j default).Bits<;>cases numB ((f.Blocks.getD i default).Phis.getD j default).Dst<;>cases listB ((f.Blocks.getD i default).Phis.getD j default).From<;>cases listB ((f.Blocks.getD i default).Phis.getD j default).Args<;>simp) (by
     unfold G0
     simp) _ 0 (H0 _)
   have l2:=Hj (f.Blocks.getD i default).Ops (default:C5) ic (G1 f i) (.inl ()) (.inr false) (λj hj hp=>by
     obtain⟨p1,_⟩:=hOp _ (Aj (d:=(default:C5)) hj)
     have e1:decide ((j:Int)<((f.Blocks.getD i default).Ops.length:Int))=true:=by simpa using hj
     unfold G1;simp only[e1,Af,Dq,Aa (Ak hj),Vy,As,Tb _ p1,A8 hj (by omega)]
     revert hp
     unfold ic
     cases numB ((f.Blocks.getD i default).Ops.getD j default).Kind<;>cases numB ((f.Blocks.getD i default).Ops.getD j default).Bits<;>cases numB ((f.Blocks.getD i default).Ops.getD j default).Lanes<;>cases numB ((f.Blocks.getD i default).Ops.getD j default).Dst<;>cases listB ((f.Blocks.getD i default).Ops.getD j default).Args<;>simp) (λj hj hp=>by
     obtain⟨p1,_⟩:=hOp _ (Aj (d:=(default:C5)) hj)
     have e1:decide ((j:Int)<((f.Blocks.getD i default).Ops.length:Int))=true:=by simpa using hj
     unfold G1;simp only[e1,Af,Dq,Aa (Ak hj),Vy,As,Tb _ p1,A8 hj (by omega)]
     revert hp
     unfold ic
     cases numB ((f.Blocks.getD i default).Ops.getD j default).Kind<;>cases numB ((f.Blocks.getD i default).Ops.getD j default).Bits<;>cases numB ((f.Blocks.getD i default).Ops.getD j default).Lanes<;>cases numB ((f.Blocks.getD i default).Ops.getD j default).Dst<;>cases listB ((f.Blocks.getD i default).Ops.getD j default).Args<;>simp) (by
     unfold G1
     simp) _ 0 (H0 _)
   rw[show((0:Nat):Int)=0 from rfl,My]at l1 l2;unfold E4;simp only[e0,Af,Aa (Ak hi),l1,As];unfold blockB
   cases(f.Blocks.getD i default).Phis.all JU with
   | false=>rfl
   | true=>
    simp only[Af,l2,As,Dq,Vy,Tb _ b3,A8 hi (by have:=hf.blocks;omega)]
    cases(f.Blocks.getD i default).Ops.all ic with
    | false=>rfl
    | true=>
     unfold iA
     cases numB (f.Blocks.getD i default).End.Kind<;>cases numB (f.Blocks.getD i default).End.Arg<;>cases listB (f.Blocks.getD i default).End.To<;>rfl
  exact Hj f.Blocks (default:Ai) blockB (E4 f) (.inl ()) (.inr false) (λi hi hp=>by rw[step i hi,hp];rfl) (λi hi hp=>by rw[step i hi,hp];rfl) (by
   unfold E4
   simp) _ 0 (H0 _)
 rw[show((0:Nat):Int)=0 from rfl,My]at hloop;unfold Jd W6;simp only[Tb _ hf.params,Vy,qV f hf,hloop]
 have e1:((f.Blocks.length:Int)==0) = !decide (1<=f.Blocks.length):=by
  rw[<- decide_not]
  by_cases h:f.Blocks.length=0
  ·simp[h]
  ·have h1:((f.Blocks.length:Int)==0)=false:=by simpa using h
   rw[h1];symm;apply Ct;omega
 have e2:decide ((64:Int)<(f.Blocks.length:Int)) = !decide (f.Blocks.length<=64):=by rw[<- decide_not];apply zzL61.2;omega
 have e3:decide ((16:Int)<(f.Params.length:Int)) = !decide (f.Params.length<=16):=by rw[<- decide_not];apply zzL61.2;omega
 have e4:decide ((512:Int)<sizeW f) = !decide (sizeW f<=512):=by rw[<- decide_not];apply zzL61.2;omega
 rw[e1,e2,e3]
 generalize decide (1<=f.Blocks.length)=p1
 generalize decide (f.Blocks.length<=64)=p2
 generalize decide (f.Params.length<=16)=p3
 generalize listB f.Params=p4
 generalize numB f.Ret=p5
 cases p1 with
 | false=>simp
 | true=>cases p2 with
  | false=>simp
  | true=>cases p3 with
   | false=>simp
   | true=>cases p4 with
    | false=>simp
    | true=>cases p5 with
     | false=>simp
     | true=>
      simp only[Dw,Bool.or_self,Af,A1,R3,As,e4]
      cases decide (sizeW f<=512) with
      | false=>simp
      | true=>cases f.Blocks.all blockB<;>simp
theorem pk{n:Int}:numB n=true↔0<=n/\n<=2147483647:=by simp[numB]
theorem listB_iff{l:List Int}:listB l=true↔pM l/\l.length<=64:=by
 simp[listB,pM,pk]
def Abb(n:Int):Prop:=0<=n/\n<18446744073709551616
structure OkB(b:Ai):Prop where
 may:blockB b=true
 phis:b.Phis.length<=512
 ops:b.Ops.length<=512
 imm:∀ o∈b.Ops,Abb o.Imm
structure OkF(f:TFunc):Prop where
 params:listB f.Params=true
 few:f.Params.length<=16
 ret:numB f.Ret=true
 blocks:f.Blocks.length<=64
 block:∀ b∈f.Blocks,OkB b
theorem blockB_iff{b:Ai}:blockB b=true↔(∀ p∈b.Phis,JU p=true)/\(∀ o∈b.Ops,ic o=true)/\iA b.End=true:=by
 simp[blockB,and_assoc]
theorem yQ{α:Type}(l:List α)(g:α->Nat)(B:Nat)(h:∀ a∈l,g a<=B):(l.map g).sum<=l.length*B:=by
 induction l with
 | nil=>simp
 | cons a l ih=>
  have h1:=h a (by simp);have h2:=ih (λb hb=>h b (by simp[hb]));rw[C1,List.sum_cons,GU,Ht];omega
theorem qf{α:Type}(l:List α)(g k:α->Nat)(h:∀ a∈l,g a<=k a):(l.map g).sum<=(l.map k).sum:=by
 induction l with
 | nil=>simp
 | cons a l ih=>
  grind
theorem TB{α:Type}(l:List α)(g:α->Nat)(h:∀ a∈l,1<=g a):l.length<=(l.map g).sum:=by
 induction l with
 | nil=>simp
 | cons a l ih=>
  grind
theorem iS{α:Type}{l:List α}{a:α}(g:α->Nat)(h:a∈l):g a<=(l.map g).sum:=by
 induction l with
 | nil=>cases h
 | cons b l ih=>
  grind
theorem OkF.size{f:TFunc}(h:OkF f):V1 f<=65600/\sizeW f=V1 f:=by
 have:V1 f<=f.Blocks.length*1025:=yQ _ _ _ λb hb=>by
  have h1:=(h.block b hb).phis;have h2:=(h.block b hb).ops;simp only[OQ];omega
 have h2:=h.blocks
 have h3:V1 f<=65600:=by omega
 exact⟨h3,RG (by omega)⟩
theorem LJ{f:TFunc}(h:W6 f=true):1<=f.Blocks.length/\f.Blocks.length<=64/\f.Params.length<=16/\listB f.Params=true/\numB f.Ret=true/\sizeW f<=512/\∀ b∈f.Blocks,blockB b=true:=by
 simp only[W6,Bh,Jo,zzL34]at h;exact⟨h.1.1.1.1.1.1,h.1.1.1.1.1.2,h.1.1.1.1.2,h.1.1.1.2,h.1.1.2,h.1.2,h.2⟩
theorem mR{f:TFunc}(h:W6 f=true):f.Params.length<=64/\∀ b∈f.Blocks,b.End.To.length<=64/\(∀ p∈b.Phis,p.From.length<=64/\p.Args.length<=64)/\∀ o∈b.Ops,o.Args.length<=64:=by
 obtain⟨_,_,h3,_,_,_,h7⟩:=LJ h;refine⟨by omega,λb hb=>?_⟩;obtain⟨q1,q2,q3⟩:=blockB_iff.1 (h7 b hb);simp only[iA,Bh]at q3;refine⟨(listB_iff.1 q3.2).2,λp hp=>?_,λo ho=>?_⟩
 ·have:=q1 p hp;simp only[JU,Bh]at this;exact⟨(listB_iff.1 this.1.2).2,(listB_iff.1 this.2).2⟩
 ·have:=q2 o ho;simp only[ic,Bh]at this;exact(listB_iff.1 this.2).2
theorem xy{f:TFunc}(hf:fw f)(h:W6 f=true)(hs:pF f<=20000):OkF f/\V1 f<=512:=by
 obtain⟨h1,h2,h3,h4,h5,h6,h7⟩:=LJ h
 have hle:V1 f<=pF f:=by
  have:V1 f<=(f.Blocks.map lz).sum:=qf _ _ _ λb hb=>by
   have q1:b.Phis.length<=(b.Phis.map mB).sum:=TB _ _ λp hp=>by simp only[mB];omega
   have q2:b.Ops.length<=(b.Ops.map mA).sum:=TB _ _ λp hp=>by simp only[mA];omega
   simp only[OQ,lz];omega
  simp only[pF];omega
 have hw:sizeW f=V1 f:=RG (by omega)
 have h512:V1 f<=512:=by omega
 refine⟨⟨h4,h3,h5,h2,λb hb=>?_⟩,h512⟩;have hb512:OQ b<=V1 f:=iS _ hb;simp only[OQ]at hb512;exact⟨h7 b hb,by omega,by omega,λo ho=>(hf.op b hb o ho).2⟩
theorem fX(f:TFunc)(hf:fw f):∃ sm,C2 f=some sm/\(sm=true->W6 f=true->OkF f/\V1 f<=512/\1<=f.Blocks.length):=by
 obtain⟨sm,h⟩:=UV f hf;refine⟨sm,h,λh1 h2=>?_⟩;obtain⟨q1,q2⟩:=mR h2;rw[qc f hf q1 q2]at h;obtain⟨r1,r2⟩:=xy hf h2 (by grind);exact⟨r1,r2,(LJ h2).1⟩
def JI(l:Int):Int:=bif l==0 then 17 else bif l==1 then 20 else 22
def Ri(l:Int)(o:C5):Bool:=Js o&&!decide (JI l<o.Kind)&&!(decide (l<2)&&decide (1<o.Lanes))
def Jr(l:Int)(b:Ai):Bool:=(b.Phis.all λp=>widthB p.Bits)&&b.Ops.all (Ri l)
def Sk(f:TFunc)(l:Int):Bool:=f.Params.all widthB&&f.Blocks.all (Jr l)&&widthB f.Ret
theorem ul{m a b c:Bool}{x:Int}:(bif (bif (bif (!m) then true else a) then true else(bif b then c else false)) then(some (LR.done (Sum.inr false))) else some (LR.next x):Option (LR Int (Unit ⊕ Bool)))=some (bif (m&&!a&&!(b&&c)) then .next x else .done (.inr false)):=by
 grind
theorem mc{f:TFunc}(hf:OkF f){b:Ai}(hb:b∈f.Blocks){o:C5}(ho:o∈b.Ops):dB o:=by
 have h1:=hf.block b hb;have h2:=(blockB_iff.1 h1.may).2.1 o ho;simp only[ic,Bh]at h2;exact⟨⟨(h1.imm o ho).1,(h1.imm o ho).2⟩,by have:=(listB_iff.1 h2.2).2;omega⟩
theorem uV{f:TFunc}(hf:OkF f)(l:Int):J8 f l=some (Sk f l):=by
 have hp:=Hj f.Params (0:Int) widthB (Fo f) (.inl ()) (.inr false) (λi hi hp=>by
   unfold Fo
   have:decide ((i:Int)<(f.Params.length:Int))=true:=by simpa using hi
   simp only[this,Af,Aa (Ak hi),Dq,Ta,As,hp,Dw,A1,A8 hi (by have:=hf.few;omega)]) (λi hi hp=>by
   unfold Fo
   have:decide ((i:Int)<(f.Params.length:Int))=true:=by simpa using hi
   simp only[this,Af,Aa (Ak hi),Dq,Ta,As,hp,K4]) (by
   unfold Fo;simp) f.Params.length 0 (by omega)
 have hb:=Hj f.Blocks (default:Ai) (Jr l) (Fp f l) (.inl ()) (.inr false)
 have hphi:∀ i:Nat,i<f.Blocks.length->Ad (Dz f (i:Int)) (0:Int)=some _:=λi hi=>by
  have hB:=hf.block _ (Aj (d:=(default:Ai)) hi)
  have:=Hj (f.Blocks.getD i default).Phis (default:Ff) (λp=>widthB p.Bits) (Dz f (i:Int)) (.inl ()) (.inr false) (λj hj hp=>by
   unfold Dz
   have:decide ((j:Int)<((f.Blocks.getD i default).Phis.length:Int))=true:=by simpa using hj
   simp only[Aa (Ak hi),Dq,this,Af,Aa (Ak hj),Ta,As,hp,Dw,A1,A8 hj (by have:=hB.phis;omega)]) (λj hj hp=>by
   unfold Dz
   have:decide ((j:Int)<((f.Blocks.getD i default).Phis.length:Int))=true:=by simpa using hj
   simp only[Aa (Ak hi),Dq,this,Af,Aa (Ak hj),Ta,As,hp,K4]) (by
   unfold Dz;simp[Aa (Ak hi)]) (f.Blocks.getD i default).Phis.length 0 (by omega)
  rw[show(0:Int)=((0:Nat):Int) from rfl,this,My]
 have hops:∀ i:Nat,i<f.Blocks.length->Ad (D0 f l (i:Int)) (0:Int)=some _:=λi hi=>by
  have hmem:=Aj (d:=(default:Ai)) hi;have hB:=hf.block _ hmem
  have key:∀(j:Nat),j<(f.Blocks.getD i default).Ops.length->D0 f l (i:Int) (j:Int)=some (bif Ri l ((f.Blocks.getD i default).Ops.getD j default) then .next ((j:Int)+1) else .done (.inr false)):=λj hj=>by
   unfold D0
   have hd:decide ((j:Int)<((f.Blocks.getD i default).Ops.length:Int))=true:=by simpa using hj
   have hok:=mc hf hmem (Aj (d:=(default:C5)) hj);simp only[Aa (Ak hi),Dq,hd,Af,Aa (Ak hj),A8 hj (by have:=hB.ops;omega)];unfold Ri JI;cases h1:(l==1)<;>cases h0:(l==0)<;>simp only[Af,A1,As,cP _ hok,ul]
  have:=Hj (f.Blocks.getD i default).Ops (default:C5) (Ri l) (D0 f l (i:Int)) (.inl ()) (.inr false) (λj hj hp=>by rw[key j hj,hp];rfl) (λj hj hp=>by rw[key j hj,hp];rfl) (by
   unfold D0;simp[Aa (Ak hi)]) (f.Blocks.getD i default).Ops.length 0 (by omega)
  rw[show(0:Int)=((0:Nat):Int) from rfl,this,My]
 have hb':=hb (λi hi hp=>by
   unfold Fp
   have:decide ((i:Int)<(f.Blocks.length:Int))=true:=by simpa using hi
   simp only[Jr,Bh]at hp
   simp only[this,Af,hphi i hi,hops i hi,hp.1,hp.2,As,A8 hi (by have:=hf.blocks;omega)]) (λi hi hp=>by
   unfold Fp
   have:decide ((i:Int)<(f.Blocks.length:Int))=true:=by simpa using hi
   simp only[Jr]at hp;simp only[this,Af,hphi i hi,hops i hi,As]
   cases h1:((f.Blocks.getD i default).Phis.all λp=>widthB p.Bits) with
   | false=>rfl
   | true=>grind) (by
   unfold Fp;simp) f.Blocks.length 0 (by omega)
 unfold J8 Sk;rw[show(0:Int)=((0:Nat):Int) from rfl,hp,hb',My,My]
 cases f.Params.all widthB<;>cases f.Blocks.all (Jr l)<;>simp[Ta]
end
end Go.Proofs.YtaeaenoaomdimaaGreat
