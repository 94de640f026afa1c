/-
  The machine, the program's functions and the laws' arithmetic: part 4 of 5.
-/
import Derived.Test.YtfhggcbcamamdaaGreatPk3
import Derived.Lib.RowBridge
import Derived.OpenShut
import Derived.ShutString
set_option linter.unusedSectionVars false
set_option linter.unusedVariables false
set_option linter.unusedSimpArgs false
namespace Go.Proofs.YtfhggcbcamamdaaGreat
noncomputable section
open Go Go.RowKit
set_option maxRecDepth 100000
set_option maxHeartbeats 2000000
def Et(a1:Ab)(a0:Int)(a4:Int):ja->Option qr:=
 λ((i3,l4):ja)=>(bif (decide (i3<(((a1.Blocks.getD a4.toNat default).Phis).length:Int))) then(Bh (Bl i3 ((a1.Blocks.getD a4.toNat default).Phis).length) (Bh (Bl (0:Int) ((((a1.Blocks.getD a4.toNat default).Phis).getD i3.toNat default).Args).length) ((Ew (((((a1.Blocks.getD a4.toNat default).Phis).getD i3.toNat default).Args).getD (0:Int).toNat (0:Int)) a0 a4 l4).bind λx8=>(some (.next ((Ay (i3+1)),(Gq l4 (((a1.Blocks.getD a4.toNat default).Phis).getD i3.toNat default).Dst x8))))))) else(some (.done l4)))
abbrev mX:=(Int×List Ac)
abbrev qx:=(LR (Int×List Ac) (List Ac))
def Eu(a1:Ab)(a0:Int)(a4:Int)(l5:List Gu)(x11:List Bz):mX->Option qx:=
 λ((i12,l13):mX)=>(bif (decide (i12<(a1.Blocks.length:Int))) then(Option.bind (α:=List Ac) (Bh (Bl i12 a1.Blocks.length) (bif (i12==a0) then((Hk (⟨(a1.Blocks.getD a0.toNat default).Phis,x11,(⟨(a1.Blocks.getD a4.toNat default).End.Kind,(a1.Blocks.getD a4.toNat default).End.Arg,(a1.Blocks.getD a4.toNat default).End.To⟩:F4)⟩:Ac) a0 a4 l5).bind λx17=>(Bh (l13.length+([(⟨x17.Phis,x17.Ops,(⟨x17.End.Kind,x17.End.Arg,x17.End.To⟩:F4)⟩:Ac)]:List Ac).length<=room) (some (l13++([(⟨x17.Phis,x17.Ops,(⟨x17.End.Kind,x17.End.Arg,x17.End.To⟩:F4)⟩:Ac)]:List Ac))))) else(bif (i12==a4) then(some l13) else((Hk (a1.Blocks.getD i12.toNat default) a0 a4 l5).bind λx19=>(Bh (l13.length+([(⟨x19.Phis,x19.Ops,(⟨x19.End.Kind,x19.End.Arg,x19.End.To⟩:F4)⟩:Ac)]:List Ac).length<=room) (some (l13++([(⟨x19.Phis,x19.Ops,(⟨x19.End.Kind,x19.End.Arg,x19.End.To⟩:F4)⟩:Ac)]:List Ac)))))))) (λx21=>(some (.next ((Ay (i12+1)),x21))))) else(some (.done l13)))
def Tz:=(λ(v_:Int)=>((Z5 v_):AV))
def KJ(a1:Ab):AV:=(L8 a1.Params)
def nX:AV:=sW
def nW:List AV:=[Ws,Kk,Ws]
def pY(a1:Ab)(a4:Int)(i3:Int):=(((a1.Blocks.getD a4.toNat default).Phis).getD i3.toNat default)
def kO(x17:Ac):=([(⟨x17.Phis,x17.Ops,(⟨x17.End.Kind,x17.End.Arg,x17.End.To⟩:F4)⟩:Ac)]:List Ac)
def kP(x19:Ac):=([(⟨x19.Phis,x19.Ops,(⟨x19.End.Kind,x19.End.Arg,x19.End.To⟩:F4)⟩:Ac)]:List Ac)
def pX(a1:Ab)(a0:Int)(a4:Int):=([(a1.Blocks.getD a0.toNat default).Ops,(a1.Blocks.getD a4.toNat default).Ops]:List (List Bz))
def pW(a1:Ab):List eO:=[ml,OT,(5,(.ptr 5 0)),(9,(.ptr 9 0)),(68,(RJ a1.Blocks)),(RL 69 a1.Blocks.length),(70,Kk)]
def nV(a1:Ab)(a0:Int)(x11:List Bz)(a4:Int):List AV:=[(AV.list 4 Ee default (a1.Blocks.getD a0.toNat default).Phis .none),(eI x11 57),(.int .i64 (a1.Blocks.getD a4.toNat default).End.Kind),(.int .i64 (a1.Blocks.getD a4.toNat default).End.Arg),(AV.list 1 Aq 0 (a1.Blocks.getD a4.toNat default).End.To .none)]
def pZ(a1:Ab)(a0:Int)(x11:List Bz)(a4:Int)(x9:List Gu):=(⟨(pW a1),[(4,.row 25 nW),(5,.row 64 (nV a1 a0 x11 a4)),(9,.row 25 [(KJ a1),(Z5 a1.Ret),(AV.list 5 Bm default ([]:List Ac) (.own 5902))]),(29,.obj (.map true .i64 (Bf Tz x9))),(57,.tok 6 70 x11.length),(rV 5902),(Z2 a0 a4 29)],[]⟩:St)
abbrev qy:=(Ab×Int×Int×List (Int×Int))
def Dx(a1:Ab)(a0:Int)(a4:Int):Option qy:=
 (Bh (Bl a0 a1.Blocks.length) (Bh (Bl a4 a1.Blocks.length) ((Af (Et a1 a0 a4) ((0:Int),([]:List Gu))).bind (λx9=>((Dz ([(a1.Blocks.getD a0.toNat default).Ops,(a1.Blocks.getD a4.toNat default).Ops]:List (List Bz))).bind λx11=>((Af (Eu a1 a0 a4 x9 x11) ((0:Int),([]:List Ac))).bind (λx23=>(some ((⟨a1.Params,a1.Ret,x23⟩:Ab),a0,a4,x9)))))))))
variable{v0:Ab}{v1:Int}{v11:Int}{v39:qy}
theorem Ny(h:Dx v0 v1 v11=some v39):sP 47 [(.ptr 30000 0),(Yp v0)] (qE 30000 v1 v11) (Yp v39.1) [(Z2 v39.2.1 v39.2.2.1 9200002),(9200002,.obj (.map false .i64 (Bf (λ(v_:Int)=>((Z5 v_):AV)) v39.2.2.2)))]:=
 sG Tryz.func47 λΓ q=>Ak q Vw [3,4,30000] (tC h λc1_ h=>tC h λc2_ h=>tU q WF [3,4,5,6,30000] (c2 c1_ c2_) (Ak q WF EF (gLe (Pv (λ(k_:List eA) u=>Ek u [] [(KK 29 k_)]) (show[]=(Bf Tz ([]:List Gu)) from rfl)) (Ak q cR EF (tL q h cR EF (λu (i3,l4)=>(Ek u [(35,(Z5 i3))] [(29,.obj (.map true .i64 (Bf Tz l4)))])) (λu l5=>aG Γ (.exit 0) (T9 WF EF u [] [(29,.obj (.map true .i64 (Bf Tz l5)))])) (λ⟨i3,l4⟩ y h=>Ak q [0,3,4,5,6,33,34,35,36] EF (gC h (λh=>tV q [0,3,4,5,6,8,33,34,35] [3,4,5,6,8,29,30000] h λh=>tC h λc7_ h=>tB h λx8 y8 h=>tT q cR EF [⟨jz,[],(Z5 x8),[(Z2 v1 v11 9100002),(9100002,.obj (.map true .i64 (Bf Tz l4)))],[],[30000,29]⟩] (kA c7_ (Il y8) (rZ [(.row 137 (mj v1 v11 29)),(.obj (.map true .i64 (Bf Tz l4)))])) (gLe (Pv (λ(k_:List eA) u=>Ek u [] [(KK 29 k_)]) (show(Gq (Bf Tz l4) (pY v0 v11 i3).Dst (Z5 x8))=(Bf Tz (Gq l4 (pY v0 v11 i3).Dst x8)) from(PV (f:=Tz) (l:=l4) (v:=x8) rfl rfl))) (Ak q cR EF (tN h)))) λh=>tS h (gO (C3 (Cw WF EF q))))) λx9 h=>gA (tB h λx11 y11 h=>gR q RF [3,4,5,29,57,30000] [(56,(AV.list 1 SM [] (pX v0 v1 v11) .exact))] [⟨[],[(20000,57)],(eI x11 20000),[(20000,.tok 6 70 x11.length)],[],[]⟩] (c2 (Bx 1 SM [] (pX v0 v1 v11)) (Ng y11)) (gR q [0,3,4,5,9] [3,4,5,9,29,57,30000] [(66,(.agg [(KJ v0),(Z5 v0.Ret),nX]))] [] (c1 (show(AVle (.agg [(KJ v0),(Z5 v0.Ret),Ws]) (.agg [(KJ v0),(Z5 v0.Ret),nX])) from(AVle.agg (.cons (AVle.refl _) (.cons (AVle.refl _) (.cons Fe .nil)))))) (Ak q EE jp (gLe (st':=(pZ v0 v1 x11 v11 x9)) (Le.trans (Cw (st':=⟨(pW v0),[(4,.row 25 nW),(5,.row 64 (nV v0 v1 x11 v11)),(9,.row 25 [(KJ v0),(Z5 v0.Ret),nX]),(29,.obj (.map true .i64 (Bf Tz x9))),(57,.tok 6 70 x11.length),(Z2 v1 v11 29)],[]⟩) EE jp q) (Le.trans (Nt (r:=9) (j:=2) (nm:=5902) (sz':=5) (λi=>Bm (([]:List Ac).getD i default)) 64 rfl rfl (nl rfl) rfl (.inl ⟨rfl,rfl⟩) (λh_=>absurd h_ (by decide))) (Cw (st':=(pZ v0 v1 x11 v11 x9)) EE JX q))) (tL q h EE JX (λu (i12,l13)=>(Ek u [(70,(Z5 i12))] [(9,.row 25 [(KJ v0),(Z5 v0.Ret),(kY l13 5902)]),(Lm 5902 64 l13.length)])) (λu l14=>aG Γ (.exit 2) (T9 [4,9] jq u [] [(9,.row 25 [(KJ v0),(Z5 v0.Ret),(kY l14 5902)]),(Lm 5902 64 l14.length)])) (λ⟨i12,l13⟩ y h=>Ak q [0,4,5,9,68,69,70,71] JX (gC h (λh=>tB h λx21 y21 h=>gJ y21 (λl15=>aG Γ .normal (⟨[ml,OT,(5,(.ptr 5 0)),(9,(.ptr 9 0)),(68,(RJ v0.Blocks)),(RL 69 v0.Blocks.length),(70,(Z5 i12))],[(4,.row 25 nW),(5,.row 64 (nV v0 v1 x11 v11)),(9,.row 25 [(KJ v0),(Z5 v0.Ret),(kY l15 5902)]),(29,.obj (.map true .i64 (Bf Tz x9))),(57,.tok 6 70 x11.length),(Lm 5902 64 l15.length),(Z2 v1 v11 29)],[]⟩:St)) (λy h=>tV q [0,4,5,9,10,11,68,69,70] cK h λh=>tW q [0,4,5,9,11,68,69,70,75] cK [0,4,5,9,11,68,69,70,75,84] cK (gC h (λh=>tB h λx17 y17 h=>tC h λc18_ h=>gR q EE JX (sO 95 (kO x17) 96 l13 5902) [⟨jz,[],(.agg (Bm x17)),[(Z2 v1 v11 9100002),(9100002,.obj (.map true .i64 (Bf Tz x9)))],[],[30000,29]⟩] (ci (Pi y17) (mF [(.row 137 (mj v1 v11 29)),(.obj (.map true .i64 (Bf Tz x9)))] (c5 (Bx 5 Bm (default:Ac) (kO x17)) (Eq.refl l13.length) c18_ (Ot 5 5902 Bm (default:Ac) l13 (kO x17)) (G9 l13 (kO x17))))) (tS h (gK (C3 Mf)))) λh=>Ak q [0,4,5,9,11,68,69,70,98] cK (gC h (λh=>tS h (gK (C3 (Cw EE JX q)))) λh=>tB h λx19 y19 h=>tC h λc20_ h=>gR q EE JX (sO 81 (kP x19) 82 l13 5902) [⟨jz,[],(.agg (Bm x19)),[(Z2 v1 v11 9100002),(9100002,.obj (.map true .i64 (Bf Tz x9)))],[],[30000,29]⟩] (ci (Pi y19) (mF [(.row 137 (mj v1 v11 29)),(.obj (.map true .i64 (Bf Tz x9)))] (c5 (Bx 5 Bm (default:Ac) (kP x19)) (Eq.refl l13.length) c20_ (Ot 5 5902 Bm (default:Ac) l13 (kP x19)) (G9 l13 (kP x19))))) (tS h (gK (C3 Mf)))))) (gA (Ak q EE JX (tN h)))) λh=>tS h (gO (C3 (Cw [4,9] jq q))))) λx23 h=>gA (Ak q [4] [4,29,5902,30000] (Td (⟨[OT],[(4,.row 25 [(KJ v0),(Z5 v0.Ret),(kY x23 5902)]),(29,.obj (.map true .i64 (Bf Tz x9))),(Lm 5902 64 x23.length),(Z2 v1 v11 29)],[]⟩:St) (tS h (gK (e:=.ret) (J1 [(30000,30000),(29,9200002)] (Le.trans (XY (nm:=29) (.map false .i64 (Bf Tz x9)) rfl (λ_ _ _ _ h_=>HT h_)) (Cw (st':=⟨[OT],[(4,.row 25 [(KJ v0),(Z5 v0.Ret),(kY x23 5902)]),(29,.obj (.map false .i64 (Bf Tz x9))),(Lm 5902 64 x23.length),(Z2 v1 v11 29)],[]⟩) [4] [4,29,5902,30000] q)))))))))))))))))
def Gb(a1:Ab):Option Ab:=
 none
variable{v40:Ab}
theorem Ls(h:Gb v0=some v40):sP 47 [.nilp,(Yp v0)] [] (Yp v40) []:=
 sG Tryz.func47 λΓ q=>Ak q Vw [3,4] (nomatch h)
abbrev LN:=(Au×Int×List Ac)
abbrev qz:=(LR (Au×Int×List Ac) Ab)
def Kq :LN->Option qz:=
 λ(s_:LN)=>match s_ with|(l1,i2,l3)=>((Hh (⟨l1,i2,l3⟩:Ab)).bind λx9=>(bif x9.1.1 then(bif x9.2 then((Dx (⟨l1,i2,l3⟩:Ab) x9.1.2.x x9.1.2.y).bind λx11=>(some (.next (x11.1.Params,x11.1.Ret,x11.1.Blocks)))) else(some (.done (⟨l1,i2,l3⟩:Ab)))) else(bif x9.2 then((Gb (⟨l1,i2,l3⟩:Ab)).bind λx12=>(some (.next (x12.Params,x12.Ret,x12.Blocks)))) else(some (.done (⟨l1,i2,l3⟩:Ab))))))
def WO(Γ:G2)(a2:Ab)(r:Ab):Exit->St->Prop:=fK Tryz.prog Γ Tryz.f17.results.toList [] (Yp r) []
def EM:=((.ptr 20000 0):AV)
def cW(x5:jd):List KE:=(qE 20000 x5.1.2.x x5.1.2.y)
def cX(x9:jd):List KE:=(qE 20000 x9.1.2.x x9.1.2.y)
def eh(l1:Au)(i2:Int)(l3:List Ac):List AV:=[(L8 l1),(Z5 i2),(RJ l3)]
def Pe(a2:Ab):Option Ab:=
 ((Nj (S:=LN) (X:=Ab) ((H2 a2).bind λx4=>(bif (!x4) then(some (.done a2)) else((Hh a2).bind λx5=>(bif x5.1.1 then(bif x5.2 then((Dx a2 x5.1.2.x x5.1.2.y).bind λx7=>(some (.next (x7.1.Params,x7.1.Ret,x7.1.Blocks)))) else(some (.done a2))) else(bif x5.2 then((Gb a2).bind λx8=>(some (.next (x8.Params,x8.Ret,x8.Blocks)))) else(some (.done a2))))))) Kq).bind (λx13=>(some x13)))
theorem DP(h:Pe v0=some v40):sP 17 [(Yp v0)] [] (Yp v40) []:=
 sG Tryz.func17 λΓ q=>Ak q Fd Fd (tB h λx13 y13 h=>gS y13 (λ(s_:LN)=>match s_ with|(l1,i2,l3)=>0) (λ(s_:LN)=>match s_ with|(l1,i2,l3)=>(⟨[(1,(.ptr 1 0)),LP],[(1,.row 25 (eh l1 i2 l3)),(2,.row 25 [Ws,Kk,Ws])],[]⟩:St)) (λr_=>aR (WO Γ v0 r_)) (λy h=>tB h λx4 y4 h=>tT q [1,2,7] Fd [(Z6 x4)] (c1 (Oc y4)) (gC h (λh=>Ak q [2] [2] (tS h (WI (O8 (J1 [] (Le.refl _ _)))))) λh=>tB h λx5 y5 h=>gB h (λhs6 h=>tT q RG JW [⟨[],[(20000,11)],(.tuple [(bif true then EM else .nilp),(.bool x5.2)]),(bif true then(cW x5) else[]),[],[]⟩] (c1 (show(sP 46 [(Yp v0)] [] (.tuple [(bif true then EM else .nilp),(.bool x5.2)]) (bif true then(cW x5) else[])) from(rX (λb_:Bool=>sP 46 [(Yp v0)] [] (.tuple [(bif b_ then EM else .nilp),(.bool x5.2)]) (bif b_ then(cW x5) else[])) hs6 (Np y5)))) (Ak q RC JW (gC h (λh=>tB h λx7 y7 h=>tT q Fd Fd [⟨[(11,30000)],jr,(Yp x7.1),[(Z2 x7.2.1 x7.2.2.1 9200002),(9200002,.obj (.map false .i64 (Bf (λ(v_:Int)=>((Z5 v_):AV)) x7.2.2.2)))],[],[]⟩] (c1 (Ny y7)) (tS h (XM Mf))) λh=>Ak q [2] [2] (tS h (WI (O8 (J1 [] (Le.refl _ _)))))))) (λhs6 h=>tT q RG Fd [⟨[],[],(.tuple [(bif false then EM else .nilp),(.bool x5.2)]),(bif false then(cW x5) else[]),[],[]⟩] (c1 (show(sP 46 [(Yp v0)] [] (.tuple [(bif false then EM else .nilp),(.bool x5.2)]) (bif false then(cW x5) else[])) from(rX (λb_:Bool=>sP 46 [(Yp v0)] [] (.tuple [(bif b_ then EM else .nilp),(.bool x5.2)]) (bif b_ then(cW x5) else[])) hs6 (Np y5)))) (Ak q RC Fd (gC h (λh=>tB h λx8 y8 h=>tT q Fd Fd [(j9 x8)] (c1 (Ls y8)) (tS h (XM Mf))) λh=>Ak q [2] [2] (tS h (WI (O8 (J1 [] (Le.refl _ _)))))))))) (λ⟨l1,i2,l3⟩ y h=>tB h λx9 y9 h=>gB h (λhs10 h=>tT q RG JW [⟨[],[(20000,11)],(.tuple [(bif true then EM else .nilp),(.bool x9.2)]),(bif true then(cX x9) else[]),[],[]⟩] (c1 (show(sP 46 [(.agg (eh l1 i2 l3))] [] (.tuple [(bif true then EM else .nilp),(.bool x9.2)]) (bif true then(cX x9) else[])) from(rX (λb_:Bool=>sP 46 [(.agg (eh l1 i2 l3))] [] (.tuple [(bif b_ then EM else .nilp),(.bool x9.2)]) (bif b_ then(cX x9) else[])) hs10 (Np y9)))) (Ak q RC JW (gC h (λh=>tB h λx11 y11 h=>tT q Fd Fd [⟨[(11,30000)],jr,(Yp x11.1),[(Z2 x11.2.1 x11.2.2.1 9200002),(9200002,.obj (.map false .i64 (Bf (λ(v_:Int)=>((Z5 v_):AV)) x11.2.2.2)))],[],[]⟩] (c1 (Ny y11)) (tS h (XM Mf))) λh=>Ak q [2] [2] (tS h (WI (O8 (J1 [] (Le.refl _ _)))))))) (λhs10 h=>tT q RG Fd [⟨[],[],(.tuple [(bif false then EM else .nilp),(.bool x9.2)]),(bif false then(cX x9) else[]),[],[]⟩] (c1 (show(sP 46 [(.agg (eh l1 i2 l3))] [] (.tuple [(bif false then EM else .nilp),(.bool x9.2)]) (bif false then(cX x9) else[])) from(rX (λb_:Bool=>sP 46 [(.agg (eh l1 i2 l3))] [] (.tuple [(bif b_ then EM else .nilp),(.bool x9.2)]) (bif b_ then(cX x9) else[])) hs10 (Np y9)))) (Ak q RC Fd (gC h (λh=>tB h λx12 y12 h=>tT q Fd Fd [(j9 x12)] (c1 (Ls y12)) (tS h (XM Mf))) λh=>Ak q [2] [2] (tS h (WI (O8 (J1 [] (Le.refl _ _))))))))) (Uq (λst' hk=>tS h (gK hk))))
def Hj(a6:Au):LM->Option jX:=
 λ((i1,l2):LM)=>(bif (decide (i1<(a6.length:Int))) then(Bh (Bl i1 a6.length) (Bh (Bl (a6.getD i1.toNat 0) l2.length) (some (.next ((Ay (i1+1)),(l2.set (a6.getD i1.toNat 0).toNat true)))))) else(some (.done l2)))
def Gm(a6:Au)(a0:List Bool):Option (List Bool):=
 ((Af (Hj a6) ((0:Int),a0)).bind (λx6=>(some x6)))
variable{v2:Au}{v41:List Bool}{v42:List Bool}
theorem Od(h:Gm v2 v41=some v42):sP 81 [(L8 v2),(.ptr 30000 0)] (p9 v41.length v41) (.tuple []) (p9 v42.length v42):=
 sG Tryz.func81 λΓ q=>Ak q RH AF (tL q h RH AF (λu (i1,l2)=>(Ek u [(7,(Z5 i1))] (p9 l2.length l2))) (λu l3=>aG Γ (.exit 0) (⟨[],(p9 l3.length l3),[]⟩:St)) (λ⟨i1,l2⟩ y h=>Ak q [1,5,6,7,8] AF (gC h (λh=>tV q [1,4,5,6,7] AF h λh=>tC h λc5_ h=>tU q RH AF (c2 c5_ (Eq.refl l2.length)) (gLe (Le.trans (Qt 35000 (show ∀ k_,k_<l2.length->AVleL ((λi_=>AV.eraseAll (λn_=>Bw n_ AF) ((J7 (λi=>eB (l2.getD i false)) (v2.getD i1.toNat 0).toNat 0 [(.bool true)]) i_)) k_) ((λi=>eB ((l2.set (v2.getD i1.toNat 0).toNat true).getD i false)) k_) from(Bn (D8 ..).symm (λk_ hk_=>(Bi (AV.eraseAll (λn_=>Bw n_ AF)) ((Gs (λ_ _=>rfl) (Ig c5_) rfl) k_ hk_)).trans rfl)))) (Pv (λ(k_:Nat) u=>(Ek u [] [(30000,.row 81 [(.vsl 35000 k_)]),(35000,.arr 1 4 k_ (λi=>eB ((l2.set (v2.getD i1.toNat 0).toNat true).getD i false)))])) (show l2.length=(l2.set (v2.getD i1.toNat 0).toNat true).length from(D8 ..).symm))) (Ak q RH AF (tN h)))) λh=>tS h (gO (C3 (Cw [] AF q))))) λx6 h=>my (λst' hl7=>tS h (gK (e:=.normal) (J1 [(30000,30000),(35000,35000)] hl7))))
def Io(a2:Ab)(i2:Int):LM->Option jX:=
 λ((i7,l8):LM)=>(bif (decide (i7<(((a2.Blocks.getD i2.toNat default).Phis).length:Int))) then(Bh (Bl i7 ((a2.Blocks.getD i2.toNat default).Phis).length) ((Gm ((((a2.Blocks.getD i2.toNat default).Phis).getD i7.toNat default).Args) l8).bind λx11=>(Bh (l8.length=x11.length) (some (.next ((Ay (i7+1)),x11)))))) else(some (.done l8)))
def Ip(a2:Ab)(i2:Int):LM->Option jX:=
 λ((i15,l16):LM)=>(bif (decide (i15<(((a2.Blocks.getD i2.toNat default).Ops).length:Int))) then(Bh (Bl i15 ((a2.Blocks.getD i2.toNat default).Ops).length) ((Gm ((((a2.Blocks.getD i2.toNat default).Ops).getD i15.toNat default).Args) l16).bind λx19=>(Bh (l16.length=x19.length) (some (.next ((Ay (i15+1)),x19)))))) else(some (.done l16)))
def Iq(a2:Ab):LM->Option jX:=
 λ((i2,l3):LM)=>(bif (decide (i2<(a2.Blocks.length:Int))) then(Option.bind (α:=List Bool) (Bh (Bl i2 a2.Blocks.length) ((Af (Io a2 i2) ((0:Int),l3)).bind (λx13=>((Af (Ip a2 i2) ((0:Int),x13)).bind (λx21=>(bif (bif (((a2.Blocks.getD i2.toNat default).End.Kind:Int)==0) then true else(((a2.Blocks.getD i2.toNat default).End.Kind:Int)==2)) then((Gm ([(a2.Blocks.getD i2.toNat default).End.Arg]:Au) x21).bind λx23=>(Bh (x21.length=x23.length) (some x23))) else(some x21))))))) (λx25=>(some (.next ((Ay (i2+1)),x25))))) else(some (.done l3)))
def kQ(a2:Ab)(i2:Int):=(a2.Blocks.getD i2.toNat default)
def Hi(a2:Ab):Option (List Bool):=
 (Bh (0<=(1024:Int)/\(1024:Int)<=1024/\(1024:Int)<=(room:Int)) ((Af (Iq a2) ((0:Int),(List.replicate (1024:Int).toNat false))).bind (λx27=>(some x27))))
theorem Q3(h:Hi v0=some v41):sP 43 [(Yp v0)] [] (AV.list 1 eB false v41 (.own 20000)) [(20000,.tok 1 4 v41.length)]:=
 sG Tryz.func43 λΓ q=>have hΓ:=q.own;gR q [1] [1] [(2,(AV.list 1 eB false ([]:List Bool) .exact))] [] (c1 (Dp 1 eB false)) (tV q [1,3] [1,3,11] h λh=>by exact gLe (Le.trans (Qt 11 (show ∀ k_,k_<((1024:Int).toNat)->AVleL ((λi_=>AV.eraseAll (λn_=>Bw n_ [1,3,11]) ((λ_=>[(.bool false)]) i_)) k_) ((λi=>eB ((List.replicate (1024:Int).toNat false).getD i false)) k_) from(λk hk=>Nn (e:=eB) (d:=false) (.cons (AVle.refl _) .nil) _ k (Nq hk)))) (Pv (λ(k_:Nat) u=>(Ek u [] [(3,.row 81 [(.vsl 11 k_)]),(11,.arr 1 4 k_ (λi=>eB ((List.replicate (1024:Int).toNat false).getD i false)))])) (show(1024:Int).toNat=(List.replicate (1024:Int).toNat false).length from(N7 ..).symm))) (tW q [1,3,4] [1,3,11] VW Vr (tL q h VW Vr (λu (i2,l3)=>(Ek u [(16,(Z5 i2))] (nq l3.length l3))) (λu l4=>aG Γ (.exit 0) (T9 [3] Vr u [] (nq l4.length l4))) (λ⟨i2,l3⟩ y h=>Ak q [3,4,14,15,16,17] Vr (gC h (λh=>tB h λx25 y25 h=>gJ y25 (λl5=>aG Γ .normal (⟨[(3,(.ptr 3 0)),(4,(.clo 81 [] [(.ptr 3 0)])),(14,(RJ v0.Blocks)),(RL 15 v0.Blocks.length),(16,(Z5 i2))],(nq l5.length l5),[]⟩:St)) (λy h=>tV q VV Oq h λh=>Ak q cL Oq (tL q h cL Oq (λu (i7,l8)=>(Ek u [(23,(Z5 i7))] (nq l8.length l8))) (λu l9=>aG Γ (.exit 2) (T9 VV Oq u [] (nq l9.length l9))) (λ⟨i7,l8⟩ y h=>Ak q [3,4,6,14,15,16,21,22,23,24] Oq (gC h (λh=>tV q [3,4,6,8,14,15,16,21,22,23] [3,6,8,11] h λh=>tB h λx11 y11 h=>tC h λc12_ h=>tT q cL Oq [(sT x11.length x11)] (c1 (Od y11)) (Ak q cL Oq (tN h))) λh=>tS h (gO (C3 (Cw VV Oq q))))) λx13 h=>gA (Ak q cM Oq (tL q h cM Oq (λu (i15,l16)=>(Ek u [(35,(Z5 i15))] (nq l16.length l16))) (λu l17=>aG Γ (.exit 4) (T9 VV Oq u [] (nq l17.length l17))) (λ⟨i15,l16⟩ y h=>Ak q [3,4,6,14,15,16,33,34,35,36] Oq (gC h (λh=>tV q [3,4,6,10,14,15,16,33,34,35] [3,6,10,11] h λh=>tB h λx19 y19 h=>tC h λc20_ h=>tT q cM Oq [(sT x19.length x19)] (c1 (Od y19)) (Ak q cM Oq (tN h))) λh=>tS h (gO (C3 (Cw VV Oq q))))) λx21 h=>gA (tU q [3,4,6,14,15,16,53] Oq (dK ((((kQ v0 i2).End.Kind:Int)==0)==false) (c1 (FM (((kQ v0 i2).End.Kind:Int)==0)))) (gC h (λh=>tB h λx23 y23 h=>tC h λc24_ h=>gR q VW Vr [(58,(AV.list 1 Aq 0 ([(kQ v0 i2).End.Arg]:Au) .exact))] [(sT x23.length x23)] (c2 (Bx 1 Aq (0:Int) ([(kQ v0 i2).End.Arg]:Au)) (Od y23)) (tS h (gK (C3 Mf)))) λh=>tS h (gK (C3 (Cw VW Vr q))))))))) (gA (Ak q VW Vr (tN h)))) λh=>tS h (gO (C3 (Cw [3] Vr q))))) λx27 h=>gA (Ak q [2] [11] (Td (⟨[(2,(.vsl 11 x27.length))],[(Z8 11 x27)],[]⟩:St) (tS h (gK (e:=.ret) (J1 [(11,20000)] (Le.trans (le_freeze (nm:=11) (sz:=1) (n:=x27.length) (e:=4) (f:=(λi=>eB (x27.getD i false))) (g:=(λi=>eB (x27.getD i false))) rfl ⟨rfl,trivial⟩ (λ_ _=>rfl) (by rw[hΓ];rfl)) (I7 (st':=⟨[(2,(AV.list 1 eB false x27 (.own 11)))],[(11,.tok 1 4 x27.length)],[]⟩) (by kernel_rfl)))))))))))
def cY:AV:=rT
def pc:=(⟨[(2,(.vsl 36002 ([]:List A4).length))],[(36002,.arr 4 67 (([]:List A4).length) (λi=>Ee (([]:List A4).getD i default)))],[]⟩:St)
def B0(aD:List A4):Option (List A4):=
 (Bh (aD.length<=room) (some aD))
variable{v43:List A4}{v5:List A4}
theorem Lg(h:B0 v5=some v43):sP 87 [(pF v5)] [] (.vsl 20000 v43.length) (fG 20000 v43):=by
 refine CC mix Tryz.func87 (λΓ hq=>?_);unfold B0 at h;refine gR hq [0] [] [(2,cY)] [] (c1 (Dp 4 Ee (default:A4))) ?_;refine Ak hq [0,4] [] ?_;refine qS true v5.length (λhb=>?_) (λhb=>?_)
 ·replace h:=iP (some ([]:List A4)) (λ(l2:List A4)=>(Bh (l2.length<=room) (some l2))) h (hb rfl) rfl (λh0=>by first|exact h0|simpa [Bh,room] using h0);clear hb;refine gR hq [2] [] [(2,cY)] [] (c1 (Dp 4 Ee (default:A4))) ?_;refine Td (⟨[(2,cY)],[],[]⟩:St) ?_;cases h;exact gK (e:=.ret) (J1 [(36002,20000)] (show Le Γ _ pc from Le.trans (Cw (st':=⟨[(2,cY)],[],[]⟩) [2] [] hq) (Le.trans (HF (t:=2) (nm:=36002) (sz':=4) (λi=>Ee (([]:List A4).getD i default)) 67 rfl rfl) (Cw (st':=pc) [2] [36002] hq))))
 ·clear hb;obtain⟨hc1,h⟩:=Mc h;refine gR hq [2] [7] [(5,cY),(7,.vsl 7 0)] [] (ci (show(AVle (.slice 4 0 (λi=>([]:List (List AV)).getD i []) .exact) cY) from OX rfl (λi hi=>absurd hi (Ts i))) (c1 hc1)) ?_;obtain rfl:=OI h;exact Dm [(7,20000)]
def Gj(aS:A4)(a1:List Bool):Option Bool:=
 (Bh (Bl aS.Dst a1.length) (some (!(a1.getD (aS.Dst).toNat false))))
variable{v3:Bool}{v4:A4}
theorem Qg(h:Gj v4 v41=some v3):sP 88 [(.agg (Ee v4)),(.rptr (kC v41))] [] (.bool v3) []:=
 sG Tryz.func88 λΓ q=>Ak q Fd [2] (tV q [3] [] h λh=>tS h (Dm []))
def Cf(aD:List A4)(aa5:List Bool):Int->Option (LR Int (Unit ⊕ Int)):=
 λ(i1:Int)=>(bif (decide (i1<(aD.length:Int))) then(Bh (Bl i1 aD.length) ((Gj (aD.getD i1.toNat default) aa5).bind λx3=>(bif x3 then(some (.done (.inr i1))) else(some (.next (Ay (i1+1))))))) else(some (.done (.inl ()))))
def K7(Γ:G2)(aD:List A4)(aa5:List Bool)(r:Int):Exit->St->Prop:=fK Tryz.prog Γ Tryz.f143.results.toList [] (.int .i64 r) []
def Eb(aD:List A4)(aa5:List Bool):Option Int:=
 ((Af (Cf aD aa5) (0:Int)).bind (λx4=>(match x4 with|(.inl _)=>(some (-1:Int))|(.inr r6)=>(some r6))))
theorem Ks(h:Eb v5 v41=some v1):sP 143 [(pF v5),(.clo 88 [] [(.rptr (kC v41))])] [] (.int .i64 v1) []:=
 sG Tryz.func143 λΓ q=>tW q Fc [] AG [] (tL q h AG [] (λu i1=>(Ek u [(8,(Z5 i1))] [])) (λu x_=>match x_ with|(.inl _)=>aG Γ (.exit 0) (⟨[],[],[]⟩:St)|(.inr r_)=>aR (K7 Γ v5 v41 r_)) (λi1 y h=>Ak q ZZ [] (gC h (λh=>Ak q aa [] (tC h λc2_ h=>tB h λx3 y3 h=>tT q ZQ [] [(Z6 x3)] (c2 c2_ (Qg y3)) (gC h (λh=>Ak q [4] [] (tS h (gO (O8 (J1 [] (Le.refl _ _)))))) λh=>Ak q AG [] (tN h)))) λh=>tS h (gO (C3 (Cw [] [] q))))) λx4 h=>(match x4,h with | .inl _,h=>gA (Ak q [4] [] (tS h (Dm []))) | .inr r6,h=>Uq (λst' hk=>tS h (gK hk))))
def B7(aa2:List Bool):(Int×Int×List A4)->Option (LR (Int×Int×List A4) (Int×List A4)):=
 λ((i2,i3,l4):(Int×Int×List A4))=>(bif (decide (i3<(l4.length:Int))) then(Option.bind (α:=o4) (Bh (Bl i3 l4.length) ((Gj (l4.getD i3.toNat default) aa2).bind λx10=>(bif (!x10) then(Bh (Bl i2 l4.length) (some ((Ay (i2+1)),(l4.set i2.toNat (⟨(l4.getD i3.toNat default).Bits,(l4.getD i3.toNat default).Dst,(l4.getD i3.toNat default).From,(l4.getD i3.toNat default).Args⟩:A4))))) else(some (i2,l4))))) (λ(i7,l8)=>(some (.next (i7,(Ay (i3+1)),l8))))) else(some (.done (i2,l4))))
def nZ(l6:List A4)(i5:Int):=(FG l6 (0+i5.toNat) (l6.length-(0+i5.toNat)) (λ_=>(default:A4)))
def nY(l4:List A4)(i2:Int)(i3:Int):=(l4.set i2.toNat (⟨(l4.getD i3.toNat default).Bits,(l4.getD i3.toNat default).Dst,(l4.getD i3.toNat default).From,(l4.getD i3.toNat default).Args⟩:A4))
abbrev mY:=(Nat×List A4)
def Cm(aD:List A4)(aa2:List Bool):Option mY:=
 ((Eb aD aa2).bind λx1=>(bif (x1==-1) then(some ((aD.length:Nat),aD)) else((Af (B7 aa2) (x1,(Ay (x1+1)),aD)).bind (λ(i5,l6)=>(Bh (0<=i5/\0+i5.toNat<=l6.length) (Bh (0<=i5/\0+i5.toNat<=(FG l6 (0+i5.toNat) (l6.length-(0+i5.toNat)) (λ_=>(default:A4))).length) (some (((0+i5.toNat):Nat),(FG l6 (0+i5.toNat) (l6.length-(0+i5.toNat)) (λ_=>(default:A4)))))))))))
variable{v44:mY}
theorem Kf(h:Cm v5 v41=some v44):sP 86 [(.vsl 34000 v5.length),(.clo 88 [] [(.rptr (kC v41))])] (fG 34000 v5) (.vsub 34000 v44.2.length 0 v44.1) (fG 34000 v44.2):=
 sG Tryz.func86 λΓ q=>gR q Fc [34000] [(4,rT)] [] (c1 (Dp 4 Ee (default:A4))) (tB h λx1 y1 h=>tT q Tw [34000] [⟨[],[],(Z5 x1),[],[34000],[]⟩] (c3 (Ks y1) (show(Ww []) from trivial) (Eq.refl v5.length)) (Ak q [0,1,5,12] [34000] (gC h (λh=>Ak q [4] [34000] (Td (⟨[(4,(.vsl 34000 v5.length))],(fG 34000 v5),[]⟩:St) (tS h (gK (e:=.ret) (J1 VZ (Le.trans (bc (t:=4) (r:=34000) rfl rfl) (Cw (st':=⟨[(4,(.vsub 34000 v5.length 0 v5.length))],(fG 34000 v5),[]⟩) [4] [34000] q))))))) λh=>Ak q R7 [34000] (tL q h R7 [34000] (λu (i2,i3,l4)=>(Ek u [(eK l4.length),(5,(Z5 i2)),(6,(Z5 i3))] (fG 34000 l4))) (λu (i5,l6)=>aG Γ (.exit 0) (⟨[(eK l6.length),(5,(Z5 i5))],(fG 34000 l6),[]⟩:St)) (λ⟨i2,i3,l4⟩ y h=>Ak q [0,1,5,6,19] [34000] (gC h (λh=>tB h λx12 y12 h=>gJ y12 (λ(i7,l8)=>aG Γ .normal (⟨[(eK l8.length),(1,(.clo 88 [] [(.rptr (kC v41))])),(5,(Z5 i7)),(6,(Z5 i3))],(fG 34000 l8),[]⟩:St)) (λy h=>tC h λc9_ h=>tU q [0,1,5,6,7] RI (c2 c9_ (Eq.refl l4.length)) (tB h λx10 y10 h=>tT q [0,1,5,6,7,29] RI [(Z6 x10)] (c1 (Qg y10)) (gC h (λh=>tC h λc11_ h=>tU q R7 [34000] (c2 c11_ (Eq.refl l4.length)) (gLe (Le.trans (Qt 34000 (show ∀ k_,k_<l4.length->AVleL ((λi_=>AV.eraseAll (λn_=>Bw n_ [34000]) ((J7 (λi=>Ee (l4.getD i default)) i2.toNat 0 (Ee (l4.getD i3.toNat default))) i_)) k_) ((λi=>Ee ((nY l4 i2 i3).getD i default)) k_) from(Bn (D8 ..).symm (λk_ hk_=>(Bi (AV.eraseAll (λn_=>Bw n_ [34000])) ((Gs (λ_ _=>rfl) (Ig c11_) rfl) k_ hk_)).trans rfl)))) (Pv (λ(k_:Nat) u=>(Ek u [(eK k_)] [(34000,.arr 4 67 k_ (λi=>Ee ((nY l4 i2 i3).getD i default)))])) (show l4.length=(nY l4 i2 i3).length from(D8 ..).symm))) (Ak q R7 [34000] (tS h (gK (C3 Mf)))))) λh=>tS h (gK (C3 (Cw R7 [34000] q)))))) (match x12,h with|⟨i7,l8⟩,h=>gA (Ak q R7 [34000] (tN h)))) λh=>tS h (gO (C3 (Cw [0,5] [34000] q))))) λx14 h=>(match x14,h with|⟨i5,l6⟩,h=>gA (tC h λc16_ h=>tU q [0,5] [34000] (c2 c16_ (Eq.refl l6.length)) (gLe (Le.trans (Qt 34000 (show ∀ k_,k_<l6.length->AVleL ((λi_=>AV.eraseAll (λn_=>Bw n_ [34000]) ((LY (λi=>Ee (l6.getD i default)) (0+i5.toNat) (l6.length-(0+i5.toNat)) (λ_=>[Kk,Kk,Ws,Ws])) i_)) k_) ((λi=>Ee ((nZ l6 i5).getD i default)) k_) from(gX (e:=Ee) (d:=(default:A4)) (l:=l6) (.cons (AVle.refl _) (.cons (AVle.refl _) (.cons (λ_ _ _ _ _ hh=>AVle.untag _ _ _ _ _ (Fe _ _ _ _ _ hh)) (.cons (λ_ _ _ _ _ hh=>AVle.untag _ _ _ _ _ (Fe _ _ _ _ _ hh)) .nil)))) (λ_ _=>rfl)))) (Pv (λ(k_:Nat) u=>(Ek u [(eK k_)] [(34000,.arr 4 67 k_ (λi=>Ee ((nZ l6 i5).getD i default)))])) (show l6.length=(nZ l6 i5).length from(Dc ..)))) (tV q [4] [34000] h λh=>tS h (Dm VZ)))))))))
def cZ:AV:=qB
def pd:=(⟨[(2,(.vsl 36002 ([]:List Bz).length))],[(36002,.arr 6 70 (([]:List Bz).length) (λi=>E4 (([]:List Bz).getD i default)))],[]⟩:St)
def Cg(aD:List Bz):Option (List Bz):=
 (Bh (aD.length<=room) (some aD))
variable{v45:List Bz}{v7:List Bz}
theorem Mu(h:Cg v7=some v45):sP 90 [(pG v7)] [] (.vsl 20000 v45.length) [(WR 20000 v45)]:=by
 refine CC mix Tryz.func90 (λΓ hq=>?_);unfold Cg at h;refine gR hq [0] [] [(2,cZ)] [] (c1 (Dp 6 E4 (default:Bz))) ?_;refine Ak hq [0,4] [] ?_;refine qS true v7.length (λhb=>?_) (λhb=>?_)
 ·replace h:=iP (some ([]:List Bz)) (λ(l2:List Bz)=>(Bh (l2.length<=room) (some l2))) h (hb rfl) rfl (λh0=>by first|exact h0|simpa [Bh,room] using h0);clear hb;refine gR hq [2] [] [(2,cZ)] [] (c1 (Dp 6 E4 (default:Bz))) ?_;refine Td (⟨[(2,cZ)],[],[]⟩:St) ?_;cases h;exact gK (e:=.ret) (J1 [(36002,20000)] (show Le Γ _ pd from Le.trans (Cw (st':=⟨[(2,cZ)],[],[]⟩) [2] [] hq) (Le.trans (HF (t:=2) (nm:=36002) (sz':=6) (λi=>E4 (([]:List Bz).getD i default)) 70 rfl rfl) (Cw (st':=pd) [2] [36002] hq))))
 ·clear hb;obtain⟨hc1,h⟩:=Mc h;refine gR hq [2] [7] [(5,cZ),(7,.vsl 7 0)] [] (ci (show(AVle (.slice 6 0 (λi=>([]:List (List AV)).getD i []) .exact) cZ) from OX rfl (λi hi=>absurd hi (Ts i))) (c1 hc1)) ?_;obtain rfl:=OI h;exact Dm [(7,20000)]
def Gk(a3:Bz)(a1:List Bool):Option Bool:=
 ((Qb a3.Kind).bind λx1=>(Bh ((x1==true)=true->(Bl a3.Dst a1.length)) (some (bif x1 then(!(a1.getD (a3.Dst).toNat false)) else false))))
variable{v6:Bz}
theorem Qh(h:Gk v6 v41=some v3):sP 91 [(.agg (E4 v6)),(.rptr (kC v41))] [] (.bool v3) []:=
 sG Tryz.func91 λΓ q=>Ak q Fd [2] (tB h λx1 y1 h=>tC h λc2_ h=>tT q [3] [] [(Z6 x1)] (ci (QF y1) (dK (x1==true) (ci c2_ (V4 (x1==true) (c1 (P5 x1)))))) (tS h (Dm [])))
def B8(aD:List Bz)(aa5:List Bool):Int->Option (LR Int (Unit ⊕ Int)):=
 λ(i1:Int)=>(bif (decide (i1<(aD.length:Int))) then(Bh (Bl i1 aD.length) ((Gk (aD.getD i1.toNat default) aa5).bind λx3=>(bif x3 then(some (.done (.inr i1))) else(some (.next (Ay (i1+1))))))) else(some (.done (.inl ()))))
def Kl(Γ:G2)(aD:List Bz)(aa5:List Bool)(r:Int):Exit->St->Prop:=fK Tryz.prog Γ Tryz.f144.results.toList [] (.int .i64 r) []
def D5(aD:List Bz)(aa5:List Bool):Option Int:=
 ((Af (B8 aD aa5) (0:Int)).bind (λx4=>(match x4 with|(.inl _)=>(some (-1:Int))|(.inr r6)=>(some r6))))
theorem Kg(h:D5 v7 v41=some v1):sP 144 [(pG v7),(.clo 91 [] [(.rptr (kC v41))])] [] (.int .i64 v1) []:=
 sG Tryz.func144 λΓ q=>tW q Fc [] AG [] (tL q h AG [] (λu i1=>(Ek u [(8,(Z5 i1))] [])) (λu x_=>match x_ with|(.inl _)=>aG Γ (.exit 0) (⟨[],[],[]⟩:St)|(.inr r_)=>aR (Kl Γ v7 v41 r_)) (λi1 y h=>Ak q ZZ [] (gC h (λh=>Ak q aa [] (tC h λc2_ h=>tB h λx3 y3 h=>tT q ZQ [] [(Z6 x3)] (c2 c2_ (Qh y3)) (gC h (λh=>Ak q [4] [] (tS h (gO (O8 (J1 [] (Le.refl _ _)))))) λh=>Ak q AG [] (tN h)))) λh=>tS h (gO (C3 (Cw [] [] q))))) λx4 h=>(match x4,h with | .inl _,h=>gA (Ak q [4] [] (tS h (Dm []))) | .inr r6,h=>Uq (λst' hk=>tS h (gK hk))))
def Ch(aa2:List Bool):(Int×Int×List Bz)->Option (LR (Int×Int×List Bz) (Int×List Bz)):=
 λ((i2,i3,l4):(Int×Int×List Bz))=>(bif (decide (i3<(l4.length:Int))) then(Option.bind (α:=o5) (Bh (Bl i3 l4.length) ((Gk (l4.getD i3.toNat default) aa2).bind λx10=>(bif (!x10) then(Bh (Bl i2 l4.length) (some ((Ay (i2+1)),(l4.set i2.toNat (⟨(l4.getD i3.toNat default).Kind,(l4.getD i3.toNat default).Bits,(l4.getD i3.toNat default).Lanes,(l4.getD i3.toNat default).Dst,(l4.getD i3.toNat default).Args,(l4.getD i3.toNat default).Imm⟩:Bz))))) else(some (i2,l4))))) (λ(i7,l8)=>(some (.next (i7,(Ay (i3+1)),l8))))) else(some (.done (i2,l4))))
def nb(l6:List Bz)(i5:Int):=(FG l6 (0+i5.toNat) (l6.length-(0+i5.toNat)) (λ_=>(default:Bz)))
def na(l4:List Bz)(i2:Int)(i3:Int):=(l4.set i2.toNat (⟨(l4.getD i3.toNat default).Kind,(l4.getD i3.toNat default).Bits,(l4.getD i3.toNat default).Lanes,(l4.getD i3.toNat default).Dst,(l4.getD i3.toNat default).Args,(l4.getD i3.toNat default).Imm⟩:Bz))
abbrev mZ:=(Nat×List Bz)
def C2(aD:List Bz)(aa2:List Bool):Option mZ:=
 ((D5 aD aa2).bind λx1=>(bif (x1==-1) then(some ((aD.length:Nat),aD)) else((Af (Ch aa2) (x1,(Ay (x1+1)),aD)).bind (λ(i5,l6)=>(Bh (0<=i5/\0+i5.toNat<=l6.length) (Bh (0<=i5/\0+i5.toNat<=(FG l6 (0+i5.toNat) (l6.length-(0+i5.toNat)) (λ_=>(default:Bz))).length) (some (((0+i5.toNat):Nat),(FG l6 (0+i5.toNat) (l6.length-(0+i5.toNat)) (λ_=>(default:Bz)))))))))))
variable{v46:mZ}
theorem Lh(h:C2 v7 v41=some v46):sP 89 [(.vsl 34000 v7.length),(.clo 91 [] [(.rptr (kC v41))])] [(WR 34000 v7)] (.vsub 34000 v46.2.length 0 v46.1) [(WR 34000 v46.2)]:=
 sG Tryz.func89 λΓ q=>gR q Fc [34000] [(4,qB)] [] (c1 (Dp 6 E4 (default:Bz))) (tB h λx1 y1 h=>tT q Tw [34000] [⟨[],[],(Z5 x1),[],[34000],[]⟩] (c3 (Kg y1) (show(Ww []) from trivial) (Eq.refl v7.length)) (Ak q [0,1,5,12] [34000] (gC h (λh=>Ak q [4] [34000] (Td (⟨[(4,(.vsl 34000 v7.length))],[(WR 34000 v7)],[]⟩:St) (tS h (gK (e:=.ret) (J1 VZ (Le.trans (bc (t:=4) (r:=34000) rfl rfl) (Cw (st':=⟨[(4,(.vsub 34000 v7.length 0 v7.length))],[(WR 34000 v7)],[]⟩) [4] [34000] q))))))) λh=>Ak q R7 [34000] (tL q h R7 [34000] (λu (i2,i3,l4)=>(Ek u [(eK l4.length),(5,(Z5 i2)),(6,(Z5 i3))] [(WR 34000 l4)])) (λu (i5,l6)=>aG Γ (.exit 0) (⟨[(eK l6.length),(5,(Z5 i5))],[(WR 34000 l6)],[]⟩:St)) (λ⟨i2,i3,l4⟩ y h=>Ak q [0,1,5,6,19] [34000] (gC h (λh=>tB h λx12 y12 h=>gJ y12 (λ(i7,l8)=>aG Γ .normal (⟨[(eK l8.length),(1,(.clo 91 [] [(.rptr (kC v41))])),(5,(Z5 i7)),(6,(Z5 i3))],[(WR 34000 l8)],[]⟩:St)) (λy h=>tC h λc9_ h=>tU q [0,1,5,6,7] RI (c2 c9_ (Eq.refl l4.length)) (tB h λx10 y10 h=>tT q [0,1,5,6,7,29] RI [(Z6 x10)] (c1 (Qh y10)) (gC h (λh=>tC h λc11_ h=>tU q R7 [34000] (c2 c11_ (Eq.refl l4.length)) (gLe (Le.trans (Qt 34000 (show ∀ k_,k_<l4.length->AVleL ((λi_=>AV.eraseAll (λn_=>Bw n_ [34000]) ((J7 (λi=>E4 (l4.getD i default)) i2.toNat 0 (E4 (l4.getD i3.toNat default))) i_)) k_) ((λi=>E4 ((na l4 i2 i3).getD i default)) k_) from(Bn (D8 ..).symm (λk_ hk_=>(Bi (AV.eraseAll (λn_=>Bw n_ [34000])) ((Gs (λ_ _=>rfl) (Ig c11_) rfl) k_ hk_)).trans rfl)))) (Pv (λ(k_:Nat) u=>(Ek u [(eK k_)] [(34000,.arr 6 70 k_ (λi=>E4 ((na l4 i2 i3).getD i default)))])) (show l4.length=(na l4 i2 i3).length from(D8 ..).symm))) (Ak q R7 [34000] (tS h (gK (C3 Mf)))))) λh=>tS h (gK (C3 (Cw R7 [34000] q)))))) (match x12,h with|⟨i7,l8⟩,h=>gA (Ak q R7 [34000] (tN h)))) λh=>tS h (gO (C3 (Cw [0,5] [34000] q))))) λx14 h=>(match x14,h with|⟨i5,l6⟩,h=>gA (tC h λc16_ h=>tU q [0,5] [34000] (c2 c16_ (Eq.refl l6.length)) (gLe (Le.trans (Qt 34000 (show ∀ k_,k_<l6.length->AVleL ((λi_=>AV.eraseAll (λn_=>Bw n_ [34000]) ((LY (λi=>E4 (l6.getD i default)) (0+i5.toNat) (l6.length-(0+i5.toNat)) (λ_=>[Kk,Kk,Kk,Kk,Ws,(.int .u64 (0:Int))])) i_)) k_) ((λi=>E4 ((nb l6 i5).getD i default)) k_) from(gX (e:=E4) (d:=(default:Bz)) (l:=l6) (.cons (AVle.refl _) (.cons (AVle.refl _) (.cons (AVle.refl _) (.cons (AVle.refl _) (.cons (λ_ _ _ _ _ hh=>AVle.untag _ _ _ _ _ (Fe _ _ _ _ _ hh)) (.cons (AVle.refl _) .nil)))))) (λ_ _=>rfl)))) (Pv (λ(k_:Nat) u=>(Ek u [(eK k_)] [(34000,.arr 6 70 k_ (λi=>E4 ((nb l6 i5).getD i default)))])) (show l6.length=(nb l6 i5).length from(Dc ..)))) (tV q [4] [34000] h λh=>tS h (Dm VZ)))))))))
def Ho(a2:Ab)(aa3:List Bool):mX->Option qx:=
 λ((i1,l2):mX)=>(bif (decide (i1<(a2.Blocks.length:Int))) then(Bh (Bl i1 a2.Blocks.length) ((B0 ((a2.Blocks.getD i1.toNat default).Phis)).bind λx5=>((Cm x5 aa3).bind λx6=>(Bh (x6.1<=x6.2.length) (Bh (x5.length=x6.2.length) ((Cg ((a2.Blocks.getD i1.toNat default).Ops)).bind λx9=>((C2 x9 aa3).bind λx10=>(Bh (x10.1<=x10.2.length) (Bh (x9.length=x10.2.length) (Bh (l2.length+([(⟨(x6.2.take x6.1),(x10.2.take x10.1),(⟨(a2.Blocks.getD i1.toNat default).End.Kind,(a2.Blocks.getD i1.toNat default).End.Arg,(a2.Blocks.getD i1.toNat default).End.To⟩:F4)⟩:Ac)]:List Ac).length<=room) (some (.next ((Ay (i1+1)),(l2++([(⟨(x6.2.take x6.1),(x10.2.take x10.1),(⟨(a2.Blocks.getD i1.toNat default).End.Kind,(a2.Blocks.getD i1.toNat default).End.Arg,(a2.Blocks.getD i1.toNat default).End.To⟩:F4)⟩:Ac)]:List Ac))))))))))))))) else(some (.done l2)))
def WP(x10:mZ):=(λi=>E4 (x10.2.getD i default))
def Ym(a2:Ab)(i1:Int):=(a2.Blocks.getD i1.toNat default)
def ek(x6:mY):=(λi=>Ee (x6.2.getD i default))
def en(a2:Ab)(i1:Int):AV:=(AV.list 1 Aq 0 (Ym a2 i1).End.To .none)
def RP:List AV:=[Ws,Kk,Ws]
def ca(a2:Ab)(l2:List Ac):List AV:=[(L8 a2.Params),(Z5 a2.Ret),(kY l2 5502)]
def nf(a2:Ab):List AV:=[(L8 a2.Params),(Z5 a2.Ret),sW]
def pf(a2:Ab):List AV:=[(L8 a2.Params),(Z5 a2.Ret),(AV.list 5 Bm default ([]:List Ac) (.own 5502))]
def kR(x6:mY)(x10:mZ)(a2:Ab)(i1:Int):=([(⟨(x6.2.take x6.1),(x10.2.take x10.1),(⟨(Ym a2 i1).End.Kind,(Ym a2 i1).End.Arg,(Ym a2 i1).End.To⟩:F4)⟩:Ac)]:List Ac)
def nd(aa3:List Bool)(a2:Ab):List eO:=[(3,(.rptr (kC aa3))),OT,(5,(.ptr 5 0)),(14,(RJ a2.Blocks)),(RL 15 a2.Blocks.length),(16,Kk)]
def ei(aa3:List Bool)(a2:Ab)(i1:Int):List eO:=[(3,(.rptr (kC aa3))),OT,(5,(.ptr 5 0)),(7,(.ptr 7 0)),(14,(RJ a2.Blocks)),(RL 15 a2.Blocks.length),(16,(Z5 i1))]
def Gp(a2:Ab)(aa3:List Bool):Option Ab:=
 ((Af (Ho a2 aa3) ((0:Int),([]:List Ac))).bind (λx14=>(some (⟨a2.Params,a2.Ret,x14⟩:Ab))))
theorem Tk(h:Gp v0 v41=some v40):sP 48 [(Yp v0),(AV.list 1 eB false v41 .none)] [] (Yp v40) []:=
 sG Tryz.func48 λΓ q=>have hΓ:=q.own;gR q [2,3,4] [2,4] [(3,(.rptr []))] [] trivial (gR q [2,3,4,5] [2,4,5] [(12,(.agg (nf v0)))] [] (c1 (show(AVle (.agg [(L8 v0.Params),(Z5 v0.Ret),Ws]) (.agg (nf v0))) from(AVle.agg (.cons (AVle.refl _) (.cons (AVle.refl _) (.cons Fe .nil)))))) (Ak q OE [4,5] (gLe (st':=⟨(nd v41 v0),[(4,.row 25 RP),(5,.row 25 (pf v0)),(rV 5502)],[]⟩) (Le.trans (Cw (st':=⟨(nd v41 v0),[(4,.row 25 RP),(5,.row 25 (nf v0))],[]⟩) OE [4,5] q) (Le.trans (Nt (r:=5) (j:=2) (nm:=5502) (sz':=5) (λi=>Bm (([]:List Ac).getD i default)) 64 rfl rfl (nl rfl) rfl (.inl ⟨rfl,rfl⟩) (λh_=>absurd h_ (by decide))) (Cw (st':=⟨(nd v41 v0),[(4,.row 25 RP),(5,.row 25 (pf v0)),(rV 5502)],[]⟩) OE KC q))) (tL q h OE KC (λu (i1,l2)=>(Ek u [(16,(Z5 i1))] [(5,.row 25 (ca v0 l2)),(Lm 5502 64 l2.length)])) (λu l3=>aG Γ (.exit 0) (T9 [4,5] KC u [] [(5,.row 25 [(L8 v0.Params),(Z5 v0.Ret),(kY l3 5502)]),(Lm 5502 64 l3.length)])) (λ⟨i1,l2⟩ y h=>Ak q [3,4,5,14,15,16,17] KC (gC h (λh=>tV q j4 [4,5,7,5502] h λh=>tB h λx5 y5 h=>tB h λx6 y6 h=>tC h λc7_ h=>tC h λc8_ h=>tT q j4 [4,5,7,22,5502] [⟨[],[(20000,22)],(.vsl 20000 x5.length),(fG 20000 x5),[],[]⟩,⟨[(22,34000)],[],(.vsub 34000 x6.2.length 0 x6.1),[(34000,.arr 4 67 x6.2.length (ek x6))],[],[]⟩] (c2 (Lg y5) (Kf y6)) (tB h λx9 y9 h=>tB h λx10 y10 h=>tC h λc11_ h=>tC h λc12_ h=>tT q j4 [4,5,7,22,28,5502] [⟨[],[(20000,28)],(.vsl 20000 x9.length),[(WR 20000 x9)],[],[]⟩,⟨[(28,34000)],[],(.vsub 34000 x10.2.length 0 x10.1),[(34000,.arr 6 70 x10.2.length (WP x10))],[],[]⟩] (c2 (Mu y9) (Lh y10)) (Td (⟨(ei v41 v0 i1),[(4,.row 25 RP),(5,.row 25 (ca v0 l2)),(7,.row 64 [(.vsub 22 x6.2.length 0 x6.1),(.vsub 28 x10.2.length 0 x10.1),(.int .i64 (Ym v0 i1).End.Kind),(.int .i64 (Ym v0 i1).End.Arg),(en v0 i1)]),(22,.arr 4 67 x6.2.length (ek x6)),(28,.arr 6 70 x10.2.length (WP x10)),(Lm 5502 64 l2.length)],[]⟩:St) (gLe (Le.trans (Le.trans (le_freeze (nm:=22) (sz:=4) (n:=x6.2.length) (e:=67) (f:=(ek x6)) (g:=(ek x6)) rfl ⟨rfl,trivial⟩ (λ_ _=>rfl) (by rw[hΓ];rfl)) (I7 (st':=⟨(ei v41 v0 i1),[(4,.row 25 RP),(5,.row 25 (ca v0 l2)),(7,.row 64 [(.slice 4 (x6.1-0) (λi=>(ek x6) (0+i)) .none),(.vsub 28 x10.2.length 0 x10.1),(.int .i64 (Ym v0 i1).End.Kind),(.int .i64 (Ym v0 i1).End.Arg),(en v0 i1)]),(22,.tok 4 67 x6.2.length),(28,.arr 6 70 x10.2.length (WP x10)),(Lm 5502 64 l2.length)],[]⟩) (by kernel_rfl))) (Re (st':=⟨(ei v41 v0 i1),[(4,.row 25 RP),(5,.row 25 (ca v0 l2)),(7,.row 64 [(AV.list 4 Ee default (x6.2.take x6.1) .none),(.vsub 28 x10.2.length 0 x10.1),(.int .i64 (Ym v0 i1).End.Kind),(.int .i64 (Ym v0 i1).End.Arg),(en v0 i1)]),(22,.tok 4 67 x6.2.length),(28,.arr 6 70 x10.2.length (WP x10)),(Lm 5502 64 l2.length)],[]⟩) (.cons (AVle.refl _) (.cons (AVle.refl _) (.cons (AVle.refl _) (.cons (AVle.refl _) (.cons (AVle.refl _) (.cons (AVle.refl _) (.cons (AVle.refl _) .nil))))))) (.same (.same (.row (.cons (fc (e:=Ee) (d:=(default:A4)) (And.intro trivial c7_).2) (.cons (AVle.refl _) (.cons (AVle.refl _) (.cons (AVle.refl _) (.cons (AVle.refl _) .nil))))) (.same (.same (.same .nil)))))))) (gLe (Le.trans (Le.trans (le_freeze (nm:=28) (sz:=6) (n:=x10.2.length) (e:=70) (f:=(WP x10)) (g:=(WP x10)) rfl ⟨rfl,trivial⟩ (λ_ _=>rfl) (by rw[hΓ];rfl)) (I7 (st':=⟨(ei v41 v0 i1),[(4,.row 25 RP),(5,.row 25 (ca v0 l2)),(7,.row 64 [(AV.list 4 Ee default (x6.2.take x6.1) .none),(.slice 6 (x10.1-0) (λi=>(WP x10) (0+i)) .none),(.int .i64 (Ym v0 i1).End.Kind),(.int .i64 (Ym v0 i1).End.Arg),(en v0 i1)]),(22,.tok 4 67 x6.2.length),(28,.tok 6 70 x10.2.length),(Lm 5502 64 l2.length)],[]⟩) (by kernel_rfl))) (Re (st':=⟨(ei v41 v0 i1),[(4,.row 25 RP),(5,.row 25 (ca v0 l2)),(7,.row 64 [(AV.list 4 Ee default (x6.2.take x6.1) .none),(AV.list 6 E4 default (x10.2.take x10.1) .none),(.int .i64 (Ym v0 i1).End.Kind),(.int .i64 (Ym v0 i1).End.Arg),(en v0 i1)]),(22,.tok 4 67 x6.2.length),(28,.tok 6 70 x10.2.length),(Lm 5502 64 l2.length)],[]⟩) (.cons (AVle.refl _) (.cons (AVle.refl _) (.cons (AVle.refl _) (.cons (AVle.refl _) (.cons (AVle.refl _) (.cons (AVle.refl _) (.cons (AVle.refl _) .nil))))))) (.same (.same (.row (.cons (AVle.refl _) (.cons (fc (e:=E4) (d:=(default:Bz)) (And.intro trivial c11_).2) (.cons (AVle.refl _) (.cons (AVle.refl _) (.cons (AVle.refl _) .nil))))) (.same (.same (.same .nil)))))))) (tC h λc13_ h=>gR q OE KC (sO 35 (kR x6 x10 v0 i1) 36 l2 5502) [] (c5 (Bx 5 Bm (default:Ac) (kR x6 x10 v0 i1)) (Eq.refl l2.length) c13_ (Ot 5 5502 Bm (default:Ac) l2 (kR x6 x10 v0 i1)) (G9 l2 (kR x6 x10 v0 i1))) (Ak q OE KC (tN h)))))))) λh=>tS h (gO (C3 (Cw [4,5] KC q))))) λx14 h=>gA (Ak q [4] [4,5502] (tS h (Dm [])))))))
def Js :LN->Option qz:=
 λ(s_:LN)=>match s_ with|(l1,i2,l3)=>((Hi (⟨l1,i2,l3⟩:Ab)).bind λx9=>((Gp (⟨l1,i2,l3⟩:Ab) x9).bind λx10=>((Ez x10).bind λx11=>((Ez (⟨l1,i2,l3⟩:Ab)).bind λx12=>(bif (decide (x11<x12)) then(some (.next (x10.Params,x10.Ret,x10.Blocks))) else(some (.done (⟨l1,i2,l3⟩:Ab))))))))
def RO(Γ:G2)(a2:Ab)(r:Ab):Exit->St->Prop:=fK Tryz.prog Γ Tryz.f18.results.toList [] (Yp r) []
def Nv(a2:Ab):Option Ab:=
 ((Nj (S:=LN) (X:=Ab) ((H2 a2).bind λx4=>(bif (!x4) then(some (.done a2)) else((Hi a2).bind λx5=>((Gp a2 x5).bind λx6=>((Ez x6).bind λx7=>((Ez a2).bind λx8=>(bif (decide (x7<x8)) then(some (.next (x6.Params,x6.Ret,x6.Blocks))) else(some (.done a2))))))))) Js).bind (λx13=>(some x13)))
theorem Zp(h:Nv v0=some v40):sP 18 [(Yp v0)] [] (Yp v40) []:=
 sG Tryz.func18 λΓ q=>Ak q Fd Fd (tB h λx13 y13 h=>gS y13 (λ(s_:LN)=>match s_ with|(l1,i2,l3)=>0) (λ(s_:LN)=>match s_ with|(l1,i2,l3)=>(⟨[(1,(.ptr 1 0)),LP],[(1,.row 25 [(L8 l1),(Z5 i2),(RJ l3)]),(2,.row 25 [Ws,Kk,Ws])],[]⟩:St)) (λr_=>aR (RO Γ v0 r_)) (λy h=>tB h λx4 y4 h=>tT q [1,2,6] Fd [(Z6 x4)] (c1 (Oc y4)) (gC h (λh=>Ak q [2] [2] (tS h (WI (O8 (J1 [] (Le.refl _ _)))))) λh=>tB h λx5 y5 h=>tB h λx6 y6 h=>tT q CP CP [(sK x5 x5.length),(j9 x6)] (c2 (Q3 y5) (Tk y6)) (tB h λx7 y7 h=>tB h λx8 y8 h=>tT q [1,2,3,16] CP [(fH x7),(fH x8)] (c2 (Mt y7) (Mt y8)) (gC h (λh=>Ak q Fd Fd (tS h (XM Mf))) λh=>Ak q [2] [2] (tS h (WI (O8 (J1 [] (Le.refl _ _))))))))) (λ⟨l1,i2,l3⟩ y h=>tB h λx9 y9 h=>tB h λx10 y10 h=>tT q CP CP [(sK x9 x9.length),(j9 x10)] (c2 (Q3 y9) (Tk y10)) (tB h λx11 y11 h=>tB h λx12 y12 h=>tT q [1,2,3,16] CP [(fH x11),(fH x12)] (c2 (Mt y11) (Mt y12)) (gC h (λh=>Ak q Fd Fd (tS h (XM Mf))) λh=>Ak q [2] [2] (tS h (WI (O8 (J1 [] (Le.refl _ _)))))))) (Uq (λst' hk=>tS h (gK hk))))
def Nc(a2:Ab):Option Ab:=
 ((Pe a2).bind λx1=>((Nv x1).bind λx2=>(some x2)))
theorem DO(h:Nc v0=some v40):sP 20 [(Yp v0)] [] (Yp v40) []:=
 sG Tryz.func20 λΓ q=>Ak q Fd Fd (tB h λx1 y1 h=>tB h λx2 y2 h=>tT q [2] [2] [(j9 x1),(j9 x2)] (c2 (DP y1) (Zp y2)) (tS h (Dm [])))
def HJ(x2:List Bool):(Au×Int)->Option (LR (Au×Int) Au):=
 λ((l3,i4):(Au×Int))=>(bif (decide (i4<(x2.length:Int))) then(Option.bind (α:=Au) (Bh (Bl i4 x2.length) (bif (x2.getD i4.toNat false) then(Bh (l3.length+([i4]:Au).length<=room) (some (l3++([i4]:Au)))) else(some l3))) (λx9=>(some (.next (x9,(Ay (i4+1))))))) else(some (.done l3)))
def cd:AV:=cj
def ph:=(⟨[(2,(rU 6002))],[(6002,.tok 1 3 (([]:Au).length))],[]⟩:St)
def pg(x2:List Bool):=(⟨[(3,(rU 5003)),(10,(AV.list 1 eB false x2 (.own 10))),(RL 11 x2.length),(12,Kk)],[(10,.tok 1 4 x2.length),(5003,.tok 1 3 (([]:Au).length))],[]⟩:St)
def DH(a2:Ab):Option Au:=
 ((H2 a2).bind λx1=>(bif (!x1) then(some ([]:Au)) else((Hi a2).bind λx2=>((Af (HJ x2) (([]:Au),(0:Int))).bind (λx11=>(some x11))))))
theorem QJ(h:DH v0=some v2):sP 14 [(Yp v0)] [] (Wm v2 20000) [(Wt 20000 v2.length)]:=
 sG Tryz.func14 λΓ q=>gR q [1] [1] [(2,cd)] [] (c1 (Dp 1 Aq (0:Int))) (tB h λx1 y1 h=>tT q [1,8] [1] [(Z6 x1)] (c1 (Oc y1)) (gC h (λh=>gR q [2] [] [(2,cd)] [] (c1 (Dp 1 Aq (0:Int))) (Td (⟨[(2,cd)],[],[]⟩:St) (tS h (gK (e:=.ret) (J1 [(6002,20000)] (show Le Γ _ ph from Le.trans (Cw (st':=⟨[(2,cd)],[],[]⟩) [2] [] q) (Le.trans (PM (t:=2) (nm:=6002) (sz':=1) (λi=>Aq (([]:Au).getD i 0)) 3 rfl rfl (.inl ⟨rfl,rfl⟩) (λh_=>absurd h_ (by decide))) (Cw (st':=ph) [2] [6002] q)))))))) λh=>gR q [1,3] [1] [(3,cd)] [] (c1 (Dp 1 Aq (0:Int))) (tB h λx2 y2 h=>tT q Vt [10] [(sK x2 x2.length)] (c1 (Q3 y2)) (gLe (st':=(pg x2)) (Le.trans (Cw (st':=⟨[(3,cd),(10,(AV.list 1 eB false x2 (.own 10))),(RL 11 x2.length),(12,Kk)],[(10,.tok 1 4 x2.length)],[]⟩) Vt [10] q) (Le.trans (PM (t:=3) (nm:=5003) (sz':=1) (λi=>Aq (([]:Au).getD i 0)) 3 rfl rfl (.inl ⟨rfl,rfl⟩) (λh_=>absurd h_ (by decide))) (Cw (st':=(pg x2)) Vt EJ q))) (tL q h Vt EJ (λu (l3,i4)=>(Ek u [(3,(Wm l3 5003)),(12,(Z5 i4))] [(Wt 5003 l3.length)])) (λu l5=>aG Γ (.exit 0) (⟨[(3,(Wm l5 5003))],[(Wt 5003 l5.length)],[]⟩:St)) (λ⟨l3,i4⟩ y h=>Ak q [3,10,11,12,13] EJ (gC h (λh=>tB h λx9 y9 h=>gJ y9 (λl6=>aG Γ .normal (⟨[(3,(Wm l6 5003)),(10,(AV.list 1 eB false x2 (.own 10))),(RL 11 x2.length),(12,(Z5 i4))],[(10,.tok 1 4 x2.length),(Wt 5003 l6.length)],[]⟩:St)) (λy h=>tV q [3,4,5,10,11,12] EJ h λh=>Ak q [3,4,10,11,12,17] EJ (gC h (λh=>tC h λc8_ h=>gR q Vt EJ [(20,(np i4)),(21,(AV.list 1 Aq 0 (l3++([i4]:Au)) (.own 5003)))] [] (c5 (Bx 1 Aq (0:Int) ([i4]:Au)) (Eq.refl l3.length) c8_ (Ot 1 5003 Aq (0:Int) l3 ([i4]:Au)) (G9 l3 ([i4]:Au))) (tS h (gK (C3 Mf)))) λh=>tS h (gK (C3 (Cw Vt EJ q))))) (gA (Ak q Vt EJ (tN h)))) λh=>tS h (gO (C3 (Cw [3] [5003] q))))) λx11 h=>gA (Ak q [2] [5003] (tS h (Dm [(5003,20000)]))))))))
def Ef:List Bz:=([(⟨(0:Int),(8:Int),(1:Int),(1:Int),([]:Au),(7:Int)⟩:Bz),(⟨(0:Int),(8:Int),(1:Int),(2:Int),([]:Au),(8:Int)⟩:Bz)]:List Bz)
def Cj:List Ac:=([(⟨([]:List A4),Ef,(⟨(1:Int),(0:Int),([(1:Int)]:Au)⟩:F4)⟩:Ac),(⟨([(⟨(8:Int),(3:Int),([(0:Int)]:Au),([(1:Int)]:Au)⟩:A4)]:List A4),([]:List Bz),(⟨(0:Int),(3:Int),([]:Au)⟩:F4)⟩:Ac)]:List Ac)
def Yn:AV:=Kk
def FZ:AV:=kZ
def ce:AV:=Ws
def ng(x4:Bool)(x1:Ab):=(bif (bif (bif x4 then((x1.Blocks.length:Int)==1) else false) then(((x1.Blocks.getD (0:Int).toNat (default:Ac)).End.Arg:Int)==1) else false) then((((x1.Blocks.getD (0:Int).toNat (default:Ac)).Ops).length:Int)==2) else false)
def rm(x2:Ab):=((x2.Blocks.length:Int)==1)
def ep(x4:Bool)(x1:Ab)(x2:Ab):=(bif (ng x4 x1) then(rm x2) else false)
def FY:AV:=cj
def pj(x2:Ab):=((((x2.Blocks.getD (0:Int).toNat (default:Ac)).Ops).length:Int)==1)
def nh(x4:Bool)(x1:Ab)(x2:Ab):=((bif (ep x4 x1 x2) then(pj x2) else false)==true)
def tJ:=(⟨([]:Au),(8:Int),Cj⟩:Ab)
def kT:AV:=(AV.list 5 Bm default Cj .exact)
def pk(x4:Bool)(x1:Ab):=((bif x4 then((x1.Blocks.length:Int)==1) else false)==true)
def kS:AV:=(AV.list 4 Ee default ([(⟨(8:Int),(3:Int),([(0:Int)]:Au),([(1:Int)]:Au)⟩:A4)]:List A4) .exact)
def pi(x4:Bool)(x1:Ab):=((bif (bif x4 then((x1.Blocks.length:Int)==1) else false) then(((x1.Blocks.getD (0:Int).toNat (default:Ac)).End.Arg:Int)==1) else false)==true)
def pl:AV:=(.agg [rT,(AV.list 6 E4 default Ef .exact),FZ,Yn,rS])
def m_locksteplaw16_awake :Option Bool:=
 ((Pe (⟨([]:Au),(8:Int),Cj⟩:Ab)).bind λx1=>((Nc (⟨([]:Au),(8:Int),Cj⟩:Ab)).bind λx2=>((DH (⟨([]:Au),(8:Int),Cj⟩:Ab)).bind λx3=>((Nu x3 ([(1:Int),(3:Int)]:Au)).bind λx4=>(Bh (((bif x4 then((x1.Blocks.length:Int)==1) else false)==true)=true->(Bl (0:Int) x1.Blocks.length)) (Bh (((bif (bif x4 then((x1.Blocks.length:Int)==1) else false) then(((x1.Blocks.getD (0:Int).toNat (default:Ac)).End.Arg:Int)==1) else false)==true)=true->(Bl (0:Int) x1.Blocks.length)) (Bh (((bif (bif (bif (bif x4 then((x1.Blocks.length:Int)==1) else false) then(((x1.Blocks.getD (0:Int).toNat (default:Ac)).End.Arg:Int)==1) else false) then((((x1.Blocks.getD (0:Int).toNat (default:Ac)).Ops).length:Int)==2) else false) then((x2.Blocks.length:Int)==1) else false)==true)=true->(Bl (0:Int) x2.Blocks.length)) ((bif ((bif (bif (bif (bif (bif x4 then((x1.Blocks.length:Int)==1) else false) then(((x1.Blocks.getD (0:Int).toNat (default:Ac)).End.Arg:Int)==1) else false) then((((x1.Blocks.getD (0:Int).toNat (default:Ac)).Ops).length:Int)==2) else false) then((x2.Blocks.length:Int)==1) else false) then((((x2.Blocks.getD (0:Int).toNat (default:Ac)).Ops).length:Int)==1) else false)==true) then Nv (⟨([]:Au),(8:Int),Cj⟩:Ab) else some (default:Ab)).bind λx8=>(some (bif (bif (bif (bif (bif (bif x4 then((x1.Blocks.length:Int)==1) else false) then(((x1.Blocks.getD (0:Int).toNat (default:Ac)).End.Arg:Int)==1) else false) then((((x1.Blocks.getD (0:Int).toNat (default:Ac)).Ops).length:Int)==2) else false) then((x2.Blocks.length:Int)==1) else false) then((((x2.Blocks.getD (0:Int).toNat (default:Ac)).Ops).length:Int)==1) else false) then((x8.Blocks.length:Int)==2) else false))))))))))
theorem S2  (r:Bool) (h:m_locksteplaw16_awake=some r):sP 10 [] [] (.bool r) []:=
 sG Tryz.func10 λΓ q=>Ak q [] [] (gR q [1] [1] [(6,(.agg [Yn,eH,FZ,FZ,FY,(.int .u64 (7:Int))]))] [] (c1 (show(AVle (.agg [Yn,eH,FZ,FZ,ce,(.int .u64 (7:Int))]) (.agg [Yn,eH,FZ,FZ,FY,(.int .u64 (7:Int))])) from(AVle.agg (.cons (AVle.refl _) (.cons (AVle.refl _) (.cons (AVle.refl _) (.cons (AVle.refl _) (.cons Fe (.cons (AVle.refl _) .nil))))))))) (gR q Fd Fd [(7,(sU Yn FZ FY))] [] (c1 (show(AVle (sU Yn FZ ce) (sU Yn FZ FY)) from(AVle.agg (.cons (AVle.refl _) (.cons (AVle.refl _) (.cons (AVle.refl _) (.cons (AVle.refl _) (.cons Fe (.cons (AVle.refl _) .nil))))))))) (gR q [3] [3] [(10,(AV.list 6 E4 default Ef .exact)),(11,rS),(13,pl),(14,(AV.list 1 Aq 0 ([(0:Int)]:Au) .exact)),(15,rS),(17,kS),(18,(.agg [Yn,(.int .i64 (3:Int)),FY])),(19,(.agg [kS,qB,Yn,(.int .i64 (3:Int)),FY])),(20,kT),(21,(.agg [FY,eH,kT]))] [] (sZ (Bx 6 E4 (default:Bz) Ef) (Bx 1 Aq (0:Int) ([(1:Int)]:Au)) (show(AVle (.agg [ce,(AV.list 6 E4 default Ef .exact),FZ,Yn,rS]) pl) from(AVle.agg (.cons Fe (.cons (AVle.refl _) (.cons (AVle.refl _) (.cons (AVle.refl _) (.cons (AVle.refl _) .nil))))))) (Bx 1 Aq (0:Int) ([(0:Int)]:Au)) (Bx 1 Aq (0:Int) ([(1:Int)]:Au)) (Bx 4 Ee (default:A4) ([(⟨(8:Int),(3:Int),([(0:Int)]:Au),([(1:Int)]:Au)⟩:A4)]:List A4)) (show(AVle (.agg [Yn,(.int .i64 (3:Int)),ce]) (.agg [Yn,(.int .i64 (3:Int)),FY])) from(AVle.agg (.cons (AVle.refl _) (.cons (AVle.refl _) (.cons Fe .nil))))) (show(AVle (.agg [kS,ce,Yn,(.int .i64 (3:Int)),FY]) (.agg [kS,qB,Yn,(.int .i64 (3:Int)),FY])) from(AVle.agg (.cons (AVle.refl _) (.cons Fe (.cons (AVle.refl _) (.cons (AVle.refl _) (.cons (AVle.refl _) .nil))))))) (Bx 5 Bm (default:Ac) Cj) (c1 (show(AVle (.agg [ce,eH,kT]) (.agg [FY,eH,kT])) from(AVle.agg (.cons Fe (.cons (AVle.refl _) (.cons (AVle.refl _) .nil))))))) (tB h λx1 y1 h=>tT q [3,4] [3,4] [(j9 x1)] (c1 (DP y1)) (tB h λx2 y2 h=>tT q [3,4,5] [3,4,5] [(j9 x2)] (c1 (DO y2)) (tB h λx3 y3 h=>tB h λx4 y4 h=>tC h λc5_ h=>tC h λc6_ h=>tC h λc7_ h=>tB h λx8 y8 h=>gR q [0] [] [(28,(AV.list 1 Aq 0 ([(1:Int),(3:Int)]:Au) .exact))] [⟨[],[(20000,27)],(Wm x3 20000),[(Wt 20000 x3.length)],[],[]⟩,(Z6 x4),(j9 x8)] (rW (QJ y3) (Bx 1 Aq (0:Int) ([(1:Int),(3:Int)]:Au)) (T7 y4) (dK (x4==true) (ci (P5 x4) (V4 (pk x4 x1) (ci c5_ (lL (pk x4 x1) (ci (P5 (bif x4 then((x1.Blocks.length:Int)==1) else false)) (V4 (pi x4 x1) (ci c6_ (lL (pi x4 x1) (ci (P5 (bif (bif x4 then((x1.Blocks.length:Int)==1) else false) then(((x1.Blocks.getD (0:Int).toNat (default:Ac)).End.Arg:Int)==1) else false)) (dK ((ng x4 x1)==true) (ci (P5 (ng x4 x1)) (V4 ((ep x4 x1 x2)==true) (ci c7_ (lL ((ep x4 x1 x2)==true) (rW (P5 (ep x4 x1 x2)) (gI (nh x4 x1 x2)) (λ(hg:(nh x4 x1 x2)=true)=>(Zp (Db hg y8))) (dK (nh x4 x1 x2) (c1 (P5 (bif (ep x4 x1 x2) then(pj x2) else false))))))))))))))))))))) (tS h (Dm []))))))))
open Go Go.RowKit
set_option maxRecDepth 100000
set_option maxHeartbeats 2000000
abbrev q8:=(Int×Int×Int×List Bz)
def Cz(a1:Int):q8->Option (LR (Int×Int×Int×List Bz) (Int×Int×List Bz)):=
 λ((i8,i9,i10,l11):q8)=>(bif (decide (i10<(Int.tmod (Ay a1) (4:Int)))) then(Bh (l11.length+([(⟨(1:Int),(8:Int),(1:Int),(Ay (i9+1)),([i8,(1:Int)]:Au),(0:Int)⟩:Bz)]:List Bz).length<=room) (some (.next ((Ay (i9+1)),(Ay (i9+1)),(Ay (i10+1)),(l11++([(⟨(1:Int),(8:Int),(1:Int),(Ay (i9+1)),([i8,(1:Int)]:Au),(0:Int)⟩:Bz)]:List Bz)))))) else(some (.done (i8,i9,l11))))
abbrev q9:=(Int×Int×Int×List Ac)
def C0(aI:Int)(a1:Int):q9->Option (LR (Int×Int×Int×List Ac) (Int×List Ac)):=
 λ((i2,i3,i4,l5):q9)=>(bif (decide (i4<(Ay ((1:Int)+(Int.tmod (Ay aI) (60:Int)))))) then((Af (Cz a1) (i2,i3,(0:Int),([]:List Bz))).bind (λx16=>(match x16 with|(i12,i13,l14)=>(Option.bind (α:=rf) (bif (((Ay (i4+1)):Int)==(Ay ((1:Int)+(Int.tmod (Ay aI) (60:Int))))) then(some ((0:Int),i12,([]:Au))) else(some ((1:Int),(0:Int),([(Ay (i4+1))]:Au)))) (λx21=>(match x21 with|(i18,i19,l20)=>(Bh (l5.length+([(⟨([]:List A4),l14,(⟨i18,i19,l20⟩:F4)⟩:Ac)]:List Ac).length<=room) (some (.next (i12,i13,(Ay (i4+1)),(l5++([(⟨([]:List A4),l14,(⟨i18,i19,l20⟩:F4)⟩:Ac)]:List Ac)))))))))))) else(some (.done (i2,l5))))
def C1(x26:Ab):Int->Option (LR Int (Unit ⊕ Bool)):=
 λ(i30:Int)=>(Bh (Bl (0:Int) x26.Blocks.length) (bif (decide (i30<(((x26.Blocks.getD (0:Int).toNat (default:Ac)).Ops).length:Int))) then(Bh (Bl (0:Int) x26.Blocks.length) (Bh (Bl i30 ((x26.Blocks.getD (0:Int).toNat (default:Ac)).Ops).length) (bif (((((x26.Blocks.getD (0:Int).toNat (default:Ac)).Ops).getD i30.toNat default).Dst:Int)!=(Ay (i30+2))) then(some (.done (.inr false))) else(some (.next (Ay (i30+1))))))) else(some (.done (.inl ())))))
def Pt(Γ:G2)(aI:Int)(a1:Int)(r:Bool):Exit->St->Prop:=fK Tryz.prog Γ Tryz.f8.results.toList [] (.bool r) []
def Xt:AV:=Kk
def AL:AV:=Ws
def pq(x26:Ab):=(((x26.Blocks.length:Int)!=1)==false)
def e8(x26:Ab)(aI:Int)(a1:Int):=(bif ((x26.Blocks.length:Int)!=1) then true else((((x26.Blocks.getD (0:Int).toNat (default:Ac)).Ops).length:Int)!=(Ay ((Ay ((1:Int)+(Int.tmod (Ay aI) (60:Int))))*(Int.tmod (Ay a1) (4:Int))))))
def po(x26:Ab):=(((x26.Blocks.getD (0:Int).toNat (default:Ac)).End.Kind:Int)!=0)
def pt(x26:Ab)(aI:Int)(a1:Int):=((bif (e8 x26 aI a1) then true else(po x26))==false)
def fB(aI:Int):AV:=(.int .i64 (Ay ((1:Int)+(Int.tmod (Ay aI) (60:Int)))))
def fA(l14:List Bz)(i18:Int)(i19:Int)(l20:Au):=([(⟨([]:List A4),l14,(⟨i18,i19,l20⟩:F4)⟩:Ac)]:List Ac)
def e9(i9:Int)(i8:Int):=([(⟨(1:Int),(8:Int),(1:Int),(Ay (i9+1)),([i8,(1:Int)]:Au),(0:Int)⟩:Bz)]:List Bz)
def kU(l5:List Ac):List AV:=[pE,eH,(kY l5 5702)]
def nj:List AV:=[pE,eH,sW]
def pr(l14:List Bz)(i18:Int)(i19:Int)(l20:Au):AV:=(.agg [rT,(eI l14 6101),(Z5 i18),(Z5 i19),(AV.list 1 Aq 0 l20 .exact)])
def pp(aI:Int)(a1:Int):=(⟨[(5,(fB aI)),(qC a1),(7,(.ptr 7 0)),(8,kZ),(9,kZ),(10,Xt)],[(7,.row 25 [pE,eH,(AV.list 5 Bm default ([]:List Ac) (.own 5702))]),(rV 5702)],[]⟩:St)
def pn(aI:Int)(a1:Int)(i2:Int)(i3:Int)(i4:Int)(l5:List Ac):=(⟨[(5,(fB aI)),(qC a1),(7,(.ptr 7 0)),(8,(Z5 i2)),(9,(Z5 i3)),(10,(Z5 i4)),(11,(.ptr 11 0)),(12,Xt)],[(7,.row 25 (kU l5)),(11,.row 64 [AL,(AV.list 6 E4 default ([]:List Bz) (.own 6101)),Xt,Xt,AL]),(Lm 5702 64 l5.length),(6101,.tok 6 70 (([]:List Bz).length))],[]⟩:St)
def G5(aI:Int)(a1:Int):Option Bool:=
 (m_locksteplaw16_awake.bind λx1=>(bif (!x1) then(some false) else((Af (C0 aI a1) ((1:Int),(1:Int),(0:Int),([]:List Ac))).bind (λx24=>(match x24 with|(i6,l7)=>((Nc (⟨([(8:Int)]:Au),(8:Int),l7⟩:Ab)).bind λx26=>(Bh ((((x26.Blocks.length:Int)!=1)==false)=true->(Bl (0:Int) x26.Blocks.length)) (Bh (((bif ((x26.Blocks.length:Int)!=1) then true else((((x26.Blocks.getD (0:Int).toNat (default:Ac)).Ops).length:Int)!=(Ay ((Ay ((1:Int)+(Int.tmod (Ay aI) (60:Int))))*(Int.tmod (Ay a1) (4:Int))))))==false)=true->(Bl (0:Int) x26.Blocks.length)) (Bh (((bif (bif ((x26.Blocks.length:Int)!=1) then true else((((x26.Blocks.getD (0:Int).toNat (default:Ac)).Ops).length:Int)!=(Ay ((Ay ((1:Int)+(Int.tmod (Ay aI) (60:Int))))*(Int.tmod (Ay a1) (4:Int)))))) then true else(((x26.Blocks.getD (0:Int).toNat (default:Ac)).End.Kind:Int)!=0))==false)=true->(Bl (0:Int) x26.Blocks.length)) (bif (bif (bif (bif ((x26.Blocks.length:Int)!=1) then true else((((x26.Blocks.getD (0:Int).toNat (default:Ac)).Ops).length:Int)!=(Ay ((Ay ((1:Int)+(Int.tmod (Ay aI) (60:Int))))*(Int.tmod (Ay a1) (4:Int)))))) then true else(((x26.Blocks.getD (0:Int).toNat (default:Ac)).End.Kind:Int)!=0)) then true else(((x26.Blocks.getD (0:Int).toNat (default:Ac)).End.Arg:Int)!=i6)) then(some false) else((Af (C1 x26) (0:Int)).bind (λx34=>(match x34 with|(.inl _)=>(some true)|(.inr r36)=>(some r36))))))))))))))
theorem ok_locksteplaw16_TidyChain(aI:Int)(a1:Int)(r:Bool)(h:G5 aI a1=some r):sP 8 [(.int .u8 aI),(.int .u8 a1)] [] (.bool r) []:=
 sG Tryz.func8 λΓ q=>Ak q Fc [] (tB h λx1 y1 h=>tT q [0,1,16] [] [(Z6 x1)] (c1 (S2  x1 y1)) (gC h (λh=>Ak q [4] [] (tS h (Dm []))) λh=>tU q [1,5] [] (c1 (show((60:Int)≠0) from(by decide))) (tU q [5,6] [] (c1 (show((4:Int)≠0) from(by decide))) (gR q [5,6,7] [7] [(24,pE),(25,(.agg nj))] [] (c2 (Bx 1 Aq (0:Int) ([(8:Int)]:Au)) (show(AVle (.agg [pE,eH,AL]) (.agg nj)) from(AVle.agg (.cons (AVle.refl _) (.cons (AVle.refl _) (.cons Fe .nil)))))) (tW q RD [7] [5,6,7,8,9] [7] (Ak q OG [7] (gLe (st':=(pp aI a1)) (Le.trans (Cw (st':=⟨[(5,(fB aI)),(qC a1),(7,(.ptr 7 0)),(8,kZ),(9,kZ),(10,Xt)],[(7,.row 25 nj)],[]⟩) OG [7] q) (Le.trans (Nt (r:=7) (j:=2) (nm:=5702) (sz':=5) (λi=>Bm (([]:List Ac).getD i default)) 64 rfl rfl (nl rfl) rfl (.inl ⟨rfl,rfl⟩) (λh_=>absurd h_ (by decide))) (Cw (st':=(pp aI a1)) OG Yh q))) (tL q h OG Yh (λu (i2,i3,i4,l5)=>(Ek u [(8,(Z5 i2)),(9,(Z5 i3)),(10,(Z5 i4))] [(7,.row 25 (kU l5)),(Lm 5702 64 l5.length)])) (λu (i6,l7)=>aG Γ (.exit 0) (T9 RD Yh u [(8,(Z5 i6))] [(7,.row 25 [pE,eH,(kY l7 5702)]),(Lm 5702 64 l7.length)])) (λ⟨i2,i3,i4,l5⟩ y h=>Ak q [5,6,7,8,9,10,28] Yh (gC h (λh=>tW q OC ah JZ ah (gLe (st':=(pn aI a1 i2 i3 i4 l5)) (Le.trans (Cw (st':=⟨[(5,(fB aI)),(qC a1),(7,(.ptr 7 0)),(8,(Z5 i2)),(9,(Z5 i3)),(10,(Z5 i4)),(11,(.ptr 11 0)),(12,Xt)],[(7,.row 25 (kU l5)),(11,.row 64 [AL,AL,Xt,Xt,AL]),(Lm 5702 64 l5.length)],[]⟩) JZ ah q) (Le.trans (Nt (r:=11) (j:=1) (nm:=6101) (sz':=6) (λi=>E4 (([]:List Bz).getD i default)) 70 rfl rfl (nl rfl) rfl (.inr rfl) (λh_=>absurd h_ (by decide))) (Cw (st':=(pn aI a1 i2 i3 i4 l5)) JZ R6 q))) (tL q h JZ R6 (λu (i8,i9,i10,l11)=>(Ek u [(8,(Z5 i8)),(9,(Z5 i9)),(12,(Z5 i10))] [(11,.row 64 [AL,(eI l11 6101),Xt,Xt,AL]),(6101,.tok 6 70 l11.length)])) (λu (i12,i13,l14)=>aG Γ (.exit 2) (T9 OC R6 u [(8,(Z5 i12)),(9,(Z5 i13))] [(11,.row 64 [AL,(eI l14 6101),Xt,Xt,AL]),(6101,.tok 6 70 l14.length)])) (λ⟨i8,i9,i10,l11⟩ y h=>Ak q [5,6,7,8,9,10,11,12,33] R6 (gC h (λh=>Ak q JZ R6 (tC h λc15_ h=>gR q [5,6,7,9,10,11,12] R6 [(42,(AV.list 1 Aq 0 ([i8,(1:Int)]:Au) .exact)),(44,(AV.list 6 E4 default (e9 i9 i8) .exact)),(45,(AV.list 6 E4 default (l11++(e9 i9 i8)) (.own 6101)))] [] (c6 (Bx 1 Aq (0:Int) ([i8,(1:Int)]:Au)) (Bx 6 E4 (default:Bz) (e9 i9 i8)) (Eq.refl l11.length) c15_ (Ot 6 6101 E4 (default:Bz) l11 (e9 i9 i8)) (G9 l11 (e9 i9 i8))) (tW q JZ R6 JZ R6 (tN h)))) λh=>tS h (gO (C3 (Cw OC R6 q))))) λx16 h=>(match x16,h with|⟨i12,i13,l14⟩,h=>gA (gR q OC R6 [(50,(AV.list 1 Aq 0 ([(Ay (i4+1))]:Au) .exact))] [] (c1 (Bx 1 Aq (0:Int) ([(Ay (i4+1))]:Au))) (tB h λx21 y21 h=>gJ y21 (λ(i18,i19,l20)=>aG Γ .normal (⟨[(5,(fB aI)),(qC a1),(7,(.ptr 7 0)),(8,(Z5 i12)),(9,(Z5 i13)),(10,(Z5 i4)),(11,(.ptr 11 0))],[(7,.row 25 (kU l5)),(11,.row 64 [AL,(eI l14 6101),(Z5 i18),(Z5 i19),(AV.list 1 Aq 0 l20 .exact)]),(Lm 5702 64 l5.length),(6101,.tok 6 70 l14.length)],[]⟩:St)) (λy h=>Ak q [5,6,7,8,9,10,11,56] R6 (gC h (λh=>gR q OC R6 [(58,(.agg [Xt,(Z5 i12),cj]))] [] (c1 (show(AVle (.agg [Xt,(Z5 i12),AL]) (.agg [Xt,(Z5 i12),cj])) from(AVle.agg (.cons (AVle.refl _) (.cons (AVle.refl _) (.cons Fe .nil)))))) (tS h (gK (C3 Mf)))) λh=>tS h (gK (C3 (Cw OC R6 q))))) (match x21,h with|⟨i18,i19,l20⟩,h=>gA (tC h λc23_ h=>gR q OG Yh [(62,(pr l14 i18 i19 l20)),(63,(AV.list 5 Bm default (fA l14 i18 i19 l20) .exact)),(64,(AV.list 5 Bm default (l5++(fA l14 i18 i19 l20)) (.own 5702)))] [] (c6 (show(AVle (.agg [AL,(eI l14 6101),(Z5 i18),(Z5 i19),(AV.list 1 Aq 0 l20 .exact)]) (pr l14 i18 i19 l20)) from(AVle.agg (.cons Fe (.cons (AVle.refl _) (.cons (AVle.refl _) (.cons (AVle.refl _) (.cons (AVle.refl _) .nil))))))) (Bx 5 Bm (default:Ac) (fA l14 i18 i19 l20)) (Eq.refl l5.length) c23_ (Ot 5 5702 Bm (default:Ac) l5 (fA l14 i18 i19 l20)) (G9 l5 (fA l14 i18 i19 l20))) (Ak q OG Yh (tN h)))))))))) λh=>tS h (gO (C3 (Cw RD Yh q))))) λx24 h=>(match x24,h with|⟨i6,l7⟩,h=>gA (tB h λx26 y26 h=>tT q [5,6,8,13] [13] [(j9 x26)] (c1 (DO y26)) (tC h λc27_ h=>tC h λc28_ h=>tC h λc29_ h=>tU q [13,102] [13] (V4 (pq x26) (ci c27_ (tE (pq x26) (ci (FM ((x26.Blocks.length:Int)!=1)) (V4 ((e8 x26 aI a1)==false) (ci c28_ (lL ((e8 x26 aI a1)==false) (ci (FM (e8 x26 aI a1)) (V4 (pt x26 aI a1) (ci c29_ (pH (pt x26 aI a1) (c1 (FM (bif (e8 x26 aI a1) then true else(po x26))))))))))))))) (gC h (λh=>Ak q [4] [] (tS h (Dm []))) λh=>Ak q [13,14] [13] (tL q h [13,14] [13] (λu i30=>(Ek u [(14,(Z5 i30))] [])) (λu x_=>match x_ with|(.inl _)=>aG Γ (.exit 4) (⟨[],[],[]⟩:St)|(.inr r_)=>aR (Pt Γ aI a1 r_)) (λi30 y h=>tV q [13,14,110] [13] h λh=>gC h (λh=>tC h λc32_ h=>tC h λc33_ h=>tU q [13,14,124] [13] (c2 c32_ c33_) (gC h (λh=>Ak q [4] [] (tS h (gO (O8 (J1 [] (Le.refl _ _)))))) λh=>Ak q [13,14] [13] (tN h))) λh=>tS h (gO (C3 (Cw [] [] q)))) λx34 h=>(match x34,h with | .inl _,h=>gA (Ak q [4] [] (tS h (Dm []))) | .inr r36,h=>Uq (λst' hk=>tS h (gK hk))))))))))))))))
theorem Ed{n:Int}(h:-9223372036854775808<=n)(h':n<9223372036854775808):Ay n=n:=by
 show IntKind.i64.wrap n=n
 simp only[IntKind.wrap,IntKind.bits,IntKind.signed]
 simp
 split<;>omega
theorem QU{n:Int}(h:0<=n)(h':n<18446744073709551616):Ki n=n:=by
 show IntKind.u64.wrap n=n
 simp[IntKind.wrap,IntKind.bits,IntKind.signed];omega
theorem jS(n:Int):Ki n=n % 18446744073709551616:=by
 show IntKind.u64.wrap n=_
 simp[IntKind.wrap,IntKind.bits,IntKind.signed]
theorem Ad{R:Type}{p:Prop}[Decidable p]{k:Option R}(h:p):Bh p k=k:=if_pos h
theorem DV{S X:Type}(f:S->Option (LR S X))(s:S):Nj (f s) f=Af f s:=by
 unfold Nj
 cases h:f s with
 | none=>rw[Option.bind_none,Sr h]
 | some y=>cases y with
  | next s'=>rw[An h];rfl
  | done x=>rw[Am h];rfl
theorem gq{x:Int}(j:Nat):x.fdiv (2 ^ j)=x / 2 ^ j:=by rw[Int.fdiv_eq_ediv_of_nonneg _ (by exact Int.le_of_lt (Int.pow_pos (by decide)))]
theorem Aa{α:Type}(l:List α)(i:Nat)(d:α)(h:i<l.length):l.getD i d=l[i]:=by simp[List.getD,h]
theorem kinds(k:Int):k=0\/k=1\/k=2\/k=3\/k=4\/k=5\/k=6\/k=7\/k=8\/k=9\/k=10\/k=11\/k=12\/k=13\/k=14\/k=15\/k=16\/k=17\/k=18\/k=19\/k=20\/k=21\/k=22\/(k<0\/22<k):=by omega
theorem YM{k:Int}(h:k<0\/22<k):(k==0)=false/\(k==1)=false/\(k==2)=false/\(k==3)=false/\(k==4)=false/\(k==5)=false/\(k==6)=false/\(k==7)=false/\(k==8)=false/\(k==9)=false/\(k==10)=false/\(k==11)=false/\(k==12)=false /\
  (k==13)=false/\(k==14)=false/\(k==15)=false/\(k==16)=false/\(k==17)=false/\(k==18)=false/\(k==19)=false/\(k==20)=false/\(k==21)=false/\(k==22)=false:=by
 simp only[zzL28];omega
def Fo(b:Int):Bool:=b==1 || b==8 || b==16 || b==32 || b==64
def X0(b n:Int):Bool:=Fo b&&(n==1 || ((n==2 || n==4 || n==8 || n==16)&&decide (8<=b)&&decide (b*n<=128)))
theorem width_cases{b:Int}(h:Fo b=true):b=1\/b=8\/b=16\/b=32\/b=64:=by simp[Fo]at h;omega
theorem DW{b n:Int}(h:X0 b n=true):Fo b=true:=by simp[X0]at h;exact h.1
theorem Qm{b n:Int}(h:X0 b n=true):n=1\/n=2\/n=4\/n=8\/n=16:=by simp[X0]at h;omega
theorem Rz(b:Int):Hv b=some (Fo b):=by
 unfold Hv Fo
 by_cases h1:b=1
 ·subst h1;rfl
 by_cases h2:b=8
 ·subst h2;rfl
 by_cases h3:b=16
 ·subst h3;rfl
 by_cases h4:b=32
 ·subst h4;rfl
 by_cases h5:b=64
 ·subst h5;rfl
 have e1:(b==1)=false:=by simpa using h1
 have e2:(b==8)=false:=by simpa using h2
 have e3:(b==16)=false:=by simpa using h3
 have e4:(b==32)=false:=by simpa using h4
 have e5:(b==64)=false:=by simpa using h5
 simp[e1,e2,e3,e4,e5]
theorem XW(b n:Int):Oy b n=some (X0 b n):=by
 unfold Oy;simp only[Rz,Ax]
 by_cases hn:n=1\/n=2\/n=4\/n=8\/n=16
 ·cases hw:Fo b with
  | false=>rcases hn with rfl|rfl|rfl|rfl|rfl<;>simp[X0,hw]
  | true=>
   rcases width_cases hw with rfl|rfl|rfl|rfl|rfl<;>rcases hn with rfl|rfl|rfl|rfl|rfl<;>rfl
 ·have e1:(n==1)=false:=by simp;omega
  have e2:(n==2)=false:=by simp;omega
  have e3:(n==4)=false:=by simp;omega
  have e4:(n==8)=false:=by simp;omega
  have e5:(n==16)=false:=by simp;omega
  simp[X0,e1,e2,e3,e4,e5]
theorem jR{v b:Int}(hv:0<=v/\v<18446744073709551616)(hb:Fo b=true):Sw v b=some (v % 2 ^ b.toNat):=by
 unfold Sw;simp only[Rz,hb,Ax,Hz,A8]
 have key:∀ j:Nat,j<64->Rw .u64 (iz .u64 v (j:Int)) (j:Int)=(v*2 ^ j % 18446744073709551616) / 2 ^ j:=λj hj=>by
  simp only[Rw,iz,Do,IntKind.bits];rw[Nat.min_eq_left (by omega),gq,show IntKind.u64.wrap (v*2 ^ j)=v*2 ^ j % 18446744073709551616 from jS _]
 rcases width_cases hb with rfl|rfl|rfl|rfl|rfl
 ·have:=key 63 (by decide);simp only[show Ay (64-1)=((63:Nat):Int) from rfl,this];rw[Ad (by decide),Ad (by decide)];congr 1;simp only[show((1:Int).toNat)=1 from rfl];omega
 ·have:=key 56 (by decide);simp only[show Ay (64-8)=((56:Nat):Int) from rfl,this];rw[Ad (by decide),Ad (by decide)];congr 1;simp only[show((8:Int).toNat)=8 from rfl];omega
 ·have:=key 48 (by decide);simp only[show Ay (64-16)=((48:Nat):Int) from rfl,this];rw[Ad (by decide),Ad (by decide)];congr 1;simp only[show((16:Int).toNat)=16 from rfl];omega
 ·have:=key 32 (by decide);simp only[show Ay (64-32)=((32:Nat):Int) from rfl,this];rw[Ad (by decide),Ad (by decide)];congr 1;simp only[show((32:Int).toNat)=32 from rfl];omega
 ·have:=key 0 (by decide);simp only[show Ay (64-64)=((0:Nat):Int) from rfl,this];rw[Ad (by decide),Ad (by decide)];congr 1;simp only[show((64:Int).toNat)=64 from rfl];omega
theorem PL{i:Int}(h:0<=i/\i<18446744073709551616):Jr i=some (Fo i):=by
 unfold Jr
 by_cases hi:i<=64
 ·have:Ay i=i:=Ed (by omega) (by omega);simp[hi,this,Rz]
 ·have:Fo i=false:=by simp[Fo];omega
  simp[hi,this]
def dL(k:Int):Bool:=decide (0<=k)&&decide (k<=22)
def Te(k n:Int):Int:=
 bif k==0 then 0 else bif k==13 || k==18 || k==19 then 3 else bif k==14 || k==15 || k==16 || k==22 then 1 else bif k==20 then 4 else bif k==21 then n else 2
def Xb(k b n:Int):Bool:=
 bif k==16 || k==17 then decide (8<=b) else bif k==18 || k==19 then decide (8<=b)&&n==1 else
 bif k==4 || k==10 || k==11 || k==12 || k==14 || k==15 || k==20 then n==1 else bif k==21 || k==22 then decide (1<n) else true
def ifitS(k b n i:Int):Bool:=
 bif k==0 then i % 2 ^ b.toNat==i else bif k==14 then Fo i&&decide (i<b) else bif k==15 then Fo i&&decide (b<i) else bif k==22 then decide (i<n) else i==0
def Iy(v:Int):Bool:=decide (1<=v)&&decide (v<=1023)
def dstS(k d:Int):Bool:=bif k==17 || k==19 then d==0 else Iy d
def Fp(o:Bz):Bool:=X0 o.Bits o.Lanes&&(dL o.Kind&&Xb o.Kind o.Bits o.Lanes&&ifitS o.Kind o.Bits o.Lanes o.Imm&&((o.Args.length:Int)==Te o.Kind o.Lanes))&&(o.Args.all Iy&&dstS o.Kind o.Dst)
def gj(o:Bz)(i:Nat):Int×Int:=
 bif o.Kind==13 || o.Kind==20 then(bif Nat.beq i 0 then(1,1) else(o.Bits,o.Lanes)) else bif o.Kind==14 || o.Kind==15 then(Ay o.Imm,1) else
 bif o.Kind==16 || o.Kind==17 then(bif Nat.beq i 0 then(64,1) else(o.Bits,o.Lanes)) else
 bif o.Kind==18 || o.Kind==19 then(bif Nat.beq i 1 then(64,1) else bif Nat.beq i 0 then(1,1) else(o.Bits,o.Lanes)) else bif o.Kind==21 then(o.Bits,1) else(o.Bits,o.Lanes)
def Po(o:Bz):List (Int×Int):=(List.range (Te o.Kind o.Lanes).toNat).map (gj o)
def Ur(k b n:Int):Int×Int:=bif k==17 || k==19 then(0,0) else bif k==10 || k==11 || k==12 then(1,1) else bif k==22 then(b,1) else(b,n)
def bt(k:Int):Bool:=dL k&&!(k==4 || k==16 || k==17 || k==18 || k==19 || k==20)
theorem lP{k:Int}(h:k<0\/22<k):dL k=false:=by simp[dL];omega
theorem DD(k:Int):Kp k=some (dL k):=by unfold Kp dL;cases decide ((0:Int)<=k)<;>rfl
theorem Sp(v:Int):Jq v=some (Iy v):=by unfold Jq Iy;cases decide ((1:Int)<=v)<;>rfl
theorem HD(o:Bz):J4 o=some (Xb o.Kind o.Bits o.Lanes):=by
 obtain⟨k,b,n,d,args,i⟩:=o;rcases kinds k with rfl|rfl|rfl|rfl|rfl|rfl|rfl|rfl|rfl|rfl|rfl|rfl|rfl|rfl|rfl|rfl|rfl|rfl|rfl|rfl|rfl|rfl|rfl|h
 any_goals rfl
 ·show some (bif decide (8<=b) then n==1 else false)=some (decide (8<=b)&&n==1);cases decide (8<=b)<;>rfl
 ·show some (bif decide (8<=b) then n==1 else false)=some (decide (8<=b)&&n==1);cases decide (8<=b)<;>rfl
 ·unfold J4 Xb;simp[YM h]
theorem HB(o:Bz):Mn o=some (Ur o.Kind o.Bits o.Lanes):=by
 obtain⟨k,b,n,d,args,i⟩:=o;rcases kinds k with rfl|rfl|rfl|rfl|rfl|rfl|rfl|rfl|rfl|rfl|rfl|rfl|rfl|rfl|rfl|rfl|rfl|rfl|rfl|rfl|rfl|rfl|rfl|h
 any_goals rfl
 unfold Mn Ur;simp[YM h]
theorem PK(o:Bz)(hw:Fo o.Bits=true)(hn:0<=o.Lanes/\o.Lanes<=16)(hi:0<=o.Imm/\o.Imm<18446744073709551616):Mo o=some (ifitS o.Kind o.Bits o.Lanes o.Imm):=by
 unfold Mo ifitS
 have hb:Ki o.Bits=o.Bits:=by apply QU<;>(rcases width_cases hw with h|h|h|h|h<;>omega)
 have hl:Ki o.Lanes=o.Lanes:=by apply QU<;>omega
 rw[jR hi hw,PL hi,hb,hl]
 cases(o.Kind==0)<;>cases(o.Kind==14)<;>cases(o.Kind==15)<;>cases(o.Kind==22)<;>cases Fo o.Imm<;>rfl
set_option maxHeartbeats 2000000 in
theorem dM(k:Int):Qb k=some (bt k):=by
 rcases kinds k with rfl|rfl|rfl|rfl|rfl|rfl|rfl|rfl|rfl|rfl|rfl|rfl|rfl|rfl|rfl|rfl|rfl|rfl|rfl|rfl|rfl|rfl|rfl|h
 any_goals rfl
 unfold Qb bt;simp[YM h,DD]
theorem Uv{α X:Type}(l:List α)(d:α)(p:α->Bool)(f:Int->Option (LR Int X))(yes no:X)(hn:∀ i:Nat,i<l.length->p (l.getD i d)=true->f i=some (.next ((i:Int)+1)))
  (hf:∀ i:Nat,i<l.length->p (l.getD i d)=false->f i=some (.done no)) (he:f l.length=some (.done yes)):∀(k i:Nat),i+k=l.length->Af f i=some (bif (l.drop i).all p then yes else no)
 | 0,i,h=>by
  obtain rfl:i=l.length:=by omega
  rw[Am he]
  simp
 | k+1,i,h=>by
  have hi:i<l.length:=by omega
  have hd:l.drop i=l.getD i d::l.drop (i+1):=by simp_all
  cases hp:p _ with
  | true=>
   rw[An (hn i hi hp)];have:=Uv l d p f yes no hn hf he k (i+1) (by omega);rw[show((i:Int)+1)=(i+1:Nat) by omega,this,hd,Xm,hp,Kw]
  | false=>
   rw[Am (hf i hi hp),hd,Xm,hp,JP,A8]
theorem Zb{α:Type}(l:List α)(d:α)(wt:α->Nat)(C:Nat)(f:Int×Int->Option (LR (Int×Int) Int))
  (hn:∀(n i:Nat),i<l.length->n<=C->∃ m:Nat,f ((n:Int),(i:Int))=some (.next ((m:Int),((i+1:Nat):Int)))/\(n+wt (l.getD i d)<=C->m=n+wt (l.getD i d))/\(m<=C->n+wt (l.getD i d)<=C))
  (hd:∀(n i:Nat),i<=l.length->(i=l.length\/C<n)->f ((n:Int),(i:Int))=some (.done (n:Int))) :
  ∀(k i n:Nat),i+k=l.length->∃ m:Nat,Af f ((n:Int),(i:Int))=some (m:Int)/\(n+((l.drop i).map wt).sum<=C->m=n+((l.drop i).map wt).sum)/\(m<=C->n+((l.drop i).map wt).sum<=C)
 | 0,i,n,h=>by
  obtain rfl:i=l.length:=by omega
  refine⟨n,Am (hd n _ (zzL5 _) (.inl rfl)),?_,?_⟩
  ·simp
  ·simp
 | k+1,i,n,h=>by
  have hi:i<l.length:=by omega
  have hdr:l.drop i=l.getD i d::l.drop (i+1):=by rw[JJ hi,Aa _ _ _ hi]
  by_cases hC:n<=C
  ·obtain⟨m,h1,h2,h3⟩:=hn n i hi hC;obtain⟨m',h4,h5,h6⟩:=Zb l d wt C f hn hd k (i+1) m (by omega);refine⟨m',by rw[An h1];exact h4,λhle=>?_,λhle=>?_⟩
   ·rw[hdr,B4,JR]at hle ⊢;have:=h2 (by omega);subst this;rw[h5 (by omega)];omega
   ·rw[hdr,B4,JR];have h7:=h6 hle;have h8:=h3 (by omega);have:=h2 h8;omega
  ·refine⟨n,Am (hd n i (by omega) (.inr (by omega))),λhle=>by omega,λhle=>by omega⟩
theorem Ss{X:Type}(N:Nat)(f:Int×Int->Option (LR (Int×Int) X))(hn:∀(n:Int) (i:Nat),i<N->(∃ m:Int,f (n,(i:Int))=some (.next (m,((i+1:Nat):Int))))\/∃ x,f (n,(i:Int))=some (.done x))(hd:∀ n:Int,∃ x,f (n,(N:Int))=some (.done x)) :
  ∀(k i:Nat) (n:Int),i+k=N->∃ x,Af f (n,(i:Int))=some x
 | 0,i,n,h=>by
  obtain rfl:i=N:=by omega
  obtain⟨x,hx⟩:=hd n;exact⟨x,Am hx⟩
 | k+1,i,n,h=>by
  rcases hn n i (by omega) with⟨m,hm⟩|⟨x,hx⟩
  ·obtain⟨x,hx⟩:=Ss N f hn hd k (i+1) m (by omega);exact⟨x,by rw[An hm];exact hx⟩
  ·exact⟨x,Am hx⟩
theorem MS{α X:Type}(l:List α)(d:α)(wt:α->Nat)(out:Int->X)(f:Int×Int->Option (LR (Int×Int) X))
  (hn:∀(n i:Nat),i<l.length->f (Ay n,(i:Int))=some (.next (Ay ((n+wt (l.getD i d):Nat):Int),((i+1:Nat):Int)))) (hd:∀ n:Int,f (n,(l.length:Int))=some (.done (out n))) :
  ∀(k i n:Nat),i+k=l.length->Af f (Ay n,(i:Int))=some (out (Ay ((n+((l.drop i).map wt).sum:Nat):Int)))
 | 0,i,n,h=>by
  obtain rfl:i=l.length:=by omega
  rw[Am (hd _)]
  simp
 | k+1,i,n,h=>by
  have hi:i<l.length:=by omega
  have hdr:l.drop i=l.getD i d::l.drop (i+1):=by simp_all
  rw[An (hn n i hi),MS l d wt out f hn hd k _ _ (by omega),hdr,B4,JR,Tt]
theorem cF(a b:Int):Ay (Ay a+b)=Ay (a+b):=by
 simp only[IntKind.wrap,IntKind.bits,IntKind.signed]
 simp
 split<;>split<;>omega
theorem Ag{α:Type}{l:List α}{i:Nat}{d:α}(h:i<l.length):l.getD i d∈l:=by grind
theorem Ar{i n:Nat}(h:i<n):Bl (i:Int) n:=⟨by omega,by exact_mod_cast h⟩
theorem Fa{i n:Nat}(h:i<n)(hn:n<9223372036854775808):Ay ((i:Int)+1)=(i:Int)+1:=Ed (by omega) (by omega)
def g5(l:List Int):Prop:=∀ x∈l,0<=x/\x<=2147483647
theorem Ko{S X:Type}(f:S->Option (LR S X))(T:Nat->S)(x:X):∀(n:Nat),(∀ i,i<n->f (T i)=some (.next (T (i+1))))->f (T n)=some (.done x)->Af f (T 0)=some x:=by
 suffices h:∀(k i n:Nat),i+k=n->(∀ j,i<=j->j<n->f (T j)=some (.next (T (j+1))))->f (T n)=some _->Af f (T i)=some x from
  λn h1 h2=>h n 0 n (by omega) (λj _ hj=>h1 j hj) h2
 intro k
 induction k with
 | zero=>
  intro i n hi _ h2
  have hin:n=i:=by omega
  subst hin;exact Am h2
 | succ k ih=>intro i n hi h1 h2;rw[An (h1 i (zzL5 _) (by omega))];exact ih _ n (by omega) (λj hj hj'=>h1 j (by omega) hj') h2
theorem KU{S X:Type}(f:S->Option (LR S X))(T:Nat->S):∀(n:Nat),(∀ i,i<n->f (T i)=some (.next (T (i+1))))->Af f (T 0)=Af f (T n):=by
 intro n
 induction n with
 | zero=>intro _;rfl
 | succ n ih=>intro h;rw[ih (λi hi=>h i (by omega)),An (h n (by omega))]
theorem O5{S X:Type}(f:S->Option (LR S X))(T:Nat->S)(p:Nat->Bool)(yes no:X)(n:Nat)(hn:∀ i,i<n->p i=true->f (T i)=some (.next (T (i+1))))(hf:∀ i,i<n->p i=false->f (T i)=some (.done no))
  (he:f (T n)=some (.done yes)):Af f (T 0)=some (bif (List.range n).all p then yes else no):=by
 cases hall:(List.range n).all p with
 | true=>
  exact Ko f T yes n (λi hi=>hn i hi (zzL23.1 hall i (zzL30.2 hi))) he
 | false=>
  have hex:∃ i,i<n/\p i=false:=by
   grind
  obtain⟨m,hm⟩:=hex
  have key:∀ m,m<n->p m=false->∃ k,k<n/\p k=false/\∀ j,j<k->p j=true:=by
   intro m
   induction m using Nat.strongRecOn with
   | ind m ih=>
    intro h1 h2
    by_cases h:∃ j,j<m/\p j=false
    ·obtain⟨j,hj,hpj⟩:=h;exact ih j hj (by omega) hpj
    ·grind
  obtain⟨k,hk,hpk,hlt⟩:=key m hm.1 hm.2;rw[KU f T k (λi hi=>hn i (by omega) (hlt i hi))];exact Am (hf k hk hpk)
theorem all_range{n:Nat}{p:Nat->Bool}:(List.range n).all p=true↔∀ i,i<n->p i=true:=by
 grind
theorem Ao(i:Nat):((i:Int)).toNat=i:=Do i
theorem w1{i:Nat}(h:i<4611686018427387904):Ay ((i:Int)+1)=((i+1:Nat):Int):=by rw[Ed (by omega) (by omega)];omega
theorem Dd{i n:Nat}(h:i<n):decide (((i:Nat):Int)<((n:Nat):Int))=true:=by simpa using h
theorem Fm{n:Nat}:decide (((n:Nat):Int)<((n:Nat):Int))=false:=by simp
theorem L7{i n:Nat}(h:i<n):Bl ((i:Nat):Int) n:=Ar h
theorem qU{x:Int}{n:Nat}(h0:0<=x)(h1:x<n):Bl x n:=⟨h0,h1⟩
structure eT(o:Bz):Prop where
 imm:0<=o.Imm/\o.Imm<18446744073709551616
 args:o.Args.length<=200
theorem YW(x:Int×Int)(n:Int)(h:n=2\/n=4\/n=8\/n=16):Bv [x] n=some (List.replicate n.toNat x):=by
 let d:Int×Int:=(0,0)
 rcases h with rfl|rfl|rfl|rfl
 ·have e:Bv [x] 2=(Af Ck (1,[x,d])).bind some:=by kernel_rfl
  rw[e,An (s':=(2,[x,x])) (by kernel_rfl)]
  rfl
 ·have e:Bv [x] 4=(Af Ck (1,[x,d,d,d])).bind some:=by kernel_rfl
  rw[e,An (s':=(2,[x,x,d,d])) (by kernel_rfl),An (s':=(4,[x,x,x,x])) (by kernel_rfl)]
  rfl
 ·have e:Bv [x] 8=(Af Ck (1,[x,d,d,d,d,d,d,d])).bind some:=by kernel_rfl
  rw[e,An (s':=(2,[x,x,d,d,d,d,d,d])) (by kernel_rfl),An (s':=(4,[x,x,x,x,d,d,d,d])) (by kernel_rfl),An (s':=(8,[x,x,x,x,x,x,x,x])) (by kernel_rfl)]
  rfl
 ·have e:Bv [x] 16=(Af Ck (1,[x,d,d,d,d,d,d,d,d,d,d,d,d,d,d,d])).bind some:=by kernel_rfl
  rw[e,An (s':=(2,[x,x,d,d,d,d,d,d,d,d,d,d,d,d,d,d])) (by kernel_rfl),An (s':=(4,[x,x,x,x,d,d,d,d,d,d,d,d,d,d,d,d])) (by kernel_rfl),
   An (s':=(8,[x,x,x,x,x,x,x,x,d,d,d,d,d,d,d,d])) (by kernel_rfl),An (s':=(16,List.replicate 16 x)) (by kernel_rfl)]
  rfl
theorem iD(l:List (Int×Int)):F2 l=some l:=rfl
theorem HE(o:Bz)(hs:X0 o.Bits o.Lanes=true)(hk:dL o.Kind=true)(hf:Xb o.Kind o.Bits o.Lanes=true):Mp o=some (Po o):=by
 have hl:=Qm hs;obtain⟨k,b,n,d,args,i⟩:=o;simp only at hs hk hf hl ⊢;rcases kinds k with rfl|rfl|rfl|rfl|rfl|rfl|rfl|rfl|rfl|rfl|rfl|rfl|rfl|rfl|rfl|rfl|rfl|rfl|rfl|rfl|rfl|rfl|rfl|h
 case inr.inr.inr.inr.inr.inr.inr.inr.inr.inr.inr.inr.inr.inr.inr.inr.inr.inr.inr.inr.inr.inl=>
  have h1:n≠1:=by rintro rfl;simp[Xb]at hf
  have h4:n=2\/n=4\/n=8\/n=16:=by omega
  unfold Mp;simp only[YW _ _ h4,iD];rcases h4 with rfl|rfl|rfl|rfl<;>rfl
 all_goals first
  | rfl
  | (rw[lP h]at hk;cases hk)
  | (rcases hl with rfl|rfl|rfl|rfl|rfl<;>first|rfl|(simp[Xb]at hf))
theorem PI(o:Bz)(hs:X0 o.Bits o.Lanes=true)(hk:dL o.Kind=true)(hf:Xb o.Kind o.Bits o.Lanes=true)(hl:o.Args.length<=200):Ml o=some (((o.Args.length:Int)==Te o.Kind o.Lanes)&&o.Args.all Iy):=by
 unfold Ml;rw[HE o hs hk hf]
 have hn:0<=Te o.Kind o.Lanes:=by
  have:=Qm hs;unfold Te
  cases(o.Kind==0)<;>cases(o.Kind==13 || o.Kind==18 || o.Kind==19)<;>cases(o.Kind==14 || o.Kind==15 || o.Kind==16 || o.Kind==22)<;>cases(o.Kind==20)<;>cases(o.Kind==21)<;>simp<;>omega
 have hlen:(Po o).length=Te o.Kind o.Lanes:=by simp[Po];omega
 simp only[Ax,hlen]
 by_cases he:o.Args.length=Te o.Kind o.Lanes
 ·have e1:(o.Args.length==Te o.Kind o.Lanes)=true:=by simpa using he
  have e2:(o.Args.length !=Te o.Kind o.Lanes)=false:=by simpa using he
  rw[e1,e2]
  have hloop:=Uv o.Args 0 Iy (Hg o) (.inl ()) (.inr false) (λi hi hp=>by
    unfold Hg
    have:decide (i<(o.Args.length:Int))=true:=by simpa using hi
    simp only[this,Ai,Ad (Ar hi),Do,Sp,Ax,hp,Hz,A8,Fa hi (by omega)]) (λi hi hp=>by
    unfold Hg
    have:decide (i<(o.Args.length:Int))=true:=by simpa using hi
    simp only[this,Ai,Ad (Ar hi),Do,Sp,Ax,hp,Lx]) (by
    unfold Hg
    simp) o.Args.length 0 (by omega)
  rw[show 0=((0:Nat):Int) from rfl,hloop,AC]
  cases o.Args.all Iy<;>rfl
 ·grind
theorem XN{k b n:Int}(hs:X0 b n=true):((Ur k b n).1==0)=(k==17 || k==19):=by
 have hb:(b==0)=false:=by
  have:=width_cases (DW hs);simp;omega
 unfold Ur
 cases(k==17 || k==19)<;>cases(k==10 || k==11 || k==12)<;>cases(k==22)<;>simp_all
theorem PJ(o:Bz)(hs:X0 o.Bits o.Lanes=true):Mm o=some (dstS o.Kind o.Dst):=by
 unfold Mm;simp only[HB,Ax,XN hs,Sp,dstS]
 cases(o.Kind==17 || o.Kind==19)<;>rfl
theorem HA(o:Bz)(ho:eT o):Nb o=some (Fp o):=by
 unfold Nb Fp;simp only[DD,XW,HD]
 cases hs:X0 _ _ with
 | false=>cases dL _<;>rfl
 | true=>
  have hl:=Qm hs
  cases hk:dL _ with
  | false=>rfl
  | true=>
   rw[PK o (DW hs) (by omega) ho.imm];simp only[PJ o hs]
   cases hf:Xb _ _ _ with
   | false=>rfl
   | true=>
    rw[PI o hs hk hf ho.args]
    generalize ifitS _ _ _ _=p
    generalize (o.Args.length==Te _ _)=q
    generalize o.Args.all _=r
    generalize dstS _ _=s
    cases p<;>cases q<;>cases r<;>cases s<;>rfl
theorem FN{o:Bz}(h:Fp o=true):X0 o.Bits o.Lanes=true/\dL o.Kind=true/\Xb o.Kind o.Bits o.Lanes=true/\ifitS o.Kind o.Bits o.Lanes o.Imm=true/\(o.Args.length:Int)=Te o.Kind o.Lanes/\o.Args.all Iy=true/\dstS o.Kind o.Dst=true:=by
 simp only[Fp,Az,zzL62]at h;exact⟨h.1.1,h.1.2.1.1.1,h.1.2.1.1.2,h.1.2.1.2,h.1.2.2,h.2.1,h.2.2⟩
theorem XX(o:Bz)(ho:eT o):Mk o=some (bif Fp o then Po o else[]):=by
 unfold Mk;rw[HA o ho]
 cases hm:Fp o with
 | false=>rfl
 | true=>
  obtain⟨h1,h2,h3,_⟩:=FN hm;simp only[HE o h1 h2 h3]
  rfl
theorem XV(o:Bz)(ho:eT o):Mj o=some (bif Fp o then Ur o.Kind o.Bits o.Lanes else(0,0)):=by
 unfold Mj;rw[HA o ho];simp only[ HB]
 cases Fp o<;>rfl
theorem wf_u8{n:Int}(h:(Lit.int .u8 n).wf=true):0<=n/\n<256:=by simp[Lit.wf,IntKind.min,IntKind.max,IntKind.bits,IntKind.signed]at h;omega
abbrev Iall(w:World):Nat->Nat->Prop:=λb o=>∃ u,w.cell? ⟨b,o,none⟩=some u
structure nL(w:World)(cs:List Value)(avs:List AV):Prop where
 len:cs.length=avs.length
 one:∀ j,j<avs.length->(cs.getD j undef).oneCell'=true
 rep:∀ j,j<avs.length->RepV (Iall w) w (cs.getD j undef) (avs.getD j .any)
structure Opens(P:Program)(t:TypeId){α:Type}(e:α->List AV)(ok:α->Prop):Prop where
 get:∀{H:Type} {enc:TypeId×Value->H} {w:World} {base:Nat} {spare:Nat->Bool} {held:Bool} {fuel:Nat} {cs:List Value} {x:DataW H×List MemPlace},
  DataW.trod enc P w base spare held fuel t cs=some x->∃ a,ok a/\nL w cs (e a)
theorem gZ{w:World}{v:Value}{x:AV}(h1:v.oneCell'=true)(h:RepV (Iall w) w v x):nL w [v] [x]:=
 ⟨rfl,λj hj=>(by
   grind),λj hj=>(by
   grind)⟩
theorem dj{P:Program}{t:TypeId}{k:IntKind}{e:Int->List AV}(ht:P.underlying t=some (.int k))(he:∀ n,e n=[.int k n]):Opens P t e (λn=>(Lit.int k n).wf=true):=by
 refine⟨?_⟩;intro H enc w base spare held fuel cs x h;obtain⟨n,rfl,rfl,hw⟩:=DataW.trod_int ht h;exact⟨n,hw,by rw[he];exact gZ rfl (.int _ _)⟩
structure rg(P:Program)(fs:List Field)(off N:Nat){α:Type}(e:α->List AV)(ok:α->Prop):Prop where
 get:∀{H:Type} {enc:TypeId×Value->H} {w:World} {base:Nat} {spare:Nat->Bool} {held:Bool} {n:Nat} {cs:List Value},cs.length=N->
  (∀ f∈fs,∃ x,DataW.trod enc P w base spare held n f.type ((cs.drop f.offset).take (P.cellsOf f.type))=some x)->∃ a,ok a/\nL w (cs.drop off) (e a)
theorem Opens.to{P:Program}{t:TypeId}{α β:Type}{e:α->List AV}{ok:α->Prop}(h:Opens P t e ok){e':β->List AV}{ok':β->Prop}(g:α->β)(he:∀ a,e' (g a)=e a)(hok:∀ a,ok a->ok' (g a)):Opens P t e' ok':=by
 refine⟨?_⟩;intro H enc w base spare held fuel cs x hx;obtain⟨a,ha,hr⟩:=h.get hx;exact⟨g a,hok a ha,by rw[he];exact hr⟩
theorem arg_one{P:Program}{t:TypeId}{α:Type}{e:α->List AV}{ok:α->Prop}(h:Opens P t e ok){x:α->AV}(he:∀ a,e a=[x a]){H:Type}{enc:TypeId×Value->H}{w:World}{base:Nat}{spare:Nat->Bool}{held:Bool}{v:Value}{d:DataW H}{ps:List MemPlace}
  (hv:v.cells = #[v]) (hd:DataW.Trod enc P w base spare held t v d ps):∃ a,ok a/\RepV (Iall w) w v (x a):=by
 obtain⟨fuel,hf⟩:=hd;obtain⟨a,ha,hr⟩:=h.get hf;refine⟨a,ha,?_⟩;have:=hr.rep 0 (by simp[he])
 simpa [hv,he] using this
def okU8(n:Int):Prop:=(Lit.int .u8 n).wf=true
theorem op_5:Opens Tryz.prog 5 tQ okU8:=dj Tryz.underlying5 (λ_=>rfl)
def numB(n:Int):Bool:=decide (0<=n)&&decide (n<=2147483647)
def Lo(l:List Int):Bool:=l.all numB&&decide (l.length<=64)
def IG(p:A4):Bool:=numB p.Bits&&numB p.Dst&&Lo p.From&&Lo p.Args
def dh(o:Bz):Bool:=numB o.Kind&&numB o.Bits&&numB o.Lanes&&numB o.Dst&&Lo o.Args
def PF(e:F4):Bool:=numB e.Kind&&numB e.Arg&&Lo e.To
def blockB(b:Ac):Bool:=b.Phis.all IG&&b.Ops.all dh&&PF b.End
def Dt(b:Ac):Nat:=b.Phis.length+b.Ops.length+1
def sizeN(f:Ab):Nat:=(f.Blocks.map Dt).sum
def sizeW(f:Ab):Int:=Ay (sizeN f)
def Rj(f:Ab):Bool:=decide (1<=f.Blocks.length)&&decide (f.Blocks.length<=64)&&decide (f.Params.length<=16)&&Lo f.Params&&numB f.Ret&&decide (sizeW f<=512)&&f.Blocks.all blockB
def SO(p:A4):Nat:=1+p.From.length+p.Args.length
def SN(o:Bz):Nat:=1+o.Args.length
def KP(b:Ac):Nat:=1+b.End.To.length+(b.Phis.map SO).sum+(b.Ops.map SN).sum
def XK(f:Ab):Nat:=f.Params.length+(f.Blocks.map KP).sum
theorem O6:maxLen=9223372036854775807:=rfl
structure eS(f:Ab):Prop where
 params:f.Params.length<=maxLen
 blocks:f.Blocks.length<=maxLen
 block:∀ b∈f.Blocks,b.Phis.length<=maxLen/\b.Ops.length<=maxLen/\b.End.To.length<=maxLen
 phi:∀ b∈f.Blocks,∀ p∈b.Phis,p.From.length<=maxLen/\p.Args.length<=maxLen
 op:∀ b∈f.Blocks,∀ o∈b.Ops,o.Args.length<=maxLen/\0<=o.Imm/\o.Imm<18446744073709551616
theorem Qo{n:Nat}(h:n<9223372036854775808):Ay (n:Int)=n:=Ed (by omega) (by omega)
theorem Jy{i n:Nat}(h:i<n)(hn:n<=maxLen):Ay ((i:Int)+1)=((i+1:Nat):Int):=by rw[O6]at hn;rw[show((i:Int)+1)=(i+1:Nat) by omega,Qo (by omega)]
theorem ZC(f:Ab)(hf:eS f):∃ b,D2 f=some b:=by
 have h3:∃ x,Af (Cd f) (f.Params.length,(0:Nat))=some x:=by
  refine Ss f.Blocks.length _ (λn i hi=>?_) (λn=>?_) _ 0 _ (E2 _)
  ·have hmem:=Ag (d:=default) hi;obtain⟨b1,b2,_⟩:=hf.block _ hmem;have hI :=Ar hi;unfold Cd
   cases hc:(bif decide (i<(f.Blocks.length:Int)) then decide (n<=20000) else false) with
   | false=>right;simp only[hc];exact⟨_,rfl⟩
   | true=>
    left
    simp only[hc, Ad hI]
    obtain⟨x1,h1⟩:=Ss (f.Blocks.getD i default).Phis.length (Cb f i) (λn j hj=>by
      unfold Cb;simp only[Ad hI,Do]
      cases hc:(bif decide (j<((f.Blocks.getD i default).Phis.length:Int)) then decide (n<=20000) else false) with
      | false=>grind
      | true=>left;simp only[ Ad (Ar hj),Jy hj b1];exact⟨_,rfl⟩) (λn=>by
      unfold Cb;simp only[Ad hI,Do]
      have:decide ((f.Blocks.getD i default).Phis.length<((f.Blocks.getD i default).Phis.length:Int))=false:=by simp
      simp only[this];exact⟨_,rfl⟩) _ 0 (Ay (Ay (n+1)+(f.Blocks.getD i default).End.To.length)) (E2 _)
    obtain⟨x2,h2⟩:=Ss (f.Blocks.getD i default).Ops.length (Cc f i) (λn j hj=>by
      unfold Cc;simp only[Ad hI,Do]
      cases hc:(bif decide (j<((f.Blocks.getD i default).Ops.length:Int)) then decide (n<=20000) else false) with
      | false=>grind
      | true=>left;simp only[ Ad (Ar hj),Jy hj b2];exact⟨_,rfl⟩) (λn=>by
      unfold Cc;simp only[Ad hI,Do]
      have:decide ((f.Blocks.getD i default).Ops.length<((f.Blocks.getD i default).Ops.length:Int))=false:=by simp
      simp only[this];exact⟨_,rfl⟩) _ 0 x1 (E2 _)
    rw[show((0:Nat):Int)=0 from rfl]at h1 h2;simp only[Do,h1,h2,Ax,Jy hi hf.blocks];exact⟨_,rfl⟩
  ·unfold Cd
   have:decide ((f.Blocks.length:Int)<(f.Blocks.length:Int))=false:=by simp
   simp only[this];exact⟨_,rfl⟩
 obtain⟨x,hx⟩:=h3;unfold D2;rw[show((0:Nat):Int)=0 from rfl]at hx;rw[hx];exact⟨_,rfl⟩
theorem VA(f:Ab)(hf:eS f)(h0:f.Params.length<=64)(hb:∀ b∈f.Blocks,b.End.To.length<=64/\(∀ p∈b.Phis,p.From.length<=64/\p.Args.length<=64)/\∀ o∈b.Ops,o.Args.length<=64):D2 f=some (decide (XK f<=20000)):=by
 have h3:=Zb f.Blocks (default:Ac) KP 20000 (Cd f) (λn i hi hn=>by
   have hmem:=Ag (d:=(default:Ac)) hi;obtain⟨b1,b2,b3⟩:=hf.block _ hmem;obtain⟨hTo,hPh,hOp⟩:=hb _ hmem;have hI1:Bl (i:Int) f.Blocks.length:=Ar hi
   have l1:=Zb (f.Blocks.getD i default).Phis (default:A4) SO 20000 (Cb f i) (λn j hj hn=>by
     have hm:=Ag (d:=(default:A4)) hj;obtain⟨p1,p2⟩:=hPh _ hm
     have e1:decide ((j:Int)<((f.Blocks.getD i default).Phis.length:Int))=true:=by simpa using hj
     have e2:decide ((n:Int)<=20000)=true:=by simp;omega
     refine⟨n+SO ((f.Blocks.getD i default).Phis.getD j default),?_,λ_=>rfl,λh=>h⟩;unfold Cb;simp only[Ad hI1,Do,e1,e2,Ai,Ad (Ar hj),Jy hj b1]
     congr 3
     rw[Ed (n:=(n:Int)+1) (by omega) (by omega),Ed (n:=(n:Int)+1+_) (by omega) (by omega),Ed (by omega) (by omega)];simp only[SO]
     omega) (λn j hj hd=>by
     unfold Cb;simp only[Ad hI1,Do]
     have:(bif decide ((j:Int)<((f.Blocks.getD i default).Phis.length:Int)) then decide ((n:Int)<=20000) else false)=false:=by
      rcases hd with rfl|h
      ·simp
      ·simp;omega
     rw[this];rfl)
   have l2:=Zb (f.Blocks.getD i default).Ops (default:Bz) SN 20000 (Cc f i) (λn j hj hn=>by
     have hm:=Ag (d:=(default:Bz)) hj;have p1:=hOp _ hm
     have e1:decide ((j:Int)<((f.Blocks.getD i default).Ops.length:Int))=true:=by simpa using hj
     have e2:decide ((n:Int)<=20000)=true:=by simp;omega
     refine⟨n+SN ((f.Blocks.getD i default).Ops.getD j default),?_,λ_=>rfl,λh=>h⟩;unfold Cc;simp only[Ad hI1,Do,e1,e2,Ai,Ad (Ar hj),Jy hj b2]
     congr 3
     rw[Ed (n:=(n:Int)+1) (by omega) (by omega),Ed (by omega) (by omega)];simp only[SN]
     omega) (λn j hj hd=>by
     unfold Cc;simp only[Ad hI1,Do]
     have:(bif decide ((j:Int)<((f.Blocks.getD i default).Ops.length:Int)) then decide ((n:Int)<=20000) else false)=false:=by
      rcases hd with rfl|h
      ·simp
      ·simp;omega
     rw[this];rfl)
   have e1:decide ((i:Int)<(f.Blocks.length:Int))=true:=by simpa using hi
   have e2:decide ((n:Int)<=20000)=true:=by simp;omega
   obtain⟨m1,q1,q2,q3⟩:=l1 _ 0 (n+1+(f.Blocks.getD i default).End.To.length) (E2 _);obtain⟨m2,q4,q5,q6⟩:=l2 _ 0 m1 (E2 _);rw[AC]at q2 q3 q5 q6;refine⟨m2,?_,λhle=>?_,λhle=>?_⟩
   ·unfold Cd;simp only[e1,e2,Ai,Ad hI1,Do,Jy hi hf.blocks];rw[Ed (n:=(n:Int)+1) (by omega) (by omega),Ed (by omega) (by omega),show(n:Int)+1+((f.Blocks.getD i default).End.To.length:Int)=((n+1+(f.Blocks.getD i default).End.To.length:Nat):Int) by omega];rw[show((0:Nat):Int)=0 from rfl]at q1 q4;rw[q1,Ax,q4,Ax]
   ·simp only[KP]at hle ⊢;have:=q2 (by omega);rw[q5 (by omega)];omega
   ·simp only[KP];have h6:=q6 hle;have h3:=q3 (by omega);have:=q2 h3
    omega) (λn i hi hd=>by
   unfold Cd
   have:(bif decide ((i:Int)<(f.Blocks.length:Int)) then decide ((n:Int)<=20000) else false)=false:=by
    rcases hd with rfl|h
    ·simp
    ·simp;omega
   simp only[this,A8]) f.Blocks.length 0 f.Params.length (E2 _)
 obtain⟨m,h1,h2,h4⟩:=h3;rw[AC]at h2 h4;unfold D2;rw[show((0:Nat):Int)=0 from rfl]at h1;rw[h1,Ax]
 congr 1
 apply decide_eq_decide.2
 simp only[XK]
 constructor
 ·intro h;exact h4 (by omega)
 ·intro h;have:=h2 h;omega
theorem iR{n:Int}:numB n=true↔0<=n/\n<=2147483647:=by simp[numB]
theorem listB_iff{l:List Int}:Lo l=true↔g5 l/\l.length<=64:=by
 simp[Lo,g5,iR]
def qp(n:Int):Prop:=0<=n/\n<18446744073709551616
structure tH(b:Ac):Prop where
 may:blockB b=true
 phis:b.Phis.length<=512
 ops:b.Ops.length<=512
 imm:∀ o∈b.Ops,qp o.Imm
structure OkF(f:Ab):Prop where
 params:Lo f.Params=true
 few:f.Params.length<=16
 ret:numB f.Ret=true
 blocks:f.Blocks.length<=64
 block:∀ b∈f.Blocks,tH b
theorem blockB_iff{b:Ac}:blockB b=true↔(∀ p∈b.Phis,IG p=true)/\(∀ o∈b.Ops,dh o=true)/\PF b.End=true:=by
 simp[blockB,and_assoc]
theorem ZG{α:Type}(l:List α)(g:α->Nat)(B:Nat)(h:∀ a∈l,g a<=B):(l.map g).sum<=l.length*B:=by
 induction l with
 | nil=>simp
 | cons a l ih=>
  have h1:=h a (by simp);have h2:=ih (λb hb=>h b (by simp[hb]));rw[B4,JR,Xj,C6];omega
theorem jD{α:Type}(l:List α)(g k:α->Nat)(h:∀ a∈l,g a<=k a):(l.map g).sum<=(l.map k).sum:=by
 induction l with
 | nil=>simp
 | cons a l ih=>
  grind
theorem HH{α:Type}(l:List α)(g:α->Nat)(h:∀ a∈l,1<=g a):l.length<=(l.map g).sum:=by
 induction l with
 | nil=>simp
 | cons a l ih=>
  grind
theorem YC{α:Type}{l:List α}{a:α}(g:α->Nat)(h:a∈l):g a<=(l.map g).sum:=by
 induction l with
 | nil=>cases h
 | cons b l ih=>
  grind
theorem OkF.size{f:Ab}(h:OkF f):sizeN f<=65600/\sizeW f=sizeN f:=by
 have:sizeN f<=f.Blocks.length*1025:=ZG _ _ _ λb hb=>by
  have h1:=(h.block b hb).phis;have h2:=(h.block b hb).ops;simp only[Dt];omega
 have h2:=h.blocks
 have h3:sizeN f<=65600:=by omega
 exact⟨h3,Qo (by omega)⟩
theorem BG{f:Ab}(h:Rj f=true):1<=f.Blocks.length/\f.Blocks.length<=64/\f.Params.length<=16/\Lo f.Params=true/\numB f.Ret=true/\sizeW f<=512/\∀ b∈f.Blocks,blockB b=true:=by
 simp only[Rj,Az,El,zzL23]at h;exact⟨h.1.1.1.1.1.1,h.1.1.1.1.1.2,h.1.1.1.1.2,h.1.1.1.2,h.1.1.2,h.1.2,h.2⟩
theorem dX{f:Ab}(h:Rj f=true):f.Params.length<=64/\∀ b∈f.Blocks,b.End.To.length<=64/\(∀ p∈b.Phis,p.From.length<=64/\p.Args.length<=64)/\∀ o∈b.Ops,o.Args.length<=64:=by
 obtain⟨_,_,h3,_,_,_,h7⟩:=BG h;refine⟨by omega,λb hb=>?_⟩;obtain⟨q1,q2,q3⟩:=blockB_iff.1 (h7 b hb);simp only[PF,Az]at q3;refine⟨(listB_iff.1 q3.2).2,λp hp=>?_,λo ho=>?_⟩
 ·have:=q1 p hp;simp only[IG,Az]at this;exact⟨(listB_iff.1 this.1.2).2,(listB_iff.1 this.2).2⟩
 ·have:=q2 o ho;simp only[dh,Az]at this;exact(listB_iff.1 this.2).2
theorem oU{f:Ab}(hf:eS f)(h:Rj f=true)(hs:XK f<=20000):OkF f/\sizeN f<=512:=by
 obtain⟨h1,h2,h3,h4,h5,h6,h7⟩:=BG h
 have hle:sizeN f<=XK f:=by
  have:sizeN f<=(f.Blocks.map KP).sum:=jD _ _ _ λb hb=>by
   have q1:b.Phis.length<=(b.Phis.map SO).sum:=HH _ _ λp hp=>by simp only[SO];omega
   have q2:b.Ops.length<=(b.Ops.map SN).sum:=HH _ _ λp hp=>by simp only[SN];omega
   simp only[Dt,KP];omega
  simp only[XK];omega
 have hw:sizeW f=sizeN f:=Qo (by omega)
 have h512:sizeN f<=512:=by omega
 refine⟨⟨h4,h3,h5,h2,λb hb=>?_⟩,h512⟩;have hb512:Dt b<=sizeN f:=YC _ hb;simp only[Dt]at hb512;exact⟨h7 b hb,by omega,by omega,λo ho=>(hf.op b hb o ho).2⟩
theorem VB(f:Ab)(hf:eS f):∃ sm,D2 f=some sm/\(sm=true->Rj f=true->OkF f/\sizeN f<=512/\1<=f.Blocks.length):=by
 obtain⟨sm,h⟩:=ZC f hf;refine⟨sm,h,λh1 h2=>?_⟩;obtain⟨q1,q2⟩:=dX h2;rw[VA f hf q1 q2]at h;obtain⟨r1,r2⟩:=oU hf h2 (by grind);exact⟨r1,r2,(BG h2).1⟩
def PN(l:Int):Int:=bif l==0 then 17 else bif l==1 then 20 else 22
def Ja(l:Int)(o:Bz):Bool:=Fp o&&!decide (PN l<o.Kind)&&!(decide (l<2)&&decide (1<o.Lanes))
def F0(l:Int)(b:Ac):Bool:=(b.Phis.all λp=>Fo p.Bits)&&b.Ops.all (Ja l)
def Ll(f:Ab)(l:Int):Bool:=f.Params.all Fo&&f.Blocks.all (F0 l)&&Fo f.Ret
theorem oh{f:Ab}(hf:OkF f){b:Ac}(hb:b∈f.Blocks){o:Bz}(ho:o∈b.Ops):eT o:=by
 have h1:=hf.block b hb;have h2:=(blockB_iff.1 h1.may).2.1 o ho;simp only[dh,Az]at h2;exact⟨⟨(h1.imm o ho).1,(h1.imm o ho).2⟩,by have:=(listB_iff.1 h2.2).2;omega⟩
theorem mG:room=1099511627776:=rfl
theorem Ln{β:Type}(C:Nat)(E:Nat->List β):∀ l:List Nat,(∀ i∈l,(E i).length<=C)->(l.flatMap E).length<=l.length*C
 | [],_=>by simp
 | a::l,h=>by
  have h1:=h a (by simp);have h2:=Ln C E l (λi hi=>h i (by simp[hi]));rw[Yc,Fb,Xj,C6];omega
def Kn(l:List G1)(v:Int):Int:=match l.findIdx? (λd=>d.V==v) with|some i=>(i:Int)|none=>-1
def G4(o:Bz):Int×Int:=bif Fp o then Ur o.Kind o.Bits o.Lanes else(0,0)
def Hw(o:Bz):List (Int×Int):=bif Fp o then Po o else[]
def Pa(f:Ab):List G1:=(List.range f.Params.length).flatMap λ(i:Nat)=>[⟨(i:Int)+1,-1,0,(f.Params.getD i 0,1)⟩]
def Yy(b:Ac)(i:Nat):List G1:=(List.range b.Phis.length).flatMap λ(k:Nat)=>[⟨(b.Phis.getD k default).Dst,i,-1,((b.Phis.getD k default).Bits,1)⟩]
def GO(b:Ac)(i:Nat):List G1:=(List.range b.Ops.length).flatMap λ(k:Nat)=>bif decide (0<(G4 (b.Ops.getD k default)).1) then[⟨(b.Ops.getD k default).Dst,i,k,G4 (b.Ops.getD k default)⟩] else[]
def P3(b:Ac)(i:Nat):List G1:=Yy b i++GO b i
def A7(f:Ab):List G1:=Pa f++(List.range f.Blocks.length).flatMap λi=>P3 (f.Blocks.getD i default) i
theorem MC(f:Ab):(Pa f).length=f.Params.length:=by
 have h:∀ l:List Nat,(l.map λ_=>1).sum=l.length:=λl=>by induction l with|nil=>rfl|cons a l ih=>simp[ih];omega
 simp[Pa, h]
def N5(p:A4):List M1:=(List.range p.Args.length).flatMap λ(j:Nat)=>[⟨p.Args.getD j 0,p.From.getD j 0,1000,(p.Bits,1)⟩]
def S8(b:Ac):List M1:=(List.range b.Phis.length).flatMap λ(k:Nat)=>N5 (b.Phis.getD k default)
def Qn(o:Bz)(i k:Nat):List M1:=(List.range (Hw o).length).flatMap λ(j:Nat)=>[⟨o.Args.getD j 0,i,k,(Hw o).getD j (0,0)⟩]
def CE(b:Ac)(i:Nat):List M1:=(List.range b.Ops.length).flatMap λ(k:Nat)=>Qn (b.Ops.getD k default) i k
def Wj(f:Ab)(b:Ac)(i:Nat):List M1:=(bif b.End.Kind==0 then[⟨b.End.Arg,i,1000,(f.Ret,1)⟩] else[])++(bif b.End.Kind==2 then[⟨b.End.Arg,i,1000,(1,1)⟩] else[])
def JD(f:Ab)(b:Ac)(i:Nat):List M1:=S8 b++CE b i++Wj f b i
def Du(f:Ab):List M1:=(List.range f.Blocks.length).flatMap λ(i:Nat)=>JD f (f.Blocks.getD i default) i
theorem JA{o:Bz}(h:o.Args.length<=64):(Hw o).length<=64/\(Hw o).length<=o.Args.length:=by
 unfold Hw
 cases hm:Fp o with
 | false=>simp
 | true=>
  simp only[Ai]
  have :=by
   simp only[Fp,Az]at hm;exact hm.1.2.2
  have h2 :=by simpa using this
  have h3:(Po o).length=o.Args.length:=by rw[Po,B9,Lw,<- h2,Do]
  omega
theorem iZ{f:Ab}(hf:OkF f){b:Ac}(hb:b∈f.Blocks){p:A4}(hp:p∈b.Phis):p.From.length<=64/\p.Args.length<=64:=by
 have:=(blockB_iff.1 (hf.block b hb).may).1 p hp;simp only[IG,Az]at this;exact⟨(listB_iff.1 this.1.2).2,(listB_iff.1 this.2).2⟩
theorem nC{f:Ab}(hf:OkF f){b:Ac}(hb:b∈f.Blocks){o:Bz}(ho:o∈b.Ops):o.Args.length<=64:=by
 have:=(blockB_iff.1 (hf.block b hb).may).2.1 o ho;simp only[dh,Az]at this;exact(listB_iff.1 this.2).2
theorem QS(p:A4):(N5 p).length<=p.Args.length:=by
 have:=Ln 1 (λj=>[(⟨p.Args.getD j 0,p.From.getD j 0,1000,(p.Bits,1)⟩:M1)]) (List.range p.Args.length) (λ_ _=>zzL5 _)
 simpa [N5] using this
theorem VK(o:Bz)(i k:Nat):(Qn o i k).length<=(Hw o).length:=by
 have:=Ln 1 (λj=>[(⟨o.Args.getD j 0,i,k,(Hw o).getD j (0,0)⟩:M1)]) (List.range (Hw o).length) (λ_ _=>zzL5 _)
 simpa [Qn] using this
theorem VM{f:Ab}(hf:OkF f){b:Ac}(hb:b∈f.Blocks):(S8 b).length<=32768:=by
 have:=Ln 64 (λk=>N5 (b.Phis.getD k default)) (List.range _) (λk hk=>by
  have h1:=QS (b.Phis.getD k default);have h2:=(iZ hf hb (Ag (d:=default) (by simpa using hk))).2
  omega)
 have h3:=(hf.block b hb).phis;rw[Lw]at this;rw[S8];omega
theorem ZJ{f:Ab}(hf:OkF f){b:Ac}(hb:b∈f.Blocks)(i:Nat):(CE b i).length<=32768:=by
 have:=Ln 64 (λk=>Qn (b.Ops.getD k default) i k) (List.range _) (λk hk=>by
  have h1:=VK (b.Ops.getD k default) i k;have h2:=(JA (nC hf hb (Ag (d:=default) (by simpa using hk)))).1
  omega)
 have h3:=(hf.block b hb).ops;rw[Lw]at this;rw[CE];omega
theorem VJ(f:Ab)(b:Ac)(i:Nat):(Wj f b i).length<=2:=by
 unfold Wj
 cases b.End.Kind==0<;>cases b.End.Kind==2<;>simp
theorem d6{f:Ab}(hf:OkF f){i:Nat}(hi:i<f.Blocks.length):(JD f (f.Blocks.getD i default) i).length<=70000:=by
 have hmem:=Ag (d:=default) hi;have h1:=VM hf hmem;have h2:=ZJ hf hmem i;have h3:=VJ f (f.Blocks.getD i default) i;rw[JD,Fb,Fb];omega
theorem NT{f:Ab}(hf:OkF f):(Du f).length<=4480000:=by
 have h1:=Ln _ _ (List.range _) (λi hi=>d6 hf (by simpa using hi));have h4:=hf.blocks;rw[Lw]at h1;rw[Du];omega
def lu(f:Ab):Prop:=∀ b∈f.Blocks,∀ p∈b.Phis,p.Args.length<=p.From.length
def lk(n:Nat)(l:List Int)(i:Nat):Bool:=decide ((if i=0 then(-1:Int) else l.getD (i-1) 0)<l.getD i 0)&&(decide (0<=l.getD i 0)&&decide (l.getD i 0<n))
def kF(n:Nat)(l:List Int):Bool:=(List.range l.length).all (lk n l)
def Ld(L:List (List Int)):Bool:=decide (1<=L.length)&&decide (L.length<=64)&&(List.range L.length).all λi=>kF L.length (L.getD i [])
def CZ(L:List (List Int))(k i:Nat):Bool:=(L.getD k []).contains (i:Int)
def Li(L:List (List Int))(m i:Nat):List Int:=((List.range m).filter λk=>CZ L k i).map Int.ofNat
def Ec(L:List (List Int)):List (List Int):=(List.range L.length).map (Li L L.length)
theorem Rh(a n:Int):G7 a n=some (decide (0<=a)&&decide (a<n)):=by
 unfold G7
 cases decide (0<=a)<;>rfl
theorem MT(n:Nat):Im (n:Int)=some (decide (1<=n)&&decide (n<=64)):=by
 unfold Im
 have h1:decide ((1:Int)<=n)=decide (1<=n):=by grind
 have h2:decide (n<=(64:Int))=decide (n<=64):=by grind
 rw[h1,h2]
 cases decide (1<=n)<;>rfl
theorem IZ(L:List (List Int))(i:Nat)(hl:(L.getD i []).length<4611686018427387904) :
  Af (Ff L (i:Int)) ((-1:Int),(0:Int))=some (bif kF L.length (L.getD i []) then .inl () else .inr false):=by
 refine O5 (Ff L i) (λj=>((if j=0 then -1 else(L.getD i []).getD (j-1) 0),(j:Nat))) _ _ _ _ (λj hj hp=>?_) (λj hj hp=>?_) ?_
 ·unfold lk at hp;simp only[Az,El]at hp;obtain⟨h1,h2,h3⟩:=hp;unfold Ff;simp only[Ao,Dd hj, Rh];rw[Aj (L7 hj)]
  have e1:decide ((L.getD i []).getD j 0<=(if j=0 then -1 else(L.getD i []).getD (j-1) 0))=false:=by simpa using h1
  simp only[e1,Gw h2,Gw h3,     Hz];rw[w1 (show j<4611686018427387904 by omega)]
  simp
 ·unfold Ff;simp only[Ao,Dd hj, Rh];rw[Aj (L7 hj)]
  cases h1:decide ((L.getD i []).getD j 0<=(if j=0 then -1 else(L.getD i []).getD _ 0)) with
  | true=>grind
  | false=>
   have h1':decide ((if j=0 then -1 else(L.getD i []).getD (j-1) 0)<(L.getD i []).getD j 0)=true:=by simpa using h1
   unfold lk at hp;rw[h1',Kw]at hp;simp only[Vm,Ai,A8,Ax,hp,Lx]
 ·unfold Ff;simp only[Ao,Fm,A8]
def Fits(L:List (List Int)):Prop:=L.length<4611686018427387904/\∀ l∈L,l.length<4611686018427387904
theorem Fits.at{L:List (List Int)}(h:Fits L)(i:Nat):(L.getD i []).length<4611686018427387904:=by
 by_cases hi:i<L.length
 ·exact h.2 _ (Ag hi)
 ·grind
theorem dW(L:List (List Int))(h:Fits L):K3 L=some (Ld L):=by
 unfold K3;rw[MT,Ax];unfold Ld
 cases hc:(decide (1<=L.length)&&decide (L.length<=64)) with
 | false=>rfl
 | true=>
  simp only[Hz,A8,Kw];have:=O5 (Cu L) (λj=>((j:Nat):Int)) (λi=>kF L.length (L.getD i [])) (.inl ()) (.inr false) L.length (λj hj hp=>?_) (λj hj hp=>?_) ?_
  ·rw[show Af (Cu L) (0:Int)=_ from this]
   cases(List.range L.length).all λi=>kF L.length (L.getD i [])<;>rfl
  ·show Cu L (j:Int)=_
   unfold Cu;simp only[Dd hj,Ai];rw[Aj (L7 hj),IZ L j (h.at j),hp];simp only[Ai,Ax,w1 (show j<4611686018427387904 by have:=h.1;omega)]
  ·show Cu L (j:Int)=_
   unfold Cu;simp only[Dd hj,Ai];rw[Aj (L7 hj),IZ L j (h.at j),hp]
   rfl
  ·show Cu L _=_
   unfold Cu;simp only[Fm,A8]
theorem Kx{α:Type}{n i:Nat}{g:Nat->α}{d:α}(h:i<n):((List.range n).map g).getD i d=g i:=by simp[ h]
theorem QQ{α:Type}{n i:Nat}{g:Nat->α}{x:α}:((List.range n).map g).set i x=(List.range n).map λj=>if j=i then x else g j:=by
 apply List.ext_getElem?
 intro j;rw[List.getElem?_set]
 by_cases hj:j<n
 ·grind
 ·grind
theorem Rk{α:Type}{n:Nat}{g h:Nat->α}(H:∀ i,i<n->g i=h i):(List.range n).map g=(List.range n).map h:=Tq λi hi=>H i (zzL30.1 hi)
theorem mayS_iff{L:List (List Int)}:Ld L=true↔1<=L.length/\L.length<=64/\∀ i,i<L.length->kF L.length (L.getD i [])=true:=by
 unfold Ld;rw[Az,Az,all_range];simp only[El];exact⟨λ⟨⟨a,b⟩,c⟩=>⟨a,b,c⟩,λ⟨a,b,c⟩=>⟨⟨a,b⟩,c⟩⟩
theorem okL_iff{n:Nat}{l:List Int}:kF n l=true↔∀ i,i<l.length->(0<=l.getD i 0/\l.getD i 0<n)/\(0<i->l.getD (i-1) 0<l.getD i 0):=by
 unfold kF;rw[all_range];unfold lk;simp only[Az,El]
 constructor
 ·grind
 ·intro h i hi;obtain⟨⟨h2,h3⟩,h1⟩:=h i hi
  by_cases hz:i=0
  · omega
  ·grind
section
variable {n:Nat} {l:List Int} (h:kF n l=true)
include h
theorem BK{i:Nat}(hi:i<l.length):0<=l.getD i 0/\l.getD i 0<n:=(okL_iff.1 h i hi).1
theorem iT{i j:Nat}(hij:i<j)(hj:j<l.length):l.getD i 0<l.getD j 0:=by
 induction j with
 | zero=>omega
 | succ j ih=>
  have h1:=(okL_iff.1 h _ hj).2 (by omega)
  by_cases he:i=j
  ·rw[he];exact h1
  ·grind
theorem oX{i:Nat}(hi:i<l.length):(i:Int)<=l.getD i 0:=by
 induction i with
 | zero=>exact(BK h hi).1
 | succ i ih=>
  have:=iT h (show i<i+1 by omega) hi;omega
theorem FO:l.length<=n:=by
 by_cases hz:l.length=0
 ·omega
 ·have h1:=oX h (show l.length-1<l.length by omega);have h2:=(BK h (show l.length-1<l.length by omega)).2;omega
theorem PW{x:Int}(hx:x∈l):0<=x/\x<n:=by
 obtain⟨i,hi,rfl⟩:=E1 hx;have:=BK h hi;rwa[Aa _ _ _ hi]at this
end
theorem oY{n:Nat}{l:List Int}(h1:∀ x∈l,0<=x/\x<n)(h2:l.Pairwise (·<·)):kF n l=true:=by
 rw[okL_iff];intro i hi;rw[Aa _ _ _ hi];refine⟨h1 _ (CJ hi),λhp=>?_⟩;rw[Aa _ _ _ (show i-1<l.length by omega)];exact(zzL87.1 h2) _ _ _ _ (by omega)
theorem BF{L:List (List Int)}(h:Ld L=true):L.length<=64/\∀ l∈L,l.length<=64:=by
 obtain⟨h1,h2,h3⟩:=mayS_iff.1 h;refine⟨h2,λl hl=>?_⟩;obtain⟨i,hi,rfl⟩:=E1 hl;have:=FO (h3 i hi);rw[Aa _ _ _ hi]at this;omega
theorem lK{L:List (List Int)}(h:L.length<=1000/\∀ l∈L,l.length<=1000):Fits L:=⟨by omega,λl hl=>by have:=h.2 l hl;omega⟩
theorem UP(L:List (List Int))(k i:Nat):Li L (k+1) i=Li L k i++(if CZ L k i=true then[(k:Int)] else[]):=by
 unfold Li;rw[R5,Vl];cases hg:CZ L k i<;>simp[hg]
theorem X3(L:List (List Int))(k i:Nat):(Li L k i).length<=k:=by
 unfold Li;have:=List.length_filter_le (λk=>CZ L k i) (List.range k)
 simpa using this
theorem MI{l:List Int}{j:Nat}(hj:j<l.length):l.take (j+1)=l.take j++[l.getD j 0]:=by
 simp_all
def Qs(L:List (List Int))(k j i:Nat):Bool:=((L.getD k []).take j).contains (i:Int)
def Kh(L:List (List Int))(k j:Nat):List (List Int):=(List.range L.length).map λi=>Li L k i++(if Qs L k j i=true then[(k:Int)] else[])
theorem SI(L:List (List Int))(h:Ld L=true)(k j:Nat)(hk:k<L.length)(hj:j<(L.getD k []).length) :
  (Kh L k j).set ((L.getD k []).getD j 0).toNat ((Kh L k j).getD ((L.getD k []).getD j 0).toNat []++[(k:Int)])=Kh L k (j+1):=by
 obtain⟨h1,h2,h3⟩:=mayS_iff.1 h;have hok:=h3 k hk;obtain⟨a0,a1⟩:=BK hok hj;unfold Kh;rw[Kx (by omega),QQ]
 apply Rk
 intro i hi
 have hnot:Qs L k j ((L.getD k []).getD j 0).toNat=false:=by
  unfold Qs;rw[Xh a0]
  cases hc:((L.getD k []).take j).contains _ with
  | false=>rfl
  | true=>
   rw[Zy]at hc;obtain⟨m,hm,he⟩:=E1 hc
   have hm':m<j:=by simp at hm;omega
   rw[List.getElem_take]at he;have:=iT hok hm' hj;rw[Aa _ _ _ (show m<(L.getD k []).length by omega)]at this;omega
 by_cases hi2:i=((L.getD k []).getD j 0).toNat
 ·rw[ hnot]
  have:Qs L k (j+1) i=true:=by
   unfold Qs;rw[MI hj, hi2,Xh a0]
   simp
  rw[this,hi2]
  simp
 ·rw[if_neg hi2]
  have:Qs L k (j+1) i=Qs L k j i:=by
   unfold Qs;rw[MI hj,Vh,Zy,Zy,zzL9]
   constructor
   ·grind
   ·exact .inl
  rw[this]
theorem TK(L:List (List Int))(h:Ld L=true):Jp L=some (Ec L):=by
 obtain⟨h1,h2,h3⟩:=mayS_iff.1 h
 have hroom:(1000:Nat)<=room:=by decide
 unfold Jp;rw[Aj ⟨by omega,Int.le_refl _,by omega⟩,Ao]
 have inner:∀ k,k<L.length->Af _ ((0:Int),Kh L k 0)=some (Kh L k (L.getD k []).length):=λk hk=>by
  have hok:=h3 k hk;refine Ko (I8 L (k:Int)) (λj=>(((j:Nat):Int),Kh L k j)) _ (L.getD k []).length (λj hj=>?_) ?_
  ·obtain⟨a0,a1⟩:=BK hok hj
   have hlen:(Kh L k j).length=L.length:=by simp[Kh]
   have hl64:=FO hok;unfold I8;simp only[Ao,Dd hj,Ai];have hb:Bl ((L.getD k []).getD j 0) (Kh L k j).length:=⟨a0,by rw[hlen];exact a1⟩
   have hrow:((Kh L k j).getD ((L.getD k []).getD j 0).toNat []).length<=k+1:=by
    unfold Kh;rw[Kx (by omega),Fb];have:=X3 L k ((L.getD k []).getD j 0).toNat
    split
    ·rw[DZ];omega
    ·rw[List.length_nil];omega
   rw[Aj (L7 hj),Aj hb,Aj hb,Aj (by grind),Aj hb,SI L h k j hk hj,w1 (by omega)]
  ·unfold I8;simp only[Ao,Fm,A8]
 have r0:∀ k,Kh L k 0=(List.range L.length).map (Li L k):=λk=>by
  unfold Kh
  apply Rk
  intro i _;simp[Qs]
 have r1:∀ k,Kh L k (L.getD k []).length=(List.range L.length).map (Li L (k+1)):=λk=>by
  unfold Kh
  apply Rk
  intro i _;rw[UP];unfold Qs CZ;rw[Vo]
 have:Af (He L) ((0:Int),(List.range L.length).map (Li L 0))=some (Ec L):=Ko (He L) (λk=>(((k:Nat):Int),(List.range L.length).map (Li L k))) (Ec L) L.length (λk hk=>?_) ?_
 ·have e0:(List.replicate L.length ([]:List Int))=(List.range L.length).map (Li L 0):=by
   apply List.ext_getElem?
   intro i
   by_cases hi:i<L.length<;>simp[hi,List.getElem?_replicate,Li]
  rw[e0,this];rfl
 ·unfold He;simp only[Dd hk,Ai];rw[Aj (L7 hk),<- r0,inner k hk,r1,w1 (by omega)]
  rfl
 ·unfold He;simp only[Fm,A8]
  rfl
theorem DF{α:Type}[DecidableEq α]{a b:List α}{d:α}(h:a.length=b.length):((List.range a.length).all λi=>decide (a.getD i d=b.getD i d))=decide (a=b):=by
 rw[Vh,all_range,El]
 constructor
 ·intro hall
  apply AA h
  intro i h1 h2;have:=CI (hall i h1);rwa[Aa _ _ _ h1,Aa _ _ _ h2]at this
 ·rintro rfl i _
  simp
theorem be{a b:Nat}:(((a:Nat):Int)!=(b:Int))=decide (a≠b):=by
 grind
theorem g8{a b:Int}:(a !=b) = !decide (a=b):=by
 grind
theorem PP(a b:List Int)(hb:b.length<4611686018427387904):Er a b=some (decide (a=b)):=by
 unfold Er;rw[be]
 by_cases hl:a.length=b.length
 ·rw[Gv (by simpa using hl)];have:Af (Ds a b) 0=_:=O5 _ (λj=>(j:Int)) (λi=>decide (a.getD i 0=b.getD i 0)) (.inl ()) (.inr false) a.length (λj hj hp=>?_) (λj hj hp=>?_) ?_
  ·rw[this,DF hl]
   cases decide (a=b)<;>rfl
  ·unfold Ds;simp only[Ao,Dd hj];rw[Aj (L7 hj),Aj (L7 (by omega)),g8,hp,w1 (by omega)]
   rfl
  ·unfold Ds;simp only[Ao,Dd hj];rw[Aj (L7 hj),Aj (L7 (by omega)),g8,hp]
   rfl
  ·unfold Ds;simp only[Fm,A8]
 ·rw[Gw (by simpa using hl),Ai,Gv (λh=>hl (by rw[h]))]
theorem TL(a b:List (List Int))(hb:Fits b):Cv a b=some (decide (a=b)):=by
 unfold Cv;rw[be]
 by_cases hl:a.length=b.length
 ·rw[Gv (by simpa using hl)];have hb1:=hb.1;have:Af _ (0:Int)=_:=O5 (Bp a b) (λj=>(j:Nat)) (λi=>decide (a.getD i []=b.getD i [])) (.inl ()) (.inr false) a.length (λj hj hp=>?_) (λj hj hp=>?_) ?_
  ·rw[this,DF hl]
   cases decide (a=b)<;>rfl
  ·unfold Bp;simp only[Ao,Dd hj];rw[Aj (L7 hj),Aj (L7 (by omega)),PP _ _ (hb.at j),hp,w1 (by omega)]
   rfl
  ·unfold Bp;simp only[Ao,Dd hj];rw[Aj (L7 hj),Aj (L7 (by omega)),PP _ _ (hb.at j),hp]
   rfl
  ·unfold Bp;simp only[Fm,A8]
 ·rw[Gw (by simpa using hl),Ai,Gv (λh=>hl (by rw[h]))]
theorem Nh(L:List (List Int)):(Ec L).length=L.length:=by simp[Ec]
theorem BV{L:List (List Int)}{i:Nat}(hi:i<L.length):(Ec L).getD i []=Li L L.length i:=by unfold Ec;rw[Kx hi]
theorem S3{L:List (List Int)}(h:Ld L=true):(Ec L).length<=64/\∀ l∈Ec L,l.length<=64:=by
 obtain⟨h1,_⟩:=BF h;refine⟨by rw[Nh];exact h1,λl hl=>?_⟩;obtain⟨i,hi,rfl⟩:=zzL14.1 hl;have:=X3 L L.length i;omega
theorem X8{L:List (List Int)}(h:L.length<=64/\∀ l∈L,l.length<=64):Fits L:=lK ⟨by omega,λl hl=>by have:=h.2 l hl;omega⟩
def BE(g:C8):Bool:=Ld g.Succ&&decide (g.Pred=Ec g.Succ)
theorem nB(g:C8)(h:Fits g.Succ):Qa g=some (BE g):=by
 unfold Qa BE;rw[dW _ h]
 cases hm:Ld _ with
 | false=>rfl
 | true=>
  simp only[Vm,Ai,TK _ hm,Ax,TL _ _ (X8 (S3 hm)),Kw]
def Y5(L:List (List Int)):C8:=⟨L,Ec L⟩
def g0:C8:=⟨[],[]⟩
theorem HM{L:List (List Int)}(h:Ld L=true):BE (Y5 L)=true:=by simp[BE,Y5,h]
theorem gx{L:List (List Int)}(h:Ld L=true):Fits (Y5 L).Succ/\Fits (Y5 L).Pred:=⟨X8 (BF h),X8 (S3 h)⟩
noncomputable section
def upd(s:Nat->Bool)(y:Nat):Nat->Bool:=λz=>decide (z=y) || s z
theorem upd_true{s:Nat->Bool}{y z:Nat}:upd s y z=true↔z=y\/s z=true:=by simp[upd]
theorem upd_false{s:Nat->Bool}{y z:Nat}:upd s y z=false↔z≠y/\s z=false:=by simp[upd]
inductive VL (S:Nat->List Nat):(Nat->Bool)->List Nat->(Nat->Bool)->List Nat->Prop
 | nil (s:Nat->Bool):VL S s [] s []
 | skip {s s':Nat->Bool} {y:Nat} {l o:List Nat} (h:s y=true) (t:VL S s l s' o):VL S s (y::l) s' o
 | step {s s1 s2:Nat->Bool} {y:Nat} {l o1 o2:List Nat} (h:s y=false) (a:VL S (upd s y) (S y) s1 o1) (b:VL S s1 l s2 o2):VL S s (y::l) s2 (o1++y::o2)
inductive Rch (S:Nat->List Nat):Nat->Nat->Prop
 | refl (x:Nat):Rch S x x
 | head {x y z:Nat} (h:y∈S x) (t:Rch S y z):Rch S x z
theorem Rch.tail{S:Nat->List Nat}{x y z:Nat}(h:Rch S x y)(hz:z∈S y):Rch S x z:=by
 induction h with
 | refl x=>exact .head hz (.refl _)
 | head h _ ih=>exact .head h (ih hz)
theorem Rch.trans{S:Nat->List Nat}{x y z:Nat}(h:Rch S x y)(k:Rch S y z):Rch S x z:=by
 induction h with
 | refl x=>exact k
 | head h _ ih=>exact .head h (ih k)
variable {S:Nat->List Nat} {s s':Nat->Bool} {l o:List Nat}
theorem VL.seen(h:VL S s l s' o)(z:Nat):s' z=true↔s z=true\/z∈o:=by
 induction h with
 | nil s=>simp
 | skip h _ ih=>exact ih
 | @step s s1 s2 y l o1 o2 h a b iha ihb=>
  rw[ihb,iha,upd_true]
  constructor
  ·grind
  ·grind
theorem VL.fresh(h:VL S s l s' o){z:Nat}(hz:z∈o):s z=false:=by
 induction h with
 | nil s=>cases hz
 | skip h _ ih=>exact ih hz
 | @step s s1 s2 y l o1 o2 h a b iha ihb=>
  rcases zzL9.1 hz with h1|h1
  ·exact(upd_false.1 (iha h1)).2
  ·rcases zzL35.1 h1 with rfl|h1
   ·exact h
   ·have:=ihb h1
    cases hs:s z with
    | false=>rfl
    | true=>rw[(a.seen z).2 (.inl (upd_true.2 (.inr hs)))]at this;cases this
theorem VL.nodup(h:VL S s l s' o):o.Nodup:=by
 induction h with
 | nil s=>exact List.nodup_nil
 | skip h _ ih=>exact ih
 | @step s s1 s2 y l o1 o2 h a b iha ihb=>
  rw[List.nodup_append];refine⟨iha,zzL108.2 ⟨λhy=>?_,ihb⟩,λu hu v hv=>?_⟩
  ·have:=b.fresh hy;rw[(a.seen y).2 (.inl (upd_true.2 (.inl rfl)))]at this
   cases this
  ·rintro rfl;rcases zzL35.1 hv with rfl|hv
   ·have:=a.fresh hu;rw[upd_true.2 (.inl rfl)]at this
    cases this
   ·have:=b.fresh hv;rw[(a.seen u).2 (.inr hu)]at this
    cases this
theorem VL.rch(h:VL S s l s' o){z:Nat}(hz:z∈o):∃ y∈l,Rch S y z:=by
 induction h with
 | nil s=>cases hz
 | skip h _ ih=>grind
 | @step s s1 s2 y l o1 o2 h a b iha ihb=>
  rcases zzL9.1 hz with h1|h1
  ·obtain⟨u,hu,hr⟩:=iha h1;exact⟨y,zzL53 ..,.head hu hr⟩
  ·rcases zzL35.1 h1 with rfl|h1
   ·exact⟨z,zzL53 ..,.refl z⟩
   ·grind
theorem VL.closed(h:VL S s l s' o):(∀ y∈l,s' y=true)/\∀ z∈o,∀ y∈S z,s' y=true:=by
 induction h with
 | nil s=>grind
 | @skip s s' y l o h t ih=>
  refine⟨λu hu=>?_,ih.2⟩;rcases zzL35.1 hu with rfl|hu
  ·exact(t.seen u).2 (.inl h)
  ·exact ih.1 u hu
 | @step s s1 s2 y l o1 o2 h a b iha ihb=>
  refine⟨λu hu=>?_,λz hz u hu=>?_⟩
  ·rcases zzL35.1 hu with rfl|hu
   ·exact(b.seen u).2 (.inl ((a.seen u).2 (.inl (upd_true.2 (.inl rfl)))))
   ·exact ihb.1 u hu
  ·rcases zzL9.1 hz with h1|h1
   ·exact(b.seen u).2 (.inl (iha.2 z h1 u hu))
   ·rcases zzL35.1 h1 with rfl|h1
    ·exact(b.seen u).2 (.inl (iha.1 u hu))
    ·exact ihb.2 z h1 u hu
theorem VL.above(h:VL S s l s' o)(hf:∀ z,∀ y∈S z,z<y){b:Nat}(hb:∀ y∈l,b<y):∀ z∈o,b<z:=by
 induction h generalizing b with
 | nil s=>intro z hz;cases hz
 | skip h _ ih=>exact ih (λy hy=>hb y (Jz _ hy))
 | @step s s1 s2 y l o1 o2 h a c iha ihb=>
  intro z hz;have hy:=hb y (zzL53 ..);rcases zzL9.1 hz with h1|h1
  ·exact iha (λu hu=>Nat.lt_trans hy (hf y u hu)) z h1
  ·rcases zzL35.1 h1 with rfl|h1
   ·exact hy
   ·exact ihb (λu hu=>hb u (Jz _ hu)) z h1
theorem VL.ahead(h:VL S s l s' o)(hf:∀ z,∀ y∈S z,z<y):∀ z∈o,∀ y∈S z,s y=true\/∃ A B,o=A++z::B/\y∈A:=by
 induction h with
 | nil s=>intro z hz;cases hz
 | skip h _ ih=>exact ih
 | @step s s1 s2 y l o1 o2 h a c iha ihb=>
  intro z hz u hu;rcases zzL9.1 hz with h1|h1
  ·have hzy :=a.above hf (λv hv=>hf y v hv) z h1;have hzu:=hf z u hu;rcases iha z h1 u hu with h2|⟨A,B,rfl,hA⟩
   ·rcases upd_true.1 h2 with rfl|h2
    ·omega
    ·exact .inl h2
   ·grind
  ·rcases zzL35.1 h1 with rfl|h1z
   ·have hzu:=hf z u hu;rcases(a.seen u).1 (a.closed.1 u hu) with h2|h2
    ·rcases upd_true.1 h2 with rfl|h2
     ·omega
     ·exact .inl h2
    ·grind
   ·rcases ihb z h1z u hu with h2|⟨A,B,rfl,hA⟩
    ·rcases(a.seen u).1 h2 with h3|h3
     ·rcases upd_true.1 h3 with rfl|h3
      ·obtain⟨P,Q,rfl⟩:=List.append_of_mem h1z;exact .inr ⟨o1++u::P,Q,by simp,by simp⟩
      ·exact .inl h3
     ·obtain⟨P,Q,rfl⟩:=List.append_of_mem h1z;exact .inr ⟨o1++y::P,Q,by simp,by simp[h3]⟩
    ·grind
def SG(n:Nat)(s:Nat->Bool):Nat:=((List.range n).filter λz=>!s z).length
theorem V1{n:Nat}{s:Nat->Bool}{y:Nat}(hy:y<n)(h:s y=false):SG n (upd s y)+1=SG n s:=by
 unfold SG
 induction n with
 | zero=>omega
 | succ n ih=>
  rw[R5,Vl,Vl,Fb,Fb]
  by_cases hyn:y=n
  ·subst hyn
   have e:(List.range y).filter (λz=>!upd s y z)=(List.range y).filter (λz=>!s z):=by
    apply List.filter_congr
    intro z hz;have:=zzL30.1 hz;simp[upd,show z≠y by omega]
   rw[e];simp[upd,h]
  ·have e:([n].filter λz=>!upd s y z).length=([n].filter λz=>!s z).length:=by
    simp only[List.filter_cons, upd];simp[My hyn]
   omega
theorem SH{n:Nat}{s s':Nat->Bool}(h:∀ z,s z=true->s' z=true):SG n s'<=SG n s:=by
 apply List.Sublist.length_le
 have:(List.range n).filter (λz=>!s' z)=((List.range n).filter λz=>!s z).filter λz=>!s' z:=by
  rw[List.filter_filter]
  apply List.filter_congr
  intro z _
  cases hs:s z with
  | false=>simp
  | true=>simp[h z hs]
 rw[this];exact List.filter_sublist
theorem VL.exist{n:Nat}(hS:∀ z,z<n->∀ y∈S z,y<n):∀(m:Nat) (s:Nat->Bool),SG n s<=m->∀ l:List Nat,(∀ y∈l,y<n)->∃ s' o,VL S s l s' o:=by
 intro m
 induction m with
 | zero=>
  intro s hm l
  induction l with
  | nil=>intro _;exact⟨s,[],.nil s⟩
  | cons y l ih=>
   intro hl;obtain⟨s',o,h⟩:=ih (λz hz=>hl z (Jz _ hz))
   cases hy:s y with
   | true=>exact⟨s',o,.skip hy h⟩
   | false=>have:=V1 (hl y (zzL53 ..)) hy;omega
 | succ m ih=>
  intro s hm l
  induction l generalizing s with
  | nil=>intro _;exact⟨s,[],.nil s⟩
  | cons y l ihl=>
   intro hl
   cases hy:s y with
   | true=>
    obtain⟨s',o,h⟩:=ihl s hm (λz hz=>hl z (Jz _ hz));exact⟨s',o,.skip hy h⟩
   | false=>
    have hyn:=hl y (zzL53 ..);have:=V1 hyn hy;obtain⟨s1,o1,h1⟩:=ih (upd s y) (by omega) _ (hS y hyn);have h2:SG n s1<=SG n s:=SH λz hz=>(h1.seen z).2 (.inl (upd_true.2 (.inr hz)));obtain⟨s2,o2,h3⟩:=ihl s1 (by omega) (λz hz=>hl z (Jz _ hz));exact⟨s2,_,.step hy h1 h3⟩
def one(r:Nat):Nat->Bool:=λz=>decide (z=r)
def Ord(S:Nat->List Nat)(r:Nat)(L:List Nat):Prop:=∃ s' o,VL S (one r) (S r) s' o/\L=r::o.reverse
theorem Ord.exist{n:Nat}(hS:∀ z,z<n->∀ y∈S z,y<n){r:Nat}(hr:r<n):∃ L,Ord S r L:=by
 obtain⟨s',o,h⟩:=VL.exist hS _ _ (zzL5 _) _ (hS r hr);exact⟨_,s',o,h,rfl⟩
theorem Ord.mem{r:Nat}{L:List Nat}(h:Ord S r L)(z:Nat):z∈L↔Rch S r z:=by
 obtain⟨s',o,h,rfl⟩:=h
 have hs:∀ z,s' z=true↔z=r\/z∈o:=λz=>by rw[h.seen];simp[one]
 have hc:∀ x,s' x=true->∀ y∈S x,s' y=true:=λx hx y hy=>by
  rcases(hs x).1 hx with rfl|hx
  ·exact h.closed.1 y hy
  ·exact h.closed.2 x hx y hy
 simp only[zzL35,List.mem_reverse];rw[<- hs z]
 constructor
 ·intro hz;rcases(hs z).1 hz with rfl|hz
  ·exact .refl _
  ·obtain⟨y,hy,hr⟩:=h.rch hz;exact .head hy hr
 ·intro hr
  have key:∀ x z,Rch S x z->s' x=true->s' z=true:=by
   intro x z hxz
   induction hxz with
   | refl x=>exact id
   | head hy _ ih=>grind
  exact key r z hr ((hs r).2 (.inl rfl))
theorem Ord.nodup{r:Nat}{L:List Nat}(h:Ord S r L):L.Nodup:=by
 obtain⟨s',o,h,rfl⟩:=h;refine zzL108.2 ⟨λhr=>?_,(List.reverse_perm o).nodup_iff.2 h.nodup⟩;have:=h.fresh (List.mem_reverse.1 hr);simp[one]at this
theorem Ord.fwd{r:Nat}{L:List Nat}(h:Ord S r L)(hf:∀ z,∀ y∈S z,z<y):∀ z∈L,∀ y∈S z,∃ A B,L=A++z::B/\y∈B:=by
 obtain⟨s',o,h,rfl⟩:=h;intro z hz y hy;have hzy:=hf z y hy;rcases zzL35.1 hz with rfl|hz
 ·refine⟨[],o.reverse,rfl,?_⟩;rcases(h.seen y).1 (h.closed.1 y hy) with h1|h1
  ·simp[one]at h1;omega
  ·grind
 ·have hz:=List.mem_reverse.1 hz;have hrz :=h.above hf (λv hv=>hf r v hv) z hz;rcases h.ahead hf z hz y hy with h1|⟨A,B,rfl,hA⟩
  ·simp[one]at h1;omega
  ·grind
end
theorem dU(l:List Int)(hl:l.length<4611686018427387904):D6 l=some l.reverse:=by
 unfold D6
 by_cases h0:l.length=0
 ·obtain rfl:l=[]:=zzL91.1 h0
  have:Af A9 ((0:Int),(Ay ((([]:List Int).length:Int)-1)),([]:List Int))=some []:=by
   apply Am
   unfold A9;rw[Ed (by simp) (by simp)]
   rfl
  rw[this];rfl
 ·have hw:Ay ((l.length:Int)-1)=((l.length-1:Nat):Int):=by rw[Ed (by omega) (by omega)];omega
  rw[hw]
  let C:Nat->List Int:=λk=>(List.range l.length).map λi=>if i<k\/l.length-1-k<i then l.getD (l.length-1-i) 0 else l.getD i 0
  have hC:∀ k i,i<l.length->(C k).getD i 0=if i<k\/l.length-1-k<i then l.getD (l.length-1-i) 0 else l.getD i 0:=λk i hi=>by simp only[C];rw[Kx hi]
  have hlen:∀ k,(C k).length=l.length:=λk=>by simp[C]
  have:=Ko A9 (λk=>(((k:Nat):Int),((l.length-1-k:Nat):Int),C k)) l.reverse (l.length / 2) (λk hk=>?_) ?_
  ·have e0:C 0=l:=by
    apply AA (by simp[C])
    intro i h1 h2;have:=hC 0 i h2;rw[Aa _ _ _ h1,Aa _ _ _ h2]at this;rw[this,if_neg (by omega)]
   have this':Af A9 ((0:Int),((l.length-1:Nat):Int),l)=some l.reverse:=by
    have h2:=this;simp only[e0]at h2;exact h2
   rw[this'];rfl
  ·show A9 (_,_,_)=_
   unfold A9
   have hlt:k<l.length-1-k:=by omega
   simp only[Dd hlt,Ai,Ao];rw[Aj (L7 (by rw[hlen];omega)),Aj (L7 (by rw[hlen];omega)),Aj (L7 (by rw[hlen];omega)),Aj (L7 (by rw[hlen];omega))];rw[w1 (by omega),show Ay (((l.length-1-k:Nat):Int)-1)=((l.length-1-(k+1):Nat):Int) by rw[Ed (by omega) (by omega)];omega]
   congr 4
   rw[hC k _ (by omega),hC k _ (by omega),if_neg (by omega),if_neg (by omega)];simp only[C];rw[QQ,QQ]
   apply Rk
   intro i hi
   by_cases h1:i=k
   ·subst h1;rw[if_neg (by omega),if_pos rfl,if_pos (by omega)]
   ·by_cases h2:i=l.length-1-k
    ·subst h2;rw[if_pos rfl,if_pos (by omega)]
     congr 1;omega
    ·rw[if_neg h2,if_neg h1]
     by_cases h3:i<k\/l.length-1-k<i
     ·rw[if_pos h3,if_pos (by omega)]
     ·rw[if_neg h3,if_neg (by omega)]
  ·show A9 (_,_,_)=_
   unfold A9;have hd:decide (((l.length / 2:Nat):Int)<((l.length-1-l.length / 2:Nat):Int))=false:=Gv (by omega);simp only[hd,A8]
   congr 2
   apply AA (by simp[C])
   intro i h1 h2
   have h3:i<l.length:=by simpa [C] using h1
   have:=hC (l.length / 2) i h3;rw[Aa _ _ _ h1]at this;rw[this,List.getElem_reverse]
   split
   ·rw[Aa _ _ _ (by omega)]
   ·rw[Aa _ _ _ h3]
    congr 1;omega
theorem top{st:List Int}{a:Int}(h:st.length<4611686018427387904):(st++[a]).getD (Ay (((st++[a]).length:Int)-1)).toNat 0=a:=by
 have:Ay ((st++[a]).length-1)=(st.length:Int):=by rw[Fb,DZ,Ed (by omega) (by omega)];omega
 rw[this];simp[List.getD]
theorem qo{st:List Int}{a:Int}(h:st.length<4611686018427387904):Ay (((st++[a]).length:Int)-1)=((st.length:Nat):Int):=by
 rw[Fb,DZ,Ed (by omega) (by omega)];omega
theorem kI{g:C8}{R:List Bool}{st T:List Int}{a:Nat}(hst:st.length<64)(ha:a<g.Succ.length)(h64:g.Succ.length<=64)(ht:T.getD a 0=((g.Succ.getD a []).length:Int)) :
  Gi g R (st++[(a:Int)]) T=some (.done (.inl T)):=by
 unfold Gi;simp only[top (st:=st)  (by omega),Ao];rw[Aj (L7 (by omega)),Aj (L7 ha),ht,Fm,A8]
theorem ak{g:C8}{R:List Bool}{st T:List Int}{a t y:Nat}(hst:st.length<64)(ha:a<g.Succ.length)(h64:g.Succ.length<=64)(ht:T.getD a 0=(t:Int))(htl:t<(g.Succ.getD a []).length)(htm:t<64)
  (hy:(g.Succ.getD a []).getD t 0=(y:Int)) (hyn:y<g.Succ.length) :
  Gi g R (st++[(a:Int)]) T=bif R.getD y false then some (.next (L4 64 (0:Int) T a ((t+1:Nat):Int))) else some (.done (.inr (L4 64 false R y true,L4 64 (0:Int) T a ((t+1:Nat):Int),(st++[(a:Int)])++[(y:Int)]))):=by
 have hroom:1000<=room:=by decide
 unfold Gi;simp only[top (st:=st)  (by omega),Ao,ht,hy];rw[Aj (L7 (by omega)),Aj (L7 ha),Dd htl, Aj (L7 ha),Aj (L7 (by omega)),Aj (L7 htl),Aj (L7 (by omega)),Aj (L7 (by omega)),Aj (L7 (by omega)),w1 (by omega)]
 cases R.getD y _ with
 | true=>rfl
 | false=>
  simp only[Lx,Ai,A8];rw[Aj (L7 (by omega)),Aj (by grind)]
theorem aj{g:C8}{R:List Bool}{st T Lf:List Int}{a:Nat}(hst:st.length<64)(hLf:Lf.length<64) :
  Dq g (R,T,st++[(a:Int)],Lf)=(Af (Gi g R (st++[(a:Int)])) T).bind λx=>match x with
   | .inl T'=>if st=[] then some (.done (Lf++[(a:Int)]).reverse) else some (.next (R,T',st,Lf++[(a:Int)]))
   | .inr (R',T',st')=>some (.next (R',T',st',Lf)):=by
 have hroom:1000<=room:=by decide
 unfold Dq;simp only
 have hb:Bl (Ay ((st++[(a:Int)]).length-1)) (st++[(a:Int)]).length:=by rw[qo (by omega)];exact L7 (by simp)
 rw[Aj hb]
 congr 1
 funext x
 cases x with
 | inr y =>  rfl
 | inl T'=>
  simp only[top (st:=st)  (by omega)];rw[qo (by omega),Ao,Aj (by grind),Aj ⟨by omega,by simp⟩];have e:(st++[(a:Int)]).take _=st:=List.take_left' rfl;rw[e]
  cases st with
  | nil=>
   rw[if_pos rfl]
   have:decide (0<(([]:List Int).length:Int))=false:=by decide
   rw[this,A8,dU _ (by simp;omega)];simp only[Ax];rw[Aj (by simp)]
  | cons b st'=>
   simp_all
theorem YA{S X:Type}{f:S->Option (LR S X)}{a b:S}(h:f a=f b):Af f a=Af f b:=by
 cases hb:f b with
 | none=>rw[Sr (h.trans hb),Sr hb]
 | some r=>cases r with
  | done x=>rw[Am (h.trans hb),Am hb]
  | next s=>rw[An (h.trans hb),An hb]
theorem DU{S X:Type}{f:S->Option (LR S X)}{s:S}:Nj (f s) f=Af f s:=by
 cases hb:f s with
 | none=>rw[Sr hb];rfl
 | some r=>cases r with
  | done x=>rw[Am hb];rfl
  | next s'=>rw[An hb];rfl
def sN(L:List (List Int))(k:Nat):List Nat:=(L.getD k []).map Int.toNat
def RelS(R:List Bool)(s:Nat->Bool):Prop:=∀ z,z<64->R.getD z false=s z
theorem O2{α:Type}{d:α}{l:List α}{i:Nat}{x:α}{k:Nat}(hk:k<64):(L4 64 d l i x).getD k d=if k=i then x else l.getD k d:=by
 rw[NN hk]
 by_cases h:k=i
 · simp
 ·have:Nat.beq k i=false:=by cases hb:Nat.beq k i with|false=>rfl|true=>simp_all
  rw[this,if_neg h];rfl
theorem RelS.set{R:List Bool}{s:Nat->Bool}(h:RelS R s){y:Nat}:RelS (L4 64 false R y true) (upd s y):=λz hz=>by
 rw[O2 hz,h z hz]
 by_cases hzy:z=y
 ·simp[upd]
 ·simp[upd]
def Q7(o:List Nat):List Int:=o.map Int.ofNat
theorem YL{g:C8}(hm:Ld g.Succ=true){s s':Nat->Bool}{l o:List Nat}(hv:VL (sN g.Succ) s l s' o) :
  ∀(R:List Bool) (T st Lf:List Int) (a t:Nat),RelS R s->a<g.Succ.length->l=(sN g.Succ a).drop t->T.getD a 0=(t:Int)->t<=(sN g.Succ a).length->s a=true->(∀ z,z<64->s z=false->T.getD z 0=0)->
   Lf.length+SG 64 s+st.length+1<=64->
   ∃(R':List Bool) (T':List Int),RelS R' s'/\(∀ z,z<64->s' z=false->T'.getD z 0=0)/\(∀ z,z<64->s z=true->z≠a->T'.getD z 0=T.getD z 0)/\Lf.length+o.length+SG 64 s'+st.length+1<=64 /\
    Af (Dq g) (R,T,st++[(a:Int)],Lf)=if st=[] then some (Lf++Q7 o++[(a:Int)]).reverse else Af (Dq g) (R',T',st,Lf++Q7 o++[(a:Int)]):=by
 obtain⟨hL1,hL64,hLok⟩:=mayS_iff.1 hm
 have hlenS:∀ a,(sN g.Succ a).length=(g.Succ.getD a []).length:=λa=>by simp[sN]
 have hdrop:∀(a t y:Nat) (l':List Nat),a<g.Succ.length->y::l'=(sN g.Succ a).drop t->t<(g.Succ.getD a []).length/\(g.Succ.getD a []).getD t 0=(y:Int)/\y<g.Succ.length/\l'=(sN g.Succ a).drop (t+1):=λa t y l' ha he=>by
  have ht:t<(sN g.Succ a).length:=by
   rcases zzL121 t (sN g.Succ a).length with h|h
   ·exact h
   ·rw[List.drop_eq_nil_of_le h]at he;cases he
  rw[JJ ht]at he;simp only[Cp]at he;obtain⟨h1,h2⟩:=he
  have ht':t<(g.Succ.getD a []).length:=by rw[<- hlenS];exact ht
  obtain⟨b0,b1⟩:=BK (hLok a ha) ht'
  have h3:(sN g.Succ a)[t]=((g.Succ.getD a []).getD t 0).toNat:=by rw[Aa _ _ _ ht'];simp[sN]
  exact⟨ht',by omega,by omega,h2⟩
 induction hv with
 | nil s=>
  intro R T st Lf a t hR ha hl hT htl hsa hz hc
  have ht:t=(g.Succ.getD a []).length:=by
   have:=Bi List.length hl;simp at this;rw[hlenS]at htl this;omega
  refine⟨R,T,hR,hz,λ_ _ _ _=>rfl,by simpa using hc,?_⟩
  have hF:Dq g (R,T,st++[(a:Int)],Lf)=if st=[] then some (.done (Lf++[(a:Int)]).reverse) else some (.next (R,T,st,Lf++[(a:Int)])):=by
   rw[aj (by omega) (by omega),Am (kI (by omega) ha hL64 (by rw[hT,ht]))]
   rfl
  by_cases hst:st=[]
  ·rw[if_pos hst]at hF ⊢;rw[Am hF];simp[Q7]
  ·rw[if_neg hst]at hF ⊢;rw[An hF];simp[Q7]
 | @skip s s' y l o h tl ih=>
  intro R T st Lf a t hR ha hl hT htl hsa hz hc;obtain⟨h1,h2,h3,h4⟩:=hdrop a t y l ha hl;have hb:=FO (hLok a ha);have hs:=ak (g:=g) (R:=R) (st:=st) (T:=T) (a:=a) (t:=t) (y:=y) (by omega) ha hL64 hT h1 (by omega) h2 h3;rw[hR y (by omega),h,Ai]at hs;obtain⟨R',T',a1,a2,a3,a4,a5⟩:=ih R (L4 64 (0:Int) T a ((t+1:Nat):Int)) st Lf a (t+1) hR ha h4 (by rw[O2 (by omega),if_pos rfl]) (by rw[hlenS];omega) hsa
   (λz hz1 hz2=>by rw[O2 hz1,if_neg (by rintro rfl;rw[hsa]at hz2;cases hz2)];exact hz z hz1 hz2) hc
  refine⟨R',T',a1,a2,λz hz1 hz2 hz3=>by rw[a3 z hz1 hz2 hz3,O2 hz1,if_neg hz3],a4,?_⟩;rw[<- a5]
  apply YA
  rw[aj (by omega) (by omega),aj (by omega) (by omega),An hs]
 | @step s s1 s2 y l o1 o2 h tl tr ih1 ih2=>
  intro R T st Lf a t hR ha hl hT htl hsa hz hc;obtain⟨h1,h2,h3,h4⟩:=hdrop a t y l ha hl;have hb:=FO (hLok a ha)
  have hay:y≠a:=by rintro rfl;rw[hsa]at h;cases h
  have hs:=ak (g:=g) (R:=R) (st:=st) (T:=T) (a:=a) (t:=t) (y:=y) (by omega) ha hL64 hT h1 (by omega) h2 h3;rw[hR y (by omega),h,A8]at hs;have hcu:=V1 (n:=64) (show y<64 by omega) h
  have hF:Dq g (R,T,st++[(a:Int)],Lf)=some (.next (L4 64 false R y true,L4 64 (0:Int) T a ((t+1:Nat):Int),(st++[(a:Int)])++[(y:Int)],Lf)):=by
   rw[aj (by omega) (by omega),Am hs]
   rfl
  obtain⟨R1,T1,b1,b2,b3,b4,b5⟩:=ih1 (L4 64 false R y true) (L4 64 (0:Int) T a ((t+1:Nat):Int)) (st++[(a:Int)]) Lf y 0 hR.set h3 (by simp)
   (by rw[O2 (by omega),if_neg hay];exact hz y (by omega) h) (Lz _) (upd_true.2 (.inl rfl))
   (λz hz1 hz2=>by
    obtain⟨c1,c2⟩:=upd_false.1 hz2;rw[O2 hz1,if_neg (by rintro rfl;rw[hsa]at c2;cases c2)]
    exact hz z hz1 c2) (by rw[Fb,DZ];omega)
  rw[if_neg (by simp)]at b5
  have hTa:T1.getD a 0=((t+1:Nat):Int):=by rw[b3 a (by omega) (upd_true.2 (.inr hsa)) (My hay),O2 (by omega),if_pos rfl]
  rw[Fb,DZ]at b4;obtain⟨R2,T2,c1,c2,c3,c4,c5⟩:=ih2 R1 T1 st (Lf++Q7 o1++[(y:Int)]) a (t+1) b1 ha h4 hTa (by rw[hlenS];omega) ((tl.seen a).2 (.inl (upd_true.2 (.inr hsa)))) b2
   (by simp only[Fb,DZ,Q7,B9];omega)
  refine⟨R2,T2,c1,c2,λz hz1 hz2 hz3=>?_,?_,?_⟩
  ·rw[c3 z hz1 ((tl.seen z).2 (.inl (upd_true.2 (.inr hz2)))) hz3,b3 z hz1 (upd_true.2 (.inr hz2)) (by rintro rfl;rw[h]at hz2;cases hz2),O2 hz1,if_neg hz3]
  ·simp only[Fb,DZ,Q7,B9,Xj]at c4 ⊢;omega
  ·rw[An hF,b5,c5]
   have e:Lf++Q7 o1++[(y:Int)]++Q7 o2++[(a:Int)]=Lf++Q7 (o1++y::o2)++[(a:Int)]:=by simp[Q7]
   rw[e]
theorem Vb{L:List (List Int)}(h:Ld L=true):∀ z,z<L.length->∀ y∈sN L z,y<L.length:=λz hz y hy=>by
 obtain⟨_,_,h3⟩:=mayS_iff.1 h;obtain⟨x,hx,rfl⟩:=zzL14.1 hy;have:=PW (h3 z hz) hx;omega
theorem lE{r:Nat}(hr:r<64):SG 64 (one r)=63:=by
 have h:=V1  (s:=λ_=>false) hr rfl
 have e:upd (λ_=>false) r=one r:=by funext z;simp[upd,one]
 rw[e]at h
 have:SG 64 (λ_=>false)=64:=by decide
 omega
theorem Zu{α:Type}{n z:Nat}{d:α}:(List.replicate n d).getD z d=d:=by grind
theorem PQ(g:C8)(h:Fits g.Succ)(hP:True)(r:Int) :
  (BE g=true->0<=r->r<(g.Succ.length:Int)->∀ L,Ord (sN g.Succ) r.toNat L->Hu g r=some (Q7 L)) /\
  ((BE g&&(decide (0<=r)&&decide (r<(g.Succ.length:Int))))=false->Hu g r=some []):=by
 refine⟨λhm h0 h1 L hL=>?_,λhf=>?_⟩
 ·have hms:Ld g.Succ=true:=by unfold BE at hm;exact(Az _ _▸hm).1
  obtain⟨hL1,hL64,hLok⟩:=mayS_iff.1 hms;obtain⟨s',o,hv,rfl⟩:=hL;have hrn :=Xh h0
  have hr:r.toNat<g.Succ.length:=by omega
  obtain⟨R',T',_,_,_,_,hmain⟩:=YL hms hv (L4 64 false (List.replicate 64 false) r.toNat true) _ [] [] r.toNat 0
   (λz hz=>by rw[O2 hz,Zu];by_cases hzr:z=r.toNat<;>simp[one,hzr]) hr (by simp) Zu (Lz _) (by simp[one])
   (λz hz _=>Zu) (by rw[lE (by omega)];simp)
  rw[if_pos rfl,hrn]at hmain;unfold Hu;rw[nB _ h,hm,Ax];simp only[Hz,Vm,Ai,A8,Rh,Gw h0,Gw h1,Bool.and_self,Ax];rw[Aj ⟨h0,by omega⟩];have hF:∀ X,Af (Dq g) (L4 64 false (List.replicate 64 false) r.toNat true,List.replicate 64 (0:Int),[]++[r],[])=some X->
    (Nj _ (Dq g)).bind (λx=>some x)=some X:=λX hX=>by
   rw[DU];rw[hX];rfl
  refine(hF _ hmain).trans ?_;simp only[Vp,List.reverse_append,Q7,B4,List.map_reverse,List.reverse_cons,List.reverse_nil]
  simp
  omega
 ·unfold Hu;rw[nB _ h,Ax]
  cases hm:BE g with
  | false=>rfl
  | true=>
   rw[hm,Kw]at hf;simp only[Hz,Vm,Ai,A8,Rh,hf,Ax,Lx]
   rfl
def RelN(n:Nat)(R:List Bool)(s:Nat->Bool):Prop:=R.length=n/\∀ z,z<n->R.getD z false=s z
theorem RelN.set{n:Nat}{R:List Bool}{s:Nat->Bool}(h:RelN n R s){y:Nat}(hy:y<n):RelN n (R.set y true) (upd s y):=by
 refine⟨by rw[D8];exact h.1,λz hz=>?_⟩;rw[R3,List.getElem?_set]
 by_cases hzy:y=z
 ·subst hzy;simp[upd,h.1,hy]
 ·rw[if_neg hzy,<- R3,h.2 z hz];simp[upd,My hzy]
theorem O7:∀(n:Nat) (l:List Nat),l.Nodup->(∀ x∈l,x<n)->l.length<=n
 | 0,l,_,h=>by
  cases l with
  | nil=>simp
  | cons x l=>have:=h x (zzL53 ..);omega
 | n+1,l,hd,h=>by
  by_cases hn:n∈l
  ·have h1:=O7 n _ (hd.erase n) λx hx=>by
    grind
   rw[List.length_erase_of_mem hn]at h1;omega
  ·have h1:=O7 n l hd λx hx=>by
    grind
   omega
theorem X9:∀{a b:List Int},a.Pairwise (·<·)->b.Pairwise (·<·)->(∀ x,x∈a↔x∈b)->a=b
 | [],[],_,_,_=>rfl
 | [],y::b,_,_,h=>by have:=(h y).2 (zzL53 ..);cases this
 | x::a,[],_,_,h=>by have:=(h x).1 (zzL53 ..);cases this
 | x::a,y::b,ha,hb,h=>by
  have ha':=zzL69.1 ha;have hb':=zzL69.1 hb
  have hxy:x=y:=by
   rcases zzL35.1 ((h x).1 (zzL53 ..)) with h1|h1
   ·exact h1
   ·rcases zzL35.1 ((h y).2 (zzL53 ..)) with h2|h2
    ·exact h2.symm
    ·grind
  congr 1
  refine X9 ha'.2 hb'.2 λz=>⟨λhz=>?_,λhz=>?_⟩
  ·grind
  ·grind
theorem ST(p:Nat->Bool)(n:Nat):(((List.range n).filter p).map Int.ofNat).Pairwise (·<·):=by
 rw[List.pairwise_map];have:=(List.pairwise_lt_range (n:=n)).filter p
 exact this.imp λh=>by simpa using h
theorem iN{p:Nat->Bool}{n:Nat}{x:Int}:x∈((List.range n).filter p).map Int.ofNat↔∃ k:Nat,x=(k:Int)/\k<n/\p k=true:=by
 grind
theorem gz{L:List (List Int)}{k i:Nat}:CZ L k i=true↔(i:Int)∈L.getD k []:=by unfold CZ;rw[Zy]
theorem oV{L:List (List Int)}(h:Ld L=true){x y:Nat}(hx:x<L.length):y∈sN L x↔(y:Int)∈L.getD x []:=by
 obtain⟨_,_,h3⟩:=mayS_iff.1 h;unfold sN;rw[zzL14]
 constructor
 ·rintro⟨z,hz,rfl⟩;have:=PW (h3 x hx) hz;rw[Xh this.1];exact hz
 ·grind
def mk(o:List Bool)(l:List Nat):List Bool:=l.foldl (λo y=>o.set y true) o
theorem oW(l:List Nat):∀ o:List Bool,(mk o l).length=o.length:=by
 induction l with
 | nil=>intro o;rfl
 | cons y l ih=>intro o;show(mk _ l).length=_;rw[ih,D8]
theorem mk_at{n:Nat}(l:List Nat):∀(o:List Bool),o.length=n->(∀ y∈l,y<n)->∀ z,(mk o l).getD z false=true↔o.getD z false=true\/z∈l:=by
 induction l with
 | nil =>  simp[mk]
 | cons y l ih=>
  intro o ho hl z
  show(mk _ l).getD z _=true↔_
  rw[ih _ (by grind) (λu hu=>hl u (Jz _ hu)) z]
  have e:(o.set y true).getD z false=true↔o.getD z false=true\/z=y:=by
   grind
  rw[e,zzL35]
  constructor
  ·grind
  ·rintro(h|h|h)
   ·exact .inl (.inl h)
   ·exact .inl (.inr h)
   ·exact .inr h
def sw(S:Nat->List Nat)(o:List Bool):Nat->List Bool
 | 0=>o
 | i+1=>if(sw S o i).getD i false=true then mk (sw S o i) (S i) else sw S o i
def NG(S:Nat->List Nat)(n:Nat)(o:List Bool):Nat->List Bool
 | 0=>o
 | j+1=>sw S (NG S n o j) n
section
variable {S:Nat->List Nat} {n:Nat} (hS:∀ z,z<n->∀ y∈S z,y<n)
theorem sw_len(o:List Bool):∀ i,(sw S o i).length=o.length:=by
 intro i
 induction i with
 | zero=>rfl
 | succ i ih=>unfold sw;split;rw[oW,ih];exact ih
theorem ly(o:List Bool):∀ j,(NG S n o j).length=o.length:=by
 intro j
 induction j with
 | zero=>rfl
 | succ j ih=>unfold NG;rw[sw_len,ih]
include hS
theorem FU{o:List Bool}(ho:o.length=n):∀ i,i<=n->∀ z,o.getD z false=true->(sw S o i).getD z false=true:=by
 intro i
 induction i with
 | zero=>intro _ z h;exact h
 | succ i ih=>
  intro hi z h;unfold sw
  split
  ·exact(mk_at  _ _ (by rw[sw_len];exact ho) (hS i (by omega)) z).2 (.inl (ih (by omega) z h))
  ·exact ih (by omega) z h
theorem jE{o:List Bool}{r:Nat}(ho:o.length=n)(h:∀ z,o.getD z false=true->Rch S r z):∀ i,i<=n->∀ z,(sw S o i).getD z false=true->Rch S r z:=by
 intro i
 induction i with
 | zero=>intro _ z hz;exact h z hz
 | succ i ih=>
  intro hi z hz;unfold sw at hz
  split at hz
  ·rename_i hsi
   rcases(mk_at  _ _ (by rw[sw_len];exact ho) (hS i (by omega)) z).1 hz with h1|h1
   ·exact ih (by omega) z h1
   ·exact(ih (by omega) i hsi).tail h1
  ·exact ih (by omega) z hz
theorem mM{o:List Bool}(ho:o.length=n):∀ i,i<=n->∀ j,j<i->o.getD j false=true->∀ y∈S j,(sw S o i).getD y false=true:=by
 intro i
 induction i with
 | zero =>  omega
 | succ i ih=>
  intro hi j hj hoj y hy;unfold sw
  by_cases hji:j=i
  ·subst hji;have h1:=FU hS ho j (by omega) j hoj;rw[if_pos h1];exact(mk_at  _ _ (by rw[sw_len];exact ho) (hS j (by omega)) y).2 (.inr hy)
  ·have h1:=ih (by omega) j (by omega) hoj y hy
   split
   ·exact(mk_at  _ _ (by rw[sw_len];exact ho) (hS i (by omega)) y).2 (.inl h1)
   ·exact h1
theorem dy{o:List Bool}(ho:o.length=n)(hc:∀ j,j<n->o.getD j false=true->∀ y∈S j,o.getD y false=true):∀ i,i<=n->∀ z,(sw S o i).getD z false=true->o.getD z false=true:=by
 intro i
 induction i with
 | zero=>intro _ z h;exact h
 | succ i ih=>
  intro hi z hz;unfold sw at hz
  split at hz
  ·rcases(mk_at  _ _ (by rw[sw_len];exact ho) (hS i (by omega)) z).1 hz with h1|h1
   ·exact ih (by omega) z h1
   ·grind
  ·exact ih (by omega) z hz
theorem U4{r:Nat}(hr:r<n)(z:Nat):(NG S n ((List.replicate n false).set r true) n).getD z false=true↔Rch S r z:=by
 let o0:=(List.replicate n false).set r true
 have ho0:o0.length=n:=by simp[o0]
 have hat0:∀ z,o0.getD z false=true↔z=r:=λz=>by
  grind
 have hlen:∀ j,(NG S n o0 j).length=n:=λj=>by rw[ly,ho0]
 have hsound:∀ j z,(NG S n o0 j).getD z false=true->Rch S r z:=by
  intro j
  induction j with
  | zero=>intro z hz;rw[(hat0 z).1 hz];exact .refl _
  | succ j ih=>intro z hz;exact jE hS (hlen j) ih n (zzL5 _) z hz
 have hmono:∀ j,∀ z,o0.getD z false=true->(NG S n o0 j).getD z false=true:=by
  intro j
  induction j with
  | zero=>intro z h;exact h
  | succ j ih=>intro z h;exact FU hS (hlen j) n (zzL5 _) z (ih z h)
 let C:Nat->Prop:=λj=>∀ i,i<n->(NG S n o0 j).getD i false=true->∀ y∈S i,(NG S n o0 j).getD y false=true
 have key:∀ j,C j\/SG n (λz=>(NG S n o0 j).getD z false)+j+1<=n:=by
  intro j
  induction j with
  | zero=>
   refine .inr ?_;have h1:=V1 (n:=n) (s:=λ_=>false) hr rfl
   have e:upd (λ_=>false) r=λz=>(NG S n o0 0).getD z false:=by
    funext z
    rw[Vh,upd_true]
    show _↔o0.getD z false=true
    rw[hat0]
    simp
   rw[e]at h1
   have hcl:SG n (λ_=>false)=n:=by
    unfold SG;rw[List.filter_eq_self.2 (by simp)]
    simp
   omega
  | succ j ih=>
   by_cases hc:C j
   ·refine .inl λi hi h y hy=>?_;have h1:=dy hS (hlen j) hc n (zzL5 _) i h;exact FU hS (hlen j) n (zzL5 _) y (hc i hi h1 y hy)
   ·rcases ih with ih|ih
    ·exact(hc ih).elim
    ·refine .inr ?_
     have hex:∃ i,i<n/\(NG S n o0 j).getD i false=true/\∃ y,y∈S i/\(NG S n o0 j).getD y false=false:=by
      grind
     obtain⟨i,hi,h1,y,hy,h2⟩:=hex;have h3:=mM hS (hlen j) n (zzL5 _) i hi h1 y hy;have hyn:=hS i hi y hy;have h4:=V1 (n:=n) (s:=λz=>(NG S n o0 j).getD z false) hyn h2
     have h5:SG n (λz=>(NG S n o0 (j+1)).getD z false)<=SG n (upd (λz=>(NG S n o0 j).getD z false) y):=SH λz hz=>by
      rcases upd_true.1 hz with rfl|hz
      ·exact h3
      ·exact FU hS (hlen j) n (zzL5 _) z hz
     omega
 constructor
 ·exact hsound n z
 ·intro hrch
  have hlt:∀ x z,Rch S x z->x<n->z<n/\((NG S n o0 n).getD x false=true->(NG S n o0 n).getD z false=true):=by
   intro x z hxz
   induction hxz with
   | refl x=>exact λhx=>⟨hx,id⟩
   | @head x y z hy _ ih=>
    grind
  exact(hlt r z hrch hr).2 (hmono n r ((hat0 r).2 rfl))
end
def pos:List Nat->Nat->Nat
 | [],_=>0
 | x::l,z=>if x=z then 0 else pos l z+1
theorem IJ(x:Nat)(l:List Nat)(z:Nat):pos (x::l) z=if x=z then 0 else pos l z+1:=rfl
theorem lv{A l:List Nat}{z:Nat}(h:z∉A):pos (A++l) z=A.length+pos l z:=by
 induction A with
 | nil=>simp
 | cons x A ih=>
  have h1:x≠z:=λe=>h (by grind);have h2 :=λe=>h (Jz _ e);rw[EC,IJ,if_neg h1,ih h2,Xj];omega
theorem FR{P:List Nat}(hd:P.Nodup){i:Nat}(hi:i<P.length):P[i]∉P.take i/\pos P P[i]=i:=by
 have e:P=P.take i++P[i]::P.drop (i+1):=by simp_all
 have hn:P[i]∉P.take i:=by
  grind
 refine⟨hn,?_⟩
 have h2:pos (P.take i++P[i]::P.drop (i+1)) P[i]=i:=by
  rw[lv hn]
  have:pos (P[i]::P.drop (i+1)) P[i]=0:=by rw[IJ,if_pos rfl]
  rw[ R4];omega
 rw[<- e]at h2;exact h2
theorem SJ(d:Array Int)(hs:∀ i j,i<=j->j<d.size->d[i]!<=d[j]!):∀ m,m<=d.size->(∀ x∈Lib.compactUpTo d m,∃ j,j<m/\x=d[j]!)/\(∀ j,j<m->d[j]!∈Lib.compactUpTo d m)/\(Lib.compactUpTo d m).Pairwise (·<·):=by
 intro m
 induction m with
 | zero=>intro _;exact⟨(λx hx=>by simp[Lib.compactUpTo]at hx),(λj hj=>by omega),by simp[Lib.compactUpTo]⟩
 | succ m ih=>
  intro hm;obtain⟨h1,h2,h3⟩:=ih (by omega);rw[Lib.compactUpTo_succ]
  cases hk:Lib.keeps d m with
  | true=>
   rw[if_pos rfl];refine⟨λx hx=>?_,λj hj=>?_,?_⟩
   ·grind
   ·grind
   ·rw[zzL122];refine⟨h3,List.pairwise_singleton _ _,λx hx y hy=>?_⟩;obtain⟨j,hj,rfl⟩:=h1 x hx
    have hy':y=d[m]!:=by simpa using hy
    subst hy'
    have hk':m=0\/d[m]!≠d[m-1]!:=by simpa [Lib.keeps] using hk
    rcases hk' with h0|h0
    ·omega
    ·have a1:=hs j (m-1) (by omega) (by omega);have a2:=hs (m-1) m (by omega) (by omega);omega
  | false=>
   have hk':m≠0/\d[m]! = d[m-1]!:=by
    have:¬ (m=0\/d[m]!≠d[m-1]!):=by
     intro h
     have:Lib.keeps d m=true:=by simpa [Lib.keeps] using h
     rw[hk]at this;cases this
    exact⟨λh=>this (.inl h),Classical.not_not.1 λh=>this (.inr h)⟩
   simp only[JS,F6,List.append_nil];refine⟨λx hx=>by grind,λj hj=>?_,h3⟩
   by_cases hjm:j=m
   ·subst hjm;rw[hk'.2];exact h2 _ (by omega)
   ·exact h2 j (by omega)
def W9(l:List Int):List Int:=Lib.compact (l.mergeSort λx y=>decide (x<=y))
theorem NK(l:List Int):(W9 l).Pairwise (·<·)/\∀ x,x∈W9 l↔x∈l:=by
 unfold W9 Lib.compact;have hp:(l.mergeSort _).Pairwise (λa b=>decide (a<=b)=true):=List.pairwise_mergeSort (λa b c h1 h2=>by simp at *;omega) (λa b=>by simp;omega) l;have hm:∀ x,x∈(l.mergeSort λx y=>decide (x<=y))↔x∈l:=λx=>List.mem_mergeSort
 generalize l.mergeSort _=z at hp hm ⊢
 have hz:∀ j,j<z.length->z.toArray[j]! = z.getD j 0:=λj hj=>by simp[ hj]
 obtain⟨h1,h2,h3⟩:=SJ z.toArray (λi j hij hj=>by
  have hj' :=by simpa using hj
  rw[hz i (by omega),hz j hj']
  by_cases he:i=j
  ·grind
  ·have:=(zzL87.1 hp) i j (by omega) hj' (by omega);rw[Aa _ _ _ _,Aa _ _ _ hj']
   simpa using this) z.length (by simp)
 refine⟨h3,λx=>?_⟩;rw[<- hm x]
 constructor
 ·grind
 ·intro hx;obtain⟨j,hj,rfl⟩:=E1 hx;have:=h2 j hj;rwa[hz j hj,Aa _ _ _ hj]at this
def nH(n:Nat)(l:List Int):Bool:=(List.range l.length).all λi=>decide (0<l.getD i 0)&&decide (l.getD i 0<(n:Int))
def VN(k:Int):Int:=([0,1,2,0]:List Int).getD k.toNat 0
def Y9(e:F4):Bool:=(decide (0<=e.Kind)&&decide (e.Kind<=3))&&decide ((e.To.length:Int)=VN e.Kind)
def Jj(e:F4)(n:Nat):Bool:=Y9 e&&nH n e.To
theorem toB_iff{n:Nat}{l:List Int}:nH n l=true↔∀ x∈l,0<x/\x<n:=by
 unfold nH;rw[all_range];simp only[Az,El]
 constructor
 ·intro h x hx;obtain⟨i,hi,rfl⟩:=E1 hx;have:=h i hi;rwa[Aa _ _ _ hi]at this
 ·simp_all
theorem gk(e:F4)(n:Nat)(hl:e.To.length<4611686018427387904):Af (Ea e (n:Int)) (0:Int)=some (bif nH n e.To then .inl () else .inr false):=by
 have step:∀ j ,j<e.To.length->Ea e n j=bif (decide (0<e.To.getD j 0)&&decide (e.To.getD j 0<n)) then some (.next ((j+1:Int))) else some _:=λj hj=>by
  unfold Ea;simp only[Ao,Dd hj, Rh,w1 (show j<4611686018427387904 by omega)];rw[Aj (L7 hj)]
  by_cases h0:e.To.getD j 0=0
  ·rw[h0];rfl
  ·grind
 have:=O5 (Ea e n) (λj=>(j:Nat)) (λi=>decide (0<e.To.getD i 0)&&decide (e.To.getD i 0<n)) (.inl ()) (.inr false) e.To.length (λj hj hp=>?_) (λj hj hp=>?_) ?_
 ·exact this
 ·grind
 ·rw[step j hj,hp];rfl
 ·unfold Ea;simp only[Fm,A8]
theorem Y1(e:F4)(n:Nat)(w:Int)(hw:0<=w/\w<=2) :
  (bif ((e.To.length:Int)!=w) then(some false) else((Af (Ea e (n:Int)) (0:Int)).bind (λx10=>(match x10 with|(.inl _)=>(some true)|(.inr r12)=>(some r12)))))=some (decide ((e.To.length:Int)=w)&&nH n e.To):=by
 by_cases h:e.To.length=w
 ·rw[show(e.To.length !=w)=false by simpa using h, gk e n (by omega),Gw h]
  cases nH n _<;>rfl
 ·grind
theorem dS(e:F4)(n:Nat):K2 e (n:Int)=some (Jj e n):=by
 unfold K2 Jj Y9
 by_cases h0:e.Kind=0
 ·rw[h0];exact Y1 e n 0 (by omega)
 by_cases h1:e.Kind=1
 ·rw[h1];exact Y1 e n 1 (by omega)
 by_cases h2:e.Kind=2
 ·rw[h2];exact Y1 e n 2 (by omega)
 by_cases h3:e.Kind=3
 ·rw[h3];exact Y1 e n 0 (by omega)
 have e0:(e.Kind==0)=false:=by rw[zzL28];exact h0
 have e1:(e.Kind==1)=false:=by rw[zzL28];exact h1
 have e2:(e.Kind==2)=false:=by rw[zzL28];exact h2
 have e3:(e.Kind==3)=false:=by rw[zzL28];exact h3
 rw[e0,e1,e2,e3]
 have:(decide (0<=e.Kind)&&decide (e.Kind<=3))=false:=by
  by_cases h:0<=e.Kind
  ·rw[Gv (show ¬ e.Kind<=3 by omega)];simp
  ·rw[Gv h];rfl
 rw[this]
 rfl
theorem gr{e:F4}{n:Nat}(h:Jj e n=true):e.To.length<=2:=by
 unfold Jj Y9 at h;simp only[Az,El]at h;obtain⟨⟨⟨h0,h1⟩,h2⟩,_⟩:=h
 have:VN e.Kind<=2:=by
  have:e.Kind=0\/e.Kind=1\/e.Kind=2\/e.Kind=3:=by omega
  rcases this with h|h|h|h<;>rw[h]<;>decide
 omega
theorem bR{e:F4}{n:Nat}(h:Jj e n=true):nH n e.To=true:=by unfold Jj at h;exact(Az _ _▸h).2
def Md(f:Ab)(i:Nat):F4:=(f.Blocks.getD i (default:Ac)).End
def Bb(f:Ab):List (List Int):=(List.range f.Blocks.length).map λi=>W9 (Md f i).To
def Fn(f:Ab):Bool:=(decide (1<=f.Blocks.length)&&decide (f.Blocks.length<=64))&&(List.range f.Blocks.length).all λi=>Jj (Md f i) f.Blocks.length
theorem shape_iff{f:Ab}:Fn f=true↔(1<=f.Blocks.length/\f.Blocks.length<=64)/\∀ i,i<f.Blocks.length->Jj (Md f i) f.Blocks.length=true:=by
 unfold Fn;rw[Az,Az,all_range];simp only[El]
theorem mE{f:Ab}{i:Nat}(h:Jj (Md f i) f.Blocks.length=true):kF f.Blocks.length (W9 (Md f i).To)=true:=by
 obtain⟨h1,h2⟩:=NK (Md f i).To;exact oY (λx hx=>by have:=(toB_iff.1 (bR h)) x ((h2 x).1 hx);omega) h1
theorem Iv{f:Ab}(h:Fn f=true):Ld (Bb f)=true:=by
 obtain⟨⟨h1,h2⟩,h3⟩:=shape_iff.1 h
 have hl:(Bb f).length=f.Blocks.length:=by simp[Bb]
 refine mayS_iff.2 ⟨by omega,by omega,λi hi=>?_⟩;rw[hl]at hi ⊢;unfold Bb;rw[Kx hi];exact mE (h3 i hi)
theorem qa(f:Ab)(hf:f.Blocks.length<=maxLen):Pd f=some (bif Fn f then(Y5 (Bb f),0) else(g0,5)):=by
 have hroom:(1000:Nat)<=room:=by decide
 unfold Pd;rw[MT,Ax];have hsh:Fn f=((decide (1<=f.Blocks.length)&&decide (f.Blocks.length<=64))&&(List.range f.Blocks.length).all λi=>Jj (Md f i) f.Blocks.length):=rfl
 cases hc:(decide (1<=f.Blocks.length)&&decide (f.Blocks.length<=64)) with
 | false=>rw[hsh,hc];rfl
 | true=>
  have hc':=hc;simp only[Az,El]at hc';simp only[Hz,A8];rw[Aj ⟨by omega,Int.le_refl _,by omega⟩,Ao]
  let U:Nat->List (List Int):=λi=>(List.range f.Blocks.length).map λj=>if j<i then W9 (Md f j).To else[]
  have e0:List.replicate f.Blocks.length ([]:List Int)=U 0:=by
   simp only[U]
   apply List.ext_getElem?
   intro j
   by_cases hj:j<f.Blocks.length<;>simp[hj,List.getElem?_replicate]
  have eN:U f.Blocks.length=Bb f:=by
   simp only[U,Bb]
   apply Rk
   intro j hj;rw[if_pos hj]
  rw[e0]
  have hstep:∀ i:Nat,i<f.Blocks.length->Fk f ((i:Int),U i)=bif Jj (Md f i) f.Blocks.length then some (.next (((i+1:Nat):Int),U (i+1))) else some (.done (.inr (g0,5))):=λi hi=>by
   unfold Fk;simp only[Dd hi,Ai,Ao];rw[Aj (L7 hi)];have he:(⟨(f.Blocks.getD i (default:Ac)).End.Kind,(f.Blocks.getD i (default:Ac)).End.Arg,(f.Blocks.getD i (default:Ac)).End.To⟩:F4)=Md f i:=rfl;rw[he,dS,Ax]
   cases hfit:Jj (Md f i) f.Blocks.length with
   | false=>rfl
   | true=>
    have hl2:=gr hfit;simp only[Hz,A8,Ai]
    have hx:Zx (f.Blocks.getD i (default:Ac)).End.To=some (W9 (Md f i).To):=by
     unfold Zx;rw[bV,Aj (by show(Md f i).To.length<=_;omega)]
     rfl
    rw[hx,Ax,Aj (L7 (by simp[U];omega)),w1 (by omega)]
    congr 3
    simp only[U];rw[QQ]
    apply Rk
    intro j hj
    by_cases h1:j=i
    ·subst h1;rw[if_pos rfl,if_pos (by omega)]
    ·rw[if_neg h1]
     by_cases h2:j<i
     ·rw[if_pos h2,if_pos (by omega)]
     ·rw[if_neg h2,if_neg (by omega)]
  have:=O5 (Fk f) (λi=>(((i:Nat):Int),U i)) (λi=>Jj (Md f i) f.Blocks.length) (.inl (U f.Blocks.length)) (.inr (g0,5)) f.Blocks.length (λi hi hp=>?_) (λi hi hp=>?_) ?_
  ·rw[show Af (Fk f) ((0:Int),U 0)=_ from this,hsh,hc,eN,Kw]
   cases hall:(List.range f.Blocks.length).all λi=>Jj (Md f i) f.Blocks.length with
   | false=>rfl
   | true=>
    simp only[Ai,Ax];rw[TK _ (Iv (by rw[hsh,hc,hall];rfl))]
    rfl
  ·show Fk f (_,_)=_
   rw[hstep i hi,hp];rfl
  ·show Fk f (_,_)=_
   rw[hstep i hi,hp];rfl
  ·show Fk f (_,_)=_
   unfold Fk;simp only[Fm,A8]
inductive Rc (S:Nat->List Nat) (r:Nat):Nat->Prop
 | root:Rc S r r
 | step {x y:Nat} (h:Rc S r x) (hy:y∈S x):Rc S r y
inductive Av (S:Nat->List Nat) (r z:Nat):Nat->Prop
 | root (h:r≠z):Av S r z r
 | step {x y:Nat} (h:Av S r z x) (hy:y∈S x) (hz:y≠z):Av S r z y
inductive AvN (S:Nat->List Nat) (r z:Nat):Nat->Nat->Prop
 | root (h:r≠z) (k:Nat):AvN S r z k r
 | step {k x y:Nat} (h:AvN S r z k x) (hy:y∈S x) (hz:y≠z):AvN S r z (k+1) y
section
variable {S:Nat->List Nat} {r:Nat}
theorem rc_iff{x:Nat}:Rc S r x↔Rch S r x:=by
 constructor
 ·intro h
  induction h with
  | root=>exact .refl _
  | step _ hy ih=>exact ih.tail hy
 ·intro h
  have key:∀ a b,Rch S a b->Rc S r a->Rc S r b:=by
   intro a b hab
   induction hab with
   | refl x=>exact id
   | head hy _ ih=>exact λha=>ih (.step ha hy)
  exact key _ _ h .root
def wo(S:Nat->List Nat)(z:Nat):Nat->List Nat:=λx=>(S x).filter λy=>decide (y≠z)
theorem av_iff{z x:Nat}:Av S r z x↔r≠z/\Rch (wo S z) r x:=by
 constructor
 ·intro h
  induction h with
  | root h=>exact⟨h,.refl _⟩
  | step _ hy hz ih=>exact⟨ih.1,ih.2.tail (zzL126.2 ⟨hy,by simpa using hz⟩)⟩
 ·rintro⟨hr,h⟩
  have key:∀ a b,Rch (wo S z) a b->Av S r z a->Av S r z b:=by
   intro a b hab
   induction hab with
   | refl x=>exact id
   | head hy _ ih=>
    obtain⟨h1,h2⟩:=zzL126.1 hy;exact λha=>ih (.step ha h1 (by simpa using h2))
  exact key _ _ h (.root hr)
theorem Av.rc{z x:Nat}(h:Av S r z x):Rc S r x:=by
 induction h with
 | root _=>exact .root
 | step _ hy _ ih=>exact .step ih hy
theorem Av.ne{z x:Nat}(h:Av S r z x):x≠z:=by
 cases h with
 | root h=>exact h
 | step _ _ hz=>exact hz
theorem AvN.av{z k x:Nat}(h:AvN S r z k x):Av S r z x:=by
 induction h with
 | root h=>exact .root h
 | step _ hy hz ih=>exact .step ih hy hz
theorem AvN.up{z k x:Nat}(h:AvN S r z k x):AvN S r z (k+1) x:=by
 induction h with
 | root h k=>exact .root h _
 | step _ hy hz ih=>exact .step ih hy hz
theorem AvN.mono{z k m x:Nat}(h:AvN S r z k x)(hm:k<=m):AvN S r z m x:=by
 obtain⟨d,rfl⟩:=Nat.exists_eq_add_of_le hm;clear hm
 induction d with
 | zero=>exact h
 | succ d ih=>exact ih.up
theorem Av.avn{z x:Nat}(h:Av S r z x):∃ k,AvN S r z k x:=by
 induction h with
 | root h=>exact⟨0,.root h 0⟩
 | step _ hy hz ih=>obtain⟨k,hk⟩:=ih;exact⟨k+1,.step hk hy hz⟩
theorem AvN.via {z k x : Nat} (h : AvN S r z k x) (y : Nat) : AvN S r y k x ∨ AvN S r z k y := by
  induction h with
  | root h k => by_cases hy : r = y
                · subst hy; exact .inr (.root h _)
                · exact .inl (.root hy _)
  | @step k x w h hy hz ih =>
    rcases ih with h1 | h1
    · by_cases hw : w = y
      · subst hw; exact .inr (.step h hy hz)
      · exact .inl (.step h1 hy hw)
    · exact .inr h1.up
theorem cn(n:Nat):∃ K,∀ z,z<n->∀ x,x<n->Av S r z x->AvN S r z K x:=by
 have one:∀ z m,∃ K,∀ x,x<m->Av S r z x->AvN S r z K x:=by
  intro z m
  induction m with
  | zero=>simp_all
  | succ m ih=>
   obtain⟨K,hK⟩:=ih
   by_cases h:Av S r z m
   ·obtain⟨k,hk⟩:=h.avn;refine⟨max K k,λx hx ha=>?_⟩;rcases Nat.lt_succ_iff_lt_or_eq.1 hx with h1|rfl
    ·exact(hK x h1 ha).mono (Nat.le_max_left ..)
    ·exact hk.mono (Nat.le_max_right ..)
   ·refine⟨K,λx hx ha=>?_⟩;rcases Nat.lt_succ_iff_lt_or_eq.1 hx with h1|rfl
    ·exact hK x h1 ha
    ·exact absurd ha h
 have two:∀ m,∃ K,∀ z,z<m->∀ x,x<n->Av S r z x->AvN S r z K x:=by
  intro m
  induction m with
  | zero=>simp_all
  | succ m ih=>
   obtain⟨K,hK⟩:=ih;obtain⟨k,hk⟩:=one m n;refine⟨max K k,λz hz x hx ha=>?_⟩;rcases Nat.lt_succ_iff_lt_or_eq.1 hz with h1|rfl
   ·exact(hK z h1 x hx ha).mono (Nat.le_max_left ..)
   ·exact(hk x hx ha).mono (Nat.le_max_right ..)
 exact two n
end
inductive UpTo (par:Nat->Int):Nat->Nat->Prop
 | refl (x:Nat):UpTo par x x
 | up {x y z:Nat} (h:par x=(y:Int)) (t:UpTo par y z):UpTo par x z
inductive Fw (S:Nat->List Nat) (at_:Nat->Nat) (u:Nat):Nat->Prop
 | refl:Fw S at_ u u
 | step {v w:Nat} (h:Fw S at_ u v) (hw:w∈S v) (hl:at_ v<at_ w):Fw S at_ u w
section
variable {S:Nat->List Nat} {at_:Nat->Nat} {par:Nat->Int}
theorem Fw.le{u w:Nat}(h:Fw S at_ u w):at_ u<=at_ w:=by
 induction h with
 | refl=>exact zzL5 _
 | step _ _ hl ih=>omega
theorem Fw.trans{u v w:Nat}(h:Fw S at_ u v)(k:Fw S at_ v w):Fw S at_ u w:=by
 induction k with
 | refl=>exact h
 | step _ hw hl ih=>exact .step ih hw hl
theorem Fw.av{r d u w:Nat}(h:Fw S at_ u w)(ha:Av S r d u)(hd:at_ d<at_ u):Av S r d w:=by
 induction h with
 | refl=>exact ha
 | @step v w h hw hl ih=>exact .step ih hw (by rintro rfl;have:=h.le;omega)
theorem UpTo.trans{x y z:Nat}(h:UpTo par x y)(k:UpTo par y z):UpTo par x z:=by
 induction h with
 | refl x=>exact k
 | up h _ ih=>exact .up h (ih k)
theorem anc_up{x p z:Nat}(h:par x=(p:Int)):UpTo par x z↔z=x\/UpTo par p z:=by
 constructor
 ·intro k
  cases k with
  | refl=>exact .inl rfl
  | up h' t=>grind
 ·rintro(rfl|k)
  ·exact .refl _
  ·exact .up h k
theorem FB{x z:Nat}(h:∀ p:Nat,par x≠(p:Int)):UpTo par x z↔z=x:=by
 constructor
 ·intro k
  cases k with
  | refl=>rfl
  | up h' t=>exact absurd h' (h _)
 ·rintro rfl;exact .refl _
structure Inv(S:Nat->List Nat)(r n:Nat)(at_:Nat->Nat)(par:Nat->Int):Prop where
 top:par r = -1
 kind:∀ x,x<n->par x = -2\/x=r\/∃ z:Nat,par x=(z:Int)
 up:∀ x,x<n->∀ z:Nat,par x=(z:Int)->z<n/\par z≠-2/\at_ z<at_ x/\Fw S at_ z x
 rc:∀ x,x<n->par x≠-2->Rc S r x
 all:∀ x,x<n->par x≠-2->∀ d,¬ UpTo par x d->Av S r d x
end
section
variable {S:Nat->List Nat} {at_:Nat->Nat} {par:Nat->Int} {r n:Nat}
theorem Inv.anc(h:Inv S r n at_ par){x z:Nat}(k:UpTo par x z)(hx:x<n)(hp:par x≠-2):z<n/\par z≠-2/\at_ z<=at_ x/\Fw S at_ z x:=by
 induction k with
 | refl x=>exact⟨hx,hp,zzL5 _,.refl⟩
 | @up x y z hxy t ih=>
  obtain⟨h1,h2,h3,h4⟩:=h.up x hx y hxy;obtain⟨i1,i2,i3,i4⟩:=ih h1 h2;exact⟨i1,i2,by omega,i4.trans h4⟩
theorem Inv.root_anc(h:Inv S r n at_ par){z:Nat}:UpTo par r z↔z=r:=FB λp hp=>by rw[h.top]at hp;omega
theorem Inv.strict(h:Inv S r n at_ par){x z:Nat}(k:UpTo par x z)(hx:x<n)(hp:par x≠-2):z=x\/at_ z<at_ x:=by
 cases k with
 | refl=>exact .inl rfl
 | up hxy t=>
  obtain⟨h1,h2,h3,h4⟩:=h.up x hx _ hxy;obtain⟨i1,i2,i3,i4⟩:=h.anc t h1 h2;exact .inr (by omega)
theorem Inv.antisymm(h:Inv S r n at_ par){x z:Nat}(k:UpTo par x z)(m:UpTo par z x)(hx:x<n)(hp:par x≠-2):z=x:=by
 rcases h.strict k hx hp with rfl|h1
 ·rfl
 ·obtain⟨i1,i2,i3,i4⟩:=h.anc k hx hp;have:=(h.anc m i1 i2).2.2.1;omega
def MeetAt(par:Nat->Int)(a b m:Nat):Prop:=∀ w,UpTo par m w↔UpTo par a w/\UpTo par b w
theorem MU{a:Nat}:MeetAt par a a a:=λw=>by simp
theorem dZ{a b m:Nat}(h:MeetAt par a b m):MeetAt par b a m:=λw=>by rw[h w];exact And.comm
theorem Inv.meet_left(h:Inv S r n at_ par)(hinj:∀ x y,x<n->y<n->par x≠-2->par y≠-2->at_ x=at_ y->x=y){a b p m:Nat}(ha:a<n)(hpa:par a≠-2)(hb:b<n)(hpb:par b≠-2)(hab:a≠b)(hl:at_ b<=at_ a)(hp:par a=(p:Int))(k:MeetAt par p b m):MeetAt par a b m:=λw=>by
 rw[k w]
 constructor
 ·rintro⟨h1,h2⟩;exact⟨.up hp h1,h2⟩
 ·rintro⟨h1,h2⟩;rcases(anc_up hp).1 h1 with rfl|h1
  ·exfalso
   rcases h.strict h2 hb hpb with h3|h3
   ·exact hab h3
   ·omega
  ·exact⟨h1,h2⟩
end
section
variable {S:Nat->List Nat} {at_:Nat->Nat} {par:Nat->Int} {r n:Nat}
def Nk(par:Nat->Int)(y:Nat)(v:Int):Nat->Int:=λx=>if x=y then v else par x
def WK(S:Nat->List Nat)(n:Nat)(par:Nat->Int)(y z:Nat):Prop:=∀ w,UpTo par z w↔∀ p,p<n->y∈S p->par p≠-2->UpTo par p w
theorem CT{y:Nat}{v:Int}{x z:Nat}(k:UpTo par x z)(hy:¬ UpTo par x y):UpTo (Nk par y v) x z:=by
 induction k with
 | refl x=>exact .refl _
 | @up x q z h t ih=>
  have hxy:x≠y:=by rintro rfl;exact hy (.refl _)
  refine .up  ?_ (ih λk=>hy (.up h k));unfold Nk;rw[if_neg hxy];exact h
theorem RU{y:Nat}{v:Int}{x:Nat}(k:UpTo par x y):UpTo (Nk par y v) x y:=by
 induction k with
 | refl x=>exact .refl _
 | @up x q z h t ih=>
  by_cases hxy:x=z
  ·subst hxy;exact .refl _
  ·refine .up  ?_ ih;unfold Nk;rw[if_neg hxy];exact h
theorem anc_upd_inv{y:Nat}{v:Int}{x w:Nat}(k:UpTo (Nk par y v) x w):UpTo par x w\/(UpTo par x y/\UpTo (Nk par y v) y w):=by
 induction k with
 | refl x=>exact .inl (.refl _)
 | @up x q w h t ih=>
  by_cases hxy:x=y
  ·subst hxy;exact .inr ⟨.refl _,.up h t⟩
  ·unfold Nk at h;rw[if_neg hxy]at h;rcases ih with h1|⟨h1,h2⟩
   ·exact .inl (.up h h1)
   ·exact .inr ⟨.up h h1,h2⟩
theorem low_or{y:Nat}{v:Int}{x d:Nat}(k:UpTo par x y)(hd:UpTo par x d):UpTo par y d\/UpTo (Nk par y v) x d:=by
 induction k with
 | refl x=>exact .inl hd
 | @up x q y hq t ih=>
  by_cases e:x=y
  ·subst e;exact .inl hd
  ·rcases(anc_up hq).1 hd with rfl|k
   ·exact .inr (.refl _)
   ·rcases ih k with h1|h1
    ·exact .inl h1
    ·exact .inr (.up  (by unfold Nk;rw[if_neg e];exact hq) h1)
structure Better(S:Nat->List Nat)(r n:Nat)(at_:Nat->Nat)(par:Nat->Int)(y z:Nat):Prop where
 inv:Inv S r n at_ par
 hy:y<n
 hr:y≠r
 hz:z<n
 best:WK S n par y z
 fwd:∃ p,p<n/\y∈S p/\par p≠-2/\at_ p<at_ y
variable {y z:Nat}
theorem Better.zlt(h:Better S r n at_ par y z):UpTo par z z/\par z≠-2/\at_ z<at_ y/\Fw S at_ z y:=by
 obtain⟨p,hp,hyp,hpp,hl⟩:=h.fwd;obtain⟨h1,h2,h3,h4⟩:=h.inv.anc ((h.best z).1 (.refl _) p hp hyp hpp) hp hpp;exact⟨.refl _,h2,by omega,.step h4 hyp hl⟩
theorem Better.above(h:Better S r n at_ par y z){w:Nat}:UpTo (Nk par y z) z w↔UpTo par z w:=by
 obtain⟨_,h2,h3,_⟩:=h.zlt
 have hn:¬ UpTo par z y:=λk=>by have:=(h.inv.anc k h.hz h2).2.2.1;omega
 constructor
 ·intro k;rcases anc_upd_inv k with h1|⟨h1,_⟩
  ·exact h1
  ·exact absurd h1 hn
 ·intro k;exact CT k hn
theorem Better.here(h:Better S r n at_ par y z){w:Nat}:UpTo (Nk par y z) y w↔w=y\/UpTo par z w:=by
 rw[anc_up (p:=z) (by simp[Nk]),h.above]
theorem Better.av_here(h:Better S r n at_ par y z){d:Nat}(hd:¬ UpTo (Nk par y z) y d):Av S r d y:=by
 rw[h.here]at hd;have h1:¬ ∀ p,p<n->y∈S p->par p≠-2->UpTo par p d:=λhh=>hd (.inr ((h.best d).2 hh));simp only[Classical.not_forall]at h1;obtain⟨p,hp,hyp,hpp,hnp⟩:=h1;exact .step (h.inv.all p hp hpp d hnp) hyp λe=>hd (.inl e.symm)
theorem Better.inv'(h:Better S r n at_ par y z):Inv S r n at_ (Nk par y z):=by
 obtain⟨hzz,hz2,hzl,hzf⟩:=h.zlt;obtain⟨p,hp,hyp,hpp,hl⟩:=h.fwd
 have hne:∀ x,Nk par y z x≠-2->x=y\/par x≠-2:=λx hx=>by
  by_cases e:x=y
  ·exact .inl e
  ·unfold Nk at hx;rw[if_neg e]at hx;exact .inr hx
 have hyv:Nk par y z y=z:=by simp[Nk]
 have hyo:∀ x,x≠y->Nk par y z x=par x:=λx e=>by unfold Nk;rw[if_neg e]
 refine⟨by rw[hyo _ (My h.hr)];exact h.inv.top,λx hx=>?_,λx hx w hw=>?_,λx hx hxp=>?_,λx hx hxp d hd=>?_⟩
 ·by_cases e:x=y
  ·grind
  ·rw[hyo x e];exact h.inv.kind x hx
 ·have hzn:∀ w,par w≠-2->Nk par y z w≠-2:=λw hw=>by
   grind
  by_cases e:x=y
  ·subst e;rw[hyv]at hw
   cases CL hw
   exact⟨h.hz,hzn _ hz2,hzl,hzf⟩
  ·rw[hyo x e]at hw;obtain⟨h1,h2,h3,h4⟩:=h.inv.up x hx w hw;exact⟨h1,hzn _ h2,h3,h4⟩
 ·rcases hne x hxp with rfl|h1
  ·exact .step (h.inv.rc p hp hpp) hyp
  ·exact h.inv.rc x hx h1
 ·by_cases e:x=y
  ·subst e;exact h.av_here hd
  ·rw[hyo x e]at hxp
   by_cases hxd:UpTo par x d
   ·
    by_cases hxy:UpTo par x y
    ·have hyd :=λk=>hd ((RU hxy).trans k);have hav:=h.av_here hyd;have hf:=(h.inv.anc hxy hx hxp).2.2.2
     have hdy:UpTo par y d:=by
      rcases low_or  hxy hxd with h1|h1
      ·exact h1
      ·exact absurd h1 hd
     by_cases hpy:par y = -2
     ·
      have :=by
       refine(FB  λp hp=>?_).1 hdy;rw[hpy]at hp;omega
      subst this;exact absurd (.refl _) hyd
     ·rcases h.inv.strict hdy h.hy hpy with rfl|hlt
      ·exact absurd (.refl _) hyd
      ·exact hf.av hav hlt
    ·exact absurd (CT hxd hxy) hd
   ·exact h.inv.all x hx hxp d hxd
end
section
variable {S:Nat->List Nat} {at_:Nat->Nat} {par:Nat->Int} {r n:Nat}
def QB(S:Nat->List Nat)(r n:Nat)(par:Nat->Int)(b:Nat->Nat):Prop:=∀ x,x<n->par x≠-2->∀ z,AvN S r z (b x) x->¬ UpTo par x z
def WL(S:Nat->List Nat)(r n:Nat)(par:Nat->Int):Prop:=∀ x,x<n->Rc S r x->par x≠-2
def ai(S:Nat->List Nat)(r n:Nat)(par:Nat->Int):Prop:=∀ x,x<n->par x≠-2->∀ d,UpTo par x d↔¬ Av S r d x
theorem lx(h:Inv S r n at_ par):QB S r n par λ_=>0:=λx hx hp z hz k=>by
 cases hz with
 | root hr _=>exact hr (h.root_anc.1 k).symm
theorem bu(hS:∀ x,x<n->∀ w∈S x,w<n)(hr:r<n){x:Nat}(h:Rc S r x):x<n:=by
 induction h with
 | root=>exact hr
 | step _ hy ih=>exact hS _ ih _ hy
theorem Better.qb{y z k:Nat}{b:Nat->Nat}(h:Better S r n at_ par y z)(hS:∀ x,x<n->∀ w∈S x,w<n)(hrn:r<n)(full:WL S r n par)(hb:∀ x,x<n->k<=b x/\b x<=k+1)(q:QB S r n par b) :
  QB S r n (Nk par y z) λx=>if x=y then k+1 else b x:=by
 have here:∀ w,AvN S r w (k+1) y->¬ UpTo _ y w:=λw hw hu=>by
  rcases h.here.1 hu with rfl|hu
  ·exact hw.av.ne rfl
  ·cases hw with
   | root hr _=>exact h.hr rfl
   | @step _ p _ hp hyp hne=>
    have hpn:=bu hS hrn hp.av.rc;have hpp:=full p hpn hp.av.rc;exact q p hpn hpp w (hp.mono (hb p hpn).1) ((h.best w).1 hu p hpn hyp hpp)
 intro x hx hxp w hw hu
 dsimp only at hw
 by_cases e:x=y
 ·grind
 ·rw[if_neg e]at hw;unfold Nk at hxp;rw[if_neg e]at hxp;rcases anc_upd_inv hu with h1|⟨h1,h2⟩
  ·exact q x hx hxp w hw h1
  ·rcases hw.via y with h3|h3
   ·exact q x hx hxp y h3 h1
   ·exact here w (h3.mono (hb x hx).2) h2
theorem gn(h:Inv S r n at_ par){K:Nat}(hK:∀ z,z<n->∀ x,x<n->Av S r z x->AvN S r z K x)(q:QB S r n par λ_=>K):ai S r n par:=λx hx hp d=>by
 constructor
 ·intro hu ha;exact q x hx hp d (hK d (h.anc hu hx hp).1 x hx ha) hu
 ·intro ha;exact JK λhn=>ha (h.all x hx hp d hn)
theorem Better.same{y z:Nat}(h:Better S r n at_ par y z)(hS:∀ x,x<n->∀ w∈S x,w<n)(hrn:r<n)(full:WL S r n par)(hy2:par y≠-2)(ex:ai S r n par):par y=(z:Int):=by
 obtain⟨hzz,hz2,hzl,hzf⟩:=h.zlt;rcases h.inv.kind y h.hy with h1|h1|⟨q,hq⟩
 ·exact absurd h1 hy2
 ·exact absurd h1 h.hr
 ·obtain⟨q1,q2,q3,q4⟩:=h.inv.up y h.hy q hq
  have key:∀ w,UpTo par z w↔UpTo par q w:=λw=>by
   rw[h.best w]
   constructor
   ·intro hall
    have hwy:¬ Av S r w y:=λha=>by
     cases ha with
     | root _=>exact h.hr rfl
     | @step p _ hp hyp hne=>
      have hpn:=bu hS hrn hp.rc;have hpp:=full p hpn hp.rc;exact(ex p hpn hpp w).1 (hall p hpn hyp hpp) hp
    rcases(anc_up hq).1 ((ex y h.hy hy2 w).2 hwy) with rfl|hu
    ·have:=(h.inv.anc ((h.best _).2 hall) h.hz hz2).2.2.1;omega
    ·exact hu
   ·intro hu p hp hyp hpp;have hwy:UpTo par y w:=.up hq hu;refine(ex p hp hpp w).2 λha=>?_
    have hne:y≠w:=by rintro rfl;have:=(h.inv.anc hu q1 q2).2.2.1;omega
    exact(ex y h.hy hy2 w).1 hwy (.step ha hyp hne)
  have:=h.inv.antisymm ((key q).2 (.refl _)) ((key z).1 (.refl _)) h.hz hz2;rw[hq,this]
theorem dI(h:Inv S r n at_ par)(hS:∀ x,x<n->∀ w∈S x,w<n)(hrn:r<n)(full:WL S r n par)(fix:∀ y,y<n->y≠r->Rc S r y->∃ z:Nat,par y=(z:Int)/\WK S n par y z):ai S r n par:=λx hx hp d=>by
 constructor
 ·intro hu ha
  induction ha with
  | root hne=>exact hne (h.root_anc.1 hu).symm
  | @step p y hp' hyp hne ih=>
   have hpn:=bu hS hrn hp'.rc;have hpp:=full p hpn hp'.rc
   by_cases e:y=r
   ·subst e;exact hne (h.root_anc.1 hu).symm
   ·obtain⟨z,hz,hb⟩:=fix y hx e (.step hp'.rc hyp);rcases(anc_up hz).1 hu with rfl|hu
    ·exact hne rfl
    ·exact ih hpn hpp ((hb d).1 hu p hpn hyp hpp)
 ·intro ha;exact JK λhn=>ha (h.all x hx hp d hn)
end
def Bd(t:List Int):Nat->Int:=λx=>t.getD x 0
theorem UK{t:List Int}{y:Nat}{v:Int}(hy:y<t.length):Bd (t.set y v)=Nk (Bd t) y v:=by
 funext x
 unfold Bd Nk
 by_cases e:x=y
 ·grind
 ·grind
open Classical in
def K8(S:Nat->List Nat)(n:Nat)(t:List Int)(y:Nat):Nat:=if h:∃ z,z<n/\WK S n (Bd t) y z then Classical.choose h else 0
def Ud(S:Nat->List Nat)(n:Nat)(P:List Nat)(t:List Int):Nat->List Int
 | 0=>t
 | i+1=>(Ud S n P t i).set (P.getD i 0) (K8 S n (Ud S n P t i) (P.getD i 0):Int)
def KD(S:Nat->List Nat)(n:Nat)(P:List Nat)(t:List Int):Nat->List Int
 | 0=>t
 | j+1=>Ud S n P (KD S n P t j) P.length
def Gh(n r:Nat):List Int:=(List.replicate n (-2:Int)).set r (-1)
structure Ordered(S:Nat->List Nat)(r n:Nat)(P:List Nat):Prop where
 hr:r<n
 hS:∀ x,x<n->∀ w∈S x,w<n
 nodup:(r::P).Nodup
 mem:∀ x,x∈r::P↔Rc S r x
 fwd:∀ i,i<P.length->∃ p,p∈r::P.take i/\P.getD i 0∈S p
section
variable {S:Nat->List Nat} {r n:Nat} {P:List Nat}
theorem Ordered.lt(o:Ordered S r n P){x:Nat}(h:x∈r::P):x<n:=bu o.hS o.hr ((o.mem x).1 h)
theorem Rb{i:Nat}(hi:i<P.length):P.getD i 0∈P:=by grind
theorem Ordered.at_lt(o:Ordered S r n P){i:Nat}(hi:i<P.length){p:Nat}(hp:p∈r::P.take i):pos (r::P) p<pos (r::P) (P.getD i 0):=by
 have hd:=o.nodup
 have h1:pos (r::P) (P.getD i 0)=i+1:=by
  have:=(FR hd (i:=i+1) (by simpa using hi)).2;rw[Aa _ _ _ hi]
  simpa using this
 rw[h1];obtain⟨j,hj,rfl⟩:=E1 hp
 have hj':j<i+1:=by simp at hj;omega
 have hjl:j<(r::P).length:=by simp;omega
 have e:(r::P.take i)[j]=(r::P)[j]:=by
  grind
 rw[e,(FR hd hjl).2];exact hj'
theorem sb(o:Ordered S r n P):Inv S r n (pos (r::P)) (Bd (Gh n r))/\(Gh n r).length=n/\Bd (Gh n r) r≠-2:=by
 have hlen:(Gh n r).length=n:=by simp[Gh]
 have hr:=o.hr
 have at_:∀ x,x<n->Bd (Gh n r) x=if x=r then -1 else -2:=λx hx=>by
  unfold Bd Gh
  by_cases e:x=r
  ·grind
  ·grind
 have hno:∀ x,x<n->∀ p:Nat,Bd (Gh n r) x≠p:=λx hx p hp=>by grind
 refine⟨⟨by grind,λx hx=>?_,λx hx z hz=>absurd hz (hno x hx z),λx hx hp=>?_,λx hx hp d hd=>?_⟩,hlen,by grind⟩
 ·grind
 ·by_cases e:x=r
  ·subst e;exact .root
  ·grind
 ·by_cases e:x=r
  ·subst e;exact .root (λe=>hd (by rw[e];exact .refl _))
  ·grind
structure Ready(S:Nat->List Nat)(r n:Nat)(P:List Nat)(t:List Int)(i:Nat):Prop where
 inv:Inv S r n (pos (r::P)) (Bd t)
 len:t.length=n
 done:∀ x∈r::P.take i,Bd t x≠-2
theorem Inv.meets{at_:Nat->Nat}{par:Nat->Int}(h:Inv S r n at_ par)(hinj:∀ x y,x<n->y<n->par x≠-2->par y≠-2->at_ x=at_ y->x=y)(hr:at_ r=0):∀ m a b,at_ a+at_ b<=m->a<n->b<n->par a≠-2->par b≠-2->∃ c,MeetAt par a b c/\c<n/\par c≠-2:=by
 intro m
 induction m with
 | zero=>
  intro a b hm ha hb hpa hpb;have:a=b:=hinj a b ha hb hpa hpb (by omega);subst this;exact⟨a,MU,ha,hpa⟩
 | succ m ih=>
  have go:∀ a b,at_ a+at_ b<=m+1->a<n->b<n->par a≠-2->par b≠-2->at_ b<=at_ a->∃ c,MeetAt par a b c/\c<n/\par c≠-2:=λa b hm ha hb hpa hpb hl=>by
   by_cases e:a=b
   ·subst e;exact⟨a,MU,ha,hpa⟩
   ·rcases h.kind a ha with h1|h1|⟨p,hp⟩
    ·exact absurd h1 hpa
    ·subst h1;exact absurd (hinj a b ha hb hpa hpb (by omega)) e
    ·obtain⟨p1,p2,p3,p4⟩:=h.up a ha p hp;obtain⟨c,hc,hc2⟩:=ih p b (by omega) p1 hb p2 hpb;exact⟨c,h.meet_left hinj ha hpa hb hpb e hl hp hc,hc2⟩
  intro a b hm ha hb hpa hpb;rcases Nat.le_total (at_ b) (at_ a) with hl|hl
  ·exact go a b hm ha hb hpa hpb hl
  ·obtain⟨c,hc,hc2⟩:=go b a (by omega) hb ha hpb hpa hl;exact⟨c,dZ hc,hc2⟩
theorem Ready.inj(o:Ordered S r n P){t:List Int}{i:Nat}(h:Ready S r n P t i):∀ x y,x<n->y<n->Bd t x≠-2->Bd t y≠-2->pos (r::P) x=pos (r::P) y->x=y:=λx y hx hy hpx hpy he=>by
 have hm :=λx hx hp=>(o.mem x).2 (h.inv.rc x hx hp)
 have back:∀ x∈r::P,(r::P).getD (pos _ x) 0=x:=λx hx=>by
  obtain⟨j,hj,rfl⟩:=E1 hx;rw[(FR o.nodup hj).2,Aa _ _ _ hj]
 rw[<- back x (hm x hx hpx),<- back y (hm y hy hpy),he]
theorem UO:pos (r::P) r=0:=by rw[IJ,if_pos rfl]
theorem Ready.meetAll(o:Ordered S r n P){t:List Int}{i:Nat}(h:Ready S r n P t i):∀ l:List Nat,(∀ p∈l,p<n/\Bd t p≠-2)->l≠[]->∃ z,z<n/\Bd t z≠-2/\∀ w,UpTo (Bd t) z w↔∀ p∈l,UpTo (Bd t) p w:=by
 intro l
 induction l with
 | nil=>grind
 | cons p l ih=>
  intro hl _;obtain⟨hp1,hp2⟩:=hl p (zzL53 ..)
  by_cases hl0:l=[]
  ·grind
  ·obtain⟨z,hz1,hz2,hz3⟩:=ih (λq hq=>hl q (Jz _ hq)) hl0;obtain⟨c,hc1,hc2,hc3⟩:=h.inv.meets (h.inj o) UO _ p z (zzL5 _) hp1 hz1 hp2 hz2;exact⟨c,hc2,hc3,λw=>by rw[hc1 w,hz3 w];simp⟩
theorem Ready.best(o:Ordered S r n P){t:List Int}{i:Nat}(h:Ready S r n P t i)(hi:i<P.length):Better S r n (pos (r::P)) (Bd t) (P.getD i 0) (K8 S n t (P.getD i 0)):=by
 have hy:=Rb hi;have hyr:P.getD i 0≠r:=λe=>(zzL108.1 o.nodup).1 (e▸hy);have hyn:=o.lt (Jz _ hy);obtain⟨p,hp,hyp⟩:=o.fwd i hi;have hp2:=h.done p hp
 have hpP:p∈r::P:=by
  grind
 have hpn:=o.lt hpP
 have hex:∃ z,z<n/\WK S n (Bd t) (P.getD i 0) z:=by
  classical
  obtain⟨z,hz1,hz2,hz3⟩:=h.meetAll o ((List.range n).filter λp=>decide (P.getD i 0∈S p/\Bd t p≠-2)) (λp hp=>by
   grind) (λe=>by
   simp_all)
  refine⟨z,hz1,λw=>?_⟩
  constructor
  ·grind
  ·grind
 have hb:K8 S n t (P.getD i 0)<n/\WK S n (Bd t) (P.getD i 0) (K8 S n t (P.getD i 0)):=by
  unfold K8;rw[dif_pos hex];exact Classical.choose_spec hex
 exact⟨h.inv,hyn,hyr,hb.1,hb.2,p,hpn,hyp,hp2,o.at_lt hi hp⟩
theorem Ready.best_eq(o:Ordered S r n P){t:List Int}{i:Nat}(h:Ready S r n P t i)(hi:i<P.length){z:Nat}(hz:z<n)(hz2:Bd t z≠-2)(hb:WK S n (Bd t) (P.getD i 0) z):z=K8 S n t (P.getD i 0):=by
 have b:=h.best o hi;exact(h.inv.antisymm ((hb _).2 ((b.best _).1 (.refl _))) ((b.best _).2 ((hb _).1 (.refl _))) hz hz2).symm
theorem Ready.next(o:Ordered S r n P){t:List Int}{i:Nat}(h:Ready S r n P t i)(hi:i<P.length):Ready S r n P (t.set (P.getD i 0) (K8 S n t (P.getD i 0):Int)) (i+1):=by
 have b:=h.best o hi;have e:=UK   (v:=K8 S n t (P.getD i 0)) (by rw[h.len];exact b.hy);refine⟨by rw[e];exact b.inv',by rw[D8];exact h.len,λx hx=>?_⟩;rw[e];unfold Nk
 split
 ·omega
 ·refine h.done x ?_;rcases zzL35.1 hx with rfl|hx
  ·grind
  ·rw[List.take_succ_eq_append_getElem hi]at hx;rcases zzL9.1 hx with hx|hx
   ·grind
   ·grind
theorem Ready.more(o:Ordered S r n P){t:List Int}(h:Ready S r n P t P.length)(i:Nat):Ready S r n P t i:=
 ⟨h.inv,h.len,λx hx=>h.done x (by
  grind)⟩
theorem Ready.full(o:Ordered S r n P){t:List Int}(h:Ready S r n P t P.length):WL S r n (Bd t):=λx hx hr=>h.done x (by rw[Vo];exact(o.mem x).2 hr)
theorem Ready.round(o:Ordered S r n P){t:List Int}(h:Ready S r n P t 0):∀ i,i<=P.length->Ready S r n P (Ud S n P t i) i:=by
 intro i
 induction i with
 | zero=>intro _;exact h
 | succ i ih=>intro hi;exact(ih (by omega)).next o (by omega)
theorem oq(o:Ordered S r n P):Ready S r n P (Gh n r) 0:=by
 obtain⟨h1,h2,h3⟩:=sb o;exact⟨h1,h2,λx hx=>by grind⟩
theorem Ready.rounds(o:Ordered S r n P):∀ j,Ready S r n P (KD S n P (Gh n r) j) 0:=by
 intro j
 induction j with
 | zero=>exact oq o
 | succ j ih=>exact((ih.round o) _ (zzL5 _)).more o 0
theorem Ready.rounds'(o:Ordered S r n P)(j:Nat):Ready S r n P (KD S n P (Gh n r) (j+1)) P.length:=(Ready.rounds o j).round o _ (zzL5 _)
theorem ij(o:Ordered S r n P){t:List Int}{k:Nat}(h:Ready S r n P t P.length)(q:QB S r n (Bd t) λ_=>k):QB S r n (Bd (Ud S n P t P.length)) λ_=>k+1:=by
 have key:∀ i,i<=P.length->QB S r n (Bd (Ud S n P t i)) (λx=>if x∈P.take i then k+1 else k)/\WL S r n (Bd (Ud S n P t i)):=by
  intro i
  induction i with
  | zero=>intro _;exact⟨by simpa [Ud] using q,h.full o⟩
  | succ i ih=>
   intro hi;obtain⟨q1,f1⟩:=ih (by omega);have rd:=(h.more o 0).round o i (by omega);have b:=rd.best o (by omega);have e:=UK   (v:=K8 S n (Ud S n P t i) (P.getD i 0)) (by rw[rd.len];exact b.hy)
   constructor
   ·show QB S r n (Bd ((Ud S n P t i).set _ _)) _
    rw[e];have:=b.qb (k:=k) o.hS o.hr f1 (λx _=>by split<;>omega) q1;intro x hx hp z hz;refine this x hx hp z ?_;rw[List.take_succ_eq_append_getElem (by omega)]at hz
    by_cases e1:x=P.getD i 0
    ·grind
    ·grind
   ·show WL S r n (Bd ((Ud S n P t i).set _ _))
    rw[e];intro x hx hr;unfold Nk
    split
    ·omega
    ·exact f1 x hx hr
 have q1:=(key _ (zzL5 _)).1;rw[Vo]at q1;have rd:=(h.more o 0).round o _ (zzL5 _);intro x hx hp z hz;refine q1 x hx hp z ?_
 dsimp only at hz ⊢
 by_cases e:x∈P
 ·rw[if_pos e];exact hz
 ·rw[if_neg e]
  have hxr:x=r:=by
   rcases zzL35.1 ((o.mem x).2 (rd.inv.rc x hx hp)) with h1|h1
   ·exact h1
   ·exact absurd h1 e
  subst hxr;exact .root hz.av.ne k
def Uh(S:Nat->List Nat)(n:Nat)(P:List Nat)(t:List Int):Prop:=∀ i,i<P.length->Bd t (P.getD i 0)=(K8 S n t (P.getD i 0):Int)
theorem Vd{t:List Int}(o:Ordered S r n P)(hl:t.length=n)(h:Uh S n P t):∀ i,i<=P.length->Ud S n P t i=t:=by
 intro i
 induction i with
 | zero=>intro _;rfl
 | succ i ih=>
  intro hi;unfold Ud;rw[ih (by omega),<- h i (by omega)]
  have hlt:P.getD i 0<t.length:=by rw[hl];exact o.lt (Jz _ (Rb (by omega)))
  unfold Bd;rw[Aa _ _ _ hlt];exact List.set_getElem_self hlt
theorem nF(o:Ordered S r n P):∃ J,(∀ j,j<J->¬ Uh S n P (KD S n P (Gh n r) j))/\Uh S n P (KD S n P (Gh n r) J):=by
 obtain⟨K,hK⟩:=cn   n
 have hq:∀ k,QB S r n (Bd (KD S n P (Gh n r) (k+1))) λ_=>k:=by
  intro k
  induction k with
  | zero=>exact lx (Ready.rounds' o 0).inv
  | succ k ih=>exact ij o (Ready.rounds' o k) ih
 have hst :=λi hi=>by
  have rd:=Ready.rounds' o K;exact((rd.more o i).best o hi).same o.hS o.hr (rd.full o) (rd.done _ (Jz _ (by grind))) (gn rd.inv hK (hq K))
 have key:∀ m,(∃ J,J<=m/\Uh S n P (KD S n P (Gh n r) J))->∃ J,(∀ j,j<J->¬ Uh S n P (KD S n P (Gh n r) j))/\Uh S n P (KD S n P (Gh n r) J):=by
  intro m
  induction m with
  | zero=>grind
  | succ m ih=>
   rintro⟨J,hJ,h⟩
   by_cases hm:∃ J,J<=m/\Uh S n P (KD S n P (Gh n r) J)
   ·exact ih hm
   ·grind
 exact key _ ⟨K+1,zzL5 _,hst⟩
structure DomTree(S:Nat->List Nat)(r n:Nat)(P:List Nat)(t:List Int):Prop where
 inv:Inv S r n (pos (r::P)) (Bd t)
 len:t.length=n
 full:WL S r n (Bd t)
 exact_:ai S r n (Bd t)
theorem DX(o:Ordered S r n P){j:Nat}(h:Uh S n P (KD S n P (Gh n r) j)):DomTree S r n P (KD S n P (Gh n r) j):=by
 have rd:=Ready.rounds o j
 have hall :=by
  have:=rd.round o _ (zzL5 _);rwa[Vd o rd.len h _ (zzL5 _)]at this
 refine⟨rd.inv,rd.len,hall.full o,dI rd.inv o.hS o.hr (hall.full o) λy hy hne hr=>?_⟩
 have hm:y∈P:=by
  rcases zzL35.1 ((o.mem y).2 hr) with h1|h1
  ·exact absurd h1 hne
  ·exact h1
 obtain⟨i,hi,rfl⟩:=E1 hm;have b:=(hall.more o i).best o hi;rw[Aa _ _ _ hi]at b;have hs:=h i hi;rw[Aa _ _ _ hi]at hs;exact⟨_,hs,b.best⟩
end
section
variable {S:Nat->List Nat} {s s':Nat->Bool} {l o:List Nat}
theorem VL.before(h:VL S s l s' o):∀ A z B,o=A++z::B->z∈l\/∃ p∈B,z∈S p:=by
 induction h with
 | nil s=>intro A z B e;simp at e
 | skip h _ ih=>
  grind
 | @step s s1 s2 y l o1 o2 h a b iha ihb=>
  intro A z B e;rcases List.append_eq_append_iff.1 e with⟨C,hC1,hC2⟩|⟨C,hC1,hC2⟩
  ·
   cases C with
   | nil=>
    grind
   | cons c C=>
    grind
  ·cases C with
   | nil=>
    grind
   | cons c C=>
    grind
theorem Ord.ordered{n r:Nat}{L:List Nat}(hr:r<n)(hS:∀ x,x<n->∀ w∈S x,w<n)(h:Ord S r L):∃ P,L=r::P/\Ordered S r n P:=by
 have h1:=h.nodup;have h2:=h.mem;obtain⟨s',o,hv,rfl⟩:=h;refine⟨o.reverse,rfl,hr,hS,h1,λx=>by rw[h2 x,rc_iff],λi hi=>?_⟩
 have e:o.reverse=o.reverse.take i++o.reverse[i]::o.reverse.drop (i+1):=by rw[<- JJ hi,List.take_append_drop]
 have e2:o=(o.reverse.drop (i+1)).reverse++o.reverse[i]::(o.reverse.take i).reverse:=by
  have:=Bi List.reverse e
  simpa using this
 rw[Aa _ _ _ hi];rcases hv.before _ _ _ e2 with h3|⟨p,hp,hz⟩
 ·exact⟨r,zzL53 ..,h3⟩
 ·grind
end
def re(S:Nat->List Nat)(w:Int):Nat->List Nat:=λx=>(S x).filter λy=>decide ((y:Int)≠w)
theorem jQ(S:Nat->List Nat):re S (-1)=S:=by
 funext x
 exact List.filter_eq_self.2 λy _=>Gw (by omega)
theorem mQ(S:Nat->List Nat)(z:Nat):re S (z:Int)=wo S z:=by
 funext x
 unfold re wo
 congr 1
 funext y
 exact decide_eq_decide.2 ⟨λh e=>h (by rw[e]),λh e=>h (CL e)⟩
def BZ(L:List (List Int))(r:Nat)(w:Int):List Bool:=if(r:Int)=w then List.replicate L.length false else NG (re (sN L) w) L.length ((List.replicate L.length false).set r true) L.length
theorem ik{L:List (List Int)}(hm:Ld L=true){r:Nat}(hr:r<L.length){b:Nat}:(BZ L r (-1)).getD b false=true↔Rc (sN L) r b:=by
 unfold BZ;rw[if_neg (by omega),jQ,U4 (Vb hm) hr b,rc_iff]
theorem YT{L:List (List Int)}(hm:Ld L=true){r:Nat}(hr:r<L.length){a b:Nat}(hb:b<L.length):(BZ L r (a:Int)).getD b false=true↔Av (sN L) r a b:=by
 unfold BZ;rw[av_iff]
 by_cases h:r=a
 ·grind
 ·rw[if_neg (by omega),mQ,U4 (S:=wo _ a) (λz hz y hy=>Vb hm z hz y (zzL126.1 hy).1) hr b];simp[h]
def W7(L:List (List Int))(r a b:Nat):Bool:=(BZ L r (-1)).getD b false&&!(BZ L r (a:Int)).getD b false
theorem UJ{L:List (List Int)}(hm:Ld L=true){r a b:Nat}(hr:r<L.length)(hb:b<L.length):W7 L r a b=true↔Rc (sN L) r b/\¬ Av (sN L) r a b:=by
 unfold W7;rw[Az,Xi,<- Bool.not_eq_true,ik hm hr,YT hm hr hb]
def TU(L:List (List Int))(r a b:Nat):Bool:=(List.range L.length).all λc=>decide (c=b) || !W7 L r c b || W7 L r c a
def UN(L:List (List Int))(r b:Nat):Nat->Int
 | 0=>-2
 | a+1=>if a≠b/\W7 L r a b=true/\TU L r a b=true then(a:Int) else UN L r b a
def ZI(L:List (List Int))(r b:Nat):Int:=if b=r then -1 else UN L r b L.length
def Xe(L:List (List Int))(r:Nat):List Int:=(List.range L.length).map (ZI L r)
theorem NQ(L:List (List Int))(r:Nat):(Xe L r).length=L.length:=by simp[Xe]
theorem jH{L:List (List Int)}{r b:Nat}(hb:b<L.length):(Xe L r).getD b 0=ZI L r b:=by unfold Xe;rw[Kx hb]
theorem pick_cases(L:List (List Int))(r b:Nat):∀ m,(UN L r b m = -2/\∀ a,a<m->¬ (a≠b/\W7 L r a b=true/\TU L r a b=true))\/∃ a,a<m/\UN L r b m=(a:Int)/\a≠b/\W7 L r a b=true/\TU L r a b=true:=by
 intro m
 induction m with
 | zero=>exact .inl ⟨rfl,λa ha=>absurd ha (Ts a)⟩
 | succ m ih=>
  unfold UN
  by_cases h:m≠b/\W7 L r m b=true/\TU L r m b=true
  ·grind
  ·grind
theorem DomTree.eq{L:List (List Int)}(hm:Ld L=true){r:Nat}(hr:r<L.length){P t:List _}(o:Ordered (sN L) r L.length P)(h:DomTree (sN L) r L.length P t):t=Xe L r:=by
 refine AA (by rw[h.len,NQ]) λb h1 h2=>?_
 have hb:b<L.length:=by rw[<- h.len];exact h1
 rw[<- Aa _ _ 0 h1,<- Aa _ _ 0 h2,jH hb]
 show Bd t b=_
 have hov:∀ a b,b<L.length->Bd t b≠-2->(W7 L r a b=true↔UpTo _ b a):=λa b hb hp=>by
  rw[UJ hm hr hb,h.exact_ b hb hp];exact⟨λk=>k.2,λk=>⟨h.inv.rc b hb hp,k⟩⟩
 unfold ZI
 by_cases hbr:b=r
 ·subst hbr;rw[if_pos rfl];exact h.inv.top
 ·rw[if_neg hbr];rcases h.inv.kind b hb with hk|hk|⟨z,hz⟩
  ·
   have hn :=λk=>h.full b hb k hk;rcases pick_cases L r b _ with⟨h3,_⟩|⟨a,_,_,_,h6,_⟩
   ·rw[hk,h3]
   ·exact absurd ((UJ hm hr hb).1 h6).1 hn
  ·exact absurd hk hbr
  ·obtain⟨z1,z2,z3,z4⟩:=h.inv.up b hb z hz
   have hp:Bd t b≠-2:=by omega
   have hzo :=(hov z b hb hp).2 (.up hz (.refl _))
   have hzb:z≠b:=by rintro rfl;omega
   have hnear:TU L r z b=true:=all_range.2 λc hc=>by
    by_cases e:c=b
    ·simp[e]
    ·cases ho:W7 L r c b with
     | false=>simp
     | true=>
      have:=(hov c b hb hp).1 ho;rcases(anc_up hz).1 this with h3|h3
      ·exact absurd h3 e
      ·grind
   rcases pick_cases L r b L.length with⟨_,h3⟩|⟨a,h3,h4,h5,h6,h7⟩
   ·grind
   ·rw[h4,hz];have haU:=(hov a b hb hp).1 h6
    have ha1:UpTo (Bd t) z a:=by
     rcases(anc_up hz).1 haU with h8|h8
     ·exact absurd h8 h5
     ·exact h8
    have hap:=(h.inv.anc ha1 z1 z2).2.1
    have hza :=by
     have:=all_range.1 h7 z z1;simp only[hzo,hzb, Hz]at this;exact(hov z a h3 hap).1 this
    rw[h.inv.antisymm ha1 hza z1 z2]
theorem lc{g:C8}(h:BE g=true):Ld g.Succ=true/\g=Y5 g.Succ:=by
 unfold BE at h;rw[Az]at h;refine⟨h.1,?_⟩;obtain⟨s,p⟩:=g;have:=CI h.2;simp only at this;unfold Y5;rw[this]
section
variable {L:List (List Int)} (hm:Ld L=true) {r:Nat} (hr:r<L.length)
include hm hr
omit hr in
omit hr in
omit hm hr in
omit hm hr in
omit hm hr in
omit hr in
omit hr in
end
def NR(g:C8)(r:Int):List Int:=if BE g=true/\0<=r/\r<(g.Succ.length:Int) then Xe g.Succ r.toNat else[]
def upD(t:List Int):Nat->Int->Option (List Int)
 | 0,_=>none
 | k+1,a=>if 0<=a/\a<(t.length:Int) then(if t.getD a.toNat 0 = -1 then some [a] else(upD t k (t.getD a.toNat 0)).map λl=>a::l) else none
def H9(t:List Int)(a:Int):List Int:=(upD t t.length a).getD []
theorem mN(t:List Int):∀ k a q,upD t k a=some q->q.length<=k/\1<=q.length:=by
 intro k
 induction k with
 | zero=>intro a q h;cases h
 | succ k ih=>
  intro a q h;unfold upD at h
  split at h
  ·split at h
   ·cases h;simp
   ·cases hu:upD t k _ with
    | none=>rw[hu]at h;cases h
    | some q'=>grind
  ·cases h
theorem pathD_nil{t:List Int}{a:Int}:H9 t a=[]↔upD t t.length a=none:=by
 unfold H9
 cases h:upD t _ a with
 | none=>simp
 | some q=>have:=(mN t _ _ _ h).2;simp;intro e;subst e;simp at this
def Zv(t:List Int)(k:Nat):Nat:=((List.range k).filter λa=>decide (t.getD a 0 = -1)).length
def rY(t:List Int)(a:Nat):Bool:=decide (t.getD a 0 = -2) || !decide (H9 t (a:Int)=[])
def Lj(t:List Int):Bool:=(List.range t.length).all (rY t)&&decide (Zv t t.length=1)
theorem JC(t:List Int)(k:Nat):Zv t (k+1)=Zv t k+if t.getD k 0 = -1 then 1 else 0:=by
 unfold Zv;rw[R5,Vl]
 by_cases h:t.getD k 0 = -1
 ·grind
 ·grind
def Ok(t:List Int)(a b:Int):Int:=if Lj t=true then((H9 t a).find? λx=>(H9 t b).contains x).getD (-2) else -2
def Hy(t:List Int)(a b:Int):Bool:=Ok t a b==a&&Ok t a b !=-2
section
variable {S:Nat->List Nat} {r n:Nat} {P:List Nat} {t:List Int}
theorem DomTree.up(h:DomTree S r n P t):∀ k x,x<n->Bd t x≠-2->pos (r::P) x<k->∃ q,upD t k (x:Int)=some q/\(∀ w:Int,w∈q↔∃ z:Nat,w=(z:Int)/\UpTo (Bd t) x z) /\
  ∀ p:Int->Bool,(q.find? p=none/\∀ z:Nat,UpTo (Bd t) x z->p (z:Int)=false)\/∃ f:Nat,q.find? p=some (f:Int)/\UpTo (Bd t) x f/\p (f:Int)=true/\∀ z:Nat,UpTo (Bd t) x z->p (z:Int)=true->UpTo (Bd t) f z:=by
 intro k
 induction k with
 | zero=>omega
 | succ k ih=>
  intro x hx hp hk
  have hxt:(0:Int)<=(x:Int)/\(x:Int)<(t.length:Int):=by rw[h.len];omega
  unfold upD;rw[if_pos hxt,Ao];have hpx:t.getD x 0=Bd t x:=rfl;rw[hpx];rcases h.inv.kind x hx with h1|rfl|⟨z,hz⟩
  ·exact absurd h1 hp
  ·rw[if_pos h.inv.top];refine⟨_,rfl,λw=>?_,λp=>?_⟩
   ·rw[zzL11]
    constructor
    ·rintro rfl;exact⟨x,rfl,.refl _⟩
    ·rintro⟨z,rfl,hz⟩;rw[h.inv.root_anc.1 hz]
   ·cases hpp:p (x:Int) with
    | false=>exact .inl ⟨by simp[List.find?,hpp],λz hz=>by rw[h.inv.root_anc.1 hz];exact hpp⟩
    | true=>exact .inr ⟨x,by simp[List.find?,hpp],.refl _,hpp,λz hz _=>hz⟩
  ·obtain⟨z1,z2,z3,z4⟩:=h.inv.up x hx z hz;rw[hz,if_neg (by omega)];obtain⟨q,hq1,hq2,hq3⟩:=ih z z1 z2 (by omega);rw[hq1];refine⟨(x:Int)::q,rfl,λw=>?_,λp=>?_⟩
   ·rw[zzL35,hq2 w]
    constructor
    ·rintro(rfl|⟨y,rfl,hy⟩)
     ·exact⟨x,rfl,.refl _⟩
     ·exact⟨y,rfl,.up hz hy⟩
    ·rintro⟨y,rfl,hy⟩;rcases(anc_up hz).1 hy with rfl|hy
     ·exact .inl rfl
     ·exact .inr ⟨y,rfl,hy⟩
   ·cases hpp:p (x:Int) with
    | true=>exact .inr ⟨x,by simp[List.find?,hpp],.refl _,hpp,λy hy _=>hy⟩
    | false=>
     have hf:((x:Int)::q).find? p=q.find? p:=by simp[List.find?,hpp]
     rw[hf];rcases hq3 p with⟨e1,e2⟩|⟨f,e1,e2,e3,e4⟩
     ·refine .inl ⟨e1,λy hy=>?_⟩;rcases(anc_up hz).1 hy with rfl|hy
      ·exact hpp
      ·exact e2 y hy
     ·refine .inr ⟨f,e1,.up hz e2,e3,λy hy hpy=>?_⟩;rcases(anc_up hz).1 hy with rfl|hy
      ·rw[hpp]at hpy;cases hpy
      ·exact e4 y hy hpy
theorem Ordered.pos_lt(o:Ordered S r n P){x:Nat}(hx:x∈r::P):pos (r::P) x<n:=by
 obtain⟨j,hj,rfl⟩:=E1 hx;rw[(FR o.nodup hj).2];have:=O7 n _ o.nodup λy hy=>o.lt hy;omega
theorem DomTree.path(h:DomTree S r n P t)(o:Ordered S r n P){x:Nat}(hx:x<n)(hp:Bd t x≠-2):H9 t (x:Int)≠[]/\(∀ w:Int,w∈H9 t (x:Int)↔∃ z:Nat,w=(z:Int)/\UpTo (Bd t) x z) /\
  ∀ p:Int->Bool,((H9 t (x:Int)).find? p=none/\∀ z:Nat,UpTo (Bd t) x z->p (z:Int)=false)\/∃ f:Nat,(H9 t (x:Int)).find? p=some (f:Int)/\UpTo (Bd t) x f/\p (f:Int)=true/\∀ z:Nat,UpTo (Bd t) x z->p (z:Int)=true->UpTo (Bd t) f z:=by
 have hm:=(o.mem x).2 (h.inv.rc x hx hp);obtain⟨q,h1,h2,h3⟩:=h.up n x hx hp (o.pos_lt hm)
 have e:H9 t x=q:=by unfold H9;rw[h.len,h1];rfl
 rw[e];refine⟨λe=>?_,h2,h3⟩;have:=(h2 _).2 ⟨x,rfl,.refl _⟩;rw[e]at this
 cases this
theorem DomTree.nopath(h:DomTree S r n P t){x:Nat}(hx:x<n)(hp:Bd t x = -2):H9 t (x:Int)=[]:=by
 rw[pathD_nil]
 cases hl:t.length with
 | zero=>rfl
 | succ k=>
  unfold upD;rw[if_pos ⟨by omega,by rw[h.len];omega⟩,Ao,show t.getD x 0=Bd t x from rfl,hp]
  cases k with
  | zero=>rfl
  | succ k =>   rfl
theorem DomTree.right(h:DomTree S r n P t)(o:Ordered S r n P):Lj t=true:=by
 unfold Lj;rw[Az]
 constructor
 ·refine all_range.2 λx hx=>?_;rw[h.len]at hx;unfold rY
  by_cases hp:Bd t x = -2
  ·rw[show t.getD x 0=Bd t x from rfl,hp];rfl
  ·rw[Gv (h.path o hx hp).1];simp
 ·apply Gw
  have key:∀ k,k<=n->Zv t k=if r<k then 1 else 0:=by
   intro k
   induction k with
   | zero=>intro _;rfl
   | succ k ih=>
    intro hk;rw[JC]
    have hr:t.getD k 0 = -1↔k=r:=by
     constructor
     ·intro he;rcases h.inv.kind k (by omega) with h1|h1|⟨z,hz⟩
      ·rw[show t.getD k 0=Bd t k from rfl]at he;omega
      ·exact h1
      ·rw[show t.getD k 0=Bd t k from rfl]at he;omega
     ·rintro rfl;exact h.inv.top
    by_cases hkr:k=r
    ·grind
    ·grind
  rw[h.len,key n (zzL5 _),if_pos o.hr]
theorem DomTree.meet(h:DomTree S r n P t)(o:Ordered S r n P){a b:Nat}(ha:a<n)(hb:b<n)(hpa:Bd t a≠-2)(hpb:Bd t b≠-2):∃ m:Nat,Ok t (a:Int) (b:Int)=(m:Int)/\MeetAt (Bd t) a b m/\m<n/\Bd t m≠-2:=by
 have rd:Ready S r n P t _:=⟨h.inv,h.len,λx hx=>by rw[Vo]at hx;exact h.full x (o.lt hx) ((o.mem x).1 hx)⟩;obtain⟨c,hc1,hc2,hc3⟩:=h.inv.meets (rd.inj o) UO _ a b (zzL5 _) ha hb hpa hpb;refine⟨c,?_,hc1,hc2,hc3⟩;unfold Ok;rw[if_pos (h.right o)];obtain⟨hca,hcb⟩:=(hc1 c).1 (.refl _)
 have hin:∀ z:Nat,(H9 t _).contains z=true↔UpTo (Bd t) b z:=λz=>by
  rw[Zy,(h.path o hb hpb).2.1]
  constructor
  ·grind
  ·grind
 rcases(h.path o ha hpa).2.2 λx=>(H9 t b).contains x with⟨_,h2⟩|⟨f,h1,h2,h3,h4⟩
 ·grind
 ·rw[h1];have hfc:=h4 c hca ((hin c).2 hcb);have hcf:=(hc1 f).2 ⟨h2,(hin f).1 h3⟩;rw[h.inv.antisymm hcf hfc hc2 hc3]
  rfl
theorem DomTree.meet_none(h:DomTree S r n P t)(o:Ordered S r n P){a b:Nat}(ha:a<n)(hb:b<n)(hp:Bd t a = -2\/Bd t b = -2):Ok t (a:Int) (b:Int) = -2:=by
 unfold Ok;rw[if_pos (h.right o)];rcases hp with hp|hp
 ·rw[h.nopath ha hp];rfl
 ·rw[h.nopath hb hp]
  have:(H9 t a).find? (λx=>[].contains x)=none:=List.find?_eq_none.2 λx _=>by simp
  rw[this];rfl
theorem DomTree.over(h:DomTree S r n P t)(o:Ordered S r n P){a b:Nat}(ha:a<n)(hb:b<n):Hy t (a:Int) (b:Int)=true↔Bd t b≠-2/\UpTo (Bd t) b a:=by
 unfold Hy;rw[Az,zzL62,Q4]
 by_cases hpa:Bd t a = -2
 ·rw[h.meet_none o ha hb (.inl hpa)]
  constructor
  ·omega
  ·rintro⟨h1,h2⟩;exact absurd hpa (h.inv.anc h2 hb h1).2.1
 ·by_cases hpb:Bd t b = -2
  ·rw[h.meet_none o ha hb (.inr hpb)]
   constructor
   ·omega
   ·grind
  ·obtain⟨m,hm1,hm2,hm3,hm4⟩:=h.meet o ha hb hpa hpb;rw[hm1]
   constructor
   ·rintro⟨h1,_⟩;have h1:=CL h1;subst h1;exact⟨hpb,((hm2 _).1 (.refl _)).2⟩
   ·rintro⟨_,h2⟩;have:=(hm2 a).2 ⟨.refl _,h2⟩;have h3:=((hm2 m).1 (.refl _)).1;rw[h.inv.antisymm h3 this ha hpa];exact⟨rfl,by omega⟩
theorem DomTree.over_dom(h:DomTree S r n P t)(o:Ordered S r n P){a b:Nat}(ha:a<n)(hb:b<n):Hy t (a:Int) (b:Int)=true↔Rc S r b/\¬ Av S r a b:=by
 rw[h.over o ha hb]
 constructor
 ·rintro⟨h1,h2⟩;exact⟨h.inv.rc b hb h1,(h.exact_ b hb h1 a).1 h2⟩
 ·rintro⟨h1,h2⟩;have:=h.full b hb h1;exact⟨this,(h.exact_ b hb this a).2 h2⟩
end
section
variable {L:List (List Int)} (hm:Ld L=true) {r:Nat} (hr:r<L.length)
include hm hr
theorem NP:∃ P,Ord (sN L) r (r::P)/\Ordered (sN L) r L.length P/\DomTree (sN L) r L.length P (Xe L r):=by
 obtain⟨O,hO⟩:=Ord.exist (Vb hm) hr;obtain⟨P,rfl,o⟩:=hO.ordered hr (Vb hm);obtain⟨J,_,hJ⟩:=nF o;have hd:=DX o hJ;refine⟨P,hO,o,?_⟩;rw[<- hd.eq hm hr o];exact hd
end
theorem dQ{X:Type}(n:Nat)(p:Nat->Bool)(f:Int->Option (LR Int X))(yes no:X)(hn:∀ i:Nat,i<n->p i=true->f (i:Int)=some (.next ((i:Int)+1)))
  (hf:∀ i:Nat,i<n->p i=false->f (i:Int)=some (.done no)) (he:f (n:Int)=some (.done yes)):Af f (0:Int)=some (bif (List.range n).all p then yes else no):=by
 have hg:∀ i,i<(List.range n).length->(List.range n).getD i 0=i:=λi hi=>by grind
 have:=Uv (List.range n) 0 p f yes no (λi hi hp=>by grind) (λi hi hp=>by grind) (by simpa using he) n 0 (by simp);rw[show(0:Int)=(0:Nat) from rfl,this,AC]
theorem WX{n:Nat}{p:Nat->Bool}(h:(List.range n).all p=true):∀ i,i<n->p i=true:=λi hi=>zzL23.1 h i (by simpa using hi)
def Zq(L:List (List Int)):List Bool:=NG (sN L) L.length ((List.replicate L.length false).set 0 true) L.length
def Iu(l:List Int)(p:A4):Bool:=decide (p.From=l)&&((p.Args.length:Int)==(l.length:Int))
def K9(L:List (List Int))(b:Ac)(i:Nat):Bool:=(Zq L).getD i false&&!((b.End.Kind==1 || b.End.Kind==3)&&(b.End.Arg !=0))&&b.Phis.all (Iu ((Ec L).getD i []))
def Ex(f:Ab):Bool:=Fn f&&(List.range f.Blocks.length).all λi=>K9 (Bb f) (f.Blocks.getD i default) i
theorem Kt(f:Ab):(Bb f).length=f.Blocks.length:=by simp[Bb]
theorem dw{f:Ab}(h:Ex f=true):lu f:=λb hb p hp=>by
 simp only[Ex,Az]at h;obtain⟨i,hi,rfl⟩:=E1 hb;have h1:=WX h.2 i hi;rw[Aa _ _ _ hi]at h1;simp only[K9,Az]at h1;have h2:=zzL23.1 h1.2 p hp;simp only[Iu,Az,El,zzL62]at h2;rw[h2.1];omega
def Qf(l:List G1)(i:Nat):Bool:=Iy (l.getD i default).V&&(Kn l (l.getD i default).V==(i:Int))
def Ms(l:List G1)(u:M1):Bool:=!decide (Kn l u.V<0)
def defOf(l:List G1)(v:Int):G1:=l.getD (Kn l v).toNat default
def Zl(l:List G1)(u:M1):Bool:=((defOf l u.V).Shape.1==u.Shape.1)&&(((defOf l u.V).Shape.2==u.Shape.2)&&true)
def Zk(l:List G1)(t:List Int)(u:M1):Bool:=
 (decide ((defOf l u.V).Block<0) || ((defOf l u.V).Block==u.Block&&decide ((defOf l u.V).At<u.At))) || (!((defOf l u.V).Block==u.Block)&&!(Ok t (defOf l u.V).Block u.Block !=(defOf l u.V).Block))
def B1(f:Ab):List Int:=NR (Y5 (Bb f)) 0
def QT(f:Ab)(l:Int):Int:=
 bif !Ex f then 5 else bif !Ll f l then 6 else bif !(List.range (A7 f).length).all (Qf (A7 f)) then 7 else bif !(Du f).all (Ms (A7 f)) then 7 else
 bif !(Du f).all (Zl (A7 f)) then 6 else bif !(Du f).all (Zk (A7 f) (B1 f)) then 7 else 0
def Fl(f:Ab)(l:Int):Int:=bif decide (l<0) || decide (2<l) then 1 else bif !Rj f then 4 else QT f l
theorem SU{l:List G1}{v:Int}(h:¬ Kn l v<0):Bl (Kn l v) l.length:=by
 unfold Kn at h ⊢
 cases hx:l.findIdx? _ with
 | none=>grind
 | some i=>
  obtain⟨hi,_⟩:=List.findIdx?_eq_some_iff_getElem.1 hx;exact Ar hi
theorem jI{f:Ab}(h:Fn f=true):(B1 f).length<=1000:=by
 have h1:=(BF (Iv h)).1;unfold B1 NR
 split
 ·rw[NQ];show(Bb f).length<=1000;omega
 ·simp
def grow(n d:Int):Int:=bif decide (n<d) then d else n
def Sm(f:Ab):Prop:=eS f/\D2 f=some true
theorem jA{f:Ab}(h:Sm f)(hm:Rj f=true):OkF f:=by
 obtain⟨sm,h1,h2⟩:=VB f h.1;rw[h.2]at h1;exact(h2 (OI h1).symm hm).1
structure pw(f:Ab)(s:List (Int×(Int×Int))):Prop where
 none:Fl f 2≠0->s.length=0
 len:Fl f 2=0->s.length=(A7 f).length
 get:Fl f 2=0->∀ d∈A7 f,D7 ((0:Int),(0:Int)) s d.V=d.Shape
 has:Fl f 2=0->∀ v,C5 s v=true->∃ d∈A7 f,d.V=v
theorem qn{f:Ab}(hf:eS f)(h0:f.Params.length<=64)(hb:∀ b∈f.Blocks,b.End.To.length<=64/\(∀ p∈b.Phis,p.From.length<=64/\p.Args.length<=64)/\∀ o∈b.Ops,o.Args.length<=64)(he:XK f<=20000):Sm f:=
 ⟨hf,by rw[VA f hf h0 hb,Gw he]⟩
def NH(f:Ab):Int:=
 bif !(List.range (A7 f).length).all (Qf (A7 f)) then 7 else bif !(Du f).all (Ms (A7 f)) then 7 else
 bif !(Du f).all (Zl (A7 f)) then 6 else bif !(Du f).all (Zk (A7 f) (B1 f)) then 7 else 0
theorem GL{f:Ab}{l:Int}(h0:0<=l)(h2:l<=2):Fl f l=0↔Rj f=true/\Ex f=true/\Ll f l=true/\NH f=0:=by
 unfold Fl QT;rw[Gv (show ¬ l<0 by omega),Gv (show ¬ 2<l by omega)]
 have e:(bif !(List.range _).all _ then 7 else bif !(Du f).all _ then 7 else
  bif !(Du f).all _ then 6 else bif !(Du f).all _ then 7 else 0)=NH f:=rfl
 rw[e]
 cases Rj f<;>cases Ex f<;>cases Ll f l<;>simp
theorem iE{o:Bz}(h:Fp o=true):1<=o.Lanes:=by
 simp only[Fp,Az]at h;have:=Qm h.1.1;omega
theorem mL{α:Type}(l:List α)(g:α->Nat):(l.map λa=>g a+1).sum=l.length+(l.map g).sum:=by
 induction l with
 | nil=>rfl
 | cons a l ih=>grind
theorem jO(a b:Int):Ay (a+Ay b)=Ay (a+b):=by rw[Int.add_comm,cF,Int.add_comm]
theorem nI(f:Ab)(hf:eS f):Ez f=some (sizeW f):=by
 have hl:=MS f.Blocks default (λb=>b.Phis.length+b.Ops.length) id (Mg f) (λn i hi=>?_) (λn=>?_) _ 0 f.Blocks.length (E2 _)
 ·unfold Ez;rw[Qo (by have:=hf.blocks;rw[O6]at this;omega),show((0:Nat):Int)=0 from rfl]at hl;rw[hl,  sizeW,sizeN,show Dt=(λb=>(b.Phis.length+b.Ops.length)+1) from rfl,mL]
  rfl
 ·have e1:decide (i<(f.Blocks.length:Int))=true:=Gw (by omega);unfold Mg;simp only[e1,Ai,Ad (Ar hi),Do,Jy hi hf.blocks,jO,cF];rw[show n+((f.Blocks.getD i default).Phis.length+(f.Blocks.getD i default).Ops.length)=((n+((f.Blocks.getD i default).Phis.length+(f.Blocks.getD i default).Ops.length):Nat):Int) by omega]
 ·have e1:decide (f.Blocks.length<(f.Blocks.length:Int))=false:=by simp
  unfold Mg;simp only[e1,A8,id]
theorem Yq{α:Type}(l:List α)(d:α)(p:α->Bool)(f:Int->Option (LR Int (Unit ⊕ Bool)))(hn:∀ i:Nat,i<l.length->f i=bif p (l.getD i d) then some (.next ((i:Int)+1)) else some (.done (.inr false)))
  (he:f l.length=some (.done (.inl ()))):Af f 0=some (bif l.all p then .inl () else .inr false):=by
 have:=Uv l d p f _ _ (λi hi hp=>by rw[hn i hi,hp];rfl) (λi hi hp=>by rw[hn i hi,hp];rfl) he _ 0 (E2 _)
 simpa using this
theorem dc(x:Int):(bif decide (x<0) then true else decide (2147483647<x)) = !numB x:=by
 unfold numB
 by_cases h1:x<0
 ·grind
 ·grind
theorem NW(l:List Int)(h:l.length<=maxLen):C4 l=some (l.all numB):=by
 have hl:=Yq l 0 numB (Hd l) (λi hi=>?_) ?_
 ·unfold C4;rw[hl]
  cases l.all _<;>rfl
 ·have e1:decide ((i:Int)<l.length)=true:=Gw (by omega);unfold Hd;simp only[e1, Ad (Ar hi),Do,dc,Jy hi h]
  cases numB _<;>simp
 ·unfold Hd
  simp
theorem Wk(l:List Int)(h:l.length<=maxLen):F1 l=some (Lo l):=by
 unfold F1;rw[NW l h]
 by_cases h1:l.length<=64
 ·have e1:decide ((l.length:Int)<=64)=true:=Gw (by omega);rw[e1];simp[Lo,h1]
 ·have e1:decide ((l.length:Int)<=64)=false:=Gv (by omega);rw[e1];simp[Lo,h1]
theorem Wh{l:List Int}(h:l.length<=10):l.length<=maxLen:=by rw[O6];omega
theorem jW(p:A4)(h1:p.From.length<=maxLen)(h2:p.Args.length<=maxLen):Mi p=some (IG p):=by
 unfold Mi IG;rw[NW _ (Wh (by simp)),Wk _ h1,Wk _ h2];simp only[Xm,List.all_nil,JQ]
 cases numB p.Bits<;>cases numB p.Dst<;>cases Lo p.From<;>cases Lo p.Args<;>rfl
theorem mR(o:Bz)(h1:o.Args.length<=maxLen):Nm o=some (dh o):=by
 unfold Nm dh;rw[NW _ (Wh (by simp)),Wk _ h1];simp only[Xm,List.all_nil,JQ]
 cases numB o.Kind<;>cases numB o.Bits<;>cases numB o.Lanes<;>cases numB o.Dst<;>cases Lo o.Args<;>rfl
theorem jT(e:F4)(h1:e.To.length<=maxLen):Mh e=some (PF e):=by
 unfold Mh PF;rw[NW _ (Wh (by simp)),Wk _ h1];simp only[Xm,List.all_nil,JQ]
 cases numB e.Kind<;>cases numB e.Arg<;>cases Lo e.To<;>rfl
theorem HS{X:Type}(b:Bool)(x y:X):(bif !b then x else y)=bif b then y else x:=by cases b<;>rfl
theorem d9(l:List A4)(hl:l.length<=maxLen)(h:∀ p∈l,p.From.length<=maxLen/\p.Args.length<=maxLen):G0 l=some (l.all IG):=by
 have hl':=Yq l (default:A4) IG (Fi l) (λi hi=>?_) ?_
 ·unfold G0;rw[hl']
  cases l.all IG<;>rfl
 ·have e1:decide ((i:Int)<(l.length:Int))=true:=Gw (by omega);have:=h _ (Ag (d:=(default:A4)) hi);unfold Fi;simp only[e1,Ai,Ad (Ar hi),Do,jW _ this.1 this.2,Ax,HS,Jy hi hl,Int.natCast_add,Int.natCast_one]
 ·unfold Fi
  simp
theorem jV(l:List Bz)(hl:l.length<=maxLen)(h:∀ o∈l,o.Args.length<=maxLen):Hc l=some (l.all dh):=by
 have hl':=Yq l (default:Bz) dh (Fy l) (λi hi=>?_) ?_
 ·unfold Hc;rw[hl']
  cases l.all dh<;>rfl
 ·have e1:decide ((i:Int)<(l.length:Int))=true:=Gw (by omega);have:=h _ (Ag (d:=(default:Bz)) hi);unfold Fy;simp only[e1,Ai,Ad (Ar hi),Do,mR _ this,Ax,HS,Jy hi hl,Int.natCast_add,Int.natCast_one]
 ·unfold Fy
  simp
theorem ZM(b:Ac)(h1:b.Phis.length<=maxLen)(h2:b.Ops.length<=maxLen)(h3:b.End.To.length<=maxLen)(h4:∀ p∈b.Phis,p.From.length<=maxLen/\p.Args.length<=maxLen)(h5:∀ o∈b.Ops,o.Args.length<=maxLen):J3 b=some (blockB b):=by
 unfold J3 blockB;rw[d9 _ h1 h4,jV _ h2 h5,jT _ h3]
 cases b.Phis.all IG<;>cases b.Ops.all dh<;>cases PF b.End<;>rfl
theorem VO(f:Ab)(hf:eS f):Fx f.Blocks=some (f.Blocks.all blockB):=by
 have hl':=Yq f.Blocks (default:Ac) blockB (Ep f.Blocks) (λi hi=>?_) ?_
 ·unfold Fx;rw[hl']
  cases f.Blocks.all blockB<;>rfl
 ·have e1:decide ((i:Int)<(f.Blocks.length:Int))=true:=Gw (by omega);have hm:=Ag (d:=(default:Ac)) hi;have q:=hf.block _ hm;unfold Ep;simp only[e1,Ai,Ad (Ar hi),Do,ZM _ q.1 q.2.1 q.2.2 (hf.phi _ hm) (λo ho=>(hf.op _ hm o ho).1),Ax,HS,Jy hi hf.blocks,Int.natCast_add,Int.natCast_one]
 ·unfold Ep
  simp
theorem sg(f:Ab)(hf:eS f):Su f=some (Rj f):=by
 unfold Su Rj;rw[nI f hf,NW _ hf.params,NW _ (Wh (by simp)),VO f hf];simp only[Xm,List.all_nil,JQ,Lo]
 have d1:∀ n:Nat,decide ((n:Int)<1) = !decide (1<=n):=λn=>by by_cases h:1<=n<;>simp[h]<;>omega
 have d2:∀ n:Nat,decide ((64:Int)<(n:Int)) = !decide (n<=64):=λn=>by by_cases h:n<=64<;>simp[h]<;>omega
 have d3:∀ n:Nat,decide ((16:Int)<(n:Int)) = !decide (n<=16):=λn=>by by_cases h:n<=16<;>simp[h]<;>omega
 have d4:∀ n:Int,decide ((512:Int)<n) = !decide (n<=512):=λn=>by by_cases h:n<=512<;>simp[h]<;>omega
 simp only[d1,d2,d3,d4]
 have himp:decide (f.Params.length<=16)=true->decide (f.Params.length<=64)=true:=λh=>by simp at h ⊢;omega
 revert himp
 generalize decide (1<=f.Blocks.length)=c1
 generalize decide (f.Blocks.length<=64)=c2
 generalize decide (f.Params.length<=16)=c3
 generalize decide (f.Params.length<=64)=c4
 generalize f.Params.all numB=c6
 generalize numB f.Ret=c7
 generalize f.Blocks.all blockB=c8
 cases c3 with
 | true=>
  intro h;obtain rfl:=h rfl;simp only[Hz,Vm,Ai,Ax,A8]
  generalize decide (sizeW f<=512)=c5
  cases c1<;>cases c2<;>cases c6<;>cases c7<;>cases c8<;>cases c5<;>rfl
 | false=>
  intro _
  cases c1<;>cases c2<;>rfl
inductive Tp (t:List Int):Nat->Nat->Nat->Prop
 | top {x:Nat} (hx:x<t.length) (h:t.getD x 0 = -1):Tp t x x 0
 | up {x y r k:Nat} (hx:x<t.length) (h:t.getD x 0=(y:Int)) (hk:Tp t y r k):Tp t x r (k+1)
section
variable {t:List Int}
theorem Tp.lt{x r k:Nat}(h:Tp t x r k):x<t.length:=by cases h<;>assumption
theorem Tp.tops{x r k:Nat}(h:Tp t x r k):r<t.length/\t.getD r 0 = -1:=by
 induction h with
 | top hx h=>exact⟨hx,h⟩
 | up _ _ _ ih=>exact ih
theorem Tp.det{x r k r' k':Nat}(h:Tp t x r k)(h':Tp t x r' k'):r=r'/\k=k':=by
 induction h generalizing k' with
 | top hx h=>cases h' with
  | top=>exact⟨rfl,rfl⟩
  | up _ h2 _=>omega
 | up hx h1 _ ih=>cases h' with
  | top _ h2=>omega
  | up _ h2 k2=>
   grind
theorem Tp.upTo{x r k:Nat}(h:Tp t x r k):UpTo (Bd t) x r:=by
 induction h with
 | top=>exact .refl _
 | up _ h _ ih=>exact .up h ih
theorem Tp.on{x r k z:Nat}(h:Tp t x r k)(hz:UpTo (Bd t) x z):∃ j,j<=k/\Tp t z r j/\(j=k->z=x):=by
 induction hz generalizing k with
 | refl x=>grind
 | up hp _ ih=>
  cases h with
  | top _ h2=>have :=hp.symm.trans h2;omega
  | up _ h2 k2=>
   have :=hp.symm.trans h2
   cases CL this
   obtain⟨j,h1,h3,_⟩:=ih k2;exact⟨j,by omega,h3,λe=>by omega⟩
theorem Tp.anti{x r k z:Nat}(h:Tp t x r k)(h1:UpTo (Bd t) x z)(h2:UpTo (Bd t) z x):z=x:=by
 obtain⟨j,j1,j2,j3⟩:=h.on h1;obtain⟨i,i1,i2,i3⟩:=j2.on h2;have:=h.det i2;exact j3 (by omega)
theorem Tp.list{x r k:Nat}(h:Tp t x r k):∃ l:List Nat,l.length=k+1/\l.Nodup/\∀ y∈l,y<t.length/\∃ j,j<=k/\Tp t y r j:=by
 induction h with
 | top hx h=>exact⟨[_],rfl,by simp,λy hy=>by rw[zzL11.1 hy];exact⟨hx,0,zzL5 _,.top hx h⟩⟩
 | @up x y r k hx h hk ih=>
  obtain⟨l,h1,h2,h3⟩:=ih;refine⟨x::l,by simp[h1],zzL108.2 ⟨λhm=>?_,h2⟩,λz hz=>?_⟩
  ·obtain⟨_,j,hj,hj2⟩:=h3 _ hm;have:=(Tp.up hx h hk).det hj2;omega
  ·rcases zzL35.1 hz with rfl|hz
   ·exact⟨hx,k+1,zzL5 _,.up hx h hk⟩
   ·grind
theorem Tp.short{x r k:Nat}(h:Tp t x r k):k<t.length:=by
 obtain⟨l,h1,h2,h3⟩:=h.list;have:=O7 _ l h2 λy hy=>(h3 y hy).1;omega
theorem Tp.upD{x r k:Nat}(h:Tp t x r k):∀ m,k<m->∃ q,upD t m (x:Int)=some q/\(∀ w:Int,w∈q↔∃ z:Nat,w=(z:Int)/\UpTo (Bd t) x z) /\
  ∀ p:Int->Bool,(q.find? p=none/\∀ z:Nat,UpTo (Bd t) x z->p (z:Int)=false)\/∃ f:Nat,q.find? p=some (f:Int)/\UpTo (Bd t) x f/\p (f:Int)=true/\∀ z:Nat,UpTo (Bd t) x z->p (z:Int)=true->UpTo (Bd t) f z:=by
 induction h with
 | @top x hx h=>
  intro m hm;obtain⟨m,rfl⟩:∃ i,m=i+1:=⟨m-1,by omega⟩
  have htop:∀ z,UpTo (Bd t) x z↔z=x:=λz=>FB λp hp=>by have:_=_:=hp.symm.trans h;omega
  unfold Go.Proofs.YtfhggcbcamamdaaGreat.upD;rw[if_pos ⟨by omega,by omega⟩,Ao,if_pos h];refine⟨_,rfl,λw=>?_,λp=>?_⟩
  ·grind
  ·grind
 | @up x y r k hx h hk ih=>
  intro m hm;obtain⟨m,rfl⟩:∃ i,m=i+1:=⟨m-1,by omega⟩;unfold Go.Proofs.YtfhggcbcamamdaaGreat.upD;rw[if_pos ⟨by omega,by omega⟩,Ao,if_neg (by omega),h];obtain⟨q,hq1,hq2,hq3⟩:=ih m (by omega);rw[hq1];refine⟨(x:Int)::q,rfl,λw=>?_,λp=>?_⟩
  ·rw[zzL35,hq2 w]
   constructor
   ·rintro(rfl|⟨y,rfl,hy⟩)
    ·exact⟨x,rfl,.refl _⟩
    ·exact⟨y,rfl,.up h hy⟩
   ·rintro⟨y,rfl,hy⟩;rcases(anc_up h).1 hy with rfl|hy
    ·exact .inl rfl
    ·exact .inr ⟨y,rfl,hy⟩
  ·cases hpp:p (x:Int) with
   | true=>exact .inr ⟨x,by simp[List.find?,hpp],.refl _,hpp,λy hy _=>hy⟩
   | false=>
    have hf:((x:Int)::q).find? p=q.find? p:=by simp[List.find?,hpp]
    rw[hf];rcases hq3 p with⟨e1,e2⟩|⟨f,e1,e2,e3,e4⟩
    ·refine .inl ⟨e1,λy hy=>?_⟩;rcases(anc_up h).1 hy with rfl|hy
     ·exact hpp
     ·exact e2 y hy
    ·refine .inr ⟨f,e1,.up h e2,e3,λy hy hpy=>?_⟩;rcases(anc_up h).1 hy with rfl|hy
     ·rw[hpp]at hpy;cases hpy
     ·exact e4 y hy hpy
theorem ot:∀ m (a:Int) q,upD t m a=some q->∃ x r k:Nat,a=(x:Int)/\k<m/\Tp t x r k:=by
 intro m
 induction m with
 | zero=>intro a q h;cases h
 | succ m ih=>
  intro a q h;unfold Go.Proofs.YtfhggcbcamamdaaGreat.upD at h
  by_cases ha:0<=a/\a<t.length
  ·rw[if_pos ha]at h;have e :=Xh ha.1
   by_cases h1:t.getD a.toNat 0 = -1
   ·exact⟨a.toNat,a.toNat,0,e.symm,by omega,.top (by omega) h1⟩
   ·rw[if_neg h1]at h
    cases hu:Go.Proofs.YtfhggcbcamamdaaGreat.upD t m _ with
    | none=>rw[hu]at h;cases h
    | some q'=>
     obtain⟨y,r,k,e1,e2,e3⟩:=ih _ _ hu;exact⟨a.toNat,r,k+1,e.symm,by omega,.up (by omega) e1 e3⟩
  ·grind
theorem pathD_tp{a:Int}:H9 t a≠[]↔∃ x r k:Nat,a=(x:Int)/\Tp t x r k:=by
 constructor
 ·intro h
  cases hu:upD t _ a with
  | none=>exact absurd (pathD_nil.2 hu) h
  | some q=>obtain⟨x,r,k,e1,_,e2⟩:=ot _ _ _ hu;exact⟨x,r,k,e1,e2⟩
 ·rintro⟨x,r,k,rfl,h⟩ e;obtain⟨q,hq,_⟩:=h.upD _ h.short;rw[pathD_nil.1 e]at hq;cases hq
theorem Tp.path{x r k:Nat}(h:Tp t x r k):(∀ w:Int,w∈H9 t (x:Int)↔∃ z:Nat,w=(z:Int)/\UpTo (Bd t) x z) /\
  ∀ p:Int->Bool,((H9 t (x:Int)).find? p=none/\∀ z:Nat,UpTo (Bd t) x z->p (z:Int)=false)\/∃ f:Nat,(H9 t (x:Int)).find? p=some (f:Int)/\UpTo (Bd t) x f/\p (f:Int)=true/\∀ z:Nat,UpTo (Bd t) x z->p (z:Int)=true->UpTo (Bd t) f z:=by
 obtain⟨q,h1,h2,h3⟩:=h.upD _ h.short
 have e:H9 t x=q:=by unfold H9;rw[h1];rfl
 rw[e];exact⟨h2,h3⟩
theorem GT{α:Type}{l:List α}{i j:Nat}{x d:α}(hi:i<l.length):(l.set i x).getD j d=if j=i then x else l.getD j d:=by
 grind
theorem ld{x r k:Nat}(h:Tp t x r k):∀ l:List Bool,l.length=t.length->∃ l',Af (Ht t) ((x:Int),l)=some l'/\l'.length=t.length/\∀ z,z<t.length->(l'.getD z false=true↔l.getD z false=true\/UpTo (Bd t) x z):=by
 induction h with
 | @top x hx h=>
  intro l hl
  have hs:Ht t (x,l)=some (.next (-1,l.set x true)):=by
   unfold Ht
   have hb:((x:Int)!=-1)=true:=by rw[Q4];omega
   simp only[hb,Ai,Ao,h];rw[Aj (L7 (by omega)),Aj (L7 hx)]
  have hd:Ht t (-1,l.set x true)=some (.done (l.set x true)):=by
   rfl
  refine⟨l.set x _,by rw[An hs,Am hd],by simp[hl],λz hz=>?_⟩;rw[GT (by omega)]
  have htop:UpTo (Bd t) x z↔z=x:=FB λp hp=>by have :=hp.symm.trans h;omega
  rw[htop]
  by_cases e:z=x
  ·simp[e]
  ·simp[e]
 | @up x y r k hx h hk ih=>
  intro l hl
  have hs:Ht t (x,l)=some (.next (y,l.set x true)):=by
   unfold Ht
   have hb:(x !=(-1:Int))=true:=by rw[Q4];omega
   simp only[hb,Ai,Ao,h];rw[Aj (L7 (by omega)),Aj (L7 hx)]
  obtain⟨l',e1,e2,e3⟩:=ih (l.set x _) (by simp[hl]);refine⟨l',by rw[An hs,e1],e2,λz hz=>?_⟩;rw[e3 z hz,GT (by omega),anc_up (par:=Bd t) h]
  by_cases e:z=x
  ·simp[e]
  ·simp[e]
theorem lf{b r k:Nat}(h:Tp t b r k)(l:List Bool)(hl:l.length=t.length):l.getD r false=true->∃ c:Nat,Af (Gd t l) (b:Int)=some (c:Int)/\UpTo (Bd t) b c/\l.getD c false=true/\∀ z,UpTo (Bd t) b z->l.getD z false=true->UpTo (Bd t) c z:=by
 induction h with
 | @top x hx h=>
  intro hr
  have hd:Gd t l x=some (.done x):=by
   unfold Gd;rw[Aj (L7 (by omega)),Ao,hr]
   rfl
  exact⟨x,Am hd,.refl _,hr,λz hz _=>hz⟩
 | @up x y r k hx h hk ih=>
  intro hr
  cases hx2:l.getD x _ with
  | true=>
   have hd:Gd t l x=some (.done x):=by
    unfold Gd;rw[Aj (L7 (by omega)),Ao,hx2]
    rfl
   exact⟨x,Am hd,.refl _,hx2,λz hz _=>hz⟩
  | false=>
   have hs:Gd t l x=some (.next y):=by
    unfold Gd;rw[Aj (L7 (by omega)),Ao,hx2,Lx,Ai,Aj (L7 hx),h]
   obtain⟨c,e1,e2,e3,e4⟩:=ih hr;refine⟨c,by rw[An hs,e1],.up h e2,e3,λz hz hlz=>?_⟩;rcases(anc_up  h).1 hz with rfl|hz
   ·grind
   ·exact e4 z hz hlz
theorem DG(ht:t.length<=1000){a b r k m:Nat}(ha:Tp t a r k)(hb:Tp t b r m):∃ c:Nat,Na t (a:Int) (b:Int)=some (c:Int)/\MeetAt (Bd t) a b c:=by
 unfold Na
 have hroom:1000<=room:=by decide
 rw[Aj ⟨by omega,by omega,by omega⟩,Ao];obtain⟨l',h1,h2,h3⟩:=ld ha (List.replicate t.length _) (by simp);rw[h1,Ax]
 have h3':∀ z,z<t.length->(l'.getD z false=true↔UpTo (Bd t) a z):=λz hz=>by grind
 obtain⟨c,e1,e2,e3,e4⟩:=lf hb l' h2 ((h3' r ha.tops.1).2 ha.upTo)
 have hc:c<t.length:=by grind
 refine⟨c,by rw[e1];rfl,λw=>⟨λhw=>⟨((h3' c hc).1 e3).trans hw,e2.trans hw⟩,λ⟨hw1,hw2⟩=>?_⟩⟩;obtain⟨j,_,hj,_⟩:=ha.on hw1;exact e4 w hw2 ((h3' w hj.lt).2 hw1)
theorem iM(hR:Lj t=true){a b r k m:Nat}(ha:Tp t a r k)(hb:Tp t b r m):∃ c:Nat,Ok t (a:Int) (b:Int)=(c:Int)/\MeetAt (Bd t) a b c:=by
 unfold Ok;rw[if_pos hR]
 have hcon:∀ z:Nat,(H9 t b).contains z=true↔UpTo (Bd t) b z:=λz=>by
  rw[Zy,hb.path.1]
  constructor
  ·grind
  ·grind
 rcases ha.path.2 (λx=>(H9 t _).contains x) with⟨e1,e2⟩|⟨f,e1,e2,e3,e4⟩
 ·have:=e2 r ha.upTo;rw[(hcon r).2 hb.upTo]at this
  cases this
 ·exact⟨f,by rw[e1];rfl,λw=>⟨λhw=>⟨e2.trans hw,((hcon f).1 e3).trans hw⟩,λ⟨hw1,hw2⟩=>e4 w hw1 ((hcon w).2 hw2)⟩⟩
theorem MeetAt.same{a b r k c d:Nat}(ha:Tp t a r k)(hc:MeetAt (Bd t) a b c)(hd:MeetAt (Bd t) a b d):c=d:=by
 obtain⟨j,_,hj,_⟩:=ha.on ((hc c).1 (.refl _)).1;exact(hj.anti ((hc d).2 ((hd d).1 (.refl _))) ((hd c).2 ((hc c).1 (.refl _)))).symm
end
theorem m_index(t:List Int)(v:Int)(ht:t.length<=1000):(∃ r:Nat,r<t.length/\t.getD r 0=v/\(∀ i,i<r->t.getD i 0≠v)/\Es t v=some (r:Int))\/((∀ i,i<t.length->t.getD i 0≠v)/\Es t v=some (-1)):=by
 have key:∀ k i:Nat,i+k=t.length->(∀ j,j<i->t.getD j 0≠v)->
   (∃ r:Nat,r<t.length/\t.getD r 0=v/\(∀ i,i<r->t.getD i 0≠v)/\Af (B2 t v) (i:Int)=some (.inr (r:Int)))\/((∀ i,i<t.length->t.getD i 0≠v)/\Af (B2 t v) (i:Int)=some (.inl ())):=by
  intro k
  induction k with
  | zero=>
   intro i hi hj
   obtain rfl:i=t.length:=by omega
   refine .inr ⟨hj,Am ?_⟩;unfold B2;rw[Fm];rfl
  | succ k ih=>
   intro i hi hj
   by_cases e:v=t.getD i 0
   ·refine .inl ⟨i,by omega,e.symm,hj,Am ?_⟩;unfold B2;have hb:((v:Int)==t.getD i 0)=true:=zzL62.2 e;simp only[Dd (show i<t.length by omega),Ai,Ao,hb];rw[Aj (L7 (by omega))]
   ·have hs:B2 t v (i:Int)=some (.next ((i+1:Nat):Int)):=by
     unfold B2;have hb:((v:Int)==t.getD i 0)=false:=zzL28.2 e;simp only[Dd (show i<t.length by omega),Ai,Ao,hb,A8];rw[Aj (L7 (by omega)),w1 (by omega)]
    rw[An hs]
    exact ih (i+1) (by omega) λj hj2=>by
     by_cases ej:j=i
     ·subst ej;exact λh=>e h.symm
     ·exact hj j (by omega)
 have h0:=key t.length 0 (by omega) (λj hj=>absurd hj (Ts _));unfold Es;rcases h0 with⟨r,h1,h2,h3,h4⟩|⟨h1,h2⟩
 ·exact .inl ⟨r,h1,h2,h3,by rw[show((0:Int))=((0:Nat):Int) from rfl,h4];rfl⟩
 ·exact .inr ⟨h1,by rw[show((0:Int))=((0:Nat):Int) from rfl,h2];rfl⟩
section
variable {t:List Int}
structure Wr(t:List Int)(r f:Nat)(w:List Int):Prop where
 len:w.length=t.length
 old:∀ y,y<t.length->w.getD y 0≠0->(w.getD y 0<=(f:Int))/\∃ k,Tp t y r k
structure fF(t:List Int)(r f x:Nat)(w:List Int):Prop where
 len:w.length=t.length
 hx:x<t.length
 old:∀ y,y<t.length->w.getD y 0≠0->w.getD y 0<=(f:Int)/\(∃ k,Tp t y r k)\/w.getD y 0=((f+1:Nat):Int)/\∀ r' k,Tp t x r' k->∃ j,k<j/\Tp t y r' j
 fwd:∀ r' k,Tp t x r' k->∃ j,k<=j/\Tp t f r' j
 back:∀ r' k,Tp t f r' k->∃ j,Tp t x r' j
def NZ(w:List Int):Nat:=w.countP λz=>z==0
theorem eD{w:List Int}{x:Nat}{v:Int}(hx:x<w.length)(h0:w.getD x 0=0)(hv:v≠0):NZ (w.set x v)<NZ w:=by
 unfold NZ;rw[List.countP_set hx];rw[Aa _ _ _ hx]at h0;have hp:0<w.countP λz=>z==0:=List.countP_pos_iff.2 ⟨w[x],CJ hx,by simp[h0]⟩;have hb :=zzL28.2 hv;simp only[h0,Vm,Iz,hb,JS,F6];omega
theorem leads_loop(ht:t.length<=1000){r:Nat}(hr:r<t.length)(htop:t.getD r 0 = -1){f:Nat}(hf:f<t.length):∀(m x:Nat) (w:List Int),NZ w<=m->fF t r f x w->
  (∃ w',Af (Cy t (f:Int) (r:Int)) ((x:Int),w)=some (.inl w')/\Wr t r (f+1) w'/\∃ k,Tp t f r k) \/
  ∃ b w',Af (Cy t (f:Int) (r:Int)) ((x:Int),w)=some (.inr (b,w'))/\w'.length=t.length/\(b=true->Wr t r (f+1) w'/\∃ k,Tp t f r k)/\(b=false->∀ k,¬ Tp t f r k):=by
 intro m
 induction m with
 | zero=>
  intro x w hz hw;exact go 0 (λx w hz=>absurd hz (Ts _)) x w hz hw
 | succ m ih=>
  intro x w hz hw;exact go (m+1) (λx w hz=>ih x w (Nat.le_of_lt_succ hz)) x w hz hw
where
 go (m:Nat) (ih:∀(x:Nat) (w:List Int),NZ w<m->fF t r f x w->
  (∃ w',Af (Cy t (f:Int) (r:Int)) ((x:Int),w)=some (.inl w')/\Wr t r (f+1) w'/\∃ k,Tp t f r k) \/
  ∃ b w',Af (Cy t (f:Int) (r:Int)) ((x:Int),w)=some (.inr (b,w'))/\w'.length=t.length/\(b=true->Wr t r (f+1) w'/\∃ k,Tp t f r k)/\(b=false->∀ k,¬ Tp t f r k)) (x:Nat) (w:List Int) (hz:NZ w<=m) (hw:fF t r f x w) :
  (∃ w',Af (Cy t (f:Int) (r:Int)) ((x:Int),w)=some (.inl w')/\Wr t r (f+1) w'/\∃ k,Tp t f r k) \/
  ∃ b w',Af (Cy t (f:Int) (r:Int)) ((x:Int),w)=some (.inr (b,w'))/\w'.length=t.length/\(b=true->Wr t r (f+1) w'/\∃ k,Tp t f r k)/\(b=false->∀ k,¬ Tp t f r k):=by
  have hxl:=hw.hx
  have told:∀ k,Tp t x r k->Wr t r (f+1) w/\∃ k,Tp t f r k:=λk hk=>by
   obtain⟨j,_,hj⟩:=hw.fwd _ _ hk;refine⟨⟨hw.len,λy hy hy0=>?_⟩,j,hj⟩;rcases hw.old y hy hy0 with⟨h1,h2⟩|⟨h1,h2⟩
   ·exact⟨by omega,h2⟩
   ·obtain⟨i,_,hi⟩:=h2 _ _ hk;exact⟨by omega,i,hi⟩
  by_cases hxr:x=r
  ·subst hxr;refine .inl ⟨w,Am ?_,told 0 (.top hr htop)⟩;unfold Cy
   have hb:((x:Int)!=(x:Int))=false:=by simp
   simp only[hb,A8]
  ·have hb:((x:Int)!=(r:Int))=true:=by rw[Q4];omega
   have hin:Bl (x:Int) w.length:=L7 (by rw[hw.len];exact hxl)
   by_cases hw0:w.getD x 0=0
   ·have hb0:((w.getD x 0:Int)!=0)=false:=by rw[hw0];rfl
    by_cases hpl:0<=t.getD x 0/\t.getD x 0<(t.length:Int)
    ·have hwf:Ay ((f:Int)+1)=((f+1:Nat):Int):=w1 (by omega)
     have hs:Cy t (f:Int) (r:Int) ((x:Int),w)=some (.next (t.getD x 0,w.set x ((f+1:Nat):Int))):=by
      unfold Cy I4;simp only[hb,Ai,Ao,hb0,A8];rw[Aj hin,Aj (L7 hxl),Gw hpl.1,Gw hpl.2,Ai,Ax,Hz,A8,Aj hin,Aj (L7 hxl),hwf]
     rw[An hs];obtain⟨y,hy⟩:∃ y:Nat,t.getD x 0=(y:Int):=⟨(t.getD x 0).toNat,(Xh hpl.1).symm⟩;rw[hy]at hpl ⊢
     have hyl:y<t.length:=by omega
     have hst:∀ r' k,Tp t y r' k->Tp t x r' (k+1):=λr' k hk=>.up hxl hy hk
     have hset:∀ z,z<t.length->(w.set x ((f+1:Nat):Int)).getD z 0=if z=x then((f+1:Nat):Int) else w.getD z 0:=λz _=>GT (by rw[hw.len];exact hxl)
     have hW:fF t r f y (w.set x ((f+1:Nat):Int)):=by
      refine⟨by simp[hw.len],hyl,λz hzl hz0=>?_,λr' k hk=>?_,λr' k hk=>?_⟩
      ·rw[hset z hzl]at hz0 ⊢
       by_cases e:z=x
       ·subst e;rw[if_pos rfl];exact .inr ⟨rfl,λr' k hk=>⟨k+1,by omega,hst r' k hk⟩⟩
       ·rw[if_neg e]at hz0 ⊢;rcases hw.old z hzl hz0 with h1|⟨h1,h2⟩
        ·exact .inl h1
        ·refine .inr ⟨h1,λr' k hk=>?_⟩;obtain⟨j,hj1,hj2⟩:=h2 _ _ (hst r' k hk);exact⟨j,by omega,hj2⟩
      ·obtain⟨j,hj1,hj2⟩:=hw.fwd _ _ (hst r' k hk);exact⟨j,by omega,hj2⟩
      ·obtain⟨j,hj⟩:=hw.back _ _ hk
       cases hj with
       | top _ h2=>omega
       | up _ h2 h3=>
        have:=hy.symm.trans h2
        cases CL this
        exact⟨_,h3⟩
     have hzz:=eD (x:=x) (v:=((f+1:Nat):Int)) (by rw[hw.len];exact hxl) hw0 (by omega);exact ih y _ (by omega) hW
    ·refine .inr ⟨false,w,Am ?_,hw.len,⟨λh=>(by cases h),λ_ k hk=>?_⟩⟩
     ·unfold Cy I4;simp only[hb,Ai,Ao,hb0,A8];rw[Aj hin,Aj (L7 hxl)]
      have:(bif decide ((0:Int)<=t.getD x 0) then decide (t.getD x 0<(t.length:Int)) else false)=false:=by
       cases h1:decide ((0:Int)<=t.getD x 0) with
       | false=>rfl
       | true=>rw[Ai];exact Gv λh2=>hpl ⟨CI h1,h2⟩
      rw[this,Ax]
      rfl
     ·obtain⟨j,hj⟩:=hw.back _ _ hk
      cases hj with
      | top=>exact hxr rfl
      | up _ h2 h3=>have:=h3.lt;exact hpl ⟨by omega,by omega⟩
   ·have hb0:((w.getD x 0:Int)!=0)=true:=by rw[Q4];exact hw0
    have hwf:Ay ((f:Int)+1)=((f+1:Nat):Int):=w1 (by omega);refine .inr ⟨w.getD x 0 !=((f+1:Nat):Int),w,Am ?_,hw.len,⟨λh=>?_,λh k hk=>?_⟩⟩
    ·unfold Cy;simp only[hb,Ai,Ao,hb0];rw[Aj hin,Aj hin,hwf]
    ·rcases hw.old x hxl hw0 with⟨_,k,hk⟩|⟨h1,_⟩
     ·exact told k hk
     ·rw[h1]at h;simp at h
    ·have he:w.getD x 0=((f+1:Nat):Int):=by simpa using h
     obtain⟨j,hj⟩:=hw.back _ _ hk;rcases hw.old x hxl hw0 with⟨h1,_⟩|⟨_,h2⟩
     ·omega
     ·obtain⟨i,hi1,hi2⟩:=h2 _ _ hj;have:=hj.det hi2;omega
end
section
variable {t:List Int}
theorem la(ht:t.length<=1000){r:Nat}(hr:r<t.length)(htop:t.getD r 0 = -1){f:Nat}(hf:f<t.length){w:List Int}(hw:Wr t r f w) :
  ∃ b w',P9 t w (f:Int) (r:Int)=some (b,w')/\w'.length=t.length/\(b=true->Wr t r (f+1) w'/\∃ k,Tp t f r k)/\(b=false->∀ k,¬ Tp t f r k):=by
 unfold P9;have hW:fF t r f f w:=⟨hw.len,hf,λy hy h0=>.inl (hw.old y hy h0),λr' k hk=>⟨k,zzL5 _,hk⟩,λr' k hk=>⟨k,hk⟩⟩;rcases leads_loop ht hr htop hf _ f w (zzL5 _) hW with⟨w',e1,e2⟩|⟨b,w',e1,e2,e3,e4⟩
 ·exact⟨true,w',by rw[e1];rfl,e2.1.len,λ_=>e2,λh=>by cases h⟩
 ·grind
def LO(t:List Int)(r:Nat):Prop:=∀ f,f<t.length->t.getD f 0≠-2->∃ k,Tp t f r k
open Classical in
theorem SZ(ht:t.length<=1000){r:Nat}(hr:r<t.length)(htop:t.getD r 0 = -1):∀(k f:Nat) (w:List Int),f+k=t.length->Wr t r f w->(∀ y,y<f->t.getD y 0≠-2->∃ k,Tp t y r k)->
  Af (E0 t (r:Int)) ((f:Int),w)=some (if LO t r then .inl () else .inr false):=by
 intro k
 induction k with
 | zero=>
  intro f w hk hw hd
  obtain rfl:f=t.length:=by omega
  apply Am
  unfold E0;simp only[Fm,A8];rw[if_pos (show LO t r from hd)]
 | succ k ih=>
  intro f w hk hw hd
  have hf:f<t.length:=by omega
  by_cases h2:t.getD f 0 = -2
  ·have hb:((t.getD f 0:Int)!=(-2))=false:=by rw[h2];rfl
   have hs:E0 t (r:Int) ((f:Int),w)=some (.next (((f+1:Nat):Int),w)):=by
    unfold E0;simp only[Dd hf,Ai,Ao,hb,show(false==true)=false from rfl,A8,Ax];rw[Aj (L7 hf),Aj (λh=>by cases h),w1 (by omega)]
   rw[An hs];refine ih (f+1) w (by omega) ⟨hw.len,λy hy h0=>?_⟩ λy hy hy2=>?_
   ·obtain⟨e1,e2⟩:=hw.old y hy h0;exact⟨by omega,e2⟩
   ·by_cases e:y=f
    ·subst e;exact absurd h2 hy2
    ·exact hd y (by omega) hy2
  ·have hb:((t.getD f 0:Int)!=(-2))=true:=by rw[Q4];exact h2
   obtain⟨b,w',e1,e2,e3,e4⟩:=la ht hr htop hf hw
   cases b with
   | false=>
    rw[if_neg (λhA:LO t r=>by obtain⟨k,hk⟩:=hA f hf h2;exact e4 rfl k hk)]
    apply Am
    unfold E0;simp only[Dd hf,Ai,Ao,hb,show(true==true)=true from rfl,e1,Ax];rw[Aj (L7 hf),Aj (λ_=>by rw[hw.len,e2])]
    rfl
   | true=>
    have hs:E0 t (r:Int) ((f:Int),w)=some (.next (((f+1:Nat):Int),w')):=by
     unfold E0;simp only[Dd hf,Ai,Ao,hb,show(true==true)=true from rfl,e1,Ax];rw[Aj (L7 hf),Aj (λ_=>by rw[hw.len,e2]),w1 (by omega)]
     rfl
    rw[An hs];obtain⟨e5,e6⟩:=e3 rfl;refine ih (f+1) w' (by omega) e5 λy hy hy2=>?_
    by_cases e:y=f
    ·subst e;exact e6
    ·exact hd y (by omega) hy2
theorem jG:Zv t t.length=1↔∃ r,r<t.length/\t.getD r 0 = -1/\∀ x,x<t.length->t.getD x 0 = -1->x=r:=by
 have key:∀ n,(Zv t n=0↔∀ x,x<n->t.getD x 0≠-1)/\(Zv t n=1↔∃ r,r<n/\t.getD r 0 = -1/\∀ x,x<n->t.getD x 0 = -1->x=r):=by
  intro n
  induction n with
  | zero=>exact⟨⟨λ_ x hx=>absurd hx (Ts _),λ_=>rfl⟩,⟨λh=>by simp[Zv]at h,λ⟨r,h,_⟩=>absurd h (Ts _)⟩⟩
  | succ n ih=>
   rw[JC]
   by_cases e:t.getD n 0 = -1
   ·rw[if_pos e];refine⟨⟨λh=>by omega,λh=>absurd e (h n (by omega))⟩,⟨λh=>⟨n,by omega,e,λx hx hx1=>?_⟩,λ⟨r,h1,h2,h3⟩=>?_⟩⟩
    ·by_cases ex:x=n
     ·exact ex
     ·grind
    ·have:=ih.1.2 λx hx hx1=>by
      grind
     omega
   ·grind
 exact(key _).2
theorem rightD_iff:Lj t=true↔∃ r,r<t.length/\t.getD r 0 = -1/\LO t r:=by
 unfold Lj;rw[Az,all_range,El,jG]
 constructor
 ·rintro⟨h1,r,h2,h3,h4⟩;refine⟨r,h2,h3,λf hf hf2=>?_⟩;have:=h1 f hf;unfold rY at this;rw[Vi,El,Xi,QV]at this;rcases this with h|h
  ·exact absurd h hf2
  ·obtain⟨x,r',k,e,hk⟩:=pathD_tp.1 h
   cases CL e
   have:=h4 _ hk.tops.1 hk.tops.2;subst this;exact⟨k,hk⟩
 ·rintro⟨r,h2,h3,h4⟩;refine⟨λf hf=>?_,r,h2,h3,λx hx hx1=>?_⟩
  ·unfold rY;rw[Vi,El,Xi,QV]
   by_cases e:t.getD f 0 = -2
   ·exact .inl e
   ·obtain⟨k,hk⟩:=h4 f hf e;exact .inr (pathD_tp.2 ⟨f,r,k,rfl,hk⟩)
  ·obtain⟨k,hk⟩:=h4 x hx (by omega);exact((hk.det (.top hx hx1)).1).symm
theorem NJ(hR:Lj t=true):∃ r,LO t r:=by obtain⟨r,_,_,h⟩:=rightD_iff.1 hR;exact⟨r,h⟩
theorem iK(ht:t.length<=1000):Ox t=some (Lj t):=by
 unfold Ox
 have hroom:1000<=room:=by decide
 rcases m_index t _ ht with⟨r,h1,h2,h3,h4⟩|⟨h1,h2⟩
 ·rw[h4,Ax,Gv (by omega),A8,Aj ⟨by omega,by omega,by omega⟩,Ao];have hl:=SZ ht h1 h2 t.length 0 (List.replicate t.length 0) (by omega) ⟨by simp,λy hy h0=>absurd Zu h0⟩ (λy hy=>absurd hy (Ts _));rw[show(((0:Nat):Int))=0 from rfl]at hl;rw[hl,Ax]
  by_cases hA:LO t r
  ·rw[if_pos hA,rightD_iff.2 ⟨r,h1,h2,hA⟩]
  ·rw[if_neg hA]
   have :=Bool.eq_false_iff.2 λhR=>by
    obtain⟨r',g1,g2,g3⟩:=rightD_iff.1 hR;obtain⟨k,hk⟩:=g3 r h1 (by omega);have:=(hk.det (.top h1 h2)).1;subst this;exact hA g3
   rw[this]
 ·rw[h2]
  have :=Bool.eq_false_iff.2 λhR=>by
   obtain⟨r',g1,g2,g3⟩:=rightD_iff.1 hR;exact h1 r' g1 g2
  rw[this]
  rfl
def Xy(t:List Int)(a:Int):Bool:=decide (0<=a)&&decide (a<(t.length:Int))&&decide (t.getD a.toNat 0≠-2)
theorem GU(hR:Lj t=true){a:Int}:Xy t a=true↔∃ x k r:Nat,a=(x:Int)/\Tp t x r k:=by
 unfold Xy;rw[Az,Az,El,El,El]
 constructor
 ·rintro⟨⟨h1,h2⟩,h3⟩;obtain⟨r,hA⟩:=NJ hR;obtain⟨k,hk⟩:=hA _ (by omega) h3;exact⟨a.toNat,k,r,(Xh h1).symm,hk⟩
 ·rintro⟨x,k,r,rfl,h⟩;rw[Ao]
  cases h with
  | top _ h2=>omega
  | up _ h2 _=>omega
theorem YB(a:Int):Jo t a=some (Xy t a):=by
 unfold Jo I4 Xy;rw[Ax]
 cases h1:decide (0<=a) with
 | false=>rfl
 | true=>
  rw[Ai,Kw]
  cases h2:decide (a<t.length) with
  | false=>rfl
  | true=>
   rw[Aj (λ_=>⟨CI h1,CI h2⟩),Ai,Kw]
   congr 1
   rw[Vh,Q4,El]
theorem lZ(ht:t.length<=1000)(a b:Int):P8 t a b=some (Lj t&&Xy t a&&Xy t b):=by
 unfold P8;rw[iK ht]
 cases Lj t with
 | false=>rfl
 | true=>
  simp only[  YB, Kw]
  cases Xy t a with
  | false=>rfl
  | true=>grind
theorem dY{a b:Int}(h:(Lj t&&Xy t a&&Xy t b)=false):Ok t a b = -2:=by
 unfold Ok
 by_cases hR:Lj t=true
 ·rw[if_pos hR];rw[hR]at h
  have hno:∀ c,Xy t c=false->H9 t c=[]:=λc hc=>by
   by_cases e:H9 t c=[]
   ·exact e
   ·obtain⟨x,r,k,e1,e2⟩:=pathD_tp.1 e;rw[(GU hR).2 ⟨x,k,r,e1,e2⟩]at hc;cases hc
  cases ha:Xy t a with
  | false=>rw[hno a ha];rfl
  | true=>
   rw[ha]at h;rw[hno b h]
   have:((H9 t a).find? λx=>[].contains x)=none:=List.find?_eq_none.2 λx _=>by simp
   rw[this]
   rfl
 ·rw[if_neg hR]
theorem KV(ht:t.length<=1000){a b:Int}(h:(Lj t&&Xy t a&&Xy t b)=true):Na t a b=some (Ok t a b)/\0<=Ok t a b:=by
 rw[Az,Az]at h;obtain⟨⟨hR,ha⟩,hb⟩:=h;obtain⟨x,k,r,rfl,hx⟩:=(GU hR).1 ha;obtain⟨y,m,r',rfl,hy⟩:=(GU hR).1 hb;obtain⟨rr,hA⟩:=NJ hR
 have top:∀{x r k},Tp t x r k->r=rr:=λ{x r k} h=>by
  obtain⟨i,hi⟩:=hA r h.tops.1 (by rw[h.tops.2];omega);exact((Tp.top h.tops.1 h.tops.2).det hi).1
 obtain rfl:=top hx;obtain rfl:=top hy;obtain⟨c,h1,h2⟩:=DG ht hx hy;obtain⟨d,h3,h4⟩:=iM hR hx hy;have:=h2.same hx h4;subst this;exact⟨by rw[h1,h3],by omega⟩
theorem oR(ht:t.length<=1000)(a b:Int):Sv t a b=some (Hy t a b):=by
 unfold Sv Hy;rw[lZ ht]
 cases h:(Lj t&&Xy t a&&Xy t b) with
 | false=>
  rw[dY h]
  have:(-2==a&&(-2 !=-2))=false:=by simp
  rw[this]
  rfl
 | true=>
  obtain⟨h1,h2⟩:=KV ht h;simp only[show(true==true)=true from rfl,Ai,h1,Ax]
  have:(Ok t a b !=-2)=true:=by rw[Q4];omega
  rw[this,JQ]
end
theorem lh:∀ n:Fin 65,M8 (Ki 1) (Ki ((n.val:Nat):Int))=some (0,((n.val:Nat):Int)):=by decide +kernel
theorem db{n:Nat}(h:n<=64):M8 (Ki 1) (Ki (n:Int))=some (0,(n:Int)):=lh ⟨n,by omega⟩
theorem UW{v:Int}{n:Nat}(hn:n<=64):∀(m i:Nat) (l:List Int),n-i<=m->1<=i->i<=n->l.length=n->(∀ j,j<i->l.getD j 0=v)->Af Cl ((i:Int),l)=some (List.replicate n v):=by
 intro m
 induction m with
 | zero=>
  intro i l hm h1 h2 hl hv
  obtain rfl:i=n:=by omega
  exact fin l hl hv
 | succ m ih=>
  intro i l hm h1 h2 hl hv
  by_cases e:i=n
  ·grind
  ·have hs:Cl ((i:Int),l)=some (.next (((i+Nat.min i (n-i):Nat):Int),FG l i (Nat.min i (n-i)) (λj=>l.getD (0+j) 0))):=by
    unfold Cl;simp only[hl,Dd (show i<n by omega),Ai,Ao,E2,Vj];have hc:(0:Int)<=(i:Int)/\i<=n:=⟨by omega,h2⟩;have hmn:Nat.min i (n-i)<=i:=Nat.min_le_left _ _;rw[Aj hc,Aj hc,Ed (by omega) (by omega),Int.natCast_add]
   rw[An hs];have hmn:Nat.min i (n-i)<=i/\Nat.min i (n-i)<=n-i:=⟨Nat.min_le_left _ _,Nat.min_le_right _ _⟩;have hge:1<=Nat.min i (n-i):=Nat.le_min.2 ⟨h1,by omega⟩;refine ih _ _ (by omega) (by omega) (by omega) (by rw[<- Dc];exact hl) λj hj=>?_;rw[Yw _ _ _ _ _ _ (by omega)]
   by_cases hji:i<=j/\j<i+Nat.min i (n-i)
   ·grind
   ·grind
where
 fin {v:Int} {i:Nat} (l:List Int) (hl:l.length=i) (hv:∀ j,j<i->l.getD j 0=v):Af Cl ((i:Int),l)=some (List.replicate i v):=by
  apply Am
  unfold Cl;simp only[hl,Fm,A8]
  congr 2
  refine AA (by simp[hl]) λj h1 h2=>?_;rw[<- Aa _ _ 0 h1,hv j (by omega)]
  simp
theorem iL{v:Int}{n:Nat}(h1:1<=n)(hn:n<=64):Fz [v] (n:Int)=some (List.replicate n v):=by
 have hroom:64<=room:=by decide
 unfold Fz;rw[Gv (by omega),A8,Ax]
 show Option.bind (M8 (Ki 1) _) _=_
 rw[db hn,Ax];have e1:decide (0<0)=false:=rfl;have e2:decide (9223372036854775807<(n:Int))=false:=Gv (by omega);simp only[ e2,A8];have ew:Ay n=n:=Ed (by omega) (by omega);rw[ew,Aj ⟨by omega,by omega,by omega⟩,Ao,N7,Vj];have em:Nat.min [v].length n=1:=Nat.min_eq_left h1;rw[em,UW hn n 1 _ (by omega) (zzL5 _) h1 (by rw[<- Dc];simp) (λj hj=>?_)]
 ·rfl
 ·rw[Yw _ _ _ _ _ _ (by simp;omega),if_pos ⟨by omega,by omega⟩]
  have:j-0=0:=by omega
  rw[this];rfl
section
variable {S:Nat->List Nat} {r n:Nat} {P:List Nat}
theorem Inv.tp{at_:Nat->Nat}{t:List Int}(h:Inv S r n at_ (Bd t))(hl:t.length=n):∀ m x,at_ x<=m->x<n->Bd t x≠-2->∃ k,Tp t x r k:=by
 intro m
 induction m with
 | zero=>
  intro x hm hx hp;rcases h.kind x hx with h1|h1|⟨z,hz⟩
  ·exact absurd h1 hp
  ·subst h1;exact⟨0,.top (by omega) h.top⟩
  ·obtain⟨_,_,h3,_⟩:=h.up x hx z hz;omega
 | succ m ih=>
  intro x hm hx hp;rcases h.kind x hx with h1|h1|⟨z,hz⟩
  ·exact absurd h1 hp
  ·subst h1;exact⟨0,.top (by omega) h.top⟩
  ·obtain⟨z1,z2,z3,_⟩:=h.up x hx z hz;obtain⟨k,hk⟩:=ih z (by omega) z1 z2;exact⟨k+1,.up (by omega) hz hk⟩
def Yi(t l:List Int)(i:Nat)(v:Int):Prop:=
 (v = -2/\∀ j,j<i->Bd t (l.getD j 0).toNat = -2) \/
 ∃ z:Nat,v=(z:Int)/\z<t.length/\Bd t z≠-2/\(∀ w,UpTo (Bd t) z w↔∀ j,j<i->Bd t (l.getD j 0).toNat≠-2->UpTo (Bd t) (l.getD j 0).toNat w)
theorem PS{at_:Nat->Nat}{t l:List Int}(ht:t.length<=64)(hll:l.length<=64)(h:Inv S r n at_ (Bd t))(hl:t.length=n)(hin:∀ x∈l,0<=x/\x<(n:Int)):∀(k i:Nat) (v:Int),i+k=l.length->Yi t l i v->
  ∃ v',Af (Ej t l) (v,(i:Int))=some v'/\Yi t l l.length v':=by
 intro k
 induction k with
 | zero=>
  intro i v hi hv
  obtain rfl:i=l.length:=by omega
  refine⟨v,Am ?_,hv⟩;unfold Ej;simp only[Fm,A8]
 | succ k ih=>
  intro i v hi hv
  have hil:i<l.length:=by omega
  obtain⟨x0,x1⟩:=hin _ (Ag (d:=0) hil);have hxe:(((l.getD i 0).toNat:Nat):Int)=l.getD i 0:=Xh x0;have hxin:Bl (l.getD i 0) t.length:=qU x0 (by omega)
  have next:∀ v',Ej t l (v,(i:Int))=some (.next (v',((i+1:Nat):Int)))->Yi t l (i+1) v'->∃ v',Af (Ej t l) (v,(i:Int))=some v'/\Yi t l l.length v':=λv' hs hv'=>by
   rw[An hs];exact ih (i+1) v' (by omega) hv'
  by_cases hp:Bd t (l.getD i 0).toNat = -2
  ·have hb:((t.getD (l.getD i 0).toNat 0:Int)==-2)=true:=zzL62.2 hp;refine next v ?_ ?_
   ·unfold Ej;simp only[Dd hil,Ai,Ao,hb];rw[Aj (L7 hil),Aj hxin,Ax,w1 (by omega)]
   ·have hstep:∀ w,(∀ j,j<i->Bd t (l.getD j 0).toNat≠-2->UpTo (Bd t) (l.getD j 0).toNat w)↔∀ j,j<i+1->Bd t (l.getD j 0).toNat≠-2->UpTo (Bd t) (l.getD j 0).toNat w:=λw=>by
     refine⟨λhj j hj1 hj2=>?_,λhj j hj1=>hj j (by omega)⟩
     by_cases e:j=i
     ·subst e;exact absurd hp hj2
     ·exact hj j (by omega) hj2
    rcases hv with⟨h1,h2⟩|⟨z,h1,h2,h3,h4⟩
    ·refine .inl ⟨h1,λj hj=>?_⟩
     by_cases e:j=i
     ·subst e;exact hp
     ·exact h2 j (by omega)
    ·exact .inr ⟨z,h1,h2,h3,λw=>by rw[h4 w,hstep w]⟩
  ·have hb:((t.getD (l.getD i 0).toNat 0:Int)==-2)=false:=zzL28.2 hp;rcases hv with⟨h1,h2⟩|⟨z,h1,h2,h3,h4⟩
   ·subst h1;refine next (l.getD i 0) ?_ (.inr ⟨(l.getD i 0).toNat,hxe.symm,by omega,hp,λw=>⟨λhw j hj hj2=>?_,λhw=>hw i (by omega) hp⟩⟩)
    ·unfold Ej;simp only[Dd hil,Ai,Ao,hb,A8,show((-2:Int)==-2)=true from rfl];rw[Aj (L7 hil),Aj hxin,Ax,w1 (by omega)]
    ·by_cases e:j=i
     ·subst e;exact hw
     ·exact absurd (h2 j (by omega)) hj2
   ·subst h1;have hb2:((z:Int)==-2)=false:=zzL28.2 (by omega);obtain⟨k1,hk1⟩:=h.tp hl _ z (zzL5 _) (by omega) h3;obtain⟨k2,hk2⟩:=h.tp hl _ (l.getD i 0).toNat (zzL5 _) (by omega) hp;obtain⟨c,c1,c2⟩:=DG (by omega) hk1 hk2;have hcz:=(c2 c).1 (.refl _);obtain⟨jc,_,hjc,_⟩:=hk1.on hcz.1
    have hcp:Bd t c≠-2:=by
     show t.getD c 0≠-2
     cases hjc with
     | top _ h=>omega
     | up _ h _=>omega
    refine next (c:Int) ?_ (.inr ⟨c,rfl,hjc.lt,hcp,λw=>?_⟩)
    ·rw[hxe]at c1;unfold Ej;simp only[Dd hil,Ai,Ao,hb,A8,hb2,c1,Ax];rw[Aj (L7 hil),Aj hxin,Ax,w1 (by omega)]
    ·rw[c2 w,h4 w];refine⟨λ⟨a1,a2⟩ j hj hj2=>?_,λha=>⟨λj hj=>ha j (by omega),ha i (by omega) hp⟩⟩
     by_cases e:j=i
     ·subst e;exact a2
     ·exact a1 j (by omega) hj2
theorem dT{at_:Nat->Nat}{t l:List Int}(ht:t.length<=64)(hll:l.length<=64)(h:Inv S r n at_ (Bd t))(hl:t.length=n)(hin:∀ x∈l,0<=x/\x<(n:Int)) :
  ∃ v,I5 t l=some v/\Yi t l l.length v:=by
 obtain⟨v,h1,h2⟩:=PS ht hll h hl hin l.length 0 _ (by omega) (.inl ⟨rfl,λj hj=>absurd hj (Ts _)⟩);refine⟨v,?_,h2⟩;unfold I5;rw[show((0:Int))=(0:Nat) from rfl,h1]
 rfl
end
section
variable {L:List (List Int)} (hm:Ld L=true) {r:Nat} {P:List Nat}
include hm
theorem iy{p y:Nat}(hp:p<L.length):y∈sN L p↔CZ L p y=true:=by
 rw[gz];obtain⟨_,_,h3⟩:=mayS_iff.1 hm
 constructor
 ·intro h;obtain⟨x,hx,rfl⟩:=zzL14.1 h;have:=PW (h3 p hp) hx;rw[Xh this.1];exact hx
 ·intro h;exact zzL14.2 ⟨_,h,Ao y⟩
theorem U3{y:Nat}(hy:y<L.length){x:Int}:x∈(Ec L).getD y []↔∃ p:Nat,x=(p:Int)/\p<L.length/\y∈sN L p:=by
 rw[BV hy];unfold Li;rw[iN]
 constructor
 ·rintro⟨k,h1,h2,h3⟩;exact⟨k,h1,h2,(iy hm h2).2 h3⟩
 ·rintro⟨k,h1,h2,h3⟩;exact⟨k,h1,h2,(iy hm h2).1 h3⟩
theorem PR(o:Ordered (sN L) r L.length P){t:List Int}{i:Nat}(h:Ready (sN L) r L.length P t i)(hi:i<P.length) :
  I5 t ((Ec L).getD (P.getD i 0) [])=some (K8 (sN L) L.length t (P.getD i 0):Int):=by
 obtain⟨hL1,hL64,_⟩:=mayS_iff.1 hm;have hyn:P.getD i 0<L.length:=o.lt (Jz _ (Rb hi))
 have hlen:((Ec L).getD (P.getD i 0) []).length<=64:=by
  rw[BV hyn];have:=X3 L L.length (P.getD i 0);omega
 obtain⟨v,h1,h2⟩:=dT (by rw[h.len];exact hL64) hlen h.inv h.len λx hx=>by
  obtain⟨p,rfl,hp,_⟩:=(U3 hm hyn).1 hx;omega
 rw[h1];have hb:=h.best o hi
 have mem:∀ p,p<L.length->P.getD i 0∈sN L p->∃ j,j<((Ec L).getD (P.getD i 0) []).length/\(((Ec L).getD (P.getD i 0) []).getD j 0).toNat=p:=λp hp hy=>by
  obtain⟨j,hj,e⟩:=E1 ((U3 hm hyn).2 ⟨p,rfl,hp,hy⟩);exact⟨j,hj,by rw[Aa _ _ _ hj,e,Ao]⟩
 have mem':∀ j,j<((Ec L).getD (P.getD i 0) []).length->(((Ec L).getD (P.getD i 0) []).getD j 0).toNat<L.length/\P.getD i 0∈sN L (((Ec L).getD (P.getD i 0) []).getD j 0).toNat:=λj hj=>by
  obtain⟨p,e,hp,hy⟩:=(U3 hm hyn).1 (Ag (d:=(0:Int)) hj);rw[e,Ao];exact⟨hp,hy⟩
 rcases h2 with⟨rfl,h3⟩|⟨z,rfl,hz,hz2,h4⟩
 ·obtain⟨p,hp,hyp,hp2,_⟩:=hb.fwd;obtain⟨j,hj,e⟩:=mem p hp hyp;exact absurd (by rw[<- e];exact h3 j hj) hp2
 ·have hbest:WK (sN L) L.length (Bd t) (P.getD i 0) z:=λw=>by
   rw[h4 w];refine⟨λha p hp hyp hp2=>?_,λha j hj hj2=>?_⟩
   ·obtain⟨j,hj,e⟩:=mem p hp hyp;have:=ha j hj (by rw[e];exact hp2);rwa[e]at this
   ·grind
  rw[h.best_eq o hi (by rw[<- h.len];exact hz) hz2 hbest]
end
theorem TW{P:List Nat}{i:Nat}(h:i<P.length):(Q7 P).getD i 0=((P.getD i 0:Nat):Int):=by
 unfold Q7;rw[Aa _ _ _ (by simpa using h),Aa _ _ _ h,List.getElem_map]
 rfl
theorem UZ{t:List Int}{x:Nat}{v:Int}(hx:x<t.length)(h:t.getD x 0=v):t.set x v=t:=by
 subst h;rw[Aa _ _ _ hx];exact List.set_getElem_self hx
section
variable {L:List (List Int)} (hm:Ld L=true) {r:Nat} {P:List Nat} (o:Ordered (sN L) r L.length P)
include hm o
theorem YZ{t0:List Int}(h:Ready (sN L) r L.length P t0 0):∀(k i:Nat) (b:Bool),i+k=P.length->
  ∃ b',Af (D4 (Y5 L) (Q7 (r::P))) (b,(i:Int),Ud (sN L) L.length P t0 i)=some (b',Ud (sN L) L.length P t0 P.length) /\
   (b'=false↔b=false/\∀ j,i<=j->j<P.length->Bd (Ud (sN L) L.length P t0 j) (P.getD j 0)=(K8 (sN L) L.length (Ud (sN L) L.length P t0 j) (P.getD j 0):Int)):=by
 have hP64:P.length<=64:=by
  have h1:=O7 L.length (r::P) o.nodup λx hx=>o.lt hx;have h2:=(mayS_iff.1 hm).2.1;simp at h1;omega
 have hdl:(Q7 (r::P)).drop (1:Int).toNat=Q7 P:=rfl
 have hlen:(Q7 P).length=P.length:=by simp[Q7]
 intro k
 induction k with
 | zero=>
  intro i b hi
  obtain rfl:i=P.length:=by omega
  refine⟨b,Am ?_,λh=>⟨h,λj h1 h2=>by omega⟩,λh=>h.1⟩;unfold D4;simp only[hdl,hlen,Fm,A8]
 | succ k ih=>
  intro i b hi
  have hil:i<P.length:=by omega
  have rd:=h.round o i (by omega);have hma:=PR hm o rd hil;have hyn:P.getD i 0<L.length:=o.lt (Jz _ (Rb hil))
  have hyt:P.getD i 0<(Ud (sN L) L.length P t0 i).length:=by rw[rd.len];exact hyn
  have hpred:(Y5 L).Pred=Ec L:=rfl
  by_cases he:Bd (Ud (sN L) L.length P t0 i) (P.getD i 0)=(K8 (sN L) L.length (Ud (sN L) L.length P t0 i) (P.getD i 0):Int)
  ·have hb:((K8 (sN L) L.length (Ud (sN L) L.length P t0 i) (P.getD i 0):Int)!=(Ud (sN L) L.length P t0 i).getD (P.getD i 0) 0)=false:=by
    have:(Ud (sN L) L.length P t0 i).getD (P.getD i 0) 0=_:=he;rw[this];simp
   have hnx:Ud (sN L) L.length P t0 (i+1)=Ud (sN L) L.length P t0 i:=UZ hyt he
   have hs:D4 (Y5 L) (Q7 (r::P)) (b,(i:Int),Ud (sN L) L.length P t0 i)=some (.next (b,((i+1:Nat):Int),Ud (sN L) L.length P t0 (i+1))):=by
    unfold D4;simp only[hdl,hlen,Dd hil,Ai,Ao,TW hil,hpred,hma,Ax,hb,A8];rw[Aj (L7 hil),Aj (L7 (by rw[Nh];exact hyn)),Aj (L7 hyt),Ax,w1 (by omega),hnx]
   obtain⟨b',e1,e2⟩:=ih (i+1) b (by omega);refine⟨b',by rw[An hs,e1],λh=>?_,λ⟨h1,h2⟩=>e2.2 ⟨h1,λj hj=>h2 j (by omega)⟩⟩;obtain⟨h1,h2⟩:=e2.1 h;refine⟨h1,λj hj1 hj2=>?_⟩
   by_cases e:j=i
   ·subst e;exact he
   ·exact h2 j (by omega) hj2
  ·have hb:((K8 (sN L) L.length (Ud (sN L) L.length P t0 i) (P.getD i 0):Int)!=(Ud (sN L) L.length P t0 i).getD (P.getD i 0) 0)=true:=by
    rw[Q4];exact λe=>he e.symm
   have hs:D4 (Y5 L) (Q7 (r::P)) (b,(i:Int),Ud (sN L) L.length P t0 i)=some (.next (true,((i+1:Nat):Int),Ud (sN L) L.length P t0 (i+1))):=by
    unfold D4;simp only[hdl,hlen,Dd hil,Ai,Ao,TW hil,hpred,hma,Ax,hb];rw[Aj (L7 hil),Aj (L7 (by rw[Nh];exact hyn)),Aj (L7 hyt),Aj (L7 hyt),Ax,w1 (by omega)]
    rfl
   obtain⟨b',e1,e2⟩:=ih (i+1) true (by omega);refine⟨b',by rw[An hs,e1],λh=>?_,λ⟨h1,h2⟩=>absurd (h2 i (zzL5 _) hil) he⟩;obtain⟨h1,_⟩:=e2.1 h;cases h1
theorem dq{t0:List Int}(h:Ready (sN L) r L.length P t0 0):∃ b,Af (D4 (Y5 L) (Q7 (r::P))) (false,(0:Int),t0)=some (b,Ud (sN L) L.length P t0 P.length)/\(b=false↔Uh (sN L) L.length P t0):=by
 obtain⟨b,e1,e2⟩:=YZ hm o h P.length 0 _ (by omega);refine⟨b,e1,e2.trans ⟨λ⟨_,h2⟩=>?_,λhs=>⟨rfl,λj _ hj=>?_⟩⟩⟩
 ·have key:∀ j,j<=P.length->Ud (sN L) L.length P t0 j=t0:=by
   intro j
   induction j with
   | zero=>intro _;rfl
   | succ j ih=>
    intro hj;have ih':=ih (by omega);have rd:=h.round o j (by omega)
    have hyn:P.getD j 0<(Ud (sN L) L.length P t0 j).length:=by rw[rd.len];exact o.lt (Jz _ (Rb (by omega)))
    have:Ud _ _ P t0 (j+1)=Ud _ _ P t0 j:=UZ hyn (h2 j (Lz _) (by omega));rw[this,ih']
  intro i hi;have:=h2 i (Lz _) hi;rwa[key i (by omega)]at this
 ·rw[Vd o h.len hs j (by omega)];exact hs j hj
open Classical in
theorem cE(j:Nat):Fj (Y5 L) (Q7 (r::P),KD (sN L) L.length P (Gh L.length r) j)=some (if Uh (sN L) L.length P (KD (sN L) L.length P (Gh L.length r) j) then .done (KD (sN L) L.length P (Gh L.length r) (j+1)) else .next (Q7 (r::P),KD (sN L) L.length P (Gh L.length r) (j+1))):=by
 obtain⟨b,e1,e2⟩:=dq hm o (Ready.rounds o j);have hL2:Qu (Y5 L) (Q7 (r::P))=D4 (Y5 L) (Q7 (r::P)):=rfl
 have hlen:(0:Int)<=1/\(1:Int)<=((Q7 (r::P)).length:Int):=by simp[Q7];omega
 unfold Fj;simp only[hL2,e1,Ax];rw[Aj hlen]
 cases b with
 | false=>rw[if_pos (e2.1 rfl)];rfl
 | true=>rw[if_neg (λh=>by have:=e2.2 h;cases this)];rfl
theorem VG:∃ J,Uh (sN L) L.length P (KD (sN L) L.length P (Gh L.length r) J)/\Af (Fj (Y5 L)) (Q7 (r::P),Gh L.length r)=some (KD (sN L) L.length P (Gh L.length r) J):=by
 obtain⟨J,h1,h2⟩:=nF o;refine⟨J,h2,?_⟩
 have key:∀ d j,j+d=J->Af (Fj (Y5 L)) (Q7 (r::P),KD (sN L) L.length P (Gh L.length r) j)=some (KD (sN L) L.length P (Gh L.length r) J):=by
  intro d
  induction d with
  | zero=>
   intro j hj
   obtain rfl:j=J:=by omega
   have hF:=cE hm o j;rw[if_pos h2]at hF;rw[Am hF];have:KD _ _ P _ (j+1)=KD _ _ P _ j:=Vd o (Ready.rounds o j).len h2 _ (zzL5 _);rw[this]
  | succ d ih=>
   intro j hj;have hF:=cE hm o j;rw[if_neg (h1 j (by omega))]at hF;rw[An hF];exact ih _ (by omega)
 exact key J 0 (by omega)
end
theorem oS(g:C8)(r:Int)(h1:Fits g.Succ)(h2:Fits g.Pred):Pc g r=some (NR g r):=by
 unfold NR
 by_cases hc:BE g=true/\0<=r/\r<g.Succ.length
 ·rw[if_pos hc];obtain⟨hG,h0,hlt⟩:=hc;obtain⟨hm,hg⟩:=lc hG;obtain⟨hL1,hL64,_⟩:=mayS_iff.1 hm
  have hr:r.toNat<g.Succ.length:=by omega
  obtain⟨O,hO⟩:=Ord.exist (Vb hm) hr;have hord:=(PQ g h1 trivial r).1 hG h0 hlt O hO;obtain⟨P,rfl,o⟩:=hO.ordered hr (Vb hm);obtain⟨J,hJ,hl⟩:=VG hm o;have ht:=(DX o hJ).eq hm hr o;rw[ht]at hl;have hlen:(((Q7 (r.toNat::P)).length:Int)==0)=false:=zzL28.2 (by simp[Q7];omega)
  have hlen2:(0:Int)<=1/\(1:Int)<=(Q7 (r.toNat::P)).length:=by simp[Q7];omega
  have hL2:Qu g _=D4 g (Q7 (r.toNat::P)):=rfl
  have hst:(Nj (Fj g (Q7 (r.toNat::P),Gh g.Succ.length r.toNat)) (Fj g))=some (Xe g.Succ r.toNat):=by
   rw[DU,hg];exact hl
  unfold Pc;rw[hord,Ax,  iL hL1 hL64,Ax,Aj (qU h0 (by simpa using hlt)),Aj hlen2]
  have:(Fj g (Q7 (r.toNat::P),Gh g.Succ.length r.toNat))=(Af (D4 g (Q7 (r.toNat::P))) (false,0,(List.replicate g.Succ.length (-2)).set r.toNat (-1))).bind (λx22=>(match x22 with|(b10,l11)=>(bif b10 then(some (.next (Q7 (r.toNat::P),l11))) else(some (.done l11))))):=by
   unfold Fj Gh;simp only[hL2];rw[Aj hlen2]
  rw[this]at hst;refine Eq.trans ?_ (Bi (λx =>x.bind λx42=>some x42) hst)
  rfl
 ·rw[if_neg hc];unfold Pc
  have:(BE g&&(decide (0<=r)&&decide (r<g.Succ.length)))=false:=by
   grind
  rw[(PQ g h1 trivial r).2 this]
  rfl
theorem nv{α:Type}(l:List α)(d:α)(p:α->Bool){X:Type}(f:Int->Option (LR Int X))(yes no:X)(hl:l.length<9223372036854775808)(hk:∀ i:Nat,i<l.length->f i=some (bif p (l.getD i d) then .next (Ay ((i:Int)+1)) else .done no))
  (he:f l.length=some (.done yes)):Af f (0:Int)=some (bif l.all p then yes else no):=by
 have:=Uv l d p f yes no (λi hi hp=>by rw[hk i hi,hp,Ai,Fa hi hl]) (λi hi hp=>by grind) he l.length 0 (by omega);rwa[AC]at this
theorem oE(f:Ab)(hf:eS f)(l:Int)(t:List Int)(u:List A6):Ha f l t u=some (bif Rj f then 0 else 4,f,l,t,u):=by
 unfold Ha Jm;rw[sg f hf]
 cases Rj f<;>rfl
theorem dC(phis:List A4)(l:List Int)(h1:phis.length<9223372036854775808)(h2:l.length<4611686018427387904):K0 phis l=some (phis.all (Iu l)):=by
 unfold K0
 rw[nv _ _ (Iu l) _ (.inl ()) _ h1 (λi hi=>by
  unfold Lc
  have hd:decide ((i:Int)<phis.length)=true:=by simpa using hi
  simp only[hd, Ad (Ar hi),Do,PP _ _ h2, Iu]
  cases decide ((phis.getD i _).From=l) with
  | false=>rfl
  | true=>
   grind) (by unfold Lc;simp)]
 cases phis.all _<;>rfl
def WZ(e:F4):Bool:=!((e.Kind==1 || e.Kind==3)&&(e.Arg !=0))
theorem cw{n:Nat}(e:F4)(hk:Jj e n=true):Kz e=some (WZ e):=by
 have h4 :=by
  have:=(Az _ _▸hk).1;unfold Y9 at this;simp only[Az,El]at this;omega
 unfold Kz WZ
 have:e.Kind=0\/e.Kind=1\/e.Kind=2\/e.Kind=3:=by omega
 rcases this with h|h|h|h<;>rw[h]<;>cases hb:(e.Arg==0)<;>simp[hb,bne]
theorem YK{L:List (List Int)}(hm:Ld L=true){P:List Nat}(h0:0<L.length)(o:Ord (sN L) 0 P):decide (P.length<L.length) = !(List.range L.length).all λi=>(Zq L).getD i false:=by
 have hin:∀ x∈P,x<L.length:=λx hx=>(by obtain⟨Q,rfl,oo⟩:=o.ordered h0 (Vb hm);exact oo.lt hx)
 have hr:∀ z,(Zq L).getD z _=true↔z∈P:=λz=>by
  rw[o.mem z];exact U4 (Vb hm) h0 z
 cases ha:(List.range _).all _ with
 | true=>
  have:=((List.perm_ext_iff_of_nodup o.nodup List.nodup_range).2 λi=>⟨λh=>zzL30.2 (hin i h),λh=>(hr i).1 (zzL23.1 ha i h)⟩).length_eq;rw[Lw]at this
  simp;omega
 | false=>
  obtain⟨i,hi,hni⟩:∃ i,i<L.length/\i∉P:=JK λhc=>by
   grind
  have :=O7 L.length _ (zzL108.2 ⟨hni,o.nodup⟩) (λx hx=>by grind);simp at this ⊢;omega
theorem f7 {f : Ab} (hf : OkF f) (l : Int) (t : List Int) (u : List A6) : ∃ t', Ga f l t u = some (bif Ex f then 0 else 5, f, l, t', u) ∧ (Ex f = true → t' = B1 f) := by
  have hmax : f.Blocks.length ≤ maxLen := by have := hf.blocks; have : (64 : Nat) ≤ maxLen := by decide
                                             omega
  unfold Ga; rw [qa f hmax, Ax]
  cases hs : Fn f with
  | false => exact ⟨t, by unfold Ex; rw [hs]; rfl, fun h => by unfold Ex at h; rw [hs] at h; cases h⟩
  | true =>
    have hm := Iv hs; have hlen := Kt f
    have hpos : 0 < (Bb f).length := by have := (shape_iff.1 hs).1.1; omega
    obtain ⟨h1, h2⟩ := gx hm; obtain ⟨P, hP⟩ := Ord.exist (Vb hm) hpos; have ho := (PQ (Y5 (Bb f)) h1 trivial 0).1 (HM hm) (by omega) (by show (0 : Int) < ((Bb f).length : Int); omega) P hP; have hfull := YK hm hpos hP; simp only [Ai,  show ((0 : Int) != 0) = false from rfl, A8, ho, Ax, show (false == false) = true from rfl]
    have e1 : decide (((Q7 P).length : Int) < (f.Blocks.length : Int)) = decide (P.length < (Bb f).length) := by
      rw [hlen]; apply decide_eq_decide.2; simp [Q7]
    rw [e1, hfull]
    have hsd : Ex f = (((List.range f.Blocks.length).all fun i => (Zq (Bb f)).getD i false) && (List.range f.Blocks.length).all fun i => WZ (f.Blocks.getD i default).End && (f.Blocks.getD i default).Phis.all (Iu ((Ec (Bb f)).getD i []))) := by
      unfold Ex; rw [hs, Kw]
      have : ∀ (n : Nat) (p q : Nat → Bool), ((List.range n).all fun i => p i && q i) = ((List.range n).all p && (List.range n).all q) := fun n p q => by
        grind
      rw [← this]
      congr 1
      funext i
      show (_ && _ && _) = _
      rw [Bool.and_assoc]
      rfl
    rw [hlen]; rw [hsd]
    cases hr : (List.range f.Blocks.length).all _ with
    | false => exact ⟨t, rfl, fun h => by cases h⟩
    | true =>
      refine ⟨B1 f, ?_, fun _ => rfl⟩; rw [Hz, A8, oS _ 0 h1 h2, Ax, Kw]; have hp := S3 hm
      have hpl : (Y5 (Bb f)).Pred.length = f.Blocks.length := by rw [← hlen]; exact Nh _
      have key : Af (Cr f l u (Y5 (Bb f), 0) (B1 f)) (0 : Int) = some (bif (List.range f.Blocks.length).all (fun i => WZ (f.Blocks.getD i default).End && (f.Blocks.getD i default).Phis.all (Iu ((Ec (Bb f)).getD i []))) then .inl () else .inr ((5 : Int), f, l, B1 f, u)) := by
        have hk : ∀ i : Nat, i < f.Blocks.length → Cr f l u (Y5 (Bb f), 0) (B1 f) (i : Int) = some (bif (WZ (f.Blocks.getD i default).End && (f.Blocks.getD i default).Phis.all (Iu ((Ec (Bb f)).getD i []))) then .next ((i : Int) + 1) else .done (.inr ((5 : Int), f, l, B1 f, u))) := fun i hi => by
          have hB := hf.block _ (Ag (d := (default : Ac)) hi); have hpi : Bl (i : Int) (Y5 (Bb f)).Pred.length := Ar (by omega); have hpg : ((Y5 (Bb f)).Pred.getD i []).length ≤ 64 := hp.2 _ (Ag (by rw [Nh]; omega)); unfold Cr
          have hd : decide ((i : Int) < (f.Blocks.length : Int)) = true := by simpa using hi
          simp only [hd, Ai, Ad (Ar hi), Ad hpi, Do, dC (f.Blocks.getD i default).Phis ((Y5 (Bb f)).Pred.getD i []) (by have := hB.phis; omega) (by omega), Ax]; have ha  := cw (n := f.Blocks.length) (f.Blocks.getD i default).End ((shape_iff.1 hs).2 i hi); rw [ha, Fa hi (by have := hf.blocks; omega)]
          show _ = some (bif (WZ (f.Blocks.getD i default).End && (f.Blocks.getD i default).Phis.all (Iu ((Y5 (Bb f)).Pred.getD i []))) then _ else _)
          cases (f.Blocks.getD i default).Phis.all _ <;> cases WZ (f.Blocks.getD i default).End <;> rfl
        exact dQ _ _ _ _ _ (fun i hi hp => by rw [hk i hi, hp]; rfl) (fun i hi hp => by rw [hk i hi, hp]; rfl) (by unfold Cr; simp)
      show ((Af (Cr f l u (Y5 (Bb f), 0) (B1 f)) (0 : Int)).bind _) = _
      rw [key, Ax]
      cases (List.range f.Blocks.length).all _ <;> rfl
theorem n9(o:Bz)(l:Int)(h0:0<=l)(h2:l<=2)(hk:Fp o=true):Ow o l=some (!decide (PN l<o.Kind)&&!(decide (l<2)&&decide (1<o.Lanes))):=by
 have hl:=iE hk
 have hK :=by
  simp only[Fp,Az]at hk;have:=hk.1.2.1.1.1;unfold dL at this;simp only[Az,El]at this;omega
 unfold Ow PN
 have:l=0\/l=1\/l=2:=by omega
 rcases this with rfl|rfl|rfl
 ·have ha:decide (o.Kind<=17) = !decide (17<o.Kind):=by grind
  have hb:(o.Lanes==1) = !decide (1<o.Lanes):=by grind
  show some _=some (!decide (17<o.Kind)&&!(true&&decide _))
  rw[ha,hb]
  cases decide (17<o.Kind)<;>cases decide (1<o.Lanes)<;>rfl
 ·have ha:decide (o.Kind<=20) = !decide (20<o.Kind):=by grind
  have hb:(o.Lanes==1) = !decide (1<o.Lanes):=by grind
  show some _=some (!decide (20<o.Kind)&&!(true&&decide _))
  rw[ha,hb]
  cases decide (20<o.Kind)<;>cases decide (1<o.Lanes)<;>rfl
 ·grind
theorem dB(o:Bz)(ho:eT o)(f:Ab)(l:Int)(h0:0<=l)(h2:l<=2)(t:List Int)(u:List A6):Fv o f l t u=some (Ja l o,f,l,t,u):=by
 unfold Fv Ja;rw[HA o ho,Ax]
 cases hk:Fp o with
 | false=>rfl
 | true=>
  rw[show(true==true)=true from rfl,Ai,n9 o l h0 h2 hk,Ax,Ai,Kw]
theorem ks(b:Ac){f:Ab}(hf:OkF f)(hb:b∈f.Blocks)(l:Int)(h0:0<=l)(h2:l<=2)(t:List Int)(u:List A6):Ih b.Ops f l t u=some (b.Ops.all (Ja l),f,l,t,u):=by
 have hB:=hf.block b hb
 have key:∀ k i ,i+k=b.Ops.length->Af (E8 b.Ops) (i,f.Params,f.Ret,f.Blocks,l,t,u)=some (bif (b.Ops.drop i).all (Ja l) then .inl (f.Params,f.Ret,f.Blocks,l,t,u) else .inr (false,f,l,t,u)):=by
  intro k
  induction k with
  | zero=>
   intro i h
   obtain rfl:i=b.Ops.length:=by omega
   rw[Am (x:=.inl (f.Params,f.Ret,f.Blocks,l,t,u)) (by unfold E8;simp)]
   simp
  | succ k ih=>
   intro i h
   have hi:i<b.Ops.length:=by omega
   have hd:decide (i<(b.Ops.length:Int))=true:=by simpa using hi
   have hdr:b.Ops.drop i=b.Ops.getD i default::b.Ops.drop (i+1):=by simp_all
   have hx:=dB (b.Ops.getD i default) (oh hf hb (Ag hi)) f l h0 h2 t u;rw[hdr,Xm]
   cases ho:Ja l _ with
   | true=>
    rw[ho]at hx
    rw[An (s':=(((i+1:Nat):Int),f.Params,f.Ret,f.Blocks,l,t,u)) (by
     unfold E8;simp only[hd, Ad (Ar hi),Do,hx,   Fa hi (by have:=hB.ops;omega)]
     rfl),ih _ (by omega),Kw]
   | false=>
    rw[ho]at hx
    rw[Am (x:=.inr (false,f,l,t,u)) (by
     unfold E8
     simp only[hd,Ai,Ad (Ar hi),Do,hx,Ax,Lx])]
    rfl
 unfold Ih;rw[show(0:Int)=(0:Nat) from rfl,key b.Ops.length 0 (by omega),AC]
 cases b.Ops.all _<;>rfl
theorem ft(b:Ac)(h:b.Phis.length<9223372036854775808):H0 b.Phis=some (b.Phis.all λp=>Fo p.Bits):=by
 unfold H0
 rw[nv _ _ (λp=>Fo _) _ (.inl ()) _ h (λi hi=>by
  unfold Ii M9
  have hd:decide (i<(b.Phis.length:Int))=true:=by simpa using hi
  simp only[hd, Ad (Ar hi),Do,Rz]
  cases Fo _<;>rfl) (by unfold Ii;simp)]
 cases b.Phis.all _<;>rfl
theorem fq(p:List Int)(h:p.length<9223372036854775808):Ky p=some (p.all Fo):=by
 unfold Ky
 rw[nv p 0 Fo _ (.inl ()) _ h (λi hi=>by
  unfold Lb
  have hd:decide (i<(p.length:Int))=true:=by simpa using hi
  simp only[hd, Ad (Ar hi),Do,Rz]
  cases Fo _<;>rfl) (by unfold Lb;simp)]
 cases p.all _<;>rfl
theorem OZ(b:Ac){f:Ab}(hf:OkF f)(hb:b∈f.Blocks)(l:Int)(h0:0<=l)(h2:l<=2)(t:List Int)(u:List A6):Em b f l t u=some (F0 l b,f,l,t,u):=by
 unfold Em F0;rw[ft b (by have:=(hf.block b hb).phis;omega), ks b hf hb l h0 h2 t u]
 cases(b.Phis.all _)<;>rfl
theorem k6{f:Ab}(hf:OkF f)(l:Int)(h0:0<=l)(h2:l<=2)(t:List Int)(u:List A6):Gy f l t u=some (bif Ll f l then 0 else 6,f,l,t,u):=by
 have key:∀ k i ,i+k=f.Blocks.length->Af (D3 f.Blocks) (i,f.Params,f.Ret,f.Blocks,l,t,u)=some (bif (f.Blocks.drop i).all (F0 l) then .inl (f.Params,f.Ret,f.Blocks,l,t,u) else .inr (false,f,l,t,u)):=by
  intro k
  induction k with
  | zero=>
   intro i h
   obtain rfl:i=f.Blocks.length:=by omega
   rw[Am (x:=.inl (f.Params,f.Ret,f.Blocks,l,t,u)) (by unfold D3;simp)]
   simp
  | succ k ih=>
   intro i h
   have hi:i<f.Blocks.length:=by omega
   have hd:decide ((i:Int)<f.Blocks.length)=true:=by simpa using hi
   have hdr:f.Blocks.drop i=f.Blocks.getD i default::f.Blocks.drop (i+1):=by simp_all
   have hx:=OZ (f.Blocks.getD i default) hf (Ag hi) l h0 h2 t u;rw[hdr,Xm]
   cases ho:F0 l _ with
   | true=>
    rw[ho]at hx
    rw[An (s':=(((i+1:Nat):Int),f.Params,f.Ret,f.Blocks,l,t,u)) (by
     unfold D3;simp only[hd, Ad (Ar hi),Do,hx,   Fa hi (by have:=hf.blocks;omega)]
     rfl),ih _ (by omega),Kw]
   | false=>
    rw[ho]at hx
    rw[Am (x:=.inr (false,f,l,t,u)) (by
     unfold D3
     simp only[hd,Ai,Ad (Ar hi),Do,hx,Ax,Lx])]
    rfl
 have hall:Gx f.Blocks f l t u=some (f.Blocks.all (F0 l),f,l,t,u):=by
  unfold Gx;rw[show(0:Int)=(0:Nat) from rfl,key f.Blocks.length 0 (by omega),AC]
  cases f.Blocks.all _<;>rfl
 unfold Gy Ll Jm;rw[fq _ (by have:=hf.few;omega), hall,Rz]
 cases f.Params.all _<;>cases Fo f.Ret<;>cases f.Blocks.all _<;>rfl
def mp(d:G1):Ia:=bif decide (d.Block<0) then⟨0,-1⟩ else⟨d.Block,d.At⟩
def JE(d:G1):Aw:=⟨d.Shape,mp d⟩
def dv(l:List G1):List (Int×Aw):=l.map λd=>(d.V,JE d)
def KM(acc:List (Int×Aw))(v:Int):Bool:=(C5 acc v || decide (v<1)) || decide (1023<v)
def Hx:List (Int×Aw)->List G1->Bool×List (Int×Aw)
 | acc,[]=>(true,acc)
 | acc,d::ds=>bif KM acc d.V then(false,acc) else Hx (Gq acc d.V (JE d)) ds
theorem AW:∀(a b:List G1) (acc:List (Int×Aw)),Hx acc (a++b)=bif (Hx acc a).1 then Hx (Hx acc a).2 b else Hx acc a
 | [],b,acc=>rfl
 | d::a,b,acc=>by
  rw[EC];simp only[Hx]
  cases KM acc d.V with
  | true=>rfl
  | false =>  exact AW a b _
theorem HN{V:Type}(k:Int):∀ l:List (Int×V),C5 l k=l.any λq=>k==q.1
 | []=>rfl
 | (a,b)::l=>by rw[List.any_cons,<- HN k l];rfl
theorem BJ{V:Type}(k:Int)(v:V):∀{l:List (Int×V)},C5 l k=false->Gq l k v=l++[(k,v)]
 | [],_=>rfl
 | (a,b)::l,h=>by
  simp only[C5,CG]at h;simp only[Gq,h.1,A8,BJ k v h.2,EC]
theorem SC(v:Int)(s:Int×Int)(p:Ia)(f:Ab)(l:Int)(t:List Int)(vs:List (Int×Aw))(u:List A6) :
  En v s p f l t vs u=some (bif KM vs v then(false,f,l,t,u,vs) else(true,f,l,t,u,Gq vs v ⟨s,p⟩)):=by
 unfold En KM
 cases C5 vs v<;>cases decide (v<1)<;>cases decide (1023<v)<;>rfl
def mC(f:Ab)(l:Int)(t:List Int)(u:List A6)(r:Bool×List (Int×Aw)):(List Int×Int×List Ac×Int×List Int×List A6×List (Int×Aw)) ⊕ (Bool×Ab×Int×List Int×List A6×List (Int×Aw)):=
 bif r.1 then .inl (f.Params,f.Ret,f.Blocks,l,t,u,r.2) else .inr (false,f,l,t,u,r.2)
theorem oC(b:Ac)(h:b.Phis.length<9223372036854775808)(i:Nat)(f:Ab)(l:Int)(t:List Int)(u:List A6):∀(k j:Nat) (vs:List (Int×Aw)),j+k=b.Phis.length->
  Af (Cx (i:Int) b) ((j:Int),f.Params,f.Ret,f.Blocks,l,t,u,vs)=some (mC f l t u (Hx vs ((List.range' j k).flatMap λ(k:Nat)=>[(⟨(b.Phis.getD k default).Dst,i,-1,((b.Phis.getD k default).Bits,1)⟩:G1)]))):=by
 intro k
 induction k with
 | zero=>
  intro j vs hj
  obtain rfl:j=b.Phis.length:=by omega
  rw[Am (x:=.inl (f.Params,f.Ret,f.Blocks,l,t,u,vs)) (by unfold Cx;simp)]
  rfl
 | succ k ih=>
  intro j vs hj
  have hi:j<b.Phis.length:=by omega
  have hd:decide (j<(b.Phis.length:Int))=true:=by simpa using hi
  have hx:=SC (b.Phis.getD j default).Dst ((b.Phis.getD j default).Bits,1) ⟨(i:Int),-1⟩ f l t vs u
  have hat:mp ⟨(b.Phis.getD j default).Dst,i,-1,((b.Phis.getD j default).Bits,1)⟩=⟨i,-1⟩:=by   rfl
  rw[Z0,Yc,List.singleton_append];simp only[Hx]
  cases hb:KM vs _ with
  | true=>
   rw[hb]at hx
   rw[Am  (by
    unfold Cx Dk;simp only[hd, Ad (Ar hi),Do,Ax];rw[ hx]
    rfl)]
   rfl
  | false=>
   rw[hb]at hx
   rw[An (s':=(((j+1:Nat):Int),f.Params,f.Ret,f.Blocks,l,t,u,Gq vs _ _)) (by
    unfold Cx Dk;simp only[hd, Ad (Ar hi),Do,Ax];rw[ hx,Fa hi h]
    rfl),ih _ _ (by omega)]
   unfold JE
   rfl
theorem qK{f0:Ab}(hf:OkF f0){b:Ac}(hb:b∈f0.Blocks)(i:Nat)(f:Ab)(l:Int)(t:List Int)(u:List A6):∀(k j:Nat) (vs:List (Int×Aw)),j+k=b.Ops.length->
  Af (B3 (i:Int) b) ((j:Int),f.Params,f.Ret,f.Blocks,l,t,u,vs)=some (mC f l t u (Hx vs ((List.range' j k).flatMap λ(k:Nat)=>bif decide (0<(G4 (b.Ops.getD k default)).1) then[(⟨(b.Ops.getD k default).Dst,i,k,G4 (b.Ops.getD k default)⟩:G1)] else[]))):=by
 have hB:=hf.block b hb;intro k
 induction k with
 | zero=>
  intro j vs hj
  obtain rfl:j=b.Ops.length:=by omega
  rw[Am (x:=.inl (f.Params,f.Ret,f.Blocks,l,t,u,vs)) (by unfold B3;simp)]
  rfl
 | succ k ih=>
  intro j vs hj
  have hi:j<b.Ops.length:=by omega
  have hd:decide ((j:Int)<(b.Ops.length:Int))=true:=by simpa using hi
  have hg:Mj _=some (G4 (b.Ops.getD j default)):=XV _ (oh hf hb (Ag hi));have hx:=SC (b.Ops.getD j default).Dst (G4 (b.Ops.getD j default)) (⟨(i:Int),(j:Int)⟩:Ia) f l t vs u
  have hat:mp (⟨(b.Ops.getD j default).Dst,i,j,G4 (b.Ops.getD j default)⟩:G1)=⟨(i:Int),(j:Int)⟩:=by unfold mp; rfl
  rw[Z0,Yc]
  cases hp:decide (0<(G4 _).1) with
  | false=>
   rw[A8,Vp,<- ih (j+1) vs (by omega),An (s':=(((j+1:Nat):Int),f.Params,f.Ret,f.Blocks,l,t,u,vs)) (by
    unfold B3;simp only[hd,Ai,Ad (Ar hi),Do,hg,Ax,hp];rw[Fa hi (by have:=hB.ops;omega)]
    rfl)]
  | true=>
   rw[Ai,List.singleton_append];simp only[Hx]
   cases hb:KM vs _ with
   | true=>
    rw[hb]at hx
    rw[Am  (by
     unfold B3;simp only[hd,Ai,Ad (Ar hi),Do,hg,Ax,hp];rw[show(true==true)=true from rfl,Ai, hx]
     rfl)]
    rfl
   | false=>
    rw[hb]at hx
    rw[An (s':=(((j+1:Nat):Int),f.Params,f.Ret,f.Blocks,l,t,u,Gq vs _ _)) (by
     unfold B3;simp only[hd,Ai,Ad (Ar hi),Do,hg,Ax,hp];rw[show(true==true)=true from rfl,Ai, hx,Fa hi (by have:=hB.ops;omega)]
     rfl),ih (j+1) _ (by omega)]
    unfold JE
    rfl
theorem SD{f:Ab}(hf:OkF f){b:Ac}(hb:b∈f.Blocks)(i:Nat)(l:Int)(t:List Int)(u:List A6)(vs:List (Int×Aw)) :
  E5 (i:Int) b f l t vs u=some ((Hx vs (P3 b i)).1,f,l,t,u,(Hx vs (P3 b i)).2):=by
 unfold E5 P3;rw[show 0=((0:Nat):Int) from rfl,oC b (by have:=(hf.block b hb).phis;omega) i f l t u b.Phis.length 0 vs (by omega),Ax,AW];rw[show(List.range' 0 _).flatMap _=Yy b i by rw[Yy,EA]];unfold mC
 cases h1:(Hx vs _).1 with
 | false=>grind
 | true=>
  simp only[Ai];rw[qK hf hb i f l t u b.Ops.length 0 _ (by omega)];rw[show(List.range' 0 _).flatMap _=GO b i by rw[GO,EA]];unfold mC;cases h2:(Hx _ _).1<;>rfl
theorem Rl{l:List G1}{i:Nat}(hi:i<l.length):Qf l i=true↔Iy (l.getD i default).V=true/\∀ j,j<i->(l.getD j default).V≠(l.getD i default).V:=by
 unfold Qf;rw[Az];refine and_congr Iff.rfl ?_;unfold Kn
 cases hx:l.findIdx? _ with
 | none=>
  rw[List.findIdx?_eq_none_iff]at hx;have:=hx _ (Ag (d:=default) hi);simp at this
 | some j=>
  obtain⟨hj,h1,h2⟩:=List.findIdx?_eq_some_iff_getElem.1 hx;simp only[zzL62]
  constructor
  ·grind
  ·intro h
   have hv:(l.getD j default).V=(l.getD i default).V:=by grind
   rcases Nat.lt_trichotomy j i with hlt|rfl|hgt
   ·grind
   ·rfl
   ·grind
theorem lg(l:List G1)(v:Int):C5 (dv l) v=l.any λd=>v==d.V:=by
 rw[HN,dv,List.any_map];rfl
theorem GM:∀(ds pre:List G1),(Hx (dv pre) ds).1=(List.range' pre.length ds.length).all (Qf (pre++ds))/\((Hx (dv pre) ds).1=true->(Hx (dv pre) ds).2=dv (pre++ds))
 | [],pre=>by simp[Hx]
 | d::ds,pre=>by
  have hi:pre.length<(pre++d::ds).length:=by simp
  have hg:(pre++d::ds).getD pre.length default=d:=by simp[List.getD]
  have hj:∀ j,j<pre.length->(pre++d::ds).getD j default=pre.getD j default:=λj h=>by grind
  have hok:Qf (pre++d::ds) pre.length = !KM (dv pre) d.V:=by
   rw[Vh,Rl hi,hg];unfold KM Iy;rw[lg];simp only[Xi,CG,QV,List.any_eq_false,zzL62,Az,El]
   constructor
   ·rintro⟨⟨h1,h2⟩,h3⟩;refine⟨⟨λx hx he=>?_,by omega⟩,by omega⟩;obtain⟨j,hjl,rfl⟩:=E1 hx;have:=h3 j hjl;rw[hj j hjl,Aa _ _ _ hjl]at this;exact this he.symm
   ·grind
  rw[Xj,Z0,Xm,hok];simp only[Hx]
  cases hb:KM _ d.V with
  | true=>grind
  | false=>
   have hn :=by
    unfold KM at hb;simp only[CG]at hb;exact hb.1.1
   have hs:Gq (dv pre) d.V (JE d)=dv (pre++[d]):=by rw[BJ _ _ hn,dv,dv,Om];rfl
   have:=GM ds (pre++[d]);rw[Fb,EB]at this;rw[ hs,Lx];exact this
def pv(f:Ab)(n:Nat):List (Int×Aw):=(List.range n).map λ(j:Nat)=>((j:Int)+1,⟨(f.Params.getD j 0,1),⟨0,-1⟩⟩)
theorem qg(f:Ab):pv f f.Params.length=dv (Pa f):=by
 unfold pv dv Pa
 induction List.range _ with
 | nil=>rfl
 | cons a l ih=>rw[B4, ih];rfl
theorem f6{f:Ab}(hf:OkF f):∀(k i:Nat),i+k=f.Params.length->Af (Eo f) ((i:Int),pv f i)=some (pv f f.Params.length):=by
 intro k
 induction k with
 | zero=>
  intro i h
  obtain rfl:i=f.Params.length:=by omega
  exact Am (by unfold Eo;simp)
 | succ k ih=>
  intro i h
  have hi:i<f.Params.length:=by omega
  have hd:decide ((i:Int)<(f.Params.length:Int))=true:=by simpa using hi
  have hn:C5 (pv f i) ((i:Int)+1)=false:=by
   rw[HN,pv,List.any_map,List.any_eq_false];intro j hj;have:=zzL30.1 hj
   simp;omega
  have hs:Gq (pv f i) ((i:Int)+1) ⟨(f.Params.getD i 0,1),⟨0,-1⟩⟩=pv f (i+1):=by
   rw[BJ _ _ hn,pv,pv,R5,Om];rfl
  rw[An  (by
   unfold Eo Dk;simp only[hd,Ai,Ad (Ar hi),Do,Ax,Fa hi (by have:=hf.few;omega),hs]
   rfl)]
  exact ih (i+1) (by omega)
theorem fw{f:Ab}(hf:OkF f)(l:Int)(t:List Int)(u:List A6):∀(k i:Nat) (vs:List (Int×Aw)),i+k=f.Blocks.length->
  Af (Dj f) ((i:Int),vs,f.Params,f.Ret,f.Blocks,l,t,u)=some (bif (Hx vs ((List.range' i k).flatMap λi=>P3 (f.Blocks.getD i default) i)).1 then .inl ((Hx vs ((List.range' i k).flatMap λi=>P3 (f.Blocks.getD i default) i)).2,f.Params,f.Ret,f.Blocks,l,t,u) else
   .inr (7,f,l,t,u,(Hx vs ((List.range' i k).flatMap λi=>P3 (f.Blocks.getD i default) i)).2)):=by
 intro k
 induction k with
 | zero=>
  intro i vs h
  obtain rfl:i=f.Blocks.length:=by omega
  rw[Am (x:=.inl (vs,f.Params,f.Ret,f.Blocks,l,t,u)) (by unfold Dj;simp)]
  rfl
 | succ k ih=>
  intro i vs h
  have hi:i<f.Blocks.length:=by omega
  have hd:decide (i<(f.Blocks.length:Int))=true:=by simpa using hi
  have hx:=SD hf (Ag (d:=default) hi) i l t u vs;rw[Z0,Yc,AW]
  cases hb:(Hx vs _).1 with
  | false=>
   rw[hb]at hx
   rw[Am  (by
    unfold Dj;simp only[hd, Ad (Ar hi),Do];rw[ hx]
    rfl),A8,hb]
   rfl
  | true=>
   rw[hb]at hx
   rw[An (s':=(((i+1:Nat):Int),(Hx vs _).2,f.Params,f.Ret,f.Blocks,l,t,u)) (by
    unfold Dj;simp only[hd, Ad (Ar hi),Do];rw[ hx,Fa hi (by have:=hf.blocks;omega)]
    rfl),ih _ _ (by omega),Ai]
theorem ta{f:Ab}(hf:OkF f):∀ i,i<f.Params.length->Qf (A7 f) i=true:=λi hi=>by
 have hl:=MC f
 have hg:∀ j,j<f.Params.length->(A7 f).getD j default=⟨j+1,-1,0,(f.Params.getD j 0,1)⟩:=λj hj=>by
  have e:Pa f=(List.range f.Params.length).map λi=>⟨(i:Int)+1,-1,0,(f.Params.getD i 0,1)⟩:=by
   unfold Pa
   induction List.range _ with
   | nil=>rfl
   | cons a l ih=>grind
  rw[A7,List.getD,Tm (by omega),e];simp[hj]
 have hle:i<(A7 f).length:=by rw[A7,Fb];omega
 rw[Rl hle,hg i hi];refine⟨?_,λj hj=>?_⟩
 ·have:=hf.few;simp only[Iy,Az,El];omega
 ·grind
theorem cz{f:Ab}(hf:OkF f)(l:Int)(t:List Int)(u:List A6):∃ vs,Ft f l t u=some (bif (List.range (A7 f).length).all (Qf (A7 f)) then 0 else 7,f,l,t,u,vs)/\((List.range (A7 f).length).all (Qf (A7 f))=true->vs=dv (A7 f)):=by
 have hsp:=GM ((List.range f.Blocks.length).flatMap λi=>P3 (f.Blocks.getD i default) i) (Pa f)
 have hall:(List.range (A7 f).length).all (Qf (A7 f))=(Hx (dv (Pa f)) ((List.range f.Blocks.length).flatMap λi=>P3 (f.Blocks.getD i default) i)).1:=by
  rw[hsp.1]
  show(List.range _).all _=(List.range' _ _).all (Qf (A7 f))
  have hs:List.range (A7 f).length=List.range (Pa f).length++List.range' (Pa f).length ((List.range f.Blocks.length).flatMap λi=>P3 (f.Blocks.getD i default) i).length:=by
   rw[EA,EA,A7,Fb];have:=List.range'_append_1 (s:=0) (m:=(Pa f).length) (n:=((List.range f.Blocks.length).flatMap λi=>P3 (f.Blocks.getD i default) i).length);rw[E2]at this;exact this.symm
  rw[hs,List.all_append];have :=zzL23.2 λi hi=>ta hf i (by rw[<- MC f];exact zzL30.1 hi);rw[this,Kw]
 unfold Ft;have hp:=f6 hf f.Params.length 0 (by omega);have e0:pv f 0=[]:=rfl;rw[e0,show(((0:Nat):Int))=0 from rfl]at hp;rw[hp,Ax,qg];have hb:=fw hf l t u f.Blocks.length 0 (dv (Pa f)) (by omega);rw[show(((0:Nat):Int))=0 from rfl,<- EA]at hb;rw[hb, hall];refine⟨(Hx _ _).2,?_,hsp.2⟩
 cases(Hx _ _).1<;>rfl
theorem Wb{β S X:Type}(B:Nat)(mk:Int->List β->S)(out:List β->X)(n:Nat)(E:Nat->List β)(f:S->Option (LR S X))(hn:∀(acc:List β) (i:Nat),i<n->(acc++E i).length<=B->f (mk i acc)=some (.next (mk ((i:Int)+1) (acc++E i))))
  (hd:∀ acc:List β,f (mk n acc)=some (.done (out acc))):∀(k i:Nat) (acc:List β),i+k=n->(acc++(List.range' i k).flatMap E).length<=B->Af f (mk i acc)=some (out (acc++(List.range' i k).flatMap E))
 | 0,i,acc,h,_=>by
  obtain rfl:i=n:=by omega
  rw[Am (hd acc)]
  simp
 | k+1,i,acc,h,hB=>by
  have hi:i<n:=by omega
  rw[Z0,Yc,<- EB]at hB ⊢;rw[An (hn acc i hi (by grind)),show(i+1)=((i+1:Nat):Int) by omega,Wb B mk out n E f hn hd k _ _ (by omega) hB]
theorem TN{β γ:Type}(h:β->γ)(n:Nat)(g:Nat->β):(List.range' 0 n).flatMap (λj=>[h (g j)])=((List.range n).flatMap λj=>[g j]).map h:=by
 rw[List.map_flatMap,EA];rfl
theorem HL{β γ:Type}(h:β->γ)(n:Nat)(g:Nat->List β):(List.range' 0 n).flatMap (λj=>(g j).map h)=((List.range n).flatMap g).map h:=by
 rw[List.map_flatMap,EA]
def Oe(f:Ab)(b:Int):Int:=((f.Blocks.getD b.toNat default).Ops.length:Int)
def Gt(f:Ab)(u:M1):A6:=⟨u.V,u.Shape,⟨u.Block,bif u.At==1000 then Oe f u.Block else u.At⟩⟩
theorem bG(f:Ab)(l:Int)(t:List Int)(vs:List (Int×Aw))(v:Int)(s:Int×Int)(p:Ia)(u:List A6)(h:(u++[(⟨v,s,p⟩:A6)]).length<=10000000):Dw v s p f l t vs u=some (f,l,t,u++[⟨v,s,p⟩]):=by
 unfold Dw;rw[Aj (by rw[Fb]at h;rw[mG];omega)]
theorem f5(f:Ab)(l:Int)(t:List Int)(vs:List (Int×Aw))(b:Int)(hb:Bl b f.Blocks.length)(u:List A6):Ey b f l t vs u=some (⟨b,Oe f b⟩,f,l,t,u):=by
 unfold Ey;rw[Aj hb];rfl
section
variable {f:Ab} (hf:OkF f) (l:Int) (t:List Int) (vs:List (Int×Aw))
include hf
theorem oB(i k:Nat)(hi:i<f.Blocks.length)(hk:k<(f.Blocks.getD i default).Phis.length)(hfit:((f.Blocks.getD i default).Phis.getD k default).Args.length<=((f.Blocks.getD i default).Phis.getD k default).From.length)
  (hin:∀ x∈((f.Blocks.getD i default).Phis.getD k default).From,Bl x f.Blocks.length) (u:List A6) (hB:(u++(N5 ((f.Blocks.getD i default).Phis.getD k default)).map (Gt f)).length<=10000000) :
  Af (De f vs (i:Int) (k:Int)) ((0:Int),f.Params,f.Ret,f.Blocks,l,t,u)=some (f.Params,f.Ret,f.Blocks,l,t,u++(N5 ((f.Blocks.getD i default).Phis.getD k default)).map (Gt f)):=by
 have hlen:=iZ hf (Ag  hi) (Ag (d:=default) hk)
 generalize hp:(f.Blocks.getD i _).Phis.getD k _=p at *
 have e:=TN (Gt f) p.Args.length λj=>⟨p.Args.getD j 0,p.From.getD j 0,1000,(p.Bits,1)⟩
 have:=Wb _ (λj u=>(j,f.Params,f.Ret,f.Blocks,l,t,u)) (λu=>(f.Params,f.Ret,f.Blocks,l,t,u)) _ (λj=>[Gt f _]) (De f vs i k) (λacc j hj hacc=>by
  unfold De Dk
  have hd:decide (j<(p.Args.length:Int))=true:=by simpa using hj
  have hjf:j<p.From.length:=by omega
  simp only[Do,hp,hd,Ai,Ad (Ar hj),Ax,Ad (Ar hjf)];rw[ f5 f l t vs _ (hin _ (Ag hjf)),Ax];have eu:Gt f ⟨p.Args.getD j 0,p.From.getD j 0,1000,(p.Bits,1)⟩=⟨p.Args.getD j 0,(p.Bits,1),⟨p.From.getD j 0,Oe f _⟩⟩:=rfl;rw[eu]at hacc ⊢
  rw[bG f l t vs _ _ _ acc hacc,Ax,Fa hj (by omega)]) (λacc=>by unfold De;simp only[Do,hp,show decide (p.Args.length<(p.Args.length:Int))=false by simp,A8]) p.Args.length 0 u (by omega) (by rw[e];exact hB)
 rw[e]at this;exact this
theorem k5(i:Nat)(hi:i<f.Blocks.length)(hfit:∀ p∈(f.Blocks.getD i default).Phis,p.Args.length<=p.From.length/\∀ x∈p.From,Bl x f.Blocks.length)(u:List A6)(hB:(u++(S8 (f.Blocks.getD i default)).map (Gt f)).length<=10000000) :
  Af (Df f vs (i:Int)) ((0:Int),f.Params,f.Ret,f.Blocks,l,t,u)=some (f.Params,f.Ret,f.Blocks,l,t,u++(S8 (f.Blocks.getD i default)).map (Gt f)):=by
 have hBk:=hf.block _ (Ag (d:=default) hi);have e:=HL (Gt f) (f.Blocks.getD i default).Phis.length λk=>N5 ((f.Blocks.getD i default).Phis.getD k default)
 have:=Wb _ (λj u=>(j,f.Params,f.Ret,f.Blocks,l,t,u)) (λu=>(f.Params,f.Ret,f.Blocks,l,t,u)) _ _ (Df f vs i) (λacc k hk hacc=>by
  have hq:=hfit _ (Ag (d:=default) hk);have h1:=oB hf l t vs i k hi hk hq.1 hq.2 acc hacc;unfold Df
  have hd:decide ((k:Int)<(f.Blocks.getD i default).Phis.length)=true:=by simpa using hk
  simp only[Do,hd,Ai,Ad (Ar hk),h1,Ax,Fa hk (by have:=hBk.phis;omega)]) (λacc=>by unfold Df;simp) (f.Blocks.getD i default).Phis.length 0 u (by omega) (by rw[e];exact hB)
 rw[e]at this;exact this
theorem qJ(i k:Nat)(hi:i<f.Blocks.length)(hk:k<(f.Blocks.getD i default).Ops.length)(u:List A6)(hB:(u++(Qn ((f.Blocks.getD i default).Ops.getD k default) i k).map (Gt f)).length<=10000000) :
  Af (Dg f vs (i:Int) (k:Int) (Hw ((f.Blocks.getD i default).Ops.getD k default))) ((0:Int),f.Params,f.Ret,f.Blocks,l,t,u)=some (f.Params,f.Ret,f.Blocks,l,t,u++(Qn ((f.Blocks.getD i default).Ops.getD k default) i k).map (Gt f)):=by
 have hBk:=hf.block _ (Ag (d:=default) hi);have hlen:=JA (nC hf (Ag  hi) (Ag (d:=default) hk));have hk512:=hBk.ops
 generalize hp:(f.Blocks.getD i _).Ops.getD k _=o at *
 have e:=TN (Gt f) (Hw o).length λj=>⟨o.Args.getD j 0,i,k,(Hw o).getD j (0,0)⟩
 have:=Wb _ (λj u=>(j,f.Params,f.Ret,f.Blocks,l,t,u)) (λu=>(f.Params,f.Ret,f.Blocks,l,t,u)) _ (λj=>[Gt f _]) (Dg f vs i k (Hw o)) (λacc j hj hacc=>by
  have hkk:((k:Int)==1000)=false:=by simp;omega
  have eu:Gt f ⟨o.Args.getD j 0,i,k,(Hw o).getD j (0,0)⟩=⟨o.Args.getD j 0,(Hw o).getD j (0,0),⟨i,k⟩⟩:=by unfold Gt;simp only[hkk,A8]
  rw[eu]at hacc ⊢;unfold Dg
  have hd:decide (j<((Hw o).length:Int))=true:=by simpa using hj
  have hja:j<o.Args.length:=by omega
  simp only[Do,hp,hd,Ai,Ad (Ar hj),Ad (Ar hja)]
  rw[ bG f l t vs _ _ _ acc hacc,Ax,Fa hj (by omega)]) (λacc=>by unfold Dg;simp) (Hw o).length 0 u (by omega) (by rw[e];exact hB)
 rw[e]at this;exact this
theorem oA(i:Nat)(hi:i<f.Blocks.length)(u:List A6)(hB:(u++(CE (f.Blocks.getD i default) i).map (Gt f)).length<=10000000) :
  Af (Dh f vs (i:Int)) ((0:Int),f.Params,f.Ret,f.Blocks,l,t,u)=some (f.Params,f.Ret,f.Blocks,l,t,u++(CE (f.Blocks.getD i default) i).map (Gt f)):=by
 have hmem:=Ag (d:=default) hi;have hBk:=hf.block _ hmem;have e:=HL (Gt f) (f.Blocks.getD i default).Ops.length λk=>Qn ((f.Blocks.getD i default).Ops.getD k default) i k
 have:=Wb _ (λj u=>(j,f.Params,f.Ret,f.Blocks,l,t,u)) (λu=>(f.Params,f.Ret,f.Blocks,l,t,u)) _ _ (Dh f vs i) (λacc k hk hacc=>by
  have h1:=qJ hf l t vs i k hi hk acc hacc;have ht:Mk _=some (Hw ((f.Blocks.getD i _).Ops.getD k default)):=XX _ (oh hf hmem (Ag hk));unfold Dh
  have hd:decide (k<((f.Blocks.getD i default).Ops.length:Int))=true:=by simpa using hk
  simp only[Do,hd,Ai,Ad (Ar hk),ht,h1,Ax,Fa hk (by have:=hBk.ops;omega)]) (λacc=>by unfold Dh;simp) (f.Blocks.getD i default).Ops.length 0 u (by omega) (by rw[e];exact hB)
 rw[e]at this;exact this
theorem cx (hfit : ∀ b ∈ f.Blocks, ∀ p ∈ b.Phis, p.Args.length ≤ p.From.length ∧ ∀ x ∈ p.From, Bl x f.Blocks.length) : Fs f l t vs [] = some (f, l, t, (Du f).map (Gt f)) := by
  have e := HL (Gt f) f.Blocks.length fun (i : Nat) => JD f (f.Blocks.getD i default) i; have hul := NT hf
  have := Wb 10000000 (fun j u => (j, f.Params, f.Ret, f.Blocks, l, t, u)) (fun u => (f.Params, f.Ret, f.Blocks, l, t, u)) f.Blocks.length (fun (i : Nat) => (JD f (f.Blocks.getD i default) i).map (Gt f)) (Di f vs) (fun acc i hi hacc => by
    have hmem := Ag (d := (default : Ac)) hi; unfold JD at hacc ⊢; rw [Om, Om, ← EB, ← EB] at hacc ⊢; have l1 := hacc; simp only [Fb, B9] at l1; have h1 := k5 hf l t vs i hi (hfit _ hmem) acc (by simp only [Fb, B9]; omega); have h2 := oA hf l t vs i hi (acc ++ (S8 (f.Blocks.getD i default)).map (Gt f)) (by simp only [Fb, B9]; omega); have hinb : Bl (i : Int) f.Blocks.length := Ar hi; unfold Di Dk
    have hd : decide ((i : Int) < (f.Blocks.length : Int)) = true := by simpa using hi
    simp only [hd, Ai, Ad (Ar hi), h1, Ax, h2, Do]; have hF : (⟨f.Params, f.Ret, f.Blocks⟩ : Ab) = f := rfl; have hw : Ay ((i : Int) + 1) = (i : Int) + 1 := Fa hi (by have := hf.blocks; omega); unfold Wj at hacc ⊢
    cases hz : ((f.Blocks.getD i default).End.Kind == 0) with
    | true =>
      have hz2 : ((f.Blocks.getD i default).End.Kind == 2) = false := by have : (f.Blocks.getD i default).End.Kind = 0 := by simpa using hz
                                                                         rw [this]; rfl
      rw [hz, hz2] at hacc; simp only [Ai, A8, hz2, List.append_nil, B4, Co] at hacc ⊢; rw [hF, f5 f l t vs _ hinb, Ax]; simp only; rw [bG f l t vs _ _ _ _ (show (_ ++ [(⟨_, _, ⟨(i : Int), Oe f (i : Int)⟩⟩ : A6)]).length ≤ 10000000 from hacc), Ax, Ax, hw]
      rfl
    | false =>
      rw [hz] at hacc
      cases hz2 : ((f.Blocks.getD i default).End.Kind == 2) with
      | true =>
        rw [hz2] at hacc; simp only [Ai, A8, Vp, B4, Co] at hacc ⊢; rw [hF, f5 f l t vs _ hinb, Ax]; simp only; rw [bG f l t vs _ _ _ _ (show (_ ++ [(⟨_, _, ⟨(i : Int), Oe f (i : Int)⟩⟩ : A6)]).length ≤ 10000000 from hacc), Ax, Ax, hw]
        rfl
      | false =>
        simp only [A8, Vp, Co, List.append_nil, Ax, hw]) (fun acc => by unfold Di; simp) f.Blocks.length 0 [] (by omega) (by rw [e]; simpa [Du] using (by omega : (Du f).length ≤ 10000000))
  rw [e, Vp] at this; unfold Fs; rw [show (0 : Int) = ((0 : Nat) : Int) from rfl]
  show ((Af (Di f vs) (((0 : Nat) : Int), f.Params, f.Ret, f.Blocks, l, t, [])).bind _) = _
  rw [this, Ax]
  rfl
end
end
end Go.Proofs.YtfhggcbcamamdaaGreat
