/-
  The machine, the program's functions and the laws' arithmetic: part 4 of 5.
-/
import Derived.Test.YtlnbjgmjaioagaaGreatPk3
import Derived.OpenShut
import Derived.ShutString
set_option linter.unusedSectionVars false
set_option linter.unusedVariables false
set_option linter.unusedSimpArgs false
namespace Go.Proofs.YtlnbjgmjaioagaaGreat
noncomputable section
open Go Go.RowKit
set_option maxRecDepth 100000
set_option maxHeartbeats 2000000
def uq(a9:Aa)(aa5:Int):AV:=(.agg [(Lo a9.Params),(Aq a9.Ret),(GW a9.Blocks),(Aq aa5),ks,.nilm,(AV.list 5 Lg default ([]:List Bd) .exact)])
def uo(a9:Aa)(aa5:Int):=(⟨[GY],[(5,.row 105 [(Lo a9.Params),(Aq a9.Ret),(GW a9.Blocks),(Aq aa5),ks,.nilm,(AV.list 5 Lg default ([]:List Bd) .exact)])],[]⟩:St)
def sV(a9:Aa)(aa5:Int):=(⟨[GY],[(5,.row 105 [(Lo a9.Params),(Aq a9.Ret),(GW a9.Blocks),(Aq aa5),ks,.nilm,(AV.list 5 Lg default ([]:List Bd) (.own 50506))]),(50506,.tok 5 198 (([]:List Bd).length))],[]⟩:St)
def Fo(a9:Aa)(aa5:Int):Option Int:=
 (bif (bif (decide (aa5<0)) then true else(decide ((2:Int)<aa5))) then(some (1:Int)) else((Hb a9 aa5 ([]:Ad) ([]:List Bd)).bind λx1=>(some x1.1)))
variable{v0:Aa}{v1:Int}{v11:Int}
theorem Y2(h:Fo v0 v1=some v11):sP 15 [(RV v0),(Aq v1)] [] (.int .i64 v11) []:=
 sG Tryz.func15 λΓ q=>Ag q R9 [2] (tU q [1,2,11] [2] (c2 (gI ((decide (v1<0))==false)) (Pv (decide (v1<0)))) (gC h (λh=>Ag q [4] [] (tS h (Bj []))) λh=>gR q [5] [5] [(14,(uq v0 v1))] [] (c1 (show(AVle (.agg [(Lo v0.Params),(Aq v0.Ret),(GW v0.Blocks),(Aq v1),SD,.nilm,SD]) (uq v0 v1)) from(AVle.agg (.cons (AVle.refl _) (.cons (AVle.refl _) (.cons (AVle.refl _) (.cons (AVle.refl _) (.cons C6 (.cons (AVle.refl _) (.cons C6 .nil)))))))))) (O8 (uo v0 v1) (Ka (show Le Γ _ (sV v0 v1) from Le.trans (Bs (st':=(uo v0 v1)) [5] [5] q) (Le.trans (Ym (r:=5) (j:=6) (nm:=50506) (sz':=5) (λi=>Lg (([]:List Bd).getD i default)) 198 rfl rfl (nl rfl) rfl (.inl ⟨rfl,rfl⟩) (λh_=>absurd h_ (by decide))) (Bs (st':=(sV v0 v1)) [5] [5,50506] q))) (Ka (show Le Γ _ (⟨[GY],[(5,.row 105 [(Lo v0.Params),(Aq v0.Ret),(GW v0.Blocks),(Aq v1),(AV.list 1 Ao 0 ([]:Ad) .none),.nilm,(AV.list 5 Lg default ([]:List Bd) (.own 50506))]),(50506,.tok 5 198 (([]:List Bd).length))],[]⟩:St) from Le.trans (Bs (st':=(sV v0 v1)) [5] [5,50506] q) (Ng (.cons (AVle.refl _) .nil) (.row (.cons (AVle.refl _) (.cons (AVle.refl _) (.cons (AVle.refl _) (.cons (AVle.refl _) (.cons AVle.untag (.cons (AVle.refl _) (.cons (AVle.refl _) .nil))))))) (.same .nil)))) (tB h λx1 y1 h=>tT q [4] [] [⟨[(5,30000),(50506,37006)],[(9200005,10000505)],(Aq x1.1),[(Z2 x1.2.1.Params x1.2.1.Ret x1.2.1.Blocks x1.2.2.1 x1.2.2.2.1 9200005 x1.2.2.2.2.1),(Gy 37006 198 x1.2.2.2.2.1.length),(9200005,.obj (.map false .i64 (C7 (λ(v_:Aw)=>((Ve v_):AV)) x1.2.2.2.2.2)))],[],[]⟩] (c1 (Vz y1)) (tS h (Bj []))))))))
def Py(aX:List Ab)(aaZ:Fl)(aK:Int):Option Unit:=
 (some ())
variable{v10:List Ab}{v14:Fl}{v32:Unit}
theorem IB(h:Py v10 v14 v1=some v32):sP 76 [(GW v10),(JK v14),(Aq v1)] [] (.agg [(ri v10 v14 v1),(ri v10 v14 v1),(ri v10 v14 v1),(Sb 135),(Sb 135),(ri v10 v14 v1)]) []:=
 sG Tryz.func76 λΓ q=>gR q [3,4,5,6] [6] [(3,(.rpo [])),(4,(.rpo [])),(5,(.rpo []))] [] trivial (tW q O6 [6] [6,7,8] [6] (Ag q [6] [6] (tS h (Bj []))))
def xL(a5:List Ab)(aa3:Int):=((((a5.getD aa3.toNat default).End.Kind:Int)!=1)==false)
def dG(a5:List Ab)(aa3:Int):=(bif (((a5.getD aa3.toNat default).End.Kind:Int)!=1) then true else(decide ((0:Int)<(((a5.getD aa3.toNat default).Phis).length:Int))))
abbrev YF:=(Int×Int×Bool)
def Ez(aa3:Int)(a5:List Ab)(aZ:Fl)(aa7:Int):Option YF:=
 (Az (Ay aa3 a5.length) (Az (((bif (((a5.getD aa3.toNat default).End.Kind:Int)!=1) then true else(decide ((0:Int)<(((a5.getD aa3.toNat default).Phis).length:Int))))==false)=true->(Ay aa3 aZ.length)) ((bif ((bif (((a5.getD aa3.toNat default).End.Kind:Int)!=1) then true else(decide ((0:Int)<(((a5.getD aa3.toNat default).Phis).length:Int))))==false) then Dr (aZ.getD aa3.toNat []) ([aa7]:Ad) else some false).bind λx3=>(bif (bif (bif (((a5.getD aa3.toNat default).End.Kind:Int)!=1) then true else(decide ((0:Int)<(((a5.getD aa3.toNat default).Phis).length:Int)))) then true else(!x3)) then(some ((-1:Int),(-1:Int),false)) else(Az (Ay (0:Int) ((a5.getD aa3.toNat default).End.To).length) (some (aa3,(((a5.getD aa3.toNat default).End.To).getD (0:Int).toNat (0:Int)),true)))))))
variable{v33:YF}
theorem Jd(h:Ez v1 v10 v14 v11=some v33):sP 133 [(Aq v1),(.rpo [(GW v10)]),(.rpo [(JK v14)]),(.rpo [(Aq v11)])] [] (.tuple [(Aq v33.1),(Aq v33.2.1),(.bool v33.2.2)]) []:=
 sG Tryz.func133 λΓ q=>Ag q JC [] (tV q [0,2,3,8] [8] h λh=>tC h λc2_ h=>tB h λx3 y3 h=>gR q [0,8,32] [8] [(29,(pW v11))] [(Z9 x3)] (dj (xL v10 v1) (ci (Pv (((v10.getD v1.toNat default).End.Kind:Int)!=1)) (Qy ((dG v10 v1)==false) (ci c2_ (Qy ((dG v10 v1)==false) (ci (show(((dG v10 v1)==false)=true->(AVle (s8 v11) (pW v11))) from(λhg=>@(A0 1 Ao (0:Int) ([v11]:Ad)))) (Qy ((dG v10 v1)==false) (c3 (λ(hg:((dG v10 v1)==false)=true)=>(Ii (B4 hg y3))) (gI ((dG v10 v1)==false)) (Pv (dG v10 v1)))))))))) (gC h (λh=>Ag q RO [] (tS h (Bj []))) λh=>tV q RO [] h λh=>tS h (Bj [])))
def oS(x2:YF)(x4:YF):=(bif (!x2.2.2) then true else(!x4.2.2))
abbrev rP:=(THammock×Bool)
def Jx(aK:Int)(aa0:Ad)(aaN:List Ab)(aaO:Fl)(aaP:Int)(aaQ:List Ab)(aaR:Fl)(aaS:Int):Option rP:=
 (Az (Ay (0:Int) aa0.length) ((Ez (aa0.getD (0:Int).toNat (0:Int)) aaN aaO aaP).bind λx2=>(Az (Ay (1:Int) aa0.length) ((Ez (aa0.getD (1:Int).toNat (0:Int)) aaQ aaR aaS).bind λx4=>(bif (bif (bif (bif (!x2.2.2) then true else(!x4.2.2)) then true else(x2.2.1 !=x4.2.1)) then true else(x2.2.1==aK)) then(some ((⟨(0:Int),(0:Int),(0:Int),(0:Int)⟩:THammock),false)) else(some ((⟨aK,x2.1,x4.1,x2.2.1⟩:THammock),true)))))))
variable{v15:Fl}{v2:Ad}{v20:Int}{v34:List Ab}{v35:rP}
theorem DO(h:Jx v1 v2 v10 v14 v11 v34 v15 v20=some v35):sP 77 [(Aq v1),(Lo v2),(.agg [(ri v10 v14 v11),(ri v34 v15 v20)])] [] (.tuple [(fj v35.1),(.bool v35.2)]) []:=
 sG Tryz.func77 λΓ q=>Ag q RL [5,6] (tC h λc1_ h=>tB h λx2 y2 h=>tT q fB [5,6] [(uf x2.1 x2.2.1 x2.2.2)] (c3 (show(Ay (0:Int) 2) from(by decide)) c1_ (Jd y2)) (tC h λc3_ h=>tB h λx4 y4 h=>tT q e9 [6] [(uf x4.1 x4.2.1 x4.2.2)] (c3 (show(Ay (1:Int) 2) from(by decide)) c3_ (Jd y4)) (tU q fE [6] (NT (gI ((!x2.2.2)==false)) (Pv (!x2.2.2)) (Qy ((oS x2 x4)==false) (ci (Pv (oS x2 x4)) (Qy ((bif (oS x2 x4) then true else(x2.2.1 !=x4.2.1))==false) (c1 (Pv (bif (oS x2 x4) then true else(x2.2.1 !=x4.2.1)))))))) (gC h (λh=>Ag q O6 [6] (tS h (Bj []))) λh=>Ag q O6 [6] (tS h (Bj []))))))
def Hx(aa3:Int):Option YF:=
 (some ((-1:Int),aa3,true))
theorem Rw(h:Hx v1=some v33):sP 135 [(Aq v1)] [] (.tuple [(Aq v33.1),(Aq v33.2.1),(.bool v33.2.2)]) []:=
 sG Tryz.func135 λΓ q=>tW q [0] [] [2,3,4] [] (tS h (Bj []))
def oT(x2:YF)(x4:YF):=(bif (!x2.2.2) then true else(!x4.2.2))
def Hv(aK:Int)(aa0:Ad)(aaN:List Ab)(aaO:Fl)(aaP:Int):Option rP:=
 (Az (Ay (0:Int) aa0.length) ((Ez (aa0.getD (0:Int).toNat (0:Int)) aaN aaO aaP).bind λx2=>(Az (Ay (1:Int) aa0.length) ((Hx (aa0.getD (1:Int).toNat (0:Int))).bind λx4=>(bif (bif (bif (bif (!x2.2.2) then true else(!x4.2.2)) then true else(x2.2.1 !=x4.2.1)) then true else(x2.2.1==aK)) then(some ((⟨(0:Int),(0:Int),(0:Int),(0:Int)⟩:THammock),false)) else(some ((⟨aK,x2.1,x4.1,x2.2.1⟩:THammock),true)))))))
theorem Xx(h:Hv v1 v2 v10 v14 v11=some v35):sP 77 [(Aq v1),(Lo v2),(.agg [(ri v10 v14 v11),(Sb 135)])] [] (.tuple [(fj v35.1),(.bool v35.2)]) []:=
 sG Tryz.func77 λΓ q=>Ag q RL [5,6] (tC h λc1_ h=>tB h λx2 y2 h=>tT q fB [5,6] [(uf x2.1 x2.2.1 x2.2.2)] (c3 (show(Ay (0:Int) 2) from(by decide)) c1_ (Jd y2)) (tC h λc3_ h=>tB h λx4 y4 h=>tT q e9 [6] [(uf x4.1 x4.2.1 x4.2.2)] (c3 (show(Ay (1:Int) 2) from(by decide)) c3_ (Rw y4)) (tU q fE [6] (NT (gI ((!x2.2.2)==false)) (Pv (!x2.2.2)) (Qy ((oT x2 x4)==false) (ci (Pv (oT x2 x4)) (Qy ((bif (oT x2 x4) then true else(x2.2.1 !=x4.2.1))==false) (c1 (Pv (bif (oT x2 x4) then true else(x2.2.1 !=x4.2.1)))))))) (gC h (λh=>Ag q O6 [6] (tS h (Bj []))) λh=>Ag q O6 [6] (tS h (Bj []))))))
def oU(x2:YF)(x4:YF):=(bif (!x2.2.2) then true else(!x4.2.2))
def Hw(aK:Int)(aa0:Ad)(aaQ:List Ab)(aaR:Fl)(aaS:Int):Option rP:=
 (Az (Ay (0:Int) aa0.length) ((Hx (aa0.getD (0:Int).toNat (0:Int))).bind λx2=>(Az (Ay (1:Int) aa0.length) ((Ez (aa0.getD (1:Int).toNat (0:Int)) aaQ aaR aaS).bind λx4=>(bif (bif (bif (bif (!x2.2.2) then true else(!x4.2.2)) then true else(x2.2.1 !=x4.2.1)) then true else(x2.2.1==aK)) then(some ((⟨(0:Int),(0:Int),(0:Int),(0:Int)⟩:THammock),false)) else(some ((⟨aK,x2.1,x4.1,x2.2.1⟩:THammock),true)))))))
theorem Xy(h:Hw v1 v2 v10 v14 v11=some v35):sP 77 [(Aq v1),(Lo v2),(.agg [(Sb 135),(ri v10 v14 v11)])] [] (.tuple [(fj v35.1),(.bool v35.2)]) []:=
 sG Tryz.func77 λΓ q=>Ag q RL [5,6] (tC h λc1_ h=>tB h λx2 y2 h=>tT q fB [5,6] [(uf x2.1 x2.2.1 x2.2.2)] (c3 (show(Ay (0:Int) 2) from(by decide)) c1_ (Rw y2)) (tC h λc3_ h=>tB h λx4 y4 h=>tT q e9 [6] [(uf x4.1 x4.2.1 x4.2.2)] (c3 (show(Ay (1:Int) 2) from(by decide)) c3_ (Jd y4)) (tU q fE [6] (NT (gI ((!x2.2.2)==false)) (Pv (!x2.2.2)) (Qy ((oU x2 x4)==false) (ci (Pv (oU x2 x4)) (Qy ((bif (oU x2 x4) then true else(x2.2.1 !=x4.2.1))==false) (c1 (Pv (bif (oU x2 x4) then true else(x2.2.1 !=x4.2.1)))))))) (gC h (λh=>Ag q O6 [6] (tS h (Bj []))) λh=>Ag q O6 [6] (tS h (Bj []))))))
def K4(a9:Aa)(x2:sK):(List THammock×Int)->Option (LR (List THammock×Int) (List THammock)):=
 λ((l3,i4):(List THammock×Int))=>(bif (decide (i4<(a9.Blocks.length:Int))) then(Option.bind (α:=List THammock) (Az (Ay i4 a9.Blocks.length) (Az (((((a9.Blocks.getD i4.toNat default).End.Kind:Int)!=2)==false)=true->(Ay (0:Int) ((a9.Blocks.getD i4.toNat default).End.To).length)) (Az (((((a9.Blocks.getD i4.toNat default).End.Kind:Int)!=2)==false)=true->(Ay (1:Int) ((a9.Blocks.getD i4.toNat default).End.To).length)) (bif (bif (((a9.Blocks.getD i4.toNat default).End.Kind:Int)!=2) then true else((((a9.Blocks.getD i4.toNat default).End.To).getD (0:Int).toNat (0:Int))==(((a9.Blocks.getD i4.toNat default).End.To).getD (1:Int).toNat (0:Int)))) then(some l3) else((Py a9.Blocks x2.1.Pred i4).bind λx10=>((Jx i4 ((a9.Blocks.getD i4.toNat default).End.To) a9.Blocks x2.1.Pred i4 a9.Blocks x2.1.Pred i4).bind λx11=>(bif x11.2 then(Az (l3.length+([x11.1]:List THammock).length<=room) (some (l3++([x11.1]:List THammock)))) else((Hv i4 ((a9.Blocks.getD i4.toNat default).End.To) a9.Blocks x2.1.Pred i4).bind λx13=>(bif x13.2 then(Az (l3.length+([x13.1]:List THammock).length<=room) (some (l3++([x13.1]:List THammock)))) else((Hw i4 ((a9.Blocks.getD i4.toNat default).End.To) a9.Blocks x2.1.Pred i4).bind λx15=>(bif x15.2 then(Az (l3.length+([x15.1]:List THammock).length<=room) (some (l3++([x15.1]:List THammock)))) else(some l3)))))))))))) (λx17=>(some (.next (x17,(A3 (i4+1))))))) else(some (.done l3)))
def HL :Empty->Option (LR Empty (List THammock)):=
 λ(s_:Empty)=>nomatch s_
def RZ(Γ:G8)(a9:Aa)(r:List THammock):Exit->St->Prop:=fK Tryz.prog Γ Tryz.f39.results.toList [] (oI r 20000) [(20000,.tok 4 27 r.length)]
def dH(a9:Aa):AV:=(GW a9.Blocks)
def iQ:AV:=(AV.list 4 Cq default ([]:List THammock) .exact)
def sW(a9:Aa)(i4:Int):=((((a9.Blocks.getD i4.toNat default).End.Kind:Int)!=2)==false)
def ut:=(⟨[(2,(AV.list 4 Cq default ([]:List THammock) (.own 6002)))],[(6002,.tok 4 27 (([]:List THammock).length))],[]⟩:St)
def oV(a9:Aa)(x2:sK)(i4:Int):AV:=(.clo 133 [] [(.rpo [(dH a9)]),(.rpo [(JK x2.1.Pred)]),(.rpo [(Aq i4)])])
def ur(a9:Aa)(x2:sK):=(⟨[(1,(.ptr 1 0)),LG,(5,(AV.list 4 Cq default ([]:List THammock) (.own 5005))),(21,(dH a9)),(22,(Od a9.Blocks.length)),(23,In)],[(1,.row 25 [(Lo a9.Params),(Aq a9.Ret),(dH a9)]),(3,.row 97 [(JK x2.1.Succ),(JK x2.1.Pred)]),(5005,.tok 4 27 (([]:List THammock).length))],[]⟩:St)
def H4(a9:Aa):Option (List THammock):=
 ((Ms (S:=Empty) (X:=List THammock) ((Fo a9 (2:Int)).bind λx1=>(bif (x1 !=0) then(some (.done ([]:List THammock))) else((Rk a9).bind λx2=>((Af (K4 a9 x2) (([]:List THammock),(0:Int))).bind (λx19=>(some (.done x19))))))) HL).bind (λx21=>(some x21)))
variable{v36:List THammock}
theorem Ru(h:H4 v0=some v36):sP 39 [(RV v0)] [] (oI v36 20000) [(20000,.tok 4 27 v36.length)]:=
 sG Tryz.func39 λΓ q=>gR q [1] [1] [(2,iQ)] [] (c1 (Be 4 Cq (default:THammock))) (tB h λx21 y21 h=>gS y21 (λ(s_:Empty)=>nomatch s_) (λ(s_:Empty)=>nomatch s_) (λr_=>aR (RZ Γ v0 r_)) (λy h=>tB h λx1 y1 h=>tT q [1,14] [1] [(MJ x1)] (c1 (Y2 y1)) (gC h (λh=>gR q [2] [] [(2,iQ)] [] (c1 (Be 4 Cq (default:THammock))) (O8 (⟨[(2,iQ)],[],[]⟩:St) (tS h (JT (Oa (Hd fU (show Le Γ _ ut from Le.trans (Bs (st':=⟨[(2,iQ)],[],[]⟩) [2] [] q) (Le.trans (Oq (t:=2) (nm:=6002) (sz':=4) (λi=>Cq (([]:List THammock).getD i default)) 27 rfl rfl (.inl ⟨rfl,rfl⟩) (λh_=>absurd h_ (by decide))) (Bs (st':=ut) [2] [6002] q))))))))) λh=>tB h λx2 y2 h=>tT q [1,3] [1,3] [⟨[],[],(.tuple [(.agg (Sn x2.1)),(Aq x2.2)]),[],[],[]⟩] (c1 (KE y2)) (gR q [1,3,5] [1,3] [(5,iQ)] [] (c1 (Be 4 Cq (default:THammock))) (Ag q CP [1,3] (Ka (st':=(ur v0 x2)) (Le.trans (Bs (st':=⟨[(1,(.ptr 1 0)),LG,(5,iQ),(21,(dH v0)),(22,(Od v0.Blocks.length)),(23,In)],[(1,.row 25 [(Lo v0.Params),(Aq v0.Ret),(dH v0)]),(3,.row 97 [(JK x2.1.Succ),(JK x2.1.Pred)])],[]⟩) CP [1,3] q) (Le.trans (Oq (t:=5) (nm:=5005) (sz':=4) (λi=>Cq (([]:List THammock).getD i default)) 27 rfl rfl (.inl ⟨rfl,rfl⟩) (λh_=>absurd h_ (by decide))) (Bs (st':=(ur v0 x2)) CP GV q))) (tL q h CP GV (λu (l3,i4)=>(Dv u [(5,(oI l3 5005)),(Db 23 i4)] [(5005,.tok 4 27 l3.length)])) (λu l5=>aG Γ (.exit 0) (⟨[(5,(oI l5 5005))],[(5005,.tok 4 27 l5.length)],[]⟩:St)) (λ⟨l3,i4⟩ y h=>Ag q [1,3,5,21,22,23,24] GV (gC h (λh=>tB h λx17 y17 h=>gJ y17 (λl6=>aG Γ .normal (⟨[(1,(.ptr 1 0)),LG,(5,(oI l6 5005)),(21,(dH v0)),(22,(Od v0.Blocks.length)),(Db 23 i4)],[(1,.row 25 [(Lo v0.Params),(Aq v0.Ret),(dH v0)]),(3,.row 97 [(JK x2.1.Succ),(JK x2.1.Pred)]),(5005,.tok 4 27 l6.length)],[]⟩:St)) (λy h=>tV q [1,3,5,6,7,21,22,23] CT h λh=>tC h λc8_ h=>tC h λc9_ h=>tU q [1,3,5,6,7,21,22,23,44] CT (dj (sW v0 i4) (ci c8_ (tk (sW v0 i4) (ci c9_ (dj (sW v0 i4) (c1 (Pv (((v0.Blocks.getD i4.toNat default).End.Kind:Int)!=2)))))))) (gC h (λh=>tS h (gK (B0 (Bs CP GV q)))) λh=>tB h λx10 y10 h=>tT q iH CT [⟨[],[],(.agg [(oV v0 x2 i4),(oV v0 x2 i4),(oV v0 x2 i4),(Sb 135),(Sb 135),(oV v0 x2 i4)]),[],[],[]⟩] (c1 (IB y10)) (gU 3 (Ag q iG CT (BK true (tU q oD fI (c1 (show(Ay (0:Int) 3) from(by decide))) (tB h λx11 y11 h=>tT q oB VY [⟨[],[],(.tuple [(fj x11.1),(.bool x11.2)]),[],[],[]⟩] (c1 (DO y11)) (Ag q oC VY (gC h (λh=>tC h λc12_ h=>gR q CP GV (xq x11.1 l3) [] (c5 (A0 4 Cq (default:THammock) ([x11.1]:List THammock)) (Eq.refl l3.length) c12_ (Jr 4 5005 Cq (default:THammock) l3 ([x11.1]:List THammock)) (D2 l3 ([x11.1]:List THammock))) (tS h (gK (B0 Kb)))) λh=>tW q iH CT iG CT (BK true (tU q oD fI (c1 (show(Ay (1:Int) 3) from(by decide))) (tB h λx13 y13 h=>tT q oB VY [⟨[],[],(.tuple [(fj x13.1),(.bool x13.2)]),[],[],[]⟩] (c1 (Xx y13)) (Ag q oC VY (gC h (λh=>tC h λc14_ h=>gR q CP GV (xq x13.1 l3) [] (c5 (A0 4 Cq (default:THammock) ([x13.1]:List THammock)) (Eq.refl l3.length) c14_ (Jr 4 5005 Cq (default:THammock) l3 ([x13.1]:List THammock)) (D2 l3 ([x13.1]:List THammock))) (tS h (gK (B0 Kb)))) λh=>tW q iH CT iG CT (BK true (tU q oD fI (c1 (show(Ay (2:Int) 3) from(by decide))) (tB h λx15 y15 h=>tT q oB VY [⟨[],[],(.tuple [(fj x15.1),(.bool x15.2)]),[],[],[]⟩] (c1 (Xy y15)) (Ag q oC VY (gC h (λh=>tC h λc16_ h=>gR q CP GV (xq x15.1 l3) [] (c5 (A0 4 Cq (default:THammock) ([x15.1]:List THammock)) (Eq.refl l3.length) c16_ (Jr 4 5005 Cq (default:THammock) l3 ([x15.1]:List THammock)) (D2 l3 ([x15.1]:List THammock))) (tS h (gK (B0 Kb)))) λh=>tW q iH CT iG CT (BK false (tS h (gK (B0 (Bs CP GV q)))))))))))))))))))))))) (gA (Ag q CP GV (tN h)))) λh=>tS h (gO (B0 (Bs [5] [5005] q))))) λx19 h=>gA (Ag q [2] [5005] (tS h (JT (Oa (Hd [(5005,20000)] (Le.refl _ _)))))))))))) nofun (gAr (λst' hk=>tS h (gK hk))))
def m_slices_Index_api_Hammock_api_Hammock_L1(aP:List THammock)(aJ:THammock):Int->Option (LR Int (Unit ⊕ Int)):=
 λ(i1:Int)=>(bif (decide (i1<(aP.length:Int))) then(Az (Ay i1 aP.length) (bif ((aJ.At==(aP.getD i1.toNat default).At)&&((aJ.Then==(aP.getD i1.toNat default).Then)&&((aJ.Else==(aP.getD i1.toNat default).Else)&&((aJ.Join==(aP.getD i1.toNat default).Join)&&true)))) then(some (.done (.inr i1))) else(some (.next (A3 (i1+1)))))) else(some (.done (.inl ()))))
def J5(Γ:G8)(aP:List THammock)(aJ:THammock)(r:Int):Exit->St->Prop:=fK Tryz.prog Γ Tryz.f196.results.toList [] (.int .i64 r) []
def Dk(aP:List THammock)(aJ:THammock):Option Int:=
 ((Af (m_slices_Index_api_Hammock_api_Hammock_L1 aP aJ) (0:Int)).bind (λx3=>(match x3 with|(.inl _)=>(some (-1:Int))|(.inr r5)=>(some r5))))
variable{v37:THammock}
theorem J4(h:Dk v36 v37=some v1):sP 196 [(AV.list 4 Cq default v36 .none),(fj v37)] [] (.int .i64 v1) []:=
 sG Tryz.func196 λΓ q=>tW q Ln [3] [0,3,7,8] [3] (tL q h [0,3,7,8] [3] (λu i1=>(Dv u [(8,(Aq i1))] [])) (λu x_=>match x_ with|(.inl _)=>aG Γ (.exit 0) (⟨[],[],[]⟩:St)|(.inr r_)=>aR (J5 Γ v36 v37 r_)) (λi1 y h=>Ag q [0,3,7,8,9] [3] (gC h (λh=>Ag q [0,3,5,7,8] [3] (tV q [0,3,5,7,8,16] [3] h λh=>gC h (λh=>Ag q [4] [] (tS h (gO (Oa (Hd [] (Le.refl _ _)))))) λh=>Ag q [0,3,7,8] [3] (tN h))) λh=>tS h (gO (B0 (Bs [] [] q))))) λx3 h=>(match x3,h with | .inl _,h=>gA (Ag q [4] [] (tS h (Bj []))) | .inr r5,h=>gAr (λst' hk=>tS h (gK hk))))
def C2(aP:List THammock)(aJ:THammock):Option Bool:=
 ((Dk aP aJ).bind λx1=>(some (decide ((0:Int)<=x1))))
variable{v3:Bool}
theorem Je(h:C2 v36 v37=some v3):sP 164 [(AV.list 4 Cq default v36 .none),(fj v37)] [] (.bool v3) []:=
 sG Tryz.func164 λΓ q=>Ag q Ln [3] (tB h λx1 y1 h=>tT q [4] [] [(MJ x1)] (c1 (J4 y1)) (tS h (Bj [])))
def Qo(a9:Aa)(aU:THammock):Option Bool:=
 ((H4 a9).bind λx1=>((C2 x1 aU).bind λx2=>(some x2)))
theorem ST(h:Qo v0 v37=some v3):sP 112 [(RV v0),(fj v37)] [] (.bool v3) []:=
 sG Tryz.func112 λΓ q=>Ag q F2 F2 (tB h λx1 y1 h=>tB h λx2 y2 h=>tT q [4] [] [⟨[],[(20000,6)],(oI x1 20000),[(20000,.tok 4 27 x1.length)],[],[]⟩,(Z9 x2)] (c2 (Ru y1) (Je y2)) (tS h (Bj [])))
def Dj(a9:Aa)(aU:THammock):(List A6×Int)->Option (LR (List A6×Int) (List A6)):=
 λ((l2,i3):(List A6×Int))=>(bif (decide (i3<(([aU.Then,aU.Else]:Ad).length:Int))) then(Option.bind (α:=List A6) (Az (Ay i3 ([aU.Then,aU.Else]:Ad).length) (bif ((([aU.Then,aU.Else]:Ad).getD i3.toNat 0)!=-1) then(Az (Ay (([aU.Then,aU.Else]:Ad).getD i3.toNat 0) a9.Blocks.length) (Az (l2.length+((a9.Blocks.getD (([aU.Then,aU.Else]:Ad).getD i3.toNat 0).toNat (default:Ab)).Ops).length<=room) (some (l2++(a9.Blocks.getD (([aU.Then,aU.Else]:Ad).getD i3.toNat 0).toNat (default:Ab)).Ops)))) else(some l2))) (λx9=>(some (.next (x9,(A3 (i3+1))))))) else(some (.done l2)))
def WF(aU:THammock):=([aU.Then,aU.Else]:Ad)
def iR:AV:=ug
def sX(a9:Aa)(aU:THammock)(i3:Int):=(a9.Blocks.getD ((WF aU).getD i3.toNat 0).toNat (default:Ab))
def sY(a9:Aa):List AV:=[(Lo a9.Params),(Aq a9.Ret),(GW a9.Blocks)]
def uv:=(⟨[(4,(AV.list 6 Io default ([]:List A6) (.own 6004))),(5,(.bool false))],[(6004,.tok 6 51 (([]:List A6).length))],[]⟩:St)
def uu(aU:THammock)(a9:Aa):=(⟨[AG,(6,(AV.list 6 Io default ([]:List A6) (.own 5006))),(17,(pY (WF aU))),(18,(.int .i64 ((WF aU).length:Int))),(19,In)],[(2,.row 25 (sY a9)),(5006,.tok 6 51 (([]:List A6).length))],[]⟩:St)
def Hu(a9:Aa)(aU:THammock):Option (List A6×Bool):=
 ((Qo a9 aU).bind λx1=>(bif (!x1) then(some (([]:List A6),false)) else((Af (Dj a9 aU) (([]:List A6),(0:Int))).bind (λx11=>(some (x11,true))))))
variable{v38:(List A6×Bool)}
theorem Rv(h:Hu v0 v37=some v38):sP 59 [(RV v0),(fj v37)] [] (.tuple [(oJ v38.1 20000),(.bool v38.2)]) [(Td 20000 v38.1.length)]:=
 sG Tryz.func59 λΓ q=>gR q F2 F2 [(4,iR)] [] (c1 (Be 6 Io (default:A6))) (tB h λx1 y1 h=>tT q [2,3,12] F2 [(Z9 x1)] (c1 (ST y1)) (gC h (λh=>gR q Gx [] [(4,iR)] [] (c1 (Be 6 Io (default:A6))) (O8 (⟨[(4,iR),(5,(.bool false))],[],[]⟩:St) (tS h (gK (e:=.ret) (Hd fQ (show Le Γ _ uv from Le.trans (Bs (st':=⟨[(4,iR),(5,(.bool false))],[],[]⟩) Gx [] q) (Le.trans (Oq (t:=4) (nm:=6004) (sz':=6) (λi=>Io (([]:List A6).getD i default)) 51 rfl rfl (.inl ⟨rfl,rfl⟩) (λh_=>absurd h_ (by decide))) (Bs (st':=uv) Gx [6004] q)))))))) λh=>gR q [2,3,6] F2 [(6,iR)] [] (c1 (Be 6 Io (default:A6))) (gR q RR [2] [(17,(pY (WF v37)))] [] (c1 (A0 1 Ao (0:Int) (WF v37))) (Ka (st':=(uu v37 v0)) (Le.trans (Bs (st':=⟨[AG,(6,iR),(17,(pY (WF v37))),(18,(.int .i64 ((WF v37).length:Int))),(19,In)],[(2,.row 25 (sY v0))],[]⟩) RR [2] q) (Le.trans (Oq (t:=6) (nm:=5006) (sz':=6) (λi=>Io (([]:List A6).getD i default)) 51 rfl rfl (.inl ⟨rfl,rfl⟩) (λh_=>absurd h_ (by decide))) (Bs (st':=(uu v37 v0)) RR AB q))) (tL q h RR AB (λu (l2,i3)=>(Dv u [(6,(oJ l2 5006)),(Db 19 i3)] [(Td 5006 l2.length)])) (λu l4=>aG Γ (.exit 0) (⟨[(6,(oJ l4 5006))],[(Td 5006 l4.length)],[]⟩:St)) (λ⟨l2,i3⟩ y h=>Ag q [2,6,17,18,19,20] AB (gC h (λh=>tB h λx9 y9 h=>gJ y9 (λl5=>aG Γ .normal (⟨[AG,(6,(oJ l5 5006)),(17,(pY (WF v37))),(18,(.int .i64 ((WF v37).length:Int))),(Db 19 i3)],[(2,.row 25 (sY v0)),(Td 5006 l5.length)],[]⟩:St)) (λy h=>tV q [2,6,8,17,18,19] AB h λh=>Ag q [2,6,8,17,18,19,24] AB (gC h (λh=>tC h λc7_ h=>tC h λc8_ h=>gR q RR AB [(32,(AV.list 6 Io default (l2++(sX v0 v37 i3).Ops) (.own 5006)))] [] (c5 c7_ (Eq.refl l2.length) c8_ (Jr 6 5006 Io (default:A6) l2 ((sX v0 v37 i3).Ops)) (D2 l2 ((sX v0 v37 i3).Ops))) (tS h (gK (B0 Kb)))) λh=>tS h (gK (B0 (Bs RR AB q))))) (gA (Ag q RR AB (tN h)))) λh=>tS h (gO (B0 (Bs [6] [5006] q))))) λx11 h=>gA (Ag q Gx [5006] (tS h (Bj [(5006,20000)]))))))))
def I9(a2:A6):Option Bool:=
 (some (a2.Lanes !=1))
variable{v6:A6}
theorem BP(h:I9 v6=some v3):sP 61 [(EM v6)] [] (.bool v3) []:=
 sG Tryz.func61 λΓ q=>tW q [1] [1] [2] [] (tS h (Bj []))
def m_slices_IndexFunc_api_Op_api_Op_L1(aP:List A6):Int->Option (LR Int (Unit ⊕ Int)):=
 λ(i1:Int)=>(bif (decide (i1<(aP.length:Int))) then(Az (Ay i1 aP.length) ((I9 (aP.getD i1.toNat default)).bind λx3=>(bif x3 then(some (.done (.inr i1))) else(some (.next (A3 (i1+1))))))) else(some (.done (.inl ()))))
def M8(Γ:G8)(aP:List A6)(r:Int):Exit->St->Prop:=fK Tryz.prog Γ Tryz.f113.results.toList [] (.int .i64 r) []
def E0(aP:List A6):Option Int:=
 ((Af (m_slices_IndexFunc_api_Op_api_Op_L1 aP) (0:Int)).bind (λx4=>(match x4 with|(.inl _)=>(some (-1:Int))|(.inr r6)=>(some r6))))
variable{v7:List A6}
theorem M5(h:E0 v7=some v1):sP 113 [(TJ v7),(Sb 61)] [] (.int .i64 v1) []:=
 sG Tryz.func113 λΓ q=>tW q Cy [] GU [] (tL q h GU [] (λu i1=>(Dv u [(8,(Aq i1))] [])) (λu x_=>match x_ with|(.inl _)=>aG Γ (.exit 0) (⟨[],[],[]⟩:St)|(.inr r_)=>aR (M8 Γ v7 r_)) (λi1 y h=>Ag q fS [] (gC h (λh=>Ag q fT [] (tC h λc2_ h=>tB h λx3 y3 h=>tT q fF [] [(Z9 x3)] (c2 c2_ (BP y3)) (gC h (λh=>Ag q [4] [] (tS h (gO (Oa (Hd [] (Le.refl _ _)))))) λh=>Ag q GU [] (tN h)))) λh=>tS h (gO (B0 (Bs [] [] q))))) λx4 h=>(match x4,h with | .inl _,h=>gA (Ag q [4] [] (tS h (Bj []))) | .inr r6,h=>gAr (λst' hk=>tS h (gK hk))))
def Cm(aP:List A6):Option Bool:=
 ((E0 aP).bind λx1=>(some (decide ((0:Int)<=x1))))
theorem Ls(h:Cm v7=some v3):sP 60 [(TJ v7),(Sb 61)] [] (.bool v3) []:=
 sG Tryz.func60 λΓ q=>Ag q Cy [] (tB h λx1 y1 h=>tT q [4] [] [(MJ x1)] (c1 (M5 y1)) (tS h (Bj [])))
def K5(a9:Aa)(aU:THammock):Option Bool:=
 ((Hu a9 aU).bind λx1=>((bif (x1.2==true) then Cm x1.1 else some false).bind λx2=>(some (bif x1.2 then(!x2) else false))))
theorem FU(h:K5 v0 v37=some v3):sP 25 [(RV v0),(fj v37)] [] (.bool v3) []:=
 sG Tryz.func25 λΓ q=>Ag q F2 F2 (tB h λx1 y1 h=>tT q [5,6] [10] [⟨[],ZB,(.tuple [(oJ x1.1 20000),(.bool x1.2)]),[(Td 20000 x1.1.length)],[],[]⟩] (c1 (Rv y1)) (tB h λx2 y2 h=>tT q [4] [] [(Z9 x2)] (c4 (gI (x1.2==true)) (λ(hg:(x1.2==true)=true)=>(Ls (B4 hg y2))) (gI (x1.2==true)) (O9 x1.2)) (tS h (Bj []))))
def L8(a9:Aa)(i2:Int):G2->Option rQ:=
 λ((i5,i6):G2)=>(bif (decide (i6<(((a9.Blocks.getD i2.toNat default).Phis).length:Int))) then(Az (Ay i6 ((a9.Blocks.getD i2.toNat default).Phis).length) (some (.next ((if i5<(((a9.Blocks.getD i2.toNat default).Phis).getD i6.toNat default).Dst then(((a9.Blocks.getD i2.toNat default).Phis).getD i6.toNat default).Dst else i5),(A3 (i6+1)))))) else(some (.done i5)))
def L9(a9:Aa)(i2:Int):G2->Option rQ:=
 λ((i11,i12):G2)=>(bif (decide (i12<(((a9.Blocks.getD i2.toNat default).Ops).length:Int))) then(Az (Ay i12 ((a9.Blocks.getD i2.toNat default).Ops).length) (some (.next ((if i11<(((a9.Blocks.getD i2.toNat default).Ops).getD i12.toNat default).Dst then(((a9.Blocks.getD i2.toNat default).Ops).getD i12.toNat default).Dst else i11),(A3 (i12+1)))))) else(some (.done i11)))
def Px(a9:Aa):G2->Option rQ:=
 λ((i1,i2):G2)=>(bif (decide (i2<(a9.Blocks.length:Int))) then(Az (Ay i2 a9.Blocks.length) ((Af (L8 a9 i2) (i1,(0:Int))).bind (λx9=>((Af (L9 a9 i2) (x9,(0:Int))).bind (λx15=>(some (.next (x15,(A3 (i2+1)))))))))) else(some (.done i1)))
def Nh(a9:Aa):Option Int:=
 ((Af (Px a9) ((a9.Params.length:Int),(0:Int))).bind (λx17=>(some x17)))
theorem CB(h:Nh v0=some v1):sP 26 [(RV v0)] [] (.int .i64 v1) []:=
 sG Tryz.func26 λΓ q=>tW q [1] [1] [1,3] [1] (Ag q RJ [] (tL q h RJ [] (λu (i1,i2)=>(Dv u [(3,(Aq i1)),(Db 16 i2)] [])) (λu i3=>aG Γ (.exit 0) (⟨[(3,(Aq i3))],[],[]⟩:St)) (λ⟨i1,i2⟩ y h=>Ag q [3,14,15,16,17] [] (gC h (λh=>tV q fJ [5] h λh=>Ag q iK [5] (tL q h iK [5] (λu (i5,i6)=>(Dv u [(3,(Aq i5)),(Db 23 i6)] [])) (λu i7=>aG Γ (.exit 2) (V4 fJ [5] u [(3,(Aq i7))] [])) (λ⟨i5,i6⟩ y h=>Ag q [3,5,14,15,16,21,22,23,24] [5] (gC h (λh=>tV q [3,5,7,14,15,16,21,22,23] [5,7] h λh=>tW q iK [5] iK [5] (tN h)) λh=>tS h (gO (B0 (Bs fJ [5] q))))) λx9 h=>gA (Ag q iM [] (tL q h iM [] (λu (i11,i12)=>(Dv u [(3,(Aq i11)),(Db 35 i12)] [])) (λu i13=>aG Γ (.exit 4) (V4 RJ [] u [(3,(Aq i13))] [])) (λ⟨i11,i12⟩ y h=>Ag q [3,14,15,16,33,34,35,36] [] (gC h (λh=>tV q [3,9,14,15,16,33,34,35] [9] h λh=>tW q iM [] iM [] (tN h)) λh=>tS h (gO (B0 (Bs RJ [] q))))) λx15 h=>gA (Ag q RJ [] (tN h)))))) λh=>tS h (gO (B0 (Bs [3] [] q))))) λx17 h=>gA (Ag q [2] [] (tS h (Bj [])))))
def iS:AV:=ug
def uw:=(⟨[(2,(AV.list 6 Io default ([]:List A6) (.own 6002)))],[(6002,.tok 6 51 (([]:List A6).length))],[]⟩:St)
def Ec(aP:List A6):Option (List A6):=
 (Az (([]:List A6).length+aP.length<=room) (some (([]:List A6)++aP)))
variable{v39:List A6}
theorem Po(h:Ec v7=some v39):sP 62 [(TJ v7)] [] (oJ v39 20000) [(Td 20000 v39.length)]:=by
 refine Uz mix Tryz.func62 (λΓ hq=>?_);unfold Ec at h;refine gR hq [0] [] [(2,iS)] [] (c1 (Be 6 Io (default:A6))) ?_;refine Ag hq Mt [] ?_;refine tm true v7.length (λhb=>?_) (λhb=>?_)
 ·replace h:=eC (some ([]:List A6)) (λ(l2:List A6)=>(Az (([]:List A6).length+l2.length<=room) (some (([]:List A6)++l2)))) h (hb rfl) rfl (λh0=>by first|exact h0|simpa [Az,room] using h0);clear hb;refine gR hq [2] [] [(2,iS)] [] (c1 (Be 6 Io (default:A6))) ?_;refine O8 (⟨[(2,iS)],[],[]⟩:St) ?_;cases h;exact gK (e:=.ret) (Hd fU (show Le Γ _ uw from Le.trans (Bs (st':=⟨[(2,iS)],[],[]⟩) [2] [] hq) (Le.trans (Oq (t:=2) (nm:=6002) (sz':=6) (λi=>Io (([]:List A6).getD i default)) 51 rfl rfl (.inl ⟨rfl,rfl⟩) (λh_=>absurd h_ (by decide))) (Bs (st':=uw) [2] [6002] hq))))
 ·clear hb;obtain⟨hc1,h⟩:=J7 h;refine gR hq [2] [7] [(5,iS),(7,(AV.list 6 Io default (([]:List A6)++v7) (.own 7)))] [] (ci (show(AVle (.slice 6 0 (λi=>([]:List (List AV)).getD i []) .exact) iS) from WT rfl (λi hi=>absurd hi (S5 i))) (ci hc1 (ci (show(51=Wv->([]:List A6).length=0\/0<v7.length) from(λh_=>absurd h_ (by decide))) (ci (Jr 6 7 Io (default:A6) ([]:List A6) v7) (c1 (D2 ([]:List A6) v7)))))) ?_;cases h;exact Bj fa
def oW:List ju:=[(4,ug)]
def sZ(a3:Aa)(a7:THammock)(a0:List A6)(a1:Int):List U8:=(MI a3.Params a3.Ret a3.Blocks a7.At a7.Then a7.Else a7.Join a0 a1 a0.length)
def El(aK:Int)(a3:Aa)(a7:THammock)(a0:List A6)(a1:Int):Option (List A6):=
 (bif (aK==-1) then(some ([]:List A6)) else(Az (Ay aK a3.Blocks.length) (some ((a3.Blocks.getD aK.toNat default).Ops))))
theorem L2(h:El v1 v0 v37 v7 v11=some v39):sP 115 (oK v1) (MI v0.Params v0.Ret v0.Blocks v37.At v37.Then v37.Else v37.Join v7 v11 v7.length) (TJ v39) (MI v0.Params v0.Ret v0.Blocks v37.At v37.Then v37.Else v37.Join v7 v11 v7.length):=
 sG Tryz.func115 λΓ q=>gR q Cy E3 oW [] (c1 (Be 6 Io (default:A6))) (Ag q JF E3 (gC h (λh=>gR q [4] E3 oW [] (c1 (Be 6 Io (default:A6))) (O8 (⟨oW,(sZ v0 v37 v7 v11),[]⟩:St) (tS h (gK (e:=.ret) (Hd N7 (show Le Γ _ (⟨[(4,(AV.list 6 Io default ([]:List A6) .none))],(sZ v0 v37 v7 v11),[]⟩:St) from Le.trans (Bs (st':=⟨oW,(sZ v0 v37 v7 v11),[]⟩) [4] E3 q) (Ng (.cons AVle.untag .nil) (.same (.same .nil))))))))) λh=>tV q [4] E3 h λh=>tS h (Bj N7)))
def oX(aaT:Int)(aE:Int)(a1:Int)(aa4:Ad)(aaE:Int):=([(⟨aaT,aE,(1:Int),(A3 (a1+1)),aa4,aaE⟩:A6)]:List A6)
abbrev jv:=(Int×Aa×THammock×List A6×Int)
def B6(aaT:Int)(aE:Int)(aaE:Int)(aa4:Ad)(a3:Aa)(a7:THammock)(a0:List A6)(a1:Int):Option jv:=
 (Az (a0.length+([(⟨aaT,aE,(1:Int),(A3 (a1+1)),aa4,aaE⟩:A6)]:List A6).length<=room) (some ((A3 (a1+1)),a3,a7,(a0++([(⟨aaT,aE,(1:Int),(A3 (a1+1)),aa4,aaE⟩:A6)]:List A6)),(A3 (a1+1)))))
variable{v40:Int}{v41:jv}
theorem Ds(h:B6 v1 v11 v20 v2 v0 v37 v7 v40=some v41):sP 117 [(F3 30000),(Aq v1),(Aq v11),(M4 v20),(Lo v2)] (MI v0.Params v0.Ret v0.Blocks v37.At v37.Then v37.Else v37.Join v7 v40 v7.length) (Aq v41.1) (MI v41.2.1.Params v41.2.1.Ret v41.2.1.Blocks v41.2.2.1.At v41.2.2.1.Then v41.2.2.1.Else v41.2.2.1.Join v41.2.2.2.1 v41.2.2.2.2 v41.2.2.2.1.length):=
 sG Tryz.func117 λΓ q=>tW q fV E3 fV E3 (tC h λc1_ h=>gR q [0] E3 (vZ 32 (oX v1 v11 v40 v2 v20) 33 v7) [] (c5 (A0 6 Io (default:A6) (oX v1 v11 v40 v2 v20)) (Eq.refl v7.length) c1_ (Jr 6 37007 Io (default:A6) v7 (oX v1 v11 v40 v2 v20)) (D2 v7 (oX v1 v11 v40 v2 v20))) (Ag q [10] E3 (tS h (Bj N7))))
def iU(a5:A6):=(a5.Args.drop (1:Int).toNat)
def NE(a5:A6):=(a5.Args.getD (0:Int).toNat (0:Int))
def iT(a5:A6):=(a5.Args.getD (1:Int).toNat (0:Int))
def ux(a5:A6):List AV:=[(F3 30000),In,(Aq a5.Bits),(.int .u64 (0:Int)),tD]
def kG:List AV:=[In,In,In,In,SD,(.int .u64 (0:Int))]
def oY(a3:Aa)(a7:THammock)(a0:List A6)(a1:Int):List AV:=(Z3 a3.Params a3.Ret a3.Blocks a7.At a7.Then a7.Else a7.Join a0 a1)
def sa(x13:jv):List AV:=(Z3 x13.2.1.Params x13.2.1.Ret x13.2.1.Blocks x13.2.2.1.At x13.2.2.1.Then x13.2.2.1.Else x13.2.2.1.Join x13.2.2.2.1 x13.2.2.2.2)
def sb(x18:jv):List AV:=(Z3 x18.2.1.Params x18.2.1.Ret x18.2.1.Blocks x18.2.2.1.At x18.2.2.1.Then x18.2.2.1.Else x18.2.2.1.Join x18.2.2.2.1 x18.2.2.2.2)
abbrev uT:=(A6×Aa×THammock×List A6×Int)
def Ga(a5:A6)(aZ:Int)(a3:Aa)(a7:THammock)(a0:List A6)(a1:Int):Option uT:=
 (Option.bind (α:=(Int×Ad×Ad×Int×List Ab×Int×Int×Int×Int×List A6×Int)) (bif (a5.Kind==16) then(Az (Ay (0:Int) a5.Args.length) ((B6 (0:Int) a5.Bits (0:Int) ([]:Ad) a3 a7 a0 a1).bind λx13=>(some ((18:Int),([aZ,(a5.Args.getD (0:Int).toNat (0:Int)),x13.1]:Ad),x13.2.1.Params,x13.2.1.Ret,x13.2.1.Blocks,x13.2.2.1.At,x13.2.2.1.Then,x13.2.2.1.Else,x13.2.2.1.Join,x13.2.2.2.1,x13.2.2.2.2)))) else(bif (a5.Kind==17) then(Az (Ay (0:Int) a5.Args.length) (Az (Ay (1:Int) a5.Args.length) (some ((19:Int),([aZ,(a5.Args.getD (0:Int).toNat (0:Int)),(a5.Args.getD (1:Int).toNat (0:Int))]:Ad),a3.Params,a3.Ret,a3.Blocks,a7.At,a7.Then,a7.Else,a7.Join,a0,a1)))) else(bif (a5.Kind==4) then(Az (Ay (0:Int) a5.Args.length) (Az (Ay (1:Int) a5.Args.length) ((B6 (0:Int) a5.Bits (0:Int) ([]:Ad) a3 a7 a0 a1).bind λx18=>(some ((20:Int),([aZ,(a5.Args.getD (0:Int).toNat (0:Int)),(a5.Args.getD (1:Int).toNat (0:Int)),x18.1]:Ad),x18.2.1.Params,x18.2.1.Ret,x18.2.1.Blocks,x18.2.2.1.At,x18.2.2.1.Then,x18.2.2.1.Else,x18.2.2.1.Join,x18.2.2.2.1,x18.2.2.2.2))))) else(Option.bind (α:=Bool) (bif (a5.Kind==18) then(some (a5.Kind==18)) else(bif (a5.Kind==19) then(some (a5.Kind==19)) else(some (a5.Kind==20)))) (λx20=>(bif x20 then(Az (Ay (0:Int) a5.Args.length) ((B6 (5:Int) (1:Int) (0:Int) ([(a5.Args.getD (0:Int).toNat (0:Int)),aZ]:Ad) a3 a7 a0 a1).bind λx23=>(Az (0<=(1:Int)/\(1:Int)<=(a5.Args.length:Int)) (Az (([x23.1]:Ad).length+(a5.Args.drop (1:Int).toNat).length<=room) (some (a5.Kind,(([x23.1]:Ad)++(a5.Args.drop (1:Int).toNat)),x23.2.1.Params,x23.2.1.Ret,x23.2.1.Blocks,x23.2.2.1.At,x23.2.2.1.Then,x23.2.2.1.Else,x23.2.2.1.Join,x23.2.2.2.1,x23.2.2.2.2)))))) else(some (a5.Kind,a5.Args,a3.Params,a3.Ret,a3.Blocks,a7.At,a7.Then,a7.Else,a7.Join,a0,a1)))))))) (λ(i1,l2,l3,i4,l5,i6,i7,i8,i9,l10,i11)=>(some ((⟨i1,a5.Bits,a5.Lanes,a5.Dst,l2,a5.Imm⟩:A6),(⟨l3,i4,l5⟩:Aa),(⟨i6,i7,i8,i9⟩:THammock),l10,i11))))
variable{v42:uT}
theorem Tv(h:Ga v6 v1 v0 v37 v7 v11=some v42):sP 165 [(F3 30000),(EM v6),(Aq v1)] (MI v0.Params v0.Ret v0.Blocks v37.At v37.Then v37.Else v37.Join v7 v11 v7.length) (EM v42.1) (MI v42.2.1.Params v42.2.1.Ret v42.2.1.Blocks v42.2.2.1.At v42.2.2.1.Then v42.2.2.1.Else v42.2.2.1.Join v42.2.2.2.1 v42.2.2.2.2 v42.2.2.2.1.length):=
 sG Tryz.func165 λΓ q=>Ag q [0,2,4,6] N8 (tB h λx26 y26 h=>gJ y26 (λ(i1,l2,l3,i4,l5,i6,i7,i8,i9,l10,i11)=>aG Γ .normal (⟨[LH,EL],[(4,.row 51 (kh i1 v6.Bits v6.Lanes v6.Dst l2 v6.Imm)),(6,.row 51 kG),(30000,.row 71 (Z3 l3 i4 l5 i6 i7 i8 i9 l10 i11)),(Td 37007 l10.length)],[]⟩:St)) (λy h=>tW q [0,2,4,6,9] N8 [0,2,4,6,9,10] N8 (gC h (λh=>tC h λc12_ h=>tB h λx13 y13 h=>gR q Sa N8 [(21,(kg v1 (NE v6) x13.1))] [⟨N7,[],(Aq x13.1),(ij (sa x13) x13.2.2.2.1.length),[],[]⟩] (c3 c12_ (show(sP 117 (ux v6) (ij (oY v0 v37 v7 v11) v7.length) (Aq x13.1) (ij (sa x13) x13.2.2.2.1.length)) from(Spec.args (.cons (AVle.refl _) (.cons (AVle.refl _) (.cons (AVle.refl _) (.cons (AVle.refl _) (.cons AM .nil))))) (Ds y13))) (A0 1 Ao (0:Int) ([v1,(NE v6),x13.1]:Ad))) (tS h (gK (B0 (Le.trans (Bs (st':=⟨[LH,EL],[(4,.row 51 [(Od 18),(Aq v6.Bits),(Aq v6.Lanes),(Aq v6.Dst),(kg v1 (NE v6) x13.1),(M4 v6.Imm)]),(6,.row 51 kG),(30000,.row 71 (sa x13)),(Td 37007 x13.2.2.2.1.length)],[]⟩) Sa N8 q) (Ng (.cons (AVle.refl _) (.cons (AVle.refl _) .nil)) (.row (.cons (AVle.refl _) (.cons (AVle.refl _) (.cons (AVle.refl _) (.cons (AVle.refl _) (.cons AVle.untag (.cons (AVle.refl _) .nil)))))) (.same (.same (.same .nil)))))))))) λh=>Ag q [0,2,4,6,9,24] N8 (gC h (λh=>tC h λc14_ h=>tC h λc15_ h=>gR q Sa N8 [(35,(kg v1 (NE v6) (iT v6)))] [] (c3 c14_ c15_ (A0 1 Ao (0:Int) ([v1,(NE v6),(iT v6)]:Ad))) (tS h (gK (B0 (Le.trans (Bs (st':=⟨[LH,EL],[(4,.row 51 [(Od 19),(Aq v6.Bits),(Aq v6.Lanes),(Aq v6.Dst),(kg v1 (NE v6) (iT v6)),(M4 v6.Imm)]),(6,.row 51 kG),(30000,.row 71 (oY v0 v37 v7 v11)),(Td 37007 v7.length)],[]⟩) Sa N8 q) (Ng (.cons (AVle.refl _) (.cons (AVle.refl _) .nil)) (.row (.cons (AVle.refl _) (.cons (AVle.refl _) (.cons (AVle.refl _) (.cons (AVle.refl _) (.cons AVle.untag (.cons (AVle.refl _) .nil)))))) (.same (.same (.same .nil)))))))))) λh=>Ag q [0,2,4,6,9,38] N8 (gC h (λh=>tC h λc16_ h=>tC h λc17_ h=>tB h λx18 y18 h=>gR q Sa N8 [(53,(AV.list 1 Ao 0 ([v1,(NE v6),(iT v6),x18.1]:Ad) .exact))] [⟨N7,[],(Aq x18.1),(ij (sb x18) x18.2.2.2.1.length),[],[]⟩] (c4 c16_ c17_ (show(sP 117 (ux v6) (ij (oY v0 v37 v7 v11) v7.length) (Aq x18.1) (ij (sb x18) x18.2.2.2.1.length)) from(Spec.args (.cons (AVle.refl _) (.cons (AVle.refl _) (.cons (AVle.refl _) (.cons (AVle.refl _) (.cons AM .nil))))) (Ds y18))) (A0 1 Ao (0:Int) ([v1,(NE v6),(iT v6),x18.1]:Ad))) (tS h (gK (B0 (Le.trans (Bs (st':=⟨[LH,EL],[(4,.row 51 [(Od 20),(Aq v6.Bits),(Aq v6.Lanes),(Aq v6.Dst),(AV.list 1 Ao 0 ([v1,(NE v6),(iT v6),x18.1]:Ad) .exact),(M4 v6.Imm)]),(6,.row 51 kG),(30000,.row 71 (sb x18)),(Td 37007 x18.2.2.2.1.length)],[]⟩) Sa N8 q) (Ng (.cons (AVle.refl _) (.cons (AVle.refl _) .nil)) (.row (.cons (AVle.refl _) (.cons (AVle.refl _) (.cons (AVle.refl _) (.cons (AVle.refl _) (.cons AVle.untag (.cons (AVle.refl _) .nil)))))) (.same (.same (.same .nil)))))))))) λh=>tB h λx20 y20 h=>gJ y20 (λb19=>aG Γ .normal (⟨[fl,(2,(Aq v1)),LH,EL,(56,(.bool b19))],[(4,.row 51 (kh v6.Kind v6.Bits v6.Lanes v6.Dst v6.Args v6.Imm)),(6,.row 51 kG),(30000,.row 71 (oY v0 v37 v7 v11)),(Td 37007 v7.length)],[]⟩:St)) (λy h=>Ag q [0,2,4,6,9,56] N8 (gC h (λh=>tS h (gK (B0 (Bs fO N8 q)))) λh=>Ag q [0,2,4,6,9,56] N8 (gC h (λh=>tS h (gK (B0 (Bs fO N8 q)))) λh=>Ag q fO N8 (tS h (gK (B0 Kb)))))) (gA (gC h (λh=>tC h λc22_ h=>tB h λx23 y23 h=>gR q [4,6,7] N8 [(66,(pT (NE v6) v1))] [(pP x23.1 x23.2.1.Params x23.2.1.Ret x23.2.1.Blocks x23.2.2.1.At x23.2.2.1.Then x23.2.2.1.Else x23.2.2.1.Join x23.2.2.2.1 x23.2.2.2.2 x23.2.2.2.1.length)] (c3 c22_ (A0 1 Ao (0:Int) ([(NE v6),v1]:Ad)) (Ds y23)) (tC h λc24_ h=>tC h λc25_ h=>gR q Sa [4,6,73,30000,37007] [(69,(pW x23.1)),(72,(Lo (iU v6))),(73,(AV.list 1 Ao 0 (([x23.1]:Ad)++(iU v6)) (.own 73)))] [] (c7 (A0 1 Ao (0:Int) ([x23.1]:Ad)) c24_ (show(AVle (ue v6.Args) (Lo (iU v6))) from AL) c25_ (show(3=Wv->([x23.1]:Ad).length=0\/0<(iU v6).length) from(λh_=>absurd h_ (by decide))) (Jr 1 73 Ao (0:Int) ([x23.1]:Ad) (iU v6)) (D2 ([x23.1]:Ad) (iU v6))) (tS h (gK (B0 (Bs Sa N8 q)))))) λh=>tS h (gK (B0 (Bs Sa N8 q))))))))) (match x26,h with|⟨i1,l2,l3,i4,l5,i6,i7,i8,i9,l10,i11⟩,h=>gA (Ag q [6] [6,30000,37007] (tS h (Bj N7)))))
abbrev uU:=(Int×Ad×Int×List Ab×Int×Int×Int×Int×List A6×Int)
def Fa(aB:List A6)(a_guard:Int):uU->Option (LR (Int×Ad×Int×List Ab×Int×Int×Int×Int×List A6×Int) (Ad×Int×List Ab×Int×Int×Int×Int×List A6×Int)):=
 λ((i1,l2,i3,l4,i5,i6,i7,i8,l9,i10):uU)=>(bif (decide (i1<(aB.length:Int))) then(Az (Ay i1 aB.length) ((Ga (aB.getD i1.toNat default) a_guard (⟨l2,i3,l4⟩:Aa) (⟨i5,i6,i7,i8⟩:THammock) l9 i10).bind λx21=>(Az (x21.2.2.2.1.length+([(⟨x21.1.Kind,x21.1.Bits,x21.1.Lanes,x21.1.Dst,x21.1.Args,x21.1.Imm⟩:A6)]:List A6).length<=room) (some (.next ((A3 (i1+1)),x21.2.1.Params,x21.2.1.Ret,x21.2.1.Blocks,x21.2.2.1.At,x21.2.2.1.Then,x21.2.2.1.Else,x21.2.2.1.Join,(x21.2.2.2.1++([(⟨x21.1.Kind,x21.1.Bits,x21.1.Lanes,x21.1.Dst,x21.1.Args,x21.1.Imm⟩:A6)]:List A6)),x21.2.2.2.2)))))) else(some (.done (l2,i3,l4,i5,i6,i7,i8,l9,i10))))
def oZ(x21:uT):=([(⟨x21.1.Kind,x21.1.Bits,x21.1.Lanes,x21.1.Dst,x21.1.Args,x21.1.Imm⟩:A6)]:List A6)
abbrev rR:=(Aa×THammock×List A6×Int)
def Dq(aB:List A6)(a_guard:Int)(a3:Aa)(a7:THammock)(a0:List A6)(a1:Int):Option rR:=
 ((Af (Fa aB a_guard) ((0:Int),a3.Params,a3.Ret,a3.Blocks,a7.At,a7.Then,a7.Else,a7.Join,a0,a1)).bind (λ(l11,i12,l13,i14,i15,i16,i17,l18,i19)=>(some ((⟨l11,i12,l13⟩:Aa),(⟨i14,i15,i16,i17⟩:THammock),l18,i19))))
variable{v43:rR}
theorem Mz(h:Dq v7 v1 v0 v37 v39 v11=some v43):sP 114 [(F3 30000),(TJ v7),(Aq v1)] (MI v0.Params v0.Ret v0.Blocks v37.At v37.Then v37.Else v37.Join v39 v11 v39.length) (.tuple []) (MI v43.1.Params v43.1.Ret v43.1.Blocks v43.2.1.At v43.2.1.Then v43.2.1.Else v43.2.1.Join v43.2.2.1 v43.2.2.2 v43.2.2.1.length):=
 sG Tryz.func114 λΓ q=>Ag q YW E3 (tL q h YW E3 (λu (i1,l2,i3,l4,i5,i6,i7,i8,l9,i10)=>(Dv u [(Db 10 i1)] (MI l2 i3 l4 i5 i6 i7 i8 l9 i10 l9.length))) (λu (l11,i12,l13,i14,i15,i16,i17,l18,i19)=>aG Γ (.exit 0) (⟨[],(MI l11 i12 l13 i14 i15 i16 i17 l18 i19 l18.length),[]⟩:St)) (λ⟨i1,l2,i3,l4,i5,i6,i7,i8,l9,i10⟩ y h=>Ag q [0,2,8,9,10,11] E3 (gC h (λh=>tV q [0,2,7,8,9,10] [7,30000,37007] h λh=>tB h λx21 y21 h=>tT q [0,2,7,8,9,10] [7,30000,37007] [⟨N7,[],(EM x21.1),(MI x21.2.1.Params x21.2.1.Ret x21.2.1.Blocks x21.2.2.1.At x21.2.2.1.Then x21.2.2.1.Else x21.2.2.1.Join x21.2.2.2.1 x21.2.2.2.2 x21.2.2.2.1.length),[],[]⟩] (c1 (Tv y21)) (tC h λc22_ h=>gR q YW E3 (vZ 24 (oZ x21) 25 x21.2.2.2.1) [] (c5 (A0 6 Io (default:A6) (oZ x21)) (Eq.refl x21.2.2.2.1.length) c22_ (Jr 6 37007 Io (default:A6) x21.2.2.2.1 (oZ x21)) (D2 x21.2.2.2.1 (oZ x21))) (Ag q YW E3 (tN h)))) λh=>tS h (gO (B0 (Bs [] E3 q))))) λx23 h=>(match x23,h with|⟨l11,i12,l13,i14,i15,i16,i17,l18,i19⟩,h=>bL (λst' hl24=>tS h (gK (e:=.normal) (Hd N7 hl24)))))
def Sv(aV:Int):Option Bool:=
 (Option.bind (α:=Bool) (bif (aV==4) then(some (aV==4)) else(bif (aV==16) then(some (aV==16)) else(bif (aV==17) then(some (aV==17)) else(bif (aV==18) then(some (aV==18)) else(bif (aV==19) then(some (aV==19)) else(some (aV==20))))))) (λx2=>(bif x2 then(some false) else((L1 aV).bind λx4=>(some x4)))))
theorem XR(h:Sv v1=some v3):sP 166 [(Aq v1)] [] (.bool v3) []:=
 sG Tryz.func166 λΓ q=>tW q [0] [] Ln [] (tB h λx2 y2 h=>gJ y2 (λb1=>aG Γ .normal (⟨[(0,(Aq v1)),(4,(.bool b1))],[],[]⟩:St)) (λy h=>Ag q F1 [] (gC h (λh=>tS h (gK (B0 (Bs Mt [] q)))) λh=>Ag q F1 [] (gC h (λh=>tS h (gK (B0 (Bs Mt [] q)))) λh=>Ag q F1 [] (gC h (λh=>tS h (gK (B0 (Bs Mt [] q)))) λh=>Ag q F1 [] (gC h (λh=>tS h (gK (B0 (Bs Mt [] q)))) λh=>Ag q F1 [] (gC h (λh=>tS h (gK (B0 (Bs Mt [] q)))) λh=>Ag q Mt [] (tS h (gK (B0 Kb))))))))) (gA (gC h (λh=>Ag q [2] [] (tS h (Bj []))) λh=>tB h λx4 y4 h=>tT q [2] [] [(Z9 x4)] (c1 (Zc y4)) (tS h (Bj [])))))
def Lr(a2:A6):Option Bool:=
 ((Sv a2.Kind).bind λx1=>(some (!x1)))
theorem Y9(h:Lr v6=some v3):sP 116 [(EM v6)] [] (.bool v3) []:=
 sG Tryz.func116 λΓ q=>Ag q [1] [1] (tB h λx1 y1 h=>tT q [2] [] [(Z9 x1)] (c1 (XR y1)) (tS h (Bj [])))
def m_slices_IndexFunc_api_Op_api_Op_v2_L1(aP:List A6):Int->Option (LR Int (Unit ⊕ Int)):=
 λ(i1:Int)=>(bif (decide (i1<(aP.length:Int))) then(Az (Ay i1 aP.length) ((Lr (aP.getD i1.toNat default)).bind λx3=>(bif x3 then(some (.done (.inr i1))) else(some (.next (A3 (i1+1))))))) else(some (.done (.inl ()))))
def Lx(Γ:G8)(aP:List A6)(r:Int):Exit->St->Prop:=fK Tryz.prog Γ Tryz.f113.results.toList [] (.int .i64 r) []
def D9(aP:List A6):Option Int:=
 ((Af (m_slices_IndexFunc_api_Op_api_Op_v2_L1 aP) (0:Int)).bind (λx4=>(match x4 with|(.inl _)=>(some (-1:Int))|(.inr r6)=>(some r6))))
theorem Lt(h:D9 v7=some v1):sP 113 [(TJ v7),(Sb 116)] [] (.int .i64 v1) []:=
 sG Tryz.func113 λΓ q=>tW q Cy [] GU [] (tL q h GU [] (λu i1=>(Dv u [(8,(Aq i1))] [])) (λu x_=>match x_ with|(.inl _)=>aG Γ (.exit 0) (⟨[],[],[]⟩:St)|(.inr r_)=>aR (Lx Γ v7 r_)) (λi1 y h=>Ag q fS [] (gC h (λh=>Ag q fT [] (tC h λc2_ h=>tB h λx3 y3 h=>tT q fF [] [(Z9 x3)] (c2 c2_ (Y9 y3)) (gC h (λh=>Ag q [4] [] (tS h (gO (Oa (Hd [] (Le.refl _ _)))))) λh=>Ag q GU [] (tN h)))) λh=>tS h (gO (B0 (Bs [] [] q))))) λx4 h=>(match x4,h with | .inl _,h=>gA (Ag q [4] [] (tS h (Bj []))) | .inr r6,h=>gAr (λst' hk=>tS h (gK hk))))
def Ca(aP:List A6):Option Bool:=
 ((D9 aP).bind λx1=>(some (decide ((0:Int)<=x1))))
theorem J3(h:Ca v7=some v3):sP 60 [(TJ v7),(Sb 116)] [] (.bool v3) []:=
 sG Tryz.func60 λΓ q=>Ag q Cy [] (tB h λx1 y1 h=>tT q [4] [] [(MJ x1)] (c1 (Lt y1)) (tS h (Bj [])))
def oa(x2:rR):List AV:=(Z3 x2.1.Params x2.1.Ret x2.1.Blocks x2.2.1.At x2.2.1.Then x2.2.1.Else x2.2.1.Join x2.2.2.1 x2.2.2.2)
def uz(a3:Aa)(a7:THammock)(a0:List A6)(a1:Int):List AV:=(Z3 a3.Params a3.Ret a3.Blocks a7.At a7.Then a7.Else a7.Join a0 a1)
def uy(x15:jv):List U8:=(MI x15.2.1.Params x15.2.1.Ret x15.2.1.Blocks x15.2.2.1.At x15.2.2.1.Then x15.2.2.1.Else x15.2.2.1.Join x15.2.2.2.1 x15.2.2.2.2 x15.2.2.2.1.length)
def Ft(aa9:Int)(a3:Aa)(a7:THammock)(a0:List A6)(a1:Int):Option rR:=
 ((El a7.Then a3 a7 a0 a1).bind λx1=>((Dq x1 aa9 a3 a7 a0 a1).bind λx2=>((El x2.2.1.Else x2.1 x2.2.1 x2.2.2.1 x2.2.2.2).bind λx3=>(Option.bind (α:=uU) ((Ca x3).bind λx14=>(bif x14 then((B6 (0:Int) (1:Int) (1:Int) ([]:Ad) x2.1 x2.2.1 x2.2.2.1 x2.2.2.2).bind λx15=>((B6 (7:Int) (1:Int) (0:Int) ([aa9,x15.1]:Ad) x15.2.1 x15.2.2.1 x15.2.2.2.1 x15.2.2.2.2).bind λx16=>(some (x16.1,x16.2.1.Params,x16.2.1.Ret,x16.2.1.Blocks,x16.2.2.1.At,x16.2.2.1.Then,x16.2.2.1.Else,x16.2.2.1.Join,x16.2.2.2.1,x16.2.2.2.2)))) else(some ((0:Int),x2.1.Params,x2.1.Ret,x2.1.Blocks,x2.2.1.At,x2.2.1.Then,x2.2.1.Else,x2.2.1.Join,x2.2.2.1,x2.2.2.2)))) (λ(i4,l5,i6,l7,i8,i9,i10,i11,l12,i13)=>((Dq x3 i4 (⟨l5,i6,l7⟩:Aa) (⟨i8,i9,i10,i11⟩:THammock) l12 i13).bind λx19=>(some (x19.1,x19.2.1,x19.2.2.1,x19.2.2.2))))))))
theorem Sg(h:Ft v1 v0 v37 v7 v11=some v43):sP 63 (oK v1) (MI v0.Params v0.Ret v0.Blocks v37.At v37.Then v37.Else v37.Join v7 v11 v7.length) (.tuple []) (MI v43.1.Params v43.1.Ret v43.1.Blocks v43.2.1.At v43.2.1.Then v43.2.1.Else v43.2.1.Join v43.2.2.1 v43.2.2.2 v43.2.2.1.length):=
 sG Tryz.func63 λΓ q=>tB h λx1 y1 h=>tB h λx2 y2 h=>tT q Cy E3 [⟨N7,[],(TJ x1),(ij (uz v0 v37 v7 v11) v7.length),[],E3⟩,⟨N7,[],(.tuple []),(ij (oa x2) x2.2.2.1.length),[],[]⟩] (ci (L2 y1) (gw [(.row 71 (uz v0 v37 v7 v11)),(.tok 6 51 v7.length)] (c1 (Mz y2)))) (tB h λx3 y3 h=>tT q JG E3 [⟨N7,[],(TJ x3),(ij (oa x2) x2.2.2.1.length),[],E3⟩] (ci (L2 y3) (Qe [(.row 71 (oa x2)),(.tok 6 51 x2.2.2.1.length)])) (Ag q ZH E3 (tB h λx17 y17 h=>gJ y17 (λ(i4,l5,i6,l7,i8,i9,i10,i11,l12,i13)=>aG Γ .normal (⟨[fl,(4,(TJ x3)),(5,(Aq i4))],(MI l5 i6 l7 i8 i9 i10 i11 l12 i13 l12.length),[]⟩:St)) (λy h=>tB h λx14 y14 h=>tT q [0,1,4,5,24] E3 [(Z9 x14)] (c1 (J3 y14)) (gC h (λh=>tB h λx15 y15 h=>tB h λx16 y16 h=>gR q [0,4,5] E3 [(29,(pT v1 x15.1))] [(pQ 37007 x15.1 (uy x15)),(pP x16.1 x16.2.1.Params x16.2.1.Ret x16.2.1.Blocks x16.2.2.1.At x16.2.2.1.Then x16.2.2.1.Else x16.2.2.1.Join x16.2.2.2.1 x16.2.2.2.2 x16.2.2.2.1.length)] (c3 (show(sP 117 [(F3 30000),In,ZT,(.int .u64 (1:Int)),tD] (ij (oa x2) x2.2.2.1.length) (Aq x15.1) (uy x15)) from(Spec.args (.cons (AVle.refl _) (.cons (AVle.refl _) (.cons (AVle.refl _) (.cons (AVle.refl _) (.cons AM .nil))))) (Ds y15))) (A0 1 Ao (0:Int) ([v1,x15.1]:Ad)) (Ds y16)) (tS h (gK (B0 Kb)))) λh=>tS h (gK (B0 (Bs [0,4,5] E3 q))))) (match x17,h with|⟨i4,l5,i6,l7,i8,i9,i10,i11,l12,i13⟩,h=>gA (tB h λx19 y19 h=>tT q [] E3 [⟨N7,[],(.tuple []),(MI x19.1.Params x19.1.Ret x19.1.Blocks x19.2.1.At x19.2.1.Then x19.2.1.Else x19.2.1.Join x19.2.2.1 x19.2.2.2 x19.2.2.1.length),[],[]⟩] (c1 (Mz y19)) (tS h (gK (e:=.normal) (Hd N7 (Le.refl _ _)))))))))
def Fd(a_between:Int)(a3:Aa)(a7:THammock)(a0:List A6)(a1:Int):Option Int:=
 (bif (a_between==-1) then(some a7.At) else(some a_between))
theorem Ny(h:Fd v1 v0 v37 v7 v11=some v20):sP 118 (oK v1) (MI v0.Params v0.Ret v0.Blocks v37.At v37.Then v37.Else v37.Join v7 v11 v7.length) (.int .i64 v20) (MI v0.Params v0.Ret v0.Blocks v37.At v37.Then v37.Else v37.Join v7 v11 v7.length):=
 sG Tryz.func118 λΓ q=>tW q Cy E3 JF E3 (gC h (λh=>Ag q [4] E3 (tS h (Bj N7))) λh=>Ag q [4] E3 (tS h (Bj N7)))
def Pj(aQ:Bb)(aK:Int):Option Int:=
 ((Cw aQ.From aK).bind λx1=>(Az (Ay x1 aQ.Args.length) (some (aQ.Args.getD x1.toNat 0))))
variable{v4:Bb}
theorem FV(h:Pj v4 v1=some v11):sP 120 [(.agg (Fz v4)),(Aq v1)] [] (.int .i64 v11) []:=
 sG Tryz.func120 λΓ q=>Ag q R9 [2] (tB h λx1 y1 h=>tC h λc2_ h=>tT q [4] [] [(MJ x1)] (c2 (Ij y1) c2_) (tS h (Bj [])))
def Gn(aE:Int)(aa9:Int)(aaW:Int)(aaY:Int)(a3:Aa)(a7:THammock)(a0:List A6)(a1:Int):Option jv:=
 (bif (aaW==aaY) then(some (aaW,a3,a7,a0,a1)) else((B6 (13:Int) aE (0:Int) ([aa9,aaW,aaY]:Ad) a3 a7 a0 a1).bind λx1=>(some (x1.1,x1.2.1,x1.2.2.1,x1.2.2.2.1,x1.2.2.2.2))))
variable{v44:Int}
theorem Ur(h:Gn v1 v11 v20 v40 v0 v37 v7 v44=some v41):sP 119 [(F3 30000),(Aq v1),(Aq v11),(Aq v20),(Aq v40)] (MI v0.Params v0.Ret v0.Blocks v37.At v37.Then v37.Else v37.Join v7 v44 v7.length) (Aq v41.1) (MI v41.2.1.Params v41.2.1.Ret v41.2.1.Blocks v41.2.2.1.At v41.2.2.1.Then v41.2.2.1.Else v41.2.2.1.Join v41.2.2.2.1 v41.2.2.2.2 v41.2.2.2.1.length):=
 sG Tryz.func119 λΓ q=>tW q fV E3 [0,1,2,3,4,13] E3 (gC h (λh=>Ag q [10] E3 (tS h (Bj N7))) λh=>tB h λx1 y1 h=>gR q [10] E3 [(20,(kg v11 v20 v40))] [(pP x1.1 x1.2.1.Params x1.2.1.Ret x1.2.1.Blocks x1.2.2.1.At x1.2.2.1.Then x1.2.2.1.Else x1.2.2.1.Join x1.2.2.2.1 x1.2.2.2.2 x1.2.2.2.1.length)] (c2 (A0 1 Ao (0:Int) ([v11,v20,v40]:Ad)) (Ds y1)) (tS h (Bj N7)))
def Md(aC:Int):Option Bool:=
 (some (aC !=aC))
theorem Un(h:Md v1=some v3):sP 228 [(Aq v1)] [] (.bool v3) []:=
 sG Tryz.func228 λΓ q=>tW q [0] [] [2] [] (tS h (Bj []))
def Rf(aC:Int)(aaA:Int):Option Bool:=
 ((Md aC).bind λx1=>((bif (x1==true) then Md aaA else some false).bind λx2=>(some (bif (bif x1 then(!x2) else false) then true else(decide (aC<aaA))))))
theorem LK(h:Rf v1 v11=some v3):sP 198 [(Aq v1),(Aq v11)] [] (.bool v3) []:=
 sG Tryz.func198 λΓ q=>Ag q Cy [] (tB h λx1 y1 h=>tB h λx2 y2 h=>tT q [4] [] [(Z9 x1),(Z9 x2)] (yA (Un y1) (gI (x1==true)) (λ(hg:(x1==true)=true)=>(Un (B4 hg y2))) (gI (x1==true)) (O9 x1) (Qy ((bif x1 then(!x2) else false)==false) (c1 (Pv (bif x1 then(!x2) else false))))) (tS h (Bj [])))
def Jb(aC:Int):Option Bool:=
 (some (aC !=aC))
theorem Qd(h:Jb v1=some v3):sP 199 [(Aq v1)] [] (.bool v3) []:=
 sG Tryz.func199 λΓ q=>tW q [0] [] [2] [] (tS h (Bj []))
def Bu(aC:Ad)(aa6:Int):G2->Option rQ:=
 λ((i1,i2):G2)=>(bif (decide (i1<i2)) then(Az (Ay (A3 (R3 .u64 (Du (A3 (i1+i2))) (1:Int))) aC.length) ((Rf (aC.getD (A3 (R3 .u64 (Du (A3 (i1+i2))) (1:Int))).toNat (0:Int)) aa6).bind λx5=>(bif x5 then(some (.next ((A3 ((A3 (R3 .u64 (Du (A3 (i1+i2))) (1:Int)))+1)),i2))) else(some (.next (i1,(A3 (R3 .u64 (Du (A3 (i1+i2))) (1:Int))))))))) else(some (.done i1)))
def kH(x6:Int)(aC:Ad):=((decide (x6<(aC.length:Int)))==true)
def SA(x6:Int)(aC:Ad)(aa6:Int):=((kH x6 aC)&&(((aC.getD x6.toNat 0)==aa6)==false))
def D4(aC:Ad)(aa6:Int):Option (Int×Bool):=
 ((Af (Bu aC aa6) ((0:Int),(aC.length:Int))).bind (λx6=>(Az (((decide (x6<(aC.length:Int)))==true)=true->(Ay x6 aC.length)) (Az ((((decide (x6<(aC.length:Int)))==true)&&(((aC.getD x6.toNat 0)==aa6)==false))=true->(Ay x6 aC.length)) ((bif (((decide (x6<(aC.length:Int)))==true)&&(((aC.getD x6.toNat 0)==aa6)==false)) then Jb (aC.getD x6.toNat 0) else some false).bind λx10=>((bif ((((decide (x6<(aC.length:Int)))==true)&&(((aC.getD x6.toNat 0)==aa6)==false))&&(x10==true)) then Jb aa6 else some false).bind λx11=>(some (x6,(bif (decide (x6<(aC.length:Int))) then(bif ((aC.getD x6.toNat 0)==aa6) then true else(bif x10 then x11 else false)) else false)))))))))
variable{v45:(Int×Bool)}
theorem Oz(h:D4 v2 v1=some v45):sP 167 [(Lo v2),(Aq v1)] [] (.tuple [(Aq v45.1),(.bool v45.2)]) []:=
 sG Tryz.func167 λΓ q=>tW q Cy [] JF [] (Ag q RH [] (tL q h RH [] (λu (i1,i2)=>(Dv u [(7,(Aq i1)),(8,(Aq i2))] [])) (λu i3=>aG Γ (.exit 0) (V4 RK [] u [(7,(Aq i3))] [])) (λ⟨i1,i2⟩ y h=>Ag q [0,1,6,7,8,15] [] (gC h (λh=>tU q [0,1,6,7,8,9] [] (c1 (show(0<=(1:Int)) from(by decide))) (tC h λc4_ h=>tB h λx5 y5 h=>tT q [0,1,6,7,8,9,27] [] [(Z9 x5)] (c2 c4_ (LK y5)) (gC h (λh=>Ag q RH [] (tN h)) λh=>Ag q RH [] (tN h)))) λh=>tS h (gO (B0 (Bs RK [] q))))) λx6 h=>gA (tC h λc8_ h=>tC h λc9_ h=>tB h λx10 y10 h=>tB h λx11 y11 h=>tT q Gx [] [(Z9 x10),(Z9 x11)] (Qy (kH x6 v2) (ci c8_ (tk (kH x6 v2) (Qy (SA x6 v2 v1) (ci c9_ (Qy (SA x6 v2 v1) (c9 (λ(hg:(SA x6 v2 v1)=true)=>(Qd (B4 hg y10))) (gI (SA x6 v2 v1)) (gI ((SA x6 v2 v1)&&(x10==true))) (λ(hg:((SA x6 v2 v1)&&(x10==true))=true)=>(Qd (B4 hg y11))) (gI (SA x6 v2 v1)) (show((SA x6 v2 v1)=true->(x10=true->((SA x6 v2 v1)&&(x10==true))=true)) from(λhg=>(aT hg))) (gI (kH x6 v2)) (show((kH x6 v2)=true->(((v2.getD x6.toNat 0)==v1)=false->(SA x6 v2 v1)=true)) from(λhg=>(aF hg))) (O9 (decide (x6<(v2.length:Int))))))))))) (tS h (Bj [])))))
open Go Go.RowKit
set_option maxRecDepth 100000
set_option maxHeartbeats 2000000
def Ie(aQ:Bb)(a5:Int)(aZ:Int):(Int×Ad×Ad)->Option (LR (Int×Ad×Ad) (Ad×Ad)):=
 λ((i1,l2,l3):(Int×Ad×Ad))=>(bif (decide (i1<(aQ.From.length:Int))) then(Option.bind (α:=jt) (Az (Ay i1 aQ.From.length) (bif (bif ((aQ.From.getD i1.toNat 0)!=a5) then((aQ.From.getD i1.toNat 0)!=aZ) else false) then(Az (l2.length+([(aQ.From.getD i1.toNat 0)]:Ad).length<=room) (Az (Ay i1 aQ.Args.length) (Az (l3.length+([(aQ.Args.getD i1.toNat 0)]:Ad).length<=room) (some ((l2++([(aQ.From.getD i1.toNat 0)]:Ad)),(l3++([(aQ.Args.getD i1.toNat 0)]:Ad))))))) else(some (l2,l3)))) (λ(l6,l7)=>(some (.next ((A3 (i1+1)),l6,l7))))) else(some (.done (l2,l3))))
def kJ(x19:(Ad×Ad×Ad)):=(λi=>Ao (x19.2.1.getD i 0))
def kI:AV:=ks
def ZK(aQ:Bb)(i1:Int):=([(aQ.Args.getD i1.toNat 0)]:Ad)
def ZL(aQ:Bb)(i1:Int):=([(aQ.From.getD i1.toNat 0)]:Ad)
def od:List AV:=[In,In,SD,SD]
def oc(aQ:Bb):List AV:=[(Aq aQ.Bits),(Aq aQ.Dst),(Lo aQ.From),(Lo aQ.Args)]
def u0(a5:Int)(aZ:Int)(aa7:Int)(aaL:Int)(aQ:Bb):=(⟨[(1,(Aq a5)),(2,(Aq aZ)),(3,(Aq aa7)),(4,(Aq aaL)),GY,(10,(.ptr 10 0)),(11,(.vsl 36011 ([]:Ad).length)),(12,(.vsl 36012 ([]:Ad).length)),(18,(Lo aQ.From)),(19,(Od aQ.From.length)),(20,In)],[(5,.row 56 (oc aQ)),(10,.row 56 od),(xx 36011),(xx 36012)],[]⟩:St)
def K6(aQ:Bb)(a5:Int)(aZ:Int)(aa7:Int)(aaL:Int):Option Bb:=
 ((Af (Ie aQ a5 aZ) ((0:Int),([]:Ad),([]:Ad))).bind (λ(l4,l5)=>((D4 l4 aa7).bind λx16=>((Zs l4 x16.1 [aa7]).bind λx17=>(Az (1=x17.2.2.length) ((Zs l5 x16.1 [aaL]).bind λx19=>(Az (1=x19.2.2.length) (some (⟨aQ.Bits,aQ.Dst,x17.2.1,x19.2.1⟩:Bb)))))))))
variable{v46:Bb}
theorem FW(h:K6 v4 v1 v11 v20 v40=some v46):sP 121 [(.agg (Fz v4)),(Aq v1),(Aq v11),(Aq v20),(Aq v40)] [] (.agg (Fz v46)) []:=
 sG Tryz.func121 λΓ q=>have hΓ:=q.own;Ag q [1,2,3,4,5,10] [5,10] (gR q [1,2,3,4,5,10,11,12] [5,10] [(11,kI),(12,kI)] [] (c2 (Be 1 Ao (0:Int)) (Be 1 Ao (0:Int))) (Ag q KW [5,10] (Ka (st':=(u0 v1 v11 v20 v40 v4)) (Le.trans (Bs (st':=⟨[(1,(Aq v1)),(2,(Aq v11)),(3,(Aq v20)),(4,(Aq v40)),GY,(10,(.ptr 10 0)),(11,kI),(12,kI),(18,(Lo v4.From)),(19,(Od v4.From.length)),(20,In)],[(5,.row 56 (oc v4)),(10,.row 56 od)],[]⟩) KW [5,10] q) (Le.trans (Le.trans (OM (t:=11) (nm:=36011) (sz':=1) (λi=>Ao (([]:Ad).getD i 0)) 3 rfl rfl) (Bs (st':=⟨[(1,(Aq v1)),(2,(Aq v11)),(3,(Aq v20)),(4,(Aq v40)),GY,(10,(.ptr 10 0)),(11,(.vsl 36011 ([]:Ad).length)),(12,kI),(18,(Lo v4.From)),(19,(Od v4.From.length)),(20,In)],[(5,.row 56 (oc v4)),(10,.row 56 od),(xx 36011)],[]⟩) KW [5,10,36011] q)) (Le.trans (OM (t:=12) (nm:=36012) (sz':=1) (λi=>Ao (([]:Ad).getD i 0)) 3 rfl rfl) (Bs (st':=(u0 v1 v11 v20 v40 v4)) KW Qj q)))) (tL q h KW Qj (λu (i1,l2,l3)=>(Dv u [(11,(.vsl 36011 l2.length)),(12,(.vsl 36012 l3.length)),(Db 20 i1)] [(Tb 36011 l2),(Tb 36012 l3)])) (λu (l4,l5)=>aG Γ (.exit 0) (V4 [3,4,5,10,11,12] Qj u [(11,(.vsl 36011 l4.length)),(12,(.vsl 36012 l5.length))] [(Tb 36011 l4),(Tb 36012 l5)])) (λ⟨i1,l2,l3⟩ y h=>Ag q [1,2,3,4,5,10,11,12,18,19,20,21] Qj (gC h (λh=>tB h λx12 y12 h=>gJ y12 (λ(l6,l7)=>aG Γ .normal (⟨[(1,(Aq v1)),(2,(Aq v11)),(3,(Aq v20)),(4,(Aq v40)),GY,(10,(.ptr 10 0)),(11,(.vsl 36011 l6.length)),(12,(.vsl 36012 l7.length)),(18,(Lo v4.From)),(19,(Od v4.From.length)),(Db 20 i1)],[(5,.row 56 (oc v4)),(10,.row 56 od),(Tb 36011 l6),(Tb 36012 l7)],[]⟩:St)) (λy h=>tV q [1,2,3,4,5,10,11,12,13,14,18,19,20] Qj h λh=>tU q [1,2,3,4,5,10,11,12,13,14,18,19,20,32] Qj (Qy (((v4.From.getD i1.toNat 0)!=v1)==true) (c1 (O9 ((v4.From.getD i1.toNat 0)!=v1)))) (gC h (λh=>tC h λc9_ h=>tC h λc10_ h=>tC h λc11_ h=>gR q KW Qj [(35,(pY (ZL v4 i1))),(43,(pY (ZK v4 i1)))] [] (c7 (A0 1 Ao (0:Int) (ZL v4 i1)) (Eq.refl l2.length) c9_ c10_ (A0 1 Ao (0:Int) (ZK v4 i1)) (Eq.refl l3.length) c11_) (tS h (gK (B0 (Le.trans (Le.trans (Pa 36011 (show ∀ k_,k_<(l2.length+(ZL v4 i1).length)->AVleL ((λi_=>AV.eraseAll (λn_=>Bp n_ Qj) ((K2 l2.length (λi=>Ao (l2.getD i 0)) (λi=>Ao ((ZL v4 i1).getD i 0))) i_)) k_) ((λi=>Ao ((l2++(ZL v4 i1)).getD i 0)) k_) from(A8 (D2 _ _) (λk_ hk_=>(Bn (AV.eraseAll (λn_=>Bp n_ Qj)) ((T7 (λ_ _=>rfl) (λ_ _=>rfl)) k_ hk_)).trans rfl)))) (Le.trans (Pb (λ(k_:Nat) u=>(Dv u [(11,(.vsl 36011 k_))] [(36011,.arr 1 3 k_ (λi=>Ao ((l2++(ZL v4 i1)).getD i 0)))])) (show(l2.length+(ZL v4 i1).length)=(l2++(ZL v4 i1)).length from(D2 _ _))) (Le.trans (Pa 36012 (show ∀ k_,k_<(l3.length+(ZK v4 i1).length)->AVleL ((λi_=>AV.eraseAll (λn_=>Bp n_ Qj) ((K2 l3.length (λi=>Ao (l3.getD i 0)) (λi=>Ao ((ZK v4 i1).getD i 0))) i_)) k_) ((λi=>Ao ((l3++(ZK v4 i1)).getD i 0)) k_) from(A8 (D2 _ _) (λk_ hk_=>(Bn (AV.eraseAll (λn_=>Bp n_ Qj)) ((T7 (λ_ _=>rfl) (λ_ _=>rfl)) k_ hk_)).trans rfl)))) (Pb (λ(k_:Nat) u=>(Dv u [(12,(.vsl 36012 k_))] [(36012,.arr 1 3 k_ (λi=>Ao ((l3++(ZK v4 i1)).getD i 0)))])) (show(l3.length+(ZK v4 i1).length)=(l3++(ZK v4 i1)).length from(D2 _ _)))))) Kb))))) λh=>tS h (gK (B0 (Bs KW Qj q))))) (match x12,h with|⟨l6,l7⟩,h=>gA (Ag q KW Qj (tN h)))) λh=>tS h (gO (B0 (Bs [3,4,5,10,11,12] Qj q))))) λx14 h=>(match x14,h with|⟨l4,l5⟩,h=>gA (tB h λx16 y16 h=>tT q [3,4,5,10,11,12,15] Qj [⟨[],[],(.tuple [(Aq x16.1),(.bool x16.2)]),[],[36011],[]⟩] (c3 (Oz y16) (show(JR []) from trivial) (Eq.refl l4.length)) (tB h λx17 y17 h=>tC h λc18_ h=>tB h λx19 y19 h=>tC h λc20_ h=>gR q [5,10] Qj [(55,(.vsl 55 1)),(60,(.vsl 60 1))] [⟨ng,[],(.vsl 34000 x17.2.1.length),[(Tb 34000 x17.2.1),(Tb 34002 x17.2.2)],[],[]⟩,⟨nh,[],(.vsl 34000 x19.2.1.length),[(34000,.arr 1 3 x19.2.1.length (kJ x19)),(Tb 34002 x19.2.2)],[],[]⟩] (c2 (QJ l4 x16.1 [v20] x17 y17 (λi_=>AV.renAll ng ((λi_=>([(Aq v20)].drop (i_*1)).take 1) i_)) (XZ (n:=0) eM rfl)) (QJ l5 x16.1 [v40] x19 y19 (λi_=>AV.renAll nh ((λi_=>([(Aq v40)].drop (i_*1)).take 1) i_)) (XZ (n:=0) eM rfl))) (Ag q [10] [10,36011,36012] (O8 (⟨[(10,(.ptr 10 0))],[(10,.row 56 [(Aq v4.Bits),(Aq v4.Dst),(.vsl 36011 x17.2.1.length),(.vsl 36012 x19.2.1.length)]),(Tb 36011 x17.2.1),(36012,.arr 1 3 x19.2.1.length (kJ x19))],[]⟩:St) (tS h (gK (e:=.ret) (Hd [] (Le.trans (Le.trans (Fg (nm:=36011) (sz:=1) (n:=x17.2.1.length) (e:=3) (f:=(λi=>Ao (x17.2.1.getD i 0))) (g:=(λi=>Ao (x17.2.1.getD i 0))) rfl ⟨rfl,trivial⟩ (λ_ _=>rfl) (by rw[hΓ];rfl)) (Kc (st':=⟨[(10,(.ptr 10 0))],[(10,.row 56 [(Aq v4.Bits),(Aq v4.Dst),(WO x17.2.1 36011),(.vsl 36012 x19.2.1.length)]),(36011,.tok 1 3 x17.2.1.length),(36012,.arr 1 3 x19.2.1.length (kJ x19))],[]⟩) (by kernel_rfl))) (Le.trans (Fg (nm:=36012) (sz:=1) (n:=x19.2.1.length) (e:=3) (f:=(kJ x19)) (g:=(kJ x19)) rfl ⟨rfl,trivial⟩ (λ_ _=>rfl) (by rw[hΓ];rfl)) (Kc (st':=⟨[(10,(.ptr 10 0))],[(10,.row 56 [(Aq v4.Bits),(Aq v4.Dst),(WO x17.2.1 36011),(WO x19.2.1 36012)]),(36011,.tok 1 3 x17.2.1.length),(36012,.tok 1 3 x19.2.1.length)],[]⟩) (by kernel_rfl))))))))))))))))
abbrev wg:=(List Bb×Int×Ad×Int×List Ab×Int×Int×Int×Int×List A6×Int)
def Gq(a5:Int)(a3:Aa)(a7:THammock)(x1:Int)(x2:Int):wg->Option (LR (List Bb×Int×Ad×Int×List Ab×Int×Int×Int×Int×List A6×Int) (List Bb×Ad×Int×List Ab×Int×Int×Int×Int×List A6×Int)):=
 λ((l4,i5,l6,i7,l8,i9,i10,i11,i12,l13,i14):wg)=>(bif (decide (i5<(((a3.Blocks.getD (a7.Join).toNat (default:Ab)).Phis).length:Int))) then(Az (Ay i5 ((a3.Blocks.getD (a7.Join).toNat (default:Ab)).Phis).length) ((Pj (((a3.Blocks.getD (a7.Join).toNat (default:Ab)).Phis).getD i5.toNat default) x1).bind λx26=>((Pj (((a3.Blocks.getD (a7.Join).toNat (default:Ab)).Phis).getD i5.toNat default) x2).bind λx27=>((Gn ((((a3.Blocks.getD (a7.Join).toNat (default:Ab)).Phis).getD i5.toNat default).Bits) a5 x26 x27 (⟨l6,i7,l8⟩:Aa) (⟨i9,i10,i11,i12⟩:THammock) l13 i14).bind λx28=>((K6 (((a3.Blocks.getD (a7.Join).toNat (default:Ab)).Phis).getD i5.toNat default) x1 x2 x28.2.2.1.At x28.1).bind λx29=>(Az (l4.length+([(⟨x29.Bits,x29.Dst,x29.From,x29.Args⟩:Bb)]:List Bb).length<=room) (some (.next ((l4++([(⟨x29.Bits,x29.Dst,x29.From,x29.Args⟩:Bb)]:List Bb)),(A3 (i5+1)),x28.2.1.Params,x28.2.1.Ret,x28.2.1.Blocks,x28.2.2.1.At,x28.2.2.1.Then,x28.2.2.1.Else,x28.2.2.1.Join,x28.2.2.2.1,x28.2.2.2.2))))))))) else(some (.done (l4,l6,i7,l8,i9,i10,i11,i12,l13,i14))))
def oe(a3:Aa)(a7:THammock):=(a3.Blocks.getD (a7.Join).toNat (default:Ab))
def kK(x29:Bb):=([(⟨x29.Bits,x29.Dst,x29.From,x29.Args⟩:Bb)]:List Bb)
def iV(a3:Aa)(a7:THammock)(a0:List A6)(a1:Int):List AV:=(Z3 a3.Params a3.Ret a3.Blocks a7.At a7.Then a7.Else a7.Join a0 a1)
def u1(a5:Int)(x1:Int)(x2:Int)(a3:Aa)(a7:THammock)(a0:List A6)(a1:Int):=(⟨[fl,(1,(Aq a5)),(5,(Aq x1)),(6,(Aq x2)),(7,(AV.list 4 Fz default ([]:List Bb) (.own 5007))),(37,(AV.list 4 Fz default (oe a3 a7).Phis .none)),(38,(.int .i64 (((oe a3 a7).Phis).length:Int))),(39,In)],[(5007,.tok 4 56 (([]:List Bb).length)),(30000,.row 71 (iV a3 a7 a0 a1)),(Td 37007 a0.length)],[]⟩:St)
abbrev MD:=(List Bb×Aa×THammock×List A6×Int)
def Ig(a5:Int)(a3:Aa)(a7:THammock)(a0:List A6)(a1:Int):Option MD:=
 ((Fd a7.Then a3 a7 a0 a1).bind λx1=>((Fd a7.Else a3 a7 a0 a1).bind λx2=>(Az (Ay a7.Join a3.Blocks.length) ((Af (Gq a5 a3 a7 x1 x2) (([]:List Bb),(0:Int),a3.Params,a3.Ret,a3.Blocks,a7.At,a7.Then,a7.Else,a7.Join,a0,a1)).bind (λ(l15,l16,i17,l18,i19,i20,i21,i22,l23,i24)=>(some (l15,(⟨l16,i17,l18⟩:Aa),(⟨i19,i20,i21,i22⟩:THammock),l23,i24)))))))
variable{v47:MD}
theorem Y8(h:Ig v1 v0 v37 v7 v11=some v47):sP 64 (oK v1) (MI v0.Params v0.Ret v0.Blocks v37.At v37.Then v37.Else v37.Join v7 v11 v7.length) (ii v47.1 20000) [(30000,.row 71 (Z3 v47.2.1.Params v47.2.1.Ret v47.2.1.Blocks v47.2.2.1.At v47.2.2.1.Then v47.2.2.1.Else v47.2.2.1.Join v47.2.2.2.1 v47.2.2.2.2)),(Td 37007 v47.2.2.2.1.length),(20000,.tok 4 56 v47.1.length)]:=
 sG Tryz.func64 λΓ q=>gR q Cy E3 [(4,vi)] [] (c1 (Be 4 Fz (default:Bb))) (tB h λx1 y1 h=>tB h λx2 y2 h=>tT q RL E3 [⟨N7,[],(Aq x1),(ij (iV v0 v37 v7 v11) v7.length),[],E3⟩,⟨N7,[],(Aq x2),(ij (iV v0 v37 v7 v11) v7.length),[],E3⟩] (ci (Ny y1) (gw [(.row 71 (iV v0 v37 v7 v11)),(.tok 6 51 v7.length)] (ci (Ny y2) (Qe [(.row 71 (iV v0 v37 v7 v11)),(.tok 6 51 v7.length)])))) (gR q [0,1,5,6,7] E3 [(7,vi)] [] (c1 (Be 4 Fz (default:Bb))) (tV q VV E3 h λh=>Ka (st':=(u1 v1 x1 x2 v0 v37 v7 v11)) (Le.trans (Bs (st':=⟨[fl,(1,(Aq v1)),(5,(Aq x1)),(6,(Aq x2)),(7,vi),(37,(AV.list 4 Fz default (oe v0 v37).Phis .none)),(38,(.int .i64 (((oe v0 v37).Phis).length:Int))),(39,In)],(ij (iV v0 v37 v7 v11) v7.length),[]⟩) VV E3 q) (Le.trans (Oq (t:=7) (nm:=5007) (sz':=4) (λi=>Fz (([]:List Bb).getD i default)) 56 rfl rfl (.inl ⟨rfl,rfl⟩) (λh_=>absurd h_ (by decide))) (Bs (st':=(u1 v1 x1 x2 v0 v37 v7 v11)) VV RQ q))) (tL q h VV RQ (λu (l4,i5,l6,i7,l8,i9,i10,i11,i12,l13,i14)=>(Dv u [(7,(ii l4 5007)),(Db 39 i5)] [(5007,.tok 4 56 l4.length),(30000,.row 71 (Z3 l6 i7 l8 i9 i10 i11 i12 l13 i14)),(Td 37007 l13.length)])) (λu (l15,l16,i17,l18,i19,i20,i21,i22,l23,i24)=>aG Γ (.exit 0) (⟨[(7,(ii l15 5007))],[(5007,.tok 4 56 l15.length),(30000,.row 71 (Z3 l16 i17 l18 i19 i20 i21 i22 l23 i24)),(Td 37007 l23.length)],[]⟩:St)) (λ⟨l4,i5,l6,i7,l8,i9,i10,i11,i12,l13,i14⟩ y h=>Ag q [0,1,5,6,7,37,38,39,40] RQ (gC h (λh=>tV q [0,1,5,6,7,9,37,38,39] n6 h λh=>tB h λx26 y26 h=>tB h λx27 y27 h=>tB h λx28 y28 h=>tT q [0,1,5,6,7,9,10,37,38,39] n6 [(MJ x26),(MJ x27),(pP x28.1 x28.2.1.Params x28.2.1.Ret x28.2.1.Blocks x28.2.2.1.At x28.2.2.1.Then x28.2.2.1.Else x28.2.2.1.Join x28.2.2.2.1 x28.2.2.2.2 x28.2.2.2.1.length)] (c3 (FV y26) (FV y27) (Ur y28)) (tB h λx29 y29 h=>tC h λc30_ h=>gR q VV RQ [(65,(AV.list 4 Fz default (kK x29) .exact)),(66,(AV.list 4 Fz default (l4++(kK x29)) (.own 5007)))] [⟨[],[],(.agg (Fz x29)),[],[],[]⟩] (c6 (FW y29) (A0 4 Fz (default:Bb) (kK x29)) (Eq.refl l4.length) c30_ (Jr 4 5007 Fz (default:Bb) l4 (kK x29)) (D2 l4 (kK x29))) (Ag q VV RQ (tN h)))) λh=>tS h (gO (B0 (Bs [7] RQ q))))) λx31 h=>(match x31,h with|⟨l15,l16,i17,l18,i19,i20,i21,i22,l23,i24⟩,h=>gA (Ag q [4] RQ (tS h (Bj [(30000,30000),(37007,37007),(5007,20000)]))))))))
def iW:AV:=s9
def u2:=(⟨[(2,(.vsl 36002 ([]:List Ab).length))],[(36002,.arr 5 48 (([]:List Ab).length) (λi=>Bf (([]:List Ab).getD i default)))],[]⟩:St)
def Cg(aP:List Ab):Option (List Ab):=
 (Az (aP.length<=room) (some aP))
theorem Ks(h:Cg v10=some v34):sP 65 [(GW v10)] [] (.vsl 20000 v34.length) [(20000,.arr 5 48 v34.length (λi=>Bf (v34.getD i default)))]:=by
 refine Uz mix Tryz.func65 (λΓ hq=>?_);unfold Cg at h;refine gR hq [0] [] [(2,iW)] [] (c1 (Be 5 Bf (default:Ab))) ?_;refine Ag hq Mt [] ?_;refine tm true v10.length (λhb=>?_) (λhb=>?_)
 ·replace h:=eC (some ([]:List Ab)) (λ(l2:List Ab)=>(Az (l2.length<=room) (some l2))) h (hb rfl) rfl (λh0=>by first|exact h0|simpa [Az,room] using h0);clear hb;refine gR hq [2] [] [(2,iW)] [] (c1 (Be 5 Bf (default:Ab))) ?_;refine O8 (⟨[(2,iW)],[],[]⟩:St) ?_;cases h;exact gK (e:=.ret) (Hd [(36002,20000)] (show Le Γ _ u2 from Le.trans (Bs (st':=⟨[(2,iW)],[],[]⟩) [2] [] hq) (Le.trans (OM (t:=2) (nm:=36002) (sz':=5) (λi=>Bf (([]:List Ab).getD i default)) 48 rfl rfl) (Bs (st':=u2) [2] [36002] hq))))
 ·clear hb;obtain⟨hc1,h⟩:=J7 h;refine gR hq [2] [7] [(5,iW),(7,.vsl 7 0)] [] (ci (show(AVle (.slice 5 0 (λi=>([]:List (List AV)).getD i []) .exact) iW) from WT rfl (λi hi=>absurd hi (S5 i))) (c1 hc1)) ?_;obtain rfl:=OI h;exact Bj fa
def Pz(aU:THammock):Option Unit:=
 (some ())
theorem IC(h:Pz v37=some v32):sP 66 [(fj v37)] [] (kl v37) []:=
 sG Tryz.func66 λΓ q=>gR q [1] [] [(1,(.rptr []))] [] trivial (Ag q [2] [] (tS h (Bj [])))
def Jy(aK:Int)(a5:THammock):Option Int:=
 (Option.bind (α:=Int) (bif (bif (a5.Then !=-1) then(decide (a5.Then<aK)) else false) then(some (A3 (aK-1))) else(some aK)) (λx2=>(Option.bind (α:=Int) (bif (bif (a5.Else !=-1) then(decide (a5.Else<aK)) else false) then(some (A3 (x2-1))) else(some x2)) (λx5=>(some x5)))))
theorem DP(h:Jy v1 v37=some v11):sP 122 [(Aq v1),(.rptr (Cq v37))] [] (.int .i64 v11) []:=
 sG Tryz.func122 λΓ q=>tW q Cy [] JG [] (Ag q EB [] (gU 2 (Ag q YR [] (BK true (tB h λx2 y2 h=>gJ y2 (λi1=>aG Γ .normal (⟨[(0,(Aq v1)),(4,(Aq i1)),(12,(.agg [(Aq v37.Then),(Aq v37.Else)])),(13,In)],[],[]⟩:St)) (λy h=>tU q [0,4,6,12,13] [] (c1 (show(Ay (0:Int) 2) from(by decide))) (tU q [0,4,12,13,22] [] (Qy ((v37.Then !=-1)==true) (c1 (O9 (v37.Then !=-1)))) (gC h (λh=>Ag q EB [] (tS h (gK (B0 Kb)))) λh=>tS h (gK (B0 (Bs EB [] q)))))) (gA (tW q EB [] YR [] (BK true (tB h λx5 y5 h=>gJ y5 (λi4=>aG Γ .normal (⟨[(0,(Aq v1)),(4,(Aq i4)),(12,(.agg [(Aq v37.Then),(Aq v37.Else)])),(13,ZT)],[],[]⟩:St)) (λy h=>tU q [0,4,6,12,13] [] (c1 (show(Ay (1:Int) 2) from(by decide))) (tU q [0,4,12,13,22] [] (Qy ((v37.Else !=-1)==true) (c1 (O9 (v37.Else !=-1)))) (gC h (λh=>Ag q EB [] (tS h (gK (B0 Kb)))) λh=>tS h (gK (B0 (Bs EB [] q)))))) (gA (tW q EB [] YR [] (BK false (Ag q [3] [] (tS h (Bj [])))))))))))))))
def Kl(aA:Ad)(aaH:THammock):BR->Option rJ:=
 λ((i2,l3):BR)=>(bif (decide (i2<(aA.length:Int))) then(Az (Ay i2 aA.length) ((Jy (aA.getD i2.toNat 0) aaH).bind λx6=>(Az (Ay i2 l3.length) (some (.next ((A3 (i2+1)),(l3.set i2.toNat x6))))))) else(some (.done l3)))
def Hy(aA:Ad)(aaH:THammock):Option Ad:=
 (Az (0<=(aA.length:Int)/\(aA.length:Int)<=(aA.length:Int)/\(aA.length:Int)<=(room:Int)) ((Af (Kl aA aaH) ((0:Int),(List.replicate (aA.length:Int).toNat (0:Int)))).bind (λx8=>(some x8))))
variable{v17:Ad}
theorem Rx(h:Hy v2 v37=some v17):sP 123 [(Lo v2),(kl v37)] [] (WO v17 20000) [(20000,.tok 1 3 v17.length)]:=
 sG Tryz.func123 λΓ q=>have hΓ:=q.own;gR q Cy [] [(4,ks)] [] (c1 (Be 1 Ao (0:Int))) (tV q V9 [10] h λh=>by exact Ka (Le.trans (Pa 10 (show ∀ k_,k_<((v2.length:Int).toNat)->AVleL ((λi_=>AV.eraseAll (λn_=>Bp n_ [10]) ((λ_=>[In]) i_)) k_) ((λi=>Ao ((List.replicate (v2.length:Int).toNat (0:Int)).getD i 0)) k_) from(λk hk=>K8 (e:=Ao) (d:=(0:Int)) (.cons (AVle.refl _) .nil) _ k (Lb hk)))) (Pb (λ(k_:Nat) u=>(Dv u [(5,(.vsl 10 k_))] [(10,.arr 1 3 k_ (λi=>Ao ((List.replicate (v2.length:Int).toNat (0:Int)).getD i 0)))])) (show(v2.length:Int).toNat=(List.replicate (v2.length:Int).toNat (0:Int)).length from(Pu ..).symm))) (Ag q YS [10] (tL q h YS [10] (λu (i2,l3)=>(Dv u [(5,(.vsl 10 l3.length)),(Db 13 i2)] [(Tb 10 l3)])) (λu l4=>aG Γ (.exit 0) (⟨[(5,(.vsl 10 l4.length))],[(Tb 10 l4)],[]⟩:St)) (λ⟨i2,l3⟩ y h=>Ag q [1,5,11,12,13,14] [10] (gC h (λh=>tV q [1,5,6,7,11,12,13] [10] h λh=>tB h λx6 y6 h=>tC h λc7_ h=>tT q YS [10] [(MJ x6)] (c3 (DP y6) c7_ (Eq.refl l3.length)) (Ka (Le.trans (Pa 10 (show ∀ k_,k_<l3.length->AVleL ((λi_=>AV.eraseAll (λn_=>Bp n_ [10]) ((Il (λi=>Ao (l3.getD i 0)) i2.toNat 0 [(Aq x6)]) i_)) k_) ((λi=>Ao ((l3.set i2.toNat x6).getD i 0)) k_) from(A8 (Cp ..).symm (λk_ hk_=>(Bn (AV.eraseAll (λn_=>Bp n_ [10])) ((E1 (λ_ _=>rfl) (Fn c7_) rfl) k_ hk_)).trans rfl)))) (Pb (λ(k_:Nat) u=>(Dv u [(5,(.vsl 10 k_))] [(10,.arr 1 3 k_ (λi=>Ao ((l3.set i2.toNat x6).getD i 0)))])) (show l3.length=(l3.set i2.toNat x6).length from(Cp ..).symm))) (Ag q YS [10] (tN h)))) λh=>tS h (gO (B0 (Bs [5] [10] q))))) λx8 h=>gA (Ag q [4] [10] (O8 ((kq 10 x8.length x8):St) (tS h (gK (e:=.ret) (Hd [(10,20000)] (Le.trans (Fg (nm:=10) (sz:=1) (n:=x8.length) (e:=3) (f:=(λi=>Ao (x8.getD i 0))) (g:=(λi=>Ao (x8.getD i 0))) rfl ⟨rfl,trivial⟩ (λ_ _=>rfl) (by rw[hΓ];rfl)) (Kc (st':=(kp x8 10 x8.length)) (by kernel_rfl)))))))))))
def Np(aO:Ab)(aaH:THammock):(Int×List Bb)->Option (LR (Int×List Bb) (List Bb)):=
 λ((i2,l3):(Int×List Bb))=>(bif (decide (i2<(aO.Phis.length:Int))) then(Az (Ay i2 aO.Phis.length) ((Hy ((aO.Phis.getD i2.toNat default).From) aaH).bind λx6=>(Az (Ay i2 l3.length) (some (.next ((A3 (i2+1)),(l3.set i2.toNat (⟨(aO.Phis.getD i2.toNat default).Bits,(aO.Phis.getD i2.toNat default).Dst,x6,(aO.Phis.getD i2.toNat default).Args⟩:Bb)))))))) else(some (.done l3)))
def ZM:AV:=SD
def CX(aO:Ab)(i2:Int):=(aO.Phis.getD i2.toNat default)
def oh(l3:List Bb):=(λi=>Fz (l3.getD i default))
def sc(aO:Ab):=(List.replicate (aO.Phis.length:Int).toNat (default:Bb))
def u5(aO:Ab)(i2:Int)(x6:Ad):List AV:=[(.int .i64 (CX aO i2).Bits),(.int .i64 (CX aO i2).Dst),(Lo x6),(AV.list 1 Ao 0 (CX aO i2).Args .none)]
def u4(aO:Ab):List AV:=[(rl aO.Phis),(TJ aO.Ops),(Aq aO.End.Kind),(Aq aO.End.Arg),(Lo aO.End.To)]
def u3(aaH:THammock)(l3:List Bb)(i2:Int)(aO:Ab):List ju:=[(1,(kl aaH)),AG,LH,(5,(.vsl 11 l3.length)),(6,(Aq i2)),(7,(.ptr 7 0)),(13,(rl aO.Phis)),(14,(Od aO.Phis.length)),(Db 15 i2)]
def Nn(aO:Ab)(aaH:THammock):Option Ab:=
 (Az (0<=(aO.Phis.length:Int)/\(aO.Phis.length:Int)<=(aO.Phis.length:Int)/\(aO.Phis.length:Int)<=(room:Int)) ((Af (Np aO aaH) ((0:Int),(List.replicate (aO.Phis.length:Int).toNat (default:Bb)))).bind (λx8=>((Hy aO.End.To aaH).bind λx10=>(some (⟨x8,aO.Ops,(⟨aO.End.Kind,aO.End.Arg,x10⟩:Eo)⟩:Ab))))))
variable{v48:Ab}{v9:Ab}
theorem LN(h:Nn v9 v37=some v48):sP 67 [(.agg (Bf v9)),(kl v37)] [] (.agg (Bf v48)) []:=
 sG Tryz.func67 λΓ q=>have hΓ:=q.own;Ag q V8 Mu (tV q ZF W0 h λh=>by exact Ka (Le.trans (Pa 11 (show ∀ k_,k_<((v9.Phis.length:Int).toNat)->AVleL ((λi_=>AV.eraseAll (λn_=>Bp n_ W0) ((λ_=>[In,In,ZM,ZM]) i_)) k_) ((λi=>Fz ((sc v9).getD i default)) k_) from(λk hk=>K8 (e:=Fz) (d:=(default:Bb)) (.cons (AVle.refl _) (.cons (AVle.refl _) (.cons (λ_ _ _ _ _ hh=>AVle.untag _ _ _ _ _ (C6 _ _ _ _ _ hh)) (.cons (λ_ _ _ _ _ hh=>AVle.untag _ _ _ _ _ (C6 _ _ _ _ _ hh)) .nil)))) _ k (Lb hk)))) (Pb (λ(k_:Nat) u=>(Dv u [(5,(.vsl 11 k_))] [(11,.arr 4 56 k_ (λi=>Fz ((sc v9).getD i default)))])) (show(v9.Phis.length:Int).toNat=(sc v9).length from(Pu ..).symm))) (Ag q YK W0 (tL q h YK W0 (λu (i2,l3)=>(Dv u [(5,(.vsl 11 l3.length)),(Db 15 i2)] [(11,.arr 4 56 l3.length (oh l3))])) (λu l4=>aG Γ (.exit 0) (V4 ZF W0 u [(5,(.vsl 11 l4.length))] [(11,.arr 4 56 l4.length (λi=>Fz (l4.getD i default)))])) (λ⟨i2,l3⟩ y h=>Ag q [1,2,4,5,13,14,15,16] W0 (gC h (λh=>tV q e7 [2,4,7,11] h λh=>tB h λx6 y6 h=>tT q e7 [2,4,7,11,23] [(xF 23 x6 x6.length)] (c1 (Rx y6)) (O8 (⟨(u3 v37 l3 i2 v9),[(2,.row 48 (u4 v9)),(4,.row 48 [ZM,ZM,In,In,ZM]),(7,.row 56 [(.int .i64 (CX v9 i2).Bits),(.int .i64 (CX v9 i2).Dst),(WO x6 23),(AV.list 1 Ao 0 (CX v9 i2).Args .none)]),(11,.arr 4 56 l3.length (oh l3)),(23,.tok 1 3 x6.length)],[]⟩:St) (Ka (show Le Γ _ (⟨(u3 v37 l3 i2 v9),[(2,.row 48 (u4 v9)),(4,.row 48 [ZM,ZM,In,In,ZM]),(7,.row 56 (u5 v9 i2 x6)),(11,.arr 4 56 l3.length (oh l3))],[]⟩:St) from Bs e7 [2,4,7,11] q) (tC h λc7_ h=>tU q YK W0 (c2 c7_ (Eq.refl l3.length)) (Ka (Le.trans (Pa 11 (show ∀ k_,k_<l3.length->AVleL ((λi_=>AV.eraseAll (λn_=>Bp n_ W0) ((Il (oh l3) i2.toNat 0 (u5 v9 i2 x6)) i_)) k_) ((λi=>Fz ((l3.set i2.toNat (⟨(CX v9 i2).Bits,(CX v9 i2).Dst,x6,(CX v9 i2).Args⟩:Bb)).getD i default)) k_) from(A8 (Cp ..).symm (λk_ hk_=>(Bn (AV.eraseAll (λn_=>Bp n_ W0)) ((E1 (λ_ _=>rfl) (Fn c7_) rfl) k_ hk_)).trans rfl)))) (Pb (λ(k_:Nat) u=>(Dv u [(5,(.vsl 11 k_))] [(11,.arr 4 56 k_ (λi=>Fz ((l3.set i2.toNat (⟨(CX v9 i2).Bits,(CX v9 i2).Dst,x6,(CX v9 i2).Args⟩:Bb)).getD i default)))])) (show l3.length=(l3.set i2.toNat (⟨(CX v9 i2).Bits,(CX v9 i2).Dst,x6,(CX v9 i2).Args⟩:Bb)).length from(Cp ..).symm))) (Ag q YK W0 (tN h))))))) λh=>tS h (gO (B0 (Bs ZF W0 q))))) λx8 h=>gA (Ag q V8 W0 (tB h λx10 y10 h=>tT q Mu [2,4,11,36] [(xF 36 x10 x10.length)] (c1 (Rx y10)) (Ag q [4] [4,11,36] (O8 (⟨[LH],[(4,.row 48 [(.vsl 11 x8.length),(TJ v9.Ops),(Aq v9.End.Kind),(Aq v9.End.Arg),(WO x10 36)]),(11,.arr 4 56 x8.length (λi=>Fz (x8.getD i default))),(36,.tok 1 3 x10.length)],[]⟩:St) (tS h (gK (e:=.ret) (Hd [] (Le.trans (Fg (nm:=11) (sz:=4) (n:=x8.length) (e:=56) (f:=(λi=>Fz (x8.getD i default))) (g:=(λi=>Fz (x8.getD i default))) rfl ⟨rfl,trivial⟩ (λ_ _=>rfl) (by rw[hΓ];rfl)) (Kc (st':=⟨[LH],[(4,.row 48 [(ii x8 11),(TJ v9.Ops),(Aq v9.End.Kind),(Aq v9.End.Arg),(WO x10 36)]),(11,.tok 4 56 x8.length),(36,.tok 1 3 x10.length)],[]⟩) (by kernel_rfl)))))))))))))
def E9(aN:Na)(x4:MD)(x5:List Ab):(Int×List Ab)->Option (LR (Int×List Ab) (List Ab)):=
 λ((i9,l10):(Int×List Ab))=>(bif (decide (i9<(((x5.set (x4.2.2.1.Join).toNat (⟨x4.1,(x5.getD (x4.2.2.1.Join).toNat (default:Ab)).Ops,(⟨(x5.getD (x4.2.2.1.Join).toNat (default:Ab)).End.Kind,(x5.getD (x4.2.2.1.Join).toNat (default:Ab)).End.Arg,(x5.getD (x4.2.2.1.Join).toNat (default:Ab)).End.To⟩:Eo)⟩:Ab)).set (x4.2.2.1.At).toNat (⟨(aN.f.Blocks.getD (aN.h.At).toNat (default:Ab)).Phis,x4.2.2.2.1,(⟨(1:Int),(0:Int),([x4.2.2.1.Join]:Ad)⟩:Eo)⟩:Ab)).length:Int))) then(Option.bind (α:=List Ab) (Az (Ay i9 ((x5.set (x4.2.2.1.Join).toNat (⟨x4.1,(x5.getD (x4.2.2.1.Join).toNat (default:Ab)).Ops,(⟨(x5.getD (x4.2.2.1.Join).toNat (default:Ab)).End.Kind,(x5.getD (x4.2.2.1.Join).toNat (default:Ab)).End.Arg,(x5.getD (x4.2.2.1.Join).toNat (default:Ab)).End.To⟩:Eo)⟩:Ab)).set (x4.2.2.1.At).toNat (⟨(aN.f.Blocks.getD (aN.h.At).toNat (default:Ab)).Phis,x4.2.2.2.1,(⟨(1:Int),(0:Int),([x4.2.2.1.Join]:Ad)⟩:Eo)⟩:Ab)).length) (bif (bif (i9 !=x4.2.2.1.Then) then(i9 !=x4.2.2.1.Else) else false) then((Nn (((x5.set (x4.2.2.1.Join).toNat (⟨x4.1,(x5.getD (x4.2.2.1.Join).toNat (default:Ab)).Ops,(⟨(x5.getD (x4.2.2.1.Join).toNat (default:Ab)).End.Kind,(x5.getD (x4.2.2.1.Join).toNat (default:Ab)).End.Arg,(x5.getD (x4.2.2.1.Join).toNat (default:Ab)).End.To⟩:Eo)⟩:Ab)).set (x4.2.2.1.At).toNat (⟨(aN.f.Blocks.getD (aN.h.At).toNat (default:Ab)).Phis,x4.2.2.2.1,(⟨(1:Int),(0:Int),([x4.2.2.1.Join]:Ad)⟩:Eo)⟩:Ab)).getD i9.toNat default) x4.2.2.1).bind λx14=>(Az (l10.length+([(⟨x14.Phis,x14.Ops,(⟨x14.End.Kind,x14.End.Arg,x14.End.To⟩:Eo)⟩:Ab)]:List Ab).length<=room) (some (l10++([(⟨x14.Phis,x14.Ops,(⟨x14.End.Kind,x14.End.Arg,x14.End.To⟩:Eo)⟩:Ab)]:List Ab))))) else(some l10))) (λx16=>(some (.next ((A3 (i9+1)),x16))))) else(some (.done l10)))
def oq(x4:MD):AV:=(kl x4.2.2.1)
def WG(x4:MD):AV:=(Lo x4.2.1.Params)
def ot(x5:List Ab):=(λi=>Bf (x5.getD i default))
def EJ(x5:List Ab)(x4:MD):=(x5.set (x4.2.2.1.Join).toNat (⟨x4.1,(x5.getD (x4.2.2.1.Join).toNat (default:Ab)).Ops,(⟨(x5.getD (x4.2.2.1.Join).toNat (default:Ab)).End.Kind,(x5.getD (x4.2.2.1.Join).toNat (default:Ab)).End.Arg,(x5.getD (x4.2.2.1.Join).toNat (default:Ab)).End.To⟩:Eo)⟩:Ab))
def xM(aN:Na)(x4:MD):=(⟨(aN.f.Blocks.getD (aN.h.At).toNat (default:Ab)).Phis,x4.2.2.2.1,(⟨(1:Int),(0:Int),([x4.2.2.1.Join]:Ad)⟩:Eo)⟩:Ab)
def BI(x5:List Ab)(x4:MD)(aN:Na):=((EJ x5 x4).set (x4.2.2.1.At).toNat (xM aN x4))
def dI:List AV:=[SD,In,SD]
def kL(x14:Ab):=([(⟨x14.Phis,x14.Ops,(⟨x14.End.Kind,x14.End.Arg,x14.End.To⟩:Eo)⟩:Ab)]:List Ab)
def sf(x4:MD):List AV:=[(WG x4),(Aq x4.2.1.Ret),s9]
def om(x4:MD):List AV:=[(WG x4),(Aq x4.2.1.Ret),(GW x4.2.1.Blocks),(Aq x4.2.2.1.At),(Aq x4.2.2.1.Then),(Aq x4.2.2.1.Else),(Aq x4.2.2.1.Join),(TJ x4.2.2.2.1),(Aq x4.2.2.2.2)]
def se(x4:MD):List AV:=[(WG x4),(Aq x4.2.1.Ret),(GW x4.2.1.Blocks),(Aq x4.2.2.1.At),(Aq x4.2.2.1.Then),(Aq x4.2.2.1.Else),(Aq x4.2.2.1.Join),(oJ x4.2.2.2.1 25),(Aq x4.2.2.2.2)]
def oi(aN:Na):List AV:=[(AV.list 4 Fz default (aN.f.Blocks.getD (aN.h.At).toNat (default:Ab)).Phis .none),(AV.list 6 Io default (aN.f.Blocks.getD (aN.h.At).toNat (default:Ab)).Ops .none),(.int .i64 (aN.f.Blocks.getD (aN.h.At).toNat (default:Ab)).End.Kind),(.int .i64 (aN.f.Blocks.getD (aN.h.At).toNat (default:Ab)).End.Arg),(AV.list 1 Ao 0 (aN.f.Blocks.getD (aN.h.At).toNat (default:Ab)).End.To .none)]
def u6(x4:MD)(x5:List Ab)(aN:Na):=(⟨[fl,AG,EL,(7,(oq x4)),(90,(.vsl 43 (BI x5 x4 aN).length)),(91,(.int .i64 ((BI x5 x4 aN).length:Int))),(92,In)],[(2,.row 25 dI),(6,.row 25 [(WG x4),(Aq x4.2.1.Ret),(AV.list 5 Bf default ([]:List Ab) (.own 5602))]),(43,.arr 5 48 ((BI x5 x4 aN).length) (λi=>Bf ((BI x5 x4 aN).getD i default))),(5602,.tok 5 48 (([]:List Ab).length)),(30000,.row 71 (om x4))],[]⟩:St)
def Gp(aN:Na):Option (Aa×Na):=
 (Az (Ay aN.h.At aN.f.Blocks.length) ((Ec ((aN.f.Blocks.getD (aN.h.At).toNat (default:Ab)).Ops)).bind λx2=>((Ft ((aN.f.Blocks.getD (aN.h.At).toNat (default:Ab)).End.Arg) (⟨aN.f.Params,aN.f.Ret,aN.f.Blocks⟩:Aa) (⟨aN.h.At,aN.h.Then,aN.h.Else,aN.h.Join⟩:THammock) x2 aN.last).bind λx3=>((Ig ((aN.f.Blocks.getD (aN.h.At).toNat (default:Ab)).End.Arg) x3.1 x3.2.1 x3.2.2.1 x3.2.2.2).bind λx4=>((Cg x4.2.1.Blocks).bind λx5=>(Az (Ay x4.2.2.1.Join x5.length) (Az (Ay x4.2.2.1.At (x5.set (x4.2.2.1.Join).toNat (⟨x4.1,(x5.getD (x4.2.2.1.Join).toNat (default:Ab)).Ops,(⟨(x5.getD (x4.2.2.1.Join).toNat (default:Ab)).End.Kind,(x5.getD (x4.2.2.1.Join).toNat (default:Ab)).End.Arg,(x5.getD (x4.2.2.1.Join).toNat (default:Ab)).End.To⟩:Eo)⟩:Ab)).length) ((Pz x4.2.2.1).bind λx8=>((Af (E9 aN x4 x5) ((0:Int),([]:List Ab))).bind (λx18=>(some ((⟨x4.2.1.Params,x4.2.1.Ret,x18⟩:Aa),(⟨x4.2.1,x4.2.2.1,x4.2.2.2.1,x4.2.2.2.2⟩:Na)))))))))))))
variable{v49:Na}{v50:(Aa×Na)}
theorem Us(h:Gp v49=some v50):sP 27 CZ (s7 v49.f.Params v49.f.Ret v49.f.Blocks v49.h.At v49.h.Then v49.h.Else v49.h.Join v49.ops v49.last) (RV v50.1) (s7 v50.2.f.Params v50.2.f.Ret v50.2.f.Blocks v50.2.h.At v50.2.h.Then v50.2.h.Else v50.2.h.Join v50.2.ops v50.2.last):=
 sG Tryz.func27 λΓ q=>Ag q [0,2] [2,30000] (tV q ED [2,3,30000] h λh=>tB h λx2 y2 h=>tT q ED [2,3,25,30000] [⟨[],[(20000,25)],(oJ x2 20000),[(Td 20000 x2.length)],[],[]⟩] (c1 (Po y2)) (tB h λx3 y3 h=>tT q ED [2,3,25,30000] [⟨nj,[],(.tuple []),(MI x3.1.Params x3.1.Ret x3.1.Blocks x3.2.1.At x3.2.1.Then x3.2.1.Else x3.2.1.Join x3.2.2.1 x3.2.2.2 x3.2.2.1.length),[],[]⟩] (c1 (Sg y3)) (tB h λx4 y4 h=>tT q [0,2,3,4] [2,3,25,37,30000] [⟨nj,[(20000,37)],(ii x4.1 20000),[(30000,.row 71 [(WG x4),(Aq x4.2.1.Ret),(GW x4.2.1.Blocks),(Aq x4.2.2.1.At),(Aq x4.2.2.1.Then),(Aq x4.2.2.1.Else),(Aq x4.2.2.1.Join),(oJ x4.2.2.2.1 37007),(Aq x4.2.2.2.2)]),(Td 37007 x4.2.2.2.1.length),(20000,.tok 4 56 x4.1.length)],[],[]⟩] (c1 (Y8 y4)) (tB h λx5 y5 h=>tT q [0,2,3,4,5] [2,3,25,37,43,30000] [⟨[],[(20000,43)],(.vsl 20000 x5.length),[(20000,.arr 5 48 x5.length (ot x5))],[],[]⟩] (c1 (Ks y5)) (O8 (⟨[fl,AG,LG,(4,(ii x4.1 37)),(5,(.vsl 43 x5.length))],[(2,.row 25 dI),(3,.row 48 (oi v49)),(Td 25 x4.2.2.2.1.length),(37,.tok 4 56 x4.1.length),(43,.arr 5 48 x5.length (ot x5)),(30000,.row 71 (se x4))],[]⟩:St) (Ka (show Le Γ _ (⟨[fl,AG,LG,(4,(rl x4.1)),(5,(.vsl 43 x5.length))],[(2,.row 25 dI),(3,.row 48 (oi v49)),(Td 25 x4.2.2.2.1.length),(43,.arr 5 48 x5.length (ot x5)),(30000,.row 71 (se x4))],[]⟩:St) from Bs [0,2,3,4,5] YP q) (tC h λc6_ h=>tU q [0,2,3,5] YP (c2 c6_ (Eq.refl x5.length)) (Ka (Le.trans (Pa 43 (show ∀ k_,k_<x5.length->AVleL ((λi_=>AV.eraseAll (λn_=>Bp n_ YP) ((Il (ot x5) (x4.2.2.1.Join).toNat 0 [(rl x4.1)]) i_)) k_) ((λi=>Bf ((EJ x5 x4).getD i default)) k_) from(A8 (Cp ..).symm (λk_ hk_=>(Bn (AV.eraseAll (λn_=>Bp n_ YP)) ((E1 (λ_ _=>rfl) (Fn c6_) rfl) k_ hk_)).trans rfl)))) (Pb (λ(k_:Nat) u=>(Dv u [(5,(.vsl 43 k_))] [(43,.arr 5 48 k_ (λi=>Bf ((EJ x5 x4).getD i default)))])) (show x5.length=(EJ x5 x4).length from(Cp ..).symm))) (O8 (⟨[fl,AG,LG,(5,(.vsl 43 (EJ x5 x4).length))],[(2,.row 25 dI),(3,.row 48 (oi v49)),(Td 25 x4.2.2.2.1.length),(43,.arr 5 48 ((EJ x5 x4).length) (λi=>Bf ((EJ x5 x4).getD i default))),(30000,.row 71 (se x4))],[]⟩:St) (Ka (show Le Γ _ (⟨[fl,AG,LG,(5,(.vsl 43 (EJ x5 x4).length))],[(2,.row 25 dI),(3,.row 48 (oi v49)),(43,.arr 5 48 ((EJ x5 x4).length) (λi=>Bf ((EJ x5 x4).getD i default))),(30000,.row 71 (om x4))],[]⟩:St) from Bs [0,2,3,5] [2,3,43,30000] q) (tC h λc7_ h=>gR q [0,2,5] fY [(70,(AV.list 1 Ao 0 ([x4.2.2.1.Join]:Ad) .none))] [] (c3 (show(AVle (s8 x4.2.2.1.Join) (AV.list 1 Ao 0 ([x4.2.2.1.Join]:Ad) .none)) from(λ_ _ _ _ _ hh=>AVle.untag _ _ _ _ _ ((A0 1 Ao (0:Int) ([x4.2.2.1.Join]:Ad)) _ _ _ _ _ hh))) c7_ (Eq.refl ((EJ x5 x4).length))) (Ka (Le.trans (Pa 43 (show ∀ k_,k_<((EJ x5 x4).length)->AVleL ((λi_=>AV.eraseAll (λn_=>Bp n_ fY) ((Il (λi=>Bf ((EJ x5 x4).getD i default)) (x4.2.2.1.At).toNat 0 [(AV.list 4 Fz default (v49.f.Blocks.getD (v49.h.At).toNat (default:Ab)).Phis .none),(TJ x4.2.2.2.1),ZT,In,(AV.list 1 Ao 0 ([x4.2.2.1.Join]:Ad) .none)]) i_)) k_) ((λi=>Bf ((BI x5 x4 v49).getD i default)) k_) from(A8 (Cp ..).symm (λk_ hk_=>(Bn (AV.eraseAll (λn_=>Bp n_ fY)) ((E1 (λ_ _=>rfl) (Fn c7_) rfl) k_ hk_)).trans rfl)))) (Pb (λ(k_:Nat) u=>(Dv u [(5,(.vsl 43 k_))] [(43,.arr 5 48 k_ (λi=>Bf ((BI x5 x4 v49).getD i default)))])) (show(EJ x5 x4).length=(BI x5 x4 v49).length from(Cp ..).symm))) (gR q [0,2,5,6] YV [(84,(.agg (sf x4)))] [] (c1 (show(AVle (.agg [(WG x4),(Aq x4.2.1.Ret),SD]) (.agg (sf x4))) from(AVle.agg (.cons (AVle.refl _) (.cons (AVle.refl _) (.cons C6 .nil)))))) (tB h λx8 y8 h=>tT q [0,2,5,6,7] YV [⟨[],[],(oq x4),[],[],[]⟩] (c1 (IC y8)) (Ag q RP YV (Ka (st':=(u6 x4 x5 v49)) (Le.trans (Bs (st':=⟨[fl,AG,EL,(7,(oq x4)),(90,(.vsl 43 (BI x5 x4 v49).length)),(91,(.int .i64 ((BI x5 x4 v49).length:Int))),(92,In)],[(2,.row 25 dI),(6,.row 25 (sf x4)),(43,.arr 5 48 ((BI x5 x4 v49).length) (λi=>Bf ((BI x5 x4 v49).getD i default))),(30000,.row 71 (om x4))],[]⟩) RP YV q) (Le.trans (Ym (r:=6) (j:=2) (nm:=5602) (sz':=5) (λi=>Bf (([]:List Ab).getD i default)) 48 rfl rfl (nl rfl) rfl (.inl ⟨rfl,rfl⟩) (λh_=>absurd h_ (by decide))) (Bs (st':=(u6 x4 x5 v49)) RP VW q))) (tL q h RP VW (λu (i9,l10)=>(Dv u [(Db 92 i9)] [(tA (WG x4) x4.2.1.Ret l10),(Gy 5602 48 l10.length)])) (λu l11=>aG Γ (.exit 0) (V4 [2,6] [2,6,5602,30000] u [] [(tA (WG x4) x4.2.1.Ret l11),(Gy 5602 48 l11.length)])) (λ⟨i9,l10⟩ y h=>Ag q [0,2,6,7,90,91,92,93] VW (gC h (λh=>tB h λx16 y16 h=>gJ y16 (λl12=>aG Γ .normal (⟨[fl,AG,EL,(7,(oq x4)),(90,(.vsl 43 (BI x5 x4 v49).length)),(91,(.int .i64 ((BI x5 x4 v49).length:Int))),(Db 92 i9)],[(2,.row 25 dI),(tA (WG x4) x4.2.1.Ret l12),(43,.arr 5 48 ((BI x5 x4 v49).length) (λi=>Bf ((BI x5 x4 v49).getD i default))),(Gy 5602 48 l12.length),(30000,.row 71 (om x4))],[]⟩:St)) (λy h=>tC h λc13_ h=>tU q [0,2,6,7,8,9,90,91,92] n3 (c2 c13_ (Eq.refl ((BI x5 x4 v49).length))) (tU q [0,2,6,7,9,90,91,92,112] n3 (yj ((i9 !=x4.2.2.1.Then)==true) (c1 (O9 (i9 !=x4.2.2.1.Then)))) (gC h (λh=>tB h λx14 y14 h=>tC h λc15_ h=>gR q RP VW [(118,(AV.list 5 Bf default (kL x14) .exact)),(119,(AV.list 5 Bf default (l10++(kL x14)) (.own 5602)))] [⟨[],[],(.agg (Bf x14)),[],[],[]⟩] (c6 (LN y14) (A0 5 Bf (default:Ab) (kL x14)) (Eq.refl l10.length) c15_ (Jr 5 5602 Bf (default:Ab) l10 (kL x14)) (D2 l10 (kL x14))) (tS h (gK (B0 Kb)))) λh=>tS h (gK (B0 (Bs RP VW q)))))) (gA (Ag q RP VW (tN h)))) λh=>tS h (gO (B0 (Bs [2,6] [2,6,5602,30000] q))))) λx18 h=>gA (Ag q [2] [2,5602,30000] (tS h (Bj IZ))))))))))))))))))))
def kM:List AV:=[SD,In,SD]
def ZN:List AV:=[ks,In,s9]
def u7:List U8:=[(4,.row 25 [(AV.list 1 Ao 0 ([]:Ad) .none),In,(AV.list 5 Bf default ([]:List Ab) .none)])]
def ou(a9:Aa)(aU:THammock)(x2:Int):List AV:=[(Lo a9.Params),(Aq a9.Ret),(GW a9.Blocks),(Aq aU.At),(Aq aU.Then),(Aq aU.Else),(Aq aU.Join),ug,(Aq x2)]
abbrev IM:=(Aa×Int)
def G5(a9:Aa)(aU:THammock):Option IM:=
 ((K5 a9 aU).bind λx1=>(bif (!x1) then(some ((⟨([]:Ad),(0:Int),([]:List Ab)⟩:Aa),(10:Int))) else((Nh a9).bind λx2=>((Gp (⟨a9,aU,([]:List A6),x2⟩:Na)).bind λx3=>((bif ((decide ((1023:Int)<x3.2.last))==false) then Rg x3.1 else some false).bind λx4=>(bif (bif (decide ((1023:Int)<x3.2.last)) then true else(!x4)) then(some ((⟨([]:Ad),(0:Int),([]:List Ab)⟩:Aa),(4:Int))) else(some (x3.1,(0:Int)))))))))
variable{v51:IM}
theorem Mh(h:G5 v0 v37=some v51):sP 9 [(RV v0),(fj v37)] [] (.tuple [(RV v51.1),(Aq v51.2)]) []:=
 sG Tryz.func9 λΓ q=>Ag q [2,3,4] [2,3,4] (tB h λx1 y1 h=>tT q [2,3,4,11] [2,3,4] [(Z9 x1)] (c1 (FU y1)) (gC h (λh=>gR q Gx [4] [(12,(.agg ZN))] [] (c1 (show(AVle (.agg kM) (.agg ZN)) from(AVle.agg (.cons C6 (.cons (AVle.refl _) (.cons C6 .nil)))))) (O8 (⟨[LH,(5,(Od 10))],[(4,.row 25 ZN)],[]⟩:St) (tS h (gK (e:=.ret) (Hd [] (show Le Γ _ (⟨[LH,(5,(Od 10))],u7,[]⟩:St) from Le.trans (Bs (st':=⟨[LH,(5,(Od 10))],[(4,.row 25 ZN)],[]⟩) Gx [4] q) (Ng (.cons (AVle.refl _) (.cons (AVle.refl _) .nil)) (.row (.cons AVle.untag (.cons (AVle.refl _) (.cons AVle.untag .nil))) .nil)))))))) λh=>tB h λx2 y2 h=>gR q Sa [4,18] [(17,(.agg (ou v0 v37 x2)))] [(MJ x2)] (c2 (CB y2) (show(AVle (.agg [(Lo v0.Params),(Aq v0.Ret),(GW v0.Blocks),(Aq v37.At),(Aq v37.Then),(Aq v37.Else),(Aq v37.Join),SD,(Aq x2)]) (.agg (ou v0 v37 x2))) from(AVle.agg (.cons (AVle.refl _) (.cons (AVle.refl _) (.cons (AVle.refl _) (.cons (AVle.refl _) (.cons (AVle.refl _) (.cons (AVle.refl _) (.cons (AVle.refl _) (.cons C6 (.cons (AVle.refl _) .nil)))))))))))) (O8 (⟨[LH,(6,(.ptr 18 0))],[(4,.row 25 kM),(18,.row 71 (ou v0 v37 x2))],[]⟩:St) (Ka (show Le Γ _ (⟨[LH,(6,(.ptr 18 0))],[(4,.row 25 kM),(18,.row 71 [(Lo v0.Params),(Aq v0.Ret),(GW v0.Blocks),(Aq v37.At),(Aq v37.Then),(Aq v37.Else),(Aq v37.Join),(AV.list 6 Io default ([]:List A6) .none),(Aq x2)])],[]⟩:St) from Le.trans (Bs (st':=⟨[LH,(6,(.ptr 18 0))],[(4,.row 25 kM),(18,.row 71 (ou v0 v37 x2))],[]⟩) Sa [4,18] q) (Ng (.cons (AVle.refl _) (.cons (AVle.refl _) .nil)) (.same (.row (.cons (AVle.refl _) (.cons (AVle.refl _) (.cons (AVle.refl _) (.cons (AVle.refl _) (.cons (AVle.refl _) (.cons (AVle.refl _) (.cons (AVle.refl _) (.cons AVle.untag (.cons (AVle.refl _) .nil))))))))) .nil)))) (tB h λx3 y3 h=>tT q [4,6,7] [4,7,18] [⟨[(18,30000)],[],(RV x3.1),(s7 x3.2.f.Params x3.2.f.Ret x3.2.f.Blocks x3.2.h.At x3.2.h.Then x3.2.h.Else x3.2.h.Join x3.2.ops x3.2.last),[],[]⟩] (c1 (Us y3)) (tB h λx4 y4 h=>tT q [4,7,30] [4,7] [(Z9 x4)] (c4 (gI ((decide ((1023:Int)<x3.2.last))==false)) (λ(hg:((decide ((1023:Int)<x3.2.last))==false)=true)=>(KB (B4 hg y4))) (gI ((decide ((1023:Int)<x3.2.last))==false)) (Pv (decide ((1023:Int)<x3.2.last)))) (gC h (λh=>gR q Gx [4] [(31,(.agg ZN))] [] (c1 (show(AVle (.agg kM) (.agg ZN)) from(AVle.agg (.cons C6 (.cons (AVle.refl _) (.cons C6 .nil)))))) (O8 (⟨[LH,(5,SE)],[(4,.row 25 ZN)],[]⟩:St) (tS h (gK (e:=.ret) (Hd [] (show Le Γ _ (⟨[LH,(5,SE)],u7,[]⟩:St) from Le.trans (Bs (st':=⟨[LH,(5,SE)],[(4,.row 25 ZN)],[]⟩) Gx [4] q) (Ng (.cons (AVle.refl _) (.cons (AVle.refl _) .nil)) (.row (.cons AVle.untag (.cons (AVle.refl _) (.cons AVle.untag .nil))) .nil)))))))) λh=>Ag q Gx [4] (tS h (Bj [])))))))))
def Kk(a9:Aa)(aU:THammock):Option Int:=
 ((Hu a9 aU).bind λx1=>(some (x1.1.length:Int)))
theorem Wr(h:Kk v0 v37=some v1):sP 40 [(RV v0),(fj v37)] [] (.int .i64 v1) []:=
 sG Tryz.func40 λΓ q=>Ag q F2 F2 (tB h λx1 y1 h=>tT q [5] [10] [⟨[],ZB,(.tuple [(oJ x1.1 20000),(.bool x1.2)]),[(Td 20000 x1.1.length)],[],[]⟩] (c1 (Rv y1)) (Ag q [4] [] (tS h (Bj []))))
abbrev wh:=(LR Int (Unit ⊕ (Ad×Int×List Ab)))
abbrev wi:=((Ad×Int×List Ab) ⊕ Unit)
def Ge(a9:Aa)(aaJ:Int)(x4:List THammock):Int->Option wh:=
 λ(i5:Int)=>(bif (decide (i5<(x4.length:Int))) then(Option.bind (α:=wi) (Az (Ay i5 x4.length) ((Kk a9 (x4.getD i5.toNat default)).bind λx13=>(bif (decide (aaJ<x13)) then(some (.inr ())) else((G5 a9 (x4.getD i5.toNat default)).bind λx14=>(bif (x14.2==0) then(some (.inl (x14.1.Params,x14.1.Ret,x14.1.Blocks))) else(some (.inr ()))))))) (λx15=>(match x15 with|(.inl (l9,i10,l11))=>(some (.done (.inr (l9,i10,l11))))|(.inr _)=>(some (.next (A3 (i5+1))))))) else(some (.done (.inl ()))))
def Wi(aaJ:Int)(l1:Ad)(i2:Int)(l3:List Ab)(x21:List THammock):Int->Option wh:=
 λ(i22:Int)=>(bif (decide (i22<(x21.length:Int))) then(Option.bind (α:=wi) (Az (Ay i22 x21.length) ((Kk (⟨l1,i2,l3⟩:Aa) (x21.getD i22.toNat default)).bind λx30=>(bif (decide (aaJ<x30)) then(some (.inr ())) else((G5 (⟨l1,i2,l3⟩:Aa) (x21.getD i22.toNat default)).bind λx31=>(bif (x31.2==0) then(some (.inl (x31.1.Params,x31.1.Ret,x31.1.Blocks))) else(some (.inr ()))))))) (λx32=>(match x32 with|(.inl (l26,i27,l28))=>(some (.done (.inr (l26,i27,l28))))|(.inr _)=>(some (.next (A3 (i22+1))))))) else(some (.done (.inl ()))))
abbrev nU:=(Ad×Int×List Ab)
def Mg(aaJ:Int):nU->Option (LR (Ad×Int×List Ab) Aa):=
 λ(s_:nU)=>match s_ with|(l1,i2,l3)=>((H4 (⟨l1,i2,l3⟩:Aa)).bind λx21=>((Af (Wi aaJ l1 i2 l3 x21) (0:Int)).bind (λx35=>(match x35 with|(.inl _)=>(some (.done (⟨l1,i2,l3⟩:Aa)))|(.inr (l23,i24,l25))=>(some (.next (l23,i24,l25)))))))
def WD(Γ:G8)(a9:Aa)(aaJ:Int)(r:Aa):Exit->St->Prop:=fK Tryz.prog Γ Tryz.f12.results.toList [] (RV r) []
def kN:List AV:=[SD,In,SD]
def Ja(a9:Aa)(aaJ:Int):Option Aa:=
 ((Ms (S:=nU) (X:=Aa) ((H4 a9).bind λx4=>((Af (Ge a9 aaJ x4) (0:Int)).bind (λx18=>(match x18 with|(.inl _)=>(some (.done a9))|(.inr (l6,i7,l8))=>(some (.next (l6,i7,l8))))))) (Mg aaJ)).bind (λx38=>(some x38)))
variable{v52:Aa}
theorem Tu(h:Ja v0 v1=some v52):sP 12 [(RV v0),(Aq v1)] [] (RV v52) []:=
 sG Tryz.func12 λΓ q=>Ag q V8 Mu (tB h λx38 y38 h=>gS y38 (λ(s_:nU)=>match s_ with|(l1,i2,l3)=>0) (λ(s_:nU)=>match s_ with|(l1,i2,l3)=>(⟨[(1,(Aq v1)),AG,LH],[(tE l1 i2 l3),(4,.row 25 kN)],[]⟩:St)) (λr_=>aR (WD Γ v0 v1 r_)) (λy h=>tB h λx4 y4 h=>tT q CQ W1 [⟨[],ZB,(oI x4 20000),[(20000,.tok 4 27 x4.length)],[],[]⟩] (c1 (Ru y4)) (tL q h CQ W1 (λu i5=>(Dv u [(Db 12 i5)] [])) (λu x_=>match x_ with|(.inl _)=>aG Γ (.exit 0) (V4 Mu Mu u [] [])|(.inr (l6,i7,l8))=>aG Γ (.goto 0) (V4 V8 Mu u [] [(tE l6 i7 l8)])) (λi5 y h=>Ag q n4 W1 (gC h (λh=>tB h λx15 y15 h=>gJ y15 (λx_=>match x_ with|(.inl (l9,i10,l11))=>aG Γ (.goto 0) (⟨[(1,(Aq v1)),AG,LH],[(tE l9 i10 l11),(4,.row 25 kN)],[]⟩:St)|(.inr _)=>aG Γ .normal (⟨[(1,(Aq v1)),AG,LH,(10,(oI x4 10)),(11,(Od x4.length)),(Db 12 i5)],[(tE v0.Params v0.Ret v0.Blocks),(4,.row 25 kN),(10,.tok 4 27 x4.length)],[]⟩:St)) (λy h=>tV q [1,2,4,6,10,11,12] ZC h λh=>tB h λx13 y13 h=>tT q np ZC [(MJ x13)] (c1 (Wr y13)) (gC h (λh=>tS h (gK (B0 (Bs CQ W1 q)))) λh=>tB h λx14 y14 h=>tT q nu ZD [(pR x14.1 x14.2)] (c1 (Mh y14)) (Ag q nq ZD (gC h (λh=>Ag q V8 Mu (tS h (gK (B0 Kb)))) λh=>tS h (gK (B0 (Bs CQ W1 q))))))) (match x15,h with | .inl ⟨l9,i10,l11⟩,h=>bL (λst' hl16=>tS h (gO (B0 (Le.trans hl16 Kb)))) | .inr _,h=>gA (Ag q CQ W1 (tN h)))) λh=>tS h (gO (B0 (Bs Mu Mu q))))) λx18 h=>(match x18,h with | .inl _,h=>gA (Ag q [4] [4] (tS h (JT (Oa (Hd [] (Le.refl _ _)))))) | .inr ⟨l6,i7,l8⟩,h=>bL (λst' hl20=>tS h (dk (Le.trans hl20 Kb)))))) (λ⟨l1,i2,l3⟩ y h=>tB h λx21 y21 h=>tT q CQ W1 [⟨[],ZB,(oI x21 20000),[(20000,.tok 4 27 x21.length)],[],[]⟩] (c1 (Ru y21)) (tL q h CQ W1 (λu i22=>(Dv u [(Db 12 i22)] [])) (λu x_=>match x_ with|(.inl _)=>aG Γ (.exit 0) (V4 Mu Mu u [] [])|(.inr (l23,i24,l25))=>aG Γ (.goto 0) (V4 V8 Mu u [] [(tE l23 i24 l25)])) (λi22 y h=>Ag q n4 W1 (gC h (λh=>tB h λx32 y32 h=>gJ y32 (λx_=>match x_ with|(.inl (l26,i27,l28))=>aG Γ (.goto 0) (⟨[(1,(Aq v1)),AG,LH],[(tE l26 i27 l28),(4,.row 25 kN)],[]⟩:St)|(.inr _)=>aG Γ .normal (⟨[(1,(Aq v1)),AG,LH,(10,(oI x21 10)),(11,(Od x21.length)),(Db 12 i22)],[(tE l1 i2 l3),(4,.row 25 kN),(10,.tok 4 27 x21.length)],[]⟩:St)) (λy h=>tV q [1,2,4,6,10,11,12] ZC h λh=>tB h λx30 y30 h=>tT q np ZC [(MJ x30)] (c1 (Wr y30)) (gC h (λh=>tS h (gK (B0 (Bs CQ W1 q)))) λh=>tB h λx31 y31 h=>tT q nu ZD [(pR x31.1 x31.2)] (c1 (Mh y31)) (Ag q nq ZD (gC h (λh=>Ag q V8 Mu (tS h (gK (B0 Kb)))) λh=>tS h (gK (B0 (Bs CQ W1 q))))))) (match x32,h with | .inl ⟨l26,i27,l28⟩,h=>bL (λst' hl33=>tS h (gO (B0 (Le.trans hl33 Kb)))) | .inr _,h=>gA (Ag q CQ W1 (tN h)))) λh=>tS h (gO (B0 (Bs Mu Mu q))))) λx35 h=>(match x35,h with | .inl _,h=>gA (Ag q [4] [4] (tS h (JT (Oa (Hd [] (Le.refl _ _)))))) | .inr ⟨l23,i24,l25⟩,h=>bL (λst' hl37=>tS h (dk (Le.trans hl37 Kb)))))) (gAr (λst' hk=>tS h (gK hk))))
def Uk(aH:Ad)(aD:Ad):Int->Option (LR Int (Unit ⊕ Bool)):=
 λ(i1:Int)=>(bif (decide (i1<(aH.length:Int))) then(Az (Ay i1 aH.length) (Az (Ay i1 aD.length) (bif ((aH.getD i1.toNat 0)!=(aD.getD i1.toNat 0)) then(some (.done (.inr false))) else(some (.next (A3 (i1+1))))))) else(some (.done (.inl ()))))
def X6(Γ:G8)(aH:Ad)(aD:Ad)(r:Bool):Exit->St->Prop:=fK Tryz.prog Γ Tryz.f23.results.toList [] (.bool r) []
def Ko(aH:Ad)(aD:Ad):Option Bool:=
 (bif ((aH.length:Int)!=(aD.length:Int)) then(some false) else((Af (Uk aH aD) (0:Int)).bind (λx4=>(match x4 with|(.inl _)=>(some true)|(.inr r6)=>(some r6)))))
theorem Oj(h:Ko v2 v17=some v3):sP 23 [(Lo v2),(Lo v17)] [] (.bool v3) []:=
 sG Tryz.func23 λΓ q=>tW q Cy [] V7 [] (gC h (λh=>Ag q [4] [] (tS h (Bj []))) λh=>Ag q V9 [] (tL q h V9 [] (λu i1=>(Dv u [(5,(Aq i1))] [])) (λu x_=>match x_ with|(.inl _)=>aG Γ (.exit 0) (⟨[],[],[]⟩:St)|(.inr r_)=>aR (X6 Γ v2 v17 r_)) (λi1 y h=>Ag q [0,1,5,14] [] (gC h (λh=>tC h λc2_ h=>tC h λc3_ h=>tU q [0,1,5,25] [] (c2 c2_ c3_) (gC h (λh=>Ag q [4] [] (tS h (gO (Oa (Hd [] (Le.refl _ _)))))) λh=>Ag q V9 [] (tN h))) λh=>tS h (gO (B0 (Bs [] [] q))))) λx4 h=>(match x4,h with | .inl _,h=>gA (Ag q [4] [] (tS h (Bj []))) | .inr r6,h=>gAr (λst' hk=>tS h (gK hk)))))
def dJ(x2:IM):=(bif (((((x2.1.Blocks.getD (0:Int).toNat (default:Ab)).Ops).getD (2:Int).toNat (default:A6)).Kind:Int)==13) then(((((x2.1.Blocks.getD (0:Int).toNat (default:Ab)).Ops).getD (2:Int).toNat (default:A6)).Dst:Int)==5) else false)
def iX(x2:IM)(x12:Bool):=((bif (dJ x2) then x12 else false)==true)
def vA(x7:Aa):=((x7.Blocks.length:Int)!=2)
def sg:=([(1:Int),(2:Int),(3:Int)]:Ad)
def dK(x2:IM)(x4:IM):=(bif (bif (bif (x2.2 !=0) then true else(x4.2 !=10)) then true else((x2.1.Blocks.length:Int)!=2)) then true else((((x2.1.Blocks.getD (0:Int).toNat (default:Ab)).Ops).length:Int)!=3))
def ov(x2:IM)(x4:IM)(x7:Aa):=((bif (dK x2 x4) then true else(vA x7))==false)
def xO(x2:IM)(x4:IM):=((bif (x2.2 !=0) then true else(x4.2 !=10))==false)
def xP(x2:IM):=((((((x2.1.Blocks.getD (0:Int).toNat (default:Ab)).Ops).getD (2:Int).toNat (default:A6)).Kind:Int)==13)==true)
def u9(x2:IM)(x4:IM):=((bif (bif (x2.2 !=0) then true else(x4.2 !=10)) then true else((x2.1.Blocks.length:Int)!=2))==false)
def m_locksteplaw15_awake :Option Bool:=
 (m_locksteplaw15_diamond.bind λx1=>((G5 x1 (⟨(0:Int),(1:Int),(2:Int),(3:Int)⟩:THammock)).bind λx2=>(m_locksteplaw15_diamond.bind λx3=>((G5 x3 (⟨(0:Int),(0:Int),(0:Int),(0:Int)⟩:THammock)).bind λx4=>(Az (((bif (bif (x2.2 !=0) then true else(x4.2 !=10)) then true else((x2.1.Blocks.length:Int)!=2))==false)=true->(Ay (0:Int) x2.1.Blocks.length)) ((bif ((bif (bif (bif (x2.2 !=0) then true else(x4.2 !=10)) then true else((x2.1.Blocks.length:Int)!=2)) then true else((((x2.1.Blocks.getD (0:Int).toNat (default:Ab)).Ops).length:Int)!=3))==false) then m_locksteplaw15_diamond else some (default:Aa)).bind λx6=>((bif ((bif (bif (bif (x2.2 !=0) then true else(x4.2 !=10)) then true else((x2.1.Blocks.length:Int)!=2)) then true else((((x2.1.Blocks.getD (0:Int).toNat (default:Ab)).Ops).length:Int)!=3))==false) then Ja x6 (2:Int) else some (default:Aa)).bind λx7=>((bif ((bif (bif (bif (bif (x2.2 !=0) then true else(x4.2 !=10)) then true else((x2.1.Blocks.length:Int)!=2)) then true else((((x2.1.Blocks.getD (0:Int).toNat (default:Ab)).Ops).length:Int)!=3)) then true else((x7.Blocks.length:Int)!=2))==false) then m_locksteplaw15_diamond else some (default:Aa)).bind λx8=>((bif ((bif (bif (bif (bif (x2.2 !=0) then true else(x4.2 !=10)) then true else((x2.1.Blocks.length:Int)!=2)) then true else((((x2.1.Blocks.getD (0:Int).toNat (default:Ab)).Ops).length:Int)!=3)) then true else((x7.Blocks.length:Int)!=2))==false) then Ja x8 (1:Int) else some (default:Aa)).bind λx9=>(bif (bif (bif (bif (bif (bif (x2.2 !=0) then true else(x4.2 !=10)) then true else((x2.1.Blocks.length:Int)!=2)) then true else((((x2.1.Blocks.getD (0:Int).toNat (default:Ab)).Ops).length:Int)!=3)) then true else((x7.Blocks.length:Int)!=2)) then true else((x9.Blocks.length:Int)!=4)) then(some false) else(Az (Ay (0:Int) x2.1.Blocks.length) (Az (Ay (2:Int) ((x2.1.Blocks.getD (0:Int).toNat (default:Ab)).Ops).length) ((bif ((bif (((((x2.1.Blocks.getD (0:Int).toNat (default:Ab)).Ops).getD (2:Int).toNat (default:A6)).Kind:Int)==13) then(((((x2.1.Blocks.getD (0:Int).toNat (default:Ab)).Ops).getD (2:Int).toNat (default:A6)).Dst:Int)==5) else false)==true) then Ko ((((x2.1.Blocks.getD (0:Int).toNat (default:Ab)).Ops).getD (2:Int).toNat (default:A6)).Args) ([(1:Int),(2:Int),(3:Int)]:Ad) else some false).bind λx12=>(Az (((bif (bif (((((x2.1.Blocks.getD (0:Int).toNat (default:Ab)).Ops).getD (2:Int).toNat (default:A6)).Kind:Int)==13) then(((((x2.1.Blocks.getD (0:Int).toNat (default:Ab)).Ops).getD (2:Int).toNat (default:A6)).Dst:Int)==5) else false) then x12 else false)==true)=true->(Ay (1:Int) x2.1.Blocks.length)) (Az (((bif (bif (((((x2.1.Blocks.getD (0:Int).toNat (default:Ab)).Ops).getD (2:Int).toNat (default:A6)).Kind:Int)==13) then(((((x2.1.Blocks.getD (0:Int).toNat (default:Ab)).Ops).getD (2:Int).toNat (default:A6)).Dst:Int)==5) else false) then x12 else false)==true)=true->(Ay (0:Int) ((x2.1.Blocks.getD (1:Int).toNat (default:Ab)).Phis).length)) ((bif ((bif (bif (((((x2.1.Blocks.getD (0:Int).toNat (default:Ab)).Ops).getD (2:Int).toNat (default:A6)).Kind:Int)==13) then(((((x2.1.Blocks.getD (0:Int).toNat (default:Ab)).Ops).getD (2:Int).toNat (default:A6)).Dst:Int)==5) else false) then x12 else false)==true) then Ko ((((x2.1.Blocks.getD (1:Int).toNat (default:Ab)).Phis).getD (0:Int).toNat (default:Bb)).From) ([(0:Int)]:Ad) else some false).bind λx15=>(some (bif (bif (bif (((((x2.1.Blocks.getD (0:Int).toNat (default:Ab)).Ops).getD (2:Int).toNat (default:A6)).Kind:Int)==13) then(((((x2.1.Blocks.getD (0:Int).toNat (default:Ab)).Ops).getD (2:Int).toNat (default:A6)).Dst:Int)==5) else false) then x12 else false) then x15 else false))))))))))))))))))
theorem V2  (r:Bool) (h:m_locksteplaw15_awake=some r):sP 7 [] [] (.bool r) []:=
 sG Tryz.func7 λΓ q=>Ag q [] [] (tB h λx1 y1 h=>tB h λx2 y2 h=>tT q R9 [1] [(dN x1),(pR x2.1 x2.2)] (c2 (Fv  x1 y1) (Mh y2)) (tB h λx3 y3 h=>tB h λx4 y4 h=>tT q V8 [1] [(dN x3),(pR x4.1 x4.2)] (c2 (Fv  x3 y3) (Mh y4)) (tC h λc5_ h=>tB h λx6 y6 h=>tB h λx7 y7 h=>tB h λx8 y8 h=>tB h λx9 y9 h=>tT q [1,52] [1] [(dN x6),(dN x7),(dN x8),(dN x9)] (NT (gI ((x2.2 !=0)==false)) (Pv (x2.2 !=0)) (dj (xO x2 x4) (ci (Pv (bif (x2.2 !=0) then true else(x4.2 !=10))) (Qy (u9 x2 x4) (ci c5_ (tk (u9 x2 x4) (SG (Pv (bif (bif (x2.2 !=0) then true else(x4.2 !=10)) then true else((x2.1.Blocks.length:Int)!=2))) (λ(hg:((dK x2 x4)==false)=true)=>(Fv  x6 (B4 hg y6))) (gI ((dK x2 x4)==false)) (λ(hg:((dK x2 x4)==false)=true)=>(Tu (B4 hg y7))) (dj ((dK x2 x4)==false) (SG (Pv (dK x2 x4)) (λ(hg:(ov x2 x4 x7)=true)=>(Fv  x8 (B4 hg y8))) (gI (ov x2 x4 x7)) (λ(hg:(ov x2 x4 x7)=true)=>(Tu (B4 hg y9))) (dj (ov x2 x4 x7) (c1 (Pv (bif (dK x2 x4) then true else(vA x7)))))))))))))) (gC h (λh=>Ag q [0] [] (tS h (Bj []))) λh=>tC h λc10_ h=>tC h λc11_ h=>tU q [1,5] [1,5] (c2 c10_ c11_) (tB h λx12 y12 h=>tC h λc13_ h=>tC h λc14_ h=>tB h λx15 y15 h=>gR q [0] [] [(71,(pY sg)),(83,(AV.list 1 Ao 0 ([(0:Int)]:Ad) .exact))] [(Z9 x12),(Z9 x15)] (Qy (xP x2) (yh (O9 (((((x2.1.Blocks.getD (0:Int).toNat (default:Ab)).Ops).getD (2:Int).toNat (default:A6)).Kind:Int)==13)) (gI ((dJ x2)==true)) (show(((dJ x2)==true)=true->(AVle (.slice 1 3 (λi=>([[ZT],[ZI],[LE]]:List (List AV)).getD i []) .exact) (pY sg))) from(λhg=>@(A0 1 Ao (0:Int) sg))) (Qy ((dJ x2)==true) (NT (λ(hg:((dJ x2)==true)=true)=>(Oj (B4 hg y12))) (O9 (dJ x2)) (Qy (iX x2 x12) (ci c13_ (dj (iX x2 x12) (ci c14_ (Qy (iX x2 x12) (ci (show((iX x2 x12)=true->(AVle (.slice 1 1 (λi=>([[In]]:List (List AV)).getD i []) .exact) (AV.list 1 Ao 0 ([(0:Int)]:Ad) .exact))) from(λhg=>@(A0 1 Ao (0:Int) ([(0:Int)]:Ad)))) (Qy (iX x2 x12) (c2 (λ(hg:(iX x2 x12)=true)=>(Oj (B4 hg y15))) (O9 (bif (dJ x2) then x12 else false)))))))))))))) (tS h (Bj [])))))))
def Cd(a9:Aa)(i2:Int):G2->Option rQ:=
 λ((i5,i6):G2)=>(Az (Ay i2 a9.Blocks.length) (bif (bif (decide (i6<(((a9.Blocks.getD i2.toNat default).Phis).length:Int))) then(decide (i5<=20000)) else false) then(Az (Ay i2 a9.Blocks.length) (Az (Ay i6 ((a9.Blocks.getD i2.toNat default).Phis).length) (Az (Ay i2 a9.Blocks.length) (Az (Ay i6 ((a9.Blocks.getD i2.toNat default).Phis).length) (some (.next ((A3 ((A3 ((A3 (i5+1))+(((((a9.Blocks.getD i2.toNat default).Phis).getD i6.toNat default).From).length:Int)))+(((((a9.Blocks.getD i2.toNat default).Phis).getD i6.toNat default).Args).length:Int))),(A3 (i6+1))))))))) else(some (.done i5))))
def Ce(a9:Aa)(i2:Int):G2->Option rQ:=
 λ((i15,i16):G2)=>(Az (Ay i2 a9.Blocks.length) (bif (bif (decide (i16<(((a9.Blocks.getD i2.toNat default).Ops).length:Int))) then(decide (i15<=20000)) else false) then(Az (Ay i2 a9.Blocks.length) (Az (Ay i16 ((a9.Blocks.getD i2.toNat default).Ops).length) (some (.next ((A3 ((A3 (i15+1))+(((((a9.Blocks.getD i2.toNat default).Ops).getD i16.toNat default).Args).length:Int))),(A3 (i16+1))))))) else(some (.done i15))))
def Cf(a9:Aa):G2->Option rQ:=
 λ((i1,i2):G2)=>(bif (bif (decide (i2<(a9.Blocks.length:Int))) then(decide (i1<=20000)) else false) then(Az (Ay i2 a9.Blocks.length) ((Af (Cd a9 i2) ((A3 ((A3 (i1+1))+(((a9.Blocks.getD i2.toNat default).End.To).length:Int))),(0:Int))).bind (λx13=>((Af (Ce a9 i2) (x13,(0:Int))).bind (λx21=>(some (.next (x21,(A3 (i2+1)))))))))) else(some (.done i1)))
def Bx(a9:Aa):Option Bool:=
 ((Af (Cf a9) ((a9.Params.length:Int),(0:Int))).bind (λx23=>(some (decide (x23<=20000)))))
open Go Go.RowKit
set_option maxRecDepth 100000
set_option maxHeartbeats 2000000
def iY:AV:=(AV.list 1 T9 0 ([]:Ad) .exact)
def vC:=(⟨[(2,(.vsl 36002 ([]:Ad).length))],[(36002,.arr 1 5 (([]:Ad).length) (λi=>T9 (([]:Ad).getD i 0)))],[]⟩:St)
def Gr(aP:Ad):Option Ad:=
 (Az (aP.length<=room) (some aP))
theorem P4(h:Gr v2=some v17):sP 55 [(AV.list 1 T9 0 v2 .none)] [] (.vsl 20000 v17.length) [(RU 20000 v17)]:=by
 refine Uz mix Tryz.func55 (λΓ hq=>?_);unfold Gr at h;refine gR hq [0] [] [(2,iY)] [] (c1 (Be 1 T9 (0:Int))) ?_;refine Ag hq Mt [] ?_;refine tm true v2.length (λhb=>?_) (λhb=>?_)
 ·replace h:=eC (some ([]:Ad)) (λ(l2:Ad)=>(Az (l2.length<=room) (some l2))) h (hb rfl) rfl (λh0=>by first|exact h0|simpa [Az,room] using h0);clear hb;refine gR hq [2] [] [(2,iY)] [] (c1 (Be 1 T9 (0:Int))) ?_;refine O8 (⟨[(2,iY)],[],[]⟩:St) ?_;cases h;exact gK (e:=.ret) (Hd [(36002,20000)] (show Le Γ _ vC from Le.trans (Bs (st':=⟨[(2,iY)],[],[]⟩) [2] [] hq) (Le.trans (OM (t:=2) (nm:=36002) (sz':=1) (λi=>T9 (([]:Ad).getD i 0)) 5 rfl rfl) (Bs (st':=vC) [2] [36002] hq))))
 ·clear hb;obtain⟨hc1,h⟩:=J7 h;refine gR hq [2] [7] [(5,iY),(7,.vsl 7 0)] [] (ci (show(AVle (.slice 1 0 (λi=>([]:List (List AV)).getD i []) .exact) iY) from WT rfl (λi hi=>absurd hi (S5 i))) (c1 hc1)) ?_;obtain rfl:=OI h;exact Bj fa
def sk(x1:Ad):List AV:=[(.vsl 8 x1.length),(AV.list 3 I5 default ([]:List An) .exact)]
def vE(x1:Ad):=(⟨[(2,(.ptr 10 0)),(3,In)],[(8,.arr 1 5 x1.length (λi=>T9 (x1.getD i 0))),(10,.row 113 (sk x1))],[]⟩:St)
def vD(x1:Ad):=(⟨[(2,(.ptr 10 0)),(3,In)],[(8,.arr 1 5 x1.length (λi=>T9 (x1.getD i 0))),(10,.row 113 [(.vsl 8 x1.length),(AV.list 3 I5 default ([]:List An) (.own 6102001))]),(6102001,.tok 3 239 (([]:List An).length))],[]⟩:St)
abbrev rS:=((Bool×s4)×Int)
def HM(aD:Ad):Option rS:=
 (bif (decide ((4096:Int)<(aD.length:Int))) then(some ((false,(default:s4)),(4:Int))) else((Gr aD).bind λx1=>(some ((true,(⟨x1,([]:List An)⟩:s4)),(0:Int)))))
variable{v53:rS}
theorem PC(h:HM v2=some v53):sP 20 [(AV.list 1 T9 0 v2 .none)] [] (.tuple [(bif v53.1.1 then((F3 20000):AV) else .nilp),(Aq v53.2)]) (bif v53.1.1 then(kn 20000 21000 v53.1.2.bytes v53.1.2.trace 21001 v53.1.2.trace.length) else[]):=
 sG Tryz.func20 λΓ q=>tW q [0] [] [0,6] [] (gC h (λh=>Ag q F2 [] (tS h (Bj []))) λh=>tB h λx1 y1 h=>gR q F2 [8,10] [(9,(.agg (sk x1)))] [⟨[],[(20000,8)],(.vsl 20000 x1.length),[(RU 20000 x1)],[],[]⟩] (c2 (P4 y1) (show(AVle (.agg [(.vsl 8 x1.length),SD]) (.agg (sk x1))) from(AVle.agg (.cons (AVle.refl _) (.cons C6 .nil))))) (O8 (vE x1) (tS h (gK (e:=.ret) (Hd [(10,20000),(8,21000),(6102001,21001)] (show Le Γ _ (vD x1) from Le.trans (Bs (st':=(vE x1)) F2 [8,10] q) (Le.trans (Ym (r:=10) (j:=1) (nm:=6102001) (sz':=3) (λi=>I5 (([]:List An).getD i default)) 239 rfl rfl (nl rfl) rfl (.inl ⟨rfl,rfl⟩) (λh_=>absurd h_ (by decide))) (Bs (st':=(vD x1)) F2 [8,10,6102001] q))))))))
def Nm(a0:Fl)(a1:Int)(a4:Int)(a8:Ad)(a6:List An):Option Unit:=
 (some ())
variable{v54:List An}
theorem Up(h:Nm v14 v1 v11 v2 v54=some v32):sP 95 [(F3 30000),(Sb 96)] (Z6 v14 v1 v11 v2 v54 v54.length) (.clo 157 [] [(.rpo [(Sb 96)]),(.rpo CZ)]) (Z6 v14 v1 v11 v2 v54 v54.length):=
 sG Tryz.func95 λΓ q=>gR q F2 U6 [(2,(.rpo [])),(3,(.rpo []))] [] trivial (Ag q [4] U6 (tS h (Bj EE)))
def Lj(a0:Fl)(a1:Int)(a4:Int)(a8:Ad)(a6:List An):Option Unit:=
 (some ())
theorem Rs(h:Lj v14 v1 v11 v2 v54=some v32):sP 95 [(F3 30000),(Sb 97)] (Z6 v14 v1 v11 v2 v54 v54.length) (.clo 157 [] [(.rpo [(Sb 97)]),(.rpo CZ)]) (Z6 v14 v1 v11 v2 v54 v54.length):=
 sG Tryz.func95 λΓ q=>gR q F2 U6 [(2,(.rpo [])),(3,(.rpo []))] [] trivial (Ag q [4] U6 (tS h (Bj EE)))
def Nl(a0:Fl)(a1:Int)(a4:Int)(a8:Ad)(a6:List An):Option Unit:=
 (some ())
theorem Uo(h:Nl v14 v1 v11 v2 v54=some v32):sP 100 [(F3 30000),(.clo 98 CZ [])] (Z6 v14 v1 v11 v2 v54 v54.length) (.clo 160 [] [(.rpo CZ),(.rpo [(.clo 98 CZ [])])]) (Z6 v14 v1 v11 v2 v54 v54.length):=
 sG Tryz.func100 λΓ q=>gR q F2 U6 [(2,(.rpo [])),(3,(.rpo []))] [] trivial (Ag q [4] U6 (tS h (Bj EE)))
def Lh(a0:Fl)(a1:Int)(a4:Int)(a8:Ad)(a6:List An):Option Unit:=
 (some ())
theorem Rq(h:Lh v14 v1 v11 v2 v54=some v32):sP 100 [(F3 30000),(.clo 99 CZ [])] (Z6 v14 v1 v11 v2 v54 v54.length) (.clo 160 [] [(.rpo CZ),(.rpo [(.clo 99 CZ [])])]) (Z6 v14 v1 v11 v2 v54 v54.length):=
 sG Tryz.func100 λΓ q=>gR q F2 U6 [(2,(.rpo [])),(3,(.rpo []))] [] trivial (Ag q [4] U6 (tS h (Bj EE)))
def Bk(aV:Int)(a0:Fl)(a1:Int)(a4:Int)(a8:Ad)(a6:List An):Option Unit:=
 (some ())
theorem Bl(h:Bk v1 v14 v11 v20 v2 v54=some v32):sP 101 (oK v1) (Z6 v14 v11 v20 v2 v54 v54.length) (pS v1) (Z6 v14 v11 v20 v2 v54 v54.length):=
 sG Tryz.func101 λΓ q=>gR q F2 U6 [(2,(.rpo [])),(3,(.rpo []))] [] trivial (Ag q [4] U6 (tS h (Bj EE)))
def Li(a_doc1:Int)(a0:Fl)(a1:Int)(a4:Int)(a8:Ad)(a6:List An):Option Unit:=
 (some ())
theorem Rr(h:Li v1 v14 v11 v20 v2 v54=some v32):sP 100 [(F3 30000),(pS v1)] (Z6 v14 v11 v20 v2 v54 v54.length) (.clo 160 [] [(.rpo CZ),(.rpo [(pS v1)])]) (Z6 v14 v11 v20 v2 v54 v54.length):=
 sG Tryz.func100 λΓ q=>gR q F2 U6 [(2,(.rpo [])),(3,(.rpo []))] [] trivial (Ag q [4] U6 (tS h (Bj EE)))
def Vc:List AV:=CZ
def Xb(a6:List An):Own:=(.tok 3 239 a6.length)
def Xa(a0:Fl):Own:=(.arr 1 64 a0.length (λi=>C9 (a0.getD i [])))
def W9(a8:Ad):Own:=(.arr 1 5 a8.length (λi=>T9 (a8.getD i 0)))
def W8(a8:Ad)(a6:List An):Own:=(.row 113 (MH 35100 a8.length a6 37101))
def W7(a0:Fl)(a1:Int)(a4:Int):Own:=(.row 118 [(F3 30001),.nilm,(.vsl 35002 a0.length),(Aq a1),(Aq a4)])
def W6(a0:Fl)(a1:Int)(a4:Int)(a8:Ad)(a6:List An):List U8:=(Z6 a0 a1 a4 a8 a6 a6.length)
def Mw(a0:Fl)(a1:Int)(a4:Int)(a8:Ad)(a6:List An):Option Unit:=
 ((Nm a0 a1 a4 a8 a6).bind λx1=>((Lj a0 a1 a4 a8 a6).bind λx2=>((Nl a0 a1 a4 a8 a6).bind λx3=>((Lh a0 a1 a4 a8 a6).bind λx4=>((Bk (4:Int) a0 a1 a4 a8 a6).bind λx5=>((Li (4:Int) a0 a1 a4 a8 a6).bind λx6=>((Bk (1:Int) a0 a1 a4 a8 a6).bind λx7=>((Bk (2:Int) a0 a1 a4 a8 a6).bind λx8=>((Bk (3:Int) a0 a1 a4 a8 a6).bind λx9=>((Bk (4:Int) a0 a1 a4 a8 a6).bind λx10=>((Bk (5:Int) a0 a1 a4 a8 a6).bind λx11=>((Bk (6:Int) a0 a1 a4 a8 a6).bind λx12=>((Bk (7:Int) a0 a1 a4 a8 a6).bind λx13=>((Bk (8:Int) a0 a1 a4 a8 a6).bind λx14=>((Bk (9:Int) a0 a1 a4 a8 a6).bind λx15=>((Bk (10:Int) a0 a1 a4 a8 a6).bind λx16=>((Bk (11:Int) a0 a1 a4 a8 a6).bind λx17=>((Bk (12:Int) a0 a1 a4 a8 a6).bind λx18=>(some ())))))))))))))))))))
theorem Tt(h:Mw v14 v1 v11 v2 v54=some v32):sP 56 CZ (Z6 v14 v1 v11 v2 v54 v54.length) (.omap 20000) [(30000,.row 118 [(F3 30001),.nilm,(.vsl 35002 v14.length),(Aq v1),(Aq v11)]),(BJ 30001 35100 v2.length v54 37101),(Tc 37101 v54.length),(WL 35002 v14),(RU 35100 v2),(j7 20000)]:=
 sG Tryz.func56 λΓ q=>Ag q [0] U6 (tB h λx1 y1 h=>tB h λx2 y2 h=>tB h λx3 y3 h=>tB h λx4 y4 h=>tB h λx5 y5 h=>tB h λx6 y6 h=>tT q Ln Ip [(yc 96 Vc (W6 v14 v1 v11 v2 v54)),(yc 97 Vc (W6 v14 v1 v11 v2 v54)),(yW Vc 98 (W6 v14 v1 v11 v2 v54)),(yW Vc 99 (W6 v14 v1 v11 v2 v54)),(yd Vc (W6 v14 v1 v11 v2 v54)),⟨EE,[],(.clo 160 [] [(.rpo Vc),(.rpo [(.clo 161 [] [(.rpo Vc),(.rpo [SE])])])]),(W6 v14 v1 v11 v2 v54),[],GR⟩] (ci (Up y1) (gw [(W7 v14 v1 v11),(W8 v2 v54),(Xb v54),(Xa v14),(W9 v2)] (ci (Rs y2) (gw [(W7 v14 v1 v11),(W8 v2 v54),(Xb v54),(Xa v14),(W9 v2)] (ci (Uo y3) (gw [(W7 v14 v1 v11),(W8 v2 v54),(Xb v54),(Xa v14),(W9 v2)] (ci (Rq y4) (gw [(W7 v14 v1 v11),(W8 v2 v54),(Xb v54),(Xa v14),(W9 v2)] (ci (Bl y5) (gw [(W7 v14 v1 v11),(W8 v2 v54),(Xb v54),(Xa v14),(W9 v2)] (ci (Rr y6) (Qe [(W7 v14 v1 v11),(W8 v2 v54),(Xb v54),(Xa v14),(W9 v2)])))))))))))) (Ag q F1 Ip (gU 64 (Ag q U7 Ip (BK true (tB h λx7 y7 h=>tT q F1 Ip [⟨EE,[],(.clo 161 [] [(.rpo Vc),(.rpo [ZT])]),(W6 v14 v1 v11 v2 v54),[],GR⟩] (ci (Bl y7) (Qe [(W7 v14 v1 v11),(W8 v2 v54),(Xb v54),(Xa v14),(W9 v2)])) (tW q F1 Ip U7 Ip (BK true (tB h λx8 y8 h=>tT q F1 Ip [⟨EE,[],(.clo 161 [] [(.rpo Vc),(.rpo [ZI])]),(W6 v14 v1 v11 v2 v54),[],GR⟩] (ci (Bl y8) (Qe [(W7 v14 v1 v11),(W8 v2 v54),(Xb v54),(Xa v14),(W9 v2)])) (tW q F1 Ip U7 Ip (BK true (tB h λx9 y9 h=>tT q F1 Ip [⟨EE,[],(.clo 161 [] [(.rpo Vc),(.rpo [LE])]),(W6 v14 v1 v11 v2 v54),[],GR⟩] (ci (Bl y9) (Qe [(W7 v14 v1 v11),(W8 v2 v54),(Xb v54),(Xa v14),(W9 v2)])) (tW q F1 Ip U7 Ip (BK true (tB h λx10 y10 h=>tT q F1 Ip [(yd Vc (W6 v14 v1 v11 v2 v54))] (ci (Bl y10) (Qe [(W7 v14 v1 v11),(W8 v2 v54),(Xb v54),(Xa v14),(W9 v2)])) (tW q F1 Ip U7 Ip (BK true (tB h λx11 y11 h=>tT q F1 Ip [⟨EE,[],(.clo 161 [] [(.rpo Vc),(.rpo [WK])]),(W6 v14 v1 v11 v2 v54),[],GR⟩] (ci (Bl y11) (Qe [(W7 v14 v1 v11),(W8 v2 v54),(Xb v54),(Xa v14),(W9 v2)])) (tW q F1 Ip U7 Ip (BK true (tB h λx12 y12 h=>tT q F1 Ip [⟨EE,[],(.clo 161 [] [(.rpo Vc),(.rpo [(.int .i64 (6:Int))])]),(W6 v14 v1 v11 v2 v54),[],GR⟩] (ci (Bl y12) (Qe [(W7 v14 v1 v11),(W8 v2 v54),(Xb v54),(Xa v14),(W9 v2)])) (tW q F1 Ip U7 Ip (BK true (tB h λx13 y13 h=>tT q F1 Ip [⟨EE,[],(.clo 161 [] [(.rpo Vc),(.rpo [(.int .i64 (7:Int))])]),(W6 v14 v1 v11 v2 v54),[],GR⟩] (ci (Bl y13) (Qe [(W7 v14 v1 v11),(W8 v2 v54),(Xb v54),(Xa v14),(W9 v2)])) (tW q F1 Ip U7 Ip (BK true (tB h λx14 y14 h=>tT q F1 Ip [⟨EE,[],(.clo 161 [] [(.rpo Vc),(.rpo [NJ])]),(W6 v14 v1 v11 v2 v54),[],GR⟩] (ci (Bl y14) (Qe [(W7 v14 v1 v11),(W8 v2 v54),(Xb v54),(Xa v14),(W9 v2)])) (tW q F1 Ip U7 Ip (BK true (tB h λx15 y15 h=>tT q F1 Ip [⟨EE,[],(.clo 161 [] [(.rpo Vc),(.rpo [(.int .i64 (9:Int))])]),(W6 v14 v1 v11 v2 v54),[],GR⟩] (ci (Bl y15) (Qe [(W7 v14 v1 v11),(W8 v2 v54),(Xb v54),(Xa v14),(W9 v2)])) (tW q F1 Ip U7 Ip (BK true (tB h λx16 y16 h=>tT q F1 Ip [(xn Vc 10 (W6 v14 v1 v11 v2 v54))] (ci (Bl y16) (Qe [(W7 v14 v1 v11),(W8 v2 v54),(Xb v54),(Xa v14),(W9 v2)])) (tW q F1 Ip U7 Ip (BK true (tB h λx17 y17 h=>tT q F1 Ip [(xn Vc 11 (W6 v14 v1 v11 v2 v54))] (ci (Bl y17) (Qe [(W7 v14 v1 v11),(W8 v2 v54),(Xb v54),(Xa v14),(W9 v2)])) (tW q F1 Ip U7 Ip (BK true (tB h λx18 y18 h=>tT q F1 Ip [(xn Vc 12 (W6 v14 v1 v11 v2 v54))] (ci (Bl y18) (Qe [(W7 v14 v1 v11),(W8 v2 v54),(Xb v54),(Xa v14),(W9 v2)])) (tW q F1 Ip U7 Ip (BK false (Ag q [2] Ip (tS h (Bj [(30000,30000),(30001,30001),(37101,37101),(35002,35002),(35100,35100),(5,20000)]))))))))))))))))))))))))))))))))))))))))))))
def vF(aJ:Int):=(⟨[(2,(AV.list 1 Cz 0 ([aJ]:Ad) (.own 6002)))],[(6002,.tok 1 49 (([aJ]:Ad).length))],[]⟩:St)
def Mq(aJ:Int):Option Ad:=
 (some ([aJ]:Ad))
theorem My(h:Mq v1=some v2):sP 104 [(M4 v1)] [] (fi v2 20000) [(20000,.tok 1 49 v2.length)]:=
 sG Tryz.func104 λΓ q=>gR q [0] [] [(2,WM)] [] (c1 (Be 1 Cz (0:Int))) (gR q [2] [] [(4,(kd v1))] [] (c1 (A0 1 Cz (0:Int) ([v1]:Ad))) (O8 (⟨[(2,(kd v1))],[],[]⟩:St) (tS h (gK (e:=.ret) (Hd fU (show Le Γ _ (vF v1) from Le.trans (Bs (st':=⟨[(2,(kd v1))],[],[]⟩) [2] [] q) (Le.trans (Oq (t:=2) (nm:=6002) (sz':=1) (λi=>Cz (([v1]:Ad).getD i 0)) 49 rfl rfl (.inl ⟨rfl,rfl⟩) (λh_=>absurd h_ (by decide))) (Bs (st':=(vF v1)) [2] [6002] q))))))))
def Uf(a9:Aa)(aa4:Ad):iA->Option ui:=
 λ((i1,l2):iA)=>(bif (decide (i1<(a9.Params.length:Int))) then(Az (Ay i1 a9.Params.length) (Az (Ay i1 aa4.length) ((H5 (aa4.getD i1.toNat 0) (a9.Params.getD i1.toNat 0)).bind λx6=>((Mq x6).bind λx7=>(Az (Ay (A3 (i1+1)) l2.length) (some (.next ((A3 (i1+1)),(l2.set (A3 (i1+1)).toNat x7))))))))) else(some (.done l2)))
def Ug(a9:Aa):iA->Option ui:=
 λ((i12,l13):iA)=>(bif (decide (i12<(((a9.Blocks.getD (0:Int).toNat (default:Ab)).Phis).length:Int))) then(Az (Ay i12 ((a9.Blocks.getD (0:Int).toNat (default:Ab)).Phis).length) ((Mq (0:Int)).bind λx16=>(Az (Ay (((a9.Blocks.getD (0:Int).toNat (default:Ab)).Phis).getD i12.toNat default).Dst l13.length) (some (.next ((A3 (i12+1)),(l13.set ((((a9.Blocks.getD (0:Int).toNat (default:Ab)).Phis).getD i12.toNat default).Dst).toNat x16))))))) else(some (.done l13)))
def o4(a9:Aa)(i12:Int):=((((a9.Blocks.getD (0:Int).toNat (default:Ab)).Phis).getD i12.toNat default).Dst)
abbrev rT:=(Int×Int×List An×Fl×Ad)
def Pi(a9:Aa)(aa4:Ad)(a0:Fl)(a1:Int)(a4:Int)(a8:Ad)(a6:List An):Option rT:=
 ((Af (Uf a9 aa4) ((0:Int),a0)).bind (λx9=>(Az (Ay (0:Int) a9.Blocks.length) ((Af (Ug a9) ((0:Int),x9)).bind (λx18=>(some (a1,a4,a6,x18,a8)))))))
variable{v55:rT}
theorem Xw(h:Pi v0 v2 v14 v1 v11 v17 v54=some v55):sP 57 [(F3 30000),(RV v0),(dO v2)] (Z1 v14 v1 v11 v17 v54 v54.length) (.tuple []) (Z1 v55.2.2.2.1 v55.1 v55.2.1 v55.2.2.2.2 v55.2.2.1 v55.2.2.1.length):=
 sG Tryz.func57 λΓ q=>tW q [0,2,4] Oc YQ Oc (tL q h YQ Oc (λu (i1,l2)=>(Dv u [(Db 13 i1)] [(TL l2.length v1 v11),(WL 35002 l2)])) (λu l3=>aG Γ (.exit 0) (V4 Mt Oc u [] [(TL l3.length v1 v11),(WL 35002 l3)])) (λ⟨i1,l2⟩ y h=>Ag q [0,2,4,11,12,13,14] Oc (gC h (λh=>tV q [0,2,4,6,7,11,12,13] Oc h λh=>tC h λc5_ h=>tB h λx6 y6 h=>tB h λx7 y7 h=>tC h λc8_ h=>tT q YQ Oc [(TK x6),(xE 30 x7 x7.length)] (c5 c5_ (Kt y6) (My y7) c8_ (Eq.refl l2.length)) (Ka (Le.trans (Pa 35002 (show ∀ k_,k_<l2.length->AVleL ((λi_=>AV.eraseAll (λn_=>Bp n_ Oc) ((Il (λi=>C9 (l2.getD i [])) (A3 (i1+1)).toNat 0 [(fi x7 30)]) i_)) k_) ((λi=>C9 ((l2.set (A3 (i1+1)).toNat x7).getD i [])) k_) from(A8 (Cp ..).symm (PN (λ_ _=>rfl) (λ_=>rfl) (Fn c8_) rfl)))) (Pb (λ(k_:Nat) u=>(Dv u [] [(TL k_ v1 v11),(35002,.arr 1 64 k_ (λi=>C9 ((l2.set (A3 (i1+1)).toNat x7).getD i [])))])) (show l2.length=(l2.set (A3 (i1+1)).toNat x7).length from(Cp ..).symm))) (Ag q YQ Oc (tN h)))) λh=>tS h (gO (B0 (Bs Mt Oc q))))) λx9 h=>gA (tV q RT Dn h λh=>tL q h RT Dn (λu (i12,l13)=>(Dv u [(Db 39 i12)] [(TL l13.length v1 v11),(WL 35002 l13)])) (λu l14=>aG Γ (.exit 2) (V4 [] Dn u [] [(TL l14.length v1 v11),(WL 35002 l14)])) (λ⟨i12,l13⟩ y h=>Ag q [0,37,38,39,40] Dn (gC h (λh=>tV q [0,9,37,38,39] [9,30000,30001,35002,35100,37101,9100001] h λh=>tB h λx16 y16 h=>tC h λc17_ h=>tT q RT Dn [⟨[],[(20000,49)],(fi x16 20000),[(20000,.tok 1 49 x16.length)],[],[]⟩] (c3 (My y16) c17_ (Eq.refl l13.length)) (Ka (Le.trans (Pa 35002 (show ∀ k_,k_<l13.length->AVleL ((λi_=>AV.eraseAll (λn_=>Bp n_ Dn) ((Il (λi=>C9 (l13.getD i [])) (o4 v0 i12).toNat 0 [(fi x16 49)]) i_)) k_) ((λi=>C9 ((l13.set (o4 v0 i12).toNat x16).getD i [])) k_) from(A8 (Cp ..).symm (PN (λ_ _=>rfl) (λ_=>rfl) (Fn c17_) rfl)))) (Pb (λ(k_:Nat) u=>(Dv u [] [(TL k_ v1 v11),(35002,.arr 1 64 k_ (λi=>C9 ((l13.set (o4 v0 i12).toNat x16).getD i [])))])) (show l13.length=(l13.set (o4 v0 i12).toNat x16).length from(Cp ..).symm))) (Ag q RT Dn (tN h)))) λh=>tS h (gO (B0 (Bs [] Dn q))))) λx18 h=>bL (λst' hl19=>tS h (gK (e:=.normal) (Hd Lw hl19)))))
abbrev R7:=(Bool×Int×Int×List An×Fl×Ad)
def Ic(a0:Fl)(a1:Int)(a4:Int)(a8:Ad)(a6:List An):Option R7:=
 (bif (a4==a1) then(some (false,a1,a4,a6,a0,a8)) else(some (true,a1,(A3 (a4+1)),a6,a0,a8)))
variable{v56:R7}
theorem Kr(h:Ic v14 v1 v11 v2 v54=some v56):sP 108 CZ (Z1 v14 v1 v11 v2 v54 v54.length) (.bool v56.1) (Z1 v56.2.2.2.2.1 v56.2.1 v56.2.2.1 v56.2.2.2.2.2 v56.2.2.2.1 v56.2.2.2.1.length):=
 sG Tryz.func108 λΓ q=>tW q [0] Dn [0,11] Dn (gC h (λh=>Ag q [2] Dn (tS h (Bj Lw))) λh=>tW q [] Dn [2] Dn (tS h (Bj Lw)))
def Nx :BR->Option rJ:=
 λ((i7,l8):BR)=>(bif (decide (i7<(l8.length:Int))) then(Az (0<=i7/\0+i7.toNat<=l8.length) (Az (0<=i7/\0+i7.toNat<=l8.length) (some (.next ((A3 (i7+((Nat.min ((0+i7.toNat)-0) (l8.length-(0+i7.toNat))):Int))),(WX l8 (0+i7.toNat) (Nat.min ((0+i7.toNat)-0) (l8.length-(0+i7.toNat))) (λi=>l8.getD (0+i) 0))))))) else(some (.done l8)))
def NF(x3:G2):=(List.replicate (A3 x3.2).toNat (0:Int))
def sn(x3:G2)(aC:Ad):=(WX (NF x3) 0 (Nat.min aC.length ((NF x3).length-0)) (λi=>aC.getD i 0))
def sl(l8:Ad)(i7:Int):=(WX l8 (0+i7.toNat) (Nat.min ((0+i7.toNat)-0) (l8.length-(0+i7.toNat))) (λi=>l8.getD (0+i) 0))
def Iv(aC:Ad)(aaB:Int):Option Ad:=
 (Option.bind (α:=Unit) (bif (decide (aaB<0)) then none else(some ())) (λx1=>(match x1 with|_=>((Ml (Du (aC.length:Int)) (Du aaB)).bind λx3=>(Option.bind (α:=Unit) (bif (bif (decide ((0:Int)<x3.1)) then true else(decide ((9223372036854775807:Int)<x3.2))) then none else(some ())) (λx4=>(match x4 with|_=>(Az (0<=(A3 x3.2)/\(A3 x3.2)<=(A3 x3.2)/\(A3 x3.2)<=(room:Int)) ((Af (S:=BR) (X:=Ad) Nx (((Nat.min aC.length ((List.replicate (A3 x3.2).toNat (0:Int)).length-0)):Int),(WX (List.replicate (A3 x3.2).toNat (0:Int)) 0 (Nat.min aC.length ((List.replicate (A3 x3.2).toNat (0:Int)).length-0)) (λi=>aC.getD i 0)))).bind (λx12=>(some x12)))))))))))
theorem O0(h:Iv v2 v1=some v17):sP 155 [(dO v2),(Aq v1)] [] (fi v17 20000) [(20000,.tok 1 49 v17.length)]:=
 sG Tryz.func155 λΓ q=>have hΓ:=q.own;gR q Cy [] [(4,WM)] [] (c1 (Be 1 Cz (0:Int))) (tB h λx1 y1 h=>gJ y1 (λ_=>aG Γ .normal (⟨[(0,(dO v2)),(1,(Aq v1))],[],[]⟩:St)) (λy h=>Ag q V7 [] (gC h (λh=>nomatch h) λh=>tS h (gK (B0 (Bs Cy [] q))))) (gA (tB h λx3 y3 h=>tT q [0,5,6] [] [⟨[],[],(.tuple (X9 x3.1 x3.2)),[],[],[]⟩] (c1 (Y1 y3)) (tB h λx4 y4 h=>gJ y4 (λ_=>aG Γ .normal (⟨[(0,(dO v2)),(6,(M4 x3.2))],[],[]⟩:St)) (λy h=>tU q [0,6,26] [] (c2 (gI ((decide ((0:Int)<x3.1))==false)) (Pv (decide ((0:Int)<x3.1)))) (gC h (λh=>nomatch h) λh=>tS h (gK (B0 (Bs [0,6] [] q))))) (gA (tV q [0,7] [30] h λh=>by exact Ka (Le.trans (Pa 30 (show ∀ k_,k_<((A3 x3.2).toNat)->AVleL ((λi_=>AV.eraseAll (λn_=>Bp n_ [30]) ((λ_=>[(.int .u64 (0:Int))]) i_)) k_) ((λi=>Cz ((NF x3).getD i 0)) k_) from(λk hk=>K8 (e:=Cz) (d:=(0:Int)) (.cons (AVle.refl _) .nil) _ k (Lb hk)))) (Pb (λ(k_:Nat) u=>(Dv u (Vd 30 k_) [(30,.arr 1 49 k_ (λi=>Cz ((NF x3).getD i 0)))])) (show(A3 x3.2).toNat=(NF x3).length from(Pu ..).symm))) (tU q Wa [30] (c1 (Eq.refl ((NF x3).length))) (Ka (Le.trans (Pa 30 (show ∀ k_,k_<((NF x3).length)->AVleL ((λi_=>AV.eraseAll (λn_=>Bp n_ [30]) ((bB (λi=>Cz ((NF x3).getD i 0)) 0 (Nat.min v2.length ((NF x3).length-0)) (λi=>Cz (v2.getD i 0))) i_)) k_) ((λi=>Cz ((sn x3 v2).getD i 0)) k_) from(A8 (Ee ..) (λk_ hk_=>(Bn (AV.eraseAll (λn_=>Bp n_ [30])) ((AQ (e:=Cz) (d:=(0:Int)) (l:=(NF x3)) (s:=(λi=>v2.getD i 0)) (λ_ _=>rfl) (λ_ _=>rfl)) k_ hk_)).trans rfl)))) (Pb (λ(k_:Nat) u=>(Dv u (Vd 30 k_) [(30,.arr 1 49 k_ (λi=>Cz ((sn x3 v2).getD i 0)))])) (show(NF x3).length=(sn x3 v2).length from(Ee ..)))) (tL q h Wa [30] (λu (i7,l8)=>(Dv u [(7,(.vsl 30 l8.length)),(8,(Aq i7))] [(kr 30 l8)])) (λu l9=>aG Γ (.exit 0) (⟨(Vd 30 l9.length),[(kr 30 l9)],[]⟩:St)) (λ⟨i7,l8⟩ y h=>Ag q [7,8,37] [30] (gC h (λh=>tC h λc10_ h=>tC h λc11_ h=>tU q Wa [30] (c4 c10_ c11_ (Eq.refl l8.length) (Eq.refl l8.length)) (tS h (gN (Le.trans (Le.trans (Pa 30 (show ∀ k_,k_<l8.length->AVleL ((λi_=>AV.eraseAll (λn_=>Bp n_ [30]) ((bB (λi=>Cz (l8.getD i 0)) (0+i7.toNat) (Nat.min ((0+i7.toNat)-0) (l8.length-(0+i7.toNat))) (λi=>(λi=>Cz (l8.getD i 0)) (0+i))) i_)) k_) ((λi=>Cz ((sl l8 i7).getD i 0)) k_) from(A8 (Ee ..) (λk_ hk_=>(Bn (AV.eraseAll (λn_=>Bp n_ [30])) ((AQ (e:=Cz) (d:=(0:Int)) (l:=l8) (s:=(λi=>l8.getD (0+i) 0)) (λ_ _=>rfl) (λ_ _=>rfl)) k_ hk_)).trans rfl)))) (Pb (λ(k_:Nat) u=>(Dv u (Vd 30 k_) [(30,.arr 1 49 k_ (λi=>Cz ((sl l8 i7).getD i 0)))])) (show l8.length=(sl l8 i7).length from(Ee ..)))) Kb)))) λh=>tS h (gO (B0 (Bs [7] [30] q))))) λx12 h=>gA (Ag q [4] [30] (O8 (⟨[(4,(.vsl 30 x12.length))],[(kr 30 x12)],[]⟩:St) (tS h (gK (e:=.ret) (Hd fZ (Le.trans (Fg (nm:=30) (sz:=1) (n:=x12.length) (e:=49) (f:=(λi=>Cz (x12.getD i 0))) (g:=(λi=>Cz (x12.getD i 0))) rfl ⟨rfl,trivial⟩ (λ_ _=>rfl) (by rw[hΓ];rfl)) (Kc (st':=⟨[(4,(fi x12 30))],[(30,.tok 1 49 x12.length)],[]⟩) (by kernel_rfl)))))))))))))))))
abbrev QK:=(Ad×Int)
def Wh(a2:A6):Option QK:=
 ((Mq a2.Imm).bind λx1=>((Iv x1 a2.Lanes).bind λx2=>(some (x2,(0:Int)))))
variable{v57:QK}
theorem HX(h:Wh v6=some v57):sP 93 [(EM v6)] [] (.tuple (fk v57.1 v57.2)) [(20000,.tok 1 49 v57.1.length)]:=
 sG Tryz.func93 λΓ q=>gR q [1] [1] [(2,WM)] [] (c1 (Be 1 Cz (0:Int))) (tB h λx1 y1 h=>tB h λx2 y2 h=>tT q F2 [9] [⟨[],[(20000,6)],(fi x1 20000),[(20000,.tok 1 49 x1.length)],[],[]⟩,⟨[],[(20000,9)],(fi x2 20000),[(20000,.tok 1 49 x2.length)],[],[]⟩] (c2 (My y1) (O0 y2)) (tS h (Bj [(9,20000)])))
def B5(aJ:Int)(a0:Fl)(a1:Int)(a4:Int)(a8:Ad)(a6:List An):Option Int:=
 (Az (Ay aJ a0.length) (Az (Ay (0:Int) (a0.getD aJ.toNat []).length) (some ((a0.getD aJ.toNat []).getD (0:Int).toNat (0:Int)))))
theorem Cb(h:B5 v1 v14 v11 v20 v2 v54=some v40):sP 109 (oK v1) (Z1 v14 v11 v20 v2 v54 v54.length) (.int .u64 v40) (Z1 v14 v11 v20 v2 v54 v54.length):=
 sG Tryz.func109 λΓ q=>Ag q Cy Dn (tC h λc1_ h=>tC h λc2_ h=>tU q [4] Dn (c3 c1_ (Eq.refl v14.length) c2_) (tS h (Bj Lw)))
def E5(aJ:Int)(a0:Fl)(a1:Int)(a4:Int)(a8:Ad)(a6:List An):Option Bool:=
 ((B5 aJ a0 a1 a4 a8 a6).bind λx1=>(some (x1==1)))
theorem F0(h:E5 v1 v14 v11 v20 v2 v54=some v3):sP 156 (oK v1) (Z1 v14 v11 v20 v2 v54 v54.length) (.bool v3) (Z1 v14 v11 v20 v2 v54 v54.length):=
 sG Tryz.func156 λΓ q=>Ag q Cy Dn (tB h λx1 y1 h=>tT q [4] Dn [(vd x1 v14 v11 v20 v2 v54 v54.length)] (ci (Cb y1) (Qe [(.row 118 (TI v14.length v11 v20)),(.row 113 (MH 35100 v2.length v54 37101)),(.tok 3 239 v54.length),(.arr 1 64 v14.length (λi=>C9 (v14.getD i []))),(.arr 1 5 v2.length (λi=>T9 (v2.getD i 0))),(.obj (.tab .i64 Ty))])) (tS h (Bj Lw)))
def Og(a2:A6)(a0:Fl)(a1:Int)(a4:Int)(a8:Ad)(a6:List An):Option QK:=
 (Az (Ay (0:Int) a2.Args.length) ((E5 (a2.Args.getD (0:Int).toNat (0:Int)) a0 a1 a4 a8 a6).bind λx2=>(bif x2 then(Az (Ay (1:Int) a2.Args.length) (Az (Ay (a2.Args.getD (1:Int).toNat (0:Int)) a0.length) (some ((a0.getD (a2.Args.getD (1:Int).toNat (0:Int)).toNat []),(0:Int))))) else(Az (Ay (2:Int) a2.Args.length) (Az (Ay (a2.Args.getD (2:Int).toNat (0:Int)) a0.length) (some ((a0.getD (a2.Args.getD (2:Int).toNat (0:Int)).toNat []),(0:Int))))))))
theorem V1(h:Og v6 v14 v1 v11 v2 v54=some v57):sP 94 [(F3 30000),(EM v6)] (Z1 v14 v1 v11 v2 v54 v54.length) (.tuple [(dO v57.1),(Aq v57.2)]) (Z1 v14 v1 v11 v2 v54 v54.length):=
 sG Tryz.func94 λΓ q=>gR q Ln Sh [(4,WM)] [] (c1 (Be 1 Cz (0:Int))) (tC h λc1_ h=>tB h λx2 y2 h=>tT q [0,3,11] Sh [(xo x2 v14 v1 v11 v2 v54 v54.length)] (NT c1_ (F0 y2) (Qe [(.row 118 (TI v14.length v1 v11)),(.row 113 (MH 35100 v2.length v54 37101)),(.tok 3 239 v54.length),(.arr 1 64 v14.length (λi=>C9 (v14.getD i []))),(.arr 1 5 v2.length (λi=>T9 (v2.getD i 0))),(.obj (.tab .i64 Ty))])) (gC h (λh=>tC h λc3_ h=>tC h λc4_ h=>tU q Gx Dn (c3 c3_ c4_ (Eq.refl v14.length)) (tS h (Bj Lw))) λh=>tC h λc5_ h=>tC h λc6_ h=>tU q Gx Dn (c3 c5_ c6_ (Eq.refl v14.length)) (tS h (Bj Lw))))
def JZ(aJ:Int)(aa1:Int)(aa0:Int):Option G2:=
 ((D1 aa1).bind λx1=>((bif ((!x1)==false) then D1 aa0 else some false).bind λx2=>(bif (bif (bif (!x1) then true else(!x2)) then true else(decide (aa0<=aa1))) then(some ((0:Int),(1:Int))) else((H5 aJ aa1).bind λx3=>(some (x3,(0:Int)))))))
variable{v19:G2}
theorem XU(h:JZ v1 v11 v20=some v19):sP 96 [(M4 v1),(Aq v11),(Aq v20)] [] (.tuple [(M4 v19.1),(Aq v19.2)]) []:=
 sG Tryz.func96 λΓ q=>Ag q AF [] (tB h λx1 y1 h=>tB h λx2 y2 h=>tT q [0,1,20] [] [(Z9 x1),(Z9 x2)] (yA (En y1) (gI ((!x1)==false)) (λ(hg:((!x1)==false)=true)=>(En (B4 hg y2))) (gI ((!x1)==false)) (Pv (!x1)) (Qy ((bif (!x1) then true else(!x2))==false) (c1 (Pv (bif (!x1) then true else(!x2)))))) (gC h (λh=>Ag q O6 [] (tS h (Bj []))) λh=>tB h λx3 y3 h=>tT q O6 [] [(TK x3)] (c1 (Kt y3)) (tS h (Bj []))))
def L0(a2:A6)(a0:Fl)(a1:Int)(a4:Int)(a8:Ad)(a6:List An):Option QK:=
 (Az (Ay (0:Int) a2.Args.length) ((B5 (a2.Args.getD (0:Int).toNat (0:Int)) a0 a1 a4 a8 a6).bind λx2=>((JZ x2 (A3 a2.Imm) a2.Bits).bind λx3=>((Mq x3.1).bind λx4=>(some (x4,x3.2))))))
theorem Sf(h:L0 v6 v14 v1 v11 v2 v54=some v57):sP 157 [(EM v6),(.rpo [(Sb 96)]),(.rpo CZ)] (Z1 v14 v1 v11 v2 v54 v54.length) (.tuple (fk v57.1 v57.2)) (Z8 v14 v1 v11 v2 v54 v54.length v57.1.length):=
 sG Tryz.func157 λΓ q=>gR q JH Sh [(4,WM)] [] (c1 (Be 1 Cz (0:Int))) (tC h λc1_ h=>tB h λx2 y2 h=>tB h λx3 y3 h=>tT q O6 Dn [(vd x2 v14 v1 v11 v2 v54 v54.length),⟨[],[],(.tuple [(M4 x3.1),(Aq x3.2)]),[],[],[]⟩] (NT c1_ (Cb y2) (gw [(.row 118 (TI v14.length v1 v11)),(.row 113 (MH 35100 v2.length v54 37101)),(.tok 3 239 v54.length),(.arr 1 64 v14.length (λi=>C9 (v14.getD i []))),(.arr 1 5 v2.length (λi=>T9 (v2.getD i 0))),(.obj (.tab .i64 Ty))] (c1 (XU y3)))) (tB h λx4 y4 h=>tT q Gx nV [(xE 25 x4 x4.length)] (c1 (My y4)) (tS h (Bj sM))))
def FL(aJ:Int)(aa1:Int)(aa0:Int):Option G2:=
 ((D1 aa1).bind λx1=>((bif ((!x1)==false) then D1 aa0 else some false).bind λx2=>(bif (bif (bif (!x1) then true else(!x2)) then true else(decide (aa1<=aa0))) then(some ((0:Int),(1:Int))) else((H5 aJ aa0).bind λx3=>(some (x3,(0:Int)))))))
theorem TA(h:FL v1 v11 v20=some v19):sP 97 [(M4 v1),(Aq v11),(Aq v20)] [] (.tuple [(M4 v19.1),(Aq v19.2)]) []:=
 sG Tryz.func97 λΓ q=>Ag q AF [] (tB h λx1 y1 h=>tB h λx2 y2 h=>tT q [0,2,20] [] [(Z9 x1),(Z9 x2)] (yA (En y1) (gI ((!x1)==false)) (λ(hg:((!x1)==false)=true)=>(En (B4 hg y2))) (gI ((!x1)==false)) (Pv (!x1)) (Qy ((bif (!x1) then true else(!x2))==false) (c1 (Pv (bif (!x1) then true else(!x2)))))) (gC h (λh=>Ag q O6 [] (tS h (Bj []))) λh=>tB h λx3 y3 h=>tT q O6 [] [(TK x3)] (c1 (Kt y3)) (tS h (Bj []))))
def Jv(a2:A6)(a0:Fl)(a1:Int)(a4:Int)(a8:Ad)(a6:List An):Option QK:=
 (Az (Ay (0:Int) a2.Args.length) ((B5 (a2.Args.getD (0:Int).toNat (0:Int)) a0 a1 a4 a8 a6).bind λx2=>((FL x2 (A3 a2.Imm) a2.Bits).bind λx3=>((Mq x3.1).bind λx4=>(some (x4,x3.2))))))
theorem P3(h:Jv v6 v14 v1 v11 v2 v54=some v57):sP 157 [(EM v6),(.rpo [(Sb 97)]),(.rpo CZ)] (Z1 v14 v1 v11 v2 v54 v54.length) (.tuple (fk v57.1 v57.2)) (Z8 v14 v1 v11 v2 v54 v54.length v57.1.length):=
 sG Tryz.func157 λΓ q=>gR q JH Sh [(4,WM)] [] (c1 (Be 1 Cz (0:Int))) (tC h λc1_ h=>tB h λx2 y2 h=>tB h λx3 y3 h=>tT q O6 Dn [(vd x2 v14 v1 v11 v2 v54 v54.length),⟨[],[],(.tuple [(M4 x3.1),(Aq x3.2)]),[],[],[]⟩] (NT c1_ (Cb y2) (gw [(.row 118 (TI v14.length v1 v11)),(.row 113 (MH 35100 v2.length v54 37101)),(.tok 3 239 v54.length),(.arr 1 64 v14.length (λi=>C9 (v14.getD i []))),(.arr 1 5 v2.length (λi=>T9 (v2.getD i 0))),(.obj (.tab .i64 Ty))] (c1 (TA y3)))) (tB h λx4 y4 h=>tT q Gx nV [(xE 25 x4 x4.length)] (c1 (My y4)) (tS h (Bj sM))))
def Th(aE:Int):Option Int:=
 (Option.bind (α:=Bool) (bif (aE==8) then(some (aE==8)) else(bif (aE==16) then(some (aE==16)) else(bif (aE==32) then(some (aE==32)) else(some (aE==64))))) (λx2=>(bif x2 then(some (A3 (Int.tdiv aE (8:Int)))) else(some (0:Int)))))
theorem Zd(h:Th v1=some v11):sP 190 [(Aq v1)] [] (.int .i64 v11) []:=
 sG Tryz.func190 λΓ q=>tW q [0] [] Ln [] (tB h λx2 y2 h=>gJ y2 (λb1=>aG Γ .normal (⟨[(0,(Aq v1)),(4,(.bool b1))],[],[]⟩:St)) (λy h=>Ag q F1 [] (gC h (λh=>tS h (gK (B0 (Bs Mt [] q)))) λh=>Ag q F1 [] (gC h (λh=>tS h (gK (B0 (Bs Mt [] q)))) λh=>Ag q F1 [] (gC h (λh=>tS h (gK (B0 (Bs Mt [] q)))) λh=>Ag q Mt [] (tS h (gK (B0 Kb))))))) (gA (gC h (λh=>tU q [2] [] (c1 (show((8:Int)≠0) from(by decide))) (tS h (Bj []))) λh=>Ag q [2] [] (tS h (Bj [])))))
def xT(aW:Int):=((decide (aW<1))==false)
abbrev wj:=(Bool×List An×Ad)
def P0(aK:Int)(aW:Int)(a3:Ad)(a7:List An):Option wj:=
 (bif (bif (decide (aW<1)) then true else(decide ((a3.length:Int)<aW))) then(some (false,a7,a3)) else(some ((decide (aK<=(Du (A3 ((a3.length:Int)-aW))))),a7,a3)))
variable{v58:wj}
theorem Ut(h:P0 v1 v11 v2 v54=some v58):sP 191 [(F3 30000),(M4 v1),(Aq v11)] (Z7 v2 v54 v54.length) (.bool v58.1) (Z7 v58.2.2 v58.2.1 v58.2.1.length):=
 sG Tryz.func191 λΓ q=>Ag q AF Fy (tU q [0,1,2,21] Fy (NT (gI (false==false)) (Pv false) (yj (xT v11) (c1 (Pv (decide (v11<1)))))) (gC h (λh=>Ag q [6] Fy (tS h (Bj U4))) λh=>Ag q [6] Fy (tS h (Bj U4))))
abbrev wk:=(Int×Int×Int×List An)
def Yp(aaM:Int)(a3:Ad):wk->Option (LR (Int×Int×Int×List An) (Int×List An)):=
 λ((i1,i2,i3,l4):wk)=>(bif (decide (i3<aaM)) then(Az (Ay i1 a3.length) (Az (l4.length+([(⟨false,i1,(a3.getD i1.toNat 0)⟩:An)]:List An).length<=room) (Az (0<=(A3 ((8:Int)*i3))) (some (.next ((Du (i1+1)),(Oe .or .u64 i2 (cR .u64 (Du (a3.getD i1.toNat 0)) (A3 ((8:Int)*i3)))),(A3 (i3+1)),(l4++([(⟨false,i1,(a3.getD i1.toNat 0)⟩:An)]:List An)))))))) else(some (.done (i2,l4))))
def o5(i1:Int)(a3:Ad):=([(⟨false,i1,(a3.getD i1.toNat 0)⟩:An)]:List An)
abbrev ep:=(Int×List An×Ad)
def Sw(aK:Int)(aaM:Int)(a3:Ad)(a7:List An):Option ep:=
 ((Af (Yp aaM a3) (aK,(0:Int),(0:Int),a7)).bind (λ(i5,l6)=>(some (i5,l6,a3))))
variable{v59:ep}
theorem DQ(h:Sw v1 v11 v2 v54=some v59):sP 192 [(F3 30000),(M4 v1),(Aq v11)] (Z7 v2 v54 v54.length) (M4 v59.1) (Z7 v59.2.2 v59.2.1 v59.2.1.length):=
 sG Tryz.func192 λΓ q=>tW q AF Fy [0,1,2,7] Fy (Ag q RE Fy (tL q h RE Fy (λu (i1,i2,i3,l4)=>(Dv u [(1,(M4 i1)),(7,(M4 i2)),(Db 11 i3)] [(BJ 30000 35000 v2.length l4 37001),(Tc 37001 l4.length)])) (λu (i5,l6)=>aG Γ (.exit 0) (V4 [7] Fy u [(7,(M4 i5))] [(BJ 30000 35000 v2.length l6 37001),(Tc 37001 l6.length)])) (λ⟨i1,i2,i3,l4⟩ y h=>Ag q [0,1,7,10,11,12] Fy (gC h (λh=>Ag q [0,1,7,8,10,11] Fy (tC h λc7_ h=>tU q [0,1,7,8,9,10,11] Fy (c2 c7_ (Eq.refl v2.length)) (tC h λc8_ h=>gR q [0,1,7,8,9,10,11] Fy (va (o5 i1 v2) l4) [] (c5 (A0 3 I5 (default:An) (o5 i1 v2)) (Eq.refl l4.length) c8_ (Jr 3 37001 I5 (default:An) l4 (o5 i1 v2)) (D2 l4 (o5 i1 v2))) (tV q RE Fy h λh=>tW q RE Fy RE Fy (tN h))))) λh=>tS h (gO (B0 (Bs [7] Fy q))))) λx10 h=>(match x10,h with|⟨i5,l6⟩,h=>gA (Ag q [6] Fy (tS h (Bj U4))))))
abbrev wl:=(Int×Int×Ad×List An×Ad)
def FK(aW:Int)(x3:Int):wl->Option (LR (Int×Int×Ad×List An×Ad) ((Ad×List An×Ad) ⊕ (List An×Ad))):=
 λ((i5,i6,l7,l8,l9):wl)=>(bif (decide (i6<((List.replicate aW.toNat (0:Int)).length:Int))) then((P0 i5 x3 l9 l8).bind λx15=>(Az (l9.length=x15.2.2.length) (bif (!x15.1) then(some (.done (.inr (x15.2.1,x15.2.2)))) else((Sw i5 x3 x15.2.2 x15.2.1).bind λx17=>(Az (x15.2.2.length=x17.2.2.length) (Az (Ay i6 l7.length) (some (.next ((Du (i5+(Du x3))),(A3 (i6+1)),(l7.set i6.toNat x17.1),x17.2.1,x17.2.2))))))))) else(some (.done (.inl (l7,l8,l9)))))
abbrev ME:=(List An×Ad)
def FJ :ME->Option (LR (List An×Ad) (Ad×Int×List An×Ad)):=
 λ(s_:ME)=>match s_ with|(l1,l2)=>(some (.done (([]:Ad),(8:Int),l1,l2)))
abbrev rU:=(Ad×Int×List An×Ad)
def ND(Γ:G8)(aK:Int)(aE:Int)(aW:Int)(a3:Ad)(a7:List An)(r:rU):Exit->St->Prop:=fK Tryz.prog Γ Tryz.f158.results.toList (Z7 a3 a7 a7.length) (.tuple (fk r.1 r.2.1)) (xu r.2.2.2.length r.2.2.1 r.2.2.1.length r.2.2.2 r.1.length)
def iZ:AV:=WM
def so(l2:Ad)(l1:List An):List U8:=(kn 30000 35000 l2 l1 37001 l1.length)
def vK(l10:Ad)(l12:Ad)(l11:List An):List U8:=[(kr 26 l10),(BJ 30000 35000 l12.length l11 37001),(RU 35000 l12),(Tc 37001 l11.length)]
def vJ(a3:Ad)(a7:List An):=(⟨[(8,iZ),(9,ZT)],(kn 30000 35000 a3 a7 37001 a7.length),[]⟩:St)
def vI(l2:Ad)(l1:List An):=(⟨[(8,(AV.list 1 Cz 0 ([]:Ad) (.own 6008))),(9,NJ)],[(6008,.tok 1 49 (([]:Ad).length)),(BJ 30000 35000 l2.length l1 37001),(RU 35000 l2),(Tc 37001 l1.length)],[]⟩:St)
def vH(a3:Ad)(a7:List An):=(⟨[(8,(AV.list 1 Cz 0 ([]:Ad) (.own 6008))),(9,ZT)],[(6008,.tok 1 49 (([]:Ad).length)),(BJ 30000 35000 a3.length a7 37001),(RU 35000 a3),(Tc 37001 a7.length)],[]⟩:St)
def Yo(aK:Int)(aE:Int)(aW:Int)(a3:Ad)(a7:List An):Option rU:=
 ((Ms (S:=ME) (X:=rU) ((Th aE).bind λx3=>(bif (bif (bif (x3==0) then true else(decide (aW<0))) then true else(decide ((16:Int)<aW))) then(some (.done (([]:Ad),(1:Int),a7,a3))) else(Az (0<=aW/\aW<=aW/\aW<=(room:Int)) ((Af (FK aW x3) (aK,(0:Int),(List.replicate aW.toNat (0:Int)),a7,a3)).bind (λx20=>(match x20 with|(.inl (l10,l11,l12))=>(some (.done (l10,(0:Int),l11,l12)))|(.inr (l13,l14))=>(some (.next (l13,l14))))))))) FJ).bind (λx23=>(some x23)))
variable{v60:rU}
theorem LS(h:Yo v1 v11 v20 v2 v54=some v60):sP 158 [(F3 30000),(M4 v1),(Aq v11),(Aq v20)] (Z7 v2 v54 v54.length) (.tuple (fk v60.1 v60.2.1)) (xu v60.2.2.2.length v60.2.2.1 v60.2.2.1.length v60.2.2.2 v60.1.length):=
 sG Tryz.func158 λΓ q=>have hΓ:=q.own;gR q JC Fy [(8,iZ)] [] (c1 (Be 1 Cz (0:Int))) (tB h λx23 y23 h=>gS y23 (λ(s_:ME)=>match s_ with|(l1,l2)=>0) (λ(s_:ME)=>match s_ with|(l1,l2)=>(⟨[],(so l2 l1),[]⟩:St)) (λr_=>aR (ND Γ v1 v11 v20 v2 v54 r_)) (λy h=>tB h λx3 y3 h=>tT q [0,1,3,10] Fy [(MJ x3)] (c1 (Zd y3)) (tU q [0,1,3,10,24] Fy (c4 (gI ((x3==0)==false)) (Pv (x3==0)) (gI ((bif (x3==0) then true else(decide (v20<0)))==false)) (Pv (bif (x3==0) then true else(decide (v20<0))))) (gC h (λh=>gR q O5 Fy [(8,iZ)] [] (c1 (Be 1 Cz (0:Int))) (O8 (vJ v2 v54) (tS h (JT (Oa (Hd sR (show Le Γ _ (vH v2 v54) from Le.trans (Bs (st':=(vJ v2 v54)) O5 Fy q) (Le.trans (Oq (t:=8) (nm:=6008) (sz':=1) (λi=>Cz (([]:Ad).getD i 0)) 49 rfl rfl (.inl ⟨rfl,rfl⟩) (λh_=>absurd h_ (by decide))) (Bs (st':=(vH v2 v54)) O5 nv q))))))))) λh=>tV q [0,1,10,11] S9 h λh=>by exact Ka (Le.trans (Pa 26 (show ∀ k_,k_<(v20.toNat)->AVleL ((λi_=>AV.eraseAll (λn_=>Bp n_ S9) ((λ_=>[(.int .u64 (0:Int))]) i_)) k_) ((λi=>Cz ((List.replicate v20.toNat (0:Int)).getD i 0)) k_) from(λk hk=>K8 (e:=Cz) (d:=(0:Int)) (.cons (AVle.refl _) .nil) _ k (Lb hk)))) (Pb (λ(k_:Nat) u=>(Dv u [(11,(.vsl 26 k_))] [(26,.arr 1 49 k_ (λi=>Cz ((List.replicate v20.toNat (0:Int)).getD i 0)))])) (show v20.toNat=(List.replicate v20.toNat (0:Int)).length from(Pu ..).symm))) (Ag q cw S9 (tL q h cw S9 (λu (i5,i6,l7,l8,l9)=>(Dv u [(1,(M4 i5)),(11,(.vsl 26 l7.length)),(Db 29 i6)] [(kr 26 l7),(BJ 30000 35000 l9.length l8 37001),(RU 35000 l9),(Tc 37001 l8.length)])) (λu x_=>match x_ with|(.inl (l10,l11,l12))=>aG Γ (.exit 0) (⟨[(11,(.vsl 26 l10.length))],(vK l10 l12 l11),[]⟩:St)|(.inr (l13,l14))=>aG Γ (.goto 0) (⟨[],(kn 30000 35000 l14 l13 37001 l13.length),[]⟩:St)) (λ⟨i5,i6,l7,l8,l9⟩ y h=>Ag q [0,1,10,11,28,29,30] S9 (gC h (λh=>Ag q [0,1,10,11,12,28,29] S9 (tB h λx15 y15 h=>tC h λc16_ h=>tT q [0,1,10,11,12,28,29,36] S9 [⟨U4,[],(.bool x15.1),(Z7 x15.2.2 x15.2.1 x15.2.1.length),[],[]⟩] (c1 (Ut y15)) (gC h (λh=>tS h (gO (B0 (Bs [] Fy q)))) λh=>tB h λx17 y17 h=>tC h λc18_ h=>tC h λc19_ h=>tT q cw S9 [⟨U4,[],(M4 x17.1),(Z7 x17.2.2 x17.2.1 x17.2.1.length),[],[]⟩] (c3 (DQ y17) c19_ (Eq.refl l7.length)) (Ka (Le.trans (Pa 26 (show ∀ k_,k_<l7.length->AVleL ((λi_=>AV.eraseAll (λn_=>Bp n_ S9) ((Il (λi=>Cz (l7.getD i 0)) i6.toNat 0 [(M4 x17.1)]) i_)) k_) ((λi=>Cz ((l7.set i6.toNat x17.1).getD i 0)) k_) from(A8 (Cp ..).symm (λk_ hk_=>(Bn (AV.eraseAll (λn_=>Bp n_ S9)) ((E1 (λ_ _=>rfl) (Fn c19_) rfl) k_ hk_)).trans rfl)))) (Pb (λ(k_:Nat) u=>(Dv u [(11,(.vsl 26 k_))] [(26,.arr 1 49 k_ (λi=>Cz ((l7.set i6.toNat x17.1).getD i 0)))])) (show l7.length=(l7.set i6.toNat x17.1).length from(Cp ..).symm))) (tW q cw S9 cw S9 (tN h)))))) λh=>tS h (gO (B0 (Bs [11] S9 q))))) λx20 h=>(match x20,h with | .inl ⟨l10,l11,l12⟩,h=>gA (Ag q O5 S9 (O8 (⟨[(8,(.vsl 26 l10.length)),(9,In)],(vK l10 l12 l11),[]⟩:St) (tS h (JT (Oa (Hd [(30000,30000),(37001,37001),(35000,35000),(26,20000)] (Le.trans (Fg (nm:=26) (sz:=1) (n:=l10.length) (e:=49) (f:=(λi=>Cz (l10.getD i 0))) (g:=(λi=>Cz (l10.getD i 0))) rfl ⟨rfl,trivial⟩ (λ_ _=>rfl) (by rw[hΓ];rfl)) (Kc (st':=⟨[(8,(fi l10 26)),(9,In)],[(26,.tok 1 49 l10.length),(BJ 30000 35000 l12.length l11 37001),(RU 35000 l12),(Tc 37001 l11.length)],[]⟩) (by kernel_rfl))))))))) | .inr ⟨l13,l14⟩,h=>bL (λst' hl22=>tS h (dk (Le.trans hl22 Kb))))))))) (λ⟨l1,l2⟩ y h=>gR q O5 Fy [(8,iZ)] [] (c1 (Be 1 Cz (0:Int))) (O8 (⟨[(8,iZ),(9,NJ)],(so l2 l1),[]⟩:St) (tS h (JT (Oa (Hd sR (show Le Γ _ (vI l2 l1) from Le.trans (Bs (st':=⟨[(8,iZ),(9,NJ)],(so l2 l1),[]⟩) O5 Fy q) (Le.trans (Oq (t:=8) (nm:=6008) (sz':=1) (λi=>Cz (([]:Ad).getD i 0)) 49 rfl rfl (.inl ⟨rfl,rfl⟩) (λh_=>absurd h_ (by decide))) (Bs (st':=(vI l2 l1)) O5 nv q))))))))) (gAr (λst' hk=>tS h (gK hk))))
abbrev jy:=(Ad×Int×Int×Int×List An×Fl×Ad)
def Lq(a2:A6)(a0:Fl)(a1:Int)(a4:Int)(a8:Ad)(a6:List An):Option jy:=
 (Az (Ay (0:Int) a2.Args.length) ((B5 (a2.Args.getD (0:Int).toNat (0:Int)) a0 a1 a4 a8 a6).bind λx2=>((Yo x2 a2.Bits a2.Lanes a8 a6).bind λx3=>(Az (a8.length=x3.2.2.2.length) (some (x3.1,x3.2.1,a1,a4,x3.2.2.1,a0,x3.2.2.2))))))
variable{v61:jy}
theorem Pn(h:Lq v6 v14 v1 v11 v2 v54=some v61):sP 98 [(F3 30000),(EM v6)] (Z1 v14 v1 v11 v2 v54 v54.length) (.tuple (fk v61.1 v61.2.1)) (Z8 v61.2.2.2.2.2.1 v61.2.2.1 v61.2.2.2.1 v61.2.2.2.2.2.2 v61.2.2.2.2.1 v61.2.2.2.2.1.length v61.1.length):=
 sG Tryz.func98 λΓ q=>gR q Ln Sh [(4,WM)] [] (c1 (Be 1 Cz (0:Int))) (tC h λc1_ h=>tB h λx2 y2 h=>tB h λx3 y3 h=>tC h λc4_ h=>tT q Gx nX [(vd x2 v14 v1 v11 v2 v54 v54.length),⟨nW,[(20000,20)],(.tuple (fk x3.1 x3.2.1)),(xu x3.2.2.2.length x3.2.2.1 x3.2.2.1.length x3.2.2.2 x3.1.length),[],[]⟩] (NT c1_ (Cb y2) (gw [(.row 118 (TI v14.length v1 v11)),(.row 113 (MH 35100 v2.length v54 37101)),(.tok 3 239 v54.length),(.arr 1 64 v14.length (λi=>C9 (v14.getD i []))),(.arr 1 5 v2.length (λi=>T9 (v2.getD i 0))),(.obj (.tab .i64 Ty))] (c1 (LS y3)))) (tS h (Bj sO)))
abbrev wm:=(Int×Int×Int×List An×Ad)
def Xr(aaM:Int):wm->Option (LR (Int×Int×Int×List An×Ad) (List An×Ad)):=
 λ((i1,i2,i3,l4,l5):wm)=>(bif (decide (i3<aaM)) then(Az (Ay i1 l5.length) (Az (l4.length+([(⟨true,i1,(sJ i2)⟩:An)]:List An).length<=room) (some (.next ((Du (i1+1)),(R3 .u64 i2 (8:Int)),(A3 (i3+1)),(l4++([(⟨true,i1,(sJ i2)⟩:An)]:List An)),(l5.set i1.toNat (sJ i2))))))) else(some (.done (l4,l5))))
def o6(i1:Int)(i2:Int):=([(⟨true,i1,(sJ i2)⟩:An)]:List An)
def Rl(aK:Int)(aaM:Int)(aJ:Int)(a3:Ad)(a7:List An):Option ME:=
 ((Af (Xr aaM) (aK,aJ,(0:Int),a7,a3)).bind (λ(l6,l7)=>(some (l6,l7))))
variable{v62:ME}
theorem BQ(h:Rl v1 v11 v20 v2 v54=some v62):sP 193 [(F3 30000),(M4 v1),(Aq v11),(M4 v20)] (Z7 v2 v54 v54.length) (.tuple []) (Z7 v62.2 v62.1 v62.1.length):=
 sG Tryz.func193 λΓ q=>Ag q CS Fy (tL q h CS Fy (λu (i1,i2,i3,l4,l5)=>(Dv u [(1,(M4 i1)),(3,(M4 i2)),(Db 10 i3)] (kn 30000 35000 l5 l4 37001 l4.length))) (λu (l6,l7)=>aG Γ (.exit 0) (⟨[],(kn 30000 35000 l7 l6 37001 l6.length),[]⟩:St)) (λ⟨i1,i2,i3,l4,l5⟩ y h=>Ag q [0,1,3,9,10,11] Fy (gC h (λh=>Ag q [0,1,3,8,9,10] Fy (tC h λc8_ h=>tU q [0,1,3,8,9,10] Fy (c2 c8_ (Eq.refl l5.length)) (Ka (Le.trans (Pa 35000 (show ∀ k_,k_<l5.length->AVleL ((λi_=>AV.eraseAll (λn_=>Bp n_ Fy) ((Il (λi=>T9 (l5.getD i 0)) i1.toNat 0 [(.int .u8 (sJ i2))]) i_)) k_) ((λi=>T9 ((l5.set i1.toNat (sJ i2)).getD i 0)) k_) from(A8 (Cp ..).symm (λk_ hk_=>(Bn (AV.eraseAll (λn_=>Bp n_ Fy)) ((E1 (λ_ _=>rfl) (Fn c8_) rfl) k_ hk_)).trans rfl)))) (Pb (λ(k_:Nat) u=>(Dv u [] [(BJ 30000 35000 k_ l4 37001),(35000,.arr 1 5 k_ (λi=>T9 ((l5.set i1.toNat (sJ i2)).getD i 0)))])) (show l5.length=(l5.set i1.toNat (sJ i2)).length from(Cp ..).symm))) (tC h λc9_ h=>gR q CS Fy (va (o6 i1 i2) l4) [] (c5 (A0 3 I5 (default:An) (o6 i1 i2)) (Eq.refl l4.length) c9_ (Jr 3 37001 I5 (default:An) l4 (o6 i1 i2)) (D2 l4 (o6 i1 i2))) (tU q CS Fy (c1 (show(0<=(8:Int)) from(by decide))) (tW q CS Fy CS Fy (tN h))))))) λh=>tS h (gO (B0 (Bs [] Fy q))))) λx10 h=>(match x10,h with|⟨l6,l7⟩,h=>bL (λst' hl11=>tS h (gK (e:=.normal) (Hd U4 hl11)))))
abbrev wq:=(Int×Int×List An×Ad)
def DK(aA:Ad)(x3:Int):wq->Option (LR (Int×Int×List An×Ad) ((List An×Ad) ⊕ (List An×Ad))):=
 λ((i4,i5,l6,l7):wq)=>(bif (decide (i5<(aA.length:Int))) then(Az (Ay i5 aA.length) ((P0 i4 x3 l7 l6).bind λx13=>(Az (l7.length=x13.2.2.length) (bif (!x13.1) then(some (.done (.inr (x13.2.1,x13.2.2)))) else((Rl i4 x3 (aA.getD i5.toNat 0) x13.2.2 x13.2.1).bind λx15=>(Az (x13.2.2.length=x15.2.length) (some (.next ((Du (i4+(Du x3))),(A3 (i5+1)),x15.1,x15.2))))))))) else(some (.done (.inl (l6,l7)))))
def DJ :ME->Option (LR (List An×Ad) (Int×List An×Ad)):=
 λ(s_:ME)=>match s_ with|(l1,l2)=>(some (.done ((8:Int),l1,l2)))
def LD(Γ:G8)(aK:Int)(aE:Int)(aA:Ad)(a3:Ad)(a7:List An)(r:ep):Exit->St->Prop:=fK Tryz.prog Γ Tryz.f159.results.toList (Z7 a3 a7 a7.length) (Aq r.1) (Z7 r.2.2 r.2.1 r.2.1.length)
def Wj(aK:Int)(aE:Int)(aA:Ad)(a3:Ad)(a7:List An):Option ep:=
 ((Ms (S:=ME) (X:=ep) ((Th aE).bind λx3=>(bif (bif (x3==0) then true else(decide ((16:Int)<(aA.length:Int)))) then(some (.done ((1:Int),a7,a3))) else((Af (DK aA x3) (aK,(0:Int),a7,a3)).bind (λx17=>(match x17 with|(.inl (l8,l9))=>(some (.done ((0:Int),l8,l9)))|(.inr (l10,l11))=>(some (.next (l10,l11)))))))) DJ).bind (λx20=>(some x20)))
theorem ID(h:Wj v1 v11 v2 v17 v54=some v59):sP 159 [(F3 30000),(M4 v1),(Aq v11),(dO v2)] (Z7 v17 v54 v54.length) (Aq v59.1) (Z7 v59.2.2 v59.2.1 v59.2.1.length):=
 sG Tryz.func159 λΓ q=>Ag q JC Fy (tB h λx20 y20 h=>gS y20 (λ(s_:ME)=>match s_ with|(l1,l2)=>0) (λ(s_:ME)=>match s_ with|(l1,l2)=>(⟨[],(kn 30000 35000 l2 l1 37001 l1.length),[]⟩:St)) (λr_=>aR (LD Γ v1 v11 v2 v17 v54 r_)) (λy h=>tB h λx3 y3 h=>tT q [0,1,3,9] Fy [(MJ x3)] (c1 (Zd y3)) (tU q [0,1,3,9,20] Fy (Qy ((x3==0)==false) (c1 (Pv (x3==0)))) (gC h (λh=>Ag q [8] Fy (tS h (JT (Oa (Hd U4 (Le.refl _ _)))))) λh=>Ag q cy Fy (tL q h cy Fy (λu (i4,i5,l6,l7)=>(Dv u [(1,(M4 i4)),(Db 23 i5)] (kn 30000 35000 l7 l6 37001 l6.length))) (λu x_=>match x_ with|(.inl (l8,l9))=>aG Γ (.exit 0) (⟨[],(kn 30000 35000 l9 l8 37001 l8.length),[]⟩:St)|(.inr (l10,l11))=>aG Γ (.goto 0) (⟨[],(kn 30000 35000 l11 l10 37001 l10.length),[]⟩:St)) (λ⟨i4,i5,l6,l7⟩ y h=>Ag q [0,1,9,21,22,23,24] Fy (gC h (λh=>tV q [0,1,9,11,21,22,23] Fy h λh=>tB h λx13 y13 h=>tC h λc14_ h=>tT q [0,1,9,11,21,22,23,31] Fy [⟨U4,[],(.bool x13.1),(Z7 x13.2.2 x13.2.1 x13.2.1.length),[],[]⟩] (c1 (Ut y13)) (gC h (λh=>tS h (gO (B0 (Bs [] Fy q)))) λh=>tB h λx15 y15 h=>tC h λc16_ h=>tT q cy Fy [⟨U4,[],(.tuple []),(Z7 x15.2 x15.1 x15.1.length),[],[]⟩] (c1 (BQ y15)) (tW q cy Fy cy Fy (tN h)))) λh=>tS h (gO (B0 (Bs [] Fy q))))) λx17 h=>(match x17,h with | .inl ⟨l8,l9⟩,h=>gA (Ag q [8] Fy (tS h (JT (Oa (Hd U4 (Le.refl _ _)))))) | .inr ⟨l10,l11⟩,h=>bL (λst' hl19=>tS h (dk (Le.trans hl19 Kb)))))))) (λ⟨l1,l2⟩ y h=>Ag q [8] Fy (tS h (JT (Oa (Hd U4 (Le.refl _ _)))))) (gAr (λst' hk=>tS h (gK hk))))
def vM(x5:ep)(a0:Fl)(a1:Int)(a4:Int):=(⟨[(4,WM),(5,(Aq x5.1))],(xA a0 a1 a4 x5.2.2 x5.2.1 x5.2.1.length),[]⟩:St)
def vL(x5:ep)(a0:Fl)(a1:Int)(a4:Int):=((yX x5.1 a0.length a1 a4 x5.2.2.length x5.2.1 a0 x5.2.2 x5.2.1.length):St)
def Ki(a2:A6)(a0:Fl)(a1:Int)(a4:Int)(a8:Ad)(a6:List An):Option jy:=
 (Az (Ay (0:Int) a2.Args.length) ((B5 (a2.Args.getD (0:Int).toNat (0:Int)) a0 a1 a4 a8 a6).bind λx2=>(Az (Ay (1:Int) a2.Args.length) (Az (Ay (a2.Args.getD (1:Int).toNat (0:Int)) a0.length) ((Wj x2 a2.Bits (a0.getD (a2.Args.getD (1:Int).toNat (0:Int)).toNat []) a8 a6).bind λx5=>(Az (a8.length=x5.2.2.length) (some (([]:Ad),x5.1,a1,a4,x5.2.1,a0,x5.2.2))))))))
theorem Oi(h:Ki v6 v14 v1 v11 v2 v54=some v61):sP 99 [(F3 30000),(EM v6)] (Z1 v14 v1 v11 v2 v54 v54.length) (.tuple (fk v61.1 v61.2.1)) (Z8 v61.2.2.2.2.2.1 v61.2.2.1 v61.2.2.2.1 v61.2.2.2.2.2.2 v61.2.2.2.2.1 v61.2.2.2.2.1.length v61.1.length):=
 sG Tryz.func99 λΓ q=>gR q Ln Sh [(4,WM)] [] (c1 (Be 1 Cz (0:Int))) (tC h λc1_ h=>tB h λx2 y2 h=>tC h λc3_ h=>tC h λc4_ h=>tB h λx5 y5 h=>tC h λc6_ h=>gR q Gx Dn [(4,WM)] [(vd x2 v14 v1 v11 v2 v54 v54.length),⟨nW,[],(Aq x5.1),(Z7 x5.2.2 x5.2.1 x5.2.1.length),[],[]⟩] (NT c1_ (Cb y2) (gw [(.row 118 (TI v14.length v1 v11)),(.row 113 (MH 35100 v2.length v54 37101)),(.tok 3 239 v54.length),(.arr 1 64 v14.length (λi=>C9 (v14.getD i []))),(.arr 1 5 v2.length (λi=>T9 (v2.getD i 0))),(.obj (.tab .i64 Ty))] (c5 c3_ c4_ (Eq.refl v14.length) (ID y5) (Be 1 Cz (0:Int))))) (O8 (vM x5 v14 v1 v11) (tS h (gK (e:=.ret) (Hd sL (show Le Γ _ (vL x5 v14 v1 v11) from Le.trans (Bs (st':=(vM x5 v14 v1 v11)) Gx Dn q) (Le.trans (Oq (t:=4) (nm:=6004) (sz':=1) (λi=>Cz (([]:Ad).getD i 0)) 49 rfl rfl (.inl ⟨rfl,rfl⟩) (λh_=>absurd h_ (by decide))) (Bs (st':=(vL x5 v14 v1 v11)) Gx sT q))))))))
def Lz(a2:A6)(a0:Fl)(a1:Int)(a4:Int)(a8:Ad)(a6:List An):Option jy:=
 (Az (Ay (0:Int) a2.Args.length) ((E5 (a2.Args.getD (0:Int).toNat (0:Int)) a0 a1 a4 a8 a6).bind λx2=>(bif (!x2) then(Az (Ay (A3 ((a2.Args.length:Int)-1)) a2.Args.length) (Az (Ay (a2.Args.getD (A3 ((a2.Args.length:Int)-1)).toNat (0:Int)) a0.length) (some ((a0.getD (a2.Args.getD (A3 ((a2.Args.length:Int)-1)).toNat (0:Int)).toNat []),(0:Int),a1,a4,a6,a0,a8)))) else(Az (0<=(1:Int)/\(1:Int)<=(a2.Args.length:Int)) ((Lq (⟨a2.Kind,a2.Bits,a2.Lanes,a2.Dst,(a2.Args.drop (1:Int).toNat),a2.Imm⟩:A6) a0 a1 a4 a8 a6).bind λx6=>(Az (a0.length=x6.2.2.2.2.2.1.length) (Az (a8.length=x6.2.2.2.2.2.2.length) (some (x6.1,x6.2.1,x6.2.2.1,x6.2.2.2.1,x6.2.2.2.2.1,x6.2.2.2.2.2.1,x6.2.2.2.2.2.2)))))))))
theorem Se(h:Lz v6 v14 v1 v11 v2 v54=some v61):sP 160 [(EM v6),(.rpo CZ),(.rpo [(.clo 98 CZ [])])] (Z1 v14 v1 v11 v2 v54 v54.length) (.tuple [(dO v61.1),(Aq v61.2.1)]) (Z1 v61.2.2.2.2.2.1 v61.2.2.1 v61.2.2.2.1 v61.2.2.2.2.2.2 v61.2.2.2.2.1 v61.2.2.2.2.1.length):=
 sG Tryz.func160 λΓ q=>gR q JH Sh [(4,WM)] [] (c1 (Be 1 Cz (0:Int))) (tC h λc1_ h=>tB h λx2 y2 h=>tT q [1,2,3,12] Sh [(xo x2 v14 v1 v11 v2 v54 v54.length)] (NT c1_ (F0 y2) (Qe [(.row 118 (TI v14.length v1 v11)),(.row 113 (MH 35100 v2.length v54 37101)),(.tok 3 239 v54.length),(.arr 1 64 v14.length (λi=>C9 (v14.getD i []))),(.arr 1 5 v2.length (λi=>T9 (v2.getD i 0))),(.obj (.tab .i64 Ty))])) (gC h (λh=>tC h λc3_ h=>tC h λc4_ h=>tU q Gx Dn (c3 c3_ c4_ (Eq.refl v14.length)) (tS h (Bj Lw))) λh=>tC h λc5_ h=>gR q F2 Sh [(29,(AV.list 1 Ao 0 (v6.Args.drop (1:Int).toNat) .none))] [] (c2 c5_ (show(AVle (ue v6.Args) (AV.list 1 Ao 0 (v6.Args.drop (1:Int).toNat) .none)) from AL)) (tB h λx6 y6 h=>tC h λc7_ h=>tC h λc8_ h=>tT q Gx n9 [(xC 33 x6.1 x6.2.1 x6.2.2.2.2.2.1 x6.2.2.1 x6.2.2.2.1 x6.2.2.2.2.2.2 x6.2.2.2.2.1 x6.2.2.2.2.1.length x6.1.length)] (c1 (Pn y6)) (tS h (Bj Lw)))))
def Jt(a2:A6)(a0:Fl)(a1:Int)(a4:Int)(a8:Ad)(a6:List An):Option jy:=
 (Az (Ay (0:Int) a2.Args.length) ((E5 (a2.Args.getD (0:Int).toNat (0:Int)) a0 a1 a4 a8 a6).bind λx2=>(bif (!x2) then(Az (Ay (A3 ((a2.Args.length:Int)-1)) a2.Args.length) (Az (Ay (a2.Args.getD (A3 ((a2.Args.length:Int)-1)).toNat (0:Int)) a0.length) (some ((a0.getD (a2.Args.getD (A3 ((a2.Args.length:Int)-1)).toNat (0:Int)).toNat []),(0:Int),a1,a4,a6,a0,a8)))) else(Az (0<=(1:Int)/\(1:Int)<=(a2.Args.length:Int)) ((Ki (⟨a2.Kind,a2.Bits,a2.Lanes,a2.Dst,(a2.Args.drop (1:Int).toNat),a2.Imm⟩:A6) a0 a1 a4 a8 a6).bind λx6=>(Az (a0.length=x6.2.2.2.2.2.1.length) (Az (a8.length=x6.2.2.2.2.2.2.length) (some (x6.1,x6.2.1,x6.2.2.1,x6.2.2.2.1,x6.2.2.2.2.1,x6.2.2.2.2.2.1,x6.2.2.2.2.2.2)))))))))
theorem P1(h:Jt v6 v14 v1 v11 v2 v54=some v61):sP 160 [(EM v6),(.rpo CZ),(.rpo [(.clo 99 CZ [])])] (Z1 v14 v1 v11 v2 v54 v54.length) (.tuple [(dO v61.1),(Aq v61.2.1)]) (Z1 v61.2.2.2.2.2.1 v61.2.2.1 v61.2.2.2.1 v61.2.2.2.2.2.2 v61.2.2.2.2.1 v61.2.2.2.2.1.length):=
 sG Tryz.func160 λΓ q=>gR q JH Sh [(4,WM)] [] (c1 (Be 1 Cz (0:Int))) (tC h λc1_ h=>tB h λx2 y2 h=>tT q [1,2,3,12] Sh [(xo x2 v14 v1 v11 v2 v54 v54.length)] (NT c1_ (F0 y2) (Qe [(.row 118 (TI v14.length v1 v11)),(.row 113 (MH 35100 v2.length v54 37101)),(.tok 3 239 v54.length),(.arr 1 64 v14.length (λi=>C9 (v14.getD i []))),(.arr 1 5 v2.length (λi=>T9 (v2.getD i 0))),(.obj (.tab .i64 Ty))])) (gC h (λh=>tC h λc3_ h=>tC h λc4_ h=>tU q Gx Dn (c3 c3_ c4_ (Eq.refl v14.length)) (tS h (Bj Lw))) λh=>tC h λc5_ h=>gR q F2 Sh [(29,(AV.list 1 Ao 0 (v6.Args.drop (1:Int).toNat) .none))] [] (c2 c5_ (show(AVle (ue v6.Args) (AV.list 1 Ao 0 (v6.Args.drop (1:Int).toNat) .none)) from AL)) (tB h λx6 y6 h=>tC h λc7_ h=>tC h λc8_ h=>tT q Gx n9 [(xC 33 x6.1 x6.2.1 x6.2.2.2.2.2.1 x6.2.2.1 x6.2.2.2.1 x6.2.2.2.2.2.2 x6.2.2.2.2.1 x6.2.2.2.2.1.length x6.1.length)] (c1 (Oi y6)) (tS h (Bj Lw)))))
def sq(aV:Int):=(bif (decide ((1:Int)<=aV)) then(decide (aV<=12)) else false)
def OR(aV:Int)(aE:Int):Option Bool:=
 ((bif ((bif (decide ((1:Int)<=aV)) then(decide (aV<=12)) else false)==true) then D1 aE else some false).bind λx1=>(some (bif (bif (decide ((1:Int)<=aV)) then(decide (aV<=12)) else false) then x1 else false)))
theorem bx(h:OR v1 v11=some v3):sP 194 [(Aq v1),(Aq v11)] [] (.bool v3) []:=
 sG Tryz.func194 λΓ q=>Ag q Cy [] (tB h λx1 y1 h=>tT q [4] [] [(Z9 x1)] (c5 (gI ((decide ((1:Int)<=v1))==true)) (O9 (decide ((1:Int)<=v1))) (gI ((sq v1)==true)) (λ(hg:((sq v1)==true)=true)=>(En (B4 hg y1))) (O9 (sq v1))) (tS h (Bj [])))
def Yq(aH:Int)(aD:Int):Option Int:=
 (some (Du (aH+aD)))
theorem LT(h:Yq v1 v11=some v20):sP 214 (X9 v1 v11) [] (.int .u64 v20) []:=
 sG Tryz.func214 λΓ q=>tW q Cy [] [4] [] (tS h (Bj []))
def Yr(aH:Int)(aD:Int):Option Int:=
 (some (Du (aH-aD)))
theorem LU(h:Yr v1 v11=some v20):sP 215 (X9 v1 v11) [] (.int .u64 v20) []:=
 sG Tryz.func215 λΓ q=>tW q Cy [] [4] [] (tS h (Bj []))
def Ys(aH:Int)(aD:Int):Option Int:=
 (some (Du (aH*aD)))
theorem LV(h:Ys v1 v11=some v20):sP 216 (X9 v1 v11) [] (.int .u64 v20) []:=
 sG Tryz.func216 λΓ q=>tW q Cy [] [4] [] (tS h (Bj []))
def Yt(aH:Int)(aD:Int):Option Int:=
 (Az (aD≠0) (some (Du (Int.tdiv aH aD))))
theorem LW(h:Yt v1 v11=some v20):sP 217 (X9 v1 v11) [] (.int .u64 v20) []:=
 sG Tryz.func217 λΓ q=>Ag q Cy [] (tV q [4] [] h λh=>tS h (Bj []))
def Yu(aH:Int)(aD:Int):Option Int:=
 (some (Oe .and .u64 aH aD))
theorem LX(h:Yu v1 v11=some v20):sP 218 (X9 v1 v11) [] (.int .u64 v20) []:=
 sG Tryz.func218 λΓ q=>tW q Cy [] [4] [] (tS h (Bj []))
def Yv(aH:Int)(aD:Int):Option Int:=
 (some (Oe .or .u64 aH aD))
theorem LY(h:Yv v1 v11=some v20):sP 219 (X9 v1 v11) [] (.int .u64 v20) []:=
 sG Tryz.func219 λΓ q=>tW q Cy [] [4] [] (tS h (Bj []))
def Yw(aH:Int)(aD:Int):Option Int:=
 (some (Oe .xor .u64 aH aD))
theorem LZ(h:Yw v1 v11=some v20):sP 220 (X9 v1 v11) [] (.int .u64 v20) []:=
 sG Tryz.func220 λΓ q=>tW q Cy [] [4] [] (tS h (Bj []))
def Yx(aH:Int)(aD:Int)(aN:Int):Option G2:=
 (bif (decide (((Du aN):Int)<=aD)) then(some ((0:Int),aN)) else(Az (0<=aD) (some ((cR .u64 aH aD),aN))))
theorem MA(h:Yx v1 v11 v20=some v19):sP 221 [(M4 v1),(M4 v11),(F3 30000)] (pX v20) (M4 v19.1) (pX v19.2):=
 sG Tryz.func221 λΓ q=>tW q AF [30000] [0,1,9] [30000] (gC h (λh=>Ag q [5] [30000] (tS h (Bj IZ))) λh=>tV q [5] [30000] h λh=>tS h (Bj IZ))
def Yy(aH:Int)(aD:Int)(aN:Int):Option G2:=
 (bif (decide (((Du aN):Int)<=aD)) then(some ((0:Int),aN)) else(Az (0<=aD) (some ((R3 .u64 aH aD),aN))))
theorem MB(h:Yy v1 v11 v20=some v19):sP 222 [(M4 v1),(M4 v11),(F3 30000)] (pX v20) (M4 v19.1) (pX v19.2):=
 sG Tryz.func222 λΓ q=>tW q AF [30000] [0,1,9] [30000] (gC h (λh=>Ag q [5] [30000] (tS h (Bj IZ))) λh=>tV q [5] [30000] h λh=>tS h (Bj IZ))
def Qq(aaV:Bool):Option Int:=
 (bif aaV then(some (1:Int)) else(some (0:Int)))
theorem Tx(h:Qq v3=some v1):sP 224 [(.bool v3)] [] (.int .u64 v1) []:=
 sG Tryz.func224 λΓ q=>tW q [0] [] [3] [] (gC h (λh=>Ag q [2] [] (tS h (Bj []))) λh=>Ag q [2] [] (tS h (Bj [])))
def Wk(aH:Int)(aD:Int):Option Int:=
 ((Qq (aH==aD)).bind λx1=>(some x1))
theorem IE(h:Wk v1 v11=some v20):sP 223 (X9 v1 v11) [] (.int .u64 v20) []:=
 sG Tryz.func223 λΓ q=>Ag q Cy [] (tB h λx1 y1 h=>tT q [4] [] [(TK x1)] (c1 (Tx y1)) (tS h (Bj [])))
def Wl(aH:Int)(aD:Int):Option Int:=
 ((Qq (decide (aH<aD))).bind λx1=>(some x1))
theorem IF(h:Wl v1 v11=some v20):sP 225 (X9 v1 v11) [] (.int .u64 v20) []:=
 sG Tryz.func225 λΓ q=>Ag q Cy [] (tB h λx1 y1 h=>tT q [4] [] [(TK x1)] (c1 (Tx y1)) (tS h (Bj [])))
def Ti(aJ:Int)(aE:Int):Option Int:=
 ((D1 aE).bind λx1=>(bif (!x1) then(some (0:Int)) else(Az (0<=(A3 ((64:Int)-aE))) (Az (0<=(A3 ((64:Int)-aE))) (some (R3 .i64 (A3 (cR .u64 aJ (A3 ((64:Int)-aE)))) (A3 ((64:Int)-aE))))))))
theorem Ze(h:Ti v1 v11=some v20):sP 227 [(M4 v1),(Aq v11)] [] (.int .i64 v20) []:=
 sG Tryz.func227 λΓ q=>Ag q Cy [] (tB h λx1 y1 h=>tT q [0,1,7] [] [(Z9 x1)] (c1 (En y1)) (gC h (λh=>Ag q [4] [] (tS h (Bj []))) λh=>tC h λc2_ h=>tC h λc3_ h=>tU q [4] [] (c2 c2_ c3_) (tS h (Bj []))))
def Wm(aH:Int)(aD:Int)(aN:Int):Option G2:=
 ((Ti aH aN).bind λx1=>((Ti aD aN).bind λx2=>((Qq (decide (x1<x2))).bind λx3=>(some (x3,aN)))))
theorem IG(h:Wm v1 v11 v20=some v19):sP 226 [(M4 v1),(M4 v11),(F3 30000)] (pX v20) (M4 v19.1) (pX v19.2):=
 sG Tryz.func226 λΓ q=>Ag q AF [30000] (tB h λx1 y1 h=>tB h λx2 y2 h=>tB h λx3 y3 h=>tT q [5] [30000] [(MJ x1),(MJ x2),(TK x3)] (c3 (Ze y1) (Ze y2) (Tx y3)) (tS h (Bj IZ)))
def FM(aV:Int)(aE:Int)(aH:Int)(aD:Int):Option Int:=
 (bif (decide (aV=(1:Int))) then((Yq aH aD).bind λx2=>(some x2)) else(bif (decide (aV=(2:Int))) then((Yr aH aD).bind λx4=>(some x4)) else(bif (decide (aV=(3:Int))) then((Ys aH aD).bind λx6=>(some x6)) else(bif (decide (aV=(4:Int))) then((Yt aH aD).bind λx8=>(some x8)) else(bif (decide (aV=(5:Int))) then((Yu aH aD).bind λx10=>(some x10)) else(bif (decide (aV=(6:Int))) then((Yv aH aD).bind λx12=>(some x12)) else(bif (decide (aV=(7:Int))) then((Yw aH aD).bind λx14=>(some x14)) else(bif (decide (aV=(8:Int))) then((Yx aH aD aE).bind λx16=>(some x16.1)) else(bif (decide (aV=(9:Int))) then((Yy aH aD aE).bind λx18=>(some x18.1)) else(bif (decide (aV=(10:Int))) then((Wk aH aD).bind λx20=>(some x20)) else(bif (decide (aV=(11:Int))) then((Wl aH aD).bind λx22=>(some x22)) else(bif (decide (aV=(12:Int))) then((Wm aH aD aE).bind λx24=>(some x24.1)) else none))))))))))))
theorem TB(h:FM v1 v11 v20 v40=some v44):sP 195 [(Aq v1),(Aq v11),(M4 v20),(M4 v40)] [] (.int .u64 v44) []:=
 sG Tryz.func195 λΓ q=>tW q [0,2,3,5] [5] [0,2,3,9] [5,9] (gB h (λhs1 h=>tB h λx2 y2 h=>gR q [8] [] [(14,ZT)] [(TK x2)] (c3 (show(AVle (Aq v1) ZT) from(B9 hs1)) (show(Ay (1:Int) 13) from(by decide)) (LT y2)) (tS h (Bj []))) (λhs1 h=>gB h (λhs3 h=>tB h λx4 y4 h=>gR q [8] [] [(14,ZI)] [(TK x4)] (c3 (show(AVle (Aq v1) ZI) from(B9 hs3)) (show(Ay (2:Int) 13) from(by decide)) (LU y4)) (tS h (Bj []))) (λhs3 h=>gB h (λhs5 h=>tB h λx6 y6 h=>gR q [8] [] [(14,LE)] [(TK x6)] (c3 (show(AVle (Aq v1) LE) from(B9 hs5)) (show(Ay (3:Int) 13) from(by decide)) (LV y6)) (tS h (Bj []))) (λhs5 h=>gB h (λhs7 h=>tB h λx8 y8 h=>gR q [8] [] [(14,SE)] [(TK x8)] (c3 (show(AVle (Aq v1) SE) from(B9 hs7)) (show(Ay (4:Int) 13) from(by decide)) (LW y8)) (tS h (Bj []))) (λhs7 h=>gB h (λhs9 h=>tB h λx10 y10 h=>gR q [8] [] [(14,WK)] [(TK x10)] (c3 (show(AVle (Aq v1) WK) from(B9 hs9)) (show(Ay (5:Int) 13) from(by decide)) (LX y10)) (tS h (Bj []))) (λhs9 h=>gB h (λhs11 h=>tB h λx12 y12 h=>gR q [8] [] [(14,(.int .i64 (6:Int)))] [(TK x12)] (c3 (show(AVle (Aq v1) (.int .i64 (6:Int))) from(B9 hs11)) (show(Ay (6:Int) 13) from(by decide)) (LY y12)) (tS h (Bj []))) (λhs11 h=>gB h (λhs13 h=>tB h λx14 y14 h=>gR q [8] [] [(14,(.int .i64 (7:Int)))] [(TK x14)] (c3 (show(AVle (Aq v1) (.int .i64 (7:Int))) from(B9 hs13)) (show(Ay (7:Int) 13) from(by decide)) (LZ y14)) (tS h (Bj []))) (λhs13 h=>gB h (λhs15 h=>tB h λx16 y16 h=>gR q [8] [] [(14,NJ)] [⟨fb,[],(M4 x16.1),(pX x16.2),[],[]⟩] (c3 (show(AVle (Aq v1) NJ) from(B9 hs15)) (show(Ay (8:Int) 13) from(by decide)) (MA y16)) (tS h (Bj []))) (λhs15 h=>gB h (λhs17 h=>tB h λx18 y18 h=>gR q [8] [] [(14,(.int .i64 (9:Int)))] [⟨fb,[],(M4 x18.1),(pX x18.2),[],[]⟩] (c3 (show(AVle (Aq v1) (.int .i64 (9:Int))) from(B9 hs17)) (show(Ay (9:Int) 13) from(by decide)) (MB y18)) (tS h (Bj []))) (λhs17 h=>gB h (λhs19 h=>tB h λx20 y20 h=>gR q [8] [] [(14,(Od 10))] [(TK x20)] (c3 (show(AVle (Aq v1) (Od 10)) from(B9 hs19)) (show(Ay (10:Int) 13) from(by decide)) (IE y20)) (tS h (Bj []))) (λhs19 h=>gB h (λhs21 h=>tB h λx22 y22 h=>gR q [8] [] [(14,(Od 11))] [(TK x22)] (c3 (show(AVle (Aq v1) (Od 11)) from(B9 hs21)) (show(Ay (11:Int) 13) from(by decide)) (IF y22)) (tS h (Bj []))) (λhs21 h=>gB h (λhs23 h=>tB h λx24 y24 h=>gR q [8] [] [(14,(Od 12))] [⟨fb,[],(M4 x24.1),(pX x24.2),[],[]⟩] (c3 (show(AVle (Aq v1) (Od 12)) from(B9 hs23)) (show(Ay (12:Int) 13) from(by decide)) (IG y24)) (tS h (Bj []))) (λhs23 h=>nomatch h)))))))))))))
def UN(aV:Int)(aE:Int)(aH:Int)(aD:Int):Option G2:=
 ((OR aV aE).bind λx1=>(bif (!x1) then(some ((0:Int),(1:Int))) else((H5 aH aE).bind λx2=>((H5 aD aE).bind λx3=>(bif (bif (aV==4) then(x3==0) else false) then(some ((0:Int),(8:Int))) else((FM aV aE x2 x3).bind λx4=>((H5 x4 aE).bind λx5=>(some (x5,(0:Int))))))))))
theorem eG(h:UN v1 v11 v20 v40=some v19):sP 162 [(Aq v1),(Aq v11),(M4 v20),(M4 v40)] [] (.tuple [(M4 v19.1),(Aq v19.2)]) []:=
 sG Tryz.func162 λΓ q=>Ag q JC [] (tB h λx1 y1 h=>tT q [0,1,2,3,13] [] [(Z9 x1)] (c1 (bx y1)) (gC h (λh=>Ag q O5 [] (tS h (Bj []))) λh=>tB h λx2 y2 h=>tB h λx3 y3 h=>tT q JC [] [(TK x2),(TK x3)] (c2 (Kt y2) (Kt y3)) (tU q [0,1,2,3,25] [] (c2 (gI ((v1==4)==true)) (O9 (v1==4))) (gC h (λh=>Ag q O5 [] (tS h (Bj []))) λh=>tB h λx4 y4 h=>tB h λx5 y5 h=>tT q O5 [] [(TK x4),(TK x5)] (c2 (TB y4) (Kt y5)) (tS h (Bj []))))))
def Ui(a2:A6)(aZ:Int)(a0:Fl):BR->Option (LR (Int×Ad) (Ad ⊕ (Ad×Int))):=
 λ((i6,l7):BR)=>(bif (decide (i6<((List.replicate ((a0.getD (a2.Args.getD (0:Int).toNat (0:Int)).toNat []).length:Int).toNat (0:Int)).length:Int))) then(Az (Ay i6 (a0.getD (a2.Args.getD (0:Int).toNat (0:Int)).toNat []).length) (Az (Ay i6 (a0.getD (a2.Args.getD (1:Int).toNat (0:Int)).toNat []).length) ((UN aZ a2.Bits ((a0.getD (a2.Args.getD (0:Int).toNat (0:Int)).toNat []).getD i6.toNat 0) ((a0.getD (a2.Args.getD (1:Int).toNat (0:Int)).toNat []).getD i6.toNat 0)).bind λx11=>(bif (x11.2 !=0) then(some (.done (.inr (([]:Ad),x11.2)))) else(Az (Ay i6 l7.length) (some (.next ((A3 (i6+1)),(l7.set i6.toNat x11.1))))))))) else(some (.done (.inl l7))))
def X5(Γ:G8)(a2:A6)(aZ:Int)(a0:Fl)(a1:Int)(a4:Int)(a8:Ad)(a6:List An)(r:QK):Exit->St->Prop:=fK Tryz.prog Γ Tryz.f161.results.toList (Z1 a0 a1 a4 a8 a6 a6.length) (.tuple (fk r.1 r.2)) (Z8 a0 a1 a4 a8 a6 a6.length r.1.length)
def sr:=(λn_=>Bp n_ [3,34,30000,30001,35002,35100,37101,9100001])
def kQ(a0:Fl)(a2:A6):=((a0.getD (a2.Args.getD (0:Int).toNat (0:Int)).toNat []).length:Int)
def vO(x11:G2)(a0:Fl)(a1:Int)(a4:Int)(a8:Ad)(a6:List An):=(⟨[(4,WM),(5,(Aq x11.2))],(xA a0 a1 a4 a8 a6 a6.length),[]⟩:St)
def vN(x11:G2)(a0:Fl)(a1:Int)(a4:Int)(a8:Ad)(a6:List An):=((yX x11.2 a0.length a1 a4 a8.length a6 a0 a8 a6.length):St)
def Ba(a2:A6)(aZ:Int)(a0:Fl)(a1:Int)(a4:Int)(a8:Ad)(a6:List An):Option QK:=
 (Az (Ay (0:Int) a2.Args.length) (Az (Ay (a2.Args.getD (0:Int).toNat (0:Int)) a0.length) (Az (Ay (1:Int) a2.Args.length) (Az (Ay (a2.Args.getD (1:Int).toNat (0:Int)) a0.length) (Az (0<=((a0.getD (a2.Args.getD (0:Int).toNat (0:Int)).toNat []).length:Int)/\((a0.getD (a2.Args.getD (0:Int).toNat (0:Int)).toNat []).length:Int)<=((a0.getD (a2.Args.getD (0:Int).toNat (0:Int)).toNat []).length:Int)/\((a0.getD (a2.Args.getD (0:Int).toNat (0:Int)).toNat []).length:Int)<=(room:Int)) ((Af (Ui a2 aZ a0) ((0:Int),(List.replicate ((a0.getD (a2.Args.getD (0:Int).toNat (0:Int)).toNat []).length:Int).toNat (0:Int)))).bind (λx13=>(match x13 with|(.inl l8)=>(some (l8,(0:Int)))|(.inr r15)=>(some r15)))))))))
theorem Bc(h:Ba v6 v1 v14 v11 v20 v2 v54=some v57):sP 161 [(EM v6),(.rpo CZ),(.rpo [(Aq v1)])] (Z1 v14 v11 v20 v2 v54 v54.length) (.tuple (fk v57.1 v57.2)) (Z8 v14 v11 v20 v2 v54 v54.length v57.1.length):=
 sG Tryz.func161 λΓ q=>have hΓ:=q.own;gR q JH Sh [(4,WM)] [] (c1 (Be 1 Cz (0:Int))) (tC h λc1_ h=>tC h λc2_ h=>tC h λc3_ h=>tC h λc4_ h=>tU q [2,3,6,7] Sh (c6 c1_ c2_ (Eq.refl v14.length) c3_ c4_ (Eq.refl v14.length)) (tV q [2,3,6,7,8] GQ h λh=>by exact Ka (Le.trans (Pa 34 (show ∀ k_,k_<((kQ v14 v6).toNat)->AVleL ((λi_=>AV.eraseAll sr ((λ_=>[(.int .u64 (0:Int))]) i_)) k_) ((λi=>Cz ((List.replicate (kQ v14 v6).toNat (0:Int)).getD i 0)) k_) from(λk hk=>K8 (e:=Cz) (d:=(0:Int)) (.cons (AVle.refl _) .nil) _ k (Lb hk)))) (Pb (λ(k_:Nat) u=>(Dv u [(8,(.vsl 34 k_))] [(34,.arr 1 49 k_ (λi=>Cz ((List.replicate (kQ v14 v6).toNat (0:Int)).getD i 0)))])) (show(kQ v14 v6).toNat=(List.replicate (kQ v14 v6).toNat (0:Int)).length from(Pu ..).symm))) (Ag q YM GQ (tL q h YM GQ (λu (i6,l7)=>(Dv u [(8,(.vsl 34 l7.length)),(Db 37 i6)] [(kr 34 l7)])) (λu x_=>match x_ with|(.inl l8)=>aG Γ (.exit 0) (V4 [8] oA u [(8,(.vsl 34 l8.length))] [(kr 34 l8)])|(.inr r_)=>aR (X5 Γ v6 v1 v14 v11 v20 v2 v54 r_)) (λ⟨i6,l7⟩ y h=>Ag q [2,3,6,7,8,36,37,38] GQ (gC h (λh=>Ag q [2,3,6,7,8,9,36,37] GQ (tC h λc9_ h=>tC h λc10_ h=>tB h λx11 y11 h=>tT q [2,3,6,7,8,9,10,11,36,37] GQ [⟨[],[],(.tuple [(M4 x11.1),(Aq x11.2)]),[],[],[]⟩] (c3 c9_ c10_ (eG y11)) (Ag q [2,3,6,7,8,9,10,11,36,37,56] GQ (gC h (λh=>gR q Gx Dn [(4,WM)] [] (c1 (Be 1 Cz (0:Int))) (O8 (vO x11 v14 v11 v20 v2 v54) (tS h (gO (Oa (Hd sL (show Le Γ _ (vN x11 v14 v11 v20 v2 v54) from Le.trans (Bs (st':=(vO x11 v14 v11 v20 v2 v54)) Gx Dn q) (Le.trans (Oq (t:=4) (nm:=6004) (sz':=1) (λi=>Cz (([]:Ad).getD i 0)) 49 rfl rfl (.inl ⟨rfl,rfl⟩) (λh_=>absurd h_ (by decide))) (Bs (st':=(vN x11 v14 v11 v20 v2 v54)) Gx sT q))))))))) λh=>tC h λc12_ h=>tU q YM GQ (c2 c12_ (Eq.refl l7.length)) (Ka (Le.trans (Pa 34 (show ∀ k_,k_<l7.length->AVleL ((λi_=>AV.eraseAll sr ((Il (λi=>Cz (l7.getD i 0)) i6.toNat 0 [(M4 x11.1)]) i_)) k_) ((λi=>Cz ((l7.set i6.toNat x11.1).getD i 0)) k_) from(A8 (Cp ..).symm (λk_ hk_=>(Bn (AV.eraseAll sr) ((E1 (λ_ _=>rfl) (Fn c12_) rfl) k_ hk_)).trans rfl)))) (Pb (λ(k_:Nat) u=>(Dv u [(8,(.vsl 34 k_))] [(34,.arr 1 49 k_ (λi=>Cz ((l7.set i6.toNat x11.1).getD i 0)))])) (show l7.length=(l7.set i6.toNat x11.1).length from(Cp ..).symm))) (Ag q YM GQ (tN h))))))) λh=>tS h (gO (B0 (Bs [8] oA q))))) λx13 h=>(match x13,h with | .inl l8,h=>gA (Ag q Gx oA (O8 (⟨[(4,(.vsl 34 l8.length)),(5,In)],[(kr 34 l8),(TL v14.length v11 v20),(BJ 30001 35100 v2.length v54 37101),(WL 35002 v14),(RU 35100 v2),(Tc 37101 v54.length),(j7 9100001)],[]⟩:St) (tS h (gK (e:=.ret) (Hd [(30000,30000),(30001,30001),(37101,37101),(35002,35002),(35100,35100),(9100001,9100001),(34,20000)] (Le.trans (Fg (nm:=34) (sz:=1) (n:=l8.length) (e:=49) (f:=(λi=>Cz (l8.getD i 0))) (g:=(λi=>Cz (l8.getD i 0))) rfl ⟨rfl,trivial⟩ (λ_ _=>rfl) (by rw[hΓ];rfl)) (Kc (st':=⟨[(4,(fi l8 34)),(5,In)],[(34,.tok 1 49 l8.length),(TL v14.length v11 v20),(BJ 30001 35100 v2.length v54 37101),(WL 35002 v14),(RU 35100 v2),(Tc 37101 v54.length),(j7 9100001)],[]⟩) (by kernel_rfl)))))))) | .inr r15,h=>gAr (λst' hk=>tS h (gK hk)))))))
def o7(a8:Ad)(a6:List An):List AV:=(MH 35100 a8.length a6 37101)
def Ju(a2:A6)(a_p2c1:Int)(a0:Fl)(a1:Int)(a4:Int)(a8:Ad)(a6:List An):Option QK:=
 (Az (Ay (0:Int) a2.Args.length) ((E5 (a2.Args.getD (0:Int).toNat (0:Int)) a0 a1 a4 a8 a6).bind λx2=>(bif (!x2) then(Az (Ay (A3 ((a2.Args.length:Int)-1)) a2.Args.length) (Az (Ay (a2.Args.getD (A3 ((a2.Args.length:Int)-1)).toNat (0:Int)) a0.length) (some ((a0.getD (a2.Args.getD (A3 ((a2.Args.length:Int)-1)).toNat (0:Int)).toNat []),(0:Int))))) else(Az (0<=(1:Int)/\(1:Int)<=(a2.Args.length:Int)) ((Ba (⟨a2.Kind,a2.Bits,a2.Lanes,a2.Dst,(a2.Args.drop (1:Int).toNat),a2.Imm⟩:A6) a_p2c1 a0 a1 a4 a8 a6).bind λx6=>(some (x6.1,x6.2)))))))
theorem P2(h:Ju v6 v1 v14 v11 v20 v2 v54=some v57):sP 160 [(EM v6),(.rpo CZ),(.rpo [(pS v1)])] (Z1 v14 v11 v20 v2 v54 v54.length) (.tuple [(dO v57.1),(Aq v57.2)]) (Z1 v14 v11 v20 v2 v54 v54.length):=
 sG Tryz.func160 λΓ q=>gR q JH Sh [(4,WM)] [] (c1 (Be 1 Cz (0:Int))) (tC h λc1_ h=>tB h λx2 y2 h=>tT q [1,2,3,12] Sh [⟨Lw,[],(.bool x2),[(TL v14.length v11 v20),(30001,.row 113 (o7 v2 v54)),(Tc 37101 v54.length),(WL 35002 v14),(RU 35100 v2),(j7 9100001)],[],iF⟩] (NT c1_ (F0 y2) (Qe [(.row 118 (TI v14.length v11 v20)),(.row 113 (o7 v2 v54)),(.tok 3 239 v54.length),(.arr 1 64 v14.length (λi=>C9 (v14.getD i []))),(.arr 1 5 v2.length (λi=>T9 (v2.getD i 0))),(.obj (.tab .i64 Ty))])) (gC h (λh=>tC h λc3_ h=>tC h λc4_ h=>tU q Gx Dn (c3 c3_ c4_ (Eq.refl v14.length)) (tS h (Bj Lw))) λh=>tC h λc5_ h=>gR q F2 Sh [(29,(AV.list 1 Ao 0 (v6.Args.drop (1:Int).toNat) .none))] [] (c2 c5_ (show(AVle (ue v6.Args) (AV.list 1 Ao 0 (v6.Args.drop (1:Int).toNat) .none)) from AL)) (tB h λx6 y6 h=>tT q Gx n9 [⟨Lw,[(20000,33)],(.tuple (fk x6.1 x6.2)),[(TL v14.length v11 v20),(30001,.row 113 (o7 v2 v54)),(Tc 37101 v54.length),(WL 35002 v14),(RU 35100 v2),(j7 9100001),(20000,.tok 1 49 x6.1.length)],[],iF⟩] (ci (Bc y6) (Qe [(.row 118 (TI v14.length v11 v20)),(.row 113 (o7 v2 v54)),(.tok 3 239 v54.length),(.arr 1 64 v14.length (λi=>C9 (v14.getD i []))),(.arr 1 5 v2.length (λi=>T9 (v2.getD i 0))),(.obj (.tab .i64 Ty))])) (tS h (Bj Lw)))))
def Vu(a2:A6)(a0:Fl)(a1:Int)(a4:Int)(a8:Ad)(a6:List An):BR->Option rJ:=
 λ((i2,l3):BR)=>(bif (decide (i2<(a2.Args.length:Int))) then(Az (Ay i2 a2.Args.length) ((B5 (a2.Args.getD i2.toNat 0) a0 a1 a4 a8 a6).bind λx6=>(Az (Ay i2 l3.length) (some (.next ((A3 (i2+1)),(l3.set i2.toNat x6))))))) else(some (.done l3)))
def o8(a8:Ad)(a6:List An):List AV:=(MH 35100 a8.length a6 37101)
def Qa(a2:A6)(a0:Fl)(a1:Int)(a4:Int)(a8:Ad)(a6:List An):Option QK:=
 (Az (0<=(a2.Args.length:Int)/\(a2.Args.length:Int)<=(a2.Args.length:Int)/\(a2.Args.length:Int)<=(room:Int)) ((Af (Vu a2 a0 a1 a4 a8 a6) ((0:Int),(List.replicate (a2.Args.length:Int).toNat (0:Int)))).bind (λx8=>(some (x8,(0:Int))))))
theorem Y6(h:Qa v6 v14 v1 v11 v2 v54=some v57):sP 102 [(F3 30000),(EM v6)] (Z1 v14 v1 v11 v2 v54 v54.length) (.tuple (fk v57.1 v57.2)) (Z8 v14 v1 v11 v2 v54 v54.length v57.1.length):=
 sG Tryz.func102 λΓ q=>have hΓ:=q.own;gR q Ln Sh [(4,WM)] [] (c1 (Be 1 Cz (0:Int))) (tV q [0,3,6] sS h λh=>by exact Ka (Le.trans (Pa 12 (show ∀ k_,k_<((v6.Args.length:Int).toNat)->AVleL ((λi_=>AV.eraseAll (λn_=>Bp n_ sS) ((λ_=>[(.int .u64 (0:Int))]) i_)) k_) ((λi=>Cz ((List.replicate (v6.Args.length:Int).toNat (0:Int)).getD i 0)) k_) from(λk hk=>K8 (e:=Cz) (d:=(0:Int)) (.cons (AVle.refl _) .nil) _ k (Lb hk)))) (Pb (λ(k_:Nat) u=>(Dv u [(6,(.vsl 12 k_))] [(12,.arr 1 49 k_ (λi=>Cz ((List.replicate (v6.Args.length:Int).toNat (0:Int)).getD i 0)))])) (show(v6.Args.length:Int).toNat=(List.replicate (v6.Args.length:Int).toNat (0:Int)).length from(Pu ..).symm))) (Ag q YT AC (tL q h YT AC (λu (i2,l3)=>(Dv u [(6,(.vsl 12 l3.length)),(Db 16 i2)] [(kr 12 l3)])) (λu l4=>aG Γ (.exit 0) (V4 [6] AC u [(6,(.vsl 12 l4.length))] [(kr 12 l4)])) (λ⟨i2,l3⟩ y h=>Ag q [0,6,14,15,16,17] AC (gC h (λh=>tV q [0,6,7,8,14,15,16] AC h λh=>tB h λx6 y6 h=>tC h λc7_ h=>tT q YT AC [⟨Lw,[],(M4 x6),[(TL v14.length v1 v11),(30001,.row 113 (o8 v2 v54)),(Tc 37101 v54.length),(WL 35002 v14),(RU 35100 v2),(j7 9100001)],[],iF⟩] (ci (Cb y6) (gw [(.row 118 (TI v14.length v1 v11)),(.row 113 (o8 v2 v54)),(.tok 3 239 v54.length),(.arr 1 64 v14.length (λi=>C9 (v14.getD i []))),(.arr 1 5 v2.length (λi=>T9 (v2.getD i 0))),(.obj (.tab .i64 Ty))] (c2 c7_ (Eq.refl l3.length)))) (Ka (Le.trans (Pa 12 (show ∀ k_,k_<l3.length->AVleL ((λi_=>AV.eraseAll (λn_=>Bp n_ AC) ((Il (λi=>Cz (l3.getD i 0)) i2.toNat 0 [(M4 x6)]) i_)) k_) ((λi=>Cz ((l3.set i2.toNat x6).getD i 0)) k_) from(A8 (Cp ..).symm (λk_ hk_=>(Bn (AV.eraseAll (λn_=>Bp n_ AC)) ((E1 (λ_ _=>rfl) (Fn c7_) rfl) k_ hk_)).trans rfl)))) (Pb (λ(k_:Nat) u=>(Dv u [(6,(.vsl 12 k_))] [(12,.arr 1 49 k_ (λi=>Cz ((l3.set i2.toNat x6).getD i 0)))])) (show l3.length=(l3.set i2.toNat x6).length from(Cp ..).symm))) (Ag q YT AC (tN h)))) λh=>tS h (gO (B0 (Bs [6] AC q))))) λx8 h=>gA (Ag q Gx AC (O8 (⟨[(4,(.vsl 12 x8.length)),(5,In)],[(kr 12 x8),(TL v14.length v1 v11),(30001,.row 113 (o8 v2 v54)),(WL 35002 v14),(RU 35100 v2),(Tc 37101 v54.length),(j7 9100001)],[]⟩:St) (tS h (gK (e:=.ret) (Hd [(30000,30000),(30001,30001),(37101,37101),(35002,35002),(35100,35100),(9100001,9100001),(12,20000)] (Le.trans (Fg (nm:=12) (sz:=1) (n:=x8.length) (e:=49) (f:=(λi=>Cz (x8.getD i 0))) (g:=(λi=>Cz (x8.getD i 0))) rfl ⟨rfl,trivial⟩ (λ_ _=>rfl) (by rw[hΓ];rfl)) (Kc (st':=⟨[(4,(fi x8 12)),(5,In)],[(12,.tok 1 49 x8.length),(TL v14.length v1 v11),(30001,.row 113 (o8 v2 v54)),(WL 35002 v14),(RU 35100 v2),(Tc 37101 v54.length),(j7 9100001)],[]⟩) (by kernel_rfl)))))))))))
def Ri(a2:A6)(a0:Fl)(a1:Int)(a4:Int)(a8:Ad)(a6:List An):Option QK:=
 (Az (Ay (0:Int) a2.Args.length) (Az (Ay (a2.Args.getD (0:Int).toNat (0:Int)) a0.length) (Az (Ay a2.Imm (a0.getD (a2.Args.getD (0:Int).toNat (0:Int)).toNat []).length) ((Mq ((a0.getD (a2.Args.getD (0:Int).toNat (0:Int)).toNat []).getD (a2.Imm).toNat (0:Int))).bind λx4=>(some (x4,(0:Int)))))))
theorem BN(h:Ri v6 v14 v1 v11 v2 v54=some v57):sP 103 [(F3 30000),(EM v6)] (Z1 v14 v1 v11 v2 v54 v54.length) (.tuple (fk v57.1 v57.2)) (Z8 v14 v1 v11 v2 v54 v54.length v57.1.length):=
 sG Tryz.func103 λΓ q=>gR q Ln Sh [(4,WM)] [] (c1 (Be 1 Cz (0:Int))) (tC h λc1_ h=>tC h λc2_ h=>tC h λc3_ h=>tB h λx4 y4 h=>tT q Gx nX [(xE 20 x4 x4.length)] (c5 c1_ c2_ (Eq.refl v14.length) c3_ (My y4)) (tS h (Bj sO)))
abbrev MF:=(Int×Int×Int×List An×Fl×Ad)
def Uh(aB:List A6):MF->Option (LR (Int×Int×Int×List An×Fl×Ad) ((Int×Int×List An×Fl×Ad) ⊕ (Int×Int×Int×List An×Fl×Ad))):=
 λ((i1,i2,i3,l4,l5,l6):MF)=>(bif (decide (i1<(aB.length:Int))) then((Ic l5 i2 i3 l6 l4).bind λx12=>(Az (l5.length=x12.2.2.2.2.1.length) (Az (l6.length=x12.2.2.2.2.2.length) (bif (!x12.1) then(some (.done (.inr ((9:Int),x12.2.1,x12.2.2.1,x12.2.2.2.1,x12.2.2.2.2.1,x12.2.2.2.2.2)))) else(Option.bind (α:=jy) (Az (Ay i1 aB.length) (bif (decide ((aB.getD i1.toNat default).Kind=(0:Int))) then(Az (Ay i1 aB.length) ((Wh (aB.getD i1.toNat default)).bind λx25=>(some (x25.1,x25.2,x12.2.1,x12.2.2.1,x12.2.2.2.1,x12.2.2.2.2.1,x12.2.2.2.2.2)))) else(bif (decide ((aB.getD i1.toNat default).Kind=(13:Int))) then(Az (Ay i1 aB.length) ((Og (aB.getD i1.toNat default) x12.2.2.2.2.1 x12.2.1 x12.2.2.1 x12.2.2.2.2.2 x12.2.2.2.1).bind λx28=>(some (x28.1,x28.2,x12.2.1,x12.2.2.1,x12.2.2.2.1,x12.2.2.2.2.1,x12.2.2.2.2.2)))) else(bif (decide ((aB.getD i1.toNat default).Kind=(14:Int))) then(Az (Ay i1 aB.length) ((L0 (aB.getD i1.toNat default) x12.2.2.2.2.1 x12.2.1 x12.2.2.1 x12.2.2.2.2.2 x12.2.2.2.1).bind λx31=>(some (x31.1,x31.2,x12.2.1,x12.2.2.1,x12.2.2.2.1,x12.2.2.2.2.1,x12.2.2.2.2.2)))) else(bif (decide ((aB.getD i1.toNat default).Kind=(15:Int))) then(Az (Ay i1 aB.length) ((Jv (aB.getD i1.toNat default) x12.2.2.2.2.1 x12.2.1 x12.2.2.1 x12.2.2.2.2.2 x12.2.2.2.1).bind λx34=>(some (x34.1,x34.2,x12.2.1,x12.2.2.1,x12.2.2.2.1,x12.2.2.2.2.1,x12.2.2.2.2.2)))) else(bif (decide ((aB.getD i1.toNat default).Kind=(16:Int))) then(Az (Ay i1 aB.length) ((Lq (aB.getD i1.toNat default) x12.2.2.2.2.1 x12.2.1 x12.2.2.1 x12.2.2.2.2.2 x12.2.2.2.1).bind λx37=>(Az (x12.2.2.2.2.1.length=x37.2.2.2.2.2.1.length) (Az (x12.2.2.2.2.2.length=x37.2.2.2.2.2.2.length) (some (x37.1,x37.2.1,x37.2.2.1,x37.2.2.2.1,x37.2.2.2.2.1,x37.2.2.2.2.2.1,x37.2.2.2.2.2.2)))))) else(bif (decide ((aB.getD i1.toNat default).Kind=(17:Int))) then(Az (Ay i1 aB.length) ((Ki (aB.getD i1.toNat default) x12.2.2.2.2.1 x12.2.1 x12.2.2.1 x12.2.2.2.2.2 x12.2.2.2.1).bind λx42=>(Az (x12.2.2.2.2.1.length=x42.2.2.2.2.2.1.length) (Az (x12.2.2.2.2.2.length=x42.2.2.2.2.2.2.length) (some (x42.1,x42.2.1,x42.2.2.1,x42.2.2.2.1,x42.2.2.2.2.1,x42.2.2.2.2.2.1,x42.2.2.2.2.2.2)))))) else(bif (decide ((aB.getD i1.toNat default).Kind=(18:Int))) then(Az (Ay i1 aB.length) ((Lz (aB.getD i1.toNat default) x12.2.2.2.2.1 x12.2.1 x12.2.2.1 x12.2.2.2.2.2 x12.2.2.2.1).bind λx47=>(Az (x12.2.2.2.2.1.length=x47.2.2.2.2.2.1.length) (Az (x12.2.2.2.2.2.length=x47.2.2.2.2.2.2.length) (some (x47.1,x47.2.1,x47.2.2.1,x47.2.2.2.1,x47.2.2.2.2.1,x47.2.2.2.2.2.1,x47.2.2.2.2.2.2)))))) else(bif (decide ((aB.getD i1.toNat default).Kind=(19:Int))) then(Az (Ay i1 aB.length) ((Jt (aB.getD i1.toNat default) x12.2.2.2.2.1 x12.2.1 x12.2.2.1 x12.2.2.2.2.2 x12.2.2.2.1).bind λx52=>(Az (x12.2.2.2.2.1.length=x52.2.2.2.2.2.1.length) (Az (x12.2.2.2.2.2.length=x52.2.2.2.2.2.2.length) (some (x52.1,x52.2.1,x52.2.2.1,x52.2.2.2.1,x52.2.2.2.2.1,x52.2.2.2.2.2.1,x52.2.2.2.2.2.2)))))) else(bif (decide ((aB.getD i1.toNat default).Kind=(20:Int))) then(Az (Ay i1 aB.length) ((Ju (aB.getD i1.toNat default) (4:Int) x12.2.2.2.2.1 x12.2.1 x12.2.2.1 x12.2.2.2.2.2 x12.2.2.2.1).bind λx57=>(some (x57.1,x57.2,x12.2.1,x12.2.2.1,x12.2.2.2.1,x12.2.2.2.2.1,x12.2.2.2.2.2)))) else(bif (decide ((aB.getD i1.toNat default).Kind=(21:Int))) then(Az (Ay i1 aB.length) ((Qa (aB.getD i1.toNat default) x12.2.2.2.2.1 x12.2.1 x12.2.2.1 x12.2.2.2.2.2 x12.2.2.2.1).bind λx60=>(some (x60.1,x60.2,x12.2.1,x12.2.2.1,x12.2.2.2.1,x12.2.2.2.2.1,x12.2.2.2.2.2)))) else(bif (decide ((aB.getD i1.toNat default).Kind=(22:Int))) then(Az (Ay i1 aB.length) ((Ri (aB.getD i1.toNat default) x12.2.2.2.2.1 x12.2.1 x12.2.2.1 x12.2.2.2.2.2 x12.2.2.2.1).bind λx63=>(some (x63.1,x63.2,x12.2.1,x12.2.2.1,x12.2.2.2.1,x12.2.2.2.2.1,x12.2.2.2.2.2)))) else(bif (decide ((aB.getD i1.toNat default).Kind=(1:Int))) then(Az (Ay i1 aB.length) ((Ba (aB.getD i1.toNat default) (1:Int) x12.2.2.2.2.1 x12.2.1 x12.2.2.1 x12.2.2.2.2.2 x12.2.2.2.1).bind λx66=>(some (x66.1,x66.2,x12.2.1,x12.2.2.1,x12.2.2.2.1,x12.2.2.2.2.1,x12.2.2.2.2.2)))) else(bif (decide ((aB.getD i1.toNat default).Kind=(2:Int))) then(Az (Ay i1 aB.length) ((Ba (aB.getD i1.toNat default) (2:Int) x12.2.2.2.2.1 x12.2.1 x12.2.2.1 x12.2.2.2.2.2 x12.2.2.2.1).bind λx69=>(some (x69.1,x69.2,x12.2.1,x12.2.2.1,x12.2.2.2.1,x12.2.2.2.2.1,x12.2.2.2.2.2)))) else(bif (decide ((aB.getD i1.toNat default).Kind=(3:Int))) then(Az (Ay i1 aB.length) ((Ba (aB.getD i1.toNat default) (3:Int) x12.2.2.2.2.1 x12.2.1 x12.2.2.1 x12.2.2.2.2.2 x12.2.2.2.1).bind λx72=>(some (x72.1,x72.2,x12.2.1,x12.2.2.1,x12.2.2.2.1,x12.2.2.2.2.1,x12.2.2.2.2.2)))) else(bif (decide ((aB.getD i1.toNat default).Kind=(4:Int))) then(Az (Ay i1 aB.length) ((Ba (aB.getD i1.toNat default) (4:Int) x12.2.2.2.2.1 x12.2.1 x12.2.2.1 x12.2.2.2.2.2 x12.2.2.2.1).bind λx75=>(some (x75.1,x75.2,x12.2.1,x12.2.2.1,x12.2.2.2.1,x12.2.2.2.2.1,x12.2.2.2.2.2)))) else(bif (decide ((aB.getD i1.toNat default).Kind=(5:Int))) then(Az (Ay i1 aB.length) ((Ba (aB.getD i1.toNat default) (5:Int) x12.2.2.2.2.1 x12.2.1 x12.2.2.1 x12.2.2.2.2.2 x12.2.2.2.1).bind λx78=>(some (x78.1,x78.2,x12.2.1,x12.2.2.1,x12.2.2.2.1,x12.2.2.2.2.1,x12.2.2.2.2.2)))) else(bif (decide ((aB.getD i1.toNat default).Kind=(6:Int))) then(Az (Ay i1 aB.length) ((Ba (aB.getD i1.toNat default) (6:Int) x12.2.2.2.2.1 x12.2.1 x12.2.2.1 x12.2.2.2.2.2 x12.2.2.2.1).bind λx81=>(some (x81.1,x81.2,x12.2.1,x12.2.2.1,x12.2.2.2.1,x12.2.2.2.2.1,x12.2.2.2.2.2)))) else(bif (decide ((aB.getD i1.toNat default).Kind=(7:Int))) then(Az (Ay i1 aB.length) ((Ba (aB.getD i1.toNat default) (7:Int) x12.2.2.2.2.1 x12.2.1 x12.2.2.1 x12.2.2.2.2.2 x12.2.2.2.1).bind λx84=>(some (x84.1,x84.2,x12.2.1,x12.2.2.1,x12.2.2.2.1,x12.2.2.2.2.1,x12.2.2.2.2.2)))) else(bif (decide ((aB.getD i1.toNat default).Kind=(8:Int))) then(Az (Ay i1 aB.length) ((Ba (aB.getD i1.toNat default) (8:Int) x12.2.2.2.2.1 x12.2.1 x12.2.2.1 x12.2.2.2.2.2 x12.2.2.2.1).bind λx87=>(some (x87.1,x87.2,x12.2.1,x12.2.2.1,x12.2.2.2.1,x12.2.2.2.2.1,x12.2.2.2.2.2)))) else(bif (decide ((aB.getD i1.toNat default).Kind=(9:Int))) then(Az (Ay i1 aB.length) ((Ba (aB.getD i1.toNat default) (9:Int) x12.2.2.2.2.1 x12.2.1 x12.2.2.1 x12.2.2.2.2.2 x12.2.2.2.1).bind λx90=>(some (x90.1,x90.2,x12.2.1,x12.2.2.1,x12.2.2.2.1,x12.2.2.2.2.1,x12.2.2.2.2.2)))) else(bif (decide ((aB.getD i1.toNat default).Kind=(10:Int))) then(Az (Ay i1 aB.length) ((Ba (aB.getD i1.toNat default) (10:Int) x12.2.2.2.2.1 x12.2.1 x12.2.2.1 x12.2.2.2.2.2 x12.2.2.2.1).bind λx93=>(some (x93.1,x93.2,x12.2.1,x12.2.2.1,x12.2.2.2.1,x12.2.2.2.2.1,x12.2.2.2.2.2)))) else(bif (decide ((aB.getD i1.toNat default).Kind=(11:Int))) then(Az (Ay i1 aB.length) ((Ba (aB.getD i1.toNat default) (11:Int) x12.2.2.2.2.1 x12.2.1 x12.2.2.1 x12.2.2.2.2.2 x12.2.2.2.1).bind λx96=>(some (x96.1,x96.2,x12.2.1,x12.2.2.1,x12.2.2.2.1,x12.2.2.2.2.1,x12.2.2.2.2.2)))) else(bif (decide ((aB.getD i1.toNat default).Kind=(12:Int))) then(Az (Ay i1 aB.length) ((Ba (aB.getD i1.toNat default) (12:Int) x12.2.2.2.2.1 x12.2.1 x12.2.2.1 x12.2.2.2.2.2 x12.2.2.2.1).bind λx99=>(some (x99.1,x99.2,x12.2.1,x12.2.2.1,x12.2.2.2.1,x12.2.2.2.2.1,x12.2.2.2.2.2)))) else none)))))))))))))))))))))))) (λ(l15,i16,i17,i18,l19,l20,l21)=>(bif (i16 !=0) then(some (.done (.inr (i16,i17,i18,l19,l20,l21)))) else(Az (Ay i1 aB.length) (Az (Ay (aB.getD i1.toNat default).Dst l20.length) (some (.next ((A3 (i1+1)),i17,i18,l19,(l20.set ((aB.getD i1.toNat default).Dst).toNat l15),l21)))))))))))) else(some (.done (.inl (i2,i3,l4,l5,l6)))))
def X4(Γ:G8)(aB:List A6)(a0:Fl)(a1:Int)(a4:Int)(a8:Ad)(a6:List An)(r:MF):Exit->St->Prop:=fK Tryz.prog Γ Tryz.f106.results.toList (Z1 a0 a1 a4 a8 a6 a6.length) (Aq r.1) (Z1 r.2.2.2.2.1 r.2.1 r.2.2.1 r.2.2.2.2.2 r.2.2.2.1 r.2.2.2.1.length)
def Xc(x12:R7):List AV:=(MH 35100 x12.2.2.2.2.2.length x12.2.2.2.1 37101)
def Xk(x12:R7):Own:=(.row 113 (Xc x12))
def Xm(x12:R7):AV:=(Aq x12.2.2.1)
def Xh:Own:=(.obj (.tab .i64 Ty))
def Xg(x12:R7):Own:=(.tok 3 239 x12.2.2.2.1.length)
def kR(aB:List A6)(i1:Int):=(aB.getD i1.toNat default)
def Ra(aB:List A6)(i1:Int):AV:=(.int .i64 (kR aB i1).Kind)
def Xl(x12:R7):AV:=(.vsl 35002 x12.2.2.2.2.1.length)
def Xf(x12:R7):=(λi=>C9 (x12.2.2.2.2.1.getD i []))
def Xe(x12:R7):=(λi=>T9 (x12.2.2.2.2.2.getD i 0))
def Xj(x12:R7):Own:=(.arr 1 5 x12.2.2.2.2.2.length (Xe x12))
def Xi(x12:R7):Own:=(.arr 1 64 x12.2.2.2.2.1.length (Xf x12))
def Xd(x12:R7):Own:=(.row 118 [(F3 30001),(.omap 9100001),(Xl x12),(Aq x12.2.1),(Xm x12)])
def ss(x12:R7):List U8:=[(30000,.row 118 [(F3 30001),(.omap 9100001),(Xl x12),(Aq x12.2.1),(Xm x12)]),(30001,.row 113 (Xc x12)),(Tc 37101 x12.2.2.2.1.length),(35002,.arr 1 64 x12.2.2.2.2.1.length (Xf x12)),(35100,.arr 1 5 x12.2.2.2.2.2.length (Xe x12)),(j7 9100001)]
def Kh(aB:List A6)(a0:Fl)(a1:Int)(a4:Int)(a8:Ad)(a6:List An):Option MF:=
 ((Af (Uh aB) ((0:Int),a1,a4,a6,a0,a8)).bind (λx104=>(match x104 with|(.inl (i7,i8,l9,l10,l11))=>(some ((0:Int),i7,i8,l9,l10,l11))|(.inr r106)=>(some r106))))
variable{v63:MF}
theorem Oh(h:Kh v7 v14 v1 v11 v2 v54=some v63):sP 106 [(F3 30000),(TJ v7)] (Z1 v14 v1 v11 v2 v54 v54.length) (Aq v63.1) (Z1 v63.2.2.2.2.1 v63.2.1 v63.2.2.1 v63.2.2.2.2.2 v63.2.2.2.1 v63.2.2.2.1.length):=
 sG Tryz.func106 λΓ q=>tW q Cy Dn ZE Dn (tL q h ZE Dn (λu (i1,i2,i3,l4,l5,l6)=>(Dv u [(Db 10 i1)] [(TL l5.length i2 i3),(BJ 30001 35100 l6.length l4 37101),(WL 35002 l5),(RU 35100 l6),(Tc 37101 l4.length)])) (λu x_=>match x_ with|(.inl (i7,i8,l9,l10,l11))=>aG Γ (.exit 0) (⟨[],(xA l10 i7 i8 l11 l9 l9.length),[]⟩:St)|(.inr r_)=>aR (X4 Γ v7 v14 v1 v11 v2 v54 r_)) (λ⟨i1,i2,i3,l4,l5,l6⟩ y h=>Ag q [0,1,9,10,11] Dn (gC h (λh=>Ag q [0,1,5,9,10] Dn (tB h λx12 y12 h=>tC h λc13_ h=>tC h λc14_ h=>tT q [0,1,5,9,10,15] Dn [(xr x12.1 (ss x12))] (c1 (Kr y12)) (gC h (λh=>Ag q [4] Dn (tS h (gO (Oa (Hd Lw (Le.refl _ _)))))) λh=>tB h λx100 y100 h=>yv y100 (λ(l15,i16,i17,i18,l19,l20,l21)=>aG Γ .normal (⟨[fl,(1,(TJ v7)),(5,(Aq i1)),(6,(dO l15)),(7,(Aq i16)),(9,(Od v7.length)),(Db 10 i1)],(xA l20 i17 i18 l21 l19 l19.length),[]⟩:St)) (λy h=>tC h λc22_ h=>gB h (λhs23 h=>tC h λc24_ h=>tB h λx25 y25 h=>gR q Ia Wb [(25,In)] [⟨[],[(20000,31)],(.tuple (fk x25.1 x25.2)),[(20000,.tok 1 49 x25.1.length)],[],[]⟩] (c4 c22_ (show(AVle (Ra v7 i1) In) from(B9 hs23)) c24_ (HX y25)) (tS h (gK (B0 (Bs Ia Dn q))))) (λhs23 h=>gB h (λhs26 h=>tC h λc27_ h=>tB h λx28 y28 h=>gR q Ia Dn [(25,(Od 13))] [(yb x28.1 x28.2 (ss x12))] (SG c22_ (show(AVle (Ra v7 i1) (Od 13)) from(B9 hs26)) c27_ (V1 y28) (Qe [(Xd x12),(Xk x12),(Xg x12),(Xi x12),(Xj x12),Xh])) (tS h (gK (B0 Kb)))) (λhs26 h=>gB h (λhs29 h=>tC h λc30_ h=>tB h λx31 y31 h=>gR q Ia Wb [(25,(Od 14))] [(Z5 x31.1 x31.2 (Xl x12) x12.2.1 (Xm x12) (Xc x12) x12.2.2.2.1.length x12.2.2.2.2.1.length (Xf x12) x12.2.2.2.2.2.length (Xe x12) x31.1.length)] (SG c22_ (show(AVle (Ra v7 i1) (Od 14)) from(B9 hs29)) c30_ (Sf y31) (Qe [(Xd x12),(Xk x12),(Xg x12),(Xi x12),(Xj x12),Xh])) (tS h (gK (B0 (Bs Ia Dn q))))) (λhs29 h=>gB h (λhs32 h=>tC h λc33_ h=>tB h λx34 y34 h=>gR q Ia Wb [(25,(Od 15))] [(Z5 x34.1 x34.2 (Xl x12) x12.2.1 (Xm x12) (Xc x12) x12.2.2.2.1.length x12.2.2.2.2.1.length (Xf x12) x12.2.2.2.2.2.length (Xe x12) x34.1.length)] (SG c22_ (show(AVle (Ra v7 i1) (Od 15)) from(B9 hs32)) c33_ (P3 y34) (Qe [(Xd x12),(Xk x12),(Xg x12),(Xi x12),(Xj x12),Xh])) (tS h (gK (B0 (Bs Ia Dn q))))) (λhs32 h=>gB h (λhs35 h=>tC h λc36_ h=>tB h λx37 y37 h=>tC h λc38_ h=>tC h λc39_ h=>gR q Ia Wb [(25,(Od 16))] [(xC 31 x37.1 x37.2.1 x37.2.2.2.2.2.1 x37.2.2.1 x37.2.2.2.1 x37.2.2.2.2.2.2 x37.2.2.2.2.1 x37.2.2.2.2.1.length x37.1.length)] (c4 c22_ (show(AVle (Ra v7 i1) (Od 16)) from(B9 hs35)) c36_ (Pn y37)) (tS h (gK (B0 (Bs Ia Dn q))))) (λhs35 h=>gB h (λhs40 h=>tC h λc41_ h=>tB h λx42 y42 h=>tC h λc43_ h=>tC h λc44_ h=>gR q Ia Wb [(25,(Od 17))] [(xC 31 x42.1 x42.2.1 x42.2.2.2.2.2.1 x42.2.2.1 x42.2.2.2.1 x42.2.2.2.2.2.2 x42.2.2.2.2.1 x42.2.2.2.2.1.length x42.1.length)] (c4 c22_ (show(AVle (Ra v7 i1) (Od 17)) from(B9 hs40)) c41_ (Oi y42)) (tS h (gK (B0 (Bs Ia Dn q))))) (λhs40 h=>gB h (λhs45 h=>tC h λc46_ h=>tB h λx47 y47 h=>tC h λc48_ h=>tC h λc49_ h=>gR q Ia Dn [(25,(Od 18))] [(vY x47.1 x47.2.1 x47.2.2.2.2.2.1 x47.2.2.1 x47.2.2.2.1 x47.2.2.2.2.2.2 x47.2.2.2.2.1 x47.2.2.2.2.1.length)] (c4 c22_ (show(AVle (Ra v7 i1) (Od 18)) from(B9 hs45)) c46_ (Se y47)) (tS h (gK (B0 Kb)))) (λhs45 h=>gB h (λhs50 h=>tC h λc51_ h=>tB h λx52 y52 h=>tC h λc53_ h=>tC h λc54_ h=>gR q Ia Dn [(25,(Od 19))] [(vY x52.1 x52.2.1 x52.2.2.2.2.2.1 x52.2.2.1 x52.2.2.2.1 x52.2.2.2.2.2.2 x52.2.2.2.2.1 x52.2.2.2.2.1.length)] (c4 c22_ (show(AVle (Ra v7 i1) (Od 19)) from(B9 hs50)) c51_ (P1 y52)) (tS h (gK (B0 Kb)))) (λhs50 h=>gB h (λhs55 h=>tC h λc56_ h=>tB h λx57 y57 h=>gR q Ia Dn [(25,(Od 20))] [(yb x57.1 x57.2 (ss x12))] (SG c22_ (show(AVle (Ra v7 i1) (Od 20)) from(B9 hs55)) c56_ (P2 y57) (Qe [(Xd x12),(Xk x12),(Xg x12),(Xi x12),(Xj x12),Xh])) (tS h (gK (B0 Kb)))) (λhs55 h=>gB h (λhs58 h=>tC h λc59_ h=>tB h λx60 y60 h=>gR q Ia Wb [(25,(Od 21))] [(Z5 x60.1 x60.2 (Xl x12) x12.2.1 (Xm x12) (Xc x12) x12.2.2.2.1.length x12.2.2.2.2.1.length (Xf x12) x12.2.2.2.2.2.length (Xe x12) x60.1.length)] (SG c22_ (show(AVle (Ra v7 i1) (Od 21)) from(B9 hs58)) c59_ (Y6 y60) (Qe [(Xd x12),(Xk x12),(Xg x12),(Xi x12),(Xj x12),Xh])) (tS h (gK (B0 (Bs Ia Dn q))))) (λhs58 h=>gB h (λhs61 h=>tC h λc62_ h=>tB h λx63 y63 h=>gR q Ia Wb [(25,(Od 22))] [(Z5 x63.1 x63.2 (Xl x12) x12.2.1 (Xm x12) (Xc x12) x12.2.2.2.1.length x12.2.2.2.2.1.length (Xf x12) x12.2.2.2.2.2.length (Xe x12) x63.1.length)] (SG c22_ (show(AVle (Ra v7 i1) (Od 22)) from(B9 hs61)) c62_ (BN y63) (Qe [(Xd x12),(Xk x12),(Xg x12),(Xi x12),(Xj x12),Xh])) (tS h (gK (B0 (Bs Ia Dn q))))) (λhs61 h=>gB h (λhs64 h=>tC h λc65_ h=>tB h λx66 y66 h=>gR q Ia Wb [(25,ZT)] [(Z5 x66.1 x66.2 (Xl x12) x12.2.1 (Xm x12) (Xc x12) x12.2.2.2.1.length x12.2.2.2.2.1.length (Xf x12) x12.2.2.2.2.2.length (Xe x12) x66.1.length)] (SG c22_ (show(AVle (Ra v7 i1) ZT) from(B9 hs64)) c65_ (Bc y66) (Qe [(Xd x12),(Xk x12),(Xg x12),(Xi x12),(Xj x12),Xh])) (tS h (gK (B0 (Bs Ia Dn q))))) (λhs64 h=>gB h (λhs67 h=>tC h λc68_ h=>tB h λx69 y69 h=>gR q Ia Wb [(25,ZI)] [(Z5 x69.1 x69.2 (Xl x12) x12.2.1 (Xm x12) (Xc x12) x12.2.2.2.1.length x12.2.2.2.2.1.length (Xf x12) x12.2.2.2.2.2.length (Xe x12) x69.1.length)] (SG c22_ (show(AVle (Ra v7 i1) ZI) from(B9 hs67)) c68_ (Bc y69) (Qe [(Xd x12),(Xk x12),(Xg x12),(Xi x12),(Xj x12),Xh])) (tS h (gK (B0 (Bs Ia Dn q))))) (λhs67 h=>gB h (λhs70 h=>tC h λc71_ h=>tB h λx72 y72 h=>gR q Ia Wb [(25,LE)] [(Z5 x72.1 x72.2 (Xl x12) x12.2.1 (Xm x12) (Xc x12) x12.2.2.2.1.length x12.2.2.2.2.1.length (Xf x12) x12.2.2.2.2.2.length (Xe x12) x72.1.length)] (SG c22_ (show(AVle (Ra v7 i1) LE) from(B9 hs70)) c71_ (Bc y72) (Qe [(Xd x12),(Xk x12),(Xg x12),(Xi x12),(Xj x12),Xh])) (tS h (gK (B0 (Bs Ia Dn q))))) (λhs70 h=>gB h (λhs73 h=>tC h λc74_ h=>tB h λx75 y75 h=>gR q Ia Wb [(25,SE)] [(Z5 x75.1 x75.2 (Xl x12) x12.2.1 (Xm x12) (Xc x12) x12.2.2.2.1.length x12.2.2.2.2.1.length (Xf x12) x12.2.2.2.2.2.length (Xe x12) x75.1.length)] (SG c22_ (show(AVle (Ra v7 i1) SE) from(B9 hs73)) c74_ (Bc y75) (Qe [(Xd x12),(Xk x12),(Xg x12),(Xi x12),(Xj x12),Xh])) (tS h (gK (B0 (Bs Ia Dn q))))) (λhs73 h=>gB h (λhs76 h=>tC h λc77_ h=>tB h λx78 y78 h=>gR q Ia Wb [(25,WK)] [(Z5 x78.1 x78.2 (Xl x12) x12.2.1 (Xm x12) (Xc x12) x12.2.2.2.1.length x12.2.2.2.2.1.length (Xf x12) x12.2.2.2.2.2.length (Xe x12) x78.1.length)] (SG c22_ (show(AVle (Ra v7 i1) WK) from(B9 hs76)) c77_ (Bc y78) (Qe [(Xd x12),(Xk x12),(Xg x12),(Xi x12),(Xj x12),Xh])) (tS h (gK (B0 (Bs Ia Dn q))))) (λhs76 h=>gB h (λhs79 h=>tC h λc80_ h=>tB h λx81 y81 h=>gR q Ia Wb [(25,(.int .i64 (6:Int)))] [(Z5 x81.1 x81.2 (Xl x12) x12.2.1 (Xm x12) (Xc x12) x12.2.2.2.1.length x12.2.2.2.2.1.length (Xf x12) x12.2.2.2.2.2.length (Xe x12) x81.1.length)] (SG c22_ (show(AVle (Ra v7 i1) (.int .i64 (6:Int))) from(B9 hs79)) c80_ (Bc y81) (Qe [(Xd x12),(Xk x12),(Xg x12),(Xi x12),(Xj x12),Xh])) (tS h (gK (B0 (Bs Ia Dn q))))) (λhs79 h=>gB h (λhs82 h=>tC h λc83_ h=>tB h λx84 y84 h=>gR q Ia Wb [(25,(.int .i64 (7:Int)))] [(Z5 x84.1 x84.2 (Xl x12) x12.2.1 (Xm x12) (Xc x12) x12.2.2.2.1.length x12.2.2.2.2.1.length (Xf x12) x12.2.2.2.2.2.length (Xe x12) x84.1.length)] (SG c22_ (show(AVle (Ra v7 i1) (.int .i64 (7:Int))) from(B9 hs82)) c83_ (Bc y84) (Qe [(Xd x12),(Xk x12),(Xg x12),(Xi x12),(Xj x12),Xh])) (tS h (gK (B0 (Bs Ia Dn q))))) (λhs82 h=>gB h (λhs85 h=>tC h λc86_ h=>tB h λx87 y87 h=>gR q Ia Wb [(25,NJ)] [(Z5 x87.1 x87.2 (Xl x12) x12.2.1 (Xm x12) (Xc x12) x12.2.2.2.1.length x12.2.2.2.2.1.length (Xf x12) x12.2.2.2.2.2.length (Xe x12) x87.1.length)] (SG c22_ (show(AVle (Ra v7 i1) NJ) from(B9 hs85)) c86_ (Bc y87) (Qe [(Xd x12),(Xk x12),(Xg x12),(Xi x12),(Xj x12),Xh])) (tS h (gK (B0 (Bs Ia Dn q))))) (λhs85 h=>gB h (λhs88 h=>tC h λc89_ h=>tB h λx90 y90 h=>gR q Ia Wb [(25,(.int .i64 (9:Int)))] [(Z5 x90.1 x90.2 (Xl x12) x12.2.1 (Xm x12) (Xc x12) x12.2.2.2.1.length x12.2.2.2.2.1.length (Xf x12) x12.2.2.2.2.2.length (Xe x12) x90.1.length)] (SG c22_ (show(AVle (Ra v7 i1) (.int .i64 (9:Int))) from(B9 hs88)) c89_ (Bc y90) (Qe [(Xd x12),(Xk x12),(Xg x12),(Xi x12),(Xj x12),Xh])) (tS h (gK (B0 (Bs Ia Dn q))))) (λhs88 h=>gB h (λhs91 h=>tC h λc92_ h=>tB h λx93 y93 h=>gR q Ia Wb [(25,(Od 10))] [(Z5 x93.1 x93.2 (Xl x12) x12.2.1 (Xm x12) (Xc x12) x12.2.2.2.1.length x12.2.2.2.2.1.length (Xf x12) x12.2.2.2.2.2.length (Xe x12) x93.1.length)] (SG c22_ (show(AVle (Ra v7 i1) (Od 10)) from(B9 hs91)) c92_ (Bc y93) (Qe [(Xd x12),(Xk x12),(Xg x12),(Xi x12),(Xj x12),Xh])) (tS h (gK (B0 (Bs Ia Dn q))))) (λhs91 h=>gB h (λhs94 h=>tC h λc95_ h=>tB h λx96 y96 h=>gR q Ia Wb [(25,(Od 11))] [(Z5 x96.1 x96.2 (Xl x12) x12.2.1 (Xm x12) (Xc x12) x12.2.2.2.1.length x12.2.2.2.2.1.length (Xf x12) x12.2.2.2.2.2.length (Xe x12) x96.1.length)] (SG c22_ (show(AVle (Ra v7 i1) (Od 11)) from(B9 hs94)) c95_ (Bc y96) (Qe [(Xd x12),(Xk x12),(Xg x12),(Xi x12),(Xj x12),Xh])) (tS h (gK (B0 (Bs Ia Dn q))))) (λhs94 h=>gB h (λhs97 h=>tC h λc98_ h=>tB h λx99 y99 h=>gR q Ia Wb [(25,(Od 12))] [(Z5 x99.1 x99.2 (Xl x12) x12.2.1 (Xm x12) (Xc x12) x12.2.2.2.1.length x12.2.2.2.2.1.length (Xf x12) x12.2.2.2.2.2.length (Xe x12) x99.1.length)] (SG c22_ (show(AVle (Ra v7 i1) (Od 12)) from(B9 hs97)) c98_ (Bc y99) (Qe [(Xd x12),(Xk x12),(Xg x12),(Xi x12),(Xj x12),Xh])) (tS h (gK (B0 (Bs Ia Dn q))))) (λhs97 h=>nomatch h)))))))))))))))))))))))) (match x100,h with|⟨l15,i16,i17,i18,l19,l20,l21⟩,h=>gA (Ag q [0,1,5,6,7,9,10,35] Dn (gC h (λh=>Ag q [4] Dn (tS h (gO (Oa (Hd Lw (Le.refl _ _)))))) λh=>tC h λc102_ h=>tC h λc103_ h=>tU q ZE Dn (c3 c102_ c103_ (Eq.refl l20.length)) (Ka (Le.trans (Pa 35002 (show ∀ k_,k_<l20.length->AVleL ((λi_=>AV.eraseAll (λn_=>Bp n_ Dn) ((Il (λi=>C9 (l20.getD i [])) ((kR v7 i1).Dst).toNat 0 [(dO l15)]) i_)) k_) ((λi=>C9 ((l20.set ((kR v7 i1).Dst).toNat l15).getD i [])) k_) from(A8 (Cp ..).symm (λk_ hk_=>(Bn (AV.eraseAll (λn_=>Bp n_ Dn)) ((E1 (λ_ _=>rfl) (Fn c103_) rfl) k_ hk_)).trans rfl)))) (Pb (λ(k_:Nat) u=>(Dv u [] [(TL k_ i17 i18),(35002,.arr 1 64 k_ (λi=>C9 ((l20.set ((kR v7 i1).Dst).toNat l15).getD i [])))])) (show l20.length=(l20.set ((kR v7 i1).Dst).toNat l15).length from(Cp ..).symm))) (Ag q ZE Dn (tN h))))))))) λh=>tS h (gO (B0 (Bs [] Dn q))))) λx104 h=>(match x104,h with | .inl ⟨i7,i8,l9,l10,l11⟩,h=>gA (Ag q [4] Dn (tS h (Bj Lw))) | .inr r106,h=>gAr (λst' hk=>tS h (gK hk))))
def D0(aS:Int)(a0:Fl)(a1:Int)(a4:Int)(a8:Ad)(a6:List An):Option SC:=
 (some (⟨aS,(0:Int),a4⟩:SC))
variable{v64:SC}
theorem Em(h:D0 v1 v14 v11 v20 v2 v54=some v64):sP 107 (oK v1) (Z1 v14 v11 v20 v2 v54 v54.length) (.agg (NX v64)) (Z1 v14 v11 v20 v2 v54 v54.length):=
 sG Tryz.func107 λΓ q=>tW q JG Oc [4] Oc (tS h (Bj Lw))
def su(a0:Fl)(a1:Int)(a4:Int)(a8:Ad)(a6:List An):List U8:=(Z1 a0 a1 a4 a8 a6 a6.length)
def Mp(aS:Eo)(a0:Fl)(a1:Int)(a4:Int)(a8:Ad)(a6:List An):Option Int:=
 (bif (aS.Kind==2) then((E5 aS.Arg a0 a1 a4 a8 a6).bind λx2=>(bif (!x2) then(Az (Ay (1:Int) aS.To.length) (some (aS.To.getD (1:Int).toNat (0:Int)))) else(Az (Ay (0:Int) aS.To.length) (some (aS.To.getD (0:Int).toNat (0:Int)))))) else(Az (Ay (0:Int) aS.To.length) (some (aS.To.getD (0:Int).toNat (0:Int)))))
variable{v8:Eo}
theorem Qc(h:Mp v8 v14 v1 v11 v2 v54=some v20):sP 110 [(F3 30000),(.agg (f8 v8))] (Z1 v14 v1 v11 v2 v54 v54.length) (.int .i64 v20) (Z1 v14 v1 v11 v2 v54 v54.length):=
 sG Tryz.func110 λΓ q=>Ag q Ln Sh (gB h (λhs1 h=>tB h λx2 y2 h=>gR q [3,14] Sh [(8,(.bool true))] [⟨Lw,[],(.bool x2),(su v14 v1 v11 v2 v54),[],iF⟩] (ci (show(AVle (.bool (v8.Kind==2)) (.bool true)) from(lE hs1)) (dj (true==true) (c9 (show((true==true)=true->(sP 156 (oK v8.Arg) (su v14 v1 v11 v2 v54) (.bool x2) (su v14 v1 v11 v2 v54))) from(λ_=>(F0 y2))) (show((true==true)=true->(some (.row 118 (TI v14.length v1 v11):Own)=some (.row 118 (TI v14.length v1 v11):Own))) from(λ_=>@(rk (.row 118 (TI v14.length v1 v11))))) (show((true==true)=true->(some (.row 113 (MH 35100 v2.length v54 37101):Own)=some (.row 113 (MH 35100 v2.length v54 37101):Own))) from(λ_=>@(rk (.row 113 (MH 35100 v2.length v54 37101))))) (show((true==true)=true->(some (.tok 3 239 v54.length:Own)=some (.tok 3 239 v54.length:Own))) from(λ_=>@(rk (.tok 3 239 v54.length)))) (show((true==true)=true->(some (.arr 1 64 v14.length (λi=>C9 (v14.getD i [])):Own)=some (.arr 1 64 v14.length (λi=>C9 (v14.getD i [])):Own))) from(λ_=>@(rk (.arr 1 64 v14.length (λi=>C9 (v14.getD i [])))))) (show((true==true)=true->(some (.arr 1 5 v2.length (λi=>T9 (v2.getD i 0)):Own)=some (.arr 1 5 v2.length (λi=>T9 (v2.getD i 0)):Own))) from(λ_=>@(rk (.arr 1 5 v2.length (λi=>T9 (v2.getD i 0)))))) (show((true==true)=true->(some (.obj (.tab .i64 Ty):Own)=some (.obj (.tab .i64 Ty):Own))) from(λ_=>@(rk (.obj (.tab .i64 Ty))))) (gI (true==true)) (show(true=true->(true==true)=true) from(λ_=>rfl))))) (gC h (λh=>tV q [4] Dn h λh=>tS h (Bj Lw)) λh=>tV q [4] Dn h λh=>tS h (Bj Lw))) (λhs1 h=>gR q [3,14] Sh [(8,(.bool false))] [⟨[],[],(.bool false),[],[],[]⟩] (ci (show(AVle (.bool (v8.Kind==2)) (.bool false)) from(lE hs1)) (dj (false==true) (c3 (show((false==true)=true->(sP 156 [.any,(Aq v8.Arg)] [] (.bool false) [])) from yk) (gI (false==true)) (show(false=true->(false==true)=true) from yk)))) (BK false (tV q [4] Dn h λh=>tS h (Bj Lw)))))
def Vs(aY:List Bb)(aa1:Int)(a0:Fl):iA->Option ui:=
 λ((i2,l3):iA)=>(bif (decide (i2<(aY.length:Int))) then(Az (Ay i2 aY.length) ((Cw ((aY.getD i2.toNat default).From) aa1).bind λx6=>(Az (Ay x6 ((aY.getD i2.toNat default).Args).length) (Az (Ay (((aY.getD i2.toNat default).Args).getD x6.toNat 0) a0.length) (Az (Ay i2 l3.length) (some (.next ((A3 (i2+1)),(l3.set i2.toNat (a0.getD (((aY.getD i2.toNat default).Args).getD x6.toNat 0).toNat [])))))))))) else(some (.done l3)))
def Vt(aY:List Bb)(l4:Fl):iA->Option ui:=
 λ((i12,l13):iA)=>(bif (decide (i12<(aY.length:Int))) then(Az (Ay i12 aY.length) (Az (Ay i12 l4.length) (Az (Ay (aY.getD i12.toNat default).Dst l13.length) (some (.next ((A3 (i12+1)),(l13.set ((aY.getD i12.toNat default).Dst).toNat (l4.getD i12.toNat [])))))))) else(some (.done l13)))
def kS:=(λn_=>Bp n_ [13,30000,30001,35002,35100,37101,9100001])
def o9(a0:Fl)(aY:List Bb)(i2:Int)(x6:Int):=(a0.getD (((aY.getD i2.toNat default).Args).getD x6.toNat 0).toNat [])
def Lp(aY:List Bb)(aa1:Int)(a0:Fl)(a1:Int)(a4:Int)(a8:Ad)(a6:List An):Option rT:=
 (Az (0<=(aY.length:Int)/\(aY.length:Int)<=(aY.length:Int)/\(aY.length:Int)<=(room:Int)) ((Af (Vs aY aa1 a0) ((0:Int),(List.replicate (aY.length:Int).toNat ([]:Ad)))).bind (λx10=>((Af (Vt aY x10) ((0:Int),a0)).bind (λx18=>(some (a1,a4,a6,x18,a8)))))))
variable{v5:List Bb}
theorem Pm(h:Lp v5 v1 v14 v11 v20 v2 v54=some v55):sP 111 [(F3 30000),(rl v5),(Aq v1)] (Z1 v14 v11 v20 v2 v54 v54.length) (.tuple []) (Z1 v55.2.2.2.1 v55.1 v55.2.1 v55.2.2.2.2 v55.2.2.1 v55.2.2.1.length):=
 sG Tryz.func111 λΓ q=>tV q [0,1,2,6] U5 h λh=>by exact Ka (Le.trans (Pa 13 (show ∀ k_,k_<((v5.length:Int).toNat)->AVleL ((λi_=>AV.eraseAll kS ((λ_=>[SD]) i_)) k_) ((λi=>C9 ((List.replicate (v5.length:Int).toNat ([]:Ad)).getD i [])) k_) from(λk hk=>K8 (e:=C9) (d:=[]) (.cons (λ_ _ _ _ _ hh=>AVle.untag _ _ _ _ _ (C6 _ _ _ _ _ hh)) .nil) _ k (Lb hk)))) (Pb (λ(k_:Nat) u=>(Dv u [(6,(.vsl 13 k_))] [(13,.arr 1 64 k_ (λi=>C9 ((List.replicate (v5.length:Int).toNat ([]:Ad)).getD i [])))])) (show(v5.length:Int).toNat=(List.replicate (v5.length:Int).toNat ([]:Ad)).length from(Pu ..).symm))) (Ag q YL U5 (tL q h YL U5 (λu (i2,l3)=>(Dv u [(6,(.vsl 13 l3.length)),(Db 16 i2)] [(WL 13 l3)])) (λu l4=>aG Γ (.exit 0) (V4 JF U5 u [(6,(.vsl 13 l4.length))] [(WL 13 l4)])) (λ⟨i2,l3⟩ y h=>Ag q [0,1,2,6,14,15,16,17] U5 (gC h (λh=>tV q [0,1,2,6,7,8,14,15,16] [8,13,30000,30001,35002,35100,37101,9100001] h λh=>tB h λx6 y6 h=>tC h λc7_ h=>tC h λc8_ h=>tC h λc9_ h=>tT q YL U5 [(MJ x6)] (c6 (Ij y6) c7_ c8_ (Eq.refl v14.length) c9_ (Eq.refl l3.length)) (Ka (Le.trans (Pa 13 (show ∀ k_,k_<l3.length->AVleL ((λi_=>AV.eraseAll kS ((Il (λi=>C9 (l3.getD i [])) i2.toNat 0 [(dO (o9 v14 v5 i2 x6))]) i_)) k_) ((λi=>C9 ((l3.set i2.toNat (o9 v14 v5 i2 x6)).getD i [])) k_) from(A8 (Cp ..).symm (λk_ hk_=>(Bn (AV.eraseAll kS) ((E1 (λ_ _=>rfl) (Fn c9_) rfl) k_ hk_)).trans rfl)))) (Pb (λ(k_:Nat) u=>(Dv u [(6,(.vsl 13 k_))] [(13,.arr 1 64 k_ (λi=>C9 ((l3.set i2.toNat (o9 v14 v5 i2 x6)).getD i [])))])) (show l3.length=(l3.set i2.toNat (o9 v14 v5 i2 x6)).length from(Cp ..).symm))) (Ag q YL U5 (tN h)))) λh=>tS h (gO (B0 (Bs JF U5 q))))) λx10 h=>gA (Ag q YU U5 (tL q h YU U5 (λu (i12,l13)=>(Dv u [(Db 41 i12)] [(TL l13.length v11 v20),(WL 35002 l13)])) (λu l14=>aG Γ (.exit 2) (V4 [] Dn u [] [(TL l14.length v11 v20),(WL 35002 l14)])) (λ⟨i12,l13⟩ y h=>Ag q [0,6,39,40,41,42] U5 (gC h (λh=>tV q [0,6,9,10,39,40,41] [10,13,30000,30001,35002,35100,37101,9100001] h λh=>tC h λc16_ h=>tC h λc17_ h=>tU q YU U5 (c4 c16_ (Eq.refl x10.length) c17_ (Eq.refl l13.length)) (Ka (Le.trans (Pa 35002 (show ∀ k_,k_<l13.length->AVleL ((λi_=>AV.eraseAll kS ((Il (λi=>C9 (l13.getD i [])) ((v5.getD i12.toNat default).Dst).toNat 0 [(AV.list 1 Cz 0 (x10.getD i12.toNat []) .none)]) i_)) k_) ((λi=>C9 ((l13.set ((v5.getD i12.toNat default).Dst).toNat (x10.getD i12.toNat [])).getD i [])) k_) from(A8 (Cp ..).symm (λk_ hk_=>(Bn (AV.eraseAll kS) ((E1 (λ_ _=>rfl) (Fn c17_) rfl) k_ hk_)).trans rfl)))) (Pb (λ(k_:Nat) u=>(Dv u [] [(TL k_ v11 v20),(35002,.arr 1 64 k_ (λi=>C9 ((l13.set ((v5.getD i12.toNat default).Dst).toNat (x10.getD i12.toNat [])).getD i [])))])) (show l13.length=(l13.set ((v5.getD i12.toNat default).Dst).toNat (x10.getD i12.toNat [])).length from(Cp ..).symm))) (Ag q YU U5 (tN h)))) λh=>tS h (gO (B0 (Bs [] Dn q))))) λx18 h=>bL (λst' hl19=>tS h (gK (e:=.normal) (Hd Lw hl19)))))))
def Xq(aX:List Ab):MF->Option (LR (Int×Int×Int×List An×Fl×Ad) (SC×Int×Int×List An×Fl×Ad)):=
 λ(s_:MF)=>match s_ with|(i1,i2,i3,l4,l5,l6)=>(Az (Ay i1 aX.length) (Az (Ay i1 aX.length) ((Kh ((aX.getD i1.toNat default).Ops) l5 i2 i3 l6 l4).bind λx26=>(Az (l5.length=x26.2.2.2.2.1.length) (Az (l6.length=x26.2.2.2.2.2.length) (bif (x26.1 !=0) then((D0 x26.1 x26.2.2.2.2.1 x26.2.1 x26.2.2.1 x26.2.2.2.2.2 x26.2.2.2.1).bind λx29=>(some (.done (x29,x26.2.1,x26.2.2.1,x26.2.2.2.1,x26.2.2.2.2.1,x26.2.2.2.2.2)))) else((Ic x26.2.2.2.2.1 x26.2.1 x26.2.2.1 x26.2.2.2.2.2 x26.2.2.2.1).bind λx30=>(Az (x26.2.2.2.2.1.length=x30.2.2.2.2.1.length) (Az (x26.2.2.2.2.2.length=x30.2.2.2.2.2.length) (bif (!x30.1) then((D0 (9:Int) x30.2.2.2.2.1 x30.2.1 x30.2.2.1 x30.2.2.2.2.2 x30.2.2.2.1).bind λx33=>(some (.done (x33,x30.2.1,x30.2.2.1,x30.2.2.2.1,x30.2.2.2.2.1,x30.2.2.2.2.2)))) else(bif (((aX.getD i1.toNat default).End.Kind:Int)==0) then((B5 ((aX.getD i1.toNat default).End.Arg) x30.2.2.2.2.1 x30.2.1 x30.2.2.1 x30.2.2.2.2.2 x30.2.2.2.1).bind λx34=>(some (.done ((⟨(0:Int),x34,x30.2.2.1⟩:SC),x30.2.1,x30.2.2.1,x30.2.2.2.1,x30.2.2.2.2.1,x30.2.2.2.2.2)))) else(bif (((aX.getD i1.toNat default).End.Kind:Int)==3) then((D0 (8:Int) x30.2.2.2.2.1 x30.2.1 x30.2.2.1 x30.2.2.2.2.2 x30.2.2.2.1).bind λx35=>(some (.done (x35,x30.2.1,x30.2.2.1,x30.2.2.2.1,x30.2.2.2.2.1,x30.2.2.2.2.2)))) else((Mp (⟨(aX.getD i1.toNat default).End.Kind,(aX.getD i1.toNat default).End.Arg,(aX.getD i1.toNat default).End.To⟩:Eo) x30.2.2.2.2.1 x30.2.1 x30.2.2.1 x30.2.2.2.2.2 x30.2.2.2.1).bind λx36=>(Az (Ay x36 aX.length) ((Lp ((aX.getD x36.toNat default).Phis) i1 x30.2.2.2.2.1 x30.2.1 x30.2.2.1 x30.2.2.2.2.2 x30.2.2.2.1).bind λx38=>(Az (x30.2.2.2.2.1.length=x38.2.2.2.1.length) (Az (x30.2.2.2.2.2.length=x38.2.2.2.2.length) (some (.next (x36,x38.1,x38.2.1,x38.2.2.1,x38.2.2.2.1,x38.2.2.2.2))))))))))))))))))))
abbrev rV:=(SC×Int×Int×List An×Fl×Ad)
def CW(Γ:G8)(aX:List Ab)(a0:Fl)(a1:Int)(a4:Int)(a8:Ad)(a6:List An)(r:rV):Exit->St->Prop:=fK Tryz.prog Γ Tryz.f58.results.toList (Z1 a0 a1 a4 a8 a6 a6.length) (.agg (NX r.1)) (Z1 r.2.2.2.2.1 r.2.1 r.2.2.1 r.2.2.2.2.2 r.2.2.2.1 r.2.2.2.1.length)
def SB:Own:=(.obj (.tab .i64 Ty))
def yp(aX:List Ab):=(aX.getD (0:Int).toNat (default:Ab))
def pG(x13:R7):Own:=(.arr 1 64 x13.2.2.2.2.1.length (λi=>C9 (x13.2.2.2.2.1.getD i [])))
def pH(x30:R7):Own:=(.arr 1 64 x30.2.2.2.2.1.length (λi=>C9 (x30.2.2.2.2.1.getD i [])))
def pE(x13:R7):Own:=(.arr 1 5 x13.2.2.2.2.2.length (λi=>T9 (x13.2.2.2.2.2.getD i 0)))
def pF(x30:R7):Own:=(.arr 1 5 x30.2.2.2.2.2.length (λi=>T9 (x30.2.2.2.2.2.getD i 0)))
def pC(x13:R7):Own:=(.row 113 (MH 35100 x13.2.2.2.2.2.length x13.2.2.2.1 37101))
def pD(x30:R7):Own:=(.row 113 (MH 35100 x30.2.2.2.2.2.length x30.2.2.2.1 37101))
def pA(x13:R7):Own:=(.row 118 (TI x13.2.2.2.2.1.length x13.2.1 x13.2.2.1))
def pB(x30:R7):Own:=(.row 118 (TI x30.2.2.2.2.1.length x30.2.1 x30.2.2.1))
def vQ(x9:MF):List U8:=(Z1 x9.2.2.2.2.1 x9.2.1 x9.2.2.1 x9.2.2.2.2.2 x9.2.2.2.1 x9.2.2.2.1.length)
def kT(x13:R7):List U8:=(Z1 x13.2.2.2.2.1 x13.2.1 x13.2.2.1 x13.2.2.2.2.2 x13.2.2.2.1 x13.2.2.2.1.length)
def kU(x30:R7):List U8:=(Z1 x30.2.2.2.2.1 x30.2.1 x30.2.2.1 x30.2.2.2.2.2 x30.2.2.2.1 x30.2.2.2.1.length)
def vP(x26:MF):List U8:=(Z1 x26.2.2.2.2.1 x26.2.1 x26.2.2.1 x26.2.2.2.2.2 x26.2.2.2.1 x26.2.2.2.1.length)
def Rj(aX:List Ab)(a0:Fl)(a1:Int)(a4:Int)(a8:Ad)(a6:List An):Option rV:=
 ((Ms (S:=MF) (X:=rV) (Az (Ay (0:Int) aX.length) (Az (Ay (0:Int) aX.length) ((Kh ((aX.getD (0:Int).toNat (default:Ab)).Ops) a0 a1 a4 a8 a6).bind λx9=>(Az (a0.length=x9.2.2.2.2.1.length) (Az (a8.length=x9.2.2.2.2.2.length) (bif (x9.1 !=0) then((D0 x9.1 x9.2.2.2.2.1 x9.2.1 x9.2.2.1 x9.2.2.2.2.2 x9.2.2.2.1).bind λx12=>(some (.done (x12,x9.2.1,x9.2.2.1,x9.2.2.2.1,x9.2.2.2.2.1,x9.2.2.2.2.2)))) else((Ic x9.2.2.2.2.1 x9.2.1 x9.2.2.1 x9.2.2.2.2.2 x9.2.2.2.1).bind λx13=>(Az (x9.2.2.2.2.1.length=x13.2.2.2.2.1.length) (Az (x9.2.2.2.2.2.length=x13.2.2.2.2.2.length) (bif (!x13.1) then((D0 (9:Int) x13.2.2.2.2.1 x13.2.1 x13.2.2.1 x13.2.2.2.2.2 x13.2.2.2.1).bind λx16=>(some (.done (x16,x13.2.1,x13.2.2.1,x13.2.2.2.1,x13.2.2.2.2.1,x13.2.2.2.2.2)))) else(bif (((aX.getD (0:Int).toNat (default:Ab)).End.Kind:Int)==0) then((B5 ((aX.getD (0:Int).toNat (default:Ab)).End.Arg) x13.2.2.2.2.1 x13.2.1 x13.2.2.1 x13.2.2.2.2.2 x13.2.2.2.1).bind λx17=>(some (.done ((⟨(0:Int),x17,x13.2.2.1⟩:SC),x13.2.1,x13.2.2.1,x13.2.2.2.1,x13.2.2.2.2.1,x13.2.2.2.2.2)))) else(bif (((aX.getD (0:Int).toNat (default:Ab)).End.Kind:Int)==3) then((D0 (8:Int) x13.2.2.2.2.1 x13.2.1 x13.2.2.1 x13.2.2.2.2.2 x13.2.2.2.1).bind λx18=>(some (.done (x18,x13.2.1,x13.2.2.1,x13.2.2.2.1,x13.2.2.2.2.1,x13.2.2.2.2.2)))) else((Mp (⟨(aX.getD (0:Int).toNat (default:Ab)).End.Kind,(aX.getD (0:Int).toNat (default:Ab)).End.Arg,(aX.getD (0:Int).toNat (default:Ab)).End.To⟩:Eo) x13.2.2.2.2.1 x13.2.1 x13.2.2.1 x13.2.2.2.2.2 x13.2.2.2.1).bind λx19=>(Az (Ay x19 aX.length) ((Lp ((aX.getD x19.toNat default).Phis) (0:Int) x13.2.2.2.2.1 x13.2.1 x13.2.2.1 x13.2.2.2.2.2 x13.2.2.2.1).bind λx21=>(Az (x13.2.2.2.2.1.length=x21.2.2.2.1.length) (Az (x13.2.2.2.2.2.length=x21.2.2.2.2.length) (some (.next (x19,x21.1,x21.2.1,x21.2.2.1,x21.2.2.2.1,x21.2.2.2.2)))))))))))))))))))) (Xq aX)).bind (λx41=>(some x41)))
variable{v65:rV}
theorem BO(h:Rj v10 v14 v1 v11 v2 v54=some v65):sP 58 [(F3 30000),(GW v10)] (Z1 v14 v1 v11 v2 v54 v54.length) (.agg (NX v65.1)) (Z1 v65.2.2.2.2.1 v65.2.1 v65.2.2.1 v65.2.2.2.2.2 v65.2.2.2.1 v65.2.2.2.1.length):=
 sG Tryz.func58 λΓ q=>Ag q JG Oc (tB h λx41 y41 h=>gS y41 (λ(s_:MF)=>match s_ with|(i1,i2,i3,l4,l5,l6)=>0) (λ(s_:MF)=>match s_ with|(i1,i2,i3,l4,l5,l6)=>(⟨[fl,(1,(GW v10)),LH,(5,(Aq i1))],[(4,.row 61 [In,(.int .u64 (0:Int)),In]),(TL l5.length i2 i3),(BJ 30001 35100 l6.length l4 37101),(WL 35002 l5),(RU 35100 l6),(Tc 37101 l4.length),(j7 9100001)],[]⟩:St)) (λr_=>aR (CW Γ v10 v14 v1 v11 v2 v54 r_)) (λy h=>Ag q ZH Oc (tV q [0,1,4,5,6] S8 h λh=>tC h λc8_ h=>tB h λx9 y9 h=>tC h λc10_ h=>tC h λc11_ h=>tT q [0,1,4,5,6,7] S8 [(vW x9.1 (vQ x9))] (c2 c8_ (Oh y9)) (Ag q [0,1,4,5,6,7,22] S8 (gC h (λh=>tB h λx12 y12 h=>tT q [4] Oc [(ud x12 (vQ x9))] (ci (Em y12) (Qe [(.row 118 (TI x9.2.2.2.2.1.length x9.2.1 x9.2.2.1)),(.row 113 (MH 35100 x9.2.2.2.2.2.length x9.2.2.2.1 37101)),(.tok 3 239 x9.2.2.2.1.length),(.arr 1 64 x9.2.2.2.2.1.length (λi=>C9 (x9.2.2.2.2.1.getD i []))),(.arr 1 5 x9.2.2.2.2.2.length (λi=>T9 (x9.2.2.2.2.2.getD i 0))),SB])) (tS h (JT (Oa (Hd Lw (Le.refl _ _)))))) λh=>tB h λx13 y13 h=>tC h λc14_ h=>tC h λc15_ h=>tT q [0,1,4,5,6,28] S8 [(xr x13.1 (kT x13))] (c1 (Kr y13)) (gC h (λh=>tB h λx16 y16 h=>tT q [4] Oc [(ud x16 (kT x13))] (ci (Em y16) (Qe [(pA x13),(pC x13),(.tok 3 239 x13.2.2.2.1.length),(pG x13),(pE x13),SB])) (tS h (JT (Oa (Hd Lw (Le.refl _ _)))))) λh=>tW q [0,1,4,5,6,32] S8 [0,1,4,5,6,32,33] S8 (gC h (λh=>tB h λx17 y17 h=>tT q [4] Oc [(yY x17 (kT x13))] (ci (Cb y17) (Qe [(pA x13),(pC x13),(.tok 3 239 x13.2.2.2.1.length),(pG x13),(pE x13),SB])) (tS h (JT (Oa (Hd Lw (Le.refl _ _)))))) λh=>Ag q [0,1,4,5,6,44] S8 (gC h (λh=>tB h λx18 y18 h=>tT q [4] Oc [(ud x18 (kT x13))] (ci (Em y18) (Qe [(pA x13),(pC x13),(.tok 3 239 x13.2.2.2.1.length),(pG x13),(pE x13),SB])) (tS h (JT (Oa (Hd Lw (Le.refl _ _)))))) λh=>tB h λx19 y19 h=>tT q [0,1,4,5,8] Oc [(yZ x19 (kT x13))] (ci (Qc y19) (Qe [(pA x13),(pC x13),(.tok 3 239 x13.2.2.2.1.length),(pG x13),(pE x13),SB])) (tC h λc20_ h=>tB h λx21 y21 h=>tC h λc22_ h=>tC h λc23_ h=>tT q [0,1,4,8] Oc [(vX x21.2.2.2.1 x21.1 x21.2.1 x21.2.2.2.2 x21.2.2.1 x21.2.2.1.length)] (c2 c20_ (Pm y21)) (Ag q ZH Oc (tS h (dk Kb))))))))))) (λ⟨i1,i2,i3,l4,l5,l6⟩ y h=>tV q [0,1,4,5,6] S8 h λh=>tC h λc25_ h=>tB h λx26 y26 h=>tC h λc27_ h=>tC h λc28_ h=>tT q [0,1,4,5,6,7] S8 [(vW x26.1 (vP x26))] (c2 c25_ (Oh y26)) (Ag q [0,1,4,5,6,7,22] S8 (gC h (λh=>tB h λx29 y29 h=>tT q [4] Oc [(ud x29 (vP x26))] (ci (Em y29) (Qe [(.row 118 (TI x26.2.2.2.2.1.length x26.2.1 x26.2.2.1)),(.row 113 (MH 35100 x26.2.2.2.2.2.length x26.2.2.2.1 37101)),(.tok 3 239 x26.2.2.2.1.length),(.arr 1 64 x26.2.2.2.2.1.length (λi=>C9 (x26.2.2.2.2.1.getD i []))),(.arr 1 5 x26.2.2.2.2.2.length (λi=>T9 (x26.2.2.2.2.2.getD i 0))),SB])) (tS h (JT (Oa (Hd Lw (Le.refl _ _)))))) λh=>tB h λx30 y30 h=>tC h λc31_ h=>tC h λc32_ h=>tT q [0,1,4,5,6,28] S8 [(xr x30.1 (kU x30))] (c1 (Kr y30)) (gC h (λh=>tB h λx33 y33 h=>tT q [4] Oc [(ud x33 (kU x30))] (ci (Em y33) (Qe [(pB x30),(pD x30),(.tok 3 239 x30.2.2.2.1.length),(pH x30),(pF x30),SB])) (tS h (JT (Oa (Hd Lw (Le.refl _ _)))))) λh=>tW q [0,1,4,5,6,32] S8 [0,1,4,5,6,32,33] S8 (gC h (λh=>tB h λx34 y34 h=>tT q [4] Oc [(yY x34 (kU x30))] (ci (Cb y34) (Qe [(pB x30),(pD x30),(.tok 3 239 x30.2.2.2.1.length),(pH x30),(pF x30),SB])) (tS h (JT (Oa (Hd Lw (Le.refl _ _)))))) λh=>Ag q [0,1,4,5,6,44] S8 (gC h (λh=>tB h λx35 y35 h=>tT q [4] Oc [(ud x35 (kU x30))] (ci (Em y35) (Qe [(pB x30),(pD x30),(.tok 3 239 x30.2.2.2.1.length),(pH x30),(pF x30),SB])) (tS h (JT (Oa (Hd Lw (Le.refl _ _)))))) λh=>tB h λx36 y36 h=>tT q [0,1,4,5,8] Oc [(yZ x36 (kU x30))] (ci (Qc y36) (Qe [(pB x30),(pD x30),(.tok 3 239 x30.2.2.2.1.length),(pH x30),(pF x30),SB])) (tC h λc37_ h=>tB h λx38 y38 h=>tC h λc39_ h=>tC h λc40_ h=>tT q [0,1,4,8] Oc [(vX x38.2.2.2.1 x38.1 x38.2.1 x38.2.2.2.2 x38.2.2.1 x38.2.2.1.length)] (c2 c37_ (Pm y38)) (Ag q ZH Oc (tS h (dk Kb)))))))))) (gAr (λst' hk=>tS h (gK hk))))
def xU(aaF:Int):=((decide (aaF<0))==false)
def WH(x2:Int):=(List.replicate (A3 (x2+1)).toNat ([]:Ad))
def pI(aaF:Int)(aa4:Ad)(a9:Aa):=(bif (decide (aaF<0)) then true else((aa4.length:Int)!=(a9.Params.length:Int)))
abbrev cn:=(SC×Int×List An×Ad)
def Mo(a9:Aa)(aa4:Ad)(aaF:Int)(a3:Ad)(a7:List An):Option cn:=
 ((bif ((bif (decide (aaF<0)) then true else((aa4.length:Int)!=(a9.Params.length:Int)))==false) then Fo a9 (2:Int) else some (0:Int)).bind λx1=>(bif (bif (bif (decide (aaF<0)) then true else((aa4.length:Int)!=(a9.Params.length:Int))) then true else(x1 !=0)) then(some ((⟨(0:Int),(0:Int),(0:Int)⟩:SC),(1:Int),a7,a3)) else((Nh a9).bind λx2=>(Az (0<=(A3 (x2+1))/\(A3 (x2+1))<=(A3 (x2+1))/\(A3 (x2+1))<=(room:Int)) ((Mw (List.replicate (A3 (x2+1)).toNat ([]:Ad)) aaF (0:Int) a3 a7).bind λx4=>((Pi a9 aa4 (List.replicate (A3 (x2+1)).toNat ([]:Ad)) aaF (0:Int) a3 a7).bind λx5=>(Az ((List.replicate (A3 (x2+1)).toNat ([]:Ad)).length=x5.2.2.2.1.length) (Az (a3.length=x5.2.2.2.2.length) ((Rj a9.Blocks x5.2.2.2.1 x5.1 x5.2.1 x5.2.2.2.2 x5.2.2.1).bind λx8=>(Az (x5.2.2.2.1.length=x8.2.2.2.2.1.length) (Az (x5.2.2.2.2.length=x8.2.2.2.2.2.length) (some (x8.1,(0:Int),x8.2.2.2.1,x8.2.2.2.2.2)))))))))))))
variable{v66:cn}
theorem KD(h:Mo v0 v2 v1 v17 v54=some v66):sP 21 [(RV v0),(dO v2),(F3 30000),(Aq v1)] (Z7 v17 v54 v54.length) (.tuple [(.agg (NX v66.1)),(Aq v66.2.1)]) (Z7 v66.2.2.2 v66.2.2.1 v66.2.2.1.length):=
 sG Tryz.func21 λΓ q=>Ag q [1,2,3,4,8] nw (tB h λx1 y1 h=>tT q [1,2,3,4,8,25] nw [(MJ x1)] (uh (xU v1) (c5 (Pv (decide (v1<0))) (gI ((pI v1 v2 v0)==false)) (λ(hg:((pI v1 v2 v0)==false)=true)=>(Y2 (B4 hg y1))) (gI ((pI v1 v2 v0)==false)) (Pv (pI v1 v2 v0)))) (gC h (λh=>Ag q O5 n5 (tS h (Bj U4))) λh=>tB h λx2 y2 h=>tC h λc3_ h=>tT q [1,4,8,10] nb [(MJ x2)] (c2 (CB y2) c3_) (by exact Ka (Le.trans (Pa 32 (show ∀ k_,k_<((A3 (x2+1)).toNat)->AVleL ((λi_=>AV.eraseAll (λn_=>Bp n_ nb) ((λ_=>[SD]) i_)) k_) ((λi=>C9 ((WH x2).getD i [])) k_) from(λk hk=>K8 (e:=C9) (d:=[]) (.cons (λ_ _ _ _ _ hh=>AVle.untag _ _ _ _ _ (C6 _ _ _ _ _ hh)) .nil) _ k (Lb hk)))) (Pb (λ(k_:Nat) u=>(Dv u [] [(32,.arr 1 64 k_ (λi=>C9 ((WH x2).getD i []))),(34,.row 118 [(F3 30000),.nilm,(.vsl 32 k_),(Aq v1),In])])) (show(A3 (x2+1)).toNat=(WH x2).length from(Pu ..).symm))) (tB h λx4 y4 h=>tT q [1,4,8,10] nZ [⟨[(34,30000),(30000,30001),(37001,37101),(32,35002),(35000,35100)],[(20000,37)],(.omap 20000),[(30000,.row 118 [(F3 30001),.nilm,(.vsl 35002 (WH x2).length),(Aq v1),In]),(BJ 30001 35100 v17.length v54 37101),(Tc 37101 v54.length),(35002,.arr 1 64 (WH x2).length (λi=>C9 ((WH x2).getD i []))),(RU 35100 v17),(j7 20000)],[],[34,30000,37001,32,35000]⟩] (ci (Tt y4) (Qe [(.row 118 [(F3 30000),.nilm,(.vsl 32 (WH x2).length),(Aq v1),In]),(.row 113 (MH 35000 v17.length v54 37001)),(.tok 3 239 v54.length),(.arr 1 64 ((WH x2).length) (λi=>C9 ((WH x2).getD i []))),(.arr 1 5 v17.length (λi=>T9 (v17.getD i 0)))])) (tB h λx5 y5 h=>tC h λc6_ h=>tC h λc7_ h=>tT q [4,8,10] nZ [⟨sQ,[],(.tuple []),(Z1 x5.2.2.2.1 x5.1 x5.2.1 x5.2.2.2.2 x5.2.2.1 x5.2.2.1.length),[],[]⟩] (c1 (Xw y5)) (tB h λx8 y8 h=>tC h λc9_ h=>tC h λc10_ h=>tT q O5 n5 [⟨sQ,[],(.agg (NX x8.1)),(Z1 x8.2.2.2.2.1 x8.2.1 x8.2.2.1 x8.2.2.2.2.2 x8.2.2.2.1 x8.2.2.2.1.length),[],[]⟩] (c1 (BO y8)) (tS h (Bj U4))))))))
def Xn:AV:=In
def CY:AV:=ZT
def ZP:AV:=SD
def WJ:AV:=ks
def pM:AV:=ug
def ib:AV:=vi
def ZO:AV:=(AV.list 1 Ao 0 ([(3:Int)]:Ad) .exact)
def kW:AV:=(AV.list 1 Ao 0 ([(1:Int),(2:Int)]:Ad) .exact)
def dL(x9:cn)(x11:cn):=(bif (x9.2.1==0) then(x11.2.1==0) else false)
def WI(x9:cn)(x11:cn):=(bif (bif (dL x9 x11) then((x9.1.Code:Int)==0) else false) then((x11.1.Code:Int)==0) else false)
def ic(x9:cn)(x11:cn)(i6:Int):=(bif (bif (WI x9 x11) then((x9.1.Value:Int)==i6) else false) then((x11.1.Value:Int)==i6) else false)
def sx(x2:Aa):List AV:=[(Lo x2.Params),(Aq x2.Ret),(GW x2.Blocks)]
def pK(a5:G2):AV:=(AV.list 6 Io default ([(⟨(0:Int),(8:Int),(1:Int),(2:Int),([]:Ad),(Du a5.1)⟩:A6)]:List A6) .exact)
def pL(a5:G2):AV:=(AV.list 6 Io default ([(⟨(0:Int),(8:Int),(1:Int),(3:Int),([]:Ad),(Du a5.2)⟩:A6)]:List A6) .exact)
def sv(a5:G2):=([(⟨([]:List Bb),([]:List A6),(⟨(2:Int),(1:Int),([(1:Int),(2:Int)]:Ad)⟩:Eo)⟩:Ab),(⟨([]:List Bb),([(⟨(0:Int),(8:Int),(1:Int),(2:Int),([]:Ad),(Du a5.1)⟩:A6)]:List A6),(⟨(1:Int),(0:Int),([(3:Int)]:Ad)⟩:Eo)⟩:Ab),(⟨([]:List Bb),([(⟨(0:Int),(8:Int),(1:Int),(3:Int),([]:Ad),(Du a5.2)⟩:A6)]:List A6),(⟨(1:Int),(0:Int),([(3:Int)]:Ad)⟩:Eo)⟩:Ab),(⟨([(⟨(8:Int),(4:Int),([(1:Int),(2:Int)]:Ad),([(2:Int),(3:Int)]:Ad)⟩:Bb)]:List Bb),([]:List A6),(⟨(0:Int),(4:Int),([]:Ad)⟩:Eo)⟩:Ab)]:List Ab)
def sy(a5:G2):List AV:=[pO,NJ,(AV.list 5 Bf default (sv a5) .exact)]
def pJ:AV:=ye
def ia(x3:rS):List U8:=(kn 20000 21000 x3.1.2.bytes x3.1.2.trace 21001 x3.1.2.trace.length)
def vS(a5:G2)(x2:Aa)(x3:rS):List U8:=[(3,.row 54 [(.int .u8 a5.1),(.int .u8 a5.2)]),(5,.row 25 (sy a5)),(6,.row 25 (sx x2)),(BJ 48 60048000 x3.1.2.bytes.length x3.1.2.trace 60048001),(RU 60048000 x3.1.2.bytes),(Tc 60048001 x3.1.2.trace.length)]
def D3(aa9:Bool)(a5:G2):Option Bool:=
 (m_locksteplaw15_awake.bind λx1=>(bif (!x1) then(some false) else((Ja (⟨([(1:Int)]:Ad),(8:Int),([(⟨([]:List Bb),([]:List A6),(⟨(2:Int),(1:Int),([(1:Int),(2:Int)]:Ad)⟩:Eo)⟩:Ab),(⟨([]:List Bb),([(⟨(0:Int),(8:Int),(1:Int),(2:Int),([]:Ad),(Du a5.1)⟩:A6)]:List A6),(⟨(1:Int),(0:Int),([(3:Int)]:Ad)⟩:Eo)⟩:Ab),(⟨([]:List Bb),([(⟨(0:Int),(8:Int),(1:Int),(3:Int),([]:Ad),(Du a5.2)⟩:A6)]:List A6),(⟨(1:Int),(0:Int),([(3:Int)]:Ad)⟩:Eo)⟩:Ab),(⟨([(⟨(8:Int),(4:Int),([(1:Int),(2:Int)]:Ad),([(2:Int),(3:Int)]:Ad)⟩:Bb)]:List Bb),([]:List A6),(⟨(0:Int),(4:Int),([]:Ad)⟩:Eo)⟩:Ab)]:List Ab)⟩:Aa) (2:Int)).bind λx2=>((HM ([]:Ad)).bind λx3=>(bif x3.1.1 then(bif ((x2.Blocks.length:Int)!=2) then(some false) else(Option.bind (α:=G2) (bif aa9 then(some ((1:Int),(Du a5.1))) else(some ((0:Int),(Du a5.2)))) (λ(i5,i6)=>((Mo (⟨([(1:Int)]:Ad),(8:Int),([(⟨([]:List Bb),([]:List A6),(⟨(2:Int),(1:Int),([(1:Int),(2:Int)]:Ad)⟩:Eo)⟩:Ab),(⟨([]:List Bb),([(⟨(0:Int),(8:Int),(1:Int),(2:Int),([]:Ad),(Du a5.1)⟩:A6)]:List A6),(⟨(1:Int),(0:Int),([(3:Int)]:Ad)⟩:Eo)⟩:Ab),(⟨([]:List Bb),([(⟨(0:Int),(8:Int),(1:Int),(3:Int),([]:Ad),(Du a5.2)⟩:A6)]:List A6),(⟨(1:Int),(0:Int),([(3:Int)]:Ad)⟩:Eo)⟩:Ab),(⟨([(⟨(8:Int),(4:Int),([(1:Int),(2:Int)]:Ad),([(2:Int),(3:Int)]:Ad)⟩:Bb)]:List Bb),([]:List A6),(⟨(0:Int),(4:Int),([]:Ad)⟩:Eo)⟩:Ab)]:List Ab)⟩:Aa) ([i5]:Ad) (9:Int) x3.1.2.bytes x3.1.2.trace).bind λx9=>(Az (x3.1.2.bytes.length=x9.2.2.2.length) ((Mo x2 ([i5]:Ad) (9:Int) x9.2.2.2 x9.2.2.1).bind λx11=>(Az (x9.2.2.2.length=x11.2.2.2.length) (some (bif (bif (bif (bif (bif (bif (bif (x9.2.1==0) then(x11.2.1==0) else false) then((x9.1.Code:Int)==0) else false) then((x11.1.Code:Int)==0) else false) then((x9.1.Value:Int)==i6) else false) then((x11.1.Value:Int)==i6) else false) then((x11.1.Steps:Int)==5) else false) then((x9.1.Steps:Int)==4) else false))))))))) else(some false))))))
theorem ok_locksteplaw15_IfconvChooses(aa9:Bool)(a5:G2)(r:Bool)(h:D3 aa9 a5=some r):sP 6 [(.bool aa9),(.agg (eA2U8 a5))] [] (.bool r) []:=by
 refine Uz mix Tryz.func6 (λΓ hq=>?_);unfold D3 at h;refine Ag hq Ln [3] ?_;obtain⟨x1,hx1,h⟩:=bind_some h;refine gR hq [0,3,16] [3] [] [(Z9 x1)] (c1 (V2  x1 hx1)) ?_;refine gC h ?_ ?_<;>intro h
 ·refine Ag hq [4] [] ?_;obtain rfl:=OI h;exact Bj []
 ·refine gR hq [0,3,5] [3,5] [(17,pO),(18,kW),(20,(.agg [ib,pM,ZI,CY,kW])),(24,(.agg [Xn,NJ,CY,ZI,WJ,(.int .u64 (Du a5.1))])),(25,(pK a5)),(26,ZO),(28,(.agg [ib,(pK a5),CY,Xn,ZO])),(32,(.agg [Xn,NJ,CY,LE,WJ,(.int .u64 (Du a5.2))])),(33,(pL a5)),(34,ZO),(36,(.agg [ib,(pL a5),CY,Xn,ZO])),(37,kW),(38,(AV.list 1 Ao 0 ([(2:Int),(3:Int)]:Ad) .exact)),(40,pJ),(41,(.agg [Xn,SE,WJ])),(42,(.agg [pJ,pM,Xn,SE,WJ])),(43,(AV.list 5 Bf default (sv a5) .exact))] [] (ci (A0 1 Ao (0:Int) ([(1:Int)]:Ad)) (ci (A0 1 Ao (0:Int) ([(1:Int),(2:Int)]:Ad)) (ci (show(AVle (.agg [ZP,ZP,ZI,CY,kW]) (.agg [ib,pM,ZI,CY,kW])) from(AVle.agg (.cons C6 (.cons C6 (.cons (AVle.refl _) (.cons (AVle.refl _) (.cons (AVle.refl _) .nil))))))) (ci (show(Ay (0:Int) 2) from(by decide)) (ci (show(AVle (.agg [Xn,NJ,CY,ZI,ZP,(.int .u64 (Du a5.1))]) (.agg [Xn,NJ,CY,ZI,WJ,(.int .u64 (Du a5.1))])) from(AVle.agg (.cons (AVle.refl _) (.cons (AVle.refl _) (.cons (AVle.refl _) (.cons (AVle.refl _) (.cons C6 (.cons (AVle.refl _) .nil)))))))) (ci (A0 6 Io (default:A6) ([(⟨(0:Int),(8:Int),(1:Int),(2:Int),([]:Ad),(Du a5.1)⟩:A6)]:List A6)) (ci (A0 1 Ao (0:Int) ([(3:Int)]:Ad)) (ci (show(AVle (.agg [ZP,(pK a5),CY,Xn,ZO]) (.agg [ib,(pK a5),CY,Xn,ZO])) from(AVle.agg (.cons C6 (.cons (AVle.refl _) (.cons (AVle.refl _) (.cons (AVle.refl _) (.cons (AVle.refl _) .nil))))))) (ci (show(Ay (1:Int) 2) from(by decide)) (ci (show(AVle (.agg [Xn,NJ,CY,LE,ZP,(.int .u64 (Du a5.2))]) (.agg [Xn,NJ,CY,LE,WJ,(.int .u64 (Du a5.2))])) from(AVle.agg (.cons (AVle.refl _) (.cons (AVle.refl _) (.cons (AVle.refl _) (.cons (AVle.refl _) (.cons C6 (.cons (AVle.refl _) .nil)))))))) (ci (A0 6 Io (default:A6) ([(⟨(0:Int),(8:Int),(1:Int),(3:Int),([]:Ad),(Du a5.2)⟩:A6)]:List A6)) (ci (A0 1 Ao (0:Int) ([(3:Int)]:Ad)) (ci (show(AVle (.agg [ZP,(pL a5),CY,Xn,ZO]) (.agg [ib,(pL a5),CY,Xn,ZO])) from(AVle.agg (.cons C6 (.cons (AVle.refl _) (.cons (AVle.refl _) (.cons (AVle.refl _) (.cons (AVle.refl _) .nil))))))) (ci (A0 1 Ao (0:Int) ([(1:Int),(2:Int)]:Ad)) (ci (A0 1 Ao (0:Int) ([(2:Int),(3:Int)]:Ad)) (ci (A0 4 Fz (default:Bb) ([(⟨(8:Int),(4:Int),([(1:Int),(2:Int)]:Ad),([(2:Int),(3:Int)]:Ad)⟩:Bb)]:List Bb)) (ci (show(AVle (.agg [Xn,SE,ZP]) (.agg [Xn,SE,WJ])) from(AVle.agg (.cons (AVle.refl _) (.cons (AVle.refl _) (.cons C6 .nil))))) (ci (show(AVle (.agg [pJ,ZP,Xn,SE,WJ]) (.agg [pJ,pM,Xn,SE,WJ])) from(AVle.agg (.cons (AVle.refl _) (.cons C6 (.cons (AVle.refl _) (.cons (AVle.refl _) (.cons (AVle.refl _) .nil))))))) (c1 (A0 5 Bf (default:Ab) (sv a5))))))))))))))))))))) ?_;obtain⟨x2,hx2,h⟩:=bind_some h;refine gR hq [0,3,5,6] [3,5,6] [] [(dN x2)] (c1 (Tu hx2)) ?_;obtain⟨x3,hx3,h⟩:=bind_some h;refine gB h (λhs4 h=>?_) (λhs4 h=>?_)
  ·refine gR hq [0,3,5,6,7] VT [] [⟨[],[(20000,48),(21000,60048000),(21001,60048001)],(.tuple [(bif true then((F3 20000):AV) else .nilp),(Aq x3.2)]),(bif true then(ia x3) else[]),[],[]⟩] (c1 (show(sP 20 [tD] [] (.tuple [(bif true then((F3 20000):AV) else .nilp),(Aq x3.2)]) (bif true then(ia x3) else[])) from(yi (λb_:Bool=>sP 20 [tD] [] (.tuple [(bif b_ then((F3 20000):AV) else .nilp),(Aq x3.2)]) (bif b_ then(ia x3) else[])) hs4 (Spec.args (.cons AM .nil) (PC hx3))))) ?_;refine O8 (⟨[(0,(.bool aa9)),LG,GY,EL,(7,(.ptr 48 0))],(vS a5 x2 x3),[]⟩:St) ?_;refine gR hq [0,3,5,6,7,58] VT [] [] (ci (gI (false==false)) (ci (gI (false==false)) (ci (gI (false==false)) (c1 (Pv false))))) ?_;refine gC h ?_ ?_<;>intro h
   ·refine Ag hq [4] [] ?_;obtain rfl:=OI h;exact Bj []
   ·refine Ag hq [0,3,5,6,7,9] VT ?_;refine gR hq [0,3,5,6,7,9,10] VT [] [] (c1 (show(Ay (1:Int) 2) from(by decide))) ?_;obtain⟨x7,hx7,h⟩:=bind_some h;refine gJ hx7 (λ(i5,i6)=>aG Γ .normal (⟨[GY,EL,(7,(.ptr 48 0)),(9,(M4 i5)),(10,(M4 i6))],[(5,.row 25 (sy a5)),(6,.row 25 (sx x2)),(BJ 48 60048000 x3.1.2.bytes.length x3.1.2.trace 60048001),(RU 60048000 x3.1.2.bytes),(Tc 60048001 x3.1.2.trace.length)],[]⟩:St)) ?_ ?_
    ·clear h hx7;intro y h;refine Ag hq [3,5,6,7,9,10,62] VT ?_;refine gC h ?_ ?_<;>intro h
     ·refine Ag hq [3,5,6,7,9] VT ?_;refine O8 (⟨[LG,GY,EL,(7,(.ptr 48 0)),(9,(.int .u64 (1:Int)))],(vS a5 x2 x3),[]⟩:St) ?_;refine gR hq [5,6,7,9,10] nf [] [] (c1 (show(Ay (0:Int) 2) from(by decide))) ?_;cases h;exact gK (B0 Kb)
     ·cases h;exact gK (B0 (Bs [5,6,7,9,10] nf hq))
    ·clear hx7;rcases x7 with⟨i5,i6⟩;refine gA ?_;obtain⟨x9,hx9,h⟩:=bind_some h;obtain⟨hc10,h⟩:=J7 h;refine gR hq [6,7,9,10,11,12] [6,11,48,60048000,60048001] [(69,(kd i5))] [(vb x9.1 x9.2.1 x9.2.2.2 x9.2.2.1 x9.2.2.1.length)] (ci (A0 1 Cz (0:Int) ([i5]:Ad)) (c1 (KD hx9))) ?_;obtain⟨x11,hx11,h⟩:=bind_some h;obtain⟨hc12,h⟩:=J7 h;refine gR hq [10,11,12,13,14] [11,13] [(77,(kd i5))] [(vb x11.1 x11.2.1 x11.2.2.2 x11.2.2.1 x11.2.2.1.length)] (ci (A0 1 Cz (0:Int) ([i5]:Ad)) (c1 (KD hx11))) ?_;refine gR hq [4] [] [] [] (ci (gI ((x9.2.1==0)==true)) (ci (O9 (x9.2.1==0)) (ci (gI ((dL x9 x11)==true)) (ci (gI ((dL x9 x11)==true)) (ci (O9 (dL x9 x11)) (ci (gI ((bif (dL x9 x11) then((x9.1.Code:Int)==0) else false)==true)) (ci (gI ((bif (dL x9 x11) then((x9.1.Code:Int)==0) else false)==true)) (ci (O9 (bif (dL x9 x11) then((x9.1.Code:Int)==0) else false)) (ci (gI ((WI x9 x11)==true)) (ci (gI ((WI x9 x11)==true)) (ci (gI ((WI x9 x11)==true)) (ci (O9 (WI x9 x11)) (ci (gI ((bif (WI x9 x11) then((x9.1.Value:Int)==i6) else false)==true)) (ci (gI ((bif (WI x9 x11) then((x9.1.Value:Int)==i6) else false)==true)) (ci (gI ((bif (WI x9 x11) then((x9.1.Value:Int)==i6) else false)==true)) (ci (O9 (bif (WI x9 x11) then((x9.1.Value:Int)==i6) else false)) (ci (gI ((ic x9 x11 i6)==true)) (ci (gI ((ic x9 x11 i6)==true)) (ci (O9 (ic x9 x11 i6)) (ci (gI ((bif (ic x9 x11 i6) then((x11.1.Steps:Int)==5) else false)==true)) (ci (gI ((bif (ic x9 x11 i6) then((x11.1.Steps:Int)==5) else false)==true)) (c1 (O9 (bif (ic x9 x11 i6) then((x11.1.Steps:Int)==5) else false)))))))))))))))))))))))) ?_;cases h;exact Bj []
  ·refine gR hq [0,3,5,6,7] [3,5,6] [] [⟨[],[],(.tuple [(bif false then((F3 20000):AV) else .nilp),(Aq x3.2)]),(bif false then(ia x3) else[]),[],[]⟩] (c1 (show(sP 20 [tD] [] (.tuple [(bif false then((F3 20000):AV) else .nilp),(Aq x3.2)]) (bif false then(ia x3) else[])) from(yi (λb_:Bool=>sP 20 [tD] [] (.tuple [(bif b_ then((F3 20000):AV) else .nilp),(Aq x3.2)]) (bif b_ then(ia x3) else[])) hs4 (Spec.args (.cons AM .nil) (PC hx3))))) ?_;refine O8 (⟨[(0,(.bool aa9)),LG,GY,EL,(7,.nilp)],[(3,.row 54 [(.int .u8 a5.1),(.int .u8 a5.2)]),(5,.row 25 (sy a5)),(6,.row 25 (sx x2))],[]⟩:St) ?_;refine gR hq [0,3,5,6,7,58] [3,5,6] [] [] (ci (gI (true==false)) (ci (gI (true==false)) (ci (gI (true==false)) (c1 (Pv true))))) ?_;refine BK true ?_;refine Ag hq [4] [] ?_;obtain rfl:=OI h;exact Bj []
theorem Hj{n:Int}(h:-9223372036854775808<=n)(h':n<9223372036854775808):A3 n=n:=by
 show IntKind.i64.wrap n=n
 simp only[IntKind.wrap,IntKind.bits,IntKind.signed]
 simp
 split<;>omega
theorem GK{n:Int}(h:0<=n)(h':n<18446744073709551616):Du n=n:=by
 show IntKind.u64.wrap n=n
 simp[IntKind.wrap,IntKind.bits,IntKind.signed];omega
theorem nN(n:Int):Du n=n % 18446744073709551616:=by
 show IntKind.u64.wrap n=_
 simp[IntKind.wrap,IntKind.bits,IntKind.signed]
theorem Ac{R:Type}{p:Prop}[Decidable p]{k:Option R}(h:p):Az p k=k:=if_pos h
theorem ll{x:Int}(j:Nat):x.fdiv (2 ^ j)=x / 2 ^ j:=by rw[Int.fdiv_eq_ediv_of_nonneg _ (by exact Int.le_of_lt (Int.pow_pos (by decide)))]
theorem Ai{α:Type}(l:List α)(i:Nat)(d:α)(h:i<l.length):l.getD i d=l[i]:=by simp[List.getD,h]
theorem kinds(k:Int):k=0\/k=1\/k=2\/k=3\/k=4\/k=5\/k=6\/k=7\/k=8\/k=9\/k=10\/k=11\/k=12\/k=13\/k=14\/k=15\/k=16\/k=17\/k=18\/k=19\/k=20\/k=21\/k=22\/(k<0\/22<k):=by omega
theorem ml{k:Int}(h:k<0\/22<k):(k==0)=false/\(k==1)=false/\(k==2)=false/\(k==3)=false/\(k==4)=false/\(k==5)=false/\(k==6)=false/\(k==7)=false/\(k==8)=false/\(k==9)=false/\(k==10)=false/\(k==11)=false/\(k==12)=false /\
  (k==13)=false/\(k==14)=false/\(k==15)=false/\(k==16)=false/\(k==17)=false/\(k==18)=false/\(k==19)=false/\(k==20)=false/\(k==21)=false/\(k==22)=false:=by
 simp only[zzL43];omega
def Gg(b:Int):Bool:=b==1 || b==8 || b==16 || b==32 || b==64
def FD(b n:Int):Bool:=Gg b&&(n==1 || ((n==2 || n==4 || n==8 || n==16)&&decide (8<=b)&&decide (b*n<=128)))
theorem width_cases{b:Int}(h:Gg b=true):b=1\/b=8\/b=16\/b=32\/b=64:=by simp[Gg]at h;omega
theorem KO{b n:Int}(h:FD b n=true):Gg b=true:=by simp[FD]at h;exact h.1
theorem shape_lanes{b n:Int}(h:FD b n=true):n=1\/n=2\/n=4\/n=8\/n=16:=by simp[FD]at h;omega
theorem U1(b:Int):D1 b=some (Gg b):=by
 unfold D1 Gg
 by_cases h1:b=1
 ·subst h1;rfl
 by_cases h2:b=8
 ·subst h2;rfl
 by_cases h3:b=16
 ·subst h3;rfl
 by_cases h4:b=32
 ·subst h4;rfl
 by_cases h5:b=64
 ·subst h5;rfl
 have e1:(b==1)=false:=by simpa using h1
 have e2:(b==8)=false:=by simpa using h2
 have e3:(b==16)=false:=by simpa using h3
 have e4:(b==32)=false:=by simpa using h4
 have e5:(b==64)=false:=by simpa using h5
 simp[e1,e2,e3,e4,e5]
theorem dw(b n:Int):Qp b n=some (FD b n):=by
 unfold Qp;simp only[U1,A1]
 by_cases hn:n=1\/n=2\/n=4\/n=8\/n=16
 ·cases hw:Gg b with
  | false=>rcases hn with rfl|rfl|rfl|rfl|rfl<;>simp[FD,hw]
  | true=>
   rcases width_cases hw with rfl|rfl|rfl|rfl|rfl<;>rcases hn with rfl|rfl|rfl|rfl|rfl<;>rfl
 ·have e1:(n==1)=false:=by simp;omega
  have e2:(n==2)=false:=by simp;omega
  have e3:(n==4)=false:=by simp;omega
  have e4:(n==8)=false:=by simp;omega
  have e5:(n==16)=false:=by simp;omega
  simp[FD,e1,e2,e3,e4,e5]
theorem nM{v b:Int}(hv:0<=v/\v<18446744073709551616)(hb:Gg b=true):H5 v b=some (v % 2 ^ b.toNat):=by
 unfold H5;simp only[U1,hb,A1,J1,Bi]
 have key:∀ j:Nat,j<64->R3 .u64 (cR .u64 v (j:Int)) (j:Int)=(v*2 ^ j % 18446744073709551616) / 2 ^ j:=λj hj=>by
  simp only[R3,cR,G1,IntKind.bits];rw[Nat.min_eq_left (by omega),ll,show IntKind.u64.wrap (v*2 ^ j)=v*2 ^ j % 18446744073709551616 from nN _]
 rcases width_cases hb with rfl|rfl|rfl|rfl|rfl
 ·have:=key 63 (by decide);simp only[show A3 (64-1)=((63:Nat):Int) from rfl,this];rw[Ac (by decide),Ac (by decide)];congr 1;simp only[show((1:Int).toNat)=1 from rfl];omega
 ·have:=key 56 (by decide);simp only[show A3 (64-8)=((56:Nat):Int) from rfl,this];rw[Ac (by decide),Ac (by decide)];congr 1;simp only[show((8:Int).toNat)=8 from rfl];omega
 ·have:=key 48 (by decide);simp only[show A3 (64-16)=((48:Nat):Int) from rfl,this];rw[Ac (by decide),Ac (by decide)];congr 1;simp only[show((16:Int).toNat)=16 from rfl];omega
 ·have:=key 32 (by decide);simp only[show A3 (64-32)=((32:Nat):Int) from rfl,this];rw[Ac (by decide),Ac (by decide)];congr 1;simp only[show((32:Int).toNat)=32 from rfl];omega
 ·have:=key 0 (by decide);simp only[show A3 (64-64)=((0:Nat):Int) from rfl,this];rw[Ac (by decide),Ac (by decide)];congr 1;simp only[show((64:Int).toNat)=64 from rfl];omega
theorem XD{i:Int}(h:0<=i/\i<18446744073709551616):Kn i=some (Gg i):=by
 unfold Kn
 by_cases hi:i<=64
 ·have:A3 i=i:=Hj (by omega) (by omega);simp[hi,this,U1]
 ·have:Gg i=false:=by simp[Gg];omega
  simp[hi,this]
def j8(k:Int):Bool:=decide (0<=k)&&decide (k<=22)
def Rn(k n:Int):Int:=
 bif k==0 then 0 else bif k==13 || k==18 || k==19 then 3 else bif k==14 || k==15 || k==16 || k==22 then 1 else bif k==20 then 4 else bif k==21 then n else 2
def GD(k b n:Int):Bool:=
 bif k==16 || k==17 then decide (8<=b) else bif k==18 || k==19 then decide (8<=b)&&n==1 else
 bif k==4 || k==10 || k==11 || k==12 || k==14 || k==15 || k==20 then n==1 else bif k==21 || k==22 then decide (1<n) else true
def ifitS(k b n i:Int):Bool:=
 bif k==0 then i % 2 ^ b.toNat==i else bif k==14 then Gg i&&decide (i<b) else bif k==15 then Gg i&&decide (b<i) else bif k==22 then decide (i<n) else i==0
def DY(v:Int):Bool:=decide (1<=v)&&decide (v<=1023)
def dstS(k d:Int):Bool:=bif k==17 || k==19 then d==0 else DY d
def Iu(o:A6):Bool:=FD o.Bits o.Lanes&&(j8 o.Kind&&GD o.Kind o.Bits o.Lanes&&ifitS o.Kind o.Bits o.Lanes o.Imm&&((o.Args.length:Int)==Rn o.Kind o.Lanes))&&(o.Args.all DY&&dstS o.Kind o.Dst)
def vt(o:A6)(i:Nat):Int×Int:=
 bif o.Kind==13 || o.Kind==20 then(bif Nat.beq i 0 then(1,1) else(o.Bits,o.Lanes)) else bif o.Kind==14 || o.Kind==15 then(A3 o.Imm,1) else
 bif o.Kind==16 || o.Kind==17 then(bif Nat.beq i 0 then(64,1) else(o.Bits,o.Lanes)) else
 bif o.Kind==18 || o.Kind==19 then(bif Nat.beq i 1 then(64,1) else bif Nat.beq i 0 then(1,1) else(o.Bits,o.Lanes)) else bif o.Kind==21 then(o.Bits,1) else(o.Bits,o.Lanes)
def DW(o:A6):List (Int×Int):=(List.range (Rn o.Kind o.Lanes).toNat).map (vt o)
def HE(k b n:Int):Int×Int:=bif k==17 || k==19 then(0,0) else bif k==10 || k==11 || k==12 then(1,1) else bif k==22 then(b,1) else(b,n)
def UZ(k:Int):Bool:=j8 k&&!(k==4 || k==16 || k==17 || k==18 || k==19 || k==20)
theorem qI{k:Int}(h:k<0\/22<k):j8 k=false:=by simp[j8];omega
theorem JW(k:Int):L1 k=some (j8 k):=by unfold L1 j8;cases decide ((0:Int)<=k)<;>rfl
theorem Vo(v:Int):Km v=some (DY v):=by unfold Km DY;cases decide ((1:Int)<=v)<;>rfl
theorem OK(o:A6):K7 o=some (GD o.Kind o.Bits o.Lanes):=by
 obtain⟨k,b,n,d,args,i⟩:=o;rcases kinds k with rfl|rfl|rfl|rfl|rfl|rfl|rfl|rfl|rfl|rfl|rfl|rfl|rfl|rfl|rfl|rfl|rfl|rfl|rfl|rfl|rfl|rfl|rfl|h
 any_goals rfl
 ·show some (bif decide (8<=b) then n==1 else false)=some (decide (8<=b)&&n==1);cases decide (8<=b)<;>rfl
 ·show some (bif decide (8<=b) then n==1 else false)=some (decide (8<=b)&&n==1);cases decide (8<=b)<;>rfl
 ·unfold K7 GD;simp[ml h]
theorem OJ(o:A6):Nu o=some (HE o.Kind o.Bits o.Lanes):=by
 obtain⟨k,b,n,d,args,i⟩:=o;rcases kinds k with rfl|rfl|rfl|rfl|rfl|rfl|rfl|rfl|rfl|rfl|rfl|rfl|rfl|rfl|rfl|rfl|rfl|rfl|rfl|rfl|rfl|rfl|rfl|h
 any_goals rfl
 unfold Nu HE;simp[ml h]
theorem XC(o:A6)(hw:Gg o.Bits=true)(hn:0<=o.Lanes/\o.Lanes<=16)(hi:0<=o.Imm/\o.Imm<18446744073709551616):Nv o=some (ifitS o.Kind o.Bits o.Lanes o.Imm):=by
 unfold Nv ifitS
 have hb:Du o.Bits=o.Bits:=by apply GK<;>(rcases width_cases hw with h|h|h|h|h<;>omega)
 have hl:Du o.Lanes=o.Lanes:=by apply GK<;>omega
 rw[nM hi hw,XD hi,hb,hl]
 cases(o.Kind==0)<;>cases(o.Kind==14)<;>cases(o.Kind==15)<;>cases(o.Kind==22)<;>cases Gg o.Imm<;>rfl
set_option maxHeartbeats 2000000 in
theorem Yn{α X:Type}(l:List α)(d:α)(p:α->Bool)(f:Int->Option (LR Int X))(yes no:X)(hn:∀ i:Nat,i<l.length->p (l.getD i d)=true->f i=some (.next ((i:Int)+1)))
  (hf:∀ i:Nat,i<l.length->p (l.getD i d)=false->f i=some (.done no)) (he:f l.length=some (.done yes)):∀(k i:Nat),i+k=l.length->Af f i=some (bif (l.drop i).all p then yes else no)
 | 0,i,h=>by
  obtain rfl:i=l.length:=by omega
  rw[Am he]
  simp
 | k+1,i,h=>by
  have hi:i<l.length:=by omega
  have hd:l.drop i=l.getD i d::l.drop (i+1):=by simp_all
  cases hp:p _ with
  | true=>
   rw[Ap (hn i hi hp)];have:=Yn l d p f yes no hn hf he k (i+1) (by omega);rw[show((i:Int)+1)=(i+1:Nat) by omega,this,hd,CN,hp,Kz]
  | false=>
   rw[Am (hf i hi hp),hd,CN,hp,QS,Bi]
theorem FH{α:Type}(l:List α)(d:α)(wt:α->Nat)(C:Nat)(f:Int×Int->Option (LR (Int×Int) Int))
  (hn:∀(n i:Nat),i<l.length->n<=C->∃ m:Nat,f ((n:Int),(i:Int))=some (.next ((m:Int),((i+1:Nat):Int)))/\(n+wt (l.getD i d)<=C->m=n+wt (l.getD i d))/\(m<=C->n+wt (l.getD i d)<=C))
  (hd:∀(n i:Nat),i<=l.length->(i=l.length\/C<n)->f ((n:Int),(i:Int))=some (.done (n:Int))) :
  ∀(k i n:Nat),i+k=l.length->∃ m:Nat,Af f ((n:Int),(i:Int))=some (m:Int)/\(n+((l.drop i).map wt).sum<=C->m=n+((l.drop i).map wt).sum)/\(m<=C->n+((l.drop i).map wt).sum<=C)
 | 0,i,n,h=>by
  obtain rfl:i=l.length:=by omega
  refine⟨n,Am (hd n _ (zzL5 _) (.inl rfl)),?_,?_⟩
  ·simp
  ·simp
 | k+1,i,n,h=>by
  have hi:i<l.length:=by omega
  have hdr:l.drop i=l.getD i d::l.drop (i+1):=by rw[iB hi,Ai _ _ _ hi]
  by_cases hC:n<=C
  ·obtain⟨m,h1,h2,h3⟩:=hn n i hi hC;obtain⟨m',h4,h5,h6⟩:=FH l d wt C f hn hd k (i+1) m (by omega);refine⟨m',by rw[Ap h1];exact h4,λhle=>?_,λhle=>?_⟩
   ·rw[hdr,Cl,List.sum_cons]at hle ⊢;have:=h2 (by omega);subst this;rw[h5 (by omega)];omega
   ·rw[hdr,Cl,List.sum_cons];have h7:=h6 hle;have h8:=h3 (by omega);have:=h2 h8;omega
  ·refine⟨n,Am (hd n i (by omega) (.inr (by omega))),λhle=>by omega,λhle=>by omega⟩
theorem Vq{X:Type}(N:Nat)(f:Int×Int->Option (LR (Int×Int) X))(hn:∀(n:Int) (i:Nat),i<N->(∃ m:Int,f (n,(i:Int))=some (.next (m,((i+1:Nat):Int))))\/∃ x,f (n,(i:Int))=some (.done x))(hd:∀ n:Int,∃ x,f (n,(N:Int))=some (.done x)) :
  ∀(k i:Nat) (n:Int),i+k=N->∃ x,Af f (n,(i:Int))=some x
 | 0,i,n,h=>by
  obtain rfl:i=N:=by omega
  obtain⟨x,hx⟩:=hd n;exact⟨x,Am hx⟩
 | k+1,i,n,h=>by
  rcases hn n i (by omega) with⟨m,hm⟩|⟨x,hx⟩
  ·obtain⟨x,hx⟩:=Vq N f hn hd k (i+1) m (by omega);exact⟨x,by rw[Ap hm];exact hx⟩
  ·exact⟨x,Am hx⟩
theorem UJ{α X:Type}(l:List α)(d:α)(wt:α->Nat)(out:Int->X)(f:Int×Int->Option (LR (Int×Int) X))
  (hn:∀(n i:Nat),i<l.length->f (A3 n,(i:Int))=some (.next (A3 ((n+wt (l.getD i d):Nat):Int),((i+1:Nat):Int)))) (hd:∀ n:Int,f (n,(l.length:Int))=some (.done (out n))) :
  ∀(k i n:Nat),i+k=l.length->Af f (A3 n,(i:Int))=some (out (A3 ((n+((l.drop i).map wt).sum:Nat):Int)))
 | 0,i,n,h=>by
  obtain rfl:i=l.length:=by omega
  rw[Am (hd _)]
  simp
 | k+1,i,n,h=>by
  have hi:i<l.length:=by omega
  have hdr:l.drop i=l.getD i d::l.drop (i+1):=by simp_all
  rw[Ap (hn n i hi),UJ l d wt out f hn hd k _ _ (by omega),hdr,Cl,List.sum_cons,CM]
theorem hZ(a b:Int):A3 (A3 a+b)=A3 (a+b):=by
 simp only[IntKind.wrap,IntKind.bits,IntKind.signed]
 simp
 split<;>split<;>omega
theorem Ar{α:Type}{l:List α}{i:Nat}{d:α}(h:i<l.length):l.getD i d∈l:=by grind
theorem Ax{i n:Nat}(h:i<n):Ay (i:Int) n:=⟨by omega,by exact_mod_cast h⟩
theorem E2{i n:Nat}(h:i<n)(hn:n<9223372036854775808):A3 ((i:Int)+1)=(i:Int)+1:=Hj (by omega) (by omega)
def lv(l:List Int):Prop:=∀ x∈l,0<=x/\x<=2147483647
theorem FG{S X:Type}(f:S->Option (LR S X))(T:Nat->S)(x:X):∀(n:Nat),(∀ i,i<n->f (T i)=some (.next (T (i+1))))->f (T n)=some (.done x)->Af f (T 0)=some x:=by
 suffices h:∀(k i n:Nat),i+k=n->(∀ j,i<=j->j<n->f (T j)=some (.next (T (j+1))))->f (T n)=some _->Af f (T i)=some x from
  λn h1 h2=>h n 0 n (by omega) (λj _ hj=>h1 j hj) h2
 intro k
 induction k with
 | zero=>
  intro i n hi _ h2
  have hin:n=i:=by omega
  subst hin;exact Am h2
 | succ k ih=>intro i n hi h1 h2;rw[Ap (h1 i (zzL5 _) (by omega))];exact ih _ n (by omega) (λj hj hj'=>h1 j (by omega) hj') h2
theorem SN{S X:Type}(f:S->Option (LR S X))(T:Nat->S):∀(n:Nat),(∀ i,i<n->f (T i)=some (.next (T (i+1))))->Af f (T 0)=Af f (T n):=by
 intro n
 induction n with
 | zero=>intro _;rfl
 | succ n ih=>intro h;rw[ih (λi hi=>h i (by omega)),Ap (h n (by omega))]
theorem Qz{S X:Type}(f:S->Option (LR S X))(T:Nat->S)(p:Nat->Bool)(yes no:X)(n:Nat)(hn:∀ i,i<n->p i=true->f (T i)=some (.next (T (i+1))))(hf:∀ i,i<n->p i=false->f (T i)=some (.done no))
  (he:f (T n)=some (.done yes)):Af f (T 0)=some (bif (List.range n).all p then yes else no):=by
 cases hall:(List.range n).all p with
 | true=>
  exact FG f T yes n (λi hi=>hn i hi (zzL27.1 hall i (zzL77.2 hi))) he
 | false=>
  have hex:∃ i,i<n/\p i=false:=by
   grind
  obtain⟨m,hm⟩:=hex
  have key:∀ m,m<n->p m=false->∃ k,k<n/\p k=false/\∀ j,j<k->p j=true:=by
   intro m
   induction m using Nat.strongRecOn with
   | ind m ih=>
    intro h1 h2
    by_cases h:∃ j,j<m/\p j=false
    ·obtain⟨j,hj,hpj⟩:=h;exact ih j hj (by omega) hpj
    ·grind
  obtain⟨k,hk,hpk,hlt⟩:=key m hm.1 hm.2;rw[SN f T k (λi hi=>hn i (by omega) (hlt i hi))];exact Am (hf k hk hpk)
theorem all_range{n:Nat}{p:Nat->Bool}:(List.range n).all p=true↔∀ i,i<n->p i=true:=by
 grind
theorem A2(i:Nat):((i:Int)).toNat=i:=G1 i
theorem w1{i:Nat}(h:i<4611686018427387904):A3 ((i:Int)+1)=((i+1:Nat):Int):=by rw[Hj (by omega) (by omega)];omega
theorem Er{i n:Nat}(h:i<n):decide (((i:Nat):Int)<((n:Nat):Int))=true:=by simpa using h
theorem Ir{n:Nat}:decide (((n:Nat):Int)<((n:Nat):Int))=false:=by simp
theorem M7{i n:Nat}(h:i<n):Ay ((i:Nat):Int) n:=Ax h
theorem vv{x:Int}{n:Nat}(h0:0<=x)(h1:x<n):Ay x n:=⟨h0,h1⟩
structure kD(o:A6):Prop where
 imm:0<=o.Imm/\o.Imm<18446744073709551616
 args:o.Args.length<=200
theorem eR(x:Int×Int)(n:Int)(h:n=2\/n=4\/n=8\/n=16):B3 [x] n=some (List.replicate n.toNat x):=by
 let d:Int×Int:=(0,0)
 rcases h with rfl|rfl|rfl|rfl
 ·have e:B3 [x] 2=(Af Cj (1,[x,d])).bind some:=by kernel_rfl
  rw[e,Ap (s':=(2,[x,x])) (by kernel_rfl)]
  rfl
 ·have e:B3 [x] 4=(Af Cj (1,[x,d,d,d])).bind some:=by kernel_rfl
  rw[e,Ap (s':=(2,[x,x,d,d])) (by kernel_rfl),Ap (s':=(4,[x,x,x,x])) (by kernel_rfl)]
  rfl
 ·have e:B3 [x] 8=(Af Cj (1,[x,d,d,d,d,d,d,d])).bind some:=by kernel_rfl
  rw[e,Ap (s':=(2,[x,x,d,d,d,d,d,d])) (by kernel_rfl),Ap (s':=(4,[x,x,x,x,d,d,d,d])) (by kernel_rfl),Ap (s':=(8,[x,x,x,x,x,x,x,x])) (by kernel_rfl)]
  rfl
 ·have e:B3 [x] 16=(Af Cj (1,[x,d,d,d,d,d,d,d,d,d,d,d,d,d,d,d])).bind some:=by kernel_rfl
  rw[e,Ap (s':=(2,[x,x,d,d,d,d,d,d,d,d,d,d,d,d,d,d])) (by kernel_rfl),Ap (s':=(4,[x,x,x,x,d,d,d,d,d,d,d,d,d,d,d,d])) (by kernel_rfl),
   Ap (s':=(8,[x,x,x,x,x,x,x,x,d,d,d,d,d,d,d,d])) (by kernel_rfl),Ap (s':=(16,List.replicate 16 x)) (by kernel_rfl)]
  rfl
theorem mE(l:List (Int×Int)):Gf l=some l:=rfl
theorem OL(o:A6)(hs:FD o.Bits o.Lanes=true)(hk:j8 o.Kind=true)(hf:GD o.Kind o.Bits o.Lanes=true):Nw o=some (DW o):=by
 have hl:=shape_lanes hs;obtain⟨k,b,n,d,args,i⟩:=o;simp only at hs hk hf hl ⊢;rcases kinds k with rfl|rfl|rfl|rfl|rfl|rfl|rfl|rfl|rfl|rfl|rfl|rfl|rfl|rfl|rfl|rfl|rfl|rfl|rfl|rfl|rfl|rfl|rfl|h
 case inr.inr.inr.inr.inr.inr.inr.inr.inr.inr.inr.inr.inr.inr.inr.inr.inr.inr.inr.inr.inr.inl=>
  have h1:n≠1:=by rintro rfl;simp[GD]at hf
  have h4:n=2\/n=4\/n=8\/n=16:=by omega
  unfold Nw;simp only[eR _ _ h4,mE];rcases h4 with rfl|rfl|rfl|rfl<;>rfl
 all_goals first
  | rfl
  | (rw[qI h]at hk;cases hk)
  | (rcases hl with rfl|rfl|rfl|rfl|rfl<;>first|rfl|(simp[GD]at hf))
theorem XA(o:A6)(hs:FD o.Bits o.Lanes=true)(hk:j8 o.Kind=true)(hf:GD o.Kind o.Bits o.Lanes=true)(hl:o.Args.length<=200):Ns o=some (((o.Args.length:Int)==Rn o.Kind o.Lanes)&&o.Args.all DY):=by
 unfold Ns;rw[OL o hs hk hf]
 have hn:0<=Rn o.Kind o.Lanes:=by
  have:=shape_lanes hs;unfold Rn
  cases(o.Kind==0)<;>cases(o.Kind==13 || o.Kind==18 || o.Kind==19)<;>cases(o.Kind==14 || o.Kind==15 || o.Kind==16 || o.Kind==22)<;>cases(o.Kind==20)<;>cases(o.Kind==21)<;>simp<;>omega
 have hlen:(DW o).length=Rn o.Kind o.Lanes:=by simp[DW];omega
 simp only[A1,hlen]
 by_cases he:o.Args.length=Rn o.Kind o.Lanes
 ·have e1:(o.Args.length==Rn o.Kind o.Lanes)=true:=by simpa using he
  have e2:(o.Args.length !=Rn o.Kind o.Lanes)=false:=by simpa using he
  rw[e1,e2]
  have hloop:=Yn o.Args 0 DY (Hz o) (.inl ()) (.inr false) (λi hi hp=>by
    unfold Hz
    have:decide (i<(o.Args.length:Int))=true:=by simpa using hi
    simp only[this,Aj,Ac (Ax hi),G1,Vo,A1,hp,J1,Bi,E2 hi (by omega)]) (λi hi hp=>by
    unfold Hz
    have:decide (i<(o.Args.length:Int))=true:=by simpa using hi
    simp only[this,Aj,Ac (Ax hi),G1,Vo,A1,hp,Qg]) (by
    unfold Hz
    simp) o.Args.length 0 (by omega)
  rw[show 0=((0:Nat):Int) from rfl,hloop,DZ]
  cases o.Args.all DY<;>rfl
 ·grind
theorem dl{k b n:Int}(hs:FD b n=true):((HE k b n).1==0)=(k==17 || k==19):=by
 have hb:(b==0)=false:=by
  have:=width_cases (KO hs);simp;omega
 unfold HE
 cases(k==17 || k==19)<;>cases(k==10 || k==11 || k==12)<;>cases(k==22)<;>simp_all
theorem XB(o:A6)(hs:FD o.Bits o.Lanes=true):Nt o=some (dstS o.Kind o.Dst):=by
 unfold Nt;simp only[OJ,A1,dl hs,Vo,dstS]
 cases(o.Kind==17 || o.Kind==19)<;>rfl
theorem OH(o:A6)(ho:kD o):Ow o=some (Iu o):=by
 unfold Ow Iu;simp only[JW,dw,OK]
 cases hs:FD _ _ with
 | false=>cases j8 _<;>rfl
 | true=>
  have hl:=shape_lanes hs
  cases hk:j8 _ with
  | false=>rfl
  | true=>
   rw[XC o (KO hs) (by omega) ho.imm];simp only[XB o hs]
   cases hf:GD _ _ _ with
   | false=>rfl
   | true=>
    rw[XA o hs hk hf ho.args]
    generalize ifitS _ _ _ _=p
    generalize (o.Args.length==Rn _ _)=q
    generalize o.Args.all _=r
    generalize dstS _ _=s
    cases p<;>cases q<;>cases r<;>cases s<;>rfl
theorem qU{o:A6}(h:Iu o=true):FD o.Bits o.Lanes=true/\j8 o.Kind=true/\GD o.Kind o.Bits o.Lanes=true/\ifitS o.Kind o.Bits o.Lanes o.Imm=true/\(o.Args.length:Int)=Rn o.Kind o.Lanes/\o.Args.all DY=true/\dstS o.Kind o.Dst=true:=by
 simp only[Iu,A9,zzL56]at h;exact⟨h.1.1,h.1.2.1.1.1,h.1.2.1.1.2,h.1.2.1.2,h.1.2.2,h.2.1,h.2.2⟩
theorem dy(o:A6)(ho:kD o):Nr o=some (bif Iu o then DW o else[]):=by
 unfold Nr;rw[OH o ho]
 cases hm:Iu o with
 | false=>rfl
 | true=>
  obtain⟨h1,h2,h3,_⟩:=qU hm;simp only[OL o h1 h2 h3]
  rfl
theorem du(o:A6)(ho:kD o):Nq o=some (bif Iu o then HE o.Kind o.Bits o.Lanes else(0,0)):=by
 unfold Nq;rw[OH o ho];simp only[ OJ]
 cases Iu o<;>rfl
theorem okWide_array{P:Program}{w:World}{r:Reach}{base:Nat}{t:TypeId}{v:Value}{n:Nat}{e:TypeId}(ht:P.underlying t=some (.array n e))(h:Value.okWide P w r base t v):∃ cs,v = .agg cs/\True:=by
 simp only[Value.okWide,ht]at h;obtain⟨cs,h1,_⟩:=h;exact⟨cs,h1,trivial⟩
abbrev Iall(w:World):Nat->Nat->Prop:=λb o=>∃ u,w.cell? ⟨b,o,none⟩=some u
structure iN(w:World)(cs:List Value)(avs:List AV):Prop where
 len:cs.length=avs.length
 one:∀ j,j<avs.length->(cs.getD j undef).oneCell'=true
 rep:∀ j,j<avs.length->RepV (Iall w) w (cs.getD j undef) (avs.getD j .any)
structure Opens(P:Program)(t:TypeId){α:Type}(e:α->List AV)(ok:α->Prop):Prop where
 get:∀{H:Type} {enc:TypeId×Value->H} {w:World} {base:Nat} {spare:Nat->Bool} {held:Bool} {fuel:Nat} {cs:List Value} {x:DataW H×List MemPlace},
  DataW.trod enc P w base spare held fuel t cs=some x->∃ a,ok a/\iN w cs (e a)
theorem bC{w:World}{v:Value}{x:AV}(h1:v.oneCell'=true)(h:RepV (Iall w) w v x):iN w [v] [x]:=
 ⟨rfl,λj hj=>(by
   grind),λj hj=>(by
   grind)⟩
theorem jd{P:Program}{t:TypeId}{k:IntKind}{e:Int->List AV}(ht:P.underlying t=some (.int k))(he:∀ n,e n=[.int k n]):Opens P t e (λn=>(Lit.int k n).wf=true):=by
 refine⟨?_⟩;intro H enc w base spare held fuel cs x h;obtain⟨n,rfl,rfl,hw⟩:=DataW.trod_int ht h;exact⟨n,hw,by rw[he];exact bC rfl (.int _ _)⟩
theorem eH{P:Program}{t:TypeId}{e:Bool->List AV}(ht:P.underlying t=some .bool)(he:∀ n,e n=[.bool n]):Opens P t e (λ_=>True):=by
 refine⟨?_⟩;intro H enc w base spare held fuel cs x h;obtain⟨n,rfl,rfl⟩:=DataW.trod_bool ht h;exact⟨n,trivial,by rw[he];exact bC rfl (.bool _)⟩
theorem lg{w:World}{c d:Value}{l m:List AV}(h:iN w [c] l)(k:iN w [d] m):iN w [c,d] (l++m):=by
 have h1:l.length=1:=h.len.symm;have k1:m.length=1:=k.len.symm;refine⟨by simp[h1,k1],λj hj=>?_,λj hj=>?_⟩
 ·have hj':j<2:=by grind
  by_cases h0:j=0
  ·subst h0;exact h.one 0 (by omega)
  ·obtain rfl:j=1:=by omega
   exact k.one 0 (by omega)
 ·have hj':j<2:=by grind
  by_cases h0:j=0
  ·subst h0;have:=h.rep 0 (by omega);rwa[QU (l:=l++m),U2 (by omega)]
  ·obtain rfl:j=1:=by omega
   have:=k.rep 0 (by omega);rw[QU (l:=l++m),Ww (by omega),h1];exact this
theorem XV{P:Program}{t el:TypeId}{α:Type}{e:α->List AV}{ok:α->Prop}{e':α×α->List AV}(ht:P.underlying t=some (.array 2 el))(htc:P.cellsOf t=2)(hs:P.cellsOf el=1)(he:Opens P el e ok)(he':∀ p,e' p=e p.1++e p.2) :
  Opens P t e' (λp=>ok p.1/\ok p.2):=by
 refine⟨?_⟩;intro H enc w base spare held fuel cs x h;obtain⟨xs,n,_,_,hcl,hxl,hall⟩:=DataW.trod_array ht h;rw[htc]at hcl
 match cs,hcl,hall with
 | [c0,c1],_,hall=>
  have h0:=hall 0 (by omega);have h1:=hall 1 (by omega);rw[hs,CJ (by omega)]at h0 h1;obtain⟨a,ha,hra⟩:=he.get h0;obtain⟨b,hb,hrb⟩:=he.get h1;exact⟨(a,b),⟨ha,hb⟩,by rw[he'];exact lg hra hrb⟩
structure xK(P:Program)(fs:List Field)(off N:Nat){α:Type}(e:α->List AV)(ok:α->Prop):Prop where
 get:∀{H:Type} {enc:TypeId×Value->H} {w:World} {base:Nat} {spare:Nat->Bool} {held:Bool} {n:Nat} {cs:List Value},cs.length=N->
  (∀ f∈fs,∃ x,DataW.trod enc P w base spare held n f.type ((cs.drop f.offset).take (P.cellsOf f.type))=some x)->∃ a,ok a/\iN w (cs.drop off) (e a)
theorem Opens.to{P:Program}{t:TypeId}{α β:Type}{e:α->List AV}{ok:α->Prop}(h:Opens P t e ok){e':β->List AV}{ok':β->Prop}(g:α->β)(he:∀ a,e' (g a)=e a)(hok:∀ a,ok a->ok' (g a)):Opens P t e' ok':=by
 refine⟨?_⟩;intro H enc w base spare held fuel cs x hx;obtain⟨a,ha,hr⟩:=h.get hx;exact⟨g a,hok a ha,by rw[he];exact hr⟩
theorem arg_one{P:Program}{t:TypeId}{α:Type}{e:α->List AV}{ok:α->Prop}(h:Opens P t e ok){x:α->AV}(he:∀ a,e a=[x a]){H:Type}{enc:TypeId×Value->H}{w:World}{base:Nat}{spare:Nat->Bool}{held:Bool}{v:Value}{d:DataW H}{ps:List MemPlace}
  (hv:v.cells = #[v]) (hd:DataW.Trod enc P w base spare held t v d ps):∃ a,ok a/\RepV (Iall w) w v (x a):=by
 obtain⟨fuel,hf⟩:=hd;obtain⟨a,ha,hr⟩:=h.get hf;refine⟨a,ha,?_⟩;have:=hr.rep 0 (by simp[he])
 simpa [hv,he] using this
theorem arg_agg{P:Program}{t:TypeId}{α:Type}{e:α->List AV}{ok:α->Prop}(h:Opens P t e ok){H:Type}{enc:TypeId×Value->H}{w:World}{base:Nat}{spare:Nat->Bool}{held:Bool}{cs:Array Value}{d:DataW H}{ps:List MemPlace}
  (hd:DataW.Trod enc P w base spare held t (.agg cs) d ps):∃ a,ok a/\RepV (Iall w) w (.agg cs) (.agg (e a)):=by
 obtain⟨fuel,hf⟩:=hd;obtain⟨a,ha,hr⟩:=h.get hf;have e1:(Value.agg cs).cells.toList=cs.toList:=rfl;rw[e1]at hr
 have e2:∀ j,cs.toList.getD j undef=cs.getD j undef:=λj=>by simp_all
 refine⟨a,ha,.agg _ _ (by simpa using hr.len) (λj hj=>?_) (λj hj=>?_)⟩
 ·rw[<- e2];exact hr.one j hj
 ·rw[<- e2];exact hr.rep j hj
def uB(n:Int):Prop:=(Lit.int .u8 n).wf=true
theorem yG:Opens Tryz.prog 5 T9 uB:=jd Tryz.underlying5 (λ_=>rfl)
def okB(n:Bool):Prop:=True
theorem op_4:Opens Tryz.prog 4 eB okB:=eH Tryz.underlying4 (λ_=>rfl)
def okA2U8(p:(Int×Int)):Prop:=uB p.1/\uB p.2
theorem op_54:Opens Tryz.prog 54 eA2U8 okA2U8:=XV Tryz.underlying54 (by kernel_rfl) (by kernel_rfl) yG (λ_=>rfl)
def numB(n:Int):Bool:=decide (0<=n)&&decide (n<=2147483647)
def Ph(l:List Int):Bool:=l.all numB&&decide (l.length<=64)
def TC(p:Bb):Bool:=numB p.Bits&&numB p.Dst&&Ph p.From&&Ph p.Args
def mh(o:A6):Bool:=numB o.Kind&&numB o.Bits&&numB o.Lanes&&numB o.Dst&&Ph o.Args
def jF(e:Eo):Bool:=numB e.Kind&&numB e.Arg&&Ph e.To
def blockB(b:Ab):Bool:=b.Phis.all TC&&b.Ops.all mh&&jF b.End
def Zo(b:Ab):Nat:=b.Phis.length+b.Ops.length+1
def Qf(f:Aa):Nat:=(f.Blocks.map Zo).sum
def sizeW(f:Aa):Int:=A3 (Qf f)
def Ox(f:Aa):Bool:=decide (1<=f.Blocks.length)&&decide (f.Blocks.length<=64)&&decide (f.Params.length<=16)&&Ph f.Params&&numB f.Ret&&decide (sizeW f<=512)&&f.Blocks.all blockB
def bE(p:Bb):Nat:=1+p.From.length+p.Args.length
def bD(o:A6):Nat:=1+o.Args.length
def SH(b:Ab):Nat:=1+b.End.To.length+(b.Phis.map bE).sum+(b.Ops.map bD).sum
def dh(f:Aa):Nat:=f.Params.length+(f.Blocks.map SH).sum
theorem Jq:maxLen=9223372036854775807:=rfl
structure iO(f:Aa):Prop where
 params:f.Params.length<=maxLen
 blocks:f.Blocks.length<=maxLen
 block:∀ b∈f.Blocks,b.Phis.length<=maxLen/\b.Ops.length<=maxLen/\b.End.To.length<=maxLen
 phi:∀ b∈f.Blocks,∀ p∈b.Phis,p.From.length<=maxLen/\p.Args.length<=maxLen
 op:∀ b∈f.Blocks,∀ o∈b.Ops,o.Args.length<=maxLen/\0<=o.Imm/\o.Imm<18446744073709551616
theorem GI{n:Nat}(h:n<9223372036854775808):A3 (n:Int)=n:=Hj (by omega) (by omega)
theorem Kx{i n:Nat}(h:i<n)(hn:n<=maxLen):A3 ((i:Int)+1)=((i+1:Nat):Int):=by rw[Jq]at hn;rw[show((i:Int)+1)=(i+1:Nat) by omega,GI (by omega)]
theorem eX(f:Aa)(hf:iO f):∃ b,Bx f=some b:=by
 have h3:∃ x,Af (Cf f) (f.Params.length,(0:Nat))=some x:=by
  refine Vq f.Blocks.length _ (λn i hi=>?_) (λn=>?_) _ 0 _ (Gc _)
  ·have hmem:=Ar (d:=default) hi;obtain⟨b1,b2,_⟩:=hf.block _ hmem;have hI :=Ax hi;unfold Cf
   cases hc:(bif decide (i<(f.Blocks.length:Int)) then decide (n<=20000) else false) with
   | false=>right;simp only[hc];exact⟨_,rfl⟩
   | true=>
    left
    simp only[hc, Ac hI]
    obtain⟨x1,h1⟩:=Vq (f.Blocks.getD i default).Phis.length (Cd f i) (λn j hj=>by
      unfold Cd;simp only[Ac hI,G1]
      cases hc:(bif decide (j<((f.Blocks.getD i default).Phis.length:Int)) then decide (n<=20000) else false) with
      | false=>grind
      | true=>left;simp only[ Ac (Ax hj),Kx hj b1];exact⟨_,rfl⟩) (λn=>by
      unfold Cd;simp only[Ac hI,G1]
      have:decide ((f.Blocks.getD i default).Phis.length<((f.Blocks.getD i default).Phis.length:Int))=false:=by simp
      simp only[this];exact⟨_,rfl⟩) _ 0 (A3 (A3 (n+1)+(f.Blocks.getD i default).End.To.length)) (Gc _)
    obtain⟨x2,h2⟩:=Vq (f.Blocks.getD i default).Ops.length (Ce f i) (λn j hj=>by
      unfold Ce;simp only[Ac hI,G1]
      cases hc:(bif decide (j<((f.Blocks.getD i default).Ops.length:Int)) then decide (n<=20000) else false) with
      | false=>grind
      | true=>left;simp only[ Ac (Ax hj),Kx hj b2];exact⟨_,rfl⟩) (λn=>by
      unfold Ce;simp only[Ac hI,G1]
      have:decide ((f.Blocks.getD i default).Ops.length<((f.Blocks.getD i default).Ops.length:Int))=false:=by simp
      simp only[this];exact⟨_,rfl⟩) _ 0 x1 (Gc _)
    rw[show((0:Nat):Int)=0 from rfl]at h1 h2;simp only[G1,h1,h2,A1,Kx hi hf.blocks];exact⟨_,rfl⟩
  ·unfold Cf
   have:decide ((f.Blocks.length:Int)<(f.Blocks.length:Int))=false:=by simp
   simp only[this];exact⟨_,rfl⟩
 obtain⟨x,hx⟩:=h3;unfold Bx;rw[show((0:Nat):Int)=0 from rfl]at hx;rw[hx];exact⟨_,rfl⟩
theorem cS(f:Aa)(hf:iO f)(h0:f.Params.length<=64)(hb:∀ b∈f.Blocks,b.End.To.length<=64/\(∀ p∈b.Phis,p.From.length<=64/\p.Args.length<=64)/\∀ o∈b.Ops,o.Args.length<=64):Bx f=some (decide (dh f<=20000)):=by
 have h3:=FH f.Blocks (default:Ab) SH 20000 (Cf f) (λn i hi hn=>by
   have hmem:=Ar (d:=(default:Ab)) hi;obtain⟨b1,b2,b3⟩:=hf.block _ hmem;obtain⟨hTo,hPh,hOp⟩:=hb _ hmem;have hI1:Ay (i:Int) f.Blocks.length:=Ax hi
   have l1:=FH (f.Blocks.getD i default).Phis (default:Bb) bE 20000 (Cd f i) (λn j hj hn=>by
     have hm:=Ar (d:=(default:Bb)) hj;obtain⟨p1,p2⟩:=hPh _ hm
     have e1:decide ((j:Int)<((f.Blocks.getD i default).Phis.length:Int))=true:=by simpa using hj
     have e2:decide ((n:Int)<=20000)=true:=by simp;omega
     refine⟨n+bE ((f.Blocks.getD i default).Phis.getD j default),?_,λ_=>rfl,λh=>h⟩;unfold Cd;simp only[Ac hI1,G1,e1,e2,Aj,Ac (Ax hj),Kx hj b1]
     congr 3
     rw[Hj (n:=(n:Int)+1) (by omega) (by omega),Hj (n:=(n:Int)+1+_) (by omega) (by omega),Hj (by omega) (by omega)];simp only[bE]
     omega) (λn j hj hd=>by
     unfold Cd;simp only[Ac hI1,G1]
     have:(bif decide ((j:Int)<((f.Blocks.getD i default).Phis.length:Int)) then decide ((n:Int)<=20000) else false)=false:=by
      rcases hd with rfl|h
      ·simp
      ·simp;omega
     rw[this];rfl)
   have l2:=FH (f.Blocks.getD i default).Ops (default:A6) bD 20000 (Ce f i) (λn j hj hn=>by
     have hm:=Ar (d:=(default:A6)) hj;have p1:=hOp _ hm
     have e1:decide ((j:Int)<((f.Blocks.getD i default).Ops.length:Int))=true:=by simpa using hj
     have e2:decide ((n:Int)<=20000)=true:=by simp;omega
     refine⟨n+bD ((f.Blocks.getD i default).Ops.getD j default),?_,λ_=>rfl,λh=>h⟩;unfold Ce;simp only[Ac hI1,G1,e1,e2,Aj,Ac (Ax hj),Kx hj b2]
     congr 3
     rw[Hj (n:=(n:Int)+1) (by omega) (by omega),Hj (by omega) (by omega)];simp only[bD]
     omega) (λn j hj hd=>by
     unfold Ce;simp only[Ac hI1,G1]
     have:(bif decide ((j:Int)<((f.Blocks.getD i default).Ops.length:Int)) then decide ((n:Int)<=20000) else false)=false:=by
      rcases hd with rfl|h
      ·simp
      ·simp;omega
     rw[this];rfl)
   have e1:decide ((i:Int)<(f.Blocks.length:Int))=true:=by simpa using hi
   have e2:decide ((n:Int)<=20000)=true:=by simp;omega
   obtain⟨m1,q1,q2,q3⟩:=l1 _ 0 (n+1+(f.Blocks.getD i default).End.To.length) (Gc _);obtain⟨m2,q4,q5,q6⟩:=l2 _ 0 m1 (Gc _);rw[DZ]at q2 q3 q5 q6;refine⟨m2,?_,λhle=>?_,λhle=>?_⟩
   ·unfold Cf;simp only[e1,e2,Aj,Ac hI1,G1,Kx hi hf.blocks];rw[Hj (n:=(n:Int)+1) (by omega) (by omega),Hj (by omega) (by omega),show(n:Int)+1+((f.Blocks.getD i default).End.To.length:Int)=((n+1+(f.Blocks.getD i default).End.To.length:Nat):Int) by omega];rw[show((0:Nat):Int)=0 from rfl]at q1 q4;rw[q1,A1,q4,A1]
   ·simp only[SH]at hle ⊢;have:=q2 (by omega);rw[q5 (by omega)];omega
   ·simp only[SH];have h6:=q6 hle;have h3:=q3 (by omega);have:=q2 h3
    omega) (λn i hi hd=>by
   unfold Cf
   have:(bif decide ((i:Int)<(f.Blocks.length:Int)) then decide ((n:Int)<=20000) else false)=false:=by
    rcases hd with rfl|h
    ·simp
    ·simp;omega
   simp only[this,Bi]) f.Blocks.length 0 f.Params.length (Gc _)
 obtain⟨m,h1,h2,h4⟩:=h3;rw[DZ]at h2 h4;unfold Bx;rw[show((0:Nat):Int)=0 from rfl]at h1;rw[h1,A1]
 congr 1
 apply decide_eq_decide.2
 simp only[dh]
 constructor
 ·intro h;exact h4 (by omega)
 ·intro h;have:=h2 h;omega
theorem mW{n:Int}:numB n=true↔0<=n/\n<=2147483647:=by simp[numB]
theorem listB_iff{l:List Int}:Ph l=true↔lv l/\l.length<=64:=by
 simp[Ph,lv,mW]
def wU(n:Int):Prop:=0<=n/\n<18446744073709551616
structure yn(b:Ab):Prop where
 may:blockB b=true
 phis:b.Phis.length<=512
 ops:b.Ops.length<=512
 imm:∀ o∈b.Ops,wU o.Imm
structure OkF(f:Aa):Prop where
 params:Ph f.Params=true
 few:f.Params.length<=16
 ret:numB f.Ret=true
 blocks:f.Blocks.length<=64
 block:∀ b∈f.Blocks,yn b
theorem blockB_iff{b:Ab}:blockB b=true↔(∀ p∈b.Phis,TC p=true)/\(∀ o∈b.Ops,mh o=true)/\jF b.End=true:=by
 simp[blockB,and_assoc]
theorem YC{α:Type}(l:List α)(g:α->Nat)(B:Nat)(h:∀ a∈l,g a<=B):(l.map g).sum<=l.length*B:=by
 induction l with
 | nil=>simp
 | cons a l ih=>
  have h1:=h a (by simp);have h2:=ih (λb hb=>h b (by simp[hb]));rw[Cl,List.sum_cons,AA,Ff];omega
theorem nC{α:Type}(l:List α)(g k:α->Nat)(h:∀ a∈l,g a<=k a):(l.map g).sum<=(l.map k).sum:=by
 induction l with
 | nil=>simp
 | cons a l ih=>
  grind
theorem OO{α:Type}(l:List α)(g:α->Nat)(h:∀ a∈l,1<=g a):l.length<=(l.map g).sum:=by
 induction l with
 | nil=>simp
 | cons a l ih=>
  grind
theorem d8{α:Type}{l:List α}{a:α}(g:α->Nat)(h:a∈l):g a<=(l.map g).sum:=by
 induction l with
 | nil=>cases h
 | cons b l ih=>
  grind
theorem OkF.size{f:Aa}(h:OkF f):Qf f<=65600/\sizeW f=Qf f:=by
 have:Qf f<=f.Blocks.length*1025:=YC _ _ _ λb hb=>by
  have h1:=(h.block b hb).phis;have h2:=(h.block b hb).ops;simp only[Zo];omega
 have h2:=h.blocks
 have h3:Qf f<=65600:=by omega
 exact⟨h3,GI (by omega)⟩
theorem HP{f:Aa}(h:Ox f=true):1<=f.Blocks.length/\f.Blocks.length<=64/\f.Params.length<=16/\Ph f.Params=true/\numB f.Ret=true/\sizeW f<=512/\∀ b∈f.Blocks,blockB b=true:=by
 simp only[Ox,A9,Gj,zzL27]at h;exact⟨h.1.1.1.1.1.1,h.1.1.1.1.1.2,h.1.1.1.1.2,h.1.1.1.2,h.1.1.2,h.1.2,h.2⟩
theorem jS{f:Aa}(h:Ox f=true):f.Params.length<=64/\∀ b∈f.Blocks,b.End.To.length<=64/\(∀ p∈b.Phis,p.From.length<=64/\p.Args.length<=64)/\∀ o∈b.Ops,o.Args.length<=64:=by
 obtain⟨_,_,h3,_,_,_,h7⟩:=HP h;refine⟨by omega,λb hb=>?_⟩;obtain⟨q1,q2,q3⟩:=blockB_iff.1 (h7 b hb);simp only[jF,A9]at q3;refine⟨(listB_iff.1 q3.2).2,λp hp=>?_,λo ho=>?_⟩
 ·have:=q1 p hp;simp only[TC,A9]at this;exact⟨(listB_iff.1 this.1.2).2,(listB_iff.1 this.2).2⟩
 ·have:=q2 o ho;simp only[mh,A9]at this;exact(listB_iff.1 this.2).2
theorem tz{f:Aa}(hf:iO f)(h:Ox f=true)(hs:dh f<=20000):OkF f/\Qf f<=512:=by
 obtain⟨h1,h2,h3,h4,h5,h6,h7⟩:=HP h
 have hle:Qf f<=dh f:=by
  have:Qf f<=(f.Blocks.map SH).sum:=nC _ _ _ λb hb=>by
   have q1:b.Phis.length<=(b.Phis.map bE).sum:=OO _ _ λp hp=>by simp only[bE];omega
   have q2:b.Ops.length<=(b.Ops.map bD).sum:=OO _ _ λp hp=>by simp only[bD];omega
   simp only[Zo,SH];omega
  simp only[dh];omega
 have hw:sizeW f=Qf f:=GI (by omega)
 have h512:Qf f<=512:=by omega
 refine⟨⟨h4,h3,h5,h2,λb hb=>?_⟩,h512⟩;have hb512:Zo b<=Qf f:=d8 _ hb;simp only[Zo]at hb512;exact⟨h7 b hb,by omega,by omega,λo ho=>(hf.op b hb o ho).2⟩
theorem KP(f:Aa)(hf:iO f):∃ sm,Bx f=some sm/\(sm=true->Ox f=true->OkF f/\Qf f<=512/\1<=f.Blocks.length):=by
 obtain⟨sm,h⟩:=eX f hf;refine⟨sm,h,λh1 h2=>?_⟩;obtain⟨q1,q2⟩:=jS h2;rw[cS f hf q1 q2]at h;obtain⟨r1,r2⟩:=tz hf h2 (by grind);exact⟨r1,r2,(HP h2).1⟩
def MU(l:Int):Int:=bif l==0 then 17 else bif l==1 then 20 else 22
def Pd(l:Int)(o:A6):Bool:=Iu o&&!decide (MU l<o.Kind)&&!(decide (l<2)&&decide (1<o.Lanes))
def Iz(l:Int)(b:Ab):Bool:=(b.Phis.all λp=>Gg p.Bits)&&b.Ops.all (Pd l)
def N3(f:Aa)(l:Int):Bool:=f.Params.all Gg&&f.Blocks.all (Iz l)&&Gg f.Ret
theorem uH{f:Aa}(hf:OkF f){b:Ab}(hb:b∈f.Blocks){o:A6}(ho:o∈b.Ops):kD o:=by
 have h1:=hf.block b hb;have h2:=(blockB_iff.1 h1.may).2.1 o ho;simp only[mh,A9]at h2;exact⟨⟨(h1.imm o ho).1,(h1.imm o ho).2⟩,by have:=(listB_iff.1 h2.2).2;omega⟩
theorem qy:room=1099511627776:=rfl
theorem UK{β:Type}(n A C:Nat)(E:Nat->List β)(hE:∀ i,i<n->(E i).length<=C)(f:List β×Int->Option (LR (List β×Int) (List β)))
  (hn:∀(acc:List β) (i:Nat),i<n->acc.length<=A+i*C->f (acc,(i:Int))=some (.next (acc++E i,(i:Int)+1)))
  (hd:∀ acc:List β,f (acc,(n:Int))=some (.done acc)):∀(k i:Nat) (acc:List β),i+k=n->acc.length<=A+i*C->Af f (acc,(i:Int))=some (acc++(List.range' i k).flatMap E)
 | 0,i,acc,h,_=>by
  obtain rfl:i=n:=by omega
  rw[Am (hd acc)]
  simp
 | k+1,i,acc,h,hA=>by
  have hi:i<n:=by omega
  have h2:acc.length+C<=A+(i+1)*C:=by rw[Ff];omega
  rw[Ap (hn acc i hi hA),show(i+1)=((i+1:Nat):Int) by omega,UK n A C E hE f hn hd k _ _ (by omega) (by grind),CK,VS,KT]
theorem J9{β:Type}(C:Nat)(E:Nat->List β):∀ l:List Nat,(∀ i∈l,(E i).length<=C)->(l.flatMap E).length<=l.length*C
 | [],_=>by simp
 | a::l,h=>by
  have h1:=h a (by simp);have h2:=J9 C E l (λi hi=>h i (by simp[hi]));rw[VS,G7,AA,Ff];omega
def Pe(l:List M3)(v:Int):Int:=match l.findIdx? (λd=>d.V==v) with|some i=>(i:Int)|none=>-1
def Oo(o:A6):Int×Int:=bif Iu o then HE o.Kind o.Bits o.Lanes else(0,0)
def Jf(o:A6):List (Int×Int):=bif Iu o then DW o else[]
def Rd(f:Aa):List M3:=(List.range f.Params.length).flatMap λ(i:Nat)=>[⟨(i:Int)+1,-1,0,(f.Params.getD i 0,1)⟩]
def ET(b:Ab)(i:Nat):List M3:=(List.range b.Phis.length).flatMap λ(k:Nat)=>[⟨(b.Phis.getD k default).Dst,i,-1,((b.Phis.getD k default).Bits,1)⟩]
def NV(b:Ab)(i:Nat):List M3:=(List.range b.Ops.length).flatMap λ(k:Nat)=>bif decide (0<(Oo (b.Ops.getD k default)).1) then[⟨(b.Ops.getD k default).Dst,i,k,Oo (b.Ops.getD k default)⟩] else[]
def T8(b:Ab)(i:Nat):List M3:=ET b i++NV b i
def D6(f:Aa):List M3:=Rd f++(List.range f.Blocks.length).flatMap λi=>T8 (f.Blocks.getD i default) i
theorem TU(f:Aa):(Rd f).length=f.Params.length:=by
 have h:∀ l:List Nat,(l.map λ_=>1).sum=l.length:=λl=>by induction l with|nil=>rfl|cons a l ih=>simp[ih];omega
 simp[Rd, h]
def R5(p:Bb):List Xo:=(List.range p.Args.length).flatMap λ(j:Nat)=>[⟨p.Args.getD j 0,p.From.getD j 0,1000,(p.Bits,1)⟩]
def S4(b:Ab):List Xo:=(List.range b.Phis.length).flatMap λ(k:Nat)=>R5 (b.Phis.getD k default)
def Qw(o:A6)(i k:Nat):List Xo:=(List.range (Jf o).length).flatMap λ(j:Nat)=>[⟨o.Args.getD j 0,i,k,(Jf o).getD j (0,0)⟩]
def DX(b:Ab)(i:Nat):List Xo:=(List.range b.Ops.length).flatMap λ(k:Nat)=>Qw (b.Ops.getD k default) i k
def V5(f:Aa)(b:Ab)(i:Nat):List Xo:=(bif b.End.Kind==0 then[⟨b.End.Arg,i,1000,(f.Ret,1)⟩] else[])++(bif b.End.Kind==2 then[⟨b.End.Arg,i,1000,(1,1)⟩] else[])
def KR(f:Aa)(b:Ab)(i:Nat):List Xo:=S4 b++DX b i++V5 f b i
def Gi(f:Aa):List Xo:=(List.range f.Blocks.length).flatMap λ(i:Nat)=>KR f (f.Blocks.getD i default) i
theorem QD{o:A6}(h:o.Args.length<=64):(Jf o).length<=64/\(Jf o).length<=o.Args.length:=by
 unfold Jf
 cases hm:Iu o with
 | false=>simp
 | true=>
  simp only[Aj]
  have :=by
   simp only[Iu,A9]at hm;exact hm.1.2.2
  have h2 :=by simpa using this
  have h3:(DW o).length=o.Args.length:=by rw[DW,Ky,Zy,<- h2,G1]
  omega
theorem me{f:Aa}(hf:OkF f){b:Ab}(hb:b∈f.Blocks){p:Bb}(hp:p∈b.Phis):p.From.length<=64/\p.Args.length<=64:=by
 have:=(blockB_iff.1 (hf.block b hb).may).1 p hp;simp only[TC,A9]at this;exact⟨(listB_iff.1 this.1.2).2,(listB_iff.1 this.2).2⟩
theorem gi{f:Aa}(hf:OkF f){b:Ab}(hb:b∈f.Blocks){o:A6}(ho:o∈b.Ops):o.Args.length<=64:=by
 have:=(blockB_iff.1 (hf.block b hb).may).2.1 o ho;simp only[mh,A9]at this;exact(listB_iff.1 this.2).2
theorem YD(p:Bb):(R5 p).length<=p.Args.length:=by
 have:=J9 1 (λj=>[(⟨p.Args.getD j 0,p.From.getD j 0,1000,(p.Bits,1)⟩:Xo)]) (List.range p.Args.length) (λ_ _=>zzL5 _)
 simpa [R5] using this
theorem cf(o:A6)(i k:Nat):(Qw o i k).length<=(Jf o).length:=by
 have:=J9 1 (λj=>[(⟨o.Args.getD j 0,i,k,(Jf o).getD j (0,0)⟩:Xo)]) (List.range (Jf o).length) (λ_ _=>zzL5 _)
 simpa [Qw] using this
theorem cg{f:Aa}(hf:OkF f){b:Ab}(hb:b∈f.Blocks):(S4 b).length<=32768:=by
 have:=J9 64 (λk=>R5 (b.Phis.getD k default)) (List.range _) (λk hk=>by
  have h1:=YD (b.Phis.getD k default);have h2:=(me hf hb (Ar (d:=default) (by simpa using hk))).2
  omega)
 have h3:=(hf.block b hb).phis;rw[Zy]at this;rw[S4];omega
theorem ee{f:Aa}(hf:OkF f){b:Ab}(hb:b∈f.Blocks)(i:Nat):(DX b i).length<=32768:=by
 have:=J9 64 (λk=>Qw (b.Ops.getD k default) i k) (List.range _) (λk hk=>by
  have h1:=cf (b.Ops.getD k default) i k;have h2:=(QD (gi hf hb (Ar (d:=default) (by simpa using hk)))).1
  omega)
 have h3:=(hf.block b hb).ops;rw[Zy]at this;rw[DX];omega
theorem cd(f:Aa)(b:Ab)(i:Nat):(V5 f b i).length<=2:=by
 unfold V5
 cases b.End.Kind==0<;>cases b.End.Kind==2<;>simp
theorem jq{f:Aa}(hf:OkF f){i:Nat}(hi:i<f.Blocks.length):(KR f (f.Blocks.getD i default) i).length<=70000:=by
 have hmem:=Ar (d:=default) hi;have h1:=cg hf hmem;have h2:=ee hf hmem i;have h3:=cd f (f.Blocks.getD i default) i;rw[KR,G7,G7];omega
theorem VM{f:Aa}(hf:OkF f):(Gi f).length<=4480000:=by
 have h1:=J9 _ _ (List.range _) (λi hi=>jq hf (by simpa using hi));have h4:=hf.blocks;rw[Zy]at h1;rw[Gi];omega
def qn(f:Aa):Prop:=∀ b∈f.Blocks,∀ p∈b.Phis,p.Args.length<=p.From.length
def qe(n:Nat)(l:List Int)(i:Nat):Bool:=decide ((if i=0 then(-1:Int) else l.getD (i-1) 0)<l.getD i 0)&&(decide (0<=l.getD i 0)&&decide (l.getD i 0<n))
def oO(n:Nat)(l:List Int):Bool:=(List.range l.length).all (qe n l)
def Ob(L:List (List Int)):Bool:=decide (1<=L.length)&&decide (L.length<=64)&&(List.range L.length).all λi=>oO L.length (L.getD i [])
def EZ(L:List (List Int))(k i:Nat):Bool:=(L.getD k []).contains (i:Int)
def Lu(L:List (List Int))(m i:Nat):List Int:=((List.range m).filter λk=>EZ L k i).map Int.ofNat
def Dl(L:List (List Int)):List (List Int):=(List.range L.length).map (Lu L L.length)
theorem Uj(a n:Int):Hl a n=some (decide (0<=a)&&decide (a<n)):=by
 unfold Hl
 cases decide (0<=a)<;>rfl
theorem UM(n:Nat):Jg (n:Int)=some (decide (1<=n)&&decide (n<=64)):=by
 unfold Jg
 have h1:decide ((1:Int)<=n)=decide (1<=n):=by grind
 have h2:decide (n<=(64:Int))=decide (n<=64):=by grind
 rw[h1,h2]
 cases decide (1<=n)<;>rfl
theorem QC(L:List (List Int))(i:Nat)(hl:(L.getD i []).length<4611686018427387904) :
  Af (Fh L (i:Int)) ((-1:Int),(0:Int))=some (bif oO L.length (L.getD i []) then .inl () else .inr false):=by
 refine Qz (Fh L i) (λj=>((if j=0 then -1 else(L.getD i []).getD (j-1) 0),(j:Nat))) _ _ _ _ (λj hj hp=>?_) (λj hj hp=>?_) ?_
 ·unfold qe at hp;simp only[A9,Gj]at hp;obtain⟨h1,h2,h3⟩:=hp;unfold Fh;simp only[A2,Er hj, Uj];rw[Ah (M7 hj)]
  have e1:decide ((L.getD i []).getD j 0<=(if j=0 then -1 else(L.getD i []).getD (j-1) 0))=false:=by simpa using h1
  simp only[e1,H8 h2,H8 h3,     J1];rw[w1 (show j<4611686018427387904 by omega)]
  simp
 ·unfold Fh;simp only[A2,Er hj, Uj];rw[Ah (M7 hj)]
  cases h1:decide ((L.getD i []).getD j 0<=(if j=0 then -1 else(L.getD i []).getD _ 0)) with
  | true=>grind
  | false=>
   have h1':decide ((if j=0 then -1 else(L.getD i []).getD (j-1) 0)<(L.getD i []).getD j 0)=true:=by simpa using h1
   unfold qe at hp;rw[h1',Kz]at hp;simp only[Zz,Aj,Bi,A1,hp,Qg]
 ·unfold Fh;simp only[A2,Ir,Bi]
def Fits(L:List (List Int)):Prop:=L.length<4611686018427387904/\∀ l∈L,l.length<4611686018427387904
theorem Fits.at{L:List (List Int)}(h:Fits L)(i:Nat):(L.getD i []).length<4611686018427387904:=by
 by_cases hi:i<L.length
 ·exact h.2 _ (Ar hi)
 ·grind
theorem jR(L:List (List Int))(h:Fits L):Mf L=some (Ob L):=by
 unfold Mf;rw[UM,A1];unfold Ob
 cases hc:(decide (1<=L.length)&&decide (L.length<=64)) with
 | false=>rfl
 | true=>
  simp only[J1,Bi,Kz];have:=Qz (Cu L) (λj=>((j:Nat):Int)) (λi=>oO L.length (L.getD i [])) (.inl ()) (.inr false) L.length (λj hj hp=>?_) (λj hj hp=>?_) ?_
  ·rw[show Af (Cu L) (0:Int)=_ from this]
   cases(List.range L.length).all λi=>oO L.length (L.getD i [])<;>rfl
  ·show Cu L (j:Int)=_
   unfold Cu;simp only[Er hj,Aj];rw[Ah (M7 hj),QC L j (h.at j),hp];simp only[Aj,A1,w1 (show j<4611686018427387904 by have:=h.1;omega)]
  ·show Cu L (j:Int)=_
   unfold Cu;simp only[Er hj,Aj];rw[Ah (M7 hj),QC L j (h.at j),hp]
   rfl
  ·show Cu L _=_
   unfold Cu;simp only[Ir,Bi]
theorem Vn{α:Type}{n i:Nat}{g:Nat->α}{d:α}(h:i<n):((List.range n).map g).getD i d=g i:=by simp[ h]
theorem YB{α:Type}{n i:Nat}{g:Nat->α}{x:α}:((List.range n).map g).set i x=(List.range n).map λj=>if j=i then x else g j:=by
 apply List.ext_getElem?
 intro j;rw[List.getElem?_set]
 by_cases hj:j<n
 ·grind
 ·grind
theorem Ul{α:Type}{n:Nat}{g h:Nat->α}(H:∀ i,i<n->g i=h i):(List.range n).map g=(List.range n).map h:=YH λi hi=>H i (zzL77.1 hi)
theorem mayS_iff{L:List (List Int)}:Ob L=true↔1<=L.length/\L.length<=64/\∀ i,i<L.length->oO L.length (L.getD i [])=true:=by
 unfold Ob;rw[A9,A9,all_range];simp only[Gj];exact⟨λ⟨⟨a,b⟩,c⟩=>⟨a,b,c⟩,λ⟨a,b,c⟩=>⟨⟨a,b⟩,c⟩⟩
theorem okL_iff{n:Nat}{l:List Int}:oO n l=true↔∀ i,i<l.length->(0<=l.getD i 0/\l.getD i 0<n)/\(0<i->l.getD (i-1) 0<l.getD i 0):=by
 unfold oO;rw[all_range];unfold qe;simp only[A9,Gj]
 constructor
 ·grind
 ·intro h i hi;obtain⟨⟨h2,h3⟩,h1⟩:=h i hi
  by_cases hz:i=0
  · omega
  ·grind
section
variable {n:Nat} {l:List Int} (h:oO n l=true)
include h
theorem HT{i:Nat}(hi:i<l.length):0<=l.getD i 0/\l.getD i 0<n:=(okL_iff.1 h i hi).1
theorem mY{i j:Nat}(hij:i<j)(hj:j<l.length):l.getD i 0<l.getD j 0:=by
 induction j with
 | zero=>omega
 | succ j ih=>
  have h1:=(okL_iff.1 h _ hj).2 (by omega)
  by_cases he:i=j
  ·rw[he];exact h1
  ·grind
theorem t8{i:Nat}(hi:i<l.length):(i:Int)<=l.getD i 0:=by
 induction i with
 | zero=>exact(HT h hi).1
 | succ i ih=>
  have:=mY h (show i<i+1 by omega) hi;omega
theorem MW:l.length<=n:=by
 by_cases hz:l.length=0
 ·omega
 ·have h1:=t8 h (show l.length-1<l.length by omega);have h2:=(HT h (show l.length-1<l.length by omega)).2;omega
theorem XJ{x:Int}(hx:x∈l):0<=x/\x<n:=by
 obtain⟨i,hi,rfl⟩:=Lm hx;have:=HT h hi;rwa[Ai _ _ _ hi]at this
end
theorem uA{n:Nat}{l:List Int}(h1:∀ x∈l,0<=x/\x<n)(h2:l.Pairwise (·<·)):oO n l=true:=by
 rw[okL_iff];intro i hi;rw[Ai _ _ _ hi];refine⟨h1 _ (IQ hi),λhp=>?_⟩;rw[Ai _ _ _ (show i-1<l.length by omega)];exact(zzL86.1 h2) _ _ _ _ (by omega)
theorem HO{L:List (List Int)}(h:Ob L=true):L.length<=64/\∀ l∈L,l.length<=64:=by
 obtain⟨h1,h2,h3⟩:=mayS_iff.1 h;refine⟨h2,λl hl=>?_⟩;obtain⟨i,hi,rfl⟩:=Lm hl;have:=MW (h3 i hi);rw[Ai _ _ _ hi]at this;omega
theorem qD{L:List (List Int)}(h:L.length<=1000/\∀ l∈L,l.length<=1000):Fits L:=⟨by omega,λl hl=>by have:=h.2 l hl;omega⟩
theorem cH(L:List (List Int))(k i:Nat):Lu L (k+1) i=Lu L k i++(if EZ L k i=true then[(k:Int)] else[]):=by
 unfold Lu;rw[CL,YI];cases hg:EZ L k i<;>simp[hg]
theorem DR(L:List (List Int))(k i:Nat):(Lu L k i).length<=k:=by
 unfold Lu;have:=List.length_filter_le (λk=>EZ L k i) (List.range k)
 simpa using this
theorem UA{l:List Int}{j:Nat}(hj:j<l.length):l.take (j+1)=l.take j++[l.getD j 0]:=by
 simp_all
def Tf(L:List (List Int))(k j i:Nat):Bool:=((L.getD k []).take j).contains (i:Int)
def Lv(L:List (List Int))(k j:Nat):List (List Int):=(List.range L.length).map λi=>Lu L k i++(if Tf L k j i=true then[(k:Int)] else[])
theorem aw(L:List (List Int))(h:Ob L=true)(k j:Nat)(hk:k<L.length)(hj:j<(L.getD k []).length) :
  (Lv L k j).set ((L.getD k []).getD j 0).toNat ((Lv L k j).getD ((L.getD k []).getD j 0).toNat []++[(k:Int)])=Lv L k (j+1):=by
 obtain⟨h1,h2,h3⟩:=mayS_iff.1 h;have hok:=h3 k hk;obtain⟨a0,a1⟩:=HT hok hj;unfold Lv;rw[Vn (by omega),YB]
 apply Ul
 intro i hi
 have hnot:Tf L k j ((L.getD k []).getD j 0).toNat=false:=by
  unfold Tf;rw[M1 a0]
  cases hc:((L.getD k []).take j).contains _ with
  | false=>rfl
  | true=>
   rw[QV]at hc;obtain⟨m,hm,he⟩:=Lm hc
   have hm':m<j:=by simp at hm;omega
   rw[List.getElem_take]at he;have:=mY hok hm' hj;rw[Ai _ _ _ (show m<(L.getD k []).length by omega)]at this;omega
 by_cases hi2:i=((L.getD k []).getD j 0).toNat
 ·rw[ hnot]
  have:Tf L k (j+1) i=true:=by
   unfold Tf;rw[UA hj, hi2,M1 a0]
   simp
  rw[this,hi2]
  simp
 ·rw[if_neg hi2]
  have:Tf L k (j+1) i=Tf L k j i:=by
   unfold Tf;rw[UA hj,IR,QV,QV,zzL13]
   constructor
   ·grind
   ·exact .inl
  rw[this]
theorem bZ(L:List (List Int))(h:Ob L=true):Kj L=some (Dl L):=by
 obtain⟨h1,h2,h3⟩:=mayS_iff.1 h
 have hroom:(1000:Nat)<=room:=by decide
 unfold Kj;rw[Ah ⟨by omega,Int.le_refl _,by omega⟩,A2]
 have inner:∀ k,k<L.length->Af _ ((0:Int),Lv L k 0)=some (Lv L k (L.getD k []).length):=λk hk=>by
  have hok:=h3 k hk;refine FG (Jw L (k:Int)) (λj=>(((j:Nat):Int),Lv L k j)) _ (L.getD k []).length (λj hj=>?_) ?_
  ·obtain⟨a0,a1⟩:=HT hok hj
   have hlen:(Lv L k j).length=L.length:=by simp[Lv]
   have hl64:=MW hok;unfold Jw;simp only[A2,Er hj,Aj];have hb:Ay ((L.getD k []).getD j 0) (Lv L k j).length:=⟨a0,by rw[hlen];exact a1⟩
   have hrow:((Lv L k j).getD ((L.getD k []).getD j 0).toNat []).length<=k+1:=by
    unfold Lv;rw[Vn (by omega),G7];have:=DR L k ((L.getD k []).getD j 0).toNat
    split
    ·rw[QW];omega
    ·rw[List.length_nil];omega
   rw[Ah (M7 hj),Ah hb,Ah hb,Ah (by grind),Ah hb,aw L h k j hk hj,w1 (by omega)]
  ·unfold Jw;simp only[A2,Ir,Bi]
 have r0:∀ k,Lv L k 0=(List.range L.length).map (Lu L k):=λk=>by
  unfold Lv
  apply Ul
  intro i _;simp[Tf]
 have r1:∀ k,Lv L k (L.getD k []).length=(List.range L.length).map (Lu L (k+1)):=λk=>by
  unfold Lv
  apply Ul
  intro i _;rw[cH];unfold Tf EZ;rw[QP]
 have:Af (Ht L) ((0:Int),(List.range L.length).map (Lu L 0))=some (Dl L):=FG (Ht L) (λk=>(((k:Nat):Int),(List.range L.length).map (Lu L k))) (Dl L) L.length (λk hk=>?_) ?_
 ·have e0:(List.replicate L.length ([]:List Int))=(List.range L.length).map (Lu L 0):=by
   apply List.ext_getElem?
   intro i
   by_cases hi:i<L.length<;>simp[hi,List.getElem?_replicate,Lu]
  rw[e0,this];rfl
 ·unfold Ht;simp only[Er hk,Aj];rw[Ah (M7 hk),<- r0,inner k hk,r1,w1 (by omega)]
  rfl
 ·unfold Ht;simp only[Ir,Bi]
  rfl
theorem JX{α:Type}[DecidableEq α]{a b:List α}{d:α}(h:a.length=b.length):((List.range a.length).all λi=>decide (a.getD i d=b.getD i d))=decide (a=b):=by
 rw[IR,all_range,Gj]
 constructor
 ·intro hall
  apply QQ h
  intro i h1 h2;have:=QY (hall i h1);rwa[Ai _ _ _ h1,Ai _ _ _ h2]at this
 ·rintro rfl i _
  simp
theorem gY{a b:Nat}:(((a:Nat):Int)!=(b:Int))=decide (a≠b):=by
 grind
theorem mA{a b:Int}:(a !=b) = !decide (a=b):=by
 grind
theorem MV(a b:List Int)(hb:b.length<4611686018427387904):Dr a b=some (decide (a=b)):=by
 unfold Dr;rw[gY]
 by_cases hl:a.length=b.length
 ·rw[J0 (by simpa using hl)];have:Af (Dx a b) 0=_:=Qz _ (λj=>(j:Int)) (λi=>decide (a.getD i 0=b.getD i 0)) (.inl ()) (.inr false) a.length (λj hj hp=>?_) (λj hj hp=>?_) ?_
  ·rw[this,JX hl]
   cases decide (a=b)<;>rfl
  ·unfold Dx;simp only[A2,Er hj];rw[Ah (M7 hj),Ah (M7 (by omega)),mA,hp,w1 (by omega)]
   rfl
  ·unfold Dx;simp only[A2,Er hj];rw[Ah (M7 hj),Ah (M7 (by omega)),mA,hp]
   rfl
  ·unfold Dx;simp only[Ir,Bi]
 ·rw[H8 (by simpa using hl),Aj,J0 (λh=>hl (by rw[h]))]
theorem ba(a b:List (List Int))(hb:Fits b):Cv a b=some (decide (a=b)):=by
 unfold Cv;rw[gY]
 by_cases hl:a.length=b.length
 ·rw[J0 (by simpa using hl)];have hb1:=hb.1;have:Af _ (0:Int)=_:=Qz (Bv a b) (λj=>(j:Nat)) (λi=>decide (a.getD i []=b.getD i [])) (.inl ()) (.inr false) a.length (λj hj hp=>?_) (λj hj hp=>?_) ?_
  ·rw[this,JX hl]
   cases decide (a=b)<;>rfl
  ·unfold Bv;simp only[A2,Er hj];rw[Ah (M7 hj),Ah (M7 (by omega)),MV _ _ (hb.at j),hp,w1 (by omega)]
   rfl
  ·unfold Bv;simp only[A2,Er hj];rw[Ah (M7 hj),Ah (M7 (by omega)),MV _ _ (hb.at j),hp]
   rfl
  ·unfold Bv;simp only[Ir,Bi]
 ·rw[H8 (by simpa using hl),Aj,J0 (λh=>hl (by rw[h]))]
theorem O1(L:List (List Int)):(Dl L).length=L.length:=by simp[Dl]
theorem BB{L:List (List Int)}{i:Nat}(hi:i<L.length):(Dl L).getD i []=Lu L L.length i:=by unfold Dl;rw[Vn hi]
theorem Qs{L:List (List Int)}(h:Ob L=true):(Dl L).length<=64/\∀ l∈Dl L,l.length<=64:=by
 obtain⟨h1,_⟩:=HO h;refine⟨by rw[O1];exact h1,λl hl=>?_⟩;obtain⟨i,hi,rfl⟩:=zzL20.1 hl;have:=DR L L.length i;omega
theorem DV{L:List (List Int)}(h:L.length<=64/\∀ l∈L,l.length<=64):Fits L:=qD ⟨by omega,λl hl=>by have:=h.2 l hl;omega⟩
def HN(g:C5):Bool:=Ob g.Succ&&decide (g.Pred=Dl g.Succ)
theorem sC(g:C5)(h:Fits g.Succ):Su g=some (HN g):=by
 unfold Su HN;rw[jR _ h]
 cases hm:Ob _ with
 | false=>rfl
 | true=>
  simp only[Zz,Aj,bZ _ hm,A1,ba _ _ (DV (Qs hm)),Kz]
def EY(L:List (List Int)):C5:=⟨L,Dl L⟩
def g0:C5:=⟨[],[]⟩
theorem bc{L:List (List Int)}(h:Ob L=true):HN (EY L)=true:=by simp[HN,EY,h]
theorem lr{L:List (List Int)}(h:Ob L=true):Fits (EY L).Succ/\Fits (EY L).Pred:=⟨DV (HO h),DV (Qs h)⟩
noncomputable section
def upd(s:Nat->Bool)(y:Nat):Nat->Bool:=λz=>decide (z=y) || s z
theorem upd_true{s:Nat->Bool}{y z:Nat}:upd s y z=true↔z=y\/s z=true:=by simp[upd]
theorem upd_false{s:Nat->Bool}{y z:Nat}:upd s y z=false↔z≠y/\s z=false:=by simp[upd]
inductive VL (S:Nat->List Nat):(Nat->Bool)->List Nat->(Nat->Bool)->List Nat->Prop
 | nil (s:Nat->Bool):VL S s [] s []
 | skip {s s':Nat->Bool} {y:Nat} {l o:List Nat} (h:s y=true) (t:VL S s l s' o):VL S s (y::l) s' o
 | step {s s1 s2:Nat->Bool} {y:Nat} {l o1 o2:List Nat} (h:s y=false) (a:VL S (upd s y) (S y) s1 o1) (b:VL S s1 l s2 o2):VL S s (y::l) s2 (o1++y::o2)
inductive Rch (S:Nat->List Nat):Nat->Nat->Prop
 | refl (x:Nat):Rch S x x
 | head {x y z:Nat} (h:y∈S x) (t:Rch S y z):Rch S x z
theorem Rch.tail{S:Nat->List Nat}{x y z:Nat}(h:Rch S x y)(hz:z∈S y):Rch S x z:=by
 induction h with
 | refl x=>exact .head hz (.refl _)
 | head h _ ih=>exact .head h (ih hz)
theorem Rch.trans{S:Nat->List Nat}{x y z:Nat}(h:Rch S x y)(k:Rch S y z):Rch S x z:=by
 induction h with
 | refl x=>exact k
 | head h _ ih=>exact .head h (ih k)
variable {S:Nat->List Nat} {s s':Nat->Bool} {l o:List Nat}
theorem VL.seen(h:VL S s l s' o)(z:Nat):s' z=true↔s z=true\/z∈o:=by
 induction h with
 | nil s=>simp
 | skip h _ ih=>exact ih
 | @step s s1 s2 y l o1 o2 h a b iha ihb=>
  rw[ihb,iha,upd_true]
  constructor
  ·grind
  ·grind
theorem VL.fresh(h:VL S s l s' o){z:Nat}(hz:z∈o):s z=false:=by
 induction h with
 | nil s=>cases hz
 | skip h _ ih=>exact ih hz
 | @step s s1 s2 y l o1 o2 h a b iha ihb=>
  rcases zzL13.1 hz with h1|h1
  ·exact(upd_false.1 (iha h1)).2
  ·rcases zzL26.1 h1 with rfl|h1
   ·exact h
   ·have:=ihb h1
    cases hs:s z with
    | false=>rfl
    | true=>rw[(a.seen z).2 (.inl (upd_true.2 (.inr hs)))]at this;cases this
theorem VL.nodup(h:VL S s l s' o):o.Nodup:=by
 induction h with
 | nil s=>exact List.nodup_nil
 | skip h _ ih=>exact ih
 | @step s s1 s2 y l o1 o2 h a b iha ihb=>
  rw[List.nodup_append];refine⟨iha,zzL95.2 ⟨λhy=>?_,ihb⟩,λu hu v hv=>?_⟩
  ·have:=b.fresh hy;rw[(a.seen y).2 (.inl (upd_true.2 (.inl rfl)))]at this
   cases this
  ·rintro rfl;rcases zzL26.1 hv with rfl|hv
   ·have:=a.fresh hu;rw[upd_true.2 (.inl rfl)]at this
    cases this
   ·have:=b.fresh hv;rw[(a.seen u).2 (.inr hu)]at this
    cases this
theorem VL.rch(h:VL S s l s' o){z:Nat}(hz:z∈o):∃ y∈l,Rch S y z:=by
 induction h with
 | nil s=>cases hz
 | skip h _ ih=>grind
 | @step s s1 s2 y l o1 o2 h a b iha ihb=>
  rcases zzL13.1 hz with h1|h1
  ·obtain⟨u,hu,hr⟩:=iha h1;exact⟨y,zzL42 ..,.head hu hr⟩
  ·rcases zzL26.1 h1 with rfl|h1
   ·exact⟨z,zzL42 ..,.refl z⟩
   ·grind
theorem VL.closed(h:VL S s l s' o):(∀ y∈l,s' y=true)/\∀ z∈o,∀ y∈S z,s' y=true:=by
 induction h with
 | nil s=>grind
 | @skip s s' y l o h t ih=>
  refine⟨λu hu=>?_,ih.2⟩;rcases zzL26.1 hu with rfl|hu
  ·exact(t.seen u).2 (.inl h)
  ·exact ih.1 u hu
 | @step s s1 s2 y l o1 o2 h a b iha ihb=>
  refine⟨λu hu=>?_,λz hz u hu=>?_⟩
  ·rcases zzL26.1 hu with rfl|hu
   ·exact(b.seen u).2 (.inl ((a.seen u).2 (.inl (upd_true.2 (.inl rfl)))))
   ·exact ihb.1 u hu
  ·rcases zzL13.1 hz with h1|h1
   ·exact(b.seen u).2 (.inl (iha.2 z h1 u hu))
   ·rcases zzL26.1 h1 with rfl|h1
    ·exact(b.seen u).2 (.inl (iha.1 u hu))
    ·exact ihb.2 z h1 u hu
theorem VL.above(h:VL S s l s' o)(hf:∀ z,∀ y∈S z,z<y){b:Nat}(hb:∀ y∈l,b<y):∀ z∈o,b<z:=by
 induction h generalizing b with
 | nil s=>intro z hz;cases hz
 | skip h _ ih=>exact ih (λy hy=>hb y (Jz _ hy))
 | @step s s1 s2 y l o1 o2 h a c iha ihb=>
  intro z hz;have hy:=hb y (zzL42 ..);rcases zzL13.1 hz with h1|h1
  ·exact iha (λu hu=>Nat.lt_trans hy (hf y u hu)) z h1
  ·rcases zzL26.1 h1 with rfl|h1
   ·exact hy
   ·exact ihb (λu hu=>hb u (Jz _ hu)) z h1
theorem VL.ahead(h:VL S s l s' o)(hf:∀ z,∀ y∈S z,z<y):∀ z∈o,∀ y∈S z,s y=true\/∃ A B,o=A++z::B/\y∈A:=by
 induction h with
 | nil s=>intro z hz;cases hz
 | skip h _ ih=>exact ih
 | @step s s1 s2 y l o1 o2 h a c iha ihb=>
  intro z hz u hu;rcases zzL13.1 hz with h1|h1
  ·have hzy :=a.above hf (λv hv=>hf y v hv) z h1;have hzu:=hf z u hu;rcases iha z h1 u hu with h2|⟨A,B,rfl,hA⟩
   ·rcases upd_true.1 h2 with rfl|h2
    ·omega
    ·exact .inl h2
   ·grind
  ·rcases zzL26.1 h1 with rfl|h1z
   ·have hzu:=hf z u hu;rcases(a.seen u).1 (a.closed.1 u hu) with h2|h2
    ·rcases upd_true.1 h2 with rfl|h2
     ·omega
     ·exact .inl h2
    ·grind
   ·rcases ihb z h1z u hu with h2|⟨A,B,rfl,hA⟩
    ·rcases(a.seen u).1 h2 with h3|h3
     ·rcases upd_true.1 h3 with rfl|h3
      ·obtain⟨P,Q,rfl⟩:=List.append_of_mem h1z;exact .inr ⟨o1++u::P,Q,by simp,by simp⟩
      ·exact .inl h3
     ·obtain⟨P,Q,rfl⟩:=List.append_of_mem h1z;exact .inr ⟨o1++y::P,Q,by simp,by simp[h3]⟩
    ·grind
def ar(n:Nat)(s:Nat->Bool):Nat:=((List.range n).filter λz=>!s z).length
theorem AP{n:Nat}{s:Nat->Bool}{y:Nat}(hy:y<n)(h:s y=false):ar n (upd s y)+1=ar n s:=by
 unfold ar
 induction n with
 | zero=>omega
 | succ n ih=>
  rw[CL,YI,YI,G7,G7]
  by_cases hyn:y=n
  ·subst hyn
   have e:(List.range y).filter (λz=>!upd s y z)=(List.range y).filter (λz=>!s z):=by
    apply List.filter_congr
    intro z hz;have:=zzL77.1 hz;simp[upd,show z≠y by omega]
   rw[e];simp[upd,h]
  ·have e:([n].filter λz=>!upd s y z).length=([n].filter λz=>!s z).length:=by
    simp only[List.filter_cons, upd];simp[M2 hyn]
   omega
theorem au{n:Nat}{s s':Nat->Bool}(h:∀ z,s z=true->s' z=true):ar n s'<=ar n s:=by
 apply List.Sublist.length_le
 have:(List.range n).filter (λz=>!s' z)=((List.range n).filter λz=>!s z).filter λz=>!s' z:=by
  rw[List.filter_filter]
  apply List.filter_congr
  intro z _
  cases hs:s z with
  | false=>simp
  | true=>simp[h z hs]
 rw[this];exact List.filter_sublist
theorem VL.exist{n:Nat}(hS:∀ z,z<n->∀ y∈S z,y<n):∀(m:Nat) (s:Nat->Bool),ar n s<=m->∀ l:List Nat,(∀ y∈l,y<n)->∃ s' o,VL S s l s' o:=by
 intro m
 induction m with
 | zero=>
  intro s hm l
  induction l with
  | nil=>intro _;exact⟨s,[],.nil s⟩
  | cons y l ih=>
   intro hl;obtain⟨s',o,h⟩:=ih (λz hz=>hl z (Jz _ hz))
   cases hy:s y with
   | true=>exact⟨s',o,.skip hy h⟩
   | false=>have:=AP (hl y (zzL42 ..)) hy;omega
 | succ m ih=>
  intro s hm l
  induction l generalizing s with
  | nil=>intro _;exact⟨s,[],.nil s⟩
  | cons y l ihl=>
   intro hl
   cases hy:s y with
   | true=>
    obtain⟨s',o,h⟩:=ihl s hm (λz hz=>hl z (Jz _ hz));exact⟨s',o,.skip hy h⟩
   | false=>
    have hyn:=hl y (zzL42 ..);have:=AP hyn hy;obtain⟨s1,o1,h1⟩:=ih (upd s y) (by omega) _ (hS y hyn);have h2:ar n s1<=ar n s:=au λz hz=>(h1.seen z).2 (.inl (upd_true.2 (.inr hz)));obtain⟨s2,o2,h3⟩:=ihl s1 (by omega) (λz hz=>hl z (Jz _ hz));exact⟨s2,_,.step hy h1 h3⟩
def one(r:Nat):Nat->Bool:=λz=>decide (z=r)
def Ord(S:Nat->List Nat)(r:Nat)(L:List Nat):Prop:=∃ s' o,VL S (one r) (S r) s' o/\L=r::o.reverse
theorem Ord.exist{n:Nat}(hS:∀ z,z<n->∀ y∈S z,y<n){r:Nat}(hr:r<n):∃ L,Ord S r L:=by
 obtain⟨s',o,h⟩:=VL.exist hS _ _ (zzL5 _) _ (hS r hr);exact⟨_,s',o,h,rfl⟩
theorem Ord.mem{r:Nat}{L:List Nat}(h:Ord S r L)(z:Nat):z∈L↔Rch S r z:=by
 obtain⟨s',o,h,rfl⟩:=h
 have hs:∀ z,s' z=true↔z=r\/z∈o:=λz=>by rw[h.seen];simp[one]
 have hc:∀ x,s' x=true->∀ y∈S x,s' y=true:=λx hx y hy=>by
  rcases(hs x).1 hx with rfl|hx
  ·exact h.closed.1 y hy
  ·exact h.closed.2 x hx y hy
 simp only[zzL26,List.mem_reverse];rw[<- hs z]
 constructor
 ·intro hz;rcases(hs z).1 hz with rfl|hz
  ·exact .refl _
  ·obtain⟨y,hy,hr⟩:=h.rch hz;exact .head hy hr
 ·intro hr
  have key:∀ x z,Rch S x z->s' x=true->s' z=true:=by
   intro x z hxz
   induction hxz with
   | refl x=>exact id
   | head hy _ ih=>grind
  exact key r z hr ((hs r).2 (.inl rfl))
theorem Ord.nodup{r:Nat}{L:List Nat}(h:Ord S r L):L.Nodup:=by
 obtain⟨s',o,h,rfl⟩:=h;refine zzL95.2 ⟨λhr=>?_,(List.reverse_perm o).nodup_iff.2 h.nodup⟩;have:=h.fresh (List.mem_reverse.1 hr);simp[one]at this
theorem Ord.fwd{r:Nat}{L:List Nat}(h:Ord S r L)(hf:∀ z,∀ y∈S z,z<y):∀ z∈L,∀ y∈S z,∃ A B,L=A++z::B/\y∈B:=by
 obtain⟨s',o,h,rfl⟩:=h;intro z hz y hy;have hzy:=hf z y hy;rcases zzL26.1 hz with rfl|hz
 ·refine⟨[],o.reverse,rfl,?_⟩;rcases(h.seen y).1 (h.closed.1 y hy) with h1|h1
  ·simp[one]at h1;omega
  ·grind
 ·have hz:=List.mem_reverse.1 hz;have hrz :=h.above hf (λv hv=>hf r v hv) z hz;rcases h.ahead hf z hz y hy with h1|⟨A,B,rfl,hA⟩
  ·simp[one]at h1;omega
  ·grind
end
end
end Go.Proofs.YtlnbjgmjaioagaaGreat
